import PyProof.Rows.All
import Wide.All
import OpenK.AllK
import Wide.FinOn
import Lean
import PyProof.EqAt
import PyProof.EqKinds
import PyProof.TupleCall
import PyProof.DictRoadsH
import PyProof.DictKinds
import PyProof.DictIter
import PyProof.ListMulAny
import PyProof.StrLawsTight
import KE.KIntText
import PyProof.Rows.StrItems
import PyProof.StrWalks
import KE.KSortTup
import KE.KLam
import PyProof.ExcInit
import PyProof.ExcClass3
import PyProof.InstStoreFacts
import PyProof.ExcBaseAll.ValueError
import PyProof.ExcArgsOwn
import PyProof.ExcAttrAll.ValueError
import PyProof.Rows.RuleN_isinstance
import PyProof.AutoSeq1
import KE.KRevIter
import PyProof.Rows.FactsT2
import PyProof.DictTruth
import PyProof.DictWalks
import PySem.Challenge.RW_windround_k31_whole_least_mends
set_option compiler.extract_closed false
set_option bootstrap.genMatcherCode false
local macro_rules | `(tactic| omega) => `(tactic| first | assumption | lia)
set_option Elab.async false
set_option linter.all false
set_option maxRecDepth 100000
noncomputable section
open List renaming range->di,map->eP,Nodup->eT,zip->fy,filter->iy,toArray->lA,length->mf,any_cons->rj,take_length->sa,mem_flatMap->sb,length_eq_zero_iff->sd,flatMap_eq_nil_iff->se,map_nil->sj,take_append_drop->ti,mem_iff_getElem?->t7,getElem?_zipWith->vb,getElem?_eq_none->vl,pairwise_append->vu,drop_zero->v2,mem_map_of_mem->v6,length_pos_iff->wi,filterMap_cons->wl,mem_replicate->x3,lookup_append->y2,getElem?_take->A2,zipWith->B2,ext_getElem?->C1,eraseIdxIfInBounds_toArray->Hs,nodup_range->Iv,cons_append->I7,lookup->Le,eq_nil_of_length_eq_zero->Lf,getLastD_eq_getLast?->Lo,getLast?_eq_getElem?->Lp,getElem?_take_of_lt->Lu,sum_replicate_nat->Lw,map_set->Lx,length_pos_of_mem->Ly,set_getElem_self->LD,dropLast_eq_take->LF,getElem?_append->LH,dropLast_concat->LI,length_zipWith->LO,length_flatten->LP,length_flatMap->LQ,flatMap_append->LR,zip_map_right->LY,zip_cons_cons->LZ,mem_filterMap->L0,getElem_range->L1,getElem?_drop->L2,getLast?_map->L6,getElem_take->L7,getElem?_inj->L8,flatMap_cons->L9,filter_congr->Ma,zipIdx_cons->Mg,perm_middle->Mh,mem_flatten->Mi,map_snd_zip->Mj,any_eq_true->Mk,zipIdx_nil->Mn,map_const'->Mo,filter_map->Mp,set_comm->Mv,map_take->Mw,map_drop->Mx,all_cons->My,set_set->MC
open PySem renaming boot_len->dt,mem_of_lookup->hX,call->wx
open Option.some renaming inj->du
open PySem.Obj renaming mapSeq->dV,data_mapDictKeys->LM,isFreed_of_dict->LW,data_mapFields->L4,data_mapDict->Ml
open Or renaming inr->eb,inl->o0
open PySem.Value renaming none->ec,ref->eE,int->ip,bool->o3,type->LL,str->L3,isInt->MB
open PySem.NameKind renaming free->ed,cell->ls
open PySem.F renaming plainAttrs_list->ei,type_list_append->gs,slot_list_append->gt,args_tuple_add_2->pu,entry_tuple_add->pQ,slot_tuple_add->ry,type_list_pop->sg,slot_list_pop->sh,type_list_extend->Lg,slot_list_extend->Lh
open PySem.Heap.SameBut renaming update->eo
open PySem.PyData renaming int->eC,list->fI,canLay0->gV,canLayAll0->hL,eqv->hZ,depthAll->mA,eqvAll->pa,tuple->r0,depth->r4,bool->Mu
open PySem.Builtin.SmallTypes renaming nextOf->eH,ownedTupleIsFree->h5,ownedTupleHandOut->pk
open List.Perm renaming append_left->fo,nodup_iff->s0,append_right->Lk,eq_nil->LG,cons->LS
open Array renaming getD_eq_getD_getElem?->fx,length_toList->lk,forIn_toList->nl,getElem?_toList->tf,toList_append->LK,toList_inj->Mc,toList->MA
open PySem.SeqAt renaming canLay_of_shaped->ge,shaped->oo,depth_of_shaped->Lv
open PySem.Builtin.Tuple renaming tupleHashOf->gf,tupleExact->l0,tupleItemsOf->w4
open PyProof.Rows renaming boot_list->hI,callWith_type1->lp,boot_tuple->mo,slot_tuple_getitem->m6,boot_max->nk,boot_all->px,boot_bool->H7,boot_int->Lc
open Nat renaming cast->hY,le_of_lt->sn,mul_le_mul_right->v3,min_self->G4,add_zero->Hh,min_eq_right->Ld,mod_add_mod->Lj,mul_le_mul->Ln,sub_zero->Lz,pow_succ->LA,lt_or_ge->LB,le_of_eq->LC,one_mul->LN,pow_le_pow_left->LX,mod_eq_sub_mod->L5,lt_trichotomy->Me,le_of_succ_le->Mf,le_of_not_lt->Mm,min_le_left->Mq
open Bool renaming noConfusion->ih,not_false->Mr,false_and->Ms,true_and->Mz
open PySem.W renaming fnOf->i3,kia_one->mu,kitOne->nN,keepIn->nT,codeIn->ol,mg_of->oB,cellsFrom_some->ro,OpenLaw->rz,methodObj->w1,Ground->Lb,WalkO->Md
open Prod.mk renaming inj->i4,injEq->Li
open PySem.Str renaming ofString->lc
open PySem.Builtin.Slice renaming slicePlaces->lB,sliceAdjust->pc,sliceApplied->xn
open List.Sublist renaming append_left->me
open PySem.Heap renaming SameBut->oA,get?_push_ne->p0,size_update->La,ExtBut->LJ,get?_update_ne->LU
open PySem.Builtin.List renaming listTooLong->ph
open Option renaming getD_some->rg,getD_none->LV
open List.cons renaming injEq->ri
open PySem.Builtin.Builtins renaming bindParams->vr
open Sum renaming inr->Dc,inl->Dd
open Nat.succ renaming inj->Ll
open List.Pairwise renaming nil->Lm
open Int renaming fdiv_eq_ediv_of_nonneg->Lq,natCast_nonneg->Mb
open PySem.SeqAt.EqAt renaming str_int->Lr,int_str->Ls
open PySem.Challenge renaming pw_windround_k31_whole_least_mends->Mt
open PySem.Heap.IsSliceOf renaming new->MD
open PySem renaming PyData->ab,Addr->al,Value->ap,Shared->av,Expr->ba,Heap->bb,Str->bt
open PySem.W renaming Frag->cc,nsIn->cv
open PySem renaming wpAny_bind->jj,wpAny_pure->j0,starEach->j1,FuncData->j3,wpAny->j4,mainGlobals->ke,model->kf,Program->kq,compareOp->ky,World->k0,bindArgs->k3,assignEach->qb,backTo->qs,sizeLine_eq->qT,wpAny_mono->q5,wpAny_truthy_bool->zb,foldedSetIterable->zd,wpAny_holding->ze,cellsFrom->zf,wpAny_seqItems->zg,wpAny_field->zh,wpAny_call_entry->zv,attributeBase->z3,wpAny_newObj_type->z4,wpAny_callSpecial?_slot->z5,cLine->J4,Scope->J5,bootBuiltins->J6,wpAny_setField_rec->J8,closureFor->J9,wpAny_passesOwn->Ka,binaryOp->Kb,wpAny_pyIter_list->Kc,holding->Kd,Keyword->Ke,keywordEach->Kf,builtinsNs->Kg,assign->Kh,intKind->Kj,wpAny_rule->Kk,wpAny_Call_Name_kw->Kl,wpAny_letGo->Km,swapsWith->Kn,codeAny->Ko,argBest->Kp,IsPair->Kq,wpAny_isInstance->Kr,Arguments->Ks,plainId_quiet->Kt,behindInMarks->Kv,sliceBounds->Kw,wpAny_specialOf->Kx,standAt->Kz,sysModules->KB,rawInt->KC,defaultsOf->KD,backToKw->KF,wpAny_standAt->KH,swapsWithSole->KI,swappedStores->KJ,wpAny_forIn_list->KL,pushCells->KM,codeAny_mono->KQ,wpAny_execs_nil->KT,pushCells_keeps->KU,letOwnedTupleGo->KW,codeAny_builtin->KY,isSubtype_tuple_tuple->KZ,wpAny_updateSeq_pair->K0,isTrue->K2,IsZip->K3,codeAmong->K4,BindsTo->K5,wpAny_onRaise->K6,wpAny_newList->K7,atKey->K9,wpAny_tupleItemsOf->Qa,pyNext->Qb,call_meets->Qd,hashInt->Qf,concat_meets->Qg,callerA->Qh,wpAny_execs_cons->Qi,wpAny_eqBool_int->Qj,noFill_tuple_add->Qk,IsPart->Ql,wpAny_updateSeq->Qm,setItem->Qn,wpAny_tryCatch->Qo,wpAny_newTuple->Qp,wpAny_newFunctionEnv_cells->Qq,wpAny_call->Qr,truthy->Qs,reduceHash->Qt,newFunctionEnv->Qu,PlainAttrs->Qv,Operator->Qw,wpAny_comprehension_free->Qx,wpAny_attempt->Qy,seq_tuple_add->QA,seqItems?->QB,seqIndex?->QC,lastMarks->QD,field->QF,eqIsQuiet->QG,bindL->QH,bindC->QI,DictEntry->QJ,tupleKeyHash->QK,getItem->QO
open PyProof.Rows renaming seqObj->kw,listUpdate_at->Ki,get?_update_seq->Ky,envOfC->KK,AllBare->KS,seqEpoch_at->K1,subscriptTail->Qz,subscriptTail_builtinR->QL,listItems_at->QM,IntsAre->QP
open PySem.W renaming kas_sort->J7,kas_rev->Ku,kas_place->KA,kas_asc->KG,kas_desc->KN,kla_obj->KO,kla_fn->Qc,kas_tail3->QE,kas_descPart->QN
open PySem.MeetsSeq3 renaming plain_eq_loop->K8
open List renaming mem_append_right->HQ,getElem?_eq_getElem->HR,length_map->HS,getD_eq_getElem?_getD->HU,mem_append_left->HV,mem_singleton->HW,mem_append->HX,nodup_append->HY,mem_cons_of_mem->HZ,mem_cons_self->H9,getElem?_eq_some_iff->Ib,mem_cons->Ic,mem_map->Ig,size_toArray->Ii,getElem_of_mem->Il,mem_range->Io,getElem?_set_ne->Ip,nodup_cons->Ir,getElem?_append_left->Iu,mem_filter->Iw,length_append->Ix,getElem?_set_self->Iy,getElem_mem->IB,length_range->IC,map_cons->ID,map_append->IE,mem_of_getElem?->IG,getElem?_map->IH,length_set->II,not_mem_nil->IJ,map_map->IK,length_cons->IL,append_nil->IM,length_filter_le->IN,length_zip->IR,nodup_nil->IS,lookup_cons->IT,getElem_zip->IU,sum_cons->IV,getElem?_append_right->IW,length_singleton->IX,length_take->IY,getElem_map->IZ,append_assoc->Ja,filter_cons_of_pos->Jc,eq_nil_iff_forall_not_mem->Jd,filter_append->Je,take_of_length_le->Jg,all_eq_true->Jh,getElem_set->Jj,drop_eq_getElem_cons->Jl,pairwise_iff_getElem->Jm,range_succ->Jo,mem_iff_getElem->Jq,filter_cons_of_neg->Js,replicate->Jt,perm_append_comm->JA,ext_getElem->JB,take_add_one->JC,map_congr_left->JE,length_drop->JF,drop_of_length_le->JI,eq_nil_or_concat->JJ,concat_eq_append->JK,mem_or_eq_of_mem_set->JP,getElem?_set_self'->JR,sum_append->JS,filter_eq_nil_iff->JU,forIn_nil->JW,mem_of_mem_take->JX,getElem?_zip_eq_some->JY,of_mem_zip->JZ,forIn_cons->J0,find?_cons->J1,nil_append->J2
open Nat renaming le_trans->Ie,le_refl->Ih,lt_of_lt_of_le->Ik,zero_le->Iz,ne_of_lt->IF,lt_of_le_of_lt->Jf,lt_irrefl->Ji,mod_eq_of_lt->Jk,lt_of_succ_lt_succ->Jv,ne_of_gt->Jw,le_add_right->Jz,le_succ->JD,lt_succ_self->JH,not_lt_zero->JM,lt_succ_of_lt->JN,pow_le_pow_right->JQ,min_eq_left->JT,mod_lt->JV
open Int renaming toNat_natCast->IP,le_refl->Jb,emod_lt_of_pos->Jp,emod_nonneg->Ju,zero_add->Jx
open Option renaming isSome_iff_exists->J3
open Bool renaming and_eq_true->Iq,false_ne_true->IA,false_eq_true->IQ,and_eq_true_iff->Jr,eq_iff_iff->JL,not_true->JO
open PySem.Heap renaming get?_push_of_some->Ia,lt_size->Ij,get?_push_size->Im,size_push->Jn,get?_update_self->Jy,get?_update_other->JG
theorem da{α:Type _}{a:α}{b:Prop}:a=a\/b:=.inl rfl
theorem ME{c:Prop}{h:Decidable c}(hc:c){α}{t e:α}:ite c t e=t:=if_pos hc
theorem MF{c:Prop}{h:Decidable c}(hc:¬c){α}{t e:α}:ite c t e=e:=if_neg hc
namespace _L
open PySem PySem.Spec PyProof.Rows
abbrev Key:=Sum Int bt
def Ec:Key->ap->Bool
 | .inl k,v=>MB k v
 | .inr x,v=>Value.isStrOf x v
def Hz(w:k0):Key->Int
 | .inl k=>Qf k
 | .inr x=>hashStr w x
theorem bq:∀{k:Key}{v:ap},Ec k v=true->(∃i t,k=Dd i/\v=ip i t)\/(∃x t,k=Dc x/\v=L3 x t)
 | .inl i,v,h=>by
  obtain⟨t,e⟩:=Value.isInt_shape (k:=i) (v:=v) h;exact .inl ⟨i,t,rfl,e⟩
 | .inr x,v,h=>by
  obtain⟨t,e⟩:=Value.isStrOf_shape (x:=x) (v:=v) h;exact .inr ⟨x,t,rfl,e⟩
theorem Eb(a b:Int):decide ((Dd a:Key)=Dd b)=(a==b):=by
 by_cases e:a=b
 ·subst e;simp
 ·have h:¬(Dd a:Key)=Dd b:=λq=>e (Sum.inl.inj q);rw[decide_eq_false h];exact(beq_eq_false_iff_ne.mpr e).symm
theorem D8(a b:bt):decide ((Dc a:Key)=Dc b)=decide (a=b):=by
 by_cases e:a=b
 ·subst e;simp
 ·have h:¬(Dc a:Key)=Dc b:=λq=>e (Sum.inr.inj q);rw[decide_eq_false h,decide_eq_false e]
theorem Ea(a:Int)(b:bt):decide ((Dd a:Key)=Dc b)=false:=decide_eq_false (λq=>nomatch q)
theorem D9(a:bt)(b:Int):decide ((Dc a:Key)=Dd b)=false:=decide_eq_false (λq=>nomatch q)
def oR(prog:kq)(w:k0):PySem.KeyKind prog w Key where
 is := Ec
 hash:=Hz w
 inj := λv a b f d=>by
  rcases bq f with⟨i,t,rfl,rfl⟩|⟨x,t,rfl,rfl⟩
  ·rcases bq d with⟨j,u,rfl,e⟩|⟨y,u,rfl,e⟩
   ·injection e with e1 _;rw[e1]
   ·exact nomatch e
  ·rcases bq d with⟨j,u,rfl,e⟩|⟨y,u,rfl,e⟩
   ·exact nomatch e
   ·injection e with e1 _;rw[e1]
 byValue:=λk v h=>by
  rcases bq h with⟨i,t,rfl,rfl⟩|⟨x,t,rfl,rfl⟩ <;> rfl
 pyHash:=λc h=>by
  rcases bq c with⟨i,t,rfl,rfl⟩|⟨x,t,rfl,rfl⟩
  ·exact wpAny_pyHash_int h
  ·exact wpAny_pyHash_str h
 eqBool:=λg c h=>by
  rcases bq g with⟨i,t,rfl,rfl⟩|⟨x,t,rfl,rfl⟩
  ·rcases bq c with⟨j,u,rfl,rfl⟩|⟨y,u,rfl,rfl⟩
   ·rw[Eb] at h;exact Qj h
   ·rw[Ea] at h;exact Ls i t y u _ _ _ _ h
  ·rcases bq c with⟨j,u,rfl,rfl⟩|⟨y,u,rfl,rfl⟩
   ·rw[D9] at h;exact Lr x t j u _ _ _ _ h
   ·rw[D8] at h;exact wpAny_eqBool_str h
 «strs»:=λk x t v h=>by
  rcases bq h with⟨i,u,rfl,e⟩|⟨y,u,rfl,e⟩
  ·exact nomatch e
  ·injection e with e1 _;subst e1;cases v <;> rfl
inductive V where
 | non|bl (b:Bool)|int (i:Int)|str (x:bt)|byt (b:Array UInt8)|flt (b:UInt64)|ref (a:al)|ty (n:String)
 deriving DecidableEq
def bC:V->ap->Prop
 | .non,u=>u=ec
 | .bl b,u=>u=o3 b
 | .int i,u=>∃t,u=ip i t
 | .str x,u=>∃t,u=L3 x t
 | .byt b,u=>∃t,u=Value.bytes b t
 | .flt b,u=>∃t,u=Value.float b t
 | .ref a,u=>u=eE a
 | .ty n,u=>u=LL n
abbrev bf:List V->List ap->Prop:=Paired bC
theorem bf.length(r:bf xs us):xs.length=us.length:=Paired.length r
theorem bf.get:∀{xs:List V}{us:List ap}{i:Nat}{x:V},bf xs us->xs[i]? = some x->∃u,us[i]? = some u/\bC x u
 | _,_,_,_,.nil,e=>by simp at e
 | _,_,0,_,.cons r _,e=>by simp at e;subst e;exact⟨_,rfl,r⟩
 | _,_,i+1,x,.cons _ t,e=>by
  obtain⟨u,h1,h2⟩:=bf.get (i:=i) (x:=x) t (by simpa using e);exact⟨u,by simpa using h1,h2⟩
theorem bf.set(r:bC x u):∀{xs:List V}{us:List ap} (i:Nat),bf xs us->bf (xs.set i x) (us.set i u)
 | _,_,_,.nil=>.nil
 | _,_,0,.cons _ t=>.cons r t
 | _,_,i+1,.cons q t=>.cons q (bf.set r i t)
theorem bf.append:∀{xs ys:List V}{us ws:List ap},bf xs us->bf ys ws->bf (xs++ys) (us++ws)
 | _,_,_,_,.nil,s=>s
 | _,_,_,_,.cons r t,s=>.cons r (bf.append t s)
theorem bf.take:∀{xs:List V}{us:List ap} (n:Nat),bf xs us->bf (xs.take n) (us.take n)
 | _,_,0,_=>.nil
 | _,_,_+1,.nil=>.nil
 | _,_,n+1,.cons r t=>.cons r (bf.take n t)
theorem bf.drop:∀{xs:List V}{us:List ap} (n:Nat),bf xs us->bf (xs.drop n) (us.drop n)
 | _,_,0,r=>r
 | _,_,_+1,.nil=>.nil
 | _,_,n+1,.cons _ t=>bf.drop n t
def Hi:Option V->Option ap->Prop
 | some v,some u=>bC v u
 | none,none=>True
 | _,_=>False
def KV{κ:Type}:List (κ×V)->List (κ×ap)->Prop:=Paired λ(p:κ×V) (q:κ×ap)=>p.1=q.1/\bC p.2 q.2
def kV:Key->V
 | .inl i=>.int i
 | .inr x=>.str x
inductive HO where
 | lst (xs:List V)
 | tup (xs:List V)
 | dK (kvs:List (Key×V))|dT (kvs:List (List Key×V))
 | set (S:Int->Bool) (n:Nat)
 | ins (C dx:al) (fs:List (bt×V))
 | own (x:al)
 | xd (fs:List (bt×V))
 | met (f x:al)
 | rng (lo hi:Int)
 | frz (o:Obj) (u:HO)
 | tbl (q:bt)
 | ext (φ:bb->Prop)
abbrev Hp:=al->Option HO
def Fix:HO->Prop
 | .tup _=>True
 | .frz _ _=>True
 | _=>False
def Cl(H:Hp)(h:bb)(a:al)(q:bt):Prop:=∃ps:Array ap,h.get? a=some { cls:=.none,data:=.fields ps }/\TriplesOk ps.toList /\
 ∀pos b,K4 pos ps.toList=some b->∃c oc u vs t,b=.ref c/\H c=some (.frz oc u)/\oc.data=.fields vs/\vs[1]? = some (.str q t)
def upd(H:Hp)(a:al)(o:HO):Hp:=λb=>if b=a then some o else H b
theorem aw:upd H a o a=some o:=by unfold upd;rw[ME rfl]
theorem am(h:b≠a):upd H a o b=H b:=by unfold upd;rw[MF h]
theorem aB{H:Hp}{a b:al}{o:HO}(h:H a=some o)(h':H b=none):a≠b:=by intro e;subst e;rw[h] at h';cases h'
def wC(h:bb)(a:al)(b:Array ap):Prop:=∃o,h.get? a=some o/\o.cls=.type "tuple" /\ (∃n,o.data=.seq b n)/\o.dict=none
theorem wC.is(p:wC h a b):IsTup h a b:=let ⟨o,e,c,n,_⟩:=p;⟨o,e,c,n⟩
theorem wC.lt(p:wC h a b):a<h.objs.size:=p.is.lt
theorem wC.new(h:bb)(items:Array ap):wC (h.push { cls:=.type "tuple",data:=.seq items }) h.objs.size items:=⟨_,Im _ rfl,rfl,⟨_,rfl⟩,rfl⟩
section
variable (P:kq) (w:k0)
def fe(H:Hp)(h:bb)(a:al):HO->Prop
 | .lst xs=>xs.length<=sizeLine/\∃(b:List ap) (n:Nat),bf xs b/\h.get? a=some { cls:=.type "list",data:=.seq b.toArray n }
 | .tup xs=>xs.length<=sizeLine/\∃b:List ap,bf xs b/\wC h a b.toArray
 | .dK kvs=>kvs.length<=sizeLine/\(a==KB)=false/\∃vs,KV kvs vs/\h.DictOf (oR P w) a vs
 | .dT kvs=>kvs.length<=sizeLine/\(a==KB)=false/\∃xs:List (List Key×al×ap),
   Paired (λ(p:List Key×V) (q:List Key×al×ap)=>p.1=q.1/\H q.2.1=some (.tup (p.1.map kV))/\bC p.2 q.2.2) kvs xs /\
   ∃o es ep,h.get? a=some o/\o.ExactDict/\o.data=.dict es ep/\es.toList=xs.map (entryOfKey (tupleKind (oR P w)))/\(xs.map (·.1)).Nodup
 | .set S n=>h.SetOf (Kj P w) a S n
 | .ins C dx fs=>H dx=some (.own a)/\fs.length<=1000/\dx≠a/\h.get? a=some (PySem.W.instObj C dx) /\
   ∃c,h.Ns1 dx c/\(∀f,Hi (fs.lookup f) (c f))/\PySem.Within c (fs.map (·.1))
 | .own _=>∃o,h.get? a=some o
 | .xd fs=>∃c,h.Ns1 a c/\∀f,Hi (fs.lookup f) (c f)
 | .rng lo hi=>∃t u v,h.get? a=some { cls:=.type "range",data:=.fields #[.int lo t,.int hi u,.int 1 v] }
 | .frz o u=>h.get? a=some o/\fe H h a u
 | .tbl q=>Cl H h a q
 | .met f x=>h.get? a=some (w1 (.ref f) (.ref x))
 | .ext φ=>φ h/\(∃o,h.get? a=some o)/\∀h1 h2:bb,φ h1->(∀o,h1.get? a=some o->h2.get? a=some o)->φ h2
def HOk(H:Hp)(h:bb):Prop:=∀a o,H a=some o->fe P w H h a o
end
section
variable {P:kq}{w:k0}{H H':Hp}{h h':bb}{a:al}{o:HO}
theorem fe.lt(x:fe P w H h a o):a<h.objs.size:=by
 cases o with
 | lst xs=>obtain⟨_,_,_,_,e⟩:=x;exact Ij e
 | tup xs=>obtain⟨_,_,_,p⟩:=x;exact p.lt
 | dK kvs=>obtain⟨_,_,_,_,o,_,_,e,_⟩:=x;exact Ij e
 | dT kvs=>obtain⟨_,_,_,_,o,_,_,e,_⟩:=x;exact Ij e
 | set S n=>obtain⟨o,_,_,_,e,_⟩:=x;exact Ij e
 | ins C dx fs=>obtain⟨_,_,_,e,_⟩:=x;exact Ij e
 | own y=>obtain⟨_,e⟩:=x;exact Ij e
 | xd fs=>obtain⟨_,⟨_,_,_,e,_⟩,_⟩:=x;exact Ij e
 | rng lo hi=>obtain⟨_,_,_,e⟩:=x;exact Ij e
 | frz ob u=>obtain⟨e,_⟩:=x;exact Ij e
 | tbl q=>obtain⟨_,e,_⟩:=x;exact Ij e
 | met f y=>exact Ij (show h.get? a=some _ from x)
 | ext φ=>obtain⟨_,⟨_,e⟩,_⟩:=x;exact Ij e
theorem Paired.mapP:∀{l₁:List α}{l₂:List β},Paired F l₁ l₂->(∀a b,F a b->G a b)->Paired G l₁ l₂
 | _,_,.nil,_=>.nil
 | _,_,.cons r t,f=>.cons (f _ _ r) (Paired.mapP t f)
theorem fe.stay(x:fe P w H h a o)(k:∀b u,(b=a\/H b=some (.own a))->h.get? b=some u->h'.get? b=some u)
  (ho:∀b,H b=some (.own a)->H' b=some (.own a)) (l:∀b o,Fix o->H b=some o->H' b=some o):fe P w H' h' a o:=by
 induction o with
 | lst xs=>obtain⟨z,g,n,r,e⟩:=x;exact⟨z,g,n,r,k _ _ (.inl rfl) e⟩
 | tup xs=>obtain⟨z,g,r,ob,e,c⟩:=x;exact⟨z,g,r,ob,k _ _ (.inl rfl) e,c⟩
 | dK kvs=>obtain⟨z,y,vs,r,ob,es,ep,e,c⟩:=x;exact⟨z,y,vs,r,ob,es,ep,k _ _ (.inl rfl) e,c⟩
 | dT kvs =>
  obtain⟨z,y,xs,r,ob,es,ep,e,c⟩:=x;exact⟨z,y,xs,Paired.mapP r λp q z=>⟨z.1,l _ _ trivial z.2.1,z.2.2⟩,ob,es,ep,k _ _ (.inl rfl) e,c⟩
 | set S n=>obtain⟨ob,es,ep,t,e,c⟩:=x;exact⟨ob,es,ep,t,k _ _ (.inl rfl) e,c⟩
 | ins C dx fs =>
  obtain⟨d,z,ne,e,i,⟨od,es,ep,e2,c⟩,r⟩:=x;exact⟨ho _ d,z,ne,k _ _ (.inl rfl) e,i,⟨od,es,ep,k _ _ (.inr d) e2,c⟩,r⟩
 | own y=>obtain⟨ob,e⟩:=x;exact⟨ob,k _ _ (.inl rfl) e⟩
 | xd fs=>obtain⟨i,⟨od,es,ep,e,c⟩,r⟩:=x;exact⟨i,⟨od,es,ep,k _ _ (.inl rfl) e,c⟩,r⟩
 | rng lo hi=>obtain⟨t,u,v,e⟩:=x;exact⟨t,u,v,k _ _ (.inl rfl) e⟩
 | frz ob u m=>obtain⟨e,q⟩:=x;exact⟨k _ _ (.inl rfl) e,m q⟩
 | tbl q =>
  obtain⟨ps,e,t,c⟩:=x;exact⟨ps,k a _ (.inl rfl) e,t,λpos s j=>let ⟨b,oc,u,vs,t,e1,e2,e3⟩:=c pos s j;⟨b,oc,u,vs,t,e1,l _ _ trivial e2,e3⟩⟩
 | met f y =>
  have e:h.get? a=some (w1 (.ref f) (.ref y)):=x;show h'.get? a=some (w1 (.ref f) (.ref y));exact k a _ (.inl rfl) e
 | ext φ=>obtain⟨p,⟨o,e⟩,st⟩:=x;exact⟨st _ _ p λo q=>k _ _ (.inl rfl) q,⟨o,k _ _ (.inl rfl) e⟩,st⟩
theorem HOk.lt(x:HOk P w H h)(e:H a=some o):a<h.objs.size:=(x a o e).lt
theorem HOk.fresh(x:HOk P w H h)(e:h.objs.size<=a):H a=none:=by
 cases q:H a with
 | none=>rfl
 | some u=>exact absurd (Ik (x.lt q) e) (Ji _)
theorem HOk.kept(x:HOk P w H h)(k:∀b u,h.get? b=some u->h'.get? b=some u):HOk P w H h':=λa o e =>
 (x a o e).stay (λb u _ q=>k b u q) (λ_ q=>q) λ_ _ _ q=>q
theorem HOk.laid(x:HOk P w H h)(k:∀b u,h.get? b=some u->h'.get? b=some u)(f:h.objs.size<=a)(new:fe P w (upd H a o) h' a o):HOk P w (upd H a o) h':=λb u e=>by
 have hn:=x.fresh f;by_cases d:b=a
 ·subst d;rw[aw] at e;cases e;exact new
 ·rw[am d] at e;exact(x b u e).stay (λc v _ q=>k c v q) (λc q=>by rw[am (aB q hn)];exact q) λc xs _ q=>by rw[am (aB q hn)];exact q
end
def Rd(H:Hp)(a:al)(u:HO):Prop:=H a=some u\/∃o,H a=some (.frz o u)
theorem Rd.ok(r:Rd H a u)(x:HOk P w H h):fe P w H h a u:=by
 rcases r with r|⟨o,r⟩
 ·exact x a u r
 ·obtain⟨_,q⟩:=x a _ r;exact q
def Mut:Option HO->Prop
 | some (.lst _)=>True
 | some (.dK _)=>True
 | some (.dT _)=>True
 | some (.set _ _)=>True
 | some (.ins _ _ _)=>True
 | some (.ext _)=>True
 | _=>False
section
theorem HOk.write(ok:HOk P w H h)(i:Mut (H x))(m:e=x\/H e=some (.own x))(k:∀b u,b≠e->h.get? b=some u->h'.get? b=some u)(l:∃u,h'.get? e=some u)
  (new:fe P w (upd H x o') h' x o'):HOk P w (upd H x o') h':=λb u q=>by
 have d:∀c y,H c=some (.own y)->c≠x:=λc y r z=>by subst z;rw[r] at i;exact i
 have g:∀c o,Fix o->H c=some o->c≠x:=λc o f r z=>by subst z;rw[r] at i;cases o <;> first|exact i|exact f
 by_cases j:b=x
 ·subst j;rw[aw] at q;cases q;exact new
 ·rw[am j] at q;by_cases a:b=e
  ·have n:H b=some (.own x):=by
    rcases m with z|z
    ·exact absurd (a.trans z) j
    ·rw[a];exact z
   rw[q] at n;cases n;obtain⟨v,p⟩:=l;exact⟨v,by rw[a];exact p⟩
  ·refine(ok b u q).stay (λc v hc r=>k c v ?_ r) (λc r=>by rw[am (d c b r)];exact r) λc xs f r=>by rw[am (g c xs f r)];exact r
   rcases hc with rfl|hc
   ·exact a
   ·rintro rfl;rcases m with z|z
    ·exact d c b hc z
    ·rw[hc] at z;cases z;exact j rfl
end
structure Un(fs ex:List al)(H H':Hp)(h h':bb):Prop where
 keep:∀b o,h.get? b=some o->H b=none->b ∉ fs->b ∉ ex->h'.get? b=some o
 slot:∀b o,h.get? b=some o->H b=none->b∈fs->b ∉ ex->∃sl,h'.get? b=some { o with slots:=sl }
 free:∀b o,h.get? b=some o->H b=none->b ∉ ex->H' b=none
 there:∀b o,h.get? b=some o->b ∉ ex->∃o',h'.get? b=some o'
 tups:∀b xs,H b=some (.tup xs)->H' b=some (.tup xs)
 frzs:∀b o u,H b=some (.frz o u)->H' b=some (.frz o u)
 tbls:∀b q,H b=some (.tbl q)->H' b=some (.tbl q)
section
variable {fs ex:List al}{H H1:Hp}{h h1 h':bb}{a x e:al}{o:HO}
theorem Un.any(u:Un fs ex H H1 h h1)(q:h.get? b=some ob)(n:H b=none)(hx:b ∉ ex):∃sl,h1.get? b=some { ob with slots:=sl }:=by
 by_cases a:b∈fs
 ·exact u.slot b ob q n a hx
 ·exact⟨ob.slots,u.keep b ob q n a hx⟩
theorem Un.kept(k:∀b u,h.get? b=some u->h'.get? b=some u):Un fs ex H H h h' :=
 ⟨λb ob q _ _ _=>k b ob q,λb ob q _ _ _=>⟨ob.slots,k b ob q⟩,λ_ _ _ n _=>n,λb ob q _=>⟨ob,k b ob q⟩,λ_ _ q=>q,λ_ _ _ q=>q,λ_ _ q=>q⟩
theorem Un.refl:Un fs ex H H h h:=Un.kept λ_ _ q=>q
theorem Un.laid(k:∀b u,h.get? b=some u->h'.get? b=some u)(c:h.objs.size<=a)(hn:H a=none):Un fs ex H (upd H a o) h h' where
 keep:=λb u q _ _ _=>k b u q
 slot:=λb u q _ _ _=>⟨u.slots,k b u q⟩
 free:=λb u q n _=>by rw[am (IF (Ik (Ij q) c))];exact n
 there:=λb u q _=>⟨u,k b u q⟩
 tups:=λb xs q=>by rw[am (aB q hn)];exact q
 frzs:=λb u xs q=>by rw[am (aB q hn)];exact q
 tbls:=λb ps q=>by rw[am (aB q hn)];exact q
theorem Un.write(c:Mut (H x))(i:e=x\/H e=some (.own x))(k:∀b u,b≠e->h.get? b=some u->h'.get? b=some u)(d:∃u,h'.get? e=some u):Un fs ex H (upd H x o) h h':=by
 have hx:∀b,H b=none->b≠x:=λb n z=>by subst z;rw[n] at c;exact c
 have g:∀b,H b=none->b≠e:=λb n z=>by
  subst z;rcases i with r|r
  ·exact hx b n r
  ·rw[n] at r;cases r
 have f:∀b u,H b=some u->¬Mut (some u)->b≠x:=λb u q nm z=>by subst z;rw[q] at c;exact nm c
 refine⟨λb u q n _ _=>k b u (g b n) q,λb u q n _ _=>⟨u.slots,k b u (g b n) q⟩,λb u q n _=>by rw[am (hx b n)];exact n,λb u q _=>?_,
  λb xs q=>by rw[am (f b _ q λz=>z)];exact q,λb u xs q=>by rw[am (f b _ q λz=>z)];exact q,λb ps q=>by rw[am (f b _ q λz=>z)];exact q⟩
 by_cases a:b=e
 ·subst a;exact d
 ·exact⟨u,k b u a q⟩
end
def trk(h:bb)(H:Hp):List al:=(di h.objs.size).filter λa=>(H a).isSome
def wM(h:bb)(H:Hp):bb:=PySem.W.hideAll h (trk h H)
theorem vt(h:bb)(H:Hp):(wM h H).objs.size=h.objs.size:=PySem.W.hideAll_size _ _
theorem yd(e:h.get? b=some o)(n:H b=none):(wM h H).get? b=some o :=
 PySem.W.hideAll_get _ e λa=>by
  have q:(H b).isSome=true:=(Iw.mp a).2;rw[n] at q;simp at q
theorem A4(e:(wM h H).get? b=some o):h.get? b=some o/\H b=none:=by
 have e':h.get? b=some o:=PySem.W.of_hideAll (trk h H) e;refine⟨e',?_⟩;cases q:H b with
 | none=>rfl
 | some x =>
  have a:b∈trk h H:=Iw.mpr ⟨Io.mpr (Ij e'),by simp[q]⟩;have z:(wM h H).get? b=none:=PySem.W.hideAll_none (trk h H) a;rw[z] at e;cases e
def Ci(g h:bb)(L:al):List (al×Obj):=(di h.objs.size).filterMap λa=>if a=L\/(g.get? a).isSome=true then none else (h.get? a).map λo=>(a,o)
def rest(g h:bb)(L d:al):List (al×Obj):=(Ci g h L).filter λp=>decide (p.1≠d)
structure Mod(K:cc)(mg:bt->Option ap)(base:bb):Prop where
 kin:K.In base
 glob:base.Ns ke mg
 blt:∃mb,base.Ns Kg mb/\∀x:bt,x ≠ "__name__" -> mb x=J6 x
 nolimit:base.NoLimit
 bmain:∃bm ob,mg "__builtins__" = some (.ref bm)/\bm≠Kg/\base.get? bm=some ob/\ob.cls=.type "module" /\ ob.dict=some Kg/\ob.data=.plain
def eO:List bt:=["choices", "full_rows", "chain_plan", "least_ranks"]
def jg(K:cc)(T:al)(q:bt):Prop:=∃x∈eO,∃f o fd c oc vs,cv K ke x=some (some (.ref f))/\K.lookup f=some o/\o.data=.func fd/\fd.code=.ref c /\
 K.lookup c=some oc/\oc.data=.fields vs/\vs[11]? = some (.ref T)/\q=x ++ ".<locals>.<lambda>"
def Aa(K:cc)(H:Hp):Prop:=∀T q,jg K T q->H T=some (.tbl q)
structure Cx where
 prog:kq
 w : k0
 K : cc
 mg : bt->Option ap
 base:bb
 A : Around
 N : List bt
 s₀ : av
 H₀ : Hp
 env:Env
 outer:List Env
 stack:List Env
 ex : List al
 fn : bt->Bool
 calm:Bool
 pn : List (al×Obj)
 xe : ap->av->Prop
def frs(l:List Env):List al:=l.filterMap (·.frame)
abbrev Cx.fs(X:Cx):List al:=frs X.outer
def Vis(sc:J5)(x:bt):Prop:=sc.names.lookup x=some .local\/sc.names.lookup x=some .cell\/sc.names.lookup x=some .free
def Loc(sc:J5)(x:bt):Prop:=sc.names.lookup x=some .local\/sc.names.lookup x=some .cell
def HN(env:Env)(h:bb)(m:bt->Option ap)(x:bt)(u:ap):Prop :=
 (env.kindOf x=some .local/\m x=some u)\/((env.kindOf x=some .cell\/env.kindOf x=some .free)/\∃c,env.cells.lookup x=some c/\h.IsCell c (some u))
structure Cx.Ok(X:Cx):Prop where
 mod:Mod X.K X.mg X.base
 kind:X.env.scope.kind=.function
 glob:X.env.globals=ke
 blt:X.env.builtins=Kg
 above:X.s₀.heap.objs.size<=X.env.locals
 inj:∀x y c,X.env.cells.lookup x=some c->X.env.cells.lookup y=some c->x=y
 has:∀x,(X.env.kindOf x=some .cell\/X.env.kindOf x=some .free)->∃c,X.env.cells.lookup x=some c
 cab:∀x c,X.fn x=true->X.env.cells.lookup x=some c->X.s₀.heap.objs.size<=c
 hd : X.calm=true->X.A.handled=none
 frames:X.A.frames=some X.stack
 stk:X.stack=X.outer\/(X.stack=X.env::X.outer/\X.env.frame=some X.env.locals)
 exf:∀b∈X.ex,b≠X.env.locals/\∀x c,X.env.cells.lookup x=some c->c≠b
 bs : ∀b o,X.base.get? b=some o->X.s₀.heap.get? b=some o/\X.H₀ b=none
 bsz:X.base.objs.size<=X.s₀.heap.objs.size
 noex:∀b o,X.base.get? b=some o->b ∉ X.ex
 exfs:∀b∈X.ex,b ∉ X.fs
 funs:X.s₀.heap.FunFrames X.base X.outer
 frf:∀b∈X.fs,X.H₀ b=none
 tab:Aa X.K X.H₀
structure Inv(X:Cx)(pins:List (al×Obj))(σ:List (Option V))(H:Hp)(s:av):Prop where
 ok : X.Ok
 os : s.os=X.s₀.os
 bare:KS s.gens
 base:Un X.fs X.ex X.H₀ H X.s₀.heap s.heap
 loc:∃m,s.heap.Ns X.env.locals m/\∀(i:Nat) (x:bt) (v:V),X.N[i]? = some x->σ[i]? = some (some v)->Vis X.env.scope x->∃u,bC v u/\HN X.env s.heap m x u
 cell:∀x c,X.env.cells.lookup x=some c->∃v,s.heap.IsCell c v
 free:H X.env.locals=none
 freeC:∀x c,X.env.cells.lookup x=some c->H c=none
 pin:∀p∈X.pn++pins,s.heap.get? p.1=some p.2/\H p.1=none/\p.1≠X.env.locals/\p.1 ∉ X.fs/\∀v,p.2.data≠.cell v
 hok:HOk X.prog X.w H s.heap
 len:σ.length=X.N.length
section
variable {X:Cx}
theorem Cx.Ok.nofr(ok:X.Ok)(e:X.base.get? b=some o):b ∉ X.fs:=λa=>by
 have:=(ok.funs.mem a).1;rw[e] at this;cases this
theorem Inv.bs(I:Inv X pins σ H s):∀b o,X.base.get? b=some o->s.heap.get? b=some o/\H b=none:=λb o e =>
 ⟨I.base.keep b o (I.ok.bs b o e).1 (I.ok.bs b o e).2 (I.ok.nofr e) (I.ok.noex b o e),I.base.free b o (I.ok.bs b o e).1 (I.ok.bs b o e).2 (I.ok.noex b o e)⟩
theorem Inv.bk(I:Inv X pins σ H s):∀b o,X.base.get? b=some o->s.heap.get? b=some o:=λb o e=>(I.bs b o e).1
theorem Inv.mod(I:Inv X pins σ H s):Mod X.K X.mg X.base:=I.ok.mod
theorem Inv.kIn(I:Inv X pins σ H s):X.K.In s.heap:=I.ok.mod.kin.keeps I.bk
theorem Inv.lt(I:Inv X pins σ H s):X.env.locals<s.heap.objs.size:=let ⟨_,hn,_⟩:=I.loc;hn.lt
theorem Inv.sz(I:Inv X pins σ H s):X.s₀.heap.objs.size<=s.heap.objs.size:=Ie I.ok.above (sn I.lt)
theorem Inv.nofs(I:Inv X pins σ H s){a:al}(h:s.heap.objs.size<=a):a ∉ X.fs:=λb=>by
 obtain⟨_,o,ho,_⟩:=I.ok.funs.mem b;exact absurd (Ik (Ij ho) (Ie I.sz h)) (Ji _)
theorem Inv.cne(I:Inv X pins σ H s):∀x c,X.env.cells.lookup x=some c->c≠X.env.locals:=λx c e z=>by
 obtain⟨v,o,ho,hd⟩:=I.cell x c e;obtain⟨m,⟨o',es,ep,a,b,_⟩,_⟩:=I.loc;rw[z,a] at ho;cases ho;rw[b] at hd;cases hd
theorem Inv.funs(I:Inv X pins σ H s):s.heap.FunFrames X.base X.outer:=by
 have all:∀(l:List Env),(∀b∈frs l,b∈X.fs)->X.s₀.heap.FunFrames X.base l->s.heap.FunFrames X.base l:=by
  intro l
  induction l with
  | nil=>intro _ _;trivial
  | cons env r g =>
   intro f h;obtain⟨hk,⟨L,o,a,hn,ho,hd⟩,i⟩:=h;have c:L∈X.fs:=f L (by unfold frs;rw[wl,a];exact H9);obtain⟨sl,e⟩:=I.base.slot L o ho (I.ok.frf L c) c λz=>I.ok.exfs L z c;exact⟨hk,⟨L,_,a,hn,e,hd⟩,g (λb d=>f b (by unfold frs;rw[wl,a];exact HZ _ d)) i⟩
 exact all X.outer (λ_ d=>d) I.ok.funs
theorem Inv.stack(I:Inv X pins σ H s):s.heap.FunFrames X.base X.stack:=by
 rcases I.ok.stk with e|⟨e,a⟩
 ·rw[e];exact I.funs
 ·rw[e];obtain⟨m,hn,_⟩:=I.loc;refine .cons (by rw[I.ok.kind];decide) a hn ?_ I.funs;exact Heap.get?_none_of_le (Ie I.ok.bsz I.ok.above)
theorem Inv.stkSub(I:Inv X pins σ H s):∀b∈frs X.stack,b∈X.env.locals::X.fs:=λb a=>by
 rcases I.ok.stk with e|⟨e,c⟩
 ·rw[e] at a;exact HZ _ a
 ·rw[e] at a;unfold frs at a;rw[wl,c] at a;exact a
theorem Inv.stkFree(I:Inv X pins σ H s):∀b∈frs X.stack,H b=none:=λb a=>by
 rcases Ic.mp (I.stkSub b a) with e|a
 ·rw[e];exact I.free
 ·obtain⟨_,o,ho,_⟩:=I.ok.funs.mem a;exact I.base.free b o ho (I.ok.frf b a) λz=>I.ok.exfs b z a
theorem Inv.step{g':Array GenState}{t':Nat}{d':Drawn}{ch:List al}(I:Inv X pins σ H s)
  (a:∀b∈ch,(b∈X.ex\/X.s₀.heap.objs.size<=b)/\b≠X.env.locals/\(∀x c,X.env.cells.lookup x=some c->c≠b)/\∀p∈X.pn++pins,p.1≠b)
  (keep:∀b o,b≠X.env.locals->b ∉ X.fs->b ∉ ch->s.heap.get? b=some o->H b=none->h'.get? b=some o)
  (slot:∀b o,b≠X.env.locals->b∈X.fs->b ∉ ch->s.heap.get? b=some o->H b=none->∃sl,h'.get? b=some { o with slots:=sl }) (free:∀b o,b ∉ ch->s.heap.get? b=some o->H b=none->H' b=none)
  (there:∀b o,b ∉ ch->s.heap.get? b=some o->∃o',h'.get? b=some o')
  (tups:∀b xs,H b=some (.tup xs)->H' b=some (.tup xs)) (frzs:∀b o u,H b=some (.frz o u)->H' b=some (.frz o u)) (tbls:∀b ps,H b=some (.tbl ps)->H' b=some (.tbl ps))
  (ns:∀m,s.heap.Ns X.env.locals m->h'.Ns X.env.locals m) (hok:HOk X.prog X.w H' h') (C:KS g') :
  Inv X pins σ H' { s with heap:=h',gens:=g',drawn:=d',toks:=t' }:=by
 have t:∀b o,X.s₀.heap.get? b=some o->b≠X.env.locals:=λb o e=>IF (Ik (Ij e) I.ok.above);have h:∀b o,X.s₀.heap.get? b=some o->b ∉ X.ex->b ∉ ch:=λb o e hx j=>by
  rcases(a b j).1 with z|z
  ·exact hx z
  ·exact absurd (Ik (Ij e) z) (Ji _)
 have f:∀x c,X.env.cells.lookup x=some c->∀v,s.heap.IsCell c v->h'.IsCell c v:=λx c e v ⟨o,ho,hd⟩=>by
  have g:c ∉ ch:=λz=>(a c z).2.2.1 x c e rfl;by_cases hc:c∈X.fs
  ·obtain⟨sl,q⟩:=slot c o (I.cne x c e) hc g ho (I.freeC x c e);exact⟨_,q,hd⟩
  ·exact⟨o,keep c o (I.cne x c e) hc g ho (I.freeC x c e),hd⟩
 refine⟨I.ok,I.os,C,⟨λb o e n j hx=>?_,λb o e n j hx=>?_,λb o e n hx=>?_,λb o e hx=>?_,λb xs e=>tups b xs (I.base.tups b xs e),λb o xs e=>frzs b o xs (I.base.frzs b o xs e),λb ps e=>?_⟩,?_,λx c e=>?_,?_,λx c e=>?_,λp A=>?_,hok,I.len⟩
 ·exact keep b o (t b o e) j (h b o e hx) (I.base.keep b o e n j hx) (I.base.free b o e n hx)
 ·obtain⟨sl,e1⟩:=I.base.slot b o e n j hx;obtain⟨y,e2⟩:=slot b _ (t b o e) j (h b o e hx) e1 (I.base.free b o e n hx);exact⟨y,e2⟩
 ·obtain⟨o',e1⟩:=I.base.there b o e hx;exact free b o' (h b o e hx) e1 (I.base.free b o e n hx)
 ·obtain⟨o',e1⟩:=I.base.there b o e hx;exact there b o' (h b o e hx) e1
 ·exact tbls b ps (I.base.tbls b ps e)
 ·obtain⟨m,hn,D⟩:=I.loc;refine⟨m,ns m hn,λi x v e1 e2 e3=>?_⟩;obtain⟨u,r,l⟩:=D i x v e1 e2 e3;refine⟨u,r,?_⟩;rcases l with l|⟨k,c,e,z⟩
  ·exact .inl l
  ·exact .inr ⟨k,c,e,f x c e _ z⟩
 ·obtain⟨v,z⟩:=I.cell x c e;exact⟨v,f x c e v z⟩
 ·obtain⟨m,⟨o,_,_,ho,_⟩,_⟩:=I.loc;exact free _ o (λz=>(a _ z).2.1 rfl) ho I.free
 ·obtain⟨v,o,ho,hd⟩:=I.cell x c e;exact free c o (λz=>(a c z).2.2.1 x c e rfl) ho (I.freeC x c e)
 ·obtain⟨e,n,ne,B,d⟩:=I.pin p A;have g:p.1 ∉ ch:=λz=>(a p.1 z).2.2.2 p A rfl;exact⟨keep p.1 p.2 ne B g e n,free p.1 p.2 g e n,ne,B,d⟩
theorem Inv.un(I:Inv X pins σ H s)(u:Un X.fs [] H H' s.heap h')(hok:HOk X.prog X.w H' h'):Inv X pins σ H' { s with heap:=h',toks:=t' }:=by
 obtain⟨m,⟨o,es,ep,ho,r⟩,_⟩:=id I.loc;obtain⟨sl,g⟩:=u.any ho I.free (by simp);exact I.step (g':=s.gens) (d':=s.drawn) (ch:=[]) (λ_ z=>nomatch z) (λb o _ c _ e n=>u.keep b o e n c (by simp)) (λb o _ c _ e n=>u.slot b o e n c (by simp)) (λb o _ e n=>u.free b o e n (by simp)) (λb o _ e=>u.there b o e (by simp)) u.tups u.frzs u.tbls (λj h=>by
  obtain⟨o',d,f,a,i⟩:=h;rw[ho] at a;cases a;exact⟨_,d,f,g,i⟩) hok I.bare
theorem Inv.call(I:Inv X pins σ H s)(u:Un (frs X.stack) ch H H' s.heap h')(hok:HOk X.prog X.w H' h')(i:KS g')
  (a:∀b∈ch,(b∈X.ex\/X.s₀.heap.objs.size<=b)/\b≠X.env.locals/\(∀x c,X.env.cells.lookup x=some c->c≠b)/\∀p∈X.pn++pins,p.1≠b) :
  Inv X pins σ H' { s with heap:=h',gens:=g',drawn:=d',toks:=t' }:=by
 obtain⟨m,⟨o,es,ep,ho,r⟩,_⟩:=id I.loc;obtain⟨sl,f⟩:=u.any ho I.free λz=>(a _ z).2.1 rfl;exact I.step (ch:=ch) a (λb o f j hc e n=>u.keep b o e n (λz=>(Ic.mp (I.stkSub b z)).elim f j) hc) (λb o _ _ hc e n=>u.any e n hc) (λb o hc e n=>u.free b o e n hc) (λb o hc e=>u.there b o e hc) u.tups u.frzs u.tbls (λq k=>by
  obtain⟨o',g,h,d,l⟩:=k;rw[ho] at d;cases d;exact⟨_,g,h,f,l⟩) hok i
theorem Inv.turned(I:Inv X pins σ H s)(k:∀b o,b≠it->s.heap.get? b=some o->h'.get? b=some o)(hn:H it=none)(d:it≠X.env.locals)
  (h1:it∈X.ex\/X.s₀.heap.objs.size<=it) (h2:∀x c,X.env.cells.lookup x=some c->c≠it) (f:∀p∈X.pn++pins,p.1≠it):Inv X pins σ H { s with heap:=h',toks:=t' }:=by
 have a:∀b u,H b=some u->b≠it:=λb u e z=>by rw[z,hn] at e;cases e
 refine I.step (g':=s.gens) (d':=s.drawn) (ch:=[it]) (λb g=>?_) (λb o _ _ hc e _=>k b o (λz=>hc (by simp[z])) e) (λb o _ _ hc e _=>⟨o.slots,k b o (λz=>hc (by simp[z])) e⟩) (λ_ _ _ _ n=>n)
  (λb o hc e=>⟨o,k b o (λz=>hc (by simp[z])) e⟩) (λ_ _ e=>e) (λ_ _ _ e=>e) (λ_ _ e=>e) (λm h=>?_) (λb u e=>?_) I.bare
 ·have e:b=it:=by simpa using g
  subst e;exact⟨h1,d,h2,f⟩
 ·obtain⟨o,es,ep,ho,r⟩:=h;exact⟨o,es,ep,k _ o (Ne.symm d) ho,r⟩
 ·refine(I.hok b u e).stay (λc v hc q=>k c v ?_ q) (λ_ q=>q) λ_ _ _ q=>q;rcases hc with z|z
  ·rw[z];exact a b u e
  ·exact a c _ z
theorem Inv.tok(I:Inv X pins σ H s)(t:Nat):Inv X pins σ H { s with toks:=t }:=I.un (h':=s.heap) (t':=t) Un.refl I.hok
theorem Inv.kept(I:Inv X pins σ H s)(k:∀b u,s.heap.get? b=some u->h'.get? b=some u):Inv X pins σ H { s with heap:=h',toks:=t' }:=I.un (Un.kept k) (I.hok.kept k)
theorem Inv.laid{a:al}{o:HO}{t':Nat}(I:Inv X pins σ H s)(k:∀b u,s.heap.get? b=some u->h'.get? b=some u)(c:s.heap.objs.size<=a)(new:fe X.prog X.w (upd H a o) h' a o) :
  Inv X pins σ (upd H a o) { s with heap:=h',toks:=t' }:=I.un (Un.laid k c (I.hok.fresh c)) (I.hok.laid k c new)
theorem Inv.write(I:Inv X pins σ H s)(c:Mut (H x))(d:e=x\/H e=some (.own x))(k:∀b u,b≠e->s.heap.get? b=some u->h'.get? b=some u)(a:∃u,h'.get? e=some u)
  (new:fe X.prog X.w (upd H x o) h' x o):Inv X pins σ (upd H x o) { s with heap:=h',toks:=t' }:=I.un (Un.write c d k a) (I.hok.write c d k a new)
theorem Inv.pins_of(I:Inv X pins σ H s)(h:∀p∈pins',s.heap.get? p.1=some p.2/\H p.1=none/\p.1≠X.env.locals/\p.1 ∉ X.fs/\∀v,p.2.data≠.cell v):Inv X pins' σ H s :=
 ⟨I.ok,I.os,I.bare,I.base,I.loc,I.cell,I.free,I.freeC,λp a=>(HX.mp a).elim (λz=>I.pin p (HV _ z)) (h p),I.hok,I.len⟩
theorem qA{N:List bt}(c:N.Nodup){i j:Nat}{x:bt}(a:N[i]? = some x)(b:N[j]? = some x):i=j:=by obtain⟨h1,e1⟩:=Ib.mp a;obtain⟨h2,e2⟩:=Ib.mp b;exact(List.getElem_inj c).mp (e1.trans e2.symm)
theorem lI(I:Inv X pins σ H s)(U:X.N.Nodup)(hi:X.N[i]? = some x)(hx:Loc X.env.scope x)(r:bC v u)
  (h : ∀s',Inv X pins (σ.set i (some v)) H s'->(∃a,oA a s.heap s'.heap/\(a=X.env.locals\/X.env.cells.lookup x=some a))->Q () s') (Y:X.fn x=true\/X.env.scope.names.lookup x=some .local:=by first|exact .inl rfl|exact .inr rfl|assumption):j4 M A (storeName X.env x u) Q E s:=by
 obtain⟨m,hn,W⟩:=id I.loc;have D:(X.env.scope.kind==.class || (X.env.scope.kind==.module&&X.env.locals != X.env.globals))=false:=by rw[I.ok.kind];rfl
 have t:i<σ.length:=by rw[I.len];exact(Ib.mp hi).1
 have cne:=I.cne;have g:∀{a:al}{h':bb},(∃o,s.heap.get? a=some o/\H a=none)->oA a s.heap h'->HOk X.prog X.w H h':=λ{a h'} Z f b ob e=>by
  obtain⟨_,_,l⟩:=Z;refine(I.hok b ob e).stay (λc w' hc q=>(f.2 c ?_).trans q) (λ_ q=>q) λ_ _ _ q=>q;rintro rfl;rcases hc with rfl|hc
  ·rw[l] at e;cases e
  ·rw[l] at hc;cases hc
 rcases hx with hk|hk
 ·refine wpAny_storeName_local hk hn (λh' L f=>?_) D;obtain⟨oL,_,_,O,_⟩:=id hn;refine h _ ⟨I.ok,I.os,I.bare,⟨λb o e n B hx=>?_,λb o e n B hx=>?_,I.base.free,λb o e hx=>?_,I.base.tups,I.base.frzs,I.base.tbls⟩,⟨_,L,λj y v' e1 e2 e3=>?_⟩,λy c e=>?_,I.free,I.freeC,λp P=>?_,g ⟨oL,O,I.free⟩ f,by simpa using I.len⟩ ⟨_,f,.inl rfl⟩
  ·exact(f.2 b (IF (Ik (Ij e) I.ok.above))).trans (I.base.keep b o e n B hx)
  ·obtain⟨sl,e1⟩:=I.base.slot b o e n B hx;exact⟨sl,(f.2 b (IF (Ik (Ij e) I.ok.above))).trans e1⟩
  ·obtain⟨o',e1⟩:=I.base.there b o e hx;exact⟨o',(f.2 b (IF (Ik (Ij e) I.ok.above))).trans e1⟩
  ·by_cases hj:j=i
   ·subst hj;rw[hi] at e1;cases e1;rw[Iy t] at e2;cases e2;exact⟨u,r,.inl ⟨hk,by simp⟩⟩
   ·rw[Ip (Ne.symm hj)] at e2;obtain⟨R,S,q⟩:=W j y v' e1 e2 e3;refine⟨R,S,?_⟩;rcases q with⟨k,e⟩|⟨k,c,e,z⟩
    ·refine .inl ⟨k,?_⟩;have:y≠x:=λe=>hj (qA U e1 (e▸hi));simp[this,e]
    ·exact .inr ⟨k,c,e,z.sameBut f (cne y c e)⟩
  ·obtain⟨w',z⟩:=I.cell y c e;exact⟨w',z.sameBut f (cne y c e)⟩
  ·obtain⟨e,n,ne,T,d⟩:=I.pin p P;exact⟨(f.2 p.1 ne).trans e,n,ne,T,d⟩
 ·have C:X.fn x=true:=by
   rcases Y with z|z
   ·exact z
   ·rw[z] at hk;cases hk
  obtain⟨c,hc⟩:=I.ok.has x (.inl hk);obtain⟨w',z⟩:=I.cell x c hc;refine wpAny_storeName_cell I.ok.kind hk hc z (λh' F f=>?_);obtain⟨oc,G,J⟩:=id z;refine h { s with heap:=h' } ⟨I.ok,I.os,I.bare,⟨λb o e n B hx=>?_,λb o e n B hx=>?_,I.base.free,λb o e hx=>?_,I.base.tups,I.base.frzs,I.base.tbls⟩,⟨m,hn.sameBut f (Ne.symm (cne x c hc)),λj y v' e1 e2 e3=>?_⟩,λy c' e=>?_,I.free,I.freeC,λp P=>?_,g ⟨oc,G,I.freeC x c hc⟩ f,by simpa using I.len⟩ ⟨c,f,.inr hc⟩
  ·exact(f.2 b (IF (Ik (Ij e) (I.ok.cab x c C hc)))).trans (I.base.keep b o e n B hx)
  ·obtain⟨sl,e1⟩:=I.base.slot b o e n B hx;exact⟨sl,(f.2 b (IF (Ik (Ij e) (I.ok.cab x c C hc)))).trans e1⟩
  ·obtain⟨o',e1⟩:=I.base.there b o e hx;exact⟨o',(f.2 b (IF (Ik (Ij e) (I.ok.cab x c C hc)))).trans e1⟩
  ·by_cases hj:j=i
   ·subst hj;rw[hi] at e1;cases e1;rw[Iy t] at e2;cases e2;exact⟨u,r,.inr ⟨.inl hk,c,hc,F⟩⟩
   ·rw[Ip (Ne.symm hj)] at e2;obtain⟨R,S,q⟩:=W j y v' e1 e2 e3;refine⟨R,S,?_⟩;rcases q with q|⟨k,c',e,z'⟩
    ·exact .inl q
    ·refine .inr ⟨k,c',e,z'.sameBut f ?_⟩;rintro rfl;exact hj (qA U e1 (I.ok.inj _ _ _ e hc▸hi))
  ·by_cases K:c'=c
   ·subst K;exact⟨_,F⟩
   ·obtain⟨w2,z2⟩:=I.cell y c' e;exact⟨w2,z2.sameBut f K⟩
  ·obtain⟨e,n,ne,T,d⟩:=I.pin p P;refine⟨(f.2 p.1 ?_).trans e,n,ne,T,d⟩;intro q;rw[q,G] at e;have q':oc=p.2:=du e;exact d w' (by rw[<-q'];exact J)
theorem j9(I:Inv X pins σ H s)(a:X.N.Nodup)(hi:X.N[i]? = some x)(hx:Loc X.env.scope x)(r:bC v u)
  (h : ∀s',Inv X pins (σ.set i (some v)) H s'->Q () s') (b:X.fn x=true\/X.env.scope.names.lookup x=some .local:=by first|exact .inl rfl|exact .inr rfl|assumption):j4 M A (storeName X.env x u) Q E s :=
 lI I a hi hx r (λs' c _=>h s' c) b
theorem Inv.call'(I:Inv X pins σ H s)(ho:s'.os=s.os)(u:Un (frs X.stack) ch H H' s.heap s'.heap)(hok:HOk X.prog X.w H' s'.heap)(d:KS s'.gens)
  (a:∀b∈ch,(b∈X.ex\/X.s₀.heap.objs.size<=b)/\b≠X.env.locals/\(∀x c,X.env.cells.lookup x=some c->c≠b)/\∀p∈X.pn++pins,p.1≠b):Inv X pins σ H' s':=by obtain⟨h',g',d',t',o'⟩:=s';have e:o'=s.os:=ho;subst e;exact I.call (g':=g') (t':=t') (d':=d') u hok d a
end
abbrev XK:=ap->Option al->Hp->Prop
abbrev St:=List (Option V)
abbrev VK:=V->Hp->Prop
abbrev TE:=St->Hp->VK->Prop
abbrev TT:=St->Hp->(Bool->Hp->Prop)->Prop
abbrev TA:=St->Hp->(List V->Hp->Prop)->Prop
structure wI where
 nx : St->Hp->Prop
 rt : VK
 bk : St->Hp->Prop:=λ_ _=>False
 ct : St->Hp->Prop:=λ_ _=>False
abbrev TS:=wI->St->Hp->Prop
def EP(X:Cx)(pins:List (al×Obj))(σ:St)(Q:VK)(u:ap)(s':av):Prop:=∃v H',Inv X pins σ H' s'/\bC v u/\Q v H'
def TP(X:Cx)(pins:List (al×Obj))(σ:St)(Q:Bool->Hp->Prop)(b:Bool)(s':av):Prop:=∃H',Inv X pins σ H' s'/\Q b H'
def AP(X:Cx)(pins:List (al×Obj))(σ:St)(Q:List V->Hp->Prop)(us:List ap)(s':av):Prop:=∃vs H',Inv X pins σ H' s'/\bf vs us/\Q vs H'
def SP(X:Cx)(pins:List (al×Obj))(D:wI)(f:Flow)(s':av):Prop :=
 match f with
 | .next=>∃σ' H',Inv X pins σ' H' s'/\D.nx σ' H'
 | .brk=>∃σ' H',Inv X pins σ' H' s'/\D.bk σ' H'
 | .cont=>∃σ' H',Inv X pins σ' H' s'/\D.ct σ' H'
 | .ret u=>∃v σ' H',Inv X pins σ' H' s'/\bC v u/\D.rt v H'
def PE(X:Cx)(e:ba)(t:TE):Prop :=
 ∀(pins:List (al×Obj)) (s:av) (σ:St) (H:Hp) (Q:VK),Inv X pins σ H s->t σ H Q->j4 (kf X.prog X.w) X.A (eval e X.env) (EP X pins σ Q) X.xe s
def PT(X:Cx)(e:ba)(t:TT):Prop :=
 ∀(pins:List (al×Obj)) (s:av) (σ:St) (H:Hp) (Q:Bool->Hp->Prop),Inv X pins σ H s->t σ H Q->j4 (kf X.prog X.w) X.A (K2 e X.env (eval e X.env)) (TP X pins σ Q) X.xe s
def PW(X:Cx)(e:ba)(t:TT):Prop :=
 ∀(a:Sem ap) (pins:List (al×Obj)) (s:av) (σ:St) (H:Hp) (Q:Bool->Hp->Prop),Inv X pins σ H s->t σ H Q->j4 (kf X.prog X.w) X.A (K2 e X.env a) (TP X pins σ Q) X.xe s
theorem PW.pt(h:PW X e t):PT X e t:=h _
def PA(X:Cx)(es:List ba)(t:TA):Prop :=
 ∀(pos:Pos) (pins:List (al×Obj)) (s:av) (σ:St) (H:Hp) (Q:List V->Hp->Prop),Inv X pins σ H s->t σ H Q->j4 (kf X.prog X.w) X.A (spliced (qs pos (j1 es X.env))) (AP X pins σ Q) X.xe s
def PS(X:Cx)(st:Stmt)(t:TS):Prop :=
 ∀(pins:List (al×Obj)) (s:av) (σ:St) (H:Hp) (D:wI),Inv X pins σ H s->t D σ H->j4 (kf X.prog X.w) X.A (exec st X.env) (SP X pins D) X.xe s
def PSs(X:Cx)(st:List Stmt)(t:TS):Prop :=
 ∀(pins:List (al×Obj)) (s:av) (σ:St) (H:Hp) (D:wI),Inv X pins σ H s->t D σ H->j4 (kf X.prog X.w) X.A (execs st X.env) (SP X pins D) X.xe s
theorem thn{α:Type}{t:Sem α}{Q b:α->av->Prop}{M:Model}{A:Around}{E:ap->av->Prop}{s:av}(h:j4 M A t Q E s)(c:∀a s,Q a s->b a s):j4 M A t b E s:=q5 h c λ_ _ x=>x
section
variable {X:Cx}
def iE(i:Nat):TE:=λσ H Q=>∃v,σ[i]? = some (some v)/\Q v H
def tC(v:V):TE:=λ_ H Q=>Q v H
theorem aG{i:Nat}{x:bt}{pos:Pos}(d:X.N[i]? = some x)(f:Vis X.env.scope x)(hd:(x==("__debug__" : bt))=false:=by decide)(b:(x==("__classdict__" : bt))=false:=by decide):PE X (.Name x pos) (iE i):=by
 intro pins s σ H Q I h;obtain⟨v,e,h⟩:=h;obtain⟨m,hn,g⟩:=I.loc;obtain⟨u,r,l⟩:=g i x v d e f;have fin:EP X pins σ Q u s:=⟨v,H,I,r,h⟩
 rcases l with⟨hk,j⟩|⟨hk,c,hc,a⟩
 ·exact wpAny_Name (wpAny_loadName_local I.ok.kind hk hn j fin) hd
 ·rcases hk with hk|hk
  ·exact wpAny_Name (wpAny_loadName_cell I.ok.kind hk hc a fin) hd
  ·exact wpAny_Name (wpAny_loadName_free I.ok.kind hk hc a fin b) hd
theorem bU:PE X (.Constant (.int i) j pos) (tC (.int i)):=λ_ _ _ H _ I h=>wpAny_Constant_int ⟨.int i,H,I.tok _,⟨_,rfl⟩,h⟩
theorem FR:PE X (.Constant (.bool b) j pos) (tC (.bl b)):=λ_ _ _ H _ I h=>Constant_bool ⟨.bl b,H,I,rfl,h⟩
theorem uC:PE X (.Constant .none j pos) (tC .non):=λ_ _ _ H _ I h=>Constant_none ⟨.non,H,I,rfl,h⟩
def Gl(X:Cx)(x:bt):Prop:=X.env.kindOf x=some .globalImplicit
theorem Bd{E:ap->av->Prop}{pins:List (al×Obj)}{s:av}{σ:St}{H:Hp}{x:bt}{u:ap}{pos:Pos}{Q:ap->av->Prop}(I:Inv X pins σ H s)(a:Gl X x)(b:X.mg x=some u)(h:Q u s)
  (hd:(x==("__debug__" : bt))=false:=by decide):j4 (kf X.prog X.w) X.A (eval (.Name x pos) X.env) Q E s :=
 Calls.Name_function_global I.ok.kind a (Calls.loadGlobal_global (by rw[I.ok.glob];exact I.mod.glob.keeps I.bk) b h) hd
theorem gP{E:ap->av->Prop}{pins:List (al×Obj)}{s:av}{σ:St}{H:Hp}{x:bt}{u:ap}{pos:Pos}{Q:ap->av->Prop}(I:Inv X pins σ H s)(a:Gl X x)(b:X.mg x=none)(c:J6 x=some u)(h:Q u s)
  (hn:x ≠ "__name__" := by decide) (hd:(x==("__debug__" : bt))=false:=by decide):j4 (kf X.prog X.w) X.A (eval (.Name x pos) X.env) Q E s:=by obtain⟨mb,h1,h2⟩:=I.mod.blt;exact Calls.Name_function_global I.ok.kind a (Calls.loadGlobal_builtin (by rw[I.ok.glob];exact I.mod.glob.keeps I.bk) b (by rw[I.ok.blt];exact h1.keeps I.bk) ((h2 x hn).trans c) h) hd
theorem AY{x:bt}{v:V}{u:ap}{pos:Pos}(a:Gl X x)(b:X.mg x=none)(c:J6 x=some u)(r:bC v u)(hn:x ≠ "__name__" := by decide)(hd:(x==("__debug__" : bt))=false:=by decide):PE X (.Name x pos) (tC v) :=
 λ_ _ _ H _ I h=>gP I a b c ⟨v,H,I,r,h⟩ hn hd
variable {a b:ba}{ta tb:TE}{pos:Pos}
def tB(t:TE):TT:=λσ H Q=>t σ H λx H1=>∃c,x=.bl c/\Q c H1
theorem Dt(h:PE X e t)(c:∀a,K2 e X.env a=(do let v <-a;Kz e.pos;Kd [v] (Qs v)):=by intro _;rfl):PT X e (tB t):=by intro pins s σ H Q I hw;refine isTrue_plain (thn (h pins s σ H _ I hw) λv s1 b=>?_) (c _);obtain⟨x,H1,f,g,i⟩:=b;obtain⟨d,rfl,q⟩:=i;cases g;exact zb ⟨H1,f,q⟩
variable {tA tB':TT}{rest:List ba}
def Hq(t u:TT):TT:=λσ H Q=>t σ H λc H1=>if c=true then u σ H1 Q else Q false H1
def tOr(t u:TT):TT:=λσ H Q=>t σ H λc H1=>if c=true then Q true H1 else u σ H1 Q
def Hm(t:TT):TT:=λσ H Q=>t σ H λc H1=>Q (!c) H1
theorem AK(b:PT X a tA):PW X (.BoolOp .And [a] pos) tA:=by
 intro wh pins s σ H Q I h;refine isTrue_and (thn (b pins s σ H Q I h) λc s1 e=>?_);cases c with
 | true=>exact isTrue_and_nil e
 | false=>exact e
theorem Dq(b:PT X a tA):PW X (.BoolOp .Or [a] pos) tA:=by
 intro wh pins s σ H Q I h;refine isTrue_or (thn (b pins s σ H Q I h) λc s1 e=>?_);cases c with
 | false=>exact isTrue_or_nil e
 | true=>exact e
theorem Ds(g:PT X a tA)(i:PW X (.BoolOp .And (b::rest) pos) tB'):PW X (.BoolOp .And (a::b::rest) pos) (Hq tA tB'):=by
 intro wh pins s σ H Q I h;refine isTrue_and (thn (g pins s σ H _ I h) λc s1 d=>?_);obtain⟨H1,e,f⟩:=d;cases c with
 | true=>exact i wh pins s1 σ H1 Q e f
 | false=>exact⟨H1,e,f⟩
theorem FP(g:PT X a tA)(i:PW X (.BoolOp .Or (b::rest) pos) tB'):PW X (.BoolOp .Or (a::b::rest) pos) (tOr tA tB'):=by
 intro wh pins s σ H Q I h;refine isTrue_or (thn (g pins s σ H _ I h) λc s1 d=>?_);obtain⟨H1,e,f⟩:=d;cases c with
 | true=>exact⟨H1,e,f⟩
 | false=>exact i wh pins s1 σ H1 Q e f
theorem Du(b:PT X a tA):PT X (.UnaryOp .Not a pos) (Hm tA):=by intro pins s σ H Q I h;exact isTrue_not (b pins s σ H (λc H1=>Q (!c) H1) I h)
def FC(ta tb:TE):TE:=λσ H Q=>ta σ H λx H1=>∃c,x=.bl c/\if c=true then tb σ H1 Q else Q (.bl false) H1
theorem DH(h:PE X a t):PE X (.BoolOp op [a] pos) t:=λpins s σ H Q I hw=>BoolOp_one (h pins s σ H Q I hw)
theorem DK(g:PE X a ta)(i:PE X (.BoolOp .And (b::rest) pos) tb):PE X (.BoolOp .And (a::b::rest) pos) (FC ta tb):=by
 intro pins s σ H Q I h;refine BoolOp_and (thn (g pins s σ H _ I h) λv s1 e=>?_);obtain⟨x,H1,f,j,d⟩:=e;obtain⟨c,rfl,d⟩:=d;cases j;refine zb ?_;cases c with
 | true=>exact i pins s1 σ H1 Q f d
 | false=>exact⟨.bl false,H1,f,rfl,d⟩
def tIf(t:TT)(ta tb:TE):TE:=λσ H Q=>t σ H λc H1=>if c=true then ta σ H1 Q else tb σ H1 Q
theorem xA(hc:PT X c tA)(i:PE X a ta)(j:PE X b tb):PE X (.IfExp c a b pos) (tIf tA ta tb):=by
 intro pins s σ H Q I h;refine wpAny_IfExp (thn (hc pins s σ H _ I h) λd s1 e=>?_);obtain⟨H1,f,g⟩:=e;cases d with
 | true=>exact i pins s1 σ H1 Q f g
 | false=>exact j pins s1 σ H1 Q f g
end
def SqL(K:cc)(H:Hp)(a:al)(xs:List V):Prop :=
 Rd H a (.lst xs) \/
  ∃(o:Obj) (b:Array ap) (n:Nat),K.lookup a=some o/\o.cls=.type "list" /\ o.dict=none/\o.data=.seq b n/\b.size<=sizeLine/\bf xs b.toList
def SqT(K:cc)(H:Hp)(a:al)(xs:List V):Prop :=
 Rd H a (.tup xs) \/
  ∃(o:Obj) (b:Array ap) (n:Nat),K.lookup a=some o/\(o.cls=.type "tuple" /\ o.dict=none)/\o.data=.seq b n/\b.size<=sizeLine/\bf xs b.toList
def HK:ap->Option V
 | .none=>some .non
 | .bool b=>some (.bl b)
 | .int i _=>some (.int i)
 | .str x _=>some (.str x)
 | .bytes b _=>some (.byt b)
 | .float b _=>some (.flt b)
 | .ref a=>some (.ref a)
 | .type n=>some (.ty n)
 | _=>none
theorem bC.abs(r:bC x u):HK u=some x:=by
 cases x with
 | non=>cases r;rfl
 | bl _=>cases r;rfl
 | int _=>obtain⟨t,rfl⟩:=r;rfl
 | str _=>obtain⟨t,rfl⟩:=r;rfl
 | byt _=>obtain⟨t,rfl⟩:=r;rfl
 | flt _=>obtain⟨t,rfl⟩:=r;rfl
 | ref _=>cases r;rfl
 | ty _=>cases r;rfl
theorem bC.inj(r:bC x u)(q:bC y u):x=y:=du (r.abs.symm.trans q.abs)
theorem bf.inj(h:bf xs us):bf ys us->xs=ys:=by
 induction h generalizing ys with
 | nil =>
  intro q;cases q;rfl
 | cons r t a =>
  intro q;cases q with
  | cons b t'=>rw[r.inj b,a t']
section
variable {X:Cx}{pins:List (al×Obj)}{σ:St}{H:Hp}{s:av}{a:al}{xs ys:List V}
theorem SqL.of{K:cc}(h:H a=some (.lst xs)):SqL K H a xs:=.inl (.inl h)
theorem Inv.list(I:Inv X pins σ H s)(h:SqL X.K H a xs):∃b:List ap,bf xs b/\PlainL s.heap a b.toArray/\xs.length<=sizeLine:=by
 rcases h with h|⟨o,b,n,hk,hc,hd,c,hz,r⟩
 ·obtain⟨z,b,n,r,e⟩:=h.ok I.hok;exact⟨b,r,⟨_,n,e,rfl,rfl,rfl⟩,z⟩
 ·refine⟨b.toList,r,⟨o,n,I.kIn a o hk,hc,hd,by simpa using c⟩,?_⟩;have e:=r.length;simp only[lk] at e;omega
theorem Inv.tuple(I:Inv X pins σ H s)(h:SqT X.K H a xs):∃b:List ap,bf xs b/\IsTup s.heap a b.toArray/\xs.length<=sizeLine:=by
 rcases h with h|⟨o,b,n,hk,hc,c,hz,r⟩
 ·obtain⟨z,b,r,p⟩:=h.ok I.hok;exact⟨b,r,p.is,z⟩
 ·refine⟨b.toList,r,⟨o,I.kIn a o hk,hc.1,n,by simpa using c⟩,?_⟩;have e:=r.length;simp only[lk] at e;omega
theorem Inv.tupleN(I:Inv X pins σ H s)(h:SqT X.K H a xs):∃b:List ap,bf xs b/\wC s.heap a b.toArray:=by
 rcases h with h|⟨o,b,n,hk,hc,c,hz,r⟩
 ·obtain⟨z,b,r,p⟩:=h.ok I.hok;exact⟨b,r,p⟩
 ·exact⟨b.toList,r,⟨o,I.kIn a o hk,hc.1,⟨n,by simpa using c⟩,hc.2⟩⟩
theorem Inv.list_inj(I:Inv X pins σ H s)(h:SqL X.K H a xs)(h':SqL X.K H a ys):xs=ys:=by
 obtain⟨b,r,⟨o,n,e,_,_,d⟩,_⟩:=I.list h;obtain⟨its',c,⟨o',f,e',_,_,d'⟩,_⟩:=I.list h';rw[e] at e';cases e';rw[d] at d';injection d' with d1 _;have:b=its':=by simpa using congrArg MA d1
 subst this;exact r.inj c
theorem Inv.tuple_inj(I:Inv X pins σ H s)(h:SqT X.K H a xs)(h':SqT X.K H a ys):xs=ys:=by
 obtain⟨b,r,⟨o,e,_,n,d⟩,_⟩:=I.tuple h;obtain⟨its',c,⟨o',e',_,f,d'⟩,_⟩:=I.tuple h';rw[e] at e';cases e';rw[d] at d';injection d' with d1 _;have:b=its':=by simpa using congrArg MA d1
 subst this;exact r.inj c
end
abbrev Cx.wish(X:Cx)(E:ap->av->Prop):Cx:={ X with xe:=E }
abbrev Cx.nox(X:Cx):Cx:=X.wish λ_ _=>False
theorem Cx.Ok.wish{X:Cx}(ok:X.Ok)(E:ap->av->Prop):(X.wish E).Ok :=
 ⟨ok.mod,ok.kind,ok.glob,ok.blt,ok.above,ok.inj,ok.has,ok.cab,ok.hd,ok.frames,ok.stk,ok.exf,ok.bs,ok.bsz,ok.noex,ok.exfs,ok.funs,ok.frf,ok.tab⟩
theorem Cx.Ok.unwish{X:Cx}(ok:(X.wish E).Ok):X.Ok :=
 ⟨ok.mod,ok.kind,ok.glob,ok.blt,ok.above,ok.inj,ok.has,ok.cab,ok.hd,ok.frames,ok.stk,ok.exf,ok.bs,ok.bsz,ok.noex,ok.exfs,ok.funs,ok.frf,ok.tab⟩
section
variable {X:Cx}{pins:List (al×Obj)}{σ:St}{H:Hp}{s:av}{E:ap->av->Prop}
theorem Inv.wish(I:Inv X pins σ H s)(E:ap->av->Prop):Inv (X.wish E) pins σ H s:=⟨I.ok.wish E,I.os,I.bare,I.base,I.loc,I.cell,I.free,I.freeC,I.pin,I.hok,I.len⟩
theorem Inv.unwish(I:Inv (X.wish E) pins σ H s):Inv X pins σ H s:=⟨I.ok.unwish,I.os,I.bare,I.base,I.loc,I.cell,I.free,I.freeC,I.pin,I.hok,I.len⟩
theorem SP.unwish(h:SP (X.wish E) pins D f s'):SP X pins D f s':=by
 cases f with
 | next=>obtain⟨σ',H',I,q⟩:=h;exact⟨σ',H',I.unwish,q⟩
 | brk=>obtain⟨σ',H',I,q⟩:=h;exact⟨σ',H',I.unwish,q⟩
 | cont=>obtain⟨σ',H',I,q⟩:=h;exact⟨σ',H',I.unwish,q⟩
 | ret u=>obtain⟨v,σ',H',I,r,q⟩:=h;exact⟨v,σ',H',I.unwish,r,q⟩
theorem PSs.nox{st:List Stmt}{t:TS}(h:PSs X.nox st t):PSs X st t:=λpins s σ H D I hw =>
 q5 (h pins s σ H D (I.wish _) hw) (λ_ _ q=>q.unwish) λ_ _ z=>False.elim z
end
section
variable {X:Cx}{st:Stmt}{rest:List Stmt}{t u:TS}
def CM:TS:=λD σ H=>D.nx σ H
def EZ(t u:TS):TS:=λD σ H=>t { D with nx:=u D } σ H
theorem ur:PSs X [] CM:=λ_ _ σ H _ I h=>KT ⟨σ,H,I,h⟩
theorem c7(h1:PS X st t)(h2:PSs X rest u):PSs X (st::rest) (EZ t u):=by
 intro pins s σ H D I h;refine Qi (thn (h1 pins s σ H { D with nx:=u D } I h) λf s1 q=>?_);cases f with
 | next =>
  obtain⟨σ',H',a,q⟩:=q;exact h2 pins s1 σ' H' D a q
 | ret v=>exact q
 | brk=>exact q
 | cont=>exact q
theorem iJ(h1:PS X st t):PSs X [st] t:=by
 intro pins s σ H D I h;refine Qi (thn (h1 pins s σ H D I h) λf s1 q=>?_);cases f with
 | next=>exact KT q
 | ret v=>exact q
 | brk=>exact q
 | cont=>exact q
def CO:TS:=λD σ H=>D.bk σ H
def FB:TS:=λD σ H=>D.ct σ H
theorem xw:PS X (.Break pos) CO:=λ_ _ σ H _ I h=>wpAny_Break ⟨σ,H,I,h⟩
theorem ou:PS X (.Continue pos) FB:=λ_ _ σ H _ I h=>wpAny_Continue ⟨σ,H,I,h⟩
theorem Inv.quiet{pins:List (al×Obj)}{σ:St}{H:Hp}{s:av}(I:Inv X pins σ H s):interactive X.env=false:=by simp[interactive,I.ok.kind]
def CN(te:TE):TS:=λD σ H=>te σ H λ_ H1=>D.nx σ H1
theorem gp(a:PE X e te)(b:Kn e none pos.line X.env=pure false:=by rfl):PS X (.Expr e pos) (CN te):=by intro pins s σ H D I h;exact wpAny_Expr_any (thn (a pins s σ H _ I h) λv s1 ⟨x,H1,c,f,d⟩=>⟨σ,H1,c,d⟩) I.quiet b
def Fu(te:TE):TS:=λD σ H=>te σ H D.rt
theorem ut(a:PE X e te):PS X (.Return (some e) pos) (Fu te):=by intro pins s σ H D I h;exact wpAny_Return_some (thn (a pins s σ H _ I h) λv s1 ⟨x,H1,b,c,d⟩=>⟨x,σ,H1,b,c,d⟩)
def GR(c:TT)(t u:TS):TS:=λD σ H=>c σ H λb H1=>if b=true then t D σ H1 else u D σ H1
theorem Dv(hc:PT X c tc)(i:PSs X a t)(j:PSs X b u):PS X (.If c a b pos) (GR tc t u):=by
 intro pins s σ H D I h;refine wpAny_If (thn (hc pins s σ H _ I h) λd s1 e=>?_);obtain⟨H1,f,g⟩:=e;cases d with
 | true=>exact i pins s1 σ H1 D f g
 | false=>exact j pins s1 σ H1 D f g
end
abbrev TG:=V->St->Hp->(St->Hp->Prop)->Prop
abbrev TGs:=List V->St->Hp->(St->Hp->Prop)->Prop
def PG(X:Cx)(a:ba)(t:TG):Prop :=
 ∀(pins:List (al×Obj)) (s:av) (σ:St) (H:Hp) (v:V) (u:ap) (Q:St->Hp->Prop),Inv X pins σ H s->bC v u->t v σ H Q ->
  j4 (kf X.prog X.w) X.A (Kh a X.env u) (λ_ s'=>∃σ' H',Inv X pins σ' H' s'/\Q σ' H') X.xe s
def PGs(X:Cx)(ts:List ba)(t:TGs):Prop :=
 ∀(pins:List (al×Obj)) (s:av) (σ:St) (H:Hp) (vs:List V) (us:List ap) (Q:St->Hp->Prop),Inv X pins σ H s->bf vs us->t vs σ H Q ->
  j4 (kf X.prog X.w) X.A (assignInOrder ((qb ts X.env).map (·.2)) us) (λ_ s'=>∃σ' H',Inv X pins σ' H' s'/\Q σ' H') X.xe s
abbrev Fo:=V->V->V->Hp->(Hp->Prop)->Prop
def GK(X:Cx)(t:Fo):Prop :=
 ∀(pins:List (al×Obj)) (s:av) (σ:St) (H:Hp) (o i v:V) (ov iv u:ap) (Q:Hp->Prop),Inv X pins σ H s->bC o ov->bC i iv->bC v u->t o i v H Q ->
  j4 (kf X.prog X.w) X.A (Qn ov iv u) (λ_ s'=>∃H',Inv X pins σ H' s'/\Q H') X.xe s
abbrev TIp:=V->V->Hp->VK->Prop
def PIp(X:Cx)(op:Qw)(t:TIp):Prop :=
 ∀(pins:List (al×Obj)) (s:av) (σ:St) (H:Hp) (x y:V) (v u:ap) (Q:VK),Inv X pins σ H s->bC x v->bC y u->t x y H Q ->
  j4 (kf X.prog X.w) X.A (inplaceOp op v u) (EP X pins σ Q) X.xe s
section
variable {X:Cx}{pos:Pos}
def fD(i:Nat):TG:=λv σ H Q=>Q (σ.set i (some v)) H
theorem c9(a:X.N.Nodup)(hi:X.N[i]? = some x)(hx:Loc X.env.scope x)(b:X.fn x=true\/X.env.scope.names.lookup x=some .local:=by first|exact .inl rfl|exact .inr rfl|assumption):PG X (.Name x pos) (fD i):=by intro pins s σ H v u Q I r h;exact wpAny_assign_Name (j9 I a hi hx r (λs' c=>⟨_,H,c,h⟩) b)
def F8:TGs:=λvs σ H Q=>vs=[]/\Q σ H
def sM(t:TG)(u:TGs):TGs:=λvs σ H Q=>∃v r,vs=v::r/\t v σ H λσ' H'=>u r σ' H' Q
theorem oD:PGs X [] F8:=by intro pins s σ H vs us Q I r h;obtain⟨e,h⟩:=h;subst e;cases r;exact assignInOrder_nil ⟨σ,H,I,h⟩
theorem eM(h1:PG X e t)(h2:PGs X es u)
  (c:(qb (e::es) X.env).map (·.2)=Kh e X.env::(qb es X.env).map (·.2):=by rfl):PGs X (e::es) (sM t u):=by
 intro pins s σ H vs us Q I r h;obtain⟨v,g,e1,h⟩:=h;subst e1;cases r with
 | cons r rr =>
  rw[c];refine assignInOrder_cons (thn (h1 pins s σ H _ _ _ I r h) λ_ s1 a=>?_);obtain⟨b,H1,d,f⟩:=a;exact h2 pins s1 b H1 _ _ Q d rr f
def E8(K:cc)(n:Nat)(t:TGs):TG:=λv σ H Q=>∃a xs,v=.ref a/\SqT K H a xs/\xs.length=n/\t xs σ H Q
theorem DC{es:List ba}{k:Nat}{t:TGs}{n:Nat}(hc:X.calm=true)(h:PGs X es t)
  (hn:(qb es X.env).length=n:=by rfl) (c:(qb es X.env).findIdx? (·.1)=none:=by rfl):PG X (.Tuple es k pos) (E8 X.K n t):=by intro pins s σ H v u Q I r hw;obtain⟨a,xs,e1,f,g,hw⟩:=hw;subst e1;cases r;obtain⟨i,d,j,hz⟩:=I.tuple f;refine assign_Tuple_tuple (I.ok.hd hc) j (by simp[hn,<-g,d.length]) c λh' hx=>?_;have l:Inv X pins σ H { s with heap:=h' }:=I.kept (t':=s.toks) λb o e=>hx b o (IF (Ij e)) e;exact h pins _ σ H xs _ Q l (by simpa using d) hw
def HD(to a:TE)(t:Fo):TG:=λv σ H Q=>to σ H λo H1=>a σ H1 λi b=>t o i v b λc=>Q σ c
theorem zj(ho:PE X o to)(hi:PE X i d)(e:GK X t)
  (f:∀v,Kh (.Subscript o i pos) X.env v=(do
   let ov <-Kd [v] (eval o X.env)
   let iv <-Kd [v,ov] (eval i X.env)
   Kz pos
   Kd [v,ov,iv] (Qn ov iv v)
   release [v,ov,iv] []):=by intro _;rfl):PG X (.Subscript o i pos) (HD to d t):=by intro pins s σ H v u Q I r h;rw[f];refine jj (ze (thn (ho pins s σ H _ I h) λov s1 a=>?_));obtain⟨x,H1,g,j,k⟩:=a;refine jj (ze (thn (hi pins s1 σ H1 _ g k) λiv s2 b=>?_));obtain⟨y,l,m,n,p⟩:=b;refine jj (KH (jj (ze (thn (e pins s2 σ l x y v ov iv u _ m j n r p) λ_ A c=>?_))));obtain⟨q,w,z⟩:=c;exact wpAny_release ⟨σ,q,w,z⟩
def Co(te:TE)(g:TG):TS:=λD σ H=>te σ H λx H1=>g x σ H1 D.nx
theorem qy(b:PE X e te)(c:PG X tg g)(d:KI [tg] e pos.line X.env=pure false:=by rfl)(hw:KJ [tg] e X.env=pure none:=by rfl)
  (h1:(qb [tg] X.env).map (·.2)=[Kh tg X.env]:=by rfl):PS X (.Assign [tg] e pos) (Co te g):=by intro pins s σ H D I h;refine wpAny_Assign_stores (thn (b pins s σ H _ I h) λv s1 a=>?_) d hw;obtain⟨x,H1,f,i,j⟩:=a;rw[h1];exact thn (c pins s1 σ H1 x v _ f i j) λ_ s2 q=>q
theorem zi(b:X.N.Nodup)(hi:X.N[i]? = some x)(hx:Loc X.env.scope x)(c:PE X e te)(d:Kn e (some (.Name x pos')) pos.line X.env=pure false:=by rfl)(f:X.fn x=true\/X.env.scope.names.lookup x=some .local:=by first|exact .inl rfl|exact .inr rfl|assumption) :
  PS X (.Assign [.Name x pos'] e pos) (Co te (fD i)):=by intro pins s σ H D I h;refine wpAny_Assign_Name (thn (c pins s σ H _ I h) λv s1 a=>?_) d;obtain⟨y,H1,g,j,k⟩:=a;exact j9 g b hi hx j (λs2 l=>⟨_,H1,l,k⟩) f
def Ho(i:Nat)(te:TE)(a:TIp):TS:=λD σ H=>∃x,σ[i]? = some (some x)/\te σ H λy H1=>a x y H1 λz b=>D.nx (σ.set i (some z)) b
theorem Dw(o:X.N.Nodup)(hi:X.N[i]? = some x)(hx:Loc X.env.scope x)(p:PE X e te)(ho:PIp X op n)(q:X.fn x=true\/X.env.scope.names.lookup x=some .local:=by first|exact .inl rfl|exact .inr rfl|assumption) :
  PS X (.AugAssign (.Name x pos') op e pos) (Ho i te n):=by
 intro pins s σ H D I h;obtain⟨v,e1,h⟩:=h;obtain⟨m,hn,t⟩:=I.loc;have f:Vis X.env.scope x:=by rcases hx with k|k;exact .inl k;exact .inr (.inl k)
 obtain⟨u,r,l⟩:=t i x v hi e1 f;refine wpAny_AugAssign_Name ?_;have go:j4 (kf X.prog X.w) X.A (eval e X.env) (λw b=>j4 (kf X.prog X.w) X.A (inplaceOp op u w) (λr d=>j4 (kf X.prog X.w) X.A (storeName X.env x r) (λ_=>SP X pins D .next) X.xe d) X.xe b) X.xe s:=by refine thn (p pins s σ H _ I h) λw s1 g=>?_;obtain⟨y,H1,B,C,E⟩:=g;refine thn (ho pins s1 σ H1 v y u w _ B r C E) λz s2 j=>?_;obtain⟨O,F,G,J,K⟩:=j;exact j9 G o hi hx J (λP L=>⟨_,F,L,K⟩) q
 rcases l with⟨hk,M⟩|⟨hk,c,hc,a⟩
 ·exact wpAny_loadName_local I.ok.kind hk hn M go
 ·rcases hk with hk|hk
  ·exact wpAny_loadName_cell I.ok.kind hk hc a go
  ·rcases hx with k|k
   ·have:X.env.scope.names.lookup x=some .free:=hk;rw[k] at this;cases this
   ·have:X.env.scope.names.lookup x=some .free:=hk;rw[k] at this;cases this
def ipI(f:Int->Int->Int):TIp:=λx y H Q=>∃i j,x=.int i/\y=.int j/\Q (.int (f i j)) H
theorem Ei:PIp X .Add (ipI λi j=>i+j):=by intro pins s σ H x y v u Q I a b h;obtain⟨i,j,e1,e2,q⟩:=h;subst e1;subst e2;obtain⟨t,rfl⟩:=a;obtain⟨t',rfl⟩:=b;exact iadd_int ⟨.int _,H,I.tok _,⟨_,rfl⟩,q⟩
end
section
def CL(c:TT)(tb:TS):TS:=λD σ H=>∃W:Nat->St->Hp->Prop,(∃m,W m σ H)/\∀m σ H,W m σ H ->
 c σ H λb H1=>if b=true then ∃N:St->Hp->Prop,(∀σ' H',N σ' H'->∃a,a<m/\W a σ' H')/\tb { D with nx:=N,ct:=N,bk:=D.nx } σ H1 else D.nx σ H1
theorem xu(r:PassesOwn (kf X.prog X.w) X.A X.env X.xe)(hc:PT X c tc)(y:PSs X body tb):PS X (.While c body [] pos) (CL tc tb):=by
 intro pins s σ H D I h;obtain⟨W,⟨z,B⟩,e⟩:=h;refine wpAny_While (codeAny_whileLoop (λn s'=>∃σ' H',Inv X pins σ' H' s'/\W n σ' H') ?_ z ⟨σ,H,I,B⟩);rintro n s1 ⟨d,H1,C,E⟩;refine Ka r (thn (hc pins s1 d H1 _ C (e n d H1 E)) λb s2 k=>?_);obtain⟨t,u,i⟩:=k;cases b with
 | true =>
  obtain⟨N,x,i⟩:=i;rw[ME rfl];refine Ka r (thn (y pins s2 d t _ u i) λf F j=>?_);cases f with
  | next =>
   obtain⟨a,g,l,m⟩:=j;obtain⟨o,p,q⟩:=x a g m;exact⟨o,p,a,g,l,q⟩
  | cont =>
   obtain⟨a,g,l,m⟩:=j;obtain⟨o,p,q⟩:=x a g m;exact⟨o,p,a,g,l,q⟩
  | brk=>exact j
  | ret v=>exact j
 | false =>
  rw[MF IA];exact KT ⟨d,t,u,i⟩
end
structure It where
 go : Nat->Hp->Prop
 yld:Nat->Hp->V->Hp->Prop
 stop:Nat->Hp->Prop
def iz(X:Cx)(pins:List (al×Obj))(H:Hp)(b:al):Prop :=
 H b=none/\b≠X.env.locals/\b ∉ X.fs/\(b∈X.ex\/X.s₀.heap.objs.size<=b)/\(∀x c,X.env.cells.lookup x=some c->c≠b)/\∀p∈X.pn++pins,p.1≠b
theorem Inv.fpOk{X:Cx}{pins:List (al×Obj)}{σ:St}{H H':Hp}{s:av}{b:al}(I:Inv X pins σ H s)(a:s.heap.objs.size<=b)(hn:H' b=none):iz X pins H' b:=by
 refine⟨hn,Jw (Ik I.lt a),I.nofs a,.inr (Ie I.sz a),λx c e z=>?_,λp d z=>?_⟩
 ·obtain⟨v,q⟩:=I.cell x c e;exact absurd (Ik q.lt (by rw[z];exact a)) (Ji _)
 ·exact absurd (Ik (Ij (I.pin p d).1) (by rw[z];exact a)) (Ji _)
structure Ck(P:kq)(w:k0)(K:cc)(tg:ba)(J:It)(fp:List al)(it:al)(tn:Nat->bb->Prop):Prop where
 mem:it∈fp
 obj:∀i h,tn i h->∀b∈fp,∃o,h.get? b=some o/\∀v,o.data≠.cell v
 keep:∀i h h',tn i h->(∀b∈fp,∀o,h.get? b=some o->h'.get? b=some o)->tn i h'
 item:∀(X:Cx),X.prog=P->X.w=w->X.K=K->X.calm=true->∀(i:Nat) (pins:List (al×Obj)) (s:av) (σ:St) (H:Hp) (E:ap->av->Prop),Inv X pins σ H s->(∀b∈fp,iz X pins H b)->tn i s.heap->J.go i H ->
  j4 (kf P w) X.A (Qb (.ref it)) (λr s1=>∃u,r=some u /\
   j4 (kf P w) X.A (KW tg (.ref it) u) (λ_ s2=>∃x H',Inv X pins σ H' s2/\bC x u/\J.yld i H x H'/\tn (i+1) s2.heap/\∀b∈fp,H' b=none) E s1) E s
 done:∀(X:Cx),X.prog=P->X.w=w->X.K=K->X.calm=true->∀(i:Nat) (pins:List (al×Obj)) (s:av) (σ:St) (H:Hp) (E:ap->av->Prop),Inv X pins σ H s->(∀b∈fp,iz X pins H b)->tn i s.heap->J.stop i H ->
  j4 (kf P w) X.A (Qb (.ref it)) (λr s1=>r=none/\Inv X pins σ H s1) E s
 self:∀(A:Around) (i:Nat) (s:av) (Q:ap->av->Prop) (E:ap->av->Prop),tn i s.heap->Q (.ref it) s->j4 (kf P w) A (pyIter (.ref it)) Q E s
abbrev TI:=St->Hp->(It->Hp->Prop)->Prop
def PIE(X:Cx)(pins:List (al×Obj))(σ:St)(tg:ba)(R:It->Hp->Prop)(a:ap)(s2:av):Prop :=
 ∃(it:al) (fp:List al) (tn:Nat->bb->Prop) (J:It) (H':Hp),a=.ref it/\Inv X pins σ H' s2/\Ck X.prog X.w X.K tg J fp it tn/\tn 0 s2.heap/\(∀b∈fp,iz X pins H' b)/\R J H'
def PI(X:Cx)(tg iter:ba)(a:TI):Prop :=
 ∀(pins:List (al×Obj)) (s:av) (σ:St) (H:Hp) (R:It->Hp->Prop),Inv X pins σ H s->a σ H R ->
  j4 (kf X.prog X.w) X.A (eval iter X.env) (λv s1=>j4 (kf X.prog X.w) X.A (pyIter v) (PIE X pins σ tg R) X.xe s1) X.xe s
theorem Br(ho:s.heap.get? it=some o)(hc:o.cls=.type n)(hd:o.data=.fields vs)
    (hn:["enumerate", "zip", "dict_itemiterator", "dict_reverseitemiterator", "odict_iterator", "itertools.zip_longest", "itertools.pairwise"].contains n=false) (a:Q () s):j4 M A (KW tg (.ref it) u) Q E s:=by
  unfold KW;cases tg <;> first
    | exact j0 a
    | (cases u <;> first
        | exact j0 a
        | (refine jj (wpAny_load ho ?_)
           rw[hc,hd];show j4 M A (if (["enumerate", "zip", "dict_itemiterator", "dict_reverseitemiterator", "odict_iterator", "itertools.zip_longest", "itertools.pairwise"].contains n&&vs[0]?==some (KC _))=true then _ else _) Q E s;rw[MF (by intro h;rw[hn,Ms] at h;cases h)];exact j0 a))
def Itl(K:cc)(a:al):It :=
 ⟨λi H=>∃xs x,SqL K H a xs/\xs[i]? = some x,λi H x H'=>H'=H/\∀xs,SqL K H a xs->xs[i]? = some x,λi H=>∃xs,SqL K H a xs/\xs.length<=i⟩
def Itt(K:cc)(a:al):It :=
 ⟨λi H=>∃xs x,SqT K H a xs/\xs[i]? = some x,λi H x H'=>H'=H/\∀xs,SqT K H a xs->xs[i]? = some x,λi H=>∃xs,SqT K H a xs/\xs.length<=i⟩
def Itr(lo:Int)(n:Nat):It:=⟨λi _=>i<n,λi H x H'=>H'=H/\x=.int (lo+i),λi _=>n<=i⟩
theorem tE{P:kq}{w:k0}{K:cc}{tg:ba}(a it:al):Ck P w K tg (Itl K a) [it] it (λi h=>h.IsListIter it a i) where
 mem:=by simp
 obj:=λi h st b f=>by
  have e:b=it:=by simpa using f
  subst e;obtain⟨o,e,c,d⟩:=st;exact⟨o,e,λv z=>by rw[d] at z;cases z⟩
 keep:=λi h h' st k=>st.at λo e=>k it (by simp) o e
 item:=by intro X m hw hK hc i pins s σ H E I j st n;subst m hw hK;obtain⟨xs,x,l,hx⟩:=n;obtain⟨q,r,p,hz⟩:=I.list l;obtain⟨u,D,F⟩:=r.get hx;obtain⟨t,y,G,A,B,C⟩:=j it (by simp);refine wpAny_pyNext_list_item st p.isList (x:=u) (by simpa using D) λh' g J=>?_;have L:Inv X pins σ H { s with heap:=h' }:=I.turned (t':=s.toks) (λb o f e=>(J.2 b f).trans e) t y A B C;obtain⟨o,e,c,d⟩:=id g;exact⟨u,rfl,Br (s:={ s with heap:=h' }) e c d (by decide) ⟨x,H,L,F,⟨rfl,λys M=>by rw[I.list_inj M l];exact hx⟩,g,λb f=>(j b f).1⟩⟩
 done:=by intro X m hw hK hc i pins s σ H E I j st n;subst m hw hK;obtain⟨xs,l,hx⟩:=n;obtain⟨q,r,p,hz⟩:=I.list l;obtain⟨t,y,G,A,B,C⟩:=j it (by simp);have O:=r.length;exact wpAny_pyNext_list_end (I.ok.hd hc) st p.isList (by simp;omega) λh' N=>⟨rfl,I.turned (t':=s.toks) (λb o f e=>N b o f e) t y A B C⟩
 self:=λ_ _ _ _ _ st h=>wpAny_pyIter_listiter st h
theorem rV{P:kq}{w:k0}{K:cc}{tg:ba}(a it:al):Ck P w K tg (Itt K a) [it] it (λi h=>h.IsTupleIter it a i) where
 mem:=by simp
 obj:=λi h st b f=>by
  have e:b=it:=by simpa using f
  subst e;obtain⟨o,e,c,d⟩:=st;exact⟨o,e,λv z=>by rw[d] at z;cases z⟩
 keep:=λi h h' st k=>st.at λo e=>k it (by simp) o e
 item:=by intro X n hw hK hc i pins s σ H E I l st q;subst n hw hK;obtain⟨xs,x,m,hx⟩:=q;obtain⟨g,r,p,hz⟩:=I.tuple m;obtain⟨u,D,F⟩:=r.get hx;obtain⟨t,y,G,A,B,C⟩:=l it (by simp);refine wpAny_pyNext_tuple_item st (show s.heap.IsTuple a g.toArray from p) (x:=u) (by simpa using D) λh' j J=>?_;have L:Inv X pins σ H { s with heap:=h' }:=I.turned (t':=s.toks) (λb o f e=>(J.2 b f).trans e) t y A B C;obtain⟨o,e,c,d⟩:=id j;exact⟨u,rfl,Br (s:={ s with heap:=h' }) e c d (by decide) ⟨x,H,L,F,⟨rfl,λys M=>by rw[I.tuple_inj M m];exact hx⟩,j,λb f=>(l b f).1⟩⟩
 done:=by intro X n hw hK hc i pins s σ H E I l st q;subst n hw hK;obtain⟨xs,m,hx⟩:=q;obtain⟨g,r,p,hz⟩:=I.tuple m;obtain⟨t,y,G,A,B,C⟩:=l it (by simp);have O:=r.length;exact wpAny_pyNext_tuple_end (I.ok.hd hc) st (show s.heap.IsTuple a g.toArray from p) (by simp;omega) λh' N=>⟨rfl,I.turned (t':=s.toks) (λb o f e=>N b o f e) t y A B C⟩
 self:=λ_ _ _ _ _ st h=>wpAny_pyIter_tupleiter st h
theorem rW{P:kq}{w:k0}{K:cc}{tg:ba}(it:al)(lo:Int)(n:Nat):Ck P w K tg (Itr lo n) [it] it (λi h=>IsRangeIter h it (lo+(i:Nat)*1) ((n:Int) - (i:Nat)) 1) where
 mem:=by simp
 obj := λi h st b a=>by
  have e:b=it:=by simpa using a
  subst e;exact⟨_,st,λv z=>by
   have r:Data.fields _=Data.cell v:=z;cases r⟩
 keep:=λi h h' st k=>k it (by simp) _ st
 item:=by intro X f hw hK hc i pins s σ H E I d st g;subst f hw hK;obtain⟨j,l,u,m,p,q⟩:=d it (by simp);have W:=Walks.range (prog:=X.prog) (w:=X.w) (I.ok.hd hc) it lo 1 n;refine W.item i s _ _ g st λv h' tk x c y=>?_;obtain⟨t,rfl⟩:=x;have A:Inv X pins σ H { s with heap:=h',toks:=tk }:=I.turned (λb o a e=>y b o (by simpa using a) e) j l m p q;refine⟨_,rfl,Br (s:={ s with heap:=h',toks:=tk }) (n := "range_iterator") c rfl rfl (by decide) ⟨.int (lo+i),H,A,⟨t,?_⟩,⟨rfl,rfl⟩,c,λb a=>(d b a).1⟩⟩;rw[Int.mul_one]
 done:=by intro X f hw hK hc i pins s σ H E I d st g;subst f hw hK;obtain⟨j,l,u,m,p,q⟩:=d it (by simp);exact wpAny_pyNext_range_end (I.ok.hd hc) st (by have:n<=i:=g;omega) λh' B=>⟨rfl,I.turned (t':=s.toks) (λb o a e=>B b o a e) j l m p q⟩
 self:=λ_ _ _ _ _ st h=>wpAny_pyIter_rangeiter st h
section
def yc(K:cc)(tl:TE):TI:=λσ H R=>tl σ H λx H1=>∃a,x=.ref a/\(∃xs,SqL K H1 a xs)/\R (Itl K a) H1
def Hb(K:cc)(tl:TE):TI:=λσ H R=>tl σ H λx H1=>∃a,x=.ref a/\(∃xs,SqT K H1 a xs)/\R (Itt K a) H1
theorem iN(f:PE X l tl):PI X tg l (yc X.K tl):=by
 intro pins s σ H R I h;refine thn (f pins s σ H _ I h) λv s1 d=>?_;obtain⟨x,H1,c,g,i⟩:=d;obtain⟨a,e,⟨xs,j⟩,q⟩:=i;subst e;cases g;obtain⟨k,n,p,hz⟩:=c.list j;refine Kc p.isList ?_;refine⟨s1.heap.objs.size,[s1.heap.objs.size],_,_,H1,rfl,c.kept (t':=s1.toks) λb o e=>Ia _ e,tE a _,⟨_,Im _ rfl,rfl,rfl⟩,λb m=>?_,q⟩;have e:b=s1.heap.objs.size:=by simpa using m
 subst e;exact c.fpOk (Ih _) (c.hok.fresh (Ih _))
theorem DB(g:PE X l tl):PI X tg l (Hb X.K tl):=by
 intro pins s σ H R I h;refine thn (g pins s σ H _ I h) λv s1 d=>?_;obtain⟨x,H1,c,i,j⟩:=d;obtain⟨a,e,⟨xs,k⟩,q⟩:=j;subst e;cases i;obtain⟨f,n,p,hz⟩:=c.tuple k;refine wpAny_pyIter_tuple (show s1.heap.IsTuple a f.toArray from p) ?_;refine⟨s1.heap.objs.size,[s1.heap.objs.size],_,_,H1,rfl,c.kept (t':=s1.toks) λb o e=>Ia _ e,rV a _,⟨_,Im _ rfl,rfl,rfl⟩,λb m=>?_,q⟩;have e:b=s1.heap.objs.size:=by simpa using m
 subst e;exact c.fpOk (Ih _) (c.hok.fresh (Ih _))
theorem xj{pins:List (al×Obj)}{σ:St}{H:Hp}{s:av}{R:It->Hp->Prop}{E:ap->av->Prop}{lo hi:Int}{t u v:Tok}{tk:Nat}(I:Inv X pins σ H s)(h1:-(2 ^ 62)<=lo)(h2:lo<2 ^ 62)(c:-(2 ^ 62)<=hi)(d:hi<2 ^ 62)
  (q : R (Itr lo (hi - lo).toNat) H):j4 (kf X.prog X.w) X.A (pyIter (.ref s.heap.objs.size)) (PIE X pins σ tg R) E { s with heap:=s.heap.push { cls:=.type "range",data:=.fields #[.int lo t,.int hi u,.int 1 v] },toks:=tk }:=by
 refine wpAny_pyIter_range (IsRange.new ..) (small_one h1 h2 c d) ?_;have a:Inv X pins σ H { s with heap:=s.heap.push { cls:=.type "range",data:=.fields #[.int lo t,.int hi u,.int 1 v] },toks:=tk }:=I.kept λb o e=>Ia _ e;refine⟨(s.heap.push { cls:=.type "range",data:=.fields #[.int lo t,.int hi u,.int 1 v] }).objs.size,[(s.heap.push { cls:=.type "range",data:=.fields #[.int lo t,.int hi u,.int 1 v] }).objs.size],_,_,H,rfl,
  a.kept (t':=tk) λb o e=>Ia _ e,rW _ lo (hi - lo).toNat,?_,λb f=>?_,q⟩
 ·have e1:lo+((0:Nat):Int)*1=lo:=by simp
  have e2:(((hi - lo).toNat:Nat):Int) - ((0:Nat):Int)=Builtin.Range.rangeSize lo hi 1:=by rw[rangeSize_one];split <;> omega
  show IsRangeIter _ _ (lo+((0:Nat):Int)*1) ((((hi - lo).toNat:Nat):Int) - ((0:Nat):Int)) 1;rw[e1,e2];exact Im _ rfl
 ·have e:b=(s.heap.push { cls:=.type "range",data:=.fields #[.int lo t,.int hi u,.int 1 v] }).objs.size:=by simpa using f
  subst e;exact a.fpOk (Ih _) (a.hok.fresh (Ih _))
def F6(ta:TA):TI:=λσ H R=>ta σ H λvs H1=>∃j:Int,vs=[.int j]/\-(2 ^ 62)<=j/\j<2 ^ 62/\R (Itr 0 j.toNat) H1
theorem uz(d:Gl X "range")(f:X.mg "range" = none)(g:PA X [a] ta)(i:j1 [a] X.env=[(false,eval a X.env)]:=by rfl):PI X tg (.Call (.Name "range" p) [a] [] pos) (F6 ta):=by
 intro pins s σ H R I h;refine Call_ (gP I d f boot_range (lp (thn (g pos pins s σ H _ I h) λus s1 b=>?_) i rfl));obtain⟨vs,H1,k,l,c⟩:=b;obtain⟨j,e,c,m,q⟩:=c;subst e;cases l with
 | cons r rr =>
  cases rr;obtain⟨t,rfl⟩:=r;exact call_range_1 (xj k (by omega) (by omega) c m (by simpa using q))
def Fy(c:TI)(g:TG)(tb:TS):TS:=λD σ H=>c σ H λJ H1=>∃W:Nat->Nat->St->Hp->Prop,(∃m,W 0 m σ H1)/\∀i m σ H,W i m σ H ->
 (J.stop i H/\D.nx σ H)\/(J.go i H/\∃N:St->Hp->Prop,(∀σ' H',N σ' H'->∃b,b<m/\W (i+1) b σ' H')/\∀x H',J.yld i H x H'->g x σ H' λa d=>tb { D with nx:=N,ct:=N,bk:=D.nx } a d)
def gM(fp:List al)(h:bb):List (al×Obj):=fp.filterMap λb=>(h.get? b).map λo=>(b,o)
theorem eN(a:b∈fp)(e:h.get? b=some o):(b,o)∈gM fp h:=L0.mpr ⟨b,a,by rw[e];rfl⟩
theorem lY(a:p∈gM fp h):p.1∈fp/\h.get? p.1=some p.2:=by
 obtain⟨b,c,e⟩:=L0.mp a;cases q:h.get? b with
 | none=>rw[q] at e;cases e
 | some o =>
  rw[q] at e;have e':(b,o)=p:=du e;subst e';exact⟨c,q⟩
theorem Inv.pinned{pins:List (al×Obj)}{σ:St}{H:Hp}{s:av}{fp:List al}(I:Inv X pins σ H s)(c:∀b∈fp,iz X pins H b)(ho:∀b∈fp,∃o,s.heap.get? b=some o/\∀v,o.data≠.cell v):Inv X (pins++gM fp s.heap) σ H s :=
 I.pins_of λp f=>(HX.mp f).elim (λz=>I.pin p (HQ _ z)) λz=>by
  obtain⟨a,e⟩:=lY z;obtain⟨g,h,i,_⟩:=c p.1 a;obtain⟨o,e',d⟩:=ho p.1 a;rw[e] at e';cases e';exact⟨e,g,h,i,d⟩
theorem Inv.unpinned{pins a:List (al×Obj)}{σ:St}{H:Hp}{s:av}(I:Inv X (pins++a) σ H s):Inv X pins σ H s:=I.pins_of λp b=>I.pin p (HQ _ (HV _ b))
theorem uv{iter:ba}{body:List Stmt}{V:TI}{g:TG}{tb:TS}{pos:Pos}(y:PassesOwn (kf X.prog X.w) X.A X.env X.xe)(hc:X.calm=true)(hi:PI X tg iter V)(hg:PG X tg g)(c:PSs X body tb)
  (hs:∀x,zd iter X.env x=pure x:=by intro _;rfl):PS X (.For tg iter body [] pos) (Fy V g tb):=by
 intro pins s σ H D I h;refine wpAny_For (thn (hi pins s σ H _ I h) λv s1 h1=>thn h1 λa0 s2 h2=>?_) hs;obtain⟨it,fp,tn,J,H2,e,I2,T,G,Y,W,⟨m0,w0⟩,z⟩:=h2;subst e;have j:∀{H':Hp},(∀b∈fp,H' b=none)->∀b∈fp,iz X pins H' b:=λhn b c=>⟨hn b c,(Y b c).2⟩
 refine codeAny_forLoop_any (λn s'=>∃i σ' H',Inv X pins σ' H' s'/\tn i s'.heap/\(∀b∈fp,H' b=none)/\W i n σ' H') ?_ m0 ⟨0,σ,H2,I2,G,λb c=>(Y b c).1,w0⟩;rintro n Z ⟨i,k,F,I3,B,C,w3⟩;rcases z i n k F w3 with⟨stop,qn⟩|⟨go,N,hN,step⟩
 ·refine Ka y (thn (T.done X rfl rfl rfl hc i pins Z k F X.xe I3 (j C) B stop) λr s4 K=>?_);obtain⟨L,I4⟩:=K;subst L;exact KT ⟨k,F,I4,qn⟩
 ·refine Ka y (thn (T.item X rfl rfl rfl hc i pins Z k F X.xe I3 (j C) B go) λr s4 M=>?_);obtain⟨u,L,h4⟩:=M;subst L;refine Ka y (thn h4 λ_ s5 O=>?_);obtain⟨x,H5,I5,r5,y5,t,P⟩:=O;have Q:=I5.pinned (j P) (T.obj _ _ t);refine Ka y (thn (hg _ s5 k H5 x u _ Q r5 (step x H5 y5)) λ_ s6 R=>?_);obtain⟨S,H6,I6,q6⟩:=R;refine Ka y (thn (c _ s6 S H6 _ I6 q6) λf U q=>?_);have again:∀{a:St}{l:Hp},Inv X (pins++gM fp s5.heap) a l U->N a l->∃m,m<n/\∃i σ' H',Inv X pins σ' H' U/\tn i U.heap/\(∀b∈fp,H' b=none)/\W i m σ' H':=λ{a l} p E=>by
   obtain⟨m',hm,w7⟩:=hN a l E;refine⟨m',hm,i+1,a,l,p.unpinned,T.keep _ _ _ t λb c o e=>(p.pin (b,o) (HQ _ (HQ _ (eN c e)))).1,λb c=>?_,w7⟩;obtain⟨o,e,d⟩:=T.obj _ _ t b c;exact(p.pin (b,o) (HQ _ (HQ _ (eN c e)))).2.1
  cases f with
  | next=>obtain⟨a,l,p,E⟩:=q;exact again p E
  | cont=>obtain⟨a,l,p,E⟩:=q;exact again p E
  | brk=>obtain⟨a,l,p,q⟩:=q;exact⟨a,l,p.unpinned,q⟩
  | ret v=>obtain⟨x7,a,l,p,r7,q⟩:=q;exact⟨x7,a,l,p.unpinned,r7,q⟩
end
abbrev R2:=V->V->Hp->VK->Prop
def OpR(X:Cx)(f:ap->ap->Sem ap)(r:R2):Prop :=
 ∀(pins:List (al×Obj)) (s:av) (σ:St) (H:Hp) (x y:V) (v u:ap) (Q:VK),Inv X pins σ H s->bC x v->bC y u->r x y H Q ->
  j4 (kf X.prog X.w) X.A (f v u) (EP X pins σ Q) X.xe s
def UnR(X:Cx)(f:ap->Sem ap)(r:V->Hp->VK->Prop):Prop :=
 ∀(pins:List (al×Obj)) (s:av) (σ:St) (H:Hp) (x:V) (v:ap) (Q:VK),Inv X pins σ H s->bC x v->r x H Q ->
  j4 (kf X.prog X.w) X.A (f v) (EP X pins σ Q) X.xe s
def fg(X:Cx)(f:ap)(r:List V->Hp->VK->Prop):Prop :=
 ∀(pins:List (al×Obj)) (s:av) (σ:St) (H:Hp) (xs:List V) (us:List ap) (Q:VK),Inv X pins σ H s->bf xs us->r xs H Q ->
  j4 (kf X.prog X.w) X.A (call f us) (EP X pins σ Q) X.xe s
def HL(X:Cx)(r:V->Hp->(Bool->Hp->Prop)->Prop):Prop :=
 ∀(pins:List (al×Obj)) (s:av) (σ:St) (H:Hp) (x:V) (v:ap) (Q:Bool->Hp->Prop),Inv X pins σ H s->bC x v->r x H Q ->
  j4 (kf X.prog X.w) X.A (Qs v) (TP X pins σ Q) X.xe s
def tOp(r:R2)(ta tb:TE):TE:=λσ H Q=>ta σ H λx H1=>tb σ H1 λy a=>r x y a Q
def tUn(r:V->Hp->VK->Prop)(ta:TE):TE:=λσ H Q=>ta σ H λx H1=>r x H1 Q
def rI(C:Int->Int->Prop)(g:Int->Int->V):R2:=λx y H Q=>∃i j,x=.int i/\y=.int j/\C i j/\Q (g i j) H
def rI0(g:Int->Int->V):R2:=λx y H Q=>∃i j,x=.int i/\y=.int j/\Q (g i j) H
def rU(g:Int->V):V->Hp->VK->Prop:=λx H Q=>∃i,x=.int i/\Q (g i) H
section
theorem GJ(j:PE X a ta)(k:PE X b tb){pins:List (al×Obj)}{s:av}{σ:St}{H:Hp}{R:V->V->Hp->Prop}(I:Inv X pins σ H s)
  (h : ta σ H λx H1=>tb σ H1 λy c=>R x y c) {Q:ap->av->Prop}{f:ap->ap->Sem ap}
  (l:∀v u s2 x y c,Inv X pins σ c s2->bC x v->bC y u->R x y c->j4 (kf X.prog X.w) X.A (f v u) Q X.xe s2) :
  j4 (kf X.prog X.w) X.A (eval a X.env) (λv d=>j4 (kf X.prog X.w) X.A (eval b X.env) (λu e=>j4 (kf X.prog X.w) X.A (f v u) Q X.xe e) X.xe d) X.xe s:=by refine thn (j pins s σ H _ I h) λv s1 g=>?_;obtain⟨x,H1,m,n,o⟩:=g;refine thn (k pins s1 σ H1 _ m o) λu s2 i=>?_;obtain⟨y,c,p,q,r⟩:=i;exact l v u s2 x y c p n q r
theorem xz(ho:OpR X (Kb op) r)(c:PE X a ta)(d:PE X b tb):PE X (.BinOp a op b pos) (tOp r ta tb):=by intro pins s σ H Q I h;exact wpAny_BinOp (GJ c d I h λv u s2 x y e f g i q=>ho pins s2 σ e x y v u Q f g i q)
theorem DF(ho:UnR X (unaryOp op) r)(b:PE X a ta):PE X (.UnaryOp op a pos) (tUn r ta):=by intro pins s σ H Q I h;exact UnaryOp_ (thn (b pins s σ H _ I h) λv s1 ⟨x,H1,c,d,e⟩=>ho pins s1 σ H1 x v Q c d e)
theorem opI{f:ap->ap->Sem ap}{C:Int->Int->Prop}{g:Int->Int->Int}
  (rule:∀(i j:Int) (t u:Tok) (s:av) (Q:ap->av->Prop) (E:ap->av->Prop),C i j->Q (.int (g i j) s.toks) { s with toks:=s.toks+1 }->j4 (kf X.prog X.w) X.A (f (.int i t) (.int j u)) Q E s) :
  OpR X f (rI C λi j=>.int (g i j)):=by intro pins s σ H x y v u Q I a b h;obtain⟨i,j,rfl,rfl,hc,q⟩:=h;obtain⟨t,rfl⟩:=a;obtain⟨t',rfl⟩:=b;exact rule i j t t' s _ _ hc ⟨.int (g i j),H,I.tok _,⟨_,rfl⟩,q⟩
theorem G0{f:ap->ap->Sem ap}{g:Int->Int->Int}
  (rule:∀(i j:Int) (t u:Tok) (s:av) (Q:ap->av->Prop) (E:ap->av->Prop),Q (.int (g i j) s.toks) { s with toks:=s.toks+1 }->j4 (kf X.prog X.w) X.A (f (.int i t) (.int j u)) Q E s) :
  OpR X f (rI0 λi j=>.int (g i j)):=by intro pins s σ H x y v u Q I a b h;obtain⟨i,j,rfl,rfl,q⟩:=h;obtain⟨t,rfl⟩:=a;obtain⟨t',rfl⟩:=b;exact rule i j t t' s _ _ ⟨.int (g i j),H,I.tok _,⟨_,rfl⟩,q⟩
theorem E5{f:ap->ap->Sem ap}{g:Int->Int->Bool}
  (rule:∀(i j:Int) (t u:Tok) (s:av) (Q:ap->av->Prop) (E:ap->av->Prop),Q (.bool (g i j)) s->j4 (kf X.prog X.w) X.A (f (.int i t) (.int j u)) Q E s) :
  OpR X f (rI0 λi j=>.bl (g i j)):=by intro pins s σ H x y v u Q I a b h;obtain⟨i,j,rfl,rfl,q⟩:=h;obtain⟨t,rfl⟩:=a;obtain⟨t',rfl⟩:=b;exact rule i j t t' s _ _ ⟨.bl (g i j),H,I,rfl,q⟩
def HP(i j:Int):Prop:=0<j/\j<1073741824
def EY(i j:Int):Prop:=(-(2 ^ 64)<i/\i<2 ^ 64)\/(-(2 ^ 64)<j/\j<2 ^ 64)
theorem EY.ok(h:EY i j):IntMulOk i j:=by
 rcases h with⟨h1,h2⟩|⟨h1,h2⟩
 ·exact .of_left (intBits_le_64 h1 h2)
 ·exact .of_right (intBits_le_64 h1 h2)
theorem bI:OpR X (Kb .Add) (rI0 λi j=>.int (i+j)):=G0 λ_ _ _ _ _ _ _ q=>add_int q
theorem d4:OpR X (Kb .Sub) (rI0 λi j=>.int (i - j)):=G0 λ_ _ _ _ _ _ _ q=>sub_int q
theorem iP:OpR X (Kb .Mult) (rI EY λi j=>.int (i*j)):=opI λ_ _ _ _ _ _ _ hc q=>mul_int q hc.ok
theorem fA:OpR X (Kb .FloorDiv) (rI HP λi j=>.int (i / j)):=opI λi j _ _ _ _ _ hc q=>by
 have h1:(0:Int)<j:=hc.1;have h2:j<1073741824:=hc.2;exact floordiv_int (by omega) (by rw[Lq i (by omega)];exact q) (.inl (PyProof.noPylong_small (by omega)))
theorem bE:OpR X (Kb .Mod) (rI (λ_ j=>0<j) λi j=>.int (i % j)):=opI λi j _ _ _ _ _ hc q=>by
 have h1:(0:Int)<j:=hc;exact mod_int' (by omega) (by rw[Int.fmod_eq_emod_of_nonneg i (by omega)];exact q)
theorem unI{f:ap->Sem ap}{g:Int->Int}
  (rule:∀(i:Int) (t:Tok) (s:av) (Q:ap->av->Prop) (E:ap->av->Prop),Q (.int (g i) s.toks) { s with toks:=s.toks+1 }->j4 (kf X.prog X.w) X.A (f (.int i t)) Q E s) :
  UnR X f (rU λi=>.int (g i)):=by intro pins s σ H x v Q I a h;obtain⟨i,rfl,q⟩:=h;obtain⟨t,rfl⟩:=a;exact rule i t s _ _ ⟨.int (g i),H,I.tok _,⟨_,rfl⟩,q⟩
theorem jy:UnR X (unaryOp .USub) (rU λi=>.int (-i)):=unI λ_ _ _ _ _ q=>neg_int q
end
def GV:V->V->Bool
 | .non,.non=>true|.non,.int _=>true|.int _,.non=>true|.non,.bl _=>true|.bl _,.non=>true|.non,.str _=>true|.str _,.non=>true
 | .int _,.int _=>true|.bl _,.bl _=>true|.str _,.str _=>true|.byt _,.byt _=>true
 | .int _,.str _=>true|.str _,.int _=>true|.bl _,.str _=>true|.str _,.bl _=>true
 | _,_=>false
def rEq:R2:=λx y H Q=>GV x y=true/\Q (.bl (decide (x=y))) H
def rNe:R2:=λx y H Q=>GV x y=true/\Q (.bl (!decide (x=y))) H
theorem vF:decide (V.int i=V.int j)=(i==j):=by rw[JL];simp
theorem zN:decide (V.bl i=V.bl j)=(i==j):=by rw[JL];simp
theorem vE:decide (V.str i=V.str j)=(i==j):=by rw[JL];simp
theorem vG:decide (V.byt i=V.byt j)=(i.toList==j.toList):=by rw[JL];cases i;cases j;simp
section
variable {X:Cx}{a b c:ba}{ta tb tc:TE}{pos:Pos}
theorem aY{pins:List (al×Obj)}{σ:St}{H:Hp}{s:av}{Q:VK}{k k':Bool}(I:Inv X pins σ H s)(q:Q (.bl k) H)(e:k=k'):EP X pins σ Q (.bool k') s:=by subst e;exact⟨.bl k,H,I,rfl,q⟩
theorem km:OpR X (ky .Eq) rEq:=by
 intro pins s σ H x y v u Q I c a h;obtain⟨b,q⟩:=h;cases x with
 | non =>
  cases c;cases y with
  | non=>cases a;exact PySem.EqNone.eq_none_none (aY I q (by simp))
  | bl j=>cases a;exact PySem.EqNone.eq_none_bool (aY I q (by simp))
  | int j=>obtain⟨t',rfl⟩:=a;exact PySem.EqNone.eq_none_int (aY I q (by simp))
  | str j=>obtain⟨t',rfl⟩:=a;exact PySem.EqNone.eq_none_str (aY I q (by simp))
  | _=>exact absurd (show false=true from b) IA
 | bl i =>
  cases c;cases y with
  | non=>cases a;exact PySem.EqNone.eq_bool_none (aY I q (by simp))
  | bl j=>cases a;exact eq_bool (aY I q zN)
  | str j=>obtain⟨t',rfl⟩:=a;exact PySem.EqMixed.eq_bool_str (aY I q (by simp))
  | _=>exact absurd (show false=true from b) IA
 | int i =>
  obtain⟨t,rfl⟩:=c;cases y with
  | non=>cases a;exact PySem.EqNone.eq_int_none (aY I q (by simp))
  | int j=>obtain⟨t',rfl⟩:=a;exact eq_int (aY I q vF)
  | str j=>obtain⟨t',rfl⟩:=a;exact PySem.EqMixed.eq_int_str (aY I q (by simp))
  | _=>exact absurd (show false=true from b) IA
 | str i =>
  obtain⟨t,rfl⟩:=c;cases y with
  | non=>cases a;exact PySem.EqNone.eq_str_none (aY I q (by simp))
  | bl j=>cases a;exact PySem.EqMixed.eq_str_bool (aY I q (by simp))
  | int j=>obtain⟨t',rfl⟩:=a;exact PySem.EqMixed.eq_str_int (aY I q (by simp))
  | str j=>obtain⟨t',rfl⟩:=a;exact eq_str (aY I q vE)
  | _=>exact absurd (show false=true from b) IA
 | byt i =>
  obtain⟨t,rfl⟩:=c;cases y with
  | byt j=>obtain⟨t',rfl⟩:=a;exact PySem.W.eq_bytes (aY I q vG)
  | _=>exact absurd (show false=true from b) IA
 | _=>cases y <;> exact absurd (show false=true from b) IA
theorem uL:OpR X (ky .NotEq) rNe:=by
 intro pins s σ H x y v u Q I c a h;obtain⟨b,q⟩:=h;cases x with
 | non =>
  cases c;cases y with
  | non=>cases a;exact PySem.EqNone.ne_none_none (aY I q (by simp))
  | bl j=>cases a;exact PySem.EqNone.ne_none_bool (aY I q (by simp))
  | int j=>obtain⟨t',rfl⟩:=a;exact PySem.EqNone.ne_none_int (aY I q (by simp))
  | str j=>obtain⟨t',rfl⟩:=a;exact PySem.EqNone.ne_none_str (aY I q (by simp))
  | _=>exact absurd (show false=true from b) IA
 | bl i =>
  cases c;cases y with
  | non=>cases a;exact PySem.EqNone.ne_bool_none (aY I q (by simp))
  | bl j=>cases a;exact ne_bool (aY I q (congrArg not zN))
  | str j=>obtain⟨t',rfl⟩:=a;exact PySem.EqMixed.ne_bool_str (aY I q (by simp))
  | _=>exact absurd (show false=true from b) IA
 | int i =>
  obtain⟨t,rfl⟩:=c;cases y with
  | non=>cases a;exact PySem.EqNone.ne_int_none (aY I q (by simp))
  | int j=>obtain⟨t',rfl⟩:=a;exact ne_int (aY I q (congrArg not vF))
  | str j=>obtain⟨t',rfl⟩:=a;exact PySem.EqMixed.ne_int_str (aY I q (by simp))
  | _=>exact absurd (show false=true from b) IA
 | str i =>
  obtain⟨t,rfl⟩:=c;cases y with
  | non=>cases a;exact PySem.EqNone.ne_str_none (aY I q (by simp))
  | bl j=>cases a;exact PySem.EqMixed.ne_str_bool (aY I q (by simp))
  | int j=>obtain⟨t',rfl⟩:=a;exact PySem.EqMixed.ne_str_int (aY I q (by simp))
  | str j=>obtain⟨t',rfl⟩:=a;exact ne_str (aY I q (congrArg not vE))
  | _=>exact absurd (show false=true from b) IA
 | byt i =>
  obtain⟨t,rfl⟩:=c;cases y with
  | byt j=>obtain⟨t',rfl⟩:=a;exact PySem.W.ne_bytes (aY I q (congrArg not vG))
  | _=>exact absurd (show false=true from b) IA
 | _=>cases y <;> exact absurd (show false=true from b) IA
theorem uM:OpR X (ky .Lt) (rI0 λi j=>.bl (decide (i<j))):=E5 λ_ _ _ _ _ _ _ q=>lt_int q
theorem sy:OpR X (ky .LtE) (rI0 λi j=>.bl (decide (i<=j))):=E5 λ_ _ _ _ _ _ _ q=>le_int q
theorem uP:OpR X (ky .Gt) (rI0 λi j=>.bl (decide (j<i))):=E5 λ_ _ _ _ _ _ _ q=>gt_int q
theorem A0:OpR X (ky .GtE) (rI0 λi j=>.bl (decide (j<=i))):=E5 λ_ _ _ _ _ _ _ q=>ge_int q
theorem zl:OpR X (ky .Is) (λx y H Q=>y=.non/\Q (.bl (decide (x=.non))) H):=by
 intro pins s σ H x y v u Q I a b h;obtain⟨rfl,q⟩:=h;cases b;refine is_none_gen (aY I q ?_);cases x <;> first
  | (cases a;rfl)
  | (obtain⟨t,rfl⟩:=a;rfl)
theorem oF:OpR X (ky .IsNot) (λx y H Q=>y=.non/\Q (.bl (!decide (x=.non))) H):=by
 intro pins s σ H x y v u Q I a b h;obtain⟨rfl,q⟩:=h;cases b;refine isnot_none_gen (aY I q ?_);cases x <;> first
  | (cases a;rfl)
  | (obtain⟨t,rfl⟩:=a;rfl)
theorem aH(b:ba)(h:op≠.In:=by decide)(h2:op≠.NotIn:=by decide):Kv op b=false:=by
 have e1:(op==CmpOp.In)=false:=by cases op <;> first|rfl|exact absurd rfl h
 have e2:(op==CmpOp.NotIn)=false:=by cases op <;> first|rfl|exact absurd rfl h2
 cases b <;> simp[Kv,e1,e2]
theorem AW(ho:OpR X (ky op) r)(c:PE X a ta)(d:PE X b tb)(e:Kv op b=false):PE X (.Compare a [op] [b] pos) (tOp r ta tb):=by intro pins s σ H Q I h;exact wpAny_Compare1 (GJ c d I h λv u s2 x y f g i j q=>ho pins s2 σ f x y v u Q g i j q) e
def w9(t:TE):TT:=λσ H Q=>t σ H λx H'=>∃k,x=.bl k/\Q k H'
theorem uq(ho:OpR X (ky op) r)(d:PE X a ta)(f:PE X b tb)(g:Kv op b=false):PT X (.Compare a [op] [b] pos) (w9 (tOp r ta tb)):=by
 intro pins s σ H Q I h;refine wpAny_isTrue_Compare1 (thn (d pins s σ H _ I h) λv s1 ⟨x,H1,i,j,l⟩=>thn (f pins s1 σ H1 _ i l) λu s2 ⟨y,m,n,o,p⟩ =>
  thn (ho pins s2 σ m x y v u _ n j o p) λc B ⟨z,q,t,w,k,e,A⟩=>?_) g
 subst e;cases w;exact zb ⟨q,t,A⟩
def tI(r b:R2)(ta tb tc:TE):TE:=λσ H Q=>ta σ H λx H1=>tb σ H1 λy c=>r x y c λz a=>∃k,z=.bl k /\
 (if k=true then tc σ a λw' d=>b y w' d Q else Q (.bl false) a)
theorem xB(ho:OpR X (ky op) r)(g:OpR X (ky f) i)(o:PE X a ta)(p:PE X b tb)(hc:PE X c tc)
  (q:QD [op,f] [b,c]=false:=by with_unfolding_all rfl):PE X (.Compare a [op,f] [b,c] pos) (tI r i ta tb tc):=by
 intro pins s σ H Q I h;refine Compare_chain (thn (o pins s σ H _ I h) λv s1 ⟨x,H1,t,w,A⟩=>chain_link (thn (p pins s1 σ H1 _ t A) λu s2 ⟨y,B,C,j,D⟩ =>
  thn (ho pins s2 σ B x y v u _ C w j D) λd E ⟨z,l,m,F,k,e,n⟩=>?_)) q
 subst e;cases F;refine zb ?_;cases k with
 | false=>exact ite_ff ⟨.bl false,l,m,rfl,n⟩
 | true=>exact ite_tt (chain_last (thn (hc pins E σ l _ m n) λw' G ⟨J,K,L,M,N⟩=>g pins G σ K y J u w' Q L j M N))
theorem xt(ho:OpR X (ky op) r)(g:OpR X (ky f) l)(q:PE X a ta)(t:PE X b tb)(hc:PE X c tc)
  (w:QD [op,f] [b,c]=false:=by with_unfolding_all rfl):PT X (.Compare a [op,f] [b,c] pos) (w9 (tI r l ta tb tc)):=by
 intro pins s σ H Q I h;refine isTrue_chain (thn (q pins s σ H _ I h) λv s1 ⟨x,H1,A,B,C⟩=>test_link (thn (t pins s1 σ H1 _ A C) λu s2 ⟨y,D,E,m,F⟩ =>
  thn (ho pins s2 σ D x y v u _ E B m F) λd G ⟨z,n,o,J,k,e,p⟩=>?_)) w
 subst e;cases J;refine zb ?_;cases k with
 | false =>
  obtain⟨k',e',K⟩:=p;cases e';exact ite_ff ⟨n,o,K⟩
 | true =>
  refine ite_tt (test_last (thn (hc pins G σ n _ o p) λw' L i=>?_));obtain⟨M,N,O,P,R⟩:=i;refine thn (g pins L σ N y M u w' _ O m P R) λd' W j=>?_;obtain⟨z2,S,T,U,Y,e2,V⟩:=j;subst e2;cases U;exact zb ⟨S,T,V⟩
def Fn(K:cc)(x:V)(H:Hp)(k:Bool):Prop :=
 match x with
 | .non=>k=false
 | .bl b=>k=b
 | .int i=>k=(i != 0)
 | .str y=>y.length<=sizeLine/\k=((y.length:Int) != 0)
 | .byt y=>y.size<=sizeLine/\k=((y.size:Int) != 0)
 | .ref p=>(∃xs,SqL K H p xs/\k=!xs.isEmpty)\/(∃xs,SqT K H p xs/\k=!xs.isEmpty)\/∃kvs,H p=some (.dK kvs)/\k=!kvs.isEmpty
 | _=>False
theorem sJ{kvs:List (κ×V)}{vs:List (κ×ap)}(r:KV kvs vs):(!vs.isEmpty)=!kvs.isEmpty:=by cases r <;> rfl
theorem jS{xs:List V}{a:List ap}(r:bf xs a):(!a.toArray.isEmpty)=!xs.isEmpty:=by cases r <;> simp
theorem l6:(sizeLine:Nat)<2 ^ 63:=by rw[qT];decide
theorem CJ:HL X (λx H Q=>∃k,Fn X.K x H k/\Q k H):=by
 intro pins s σ H x v Q I c h;obtain⟨k,e,q⟩:=h;have l:=l6;have n:sizeLine=16777216:=qT;cases x with
 | non =>
  cases c;have e':k=false:=e;subst e';exact truthy_none ⟨H,I,q⟩
 | bl b =>
  cases c;have e':k=b:=e;subst e';exact zb ⟨H,I,q⟩
 | int i =>
  obtain⟨t,rfl⟩:=c;have e':k=(i != 0):=e;subst e';exact PySem.P.truthy_int ⟨H,I,q⟩
 | str y =>
  obtain⟨t,rfl⟩:=c;obtain⟨g,e'⟩:y.length<=sizeLine/\k=((y.length:Int) != 0):=e;subst e';exact PySem.P.truthy_str (by omega) ⟨H,I.tok _,q⟩
 | byt y =>
  obtain⟨t,rfl⟩:=c;obtain⟨g,e'⟩:y.size<=sizeLine/\k=((y.size:Int) != 0):=e;subst e';exact PySem.W.truthy_bytes (by omega) ⟨H,I.tok _,q⟩
 | ref p =>
  cases c;have e':(∃xs,SqL X.K H p xs/\k=!xs.isEmpty)\/(∃xs,SqT X.K H p xs/\k=!xs.isEmpty)\/∃kvs,H p=some (.dK kvs)/\k=!kvs.isEmpty:=e;rcases e' with⟨xs,hx,e'⟩|⟨xs,hx,e'⟩|⟨kvs,hx,e'⟩
  ·subst e';obtain⟨d,r,f,hz⟩:=I.list hx;have a:=r.length;exact wpAny_truthy_list f.isList (by simp only[Ii];omega) ⟨H,I.tok _,by rw[jS r];exact q⟩
  ·subst e';obtain⟨d,r,f,hz⟩:=I.tuple hx;have a:=r.length;exact truthy_tuple f (by simp only[Ii];omega) ⟨H,I.tok _,by rw[jS r];exact q⟩
  ·subst e';obtain⟨hz,j,vs,r,m⟩:kvs.length<=sizeLine/\(p==KB)=false/\∃vs,KV kvs vs/\s.heap.DictOf (oR X.prog X.w) p vs:=I.hok p _ hx;have a:kvs.length=vs.length:=Paired.length r;exact wpAny_truthy_dict j m (by omega) ⟨H,I.tok _,by rw[sJ r];exact q⟩
 | _=>exact(show False from e).elim
theorem xr(c:PE X a ta)(d:∀b,K2 a X.env b=(do let v <-b;Kz a.pos;Kd [v] (Qs v))) :
  PT X a (λσ H Q=>ta σ H λx H'=>∃k,Fn X.K x H' k/\Q k H'):=by intro pins s σ H Q I h;exact isTrue_plain (thn (c pins s σ H _ I h) λv s1 ⟨x,H1,e,f,g⟩=>CJ pins s1 σ H1 x v Q e f g) (d _)
theorem iD(r:bf [x] us):∃u,us=[u]/\bC x u:=by
 cases r with
 | cons a b=>cases b;exact⟨_,rfl,a⟩
theorem tD(r:bf [x,y] us):∃u w',us=[u,w']/\bC x u/\bC y w':=by
 cases r with
 | cons a b =>
  cases b with
  | cons c d=>cases d;exact⟨_,_,rfl,a,c⟩
theorem wd(hc:X.calm=true):fg X (.builtin "max") (λxs H Q=>∃i j,xs=[.int i,.int j]/\Q (.int (if j>i then j else i)) H):=by
 intro pins s σ H xs us Q I r h;obtain⟨i,j,rfl,q⟩:=h;obtain⟨u,w',rfl,⟨t,rfl⟩,⟨t',rfl⟩⟩:=tD r;refine max_two_ints (I.ok.hd hc) λh' tk k=>⟨_,H,I.kept k,?_,q⟩
 by_cases hj:j>i
 ·rw[ME hj,ME hj];exact⟨_,rfl⟩
 ·rw[MF hj,MF hj];exact⟨_,rfl⟩
end
structure dc(k:Nat)(A:Around):Prop where
 hd : A.handled=none
 dp : A.depth+3*k+5<recursionLimit
 un : A.units+16*k+200<J4
theorem dc.mono(r:dc k A)(h:j<=k):dc j A:=⟨r.hd,by have:=r.dp;omega,by have:=r.un;omega⟩
theorem dc.deeper(r:dc (k+1) A)(env:Env):dc k (A.deeper env) :=
 ⟨r.hd,by have:=r.dp;show A.depth+1+3*k+5<_;omega,by have:=r.un;show A.units+3+16*k+200<_;omega⟩
theorem dc.in1(r:dc (k+1) A):dc k A.in1 :=
 ⟨r.hd,by have:=r.dp;show A.depth+3*k+5<_;omega,by have:=r.un;show A.units+1+16*k+200<_;omega⟩
theorem dc.depth(r:dc k A):A.depth<recursionLimit:=by have:=r.dp;omega
theorem dc.units(r:dc k A):A.units+64<J4:=by have:=r.un;omega
def lH:TA:=λ_ H Q=>Q [] H
def cf(ta:TE)(tr:TA):TA:=λσ H Q=>ta σ H λx H1=>tr σ H1 λxs a=>Q (x::xs) a
section
theorem bA:PA X [] lH:=λ_ _ _ _ H Q I h=>Calls.spliced_nil ⟨[],H,I,.nil,h⟩
theorem aA(b:PE X e te)(c:PA X es t)(d:j1 (e::es) X.env=(false,eval e X.env)::j1 es X.env:=by rfl):PA X (e::es) (cf te t):=by intro pos pins s σ H Q I h;rw[d];show j4 _ _ (spliced ((false,eval e X.env)::qs pos (j1 es X.env))) _ _ s;refine Calls.spliced_cons (thn (b pins s σ H _ I h) λu s1 a=>?_);obtain⟨x,H1,f,g,i⟩:=a;exact thn (c pos pins s1 σ H1 _ f i) λus s2 ⟨xs,j,k,l,m⟩=>⟨x::xs,j,k,.cons g l,m⟩
def w5(t:TA):TE:=λσ H Q=>t σ H λxs H1=>xs.length<=sizeLine/\∀p,H1 p=none->Q (.ref p) (upd H1 p (.tup xs))
def Fx(t:TA):TE:=λσ H Q=>t σ H λxs H1=>xs.length<=sizeLine/\∀p,H1 p=none->Q (.ref p) (upd H1 p (.lst xs))
theorem fh(h:PA X es t):PE X (.Tuple es x1 pos) (w5 t):=by intro pins s σ H Q I d;refine wpAny_Tuple_spliced (thn (h pos pins s σ H _ I d) λus s1 a=>?_);obtain⟨xs,H1,c,r,z,q⟩:=a;refine⟨by rw[<-r.length];exact z,?_⟩;have f:H1 s1.heap.objs.size=none:=c.hok.fresh (Ih _);refine⟨.ref s1.heap.objs.size,upd H1 s1.heap.objs.size (.tup xs),c.laid (t':=s1.toks) (λb u e=>Ia _ e) (Ih _) ?_,rfl,q _ f⟩;exact⟨z,us,r,⟨_,Im _ rfl,rfl,⟨_,rfl⟩,rfl⟩⟩
theorem qz(h:PA X es t):PE X (.List es pos) (Fx t):=by intro pins s σ H Q I d;refine wpAny_List_spliced (thn (h pos pins s σ H _ I d) λus s1 a=>?_);obtain⟨xs,H1,c,r,z,q⟩:=a;refine⟨by rw[<-r.length];exact z,?_⟩;have f:H1 s1.heap.objs.size=none:=c.hok.fresh (Ih _);refine⟨.ref s1.heap.objs.size,upd H1 s1.heap.objs.size (.lst xs),c.laid (t':=s1.toks) (λb u e=>Ia _ e) (Ih _) ?_,rfl,q _ f⟩;exact⟨z,us,0,r,Im _ rfl⟩
end
abbrev Sp:=List V->Hp->VK->XK->Prop
abbrev CXT:=List Env->Hp->av->XK->ap->av->Prop
structure s9(P:kq)(w:k0)(K:cc)(mg:bt->Option ap)(base:bb)(A:Around)(outer:List Env)(s:av)(H:Hp):Prop where
 frames:A.frames=some outer
 mod:Mod K mg base
 bs : ∀b o,base.get? b=some o->s.heap.get? b=some o/\H b=none
 bsz:base.objs.size<=s.heap.objs.size
 funs:s.heap.FunFrames base outer
 frf:∀b∈frs outer,H b=none
 hok:HOk P w H s.heap
 bare:KS s.gens
 tab:Aa K H
def CE(outer:List Env)(P:kq)(w:k0)(H:Hp)(s:av)(Q:VK)(u:ap)(s':av):Prop :=
 ∃v H',s'.os=s.os/\KS s'.gens/\Un (frs outer) [] H H' s.heap s'.heap/\HOk P w H' s'.heap/\bC v u/\Q v H'
def CR(CX:CXT)(outer:List Env)(P:kq)(w:k0)(H:Hp)(s:av)(Q:VK)(E:XK)(r:Result)(s':av):Prop :=
 match r with
 | .ok (.ret u)=>CE outer P w H s Q u s'
 | .ok _=>False
 | .error e=>CX outer H s E e s'
structure cq(P:kq)(w:k0)(K:cc)(mg:bt->Option ap)(base:bb)(CX:CXT)(k:Nat)(f:al)(fd:j3)(ps:List bt)(sp:Sp):Prop where
 len:∀vs H Q E,sp vs H Q E->vs.length=ps.length
 run:∀(A:Around) (outer:List Env) (s:av) (H:Hp) (args:Args) (us:List ap) (vs:List V) (Q:VK) (E:XK),dc k A->s9 P w K mg base A outer s H->K5 s fd args (ps.zip us)->bf vs us->sp vs H Q E ->
  Ko (kf P w) A (.call (.ref f) args) (CR CX outer P w H s Q E) s
theorem cq.mono{P:kq}{w:k0}{K:cc}{mg:bt->Option ap}{base:bb}{CX:CXT}{j k:Nat}{f:al}{fd:j3}{ps:List bt}{sp:Sp}(F:cq P w K mg base CX j f fd ps sp)(h:j<=k) :
  cq P w K mg base CX k f fd ps sp:=⟨F.len,λA outer s H args us vs Q E a=>F.run A outer s H args us vs Q E (a.mono h)⟩
theorem s9.in1{P:kq}{w:k0}{K:cc}{mg:bt->Option ap}{base:bb}{A:Around}{outer:List Env}{s:av}{H:Hp}(e:s9 P w K mg base A outer s H) :
  s9 P w K mg base A.in1 outer s H:=⟨e.frames,e.mod,e.bs,e.bsz,e.funs,e.frf,e.hok,e.bare,e.tab⟩
section
variable {X:Cx}{pins:List (al×Obj)}{σ:St}{H:Hp}{s s':av}
theorem Inv.env0(I:Inv X pins σ H s):s9 X.prog X.w X.K X.mg X.base X.A X.stack s H :=
 ⟨I.ok.frames,I.ok.mod,I.bs,Ie I.ok.bsz I.sz,I.stack,I.stkFree,I.hok,I.bare,λT q h=>I.base.tbls T q (I.ok.tab T q h)⟩
theorem Inv.after(I:Inv X pins σ H s)(h:CE X.stack X.prog X.w H s Q u s'):EP X pins σ Q u s':=by obtain⟨v,H',os,bare,un,hok,r,q⟩:=h;obtain⟨c,g,d,t,a⟩:=s';obtain rfl:a=s.os:=os;exact⟨v,H',I.call (h':=c) (g':=g) (d':=d) (t':=t) (ch:=[]) un hok bare (λb z=>absurd z (by simp)),r,q⟩
end
def nI(sp:Sp)(dvs:List V)(E:XK)(t:TA):TE:=λσ H Q=>t σ H λvs H1=>sp (vs++dvs) H1 Q E
def bx(K:cc)(fd:j3)(ps:List bt)(ds:List ap):Prop :=
 ∀(s:av) (us:List ap),K.In s.heap->(us++ds).length=ps.length->K5 s fd ⟨us,[]⟩ (ps.zip (us++ds))
theorem bx.all{K:cc}{fd:j3}{ps:List bt}(h:∀us:List ap,us.length=ps.length->k3 fd ⟨us,[]⟩=pure (ps.zip us)):bx K fd ps []:=λs us _ a=>by
 rw[IM] at a ⊢;exact .of_eq (h us a)
def wF(CX:CXT)(X:Cx)(E:XK):Prop:=∀(pins:List (al×Obj)) (σ:St) (H:Hp) (s:av) (e:ap) (s':av),Inv X pins σ H s->CX X.stack H s E e s'->X.xe e s'
section
variable {X:Cx}{CX:CXT}{k:Nat}{f:al}{fd:j3}{ps:List bt}{sp:Sp}{dvs:List V}{ds:List ap}{E:XK}{x:bt}{p pos:Pos}{e:ba}{es:List ba}{t:TA}
theorem CU{pins:List (al×Obj)}{σ:St}{H:Hp}{s:av}{Q:VK}{us:List ap}{vs:List V}(F:cq X.prog X.w X.K X.mg X.base CX k f fd ps sp)(c:dc k X.A)(d:bx X.K fd ps ds)(hd:bf dvs ds)(hx:wF CX X E)
  (I : Inv X pins σ H s) (r:bf vs us) (h:sp (vs++dvs) H Q E):j4 (kf X.prog X.w) X.A (call (.ref f) us) (EP X pins σ Q) X.xe s:=by
 have b:bf (vs++dvs) (us++ds):=r.append hd;have g:(us++ds).length=ps.length:=by rw[<-b.length];exact F.len _ _ _ _ h
 refine Qr (KQ (F.run X.A X.stack s H ⟨us,[]⟩ (us++ds) (vs++dvs) Q E c I.env0 (d s us I.kIn g) b h) λr s' a=>?_);cases r with
 | error e=>exact hx pins σ H s e s' I a
 | ok fl =>
  cases fl with
  | ret u=>exact I.after a
  | next=>exact False.elim a
  | brk=>exact False.elim a
  | cont=>exact False.elim a
theorem AX(F:cq X.prog X.w X.K X.mg X.base CX k f fd ps sp)(g:dc k X.A)(i:Gl X x)(j:X.mg x=some (.ref f))(hk:nT X.K (.ref f)=true)(l:bx X.K fd ps ds)(hd:bf dvs ds)(hx:wF CX X E)
  (m:PA X (e::es) t) (a:(x==("__debug__" : bt))=false:=by decide) (n:j1 (e::es) X.env=(false,eval e X.env)::j1 es X.env:=by rfl) (b:(qs pos (j1 es X.env)).any (·.1)=false:=by rfl) :
  PE X (.Call (.Name x p) (e::es) [] pos) (nI sp dvs E t):=by intro pins s σ H Q I h;refine Kl (Bd I i j ?_ a);refine PySem.W.callWith_K (h₀:=X.base) I.ok.mod.kin hk (thn (m pos pins s σ H _ I h) λus s1 c=>?_) n b;obtain⟨vs,H1,d,r,q⟩:=c;refine⟨d.kIn,?_⟩;exact CU F g l hd hx d r q
end
def PK(X:Cx)(kws:List Ke)(t:TA):Prop :=
 ∀(pos:Pos) (pins:List (al×Obj)) (s:av) (σ:St) (H:Hp) (Q:List V->Hp->Prop),Inv X pins σ H s->t σ H Q->j4 (kf X.prog X.w) X.A (evalAll ((KF pos (Kf kws X.env)).map (·.2))) (AP X pins σ Q) X.xe s
section
theorem Dy:PK X [] lH:=λ_ _ _ _ H Q I h=>wpAny_evalAll_nil ⟨[],H,I,.nil,h⟩
theorem AN(b:PE X e te)(c:PK X kws t):PK X (⟨nm,e,kpos⟩::kws) (cf te t):=by intro pos pins s σ H Q I h;show j4 _ _ (evalAll ((do let v <-eval e X.env;Kz pos;pure v)::(KF pos (Kf kws X.env)).map (·.2))) _ _ s;refine wpAny_evalAll_cons (jj (thn (b pins s σ H _ I h) λu s1 a=>?_));obtain⟨x,H1,d,f,g⟩:=a;refine jj (KH (j0 ?_));exact thn (c pos pins s1 σ H1 _ d g) λus s2 ⟨xs,i,j,k,l⟩=>⟨x::xs,i,j,.cons f k,l⟩
end
structure az(N P:List bt)(sc:J5):Prop where
 kind:sc.kind=.function
 co : sc.isCoroutine=false
 gen:sc.isGenerator=false
 nd : N.Nodup
 pre:N.take P.length=P
 par:∀x∈P,sc.names.lookup x=some .local\/sc.names.lookup x=some .cell
 nofree:∀y∈sc.names,y.2≠.free
theorem nh{kindOf:bt->Option NameKind}{x:bt}:∀{binds:List (bt×ap)}{m:bt->Option ap},(∀v,(x,v) ∉ binds)->QH kindOf binds m x=m x
 | [],_,_=>rfl
 | (n,v)::r,m,h=>by
  unfold QH;rw[nh λw hw=>h w (HZ _ hw)];split
  ·have:x≠n:=by rintro rfl;exact h v H9
   simp[this]
  ·rfl
theorem nj{kindOf:bt->Option NameKind}{x:bt}:∀{binds:List (bt×ap)}{m:bt->Option ap},(∀v,(x,v) ∉ binds)->QI kindOf binds m x=m x
 | [],_,_=>rfl
 | (n,v)::r,m,h=>by
  unfold QI;rw[nj λw hw=>h w (HZ _ hw)];split
  ·rfl
  ·have:x≠n:=by rintro rfl;exact h v H9
   simp[this]
theorem ni{kindOf:bt->Option NameKind}{x:bt}{v:ap}:∀{P:List bt}{vs:List ap}{i:Nat}{m:bt->Option ap},P.Nodup->P[i]? = some x->vs[i]? = some v->kindOf x=some .local ->
  QH kindOf (P.zip vs) m x=some v
 | [],_,_,_,_,h,_,_=>by simp at h
 | _::_,[],_,_,_,_,h,_=>by simp at h
 | p::P,w::vs,0,m,nd,h1,h2,hk=>by
  simp at h1 h2;subst h1;subst h2;show QH kindOf ((p,w)::P.zip vs) m p=_;unfold QH;rw[nh λv a=>(Ir.mp nd).1 (JZ a).1,ME hk];simp
 | p::P,w::vs,i+1,m,nd,h1,h2,hk=>by
  show QH kindOf ((p,w)::P.zip vs) m x=_;unfold QH;exact ni (i:=i) (Ir.mp nd).2 (by simpa using h1) (by simpa using h2) hk
theorem nq{kindOf:bt->Option NameKind}{x:bt}{v:ap}:∀{P:List bt}{vs:List ap}{i:Nat}{m:bt->Option ap},P.Nodup->P[i]? = some x->vs[i]? = some v->kindOf x≠some .local ->
  QI kindOf (P.zip vs) m x=some v
 | [],_,_,_,_,h,_,_=>by simp at h
 | _::_,[],_,_,_,_,h,_=>by simp at h
 | p::P,w::vs,0,m,nd,h1,h2,hk=>by
  simp at h1 h2;subst h1;subst h2;show QI kindOf ((p,w)::P.zip vs) m p=_;unfold QI;rw[nj λv a=>(Ir.mp nd).1 (JZ a).1,MF hk];simp
 | p::P,w::vs,i+1,m,nd,h1,h2,hk=>by
  show QI kindOf ((p,w)::P.zip vs) m x=_;unfold QI;exact nq (i:=i) (Ir.mp nd).2 (by simpa using h1) (by simpa using h2) hk
def start(N:List bt)(vs:List V):St:=vs.map some++Jt (N.length - vs.length) none
def pp(CX:CXT)(P:kq)(w:k0)(K:cc)(mg:bt->Option ap)(base:bb)(N:List bt)(qual:bt)(scope:J5)(f:al)(cd:ap)(A:Around)(outer:List Env)(s:av)(H:Hp)(E:XK):Cx where
 prog:=P
 w := w
 K := K
 mg := mg
 base:=base
 A := A.deeper (KK qual scope s.heap.objs.size f cd)
 N := N
 s₀ := s
 H₀ := H
 env:=KK qual scope s.heap.objs.size f cd
 outer:=outer
 stack:=KK qual scope s.heap.objs.size f cd::outer
 ex := []
 calm:=true
 fn := λ_=>true
 pn := []
 xe := λe s'=>j4 (kf P w) (A.deeper (KK qual scope s.heap.objs.size f cd)) (leaving (KK qual scope s.heap.objs.size f cd) e) (λ_ a=>CX outer H s E e a) (λe' a=>CX outer H s E e' a) s'
theorem k7{sc:J5}(h:sc.names.lookup x=some .cell):∃c,(zf n sc.names []).lookup x=some c:=by have q:=ro sc.names n [] (.inl h);exact J3.mp q
theorem mH{CX:CXT}{P:kq}{w:k0}{K:cc}{mg:bt->Option ap}{base:bb}{N ps:List bt}{qual:bt}{scope:J5}{f:al}{cd:ap}{A:Around}{outer:List Env}{s s1:av}{H:Hp}{E:XK}{us:List ap}{vs:List V}
  (S : az N ps scope) (hd:A.handled=none) (d:s9 P w K mg base A outer s H) (D:vs.length=ps.length) (r:bf vs us)
  (x : InCallC s s.heap.objs.size (QH (KK qual scope s.heap.objs.size f cd).kindOf (ps.zip us) λ_=>none) (zf (s.heap.objs.size+1) scope.names []) (QI (KK qual scope s.heap.objs.size f cd).kindOf (ps.zip us) λ_=>none) s1) :
  Inv (pp CX P w K mg base N qual scope f cd A outer s H E) [] (start N vs) H s1:=by
 have t:ps.length<=N.length:=by have:=congrArg mf S.pre;rw[IY] at this;omega
 obtain⟨h1,tk,rfl,hk⟩:=x.done;have g:∀b:al,b ∉ (pp CX P w K mg base N qual scope f cd A outer s H E).ex:=λb z=>absurd (show b∈([]:List al) from z) (by simp);refine⟨⟨d.mod,S.kind,rfl,rfl,Ih _,λy z c h1 h2=>?_,λy j=>?_,λy c _ h=>?_,λ_=>hd,Around.frames_deeper d.frames,.inr ⟨rfl,rfl⟩,λb z=>absurd z (g b),d.bs,d.bsz,λb _ _=>g b,λb z=>absurd z (g b),d.funs,d.frf,d.tab⟩,
  rfl,d.bare,Un.kept hk,⟨_,x.toInCall.ns,λi y v h1 h2 F=>?_⟩,λy c h=>⟨_,x.cell y c h⟩,d.hok.fresh (Ih _),λy c h=>?_,λp l=>absurd (show p∈([]:List (al×Obj)) from l) (by simp),d.hok.kept hk,?_⟩
 ·exact name_of_addr x.apart (hX h1) (hX h2)
 ·have j:scope.names.lookup y=some .cell\/scope.names.lookup y=some .free:=j;rcases j with j|j
  ·exact k7 j
  ·exact absurd rfl (S.nofree _ (hX j))
 ·exact sn (x.above y c (hX h))
 ·have hi:i<vs.length:=by
   unfold start at h2;by_cases hi:i<vs.length
   ·exact hi
   ·rw[IW (by simpa using hi)] at h2;rw[List.getElem?_replicate] at h2;split at h2 <;> cases h2
  have B:vs[i]? = some v:=by
   unfold start at h2;rw[Iu (by simpa using hi),IH] at h2;cases e:vs[i]? with
   | none=>rw[e] at h2;cases h2
   | some a=>rw[e] at h2;cases h2;rfl
  obtain⟨u,o,C⟩:=r.get B;have l:ps[i]? = some y:=by rw[<-S.pre,Lu (by omega)];exact h1
  have m:ps.Nodup:=by rw[<-S.pre];exact S.nd.sublist (List.take_sublist _ _)
  refine⟨u,C,?_⟩;rcases S.par y (IG l) with k|k
  ·exact .inl ⟨k,ni m l o k⟩
  ·obtain⟨c,e⟩:=k7 (n:=s.heap.objs.size+1) k;refine .inr ⟨.inl k,c,e,?_⟩;have q:=x.cell y c e;rw[nq m l o (by show scope.names.lookup y≠_;rw[k];decide)] at q;exact q
 ·exact d.hok.fresh (sn (x.above y c (hX h)))
 ·unfold start;show _=N.length;rw[Ix,HS,List.length_replicate];omega
theorem Em{CX:CXT}{P:kq}{w:k0}{K:cc}{mg:bt->Option ap}{base:bb}{k:Nat}{f:al}{name qual:bt}{params:Ks}{body:List Stmt}{scope:J5}{p kV doc pm cdv ct oc:ap}{an od:Option al}
  {osl:Array (Option ap)}{N ps:List bt}{sp:Sp} (B:K.lookup f=some ⟨oc,od,.func (i3 name qual params body scope p kV doc pm an cdv ct),osl⟩) (i:ol K cdv qual=true) (S:az N ps scope)
  (len:∀vs H Q E,sp vs H Q E->vs.length=ps.length)
  (a:∀(A:Around) (outer:List Env) (s:av) (H:Hp) (vs:List V) (Q:VK) (E:XK),dc k (A.deeper (KK qual scope s.heap.objs.size f cdv))->sp vs H Q E ->
   ∃t,PSs (pp CX P w K mg base N qual scope f cdv A outer s H E) body t/\t { nx:=λ_ H'=>Q .non H',rt:=Q } (start N vs) H) :
  cq P w K mg base CX (k+1) f (i3 name qual params body scope p kV doc pm an cdv ct) ps sp:=by
 refine⟨len,λA outer s H args us vs Q E j g C r h=>?_⟩;have D:=len _ _ _ _ h;have z:K.In s.heap:=g.mod.kin.keeps λb o e=>(g.bs b o e).1;have l:s.heap.NoLimit:=g.mod.nolimit.keeps λb o e=>(g.bs b o e).1;have c:∀y∈ps.zip us,scope.names.lookup y.1=some .local\/(scope.names.lookup y.1=some .cell/\((zf (s.heap.objs.size+1) scope.names []).lookup y.1).isSome=true):=λ⟨n,v⟩ F=>by
  rcases S.par n (JZ F).1 with q|q
  ·exact .inl q
  ·exact .inr ⟨q,ro _ _ _ (.inl q)⟩
 refine codeAny_call_function j.depth (z _ _ B) rfl S.co S.gen rfl (PySem.W.codeRec_of z i) (C _ _ _ _ ?_);refine Qq S.kind c λenv G s1 x=>?_;subst G;refine⟨l.keeps x.toInCall.keep,codeAny_func ?_⟩;obtain⟨t,L,M⟩:=a A outer s H vs Q E (j.deeper _) h;have I:Inv (pp CX P w K mg base N qual scope f cdv A outer s H E) [] (start N vs) H s1:=mH S j.hd g D r x;refine q5 (L [] s1 (start N vs) H _ I M) (λfl s' d=>?_) λe s' d=>d;have fin:∀{σ':St}{H':Hp}{v:V}{u:ap},Inv (pp CX P w K mg base N qual scope f cdv A outer s H E) [] σ' H' s'->bC v u->Q v H'->CE outer P w H s Q u s' :=
  λ{σ' H' v u} J m q=>⟨v,H',J.os,J.bare,J.base,J.hok,m,q⟩
 cases fl with
 | ret u =>
  obtain⟨v,σ',H',J,m,q⟩:=d;exact fin J m q
 | next =>
  obtain⟨σ',H',J,q⟩:=d;exact fin (v:=V.non) (u:=ec) J rfl q
 | brk =>
  obtain⟨_,_,_,q⟩:=d;exact False.elim q
 | cont =>
  obtain⟨_,_,_,q⟩:=d;exact False.elim q
section
variable {X:Cx}{x:bt}{p pos:Pos}{e:ba}{es:List ba}{t:TA}{id T:String}{r:List V->Hp->VK->Prop}
def tCB(r:List V->Hp->VK->Prop)(t:TA):TE:=λσ H Q=>t σ H λvs H1=>r vs H1 Q
theorem kj(hc:fg X (.builtin id) r)(c:Gl X x)(d:X.mg x=none)(f:J6 x=some (.builtin id))(g:PA X (e::es) t)(hn:x ≠ "__name__" := by decide)(a:(x==("__debug__" : bt))=false:=by decide)
  (i:j1 (e::es) X.env=(false,eval e X.env)::j1 es X.env:=by rfl) (b:(qs pos (j1 es X.env)).any (·.1)=false:=by rfl):PE X (.Call (.Name x p) (e::es) [] pos) (tCB r t):=by intro pins s σ H Q I h;refine Kl (gP I c d f ?_ hn a);exact PyProof.Rows.callWith_builtin1 (thn (g pos pins s σ H _ I h) λus s1 ⟨vs,H1,j,k,l⟩=>hc pins s1 σ H1 vs us Q j k l) i b
theorem lR(hc:fg X (.type T) r)(c:Gl X x)(d:X.mg x=none)(f:J6 x=some (.type T))(g:PA X (e::es) t)(hn:x ≠ "__name__" := by decide)(a:(x==("__debug__" : bt))=false:=by decide)
  (i:j1 (e::es) X.env=(false,eval e X.env)::j1 es X.env:=by rfl) (b:(qs pos (j1 es X.env)).any (·.1)=false:=by rfl):PE X (.Call (.Name x p) (e::es) [] pos) (tCB r t):=by intro pins s σ H Q I h;refine Kl (gP I c d f ?_ hn a);exact lp (thn (g pos pins s σ H _ I h) λus s1 ⟨vs,H1,j,k,l⟩=>hc pins s1 σ H1 vs us Q j k l) i b
end
end _L
namespace HT
open PySem PyProof.Rows
def lexLt:List Int->List Int->Bool
 | [],[]=>false
 | [],_::_=>true
 | _::_,[]=>false
 | x::xs,y::ys=>if x=y then lexLt xs ys else decide (x<y)
theorem lexLt_cons(x y:Int)(xs ys:List Int):lexLt (x::xs) (y::ys)=if x=y then lexLt xs ys else decide (x<y):=rfl
theorem lexLt_nil_nil:lexLt [] []=false:=rfl
theorem lexLt_nil_cons(y:Int)(ys:List Int):lexLt [] (y::ys)=true:=rfl
theorem lexLt_cons_nil(x:Int)(xs:List Int):lexLt (x::xs) []=false:=rfl
section
open PySem.SeqAt
open PySem.AutoSeq1 (wpAny_loadPart')
open PySem.MeetsSeq PySem.MeetsSeq2 PySem.MeetsSeq3
end
section
theorem cat_tup(k:IsTup s.heap t vs.toArray)(l:IsTup s.heap b ws.toArray)(h:vs≠[])
  (h1:ws=[]->Q (.ref t) s) (h2:ws≠[]->Q (.ref s.heap.objs.size) { s with heap:=s.heap.push { cls:=.type "tuple",data:=.seq (vs++ws).toArray } })
  (hsz:vs.length+ws.length<=sizeLine):j4 (kf prog w) A (Kb .Add (.ref t) (.ref b)) Q E s:=by
 obtain⟨⟨cls,dd,data,sl⟩,ho,hc,n,hd⟩:=id k;obtain⟨⟨i,c,data2,d⟩,a,f,j,g⟩:=id l;simp only at hc hd f g;subst hc hd f g;have e:vs.toArray++ws.toArray=(vs++ws).toArray:=by simp
 by_cases hw:ws=[]
 ·exact Qg ⟨_,ho,rfl⟩ ⟨_,a,rfl⟩ Qk QA ry pQ (pu _ _)
   (tuple_addW1 t b vs.toArray ws.toArray n j dd c sl d (by simpa using h) (by simp[hw])) ⟨ho,a,h1 hw⟩
 ·refine Qg ⟨_,ho,rfl⟩ ⟨_,a,rfl⟩ Qk QA ry pQ (pu _ _)
   (tuple_addW2 t b vs.toArray ws.toArray n j dd c sl d (by simpa using h) (by simpa using hw) (by rw[Ii,Ii];exact hsz)) ⟨ho,a,?_⟩
  rw[e];exact h2 hw
def sIx(n d:Nat):Option Int->Nat
 | none=>d
 | some v=>if v<0 then (v+(n:Int)).toNat else min v.toNat n
theorem sIx_none(n d:Nat):sIx n d none=d:=rfl
theorem sIx_nat(n d k:Nat):sIx n d (some (k:Int))=min k n:=by show(if (k:Int)<0 then ((k:Int)+(n:Int)).toNat else min (k:Int).toNat n)=min k n;rw[MF (by omega),IP]
theorem CT(n d:Nat)(hd:d<=n)(o:Option Int):sIx n d o<=n:=by
 cases o with
 | none=>exact hd
 | some v =>
  show(if v<0 then (v+(n:Int)).toNat else min v.toNat n)<=n;by_cases a:v<0
  ·rw[ME a];omega
  ·rw[MF a];exact Nat.min_le_right _ _
theorem v4(v:Int)(n d:Nat):(if v<0 then max (v+(n:Int)) 0 else min v (n:Int))=((sIx n d (some v):Nat):Int):=by
 show(if v<0 then max (v+(n:Int)) 0 else min v (n:Int))=(((if v<0 then (v+(n:Int)).toNat else min v.toNat n):Nat):Int)
 by_cases a:v<0
 ·simp only[ME a];omega
 ·simp only[MF a];omega
theorem sU(lo hi:Option Int)(n:Nat):pc lo hi 1 (n:Int)=(((sIx n 0 lo:Nat):Int),((sIx n n hi:Nat):Int)):=by
 have h1:¬((1:Int)<0):=by omega
 unfold pc;simp only[h1,if_false];refine Prod.ext ?_ ?_
 ·cases lo with
  | none=>rfl
  | some v=>exact v4 v n 0
 ·cases hi with
  | none=>rfl
  | some v=>exact v4 v n n
theorem sw(i j:Nat):lB (i:Int) (j:Int) 1=j - i:=by
 unfold lB;have h1:(1:Int)>0:=by omega
 simp only[h1,if_true,Int.ediv_one];split <;> omega
theorem jD(p:Ql v o)(h:Q o s):j4 (kf prog w) A (Builtin.Slice.slicePartIndex v) Q E s:=by
 cases p with
 | none=>exact slicePart_none h
 | int i t=>exact slicePart_int h
theorem hG{sl:al}{c d:ap}{lo hi:Option Int}{n:Nat}{Q:Int×Int×Nat->av->Prop}(e:s.heap.IsSliceOf sl c d .none)(f:Ql c lo)(g:Ql d hi)
  (h : Q (((sIx n 0 lo:Nat):Int),1,sIx n n hi - sIx n 0 lo) s):j4 (kf prog w) A (xn (.ref sl) (pure (n:Int))) Q E s:=by obtain⟨os,a,i,b⟩:=id e;unfold xn Builtin.Slice.sliceFields;refine jj (jj (zh a b (x:=c) rfl (jj (zh a b (x:=d) rfl (jj (zh a b (x:=.none) rfl (j0 ?_)))))));refine jj (slicePart_none ?_);show j4 _ _ (if ((1:Int)==0)=true then _ else _) _ _ s;rw[MF (by decide)];refine jj (jD f (jj (jD g (jj (j0 ?_)))));show j4 _ _ (match pc lo hi 1 (n:Int) with|(lo,hi)=>pure (lo,(1:Int),lB lo hi 1)) _ _ s;rw[sU lo hi n];show j4 _ _ (pure (((sIx n 0 lo:Nat):Int),(1:Int),lB ((sIx n 0 lo:Nat):Int) ((sIx n n hi:Nat):Int) 1)) _ _ s;rw[sw];exact j0 h
theorem xy(xs:Array ap)(i k:Nat):((di k).filterMap λ(m:Nat)=>xs[((i:Int)+(m:Int)*1).toNat]?).toArray=((xs.toList.drop i).take k).toArray:=by
 have e:(λ(m:Nat)=>xs[((i:Int)+(m:Int)*1).toNat]?)=λm=>xs[i+m]?:=by
  funext m;have:((i:Int)+(m:Int)*1).toNat=i+m:=by omega
  rw[this]
 rw[e];have:=pick_run xs i k;rw[List.filterMap_map] at this;have e2:((λx=>xs[x]?) ∘ λx=>i+x)=λm=>xs[i+m]?:=rfl;rw[e2] at this;rw[this]
theorem getItem_tuple_cut{t sl:al}{items:Array ap}{g i:ap}{lo hi:Option Int}{Q:ap->av->Prop}(b:IsTup s.heap t items)(j:s.heap.IsSliceOf sl g i .none)(k:Ql g lo)(l:Ql i hi)
  (hw:¬(sIx items.size 0 lo=0/\sIx items.size items.size hi=items.size))
  (h : Q (.ref s.heap.objs.size) { s with heap:=s.heap.push { cls:=.type "tuple",data:=.seq ((items.toList.drop (sIx items.size 0 lo)).take (sIx items.size items.size hi - sIx items.size 0 lo)).toArray } })
  (hsz:items.size<=sizeLine):j4 (kf prog w) A (QO (.ref t) (.ref sl)) Q E s:=by
 have a:sizeOk (.seq ((items.toList.drop (sIx items.size 0 lo)).take (sIx items.size items.size hi - sIx items.size 0 lo)).toArray):=by show((items.toList.drop (sIx items.size 0 lo)).take (sIx items.size items.size hi - sIx items.size 0 lo)).toArray.size<=sizeLine;rw[Ii,IY,JF,lk];omega
 have hj:sIx items.size items.size hi<=items.size:=CT _ _ (Ih _) hi;obtain⟨os,c,d,n⟩:=id j;have e:s.TypeIs (.ref sl) "slice" := ⟨os,c,d⟩
 unfold QO
 try with_reducible refine ze ?_
 first|refine jj (j0 ?_)|skip
 refine jj (wpAny_sequenceKey b.typeIs (by decide) ?_);refine jj (z5 (name:=lc "__getitem__") b.typeIs m6
  (zv m6 b.typeIs entry_tuple_getitem ?_ (args_tuple_getitem _ _)))
 show j4 _ _ (w4 (.ref t) >>= _) _ _ s;refine jj (tupleItemsOf_ b ?_);refine jj (wpAny_typeOf e ?_);rw[ME (by decide)];refine jj (hG j k l ?_);have f:¬((((sIx items.size 0 lo:Nat):Int)==0&&(1:Int)==1&&(sIx items.size items.size hi - sIx items.size 0 lo)==items.size)=true):=by intro q;rw[Iq,Iq] at q;have o:((sIx items.size 0 lo:Nat):Int)=0:=eq_of_beq q.1.1;have p:sIx items.size items.size hi - sIx items.size 0 lo=items.size:=eq_of_beq q.2;exact hw ⟨by omega,by omega⟩
 show j4 _ _ (if (((sIx items.size 0 lo:Nat):Int)==0&&(1:Int)==1&&(sIx items.size items.size hi - sIx items.size 0 lo)==items.size)=true then _ else _) _ _ s;rw[MF f,xy]
 first
  | exact jj (m:=l0 _) (z4 (j0 ⟨_,rfl,j0 h⟩) a)
  | exact jj (m:=l0 _) (z4 (jj (j0 (j0 ⟨_,rfl,j0 h⟩))) a)
  | exact jj (jj (m:=l0 _) (z4 (j0 (j0 ⟨_,rfl,j0 h⟩)) a))
  | exact jj (jj (m:=l0 _) (z4 (j0 ⟨_,rfl,j0 h⟩) a))
end
end HT
namespace _L
open PySem PySem.Spec PyProof.Rows
abbrev TO:=St->Hp->(Option Int->Hp->Prop)->Prop
def PO(X:Cx)(e:Option ba)(t:TO):Prop :=
 ∀(pins:List (al×Obj)) (s:av) (σ:St) (H:Hp) (Q:Option Int->Hp->Prop),Inv X pins σ H s->t σ H Q ->
  j4 (kf X.prog X.w) X.A (evalPart e X.env) (λu s'=>∃o H',Inv X pins σ H' s'/\Ql u o/\Q o H') X.xe s
def An:TO:=λ_ H Q=>Q none H
def Fv(t:TE):TO:=λσ H Q=>t σ H λx H1=>∃i,x=.int i/\Q (some i) H1
section
variable {X:Cx}{e:ba}{te:TE}{lo hi:Option ba}{tl th:TO}{pos p2:Pos}
theorem oy:PO X none An:=by intro pins s σ H Q I h;rw[evalPart_none];exact j0 ⟨none,H,I,.none,h⟩
theorem ox(h:PE X e te):PO X (some e) (Fv te):=by intro pins s σ H Q I hw;rw[evalPart_some];refine thn (h pins s σ H _ I hw) λu s1 a=>?_;obtain⟨x,H1,b,c,d⟩:=a;obtain⟨i,rfl,q⟩:=d;obtain⟨t,rfl⟩:=c;exact⟨some i,H1,b,.int i t,q⟩
def SlR(X:Cx)(r:V->Option Int->Option Int->Hp->VK->Prop):Prop :=
 ∀(pins:List (al×Obj)) (s:av) (σ:St) (H:Hp) (x:V) (v a b:ap) (lo hi:Option Int) (sl:al) (Q:VK),Inv X pins σ H s->bC x v->s.heap.IsSliceOf sl a b .none->Ql a lo->Ql b hi->r x lo hi H Q ->
  ∃T id,typeLookup (.type T) "__getitem__" = pure (some (.builtin id))/\s.TypeIs v T/\j4 (kf X.prog X.w) X.A (QO v (.ref sl)) (EP X pins σ Q) X.xe s
def tSl(r:V->Option Int->Option Int->Hp->VK->Prop)(te:TE)(tl th:TO):TE:=λσ H Q=>te σ H λx H1=>tl σ H1 λl a=>th σ a λu b=>r x l u b Q
theorem ij(k:SlR X r)(m:PE X e te)(n:PO X lo tl)(o:PO X hi th):PE X (.Subscript e (.Slice lo hi none p2) pos) (tSl r te tl th):=by intro pins s σ H Q I h;refine Subscript_ (thn (m pins s σ H _ I h) λv s1 f=>?_);obtain⟨x,H1,p,t,y⟩:=f;refine wpAny_Slice (thn (n pins s1 σ H1 _ p y) λc s2 g=>?_);obtain⟨l,z,B,C,D⟩:=g;refine thn (o pins s2 σ z _ B D) λd a i=>?_;obtain⟨u,j,E,F,G⟩:=i;rw[evalPart_none];refine j0 ?_;have J:Inv X pins σ j { a with heap:=a.heap.push { cls:=.type "slice",data:=.fields #[c,d,.none] } }:=E.kept (t':=a.toks) λb ob q=>Ia _ q;obtain⟨T,id,K,L,M⟩:=k pins { a with heap:=a.heap.push { cls:=.type "slice",data:=.fields #[c,d,.none] } } σ j x v c d l u a.heap.objs.size Q J t (MD ..) C F G;show j4 (kf X.prog X.w) X.A (Qz e (.Slice lo hi none p2) v (.ref a.heap.objs.size)) (EP X pins σ Q) X.xe { a with heap:=a.heap.push { cls:=.type "slice",data:=.fields #[c,d,.none] } };exact tail_any (ops:=[.ref a.heap.objs.size,v]) L K M (by with_unfolding_all rfl)
def sX(xs:List V)(lo hi:Option Int):List V:=(xs.drop (HT.sIx xs.length 0 lo)).take (HT.sIx xs.length xs.length hi - HT.sIx xs.length 0 lo)
theorem i6(xs:List V)(lo hi:Option Int):(sX xs lo hi).length<=xs.length:=by unfold sX;rw[IY,JF];omega
def GW(K:cc):V->Option Int->Option Int->Hp->VK->Prop:=λx lo hi H Q=>∃a xs,x=.ref a/\SqT K H a xs /\
 ¬ (HT.sIx xs.length 0 lo=0/\HT.sIx xs.length xs.length hi=xs.length)/\∀p,H p=none->Q (.ref p) (upd H p (.tup (sX xs lo hi)))
theorem CS:SlR X (GW X.K):=by
 intro pins s σ H x v k l lo hi sl Q I f g i j h;obtain⟨a,xs,rfl,hx,hw,q⟩:=h;cases f;obtain⟨d,r,e,hz⟩:=I.tuple hx;have c:d.toArray.size=xs.length:=by rw[Ii];exact r.length.symm
 refine⟨"tuple",_,m6.lookup,e.typeIs,?_⟩;refine HT.getItem_tuple_cut e g i j (by rw[c];exact hw) ?_ (by rw[c];exact hz);rw[c];refine⟨.ref s.heap.objs.size,_,I.laid (t':=s.toks) (o:=.tup (sX xs lo hi)) (λb ob q=>Ia _ q) (Ih _) ?_,rfl,q _ (I.hok.fresh (Ih _))⟩;exact⟨Ie (i6 xs lo hi) hz,_,(r.drop (HT.sIx xs.length 0 lo)).take (HT.sIx xs.length xs.length hi - HT.sIx xs.length 0 lo),wC.new _ _⟩
def FN(K:cc):R2:=λx y H Q=>∃a b xs ys,x=.ref a/\y=.ref b/\SqT K H a xs/\SqT K H b ys/\xs≠[]/\xs.length+ys.length<=sizeLine /\
 (ys=[]->Q (.ref a) H)/\(ys≠[]->∀p,H p=none->Q (.ref p) (upd H p (.tup (xs++ys))))
theorem bf.nil_iff(r:bf xs us):us=[]↔xs=[]:=by
 cases r with
 | nil=>simp
 | cons _ _=>simp
theorem A1:OpR X (Kb .Add) (FN X.K):=by intro pins s σ H x y v u Q I f g h;obtain⟨a,b,xs,ys,rfl,rfl,i,j,hx,hz,k,l⟩:=h;cases f;cases g;obtain⟨m,d,n,_⟩:=I.tuple i;obtain⟨e,c,p2,_⟩:=I.tuple j;refine HT.cat_tup n p2 (λz=>hx (d.nil_iff.mp z)) (λz=>⟨.ref a,H,I,rfl,k (c.nil_iff.mp z)⟩) (λz=>?_) (by rw[<-d.length,<-c.length];exact hz);refine⟨.ref s.heap.objs.size,_,I.laid (t':=s.toks) (o:=.tup (xs++ys)) (λb ob q=>Ia _ q) (Ih _) ?_,rfl,l (λw=>z (c.nil_iff.mpr w)) _ (I.hok.fresh (Ih _))⟩;exact⟨by rw[Ix];exact hz,_,d.append c,wC.new _ _⟩
end
def ixN(n:Nat)(i:Int):Option Nat:=if 0<=i then (if i<n then some i.toNat else none) else if -(n:Int)<=i then some (i+n).toNat else none
def atI{α:Type}(xs:List α)(i:Int):Option α:=(ixN xs.length i).bind λj=>xs[j]?
theorem vm(h:ixN n i=some j):QC i n=some j/\j<n/\-(n:Int)<=i/\i<n:=by
 unfold ixN at h;by_cases a:0<=i
 ·rw[ME a] at h;by_cases h1:i<n
  ·rw[ME h1] at h;have e:i.toNat=j:=du h;exact⟨by rw[seqIndex_of a h1,e],by omega,by omega,h1⟩
  ·rw[MF h1] at h;cases h
 ·rw[MF a] at h;by_cases h1:-(n:Int)<=i
  ·rw[ME h1] at h;have e:(i+n).toNat=j:=du h;exact⟨by rw[seqIndex_neg (by omega) h1,e],by omega,h1,by omega⟩
  ·rw[MF h1] at h;cases h
theorem wz{xs:List α}(h:atI xs i=some v):∃j,QC i xs.length=some j/\xs[j]? = some v/\j<xs.length/\-(xs.length:Int)<=i/\i<xs.length:=by
 unfold atI at h;cases e:ixN xs.length i with
 | none=>rw[e] at h;cases h
 | some j =>
  rw[e] at h;obtain⟨h1,h2,a,b⟩:=vm e;exact⟨j,h1,h,h2,a,b⟩
theorem cV{α:Type}{xs:List α}{j:Nat}{v:α}(h:xs[j]? = some v):atI xs (j:Int)=some v:=by
 have hj:j<xs.length:=(Ib.mp h).1;have e:ixN xs.length (j:Int)=some j:=by unfold ixN;rw[ME (by omega),ME (by omega)];simp
 unfold atI;rw[e];exact h
def gH(b:ba):Prop:=∀o i,subscripted b false o i=operate [o,i] (QO o i)
def IxR(X:Cx)(r:R2):Prop :=
 ∀(a slice:ba) (pins:List (al×Obj)) (s:av) (σ:St) (H:Hp) (x y:V) (v u:ap) (Q:VK),Inv X pins σ H s->bC x v->bC y u->r x y H Q ->
  subscripted slice false v u=operate [v,u] (QO v u)->j4 (kf X.prog X.w) X.A (Qz a slice v u) (EP X pins σ Q) X.xe s
def MtR(X:Cx)(id:String)(r:V->List V->Hp->VK->Prop):Prop :=
 ∀(pins:List (al×Obj)) (s:av) (σ:St) (H:Hp) (x:V) (xs:List V) (v:ap) (us:List ap) (Q:VK),Inv X pins σ H s->bC x v->bf xs us->r x xs H Q ->
  j4 (kf X.prog X.w) X.A (call (.builtin id) (v::us)) (EP X pins σ Q) X.xe s
section
variable {X:Cx}{a b:ba}{ta tb:TE}{pos:Pos}
theorem IxR.or{r b:R2}(h:IxR X r)(h':IxR X b):IxR X (λx y H Q=>r x y H Q\/b x y H Q):=by
 intro a slice pins s σ H x y v u Q I c d q e;rcases q with q|q
 ·exact h a slice pins s σ H x y v u Q I c d q e
 ·exact h' a slice pins s σ H x y v u Q I c d q e
theorem ia(c:IxR X r)(d:PE X a ta)(e:PE X b tb)(f:gH b):PE X (.Subscript a b pos) (tOp r ta tb):=by intro pins s σ H Q I h;exact Subscript_ (GJ d e I h λv u s2 x y g i j k q=>c a b pins s2 σ g x y v u Q i j k q (f _ _))
def GZ(K:cc):R2:=λx y H Q=>∃p xs i v,x=.ref p/\y=.int i/\SqL K H p xs/\atI xs i=some v/\Q v H
def GY(K:cc):R2:=λx y H Q=>∃p xs i v,x=.ref p/\y=.int i/\SqT K H p xs/\atI xs i=some v/\Q v H
theorem Bq:IxR X (GZ X.K):=by
 intro a slice pins s σ H x y v u Q I k l h e;obtain⟨p,xs,i,z,rfl,rfl,m,n,q⟩:=h;cases k;obtain⟨t,rfl⟩:=l;obtain⟨b,r,c,hz⟩:=I.list m;obtain⟨j,h1,h2,C,o,A⟩:=wz n;obtain⟨w,f,d⟩:=r.get h2;have B:=r.length;have hn:=l6;have fin:EP X pins σ Q w s:=⟨z,H,I,d,q⟩
 by_cases g:0<=i
 ·have hj:i.toNat=j:=by
   rw[seqIndex_of g A] at h1;exact du h1
  exact item_listR c.isList g (by omega) (by rw[hj];simpa using f) fin e
 ·have hj:(i+(b.toArray.size:Int)).toNat=j:=by
   rw[seqIndex_neg (by omega) o] at h1;rw[Ii,<-B];exact du h1
  exact QL (x:=w) c.isList.typeIs slot_list_getitem.lookup
   (wpAny_getItem_list_neg (Q:=λr s'=>r=w/\EP X pins σ Q r s') c.isList (by omega) (by rw[Ii] <;> omega) (by omega) (by rw[hj];simpa using f) ⟨rfl,fin⟩) e
theorem Ee:IxR X (GY X.K):=by
 intro a slice pins s σ H x y v u Q I d e h f;obtain⟨p,xs,i,z,rfl,rfl,g,k,q⟩:=h;cases d;obtain⟨t,rfl⟩:=e;obtain⟨l,r,c,hz⟩:=I.tuple g;obtain⟨j,h1,h2,o,A,B⟩:=wz k;obtain⟨w,m,b⟩:=r.get h2;have n:=r.length;have hn:=l6;have fin:EP X pins σ Q w s:=⟨z,H,I,b,q⟩
 exact QL (x:=w) c.typeIs slot_tuple_getitem.lookup
  (getItem_tuple (j:=j) (Q:=λr s'=>r=w/\EP X pins σ Q r s') c (by omega) (by omega) (by rw[Ii,<-n];exact h1) (by simpa using m) ⟨rfl,fin⟩) f
theorem sE(a:List ap)(n j:Nat)(u:ap):dV (·.setIfInBounds j u) { cls:=.type "list",data:=.seq a.toArray n }={ cls:=.type "list",data:=.seq (a.set j u).toArray n }:=by simp[dV]
theorem Inv.lst{pins:List (al×Obj)}{σ:St}{H:Hp}{s:av}{p:al}{xs:List V}(I:Inv X pins σ H s)(h:H p=some (.lst xs)) :
  ∃(a:List ap) (n:Nat),bf xs a/\s.heap.get? p=some { cls:=.type "list",data:=.seq a.toArray n }/\xs.length<=sizeLine:=by obtain⟨z,a,n,r,e⟩:=I.hok p _ h;exact⟨a,n,r,e,z⟩
theorem Inv.lstUpd{pins:List (al×Obj)}{σ:St}{H:Hp}{s:av}{p:al}{xs ys:List V}{a its':List ap}{n c:Nat}{f:Obj->Obj}(I:Inv X pins σ H s)(h:H p=some (.lst xs))
  (ho:s.heap.get? p=some { cls:=.type "list",data:=.seq a.toArray n }) (d:f { cls:=.type "list",data:=.seq a.toArray n }={ cls:=.type "list",data:=.seq its'.toArray c }) (r:bf ys its') (hz:ys.length<=sizeLine) (t:Nat) :
  Inv X pins σ (upd H p (.lst ys)) { s with heap:=s.heap.update p f,toks:=t }:=by
 have e:(s.heap.update p f).get? p=some { cls:=.type "list",data:=.seq its'.toArray c }:=by rw[Jy f ho (by rw[d] <;> rfl),d]
 refine I.write (x:=p) (e:=p) (by rw[h];trivial) (.inl rfl) (λb u g q=>(JG _ _ (Ne.symm g)).trans q) ⟨_,e⟩ ?_;exact⟨hz,its',c,r,e⟩
def FH:V->V->V->Hp->(Hp->Prop)->Prop:=λo i v H Q=>∃p xs k j,o=.ref p/\i=.int k/\H p=some (.lst xs)/\ixN xs.length k=some j/\Q (upd H p (.lst (xs.set j v)))
theorem xg:GK X FH:=by
 intro pins s σ H o i v ov iv u Q I l m w h;obtain⟨p,xs,k,j,rfl,rfl,c,hj,q⟩:=h;cases l;obtain⟨t,rfl⟩:=m;obtain⟨a,n,r,ho,hz⟩:=I.lst c;obtain⟨h1,h2,d,e⟩:=vm hj;have b:=r.length;have hn:=l6;have f:Inv X pins σ (upd H p (.lst (xs.set j v))) { s with heap:=s.heap.update p (dV (·.setIfInBounds j u)) } :=
  I.lstUpd c ho (sE a n j u) (r.set w j) (by rw[II];exact hz) s.toks
 by_cases g:0<=k
 ·have hk:k.toNat=j:=by
   rw[seqIndex_of g e] at h1;exact du h1
  exact PySem.W.ki_setAt ho g (by omega) (by rw[Ii,<-b];exact e) (by rw[hk];exact⟨_,f,q⟩)
 ·have hk:(k+(a.toArray.size:Int)).toNat=j:=by
   rw[seqIndex_neg (by omega) d] at h1;rw[Ii,<-b];exact du h1
  exact PySem.W.ki_setBack ho (by omega) (by rw[Ii,<-b];exact d) (by omega) (by rw[hk];exact⟨_,f,q⟩)
theorem lM(lo hi:Option Int)(n:Nat):(Kw lo hi none n).1=((HT.sIx n 0 lo:Nat):Int)/\(Kw lo hi none n).2.1=((HT.sIx n n hi:Nat):Int)/\(Kw lo hi none n).2.2=1:=by
 refine⟨?_,?_,rfl⟩
 ·cases lo with
  | none=>simp[Kw,HT.sIx]
  | some i =>
   simp only[Kw,HT.sIx,LV,show(1:Int)>0 by decide,if_true];by_cases h:i<0
   ·simp only[h,if_true] <;> omega
   ·simp only[h,if_false] <;> omega
 ·cases hi with
  | none=>simp[Kw,HT.sIx]
  | some i =>
   simp only[Kw,HT.sIx,LV,show(1:Int)>0 by decide,if_true];by_cases h:i<0
   ·simp only[h,if_true] <;> omega
   ·simp only[h,if_false] <;> omega
theorem kc(a:List ap)(lo hi:Option Int):slicePick a.toArray lo hi none=((a.drop (HT.sIx a.length 0 lo)).take (HT.sIx a.length a.length hi - HT.sIx a.length 0 lo)).toArray:=by obtain⟨h1,h2,b⟩:=lM lo hi a.toArray.size;unfold slicePick;rw[h1,h2,b];simp only[sliceRange_one,pick_run,Ii] <;> rfl
def GX(K:cc):V->Option Int->Option Int->Hp->VK->Prop:=λx lo hi H Q=>∃a xs,x=.ref a/\SqL K H a xs/\∀p,H p=none->Q (.ref p) (upd H p (.lst (sX xs lo hi)))
theorem Ar:SlR X (GX X.K):=by intro pins s σ H x v k l lo hi sl Q I e f g i h;obtain⟨a,xs,rfl,hx,q⟩:=h;cases e;obtain⟨j,r,d,hz⟩:=I.list hx;have c:=r.length;refine⟨"list",_,slot_list_getitem.lookup,d.isList.typeIs,?_⟩;refine wpAny_getItem_list_slice d.isList f g i .none (by simp) ?_ (by rw[Ii] <;> omega);rw[kc,<-c];refine⟨.ref s.heap.objs.size,_,I.laid (t':=s.toks) (o:=.lst (sX xs lo hi)) (λb ob q=>Ia _ q) (Ih _) ?_,rfl,q _ (I.hok.fresh (Ih _))⟩;exact⟨Ie (i6 xs lo hi) hz,_,0,(r.drop (HT.sIx xs.length 0 lo)).take (HT.sIx xs.length xs.length hi - HT.sIx xs.length 0 lo),Im _ rfl⟩
def kP:V->Bool
 | .non=>true
 | .bl _=>true
 | .int _=>true
 | .str _=>true
 | _=>false
def eqV:V->V->Bool
 | .non,.non=>true
 | .bl a,.bl b=>a==b
 | .bl a,.int b=>(if a then 1 else 0)==b
 | .int a,.bl b=>a==(if b then 1 else 0)
 | .int a,.int b=>a==b
 | .str a,.str b=>a==b
 | _,_=>false
theorem Ey(d:bC y u)(c:bC x v)(f:kP y=true)(e:kP x=true):SeqAt.EqAt A s u v (eqV y x):=by
 cases y with
 | non =>
  cases d;cases x with
  | non=>cases c;exact SeqAt.EqAt.same _
  | bl b=>cases c;exact SeqAt.EqAt.none_bool b
  | int b=>obtain⟨t,rfl⟩:=c;exact SeqAt.EqAt.none_int b t
  | str b=>obtain⟨t,rfl⟩:=c;exact SeqAt.EqAt.none_str b t
  | _=>exact absurd (show false=true from e) IA
 | bl a =>
  cases d;cases x with
  | non=>cases c;exact SeqAt.EqAt.bool_none a
  | bl b=>cases c;exact SeqAt.EqAt.bool_bool a b
  | int b=>obtain⟨t,rfl⟩:=c;exact SeqAt.EqAt.bool_int a b t
  | str b=>obtain⟨t,rfl⟩:=c;exact SeqAt.EqAt.bool_str a b t
  | _=>exact absurd (show false=true from e) IA
 | int a =>
  obtain⟨t',rfl⟩:=d;cases x with
  | non=>cases c;exact SeqAt.EqAt.int_none a t'
  | bl b=>cases c;exact SeqAt.EqAt.int_bool a t' b
  | int b=>obtain⟨t,rfl⟩:=c;exact SeqAt.EqAt.int_int a t' b t
  | str b=>obtain⟨t,rfl⟩:=c;exact Ls a t' b t
  | _=>exact absurd (show false=true from e) IA
 | str a =>
  obtain⟨t',rfl⟩:=d;cases x with
  | non=>cases c;exact SeqAt.EqAt.str_none a t'
  | bl b=>cases c;exact SeqAt.EqAt.str_bool a t' b
  | int b=>obtain⟨t,rfl⟩:=c;exact Lr a t' b t
  | str b=>obtain⟨t,rfl⟩:=c;exact SeqAt.EqAt.str_str a t' b t
  | _=>exact absurd (show false=true from e) IA
 | _=>exact absurd (show false=true from f) IA
def eqU(x:V)(u:ap):Bool:=match u with
 | .none=>eqV .non x
 | .bool b=>eqV (.bl b) x
 | .int i _=>eqV (.int i) x
 | .str z _=>eqV (.str z) x
 | _=>false
theorem zM(r:bC y u)(f:kP y=true):eqU x u=eqV y x:=by
 cases y with
 | non=>cases r;rfl
 | bl b=>cases r;rfl
 | int i=>obtain⟨t,rfl⟩:=r;rfl
 | str z=>obtain⟨t,rfl⟩:=r;rfl
 | _=>exact absurd (show false=true from f) IA
theorem pJ:∀{xs:List V}{us:List ap},bf xs us->xs.all kP=true->us.any (eqU x)=xs.any λy=>eqV y x
 | _,_,.nil,_=>rfl
 | y::xs,u::us,.cons r t,f=>by
  rw[My,Iq] at f;rw[rj,rj,zM r f.1,pJ t f.2]
theorem kB(b:bC x v)(c:kP x=true):∀{xs:List V}{us:List ap},bf xs us->xs.all kP=true->∀u∈us,SeqAt.EqAt A s u v (eqU x u)
 | _,_,.nil,_=>λu a=>by cases a
 | y::xs,u::us,.cons r t,f=>λd a=>by
  rw[My,Iq] at f;rcases Ic.mp a with rfl|a
  ·rw[zM r f.1];exact Ey r b f.1 c
  ·exact kB b c t f.2 d a
def inV(x:V)(xs:List V):Bool:=xs.any λy=>eqV y x
def rIn(K:cc)(neg:Bool):R2:=λx y H Q=>∃p xs,y=.ref p/\(SqL K H p xs\/SqT K H p xs)/\kP x=true/\xs.all kP=true/\Q (.bl (if neg then !inV x xs else inV x xs)) H
theorem uO:OpR X (ky .In) (rIn X.K false):=by
 intro pins s σ H x y v u Q I d f h;obtain⟨p,xs,rfl,b,e,fs,q⟩:=h;cases f;rcases b with b|b
 ·obtain⟨a,r,c,hz⟩:=I.list b;refine SeqAt.in_listAt (eqU x) c.isList (λw hw=>kB d e r fs w (by simpa using hw)) ⟨.bl _,H,I,rfl,?_⟩;rw[show a.toArray.any (eqU x)=a.any (eqU x) by simp,pJ r fs];exact q
 ·obtain⟨a,r,c,hz⟩:=I.tuple b;refine SeqAt.in_tupleAt (eqU x) c (λw hw=>kB d e r fs w (by simpa using hw)) ⟨.bl _,H,I,rfl,?_⟩;rw[show a.toArray.any (eqU x)=a.any (eqU x) by simp,pJ r fs];exact q
theorem nc:fg X (.builtin "len") (λxs H Q=>∃p ys,xs=[.ref p]/\(SqL X.K H p ys\/SqT X.K H p ys)/\Q (.int ys.length) H):=by
 intro pins s σ H xs us Q I r h;obtain⟨p,ys,rfl,b,q⟩:=h;obtain⟨u,rfl,f⟩:=iD r;cases f;have hn:=l6;rcases b with b|b
 ·obtain⟨c,d,e,hz⟩:=I.list b;have a:=d.length;exact Calls.call_len_list e.isList (by simp only[Ii] <;> omega) ⟨.int ys.length,H,I.tok _,⟨s.toks+1,by rw[Ii,a]⟩,q⟩
 ·obtain⟨c,d,e,hz⟩:=I.tuple b;have a:=d.length;exact len_tuple e (by simp only[Ii] <;> omega) ⟨.int ys.length,H,I.tok _,⟨s.toks+1,by rw[Ii,a]⟩,q⟩
theorem m9:fg X (.type "list") (λxs H Q=>∃p ys,xs=[.ref p]/\(SqL X.K H p ys\/SqT X.K H p ys)/\∀l,H l=none->Q (.ref l) (upd H l (.lst ys))):=by
 intro pins s σ H xs us Q I r h;obtain⟨p,ys,rfl,d,q⟩:=h;obtain⟨u,rfl,i⟩:=iD r;cases i;have fin:∀(a:List ap),bf ys a->ys.length<=sizeLine->∀(h':bb) (c':Nat),(∀b o',s.heap.get? b=some o'->h'.get? b=some o') ->
   h'.get? s.heap.objs.size=some { cls:=.type "list",dict:=none,data:=.seq a.toArray c',slots:=#[] }->EP X pins σ Q (.ref s.heap.objs.size) { s with heap:=h' }:=λa c hz h' c' kp e =>
  ⟨.ref s.heap.objs.size,_,I.laid (t':=s.toks) kp (Ih _) (show fe X.prog X.w _ h' _ (.lst ys) from⟨hz,a,c',c,e⟩),rfl,q _ (I.hok.fresh (Ih _))⟩
 rcases d with d|d
 ·obtain⟨a,c,g,hz⟩:=I.list d;have f:=c.length;obtain⟨o,ho,hc,n,hd⟩:=g.isList;exact call_list_seq p (.inl rfl) ho hc hd (λh' c' kp e=>fin a c hz h' c' kp e) (by simp only[Ii] <;> omega)
 ·obtain⟨a,c,g,hz⟩:=I.tuple d;have f:=c.length;obtain⟨o,ho,hc,n,hd⟩:=g;exact call_list_seq p (.inr rfl) ho hc hd (λh' c' kp e=>fin a c hz h' c' kp e) (by simp only[Ii] <;> omega)
theorem k8:fg X (.type "tuple") (λxs H Q=>∃p ys,xs=[.ref p]/\((SqL X.K H p ys/\∀l,H l=none->Q (.ref l) (upd H l (.tup ys)))\/(SqT X.K H p ys/\Q (.ref p) H))):=by
 intro pins s σ H xs us Q I r h;obtain⟨p,ys,rfl,h⟩:=h;obtain⟨u,rfl,j⟩:=iD r;cases j;rcases h with⟨c,q⟩|⟨c,q⟩
 ·obtain⟨a,d,f,hz⟩:=I.list c;have g:=d.length;refine call_tuple_list f.isList (λh' kp=>?_) (by simp only[Ii] <;> omega);have i:Inv X pins σ H { s with heap:=h' }:=I.kept (t':=s.toks) kp;have k:Inv X pins σ (upd H h'.objs.size (.tup ys)) { s with heap:=h'.push { cls:=.type "tuple",data:=.seq a.toArray } } :=
   i.laid (t':=s.toks) (λb o e=>Ia _ e) (Ih _) (show fe X.prog X.w _ _ _ (.tup ys) from⟨hz,a,d,wC.new _ _⟩)
  exact⟨.ref h'.objs.size,_,k,rfl,q _ (i.hok.fresh (Ih _))⟩
 ·obtain⟨a,d,f,hz⟩:=I.tuple c;exact call_tuple_same f ⟨.ref p,H,I,rfl,q⟩
def tyV(K:cc)(T:String)(x:V)(H:Hp):Prop:=match x with
 | .str _=>T = "str"
 | .int _=>T = "int"
 | .ref p=>(T = "list" /\ ∃xs,SqL K H p xs)\/(T = "tuple" /\ ∃xs,SqT K H p xs) \/
   (T = "dict" /\ ((∃kvs,H p=some (.dK kvs))\/∃kvs,H p=some (.dT kvs)))\/(T = "set" /\ ∃S n,H p=some (.set S n))
 | _=>False
theorem yL{pins:List (al×Obj)}{σ:St}{H:Hp}{s:av}{T:String}{x:V}{v:ap}(I:Inv X pins σ H s)(r:bC x v)(ty:tyV X.K T x H) :
  s.TypeIs v T/\∀a,v=.ref a->∃ob,s.heap.get? a=some ob/\ob.dict=none:=by
 cases x with
 | str z =>
  obtain⟨t,rfl⟩:=r;cases (show T = "str" from ty);exact⟨typeIs_str s z t,λ_ e=>nomatch e⟩
 | int i =>
  obtain⟨t,rfl⟩:=r;cases (show T = "int" from ty);exact⟨typeIs_int s i t,λ_ e=>nomatch e⟩
 | ref p =>
  cases r;rcases ty with⟨rfl,xs,b⟩|⟨rfl,xs,b⟩|⟨rfl,hk⟩|⟨rfl,S,n,hk⟩
  ·obtain⟨d,_,f,_⟩:=I.list b;refine⟨f.isList.typeIs,λa e=>?_⟩;cases e;obtain⟨o,n,e,c,hd,_⟩:=f;exact⟨o,e,hd⟩
  ·obtain⟨d,_,o,e,hc,_,hd⟩:=I.tupleN b;refine⟨⟨o,e,hc⟩,λa e'=>?_⟩;cases e';exact⟨o,e,hd⟩
  ·have z:∃o,s.heap.get? p=some o/\o.ExactDict:=by
    rcases hk with⟨kvs,hk⟩|⟨kvs,hk⟩
    ·obtain⟨_,_,_,_,o,_,_,e,ex,_⟩:=I.hok p _ hk;exact⟨o,e,ex⟩
    ·obtain⟨_,_,_,_,o,_,_,e,ex,_⟩:=I.hok p _ hk;exact⟨o,e,ex⟩
   obtain⟨o,e,ex⟩:=z;refine⟨⟨o,e,ex.1⟩,λa e2=>?_⟩;cases e2;exact⟨o,e,ex.2.1⟩
  ·obtain⟨o,_,_,_,e,ex,_⟩:=I.hok p _ hk;refine⟨⟨o,e,ex.1⟩,λa e2=>?_⟩;cases e2;exact⟨o,e,ex.2.1⟩
 | _=>exact False.elim ty
def GS(K:cc)(T:String)(r:V->List V->Hp->VK->Prop)(to:TE):TE:=λσ H Q=>to σ H λx H1=>tyV K T x H1/\r x [] H1 Q
def tBM(K:cc)(T:String)(r:V->List V->Hp->VK->Prop)(to:TE)(t:TA):TE:=λσ H Q=>to σ H λx H1=>tyV K T x H1/\t σ H1 λxs a=>r x xs a Q
variable {o e:ba}{es:List ba}{to:TE}{t:TA}{name:bt}{apos cpos:Pos}{T id:String}{r:V->List V->Hp->VK->Prop}
theorem DJ(g:Qv T)(slot:Slot T name id)(c:typeOf (.builtin id)=pure (.type "method_descriptor"))(i:MtR X id r)(ho:PE X o to)
  (a:z3 o name X.env (eval o X.env)=eval o X.env:=by rfl) (b:(apos.endLine==cpos.line)=true:=by rfl):PE X (.Call (.Attribute o name apos) [] [] cpos) (GS X.K T r to):=by intro pins s σ H Q I h;refine wpAny_Call_method0_late a b (thn (ho pins s σ H _ I h) λv s1 d=>?_);obtain⟨x,H1,e,f,ty,j⟩:=d;obtain⟨h1,h2⟩:=yL e f ty;exact⟨T,id,g,slot,c,h1,h2,Calls.callWith_builtin rfl (PySem.evalArgs_none (i pins s1 σ H1 x [] v [] Q e f .nil j))⟩
theorem FQ(l:Qv T)(slot:Slot T name id)(f:typeOf (.builtin id)=pure (.type "method_descriptor"))(m:MtR X id r)(ho:PE X o to)(n:PA X (e::es) t)
  (b:z3 o name X.env (eval o X.env)=eval o X.env:=by rfl)
  (d:((qs cpos (j1 (e::es) X.env)).all (λx=>!x.1)&&(KF cpos (Kf [] X.env)).all (λx=>x.1.isSome)
   && decide ((e::es).length+([]:List Ke).length+(if ([]:List Ke).isEmpty then 0 else 1)<30))=true:=by rfl)
  (c:(apos.endLine==cpos.line)=true:=by rfl) (p:j1 (e::es) X.env=(false,eval e X.env)::j1 es X.env:=by rfl) (a:(qs cpos (j1 es X.env)).any (·.1)=false:=by rfl) :
  PE X (.Call (.Attribute o name apos) (e::es) [] cpos) (tBM X.K T r to t):=by intro pins s σ H Q I h;refine wpAny_Call_method_late b d c rfl (thn (ho pins s σ H _ I h) λv s1 g=>?_);obtain⟨x,H1,i,j,ty,q⟩:=g;obtain⟨h1,h2⟩:=yL i j ty;refine⟨T,id,l,slot,f,h1,h2,?_⟩;have k:=n cpos pins s1 σ H1 _ i q;rw[p] at k ⊢;refine Calls.callWith_builtin (by show(false || (qs cpos (j1 es X.env)).any (·.1))=false;rw[a] <;> rfl) (Calls.evalArgs_plain ?_);exact thn k λus s2 ⟨vs,u,w,y,z⟩=>m pins s2 σ u x vs v us Q w j y z
end
def MtM(X:Cx)(id:String)(r:V->List V->Hp->VK->Prop):Prop :=
 ∀(pins:List (al×Obj)) (s:av) (σ:St) (H:Hp) (x:V) (xs:List V) (v:ap) (us:List ap) (Q:VK),Inv X pins σ H s->bC x v->bf xs us->r x xs H Q ->
  j4 (kf X.prog X.w) X.A (call (.builtin id) (v::us)) (EP X pins σ Q) X.xe s
theorem bf.consI(h:bf (x::xs) us):∃u vs,us=u::vs/\bC x u/\bf xs vs:=by
 cases h with
 | cons r q=>exact⟨_,_,rfl,r,q⟩
theorem bf.zero(h:bf [] us):us=[]:=by cases h;rfl
theorem bf.one(h:bf [x] us):∃u,us=[u]/\bC x u:=by obtain⟨u,vs,rfl,r,q⟩:=h.consI;rw[bf.zero q];exact⟨u,rfl,r⟩
theorem bf.dropLast(h:bf xs us):bf xs.dropLast us.dropLast:=by
 induction h with
 | nil=>exact .nil
 | cons r t a =>
  cases t with
  | nil=>exact .nil
  | cons q t'=>exact .cons r a
theorem bf.eraseIdx:∀{xs:List V}{us:List ap} (i:Nat),bf xs us->bf (xs.eraseIdx i) (us.eraseIdx i)
 | _,_,_,.nil=>.nil
 | _,_,0,.cons _ t=>t
 | _,_,i+1,.cons r t=>.cons r (bf.eraseIdx i t)
theorem sN{α:Type}(l:List α):l.eraseIdx (l.length - 1)=l.dropLast:=by
 induction l with
 | nil=>rfl
 | cons a r c =>
  cases r with
  | nil=>rfl
  | cons b r =>
   have e:(a::b::r).length - 1=((b::r).length - 1)+1:=by have h1:(a::b::r).length=r.length+2:=rfl;have h2:(b::r).length=r.length+1:=rfl;omega
   rw[e,List.eraseIdx_cons_succ,c]
   all_goals rfl
theorem l7{α:Type}:∀(l:List α) (i:Nat),(l.eraseIdx i).length<=l.length
 | [],_=>Ih _
 | _::_,0=>JD _
 | _::r,i+1=>Nat.succ_le_succ (l7 r i)
section
variable {X:Cx}{pins:List (al×Obj)}{σ:St}{H:Hp}{s:av}{l:al}{xs ys:List V}
theorem Inv.lset{a its':List ap}(I:Inv X pins σ H s)(b:H l=some (.lst xs))
  (e : s.heap.get? l=some { cls:=.type "list",data:=.seq a.toArray n }) (c:f a.toArray=its'.toArray) (d:bf ys its') (hz:ys.length<=sizeLine) :
  Inv X pins σ (upd H l (.lst ys)) { s with heap:=s.heap.update l (dV f),toks:=t' }:=by have q:=PySem.IsL.update e f;rw[c] at q;refine I.write (x:=l) (e:=l) (by rw[b];exact trivial) (.inl rfl) (λi u g h=>(JG s.heap (dV f) (Ne.symm g)).trans h) ⟨_,q⟩ ?_;exact⟨hz,its',_,d,q⟩
theorem Inv.lnew(I:Inv X pins σ H s)(b:bf ys a)(hz:ys.length<=sizeLine) :
  Inv X pins σ (upd H s.heap.objs.size (.lst ys)) { s with heap:=s.heap.push { cls:=.type "list",data:=.seq a.toArray },toks:=t' } :=
 I.laid (λ_ _ q=>Ia _ q) (Ih _) ⟨hz,a,0,b,Im _ rfl⟩
theorem Inv.fresh(I:Inv X pins σ H s):H s.heap.objs.size=none:=I.hok.fresh (Ih _)
theorem Inv.lstM(I:Inv X pins σ H s)(b:H l=some (.lst xs)):xs.length<=sizeLine/\∃(a:List ap) (n:Nat),bf xs a/\xs.length=a.length/\s.heap.get? l=some { cls:=.type "list",data:=.seq a.toArray n }:=by obtain⟨z,a,n,r,e⟩:=I.hok l _ b;exact⟨z,a,n,r,r.length,e⟩
theorem xK(h:n<=sizeLine):ph n=false:=by unfold ph;exact decide_eq_false (by omega)
end
section
def uc:V->List V->Hp->VK->Prop:=λx vs H Q=>∃l xs y,x=.ref l/\vs=[y]/\H l=some (.lst xs)/\xs.length<sizeLine/\Q .non (upd H l (.lst (xs++[y])))
theorem cQ:MtM X "list.append" uc:=by intro pins s σ H x vs v us Q I c d h;obtain⟨l,xs,y,rfl,rfl,b,hz,q⟩:=h;cases c;obtain⟨u,rfl,f⟩:=d.one;obtain⟨z,a,n,r,g,e⟩:=I.lstM b;refine Qd F.slot_list_append ⟨_,e,rfl⟩ F.entry_list_append (F.args_list_append_2 _ _) (PySem.list_append l a.toArray n u (by rw[Ii];omega)) ⟨e,?_⟩;refine⟨.non,_,I.lset (its':=a++[u]) b e (by simp) (r.append (.cons f .nil)) ?_,rfl,q⟩;rw[Ix,IX];omega
def Aw:V->List V->Hp->VK->Prop:=λx vs H Q=>∃l b xs a,x=.ref l/\vs=[.ref b]/\H l=some (.lst xs)/\H b=some (.lst a)/\xs.length+a.length<=sizeLine/\Q .non (upd H l (.lst (xs++a)))
theorem lZ:MtM X "list.extend" Aw:=by
 intro pins s σ H x vs v us Q I g i h;obtain⟨l,b,xs,t,rfl,rfl,f,j,hz,q⟩:=h;cases g;obtain⟨u,rfl,k⟩:=i.one;cases k;obtain⟨z,c,n,r,w,e⟩:=I.lstM f;obtain⟨z2,a,m,o,p,e2⟩:=I.lstM j;have hsz:c.toArray.size+a.toArray.size<=sizeLine:=by rw[Ii,Ii];omega
 have d:¬(!c.toArray.isEmpty&&ph (c.toArray.size+a.toArray.size))=true:=by rw[xK hsz,Bool.and_false];exact IA
 refine Qd F.slot_list_extend ⟨_,e,rfl⟩ F.entry_list_extend (F.args_list_extend_2 _ _)
  (AutoSeq1.list_extend_list_list_0 l c.toArray n b a.toArray m d (by rw[Ii];omega) (by omega)) ⟨e,e2,?_⟩
 refine⟨.non,_,I.lset (its':=c++a) f e (by simp) (r.append o) ?_,rfl,q⟩;rw[Ix];omega
def Hr:V->List V->Hp->VK->Prop:=λx vs H Q=>∃l xs y,x=.ref l/\vs=[]/\H l=some (.lst xs)/\xs[xs.length - 1]? = some y/\Q y (upd H l (.lst xs.dropLast))
theorem zo:MtM X "list.pop" Hr:=by
 intro pins s σ H x vs v us Q I f g h;obtain⟨l,xs,y,rfl,rfl,d,i,q⟩:=h;cases f;have b:=g.zero;subst b;obtain⟨z,a,n,r,j,e⟩:=I.lstM d;obtain⟨u,k,m⟩:=r.get i;have c:a.toArray[a.toArray.size - 1]? = some u:=by show a.toArray[a.length - 1]? = some u;rw[<-tf,<-j];exact k
 refine Qd F.slot_list_pop ⟨_,e,rfl⟩ F.entry_list_pop (F.args_list_pop_1 _) (MeetsSeq.list_pop_last l a.toArray n u c (by rw[Ii];omega)) ⟨e,?_⟩;refine⟨y,_,I.lset (its':=a.dropLast) d e ?_ r.dropLast ?_,m,q⟩
 ·show a.toArray.eraseIdxIfInBounds (a.toArray.size - 1)=a.dropLast.toArray;rw[Ii,Hs,sN]
 ·rw[List.length_dropLast];omega
def CW:V->List V->Hp->VK->Prop:=λx vs H Q=>∃l xs i k y,x=.ref l/\vs=[.int i]/\H l=some (.lst xs)/\-(2 ^ 63)<=i/\i<2 ^ 63/\QC i xs.length=some k/\xs[k]? = some y/\Q y (upd H l (.lst (xs.eraseIdx k)))
theorem xM:MtM X "list.pop" CW:=by
 intro pins s σ H x vs v us Q I d f h;obtain⟨l,xs,i,k,y,rfl,rfl,c,h1,h2,hk,g,q⟩:=h;cases d;obtain⟨u,rfl,j⟩:=f.one;obtain⟨t,rfl⟩:=j;obtain⟨z,a,n,r,m,e⟩:=I.lstM c;obtain⟨w,hw,b⟩:=r.get g;refine Qd F.slot_list_pop ⟨_,e,rfl⟩ F.entry_list_pop (F.args_list_pop_2 _ _)
  (MeetsSeq.list_pop_at l a.toArray n i t k w (fitsIndex_both h1 h2) (by rw[Ii,<-m];exact hk) (by rw[<-tf];exact hw) (by rw[Ii];omega)) ⟨e,?_⟩
 refine⟨y,_,I.lset (its':=a.eraseIdx k) c e ?_ (r.eraseIdx k) ?_,b,q⟩
 ·show a.toArray.eraseIdxIfInBounds k=(a.eraseIdx k).toArray;rw[Hs]
 ·have:=l7 xs k;omega
end
end _L
namespace Att
open PySem PySem.W PySem.Calls PyProof.Rows
theorem iX:∀(ns:List Int) (vs:List ap),WellAll P h vs (ns.map WData.int)->QP vs ns:=by
 intro ns
 induction ns with
 | nil =>
  intro vs w;rw[sj] at w;cases w;exact .nil
 | cons n ns c =>
  intro vs w;rw[ID] at w;cases w with
  | cons a b =>
   cases a;exact .cons _ _ (c _ b)
theorem t9{l:OpenLaw}(hn:l.most=some n){h:bb}
  (c:l.row.toRowW.claim.pre args=true) (j:WellAll P h b args) :
  ∃a vs ns,b=[eE a]/\args=[WData.list (ns.map WData.int)]/\h.get? a=some { cls:=.type "list",data:=.seq vs.toArray }/\QP vs ns/\ns.length<=n:=by
 have k:WShape.hasAll [] args [.list .int]=true:=(pre_splitW c).1;have hc:l.pre.holds [] { args:=args }=true:=(pre_splitW c).2;obtain⟨d,r,rfl,h1,h2⟩:=hasAllW_cons k;obtain rfl:=hasAllW_nil h2;obtain⟨xs,rfl,m⟩:=hasW_list h1;obtain⟨ns,rfl⟩:=items_int m;have e:ns.length<=n:=by
  unfold OpenLaw.pre at hc;have g:(WTm.not (.lt (.lit (.int (n:Int))) (.len (.arg 0)))).holds [] { args:=[.list (ns.map .int)] }=true:=by have g:=(holds_andW hc).1;rw[hn] at g;exact g
  have i:=condW_of g (w_not (w_lt w_lit (w_len_list (w_arg rfl))));rw[HS] at i;refine Mm λq=>?_;have o:(n:Int)<((ns.length:Nat):Int):=by omega
  first
   | (rw[decide_eq_true o] at i;exact absurd i (by decide))
   | (simp at i;omega)
 cases j with
 | cons p s =>
  cases s;cases p with
  | list ho f=>exact⟨_,_,ns,rfl,rfl,ho,iX ns _ f,e⟩
theorem uw(l:OpenLaw)(args:List WData):l.row.toRowW.claim.post args (.bool true) args=true :=
 postW_of (r:=l.row.toRowW) (X:=(true==true))
  (show WShape.has [] (.bool true) .bool=true by first|rfl|decide|simp[WShape.has,WShape.arms,WShape.armsAll])
  (show(WTm.eq .res (.lit (.bool true))).value [] { args:=args,res:=some (.bool true),after:=args }=some (.bool (true==true)) from w_eq_bool (w_res rfl) w_lit) rfl
theorem attach_call{l:OpenLaw}{d:DefRec}
  (hn:l.most=some n) (j:d.params.defaults=[])
  (call:∀(w:k0) (s₀ b:av) (mg mb:bt->Option ap) (fa:al) (o:Obj) (pm cd doc:ap) (a:al) (vs:List ap) (ns:List Int),
   Ground q c [] s w s₀ mg mb b.heap->t w b.heap ->
   b.heap.get? fa=some o->o.data=.func (docDef d.name d.params d.body d.scope pm cd doc)->b.heap.CodeRec cd d.name->mg d.name=some (.ref fa) ->
   b.heap.get? a=some { cls:=.type "list",data:=.seq vs.toArray }->QP vs ns->ns.length<=n->b.gens=#[] ->
   Ko (kf l.prog w) Qh (.call (.ref fa) ⟨[.ref a],[]⟩) (λr s'=>r=.ok (.ret (.bool true))/\OldK b.heap s'.heap/\s'.os=b.os/\KS s'.gens) b) :
  WalkO q c s t l.row.toRowW d [] (λf vs=>wx f vs):=by intro w s₀ b mg mb G Y fa o pm cd doc y kV ho hd k u m z args v as g x A p B;obtain rfl:y=.none:=Dflts.none u j;obtain rfl:kV=.none:=Dflts.noKw u;obtain⟨a,vs,ns,rfl,rfl,h,e,i⟩:=t9 hn g p;refine enter_call (KQ (call w s₀ b mg mb fa o pm cd doc a vs ns G Y ho (fd_plain hd) k m h e i z) λr s' C=>?_);obtain⟨rfl,h2,D,E⟩:=C;exact⟨.inl ⟨.bool true,.bool true,[],rfl,λ_=>rfl,.bool true,uw l _,λ_=>⟨Lm,λ_ F=>(nomatch F)⟩⟩,h2,D,E⟩
end Att
namespace _L
open PySem PySem.Spec PyProof.Rows
theorem lw:∀{vs:List ap}{ns:List Int},QP vs ns->bf (ns.map V.int) vs
 | _,_,.nil=>.nil
 | _,_,.cons n t h=>.cons ⟨t,rfl⟩ (lw h)
def GL(H:Hp):Prop:=∀b,H b=none\/(∃o xs,H b=some (.frz o (.lst xs)))\/∃q,H b=some (.tbl q)
theorem xV{K:cc}{f:av}{vs:List ap}{ns:List Int}{tb:List (al×bt)}
  (A:∀b q,tb.lookup b=some q->f.heap.get? b=some { cls:=.none,data:=.fields #[] }/\K.lookup b=none/\∃c,f.heap.TableAt c b #[]) (O:∀T q,jg K T q->tb.lookup T=some q)
  (KX:K.In f.heap) (D:f.heap.Ns ke mg) (i:f.heap.Ns Kg mb) (Q:∀x:bt,x ≠ "__name__" -> mb x=J6 x) (E:f.heap.NoLimit) (R:∃bm ob,mg "__builtins__" = some (.ref bm)/\bm≠Kg/\f.heap.get? bm=some ob/\ob.cls=.type "module" /\ ob.dict=some Kg/\ob.data=.plain) (hg:f.gens=#[])
  (B:f.heap.get? a=some { cls:=.type "list",data:=.seq vs.toArray }) (hi:QP vs ns) (hl:ns.length<=sizeLine) (hr:dc k Qh)
  (F : ∀base:bb,K.In base->base.Ns ke mg->cq P w K mg base CX k fa fd [x] sp) (C:∀(s:av) (u:ap),K5 s fd ⟨[u],[]⟩ [(x,u)])
  (S:∀H:Hp,GL H->SqL K H a (ns.map V.int)->sp [.ref a] H (λv _=>v=.bl true) λ_ _ _=>False)
  (U:∀H e s',CX [] H f (λ_ _ _=>False) e s'->False) :
  Ko (kf P w) Qh (.call (.ref fa) ⟨[.ref a],[]⟩) (λr s'=>r=.ok (.ret (.bool true))/\OldK f.heap s'.heap/\s'.os=f.os/\KS s'.gens) f:=by
 have rv:=lw hi;have G:=hi.length;have t:∀H:Hp,GL H->SqL K H a (ns.map V.int)->HOk P w H f.heap->(∀b u,H b=some u->(b=a/\K.lookup a=none)\/∃q,tb.lookup b=some q/\u=.tbl q)->(∀b q,tb.lookup b=some q->H b=some (.tbl q)) ->
   Ko (kf P w) Qh (.call (.ref fa) ⟨[.ref a],[]⟩) (λr s'=>r=.ok (.ret (.bool true))/\OldK f.heap s'.heap/\s'.os=f.os/\KS s'.gens) f:=by
  intro H hO hS hok M hB;have g:∀{b:al}{o:Obj},f.heap.get? b=some o->H b=none->(wM f.heap H).get? b=some o:=λe n=>yd e n;have X:∀{b:al}{o:Obj}{es:Array QJ}{ep:Nat},f.heap.get? b=some o->o.data=.dict es ep->H b=none:=λ{b o es ep} e d=>by
   cases q:H b with
   | none=>rfl
   | some u =>
    rcases M b u q with⟨e',_⟩|⟨j,e',_⟩
    ·subst e';rw[B] at e;cases e;have d':Data.seq vs.toArray _=Data.dict es ep:=d;cases d'
    ·rw[(A b j e').1] at e;cases e;have d':Data.fields _=Data.dict es ep:=d;cases d'
  have l:∀{b:al}{m:bt->Option ap},f.heap.Ns b m->(wM f.heap H).Ns b m:=λ{b m} ⟨o,es,ep,e,d,r⟩=>⟨o,es,ep,g e (X e d),d,r⟩
  have I:K.In (wM f.heap H):=λb o e=>g (KX b o e) (by
   cases q:H b with
   | none=>rfl
   | some u =>
    rcases M b u q with⟨e',hk⟩|⟨j,e',_⟩
    ·subst e';rw[hk] at e;cases e
    ·rw[(A b j e').2.1] at e;cases e)
  have J:∃bm ob,mg "__builtins__" = some (.ref bm)/\bm≠Kg/\(wM f.heap H).get? bm=some ob/\ob.cls=.type "module" /\ ob.dict=some Kg/\ob.data=.plain:=by
   obtain⟨bm,ob,b1,b2,L,b4,b5,Y⟩:=R;refine⟨bm,ob,b1,b2,g L ?_,b4,b5,Y⟩;cases q:H bm with
   | none=>rfl
   | some u =>
    rcases M bm u q with⟨e',_⟩|⟨j,e',_⟩
    ·subst e';rw[B] at L;cases L;cases Y
    ·rw[(A bm j e').1] at L;cases L;cases Y
  have hM:Mod K mg (wM f.heap H):=⟨I,l D,⟨mb,l i,Q⟩,let ⟨mc,h1,h2⟩:=E;⟨mc,l h1,h2⟩,J⟩
  have N:s9 P w K mg (wM f.heap H) Qh [] f H:=⟨rfl,hM,λb o e=>A4 e,LC (vt _ _),trivial,λb i=>absurd (show b∈([]:List al) from i) (by simp),hok,.of_eq hg,λT q h=>hB T q (O T q h)⟩
  refine KQ ((F _ I (l D)).run Qh [] f H ⟨[.ref a],[]⟩ [.ref a] [.ref a] _ _ hr N (C f (.ref a)) (.cons rfl .nil) (S H hO hS)) λr s' h=>?_;cases r with
  | error e=>exact(U H e s' h).elim
  | ok fl =>
   cases fl with
   | next=>exact False.elim h
   | brk=>exact False.elim h
   | cont=>exact False.elim h
   | ret u =>
    obtain⟨v,H',os,bare,un,y,r',q⟩:=h;have j:v=.bl true:=q;subst j;obtain rfl:u=o3 true:=r';refine⟨rfl,⟨λb o e=>?_,λb o e=>un.there b o e (by simp)⟩,os,bare⟩;cases q:H b with
    | none=>exact .inl (un.keep b o e q (by intro z;exact absurd (show b∈([]:List al) from z) (by simp)) (by simp))
    | some u =>
     rcases hO b with z|⟨ob,xs,z⟩|⟨j,z⟩
     ·rw[q] at z;cases z
     ·have z2:=un.frzs b ob _ z;obtain⟨e1,_⟩:=hok b _ z;obtain⟨e2,_⟩:=y b _ z2;rw[e] at e1;cases e1;exact .inl e2
     ·obtain⟨ps,e2,_⟩:=y b _ (un.tbls b j z);rcases M b _ z with⟨e',_⟩|⟨q2,e',_⟩
      ·obtain⟨a4,N,_⟩:=hok b _ z;subst e';rw[B] at N;cases N
      ·obtain⟨t1,_,c,t2⟩:=A b q2 e';rw[e] at t1;cases t1;exact .inr (.inl ⟨t2.isCodeTable,rfl,#[],ps,rfl,by simpa using e2⟩)
 cases hk:K.lookup a with
 | some o =>
  have e:=KX a o hk;rw[B] at e;cases e;refine t (λb=>(tb.lookup b).map .tbl) (λb=>?_) (.inr ⟨_,vs.toArray,_,hk,rfl,rfl,rfl,by rw[Ii,G];exact hl,by simpa using rv⟩) (λb u z=>?_) (λb u z=>?_) λb q z=>by show(tb.lookup b).map HO.tbl=_;rw[z];rfl
  ·cases z:tb.lookup b with
   | none=>exact .inl (by show(tb.lookup b).map HO.tbl=_;rw[z];rfl)
   | some q=>exact .inr (.inr ⟨q,by show(tb.lookup b).map HO.tbl=_;rw[z];rfl⟩)
  ·have z:(tb.lookup b).map HO.tbl=some u:=z;cases q:tb.lookup b with
   | none=>rw[q] at z;cases z
   | some j =>
    rw[q] at z;cases z;exact⟨#[],(A b j q).1,trivial,λpos Z h=>by cases (show(none:Option ap)=some Z from h)⟩
  ·have z:(tb.lookup b).map HO.tbl=some u:=z;cases q:tb.lookup b with
   | none=>rw[q] at z;cases z
   | some j=>rw[q] at z;cases z;exact .inr ⟨j,rfl,rfl⟩
 | none =>
  have a0:tb.lookup a=none:=by
   cases z:tb.lookup a with
   | none=>rfl
   | some q =>
    have e:=(A a q z).1;rw[B] at e;cases e
  have p:∀b,b≠a->(if b=a then some (HO.frz { cls:=.type "list",data:=.seq vs.toArray } (.lst (ns.map V.int))) else (tb.lookup b).map .tbl)=(tb.lookup b).map .tbl:=λb i=>MF i;refine t (λb=>if b=a then some (.frz { cls:=.type "list",data:=.seq vs.toArray } (.lst (ns.map V.int))) else (tb.lookup b).map .tbl) (λb=>?_) (.inl (.inr ⟨{ cls:=.type "list",data:=.seq vs.toArray },ME rfl⟩)) (λb u z=>?_) (λb u z=>?_) λb q z=>?_
  ·by_cases i:b=a
   ·exact .inr (.inl ⟨_,_,ME i⟩)
   ·dsimp only;rw[p b i];cases z:tb.lookup b with
    | none=>exact .inl rfl
    | some q=>exact .inr (.inr ⟨q,rfl⟩)
  ·by_cases i:b=a
   ·have z':=(ME i).symm.trans z;cases z';subst i;exact⟨B,by rw[HS];exact hl,vs,_,rv,B⟩
   ·have z:(tb.lookup b).map HO.tbl=some u:=(p b i).symm.trans z;cases q:tb.lookup b with
    | none=>rw[q] at z;cases z
    | some j =>
     rw[q] at z;cases z;exact⟨#[],(A b j q).1,trivial,λpos Z h=>by cases (show(none:Option ap)=some Z from h)⟩
  ·by_cases i:b=a
   ·exact .inl ⟨i,hk⟩
   ·have z:(tb.lookup b).map HO.tbl=some u:=(p b i).symm.trans z;cases q:tb.lookup b with
    | none=>rw[q] at z;cases z
    | some j=>rw[q] at z;cases z;exact .inr ⟨j,rfl,rfl⟩
  ·have i:b≠a:=λe=>by subst e;rw[a0] at z;cases z
   exact(p b i).trans (by rw[z];rfl)
theorem Ai{l:rz}{n k:Nat}{q:kq}{i:List bt}{E:(bt->Option ap)->bb->Prop}{I:k0->bb->Prop}{d:DefRec}{K:Params->cc}{CX:k0->CXT}{sp:k0->Sp}{x:bt}
  (hn:l.most=some n) (hn2:n<=sizeLine) (t:d.params.defaults=[]) (J:dc k Qh)
  (y:∀(w:k0) (s₀:av) (mg mb:bt->Option ap) (h:bb),Lb q i [] E w s₀ mg mb h->(K w.params).In h->∃tb:List (al×bt),(∀b q,tb.lookup b=some q->h.get? b=some { cls:=.none,data:=.fields #[] }/\(K w.params).lookup b=none/\∃c,h.TableAt c b #[])/\∀T q,jg (K w.params) T q->tb.lookup T=some q)
  (L:∀(w:k0) (h:bb),I w h->(K w.params).In h)
  (F : ∀(w:k0) (mg:bt->Option ap) (fa:al) (h:bb),(K w.params).In h->h.Ns ke mg->mg d.name=some (.ref fa) ->
   ∃fd:j3,(∀(s:av) (u:ap),K5 s fd ⟨[u],[]⟩ [(x,u)]) /\
    ∀base:bb,(K w.params).In base->base.Ns ke mg->cq l.prog w (K w.params) mg base (CX w) k fa fd [x] (sp w))
  (z:∀(w:k0) (H:Hp) (a:al) (ns:List Int),ns.length<=n->GL H->SqL (K w.params) H a (ns.map V.int)->sp w [.ref a] H (λv _=>v=.bl true) λ_ _ _=>False)
  (A:∀(w:k0) (H:Hp) (s:av) (e:ap) (s':av),CX w [] H s (λ_ _ _=>False) e s'->False) :
  Md q i E I l.row.toRowW d [] (λf vs=>wx f vs):=by refine Att.attach_call hn t λw s₀ p mg mb fa o pm cd doc a vs ns G Y ho hd M B r m j N=>?_;have C:=L w _ Y;obtain⟨fd,O,P⟩:=F w mg fa _ C G.T.g B;obtain⟨tb,Q,D⟩:=y w s₀ mg mb _ G C;exact xV Q D C G.T.g G.T.b G.T.builtins G.T.nolimit G.T.bmain N r m (Ie j hn2) J P O (λH R S=>z w H a ns j R S) λH e s'=>A w H p e s'
def eB(s:Stmt):Ks:=match s with
 | .FunctionDef _ a _ _ _ _ _ _ _ _=>a
 | _=>{ posonlyargs:=[],args:=[],vararg:=none,kwonlyargs:=[],kw_defaults:=[],kwarg:=none,defaults:=[] }
def cA(s:Stmt):List Stmt:=match s with
 | .FunctionDef _ _ b _ _ _ _ _ _ _=>b
 | _=>[]
def af(s:Stmt):J5:=match s with
 | .FunctionDef _ _ _ _ _ _ sc _ _ _=>sc
 | _=>{ kind:=.function,names:=[],isGenerator:=false,isCoroutine:=false }
abbrev CX0:CXT:=λ_ _ _ _ _ _=>False
abbrev E0:XK:=λ_ _ _=>False
theorem FS:wF CX0 X E0:=λ_ _ _ _ _ _ _ h=>h.elim
structure Fun(K:cc)(x qual:bt)(st:Stmt)(f:al)(fd:j3):Prop where
 ex : ∃(oc:ap) (od:Option al) (kV doc pm:ap) (an:Option al) (cdv ct:ap) (osl:Array (Option ap)),
  fd = i3 x qual (eB st) (cA st) (af st) .none kV doc pm an cdv ct/\K.lookup f=some ⟨oc,od,.func fd,osl⟩/\ol K cdv qual=true
 kp : nT K (.ref f)=true
section
variable {P:kq}{w:k0}{K:cc}{mg:bt->Option ap}{base:bb}
theorem Fun.ok{x qual:bt}{st:Stmt}{f:al}{fd:j3}{N ps:List bt}{k:Nat}{sp:Sp}(F:Fun K x qual st f fd)(S:az N ps (af st))(len:∀vs H Q E,sp vs H Q E->vs.length=ps.length)
  (a:∀(cdv:ap) (A:Around) (outer:List Env) (s:av) (H:Hp) (vs:List V) (Q:VK) (E:XK),dc k (A.deeper (KK qual (af st) s.heap.objs.size f cdv))->sp vs H Q E ->
   ∃t,PSs (pp CX0 P w K mg base N qual (af st) f cdv A outer s H E).nox (cA st) t/\t { nx:=λ_ H'=>Q .non H',rt:=Q } (start N vs) H):cq P w K mg base CX0 (k+1) f fd ps sp:=by obtain⟨oc,od,kV,doc,pm,an,cdv,ct,osl,rfl,d,b⟩:=F.ex;refine Em d b S len λA outer s H vs Q E e c=>?_;obtain⟨t,h,q⟩:=a cdv A outer s H vs Q E e c;exact⟨t,h.nox,q⟩
theorem Fun.binds{x qual:bt}{st:Stmt}{f:al}{fd:j3}{ps:List bt}(F:Fun K x qual st f fd)
  (h : ∀(kV doc pm:ap) (an:Option al) (cdv ct:ap) (us:List ap),us.length=ps.length->k3 (i3 x qual (eB st) (cA st) (af st) .none kV doc pm an cdv ct) ⟨us,[]⟩=pure (ps.zip us)):bx K fd ps []:=by obtain⟨oc,od,kV,doc,pm,an,cdv,ct,osl,rfl,b,a⟩:=F.ex;exact .all (h kV doc pm an cdv ct)
theorem zJ{x qual:bt}{st:Stmt}{f:al}{oc:ap}{od an:Option al}{osl:Array (Option ap)}{kV doc pm cdv ct:ap}(l:K.lookup f=some ⟨oc,od,.func (i3 x qual (eB st) (cA st) (af st) .none kV doc pm an cdv ct),osl⟩)
  (c : ol K cdv qual=true) (k:nT K (.ref f)=true):Fun K x qual st f (i3 x qual (eB st) (cA st) (af st) .none kV doc pm an cdv ct):=⟨⟨oc,od,kV,doc,pm,an,cdv,ct,osl,rfl,l,c⟩,k⟩
end
section
variable {X:Cx}
theorem pv(i:Nat){x:bt}{pos:Pos}(b:X.N[i]? = some x:=by rfl)(c:Vis X.env.scope x:=by first|exact o0 rfl|exact eb da|exact eb (eb rfl))(hd:(x==("__debug__" : bt))=false:=by decide)
  (a:(x==("__classdict__" : bt))=false:=by decide):PE X (.Name x pos) (iE i):=aG b c hd a
end
theorem cu{c A B:Prop} [Decidable c](h1:c->A)(h2:¬c->B):if c then A else B:=by
 by_cases h:c
 ·rw[ME h];exact h1 h
 ·rw[MF h];exact h2 h
def aD(H H':Hp):Prop:=∀b o,H b=some o->H' b=some o
theorem aD.refl(H:Hp):aD H H:=λ_ _ h=>h
theorem aD.trans(a:aD H H1)(b:aD H1 d):aD H d:=λc o h=>b c o (a c o h)
theorem aD.seq{K:cc}{H H':Hp}{a:al}{xs:List V}(e:aD H H')(h:SqL K H a xs):SqL K H' a xs:=by
 rcases h with (h|⟨o,h⟩)|h
 ·exact .inl (.inl (e _ _ h))
 ·exact .inl (.inr ⟨o,e _ _ h⟩)
 ·exact .inr h
end _L
set_option maxHeartbeats 4000000
namespace _L
open PySem PySem.Spec PyProof.Rows
def cB(env:Env):List (bt×NameKind)->List (bt×al)->List (bt×al)
 | [],a=>a
 | (n,k)::r,a=>if (k==.free)=true then cB env r ((n,(env.cells.lookup n).getD 0)::a) else cB env r a
theorem gE(f:bt×NameKind->List (bt×al)->Sem (ForInStep (List (bt×al))))
  (b:∀name kind cs,f (name,kind) cs=if (kind==.free)=true then (do let c <-cellOf env name;pure (.yield ((name,c)::cs))) else pure (.yield cs)) :
  ∀(names:List (bt×NameKind)) (a:List (bt×al)),(∀y∈names,y.2=.free->(env.cells.lookup y.1).isSome=true)->forIn names a f=(pure (cB env names a):Sem _)
 | [],a,_=>by rw[JW];rfl
 | (n,k)::r,a,h=>by
  rw[J0,b];unfold cB;by_cases hk:(k==ed)=true
  ·rw[ME hk,ME hk];obtain⟨c,hc⟩:=J3.mp (h (n,k) H9 (by simpa using hk));have e:cellOf env n=pure c:=by unfold cellOf;rw[hc]
   rw[e,hc];simp only[pure_bind];exact gE f b r _ λy d=>h y (HZ _ d)
  ·rw[MF hk,MF hk];simp only[pure_bind];exact gE f b r _ λy d=>h y (HZ _ d)
theorem kZ(h:∀y∈scope.names,y.2=.free->(env.cells.lookup y.1).isSome=true):J9 scope env=pure (cB env scope.names []):=by simp only[J9];rw[gE (env:=env) _ (λname kind cs=>by cases hk:kind==ed <;> simp[hk]) scope.names [] h];rfl
theorem cF(env:Env)(x:bt):∀(names:List (bt×NameKind)) (a:List (bt×al)),(cB env names a).lookup x=if (x,ed)∈names then some ((env.cells.lookup x).getD 0) else a.lookup x
 | [],a=>by simp[cB]
 | (n, k)::r,a=>by
  unfold cB;by_cases hk:(k==ed)=true
  ·have c:k=ed:=by simpa using hk
   subst c;rw[ME hk,cF env x r];by_cases b:(x,ed)∈r
   ·rw[ME b,ME (HZ _ b)]
   ·rw[MF b,IT];by_cases hx:x=n
    ·subst hx;simp
    ·have e1:(x==n)=false:=beq_eq_false_iff_ne.mpr hx;rw[e1];have e2:¬(x,ed)∈(n,ed)::r:=by
      intro z;rcases Ic.mp z with z|z
      ·exact hx (i4 z).1
      ·exact b z
     rw[MF e2]
  ·rw[MF hk,cF env x r];have e2:(x,ed)∈(n,k)::r↔(x,ed)∈r:=by
    constructor
    ·intro z;rcases Ic.mp z with z|z
     ·exact absurd (by rw[(i4 z).2.symm];rfl) hk
     ·exact z
    ·exact HZ _
   by_cases b:(x,ed)∈r
   ·rw[ME b,ME (e2.mpr b)]
   ·rw[MF b,MF (λz=>b (e2.mp z))]
theorem bv:∀(names:List (bt×NameKind)) (n:Nat) (a:List (bt×al)),zf n names a=zf n names []++a
 | [],n,a=>by simp[zf]
 | (x,k)::r,n,a=>by
  unfold zf;split
  ·rw[bv r (n+1) ((x,n)::a),bv r (n+1) [(x,n)]];simp
  ·exact bv r n a
theorem bT:∀(names:List (bt×NameKind)) (n:Nat) (x:bt) (c:al),(x,c)∈zf n names []->(x,ls)∈names/\n<=c
 | [],n,x,c,h=>by simp[zf] at h
 | (y,k)::r,n,x,c,h=>by
  unfold zf at h;split at h
  ·rename_i hk;rw[bv] at h;rcases HX.mp h with h|h
   ·have q:=bT r (n+1) x c h;exact⟨HZ _ q.1,by omega⟩
   ·have e:(x,c)=(y,n):=by simpa using h
    cases e;have a:k=ls:=by simpa using hk
    subst a;exact⟨H9,Ih _⟩
  ·have q:=bT r n x c h;exact⟨HZ _ q.1,q.2⟩
theorem aP{α:Type}:∀{l:List (bt×α)}{x:bt}{k:α},(l.map (·.1)).Nodup->(x,k)∈l->l.lookup x=some k
 | (y,j)::r,x,k,nd,h=>by
  rw[IT];rcases Ic.mp h with e|h
  ·cases e;simp
  ·have a:=Ir.mp nd;have this:x≠y:=λz=>a.1 (by
    rw[<-z];exact Ig.mpr ⟨(x,k),h,rfl⟩)
   rw[beq_eq_false_iff_ne.mpr this];exact aP a.2 h
theorem oQ
  (h : Q (newEnv scope s.heap.objs.size globals (zf (s.heap.objs.size+1) scope.names cl) qual none .none (some env) Kg) { s with heap:=KM (s.heap.push { cls:=.type "dict",data:=.dict #[] }) scope.names }) :
  j4 M A (Qu scope globals cl [] qual none .none (some env)) Q E s:=by simp only[Qu,Option.isSome_some,if_true];refine jj (wpAny_alloc ?_);refine jj (wpAny_layCells _ (λname kind cells=>by cases hkc:kind==ls <;> simp[hkc]) _ _ _ _ ?_);rw[show({ s with heap:=s.heap.push { cls:=.type "dict",data:=.dict #[] } }:av).heap.objs.size=s.heap.objs.size+1 from Jn ..];rw[JW];exact jj (j0 (j0 h))
structure bO(N:List bt)(env:Env)(N':List bt)(ix:List (Option Nat))(sc:J5):Prop where
 kind:sc.kind=.function
 ndn:(sc.names.map (·.1)).Nodup
 free:∀y∈sc.names,y.2=.free->env.kindOf y.1=some .cell\/env.kindOf y.1=some .free
 len:ix.length=N'.length
 cap:∀(i j:Nat),ix[i]? = some (some j)->∃x,N'[i]? = some x/\N[j]? = some x/\sc.names.lookup x=some .free
theorem bO.names(S:bO N env N' ix sc):∀y∈sc.names,y.2=.local->sc.names.lookup y.1=some .local:=λy a e=>by
 obtain⟨x,k⟩:=y;cases e;exact aP S.ndn a
def fE(σ:St)(ix:List (Option Nat)):St:=ix.map λo=>o.bind λj=>(σ[j]?).join
def sY(sc:J5)(C:al)(env:Env):Env:=compEnvC sc (zf (C+1) sc.names (cB env sc.names [])) C env
def bCx(X:Cx)(N':List bt)(sc:J5)(s:av)(H:Hp)(C:al)(fp:List al):Cx where
 prog:=X.prog
 w := X.w
 K := X.K
 mg := X.mg
 base:=X.base
 A := X.A
 N := N'
 s₀ := s
 H₀ := H
 env:=sY sc C X.env
 outer:=X.stack
 stack:=X.stack
 ex := fp
 fn := λx=>decide (sc.names.lookup x=some .cell)
 calm:=X.calm
 pn := []
 xe := λ_ _=>False
theorem fm{env:Env}:∀{names:List (bt×NameKind)}{x:bt}{k:NameKind},names.lookup x=some k ->
  (names.map λ(n,k)=>if (k==ed&&env.scope.kind==.function&&env.kindOf n==some .cell) then (n,ls) else (n,k)).lookup x=some (if (k==ed&&env.scope.kind==.function&&env.kindOf x==some .cell)=true then .cell else k)
 | [],_,_,h=>by simp at h
 | (n,j)::r,x,k,h=>by
  have a:=@fm env r x k;show Le x ((if (j==ed&&env.scope.kind==.function&&env.kindOf n==some .cell)=true then (n,ls) else (n,j))::_)=_;cases hx:x==n with
  | true =>
   have e:x=n:=by simpa using hx
   subst e;simp only[IT,hx] at h;have b:j=k:=du h;subst b;by_cases hc:(j==ed&&env.scope.kind==.function&&env.kindOf x==some .cell)=true
   ·rw[ME hc,ME hc];simp[IT]
   ·rw[MF hc,MF hc];simp[IT]
  | false =>
   simp only[IT,hx] at h;by_cases hc:(j==ed&&env.scope.kind==.function&&env.kindOf n==some .cell)=true
   ·rw[ME hc];simp only[IT,hx];exact a h
   ·rw[MF hc];simp only[IT,hx];exact a h
theorem cR{env:Env}:∀{names:List (bt×NameKind)}{x:bt},names.lookup x=none ->
  (names.map λ(n,k)=>if (k==ed&&env.scope.kind==.function&&env.kindOf n==some .cell) then (n,ls) else (n,k)).lookup x=none
 | [],_,_=>rfl
 | (n,j)::r,x,h=>by
  have a:=@cR env r x;show Le x ((if (j==ed&&env.scope.kind==.function&&env.kindOf n==some .cell)=true then (n,ls) else (n,j))::_)=_;cases hx:x==n with
  | true=>simp only[IT,hx] at h;cases h
  | false =>
   simp only[IT,hx] at h;by_cases hc:(j==ed&&env.scope.kind==.function&&env.kindOf n==some .cell)=true
   ·rw[ME hc];simp only[IT,hx];exact a h
   ·rw[MF hc];simp only[IT,hx];exact a h
theorem jb(h:sc.names.lookup x=some k):(sY sc C env).kindOf x=some (if (k==ed&&env.scope.kind==.function&&env.kindOf x==some .cell)=true then .cell else k):=fm h
theorem wu(h:sc.names.lookup x=none):(sY sc C env).kindOf x=none:=cR h
section
variable {X:Cx}{N':List bt}{ix:List (Option Nat)}{sc:J5}
theorem jc(S:bO X.N X.env N' ix sc)(h:(sY sc C X.env).cells.lookup x=some c) :
  (sc.names.lookup x=some .cell/\C+1<=c/\(x,c)∈zf (C+1) sc.names [])\/(sc.names.lookup x=some .free/\c=(X.env.cells.lookup x).getD 0):=by
 have e:(sY sc C X.env).cells=zf (C+1) sc.names []++cB X.env sc.names []:=bv _ _ _;rw[e] at h;rcases HX.mp (mem_of_lookup h) with q|q
 ·obtain⟨a,b⟩:=bT _ _ _ _ q;exact .inl ⟨aP S.ndn a,b,q⟩
 ·have fr:(x,ed)∈sc.names:=by
   have z:∀(names:List (bt×NameKind)) (f:List (bt×al)),(x,c)∈cB X.env names f->(x,c)∈f\/(x,ed)∈names:=by
    intro names
    induction names with
    | nil=>intro f h;exact .inl h
    | cons y r g =>
     obtain⟨n,k⟩:=y;intro f h;unfold cB at h;split at h
     ·rename_i hk;have j:k=ed:=by simpa using hk
      subst j;rcases g _ h with h|h
      ·rcases Ic.mp h with h|h
       ·cases h;exact .inr H9
       ·exact .inl h
      ·exact .inr (HZ _ h)
     ·rcases g _ h with h|h
      ·exact .inl h
      ·exact .inr (HZ _ h)
   rcases z _ _ q with q|q
   ·simp at q
   ·exact q
  have i:=aP S.ndn fr;have hn:(zf (C+1) sc.names []).lookup x=none:=by
   cases z:(zf (C+1) sc.names []).lookup x with
   | none=>rfl
   | some d =>
    have l:=bT _ _ _ _ (mem_of_lookup z);have:=aP S.ndn l.1;rw[i] at this;cases this
  rw[y2,hn,cF,ME fr] at h;exact .inr ⟨i,(du (by simpa using h)).symm⟩
theorem fH(S:bO X.N X.env N' ix sc)(h:sc.names.lookup x=some .free):(sY sc C X.env).cells.lookup x=some ((X.env.cells.lookup x).getD 0):=by
 have e:(sY sc C X.env).cells=zf (C+1) sc.names []++cB X.env sc.names []:=bv _ _ _;have hn:(zf (C+1) sc.names []).lookup x=none:=by
  cases z:(zf (C+1) sc.names []).lookup x with
  | none=>rfl
  | some d =>
   have a:=bT _ _ _ _ (mem_of_lookup z);have:=aP S.ndn a.1;rw[h] at this;cases this
 rw[e,y2,hn,cF,ME (mem_of_lookup h)];rfl
theorem sS(h:sc.names.lookup x=some .cell):∃c,(sY sc C env).cells.lookup x=some c:=by have e:(sY sc C env).cells=zf (C+1) sc.names []++cB env sc.names []:=bv _ _ _;obtain⟨c,hc⟩:=k7 (n:=C+1) h;exact⟨c,by rw[e,y2,hc];rfl⟩
theorem pA{pins:List (al×Obj)}{σ:St}{H:Hp}{s:av}{fp:List al}(S:bO X.N X.env N' ix sc)(I:Inv X pins σ H s)(B:∀b∈fp,iz X pins H b)(w:∀b∈fp,b<s.heap.objs.size) :
  Inv (bCx X N' sc s H (s.heap.objs.size+1) fp) [] (fE σ ix) H
   { s with heap:=KM ((s.heap.push { cls:=.type "list",data:=.seq #[] }).push { cls:=.type "dict",data:=.dict #[] }) sc.names }:=by
 have l:(s.heap.push { cls:=.type "list",data:=.seq #[] }).objs.size=s.heap.objs.size+1:=Jn ..;have keep:∀b o,s.heap.get? b=some o->(KM ((s.heap.push { cls:=.type "list",data:=.seq #[] }).push { cls:=.type "dict",data:=.dict #[] }) sc.names).get? b=some o:=λb o e =>
  KU _ _ b o (Ia _ (Ia _ e))
 have ok:=cellsFrom_ok sc.names ((s.heap.push { cls:=.type "list",data:=.seq #[] }).push { cls:=.type "dict",data:=.dict #[] }) (s.heap.objs.size+2) [] ⟨λ_ _ O=>(nomatch O),Lm⟩ (by rw[Jn,l];exact Ih _);rw[Jn,l] at ok;have a:∀x c,sc.names.lookup x=some .free->c=(X.env.cells.lookup x).getD 0->X.env.cells.lookup x=some c:=λx c h1 h2=>by
  obtain⟨d,hd⟩:=I.ok.has x (S.free (x,.free) (mem_of_lookup h1) rfl);rw[hd] at h2 ⊢;rw[h2];rfl
 have g:∀x c,X.env.cells.lookup x=some c->c<s.heap.objs.size:=λx c e=>by
  obtain⟨v,q⟩:=I.cell x c e;exact q.lt
 refine⟨⟨I.ok.mod,S.kind,I.ok.glob,I.ok.blt,JD _,λx y c h1 h2=>?_,λx hx=>?_,λx c hx h=>?_,I.ok.hd,I.ok.frames,.inl rfl,λb n=>⟨?_,λx c h=>?_⟩,I.bs,Ie I.ok.bsz I.sz,λb o e n=>?_,λb n=>?_,I.stack,I.stkFree,λT q h=>I.base.tbls T q (I.ok.tab T q h)⟩,
  rfl,I.bare,Un.kept keep,⟨λ_=>none,?_,λi x v e1 e2 e3=>?_⟩,λx c h=>?_,I.hok.fresh (JD _),λx c h=>?_,λp P=>absurd (show p∈([]:List (al×Obj)) from P) (by simp),I.hok.kept keep,?_⟩
 ·rcases jc S h1 with⟨a1,f,Q⟩|⟨a1,f⟩ <;> rcases jc S h2 with⟨a2,A,R⟩|⟨a2,A⟩
  ·exact name_of_addr ok.apart Q R
  ·exact absurd (g y c (a y c a2 A)) (Nat.not_lt.mpr (Ie (Jz _ 2) f))
  ·exact absurd (g x c (a x c a1 f)) (Nat.not_lt.mpr (Ie (Jz _ 2) A))
  ·exact I.ok.inj x y c (a x c a1 f) (a y c a2 A)
 ·cases q:sc.names.lookup x with
  | none =>
   have z:=wu (C:=s.heap.objs.size+1) (env:=X.env) q;rcases hx with hx|hx
   ·exact absurd (hx.symm.trans z) (by simp)
   ·exact absurd (hx.symm.trans z) (by simp)
  | some k =>
   have z:=jb (C:=s.heap.objs.size+1) (env:=X.env) q;cases k with
   | free=>exact⟨_,fH S q⟩
   | cell=>exact sS q
   | _ =>
    rcases hx with hx|hx
    ·have:=hx.symm.trans z;simp at this
    ·have:=hx.symm.trans z;simp at this
 ·have D:sc.names.lookup x=some .cell:=of_decide_eq_true hx;rcases jc S h with⟨_,f,_⟩|⟨a1,_⟩
  ·exact Ie (by omega:s.heap.objs.size<=s.heap.objs.size+1+1) f
  ·rw[D] at a1;cases a1
 ·exact IF (JN (w b n))
 ·obtain⟨L,E,F,r,G,M⟩:=B b n;rcases jc S h with⟨_,f,_⟩|⟨a1,f⟩
  ·exact Jw (Ik (w b n) (Ie (Jz _ 2) f))
  ·exact G x c (a x c a1 f)
 ·obtain⟨L,E,F,r,G,M⟩:=B b n;rcases r with r|r
  ·exact I.ok.noex b o e r
  ·exact absurd (Ik (Ij e) (Ie I.ok.bsz r)) (Ji _)
 ·obtain⟨L,E,F,r,G,M⟩:=B b n;intro z;rcases Ic.mp (I.stkSub b z) with z|z
  ·exact E z
  ·exact F z
 ·have q:=(Heap.Ns.new (s.heap.push { cls:=.type "list",data:=.seq #[] }) (.type "dict")).keeps (KU sc.names _);rw[l] at q;exact q
 ·have hi:i<ix.length:=by
   have z:=(Ib.mp e2).1;simpa[fE] using z
  have J:(fE σ ix)[i]? = (ix[i]?).map λo=>o.bind λj=>(σ[j]?).join:=IH ..;rw[J,HR hi] at e2;have e2:(ix[i]).bind (λj=>(σ[j]?).join)=some v:=du e2;cases q:ix[i] with
  | none=>rw[q] at e2;cases e2
  | some j =>
   rw[q] at e2;have e2:(σ[j]?).join=some v:=e2;have e2:σ[j]? = some (some v):=by
    cases z:σ[j]? with
    | none=>rw[z] at e2;cases e2
    | some w'=>rw[z] at e2;have e2:w'=some v:=e2;rw[e2]
   obtain⟨y,c1,c2,c3⟩:=S.cap i j (by rw[HR hi,q]);have K:x=y:=du (e1.symm.trans c1);subst K;have kd:=S.free (x,.free) (mem_of_lookup c3) rfl;obtain⟨m,hn,U⟩:=I.loc;obtain⟨u,V,W⟩:=U j x v c2 e2 (by rcases kd with k|k;exact .inr (.inl k);exact .inr (.inr k));refine⟨u,V,.inr ⟨?_,?_⟩⟩
   ·rw[show(bCx X N' sc s H (s.heap.objs.size+1) fp).env.kindOf x=_ from jb (C:=s.heap.objs.size+1) (env:=X.env) c3];split
    ·exact .inl rfl
    ·exact .inr rfl
   ·rcases W with⟨k,_⟩|⟨_,c,hc,t⟩
    ·rcases kd with k'|k' <;> rw[k] at k' <;> cases k'
    ·refine⟨c,?_,t.keeps keep⟩;have:=fH S (C:=s.heap.objs.size+1) c3;rw[hc] at this;exact this
 ·rcases jc S h with⟨_,f,q⟩|⟨a1,f⟩
  ·exact⟨none,(ok.empty x c q).1⟩
  ·obtain⟨v,q⟩:=I.cell x c (a x c a1 f);exact⟨v,q.keeps keep⟩
 ·rcases jc S h with⟨_,f,q⟩|⟨a1,f⟩
  ·exact I.hok.fresh (Ie (Jz _ 2) f)
  ·exact I.freeC x c (a x c a1 f)
 ·show(fE σ ix).length=N'.length;simp[fE,S.len]
theorem i9{pins pins':List (al×Obj)}{σ d:St}{H H':Hp}{s s':av}{fp:List al}{C:al}(S:bO X.N X.env N' ix sc)(I:Inv X pins σ H s)(l:∀b∈fp,iz X pins H b)
  (a:Inv (bCx X N' sc s H C fp) pins' d H' s'):Inv (bCx X N' sc s H C fp) pins' (fE σ ix) H' s':=by
 refine⟨a.ok,a.os,a.bare,a.base,?_,a.cell,a.free,a.freeC,a.pin,a.hok,by show(fE σ ix).length=N'.length;simp[fE,S.len]⟩;obtain⟨n,f,_⟩:=a.loc;refine⟨n,f,λi x v e1 e2 e3=>?_⟩;have hi:i<ix.length:=by have z:=(Ib.mp e2).1;simpa[fE] using z
 have g:(fE σ ix)[i]? = (ix[i]?).map λo=>o.bind λj=>(σ[j]?).join:=IH ..;rw[g,HR hi] at e2;have e2:(ix[i]).bind (λj=>(σ[j]?).join)=some v:=du e2;cases q:ix[i] with
 | none=>rw[q] at e2;cases e2
 | some j =>
  rw[q] at e2;have e2:(σ[j]?).join=some v:=e2;have e2:σ[j]? = some (some v):=by
   cases z:σ[j]? with
   | none=>rw[z] at e2;cases e2
   | some w'=>rw[z] at e2;have e2:w'=some v:=e2;rw[e2]
  obtain⟨y,c1,c2,c3⟩:=S.cap i j (by rw[HR hi,q]);have h:x=y:=du (e1.symm.trans c1);subst h;have kd:=S.free (x,.free) (mem_of_lookup c3) rfl;obtain⟨m,hn,p⟩:=I.loc;obtain⟨u,r,t⟩:=p j x v c2 e2 (by rcases kd with k|k;exact .inr (.inl k);exact .inr (.inr k));refine⟨u,r,.inr ⟨?_,?_⟩⟩
  ·rw[show(bCx X N' sc s H C fp).env.kindOf x=_ from jb (C:=C) (env:=X.env) c3];split
   ·exact .inl rfl
   ·exact .inr rfl
  ·rcases t with⟨k,_⟩|⟨_,c,hc,o,ho,hd⟩
   ·rcases kd with k'|k' <;> rw[k] at k' <;> cases k'
   ·refine⟨c,?_,?_⟩
    ·have:=fH S (C:=C) c3;rw[hc] at this;exact this
    ·obtain⟨sl,e⟩:=a.base.any ho (I.freeC x c hc) λz=>(l c z).2.2.2.2.1 x c hc rfl;exact⟨_,e,hd⟩
def PIf(X:Cx)(ifs:List ba)(t:TT):Prop :=
 ∀(pins:List (al×Obj)) (s:av) (σ:St) (H:Hp) (Q:Bool->Hp->Prop),Inv X pins σ H s->t σ H Q ->
  j4 (kf X.prog X.w) X.A (forIn ifs true λc r=>if r=true then do let ok <-K2 c X.env (eval c X.env);pure (ForInStep.yield ok) else pure (ForInStep.yield r)) (TP X pins σ Q) X.xe s
def GQ:TT:=λ_ H Q=>Q true H
theorem oC:PIf X [] GQ:=λ_ _ _ H _ I h=>wpAny_tests_nil ⟨H,I,h⟩
theorem AO(h:PT X c t):PIf X [c] t:=λpins s σ H Q I hw=>wpAny_tests_one (h pins s σ H Q I hw)
theorem mX(I:Nat->av->Prop)
  (o : ∀n s,I n s->j4 (kf prog w) A (Qb it) (λr b=>match r with
   | none=>R (.ok .next) b
   | some v=>j4 (kf prog w) A (KW a it v) (λ_ d=>j4 (kf prog w) A (Kh a env v) (λ_ f =>
     j4 (kf prog w) A (forIn ifs true λc r=>if r=true then do let ok <-K2 c env (eval c env);pure (ForInStep.yield ok) else pure (ForInStep.yield r)) (λok e =>
      if ok=true then j4 (kf prog w) A (eval elt env) (λx g =>
       j4 (kf prog w) A (call (.builtin "list.append") [k,x]) (λ_ i=>∃m,m<n/\I m i) (λ_ _=>False) g) (λ_ _=>False) e
      else ∃m,m<n/\I m e) (λ_ _=>False) f) (λ_ _=>False) d) (λ_ _=>False) b) (λ_ _=>False) s)
  (n : Nat) (h:I n s):Ko (kf prog w) A (.compLoop (.ListComp elt [⟨a,iter,ifs,0⟩] scope pos) 0 it k env) R s:=by
 refine codeAny_loop rfl I (λn s u=>?_) n h;show j4 _ A ((compTurn (.ListComp elt [⟨a,iter,ifs,0⟩] scope pos) 0 it k env).onRaise (λx=>do noteFrame x env;theTreesLotGoes x)) _ _ s;refine wpAny_noted ?_;rw[compTurn_list];refine jj (KH (jj (q5 (o n s u) (λr b h₁=>?_) λ_ _ h'=>h'.elim)));cases r with
 | none=>exact j0 h₁
 | some v =>
  refine jj (q5 h₁ (λ_ d l=>jj (q5 l (λ_ f p=>jj (q5 p (λok e j=>?_) λ_ _ h'=>h'.elim)) λ_ _ h'=>h'.elim)) λ_ _ h'=>h'.elim);cases ok with
  | false=>exact j0 ⟨rfl,j⟩
  | true =>
   exact jj (jj (q5 j (λx g q=>jj (q5 q (λ_ i t=>j0 (j0 ⟨rfl,t⟩)) λ_ _ h'=>h'.elim)) λ_ _ h'=>h'.elim))
def yN(J:It)(σ0:St)(g:TG)(tt:TT)(te:TE)(H1:Hp)(f:List V->Hp->Prop):Prop :=
 ∃W : Nat->Nat->List V->Hp->Prop,(∃m,W 0 m [] H1)/\∀i m ys H,W i m ys H ->
  (J.stop i H/\f ys H) \/
  (J.go i H/\ys.length<sizeLine/\∃N:List V->Hp->Prop,(∀a H',N a H'->∃d,d<m/\W (i+1) d a H') /\
   ∀x H',J.yld i H x H'->g x σ0 H' λc h=>tt c h λb e=>if b=true then te c e λy j=>N (ys++[y]) j else N ys e)
theorem rJ{tg iter elt:ba}{ifs:List ba}{pos:Pos}{g:TG}{tt:TT}{te:TE}{pins:List (al×Obj)}{σ:St}{H:Hp}{s:av}{it:al}{fp:List al}{tn:Nat->bb->Prop}{J:It}{Qe:List V->Hp->Prop}
  {RR:ap->al->Result->av->Prop}{E:ap->av->Prop}
  (hc:X.calm=true) (S:bO X.N X.env N' ix sc) (hg:∀s H C fp,PG (bCx X N' sc s H C fp) tg g) (ht:∀s H C fp,PIf (bCx X N' sc s H C fp) ifs tt) (he:∀s H C fp,PE (bCx X N' sc s H C fp) elt te)
  (I : Inv X pins σ H s) (T:Ck X.prog X.w X.K tg J fp it tn) (st:tn 0 s.heap) (Z:∀b∈fp,iz X pins H b) (hw:yN J (fE σ ix) g tt te H Qe)
  (fin:∀s' H' ys m,s'.heap.Ns (s.heap.objs.size+1) m->H' s.heap.objs.size=none->H' (s.heap.objs.size+1)=none->Qe ys H'->Inv X pins σ (upd H' s.heap.objs.size (.lst ys)) s'->RR (.ref s.heap.objs.size) (s.heap.objs.size+1) (.ok .next) s') :
  j4 (kf X.prog X.w) X.A (newList []) (λa0 a4=>j4 (kf X.prog X.w) X.A (Qu sc X.env.globals (cB X.env sc.names []) [] X.env.qual none .none (some X.env)) (λG a5 =>
   Ko (kf X.prog X.w) X.A (.compStart (.ListComp elt [⟨tg,iter,ifs,0⟩] sc pos) 0 (.ref it) a0 { G with scope:=relabel sc X.env }) (RR a0 G.locals) a5) E a4) E s:=by
 have a6:∀b∈fp,b<s.heap.objs.size:=λb f=>by
  obtain⟨o,e,_⟩:=T.obj _ _ st b f;exact Ij e
 refine z4 (oQ ?_);have d0:(s.heap.push { cls:=.type "list",dict:=none,data:=.seq ([]:List ap).toArray }).objs.size=s.heap.objs.size+1:=Jn ..;have I0:=pA S I Z a6;obtain⟨W,⟨m0,w0⟩,a7⟩:=hw;have nD:∀b∈fp,s.heap.objs.size≠b:=λb f=>Jw (a6 b f);have F:H s.heap.objs.size=none:=I.hok.fresh (Ih _);have M:∀x c,(sY sc (s.heap.objs.size+1) X.env).cells.lookup x=some c->c≠s.heap.objs.size:=λx c h=>by
  rcases jc S h with⟨_,b1,_⟩|⟨a1,b1⟩
  ·exact Jw (Ik (JN (JH _)) b1)
  ·obtain⟨d,hd⟩:=I.ok.has x (S.free (x,.free) (mem_of_lookup a1) rfl);rw[hd] at b1;obtain⟨v,q⟩:=I.cell x d hd;have e:c=d:=b1;rw[e];exact IF q.lt
 have b0:s.heap.objs.size ∉ frs X.stack:=λz=>by
  rcases Ic.mp (I.stkSub _ z) with z|z
  ·exact absurd I.lt (by rw[<-z];exact Ji _)
  ·exact I.nofs (Ih _) z
 have b2:∀{pins':List (al×Obj)}{H':Hp},(∀b∈fp,H' b=none)->(∀p∈pins',∀b∈fp,p.1≠b)->∀b∈fp,iz (bCx X N' sc s H (s.heap.objs.size+1) fp) pins' H' b:=λ{pins' H'} h1 h2 b f =>
  ⟨h1 b f,(I0.ok.exf b f).1,I0.ok.exfs b f,.inl f,(I0.ok.exf b f).2,λp t=>h2 p (by simpa[bCx] using t) b f⟩
 have O:(KM ((s.heap.push { cls:=.type "list",data:=.seq #[] }).push { cls:=.type "dict",data:=.dict #[] }) sc.names).get? s.heap.objs.size=some { cls:=.type "list",data:=.seq #[] } :=
  KU _ _ _ _ (Ia _ (Im _ rfl))
 have d6:Inv (bCx X N' sc s H (s.heap.objs.size+1) fp) [(s.heap.objs.size,{ cls:=.type "list",data:=.seq #[] })] (fE σ ix) H _:=I0.pins_of (pins':=[(s.heap.objs.size,{ cls:=.type "list",data:=.seq #[] })]) λp t=>by
  have e:p=(s.heap.objs.size,{ cls:=.type "list",data:=.seq #[] }):=by simpa using t
  subst e;exact⟨O,F,IF (JH _),b0,λv z=>by cases z⟩
 have b3:tn 0 (KM ((s.heap.push { cls:=.type "list",data:=.seq #[] }).push { cls:=.type "dict",data:=.dict #[] }) sc.names):=T.keep _ _ _ st λb f o e=>KU _ _ _ _ (Ia _ (Ia _ e));have loop:∀U:av,U={ s with heap:=KM ((s.heap.push { cls:=.type "list",data:=.seq #[] }).push { cls:=.type "dict",data:=.dict #[] }) sc.names } ->
   Ko (kf X.prog X.w) X.A (.compLoop (.ListComp elt [⟨tg,iter,ifs,0⟩] sc pos) 0 (.ref it) (.ref s.heap.objs.size) (sY sc (s.heap.objs.size+1) X.env)) (RR (.ref s.heap.objs.size) (s.heap.objs.size+1)) U:=by
  rintro U rfl;refine mX (λn s'=>∃(i:Nat) (ys:List V) (a:List ap) (k:Nat) (H':Hp),Inv (bCx X N' sc s H (s.heap.objs.size+1) fp) [(s.heap.objs.size,{ cls:=.type "list",data:=.seq a.toArray k })] (fE σ ix) H' s' /\
   tn i s'.heap/\(∀b∈fp,H' b=none)/\bf ys a/\ys.length<=sizeLine/\W i n ys H') ?_ m0 ⟨0,[],[],0,H,d6,b3,λb f=>(Z b f).1,.nil,Iz _,w0⟩
  rintro n s3 ⟨i,ys,a,k,H3,I3,b4,e0,rv,hz,w3⟩;have b5:=b2 (pins':=[(s.heap.objs.size,{ cls:=.type "list",data:=.seq a.toArray k })]) e0 (λp t b f=>by
   have e:p=(s.heap.objs.size,{ cls:=.type "list",data:=.seq a.toArray k }):=by simpa using t
   rw[e];exact nD b f)
  rcases a7 i n ys H3 w3 with⟨stop,qe⟩|⟨go,g6,N,hN,step⟩
  ·refine thn (T.done (bCx X N' sc s H (s.heap.objs.size+1) fp) rfl rfl rfl hc i _ s3 _ H3 (λ_ _=>False) I3 b5 b4 stop) λr U e4=>?_;obtain⟨hr,B⟩:=e4;subst hr;obtain⟨pg,pn,_⟩:=B.pin (s.heap.objs.size,{ cls:=.type "list",data:=.seq a.toArray k }) (HQ _ H9);obtain⟨m,hm,_⟩:=B.loc;refine fin U H3 ys m hm pn B.free qe ?_;refine I.call' (ch:=fp) B.os ⟨B.base.keep,B.base.slot,λb o e n hx=>?_,B.base.there,λb xs q=>?_,λb o u q=>?_,λb ps q=>?_⟩ (λb o e=>?_) B.bare λb f=>?_
   ·rw[am (IF (Ij e))];exact B.base.free b o e n hx
   ·have L:=B.base.tups b xs q;rw[am (aB L pn)];exact L
   ·have L:=B.base.frzs b o u q;rw[am (aB L pn)];exact L
   ·have L:=B.base.tbls b ps q;rw[am (aB L pn)];exact L
   ·by_cases f:b=s.heap.objs.size
    ·subst f;rw[aw] at e;cases e;exact⟨hz,a,k,rv,pg⟩
    ·rw[am f] at e;exact(B.hok b o e).stay (λc v _ q=>q) (λc q=>by rw[am (aB q pn)];exact q) λc xs _ q=>by rw[am (aB q pn)];exact q
   ·obtain⟨f0,f1,f2,f3,f4,f5⟩:=Z b f;exact⟨f3,f1,f4,f5⟩
  ·refine thn (T.item (bCx X N' sc s H (s.heap.objs.size+1) fp) rfl rfl rfl hc i _ s3 _ H3 (λ_ _=>False) I3 b5 b4 go) λr U e5=>?_;obtain⟨u,hr,h4⟩:=e5;subst hr;refine thn h4 λ_ s5 e6=>?_;obtain⟨x,H5,I5,r5,y5,P,e7⟩:=e6;have e8:=b2 (pins':=[(s.heap.objs.size,{ cls:=.type "list",data:=.seq a.toArray k })]) e7 (λp t b f=>by
    have e:p=(s.heap.objs.size,{ cls:=.type "list",data:=.seq a.toArray k }):=by simpa using t
    rw[e];exact nD b f)
   have e9:=I5.pinned e8 (T.obj _ _ P);refine thn (hg s H _ fp _ s5 _ H5 x u _ e9 r5 (step x H5 y5)) λ_ s6 f6=>?_;obtain⟨D,H6,I6,q6⟩:=f6;have j:∀{b6:St}{Y:Hp}{s7:av},Inv (bCx X N' sc s H (s.heap.objs.size+1) fp) ([(s.heap.objs.size,{ cls:=.type "list",data:=.seq a.toArray k })]++gM fp s5.heap) b6 Y s7 ->
     tn (i+1) s7.heap/\(∀b∈fp,Y b=none):=λ{b6 Y s7} Q=>by
    refine⟨T.keep _ _ _ P λb f o e=>(Q.pin (b,o) (HQ _ (HQ _ (eN f e)))).1,λb f=>?_⟩;obtain⟨o,e,d⟩:=T.obj _ _ P b f;exact(Q.pin (b,o) (HQ _ (HQ _ (eN f e)))).2.1
   refine thn (ht s H _ fp _ s6 D H6 _ I6 q6) λok s7 g0=>?_;obtain⟨Y,Q,q7⟩:=g0;cases ok with
   | false =>
    rw[MF IA] at q7 ⊢;obtain⟨m',R,w7⟩:=hN _ _ q7;exact⟨m',R,i+1,ys,a,k,Y,i9 S I Z Q.unpinned,(j Q).1,(j Q).2,rv,hz,w7⟩
   | true =>
    rw[ME rfl] at q7 ⊢;refine thn (he s H _ fp _ s7 D Y _ Q q7) λxv s8 g1=>?_;obtain⟨y,H8,I8,r8,q8⟩:=g1;obtain⟨m',R,w8⟩:=hN _ _ q8;obtain⟨pg,pn,_⟩:=I8.pin (s.heap.objs.size,{ cls:=.type "list",data:=.seq a.toArray k }) (HQ _ (HV _ H9));refine wpAny_list_append_plain (l:=s.heap.objs.size) (items:=a.toArray) ⟨k,pg⟩ (λh9 g2 c4=>?_) (by have:=rv.length;simp;omega);obtain⟨k9,g9⟩:=g2;have g3:Inv (bCx X N' sc s H (s.heap.objs.size+1) fp) (gM fp s5.heap) D H8 s8:=I8.pins_of λp t=>I8.pin p (HQ _ (HQ _ t));have I9:Inv (bCx X N' sc s H (s.heap.objs.size+1) fp) (gM fp s5.heap) D H8 { s8 with heap:=h9 }:=g3.turned (t':=s8.toks) (it:=s.heap.objs.size) (λb o f e=>c4.extBut b o f e) pn (IF (JH _)) (.inr (Ih _)) M
     λp t=>by
      have g4:p∈gM fp s5.heap:=by simpa[bCx] using t
      exact(nD _ (lY g4).1).symm
    have g5:Inv (bCx X N' sc s H (s.heap.objs.size+1) fp) [(s.heap.objs.size,{ cls:=.type "list",data:=.seq (a++[xv]).toArray k9 })] D H8 { s8 with heap:=h9 }:=I9.pins_of λp t=>by
     have e:p=(s.heap.objs.size,{ cls:=.type "list",data:=.seq (a++[xv]).toArray k9 }):=by simpa using t
     subst e;refine⟨?_,pn,IF (JH _),b0,λv z=>by cases z⟩;simpa using g9
    refine⟨m',R,i+1,ys++[y],a++[xv],k9,H8,i9 S I Z g5,?_,(j I8).2,rv.append (.cons r8 .nil),by simp;omega,w8⟩;exact T.keep _ _ _ (j I8).1 λb f o e=>c4.extBut b o (nD b f).symm e
 have key:=codeAny_compStart_list (iter:=iter) (loop _ rfl) (T.self X.A 0 { s with heap:=KM ((s.heap.push { cls:=.type "list",data:=.seq #[] }).push { cls:=.type "dict",data:=.dict #[] }) sc.names } _ _ b3 (loop _ rfl));simpa only[newEnv,d0,sY,compEnvC] using key
def xa(b:TI)(ix:List (Option Nat))(g:TG)(tt:TT)(te:TE):TE:=λσ H Q=>b σ H λJ H1=>yN J (fE σ ix) g tt te H1 λys a=>∀p,a p=none->Q (.ref p) (upd a p (.lst ys))
theorem bO.clos{pins:List (al×Obj)}{σ:St}{H:Hp}{s:av}(S:bO X.N X.env N' ix sc)(I:Inv X pins σ H s):J9 sc X.env=pure (cB X.env sc.names []) :=
 kZ λy a e=>by
  obtain⟨c,hc⟩:=I.ok.has y.1 (S.free y a e);rw[hc];rfl
theorem uE(hc:X.calm=true)(S:bO X.N X.env N' ix sc)(hi:PI X tg iter i)
  (l:∀s H C fp,PG (bCx X N' sc s H C fp) tg g) (n:∀s H C fp,PIf (bCx X N' sc s H C fp) ifs tt) (p:∀s H C fp,PE (bCx X N' sc s H C fp) elt te)
  (r:∀x,zd iter X.env x=pure x:=by intro _;rfl):PE X (.ListComp elt [⟨tg,iter,ifs,0⟩] sc pos) (xa i ix g tt te):=by
 intro pins s σ H Q I h;rw[eval_ListComp];refine Qx (use:=none) rfl r (S.clos I) S.kind S.names (thn (hi pins s σ H _ I h) λv s1 h1=>thn h1 λt s2 a=>?_);obtain⟨it,fp,tn,J,M,e,j,T,c,k,hw⟩:=a;subst e;refine rJ (RR:=λd C=>compPost (kf X.prog X.w) X.A X.xe none (EP X pins σ Q) d C) hc S l n p j T c k hw λs' H' ys m hn u y q z=>?_;refine⟨m,hn,λh' f=>?_⟩;have B:(upd H' s2.heap.objs.size (.lst ys)) (s2.heap.objs.size+1)=none:=by rw[am (Jw (JH _))];exact y
 obtain⟨D,E,k,F,G,K⟩:=j.fpOk (H':=upd H' s2.heap.objs.size (.lst ys)) (b:=s2.heap.objs.size+1) (JD _) B;exact⟨.ref s2.heap.objs.size,_,z.turned (t':=s'.toks) (it:=s2.heap.objs.size+1) (λb o L e=>f.extBut b o L e) D E F G K,rfl,q _ u⟩
theorem df{pos c d:Pos}(O:X.N.Nodup)(f:X.N[i]? = some y)(F:X.env.scope.names.lookup y=some .local)
  (hc:X.calm=true) (S:bO X.N X.env N' ix sc) (hi:PI X tg iter E)
  (P:∀s H C fp,PG (bCx X N' sc s H C fp) tg g) (R:∀s H C fp,PIf (bCx X N' sc s H C fp) ifs tt) (U:∀s H C fp,PE (bCx X N' sc s H C fp) elt te)
  (j:Kn (.ListComp elt [⟨tg,iter,ifs,0⟩] sc pos) (some (.Name y d)) c.line X.env=pure true:=by rfl)
  (V:∀x,zd iter X.env x=pure x:=by intro _;rfl):PS X (.Assign [.Name y d] (.ListComp elt [⟨tg,iter,ifs,0⟩] sc pos) c) (Co (xa E ix g tt te) (fD i)):=by
 intro pins s σ H D I h;rw[exec_Assign_Name_used _ _ _ _ j];refine jj (KH (jj ?_));show j4 _ X.A (do let _ <-comprehension (.ListComp elt [⟨tg,iter,ifs,0⟩] sc pos) sc X.env _ (newList []) false (eval iter X.env) (some (Kh (.Name y d) X.env))) _ _ s;refine jj (q5 (Qx (use:=some (Kh (.Name y d) X.env)) (Q:=λ_ s'=>SP X pins D .next s') rfl V (S.clos I) S.kind S.names
  (thn (hi pins s σ H _ I h) λv s1 h1=>thn h1 λW s2 ⟨it,fp,tn,J,H2,e,G,T,k,K,hw⟩=>?_)) (λ_ s' Y=>j0 (j0 Y)) λ_ _ e=>e)
 subst e;refine rJ (RR:=λl C=>compPost (kf X.prog X.w) X.A X.xe (some (Kh (.Name y d) X.env)) (λ_ s'=>SP X pins D .next s') l C) hc S P R U G T k K hw λs' H' ys m hn Z hC q I'=>?_;have nn:(upd H' s2.heap.objs.size (.lst ys)) (s2.heap.objs.size+1)=none:=by rw[am (Jw (JH _))];exact hC
 obtain⟨f0,L,K,f3,M,f5⟩:=G.fpOk (H':=upd H' s2.heap.objs.size (.lst ys)) (b:=s2.heap.objs.size+1) (JD _) nn;show j4 _ X.A (Kh (.Name y d) X.env (.ref s2.heap.objs.size)) _ _ _;refine wpAny_assign_Name (lI (v:=.ref s2.heap.objs.size) I' O f (.inl F) rfl (λn p r=>?_) (.inr F));obtain⟨a,t,u⟩:=r;have ne:s2.heap.objs.size+1≠a:=by
  rcases u with rfl|u
  ·exact L
  ·exactλz=>M y a u z.symm
 refine⟨m,hn.sameBut t ne,λh' B=>?_⟩;exact⟨_,_,p.turned (t':=n.toks) (it:=s2.heap.objs.size+1) (λb o hb e=>B.extBut b o hb e) f0 L f3 M f5,q _ Z⟩
end
end _L
namespace _L
open PySem
open Sem (wp)
section
def dm(prog:kq)(w:k0)(h:bb)(k:Int×List Int)(a:al):Prop :=
 ∃o t b n,h.get? a=some o/\o.cls=.type "tuple" /\ o.data=.seq #[.int k.1 t,.ref b] n/\IsTupleKey (Kj prog w) h k.2 b
theorem eU(i:Int)(t:Tok):(Kj prog w).is i (.int i t)=true:=by simp[Kj,MB]
theorem dm.typeIs{s:av}(x:dm prog w s.heap k a):s.TypeIs (.ref a) "tuple" := let ⟨o,_,_,_,ho,hc,_⟩:=x;⟨o,ho,hc⟩
theorem dm.inj(hx:dm prog w h x a)(f:dm prog w h y a):x=y:=by obtain⟨x1,g⟩:=x;obtain⟨y1,i⟩:=y;obtain⟨o,t,b,n,ho,_,hd,hi⟩:=hx;obtain⟨o',t',j,k,d,_,c,e⟩:=f;obtain rfl:o=o':=du (ho.symm.trans d);rw[hd] at c;injection c with h1 _;simp only[Array.mk.injEq,ri,Value.int.injEq,Value.ref.injEq,and_true] at h1;obtain⟨⟨e1,_⟩,e2⟩:=h1;subst e2;have e3:g=i:=hi.inj e;rw[e1,e3]
theorem dm.keeps(x:dm prog w h k a)(ho:h.get? d=some o)(hd:o.data=.dict es ep)(g:oA d h h') :
  dm prog w h' k a:=by
 obtain⟨o',t,b,n,e,hc,c,hi⟩:=x;have f:a≠d:=by rintro rfl;obtain rfl:o'=o:=du (e.symm.trans ho);rw[hd] at c;exact nomatch c
 exact⟨o',t,b,n,(g.2 a f).trans e,hc,c,hi.keeps ho hd g⟩
def nK(prog:kq)(w:k0)(k:Int×List Int):Int:=Qt (gf [Qf k.1,QK (Kj prog w) k.2])
theorem rX(l:A.units+1<J4)(hk:dm prog w s.heap k a)(h:Q (nK prog w k) { s with toks:=s.toks+(k.2.length+3) }) :
  j4 (kf prog w) A (pyHash (.ref a)) Q E s:=by
 have i:=hk.typeIs;obtain⟨g,f⟩:=k;obtain⟨o,t,j,n,ho,_,hd,hi⟩:=hk;unfold pyHash
 first|unfold pyHashByItsType|skip
 first|refine jj (wpAny_cRoomFor_or (.inr (by omega)) ?_)|skip
 refine jj (Kx i F.slot_tuple_hash.lookup ?_);show j4 _ _ (if (some (Value.builtin "tuple.__hash__")==some ec)=true then _ else _) Q E s;rw[MF (by rw[beq_builtin_none];exact IA)];refine jj (Kx i F.slot_tuple_hash.lookup ?_);show j4 _ _ (callSpecialIfBoundUnlessNone? (.ref a) "__hash__" _ >>= _) Q E s;refine jj (wpAny_callSpecialIfBoundUnlessNone?_slot i F.slot_tuple_hash (zv F.slot_tuple_hash i F.entry_tuple_hash ?_ (F.args_tuple_hash_1 _)));show j4 _ _ (w4 (.ref a) >>= _) _ _ s;refine jj (Qa ho hd ?_);refine jj ?_;rw[<-nl];refine KL _
  (λrest (b:Array Int) s'=>(rest=[.int g t,.ref j]/\b.toList=[]/\s'=s)\/(rest=[.ref j]/\b.toList=[Qf g]/\s'={ s with toks:=s.toks+1 })\/(rest=[]/\b.toList=[Qf g,QK (Kj prog w) f]/\s'={ s with toks:=s.toks+1+(f.length+1) }))
  _ ?_ ?_ _ _ (.inl ⟨rfl,rfl,rfl⟩)
 ·rintro x rest b s' (⟨c,d,rfl⟩|⟨c,d,rfl⟩|⟨c,d,rfl⟩)
  ·injection c with e1 e2;subst e1 e2;refine jj ((Kj prog w).pyHash (eU g t) ?_)
   first
    | exact j0 (.inr (.inl ⟨rfl,by simp[d,Kj],rfl⟩))
    | exact jj (j0 (j0 (.inr (.inl ⟨rfl,by simp[d,Kj],rfl⟩))))
  ·injection c with e1 e2;subst e1 e2;refine jj (wpAny_pyHash_tuple (knd:=Kj prog w) l hi ?_)
   first
    | exact j0 (.inr (.inr ⟨rfl,by simp[d],rfl⟩))
    | exact jj (j0 (j0 (.inr (.inr ⟨rfl,by simp[d],rfl⟩))))
  ·cases c
 ·rintro b s' (⟨c,d,rfl⟩|⟨c,d,rfl⟩|⟨c,d,rfl⟩)
  ·cases c
  ·cases c
  show j4 _ _ (retInt (gf b.toList)) _ _ _;rw[d];refine wpAny_ret_mkInt ?_;show j4 _ _ (if (decide (-(2:Int) ^ 63<=gf _)&&decide (gf _<2 ^ 63))=true then _ else _) Q E _;unfold nK Qt at h;generalize gf [Qf g,QK (Kj prog w) f]=z at *;by_cases c:(decide (-(2:Int) ^ 63<=z)&&decide (z<2 ^ 63))=true
  ·rw[ME c];rw[ME c] at h;refine j0 ?_;have e:s.toks+1+(f.length+1)+1=s.toks+(f.length+3):=by omega
   simpa[e] using h
  ·rw[MF c];rw[MF c] at h;refine jj (Kk (j0 ?_));have e:s.toks+1+(f.length+1)+1=s.toks+(f.length+3):=by omega
   simpa[e] using h
theorem nJ(t:A.units<J4)(hx:dm prog w s.heap x a)(o:dm prog w s.heap y b)(h:P (.done (.ret (.bool (decide (x=y))))) s) :
  j4 (kf prog w) A (Builtin.«tuple.__eq__» ⟨[.ref a,.ref b],[]⟩) P E s:=by
 have e:=o.typeIs;obtain⟨x1,c⟩:=x;obtain⟨y1,d⟩:=y;obtain⟨z,ta,p,B,f,_,g,i⟩:=hx;obtain⟨ob,tb,q,C,j,_,k,l⟩:=o;show j4 _ _ (isInstance (.ref b) (.type "tuple") >>= _) _ _ s;refine jj (Kr e KZ ?_);simp only[JO,IQ,if_false];refine jj (Qa f g ?_);refine jj (Qa j k ?_);refine jj ?_;refine KL _
  (λrest r s'=>r.1=none/\s'=s/\(rest=[(.int x1 ta,.int y1 tb),(.ref p,.ref q)]\/(rest=[(.ref p,.ref q)]/\x1=y1)\/(rest=[]/\x1=y1/\c=d)))
  _ ?_ ?_ _ _ ⟨rfl,rfl,.inl rfl⟩
 ·rintro⟨u,v⟩ rest r s' ⟨m,rfl,(hz|⟨hz,e1⟩|⟨hz,_⟩)⟩
  ·simp only[ri,Li] at hz;obtain⟨⟨rfl,rfl⟩,rfl⟩:=hz;refine jj ((Kj prog w).eqBool (eU x1 ta) (eU y1 tb) ?_);by_cases hk:x1=y1
   ·subst hk;rw[decide_eq_true rfl];simp only[JO,IQ,if_false];exact j0 ⟨rfl,rfl,.inr (.inl (by simp))⟩
   ·rw[decide_eq_false hk];simp only[Mr,if_true];have n:decide ((x1,c)=(y1,d))=false:=by simp[hk]
    rw[n] at h;exact jj (j0 (j0 (j0 h)))
  ·simp only[ri,Li] at hz;obtain⟨⟨rfl,rfl⟩,rfl⟩:=hz;refine jj (wpAny_eqBool_tuple t i l ?_);by_cases hk:c=d
   ·rw[decide_eq_true hk];simp only[JO,IQ,if_false];exact j0 ⟨rfl,rfl,.inr (.inr (by simp[e1,hk]))⟩
   ·rw[decide_eq_false hk];simp only[Mr,if_true];have n:decide ((x1,c)=(y1,d))=false:=by simp[hk]
    rw[n] at h;exact jj (j0 (j0 (j0 h)))
  ·cases hz
 ·rintro⟨D,F⟩ s' ⟨m,rfl,(hz|⟨hz,e1⟩|⟨hz,e1,e2⟩)⟩
  ·cases hz
  ·cases hz
  simp only at m;subst m;refine j0 ?_;rw[decide_eq_true (by rw[e1,e2])] at h;exact h
theorem rY(f:A.units+1<J4)(hx:dm prog w s.heap x a)(d:dm prog w s.heap y b)(h:Q (decide (x=y)) s) :
  j4 (kf prog w) A (eqBool (.ref a) (.ref b)) Q E s:=by
 unfold eqBool
 try with_reducible refine ze ?_
 show j4 _ _ (if (eE a==eE b)=true then _ else _) Q E s;by_cases c:(eE a==eE b)=true
 ·rw[ME c];have e:a=b:=by have:=eq_of_beq c;injection this
  subst e;obtain rfl:=hx.inj d;exact jj (Kk (j0 (by simpa using h)))
 ·rw[MF c];exact jj (wpAny_richCompare_same_room (op:=.Eq) hx.typeIs d.typeIs F.slot_tuple_eq
   (zv F.slot_tuple_eq hx.typeIs F.entry_tuple_eq (nJ f hx d ⟨_,rfl,(λe=>nomatch e),zb h⟩) (F.args_tuple_eq_2 _ _)) (by omega))
theorem ud(hk:IsTupleKey (Kj prog w) s.heap ks a)(h:Q true s):j4 (kf prog w) A (QG (n+1) (.ref a)) Q E s:=by
 have e:=hk.typeIs;obtain⟨o,items,m,ho,_,hd,hi⟩:=hk;unfold QG;refine jj (Kx e F.slot_tuple_eq.lookup ?_);show j4 _ _ (isInstance (.ref a) (.type "tuple") >>= _) _ _ s;refine jj (Kr e KZ ?_);simp only[JO,IQ,if_false];refine jj (zg ho hd ?_);refine jj ?_;show j4 _ _ (forIn items _ _) _ _ s;rw[<-nl];refine KL _ (λrest r s'=>r.1=none/\s'=s/\∀v∈rest,carriedByValue v=true) _ ?_ ?_ _ _ ⟨rfl,rfl,hi.byValue⟩
 ·rintro v rest r s' ⟨c,rfl,b⟩;rw[eqIsQuiet_byValue _ (b v H9)];refine jj (j0 ?_);simp only[JO,IQ,if_false];exact j0 ⟨rfl,rfl,λu d=>b u (HZ _ d)⟩
 ·rintro⟨f,g⟩ s' ⟨c,rfl,_⟩;simp only at c;subst c;exact j0 h
theorem tM(hk:dm prog w s.heap k a)(h:Q true s):j4 (kf prog w) A (QG 8 (.ref a)) Q E s:=by
 have g:=hk.typeIs;obtain⟨o,t,b,n,ho,_,hd,hi⟩:=hk;unfold QG;refine jj (Kx g F.slot_tuple_eq.lookup ?_);show j4 _ _ (isInstance (.ref a) (.type "tuple") >>= _) _ _ s;refine jj (Kr g KZ ?_);simp only[JO,IQ,if_false];refine jj (zg ho hd ?_);refine jj ?_;show j4 _ _ (forIn _ _ _) _ _ s;rw[<-nl];refine KL _ (λrest r s'=>r.1=none/\s'=s/\∀v∈rest,carriedByValue v=true\/v=.ref b) _ ?_ ?_ _ _ ⟨rfl,rfl,λv e=>?_⟩
 ·rintro v rest r s' ⟨f,rfl,c⟩;rcases c v H9 with e|rfl
  ·rw[eqIsQuiet_byValue _ e];refine jj (j0 ?_);simp only[JO,IQ,if_false];exact j0 ⟨rfl,rfl,λu d=>c u (HZ _ d)⟩
  ·refine jj (ud hi ?_);simp only[JO,IQ,if_false];exact j0 ⟨rfl,rfl,λu d=>c u (HZ _ d)⟩
 ·rintro⟨i,j⟩ s' ⟨f,rfl,_⟩;simp only at f;subst f;exact j0 h
 ·simp at e;rcases e with rfl|rfl
  ·exact .inl rfl
  ·exact .inr rfl
end
def bQ(prog:kq)(w:k0):HeapKind prog w (Int×List Int) where
 is := dm prog w
 hash:=nK prog w
 draws:=λk=>k.2.length+3
 room:=λA=>A.units+1<J4
 inj:=λhx a=>hx.inj a
 keeps:=λx ho hd c=>x.keeps ho hd c
 pyHash:=λb hk h=>rX b hk h
 eqBool:=λb hx a h=>rY b hx a h
 quiet:=λhk h=>tM hk h
abbrev a8:=Int×List Int
def xb(k:a8):Int:=Qt (gf [Qf k.1,Qt (gf (k.2.map Qf))])
def rm(x:a8×al×ap):QJ:=⟨xb x.1,.ref x.2.1,x.2.2⟩
theorem ig{A:Around}(a:A.units+2<J4):(bQ prog w).room A.in1:=a
end _L
namespace _L
open PySem
section
variable {prog:kq}{w:k0}{A:Around}{E:ap->av->Prop}{s:av}{d a:al}{xs:List (a8×al×ap)}{k:a8}{v:ap}
def pM(prog:kq)(w:k0)(h:bb)(d:al)(xs:List (a8×al×ap)):Prop :=
 ∃o ds ep,h.get? d=some o/\o.ExactDict/\o.data=.dict ds ep/\ds.toList=xs.map rm/\(∀x∈xs,dm prog w h x.1 x.2.1)/\(xs.map (·.1)).Nodup/\ep=xs.length
theorem pM.of(x:pM prog w h d xs):h.DictOfH (bQ prog w) d xs:=by obtain⟨o,ds,ep,h1,h2,a,b,c,e,_⟩:=x;exact⟨o,ds,ep,h1,h2,a,b,c,e⟩
theorem mQ(m:A.units+1<J4)(b:dm prog w s.heap k a)(r:pM prog w s.heap d xs)
  (n:∀h',pM prog w h' d (storedH xs k a v)->oA d s.heap h'->Q () { s with heap:=h',toks:=s.toks+(k.2.length+3) }) (hsz:xs.length<=sizeLine) :
  j4 (kf prog w) A (dictSet d (.ref a) v) Q E s:=by
 obtain⟨o,es,ep,ho,hc,hd,h,c,hn,q⟩:=r;unfold dictSet
 try with_reducible refine ze ?_
 refine jj ((bQ prog w).pyHash m b ?_);unfold dictSetHashed
 try with_reducible refine ze ?_
 refine jj (wpAny_dictFind_heap (knd:=bQ prog w) (s:={ s with toks:=s.toks+(bQ prog w).draws k }) m b ho hd h c hn ?_ ?_)
 ·intro f;have g:k ∉ xs.map (·.1):=not_mem_keys_of_get f;refine jj (Kk (wpAny_updateDictKeys (hz:=by have e:=size_of_entries (knd:=bQ prog w) h;omega) (s:={ s with toks:=s.toks+(bQ prog w).draws k }) ho hd (n _ ⟨_,_,ep+1,Jy _ ho (LW (LM hd _)),
   hc.mapDictKeys _,LM hd _,?_,?_,?_,?_⟩ (eo ..))))
  all_goals rw[storedH_new (atKey_none_of_get f)]
  ·simp[h,rm,entryOfKey];rfl
  ·intro x hx;rcases HX.mp hx with hx|hx
   ·exact(bQ prog w).keeps (c x hx) ho hd (eo ..)
   ·simp only[HW] at hx;subst hx;exact(bQ prog w).keeps b ho hd (eo ..)
  ·rw[IE,HY];refine⟨hn,by simp,λx hx y i=>?_⟩;simp only[ID,sj,HW] at i;subst i
   exactλe=>g (e▸hx)
  ·rw[q];simp
 ·intro j p hj;refine jj (Kk (jj (wpAny_updateDict (s:={ s with toks:=s.toks+(bQ prog w).draws k }) ho hd (wpAny_point (n _ ⟨_,_,ep,Jy _ ho (LW (Ml hd _)),
   hc.mapDict _,Ml hd _,?_,?_,?_,?_⟩ (eo ..))))))
  all_goals rw[storedH_old (atKey_of_get hn hj)]
  ·have:=modify_map_putAt rm (λe:QJ=>{ e with val:=v }) k v (λ_ _=>rfl) hn hj;rw[<-h] at this;obtain⟨l⟩:=es;simpa using this
  ·intro x hx;obtain⟨y,i,rfl⟩:=Ig.mp hx;unfold putAt;split <;> exact(bQ prog w).keeps (c y i) ho hd (eo ..)
  ·rw[keys_map_putAt];exact hn
  ·rw[q];simp
theorem t8(h:A.in1.units+1<J4)(b:dm prog w s.heap k a)(g:pM prog w s.heap d xs)
  (i:∀h',pM prog w h' d (storedH xs k a v)->oA d s.heap h'->Q () { s with heap:=h',toks:=s.toks+(k.2.length+3) }) (hsz:xs.length<=sizeLine) :
  j4 (kf prog w) A (Qn (.ref d) (.ref a) v) Q E s:=by
 have c:=g.of.typeIs;unfold Qn
 try with_reducible refine ze ?_
 refine jj (wpAny_sequenceKey c (by decide) ?_);refine jj (z5 (name:=lc "__setitem__") c slot_dict_setitem (zv slot_dict_setitem c entry_dict_setitem ?_ (args_dict_setitem _ _ _)));show j4 _ _ (Builtin.Dict.notOrdered "__setitem__" ⟨[.ref d,.ref a,v],[]⟩ >>= _) _ _ s;refine jj (wpAny_notOrdered_dict c ?_);show j4 _ _ (dictSet d (.ref a) v >>= _) _ _ s;exact jj (mQ h b g (λh' e f=>j0 ⟨.none,rfl,j0 (i h' e f)⟩) hsz)
end
end _L
namespace _L
open PySem PySem.Spec PyProof.Rows
def cr(a:al)(es:List (a8×al×V))(h:bb):Prop :=
 es.length<=sizeLine/\(a==KB)=false/\∃xs:List (a8×al×ap),Paired (λ(p:a8×al×V) (q:a8×al×ap)=>p.1=q.1/\p.2.1=q.2.1/\bC p.2.2 q.2.2) es xs /\
  ∃o ds ep,h.get? a=some o/\o.ExactDict/\o.data=.dict ds ep/\ds.toList=xs.map rm/\(xs.map (·.1)).Nodup/\ep=xs.length
abbrev dO(k:a8):ab:=.tuple [.int k.1,.tuple (k.2.map .int)]
abbrev fb(kvs:List (a8×ab)):ab:=.dict (kvs.map λp=>(dO p.1,p.2))
abbrev fzD(ds:List ab):ab:=.dict [(.none,.list ds)]
theorem FX{α:Type}{n:Nat}{l:List α}(h:l.length=n+1):∃a t,l=a::t:=List.exists_cons_of_length_eq_add_one h
theorem sF{α:Type}{l:List α}(h:l.length=1):∃a,l=[a]:=List.length_eq_one_iff.mp h
theorem FY{α:Type}{l:List α}(h:l.length=2):∃a b,l=[a,b]:=by obtain⟨a,t,rfl⟩:=FX h;obtain⟨b,rfl⟩:=sF (l:=t) (Ll h);exact⟨a,b,rfl⟩
theorem G7{α:Type}{l:List α}(h:l.length=3):∃a b c,l=[a,b,c]:=by obtain⟨a,t,rfl⟩:=FX h;obtain⟨b,c,rfl⟩:=FY (l:=t) (Ll h);exact⟨a,b,c,rfl⟩
theorem Hx{α:Type}{l:List α}(h:l.length=4):∃a b c d,l=[a,b,c,d]:=by obtain⟨a,t,rfl⟩:=FX h;obtain⟨b,c,d,rfl⟩:=G7 (l:=t) (Ll h);exact⟨a,b,c,d,rfl⟩
mutual
inductive DV (K:cc) (H:Hp):V->ab->Prop
 | non:DV K H .non .none
 | bl (b:Bool):DV K H (.bl b) (.bool b)
 | int (i:Int):DV K H (.int i) (.int i)
 | lst {a:al}{xs:List V}{ds:List ab}:SqL K H a xs->DVs K H xs ds->DV K H (.ref a) (.list ds)
 | tup {a:al}{xs:List V}{ds:List ab}:SqT K H a xs->DVs K H xs ds->DV K H (.ref a) (.tuple ds)
 | dct {a:al}{es:List (a8×al×V)}{kvs:List (a8×ab)}:H a=some (.ext (cr a es))->DVs K H (es.map λp=>V.ref p.2.1) (kvs.map λp=>dO p.1)->DVs K H (es.map λp=>p.2.2) (kvs.map λp=>p.2)->es.map (λp=>p.1)=kvs.map (λp=>p.1)->DV K H (.ref a) (fb kvs)
 | fz {v:V}{ds:List ab}:DV K H v (.list ds)->DV K H v (fzD ds)
inductive DVs (K:cc) (H:Hp):List V->List ab->Prop
 | nil:DVs K H [] []
 | cons {x:V}{xs:List V}{d:ab}{ds:List ab}:DV K H x d->DVs K H xs ds->DVs K H (x::xs) (d::ds)
end
theorem DV.tupI{K:cc}{H:Hp}{v:V}{ds:List ab}(h:DV K H v (.tuple ds)):∃a xs,v=.ref a/\SqT K H a xs/\DVs K H xs ds:=by
 cases h with
 | tup h q=>exact⟨_,_,rfl,h,q⟩
theorem DV.lstI{K:cc}{H:Hp}{v:V}{ds:List ab}(h:DV K H v (.list ds)):∃a xs,v=.ref a/\SqL K H a xs/\DVs K H xs ds:=by
 cases h with
 | lst h q=>exact⟨_,_,rfl,h,q⟩
theorem DV.intI{K:cc}{H:Hp}{v:V}{i:Int}(h:DV K H v (.int i)):v=.int i:=by cases h;rfl
theorem DVs.twoI{K:cc}{H:Hp}{vs:List V}{d e:ab}(h:DVs K H vs [d,e]):∃x y,vs=[x,y]/\DV K H x d/\DV K H y e:=by
 cases h with
 | cons h q =>
  cases q with
  | cons h2 q=>cases q;exact⟨_,_,rfl,h,h2⟩
section
variable {X:Cx}{pins:List (al×Obj)}{σ:St}{H:Hp}{s:av}
theorem DV.reads(I:Inv X pins σ H s)(h:DV X.K H x d):bC x u->d.canLay0=true->∃as,Reads s.heap u d as :=
 DV.rec (motive_1:=λx d _=>∀u:ap,bC x u->d.canLay0=true->∃as,Reads s.heap u d as) (motive_2:=λxs ds _=>∀us:List ap,bf xs us->hL ds=true->∃as,ReadsAll s.heap us ds as)
 (λu r _=>by cases (show _=ec from r);exact⟨_,.none⟩)
 (λb u r _=>by cases (show _=o3 b from r);exact⟨_,.bool b⟩)
 (λi u r _=>by obtain⟨t,rfl⟩:=r;exact⟨_,.int i t⟩)
 (λ{a xs ds} h q i u r l=>by
  cases (show _=eE a from r);obtain⟨g,k,⟨o,n,e,c,_,hd⟩,_⟩:=I.list h;obtain⟨as,f⟩:=i _ k (by simpa only[gV] using l);exact⟨_,.list e c hd (by simpa using f)⟩)
 (λ{a xs ds} h q i u r l=>by
  cases (show _=eE a from r);obtain⟨g,k,⟨o,e,c,n,hd⟩,_⟩:=I.tuple h;obtain⟨as,f⟩:=i _ k (by simpa only[gV] using l);exact⟨_,.tuple e c hd (by simpa using f)⟩)
 (λ_ _ _ _ _ _ _ _ l=>by simp[gV] at l) (λ_ _ _ _ l=>by simp[gV] at l)
 (λus r _=>by rw[bf.zero r];exact⟨_,.nil⟩)
 (λ_ _ i j us r l=>by
  simp only[hL,Iq] at l;obtain⟨u,vs,rfl,m,p⟩:=bf.consI r;obtain⟨as,f⟩:=i u m l.1;obtain⟨bs,v⟩:=j vs p l.2;exact⟨_,.cons f v⟩) h u
theorem l8:∀ns:List Int,hL (ns.map eC)=true
 | []=>rfl
 | n::ns=>by simp only[ID,hL,gV,Mz,l8 ns]
abbrev shp(d:ab):Prop:=oo d=true
def FM(K:cc):R2:=λx y H Q=>∃d e,DV K H x d/\DV K H y e/\shp d/\shp e/\Q (.bl (hZ d e)) H
def FJ(K:cc):R2:=λx y H Q=>∃d e,DV K H x d/\DV K H y e/\shp d/\shp e/\Q (.bl (!PyData.eqv d e)) H
theorem DQ(a:X.A.units+64<J4):OpR X (ky .Eq) (FM X.K):=by intro pins s σ H x y v u Q I b c h;obtain⟨d,e,h1,h2,s1,s2,q⟩:=h;obtain⟨as,f⟩:=h1.reads I b (ge s1);obtain⟨bs,g⟩:=h2.reads I c (ge s2);exact eq_dataH f g s1 s2 a ⟨.bl _,H,I,rfl,q⟩
theorem DM(a:X.A.units+64<J4):OpR X (ky .NotEq) (FJ X.K):=by intro pins s σ H x y v u Q I b c h;obtain⟨d,e,h1,h2,s1,s2,q⟩:=h;obtain⟨as,f⟩:=h1.reads I b (ge s1);obtain⟨bs,g⟩:=h2.reads I c (ge s2);exact ne_dataH f g s1 s2 a ⟨.bl _,H,I,rfl,q⟩
def nX(K:cc):R2:=λx y H Q=>∃d ds,DV K H x d/\DV K H y (.list ds)/\shp d/\shp (.list ds)/\Q (.bl (!ds.any λe=>hZ e d)) H
theorem xf(h:shp (.list ds)):hL ds=true/\mA ds<=63:=by have a:=ge h;have b:=Lv h;simp only[r4] at b;exact⟨a,by omega⟩
theorem uK(f:X.A.units+80<J4):OpR X (ky .NotIn) (nX X.K):=by intro pins s σ H x y v u Q I a b h;obtain⟨d,ds,h1,h2,s1,s2,q⟩:=h;obtain⟨as,c⟩:=h1.reads I a (ge s1);obtain⟨bs,e⟩:=h2.reads I b (ge s2);obtain⟨l1,l2⟩:=xf s2;have:=Mq (mA ds) d.depth;exact SeqAt.notIn_list_reads e c l1 (ge s1) (by omega) ⟨.bl _,H,I,rfl,q⟩
theorem ng:∀{bs:List Bool}{us:List ap},bf (bs.map V.bl) us->LSm.BoolsAre us bs
 | [],_,.nil=>.nil
 | b::bs,_,.cons r t=>by
  cases (show _=o3 b from r);exact .cons b (ng t)
theorem yF(hc:X.calm=true):fg X (.builtin "all") (λxs H Q=>∃(a:al) (bs:List Bool),xs=[.ref a]/\SqL X.K H a (bs.map V.bl)/\Q (.bl (bs.all id)) H):=by
 intro pins s σ H xs us Q I r h;obtain⟨a,bs,rfl,k,q⟩:=h;obtain⟨u,rfl,l⟩:=iD r;cases (show u=eE a from l);obtain⟨c,m,p,_⟩:=I.list k;have g:=ng m;have d:=p.isList;have f:a<s.heap.objs.size:=by obtain⟨_,e,_⟩:=d;exact Ij e
 refine call_all_walk (Kc d ?_);refine⟨s.heap.objs.size,[s.heap.objs.size,a],[s.heap.objs.size],c.toArray.size,_,_,λi=>(bs[i]?).getD true,rfl,Walks.list (A:=X.A.in1) (I.ok.hd hc) _ a (IF f) c.toArray,
  ⟨⟨_,Im _ rfl,rfl,rfl⟩,d.push _⟩,λi v s' o E' n j=>?_,λh' tk hk=>?_⟩
 ·obtain⟨b,e,rfl⟩:=g.get i v (by simpa using n);simp only[e,rg] at j;exact zb j
 ·have e:((di c.toArray.size).all λi=>(bs[i]?).getD true)=bs.all id:=by
   rw[Ii,g.length];exact LSm.range_all bs
  rw[e];exact⟨.bl _,H,I.kept (LSm.kept_iter hk),rfl,q⟩
def CZ(K:cc):R2:=λx y H Q=>∃a b xs ys,x=.ref a/\y=.ref b/\SqT K H a xs/\SqT K H b ys/\xs.length+ys.length<=sizeLine /\
 (xs=[]->Q (.ref b) H)/\(xs≠[]->ys=[]->Q (.ref a) H)/\(xs≠[]->ys≠[]->∀p,H p=none->Q (.ref p) (upd H p (.tup (xs++ys))))
theorem A3:OpR X (Kb .Add) (CZ X.K):=by
 intro pins s σ H x y v u Q I j k h;obtain⟨a,b,xs,ys,rfl,rfl,l,m,hz,q0,p,q⟩:=h;by_cases hx:xs=[]
 ·subst hx;cases (show v=eE a from j);cases (show u=eE b from k);obtain⟨r,t,w,_⟩:=I.tuple l;obtain⟨c,A,p2,_⟩:=I.tuple m;cases t;obtain⟨⟨cls,dd,data,sl⟩,ho,hc,n,hd⟩:=id w;obtain⟨⟨o,g,data2,i⟩,d,e,z,f⟩:=id p2;simp only at hc hd e f;subst hc hd e f;exact Qg ⟨_,ho,rfl⟩ ⟨_,d,rfl⟩ Qk QA ry pQ (pu _ _)
   (tuple_addW0 a b #[] c.toArray n z dd g sl i rfl) ⟨ho,d,.ref b,H,I,rfl,q0 rfl⟩
 ·exact A1 pins s σ H _ _ v u Q I j k ⟨a,b,xs,ys,rfl,rfl,l,m,hx,hz,p hx,q hx⟩
end
def cW:Bool->bb->al->Array ap->Prop
 | false,h,a,xs=>h.IsList a xs
 | true,h,a,xs=>h.IsTuple a xs
def cG:Bool->bb->al->al->Nat->Prop
 | false,h,it,a,i=>h.IsListIter it a i
 | true,h,it,a,i=>h.IsTupleIter it a i
theorem cW.at(p:cW b h a xs)(k:∀o,h.get? a=some o->h'.get? a=some o):cW b h' a xs:=by
 cases b with
 | false=>obtain⟨o,e,r⟩:=p;exact⟨o,k o e,r⟩
 | true=>obtain⟨o,e,r⟩:=p;exact⟨o,k o e,r⟩
theorem cG.at(p:cG b h it a i)(k:∀o,h.get? it=some o->h'.get? it=some o):cG b h' it a i:=by
 cases b with
 | false=>obtain⟨o,e,r⟩:=p;exact⟨o,k o e,r⟩
 | true=>obtain⟨o,e,r⟩:=p;exact⟨o,k o e,r⟩
theorem cW.obj(p:cW b h a xs):∃o n,h.get? a=some o/\o.data=.seq xs n:=by
 cases b with
 | false=>obtain⟨o,e,_,n,d⟩:=p;exact⟨o,n,e,d⟩
 | true=>obtain⟨o,e,_,n,d⟩:=p;exact⟨o,n,e,d⟩
theorem cG.obj(p:cG b h it a i):∃o,h.get? it=some o/\o.data=.fields #[.ref a,.int i 0]:=by
 cases b with
 | false=>obtain⟨o,e,_,d⟩:=p;exact⟨o,e,d⟩
 | true=>obtain⟨o,e,_,d⟩:=p;exact⟨o,e,d⟩
section
theorem xL(a:s.heap.IsTupleIter it t i)(d:s.heap.IsTuple t items)(hx:items[i]? = some x)
  (e:∀h',h'.IsTupleIter it t (i+1)->oA it s.heap h'->Q x { s with heap:=h' }):j4 (kf prog w) A (eH (.ref it)) Q E s:=by obtain⟨o,ho,hc,hd⟩:=id a;obtain⟨f,b,_,g,c⟩:=d;unfold eH;refine jj (z5 (name:=lc "__next__") a.typeIs F.slot_tuple_iterator_next (zv F.slot_tuple_iterator_next a.typeIs F.entry_tuple_iterator_next ?_ (F.args_tuple_iterator_next_1 _)));show j4 _ _ (QF (.ref it) 0 >>= _) _ _ s;refine jj (zh ho hd (x:=.ref t) rfl ?_);show j4 _ _ (if (eE t==ec)=true then _ else _) _ _ s;rw[MF (show ¬((eE t==ec)=true) from IA)];show j4 _ _ (QF (.ref it) 1 >>= _) _ _ s;refine jj (zh ho hd (x:=.int i 0) rfl ?_);show j4 _ _ (QB (.ref t) >>= _) _ _ s;refine jj (zg b c ?_);simp only[IP,hx];refine jj (wpAny_setField ho hd (by simp) (j0 ⟨x,rfl,j0 (e _ ?_ (eo ..))⟩));refine⟨_,Jy _ ho (Obj.isFreed_of_fields (L4 hd _)),(Obj.cls_mapFields ..).trans hc,?_⟩;rw[L4 hd];simp[KC]
theorem oP(f:A.handled=none)(b:s.heap.IsTupleIter it t i)(g:s.heap.IsTuple t items)(hx:items[i]? = none)
  (h:∀h' e,LJ it s.heap h'->(∃o,h'.get? e=some o/\o.cls=.type "StopIteration")->E (.ref e) { s with heap:=h' }):j4 (kf prog w) A (eH (.ref it)) Q E s:=by
 obtain⟨o,ho,hc,hd⟩:=id b;obtain⟨j,c,_,k,d⟩:=g;unfold eH;refine jj (z5 (name:=lc "__next__") b.typeIs F.slot_tuple_iterator_next (zv F.slot_tuple_iterator_next b.typeIs F.entry_tuple_iterator_next ?_ (F.args_tuple_iterator_next_1 _)));show j4 _ _ (QF (.ref it) 0 >>= _) _ _ s;refine jj (zh ho hd (x:=.ref t) rfl ?_);show j4 _ _ (if (eE t==ec)=true then _ else _) _ _ s;rw[MF (show ¬((eE t==ec)=true) from IA)];show j4 _ _ (QF (.ref it) 1 >>= _) _ _ s;refine jj (zh ho hd (x:=.int i 0) rfl ?_);show j4 _ _ (QB (.ref t) >>= _) _ _ s;refine jj (zg c d ?_);simp only[IP,hx];refine jj (Kk (jj (wpAny_setField ho hd (by simp) ?_)));show j4 _ _ (newExc (.type "StopIteration") [] >>= _) _ _ _;refine jj ?_;simp only[newExc,newTuple];refine jj (z4 ?_ (by size_fits));refine jj (m:=firstArgMember _ _) (wpAny_of_eq (a:=ec) (by first|rfl|(simp only[firstArgMember];rfl)) ?_);refine z4 ?_ (by size_fits);simp only[raiseNew];refine jj (wpAny_handled ?_)
 first|rw[show A.in1.handled=none from f]|rw[f]
 exact jj (j0 (wpAny_throw (h _ _ (((eo ..).extBut.push _).push _) ⟨_,Im _ rfl,rfl⟩)))
theorem ik(c:cG b s.heap it a i)(d:cW b s.heap a items)(hx:items[i]? = some x)
  (e:∀h',cG b h' it a (i+1)->oA it s.heap h'->Q x { s with heap:=h' }):j4 (kf prog w) A (eH (.ref it)) Q E s:=by
 cases b with
 | false=>exact wpAny_nextOf_list_item c d hx e
 | true=>exact xL c d hx e
theorem fB(d:A.handled=none)(c:cG b s.heap it a i)(f:cW b s.heap a items)(hx:items[i]? = none)
  (g:∀h' e,LJ it s.heap h'->(∃o,h'.get? e=some o/\o.cls=.type "StopIteration")->E (.ref e) { s with heap:=h' }):j4 (kf prog w) A (eH (.ref it)) Q E s:=by
 cases b with
 | false=>exact wpAny_nextOf_list_end d c f hx g
 | true=>exact oP d c f hx g
end
theorem mP(b:Bool)(g:A.handled=none)(it a:al)(c:a≠it)(items:Array ap) :
  Draws prog w A it [it,a] items.size (λi v=>items[i]? = some v) (λi h=>cG b h it a i/\cW b h a items) where
 live:=λ_ _ st=>by obtain⟨o,e,_⟩:=st.1.obj;exact⟨o,e⟩
 frame:=λ_ _ _ st hk=>⟨st.1.at λo e=>hk it (by simp) o e,st.2.at λo e=>hk a (by simp) o e⟩
 item:=λi s Q E hi st j=>ik st.1 st.2 (x:=items[i]) (by simp[hi]) λh' d f=>j _ h' s.toks (by simp[hi]) ⟨d,st.2.at λo e=>f.extBut a o c e⟩ f
 done:=λs Q E st k=>fB g st.1 st.2 (by simp) k
def SqB(K:cc)(H:Hp):Bool->al->List V->Prop
 | false,a,xs=>SqL K H a xs
 | true,a,xs=>SqT K H a xs
section
variable {X:Cx}{pins:List (al×Obj)}{σ:St}{H:Hp}{s:av}
theorem Inv.seq(I:Inv X pins σ H s)(h:SqB X.K H b a xs):∃c:List ap,bf xs c/\cW b s.heap a c.toArray:=by
 cases b with
 | false=>obtain⟨c,r,p,_⟩:=I.list h;exact⟨c,r,p.isList⟩
 | true=>obtain⟨c,r,p,_⟩:=I.tuple h;exact⟨c,r,p⟩
theorem Inv.seq_inj(I:Inv X pins σ H s)(h:SqB X.K H b a xs)(h':SqB X.K H b a ys):xs=ys:=by
 cases b with
 | false=>exact I.list_inj h h'
 | true=>exact I.tuple_inj h h'
theorem Inv.turnedN{fp:List al}{h':bb}{t':Nat}(I:Inv X pins σ H s)(d:∀b∈fp,iz X pins H b)(k:∀b o,b ∉ fp->s.heap.get? b=some o->h'.get? b=some o):Inv X pins σ H { s with heap:=h',toks:=t' }:=by
 have a:∀b u,H b=some u->b ∉ fp:=λb u e z=>by rw[(d b z).1] at e;cases e
 refine I.step (g':=s.gens) (d':=s.drawn) (ch:=fp) (λb f=>?_) (λb o _ _ hc e _=>k b o hc e) (λb o _ _ hc e _=>⟨o.slots,k b o hc e⟩) (λ_ _ _ _ n=>n) (λb o hc e=>⟨o,k b o hc e⟩) (λ_ _ e=>e) (λ_ _ _ e=>e)
  (λ_ _ e=>e) (λm g=>?_) (λb u e=>?_) I.bare
 ·obtain⟨p,h,t,i,j,l⟩:=d b f;exact⟨i,h,j,l⟩
 ·obtain⟨o,es,ep,ho,r⟩:=g;exact⟨o,es,ep,k _ o (λz=>(d _ z).2.1 rfl) ho,r⟩
 ·refine(I.hok b u e).stay (λc v hc q=>k c v ?_ q) (λ_ q=>q) λ_ _ _ q=>q;rcases hc with z|z
  ·rw[z];exact a b u e
  ·exact a c _ z
theorem Inv.track(I:Inv X pins σ H s)(f:iz X pins H T)(new:fe X.prog X.w (upd H T o) s.heap T o):Inv X pins σ (upd H T o) s:=by
 obtain⟨g,h,p,i,j,k⟩:=f;have a:∀b u,H b=some u->b≠T:=λb u e z=>by rw[z,g] at e;cases e
 have q:=I.step (h':=s.heap) (H':=upd H T o) (g':=s.gens) (d':=s.drawn) (t':=s.toks) (ch:=[T]) (λb d=>by
   have e:b=T:=by simpa using d
   rw[e];exact⟨i,h,j,k⟩) (λb o _ _ _ e _=>e) (λb o _ _ _ e _=>⟨o.slots,e⟩) (λb o' hc _ n=>by rw[am (λz=>hc (by simp[z]))];exact n) (λb o' _ e=>⟨o',e⟩)
  (λb xs e=>by rw[am (a b _ e)];exact e) (λb o' u e=>by rw[am (a b _ e)];exact e) (λb ps e=>by rw[am (a b _ e)];exact e) (λm l=>l) (λb u e=>?_) I.bare
 ·exact q
 ·by_cases d:b=T
  ·subst d;rw[aw] at e;cases e;exact new
  ·rw[am d] at e;exact(I.hok b u e).stay (λ_ _ _ q=>q) (λc q=>by rw[am (a c _ q)];exact q) λc xs _ q=>by rw[am (a c _ q)];exact q
end
def Ite(K:cc)(b:Bool)(a:al):It :=
 ⟨λi H=>∃xs x,SqB K H b a xs/\xs[i]? = some x,λi H v H'=>∃p x,v=.ref p/\H p=none/\H'=upd H p (.tup [.int i,x])/\∀xs,SqB K H b a xs->xs[i]? = some x,λi H=>∃xs,SqB K H b a xs/\xs.length=i⟩
theorem tF{P:kq}{w:k0}{K:cc}{es:List ba}{Z:Nat}{pos:Pos}(b:Bool)(a it e:al)(j:e≠it) :
  Ck P w K (.Tuple es Z pos) (Ite K b a) [e,it] e (λi h=>(∃d,IsEnum h e it i d)/\cG b h it a i) where
 mem:=by simp
 obj := λi h st c hc=>by
  obtain⟨⟨d,g⟩,st⟩:=st;rcases Ic.mp hc with rfl|hc
  ·exact⟨_,g,λv z=>by
    have z':Data.fields _=Data.cell v:=z;cases z'⟩
  ·have e':c=it:=by simpa using hc
   subst e';obtain⟨o,ho,hd⟩:=st.obj;exact⟨o,ho,λv z=>by rw[hd] at z;cases z⟩
 keep:=λi h h' st k=>by
  obtain⟨⟨d,g⟩,st⟩:=st;exact⟨⟨d,k e (by simp) _ g⟩,st.at λo q=>k it (by simp) o q⟩
 item := by
  intro X F hw hK hc i pins s σ H E I B st G;subst F hw hK;obtain⟨xs,x,C,hx⟩:=G;obtain⟨⟨d,g⟩,st⟩:=st;obtain⟨f,J,r⟩:=I.seq C;obtain⟨u,Y,ru⟩:=J.get hx;obtain⟨oa,na,l,p⟩:=r.obj;obtain⟨oi,D,L⟩:=st.obj;have m:a≠it:=λz=>by rw[z,D] at l;cases l;rw[L] at p;cases p
  have M:e≠a:=λz=>by rw[<-z,g] at l;cases l;cases p
  have N:i<f.toArray.size:=by have:=(Ib.mp Y).1;simpa using this
  refine wpAny_pyNext_enum_itemD (mP (A:=X.A.in1) b (I.ok.hd hc) it a m f.toArray) g ⟨st,r⟩ N j (by simp[j,M]) λy h1 tk O t R hT hz hk=>?_;have ey:y=u:=by
   have:f[i]? = some y:=by simpa using O
   rw[Y] at this;exact(du this).symm
  subst ey;refine⟨_,rfl,wpAny_letOwnedTupleGo_enum t λh2 S n=>?_⟩;have elt:e<s.heap.objs.size:=Ij g;have U:it<s.heap.objs.size:=Ij D;have I2:Inv X pins σ H { s with heap:=h2,toks:=tk+1 }:=I.turnedN B λc o hc q=>n.extBut c o (λz=>hc (by simp[z])) (hk c o (λz=>hc (by simp[z])) (λz=>hc (by simp[z])) q);have g2:h2.get? s.heap.objs.size=some { cls:=.type "tuple",data:=.seq #[.int i tk,y] }:=n.extBut _ _ (Jw elt) hT;have hn:H s.heap.objs.size=none:=I.hok.fresh (Ih _);refine⟨.ref s.heap.objs.size,upd H s.heap.objs.size (.tup [.int i,x]),I2.track (T:=s.heap.objs.size) (o:=.tup [.int i,x]) (I.fpOk (Ih _) hn) ?_,rfl,?_,⟨⟨y,S⟩,?_⟩,λc hc=>?_⟩
  ·exact⟨by show 2<=sizeLine;decide,[.int i tk,y],.cons ⟨tk,rfl⟩ (.cons ru .nil),_,g2,rfl,⟨_,rfl⟩,rfl⟩
  ·exact⟨_,x,rfl,hn,rfl,λys O=>by rw[I.seq_inj O C];exact hx⟩
  ·exact R.1.at λo q=>n.extBut it o (Ne.symm j) q
  ·have:c<s.heap.objs.size:=by
    rcases Ic.mp hc with rfl|hc
    ·exact elt
    ·have e':c=it:=by simpa using hc
     rw[e'];exact U
   rw[am (IF this)];exact(B c hc).1
 done:=by
  intro X F hw hK hc i pins s σ H E I B st G;subst F hw hK;obtain⟨xs,C,hx⟩:=G;obtain⟨⟨d,g⟩,st⟩:=st;obtain⟨f,J,r⟩:=I.seq C;obtain⟨oa,na,l,p⟩:=r.obj;obtain⟨oi,D,L⟩:=st.obj;have m:a≠it:=λz=>by rw[z,D] at l;cases l;rw[L] at p;cases p
  have hl:=J.length;have ez:f.toArray.size=i:=by simp;omega
  refine wpAny_pyNext_enum_endD (mP (A:=X.A.in1) b (I.ok.hd hc) it a m f.toArray) g (by rw[ez];exact⟨st,r⟩) λh' V=>⟨rfl,?_⟩
  exact I.turnedN (t':=s.toks) B λc o hc q=>V c o (λz=>hc (by simp[z])) q
 self:=λA i s Q E st h=>by
  obtain⟨⟨d,g⟩,st⟩:=st;exact wpAny_pyIter_enum g h
abbrev jp(b:Bool)(a:al):Obj:={ cls:=.type (if b then "tuple_iterator" else "list_iterator"),data:=.fields #[.ref a,.int 0 0] }
theorem kJ(e:h.get? it=some (jp b a)):cG b h it a 0:=by
 cases b with
 | false=>exact⟨_,e,rfl,rfl⟩
 | true=>exact⟨_,e,rfl,rfl⟩
theorem fV(c:cW b s.heap a items)
  (d:Q (.ref s.heap.objs.size) { s with heap:=s.heap.push (jp b a) }):j4 (kf prog w) A (pyIter (.ref a)) Q E s:=by
 cases b with
 | false=>exact Kc c d
 | true=>exact wpAny_pyIter_tuple c d
open AutoSeq1 (wpAny_loadPart') in
theorem vA(l:al)(items:Array ap)(n:Nat)(dct:Option al)(sl:Array (Option ap)) :
  Meets (Builtin.«enumerate.__new__» ⟨[.type "enumerate",.ref l],[]⟩) (λ_ R s=>s.heap.get? l=some { cls:=.type "tuple",dict:=dct,data:=.seq items n,slots:=sl } /\
   R (.ok (.ret (.ref (s.heap.push (jp true l)).objs.size))) { s with heap:=(s.heap.push (jp true l)).push { cls:=.type "enumerate",data:=.fields #[.none,.bool false,.ref s.heap.objs.size,KC 0,.none,.none] } }) :=
 .of_wp λprog w A R s h=>by
  obtain⟨f,g,d,tk,os⟩:=s;obtain⟨a,h⟩:=h;have b:=sub_enumerate;have e:cW true (Shared.heap ⟨f,g,d,tk,os⟩) l items:=⟨_,a,rfl,n,rfl⟩
  wp_walk using wpAny_loadPart' a
  refine wpAny_stack_any λst=>j0 ?_;split
  ·rename_i c _ _ _ _ _;cases (c==LL "enumerate") <;> (wp_walk using wpAny_loadPart' a,fV e) <;> exact⟨_,rfl,h⟩
  ·wp_walk using wpAny_loadPart' a,fV e
   exact⟨_,rfl,h⟩
section
variable {s:av}
theorem vB(a:cW b s.heap l items)
  (h : ∀h',IsEnum h' (s.heap.objs.size+1) s.heap.objs.size 0 .none->cG b h' s.heap.objs.size l 0->h'.objs.size=s.heap.objs.size+2->(∀c o,s.heap.get? c=some o->h'.get? c=some o)->Q (.ref (s.heap.objs.size+1)) { s with heap:=h' }) :
  j4 (kf prog w) A (call (.type "enumerate") [.ref l]) Q E s:=by
 cases b with
 | false=>exact call_enumerate_list a h
 | true =>
  obtain⟨⟨c,dct,e,sl⟩,f,hc,n,hd⟩:=a;replace hc:c=.type "tuple" := hc;replace hd:e=.seq items n:=hd;subst hc hd;refine callType_new F.called_enumerate (by decide) (F.typeCall_enumerate_1 _) (F.newCall_enumerate_1 _) (λobj=>F.args_object_init_2 obj _) F.entry_enumerate_new (vA l items n dct sl) ⟨f,?_⟩;have hz:(s.heap.push (jp true l)).objs.size=s.heap.objs.size+1:=Jn ..;show _/\_;rw[hz];have d:IsEnum ((s.heap.push (jp true l)).push { cls:=.type "enumerate",data:=.fields #[.none,.bool false,.ref s.heap.objs.size,KC 0,.none,.none] }) (s.heap.objs.size+1) s.heap.objs.size 0 .none:=by have q:=Im (s.heap.push (jp true l)) (o:={ cls:=.type "enumerate",data:=.fields #[.none,.bool false,.ref s.heap.objs.size,KC 0,.none,.none] }) rfl;rw[hz] at q;exact q
  exact⟨⟨_,d,rfl⟩,h _ d (kJ (Ia _ (Im _ rfl))) (by rw[Jn,hz]) λc o x=>Ia _ (Ia _ x)⟩
end
section
def Ek(K:cc)(b:Bool)(ta:TA):TI:=λσ H R=>ta σ H λvs H1=>∃a xs,vs=[.ref a]/\SqB K H1 b a xs/\R (Ite K b a) H1
theorem AR(b:Bool)(n:Gl X "enumerate")(o:X.mg "enumerate" = none)(g:J6 "enumerate" = some (.type "enumerate"))(r:PA X [a] ta)(t:j1 [a] X.env=[(false,eval a X.env)]:=by rfl) :
  PI X (.Tuple es m f) (.Call (.Name "enumerate" p) [a] [] pos) (Ek X.K b ta):=by
 intro pins s σ H R I h;refine Call_ (gP I n o g (lp (thn (r pos pins s σ H _ I h) λus s1 i=>?_) t rfl));obtain⟨vs,H1,d,v,w⟩:=i;obtain⟨l,xs,rfl,x,q⟩:=w;obtain⟨u,rfl,y⟩:=iD v;cases (show u=eE l from y);obtain⟨z,C,A⟩:=d.seq x;refine vB A λh' k j hz hk=>wpAny_pyIter_enum k ?_;have B:Inv X pins σ H1 { s1 with heap:=h' }:=d.kept (t':=s1.toks) hk;refine⟨s1.heap.objs.size+1,[s1.heap.objs.size+1,s1.heap.objs.size],_,_,H1,rfl,B,tF b l s1.heap.objs.size (s1.heap.objs.size+1) (Jw (JH _)),⟨⟨_,k⟩,j⟩,λc hc=>?_,q⟩;rcases Ic.mp hc with rfl|hc
 ·exact d.fpOk (JD _) (d.hok.fresh (JD _))
 ·have e:c=s1.heap.objs.size:=by simpa using hc
  rw[e];exact d.fpOk (Ih _) (d.hok.fresh (Ih _))
end
abbrev zH1(h:bb)(b:Bool)(l1:al):bb:=h.push (jp b l1)
abbrev zH2(h:bb)(b c:Bool)(l1 l2:al):bb:=(zH1 h b l1).push (jp c l2)
abbrev zH3(h:bb)(b c:Bool)(l1 l2:al):bb:=(zH2 h b c l1 l2).push { cls:=.type "tuple",data:=.seq #[.ref h.objs.size,.ref (zH1 h b l1).objs.size] }
abbrev zH4(h:bb)(b c:Bool)(l1 l2:al):bb:=(zH3 h b c l1 l2).push { cls:=.type "tuple",data:=.seq #[.none,.none] }
abbrev zH5(h:bb)(b c:Bool)(l1 l2:al):bb:=(zH4 h b c l1 l2).push { cls:=.type "zip",data:=.fields #[.none,.bool false,.bool false,.ref (zH2 h b c l1 l2).objs.size,.ref (zH3 h b c l1 l2).objs.size] }
theorem wO(b c:Bool)(l1 l2:al)(xs ys:Array ap) :
  Meets (Builtin.«zip.__new__» ⟨[.type "zip",.ref l1,.ref l2],[]⟩) (λ_ R s=>cW b s.heap l1 xs/\cW c s.heap l2 ys/\R (.ok (.ret (.ref (zH4 s.heap b c l1 l2).objs.size))) { s with heap:=zH5 s.heap b c l1 l2 }) :=
 .of_wp λprog w A R s h=>by
  obtain⟨k,g,d,tk,os⟩:=s;obtain⟨a,f,h⟩:=h;have l:=sub_zip;have i:cW b (Shared.heap ⟨k,g,d,tk,os⟩) l1 xs:=a;have j:cW c (Shared.heap ⟨k.push (jp b l1),g,d,tk,os⟩) l2 ys:=cW.at f λo e=>Ia _ e
  wp_walk using fV i,fV j
  exact⟨_,rfl,h⟩
section
variable {s:av}
theorem wQ(a:cW b s.heap l1 xs)(d:cW c s.heap l2 ys)
  (h : ∀h',K3 h' (s.heap.objs.size+4) (s.heap.objs.size+2) (s.heap.objs.size+3) .none->Kq h' (s.heap.objs.size+2) (.ref s.heap.objs.size) (.ref (s.heap.objs.size+1))->Kq h' (s.heap.objs.size+3) .none .none ->
   cG b h' s.heap.objs.size l1 0->cG c h' (s.heap.objs.size+1) l2 0->(∀c o,s.heap.get? c=some o->h'.get? c=some o)->Q (.ref (s.heap.objs.size+4)) { s with heap:=h' }) :
  j4 (kf prog w) A (call (.type "zip") [.ref l1,.ref l2]) Q E s:=by
 refine callType_new F.called_zip (by decide) (F.typeCall_zip_2 _ _) (F.newCall_zip_2 _ _) (λobj=>F.args_object_init_3 obj _ _) F.entry_zip_new (wO b c l1 l2 xs ys) ⟨a,d,?_⟩;have e:(zH1 s.heap b l1).objs.size=s.heap.objs.size+1:=Jn ..;have z2:(zH2 s.heap b c l1 l2).objs.size=s.heap.objs.size+2:=by rw[Jn,e]
 have f:(zH3 s.heap b c l1 l2).objs.size=s.heap.objs.size+3:=by rw[Jn,z2]
 have i:(zH4 s.heap b c l1 l2).objs.size=s.heap.objs.size+4:=by rw[Jn,f]
 have g:(zH5 s.heap b c l1 l2).get? (zH4 s.heap b c l1 l2).objs.size=some _:=Im _ rfl;have j:(zH5 s.heap b c l1 l2).get? (zH3 s.heap b c l1 l2).objs.size=some _:=Ia _ (Im _ rfl);have k:(zH5 s.heap b c l1 l2).get? (zH2 s.heap b c l1 l2).objs.size=some _:=Ia _ (Ia _ (Im _ rfl));have l:(zH5 s.heap b c l1 l2).get? (zH1 s.heap b l1).objs.size=some _:=Ia _ (Ia _ (Ia _ (Im _ rfl)));have m:(zH5 s.heap b c l1 l2).get? s.heap.objs.size=some _:=Ia _ (Ia _ (Ia _ (Ia _ (Im _ rfl))));show _/\_;rw[z2,f,i] at g;rw[e,z2] at k;rw[f] at j;rw[e] at l;rw[i];exact⟨⟨_,g,rfl⟩,h _ g k j (kJ m) (kJ l) λc o x=>Ia _ (Ia _ (Ia _ (Ia _ (Ia _ x))))⟩
abbrev Cj(z TO i1 i2:al)(h h':bb):Prop:=∀c o,c≠z->c≠TO->c≠i1->c≠i2->h.get? c=some o->h'.get? c=some o
theorem wP{b c:Bool}{z TI TO i1 i2 l1 l2:al}{k:Nat}{xs ys:Array ap}{x y p q:ap}{Q:Option ap->av->Prop}(D:ZipApart z TI TO i1 i2 l1 l2)
  (hz:K3 s.heap z TI TO .none) (n:Kq s.heap TI (.ref i1) (.ref i2)) (r:Kq s.heap TO p q) (h1:cG b s.heap i1 l1 k) (h2:cG c s.heap i2 l2 k) (t:cW b s.heap l1 xs) (u:cW c s.heap l2 ys) (hx:xs[k]? = some x) (O:ys[k]? = some y)
  (P:∀h',K3 h' z TI TO (KC s.heap.objs.size)->Kq h' TO x y->cG b h' i1 l1 (k+1)->cG c h' i2 l2 (k+1)->Kq h' s.heap.objs.size x y->Cj z TO i1 i2 s.heap h'->Q (some (.ref s.heap.objs.size)) { s with heap:=h' }) :
  j4 (kf prog w) A (Qb (.ref z)) Q E s:=by
 have J:s.TypeIs (.ref z) "zip" := ⟨_,hz,rfl⟩
 unfold Qb;refine jj (Qy (z5 (name:=lc "__next__") J F.slot_zip_next (zv F.slot_zip_next J F.entry_zip_next ?_ (F.args_zip_next_1 _))));show j4 _ _ (QF (.ref z) 2 >>= _) _ _ _;refine jj (zh hz rfl (x:=.bool false) rfl ?_);show j4 _ _ (QF (.ref z) 3 >>= _) _ _ _;refine jj (zh hz rfl (x:=.ref TI) rfl (jj (zg n rfl ?_)));show j4 _ _ (h5 (.ref z) >>= _) _ _ _;refine jj ?_;unfold h5;refine jj (zh hz rfl (x:=.none) rfl (j0 ?_));simp only[if_true];refine jj (Kk (jj (zh hz rfl (x:=.ref TO) rfl (jj (J8 hz (by simp) λR d f=>?_)))));replace d:K3 R z TI TO .ellipsis:=d;refine jj ?_;simp only[Mg,Mn,J0,JW];refine jj (jj (K6 ?_));show j4 _ _ (eH (.ref i1) >>= _) _ _ _;refine jj (ik (h1.at λo e=>f.extBut _ o D.i1z e) (t.at λo e=>f.extBut _ o D.l1z e) hx λS v g=>j0 ?_);have tb:Kq S TO p q:=g.extBut _ _ D.TOi1 (f.extBut _ _ D.TOz r);refine jj (zg tb rfl (jj (K0 tb λhc tc sc=>?_)));replace tc:Kq hc TO x q:=tc;refine jj (Km (j0 ?_));refine jj (jj (K6 ?_));show j4 _ _ (eH (.ref i2) >>= _) _ _ _;refine jj (ik (h2.at λo e=>sc.extBut _ o D.TOi2.symm (g.extBut _ o D.i12.symm (f.extBut _ o D.i2z e))) (u.at λo e=>sc.extBut _ o D.l2TO (g.extBut _ o D.l2i1 (f.extBut _ o D.l2z e))) O λhd B h=>j0 ?_);have K:Kq hd TO x q:=h.extBut _ _ D.TOi2 tc;refine jj (zg K rfl (jj (K0 K λa te i=>?_)));replace te:Kq a TO x y:=te;refine jj (Km (j0 (j0 ?_)));refine jj (zg te rfl (jj (Qp ?_)));have sz:a.objs.size=s.heap.objs.size:=by rw[i.1,h.1,sc.1,g.1,f.1]
 have L:K3 a z TI TO .ellipsis:=i.extBut _ _ D.TOz.symm (h.extBut _ _ D.i2z.symm (sc.extBut _ _ D.TOz.symm (g.extBut _ _ D.i1z.symm d)));have T:Cj z TO i1 i2 s.heap a:=λc o c1 c2 c3 C e=>i.extBut _ _ c2 (h.extBut _ _ C (sc.extBut _ _ c2 (g.extBut _ _ c3 (f.extBut _ _ c1 e))));have G:cG b a i1 l1 (k+1):=v.at λo e=>i.extBut _ o D.TOi1.symm (h.extBut _ o D.i12 (sc.extBut _ o D.TOi1.symm e));have H:cG c a i2 l2 (k+1):=B.at λo e=>i.extBut _ o D.TOi2.symm e;have j:z<a.objs.size:=Ij L;show j4 _ _ (pk (.ref z) (.ref a.objs.size) >>= _) _ _ _;refine jj ?_;unfold pk;have U:K3 (a.push { cls:=.type "tuple",data:=.seq #[x,y] }) z TI TO .ellipsis:=Ia _ L;refine jj (J8 U (by simp) λV I M=>?_);replace I:K3 V z TI TO (KC a.objs.size):=I;refine J8 I (by simp) λl m N=>?_;replace m:K3 l z TI TO (KC a.objs.size):=m;have up:∀c o,c≠z->a.get? c=some o->l.get? c=some o:=λc o c1 e=>N.extBut _ _ c1 (M.extBut _ _ c1 (Ia _ e));have th:Kq l a.objs.size x y:=N.extBut _ _ (Jw j) (M.extBut _ _ (Jw j) (Im _ rfl));rw[sz] at m th;refine j0 ⟨_,rfl,j0 ?_⟩;show Q (some (.ref a.objs.size)) _;rw[sz];exact P l m (up _ _ D.TOz te) (G.at λo e=>up _ o D.i1z e) (H.at λo e=>up _ o D.i2z e) th λc o c1 c2 c3 C e=>up c o c1 (T c o c1 c2 c3 C e)
theorem Ae{b c:Bool}{z TI TO i1 i2 l1 l2:al}{k:Nat}{xs ys:Array ap}{p q:ap}{Q:Option ap->av->Prop}(C:A.handled=none)(D:ZipApart z TI TO i1 i2 l1 l2)
  (hz:K3 s.heap z TI TO .none) (m:Kq s.heap TI (.ref i1) (.ref i2)) (n:Kq s.heap TO p q) (h1:cG b s.heap i1 l1 k) (h2:cG c s.heap i2 l2 k) (j:cW b s.heap l1 xs) (r:cW c s.heap l2 ys) (l:xs[k]? = none\/ys[k]? = none)
  (G:∀h',Cj z TO i1 i2 s.heap h'->Q none { s with heap:=h' }):j4 (kf prog w) A (Qb (.ref z)) Q E s:=by
 have H:s.TypeIs (.ref z) "zip" := ⟨_,hz,rfl⟩
 unfold Qb;refine jj (Qy (z5 (name:=lc "__next__") H F.slot_zip_next (zv F.slot_zip_next H F.entry_zip_next ?_ (F.args_zip_next_1 _))));show j4 _ _ (QF (.ref z) 2 >>= _) _ _ _;refine jj (zh hz rfl (x:=.bool false) rfl ?_);show j4 _ _ (QF (.ref z) 3 >>= _) _ _ _;refine jj (zh hz rfl (x:=.ref TI) rfl (jj (zg m rfl ?_)));show j4 _ _ (h5 (.ref z) >>= _) _ _ _;refine jj ?_;unfold h5;refine jj (zh hz rfl (x:=.none) rfl (j0 ?_));simp only[if_true];refine jj (Kk (jj (zh hz rfl (x:=.ref TO) rfl (jj (J8 hz (by simp) λM f g=>?_)))));replace f:K3 M z TI TO .ellipsis:=f;refine jj ?_;simp only[Mg,Mn,J0,JW];refine jj (jj (K6 ?_));show j4 _ _ (eH (.ref i1) >>= _) _ _ _;cases hx:xs[k]? with
 | none =>
  refine jj (fB C (h1.at λo e=>g.extBut _ o D.i1z e) (j.at λo e=>g.extBut _ o D.l1z e) hx λt e i u=>?_);obtain⟨v,a,d⟩:=u;have I:K3 t z TI TO .ellipsis:=i _ _ D.i1z.symm f;have y:e≠z:=λw'=>by subst w';rw[I] at a;cases a;simp at d
  exact J8 I (by simp) λhc _ sc=>jj (Kr (T := "StopIteration") (b:=true) ⟨v,sc.extBut _ _ y a,d⟩ isSubtype_stop (j0 (G hc λc o c1 _ c3 _ x=>sc.extBut _ _ c1 (i _ _ c3 (g.extBut _ _ c1 x)))))
 | some x =>
  have N:ys[k]? = none:=by
   rcases l with h|h
   ·rw[hx] at h;cases h
   ·exact h
  refine jj (ik (h1.at λo e=>g.extBut _ o D.i1z e) (j.at λo e=>g.extBut _ o D.l1z e) hx λt O i=>j0 ?_);have tb:Kq t TO p q:=i.extBut _ _ D.TOi1 (g.extBut _ _ D.TOz n);refine jj (zg tb rfl (jj (K0 tb λhc tc sc=>?_)));refine jj (Km (j0 ?_));refine jj (jj (K6 ?_));show j4 _ _ (eH (.ref i2) >>= _) _ _ _;refine jj (fB C (h2.at λo e=>sc.extBut _ o D.TOi2.symm (i.extBut _ o D.i12.symm (g.extBut _ o D.i2z e))) (r.at λo e=>sc.extBut _ o D.l2TO (i.extBut _ o D.l2i1 (g.extBut _ o D.l2z e))) N λhd e J B=>?_);obtain⟨v,a,d⟩:=B;have K:K3 hd z TI TO .ellipsis:=J _ _ D.i2z.symm (sc.extBut _ _ D.TOz.symm (i.extBut _ _ D.i1z.symm f));have y:e≠z:=λw'=>by subst w';rw[K] at a;cases a;simp at d
  exact J8 K (by simp) λP _ L=>jj (Kr (T := "StopIteration") (b:=true) ⟨v,L.extBut _ _ y a,d⟩ isSubtype_stop (j0 (G P λc o c1 c2 c3 R x=>L.extBut _ _ c1 (J _ _ R (sc.extBut _ _ c2 (i.extBut _ _ c3 (g.extBut _ _ c1 x)))))))
end
theorem bi{X:Cx}{pins:List (al×Obj)}{σ:St}{H:Hp}{s:av}{b:Bool}{a c:al}{xs:List V}(I:Inv X pins σ H s)(h:SqB X.K H b a xs)(f:iz X pins H c):a≠c:=by
 obtain⟨g,i,j,d,k,l⟩:=f;have key:(∃o,H a=some o)\/∃o,X.K.lookup a=some o:=by
  cases b with
  | false =>
   rcases h with (h|⟨o,h⟩)|⟨o,_,_,hk,_⟩
   ·exact .inl ⟨_,h⟩
   ·exact .inl ⟨_,h⟩
   ·exact .inr ⟨o,hk⟩
  | true =>
   rcases h with (h|⟨o,h⟩)|⟨o,_,_,hk,_⟩
   ·exact .inl ⟨_,h⟩
   ·exact .inl ⟨_,h⟩
   ·exact .inr ⟨o,hk⟩
 rintro rfl;rcases key with⟨o,e⟩|⟨o,e⟩
 ·rw[g] at e;cases e
 ·have q:=I.ok.mod.kin a o e;rcases d with d|d
  ·exact I.ok.noex a o q d
  ·exact absurd (Ik (Ij q) (Ie I.ok.bsz d)) (Ji _)
def Itz(K:cc)(b c:Bool)(l1 l2:al):It :=
  ⟨λi H=>∃xs ys x y,SqB K H b l1 xs/\SqB K H c l2 ys/\xs[i]? = some x/\ys[i]? = some y,
   λi H v H'=>∃p x y,v=.ref p/\H p=none/\H'=upd H p (.tup [x,y])/\(∀xs,SqB K H b l1 xs->xs[i]? = some x)/\∀ys,SqB K H c l2 ys->ys[i]? = some y,
   λi H=>∃xs ys,SqB K H b l1 xs/\SqB K H c l2 ys/\(xs.length<=i\/ys.length<=i)⟩
structure ZAp(z TI TO i1 i2:al):Prop where
 TIz:TI≠z
 TOz:TO≠z
 i1z:i1≠z
 i2z:i2≠z
 TITO:TI≠TO
 TIi1:TI≠i1
 TIi2:TI≠i2
 TOi1:TO≠i1
 TOi2:TO≠i2
 i12:i1≠i2
theorem wX{P:kq}{w:k0}{K:cc}{es:List ba}{kk:Nat}{pos:Pos}(b c:Bool)(z TI TO i1 i2 l1 l2:al)(a:ZAp z TI TO i1 i2) :
  Ck P w K (.Tuple es kk pos) (Itz K b c l1 l2) [z,TI,TO,i1,i2] z
   (λi h=>K3 h z TI TO .none/\Kq h TI (.ref i1) (.ref i2)/\(∃p q,Kq h TO p q)/\cG b h i1 l1 i/\cG c h i2 l2 i) where
 mem:=by simp
 obj := λi h st d hd=>by
  obtain⟨hz,l,⟨p,q,m⟩,h1,h2⟩:=st;obtain⟨Y,e1,d1⟩:=h1.obj;obtain⟨Z,e2,d2⟩:=h2.obj;simp only[Ic,IJ,or_false] at hd;rcases hd with rfl|rfl|rfl|rfl|rfl
  ·exact⟨_,hz,λv e=>by
    have e':Data.fields _=Data.cell v:=e;cases e'⟩
  ·exact⟨_,l,λv e=>by
    have e':Data.seq _ _=Data.cell v:=e;cases e'⟩
  ·exact⟨_,m,λv e=>by
    have e':Data.seq _ _=Data.cell v:=e;cases e'⟩
  ·exact⟨Y,e1,λv e=>by rw[d1] at e;cases e⟩
  ·exact⟨Z,e2,λv e=>by rw[d2] at e;cases e⟩
 keep:=λi h h' st k=>by
  obtain⟨hz,l,⟨p,q,m⟩,h1,h2⟩:=st;exact⟨k z (by simp) _ hz,k TI (by simp) _ l,⟨p,q,k TO (by simp) _ m⟩,h1.at λo e=>k i1 (by simp) o e,h2.at λo e=>k i2 (by simp) o e⟩
 item := by
  intro X R hw hK hc i pins s σ H E I j st S;subst R hw hK;obtain⟨xs,ys,x,y,f,g,hx,hy⟩:=S;obtain⟨hz,l,⟨p,q,m⟩,h1,h2⟩:=st;obtain⟨r,B,C⟩:=I.seq f;obtain⟨t,F,G⟩:=I.seq g;obtain⟨u,hu,ru⟩:=B.get hx;obtain⟨v,hv,rv⟩:=F.get hy;have D:ZipApart z TI TO i1 i2 l1 l2:=⟨a.TIz,a.TOz,a.i1z,a.i2z,a.TITO,a.TIi1,a.TIi2,a.TOi1,a.TOi2,a.i12,
   bi I f (j z (by simp)),bi I f (j TO (by simp)),bi I f (j i1 (by simp)),bi I f (j i2 (by simp)),bi I g (j z (by simp)),bi I g (j TO (by simp)),bi I g (j i1 (by simp)),bi I g (j i2 (by simp))⟩
  refine wP D hz l m h1 h2 C G (x:=u) (y:=v) (by simpa using hu) (by simpa using hv) λh' a1 a2 a3 a4 a5 hk=>⟨_,rfl,wpAny_letOwnedTupleGo_zip a1 λM U n=>?_⟩
  have N:z<s.heap.objs.size:=Ij hz;have I2:Inv X pins σ H { s with heap:=M }:=I.turnedN (t':=s.toks) j λd o hd e=>n.extBut d o (λw'=>hd (by simp[w'])) (hk d o (λw'=>hd (by simp[w'])) (λw'=>hd (by simp[w'])) (λw'=>hd (by simp[w'])) (λw'=>hd (by simp[w'])) e);have g2:M.get? s.heap.objs.size=some { cls:=.type "tuple",data:=.seq #[u,v] }:=n.extBut _ _ (Jw N) a5;have hn:H s.heap.objs.size=none:=I.hok.fresh (Ih _);refine⟨.ref s.heap.objs.size,upd H s.heap.objs.size (.tup [x,y]),I2.track (T:=s.heap.objs.size) (o:=.tup [x,y]) (I.fpOk (Ih _) hn) ?_,rfl,?_,⟨U,?_,⟨u,v,?_⟩,?_,?_⟩,λd hd=>?_⟩
  ·exact⟨by show 2<=sizeLine;decide,[u,v],.cons ru (.cons rv .nil),_,g2,rfl,⟨_,rfl⟩,rfl⟩
  ·exact⟨_,x,y,rfl,hn,rfl,λzs J=>by rw[I.seq_inj J f];exact hx,λzs J=>by rw[I.seq_inj J g];exact hy⟩
  ·exact n.extBut _ _ a.TIz (hk _ _ a.TIz a.TITO a.TIi1 a.TIi2 l)
  ·exact n.extBut _ _ a.TOz a2
  ·exact a3.at λo e=>n.extBut _ o a.i1z e
  ·exact a4.at λo e=>n.extBut _ o a.i2z e
  ·have V:d<s.heap.objs.size:=by
    obtain⟨Y,e1,_⟩:=h1.obj;obtain⟨Z,e2,_⟩:=h2.obj;simp only[Ic,IJ,or_false] at hd;rcases hd with rfl|rfl|rfl|rfl|rfl
    ·exact N
    ·exact Ij l
    ·exact Ij m
    ·exact Ij e1
    ·exact Ij e2
   rw[am (IF V)];exact(j d hd).1
 done:=by
  intro X R hw hK hc i pins s σ H E I j st S;subst R hw hK;obtain⟨xs,ys,f,g,O⟩:=S;obtain⟨hz,l,⟨p,q,m⟩,h1,h2⟩:=st;obtain⟨r,B,C⟩:=I.seq f;obtain⟨t,F,G⟩:=I.seq g;have D:ZipApart z TI TO i1 i2 l1 l2:=⟨a.TIz,a.TOz,a.i1z,a.i2z,a.TITO,a.TIi1,a.TIi2,a.TOi1,a.TOi2,a.i12,
   bi I f (j z (by simp)),bi I f (j TO (by simp)),bi I f (j i1 (by simp)),bi I f (j i2 (by simp)),bi I g (j z (by simp)),bi I g (j TO (by simp)),bi I g (j i1 (by simp)),bi I g (j i2 (by simp))⟩
  have a0:=B.length;have a6:=F.length;have L:r.toArray[i]? = none\/t.toArray[i]? = none:=by
   rcases O with h|h
   ·exact .inl (by simp;omega)
   ·exact .inr (by simp;omega)
  refine Ae (I.ok.hd hc) D hz l m h1 h2 C G L λh' hk=>⟨rfl,?_⟩
  exact I.turnedN (t':=s.toks) j λd o hd e=>hk d o (λw'=>hd (by simp[w'])) (λw'=>hd (by simp[w'])) (λw'=>hd (by simp[w'])) (λw'=>hd (by simp[w'])) e
 self:=λA i s Q E st h=>wpAny_pyIter_zip st.1 h
section
def Ha(K:cc)(b c:Bool)(ta:TA):TI:=λσ H R=>ta σ H λvs H1=>∃l1 l2 xs ys,vs=[.ref l1,.ref l2]/\SqB K H1 b l1 xs/\SqB K H1 c l2 ys/\R (Itz K b c l1 l2) H1
theorem Dz(b c:Bool){es:List ba}{y:Nat}{a:Pos}{e1 e2:ba}{ta:TA}{p pos:Pos}(A:Gl X "zip")(B:X.mg "zip" = none)(i:J6 "zip" = some (.type "zip"))(C:PA X [e1,e2] ta)
  (D:j1 [e1,e2] X.env=[(false,eval e1 X.env),(false,eval e2 X.env)]:=by rfl) (e:j1 [e2] X.env=[(false,eval e2 X.env)]:=by rfl) :
  PI X (.Tuple es y a) (.Call (.Name "zip" p) [e1,e2] [] pos) (Ha X.K b c ta):=by
 intro pins s σ H R I h;refine Call_ (gP I A B i (lp (thn (C pos pins s σ H _ I h) λus s1 j=>?_) (by rw[D,e]) (by rw[e];rfl)));obtain⟨vs,H1,f,E,F⟩:=j;obtain⟨l1,l2,xs,ys,rfl,k,l,q⟩:=F;obtain⟨u,v,rfl,G,J⟩:=tD E;cases (show u=eE l1 from G);cases (show v=eE l2 from J);obtain⟨w,L,m⟩:=f.seq k;obtain⟨x,M,o⟩:=f.seq l;refine wQ m o λh' hz r t h1 h2 hk=>wpAny_pyIter_zip hz ?_;have N:Inv X pins σ H1 { s1 with heap:=h' }:=f.kept (t':=s1.toks) hk;have O:ZAp (s1.heap.objs.size+4) (s1.heap.objs.size+2) (s1.heap.objs.size+3) s1.heap.objs.size (s1.heap.objs.size+1):=by refine⟨?_,?_,?_,?_,?_,?_,?_,?_,?_,?_⟩ <;> (intro z;exact absurd (congrArg (λ(n:Nat)=>n - s1.heap.objs.size) z) (by simp))
 refine⟨s1.heap.objs.size+4,[s1.heap.objs.size+4,s1.heap.objs.size+2,s1.heap.objs.size+3,s1.heap.objs.size,s1.heap.objs.size+1],_,_,H1,rfl,N,wX b c _ _ _ _ _ l1 l2 O,⟨hz,r,⟨_,_,t⟩,h1,h2⟩,λd hd=>?_,q⟩;have g:s1.heap.objs.size<=d:=by
  simp only[Ic,IJ,or_false] at hd;rcases hd with rfl|rfl|rfl|rfl|rfl
  ·exact Jz _ _
  ·exact Jz _ _
  ·exact Jz _ _
  ·exact Ih _
  ·exact Jz _ _
 exact f.fpOk g (f.hok.fresh g)
end
def SnL(K:cc)(N:al->Prop)(H:Hp)(a:al)(xs:List V):Prop :=
 (Rd H a (.lst xs)/\¬N a)\/∃(o:Obj) (b:Array ap) (n:Nat),K.lookup a=some o/\o.cls=.type "list" /\ o.dict=none/\o.data=.seq b n/\b.size<=sizeLine/\bf xs b.toList
def SnT(K:cc)(N:al->Prop)(H:Hp)(a:al)(xs:List V):Prop :=
 (Rd H a (.tup xs)/\¬N a)\/∃(o:Obj) (b:Array ap) (n:Nat),K.lookup a=some o/\(o.cls=.type "tuple" /\ o.dict=none)/\o.data=.seq b n/\b.size<=sizeLine/\bf xs b.toList
def aN(N:al->Prop)(H H':Hp):Prop:=∀b o,¬N b->H b=some o->H' b=some o
theorem aN.refl:aN N H H:=λ_ _ _ e=>e
theorem aN.trans(a:aN N H H1)(b:aN N H1 d):aN N H d:=λc o n e=>b c o n (a c o n e)
theorem aN.own(h:N p):aN N H (upd H p o):=λb u n e=>by
 have q:b≠p:=λz=>n (by rw[z];exact h);rw[am q];exact e
theorem aN.mono(a:aN N H H')(h:∀b,N b->M b):aN M H H':=λb o n e=>a b o (λz=>n (h b z)) e
theorem aN.same(a:aD H H'):aN N H H':=λb o _ e=>a b o e
abbrev N0:al->Prop:=λ_=>False
abbrev N1(d:al):al->Prop:=λb=>b=d
theorem aN.none(a:aN N0 H H'):aD H H':=λb o e=>a b o (λz=>z) e
section
variable {K:cc}{N M:al->Prop}{H H':Hp}{a:al}{xs:List V}
theorem SnL.of(h:H a=some (.lst xs))(n:¬N a):SnL K N H a xs:=.inl ⟨.inl h,n⟩
theorem SnT.of(h:H a=some (.tup xs))(n:¬N a):SnT K N H a xs:=.inl ⟨.inl h,n⟩
theorem SnL.sq(h:SnL K N H a xs):SqL K H a xs:=by
 rcases h with⟨h,_⟩|h
 ·exact .inl h
 ·exact .inr h
theorem SnT.sq(h:SnT K N H a xs):SqT K H a xs:=by
 rcases h with⟨h,_⟩|h
 ·exact .inl h
 ·exact .inr h
theorem SnL.keep(h:SnL K N H a xs)(k:aN N H H'):SnL K N H' a xs:=by
 rcases h with⟨h|⟨o,h⟩,n⟩|h
 ·exact .inl ⟨.inl (k _ _ n h),n⟩
 ·exact .inl ⟨.inr ⟨o,k _ _ n h⟩,n⟩
 ·exact .inr h
theorem SnT.keep(h:SnT K N H a xs)(k:aN N H H'):SnT K N H' a xs:=by
 rcases h with⟨h|⟨o,h⟩,n⟩|h
 ·exact .inl ⟨.inl (k _ _ n h),n⟩
 ·exact .inl ⟨.inr ⟨o,k _ _ n h⟩,n⟩
 ·exact .inr h
theorem SnL.to(h:SnL K N H a xs)(m:∀b o,H b=some o->M b->N b):SnL K M H a xs:=by
 rcases h with⟨h|⟨o,h⟩,n⟩|h
 ·exact .inl ⟨.inl h,λz=>n (m _ _ h z)⟩
 ·exact .inl ⟨.inr ⟨o,h⟩,λz=>n (m _ _ h z)⟩
 ·exact .inr h
theorem SnT.to(h:SnT K N H a xs)(m:∀b o,H b=some o->M b->N b):SnT K M H a xs:=by
 rcases h with⟨h|⟨o,h⟩,n⟩|h
 ·exact .inl ⟨.inl h,λz=>n (m _ _ h z)⟩
 ·exact .inl ⟨.inr ⟨o,h⟩,λz=>n (m _ _ h z)⟩
 ·exact .inr h
end
mutual
inductive DN (K:cc) (N:al->Prop) (H:Hp):V->ab->Prop
 | non:DN K N H .non .none
 | bl (b:Bool):DN K N H (.bl b) (.bool b)
 | int (i:Int):DN K N H (.int i) (.int i)
 | lst {a:al}{xs:List V}{ds:List ab}:SnL K N H a xs->DNs K N H xs ds->DN K N H (.ref a) (.list ds)
 | tup {a:al}{xs:List V}{ds:List ab}:SnT K N H a xs->DNs K N H xs ds->DN K N H (.ref a) (.tuple ds)
 | dct {a:al}{es:List (a8×al×V)}{kvs:List (a8×ab)}:¬N a->H a=some (.ext (cr a es))->DNs K N H (es.map λp=>V.ref p.2.1) (kvs.map λp=>dO p.1)->DNs K N H (es.map λp=>p.2.2) (kvs.map λp=>p.2)->es.map (λp=>p.1)=kvs.map (λp=>p.1)->DN K N H (.ref a) (fb kvs)
 | fz {v:V}{ds:List ab}:DN K N H v (.list ds)->DN K N H v (fzD ds)
inductive DNs (K:cc) (N:al->Prop) (H:Hp):List V->List ab->Prop
 | nil:DNs K N H [] []
 | cons {x:V}{xs:List V}{d:ab}{ds:List ab}:DN K N H x d->DNs K N H xs ds->DNs K N H (x::xs) (d::ds)
end
section
variable {K:cc}{N M:al->Prop}{H H':Hp}
theorem DN.dv(h:DN K N H v d):DV K H v d :=
 DN.rec (motive_1:=λv d _=>DV K H v d) (motive_2:=λv d _=>DVs K H v d)
 .non (λb=>.bl b) (λi=>.int i)
 (λh _ q=>.lst h.sq q) (λh _ q=>.tup h.sq q)
 (λ_ h _ _ e q r=>.dct h q r e) (λ_ h=>.fz h) .nil (λ_ _ h q=>.cons h q) h
theorem DNs.dv(h:DNs K N H v d):DVs K H v d :=
 DNs.rec (motive_1:=λv d _=>DV K H v d) (motive_2:=λv d _=>DVs K H v d)
 .non (λb=>.bl b) (λi=>.int i)
 (λh _ q=>.lst h.sq q) (λh _ q=>.tup h.sq q)
 (λ_ h _ _ e q r=>.dct h q r e) (λ_ h=>.fz h) .nil (λ_ _ h q=>.cons h q) h
theorem DN.keep(k:aN N H H')(h:DN K N H v d):DN K N H' v d :=
 DN.rec (motive_1:=λv d _=>DN K N H' v d) (motive_2:=λv d _=>DNs K N H' v d)
 .non (λb=>.bl b) (λi=>.int i)
 (λh _ q=>.lst (h.keep k) q) (λh _ q=>.tup (h.keep k) q)
 (λn h _ _ e q r=>.dct n (k _ _ n h) q r e) (λ_ h=>.fz h) .nil (λ_ _ h q=>.cons h q) h
theorem DNs.keep(k:aN N H H')(h:DNs K N H v d):DNs K N H' v d :=
 DNs.rec (motive_1:=λv d _=>DN K N H' v d) (motive_2:=λv d _=>DNs K N H' v d)
 .non (λb=>.bl b) (λi=>.int i)
 (λh _ q=>.lst (h.keep k) q) (λh _ q=>.tup (h.keep k) q)
 (λn h _ _ e q r=>.dct n (k _ _ n h) q r e) (λ_ h=>.fz h) .nil (λ_ _ h q=>.cons h q) h
theorem DN.to(m:∀b o,H b=some o->M b->N b)(h:DN K N H v d):DN K M H v d :=
 DN.rec (motive_1:=λv d _=>DN K M H v d) (motive_2:=λv d _=>DNs K M H v d)
 .non (λb=>.bl b) (λi=>.int i)
 (λh _ q=>.lst (h.to m) q) (λh _ q=>.tup (h.to m) q)
 (λn h _ _ e q r=>.dct (λz=>n (m _ _ h z)) h q r e) (λ_ h=>.fz h) .nil (λ_ _ h q=>.cons h q) h
theorem DNs.to(m:∀b o,H b=some o->M b->N b)(h:DNs K N H v d):DNs K M H v d :=
 DNs.rec (motive_1:=λv d _=>DN K M H v d) (motive_2:=λv d _=>DNs K M H v d)
 .non (λb=>.bl b) (λi=>.int i)
 (λh _ q=>.lst (h.to m) q) (λh _ q=>.tup (h.to m) q)
 (λn h _ _ e q r=>.dct (λz=>n (m _ _ h z)) h q r e) (λ_ h=>.fz h) .nil (λ_ _ h q=>.cons h q) h
theorem DNs.ind{C:List V->List ab->Prop}(n:C [] [])(c:∀{x:V}{xs:List V}{d:ab}{ds:List ab},DN K N H x d->DNs K N H xs ds->C xs ds->C (x::xs) (d::ds)){v:List V}{d:List ab}(h:DNs K N H v d):C v d :=
 DNs.rec (motive_1:=λ_ _ _=>True) (motive_2:=λv d _=>C v d) trivial (λ_=>trivial) (λ_=>trivial)
 (λ_ _ _=>trivial) (λ_ _ _=>trivial)
 (λ_ _ _ _ _ _ _=>trivial) (λ_ _=>trivial) n (λh q _ i=>c h q i) h
theorem DNs.len(h:DNs K N H v d):v.length=d.length:=DNs.ind (C:=λv d=>v.length=d.length) rfl (λ_ _ i=>by rw[IL,IL,i]) h
theorem DNs.get:∀{v:List V}{d:List ab}{i:Nat}{x:V},DNs K N H v d->v[i]? = some x->∃e,d[i]? = some e/\DN K N H x e
 | _,_,_,_,.nil,e=>by simp at e
 | _,_,0,_,.cons h _,e=>by simp at e;subst e;exact⟨_,rfl,h⟩
 | _,_,i+1,_,.cons _ q,e=>by
  obtain⟨d,h1,h2⟩:=DNs.get (i:=i) q (by simpa using e);exact⟨d,by simpa using h1,h2⟩
theorem DNs.app(h:DNs K N H v d)(q:DNs K N H w e):DNs K N H (v++w) (d++e):=DNs.ind (C:=λv d=>DNs K N H (v++w) (d++e)) q (λh _ i=>.cons h i) h
abbrev pI(ns:List Int):ab:=.list (ns.map .int)
theorem kW:∀ns:List Int,DNs K N H (ns.map V.int) (ns.map .int)
 | []=>.nil
 | n::r=>.cons (.int n) (kW r)
theorem DNs.ints:∀{ns:List Int}{v:List V},DNs K N H v (ns.map .int)->v=ns.map V.int
 | [],_,.nil=>rfl
 | n::r,_,.cons h q=>by
  cases h;rw[q.ints];rfl
theorem DN.ofI(h:SnL K N H a (ns.map V.int)):DN K N H (.ref a) (pI ns):=.lst h (kW ns)
theorem DN.list(h:DN K N H v (.list ds)):∃a xs,v=.ref a/\SnL K N H a xs/\DNs K N H xs ds:=by cases h with|lst h q=>exact⟨_,_,rfl,h,q⟩
theorem DN.tuple(h:DN K N H v (.tuple ds)):∃a xs,v=.ref a/\SnT K N H a xs/\DNs K N H xs ds:=by cases h with|tup h q=>exact⟨_,_,rfl,h,q⟩
theorem DN.of2(s:SnT K N H a [x,y])(h1:DN K N H x d)(h2:DN K N H y e):DN K N H (.ref a) (.tuple [d,e]):=.tup s (.cons h1 (.cons h2 .nil))
end
theorem iZ:∀a b:List Int,pa (a.map .int) (b.map .int)=decide (a=b)
 | [],[]=>by simp[pa]
 | [],_::_=>by simp[pa]
 | _::_,[]=>by simp[pa]
 | x::a,y::b=>by
  rw[ID,ID,pa,iZ a b];simp only[hZ];by_cases h:x=y <;> by_cases h':a=b <;> simp[h,h']
theorem BA(a b:List Int):hZ (pI a) (pI b)=decide (a=b):=by show pa _ _=_;exact iZ a b
theorem kE(a:List Int):hL (a.map .int)=true:=PySem.W.ke_canLayAll0 a
theorem yv(a:List Int):mA (a.map .int)=0:=PySem.W.ke_depthAll a
theorem FE(a:List Int):shp (pI a):=by simp[shp,oo,gV,r4,kE,yv]
def Cal(P:kq)(w:k0)(K:cc)(mg:bt->Option ap)(base:bb)(x:bt)(k:Nat)(sp:Sp):Prop :=
 ∃(f:al) (fd:j3) (ps:List bt),cq P w K mg base CX0 k f fd ps sp/\bx K fd ps []/\nT K (.ref f)=true/\mg x=some (.ref f)
section
variable {X:Cx}{x:bt}{p pos:Pos}{e:ba}{es:List ba}{t:TA}{k:Nat}{sp:Sp}
theorem lS(C:Cal X.prog X.w X.K X.mg X.base x k sp)(c:dc k X.A)(d:Gl X x)(g:PA X (e::es) t)(hd:(x==("__debug__" : bt))=false:=by decide)
  (h:j1 (e::es) X.env=(false,eval e X.env)::j1 es X.env:=by rfl) (a:(qs pos (j1 es X.env)).any (·.1)=false:=by rfl):PE X (.Call (.Name x p) (e::es) [] pos) (nI sp [] E0 t):=by obtain⟨f,fd,ps,F,b,kp,m⟩:=C;exact AX F c d m kp b .nil FS g hd h a
end
def bOk(N:List bt)(sc0:J5)(N':List bt)(ix:List (Option Nat))(sc:J5):Bool :=
 decide (sc.kind=.function)&&decide ((sc.names.map (·.1)).Nodup)&&sc.names.all (λy=>!(y.2==.free) || decide (sc0.names.lookup y.1=some .cell) || decide (sc0.names.lookup y.1=some .free))&&decide (ix.length=N'.length) &&
 (ix.zip N').all λq=>match q.1 with
  | none=>true
  | some j=>decide (N[j]? = some q.2)&&decide (sc.names.lookup q.2=some .free)
theorem cU{X:Cx}(c:X.N=N)(d:X.env.scope=sc0)(h:bOk N sc0 N' ix sc=true):bO X.N X.env N' ix sc:=by
 rw[<-c] at h;unfold bOk at h;simp only[Iq,decide_eq_true_eq] at h;obtain⟨⟨⟨⟨h1,h2⟩,f⟩,g⟩,k⟩:=h;refine⟨h1,h2,λy l m=>?_,g,λi j a=>?_⟩
 ·have q:=Jh.mp f y l;rw[m] at q;have e:∀z,X.env.kindOf z=sc0.names.lookup z:=λz=>by
   show X.env.scope.names.lookup z=_;rw[d]
  rw[e];simpa using q
 ·have hi:i<ix.length:=(Ib.mp a).1;have b:i<N'.length:=by omega
  have n:(some j,N'[i])∈ix.zip N':=by rw[t7];refine⟨i,?_⟩;rw[JY];exact⟨a,HR b⟩
  have q:=Jh.mp k _ n;simp only[Iq,decide_eq_true_eq] at q;exact⟨N'[i],HR b,q.1,q.2⟩
structure Bn(mg:bt->Option ap):Prop where
 len:mg "len" = none
 range:mg "range" = none
 min:mg "min" = none
 max:mg "max" = none
 enumerate:mg "enumerate" = none
 zip:mg "zip" = none
 all:mg "all" = none
 any:mg "any" = none
 isinstance:mg "isinstance" = none
 bool:mg "bool" = none
 int:mg "int" = none
 list:mg "list" = none
 tuple:mg "tuple" = none
 sorted:mg "sorted" = none
 str:mg "str" = none
 sum:mg "sum" = none
 abs:mg "abs" = none
theorem uN:OpR X (ky .IsNot) (λx y H Q=>∃b c,x=.bl b/\y=.bl c/\Q (.bl (b != c)) H):=by intro pins s σ H x y v u Q I a d h;obtain⟨b,c,rfl,rfl,q⟩:=h;cases (show v=o3 b from a);cases (show u=o3 c from d);exact isnot_bool ⟨.bl _,H,I,rfl,q⟩
theorem aD.new(h:H p=none):aD H (upd H p o):=λb u e=>by rw[am (aB e h)];exact e
theorem Cal.mk{P:kq}{w:k0}{K:cc}{mg:bt->Option ap}{base:bb}{x:bt}{st:Stmt}{f:al}{fd:j3}{k:Nat}{ps:List bt}{sp:Sp}(F:Fun K x x st f fd)(m:mg x=some (.ref f))(b:bx K fd ps [])
  (G : cq P w K mg base CX0 k f fd ps sp):Cal P w K mg base x k sp:=⟨f,fd,ps,G,b,F.kp,m⟩
theorem ag:1000000<=sizeLine:=by decide
section
variable {X:Cx}{K:cc}(hK:X.K=K)
include hK
theorem fq:fg X (.builtin "len") (λxs H Q=>∃p ys,xs=[.ref p]/\(SqL K H p ys\/SqT K H p ys)/\Q (.int ys.length) H):=by subst hK;exact nc
theorem F1:SlR X (GX K):=by subst hK;exact Ar
theorem HA:SlR X (GW K):=by subst hK;exact CS
theorem F4:OpR X (Kb .Add) (CZ K):=by subst hK;exact A3
theorem Cs(a:X.A.units+64<J4):OpR X (ky .Eq) (FM K):=by subst hK;exact DQ a
theorem F2(a:X.A.units+64<J4):OpR X (ky .NotEq) (FJ K):=by subst hK;exact DM a
theorem Bp(a:X.A.units+80<J4):OpR X (ky .NotIn) (nX K):=by subst hK;exact uK a
theorem kIn:OpR X (ky .In) (rIn K false):=by subst hK;exact uO
theorem F5(hc:X.calm=true):fg X (.builtin "all") (λxs H Q=>∃(a:al) (bs:List Bool),xs=[.ref a]/\SqL K H a (bs.map V.bl)/\Q (.bl (bs.all id)) H):=by subst hK;exact yF hc
theorem F3:fg X (.type "list") (λxs H Q=>∃p ys,xs=[.ref p]/\(SqL K H p ys\/SqT K H p ys)/\∀l,H l=none->Q (.ref l) (upd H l (.lst ys))):=by subst hK;exact m9
theorem Ed:fg X (.type "tuple") (λxs H Q=>∃p ys,xs=[.ref p]/\((SqL K H p ys/\∀l,H l=none->Q (.ref l) (upd H l (.tup ys)))\/(SqT K H p ys/\Q (.ref p) H))):=by subst hK;exact k8
variable {tg:ba}
theorem zw(a:PE X l tl):PI X tg l (yc K tl):=by subst hK;exact iN a
theorem F0(a:PE X l tl):PI X tg l (Hb K tl):=by subst hK;exact DB a
theorem D7(b:Bool)(e:Gl X "enumerate")(f:X.mg "enumerate" = none)(g:PA X [a] ta)(h:j1 [a] X.env=[(false,eval a X.env)]:=by rfl) :
  PI X (.Tuple es d c) (.Call (.Name "enumerate" p) [a] [] pos) (Ek K b ta):=by subst hK;exact AR b e f PyProof.Rows.boot_enumerate g h
theorem FZ(b c:Bool){es:List ba}{e:Nat}{a:Pos}{e1 e2:ba}{ta:TA}{p pos:Pos}(f:Gl X "zip")(g:X.mg "zip" = none)(h:PA X [e1,e2] ta)
  (i:j1 [e1,e2] X.env=[(false,eval e1 X.env),(false,eval e2 X.env)]:=by rfl) (d:j1 [e2] X.env=[(false,eval e2 X.env)]:=by rfl) :
  PI X (.Tuple es e a) (.Call (.Name "zip" p) [e1,e2] [] pos) (Ha K b c ta):=by subst hK;exact Dz b c f g PyProof.Rows.boot_zip h i d
theorem Bk{pos:Pos}{es:List ba}{k:Nat}{t:TGs}{n:Nat}(hc:X.calm=true)(h:PGs X es t)(hn:(qb es X.env).length=n:=by rfl)(a:(qb es X.env).findIdx? (·.1)=none:=by rfl):PG X (.Tuple es k pos) (E8 K n t):=by subst hK;exact DC hc h hn a
theorem zy(c:PE X a ta)(d:∀b,K2 a X.env b=(do let v <-b;Kz a.pos;Kd [v] (Qs v))):PT X a (λσ H Q=>ta σ H λx H'=>∃k,Fn K x H' k/\Q k H'):=by subst hK;exact xr c d
variable {o e:ba}{es:List ba}{to:TE}{t:TA}{name:bt}{apos cpos:Pos}{T id:String}{r:V->List V->Hp->VK->Prop}
theorem G8(d:Qv T)(slot:Slot T name id)(c:typeOf (.builtin id)=pure (.type "method_descriptor"))(e:MtR X id r)(ho:PE X o to)
  (a:z3 o name X.env (eval o X.env)=eval o X.env:=by rfl) (b:(apos.endLine==cpos.line)=true:=by rfl):PE X (.Call (.Attribute o name apos) [] [] cpos) (GS K T r to):=by subst hK;exact DJ d slot c e ho a b
theorem kBm(g:Qv T)(slot:Slot T name id)(f:typeOf (.builtin id)=pure (.type "method_descriptor"))(h:MtR X id r)(ho:PE X o to)(i:PA X (e::es) t)
  (b:z3 o name X.env (eval o X.env)=eval o X.env:=by rfl)
  (d:((qs cpos (j1 (e::es) X.env)).all (λx=>!x.1)&&(KF cpos (Kf [] X.env)).all (λx=>x.1.isSome)&&decide ((e::es).length+([]:List Ke).length+(if ([]:List Ke).isEmpty then 0 else 1)<30))=true:=by rfl)
  (c:(apos.endLine==cpos.line)=true:=by rfl) (j:j1 (e::es) X.env=(false,eval e X.env)::j1 es X.env:=by rfl) (a:(qs cpos (j1 es X.env)).any (·.1)=false:=by rfl) :
  PE X (.Call (.Attribute o name apos) (e::es) [] cpos) (tBM K T r to t):=by subst hK;exact FQ g slot f h ho i b d c j a
end
end _L
namespace _L
open PySem
theorem CV(a:dc k A):A.units+80<J4:=by have:=a.un;omega
theorem o4(h:j<n):ixN n (j:Int)=some j:=by unfold ixN;rw[ME (by omega),ME (by omega),IP]
end _L
namespace _L
open PySem PySem.Spec PyProof.Rows
def Hn(t u:TS):TS:=λD σ H=>∃R:St->Hp->Prop,t { D with nx:=R } σ H/\∀σ' H',R σ' H'->u D σ' H'
theorem AM{X:Cx}{st:Stmt}{rest:List Stmt}{t u:TS}(h1:PS X st t)(h2:PSs X rest u):PSs X (st::rest) (Hn t u):=by
 intro pins s σ H D I h;obtain⟨R,h,a⟩:=h;refine Qi (thn (h1 pins s σ H { D with nx:=R } I h) λf s1 q=>?_);cases f with
 | next =>
  obtain⟨σ',H',b,q⟩:=q;exact h2 pins s1 σ' H' D b (a _ _ q)
 | ret v=>exact q
 | brk=>exact q
 | cont=>exact q
end _L
namespace _L
open PySem
theorem aN.put(k:aN N H H')(h:H p=Option.none):aN N H (upd H' p o):=λb u n e=>by
 rw[am (aB e h)];exact k b u n e
theorem DN.sqL(h:SqL K H a (ns.map V.int)):DN K N0 H (.ref a) (pI ns):=DN.ofI (by
 rcases h with h|h
 ·exact .inl ⟨h,λz=>z⟩
 ·exact .inr h)
end _L
namespace _L
end _L
namespace _L
open PySem PySem.Spec PyProof.Rows
section
variable {κ β:Type}[DecidableEq κ]
def bK(kvs:List (κ×β))(k:κ):Option β:=(kvs.find? λp=>decide (p.1=k)).map (·.2)
def hJ(kvs:List (κ×β))(k:κ)(v:β):List (κ×β):=if (bK kvs k).isSome=true then kvs.map λp=>if p.1=k then (p.1,v) else p else kvs++[(k,v)]
theorem yf(k:κ):bK ([]:List (κ×β)) k=none:=rfl
theorem bJ(p:κ×β)(kvs:List (κ×β))(k:κ):bK (p::kvs) k=if p.1=k then some p.2 else bK kvs k:=by unfold bK;rw[J1];by_cases h:p.1=k <;> simp[h]
theorem qk(kvs:List (κ×β))(k:κ)(v:β):(hJ kvs k v).length<=kvs.length+1:=by unfold hJ;split <;> simp
end
def GN(K:cc)(H:Hp)(v:V)(kvs:List (a8×ab)):Prop :=
 ∃a es,v=.ref a/\H a=some (.ext (cr a es))/\DVs K H (es.map λp=>V.ref p.2.1) (kvs.map λp=>dO p.1)/\DVs K H (es.map λp=>p.2.2) (kvs.map λp=>p.2)/\es.map (λp=>p.1)=kvs.map (λp=>p.1)
section
variable {X:Cx}{pins:List (al×Obj)}{σ:St}{H:Hp}{s:av}{a b:al}{k:a8}
theorem DVs.map_int:∀{ns:List Int}{xs:List V},DVs X.K H xs (ns.map .int)->xs=ns.map V.int
 | [],_,h=>by cases h;rfl
 | n :: ns,_,h=>by
  cases h with
  | cons h t =>
   cases h;rw[DVs.map_int t];rfl
theorem pP:∀{ns:List Int}{us:List ap},bf (ns.map V.int) us->ItemsAre (Kj X.prog X.w) ns us
 | [],us,h=>by cases h;exact .nil
 | n :: ns,us,h=>by
  cases h with
  | cons r t =>
   obtain⟨tt,rfl⟩:=r;exact .cons (eU n tt) (pP t)
theorem jC(I:Inv X pins σ H s)(h:DV X.K H x (dO k))(r:bC x u):∃b,x=.ref b/\u=.ref b/\dm X.prog X.w s.heap k b:=by obtain⟨d,l⟩:=k;obtain⟨b,xs,rfl,sq,q⟩:=DV.tupI (h:DV X.K H x (.tuple _));obtain⟨E,F,rfl,h1,h2⟩:=q.twoI;obtain⟨c,ys,rfl,g,p⟩:=h2.tupI;obtain⟨v,y,⟨o,e,cl,n,hd⟩,_⟩:=I.tuple sq;obtain⟨a,f,⟨z,e2,i,A,j⟩,_⟩:=I.tuple g;rw[DVs.map_int (X:=X) p] at f;obtain⟨G,B,rfl,m,C⟩:=tD y;rw[h1.intI] at m;obtain⟨t,rfl⟩:=m;have e3:B=eE c:=C;have D:u=eE b:=r;subst e3 D;exact⟨b,rfl,rfl,o,t,c,n,e,cl,hd,z,a.toArray,A,e2,i,j,by simpa using pP f⟩
theorem qN(I:Inv X pins σ H s):∀{es:List (a8×al×V)}{xs:List (a8×al×ap)}{kvs:List (a8×ab)},
  Paired (λ(p:a8×al×V) (q:a8×al×ap)=>p.1=q.1/\p.2.1=q.2.1/\bC p.2.2 q.2.2) es xs->DVs X.K H (es.map λp=>V.ref p.2.1) (kvs.map λp=>dO p.1)->es.map (λp=>p.1)=kvs.map (λp=>p.1) ->
  ∀x∈xs,dm X.prog X.w s.heap x.1 x.2.1
 | [],_,_,.nil,_,_=>λx hx=>by cases hx
 | p :: es,_,kvs,.cons (b:=q) r t,h,e=>by
  cases kvs with
  | nil=>simp at e
  | cons kv kvs =>
   rw[ID,ID] at h e;injection e with e1 e2;cases h with
   | cons h1 h2 =>
    intro x hx;rcases Ic.mp hx with rfl|hx
    ·obtain⟨b,z,_,st⟩:=jC I h1 (u:=.ref p.2.1) rfl;cases z;rw[<-r.1,<-r.2.1,e1];exact st
    ·exact qN I t h2 e2 x hx
theorem dct_of(I:Inv X pins σ H s){es:List (a8×al×V)}{kvs:List (a8×ab)}(b:H a=some (.ext (cr a es)))(hk:DVs X.K H (es.map λp=>V.ref p.2.1) (kvs.map λp=>dO p.1))(e:es.map (λp=>p.1)=kvs.map (λp=>p.1)) :
  es.length<=sizeLine/\(a==KB)=false/\∃xs,Paired (λ(p:a8×al×V) (q:a8×al×ap)=>p.1=q.1/\p.2.1=q.2.1/\bC p.2.2 q.2.2) es xs/\pM X.prog X.w s.heap a xs:=by obtain⟨⟨z,y,xs,r,o,ds,ep,h1,h2,c,d,f⟩,_⟩:=I.hok a _ b;exact⟨z,y,xs,r,o,ds,ep,h1,h2,c,d,qN I r hk e,f⟩
theorem wv{es:List (a8×al×V)}{xs:List (a8×al×ap)}{kvs:List (a8×ab)}{K:cc}(k:a8)
  (c:Paired (λ(p:a8×al×V) (q:a8×al×ap)=>p.1=q.1/\p.2.1=q.2.1/\bC p.2.2 q.2.2) es xs) (e:es.map (λp=>p.1)=kvs.map (λp=>p.1)) (h:DVs K H (es.map λp=>p.2.2) (kvs.map λp=>p.2)) :
  (bK kvs k=none/\K9 xs k=none)\/∃(i:Nat) (d:ab) (v:V) (b:al) (u:ap),bK kvs k=some d/\K9 xs k=some (b,u)/\(es.map λp=>p.2.2)[i]? = some v/\(kvs.map λp=>p.2)[i]? = some d/\bC v u:=by
 induction c generalizing kvs with
 | nil =>
  cases kvs with
  | nil=>exact .inl ⟨rfl,rfl⟩
  | cons kv kvs=>simp at e
 | @cons p q es xs r t f =>
  cases kvs with
  | nil=>simp at e
  | cons kv kvs =>
   rw[ID,ID] at e h;injection e with e1 e2;cases h with
   | cons h1 h2 =>
    by_cases hk:kv.1=k
    ·have a:q.1=k:=by rw[<-r.1,e1,hk]
     refine .inr ⟨0,kv.2,p.2.2,q.2.1,q.2.2,by rw[bJ,ME hk],?_,rfl,rfl,r.2.2⟩;simp[K9,J1,a]
    ·have a:¬q.1=k:=λz=>hk (by rw[<-e1,r.1,z]);have g:bK (kv::kvs) k=bK kvs k:=by rw[bJ,MF hk]
     have j:K9 (q::xs) k=K9 xs k:=by simp[K9,J1,a]
     rw[g,j];rcases f e2 h2 with z|⟨i,d,v,b,u,l,z2,m,n,o⟩
     ·exact .inl z
     ·exact .inr ⟨i+1,d,v,b,u,l,z2,by simpa using m,by simpa using n,o⟩
end
section
def FL(K:cc):R2:=λx y H Q=>∃(k:a8) (kvs:List (a8×ab)),DV K H x (dO k)/\GN K H y kvs/\Q (.bl (bK kvs k).isSome) H
def nW(K:cc):R2:=λx y H Q=>∃(k:a8) (kvs:List (a8×ab)),DV K H x (dO k)/\GN K H y kvs/\Q (.bl (!(bK kvs k).isSome)) H
theorem DP(f:X.A.units+2<J4):OpR X (ky .In) (FL X.K):=by
 intro pins s σ H x y v u Q I g j h;obtain⟨k,kvs,l,⟨a,es,rfl,m,hk,n,e⟩,q⟩:=h;cases (show u=eE a from j);obtain⟨b,rfl,rfl,st⟩:=jC I l g;obtain⟨z,y,xs,r,dd⟩:=dct_of I m hk e;refine wpAny_in_heap (knd:=bQ X.prog X.w) (ig f) st y dd.of ?_;have:(K9 xs k).isSome=(bK kvs k).isSome:=by
  rcases wv k r e n with⟨c,z2⟩|⟨i,d,v,b,u,c,z2,_⟩
  ·rw[c,z2];rfl
  ·rw[c,z2];rfl
 rw[this];exact⟨.bl _,H,I.tok _,rfl,q⟩
theorem uJ(f:X.A.units+2<J4):OpR X (ky .NotIn) (nW X.K):=by
 intro pins s σ H x y v u Q I g j h;obtain⟨k,kvs,l,⟨a,es,rfl,m,hk,n,e⟩,q⟩:=h;cases (show u=eE a from j);obtain⟨b,rfl,rfl,st⟩:=jC I l g;obtain⟨z,y,xs,r,dd⟩:=dct_of I m hk e;refine wpAny_notIn_heap (knd:=bQ X.prog X.w) (ig f) st y dd.of ?_;have:(K9 xs k).isSome=(bK kvs k).isSome:=by
  rcases wv k r e n with⟨c,z2⟩|⟨i,d,v,b,u,c,z2,_⟩
  ·rw[c,z2];rfl
  ·rw[c,z2];rfl
 rw[this];exact⟨.bl _,H,I.tok _,rfl,q⟩
def FK(K:cc):R2:=λx y H Q=>∃(k:a8) (a:al) (es:List (a8×al×V)) (kvs:List (a8×ab)),x=.ref a/\DV K H y (dO k)/\H a=some (.ext (cr a es))/\DVs K H (es.map λp=>V.ref p.2.1) (kvs.map λp=>dO p.1)/\DVs K H (es.map λp=>p.2.2) (kvs.map λp=>p.2) /\
 es.map (λp=>p.1)=kvs.map (λp=>p.1)/\(bK kvs k).isSome=true/\∀(i:Nat) v d,bK kvs k=some d->(es.map λp=>p.2.2)[i]? = some v->(kvs.map λp=>p.2)[i]? = some d->Q v H
theorem HC(m:X.A.units+2<J4):IxR X (FK X.K):=by
 intro f slice pins s σ H x y v u Q I n o h p;obtain⟨k,a,es,kvs,rfl,t,B,hk,C,e,c,q⟩:=h;cases (show v=eE a from n);obtain⟨b,rfl,rfl,st⟩:=jC I t o;obtain⟨z,y,xs,r,dd⟩:=dct_of I B hk e;have l:=dd.of.typeIs;unfold Qz;refine jj ?_;rw[getitemInPython_of_ne l.not_modules];refine jj (Kx l PySem.F.slot_dict_getitem.lookup ?_);have fin:j4 (kf X.prog X.w) X.A (subscripted slice false (.ref a) (.ref b)) (λr g=>j4 (kf X.prog X.w) X.A (letTemporaryGo f (.ref a) r >>= λ_=>pure r) (EP X pins σ Q) X.xe g) X.xe s:=by
  rw[p];rcases wv k r e C with⟨j,_⟩|⟨i,d,v,J,u,j,z2,D,E,G⟩
  ·rw[j] at c;cases c
  ·refine wpAny_operating (wpAny_getItem_heap (knd:=bQ X.prog X.w) (ig m) st dd.of z2 ?_);exact jj (wpAny_letTemporaryGo (j0 ⟨v,H,I.tok _,G,q i v d j D E⟩))
 first
  | exact j0 (jj fin)
  | exact jj (j0 (jj fin))
  | exact jj fin
def uo(es:List (a8×al×V))(k:a8)(b:al)(v:V):List (a8×al×V) :=
 if (es.any λp=>decide (p.1=k))=true then es.map (λp=>if p.1=k then (p.1,p.2.1,v) else p) else es++[(k,b,v)]
theorem oq(r:Paired (λ(p:a8×al×V) (q:a8×al×ap)=>p.1=q.1/\p.2.1=q.2.1/\bC p.2.2 q.2.2) es xs)(k:a8)(f:bC v u) :
  Paired (λ(p:a8×al×V) (q:a8×al×ap)=>p.1=q.1/\p.2.1=q.2.1/\bC p.2.2 q.2.2) (uo es k b v) (storedH xs k b u):=by
 have e:(es.any λp=>decide (p.1=k))=(K9 xs k).isSome:=by
  induction r with
  | nil=>rfl
  | @cons p q ps g h t a =>
   rw[rj,a];by_cases hk:p.1=k
   ·have d:q.1=k:=by rw[<-h.1,hk]
    simp[K9,J1,hk,d]
   ·have d:¬q.1=k:=λz=>hk (by rw[h.1,z]);simp[K9,J1,hk,d]
 unfold uo storedH;rw[e];by_cases c:(K9 xs k).isSome=true
 ·rw[ME c,ME c];clear e c
  induction r with
  | nil=>exact .nil
  | @cons p q ps g h t a =>
   rw[ID,ID];refine .cons ?_ a;unfold putAt;by_cases hk:p.1=k
   ·rw[ME hk,ME (show q.1=k by rw[<-h.1,hk])];exact⟨h.1,h.2.1,f⟩
   ·rw[MF hk,MF (λz=>hk (by rw[h.1,z]))];exact h
 ·rw[MF c,MF c];exact Paired.snoc r ⟨rfl,rfl,f⟩
theorem xq(es:List (a8×al×V))(k:a8)(b:al)(v:V):(uo es k b v).length<=es.length+1:=by unfold uo;split <;> simp
def FI(K:cc):Fo:=λx y v H Q=>∃(k:a8) (a b:al) (es:List (a8×al×V)) (kvs:List (a8×ab)),x=.ref a/\y=.ref b/\DV K H y (dO k)/\H a=some (.ext (cr a es))/\DVs K H (es.map λp=>V.ref p.2.1) (kvs.map λp=>dO p.1) /\
 es.map (λp=>p.1)=kvs.map (λp=>p.1)/\es.length<sizeLine/\Q (upd H a (.ext (cr a (uo es k b v))))
theorem FF(j:X.A.units+2<J4):GK X (FI X.K):=by
 intro pins s σ H x y v ov iv u Q I l m n h;obtain⟨k,a,b,es,kvs,rfl,rfl,p,i,hk,e,P,q⟩:=h;cases (show ov=eE a from l);obtain⟨R,t,B,st⟩:=jC I p m;cases t;subst B;obtain⟨z,y,xs,r,dd⟩:=dct_of I i hk e;have hz:xs.length<=sizeLine:=by rw[<-Paired.length r];exact z
 refine t8 (hsz:=hz) (ig (prog:=X.prog) (w:=X.w) j) st dd λh' c C=>?_;obtain⟨o,d,ep,h1,h2,D,E,_,F⟩:=c;refine⟨_,?_,q⟩;refine I.write (x:=a) (e:=a) (by rw[i];exact True.intro) (.inl rfl) (λb q G z=>(C.2 b G).trans z) ⟨_,h1⟩ ?_;have new:cr a (uo es k b v) h':=⟨by have:=xq es k b v;omega,y,_,oq r k n,o,d,ep,h1,h2,D,E,F⟩
 refine⟨new,⟨_,h1⟩,λJ L hx M=>?_⟩;obtain⟨a1,a2,f,a3,o',ds',g,N,O⟩:=hx;exact⟨a1,a2,f,a3,o',ds',g,M _ N,O⟩
def FA:TE:=λ_ H Q=>∀p,H p=none->Q (.ref p) (upd H p (.ext (cr p [])))
theorem mR(h:bb)(c:KB<h.objs.size):fe P w H (h.push { cls:=.type "dict",data:=.dict #[] }) h.objs.size (.ext (cr h.objs.size [])):=by have e:=Im (o:=({ cls:=.type "dict",data:=.dict #[] }:Obj)) h rfl;refine⟨⟨Iz _,beq_eq_false_iff_ne.mpr (Ne.symm (IF c)),[],.nil,_,#[],0,e,⟨rfl,rfl,rfl⟩,rfl,rfl,IS,rfl⟩,⟨_,e⟩,λh1 h2 hx d=>?_⟩;obtain⟨a1,a2,a,a3,o',ds',b,f,g⟩:=hx;exact⟨a1,a2,a,a3,o',ds',b,d _ f,g⟩
theorem Inv.big'{pins:List (al×Obj)}{σ:St}{H:Hp}{s:av}(I:Inv X pins σ H s):KB<s.heap.objs.size:=by have h:ke<s.heap.objs.size:=(I.mod.glob.keeps I.bk).lt;exact Nat.lt_trans (by decide) h
theorem AV:PE X (.Dict [] [] pos) FA:=λpins s σ H Q I h =>
 wpAny_Dict_empty ⟨.ref s.heap.objs.size,_,I.laid (a:=s.heap.objs.size) (o:=.ext (cr s.heap.objs.size [])) (t':=s.toks) (λ_ _ q=>Ia _ q) (Ih _) (mR s.heap I.big'),rfl,h _ (I.hok.fresh (Ih _))⟩
def Fz(K:cc)(tk tv:TE):TE:=λσ H Q=>∀p,H p=none->tk σ (upd H p (.ext (cr p []))) λx H1=>tv σ H1 λy a=>∃k b,x=.ref b/\DV K a x (dO k)/\a p=some (.ext (cr p []))/\Q (.ref p) (upd a p (.ext (cr p [(k,b,y)])))
theorem AU(n:X.A.units+1<J4)(hk:PE X e1 tk)(t:PE X e2 tv):PE X (.Dict [some e1] [e2] pos) (Fz X.K tk tv):=by
 intro pins s σ H Q I h;have v:=I.laid (a:=s.heap.objs.size) (o:=.ext (cr s.heap.objs.size [])) (h':=s.heap.push { cls:=.type "dict",data:=.dict #[] }) (t':=s.toks) (λ_ _ q=>Ia _ q) (Ih _) (mR s.heap I.big');refine wpAny_Dict_any rfl rfl (by simp) (by simp) (pairTrees_cons_walk (thn (hk pins _ σ _ _ v (h _ (I.hok.fresh (Ih _)))) λu s1 c=>?_));obtain⟨x,H1,B,C,D⟩:=c;refine thn (t pins s1 σ H1 _ B D) λw s2 d=>?_;obtain⟨y,V,f,E,k,b,ex,F,m,q⟩:=d;refine pairTrees_nil_walk ?_;subst ex;obtain⟨W,G,rfl,st⟩:=jC f F C;cases G;generalize s.heap.objs.size=p at *;obtain⟨z,hd,xs,r,dd⟩:=dct_of (kvs:=[]) f m .nil rfl;cases r;unfold storeAll;rw[J0];refine jj (jj (mQ (hsz:=Iz _) n st dd λh' g J=>j0 ?_));dsimp only;rw[JW];refine j0 ⟨.ref p,_,?_,rfl,q⟩;obtain⟨o,i,ep,h1,h2,L,M,_,N⟩:=g;refine f.write (x:=p) (e:=p) (by rw[m];exact True.intro) (.inl rfl) (λb q O z=>(J.2 b O).trans z) ⟨_,h1⟩ ?_;have new:cr p [(k,b,y)] h':=⟨by rw[qT];simp,hd,_,.cons ⟨rfl,rfl,E⟩ .nil,o,i,ep,h1,h2,L,M,N⟩
 refine⟨new,⟨_,h1⟩,λP R hx S=>?_⟩;obtain⟨a1,a2,j,a3,o',ds',l,T,U⟩:=hx;exact⟨a1,a2,j,a3,o',ds',l,S _ T,U⟩
end
mutual
inductive OT (K:cc) (N:al->Prop) (H:Hp):V->ab->List al->Prop
 | non:OT K N H .non .none []
 | bl (b:Bool):OT K N H (.bl b) (.bool b) []
 | int (i:Int):OT K N H (.int i) (.int i) []
 | lst {a:al}{xs:List V}{ds:List ab}{S:List al}:H a=some (.lst xs)->OTs K N H xs ds S->OT K N H (.ref a) (.list ds) (a::S)
 | tup {a:al}{xs:List V}{ds:List ab}{S:List al}:SnT K N H a xs->OTs K N H xs ds S->OT K N H (.ref a) (.tuple ds) S
 | dct {a:al}{es:List (a8×al×V)}{kvs:List (a8×ab)}:H a=some (.ext (cr a es))->DNs K N H (es.map λp=>V.ref p.2.1) (kvs.map λp=>dO p.1)->DNs K N H (es.map λp=>p.2.2) (kvs.map λp=>p.2)->es.map (λp=>p.1)=kvs.map (λp=>p.1)->OT K N H (.ref a) (fb kvs) [a]
 | fz {v:V}{ds:List ab}:DN K N H v (.list ds)->OT K N H v (fzD ds) []
inductive OTs (K:cc) (N:al->Prop) (H:Hp):List V->List ab->List al->Prop
 | nil:OTs K N H [] [] []
 | cons {x:V}{xs:List V}{d:ab}{ds:List ab}{S S':List al}:OT K N H x d S->OTs K N H xs ds S'->OTs K N H (x::xs) (d::ds) (S++S')
end
section
variable {K:cc}{N M:al->Prop}{H H':Hp}
theorem OT.keep(k:aN N H H')(h:OT K N H v d S):(∀a∈S,H' a=H a)->OT K N H' v d S :=
 OT.rec (motive_1:=λv d S _=>(∀a∈S,H' a=H a)->OT K N H' v d S) (motive_2:=λv d S _=>(∀a∈S,H' a=H a)->OTs K N H' v d S)
 (λ_=>.non) (λb _=>.bl b) (λi _=>.int i)
 (λh _ q s=>.lst ((s _ H9).trans h) (q λa c=>s a (HZ _ c))) (λh _ q s=>.tup (h.keep k) (q s))
 (λh q r e s=>.dct ((s _ H9).trans h) (q.keep k) (r.keep k) e) (λh s=>.fz (h.keep k)) (λ_=>.nil) (λ_ _ h q s=>.cons (h λa c=>s a (HV _ c)) (q λa c=>s a (HQ _ c))) h
theorem OTs.keep(k:aN N H H')(h:OTs K N H v d S):(∀a∈S,H' a=H a)->OTs K N H' v d S :=
 OTs.rec (motive_1:=λv d S _=>(∀a∈S,H' a=H a)->OT K N H' v d S) (motive_2:=λv d S _=>(∀a∈S,H' a=H a)->OTs K N H' v d S)
 (λ_=>.non) (λb _=>.bl b) (λi _=>.int i)
 (λh _ q s=>.lst ((s _ H9).trans h) (q λa c=>s a (HZ _ c))) (λh _ q s=>.tup (h.keep k) (q s))
 (λh q r e s=>.dct ((s _ H9).trans h) (q.keep k) (r.keep k) e) (λh s=>.fz (h.keep k)) (λ_=>.nil) (λ_ _ h q s=>.cons (h λa c=>s a (HV _ c)) (q λa c=>s a (HQ _ c))) h
theorem OT.to(m:∀b o,H b=some o->M b->N b)(h:OT K N H v d S):OT K M H v d S :=
 OT.rec (motive_1:=λv d S _=>OT K M H v d S) (motive_2:=λv d S _=>OTs K M H v d S)
 .non (λb=>.bl b) (λi=>.int i)
 (λh _ q=>.lst h q) (λh _ q=>.tup (h.to m) q)
 (λh q r e=>.dct h (q.to m) (r.to m) e) (λh=>.fz (h.to m)) .nil (λ_ _ h q=>.cons h q) h
theorem OTs.to(m:∀b o,H b=some o->M b->N b)(h:OTs K N H v d S):OTs K M H v d S :=
 OTs.rec (motive_1:=λv d S _=>OT K M H v d S) (motive_2:=λv d S _=>OTs K M H v d S)
 .non (λb=>.bl b) (λi=>.int i)
 (λh _ q=>.lst h q) (λh _ q=>.tup (h.to m) q)
 (λh q r e=>.dct h (q.to m) (r.to m) e) (λh=>.fz (h.to m)) .nil (λ_ _ h q=>.cons h q) h
theorem OT.lives(h:OT K N H v d S):∀a∈S,∃o,H a=some o :=
 OT.rec (motive_1:=λv d S _=>∀a∈S,∃o,H a=some o) (motive_2:=λv d S _=>∀a∈S,∃o,H a=some o)
 (λ_ h=>nomatch h) (λ_ _ h=>nomatch h) (λ_ _ h=>nomatch h)
 (λh _ q a b=>(Ic.mp b).elim (λe=>⟨_,e▸h⟩) (q a)) (λ_ _ q=>q)
 (λh _ _ _ a b=>⟨_,(HW.mp b)▸h⟩) (λ_ _ h=>nomatch h) (λ_ h=>nomatch h) (λ_ _ h q a b=>(HX.mp b).elim (h a) (q a)) h
theorem OTs.lives(h:OTs K N H v d S):∀a∈S,∃o,H a=some o :=
 OTs.rec (motive_1:=λv d S _=>∀a∈S,∃o,H a=some o) (motive_2:=λv d S _=>∀a∈S,∃o,H a=some o)
 (λ_ h=>nomatch h) (λ_ _ h=>nomatch h) (λ_ _ h=>nomatch h)
 (λh _ q a b=>(Ic.mp b).elim (λe=>⟨_,e▸h⟩) (q a)) (λ_ _ q=>q)
 (λh _ _ _ a b=>⟨_,(HW.mp b)▸h⟩) (λ_ _ h=>nomatch h) (λ_ h=>nomatch h) (λ_ _ h q a b=>(HX.mp b).elim (h a) (q a)) h
theorem OT.dn(n:∀b,M b->N b)(h:OT K N H v d S):(∀a∈S,¬M a)->DN K M H v d :=
 OT.rec (motive_1:=λv d S _=>(∀a∈S,¬M a)->DN K M H v d) (motive_2:=λv d S _=>(∀a∈S,¬M a)->DNs K M H v d)
 (λ_=>.non) (λb _=>.bl b) (λi _=>.int i)
 (λh _ q s=>.lst (SnL.of h (s _ H9)) (q λa c=>s a (HZ _ c))) (λh _ q s=>.tup (h.to λb _ _ z=>n b z) (q s))
 (λh q r e s=>.dct (s _ H9) h (q.to λb _ _ z=>n b z) (r.to λb _ _ z=>n b z) e) (λh _=>.fz (h.to λb _ _ z=>n b z)) (λ_=>.nil) (λ_ _ h q s=>.cons (h λa c=>s a (HV _ c)) (q λa c=>s a (HQ _ c))) h
theorem OTs.dn(n:∀b,M b->N b)(h:OTs K N H v d S):(∀a∈S,¬M a)->DNs K M H v d :=
 OTs.rec (motive_1:=λv d S _=>(∀a∈S,¬M a)->DN K M H v d) (motive_2:=λv d S _=>(∀a∈S,¬M a)->DNs K M H v d)
 (λ_=>.non) (λb _=>.bl b) (λi _=>.int i)
 (λh _ q s=>.lst (SnL.of h (s _ H9)) (q λa c=>s a (HZ _ c))) (λh _ q s=>.tup (h.to λb _ _ z=>n b z) (q s))
 (λh q r e s=>.dct (s _ H9) h (q.to λb _ _ z=>n b z) (r.to λb _ _ z=>n b z) e) (λh _=>.fz (h.to λb _ _ z=>n b z)) (λ_=>.nil) (λ_ _ h q s=>.cons (h λa c=>s a (HV _ c)) (q λa c=>s a (HQ _ c))) h
theorem OTs.ind{C:List V->List ab->List al->Prop}(n:C [] [] [])(c:∀{x:V}{xs:List V}{d:ab}{ds:List ab}{S S':List al},OT K N H x d S->OTs K N H xs ds S'->C xs ds S'->C (x::xs) (d::ds) (S++S')){v:List V}{d:List ab}{S:List al}(h:OTs K N H v d S):C v d S :=
 OTs.rec (motive_1:=λ_ _ _ _=>True) (motive_2:=λv d S _=>C v d S) trivial (λ_=>trivial) (λ_=>trivial)
 (λ_ _ _=>trivial) (λ_ _ _=>trivial) (λ_ _ _ _=>trivial) (λ_=>trivial) n (λh q _ i=>c h q i) h
theorem OTs.len(h:OTs K N H v d S):v.length=d.length:=OTs.ind (C:=λv d _=>v.length=d.length) rfl (λ_ _ i=>by rw[IL,IL,i]) h
theorem OTs.app(h:OTs K N H v d S)(q:OTs K N H w e T):OTs K N H (v++w) (d++e) (S++T):=OTs.ind (C:=λv d S=>OTs K N H (v++w) (d++e) (S++T)) q (λh _ i=>by rw[Ja];exact .cons h i) h
end
inductive Sl where
 | un|fr (d:ab)|ow (ds:List ab)|io (ds:List ab)|vw (i:Nat)|tr (S:List al) (d:ab)
abbrev Ent:=Option V×Sl
def cx:Ent->List al
 | (some (.ref a),.ow _)=>[a]
 | (some (.ref a),.io _)=>[a]
 | (some _,.tr S _)=>S
 | _=>[]
def oas(E:List Ent):List al:=E.flatMap cx
def Nw(M:al->Prop)(E:List Ent):al->Prop:=λa=>M a\/a∈oas E
abbrev tmp(ts:List (V×Sl)):List Ent:=ts.map λt=>(some t.1,t.2)
def ax(σ:St)(env:List Sl)(ts:List (V×Sl)):List Ent:=σ.zip env++tmp ts
theorem ae(A B:List Ent):oas (A++B)=oas A++oas B:=LR
theorem ad(e:Ent)(B:List Ent):oas (e::B)=cx e++oas B:=L9 ..
theorem aV:a∈oas E↔∃e∈E,a∈cx e:=sb
theorem bZ(x:Option V):cx (x,.un)=[]:=by
 cases x with
 | none=>rfl
 | some v=>cases v <;> rfl
theorem iO(x:Option V)(i:Nat):cx (x,.vw i)=[]:=by
 cases x with
 | none=>rfl
 | some v=>cases v <;> rfl
theorem db(x:Option V)(d:ab):cx (x,.fr d)=[]:=by
 cases x with
 | none=>rfl
 | some v=>cases v <;> rfl
theorem aq(v:V)(S:List al)(d:ab):cx (some v,.tr S d)=S:=by cases v <;> rfl
theorem fR(h:a∈cx e):(e.1=some (.ref a)/\((∃ds,e.2=.ow ds)\/∃ds,e.2=.io ds))\/∃S d,e.2=.tr S d/\a∈S:=by
 obtain⟨x,s⟩:=e;cases s with
 | un=>rw[bZ] at h;exact absurd h IJ
 | vw i=>rw[iO] at h;exact absurd h IJ
 | fr d=>rw[db] at h;exact absurd h IJ
 | tr S d =>
  cases x with
  | none=>exact absurd h IJ
  | some v=>rw[aq] at h;exact .inr ⟨S,d,rfl,h⟩
 | ow ds =>
  cases x with
  | none=>exact absurd h IJ
  | some v=>cases v with
   | ref b=>rw[HW.mp h];exact .inl ⟨rfl,.inl ⟨ds,rfl⟩⟩
   | _=>exact absurd h IJ
 | io ds =>
  cases x with
  | none=>exact absurd h IJ
  | some v=>cases v with
   | ref b=>rw[HW.mp h];exact .inl ⟨rfl,.inr ⟨ds,rfl⟩⟩
   | _=>exact absurd h IJ
structure aW(K:cc)(M P:al->Prop)(H0:Hp)(E:List Ent)(H:Hp):Prop where
 keep:aN P H0 H
 live:∀a,H0 a≠none->H a≠none
 mt : ∀a,M a->H0 a≠none
 pm : ∀a,P a->M a
 fr : ∀x d,(x,Sl.fr d)∈E->∃v,x=some v/\DN K (Nw M E) H v d
 ow : ∀x ds,(x,Sl.ow ds)∈E->∃a vs,x=some (.ref a)/\H a=some (.lst vs)/\DNs K (Nw M E) H vs ds/\H0 a=none
 io : ∀x ds,(x,Sl.io ds)∈E->∃a vs,x=some (.ref a)/\H a=some (.lst vs)/\DNs K (Nw M E) H vs ds/\P a
 tr : ∀x S d,(x,Sl.tr S d)∈E->∃v,x=some v/\OT K (Nw M E) H v d S/\∀a∈S,H0 a=none
 nd : (oas E).Nodup
section
variable {K:cc}{M P:al->Prop}{H0 H H':Hp}{E E' A B:List Ent}{e:Ent}
theorem aW.own(h:aW K M P H0 E H)(e:a∈oas E):∃o,H a=some o/\(H0 a=none\/P a):=by
 obtain⟨⟨x,s⟩,c,f⟩:=aV.mp e;rcases fR f with⟨e1,e2⟩|⟨S,d,e2,ms⟩
 rotate_left
 ·simp only at e2;subst e2;obtain⟨v,_,q,r⟩:=h.tr _ _ _ c;obtain⟨vs,z⟩:=q.lives a ms;exact⟨vs,z,.inl (r a ms)⟩
 rcases e2 with⟨ds,e2⟩|⟨ds,e2⟩
 ·simp only at e1 e2;subst e1 e2;obtain⟨b,vs,z,q,_,r⟩:=h.ow _ _ c;cases z;exact⟨_,q,.inl r⟩
 ·simp only at e1 e2;subst e1 e2;obtain⟨b,vs,z,q,_,r⟩:=h.io _ _ c;cases z;exact⟨_,q,.inr r⟩
theorem Nw.sub(h:∀a,a∈oas E'->a∈oas E):∀b,Nw M E' b->Nw M E b:=λb z=>by
 rcases z with z|z
 ·exact .inl z
 ·exact .inr (h b z)
theorem aW.sub(h:aW K M P H0 E H)(c:∀x s,(x,s)∈E'->(x,s)∈E\/s=.un\/∃i,s=.vw i)(nd:(oas E').Nodup):aW K M P H0 E' H:=by
 have os:∀a,a∈oas E'->a∈oas E:=λa g=>by
  obtain⟨⟨x,s⟩,j,f⟩:=aV.mp g;rcases c x s j with q|q|⟨i,q⟩
  ·exact aV.mpr ⟨_,q,f⟩
  ·subst q;rw[bZ] at f;cases f
  ·subst q;rw[iO] at f;cases f
 have up:=Nw.sub (M:=M) os;refine⟨h.keep,h.live,h.mt,h.pm,λx d m=>?_,λx d m=>?_,λx d m=>?_,λx S d m=>?_,nd⟩
 rotate_right
 ·rcases c _ _ m with q|q|⟨i,q⟩
  ·obtain⟨v,e,dn,r⟩:=h.tr x S d q;exact⟨v,e,dn.to λb _ _ z=>up b z,r⟩
  ·cases q
  ·cases q
 ·rcases c _ _ m with q|q|⟨i,q⟩
  ·obtain⟨v,e,dn⟩:=h.fr x d q;exact⟨v,e,dn.to λb _ _ z=>up b z⟩
  ·cases q
  ·cases q
 ·rcases c _ _ m with q|q|⟨i,q⟩
  ·obtain⟨a,vs,e,e2,dn,r⟩:=h.ow x d q;exact⟨a,vs,e,e2,dn.to λb _ _ z=>up b z,r⟩
  ·cases q
  ·cases q
 ·rcases c _ _ m with q|q|⟨i,q⟩
  ·obtain⟨a,vs,e,e2,dn,r⟩:=h.io x d q;exact⟨a,vs,e,e2,dn.to λb _ _ z=>up b z,r⟩
  ·cases q
  ·cases q
theorem aW.drop(h:aW K M P H0 (E++B) H):aW K M P H0 E H:=h.sub (λx s m=>.inl (HV _ m)) (by
 have:=h.nd;rw[ae] at this;exact(HY.mp this).1)
theorem aW.same(h:aW K M P H0 E H)(k:aD H H'):aW K M P H0 E H':=by
 refine⟨h.keep.trans (aN.same k),λa q z=>?_,h.mt,h.pm,λx d m=>?_,λx d m=>?_,λx d m=>?_,λx S d m=>?_,h.nd⟩
 rotate_right
 ·obtain⟨v,e,dn,r⟩:=h.tr x S d m;exact⟨v,e,dn.keep (aN.same k) λa b=>by
   obtain⟨xs,z⟩:=dn.lives a b;rw[k a _ z,z],r⟩
 ·have c:=h.live a q;cases e:H a with
  | none=>exact c e
  | some o=>rw[k a o e] at z;cases z
 ·obtain⟨v,e,dn⟩:=h.fr x d m;exact⟨v,e,dn.keep (aN.same k)⟩
 ·obtain⟨a,vs,e,e2,dn,r⟩:=h.ow x d m;exact⟨a,vs,e,k _ _ e2,dn.keep (aN.same k),r⟩
 ·obtain⟨a,vs,e,e2,dn,r⟩:=h.io x d m;exact⟨a,vs,e,k _ _ e2,dn.keep (aN.same k),r⟩
theorem aW.addFr(h:aW K M P H0 E H)(dn:DN K (Nw M E) H v d):aW K M P H0 (E++[(some v,.fr d)]) H:=by
 have a:oas (E++[(some v,Sl.fr d)])=oas E:=by rw[ae,ad,db];simp[oas]
 have ne:Nw M (E++[(some v,Sl.fr d)])=Nw M E:=by unfold Nw;rw[a]
 refine⟨h.keep,h.live,h.mt,h.pm,λx d' m=>?_,λx d' m=>?_,λx d' m=>?_,λx S d' m=>?_,by rw[a];exact h.nd⟩
 rotate_right
 ·rw[ne];rcases HX.mp m with m|m
  ·exact h.tr x S d' m
  ·rw[HW] at m;cases m
 ·rw[ne];rcases HX.mp m with m|m
  ·exact h.fr x d' m
  ·rw[HW] at m;cases m;exact⟨v,rfl,dn⟩
 ·rw[ne];rcases HX.mp m with m|m
  ·exact h.ow x d' m
  ·rw[HW] at m;cases m
 ·rw[ne];rcases HX.mp m with m|m
  ·exact h.io x d' m
  ·rw[HW] at m;cases m
theorem aW.addVw(h:aW K M P H0 E H):aW K M P H0 (E++[(some v,.vw i)]) H:=by
 refine h.sub (λx s m=>?_) ?_
 ·rcases HX.mp m with m|m
  ·exact .inl m
  ·rw[HW] at m;cases m;exact .inr (.inr ⟨i,rfl⟩)
 ·rw[ae,ad,iO];simpa[oas] using h.nd
theorem aW.addOw(h:aW K M P H0 E H)(c:H p=none)(dns:DNs K (Nw M E) H vs ds):aW K M P H0 (E++[(some (.ref p),.ow ds)]) (upd H p (.lst vs)):=by
 have f:oas (E++[(some (.ref p),Sl.ow ds)])=oas E++[p]:=by rw[ae];rfl
 have g:p ∉ oas E:=λz=>by
  obtain⟨vs',q,_⟩:=h.own z;rw[c] at q;cases q
 have i:H0 p=none:=by
  cases e:H0 p with
  | none=>rfl
  | some o=>exact absurd c (h.live p (by rw[e];simp))
 have up:∀b o,H b=some o->Nw M (E++[(some (.ref p),Sl.ow ds)]) b->Nw M E b:=λb o e z=>by
  rcases z with z|z
  ·exact .inl z
  ·rw[f] at z;rcases HX.mp z with z|z
   ·exact .inr z
   ·rw[HW.mp z,c] at e;cases e
 have h':=h.same (aD.new (o:=.lst vs) c);refine⟨h'.keep,h'.live,h.mt,h.pm,λx d' m=>?_,λx d' m=>?_,λx d' m=>?_,λx S d' m=>?_,?_⟩
 rotate_right 2
 ·rcases HX.mp m with m|m
  ·obtain⟨v,e,dn,r⟩:=h.tr x S d' m;exact⟨v,e,(dn.to up).keep (aN.same (aD.new c)) λa d=>by
    obtain⟨xs,z⟩:=dn.lives a d;rw[aD.new c _ _ z,z],r⟩
  ·rw[HW] at m;cases m
 rotate_left
 ·rcases HX.mp m with m|m
  ·obtain⟨v,e,dn⟩:=h.fr x d' m;exact⟨v,e,(dn.to up).keep (aN.same (aD.new c))⟩
  ·rw[HW] at m;cases m
 ·rcases HX.mp m with m|m
  ·obtain⟨a,ws,e,e2,dn,r⟩:=h.ow x d' m;exact⟨a,ws,e,aD.new c _ _ e2,(dn.to up).keep (aN.same (aD.new c)),r⟩
  ·rw[HW] at m;cases m;exact⟨p,vs,rfl,aw,(dns.to up).keep (aN.same (aD.new c)),i⟩
 ·rcases HX.mp m with m|m
  ·obtain⟨a,ws,e,e2,dn,r⟩:=h.io x d' m;exact⟨a,ws,e,aD.new c _ _ e2,(dn.to up).keep (aN.same (aD.new c)),r⟩
  ·rw[HW] at m;cases m
 ·rw[f];exact HY.mpr ⟨h.nd,by simp,λa d b j=>by rw[HW.mp j];exactλz=>g (z▸d)⟩
theorem aW.freeze(h:aW K M P H0 (A++(some (.ref a),.ow ds)::B) H):aW K M P H0 (A++(some (.ref a),.fr (.list ds))::B) H:=by
 have g:oas (A++(some (.ref a),Sl.ow ds)::B)=oas A++a::oas B:=by rw[ae,ad];rfl
 have f:oas (A++(some (.ref a),Sl.fr (.list ds))::B)=oas A++oas B:=by rw[ae,ad];rfl
 have nd:=h.nd;rw[g] at nd;obtain⟨j,k,i⟩:=HY.mp nd;obtain⟨l,n⟩:=Ir.mp k;have up:∀b,Nw M (A++(some (.ref a),Sl.fr (.list ds))::B) b->Nw M (A++(some (.ref a),Sl.ow ds)::B) b:=Nw.sub λb z=>by
  rw[f] at z;rw[g];rcases HX.mp z with z|z
  ·exact HV _ z
  ·exact HQ _ (HZ _ z)
 have o:(some (.ref a),Sl.ow ds)∈A++(some (.ref a),Sl.ow ds)::B:=HQ _ H9;obtain⟨w,vs,z,p,dns,q⟩:=h.ow _ _ o;cases z;have t:¬Nw M (A++(some (.ref a),Sl.fr (.list ds))::B) a:=λz=>by
  rcases z with z|z
  ·exact h.mt a z q
  ·rw[f] at z;rcases HX.mp z with z|z
   ·exact i a z a H9 rfl
   ·exact l z
 have c:∀x s,(x,s)∈A++(some (.ref a),Sl.fr (.list ds))::B->(x,s)=(some (.ref a),Sl.fr (.list ds))\/(x,s)∈A++(some (.ref a),Sl.ow ds)::B:=λx s m=>by
  rcases HX.mp m with m|m
  ·exact .inr (HV _ m)
  ·rcases Ic.mp m with m|m
   ·exact .inl m
   ·exact .inr (HQ _ (HZ _ m))
 refine⟨h.keep,h.live,h.mt,h.pm,λx d m=>?_,λx d m=>?_,λx d m=>?_,λx S d m=>?_,?_⟩
 rotate_right 2
 ·rcases c _ _ m with m|m
  ·cases m
  ·obtain⟨v,e,dn,r⟩:=h.tr x S d m;exact⟨v,e,dn.to λb _ _ z=>up b z,r⟩
 rotate_left
 ·rcases c _ _ m with m|m
  ·cases m;exact⟨_,rfl,.lst (SnL.of p t) (dns.to λb _ _ z=>up b z)⟩
  ·obtain⟨v,e,dn⟩:=h.fr x d m;exact⟨v,e,dn.to λb _ _ z=>up b z⟩
 ·rcases c _ _ m with m|m
  ·cases m
  ·obtain⟨b,ws,e,e2,dn,r⟩:=h.ow x d m;exact⟨b,ws,e,e2,dn.to λb _ _ z=>up b z,r⟩
 ·rcases c _ _ m with m|m
  ·cases m
  ·obtain⟨b,ws,e,e2,dn,r⟩:=h.io x d m;exact⟨b,ws,e,e2,dn.to λb _ _ z=>up b z,r⟩
 ·rw[f];exact HY.mpr ⟨j,n,λx hx y u=>i x hx y (HZ _ u)⟩
theorem aW.freezeT(h:aW K M P H0 (A++(some v,.tr S d)::B) H):aW K M P H0 (A++(some v,.fr d)::B) H:=by
 have i:oas (A++(some v,Sl.tr S d)::B)=oas A++(S++oas B):=by rw[ae,ad,aq]
 have f:oas (A++(some v,Sl.fr d)::B)=oas A++oas B:=by rw[ae,ad,db];rfl
 have nd:=h.nd;rw[i] at nd;obtain⟨k,l,j⟩:=HY.mp nd;obtain⟨w,n,o⟩:=HY.mp l;have up:∀b,Nw M (A++(some v,Sl.fr d)::B) b->Nw M (A++(some v,Sl.tr S d)::B) b:=Nw.sub λb z=>by
  rw[f] at z;rw[i];rcases HX.mp z with z|z
  ·exact HV _ z
  ·exact HQ _ (HQ _ z)
 have p:(some v,Sl.tr S d)∈A++(some v,Sl.tr S d)::B:=HQ _ H9;obtain⟨v',z,ot,q⟩:=h.tr _ _ _ p;cases z;have t:∀a∈S,¬Nw M (A++(some v,Sl.fr d)::B) a:=λa g z=>by
  rcases z with z|z
  ·exact h.mt a z (q a g)
  ·rw[f] at z;rcases HX.mp z with z|z
   ·exact j a z a (HV _ g) rfl
   ·exact o a g a z rfl
 have c:∀x s,(x,s)∈A++(some v,Sl.fr d)::B->(x,s)=(some v,Sl.fr d)\/(x,s)∈A++(some v,Sl.tr S d)::B:=λx s m=>by
  rcases HX.mp m with m|m
  ·exact .inr (HV _ m)
  ·rcases Ic.mp m with m|m
   ·exact .inl m
   ·exact .inr (HQ _ (HZ _ m))
 refine⟨h.keep,h.live,h.mt,h.pm,λx d' m=>?_,λx d' m=>?_,λx d' m=>?_,λx S' d' m=>?_,?_⟩
 ·rcases c _ _ m with m|m
  ·cases m;exact⟨_,rfl,ot.dn up t⟩
  ·obtain⟨v,e,dn⟩:=h.fr x d' m;exact⟨v,e,dn.to λb _ _ z=>up b z⟩
 ·rcases c _ _ m with m|m
  ·cases m
  ·obtain⟨b,ws,e,e2,dn,r⟩:=h.ow x d' m;exact⟨b,ws,e,e2,dn.to λb _ _ z=>up b z,r⟩
 ·rcases c _ _ m with m|m
  ·cases m
  ·obtain⟨b,ws,e,e2,dn,r⟩:=h.io x d' m;exact⟨b,ws,e,e2,dn.to λb _ _ z=>up b z,r⟩
 ·rcases c _ _ m with m|m
  ·cases m
  ·obtain⟨v,e,dn,r⟩:=h.tr x S' d' m;exact⟨v,e,dn.to λb _ _ z=>up b z,r⟩
 ·rw[f];exact HY.mpr ⟨k,n,λx hx y u=>j x hx y (HQ _ u)⟩
def Ct:Sl->List ab->Sl->Prop
 | .ow _,ds',s'=>s'=.ow ds'
 | .io _,ds',s'=>s'=.io ds'
 | _,_,_=>False
theorem dL(h:Ct s l s'):(∃d,s=.ow d/\s'=.ow l)\/∃d,s=.io d/\s'=.io l:=by
 cases s with
 | ow d=>exact .inl ⟨d,rfl,h⟩
 | io d=>exact .inr ⟨d,rfl,h⟩
 | _=>exact h.elim
theorem il(h:Ct s l s'):cx (some (.ref a),s)=[a]/\cx (some (.ref a),s')=[a]:=by rcases dL h with⟨_,rfl,rfl⟩|⟨_,rfl,rfl⟩ <;> exact⟨rfl,rfl⟩
theorem aW.muted(h:aW K M P H0 (A++(some (.ref a),s)::B) H)(g:Ct s ds' s')(k:aN (λb=>b=a) H H')(C:∀b,H b≠none->H' b≠none)
  (p:H' a=some (.lst vs')) (dns:DNs K (Nw M (A++(some (.ref a),s)::B)) H' vs' ds'):aW K M P H0 (A++(some (.ref a),s')::B) H':=by
 have u:cx (some (.ref a),s)=[a]/\cx (some (.ref a),s')=[a]:=il g;have l:oas (A++(some (.ref a),s)::B)=oas A++a::oas B:=by rw[ae,ad,u.1];rfl
 have i:oas (A++(some (.ref a),s')::B)=oas A++a::oas B:=by rw[ae,ad,u.2];rfl
 have ne:Nw M (A++(some (.ref a),s')::B)=Nw M (A++(some (.ref a),s)::B):=by unfold Nw;rw[l,i]
 have D:Nw M (A++(some (.ref a),s)::B) a:=.inr (by rw[l];simp);have nd:=h.nd;rw[l] at nd;obtain⟨J,E,F⟩:=HY.mp nd;obtain⟨G,L⟩:=Ir.mp E;have kN:aN (Nw M (A++(some (.ref a),s)::B)) H H':=k.mono λb z=>by rw[z];exact D
 obtain⟨ws,hw,I⟩:=h.own (a:=a) (by rw[l];simp);have other:∀x t b,(x,t)∈A\/(x,t)∈B->b∈cx (x,t)->b≠a:=λx t b m w z=>by
  subst z;rcases m with m|m
  ·exact F b (aV.mpr ⟨_,m,w⟩) b H9 rfl
  ·exact G (aV.mpr ⟨_,m,w⟩)
 have f:∀x t,(x,t)∈A++(some (.ref a),s')::B->(x,t)=(some (.ref a),s')\/((x,t)∈A\/(x,t)∈B):=λx t m=>by
  rcases HX.mp m with m|m
  ·exact .inr (.inl m)
  ·rcases Ic.mp m with m|m
   ·exact .inl m
   ·exact .inr (.inr m)
 have c:∀x t,(x,t)∈A\/(x,t)∈B->(x,t)∈A++(some (.ref a),s)::B:=λx t m=>by
  rcases m with m|m
  ·exact HV _ m
  ·exact HQ _ (HZ _ m)
 have N:(some (.ref a),s)∈A++(some (.ref a),s)::B:=HQ _ H9;refine⟨?_,λb q=>C b (h.live b q),h.mt,h.pm,λx d m=>?_,λx d m=>?_,λx d m=>?_,λx S d m=>?_,by rw[i];exact nd⟩
 rotate_right
 ·rw[ne];rcases f _ _ m with m|m
  ·rcases dL g with⟨_,_,e⟩|⟨_,_,e⟩ <;> (rw[e] at m;cases m)
  ·obtain⟨v,e,dn,r⟩:=h.tr x S d (c _ _ m);subst e;refine⟨v,rfl,dn.keep kN λb j=>?_,r⟩;obtain⟨xs,z⟩:=dn.lives b j;rw[k _ _ (other _ _ b m (by rw[aq];exact j)) z,z]
 ·intro b o y e;by_cases j:b=a
  ·subst j;rcases I with q|q
   ·rw[q] at e;cases e
   ·exact absurd q y
  ·exact k b o j (h.keep b o y e)
 ·rw[ne];rcases f _ _ m with m|m
  ·rcases dL g with⟨_,_,e⟩|⟨_,_,e⟩ <;> (rw[e] at m;cases m)
  ·obtain⟨v,e,dn⟩:=h.fr x d (c _ _ m);exact⟨v,e,dn.keep kN⟩
 ·rw[ne];rcases f _ _ m with m|m
  ·rcases dL g with⟨n,e1,e2⟩|⟨_,_,e2⟩ <;> (rw[e2] at m;cases m)
   obtain⟨b,us,e,_,_,r⟩:=h.ow (some (.ref a)) n (HQ _ (by rw[e1];exact H9));cases e;exact⟨a,vs',rfl,p,dns,r⟩
  ·obtain⟨b,us,e,e2,dn,r⟩:=h.ow x d (c _ _ m);subst e;exact⟨b,us,rfl,k _ _ (other _ _ b m (HW.mpr rfl)) e2,dn.keep kN,r⟩
 ·rw[ne];rcases f _ _ m with m|m
  ·rcases dL g with⟨_,_,e2⟩|⟨n,e1,e2⟩ <;> (rw[e2] at m;cases m)
   obtain⟨b,us,e,_,_,r⟩:=h.io (some (.ref a)) n (HQ _ (by rw[e1];exact H9));cases e;exact⟨a,vs',rfl,p,dns,r⟩
  ·obtain⟨b,us,e,e2,dn,r⟩:=h.io x d (c _ _ m);subst e;exact⟨b,us,rfl,k _ _ (other _ _ b m (HW.mpr rfl)) e2,dn.keep kN,r⟩
theorem aW.mut(h:aW K M P H0 (A++(some (.ref a),s)::B) H)(d:Ct s ds' s')(dns:DNs K (Nw M (A++(some (.ref a),s)::B)) H vs' ds') :
  aW K M P H0 (A++(some (.ref a),s')::B) (upd H a (.lst vs')) :=
 have f:cx (some (.ref a),s)=[a]:=(il d).1
 h.muted d (λb o c e=>by rw[am c];exact e) (λb q z=>by
  by_cases c:b=a
  ·rw[c,aw] at z;cases z
  ·rw[am c] at z;exact q z) aw (dns.keep (aN.own (.inr (aV.mpr ⟨_,HQ _ H9,by rw[f];exact HW.mpr rfl⟩))))
theorem aW.move(h:aW K M P H0 (A++e::(B++[t])) H):aW K M P H0 (A++t::B) H:=by
 refine h.sub (λx s m=>.inl ?_) ?_
 ·rcases HX.mp m with m|m
  ·exact HV _ m
  ·rcases Ic.mp m with m|m
   ·exact HQ _ (HZ _ (HQ _ (by rw[m];simp)))
   ·exact HQ _ (HZ _ (HV _ m))
 ·have nd:=h.nd;have b:oas (A++e::(B++[t]))=oas A++(oas [e]++(oas B++oas [t])):=by
   rw[ae,show e::(B++[t])=[e]++(B++[t]) from rfl,ae,ae]
  have c:oas (A++t::B)=oas A++(oas [t]++oas B):=by rw[ae,show t::B=[t]++B from rfl,ae]
  rw[b] at nd;rw[c];obtain⟨d,f,g⟩:=HY.mp nd;obtain⟨_,i,_⟩:=HY.mp f;obtain⟨j,k,l⟩:=HY.mp i;refine HY.mpr ⟨d,HY.mpr ⟨k,j,λx hx y a z=>l y a x hx z.symm⟩,λx hx y a=>?_⟩;refine g x hx y (HQ _ ?_);rcases HX.mp a with a|a
  ·exact HQ _ a
  ·exact HV _ a
theorem aW.kill(h:aW K M P H0 (A++(x,s)::B) H):aW K M P H0 (A++(y,.un)::B) H:=by
 refine h.sub (λl s' m=>?_) ?_
 ·rcases HX.mp m with m|m
  ·exact .inl (HV _ m)
  ·rcases Ic.mp m with m|m
   ·cases m;exact .inr (.inl rfl)
   ·exact .inl (HQ _ (HZ _ m))
 ·have nd:=h.nd;have c:oas (A++(x,s)::B)=oas A++(oas [(x,s)]++oas B):=by
   rw[ae,show(x,s)::B=[(x,s)]++B from rfl,ae]
  have d:oas (A++(y,.un)::B)=oas A++oas B:=by
   rw[ae,ad];cases y with
   | none=>rfl
   | some v=>cases v <;> rfl
  rw[c] at nd;rw[d];obtain⟨e,f,g⟩:=HY.mp nd;obtain⟨_,i,_⟩:=HY.mp f;exact HY.mpr ⟨e,i,λa j b k=>g a j b (HQ _ k)⟩
end
structure Rel(K:cc)(M P:al->Prop)(H0:Hp)(σ0 σ:St)(env:List Sl)(ts:List (V×Sl))(H:Hp):Prop where
 e : aW K M P H0 (ax σ env ts) H
 len:σ.length=env.length
 vw : ∀(v:V) (i:Nat),(v,Sl.vw i)∈ts->σ[i]? = some (some v)
 ios:∀(i:Nat) (ds:List ab),env[i]? = some (Sl.io ds)->σ[i]? = σ0[i]?
inductive Vw (K:cc) (N:al->Prop) (H:Hp):V->ab->Prop
 | dn {v d}:DN K N H v d->Vw K N H v d
 | ow {a vs ds}:H a=some (.lst vs)->DNs K N H vs ds->Vw K N H (.ref a) (.list ds)
 | dct {a:al}{es:List (a8×al×V)}{kvs:List (a8×ab)}:H a=some (.ext (cr a es))->DNs K N H (es.map λp=>V.ref p.2.1) (kvs.map λp=>dO p.1)->DNs K N H (es.map λp=>p.2.2) (kvs.map λp=>p.2)->es.map (λp=>p.1)=kvs.map (λp=>p.1)->Vw K N H (.ref a) (fb kvs)
def slD:Sl->Option ab
 | .fr d=>some d
 | .ow ds=>some (.list ds)
 | .io ds=>some (.list ds)
 | .tr _ (.dict kvs)=>some (.dict kvs)
 | _=>none
def aZ(env:List Sl):Sl->Option ab
 | .vw i=>(env[i]?).bind slD
 | .fr d=>some d
 | .ow ds=>some (.list ds)
 | .io ds=>some (.list ds)
 | .tr _ (.dict kvs)=>some (.dict kvs)
 | _=>none
def slK:Sl->Option ab
 | .fr d=>some d
 | _=>none
def be(env:List Sl):Sl->Option ab
 | .vw i=>(env[i]?).bind slK
 | .fr d=>some d
 | .ow ds=>some (.list ds)
 | .tr _ d=>some d
 | _=>none
section
variable {K:cc}{M P N:al->Prop}{H0 H H':Hp}{σ0 σ:St}{env:List Sl}{ts tt:List (V×Sl)}{v:V}{s:Sl}{d:ab}
theorem ar:ax σ env (ts++tt)=ax σ env ts++tmp tt:=by unfold ax;rw[Ja];simp[tmp]
theorem OT.dict_view(h:OT K N H v (.dict kvs) S):Vw K N H v (.dict kvs):=by
 generalize e:PyData.dict kvs=d at h;cases h with
 | dct h q r e2=>exact .dct h q r e2
 | fz h=>exact .dn (.fz h)
 | _=>cases e
theorem Vw.dv(h:Vw K N H v d):DV K H v d:=by
 cases h with
 | dn h=>exact h.dv
 | ow h q=>exact .lst (SqL.of h) q.dv
 | dct h q r e=>exact .dct h q.dv r.dv e
theorem Vw.list(h:Vw K N H v (.list ds)):∃a vs,v=.ref a/\SqL K H a vs/\DNs K N H vs ds:=by
 cases h with
 | dn h=>obtain⟨a,vs,e,s,q⟩:=h.list;exact⟨a,vs,e,s.sq,q⟩
 | ow h q=>exact⟨_,_,rfl,SqL.of h,q⟩
theorem Vw.tuple(h:Vw K N H v (.tuple ds)):∃a vs,v=.ref a/\SqT K H a vs/\DNs K N H vs ds:=by
 cases h with
 | dn h=>obtain⟨a,vs,e,s,q⟩:=h.tuple;exact⟨a,vs,e,s.sq,q⟩
theorem Vw.int(h:Vw K N H v (.int i)):v=.int i:=by
 cases h with
 | dn h=>cases h;rfl
theorem Vw.bool(h:Vw K N H v (.bool i)):v=.bl i:=by
 cases h with
 | dn h=>cases h;rfl
theorem Vw.none(h:Vw K N H v .none):v=.non:=by
 cases h with
 | dn h=>cases h;rfl
theorem tq(h:σ.length=env.length){i:Nat}(e:env[i]? = some s):∃x,σ[i]? = some x/\(x,s)∈σ.zip env:=by
 have hi:i<env.length:=(Ib.mp e).1;have hj:i<σ.length:=by omega
 refine⟨σ[i],HR hj,?_⟩;have hz:i<(σ.zip env).length:=by rw[IR];omega
 have:=IB hz;rw[IU] at this;rwa [(Ib.mp e).2] at this
theorem d7(m:(v,s)∈ts):((some v,s):Ent)∈ax σ env ts:=HQ _ (Ig.mpr ⟨(v,s),m,rfl⟩)
theorem Rel.slot(h:Rel K M P H0 σ0 σ env ts H){i:Nat}(e:env[i]? = some s):∃x,σ[i]? = some x/\(x,s)∈ax σ env ts:=by obtain⟨x,e1,m⟩:=tq h.len e;exact⟨x,e1,HV _ m⟩
theorem aW.viewE(h:aW K M P H0 E H)(m:(x,s)∈E)(e:slD s=some d):∃v,x=some v/\Vw K (Nw M E) H v d:=by
 cases s with
 | fr d' =>
  cases e;obtain⟨v,e1,dn⟩:=h.fr _ _ m;exact⟨v,e1,.dn dn⟩
 | ow ds =>
  cases e;obtain⟨a,vs,e1,e2,dn,_⟩:=h.ow _ _ m;exact⟨_,e1,.ow e2 dn⟩
 | io ds =>
  cases e;obtain⟨a,vs,e1,e2,dn,_⟩:=h.io _ _ m;exact⟨_,e1,.ow e2 dn⟩
 | un=>cases e
 | vw i=>cases e
 | tr S d' =>
  cases d' with
  | dict kvs =>
   cases e;obtain⟨v,e1,ot,_⟩:=h.tr _ _ _ m;exact⟨v,e1,ot.dict_view⟩
  | _=>cases e
theorem Rel.there(h:Rel K M P H0 σ0 σ env ts H){i:Nat}(e:(env[i]?).bind slD=some d):∃v,σ[i]? = some (some v)/\Vw K (Nw M (ax σ env ts)) H v d:=by
 cases q:env[i]? with
 | none=>rw[q] at e;cases e
 | some s =>
  rw[q] at e;obtain⟨x,e1,m⟩:=h.slot q;obtain⟨v,e2,w⟩:=h.e.viewE m e;exact⟨v,by rw[e1,e2],w⟩
theorem Rel.view(h:Rel K M P H0 σ0 σ env ts H)(m:(v,s)∈ts)(e:aZ env s=some d):Vw K (Nw M (ax σ env ts)) H v d:=by
 cases s with
 | vw i =>
  obtain⟨w,e1,q⟩:=h.there e;rw[h.vw v i m] at e1;cases e1;exact q
 | un=>cases e
 | tr S d' =>
  cases d' with
  | dict kvs=>obtain⟨w,e1,q⟩:=h.e.viewE (s:=.tr S (.dict kvs)) (d7 m) e;cases e1;exact q
  | _=>cases e
 | fr d'=>obtain⟨w,e1,q⟩:=h.e.viewE (d7 m) e;cases e1;exact q
 | ow d'=>obtain⟨w,e1,q⟩:=h.e.viewE (d7 m) e;cases e1;exact q
 | io d'=>obtain⟨w,e1,q⟩:=h.e.viewE (d7 m) e;cases e1;exact q
theorem iR(h:Nw M E b):Nw M (E++B) b:=by
 rcases h with h|h
 ·exact .inl h
 ·exact .inr (by rw[ae];exact HV _ h)
theorem Rel.drop(h:Rel K M P H0 σ0 σ env (ts++tt) H):Rel K M P H0 σ0 σ env ts H :=
 ⟨by have:=h.e;rw[ar] at this;exact this.drop,h.len,λv i m=>h.vw v i (HV _ m),h.ios⟩
theorem Rel.same(h:Rel K M P H0 σ0 σ env ts H)(k:aD H H'):Rel K M P H0 σ0 σ env ts H':=⟨h.e.same k,h.len,h.vw,h.ios⟩
theorem Rel.addFr(h:Rel K M P H0 σ0 σ env ts H)(dn:DN K (Nw M (ax σ env ts)) H v d):Rel K M P H0 σ0 σ env (ts++[(v,.fr d)]) H :=
 ⟨by rw[ar];exact h.e.addFr dn,h.len,(λw i m=>by
  rcases HX.mp m with m|m
  ·exact h.vw w i m
  ·rw[HW] at m;cases m),h.ios⟩
theorem Rel.addVw(h:Rel K M P H0 σ0 σ env ts H)(e:σ[i]? = some (some v)):Rel K M P H0 σ0 σ env (ts++[(v,.vw i)]) H :=
 ⟨by rw[ar];exact h.e.addVw,h.len,(λw i m=>by
  rcases HX.mp m with m|m
  ·exact h.vw w i m
  ·rw[HW] at m;cases m;exact e),h.ios⟩
theorem Rel.addOw(h:Rel K M P H0 σ0 σ env ts H)(a:H p=none)(dns:DNs K (Nw M (ax σ env ts)) H vs ds):Rel K M P H0 σ0 σ env (ts++[(.ref p,.ow ds)]) (upd H p (.lst vs)) :=
 ⟨by rw[ar];exact h.e.addOw a dns,h.len,(λw i m=>by
  rcases HX.mp m with m|m
  ·exact h.vw w i m
  ·rw[HW] at m;cases m),h.ios⟩
theorem Rel.res(h:Rel K M P H0 σ0 σ env (ts++tt) H)(k:aD H H')(dn:DN K (Nw M (ax σ env (ts++tt))) H' v d):Rel K M P H0 σ0 σ env (ts++[(v,.fr d)]) H' :=
 (h.drop.same k).addFr (dn.to λb _ _ z=>by rw[ar];exact iR z)
theorem Rel.resOw(h:Rel K M P H0 σ0 σ env (ts++tt) H)(a:H p=none)(dns:DNs K (Nw M (ax σ env (ts++tt))) H vs ds):Rel K M P H0 σ0 σ env (ts++[(.ref p,.ow ds)]) (upd H p (.lst vs)) :=
 h.drop.addOw a (dns.to λb _ _ z=>by rw[ar];exact iR z)
end
abbrev DE:=List Sl->(Sl->List Sl->Prop)->Prop
abbrev DT:=List Sl->(Bool->List Sl->Prop)->Prop
abbrev DA:=List Sl->(List Sl->List Sl->Prop)->Prop
structure Wn{α:Type}(a:α):Type
def dK(R:Sl->List Sl->Prop)(_:Wn R):Sl->List Sl->Prop:=R
theorem zQ(R:Sl->List Sl->Prop)(w:Wn R)(s:Sl)(env:List Sl):dK R w s env=R s env:=rfl
def dI(W:List Sl->Prop)(_:Wn W):List Sl->Prop:=W
theorem EK(W:List Sl->Prop)(w:Wn W)(env:List Sl):dI W w env=W env:=rfl
abbrev Wk(G Q:Prop):Prop:=(G->Q)->(Q->G)->Q->G
theorem tx{c:Bool}{p A d B f:Prop} [Decidable p](e:c=decide p)(a:d->A)(b:f->B)(h:if p then d else f):if c=true then A else B:=by
 subst e;by_cases q:p
 ·rw[ME q] at h;rw[ME (decide_eq_true q)];exact a h
 ·rw[MF q] at h;rw[MF λz=>q (of_decide_eq_true z)];exact b h
inductive up (K:cc) (t:DE) (σ:St) (H:Hp) (Q:VK):Prop
 | mk (M P:al->Prop) (H0:Hp) (σ0:St) (env:List Sl) (ts:List (V×Sl)) (R:Sl->List Sl->Prop):Rel K M P H0 σ0 σ env ts H->t env R ->
 (∀s env' v H',R s env'->Rel K M P H0 σ0 σ env' (ts++[(v,s)]) H'->Q v H')->up K t σ H Q
inductive upT (K:cc) (t:DT) (σ:St) (H:Hp) (Q:Bool->Hp->Prop):Prop
 | mk (M P:al->Prop) (H0:Hp) (σ0:St) (env:List Sl) (ts:List (V×Sl)) (R:Bool->List Sl->Prop):Rel K M P H0 σ0 σ env ts H->t env R ->
 (∀b env' H',R b env'->Rel K M P H0 σ0 σ env' ts H'->Q b H')->upT K t σ H Q
inductive upA (K:cc) (t:DA) (σ:St) (H:Hp) (Q:List V->Hp->Prop):Prop
 | mk (M P:al->Prop) (H0:Hp) (σ0:St) (env:List Sl) (ts:List (V×Sl)) (R:List Sl->List Sl->Prop):Rel K M P H0 σ0 σ env ts H->t env R ->
 (∀ss env' vs H',R ss env'->vs.length=ss.length->Rel K M P H0 σ0 σ env' (ts++vs.zip ss) H'->Q vs H')->upA K t σ H Q
theorem PE.imp(h:PE X e t)(k:∀σ H Q,t' σ H Q->t σ H Q):PE X e t':=λpins s σ H Q I hw=>h pins s σ H Q I (k σ H Q hw)
theorem PT.imp(h:PT X e t)(k:∀σ H Q,t' σ H Q->t σ H Q):PT X e t':=λpins s σ H Q I hw=>h pins s σ H Q I (k σ H Q hw)
theorem PW.imp(h:PW X e t)(k:∀σ H Q,t' σ H Q->t σ H Q):PW X e t':=λwh pins s σ H Q I hw=>h wh pins s σ H Q I (k σ H Q hw)
theorem PA.imp(h:PA X e t)(k:∀σ H Q,t' σ H Q->t σ H Q):PA X e t':=λpos pins s σ H Q I hw=>h pos pins s σ H Q I (k σ H Q hw)
section
variable {X:Cx}{K:cc}{pos:Pos}{a b c:ba}{ta tb tc:DE}{es:List ba}{tA tB':DT}{tl:DA}
def Fe(i:Nat):DE:=λenv R=>∃d,(env[i]?).bind slD=some d/\R (.vw i) env
theorem qv(i:Nat)(c:X.N[i]? = some x:=by rfl)(f:Vis X.env.scope x:=by first|exact o0 rfl|exact eb da|exact eb (eb rfl))(hd:(x==("__debug__" : bt))=false:=by decide)
  (b:(x==("__classdict__" : bt))=false:=by decide):PE X (.Name x pos) (up K (Fe i)):=(aG c f hd b).imp λσ H Q h=>by
 obtain⟨M,P,H0,σ0,env,ts,R,a,⟨d,e,g⟩,j⟩:=h;obtain⟨v,e1,_⟩:=a.there e;exact⟨v,e1,j _ _ _ _ g (a.addVw e1)⟩
theorem d8{α:Type}:∀{l:List α}{i:Nat}{x:α},l[i]? = some x->∃A B,l=A++x::B/\∀y,l.set i y=A++y::B
 | [],i,x,h=>by simp at h
 | z::l,0,x,h=>by
  simp at h;subst h;exact⟨[],l,rfl,λy=>rfl⟩
 | z::l,i+1,x,h=>by
  obtain⟨A,B,e1,e2⟩:=d8 (l:=l) (i:=i) (x:=x) (by simpa using h);exact⟨z::A,B,by rw[e1];rfl,λy=>by rw[List.set_cons_succ,e2 y];rfl⟩
theorem dU{α β:Type}(l:List α)(m:List β)(j:Nat):(l.zip m)[j]? = (l[j]?).bind λa=>(m[j]?).map λb=>(a,b):=by rw[fy,vb];cases l[j]? <;> cases m[j]? <;> rfl
theorem tp{σ:St}{env:List Sl}(h:σ[i]? = some x):σ.zip (env.set i s')=(σ.zip env).set i (x,s'):=by
 apply C1;intro j;by_cases hj:i=j
 ·subst hj;rw[JR,dU,dU,h];by_cases hi:i<env.length
  ·rw[Iy hi,HR hi];rfl
  ·rw[vl (by simp;omega),vl (by omega)];rfl
 ·rw[Ip hj,dU,dU,Ip hj]
theorem Rel.split{M P:al->Prop}{H0 H:Hp}{σ0 σ:St}{env:List Sl}{ts:List (V×Sl)}{i:Nat}{s:Sl}(h:Rel K M P H0 σ0 σ env ts H)(e:env[i]? = some s) :
  ∃x A B,σ[i]? = some x/\ax σ env ts=A++(x,s)::B/\∀s',ax σ (env.set i s') ts=A++(x,s')::B:=by
 obtain⟨x,e1,m⟩:=tq h.len e;have a:(σ.zip env)[i]? = some (x,s):=by rw[fy,vb,e1,e]
 obtain⟨A,B,b,c⟩:=d8 a;refine⟨x,A,B++tmp ts,e1,by unfold ax;rw[b];simp,λs'=>?_⟩;unfold ax;rw[tp e1,c];simp
def zR(i:Nat):DE:=λenv R=>match env[i]? with
 | some (.fr d)=>R (.fr d) env
 | some (.tr _ d)=>R (.fr d) (env.set i (.fr d))
 | some (.ow ds)=>R (.fr (.list ds)) (env.set i (.fr (.list ds)))
 | _=>False
theorem Rel.frz(h:Rel K M P H0 σ0 σ env ts H)(e:env[i]? = some (.ow ds)):Rel K M P H0 σ0 σ (env.set i (.fr (.list ds))) ts H:=by
 obtain⟨x,A,B,e1,b,c⟩:=h.split e;have r:=h.e;rw[b] at r;obtain⟨a,vs,z,_⟩:=r.ow _ _ (HQ _ H9);subst z;refine⟨by rw[c];exact r.freeze,by simp[h.len],h.vw,λj ds' e'=>?_⟩;by_cases hj:i=j
 ·subst hj;have hi:i<env.length:=(Ib.mp e).1;rw[Iy hi] at e';cases e'
 ·rw[Ip hj] at e';exact h.ios j ds' e'
theorem Rel.frzT(h:Rel K M P H0 σ0 σ env ts H)(e:env[i]? = some (.tr S d)):Rel K M P H0 σ0 σ (env.set i (.fr d)) ts H:=by
 obtain⟨x,A,B,e1,a,b⟩:=h.split e;have r:=h.e;rw[a] at r;obtain⟨v,z,_⟩:=r.tr _ _ _ (HQ _ H9);subst z;refine⟨by rw[b];exact r.freezeT,by simp[h.len],h.vw,λj ds' e'=>?_⟩;by_cases hj:i=j
 ·subst hj;have hi:i<env.length:=(Ib.mp e).1;rw[Iy hi] at e';cases e'
 ·rw[Ip hj] at e';exact h.ios j ds' e'
theorem qf(i:Nat)(g:X.N[i]? = some x:=by rfl)(j:Vis X.env.scope x:=by first|exact o0 rfl|exact eb da|exact eb (eb rfl))(hd:(x==("__debug__" : bt))=false:=by decide)
  (f:(x==("__classdict__" : bt))=false:=by decide):PE X (.Name x pos) (up K (zR i)):=(aG g j hd f).imp λσ H Q h=>by
 obtain⟨M,P,H0,σ0,env,ts,R,b,c,k⟩:=h;have key:∀env' d,Rel K M P H0 σ0 σ env' ts H->env'[i]? = some (.fr d)->R (.fr d) env'->iE i σ H Q:=λenv' d a e' l=>by
  obtain⟨n,e1,m⟩:=a.slot e';obtain⟨v,e2,dn⟩:=a.e.fr _ _ m;subst e2;exact⟨v,e1,k _ _ _ _ l (a.addFr dn)⟩
 unfold zR at c;split at c
 ·rename_i d e;exact key env d b e c
 ·rename_i S d e;have hi:i<env.length:=(Ib.mp e).1;exact key _ _ (b.frzT e) (Iy hi) c
 ·rename_i ds e;have hi:i<env.length:=(Ib.mp e).1;exact key _ _ (b.frz e) (Iy hi) c
 ·exact c.elim
def dC(d:ab):DE:=λenv R=>R (.fr d) env
theorem aj:PE X (.Constant (.int i) j pos) (up K (dC (.int i))):=bU.imp λσ H Q h=>by
 obtain⟨M,P,H0,σ0,env,ts,R,a,b,c⟩:=h;exact c _ _ _ _ b (a.addFr (.int i))
theorem gL:PE X (.Constant (.bool i) j pos) (up K (dC (.bool i))):=FR.imp λσ H Q h=>by
 obtain⟨M,P,H0,σ0,env,ts,R,a,b,c⟩:=h;exact c _ _ _ _ b (a.addFr (.bl i))
theorem oh:PE X (.Constant .none j pos) (up K (dC .none)):=uC.imp λσ H Q h=>by
 obtain⟨M,P,H0,σ0,env,ts,R,a,b,c⟩:=h;exact c _ _ _ _ b (a.addFr .non)
abbrev G2:=ab->ab->(ab->Prop)->Prop
def dOp(g:G2)(ta tb:DE):DE:=λenv R=>ta env λs1 b=>tb b λs2 a=>∃d1 d2,aZ a s1=some d1/\aZ a s2=some d2/\g d1 d2 λd=>R (.fr d) a
def b8(K:cc)(r:R2)(g:G2):Prop:=∀(N:al->Prop) (H:Hp) (x y:V) (d1 d2:ab) (R:ab->Prop) (Q:VK),Vw K N H x d1->Vw K N H y d2->g d1 d2 R->(∀d v,R d->DN K N H v d->Q v H)->r x y H Q
theorem xD(m:b8 K r g):∀σ H Q,up K (dOp g ta tb) σ H Q->tOp r (up K ta) (up K tb) σ H Q:=λσ H Q h=>by
 obtain⟨M,P,H0,σ0,env,ts,R,i,n,o⟩:=h;refine⟨M,P,H0,σ0,env,ts,_,i,n,λs1 c j H1 h1 e=>⟨M,P,H0,σ0,c,ts++[(j,s1)],_,e,h1,λs2 f k l h2 a=>?_⟩⟩;obtain⟨d1,d2,e1,e2,g⟩:=h2;refine m _ l j k d1 d2 _ Q (a.view (by simp) e1) (a.view (by simp) e2) g λd v p dn=>o _ _ _ _ p ?_;have b:Rel K M P H0 σ0 σ f (ts++[(j,s1),(k,s2)]) l:=by simpa using a
 exact b.res (aD.refl _) (by simpa using dn)
theorem bD(ho:OpR X (Kb op) r)(m:b8 K r g)(c:PE X a (up K ta))(d:PE X b (up K tb)):PE X (.BinOp a op b pos) (up K (dOp g ta tb)):=(xz ho c d).imp (xD m)
theorem uk(ho:OpR X (ky op) r)(m:b8 K r g)(c:PE X a (up K ta))(d:PE X b (up K tb))(e:Kv op b=false):PE X (.Compare a [op] [b] pos) (up K (dOp g ta tb)):=(AW ho c d e).imp (xD m)
def mS(t:DE):DT:=λenv R=>t env λs a=>∃k,aZ a s=some (.bool k)/\R k a
theorem nH{t:TE}{c:DE}(h:∀σ H Q,up K c σ H Q->t σ H Q):∀σ H Q,upT K (mS c) σ H Q->w9 t σ H Q:=λσ H Q f=>by
 obtain⟨M,P,H0,σ0,env,ts,R,b,g,i⟩:=f;refine h σ H _ ⟨M,P,H0,σ0,env,ts,_,b,g,λs1 d l H1 h1 a=>?_⟩;obtain⟨k,e,j⟩:=h1;exact⟨k,(a.view (by simp) e).bool,i _ _ _ j a.drop⟩
theorem aC(ho:OpR X (ky op) r)(m:b8 K r g)(c:PE X a (up K ta))(d:PE X b (up K tb))(e:Kv op b=false):PT X (.Compare a [op] [b] pos) (upT K (mS (dOp g ta tb))):=(uq ho c d e).imp (nH (xD m))
theorem bd(c:IxR X r)(m:b8 K r g)(d:PE X a (up K ta))(e:PE X b (up K tb))(f:gH b):PE X (.Subscript a b pos) (up K (dOp g ta tb)):=(ia c d e f).imp (xD m)
theorem cm(h:PE X e (up K t))(b:∀a,K2 e X.env a=(do let v <-a;Kz e.pos;Kd [v] (Qs v)):=by intro _;rfl):PT X e (upT K (mS t)):=(Dt h b).imp (nH λ_ _ _ h=>h)
def GC(t u:DT):DT:=λenv R=>t env λk a=>if k=true then u a R else R false a
def dOr(t u:DT):DT:=λenv R=>t env λk a=>if k=true then R true a else u a R
def Fh(t:DT):DT:=λenv R=>t env λk a=>R (!k) a
theorem Ax(b:PT X a (upT K tA)):PW X (.BoolOp .And [a] pos) (upT K tA):=AK b
theorem dP(b:PT X a (upT K tA)):PW X (.BoolOp .Or [a] pos) (upT K tA):=Dq b
theorem C5(g:PT X a (upT K tA))(i:PW X (.BoolOp .And (b::es) pos) (upT K tB')):PW X (.BoolOp .And (a::b::es) pos) (upT K (GC tA tB')):=(Ds g i).imp λσ H Q h=>by
 obtain⟨M,P,H0,σ0,env,ts,R,e,j,f⟩:=h;refine⟨M,P,H0,σ0,env,ts,_,e,j,λk d H1 h1 c=>?_⟩;cases k with
 | true=>exact⟨M,P,H0,σ0,d,ts,R,c,h1,f⟩
 | false=>exact f _ _ _ h1 c
theorem eX(g:PT X a (upT K tA))(i:PW X (.BoolOp .Or (b::es) pos) (upT K tB')):PW X (.BoolOp .Or (a::b::es) pos) (upT K (dOr tA tB')):=(FP g i).imp λσ H Q h=>by
 obtain⟨M,P,H0,σ0,env,ts,R,e,j,f⟩:=h;refine⟨M,P,H0,σ0,env,ts,_,e,j,λk d H1 h1 c=>?_⟩;cases k with
 | false=>exact⟨M,P,H0,σ0,d,ts,R,c,h1,f⟩
 | true=>exact f _ _ _ h1 c
theorem cn(e:PT X a (upT K tA)):PT X (.UnaryOp .Not a pos) (upT K (Fh tA)):=(Du e).imp λσ H Q h=>by
 obtain⟨M,P,H0,σ0,env,ts,R,c,f,g⟩:=h;exact⟨M,P,H0,σ0,env,ts,_,c,f,λk d H1 h1 b=>g _ _ _ h1 b⟩
def B9(t u:DE):DE:=λenv R=>t env λs a=>∃k,aZ a s=some (.bool k)/\if k=true then u a R else R (.fr (.bool false)) a
theorem xo(h:PE X a (up K ta)):PE X (.BoolOp op [a] pos) (up K ta):=DH h
theorem sv(i:PE X a (up K ta))(j:PE X (.BoolOp .And (b::es) pos) (up K tb)):PE X (.BoolOp .And (a::b::es) pos) (up K (B9 ta tb)):=(DK i j).imp λσ H Q h=>by
 obtain⟨M,P,H0,σ0,env,ts,R,f,l,g⟩:=h;refine⟨M,P,H0,σ0,env,ts,_,f,l,λs1 d m H1 h1 c=>?_⟩;obtain⟨k,e,h1⟩:=h1;refine⟨k,(c.view (by simp) e).bool,?_⟩;cases k with
 | true=>exact⟨M,P,H0,σ0,d,ts,R,c.drop,h1,g⟩
 | false=>exact g _ _ _ _ h1 (c.drop.addFr (.bl false))
def dIf(t:DT)(ta tb:DE):DE:=λenv R=>t env λk a=>if k=true then ta a R else tb a R
theorem uj(hc:PT X c (upT K tA))(i:PE X a (up K ta))(j:PE X b (up K tb)):PE X (.IfExp c a b pos) (up K (dIf tA ta tb)):=(xA hc i j).imp λσ H Q h=>by
 obtain⟨M,P,H0,σ0,env,ts,R,f,l,g⟩:=h;refine⟨M,P,H0,σ0,env,ts,_,f,l,λk d H1 h1 e=>?_⟩;cases k with
 | true=>exact⟨M,P,H0,σ0,d,ts,R,e,h1,g⟩
 | false=>exact⟨M,P,H0,σ0,d,ts,R,e,h1,g⟩
def mU(g g':G2)(ta tb tc:DE):DE:=λenv R=>ta env λs1 c=>tb c λs2 a=>∃d1 d2,aZ a s1=some d1/\aZ a s2=some d2/\g d1 d2 λd=>∃k,d=.bool k /\
 if k=true then tc a λf b=>∃e d3,aZ b s2=some e/\aZ b f=some d3/\g' e d3 λd'=>R (.fr d') b else R (.fr (.bool false)) a
theorem rL(m:b8 K r g)(A:b8 K u g'):∀σ H Q,up K (mU g g' ta tb tc) σ H Q->tI r u (up K ta) (up K tb) (up K tc) σ H Q:=λσ H Q h=>by
 obtain⟨M,P,H0,σ0,env,ts,R,q,B,w⟩:=h;refine⟨M,P,H0,σ0,env,ts,_,q,B,λs1 j l H1 h1 n=>⟨M,P,H0,σ0,j,ts++[(l,s1)],_,n,h1,λs2 e o x h2 a=>?_⟩⟩;obtain⟨d1,d2,e1,e2,g⟩:=h2;have b:Rel K M P H0 σ0 σ e (ts++[(l,s1),(o,s2)]) x:=by simpa using a
 refine m _ x l o d1 d2 _ _ (a.view (by simp) e1) (a.view (by simp) e2) g λd v i dn=>?_;obtain⟨k,rfl,i⟩:=i;cases dn;refine⟨k,rfl,?_⟩;cases k with
 | false=>exact w _ _ _ _ i (b.drop.addFr (.bl false))
 | true =>
  refine⟨M,P,H0,σ0,e,ts++[(l,s1),(o,s2)],_,b,i,λC p y z D c=>?_⟩;obtain⟨s,d3,t,e3,g'⟩:=D;refine A _ z o y s d3 _ Q (c.view (by simp) t) (c.view (by simp) e3) g' λd v i dn=>w _ _ _ _ i ?_;have f:Rel K M P H0 σ0 σ p (ts++[(l,s1),(o,s2),(y,C)]) z:=by simpa using c
  exact f.res (aD.refl _) (by simpa using dn)
theorem um(ho:OpR X (ky op) r)(m:b8 K r g)(e:OpR X (ky d) f)(h:b8 K f g')(i:PE X a (up K ta))(j:PE X b (up K tb))(hc:PE X c (up K tc))
  (k:QD [op,d] [b,c]=false:=by with_unfolding_all rfl):PE X (.Compare a [op,d] [b,c] pos) (up K (mU g g' ta tb tc)):=(xB ho e i j hc k).imp (rL m h)
theorem xk(ho:OpR X (ky op) r)(m:b8 K r g)(e:OpR X (ky d) f)(h:b8 K f g')(i:PE X a (up K ta))(j:PE X b (up K tb))(hc:PE X c (up K tc))
  (k:QD [op,d] [b,c]=false:=by with_unfolding_all rfl):PT X (.Compare a [op,d] [b,c] pos) (upT K (mS (mU g g' ta tb tc))):=(xt ho e i j hc k).imp (nH (rL m h))
abbrev G1:=ab->(ab->Prop)->Prop
def dUn(g:G1)(ta:DE):DE:=λenv R=>ta env λs1 a=>∃d1,aZ a s1=some d1/\g d1 λd=>R (.fr d) a
theorem C8(ho:UnR X (unaryOp op) r)(m:∀(N:al->Prop) (H:Hp) (x:V) (d1:ab) (R:ab->Prop) (Q:VK),Vw K N H x d1->g d1 R->(∀d v,R d->DN K N H v d->Q v H)->r x H Q)
  (f:PE X a (up K ta)):PE X (.UnaryOp op a pos) (up K (dUn g ta)):=(DF ho f).imp λσ H Q h=>by
 obtain⟨M,P,H0,σ0,env,ts,R,c,i,j⟩:=h;refine⟨M,P,H0,σ0,env,ts,_,c,i,λs1 e k H1 h1 b=>?_⟩;obtain⟨d1,e1,g⟩:=h1;exact m _ H1 k d1 _ Q (b.view (by simp) e1) g λd v l dn=>j _ _ _ _ l (b.res (aD.refl _) dn)
def Fi:DA:=λenv R=>R [] env
def yA(t:DE)(u:DA):DA:=λenv R=>t env λs a=>u a λss b=>R (s::ss) b
theorem ac:PA X [] (upA K Fi):=bA.imp λσ H Q h=>by
 obtain⟨M,P,H0,σ0,env,ts,R,a,b,c⟩:=h;exact c [] env [] H b rfl (by simpa using a)
theorem aa(i:PE X a (up K ta))(j:PA X es (upA K tl))(k:j1 (a::es) X.env=(false,eval a X.env)::j1 es X.env:=by rfl):PA X (a::es) (upA K (yA ta tl)):=(aA i j k).imp λσ H Q h=>by
 obtain⟨M,P,H0,σ0,env,ts,R,f,l,m⟩:=h;refine⟨M,P,H0,σ0,env,ts,_,f,l,λs1 b g H1 h1 c=>⟨M,P,H0,σ0,b,ts++[(g,s1)],_,c,h1,λss d vs n h2 o e=>?_⟩⟩;exact m (s1::ss) d (g::vs) n h2 (by simp[o]) (by simpa using e)
end
section
variable {K:cc}{M P N:al->Prop}{H0 H:Hp}{σ0 σ:St}{env:List Sl}{ts tt:List (V×Sl)}{v:V}{s:Sl}{d:ab}
def gI(f:Int->Int->Int):G2:=λd e R=>∃i j,d=.int i/\e=.int j/\R (.int (f i j))
def gIC(C:Int->Int->Prop)(f:Int->Int->Int):G2:=λd e R=>∃i j,d=.int i/\e=.int j/\C i j/\R (.int (f i j))
def gB(f:Int->Int->Bool):G2:=λd e R=>∃i j,d=.int i/\e=.int j/\R (.bool (f i j))
theorem mI:b8 K (rI0 λi j=>.int (f i j)) (gI f):=by rintro N H x y d e R Q a b ⟨i,j,rfl,rfl,c⟩ g;exact⟨i,j,a.int,b.int,g _ _ c (.int _)⟩
theorem mIC:b8 K (rI C λi j=>.int (f i j)) (gIC C f):=by rintro N H x y d e R Q a b ⟨i,j,rfl,rfl,c,g⟩ h;exact⟨i,j,a.int,b.int,c,h _ _ g (.int _)⟩
theorem mB:b8 K (rI0 λi j=>.bl (f i j)) (gB f):=by rintro N H x y d e R Q a b ⟨i,j,rfl,rfl,c⟩ g;exact⟨i,j,a.int,b.int,g _ _ c (.bl _)⟩
theorem xQ:b8 K rEq (gB λi j=>decide (i=j)):=by rintro N H x y d e R Q a b ⟨i,j,rfl,rfl,c⟩ f;rw[a.int,b.int];refine⟨rfl,?_⟩;have q:=f _ _ c (.bl _);rwa [show decide (V.int i=V.int j)=decide (i=j) by simp]
theorem D0:b8 K rNe (gB λi j=>!decide (i=j)):=by rintro N H x y d e R Q a b ⟨i,j,rfl,rfl,c⟩ f;rw[a.int,b.int];refine⟨rfl,?_⟩;have q:=f _ _ c (.bl _);rwa [show decide (V.int i=V.int j)=decide (i=j) by simp]
def gBB(f:Bool->Bool->Bool):G2:=λd e R=>∃i j,d=.bool i/\e=.bool j/\R (.bool (f i j))
theorem FV:b8 K (λx y H Q=>∃b c,x=.bl b/\y=.bl c/\Q (.bl (b != c)) H) (gBB λi j=>i != j):=by rintro N H x y d e R Q a f ⟨i,j,rfl,rfl,g⟩ h;exact⟨i,j,a.bool,f.bool,h _ _ g (.bl _)⟩
def gEq:G2:=λd e R=>shp d/\shp e/\R (.bool (hZ d e))
def gNe:G2:=λd e R=>shp d/\shp e/\R (.bool (!PyData.eqv d e))
theorem mEq:b8 K (FM K) gEq:=λN H x y d e R Q a b ⟨h1,h2,c⟩ f=>⟨d,e,a.dv,b.dv,h1,h2,f _ _ c (.bl _)⟩
theorem mNe:b8 K (FJ K) gNe:=λN H x y d e R Q a b ⟨h1,h2,c⟩ f=>⟨d,e,a.dv,b.dv,h1,h2,f _ _ c (.bl _)⟩
def o5:ab->Bool
 | .none=>true
 | _=>false
theorem Vw.isNon(w:Vw K N H v d):decide (v=.non)=o5 d:=by
 cases w with
 | dn h =>
  cases h with
  | fz h=>obtain⟨a,xs,e,_⟩:=h.list;subst e;simp[o5]
  | _=>simp[o5]
 | ow h q=>simp[o5]
 | dct h q r e=>simp[o5]
def Gb:G2:=λd e R=>e=.none/\R (.bool (o5 d))
def yi:G2:=λd e R=>e=.none/\R (.bool (!o5 d))
theorem G3:b8 K (λx y H Q=>y=.non/\Q (.bl (decide (x=.non))) H) Gb:=by rintro N H x y d e R Q a b ⟨rfl,c⟩ f;exact⟨b.none,by rw[a.isNon];exact f _ _ c (.bl _)⟩
theorem DY:b8 K (λx y H Q=>y=.non/\Q (.bl (!decide (x=.non))) H) yi:=by rintro N H x y d e R Q a b ⟨rfl,c⟩ f;exact⟨b.none,by rw[a.isNon];exact f _ _ c (.bl _)⟩
def gi:ab->Option (List ab)
 | .list ds=>some ds
 | .tuple ds=>some ds
 | _=>none
def Ej:ab->Option Int
 | .int i=>some i
 | _=>none
def bS:List ab->Option (List Int)
 | []=>some []
 | d::ds=>(Ej d).bind λi=>(bS ds).map (i::·)
theorem bo:∀ns:List Int,bS (ns.map .int)=some ns
 | []=>rfl
 | n::ns=>by rw[ID,bS,bo ns];rfl
theorem cT:∀{ds:List ab}{ns:List Int},bS ds=some ns->ds=ns.map .int
 | [],ns,h=>by cases h;rfl
 | d::ds,ns,h=>by
  unfold bS at h;cases d <;> simp[Ej] at h
  obtain⟨ms,h1,rfl⟩:=h;rw[cT h1];rfl
theorem Vw.seq(w:Vw K N H v d)(e:gi d=some ds):∃a vs,v=.ref a/\(SqL K H a vs\/SqT K H a vs)/\DNs K N H vs ds:=by
 cases d <;> simp[gi] at e
 ·subst e;obtain⟨a,vs,e1,s,q⟩:=w.list;exact⟨a,vs,e1,.inl s,q⟩
 ·subst e;obtain⟨a,vs,e1,s,q⟩:=w.tuple;exact⟨a,vs,e1,.inr s,q⟩
theorem yb(i:Int)(ns:List Int):inV (.int i) (ns.map V.int)=decide (i∈ns):=by
 unfold inV
 induction ns with
 | nil=>rfl
 | cons n r a =>
  rw[ID,rj,a];have:eqV (.int n) (.int i)=decide (n=i):=(show eqV (.int n) (.int i)=(n==i) from rfl).trans (by rw[JL];simp);rw[this];by_cases h1:n=i
  ·simp[h1]
  ·have:¬i=n:=λz=>h1 z.symm;simp[h1,this]
theorem vx(ns:List Int):(ns.map V.int).all kP=true:=by rw[Jh];intro x hx;obtain⟨n,_,rfl⟩:=Ig.mp hx;rfl
def gIn:G2:=λd e R=>∃i ds ns,d=.int i/\gi e=some ds/\bS ds=some ns/\R (.bool (decide (i∈ns)))
theorem mIn:b8 K (rIn K false) gIn:=by rintro N H x y d e R Q b c ⟨i,ds,ns,rfl,e1,e2,f⟩ g;obtain⟨a,vs,rfl,s,q⟩:=c.seq e1;rw[cT e2] at q;rw[q.ints] at s;rw[b.int];refine⟨a,_,rfl,s,rfl,vx ns,?_⟩;rw[yb];exact g _ _ f (.bl _)
def pb:G2:=λd e R=>∃ds,e=.list ds/\shp d/\shp e/\R (.bool (!ds.any λx=>hZ x d))
theorem Ba:b8 K (nX K) pb:=by rintro N H x y d e R Q a b ⟨ds,rfl,h1,h2,c⟩ f;exact⟨d,ds,a.dv,b.dv,h1,h2,f _ _ c (.bl _)⟩
theorem DNs.atI(q:DNs K N H vs ds)(h:_L.atI ds i=some e):∃v,_L.atI vs i=some v/\DN K N H v e:=by
 unfold _L.atI at h ⊢;rw[q.len];cases hj:ixN ds.length i with
 | none=>rw[hj] at h;cases h
 | some j =>
  rw[hj] at h;have h:ds[j]? = some e:=h;have a:j<vs.length:=by rw[q.len];exact(Ib.mp h).1
  obtain⟨e',h1,h2⟩:=q.get (HR a);rw[h] at h1;cases h1;exact⟨vs[j],HR a,h2⟩
def gIx:G2:=λd e R=>∃ds i x,gi d=some ds/\e=.int i/\atI ds i=some x/\R x
def E4(K:cc):R2:=λx y H Q=>GZ K x y H Q\/GY K x y H Q
theorem ai(hK:X.K=K):IxR X (E4 K):=by subst hK;exact IxR.or Bq Ee
theorem mIx:b8 K (E4 K) gIx:=by
 rintro N H x y d e R Q g b ⟨ds,i,z,e1,rfl,e2,c⟩ f;obtain⟨a,vs,rfl,s,q⟩:=g.seq e1;obtain⟨u,e3,dn⟩:=q.atI e2;rcases s with s|s
 ·exact .inl ⟨a,vs,i,u,rfl,b.int,s,e3,f _ _ c dn⟩
 ·exact .inr ⟨a,vs,i,u,rfl,b.int,s,e3,f _ _ c dn⟩
inductive Vws (K:cc) (N:al->Prop) (H:Hp):List V->List ab->Prop
 | nil:Vws K N H [] []
 | cons {v d vs ds}:Vw K N H v d->Vws K N H vs ds->Vws K N H (v::vs) (d::ds)
def fJ(env:List Sl):List Sl->Option (List ab)
 | []=>some []
 | s::ss=>(aZ env s).bind λd=>(fJ env ss).bind λds=>some (d::ds)
theorem Rel.views(h:Rel K M P H0 σ0 σ env ts H):∀{vs:List V}{ss:List Sl}{ds:List ab},vs.length=ss.length->(∀p∈vs.zip ss,p∈ts)->fJ env ss=some ds->Vws K (Nw M (ax σ env ts)) H vs ds
 | [],[],_,_,_,e=>by cases e;exact .nil
 | v :: vs,s::ss,ds,a,b,e=>by
  unfold fJ at e;cases e1:aZ env s with
  | none=>rw[e1] at e;cases e
  | some d =>
   rw[e1] at e;cases e2:fJ env ss with
   | none=>rw[e2] at e;cases e
   | some ds' =>
    rw[e2] at e;cases e;exact .cons (h.view (b _ (by simp)) e1) (h.views (by simpa using a) (λp c=>b p (by simp[c])) e2)
 | [],_::_,_,a,_,_=>by simp at a
 | _::_,[],_,a,_,_=>by simp at a
abbrev GB:=List ab->(ab->Prop)->Prop
def dCB(g:GB)(t:DA):DE:=λenv R=>t env λss a=>∃ds,fJ a ss=some ds/\g ds λd=>R (.fr d) a
def jf(K:cc)(r:List V->Hp->VK->Prop)(g:GB):Prop:=∀(N:al->Prop) (H:Hp) (xs:List V) (ds:List ab) (R:ab->Prop) (Q:VK),Vws K N H xs ds->g ds R->(∀d v,R d->DN K N H v d->Q v H)->r xs H Q
theorem GE(m:jf K r g):∀σ H Q,up K (dCB g tl) σ H Q->tCB r (upA K tl) σ H Q:=λσ H Q h=>by
 obtain⟨M,P,H0,σ0,env,ts,R,b,f,i⟩:=h;refine⟨M,P,H0,σ0,env,ts,_,b,f,λss c vs H1 h1 j a=>?_⟩;obtain⟨ds,e,g⟩:=h1;exact m _ H1 vs ds _ Q (a.views j (λp k=>HQ _ k) e) g λd v l dn=>i _ _ _ _ l (a.res (aD.refl _) dn)
section
variable {X:Cx}{x:bt}{p pos:Pos}{e:ba}{es:List ba}{tl:DA}{id:String}{r:List V->Hp->VK->Prop}{g:GB}
theorem dG(hc:fg X (.builtin id) r)(m:jf K r g)(c:Gl X x)(d:X.mg x=none)(f:J6 x=some (.builtin id))(h:PA X (e::es) (upA K tl))(hn:x ≠ "__name__" := by decide)(a:(x==("__debug__" : bt))=false:=by decide)
  (i:j1 (e::es) X.env=(false,eval e X.env)::j1 es X.env:=by rfl) (b:(qs pos (j1 es X.env)).any (·.1)=false:=by rfl):PE X (.Call (.Name x p) (e::es) [] pos) (up K (dCB g tl)) :=
 (kj hc c d f h hn a i b).imp (GE m)
end
def Fb:GB:=λds R=>∃d es,ds=[d]/\gi d=some es/\R (.int es.length)
theorem fi:jf K (λxs H Q=>∃p ys,xs=[.ref p]/\(SqL K H p ys\/SqT K H p ys)/\Q (.int ys.length) H) Fb:=by
 rintro N H xs ds R Q w ⟨d,es,rfl,e1,b⟩ c;cases w with
 | cons e f =>
  cases f;obtain⟨a,vs,rfl,s,q⟩:=e.seq e1;refine⟨a,vs,rfl,s,?_⟩;rw[q.len];exact c _ _ b (.int _)
def F9:GB:=λds R=>∃i j,ds=[.int i,.int j]/\R (.int (if j>i then j else i))
theorem Hv:jf K (λxs H Q=>∃i j,xs=[.int i,.int j]/\Q (.int (if j>i then j else i)) H) F9:=by
 rintro N H xs ds R Q w ⟨i,j,rfl,b⟩ c;cases w with
 | cons d a =>
  cases a with
  | cons a e =>
   cases e;exact⟨i,j,by rw[d.int,a.int],c _ _ b (.int _)⟩
def zU:ab->Option Bool
 | .bool i=>some i
 | _=>none
def gF:List ab->Option (List Bool)
 | []=>some []
 | d::ds=>(zU d).bind λi=>(gF ds).map (i::·)
theorem fF:∀ns:List Bool,gF (ns.map .bool)=some ns
 | []=>rfl
 | n::ns=>by rw[ID,gF,fF ns];rfl
theorem gY:∀{ds:List ab}{ns:List Bool},gF ds=some ns->ds=ns.map .bool
 | [],ns,h=>by cases h;rfl
 | d::ds,ns,h=>by
  unfold gF at h;cases d <;> simp[zU] at h
  obtain⟨ms,h1,rfl⟩:=h;rw[gY h1];rfl
theorem DNs.bools:∀{ns:List Bool}{v:List V},DNs K N H v (ns.map .bool)->v=ns.map V.bl
 | [],_,.nil=>rfl
 | n::r,_,.cons h q=>by
  cases h;rw[q.bools];rfl
def Gd:GB:=λds R=>∃es bs,ds=[.list es]/\gF es=some bs/\R (.bool (bs.all id))
theorem FW:jf K (λxs H Q=>∃(a:al) (bs:List Bool),xs=[.ref a]/\SqL K H a (bs.map V.bl)/\Q (.bl (bs.all id)) H) Gd:=by
 rintro N H xs ds R Q w ⟨es,bs,rfl,e1,b⟩ c;cases w with
 | cons d e =>
  cases e;obtain⟨a,vs,rfl,s,q⟩:=d.list;rw[gY e1] at q;rw[q.bools] at s;exact⟨a,bs,rfl,s,c _ _ b (.bl _)⟩
def bu(env:List Sl):List Sl->Option (List ab)
 | []=>some []
 | s::ss=>(be env s).bind λd=>(bu env ss).bind λds=>some (d::ds)
theorem Rel.kept(h:Rel K M P H0 σ0 σ env (ts++tt) H)(m:(v,s)∈tt)(e:be env s=some d):DN K (Nw M (ax σ env ts)) H v d:=by
 have c:=h.e;rw[ar] at c;have sub:∀b,Nw M (ax σ env ts) b->Nw M (ax σ env ts++tmp tt) b:=λb z=>iR z;have mm:((some v,s):Ent)∈ax σ env ts++tmp tt:=HQ _ (Ig.mpr ⟨(v,s),m,rfl⟩);cases s with
 | fr d' =>
  cases e;obtain⟨v',e1,dn⟩:=c.fr _ _ mm;cases e1;exact dn.to λb _ _ z=>sub b z
 | ow ds =>
  cases e;obtain⟨a,vs,e1,e2,dn,f⟩:=c.ow _ _ mm;cases e1;refine .lst (SnL.of e2 ?_) (dn.to λb _ _ z=>sub b z);rintro(z|z)
  ·exact c.mt a z f
  ·have nd:=c.nd;rw[ae] at nd;exact(HY.mp nd).2.2 a z a (aV.mpr ⟨_,Ig.mpr ⟨_,m,rfl⟩,HW.mpr rfl⟩) rfl
 | tr S d' =>
  cases e;obtain⟨v',e1,ot,f⟩:=c.tr _ _ _ mm;cases e1;refine ot.dn sub λa g=>?_;rintro(z|z)
  ·exact c.mt a z (f a g)
  ·have nd:=c.nd;rw[ae] at nd;exact(HY.mp nd).2.2 a z a (aV.mpr ⟨_,Ig.mpr ⟨_,m,rfl⟩,by rw[aq];exact g⟩) rfl
 | vw i =>
  have e:(env[i]?).bind slK=some d:=e;cases q:env[i]? with
  | none=>rw[q] at e;cases e
  | some s' =>
   rw[q] at e;cases s' with
   | fr d' =>
    cases e;obtain⟨x,e1,m1⟩:=h.slot q;rw[ar] at m1;obtain⟨v',e2,dn⟩:=c.fr _ _ m1;have e3:=h.vw v i (HQ _ m);rw[e1,e2] at e3;cases e3;exact dn.to λb _ _ z=>sub b z
   | _=>cases e
 | _=>cases e
theorem Rel.keptAll(h:Rel K M P H0 σ0 σ env (ts++tt) H):∀{vs:List V}{ss:List Sl}{ds:List ab},vs.length=ss.length->(∀p∈vs.zip ss,p∈tt)->bu env ss=some ds->DNs K (Nw M (ax σ env ts)) H vs ds
 | [],[],_,_,_,e=>by cases e;exact .nil
 | v :: vs,s::ss,ds,a,b,e=>by
  unfold bu at e;cases e1:be env s with
  | none=>rw[e1] at e;cases e
  | some d =>
   rw[e1] at e;cases e2:bu env ss with
   | none=>rw[e2] at e;cases e
   | some ds' =>
    rw[e2] at e;cases e;exact .cons (h.kept (b _ (by simp)) e1) (h.keptAll (by simpa using a) (λp c=>b p (by simp[c])) e2)
 | [],_::_,_,a,_,_=>by simp at a
 | _::_,[],_,a,_,_=>by simp at a
theorem Rel.newAddr(h:Rel K M P H0 σ0 σ env ts H)(a:H p=none):¬Nw M (ax σ env ts) p:=by
 rintro(z|z)
 ·exact h.e.live p (h.e.mt p z) a
 ·obtain⟨vs,q,_⟩:=h.e.own z;rw[a] at q;cases q
theorem Rel.resTup(h:Rel K M P H0 σ0 σ env (ts++tt) H)(a:H p=none)(dns:DNs K (Nw M (ax σ env ts)) H vs ds):Rel K M P H0 σ0 σ env (ts++[(.ref p,.fr (.tuple ds))]) (upd H p (.tup vs)) :=
 (h.drop.same (aD.new a)).addFr (.tup (SnT.of aw (h.drop.newAddr a)) (dns.keep (aN.same (aD.new a))))
section
variable {X:Cx}{p pos:Pos}{e:ba}{es:List ba}{tl:DA}
def Cv(t:DA):DE:=λenv R=>t env λss a=>∃ds,bu a ss=some ds/\ss.length<=sizeLine/\R (.fr (.tuple ds)) a
def Fj(t:DA):DE:=λenv R=>t env λss a=>∃ds,bu a ss=some ds/\ss.length<=sizeLine/\R (.ow ds) a
theorem hV(h:PA X es (upA K tl)):PE X (.Tuple es x1 pos) (up K (Cv tl)):=(fh h).imp λσ H Q h=>by
 obtain⟨M,P,H0,σ0,env,ts,R,b,f,g⟩:=h;refine⟨M,P,H0,σ0,env,ts,_,b,f,λss d vs H1 h1 i a=>?_⟩;obtain⟨ds,e,hz,j⟩:=h1;exact⟨by omega,λp c=>g _ _ _ _ j (a.resTup c (a.keptAll i (λp c=>c) e))⟩
theorem cw(h:PA X es (upA K tl)):PE X (.List es pos) (up K (Fj tl)):=(qz h).imp λσ H Q h=>by
 obtain⟨M,P,H0,σ0,env,ts,R,b,f,g⟩:=h;refine⟨M,P,H0,σ0,env,ts,_,b,f,λss d vs H1 h1 i a=>?_⟩;obtain⟨ds,e,hz,j⟩:=h1;exact⟨by omega,λp c=>g _ _ _ _ j (a.drop.addOw c (a.keptAll i (λp c=>c) e))⟩
end
end
def CY(K:cc):R2:=λx y H Q=>∃l b xs a,x=.ref l/\y=.ref b/\SqL K H l xs/\SqL K H b a/\xs.length+a.length<=sizeLine/\∀p,H p=none->Q (.ref p) (upd H p (.lst (xs++a)))
theorem dH{X:Cx}{K:cc}(hK:X.K=K):OpR X (Kb .Add) (CY K):=by
 subst hK;intro pins s σ H x y v u Q I m o h;obtain⟨l,b,xs,C,rfl,rfl,p,t,hz,q⟩:=h;cases m;cases o;obtain⟨c,r,⟨⟨cls,dd,data,sl⟩,n,ho,hc,_,hd⟩,z⟩:=I.list p;obtain⟨a,j,⟨⟨k,g,data2,i⟩,w,d,e,_,f⟩,z2⟩:=I.list t;simp only at hc hd e f;subst hc hd e f;have D:=r.length;have A:=j.length;refine Qg ⟨_,ho,rfl⟩ ⟨_,d,rfl⟩ noFill_list_add seq_list_add PySem.F.slot_list_add PySem.F.entry_list_add (PySem.F.args_list_add_2 _ _) (list_addW l b c.toArray a.toArray n w dd g sl i (by rw[Ii,Ii];omega)) ⟨ho,d,?_⟩;have B:c.toArray++a.toArray=(c++a).toArray:=by simp
 rw[B];exact⟨.ref _,_,I.lnew (t':=s.toks) (r.append j) (by rw[Ix];omega),rfl,q _ I.fresh⟩
section
variable {K:cc}{M P N:al->Prop}{H0 H H':Hp}{σ0 σ:St}{env:List Sl}{ts:List (V×Sl)}{v:V}{s:Sl}{d:ab}
variable {X:Cx}{x:bt}{p pos:Pos}{a b e:ba}{es:List ba}{ta tb:DE}{tl:DA}
def EI(g:ab->ab->(List ab->Prop)->Prop)(ta tb:DE):DE:=λenv R=>ta env λs1 b=>tb b λs2 a=>∃d1 d2,aZ a s1=some d1/\aZ a s2=some d2/\g d1 d2 λds=>R (.ow ds) a
def wG(K:cc)(r:R2)(g:ab->ab->(List ab->Prop)->Prop):Prop:=∀(N:al->Prop) (H:Hp) (x y:V) (d1 d2:ab) (R:List ab->Prop) (Q:VK),Vw K N H x d1->Vw K N H y d2->g d1 d2 R ->
 (∀ds vs p,R ds->DNs K N H vs ds->H p=none->Q (.ref p) (upd H p (.lst vs)))->r x y H Q
theorem DR(m:wG K r g):∀σ H Q,up K (EI g ta tb) σ H Q->tOp r (up K ta) (up K tb) σ H Q:=λσ H Q h=>by
 obtain⟨M,P,H0,σ0,env,ts,R,f,l,n⟩:=h;refine⟨M,P,H0,σ0,env,ts,_,f,l,λs1 c i H1 h1 d=>⟨M,P,H0,σ0,c,ts++[(i,s1)],_,d,h1,λs2 e j k h2 a=>?_⟩⟩;obtain⟨d1,d2,e1,e2,g⟩:=h2;refine m _ k i j d1 d2 _ Q (a.view (by simp) e1) (a.view (by simp) e2) g λds vs p o dns q=>n _ _ _ _ o ?_;have b:Rel K M P H0 σ0 σ e (ts++[(i,s1),(j,s2)]) k:=by simpa using a
 exact b.resOw q (by simpa using dns)
theorem lP(ho:OpR X (Kb op) r)(m:wG K r g)(c:PE X a (up K ta))(d:PE X b (up K tb)):PE X (.BinOp a op b pos) (up K (EI g ta tb)):=(xz ho c d).imp (DR m)
def Fc:ab->ab->(List ab->Prop)->Prop:=λd e R=>∃xs ys,d=.list xs/\e=.list ys/\xs.length+ys.length<=sizeLine/\R (xs++ys)
theorem zq:wG K (CY K) Fc:=by rintro N H x y d e R Q c f ⟨xs,ys,rfl,rfl,hz,g⟩ h;obtain⟨a1,i,rfl,s1,a⟩:=c.list;obtain⟨a2,j,rfl,s2,b⟩:=f.list;exact⟨a1,a2,i,j,rfl,rfl,s1,s2,by rw[a.len,b.len];exact hz,λp k=>h _ _ p g (a.app b) k⟩
def B6(ta tb:DE):DE:=λenv R=>ta env λs1 b=>tb b λs2 a=>∃xs ys,aZ a s1=some (.tuple xs)/\aZ a s2=some (.tuple ys)/\xs.length+ys.length<=sizeLine/\R (.fr (.tuple (xs++ys))) a
theorem zc(hK:X.K=K)(s:PE X a (up K ta))(t:PE X b (up K tb)):PE X (.BinOp a .Add b pos) (up K (B6 ta tb)):=(xz (F4 (K:=K) hK) s t).imp λσ H Q h=>by
 obtain⟨M,P,H0,σ0,env,ts,R,l,u,m⟩:=h;refine⟨M,P,H0,σ0,env,ts,_,l,u,λs1 e f H1 h1 g=>⟨M,P,H0,σ0,e,ts++[(f,s1)],_,g,h1,λs2 i j w h2 d=>?_⟩⟩;obtain⟨xs,ys,e1,e2,hz,k⟩:=h2;have n:=d.view (v:=f) (by simp) e1;have o:=d.view (v:=j) (by simp) e2;have c:Rel K M P H0 σ0 σ i (ts++[(f,s1),(j,s2)]) w:=by simpa using d
 have x:ts++[(f,s1)]++[(j,s2)]=ts++[(f,s1),(j,s2)]:=by simp
 rw[x] at n o;obtain⟨a1,y,rfl,t1,q⟩:=n.tuple;obtain⟨a2,A,rfl,t2,r⟩:=o.tuple;refine⟨a1,a2,y,A,rfl,rfl,t1,t2,by rw[q.len,r.len];exact hz,λz=>?_,λ_ z=>?_,λ_ _ p B=>?_⟩
 ·subst z;have:xs=[]:=by
   have:=q.len;exact Lf this.symm
  subst this;cases o with
  | dn dn=>exact m _ _ _ _ k (c.res (aD.refl _) dn)
 ·subst z;have:ys=[]:=by
   have:=r.len;exact Lf this.symm
  subst this;rw[IM] at k;cases n with
  | dn dn=>exact m _ _ _ _ k (c.res (aD.refl _) dn)
 ·exact m _ _ _ _ k (c.resTup B ((q.app r).to λb _ _ z=>by rw[ar];exact iR z))
abbrev DO:=List Sl->(Option Int->List Sl->Prop)->Prop
inductive upO (K:cc) (t:DO) (σ:St) (H:Hp) (Q:Option Int->Hp->Prop):Prop
 | mk (M P:al->Prop) (H0:Hp) (σ0:St) (env:List Sl) (ts:List (V×Sl)) (R:Option Int->List Sl->Prop):Rel K M P H0 σ0 σ env ts H->t env R ->
 (∀o env' H',R o env'->Rel K M P H0 σ0 σ env' ts H'->Q o H')->upO K t σ H Q
theorem PO.imp{e:Option ba}{t t':TO}(h:PO X e t)(k:∀σ H Q,t' σ H Q->t σ H Q):PO X e t':=λpins s σ H Q I hw=>h pins s σ H Q I (k σ H Q hw)
def kY:DO:=λenv R=>R none env
def yy(t:DE):DO:=λenv R=>t env λs a=>∃i,aZ a s=some (.int i)/\R (some i) a
theorem gl:PO X none (upO K kY):=oy.imp λσ H Q h=>by
 obtain⟨M,P,H0,σ0,env,ts,R,a,b,c⟩:=h;exact c _ _ _ b a
theorem gj(h:PE X e (up K ta)):PO X (some e) (upO K (yy ta)):=(ox h).imp λσ H Q h=>by
 obtain⟨M,P,H0,σ0,env,ts,R,b,d,f⟩:=h;refine⟨M,P,H0,σ0,env,ts,_,b,d,λs1 c j H1 h1 a=>?_⟩;obtain⟨i,e1,g⟩:=h1;exact⟨i,(a.view (by simp) e1).int,f _ _ _ g a.drop⟩
def pq{α:Type}(xs:List α)(lo hi:Option Int):List α:=(xs.drop (HT.sIx xs.length 0 lo)).take (HT.sIx xs.length xs.length hi - HT.sIx xs.length 0 lo)
theorem DNs.drop:∀{vs:List V}{ds:List ab} (n:Nat),DNs K N H vs ds->DNs K N H (vs.drop n) (ds.drop n)
 | _,_,0,q=>q
 | _,_,_+1,.nil=>.nil
 | _,_,n+1,.cons _ q=>q.drop n
theorem DNs.take:∀{vs:List V}{ds:List ab} (n:Nat),DNs K N H vs ds->DNs K N H (vs.take n) (ds.take n)
 | _,_,0,_=>.nil
 | _,_,_+1,.nil=>.nil
 | _,_,n+1,.cons h q=>.cons h (q.take n)
theorem DNs.cut(q:DNs K N H vs ds)(lo hi:Option Int):DNs K N H (sX vs lo hi) (pq ds lo hi):=by unfold sX pq;rw[q.len];exact(q.drop _).take _
def Ff(te:DE)(tl th:DO):DE:=λenv R=>te env λs b=>tl b λl c=>th c λh a=>∃ds,aZ a s=some (.list ds)/\R (.ow (pq ds l h)) a
def Gs(te:DE)(tl th:DO):DE:=λenv R=>te env λs b=>tl b λl c=>th c λh a=>∃ds,aZ a s=some (.tuple ds)/\¬(HT.sIx ds.length 0 l=0/\HT.sIx ds.length ds.length h=ds.length)/\R (.fr (.tuple (pq ds l h))) a
variable {lo hi:Option ba}{tlo thi:DO}{p2:Pos}
theorem AC(hK:X.K=K)(m:PE X e (up K ta))(n:PO X lo (upO K tlo))(o:PO X hi (upO K thi)):PE X (.Subscript e (.Slice lo hi none p2) pos) (up K (Ff ta tlo thi)):=(ij (F1 (K:=K) hK) m n o).imp λσ H Q h=>by
 obtain⟨M,P,H0,σ0,env,ts,R,i,r,s⟩:=h;refine⟨M,P,H0,σ0,env,ts,_,i,r,λs1 c j H1 h1 d=>⟨M,P,H0,σ0,c,ts++[(j,s1)],_,d,h1,λl f y h2 g=>⟨M,P,H0,σ0,f,ts++[(j,s1)],_,g,h2,λu k z t b=>?_⟩⟩⟩;obtain⟨ds,e1,w⟩:=t;obtain⟨a,vs,rfl,sq,q⟩:=(b.view (v:=j) (by simp) e1).list;exact⟨a,vs,rfl,sq,λp x=>s _ _ _ _ w (b.resOw x (q.cut l u))⟩
theorem AB(hK:X.K=K)(n:PE X e (up K ta))(o:PO X lo (upO K tlo))(r:PO X hi (upO K thi)):PE X (.Subscript e (.Slice lo hi none p2) pos) (up K (Gs ta tlo thi)):=(ij (HA (K:=K) hK) n o r).imp λσ H Q h=>by
 obtain⟨M,P,H0,σ0,env,ts,R,j,s,t⟩:=h;refine⟨M,P,H0,σ0,env,ts,_,j,s,λs1 d k H1 h1 f=>⟨M,P,H0,σ0,d,ts++[(k,s1)],_,f,h1,λl g A h2 i=>⟨M,P,H0,σ0,g,ts++[(k,s1)],_,i,h2,λu m B w c=>?_⟩⟩⟩;obtain⟨ds,e1,hw,x⟩:=w;obtain⟨a,vs,rfl,sq,q⟩:=(c.view (v:=k) (by simp) e1).tuple;exact⟨a,vs,rfl,sq,by rw[q.len];exact hw,λp y=>t _ _ _ _ x (c.resTup y ((q.cut l u).to λb _ _ z=>by rw[ar];exact iR z))⟩
def po(t:DA):DE:=λenv R=>t env λss a=>∃s d ds,ss=[s]/\aZ a s=some d/\gi d=some ds/\R (.ow ds) a
theorem ki(hK:X.K=K)(i:Gl X "list")(j:X.mg "list" = none)(k:PA X [e] (upA K tl))(m:j1 [e] X.env=[(false,eval e X.env)]:=by rfl):PE X (.Call (.Name "list" p) [e] [] pos) (up K (po tl)) :=
 (lR (F3 (K:=K) hK) i j hI k (by decide) (by decide) m rfl).imp λσ H Q h=>by
 obtain⟨M,P,H0,σ0,env,ts,R,c,n,o⟩:=h;refine⟨M,P,H0,σ0,env,ts,_,c,n,λss g vs H1 h1 r b=>?_⟩;obtain⟨s,d,ds,rfl,e1,e2,t⟩:=h1;obtain⟨v,rfl⟩:=sF r;obtain⟨a,us,rfl,sq,q⟩:=(b.view (v:=v) (by simp) e1).seq e2;exact⟨a,us,rfl,sq,λl f=>o _ _ _ _ t (b.resOw f q)⟩
def vH(t:DA):DE:=λenv R=>t env λss a=>∃s d ds,ss=[s]/\aZ a s=some d/\gi d=some ds/\R (.fr (.tuple ds)) a
theorem uh(hK:X.K=K)(m:Gl X "tuple")(n:X.mg "tuple" = none)(o:PA X [e] (upA K tl))(r:j1 [e] X.env=[(false,eval e X.env)]:=by rfl):PE X (.Call (.Name "tuple" p) [e] [] pos) (up K (vH tl)) :=
 (lR (Ed (K:=K) hK) m n mo o (by decide) (by decide) r rfl).imp λσ H Q h=>by
 obtain⟨M,P,H0,σ0,env,ts,R,f,t,i⟩:=h;refine⟨M,P,H0,σ0,env,ts,_,f,t,λss j vs H1 h1 u c=>?_⟩;obtain⟨s,d,ds,rfl,e1,e2,k⟩:=h1;obtain⟨v,rfl⟩:=sF u;have w:=c.view (v:=v) (by simp) e1;cases d <;> simp[gi] at e2
 ·subst e2;obtain⟨a,us,rfl,sq,q⟩:=w.list;exact⟨a,us,rfl,.inl ⟨sq,λl g=>i _ _ _ _ k (c.resTup g (q.to λb _ _ z=>by rw[ar];exact iR z))⟩⟩
 ·subst e2;obtain⟨a,us,rfl,sq,q⟩:=w.tuple;refine⟨a,us,rfl,.inr ⟨sq,i _ _ _ _ k ?_⟩⟩;cases w with
  | dn dn=>exact c.res (aD.refl _) dn
def fL:Sl->List ab->Option Sl
 | .ow _,ds=>some (.ow ds)
 | .io _,ds=>some (.io ds)
 | _,_=>none
def jm:Sl->Option (List ab)
 | .ow ds=>some ds
 | .io ds=>some ds
 | _=>none
theorem tZ(h:fL s l=some s'):Ct s l s'/\jm s'=some l:=by
 cases s with
 | ow _=>cases h;exact⟨rfl,rfl⟩
 | io _=>cases h;exact⟨rfl,rfl⟩
 | _=>cases h
theorem y7{s:Sl}{l d:List ab}(h:fL s l=some (.io d)):∃a,s=.io a:=by
 cases s with
 | io a=>exact⟨a,rfl⟩
 | _=>cases h
theorem DL(h:jm s=some l):fL s l=some s/\∀a,a∈cx (some (.ref a),s):=by
 cases s with
 | ow _=>cases h;exact⟨rfl,λa=>HW.mpr rfl⟩
 | io _=>cases h;exact⟨rfl,λa=>HW.mpr rfl⟩
 | _=>cases h
theorem Rel.mut{i:Nat}{s s':Sl}{ds ds':List ab}(h:Rel K M P H0 σ0 σ env ts H)(e:env[i]? = some s)(es:fL s ds'=some s'){a:al}(d:σ[i]? = some (some (.ref a))){vs':List V}(dns:DNs K (Nw M (ax σ env ts)) H vs' ds') :
  Rel K M P H0 σ0 σ (env.set i s') ts (upd H a (.lst vs')):=by
 obtain⟨x,A,B,e1,f,g⟩:=h.split e;rw[d] at e1;cases e1;have r:=h.e;rw[f] at r dns;refine⟨by rw[g];exact r.mut (tZ es).1 dns,by simp[h.len],h.vw,λj b e'=>?_⟩;by_cases hj:i=j
 ·subst hj;have hi:i<env.length:=(Ib.mp e).1;rw[Iy hi] at e';cases e';obtain⟨c,rfl⟩:=y7 es;exact h.ios i c e
 ·rw[Ip hj] at e';exact h.ios j b e'
theorem Rel.mine{i:Nat}{s:Sl}{ds:List ab}(h:Rel K M P H0 σ0 σ env ts H)(e:env[i]? = some s)(b:jm s=some ds):∃a vs,σ[i]? = some (some (.ref a))/\H a=some (.lst vs)/\DNs K (Nw M (ax σ env ts)) H vs ds:=by
 obtain⟨x,e1,m⟩:=h.slot e;cases s with
 | ow d =>
  cases b;obtain⟨a,vs,z,c,f,_⟩:=h.e.ow _ _ m;subst z;exact⟨a,vs,e1,c,f⟩
 | io d =>
  cases b;obtain⟨a,vs,z,c,f,_⟩:=h.e.io _ _ m;subst z;exact⟨a,vs,e1,c,f⟩
 | _=>cases b
def Fm(i:Nat)(te:DE):DE:=λenv R=>(∃ds,(env[i]?).bind jm=some ds)/\te env λs a=>∃d b ds s',be a s=some d/\a[i]? = some b/\jm b=some ds/\ds.length<sizeLine/\fL b (ds++[d])=some s'/\R (.fr .none) (a.set i s')
theorem lf{i:Nat}{ds:List ab}(h:(env[i]?).bind jm=some ds):∃s,env[i]? = some s/\jm s=some ds:=by
 cases e:env[i]? with
 | none=>rw[e] at h;cases h
 | some s=>rw[e] at h;exact⟨s,rfl,h⟩
theorem om(i:Nat){apos cpos npos:Pos}(hK:X.K=K)(w:X.N[i]? = some y)(z:PE X e (up K ta))
  (A:Vis X.env.scope y:=by first|exact o0 rfl|exact eb da|exact eb (eb rfl)) (hd:(y==("__debug__" : bt))=false:=by decide)
  (o:(y==("__classdict__" : bt))=false:=by decide)
  (j:j1 [e] X.env=[(false,eval e X.env)]:=by rfl)
  (f:z3 (.Name y npos) "append" X.env (eval (.Name y npos) X.env)=eval (.Name y npos) X.env:=by rfl)
  (l:((qs cpos (j1 [e] X.env)).all (λx=>!x.1)&&(KF cpos (Kf [] X.env)).all (λx=>x.1.isSome)&&decide ([e].length+([]:List Ke).length+(if ([]:List Ke).isEmpty then 0 else 1)<30))=true:=by rfl)
  (g:(apos.endLine==cpos.line)=true:=by rfl) (c:(qs cpos (j1 [] X.env)).any (·.1)=false:=by rfl) :
  PE X (.Call (.Attribute (.Name y npos) "append" apos) [e] [] cpos) (up K (Fm i ta)) :=
 (kBm (K:=K) hK ei gt gs cQ (aG w A hd o) (aA z bA j) f l g j c).imp λσ H Q h=>by
 obtain⟨M,P,H0,σ0,env,ts,R,m,⟨⟨B,C⟩,D⟩,E⟩:=h;obtain⟨S,G,I⟩:=lf C;obtain⟨a,vs,p,J,_⟩:=m.mine G I;refine⟨.ref a,p,.inl ⟨rfl,vs,SqL.of J⟩,M,P,H0,σ0,env,ts,_,m,D,λs1 t u H1 h1 b=>?_⟩;obtain⟨d,s2,ds,s',k,e2,L,hz,es,O⟩:=h1;obtain⟨T,us,n,r,q⟩:=b.drop.mine e2 L;rw[p] at n;cases n;refine⟨a,us,u,rfl,rfl,r,by rw[q.len];exact hz,?_⟩;have dn:=b.kept (v:=u) (s:=s1) (by simp) k;exact E _ _ _ _ O ((b.drop.mut (ds:=ds) e2 es p (q.app (.cons dn .nil))).addFr .non)
def Fg(i:Nat):DE:=λenv R=>∃a ds d s',env[i]? = some a/\jm a=some ds/\ds.getLast? = some d/\fL a ds.dropLast=some s'/\R (.fr d) (env.set i s')
theorem DNs.dropLast:∀{vs:List V}{ds:List ab},DNs K N H vs ds->DNs K N H vs.dropLast ds.dropLast:=λ{vs ds} q=>by
 rw[LF,LF,q.len];exact q.take _
theorem AE(i:Nat){apos cpos npos:Pos}(hK:X.K=K)(p:X.N[i]? = some y)
  (s:Vis X.env.scope y:=by first|exact o0 rfl|exact eb da|exact eb (eb rfl)) (hd:(y==("__debug__" : bt))=false:=by decide)
  (j:(y==("__classdict__" : bt))=false:=by decide)
  (b:z3 (.Name y npos) "pop" X.env (eval (.Name y npos) X.env)=eval (.Name y npos) X.env:=by rfl) (c:(apos.endLine==cpos.line)=true:=by rfl) :
  PE X (.Call (.Attribute (.Name y npos) "pop" apos) [] [] cpos) (up K (Fg i)) :=
 (G8 (K:=K) hK ei sh sg zo (aG p s hd j) b c).imp λσ H Q h=>by
 obtain⟨M,P,H0,σ0,env,ts,R,e,⟨w,ds,d,s',l,t,k,es,u⟩,v⟩:=h;obtain⟨a,vs,n,o,q⟩:=e.mine l t;have hn:ds.length - 1<ds.length:=by
  cases ds with
  | nil=>simp at k
  | cons z r=>simp
 rw[Lp] at k;have f:vs.length - 1<vs.length:=by rw[q.len];exact hn
 obtain⟨d',h1,dn⟩:=q.get (HR f);rw[q.len,k] at h1;cases h1;refine⟨.ref a,n,.inl ⟨rfl,vs,SqL.of o⟩,a,vs,vs[vs.length - 1],rfl,rfl,o,HR f,?_⟩;have g:=e.addFr dn;have m:=g.mut (ds:=ds) (vs':=vs.dropLast) (ds':=ds.dropLast) l es n (by
  have : Nw M (ax σ env (ts++[(vs[vs.length - 1],Sl.fr d)]))=Nw M (ax σ env ts):=by
   rw[ar];unfold Nw;have:oas (ax σ env ts++tmp [(vs[vs.length - 1],Sl.fr d)])=oas (ax σ env ts):=by
    rw[ae];have:oas (tmp [(vs[vs.length - 1],Sl.fr d)])=[]:=by
     show oas [(some vs[vs.length - 1],Sl.fr d)]=[]
     rw[ad];cases vs[vs.length - 1] <;> rfl
    rw[this,IM]
   rw[this]
  rw[this];exact q.dropLast)
 exact v _ _ _ _ u m
end
abbrev DSp:=List Sl->(Sl->List Sl->Prop)->Prop
def jq:Sl->Bool
 | .fr _=>true
 | .ow _=>true
 | .tr _ _=>true
 | _=>false
def o6(vs:List V)(ss:List Sl):al->Prop:=λa=>a∈oas (tmp (vs.zip ss))
def spD(K:cc)(sp:DSp):Sp:=λvs H Q _=>∃(M:al->Prop) (ss:List Sl) (R:Sl->List Sl->Prop),vs.length=ss.length/\aW K M (o6 vs ss) H (tmp (vs.zip ss)) H/\sp ss R /\
 ∀r a v H',R r a->jq r=true->aW K M (o6 vs ss) H (tmp ((v,r)::vs.zip a)) H'->Q v H'
section
variable {K:cc}{M P N:al->Prop}{H0 H H':Hp}{E:List Ent}{σ0 σ:St}{env:List Sl}{ts:List (V×Sl)}{v:V}{s:Sl}{d:ab}
theorem jJ:∀(vs:List V) (ds:List ab),oas (tmp (vs.zip (ds.map Sl.fr)))=[]
 | [],_=>by simp[oas,tmp]
 | _::_,[]=>by simp[oas,tmp]
 | v::vs,d::ds=>by
  show oas ((some v,Sl.fr d)::tmp (vs.zip (ds.map Sl.fr)))=[]
  rw[ad,db,jJ vs ds];rfl
theorem gv(h:DNs K N H vs ds):(x,s)∈tmp (vs.zip (ds.map Sl.fr))->∃v d,x=some v/\s=.fr d/\DN K N H v d:=DNs.ind (C:=λvs ds=>(x,s)∈tmp (vs.zip (ds.map Sl.fr))->∃v d,x=some v/\s=.fr d/\DN K N H v d) (λm=>by simp[tmp] at m) (λ{v vs d ds} h _ i m=>by
  have m:(x,s)∈(some v,Sl.fr d)::tmp (vs.zip (ds.map Sl.fr)):=m;rcases Ic.mp m with m|m
  ·cases m;exact⟨v,d,rfl,rfl,h⟩
  ·exact i m) h
inductive dN (K:cc) (N:al->Prop) (Hc H':Hp):V->Sl->Prop
 | fr {v:V}{d:ab}:DN K N H' v d->dN K N Hc H' v (.fr d)
 | ow {a:al}{vs:List V}{ds:List ab}:H' a=some (.lst vs)->DNs K (λb=>N b\/b=a) H' vs ds->Hc a=none->¬N a->dN K N Hc H' (.ref a) (.ow ds)
 | tr {v:V}{d:ab}{S:List al}:OT K (λb=>N b\/b∈S) H' v d S->(∀a∈S,Hc a=none/\¬N a)->S.Nodup->dN K N Hc H' v (.tr S d)
theorem aW.resOk(hc:aW K N Pc Hc ((some v,r)::T) H')(f:jq r=true):dN K N Hc H' v r:=by
 cases r with
 | fr d =>
  obtain⟨w,e,dn⟩:=hc.fr _ _ H9;cases e;exact .fr (dn.to λb _ _ z=>.inl z)
 | ow ds =>
  obtain⟨a,vs,e,c,dns,hn⟩:=hc.ow _ _ H9;cases e;refine .ow c (dns.to λb _ _ z=>?_) hn λz=>hc.mt a z hn;rcases z with z|z
  ·exact .inl z
  ·rw[z];exact .inr (by rw[ad];exact HV _ (HW.mpr rfl))
 | tr S d =>
  obtain⟨w,e,ot,hn⟩:=hc.tr _ _ _ H9;cases e;refine .tr (ot.to λb _ _ z=>?_) (λa c=>⟨hn a c,λz=>hc.mt a z (hn a c)⟩) ?_
  ·rcases z with z|z
   ·exact .inl z
   ·exact .inr (by rw[ad,aq];exact HV _ z)
  ·have nd:=hc.nd;rw[ad,aq] at nd;exact(HY.mp nd).1
 | _=>cases f
theorem dN.own(h:dN K N Hc H' v r):(∀b∈cx (some v,r),Hc b=none/\¬N b)/\(cx (some v,r)).Nodup:=by
 cases h with
 | fr dn=>rw[db];exact⟨λb a=>absurd a IJ,IS⟩
 | ow d dns hn c=>exact⟨λb a=>by rw[HW.mp a];exact⟨hn,c⟩,Ir.mpr ⟨by simp,IS⟩⟩
 | tr ot hn nd=>rw[aq];exact⟨hn,nd⟩
theorem dN.frD(h:dN K N Hc H' v (.fr d)):DN K N H' v d:=by
 cases h with
 | fr dn=>exact dn
theorem dN.owD(h:dN K N Hc H' v (.ow ds)):∃a vs,v=.ref a/\H' a=some (.lst vs)/\DNs K (λb=>N b\/b=a) H' vs ds/\Hc a=none:=by
 cases h with
 | ow c dns hn d=>exact⟨_,_,rfl,c,dns,hn⟩
theorem dN.ioD(h:dN K N Hc H' v (.io ds)):False:=by cases h
theorem dN.trD(h:dN K N Hc H' v (.tr S d)):OT K (λb=>N b\/b∈S) H' v d S/\∀a∈S,Hc a=none/\¬N a:=by
 cases h with
 | tr ot hn nd=>exact⟨ot,hn⟩
theorem aW.getRes(h:aW K M P H0 E H')(j:∀b,H0 b≠none->Hc b≠none)(f:dN K (Nw M E) Hc H' v r)
  (frs:∀x d,(x,Sl.fr d)∈E->∃w,x=some w/\DN K (λb=>Nw M E b\/(b∈cx (some v,r)/\Hc b=none)) H' w d)
  (k:∀x s ds,(x,s)∈E->jm s=some ds->∃a vs,x=some (.ref a)/\H' a=some (.lst vs)/\DNs K (λb=>Nw M E b\/(b∈cx (some v,r)/\Hc b=none)) H' vs ds)
  (ots:∀x S d,(x,Sl.tr S d)∈E->∃w,x=some w/\OT K (λb=>Nw M E b\/(b∈cx (some v,r)/\Hc b=none)) H' w d S):aW K M P H0 (E++[(some v,r)]) H':=by
 obtain⟨i,l⟩:=f.own;have u:oas (E++[(some v,r)])=oas E++cx (some v,r):=by rw[ae,ad];simp[oas]
 have up:∀b,Nw M (E++[(some v,r)]) b->Nw M E b\/b∈cx (some v,r):=λb z=>by
  rcases z with z|z
  ·exact .inl (.inl z)
  ·rw[u] at z;rcases HX.mp z with z|z
   ·exact .inl (.inr z)
   ·exact .inr z
 have g:∀b,Nw M (E++[(some v,r)]) b->Nw M E b\/(b∈cx (some v,r)/\Hc b=none):=λb z=>(up b z).elim .inl λz=>.inr ⟨z,(i b z).1⟩;have y:∀b,Hc b=none->H0 b=none:=λb hn=>by
  cases e:H0 b with
  | none=>rfl
  | some o=>exact absurd hn (j b (by rw[e];simp))
 refine⟨h.keep,h.live,h.mt,h.pm,λx d' m=>?_,λx d' m=>?_,λx d' m=>?_,λx S d' m=>?_,?_⟩
 ·rcases HX.mp m with m|m
  ·obtain⟨w,e,dn⟩:=frs x d' m;exact⟨w,e,dn.to λb _ _ z=>g b z⟩
  ·rw[HW] at m;obtain⟨e1,rfl⟩:=i4 m;exact⟨v,e1,f.frD.to λb _ _ z=>(up b z).elim id λz=>by rw[db] at z;exact absurd z IJ⟩
 ·rcases HX.mp m with m|m
  ·obtain⟨b,us,e,e2,dn⟩:=k x _ d' m rfl;obtain⟨A,n,e',p,_,r⟩:=h.ow x d' m;rw[e] at e';cases e';exact⟨b,us,e,e2,dn.to λb _ _ z=>g b z,r⟩
  ·rw[HW] at m;obtain⟨e1,rfl⟩:=i4 m;obtain⟨a,us,rfl,q,dns,hn⟩:=f.owD;exact⟨a,us,e1,q,dns.to λb _ _ z=>(up b z).elim .inl λz=>.inr (HW.mp z),y _ hn⟩
 ·rcases HX.mp m with m|m
  ·obtain⟨b,us,e,e2,dn⟩:=k x _ d' m rfl;obtain⟨A,n,e',p,_,r⟩:=h.io x d' m;rw[e] at e';cases e';exact⟨b,us,e,e2,dn.to λb _ _ z=>g b z,r⟩
  ·rw[HW] at m;obtain⟨e1,rfl⟩:=i4 m;exact f.ioD.elim
 ·rcases HX.mp m with m|m
  ·obtain⟨w,e,dn⟩:=ots x S d' m;obtain⟨w',e',_,r⟩:=h.tr x S d' m;exact⟨w,e,dn.to λb _ _ z=>g b z,r⟩
  ·rw[HW] at m;obtain⟨e1,rfl⟩:=i4 m;exact⟨v,e1,f.trD.1.to λb _ _ z=>(up b z).elim .inl λz=>.inr (by rw[aq] at z;exact z),λa q=>y _ (f.trD.2 a q).1⟩
 ·rw[u];exact HY.mpr ⟨h.nd,l,λb B c t z=>(i c t).2 (.inr (z▸B))⟩
theorem DN.past(h:DN K N Hc v d)(c:∀b,a b->N b\/Hc b=none)(k:aN Pc Hc H')(f:∀b,Pc b->a b):DN K a H' v d :=
 (h.to λb o e z=>(c b z).elim id λz=>by rw[z] at e;cases e).keep (k.mono f)
theorem DNs.past(h:DNs K N Hc vs ds)(c:∀b,a b->N b\/Hc b=none)(k:aN Pc Hc H')(d:∀b,Pc b->a b):DNs K a H' vs ds :=
 (h.to λb o e z=>(c b z).elim id λz=>by rw[z] at e;cases e).keep (k.mono d)
theorem OT.past(h:OT K N Hc v d S)(g:∀b,c b->N b\/Hc b=none)(k:aN Pc Hc H')(i:∀b,Pc b->c b)(j:∀b∈S,¬Pc b):OT K c H' v d S :=
 (h.to λb o e z=>(g b z).elim id λz=>by rw[z] at e;cases e).keep (k.mono i) λa f=>by
  obtain⟨xs,z⟩:=h.lives a f;rw[k _ _ (j a f) z,z]
theorem aW.called(h:aW K M P H0 E H)(k:aD H H')(c:dN K (Nw M E) H H' v r):aW K M P H0 (E++[(some v,r)]) H':=by
 refine(h.same k).getRes h.live c (λx d m=>?_) (λx s ds m f=>?_) λx S d m=>?_
 rotate_right
 ·obtain⟨w,e,dn,_⟩:=h.tr x S d m;exact⟨w,e,dn.past (λb z=>z.elim .inl λz=>.inr z.2) (aN.same (N:=N0) k) (λb z=>z.elim) λb _ z=>z.elim⟩
 ·obtain⟨w,e,dn⟩:=h.fr x d m;exact⟨w,e,dn.past (λb z=>z.elim .inl λz=>.inr z.2) (aN.same (N:=N0) k) λb z=>z.elim⟩
 ·cases s with
  | ow l =>
   cases f;obtain⟨a,vs,e,e2,dn,_⟩:=h.ow x _ m;exact⟨a,vs,e,k _ _ e2,dn.past (λb z=>z.elim .inl λz=>.inr z.2) (aN.same (N:=N0) k) λb z=>z.elim⟩
  | io l =>
   cases f;obtain⟨a,vs,e,e2,dn,_⟩:=h.io x _ m;exact⟨a,vs,e,k _ _ e2,dn.past (λb z=>z.elim .inl λz=>.inr z.2) (aN.same (N:=N0) k) λb z=>z.elim⟩
  | _=>cases f
theorem Rel.withRes(h:Rel K M P H0 σ0 σ env ts H)(e:aW K M P H0 (ax σ env ts++[(some v,r)]) H')(a:jq r=true):Rel K M P H0 σ0 σ env (ts++[(v,r)]) H' :=
  ⟨by rw[ar];exact e,h.len,(λw i m=>by
    rcases HX.mp m with m|m
    · exact h.vw w i m
    · rw[HW] at m;cases m;cases a),h.ios⟩
def vS(sp:DSp)(t:DA):DE:=λenv R=>t env λss a=>∃ds,bu a ss=some ds/\sp (ds.map .fr) (dK (λr _=>R r a) ⟨⟩)
theorem z9(dns:DNs K c H vs ds)(f:∀a,c a->H a≠none):aW K c (o6 vs (ds.map .fr)) H (tmp (vs.zip (ds.map .fr))) H:=by
 have e:=jJ vs ds;have ne:∀b,Nw c (tmp (vs.zip (ds.map .fr))) b->c b:=λb z=>z.elim id λz=>by rw[e] at z;cases z
 refine⟨aN.refl,λa q=>q,f,λa z=>?_,λx d m=>?_,λx l m=>?_,λx l m=>?_,λx S l m=>?_,by rw[e];exact IS⟩
 rotate_right
 ·obtain⟨w,d',e1,e2,dn⟩:=gv dns m;cases e2
 ·have z:a∈oas (tmp (vs.zip (ds.map .fr))):=z;rw[e] at z;cases z
 ·obtain⟨w,d',e1,e2,dn⟩:=gv dns m;cases e2;exact⟨w,e1,dn.to λb _ _ z=>ne b z⟩
 ·obtain⟨w,d',e1,e2,dn⟩:=gv dns m;cases e2
 ·obtain⟨w,d',e1,e2,dn⟩:=gv dns m;cases e2
theorem Cd:∀σ H Q,up K (vS sp tl) σ H Q->nI (spD K sp) [] E0 (upA K tl) σ H Q:=λσ H Q h=>by
 obtain⟨M,P,H0,σ0,env,ts,R,g,l,m⟩:=h;refine⟨M,P,H0,σ0,env,ts,_,g,l,λss d vs H1 h1 n c=>?_⟩;obtain⟨ds,o,i⟩:=h1;rw[IM];have dns:=c.keptAll n (λp q=>q) o;have s:=jJ vs ds;refine⟨Nw M (ax σ d ts),ds.map .fr,λr _=>R r d,by simp[dns.len],z9 dns λa z hn=>c.drop.newAddr hn z,i,λr t v H' u j f=>m _ _ _ _ u ?_⟩;have k:aD H1 H':=(f.keep.mono (M:=N0) λb z=>by
  have z:b∈oas (tmp (vs.zip (ds.map .fr))):=z;rw[s] at z;cases z).none
 exact(c.drop).withRes (c.drop.e.called k (f.resOk j)) j
end
section
variable {K:cc}{H0 H H':Hp}{σ0 σ:St}
theorem eI(t:V×Sl)(ts:List (V×Sl)):tmp (t::ts)=(some t.1,t.2)::tmp ts:=rfl
theorem nG(ts tt:List (V×Sl)):tmp (ts++tt)=tmp ts++tmp tt:=by simp[tmp]
theorem lq{α β:Type}:∀{l1:List α}{m1:List β} (x:α) (y:β) (l2:List α) (m2:List β),l1.length=m1.length->(l1++x::l2).zip (m1++y::m2)=l1.zip m1++(x,y)::l2.zip m2
 | [],[],_,_,_,_,_=>rfl
 | a::l1,b::m1,x,y,l2,m2,h=>by
  show(a,b)::(l1++x::l2).zip (m1++y::m2)=_;rw[lq x y l2 m2 (by simpa using h)];rfl
 | [],_::_,_,_,_,_,h=>by simp at h
 | _::_,[],_,_,_,_,h=>by simp at h
theorem EQ(h:DNs K f H c d1)(k:DNs K f H e d2)(n:∀a,f a->H a≠none)(i:f a)(o:H a=some (.lst us))(p:DNs K f H us l) :
  oas (tmp ((c++.ref a::e).zip (d1.map .fr++.io l::d2.map .fr)))=[a] /\
  aW K f (o6 (c++.ref a::e) (d1.map .fr++.io l::d2.map .fr)) H (tmp ((c++.ref a::e).zip (d1.map .fr++.io l::d2.map .fr))) H:=by
 have j:(c++.ref a::e).zip (d1.map Sl.fr++.io l::d2.map .fr)=c.zip (d1.map .fr)++(.ref a,.io l)::e.zip (d2.map .fr):=lq _ _ _ _ (by simp[h.len]);have g:oas (tmp ((c++.ref a::e).zip (d1.map .fr++.io l::d2.map .fr)))=[a]:=by rw[j,nG,eI,ae,ad,jJ,jJ];rfl
 have ne:∀b,Nw f (tmp ((c++.ref a::e).zip (d1.map .fr++.io l::d2.map .fr))) b->f b:=λb z=>z.elim id λz=>by rw[g,HW] at z;rw[z];exact i
 have cs:∀x s,(x,s)∈tmp ((c++.ref a::e).zip (d1.map .fr++.io l::d2.map .fr))->(∃w d,x=some w/\s=.fr d/\DN K f H w d)\/(x=some (.ref a)/\s=.io l):=λx s m=>by
  rw[j,nG,eI] at m;rcases HX.mp m with m|m
  ·exact .inl (gv h m)
  ·rcases Ic.mp m with m|m
   ·cases m;exact .inr ⟨rfl,rfl⟩
   ·exact .inl (gv k m)
 refine⟨g,aN.refl,λa q=>q,n,λb z=>?_,λx d m=>?_,λx l' m=>?_,λx l' m=>?_,λx S l' m=>?_,by rw[g];simp⟩
 rotate_right
 ·rcases cs x _ m with⟨w,d',e1,e2,dn⟩|⟨_,e2⟩
  ·cases e2
  ·cases e2
 ·have z:b∈oas (tmp ((c++.ref a::e).zip (d1.map .fr++.io l::d2.map .fr))):=z;rw[g,HW] at z;rw[z];exact i
 ·rcases cs x _ m with⟨w,d',e1,e2,dn⟩|⟨_,e2⟩
  ·cases e2;exact⟨w,e1,dn.to λb _ _ z=>ne b z⟩
  ·cases e2
 ·rcases cs x _ m with⟨w,d',e1,e2,dn⟩|⟨_,e2⟩
  ·cases e2
  ·cases e2
 ·rcases cs x _ m with⟨w,d',e1,e2,dn⟩|⟨e1,e2⟩
  ·cases e2
  ·cases e2;exact⟨a,us,e1,o,p.to λb _ _ z=>ne b z,by show a∈oas _;rw[g];simp⟩
def mV(sp:DSp)(m:Nat)(t:DA):DE:=λenv R=>t env λss a=>∃i b l d1 d2,ss[m]? = some (.vw i)/\a[i]? = some b/\jm b=some l/\bu a (ss.take m)=some d1/\bu a (ss.drop (m+1))=some d2 /\
 sp (d1.map .fr++.io l::d2.map .fr) (dK (λr as=>∃l' s',as[m]? = some (.io l')/\fL b l'=some s'/\R r (a.set i s')) ⟨⟩)
theorem wZ{α β:Type}(l:List α)(m:List β)(n:Nat):∀p∈(l.take n).zip (m.take n),p∈l.zip m:=λp a=>by
 rw[fy,<-List.take_zipWith] at a;exact JX a
theorem yr{α β:Type}(l:List α)(m:List β)(n:Nat):∀p∈(l.drop n).zip (m.drop n),p∈l.zip m:=λp a=>by
 rw[fy,<-List.drop_zipWith] at a;exact List.mem_of_mem_drop a
theorem EM{α:Type}{l:List α}{m:Nat}{x:α}(h:l[m]? = some x):l=l.take m++x::l.drop (m+1):=by obtain⟨a,e⟩:=Ib.mp h;rw[<-e,List.getElem_cons_drop,ti]
theorem yG:∀σ H Q,up K (mV sp m tl) σ H Q->nI (spD K sp) [] E0 (upA K tl) σ H Q:=λσ H Q h=>by
 obtain⟨M,P,H0,σ0,env,ts,R,Z,ht,hq⟩:=h;refine⟨M,P,H0,σ0,env,ts,_,Z,ht,λss f vs H1 h1 hl g=>?_⟩;obtain⟨i,J,l,d1,d2,em,L,N,k1,k2,a0⟩:=h1;rw[IM];have c:=g.drop;obtain⟨a,us,ea,hH,ql⟩:=c.mine L N;have hm:m<ss.length:=(Ib.mp em).1;have a4:m<vs.length:=by omega
 have va:vs[m]? = some (.ref a):=by
  have mz:(vs[m],ss[m])∈vs.zip ss:=by
   have hz:m<(vs.zip ss).length:=by rw[IR];omega
   have:=IB hz;rwa [IU] at this
  rw[(Ib.mp em).2] at mz;have q:=g.vw _ _ (HQ _ mz);rw[ea] at q;rw[HR a4];exact congrArg some (du (du q)).symm
 have ev:=EM va;have q1:=g.keptAll (vs:=vs.take m) (ss:=ss.take m) (by simp;omega) (wZ _ _ _) k1;have q2:=g.keptAll (vs:=vs.drop (m+1)) (ss:=ss.drop (m+1)) (by simp;omega) (yr _ _ _) k2;have C:=c.e;have ma:Nw M (ax σ f ts) a:=by obtain⟨x,e1,mm⟩:=c.slot L;rw[ea] at e1;cases e1;refine .inr (aV.mpr ⟨_,mm,?_⟩);exact(DL N).2 a
 have D:=EQ (l:=l) (us:=us) (a:=a) q1 q2 (λb z hn=>c.newAddr hn z) ma hH ql;rw[<-ev] at D;have b3:=q1.len;have b4:=q2.len;refine⟨_,d1.map .fr++.io l::d2.map .fr,_,?_,D.2,a0,λr E v H' hR hr n=>?_⟩
 ·rw[ev];simp only[Ix,IL,HS];omega
 obtain⟨l',s',e2,es,hR⟩:=hR;refine hq _ _ _ _ hR ?_;have k:aN (λb=>b=a) H1 H':=n.keep.mono λb z=>by
  have z:b∈oas (tmp (vs.zip (d1.map .fr++.io l::d2.map .fr))):=z;rw[D.1,HW] at z;exact z
 have mp:((some (.ref a),.io l'):Ent)∈tmp ((v,r)::vs.zip E):=by
  rw[eI];refine HZ _ (Ig.mpr ⟨(.ref a,.io l'),?_,rfl⟩);have h2:m<E.length:=(Ib.mp e2).1;have hz:m<(vs.zip E).length:=by rw[IR];omega
  have:=IB hz;rw[IU,(Ib.mp va).2,(Ib.mp e2).2] at this;exact this
 obtain⟨a',O,z,T,U,_⟩:=n.io _ _ mp;cases z;obtain⟨x,A,B,e3,s,F⟩:=c.split L;rw[ea] at e3;cases e3;have p:Ct J l' s':=(tZ es).1;rw[s] at C;have a5:DNs K (Nw M (A++(some (.ref a),J)::B)) H' O l':=U.to λb _ _ z=>.inl (by rw[s];exact z);have hM:=C.muted p k n.live T a5;have u:Nw M (ax σ (f.set i s') ts)=Nw M (ax σ f ts):=by
  rw[s,F];have oa:cx (some (.ref a),J)=[a]/\cx (some (.ref a),s')=[a]:=by exact il p
  unfold Nw;rw[ae,ae,ad,ad,oa.1,oa.2]
 rw[<-F] at hM;have rk:dN K (Nw M (ax σ (f.set i s') ts)) H1 H' v r:=by rw[u];exact n.resOk hr
 have V:Rel K M P H0 σ0 σ (f.set i s') ts H':=⟨hM,by simp[c.len],c.vw,λj W e'=>by
  by_cases hj:i=j
  ·subst hj;have hi:i<f.length:=(Ib.mp L).1;rw[Iy hi] at e';cases e';obtain⟨a6,rfl⟩:=y7 es;exact c.ios i a6 L
  ·rw[Ip hj] at e';exact c.ios j W e'⟩
 refine V.withRes ?_ hr;have G:∀x t,(x,t)∈ax σ (f.set i s') ts->(x,t)=(some (.ref a),s')\/((x,t)∈A\/(x,t)∈B):=λx t m=>by
  rw[F] at m;rcases HX.mp m with m|m
  ·exact .inr (.inl m)
  ·rcases Ic.mp m with m|m
   ·exact .inl m
   ·exact .inr (.inr m)
 have o:∀x t,(x,t)∈A\/(x,t)∈B->(x,t)∈A++(some (.ref a),J)::B:=λx t m=>by
  rcases m with m|m
  ·exact HV _ m
  ·exact HQ _ (HZ _ m)
 have X:∀b,(Nw M (ax σ (f.set i s') ts) b\/(b∈cx (some v,r)/\H1 b=none))->Nw M (A++(some (.ref a),J)::B) b\/H1 b=none:=λb z=>by
  rw[u,s] at z;exact z.elim .inl λz=>.inr z.2
 have Y:∀b,b=a->(Nw M (ax σ (f.set i s') ts) b\/(b∈cx (some v,r)/\H1 b=none)):=λb z=>by rw[z,u];exact .inl ma
 have a7:cx (some (.ref a),J)=[a]:=(il p).1;have nd:=C.nd;rw[ae,ad,a7] at nd;obtain⟨_,b0,b1⟩:=HY.mp nd;obtain⟨b2,_⟩:=Ir.mp b0;have other:∀x t b,(x,t)∈A\/(x,t)∈B->b∈cx (x,t)->b≠a:=λx t b m N z=>by
  subst z;rcases m with m|m
  ·exact b1 b (aV.mpr ⟨_,m,N⟩) b H9 rfl
  ·exact b2 (aV.mpr ⟨_,m,N⟩)
 refine hM.getRes c.e.live rk (λx d mm=>?_) (λx t ds' mm y=>?_) λx S d mm=>?_
 rotate_right
 ·rcases G _ _ mm with mm|mm
  ·rcases dL p with⟨_,_,e⟩|⟨_,_,e⟩ <;> (rw[e] at mm;cases mm)
  ·obtain⟨w,e,dn,_⟩:=C.tr x S d (o _ _ mm);subst e;exact⟨w,rfl,dn.past X k Y λb hb z=>other _ _ b mm (by rw[aq];exact hb) z⟩
 ·rcases G _ _ mm with mm|mm
  ·rcases dL p with⟨_,_,e⟩|⟨_,_,e⟩ <;> (rw[e] at mm;cases mm)
  ·obtain⟨w,e,dn⟩:=C.fr x d (o _ _ mm);exact⟨w,e,dn.past X k Y⟩
 ·rcases G _ _ mm with mm|mm
  ·cases mm;have el:ds'=l':=du (y.symm.trans (tZ es).2);subst el;refine⟨a,O,rfl,T,U.to λb _ _ z=>?_⟩;rcases z with z|z
   ·exact .inl (by rw[<-u];exact z)
   ·exact .inr (by rw[eI,ad];exact HV _ z.1)
  ·cases t with
   | ow l2 =>
    cases y;obtain⟨b,us2,e,I,dn,_⟩:=C.ow x _ (o _ _ mm);subst e;exact⟨b,us2,rfl,k _ _ (other _ _ b mm (HW.mpr rfl)) I,dn.past X k Y⟩
   | io l2 =>
    cases y;obtain⟨b,us2,e,I,dn,_⟩:=C.io x _ (o _ _ mm);subst e;exact⟨b,us2,rfl,k _ _ (other _ _ b mm (HW.mpr rfl)) I,dn.past X k Y⟩
   | _=>cases y
end
structure nF where
 nx : List Sl->Prop
 rt : Sl->List Sl->Prop
 bk : List Sl->Prop:=λ_=>False
 ct : List Sl->Prop:=λ_=>False
abbrev DS:=nF->List Sl->Prop
def sZ(ts:List (V×Sl)):Prop:=∀v i,(v,Sl.vw i) ∉ ts
structure EW(K:cc)(M P:al->Prop)(H0:Hp)(σ0:St)(ts:List (V×Sl))(DD:nF)(D:wI):Prop where
 nx : ∀σ' env' H',DD.nx env'->Rel K M P H0 σ0 σ' env' ts H'->D.nx σ' H'
 rt : ∀s env' v σ' H',DD.rt s env'->Rel K M P H0 σ0 σ' env' (ts++[(v,s)]) H'->D.rt v H'
 bk : ∀σ' env' H',DD.bk env'->Rel K M P H0 σ0 σ' env' ts H'->D.bk σ' H'
 ct : ∀σ' env' H',DD.ct env'->Rel K M P H0 σ0 σ' env' ts H'->D.ct σ' H'
inductive upS (K:cc) (t:DS) (D:wI) (σ:St) (H:Hp):Prop
 | mk (M P:al->Prop) (H0:Hp) (σ0:St) (env:List Sl) (ts:List (V×Sl)) (DD:nF):sZ ts->Rel K M P H0 σ0 σ env ts H->t DD env->EW K M P H0 σ0 ts DD D->upS K t D σ H
theorem PS.imp(h:PS X e t)(k:∀D σ H,t' D σ H->t D σ H):PS X e t':=λpins s σ H D I hw=>h pins s σ H D I (k D σ H hw)
theorem PSs.imp(h:PSs X e t)(k:∀D σ H,t' D σ H->t D σ H):PSs X e t':=λpins s σ H D I hw=>h pins s σ H D I (k D σ H hw)
section
variable {K:cc}{M P:al->Prop}{H0 H:Hp}{σ0 σ:St}{env:List Sl}{ts tt:List (V×Sl)}{v:V}{s:Sl}{d:ab}
def gc(env:List Sl):Sl->Option Sl
 | .fr d=>some (.fr d)
 | .ow ds=>some (.ow ds)
 | .tr S d=>some (.tr S d)
 | .vw i=>((env[i]?).bind slK).map .fr
 | _=>none
theorem Rel.unVw(h:Rel K M P H0 σ0 σ env (ts++[(v,s)]) H)(e:gc env s=some s'):Rel K M P H0 σ0 σ env (ts++[(v,s')]) H/\jq s'=true:=by
 cases s with
 | fr d=>cases e;exact⟨h,rfl⟩
 | ow ds=>cases e;exact⟨h,rfl⟩
 | tr S d=>cases e;exact⟨h,rfl⟩
 | vw i =>
  have e:((env[i]?).bind slK).map Sl.fr=some s':=e;cases q:(env[i]?).bind slK with
  | none=>rw[q] at e;cases e
  | some d =>
   rw[q] at e;cases e;exact⟨h.drop.addFr (h.kept (tt:=[(v,.vw i)]) (s:=.vw i) (by simp) q),rfl⟩
 | _=>cases e
theorem pO:(σ.set i x).zip (env.set i s')=(σ.zip env).set i (x,s'):=by
 apply C1;intro j;rw[dU];by_cases hj:i=j
 ·subst hj;rw[JR,JR,JR,dU];cases σ[i]? <;> cases env[i]? <;> rfl
 ·rw[Ip hj,Ip hj,Ip hj,dU]
theorem Rel.store(h:Rel K M P H0 σ0 σ env (ts++[(v,s)]) H)(nv:sZ ts)(hi:i<env.length)(c:jq s=true):Rel K M P H0 σ0 (σ.set i (some v)) (env.set i s) ts H:=by
 have b:i<(σ.zip env).length:=by rw[IR,h.len];omega
 obtain⟨A,B,d,f⟩:=d8 (HR b);refine⟨?_,by simp[h.len],λw j m=>absurd m (nv w j),λj ds e=>?_⟩
 ·have a:=h.e;unfold ax at a ⊢;rw[d,nG,Ja] at a;rw[pO,f,Ja];have e2:((σ.zip env)[i]::B)++(tmp ts++tmp [(v,s)])=(σ.zip env)[i]::((B++tmp ts)++[(some v,s)]):=by simp[tmp]
  rw[e2] at a;have:=a.move;simpa using this
 ·by_cases hj:i=j
  ·subst hj;rw[Iy hi] at e;cases e;cases c
  ·rw[Ip hj] at e;rw[Ip hj];exact h.ios j ds e
end
section
variable {X:Cx}{K:cc}{pos:Pos}{st:Stmt}{rest a b:List Stmt}{t u:DS}{e c:ba}{te:DE}{tc:DT}
def BT:DS:=λDD env=>DD.nx env
def EG(t u:DS):DS:=λDD env=>t { DD with nx:=u DD } env
def HI(t u:DS):DS:=λDD env=>∃R:List Sl->Prop,t { DD with nx:=dI R ⟨⟩ } env/\∀env',R env'->u DD env'
theorem aU:PSs X [] (upS K BT):=ur.imp λD σ H h=>by
 obtain⟨M,P,H0,σ0,env,ts,DD,nv,a,b,ok⟩:=h;exact ok.nx _ _ _ b a
theorem dF(h1:PS X st (upS K t))(h2:PSs X rest (upS K u)):PSs X (st::rest) (upS K (EG t u)):=(c7 h1 h2).imp λD σ H h=>by
 obtain⟨M,P,H0,σ0,env,ts,DD,nv,a,b,ok⟩:=h;exact⟨M,P,H0,σ0,env,ts,_,nv,a,b,⟨λσ' env' H' q r=>⟨M,P,H0,σ0,env',ts,DD,nv,r,q,ok⟩,ok.rt,ok.bk,ok.ct⟩⟩
theorem qu(h1:PS X st (upS K t))(h2:PSs X rest (upS K u)):PSs X (st::rest) (upS K (HI t u)):=(AM h1 h2).imp λD σ H h=>by
 obtain⟨M,P,H0,σ0,env,ts,DD,nv,a,⟨R,b,c⟩,ok⟩:=h;exact⟨λσ' H'=>∃env',R env'/\Rel K M P H0 σ0 σ' env' ts H',⟨M,P,H0,σ0,env,ts,_,nv,a,b,⟨λσ' env' H' q r=>⟨env',q,r⟩,ok.rt,ok.bk,ok.ct⟩⟩,
  λσ' H' ⟨env',q,r⟩=>⟨M,P,H0,σ0,env',ts,DD,nv,r,c env' q,ok⟩⟩
theorem ak(h1:PS X st (upS K t)):PSs X [st] (upS K t):=iJ h1
def Gy:DS:=λDD env=>DD.bk env
def B5:DS:=λDD env=>DD.ct env
theorem AJ:PS X (.Break pos) (upS K Gy):=xw.imp λD σ H h=>by
 obtain⟨M,P,H0,σ0,env,ts,DD,nv,a,b,ok⟩:=h;exact ok.bk _ _ _ b a
theorem sr:PS X (.Continue pos) (upS K B5):=ou.imp λD σ H h=>by
 obtain⟨M,P,H0,σ0,env,ts,DD,nv,a,b,ok⟩:=h;exact ok.ct _ _ _ b a
def vR(te:DE):DS:=λDD env=>te env λ_ a=>DD.nx a
theorem dQ(d:PE X e (up K te))(f:Kn e none pos.line X.env=pure false:=by rfl):PS X (.Expr e pos) (upS K (vR te)):=(gp d f).imp λD σ H h=>by
 obtain⟨M,P,H0,σ0,env,ts,DD,nv,b,g,ok⟩:=h;exact⟨M,P,H0,σ0,env,ts,_,b,g,λs1 c i H1 h1 a=>ok.nx _ _ _ h1 a.drop⟩
def EH(te:DE):DS:=λDD env=>te env DD.rt
theorem aX(d:PE X e (up K te)):PS X (.Return (some e) pos) (upS K (EH te)):=(ut d).imp λD σ H h=>by
 obtain⟨M,P,H0,σ0,env,ts,DD,nv,b,f,ok⟩:=h;exact⟨M,P,H0,σ0,env,ts,_,b,f,λs1 c g H1 h1 a=>ok.rt _ _ _ _ _ h1 a⟩
def Fk(c:DT)(t u:DS):DS:=λDD env=>c env λk a=>if k=true then t DD a else u DD a
theorem dR(hc:PT X c (upT K tc))(g:PSs X a (upS K t))(i:PSs X b (upS K u)):PS X (.If c a b pos) (upS K (Fk tc t u)):=(Dv hc g i).imp λD σ H h=>by
 obtain⟨M,P,H0,σ0,env,ts,DD,nv,f,j,ok⟩:=h;refine⟨M,P,H0,σ0,env,ts,_,f,j,λk d H1 h1 e=>?_⟩;cases k with
 | true=>exact⟨M,P,H0,σ0,d,ts,DD,nv,e,h1,ok⟩
 | false=>exact⟨M,P,H0,σ0,d,ts,DD,nv,e,h1,ok⟩
def zO(i:Nat)(te:DE):DS:=λDD env=>te env λs a=>∃s',i<a.length/\gc a s=some s'/\DD.nx (a.set i s')
theorem aM(d:X.N.Nodup)(hi:X.N[i]? = some x)(hx:Loc X.env.scope x)(f:PE X e (up K te))(g:Kn e (some (.Name x pos')) pos.line X.env=pure false:=by rfl)(j:X.fn x=true\/X.env.scope.names.lookup x=some .local:=by first|exact .inl rfl|exact .inr rfl|assumption):PS X (.Assign [.Name x pos'] e pos) (upS K (zO i te)) :=
 (zi d hi hx f g j).imp λD σ H h=>by
 obtain⟨M,P,H0,σ0,env,ts,DD,nv,b,k,ok⟩:=h;refine⟨M,P,H0,σ0,env,ts,_,b,k,λs1 c n H1 h1 a=>?_⟩;obtain⟨s',l,es,m⟩:=h1;obtain⟨r,cs⟩:=a.unVw es;exact ok.nx _ _ _ m (r.store nv l cs)
end
abbrev DG:=ab->List Sl->(List Sl->Prop)->Prop
abbrev DGs:=List ab->List Sl->(List Sl->Prop)->Prop
inductive upG (K:cc) (g:DG) (v:V) (σ:St) (H:Hp) (Q:St->Hp->Prop):Prop
 | mk (M P:al->Prop) (H0:Hp) (σ0:St) (env:List Sl) (ts:List (V×Sl)) (d:ab) (R:List Sl->Prop):sZ ts->Rel K M P H0 σ0 σ env ts H->DN K (Nw M (ax σ env ts)) H v d->g d env R ->
 (∀σ' env' H',R env'->Rel K M P H0 σ0 σ' env' ts H'->Q σ' H')->upG K g v σ H Q
inductive CI (K:cc) (g:DGs) (vs:List V) (σ:St) (H:Hp) (Q:St->Hp->Prop):Prop
 | mk (M P:al->Prop) (H0:Hp) (σ0:St) (env:List Sl) (ts:List (V×Sl)) (ds:List ab) (R:List Sl->Prop):sZ ts->Rel K M P H0 σ0 σ env ts H->DNs K (Nw M (ax σ env ts)) H vs ds->g ds env R ->
 (∀σ' env' H',R env'->Rel K M P H0 σ0 σ' env' ts H'->Q σ' H')->CI K g vs σ H Q
theorem PG.imp(h:PG X e t)(k:∀v σ H Q,t' v σ H Q->t v σ H Q):PG X e t':=λpins s σ H v u Q I r hw=>h pins s σ H v u Q I r (k v σ H Q hw)
theorem PGs.imp(h:PGs X e t)(k:∀v σ H Q,t' v σ H Q->t v σ H Q):PGs X e t':=λpins s σ H v u Q I r hw=>h pins s σ H v u Q I r (k v σ H Q hw)
section
variable {K:cc}{M P N:al->Prop}{H0 H H':Hp}{σ0 σ:St}{env:List Sl}{ts kp:List (V×Sl)}{v:V}{s:Sl}{d:ab}{X:Cx}{pos:Pos}{e:ba}{es:List ba}
theorem uR(v:V)(d:ab):oas (tmp [(v,Sl.fr d)])=[]:=by
 show oas [(some v,Sl.fr d)]=[]
 rw[ad];cases v <;> rfl
theorem xI:Nw M (E++tmp [(v,Sl.fr d)])=Nw M E:=by unfold Nw;rw[ae,uR,IM]
def rC(i:Nat):DG:=λd env R=>i<env.length/\R (env.set i (.fr d))
theorem au(b:X.N.Nodup)(hi:X.N[i]? = some x)(hx:Loc X.env.scope x)(c:X.fn x=true\/X.env.scope.names.lookup x=some .local:=by first|exact .inl rfl|exact .inr rfl|assumption):PG X (.Name x pos) (upG K (rC i)) :=
 (c9 b hi hx c).imp λv σ H Q h=>by
 obtain⟨M,P,H0,σ0,env,ts,d,R,nv,a,dn,⟨e,f⟩,g⟩:=h;exact g _ _ _ f ((a.addFr dn).store nv e rfl)
def BK:DGs:=λds env R=>ds=[]/\R env
def vD(g:DG)(b:DGs):DGs:=λds env R=>∃d r,ds=d::r/\g d env λa=>b r a R
theorem gm:PGs X [] (CI K BK):=oD.imp λv σ H Q h=>by
 obtain⟨M,P,H0,σ0,env,ts,ds,R,nv,a,dn,⟨rfl,b⟩,c⟩:=h;cases dn;exact⟨rfl,c _ _ _ b a⟩
theorem qR(env:List Sl):∀ds:List ab,bu env (ds.map .fr)=some ds
 | []=>rfl
 | d::ds=>by
  show(be env (Sl.fr d)).bind _=_;rw[qR env ds];rfl
theorem A7(vs:List V)(ds:List ab)(nv:sZ ts):sZ (ts++vs.zip (ds.map .fr)):=λw i m=>by
 rcases HX.mp m with m|m
 ·exact nv w i m
 ·obtain⟨d,_,e⟩:=Ig.mp (JZ m).2;cases e
theorem Rel.addFrs:∀{vs:List V}{ds:List ab}{ts:List (V×Sl)},Rel K M P H0 σ0 σ env ts H->DNs K (Nw M (ax σ env ts)) H vs ds->Rel K M P H0 σ0 σ env (ts++vs.zip (ds.map .fr)) H
 | _,_,ts,a,.nil=>by simpa using a
 | _,_,ts,a,@DNs.cons _ _ _ v vs d ds h q=>by
  have r:=a.addFr h;have c:DNs K (Nw M (ax σ env (ts++[(v,.fr d)]))) H vs ds:=q.to λb _ _ z=>by rw[ar,xI] at z;exact z
  have:=Rel.addFrs r c;simpa using this
theorem bz(h1:PG X e (upG K g))(h2:PGs X es (CI K j))(k:(qb (e::es) X.env).map (·.2)=Kh e X.env::(qb es X.env).map (·.2):=by rfl):PGs X (e::es) (CI K (vD g j)) :=
 (eM h1 h2 k).imp λvs σ H Q h=>by
 obtain⟨M,P,H0,σ0,env,ts,ds,R,nv,f,dn,⟨d,r,rfl,l⟩,m⟩:=h;cases dn with
 | @cons v vs _ _ h q =>
  have c:=f.addFrs q;have n:DN K (Nw M (ax σ env (ts++vs.zip (r.map .fr)))) H v d:=h.to λb _ _ z=>by
   rw[ar] at z;rcases z with z|z
   ·exact .inl z
   ·rw[ae,jJ,IM] at z;exact .inr z
  refine⟨v,vs,rfl,M,P,H0,σ0,env,ts++vs.zip (r.map .fr),d,_,A7 _ _ nv,c,n,l,λσ' env' H' i a=>?_⟩;exact⟨M,P,H0,σ0,env',ts,r,R,nv,a.drop,a.keptAll (by simp[q.len]) (λp o=>o) (qR _ _),i,m⟩
def BJ(n:Nat)(a:DGs):DG:=λd env R=>∃ds,d=.tuple ds/\ds.length=n/\a ds env R
theorem jI{k:Nat}{e:DGs}{n:Nat}(hK:X.K=K)(hc:X.calm=true)(h:PGs X es (CI K e))(hn:(qb es X.env).length=n:=by rfl)(b:(qb es X.env).findIdx? (·.1)=none:=by rfl):PG X (.Tuple es k pos) (upG K (BJ n e)) :=
 (Bk (K:=K) hK hc h hn b).imp λv σ H Q h=>by
 obtain⟨M,P,H0,σ0,env,ts,d,R,nv,c,dn,⟨ds,rfl,f,g⟩,i⟩:=h;obtain⟨a,xs,rfl,j,q⟩:=dn.tuple;exact⟨a,xs,rfl,j.sq,by rw[q.len];exact f,M,P,H0,σ0,env,ts,ds,R,nv,c,q,g,i⟩
def GA(te:DE)(g:DG):DS:=λDD env=>te env λs a=>∃d,be a s=some d/\g d a DD.nx
theorem Do(i:PE X e (up K te))(c:PG X tg (upG K g))(j:KI [tg] e pos.line X.env=pure false:=by rfl)(hw:KJ [tg] e X.env=pure none:=by rfl)
  (h1:(qb [tg] X.env).map (·.2)=[Kh tg X.env]:=by rfl):PS X (.Assign [tg] e pos) (upS K (GA te g)):=(qy i c j hw h1).imp λD σ H h=>by
 obtain⟨M,P,H0,σ0,env,ts,DD,nv,f,l,ok⟩:=h;refine⟨M,P,H0,σ0,env,ts,_,f,l,λs1 b m H1 h1 a=>?_⟩;obtain⟨d,k,c⟩:=h1;exact⟨M,P,H0,σ0,b,ts,d,_,nv,a.drop,a.kept (v:=m) (s:=s1) (by simp) k,c,λσ' env' H' n r=>ok.nx _ _ _ n r⟩
structure j6(K:cc)(J:It)(kp:List (V×Sl))(ds:List ab):Prop where
 go : ∀{M P:al->Prop}{H0 H:Hp}{σ0 σ:St}{env:List Sl}{ts:List (V×Sl)},Rel K M P H0 σ0 σ env (ts++kp) H->∀i,i<ds.length->J.go i H
 yld:∀{M P:al->Prop}{H0 H:Hp}{σ0 σ:St}{env:List Sl}{ts:List (V×Sl)},Rel K M P H0 σ0 σ env (ts++kp) H->∀i x H',(hi:i<ds.length)->J.yld i H x H'->aD H H'/\DN K (Nw M (ax σ env (ts++kp))) H' x ds[i]
 stop:∀{M P:al->Prop}{H0 H:Hp}{σ0 σ:St}{env:List Sl}{ts:List (V×Sl)},Rel K M P H0 σ0 σ env (ts++kp) H->J.stop ds.length H
 nv : sZ kp
abbrev DI:=List Sl->(List ab->List Sl->Prop)->Prop
inductive upI (K:cc) (t:DI) (σ:St) (H:Hp) (R:It->Hp->Prop):Prop
 | mk (M P:al->Prop) (H0:Hp) (σ0:St) (env:List Sl) (ts:List (V×Sl)) (RR:List ab->List Sl->Prop):Rel K M P H0 σ0 σ env ts H->t env RR ->
 (∀ds env' J H' kp,RR ds env'->Rel K M P H0 σ0 σ env' (ts++kp) H'->j6 K J kp ds->R J H')->upI K t σ H R
theorem PI.imp(h:PI X tg iter t)(k:∀σ H R,t' σ H R->t σ H R):PI X tg iter t':=λpins s σ H R I hw=>h pins s σ H R I (k σ H R hw)
theorem bc(c:Rel K M P H0 σ0 σ env ts H)(m:(.ref a,.fr (if b then .tuple ds else .list ds))∈ts):∃xs,SqB K H b a xs/\DNs K (Nw M (ax σ env ts)) H xs ds:=by
 obtain⟨v,e,dn⟩:=c.e.fr _ _ (d7 m);cases e;cases b with
 | false =>
  obtain⟨f,xs,e,d,q⟩:=DN.list dn;cases e;exact⟨xs,d.sq,q⟩
 | true =>
  obtain⟨f,xs,e,d,q⟩:=DN.tuple dn;cases e;exact⟨xs,d.sq,q⟩
theorem DNs.item(q:DNs K N H vs ds)(hi:i<ds.length):∃x,vs[i]? = some x/\DN K N H x ds[i]:=by
 have a:i<vs.length:=by rw[q.len];exact hi
 obtain⟨e,h1,h2⟩:=q.get (HR a);rw[HR hi] at h1;cases h1;exact⟨vs[i],HR a,h2⟩
theorem A8:sZ [(v,Sl.fr d)]:=λw i m=>by rw[HW] at m;cases m
theorem vo:j6 K (Itl K a) [(.ref a,.fr (.list ds))] ds where
 go := λc i hi=>by
  obtain⟨xs,s,q⟩:=bc (b:=false) (a:=a) (ds:=ds) c (HQ _ (by simp));obtain⟨x,e,_⟩:=q.item hi;exact⟨xs,x,s,e⟩
 yld:=λc i x H' hi y=>by
  obtain⟨xs,s,q⟩:=bc (b:=false) (a:=a) (ds:=ds) c (HQ _ (by simp));obtain⟨e,y⟩:=y;subst e;obtain⟨d,e',dn⟩:=q.item hi;rw[y xs s] at e';cases e';exact⟨aD.refl _,dn⟩
 stop:=λc=>by
  obtain⟨xs,s,q⟩:=bc (b:=false) (a:=a) (ds:=ds) c (HQ _ (by simp));exact⟨xs,s,by rw[q.len];exact Ih _⟩
 nv := A8
theorem ya:j6 K (Itt K a) [(.ref a,.fr (.tuple ds))] ds where
 go := λc i hi=>by
  obtain⟨xs,s,q⟩:=bc (b:=true) (a:=a) (ds:=ds) c (HQ _ (by simp));obtain⟨x,e,_⟩:=q.item hi;exact⟨xs,x,s,e⟩
 yld:=λc i x H' hi y=>by
  obtain⟨xs,s,q⟩:=bc (b:=true) (a:=a) (ds:=ds) c (HQ _ (by simp));obtain⟨e,y⟩:=y;subst e;obtain⟨d,e',dn⟩:=q.item hi;rw[y xs s] at e';cases e';exact⟨aD.refl _,dn⟩
 stop:=λc=>by
  obtain⟨xs,s,q⟩:=bc (b:=true) (a:=a) (ds:=ds) c (HQ _ (by simp));exact⟨xs,s,by rw[q.len];exact Ih _⟩
 nv := A8
def gK(lo:Int)(n:Nat):List ab:=(di n).map λ(k:Nat)=>eC (lo+k)
theorem ao(lo:Int)(n:Nat):(gK lo n).length=n:=by simp[gK]
theorem aL(lo:Int)(n i:Nat)(h:i<(gK lo n).length):(gK lo n)[i]=.int (lo+i):=by simp[gK]
theorem sI{lo:Int}{n:Nat}:j6 K (Itr lo n) [] (gK lo n) where
 go := λa i hi=>by rw[ao] at hi;exact hi
 yld:=λa i x H' hi y=>by
  obtain⟨e,y⟩:=y;subst e;rw[aL,y];exact⟨aD.refl _,.int _⟩
 stop:=λa=>by rw[ao];exact Ih _
 nv := λw i m=>by cases m
def kT(ds:List ab):List ab:=ds.zipIdx.map λ(p:ab×Nat)=>r0 [.int p.2,p.1]
theorem bB(ds:List ab):(kT ds).length=ds.length:=by simp[kT]
theorem fX(ds:List ab)(i:Nat)(h:i<(kT ds).length):(kT ds)[i]=.tuple [.int i,ds[i]'(by rw[bB] at h;exact h)]:=by simp[kT]
theorem vp:j6 K (Ite K b a) [(.ref a,.fr (if b then .tuple ds else .list ds))] (kT ds) where
 go := λc i hi=>by
  rw[bB] at hi;obtain⟨xs,s,q⟩:=bc (b:=b) (a:=a) (ds:=ds) c (HQ _ (by simp));obtain⟨x,e,_⟩:=q.item hi;exact⟨xs,x,s,e⟩
 yld:=λ{M P H0 H σ0 σ env ts} c i x H' hi y=>by
  rw[fX];rw[bB] at hi;obtain⟨xs,s,q⟩:=bc (b:=b) (a:=a) (ds:=ds) c (HQ _ (by simp));obtain⟨p,x1,rfl,d,rfl,y⟩:=y;obtain⟨f,e',dn⟩:=q.item hi;rw[y xs s] at e';cases e';exact⟨aD.new d,DN.of2 (SnT.of aw (c.newAddr d)) (.int _) (dn.keep (aN.same (aD.new d)))⟩
 stop:=λc=>by
  obtain⟨xs,s,q⟩:=bc (b:=b) (a:=a) (ds:=ds) c (HQ _ (by simp));exact⟨xs,s,by rw[q.len,bB]⟩
 nv := A8
def wS(ds es:List ab):List ab:=B2 (λd e=>r0 [d,e]) ds es
theorem dq(ds es:List ab):(wS ds es).length=min ds.length es.length:=by simp[wS]
theorem x9{b c:Bool}{a g:al}{ds es:List ab}:j6 K (Itz K b c a g) [(.ref a,.fr (if b then .tuple ds else .list ds)),(.ref g,.fr (if c then .tuple es else .list es))] (wS ds es) where
 go := λd i hi=>by
  rw[dq] at hi;obtain⟨xs,s,q⟩:=bc (b:=b) (a:=a) (ds:=ds) d (HQ _ (by simp));obtain⟨f,s',h⟩:=bc (b:=c) (a:=g) (ds:=es) d (HQ _ (by simp));obtain⟨x,e,_⟩:=q.item (i:=i) (by omega);obtain⟨o,e',_⟩:=h.item (i:=i) (by omega);exact⟨xs,f,x,o,s,s',e,e'⟩
 yld:=λ{M P H0 H σ0 σ env ts} d i x H' hi y=>by
  have k:=hi;rw[dq] at k;obtain⟨xs,s,q⟩:=bc (b:=b) (a:=a) (ds:=ds) d (HQ _ (by simp));obtain⟨f,s',h⟩:=bc (b:=c) (a:=g) (ds:=es) d (HQ _ (by simp));obtain⟨p,x1,u,rfl,j,rfl,y1,r⟩:=y;obtain⟨v,e1,l⟩:=q.item (i:=i) (by omega);obtain⟨z,e2,n⟩:=h.item (i:=i) (by omega);rw[y1 xs s] at e1;rw[r f s'] at e2;cases e1;cases e2;have t:(wS ds es)[i]=.tuple [ds[i]'(by omega),es[i]'(by omega)]:=by simp[wS]
  rw[t];exact⟨aD.new j,DN.of2 (SnT.of aw (d.newAddr j)) (l.keep (aN.same (aD.new j))) (n.keep (aN.same (aD.new j)))⟩
 stop:=λd=>by
  obtain⟨xs,s,q⟩:=bc (b:=b) (a:=a) (ds:=ds) d (HQ _ (by simp));obtain⟨f,s',h⟩:=bc (b:=c) (a:=g) (ds:=es) d (HQ _ (by simp));refine⟨xs,f,s,s',?_⟩;rw[q.len,h.len,dq];omega
 nv := λw i m=>by
  simp only[Ic,IJ,or_false] at m;rcases m with m|m <;> cases m
end
section
variable {K:cc}{M P:al->Prop}{H0 H H':Hp}{σ0 σ:St}{env:List Sl}{ts kp:List (V×Sl)}{v:V}{s:Sl}{X:Cx}{pos p:Pos}{e e1 e2 tg iter:ba}{es:List ba}{te:DE}{tl:DA}
def rH(te:DE):DI:=λenv RR=>te env λs a=>∃ds,be a s=some (.list ds)/\RR ds a
def BY(te:DE):DI:=λenv RR=>te env λs a=>∃ds,be a s=some (.tuple ds)/\RR ds a
theorem bj(hK:X.K=K)(h:PE X e (up K te)):PI X tg e (upI K (rH te)):=(zw (K:=K) hK h).imp λσ H R h=>by
 obtain⟨M,P,H0,σ0,env,ts,RR,c,f,g⟩:=h;refine⟨M,P,H0,σ0,env,ts,_,c,f,λs1 d i H1 h1 b=>?_⟩;obtain⟨ds,k,j⟩:=h1;have dn:=b.kept (v:=i) (s:=s1) (by simp) k;obtain⟨a,xs,rfl,l,q⟩:=dn.list;exact⟨a,rfl,⟨xs,l.sq⟩,g _ _ _ _ _ j (b.drop.addFr dn) vo⟩
theorem C7(hK:X.K=K)(h:PE X e (up K te)):PI X tg e (upI K (BY te)):=(F0 (K:=K) hK h).imp λσ H R h=>by
 obtain⟨M,P,H0,σ0,env,ts,RR,c,f,g⟩:=h;refine⟨M,P,H0,σ0,env,ts,_,c,f,λs1 d i H1 h1 b=>?_⟩;obtain⟨ds,k,j⟩:=h1;have dn:=b.kept (v:=i) (s:=s1) (by simp) k;obtain⟨a,xs,rfl,l,q⟩:=dn.tuple;exact⟨a,rfl,⟨xs,l.sq⟩,g _ _ _ _ _ j (b.drop.addFr dn) ya⟩
def yx(ta:DA):DI:=λenv RR=>ta env λss a=>∃s j,ss=[s]/\aZ a s=some (.int j)/\-4611686018427387904<=j/\j<4611686018427387904/\RR (gK 0 j.toNat) a
theorem bF(d:Gl X "range")(f:X.mg "range" = none)(g:PA X [e] (upA K tl))(i:j1 [e] X.env=[(false,eval e X.env)]:=by rfl):PI X tg (.Call (.Name "range" p) [e] [] pos) (upI K (yx tl)):=(uz d f g i).imp λσ H R h=>by
 obtain⟨M,P,H0,σ0,env,ts,RR,b,k,l⟩:=h;refine⟨M,P,H0,σ0,env,ts,_,b,k,λss c vs H1 h1 m a=>?_⟩;obtain⟨s,j,rfl,e1,n,o,q⟩:=h1;obtain⟨v,rfl⟩:=sF m;have w:=(a.view (v:=v) (by simp) e1).int;exact⟨j,by rw[w],n,o,l _ _ _ _ [] q (by simpa using a.drop) sI⟩
def sqD(b:Bool)(ds:List ab):ab:=if b then .tuple ds else .list ds
def yz(b:Bool)(ta:DA):DI:=λenv RR=>ta env λss a=>∃s ds,ss=[s]/\be a s=some (sqD b ds)/\RR (kT ds) a
theorem nY(b:Bool)(hK:X.K=K)(l:Gl X "enumerate")(m:X.mg "enumerate" = none)(n:PA X [e] (upA K tl))(o:j1 [e] X.env=[(false,eval e X.env)]:=by rfl) :
  PI X (.Tuple es j d) (.Call (.Name "enumerate" p) [e] [] pos) (upI K (yz b tl)):=(D7 (K:=K) hK b l m n o).imp λσ H R h=>by
 obtain⟨M,P,H0,σ0,env,ts,RR,f,q,r⟩:=h;refine⟨M,P,H0,σ0,env,ts,_,f,q,λss g vs H1 h1 t c=>?_⟩;obtain⟨s,ds,rfl,k,u⟩:=h1;obtain⟨v,rfl⟩:=sF t;have dn:=c.kept (v:=v) (s:=s) (by simp) k;have i:=c.drop.addFr dn;have w:∃a,v=.ref a:=by
  cases b with
  | false=>obtain⟨a,_,e,_⟩:=DN.list dn;exact⟨a,e⟩
  | true=>obtain⟨a,_,e,_⟩:=DN.tuple dn;exact⟨a,e⟩
 obtain⟨a,rfl⟩:=w;obtain⟨xs,sq,_⟩:=bc (b:=b) (a:=a) (ds:=ds) i (HQ _ (by simp[sqD]));exact⟨a,xs,rfl,sq,r _ _ _ _ _ u i vp⟩
def Gr(b c:Bool)(ta:DA):DI:=λenv RR=>ta env λss a=>∃s s' ds es,ss=[s,s']/\be a s=some (sqD b ds)/\be a s'=some (sqD c es)/\RR (wS ds es) a
theorem C6(b c:Bool){es:List ba}{w:Nat}{g:Pos}(hK:X.K=K)(x:Gl X "zip")(y:X.mg "zip" = none)(z:PA X [e1,e2] (upA K tl))
  (A:j1 [e1,e2] X.env=[(false,eval e1 X.env),(false,eval e2 X.env)]:=by rfl) (l:j1 [e2] X.env=[(false,eval e2 X.env)]:=by rfl) :
  PI X (.Tuple es w g) (.Call (.Name "zip" p) [e1,e2] [] pos) (upI K (Gr b c tl)):=(FZ (K:=K) hK b c x y z A l).imp λσ H R h=>by
 obtain⟨M,P,H0,σ0,env,ts,RR,m,B,C⟩:=h;refine⟨M,P,H0,σ0,env,ts,_,m,B,λss i vs H1 h1 t d=>?_⟩;obtain⟨s,s',ds,f,rfl,D,E,F⟩:=h1;obtain⟨v,v',rfl⟩:=FY t;have dns:=d.keptAll (vs:=[v,v']) (ds:=[sqD b ds,sqD c f]) t (λp G=>G) (by simp[bu,D,E]);have j:=d.drop.addFrs dns;have j:Rel K M P H0 σ0 σ i (ts++[(v,.fr (sqD b ds)),(v',.fr (sqD c f))]) H1:=by simpa using j
 cases dns with
 | cons dn q =>
  cases q with
  | cons k q =>
   cases q;have I:∃a,v=.ref a:=by
    cases b with
    | false=>obtain⟨a,_,e,_⟩:=DN.list dn;exact⟨a,e⟩
    | true=>obtain⟨a,_,e,_⟩:=DN.tuple dn;exact⟨a,e⟩
   have n:∃a,v'=.ref a:=by
    cases c with
    | false=>obtain⟨a,_,e,_⟩:=DN.list k;exact⟨a,e⟩
    | true=>obtain⟨a,_,e,_⟩:=DN.tuple k;exact⟨a,e⟩
   obtain⟨a,rfl⟩:=I;obtain⟨u,rfl⟩:=n;obtain⟨xs,sq,_⟩:=bc (b:=b) (a:=a) (ds:=ds) j (HQ _ (by simp[sqD]));obtain⟨o,r,_⟩:=bc (b:=c) (a:=u) (ds:=f) j (HQ _ (by simp[sqD]));exact⟨a,u,xs,o,rfl,sq,r,C _ _ _ _ _ F j x9⟩
theorem Rel.dropMid(h:Rel K M P H0 σ0 σ env (ts++kp++[t]) H):Rel K M P H0 σ0 σ env (ts++[t]) H:=by
 refine⟨?_,h.len,λw i m=>h.vw w i (by
  rcases HX.mp m with m|m
  ·exact HV _ (HV _ m)
  ·exact HQ _ m),h.ios⟩
 have a:=h.e;rw[ar,ar] at a;rw[ar];refine a.sub (λx s m=>.inl ?_) ?_
 ·rcases HX.mp m with m|m
  ·exact HV _ (HV _ m)
  ·exact HQ _ m
 ·have nd:=a.nd;rw[ae,ae] at nd;rw[ae];obtain⟨b,c,d⟩:=HY.mp nd;exact HY.mpr ⟨(HY.mp b).1,c,λx hx y f=>d x (HV _ hx) y f⟩
def FD(ds:List ab)(g:DG)(tb:DS):DS:=λDD env=>∃W:Nat->List Sl->Prop,W 0 env /\
 (∀i env,(h:i<ds.length)->W i env->g ds[i] env λa=>tb { DD with nx:=dI (W (i+1)) ⟨⟩,ct:=dI (W (i+1)) ⟨⟩,bk:=DD.nx } a)/\∀env,W ds.length env->DD.nx env
def Fl(it:DI)(g:DG)(tb:DS):DS:=λDD env=>it env λds a=>FD ds g tb DD a
theorem c8(p:PassesOwn (kf X.prog X.w) X.A X.env X.xe)(hc:X.calm=true)(hi:PI X tg iter (upI K it))(t:PG X tg (upG K g))(u:PSs X body (upS K tb))(z:∀x,zd iter X.env x=pure x:=by intro _;rfl) :
  PS X (.For tg iter body [] pos) (upS K (Fl it g tb)):=(uv p hc hi t u z).imp λD σ H h=>by
 obtain⟨M,P,H0,σ0,env,ts,DD,nv,n,B,ok⟩:=h;refine⟨M,P,H0,σ0,env,ts,_,n,B,λds d J H1 kp C f io=>?_⟩;obtain⟨W,E,j,done⟩:=C;have k:sZ (ts++kp):=λw i m=>by
  rcases HX.mp m with m|m
  ·exact nv w i m
  ·exact io.nv w i m
 refine⟨λi m σ H=>m=ds.length - i/\i<=ds.length/\∃env,W i env/\Rel K M P H0 σ0 σ env (ts++kp) H,⟨_,rfl,Iz _,d,E,f⟩,?_⟩;rintro i m F Q ⟨rfl,G,c,o,a⟩;by_cases b:i<ds.length
 ·refine .inr ⟨io.go a i b,λσ' H'=>∃env',W (i+1) env'/\Rel K M P H0 σ0 σ' env' (ts++kp) H',λσ' H' ⟨env',w',I⟩=>⟨ds.length - (i+1),by omega,rfl,b,env',w',I⟩,λx L y=>?_⟩;obtain⟨N,dn⟩:=io.yld a i x L b y;have l:=a.same N;refine⟨M,P,H0,σ0,c,ts++kp,ds[i],_,k,l,dn,j i c b o,λσ' env' H' O r=>?_⟩;refine⟨M,P,H0,σ0,env',ts++kp,_,k,r,O,⟨λσ' env' H' q r=>⟨env',q,r⟩,λs env' v σ' H' q r=>ok.rt s env' v σ' H' q r.dropMid,λσ' env' H' q r=>ok.nx _ _ _ q r.drop,λσ' env' H' q r=>⟨env',q,r⟩⟩⟩
 ·have e:i=ds.length:=by omega
  subst e;exact .inl ⟨io.stop a,ok.nx _ _ _ (done _ o) a.drop⟩
def EF(c:DT)(tb:DS):DS:=λDD env=>∃W:Nat->List Sl->Prop,(∃m,W m env)/\∀m env,W m env ->
 c env λk a=>if k=true then tb { DD with nx:=dI (λenv'=>∃b,b<m/\W b env') ⟨⟩,ct:=dI (λenv'=>∃b,b<m/\W b env') ⟨⟩,bk:=DD.nx } a else DD.nx a
theorem nZ(l:PassesOwn (kf X.prog X.w) X.A X.env X.xe)(hc:PT X c (upT K tc))(n:PSs X body (upS K tb)):PS X (.While c body [] pos) (upS K (EF tc tb)):=(xu l hc n).imp λD σ H h=>by
 obtain⟨M,P,H0,σ0,env,ts,DD,nv,i,⟨W,⟨o,p⟩,d⟩,ok⟩:=h;refine⟨λm σ H=>∃env,W m env/\Rel K M P H0 σ0 σ env ts H,⟨o,env,p,i⟩,?_⟩;rintro m s x ⟨a,t,e⟩;refine⟨M,P,H0,σ0,a,ts,_,e,d m a t,λk f y j b=>?_⟩;cases k with
 | false=>exact ok.nx _ _ _ j b
 | true =>
  refine⟨λσ' H'=>∃env',(∃g,g<m/\W g env')/\Rel K M P H0 σ0 σ' env' ts H',λσ' H' ⟨env',⟨g,u,w'⟩,v⟩=>⟨g,u,env',w',v⟩,?_⟩;exact⟨M,P,H0,σ0,f,ts,_,nv,b,j,⟨λσ' env' H' q r=>⟨env',q,r⟩,ok.rt,λσ' env' H' q r=>ok.nx _ _ _ q r,λσ' env' H' q r=>⟨env',q,r⟩⟩⟩
end
def pz:Option Sl->Sl
 | some (.fr d)=>.fr d
 | _=>.un
def GF(env:List Sl):Option Nat->Sl
 | none=>.un
 | some j=>pz env[j]?
def jh(ix:List (Option Nat))(env:List Sl):List Sl:=ix.map (GF env)
theorem gN{α β b:Type}{f:α->β}{g:α->b}:∀{l:List α}{x:β}{y:b},(x,y)∈(l.map f).zip (l.map g)->∃o∈l,x=f o/\y=g o
 | [],_,_,h=>by simp at h
 | a :: l,x,y,h=>by
  have h:(x,y)∈(f a,g a)::(l.map f).zip (l.map g):=h;rcases Ic.mp h with h|h
  ·cases h;exact⟨a,H9,rfl,rfl⟩
  ·obtain⟨o,ho,e⟩:=gN h;exact⟨o,HZ _ ho,e⟩
def BL:DT:=λenv R=>R true env
theorem PIf.imp(h:PIf X ifs t)(k:∀σ H Q,t' σ H Q->t σ H Q):PIf X ifs t':=λpins s σ H Q I hw=>h pins s σ H Q I (k σ H Q hw)
theorem bR{X:Cx}{K:cc}:PIf X [] (upT K BL):=oC.imp λσ H Q h=>by
 obtain⟨M,P,H0,σ0,env,ts,R,a,b,c⟩:=h;exact c _ _ _ b a
theorem fv{X:Cx}{K:cc}{c:ba}{t:DT}(h:PT X c (upT K t)):PIf X [c] (upT K t):=AO h
section
variable {K:cc}{M P:al->Prop}{H0 H:Hp}{σ0 σ:St}{env:List Sl}{ts:List (V×Sl)}{v:V}{s:Sl}{d:ab}
theorem i8(a:Rel K M P H0 σ0 σ env ts H)(m:(x,s)∈(fE σ ix).zip (jh ix env)):s=.un\/∃d v,s=.fr d/\x=some v/\DN K (Nw M (ax σ env ts)) H v d:=by
 obtain⟨o,_,e1,e2⟩:=gN m;cases o with
 | none=>exact .inl e2
 | some j =>
  have e2:s=pz env[j]?:=e2;cases q:env[j]? with
  | none=>rw[q] at e2;exact .inl e2
  | some s' =>
   rw[q] at e2;cases s' with
   | fr d =>
    obtain⟨f,e3,b⟩:=a.slot q;obtain⟨v,c,dn⟩:=a.e.fr _ _ b;refine .inr ⟨d,v,e2,?_,dn⟩;rw[e1];show(σ[j]?).join=_;rw[e3,c];rfl
   | _=>exact .inl e2
theorem pw(a:Rel K M P H0 σ0 σ env ts H):oas ((fE σ ix).zip (jh ix env))=[]:=by
 unfold oas;rw[se];rintro⟨x,s⟩ m;rcases i8 a m with e|⟨d,v,e,e2,_⟩
 ·subst e;exact bZ _
 ·subst e e2;exact db _ _
theorem v7(c:Rel K M P H0 σ0 σ env ts H):Rel K (Nw M (ax σ env ts)) (λ_=>False) H (fE σ ix) (fE σ ix) (jh ix env) [] H:=by
 have g:=pw (ix:=ix) c;have f:ax (fE σ ix) (jh ix env) []=(fE σ ix).zip (jh ix env):=by simp[ax,tmp]
 refine⟨⟨aN.refl,λa q=>q,λa z hn=>c.newAddr hn z,λa z=>z.elim,λx d m=>?_,λx l m=>?_,λx l m=>?_,λx S l m=>?_,by rw[f,g];exact IS⟩,by simp[fE,jh],λw i m=>(by cases m),λi l e=>rfl⟩
 rotate_right
 ·rw[f] at m;rcases i8 c m with e|⟨d',v,e,e2,dn⟩ <;> cases e
 ·rw[f] at m;rcases i8 c m with e|⟨d',v,e,e2,dn⟩
  ·cases e
  ·cases e;refine⟨v,e2,dn.to λb _ _ z=>?_⟩;rcases z with z|z
   ·exact z
   ·rw[f,g] at z;cases z
 ·rw[f] at m;rcases i8 c m with e|⟨d',v,e,e2,dn⟩ <;> cases e
 ·rw[f] at m;rcases i8 c m with e|⟨d',v,e,e2,dn⟩ <;> cases e
end
def CD(ds:List ab)(ix:List (Option Nat))(g:DG)(tt:DT)(te:DE)(env:List Sl)(R:Sl->List Sl->Prop):Prop:=∃W:Nat->List ab->Prop,W 0 [] /\
 (∀i rs,(h:i<ds.length)->W i rs->rs.length<sizeLine/\g ds[i] (jh ix env) λa=>tt a λk b=>if k=true then te b λs c=>∃d,be c s=some d/\W (i+1) (rs++[d]) else W (i+1) rs)/\∀rs,W ds.length rs->R (.ow rs) env
def sO(it:DI)(ix:List (Option Nat))(g:DG)(tt:DT)(te:DE):DE:=λenv R=>it env λds a=>CD ds ix g tt te a (dK R ⟨⟩)
section
variable {K:cc}
theorem vZ:∀σ H Q,up K (sO it ix g tt te) σ H Q->xa (upI K it) ix (upG K g) (upT K tt) (up K te) σ H Q:=λσ H Q h=>by
 obtain⟨M,P,H0,σ0,env,ts,R,B,N,O⟩:=h;refine⟨M,P,H0,σ0,env,ts,_,B,N,λds f J H1 kp S r io=>?_⟩;obtain⟨W,T,t,done⟩:=S;refine⟨λi m ys H=>m=ds.length - i/\i<=ds.length/\∃rs,W i rs/\DNs K (Nw M (ax σ f (ts++kp))) H ys rs/\Rel K M P H0 σ0 σ f (ts++kp) H,⟨_,rfl,Iz _,[],T,.nil,r⟩,?_⟩;rintro i m ys H2 ⟨rfl,U,rs,F,dns,j⟩;by_cases l:i<ds.length
 ·obtain⟨hz,tr⟩:=t i rs l F;refine .inr ⟨io.go j i l,by rw[dns.len];exact hz,λu H'=>∃n,W (i+1) n/\DNs K (Nw M (ax σ f (ts++kp))) H' u n/\Rel K M P H0 σ0 σ f (ts++kp) H',λu H' ⟨n,a,b,c⟩=>⟨ds.length - (i+1),by omega,rfl,l,n,a,b,c⟩,λx C y=>?_⟩;obtain⟨D,dn⟩:=io.yld j i x C l y;have k:=j.same D;have V:=v7 (ix:=ix) k;have X:=pw (ix:=ix) k;have Y:∀b,Nw (Nw M (ax σ f (ts++kp))) (ax (fE σ ix) (jh ix f) []) b->Nw M (ax σ f (ts++kp)) b:=λb z=>by
   rcases z with z|z
   ·exact z
   ·have Z:ax (fE σ ix) (jh ix f) []=(fE σ ix).zip (jh ix f):=by simp[ax,tmp]
    rw[Z,X] at z;cases z
  refine⟨_,_,_,_,jh ix f,[],ds[i],_,λw i m=>(by cases m),V,dn.to λb _ _ z=>Y b z,tr,λa0 b1 H4 h4 A=>?_⟩;refine⟨_,_,_,_,b1,[],_,A,h4,λkk b2 H5 G o=>?_⟩;cases kk with
  | false =>
   have I:aD C H5:=(o.e.keep.mono (M:=N0) λb z=>z).none;exact⟨rs,G,dns.keep (aN.same (D.trans I)),k.same I⟩
  | true =>
   refine⟨_,_,_,_,b2,[],_,o,G,λs b3 v H6 h6 q=>?_⟩;obtain⟨d,kd,w6⟩:=h6;have L:aD C H6:=(q.e.keep.mono (M:=N0) λb z=>z).none;have E:=q.kept (ts:=[]) (tt:=[]++[(v,s)]) (v:=v) (s:=s) (by simp) kd;exact⟨rs++[d],w6,(dns.keep (aN.same (D.trans L))).app (.cons (E.to λb _ _ z=>.inl z) .nil),k.same L⟩
 ·have e:i=ds.length:=by omega
  subst e;exact .inl ⟨io.stop j,λp hp=>O _ _ _ _ (done _ F) (j.resOw hp dns)⟩
end
section
variable {K:cc}{X:Cx}{N':List bt}{ix:List (Option Nat)}{sc:J5}{tg iter elt:ba}{ifs:List ba}{pos:Pos}{it:DI}{g:DG}{tt:DT}{te:DE}
theorem dZ(hc:X.calm=true)(S:bO X.N X.env N' ix sc)(hi:PI X tg iter (upI K it))
  (a:∀s H C fp,PG (bCx X N' sc s H C fp) tg (upG K g)) (b:∀s H C fp,PIf (bCx X N' sc s H C fp) ifs (upT K tt)) (c:∀s H C fp,PE (bCx X N' sc s H C fp) elt (up K te))
  (d:∀x,zd iter X.env x=pure x:=by intro _;rfl):PE X (.ListComp elt [⟨tg,iter,ifs,0⟩] sc pos) (up K (sO it ix g tt te)):=(uE hc S hi a b c d).imp vZ
theorem y6(h:∀σ H Q,up K c σ H Q->t σ H Q):∀D σ H,upS K (zO i c) D σ H->Co t (fD i) D σ H:=λD σ H e=>by
 obtain⟨M,P,H0,σ0,env,ts,DD,nv,b,f,ok⟩:=e;refine h _ _ _ ⟨M,P,H0,σ0,env,ts,_,b,f,λs1 d k H1 h1 a=>?_⟩;obtain⟨s',g,es,j⟩:=h1;obtain⟨r,cs⟩:=a.unVw es;exact ok.nx _ _ _ j (r.store nv g cs)
theorem cO{a d:Pos}(e:X.N.Nodup)(b:X.N[i]? = some y)(f:X.env.scope.names.lookup y=some .local)(hc:X.calm=true)(S:bO X.N X.env N' ix sc)(hi:PI X tg iter (upI K it))
  (h:∀s H C fp,PG (bCx X N' sc s H C fp) tg (upG K g)) (j:∀s H C fp,PIf (bCx X N' sc s H C fp) ifs (upT K tt)) (k:∀s H C fp,PE (bCx X N' sc s H C fp) elt (up K te))
  (c:Kn (.ListComp elt [⟨tg,iter,ifs,0⟩] sc pos) (some (.Name y d)) a.line X.env=pure true:=by rfl)
  (l:∀x,zd iter X.env x=pure x:=by intro _;rfl):PS X (.Assign [.Name y d] (.ListComp elt [⟨tg,iter,ifs,0⟩] sc pos) a) (upS K (zO i (sO it ix g tt te))):=(df e b f hc S hi h j k c l).imp (y6 vZ)
end
def yM:ab->Option Bool
 | .none=>some false
 | .bool b=>some b
 | .int i=>some (i != 0)
 | .list ds=>some (!ds.isEmpty)
 | .tuple ds=>some (!ds.isEmpty)
 | _=>none
section
variable {K:cc}{M P N:al->Prop}{H0 H:Hp}{σ0 σ:St}{env:List Sl}{ts:List (V×Sl)}{v:V}{s:Sl}{d:ab}{X:Cx}{pos p:Pos}{e e1 e2 a:ba}{es:List ba}{te tj:DE}
theorem DNs.emp(q:DNs K N H vs ds):vs.isEmpty=ds.isEmpty:=by cases q <;> rfl
theorem Vw.tru(w:Vw K N H v d)(e:yM d=some k):Fn K v H k:=by
 cases d with
 | none=>cases e;rw[w.none];rfl
 | bool b=>cases e;rw[w.bool];rfl
 | int b=>cases e;rw[w.int];rfl
 | list ds =>
  cases e;obtain⟨a,vs,rfl,s,q⟩:=w.list;exact .inl ⟨vs,s,by rw[q.emp]⟩
 | tuple ds =>
  cases e;obtain⟨a,vs,rfl,s,q⟩:=w.tuple;exact .inr (.inl ⟨vs,s,by rw[q.emp]⟩)
 | _=>cases e
def rF(te:DE):DT:=λenv R=>te env λs a=>∃d k,aZ a s=some d/\yM d=some k/\R k a
theorem qt(hK:X.K=K)(g:PE X a (up K te))(i:∀b,K2 a X.env b=(do let v <-b;Kz a.pos;Kd [v] (Qs v)):=by intro _;rfl):PT X a (upT K (rF te)):=(zy (K:=K) hK g i).imp λσ H Q h=>by
 obtain⟨M,P,H0,σ0,env,ts,R,e,j,l⟩:=h;refine⟨M,P,H0,σ0,env,ts,_,e,j,λs1 f m H1 h1 c=>?_⟩;obtain⟨d,k,e1,e2,n⟩:=h1;exact⟨k,(c.view (v:=m) (by simp) e1).tru e2,l _ _ _ n c.drop⟩
def kH:ab->String
 | .none => "NoneType"
 | .bool _ => "bool"
 | .int _ => "int"
 | .str _ => "str"
 | .list _ => "list"
 | .tuple _ => "tuple"
 | .dict _ => "dict"
inductive nE (K:cc) (H:Hp):V->String->Prop
 | non:nE K H .non "NoneType"
 | bl (b:Bool):nE K H (.bl b) "bool"
 | int (b:Int):nE K H (.int b) "int"
 | str (b:bt):nE K H (.str b) "str"
 | lst {a:al}{xs:List V}:SqL K H a xs->nE K H (.ref a) "list"
 | tup {a:al}{xs:List V}:SqT K H a xs->nE K H (.ref a) "tuple"
theorem yE(hK:X.K=K):fg X (.builtin "isinstance") (λxs H Q=>∃(x:V) (t n:String) (b:Bool),xs=[x,.ty n]/\nE K H x t/\nN K (.type t) (.type n)=some b/\Q (.bl b) H):=by
 subst hK;intro pins s σ H xs us Q I r h;obtain⟨x,t,n,b,rfl,ty,e,q⟩:=h;obtain⟨u,w',rfl,c,d⟩:=tD r;cases (show w'=LL n from d);have fin:∀tk,EP X pins σ Q (.bool b) { s with toks:=tk }:=λtk=>⟨.bl b,H,I.tok tk,rfl,q⟩
 cases ty with
 | non=>cases (show u=ec from c);exact mu PySem.W.kitx_none I.kIn True.intro e (λz=>nomatch z) fin
 | bl y=>cases (show u=o3 y from c);exact mu PySem.W.kitx_bool I.kIn True.intro e (λz=>nomatch z) fin
 | int i=>obtain⟨t,q⟩:=(show ∃t,u=ip i t from c);cases q;exact mu PySem.W.kitx_int I.kIn True.intro e (λz=>nomatch z) fin
 | str y=>obtain⟨t,q⟩:=(show ∃t,u=L3 y t from c);cases q;exact mu PySem.W.kitx_str I.kIn True.intro e (λz=>nomatch z) fin
 | @lst a xs f =>
  cases (show u=eE a from c);obtain⟨g,_,⟨o,j,h1,h2,_,_⟩,_⟩:=I.list f;exact mu PySem.W.kitx_list I.kIn ⟨o,h1,h2⟩ e (λz=>nomatch z) fin
 | @tup a xs f =>
  cases (show u=eE a from c);obtain⟨g,_,⟨o,h1,h2,_⟩,_⟩:=I.tuple f;exact mu PySem.W.kitx_tuple I.kIn ⟨o,h1,h2⟩ e (λz=>nomatch z) fin
def isK(n:String)(d:ab):Bool:=(kH d==n) || (n == "int" && kH d == "bool")
theorem vg(d:ab):nN K (.type (kH d)) (.type "int")=some (isK "int" d):=by cases d <;> rfl
theorem qM(d:ab):nN K (.type (kH d)) (.type "bool")=some (isK "bool" d):=by cases d <;> rfl
theorem eR(d:ab):nN K (.type (kH d)) (.type "list")=some (isK "list" d):=by cases d <;> rfl
theorem iV(d:ab):nN K (.type (kH d)) (.type "tuple")=some (isK "tuple" d):=by cases d <;> rfl
theorem Vw.kind(w:Vw K N H v d)(hd:∀kvs,d≠.dict kvs):nE K H v (kH d):=by
 cases d with
 | none=>rw[w.none];exact .non
 | bool b=>rw[w.bool];exact .bl b
 | int b=>rw[w.int];exact .int b
 | str b=>cases w with|dn h=>cases h
 | list ds=>obtain⟨a,vs,rfl,s,q⟩:=w.list;exact .lst s
 | tuple ds=>obtain⟨a,vs,rfl,s,q⟩:=w.tuple;exact .tup s
 | dict kvs=>exact absurd rfl (hd kvs)
def A6:ab->Bool
 | .dict _=>false
 | _=>true
theorem A6.no(h:A6 d=true):∀kvs,d≠.dict kvs:=λkvs e=>by subst e;cases h
def dIs(n:String)(te:DE):DE:=λenv R=>te env λs a=>∃d,aZ a s=some d/\A6 d=true/\R (.fr (.bool (isK n d))) a
theorem gn(hK:X.K=K)(e:∀d,nN K (.type (kH d)) (.type T)=some (isK T d))(t:Gl X "isinstance")(u:X.mg "isinstance" = none)(f:Gl X n)(g:X.mg n=none)(i:J6 n=some (.type T))(x:PE X a (up K te))
  (q:j1 [a,.Name n c] X.env=(false,eval a X.env)::j1 [.Name n c] X.env:=by rfl) (j:j1 [.Name n c] X.env=(false,eval (.Name n c) X.env)::j1 [] X.env:=by rfl)
  (k:n ≠ "__name__" := by decide) (l:(n==("__debug__" : bt))=false:=by decide) (m:(qs pos (j1 [.Name n c] X.env)).any (·.1)=false:=by rfl) :
  PE X (.Call (.Name "isinstance" p) [a,.Name n c] [] pos) (up K (dIs T te)) :=
 (kj (yE hK) t u PyProof.Rows.boot_isinstance (aA x (aA (AY (v:=.ty T) f g i rfl k l) bA j) q) (by decide) (by decide) q m).imp λσ H Q h=>by
 obtain⟨M,P,H0,σ0,env,ts,R,o,y,z⟩:=h;refine⟨M,P,H0,σ0,env,ts,_,o,y,λs1 r s H1 h1 b=>?_⟩;obtain⟨d,e1,nd,A⟩:=h1;have w:=b.view (v:=s) (by simp) e1;exact⟨s,kH d,T,isK T d,rfl,w.kind (A6.no nd),e d,z _ _ _ _ A (b.drop.addFr (.bl _))⟩
def vK(i:Nat)(tj te:DE):DS:=λDD env=>te env λs b=>(∃ds,(b[i]?).bind jm=some ds)/\tj b λe a=>∃d c ds z j s',be a s=some d/\aZ a e=some (.int z)/\a[i]? = some c/\jm c=some ds/\ixN ds.length z=some j /\
 fL c (ds.set j d)=some s'/\DD.nx (a.set i s')
theorem DNs.set:∀{vs:List V}{ds:List ab}{x:V}{d:ab} (j:Nat),DNs K N H vs ds->DN K N H x d->DNs K N H (vs.set j x) (ds.set j d)
 | _,_,_,_,_,.nil,_=>.nil
 | _,_,_,_,0,.cons _ q,h=>.cons h q
 | _,_,_,_,j+1,.cons g q,h=>.cons g (q.set j h)
theorem og(i:Nat){y:bt}{npos b:Pos}{j:ba}(A:X.N[i]? = some y)(hj:PE X j (up K tj))(B:PE X e (up K te))
  (C:Vis X.env.scope y:=by first|exact o0 rfl|exact eb da|exact eb (eb rfl)) (hd:(y==("__debug__" : bt))=false:=by decide)
  (o:(y==("__classdict__" : bt))=false:=by decide)
  (E:∀v,Kh (.Subscript (.Name y npos) j b) X.env v=(do
   let ov <-Kd [v] (eval (.Name y npos) X.env)
   let iv <-Kd [v,ov] (eval j X.env)
   Kz b
   Kd [v,ov,iv] (Qn ov iv v)
   release [v,ov,iv] []):=by intro _;rfl)
  (F:KI [.Subscript (.Name y npos) j b] e pos.line X.env=pure false:=by rfl) (hw:KJ [.Subscript (.Name y npos) j b] e X.env=pure none:=by rfl)
  (h1:(qb [.Subscript (.Name y npos) j b] X.env).map (·.2)=[Kh (.Subscript (.Name y npos) j b) X.env]:=by rfl):PS X (.Assign [.Subscript (.Name y npos) j b] e pos) (upS K (vK i tj te)) :=
 (qy B (zj (aG A C hd o) hj xg E) F hw h1).imp λD σ H h=>by
 obtain⟨M,P,H0,σ0,env,ts,DD,nv,p,G,ok⟩:=h;refine⟨M,P,H0,σ0,env,ts,_,p,G,λs1 l r H1 h1 f=>?_⟩;obtain⟨⟨I,J⟩,h1⟩:=h1;obtain⟨U,L,O⟩:=lf J;obtain⟨a,vs,t,V,_⟩:=f.mine L O;refine⟨.ref a,t,M,P,H0,σ0,l,ts++[(r,s1)],_,f,h1,λs2 m w Q h2 g=>?_⟩;obtain⟨d,W,ds,z,x,s',k,R,e2,S,ix,es,T⟩:=h2;have c:Rel K M P H0 σ0 σ m (ts++[(r,s1),(w,s2)]) Q:=by simpa using g
 obtain⟨Y,us,n,u,q⟩:=c.drop.mine e2 S;rw[t] at n;cases n;have dn:=c.kept (v:=r) (s:=s1) (by simp) k;refine⟨a,us,z,x,rfl,(g.view (v:=w) (by simp) R).int,u,by rw[q.len];exact ix,ok.nx _ _ _ T (c.drop.mut (ds:=ds) e2 es t (q.set x dn))⟩
def nV(env:List Sl):Sl->Option Sl
 | .fr d=>some (.fr d)
 | .ow l=>some (.ow l)
 | .tr S d=>some (.tr S d)
 | .vw i=>(env[i]?).bind λs=>match s with
  | .fr d=>some (.fr d)
  | .ow l=>some (.ow l)
  | _=>none
 | _=>none
def gS:Sl->Sl
 | .io l=>.io l
 | _=>.un
def jt(n:Nat)(env:List Sl):List Sl:=(env.take n).map gS
def kU(n:Nat)(R:Sl->List Sl->Prop):nF where
 nx := λenv=>R (.fr .none) (jt n env)
 rt := λs env=>∃r,nV env s=some r/\R r (jt n env)
def cH(n:Nat)(ss:List Sl):List Sl:=ss++Jt (n - ss.length) .un
theorem iA(m:Nat):∀{vs:List V}{ss:List Sl},vs.length=ss.length->(vs.map some++Jt m none).zip (ss++Jt m Sl.un)=tmp (vs.zip ss)++Jt m (none,Sl.un)
 | [],[],_=>by simp[tmp]
 | v::vs,s::ss,h=>by
  show(some v,s)::(vs.map some++Jt m none).zip (ss++Jt m Sl.un)=_;rw[iA m (by simpa using h)];rfl
 | [],_::_,h=>by simp at h
 | _::_,[],h=>by simp at h
theorem uS(m:Nat):oas (Jt m ((none,Sl.un):Ent))=[]:=by unfold oas;rw[se];intro e a;rw[(x3.mp a).2];rfl
theorem vz:∀{vs:List V}{σ:St}{env:List Sl},σ.length=env.length->(∀(j:Nat) (l:List ab),env[j]? = some (.io l)->j<vs.length->σ[j]? = (vs[j]?).map some)->(oas (tmp (vs.zip (jt vs.length env)))).Sublist (oas (σ.zip env))
 | [],σ,env,_,_=>by simp[tmp,oas]
 | v::vs,[],[],_,_=>by simp[tmp,oas,jt]
 | v :: vs,x::σ,s::env,a,h=>by
  have b:=vz (vs:=vs) (σ:=σ) (env:=env) (by simpa using a) λj l e hj=>by
   have:=h (j+1) l (by simpa using e) (by simpa using hj);simpa using this
  show(oas ((some v,gS s)::tmp (vs.zip (jt vs.length env)))).Sublist (oas ((x,s)::σ.zip env));rw[ad,ad];cases s with
  | io l =>
   have c:=h 0 l rfl (by simp);simp at c;subst c;exact List.Sublist.append (List.Sublist.refl _) b
  | _ =>
   simp only[gS,bZ];exact b.trans (List.sublist_append_right _ _)
 | _::_,[],_::_,a,_=>by simp at a
 | _::_,_::_,[],a,_=>by simp at a
theorem Rel.fin(a:Rel K M P H0 (start N' vs) σ env [(v,r)] H)(hn:n=vs.length)(B:jq r=true):aW K M P H0 (tmp ((v,r)::vs.zip (jt n env))) H:=by
 subst hn;have b:∀(j:Nat) (l:List ab),env[j]? = some (.io l)->j<vs.length->σ[j]? = (vs[j]?).map some:=λj l e hj=>by
  rw[a.ios j l e];unfold start;rw[Iu (by simpa using hj),IH]
 have g:=a.e;refine g.sub (λx s m=>?_) ?_
 ·rw[eI] at m;rcases Ic.mp m with m|m
  ·cases m;exact .inl (d7 (by simp))
  ·obtain⟨⟨w,s'⟩,m1,e⟩:=Ig.mp m;cases e;obtain⟨j,hj,e⟩:=Il m1;rw[IU] at e;have d:=hj;rw[IR] at d;have e1:vs[j]'(by omega)=w:=(i4 e).1;have e2:(jt vs.length env)[j]'(by omega)=s':=(i4 e).2;have f:j<env.length:=by
    have:(jt vs.length env).length=min vs.length env.length:=by simp[jt]
    omega
   have e3:s'=gS env[j]:=by rw[<-e2];simp[jt]
   cases q:env[j] with
   | io l =>
    rw[q] at e3;subst e3;have h:env[j]? = some (.io l):=by rw[HR f,q]
    have c:=b j l h (by omega);obtain⟨x,i,k⟩:=a.slot h;rw[i,HR (by omega:j<vs.length),e1] at c;have c:x=some w:=du c;subst c;exact .inl k
   | _=>rw[q] at e3;subst e3;exact .inr (.inl rfl)
 ·have nd:=g.nd;have o:ax σ env [(v,r)]=σ.zip env++[(some v,r)]:=rfl;rw[o,ae] at nd;obtain⟨p,t,u⟩:=HY.mp nd;have sub:=vz a.len b;rw[eI,show((some (v,r).1,(v,r).2):Ent)::tmp (vs.zip (jt vs.length env))=[(some v,r)]++tmp (vs.zip (jt vs.length env)) from rfl,ae];exact HY.mpr ⟨t,p.sublist sub,λx hx y A z=>u y (sub.subset A) x hx z.symm⟩
end
section
variable {K:cc}{M P:al->Prop}{H0 H:Hp}{σ0 σ:St}{env:List Sl}{v:V}{s:Sl}
theorem Rel.take(h:Rel K M P H0 σ0 σ env [(v,.vw i)] H)(e:env[i]? = some (.ow l)):Rel K M P H0 σ0 σ (env.set i .un) [(v,.ow l)] H:=by
 obtain⟨x,A,B,e1,E,F⟩:=h.split e;have ev:=h.vw v i (by simp);rw[e1] at ev;have ev:x=some v:=du ev;subst ev;have d:ax σ env [(v,.vw i)]=σ.zip env++[(some v,.vw i)]:=rfl;obtain⟨G,e3,m2⟩:=tq h.len e;have f:(σ.zip env)[i]? = some (some v,.ow l):=by rw[dU,e1,e];rfl
 obtain⟨g,k,n,o⟩:=d8 f;have b:=h.e;rw[d,n] at b;have p:ax σ (env.set i .un) [(v,.ow l)]=(g++(some v,.un)::k)++[(some v,.ow l)]:=by show σ.zip (env.set i .un)++[(some v,.ow l)]=_;rw[tp e1,o]
 refine⟨?_,by simp[h.len],λw j m=>(by rw[HW] at m;cases m),λj l' e'=>?_⟩
 ·rw[p];refine b.sub (λx s m=>?_) ?_
  ·rcases HX.mp m with m|m
   ·rcases HX.mp m with m|m
    ·exact .inl (HV _ (HV _ m))
    ·rcases Ic.mp m with m|m
     ·cases m;exact .inr (.inl rfl)
     ·exact .inl (HV _ (HQ _ (HZ _ m)))
   ·rw[HW] at m;cases m;exact .inl (HV _ (HQ _ H9))
  ·have nd:=b.nd;have ov:oas [(some v,Sl.vw i)]=[]:=by rw[ad,iO];rfl
   rw[ae,ae,ad,ov,IM] at nd;have q:oas [(some v,Sl.ow l)]=cx (some v,Sl.ow l):=by rw[ad];simp[oas]
   rw[ae,ae,ad,bZ,q];obtain⟨r,t,c⟩:=HY.mp nd;obtain⟨u,C,D⟩:=HY.mp t;refine HY.mpr ⟨HY.mpr ⟨r,C,λx hx y a=>c x hx y (HQ _ a)⟩,u,λx hx y a z=>?_⟩;subst z;rcases HX.mp hx with hx|hx
   ·exact c x hx x (HV _ a) rfl
   ·exact D x a x hx rfl
 ·by_cases hj:i=j
  ·subst hj;rw[Iy (Ib.mp e).1] at e';cases e'
  ·rw[Ip hj] at e';exact h.ios j l' e'
theorem Bv(e:env[i]? = some (.ow l)):jt n (env.set i .un)=jt n env:=by
 unfold jt;apply C1;intro j;rw[IH,IH,A2,A2];by_cases hj:i=j
 ·subst hj;rw[Iy (Ib.mp e).1,e];split <;> rfl
 ·rw[Ip hj]
theorem Rel.told(h:Rel K M P H0 σ0 σ env [(v,s)] H)(e:nV env s=some r):∃env',Rel K M P H0 σ0 σ env' [(v,r)] H/\jt n env'=jt n env/\jq r=true:=by
 cases s with
 | fr d=>cases e;exact⟨env,h,rfl,rfl⟩
 | tr S d=>cases e;exact⟨env,h,rfl,rfl⟩
 | ow l=>cases e;exact⟨env,h,rfl,rfl⟩
 | vw i =>
  have e:(env[i]?).bind _=some r:=e;cases q:env[i]? with
  | none=>rw[q] at e;cases e
  | some s' =>
   rw[q] at e;cases s' with
   | fr d =>
    cases e;have a:gc env (.vw i)=some (.fr d):=by show((env[i]?).bind slK).map Sl.fr=_;rw[q];rfl
    have:=(Rel.unVw (ts:=[]) (by simpa using h) a).1;exact⟨env,by simpa using this,rfl,rfl⟩
   | ow l=>cases e;exact⟨env.set i .un,h.take q,Bv q,rfl⟩
   | _=>cases e
 | _=>cases e
end
section
variable {P:kq}{w:k0}{K:cc}{mg:bt->Option ap}{base:bb}
theorem okD{x:bt}{st:Stmt}{f:al}{fd:j3}{N ps:List bt}{k:Nat}{sp:DSp}(F:Fun K x x st f fd)(S:az N ps (af st))(len:∀ss R,sp ss R->ss.length=ps.length)(O:ps.length<=N.length)
  (y:∀(cdv:ap) (A:Around) (outer:List Env) (s:av) (H:Hp) (E:XK),dc k (A.deeper (KK x (af st) s.heap.objs.size f cdv)) ->
   ∃t:DS,PSs (pp CX0 P w K mg base N x (af st) f cdv A outer s H E).nox (cA st) (upS K t)/\∀ss R,sp ss R->t (kU ps.length R) (cH N.length ss)):cq P w K mg base CX0 (k+1) f fd ps (spD K sp):=by
 refine F.ok S (λvs H Q E h=>?_) λcdv A outer s H vs Q E z h=>?_
 ·obtain⟨M,ss,R,b,_,a,_⟩:=h;rw[b];exact len ss R a
 obtain⟨M,ss,R,b,o,a,p⟩:=h;have hn:=len ss R a;obtain⟨t,B,j⟩:=y cdv A outer s H E z;have C:ax (start N vs) (cH N.length ss) []=tmp (vs.zip ss)++Jt (N.length - vs.length) (none,Sl.un):=by show(start N vs).zip (cH N.length ss)++[]=_;unfold start cH;rw[IM,<-b];exact iA _ b
 refine⟨_,B,M,o6 vs ss,H,start N vs,cH N.length ss,[],kU ps.length R,λw i m=>(by cases m),⟨?_,by simp[start,cH,b],λw i m=>(by cases m),λi l e=>rfl⟩,j ss R a,⟨λσ' env' H' q r=>?_,λs env' v σ' H' q r=>?_,λσ' env' H' q r=>(show False from q),λσ' env' H' q r=>(show False from q)⟩⟩
 ·rw[C];refine o.sub (λx s m=>?_) (by rw[ae,uS,IM];exact o.nd);rcases HX.mp m with m|m
  ·exact .inl m
  ·have:=(x3.mp m).2;cases this;exact .inr (.inl rfl)
 ·have c:=(Rel.addFr r (v:=.non) (d:=.none) .non)
  have c:Rel K M (o6 vs ss) H (start N vs) σ' env' [(.non,.fr .none)] H':=by simpa using c
  exact p _ _ _ _ q rfl (c.fin (by omega) rfl)
 ·obtain⟨D,G,I⟩:=q;have J:Rel K M (o6 vs ss) H (start N vs) σ' env' [(v,s)] H':=by simpa using r
  obtain⟨u,c,L,g⟩:=J.told (n:=ps.length) G;exact p D _ v H' I g (by rw[<-L];exact c.fin (by omega) g)
theorem Ht{x:bt}{st:Stmt}{f:al}{N ps:List bt}{k:Nat}{sp:DSp}{kV doc pm cdv ct oc:ap}{an od:Option al}{osl:Array (Option ap)}
  (z:∀(A:Around) (outer:List Env) (s:av) (H:Hp) (E:XK),dc k (A.deeper (KK x (af st) s.heap.objs.size f cdv)) ->
   ∃t:DS,PSs (pp CX0 P w K mg base N x (af st) f cdv A outer s H E).nox (cA st) (upS K t)/\∀ss R,sp ss R->t (kU ps.length R) (cH N.length ss))
  (B:K.lookup f=some ⟨oc,od,.func (i3 x x (eB st) (cA st) (af st) .none kV doc pm an cdv ct),osl⟩) (j:ol K cdv x=true) (S:az N ps (af st)) (len:∀ss R,sp ss R->ss.length=ps.length) (T:ps.length<=N.length):cq P w K mg base CX0 (k+1) f (i3 x x (eB st) (cA st) (af st) .none kV doc pm an cdv ct) ps (spD K sp):=by
 refine Em B j S (λvs H Q E h=>?_) λA outer s H vs Q E C h=>?_
 ·obtain⟨M,ss,R,b,_,a,_⟩:=h;rw[b];exact len ss R a
 obtain⟨M,ss,R,b,p,a,u⟩:=h;have hn:=len ss R a;obtain⟨t,D,o⟩:=z A outer s H E C;have F:ax (start N vs) (cH N.length ss) []=tmp (vs.zip ss)++Jt (N.length - vs.length) (none,Sl.un):=by show(start N vs).zip (cH N.length ss)++[]=_;unfold start cH;rw[IM,<-b];exact iA _ b
 refine⟨_,D.nox,M,o6 vs ss,H,start N vs,cH N.length ss,[],kU ps.length R,λw i m=>(by cases m),⟨?_,by simp[start,cH,b],λw i m=>(by cases m),λi l e=>rfl⟩,o ss R a,⟨λσ' env' H' q r=>?_,λs env' v σ' H' q r=>?_,λσ' env' H' q r=>(show False from q),λσ' env' H' q r=>(show False from q)⟩⟩
 ·rw[F];refine p.sub (λx s m=>?_) (by rw[ae,uS,IM];exact p.nd);rcases HX.mp m with m|m
  ·exact .inl m
  ·have:=(x3.mp m).2;cases this;exact .inr (.inl rfl)
 ·have c:=(Rel.addFr r (v:=.non) (d:=.none) .non)
  have c:Rel K M (o6 vs ss) H (start N vs) σ' env' [(.non,.fr .none)] H':=by simpa using c
  exact u _ _ _ _ q rfl (c.fin (by omega) rfl)
 ·obtain⟨G,I,J⟩:=q;have L:Rel K M (o6 vs ss) H (start N vs) σ' env' [(v,s)] H':=by simpa using r
  obtain⟨y,c,O,g⟩:=L.told (n:=ps.length) I;exact u G _ v H' J g (by rw[<-O];exact c.fin (by omega) g)
theorem EO{x:bt}{st:Stmt}{f:al}{fd:j3}{k:Nat}{ps:List bt}{sp:DSp}(F:Fun K x x st f fd)(m:mg x=some (.ref f))(b:bx K fd ps [])(G:cq P w K mg base CX0 k f fd ps (spD K sp)):Cal P w K mg base x k (spD K sp):=Cal.mk F m b G
end
section
variable {X:Cx}{x:bt}{p pos:Pos}{e:ba}{es:List ba}{k:Nat}{sp:DSp}{K:cc}{tl:DA}
theorem aR(C:Cal X.prog X.w X.K X.mg X.base x k (spD K sp))(b:dc k X.A)(c:Gl X x)(d:PA X (e::es) (upA K tl))(hd:(x==("__debug__" : bt))=false:=by decide)
  (f:j1 (e::es) X.env=(false,eval e X.env)::j1 es X.env:=by rfl) (a:(qs pos (j1 es X.env)).any (·.1)=false:=by rfl):PE X (.Call (.Name x p) (e::es) [] pos) (up K (vS sp tl)):=(lS C b c d hd f a).imp Cd
theorem iI(m:Nat)(C:Cal X.prog X.w X.K X.mg X.base x k (spD K sp))(b:dc k X.A)(c:Gl X x)(d:PA X (e::es) (upA K tl))(hd:(x==("__debug__" : bt))=false:=by decide)
  (f:j1 (e::es) X.env=(false,eval e X.env)::j1 es X.env:=by rfl) (a:(qs pos (j1 es X.env)).any (·.1)=false:=by rfl):PE X (.Call (.Name x p) (e::es) [] pos) (up K (mV sp m tl)):=(lS C b c d hd f a).imp yG
end
def Fa:G1:=λd R=>∃i,d=.int i/\R (.int (-i))
theorem DZ{K:cc}:∀(N:al->Prop) (H:Hp) (x:V) (d1:ab) (R:ab->Prop) (Q:VK),Vw K N H x d1->Fa d1 R->(∀d v,R d->DN K N H v d->Q v H)->(rU λi=>.int (-i)) x H Q:=by rintro N H x d R Q w ⟨i,rfl,a⟩ b;exact⟨i,w.int,b _ _ a (.int _)⟩
abbrev li(ns:List Int):List ab:=ns.map .int
theorem aT(W:Nat->List Sl->Prop)(b:W 0 env)
  (c:∀i env,(h:i<ds.length)->W i env->g ds[i] env λa=>tb { DD with nx:=dI (W (i+1)) ⟨⟩,ct:=dI (W (i+1)) ⟨⟩,bk:=DD.nx } a) (hd:∀env,W ds.length env->DD.nx env):FD ds g tb DD env:=⟨W,b,c,hd⟩
theorem dh(f:Nat->ab)(hz:ds.length<=1000000)
  (h : ∀i,(h:i<ds.length)->∀Q:ab->Prop,Q (f i)->g ds[i] (jh ix env) λa=>te a λs b=>∃d,be b s=some d/\Q d) (c:R (.ow ((di ds.length).map f)) env):CD ds ix g BL te env R:=by refine⟨λi rs=>rs=(di i).map f/\i<=ds.length,⟨rfl,Iz _⟩,λi rs hi w=>?_,λrs w=>by rw[w.1];exact c⟩;obtain⟨rfl,_⟩:=w;refine⟨by rw[HS,IC];exact Ik (by omega) ag,?_⟩;have:=h i hi (λd=>(di i).map f++[d]=(di (i+1)).map f/\i+1<=ds.length) ⟨by rw[Jo,IE];rfl,hi⟩;simpa only[BL,if_true] using this
theorem eD(p:Nat->Bool)(f:Nat->ab)(hz:ds.length<=1000000)
  (h : ∀i,(h:i<ds.length)->∀(Q:ab->Prop) (a:Prop),(p i=true->Q (f i))->(p i=false->a)->g ds[i] (jh ix env) λb=>tt b λk c=>if k=true then te c λs j=>∃d,be j s=some d/\Q d else a)
  (l:R (.ow (((di ds.length).filter p).map f)) env):CD ds ix g tt te env R:=by
 refine⟨λi rs=>rs=((di i).filter p).map f/\i<=ds.length,⟨rfl,Iz _⟩,λi rs hi w=>?_,λrs w=>by rw[w.1];exact l⟩;obtain⟨rfl,_⟩:=w;refine⟨?_,?_⟩
 ·have:=IN p (di i);rw[IC] at this;rw[HS];exact Ik (by omega) ag
 ·refine h i hi _ _ (λe=>⟨?_,hi⟩) (λe=>⟨?_,hi⟩)
  ·rw[Jo,Je,IE];simp[e]
  ·rw[Jo,Je,IE];simp[e]
def Bg(i:Int):Prop:=i.natAbs<2 ^ 8000
def GP(i j:Int):Prop:=0<j/\Bg j
theorem Bg.log(h:Bg j):j.natAbs.log2<9000:=by
 by_cases a:j.natAbs=0
 ·rw[a];decide
 ·have h1:=Nat.log2_self_le a;have h:j.natAbs<2 ^ 8000:=h;have h2:(2:Nat) ^ j.natAbs.log2<2 ^ 8000:=Jf h1 h;have b:=(Nat.pow_lt_pow_iff_right (by decide:1<2)).mp h2;exact Nat.lt_trans b (by decide)
section
variable {X:Cx}{K:cc}
theorem xE:OpR X (Kb .FloorDiv) (rI GP λi j=>.int (i / j)):=opI λi j _ _ _ _ _ hc q=>by
 refine floordiv_int (Int.ne_of_gt hc.1) ?_ (.inl (PyProof.noPylong_of_log2 hc.2.log));rw[Lq _ (Int.le_of_lt hc.1)];exact q
theorem iK(ns:List Int):∀n,n<=ns.length->preSum (λi=>ns.getD i 0) n=(ns.take n).sum
 | 0,_=>rfl
 | n+1,h=>by
  rw[preSum,iK ns n (by omega),JC,JS,HR (by omega:n<ns.length)];simp[HU,HR (by omega:n<ns.length)]
theorem v8(hK:X.K=K)(hc:X.calm=true):fg X (.builtin "sum") (λxs H Q=>∃(p:al) (ns:List Int),xs=[.ref p]/\SqL K H p (ns.map V.int)/\Q (.int ns.sum) H):=by
 subst hK;intro pins s σ H xs us Q I r h;obtain⟨p,ns,rfl,n,q⟩:=h;obtain⟨u,rfl,y⟩:=iD r;cases (show u=eE p from y);obtain⟨a,m,z,_⟩:=I.list n;have g:=z.isList;have k:p<s.heap.objs.size:=by obtain⟨_,e,_⟩:=g;exact Ij e
 have hsz:a.toArray.size=ns.length:=by have:=m.length;simp at this ⊢;omega
 have W:=(Walks.list (prog:=X.prog) (w:=X.w) (A:=X.A.in1) (I.ok.hd hc) s.heap.objs.size p (IF k) a.toArray).toS;rw[hsz] at W;refine call_sum_walkAnyS (Kc g ?_);refine⟨s.heap.objs.size,_,_,_,_,_,_,λi=>ns.getD i 0,rfl,W,⟨⟨_,Im _ rfl,rfl,rfl⟩,g.push _⟩,λb d=>?_,λi v c=>?_,λs' t' j=>?_⟩
 ·rcases Ic.mp d with rfl|d
  ·exact Ij (Im _ rfl)
  ·obtain rfl:=HW.mp d;exact Ij (Ia _ (id g).choose_spec.1)
 ·have c:a.toArray[i]? = some v:=c;have c:a[i]? = some v:=by simpa using c
  have hi:i<a.length:=(Ib.mp c).1;have f:i<ns.length:=by simp at hsz;omega
  obtain⟨u,e1,⟨t,e2⟩⟩:=m.get (i:=i) (x:=.int ns[i]) (by rw[IH,HR f];rfl);rw[c] at e1;cases e1;refine⟨t,?_⟩;rw[e2];show _=ip (ns.getD i 0) t;rw[HU,HR f];rfl
 ·obtain⟨h',g',d',B,l⟩:=s';have e1:g'=s.gens:=j.gens;have e2:d'=s.drawn:=j.drawn;have e3:l=s.os:=j.os;subst e1 e2 e3;have ep:=iK ns ns.length (Ih _);rw[sa] at ep;rw[ep];exact⟨.int ns.sum,H,I.kept λb o e=>j.heap b o (λd=>absurd (Ij e) ((HW.mp d)▸Ji _)) (Ia _ e),⟨_,rfl⟩,q⟩
def E9:GB:=λds R=>∃es ns,ds=[.list es]/\bS es=some ns/\R (.int ns.sum)
theorem Hu:jf K (λxs H Q=>∃(p:al) (ns:List Int),xs=[.ref p]/\SqL K H p (ns.map V.int)/\Q (.int ns.sum) H) E9:=by
 rintro N H xs ds R Q w ⟨es,ns,rfl,e1,b⟩ c;cases w with
 | cons d e =>
  cases e;obtain⟨a,vs,rfl,s,q⟩:=d.list;rw[cT e1] at q;rw[q.ints] at s;exact⟨a,ns,rfl,s,c _ _ b (.int _)⟩
end
end _L
namespace _L
open PySem
theorem Bg.of(h1:-1000000000000000000000000000000000000000000000<=i)(h2:i<=1000000000000000000000000000000000000000000000):Bg i:=by
 have h:i.natAbs<2 ^ 200:=by
  have:(2:Nat) ^ 200=1606938044258990275541962092341162602522202993782792835301376:=by decide
  rw[this];omega
 exact Ik h (JQ (by decide) (by decide))
end _L
namespace _L
open PySem PySem.Spec PyProof.Rows
section
variable (env:List Sl) (d:ab) (l:List ab) (i n:Nat) (s:Sl) (R:Sl->List Sl->Prop)
theorem pV:aZ env (.fr d)=some d:=rfl
theorem pT:aZ env (.ow l)=some (.list l):=rfl
theorem pU:aZ env (.io l)=some (.list l):=rfl
theorem pR:aZ env (.vw i)=(env[i]?).bind slD:=rfl
theorem y4:slD (.fr d)=some d:=rfl
theorem yY:slD (.ow l)=some (.list l):=rfl
theorem yZ:slD (.io l)=some (.list l):=rfl
theorem yW:slD .un=none:=rfl
theorem yX:slD (.tr S (.dict kvs))=some (.dict kvs):=rfl
theorem pS:aZ env (.tr S (.dict kvs))=some (.dict kvs):=rfl
theorem yV:slK (.fr d)=some d:=rfl
theorem yT:slK (.ow l)=none:=rfl
theorem yU:slK (.io l)=none:=rfl
theorem yS:slK .un=none:=rfl
theorem mq:be env (.fr d)=some d:=rfl
theorem mn:be env (.ow l)=some (.list l):=rfl
theorem mi:be env (.vw i)=(env[i]?).bind slK:=rfl
theorem p8:gc env (.fr d)=some (.fr d):=rfl
theorem pZ:gc env (.ow l)=some (.ow l):=rfl
theorem pY:gc env (.tr S d)=some (.tr S d):=rfl
theorem qp:nV env (.tr S d)=some (.tr S d):=rfl
theorem ml:be env (.tr S d)=some d:=rfl
theorem pX:gc env (.vw i)=((env[i]?).bind slK).map .fr:=rfl
def FG:Sl->Option Sl
 | .fr d=>some (.fr d)
 | .ow l=>some (.ow l)
 | _=>none
theorem qr:nV env (.fr d)=some (.fr d):=rfl
theorem qq:nV env (.ow l)=some (.ow l):=rfl
theorem qo:nV env (.vw i)=(env[i]?).bind FG:=by
 show(env[i]?).bind _=_
 congr 1
theorem ub:FG (.fr d)=some (.fr d):=rfl
theorem ua:FG (.ow l)=some (.ow l):=rfl
theorem mG:gS (.fr d)=.un:=rfl
theorem mE:gS (.ow l)=.un:=rfl
theorem mF:gS (.io l)=.io l:=rfl
theorem mD:gS .un=.un:=rfl
theorem rn:(kU n R).rt s env=∃r,nV env s=some r/\R r (jt n env):=rfl
theorem rp:(kU n R).nx env=R (.fr .none) (jt n env):=rfl
theorem qh:fL (.ow l) d'=some (.ow d'):=rfl
theorem qi:fL (.io l) d'=some (.io d'):=rfl
theorem uG:jm (.ow l)=some l:=rfl
theorem uH:jm (.io l)=some l:=rfl
theorem uI:jm (.fr d)=none:=rfl
theorem uF:jm .un=none:=rfl
theorem rP:pz (some (.fr d))=.fr d:=rfl
theorem rN:pz (some (.ow l))=.un:=rfl
theorem rO:pz (some (.io l))=.un:=rfl
theorem rM:pz (some .un)=.un:=rfl
theorem m7:GF env none=.un:=rfl
theorem mZ:GF env (some i)=pz env[i]?:=rfl
theorem jE:gi (.list l)=some l:=rfl
theorem iG:gi (.tuple l)=some l:=rfl
theorem lz:yM .none=some false:=rfl
theorem lD(b:Bool):yM (.bool b)=some b:=rfl
theorem pW(i:Int):yM (.int i)=some (i != 0):=rfl
theorem lC:yM (.list l)=some (!l.isEmpty):=rfl
theorem jz:yM (.tuple l)=some (!l.isEmpty):=rfl
theorem mr:o5 .none=true:=rfl
theorem qS(i:Int):o5 (.int i)=false:=rfl
theorem mw(i:Bool):o5 (.bool i)=false:=rfl
theorem mv:o5 (.list l)=false:=rfl
theorem jR:o5 (.tuple l)=false:=rfl
theorem vq(i:Int):isK "int" (.int i)=true:=rfl
theorem qW(b:Bool):isK "bool" (.bool b)=true:=rfl
theorem zE(b:Bool):isK "int" (.bool b)=true:=rfl
theorem zG(i:Int):isK "bool" (.int i)=false:=rfl
theorem qV:isK "list" (.list l)=true:=rfl
theorem mC:isK "tuple" (.tuple l)=true:=rfl
theorem zA:isK "list" (.tuple l)=false:=rfl
theorem zz:isK "tuple" (.list l)=false:=rfl
theorem zC:isK "int" .none=false:=rfl
theorem zF:isK "bool" .none=false:=rfl
theorem iW:bu env []=some []:=rfl
theorem gQ(s:Sl)(ss:List Sl):bu env (s::ss)=(be env s).bind λd=>(bu env ss).bind λds=>some (d::ds):=rfl
theorem jx:fJ env []=some []:=rfl
theorem iC(s:Sl)(ss:List Sl):fJ env (s::ss)=(aZ env s).bind λd=>(fJ env ss).bind λds=>some (d::ds):=rfl
theorem rh(i j:Int):hZ (.int i) (.int j)=decide (i=j):=by show(i==j)=_;by_cases h:i=j <;> simp[h]
end
theorem z8(x:α)(l:List α):atI (x::l) 0=some x:=cV (j:=0) rfl
theorem z7(x y:α)(l:List α):atI (x::y::l) 1=some y:=cV (j:=1) rfl
theorem z6(x y z:α)(l:List α):atI (x::y::z::l) 2=some z:=cV (j:=2) rfl
theorem zZ(a b c d x:α)(l:List α):atI (a::b::c::d::x::l) 4=some x:=cV (j:=4) rfl
theorem zY(a b c d e x:α)(l:List α):atI (a::b::c::d::e::x::l) 5=some x:=cV (j:=5) rfl
theorem zX(a b c d e f x:α)(l:List α):atI (a::b::c::d::e::f::x::l) 6=some x:=cV (j:=6) rfl
theorem zW(a b c d e f g x:α)(l:List α):atI (a::b::c::d::e::f::g::x::l) 7=some x:=cV (j:=7) rfl
theorem rf:hZ .none .none=true:=rfl
theorem zK(i:Int):hZ .none (.int i)=false:=rfl
theorem zL(i:Int):hZ (.int i) .none=false:=rfl
theorem tY(i:Int):shp (.int i)=True:=by simp[shp,oo,gV,r4]
theorem qd:shp .none=True:=by simp[shp,oo,gV,r4]
theorem qg(b:Bool):shp (.bool b)=True:=by simp[shp,oo,gV,r4]
theorem z0(x y z u:α)(l:List α):atI (x::y::z::u::l) 3=some u:=cV (j:=3) rfl
theorem D5{K:cc}{H:Hp}{a:al}{ns:List Int}{E:XK}(c:SqL K H a (ns.map V.int)){sp:DSp}(h:sp [.fr (.list (li ns))] (λr _=>r=.fr (.bool true))):spD K sp [.ref a] H (λv _=>v=.bl true) E:=by have dns:DNs K (λ_=>False) H [.ref a] [.list (li ns)]:=.cons (DN.sqL c) .nil;refine⟨λ_=>False,[.fr (.list (li ns))],_,rfl,z9 (ds:=[.list (li ns)]) dns (λa z=>z.elim),h,λr d v H' f _ b=>?_⟩;subst f;obtain⟨w,e,dn⟩:=b.fr _ _ H9;cases e;cases dn;rfl
theorem Fr{l:rz}{q:kq}{e:List bt}{m:(bt->Option ap)->bb->Prop}{o:k0->bb->Prop}{d:DefRec}{K:Params->cc}{sp:DSp}{k:Nat}(hk:k<=40)(hn:l.most=some 63)(g:d.params.defaults=[])
  (i:∀ns:List Int,ns.length<=63->sp [.fr (.list (li ns))] (λr _=>r=.fr (.bool true)))
  (j:∀(w:k0) (s₀:av) (mg mb:bt->Option ap) (h:bb),Lb q e [] m w s₀ mg mb h->(K w.params).In h->∃tb:List (al×bt),(∀b q,tb.lookup b=some q->h.get? b=some { cls:=.none,data:=.fields #[] }/\(K w.params).lookup b=none/\∃c,h.TableAt c b #[])/\∀T q,jg (K w.params) T q->tb.lookup T=some q)
  (p:∀(w:k0) (h:bb),o w h->(K w.params).In h)
  (F : ∀(w:k0) (mg:bt->Option ap) (fa:al) (h:bb),(K w.params).In h->h.Ns ke mg->mg d.name=some (.ref fa) ->
   ∃fd:j3,(∀(s:av) (u:ap),K5 s fd ⟨[u],[]⟩ [("_law_script",u)])/\∀base:bb,(K w.params).In base->base.Ns ke mg->cq l.prog w (K w.params) mg base CX0 k fa fd ["_law_script"] (spD (K w.params) sp)) :
  Md q e m o l.row.toRowW d [] (λf vs=>wx f vs):=by refine _L.Ai (n:=63) (k:=40) (x := "_law_script") (CX:=λ_=>CX0) (sp:=λw=>spD (K w.params) sp) hn (by decide) g ⟨rfl,by decide,by decide⟩ j p (λw mg fa h a b c=>?_) (λw H a ns t _ v=>D5 v (i ns t)) λ_ _ _ _ _ z=>z;obtain⟨fd,h1,h2⟩:=F w mg fa h a b c;exact⟨fd,h1,λbase x y=>(h2 base x y).mono hk⟩
def Sh(n:Nat)(d:ab):Prop:=d.canLay0=true/\d.depth<=n
theorem Sh.int(n:Nat)(i:Int):Sh n (.int i):=⟨by simp[gV],by simp[r4]⟩
theorem Sh.all:∀{ds:List ab},(∀x∈ds,Sh n x)->hL ds=true/\mA ds<=n
 | [],_=>⟨by simp[hL],by simp[mA]⟩
 | d::ds,h=>by
  have h1:=h d H9;have h2:=Sh.all λx hx=>h x (HZ _ hx);refine⟨by rw[hL,h1.1,h2.1];rfl,?_⟩;rw[mA];have a:=h1.2;have b:=h2.2;omega
theorem Sh.list(h:∀x∈ds,Sh n x):Sh (n+1) (.list ds):=by obtain⟨a,b⟩:=Sh.all h;exact⟨by rw[gV];exact a,by rw[r4];omega⟩
theorem Sh.tuple(h:∀x∈ds,Sh n x):Sh (n+1) (.tuple ds):=by obtain⟨a,b⟩:=Sh.all h;exact⟨by rw[gV];exact a,by rw[r4];omega⟩
theorem Sh.ints(n:Nat)(ns:List Int):Sh (n+1) (.list (li ns)):=Sh.list λx hx=>by
 obtain⟨i,_,rfl⟩:=Ig.mp hx;exact Sh.int _ _
theorem Sh.shp(h:Sh n d)(hn:n<=64):shp d:=by show oo d=true;unfold oo;rw[h.1,decide_eq_true (Ie h.2 hn)];rfl
theorem bV{ns:List Int}(h:k<ns.length):atI (li ns) (k:Int)=some (.int (ns.getD k 0)):=cV (by
 rw[IH,HR h,HU,HR h];rfl)
theorem gO(h:i<(li ns).length):(li ns)[i]=.int (ns.getD i 0):=by
 have h':i<ns.length:=by simpa using h
 simp[HU,HR h']
theorem D4(ns:List Int)(i:Nat)(x:Int):(li ns).set i (.int x)=li (ns.set i x):=by simp[Lx]
theorem kC(ns:List Int)(x:Int):li ns++[.int x]=li (ns++[x]):=by simp
theorem qJ(n:Nat)(f:Nat->Int):(di n).map (λi=>eC (f i))=li ((di n).map f):=by show _=eP _ (eP _ _);rw[IK];rfl
theorem mY(a:-18446744073709551616<i)(h1:i<18446744073709551616):EY i j:=.inl ⟨a,h1⟩
theorem zS(a:-18446744073709551616<j)(h1:j<18446744073709551616):EY i j:=.inr ⟨a,h1⟩
@[irreducible] def dNx (u:DS):DS:=u
theorem zP(u:DS):dNx u=u:=by unfold dNx;rfl
theorem nx(h:u DD env):dNx u DD env:=by rw[zP];exact h
theorem ah{X:Cx}{K:cc}{st:Stmt}{rest:List Stmt}{t u:DS}(h1:PS X st (upS K t))(h2:PSs X rest (upS K u)):PSs X (st::rest) (upS K (EG t (dNx u))):=by rw[zP];exact dF h1 h2
end _L
namespace _L
theorem place{x:Int}{n:Nat}(h:0<n):∃a:Nat,x % (n:Int)=(a:Int)/\a<n:=by have b:=Ju x (show(n:Int)≠0 by omega);have h1:=Jp x (show(0:Int)<n by omega);exact⟨(x % (n:Int)).toNat,by omega,by omega⟩
end _L
namespace _L
open PySem PySem.Spec PyProof.Rows
theorem jZ(a:Nat->Nat->Bool)(val:Nat->Int)(c:∀i j,a i j=decide (val i<val j)):∀n,Kp a n<=n/\∀i,i<=n->val (Kp a n)<=val i
 | 0=>⟨Ih _,λi hi=>by rw[show i=0 by omega];exact Jb _⟩
 | n + 1=>by
  obtain⟨h1,h2⟩:=jZ a val c n;show(if a (n+1) (Kp a n) then n+1 else Kp a n)<=_/\_;cases e:a (n+1) (Kp a n) with
  | true =>
   rw[c,decide_eq_true_eq] at e;refine⟨by simp,λi hi=>?_⟩;have d:Kp a (n+1)=n+1:=by show(if a (n+1) (Kp a n) then n+1 else Kp a n)=_;rw[c,decide_eq_true e,ME rfl]
   rw[d];by_cases b:i=n+1
   ·rw[b];exact Jb _
   ·have:=h2 i (by omega);omega
  | false =>
   rw[c,decide_eq_false_iff_not] at e;refine⟨by simp;omega,λi hi=>?_⟩;have d:Kp a (n+1)=Kp a n:=by show(if a (n+1) (Kp a n) then n+1 else Kp a n)=_;rw[c,decide_eq_false e];rfl
   rw[d];by_cases b:i=n+1
   ·rw[b];omega
   ·exact h2 i (by omega)
theorem Hf{P:kq}{w:k0}{K:cc}{mg:bt->Option ap}{base:bb}{x:bt}{st:Stmt}{f:al}{fd:j3}{ps:List bt}(F:Fun K x x st f fd)(m:mg x=some (.ref f))(b:bx K fd ps []):Cal P w K mg base x 0 (spD K λ_ _=>False) :=
 Cal.mk F m b ⟨λvs H Q E h=>by obtain⟨_,_,_,_,_,z,_⟩:=h;exact z.elim,λA outer s H args us vs Q E a c d r h=>by obtain⟨_,_,_,_,_,z,_⟩:=h;exact z.elim⟩
theorem zD(l:List ab):isK "int" (.list l)=false:=rfl
theorem zB(l:List ab):isK "int" (.tuple l)=false:=rfl
mutual
def noL:ab->Bool
 | .none=>true
 | .bool _=>true
 | .int _=>true
 | .str _=>true
 | .tuple ds=>gr ds
 | _=>false
def gr:List ab->Bool
 | []=>true
 | d::ds=>noL d&&gr ds
end
section
variable {K:cc}{M P N:al->Prop}{H0 H:Hp}{E T:List Ent}{σ0 σ:St}{env:List Sl}{ts tt:List (V×Sl)}{v:V}{s:Sl}{d:ab}
theorem DN.ot(h:DN K N H v d):noL d=true->OT K N H v d [] :=
 DN.rec (motive_1:=λv d _=>noL d=true->OT K N H v d []) (motive_2:=λv d _=>gr d=true->OTs K N H v d [])
 (λ_=>.non) (λb _=>.bl b) (λi _=>.int i)
 (λ_ _ _ e=>by simp[noL] at e) (λh _ i e=>.tup h (i (by simpa[noL] using e)))
 (λ_ _ _ _ _ _ _ e=>by simp[noL] at e) (λ_ _ e=>by simp[noL] at e) (λ_=>.nil)
 (λ{_ _ d ds} _ _ i j e=>by
  have e:(noL d&&gr ds)=true:=e;rw[Iq] at e;exact .cons (S:=[]) (S':=[]) (i e.1) (j e.2)) h
theorem DNs.ots{v:List V}{d:List ab}(h:DNs K N H v d):gr d=true->OTs K N H v d []:=DNs.ind (C:=λv d=>gr d=true->OTs K N H v d []) (λ_=>.nil) (λ{_ _ d ds} h _ j e=>by
  have e:(noL d&&gr ds)=true:=e;rw[Iq] at e;exact .cons (S:=[]) (S':=[]) (h.ot e.1) (j e.2)) h
def fzs:List ab->Option (List ab)
 | []=>some []
 | .list l::ds=>(fzs ds).map (fzD l::·)
 | _::_=>none
theorem DNs.fzs:∀{vs:List V}{ds ds':List ab},DNs K N H vs ds->fzs ds=some ds'->OTs K N H vs ds' []
 | _,_,_,.nil,e=>by cases e;exact .nil
 | _, d::ds,_,.cons h q,e=>by
  cases d with
  | list l =>
   have e:(_L.fzs ds).map (fzD l::·)=some _:=e;cases e2:_L.fzs ds with
   | none=>rw[e2] at e;cases e
   | some ds2 =>
    rw[e2] at e;cases e;exact .cons (S:=[]) (S':=[]) (.fz h) (DNs.fzs q e2)
  | _=>cases e
def slF(s:Sl):Option ab:=match s with
 | .fr d=>if noL d=true then some d else none
 | _=>none
def fzT:ab->Option ab
 | .list l=>some (fzD l)
 | _=>none
def ft(env:List Sl):Sl->Option ab
 | .fr d=>if noL d=true then some d else fzT d
 | .ow ds=>if gr ds=true then some (.list ds) else (fzs ds).map .list
 | .tr _ d=>some d
 | .vw i=>(env[i]?).bind slF
 | _=>none
def ce(env:List Sl):List Sl->Option (List ab)
 | []=>some []
 | s::ss=>(ft env s).bind λd=>(ce env ss).bind λds=>some (d::ds)
theorem Rel.tree(h:Rel K M P H0 σ0 σ env ts H)(m:(v,s)∈ts)(e:ft env s=some d):OT K (Nw M (ax σ env ts)) H v d (cx (some v,s))/\∀a∈cx (some v,s),H0 a=none:=by
 have mm:((some v,s):Ent)∈ax σ env ts:=d7 m;cases s with
 | fr d' =>
  by_cases c:noL d'=true
  ·have e:(if noL d'=true then some d' else fzT d')=some d:=e;rw[ME c] at e;cases e;obtain⟨v',e1,dn⟩:=h.e.fr _ _ mm;cases e1;rw[db];exact⟨dn.ot c,λa f=>by cases f⟩
  ·have e:(if noL d'=true then some d' else fzT d')=some d:=e;rw[MF c] at e;obtain⟨v',e1,dn⟩:=h.e.fr _ _ mm;cases e1;rw[db];cases d' with
   | list l=>cases e;exact⟨.fz dn,λa f=>by cases f⟩
   | _=>cases e
 | ow ds =>
  have e:(if gr ds=true then some (fI ds) else (fzs ds).map .list)=some d:=e;by_cases c:gr ds=true
  ·rw[ME c] at e;cases e;obtain⟨a,vs,e1,e2,dn,g⟩:=h.e.ow _ _ mm;cases e1;exact⟨.lst e2 (dn.ots c),λb j=>by rw[HW.mp j];exact g⟩
  ·rw[MF c] at e;cases e3:fzs ds with
   | none=>rw[e3] at e;cases e
   | some ds' =>
    rw[e3] at e;cases e;obtain⟨a,vs,e1,e2,dn,g⟩:=h.e.ow _ _ mm;cases e1;exact⟨.lst e2 (dn.fzs e3),λb j=>by rw[HW.mp j];exact g⟩
 | tr S d' =>
  cases e;obtain⟨v',e1,ot,g⟩:=h.e.tr _ _ _ mm;cases e1;rw[aq];exact⟨ot,g⟩
 | vw i =>
  have e:(env[i]?).bind slF=some d:=e;cases q:env[i]? with
  | none=>rw[q] at e;cases e
  | some s' =>
   rw[q] at e;cases s' with
   | fr d' =>
    have e:(if noL d'=true then some d' else none)=some d:=e;by_cases c:noL d'=true
    ·rw[ME c] at e;cases e;obtain⟨x,e1,m1⟩:=h.slot q;obtain⟨v',e2,dn⟩:=h.e.fr _ _ m1;have e3:=h.vw v i m;rw[e1,e2] at e3;cases e3;rw[iO];exact⟨dn.ot c,λa f=>by cases f⟩
    ·rw[MF c] at e;cases e
   | _=>cases e
 | _=>cases e
theorem Rel.trees(h:Rel K M P H0 σ0 σ env ts H):∀{vs:List V}{ss:List Sl}{ds:List ab},vs.length=ss.length->(∀p∈vs.zip ss,p∈ts)->ce env ss=some ds->OTs K (Nw M (ax σ env ts)) H vs ds (oas (tmp (vs.zip ss)))/\∀a∈oas (tmp (vs.zip ss)),H0 a=none
 | [],[],_,_,_,e=>by cases e;exact⟨.nil,λa c=>by cases c⟩
 | v :: vs,s::ss,ds,b,f,e=>by
  unfold ce at e;cases e1:ft env s with
  | none=>rw[e1] at e;cases e
  | some d =>
   rw[e1] at e;cases e2:ce env ss with
   | none=>rw[e2] at e;cases e
   | some ds' =>
    rw[e2] at e;cases e;obtain⟨a1,a2⟩:=h.tree (v:=v) (f (v,s) (by simp)) e1;obtain⟨g,i⟩:=h.trees (vs:=vs) (ss:=ss) (by simpa using b) (λp j=>f p (by simp[j])) e2;have k:oas (tmp ((v::vs).zip (s::ss)))=cx (some v,s)++oas (tmp (vs.zip ss)):=ad _ _;rw[k];exact⟨.cons a1 g,λa c=>(HX.mp c).elim (a2 a) (i a)⟩
 | [],_::_,_,b,_,_=>by simp at b
 | _::_,[],_,b,_,_=>by simp at b
theorem aW.fold(h:aW K M P H0 (E++T) H)(ot:OT K (Nw M (E++T)) H v d (oas T))(e:∀a∈oas T,H0 a=none):aW K M P H0 (E++[(some v,.tr (oas T) d)]) H:=by
 have c:oas (E++[(some v,Sl.tr (oas T) d)])=oas (E++T):=by rw[ae,ae,ad,aq];simp[oas]
 have ne:Nw M (E++[(some v,Sl.tr (oas T) d)])=Nw M (E++T):=by unfold Nw;rw[c]
 have b:∀x s,(x,s)∈E++[(some v,Sl.tr (oas T) d)]->(x,s)∈E++T\/(x,s)=(some v,Sl.tr (oas T) d):=λx s m=>by
  rcases HX.mp m with m|m
  ·exact .inl (HV _ m)
  ·exact .inr (HW.mp m)
 refine⟨h.keep,h.live,h.mt,h.pm,λx d' m=>?_,λx d' m=>?_,λx d' m=>?_,λx S d' m=>?_,by rw[c];exact h.nd⟩
 ·rw[ne];rcases b _ _ m with m|m
  ·exact h.fr x d' m
  ·cases m
 ·rw[ne];rcases b _ _ m with m|m
  ·exact h.ow x d' m
  ·cases m
 ·rw[ne];rcases b _ _ m with m|m
  ·exact h.io x d' m
  ·cases m
 ·rw[ne];rcases b _ _ m with m|m
  ·exact h.tr x S d' m
  ·cases m;exact⟨v,rfl,ot,e⟩
theorem oE(q:OTs K N H vs ds S)(b:H p=none):OTs K N (upd H p o) vs ds S:=q.keep (aN.same (aD.new b)) λa c=>by
 obtain⟨xs,z⟩:=q.lives a c;rw[aD.new b _ _ z,z]
theorem Rel.resTupT(h:Rel K M P H0 σ0 σ env (ts++tt) H)(b:H p=none)(q:OTs K (Nw M (ax σ env (ts++tt))) H vs ds (oas (tmp tt)))(f:∀a∈oas (tmp tt),H0 a=none) :
  Rel K M P H0 σ0 σ env (ts++[(.ref p,.tr (oas (tmp tt)) (.tuple ds))]) (upd H p (.tup vs)):=by have c:=h.newAddr b;have h':=h.same (aD.new (o:=.tup vs) b);have d:=h'.e;rw[ar] at d q c;refine h'.drop.withRes (d.fold (.tup (SnT.of aw c) (oE q b)) f) rfl
theorem aW.foldL(h:aW K M P H0 (E++T) H)(c:H p=none)(q:OTs K (Nw M (E++T)) H vs ds (oas T))(k:∀a∈oas T,H0 a=none):aW K M P H0 (E++[(some (.ref p),.tr (p::oas T) (.list ds))]) (upd H p (.lst vs)):=by
 have j:oas (E++[(some (.ref p),Sl.tr (p::oas T) (.list ds))])=oas E++p::oas T:=by rw[ae,ad,aq];simp[oas]
 have i:p ∉ oas (E++T):=λz=>by
  obtain⟨vs',q,_⟩:=h.own z;rw[c] at q;cases q
 have l:H0 p=none:=by
  cases e:H0 p with
  | none=>rfl
  | some o=>exact absurd c (h.live p (by rw[e];simp))
 have up:∀b o,H b=some o->Nw M (E++[(some (.ref p),Sl.tr (p::oas T) (.list ds))]) b->Nw M (E++T) b:=λb o e z=>by
  rcases z with z|z
  ·exact .inl z
  ·rw[j] at z;rcases HX.mp z with z|z
   ·exact .inr (by rw[ae];exact HV _ z)
   ·rcases Ic.mp z with z|z
    ·rw[z,c] at e;cases e
    ·exact .inr (by rw[ae];exact HQ _ z)
 have d:∀x s,(x,s)∈E++[(some (.ref p),Sl.tr (p::oas T) (.list ds))]->(x,s)∈E++T\/(x,s)=(some (.ref p),Sl.tr (p::oas T) (.list ds)):=λx s m=>by
  rcases HX.mp m with m|m
  ·exact .inl (HV _ m)
  ·exact .inr (HW.mp m)
 have h':=h.same (aD.new (o:=.lst vs) c);refine⟨h'.keep,h'.live,h.mt,h.pm,λx d' m=>?_,λx d' m=>?_,λx d' m=>?_,λx S d' m=>?_,?_⟩
 ·rcases d _ _ m with m|m
  ·obtain⟨v,e,dn⟩:=h.fr x d' m;exact⟨v,e,(dn.to up).keep (aN.same (aD.new c))⟩
  ·cases m
 ·rcases d _ _ m with m|m
  ·obtain⟨a,ws,e,e2,dn,r⟩:=h.ow x d' m;exact⟨a,ws,e,aD.new c _ _ e2,(dn.to up).keep (aN.same (aD.new c)),r⟩
  ·cases m
 ·rcases d _ _ m with m|m
  ·obtain⟨a,ws,e,e2,dn,r⟩:=h.io x d' m;exact⟨a,ws,e,aD.new c _ _ e2,(dn.to up).keep (aN.same (aD.new c)),r⟩
  ·cases m
 ·rcases d _ _ m with m|m
  ·obtain⟨v,e,dn,r⟩:=h.tr x S d' m;exact⟨v,e,(dn.to up).keep (aN.same (aD.new c)) λa f=>by
    obtain⟨xs,z⟩:=dn.lives a f;rw[aD.new c _ _ z,z],r⟩
  ·cases m;exact⟨_,rfl,.lst aw (oE (q.to up) c),λa f=>(Ic.mp f).elim (λz=>by rw[z];exact l) (k a)⟩
 ·rw[j];have nd:=h.nd;rw[ae] at nd i;obtain⟨n,t,u⟩:=HY.mp nd;refine HY.mpr ⟨n,Ir.mpr ⟨λz=>i (HQ _ z),t⟩,λa f b g z=>?_⟩;rcases Ic.mp g with g|g
  ·rw[g] at z;exact i (HV _ (z▸f))
  ·exact u a f b g z
theorem Rel.resLstT(h:Rel K M P H0 σ0 σ env (ts++tt) H)(c:H p=none)(q:OTs K (Nw M (ax σ env (ts++tt))) H vs ds (oas (tmp tt)))(d:∀a∈oas (tmp tt),H0 a=none) :
  Rel K M P H0 σ0 σ env (ts++[(.ref p,.tr (p::oas (tmp tt)) (.list ds))]) (upd H p (.lst vs)):=by have b:=h.e;rw[ar] at b q;exact h.drop.withRes (b.foldL c q d) rfl
end
section
variable {X:Cx}{K:cc}{pos:Pos}{es:List ba}{tl:DA}
def BM(t:DA):DE:=λenv R=>t env λss a=>∃ds,ce a ss=some ds/\ss.length<=sizeLine/\∀S,R (.tr S (.tuple ds)) a
theorem lO(h:PA X es (upA K tl)):PE X (.Tuple es x1 pos) (up K (BM tl)):=(fh h).imp λσ H Q h=>by
 obtain⟨M,P,H0,σ0,env,ts,R,b,f,g⟩:=h;refine⟨M,P,H0,σ0,env,ts,_,b,f,λss d vs H1 h1 i a=>?_⟩;obtain⟨ds,e,hz,j⟩:=h1;obtain⟨q,k⟩:=a.trees i (λp c=>HQ _ c) e;exact⟨by omega,λp c=>g _ _ _ _ (j _) (a.resTupT c q k)⟩
end
section
variable {K:cc}{M P:al->Prop}{H0 H:Hp}{E:List Ent}{σ0 σ:St}{env:List Sl}{ts:List (V×Sl)}
theorem xG(p:E'.Perm E):(oas E').Perm (oas E):=List.Perm.flatMap_right _ p
theorem aW.perm(h:aW K M P H0 E H)(p:E'.Perm E):aW K M P H0 E' H:=h.sub (λx s m=>.inl (p.mem_iff.mp m)) ((xG p).nodup_iff.mpr h.nd)
theorem Rel.perm(h:Rel K M P H0 σ0 σ env ts H)(p:a.Perm ts):Rel K M P H0 σ0 σ env a H :=
 ⟨h.e.perm (fo _ (p.map _)),h.len,λv i m=>h.vw v i (p.mem_iff.mp m),h.ios⟩
theorem lE(h:jq s=true):ft env s=ft env' s:=by cases s <;> first|rfl|cases h
theorem gb:∀{ss:List Sl},(∀s∈ss,jq s=true)->ce env ss=ce env' ss
 | [],_=>rfl
 | s::ss,h=>by
  unfold ce;rw[lE (env':=env') (h s H9),gb λx hx=>h x (HZ _ hx)]
theorem jA(e:ft env s=some d):∀{ss:List Sl}{ds:List ab},ce env ss=some ds->ce env (ss++[s])=some (ds++[d])
 | [],ds,h=>by
  cases h;show(ft env s).bind _=_;rw[e];rfl
 | z :: ss,ds,h=>by
  unfold ce at h;cases e1:ft env z with
  | none=>rw[e1] at h;cases h
  | some d1 =>
   rw[e1] at h;cases e2:ce env ss with
   | none=>rw[e2] at h;cases h
   | some ds' =>
    rw[e2] at h;cases h;show(ft env z).bind _=_;rw[e1];show(ce env (ss++[s])).bind _=_;rw[jA e e2];rfl
end
def CDT(ds:List ab)(ix:List (Option Nat))(g:DG)(tt:DT)(te:DE)(env:List Sl)(R:Sl->List Sl->Prop):Prop:=∃W:Nat->List ab->Prop,W 0 [] /\
 (∀i rs,(h:i<ds.length)->W i rs->rs.length<sizeLine/\g ds[i] (jh ix env) λa=>tt a λk b=>if k=true then te b λs c=>∃s' d,gc c s=some s'/\ft [] s'=some d/\W (i+1) (rs++[d]) else W (i+1) rs)/\∀rs,W ds.length rs->∀S,R (.tr S (.list rs)) env
def mT(it:DI)(ix:List (Option Nat))(g:DG)(tt:DT)(te:DE):DE:=λenv R=>it env λds a=>CDT ds ix g tt te a (dK R ⟨⟩)
section
variable {K:cc}
theorem rK:∀σ H Q,up K (mT it ix g tt te) σ H Q->xa (upI K it) ix (upG K g) (upT K tt) (up K te) σ H Q:=λσ H Q h=>by
 obtain⟨M,P,H0,σ0,env,ts,R,N,ht,hq⟩:=h;refine⟨M,P,H0,σ0,env,ts,_,N,ht,λds a J H1 kp hF r io=>?_⟩;obtain⟨W,w0,u,done⟩:=hF
 let X:Nat->List V->Hp->Prop:=λi ys H=>∃rs ss,W i rs/\ys.length=ss.length/\(∀s∈ss,jq s=true)/\ce [] ss=some rs/\Rel K M P H0 σ0 σ a ((ts++ys.zip ss)++kp) H
 refine⟨λi m ys H=>m=ds.length - i/\i<=ds.length/\X i ys H,⟨_,rfl,Iz _,[],[],w0,rfl,λs hs=>(by cases hs),rfl,by simpa using r⟩,?_⟩;rintro i m ys H2 ⟨rfl,a0,rs,ss,Y,A,L,k,f⟩;have rl:ys.length=rs.length:=by obtain⟨q,_⟩:=f.trees A (λp B=>HV _ (HQ _ B)) ((gb L).trans k);exact q.len
 by_cases l:i<ds.length
 ·obtain⟨hz,tr⟩:=u i rs l Y;refine .inr ⟨io.go f i l,by rw[rl];exact hz,λC H'=>X (i+1) C H',λC H' z=>⟨ds.length - (i+1),by omega,rfl,l,z⟩,λx D y=>?_⟩;obtain⟨sm,dn⟩:=io.yld f i x D l y;have c:=f.same sm;have rb:=v7 (ix:=ix) c;have oe:=pw (ix:=ix) c;have nb:∀b,Nw (Nw M (ax σ a ((ts++ys.zip ss)++kp))) (ax (fE σ ix) (jh ix a) []) b->Nw M (ax σ a ((ts++ys.zip ss)++kp)) b:=λb z=>by
   rcases z with z|z
   ·exact z
   ·have ee:ax (fE σ ix) (jh ix a) []=(fE σ ix).zip (jh ix a):=by simp[ax,tmp]
    rw[ee,oe] at z;cases z
  refine⟨_,_,_,_,jh ix a,[],ds[i],_,λw i m=>(by cases m),rb,dn.to λb _ _ z=>nb b z,tr,λE b1 H4 h4 F=>?_⟩;refine⟨_,_,_,_,b1,[],_,F,h4,λkk b2 H5 Z n=>?_⟩;cases kk with
  | false =>
   have k5:aD D H5:=(n.e.keep.mono (M:=N0) λb z=>z).none;exact⟨rs,ss,Z,A,L,k,c.same k5⟩
  | true =>
   refine⟨_,_,_,_,b2,[],_,n,Z,λs b3 v O h6 o=>?_⟩;obtain⟨s',d,es,td,w6⟩:=h6;have k6:aD D O:=(o.e.keep.mono (M:=N0) λb z=>z).none;obtain⟨G,S⟩:=o.unVw (ts:=[]) es;have rk:dN K (Nw M (ax σ a ((ts++ys.zip ss)++kp))) D O v s':=by
    have U:=G.e;rw[show ax E b3 ([]++[(v,s')])=ax E b3 []++tmp [(v,s')] from ar] at U;have e8:aW K _ _ D [(some v,s')] O:=U.sub (λx t m=>.inl (HQ _ m)) (by
     have nd:=U.nd;rw[ae] at nd;exact(HY.mp nd).2.1)
    exact aW.resOk (T:=[]) e8 S
   have I:=c.withRes (c.e.called k6 rk) S;refine⟨rs++[d],ss++[s'],w6,by simp[A],λt j=>?_,jA td k,?_⟩
   ·rcases HX.mp j with j|j
    ·exact L t j
    ·rw[HW.mp j];exact S
   ·rw[List.zip_append A];refine I.perm ?_;have:ts++(ys.zip ss++[v].zip [s'])++kp=(ts++ys.zip ss)++([(v,s')]++kp):=by simp
    rw[this];have e9:ts++ys.zip ss++kp++[(v,s')]=(ts++ys.zip ss)++(kp++[(v,s')]):=by simp
    rw[e9];exact fo _ JA
 ·have e:i=ds.length:=by omega
  subst e;refine .inl ⟨io.stop f,λp B=>?_⟩;have c:=f.drop;obtain⟨q,h0⟩:=c.trees A (λp B=>HQ _ B) ((gb L).trans k);exact hq _ _ _ _ (done _ Y _) (c.resLstT B q h0)
section
variable {X:Cx}
theorem AI(hc:X.calm=true)(S:bO X.N X.env N' ix sc)(hi:PI X tg iter (upI K it))
  (a:∀s H C fp,PG (bCx X N' sc s H C fp) tg (upG K g)) (b:∀s H C fp,PIf (bCx X N' sc s H C fp) ifs (upT K tt)) (c:∀s H C fp,PE (bCx X N' sc s H C fp) elt (up K te))
  (d:∀x,zd iter X.env x=pure x:=by intro _;rfl):PE X (.ListComp elt [⟨tg,iter,ifs,0⟩] sc pos) (up K (mT it ix g tt te)):=(uE hc S hi a b c d).imp rK
end
end
def zk(n:ab):List Nat->ab->ab
 | [],_=>n
 | i::p,.list ds=>.list (match ds[i]? with|some c=>ds.set i (zk n p c)|none=>ds)
 | i::p,.tuple ds=>.tuple (match ds[i]? with|some c=>ds.set i (zk n p c)|none=>ds)
 | _::_,d=>d
inductive wE (K:cc) (H:Hp):V->List Nat->V->Prop
 | nil {v:V}:wE K H v [] v
 | cons {b:al}{xs:List V}{i:Nat}{x u:V}{p:List Nat}:(SqL K H b xs\/SqT K H b xs)->xs[i]? = some x->wE K H x p u->wE K H (.ref b) (i::p) u
section
variable {K:cc}{N:al->Prop}{H:Hp}
def Ab(K:cc)(N:al->Prop)(H:Hp)(v:V)(p:List Nat)(d:ab)(S:List al)(ds:List ab):Prop:=∃a us,wE K H v p (.ref a)/\H a=some (.lst us)/\a∈S/\us.length=ds.length /\
  ∀{N1:al->Prop}{H1:Hp}{w:V}{e:ab}{c:List al},(∀b o,H b=some o->N1 b->N b)->aD H H1->N1 a->OT K N1 (upd H1 a (.lst (us++[w]))) w e c->∃S',S'.Perm (S++c)/\OT K N1 (upd H1 a (.lst (us++[w]))) v (zk (.list (ds++[e])) p d) S'
theorem OT.path0(o:OT K N H v (.list ds) S)(nd:S.Nodup):Ab K N H v [] (.list ds) S ds:=by
 cases o with
 | @lst a us _ c g q =>
  refine⟨a,us,.nil,g,H9,q.len,λ{N1 H1 w e h} m d i j=>?_⟩;obtain⟨k,p⟩:=Ir.mp nd;have l:OTs K N1 (upd H1 a (.lst (us++[w]))) us ds c:=(q.to m).keep ((aN.same d).trans (aN.own i)) λb f=>by
   obtain⟨xs,z⟩:=q.lives b f;have n:b≠a:=λz=>k (z▸f);rw[am n,d _ _ z,z]
  exact⟨a::(c++(h++[])),by simp,.lst aw (l.app (.cons j .nil))⟩
end
section
variable {K:cc}{M P:al->Prop}{H0 H:Hp}{T A B:List Ent}{v:V}{d:ab}
theorem aW.appAtU{U:List Ent}{i:Hp}{S:List al}{p:List Nat}{ds:List ab}(I:aW K M P H0 (A++(some v,.tr S d)::(B++U)) i)(R:OT K (Nw M (A++(some v,.tr S d)::(B++U))) i v d S->S.Nodup->Ab K (Nw M (A++(some v,.tr S d)::(B++U))) i v p d S ds):∃a us,wE K i v p (.ref a)/\i a=some (.lst us)/\us.length=ds.length /\
  ∀{T:List Ent}{H:Hp}{w:V}{e:ab},aD i H->(∀a∈oas T,i a=none\/a∈oas U)->aW K M P H0 (A++(some v,.tr S d)::(B++T)) H->OT K (Nw M (A++(some v,.tr S d)::(B++T))) H w e (oas T)->(∀a∈oas T,H0 a=none)->∃S',aW K M P H0 (A++(some v,.tr S' (zk (.list (ds++[e])) p d))::B) (upd H a (.lst (us++[w]))):=by
 obtain⟨v',ev,ot,J⟩:=I.tr _ _ _ (HQ _ H9);cases ev;have k:=I.nd;have l:oas (A++(some v,Sl.tr S d)::(B++U))=oas A++(S++(oas B++oas U)):=by rw[ae,ad,aq,ae]
 rw[l] at k;obtain⟨a,us,r,W,n,X,g⟩:=R ot (HY.mp (HY.mp k).2.1).1;refine⟨a,us,r,W,X,λ{T H w e} Y Z h D hT=>?_⟩;have C:oas (A++(some v,Sl.tr S d)::(B++T))=oas A++(S++(oas B++oas T)):=by rw[ae,ad,aq,ae]
 have nd:=h.nd;rw[C] at nd;obtain⟨n1,n2,n3⟩:=HY.mp nd;obtain⟨n4,n5,L⟩:=HY.mp n2;obtain⟨n7,n8,n9⟩:=HY.mp n5;have N:Nw M (A++(some v,Sl.tr S d)::(B++T)) a:=.inr (by rw[C];exact HQ _ (HV _ n));have mm:∀b o,i b=some o->Nw M (A++(some v,Sl.tr S d)::(B++T)) b->Nw M (A++(some v,Sl.tr S d)::(B++U)) b:=λb o O z=>by
  rcases z with z|z
  ·exact .inl z
  ·rw[C] at z;refine .inr ?_;rw[l];rcases HX.mp z with z|z
   ·exact HV _ z
   ·rcases HX.mp z with z|z
    ·exact HQ _ (HV _ z)
    ·rcases HX.mp z with z|z
     ·exact HQ _ (HQ _ (HV _ z))
     ·rcases Z b z with E|E
      ·rw[E] at O;cases O
      ·exact HQ _ (HQ _ (HQ _ E))
 have kN:aN (Nw M (A++(some v,Sl.tr S d)::(B++T))) H (upd H a (.lst (us++[w]))):=aN.own N;have F:=D.keep kN λb j=>am λz=>L a n b (HQ _ j) z.symm;obtain⟨S',pm,G⟩:=g mm Y N F;refine⟨S',?_⟩;have s:oas (A++(some v,Sl.tr S' (zk (.list (ds++[e])) p d))::B)=oas A++(S'++oas B):=by rw[ae,ad,aq]
 have u:(oas A++(S'++oas B)).Perm (oas A++(S++(oas B++oas T))):=by refine fo _ ((Lk _ pm).trans ?_);rw[Ja];exact fo _ JA
 have ne:Nw M (A++(some v,Sl.tr S' (zk (.list (ds++[e])) p d))::B)=Nw M (A++(some v,Sl.tr S d)::(B++T)):=by funext b;apply propext;unfold Nw;rw[C,s,u.mem_iff]
 have c:∀x t,(x,t)∈A\/(x,t)∈B->(x,t)∈A++(some v,Sl.tr S d)::(B++T):=λx t m=>by
  rcases m with m|m
  ·exact HV _ m
  ·exact HQ _ (HZ _ (HV _ m))
 have f:∀x t,(x,t)∈A++(some v,Sl.tr S' (zk (.list (ds++[e])) p d))::B->(x,t)=(some v,Sl.tr S' (zk (.list (ds++[e])) p d))\/((x,t)∈A\/(x,t)∈B):=λx t m=>by
  rcases HX.mp m with m|m
  ·exact .inr (.inl m)
  ·rcases Ic.mp m with m|m
   ·exact .inl m
   ·exact .inr (.inr m)
 have other:∀x t b,(x,t)∈A\/(x,t)∈B->b∈cx (x,t)->b≠a:=λx t b m Q z=>by
  subst z;rcases m with m|m
  ·exact n3 b (aV.mpr ⟨_,m,Q⟩) b (HV _ n) rfl
  ·exact L b n b (HV _ (aV.mpr ⟨_,m,Q⟩)) rfl
 refine⟨h.keep.put (J a n),λb q z=>?_,h.mt,h.pm,λx d' m=>?_,λx d' m=>?_,λx d' m=>?_,λx S2 d' m=>?_,?_⟩
 ·by_cases j:b=a
  ·subst j;rw[aw] at z;cases z
  ·rw[am j] at z;exact h.live b q z
 ·rw[ne];rcases f _ _ m with m|m
  ·cases m
  ·obtain⟨w',e1,dn⟩:=h.fr x d' (c _ _ m);exact⟨w',e1,dn.keep kN⟩
 ·rw[ne];rcases f _ _ m with m|m
  ·cases m
  ·obtain⟨b,us2,e1,e2,dn,y⟩:=h.ow x d' (c _ _ m);subst e1;exact⟨b,us2,rfl,by rw[am (other _ _ b m (HW.mpr rfl))];exact e2,dn.keep kN,y⟩
 ·rw[ne];rcases f _ _ m with m|m
  ·cases m
  ·obtain⟨b,us2,e1,e2,dn,y⟩:=h.io x d' (c _ _ m);subst e1;exact⟨b,us2,rfl,by rw[am (other _ _ b m (HW.mpr rfl))];exact e2,dn.keep kN,y⟩
 ·rw[ne];rcases f _ _ m with m|m
  ·cases m;refine⟨v,rfl,G,λb j=>?_⟩;rcases HX.mp (pm.mem_iff.mp j) with z|z
   ·exact J b z
   ·exact hT b z
  ·obtain⟨w',e1,dn,y⟩:=h.tr x S2 d' (c _ _ m);subst e1;exact⟨w',rfl,dn.keep kN λb j=>am (other _ _ b m (by rw[aq];exact j)),y⟩
 ·rw[s];exact u.nodup_iff.mpr nd
end
section
variable {K:cc}{M P:al->Prop}{H0 H H':Hp}{σ0 σ:St}{env:List Sl}{ts:List (V×Sl)}
theorem Rel.setTr{i:Nat}{S S':List al}{d d':ab}{v:V}{A B:List Ent}(h:Rel K M P H0 σ0 σ env ts H)(e:env[i]? = some (.tr S d))(a:ax σ (env.set i (.tr S' d')) ts=A++(some v,.tr S' d')::B)(b:aW K M P H0 (A++(some v,.tr S' d')::B) H'):Rel K M P H0 σ0 σ (env.set i (.tr S' d')) ts H':=by
 refine⟨by rw[a];exact b,by simp[h.len],h.vw,λj ds' e'=>?_⟩;by_cases hj:i=j
 ·subst hj;have hi:i<env.length:=(Ib.mp e).1;rw[Iy hi] at e';cases e'
 ·rw[Ip hj] at e';exact h.ios j ds' e'
end
section
variable {K:cc}{M P:al->Prop}{H0 H:Hp}{σ0 σ:St}{env:List Sl}{ts:List (V×Sl)}
theorem Rel.setUn(h:Rel K M P H0 σ0 σ env ts H)(nv:sZ ts)(hj:j<env.length)(y:Option V):Rel K M P H0 σ0 (σ.set j y) (env.set j .un) ts H/\∀b,Nw M (ax (σ.set j y) (env.set j .un) ts) b->Nw M (ax σ env ts) b:=by
 have d:j<(σ.zip env).length:=by rw[IR,h.len];omega
 obtain⟨a,c⟩:∃e,(σ.zip env)[j]? = some e:=⟨_,HR d⟩
 obtain⟨A,B,g,k⟩:=d8 c;have e1:ax σ env ts=A++a::(B++tmp ts):=by unfold ax;rw[g];simp
 have e2:ax (σ.set j y) (env.set j .un) ts=A++(y,.un)::(B++tmp ts):=by unfold ax;rw[pO,k];simp
 have f:=h.e;rw[e1] at f;refine⟨⟨by rw[e2];exact aW.kill (x:=a.1) (s:=a.2) f,by simp[h.len],λw i m=>absurd m (nv w i),λi ds e=>?_⟩,λb z=>?_⟩
 ·by_cases hi:j=i
  ·subst hi;rw[Iy hj] at e;cases e
  ·rw[Ip hi] at e;rw[Ip hi];exact h.ios i ds e
 ·rw[e2] at z;rw[e1];rcases z with z|z
  ·exact .inl z
  ·refine .inr ?_;rw[ae,ad,bZ] at z;rw[ae,ad];rcases HX.mp z with z|z
   ·exact HV _ z
   ·exact HQ _ (HQ _ z)
end
theorem d5(ns:List Int):gr (ns.map eC)=true:=by
 induction ns with
 | nil=>rfl
 | cons n ns a=>exact a
theorem Cc(f:Nat->ab)(hz:ds.length<=1000000)
  (h : ∀i,(h:i<ds.length)->∀Q:ab->Prop,Q (f i)->g ds[i] (jh ix env) λa=>te a λs b=>∃s' d,gc b s=some s'/\ft [] s'=some d/\Q d) (c:∀S,R (.tr S (.list ((di ds.length).map f))) env):CDT ds ix g BL te env R:=by refine⟨λi rs=>rs=(di i).map f/\i<=ds.length,⟨rfl,Iz _⟩,λi rs hi w=>?_,λrs w S=>by rw[w.1];exact c S⟩;obtain⟨rfl,_⟩:=w;refine⟨by rw[HS,IC];exact Ik (by omega) ag,?_⟩;have:=h i hi (λd=>(di i).map f++[d]=(di (i+1)).map f/\i+1<=ds.length) ⟨by rw[Jo,IE];rfl,hi⟩;simpa only[BL,if_true] using this
theorem jH{α:Type}(l:List α)(z:α):(di l.length).map (λi=>l.getD i z)=l:=by refine JB (by simp) λi h1 h2=>?_;simp[HU,HR h2]
theorem jG{α β:Type}(l:List α)(z:α)(g:α->β):(di l.length).map (λi=>g (l.getD i z))=l.map g:=by
 conv=>rhs;rw[<-jH l z,IK]
 rfl
theorem dE{α β:Type}(l:List α)(z:α)(p:α->Bool)(g:α->β):((di l.length).filter λi=>p (l.getD i z)).map (λi=>g (l.getD i z))=(l.filter p).map g:=by
 conv=>rhs;rw[<-jH l z,Mp,IK]
 rfl
abbrev lr(rs:List (List Int)):List ab:=rs.map λr=>.list (li r)
theorem fj{rs:List (List Int)}{i:Nat}{h:i<(lr rs).length}:(lr rs)[i]=.list (li (rs.getD i [])):=by
 have h':i<rs.length:=by simpa using h
 rw[IZ,HU,HR h'];rfl
theorem Sh.lr(n:Nat)(rs:List (List Int)):Sh (n+2) (.list (lr rs)):=Sh.list λx hx=>by
 obtain⟨r,_,rfl⟩:=Ig.mp hx;exact Sh.ints n r
theorem kR(h:Sh n d)(hn:n<=64):hZ d d=true:=SeqAt.eqv_refl _ (ge (h.shp hn))
section
variable {X:Cx}{K:cc}{pos:Pos}{es:List ba}{tl:DA}{e:ba}{ta:DE}{M P N:al->Prop}{env:List Sl}
def BV(t:DA):DE:=λenv R=>t env λss a=>∃ds,ce a ss=some ds/\ss.length<=sizeLine/\∀S,R (.tr S (.list ds)) a
theorem lQ(h:PA X es (upA K tl)):PE X (.List es pos) (up K (BV tl)):=(qz h).imp λσ H Q h=>by
 obtain⟨M,P,H0,σ0,env,ts,R,b,f,g⟩:=h;refine⟨M,P,H0,σ0,env,ts,_,b,f,λss d vs H1 h1 i a=>?_⟩;obtain⟨ds,e,hz,j⟩:=h1;obtain⟨q,k⟩:=a.trees i (λp c=>HQ _ c) e;exact⟨by omega,λp c=>g _ _ _ _ (j _) (a.resLstT c q k)⟩
def B8(i:Nat)(te:DE):DE:=λenv R=>(∃S ds,env[i]? = some (.tr S (.list ds)))/\te env λs a=>∃S ds s' d,a[i]? = some (.tr S (.list ds))/\gc a s=some s'/\ft [] s'=some d/\ds.length<sizeLine/\∀S',R (.fr .none) (a.set i (.tr S' (.list (ds++[d]))))
theorem Dp(i:Nat){apos cpos npos:Pos}(hK:X.K=K)(I:X.N[i]? = some y)(J:PE X e (up K ta))
  (L:Vis X.env.scope y:=by first|exact o0 rfl|exact eb da|exact eb (eb rfl)) (hd:(y==("__debug__" : bt))=false:=by decide)
  (C:(y==("__classdict__" : bt))=false:=by decide)
  (r:j1 [e] X.env=[(false,eval e X.env)]:=by rfl)
  (l:z3 (.Name y npos) "append" X.env (eval (.Name y npos) X.env)=eval (.Name y npos) X.env:=by rfl)
  (t:((qs cpos (j1 [e] X.env)).all (λx=>!x.1)&&(KF cpos (Kf [] X.env)).all (λx=>x.1.isSome)&&decide ([e].length+([]:List Ke).length+(if ([]:List Ke).isEmpty then 0 else 1)<30))=true:=by rfl)
  (m:(apos.endLine==cpos.line)=true:=by rfl) (j:(qs cpos (j1 [] X.env)).any (·.1)=false:=by rfl) :
  PE X (.Call (.Attribute (.Name y npos) "append" apos) [e] [] cpos) (up K (B8 i ta)) :=
 (kBm (K:=K) hK ei gt gs cQ (aG I L hd C) (aA J bA r) l t m r j).imp λσ H Q h=>by
 obtain⟨M,P,H0,σ0,env,ts,R,n,⟨⟨S0,O,T⟩,U⟩,V⟩:=h;obtain⟨x,ex,W⟩:=n.slot T;obtain⟨v,ev,D,_⟩:=n.e.tr _ _ _ W;subst ev;cases D with
 | @lst a vs _ Sq Y qH =>
  refine⟨.ref a,ex,.inl ⟨rfl,vs,SqL.of Y⟩,M,P,H0,σ0,env,ts,_,n,U,λs1 u q H1 h1 f=>?_⟩;obtain⟨S,ds,s',d,e1,es,Z,hz,hR⟩:=h1;obtain⟨k,ir⟩:=f.unVw es;obtain⟨x',A,B,w,q1,q2⟩:=f.drop.split e1;rw[ex] at w;cases w;have E:=k.e;have eA:ax σ u (ts++[(q,s')])=A++(some (.ref a),Sl.tr S (.list ds))::(B++[(some q,s')]):=by rw[ar,q1];simp[tmp]
  obtain⟨ot,z⟩:=k.tree (v:=q) (s:=s') (HQ _ H9) ((lE (env':=[]) ir).trans Z);have oe:oas [((some q,s'):Ent)]=cx (some q,s'):=by rw[ad];simp[oas]
  rw[eA] at E ot;rw[<-oe] at ot z;obtain⟨b,us,rc,G,hl,g⟩:=aW.appAtU (p:=[]) (ds:=ds) E λo nd=>o.path0 nd;cases rc;obtain⟨S',re⟩:=g (aD.refl _) (λc hc=>.inr hc) E ot z;refine⟨a,us,q,rfl,rfl,G,by rw[hl];exact hz,?_⟩;exact V _ _ _ _ (hR S') ((f.drop.setTr e1 (q2 _) re).addFr .non)
end
section
variable {K:cc}{N:al->Prop}{H:Hp}
theorem OTs.takeDrop:∀{xs:List V}{ds:List ab}{S:List al} (k:Nat),OTs K N H xs ds S->∃b a,S=b++a/\OTs K N H (xs.take k) (ds.take k) b/\OTs K N H (xs.drop k) (ds.drop k) a
 | _,_,S,0,q=>⟨[],S,rfl,.nil,q⟩
 | _,_,_,_+1,.nil=>⟨[],[],rfl,.nil,.nil⟩
 | _,_,_,k+1,.cons h q=>by
  obtain⟨b,a,e,c,d⟩:=q.takeDrop k;exact⟨_,a,by rw[e,Ja],.cons h c,d⟩
end
section
variable {K:cc}{M P:al->Prop}{H0 H H':Hp}{A B:List Ent}{v v':V}{d d':ab}{S S':List al}{y:Option V}
theorem oN:oas ((A++(y,Sl.un)::B)++[(some v',Sl.tr S' d')])=oas A++(oas B++S'):=by rw[ae,ae,ad,bZ,ad,aq];simp[oas]
theorem uT(sub:∀b∈S',b∈S\/H b=none):∀b o,H b=some o->Nw M ((A++(y,Sl.un)::B)++[(some v',Sl.tr S' d')]) b->Nw M (A++(some v,Sl.tr S d)::B) b:=λb o e z=>by
 rcases z with z|z
 ·exact .inl z
 ·rw[oN] at z;refine .inr ?_;rw[ae,ad,aq];rcases HX.mp z with z|z
  ·exact HV _ z
  ·rcases HX.mp z with z|z
   ·exact HQ _ (HQ _ z)
   ·rcases sub b z with z|z
    ·exact HQ _ (HV _ z)
    ·rw[z] at e;cases e
theorem aW.recut(h:aW K M P H0 (A++(some v,.tr S d)::B) H)(g:aD H H')(sub:∀b∈S',b∈S\/H b=none)(k:S'.Nodup)
  (l:OT K (Nw M ((A++(y,Sl.un)::B)++[(some v',Sl.tr S' d')])) H' v' d' S'):aW K M P H0 ((A++(y,Sl.un)::B)++[(some v',Sl.tr S' d')]) H':=by
 have up:=uT (M:=M) (A:=A) (B:=B) (y:=y) (v:=v) (v':=v') (d:=d) (d':=d') sub;have h':=h.same g;have n:oas (A++(some v,Sl.tr S d)::B)=oas A++(S++oas B):=by rw[ae,ad,aq]
 have nd:=h.nd;rw[n] at nd;obtain⟨t,u,p⟩:=HY.mp nd;obtain⟨G,C,D⟩:=HY.mp u;obtain⟨v0,ev,ot,E⟩:=h.tr _ _ _ (HQ _ H9);cases ev;have f:∀x s,(x,s)∈(A++(y,Sl.un)::B)++[(some v',Sl.tr S' d')]->(x,s)∈A++(some v,Sl.tr S d)::B\/(x,s)=(y,.un)\/(x,s)=(some v',.tr S' d'):=λx s m=>by
  rcases HX.mp m with m|m
  ·rcases HX.mp m with m|m
   ·exact .inl (HV _ m)
   ·rcases Ic.mp m with m|m
    ·exact .inr (.inl m)
    ·exact .inl (HQ _ (HZ _ m))
  ·exact .inr (.inr (HW.mp m))
 have j:∀b,b∈oas (A++(some v,Sl.tr S d)::B)->H b≠none:=λb c z=>by
  obtain⟨vs,q,_⟩:=h.own c;rw[z] at q;cases q
 refine⟨h'.keep,h'.live,h.mt,h.pm,λx d' m=>?_,λx d' m=>?_,λx d' m=>?_,λx F d' m=>?_,?_⟩
 ·rcases f _ _ m with m|m|m
  ·obtain⟨v,e,dn⟩:=h.fr x d' m;exact⟨v,e,(dn.to up).keep (aN.same g)⟩
  ·cases m
  ·cases m
 ·rcases f _ _ m with m|m|m
  ·obtain⟨a,ws,e,e2,dn,r⟩:=h.ow x d' m;exact⟨a,ws,e,g _ _ e2,(dn.to up).keep (aN.same g),r⟩
  ·cases m
  ·cases m
 ·rcases f _ _ m with m|m|m
  ·obtain⟨a,ws,e,e2,dn,r⟩:=h.io x d' m;exact⟨a,ws,e,g _ _ e2,(dn.to up).keep (aN.same g),r⟩
  ·cases m
  ·cases m
 ·rcases f _ _ m with m|m|m
  ·obtain⟨v,e,dn,r⟩:=h.tr x F d' m;exact⟨v,e,(dn.to up).keep (aN.same g) λa i=>by
    obtain⟨xs,z⟩:=dn.lives a i;rw[g _ _ z,z],r⟩
  ·cases m
  ·cases m;refine⟨_,rfl,l,λa i=>?_⟩;rcases sub a i with z|z
   ·exact E a z
   ·cases e:H0 a with
    | none=>rfl
    | some o=>exact absurd z (h.live a (by rw[e];simp))
 ·rw[oN];have far:∀b∈S',b ∉ oas A/\b ∉ oas B:=λb c=>by
   rcases sub b c with z|z
   ·exact⟨λw=>p b w b (HV _ z) rfl,λw=>D b z b w rfl⟩
   ·exact⟨λw=>j b (by rw[n];exact HV _ w) z,λw=>j b (by rw[n];exact HQ _ (HQ _ w)) z⟩
  refine HY.mpr ⟨t,HY.mpr ⟨C,k,λa i b c z=>(far b c).2 (z▸i)⟩,λa i b c z=>?_⟩;rcases HX.mp c with c|c
  ·exact p a i b (HQ _ c) z
  ·exact(far b c).1 (z▸i)
end
section
theorem Ca(xs:List V)(k:Nat):sX xs none (some (k:Int))=xs.take k:=by
 unfold sX;rw[HT.sIx_none,HT.sIx_nat,v2,Lz];by_cases h:k<=xs.length
 ·rw[JT h]
 ·rw[Ld (by omega),Jg (Ih _),Jg (by omega)]
theorem vT(xs:List V)(k:Nat):sX xs (some (k:Int)) none=xs.drop k:=by
 unfold sX;rw[HT.sIx_none,HT.sIx_nat];by_cases h:k<=xs.length
 ·rw[JT h,Jg (by simp)]
 ·rw[Ld (by omega),JI (Ih _),JI (by omega)];simp
end
def E6:Sl->Bool
 | .ow _=>true
 | .tr _ _=>true
 | .fr _=>true
 | _=>false
section
variable {X:Cx}{K:cc}{pos:Pos}{M P N:al->Prop}{H0 H:Hp}{σ0 σ:St}{env:List Sl}{ts:List (V×Sl)}{v:V}
theorem Rel.move(h:Rel K M P H0 σ0 σ env ts H)(e:env[i]? = some s)(c:E6 s=true):∃v,σ[i]? = some (some v)/\Rel K M P H0 σ0 σ (env.set i .un) (ts++[(v,s)]) H:=by
 obtain⟨x,A,B,e1,f,g⟩:=h.split e;have b:=h.e;rw[f] at b;obtain⟨v,ev⟩:∃v,x=some v:=by
  cases s with
  | fr d=>obtain⟨v,ev,_⟩:=b.fr _ _ (HQ _ H9);exact⟨v,ev⟩
  | ow ds=>obtain⟨a,vs,ev,_⟩:=b.ow _ _ (HQ _ H9);exact⟨_,ev⟩
  | tr S d=>obtain⟨v,ev,_⟩:=b.tr _ _ _ (HQ _ H9);exact⟨v,ev⟩
  | _=>cases c
 subst ev;refine⟨v,e1,?_⟩;have k:ax σ (env.set i .un) (ts++[(v,s)])=(A++(some v,Sl.un)::B)++[(some v,s)]:=by rw[ar,g];rfl
 have l:oas ((A++(some v,Sl.un)::B)++[(some v,s)])=oas A++(oas B++cx (some v,s)):=by rw[ae,ae,ad,bZ,ad];simp[oas]
 refine⟨?_,by simp[h.len],λw j m=>?_,λj l' e'=>?_⟩
 ·rw[k];refine b.sub (λx t m=>?_) ?_
  ·rcases HX.mp m with m|m
   ·rcases HX.mp m with m|m
    ·exact .inl (HV _ m)
    ·rcases Ic.mp m with m|m
     ·cases m;exact .inr (.inl rfl)
     ·exact .inl (HQ _ (HZ _ m))
   ·rw[HW] at m;cases m;exact .inl (HQ _ H9)
  ·have nd:=b.nd;rw[ae,ad] at nd;rw[l];exact(fo _ JA).nodup_iff.mpr nd
 ·rcases HX.mp m with m|m
  ·exact h.vw w j m
  ·rw[HW] at m;cases m;cases c
 ·by_cases hj:i=j
  ·subst hj;rw[Iy (Ib.mp e).1] at e';cases e'
  ·rw[Ip hj] at e';exact h.ios j l' e'
def Gv(i:Nat):DE:=λenv R=>∃s,env[i]? = some s/\E6 s=true/\R s (env.set i .un)
theorem h8(i:Nat)(d:X.N[i]? = some x:=by rfl)(f:Vis X.env.scope x:=by first|exact o0 rfl|exact eb da|exact eb (eb rfl))(hd:(x==("__debug__" : bt))=false:=by decide)
  (b:(x==("__classdict__" : bt))=false:=by decide):PE X (.Name x pos) (up K (Gv i)):=(aG d f hd b).imp λσ H Q h=>by
 obtain⟨M,P,H0,σ0,env,ts,R,c,⟨s,e,g,j⟩,k⟩:=h;obtain⟨v,e1,a⟩:=c.move e g;exact⟨v,e1,k _ _ _ _ j a⟩
end
end _L
namespace _L
open PySem Builtin Builtin.Str StrLaws PySem.NumText PySem.W
def num(n:Int):bt:=lc (toString n)
end _L
namespace _L
open PySem Builtin Builtin.Str StrLaws
def dY(x:Nat):Prop:=x=44\/x=45\/(48<=x/\x<=57)
end _L
namespace _L
open PySem PySem.Spec PyProof.Rows
section
variable {X:Cx}{K:cc}
def vM:DS:=λ_ _=>False
theorem AF{st:Stmt}:PS X st (upS K vM):=λpins s σ H D I h=>by
 obtain⟨M,P,H0,σ0,env,ts,DD,nv,a,z,ok⟩:=h;exact z.elim
end
section
variable {X:Cx}{K:cc}
def dFz(i:Nat)(u:DS):DS:=λDD env=>∃ds,env[i]? = some (.ow ds)/\u DD (env.set i (.fr (.list ds)))
theorem lN(i:Nat)(h:PSs X ss (upS K u)):PSs X ss (upS K (dFz i u)):=h.imp λD σ H h=>by
 obtain⟨M,P,H0,σ0,env,ts,DD,nv,a,⟨ds,e,b⟩,ok⟩:=h;exact⟨M,P,H0,σ0,_,ts,DD,nv,a.frz e,b,ok⟩
end
end _L
namespace _L
open PySem PySem.W PyProof.Rows
def ib{α:Type}(n:Nat)(P:α->Prop):KasT α->Prop
 | .ret a=>P a
 | .ask i j k=>i<n/\j<n/\∀b,ib n P (k b)
theorem ib.bind{α β:Type}{n:Nat}{P:α->Prop}{R:β->Prop}{f:α->KasT β}(c:∀a,P a->ib n R (f a)):∀{t:KasT α},ib n P t->ib n R (t.bind f)
 | .ret a,h=>c a h
 | .ask i j k,h=>⟨h.1,h.2.1,λb=>ib.bind c (h.2.2 b)⟩
def Pn(n:Nat)(p:Array Nat):Prop:=p.Perm (di n).toArray
theorem Pn.rev(h:Pn n p):Pn n (Ku p i j):=(mirror_perm _ _ _ _).trans h
theorem Pn.bub(h:Pn n p):Pn n (bubble p i j):=(bubble_perm _ _ _).trans h
theorem Pn.list(h:Pn n p):p.toList.Perm (di n):=by have:=Array.perm_iff_toList_perm.mp h;simpa using this
theorem Pn.lt(h:Pn n p)(h1:1<=n)(k:Nat):p.getD k 0<n:=by
 by_cases hk:k<p.size
 ·have e:p.getD k 0=p[k]:=by simp[Array.getD,hk]
  rw[e];have m:p[k]∈p.toList:=by simp
  exact Io.mp (h.list.mem_iff.mp m)
 ·have e:p.getD k 0=0:=by simp[Array.getD,hk]
  omega
section
variable (h1:1<=n)
include h1
theorem pH(h:Pn n p):∀(f k:Nat),ib n (λ_=>True) (KG p f k)
 | 0,k=>trivial
 | f+1,k=>⟨h.lt h1 _,h.lt h1 _,λb=>by
  cases b with
  | true=>exact trivial
  | false=>exact pH h f (k+1)⟩
theorem im:∀(f:Nat) (p:Array Nat) (k q:Nat),Pn n p->ib n (λr=>Pn n r.1) (KN f p k q)
 | 0,p,k,q,h=>h
 | f + 1,p,k,q,h=>⟨h.lt h1 _,h.lt h1 _,λb=>by
  cases b with
  | true =>
   show ib n _ (if q>0 then _ else _);split
   ·exact im f _ _ _ h.rev
   ·exact im f _ _ _ h
  | false =>
   refine⟨h.lt h1 _,h.lt h1 _,λd=>?_⟩;cases d with
   | true=>exact h
   | false=>exact im f _ _ _ h⟩
theorem lG(h:Pn n p):ib n (λr=>Pn n r.2) (QE k r p):=by unfold QE;refine ib.bind (P:=λ_=>True) (λm _=>?_) (pH h1 h.rev _ _);exact(h.rev:Pn n (Ku p 0 k))
theorem gX(h:Pn n p):ib n (λr=>Pn n r.2) (QN k r p):=(im h1 _ _ _ _ h).bind λa b=>by
 show ib n _ (if a.2.2>0 then _ else _);split
 ·exact lG h1 (Pn.rev b)
 ·exact lG h1 b
theorem vY(h:Pn n p):ib n (λr=>Pn n r.2) (kas_count r p):=(pH h1 h _ _).bind λk _=>by
 show ib n _ (if (k==r)=true then _ else _);split
 ·exact h
 ·split
  ·refine⟨h.lt h1 _,h.lt h1 _,λb=>?_⟩;cases b with
   | true=>exact h
   | false=>exact gX h1 h.rev
  ·exact gX h1 h
theorem iM(h:Pn n p)(k:Nat):∀f l r,ib n (λ_=>True) (KA p k f l r)
 | 0,l,r=>trivial
 | f + 1,l,r=>by
  show ib n _ (if l≥r then _ else _);split
  ·exact trivial
  ·refine⟨h.lt h1 _,h.lt h1 _,λb=>?_⟩;cases b with
   | true=>exact iM h k f _ _
   | false=>exact iM h k f _ _
theorem wn:∀(f:Nat) (p:Array Nat) (k:Nat),Pn n p->ib n (Pn n) (kas_bin f p k)
 | 0,p,k,h=>h
 | f+1,p,k,h=>(iM h1 h _ _ _ _).bind λl _=>wn f _ _ h.bub
theorem kb:ib n (Pn n) (J7 n):=(vY h1 (p:=(di n).toArray) (Array.Perm.refl _)).bind λr a=>by
 show ib n _ (if r.1<n then _ else _);split
 ·exact wn h1 _ _ _ a
 ·exact a
end
end _L
namespace _L
open PySem PySem.Spec PyProof.Rows PySem.W
open PySem.SeqAt PySem.MeetsSeq PySem.MeetsSeq2 PySem.MeetsSeq3 PySem.SeqRoads2
open PySem.AutoSeq1 (wpAny_loadPart')
end _L
namespace _L
open PySem PySem.Spec PyProof.Rows PySem.W
def Hj(h:bb)(v:ap):Prop:=∃(a:al) (o:Obj) (n:Nat) (x:Int) (t:Tok) (l:al) (b:Array ap) (ns:List Int) (as:List al),v=.ref a/\h.get? a=some o/\o.cls=.type "tuple" /\ o.data=.seq #[.int x t,.ref l] n/\h.IsList l b/\(∀j (h:j<b.size),∃x t,b[j]=ip x t)/\Reads h (.ref l) (.list (ns.map eC)) as
def Eg(d:ab):Prop:=∃(n:Int) (ns:List Int),d=.tuple [.int n,.list (ns.map .int)]
section
theorem jQ:∀{us:List ap},(∀u∈us,Hj h u)->∃fs,KatTups h us fs/\fs.length=us.length/\∀f∈fs,∃x t,f=ip x t
 | [],_=>⟨[],.nil,rfl,λf b=>by simp at b⟩
 | u::us,k=>by
  obtain⟨fs,h1,h2,g⟩:=jQ (us:=us) λv i=>k v (by simp[i]);obtain⟨a,o,n,x,t,l,j,ns,as,rfl,e,c,d,_⟩:=k u (by simp);refine⟨.int x t::fs,.cons e c d (by rfl) h1,by simp[h2],λf b=>?_⟩;rcases Ic.mp b with rfl|b
  ·exact⟨x,t,rfl⟩
  ·exact g f b
end
theorem pf{K:cc}{N:al->Prop}{H:Hp}{vs:List V}{ds:List ab}(h:DNs K N H vs ds):∀z∈vs.zip ds,DN K N H z.1 z.2:=DNs.ind (C:=λvs ds=>∀z∈vs.zip ds,DN K N H z.1 z.2) (λz h=>by simp at h) (λd _ i z h=>by
  simp only[LZ] at h;rcases Ic.mp h with rfl|h
  ·exact d
  ·exact i z h) h
section
theorem uD:PE X (.UnaryOp .USub (.Constant (.int 1) j p3) p4) (tC (.int (-1))):=(DF jy bU).imp λσ H Q h=>⟨1,rfl,h⟩
end
end _L
namespace _L
open PySem PySem.Spec PyProof.Rows PySem.W PySem.Calls
section
theorem sP{E:ap->av->Prop}{s:av}{id:String}{b:Builtin}{args:List ap}{a:List (bt×ap)}{Q:ap->av->Prop}(hk:builtinKind id=none)(d:plainId id=true)
  (g:entryFor table id=some b) (c:argsOk id ⟨args,a⟩)
  (hc:j4 (kf prog w) A.in1 (b ⟨args,a⟩) (λfin s'=>match fin with
   | .done f=>(match (Except.ok f:Result) with|.ok (.ret v)=>Q v s'|.ok _=>False|.error e=>E e s')
   | .again c'=>c'.quiet=true/\Ko (kf prog w) A c' (λr s'=>match r with|.ok (.ret v)=>Q v s'|.ok _=>False|.error e=>E e s') s') E s) :
  j4 (kf prog w) A (call (.builtin id) args a) Q E s:=by
 refine Qr (codeAny_call_builtin d g ?_);simp only[checkBuiltinCall,hk];cases hsig:Manifest.signature? id with
 | none=>exact j0 hc
 | some sig =>
  simp only[argsOk,hsig] at c;have h2:Bind.checkArgs id sig ⟨args,a⟩=pure ():=c;show j4 _ A.in1 (Bind.checkArgs id sig ⟨args,a⟩) _ _ s;rw[h2];exact j0 hc
end
end _L
namespace _L
open PySem PySem.Spec PyProof.Rows
end _L
namespace _L
open PySem PySem.Spec PyProof.Rows PySem.W
section
variable {CX:CXT}{P:kq}{w:k0}{K:cc}{mg:bt->Option ap}{base:bb}{k:Nat}{f c':al}{qual:bt}{params:Ks}{body:ba}{scope:J5}{pm ctv:ap}{N ps:List bt}
 {A : Around}{outer:List Env}{s:av}{H:Hp}{us:List ap}{vs:List V}{Q:VK}{E:XK}{t:TE}
theorem Bh(S:az N ps scope)(i:dc (k+1) A)(c:s9 P w K mg base A outer s H)(ho:s.heap.get? f=some (KO "<lambda>" qual params body scope [] pm c' ctv))(d:s.heap.CodeRec (.ref c') qual)
  (j:k3 (Qc "<lambda>" qual params body scope [] pm (.ref c') ctv) ⟨us,[]⟩=pure (ps.zip us)) (r:bf vs us) (l:vs.length=ps.length)
  (m:PE (pp CX P w K mg base N qual scope f (.ref c') A outer s H E) body t) (p:t (start N vs) H Q):Ko (kf P w) A (.call (.ref f) ⟨us,[]⟩) (CR CX outer P w H s Q E) s:=by
 have g:s.heap.NoLimit:=c.mod.nolimit.keeps λb o e=>(c.bs b o e).1;have a:∀y∈ps.zip us,scope.names.lookup y.1=some .local\/(scope.names.lookup y.1=some .cell/\((zf (s.heap.objs.size+1) scope.names []).lookup y.1).isSome=true):=λ⟨n,v⟩ z=>by
  rcases S.par n (JZ z).1 with q|q
  ·exact .inl q
  ·exact .inr ⟨q,ro _ _ _ (.inl q)⟩
 refine kla_callFunE i.depth ho rfl S.co S.gen rfl d ?_;rw[j];refine j0 ?_;refine Qq S.kind a λenv B s1 x=>?_;subst B;refine⟨g.keeps x.toInCall.keep,kla_codeExpr ?_⟩;have I:Inv (pp CX P w K mg base N qual scope f (.ref c') A outer s H E) [] (start N vs) H s1:=mH S i.hd c l r x;refine q5 (m [] s1 (start N vs) H _ I p) (λu s' h=>?_) λe s' h=>h;obtain⟨v,H',J,C,q⟩:=h;exact⟨v,H',J.os,J.bare,J.base,J.hok,C,q⟩
end
theorem sT(l:List ap)(h:TriplesOk l)(hn:K4 pos (l++[KC a,KC b,c])=some d):K4 pos l=some d\/d=c:=by
 fun_induction TriplesOk l with
 | case1 =>
  simp only[J2,K4,KC] at hn;split at hn
  ·cases hn;exact .inr rfl
  ·cases hn
 | case2 f t g u x rest e =>
  simp only[I7,K4] at hn ⊢;split at hn
  ·rename_i hc;rw[ME hc];exact .inl hn
  ·rename_i hc;rw[MF hc];exact e h hn
 | case3 l h1 h2=>exact h.elim
def EX(H:Hp)(c:al)(q:bt):Prop:=∃oc u vs t,H c=some (.frz oc u)/\oc.data=.fields vs/\vs[1]? = some (.str q t)
def pL(X:Cx):Prop:=∃c T,X.env.code=.ref c/\CodeHd X.base c T/\jg X.K T (X.env.qual ++ "<lambda>")
section
variable {X:Cx}{pins:List (al×Obj)}{σ:St}{H:Hp}{s:av}
theorem Inv.grow(I:Inv X pins σ H s){T c':al}{q:bt}{h':bb}{oc:Obj}{vs:Array ap}{t:Tok}{tk:Nat}(a:H T=some (.tbl q))(hx:LJ T s.heap h')(hc:s.heap.objs.size<=c')(ho:h'.get? c'=some oc)(hd:oc.data=.fields vs)(p:vs[1]? = some (.str q t))
  (h:Cl (upd H c' (.frz oc (.own 0))) h' T q):Inv X pins σ (upd H c' (.frz oc (.own 0))) { s with heap:=h',toks:=tk }/\aD H (upd H c' (.frz oc (.own 0))):=by
 have hn:H c'=none:=I.hok.fresh hc;have f:T<s.heap.objs.size:=I.hok.lt a;have j:T≠c':=IF (Ik f hc);obtain⟨k,l,_⟩:=id h;refine⟨I.un (t':=tk) ⟨λb o e n _ _=>?_,λb o e n _ _=>⟨o.slots,?_⟩,λb o e n _=>?_,λb o e _=>?_,λb xs e=>?_,λb o u e=>?_,λb q e=>?_⟩ (λb u e=>?_),λb o e=>by rw[am (aB e hn)];exact e⟩
 ·exact hx b o (λz=>by rw[z,a] at n;cases n) e
 ·exact hx b o (λz=>by rw[z,a] at n;cases n) e
 ·rw[am (IF (Ik (Ij e) hc))];exact n
 ·by_cases z:b=T
  ·subst z;exact⟨_,l⟩
  ·exact⟨o,hx b o z e⟩
 ·rw[am (aB e hn)];exact e
 ·rw[am (aB e hn)];exact e
 ·rw[am (aB e hn)];exact e
 ·by_cases i:b=c'
  ·subst i;rw[aw] at e;cases e;exact⟨ho,_,ho⟩
  ·rw[am i] at e;by_cases d:b=T
   ·subst d;rw[a] at e;cases e;exact h
   ·refine(I.hok b u e).stay (λc v g q=>hx c v ?_ q) (λc q=>by rw[am (aB q hn)];exact q) λc o _ q=>by rw[am (aB q hn)];exact q
    rcases g with z|z
    ·rw[z];exact d
    ·exactλm=>by rw[m,a] at z;cases z
end
section
def gZ(X:Cx)(pins:List (al×Obj))(σ:St)(H:Hp)(s:av)(d:ab)(u:ap)(s':av):Prop :=
 ∃H' v,Inv X pins σ H' s'/\aD H H'/\bC v u/\DN X.K N0 H' v d/\∀b o,iz X pins H b->s.heap.get? b=some o->s'.heap.get? b=some o/\H' b=none
end
section
theorem vv(h:iz X pins H b)(n:H' b=none):iz X pins H' b:=⟨n,h.2⟩
theorem tz(h:bf xs us)(q:bC x u):bf (xs++[x]) (us++[u]):=by
 induction h with
 | nil=>exact .cons q .nil
 | cons r _ i=>exact .cons r i
end
section
def Ef(d:ab):Prop:=∃ns:List Int,d=.list (ns.map .int)
end
section
variable {P:kq}{w:k0}{K:cc}{mg:bt->Option ap}{base:bb}
def sW(K:cc)(base:bb)(x:bt)(fd:j3):Prop:=∃c T,fd.code=.ref c/\CodeHd base c T/\jg K T (x ++ ".<locals>.<lambda>")
theorem FU{x:bt}{st:Stmt}{f:al}{fd:j3}{N ps:List bt}{k:Nat}{sp:DSp}(F:Fun K x x st f fd)(S:az N ps (af st))(len:∀ss R,sp ss R->ss.length=ps.length)(b:ps.length<=N.length)
  (c:∀(cdv:ap) (a:cdv=fd.code) (A:Around) (outer:List Env) (s:av) (H:Hp) (E:XK),dc k (A.deeper (KK x (af st) s.heap.objs.size f cdv)) ->
   ∃t:DS,PSs (pp CX0 P w K mg base N x (af st) f cdv A outer s H E).nox (cA st) (upS K t)/\∀ss R,sp ss R->t (kU ps.length R) (cH N.length ss)):cq P w K mg base CX0 (k+1) f fd ps (spD K sp):=by obtain⟨oc,od,kV,doc,pm,an,cdv,ct,osl,rfl,d,a⟩:=F.ex;exact Ht (λA outer s H E e=>c cdv rfl A outer s H E e) d a S len b
def wJ(vs:Array ap)(c T:al):Prop:=vs[11]? = some (.ref T)/\vs.getD 11 .none=.ref T/\(∃a d,vs.getD 18 .none=.str a d)/\(∃i t,vs.getD 7 .none=.int i t)/\(∃b,vs.getD 9 .none=.bool b)/\(∃i t,vs.getD 10 .none=.int i t)/\c≠T
theorem D6(hx:x∈eO)(a:cv K ke x=some (some (.ref f)))(l:K.lookup f=some ⟨oc,od,.func fd,osl⟩)(hc:fd.code=.ref c)
  (h:K.lookup c=some ⟨.type "code",e,.fields vs,g⟩) (k:wJ vs c T) (m:K.In base):sW K base x fd:=by obtain⟨h1,h2,⟨d,n,o⟩,⟨i,t,p⟩,⟨b,q⟩,⟨j,u,r⟩,s⟩:=k;exact⟨c,T,hc,⟨_,vs,d,n,i,t,b,j,u,m _ _ h,rfl,rfl,h1,h2,o,p,q,r,s⟩,x,hx,f,_,fd,c,_,vs,a,l,rfl,hc,h,rfl,h1,rfl⟩
structure sV(K:cc)(h:bb)(x:bt)(c T:al):Prop where
 tab:∀T0,(∃f o fd c0 oc vs,cv K ke x=some (some (.ref f))/\K.lookup f=some o/\o.data=.func fd/\fd.code=.ref c0/\K.lookup c0=some oc/\oc.data=.fields vs/\vs[11]? = some (.ref T0))->T0=T
 at':h.get? T=some { cls:=.none,data:=.fields #[] }/\K.lookup T=none/\∃c,h.TableAt c T #[]
theorem kG
  (G : Lb q b [] r w s₀ mg mb h) (s:K.In h) (t:(recsOf q).find? (λe=>e.name==x)=some d)
  (a : cv K ke x=some (some (.ref f))) (l:K.lookup f=some ⟨oc,od,.func fd,osl⟩) (hc:fd.code=.ref c) (k:K.lookup c=some ⟨.type "code",i,.fields vs,j⟩) (m:wJ vs c T) (hn:K.lookup T=none):sV K h x c T:=by
 have u:tabIn K x=some (c,T):=by unfold tabIn;rw[a];simp only[l,hc,k,m.1]
 obtain⟨C,g⟩:=tab_of G.T s t u;refine⟨λT0 e=>?_,g,hn,c,C.tab g⟩;obtain⟨B,D,v,c0,y,z,a1,a2,a3,n,o,A,p⟩:=e;rw[a] at a1;cases a1;rw[l] at a2;cases a2;cases a3;rw[hc] at n;cases n;rw[k] at o;cases o;cases A;rw[m.1] at p;cases p;rfl
theorem Al(ps:List (bt×al×al))(a:∀p∈ps,sV K h p.1 p.2.1 p.2.2)(nd:(ps.map λp=>p.2.2).Nodup)(f:∀n∈eO,n∈ps.map (·.1)\/cv K ke n=some none) :
  ∃tb:List (al×bt),(∀b q,tb.lookup b=some q->h.get? b=some { cls:=.none,data:=.fields #[] }/\K.lookup b=none/\∃c,h.TableAt c b #[])/\∀T q,jg K T q->tb.lookup T=some q:=by
 refine⟨ps.map λp=>(p.2.2,p.1 ++ ".<locals>.<lambda>"),λb s e=>?_,λT0 s L=>?_⟩
 ·have : ∃p∈ps,p.2.2=b:=by
   clear a nd f
   induction ps with
   | nil=>cases e
   | cons p ps g =>
    rw[ID,IT] at e;by_cases o:b=p.2.2
    ·exact⟨p,H9,o.symm⟩
    ·have h1:(b==p.2.2)=false:=by simpa using o
     rw[h1] at e;obtain⟨i,m,e'⟩:=g e;exact⟨i,HZ _ m,e'⟩
  obtain⟨p,m,rfl⟩:=this;exact(a p m).at'
 ·obtain⟨n,t,u,v,j,c0,k,l,a1,a2,a3,w,x,y,r,rfl⟩:=L;rcases f n t with d|d
  ·obtain⟨p,m,rfl⟩:=Ig.mp d;have e:=(a p m).tab T0 ⟨u,v,j,c0,k,l,a1,a2,a3,w,x,y,r⟩;subst e;clear a f a1 r d
   induction ps with
   | nil=>cases m
   | cons i ps g =>
    rw[ID,IT];rw[ID,Ir] at nd;rcases Ic.mp m with rfl|m
    ·simp
    ·have h1:(p.2.2==i.2.2)=false:=by
      simp only[beq_eq_false_iff_ne,ne_eq]
      exactλz=>nd.1 (z▸v6 m)
     rw[h1];exact g nd.2 m
  ·rw[d] at a1;cases a1
theorem Bi:∀p∈([]:List (bt×al×al)),sV K h p.1 p.2.1 p.2.2:=λp a=>by cases a
theorem kF(h1:sV K h x c T)(h2:∀p∈ps,sV K h p.1 p.2.1 p.2.2):∀p∈(x,c,T)::ps,sV K h p.1 p.2.1 p.2.2:=λp a=>by
 rcases Ic.mp a with rfl|a
 ·exact h1
 ·exact h2 p a
theorem Bj{P:bt->Prop}(h1:P "choices")(h2:P "full_rows")(a:P "chain_plan")(b:P "least_ranks"):∀n∈eO,P n:=λn hn=>by
 simp only[eO,Ic,IJ,or_false] at hn;rcases hn with rfl|rfl|rfl|rfl <;> assumption
end
end _L
namespace _L
open PySem PySem.Spec PyProof.Rows PySem.W
open PySem.SeqAt PySem.MeetsSeq PySem.MeetsSeq2 PySem.MeetsSeq3 PySem.SeqRoads2
open PySem.AutoSeq1 (wpAny_loadPart')
def At(items:Array ap)(ns:List Int):Prop:=ns.length=items.size/\∀j (h:j<items.size),∃t,items[j]=ip (ns.getD j 0) t
theorem xT{ns ms:List Int}(h1:i<ns.length)(h2:i<ms.length):HT.lexLt (ns.drop i) (ms.drop i)=if ns.getD i 0=ms.getD i 0 then HT.lexLt (ns.drop (i+1)) (ms.drop (i+1)) else decide (ns.getD i 0<ms.getD i 0):=by
 have e1:ns.drop i=ns.getD i 0::ns.drop (i+1):=by rw[Jl h1];simp[HU,h1]
 have e2:ms.drop i=ms.getD i 0::ms.drop (i+1):=by rw[Jl h2];simp[HU,h2]
 rw[e1,e2,HT.lexLt_cons]
theorem xR(l b:al)(items a:Array ap)(n D:Nat)(dd y:Option al)(sl z:Array (Option ap))(ns ms:List Int)(f:At items ns)(c:At a ms)(k:Nat) :
  ∀i : Nat,items.size - i=k->i<=items.size->i<=a.size->Meets (Builtin.«list.__eq__.loop» ⟨[.ref l,.ref b,KC i,KC 0],[]⟩)
   (λA R s=>s.heap.get? l=some { cls:=.type "list",dict:=dd,data:=.seq items n,slots:=sl }/\s.heap.get? b=some { cls:=.type "list",dict:=y,data:=.seq a D,slots:=z } /\
    R (.ok (.ret (.bool (HT.lexLt (ns.drop i) (ms.drop i))))) s):=by
 induction k with
 | zero =>
  intro i hk v x prog w A R s h;obtain⟨E,g,d,tk,os⟩:=s;obtain⟨q,r,h⟩:=h
  wp_walk using wpAny_loadPart' q,wpAny_loadPart' r
  have j:items[((i:Nat):Int).toNat]? = none:=by simp;omega
  rw[j]
  wp_walk using wpAny_loadPart' q,wpAny_loadPart' r
  have B:HT.lexLt (ns.drop i) (ms.drop i)=decide (items.size<a.size):=by
   rw[JI (by rw[f.1];omega)];by_cases C:i<ms.length
   ·rw[Jl C,HT.lexLt_nil_cons,decide_eq_true (by rw[c.1] at C;omega)]
   ·rw[JI (by omega),HT.lexLt_nil_nil,decide_eq_false (by rw[c.1] at C;omega)]
  rw[B] at h;exact h
 | succ k F =>
  intro i hk v x prog w A R s h;obtain⟨E,g,d,tk,os⟩:=s;obtain⟨q,r,h⟩:=h
  wp_walk using wpAny_loadPart' q,wpAny_loadPart' r
  have m:i<items.size:=by omega
  have j:items[((i:Nat):Int).toNat]? = some items[i]:=by simp[m]
  have hc:((i:Int)+1)=((i+1:Nat):Int):=by push_cast;rfl
  rw[j];by_cases e:i<a.size
  ·have o:a[((i:Nat):Int).toNat]? = some a[i]:=by simp[e]
   rw[o];obtain⟨t,e1⟩:=f.2 i m;obtain⟨u,e2⟩:=c.2 i e;rw[xT (by rw[f.1];exact m) (by rw[c.1];exact e)] at h;rw[e1,e2];refine jj (Qj ?_);by_cases p:ns.getD i 0=ms.getD i 0
   ·rw[ME p] at h;rw[show(ns.getD i 0==ms.getD i 0)=true by simpa using p]
    wp_walk
    rw[hc];exact⟨Kt K8 _,KY entry_eq_loop (by
     rw[Around.under_plainId K8 _];exact F (i+1) (by omega) (by omega) (by omega) prog w A R _ ⟨q,r,h⟩)⟩
   ·rw[MF p] at h;rw[show(ns.getD i 0==ms.getD i 0)=false by simpa using p]
    wp_walk using wpAny_loadPart' q,wpAny_loadPart' r
    rw[j,o,e1,e2];refine jj (show j4 (kf prog w) A.in1 (ky .Lt (.int (ns.getD i 0) t) (.int (ms.getD i 0) u)) _ _ _ from wpAny_lt_int (j0 h))
  ·have o:a[((i:Nat):Int).toNat]? = none:=by simp;omega
   rw[o]
   wp_walk using wpAny_loadPart' q,wpAny_loadPart' r
   have B:HT.lexLt (ns.drop i) (ms.drop i)=decide (items.size<a.size):=by rw[JI (l:=ms) (by rw[c.1];omega),Jl (l:=ns) (by rw[f.1];exact m),HT.lexLt_cons_nil,decide_eq_false (by omega)]
   rw[B] at h;exact h
theorem qI(l b:al)(items a:Array ap)(n j:Nat)(dd c:Option al)(sl e:Array (Option ap))(ns ms:List Int)(f:At items ns)(i:At a ms) :
  Meets (Builtin.«list.__lt__» ⟨[.ref l,.ref b],[]⟩)
   (λA R s=>s.heap.get? l=some { cls:=.type "list",dict:=dd,data:=.seq items n,slots:=sl }/\s.heap.get? b=some { cls:=.type "list",dict:=c,data:=.seq a j,slots:=e } /\
    R (.ok (.ret (.bool (HT.lexLt ns ms)))) s):=by
 intro prog w A R s h;obtain⟨o,g,d,tk,os⟩:=s;obtain⟨k,m,h⟩:=h;have p:=AutoSeq1.sub_list_list
 wp_walk using wpAny_loadPart' k,wpAny_loadPart' m
 exact⟨Kt K8 _,KY entry_eq_loop (by
  rw[Around.under_plainId K8 _];exact xR l b items a n j dd c sl e ns ms f i _ 0 rfl (Iz _) (Iz _) prog w A R _ ⟨k,m,h⟩)⟩
def cS(a b:Int×List Int):Bool:=if a.1=b.1 then (if a.2=b.2 then false else HT.lexLt a.2 b.2) else decide (a.1<b.1)
section
variable {prog:kq}{w:k0}{A:Around}{E:ap->av->Prop}{s:av}
theorem u9(m:s.heap.IsList l items)(o:s.heap.IsList b a)(f:At items ns)(g:At a ms)
  (p:A.units<J4) (h:Q (.bool (HT.lexLt ns ms)) s):j4 (kf prog w) A (ky .Lt (.ref l) (.ref b)) Q E s:=by
 obtain⟨⟨cls,dd,data,sl⟩,ho,hc,n,hd⟩:=id m;obtain⟨⟨k,i,data2,j⟩,c,d,q,e⟩:=id o;simp only at hc hd d e;subst hc hd d e;exact richCompare_meets_room (op:=.Lt) ⟨_,ho,rfl⟩ ⟨_,c,rfl⟩ F.slot_list_lt F.entry_list_lt (F.args_list_lt_2 _ _) (qI l b items a n q dd i sl j ns ms f g)
  ⟨ho,c,show o3 (HT.lexLt ns ms)≠Value.notImplemented/\Q (.bool (HT.lexLt ns ms)) s from⟨(λx=>nomatch x),h⟩⟩ p
def Cy(h:bb)(v:ap)(k:Int×List Int):Prop:=∃(a:al) (o:Obj) (n:Nat) (t:Tok) (l:al) (b:Array ap) (as:List al),v=.ref a/\h.get? a=some o/\o.cls=.type "tuple" /\ o.data=.seq #[.int k.1 t,.ref l] n/\h.IsList l b/\At b k.2/\Reads h (.ref l) (.list (k.2.map eC)) as
theorem Cy.v{h:bb}{v:ap}{k:Int×List Int}(x:Cy h v k):Hj h v:=by obtain⟨a,o,n,t,l,b,as,e1,e2,e3,c,d,f,g⟩:=x;exact⟨a,o,n,k.1,t,l,b,k.2,as,e1,e2,e3,c,d,λj hj=>let ⟨u,e⟩:=f.2 j hj;⟨_,u,e⟩,g⟩
theorem Bo(x:A.units+64<J4)(g:Cy s.heap u k)(i:Cy s.heap v k')(h:C (cS k k') s):j4 (kf prog w) A (keyLt' (tuples' true) u v) C E s:=by
 obtain⟨a,o,n,t,l,j,as,rfl,e,c,d,i1,i2,m⟩:=g;obtain⟨y,o',z,t',l',its',p,rfl,e',c',d',q,j2,r⟩:=i;unfold cS at h;refine kat_lt e d e' d' ?_;refine kat_cons (Qj ?_);refine kat_go (λf=>kat_yes ?_) λf=>kat_no (oneLt_int ?_)
 rotate_left
 ·rw[MF (by simpa using f)] at h;exact h
 rw[ME (by simpa using f)] at h;refine kat_cons (SeqAt.eqBoolOverData _ _ _ _ _ _ _ _ _ _ _ _ m r ?_ ?_ ?_ ?_)
 ·simp[gV,kE]
 ·simp[gV,kE]
 ·have:∀ns:List Int,(fI (ns.map eC)).depth<=64:=λns=>by
   have:=FE ns;exact Lv this
  have:=this k.2;have:=Mq (fI (k.2.map eC)).depth (fI (k'.2.map eC)).depth;omega
 ·refine kat_go (λb=>kat_yes (kat_nil ?_)) λb=>kat_no (kat_one _ _ ?_)
  ·rw[BA] at b;rw[ME (of_decide_eq_true b)] at h;exact h
  ·refine u9 i1 q i2 j2 (by omega) ?_;rw[BA] at b;rw[MF (of_decide_eq_false b)] at h;exact h
def ay{α:Type}(lt:Nat->Nat->Bool):KasT α->α
 | .ret a=>a
 | .ask i j k=>ay lt (k (lt i j))
theorem ib.run:∀{t:KasT α},ib n P t->P (ay lt t)
 | .ret a,h=>h
 | .ask i j k,h=>show P (ay lt (k (lt i j))) from ib.run (t:=k (lt i j)) (h.2.2 _)
theorem oY(I:av->Prop)
  (hc:∀i j C s,i<n->j<n->I s->(∀s',I s'->C (lt i j) s')->b i j C s):∀{t:KasT α}{s:av},ib n P t->(∀s,I s->Q (ay lt t) s)->I s->t.kasWp b Q s
 | .ret a,s,h,c,i=>c s i
 | .ask x y k,s,h,c,i=>hc x y _ s h.1 h.2.1 i λs' d=>oY I hc (h.2.2 (lt x y)) c d
def aE(ks:List (Int×List Int)):List Nat:=if ks.length<2 then di ks.length else (ay (λi j=>cS (ks.getD i (0,[])) (ks.getD j (0,[]))) (J7 ks.length)).toList
theorem bh(ks:List (Int×List Int)):(aE ks).Perm (di ks.length):=by
 unfold aE;split
 ·exact .refl _
 ·exact(ib.run (kb (n:=ks.length) (by omega))).list
def pick{α:Type}(p:List Nat)(xs:List α)(d:α):List α:=p.map λi=>xs.getD i d
def j5(prog:kq)(w:k0)(A:Around)(vs:List ap)(ks:List (Int×List Int))(s:av):Prop :=
 j4 (kf prog w) A (keyKind' vs.toArray) (λκ s'=>s'=s/\∀i j (C:Bool->av->Prop),i<vs.length->j<vs.length->C (cS (ks.getD i (0,[])) (ks.getD j (0,[]))) s->kas_ask prog w A κ vs i j C s) (λ_ _=>False) s
theorem Bl(a:A.units+64<J4)(h2:2<=us.length)(d:ks.length=us.length)(k:∀i (h:i<us.length),Cy s.heap us[i] (ks.getD i (0,[]))):j5 prog w A us ks s:=by
 obtain⟨fs,h1,e,b⟩:=jQ (h:=s.heap) (us:=us) λu a=>by
  obtain⟨i,hi,rfl⟩:=Il a;exact(k i hi).v
 refine kat_kind (T:=.type "int") h1 (by omega) (λv c=>?_) (by rfl) ⟨rfl,λi j C hi hj hc=>?_⟩
 ·obtain⟨x,t,rfl⟩:=b v c;exact .now
 ·have e1:us.getD i ec=us[i]:=by simp[hi]
  have e2:us.getD j ec=us[j]:=by simp[hj]
  show j4 (kf prog w) A (keyLt' _ (us.getD i ec) (us.getD j ec)) C (λ_ _=>False) s;rw[e1,e2];exact Bo a (k i hi) (k j hj) hc
end
end _L
namespace _L
open PySem PySem.Spec PyProof.Rows PySem.W
def dg:ab->Int×List Int
 | .tuple [.int n,.list es]=>(n,(bS es).getD [])
 | .int n=>(n,[])
 | .list es=>(0,(bS es).getD [])
 | _=>(0,[])
section
variable {X:Cx}{pins:List (al×Obj)}{σ:St}{H:Hp}{s:av}
theorem Cf:∀{ns:List Int}{vs:List V}{us:List ap},DVs X.K H vs (ns.map .int)->bf vs us->ns.length=us.length/\∀j (h:j<us.length),∃t,us[j]=ip (ns.getD j 0) t
 | [],_,_,.nil,.nil=>⟨rfl,λj h=>by simp at h⟩
 | n :: ns,_,_,.cons d q,.cons r t=>by
  obtain⟨h1,h2⟩:=Cf q t;refine⟨by simp[h1],λj h=>?_⟩;cases j with
  | zero =>
   cases d;obtain⟨t,rfl⟩:=r;exact⟨t,rfl⟩
  | succ j =>
   obtain⟨u,e⟩:=h2 j (by simpa using h);exact⟨u,by simpa using e⟩
theorem Bm(I:Inv X pins σ H s)(hd:DV X.K H v d)(r:bC v u)(k:Eg d):Cy s.heap u (dg d):=by
 obtain⟨n,ns,rfl⟩:=k;have p:dg (.tuple [.int n,.list (ns.map .int)])=(n,ns):=by show(n,(bS (ns.map .int)).getD [])=_;rw[bo];rfl
 rw[p];obtain⟨a,xs,rfl,h,q⟩:=hd.tupI;obtain⟨x,y,rfl,w,b⟩:=q.twoI;obtain⟨z,A,⟨o,e,c,m,hd⟩,_⟩:=I.tuple h;obtain⟨F,B,rfl,g,i⟩:=tD A;rw[w.intI] at g;obtain⟨t,rfl⟩:=g;obtain⟨as,C⟩:=b.reads I i (by simpa only[gV] using l8 _);obtain⟨l,ys,rfl,h2,b⟩:=b.lstI;have e2:B=eE l:=i;have e3:u=eE a:=r;subst e2 e3;obtain⟨f,D,E,_⟩:=I.list h2;obtain⟨h1,h2⟩:=Cf b D;exact⟨a,o,m,t,l,f.toArray,as,rfl,e,c,hd,E.isList,⟨by simpa using h1,λj hj=>h2 j (by simpa using hj)⟩,C⟩
end
section
theorem tN(ho:s.heap.get? a=some (kw "list" vs.toArray n))(t:vs.length<64)(m:ks.length=vs.length)
  (hk:2<=vs.length->∀h',(∀b o,b≠a->s.heap.get? b=some o->h'.get? b=some o)->j5 prog w A vs ks { s with heap:=h' })
  (h : ∀h' c,(∀b o,b≠a->s.heap.get? b=some o->h'.get? b=some o)->h'.get? a=some (kw "list" (pick (aE ks) vs ec).toArray c)->P (.done (.ret .none)) { s with heap:=h' }) :
  j4 (kf prog w) A (Builtin.«list.sort» ⟨[.ref a],[]⟩) P E s:=by
 have I:a<s.heap.objs.size:=Ij ho;have s1:=eo s.heap a (dV λ_=>(#[]:Array ap));obtain⟨e1,q⟩:∃e1,(s.heap.update a (dV λ_=>(#[]:Array ap))).get? a=some (kw "list" #[] e1):=⟨_,Ky ho λ_=>#[]⟩
 have keep:∀b o,b≠a->s.heap.get? b=some o->(((s.heap.update a (dV λ_=>(#[]:Array ap))).push (kw "tuple" vs.toArray 0)).push (kw "list" #[] 0)).get? b=some o:=λb o k e =>
  Ia _ (Ia _ ((s1.2 b k).trans e))
 have d:(((s.heap.update a (dV λ_=>(#[]:Array ap))).push (kw "tuple" vs.toArray 0)).push (kw "list" #[] 0)).get? a=some (kw "list" #[] e1):=Ia _ (Ia _ q);have fin:∀(ws:List ap),∃c,(((((s.heap.update a (dV λ_=>(#[]:Array ap))).push (kw "tuple" vs.toArray 0)).push (kw "list" #[] 0))).update a (dV λ_=>ws.toArray)).get? a=some (kw "list" ws.toArray c):=λws=>⟨_,Ky d λ_=>ws.toArray⟩
 rw[list_sort_plain];refine jj (QM ho rfl ?_);refine jj (Ki ho rfl ?_ (by rw[Ii,qT];omega) (Iz _));refine jj (K1 q rfl ?_);refine jj (Qp ?_ (by show vs.length<=_;rw[qT];omega));refine jj (K7 ?_ (Iz _));refine ze ?_;show j4 (kf prog w) A _ P E { s with heap:=((s.heap.update a (dV λ_=>(#[]:Array ap))).push (kw "tuple" vs.toArray 0)).push (kw "list" #[] 0) };dsimp only;by_cases h2:2<=vs.length
 ·have hn2:¬vs.toArray.size<2:=by rw[Ii];omega
  rw[MF hn2,MF hn2];refine jj (q5 (hk h2 _ keep) (λκ J hk=>?_) λ_ _ x=>x.elim);obtain⟨rfl,r⟩:=hk;have u:aE ks=(ay (λi j=>cS (ks.getD i (0,[])) (ks.getD j (0,[]))) (J7 vs.length)).toList:=by unfold aE;rw[MF (by omega),m]
  refine jj (q5 (kat_run (κ:=κ) (A:=A) (prog:=prog) (w:=w) (ks:=vs) (vs:=vs) (G:=λp s'=>p=ay (λi j=>cS (ks.getD i (0,[])) (ks.getD j (0,[]))) (J7 vs.length)/\s'={ s with heap:=((s.heap.update a (dV λ_=>(#[]:Array ap))).push (kw "tuple" vs.toArray 0)).push (kw "list" #[] 0) })
   (Q := λg s'=>∃p:Array Nat,p=ay (λi j=>cS (ks.getD i (0,[])) (ks.getD j (0,[]))) (J7 vs.length)/\p.size=vs.length/\arrOf g=p.map (kas_item (vs.toArray.zip vs.toArray))/\failedOf g=none/\s'={ s with heap:=((s.heap.update a (dV λ_=>(#[]:Array ap))).push (kw "tuple" vs.toArray 0)).push (kw "list" #[] 0) })
   rfl h2 t (λD g s' a1 a2 a3 B=>⟨D,B.1,a1,a2,a3,B.2⟩) (oY (λs'=>s'={ s with heap:=((s.heap.update a (dV λ_=>(#[]:Array ap))).push (kw "tuple" vs.toArray 0)).push (kw "list" #[] 0) }) (λi j C s' hi hj e hc=>by subst e;exact r i j C hi hj (hc _ rfl)) (kb (n:=vs.length) (by omega)) (λs' e=>⟨rfl,e⟩) rfl)) ?_ λ_ _ e=>e)
  rintro⟨⟨⟩,g⟩ s' ⟨p,v,F,y,H,rfl⟩;dsimp only;have f:=kat_snds rfl y;have hsz:(lA (p.toList.map λi=>vs.getD i ec)).size=vs.length:=by rw[Ii,HS,lk,F]
  rw[f];obtain⟨c2,l⟩:=fin (p.toList.map λi=>vs.getD i ec);refine jj (K1 d rfl ?_);refine jj (Ki d rfl ?_ (Iz _) (Ie (LC hsz) (by rw[qT];omega)));rw[H];simp only[bne_self_eq_false,IQ,if_false];refine j0 (h _ c2 (λb o k e=>?_) ?_)
  ·exact((eo _ a _).2 b k).trans (keep b o k e)
  ·rw[u,<-v];exact l
 ·have hn2:vs.toArray.size<2:=by rw[Ii];omega
  rw[ME hn2,ME hn2];refine jj (j0 ?_);refine jj (j0 ?_);have f:(arrOf (SortSt.mk' general' (vs.toArray.zip vs.toArray) #[] 7 none)).map (·.2)=vs.toArray:=by show(vs.toArray.zip vs.toArray).map (·.2)=_;apply Mc.mp;simp;exact Mj (Ih _)
  dsimp only;rw[f];obtain⟨c2,l⟩:=fin vs;have z:pick (aE ks) vs ec=vs:=by
   unfold aE pick;rw[ME (by omega),m];apply JB
   ·simp
   ·intro i h1 h2;simp at h1;simp[h1]
  refine jj (K1 d rfl ?_);refine jj (Ki d rfl ?_ (Iz _) (by rw[Ii,qT];omega));simp only[bne_self_eq_false,IQ,if_false];refine j0 (h _ c2 (λb o k e=>?_) (by rw[z];exact l));exact((eo _ a _).2 b k).trans (keep b o k e)
theorem nL(i:s.heap.IsList l vs.toArray)(f:vs.length<64)(g:ks.length=vs.length)
  (hk:2<=vs.length->∀h',(∀b o,s.heap.get? b=some o->h'.get? b=some o)->j5 prog w A.in1.in1 vs ks { s with heap:=h' })
  (h : ∀D h' c,(∀b o,s.heap.get? b=some o->h'.get? b=some o)->s.heap.objs.size<=D->h'.get? D=some (kw "list" (pick (aE ks) vs ec).toArray c)->Q (.ref D) { s with heap:=h' }) :
  j4 (kf prog w) A (call (.builtin "sorted") [.ref l]) Q E s:=by
 refine Calls.call_function_entry kind_sorted plain_sorted entry_sorted (args_sorted1 _) ?_;unfold Builtin.«sorted»;refine jj (m:=checkCount "sorted" 1 1 _) (j0 ?_);refine jj (collect_list i ?_ (by rw[qT];omega));refine jj (K7 ?_ (by rw[qT];omega));have hsz:((s.heap.push (kw "list" #[] 0)).update s.heap.objs.size (dV (·++vs.toArray))).objs.size=s.heap.objs.size+1:=by rw[La,size_push']
 have d:(((s.heap.push (kw "list" #[] 0)).update s.heap.objs.size (dV (·++vs.toArray))).push (kw "list" vs.toArray 0)).get? (s.heap.objs.size+1)=some (kw "list" vs.toArray 0):=by rw[<-hsz];exact Im _ rfl
 have keep:∀b o,s.heap.get? b=some o->(((s.heap.push (kw "list" #[] 0)).update s.heap.objs.size (dV (·++vs.toArray))).push (kw "list" vs.toArray 0)).get? b=some o:=λb o q=>by
  have a:b<s.heap.objs.size:=Ij q;rw[p0 _ _ _ (by rw[hsz];exact IF (JN a)),LU _ _ _ _ (IF a),p0 _ _ _ (IF a)];exact q
 have ne:∀b o,s.heap.get? b=some o->b≠s.heap.objs.size+1:=λb o q=>by
  exact IF (JN (Ij q))
 show j4 _ _ _ _ _ { s with heap:=((s.heap.push (kw "list" #[] 0)).update s.heap.objs.size (dV (·++vs.toArray))).push (kw "list" vs.toArray 0) };rw[hsz];refine jj (ze (zv slot_list_sort ⟨_,d,rfl⟩ entry_list_sort ?body (args_list_sort _)))
 case body =>
  refine tN (s:={ s with heap:=((s.heap.push (kw "list" #[] 0)).update s.heap.objs.size (dV (·++vs.toArray))).push (kw "list" vs.toArray 0) }) d f g
   (λh2 h' k=>hk h2 h' λb o e=>k b o (ne b o e) (keep b o e)) λh' c k j=>⟨_,rfl,j0 ⟨_,rfl,?_⟩⟩
  exact h _ h' c (λb o e=>k b o (ne b o e) (keep b o e)) (JD _) j
end
theorem iB(r:bf vs us):∀{p:List Nat},(∀i∈p,i<vs.length)->bf (pick p vs .non) (pick p us ec)
 | [],_=>.nil
 | i::p,h=>by
  have hi:=h i (by simp);obtain⟨u,e,a⟩:=r.get (i:=i) (x:=vs[i]) (by simp[hi]);have e1:vs.getD i .non=vs[i]:=by simp[HU,hi]
  have e2:us.getD i ec=u:=by rw[HU,e];rfl
  show bf (vs.getD i .non::pick p vs .non) (us.getD i ec::pick p us ec);rw[e1,e2];exact .cons a (iB r λj hj=>h j (by simp[hj]))
theorem rB{K:cc}{N:al->Prop}{H:Hp}{vs:List V}{ds:List ab}(q:DNs K N H vs ds):∀{p:List Nat},(∀i∈p,i<vs.length)->DNs K N H (pick p vs .non) (pick p ds .none)
 | [],_=>.nil
 | i :: p,h=>by
  have hi:=h i (by simp);have b:=q.len;have a:(vs[i],ds[i]'(by omega))∈vs.zip ds:=by rw[t7];exact⟨i,by rw[JY];exact⟨HR _,HR _⟩⟩
  have e1:vs.getD i .non=vs[i]:=by simp[HU,hi]
  have e2:ds.getD i .none=ds[i]'(by omega):=by simp[HU,show i<ds.length by omega]
  show DNs K N H (vs.getD i .non::pick p vs .non) (ds.getD i .none::pick p ds .none);rw[e1,e2];exact .cons (pf q _ a) (rB q λj hj=>h j (by simp[hj]))
theorem b9:∀i∈aE ks,i<ks.length:=λi hi=>Io.mp ((bh ks).mem_iff.mp hi)
end _L
namespace _L
open PySem PySem.Spec PyProof.Rows PySem.W
open Builtin Builtin.ObjectAttr
end _L
namespace _L
open PySem PySem.Spec PyProof.Rows PySem.W
abbrev Hk:=List Sl->(Sl->List Sl->Prop)->(Int->Prop)->Prop
theorem us1{Q:List ap->Prop}{us:List ap}(l:us.length=1)(h:∀a:ap,Q [a]):Q us:=by obtain⟨a,rfl⟩:=sF l;exact h a
theorem us2{Q:List ap->Prop}{us:List ap}(l:us.length=2)(h:∀a b:ap,Q [a,b]):Q us:=by obtain⟨a,b,rfl⟩:=FY l;exact h a b
theorem us3{Q:List ap->Prop}{us:List ap}(l:us.length=3)(h:∀a b c:ap,Q [a,b,c]):Q us:=by obtain⟨a,b,c,rfl⟩:=G7 l;exact h a b c
theorem us4{Q:List ap->Prop}{us:List ap}(l:us.length=4)(h:∀a b c d:ap,Q [a,b,c,d]):Q us:=by obtain⟨a,b,c,d,rfl⟩:=Hx l;exact h a b c d
def wI.off(D:wI)(i:Nat):wI:=⟨λσ H=>D.nx (σ.set i none) H,D.rt,λσ H=>D.bk (σ.set i none) H,λσ H=>D.ct (σ.set i none) H⟩
end _L
namespace _L
end _L
namespace _L
open PySem PySem.Spec PyProof.Rows PySem.W
end _L
namespace _L
open PySem PySem.Spec PyProof.Rows
theorem uy:∀{a b:List Int},a.map eC=b.map eC->a=b
 | [],[],_=>rfl
 | [],_::_,e=>by simp at e
 | _::_,[],e=>by simp at e
 | x::xs,y::ys,e=>by
  rw[ID,ID] at e;injection e with e1 e2;injection e1 with e1;rw[e1,uy e2]
theorem xc(e:dO k=dO k'):k=k':=by obtain⟨d,l⟩:=k;obtain⟨d',l'⟩:=k';simp only[dO,PyData.tuple.injEq,ri,PyData.int.injEq,and_true] at e;rw[e.1,uy e.2]
theorem iu:∀{kvs a:List (a8×ab)},kvs.map (λp=>(dO p.1,p.2))=a.map (λp=>(dO p.1,p.2))->kvs=a
 | [],[],_=>rfl
 | [],_::_,e=>by simp at e
 | _::_,[],e=>by simp at e
 | (k,v)::xs,(k',v')::ys,e=>by
  rw[ID,ID] at e;injection e with e1 e2;injection e1 with e1 e3;have e1:=xc e1;simp only at e1 e3;rw[e1,e3,iu e2]
section
variable {K:cc}{M P N:al->Prop}{H0 H:Hp}{A B:List Ent}{σ0 σ:St}{env:List Sl}{ts:List (V×Sl)}{v:V}{d:ab}{kvs:List (a8×ab)}
def Fq(K:cc)(N:al->Prop)(H:Hp)(v:V)(kvs:List (a8×ab)):Prop :=
 ∃a es,v=.ref a/\H a=some (.ext (cr a es))/\DNs K N H (es.map λp=>V.ref p.2.1) (kvs.map λp=>dO p.1)/\DNs K N H (es.map λp=>p.2.2) (kvs.map λp=>p.2)/\es.map (λp=>p.1)=kvs.map (λp=>p.1)
theorem Fq.dctV(h:Fq K N H v kvs):GN K H v kvs:=by obtain⟨a,es,e,b,hk,c,d⟩:=h;exact⟨a,es,e,b,hk.dv,c.dv,d⟩
theorem El(e:fzD ds=fb kvs):False:=by
 cases kvs with
 | nil=>cases e
 | cons p kvs=>simp[fzD,fb,dO] at e
theorem DN.dct_of(h:DN K N H v d)(e:d=fb kvs):Fq K N H v kvs:=by
 cases h with
 | fz _=>exact(El e).elim
 | @dct a es b n c hk f g =>
  injection e with e;have e:=iu e;subst e;exact⟨a,es,rfl,c,hk,f,g⟩
 | _=>cases e
theorem Vw.dct_of(h:Vw K N H v d)(e:d=fb kvs):Fq K N H v kvs:=by
 cases h with
 | dn h=>exact h.dct_of e
 | ow h q=>cases e
 | @dct a es b c hk f g =>
  injection e with e;have e:=iu e;subst e;exact⟨a,es,rfl,c,hk,f,g⟩
theorem OT.dct_of(h:OT K N H v d S)(e:d=fb kvs):∃a es,v=.ref a/\S=[a]/\H a=some (.ext (cr a es))/\DNs K N H (es.map λp=>V.ref p.2.1) (kvs.map λp=>dO p.1)/\DNs K N H (es.map λp=>p.2.2) (kvs.map λp=>p.2)/\es.map (λp=>p.1)=kvs.map (λp=>p.1):=by
 cases h with
 | fz _=>exact(El e).elim
 | @dct a es b c hk f g =>
  injection e with e;have e:=iu e;subst e;exact⟨a,es,rfl,rfl,c,hk,f,g⟩
 | _=>cases e
def Gc:G2:=λd e R=>∃k kvs,d=dO k/\e=fb kvs/\R (.bool (bK kvs k).isSome)
def o9:G2:=λd e R=>∃k kvs,d=dO k/\e=fb kvs/\R (.bool (!(bK kvs k).isSome))
def Ga:G2:=λd e R=>∃kvs k x,d=fb kvs/\e=dO k/\bK kvs k=some x/\R x
theorem Hw:b8 K (FL K) Gc:=by rintro N H x y d e R Q a b ⟨k,kvs,rfl,rfl,c⟩ f;exact⟨k,kvs,a.dv,(b.dct_of rfl).dctV,f _ _ c (.bl _)⟩
theorem oT:b8 K (nW K) o9:=by rintro N H x y d e R Q a b ⟨k,kvs,rfl,rfl,c⟩ f;exact⟨k,kvs,a.dv,(b.dct_of rfl).dctV,f _ _ c (.bl _)⟩
theorem Cp:b8 K (FK K) Ga:=by rintro N H x y d e R Q f g ⟨kvs,k,z,rfl,rfl,b,h⟩ j;obtain⟨a,es,rfl,l,hk,c,m⟩:=f.dct_of rfl;refine⟨k,a,es,kvs,rfl,g.dv,l,hk.dv,c.dv,m,by rw[b];rfl,λi v d hd h1 h2=>?_⟩;rw[b] at hd;cases hd;obtain⟨n,e1,dn⟩:=c.get h1;rw[h2] at e1;cases e1;exact j _ _ h dn
theorem wB:∀{es:List (a8×al×V)}{kvs:List (a8×ab)} (k:a8),es.map (λp=>p.1)=kvs.map (λp=>p.1)->(es.any λp=>decide (p.1=k))=(bK kvs k).isSome
 | [],[],k,_=>rfl
 | [],_::_,k,e=>by simp at e
 | _::_,[],k,e=>by simp at e
 | p::es,q::kvs,k,e=>by
  rw[ID,ID] at e;injection e with e1 e2;rw[rj,wB k e2,bJ,e1];by_cases h:q.1=k <;> simp[h]
theorem xp{es:List (a8×al×V)}{kvs:List (a8×ab)}(k:a8)(v:V)(d:ab)(e:es.map (λp=>p.1)=kvs.map (λp=>p.1))(h1:DNs K N H (es.map λp=>V.ref p.2.1) (kvs.map λp=>dO p.1))(h2:DNs K N H (es.map λp=>p.2.2) (kvs.map λp=>p.2))(dn:DN K N H v d) :
    (es.map λp=>if p.1=k then (p.1,p.2.1,v) else p).map (λp=>p.1)=(kvs.map λp=>if p.1=k then (p.1,d) else p).map (λp=>p.1) /\
    DNs K N H ((es.map λp=>if p.1=k then (p.1,p.2.1,v) else p).map λp=>V.ref p.2.1) ((kvs.map λp=>if p.1=k then (p.1,d) else p).map λp=>dO p.1) /\
    DNs K N H ((es.map λp=>if p.1=k then (p.1,p.2.1,v) else p).map λp=>p.2.2) ((kvs.map λp=>if p.1=k then (p.1,d) else p).map λp=>p.2):=by
  induction es generalizing kvs with
  | nil =>
    cases kvs with
    | nil=>exact⟨rfl,.nil,.nil⟩
    | cons q kvs=>simp at e
  | cons p es c =>
   cases kvs with
   | nil=>simp at e
   | cons q kvs =>
    rw[ID,ID] at e h1 h2;injection e with e1 e2;cases h1 with
    | cons a1 a2 =>
      cases h2 with
      | cons f g =>
        obtain⟨i1,i2,b⟩:=c e2 a2 g;simp only[ID];by_cases h:q.1=k
        · have a:p.1=k:=e1.trans h;simp only[h,a,if_true];refine⟨by rw[i1],.cons ?_ i2,.cons dn b⟩;rw[<-h];exact a1
        · have a:¬p.1=k:=λz=>h (e1.symm.trans z);simp only[h,a,if_false];exact⟨by rw[i1,e1],.cons a1 i2,.cons f b⟩
theorem AL(e:es.map (λp=>p.1)=kvs.map (λp=>p.1))(h1:DNs K N H (es.map λp=>V.ref p.2.1) (kvs.map λp=>dO p.1))(h2:DNs K N H (es.map λp=>p.2.2) (kvs.map λp=>p.2))(a:DN K N H (.ref b) (dO k))(dn:DN K N H v d) :
  (uo es k b v).map (λp=>p.1)=(hJ kvs k d).map (λp=>p.1)/\DNs K N H ((uo es k b v).map λp=>V.ref p.2.1) ((hJ kvs k d).map λp=>dO p.1)/\DNs K N H ((uo es k b v).map λp=>p.2.2) ((hJ kvs k d).map λp=>p.2):=by
 unfold uo hJ;rw[wB k e];by_cases c:(bK kvs k).isSome=true
 ·rw[ME c,ME c];exact xp k v d e h1 h2 dn
 ·rw[MF c,MF c];simp only[IE,ID,sj];exact⟨by rw[e],h1.app (.cons a .nil),h2.app (.cons dn .nil)⟩
theorem aW.retreeR(h:aW K M P H0 (A++(some v,.tr S d)::B) H)(l:a∈S)(pm:S.Perm (S'++R))(n:OT K (Nw M (A++(some v,.tr S d)::B)) (upd H a o) v d' S') :
  aW K M P H0 (A++(some v,.tr S' d')::B) (upd H a o):=by
 obtain⟨v',ev,ot,s⟩:=h.tr _ _ _ (HQ _ H9);cases ev;have p:oas (A++(some v,Sl.tr S d)::B)=oas A++(S++oas B):=by rw[ae,ad,aq]
 have nd:=h.nd;rw[p] at nd;obtain⟨G,y,C⟩:=HY.mp nd;obtain⟨I,J,D⟩:=HY.mp y;have E:Nw M (A++(some v,Sl.tr S d)::B) a:=.inr (by rw[p];exact HQ _ (HV _ l));have kN:aN (Nw M (A++(some v,Sl.tr S d)::B)) H (upd H a o):=aN.own E;have i:oas (A++(some v,Sl.tr S' d')::B)=oas A++(S'++oas B):=by rw[ae,ad,aq]
 have j:∀b,b∈S'->b∈S:=λb z=>pm.mem_iff.mpr (HV _ z);have up:∀b,Nw M (A++(some v,Sl.tr S' d')::B) b->Nw M (A++(some v,Sl.tr S d)::B) b:=Nw.sub λb z=>by
  rw[i] at z;rw[p];rcases HX.mp z with z|z
  ·exact HV _ z
  ·rcases HX.mp z with z|z
   ·exact HQ _ (HV _ (j b z))
   ·exact HQ _ (HQ _ z)
 have e:∀(b:al) (u:HO),upd H a o b=some u->Nw M (A++(some v,Sl.tr S' d')::B) b->Nw M (A++(some v,Sl.tr S d)::B) b:=λb _ _ z=>up b z;have c:∀x t,(x,t)∈A\/(x,t)∈B->(x,t)∈A++(some v,Sl.tr S d)::B:=λx t m=>by
  rcases m with m|m
  ·exact HV _ m
  ·exact HQ _ (HZ _ m)
 have f:∀x t,(x,t)∈A++(some v,Sl.tr S' d')::B->(x,t)=(some v,Sl.tr S' d')\/((x,t)∈A\/(x,t)∈B):=λx t m=>by
  rcases HX.mp m with m|m
  ·exact .inr (.inl m)
  ·rcases Ic.mp m with m|m
   ·exact .inl m
   ·exact .inr (.inr m)
 have other:∀x t b,(x,t)∈A\/(x,t)∈B->b∈cx (x,t)->b≠a:=λx t b m w z=>by
  subst z;rcases m with m|m
  ·exact C b (aV.mpr ⟨_,m,w⟩) b (HV _ l) rfl
  ·exact D b l b (aV.mpr ⟨_,m,w⟩) rfl
 refine⟨h.keep.put (s a l),λb q z=>?_,h.mt,h.pm,λx d' m=>?_,λx d' m=>?_,λx d' m=>?_,λx F d' m=>?_,?_⟩
 ·by_cases g:b=a
  ·subst g;rw[aw] at z;cases z
  ·rw[am g] at z;exact h.live b q z
 ·rcases f _ _ m with m|m
  ·cases m
  ·obtain⟨w',e1,dn⟩:=h.fr x d' (c _ _ m);exact⟨w',e1,(dn.keep kN).to e⟩
 ·rcases f _ _ m with m|m
  ·cases m
  ·obtain⟨b,us2,e1,e2,dn,k⟩:=h.ow x d' (c _ _ m);subst e1;exact⟨b,us2,rfl,by rw[am (other _ _ b m (HW.mpr rfl))];exact e2,(dn.keep kN).to e,k⟩
 ·rcases f _ _ m with m|m
  ·cases m
  ·obtain⟨b,us2,e1,e2,dn,k⟩:=h.io x d' (c _ _ m);subst e1;exact⟨b,us2,rfl,by rw[am (other _ _ b m (HW.mpr rfl))];exact e2,(dn.keep kN).to e,k⟩
 ·rcases f _ _ m with m|m
  ·cases m;exact⟨v,rfl,n.to e,λb g=>s b (j b g)⟩
  ·obtain⟨w',e1,dn,k⟩:=h.tr x F d' (c _ _ m);subst e1;exact⟨w',rfl,(dn.keep kN λb g=>am (other _ _ b m (by rw[aq];exact g))).to e,k⟩
 ·rw[i];have r:(oas A++((S'++R)++oas B)).Nodup:=(fo _ (Lk _ pm)).nodup_iff.mp nd;refine r.sublist (me (List.Sublist.append_right ?_ _) _);exact List.sublist_append_left _ _
theorem Rel.retreeT(h:Rel K M P H0 σ0 σ env ts H)(e:env[i]? = some (.tr S d))(ev:σ[i]? = some (some v))(f:a∈S)(pm:S.Perm (S'++R))(b:OT K (Nw M (ax σ env ts)) (upd H a o) v d' S') :
  Rel K M P H0 σ0 σ (env.set i (.tr S' d')) ts (upd H a o):=by
 obtain⟨x,A,B,e1,g,k⟩:=h.split e;rw[ev] at e1;cases e1;have r:=h.e;rw[g] at r b;refine⟨by rw[k];exact r.retreeR f pm b,by simp[h.len],h.vw,λj c e'=>?_⟩;by_cases hj:i=j
 ·subst hj;have hi:i<env.length:=(Ib.mp e).1;rw[Iy hi] at e';cases e'
 ·rw[Ip hj] at e';exact h.ios j c e'
theorem Rel.dct{i:Nat}{S:List al}(h:Rel K M P H0 σ0 σ env ts H)(e:env[i]? = some (.tr S (fb kvs))):∃a es,σ[i]? = some (some (.ref a))/\S=[a]/\H a=some (.ext (cr a es))/\DNs K (Nw M (ax σ env ts)) H (es.map λp=>V.ref p.2.1) (kvs.map λp=>dO p.1) /\
  DNs K (Nw M (ax σ env ts)) H (es.map λp=>p.2.2) (kvs.map λp=>p.2)/\es.map (λp=>p.1)=kvs.map (λp=>p.1):=by obtain⟨x,e1,m⟩:=h.slot e;obtain⟨v,ev,ot,_⟩:=h.e.tr _ _ _ m;obtain⟨a,es,rfl,b,c,hk,d,f⟩:=ot.dct_of rfl;exact⟨a,es,by rw[e1,ev],b,c,hk,d,f⟩
end
section
variable {X:Cx}{K:cc}{pos:Pos}{e:ba}{te tj:DE}
theorem HB(hK:X.K=K)(a:X.A.units+2<J4):OpR X (ky .In) (FL K):=by subst hK;exact DP a
theorem oZ(hK:X.K=K)(a:X.A.units+2<J4):OpR X (ky .NotIn) (nW K):=by subst hK;exact uJ a
theorem Cr(hK:X.K=K)(a:X.A.units+2<J4):IxR X (FK K):=by subst hK;exact HC a
theorem hu2(a:dc k A):A.units+2<J4:=Jf (Nat.add_le_add_left (by decide:2<=64) _) a.units
def BQ(i:Nat)(tj te:DE):DS:=λDD env=>te env λs1 b=>(∃S kvs,b[i]? = some (.tr S (fb kvs)))/\tj b λs2 a=>∃(S:List al) (kvs:List (a8×ab)) (k:a8) (d:ab),
 a[i]? = some (.tr S (fb kvs))/\be a s2=some (dO k)/\be a s1=some d/\kvs.length<sizeLine/\DD.nx (a.set i (.tr S (fb (hJ kvs k d))))
theorem qw(i:Nat){y:bt}{npos c:Pos}{j:ba}(hK:X.K=K)(L:X.A.units+2<J4)(O:X.N[i]? = some y)(hj:PE X j (up K tj))(Q:PE X e (up K te))
  (t:Vis X.env.scope y:=by first|exact o0 rfl|exact eb da|exact eb (eb rfl)) (hd:(y==("__debug__" : bt))=false:=by decide)
  (u:(y==("__classdict__" : bt))=false:=by decide)
  (T:∀v,Kh (.Subscript (.Name y npos) j c) X.env v=(do
   let ov <-Kd [v] (eval (.Name y npos) X.env)
   let iv <-Kd [v,ov] (eval j X.env)
   Kz c
   Kd [v,ov,iv] (Qn ov iv v)
   release [v,ov,iv] []):=by intro _;rfl)
  (U:KI [.Subscript (.Name y npos) j c] e pos.line X.env=pure false:=by rfl) (hw:KJ [.Subscript (.Name y npos) j c] e X.env=pure none:=by rfl)
  (h1:(qb [.Subscript (.Name y npos) j c] X.env).map (·.2)=[Kh (.Subscript (.Name y npos) j c) X.env]:=by rfl):PS X (.Assign [.Subscript (.Name y npos) j c] e pos) (upS K (BQ i tj te)):=by
 subst hK;refine(qy Q (zj (aG O t hd u) hj (FF L) T) U hw h1).imp λD σ H h=>?_;obtain⟨M,P,H0,σ0,env,ts,DD,nv,w,V,ok⟩:=h;refine⟨M,P,H0,σ0,env,ts,_,w,V,λs1 n q H1 h1 l=>?_⟩;obtain⟨⟨S0,G,W⟩,h1⟩:=h1;obtain⟨a,_,r,_⟩:=l.dct W;refine⟨.ref a,r,M,P,H0,σ0,n,ts++[(q,s1)],_,l,h1,λs2 g I z h2 o=>?_⟩;obtain⟨S,kvs,k,d,e2,Y,Z,hl,hR⟩:=h2;have f:Rel X.K M P H0 σ0 σ g (ts++[(q,s1),(I,s2)]) z:=by simpa using o
 have C:=f.kept (v:=q) (s:=s1) (by simp) Z;have m:=f.kept (v:=I) (s:=s2) (by simp) Y;obtain⟨a',es,p,E,hH,hk,t,F⟩:=f.drop.dct e2;rw[r] at p;cases p;obtain⟨b,xs,rfl,_,_⟩:=m.tuple;have J:es.length=kvs.length:=by have:=congrArg mf F;simpa using this
 refine⟨k,a,b,es,kvs,rfl,rfl,m.dv,hH,hk.dv,F,by omega,ok.nx _ _ _ hR ?_⟩;obtain⟨p1,p2,p3⟩:=AL (b:=b) (k:=k) F hk t m C;have na:Nw M (ax σ g ts) a:=by obtain⟨x,A,B,e1,q1,q2⟩:=f.drop.split e2;refine .inr ?_;rw[q1,ae,ad];rw[r] at e1;cases e1;rw[aq,E];simp
 have kN:aN (Nw M (ax σ g ts)) z (upd z a (.ext (cr a (uo es k b q)))):=aN.own na;refine f.drop.retreeT (R:=[]) e2 r (by rw[E];simp) (by simp) ?_;rw[E];exact .dct aw (p2.keep kN) (p3.keep kN) p1
end
section
variable {K:cc}{M P:al->Prop}{H0 H:Hp}{E:List Ent}{σ0 σ:St}{env:List Sl}{ts:List (V×Sl)}
theorem aW.addD(h:aW K M P H0 E H)(c:H p=none):aW K M P H0 (E++[(some (.ref p),.tr [p] (fb []))]) (upd H p (.ext (cr p []))):=by
 have f:oas (E++[(some (.ref p),Sl.tr [p] (fb []))])=oas E++[p]:=by rw[ae];rfl
 have g:p ∉ oas E:=λz=>by
  obtain⟨vs',q,_⟩:=h.own z;rw[c] at q;cases q
 have i:H0 p=none:=by
  cases e:H0 p with
  | none=>rfl
  | some o=>exact absurd c (h.live p (by rw[e];simp))
 have up:∀b o,H b=some o->Nw M (E++[(some (.ref p),Sl.tr [p] (fb []))]) b->Nw M E b:=λb o e z=>by
  rcases z with z|z
  ·exact .inl z
  ·rw[f] at z;rcases HX.mp z with z|z
   ·exact .inr z
   ·rw[HW.mp z,c] at e;cases e
 have h':=h.same (aD.new (o:=.ext (cr p [])) c);refine⟨h'.keep,h'.live,h.mt,h.pm,λx d' m=>?_,λx d' m=>?_,λx d' m=>?_,λx S d' m=>?_,?_⟩
 ·rcases HX.mp m with m|m
  ·obtain⟨v,e,dn⟩:=h.fr x d' m;exact⟨v,e,(dn.to up).keep (aN.same (aD.new c))⟩
  ·rw[HW] at m;cases m
 ·rcases HX.mp m with m|m
  ·obtain⟨a,ws,e,e2,dn,r⟩:=h.ow x d' m;exact⟨a,ws,e,aD.new c _ _ e2,(dn.to up).keep (aN.same (aD.new c)),r⟩
  ·rw[HW] at m;cases m
 ·rcases HX.mp m with m|m
  ·obtain⟨a,ws,e,e2,dn,r⟩:=h.io x d' m;exact⟨a,ws,e,aD.new c _ _ e2,(dn.to up).keep (aN.same (aD.new c)),r⟩
  ·rw[HW] at m;cases m
 ·rcases HX.mp m with m|m
  ·obtain⟨v,e,dn,r⟩:=h.tr x S d' m;exact⟨v,e,(dn.to up).keep (aN.same (aD.new c)) λa d=>by
    obtain⟨xs,z⟩:=dn.lives a d;rw[aD.new c _ _ z,z],r⟩
  ·rw[HW] at m;cases m;exact⟨_,rfl,.dct (es:=[]) (kvs:=[]) aw .nil .nil rfl,λa d=>by rw[HW.mp d];exact i⟩
 ·rw[f];exact HY.mpr ⟨h.nd,by simp,λa d b j=>by rw[HW.mp j];exactλz=>g (z▸d)⟩
theorem Rel.addD(h:Rel K M P H0 σ0 σ env ts H)(a:H p=none):Rel K M P H0 σ0 σ env (ts++[(.ref p,.tr [p] (fb []))]) (upd H p (.ext (cr p []))):=h.withRes (h.e.addD a) rfl
end
section
variable {X:Cx}{K:cc}{pos:Pos}{e1 e2:ba}{tk tv:DE}
def B4:DE:=λenv R=>∀S,R (.tr S (fb [])) env
theorem za:PE X (.Dict [] [] pos) (up K B4):=AV.imp λσ H Q h=>by
 obtain⟨M,P,H0,σ0,env,ts,R,a,b,c⟩:=h
 exactλp d=>c _ _ _ _ (b _) (a.addD d)
def B3(tk tv:DE):DE:=λenv R=>tk env λs1 b=>tv b λs2 a=>∃(k:a8) (d:ab),be a s1=some (dO k)/\be a s2=some d/\∀S,R (.tr S (fb [(k,d)])) a
theorem Dk(hK:X.K=K)(y:X.A.units+2<J4)(hk:PE X e1 (up K tk))(z:PE X e2 (up K tv)):PE X (.Dict [some e1] [e2] pos) (up K (B3 tk tv)):=by
 subst hK;refine(AU (Jf (JD _) y) hk z).imp λσ H Q h=>?_;obtain⟨M,P,H0,σ0,env,ts,R,q,C,D⟩:=h;intro p E;refine⟨M,P,H0,σ0,env,_,_,q.addD E,C,λs1 j x H1 h1 l=>⟨M,P,H0,σ0,j,_,_,l,h1,λs2 f o r h2 m=>?_⟩⟩;obtain⟨k,d,F,G,I⟩:=h2;have c:Rel X.K M P H0 σ0 σ f ((ts++[(.ref p,.tr [p] (fb []))])++[(x,s1),(o,s2)]) r:=by simpa using m
 have g:=c.kept (v:=x) (s:=s1) (by simp) F;have n:=c.kept (v:=o) (s:=s2) (by simp) G;have i:=c.drop;have t:=i.e;rw[ar] at t g n;obtain⟨v',ev,ot,U⟩:=t.tr _ _ _ (HQ _ H9);obtain⟨a,es,u,W,J,L,N,O⟩:=ot.dct_of (kvs:=[]) rfl;rw[u] at ev;cases ev;have w:es=[]:=by simpa using O
 subst w;obtain⟨b,xs,rfl,_,_⟩:=g.tuple;refine⟨k,b,rfl,g.dv,J,D _ _ _ _ (I [p]) ?_⟩;have T:Nw M (ax σ f ts++tmp [(V.ref p,Sl.tr [p] (fb []))]) p:=.inr (by rw[ae];exact HQ _ (aV.mpr ⟨_,HW.mpr rfl,HW.mpr rfl⟩));have kN:aN (Nw M (ax σ f ts++tmp [(V.ref p,Sl.tr [p] (fb []))])) r (upd r p (.ext (cr p [(k,b,o)]))):=aN.own T;refine i.drop.withRes ?_ rfl;refine aW.retreeR (B:=[]) (R:=[]) (S:=[p]) t (by simp) (by simp) ?_;exact .dct (es:=[(k,b,o)]) (kvs:=[(k,d)]) aw ((DNs.cons g .nil).keep kN) ((DNs.cons n .nil).keep kN) rfl
end
abbrev wD(w:List (List Int)):ab:=.list (w.map λr=>fzD (r.map .int))
section
theorem dj(xs:List α)(v:α):atI (xs++[v]) (-1)=some v:=by unfold atI ixN;rw[MF (by decide),ME (by rw[Ix];simp;omega)];show(xs++[v])[(-1+((xs++[v]).length:Int)).toNat]? = some v;rw[show(-1+((xs++[v]).length:Int)).toNat=xs.length by rw[Ix];simp;omega];simp
end
end _L
namespace _L
open PySem PySem.Spec PyProof.Rows PySem.W
theorem b7{α β:Type}{lt:Nat->Nat->Bool}{f:α->KasT β}:∀t:KasT α,ay lt (t.bind f)=ay lt (f (ay lt t))
 | .ret a=>rfl
 | .ask i j k=>b7 (k (lt i j))
theorem sH{α:Type}{lt:Nat->Nat->Bool}{i j:Nat}{k:Bool->KasT α}:ay lt (.ask i j k)=ay lt (k (lt i j)):=rfl
def gA(p:Array Nat)(k:Nat):Nat:=p.getD k 0
theorem gT(hj:j<=p.size)(k:Nat):gA (Ku p i j) k=if i<=k/\k<j then gA p (i+j - 1 - k) else gA p k:=by unfold gA Ku;rw[fx,getElem?_mirror_all hj];split <;> rw[fx]
theorem zI(b:a<p.size)(hd:d<=a)(k:Nat):gA (bubble p a d) k=if k=a - d then gA p a else if a - d<k/\k<=a then gA p (k - 1) else gA p k:=by
 unfold gA;rw[fx,getElem?_bubble b d hd];by_cases c1:k=a - d
 ·rw[ME c1,ME c1,<-fx]
 ·rw[MF c1,MF c1];by_cases c2:a - d<k/\k<=a
  ·rw[ME c2,ME c2,<-fx]
  ·rw[MF c2,MF c2,<-fx]
theorem dD(p:Array Nat)(i j:Nat):(Ku p i j).size=p.size:=mirror_size _ _ _ _
section
variable {lt:Nat->Nat->Bool}(as:∀a b,lt a b=true->lt b a=false) (tr:∀a b c,lt a b=false->lt b c=false->lt a c=false)
def jw(lt:Nat->Nat->Bool)(p:Array Nat)(n:Nat):Prop:=∀i,1<=i->i<n->lt (gA p i) (gA p (i - 1))=false
def f8(lt:Nat->Nat->Bool)(p:Array Nat)(n:Nat):Prop:=∀i,1<=i->i<n->lt (gA p (i - 1)) (gA p i)=false
include as tr
theorem zr(a:Nat):lt a a=false:=by
 cases e:lt a a with
 | false=>rfl
 | true=>have:=as a a e;rw[e] at this;cases this
theorem jw.far(h:jw lt p n):∀d a,a+d<n->lt (gA p (a+d)) (gA p a)=false
 | 0,a,_=>zr as tr _
 | d+1,a,hd=>by
  have h1:=h (a+(d+1)) (by omega) hd;rw[show a+(d+1) - 1=a+d by omega] at h1;exact tr _ _ _ h1 (jw.far h d a (by omega))
theorem jw.le(h:jw lt p n)(c:a<=b)(d:b<n):lt (gA p b) (gA p a)=false:=by have:=jw.far as tr h (b - a) a (by omega);rwa [show a+(b - a)=b by omega] at this
theorem f8.far(h:f8 lt p n):∀d a,a+d<n->lt (gA p a) (gA p (a+d))=false
 | 0,a,_=>zr as tr _
 | d+1,a,hd=>by
  have h1:=h (a+(d+1)) (by omega) hd;rw[show a+(d+1) - 1=a+d by omega] at h1;exact tr _ _ _ (f8.far h d a (by omega)) h1
theorem f8.le(h:f8 lt p n)(c:a<=b)(d:b<n):lt (gA p a) (gA p b)=false:=by have:=f8.far as tr h (b - a) a (by omega);rwa [show a+(b - a)=b by omega] at this
omit as tr in
theorem pG:∀(f n:Nat),1<=n->jw lt p n->n<=ay lt (KG p f n)/\ay lt (KG p f n)<=n+f/\jw lt p (ay lt (KG p f n))/\(ay lt (KG p f n)<n+f->lt (gA p (ay lt (KG p f n))) (gA p (ay lt (KG p f n) - 1))=true)
 | 0,n,_,h=>⟨Ih _,Ih _,h,λz=>absurd z (Ji _)⟩
 | f + 1,n,hn,h=>by
  have e:ay lt (KG p (f+1) n)=ay lt (if lt (gA p n) (gA p (n - 1))=true then KasT.ret n else KG p f (n+1)):=rfl;rw[e];cases c:lt (gA p n) (gA p (n - 1)) with
  | true=>exact⟨Ih _,by show n<=_;omega,h,λ_=>c⟩
  | false =>
   rw[MF (by decide)];obtain⟨a1,a2,a3,b⟩:=pG (p:=p) f (n+1) (by omega) λi hi d=>by
    by_cases a:i=n
    ·rw[a];exact c
    ·exact h i hi (by omega)
   exact⟨by omega,by omega,a3,λz=>b (by omega)⟩
theorem rD(hz:n<=p.size)(c:q+1<=n)(h:f8 lt p n)(b:∀i,n - (q+1)<=i->i+1<n->lt (gA p (i+1)) (gA p i)=false):f8 lt (Ku p (n - (q+1)) n) n:=by
 intro i h1 h2;rw[gT hz,gT hz];by_cases hi:n - (q+1)<=i
 ·rw[ME (show n - (q+1)<=i/\i<n from⟨hi,h2⟩)];by_cases a:n - (q+1)<=i - 1
  ·rw[ME (show n - (q+1)<=i - 1/\i - 1<n from⟨a,by omega⟩)];have:=b (n - (q+1)+n - 1 - i) (by omega) (by omega);rwa [show n - (q+1)+n - 1 - i+1=n - (q+1)+n - 1 - (i - 1) by omega] at this
  ·rw[MF (by omega)];exact f8.le as tr h (by omega) (by omega)
 ·rw[MF (by omega),MF (by omega)];exact h i h1 h2
theorem yu(f:Nat):∀(p:Array Nat) (n q:Nat),n+f<=p.size->q+1<=n->f8 lt p n->(∀i,n - (q+1)<=i->i+1<n->lt (gA p (i+1)) (gA p i)=false) ->
  ∃g b j,ay lt (KN f p n q)=(g,b,j)/\g.size=p.size/\n<=b/\b<=n+f/\j+1<=b/\f8 lt g b/\∀i,b - (j+1)<=i->i+1<b->lt (gA g (i+1)) (gA g i)=false:=by
 induction f with
 | zero=>exactλp n q _ s h k=>⟨p,n,q,rfl,rfl,Ih _,Ih _,s,h,k⟩
 | succ f t =>
  intro p n q hz s h k;have e:ay lt (KN (f+1) p n q)=ay lt (if lt (gA p n) (gA p (n - 1))=true then (if q>0 then KN f (Ku p (n - (q+1)) n) (n+1) 0 else KN f p (n+1) 0)
   else .ask (p.getD (n - 1) 0) (p.getD n 0) λd=>if d=true then .ret (p,n,q) else KN f p (n+1) (q+1)):=rfl
  rw[e];cases c:lt (gA p n) (gA p (n - 1)) with
  | true =>
   rw[ME rfl];have c':=as _ _ c;by_cases l:q>0
   ·rw[ME l];have hd:=rD as tr (p:=p) (n:=n) (q:=q) (by omega) s h k;obtain⟨g,b,j,a1,a2,a3,u,m,o,r⟩:=t (Ku p (n - (q+1)) n) (n+1) 0 (by rw[dD];omega) (by omega) (λi h1 h2=>by
     by_cases a:i=n
     ·subst a;rw[gT (by omega),gT (by omega),MF (show ¬(i - (q+1)<=i/\i<i) by omega),ME (show i - (q+1)<=i - 1/\i - 1<i by omega)];refine tr _ _ _ ?_ c';exact f8.le as tr h (by omega) (by omega)
     ·exact hd i h1 (by omega)) (λi h1 h2=>by omega)
    exact⟨g,b,j,a1,by rw[a2,dD],by omega,by omega,m,o,r⟩
   ·rw[MF l];obtain⟨g,b,j,a1,a2,a3,u,m,o,r⟩:=t p (n+1) 0 (by omega) (by omega) (λi h1 h2=>by
     by_cases a:i=n
     ·subst a;exact c'
     ·exact h i h1 (by omega)) (λi h1 h2=>by omega)
    exact⟨g,b,j,a1,a2,by omega,by omega,m,o,r⟩
  | false =>
   rw[MF (by decide)];have e2:ay lt (KasT.ask (p.getD (n - 1) 0) (p.getD n 0) λd=>if d=true then .ret (p,n,q) else KN f p (n+1) (q+1))=ay lt (if lt (gA p (n - 1)) (gA p n)=true then .ret (p,n,q) else KN f p (n+1) (q+1)):=rfl;rw[e2];cases c2:lt (gA p (n - 1)) (gA p n) with
   | true=>exact⟨p,n,q,rfl,rfl,Ih _,by omega,s,h,k⟩
   | false =>
    rw[MF (by decide)];obtain⟨g,b,j,a1,a2,a3,u,m,o,r⟩:=t p (n+1) (q+1) (by omega) (by omega) (λi h1 h2=>by
     by_cases a:i=n
     ·subst a;exact c2
     ·exact h i h1 (by omega)) (λi h1 h2=>by
     by_cases a:i+1=n
     ·rw[a];have:i=n - 1:=by omega
      rw[this];exact c
     ·exact k i (by omega) (by omega))
    exact⟨g,b,j,a1,a2,by omega,by omega,m,o,r⟩
omit as tr in
theorem lF(h1:1<=n)(hn:n<=nrem)(hz:nrem<=p.size)(h:f8 lt p n) :
  ∃m a,ay lt (QE n nrem p)=(m,a)/\a.size=p.size/\1<=m/\m<=nrem/\jw lt a m:=by
 unfold QE;rw[b7];have b:jw lt (Ku p 0 n) n:=λi i1 i2=>by
  rw[gT (by omega),gT (by omega),ME (by omega),ME (by omega)];have:=h (n - i) (by omega) (by omega);rwa [show n - i - 1=0+n - 1 - i by omega,show n - i=0+n - 1 - (i - 1) by omega] at this
 obtain⟨a1,a2,a3,_⟩:=pG (lt:=lt) (p:=Ku p 0 n) (nrem - n) n h1 b;exact⟨_,_,rfl,dD _ _ _,by omega,by omega,a3⟩
theorem gW(hn:n+1<=nrem)(hz:nrem<=p.size)(h:f8 lt p (n+1)) :
  ∃m a,ay lt (QN n nrem p)=(m,a)/\a.size=p.size/\1<=m/\m<=nrem/\jw lt a m:=by
 unfold QN;rw[b7];obtain⟨a,b,g,a1,a2,a3,l,j,f,k⟩:=yu as tr (nrem - (n+1)) p (n+1) 0 (by omega) (by omega) h λi h1 h2=>by omega
 rw[a1];dsimp only;split
 ·obtain⟨m,p2,c,d,e⟩:=lF (p:=Ku a (b - (g+1)) b) (n:=b) (nrem:=nrem) (by omega) (by omega) (by rw[dD];omega) (rD as tr (by omega) j f k);exact⟨m,p2,c,by rw[d,dD,a2],e⟩
 ·obtain⟨m,p2,c,d,e⟩:=lF (p:=a) (n:=b) (nrem:=nrem) (by omega) (by omega) (by omega) f;exact⟨m,p2,c,by rw[d,a2],e⟩
theorem vX(h1:1<=nrem)(hz:nrem<=p.size):∃m f,ay lt (kas_count nrem p)=(m,f)/\f.size=p.size/\1<=m/\m<=nrem/\jw lt f m:=by
 unfold kas_count;rw[b7];obtain⟨a1,a2,a3,h⟩:=pG (lt:=lt) (p:=p) (nrem - 1) 1 (Ih _) λi i1 i2=>by omega
 generalize ay lt (KG p (nrem - 1) 1)=n at *;split
 ·exact⟨n,p,rfl,rfl,a1,by omega,a3⟩
 ·rename_i b;have b:n≠nrem:=λz=>b (by rw[z];simp);have g:=h (by omega);have a:=as _ _ g;split
  ·rename_i hn1;rw[sH];have e:lt (p.getD 0 0) (p.getD (n - 1) 0)=lt (gA p 0) (gA p (n - 1)):=rfl;rw[e];cases c:lt (gA p 0) (gA p (n - 1)) with
   | true=>exact⟨n,p,rfl,rfl,a1,by omega,a3⟩
   | false =>
    rw[MF (by decide)];obtain⟨m,p2,j,k,l⟩:=gW as tr (p:=Ku p 0 n) (n:=n) (nrem:=nrem) (by omega) (by rw[dD];omega) λi i1 i2=>by
     rw[gT (by omega),gT (by omega),ME (show 0<=i - 1/\i - 1<n by omega)];by_cases o:i<n
     ·rw[ME (show 0<=i/\i<n by omega)];exact jw.le as tr a3 (by omega) (by omega)
     ·rw[MF (show ¬(0<=i/\i<n) by omega)];have d:i=n:=by omega
      subst d;rw[show 0+i - 1 - (i - 1)=0 by omega];exact tr _ _ _ c a
    exact⟨m,p2,j,by rw[k,dD],l⟩
  ·rename_i hn1;have hn2:n=1:=by omega
   subst hn2;exact gW as tr (by omega) hz λi i1 i2=>by
    have:i=1:=by omega
    subst this;exact a
theorem iL(h:jw lt p k):∀f l r,l<=r->r<=k->r - l<=f->(∀i,i<l->lt (gA p k) (gA p i)=false)->(∀i,r<=i->i<k->lt (gA p k) (gA p i)=true) ->
  ∃m,ay lt (KA p k f l r)=m/\m<=k/\(∀i,i<m->lt (gA p k) (gA p i)=false)/\∀i,m<=i->i<k->lt (gA p k) (gA p i)=true
 | 0,l,r,h1,h2,g,b,d=>⟨l,rfl,by omega,b,λi i1 i2=>d i (by omega) i2⟩
 | f + 1,l,r,h1,h2,g,b,d=>by
  by_cases a:l≥r
  ·have e:ay lt (KA p k (f+1) l r)=l:=by show ay lt (if l≥r then KasT.ret l else _)=_;rw[ME a];rfl
   exact⟨l,e,by omega,b,λi i1 i2=>d i (by omega) i2⟩
  ·have e:ay lt (KA p k (f+1) l r)=ay lt (if lt (gA p k) (gA p ((l+r) / 2))=true then KA p k f l ((l+r) / 2) else KA p k f ((l+r) / 2+1) r):=by
    show ay lt (if l≥r then KasT.ret l else _)=_;rw[MF a];rfl
   rw[e];cases c:lt (gA p k) (gA p ((l+r) / 2)) with
   | true =>
    rw[ME rfl];refine iL h f l ((l+r) / 2) (by omega) (by omega) (by omega) b λi i1 i2=>?_;cases c2:lt (gA p k) (gA p i) with
    | true=>rfl
    | false =>
     have:=tr _ _ _ c2 (jw.le as tr h i1 i2);rw[c] at this;cases this
   | false =>
    rw[MF (by decide)];refine iL h f ((l+r) / 2+1) r (by omega) h2 (by omega) (λi i1=>?_) d;exact tr _ _ _ c (jw.le as tr h (by omega) (by omega))
theorem wm:∀(f:Nat) (p:Array Nat) (k:Nat),k+f=p.size->jw lt p k->jw lt (ay lt (kas_bin f p k)) p.size
 | 0,p,k,e,h=>by
  rw[<-e,Hh];exact h
 | f + 1,p,k,e,h=>by
  have e1:ay lt (kas_bin (f+1) p k)=ay lt (kas_bin f (bubble p k (k - ay lt (KA p k k 0 k))) (k+1)):=by show ay lt ((KA p k k 0 k).bind _)=_;rw[b7]
  rw[e1];obtain⟨m,a,d,b,c⟩:=iL as tr h k 0 k (Iz _) (Ih _) (by omega) (λi hi=>by omega) λi i1 i2=>by omega
  rw[a];have hsz:(bubble p k (k - m)).size=p.size:=bubble_size _ _ _;rw[<-hsz];refine wm f _ (k+1) (by rw[hsz];omega) λi i1 i2=>?_;rw[zI (by omega) (by omega),zI (by omega) (by omega),show k - (k - m)=m by omega];by_cases c1:i=m
  ·rw[ME c1,MF (by omega),MF (by omega)];exact b (i - 1) (by omega)
  ·rw[MF c1];by_cases c2:m<i
   ·rw[ME (show m<i/\i<=k by omega)];by_cases c3:i - 1=m
    ·rw[ME c3,c3];exact as _ _ (c m (Ih _) (by omega))
    ·rw[MF c3,ME (show m<i - 1/\i - 1<=k by omega)];exact h (i - 1) (by omega) (by omega)
   ·rw[MF (by omega),MF (by omega),MF (by omega)];exact h i i1 (by omega)
theorem qc(h1:1<=n):jw lt (ay lt (J7 n)) n:=by
 unfold J7;rw[b7];have hz:(lA (di n)).size=n:=by simp
 obtain⟨m,p,a1,a2,a3,c,b⟩:=vX as tr (p:=lA (di n)) (nrem:=n) h1 (by rw[hz];exact Ih _);rw[a1];dsimp only;rw[hz] at a2;split
 ·rw[show max m 1=m by omega];have:=wm as tr (n - m) p m (by omega) b;rwa [a2] at this
 ·have a:n=m:=by omega
  rw[a];exact b
end
def Eh(d:ab):Prop:=∃n:Int,d=.int n
def wN(CX:CXT)(P:kq)(w:k0)(K:cc)(mg:bt->Option ap)(base:bb)(N:List bt)(qual:bt)(scope:J5)(f:al)(cd:ap)(cl:List (bt×al))(A:Around)(outer:List Env)(s:av)(H:Hp)(E:XK):Cx where
 prog:=P
 w := w
 K := K
 mg := mg
 base:=base
 A := A.deeper (envX qual scope s.heap.objs.size f cd cl)
 N := N
 s₀ := s
 H₀ := H
 env:=envX qual scope s.heap.objs.size f cd cl
 outer:=outer
 stack:=envX qual scope s.heap.objs.size f cd cl::outer
 ex := []
 calm:=true
 fn := λ_=>false
 pn := []
 xe := λe s'=>j4 (kf P w) (A.deeper (envX qual scope s.heap.objs.size f cd cl)) (leaving (envX qual scope s.heap.objs.size f cd cl) e) (λ_ a=>CX outer H s E e a) (λe' a=>CX outer H s E e' a) s'
structure f7(p x:bt)(sc:J5):Prop where
 kind:sc.kind=.function
 co : sc.isCoroutine=false
 gen:sc.isGenerator=false
 par:sc.names.lookup p=some .local
 fre:sc.names.lookup x=some .free
 nocell:∀y∈sc.names,y.2≠.cell
 one:∀y∈sc.names,y.2=.free->y.1=x
 ne : p≠x
section
variable {CX:CXT}{P:kq}{w:k0}{K:cc}{mg:bt->Option ap}{base:bb}{qual p x:bt}{scope:J5}{f c:al}{A:Around}{outer:List Env}{s:av}{H:Hp}{E:XK}{u u0:ap}{v v0:V}{h₁:bb}
theorem sK(S:f7 p x scope)(hd:A.handled=none)(g:s9 P w K mg base A outer s H)(e:s.heap.IsCell c (some u0))(t:bC v0 u0)(l:H c=none)(r:bC v u)
  (m:h₁.Ns s.heap.objs.size (λy=>[(p,u)].reverse.lookup y)) (hk:∀b o,s.heap.get? b=some o->h₁.get? b=some o) :
  Inv (wN CX P w K mg base [p,x] qual scope f cd [(x,c)] A outer s H E) [] [some v,some v0] H { s with heap:=h₁,toks:=tk }:=by
 have j:∀b:al,b ∉ (wN CX P w K mg base [p,x] qual scope f cd [(x,c)] A outer s H E).ex:=λb z=>absurd (show b∈([]:List al) from z) (by simp);have a:∀y d,Le y [(x,c)]=some d->y=x/\d=c:=λy d h=>by
  have:=hX h;rw[HW] at this;cases this;exact⟨rfl,rfl⟩
 have n:Le x [(x,c)]=some c:=by simp
 refine⟨⟨g.mod,S.kind,rfl,rfl,Ih _,λy z d h1 h2=>?_,λy k=>?_,λy d h=>absurd h (by show ¬false=true;decide),λ_=>hd,Around.frames_deeper g.frames,.inr ⟨rfl,rfl⟩,λb z=>absurd z (j b),g.bs,g.bsz,λb _ _=>j b,λb z=>absurd z (j b),g.funs,g.frf,g.tab⟩,
  rfl,g.bare,Un.kept hk,⟨_,m,λi y z h1 h2 C=>?_⟩,λy d h=>?_,g.hok.fresh (Ih _),λy d h=>?_,λq B=>absurd (show q∈([]:List (al×Obj)) from B) (by simp),g.hok.kept hk,rfl⟩
 ·rw[(a y d h1).1,(a z d h2).1]
 ·have k:scope.names.lookup y=some .cell\/scope.names.lookup y=some .free:=k;rcases k with k|k
  ·exact absurd rfl (S.nocell _ (hX k))
  ·have:=S.one _ (hX k) rfl;simp only at this;rw[this];exact⟨c,n⟩
 ·match i,h1,h2 with
  | 0,h1,h2 =>
   have h1:p=y:=by simpa[wN] using h1
   have h2:v=z:=by simpa using h2
   subst h1 h2;refine⟨u,r,.inl ⟨S.par,?_⟩⟩;simp
  | 1,h1,h2 =>
   have h1:x=y:=by simpa[wN] using h1
   have h2:v0=z:=by simpa using h2
   subst h1 h2;exact⟨u0,t,.inr ⟨.inr S.fre,c,n,e.keeps hk⟩⟩
  | i+2,h1,h2=>simp at h2
 ·obtain⟨_,rfl⟩:=a y d h;exact⟨_,e.keeps hk⟩
 ·obtain⟨_,rfl⟩:=a y d h;exact l
theorem xW(S:f7 p x scope)(B:dc (k+1) A)(h:s9 P w K mg base A outer s H)(ho:s.heap.get? f=some (KO "<lambda>" qual params body scope [(x,c)] pm c' ctv))(i:s.heap.CodeRec (.ref c') qual)
  (C:k3 (Qc "<lambda>" qual params body scope [(x,c)] pm (.ref c') ctv) ⟨[u],[]⟩=pure [(p,u)]) (a:s.heap.IsCell c (some u0)) (D:bC v0 u0) (j:H c=none) (r:bC v u)
  (F:PE (wN CX P w K mg base [p,x] qual scope f (.ref c') [(x,c)] A outer s H E) body t) (G:t [some v,some v0] H Q):Ko (kf P w) A (.call (.ref f) ⟨[u],[]⟩) (CR CX outer P w H s Q E) s:=by have l:s.heap.NoLimit:=h.mod.nolimit.keeps λb o e=>(h.bs b o e).1;refine kla_callFunE B.depth ho rfl S.co S.gen rfl i ?_;rw[C];refine j0 (wpAny_newFunctionEnv S.nocell (λy L=>by rw[HW.mp L];exact S.par) (λh₁ m g=>⟨l.fresh _ g,?_⟩) S.kind);have d:∀b o,s.heap.get? b=some o->h₁.get? b=some o:=λb o e=>g.extBut b o (IF (Ij e)) (Ia _ e);show Ko _ _ (.expr body (envX qual scope s.heap.objs.size f (.ref c') [(x,c)])) _ _;refine kla_codeExpr ?_;have I:=sK (CX:=CX) (E:=E) (qual:=qual) (f:=f) (cd:=.ref c') (tk:=s.toks+[(p,u)].length) S B.hd h a D j r m d;refine q5 (F [] _ _ H _ I G) (λN s' n=>?_) λe s' n=>n;obtain⟨z,H',J,M,q⟩:=n;exact⟨z,H',J.os,J.bare,J.base,J.hok,M,q⟩
end
section
variable {X:Cx}{pins:List (al×Obj)}{σ:St}{H:Hp}{s:av}{params:Ks}{body:ba}{scope:J5}{pos:Pos}{E:ap->av->Prop}{clos:List (bt×al)}
theorem vf(I:Inv X pins σ H s)(L:pL X)(k:J9 scope X.env=pure clos)(l:KD params X.env=([],[]))
  (h : ∀f c' pm ctv s' H',Inv X pins σ H' s'->aD H H'->s'.heap.get? f=some (KO "<lambda>" (X.env.qual ++ "<lambda>") params body scope clos pm c' ctv)->iz X pins H' f->EX H' c' (X.env.qual ++ "<lambda>")->Q (.ref f) s') :
  j4 (kf X.prog X.w) X.A (eval (.Lambda params body scope pos) X.env) Q E s:=by
 obtain⟨c,T,a,C,S⟩:=L;have O:H T=some (.tbl (X.env.qual ++ "<lambda>")):=I.base.tbls T _ (I.ok.tab T _ S);obtain⟨ps,e,g,d⟩:=I.hok T _ O;obtain⟨bm,ob,U,V,y,P,W,z⟩:=I.mod.bmain;have x:=I.mod.glob.keeps I.bk;have B:ke≠T:=λq=>by
  obtain⟨o,es,ep,e',hd,_⟩:=x;rw[q,e] at e';cases e';cases hd
 have D:bm≠T:=λq=>by
  have e':=I.bk _ _ y;rw[q,e] at e';cases e';cases P
 have F:bm≠ke:=λq=>by
  obtain⟨o,es,ep,e',hd,_⟩:=x;have e2:=I.bk _ _ y;rw[q,e'] at e2;cases e2;rw[hd] at z;cases z
 have R:s.heap.BuiltinsAt X.mg T:=⟨bm,ob,U,V,F,D,I.bk _ _ y,P,W,z⟩
 refine kla_eval l ?_;cases hc:K4 pos ps.toList with
 | none =>
  refine kla_makeFunction k I.ok.glob x a (C.keeps I.bk) e g hc B R λc' ctv h' tk hx m Y n G=>?_;obtain⟨c2,oc,vs,t,e2,r,hd,v⟩:=n;cases e2;have J:Cl (upd H c' (.frz oc (.own 0))) h' T (X.env.qual ++ "<lambda>"):=by
   refine⟨_,G,by rw[LK];exact TriplesOk_snoc _ _ _ _ g,λp Z i=>?_⟩;rw[LK] at i;rcases sT _ g i with i|rfl
   ·obtain⟨c2,K,u2,M,t2,e1,e2,e3⟩:=d _ _ i;exact⟨c2,K,u2,M,t2,e1,by rw[am (aB e2 (I.hok.fresh m))];exact e2,e3⟩
   ·exact⟨c',oc,_,vs,t,rfl,aw,hd,v⟩
  obtain⟨j,sm⟩:=I.grow (tk:=tk) O hx m r hd v J;have N:=j.kept (t':=tk) (h':=h'.push (KO "<lambda>" (X.env.qual ++ "<lambda>") params body scope clos ((X.mg "__name__").getD .none) c' ctv)) λb o e=>Ia _ e;exact h _ c' _ ctv _ _ N sm (Im _ rfl) (j.fpOk (Ih _) (j.hok.fresh (Ih _))) ⟨_,_,_,_,aw,hd,v⟩
 | some Z =>
  obtain⟨c',oc,u,vs,t,rfl,e1,hd,v⟩:=d _ _ hc;obtain⟨r,_⟩:=I.hok c' _ e1;refine kla_makeFunctionHit k I.ok.glob x a (C.keeps I.bk) e g hc R λctv h' tk hk hsz=>?_;have j:=I.kept (t':=tk) hk;have N:=j.kept (t':=tk) (h':=h'.push (KO "<lambda>" (X.env.qual ++ "<lambda>") params body scope clos ((X.mg "__name__").getD .none) c' ctv)) λb o e=>Ia _ e;exact h _ c' _ ctv _ _ N (aD.refl _) (Im _ rfl) (j.fpOk (Ih _) (j.hok.fresh (Ih _))) ⟨_,_,_,_,e1,hd,v⟩
end
theorem gz:∀a:List Int,HT.lexLt a a=false
 | []=>HT.lexLt_nil_nil
 | x::a=>by rw[HT.lexLt_cons,ME rfl];exact gz a
theorem zu:∀a b:List Int,HT.lexLt a b=true->HT.lexLt b a=false
 | [],[],h=>by rw[HT.lexLt_nil_nil] at h;cases h
 | [],y::b,_=>HT.lexLt_cons_nil ..
 | x::a,[],h=>by rw[HT.lexLt_cons_nil] at h;cases h
 | x :: a,y::b,h=>by
  rw[HT.lexLt_cons] at h ⊢;by_cases e:x=y
  ·rw[ME e] at h;rw[ME e.symm];exact zu a b h
  ·rw[MF e] at h;rw[MF λz=>e z.symm];have:=of_decide_eq_true h;exact decide_eq_false (by omega)
theorem zt:∀a b c:List Int,HT.lexLt a b=false->HT.lexLt b c=false->HT.lexLt a c=false
 | [],[],c,_,h=>h
 | [],y::b,c,h,_=>by rw[HT.lexLt_nil_cons] at h;cases h
 | x::a,b,[],_,_=>HT.lexLt_cons_nil ..
 | x::a,[],z::c,_,h=>by rw[HT.lexLt_nil_cons] at h;cases h
 | x :: a,y::b,z::c,h1,h2=>by
  rw[HT.lexLt_cons] at h1 h2 ⊢;by_cases e1:x=y
  ·rw[ME e1] at h1;by_cases e2:y=z
   ·rw[ME e2] at h2;rw[ME (e1.trans e2)];exact zt a b c h1 h2
   ·rw[MF e2] at h2;rw[MF λq=>e2 (e1.symm.trans q),e1];exact h2
  ·rw[MF e1] at h1;have h1:=of_decide_eq_false h1;by_cases e2:y=z
   ·rw[MF λq=>e1 (q.trans e2.symm)];exact decide_eq_false (by omega)
   ·rw[MF e2] at h2;have h2:=of_decide_eq_false h2;rw[MF (by omega)];exact decide_eq_false (by omega)
theorem dJ(a b:Int×List Int):cS a b=if a.1=b.1 then HT.lexLt a.2 b.2 else decide (a.1<b.1):=by
 unfold cS;by_cases e:a.1=b.1
 ·rw[ME e,ME e];by_cases e2:a.2=b.2
  ·rw[ME e2,e2,gz]
  ·rw[MF e2]
 ·rw[MF e,MF e]
theorem qQ(a b:Int×List Int)(h:cS a b=true):cS b a=false:=by
 rw[dJ] at h ⊢;by_cases e:a.1=b.1
 ·rw[ME e] at h;rw[ME e.symm];exact zu _ _ h
 ·rw[MF e] at h;rw[MF λz=>e z.symm];have:=of_decide_eq_true h;exact decide_eq_false (by omega)
theorem qP(a b c:Int×List Int)(h1:cS a b=false)(h2:cS b c=false):cS a c=false:=by
 rw[dJ] at h1 h2 ⊢;by_cases e1:a.1=b.1
 ·rw[ME e1] at h1;by_cases e2:b.1=c.1
  ·rw[ME e2] at h2;rw[ME (e1.trans e2)];exact zt _ _ _ h1 h2
  ·rw[MF e2] at h2;rw[MF λq=>e2 (e1.symm.trans q),e1];exact h2
 ·rw[MF e1] at h1;have h1:=of_decide_eq_false h1;by_cases e2:b.1=c.1
  ·rw[MF λq=>e1 (q.trans e2.symm)];exact decide_eq_false (by omega)
  ·rw[MF e2] at h2;have h2:=of_decide_eq_false h2;rw[MF (by omega)];exact decide_eq_false (by omega)
theorem sf(h1:1<=ks.length):∃j,(aE ks).getLast? = some j/\j<ks.length/\∀i,i<ks.length->(ks.getD i (0,[])).1<=(ks.getD j (0,[])).1:=by
 have p:=bh ks;have q:(aE ks).length=ks.length:=by rw[p.length_eq,IC]
 have l:ks.length - 1<(aE ks).length:=by omega
 have f:(aE ks).getLast? = some (aE ks)[ks.length - 1]:=by
  rw[Lp,<-HR l]
  congr 1
  omega
 refine⟨_,f,b9 _ (IB _),λi hi=>?_⟩;have m:i∈aE ks:=p.mem_iff.mpr (Io.mpr hi);obtain⟨a,r,e⟩:=Il m;rw[q] at r;have key:cS (ks.getD (aE ks)[ks.length - 1] (0,[])) (ks.getD i (0,[]))=false:=by
  by_cases h2:ks.length<2
  ·have e1:ks.length=1:=by omega
   have:(aE ks)[ks.length - 1]=i:=by
    rw[<-e]
    congr 1
    omega
   rw[this,dJ,ME rfl,gz]
  ·obtain⟨lt,d⟩:∃lt:Nat->Nat->Bool,lt=λi j=>cS (ks.getD i (0,[])) (ks.getD j (0,[])):=⟨_,rfl⟩
   have ex:aE ks=(ay lt (J7 ks.length)).toList:=by unfold aE;rw[MF h2,d]
   have as:∀a b,lt a b=true->lt b a=false:=λa b h=>by rw[d] at h ⊢;exact qQ _ _ h
   have tr:∀a b c,lt a b=false->lt b c=false->lt a c=false:=λa b c h1 h2=>by rw[d] at h1 h2 ⊢;exact qP _ _ _ h1 h2
   have o:=qc as tr (n:=ks.length) h1;have far:=jw.le as tr o (a:=a) (b:=ks.length - 1) (by omega) (by omega);have g:∀k,(hk:k<ks.length)->gA (ay lt (J7 ks.length)) k=(aE ks)[k]'(by omega):=λk hk=>by
    unfold gA;have hz:k<(ay lt (J7 ks.length)).size:=by
     have:(ay lt (J7 ks.length)).toList.length=ks.length:=by rw[<-ex];exact q
     rw[<-lk,this];exact hk
    rw[fx,Array.getElem?_eq_getElem hz];show _=_;simp only[ex,rg,Array.getElem_toList]
   rw[g _ (by omega),g a r,e,d] at far;exact far
 rw[dJ] at key;by_cases e3:(ks.getD (aE ks)[ks.length - 1] (0,[])).1=(ks.getD i (0,[])).1
 ·omega
 ·rw[MF e3] at key;have:=of_decide_eq_false key;omega
theorem fQ{p:List Nat}{xs:List α}(h:p.Perm (di xs.length)):(pick p xs d).Perm xs:=by
 have h1:=h.map λi=>xs.getD i d;refine h1.trans (List.Perm.of_eq ?_);apply JB
 ·simp
 ·intro i a b;simp at a;simp[a]
theorem GI{CX:CXT}{P:kq}{w:k0}{K:cc}{mg:bt->Option ap}{base:bb}{N N':List bt}{qual:bt}{scope sc:J5}{f:al}{cd:ap}{cl:List (bt×al)}{A:Around}{outer:List Env}{s:av}{H:Hp}{E:XK}{ix:List (Option Nat)}
  (h : bOk N scope N' ix sc=true):bO (wN CX P w K mg base N qual scope f cd cl A outer s H E).N (wN CX P w K mg base N qual scope f cd cl A outer s H E).env N' ix sc:=cU rfl rfl h
section
variable {X:Cx}{K:cc}
theorem m8(hK:X.K=K)(hc:X.calm=true):fg X (.builtin "max") (λxs H Q=>∃(p:al) (ns:List Int),xs=[.ref p]/\SqL K H p (ns.map V.int)/\ns≠[]/\∀m,m∈ns->(∀x∈ns,x<=m)->Q (.int m) H):=by
 subst hK;intro pins s σ H xs us Q I r h;obtain⟨p,ns,rfl,C,y,q⟩:=h;obtain⟨u,rfl,D⟩:=iD r;cases (show u=eE p from D);obtain⟨a,B,E,_⟩:=I.list C;have n:=E.isList;have z:p<s.heap.objs.size:=by obtain⟨_,e,_⟩:=n;exact Ij e
 have hsz:a.toArray.size=ns.length:=by have:=B.length;simp at this ⊢;omega
 have g:0<ns.length:=wi.mpr y;have W:=(Walks.list (prog:=X.prog) (w:=X.w) (A:=X.A.in1) (I.ok.hd hc) s.heap.objs.size p (IF z) a.toArray)
 rw[hsz] at W;have c:∀(i:Nat) (v:ap),a.toArray[i]? = some v->∃t,v=ip (ns.getD i 0) t:=λi v f=>by
  have f:a[i]? = some v:=by simpa using f
  have hi:i<a.length:=(Ib.mp f).1;have k:i<ns.length:=by simp at hsz;omega
  obtain⟨u,e1,⟨t,e2⟩⟩:=B.get (i:=i) (x:=.int ns[i]) (by rw[IH,HR k];rfl);rw[f] at e1;cases e1;refine⟨t,?_⟩;rw[e2,HU,HR k];rfl
 refine call_max_walk (Kc n ?_);refine⟨s.heap.objs.size,_,_,_,_,_,λi j=>decide (ns.getD i 0>ns.getD j 0),rfl,W,⟨⟨_,Im _ rfl,rfl,rfl⟩,n.push _⟩,λb l=>?_,g,CmpOf.ints_gt (λi=>ns.getD i 0) c,λv h' tk f hk=>?_⟩
 ·rcases Ic.mp l with rfl|l
  ·exact Ij (Im _ rfl)
  ·obtain rfl:=HW.mp l;exact Ij (Ia _ (id n).choose_spec.1)
 ·obtain⟨t,rfl⟩:=c _ _ f;obtain⟨G,F⟩:=jZ (λi j=>decide (ns.getD i 0>ns.getD j 0)) (λi=>- ns.getD i 0) (λi j=>by rw[decide_eq_decide];omega) (ns.length - 1);have d:Kp (λi j=>decide (ns.getD i 0>ns.getD j 0)) (ns.length - 1)<ns.length:=by omega
  refine⟨.int _,H,I.kept λb o e=>hk b o (λl=>absurd (Ij e) ((HW.mp l)▸Ji _)) (Ia _ e),⟨_,rfl⟩,q _ ?_ λx hx=>?_⟩
  ·rw[HU,HR d];exact IB d
  ·obtain⟨j,hj,rfl⟩:=Il hx;have:=F j (by omega);rw[show ns.getD j 0=ns[j] by rw[HU,HR hj];rfl] at this;omega
def Bs:GB:=λds R=>∃es ns,ds=[.list es]/\bS es=some ns/\ns≠[]/\∀m,m∈ns->(∀x∈ns,x<=m)->R (.int m)
theorem D1:jf K (λxs H Q=>∃(p:al) (ns:List Int),xs=[.ref p]/\SqL K H p (ns.map V.int)/\ns≠[]/\∀m,m∈ns->(∀x∈ns,x<=m)->Q (.int m) H) Bs:=by
 rintro N H xs ds R Q w ⟨es,ns,rfl,e1,b,c⟩ d;cases w with
 | cons e f =>
  cases f;obtain⟨a,vs,rfl,s,q⟩:=e.list;rw[cT e1] at q;rw[q.ints] at s;exact⟨a,ns,rfl,s,b,λm h1 h2=>d _ _ (c m h1 h2) (.int _)⟩
end
section
theorem qX{us:List ap}{ns:List Int}(h2:2<=us.length)(k:∀i (h:i<us.length),∃t,us[i]=ip (ns.getD i 0) t)(c:ns.length=us.length):j5 prog w A us (ns.map λn=>(n,[])) s:=by
 refine kas_kind (T:=.type "int") h2 (λv a=>?_) (by decide) (by rfl) ⟨rfl,λi j C hi hj hc=>?_⟩
 ·obtain⟨i,hi,rfl⟩:=Il a;obtain⟨t,e⟩:=k i hi;rw[e];exact .now
 ·have e1:us.getD i ec=us[i]:=by simp[hi]
  have e2:us.getD j ec=us[j]:=by simp[hj]
  show j4 (kf prog w) A (keyLt' _ (us.getD i ec) (us.getD j ec)) C (λ_ _=>False) s;rw[e1,e2];obtain⟨t,ex⟩:=k i hi;obtain⟨u,b⟩:=k j hj;rw[ex,b];have g:∀m,m<us.length->(ns.map λn=>(n,([]:List Int))).getD m (0,[])=(ns.getD m 0,[]):=λm d=>by
   rw[HU,IH,HU,HR (by omega)];rfl
  rw[g i hi,g j hj,dJ] at hc;refine kat_lt_int ?_;have e:(if (ns.getD i 0,([]:List Int)).1=(ns.getD j 0,([]:List Int)).1 then HT.lexLt (ns.getD i 0,([]:List Int)).2 (ns.getD j 0,([]:List Int)).2 else decide ((ns.getD i 0,([]:List Int)).1<(ns.getD j 0,([]:List Int)).1))=decide (ns.getD i 0<ns.getD j 0):=by
   by_cases z:ns.getD i 0=ns.getD j 0
   ·rw[ME z,gz];exact(decide_eq_false (by omega)).symm
   ·rw[MF z]
  rw[e] at hc;exact hc
end
theorem lK{ks:List (Int×List Int)}(e:a<=b)(f:b<ks.length):cS (ks.getD ((aE ks).getD b 0) (0,[])) (ks.getD ((aE ks).getD a 0) (0,[]))=false:=by
 have l:(aE ks).length=ks.length:=by rw[(bh ks).length_eq,IC]
 by_cases h2:ks.length<2
 ·rw[show a=b by omega,dJ,ME rfl,gz]
 ·obtain⟨lt,d⟩:∃lt:Nat->Nat->Bool,lt=λi j=>cS (ks.getD i (0,[])) (ks.getD j (0,[])):=⟨_,rfl⟩
  have ex:aE ks=(ay lt (J7 ks.length)).toList:=by unfold aE;rw[MF h2,d]
  have as:∀a b,lt a b=true->lt b a=false:=λa b h=>by rw[d] at h ⊢;exact qQ _ _ h
  have tr:∀a b c,lt a b=false->lt b c=false->lt a c=false:=λa b c h1 h2=>by rw[d] at h1 h2 ⊢;exact qP _ _ _ h1 h2
  have far:=jw.le as tr (qc as tr (n:=ks.length) (by omega)) e f;have g:∀k,gA (ay lt (J7 ks.length)) k=(aE ks).getD k 0:=λk=>by
   unfold gA;rw[ex,fx,HU,tf]
  rw[g,g,d] at far;exact far
def de(ns:List Int):List Int:=pick (aE (ns.map λn=>(n,[]))) ns 0
theorem gg(ns:List Int):(de ns).Perm ns:=fQ (by have:=bh (ns.map λn=>(n,([]:List Int)));rwa [HS] at this)
theorem tO(ns:List Int):(de ns).Pairwise (·<=·):=by
 have k:(aE (ns.map λn=>(n,([]:List Int)))).length=ns.length:=by rw[(bh _).length_eq,IC,HS]
 rw[Jm];intro i j hi hj f;have hn:(de ns).length=ns.length:=(gg ns).length_eq;have h:=lK (ks:=ns.map λn=>(n,([]:List Int))) (a:=i) (b:=j) (by omega) (by rw[HS];omega);have g:∀m,(d:m<(de ns).length)->((ns.map λn=>(n,([]:List Int))).getD ((aE (ns.map λn=>(n,([]:List Int)))).getD m 0) (0,[]))=((de ns)[m],[]):=λm d=>by
  have q:(aE (ns.map λn=>(n,([]:List Int)))).getD m 0<ns.length:=by have:=b9 ((aE (ns.map λn=>(n,([]:List Int)))).getD m 0) (by rw[HU,HR (by omega)];exact IB _);rwa [HS] at this
  have z:(de ns)[m]=ns[(aE (ns.map λn=>(n,([]:List Int)))).getD m 0]:=by
   have c:m<(aE (ns.map λn=>(n,([]:List Int)))).length:=by omega
   have w:(de ns)[m]? = some (ns.getD ((aE (ns.map λn=>(n,([]:List Int)))).getD m 0) 0):=by unfold de pick;rw[IH,HU (l:=aE _),HR c];rfl
   rw[HR d,HU (l:=ns),HR q] at w;exact du w
  rw[HU,IH,HR q,z];rfl
 rw[g i hi,g j hj,dJ] at h;by_cases e:(de ns)[j]=(de ns)[i]
 ·omega
 ·rw[MF e] at h;have:=of_decide_eq_false h;simp only at this;omega
section
variable {X:Cx}{K:cc}
theorem v9(hK:X.K=K):fg X (.builtin "sorted") (λxs H Q=>∃(p:al) (ns:List Int),xs=[.ref p]/\SqL K H p (ns.map V.int)/\ns.length<64 /\
  ∀q,H q=none->Q (.ref q) (upd H q (.lst ((de ns).map V.int)))):=by
 subst hK;intro pins s σ H xs us Q I r h;obtain⟨p,ns,rfl,m,v,q⟩:=h;obtain⟨u,rfl,w⟩:=iD r;cases (show u=eE p from w);obtain⟨a,g,y,_⟩:=I.list m;have b:=g.length;rw[HS] at b;have d:∀i (h:i<a.length),∃t,a[i]=ip (ns.getD i 0) t:=λi hi=>by
  have e:i<ns.length:=by omega
  obtain⟨u,e1,⟨t,e2⟩⟩:=g.get (i:=i) (x:=.int ns[i]) (by rw[IH,HR e];rfl);rw[HR hi] at e1;cases e1;refine⟨t,?_⟩;rw[e2,HU,HR e];rfl
 refine nL (vs:=a) (ks:=ns.map λn=>(n,[])) y.isList (by omega) (by rw[HS];omega) (λh2 h' k=>qX h2 d (by omega)) λD h' c k l j=>?_;have f:∀i∈aE (ns.map λn=>(n,([]:List Int))),i<ns.length:=λi hi=>by have:=b9 i hi;rwa [HS] at this
 have ep:pick (aE (ns.map λn=>(n,([]:List Int)))) (ns.map V.int) .non=(de ns).map V.int:=by unfold de pick;rw[IK];refine JE λi hi=>?_;have:=f i hi;rw[HU,IH,HR this];show _=V.int (ns.getD i 0);rw[HU,HR this];rfl
 refine⟨.ref D,upd H D (.lst ((de ns).map V.int)),I.laid (t':=s.toks) (o:=.lst ((de ns).map V.int)) k l ⟨?_,_,c,ep▸iB g (λi hi=>by rw[HS];exact f i hi),j⟩,rfl,q _ (I.hok.fresh l)⟩;rw[HS,(gg ns).length_eq,qT];omega
def BN(t:DA):DE:=λenv R=>t env λss a=>∃s ns,ss=[s]/\aZ a s=some (.list (li ns))/\ns.length<64/\R (.ow (li (de ns))) a
variable {e:ba}{p pos:Pos}{tl:DA}
theorem y8(hK:X.K=K)(g:Gl X "sorted")(i:X.mg "sorted" = none)(j:PA X [e] (upA K tl))(k:j1 [e] X.env=[(false,eval e X.env)]:=by rfl):PE X (.Call (.Name "sorted" p) [e] [] pos) (up K (BN tl)) :=
 (kj (v9 (K:=K) hK) g i boot_sorted j (by decide) (by decide) k rfl).imp λσ H Q h=>by
 obtain⟨M,P,H0,σ0,env,ts,R,c,l,m⟩:=h;refine⟨M,P,H0,σ0,env,ts,_,c,l,λss f vs H1 h1 n b=>?_⟩;obtain⟨s,ns,rfl,e1,d,o⟩:=h1;obtain⟨v,rfl⟩:=sF n;obtain⟨a,us,rfl,sq,q⟩:=(b.view (v:=v) (by simp) e1).list;rw[q.ints] at sq;exact⟨a,ns,rfl,sq,d,λt r=>m _ _ _ _ o (b.resOw r (kW _))⟩
end
def kM:Sl->Sl
 | .fr d=>.fr d
 | _=>.un
theorem o7(h:kM s=.fr d):s=.fr d:=by cases s <;> first|exact h|cases h
theorem kL:a ∉ cx (x,kM s):=λz=>by
 rcases fR z with⟨_,⟨ds,e⟩|⟨ds,e⟩⟩|⟨S,d,e,_⟩ <;> cases s <;> cases e
def vC(i:Nat)(t:DT):DT:=λenv R=>∃ds,env[i]? = some (.ow ds)/\t ((env.map kM).set i (.fr (.list ds))) λb _=>R b env
theorem Ay(i:Nat){X:Cx}{K:cc}{e:ba}{t:DT}(h:PT X e (upT K t)):PT X e (upT K (vC i t)):=h.imp λσ H Q h=>by
 obtain⟨M,P,H0,σ0,env,ts,R,f,⟨ds,e,p⟩,q⟩:=h;have g:=f.frz e;have r:i<env.length:=(Ib.mp e).1;have k:∀(x:Option V) (s:Sl),(x,s)∈ax σ ((env.map kM).set i (.fr (.list ds))) []->(∃s',s=kM s')/\∀d,s=.fr d->(x,Sl.fr d)∈ax σ (env.set i (.fr (.list ds))) ts:=λx s m=>by
  have m:(x,s)∈σ.zip ((env.map kM).set i (.fr (.list ds))):=by simpa[ax] using m
  obtain⟨j,hj,n⟩:=Il m;rw[IR,II,HS] at hj;rw[IU] at n;obtain⟨e1,e2⟩:=i4 n;rw[Jj] at e2;by_cases c:i=j
  ·rw[ME c] at e2;refine⟨⟨.fr (.list ds),e2.symm⟩,λd hd=>HV _ ?_⟩;rw[Jq];refine⟨j,by rw[IR,II];omega,?_⟩;rw[IU,Jj,ME c,e1,e2,hd]
  ·rw[MF c,IZ] at e2;refine⟨⟨_,e2.symm⟩,λd hd=>HV _ ?_⟩;rw[Jq];refine⟨j,by rw[IR,II];omega,?_⟩;rw[IU,Jj,MF c,e1,o7 (e2.trans hd)]
 have no:∀a,a ∉ oas (ax σ ((env.map kM).set i (.fr (.list ds))) []):=λa z=>by
  obtain⟨⟨x,s⟩,u,w⟩:=aV.mp z;obtain⟨⟨s',rfl⟩,_⟩:=k x s u;exact kL w
 refine⟨N0,N0,H,σ,_,[],_,⟨⟨aN.refl,λa z=>z,λa z=>z.elim,λa z=>z.elim,λx d m=>?_,λx ds m=>?_,λx ds m=>?_,λx S d m=>?_,?_⟩,?_,(λv j m=>by cases m),λj ds' m=>?_⟩,p,λb o H1 h1 l=>q _ _ _ h1 (f.same l.e.keep.none)⟩
 ·obtain⟨v,e1,dn⟩:=g.e.fr x d ((k x _ m).2 d rfl);exact⟨v,e1,dn.to λb _ _ z=>z.elim (λz=>z.elim) λz=>absurd z (no b)⟩
 ·obtain⟨⟨s',e1⟩,_⟩:=k _ _ m;cases s' <;> cases e1
 ·obtain⟨⟨s',e1⟩,_⟩:=k _ _ m;cases s' <;> cases e1
 ·obtain⟨⟨s',e1⟩,_⟩:=k _ _ m;cases s' <;> cases e1
 ·rw[Jd.mpr no];exact IS
 ·rw[II,HS];exact f.len
 ·have m2:=IG m;rcases JP m2 with h|h
  ·obtain⟨s,_,e1⟩:=Ig.mp h;cases s <;> cases e1
  ·cases h
section
theorem vk(a b:List Int):cS (0,a) (0,b)=HT.lexLt a b:=by
 unfold cS;rw[ME rfl];split
 ·rename_i h;simp only at h;rw[h,gz]
 ·rfl
def HM(h:bb)(v:ap)(ns:List Int):Prop:=∃(l:al) (a:Array ap),v=.ref l/\h.IsList l a/\At a ns
theorem oG(m:s.heap.IsList l items)(o:s.heap.IsList b a)(e:At items ns)(f:At a ms)
  (p:A.units<J4) (h:Q (HT.lexLt ns ms) s):j4 (kf prog w) A (oneLt' true (.ref l) (.ref b)) Q E s:=by obtain⟨⟨cls,dd,data,sl⟩,ho,hc,n,hd⟩:=id m;obtain⟨⟨k,g,data2,i⟩,j,c,q,d⟩:=id o;simp only at hc hd c d;subst hc hd c d;rw[oneLt'_eq];simp only[if_true];refine jj (wpAny_cRoomFor p ?_);refine jj (wpAny_callSpecialIfBound?_slot ⟨_,ho,rfl⟩ F.slot_list_lt (Qd F.slot_list_lt ⟨_,ho,rfl⟩ F.entry_list_lt (F.args_list_lt_2 _ _) (qI l b items a n q dd g sl i ns ms e f) ⟨ho,j,?_⟩));exact zb h
theorem xi{us:List ap}{ks:List (Int×List Int)}(d:A.units<J4)(h2:2<=us.length)(k:∀i (h:i<us.length),∃ns,ks.getD i (0,[])=(0,ns)/\HM s.heap us[i] ns):j5 prog w A us ks s:=by
 refine kas_kind (T:=.type "list") h2 (λv f=>?_) (by decide) (by rfl) ⟨rfl,λi j C hi hj hc=>?_⟩
 ·obtain⟨i,hi,rfl⟩:=Il f;obtain⟨ns,_,l,a,e,⟨o,ho,hc,_⟩,_⟩:=k i hi;rw[e];exact hc▸(Looks.ld ho).andThen .now
 ·have e1:us.getD i ec=us[i]:=by simp[hi]
  have e2:us.getD j ec=us[j]:=by simp[hj]
  show j4 (kf prog w) A (keyLt' _ (us.getD i ec) (us.getD j ec)) C (λ_ _=>False) s;rw[e1,e2];obtain⟨ns,g,l,a,m,i1,i2⟩:=k i hi;obtain⟨ms,n,b,c,p,q,j2⟩:=k j hj;rw[g,n,vk] at hc;rw[m,p,keyLt'_oneType];exact oG i1 q i2 j2 d hc
end
def Cm(kds:List ab):Prop:=(∀d∈kds,Eg d)\/(∀d∈kds,Eh d)\/∀d∈kds,Ef d
section
variable {K:cc}
theorem yt(q:DNs K N H vs ds)(r:bf vs us)(i:Nat)(h:i<us.length):∃v,bC v us[i]/\DN K N H v (ds.getD i .none)/\ds.getD i .none∈ds:=by
 have d:=q.len;have a:=r.length;obtain⟨u,e,b⟩:=r.get (i:=i) (x:=vs[i]) (by simp);rw[HR h] at e;cases e;have c:(vs[i],ds[i])∈vs.zip ds:=by rw[t7];exact⟨i,by rw[JY];exact⟨HR _,HR _⟩⟩
 have e2:ds.getD i .none=ds[i]:=by simp[HU,show i<ds.length by omega]
 rw[e2];exact⟨_,b,pf q _ c,IB _⟩
end
theorem mK{α β:Type}(f:α->β)(l:List α)(i:Nat)(d:α):(l.map f).getD i (f d)=f (l.getD i d):=by simp only[HU,IH];cases l[i]? <;> rfl
theorem mL(kds:List ab)(i:Nat):(kds.map dg).getD i (0,[])=dg (kds.getD i .none):=mK dg kds i .none
section
variable {X:Cx}{pins:List (al×Obj)}{σ:St}{H:Hp}{s:av}{A:Around}
theorem xZ(hk:Cm kds)(h:A.units+64<J4)(I:Inv X pins σ H s)(dn:DNs X.K N0 H kv kds)(c:bf kv ks)(h2:2<=ks.length):j5 X.prog X.w A ks (kds.map dg) s:=by
 have g:kds.length=ks.length:=by rw[<-dn.len,c.length]
 rcases hk with hk|hk|hk
 ·refine Bl h h2 (by rw[HS];exact g) λi hi=>?_;obtain⟨v,a,dx,b⟩:=yt dn c i hi;rw[mL];exact Bm I dx.dv a (hk _ b)
 ·have k:kds.map dg=(kds.map λd=>(dg d).1).map λn=>(n,[]):=by
   rw[IK];refine JE λd hd=>?_;obtain⟨n,rfl⟩:=hk d hd;rfl
  rw[k];refine qX h2 (λi hi=>?_) (by rw[HS];exact g);obtain⟨v,a,dx,b⟩:=yt dn c i hi;have m:(kds.map λd=>(dg d).1).getD i 0=(dg (kds.getD i .none)).1:=mK (λd=>(dg d).1) kds i .none;rw[m];obtain⟨n,e⟩:=hk _ b;rw[e] at dx ⊢;rw[dx.dv.intI] at a;exact a
 ·refine xi (by omega) h2 λi hi=>?_;obtain⟨v,a,dx,b⟩:=yt dn c i hi;rw[mL];obtain⟨ns,e⟩:=hk _ b;rw[e] at dx ⊢;obtain⟨l,ys,rfl,sq,q⟩:=dx.dv.lstI;obtain⟨f,o,p,_⟩:=I.list sq;obtain⟨h1,h2⟩:=Cf q o;refine⟨ns,?_,l,f.toArray,a,p.isList,⟨by simpa using h1,λj hj=>h2 j (by simpa using hj)⟩⟩;show((0:Int),(bS (ns.map eC)).getD [])=_;rw[bo];rfl
end
section
variable {X:Cx}{pins:List (al×Obj)}{σ:St}{H0:Hp}{f:ap}{vs:List ap}{A:Around}{E:ap->av->Prop}{a kS:al}
structure Ac(X:Cx)(pins:List (al×Obj))(σ:St)(H0:Hp)(a kS:al)(e1:Nat)(kds:List ab)(ks:List ap)(s:av):Prop where
 ex : ∃H kv c,Inv X pins σ H s/\aD H0 H/\bf kv ks/\DNs X.K N0 H kv (kds.take ks.length)/\iz X pins H a/\iz X pins H kS/\s.heap.get? kS=some (kw "list" ks.toArray c)
 la : s.heap.get? a=some (kw "list" #[] e1)
theorem rZ(ne:a≠kS)(hn:n<64)
  (L:∀x ks e (s:av) (C:ap->av->Prop),mf ks<64->j4 (kf X.prog X.w) A (call f [x]) (λk s1=>s1.heap.get? kS=some (kw "list" (lA ks) e)/\C k s1) (λ_ _=>False) s ->
   j4 (kf X.prog X.w) A (body x ⟨⟩) (λr s'=>r=.yield ⟨⟩/\∃k s1 c,C k s1/\s'={ s1 with heap:=s1.heap.update kS (dV (·.push k)) }/\s'.heap.get? kS=some (kw "list" (lA (ks++[k])) c)) E s)
  (M:kds.length=vs.length) (call:∀i (h:i<vs.length),∀H s,Inv X pins σ H s->aD H0 H->j4 (kf X.prog X.w) A (call f [vs[i]]) (gZ X pins σ H s (kds.getD i .none)) (λ_ _=>False) s) :
  ∀(r ks:List ap) (s:av),r=vs.drop ks.length->ks.length+r.length=n->Ac X pins σ H0 a kS e1 kds ks s ->
   j4 (kf X.prog X.w) A (forIn r PUnit.unit body) (λ_ s'=>∃ks,ks.length=n/\Ac X pins σ H0 a kS e1 kds ks s') E s:=by
 intro r
 induction r with
 | nil =>
  intro ks s _ u h;rw[JW];exact j0 ⟨ks,by simpa using u,h⟩
 | cons x r N =>
  intro ks s y u h;rw[IL] at u;rw[J0];obtain⟨⟨H,kv,c,I,F,O,dn,fa,fk,G⟩,la⟩:=h;have j:ks.length<vs.length:=by have:=congrArg mf y;rw[JF,IL] at this;omega
  have hx:vs[ks.length]=x/\r=vs.drop (ks.length+1):=by rw[Jl j] at y;injection y with h1 h2;exact⟨h1.symm,h2⟩
  have hc:=call ks.length j H s I F;rw[hx.1] at hc;refine jj (q5 (L x ks c s (λk s1=>gZ X pins σ H s (kds.getD ks.length .none) k s1) (by omega) (q5 hc (λk s1 l=>?_) λ_ _ z=>z)) (λq s' P=>?_) λ_ _ z=>z)
  ·obtain⟨H',v,J,d,m,p,kp⟩:=id l;exact⟨(kp kS _ fk G).1,l⟩
  ·obtain⟨rfl,k,s1,c2,⟨H',v,J,d,m,p,kp⟩,es,B⟩:=P;subst es;have t:=vv fk (kp kS _ fk G).2;have D:=vv fa (kp a _ fa la).2;have K:=eo s1.heap kS (dV (·.push k));have Q:=J.turnedN (t':=s1.toks) (fp:=[kS]) (h':=s1.heap.update kS (dV (·.push k))) (λb g=>by rw[HW.mp g];exact t) λb o g e=>(K.2 b (λz=>g (by simp[z]))).trans e;show j4 (kf X.prog X.w) A (forIn r PUnit.unit body) _ E _;refine N (ks++[k]) _ (by rw[Ix,IX];exact hx.2) (by rw[Ix,IX];omega) ⟨⟨H',kv++[v],c2,Q,F.trans d,tz O m,?_,D,t,B⟩,?_⟩
   ·have e:kds.take (ks++[k]).length=kds.take ks.length++[kds.getD ks.length .none]:=by
     rw[Ix,IX,JC,HR (by omega),HU,HR (by omega)];rfl
    rw[e];exact(dn.keep (aN.same d)).app (.cons p .nil)
   ·exact(K.2 a ne).trans (kp a _ fa la).1
theorem r9(I:Inv X pins σ H0 s)(fa:iz X pins H0 a)(ho:s.heap.get? a=some (kw "list" vs.toArray n))(t:vs.length<64)(hu:A.units+64<J4)
  (m:kds.length=vs.length) (K:Cm kds) (call:∀i (h:i<vs.length),∀H s',Inv X pins σ H s'->aD H0 H->j4 (kf X.prog X.w) A (call f [vs[i]]) (gZ X pins σ H s' (kds.getD i .none)) (λ_ _=>False) s')
  (h : ∀H s' c,Inv X pins σ H s'->aD H0 H->iz X pins H a->s'.heap.get? a=some (kw "list" (pick (aE (kds.map dg)) vs ec).toArray c)->P (.done (.ret .none)) s') :
  j4 (kf X.prog X.w) A (ksk_tree a f false) P E s:=by
 have ha:a<s.heap.objs.size:=Ij ho;have s1:=eo s.heap a (dV λ_=>(#[]:Array ap));obtain⟨e1,u⟩:∃e1,(s.heap.update a (dV λ_=>(#[]:Array ap))).get? a=some (kw "list" #[] e1):=⟨_,Ky ho λ_=>#[]⟩
 have keep:∀b o,b≠a->s.heap.get? b=some o->(((s.heap.update a (dV λ_=>(#[]:Array ap))).push (kw "tuple" vs.toArray 0)).push (kw "list" #[] 0)).get? b=some o:=λb o d e =>
  Ia _ (Ia _ ((s1.2 b d).trans e))
 have L:(((s.heap.update a (dV λ_=>(#[]:Array ap))).push (kw "tuple" vs.toArray 0)).push (kw "list" #[] 0)).get? a=some (kw "list" #[] e1):=Ia _ (Ia _ u);have hsz:((s.heap.update a (dV λ_=>(#[]:Array ap))).push (kw "tuple" vs.toArray 0)).objs.size=s.heap.objs.size+1:=by rw[size_push',La]
 unfold ksk_tree;refine jj (QM ho rfl ?_);refine jj (Ki ho rfl ?_ (by rw[Ii,qT];omega) (Iz _));refine jj (K1 u rfl ?_);refine jj (Qp ?_ (by show vs.length<=_;rw[qT];omega));refine jj (K7 ?_ (Iz _));refine ze ?_;obtain⟨kS,g⟩:∃kS,kS=((s.heap.update a (dV λ_=>(#[]:Array ap))).push (kw "tuple" vs.toArray 0)).objs.size:=⟨_,rfl⟩
 have gk:(((s.heap.update a (dV λ_=>(#[]:Array ap))).push (kw "tuple" vs.toArray 0)).push (kw "list" #[] 0)).get? kS=some (kw "list" (lA []) 0):=by rw[g];exact Im _ rfl
 have v:a≠kS:=by rw[g,hsz];exact IF (JN ha)
 have fk:iz X pins H0 kS:=I.fpOk (by rw[g,hsz];omega) (I.hok.fresh (by rw[g,hsz];omega));have I1:=I.turnedN (t':=s.toks) (fp:=[a]) (h':=((s.heap.update a (dV λ_=>(#[]:Array ap))).push (kw "tuple" vs.toArray 0)).push (kw "list" #[] 0)) (λb d=>by rw[HW.mp d];exact fa) λb o d e=>keep b o (λz=>d (by simp[z])) e;rw[<-g];show j4 (kf X.prog X.w) A (ksk_rest a f false vs.toArray e1 (.ref kS)) P E { s with heap:=((s.heap.update a (dV λ_=>(#[]:Array ap))).push (kw "tuple" vs.toArray 0)).push (kw "list" #[] 0) };unfold ksk_rest;refine jj (Kk ?_)
 first
  | rw[List.forIn_toArray]
  | (rw[<-nl];simp only[List.toList_toArray])
  | rw[<-nl]
 refine jj (q5 (rZ (f:=f) (A:=A) (e1:=e1) (n:=vs.length) (kds:=kds) v t (λx ks e s' C hz hx=>?_) m call vs [] _ rfl (by simp) ⟨⟨H0,[],0,I1,aD.refl _,.nil,.nil,fa,fk,gk⟩,L⟩) (λ_ s' hd=>?_) λ_ _ x=>x)
 ·refine jj (Qy (q5 hx (λk y hk=>?_) λ_ _ hF=>hF.elim));obtain⟨V,hC⟩:=hk;have ea:(lA ks).push k=lA (ks++[k]):=by simp
  obtain⟨c2,q⟩:∃c2,(y.heap.update kS (dV (·.push k))).get? kS=some (kw "list" (lA (ks++[k])) c2):=⟨_,by rw[<-ea];exact Ky V (·.push k)⟩
  try dsimp only
  refine jj (Ki V rfl ?_ (by rw[Ii,qT];omega) (Ie (LC (Array.size_push ..)) (by rw[Ii,qT];omega)));exact j0 ⟨rfl,k,y,c2,hC,rfl,q⟩
 ·obtain⟨ks,W,⟨⟨H,kv,c,Y,sm,rv,dn,B,M,D⟩,la⟩⟩:=hd;rw[Jg (by omega)] at dn;refine jj (QM D rfl ?_);have fin:∀(ws:List ap) (st:SortSt),ws.length=vs.length->ws=pick (aE (kds.map dg)) vs ec->(arrOf st).map (·.2)=ws.toArray->failedOf st=none->j4 (kf X.prog X.w) A (ksk_tail a false e1 (.ref kS) st) P E s':=λws st a0 N F O=>by
   have t1:=eo s'.heap kS (dV λ_=>(#[]:Array ap));have r:(s'.heap.update kS (dV λ_=>(#[]:Array ap))).get? a=some (kw "list" #[] e1):=(t1.2 a v).trans la;have t2:=eo (s'.heap.update kS (dV λ_=>(#[]:Array ap))) a (dV λ_=>ws.toArray);obtain⟨c2,q⟩:∃c2,((s'.heap.update kS (dV λ_=>(#[]:Array ap))).update a (dV λ_=>ws.toArray)).get? a=some (kw "list" ws.toArray c2):=⟨_,Ky r λ_=>ws.toArray⟩
   unfold ksk_tail
   try dsimp only
   rw[F];refine jj (Ki D rfl ?_ (by rw[Ii,qT];omega) (Iz _));refine jj (Km ?_);refine jj (K1 r rfl ?_);simp only[IQ,if_false];refine jj (Ki r rfl ?_ (Iz _) (by rw[Ii,qT];omega));rw[O];simp only[bne_self_eq_false,IQ,if_false];refine j0 (h H _ c2 (Y.turnedN (t':=s'.toks) (fp:=[kS,a]) (λb d=>?_) λb o d e=>?_) sm B (by rw[<-N];exact q))
   ·rcases Ic.mp d with rfl|d
    ·exact M
    ·rw[HW.mp d];exact B
   ·simp only[Ic,IJ,or_false,not_or] at d;exact(t2.2 b d.2).trans ((t1.2 b d.1).trans e)
  unfold ksk_end
  try dsimp only
  simp only[IQ,if_false];by_cases h2:2<=vs.length
  ·have hn2:¬vs.toArray.size<2:=by rw[Ii];omega
   rw[MF hn2,MF hn2];refine jj (q5 (xZ K hu Y dn rv (by omega)) (λκ R S=>?_) λ_ _ x=>x.elim);obtain⟨rfl,J⟩:=S;refine jj (q5 (kat_run (κ:=κ) (A:=A) (prog:=X.prog) (w:=X.w) (ks:=ks) (vs:=vs) (G:=λp s2=>p=ay (λi j=>cS ((kds.map dg).getD i (0,[])) ((kds.map dg).getD j (0,[]))) (J7 vs.length)/\s2=R)
    (Q := λl s2=>∃p:Array Nat,p=ay (λi j=>cS ((kds.map dg).getD i (0,[])) ((kds.map dg).getD j (0,[]))) (J7 vs.length)/\p.size=vs.length/\arrOf l=p.map (kas_item (ks.toArray.zip vs.toArray))/\failedOf l=none/\s2=R)
    W h2 t (λp' l s2 a1 a2 a3 Z=>⟨p',Z.1,a1,a2,a3,Z.2⟩) (oY (λs2=>s2=R) (λi j C s2 hi hj e hc=>by subst e;exact J i j C (by omega) (by omega) (hc _ rfl)) (kb (n:=vs.length) (by omega)) (λs2 e=>⟨rfl,e⟩) rfl)) ?_ λ_ _ e=>e)
   rintro⟨⟨⟩,l⟩ s2 ⟨p,T,N,U,O,rfl⟩;dsimp only;refine fin (p.toList.map λi=>vs.getD i ec) l (by rw[HS,lk,N]) ?_ (kat_snds W U) O;unfold aE pick;rw[MF (by rw[HS];omega),T,HS,m]
  ·have hn2:vs.toArray.size<2:=by rw[Ii];omega
   rw[ME hn2,ME hn2];refine jj (j0 ?_);refine jj (j0 ?_);dsimp only;refine fin vs _ rfl ?_ ?_ rfl
   ·unfold aE pick;rw[ME (by rw[HS];omega),HS,m];apply JB
    ·simp
    ·intro i h1 h2;simp at h2;simp[h2]
   show(ks.toArray.zip vs.toArray).map (·.2)=_;apply Mc.mp;simp;exact Mj (by omega)
end
section
variable {X:Cx}{pins:List (al×Obj)}{σ:St}{H0:Hp}{f:al}{vs:List ap}{A:Around}{E:ap->av->Prop}{s:av}
theorem lJ(I:Inv X pins σ H0 s)(n:s.heap.IsList l vs.toArray)(e:vs.length<64)(p:A.in1.in1.units+64<J4)
  (j:kds.length=vs.length) (k:Cm kds) (call:∀i (h:i<vs.length),∀H s',Inv X pins σ H s'->aD H0 H->j4 (kf X.prog X.w) A.in1.in1 (call (.ref f) [vs[i]]) (gZ X pins σ H s' (kds.getD i .none)) (λ_ _=>False) s')
  (h : ∀H s' D c,Inv X pins σ H s'->aD H0 H->iz X pins H D->s'.heap.get? D=some (kw "list" (pick (aE (kds.map dg)) vs ec).toArray c)->Q (.ref D) s') :
  j4 (kf X.prog X.w) A (wx (.builtin "sorted") [.ref l] [(lc "key",.ref f)]) Q E s:=by
 refine call_function_entry_kw kind_sorted plain_sorted entry_sorted (ksk_s1 _ _) ?_;unfold Builtin.«sorted»;refine jj (m:=checkCount "sorted" 1 1 _) (j0 ?_);refine jj (collect_list n ?_ (by rw[qT];omega));refine jj (K7 ?_ (by rw[qT];omega));have hsz:((s.heap.push (kw "list" #[] 0)).update s.heap.objs.size (dV (·++vs.toArray))).objs.size=s.heap.objs.size+1:=by rw[La,size_push']
 have d:(((s.heap.push (kw "list" #[] 0)).update s.heap.objs.size (dV (·++vs.toArray))).push (kw "list" vs.toArray 0)).get? (s.heap.objs.size+1)=some (kw "list" vs.toArray 0):=by rw[<-hsz];exact Im _ rfl
 have keep:∀b o,s.heap.get? b=some o->(((s.heap.push (kw "list" #[] 0)).update s.heap.objs.size (dV (·++vs.toArray))).push (kw "list" vs.toArray 0)).get? b=some o:=λb o q=>by
  have a:b<s.heap.objs.size:=Ij q;rw[p0 _ _ _ (by rw[hsz];exact IF (JN a)),LU _ _ _ _ (IF a),p0 _ _ _ (IF a)];exact q
 show j4 _ _ _ _ _ { s with heap:=((s.heap.push (kw "list" #[] 0)).update s.heap.objs.size (dV (·++vs.toArray))).push (kw "list" vs.toArray 0) };rw[hsz];refine jj (ze (wpAny_call_entry_kw slot_list_sort ⟨_,d,rfl⟩ entry_list_sort ?body (ksk_l1 _ _)))
 case body =>
  show j4 (kf X.prog X.w) A.in1.in1 (Builtin.«list.sort» ⟨[.ref (s.heap.objs.size+1)],[(lc "key",.ref f)]⟩) _ _ _;rw[ksk_t1];refine r9 (kds:=kds) (I.kept (t':=s.toks) keep) (I.fpOk (JD _) (I.hok.fresh (JD _))) d e p j k call λH s' c r t fp g=>⟨_,rfl,j0 ⟨_,rfl,?_⟩⟩
  exact h H s' _ c r t fp g
end
theorem Av{K:cc}{H:Hp}{vs:List V}{ds:List ab}(q:DNs K N0 H vs ds):Rel K N0 N0 H (vs.map some) (vs.map some) (ds.map Sl.fr) [] H:=by
 have mm:∀x s,(x,s)∈ax (vs.map some) (ds.map Sl.fr) []->∃v d,x=some v/\s=.fr d/\(v,d)∈vs.zip ds:=λx s m=>by
  have m:(x,s)∈(vs.map some).zip (ds.map Sl.fr)++[]:=m;rw[IM,List.zip_map] at m;obtain⟨⟨v,d⟩,c,e⟩:=Ig.mp m;cases e;exact⟨v,d,rfl,rfl,c⟩
 have f:oas (ax (vs.map some) (ds.map Sl.fr) [])=[]:=se.mpr λ⟨x,s⟩ m=>by
  obtain⟨v,d,rfl,rfl,_⟩:=mm x s m;exact db _ _
 have ne:∀b,Nw N0 (ax (vs.map some) (ds.map Sl.fr) []) b->N0 b:=λb z=>by
  rcases z with z|z
  ·exact z
  ·rw[f] at z;cases z
 refine⟨⟨aN.refl,λa h=>h,λa z=>z.elim,λa z=>z,λx e m=>?_,λx e m=>?_,λx e m=>?_,λx S e m=>?_,by rw[f];exact IS⟩,by rw[HS,HS,q.len],λw i m=>(by cases m),λi ds' e=>rfl⟩
 ·obtain⟨v,d,rfl,e1,c⟩:=mm _ _ m;cases e1;exact⟨v,rfl,(pf q _ c).to λb _ _ z=>ne b z⟩
 ·obtain⟨v,d,_,e1,_⟩:=mm _ _ m;cases e1
 ·obtain⟨v,d,_,e1,_⟩:=mm _ _ m;cases e1
 ·obtain⟨v,d,_,e1,_⟩:=mm _ _ m;cases e1
def mh(tb:DE)(es:List ab)(kd:ab):Prop:=tb (es.map .fr) λs env=>be env s=some kd
section
variable {X:Cx}{pins:List (al×Obj)}{σ:St}{H:Hp}{s:av}{params:Ks}{scope:J5}{body:ba}{f c c':al}{qual p x:bt}{pm ctv:ap}{k:Nat}{A:Around}{tb:DE}{kd:ab}
theorem vh{fl:Except ap Flow}{s':av}(I:Inv X pins σ H s)(c:CR CX0 X.stack X.prog X.w H s (λv H'=>aD H H'/\DN X.K N0 H' v kd) E0 fl s'):∃r,fl=.ok (.ret r)/\gZ X pins σ H s kd r s':=by
 cases fl with
 | error e=>exact c.elim
 | ok fl =>
  cases fl with
  | ret z =>
   obtain⟨d,H',os,bare,un,hok,f,g,dn⟩:=c;refine⟨_,rfl,H',d,I.call' (ch:=[]) os un hok bare (λb z=>nomatch z),g,f,dn,λb o a e=>⟨un.keep b o e a.1 (λz=>?_) (by simp),un.free b o e a.1 (by simp)⟩⟩;rcases Ic.mp (I.stkSub b z) with z|z
   ·exact a.2.1 z
   ·exact a.2.2.1 z
  | next=>exact False.elim c
  | brk=>exact False.elim c
  | cont=>exact False.elim c
theorem zx(q:DNs X.K N0 H vs ds)(hk:mh tb ds kd):up X.K tb (vs.map some) H λv H'=>aD H H'/\DN X.K N0 H' v kd:=by refine⟨N0,N0,H,_,_,[],_,Av q,hk,λs1 env' v' H' c a=>⟨(a.e.keep).none,?_⟩⟩;have:=a.kept (ts:=[]) (v:=v') (s:=s1) (by simp) c;exact this.to λb _ _ z=>z.elim
theorem xX(I:Inv X pins σ H s)(c:s9 X.prog X.w X.K X.mg X.base A X.stack s H)(e:dc (k+1) A)(S:az [p] [p] scope)
  (g:k3 (Qc "<lambda>" qual params body scope [] pm (.ref c') ctv) ⟨[u],[]⟩=pure [(p,u)])
  (a:PE (pp CX0 X.prog X.w X.K X.mg X.base [p] qual scope f (.ref c') A X.stack s H E0) body (up X.K tb))
  (ho:s.heap.get? f=some (KO "<lambda>" qual params body scope [] pm c' ctv)) (b:s.heap.CodeRec (.ref c') qual) (r:bC v u) (hd:DN X.K N0 H v d) (hk:mh tb [d] kd) :
  j4 (kf X.prog X.w) A (call (.ref f) [u]) (gZ X pins σ H s kd) (λ_ _=>False) s :=
 Qr (KQ (Bh (CX:=CX0) (E:=E0) (ps:=[p]) (us:=[u]) (vs:=[v]) S e c ho b g (.cons r .nil) rfl a (zx (.cons hd .nil) hk)) λres s' i=>by
  obtain⟨z,rfl,h⟩:=vh I i;exact h)
theorem xY(I:Inv X pins σ H s)(l:s9 X.prog X.w X.K X.mg X.base A X.stack s H)(m:dc (k+1) A)(S:f7 p x scope)
  (n:k3 (Qc "<lambda>" qual params body scope [(x,c)] pm (.ref c') ctv) ⟨[u],[]⟩=pure [(p,u)])
  (a:PE (wN CX0 X.prog X.w X.K X.mg X.base [p,x] qual scope f (.ref c') [(x,c)] A X.stack s H E0) body (up X.K tb))
  (ho:s.heap.get? f=some (KO "<lambda>" qual params body scope [(x,c)] pm c' ctv)) (e:s.heap.CodeRec (.ref c') qual) (b:s.heap.IsCell c (some u0)) (o:bC v0 u0) (g:H c=none)
  (r : bC v u) (hd:DN X.K N0 H v d) (i:DN X.K N0 H v0 j) (hk:mh tb [d,j] kd) :
  j4 (kf X.prog X.w) A (call (.ref f) [u]) (gZ X pins σ H s kd) (λ_ _=>False) s :=
 Qr (KQ (xW (CX:=CX0) (E:=E0) S m l ho e n b o g r a (zx (.cons hd (.cons i .nil)) hk)) λres s' q=>by
  obtain⟨z,rfl,h⟩:=vh I q;exact h)
end
section
variable {X:Cx}{K:cc}{e:ba}{t:TA}{q0 pos kpos lpos:Pos}{params:Ks}{scope:J5}{body:ba}{p x:bt}{i:Nat}{tb:DE}{KR:St->Hp->ab->ab->Prop}
def Am(K:cc)(KR:St->Hp->ab->ab->Prop)(t:TA):TE:=λσ H Q=>t σ H λxs H1=>∃(q:al) (vs:List V) (N:al->Prop) (ds kds:List ab),xs=[.ref q]/\SqL K H1 q vs/\DNs K N H1 vs ds/\kds.length=ds.length/\Cm kds/\(∀i,i<ds.length->KR σ H1 (ds.getD i .none) (kds.getD i .none))/\vs.length<64 /\
 ∀a,aD H1 a->∀q,a q=none->Q (.ref q) (upd a q (.lst (pick (aE (kds.map dg)) vs .non)))
theorem uA(hK:X.K=K)(L:pL X)(Z:dc 4 X.A)(hg:Gl X "sorted")(hm:X.mg "sorted" = none)(ha:PA X [e] t)(n:KD params X.env=([],[]))
  (E:∀{pins:List (al×Obj)}{s:av}{σ:St}{H:Hp},Inv X pins σ H s->∃clos,J9 scope X.env=pure clos)
  (F:∀{σ:St}{H H':Hp}{d kd:ab},KR σ H d kd->aD H H'->KR σ H' d kd)
  (k:∀{pins:List (al×Obj)}{s:av}{σ:St}{H:Hp}{clos:List (bt×al)}{f c':al}{pm ctv u:ap}{v:V}{d kd:ab},Inv X pins σ H s->J9 scope X.env=pure clos->s.heap.get? f=some (KO "<lambda>" (X.env.qual ++ "<lambda>") params body scope clos pm c' ctv)->s.heap.CodeRec (.ref c') (X.env.qual ++ "<lambda>") ->
   bC v u->DN X.K N0 H v d->KR σ H d kd->j4 (kf X.prog X.w) X.A.in1.in1 (call (.ref f) [u]) (gZ X pins σ H s kd) (λ_ _=>False) s)
  (o:qs pos (j1 [e] X.env)=(false,eval e X.env)::qs pos (j1 [] X.env)) :
  PE X (.Call (.Name "sorted" q0) [e] [⟨some "key",.Lambda params body scope lpos,kpos⟩] pos) (Am K KR t):=by
 subst hK;intro pins s σ H Q I h;obtain⟨clos,hc⟩:=E I;refine Kl (gP I hg hm boot_sorted ?_ (by decide) (by decide));refine callWith_kw (thn (ha pos pins s σ H _ I h) λus s1 G=>?_) o (by rw[o];rfl) rfl rfl;obtain⟨xs,H1,I1,r,q⟩:=G;show j4 _ _ (evalAll [(do let v <-eval (.Lambda params body scope lpos) X.env;Kz pos;pure v)]) _ _ s1;refine wpAny_evalAll_cons (jj (vf I1 L hc n λf c' pm ctv s2 T J B p l cz=>jj (KH (j0 (wpAny_evalAll_nil ?_)))));obtain⟨U,vs,N,ds,kds,rfl,sq,dn,a0,M,x,a4,q⟩:=q;obtain⟨u,rfl,ru⟩:=iD r;cases (show u=eE U from ru);obtain⟨a5,O,hp,_⟩:=J.list (B.seq sq);have W:=O.length;obtain⟨C,g⟩:∃C,C=KO "<lambda>" (X.env.qual ++ "<lambda>") params body scope clos pm c' ctv:=⟨_,rfl⟩
 rw[<-g] at p;have I3:Inv X ((f,C)::pins) σ T s2:=J.pins_of λz hz=>by
  rcases Ic.mp hz with rfl|hz
  ·exact⟨p,l.1,l.2.1,l.2.2.1,λv=>by rw[g];exactλz=>by cases z⟩
  ·exact J.pin z (HQ _ hz)
 have P:DNs X.K N0 T vs ds:=(dn.keep (aN.same B)).to λb _ _ z=>z.elim;show j4 _ _ (wx (.builtin "sorted") [.ref U] [(lc "key",.ref f)]) _ _ _;have a6:ds.length=vs.length:=dn.len.symm;refine lJ (kds:=kds) I3 hp.isList (by omega) ?_ (by omega) M (λi hi H' s' m j=>?_) λH' s' D c m j a gD=>?_
 ·have:=Z.un;show X.A.units+1+1+64<J4;omega
 ·obtain⟨v,rx,dx,md⟩:=yt P O i hi;have Y:=(m.pin (f,C) (HQ _ H9)).1;rw[g] at Y;obtain⟨oc,u,ws,t,e1,e2,e3⟩:=cz;obtain⟨R,_⟩:=m.hok c' _ (j _ _ e1);exact k m hc Y ⟨_,_,_,_,rfl,R,e2,e3⟩ rx (dx.keep (aN.same j)) (F (x i (by omega)) (B.trans j))
 ·have I4:Inv X pins σ H' s':=m.pins_of λz hz=>m.pin z (HQ _ (HZ _ hz));have y:iz X pins H' D:=⟨a.1,a.2.1,a.2.2.1,a.2.2.2.1,a.2.2.2.2.1,λz hz=>a.2.2.2.2.2 z (by
   rcases HX.mp hz with hz|hz
   ·exact HV _ hz
   ·exact HQ _ (HZ _ hz))⟩
  have S:∀i∈aE (kds.map dg),i<vs.length:=λi hi=>by have:=b9 i hi;rw[HS] at this;omega
  refine⟨.ref D,upd H' D (.lst (pick (aE (kds.map dg)) vs .non)),I4.track y ⟨?_,_,c,iB O S,gD⟩,rfl,q _ (B.trans j) _ a.1⟩;unfold pick;rw[HS,(bh _).length_eq,IC,HS,qT];omega
theorem uB(hK:X.K=K)(L:pL X)(l:dc 4 X.A)(m:Gl X "sorted")(n:X.mg "sorted" = none)(o:PA X [e] t)(S:az [p] [p] scope)
  (q:∀(qual:bt) (pm c ctv u:ap),k3 (Qc "<lambda>" qual params body scope [] pm c ctv) ⟨[u],[]⟩=pure [(p,u)])
  (b:J9 scope X.env=pure []) (g:KD params X.env=([],[]))
  (a:∀(A:Around) (s:av) (H:Hp) (f:al) (cd:ap),PE (pp CX0 X.prog X.w X.K X.mg X.base [p] (X.env.qual ++ "<lambda>") scope f cd A X.stack s H E0) body (up X.K tb))
  (i:qs pos (j1 [e] X.env)=(false,eval e X.env)::qs pos (j1 [] X.env)) :
  PE X (.Call (.Name "sorted" q0) [e] [⟨some "key",.Lambda params body scope lpos,kpos⟩] pos) (Am K (λ_ _ d kd=>mh tb [d] kd) t) :=
 uA hK L l m n o g (λ_=>⟨[],b⟩) (λh _=>h) (λI hc ho j r hd hk=>by
  rw[b] at hc;cases hc;exact xX (k:=1) I I.env0.in1.in1 l.in1.in1 S (q _ _ _ _ _) (a _ _ _ _ _) ho j r hd hk) i
theorem AS(hK:X.K=K)(L:pL X)(O:dc 4 X.A)(P:Gl X "sorted")(Q:X.mg "sorted" = none)(R:PA X [e] t)(S:f7 p x scope)
  (T:X.N[i]? = some x) (U:Vis X.env.scope x) (b:X.env.kindOf x=some .cell\/X.env.kindOf x=some .free) (D:X.env.kindOf x≠some .local)
  (V:∀(qual:bt) (cl:List (bt×al)) (pm c ctv u:ap),k3 (Qc "<lambda>" qual params body scope cl pm c ctv) ⟨[u],[]⟩=pure [(p,u)])
  (n:∀c,X.env.cells.lookup x=some c->J9 scope X.env=pure [(x,c)]) (o:KD params X.env=([],[]))
  (g:∀(A:Around) (s:av) (H:Hp) (f:al) (cd:ap) (c:al),dc 1 (A.deeper (envX (X.env.qual ++ "<lambda>") scope s.heap.objs.size f cd [(x,c)]))->PE (wN CX0 X.prog X.w X.K X.mg X.base [p,x] (X.env.qual ++ "<lambda>") scope f cd [(x,c)] A X.stack s H E0) body (up X.K tb))
  (E:qs pos (j1 [e] X.env)=(false,eval e X.env)::qs pos (j1 [] X.env)) :
  PE X (.Call (.Name "sorted" q0) [e] [⟨some "key",.Lambda params body scope lpos,kpos⟩] pos) (Am K (λσ H d kd=>∃v0 q,σ[i]? = some (some v0)/\DN K N0 H v0 q/\mh tb [d,q] kd) t):=by
 subst hK;refine uA rfl L O P Q R o (λI=>?_) (λh W=>?_) (λ{pins s σ H clos f c' pm ctv u v d kd} I hc ho F r hd hk=>?_) E
 ·obtain⟨c,hc⟩:=I.ok.has x b;exact⟨_,n c hc⟩
 ·obtain⟨v0,q,Y,dn,hk⟩:=h;exact⟨v0,q,Y,dn.keep (aN.same W),hk⟩
 ·obtain⟨c,j⟩:=I.ok.has x b;rw[n c j] at hc;cases hc;obtain⟨v0,q,G,J,hk⟩:=hk;obtain⟨m,Z,y⟩:=I.loc;obtain⟨u0,M,l⟩:=y i x v0 T G U;have a:s.heap.IsCell c (some u0):=by
   rcases l with⟨z,_⟩|⟨_,c2,B,ic⟩
   ·exact absurd z D
   ·rw[j] at B;cases B;exact ic
  have C:dc 2 X.A.in1.in1:=O.in1.in1;exact xY (k:=1) I I.env0.in1.in1 C S (V _ _ _ _ _ _) (g _ _ _ _ _ _ (C.deeper _)) ho F a M (I.freeC x c j) r hd J hk
def oX:ab->ab
 | .list es=>.tuple [.int es.length,.list es]
 | d=>d
def qO(tb:DE)(d kd:ab):Prop:=tb [.fr d] λs env=>be env s=some kd
def vj(tb:DE)(d a kd:ab):Prop:=tb [.fr d,.fr a] λs env=>be env s=some kd
def BP(tb:DE)(t:DA):DE:=λenv R=>t env λss a=>∃s ds b,ss=[s]/\aZ a s=some (.list ds)/\ds.length<64/\Cm (ds.map b)/\(∀d∈ds,qO tb d (b d))/\R (.ow (pick (aE ((ds.map b).map dg)) ds .none)) a
variable {tl:DA}
theorem o8{ds:List ab}{a:ab->ab}{P:ab->ab->Prop}(h:∀d∈ds,P d (a d)){i:Nat}(hi:i<ds.length):P (ds.getD i .none) ((ds.map a).getD i .none):=by
 have e1:ds.getD i .none=ds[i]:=by simp[HU,hi]
 have e2:(ds.map a).getD i .none=a ds[i]:=by simp[HU,hi]
 rw[e1,e2];exact h _ (IB hi)
theorem AQ(q:DNs K N H us ds):DNs K N H (pick (aE ((ds.map a).map dg)) us .non) (pick (aE ((ds.map a).map dg)) ds .none) :=
 rB q λi hi=>by have:=b9 i hi;rw[HS,HS] at this;rw[q.len];exact this
theorem Db(hK:X.K=K)(L:pL X)(x:dc 4 X.A)(y:Gl X "sorted")(z:X.mg "sorted" = none)(B:PA X [e] (upA K tl))(S:az [p] [p] scope)
  (C:∀(qual:bt) (pm c ctv u:ap),k3 (Qc "<lambda>" qual params body scope [] pm c ctv) ⟨[u],[]⟩=pure [(p,u)])
  (k:J9 scope X.env=pure []) (j:KD params X.env=([],[]))
  (g:∀(A:Around) (s:av) (H:Hp) (f:al) (cd:ap),PE (pp CX0 X.prog X.w X.K X.mg X.base [p] (X.env.qual ++ "<lambda>") scope f cd A X.stack s H E0) body (up X.K tb))
  (l:qs pos (j1 [e] X.env)=(false,eval e X.env)::qs pos (j1 [] X.env):=by rfl) :
  PE X (.Call (.Name "sorted" q0) [e] [⟨some "key",.Lambda params body scope lpos,kpos⟩] pos) (up K (BP tb tl)) :=
 (uB (K:=K) (tb:=tb) hK L x y z B S C k j g l).imp λσ H Q h=>by
 obtain⟨M,P,H0,σ0,env,ts,R,m,D,E⟩:=h;refine⟨M,P,H0,σ0,env,ts,_,m,D,λss r vs H1 h1 F b=>?_⟩;obtain⟨s,ds,G,rfl,e1,n,o,hk,I⟩:=h1;obtain⟨v,rfl⟩:=sF F;obtain⟨a,us,rfl,sq,q⟩:=(b.view (v:=v) (by simp) e1).list;exact⟨a,us,_,ds,ds.map G,rfl,sq,q,HS ..,o,λi hi=>o8 (P:=λd kd=>mh tb [d] kd) hk hi,by rw[q.len];exact n,λN t O J=>E _ _ _ _ I ((b.same t).resOw J (AQ (q.keep (aN.same t))))⟩
end
end _L
namespace _L
open PySem PySem.Spec PyProof.Rows
def Ev(t:DE)(env:List Sl)(s:Sl):Prop:=∀R:Sl->List Sl->Prop,R s env->t env R
def EvA(t:DA)(env:List Sl)(ss:List Sl):Prop:=∀R:List Sl->List Sl->Prop,R ss env->t env R
def EvT(t:DT)(env:List Sl)(k:Bool):Prop:=∀R:Bool->List Sl->Prop,R k env->t env R
def EvO(t:DO)(env:List Sl)(k:Option Int):Prop:=∀R:Option Int->List Sl->Prop,R k env->t env R
def EvI(t:DI)(env:List Sl)(ds:List ab):Prop:=∀R:List ab->List Sl->Prop,R ds env->t env R
def E2(g:G2)(d e x:ab):Prop:=∀R:ab->Prop,R x->g d e R
def E1(g:G1)(d x:ab):Prop:=∀R:ab->Prop,R x->g d R
def EB(g:GB)(ds:List ab)(x:ab):Prop:=∀R:ab->Prop,R x->g ds R
def EL(g:ab->ab->(List ab->Prop)->Prop)(d e:ab)(x:List ab):Prop:=∀R:List ab->Prop,R x->g d e R
section
theorem Eo(h:(env[i]?).bind slD=some d):Ev (Fe i) env (.vw i):=λ_ r=>⟨d,h,r⟩
theorem HE:Ev (dC d) env (.fr d):=λ_ r=>r
theorem Ex(h:env[i]? = some (.fr d)):Ev (zR i) env (.fr d):=λR r=>by unfold zR;rw[h];exact r
theorem Gh(h1:Ev ta env s1)(h2:Ev tb env s2)(e1:aZ env s1=some d1)(e2:aZ env s2=some d2)(h:E2 g d1 d2 x):Ev (dOp g ta tb) env (.fr x):=λ_ r=>h1 _ (h2 _ ⟨d1,d2,e1,e2,h _ r⟩)
theorem Es{g:ab->ab->(List ab->Prop)->Prop}(h1:Ev ta env s1)(h2:Ev tb env s2)(e1:aZ env s1=some d1)(e2:aZ env s2=some d2)(h:EL g d1 d2 xs):Ev (EI g ta tb) env (.ow xs):=λ_ r=>h1 _ (h2 _ ⟨d1,d2,e1,e2,h _ r⟩)
theorem Gf{g:G1}(h1:Ev ta env s1)(e1:aZ env s1=some d1)(h:E1 g d1 x):Ev (dUn g ta) env (.fr x):=λ_ r=>h1 _ ⟨d1,e1,h _ r⟩
theorem Gk{g:GB}(h1:EvA tl env ss)(e1:fJ env ss=some ds)(h:EB g ds x):Ev (dCB g tl) env (.fr x):=λ_ r=>h1 _ ⟨ds,e1,h _ r⟩
theorem Ep(h1:EvA tl env ss)(e1:bu env ss=some ds)(z:ss.length<=sizeLine):Ev (Cv tl) env (.fr (.tuple ds)):=λ_ r=>h1 _ ⟨ds,e1,z,r⟩
theorem Ew(h1:EvA tl env ss)(e1:bu env ss=some ds)(z:ss.length<=sizeLine):Ev (Fj tl) env (.ow ds):=λ_ r=>h1 _ ⟨ds,e1,z,r⟩
theorem Er(h1:Ev te env s)(h2:EvO t1 env l)(a:EvO t2 env h)(e1:aZ env s=some (.list ds)):Ev (Ff te t1 t2) env (.ow (pq ds l h)):=λ_ r=>h1 _ (h2 _ (a _ ⟨ds,e1,r⟩))
theorem Gi:EvO kY env none:=λ_ r=>r
theorem By(h1:Ev te env s)(e1:aZ env s=some (.int n)):EvO (yy te) env (some n):=λ_ r=>h1 _ ⟨n,e1,r⟩
theorem Eu:EvA Fi env []:=λ_ r=>r
theorem Bz(h1:Ev te env s)(h2:EvA tl env ss):EvA (yA te tl) env (s::ss):=λ_ r=>h1 _ (h2 _ r)
theorem Bx(h1:Ev te env s)(e1:aZ env s=some (.bool k)):EvT (mS te) env k:=λ_ r=>h1 _ ⟨k,e1,r⟩
theorem Et(h1:EvT t env k):EvT (Fh t) env (!k):=λ_ r=>h1 _ r
theorem Gj{n:String}(h1:Ev te env s)(e1:aZ env s=some d)(e2:A6 d=true):Ev (dIs n te) env (.fr (.bool (isK n d))):=λ_ r=>h1 _ ⟨d,e1,e2,r⟩
theorem HG:E2 (gI f) (.int m) (.int n) (.int (f m n)):=λ_ r=>⟨m,n,rfl,rfl,r⟩
theorem Gq(c:C m n):E2 (gIC C f) (.int m) (.int n) (.int (f m n)):=λ_ r=>⟨m,n,rfl,rfl,c,r⟩
theorem HH:E2 (gB f) (.int m) (.int n) (.bool (f m n)):=λ_ r=>⟨m,n,rfl,rfl,r⟩
theorem Gp(h1:shp d)(h2:shp e):E2 gEq d e (.bool (hZ d e)):=λ_ r=>⟨h1,h2,r⟩
theorem BF:E2 yi d .none (.bool (!o5 d)):=λ_ r=>⟨rfl,r⟩
theorem Gn(h1:gi d=some ds)(h2:atI ds n=some x):E2 gIx d (.int n) x:=λ_ r=>⟨ds,n,x,h1,rfl,h2,r⟩
theorem Go(h1:gi e=some ds)(h2:bS ds=some ns):E2 gIn (.int n) e (.bool (decide (n∈ns))):=λ_ r=>⟨n,ds,ns,rfl,h1,h2,r⟩
theorem EE:E1 Fa (.int n) (.int (-n)):=λ_ r=>⟨n,rfl,r⟩
theorem ED(h:gi d=some es):EB Fb [d] (.int es.length):=λ_ r=>⟨d,es,rfl,h,r⟩
theorem EC(h:bS es=some ns):EB E9 [.list es] (.int ns.sum):=λ_ r=>⟨es,ns,rfl,h,r⟩
theorem EA(z:xs.length+ys.length<=sizeLine):EL Fc (.list xs) (.list ys) (xs++ys):=λ_ r=>⟨xs,ys,rfl,rfl,z,r⟩
theorem BD(h1:Ev te env s)(e1:be env s=some (.list ds)):EvI (rH te) env ds:=λ_ r=>h1 _ ⟨ds,e1,r⟩
theorem BC(h1:EvA tl env [s])(e1:aZ env s=some (.int n))(a:-4611686018427387904<=n)(z2:n<4611686018427387904):EvI (yx tl) env (gK 0 n.toNat):=λ_ r=>h1 _ ⟨s,n,rfl,e1,a,z2,r⟩
theorem BE(h1:EvA tl env [s])(e1:be env s=some (sqD b ds)):EvI (yz b tl) env (kT ds):=λ_ r=>h1 _ ⟨s,ds,rfl,e1,r⟩
theorem Bc{n:Nat}(h:decide (n<=100)=true):n<=sizeLine:=Ie (of_decide_eq_true h) (Ie (by decide) ag)
theorem ws_seq(h:t { DD with nx:=u DD } env):EG t u DD env:=h
theorem Cz(h1:Ev te env s)(z:i<env.length)(e1:gc env s=some s')(h:DD.nx (env.set i s')):zO i te DD env:=h1 _ ⟨s',z,e1,h⟩
theorem CA(h1:Ev te env s)(h:DD.rt s env):EH te DD env:=h1 _ h
theorem CB(h1:EvT c env k)(h:if k=true then t DD env else u DD env):Fk c t u DD env:=h1 _ h
theorem CC{it:DI}{g:DG}{tb:DS}(h1:EvI it env ds)(h:FD ds g tb DD env):Fl it g tb DD env:=h1 _ h
theorem CF(h1:Ev te env s)(e1:be env s=some d)(e2:env[i]? = some a)(e3:jm a=some ds)(z:ds.length<sizeLine)(b:fL a (ds++[d])=some s')(h:DD.nx (env.set i s')):vR (Fm i te) DD env:=⟨⟨ds,by rw[e2];exact e3⟩,h1 _ ⟨d,a,ds,s',e1,e2,e3,z,b,h⟩⟩
theorem Aj(h1:EvA tl env ss)(a1:ss[q]? = some (.vw i))(a2:env[i]? = some b)(a3:jm b=some l)(c:bu env (ss.take q)=some a)(d:bu env (ss.drop (q+1))=some ds2)
  (h : sp (a.map .fr++.io l::ds2.map .fr) (dK (λr as=>∃l' s',as[q]? = some (.io l')/\fL b l'=some s'/\R r (env.set i s')) ⟨⟩)):mV sp q tl env R:=h1 _ ⟨i,b,l,a,ds2,a1,a2,a3,c,d,h⟩
theorem CH(h1:EvA tl env ss)(e1:bu env ss=some ds)(h:sp (ds.map .fr) (dK (λr _=>R r env) ⟨⟩)):vS sp tl env R:=h1 _ ⟨ds,e1,h⟩
theorem CG{it:DI}{ix:List (Option Nat)}{g:DG}{tt:DT}{R:Sl->List Sl->Prop}(h1:EvI it env ds)(h:CD ds ix g tt te env (dK R ⟨⟩)):sO it ix g tt te env R:=h1 _ h
theorem w_pop(a1:env[i]? = some a)(a2:jm a=some ds)(a3:ds.getLast? = some d)(b:fL a ds.dropLast=some s')(h:R (.fr d) (env.set i s')):Fg i env R:=⟨a,ds,d,s',a1,a2,a3,b,h⟩
theorem wg_name(z:i<env.length)(h:R (env.set i (.fr d))):rC i d env R:=⟨z,h⟩
theorem wk_K(h:R s env):dK R w s env:=h
theorem wx_set(h:te env λs a=>∃s',i<a.length/\gc a s=some s'/\DD.nx (a.set i s')):zO i te DD env:=h
theorem wx_ret(h:te env DD.rt):EH te DD env:=h
theorem wx_drop(h:te env λ_ a=>DD.nx a):vR te DD env:=h
end
end _L
namespace _L
open PySem PySem.Spec PyProof.Rows PySem.W
end _L
namespace _L
open PySem PySem.Spec PyProof.Rows PySem.W PySem.Calls
section
variable {prog:kq}{w:k0}{A:Around}{R:Result->av->Prop}{I:al}{fp wr:List al}{P:Nat->ap->Prop}{St:Nat->bb->Prop}
def wH(ns:List Int)(d x:Int):Prop:=ns=[]/\x=d\/x∈ns/\∀y∈ns,y<=x
theorem tH{ns:List Int}(h:j<ns.length):ns.take (j+1)=ns.take j++[ns.getD j 0]:=by rw[JC,HR h,HU,HR h];rfl
theorem u6(W:Walks prog w A.in1 I fp wr ns.length P St)(hP:∀i v,P i v->∃t,v=ip (ns.getD i 0) t)(S:al)(H:S ∉ fp)(d:Int)(Q:Tok) :
  ∀(k j:Nat) (s:av) (J:List ap) (c:Nat),ns.length - j=k->j<=ns.length->St j s.heap->(J=[]/\j=0\/∃x t,J=[ip x t,ip x t]/\x∈ns.take j/\∀y∈ns.take j,y<=x) ->
  s.heap.get? S=some { cls:=.type "list",dict:=none,data:=.seq J.toArray c,slots:=#[] } ->
  (∀x t h' tk,wH ns d x->(∀b o,b ∉ wr->b≠S->s.heap.get? b=some o->h'.get? b=some o)->R (.ok (.ret (.int x t))) { s with heap:=h',toks:=tk }) ->
  Ko (kf prog w) A (.builtin "max.loop" ⟨[.ref I,.none,.ref S],[(("default" : bt),.int d Q)]⟩) R s:=by
 have K:S ∉ wr:=λh=>H (W.sub _ h);have g:(toString "max" ++ toString ".loop" : String) = "max.loop" := by decide
 intro k
 induction k with
 | zero =>
  intro j s J c hk hj E C L M;have N:j=ns.length:=by omega
  refine KY F.entry_max_loop ?_;rw[Around.under_plainId F.plain_max_loop _];show j4 _ A.in1 (QB (.ref S) >>= _) _ _ s;refine jj (zg L rfl ?_);show j4 _ A.in1 (tryCatch (Qb (.ref I)) _ >>= _) _ _ s;refine jj (Qo (W.done s _ _ (N▸E) λh' tk l=>?_));have m:=l S _ K L;rcases C with⟨rfl,Y⟩|⟨x,t,rfl,r,n⟩
  ·exact jj (Kk (j0 (M d Q h' tk (.inl ⟨sd.mp (by omega),rfl⟩) λb o f a e=>l b o f e)))
  ·show j4 _ A.in1 (updateSeq S (λ_=>#[]) >>= _) _ _ _;refine jj ?_;refine Qm m rfl (jj (Km (j0 ?_)));rw[N,sa] at r n;exact M x t _ tk (.inr ⟨r,n⟩) λb o f a e=>(JG _ _ (Ne.symm a)).trans (l b o f e)
 | succ k Z =>
  intro j s J c hk hj E C L M;have B:j<ns.length:=by omega
  refine KY F.entry_max_loop ?_;rw[Around.under_plainId F.plain_max_loop _];show j4 _ A.in1 (QB (.ref S) >>= _) _ _ s;refine jj (zg L rfl ?_);show j4 _ A.in1 (tryCatch (Qb (.ref I)) _ >>= _) _ _ s;refine jj (Qo (W.item j s _ _ B E λv h' tk T D l=>?_));have m:=l S _ K L;obtain⟨u,rfl⟩:=hP _ _ T;have O:=tH B;generalize ns.getD j 0=y at *;have go:∀(h2:bb) (c2:Nat),(∀z∈ns.take j,z<=y)->(∀b o,b≠S->h'.get? b=some o->h2.get? b=some o)->h2.get? S=some { cls:=.type "list",dict:=none,data:=.seq #[.int y u,.int y u] c2,slots:=#[] } ->
    Ko (kf prog w) A (.builtin "max.loop" ⟨[.ref I,.none,.ref S],[(("default" : bt),.int d Q)]⟩) R { s with heap:=h2,toks:=tk }:=λh2 c2 hy k2 U =>
   Z (j+1) _ [.int y u,.int y u] c2 (by omega) B (W.frame _ _ _ D λb V o e=>k2 b o (λh:b=S=>H (by rw[<-h];exact V)) e) (.inr ⟨y,u,rfl,by rw[O];simp,λz hz=>by
    rw[O] at hz;rcases HX.mp hz with hz|hz
    ·exact hy z hz
    ·rw[HW.mp hz];exact Jb _⟩) U
    λx t G p X q=>M x t G p X λb o f a e=>q b o f a (k2 b o a (l b o f e))
  rcases C with⟨rfl,Y⟩|⟨x,t,rfl,r,n⟩
  ·show j4 _ A.in1 (updateSeq S (λ_=>#[.int y u,.int y u]) >>= _) _ _ _;refine jj ?_;refine Qm m rfl ?_;rw[g];exact j0 ⟨Kt F.plain_max_loop _,go _ _ (λz hz=>by rw[Y] at hz;simp at hz) (λb o a e=>(JG _ _ (Ne.symm a)).trans e) (Jy _ m rfl)⟩
  ·show j4 _ A.in1 (tryCatch (Kd [.int y u,.int y u] (richCompare .Gt (.int y u) (.int x t) >>= _)) _ >>= _) _ _ _;refine jj (Qo (ze (jj (show j4 _ _ (ky .Gt (.int y u) (.int x t)) _ _ _ from gt_int ?_))));refine jj (ze (zb ?_));refine jj (Km (j0 ?_));cases C:decide (x<y) with
   | true =>
    have C:=of_decide_eq_true C;simp only[if_true];refine jj ?_;refine Qm m rfl (jj (Km ?_));rw[g];exact j0 ⟨Kt F.plain_max_loop _,go _ _ (λz hz=>by have:=n z hz;omega) (λb o a e=>(JG _ _ (Ne.symm a)).trans e) (Jy _ m rfl)⟩
   | false =>
    have C:=of_decide_eq_false C;simp only[IQ,if_false];refine jj (Km ?_);rw[g];exact j0 ⟨Kt F.plain_max_loop _,Z (j+1) _ [.int x t,.int x t] c (by omega) B D (.inr ⟨x,t,rfl,by rw[O];simp[r],λz hz=>by
     rw[O] at hz;rcases HX.mp hz with hz|hz
     ·exact n z hz
     ·rw[HW.mp hz];omega⟩) m λx t G p X q=>M x t G p X λb o f a e=>q b o f a (l b o f e)⟩
theorem wA(a v:ap):argsOk "max" ⟨[a],[(("default" : bt),v)]⟩:=by unfold argsOk;kernel_rfl
theorem wb
  (h : j4 (kf prog w) A.in1 (pyIter x) (λit a=>∃I fp wr P St,it=.ref I/\Walks prog w A.in1 I fp wr ns.length P St/\St 0 a.heap/\(∀b∈fp,b<a.heap.objs.size)/\(∀i v,P i v->∃t,v=ip (ns.getD i 0) t) /\
   ∀x t h' tk,wH ns d x->(∀b o,b ∉ wr->a.heap.get? b=some o->h'.get? b=some o)->Q (.int x t) { a with heap:=h',toks:=tk }) E s) :
  j4 (kf prog w) A (call (.builtin "max") [x] [(("default" : bt),.int d f)]) Q E s:=by
 have c:(toString "max" ++ toString ".loop" : String) = "max.loop" := by decide
 refine sP F.kind_max F.plain_max F.entry_max (wA _ _) ?_;show j4 _ A.in1 (vr "max" ["key", "default"] 0 ⟨[],[(("default" : bt),.int d f)]⟩ >>= _) _ _ s;refine jj (wpAny_of_eq (show vr "max" ["key", "default"] 0 ⟨[],[(("default" : bt),.int d f)]⟩=pure [none,some (.int d f)] from rfl) ?_);refine jj (j0 ?_);refine jj (q5 h (λit a g=>?_) λ_ _ e=>e);obtain⟨I,fp,wr,P,St,rfl,W,j,k,p,q⟩:=g;refine jj (z4 ?_);have l:a.heap.objs.size ∉ fp:=λm=>Ji _ (k _ m);rw[c];refine j0 ⟨Kt F.plain_max_loop _,u6 W p a.heap.objs.size l d f _ 0 _ [] 0 rfl (Iz _) (W.frame _ _ _ j λb _ o e=>Ia _ e) (.inl ⟨rfl,rfl⟩) (Im _ rfl) λx t h' tk m hk=>?_⟩;exact q x t h' tk m λb o n e=>hk b o n (IF (Ij e)) (Ia _ e)
end
section
variable {X:Cx}{K:cc}{e:ba}{tl:DA}{p pos kpos p3:Pos}
def Fw(K:cc)(d:Int)(t:TA):TE:=λσ H Q=>t σ H λxs H1=>∃(p:al) (ns:List Int),xs=[.ref p]/\SqL K H1 p (ns.map V.int)/\∀m:Int,wH ns d m->Q (.int m) H1
theorem AT{t:TA}{d:Int}{j}(hK:X.K=K)(hc:X.calm=true)(F:Gl X "max")(m:X.mg "max" = none)(G:PA X [e] t)
  (T:j1 [e] X.env=[(false,eval e X.env)]:=by rfl)
  (c:qs pos (j1 [e] X.env)=(false,eval e X.env)::qs pos (j1 [] X.env):=by rfl):PE X (.Call (.Name "max" p) [e] [⟨some "default",.Constant (.int d) j p3,kpos⟩] pos) (Fw K d t):=by
 subst hK;intro pins s σ H Q I h;refine Kl (gP I F m nk ?_ (by decide) (by decide));refine callWith_kw (thn (G pos pins s σ H _ I h) λus s1 n=>?_) c (by rw[c];rfl) rfl rfl;obtain⟨vs,H1,J,r,q⟩:=n;refine thn ((AN bU Dy:PK X [⟨some "default",.Constant (.int d) j p3,kpos⟩] _) pos pins s1 σ H1 (λD y=>D=[.int d]/\y=H1) J ⟨rfl,rfl⟩) λws s2 z=>?_;obtain⟨D,y,B,L,M,N⟩:=z;subst M N;obtain⟨u,rfl,⟨O,rfl⟩⟩:=iD L;obtain⟨q0,ns,rfl,P,q⟩:=q;obtain⟨u,rfl,R⟩:=iD r;cases (show u=eE q0 from R);obtain⟨a,E,S,_⟩:=B.list P;have k:=S.isList;have C:q0<s2.heap.objs.size:=by obtain⟨_,e,_⟩:=k;exact Ij e
 have hsz:a.toArray.size=ns.length:=by have:=E.length;simp at this ⊢;omega
 have W:=(Walks.list (prog:=X.prog) (w:=X.w) (A:=X.A.in1) (B.ok.hd hc) s2.heap.objs.size q0 (IF C) a.toArray)
 rw[hsz] at W;show j4 _ _ (call (.builtin "max") [.ref q0] [(("default" : bt),.int d O)]) _ _ _;refine wb (ns:=ns) (Kc k ?_);refine⟨s2.heap.objs.size,_,_,_,_,rfl,W,⟨⟨_,Im _ rfl,rfl,rfl⟩,k.push _⟩,λb f=>?_,λi v l=>?_,λx t h' tk m hk=>?_⟩
 ·rcases Ic.mp f with rfl|f
  ·exact Ij (Im _ rfl)
  ·obtain rfl:=HW.mp f;exact Ij (Ia _ (id k).choose_spec.1)
 ·have l:a[i]? = some v:=by simpa using l
  have hi:i<a.length:=(Ib.mp l).1;have g:i<ns.length:=by simp at hsz;omega
  obtain⟨u,e1,⟨t,e2⟩⟩:=E.get (i:=i) (x:=.int ns[i]) (by rw[IH,HR g];rfl);rw[l] at e1;cases e1;refine⟨t,?_⟩;rw[e2,HU,HR g];rfl
 ·exact⟨.int x,y,B.kept λb o e=>hk b o (λf=>absurd (Ij e) ((HW.mp f)▸Ji _)) (Ia _ e),⟨_,rfl⟩,q _ m⟩
def BU(d:Int)(t:DA):DE:=λenv R=>t env λss a=>∃s es ns,ss=[s]/\aZ a s=some (.list es)/\bS es=some ns/\∀m:Int,wH ns d m->R (.fr (.int m)) a
theorem Df{d:Int}{j}(hK:X.K=K)(hc:X.calm=true)(i:Gl X "max")(k:X.mg "max" = none)(l:PA X [e] (upA K tl))
  (n:j1 [e] X.env=[(false,eval e X.env)]:=by rfl)
  (c:qs pos (j1 [e] X.env)=(false,eval e X.env)::qs pos (j1 [] X.env):=by rfl):PE X (.Call (.Name "max" p) [e] [⟨some "default",.Constant (.int d) j p3,kpos⟩] pos) (up K (BU d tl)) :=
 (AT (K:=K) hK hc i k l n c).imp λσ H Q h=>by
 obtain⟨M,P,H0,σ0,env,ts,R,f,o,r⟩:=h;refine⟨M,P,H0,σ0,env,ts,_,f,o,λss g vs H1 h1 t b=>?_⟩;obtain⟨s,es,ns,rfl,e1,e2,u⟩:=h1;obtain⟨v,rfl⟩:=sF t;obtain⟨a,us,rfl,sq,q⟩:=(b.view (v:=v) (by simp) e1).list;rw[cT e2] at q;rw[q.ints] at sq;exact⟨a,ns,rfl,sq,λm h1=>r _ _ _ _ (u m h1) (b.drop.addFr (.int m))⟩
end
end _L
namespace _L
open PySem PySem.Spec PyProof.Rows PySem.W
def vO(i:Nat)(t:DE):DE:=λenv R=>∃S d,env[i]? = some (.tr S d)/\t ((env.map kM).set i (.fr d)) λs a=>∃m:Int,aZ a s=some (.int m)/\R (.fr (.int m)) env
theorem AH(i:Nat){X:Cx}{K:cc}{e:ba}{t:DE}(h:PE X e (up K t)):PE X e (up K (vO i t)):=h.imp λσ H Q h=>by
 obtain⟨M,P,H0,σ0,env,ts,R,g,⟨S,d,e,p⟩,q⟩:=h;have k:=g.frzT e;have r:i<env.length:=(Ib.mp e).1;have l:∀(x:Option V) (s:Sl),(x,s)∈ax σ ((env.map kM).set i (.fr d)) []->(∃s',s=kM s')/\∀d',s=.fr d'->(x,Sl.fr d')∈ax σ (env.set i (.fr d)) ts:=λx s m=>by
  have m:(x,s)∈σ.zip ((env.map kM).set i (.fr d)):=by simpa[ax] using m
  obtain⟨j,hj,n⟩:=Il m;rw[IR,II,HS] at hj;rw[IU] at n;obtain⟨e1,e2⟩:=i4 n;rw[Jj] at e2;by_cases c:i=j
  ·rw[ME c] at e2;refine⟨⟨.fr d,e2.symm⟩,λd' hd=>HV _ ?_⟩;rw[Jq];refine⟨j,by rw[IR,II];omega,?_⟩;rw[IU,Jj,ME c,e1,e2,hd]
  ·rw[MF c,IZ] at e2;refine⟨⟨_,e2.symm⟩,λd' hd=>HV _ ?_⟩;rw[Jq];refine⟨j,by rw[IR,II];omega,?_⟩;rw[IU,Jj,MF c,e1,o7 (e2.trans hd)]
 have no:∀a,a ∉ oas (ax σ ((env.map kM).set i (.fr d)) []):=λa z=>by
  obtain⟨⟨x,s⟩,u,w⟩:=aV.mp z;obtain⟨⟨s',rfl⟩,_⟩:=l x s u;exact kL w
 refine⟨N0,N0,H,σ,_,[],_,⟨⟨aN.refl,λa z=>z,λa z=>z.elim,λa z=>z.elim,λx d m=>?_,λx ds m=>?_,λx ds m=>?_,λx S d m=>?_,?_⟩,?_,(λv j m=>by cases m),λj ds' m=>?_⟩,p,λs o v H1 h1 f=>?_⟩
 ·obtain⟨v,e1,dn⟩:=k.e.fr x d ((l x _ m).2 d rfl);exact⟨v,e1,dn.to λb _ _ z=>z.elim (λz=>z.elim) λz=>absurd z (no b)⟩
 ·obtain⟨⟨s',e1⟩,_⟩:=l _ _ m;cases s' <;> cases e1
 ·obtain⟨⟨s',e1⟩,_⟩:=l _ _ m;cases s' <;> cases e1
 ·obtain⟨⟨s',e1⟩,_⟩:=l _ _ m;cases s' <;> cases e1
 ·rw[Jd.mpr no];exact IS
 ·rw[II,HS];exact g.len
 ·have m2:=IG m;rcases JP m2 with h|h
  ·obtain⟨s,_,e1⟩:=Ig.mp h;cases s <;> cases e1
  ·cases h
 ·obtain⟨m,e1,y⟩:=h1;have ev:=(f.view (v:=v) (s:=s) (by simp) e1).int;subst ev;exact q _ _ _ _ y ((g.same f.e.keep.none).addFr (.int m))
section
variable {X:Cx}{K:cc}
def Gw(i:Nat)(u:DS):DS:=λDD env=>∃S d,env[i]? = some (.tr S d)/\u DD (env.set i (.fr d))
theorem ug(i:Nat)(h:PSs X ss (upS K u)):PSs X ss (upS K (Gw i u)):=h.imp λD σ H h=>by
 obtain⟨M,P,H0,σ0,env,ts,DD,nv,a,⟨S,d,e,b⟩,ok⟩:=h;exact⟨M,P,H0,σ0,_,ts,DD,nv,a.frzT e,b,ok⟩
end
section
variable {X:Cx}{K:cc}
def Gx(i:Nat)(tl:DA):DE:=λenv R=>(∃ds,(env[i]?).bind jm=some ds)/\tl env λss a=>∃l b ds s',ss=[.ow l]/\a[i]? = some b/\jm b=some ds/\ds.length+l.length<=sizeLine/\fL b (ds++l)=some s'/\R (.fr .none) (a.set i s')
theorem FO(i:Nat){apos cpos npos:Pos}(hK:X.K=K)(u:X.N[i]? = some y)(v:PA X [e1] (upA K tl))
  (w:Vis X.env.scope y:=by first|exact o0 rfl|exact eb da|exact eb (eb rfl)) (hd:(y==("__debug__" : bt))=false:=by decide)
  (p:(y==("__classdict__" : bt))=false:=by decide)
  (r:j1 [e1] X.env=(false,eval e1 X.env)::j1 [] X.env:=by rfl)
  (f:z3 (.Name y npos) "extend" X.env (eval (.Name y npos) X.env)=eval (.Name y npos) X.env:=by rfl)
  (j:((qs cpos (j1 [e1] X.env)).all (λx=>!x.1)&&(KF cpos (Kf [] X.env)).all (λx=>x.1.isSome)&&decide ([e1].length+([]:List Ke).length+(if ([]:List Ke).isEmpty then 0 else 1)<30))=true:=by rfl)
  (g:(apos.endLine==cpos.line)=true:=by rfl) (d:(qs cpos (j1 [] X.env)).any (·.1)=false:=by rfl) :
  PE X (.Call (.Attribute (.Name y npos) "extend" apos) [e1] [] cpos) (up K (Gx i tl)) :=
 (kBm (K:=K) hK ei Lh Lg lZ (aG u w hd p) v f j g r d).imp λσ H Q h=>by
 obtain⟨M,P,H0,σ0,env,ts,R,k,⟨⟨A,B⟩,C⟩,D⟩:=h;obtain⟨Z,E,G⟩:=lf B;obtain⟨a,vs,s,I,_⟩:=k.mine E G;refine⟨.ref a,s,.inl ⟨rfl,vs,SqL.of I⟩,M,P,H0,σ0,env,ts,_,k,C,λss m J H1 h1 L c=>?_⟩;obtain⟨l,t0,ds,s',rfl,z2,O,hz,es,S⟩:=h1;obtain⟨T,rfl⟩:=sF L;obtain⟨a',us,n,t,q⟩:=c.drop.mine z2 O;rw[s] at n;cases n;have U:=c.e;obtain⟨b,ws,V,W,Y,_⟩:=U.ow (some T) l (by rw[ar];exact HQ _ (by simp[tmp]));cases V;have o:DNs K (Nw M (ax σ m ts)) H1 ws l:=Y.to λb _ _ z=>by rw[ar];exact iR z
 exact⟨a,b,us,ws,rfl,rfl,t,W,by rw[q.len,o.len];exact hz,D _ _ _ _ S ((c.drop.mut (ds:=ds) z2 es s (q.app o)).addFr .non)⟩
end
def FnI(K:cc)(x:bt)(st:Stmt):Prop:=∃f fd,cv K ke x=some (some (.ref f))/\Fun K x x st f fd
def FnL(K:cc)(x:bt)(st:Stmt):Prop:=∃f fd,cv K ke x=some (some (.ref f))/\Fun K x x st f fd/\∀base:bb,K.In base->sW K base x fd
structure BnI(K:cc):Prop where
 len:cv K ke "len" = some none
 range:cv K ke "range" = some none
 min:cv K ke "min" = some none
 max:cv K ke "max" = some none
 enumerate:cv K ke "enumerate" = some none
 zip:cv K ke "zip" = some none
 all:cv K ke "all" = some none
 any:cv K ke "any" = some none
 isinstance:cv K ke "isinstance" = some none
 bool:cv K ke "bool" = some none
 int:cv K ke "int" = some none
 list:cv K ke "list" = some none
 tuple:cv K ke "tuple" = some none
 sorted:cv K ke "sorted" = some none
 str:cv K ke "str" = some none
 sum:cv K ke "sum" = some none
 abs:cv K ke "abs" = some none
section
variable {P:kq}{w:k0}{K:cc}{mg:bt->Option ap}{base h:bb}{x:bt}{st:Stmt}{f:al}{oc:ap}{od an:Option al}{osl:Array (Option ap)}{kV doc pm cdv ct:ap}{k:Nat}{ps:List bt}{sp:DSp}
theorem BnI.bn(X:K.In h)(G:h.Ns ke mg)(z:BnI K):Bn mg :=
 have m:∀{y:bt},cv K ke y=some none->mg y=none:=λe=>PySem.W.mg_none_of X G e
 ⟨m z.len,m z.range,m z.min,m z.max,m z.enumerate,m z.zip,m z.all,m z.any,m z.isinstance,m z.bool,m z.int,m z.list,m z.tuple,m z.sorted,m z.str,m z.sum,m z.abs⟩
theorem fnI(a:cv K ke x=some (some (.ref f)))(l:K.lookup f=some ⟨oc,od,.func (i3 x x (eB st) (cA st) (af st) .none kV doc pm an cdv ct),osl⟩)(c:ol K cdv x=true)(k:nT K (.ref f)=true):FnI K x st:=⟨f,_,a,zJ l c k⟩
theorem fnL(hx:x∈eO)(a:cv K ke x=some (some (.ref f)))(l:K.lookup f=some ⟨oc,od,.func (i3 x x (eB st) (cA st) (af st) .none kV doc pm an cdv ct),osl⟩)(c:ol K cdv x=true)(k:nT K (.ref f)=true)
  (hc:cdv=.ref b) (g:K.lookup b=some ⟨.type "code",d,.fields vs,e⟩) (h:wJ vs b T):FnL K x st:=⟨f,_,a,zJ l c k,λbase i=>D6 hx a l hc g h i⟩
theorem lb(X:K.In h)(G:h.Ns ke mg)(g:FnI K x st)(b:∀{f:al}{fd:j3},Fun K x x st f fd->bx K fd ps [])(ok:∀{f:al}{fd:j3},Fun K x x st f fd->cq P w K mg base CX0 k f fd ps (spD K sp)):Cal P w K mg base x k (spD K sp):=by obtain⟨f,fd,a,F⟩:=g;exact EO F (oB X G a) (b F) (ok F)
theorem He(X:K.In h)(G:h.Ns ke mg)(g:FnI K x st)(b:∀{f:al}{fd:j3},Fun K x x st f fd->bx K fd ps [])(ok:∀{f:al}{fd:j3},Fun K x x st f fd->mg x=some (.ref f)->cq P w K mg base CX0 k f fd ps (spD K sp)):Cal P w K mg base x k (spD K sp):=by obtain⟨f,fd,a,F⟩:=g;exact EO F (oB X G a) (b F) (ok F (oB X G a))
theorem GH(X:K.In h)(G:h.Ns ke mg)(c:K.In base)(g:FnL K x st)(b:∀{f:al}{fd:j3},Fun K x x st f fd->bx K fd ps [])(ok:∀{f:al}{fd:j3},Fun K x x st f fd->sW K base x fd->cq P w K mg base CX0 k f fd ps (spD K sp)):Cal P w K mg base x k (spD K sp):=by obtain⟨f,fd,a,F,L⟩:=g;exact EO F (oB X G a) (b F) (ok F (L base c))
theorem Hy{l:rz}(X:K.In h)(G:h.Ns ke mg)(b:mg "law" = some (.ref fa))(g:FnI K "law" st)(c:∀{fd:j3},Fun K "law" "law" st fa fd->∀(s:av) (v:ap),K5 s fd ⟨[v],[]⟩ [("_law_script",v)])
  (ok:∀{fd:j3}{base:bb},Fun K "law" "law" st fa fd->K.In base->cq l.prog w K mg base CX0 k fa fd ["_law_script"] (spD K sp)):∃fd:j3,(∀(s:av) (v:ap),K5 s fd ⟨[v],[]⟩ [("_law_script",v)])/\∀base:bb,K.In base->base.Ns ke mg->cq l.prog w K mg base CX0 k fa fd ["_law_script"] (spD K sp):=by obtain⟨f,fd,a,F⟩:=g;have e:=b.symm.trans (oB X G a);cases e;exact⟨fd,c F,λbase d _=>ok F d⟩
end
section
variable {K:cc}{M P:al->Prop}{H0 H:Hp}{E:List Ent}{σ0 σ:St}{env:List Sl}{ts:List (V×Sl)}{v:V}
theorem aW.open3(h:aW K M P H0 (E++[(some v,.tr S (.tuple [d1,d2,d3]))]) H):∃a x1 f g c d e,v=.ref a/\SqT K H a [x1,f,g]/\aW K M P H0 (E++[(some x1,.tr c d1),(some f,.tr d d2),(some g,.tr e d3)]) H:=by
 obtain⟨v',ev,ot,k⟩:=h.tr _ _ _ (HQ _ H9);cases ev;cases ot with
 | @tup a xs _ _ n q =>
  cases q with
  | @cons x1 o _ _ c y p q =>
   cases q with
   | @cons f r _ _ d R2 t q =>
    cases q with
    | @cons g u _ _ e z w q =>
     cases q;refine⟨a,x1,f,g,c,d,e,rfl,n.sq,?_⟩;have l:oas (E++[(some x1,Sl.tr c d1),(some f,Sl.tr d d2),(some g,Sl.tr e d3)])=oas (E++[(some (V.ref a),Sl.tr (c++(d++(e++[]))) (.tuple [d1,d2,d3]))]):=by rw[ae,ae,ad,ad,ad,ad,aq,aq,aq,aq];simp[oas]
     have ne:Nw M (E++[(some x1,Sl.tr c d1),(some f,Sl.tr d d2),(some g,Sl.tr e d3)])=Nw M (E++[(some (V.ref a),Sl.tr (c++(d++(e++[]))) (.tuple [d1,d2,d3]))]):=by unfold Nw;rw[l]
     have i:∀x s,(x,s)∈E++[(some x1,Sl.tr c d1),(some f,Sl.tr d d2),(some g,Sl.tr e d3)]->(x,s)∈E++[(some (V.ref a),Sl.tr (c++(d++(e++[]))) (.tuple [d1,d2,d3]))]\/(x,s)=(some x1,Sl.tr c d1)\/(x,s)=(some f,Sl.tr d d2)\/(x,s)=(some g,Sl.tr e d3):=λx s m=>by
      rcases HX.mp m with m|m
      ·exact .inl (HV _ m)
      ·simpa using eb m
     refine⟨h.keep,h.live,h.mt,h.pm,λx d' m=>?_,λx d' m=>?_,λx d' m=>?_,λx S d' m=>?_,by rw[l];exact h.nd⟩
     ·rw[ne];rcases i _ _ m with m|m|m|m
      ·exact h.fr x d' m
      all_goals cases m
     ·rw[ne];rcases i _ _ m with m|m|m|m
      ·exact h.ow x d' m
      all_goals cases m
     ·rw[ne];rcases i _ _ m with m|m|m|m
      ·exact h.io x d' m
      all_goals cases m
     ·rw[ne];rcases i _ _ m with m|m|m|m
      ·exact h.tr x S d' m
      ·cases m;exact⟨x1,rfl,p,λb j=>k b (HV _ j)⟩
      ·cases m;exact⟨f,rfl,t,λb j=>k b (HQ _ (HV _ j))⟩
      ·cases m;exact⟨g,rfl,w,λb j=>k b (HQ _ (HQ _ (HV _ j)))⟩
theorem Rel.open3(h:Rel K M P H0 σ0 σ env (ts++[(v,.tr S (.tuple [d1,d2,d3]))]) H):∃a x1 b c d f g,v=.ref a/\SqT K H a [x1,b,c]/\Rel K M P H0 σ0 σ env (ts++[(c,.tr g d3),(b,.tr f d2),(x1,.tr d d1)]) H:=by
 have j:=h.e;rw[ar] at j;obtain⟨a,x1,b,c,d,f,g,ev,sq,r⟩:=aW.open3 (v:=v) (S:=S) (d1:=d1) (d2:=d2) (d3:=d3) j;refine⟨a,x1,b,c,d,f,g,ev,sq,?_⟩;have k:Rel K M P H0 σ0 σ env (ts++[(x1,.tr d d1),(b,.tr f d2),(c,.tr g d3)]) H:=by
  refine⟨by rw[ar];exact r,h.len,λw i m=>?_,h.ios⟩;rcases HX.mp m with m|m
  ·exact h.vw w i (HV _ m)
  ·simp at m
 refine k.perm (fo _ ?_);exact(List.reverse_perm [(x1,Sl.tr d d1),(b,Sl.tr f d2),(c,Sl.tr g d3)])
end
section
variable {X:Cx}{K:cc}{te:DE}{pos pt:Pos}
def yB(i j k:Nat)(te:DE):DS:=λDD env=>te env λs a=>∃S d1 d2 d3,s=.tr S (.tuple [d1,d2,d3])/\i<a.length/\j<a.length/\k<a.length/\∀b c d,DD.nx (((a.set i (.tr b d1)).set j (.tr c d2)).set k (.tr d d3))
theorem Cg(s:tg=E8 K 3 (sM (fD i) (sM (fD j) (sM (fD k) F8)))):∀D σ H,upS K (yB i j k te) D σ H->Co (up K te) tg D σ H:=λD σ H h=>by
 subst s;obtain⟨M,P,H0,σ0,env,ts,DD,nv,l,t,ok⟩:=h;refine⟨M,P,H0,σ0,env,ts,_,l,t,λs1 b A H1 h1 c=>?_⟩;obtain⟨S,d1,d2,d3,rfl,hi,hj,hk,u⟩:=h1;obtain⟨a,x1,f,d,n,g,e,rfl,sq,r⟩:=c.open3;refine⟨a,_,rfl,sq,rfl,?_⟩;have o:sZ (ts++[(d,Sl.tr e d3),(f,Sl.tr g d2)]):=λw m z=>by
  rcases HX.mp z with z|z
  ·exact nv w m z
  ·simp at z
 have p:sZ (ts++[(d,Sl.tr e d3)]):=λw m z=>by
  rcases HX.mp z with z|z
  ·exact nv w m z
  ·simp at z
 have v:Rel K M P H0 σ0 σ b ((ts++[(d,.tr e d3),(f,.tr g d2)])++[(x1,.tr n d1)]) H1:=by simpa using r
 have q:=v.store o hi rfl;have q:Rel K M P H0 σ0 (σ.set i (some x1)) (b.set i (.tr n d1)) ((ts++[(d,.tr e d3)])++[(f,.tr g d2)]) H1:=by simpa using q
 have x:=q.store p (by simpa using hj) rfl;have y:=x.store nv (by simpa using hk) rfl;exact⟨x1,_,rfl,f,_,rfl,d,_,rfl,rfl,ok.nx _ _ _ (u n g e) y⟩
theorem Dn{i j k:Nat}{x y z:bt}{a p2 p3:Pos}{b:Nat}(hK:X.K=K)(hc:X.calm=true)(c:X.N.Nodup)(hi:X.N[i]? = some x)(hj:X.N[j]? = some y)(hk:X.N[k]? = some z)(hx:Loc X.env.scope x)(l:Loc X.env.scope y)(hz:Loc X.env.scope z)(m:PE X e (up K te))
  (d:X.fn x=true\/X.env.scope.names.lookup x=some .local:=by first|exact .inl rfl|exact .inr rfl|assumption) (f:X.fn y=true\/X.env.scope.names.lookup y=some .local:=by first|exact .inl rfl|exact .inr rfl|assumption) (g:X.fn z=true\/X.env.scope.names.lookup z=some .local:=by first|exact .inl rfl|exact .inr rfl|assumption)
  (n:(qb [.Name z p3] X.env).map (·.2)=Kh (.Name z p3) X.env::(qb [] X.env).map (·.2):=by rfl) (o:(qb [.Name y p2,.Name z p3] X.env).map (·.2)=Kh (.Name y p2) X.env::(qb [.Name z p3] X.env).map (·.2):=by rfl) (p:(qb [.Name x a,.Name y p2,.Name z p3] X.env).map (·.2)=Kh (.Name x a) X.env::(qb [.Name y p2,.Name z p3] X.env).map (·.2):=by rfl)
  (hn:(qb [.Name x a,.Name y p2,.Name z p3] X.env).length=3:=by rfl) (h:(qb [.Name x a,.Name y p2,.Name z p3] X.env).findIdx? (·.1)=none:=by rfl)
  (q:KI [.Tuple [.Name x a,.Name y p2,.Name z p3] b pt] e pos.line X.env=pure false:=by rfl) (hw:KJ [.Tuple [.Name x a,.Name y p2,.Name z p3] b pt] e X.env=pure none:=by rfl)
  (h1:(qb [.Tuple [.Name x a,.Name y p2,.Name z p3] b pt] X.env).map (·.2)=[Kh (.Tuple [.Name x a,.Name y p2,.Name z p3] b pt) X.env]:=by rfl):PS X (.Assign [.Tuple [.Name x a,.Name y p2,.Name z p3] b pt] e pos) (upS K (yB i j k te)) :=
 (qy m (Bk (K:=K) hK hc (eM (c9 c hi hx d) (eM (c9 c hj l f) (eM (c9 c hk hz g) oD n) o) p) hn h) q hw h1).imp (Cg rfl)
end
section
variable {X:Cx}{K:cc}{e:ba}{te:DE}{pos pos':Pos}
def Gz(i:Nat)(te:DE):DS:=λDD env=>∃n,env[i]? = some (.fr (.int n))/\te env λs a=>∃m,aZ a s=some (.int m)/\i<a.length/\DD.nx (a.set i (.fr (.int (n+m))))
theorem Dm(d:X.N.Nodup)(hi:X.N[i]? = some x)(hx:Loc X.env.scope x)(f:PE X e (up K te))(g:X.fn x=true\/X.env.scope.names.lookup x=some .local:=by first|exact .inl rfl|exact .inr rfl|assumption) :
  PS X (.AugAssign (.Name x pos') .Add e pos) (upS K (Gz i te)):=(Dw d hi hx f Ei g).imp λD σ H h=>by
 obtain⟨M,P,H0,σ0,env,ts,DD,nv,b,⟨n,j,k⟩,ok⟩:=h;obtain⟨r,e1,m1⟩:=b.slot j;obtain⟨v,ev,dn⟩:=b.e.fr _ _ m1;subst ev;have l:=dn.dv.intI;subst l;refine⟨.int n,e1,M,P,H0,σ0,env,ts,_,b,k,λs1 c o H1 h1 a=>?_⟩;obtain⟨m,ev,p,q⟩:=h1;have w:=(a.view (v:=o) (by simp) ev).int;subst w;exact⟨n,m,rfl,rfl,ok.nx _ _ _ q ((a.drop.addFr (.int (n+m))).store nv p rfl)⟩
end
section
variable {K:cc}{M P N:al->Prop}{H0 H:Hp}{E T A B:List Ent}{σ0 σ:St}{env:List Sl}{ts tt:List (V×Sl)}{v:V}{s:Sl}{d:ab}
theorem aW.foldS(h:aW K M P H0 (E++T) H)(c:H p=none)(q:OTs K (Nw M (E++T)) H vs ds S)(i:∀a∈S,a∈oas T)(l:∀a∈oas T,H0 a=none)(ns:S.Nodup):aW K M P H0 (E++[(some (.ref p),.tr (p::S) (.list ds))]) (upd H p (.lst vs)):=by
 have k:oas (E++[(some (.ref p),Sl.tr (p::S) (.list ds))])=oas E++p::S:=by rw[ae,ad,aq];simp[oas]
 have j:p ∉ oas (E++T):=λz=>by
  obtain⟨vs',q,_⟩:=h.own z;rw[c] at q;cases q
 have n:H0 p=none:=by
  cases e:H0 p with
  | none=>rfl
  | some o=>exact absurd c (h.live p (by rw[e];simp))
 have up:∀b o,H b=some o->Nw M (E++[(some (.ref p),Sl.tr (p::S) (.list ds))]) b->Nw M (E++T) b:=λb o e z=>by
  rcases z with z|z
  ·exact .inl z
  ·rw[k] at z;rcases HX.mp z with z|z
   ·exact .inr (by rw[ae];exact HV _ z)
   ·rcases Ic.mp z with z|z
    ·rw[z,c] at e;cases e
    ·exact .inr (by rw[ae];exact HQ _ (i b z))
 have d:∀x s,(x,s)∈E++[(some (.ref p),Sl.tr (p::S) (.list ds))]->(x,s)∈E++T\/(x,s)=(some (.ref p),Sl.tr (p::S) (.list ds)):=λx s m=>by
  rcases HX.mp m with m|m
  ·exact .inl (HV _ m)
  ·exact .inr (HW.mp m)
 have h':=h.same (aD.new (o:=.lst vs) c);refine⟨h'.keep,h'.live,h.mt,h.pm,λx d' m=>?_,λx d' m=>?_,λx d' m=>?_,λx S d' m=>?_,?_⟩
 ·rcases d _ _ m with m|m
  ·obtain⟨v,e,dn⟩:=h.fr x d' m;exact⟨v,e,(dn.to up).keep (aN.same (aD.new c))⟩
  ·cases m
 ·rcases d _ _ m with m|m
  ·obtain⟨a,ws,e,e2,dn,r⟩:=h.ow x d' m;exact⟨a,ws,e,aD.new c _ _ e2,(dn.to up).keep (aN.same (aD.new c)),r⟩
  ·cases m
 ·rcases d _ _ m with m|m
  ·obtain⟨a,ws,e,e2,dn,r⟩:=h.io x d' m;exact⟨a,ws,e,aD.new c _ _ e2,(dn.to up).keep (aN.same (aD.new c)),r⟩
  ·cases m
 ·rcases d _ _ m with m|m
  ·obtain⟨v,e,dn,r⟩:=h.tr x S d' m;exact⟨v,e,(dn.to up).keep (aN.same (aD.new c)) λa f=>by
    obtain⟨xs,z⟩:=dn.lives a f;rw[aD.new c _ _ z,z],r⟩
  ·cases m;exact⟨_,rfl,.lst aw (oE (q.to up) c),λa f=>(Ic.mp f).elim (λz=>by rw[z];exact n) λz=>l a (i a z)⟩
 ·rw[k];have nd:=h.nd;rw[ae] at nd j;obtain⟨t,w,u⟩:=HY.mp nd;refine HY.mpr ⟨t,Ir.mpr ⟨λz=>j (HQ _ (i p z)),ns⟩,λa f b g z=>?_⟩;rcases Ic.mp g with g|g
  ·rw[g] at z;exact j (HV _ (z▸f))
  ·exact u a f b (i b g) z
theorem Rel.resLstS(h:Rel K M P H0 σ0 σ env (ts++tt) H)(c:H p=none)(q:OTs K (Nw M (ax σ env (ts++tt))) H vs ds S)(d:∀a∈S,a∈oas (tmp tt))(f:∀a∈oas (tmp tt),H0 a=none)(ns:S.Nodup) :
  Rel K M P H0 σ0 σ env (ts++[(.ref p,.tr (p::S) (.list ds))]) (upd H p (.lst vs)):=by have b:=h.e;rw[ar] at b q;exact h.drop.withRes (b.foldS c q d f ns) rfl
theorem OT.listI(h:OT K N H v (.list ds) S):∃a vs S',v=.ref a/\S=a::S'/\H a=some (.lst vs)/\OTs K N H vs ds S':=by
 cases h with
 | lst b q=>exact⟨_,_,_,rfl,rfl,b,q⟩
theorem Rel.temL(h:Rel K M P H0 σ0 σ env ts H)(m:(v,Sl.tr S (.list ds))∈ts):∃a vs S',v=.ref a/\S=a::S'/\H a=some (.lst vs)/\OTs K (Nw M (ax σ env ts)) H vs ds S'/\∀b∈S,H0 b=none:=by obtain⟨w,c,ot,d⟩:=h.e.tr _ _ _ (d7 m);cases c;obtain⟨a,vs,S',e1,e2,f,q⟩:=ot.listI;exact⟨a,vs,S',e1,e2,f,q,d⟩
theorem OTs.chunks(h:OTs K N H vs ds S):S.Nodup->∃T:Nat->List al,(∀i,i<vs.length->OT K N H (vs.getD i .non) (ds.getD i .none) (T i)/\(∀a∈T i,a∈S)/\(T i).Nodup)/\∀i j,i<vs.length->j<vs.length->i≠j->∀a∈T i,a ∉ T j :=
 OTs.ind (C:=λvs ds S=>S.Nodup->∃T:Nat->List al,(∀i,i<vs.length->OT K N H (vs.getD i .non) (ds.getD i .none) (T i)/\(∀a∈T i,a∈S)/\(T i).Nodup)/\∀i j,i<vs.length->j<vs.length->i≠j->∀a∈T i,a ∉ T j)
  (λ_=>⟨λ_=>[],λi hi=>absurd hi (JM _),λi j hi=>absurd hi (JM _)⟩)
  (λ{x xs d ds S S'} o q f nd=>by
   obtain⟨g,k,e⟩:=HY.mp nd;obtain⟨T,t1,t2⟩:=f k;refine⟨λi=>match i with|0=>S|i+1=>T i,λi hi=>?_,λi j hi hj c a b=>?_⟩
   ·cases i with
    | zero=>exact⟨o,λa b=>HV _ b,g⟩
    | succ i =>
     obtain⟨a1,a2,a3⟩:=t1 i (Jv hi);exact⟨a1,λa b=>HQ _ (a2 a b),a3⟩
   ·cases i with
    | zero=>cases j with
     | zero=>exact absurd rfl c
     | succ j=>exactλz=>e a b a ((t1 j (Jv hj)).2.1 a z) rfl
    | succ i=>cases j with
     | zero=>exactλz=>e a z a ((t1 i (Jv hi)).2.1 a b) rfl
     | succ j=>exact t2 i j (Jv hi) (Jv hj) (λz=>c (by rw[z])) a b) h
theorem OTs.pick(h:OTs K N H vs ds S)(nd:S.Nodup)(k:p.Nodup)(e:∀i∈p,i<vs.length):∃S',OTs K N H (_L.pick p vs .non) (_L.pick p ds .none) S'/\S'.Nodup/\∀a∈S',a∈S:=by
 obtain⟨T,t1,t2⟩:=h.chunks nd
 suffices g:∀p:List Nat,p.Nodup->(∀i∈p,i<vs.length)->∃S',OTs K N H (_L.pick p vs .non) (_L.pick p ds .none) S'/\S'.Nodup/\(∀a∈S',a∈S)/\∀a∈S',∃i∈p,a∈T i by
  obtain⟨S',a,b,c,_⟩:=g p k e;exact⟨S',a,b,c⟩
 intro p
 induction p with
 | nil=>exactλ_ _=>⟨[],.nil,IS,λa d=>absurd d IJ,λa d=>absurd d IJ⟩
 | cons i p m =>
  intro k e;obtain⟨n,q⟩:=Ir.mp k;obtain⟨S',r,s,t,l⟩:=m q λj hj=>e j (HZ _ hj);have hi:=e i H9;obtain⟨o,u,v⟩:=t1 i hi;refine⟨T i++S',.cons o r,HY.mpr ⟨v,s,λa d b f z=>?_⟩,λa d=>(HX.mp d).elim (u a) (t a),λa d=>?_⟩
  ·obtain⟨j,hj,f⟩:=l b f;exact t2 i j hi (e j (HZ _ hj)) (λz=>n (z▸hj)) a d (z▸f)
  ·rcases HX.mp d with d|d
   ·exact⟨i,H9,d⟩
   ·obtain⟨j,hj,f⟩:=l a d;exact⟨j,HZ _ hj,f⟩
abbrev jF(rr:List (List Int)):List ab:=rr.map λr=>fI (r.map eC)
theorem OTs.ints:∀{r:List Int}{vs:List V}{S:List al},OTs K N H vs (r.map eC) S->OTs K N' H vs (r.map eC) S
 | [],_,_,h=>by cases h;exact .nil
 | _::_,_,_,.cons h q=>by cases h;exact .cons (.int _) q.ints
theorem OTs.rows:∀{rr:List (List Int)}{vs:List V}{S:List al},OTs K N H vs (jF rr) S->OTs K N' H vs (jF rr) S
 | [],_,_,h=>by cases h;exact .nil
 | _::_,_,_,.cons h q=>by cases h with|lst a r=>exact .cons (.lst a r.ints) q.rows
theorem OT.rows(h:OT K N H v (.list (jF rr)) S):OT K N' H v (.list (jF rr)) S:=by
 cases h with
 | lst a q=>exact .lst a q.rows
theorem aW.down(h:aW K M P H0 (A++(x,.tr S (.list ds))::B) H):aW K M P H0 (A++(x,.ow ds)::B) H:=by
 have n:(x,Sl.tr S (.list ds))∈A++(x,Sl.tr S (.list ds))::B:=HQ _ H9;obtain⟨v',z,ot,i⟩:=h.tr _ _ _ n;cases z;obtain⟨a,vs,S',rfl,rfl,o,q⟩:=ot.listI;have j:oas (A++(some (.ref a),Sl.tr (a::S') (.list ds))::B)=oas A++((a::S')++oas B):=by rw[ae,ad,aq]
 have g:oas (A++(some (.ref a),Sl.ow ds)::B)=oas A++([a]++oas B):=by rw[ae,ad];rfl
 have nd:=h.nd;rw[j] at nd;obtain⟨p,t,k⟩:=HY.mp nd;obtain⟨u,w,l⟩:=HY.mp t;obtain⟨y,D⟩:=Ir.mp u;have sub:∀b,b∈oas A++([a]++oas B)->b∈oas A++((a::S')++oas B):=λb d=>by
  simp only[HX,Ic,IJ,or_false] at d ⊢;rcases d with d|d|d
  ·exact .inl d
  ·exact .inr (.inl (.inl d))
  ·exact .inr (.inr d)
 have up:∀b,Nw M (A++(some (.ref a),Sl.ow ds)::B) b->Nw M (A++(some (.ref a),Sl.tr (a::S') (.list ds))::B) b:=Nw.sub λb z=>by
  rw[g] at z;rw[j];exact sub b z
 have C:∀b∈S',¬Nw M (A++(some (.ref a),Sl.ow ds)::B) b:=λb d z=>by
  rcases z with z|z
  ·exact h.mt b z (i b (HZ _ d))
  ·rw[g] at z;simp only[HX,Ic,IJ,or_false] at z;rcases z with z|z|z
   ·exact k b z b (HV _ (HZ _ d)) rfl
   ·exact y (z▸d)
   ·exact l b (HZ _ d) b z rfl
 have f:∀x s,(x,s)∈A++(some (.ref a),Sl.ow ds)::B->(x,s)=(some (.ref a),Sl.ow ds)\/(x,s)∈A++(some (.ref a),Sl.tr (a::S') (.list ds))::B:=λx s m=>by
  rcases HX.mp m with m|m
  ·exact .inr (HV _ m)
  ·rcases Ic.mp m with m|m
   ·exact .inl m
   ·exact .inr (HQ _ (HZ _ m))
 refine⟨h.keep,h.live,h.mt,h.pm,λx d' m=>?_,λx d' m=>?_,λx d' m=>?_,λx S d' m=>?_,?_⟩
 ·rcases f _ _ m with m|m
  ·cases m
  ·obtain⟨v,e,dn⟩:=h.fr x d' m;exact⟨v,e,dn.to λb _ _ z=>up b z⟩
 ·rcases f _ _ m with m|m
  ·cases m;exact⟨a,vs,rfl,o,q.dn up C,i a H9⟩
  ·obtain⟨b,ws,e,e2,dn,r⟩:=h.ow x d' m;exact⟨b,ws,e,e2,dn.to λb _ _ z=>up b z,r⟩
 ·rcases f _ _ m with m|m
  ·cases m
  ·obtain⟨b,ws,e,e2,dn,r⟩:=h.io x d' m;exact⟨b,ws,e,e2,dn.to λb _ _ z=>up b z,r⟩
 ·rcases f _ _ m with m|m
  ·cases m
  ·obtain⟨v,e,dn,r⟩:=h.tr x S d' m;exact⟨v,e,dn.to λb _ _ z=>up b z,r⟩
 ·rw[g];refine HY.mpr ⟨p,HY.mpr ⟨by simp,w,λb d c hc=>l b (by rw[HW.mp d];exact H9) c hc⟩,λb d c hc=>k b d c ?_⟩;rcases HX.mp hc with hc|hc
  ·exact HV _ (by rw[HW.mp hc];exact H9)
  ·exact HQ _ hc
theorem Rel.down(h:Rel K M P H0 σ0 σ env ts H)(e:env[i]? = some (.tr S (.list ds))):Rel K M P H0 σ0 σ (env.set i (.ow ds)) ts H:=by
 obtain⟨x,A,B,e1,b,c⟩:=h.split e;have a:=h.e;rw[b] at a;refine⟨by rw[c];exact a.down,by simp[h.len],h.vw,λj l' e'=>?_⟩;by_cases hj:i=j
 ·subst hj;rw[Iy (Ib.mp e).1] at e';cases e'
 ·rw[Ip hj] at e';exact h.ios j l' e'
end
section
variable {X:Cx}{K:cc}{pos:Pos}{a b e:ba}{ta tb:DE}
def dDn(i:Nat)(u:DS):DS:=λDD env=>∃S ds,env[i]? = some (.tr S (.list ds))/\u DD (env.set i (.ow ds))
theorem Az(i:Nat)(h:PSs X ss (upS K u)):PSs X ss (upS K (dDn i u)):=h.imp λD σ H h=>by
 obtain⟨M,P,H0,σ0,env,ts,DD,nv,a,⟨S,d,e,b⟩,ok⟩:=h;exact⟨M,P,H0,σ0,_,ts,DD,nv,a.down e,b,ok⟩
def B7(ta tb:DE):DE:=λenv R=>ta env λs1 a=>tb a λs2 b=>∃c d1 d d2,s1=.tr c (.list d1)/\s2=.tr d (.list d2)/\d1.length+d2.length<=sizeLine/\∀S,R (.tr S (.list (d1++d2))) b
theorem Dl(hK:X.K=K)(x:PE X a (up K ta))(f:PE X b (up K tb)):PE X (.BinOp a .Add b pos) (up K (B7 ta tb)):=(xz (dH (K:=K) hK) x f).imp λσ H Q h=>by
 obtain⟨M,P,H0,σ0,env,ts,R,n,y,A⟩:=h;refine⟨M,P,H0,σ0,env,ts,_,n,y,λs1 g o H1 h1 i=>⟨M,P,H0,σ0,g,ts++[(o,s1)],_,i,h1,λs2 j r B h2 k=>?_⟩⟩;obtain⟨s,d1,t,d2,rfl,rfl,hz,C⟩:=h2;have d:Rel K M P H0 σ0 σ j (ts++[(o,.tr s (.list d1)),(r,.tr t (.list d2))]) B:=by simpa using k
 obtain⟨a1,D,l,rfl,rfl,E,u,F⟩:=d.temL (v:=o) (S:=s) (ds:=d1) (by simp);obtain⟨a2,G,m,rfl,rfl,I,w,z2⟩:=d.temL (v:=r) (S:=t) (ds:=d2) (by simp);refine⟨a1,a2,D,G,rfl,rfl,SqL.of E,SqL.of I,by rw[u.len,w.len];exact hz,λp J=>A _ _ _ _ (C (p::(l++m))) ?_⟩;have q:oas (tmp [(V.ref a1,Sl.tr (a1::l) (.list d1)),(V.ref a2,Sl.tr (a2::m) (.list d2))])=(a1::l)++(a2::m):=by show oas [(some (V.ref a1),Sl.tr (a1::l) (.list d1)),(some (V.ref a2),Sl.tr (a2::m) (.list d2))]=_;rw[ad,ad,aq,aq];simp[oas]
 have nd:=d.e.nd;rw[ar,ae,q] at nd;obtain⟨_,L,_⟩:=HY.mp nd;obtain⟨m1,m2,N⟩:=HY.mp L;refine d.resLstS J (u.app w) (λb f=>?_) (λb f=>?_) (HY.mpr ⟨(Ir.mp m1).2,(Ir.mp m2).2,λb f c hc=>N b (HZ _ f) c (HZ _ hc)⟩)
 ·rw[q];exact(HX.mp f).elim (λz=>HV _ (HZ _ z)) λz=>HQ _ (HZ _ z)
 ·rw[q] at f;exact(HX.mp f).elim (F b) (z2 b)
def rG(k:Nat)(t:DE):DE:=λenv R=>∃S d,env[k]? = some (.tr S d)/\t ((env.map kM).set k (.fr d)) λs a=>∃b rr,s=.tr b (.list (jF rr))/\∀S,R (.tr S (.list (jF rr))) env
theorem xU:∀σ H Q,up K (rG k t) σ H Q->up K t σ H Q:=λσ H Q h=>by
 obtain⟨M,P,H0,σ0,env,ts,R,c,⟨S,d,e,A⟩,B⟩:=h;have n:=c.frzT e;have C:k<env.length:=(Ib.mp e).1;have o:∀(x:Option V) (s:Sl),(x,s)∈ax σ ((env.map kM).set k (.fr d)) []->(∃s',s=kM s')/\∀d',s=.fr d'->(x,Sl.fr d')∈ax σ (env.set k (.fr d)) ts:=λx s m=>by
  have m:(x,s)∈σ.zip ((env.map kM).set k (.fr d)):=by simpa[ax] using m
  obtain⟨j,hj,r⟩:=Il m;rw[IR,II,HS] at hj;rw[IU] at r;obtain⟨e1,e2⟩:=i4 r;rw[Jj] at e2;by_cases f:k=j
  ·rw[ME f] at e2;refine⟨⟨.fr d,e2.symm⟩,λd' hd=>HV _ ?_⟩;rw[Jq];refine⟨j,by rw[IR,II];omega,?_⟩;rw[IU,Jj,ME f,e1,e2,hd]
  ·rw[MF f,IZ] at e2;refine⟨⟨_,e2.symm⟩,λd' hd=>HV _ ?_⟩;rw[Jq];refine⟨j,by rw[IR,II];omega,?_⟩;rw[IU,Jj,MF f,e1,o7 (e2.trans hd)]
 have no:∀a,a ∉ oas (ax σ ((env.map kM).set k (.fr d)) []):=λa z=>by
  obtain⟨⟨x,s⟩,D,E⟩:=aV.mp z;obtain⟨⟨s',rfl⟩,_⟩:=o x s D;exact kL E
 refine⟨N0,N0,H,σ,_,[],_,⟨⟨aN.refl,λa z=>z,λa z=>z.elim,λa z=>z.elim,λx d m=>?_,λx ds m=>?_,λx ds m=>?_,λx S d m=>?_,?_⟩,?_,(λv j m=>by cases m),λj ds' m=>?_⟩,A,λs i v H1 h1 l=>?_⟩
 ·obtain⟨v,e1,dn⟩:=n.e.fr x d ((o x _ m).2 d rfl);exact⟨v,e1,dn.to λb _ _ z=>z.elim (λz=>z.elim) λz=>absurd z (no b)⟩
 ·obtain⟨⟨s',e1⟩,_⟩:=o _ _ m;cases s' <;> cases e1
 ·obtain⟨⟨s',e1⟩,_⟩:=o _ _ m;cases s' <;> cases e1
 ·obtain⟨⟨s',e1⟩,_⟩:=o _ _ m;cases s' <;> cases e1
 ·rw[Jd.mpr no];exact IS
 ·rw[II,HS];exact c.len
 ·have m2:=IG m;rcases JP m2 with h|h
  ·obtain⟨s,_,e1⟩:=Ig.mp h;cases s <;> cases e1
  ·cases h
 ·obtain⟨g,rr,rfl,F⟩:=h1;have p:=l.e;rw[show ax σ i ([]++[(v,Sl.tr g (.list (jF rr)))])=ax σ i []++tmp [(v,Sl.tr g (.list (jF rr)))] from ar] at p;have nd:=p.nd;obtain⟨w,G,ot,u⟩:=p.tr _ _ _ (HQ _ H9);cases G;rw[ae] at nd;have q:g.Nodup:=by
   have:=(HY.mp nd).2.1;rwa [show oas (tmp [(v,Sl.tr g (.list (jF rr)))])=g by show oas [(some v,Sl.tr g (.list (jF rr)))]=g;rw[ad,aq];simp[oas]] at this
  have rk:dN K (Nw M (ax σ env ts)) H H1 v (.tr g (.list (jF rr))):=.tr ot.rows (λa y=>⟨u a y,c.newAddr (u a y)⟩) q;exact B _ _ _ _ (F g) (c.withRes (c.e.called l.e.keep.none rk) rfl)
theorem so{sc}(k:Nat){a d:Pos}(e:X.N.Nodup)(b:X.N[i]? = some y)(f:X.env.scope.names.lookup y=some .local)(hc:X.calm=true)(S:bO X.N X.env N' ix sc)(hi:PI X tg iter (upI K it))
  (j:∀s H C fp,PG (bCx X N' sc s H C fp) tg (upG K g)) (l:∀s H C fp,PIf (bCx X N' sc s H C fp) ifs (upT K tt)) (m:∀s H C fp,PE (bCx X N' sc s H C fp) elt (up K te))
  (c:Kn (.ListComp elt [⟨tg,iter,ifs,0⟩] sc pos) (some (.Name y d)) a.line X.env=pure true:=by rfl)
  (n:∀x,zd iter X.env x=pure x:=by intro _;rfl):PS X (.Assign [.Name y d] (.ListComp elt [⟨tg,iter,ifs,0⟩] sc pos) a) (upS K (zO i (rG k (mT it ix g tt te)))):=(df e b f hc S hi j l m c n).imp (y6 λσ H Q h=>rK σ H Q (xU σ H Q h))
end
section
variable {X:Cx}{K:cc}{e:ba}{tl:DA}{q0 pos kpos lpos:Pos}{params:Ks}{scope:J5}{body:ba}{p:bt}{tb:DE}
def BO(tb:DE)(t:DA):DE:=λenv R=>t env λss a=>∃S ds b,ss=[.tr S (.list ds)]/\ds.length<64/\Cm (ds.map b)/\(∀d∈ds,qO tb d (b d))/\∀S',R (.tr S' (.list (pick (aE ((ds.map b).map dg)) ds .none))) a
theorem Da(hK:X.K=K)(L:pL X)(N:dc 4 X.A)(O:Gl X "sorted")(U:X.mg "sorted" = none)(W:PA X [e] (upA K tl))(S:az [p] [p] scope)
  (l:∀(qual:bt) (pm c ctv u:ap),k3 (Qc "<lambda>" qual params body scope [] pm c ctv) ⟨[u],[]⟩=pure [(p,u)])
  (o:J9 scope X.env=pure []) (m:KD params X.env=([],[]))
  (k:∀(A:Around) (s:av) (H:Hp) (f:al) (cd:ap),PE (pp CX0 X.prog X.w X.K X.mg X.base [p] (X.env.qual ++ "<lambda>") scope f cd A X.stack s H E0) body (up X.K tb))
  (r:qs pos (j1 [e] X.env)=(false,eval e X.env)::qs pos (j1 [] X.env):=by rfl) :
  PE X (.Call (.Name "sorted" q0) [e] [⟨some "key",.Lambda params body scope lpos,kpos⟩] pos) (up K (BO tb tl)) :=
 (uB (K:=K) (tb:=tb) hK L N O U W S l o m k r).imp λσ H Q h=>by
 obtain⟨M,P,H0,σ0,env,ts,R,t,Y,Z⟩:=h;refine⟨M,P,H0,σ0,env,ts,_,t,Y,λss n vs H1 h1 hl g=>?_⟩;obtain⟨S,ds,F,rfl,x,y,hk,hR⟩:=h1;obtain⟨v,rfl⟩:=sF hl;have g:Rel K M P H0 σ0 σ n (ts++[(v,.tr S (.list ds))]) H1:=g;obtain⟨a,us,T,rfl,rfl,G,q,z⟩:=g.temL (v:=v) (S:=S) (ds:=ds) (by simp);have B:oas (tmp [(V.ref a,Sl.tr (a::T) (.list ds))])=a::T:=by show oas [(some (V.ref a),Sl.tr (a::T) (.list ds))]=_;rw[ad,aq];simp[oas]
 have nd:=g.e.nd;rw[ar,ae,B] at nd;have C:=(Ir.mp (HY.mp nd).2.1).2;refine⟨a,us,N0,ds,ds.map F,rfl,SqL.of G,q.dn (λb z=>z.elim) (λb _ z=>z.elim),HS ..,y,λi hi=>o8 (P:=λd kd=>mh tb [d] kd) hk hi,by rw[q.len];exact x,λH2 I p' hp=>?_⟩;have j:=g.same I;obtain⟨a',D,T',e1,e2,E,J,z'⟩:=j.temL (v:=.ref a) (S:=a::T) (ds:=ds) (by simp);cases e1;cases e2;have eu:D=us:=by have:=I _ _ G;rw[E] at this;cases this;rfl
 subst eu;have pn:(aE ((ds.map F).map dg)).Nodup:=(bh _).nodup_iff.mpr Iv;obtain⟨S',q2,n2,s2⟩:=J.pick C pn λi hi=>by
  have:=b9 i hi;rw[HS,HS] at this;rw[J.len];exact this
 exact Z _ _ _ _ (hR (p'::S')) (j.resLstS hp q2 (λb l=>by rw[B];exact HZ _ (s2 b l)) (λb l=>by rw[B] at l;exact z b l) n2)
end
theorem vW(p:Nat->Bool)(f:Nat->ab)(hz:ds.length<=1000000)
  (h : ∀i,(h:i<ds.length)->∀(Q:ab->Prop) (a:Prop),(p i=true->Q (f i))->(p i=false->a)->g ds[i] (jh ix env) λb=>tt b λk c=>if k=true then te c λs j=>∃s' d,gc j s=some s'/\ft [] s'=some d/\Q d else a)
  (l:∀S,R (.tr S (.list (((di ds.length).filter p).map f))) env):CDT ds ix g tt te env R:=by
 refine⟨λi rs=>rs=((di i).filter p).map f/\i<=ds.length,⟨rfl,Iz _⟩,λi rs hi w=>?_,λrs w S=>by rw[w.1];exact l S⟩;obtain⟨rfl,_⟩:=w;refine⟨?_,?_⟩
 ·have:=IN p (di i);rw[IC] at this;rw[HS];exact Ik (by omega) ag
 ·refine h i hi _ _ (λe=>⟨?_,hi⟩) (λe=>⟨?_,hi⟩)
  ·rw[Jo,Je,IE];simp[e]
  ·rw[Jo,Je,IE];simp[e]
end _L
namespace _L
open PySem PySem.Spec PyProof.Rows
section
theorem Af(h1:Ev te env s)(e1:aZ env s=some (.bool k))(h:RT k env):mS te env RT:=h1 _ ⟨k,e1,h⟩
theorem wU(h1:Ev te env s)(e1:aZ env s=some d)(e2:yM d=some k)(h:RT k env):rF te env RT:=h1 _ ⟨d,k,e1,e2,h⟩
theorem Ah{c:Bool}{A d B e:Prop}(a:d->A)(b:e->B)(h:if c=true then d else e):if c=true then A else B:=tx (p:=c=true) (by cases c <;> rfl) a b h
theorem Ag{c:Bool}{A d B e:Prop}(a:d->A)(b:e->B)(h:if c=false then d else e):if (!c)=true then A else B:=tx (p:=c=false) (by cases c <;> rfl) a b h
theorem Hl(h1:Ev (dOp g ta tb) env s)(h:R s env):dOp g ta tb env R:=h1 _ h
theorem Fs(h1:Ev (Cv tl) env s)(h:R s env):Cv tl env R:=h1 _ h
theorem Ft(h1:Ev (zR i) env s)(h:R s env):zR i env R:=h1 _ h
end
end _L
namespace _L
open PySem PySem.Spec PyProof.Rows PySem.W
section
variable {K:cc}{M P:al->Prop}{H0 H:Hp}{σ0 σ:St}{env:List Sl}{ts:List (V×Sl)}{v:V}
theorem tG(h:Rel K M P H0 σ0 σ env (ts++[(.ref a,.tr (a::T) (.list ds))]) H):oas (tmp [(V.ref a,Sl.tr (a::T) (.list ds))])=a::T/\T.Nodup:=by
 have b:oas (tmp [(V.ref a,Sl.tr (a::T) (.list ds))])=a::T:=by show oas [(some (V.ref a),Sl.tr (a::T) (.list ds))]=_;rw[ad,aq];simp[oas]
 have nd:=h.e.nd;rw[ar,ae,b] at nd;exact⟨b,(Ir.mp (HY.mp nd).2.1).2⟩
theorem Rel.picked(h:Rel K M P H0 σ0 σ env (ts++[(.ref a,.tr (a::T) (.list ds))]) H)(l:H a=some (.lst us))(m:H d=none)(pn:ix.Nodup)(n:∀i∈ix,i<ds.length) :
  ∃S',Rel K M P H0 σ0 σ env (ts++[(.ref d,.tr S' (.list (pick ix ds .none)))]) (upd H d (.lst (pick ix us .non))):=by
 obtain⟨s,f,t,e1,e2,c,j,o⟩:=h.temL (v:=.ref a) (S:=a::T) (ds:=ds) (by simp);cases e1;cases e2;have p:f=us:=by rw[l] at c;cases c;rfl
 subst p;obtain⟨k,g⟩:=tG h;obtain⟨S',q,r,s2⟩:=j.pick g pn λi hi=>by rw[j.len];exact n i hi
 exact⟨d::S',h.resLstS m q (λb e=>by rw[k];exact HZ _ (s2 b e)) (λb e=>by rw[k] at e;exact o b e) r⟩
end
section
variable {X:Cx}{K:cc}{e:ba}{tl:DA}{q0 pos kpos lpos:Pos}{params:Ks}{scope:J5}{body:ba}{p x:bt}{i:Nat}{tb:DE}
def vI(tb:DE)(i:Nat)(t:DA):DE:=λenv R=>t env λss a=>∃S ds c b,ss=[.tr S (.list ds)]/\a[i]? = some (.fr c)/\ds.length<64/\Cm (ds.map b)/\(∀d∈ds,vj tb d c (b d))/\∀S',R (.tr S' (.list (pick (aE ((ds.map b).map dg)) ds .none))) a
theorem AA(i:Nat)(hK:X.K=K)(L:pL X)(O:dc 4 X.A)(U:Gl X "sorted")(V:X.mg "sorted" = none)(W:PA X [e] (upA K tl))(S:f7 p x scope)
  (Y:X.N[i]? = some x) (Z:Vis X.env.scope x) (k:X.env.kindOf x=some .cell\/X.env.kindOf x=some .free) (n:X.env.kindOf x≠some .local)
  (hb:∀(qual:bt) (cl:List (bt×al)) (pm c ctv u:ap),k3 (Qc "<lambda>" qual params body scope cl pm c ctv) ⟨[u],[]⟩=pure [(p,u)])
  (o:∀c,X.env.cells.lookup x=some c->J9 scope X.env=pure [(x,c)]) (l:KD params X.env=([],[]))
  (j:∀(A:Around) (s:av) (H:Hp) (f:al) (cd:ap) (c:al),dc 1 (A.deeper (envX (X.env.qual ++ "<lambda>") scope s.heap.objs.size f cd [(x,c)]))->PE (wN CX0 X.prog X.w X.K X.mg X.base [p,x] (X.env.qual ++ "<lambda>") scope f cd [(x,c)] A X.stack s H E0) body (up X.K tb))
  (t:qs pos (j1 [e] X.env)=(false,eval e X.env)::qs pos (j1 [] X.env):=by rfl) :
  PE X (.Call (.Name "sorted" q0) [e] [⟨some "key",.Lambda params body scope lpos,kpos⟩] pos) (up K (vI tb i tl)) :=
 (AS (K:=K) (tb:=tb) hK L O U V W S Y Z k n hb o l j t).imp λσ H Q h=>by
 obtain⟨M,P,H0,σ0,env,ts,R,y,ht,hq⟩:=h;refine⟨M,P,H0,σ0,env,ts,_,y,ht,λss m vs H1 h1 hl g=>?_⟩;obtain⟨S,ds,F,G,rfl,e0,B,C,hk,hR⟩:=h1;obtain⟨v,rfl⟩:=sF hl;have g:Rel K M P H0 σ0 σ m (ts++[(v,.tr S (.list ds))]) H1:=g;obtain⟨a,us,T,rfl,rfl,I,q,z⟩:=g.temL (v:=v) (S:=S) (ds:=ds) (by simp);obtain⟨x0,ex,m0⟩:=g.slot e0;obtain⟨v0,D,E⟩:=g.e.fr _ _ m0;refine⟨a,us,N0,ds,ds.map G,rfl,SqL.of I,q.dn (λb z=>z.elim) (λb _ z=>z.elim),HS ..,C,λi hi=>⟨v0,F,by rw[ex,D],E.to λb _ _ z=>z.elim,o8 (P:=λd kd=>mh tb [d,F] kd) hk hi⟩,by rw[q.len];exact B,λH2 J p' hp=>?_⟩;have pn:(aE ((ds.map G).map dg)).Nodup:=(bh _).nodup_iff.mpr Iv;obtain⟨S',r⟩:=(g.same J).picked (J _ _ I) hp pn λi hi=>by
  have:=b9 i hi;rwa [HS,HS] at this
 exact hq _ _ _ _ (hR S') r
end
section
variable {X:Cx}{K:cc}{pos:Pos}
theorem Rel.alone(f:σ.length=env.length)(h:∀(x:Option V) (s:Sl),(x,s)∈σ.zip env->s=.un\/∃d v,s=.fr d/\x=some v/\DN K N0 H v d):Rel K N0 N0 H σ σ env [] H:=by
 have c:ax σ env []=σ.zip env:=by simp[ax,tmp]
 have no:∀a,a ∉ oas (ax σ env []):=λa z=>by
  rw[c] at z;obtain⟨⟨x,s⟩,g,e⟩:=aV.mp z;rcases h x s g with rfl|⟨d,v,rfl,rfl,_⟩
  ·simp[cx] at e
  ·simp[cx] at e
 refine⟨⟨aN.refl,λa z=>z,λa z=>z.elim,λa z=>z.elim,λx d m=>?_,λx ds m=>?_,λx ds m=>?_,λx S d m=>?_,?_⟩,f,(λv j m=>by cases m),λj ds' m=>rfl⟩
 ·rw[c] at m;rcases h x _ m with z|⟨d',v,e1,e2,dn⟩
  ·cases z
  ·cases e1;exact⟨v,e2,dn.to λb _ _ z=>z.elim (λz=>z.elim) λz=>absurd z (no b)⟩
 ·rw[c] at m;rcases h _ _ m with z|⟨d',v,e1,_⟩
  ·cases z
  ·cases e1
 ·rw[c] at m;rcases h _ _ m with z|⟨d',v,e1,_⟩
  ·cases z
  ·cases e1
 ·rw[c] at m;rcases h _ _ m with z|⟨d',v,e1,_⟩
  ·cases z
  ·cases e1
 ·rw[Jd.mpr no];exact IS
def B0(k i:Nat)(tt:DT):DS:=λDD env=>∃(S:List al) (ds:List ab) (p:Nat->Bool),env[k]? = some (.tr S (.list ds))/\i<env.length/\ds.length<=1000000 /\
 (∀j (h:j<ds.length),tt [.fr ds[j],.fr (.list ds)] λb _=>b=p j)/\∀S',DD.nx ((env.set k .un).set i (.tr S' (.list (pick ((di ds.length).filter p) ds .none))))
theorem ui{sc}(k:Nat){F u G py n:Pos}(hN:X.N.Nodup)(hK:X.K=K)(hk:X.N[k]? = some r)(I:Vis X.env.scope r)(J:X.N[i]? = some y)(hy:X.env.scope.names.lookup y=some .local)(hc:X.calm=true)(S:bO X.N X.env [x,r] [none,some k] sc)
  (hg:∀s H C fp,PG (bCx X [x,r] sc s H C fp) (.Name x u) (fD 0)) (ht:∀s H C fp,PIf (bCx X [x,r] sc s H C fp) [c] (upT K tt)) (he:∀s H C fp,PE (bCx X [x,r] sc s H C fp) (.Name x F) (iE 0))
  (L:(r==("__debug__" : bt))=false:=by decide) (O:(r==("__classdict__" : bt))=false:=by decide)
  (Q:Kn (.ListComp (.Name x F) [⟨.Name x u,.Name r G,[c],0⟩] sc pos) (some (.Name y py)) n.line X.env=pure true:=by rfl)
  (hs:∀x,zd (.Name r G) X.env x=pure x:=by intro _;rfl):PS X (.Assign [.Name y py] (.ListComp (.Name x F) [⟨.Name x u,.Name r G,[c],0⟩] sc pos) n) (upS K (B0 k i tt)):=by
 subst hK;refine(df hN J hy hc S (iN (aG hk I L O)) hg ht he Q hs).imp λD σ H h=>?_;obtain⟨M,P,H0,σ0,env,ts,DD,nv,R,⟨S,ds,p,e,hi,hz,U,hR⟩,ok⟩:=h;obtain⟨v,ev,t⟩:=R.move e rfl;obtain⟨a,us,T,rfl,rfl,W,q,z⟩:=t.temL (v:=v) (S:=S) (ds:=ds) (by simp);have Y:∀d,aD H d->DN X.K N0 d (.ref a) (.list ds):=λd w=>by
  have:=(OT.lst W q).dn (M:=N0) (λb z=>z.elim) (λb _ z=>z);exact this.keep (aN.same w)
 have dns:DNs X.K N0 H us ds:=q.dn (M:=N0) (λb z=>z.elim) (λb _ z=>z);have ul:us.length=ds.length:=q.len;refine⟨.ref a,ev,a,rfl,⟨us,SqL.of W⟩,λj m ys d=>m=ds.length - j/\j<=ds.length/\ys=pick ((di j).filter p) us .non/\aD H d,⟨_,rfl,Iz _,rfl,λ_ _ e=>e⟩,?_⟩;rintro j m ys d ⟨rfl,hj,rfl,w⟩;have f:=w _ _ W;by_cases g:j<ds.length
 ·have l:j<us.length:=by omega
  have ly:(pick ((di j).filter p) us V.non).length<=j:=by have:=IN p (di j);rw[IC] at this;simpa[pick] using this
  refine .inr ⟨⟨us,us[j],SqL.of f,HR l⟩,Jf ly (Ik g (Ie hz ag)),λB H'=>B=pick ((di (j+1)).filter p) us .non/\aD H H',λB H' z=>⟨ds.length - (j+1),by omega,rfl,g,z.1,z.2⟩,λx H' yl=>?_⟩;obtain⟨eh,ex⟩:=yl;rw[eh];clear eh;have ex:=ex us (SqL.of f);rw[HR l] at ex;cases ex;have Z:fE σ [none,some k]=[none,some (.ref a)]:=by show[none,(σ[k]?).join]=_;rw[ev];rfl
  show upT X.K tt ((fE σ [none,some k]).set 0 (some us[j])) d _;rw[Z];show upT X.K tt [some us[j],some (.ref a)] d _;have a0:DN X.K N0 d us[j] ds[j]:=by obtain⟨x,ex,dx⟩:=(dns.keep (aN.same w)).item g;rw[HR l] at ex;cases ex;exact dx
  have rb:=Rel.alone (K:=X.K) (H:=d) (σ:=[some us[j],some (.ref a)]) (env:=[.fr ds[j],.fr (.list ds)]) rfl λx s m=>by
   simp only[LZ,List.zip_nil_right,Ic,IJ,or_false] at m;rcases m with m|m
   ·cases m;exact .inr ⟨_,_,rfl,rfl,a0⟩
   ·cases m;exact .inr ⟨_,_,rfl,rfl,Y d w⟩
  refine⟨_,_,_,_,_,[],_,rb,U j g,λb env' H3 hb E=>?_⟩;have s3:aD H H3:=λb o e=>E.e.keep b o (λz=>z) (w b o e);subst hb;have er:(di (j+1)).filter p=(di j).filter p++if p j=true then [j] else []:=by
   rw[Jo,Je]
   congr 1
   by_cases A:p j=true
   ·simp[A]
   ·simp[A]
  by_cases A:p j=true
  ·rw[ME A];refine⟨us[j],rfl,?_,s3⟩;rw[er,ME A];simp[pick,HU,HR l]
  ·rw[MF A];refine⟨?_,s3⟩;rw[er,MF A,IM]
 ·have e2:j=ds.length:=by omega
  subst e2;refine .inl ⟨⟨us,SqL.of f,by omega⟩,λpn a4=>?_⟩;obtain⟨S',r⟩:=(t.same w).picked f a4 (Iv.filter _) λi hi=>Io.mp (Iw.mp hi).1;exact ok.nx _ _ _ (hR S') (r.store nv (by rw[II];exact hi) rfl)
end
abbrev wT(w:List (List Int)):ab:=.list (jF w)
def wyD(W:List (List (List Int))):ab:=.list (W.map wT)
section
variable {K:cc}{M P N:al->Prop}{H0 H:Hp}{σ0 σ:St}{env:List Sl}{ts:List (V×Sl)}{v:V}
theorem OTs.lastT(h:OTs K N H vs ((W++[w]).map wT) S) :
  ∃vs' S' b us a,vs=vs'++[.ref b]/\S=S'++(b::a)/\OTs K N H vs' (W.map wT) S'/\H b=some (.lst us)/\OTs K N H us (jF w) a:=by
 induction W generalizing vs S with
 | nil =>
  rw[J2,ID,sj] at h;cases h with
  | cons h q =>
   cases q;obtain⟨b,us,a,rfl,rfl,c,d⟩:=h.listI;exact⟨[],[],b,us,a,rfl,by simp,.nil,c,d⟩
 | cons i W e =>
  rw[I7,ID] at h;cases h with
  | @cons x xs _ _ f j h q =>
   obtain⟨vs',S',b,us,a,e1,e2,g,c,d⟩:=e q;subst e1 e2;exact⟨x::vs',f++S',b,us,a,rfl,by simp,.cons h g,c,d⟩
theorem OTs.snocT(q:OTs K N H vs (W.map wT) S)(c:H b=some (.lst us))(d:OTs K N H us (jF w) a) :
  OTs K N H (vs++[.ref b]) ((W++[w]).map wT) (S++(b::a)):=by rw[IE];refine q.app ?_;have:=OTs.cons (OT.lst c d) (OTs.nil (K:=K) (N:=N) (H:=H));simpa using this
theorem Rel.waysT{i:Nat}{S:List al}{W:List (List (List Int))}{w:List (List Int)}(h:Rel K M P H0 σ0 σ env ts H)(e:env[i]? = some (.tr S (wyD (W++[w])))) :
  ∃a vs S' b us d,σ[i]? = some (some (.ref a))/\S=a::(S'++(b::d))/\S.Nodup/\(∀c∈S,Nw M (ax σ env ts) c)/\H a=some (.lst (vs++[.ref b]))/\OTs K (Nw M (ax σ env ts)) H vs (W.map wT) S'/\H b=some (.lst us)/\OTs K (Nw M (ax σ env ts)) H us (jF w) d:=by
 obtain⟨x,A,B,e1,j,r⟩:=h.split e;obtain⟨s,f,m⟩:=h.slot e;obtain⟨v,ev,ot,_⟩:=h.e.tr _ _ _ m;rw[e1] at f;cases f;subst ev;obtain⟨a,k,t,rfl,rfl,l,q⟩:=OT.listI ot;obtain⟨vs',S',b,us,d,rfl,rfl,n,o,p⟩:=OTs.lastT q;have g:oas (ax σ env ts)=oas A++((a::(S'++(b::d)))++oas B):=by rw[j,ae,ad,aq]
 have nd:=h.e.nd;rw[g] at nd;refine⟨a,vs',S',b,us,d,e1,rfl,(HY.mp (HY.mp nd).2.1).1,λc hc=>.inr ?_,l,n,o,p⟩;rw[g];exact HQ _ (HV _ hc)
theorem Rel.addUn(h:Rel K M P H0 σ0 σ env ts H):Rel K M P H0 σ0 σ env (ts++[(v,.un)]) H:=by
 refine⟨?_,h.len,λw i m=>?_,h.ios⟩
 ·rw[ar];refine h.e.sub (λx t m=>?_) ?_
  ·rcases HX.mp m with m|m
   ·exact .inl m
   ·have m:=HW.mp m;injection m with m1 m2;exact .inr (.inl m2)
  ·rw[ae];show(oas _++oas [(some v,Sl.un)]).Nodup;rw[ad,bZ];simpa[oas] using h.e.nd
 ·rcases HX.mp m with m|m
  ·exact h.vw w i m
  ·rw[HW] at m;cases m
end
section
variable {X:Cx}{K:cc}{pos npos:Pos}{y:bt}{j j2:Nat}{p3 p4 p5 apos cpos:Pos}
def pi(i:Nat):DT:=λenv R=>∃(S:List al) (W:List (List (List Int))) (w:List (List Int)),env[i]? = some (.tr S (wyD (W++[w])))/\R (!w.isEmpty) env
theorem ue(i:Nat)(hK:X.K=K)(g:X.N[i]? = some y)(k:Vis X.env.scope y:=by first|exact o0 rfl|exact eb da|exact eb (eb rfl))(hd:(y==("__debug__" : bt))=false:=by decide)
  (f:(y==("__classdict__" : bt))=false:=by decide) (l:gH (.UnaryOp .USub (.Constant (.int 1) j p3) p4):=by intro _ _;rfl)
  (m:∀c,K2 (.Subscript (.Name y npos) (.UnaryOp .USub (.Constant (.int 1) j p3) p4) pos) X.env c=(do let v <-c;Kz (Expr.pos (.Subscript (.Name y npos) (.UnaryOp .USub (.Constant (.int 1) j p3) p4) pos));Kd [v] (Qs v)):=by intro _;rfl) :
  PT X (.Subscript (.Name y npos) (.UnaryOp .USub (.Constant (.int 1) j p3) p4) pos) (upT K (pi i)) :=
 (zy (K:=K) hK (ia (ai hK) (aG g k hd f) uD l) m).imp λσ H Q h=>by
 obtain⟨M,P,H0,σ0,env,ts,R,d,⟨S,W,w,e,n⟩,o⟩:=h;obtain⟨a,vs,S',b,us,x,p,_,_,_,q,_,s,t⟩:=d.waysT e;refine⟨.ref a,p,.inl ⟨a,_,-1,.ref b,rfl,rfl,SqL.of q,dj _ _,_,.inl ⟨us,SqL.of s,?_⟩,o _ _ _ n d⟩⟩;have:=t.len;cases us with
 | nil=>cases w with
  | nil=>rfl
  | cons r w=>simp at this
 | cons u us=>cases w with
  | nil=>simp at this
  | cons r w=>rfl
def vL(i:Nat):DE:=λenv R=>∃(S:List al) (W:List (List (List Int))) (r:List Int) (w:List (List Int)),env[i]? = some (.tr S (wyD (W++[r::w])))/\∀S',R .un (env.set i (.tr S' (wyD (W++[w]))))
theorem AD(i:Nat)(hK:X.K=K)(G:X.N[i]? = some y)(I:Vis X.env.scope y:=by first|exact o0 rfl|exact eb da|exact eb (eb rfl))(hd:(y==("__debug__" : bt))=false:=by decide)
  (n:(y==("__classdict__" : bt))=false:=by decide) (J:gH (.UnaryOp .USub (.Constant (.int 1) j p3) p4):=by intro _ _;rfl)
  (k:j1 [.Constant (.int 0) j2 p5] X.env=[(false,eval (.Constant (.int 0) j2 p5) X.env)]:=by rfl)
  (f:z3 (.Subscript (.Name y npos) (.UnaryOp .USub (.Constant (.int 1) j p3) p4) pos) "pop" X.env (eval (.Subscript (.Name y npos) (.UnaryOp .USub (.Constant (.int 1) j p3) p4) pos) X.env)=eval (.Subscript (.Name y npos) (.UnaryOp .USub (.Constant (.int 1) j p3) p4) pos) X.env:=by rfl)
  (l:((qs cpos (j1 [.Constant (.int 0) j2 p5] X.env)).all (λx=>!x.1)&&(KF cpos (Kf [] X.env)).all (λx=>x.1.isSome)&&decide ([Expr.Constant (.int 0) j2 p5].length+([]:List Ke).length+(if ([]:List Ke).isEmpty then 0 else 1)<30))=true:=by rfl)
  (g:(apos.endLine==cpos.line)=true:=by rfl) (d:(qs cpos (j1 [] X.env)).any (·.1)=false:=by rfl) :
  PE X (.Call (.Attribute (.Subscript (.Name y npos) (.UnaryOp .USub (.Constant (.int 1) j p3) p4) pos) "pop" apos) [.Constant (.int 0) j2 p5] [] cpos) (up K (vL i)) :=
 (kBm (K:=K) hK ei sh sg xM (ia (ai hK) (aG G I hd n) uD J) (aA bU bA k) f l g k d).imp λσ H Q h=>by
 obtain⟨M,P,H0,σ0,env,ts,R,m,⟨S,W,r,w,e,L⟩,O⟩:=h;obtain⟨a,vs,S',b,us,T,B,C,o,p,D,q,E,s⟩:=m.waysT e;have s:OTs K (Nw M (ax σ env ts)) H us (.list (r.map .int)::jF w) T:=s;cases s with
 | @cons u us _ _ t v o1 U =>
  refine⟨.ref a,B,.inl ⟨a,_,-1,.ref b,rfl,rfl,SqL.of D,dj _ _,.inl ⟨rfl,_,SqL.of E⟩,b,_,0,0,u,rfl,rfl,E,by decide,by decide,by simp[QC],rfl,O _ _ _ _ (L (a::(S'++(b::v)))) (Rel.addUn ?_)⟩⟩;have mb:b∈S:=by rw[C];simp
  have kN:aN (Nw M (ax σ env ts)) H (upd H b (.lst us)):=aN.own (p b mb);subst C;obtain⟨V,Y⟩:=Ir.mp o;obtain⟨n3,Z,n5⟩:=HY.mp Y;obtain⟨n6,n7⟩:=Ir.mp Z;have A:a≠b:=λz=>V (by rw[z];simp);refine m.retreeT (R:=t) e B mb ?_ ?_
  ·refine LS _ ?_;show(S'++b::(t++v)).Perm ((S'++b::v)++t);rw[Ja];refine fo _ ?_;refine LS _ ?_;exact JA
  ·refine .lst (by rw[am A];exact D) ?_;exact OTs.snocT (q.keep kN λc hc=>am λz=>n5 c hc b (by simp) z) aw (U.keep kN λc hc=>am λz=>n6 (by rw[<-z];exact HQ _ hc))
def BR(i:Nat):DE:=λenv R=>∃(S:List al) (W:List (List (List Int))) (w:List (List Int)),env[i]? = some (.tr S (wyD (W++[w])))/\∀S',R .un (env.set i (.tr S' (wyD W)))
theorem De(i:Nat)(hK:X.K=K)(s:X.N[i]? = some y)(t:Vis X.env.scope y:=by first|exact o0 rfl|exact eb da|exact eb (eb rfl))(hd:(y==("__debug__" : bt))=false:=by decide)
  (j:(y==("__classdict__" : bt))=false:=by decide)
  (d:z3 (.Name y npos) "pop" X.env (eval (.Name y npos) X.env)=eval (.Name y npos) X.env:=by rfl) (f:(apos.endLine==cpos.line)=true:=by rfl) :
  PE X (.Call (.Attribute (.Name y npos) "pop" apos) [] [] cpos) (up K (BR i)) :=
 (G8 (K:=K) hK ei sh sg zo (aG s t hd j) d f).imp λσ H Q h=>by
 obtain⟨M,P,H0,σ0,env,ts,R,g,⟨S,W,w,e,u⟩,v⟩:=h;obtain⟨a,vs,S',b,us,m,n,x,k,l,p,q,B,C⟩:=g.waysT e;subst x;refine⟨.ref a,n,.inl ⟨rfl,_,SqL.of p⟩,a,_,.ref b,rfl,rfl,p,by simp,v _ _ _ _ (u (a::S')) (Rel.addUn ?_)⟩;have r:a∈a::(S'++(b::m)):=H9;have kN:aN (Nw M (ax σ env ts)) H (upd H a (.lst vs)):=aN.own (l a r);obtain⟨A,D⟩:=Ir.mp k;rw[LI];exact g.retreeT (o:=.lst vs) (S':=a::S') (R:=b::m) (d':=wyD W) e n r (by simp) (.lst aw (q.keep kN λc hc=>am λz=>A (by rw[<-z];simp[hc])))
end
def eY:Sl->Sl
 | .fr d=>.fr d
 | .ow ds=>.fr (.list ds)
 | .tr _ d=>.fr d
 | _=>.un
section
variable {K:cc}{M P N:al->Prop}{H0 H H':Hp}{σ0 σ:St}{env:List Sl}{ts:List (V×Sl)}{v:V}{d:ab}
theorem qK:a ∉ cx (x,eY s):=λz=>by
 rcases fR z with⟨_,⟨ds,e⟩|⟨ds,e⟩⟩|⟨S,d,e,_⟩ <;> cases s <;> cases e
theorem Rel.lentA(h:Rel K M P H0 σ0 σ env ts H):Rel K M N0 H σ σ (env.map eY) [] H:=by
 have c:∀(x:Option V) (s:Sl),(x,s)∈ax σ (env.map eY) []->∃s',s=eY s'/\(x,s')∈ax σ env ts:=λx s m=>by
  have m:(x,s)∈σ.zip (env.map eY):=by simpa[ax] using m
  rw[LY] at m;obtain⟨⟨q,s'⟩,f,e⟩:=Ig.mp m;cases e;exact⟨s',rfl,HV _ f⟩
 have no:∀a,a ∉ oas (ax σ (env.map eY) []):=λa z=>by
  obtain⟨⟨x,s⟩,o,p⟩:=aV.mp z;obtain⟨s',rfl,_⟩:=c x s o;exact qK p
 have g:∀b,Nw M (ax σ (env.map eY) []) b->M b:=λb z=>z.elim id λz=>absurd z (no b);have n:∀a,H0 a=none->¬Nw M (ax σ (env.map eY) []) a:=λa e z=>h.e.mt a (g a z) e;refine⟨⟨aN.refl,λa z=>z,λa z=>h.e.live a (h.e.mt a z),λa z=>z.elim,λx d m=>?_,λx ds m=>?_,λx ds m=>?_,λx S d m=>?_,?_⟩,by rw[HS];exact h.len,(λv j m=>by cases m),λj ds' m=>rfl⟩
 ·obtain⟨s',e,f⟩:=c x _ m;cases s' with
  | fr d' =>
   cases e;obtain⟨v,e1,dn⟩:=h.e.fr x _ f;exact⟨v,e1,dn.to λb _ _ z=>.inl (g b z)⟩
  | ow ds =>
   cases e;obtain⟨a,vs,e1,k,dns,l⟩:=h.e.ow x _ f;exact⟨_,e1,.lst (SnL.of k (n a l)) (dns.to λb _ _ z=>.inl (g b z))⟩
  | tr S d' =>
   cases e;obtain⟨v,e1,ot,l⟩:=h.e.tr x _ _ f;exact⟨v,e1,ot.dn (λb z=>.inl (g b z)) λa k=>n a (l a k)⟩
  | un=>cases e
  | io ds=>cases e
  | vw i=>cases e
 ·obtain⟨s',e,_⟩:=c _ _ m;cases s' <;> cases e
 ·obtain⟨s',e,_⟩:=c _ _ m;cases s' <;> cases e
 ·obtain⟨s',e,_⟩:=c _ _ m;cases s' <;> cases e
 ·rw[Jd.mpr no];exact IS
theorem OT.lst1(h:OT K N H v d S):∀a∈S,∀us,¬Rd H a (.tup us) :=
 OT.rec (motive_1:=λv d S _=>∀a∈S,∀us,¬Rd H a (.tup us)) (motive_2:=λv d S _=>∀a∈S,∀us,¬Rd H a (.tup us))
 (λ_ h=>nomatch h) (λ_ _ h=>nomatch h) (λ_ _ h=>nomatch h)
 (λh _ q a b=>(Ic.mp b).elim (λe us z=>by
  subst e;rcases z with z|⟨o,z⟩
  ·rw[h] at z;cases z
  ·rw[h] at z;cases z) (q a)) (λ_ _ q=>q)
 (λh _ _ _ a b us z=>by
  have b:=HW.mp b;subst b;rcases z with z|⟨o,z⟩
  ·rw[h] at z;cases z
  ·rw[h] at z;cases z) (λ_ _ h=>nomatch h) (λ_ h=>nomatch h) (λ_ _ h q a b=>(HX.mp b).elim (h a) (q a)) h
theorem aW.noTup(h:aW K M P H0 E H)(f:a∈oas E)(us:List V):¬Rd H a (.tup us):=by
 obtain⟨⟨x,s⟩,c,g⟩:=aV.mp f;rcases fR g with⟨e1,⟨ds,e2⟩|⟨ds,e2⟩⟩|⟨S,d,e2,ms⟩
 ·simp only at e1 e2;subst e1 e2;obtain⟨b,vs,q,e,_⟩:=h.ow _ _ c;cases q;rintro(z|⟨o,z⟩) <;> rw[e] at z <;> cases z
 ·simp only at e1 e2;subst e1 e2;obtain⟨b,vs,q,e,_⟩:=h.io _ _ c;cases q;rintro(z|⟨o,z⟩) <;> rw[e] at z <;> cases z
 ·simp only at e2;subst e2;obtain⟨v,q,ot,_⟩:=h.tr _ _ _ c;exact ot.lst1 a ms us
theorem DN.noLto(m:∀b us,Rd H b (.tup us)->M b->N b)(h:DN K N H v d):noL d=true->DN K M H v d :=
 DN.rec (motive_1:=λv d _=>noL d=true->DN K M H v d) (motive_2:=λv d _=>gr d=true->DNs K M H v d)
 (λ_=>.non) (λb _=>.bl b) (λi _=>.int i)
 (λ_ _ _ e=>by simp[noL] at e) (λh _ i e=>.tup (h.elim (λz=>.inl ⟨z.1,λw=>z.2 (m _ _ z.1 w)⟩) .inr) (i (by simpa[noL] using e)))
 (λ_ _ _ _ _ _ _ e=>by simp[noL] at e) (λ_ _ e=>by simp[noL] at e) (λ_=>.nil)
 (λ{_ _ d ds} _ _ i j e=>by
  have e:(noL d&&gr ds)=true:=e;obtain⟨e1,e2⟩:=Jr.mp e;exact .cons (i e1) (j e2)) h
theorem Rel.unlent(h:Rel K M P H0 σ0 σ env ts H)(h1:Rel K M N0 H σ σ a [(v,.fr d)] H')(f:noL d=true):Rel K M P H0 σ0 σ env (ts++[(v,.fr d)]) H':=by
 have c:=h.same h1.e.keep.none;obtain⟨w,g,dn⟩:=h1.e.fr (some v) d (HQ _ H9);cases g;refine c.addFr (dn.noLto (λb us r z=>?_) f);rcases z with z|z
 ·exact .inl z
 ·exact absurd r (c.e.noTup z us)
end
section
variable {X:Cx}{K:cc}{e:ba}
def vP(t:DE):DE:=λenv R=>t (env.map eY) λs _=>∃d,s=.fr d/\noL d=true/\R (.fr d) env
theorem oj(h:PE X e (up K t)):PE X e (up K (vP t)):=h.imp λσ H Q h=>by
 obtain⟨M,P,H0,σ0,env,ts,R,a,f,g⟩:=h;refine⟨M,N0,H,σ,_,[],_,a.lentA,f,λs c v H1 h1 b=>?_⟩;obtain⟨d,rfl,i,j⟩:=h1;exact g _ _ _ _ j (a.unlent b i)
def pe(t:DT):DT:=λenv R=>t (env.map eY) λb _=>R b env
theorem kh(h:PT X e (upT K t)):PT X e (upT K (pe t)):=h.imp λσ H Q h=>by
 obtain⟨M,P,H0,σ0,env,ts,R,a,f,g⟩:=h;exact⟨M,N0,H,σ,_,[],_,a.lentA,f,λb d H1 h1 c=>g _ _ _ h1 (a.same c.e.keep.none)⟩
end
section
variable {K:cc}{N:al->Prop}{H:Hp}
theorem OTs.heads{W:List (List (List Int))}{vs:List V}{S:List al}(h:OTs K N H vs (W.map wT) S)(hw:∀w∈W,w≠[])(nd:S.Nodup) :
  ∃us S',OTs K N H us (jF (W.map λw=>w.headD [])) S'/\S'.Nodup/\(∀a∈S',a∈S)/\us.length=vs.length/\∀j,j<vs.length->∃b ws,vs[j]? = some (.ref b)/\H b=some (.lst (us.getD j .non::ws)):=by
 induction W generalizing vs S with
 | nil =>
  cases h;exact⟨[],[],.nil,IS,λa z=>z,rfl,λj z=>absurd z (JM _)⟩
 | cons w W k =>
  rw[ID] at h;cases h with
  | @cons x xs _ _ C D h q =>
   obtain⟨l,m,n⟩:=HY.mp nd;obtain⟨us,S',o,p,i,s,t⟩:=k q (λw e=>hw w (HZ _ e)) m;obtain⟨b,f,v,rfl,rfl,y,g⟩:=h.listI;cases w with
   | nil=>exact absurd rfl (hw [] H9)
   | cons r w =>
    have g:OTs K N H f (.list (r.map .int)::jF w) v:=g;cases g with
    | @cons u us1 _ _ A E B F =>
     have hd:=(HY.mp (Ir.mp l).2).1;refine⟨u::us,A++S',.cons B o,HY.mpr ⟨hd,p,λa d c hc z=>n a (HZ _ (HV _ d)) c (i c hc) z⟩,λa d=>?_,by simp[s],λj hj=>?_⟩
     ·rcases HX.mp d with d|d
      ·exact HV _ (HZ _ (HV _ d))
      ·exact HQ _ (i a d)
     ·cases j with
      | zero=>exact⟨b,us1,rfl,y⟩
      | succ j =>
       obtain⟨c,ws,e1,e2⟩:=t j (Jv hj);exact⟨c,ws,e1,e2⟩
end
section
variable {X:Cx}{K:cc}{pos:Pos}
def vQ(k i:Nat):DS:=λDD env=>∃(S:List al) (W:List (List (List Int))),env[k]? = some (.tr S (wyD W))/\i<env.length/\W.length<=1000000/\(∀w∈W,w≠[]) /\
 ∀S',DD.nx ((env.set k .un).set i (.tr S' (.list (jF (W.map λw=>w.headD [])))))
theorem sk{sc}(k:Nat){E p5 l F py g p6:Pos}(hN:X.N.Nodup)(hK:X.K=K)(hk:X.N[k]? = some r)(G:Vis X.env.scope r)(I:X.N[i]? = some y)(hy:X.env.scope.names.lookup y=some .local)(hc:X.calm=true)(S:bO X.N X.env [x] [none] sc)
  (J:∀s H C fp,PG (bCx X [x] sc s H C fp) (.Name x l) (fD 0)) (he:∀s H C fp,PE (bCx X [x] sc s H C fp) (.Name x E) (iE 0))
  (L:gH (.Constant (.int 0) B p5):=by intro _ _;rfl)
  (O:(r==("__debug__" : bt))=false:=by decide) (Q:(r==("__classdict__" : bt))=false:=by decide)
  (R:Kn (.ListComp (.Subscript (.Name x E) (.Constant (.int 0) B p5) p6) [⟨.Name x l,.Name r F,[],0⟩] sc pos) (some (.Name y py)) g.line X.env=pure true:=by rfl)
  (d:∀x,zd (.Name r F) X.env x=pure x:=by intro _;rfl):PS X (.Assign [.Name y py] (.ListComp (.Subscript (.Name x E) (.Constant (.int 0) B p5) p6) [⟨.Name x l,.Name r F,[],0⟩] sc pos) g) (upS K (vQ k i)):=by
 subst hK;refine(df hN I hy hc S (iN (aG hk G O Q)) J (λ_ _ _ _=>oC) (λs H C fp=>ia (ai (K:=X.K) rfl) (he s H C fp) bU L) R d).imp λD σ H h=>?_;obtain⟨M,P,H0,σ0,env,ts,DD,nv,U,⟨S,W,e,hi,hz,hw,hR⟩,ok⟩:=h;obtain⟨v,ev,c⟩:=U.move e rfl;obtain⟨a,us,T,rfl,rfl,ga,q,z⟩:=c.temL (v:=v) (S:=S) (ds:=W.map wT) (by simp[wyD]);obtain⟨A,Y⟩:=tG c;have A:oas (tmp [(V.ref a,Sl.tr (a::T) (wyD W))])=a::T:=A;obtain⟨d,S',q1,n1,s1,hl,J⟩:=q.heads hw Y;have ul:us.length=W.length:=by rw[q.len,HS]
 refine⟨.ref a,ev,a,rfl,⟨us,SqL.of ga⟩,λj m ys H2=>m=W.length - j/\j<=W.length/\ys=d.take j/\aD H H2,⟨_,rfl,Iz _,rfl,λ_ _ e=>e⟩,?_⟩;rintro j m ys H2 ⟨rfl,hj,rfl,p⟩;have n:=p _ _ ga;by_cases u:j<W.length
 ·have f:j<us.length:=by omega
  have ly:(d.take j).length<=j:=List.length_take_le ..;refine .inr ⟨⟨us,us[j],SqL.of n,HR f⟩,Jf ly (Ik u (Ie hz ag)),λw H'=>w=d.take (j+1)/\aD H H',λw H' z=>⟨W.length - (j+1),by omega,rfl,u,z.1,z.2⟩,λx H' yl=>?_⟩;obtain⟨eh,ex⟩:=yl;rw[eh];clear eh;have ex:=ex us (SqL.of n);rw[HR f] at ex;cases ex;obtain⟨b,ws,e1,e2⟩:=J j f;rw[HR f] at e1;have e1:=du e1;refine⟨us[j],rfl,.inl ⟨b,_,0,d.getD j .non,e1,rfl,SqL.of (p _ _ e2),by simp[atI,ixN],?_,p⟩⟩;have Z:j<d.length:=by omega
  rw[List.take_succ];simp[HU,HR Z]
 ·have e2:j=W.length:=by omega
  subst e2;refine .inl ⟨⟨us,SqL.of n,by omega⟩,λpn a0=>?_⟩;have et:d.take W.length=d:=Jg (by omega);rw[et];have rs:=c.same p;have q2:=q1.keep (aN.same (N:=Nw M (ax σ (env.set k .un) (ts++[(V.ref a,Sl.tr (a::T) (wyD W))]))) p) λb t=>by
   obtain⟨o,z⟩:=q1.lives b t;rw[p _ _ z,z]
  have r2:=rs.resLstS a0 q2 (λb t=>by rw[A];exact HZ _ (s1 b t)) (λb t=>by rw[A] at t;exact z b t) n1;exact ok.nx _ _ _ (hR _) (r2.store nv (by rw[II];exact hi) rfl)
end
section
variable {X:Cx}{K:cc}{pos:Pos}
def pj(i:Nat)(te:DE):DE:=λenv R=>∃S ds,∃k:Nat,env[i]? = some (.tr S (.list ds))/\te (env.map eY) (λs _=>s=.fr (.int (k:Int)))/\∀S',R (.tr S' (.tuple [.list (ds.take k),.list (ds.drop k)])) (env.set i .un)
theorem xm(i:Nat){x:bt}{n1 n3 p1 p2 s1 s2:Pos}{x1}{e e':ba}{te:DE}(hK:X.K=K)(hN:X.N[i]? = some x)(m:PE X e (up K te))(a6:PE X e' (up K te))
  (hv:Vis X.env.scope x:=by first|exact o0 rfl|exact eb da|exact eb (eb rfl)) (hd:(x==("__debug__" : bt))=false:=by decide) (a0:(x==("__classdict__" : bt))=false:=by decide) :
  PE X (.Tuple [.Subscript (.Name x n1) (.Slice none (some e) none p1) s1,.Subscript (.Name x n3) (.Slice (some e') none none p2) s2] x1 pos) (up K (pj i te)) :=
 (fh (aA (ij (F1 (K:=K) hK) (aG hN hv hd a0) oy (ox m)) (aA (ij (F1 (K:=K) hK) (aG hN hv hd a0) (ox a6) oy) bA))).imp λσ H Q h=>by
 obtain⟨M,P,H0,σ0,env,ts,R,g,⟨S,ds,k,e0,ek,hR⟩,hq⟩:=h;obtain⟨xv,A,B,ex,q1,q2⟩:=g.split e0;have r:=g.e;rw[q1] at r;obtain⟨v,ev,ot,h0⟩:=r.tr _ _ _ (HQ _ H9);subst ev;obtain⟨a,us,Sq,rfl,rfl,hH,q⟩:=ot.listI;refine⟨.ref a,ex,⟨M,N0,H,σ,_,[],_,g.lentA,ek,λs d0 v H1 h1 I=>?_⟩⟩;subst h1;have L:aD H H1:=I.e.keep.none;obtain⟨w,ew,dk⟩:=I.e.fr (some v) _ (HQ _ H9);cases ew;cases dk;refine⟨_,rfl,a,us,rfl,SqL.of (L _ _ hH),λl a4=>?_⟩;have a7:aD H1 (upd H1 l (.lst (us.take k))):=aD.new a4;have O:aD H (upd H1 l (.lst (us.take k))):=λb o e=>a7 _ _ (L _ _ e);rw[Ca];refine⟨.ref a,ex,⟨M,N0,_,σ,_,[],_,(g.same O).lentA,ek,λs d6 v D h2 J=>?_⟩⟩;subst h2;have T:aD (upd H1 l (.lst (us.take k))) D:=J.e.keep.none;obtain⟨w,ew,dk⟩:=J.e.fr (some v) _ (HQ _ H9);cases ew;cases dk;refine⟨_,rfl,a,us,rfl,SqL.of (T _ _ (O _ _ hH)),λj E=>⟨by show 2<=sizeLine;decide,λp Z=>?_⟩⟩;rw[vT] at *;obtain⟨T1,T2,eS,o1,o2⟩:=q.takeDrop k;have F:aD D (upd D j (.lst (us.drop k))):=aD.new E;have U:aD (upd D j (.lst (us.drop k))) (upd (upd D j (.lst (us.drop k))) p (.tup [.ref l,.ref j])):=aD.new Z;have t:aD H D:=λb o e=>T _ _ (O _ _ e);have sm:aD H (upd (upd D j (.lst (us.drop k))) p (.tup [.ref l,.ref j])):=λb o e=>U _ _ (F _ _ (t _ _ e));have d:∀{G:Hp}{b:al},aD H G->G b=none->H b=none:=λ{G b} s e=>by
  cases z:H b with
  | none=>rfl
  | some o=>rw[s _ _ z] at e;cases e
 have W:D l=some (.lst (us.take k)):=T _ _ aw;have u:H l=none:=d L a4;have C:H j=none:=d t E;have b0:j≠l:=λz=>by rw[z,W] at E;cases E
 have Y:H p=none:=d (λb o e=>F _ _ (t _ _ e)) Z;have b3:p≠j:=λz=>by rw[z,aw] at Z;cases Z
 have b4:p≠l:=λz=>by rw[z,F _ _ W] at Z;cases Z
 have nd:=r.nd;rw[ae,ad,aq] at nd;have b5:=(HY.mp (HY.mp nd).2.1).1;obtain⟨na,a5⟩:=Ir.mp b5;rw[eS] at a5;obtain⟨u1,u2,u3⟩:=HY.mp a5;have live:∀b∈Sq,H b≠none:=λb f z=>by
  obtain⟨xs,z'⟩:=q.lives b f;rw[z] at z';cases z'
 let S':List al:=(l::T1)++((j::T2)++[])
 have sub:∀b∈S',b∈a::Sq\/H b=none:=λb f=>by
  have f:b=l\/b∈T1\/b=j\/b∈T2:=by simpa[S'] using f
  rcases f with f|f|f|f
  ·exact .inr (by rw[f];exact u)
  ·exact .inl (HZ _ (by rw[eS];exact HV _ f))
  ·exact .inr (by rw[f];exact C)
  ·exact .inl (HZ _ (by rw[eS];exact HQ _ f))
 have l1:∀b∈T1,H b≠none:=λb f=>live b (by rw[eS];exact HV _ f);have l2:∀b∈T2,H b≠none:=λb f=>live b (by rw[eS];exact HQ _ f);have b6:S'.Nodup:=by
  have:S'=(l::T1)++(j::T2):=by simp[S']
  rw[this];refine HY.mpr ⟨Ir.mpr ⟨λz=>l1 _ z u,u1⟩,Ir.mpr ⟨λz=>l2 _ z C,u2⟩,λc hc e m z=>?_⟩;subst z;rcases Ic.mp hc with hc|hc
  ·rcases Ic.mp m with m|m
   ·exact b0 (m.symm.trans hc)
   ·exact l2 _ m (hc▸u)
  ·rcases Ic.mp m with m|m
   ·exact l1 _ hc (m▸C)
   ·exact u3 c hc c m rfl
 let N':al->Prop:=Nw M ((A++(some (V.ref a),Sl.un)::B)++[(some (V.ref p),Sl.tr S' (.tuple [.list (ds.take k),.list (ds.drop k)]))])
 have up:∀b o,H b=some o->N' b->Nw M (A++(some (V.ref a),Sl.tr (a::Sq) (.list ds))::B) b:=uT sub;have pN:¬N' p:=λz=>by
  have n0:=g.newAddr Y;rw[q1] at n0;rcases z with z|z
  ·exact n0 (.inl z)
  ·rw[oN] at z;rcases HX.mp z with z|z
   ·exact n0 (.inr (by rw[ae];exact HV _ z))
   ·rcases HX.mp z with z|z
    ·exact n0 (.inr (by rw[ae,ad];exact HQ _ (HQ _ z)))
    ·have z:p=l\/p∈T1\/p=j\/p∈T2:=by simpa[S'] using z
     rcases z with z|z|z|z
     ·exact b4 z
     ·exact l1 _ z Y
     ·exact b3 z
     ·exact l2 _ z Y
 have kk:∀{vs ds' SS},OTs K (Nw M (A++(some (V.ref a),Sl.tr (a::Sq) (.list ds))::B)) H vs ds' SS->OTs K N' (upd (upd D j (.lst (us.drop k))) p (.tup [.ref l,.ref j])) vs ds' SS:=λo=>(o.to up).keep (aN.same sm) λb f=>by
  obtain⟨xs,z⟩:=o.lives b f;rw[sm _ _ z,z]
 have c4:OT K N' (upd (upd D j (.lst (us.drop k))) p (.tup [.ref l,.ref j])) (.ref p) (.tuple [.list (ds.take k),.list (ds.drop k)]) S' :=
  .tup (SnT.of aw pN) (.cons (.lst (U _ _ (F _ _ W)) (kk o1)) (.cons (.lst (U _ _ aw) (kk o2)) .nil))
 have re:=r.recut (y:=some (.ref a)) sm sub b6 c4;refine hq _ _ _ _ (hR S') ?_;refine Rel.withRes (H:=H) ⟨?_,by simp[g.len],g.vw,λn ds' en=>?_⟩ (by rw[q2];exact re) rfl
 ·rw[q2];exact aW.kill r
 ·by_cases hj:i=n
  ·subst hj;rw[Iy (Ib.mp e0).1] at en;cases en
  ·rw[Ip hj] at en;exact g.ios n ds' en
def BX(t:DE):DE:=λenv R=>t env λs a=>∃S d ds,s=.tr S (.tuple (d::ds))/\∀S',R (.tr S' d) a
theorem Dh(hK:X.K=K)(h:PE X e (up K t))(n:gH (.Constant (.int 0) j p5):=by intro _ _;rfl):PE X (.Subscript e (.Constant (.int 0) j p5) pos) (up K (BX t)) :=
 (ia (ai hK) h bU n).imp λσ H Q h=>by
 obtain⟨M,P,H0,σ0,env,ts,R,o,u,z⟩:=h;refine⟨M,P,H0,σ0,env,ts,_,o,u,λs f v H1 h1 g=>?_⟩;obtain⟨S,d,ds,rfl,C⟩:=h1;have k:=g.e;rw[ar] at k;obtain⟨w,D,ot,L⟩:=k.tr _ _ _ (HQ _ H9);cases D;cases ot with
 | @tup a xs _ _ E q =>
  cases q with
  | @cons x xs _ _ i l F N =>
   refine .inr ⟨a,_,0,x,rfl,rfl,E.sq,by simp[atI,ixN],z _ _ _ _ (C i) ?_⟩;have nd:=k.nd;have G:oas (ax σ f ts++tmp [(V.ref a,Sl.tr (i++l) (.tuple (d::ds)))])=oas (ax σ f ts)++(i++l):=by rw[ae];show _++oas [(some (V.ref a),Sl.tr (i++l) (.tuple (d::ds)))]=_;rw[ad,aq];simp[oas]
   rw[G] at nd;obtain⟨m1,m2,I⟩:=HY.mp nd;obtain⟨r,O,T⟩:=HY.mp m2;have sub:∀b∈i,b∈i++l\/H1 b=none:=λb p=>.inl (HV _ p);have J:=aW.recut (A:=ax σ f ts) (B:=[]) (y:=some (.ref a)) (v':=x) (d':=d) (S':=i) k (aD.refl _) sub r (F.to (uT sub));refine g.drop.withRes (J.sub (λy t m=>.inl ?_) ?_) rfl
   ·rcases HX.mp m with m|m
    ·exact HV _ (HV _ m)
    ·exact HQ _ m
   ·rw[ae,ad,aq];refine HY.mpr ⟨m1,by simpa[oas] using r,λb p c hc=>I b p c (HV _ ?_)⟩;simpa[oas] using hc
end
section
variable {K:cc}{M P:al->Prop}{H0 H H':Hp}{σ0 σ:St}{env:List Sl}{ts:List (V×Sl)}{d:ab}
theorem Rel.spoil(h:Rel K M P H0 σ0 σ env ts H)(e:env[i]? = some (.tr S d))(k:∀b o,b ∉ S->H b=some o->H' b=some o):Rel K M P H0 σ0 σ (env.set i .un) ts H':=by
 obtain⟨x,A,B,e1,E,F⟩:=h.split e;have r:=h.e;rw[E] at r;obtain⟨v,ev,ot,C⟩:=r.tr _ _ _ (HQ _ H9);subst ev;have u:oas (A++(some v,Sl.tr S d)::B)=oas A++(S++oas B):=by rw[ae,ad,aq]
 have g:oas (A++(some v,Sl.un)::B)=oas A++oas B:=by rw[ae,ad,bZ];rfl
 have nd:=r.nd;rw[u] at nd;obtain⟨G,I,D⟩:=HY.mp nd;obtain⟨Q,J,L⟩:=HY.mp I;have far:∀b,b∈oas A++oas B->b ∉ S:=λb j z=>by
  rcases HX.mp j with j|j
  ·exact D b j b (HV _ z) rfl
  ·exact L b z b j rfl
 have up:∀b,Nw M (A++(some v,Sl.un)::B) b->Nw M (A++(some v,Sl.tr S d)::B) b:=Nw.sub λb z=>by
  rw[g] at z;rw[u];rcases HX.mp z with z|z
  ·exact HV _ z
  ·exact HQ _ (HQ _ z)
 have kp:aN (Nw M (A++(some v,Sl.tr S d)::B)) H H':=λb o n e=>k b o (λz=>n (.inr (by rw[u];exact HQ _ (HV _ z)))) e;have c:∀x s,(x,s)∈A++(some v,Sl.un)::B->s=.un\/(x,s)∈A++(some v,Sl.tr S d)::B:=λx s m=>by
  rcases HX.mp m with m|m
  ·exact .inr (HV _ m)
  ·rcases Ic.mp m with m|m
   ·cases m;exact .inl rfl
   ·exact .inr (HQ _ (HZ _ m))
 have y:∀{x s a},(x,s)∈A++(some v,Sl.un)::B->a∈cx (x,s)->a ∉ S:=λ{x s a} m z=>far a (by rw[<-g];exact aV.mpr ⟨_,m,z⟩);refine⟨?_,by simp[h.len],h.vw,λn ds' t=>?_⟩
 ·rw[F];refine⟨λb o n e=>k b o (λz=>by rw[C b z] at e;cases e) (r.keep b o n e),λa z=>?_,r.mt,r.pm,λx d m=>?_,λx ds m=>?_,λx ds m=>?_,λx N d m=>?_,?_⟩
  ·have:=r.live a z;cases q:H a with
   | none=>exact absurd q this
   | some o=>rw[k a o (λw=>z (C a w)) q];simp
  ·rcases c _ _ m with m|m
   ·cases m
   ·obtain⟨w,e,dn⟩:=r.fr x d m;exact⟨w,e,(dn.keep kp).to λb _ _ z=>up b z⟩
  ·have l:=m;rcases c _ _ m with m|m
   ·cases m
   ·obtain⟨a,vs,e,f,dn,w⟩:=r.ow x ds m;subst e;exact⟨a,vs,rfl,k _ _ (y l (by simp[cx])) f,(dn.keep kp).to λb _ _ z=>up b z,w⟩
  ·have l:=m;rcases c _ _ m with m|m
   ·cases m
   ·obtain⟨a,vs,e,f,dn,w⟩:=r.io x ds m;subst e;exact⟨a,vs,rfl,k _ _ (y l (by simp[cx])) f,(dn.keep kp).to λb _ _ z=>up b z,w⟩
  ·have l:=m;rcases c _ _ m with m|m
   ·cases m
   ·obtain⟨w,e,p,O⟩:=r.tr x N d m;subst e;exact⟨w,rfl,(p.keep kp λa f=>by
     obtain⟨o,z⟩:=p.lives a f;rw[z,k _ _ (y l (by simpa[cx] using f)) z]).to λb _ _ z=>up b z,O⟩
  ·rw[g];exact HY.mpr ⟨G,J,λa f b j=>D a f b (HQ _ j)⟩
 ·by_cases hj:i=n
  ·subst hj;rw[Iy (Ib.mp e).1] at t;cases t
  ·rw[Ip hj] at t;exact h.ios n ds' t
end
section
abbrev tI2(K:cc)(i:Nat)(c:Int):TE:=tOp (E4 K) (iE i) (tC (.int c))
end
section
variable {X:Cx}{K:cc}{e:ba}
def BW(t:DE):DE:=λenv R=>t env λs a=>∃S d,s=.tr S d/\R (.fr d) a
theorem qx(h:PE X e (up K t)):PE X e (up K (BW t)):=h.imp λσ H Q h=>by
 obtain⟨M,P,H0,σ0,env,ts,R,b,g,i⟩:=h;refine⟨M,P,H0,σ0,env,ts,_,b,g,λs c v H1 h1 a=>?_⟩;obtain⟨S,d,rfl,j⟩:=h1;have f:=a.e;rw[ar] at f;exact i _ _ _ _ j (a.drop.withRes (aW.freezeT (B:=[]) f) rfl)
end
structure Lay(M:al->Prop)(H0:Hp)(E:List Ent)(H:Hp)(E':List Ent)(H':Hp)(Z:al->Prop):Prop where
 k : ∀b o,¬Z b->H b=some o->H' b=some o
 hz : ∀b,Z b->b∈oas E/\H0 b=none
 sub:∀b,b∈oas E'->b∈oas E\/H b=none
section
variable {K:cc}{M P Z:al->Prop}{H0 H H':Hp}{E E':List Ent}{v:V}{d:ab}
theorem Lay.nz(L:Lay M H0 E H E' H' Z)(h:H0 b≠none):¬Z b:=λw=>h (L.hz b w).2
theorem Lay.kN(L:Lay M H0 E H E' H' Z):aN (λb=>Nw M E b\/H b=none) H H':=λb o n e=>L.k b o (λz=>n (.inl (.inr (L.hz b z).1))) e
theorem Lay.t1(b:al)(o:HO)(e:H b=some o)(z:Nw M E b\/H b=none):Nw M E b:=z.elim id λz=>by rw[e] at z;cases z
theorem Lay.t2(L:Lay M H0 E H E' H' Z)(b:al)(o:HO)(_:H' b=some o)(z:Nw M E' b):Nw M E b\/H b=none:=z.elim (λz=>.inl (.inl z)) λz=>(L.sub b z).elim (λz=>.inl (.inr z)) .inr
theorem Lay.dn(L:Lay M H0 E H E' H' Z)(q:DN K (Nw M E) H v d):DN K (Nw M E') H' v d:=((q.to Lay.t1).keep L.kN).to L.t2
theorem Lay.dns(L:Lay M H0 E H E' H' Z){v:List V}{d:List ab}(q:DNs K (Nw M E) H v d):DNs K (Nw M E') H' v d:=((q.to Lay.t1).keep L.kN).to L.t2
theorem Lay.same(L:Lay M H0 E H E' H' Z){S:List al}(q:∀a∈S,∃o,H a=some o)(z:∀b∈S,¬Z b):∀a∈S,H' a=H a:=λa c=>by
 obtain⟨o,e⟩:=q a c;rw[e,L.k a o (z a c) e]
theorem Lay.ot(L:Lay M H0 E H E' H' Z)(q:OT K (Nw M E) H v d S)(z:∀b∈S,¬Z b):OT K (Nw M E') H' v d S:=((q.to Lay.t1).keep L.kN (L.same q.lives z)).to L.t2
theorem Lay.ots(L:Lay M H0 E H E' H' Z){v:List V}{d:List ab}{S:List al}(q:OTs K (Nw M E) H v d S)(z:∀b∈S,¬Z b):OTs K (Nw M E') H' v d S:=((q.to Lay.t1).keep L.kN (L.same q.lives z)).to L.t2
theorem aW.remake(h:aW K M P H0 E H)(L:Lay M H0 E H E' H' Z)
  (c:∀x s,(x,s)∈E'->((x,s)∈E/\∀b∈cx (x,s),¬Z b)\/s=.un\/(∃i,s=.vw i)\/(∃v d,x=some v/\s=.fr d/\DN K (Nw M E') H' v d)\/∃v S d,x=some v/\s=.tr S d/\OT K (Nw M E') H' v d S/\∀a∈S,H0 a=none)
  (nd:(oas E').Nodup):aW K M P H0 E' H':=by
 refine⟨λb o n e=>L.k b o (L.nz (by rw[e];simp)) (h.keep b o n e),λa z=>?_,h.mt,h.pm,λx d m=>?_,λx ds m=>?_,λx ds m=>?_,λx S d m=>?_,nd⟩
 ·cases q:H a with
  | none=>exact absurd q (h.live a z)
  | some o=>rw[L.k a o (L.nz z) q];simp
 ·rcases c x _ m with⟨m,_⟩|e|⟨i,e⟩|⟨v,d',e1,e2,q⟩|⟨v,S,d',e1,e2,_⟩
  ·obtain⟨v,e,q⟩:=h.fr x d m;exact⟨v,e,L.dn q⟩
  ·cases e
  ·cases e
  ·cases e2;exact⟨v,e1,q⟩
  ·cases e2
 ·rcases c x _ m with⟨m,z⟩|e|⟨i,e⟩|⟨v,d',e1,e2,_⟩|⟨v,S,d',e1,e2,_⟩
  ·obtain⟨a,vs,e,g,q,f⟩:=h.ow x ds m;subst e;exact⟨a,vs,rfl,L.k _ _ (z a (by simp[cx])) g,L.dns q,f⟩
  ·cases e
  ·cases e
  ·cases e2
  ·cases e2
 ·rcases c x _ m with⟨m,z⟩|e|⟨i,e⟩|⟨v,d',e1,e2,_⟩|⟨v,S,d',e1,e2,_⟩
  ·obtain⟨a,vs,e,g,q,f⟩:=h.io x ds m;subst e;exact⟨a,vs,rfl,L.k _ _ (z a (by simp[cx])) g,L.dns q,f⟩
  ·cases e
  ·cases e
  ·cases e2
  ·cases e2
 ·rcases c x _ m with⟨m,z⟩|e|⟨i,e⟩|⟨v,d',e1,e2,_⟩|⟨v,S',d',e1,e2,q,f⟩
  ·obtain⟨w,e,q,f⟩:=h.tr x S d m;subst e;exact⟨w,rfl,L.ot q (by rw[aq] at z;exact z),f⟩
  ·cases e
  ·cases e
  ·cases e2
  ·cases e2;exact⟨v,e1,q,f⟩
end
section
variable {X:Cx}{K:cc}
def B1(i:Nat)(tl:DA):DE:=λenv R=>(∃S ds,env[i]? = some (.tr S (.list ds)))/\tl env λss a=>∃S ds b es,ss=[.tr b (.list es)]/\a[i]? = some (.tr S (.list ds))/\ds.length+es.length<=sizeLine/\∀S',R (.fr .none) (a.set i (.tr S' (.list (ds++es))))
theorem Dj(i:Nat){apos cpos npos:Pos}(hK:X.K=K)(hN:X.N[i]? = some y)(ha:PA X [e1] (upA K tl))
  (hv:Vis X.env.scope y:=by first|exact o0 rfl|exact eb da|exact eb (eb rfl)) (hd:(y==("__debug__" : bt))=false:=by decide)
  (I:(y==("__classdict__" : bt))=false:=by decide)
  (J:j1 [e1] X.env=(false,eval e1 X.env)::j1 [] X.env:=by rfl)
  (k:z3 (.Name y npos) "extend" X.env (eval (.Name y npos) X.env)=eval (.Name y npos) X.env:=by rfl)
  (t:((qs cpos (j1 [e1] X.env)).all (λx=>!x.1)&&(KF cpos (Kf [] X.env)).all (λx=>x.1.isSome)&&decide ([e1].length+([]:List Ke).length+(if ([]:List Ke).isEmpty then 0 else 1)<30))=true:=by rfl)
  (l:(apos.endLine==cpos.line)=true:=by rfl) (j:(qs cpos (j1 [] X.env)).any (·.1)=false:=by rfl) :
  PE X (.Call (.Attribute (.Name y npos) "extend" apos) [e1] [] cpos) (up K (B1 i tl)) :=
 (kBm (K:=K) hK ei Lh Lg lZ (aG hN hv hd I) ha k t l J j).imp λσ H Q h=>by
 obtain⟨M,P,H0,σ0,env,ts,R,p,⟨⟨S0,a7,e0⟩,ht⟩,hq⟩:=h;obtain⟨x,ex,m0⟩:=p.slot e0;obtain⟨v,ev,O,_⟩:=p.e.tr _ _ _ m0;subst ev;obtain⟨a,vs,Sq,rfl,rfl,hH,qH⟩:=O.listI;refine⟨.ref a,ex,.inl ⟨rfl,vs,SqL.of hH⟩,M,P,H0,σ0,env,ts,_,p,ht,λss u b0 H1 h1 hl g=>?_⟩;obtain⟨S,ds,T,es,rfl,e1,hz,hR⟩:=h1;obtain⟨U,rfl⟩:=sF hl;obtain⟨x',A,B,w,q1,q2⟩:=g.drop.split e1;rw[ex] at w;cases w;have r:=g.e;have eA:ax σ u (ts++[U].zip [Sl.tr T (.list es)])=A++(some (.ref a),Sl.tr S (.list ds))::(B++[(some U,Sl.tr T (.list es))]):=by rw[ar,q1];simp[tmp]
 rw[eA] at r;obtain⟨v',V,ot,W⟩:=r.tr _ _ _ (HQ _ H9);cases V;obtain⟨a',us,d,Y,rfl,hU,qU⟩:=ot.listI;cases Y;obtain⟨b1,C,Z,a0⟩:=r.tr (some U) T (.list es) (HQ _ (HZ _ (HQ _ H9)));cases C;obtain⟨b,ws,f,rfl,rfl,hB,qB⟩:=Z.listI;have nd:=r.nd;have q:oas (A++(some (.ref a),Sl.tr (a::d) (.list ds))::(B++[(some (.ref b),Sl.tr (b::f) (.list es))]))=oas A++((a::d)++(oas B++(b::f))):=by rw[ae,ad,aq,ae,ad,aq];simp[oas]
 rw[q] at nd;refine⟨a,b,us,ws,rfl,rfl,hU,hB,by rw[qU.len,qB.len];exact hz,hq _ _ _ _ (hR (a::(d++f))) ?_⟩;have D:oas (A++(some (.ref a),Sl.tr (a::(d++f)) (.list (ds++es)))::B)=oas A++((a::(d++f))++oas B):=by rw[ae,ad,aq]
 have a4:(oas A++((a::(d++f))++oas B)).Nodup:=by refine(s0 ?_).mp (nd.sublist (me (me (me (List.sublist_cons_self b f) _) _) _));refine fo _ ?_;show((a::d)++(oas B++f)).Perm ((a::d++f)++oas B);rw[Ja];exact fo _ JA
 have ma:a∈oas (A++(some (.ref a),Sl.tr (a::d) (.list ds))::(B++[(some (.ref b),Sl.tr (b::f) (.list es))])):=by rw[q];simp
 have L:Lay M H0 (A++(some (.ref a),Sl.tr (a::d) (.list ds))::(B++[(some (.ref b),Sl.tr (b::f) (.list es))])) H1 (A++(some (.ref a),Sl.tr (a::(d++f)) (.list (ds++es)))::B) (upd H1 a (.lst (us++ws))) (λc=>c=a) :=
  ⟨λc o n e=>by rw[am n];exact e,λc z=>by subst z;exact⟨ma,W c (by simp)⟩,λc hc=>.inl (by
   rw[D] at hc;rw[q];simp only[HX,Ic] at hc ⊢;rcases hc with h|(h|h|h)|h <;> simp[h])⟩
 obtain⟨n1,n2,n3⟩:=HY.mp nd;obtain⟨n4,n5,n6⟩:=HY.mp n2;have a5:∀c∈d,¬c=a:=λc hc z=>(Ir.mp n4).1 (z▸hc);have a6:∀c∈f,¬c=a:=λc hc z=>n6 a (by simp) c (by simp[hc]) z.symm;refine(g.drop.setTr e1 (q2 _) (r.remake L (λx s m=>?_) (by rw[D];exact a4))).addFr .non;have E:∀{x s},(x,s)∈A\/(x,s)∈B->∀c∈cx (x,s),¬c=a:=λ{x s} G c hc z=>by
  rcases G with G|G
  ·exact n3 c (aV.mpr ⟨_,G,hc⟩) a (by simp) z
  ·exact n6 a (by simp) c (HV _ (aV.mpr ⟨_,G,hc⟩)) z.symm
 rcases HX.mp m with m|m
 ·exact .inl ⟨HV _ m,E (.inl m)⟩
 ·rcases Ic.mp m with m|m
  ·cases m;refine .inr (.inr (.inr (.inr ⟨_,_,_,rfl,rfl,.lst aw ((L.ots qU a5).app (L.ots qB a6)),λc hc=>?_⟩)));rcases Ic.mp hc with h|h
   ·exact W c (by simp[h])
   ·rcases HX.mp h with h|h
    ·exact W c (by simp[h])
    ·exact a0 c (by simp[h])
  ·exact .inl ⟨HQ _ (HZ _ (HV _ m)),E (.inr m)⟩
end
mutual
def noF:ab->Bool
 | .none=>true
 | .bool _=>true
 | .int _=>true
 | .str _=>true
 | .list ds=>jK ds
 | .tuple ds=>jK ds
 | _=>false
def jK:List ab->Bool
 | []=>true
 | d::ds=>noF d&&jK ds
end
section
variable {K:cc}{M P N:al->Prop}{H0 H H':Hp}{σ0 σ:St}{v:V}{d:ab}
theorem OT.noFto(m:∀b us,Rd H b (.tup us)->M b->N b)(h:OT K N H v d S):noF d=true->OT K M H v d S :=
 OT.rec (motive_1:=λv d S _=>noF d=true->OT K M H v d S) (motive_2:=λv d S _=>jK d=true->OTs K M H v d S)
 (λ_=>.non) (λb _=>.bl b) (λi _=>.int i)
 (λh _ q e=>.lst h (q (by simpa[noF] using e))) (λh _ q e=>.tup (h.elim (λz=>.inl ⟨z.1,λw=>z.2 (m _ _ z.1 w)⟩) .inr) (q (by simpa[noF] using e)))
 (λ_ _ _ _ e=>by simp[noF] at e) (λ_ e=>by simp[noF] at e) (λ_=>.nil)
 (λ{_ _ d ds _ _} _ _ i j e=>by
  have e:(noF d&&jK ds)=true:=by simpa[jK] using e
  obtain⟨e1,e2⟩:=Jr.mp e;exact .cons (i e1) (j e2)) h
theorem Rel.unlentT(h:Rel K M P H0 σ0 σ env ts H)(h1:Rel K M N0 H σ σ c [(v,.tr S d)] H')(ne:oas (σ.zip c)=[])(p:noF d=true):Rel K M P H0 σ0 σ env (ts++[(v,.tr S d)]) H':=by
 have n:=h1.e.keep.none;obtain⟨w,q,ot,i⟩:=h1.e.tr (some v) S d (HQ _ H9);cases q;have t:=h.same n;have g:oas (ax σ c [(v,Sl.tr S d)])=S:=by show oas (σ.zip c++[(some v,Sl.tr S d)])=S;rw[ae,ne,ad,aq];simp[oas]
 have j:S.Nodup:=by have:=h1.e.nd;rwa [g] at this
 have A:ax σ env (ts++[(v,Sl.tr S d)])=ax σ env ts++[(some v,Sl.tr S d)]:=by rw[ar];rfl
 have k:oas (ax σ env ts++[(some v,Sl.tr S d)])=oas (ax σ env ts)++S:=by rw[ae,ad,aq];simp[oas]
 have l:∀b∈oas (ax σ env ts),b ∉ S:=λb f z=>by
  obtain⟨o,e,_⟩:=h.e.own f;rw[i b z] at e;cases e
 have u:∀b∈S,H0 b=none:=λb f=>by
  cases e:H0 b with
  | none=>rfl
  | some o=>exact absurd (i b f) (h.e.live b (by rw[e];simp))
 have L:Lay M H0 (ax σ env ts) H (ax σ env ts++[(some v,Sl.tr S d)]) H' (λ_=>False):=⟨λb o _ e=>n b o e,λ_ z=>z.elim,λb f=>by
  rw[k] at f;exact(HX.mp f).imp id (i b)⟩
 refine h.withRes (h.e.remake L (λx s m=>?_) (by
  rw[k];exact HY.mpr ⟨h.e.nd,j,λa y b f z=>l a y (z▸f)⟩)) rfl
 rcases HX.mp m with m|m
 ·exact .inl ⟨m,λ_ _ z=>z⟩
 ·rw[HW] at m;cases m;refine .inr (.inr (.inr (.inr ⟨v,S,d,rfl,rfl,ot.noFto (λb us r z=>?_) p,u⟩)));rcases z with z|z
  ·exact .inl z
  ·rw[k] at z;rcases HX.mp z with z|z
   ·exact absurd r (t.e.noTup z us)
   ·exact .inr (by rw[g];exact z)
end
section
variable {X:Cx}{K:cc}{e:ba}
theorem xH(σ:St)(env:List Sl):oas (σ.zip (env.map eY))=[]:=Jd.mpr λa z=>by
 obtain⟨⟨x,s⟩,b,c⟩:=aV.mp z;rw[LY] at b;obtain⟨⟨d,s'⟩,_,e⟩:=Ig.mp b;cases e;exact qK c
def vN(t:DE):DE:=λenv R=>t (env.map eY) λs a=>∃S d,s=.tr S d/\noF d=true/\a=env.map eY/\∀S',R (.tr S' d) env
theorem AG(h:PE X e (up K t)):PE X e (up K (vN t)):=h.imp λσ H Q h=>by
 obtain⟨M,P,H0,σ0,env,ts,R,a,f,g⟩:=h;refine⟨M,N0,H,σ,_,[],_,a.lentA,f,λs c v H1 h1 b=>?_⟩;obtain⟨S,d,rfl,i,rfl,j⟩:=h1;exact g _ _ _ _ (j S) (a.unlentT b (xH σ env) i)
end
section
variable {X:Cx}{K:cc}{e:ba}{M P N:al->Prop}{H0 H:Hp}{E T:List Ent}{v:V}
theorem OT.pairI(h:OT K N H v (.tuple [a,d1]) S):∃t u0 b c d,v=.ref t/\SnT K N H t [u0,b]/\S=c++d/\OT K N H u0 a c/\OT K N H b d1 d:=by
 cases h with
 | tup e q =>
  cases q with
  | cons h1 q =>
   cases q with
   | cons h2 q =>
    cases q;exact⟨_,_,_,_,_,rfl,e,by simp,h1,h2⟩
theorem aW.tupN(h:aW K M P H0 (E++T) H)(d:H p=none)(ho:oas T=S)(g:∀a∈S,H0 a=none)(i:OTs K (Nw M (E++T)) H us ds S):aW K M P H0 (E++[(some (.ref p),.tr S (.tuple ds))]) (upd H p (.tup us)):=by
 have f:oas (E++[(some (.ref p),Sl.tr S (.tuple ds))])=oas E++S:=by rw[ae,ad,aq];simp[oas]
 have c:oas (E++T)=oas E++S:=by rw[ae,ho]
 have j:aD H (upd H p (.tup us)):=aD.new d;have L:Lay M H0 (E++T) H (E++[(some (.ref p),Sl.tr S (.tuple ds))]) (upd H p (.tup us)) (λ_=>False):=⟨λb o _ e=>j b o e,λ_ z=>z.elim,λb k=>.inl (by rw[c,<-f];exact k)⟩
 have l:¬Nw M (E++[(some (.ref p),Sl.tr S (.tuple ds))]) p:=λz=>by
  rcases z with z|z
  ·exact h.live p (h.mt p z) d
  ·rw[f,<-c] at z;obtain⟨o,e,_⟩:=h.own z;rw[d] at e;cases e
 refine h.remake L (λx s m=>?_) (by rw[f,<-c];exact h.nd);rcases HX.mp m with m|m
 ·exact .inl ⟨HV _ m,λ_ _ z=>z⟩
 ·rw[HW] at m;cases m;refine .inr (.inr (.inr (.inr ⟨_,_,_,rfl,rfl,.tup (SnT.of aw l) (L.ots i λ_ _ z=>z),g⟩)))
def BZ(i j k:Nat):DE:=λenv R=>∃n S a d1 c b,env[i]? = some (.fr (.int n))/\env[j]? = some (.tr S (.tuple [a,d1]))/\env[k]? = some (.tr c b)/\j≠k/\∀S',R (.tr S' (.tuple [.int n,a,d1,b])) ((env.set j .un).set k .un)
theorem Di(i j k:Nat)(h:PE X e (w5 (cf (iE i) (cf (tI2 K j 0) (cf (tI2 K j 1) (cf (iE k) lH)))))):PE X e (up K (BZ i j k)):=h.imp λσ H Q h=>by
 obtain⟨M,P,H0,σ0,env,ts,R,b,⟨n,S,f,d1,c,d,e1,e2,e3,m,B⟩,C⟩:=h;obtain⟨x1,D,m1⟩:=b.slot e1;obtain⟨E,o,q⟩:=b.e.fr _ _ m1;subst o;obtain rfl:E=.int n:=by cases q;rfl
 obtain⟨r,y,F⟩:=b.move e2 rfl;have s:(env.set j .un)[k]? = some (.tr c d):=by rw[Ip m];exact e3
 obtain⟨g,G,z⟩:=F.move s rfl;have I:ax σ ((env.set j .un).set k .un) ((ts++[(r,Sl.tr S (.tuple [f,d1]))])++[(g,Sl.tr c d)])=ax σ ((env.set j .un).set k .un) ts++[(some r,Sl.tr S (.tuple [f,d1])),(some g,Sl.tr c d)]:=by rw[ar,ar];simp[tmp]
 have l:=z.e;rw[I] at l;obtain⟨Y,u,v,h2⟩:=l.tr (some r) S (.tuple [f,d1]) (HQ _ H9);cases u;obtain⟨Z,w,x,J⟩:=l.tr (some g) c d (HQ _ (HZ _ H9));cases w;obtain⟨t,u0,L,N,O,rfl,A,rfl,T,U⟩:=v.pairI;refine⟨.int n,D,_,y,.inr ⟨t,_,0,u0,rfl,rfl,A.sq,rfl,_,y,.inr ⟨t,_,1,L,rfl,rfl,A.sq,rfl,g,G,Ie (show 4<=1000000 by decide) ag,λp V=>?_⟩⟩⟩;refine C _ _ _ _ (B ((N++O)++c)) (z.drop.drop.withRes (l.tupN (ds:=[.int n,f,d1,d]) V (by simp[ad,aq,oas]) (λa W=>(HX.mp W).elim (h2 a) (J a)) ?_) rfl);have:=OTs.cons (OT.int n) (OTs.cons T (OTs.cons U (OTs.cons x OTs.nil)));simpa using this
end
abbrev rwT(rows:List (List Int)):List ab:=rows.map λr=>fI (r.map .int)
def fZ(H:Hp):List V->List (List Int)->List al->Prop
 | [],[],[]=>True
 | v::vs,r::rs,b::bs=>v=.ref b/\H b=some (.lst (r.map V.int))/\fZ H vs rs bs
 | _,_,_=>False
section
variable {K:cc}{N:al->Prop}{H:Hp}{v:V}
theorem OTs.intsI:∀{vs:List V}{r:List Int}{S:List al},OTs K N H vs (r.map .int) S->vs=r.map V.int/\S=[]
 | _,[],_,h=>by cases h;exact⟨rfl,rfl⟩
 | _,i::r,_,h=>by
  rw[ID] at h;cases h with
  | cons h1 h2 =>
   obtain⟨rfl,rfl⟩:=OTs.intsI h2;cases h1;exact⟨rfl,rfl⟩
theorem OTs.rowsAt:∀{vs:List V}{rows:List (List Int)}{S:List al},OTs K N H vs (rwT rows) S->fZ H vs rows S
 | _,[],_,h=>by cases h;exact trivial
 | _,r::rows,_,h=>by
  change OTs K N H _ (fI (r.map .int)::rwT rows) _ at h;cases h with
  | cons h1 h2 =>
   obtain⟨a,us,S',rfl,rfl,b,q⟩:=h1.listI;obtain⟨rfl,rfl⟩:=q.intsI;exact⟨rfl,b,h2.rowsAt⟩
theorem fZ.len:∀{vs:List V}{rows:List (List Int)}{bs:List al},fZ H vs rows bs->vs.length=rows.length
 | [],[],[],_=>rfl
 | _::_,_::_,_::_,h=>by rw[IL,IL,h.2.2.len]
theorem fZ.get:∀{vs:List V}{rows:List (List Int)}{bs:List al}{i:Nat}{v:V},fZ H vs rows bs->vs[i]? = some v->∃r b,rows[i]? = some r/\b∈bs/\v=.ref b/\H b=some (.lst (r.map V.int))
 | [],[],[],i,v,_,e=>by simp at e
 | _::_,r::_,b::_,0,v,h,e=>by
  simp at e;subst e;exact⟨r,b,rfl,by simp,h.1,h.2.1⟩
 | _::_,_::_,_::_,i+1,v,h,e=>by
  obtain⟨r,b,h1,h2,a⟩:=h.2.2.get (i:=i) (by simpa using e);exact⟨r,b,by simpa using h1,by simp[h2],a⟩
theorem fZ.at:∀{vs:List V}{rows:List (List Int)}{bs:List al}{i:Nat}{v:V},fZ H vs rows bs->vs[i]? = some v->∃r b,rows[i]? = some r/\bs[i]? = some b/\v=.ref b/\H b=some (.lst (r.map V.int))
 | [],[],[],i,v,_,e=>by simp at e
 | _::_,r::_,b::_,0,v,h,e=>by
  simp at e;subst e;exact⟨r,b,rfl,rfl,h.1,h.2.1⟩
 | _::_,_::_,_::_,i+1,v,h,e=>by
  obtain⟨r,b,h1,h2,a⟩:=h.2.2.at (i:=i) (by simpa using e)
  exact⟨r,b,by simpa using h1,by simpa using h2,a⟩
end
theorem OTs.ofInts{K:cc}{N:al->Prop}{H:Hp}:∀r:List Int,OTs K N H (r.map V.int) (r.map .int) []
 | []=>.nil
 | i::r=>by
  have:=OTs.cons (OT.int (K:=K) (N:=N) (H:=H) i) (OTs.ofInts r);simpa using this
def E3(K:cc)(ok e:List Int->List Int->Prop)(f:List Int->List Int->ab->Prop):Sp:=λvs H Q _=>∃(M:al->Prop) (a:al) (us:List V) (rows:List (List Int)) (bs:List al) (g:V) (o:List Int),vs=[.ref a,g]/\(∀b,M b->H b≠none)/\H a=some (.lst us)/\(∀b∈bs,¬M b)/\fZ H us rows bs/\DN K M H g (.list (o.map .int))/\(∀t∈rows,ok t o) /\
 ((∀t∈rows,e t o)->∀H',aD H H'->Q .non H') /\
 ∀(i:Nat) t b d,rows[i]? = some t->b∈bs->H b=some (.lst (t.map V.int))->(∀(j:Nat) u,j<i->rows[j]? = some u->e u o)->f t o d->noF d=true->∀H' p v S,aD H H'->H p=none->H' p=some (.tup [.ref b,v])->OT K (λc=>M c\/c∈S) H' v d S->(∀c∈S,H c=none)->S.Nodup->Q (.ref p) H'
section
variable {X:Cx}{K:cc}
def BS(i h:Nat)(ok a:List Int->List Int->Prop)(b:List Int->List Int->ab->Prop):DE:=λenv R=>∃S rows o,env[i]? = some (.tr S (.list (rwT rows)))/\env[h]? = some (.fr (.list (o.map .int)))/\(∀t∈rows,ok t o)/\((∀t∈rows,a t o)->R (.fr .none) env) /\
 ∀(k:Nat) t d,rows[k]? = some t->(∀(j:Nat) u,j<k->rows[j]? = some u->a u o)->b t o d->noF d=true->∀S',R (.tr S' (.tuple [.list (t.map .int),d])) (env.set i .un)
theorem y9(i h:Nat){x:bt}{p pos:Pos}{e1 e2:ba}{k:Nat}{ok C:List Int->List Int->Prop}{l:List Int->List Int->ab->Prop}(hK:X.K=K)(G:Cal X.prog X.w X.K X.mg X.base x k (E3 X.K ok C l))(hr:dc k X.A)(hg:Gl X x)(ha:PA X [e1,e2] (cf (iE i) (cf (iE h) lH)))(hd:(x==("__debug__" : bt))=false:=by decide)
  (he:j1 [e1,e2] X.env=(false,eval e1 X.env)::j1 [e2] X.env:=by rfl) (W:(qs pos (j1 [e2] X.env)).any (·.1)=false:=by rfl) :
  PE X (.Call (.Name x p) [e1,e2] [] pos) (up K (BS i h ok C l)):=by
 subst hK;refine(lS G hr hg ha hd he W).imp λσ H Q h=>?_;obtain⟨M,P,H0,σ0,env,ts,R,f,⟨S,rows,o,e1,e2,hok,hn,hf⟩,hq⟩:=h;obtain⟨x2,f2,m2⟩:=f.slot e2;obtain⟨hv,Y,Z⟩:=f.e.fr _ _ m2;subst Y;obtain⟨v1,f1,r1⟩:=f.move e1 rfl;have en:ax σ (env.set i .un) (ts++[(v1,Sl.tr S (.list (rwT rows)))])=ax σ (env.set i .un) ts++[(some v1,Sl.tr S (.list (rwT rows)))]:=by rw[ar];rfl
 have D:=r1.e;rw[en] at D;obtain⟨w,ew,ot,h0⟩:=D.tr (some v1) S _ (HQ _ H9);cases ew;obtain⟨a,us,bs,rfl,rfl,hA,q⟩:=ot.listI;have ra:=q.rowsAt;have oe:oas (ax σ (env.set i .un) ts++[(some (V.ref a),Sl.tr (a::bs) (.list (rwT rows)))])=oas (ax σ (env.set i .un) ts)++(a::bs):=by rw[ae,ad,aq];simp[oas]
 have nd:=D.nd;rw[oe] at nd;obtain⟨n1,n2,n3⟩:=HY.mp nd;have live:∀b∈oas (ax σ (env.set i .un) ts)++(a::bs),H b≠none:=λb g z=>by
  rw[<-oe] at g;obtain⟨o',e,_⟩:=D.own g;rw[z] at e;cases e
 have E:∀b,b∈oas (ax σ (env.set i .un) ts)->b∈oas (ax σ env ts):=λb g=>by
  obtain⟨x,A,B,_,q1,q2⟩:=f.split e1;rw[q2,ae,ad,bZ] at g;rw[q1,ae,ad];rcases HX.mp g with g|g
  ·exact HV _ g
  ·exact HQ _ (HQ _ g)
 refine⟨.ref a,f1,hv,f2,λb=>(M b\/b∈oas (ax σ (env.set i .un) ts)),a,us,rows,bs,hv,o,rfl,λb z=>?_,hA,λb g z=>?_,ra,?_,hok,λg H' F=>?_,?_⟩
 ·rcases z with z|z
  ·exact f.e.live b (f.e.mt b z)
  ·exact live b (HV _ z)
 ·rcases z with z|z
  ·exact f.e.mt b z (h0 b (by simp[g]))
  ·exact n3 b z b (by simp[g]) rfl
 ·exact Z.to λb _ _ z=>z.imp id (E b)
 ·exact hq _ _ _ _ (hn g) ((f.same F).addFr .non)
 ·intro k t b d ht mb g I n J H' p v u F T N O U a0;have j:oas (ax σ (env.set i .un) ts++[(some (V.ref p),Sl.tr (b::u) (.tuple [.list (t.map .int),d]))])=oas (ax σ (env.set i .un) ts)++(b::u):=by
   rw[ae,ad,aq];simp[oas]
  have L:Lay M H0 (ax σ (env.set i .un) ts++[(some (V.ref a),Sl.tr (a::bs) (.list (rwT rows)))]) H (ax σ (env.set i .un) ts++[(some (V.ref p),Sl.tr (b::u) (.tuple [.list (t.map .int),d]))]) H' (λ_=>False):=⟨λc o _ e=>F c o e,λ_ z=>z.elim,λc hc=>by
   rw[j] at hc;rw[oe];rcases HX.mp hc with hc|hc
   ·exact .inl (HV _ hc)
   ·rcases Ic.mp hc with rfl|hc
    ·exact .inl (HQ _ (by simp[mb]))
    ·exact .inr (U c hc)⟩
  have n0:∀c∈b::u,H0 c=none:=λc hc=>by
   rcases Ic.mp hc with rfl|hc
   ·exact h0 c (by simp[mb])
   ·cases e:H0 c with
    | none=>rfl
    | some o'=>exact absurd (U c hc) (f.e.live c (by rw[e];simp))
  have np:¬Nw M (ax σ (env.set i .un) ts++[(some (V.ref p),Sl.tr (b::u) (.tuple [.list (t.map .int),d]))]) p:=λz=>by
   rcases z with z|z
   ·exact f.e.live p (f.e.mt p z) T
   ·rw[j] at z;rcases HX.mp z with z|z
    ·exact live p (HV _ z) T
    ·rcases Ic.mp z with rfl|z
     ·rw[g] at T;cases T
     ·exact O.lst1 p z [.ref b,v] (.inl N)
  refine hq _ _ _ _ (hf k t d ht I n J (b::u)) (r1.drop.withRes (D.remake L (λx s m=>?_) (by
   rw[j];refine HY.mpr ⟨n1,Ir.mpr ⟨λz=>?_,a0⟩,λc hc c' y z=>?_⟩
   ·have:=U b z;rw[g] at this;cases this
   ·subst z;rcases Ic.mp y with rfl|y
    ·exact n3 c hc c (by simp[mb]) rfl
    ·exact live c (HV _ hc) (U c y))) rfl)
  rcases HX.mp m with m|m
  ·exact .inl ⟨HV _ m,λ_ _ z=>z⟩
  ·rw[HW] at m;cases m;have o2:=O.noFto (M:=Nw M (ax σ (env.set i .un) ts++[(some (V.ref p),Sl.tr (b::u) (.tuple [.list (t.map .int),d]))])) (λc a5 r z=>by
    rcases z with z|z
    ·exact .inl (.inl z)
    ·rw[j] at z;rcases HX.mp z with z|z
     ·exact .inl (.inr z)
     ·rcases Ic.mp z with rfl|z
      ·have a4:=F _ _ g;rcases r with r|⟨o',r⟩ <;> rw[a4] at r <;> cases r
      ·exact .inr z) J
   refine .inr (.inr (.inr (.inr ⟨_,_,_,rfl,rfl,?_,n0⟩)));have q3:=OTs.cons (S:=[b]) (.lst (F _ _ g) (OTs.ofInts t)) (OTs.cons o2 OTs.nil);rw[IM] at q3;exact .tup (SnT.of N np) q3
end
section
variable {K:cc}
abbrev tFK(K:cc)(sp:DSp):TS:=EZ (Fy (yc K (iE 0)) (fD 2) (EZ (Co (nI (spD K sp) [] E0 (cf (w5 (cf (iE 2) (cf (iE 1) lH))) lH)) (fD 3))
 (GR (w9 (tOp (λx y H Q=>y=.non/\Q (.bl (!decide (x=.non))) H) (iE 3) (tC .non))) (Fu (w5 (cf (iE 2) (cf (iE 3) lH)))) CM))) (Fu (tC .non))
theorem En
  (U:∀t o R,ok t o->(f t o->∀S,R (.tr S .none) [.un])->(∀S d,g t o d->noF d=true->d≠.none->R (.tr S d) [.un])->sp [.fr (.tuple [.list (t.map .int),.list (o.map .int)])] R)
   (h:E3 K ok f g vs H Q E):tFK K sp { nx:=λ_ H'=>Q .non H',rt:=Q } (vs.map some++[none,none]) H:=by
 obtain⟨M,a,us,rows,bs,q,o,rfl,hM,hA,W,ra,X,hok,qn,qf⟩:=h;refine⟨.ref a,rfl,a,rfl,⟨us,SqL.of hA⟩,λj m σ k=>m=us.length - j/\j<=us.length/\(∃x y,σ=[some (.ref a),some q,x,y])/\aD H k/\∀(i:Nat) u,i<j->rows[i]? = some u->f u o,⟨_,rfl,Iz _,⟨none,none,rfl⟩,λ_ _ e=>e,λi u hi=>absurd hi (JM _)⟩,?_⟩;rintro j m σ k ⟨rfl,hj,⟨x,y,rfl⟩,w,l⟩;have A:=w _ _ hA;have lu:=ra.len;by_cases D:j<us.length
 ·refine .inr ⟨⟨us,us[j],SqL.of A,HR D⟩,λσ' H'=>(∃x y,σ'=[some (.ref a),some q,x,y])/\aD H H'/\∀(i:Nat) u,i<j+1->rows[i]? = some u->f u o,λσ' H' z=>⟨us.length - (j+1),by omega,rfl,D,z⟩,λv H' yl=>?_⟩;obtain⟨eh,ev⟩:=yl;rw[eh];clear eh;have ev:=ev us (SqL.of A);obtain⟨t,b,F,mb,rfl,P⟩:=ra.get ev;have Y:=w _ _ P;refine⟨.ref b,rfl,q,rfl,Ie (show 2<=1000000 by decide) ag,λp Z=>?_⟩;have n:aD k (upd k p (.tup [.ref b,q])):=aD.new Z;have mt:∀c,M c->upd k p (.tup [.ref b,q]) c≠none:=λc hc z=>by
   cases e:H c with
   | none=>exact hM c hc e
   | some o'=>rw[n _ _ (w _ _ e)] at z;cases z
  have np:¬M p:=λz=>by
   cases e:H p with
   | none=>exact hM p z e
   | some o'=>rw[w _ _ e] at Z;cases Z
  have a0:DN K M (upd k p (.tup [.ref b,q])) (.ref p) (.tuple [.list (t.map .int),.list (o.map .int)]):=by refine .tup (SnT.of aw np) (.cons (.lst (SnL.of (n _ _ Y) (W b mb)) ?_) (.cons (X.keep (aN.same λc o' e=>n _ _ (w c o' e))) .nil));have:=(OTs.ofInts (K:=K) (N:=M) (H:=upd k p (.tup [.ref b,q])) t).dn (M:=M) (λ_ z=>z) (λc hc=>by cases hc);exact this
  have oe:oas (tmp (([V.ref p]++[]).zip [Sl.fr (.tuple [.list (t.map .int),.list (o.map .int)])]))=[]:=by simp[oas,tmp,cx]
  have io:∀c,¬o6 ([V.ref p]++[]) [Sl.fr (.tuple [.list (t.map .int),.list (o.map .int)])] c:=λc z=>by
   unfold o6 at z;rw[oe] at z;cases z
  have nw:∀c,Nw M (tmp (([V.ref p]++[]).zip [Sl.fr (.tuple [.list (t.map .int),.list (o.map .int)])])) c->M c:=λc z=>z.elim id λz=>by rw[oe] at z;cases z
  have rE:aW K M (o6 ([V.ref p]++[]) [Sl.fr (.tuple [.list (t.map .int),.list (o.map .int)])]) (upd k p (.tup [.ref b,q])) (tmp (([V.ref p]++[]).zip [Sl.fr (.tuple [.list (t.map .int),.list (o.map .int)])])) (upd k p (.tup [.ref b,q])):=by
   have one:∀x s,(x,s)∈tmp (([V.ref p]++[]).zip [Sl.fr (.tuple [.list (t.map .int),.list (o.map .int)])])->x=some (.ref p)/\s=.fr (.tuple [.list (t.map .int),.list (o.map .int)]):=λx s m=>by simpa[tmp] using m
   refine⟨aN.refl,λ_ z=>z,mt,λc z=>absurd z (io c),λx d m=>?_,λx ds m=>?_,λx ds m=>?_,λx S d m=>?_,by rw[oe];exact IS⟩
   ·obtain⟨rfl,e⟩:=one _ _ m;cases e;exact⟨_,rfl,a0.to λc _ _ z=>nw c z⟩
   ·cases (one _ _ m).2
   ·cases (one _ _ m).2
   ·cases (one _ _ m).2
  refine⟨M,[.fr (.tuple [.list (t.map .int),.list (o.map .int)])],λr G=>G=[.un]/\((∃S,r=.tr S .none/\f t o)\/∃S d,r=.tr S d/\g t o d/\noF d=true/\d≠.none),rfl,rE,U t o _ (hok t (IG F)) (λP S=>⟨rfl,.inl ⟨S,rfl,P⟩⟩) (λS d hg hn hd=>⟨rfl,.inr ⟨S,d,rfl,hg,hn,hd⟩⟩),λr G v I hr _ T=>?_⟩;have s3:aD (upd k p (.tup [.ref b,q])) I:=λc o' e=>T.keep c o' (io c) e;have B:aD H I:=λc o' e=>s3 _ _ (n _ _ (w c o' e));obtain⟨rfl,hr⟩:=hr;rcases hr with⟨S,rfl,a4⟩|⟨S,d,rfl,hg,hn,hd⟩
  ·obtain⟨v',C,ot,_⟩:=T.tr (some v) S .none (by simp[tmp]);cases C;cases ot;refine⟨.non,rfl,rfl,false,rfl,?_⟩;show(if false=true then _ else _);rw[MF (by decide)];refine⟨⟨_,_,rfl⟩,B,λi u hi J=>?_⟩;by_cases e:i<j
   ·exact l i u e J
   ·have e:i=j:=by omega
    subst e;rw[F] at J;cases J;exact a4
  ·obtain⟨v',C,ot,hS⟩:=T.tr (some v) S d (by simp[tmp]);cases C;have vn:¬v=.non:=λz=>by
    subst z;cases ot with
    | non=>exact hd rfl
    | fz _=>simp[noF,fzD] at hn
   have L:oas (tmp ((v,Sl.tr S d)::([V.ref p]++[]).zip [Sl.un]))=S:=by show oas ((some v,Sl.tr S d)::[(some (V.ref p),Sl.un)])=S;rw[ad,aq,ad,bZ];simp[oas]
   have a5:S.Nodup:=by have:=T.nd;rwa [L] at this
   refine⟨v,rfl,rfl,true,by simp[vn],?_⟩;show(if true=true then _ else _);rw[ME rfl];refine⟨.ref b,rfl,v,rfl,Ie (show 2<=1000000 by decide) ag,λp2 O=>?_⟩;have s4:aD I (upd I p2 (.tup [.ref b,v])):=aD.new O;have a6:∀c,I c=none->H c=none:=λc e=>by
    cases e2:H c with
    | none=>rfl
    | some o'=>rw[B _ _ e2] at e;cases e
   refine qf j t b d F mb P (λi u hi J=>l i u hi J) hg hn _ p2 v S (λc o' e=>s4 _ _ (B c o' e)) (a6 p2 O) aw ?_ (λc hc=>?_) a5
   ·have o2:=ot.keep (aN.same s4) λc hc=>by
     obtain⟨o',e⟩:=ot.lives c hc;rw[e,s4 _ _ e]
    exact o2.to λc _ _ z=>z.imp id λz=>by rw[L];exact z
   ·have:=hS c hc;cases e2:H c with
    | none=>rfl
    | some o'=>rw[n _ _ (w _ _ e2)] at this;cases this
 ·refine .inl ⟨⟨us,SqL.of A,by omega⟩,?_⟩;have e:j=us.length:=by omega
  subst e;exact qn (λt F=>by
   obtain⟨i,hi,rfl⟩:=Il F;exact l i _ (by omega) (HR hi)) k w
end
section
variable {K:cc}
theorem GG{sp:DSp}{σ:St}{a:Hp}{i j:Nat}{b:al}{g:V}{t o:List Int}{M:al->Prop}{Q:VK}{R0:Sl->Prop}(hi:σ[i]? = some (some (.ref b)))(hj:σ[j]? = some (some g))(B:∀c,M c->a c≠none)(C:a b=some (.lst (t.map V.int)))(D:¬M b)
  (n:DN K M a g (.list (o.map .int))) (q:∀R,(∀r,R0 r->R r [.un])->sp [.fr (.tuple [.list (t.map .int),.list (o.map .int)])] R)
  (E:∀p r v h,a p=none->R0 r->aD a h->aW K M (λ_=>False) (upd a p (.tup [.ref b,g])) [(some v,r),(some (.ref p),.un)] h->Q v h) :
  nI (spD K sp) [] E0 (cf (w5 (cf (iE i) (cf (iE j) lH))) lH) σ a Q:=by
 refine⟨.ref b,hi,g,hj,Ie (show 2<=1000000 by decide) ag,λp u=>?_⟩;have f:aD a (upd a p (.tup [.ref b,g])):=aD.new u;have w:DN K M (upd a p (.tup [.ref b,g])) (.ref p) (.tuple [.list (t.map .int),.list (o.map .int)]) :=
  .tup (SnT.of aw λz=>B p z u) (.cons (.lst (SnL.of (f _ _ C) D) ((OTs.ofInts (N:=M) t).dn (λ_ z=>z) λc hc=>by cases hc)) (.cons (n.keep (aN.same f)) .nil))
 have y:oas (tmp (([V.ref p]++[]).zip [Sl.fr (.tuple [.list (t.map .int),.list (o.map .int)])]))=[]:=by simp[oas,tmp,cx]
 have io:o6 ([V.ref p]++[]) [Sl.fr (.tuple [.list (t.map .int),.list (o.map .int)])]=λ_=>False:=by funext c;unfold o6;rw[y];simp
 have F:∀c,Nw M (tmp (([V.ref p]++[]).zip [Sl.fr (.tuple [.list (t.map .int),.list (o.map .int)])])) c->M c:=λc z=>z.elim id λz=>by rw[y] at z;cases z
 have one:∀x s,(x,s)∈tmp (([V.ref p]++[]).zip [Sl.fr (.tuple [.list (t.map .int),.list (o.map .int)])])->x=some (.ref p)/\s=.fr (.tuple [.list (t.map .int),.list (o.map .int)]):=λx s m=>by simpa[tmp] using m
 refine⟨M,[.fr (.tuple [.list (t.map .int),.list (o.map .int)])],λr k=>k=[.un]/\R0 r,rfl,?_,q _ λr l=>⟨rfl,l⟩,λr k v h l _ A=>?_⟩
 ·rw[io];refine⟨aN.refl,λ_ z=>z,λc z e=>?_,λc z=>z.elim,λx d m=>?_,λx ds m=>?_,λx ds m=>?_,λx S d m=>?_,by rw[y];exact IS⟩
  ·cases e2:a c with
   | none=>exact B c z e2
   | some o'=>rw[f _ _ e2] at e;cases e
  ·obtain⟨rfl,e⟩:=one _ _ m;cases e;exact⟨_,rfl,w.to λc _ _ z=>F c z⟩
  ·cases (one _ _ m).2
  ·cases (one _ _ m).2
  ·cases (one _ _ m).2
 ·obtain⟨rfl,l⟩:=l;rw[io] at A;exact E p r v h u l (λc o' e=>A.keep c o' (λz=>z) (f _ _ e)) A
end
section
variable {X:Cx}{K:cc}{pos:Pos}
mutual
theorem DW:∀d:ab,noL d=true->noF d=true
 | .none,_=>rfl
 | .bool _,_=>rfl
 | .int _,_=>rfl
 | .str _,_=>rfl
 | .tuple ds,h=>by
  rw[noF];exact oO ds (by simpa[noL] using h)
 | .list _,h=>by simp[noL] at h
 | .dict _,h=>by simp[noL] at h
theorem oO:∀ds:List ab,gr ds=true->jK ds=true
 | [],_=>rfl
 | d::ds,h=>by
  have h:(noL d&&gr ds)=true:=by simpa[gr] using h
  obtain⟨h1,h2⟩:=Jr.mp h;rw[jK,DW d h1,oO ds h2];rfl
end
theorem fS:∀t:List Int,jK (t.map .int)=true
 | []=>rfl
 | i::t=>by
  show(noF (.int i)&&jK (t.map .int))=true;rw[fS t];rfl
theorem tm{f:List Int->ab->ab}{x:ab}{t:List Int}:∀{rows:List (List Int)}{ps:List ab},rows[ps.length]? = some t->B2 f rows (ps++[x])=B2 f rows ps++[f t x]
 | [],ps,h=>by simp at h
 | r::rows,[],h=>by
  simp at h;subst h;simp
 | r::rows,p::ps,h=>by
  have:=tm (f:=f) (x:=x) (rows:=rows) (ps:=ps) (by simpa using h);simp[this]
abbrev prD(rows:List (List Int))(ps:List ab):List ab:=B2 (λt d=>r0 [.list (t.map .int),d]) rows ps
def Gu(k h i:Nat)(ok:List Int->List Int->Prop)(a:List Int->List Int->ab->Prop):DS:=λDD env=>∃S rows o,env[k]? = some (.tr S (.list (rwT rows)))/\env[h]? = some (.fr (.list (o.map .int)))/\i<env.length/\rows.length<=1000000/\(∀t∈rows,ok t o) /\
 ∀S' ps,ps.length=rows.length->(∀(j:Nat) t,rows[j]? = some t->a t o (ps.getD j .none))->DD.nx ((env.set k .un).set i (.tr S' (.list (prD rows ps))))
theorem qD:∀(rows:List (List Int)) (ps:List ab),(∀d∈ps,noF d=true)->jK (prD rows ps)=true
 | [],_,_=>rfl
 | _::_,[],_=>rfl
 | r::rows,p::ps,h=>by
  show(noF (.tuple [.list (r.map .int),p])&&jK (prD rows ps))=true;rw[qD rows ps λd hd=>h d (by simp[hd])];show((jK (r.map .int)&&(noF p&&true))&&true)=true;rw[fS,h p (by simp)];rfl
theorem uf{sc}(k h:Nat){U pr py O:Pos}(hN:X.N.Nodup)(hK:X.K=K)(hk:X.N[k]? = some r)(d6:Vis X.env.scope r)(e0:X.N[i]? = some y)(hy:X.env.scope.names.lookup y=some .local)(hc:X.calm=true)(S:bO X.N X.env [x,z] [none,some h] sc)
  (e4:∀t o R,ok t o->(∀l,gd t o (.list l)->gr l=true->R (.ow l) [.un])->sp [.fr (.tuple [.list (t.map .int),.list (o.map .int)])] R)
  (hg:∀s H C fp,PG (bCx X [x,z] sc s H C fp) (.Name x U) (fD 0)) (f:∀s H C fp,PE (bCx X [x,z] sc s H C fp) elt (w5 (cf (iE 0) (cf (nI (spD X.K sp) [] E0 (cf (w5 (cf (iE 0) (cf (iE 1) lH))) lH)) lH))))
  (e5:(r==("__debug__" : bt))=false:=by decide) (e6:(r==("__classdict__" : bt))=false:=by decide)
  (e7:Kn (.ListComp elt [⟨.Name x U,.Name r pr,[],0⟩] sc pos) (some (.Name y py)) O.line X.env=pure true:=by rfl)
  (hs:∀x,zd (.Name r pr) X.env x=pure x:=by intro _;rfl):PS X (.Assign [.Name y py] (.ListComp elt [⟨.Name x U,.Name r pr,[],0⟩] sc pos) O) (upS K (Gu k h i ok gd)):=by
 subst hK;refine(df hN e0 hy hc S (iN (aG hk d6 e5 e6)) hg (λ_ _ _ _=>oC) f e7 hs).imp λD σ H h1=>?_;obtain⟨M,P,H0,σ0,env,ts,DD,nv,g,⟨S,rows,o,e1,e2,hi,hz,hok,hR⟩,e8⟩:=h1;obtain⟨x2,f2,m2⟩:=g.slot e2;obtain⟨hv,e9,f0⟩:=g.e.fr _ _ m2;subst e9;obtain⟨v1,f1,r1⟩:=g.move e1 rfl;have en:ax σ (env.set k .un) (ts++[(v1,Sl.tr S (.list (rwT rows)))])=ax σ (env.set k .un) ts++[(some v1,Sl.tr S (.list (rwT rows)))]:=by rw[ar];rfl
 have hE:=r1.e;rw[en] at hE;obtain⟨w,ew,ot,h0⟩:=hE.tr (some v1) S _ (HQ _ H9);cases ew;obtain⟨a,us,bs,rfl,rfl,hA,q⟩:=ot.listI;have ra:=q.rowsAt;have lu:=ra.len;have oe:oas (ax σ (env.set k .un) ts++[(some (V.ref a),Sl.tr (a::bs) (.list (rwT rows)))])=oas (ax σ (env.set k .un) ts)++(a::bs):=by rw[ae,ad,aq];simp[oas]
 have nd:=hE.nd;rw[oe] at nd;obtain⟨n1,n2,n3⟩:=HY.mp nd;have live:∀b∈oas (ax σ (env.set k .un) ts)++(a::bs),H b≠none:=λb n z=>by
  rw[<-oe] at n;obtain⟨o',e,_⟩:=hE.own n;rw[z] at e;cases e
 have b1:∀b,b∈oas (ax σ (env.set k .un) ts)->b∈oas (ax σ env ts):=λb n=>by
  obtain⟨x,A,B,_,q1,q2⟩:=g.split e1;rw[q2,ae,ad,bZ] at n;rw[q1,ae,ad];rcases HX.mp n with n|n
  ·exact HV _ n
  ·exact HQ _ (HQ _ n)
 have f3:∀c,(M c\/c∈oas (ax σ (env.set k .un) ts))->H c≠none:=λc z=>z.elim (λz=>g.e.live c (g.e.mt c z)) λz=>live c (HV _ z);have nb:∀b∈bs,¬(M b\/b∈oas (ax σ (env.set k .un) ts)):=λb n z=>z.elim (λz=>g.e.mt b z (h0 b (by simp[n]))) λz=>n3 b z b (by simp[n]) rfl;refine⟨.ref a,f1,a,rfl,⟨us,SqL.of hA⟩,λj m ys u=>m=rows.length - j/\j<=rows.length/\aD H u/\∃ps T,ps.length=j/\(∀d∈ps,noF d=true)/\(∀(i:Nat) t,i<j->rows[i]? = some t->gd t o (ps.getD i .none))/\OTs X.K (λc=>M c\/c∈oas (ax σ (env.set k .un) ts)) u ys (prD rows ps) T/\T.Nodup/\∀c∈T,c∈bs.take j\/H c=none,⟨_,rfl,Iz _,λ_ _ e=>e,[],[],rfl,(λd hd=>by cases hd),λi t hi=>absurd hi (JM _),by simp[prD];exact .nil,IS,λc hc=>by cases hc⟩,?_⟩;rintro j m ys u ⟨rfl,hj,Q,ps,T,F,b2,b3,Y,b4,hT⟩;have Z:=Q _ _ hA;have b5:∀c,(M c\/c∈oas (ax σ (env.set k .un) ts))->u c≠none:=λc z e=>by
  cases e2:H c with
  | none=>exact f3 c z e2
  | some o'=>rw[Q _ _ e2] at e;cases e
 have f4:DN X.K (λc=>M c\/c∈oas (ax σ (env.set k .un) ts)) u hv (.list (o.map .int)):=(f0.to λb _ _ z=>z.imp id (b1 b)).keep (aN.same Q);by_cases b6:j<rows.length
 ·have f5:j<us.length:=by omega
  refine .inr ⟨⟨us,us[j],SqL.of Z,HR f5⟩,?_,λc4 H'=>aD H H'/\∃ps T,ps.length=j+1/\(∀d∈ps,noF d=true)/\(∀(i:Nat) t,i<j+1->rows[i]? = some t->gd t o (ps.getD i .none))/\OTs X.K (λc=>M c\/c∈oas (ax σ (env.set k .un) ts)) H' c4 (prD rows ps) T/\T.Nodup/\∀c∈T,c∈bs.take (j+1)\/H c=none,λc4 H' z=>⟨rows.length - (j+1),by omega,rfl,b6,z⟩,λx H' yl=>?_⟩
  ·rw[Y.len];have:(prD rows ps).length<=j:=by simp[prD];omega
   exact Jf this (Ik b6 (Ie hz ag))
  obtain⟨eh,ex⟩:=yl;rw[eh];clear eh;have ex:=ex us (SqL.of Z);obtain⟨t,b,ht,mb,rfl,n⟩:=ra.at ex;have G:=Q _ _ n;have f6:b∈bs:=IG mb;have g0:(fE σ [none,some h]).set 0 (some (.ref b))=[some (.ref b),some hv]:=by simp[fE,f2]
  unfold fD GQ;dsimp only;rw[ME rfl,g0];refine⟨.ref b,rfl,GG (t:=t) (o:=o) (M:=λc=>M c\/c∈oas (ax σ (env.set k .un) ts)) (R0:=λr=>∃l,r=.ow l/\gd t o (.list l)/\gr l=true) rfl rfl b5 G (nb b f6) f4 (λR hR=>e4 t o R (hok t (IG ht)) λl h1 h2=>hR _ ⟨l,rfl,h1,h2⟩) λp r v H3 hp hr a0 r3=>?_⟩;obtain⟨l,rfl,g1,hn⟩:=hr;obtain⟨c,ws,ev,g2,dl,c0⟩:=r3.ow (some v) l (by simp);cases ev;refine⟨Ie (show 2<=1000000 by decide) ag,λp2 a4=>?_⟩;have g3:aD H H3:=λc o' e=>a0 _ _ (Q c o' e);have I:aD H3 (upd H3 p2 (.tup [.ref b,.ref c])):=aD.new a4;have a5:aD u (upd H3 p2 (.tup [.ref b,.ref c])):=λc o' e=>I _ _ (a0 _ _ e);have c2:u c=none:=by
   cases e2:u c with
   | none=>rfl
   | some o' =>
    have ne:c≠p:=λz=>by rw[z,hp] at e2;cases e2
    rw[am ne,e2] at c0;cases c0
  have nM:∀e,u e=none->¬(M e\/e∈oas (ax σ (env.set k .un) ts)):=λe z w=>b5 e w z;have g4:u p2=none:=by
   cases e2:u p2 with
   | none=>rfl
   | some o'=>rw[a0 _ _ e2] at a4;cases a4
  have g5:OTs X.K (λc=>M c\/c∈oas (ax σ (env.set k .un) ts)) (upd H3 p2 (.tup [.ref b,.ref c])) ws l []:=((dl.to λe _ _ z=>(.inl z)).ots hn).keep (aN.same I) λe f=>by cases f
  have new:OT X.K (λc=>M c\/c∈oas (ax σ (env.set k .un) ts)) (upd H3 p2 (.tup [.ref b,.ref c])) (.ref p2) (.tuple [.list (t.map .int),.list l]) [b,c] :=
   .tup (SnT.of aw (nM p2 g4)) (OTs.cons (S:=[b]) (S':=[c]) (.lst (a5 _ _ G) (OTs.ofInts t)) (OTs.cons (S:=[c]) (S':=[]) (.lst (I _ _ g2) g5) .nil))
  have g6:=Y.keep (aN.same a5) λe f=>by
   obtain⟨o',z⟩:=Y.lives e f;rw[z,a5 _ _ z]
  have key:prD rows (ps++[.list l])=prD rows ps++[.tuple [.list (t.map .int),.list l]]:=tm (by rw[F];exact ht);refine⟨λe o' z=>I _ _ (g3 e o' z),ps++[.list l],T++[b,c],by simp[F],λd hd=>?_,λi t' hi E=>?_,?_,?_,?_⟩
  ·rcases HX.mp hd with hd|hd
   ·exact b2 d hd
   ·rw[HW.mp hd,noF];exact oO l hn
  ·by_cases e:i<j
   ·have:=b3 i t' e E;rwa [show(ps++[fI l]).getD i .none=ps.getD i .none by rw[HU,HU,Iu (by omega)]]
   ·have e:i=j:=by omega
    subst e;rw[ht] at E;cases E;rw[show(ps++[fI l]).getD i .none=.list l by rw[HU,IW (by omega),F];simp];exact g1
  ·rw[key];exact g6.app (OTs.cons (S:=[b,c]) (S':=[]) new .nil)
  ·refine HY.mpr ⟨b4,?_,λe f e' a6 z=>?_⟩
   ·refine Ir.mpr ⟨λz=>?_,Ir.mpr ⟨by simp,IS⟩⟩;rw[HW.mp z,c2] at G;cases G
   ·subst z;rcases Ic.mp a6 with rfl|a6
    ·rcases hT e f with h|h
     ·obtain⟨i,hi,e1⟩:=Il h;have h4:i<j:=by rw[IY] at hi;omega
      have d0:i<bs.length:=by rw[IY] at hi;omega
      rw[L7] at e1;have:=(L8 d0 (Ir.mp n2).2).mp (show bs[i]? = bs[j]? by rw[mb,HR d0,e1]);omega
     ·rw[n] at h;cases h
    ·rw[HW.mp a6] at f;obtain⟨o',w⟩:=Y.lives c f;rw[c2] at w;cases w
  ·intro e f;rcases HX.mp f with f|f
   ·exact(hT e f).imp (λz=>by
     rw[JC];exact HV _ z) id
   ·rcases Ic.mp f with rfl|f
    ·refine .inl ?_;rw[JC,mb];simp
    ·rw[HW.mp f];refine .inr ?_;cases e2:H c with
     | none=>rfl
     | some o'=>rw[Q _ _ e2] at c2;cases c2
 ·have ej:j=rows.length:=by omega
  subst ej;refine .inl ⟨⟨us,SqL.of Z,by omega⟩,λpn J=>?_⟩;have s4:aD u (upd u pn (.lst ys)):=aD.new J;have a7:H pn=none:=by
   cases e2:H pn with
   | none=>rfl
   | some o'=>rw[Q _ _ e2] at J;cases J
  have W:OT X.K (λc=>M c\/c∈oas (ax σ (env.set k .un) ts)) (upd u pn (.lst ys)) (.ref pn) (.list (prD rows ps)) (pn::T):=.lst aw (Y.keep (aN.same s4) λe f=>by
   obtain⟨o',z⟩:=Y.lives e f;rw[z,s4 _ _ z])
  have b0:oas (ax σ (env.set k .un) ts++[(some (V.ref pn),Sl.tr (pn::T) (.list (prD rows ps)))])=oas (ax σ (env.set k .un) ts)++(pn::T):=by rw[ae,ad,aq];simp[oas]
  have L:Lay M H0 (ax σ (env.set k .un) ts++[(some (V.ref a),Sl.tr (a::bs) (.list (rwT rows)))]) H (ax σ (env.set k .un) ts++[(some (V.ref pn),Sl.tr (pn::T) (.list (prD rows ps)))]) (upd u pn (.lst ys)) (λ_=>False):=⟨λc o' _ e=>s4 _ _ (Q c o' e),λ_ z=>z.elim,λc hc=>by
   rw[b0] at hc;rw[oe];rcases HX.mp hc with hc|hc
   ·exact .inl (HV _ hc)
   ·rcases Ic.mp hc with rfl|hc
    ·exact .inr a7
    ·exact(hT c hc).imp (λz=>HQ _ (HZ _ (JX z))) id⟩
  have n0:∀c∈pn::T,H0 c=none:=λc hc=>by
   have fresh:H c=none->H0 c=none:=λz=>by
    cases e:H0 c with
    | none=>rfl
    | some o'=>exact absurd z (g.e.live c (by rw[e];simp))
   rcases Ic.mp hc with rfl|hc
   ·exact fresh a7
   ·rcases hT c hc with z|z
    ·exact h0 c (HZ _ (JX z))
    ·exact fresh z
  have g7:∀c∈oas (ax σ (env.set k .un) ts),c ∉ pn::T:=λc hc z=>by
   rcases Ic.mp z with rfl|z
   ·exact live c (HV _ hc) a7
   ·rcases hT c z with z|z
    ·exact n3 c hc c (HZ _ (JX z)) rfl
    ·exact live c (HV _ hc) z
  have g8:(pn::T).Nodup:=by refine Ir.mpr ⟨λz=>?_,b4⟩;obtain⟨o',w⟩:=Y.lives pn z;rw[J] at w;cases w
  have r2:=r1.drop.withRes (hE.remake L (λx s m=>by
   rcases HX.mp m with m|m
   ·exact .inl ⟨HV _ m,λ_ _ z=>z⟩
   ·rw[HW] at m;cases m;refine .inr (.inr (.inr (.inr ⟨_,_,_,rfl,rfl,W.noFto (λc g9 rd z=>?_) (by rw[noF];exact qD rows ps b2),n0⟩)));rcases z with z|z
    ·exact .inl z
    ·rw[b0] at z;rcases HX.mp z with z|z
     ·exact .inr z
     ·exact absurd rd (W.lst1 c z g9)) (by
   rw[b0];exact HY.mpr ⟨n1,g8,λc hc c' h3 z=>g7 c hc (z▸h3)⟩)) rfl
  exact e8.nx _ _ _ (hR _ ps F λi t E=>b3 i t (Ib.mp E).1 E) (r2.store nv (by rw[II];exact hi) rfl)
end
mutual
def brf:ab->Bool
 | .none=>true
 | .bool _=>true
 | .int _=>true
 | .str _=>true
 | .list ds=>decide (ds.length<=100000)&&jY ds
 | .tuple ds=>jY ds
 | .dict _=>false
def jY:List ab->Bool
 | []=>true
 | d::ds=>brf d&&jY ds
end
section
variable {K:cc}{N:al->Prop}{H G:Hp}{v:V}{d:ab}{S:List al}
theorem OT.brief(h:OT K N H v d S):brf d=true->∀e∈S,∃ws,H e=some (.lst ws)/\ws.length<=100000 :=
 OT.rec (motive_1:=λv d S _=>brf d=true->∀e∈S,∃ws,H e=some (.lst ws)/\ws.length<=100000) (motive_2:=λv d S _=>jY d=true->∀e∈S,∃ws,H e=some (.lst ws)/\ws.length<=100000)
 (λ_ _ h=>nomatch h) (λ_ _ _ h=>nomatch h) (λ_ _ _ h=>nomatch h)
 (λ{a xs ds S} h q i e c hc=>by
  have e:(decide (ds.length<=100000)&&jY ds)=true:=by simpa[brf] using e
  obtain⟨e1,e2⟩:=Jr.mp e;rcases Ic.mp hc with rfl|hc
  ·exact⟨xs,h,by rw[q.len];exact of_decide_eq_true e1⟩
  ·exact i e2 c hc) (λ_ _ i e=>i (by simpa[brf] using e))
 (λ_ _ _ _ e=>by simp[brf] at e) (λ_ e=>by simp[brf] at e) (λ_ _ h=>nomatch h)
 (λ{_ _ d ds _ _} _ _ i j e c hc=>by
  have e:(brf d&&jY ds)=true:=by simpa[jY] using e
  obtain⟨e1,e2⟩:=Jr.mp e;exact(HX.mp hc).elim (i e1 c) (j e2 c)) h
structure Ch(S:List al)(H:Hp)(c:Nat)(G:Hp):Prop where
 out:∀b o,b ∉ S->H b=some o->G b=some o
 inn:∀e∈S,∃ws,G e=some (.lst ws)/\ws.length<=100000+c
theorem Ch.app(h:Ch S H c G)(i:e∈S)(g:G e=some (.lst ws))(x:V):Ch S H (c+1) (upd G e (.lst (ws++[x]))):=by
 refine⟨λb o a z=>?_,λf d=>?_⟩
 ·rw[am λw=>a (by rw[w];exact i)];exact h.out b o a z
 ·by_cases w:f=e
  ·subst w;obtain⟨us,g',j⟩:=h.inn f d;rw[g] at g';cases g';exact⟨_,aw,by rw[Ix];simp;omega⟩
  ·obtain⟨us,g',j⟩:=h.inn f d;exact⟨us,by rw[am w];exact g',by omega⟩
theorem Ch.new(h:Ch S H c G)(a:G p=none):Ch S H c (upd G p o):=by
 refine⟨λb o' d z=>?_,λf e=>?_⟩
 ·have:=h.out b o' d z;rw[am λw=>by rw[w,a] at this;cases this];exact this
 ·obtain⟨us,g',g⟩:=h.inn f e;exact⟨us,by rw[am λw=>by rw[w,a] at g';cases g'];exact g',g⟩
end
section
variable {X:Cx}{K:cc}{N:al->Prop}{H:Hp}
theorem OTs.pairs:∀{us:List V}{rows:List (List Int)}{ps:List ab}{S:List al},OTs K N H us (prD rows ps) S->(∀d∈ps,∃l,d=.list l)->∀u∈us,∃t x y,u=.ref t/\SnT K N H t [.ref x,.ref y]/\x∈S/\y∈S
 | _,[],_,_,h,_,u,a=>by
  simp[prD] at h;cases h;cases a
 | _,_::_,[],_,h,_,u,a=>by
  simp[prD] at h;cases h;cases a
 | _, r::rows,p::ps,_,h,c,u,a=>by
  change OTs K N H _ (.tuple [.list (r.map .int),p]::prD rows ps) _ at h;cases h with
  | cons h1 h2 =>
   rcases Ic.mp a with rfl|a
   ·obtain⟨t,u0,j,k,m,rfl,b,rfl,f,g⟩:=h1.pairI;obtain⟨l,rfl⟩:=c p (by simp);obtain⟨x,_,_,rfl,rfl,_⟩:=f.listI;obtain⟨y,_,_,rfl,rfl,_⟩:=g.listI;exact⟨t,x,y,rfl,b,by simp,by simp⟩
   ·obtain⟨t,x,y,e,b,hx,i⟩:=h2.pairs (λd hd=>c d (by simp[hd])) u a;exact⟨t,x,y,e,b,HQ _ hx,HQ _ i⟩
theorem OT.fourI(h:OT K N H v (.tuple [.int n,.list d1,.tuple [.list j,.list k],.list d3]) S)(nd:S.Nodup):∃f a1 t2 a2 a3 a us b,v=.ref f/\SnT K N H f [.int n,.ref a1,.ref t2,.ref a]/\SnT K N H t2 [.ref a2,.ref a3]/\a1∈S/\a3∈S/\a∈S/\H a=some (.lst us)/\OTs K N H us d3 b/\(∀e∈b,e∈S/\e≠a)/\a1≠a/\a3≠a:=by
 cases h with
 | tup l q =>
  cases q with
  | cons m q =>
   cases m;cases q with
   | cons h1 q =>
    cases q with
    | cons h2 q =>
     cases q with
     | cons o q =>
      cases q;obtain⟨a1,_,p,rfl,rfl,_,_⟩:=h1.listI;obtain⟨t2,u0,A,B,C,rfl,c,rfl,r,s⟩:=h2.pairI;obtain⟨a2,_,t,rfl,rfl,_,_⟩:=r.listI;obtain⟨a3,_,u,rfl,rfl,_,_⟩:=s.listI;obtain⟨a,us,b,rfl,rfl,w,x⟩:=o.listI;have d:((a1::p)++((a2::t)++(a3::u))++(a::b)).Nodup:=by simpa using nd
      obtain⟨_,y,g⟩:=HY.mp d;refine⟨_,a1,t2,a2,a3,a,us,b,rfl,l,c,by simp,by simp,by simp,w,x,λe i=>⟨by simp[i],λz=>(Ir.mp y).1 (z▸i)⟩,g a1 (by simp) a (by simp),g a3 (by simp) a (by simp)⟩
abbrev tAp(K:cc)(to:TE)(ta:TE):TS:=CN (tBM K "list" uc to (cf ta lH))
def vJ(i j k:Nat)(tr:DS):DS:=λDD env=>∃S n d1 a b rows ps,env[i]? = some (.tr S (.tuple [.int n,.list d1,.tuple [.list a,.list b],.list (prD rows ps)]))/\brf (.tuple [.int n,.list d1,.tuple [.list a,.list b],.list (prD rows ps)])=true/\(∀d∈ps,∃l,d=.list l)/\i≠j/\i≠k/\j<env.length/\k<env.length/\tr DD (((env.set i .un).set j .un).set k .un)
theorem xl{s1 s2 s3 s4:Stmt}{rest:List Stmt}{i j k:Nat}{tr:DS}
  (h1:PS X s1 (tAp K (tI2 K i 1) (tC (.int 1)))) (h2:PS X s2 (tAp K (tOp (E4 K) (tI2 K i 2) (tC (.int 1))) (Fx lH)))
  (h3:PS X s3 (Fy (yc K (tI2 K i 3)) (E8 K 2 (sM (fD j) (sM (fD k) F8))) (EZ (tAp K (iE j) (tC (.int 1))) (tAp K (iE k) (w5 (cf (tC (.int 0)) (cf (w5 (cf (tC (.int 1)) lH)) (cf (tC (.int 0)) lH))))))))
  (h4:PS X s4 (tAp K (tI2 K i 3) (Fx lH))) (w:j≠k) (hr:PSs X rest (upS K tr)):PSs X (s1::s2::s3::s4::rest) (upS K (vJ i j k tr)) :=
 (c7 h1 (c7 h2 (c7 h3 (c7 h4 hr)))).imp λD σ H h=>by
 obtain⟨M,P,H0,σ0,env,ts,DD,nv,a,⟨S,n,d1,dA,dB,rows,ps,s,hb,a0,a5,a6,hj,hk,A⟩,ok⟩:=h;obtain⟨x5,E,m5⟩:=a.slot s;obtain⟨v5,a7,ot,h0⟩:=a.e.tr _ _ _ m5;subst a7;have b0:S.Nodup/\∀b∈S,Nw M (ax σ env ts) b:=by obtain⟨x,A',B',e1,q1,q2⟩:=a.split s;rw[E] at e1;cases e1;have nd:=a.e.nd;rw[q1,ae,ad,aq] at nd;refine⟨(HY.mp (HY.mp nd).2.1).1,λb hb=>.inr ?_⟩;rw[q1,ae,ad,aq];exact HQ _ (HV _ hb)
 obtain⟨b1,b2⟩:=b0;have br:=ot.brief hb;obtain⟨F,a1,t2,a2,a3,d,us,S4,rfl,u,b3,m1,m3,m4,g4,q4,I,b4,b5⟩:=ot.fourI b1;have b6:=q4.pairs a0;have kN:∀{G:Hp}{c:Nat},Ch S H c G->aN (Nw M (ax σ env ts)) H G:=λC b o nb e=>C.out b o (λz=>nb (b2 b z)) e;have e4:(1000000:Nat)<=sizeLine:=ag;have e6:us.length<=100000:=by obtain⟨ws,e,l⟩:=br d m4;rw[g4] at e;cases e;exact l
 have C0:Ch S H 0 H:=⟨λ_ _ _ e=>e,λe he=>by simpa using br e he⟩
 obtain⟨W,g1,l1⟩:=C0.inn a1 m1;refine⟨_,E,.inr ⟨F,_,1,.ref a1,rfl,rfl,u.sq,rfl,.inl ⟨rfl,W,SqL.of g1⟩,a1,W,.int 1,rfl,rfl,g1,by omega,?_⟩⟩;have Y:=C0.app m1 g1 (.int 1);have J:upd H a1 (.lst (W++[.int 1])) d=some (.lst us):=by rw[am b4.symm];exact g4
 generalize upd H a1 (.lst (W++[.int 1]))=G1 at *;obtain⟨L,N,l3⟩:=Y.inn a3 m3;refine⟨_,E,.inr ⟨F,_,2,.ref t2,rfl,rfl,(u.keep (kN Y)).sq,rfl,.inr ⟨t2,_,1,.ref a3,rfl,rfl,(b3.keep (kN Y)).sq,rfl,.inl ⟨rfl,L,SqL.of N⟩,by show 0<=sizeLine;omega,λp B=>⟨a3,L,.ref p,rfl,rfl,?_,by omega,?_⟩⟩⟩⟩
 ·rw[am λz=>by rw[<-z,N] at B;cases B];exact N
 have C2:=(Y.new (o:=.lst []) B).app m3 (ws:=L) (by rw[am λz=>by rw[<-z,N] at B;cases B];exact N) (.ref p);have O:upd (upd G1 p (.lst [])) a3 (.lst (L++[.ref p])) d=some (.lst us):=by rw[am b5.symm,am λz=>by rw[<-z,J] at B;cases B];exact J
 generalize upd (upd G1 p (.lst [])) a3 (.lst (L++[.ref p]))=G2 at *;have hl:σ.length=env.length:=a.len;have c4:∀(x y:Option V),((σ.set j x).set k y)[i]? = some (some (.ref F)):=λx y=>by
  rw[Ip a6.symm,Ip a5.symm];exact E
 have d0:∀(x y:Option V),((σ.set j x).set k y)[j]? = some x:=λx y=>by
  rw[Ip w.symm,Iy (by omega)]
 have d6:∀(x y:Option V),((σ.set j x).set k y)[k]? = some y:=λx y=>Iy (by rw[II];omega);refine⟨_,E,.inr ⟨F,_,3,.ref d,rfl,rfl,(u.keep (kN C2)).sq,rfl,d,rfl,⟨us,SqL.of O⟩,λq m σ' G=>m=us.length - q/\q<=us.length/\(∃x y,σ'=(σ.set j x).set k y)/\Ch S H (2+2*q) G/\G d=some (.lst us),⟨_,rfl,Iz _,⟨σ[j]'(by omega),σ[k]'(by omega),by rw[LD,LD]⟩,C2,O⟩,?_⟩⟩;rintro q m σ' G ⟨rfl,hq,⟨x0,y0,rfl⟩,C,v⟩;by_cases Q:q<us.length
 ·refine .inr ⟨⟨us,us[q],SqL.of v,HR Q⟩,λσ' G=>(∃x y,σ'=(σ.set j x).set k y)/\Ch S H (2+2*(q+1)) G/\G d=some (.lst us),λσ' G z=>⟨us.length - (q+1),by omega,rfl,Q,z⟩,λx G' yl=>?_⟩;obtain⟨eh,ex⟩:=yl;rw[eh];clear eh;have ex:=ex us (SqL.of v);obtain⟨t,x1,y1,rfl,hT,hx,hy⟩:=b6 x (IG ex);obtain⟨mx,nx⟩:=I x1 hx;obtain⟨my,ny⟩:=I y1 hy;obtain⟨Z,gx,lx⟩:=C.inn x1 mx;refine⟨t,_,rfl,(hT.keep (kN C)).sq,rfl,.ref x1,_,rfl,.ref y1,_,rfl,rfl,?_⟩;have es:((((σ.set j x0).set k y0).set j (some (.ref x1))).set k (some (.ref y1)))=(σ.set j (some (.ref x1))).set k (some (.ref y1)):=by
   rw[Mv _ _ w,MC,Mv _ _ w.symm,MC]
  rw[es];refine⟨.ref x1,d0 _ _,.inl ⟨rfl,Z,SqL.of gx⟩,x1,Z,.int 1,rfl,rfl,gx,by omega,?_⟩;have C3:=C.app mx gx (.int 1);have R:upd G x1 (.lst (Z++[.int 1])) d=some (.lst us):=by rw[am nx.symm];exact v
  generalize upd G x1 (.lst (Z++[.int 1]))=G5 at *;obtain⟨wy,gy,ly⟩:=C3.inn y1 my;refine⟨.ref y1,d6 _ _,.inl ⟨rfl,wy,SqL.of gy⟩,by show 1<=sizeLine;omega,λp5 f=>⟨by show 3<=sizeLine;omega,λT g=>?_⟩⟩;have C4:=(C3.new (o:=.tup [.int 1]) f).new (o:=.tup [.int 0,.ref p5,.int 0]) g;have U:upd (upd G5 p5 (.tup [.int 1])) T (.tup [.int 0,.ref p5,.int 0]) y1=some (.lst wy):=by
   have s:upd G5 p5 (.tup [.int 1]) y1=some (.lst wy):=by rw[am λz=>by rw[<-z,gy] at f;cases f];exact gy
   rw[am λz=>by rw[<-z,s] at g;cases g];exact s
  have e0:upd (upd G5 p5 (.tup [.int 1])) T (.tup [.int 0,.ref p5,.int 0]) d=some (.lst us):=by
   have s:upd G5 p5 (.tup [.int 1]) d=some (.lst us):=by rw[am λz=>by rw[<-z,R] at f;cases f];exact R
   rw[am λz=>by rw[<-z,s] at g;cases g];exact s
  generalize upd (upd G5 p5 (.tup [.int 1])) T (.tup [.int 0,.ref p5,.int 0])=G6 at *;refine⟨y1,wy,.ref T,rfl,rfl,U,by omega,⟨_,_,rfl⟩,?_,?_⟩
  ·have:=C4.app my U (.ref T);rw[show 2+2*(q+1)=2+2*q+1+1 by omega];exact this
  ·rw[am ny.symm];exact e0
 ·refine .inl ⟨⟨us,SqL.of v,by omega⟩,?_⟩;refine⟨_,c4 _ _,.inr ⟨F,_,3,.ref d,rfl,rfl,(u.keep (kN C)).sq,rfl,.inl ⟨rfl,us,SqL.of v⟩,by show 0<=sizeLine;omega,λp7 r=>⟨d,us,.ref p7,rfl,rfl,?_,by omega,?_⟩⟩⟩
  ·rw[am λz=>by rw[<-z,v] at r;cases r];exact v
  have C9:=(C.new (o:=.lst []) r).app m4 (ws:=us) (by rw[am λz=>by rw[<-z,v] at r;cases r];exact v) (.ref p7);generalize upd (upd G p7 (.lst [])) d (.lst (us++[.ref p7]))=G9 at *;have rs:=a.spoil (H':=G9) s C9.out;have r6:=(rs.setUn nv (j:=j) (by rw[II];exact hj) x0).1;have r7:=(r6.setUn nv (j:=k) (by rw[II,II];exact hk) y0).1;exact⟨M,P,H0,σ0,_,ts,DD,nv,r7,A,ok⟩
end
section
variable {X:Cx}{K:cc}{e:ba}
def EJ(t:DE):DE:=λenv R=>t env λs a=>∃d,(s=.fr d\/∃S,s=.tr S d)/\R (.fr d) a
theorem Dg(h:PE X e (up K t)):PE X e (up K (EJ t)):=h.imp λσ H Q h=>by
 obtain⟨M,P,H0,σ0,env,ts,R,b,j,c⟩:=h;refine⟨M,P,H0,σ0,env,ts,_,b,j,λs f v H1 h1 a=>?_⟩;obtain⟨d,rfl|⟨S,rfl⟩,g⟩:=h1
 ·exact c _ _ _ _ g a
 have i:=a.e;rw[ar] at i;exact c _ _ _ _ g (a.drop.withRes (aW.freezeT (B:=[]) i) rfl)
end
section
variable {P:kq}{w:k0}{K:cc}{mg:bt->Option ap}{base h:bb}{x:bt}{st:Stmt}{k:Nat}{ps:List bt}{sp:Sp}
theorem HJ(X:K.In h)(G:h.Ns ke mg)(g:FnI K x st)(b:∀{f:al}{fd:j3},Fun K x x st f fd->bx K fd ps [])(ok:∀{f:al}{fd:j3},Fun K x x st f fd->cq P w K mg base CX0 k f fd ps sp):Cal P w K mg base x k sp:=by obtain⟨f,fd,a,F⟩:=g;exact Cal.mk F (oB X G a) (b F) (ok F)
end
end _L
namespace _W
open PySem _L
local macro_rules | `(tactic| walk_at "d2") => do
 let l <- (("EK,zQ,vI,B0,pi,vL,BR,vP,pe,eY,vQ,pj,BX,BW,B1,vN,BZ,BS,Gu,vJ,noF,jK,yB,Gz,fzT,rG,B7,BO,dDn,BP,Gx,BU,vO,Gw,BN,Bs,vC,kM,vj,B4,B3,BQ,Gc,o9,Ga,yX,pS,A6,EG,zO,GA,rC,BJ,dFz,vD,BK,EH,vR,BT,Fk,Gy,B5,vK,Fl,dOp,EI,B6,dUn,Fe,zR,dC,mS,GC,dOr,Fh,B9,dIf,mU,Cv,Fj,yA,Fi,vS,mV,dCB,dIs,rF,Ff,Gs,yy,kY,po,vH,Fm,Fg,rH,BY,yx,yz,Gr,sO,BL,sqD,gI,gIC,gB,gBB,gEq,gNe,Gb,yi,gIn,pb,gIx,Fc,Fb,vM,F9,Gd,Fa,E9,BM,BV,B8,Sl.tr.injEq,Gv,E6,mT,ft,ce,slF,noL,gr,d5,pY,qp,ml,pV,pT,pU,pR,jx,iC,mq,mn,mi,iW,gQ,y4,yY,yZ,yW,yV,yT,yU,yS,p8,pZ,pX,qr,qq,qo,ub,ua,jt,mG,mE,mF,mD,rn,rp,cH,qh,qi,uG,uH,uI,uF,jh,m7,mZ,rP,rN,rO,rM,jE,iG,lz,lD,pW,lC,jz,mr,qS,mw,mv,jR,vq,qW,zE,zG,qV,mC,zA,zz,zC,zF,zD,zB,bo,fF,rh,z8,z7,z6,z0,zZ,zY,zX,zW,rf,zK,zL,tY,qd,qg,List.map_cons,List.map_nil,List.length_cons,List.length_nil,List.cons_append,List.nil_append,List.append_nil,List.replicate_succ,List.replicate_zero,List.set_cons_succ,List.set_cons_zero,List.getElem?_cons_zero,List.getElem?_cons_succ,List.getElem?_nil,List.take_succ_cons,List.take_zero,List.take_nil,List.drop_succ_cons,List.drop_zero,List.drop_nil,Option.some.injEq,Option.bind_some,Option.bind_none,Option.map_some,Option.map_none,Sl.fr.injEq,Sl.ow.injEq,Sl.io.injEq,Sl.vw.injEq,PyData.int.injEq,PyData.bool.injEq,PyData.list.injEq,PyData.tuple.injEq,PyData.str.injEq,List.cons.injEq,reduceCtorEq,and_true,true_and,and_false,false_and,and_assoc,exists_eq_left',exists_eq_left,exists_and_left,exists_eq',exists_eq,exists_false,exists_const,Nat.reduceSub,Nat.reduceAdd,Nat.reduceLT,Nat.zero_add,Nat.lt_add_left_iff_pos,decide_eq_true_eq,ite_true,ite_false,Bool.false_eq_true,if_true,if_false,Bool.not_eq_true',Bool.not_eq_true,decide_eq_false_iff_not,Int.zero_add,String.reduceBEq,Bool.true_and,Bool.and_true,Bool.or_false,Bool.false_or,Bool.or_true,Bool.true_or,Bool.and_false,Bool.false_and,Bool.not_true,Bool.not_false,id_eq,Sl.ctorIdx,Nat.succ_eq_add_one".splitOn ",").toArray.mapM λs => `(Lean.Parser.Tactic.simpLemma| $(Lean.mkIdent s.toName):ident))
 `(tactic| simp only[$l,*])
local macro_rules | `(tactic| walk_at "d1") => do
 let l <- (("zQ,vI,B0,pi,vL,BR,vP,pe,eY,vQ,pj,BX,BW,B1,vN,BZ,BS,Gu,vJ,noF,jK,yB,Gz,fzT,rG,B7,BO,dDn,BP,Gx,BU,vO,Gw,BN,Bs,vC,kM,vj,B4,B3,BQ,Gc,o9,Ga,yX,pS,A6,EG,zO,GA,rC,BJ,dFz,vD,BK,EH,vR,BT,Fk,Gy,B5,vK,Fl,dOp,EI,B6,dUn,Fe,zR,dC,mS,GC,dOr,Fh,B9,dIf,mU,Cv,Fj,yA,Fi,vS,mV,dCB,dIs,rF,Ff,Gs,yy,kY,po,vH,Fm,Fg,rH,BY,yx,yz,Gr,sO,BL,sqD,gI,gIC,gB,gBB,gEq,gNe,Gb,yi,gIn,pb,gIx,Fc,Fb,vM,F9,Gd,Fa,E9,BM,BV,B8,Sl.tr.injEq,Gv,E6,mT,ft,ce,slF,noL,gr,d5,pY,qp,ml,pV,pT,pU,pR,jx,iC,mq,mn,mi,iW,gQ,y4,yY,yZ,yW,yV,yT,yU,yS,p8,pZ,pX,qr,qq,qo,ub,ua,jt,mG,mE,mF,mD,rn,rp,cH,qh,qi,uG,uH,uI,uF,jh,m7,mZ,rP,rN,rO,rM,jE,iG,lz,lD,pW,lC,jz,mr,qS,mw,mv,jR,vq,qW,zE,zG,qV,mC,zA,zz,zC,zF,zD,zB,bo,fF,rh,z8,z7,z6,z0,zZ,zY,zX,zW,rf,zK,zL,tY,qd,qg,List.map_cons,List.map_nil,List.length_cons,List.length_nil,List.cons_append,List.nil_append,List.append_nil,List.replicate_succ,List.replicate_zero,List.set_cons_succ,List.set_cons_zero,List.getElem?_cons_zero,List.getElem?_cons_succ,List.getElem?_nil,List.take_succ_cons,List.take_zero,List.take_nil,List.drop_succ_cons,List.drop_zero,List.drop_nil,Option.some.injEq,Option.bind_some,Option.bind_none,Option.map_some,Option.map_none,Sl.fr.injEq,Sl.ow.injEq,Sl.io.injEq,Sl.vw.injEq,PyData.int.injEq,PyData.bool.injEq,PyData.list.injEq,PyData.tuple.injEq,PyData.str.injEq,List.cons.injEq,reduceCtorEq,and_true,true_and,and_false,false_and,and_assoc,exists_eq_left',exists_eq_left,exists_and_left,exists_eq',exists_eq,exists_false,exists_const,Nat.reduceSub,Nat.reduceAdd,Nat.reduceLT,Nat.zero_add,Nat.lt_add_left_iff_pos,decide_eq_true_eq,ite_true,ite_false,Bool.false_eq_true,if_true,if_false,Bool.not_eq_true',Bool.not_eq_true,decide_eq_false_iff_not,Int.zero_add,String.reduceBEq,Bool.true_and,Bool.and_true,Bool.or_false,Bool.false_or,Bool.or_true,Bool.true_or,Bool.and_false,Bool.false_and,Bool.not_true,Bool.not_false,id_eq,Sl.ctorIdx,Nat.succ_eq_add_one".splitOn ",").toArray.mapM λs => `(Lean.Parser.Tactic.simpLemma| $(Lean.mkIdent s.toName):ident))
 let h:=Lean.mkIdent `hW
 `(tactic| (refine'(?wf : Wk _ _) ?we ?wk ?wq; (case we => (intro $h:ident; simp only[$l,*] at $h:ident; exact $h)); (case wf => exactλ_ k q => k q); (case wk => (intro $h:ident; walk_at "wa"))))
local macro_rules | `(tactic| walk_at "wh") => do
 let h:=Lean.mkIdent `hW
 `(tactic| repeat (first | (with_reducible refine Exists.elim $h λ_ $h => ?_) | ((with_reducible refine And.elim (λe $h => ?_) $h); try subst e)))
local macro_rules | `(tactic| walk_at "ev") => do
 let l <- ("Gh,Eo,HE,HG,Gq,HH,Gk,Bz,Eu,Ep,Ew,Ex,Es,Gf,Er,Gi,By,Bx,Et,Gj,Gp,BF,Gn,Go,EE,ED,EC,EA,BD,BC,BE".splitOn ",").toArray.mapM λs => `(Lean.Parser.Tactic.tacticSeq| with_reducible apply $(Lean.mkIdent s.toName))
 `(tactic| ((repeat' (first $[| $l]* | walk_at "wc")); done))
local macro_rules | `(tactic| walk_at "wc") => `(tactic| first | ((first | (with_reducible show _ = some (dO _)) | (with_reducible show _ = dO _) | (with_reducible show _ = List.map wD _) | (with_reducible show _ = fb _)); assumption) | exact rfl | with_reducible assumption | with_reducible exact bo _ | exact of_decide_eq_true rfl | exact Bc rfl | ((first | (with_reducible show _ <= sizeLine) | (with_reducible show _ < sizeLine) | (with_reducible show _ = _) | (with_reducible show shp _)); assumption))
local macro_rules | `(tactic| walk_at "wa") => do
 let h:=Lean.mkIdent `hW
 let l <- ("CF,Cz,CA,CB,CC,CH,Aj,CG,Af,wU,Hl,Fs,Ft".splitOn ",").toArray.mapM λs => `(Lean.Parser.Tactic.tacticSeq| (with_reducible apply $(Lean.mkIdent s.toName)); focus walk_at "ev")
 let m <- ("ws_seq,wg_name,wk_K,w_pop,wx_set,wx_ret,wx_drop".splitOn ",").toArray.mapM λs => `(Lean.Parser.Tactic.tacticSeq| with_reducible apply $(Lean.mkIdent s.toName))
 `(tactic| (walk_at "wh"; repeat' (first | exact $h $[| $l]* $[| $m]* | walk_at "wc" | ((with_reducible show Ev _ _ _); walk_at "ev") | apply Exists.intro | refine And.intro rfl ?_ | (refine And.intro ?_ ?_; focus walk_at "wc") | refine And.intro ⟨_, rfl⟩ ?_ | refine And.intro ⟨_, _, rfl⟩ ?_ | (intro x; replace $h:ident := $h x; walk_at "wh") | (refine tx rfl (fun $h => ?_) (fun $h => ?_) $h <;> walk_at "wh") | (refine Ag (fun $h => ?_) (fun $h => ?_) $h <;> walk_at "wh") | (refine Ah (fun $h => ?_) (fun $h => ?_) $h <;> walk_at "wh"))))
local macro_rules | `(tactic| walk_at "dd") => `(tactic| first | (walk_at "d1"; try walk_at "d2") | (simp only[Jx]; walk_at "d1"; try walk_at "d2") | (walk_at "d2"))
local macro_rules | `(tactic| walk_at "dx") => `(tactic| (first | ((with_reducible refine nx ?_); try walk_at "dd") | walk_at "dd"); repeat ((with_reducible refine nx ?_); try walk_at "dd"))
def top(i:Nat):Stmt:=Mt.main.body.getD i (.Pass ⟨0,0,0,0⟩)
section
variable {P:kq}{w:k0}{K:cc}{mg:bt->Option ap}{base:bb}
abbrev cj:Stmt:=top 24
theorem aS:az ["_law_script", "_law_turn", "_law_many", "_law_cells", "_law_found", "_law_left", "_law_k", "_law_at", "_law_place", "_law_number"] ["_law_script", "_law_turn", "_law_many"] (af cj):=⟨rfl,rfl,rfl,by decide +kernel,rfl,by decide +kernel,by decide +kernel⟩
def Dr(m:Nat)(l:List Int):Prop:=l.length=m/\∀x∈l,0<=x/\x<2147483587
theorem Dr.app(h:Dr m l)(b:0<=x)(h1:x<2147483587):Dr (m+1) (l++[x]):=by
 refine⟨by simp[h.1],λy a=>?_⟩;rcases HX.mp a with a|a
 ·exact h.2 y a
 ·rw[HW.mp a];exact⟨b,h1⟩
def tX:DSp:=λss R=>∃(ns:List Int) (t m:Nat),ss=[.fr (.list (li ns)),.fr (.int t),.fr (.int m)]/\ns.length<=63/\t<=5000/\m<=5000/\∀l,Dr m l->R (.ow (li l)) [.un,.un,.un]
theorem GD(ns:List Int)(h:ns.length<=63):pq (li ns) none (some 63)=li ns:=by unfold pq;have e:HT.sIx (li ns).length (li ns).length (some 63)=min 63 (li ns).length:=HT.sIx_nat _ _ 63;rw[e,HT.sIx_none,HS,v2,Lz,Ld h];exact Jg (by simp)
theorem ln(F:Fun K "_law_draws" "_law_draws" cj f fd):bx K fd ["_law_script", "_law_turn", "_law_many"] []:=F.binds (ps:=["_law_script", "_law_turn", "_law_many"]) λ_ _ _ _ _ _ us a=>us3 (Q:=λus=>k3 _ ⟨us,[]⟩=pure (fy _ us)) a λ_ _ _=>rfl
theorem kz(F:Fun K "_law_draws" "_law_draws" cj f fd)(B:Bn mg):cq P w K mg base CX0 2 f fd ["_law_script", "_law_turn", "_law_many"] (spD K tX):=by
 refine okD (k:=1) F aS (λss R h=>?_) (by decide) (λcdv A outer s H E D=>⟨_,(ah (aM (i:=3) aS.nd rfl da (lP (dH (K:=K) rfl) zq (AC (K:=K) rfl (qv 0) gl (gj aj)) (cw (aa (qf 1) ac))))
   (ah (aM (i:=4) aS.nd rfl da (cw ac))
   (ah (dR (aC km xQ (bD bE mIC (bD fA mIC (bd (ai (K:=K) rfl) mIx (qv 3) aj (λ_ _=>rfl)) aj) aj) aj (aH _)) (ah (cO (i:=5)  aS.nd rfl rfl (N':=["_law_cell"]) (ix:=[none]) rfl (cU (N:=["_law_script", "_law_turn", "_law_many", "_law_cells", "_law_found", "_law_left", "_law_k", "_law_at", "_law_place", "_law_number"]) (sc0:=af cj) rfl rfl (by decide +kernel)) (bj (K:=K) rfl (qf 3)) (λ_ _ _ _=>(au (i:=0) (show eT (["_law_cell"]:List bt) by decide +kernel) rfl da)) (λ_ _ _ _=>bR) (λ_ _ _ _=>(bD fA mIC (qv 0) aj)))
   (ah (c8 PassesOwn.never rfl (bF rfl B.range (aa (bD bI mI (qv 1) (qv 2)) ac)) (au (i:=6) aS.nd rfl da) (ah (aM (i:=7) aS.nd rfl da (bD bE mIC (qv 6) (dG (fq (K:=K) rfl) fi rfl B.len dt (aa (qv 5) ac))))
   (qu (dR (aC A0 mB (qv 6) (qv 1) (aH _)) (ak (dQ (om 4 (K:=K) rfl rfl (bD bE mIC (bd (ai (K:=K) rfl) mIx (qv 5) (qv 7) (λ_ _=>rfl)) aj)))) aU)
   (ak (og 5 rfl (qv 7) (bD xE mIC (bd (ai (K:=K) rfl) mIx (qv 5) (qv 7) (λ_ _=>rfl)) aj))))))
   (ak (aX (qv 4))))) aU)
   (ah (c8 PassesOwn.never rfl (bF rfl B.range (aa (qv 2) ac)) (au (i:=6) aS.nd rfl da) (ah (aM (i:=8) aS.nd rfl da (bD bI mI (bD iP mIC (bD iP mIC (bD bI mI (qv 6) (qv 1)) (bD bI mI (qv 6) (qv 1))) aj) aj))
   (ah (aM (i:=9) aS.nd rfl da (bD bE mIC (bD iP mIC (bD bI mI (bD bE mIC (bd (ai (K:=K) rfl) mIx (qv 3) (bD bE mIC (qv 6) (dG (fq (K:=K) rfl) fi rfl B.len dt (aa (qv 3) ac))) (λ_ _=>rfl)) aj) (qv 8)) aj) aj))
   (ah (aM (i:=9) aS.nd rfl da (bD bE mIC (bD bI mI (bD iP mIC (qv 9) (qv 9)) (bD iP mIC aj (qv 6))) aj))
   (ak (dQ (om 4 (K:=K) rfl rfl (bD bE mIC (bD iP mIC (qv 9) (qv 9)) aj))))))))
   (ak (aX (qv 4))))))),λss R h=>?_⟩)
 ·obtain⟨ns,t,m,rfl,_⟩:=h;rfl
 obtain⟨ns,t,m,rfl,n,G,I,q⟩:=h;walk_at "dx";rw[GD ns n];have y:li ns++[eC (t:Int)]=li (ns++[(t:Int)]):=by simp
 rw[y];obtain⟨cs,l⟩:∃cs:List Int,cs=ns++[(t:Int)]:=⟨_,rfl⟩
 have u:cs.length=ns.length+1:=by rw[l];simp
 rw[<-l];refine⟨by decide,?_,?_⟩
 ·rw[HS];exact Ie (by omega) ag
 walk_at "dx";refine⟨by decide,?_⟩;walk_at "dx";refine⟨_,bV (k:=0) (by omega),?_⟩;walk_at "dx";refine⟨⟨by decide,by decide⟩,by decide,cu (λ_=>?_) (λ_=>?_)⟩
 ·refine dh (λi=>.int (cs.getD i 0 / 100000)) (by rw[HS];omega) (λi hi Q z=>?_) ?_
  ·rw[gO];walk_at "dx";exact⟨⟨by decide,by decide⟩,z⟩
  walk_at "dx";have C:(di (li cs).length).map (λi=>eC (cs.getD i 0 / 100000))=li ((di cs.length).map λi=>cs.getD i 0 / 100000):=by rw[HS];show _=eP _ (eP _ _);rw[IK];rfl
  rw[C];refine⟨by omega,by omega,aT (λi env=>∃(fs d:List Int) (kv o:Sl),env=[.fr (.list (li ns)),.fr (.int t),.fr (.int m),.fr (.list (li cs)),.ow (li fs),.ow (li d),kv,o,.un,.un]/\d.length=cs.length/\Dr (i - t) fs) ⟨[],_,_,_,rfl,by simp,⟨by simp,λx hx=>by cases hx⟩⟩ ?_ ?_⟩
  ·rintro i env hi ⟨fs,d,kv,o,rfl,v,g⟩;rw[ao] at hi;rw[aL];have e:i % d.length<d.length:=JV _ (by omega);have hk:i - t<=5000:=by omega
   walk_at "dx";rw[HS];have p:((i:Nat):Int) % ((d.length:Nat):Int)=((i % d.length:Nat):Int):=rfl;refine⟨by omega,nx ?_⟩;refine⟨λenv'=>∃j:List Int,env'=[.fr (.list (li ns)),.fr (.int t),.fr (.int m),.fr (.list (li cs)),.ow (li j),.ow (li d),.fr (.int i),.fr (.int ((i % d.length:Nat):Int)),.un,.un]/\Dr (i+1 - t) j,?_,?_⟩
   ·rw[p];walk_at "dx";refine cu (λc=>?_) (λc=>?_)
    ·refine⟨_,bV e,?_⟩;walk_at "dx";refine⟨by decide,by rw[HS,g.1];exact Ik (by omega) ag,fs++[d.getD (i % d.length) 0 % 2147483587],by simp,?_⟩;have:=g.app (Ju (d.getD (i % d.length) 0) (by decide:(2147483587:Int)≠0)) (Jp _ (by decide));rwa [show i+1 - t=i - t+1 by omega]
    ·refine⟨fs,rfl,?_⟩;rwa [show i+1 - t=i - t by omega]
   ·rintro env' ⟨j,rfl,r⟩;walk_at "dx";refine⟨_,bV e,?_⟩;walk_at "dx";exact⟨⟨by decide,Bg.of (by decide) (by decide)⟩,_,by rw[HS];exact o4 e,j,rfl,d.set (i % d.length) (d.getD (i % d.length) 0 / 2147483587),D4 _ _ _,by rw[II];exact v,r⟩
  ·rintro env ⟨fs,d,kv,o,rfl,v,g⟩;rw[ao] at g;walk_at "dx";exact q fs (by rwa [show((t:Int)+(m:Int)).toNat - t=m by omega] at g)
 ·walk_at "dx";refine⟨by omega,by omega,aT (λi env=>∃(fs:List Int) (kv pv nv:Sl),env=[.fr (.list (li ns)),.fr (.int t),.fr (.int m),.ow (li cs),.ow (li fs),.un,kv,.un,pv,nv]/\Dr i fs) ⟨[],_,_,_,rfl,rfl,λx hx=>by cases hx⟩ ?_ ?_⟩
  ·rintro i env hi ⟨fs,kv,pv,nv,rfl,g⟩;rw[ao] at hi;rw[aL];have hi:i<m:=by omega
   have e:i % cs.length<cs.length:=JV _ (by omega);walk_at "dx";refine⟨mY (by omega) (by omega),zS (by decide) (by decide),?_⟩;walk_at "dx";rw[HS];have p:((i:Nat):Int) % ((cs.length:Nat):Int)=((i % cs.length:Nat):Int):=rfl;rw[p];refine⟨by omega,_,bV e,?_⟩;walk_at "dx";generalize (cs.getD (i % cs.length) 0 % 2147483647+(((i:Int)+t)*(i+t)*7919+104729))*48271=a;have J:=Ju a (by decide:(2147483647:Int)≠0);have a1:=Jp a (by decide:(0:Int)<2147483647);generalize a % 2147483647=a at *;refine⟨by decide,zS (by decide) (by decide),by decide,?_⟩;walk_at "dx";have L:=Ju (a*a+69621*i) (by decide:(2147483629:Int)≠0);have M:=Jp (a*a+69621*i) (by decide:(0:Int)<2147483629);generalize (a*a+69621*i) % 2147483629=b at *;refine⟨mY (by omega) (by omega),mY (by decide) (by decide),by decide,?_⟩;walk_at "dx";refine⟨mY (by omega) (by omega),by decide,by rw[HS,g.1];exact Ik (by omega) ag,fs++[b*b % 2147483587],by simp,g.app (Ju _ (by decide)) (Jp _ (by decide))⟩
  ·rintro env ⟨fs,kv,pv,nv,rfl,g⟩;rw[ao] at g;walk_at "dx";exact q fs (by simpa using g)
abbrev eK:Stmt:=top 25
theorem nQ:az ["_law_draws_here"] ["_law_draws_here"] (af eK):=⟨rfl,rfl,rfl,by decide +kernel,rfl,by decide +kernel,by decide +kernel⟩
def ux(ds:List Int):Int:=ds.getLastD 0
def Ap:DSp:=λss R=>∃ds:List Int,ss=[.io (li ds)]/\R (.fr (.int (ux ds))) [.io (li ds.dropLast)]
theorem mM(a b:List Int):hZ (.list (li a)) (.list (li b))=decide (a=b):=BA a b
theorem Be(h:ds≠[]):(li ds).getLast? = some (.int (ux ds)):=by
 unfold ux;rw[L6,Lo];cases e:ds.getLast? with
 | none=>exact absurd (List.getLast?_eq_none_iff.mp e) h
 | some x=>rfl
theorem BI(ds:List Int):(li ds).dropLast=li ds.dropLast:=by simp[List.map_dropLast]
theorem pE(F:Fun K "_law_pop" "_law_pop" eK f fd):bx K fd ["_law_draws_here"] []:=F.binds (ps:=["_law_draws_here"]) λ_ _ _ _ _ _ us a=>us1 (Q:=λus=>k3 _ ⟨us,[]⟩=pure (fy _ us)) a λ_=>rfl
theorem oK(F:Fun K "_law_pop" "_law_pop" eK f fd)(B:Bn mg):cq P w K mg base CX0 1 f fd ["_law_draws_here"] (spD K Ap):=by
 refine okD (k:=0) F nQ (λss R h=>?_) (by decide) (λcdv A outer s H E a=>⟨_,(dF (dR (aC (Cs (K:=K) rfl a.units) mEq (qv 0) (cw ac) (aH _)) (ak (aX aj)) aU)
   (ak (aX (AE 0 (K:=K) rfl rfl)))),λss R h=>?_⟩)
 ·obtain⟨ds,rfl,_⟩:=h;rfl
 obtain⟨ds,rfl,q⟩:=h;walk_at "dd";refine⟨Iz _,(Sh.ints 0 ds).shp (by decide),(Sh.ints 0 []).shp (by decide),?_⟩;rw[show fI []=fI (li []) from rfl,mM];by_cases e:ds=[]
 ·subst e;rw[ME (by simp)];exact q
 ·rw[MF (by simp[e])];exact⟨_,Be e,by rw[BI];exact q⟩
theorem cp{l:List (List Int)}(h:k<l.length):l.getD k []∈l:=by rw[HU,HR h];exact IB h
def j8:Nat->List (List Int)
 | 0=>[[]]
 | k+1=>j8 k++(j8 k).map (·++[(k:Int)])
def jW(l:List Int)(n:Nat):List Int:=((di n).filter λi=>decide (l.getD i 0=1)).map (hY:Nat->Int)
def gC(h:Int)(a r:List Int):Bool:=decide ((r.length:Int)<=h)&&decide ((a.filter λc=>decide (c ∉ r))=[])
def cy(n:Nat)(h:Int)(l:List Int):List (List Int):=(j8 n).filter (gC h (jW l n))
theorem j7:∀n,(j8 n).length=2 ^ n
 | 0=>rfl
 | n+1=>by
  show(j8 n++(j8 n).map _).length=_;rw[Ix,HS,j7 n,LA];omega
theorem bP:∀n,∀r∈j8 n,r.length<=n/\r.Pairwise (·<·)/\∀x∈r,0<=x/\x<n
 | 0,r,h=>by
  rw[HW.mp h];simp
 | n + 1,r,h=>by
  rcases HX.mp h with h|h
  ·obtain⟨a,b,c⟩:=bP n r h;exact⟨by omega,b,λx hx=>by have:=c x hx;omega⟩
  ·obtain⟨d,h',rfl⟩:=Ig.mp h;obtain⟨a,b,c⟩:=bP n d h';refine⟨by simp;omega,vu.mpr ⟨b,by simp,λx hx y e=>?_⟩,λx hx=>?_⟩
   ·rw[HW.mp e];have:=c x hx;omega
   ·rcases HX.mp hx with hx|hx
    ·have:=c x hx;omega
    ·rw[HW.mp hx];omega
theorem gU{α:Type}{p q:α->Bool}(h:∀x,p x=true->q x=true):∀l:List α,(l.filter p).length<=(l.filter q).length
 | []=>Ih _
 | x :: l=>by
  have b:=gU h l;by_cases a:p x=true
  ·rw[Jc a,Jc (h x a)];simpa using b
  ·rw[Js a];by_cases c:q x=true
   ·rw[Jc c];simp;omega
   ·rw[Js c];exact b
theorem kQ(hn:n<=6)(d:n<=4\/h<=3):(cy n h l).length<64:=by
 rcases d with e|h2
 ·have a:=IN (gC h (jW l n)) (j8 n);rw[j7] at a;have:2 ^ n<=2 ^ 4:=JQ (by decide) e;unfold cy;omega
 ·have a:(cy n h l).length<=((j8 n).filter λr=>decide (r.length<=3)).length:=gU (λr c=>by
   unfold gC at c;rw[Iq,decide_eq_true_eq] at c;rw[decide_eq_true_eq];omega) _
  have b:∀n:Nat,n<=6->((j8 n).filter λr=>decide (r.length<=3)).length<=42:=by
   intro n hn
   match n,hn with
   | 0,_=>decide
   | 1,_=>decide
   | 2,_=>decide
   | 3,_=>decide
   | 4,_=>decide
   | 5,_=>decide +kernel
   | 6,_=>decide +kernel
  have:=b n hn;omega
theorem aK{l:List Int}(h:k<l.length):l.getD k 0∈l:=by rw[HU,HR h];exact IB h
def StB(s o:List Int)(d:Nat)(l:List Int):Prop:=d<o.length/\l.length=s.length
def je(s l r:List Int)(n:Nat):List Int:=(di n).map λ(i:Nat)=>if (i:Int)∈r then s.getD i 0 else l.getD i 0 - 1
theorem iw(s l r:List Int)(n:Nat):(je s l r n).length=n:=by simp[je]
abbrev eJ:Stmt:=top 5
theorem nP:az ["town", "standing"] ["town", "standing"] (af eJ):=⟨rfl,rfl,rfl,by decide +kernel,rfl,by decide +kernel,by decide +kernel⟩
def lL:DSp:=λss R=>∃(s o l:List Int) (d:Nat),ss=[.fr (.tuple [.list (li s),.list (li o)]),.fr (.tuple [.int d,.tuple (li l)])]/\d<o.length/\R (.fr (.int (o.getD d 0))) [.un,.un]
theorem pD(F:Fun K "hands_on" "hands_on" eJ f fd):bx K fd ["town", "standing"] []:=F.binds (ps:=["town", "standing"]) λ_ _ _ _ _ _ us a=>us2 (Q:=λus=>k3 _ ⟨us,[]⟩=pure (fy _ us)) a λ_ _=>rfl
theorem oJ(F:Fun K "hands_on" "hands_on" eJ f fd)(B:Bn mg):cq P w K mg base CX0 1 f fd ["town", "standing"] (spD K lL):=by
 refine okD (k:=0) F nP (λss R h=>?_) (by decide) (λcdv A outer s H E a=>⟨_,(ak (aX (bd (ai (K:=K) rfl) mIx (bd (ai (K:=K) rfl) mIx (qv 0) aj (λ_ _=>rfl)) (bd (ai (K:=K) rfl) mIx (qv 1) aj (λ_ _=>rfl)) (λ_ _=>rfl)))),λss R h=>?_⟩)
 ·obtain⟨s,o,l,d,rfl,_⟩:=h;rfl
 obtain⟨s,o,l,d,rfl,hd,q⟩:=h;walk_at "dd";exact⟨_,bV hd,q⟩
abbrev fO:Stmt:=top 7
theorem iH:az ["town", "standing", "row", "spans", "lefts"] ["town", "standing", "row"] (af fO):=⟨rfl,rfl,rfl,by decide +kernel,rfl,by decide +kernel,by decide +kernel⟩
def ii:DSp:=λss R=>∃(s o l r:List Int) (d:Nat),ss=[.fr (.tuple [.list (li s),.list (li o)]),.fr (.tuple [.int d,.tuple (li l)]),.fr (.list (li r))]/\1<=o.length/\l.length=s.length/\s.length<=1000/\R (.fr (.tuple [.int (((d+1) % o.length:Nat):Int),.tuple (li (je s l r s.length))])) [.un,.un,.un]
theorem wo(F:Fun K "behind" "behind" fO f fd):bx K fd ["town", "standing", "row"] []:=F.binds (ps:=["town", "standing", "row"]) λ_ _ _ _ _ _ us a=>us3 (Q:=λus=>k3 _ ⟨us,[]⟩=pure (fy _ us)) a λ_ _ _=>rfl
theorem uQ(F:Fun K "behind" "behind" fO f fd)(B:Bn mg):cq P w K mg base CX0 1 f fd ["town", "standing", "row"] (spD K ii):=by
 refine okD (k:=0) F iH (λss R h=>?_) (by decide) (λcdv A outer s H E c=>⟨_,(ah (aM (i:=3) iH.nd rfl (eb rfl) (bd (ai (K:=K) rfl) mIx (qv 0) aj (λ_ _=>rfl)))
   (ah (cO (i:=4)  iH.nd rfl rfl (N':=["clock", "left", "row", "spans"]) (ix:=[none,none,some 2,some 3]) rfl (cU (N:=["town", "standing", "row", "spans", "lefts"]) (sc0:=af fO) rfl rfl (by decide +kernel)) (nY true (K:=K) rfl rfl B.enumerate (aa (bd (ai (K:=K) rfl) mIx (qv 1) aj (λ_ _=>rfl)) ac)) (λ_ _ _ _=>(jI (K:=K) (n:=2) rfl rfl (bz (au (i:=0) (show eT (["clock", "left", "row", "spans"]:List bt) by decide +kernel) rfl da) (bz (au (i:=1) (show eT (["clock", "left", "row", "spans"]:List bt) by decide +kernel) rfl da) gm)))) (λ_ _ _ _=>bR) (λ_ _ _ _=>(uj (aC (kIn (K:=K) rfl) mIn (qv 0) (qv 2) (by with_unfolding_all rfl)) (bd (ai (K:=K) rfl) mIx (qv 3) (qv 0) (λ_ _=>rfl)) (bD d4 mI (qv 1) aj))))
   (ak (aX (hV (aa (bD bE mIC (bD bI mI (bd (ai (K:=K) rfl) mIx (qv 1) aj (λ_ _=>rfl)) aj) (dG (fq (K:=K) rfl) fi rfl B.len dt (aa (bd (ai (K:=K) rfl) mIx (qv 0) aj (λ_ _=>rfl)) ac))) (aa (uh (K:=K) rfl rfl B.tuple (aa (qv 4) ac)) ac))))))),λss R h=>?_⟩)
 ·obtain⟨s,o,l,r,d,rfl,_⟩:=h;rfl
 obtain⟨s,o,l,r,d,rfl,ho,b,g,q⟩:=h;walk_at "dx";refine dh (λi=>.int (if (i:Int)∈r then s.getD i 0 else l.getD i 0 - 1)) (by rw[bB,HS];omega) (λi hi Q a=>?_) ?_
 ·rw[bB,HS] at hi;rw[fX,gO];walk_at "dx";refine cu (λh=>?_) (λh=>?_)
  ·rw[ME h] at a;exact⟨_,bV (by omega),a⟩
  ·rw[MF h] at a;exact a
 have e:(di (kT (li l)).length).map (λi:Nat=>eC (if (i:Int)∈r then s.getD i 0 else l.getD i 0 - 1))=li (je s l r s.length):=by rw[bB,HS,b];show _=eP _ (eP _ _);rw[IK];rfl
 rw[e];walk_at "dx";rw[HS];exact⟨by omega,Ie (by decide) ag,q⟩
abbrev kg:Stmt:=top 4
theorem xh:az ["town"] ["town"] (af kg):=⟨rfl,rfl,rfl,by decide +kernel,rfl,by decide +kernel,by decide +kernel⟩
def ka:DSp:=λss R=>∃(s o:List Int),ss=[.fr (.tuple [.list (li s),.list (li o)])]/\R (.fr (.tuple [.int 0,.tuple (li s)])) [.un]
theorem yI(F:Fun K "begun" "begun" kg f fd):bx K fd ["town"] []:=F.binds (ps:=["town"]) λ_ _ _ _ _ _ us a=>us1 (Q:=λus=>k3 _ ⟨us,[]⟩=pure (fy _ us)) a λ_=>rfl
theorem xF(F:Fun K "begun" "begun" kg f fd)(B:Bn mg):cq P w K mg base CX0 1 f fd ["town"] (spD K ka):=by
 refine okD (k:=0) F xh (λss R h=>?_) (by decide) (λcdv A outer s H E a=>⟨_,(ak (aX (hV (aa aj (aa (uh (K:=K) rfl rfl B.tuple (aa (bd (ai (K:=K) rfl) mIx (qv 0) aj (λ_ _=>rfl)) ac)) ac))))),λss R h=>?_⟩)
 ·obtain⟨s,o,rfl,_⟩:=h;rfl
 obtain⟨s,o,rfl,q⟩:=h;walk_at "dd";exact⟨Ie (by decide) ag,q⟩
theorem jV(rr:List (List Int)):hZ (.list (lr rr)) (.list [])=decide (rr=[]):=by
 cases rr with
 | nil=>rfl
 | cons r rr=>rfl
theorem D3{rr:List (List Int)}(h:k<rr.length):atI (lr rr) (k:Int)=some (.list (li (rr.getD k []))):=cV (by
 rw[IH,HR h,HU,HR h];rfl)
def qm(r:List Int):Bool:=((di (r.length - 1)).map λi=>decide (r.getD i 0<r.getD (i+1) 0)).all id
def E7(n:Nat)(r:List Int):Bool:=((di r.length).map λi=>decide (0<=r.getD i 0)&&decide (r.getD i 0<n)).all id
def dY(n:Nat)(r:List Int):Bool:=qm r&&E7 n r
def BH(l r:List Int):Bool:=(((di l.length).filter λi=>decide (l.getD i 0=1)).map λ(i:Nat)=>decide ((i:Int)∈r)).all id
def zp(s o l r:List Int)(d:Nat):Bool:=dY s.length r&&(decide ((r.length:Int)<=o.getD d 0)&&BH l r)
def Bb(s l:List Int)(rows:List (List Int)):Nat->List Int
 | 0=>l
 | i+1=>je s (Bb s l rows i) (rows.getD i []) s.length
theorem xS(h:l.length=s.length)(rows:List (List Int)):∀i,(Bb s l rows i).length=s.length
 | 0=>h
 | i+1=>iw _ _ _ _
def sD(s o l:List Int)(rows:List (List Int))(i:Nat):Bool:=zp s o (Bb s l rows i) (rows.getD i []) (i % o.length)
def a9(P:Nat->Bool):Nat->Int
 | 0=>-1
 | t+1=>if P t=true then (t:Int) else a9 P t
theorem oV(P:Nat->Bool):∀t:Nat,a9 P t<(t:Int)/\-1<=a9 P t
 | 0=>by unfold a9;omega
 | t+1=>by
  have:=oV P t;unfold a9;split <;> omega
theorem d9(P:Nat->Bool):∀(t u:Nat),a9 P t<(u:Int)->u<t->P u=false
 | 0,u,_,h=>by omega
 | t + 1,u,h1,h2=>by
  unfold a9 at h1;split at h1
  ·omega
  ·rename_i h;by_cases a:u=t
   ·rw[a];simpa using h
   ·exact d9 P t u h1 (by omega)
theorem oW(P:Nat->Bool):∀t:Nat,a9 P t = -1\/∃u:Nat,a9 P t=(u:Int)/\u<t/\P u=true
 | 0=>.inl rfl
 | t + 1=>by
  unfold a9;split
  ·rename_i h;exact .inr ⟨t,rfl,by omega,h⟩
  ·rcases oW P t with h|⟨u,h1,h2,a⟩
   ·exact .inl h
   ·exact .inr ⟨u,h1,by omega,a⟩
theorem Bf{P:Nat->Bool}{t:Nat}{p:Int}(d:p<t)(h1:-1<=p)(h2:p = -1\/P p.toNat=true)(a:∀u:Nat,p<(u:Int)->u<t->P u=false):a9 P t=p:=by
 have e:=oV P t;by_cases b:a9 P t<p
 ·have f:0<=p:=by omega
  rcases h2 with h2|h2
  ·omega
  ·have:=d9 P t p.toNat (by omega) (by omega);rw[h2] at this;cases this
 ·by_cases c:p<a9 P t
  ·rcases oW P t with h|⟨u,e1,e2,e3⟩
   ·omega
   ·have:=a u (by omega) e2;rw[e3] at this;cases this
  ·omega
theorem zn{P:Nat->Bool}:∀(n t:Nat),P (t+n)=true->∃q,t<=q/\q<=t+n/\P q=true/\∀u,t<=u->u<q->P u=false
 | 0,t,h=>⟨t,by omega,by omega,h,λu h1 h2=>by omega⟩
 | n + 1,t,h=>by
  by_cases a:P t=true
  ·exact⟨t,by omega,by omega,a,λu h1 h2=>by omega⟩
  ·obtain⟨q,h1,h2,b,c⟩:=zn n (t+1) (by rw[show t+1+n=t+(n+1) by omega];exact h);refine⟨q,by omega,by omega,b,λu f d=>?_⟩;by_cases e:u=t
   ·rw[e];simpa using a
   ·exact c u (by omega) d
def rq(P:Nat->Bool)(T:Nat):List Int:=-1::((di T).filter P).map (hY:Nat->Int)
theorem mN(P:Nat->Bool)(T:Nat):rq P (T+1)=if P T=true then rq P T++[(T:Int)] else rq P T:=by
 unfold rq;rw[Jo,Je,IE];by_cases h:P T=true
 ·rw[ME h,Jc h];rfl
 ·rw[MF h,Js h];simp
theorem mO(P:Nat->Bool):∀T,(rq P T).getD ((rq P T).length - 1) 0=a9 P T
 | 0=>rfl
 | T + 1=>by
  rw[mN];unfold a9;by_cases h:P T=true
  ·rw[ME h,ME h];simp[HU]
  ·rw[MF h,MF h];exact mO P T
theorem yq(P:Nat->Bool)(T:Nat):1<=(rq P T).length:=by unfold rq;simp
theorem qZ(P:Nat->Bool)(s:Int):∀T,(∀i,i+1<(rq P T).length->(rq P T).getD (i+1) 0 - (rq P T).getD i 0<=s)↔∀t:Nat,t<T->P t=true->(t:Int) - a9 P t<=s
 | 0=>⟨λ_ t h=>by omega,λ_ i h=>by simp[rq] at h⟩
 | T + 1=>by
  have e:=qZ P s T;have m:=yq P T;have d:=mO P T;rw[mN];by_cases h:P T=true
  ·rw[ME h];generalize rq P T=D at *;have b:∀i,i<D.length->(D++[(T:Int)]).getD i 0=D.getD i 0:=λi hi=>by simp[HU,Iu hi]
   have k:(D++[(T:Int)]).getD D.length 0=(T:Int):=by simp[HU]
   constructor
   ·intro a t f g;by_cases j:t=T
    ·subst j;have:=a (D.length - 1) (by simp;omega);rw[show D.length - 1+1=D.length by omega,k,b _ (by omega),d] at this;exact this
    ·refine e.mp (λi hi=>?_) t (by omega) g;have:=a i (by simp;omega);rwa [b _ (by omega),b _ (by omega)] at this
   ·intro a i hi;rw[Ix,IX] at hi;by_cases l:i+1=D.length
    ·rw[l,k,b _ (by omega),show i=D.length - 1 by omega,d];exact a T (by omega) h
    ·rw[b _ (by omega),b _ (by omega)];exact e.mpr (λt f c=>a t (by omega) c) i (by omega)
  ·rw[MF h];refine e.trans ⟨λa t f c=>?_,λa t f c=>a t (by omega) c⟩;by_cases j:t=T
   ·subst j;exact absurd c h
   ·exact a t (by omega) c
def Pc(rows:List (List Int))(c t:Nat):Bool:=decide ((c:Int)∈rows.getD t [])
theorem jP{P Q:Nat->Bool}:∀t:Nat,(∀u,u<t->P u=Q u)->a9 P t=a9 Q t
 | 0,_=>rfl
 | t+1,h=>by
  unfold a9;rw[h t (by omega),jP t λu a=>h u (by omega)]
theorem eV(h:c<n):(je s l r n).getD c 0=if (c:Int)∈r then s.getD c 0 else l.getD c 0 - 1:=by unfold je;simp[HU,h]
theorem kD(hc:c<s.length):∀i:Nat,(Bb s s rows i).getD c 0=s.getD c 0 - ((i:Int) - a9 (Pc rows c) i - 1)
 | 0=>by
  show s.getD c 0=s.getD c 0 - ((0:Nat) - (-1) - 1:Int)
  omega
 | i + 1=>by
  have a:=kD (rows:=rows) hc i;show(je s (Bb s s rows i) (rows.getD i []) s.length).getD c 0=_;have b:a9 (Pc rows c) (i+1)=if Pc rows c i=true then (i:Int) else a9 (Pc rows c) i:=rfl
  rw[eV hc,a,b];by_cases h:(c:Int)∈rows.getD i []
  ·rw[ME h,ME (show Pc rows c i=true from decide_eq_true h)];omega
  ·rw[MF h,MF (show ¬Pc rows c i=true fromλz=>h (of_decide_eq_true z))];omega
def yk(s o:List Int)(rows:List (List Int))(i:Nat):Bool:=decide (((rows.getD i []).length:Int)<=o.getD (i % o.length) 0)&&(E7 s.length (rows.getD i [])&&qm (rows.getD i []))
theorem pd(l r:List Int):BH l r=true↔∀c,c<l.length->l.getD c 0=1->(c:Int)∈r:=by
 unfold BH;rw[Jh];constructor
 ·intro h c hc e;have:=h (decide ((c:Int)∈r)) (Ig.mpr ⟨c,Iw.mpr ⟨Io.mpr hc,decide_eq_true e⟩,rfl⟩);exact of_decide_eq_true this
 ·intro h x hx;obtain⟨c,hc,rfl⟩:=Ig.mp hx;obtain⟨h1,h2⟩:=Iw.mp hc;exact decide_eq_true (h c (Io.mp h1) (of_decide_eq_true h2))
theorem u4:sD s o s rows i=true↔yk s o rows i=true/\∀c,c<s.length->(i:Int) - a9 (Pc rows c) i=s.getD c 0->Pc rows c i=true:=by
 unfold sD zp yk dY;rw[Iq,Iq,Iq,Iq,Iq,pd,xS rfl];constructor
 ·rintro⟨⟨h1,h2⟩,a,b⟩;refine⟨⟨a,h2,h1⟩,λc hc e=>decide_eq_true (b c hc ?_)⟩;rw[kD hc];omega
 ·rintro⟨⟨a,h2,h1⟩,b⟩;refine⟨⟨h1,h2⟩,a,λc hc e=>of_decide_eq_true (b c hc ?_)⟩;rw[kD hc] at e;omega
def wK(rows:List (List Int))(c:Nat):Bool:=((di rows.length).map λ(i:Nat)=>decide ((c:Int)∈rows.getD i [])).any id
def wW(rows:List (List Int))(n:Nat):Bool:=((di n).map λc=>wK rows c).all id
theorem eF:wK rows c=true↔∃t,t<rows.length/\(c:Int)∈rows.getD t []:=by
 unfold wK;rw[Mk];constructor
 ·rintro⟨x,hx,e⟩;obtain⟨t,a,rfl⟩:=Ig.mp hx;exact⟨t,Io.mp a,of_decide_eq_true e⟩
 ·rintro⟨t,a,e⟩;exact⟨_,Ig.mpr ⟨t,Io.mpr a,rfl⟩,decide_eq_true e⟩
theorem eG:wW rows n=true↔∀c,c<n->wK rows c=true:=by
 unfold wW;rw[Jh];constructor
 ·intro h c hc;exact h _ (Ig.mpr ⟨c,Io.mpr hc,rfl⟩)
 ·intro h x hx;obtain⟨c,hc,rfl⟩:=Ig.mp hx;exact h c (Io.mp hc)
theorem jd(X Y:List (List Int))(i:Nat):(X++Y).getD i []=if i<X.length then X.getD i [] else Y.getD (i - X.length) []:=by rw[HU,LH,HU,HU];split <;> rfl
def KP(s o:List Int)(A B:List (List Int)):Prop:=1<=B.length/\B.length % o.length=0/\(∀i,i<A.length+2*B.length->sD s o s (A++B++B) i=true)/\wW B s.length=true
def rwF(A B:List (List Int))(t:Nat):List Int:=if t<A.length then A.getD t [] else B.getD ((t - A.length) % B.length) []
def lfF(s:List Int)(rw:Nat->List Int):Nat->List Int
 | 0=>s
 | i+1=>je s (lfF s rw i) (rw i) s.length
theorem gw:∀i,(lfF s rw i).length=s.length
 | 0=>rfl
 | i+1=>iw _ _ _ _
def sC(s o:List Int)(rw:Nat->List Int)(i:Nat):Bool:=zp s o (lfF s rw i) (rw i) (i % o.length)
theorem vc:∀i,(∀j,j<i->rows.getD j []=rw j)->Bb s s rows i=lfF s rw i
 | 0,_=>rfl
 | i+1,h=>by
  show je s (Bb s s rows i) (rows.getD i []) s.length=je s (lfF s rw i) (rw i) s.length;rw[vc i λj hj=>h j (by omega),h i (by omega)]
theorem nS(h:t<A.length+2*B.length):(A++B++B).getD t []=rwF A B t:=by
 unfold rwF;rw[Ja,jd];by_cases h1:t<A.length
 ·rw[ME h1,ME h1]
 ·rw[MF h1,MF h1,jd];by_cases h2:t - A.length<B.length
  ·rw[ME h2,Jk h2]
  ·rw[MF h2,L5 (Mm h2),Jk (by omega)]
theorem u5(h:i<A.length+2*B.length):sD s o s (A++B++B) i=sC s o (rwF A B) i:=by unfold sD sC;rw[vc i λj hj=>nS (by omega),nS h]
theorem nR(h:A.length<=t):rwF A B (t+B.length)=rwF A B t:=by unfold rwF;rw[MF (by omega),MF (by omega),show t+B.length - A.length=t - A.length+B.length by omega,Nat.add_mod_right]
def PF(rw:Nat->List Int)(c t:Nat):Bool:=decide ((c:Int)∈rw t)
theorem fU(hc:c<s.length):∀i:Nat,(lfF s rw i).getD c 0=s.getD c 0 - ((i:Int) - a9 (PF rw c) i - 1)
 | 0=>by
  show s.getD c 0=s.getD c 0 - ((0:Nat) - (-1) - 1:Int)
  omega
 | i + 1=>by
  have a:=fU (rw:=rw) hc i;show(je s (lfF s rw i) (rw i) s.length).getD c 0=_;have b:a9 (PF rw c) (i+1)=if PF rw c i=true then (i:Int) else a9 (PF rw c) i:=rfl
  rw[eV hc,a,b];by_cases h:(c:Int)∈rw i
  ·rw[ME h,ME (show PF rw c i=true from decide_eq_true h)];omega
  ·rw[MF h,MF (show ¬PF rw c i=true fromλz=>h (of_decide_eq_true z))];omega
theorem xN(h:zp s o l r d=true)(hc:c<l.length)(e:l.getD c 0=1):(c:Int)∈r:=by unfold zp at h;rw[Iq,Iq] at h;exact(pd l r).mp h.2.2 c hc e
theorem ve(a:∀x∈s,1<=x)(hc:c<s.length):∀i:Nat,(∀j,j<i->sC s o rw j=true)->1<=(lfF s rw i).getD c 0
 | 0,_=>a _ (aK hc)
 | i + 1,h=>by
  have b:=ve (o:=o) a hc i λj hj=>h j (by omega);show 1<=(je s (lfF s rw i) (rw i) s.length).getD c 0;rw[eV hc];split
  ·exact a _ (aK hc)
  ·rename_i hn;by_cases e:(lfF s rw i).getD c 0=1
   ·exact absurd (xN (h i (by omega)) (by rw[gw];exact hc) e) hn
   ·omega
theorem yo{l l':List Int}(a:l.length=l'.length)(h:∀c,c<l.length->l.getD c 0=l'.getD c 0):l=l':=by apply JB a;intro i h1 h2;have:=h i h1;simpa[HU,h1,h2] using this
theorem sG{P:Nat->Bool}{a b:Nat}(g:1<=b)(c:∀t,a<=t->P (t+b)=P t)(d:∃t,a<=t/\t<a+b/\P t=true){i:Nat}(hi:a+b<=i):a9 P (i+b)=a9 P i+b:=by
 obtain⟨w,h,j,e⟩:=d;have k:=oV P i;have l:(a:Int)<=a9 P i:=by
  by_cases hc:(w:Int)<=a9 P i
  ·omega
  ·have:=d9 P i w (by omega) (by omega);rw[e] at this;cases this
 refine Bf (by omega) (by omega) (.inr ?_) λu h1 h2=>?_
 ·rcases oW P i with z|⟨u,z,_,f⟩
  ·omega
  ·rw[show(a9 P i+b).toNat=u+b by omega,c u (by omega)];exact f
 ·obtain⟨v,rfl⟩:∃v,u=v+b:=⟨u - b,by omega⟩
  rw[c v (by omega)];exact d9 P i v (by omega) (by omega)
theorem Ak:wK B c=true↔∃t,A.length<=t/\t<A.length+B.length/\PF (rwF A B) c t=true:=by
 rw[eF];constructor
 ·rintro⟨t,h1,h2⟩;refine⟨A.length+t,by omega,by omega,decide_eq_true ?_⟩;unfold rwF;rw[MF (by omega),show A.length+t - A.length=t by omega,Jk h1];exact h2
 ·rintro⟨t,h1,h2,a⟩;have a:=of_decide_eq_true a;unfold rwF at a;rw[MF (by omega),Jk (by omega)] at a;exact⟨t - A.length,by omega,a⟩
theorem vd(b:1<=B.length)(hw:wW B s.length=true)(hi:A.length+B.length<=i):lfF s (rwF A B) (i+B.length)=lfF s (rwF A B) i:=by refine yo (by rw[gw,gw]) λc hc=>?_;rw[gw] at hc;rw[fU hc,fU hc,sG (a:=A.length) b (λt d=>by unfold PF;rw[nR d]) (Ak.mp (eG.mp hw c hc)) hi];omega
theorem jN(b:1<=B.length)(a:B.length % o.length=0)(hi:A.length<=i)(e:lfF s (rwF A B) (i+B.length)=lfF s (rwF A B) i):sC s o (rwF A B) (i+B.length)=sC s o (rwF A B) i:=by unfold sC;rw[e,nR hi,Nat.add_mod,a,Hh,Nat.mod_mod]
theorem Ad(k:KP s o A B):∀i,sC s o (rwF A B) i=true:=by
 obtain⟨b,c,a,hw⟩:=k;have base:∀i,i<A.length+2*B.length->sC s o (rwF A B) i=true:=λi hi=>by rw[<-u5 hi];exact a i hi
 have go:∀n i,i<=n->sC s o (rwF A B) i=true:=λn=>by
  induction n with
  | zero=>exactλi hi=>base i (by omega)
  | succ n d =>
   intro i hi;by_cases h:i<A.length+2*B.length
   ·exact base i h
   ·have e:=vd (s:=s) (A:=A) b hw (i:=i - B.length) (by omega);have e2:=jN (s:=s) (A:=A) (o:=o) b c (i:=i - B.length) (by omega) e;rw[show i - B.length+B.length=i by omega] at e2;rw[e2];exact d _ (by omega)
 exactλi=>go i i (Ih _)
theorem xJ(h:¬wW B n=true):∃c,c<n/\wK B c=false:=by
 by_cases hc:∃c,c<n/\wK B c=false
 ·exact hc
 ·refine absurd (eG.mpr λc a=>?_) h;cases e:wK B c with
  | true=>rfl
  | false=>exact absurd ⟨c,a,e⟩ hc
theorem qL(d:1<=B.length)(h:wK B c=false):∀i,A.length<=i->a9 (PF (rwF A B) c) i=a9 (PF (rwF A B) c) A.length:=by
 have none:∀t,A.length<=t->PF (rwF A B) c t=false:=λt f=>by
  cases e:PF (rwF A B) c t with
  | false=>rfl
  | true =>
   have e:=of_decide_eq_true e;unfold rwF at e;rw[MF (by omega)] at e;have:wK B c=true:=eF.mpr ⟨_,JV _ (by omega),e⟩;rw[h] at this;cases this
 intro i hi
 induction i with
 | zero=>rw[show A.length=0 by omega]
 | succ i b =>
  by_cases a:A.length=i+1
  ·rw[a]
  ·show(if PF (rwF A B) c i=true then (i:Int) else a9 (PF (rwF A B) c) i)=_;rw[none i (by omega),MF (by decide)];exact b (by omega)
theorem yK(b:1<=B.length)(g:B.length % o.length=0)(hk:k'<k)(a:∀j,j<A.length+k*B.length->sC s o (rwF A B) j=true)
  (e : lfF s (rwF A B) (A.length+k*B.length)=lfF s (rwF A B) (A.length+k'*B.length)):KP s o A B:=by
 have m:k'*B.length+B.length<=k*B.length:=by have:=v3 B.length (show k'+1<=k by omega);rw[Nat.succ_mul] at this;exact this
 have hw:wW B s.length=true:=by
  by_cases h:wW B s.length=true
  ·exact h
  ·obtain⟨c,hc,hn⟩:=xJ h;have e:=congrArg (λl=>l.getD c 0) e;have e:(lfF s (rwF A B) (A.length+k*B.length)).getD c 0=(lfF s (rwF A B) (A.length+k'*B.length)).getD c 0:=e;rw[fU hc,fU hc,qL b hn _ (by omega),qL b hn (A.length+k'*B.length) (by omega)] at e;omega
 refine⟨b,g,λi hi=>?_,hw⟩;rw[u5 hi];by_cases h2:2<=k
 ·have:=v3 B.length h2;exact a i (by omega)
 ·have d:k=1:=by omega
  have f:k'=0:=by omega
  subst d f;rw[LN,Nat.zero_mul,Hh] at e;rw[LN] at a;by_cases h1:i<A.length+B.length
  ·exact a i h1
  ·have n:∀j,lfF s (rwF A B) (A.length+j+B.length)=lfF s (rwF A B) (A.length+j):=λj=>by
    induction j with
    | zero=>exact e
    | succ j p =>
     rw[show A.length+(j+1)+B.length=(A.length+j+B.length)+1 by omega];show je s (lfF s (rwF A B) (A.length+j+B.length)) (rwF A B (A.length+j+B.length)) s.length=je s (lfF s (rwF A B) (A.length+j)) (rwF A B (A.length+j)) s.length;rw[p,nR (by omega)]
   have e2:=jN (s:=s) (A:=A) (o:=o) b g (i:=i - B.length) (by omega) (by
    have:=n (i - B.length - A.length);rwa [show A.length+(i - B.length - A.length)=i - B.length by omega] at this)
   rw[show i - B.length+B.length=i by omega] at e2;rw[e2];exact a _ (by omega)
theorem fP(r:List Int):qm r=true↔r.Pairwise (·<·):=by
 unfold qm;rw[Jh];constructor
 ·intro h;have c:∀i,i+1<r.length->r.getD i 0<r.getD (i+1) 0:=λi hi=>of_decide_eq_true (h _ (Ig.mpr ⟨i,Io.mpr (by omega),rfl⟩));have far:∀k i,i+k+1<r.length->r.getD i 0<r.getD (i+k+1) 0:=λk=>by
   induction k with
   | zero=>exactλi hi=>c i hi
   | succ k d =>
    intro i hi;have a:=d i (by omega);have b:=c (i+k+1) (by omega);rw[show i+(k+1)+1=i+k+1+1 by omega];omega
  rw[Jm];intro i j hi hj e;have:=far (j - i - 1) i (by omega);rw[show i+(j - i - 1)+1=j by omega] at this;simpa[HU,hi,hj] using this
 ·intro h x hx;obtain⟨i,hi,rfl⟩:=Ig.mp hx;have hi:=Io.mp hi;have h1:i<r.length:=by omega
  have h2:i+1<r.length:=by omega
  have:=Jm.mp h i (i+1) h1 h2 (by omega);refine decide_eq_true ?_;simpa[HU,h1,h2] using this
theorem kK(n:Nat)(r:List Int):E7 n r=true↔∀x∈r,0<=x/\x<n:=by
 unfold E7;rw[Jh];constructor
 ·intro h x hx;obtain⟨i,hi,rfl⟩:=Il hx;have:=h _ (Ig.mpr ⟨i,Io.mpr hi,rfl⟩);have e:r.getD i 0=r[i]:=by simp[HU,hi]
  rw[id_eq,Iq,decide_eq_true_eq,decide_eq_true_eq,e] at this;exact this
 ·intro h x hx;obtain⟨i,hi,rfl⟩:=Ig.mp hx;have:=h _ (aK (Io.mp hi));rw[id_eq,Iq,decide_eq_true_eq,decide_eq_true_eq];exact this
theorem ie:∀(n:Nat) (r:List Int),r.Pairwise (·<·)->(∀x∈r,0<=x/\x<n)->r∈j8 n
 | 0,r,_,h=>by
  cases r with
  | nil=>simp[j8]
  | cons x l=>have:=h x (by simp);omega
 | n + 1,r,d,h=>by
  show r∈j8 n++(j8 n).map (·++[(n:Int)]);by_cases hn:(n:Int)∈r
  ·refine HQ _ ?_;rcases JJ r with rfl|⟨l,x,rfl⟩
   ·cases hn
   ·rw[JK] at *;obtain⟨f,_,p3⟩:=vu.mp d;have hx:=h x (by simp);have c:x=(n:Int):=by
     rcases HX.mp hn with z|z
     ·have:=p3 _ z x (by simp);omega
     ·exact(HW.mp z).symm
    refine Ig.mpr ⟨l,ie n l f λy e=>?_,by rw[c]⟩;have a:=h y (by simp[e]);have b:=p3 y e x (by simp);omega
  ·refine HV _ (ie n r d λx hx=>?_);have a:=h x hx;have b:x≠(n:Int):=λz=>hn (z▸hx);omega
theorem vy(b:l.length=s.length):r∈cy s.length (o.getD d 0) l↔zp s o l r d=true:=by
 unfold cy zp dY gC;rw[Iw,Iq,Iq,Iq,Iq,fP,kK,pd,b,decide_eq_true_eq,decide_eq_true_eq];have f:(iy (λc=>decide (c ∉ r)) (jW l s.length))=[]↔∀c,c<s.length->l.getD c 0=1->(c:Int)∈r:=by
  rw[JU];constructor
  ·intro h c hc e;have:=h (c:Int) (by
    unfold jW;exact Ig.mpr ⟨c,Iw.mpr ⟨Io.mpr hc,decide_eq_true e⟩,rfl⟩)
   simpa using this
  ·intro h x hx;unfold jW at hx;obtain⟨c,hc,rfl⟩:=Ig.mp hx;obtain⟨h1,h2⟩:=Iw.mp hc;have:=h c (Io.mp h1) (of_decide_eq_true h2);simpa using this
 rw[f];constructor
 ·rintro⟨h1,h2,a⟩;obtain⟨_,p,q⟩:=bP _ r h1;exact⟨⟨p,q⟩,h2,a⟩
 ·rintro⟨⟨p,q⟩,h2,a⟩;exact⟨ie _ r p q,h2,a⟩
theorem ER(rr:List (List Int))(r:List Int):((lr rr).any λx=>hZ x (.list (li r)))=decide (r∈rr):=by
 rw[JL,Mk,decide_eq_true_eq];constructor
 ·rintro⟨x,hx,e⟩;obtain⟨y,a,rfl⟩:=Ig.mp hx;rw[mM,decide_eq_true_eq] at e;exact e▸a
 ·intro h;exact⟨_,v6 h,by rw[mM];simp⟩
def pB(B:List (List Int))(c t:Nat):Bool:=decide ((c:Int)∈B.getD (t % B.length) [])
theorem zV(h:t<2*B.length):(([]:List (List Int))++B++B).getD t []=B.getD (t % B.length) []:=by
 rw[J2,jd];by_cases h1:t<B.length
 ·rw[ME h1,Jk h1]
 ·rw[MF h1,L5 (by omega),Jk (by omega)]
theorem l9{P:Nat->Bool}{i:Nat}:∀k,(∀u,i<=u->u<i+k->P u=false)->a9 P (i+k)=a9 P i
 | 0,_=>rfl
 | k+1,h=>by
  show(if P (i+k)=true then ((i+k:Nat):Int) else a9 P (i+k))=_;rw[MF (by rw[h (i+k) (by omega) (by omega)];decide)];exact l9 k λu h1 h2=>h u h1 (by omega)
theorem u8(x:1<=B.length)(k:B.length % o.length=0)(a:∀i,i<B.length->dY s.length (B.getD i [])=true/\((B.getD i []).length:Int)<=o.getD (i % o.length) 0)
  (hw:wW B s.length=true) (b:∀c,c<s.length->∀j:Nat,j<3*B.length->pB B c j=true->(j:Int) - a9 (pB B c) j<=s.getD c 0):KP s o [] B:=by
 refine⟨x,k,λi hi=>?_,hw⟩;have d:i<2*B.length:=by simpa using hi
 have f:i % B.length<B.length:=JV _ (by omega);have h:i % B.length % o.length=i % o.length:=Nat.mod_mod_of_dvd _ (Nat.dvd_of_mod_eq_zero k);have l:∀c u,u<2*B.length->Pc ([]++B++B) c u=pB B c u:=λc u m=>by
  unfold Pc pB;rw[zV m]
 rw[u4];refine⟨?_,λc hc e=>?_⟩
 ·obtain⟨g,p⟩:=a _ f;unfold yk;rw[zV d];unfold dY at g;rw[Iq] at g;rw[Iq,Iq,decide_eq_true_eq];rw[h] at p;exact⟨p,g.2,g.1⟩
 ·rw[l c i d];rw[jP i λu m=>l c u (by omega)] at e;by_cases r:pB B c i=true
  ·exact r
  ·exfalso;obtain⟨t,t1,t2⟩:=eF.mp (eG.mp hw c hc);have ex:∃n,pB B c (i+n)=true/\i+n<3*B.length:=by
    have y:=Nat.div_add_mod i B.length;have A:i / B.length<2:=Nat.div_lt_of_lt_mul (by omega);have v:B.length*(i / B.length)<=B.length*1:=Nat.mul_le_mul_left _ (by omega);refine⟨B.length*(i / B.length)+B.length+t - i,?_,?_⟩
    ·unfold pB;rw[show i+(B.length*(i / B.length)+B.length+t - i)=t+B.length*(i / B.length+1) by rw[Nat.mul_add];omega,Nat.add_mul_mod_self_left,Jk t1];exact decide_eq_true t2
    ·omega
   obtain⟨n,C,F⟩:=ex;obtain⟨q,G,H,w,D⟩:=zn n i C;have E:q≠i:=λz=>r (by rw[<-z];exact w);have:=b c hc q (by omega) w;rw[show q=i+(q - i) by omega,l9 (q - i) λu h1 h2=>D u h1 (by omega)] at this;omega
theorem CP{ms r:List Int}(h:ms.Perm (r++[c]))(d:ms.Pairwise (·<=·))(hn:r.Pairwise (·<·))(hc:c ∉ r):ms.Pairwise (·<·):=by
 have nd:ms.Nodup:=h.nodup_iff.mpr (by
  rw[HY];refine⟨hn.imp λh=>by omega,by simp,λa e b f=>?_⟩;rw[HW.mp f]
  exactλz=>hc (z▸e))
 exact(d.and nd).imp λ⟨h1,h2⟩=>by omega
theorem Ao{ms r:List Int}{c n:Nat}(h:ms.Perm (r++[(c:Int)]))(b:ms.Pairwise (·<=·))(a:dY n r=true)(hc:(c:Int) ∉ r)(d:c<n):dY n ms=true:=by
 unfold dY at a ⊢;rw[Iq,fP,kK] at a ⊢;refine⟨CP h b a.1 hc,λx hx=>?_⟩;rcases HX.mp (h.mem_iff.mp hx) with hx|hx
 ·exact a.2 x hx
 ·rw[HW.mp hx];omega
theorem yn(n:Nat)(p:Nat->Bool):dY n (((di n).filter p).map (hY:Nat->Int))=true:=by
 unfold dY;rw[Iq,fP,kK];refine⟨?_,λx hx=>?_⟩
 ·rw[List.pairwise_map];exact(List.pairwise_lt_range.filter p).imp λh=>by omega
 ·obtain⟨k,hk,rfl⟩:=Ig.mp hx;have:=Io.mp (Iw.mp hk).1;omega
theorem xO{P:Nat->Bool}{T:Nat}{m:Int}(a:(((di T).filter P).map (hY:Nat->Int)).getD 0 0+1<=m)
  (h1:∀k,k+1<(((di T).filter P).map (hY:Nat->Int)).length->(((di T).filter P).map (hY:Nat->Int)).getD (k+1) 0 - (((di T).filter P).map (hY:Nat->Int)).getD k 0<=m) :
  ∀j:Nat,j<T->P j=true->(j:Int) - a9 P j<=m:=by
 refine(qZ P m T).mp λi hi=>?_;unfold rq at hi ⊢;generalize ((di T).filter P).map (hY:Nat->Int)=W at *
 match i with
 | 0 =>
  show W.getD 0 0 - (-1)<=m;omega
 | k+1 =>
  show W.getD (k+1) 0 - W.getD k 0<=m;exact h1 k (by simpa using hi)
theorem xP{s o:List Int}{B:List (List Int)}(b:1<=B.length)(d:∀r∈B,dY s.length r=true)(ho:o=B.map (λr=>(r.length:Int))\/∃m,o=[m]/\∀r∈B,(r.length:Int)<=m)
  (hw:∀c,c<s.length->∃r∈B,(c:Int)∈r) (a:∀c,c<s.length->∀j:Nat,j<3*B.length->pB B c j=true->(j:Int) - a9 (pB B c) j<=s.getD c 0):KP s o [] B/\1<=o.length/\o.length<=B.length:=by
 have w:wW B s.length=true:=eG.mpr λc hc=>by
  obtain⟨r,d,hc⟩:=hw c hc;obtain⟨t,e,rfl⟩:=Il d;exact eF.mpr ⟨t,e,by rw[HU,HR e];exact hc⟩
 have g:∀i,(hi:i<B.length)->B.getD i []=B[i]:=λi hi=>by rw[HU,HR hi];rfl
 rcases ho with rfl|⟨m,rfl,f⟩
 ·refine⟨u8 b (by rw[HS,Nat.mod_self]) (λi hi=>?_) w a,by rw[HS];exact b,by rw[HS];exact Ih _⟩;rw[HS,Jk hi,g i hi];refine⟨d _ (IB hi),?_⟩;rw[HU,IH,HR hi];exact Jb _
 ·refine⟨u8 b (Nat.mod_one _) (λi hi=>?_) w a,Ih _,b⟩;rw[g i hi];refine⟨d _ (IB hi),?_⟩;rw[show i % [m].length=0 from Nat.mod_one _];exact f _ (IB hi)
theorem Cb{Rs:List (List Int)}{k c n:Nat}{ms:List Int}(hk:k<Rs.length)(a:ms.Perm (Rs.getD k []++[(c:Int)]))(q:ms.Pairwise (·<=·))(i:c<n)(j:∀r∈Rs,dY n r=true/\r.length<=3+c)(l:∀r∈Rs,(c:Int) ∉ r)
  (m:∀e:Nat,e<c->∃r∈Rs,(e:Int)∈r):(∀r∈Rs.set k ms,dY n r=true/\r.length<=3+(c+1))/\∀e:Nat,e<c+1->∃r∈Rs.set k ms,(e:Int)∈r:=by
 have g:Rs.getD k []=Rs[k]:=by rw[HU,HR hk];rfl
 have o:Rs[k]∈Rs:=IB hk;rw[g] at a;refine⟨λr p=>?_,λe u=>?_⟩
 ·rcases JP p with h|rfl
  ·have:=j r h;exact⟨this.1,by omega⟩
  ·refine⟨Ao a q (j _ o).1 (l _ o) i,?_⟩;have:=a.length_eq;have:=(j _ o).2;simp at *;omega
 ·have b:ms∈Rs.set k ms:=List.mem_set hk ms;by_cases h:e=c
  ·exact⟨ms,b,a.mem_iff.mpr (by simp[h])⟩
  ·obtain⟨r,p,d⟩:=m e (by omega);obtain⟨t,s,rfl⟩:=Il p;by_cases f:t=k
   ·subst f;exact⟨ms,b,a.mem_iff.mpr (HV _ d)⟩
   ·refine⟨Rs[t],?_,d⟩;rw[Jq];exact⟨t,by rw[II];exact s,by rw[Jj,MF (Ne.symm f)]⟩
theorem tw{Rs:List (List Int)}{c:Nat}(h:∃r∈Rs,(c:Int)∈r):1<=(((di (3*Rs.length)).filter (pB Rs c)).map (hY:Nat->Int)).length:=by obtain⟨r,d,hc⟩:=h;obtain⟨t,b,rfl⟩:=Il d;rw[HS];refine Ly (a:=t) (Iw.mpr ⟨Io.mpr (by omega),?_⟩);unfold pB;rw[Jk b,HU,HR b];exact decide_eq_true hc
theorem wV:∀x∈((di T).filter p).map (hY:Nat->Int),0<=x/\x<T:=λx hx=>by
 obtain⟨k,hk,rfl⟩:=Ig.mp hx;have:=Io.mp (Iw.mp hk).1;omega
def Hd(bs:List Bool):Bool:=decide (((di (3*bs.length)).filter λj=>bs.getD (j % bs.length) false).getD 0 0+1<=bs.length)&&(di 9).all λk=>!decide (k+1<((di (3*bs.length)).filter λj=>bs.getD (j % bs.length) false).length) || decide (((di (3*bs.length)).filter λj=>bs.getD (j % bs.length) false).getD (k+1) 0<=((di (3*bs.length)).filter λj=>bs.getD (j % bs.length) false).getD k 0+bs.length)
theorem yC:∀bs:List Bool,1<=bs.length->bs.length<=3->Hd bs=true
 | [],h,_=>by simp at h
 | [a],_,_=>by revert a;decide
 | [a,b],_,_=>by revert a b;decide
 | [a,b,c],_,_=>by revert a b c;decide
 | _::_::_::_::_,_,h=>by simp at h
theorem FT(h:1<=Rs.length):pB Rs c=λj=>(Rs.map λr=>decide ((c:Int)∈r)).getD (j % (Rs.map λr=>decide ((c:Int)∈r)).length) false:=by funext j;unfold pB;have:=JV j (show 0<Rs.length by omega);rw[HS,HU,HU,IH,HR this];rfl
theorem u7(h1:1<=Rs.length)(b:Rs.length<=3):(((di (3*Rs.length)).filter (pB Rs c)).map (hY:Nat->Int)).getD 0 0+1<=3 /\
  ∀k,k+1<(((di (3*Rs.length)).filter (pB Rs c)).map (hY:Nat->Int)).length->(((di (3*Rs.length)).filter (pB Rs c)).map (hY:Nat->Int)).getD (k+1) 0 - (((di (3*Rs.length)).filter (pB Rs c)).map (hY:Nat->Int)).getD k 0<=3:=by
 have hc:=yC (Rs.map λr=>decide ((c:Int)∈r)) (by rwa [HS]) (by rwa [HS]);have a:=IN (pB Rs c) (di (3*Rs.length));rw[IC] at a;unfold Hd at hc;rw[<-FT h1,HS] at hc;generalize (di (3*Rs.length)).filter (pB Rs c)=W at *;obtain⟨c1,c2⟩:=Jr.mp hc;have c1:=of_decide_eq_true c1;have g:∀k,(W.map (hY:Nat->Int)).getD k 0=((W.getD k 0:Nat):Int):=λk=>by
  rw[HU,HU,IH];cases W[k]? <;> rfl
 refine⟨by rw[g];omega,λk hk=>?_⟩;rw[HS] at hk;have:=Jh.mp c2 k (Io.mpr (by omega));rw[decide_eq_true hk] at this;have:=of_decide_eq_true (show decide _=true from this);rw[g,g];omega
theorem D2(rs:List (List Int))(k:Nat)(r:List Int):(lr rs).set k (.list (li r))=lr (rs.set k r):=by simp[Lx]
abbrev bp:Stmt:=top 28
theorem aF:az ["_law_draws_here", "_law_number", "_law_many", "_law_days", "_law_again", "_law_day", "_law_one", "_law_clock", "_law_spans", "_law_wound_on", "_law_gaps", "_law_hands"] ["_law_draws_here"] (af bp):=⟨rfl,rfl,rfl,by decide +kernel,rfl,by decide +kernel,by decide +kernel⟩
def yP:DSp:=λss R=>∃l:List Int,ss=[.io (li l)]/\∀(s o l':List Int) (B:List (List Int)),KP s o [] B->(∀x∈s,1<=x/\x<=3)->1<=s.length->s.length<=3->B.length<=3->(∀r∈B,r.length<=6)->1<=o.length->o.length<=3->(∀x∈o,0<=x) ->
 ∀S,R (.tr S (.tuple [.list (li s),.list (li o),.tuple [.list [],fzD (lr B)]])) [.io (li l')]
theorem nB(F:Fun K "_law_made" "_law_made" bp f fd):bx K fd ["_law_draws_here"] []:=F.binds (ps:=["_law_draws_here"]) λ_ _ _ _ _ _ us a=>us1 (Q:=λus=>k3 _ ⟨us,[]⟩=pure (fy _ us)) a λ_=>rfl
theorem lX(F:Fun K "_law_made" "_law_made" bp f fd)(B:Bn mg)(t:Cal P w K mg base "_law_pop" 1 (spD K Ap)):cq P w K mg base CX0 2 f fd ["_law_draws_here"] (spD K yP):=by
 refine okD (k:=1) F aF (λss R h=>?_) (by decide) (λcdv A outer s H E u=>⟨_,(ah (aM (i:=1) aF.nd rfl da (iI 0 t (u.mono (by decide)) rfl (aa (qv 0) ac)))
   (ah (aM (i:=2) aF.nd rfl da (bD bI mI aj (bD bE mIC (qv 1) aj)))
   (ah (aM (i:=3) aF.nd rfl (eb rfl) (bD bI mI aj (bD bE mIC (bD fA mIC (qv 1) aj) aj)))
   (ah (aM (i:=4) aF.nd rfl (eb rfl) (cw ac))
   (ah (c8 PassesOwn.never rfl (bF rfl B.range (aa (qv 3) ac)) (au (i:=5) aF.nd rfl da) (ah (aM (i:=6) aF.nd rfl (eb rfl) (iI 0 t (u.mono (by decide)) rfl (aa (qv 0) ac)))
   (ak (dQ (om 4 (K:=K) rfl rfl (dZ (N':=["_law_clock", "_law_days", "_law_one"]) (ix:=[none,some 3,some 6]) rfl (cU (N:=["_law_draws_here", "_law_number", "_law_many", "_law_days", "_law_again", "_law_day", "_law_one", "_law_clock", "_law_spans", "_law_wound_on", "_law_gaps", "_law_hands"]) (sc0:=af bp) rfl rfl (by decide +kernel)) (bF rfl B.range (aa (qv 2) ac)) (λ_ _ _ _=>(au (i:=0) (show eT (["_law_clock", "_law_days", "_law_one"]:List bt) by decide +kernel) rfl da)) (λ_ _ _ _=>(fv (PW.pt (eX (aC km xQ (bD bE mIC (bD fA mIC (qv 2) (bD bI mI (qv 0) aj)) aj) aj (aH _)) (dP (aC km xQ (bD bE mIC (qv 2) (qv 1)) (bD bE mIC (qv 0) (qv 1)) (aH _))))))) (λ_ _ _ _=>(qf 0))))))))
   (ah (c8 PassesOwn.never rfl (bF rfl B.range (aa (qv 2) ac)) (au (i:=7) aF.nd rfl (eb rfl)) (ak (dR (Ay 4 (aC (Cs (K:=K) rfl u.units) mEq (dZ (N':=["_law_row", "_law_clock"]) (ix:=[none,some 7]) rfl (cU (N:=["_law_draws_here", "_law_number", "_law_many", "_law_days", "_law_again", "_law_day", "_law_one", "_law_clock", "_law_spans", "_law_wound_on", "_law_gaps", "_law_hands"]) (sc0:=af bp) rfl rfl (by decide +kernel)) (bj (K:=K) rfl (qf 4)) (λ_ _ _ _=>(au (i:=0) (show eT (["_law_row", "_law_clock"]:List bt) by decide +kernel) rfl da)) (λ_ _ _ _=>(fv (aC (kIn (K:=K) rfl) mIn (qv 1) (qv 0) (by with_unfolding_all rfl)))) (λ_ _ _ _=>(qf 0))) (cw ac) (aH _))) (ak (og 4 rfl (bD bE mIC (bD fA mIC (qv 1) aj) (qv 3)) (y8 (K:=K) rfl rfl B.sorted (aa (lP (dH (K:=K) rfl) zq (bd (ai (K:=K) rfl) mIx (qv 4) (bD bE mIC (bD fA mIC (qv 1) aj) (qv 3)) (λ_ _=>rfl)) (cw (aa (qf 7) ac))) ac)))) aU)))
   (lN 4 (ah (aM (i:=8) aF.nd rfl da (cw ac))
   (ah (c8 PassesOwn.never rfl (bF rfl B.range (aa (qv 2) ac)) (au (i:=7) aF.nd rfl (eb rfl)) (ah (aM (i:=9) aF.nd rfl (eb rfl) (dZ (N':=["_law_day", "_law_days", "_law_again", "_law_clock"]) (ix:=[none,some 3,some 4,some 7]) rfl (cU (N:=["_law_draws_here", "_law_number", "_law_many", "_law_days", "_law_again", "_law_day", "_law_one", "_law_clock", "_law_spans", "_law_wound_on", "_law_gaps", "_law_hands"]) (sc0:=af bp) rfl rfl (by decide +kernel)) (bF rfl B.range (aa (bD iP mIC aj (qv 3)) ac)) (λ_ _ _ _=>(au (i:=0) (show eT (["_law_day", "_law_days", "_law_again", "_law_clock"]:List bt) by decide +kernel) rfl da)) (λ_ _ _ _=>(fv (aC (kIn (K:=K) rfl) mIn (qv 3) (bd (ai (K:=K) rfl) mIx (qv 2) (bD bE mIC (qv 0) (qv 1)) (λ_ _=>rfl)) (by with_unfolding_all rfl)))) (λ_ _ _ _=>(qf 0))))
   (lN 9 (ah (cO (i:=10)  aF.nd rfl rfl (N':=["_law_k", "_law_wound_on"]) (ix:=[none,some 9]) rfl (cU (N:=["_law_draws_here", "_law_number", "_law_many", "_law_days", "_law_again", "_law_day", "_law_one", "_law_clock", "_law_spans", "_law_wound_on", "_law_gaps", "_law_hands"]) (sc0:=af bp) rfl rfl (by decide +kernel)) (bF rfl B.range (aa (bD d4 mI (dG (fq (K:=K) rfl) fi rfl B.len dt (aa (qv 9) ac)) aj) ac)) (λ_ _ _ _=>(au (i:=0) (show eT (["_law_k", "_law_wound_on"]:List bt) by decide +kernel) rfl da)) (λ_ _ _ _=>bR) (λ_ _ _ _=>(bD d4 mI (bd (ai (K:=K) rfl) mIx (qv 1) (bD bI mI (qv 0) aj) (λ_ _=>rfl)) (bd (ai (K:=K) rfl) mIx (qv 1) (qv 0) (λ_ _=>rfl)))))
   (lN 10 (ak (dQ (om 8 (K:=K) rfl rfl (dG (m8 (K:=K) rfl rfl) D1 rfl B.max nk (aa (lP (dH (K:=K) rfl) zq (qv 10) (cw (aa (bD bI mI (bd (ai (K:=K) rfl) mIx (qv 9) aj (λ_ _=>rfl)) aj) ac))) ac))))))))))
   (ah (cO (i:=11)  aF.nd rfl rfl (N':=["_law_row"]) (ix:=[none]) rfl (cU (N:=["_law_draws_here", "_law_number", "_law_many", "_law_days", "_law_again", "_law_day", "_law_one", "_law_clock", "_law_spans", "_law_wound_on", "_law_gaps", "_law_hands"]) (sc0:=af bp) rfl rfl (by decide +kernel)) (bj (K:=K) rfl (qf 4)) (λ_ _ _ _=>(au (i:=0) (show eT (["_law_row"]:List bt) by decide +kernel) rfl da)) (λ_ _ _ _=>bR) (λ_ _ _ _=>(dG (fq (K:=K) rfl) fi rfl B.len dt (aa (qv 0) ac))))
   (qu (dR (aC km xQ (bD bE mIC (bD fA mIC (qv 1) aj) aj) aj (aH _)) (ak (aM (i:=11) aF.nd rfl da (cw (aa (dG (m8 (K:=K) rfl rfl) D1 rfl B.max nk (aa (qv 11) ac)) ac)))) aU)
   (ak (aX (lO (aa (h8 8) (aa (h8 11) (aa (lO (aa (cw ac) (aa (h8 4) ac))) ac))))))))))))))))),λss R h=>?_⟩)
 ·obtain⟨l,rfl,_⟩:=h;rfl
 obtain⟨l,rfl,q⟩:=h;walk_at "dx";refine⟨l,rfl,?_⟩;walk_at "dx";generalize ux l=num at *;generalize l.dropLast=l1 at *;obtain⟨n,hn⟩:∃n:Nat,1+num % 3=n:=⟨(1+num % 3).toNat,by omega⟩
 obtain⟨d,hd⟩:∃d:Nat,1+num / 3 % 3=d:=⟨(1+num / 3 % 3).toNat,by omega⟩
 refine⟨by decide,?_⟩;walk_at "dx";refine⟨⟨by decide,by decide⟩,by decide,?_⟩;walk_at "dx";rw[hn,hd];have n3:1<=n/\n<=3:=by omega
 have d3:1<=d/\d<=3:=by omega
 refine⟨Iz _,?_⟩;walk_at "dx";refine⟨by omega,by omega,aT (λi env=>∃(l:List Int) (Rs:List (List Int)) (a b:Sl),env=[.io (li l),.fr (.int num),.fr (.int n),.fr (.int d),.ow (lr Rs),a,b,.un,.un,.un,.un,.un]/\Rs.length=i/\∀r∈Rs,dY n r=true/\r.length<=3) ⟨l1,[],.un,.un,rfl,rfl,by simp⟩ ?_ ?_⟩
 ·rintro i env hi ⟨l,Rs,a,b,rfl,v,I⟩;rw[ao,IP] at hi;rw[aL];walk_at "dx";refine⟨l,rfl,?_⟩;walk_at "dx";generalize ux l=one at *;refine⟨by omega,by omega,?_⟩;obtain⟨p,O⟩:∃p:Nat->Bool,∀j,p j=(decide (one / ((j:Int)+2) % 2=0) || decide (one % (d:Int)=(j:Int) % (d:Int))):=⟨_,λ_=>rfl⟩
  refine eD p (λj=>.int j) (by rw[ao];omega) (λj hj Q Q' h1 h2=>?_) ?_
  ·rw[aL,Jx];rw[ao] at hj;rw[O] at h1 h2;walk_at "dx";exact⟨⟨by omega,by omega⟩,by decide,cu (λh=>h1 (by simp[h])) (λh=>⟨by omega,by omega,cu (λh'=>h1 (by simp[h'])) (λh'=>h2 (by simp[h,h']))⟩)⟩
  ·rw[ao,IP];have u:=yn n p;have U:(((di n).filter p).map (hY:Nat->Int)).length<=3:=by
    rw[HS];have:=IN p (di n);rw[IC] at this;omega
   have er:(((di n).filter p).map λj:Nat=>eC (j:Int))=li (((di n).filter p).map (hY:Nat->Int)):=by show _=eP _ (eP _ _);rw[IK];rfl
   rw[er];generalize ((di n).filter p).map (hY:Nat->Int)=r at *;walk_at "dx";refine⟨by rw[HS];exact Ik (by omega) ag,l.dropLast,rfl,Rs++[r],by simp,by simp[v],λx hx=>?_⟩;rcases HX.mp hx with h|h
   ·exact I x h
   ·rw[HW.mp h];exact⟨u,U⟩
 rintro env ⟨l,Rs,a,b,rfl,v,I⟩;rw[ao,IP] at v;walk_at "dx";refine⟨by omega,by omega,aT (λi env=>∃(Rs:List (List Int)) (c:Sl),env=[.io (li l),.fr (.int num),.fr (.int n),.fr (.int d),.ow (lr Rs),a,b,c,.un,.un,.un,.un]/\Rs.length=d/\(∀r∈Rs,dY n r=true/\r.length<=3+i)/\∀c:Nat,c<i->∃r∈Rs,(c:Int)∈r) ⟨Rs,.un,rfl,v,I,λc hc=>by omega⟩ ?_ ?_⟩
 ·rintro c env hc ⟨Rs,x,rfl,v,I,D⟩;rw[ao,IP] at hc;rw[aL,Jx];walk_at "dx";refine eD (λi=>decide ((c:Int)∈Rs.getD i [])) (λi=>.list (li (Rs.getD i []))) (by rw[HS];omega) (λi hi Q Q' h1 h2=>?_) ?_
  ·rw[fj];walk_at "dx";exact cu (λh=>h1 (decide_eq_true h)) (λh=>h2 (decide_eq_false h))
  rw[HS,dE Rs [] (λr=>decide ((c:Int)∈r)) (λr=>fI (li r))];obtain⟨k,hk,kd⟩:∃k:Nat,num / 9 % (d:Int)=k/\k<d:=⟨(num / 9 % (d:Int)).toNat,by have:=Ju (num / 9) (show(d:Int)≠0 by omega);omega,by have:=Ju (num / 9) (show(d:Int)≠0 by omega);have:=Jp (num / 9) (show 0<(d:Int) by omega);omega⟩
  walk_at "dx";rw[hk];refine⟨Iz _,(Sh.lr 0 _).shp (by decide),(Sh.ints 0 []).shp (by decide),?_⟩;rw[jV];have hw:(Rs.getD k []).length<=3+c:=(I _ (cp (by omega))).2;refine cu (λh=>?_) (λh=>?_)
  ·have h:Rs.filter (λr=>decide ((c:Int)∈r))=[]:=of_decide_eq_true h;have V:∀r∈Rs,(c:Int) ∉ r:=λr u=>of_decide_eq_false (by have:=JU.mp h r u;simpa using this);refine⟨⟨by decide,by decide⟩,by omega,_,D3 (by omega),Ie (by decide) ag,_,rfl,by rw[HS];exact Ie (by omega) ag,_,kC _ _,by rw[Ix,IX];omega,?_⟩;obtain⟨ms,M⟩:∃ms,ms=de (Rs.getD k []++[(c:Int)]):=⟨_,rfl⟩
   obtain⟨z1,z2⟩:=Cb (ms:=ms) (k:=k) (by omega) (by rw[M];exact gg _) (by rw[M];exact tO _) hc I V D;rw[<-M];exact⟨⟨by decide,by decide⟩,by omega,k,o4 (by rw[HS];omega),Rs.set k ms,D2 _ _ _,by rw[II];exact v,z1,z2⟩
  ·have h:Rs.filter (λr=>decide ((c:Int)∈r))≠[]:=λz=>h (decide_eq_true z);obtain⟨r,u⟩:=List.exists_mem_of_ne_nil _ h;obtain⟨X,Y⟩:=Iw.mp u;refine⟨Rs,rfl,v,λr u=>⟨(I r u).1,by have:=(I r u).2;omega⟩,λe he=>?_⟩;by_cases z:e=c
   ·exact⟨r,X,by rw[z];exact of_decide_eq_true Y⟩
   ·exact D e (by omega)
 rintro env ⟨Rs,c,rfl,v,I,D⟩;rw[ao,IP] at I D;walk_at "dx";refine⟨Iz _,?_⟩;walk_at "dx";refine⟨by omega,by omega,aT (λi env=>∃(sp:List Int) (c w g:Sl),env=[.io (li l),.fr (.int num),.fr (.int n),.fr (.int d),.fr (.list (lr Rs)),a,b,c,.ow (li sp),w,g,.un]/\sp.length=i/\∀c:Nat,c<i->1<=sp.getD c 0/\sp.getD c 0<=3/\∀j:Nat,j<3*d->pB Rs c j=true->(j:Int) - a9 (pB Rs c) j<=sp.getD c 0) ⟨[],c,.un,.un,rfl,rfl,λc hc=>by omega⟩ ?_ ?_⟩
 ·rintro c env hc ⟨sp,x,y,z,rfl,J,L⟩;rw[ao,IP] at hc;rw[aL,Jx];walk_at "dx";refine⟨mY (by omega) (by omega),by omega,by omega,?_⟩;refine eD (pB Rs c) (λj=>.int j) (by rw[ao];omega) (λj hj Q Q' h1 h2=>?_) ?_
  ·rw[aL,Jx];unfold pB at h1 h2;rw[v] at h1 h2;walk_at "dx";exact⟨by omega,_,D3 (k:=j % d) (by rw[v];exact JV _ (by omega)),_,rfl,_,bo _,cu (λh=>h1 (decide_eq_true h)) (λh=>h2 (decide_eq_false h))⟩
  rw[ao,show((3:Int)*(d:Int)).toNat=3*d by omega];have eW:(((di (3*d)).filter (pB Rs c)).map λj:Nat=>eC (j:Int))=li (((di (3*d)).filter (pB Rs c)).map (hY:Nat->Int)):=by show _=eP _ (eP _ _);rw[IK];rfl
  rw[eW];have W0:=tw (Rs:=Rs) (c:=c) (D c hc);rw[v] at W0;have Z:=u7 (Rs:=Rs) (c:=c) (by omega) (by omega);rw[v] at Z;have W9:=wV (p:=pB Rs c) (T:=3*d);have Wg:=λm=>xO (P:=pB Rs c) (T:=3*d) (m:=m);have Wl:(((di (3*d)).filter (pB Rs c)).map (hY:Nat->Int)).length<=3*d:=by rw[HS];have:=IN (pB Rs c) (di (3*d));rwa [IC] at this
  generalize ((di (3*d)).filter (pB Rs c)).map (hY:Nat->Int)=W at *;have Wm:∀k,k<W.length->0<=W.getD k 0/\W.getD k 0<9:=λk hk=>by
   have:=W9 _ (aK hk);omega
  walk_at "dx";rw[HS];refine⟨by omega,by omega,?_⟩;refine dh (λk=>.int (W.getD (k+1) 0 - W.getD k 0)) (by rw[ao];omega) (λk hk Q hQ=>?_) ?_
  ·rw[aL,Jx];rw[ao] at hk;walk_at "dx";exact⟨_,bV (k:=k+1) (by omega),_,bV (by omega),_,rfl,_,rfl,hQ⟩
  rw[ao,show((W.length:Int) - 1).toNat=W.length - 1 by omega,qJ];walk_at "dx";have Gm:∀x∈(di (W.length - 1)).map λk=>W.getD (k+1) 0 - W.getD k 0,x<=3:=λx hx=>by
   obtain⟨k,hk,rfl⟩:=Ig.mp hx;have hk:=Io.mp hk;exact Z.2 k (by omega)
  have Gg:∀k,k+1<W.length->W.getD (k+1) 0 - W.getD k 0∈(di (W.length - 1)).map λk=>W.getD (k+1) 0 - W.getD k 0:=λk hk=>Ig.mpr ⟨k,Io.mpr (by omega),rfl⟩;have Gl:((di (W.length - 1)).map λk=>W.getD (k+1) 0 - W.getD k 0).length<=100:=by rw[HS,IC];omega
  generalize (di (W.length - 1)).map (λk=>W.getD (k+1) 0 - W.getD k 0)=G at *;refine⟨_,bV (k:=0) (by omega),_,rfl,Ie (by decide) ag,by rw[HS];exact Ie (by omega) ag,G++[W.getD 0 0+1],by rw[kC];exact bo _,by simp,λm hm C=>⟨by rw[HS];exact Ik (by omega) ag,sp++[m],kC _ _,by rw[Ix,J];rfl,λe he=>?_⟩⟩;by_cases z:e=c
  ·have eg:(sp++[m]).getD e 0=m:=by
    rw[z,<-J,HU];simp
   have m1:=C _ (HQ _ (HW.mpr rfl));have w0:=Wm 0 (by omega);rw[eg,z];refine⟨by omega,?_,Wg m m1 λk hk=>C _ (HV _ (Gg k hk))⟩;rcases HX.mp hm with h|h
   ·exact Gm m h
   ·rw[HW.mp h];exact Z.1
  ·have eg:(sp++[m]).getD e 0=sp.getD e 0:=by
    rw[HU,HU,LH,ME (by omega)]
   rw[eg];exact L e (by omega)
 rintro env ⟨sp,x,y,z,rfl,J,L⟩;rw[ao,IP] at J L;walk_at "dx";refine dh (λk=>.int ((Rs.getD k []).length:Int)) (by rw[HS];omega) (λk hk Q hQ=>?_) ?_
 ·rw[fj];walk_at "dx";rw[HS];exact hQ
 rw[HS,qJ,jG Rs [] (λr=>(r.length:Int))];walk_at "dx";refine⟨λenv=>∃o:List Int,env=[.io (li l),.fr (.int num),.fr (.int n),.fr (.int d),.fr (.list (lr Rs)),a,b,x,.ow (li sp),y,z,.ow (li o)]/\(o=Rs.map (λr=>(r.length:Int))\/∃m,o=[m]/\∀r∈Rs,(r.length:Int)<=m),?_,?_⟩
 ·walk_at "dx";refine⟨⟨by decide,by decide⟩,by decide,cu (λ_=>⟨λz=>?_,λm _ C=>⟨Ie (by decide) ag,[m],rfl,.inr ⟨m,rfl,λr u=>C _ (Ig.mpr ⟨r,u,rfl⟩)⟩⟩⟩) (λ_=>⟨_,rfl,.inl rfl⟩)⟩;rw[List.map_eq_nil_iff.mp z] at v;simp at v;omega
 rintro env ⟨o,rfl,ho⟩;walk_at "dx";have a0:∀x∈sp,1<=x/\x<=3:=λx hx=>by
  obtain⟨c,hc,rfl⟩:=Il hx;have:=L c (by omega);rw[HU,HR hc] at this;exact⟨this.1,this.2.1⟩
 have a4:∀x∈o,0<=x:=λx hx=>by
  rcases ho with rfl|⟨m,rfl,hm⟩
  ·obtain⟨r,_,rfl⟩:=Ig.mp hx;omega
  ·have:=hm _ (cp (l:=Rs) (k:=0) (by omega));rw[HW.mp hx];omega
 obtain⟨kp,p1,p2⟩:=xP (s:=sp) (by omega) (λr u=>by rw[J];exact(I r u).1) ho (λc hc=>D c (by omega)) (λc hc j hj O=>(L c (by omega)).2.2 j (by omega) O);exact⟨Iz _,Ie (by decide) ag,λ_=>⟨Ie (by decide) ag,λS=>q sp o l Rs kp a0 (by omega) (by omega) (by omega) (λr u=>by have:=(I r u).2;omega) p1 (by omega) a4 S⟩⟩
def chs(h:Int)(l:List Int):Nat->List (List Int)
 | 0=>[[]]
 | k+1=>if l.getD k 0=1 then ((chs h l k).filter λr=>decide ((r.length:Int)<h)).map (·++[(k:Int)]) else chs h l k++((chs h l k).filter λr=>decide ((r.length:Int)<h)).map (·++[(k:Int)])
theorem i5(l:List Int)(k:Nat):jW l (k+1)=jW l k++(if l.getD k 0=1 then [(k:Int)] else []):=by
 unfold jW;rw[Jo,Je,IE]
 congr 1
 by_cases h:l.getD k 0=1
 ·rw[ME h,Jc (by simpa using h)];rfl
 ·rw[MF h,Js (by simpa using h)];rfl
theorem BG(h:x∈jW l k):0<=x/\x<k:=by unfold jW at h;obtain⟨i,hi,rfl⟩:=Ig.mp h;have:=Io.mp (Iw.mp hi).1;omega
theorem i7(h:Int)(e:0<=h)(l:List Int):∀k,chs h l k=cy k h l
 | 0 => by
  show[[]]=iy _ [[]];rw[Jc]
  ·rfl
  ·show gC h (jW l 0) []=true;unfold gC jW;simp[e]
 | k + 1=>by
  have f:=i7 h e l k;have e1:((j8 k).map (·++[(k:Int)])).filter (gC h (jW l (k+1)))=((cy k h l).filter λr=>decide ((r.length:Int)<h)).map (·++[(k:Int)]):=by
   unfold cy;rw[Mp,List.filter_filter]
   congr 1
   refine Ma λr b=>?_;have a:=bP k r b;show gC h (jW l (k+1)) (r++[(k:Int)])=_;unfold gC;rw[i5];have e2:(iy (λc=>decide (c ∉ r++[(k:Int)])) (jW l k++if l.getD k 0=1 then [(k:Int)] else []))=iy (λc=>decide (c ∉ r)) (jW l k):=by
    rw[Je];have e3:iy (λc=>decide (c ∉ r++[(k:Int)])) (if l.getD k 0=1 then [(k:Int)] else [])=[]:=by split <;> simp
    rw[e3,IM];refine Ma λc hc=>?_;have:=BG hc;have d:c≠(k:Int):=by omega
    simp[d]
   rw[e2];have g:decide (((r++[(k:Int)]).length:Int)<=h)=(decide ((r.length:Int)<h)&&decide ((r.length:Int)<=h)):=by
    rw[Ix,IX];by_cases c:(r.length:Int)<h
    ·have c2:(r.length:Int)<=h:=by omega
     have c3:((r.length+1:Nat):Int)<=h:=by omega
     rw[decide_eq_true c,decide_eq_true c2,decide_eq_true c3];rfl
    ·have c3:¬((r.length+1:Nat):Int)<=h:=by omega
     rw[decide_eq_false c,decide_eq_false c3];rfl
   rw[g,Bool.and_assoc]
  have e2:(j8 k).filter (gC h (jW l (k+1)))=if l.getD k 0=1 then [] else cy k h l:=by
   split
   ·rename_i h1;refine JU.mpr λr b=>?_;have a:=bP k r b;unfold gC;rw[i5,ME h1,Je];have hn:(k:Int) ∉ r:=λz=>by have:=a.2.2 _ z;omega
    simp[hn]
   ·rename_i h1;unfold cy;rw[i5,MF h1,IM]
  show(if l.getD k 0=1 then _ else _)=iy _ (j8 k++(j8 k).map (·++[(k:Int)]));rw[Je,e1,e2,f];split
  ·rw[J2]
  ·rfl
def x6(r:List Int):Int×List Int:=((r.length:Int),r)
def chX(n:Nat)(h:Int)(l:List Int):List (List Int):=pick (aE ((cy n h l).map x6)) (cy n h l) []
theorem fY(n:Nat)(h:Int)(l:List Int):(chX n h l).Perm (cy n h l):=fQ (by have:=bh ((cy n h l).map x6);rwa [HS] at this)
theorem yD(a:chX n h l≠[]):∃b r,chX n h l=b++[r]/\r∈cy n h l/\∀f∈cy n h l,f.length<=r.length:=by
 have q:=fY n h l;have c:1<=((cy n h l).map x6).length:=by rw[HS,<-q.length_eq];exact wi.mpr a
 obtain⟨j,h1,h2,o⟩:=sf c;rw[HS] at h2 o;have e:(chX n h l).getLast? = some ((cy n h l).getD j []):=by unfold chX pick;rw[L6,h1];rfl
 obtain⟨b,r,d⟩:∃b r,chX n h l=b++[r]:=⟨(chX n h l).dropLast,(chX n h l).getLast a,(List.dropLast_concat_getLast a).symm⟩
 have p:r=(cy n h l).getD j []:=by rw[d,List.getLast?_append] at e;simpa using e
 refine⟨b,r,d,by rw[p];exact cp h2,λf m=>?_⟩;obtain⟨i,hi,e2⟩:=Il m;have:=o i hi;have g:∀k,k<(cy n h l).length->((cy n h l).map x6).getD k (0,[])=x6 ((cy n h l).getD k []):=λk hk=>by
  simp[HU,hk]
 rw[g i hi,g j h2] at this;unfold x6 at this;simp only at this;rw[<-p,show(cy n h l).getD i []=f by simp[HU,hi,e2]] at this;omega
theorem x4(rr:List (List Int)):(lr rr).map (λd=>dg (oX d))=rr.map x6:=by show(eP _ (eP _ rr))=_;rw[IK];refine JE λr _=>?_;show dg (oX (.list (li r)))=x6 r;unfold oX dg x6;simp only[bo,rg,HS]
theorem oU(h:∀i∈p,i<rr.length):pick p (lr rr) .none=lr (pick p rr []):=by unfold pick;show _=eP _ (eP _ p);rw[IK];refine JE λi hi=>?_;have:=h i hi;simp[HU,this]
abbrev dX:Stmt:=top 6
theorem bW:az ["town", "standing", "most", "rows", "clock", "left", "with_it"] ["town", "standing"] (af dX):=⟨rfl,rfl,rfl,by decide +kernel,rfl,by decide +kernel,by decide +kernel⟩
def iF:DSp:=λss R=>∃(s o l:List Int) (d:Nat),ss=[.fr (.tuple [.list (li s),.list (li o)]),.fr (.tuple [.int d,.tuple (li l)])]/\s.length<=6/\0<=o.getD d 0/\(s.length<=4\/o.getD d 0<=3)/\StB s o d l /\
 ∀S,R (.tr S (.list (lr (chX s.length (o.getD d 0) l)))) [.un,.un]
theorem sR(F:Fun K "choices" "choices" dX f fd):bx K fd ["town", "standing"] []:=F.binds (ps:=["town", "standing"]) λ_ _ _ _ _ _ us a=>us2 (Q:=λus=>k3 _ ⟨us,[]⟩=pure (fy _ us)) a λ_ _=>rfl
theorem sB(F:Fun K "choices" "choices" dX f fd)(B:Bn mg)(L:sW K base "choices" fd)(g:Cal P w K mg base "hands_on" 1 (spD K lL)):cq P w K mg base CX0 6 f fd ["town", "standing"] (spD K iF):=by
 refine FU (k:=5) F bW (λss R h=>?_) (by decide) (λcdv v A outer s H E m=>⟨_,(ah (aM (i:=2) bW.nd rfl (eb rfl) (aR g (m.mono (by decide)) rfl (aa (qf 0) (aa (qf 1) ac))))
   (ah (aM (i:=3) bW.nd rfl da (lQ (aa (cw ac) ac)))
   (ah (c8 PassesOwn.never rfl (nY true (K:=K) rfl rfl B.enumerate (aa (bd (ai (K:=K) rfl) mIx (qv 1) aj (λ_ _=>rfl)) ac)) (jI (K:=K) (n:=2) rfl rfl (bz (au (i:=4) bW.nd rfl (eb rfl)) (bz (au (i:=5) bW.nd rfl da) gm))) (ah (so 3 (i:=6) bW.nd rfl rfl (N':=["row", "most", "clock"]) (ix:=[none,some 2,some 4]) rfl (cU (N:=["town", "standing", "most", "rows", "clock", "left", "with_it"]) (sc0:=af dX) rfl rfl (by decide +kernel)) (bj (K:=K) rfl (qf 3)) (λ_ _ _ _=>(au (i:=0) (show eT (["row", "most", "clock"]:List bt) by decide +kernel) rfl da)) (λ_ _ _ _=>(fv (aC uM mB (dG (fq (K:=K) rfl) fi rfl B.len dt (aa (qv 0) ac)) (qv 1) (aH _)))) (λ_ _ _ _=>(lP (dH (K:=K) rfl) zq (qv 0) (cw (aa (qf 2) ac)))))
   (ak (aM (i:=3) bW.nd rfl da (uj (aC km xQ (qv 5) aj (aH _)) (h8 6) (Dl (K:=K) rfl (h8 3) (h8 6)))))))
   (ak (aX (Da (p := "row") (K:=K) rfl (let ⟨c,T,a,b,d⟩:=L;⟨c,T,v.trans a,b,d⟩) (m.mono (by decide)) rfl B.sorted (aa (h8 3) ac) ⟨rfl,rfl,rfl,by decide,rfl,λx hx=>by rw[HW.mp hx];exact .inl rfl,by decide⟩ (λ_ _ _ _ _=>rfl) rfl rfl (λ_ _ _ _ _=>(hV (aa (dG (fq (K:=K) rfl) fi rfl B.len dt (aa (qv 0) ac)) (aa (qf 0) ac)))))))))),λss R h=>?_⟩)
 ·obtain⟨s,o,l,d,rfl,_⟩:=h;rfl
 obtain⟨s,o,l,d,rfl,t2,u,z,C,q⟩:=h;obtain⟨s1,s2⟩:=C;walk_at "dx";refine⟨s,o,l,d,rfl,s1,?_⟩;walk_at "dx";refine⟨Iz _,Ie (by decide) ag,λS=>?_⟩;walk_at "dx";refine aT (λi env=>∃(S:List al) (a b c:Sl),env=[.fr (.tuple [.list (li s),.list (li o)]),.fr (.tuple [.int d,.tuple (li l)]),.fr (.int (o.getD d 0)),.tr S (.list (lr (chs (o.getD d 0) l i))),a,b,c]) ⟨_,_,_,_,rfl⟩ ?_ ?_
 ·rintro i env hi ⟨S,a,b,c,rfl⟩;rw[fX,gO];rw[bB,HS] at hi;have hz:(chs (o.getD d 0) l i).length<=64:=by
   rw[i7 _ u];refine Ie (IN _ _) ?_;rw[j7];exact JQ (by decide) (show i<=6 by omega)
  have t:∀r∈chs (o.getD d 0) l i,r.length<=6:=λr m=>by
   rw[i7 _ u] at m;have:=(bP i r (Iw.mp m).1).1;omega
  have D:chs (o.getD d 0) l (i+1)=if l.getD i 0=1 then ((chs (o.getD d 0) l i).filter λr=>decide ((r.length:Int)<o.getD d 0)).map (·++[(i:Int)]) else chs (o.getD d 0) l i++((chs (o.getD d 0) l i).filter λr=>decide ((r.length:Int)<o.getD d 0)).map (·++[(i:Int)]):=rfl
  rw[D];generalize chs (o.getD d 0) l i=cs at *;generalize o.getD d 0=hd at *;walk_at "dx";refine vW (λj=>decide (((cs.getD j []).length:Int)<hd)) (λj=>.list (li (cs.getD j []++[(i:Int)]))) (by rw[HS];omega) (λj hj Q J h1 h2=>?_) λG=>?_
  ·rw[HS] at hj;rw[fj];have M:=t _ (cp (l:=cs) hj);walk_at "dx";rw[HS];refine cu (λh=>⟨Ie (by decide) ag,Ie (by omega) ag,?_⟩) (λh=>h2 (by simpa using h));rw[kC,ME (d5 _)];exact⟨_,rfl,h1 (by simpa using h)⟩
  rw[HS,dE cs [] (λr=>decide ((r.length:Int)<hd)) (λr=>fI (li (r++[(i:Int)])))];refine⟨G,(cs.filter λr=>decide ((r.length:Int)<hd)).map (·++[(i:Int)]),by unfold jF;rw[IK];rfl,λO=>?_⟩;walk_at "dx";refine cu (λh1=>?_) (λh1=>?_)
  ·rw[ME h1]
  ·rw[MF h1];have U:=IN (λr:List Int=>decide ((r.length:Int)<hd)) cs;refine⟨?_,λ_=>(IE ..).symm⟩;rw[HS,HS,HS];exact Ie (by omega) ag
 ·rintro env ⟨S,a,b,c,rfl⟩;rw[bB,HS,s2];have hz:(chs (o.getD d 0) l s.length).length<64:=by
   rw[i7 _ u];exact kQ t2 z
  have m:∀x∈lr (chs (o.getD d 0) l s.length),Ef x:=λx hx=>by
   obtain⟨r,_,rfl⟩:=Ig.mp hx;exact⟨r,rfl⟩
  have e:pick (aE (((lr (chs (o.getD d 0) l s.length)).map oX).map dg)) (lr (chs (o.getD d 0) l s.length)) .none=lr (chX s.length (o.getD d 0) l):=by rw[IK,show(dg ∘ oX)=λd=>dg (oX d) from rfl,x4,i7 _ u];exact oU λi hi=>by have:=b9 i hi;rwa [HS] at this
  walk_at "dx";refine⟨by rw[HS];exact hz,oX,.inl λx hx=>?_,λx hx=>?_,λS'=>?_⟩
  ·obtain⟨y,I,rfl⟩:=Ig.mp hx;obtain⟨r,rfl⟩:=m y I;exact⟨_,r,rfl⟩
  ·obtain⟨r,rfl⟩:=m x hx;unfold qO;walk_at "dd";exact⟨Ie (by decide) ag,rfl⟩
  ·rw[e];exact q S'
section
variable {κ β:Type}[DecidableEq κ]
theorem yh(a b:List (κ×β))(k:κ):bK (a++b) k=match bK a k with|some v=>some v|none=>bK b k:=by
 induction a with
 | nil=>rfl
 | cons p a c =>
  rw[I7,bJ,bJ,c];by_cases h:p.1=k <;> simp[h]
theorem ye(kvs:List (κ×β))(k:κ)(v:β)(x:κ):bK (kvs.map λp=>if p.1=k then (p.1,v) else p) x=if x=k then (bK kvs x).map λ_=>v else bK kvs x:=by
 induction kvs with
 | nil=>simp[bK]
 | cons p kvs a =>
  rw[ID,bJ,bJ,a];by_cases h1:p.1=k
  ·by_cases h2:x=k
   ·simp[h1,h2]
   ·have:¬k=x:=λz=>h2 z.symm;simp[h1,h2,this]
  ·by_cases h2:p.1=x
   ·subst h2;simp[h1]
   ·simp[h1,h2]
theorem fW(kvs:List (κ×β))(k:κ)(v:β)(x:κ):bK (hJ kvs k v) x=if x=k then some v else bK kvs x:=by
 unfold hJ;cases e:bK kvs k with
 | some w =>
  rw[ME (show(some w).isSome=true from rfl),ye];by_cases h:x=k
  ·subst h;simp[e]
  ·simp[h]
 | none =>
  rw[MF (by simp),yh,bJ,yf];by_cases h:x=k
  ·subst h;simp[e]
  ·have:¬k=x:=λz=>h z.symm;simp only[this,h,if_false];cases bK kvs x <;> rfl
end
theorem cP{α:Type} [DecidableEq α]:∀{l U:List α},l.Nodup->(∀x∈l,x∈U)->l.length<=U.length
 | [],_,_,_=>Iz _
 | x::l,U,hn,h=>by
  obtain⟨h1,h2⟩:=Ir.mp hn;have hx:=h x (by simp);have:=cP (l:=l) (U:=U.erase x) h2 λy a=>(List.mem_erase_of_ne (λ(z:y=x)=>h1 (by rw[<-z];exact a))).mpr (h y (by simp[a]));rw[List.length_erase_of_mem hx] at this;have b:0<U.length:=Ly hx;simp;omega
section
variable {σ ρ:Type}[DecidableEq σ](Full:σ->List ρ->Prop) (nxt:σ->ρ->σ) (start₀:σ)
structure f9(path:List σ)(ways:List (List ρ))(places:σ->Option (Option Nat))(lost:List σ):Prop where
 len:ways.length=path.length
 hd : path.head? = some start₀\/path=[]/\start₀∈lost
 way:∀(i:Nat) x w,path[i]? = some x->ways[i]? = some w->∃fr pre,Full x fr/\fr=pre++w/\∀r∈pre,nxt x r∈lost
 lnk:∀(i:Nat) x y w,path[i]? = some x->path[i+1]? = some y->ways[i]? = some w->∃r t,w=r::t/\nxt x r=y
 on : ∀x (i:Nat),places x=some (some i)↔path[i]? = some x
 off:∀x,places x=some none↔x∈lost
 down:∀(j:Nat) x,lost[j]? = some x->∃fr,Full x fr/\∀r∈fr,∃i:Nat,i<j/\lost[i]? = some (nxt x r)
 nd : (path++lost).Nodup
variable {Full nxt start₀}{path:List σ}{ways:List (List ρ)}{places:σ->Option (Option Nat)}{lost:List σ}
theorem f9.init(h:Full start₀ fr)(a:∀x,places x=if x=start₀ then some (some 0) else none):f9 Full nxt start₀ [start₀] [fr] places []:=by
 refine⟨rfl,.inl rfl,λi x w h1 h2=>?_,λi x y w h1 h2=>?_,λx i=>?_,λx=>?_,λj x h1=>by simp at h1,by simp⟩
 ·cases i with
  | zero=>simp at h1 h2;subst h1 h2;exact⟨fr,[],h,rfl,by simp⟩
  | succ i=>simp at h1
 ·simp at h2
 ·rw[a];by_cases e:x=start₀
  ·subst e;cases i <;> simp
  ·rw[MF e];cases i <;> simp[Ne.symm e]
 ·rw[a];split <;> simp
theorem f9.lose(h:f9 Full nxt start₀ (path++[x]) (ways++[[]]) places lost)(n:∀y,d y=if y=x then some none else places y) :
  f9 Full nxt start₀ path ways d (lost++[x]):=by
 have o:ways.length=path.length:=by have:=h.len;simpa using this
 have nd:=h.nd;have g:(path++(lost++[x])).Nodup:=by rw[Ja] at nd;exact(fo path (JA)).nodup_iff.mp nd
 have p:x ∉ path:=λhx=>by
  have:=HY.mp (HY.mp nd).1;exact this.2.2 x hx x (by simp) rfl
 refine⟨o,?_,λi y w h1 h2=>?_,λi y z w h1 h2 q=>?_,λy i=>?_,λy=>?_,λj y h1=>?_,g⟩
 ·rcases h.hd with e|⟨e,_⟩
  ·cases path with
   | nil =>
    simp at e;exact .inr ⟨rfl,by simp[e]⟩
   | cons a b=>exact .inl (by simpa using e)
  ·simp at e
 ·have hi:i<path.length:=(Ib.mp h1).1;obtain⟨fr,pre,a,b,c⟩:=h.way i y w (by rw[Iu hi];exact h1) (by rw[Iu (by omega)];exact h2);exact⟨fr,pre,a,b,λr f=>HV _ (c r f)⟩
 ·have hi:i+1<path.length:=(Ib.mp h2).1;exact h.lnk i y z w (by rw[Iu (by omega)];exact h1) (by rw[Iu hi];exact h2) (by rw[Iu (by omega)];exact q)
 ·rw[n];by_cases e:y=x
  ·subst e;rw[ME rfl];constructor
   ·intro z;cases z
   ·intro z;exact absurd (IG z) p
  ·rw[MF e,h.on];by_cases hi:i<path.length
   ·rw[Iu hi]
   ·rw[IW (by omega),vl (show path.length<=i by omega)];constructor
    ·intro z;cases hk:i - path.length with
     | zero=>rw[hk] at z;simp at z;exact absurd z.symm e
     | succ k=>rw[hk] at z;simp at z
    ·intro z;cases z
 ·rw[n];by_cases e:y=x
  ·subst e;simp
  ·rw[MF e,h.off];simp[e]
 ·by_cases hj:j<lost.length
  ·rw[Iu hj] at h1;obtain⟨fr,a,b⟩:=h.down j y h1;refine⟨fr,a,λr f=>?_⟩;obtain⟨i,i1,i2⟩:=b r f;exact⟨i,i1,by rw[Iu (by omega)];exact i2⟩
  ·have l:j<(lost++[x]).length:=(Ib.mp h1).1;have m:j=lost.length:=by simp at l;omega
   subst m;rw[IW (Ih _)] at h1;simp at h1;subst h1;obtain⟨fr,pre,a,b,c⟩:=h.way path.length x [] (by simp) (by rw[<-o];simp);rw[IM] at b;subst b;refine⟨fr,a,λr f=>?_⟩;obtain⟨i,hi,e⟩:=Il (c r f);exact⟨i,hi,by rw[Iu hi,HR hi,e]⟩
theorem f9.go{x:σ}{r:ρ}{w fr:List ρ}{b:σ->Option (Option Nat)}(h:f9 Full nxt start₀ (path++[x]) (ways++[r::w]) places lost)(hn:places (nxt x r)=none)(o:Full (nxt x r) fr)
  (f:∀y,b y=if y=nxt x r then some (some (path.length+1)) else places y):f9 Full nxt start₀ (path++[x]++[nxt x r]) (ways++[r::w]++[fr]) b lost:=by
 have g:ways.length=path.length:=by have:=h.len;simpa using this
 have j:nxt x r ∉ path++[x]:=λz=>by
  obtain⟨i,hi,e⟩:=Il z;have:=(h.on (nxt x r) i).mpr (by rw[HR hi,e]);rw[hn] at this;cases this
 have m:nxt x r ∉ lost:=λz=>by
  have:=(h.off (nxt x r)).mpr z;rw[hn] at this;cases this
 have cut:∀{α:Type} (l:List α) (a:α) (i:Nat) (y:α),(l++[a])[i]? = some y->(i<l.length/\l[i]? = some y)\/(i=l.length/\y=a):=λl a i y e=>by
  by_cases hi:i<l.length
  ·rw[Iu hi] at e;exact .inl ⟨hi,e⟩
  ·rw[IW (by omega)] at e;cases hk:i - l.length with
   | zero=>rw[hk] at e;simp at e;exact .inr ⟨by omega,e.symm⟩
   | succ k=>rw[hk] at e;simp at e
 refine⟨by simp[g],?_,λi y v h1 h2=>?_,λi y z v h1 h2 n=>?_,λy i=>?_,λy=>?_,h.down,?_⟩
 ·rcases h.hd with e|⟨e,_⟩
  ·exact .inl (by rw[List.head?_append,e];rfl)
  ·simp at e
 ·rcases cut _ _ _ _ h1 with⟨a1,a2⟩|⟨a1,a2⟩
  ·rcases cut _ _ _ _ h2 with⟨d,c⟩|⟨d,c⟩
   ·exact h.way i y v a2 c
   ·simp at a1 d;omega
  ·rcases cut _ _ _ _ h2 with⟨d,c⟩|⟨d,c⟩
   ·simp at a1 d;omega
   ·subst a2 c;exact⟨_,[],o,rfl,by simp⟩
 ·rcases cut _ _ _ _ h2 with⟨a1,a2⟩|⟨a1,a2⟩
  ·rcases cut _ _ _ _ h1 with⟨c1,c2⟩|⟨c1,c2⟩
   ·rcases cut _ _ _ _ n with⟨d,c⟩|⟨d,c⟩
    ·exact h.lnk i y z v c2 a2 c
    ·simp at a1 d;omega
   ·simp at a1 c1;omega
  ·have hi:i=path.length:=by simp at a1;omega
   subst hi;rcases cut _ _ _ _ h1 with⟨c1,c2⟩|⟨c1,c2⟩
   ·rcases cut _ _ _ _ n with⟨d,c⟩|⟨d,c⟩
    ·simp at c2;rw[<-g] at c;simp at c;subst a2 c2 c;exact⟨r,w,rfl,rfl⟩
    ·simp at d;omega
   ·simp at c1
 ·rw[f];by_cases e:y=nxt x r
  ·subst e;rw[ME rfl];constructor
   ·intro z;cases z;rw[IW (by simp)];simp
   ·intro z;rcases cut _ _ _ _ z with⟨_,a2⟩|⟨a1,_⟩
    ·exact absurd (IG a2) j
    ·rw[a1];simp
  ·rw[MF e,h.on];constructor
   ·intro z;rw[Iu (Ib.mp z).1];exact z
   ·intro z;rcases cut _ _ _ _ z with⟨_,a2⟩|⟨_,a2⟩
    ·exact a2
    ·exact absurd a2 e
 ·rw[f];by_cases e:y=nxt x r
  ·subst e;rw[ME rfl];constructor
   ·intro z;cases z
   ·intro z;exact absurd z m
  ·rw[MF e,h.off]
 ·have nd:=h.nd;have:(nxt x r::(path++[x]++lost)).Nodup:=Ir.mpr ⟨λz=>(HX.mp z).elim j m,nd⟩;refine s0 ?_ |>.mp this;rw[Ja (path++[x]) [nxt x r] lost];exact Mh.symm
theorem f9.skip{x:σ}{r:ρ}{w:List ρ}(h:f9 Full nxt start₀ (path++[x]) (ways++[r::w]) places lost)(hn:places (nxt x r)=some none) :
  f9 Full nxt start₀ (path++[x]) (ways++[w]) places lost:=by
 have j:ways.length=path.length:=by have:=h.len;simpa using this
 have hx:=(h.off _).mp hn;refine⟨by simpa using j,h.hd,λi y v h1 h2=>?_,λi y z v h1 h2 k=>?_,h.on,h.off,h.down,h.nd⟩
 ·by_cases hi:i<ways.length
  ·rw[Iu hi] at h2;exact h.way i y v h1 (by rw[Iu hi];exact h2)
  ·have d:i<(path++[x]).length:=(Ib.mp h1).1;have g:i=ways.length:=by simp at d;omega
   subst g;simp at h2;subst h2;obtain⟨fr,pre,a,b,c⟩:=h.way ways.length y (r::w) h1 (by simp);have e:y=x:=by rw[j] at h1;simpa using h1.symm
   subst e;refine⟨fr,pre++[r],a,by simp[b],λq f=>?_⟩;rcases HX.mp f with f|f
   ·exact c q f
   ·rw[HW.mp f];exact hx
 ·have hi:i+1<(path++[x]).length:=(Ib.mp h2).1;have d:i<ways.length:=by simp at hi;omega
  rw[Iu d] at k;exact h.lnk i y z v h1 h2 (by rw[Iu d];exact k)
def jk(N C:Nat)(path lost:List σ)(ways:List (List ρ)):Nat:=(N - (path.length+lost.length))*C+(ways.map λw=>w.length+1).sum
theorem f9.few(h:f9 Full nxt start₀ path ways places lost){U:List σ}(a:∀x∈path++lost,x∈U):path.length+lost.length<=U.length:=by have:=cP h.nd a;simpa using this
end
section
variable {σ ρ:Type}[DecidableEq σ]{path:List σ}{ways:List (List ρ)}{lost:List σ}
theorem f9.lt_lose(a:(path++[x]).length+lost.length<=N):jk N C path (lost++[x]) ways<jk N C (path++[x]) lost (ways++[([]:List ρ)]):=by
 unfold jk;have:path.length+(lost++[x]).length=(path++[x]).length+lost.length:=by simp;omega
 rw[this,IE,JS];simp
theorem f9.lt_skip{x:σ}{r:ρ}{w:List ρ}{N C:Nat}:jk N C (path++[x]) lost (ways++[w])<jk N C (path++[x]) lost (ways++[r::w]):=by unfold jk;rw[IE,JS,IE,JS];simp
theorem f9.lt_go(a:path.length+1+lost.length<=N)(b:fr.length+1<C):jk N C (path++[x]) lost (ways++[fr])<jk N C path lost ways:=by
 unfold jk;rw[IE,JS];have e:N - (path.length+lost.length)=N - ((path++[x]).length+lost.length)+1:=by simp;omega
 rw[e,Nat.succ_mul];simp;omega
end
theorem oS:r∈cy n h l↔r∈j8 n/\(r.length:Int)<=h/\∀c,c<n->l.getD c 0=1->(c:Int)∈r:=by
 unfold cy gC;rw[Iw,Iq,decide_eq_true_eq,decide_eq_true_eq];have a:(iy (λc=>decide (c ∉ r)) (jW l n))=[]↔∀c,c<n->l.getD c 0=1->(c:Int)∈r:=by
  rw[JU];constructor
  ·intro h c hc e;have:=h (c:Int) (by
    unfold jW;exact Ig.mpr ⟨c,Iw.mpr ⟨Io.mpr hc,decide_eq_true e⟩,rfl⟩)
   simpa using this
  ·intro h x hx;unfold jW at hx;obtain⟨c,hc,rfl⟩:=Ig.mp hx;obtain⟨h1,h2⟩:=Iw.mp hc;have:=h c (Io.mp h1) (of_decide_eq_true h2);simpa using this
 rw[a]
abbrev Std:=Nat×List Int
def cb(s o:List Int)(x:Std)(r:List Int):Std:=((x.1+1) % o.length,je s x.2 r s.length)
def ff(s o:List Int)(x:Std)(fr:List (List Int)):Prop:=(∀r∈fr,r∈cy s.length (o.getD x.1 0) x.2)/\(∀r∈cy s.length (o.getD x.1 0) x.2,∃a∈fr,∀c∈r,c∈a) /\
 (∀r∈fr,∀a∈cy s.length (o.getD x.1 0) x.2,a.length<=r.length)/\∀r∈cy s.length (o.getD x.1 0) x.2,(∀a∈cy s.length (o.getD x.1 0) x.2,a.length<=r.length)->r∈fr
theorem ff.same(h:ff s o x fr)(h':ff s o x a)(b:r∈fr):r∈a:=h'.2.2.2 r (h.1 r b) (h.2.2.1 r b)
def IsS(s o:List Int)(x:Std):Prop:=x.1<o.length/\x.2.length=s.length/\∀c,c<s.length->1<=x.2.getD c 0/\x.2.getD c 0<=s.getD c 0
theorem zm(a:∀x∈s,1<=x)(h:IsS s o x)(b:r∈cy s.length (o.getD x.1 0) x.2):IsS s o (cb s o x r):=by
 obtain⟨h1,h2,d⟩:=h;refine⟨JV _ (by omega),iw _ _ _ _,λc hc=>?_⟩;have f:=(oS.mp b).2.2;show 1<=(je s x.2 r s.length).getD c 0/\(je s x.2 r s.length).getD c 0<=_;rw[eV hc];have g:=d c hc;have i:=a _ (aK hc);split
 ·omega
 ·rename_i hn;by_cases e:x.2.getD c 0=1
  ·exact absurd (f c hc e) hn
  ·omega
def yJ:List Int->List (List Int)
 | []=>[[]]
 | x::s=>((di x.toNat).map λ(i:Nat)=>(yJ s).map λl=>((i:Int)+1)::l).flatten
theorem qG:∀{s l:List Int},l.length=s.length->(∀c,c<s.length->1<=l.getD c 0/\l.getD c 0<=s.getD c 0)->l∈yJ s
 | [],l,h,_=>by
  rw[sd.mp h];simp[yJ]
 | x::s,[],h,_=>by simp at h
 | x::s,y::l,h,a=>by
  have b:=a 0 (by simp);have e:1<=y/\y<=x:=by simpa using b
  have d:=qG (s:=s) (l:=l) (by simpa using h) λc hc=>by simpa using a (c+1) (by simpa using hc)
  unfold yJ;refine Mi.mpr ⟨_,Ig.mpr ⟨(y - 1).toNat,Io.mpr (by omega),rfl⟩,Ig.mpr ⟨l,d,?_⟩⟩;rw[show(((y - 1).toNat:Nat):Int)+1=y by omega]
def jl:List Int->Nat
 | []=>1
 | x::s=>x.toNat*jl s
theorem rS:∀s:List Int,(yJ s).length=jl s
 | []=>rfl
 | x :: s=>by
  unfold yJ jl;rw[LP,IK];have:(mf ∘ λ(i:Nat)=>(yJ s).map λl=>((i:Int)+1)::l)=λ_=>jl s:=by funext i;simp[rS s]
  rw[this,Mo,Lw,IC]
def ji(s o:List Int):List Std:=((di o.length).map λd=>(yJ s).map λl=>(d,l)).flatten
theorem fT(h:IsS s o x):x∈ji s o :=
 Mi.mpr ⟨_,Ig.mpr ⟨x.1,Io.mpr h.1,rfl⟩,Ig.mpr ⟨x.2,qG h.2.1 h.2.2,rfl⟩⟩
theorem rR(s o:List Int):(ji s o).length=o.length*jl s:=by
 unfold ji;rw[LP,IK];have:(mf ∘ λd=>(yJ s).map λl=>((d,l):Std))=λ_=>jl s:=by funext i;simp[rS s]
 rw[this,Mo,Lw,IC]
def noB(s o:List Int)(x y:Std):Prop:=IsS s o y/\x.1=y.1/\x.2.length=s.length/\∀c,c<s.length->y.2.getD c 0<=x.2.getD c 0
def goS(s o:List Int)(y z:Std):Prop:=∃r∈cy s.length (o.getD y.1 0) y.2,z=cb s o y r
theorem ym{s o l l' r:List Int}(b:∀c,c<s.length->1<=l.getD c 0/\l.getD c 0<=l'.getD c 0)(a:r∈cy s.length (o.getD d 0) l):r∈cy s.length (o.getD d 0) l':=by rw[oS] at a ⊢;refine⟨a.1,a.2.1,λc hc e=>a.2.2 c hc ?_⟩;have:=b c hc;omega
theorem rA(i:∀x∈s,1<=x)(j:ff s o x fr)(k:noB s o x y)(l:goS s o y z):∃r∈fr,noB s o (cb s o x r) z:=by
 obtain⟨e,e1,l1,h⟩:=k;obtain⟨d,a,rfl⟩:=l;have f:d∈cy s.length (o.getD x.1 0) x.2:=by rw[e1];exact ym (λc hc=>⟨(e.2.2 c hc).1,h c hc⟩) a
 obtain⟨r,m,b⟩:=j.2.1 d f;refine⟨r,m,zm i e a,?_,iw _ _ _ _,λc hc=>?_⟩
 ·show(x.1+1) % o.length=(y.1+1) % o.length;rw[e1]
 ·show(je s y.2 d s.length).getD c 0<=(je s x.2 r s.length).getD c 0;rw[eV hc,eV hc];have h1:=h c hc;have h2:=(e.2.2 c hc).2;by_cases g:(c:Int)∈d
  ·rw[ME g,ME (b _ g)];exact Jb _
  ·rw[MF g];split <;> omega
def zH(c:Int)(r:List Int):List Int:=r.filter (λx=>decide (x<c))++c::r.filter (λx=>decide (c<x))
theorem kA:x∈zH c r↔x=c\/x∈r:=by
 unfold zH;rw[HX,Ic,Iw,Iw,decide_eq_true_eq,decide_eq_true_eq];constructor
 ·rintro(h|h|h)
  ·exact .inr h.1
  ·exact .inl h
  ·exact .inr h.1
 ·rintro(h|h)
  ·exact .inr (.inl h)
  ·by_cases h1:x<c
   ·exact .inl ⟨h,h1⟩
   ·by_cases h2:x=c
    ·exact .inr (.inl h2)
    ·exact .inr (.inr ⟨h,by omega⟩)
theorem qY(h:c ∉ r):(zH c r).length=r.length+1:=by
 unfold zH;rw[Ix,IL];have : ∀r:List Int,c ∉ r->(r.filter λx=>decide (x<c)).length+(r.filter λx=>decide (c<x)).length=r.length:=λr=>by
  induction r with
  | nil=>exactλ_=>rfl
  | cons x r b =>
   intro h;have h1:c≠x:=λz=>h (by simp[z]);have:=b λz=>h (HZ _ z);by_cases h2:x<c
   ·have a:¬c<x:=by omega
    rw[Jc (by simpa using h2),Js (by simpa using a),IL,IL];omega
   ·have a:c<x:=by omega
    rw[Js (by simpa using h2),Jc (by simpa using a),IL,IL];omega
 have:=this r h;omega
theorem sL(h:r.Pairwise (·<·)):(zH c r).Pairwise (·<·):=by
 unfold zH;refine vu.mpr ⟨h.filter _,List.pairwise_cons.mpr ⟨λx hx=>?_,h.filter _⟩,λx hx y a=>?_⟩
 ·simpa using(Iw.mp hx).2
 ·have h1:x<c:=by simpa using(Iw.mp hx).2
  rcases Ic.mp a with a|a
  ·rw[a];exact h1
  ·have h2:c<y:=by simpa using(Iw.mp a).2
   omega
theorem Bu{s o l r:List Int}{d:Nat}{c:Int}(a:r∈cy s.length (o.getD d 0) l)(hc:0<=c/\c<s.length)(hn:c ∉ r)(h:(r.length:Int)+1<=o.getD d 0):zH c r∈cy s.length (o.getD d 0) l:=by
 rw[oS] at a ⊢;obtain⟨h1,i,b⟩:=a;obtain⟨_,f,g⟩:=bP _ _ h1;refine⟨ie _ _ (sL f) λx hx=>?_,?_,λk hk e=>kA.mpr (.inr (b k hk e))⟩
 ·rcases kA.mp hx with rfl|hx
  ·exact hc
  ·exact g x hx
 ·rw[qY hn];omega
theorem nU{r:List Int}(h:r.Pairwise (·<·)):r.Nodup:=h.imp λ{a b} (z:a<b) (e:a=b)=>by omega
theorem q9{s o l:List Int}{a:List Int}(h1:a∈cy s.length (o.getD d 0) l):∀n (r:List Int),r∈cy s.length (o.getD d 0) l->r.length+n=a.length->∃f∈cy s.length (o.getD d 0) l,f.length=a.length/\∀x∈r,x∈f
 | 0,r,g,e=>⟨r,g,by omega,λx hx=>hx⟩
 | n + 1,r,g,e=>by
  obtain⟨_,h,i⟩:=bP _ _ (Iw.mp h1).1;have j:(a.length:Int)<=o.getD d 0:=by have:=(Iw.mp h1).2;unfold gC at this;rw[Iq,decide_eq_true_eq] at this;exact this.1
  have : ∃c∈a,c ∉ r:=by
   by_cases hc:∃c∈a,c ∉ r
   ·exact hc
   ·have:=cP (nU h) (U:=r) λx hx=>by
     by_cases b:x∈r
     ·exact b
     ·exact absurd ⟨x,hx,b⟩ hc
    omega
  obtain⟨c,c1,c2⟩:=this;obtain⟨f,a1,a2,a3⟩:=q9 h1 n (zH c r) (Bu g (i c c1) c2 (by omega)) (by rw[qY c2];omega);exact⟨f,a1,a2,λx hx=>a3 x (kA.mpr (.inr hx))⟩
theorem Bt(h1:e∈cy s.length (o.getD x.1 0) x.2)(c:∀r∈cy s.length (o.getD x.1 0) x.2,r.length<=e.length)
  (f:∀r,r∈fr↔r∈cy s.length (o.getD x.1 0) x.2/\r.length=e.length):ff s o x fr:=by
 refine⟨λr d=>((f r).mp d).1,λr d=>?_,λr d g i=>?_,λr d h=>(f r).mpr ⟨d,Nat.le_antisymm (c r d) (h e h1)⟩⟩
 ·obtain⟨g,a1,a2,a3⟩:=q9 h1 (e.length - r.length) r d (by have:=c r d;omega);exact⟨g,(f g).mpr ⟨a1,a2⟩,a3⟩
 ·have a:=((f r).mp d).2;have b:=c g i;omega
theorem yj(h:cy s.length (o.getD x.1 0) x.2=[]):ff s o x []:=by
 refine⟨λr a=>(by cases a),λr a=>?_,λr a=>(by cases a),λr a=>?_⟩
 all_goals
  rw[h] at a;cases a
structure rT(s o:List Int)(lost:List Std):Prop where
 bg : ((0,s):Std)∈lost
 is : ∀x∈lost,IsS s o x
 nd : lost.Nodup
 few:lost.length<=(ji s o).length
 down:∀(j:Nat) x,lost[j]? = some x->∃fr,ff s o x fr/\∀r∈fr,∃i:Nat,i<j/\lost[i]? = some (cb s o x r)
theorem f9.lostOk(h:f9 (ff s o) (cb s o) (0,s) [] [] places lost)(a:∀x∈lost,IsS s o x):rT s o lost:=by
 have nd:lost.Nodup:=by simpa using h.nd
 refine⟨?_,a,nd,cP nd λx hx=>fT (a x hx),h.down⟩;rcases h.hd with e|⟨_,e⟩
 ·cases e
 ·exact e
structure pK(s o:List Int)(P:List (Std×Int)):Prop where
 bg : ∃e∈P,e.1=((0,s):Std)
 is : ∀e∈P,IsS s o e.1/\0<=e.2/\e.2<100000
 down:∀e∈P,∃fr,ff s o e.1 fr/\∀r∈fr,∃e'∈P,e'.1=cb s o e.1 r/\e'.2<e.2
theorem pK.step{s o:List Int}{P:List (Std×Int)}(h:pK s o P)(a:∀x∈s,1<=x){e:Std×Int}{y z:Std}(b:e∈P)(hn:noB s o e.1 y)(c:goS s o y z):∃e'∈P,noB s o e'.1 z/\e'.2<e.2:=by obtain⟨fr,d,f⟩:=h.down e b;obtain⟨r,g,hz⟩:=rA a d hn c;obtain⟨e',m,i,j⟩:=f r g;exact⟨e',m,by rw[i];exact hz,j⟩
abbrev stS(x:Std):ab:=dO ((x.1:Int),x.2)
def plV:ab->Option Nat
 | .int i=>some i.toNat
 | _=>none
def kOf(x:Std):a8:=((x.1:Int),x.2)
theorem kI(h:kOf x=kOf y):x=y:=by obtain⟨a,b⟩:=x;obtain⟨c,d⟩:=y;unfold kOf at h;simp only[Li] at h ⊢;exact⟨by omega,h.2⟩
def plc(kvs:List (a8×ab))(x:Std):Option (Option Nat):=(bK kvs (kOf x)).map plV
theorem oz(kvs:List (a8×ab))(x:Std)(d:ab)(y:Std):plc (hJ kvs (kOf x) d) y=if y=x then some (plV d) else plc kvs y:=by
 unfold plc;rw[fW];by_cases h:y=x
 ·rw[ME h,ME (by rw[h])];rfl
 ·rw[MF h,MF λz=>h (kI z)]
theorem As{κ β:Type} [DecidableEq κ]{kvs:List (κ×β)}{k:κ}{v:β}(h:(bK kvs k).isSome=true):(hJ kvs k v).length=kvs.length:=by unfold hJ;rw[ME h,HS]
theorem qj{κ β:Type} [DecidableEq κ]{kvs:List (κ×β)}{k:κ}{v:β}:∀p∈hJ kvs k v,p.2=v\/p∈kvs:=by
 intro p a;unfold hJ at a;split at a
 ·obtain⟨q,b,rfl⟩:=Ig.mp a;split
  ·exact .inl rfl
  ·exact .inr b
 ·rcases HX.mp a with h|h
  ·exact .inr h
  ·rw[HW.mp h];exact .inl rfl
theorem yg{κ β:Type} [DecidableEq κ]{kvs:List (κ×β)}{k:κ}{v:β}(h:bK kvs k=some v):(k,v)∈kvs:=by
 induction kvs with
 | nil=>cases h
 | cons p kvs a =>
  rw[bJ] at h;split at h
  ·rename_i e;cases h;subst e;exact H9
  ·exact HZ _ (a h)
def GT(s o:List Int)(x:Std):List Std:=(cy s.length (o.getD x.1 0) x.2).map (cb s o x)
def cX(s o:List Int)(x:Std):Prop:=∃S:Std->Prop,S x/\∀y,S y->∃z∈GT s o y,S z
theorem cX.step(h:cX s o x):∃z∈GT s o x,cX s o z:=by obtain⟨S,hx,a⟩:=h;obtain⟨z,hz,sz⟩:=a x hx;exact⟨z,hz,S,sz,a⟩
abbrev Lds:=List (Std×List Std)
theorem tP{s o:List Int}(ho:1<=o.length){w:List (List Int)}
  (h : f9 (ff s o) (cb s o) (0,s) (path++[x]) (ways++[r::w]) places lost) (hk:(path++[x])[k]? = some y) (e:cb s o x r=y) :
  KP s o (((ways++[r::w]).map λw=>w.getD 0 []).take k) (((ways++[r::w]).map λw=>w.getD 0 []).drop k):=by
 obtain⟨P,B⟩:∃P,P=path++[x]:=⟨_,rfl⟩
 obtain⟨W,hW⟩:∃W,W=ways++[r::w]:=⟨_,rfl⟩
 obtain⟨rows,a⟩:∃rows,rows=W.map λw=>w.getD 0 []:=⟨_,rfl⟩
 have J:ways.length=path.length:=by have:=h.len;simpa using this
 rw[<-hW,<-a];rw[<-B,<-hW] at h;rw[<-B] at hk;have A:P.length=path.length+1:=by rw[B];simp
 have D:W.length=path.length+1:=by rw[hW];simp[J]
 have f:rows.length=path.length+1:=by rw[a,HS,D]
 have l:P[path.length]? = some x:=by rw[B];simp
 have b:W[path.length]? = some (r::w):=by rw[hW,<-J];simp
 generalize path.length=n at *;have E:k<n+1:=by have:=(Ib.mp hk).1;omega
 have row:∀i,i<n+1->∃q t,W[i]? = some (q::t)/\rows.getD i []=q:=λi hi=>by
  have F:i<W.length:=by omega
  have c:W[i]? = some W[i]:=HR F;have g:rows.getD i []=W[i].getD 0 []:=by rw[HU,a,IH,c];rfl
  by_cases G:i=n
  ·subst G;rw[b] at c;cases hWi':W[i] with
   | nil=>rw[hWi'] at c;cases c
   | cons q t=>exact⟨q,t,by rw[HR (by omega),hWi'],by rw[g,hWi'];rfl⟩
  ·obtain⟨q,t,e1,_⟩:=h.lnk i P[i] P[i+1] W[i] (HR (by omega)) (HR (by omega)) c;exact⟨q,t,by rw[c,e1],by rw[g,e1];rfl⟩
 have m:∀i,i<n+1->rwF (rows.take k) (rows.drop k) i=rows.getD i []:=λi hi=>by
  unfold rwF;rw[IY,f,JT (by omega),JF,f];by_cases p:i<k
  ·rw[ME p,HU,HU,Lu p]
  ·rw[MF p,Jk (by omega),HU,HU,L2,show k+(i - k)=i by omega]
 have u:∀i z,i<n+1->P[i]? = some z->z=(i % o.length,lfF s (rwF (rows.take k) (rows.drop k)) i):=λi=>by
  induction i with
  | zero =>
   intro z _ hz;rcases h.hd with e1|⟨e1,_⟩
   ·rw[List.head?_eq_getElem?,hz] at e1;cases e1;rw[Nat.zero_mod];rfl
   ·rw[e1] at A;simp at A
  | succ i M =>
   intro z hi hz;have d:P[i]? = some P[i]:=HR (by omega);have H:=M _ (by omega) d;obtain⟨q,t,e1,e2⟩:=row i (by omega);obtain⟨S,t',e3,N⟩:=h.lnk i P[i] z (q::t) d hz e1;cases e3;rw[<-N,H];show((i % o.length+1) % o.length,je s (lfF s _ i) q s.length)=((i+1) % o.length,je s (lfF s _ i) (rwF _ _ i) s.length)
   rw[m i (by omega),e2,Lj]
 have I:∀i,i<n+1->sC s o (rwF (rows.take k) (rows.drop k)) i=true:=λi hi=>by
  have d:P[i]? = some P[i]:=HR (by omega);have H:=u i _ hi d;obtain⟨q,t,e1,e2⟩:=row i hi;obtain⟨fr,pre,O,Q,_⟩:=h.way i _ _ d e1;have K:=O.1 q (by rw[Q];simp);unfold sC;rw[m i hi,e2];rw[H] at K;exact(vy (gw _)).mp K
 have R:=u k y E hk;have ex:=u n x (by omega) l;have v:rwF (rows.take k) (rows.drop k) n=r:=by obtain⟨q,t,e1,e2⟩:=row n (by omega);rw[b] at e1;cases e1;rw[m n (by omega),e2]
 rw[ex,R] at e;have e1:((n % o.length+1) % o.length)=k % o.length:=congrArg Prod.fst e;have e2:je s (lfF s (rwF (rows.take k) (rows.drop k)) n) r s.length=lfF s (rwF (rows.take k) (rows.drop k)) k:=congrArg Prod.snd e;rw[Lj] at e1;have L:(rows.take k).length=k:=by rw[IY,f];omega
 have C:(rows.drop k).length=n+1 - k:=by rw[JF,f]
 refine yK (k:=1) (k':=0) (by rw[C];omega) ?_ (by omega) (λj hj=>I j (by rw[L,C] at hj;omega)) ?_
 ·rw[C];have:=Nat.sub_mod_eq_zero_of_mod_eq e1;exact this
 ·rw[L,C,Nat.zero_mul,Hh,show k+1*(n+1 - k)=n+1 by omega];refine Eq.trans ?_ e2;rw[<-v];rfl
theorem ww(a:List (List Int))(x:List Int):atI (lr (a++[x])) (-1)=some (.list (li x)):=by show atI (eP _ (a++[x])) (-1)=_;rw[IE];exact dj _ _
def Cq(l:List Int):ab->ab
 | .list es=>.list (li (de ((di ((bS es).getD []).length).map λi=>l.getD (((bS es).getD []).getD i 0).toNat 0)))
 | d=>d
theorem x8(l r:List Int):Cq l (.list (li r))=.list (li (de ((di r.length).map λi=>l.getD (r.getD i 0).toNat 0))):=by show fI (li (de ((di ((bS (r.map .int)).getD []).length).map λi=>l.getD (((bS (r.map .int)).getD []).getD i 0).toNat 0)))=_;rw[bo];rfl
def js(s o:List Int)(x:Std):List (List Int):=(chX s.length (o.getD x.1 0) x.2).filter λr=>decide (r.length=((chX s.length (o.getD x.1 0) x.2).getLastD []).length)
def jr(s o:List Int)(x:Std):List (List Int):=pick (aE (((lr (js s o x)).map (Cq x.2)).map dg)) (js s o x) []
theorem jU(s o:List Int)(x:Std):(jr s o x).Perm (js s o x):=fQ (by have:=bh (((lr (js s o x)).map (Cq x.2)).map dg);rwa [HS,HS,HS] at this)
theorem kO(s o:List Int)(x:Std):ff s o x (jr s o x):=by
 have b:=fY s.length (o.getD x.1 0) x.2;have c:=jU s o x;by_cases a:chX s.length (o.getD x.1 0) x.2=[]
 ·have e:js s o x=[]:=by unfold js;rw[a];rfl
  rw[e] at c;rw[LG c];rw[a] at b;exact yj (LG b.symm)
 ·obtain⟨d,r,e1,e2,e3⟩:=yD a;refine Bt e2 e3 λf=>?_;rw[c.mem_iff];unfold js;rw[Iw,b.mem_iff,e1];simp
theorem iY(t2:s.length<=6)(c:s.length<=4\/o.getD x.1 0<=3):(jr s o x).length<64/\∀r∈jr s o x,r.length<=6:=by
 have a:=fY s.length (o.getD x.1 0) x.2;have b:=jU s o x;refine⟨?_,λr d=>?_⟩
 ·rw[b.length_eq];refine Jf (IN _ _) ?_;rw[a.length_eq];exact kQ t2 c
 ·have:=(bP _ r (Iw.mp (a.mem_iff.mp (Iw.mp (b.mem_iff.mp d)).1)).1).1;omega
abbrev cN:Stmt:=top 9
theorem cZ:az ["town", "standing", "lefts", "rows", "full"] ["town", "standing"] (af cN):=⟨rfl,rfl,rfl,by decide +kernel,rfl,by decide +kernel,by decide +kernel⟩
def tW:DSp:=λss R=>∃(s o l:List Int) (d:Nat),ss=[.fr (.tuple [.list (li s),.list (li o)]),.fr (.tuple [.int d,.tuple (li l)])]/\s.length<=6/\0<=o.getD d 0/\(s.length<=4\/o.getD d 0<=3)/\StB s o d l /\
 ∀S,R (.tr S (.list (lr (jr s o (d,l))))) [.un,.un]
theorem nu(F:Fun K "full_rows" "full_rows" cN f fd):bx K fd ["town", "standing"] []:=F.binds (ps:=["town", "standing"]) λ_ _ _ _ _ _ us a=>us2 (Q:=λus=>k3 _ ⟨us,[]⟩=pure (fy _ us)) a λ_ _=>rfl
theorem lV(F:Fun K "full_rows" "full_rows" cN f fd)(B:Bn mg)(L:sW K base "full_rows" fd)(g:Cal P w K mg base "choices" 6 (spD K iF)):cq P w K mg base CX0 7 f fd ["town", "standing"] (spD K tW):=by
 refine FU (k:=6) F cZ (λss R h=>?_) (by decide) (λcdv D A outer s H E n=>⟨_,(ah (aM (i:=2) cZ.nd rfl (eb rfl) (bd (ai (K:=K) rfl) mIx (qv 1) aj (λ_ _=>rfl)))
   (ah (aM (i:=3) cZ.nd rfl (eb rfl) (aR g (n.mono (by decide)) rfl (aa (qf 0) (aa (qf 1) ac))))
   (ah (ui (K:=K) 3 (i:=4) cZ.nd rfl rfl (eb da) rfl rfl rfl (cU (N:=["town", "standing", "lefts", "rows", "full"]) (sc0:=af cN) rfl rfl (by decide +kernel)) (λ_ _ _ _=>c9 (show eT (["row", "rows"]:List bt) by decide +kernel) rfl da) (λ_ _ _ _=>(fv (aC km xQ (dG (fq (K:=K) rfl) fi rfl B.len dt (aa (qv 0) ac)) (dG (fq (K:=K) rfl) fi rfl B.len dt (aa (bd (ai (K:=K) rfl) mIx (qv 1) (C8 jy DZ aj) (λ_ _=>rfl)) ac)) (aH _)))) (λ_ _ _ _=>aG rfl da))
   (ak (aX (AA 2 (p := "row") (x := "lefts") (K:=K) rfl (let ⟨c,T,a,b,d⟩:=L;⟨c,T,D.trans a,b,d⟩) (n.mono (by decide)) rfl B.sorted (aa (h8 4) ac) ⟨rfl,rfl,rfl,rfl,rfl,by decide,by decide,by decide⟩ rfl (eb da) da (λz=>nomatch (show(some ls:Option NameKind)=some .local from z)) (λ_ _ _ _ _ _=>rfl) (λc hc=>by cases hc;rfl) rfl (λ_ _ _ _ _ _ _=>(y8 (K:=K) rfl rfl B.sorted (aa (dZ (N':=["clock", "lefts"]) (ix:=[none,some 1]) rfl (GI (by decide +kernel)) (bj (K:=K) rfl (qf 0)) (λ_ _ _ _=>(au (i:=0) (show eT (["clock", "lefts"]:List bt) by decide +kernel) rfl da)) (λ_ _ _ _=>bR) (λ_ _ _ _=>(bd (ai (K:=K) rfl) mIx (qv 1) (qv 0) (λ_ _=>rfl)))) ac))))))))),λss R h=>?_⟩)
 ·obtain⟨s,o,l,d,rfl,_⟩:=h;rfl
 obtain⟨s,o,l,d,rfl,t2,U,M,O,q⟩:=h;obtain⟨s1,s2⟩:=id O;walk_at "dx";refine⟨s,o,l,d,rfl,t2,U,M,O,λS=>?_⟩;walk_at "dx";have G:=fY s.length (o.getD d 0) l;have u:(chX s.length (o.getD d 0) l).length<64:=by rw[G.length_eq];exact kQ t2 M
 have v:∀r∈chX s.length (o.getD d 0) l,r.length<=6:=λr n=>by
  have:=(bP _ r (Iw.mp (G.mem_iff.mp n)).1).1;omega
 have I:∀r∈chX s.length (o.getD d 0) l,∀x∈r,0<=x/\x<s.length:=λr n=>(bP _ r (Iw.mp (G.mem_iff.mp n)).1).2.2;have V:∀m:Nat,((chX s.length (o.getD d 0) l).filter λr=>decide (r.length=m)).length<64:=λm=>Jf (IN _ _) u;have C:js s o (d,l)=(chX s.length (o.getD d 0) l).filter λr=>decide (r.length=((chX s.length (o.getD d 0) l).getLastD []).length):=rfl;have W:jr s o (d,l)=pick (aE (((lr (js s o (d,l))).map (Cq l)).map dg)) (js s o (d,l)) []:=rfl;obtain⟨m,J⟩:∃m,m=((chX s.length (o.getD d 0) l).getLastD []).length:=⟨_,rfl⟩
 rw[<-J] at C;have X:∀j,j<(chX s.length (o.getD d 0) l).length->∃z:List Int,atI (lr (chX s.length (o.getD d 0) l)) (-1)=some (.list (li z))/\z.length=m:=λj hj=>by
  rcases JJ (chX s.length (o.getD d 0) l) with e|⟨rl,r,e⟩
  ·rw[e] at hj;simp at hj
  ·rw[JK] at e;rw[e] at J ⊢;exact⟨r,ww _ _,by rw[J,Lo];simp⟩
 generalize chX s.length (o.getD d 0) l=cs at *;refine⟨by rw[HS];omega,λj=>decide ((cs.getD j []).length=m),λj hj=>?_,λS'=>?_⟩
 ·rw[HS] at hj;rw[fj];obtain⟨z,Y,z2⟩:=X j hj;refine⟨_,rfl,_,Y,_,rfl,?_⟩;rw[HS,HS,z2];exact decide_eq_decide.mpr (by omega)
 have Z:pick (iy (λj=>decide ((cs.getD j []).length=m)) (di (lr cs).length)) (lr cs) PyData.none=lr (cs.filter λr=>decide (r.length=m)):=by rw[HS,oU λi hi=>Io.mp (Iw.mp hi).1];exact congrArg lr ((dE cs [] (λr=>decide (r.length=m)) id).trans (List.map_id _))
 rw[Z];walk_at "dx";have t:∀r∈iy (λr=>decide (r.length=m)) cs,r∈cs:=λr n=>(Iw.mp n).1;refine⟨by rw[HS];exact V m,Cq l,.inr (.inr λx hx=>?_),λx hx=>?_,λS2=>?_⟩
 ·obtain⟨y,hy,rfl⟩:=Ig.mp hx;obtain⟨r,_,rfl⟩:=Ig.mp hy;exact⟨_,rfl⟩
 ·obtain⟨r,n,rfl⟩:=Ig.mp hx;refine⟨_,rfl,dh (λi=>.int (l.getD (r.getD i 0).toNat 0)) (by rw[HS];have:=v r (t r n);omega) (λi hi Q hQ=>?_) ?_⟩
  ·rw[HS] at hi;rw[gO];have h9:=I r (t r n) _ (show r.getD i 0∈r by rw[HU,HR hi];exact IB hi);walk_at "dd";rw[show r.getD i 0=((r.getD i 0).toNat:Int) by omega];exact⟨_,bV (by omega),hQ⟩
  ·have e:(di (li r).length).map (λi:Nat=>eC (l.getD (r.getD i 0).toNat 0))=li ((di r.length).map λi=>l.getD (r.getD i 0).toNat 0):=by
    rw[HS];show _=eP _ (eP _ _);rw[IK];rfl
   rw[e];walk_at "dx";refine⟨_,rfl,?_,(x8 l r).symm⟩;have:=v r (t r n);simp;omega
 ·have e:pick (aE (((lr (iy (λr=>decide (r.length=m)) cs)).map (Cq l)).map dg)) (lr (iy (λr=>decide (r.length=m)) cs)) .none=lr (jr s o (d,l)):=by
   rw[W,C];exact oU λi hi=>by have:=b9 i hi;rwa [HS,HS,HS] at this
  rw[e];exact q S2
theorem Bw:∀a,a<9->∀b,b<9->∀c,c<9->a+b+c<=8->a*(b*(c*1))<=18:=by decide +kernel
theorem Dx(f:u.length<=3)(h1:∀x∈u,1<=x)(d:u.sum<=8):jl u<=18:=by
 match u,f,h1,d with
 | [],_,_,_=>decide
 | [a],_,h1,d =>
  have:=h1 a (by simp);simp at d;show a.toNat*1<=18;omega
 | [a,b],_,h1,d =>
  have:=h1 a (by simp);have:=h1 b (by simp);simp at d;have:=Bw a.toNat (by omega) b.toNat (by omega) 1 (by omega);show a.toNat*(b.toNat*1)<=18;by_cases h:a.toNat+b.toNat+1<=8
  ·simpa using this h
  ·have:=Bw a.toNat (by omega) b.toNat (by omega) 0 (by omega) (by omega);have e:a+b=8:=by omega
   have:∀a,a<9->∀b,b<9->a+b<=8->a*(b*1)<=18:=by decide +kernel
   exact this _ (by omega) _ (by omega) (by omega)
 | [a,b,c],_,h1,d =>
  have:=h1 a (by simp);have:=h1 b (by simp);have:=h1 c (by simp);simp at d;exact Bw a.toNat (by omega) b.toNat (by omega) c.toNat (by omega) (by omega)
 | _::_::_::_::_,f,_,_=>simp at f
theorem Ge(a:u.length<=3)(h1:∀x∈u,1<=x)(b:u.sum<=8)(c:o.length<=3):(ji u o).length<64:=by rw[rR];have:=Ln c (Dx a h1 b);omega
theorem f9.ringGo{s o:List Int}{c x:Std}{P:List Std}{V:List (List (List Int))}{r:List Int}{w:List (List Int)}{d:Std->Option (Option Nat)}{lost:List Std}{k:Nat}
  (b:f9 (ff s o) (cb s o) c (P++[x]) (V++[r::w]) d lost) (f:r∈cy s.length (o.getD x.1 0) x.2) (hk:(P++[x])[k]? = some (cb s o x r)):cX s o c:=by
 have j:=b.len;refine⟨λy=>y∈P++[x],?_,λy g=>?_⟩
 ·rcases b.hd with e|⟨e,_⟩
  ·exact List.mem_of_mem_head? e
  ·simp at e
 obtain⟨i,hi,e⟩:=Il g;by_cases h2:i+1<(P++[x]).length
 ·have a:i<(V++[r::w]).length:=by omega
  obtain⟨q,t,e1,e2⟩:=b.lnk i _ _ _ (HR hi) (HR h2) (HR a);obtain⟨fr,pre,a1,a2,_⟩:=b.way i _ _ (HR hi) (HR a);rw[e] at e2 a1;refine⟨cb s o y q,Ig.mpr ⟨q,a1.1 q (by rw[a2,e1];simp),rfl⟩,?_⟩;show _∈P++[x]
  rw[e2];exact IB h2
 ·have h:i=P.length:=by simp at hi h2;omega
  have ex:y=x:=by rw[<-e];subst h;simp
  subst ex;exact⟨cb s o y r,Ig.mpr ⟨r,f,rfl⟩,IG hk⟩
theorem f9.lostNo(g:∀x∈s,1<=x)(d:f9 (ff s o) (cb s o) a [] [] f lost)(b:∀x∈lost,IsS s o x):¬cX s o a:=by
 have key:∀n (j:Nat) x,j<n->lost[j]? = some x->∀y,noB s o x y->¬cX s o y:=by
  intro n
  induction n with
  | zero=>intro j x hj;omega
  | succ n h =>
   intro j x hj hx y hn hc;obtain⟨z,hz,k⟩:=hc.step;obtain⟨fr,l,hd⟩:=d.down j x hx;obtain⟨q,m,rfl⟩:=Ig.mp hz;obtain⟨r,p,hn2⟩:=rA g l hn ⟨q,m,rfl⟩;obtain⟨i,hi,e⟩:=hd r p;exact h i _ (by omega) e _ hn2 k
 rcases d.hd with e|⟨_,e⟩
 ·simp at e
 obtain⟨j,hj,e⟩:=Il e;have hx:=b a (by rw[<-e];exact IB hj);exact key (j+1) j a (by omega) (by rw[HR hj,e]) a ⟨hx,rfl,hx.2.1,λc hc=>Jb _⟩
theorem A9(x:Std):noL (stS x)=true:=by show(true&&(gr (x.2.map .int)&&true))=true;rw[d5];rfl
theorem qC(l:List Std):gr (l.map stS)=true:=by
 induction l with
 | nil=>rfl
 | cons x l a =>
  show(noL (stS x)&&gr (l.map stS))=true;rw[A9,a];rfl
abbrev bw:Stmt:=top 10
theorem aO:az ["town", "standing", "path", "ways", "places", "lost", "ahead", "rows"] ["town", "standing"] (af bw):=⟨rfl,rfl,rfl,by decide +kernel,rfl,by decide +kernel,by decide +kernel⟩
def TbL(s o:List Int):Prop:=s.length<=6/\1<=o.length/\(∀x∈s,1<=x)/\(∀h∈o,0<=h)/\(s.length<=4\/∀h∈o,h<=3)/\(ji s o).length<100000
theorem F7:(λw:List (List Int)=>w.headD [])=λw=>w.getD 0 []:=by funext w;cases w <;> rfl
def tS:DSp:=λss R=>∃(s o:List Int),ss=[.fr (.tuple [.list (li s),.list (li o)]),.fr (.tuple [.int 0,.tuple (li s)])]/\TbL s o /\
 (∀(A B:List (List Int)) (x:ab),cX s o (0,s)->KP s o A B->A.length+B.length<=(ji s o).length->(∀r∈A++B,r.length<=6)->∀S,R (.tr S (.tuple [.tuple [.list (lr A),.list (lr B)],x])) [.un,.un]) /\
 ∀lost:List Std,¬cX s o (0,s)->rT s o lost->∀S,R (.tr S (.tuple [.none,.list (lost.map stS)])) [.un,.un]
theorem gG(F:Fun K "looked_through" "looked_through" bw f fd):bx K fd ["town", "standing"] []:=F.binds (ps:=["town", "standing"]) λ_ _ _ _ _ _ us a=>us2 (Q:=λus=>k3 _ ⟨us,[]⟩=pure (fy _ us)) a λ_ _=>rfl
theorem gq(F:Fun K "looked_through" "looked_through" bw f fd)(B:Bn mg)(g:Cal P w K mg base "full_rows" 7 (spD K tW))(G:Cal P w K mg base "behind" 1 (spD K ii)):cq P w K mg base CX0 9 f fd ["town", "standing"] (spD K tS):=by
 refine okD (k:=8) F aO (λss R h=>?_) (by decide) (λcdv A outer s H E I=>⟨_,(ah (aM (i:=2) aO.nd rfl da (cw (aa (qf 1) ac)))
   (ah (aM (i:=3) aO.nd rfl da (lQ (aa (aR g (I.mono (by decide)) rfl (aa (qf 0) (aa (qf 1) ac))) ac)))
   (ah (aM (i:=4) aO.nd rfl da (Dk (K:=K) rfl (hu2 I) (qf 1) aj))
   (ah (aM (i:=5) aO.nd rfl da (cw ac))
   (ah (nZ PassesOwn.never (qt (K:=K) rfl (qv 2)) (ah (dR (cn (ue 3 (K:=K) rfl rfl)) (ah (dQ (om 5 (K:=K) rfl rfl (AE 2 (K:=K) rfl rfl)))
   (ah (qw 4 (K:=K) rfl (hu2 I) rfl (bd (ai (K:=K) rfl) mIx (qv 5) (C8 jy DZ aj) (λ_ _=>rfl)) oh)
   (ah (dQ (De 3 (K:=K) rfl rfl))
   (ak sr)))) aU)
   (ah (aM (i:=6) aO.nd rfl da (oj (aR G (I.mono (by decide)) rfl (aa (qf 0) (aa (bd (ai (K:=K) rfl) mIx (qv 2) (C8 jy DZ aj) (λ_ _=>rfl)) (aa (bd (ai (K:=K) rfl) mIx (bd (ai (K:=K) rfl) mIx (qv 3) (C8 jy DZ aj) (λ_ _=>rfl)) aj (λ_ _=>rfl)) ac))))))
   (ak (dR (aC (oZ (K:=K) rfl (hu2 I)) oT (qv 6) (qv 4) (by with_unfolding_all rfl)) (ah (qw 4 (K:=K) rfl (hu2 I) rfl (qf 6) (dG (fq (K:=K) rfl) fi rfl B.len dt (aa (qv 2) ac)))
   (ah (dQ (om 2 (K:=K) rfl rfl (qf 6)))
   (ak (dQ (Dp 3 (K:=K) rfl rfl (aR g (I.mono (by decide)) rfl (aa (qf 0) (aa (qf 6) ac)))))))) (ak (dR (aC zl G3 (bd (Cr (K:=K) rfl (hu2 I)) Cp (qv 4) (qv 6) (λ_ _=>rfl)) oh (aH _)) (ak (dQ (AD 3 (K:=K) rfl rfl))) (ah (sk (K:=K) 3 (i:=7) aO.nd rfl rfl da rfl rfl rfl (cU (N:=["town", "standing", "path", "ways", "places", "lost", "ahead", "rows"]) (sc0:=af bw) rfl rfl (by decide +kernel)) (λ_ _ _ _=>c9 (show eT (["way"]:List bt) by decide +kernel) rfl da) (λ_ _ _ _=>aG rfl da))
   (ak (aX (lO (aa (xm 7 (K:=K) rfl rfl (bd (Cr (K:=K) rfl (hu2 I)) Cp (qv 4) (qv 6) (λ_ _=>rfl)) (bd (Cr (K:=K) rfl (hu2 I)) Cp (qv 4) (qv 6) (λ_ _=>rfl))) (aa (h8 5) ac)))))))))))))
   (ak (aX (lO (aa oh (aa (h8 5) ac)))))))))),λss R h=>?_⟩)
 ·obtain⟨s,o,rfl,_⟩:=h;rfl
 obtain⟨s,o,rfl,⟨t1,t2,t3,t4,t5,t6⟩,q1,q2⟩:=h;walk_at "dx";have hh:∀d,d<o.length->0<=o.getD d 0/\(s.length<=4\/o.getD d 0<=3):=λd hd=>⟨t4 _ (aK hd),t5.imp id λh=>h _ (aK hd)⟩
 have i0:IsS s o (0,s):=⟨t2,rfl,λc hc=>⟨t3 _ (aK hc),Jb _⟩⟩
 refine⟨Ie (by decide) ag,?_⟩;walk_at "dx";refine⟨s,o,s,0,rfl,t1,(hh 0 t2).1,(hh 0 t2).2,⟨t2,rfl⟩,?_⟩;have L:=kO s o (0,s);obtain⟨M,O⟩:=iY (x:=((0,s):Std)) t1 (hh 0 t2).2;obtain⟨fr,U⟩:∃fr,fr=jr s o (0,s):=⟨_,rfl⟩
 rw[<-U] at L M O ⊢;intro S0;walk_at "dx";refine⟨Ie (by decide) ag,λS=>?_⟩;walk_at "dx";refine⟨((0:Int),s),rfl,rfl,λS1=>?_⟩;walk_at "dx";refine⟨Iz _,?_⟩;walk_at "dx";refine⟨λm env=>∃(path:List Std) (Z:List (List (List Int))) (kvs:List (a8×ab)) (lost:List Std) (S1 S2:List al) (a b:Sl),
  env=[.fr (.tuple [.list (li s),.list (li o)]),.fr (.tuple [.int 0,.tuple (li s)]),.ow (path.map stS),.tr S1 (wyD Z),.tr S2 (fb kvs),.ow (lost.map stS),a,b] /\
  f9 (ff s o) (cb s o) (0,s) path Z (plc kvs) lost/\(∀x∈path++lost,IsS s o x)/\(∀w∈Z,w.length<64/\∀r∈w,r.length<=6)/\(∀p∈kvs,p.2=.none\/∃i:Nat,p.2=.int i)/\kvs.length<=path.length+lost.length/\m=jk (ji s o).length 66 path lost Z,⟨_,[(0,s)],[fr],[(((0:Int),s),.int 0)],[],S,S1,.un,.un,rfl,?_,?_,?_,?_,?_,rfl⟩,?_⟩
 ·refine f9.init L λx=>?_;show plc (hJ [] (kOf (0,s)) (.int 0)) x=_;rw[oz];rfl
 ·intro x hx;simp at hx;rw[hx];exact i0
 ·intro w hw;simp at hw;rw[hw];exact⟨M,O⟩
 ·intro p hp;simp at hp;rw[hp];exact .inr ⟨0,rfl⟩
 ·simp
 rintro m env ⟨path,Z,kvs,lost,S1,S2,a,b,rfl,l,C,hw,W,X,rfl⟩;have j:=l.few λx hx=>fT (C x hx);have Q:∀n:Nat,n<=100000->n<sizeLine:=λn h=>Ik (by omega) ag;walk_at "dx";rcases JJ path with rfl|⟨P,x,rfl⟩
 ·have e:Z=[]:=sd.mp l.len;subst e;rw[MF (by simp)];walk_at "dx";rw[ME (qC lost)];exact⟨_,rfl,Ie (by decide) ag,λS=>q2 lost (l.lostNo t3 λx hx=>C x (by simpa using hx)) (l.lostOk λx hx=>C x (by simpa using hx)) S⟩
 rw[JK] at l C X j ⊢;obtain⟨V,w,rfl⟩:∃V w,Z=V++[w]:=by
  rcases JJ Z with rfl|⟨V,w,rfl⟩
  ·have:=l.len;simp at this
  ·exact⟨V,w,JK ..⟩
 have a4:IsS s o x:=C x (by simp);have hl:V.length=P.length:=by have:=l.len;simpa using this
 rw[IE,ME (by simp)];cases w with
 | nil =>
  refine⟨V,[],rfl,?_⟩;rw[ME (show(!([]:List (List Int)).isEmpty)=false from rfl)];have gx:(bK kvs (kOf x)).isSome=true:=by
   have:=(l.on x P.length).mpr (by simp);unfold plc at this;cases e:bK kvs (kOf x) with
   | none=>rw[e] at this;cases this
   | some v=>rfl
  refine⟨stS x,by simp,Q _ (by simp at j ⊢;omega),?_⟩;walk_at "dx";refine⟨⟨kvs,rfl⟩,stS x,dj _ _,kvs,rfl,kOf x,rfl,Q _ (by omega),?_⟩;walk_at "dx";refine⟨V,[],rfl,λS'=>?_⟩;walk_at "dx";refine⟨_,f9.lt_lose j,P,by simp,V,rfl,hJ kvs (kOf x) .none,rfl,lost++[x],by simp,l.lose λy=>oz kvs x .none y,λy hy=>C y (by simp at hy ⊢;rcases hy with h|h|h <;> simp[h]),λv T=>hw v (by simp[T]),λp hp=>?_,?_,rfl⟩
  ·rcases qj p hp with e|e
   ·exact .inl e
   ·exact W p e
  ·rw[As gx];simp at X ⊢;omega
 | cons r w =>
  refine⟨V,r::w,rfl,?_⟩;rw[MF (show ¬(!(r::w).isEmpty)=false from by simp)];have I:r∈cy s.length (o.getD x.1 0) x.2:=by obtain⟨fr,pre,a1,a2,_⟩:=l.way P.length x (r::w) (by simp) (by rw[<-hl];simp);exact a1.1 r (by rw[a2];simp)
  have J:=zm t3 a4 I;walk_at "dx";refine⟨stS x,dj _ _,_,rfl,wT (r::w),by rw[IE];exact dj _ _,_,rfl,.list (li r),by simp[atI,ixN],s,o,x.2,r,x.1,rfl,t2,a4.2.1,by omega,?_⟩;walk_at "dx";refine⟨kOf (cb s o x r),rfl,rfl,kvs,rfl,cu (λh=>?_) (λh=>?_)⟩
  ·have D:plc kvs (cb s o x r)=none:=by
    unfold plc;cases e:bK kvs (kOf (cb s o x r)) with
    | none=>rfl
    | some v=>rw[e] at h;cases h
   have n1:cb s o x r ∉ P++[x]:=λz=>by
    obtain⟨i,hi,e⟩:=Il z;have:=(l.on (cb s o x r) i).mpr (by rw[HR hi,e]);rw[D] at this;cases this
   have n2:cb s o x r ∉ lost:=λz=>by
    have:=(l.off (cb s o x r)).mpr z;rw[D] at this;cases this
   have a6:(P++[x]++[cb s o x r]++lost).Nodup:=by have hz:=l.nd;have:(cb s o x r::(P++[x]++lost)).Nodup:=Ir.mpr ⟨λz=>(HX.mp z).elim n1 n2,hz⟩;refine s0 ?_ |>.mp this;rw[Ja (P++[x]) [cb s o x r] lost];exact Mh.symm
   have a0:∀y∈P++[x]++[cb s o x r]++lost,IsS s o y:=λy hy=>by
    simp only[HX,HW] at hy;rcases hy with ((h|h)|h)|h
    ·exact C y (by simp[h])
    ·rw[h];exact a4
    ·rw[h];exact J
    ·exact C y (by simp[h])
   have a5:=cP a6 λy hy=>fT (a0 y hy);refine⟨⟨kvs,rfl⟩,kvs,rfl,kOf (cb s o x r),rfl,rfl,Q _ (by omega),?_⟩;walk_at "dx";refine⟨Q _ (by simp at j ⊢;omega),?_⟩;walk_at "dx";refine⟨⟨_,rfl⟩,s,o,(cb s o x r).2,(cb s o x r).1,rfl,t1,(hh _ J.1).1,(hh _ J.1).2,⟨J.1,J.2.1⟩,?_⟩;have L:=kO s o (cb s o x r);obtain⟨M,O⟩:=iY (o:=o) (x:=cb s o x r) t1 (hh _ J.1).2;obtain⟨fr,U⟩:∃fr,fr=jr s o (cb s o x r):=⟨_,rfl⟩
   rw[show(((cb s o x r).1,(cb s o x r).2):Std)=cb s o x r from rfl,<-U];rw[<-U] at L M O;intro S5;walk_at "dx";refine⟨_,rfl,Q _ (by simp at j ⊢;omega),λS'=>⟨_,f9.lt_go (x:=cb s o x r) (fr:=fr) (by simp at a5 ⊢;omega) (by omega),P++[x]++[cb s o x r],by rw[IE,IE];rfl,V++[r::w]++[fr],by show fI (eP wT (V++[r::w])++[wT fr])=fI (eP wT (V++[r::w]++[fr]));rw[IE (l₁:=V++[r::w]) (l₂:=[fr])];rfl,_,rfl,lost,rfl,l.go D L (λy=>?_),a0,λv T=>?_,λp hp=>?_,?_,rfl⟩⟩
   ·rw[oz];simp[plV]
   ·rcases HX.mp T with h|h
    ·exact hw v h
    ·rw[HW.mp h];exact⟨M,O⟩
   ·rcases qj p hp with e|e
    ·exact .inr ⟨_,e⟩
    ·exact W p e
   ·refine Ie (qk _ _ _) ?_;simp at X ⊢;omega
  ·cases T:bK kvs (kOf (cb s o x r)) with
   | none=>rw[T] at h;exact absurd rfl h
   | some v =>
    refine⟨kvs,rfl,kOf (cb s o x r),rfl,rfl,v,T,?_⟩;rcases W _ (yg T) with e|⟨k,e⟩
    ·simp only at e;subst e;rw[ME (show o5 .none=true from rfl)];refine⟨V,r,w,rfl,λS'=>⟨_,f9.lt_skip,P++[x],by simp,V++[w],rfl,kvs,rfl,lost,rfl,l.skip (by unfold plc;rw[T];rfl),C,λu hu=>?_,W,X,rfl⟩⟩;rcases HX.mp hu with h|h
     ·exact hw u (by simp[h])
     ·rw[HW.mp h];have:=hw (r::w) (by simp);exact⟨by have:=this.1;simp at this;omega,λr' Y=>this.2 r' (by simp[Y])⟩
    ·simp only at e;subst e;rw[MF (show ¬o5 (.int (k:Int))=true fromλz=>ih z)];have hk:(P++[x])[k]? = some (cb s o x r):=(l.on _ k).mp (by unfold plc;rw[T];simp[plV]);have kp:=tP t2 l hk rfl;have hW:∀u∈V++[r::w],u≠[]:=λu hu z=>by
      obtain⟨i,hi,e⟩:=Il hu;have a7:i<(P++[x]).length:=by rw[<-l.len];exact hi
      by_cases b0:i=V.length
      ·subst b0;rw[z] at e;simp at e
      ·have h2:i+1<(P++[x]).length:=by simp at hi ⊢;omega
       obtain⟨q,t,e1,_⟩:=l.lnk i _ _ _ (HR a7) (HR h2) (HR hi);rw[e,z] at e1;cases e1
     refine⟨V++[r::w],rfl,by simp at j ⊢;omega,hW,λS'=>?_⟩;rw[F7];walk_at "dx";refine⟨k,⟨kvs,rfl,kOf (cb s o x r),rfl,rfl,_,T,rfl⟩,λS6=>?_⟩;rw[ME (qC lost),<-Mw,<-Mx];refine⟨_,rfl,Ie (by decide) ag,λS7=>q1 _ _ _ (l.ringGo I hk) kp (by simp at j ⊢;omega) (λr' Y=>?_) S7⟩;rw[ti] at Y;obtain⟨u,hu,rfl⟩:=Ig.mp Y;cases u with
     | nil=>simp
     | cons q t=>exact(hw _ hu).2 q (by simp)
abbrev fN:Stmt:=top 11
theorem si:az ["town"] ["town"] (af fN):=⟨rfl,rfl,rfl,by decide +kernel,rfl,by decide +kernel,by decide +kernel⟩
def nC(s o:List Int)(v:ab):Prop:=∃A B:List (List Int),v=.tuple [.list (lr A),.list (lr B)]/\cX s o (0,s)/\KP s o A B/\A.length+B.length<=(ji s o).length/\∀r∈A++B,r.length<=6
def fK:DSp:=λss R=>∃(s o:List Int),ss=[.fr (.tuple [.list (li s),.list (li o)])]/\TbL s o/\(¬cX s o (0,s)->∀S,R (.tr S .none) [.un])/\∀v,nC s o v->∀S,R (.tr S v) [.un]
theorem sQ(F:Fun K "plan_of" "plan_of" fN f fd):bx K fd ["town"] []:=F.binds (ps:=["town"]) λ_ _ _ _ _ _ us a=>us1 (Q:=λus=>k3 _ ⟨us,[]⟩=pure (fy _ us)) a λ_=>rfl
theorem sA(F:Fun K "plan_of" "plan_of" fN f fd)(B:Bn mg)(a:Cal P w K mg base "looked_through" 9 (spD K tS))(b:Cal P w K mg base "begun" 1 (spD K ka)):cq P w K mg base CX0 10 f fd ["town"] (spD K fK):=by
 refine okD (k:=9) F si (λss R h=>?_) (by decide) (λcdv A outer s H E d=>⟨_,(ak (aX (Dh (K:=K) rfl (aR a (d.mono (by decide)) rfl (aa (qf 0) (aa (aR b (d.mono (by decide)) rfl (aa (qf 0) ac)) ac)))))),λss R h=>?_⟩)
 ·obtain⟨s,o,rfl,_⟩:=h;rfl
 obtain⟨s,o,rfl,t,e,q⟩:=h;walk_at "dd";refine⟨s,o,rfl,?_⟩;walk_at "dd";refine⟨s,o,rfl,t,λA B x c k h1 h2 S=>?_,λlost hn g S=>?_⟩
 ·walk_at "dx"
  exactλS'=>q _ ⟨A,B,rfl,c,k,h1,h2⟩ S'
 ·walk_at "dx"
  exactλS'=>e hn S'
abbrev bX:Stmt:=top 13
theorem cI:az ["town", "found", "ranks", "standing", "ahead"] ["town"] (af bX):=⟨rfl,rfl,rfl,by decide +kernel,rfl,by decide +kernel,by decide +kernel⟩
abbrev Ez(e:Std×Int):ab:=.tuple [.int (e.1.1:Int),.tuple (li e.1.2),.int e.2]
abbrev dS(P:List (Std×Int)):List ab:=P.map Ez
structure Cw(s o:List Int)(lost:List Std)(kvs:List (a8×ab))(rk:List Int)(j:Nat):Prop where
 len:rk.length=j
 kl : kvs.length<=j
 val:∀(i:Nat) x,i<j->lost[i]? = some x->bK kvs (kOf x)=some (.int (rk.getD i 0))/\0<=rk.getD i 0/\rk.getD i 0<=i /\
  ∃fr,ff s o x fr/\∀r∈fr,∃k:Nat,k<i/\lost[k]? = some (cb s o x r)/\rk.getD k 0<rk.getD i 0
def nO:DSp:=λss R=>∃(s o:List Int),ss=[.fr (.tuple [.list (li s),.list (li o)])]/\TbL s o/\(cX s o (0,s)->R (.fr .none) [.un])/\∀P:List (Std×Int),pK s o P->P.length<=(ji s o).length->R (.ow (dS P)) [.un]
theorem Cw.pap(d:rT s o lost)(l:lost.length<100000)(h:Cw s o lost kvs rk lost.length):pK s o (lost.zip rk):=by
 have hz:(lost.zip rk).length=lost.length:=by rw[IR,h.len,G4]
 have get:∀(i:Nat) (hi:i<lost.length),(lost.zip rk)[i]? = some (lost[i],rk.getD i 0):=λi hi=>by
  have b:i<rk.length:=by rw[h.len];exact hi
  rw[HR (by omega),IU,HU,HR b];rfl
 have mem:∀e∈lost.zip rk,∃(i:Nat) (hi:i<lost.length),e=(lost[i],rk.getD i 0):=λe a=>by
  obtain⟨i,hi,rfl⟩:=Il a;refine⟨i,by omega,?_⟩;have:=get i (by omega);rw[HR hi] at this;exact du this
 refine⟨?_,λe a=>?_,λe a=>?_⟩
 ·obtain⟨i,hi,e⟩:=Il d.bg;exact⟨_,IG (get i hi),e⟩
 ·obtain⟨i,hi,rfl⟩:=mem e a;obtain⟨_,a1,a2,_⟩:=h.val i _ hi (HR hi);exact⟨d.is _ (IB hi),a1,by show rk.getD i 0<100000;omega⟩
 ·obtain⟨i,hi,rfl⟩:=mem e a;obtain⟨_,_,_,fr,f,g⟩:=h.val i _ hi (HR hi);refine⟨fr,f,λr b=>?_⟩;obtain⟨k,m,c,j⟩:=g r b;have hk:k<lost.length:=(Ib.mp c).1;refine⟨_,IG (get k hk),?_,j⟩;rw[HR hk] at c;exact du c
theorem Cw.next{s o:List Int}{lost:List Std}{kvs:List (a8×ab)}{rk:List Int}{j:Nat}{x:Std}{fr:List (List Int)}{g:Nat->Nat}{m:Int}(hk:Cw s o lost kvs rk j)(w:rT s o lost)(hj:j<lost.length)(hx:x=lost[j])(h:ff s o x fr)
  (v:∀i,i<fr.length->g i<j/\lost[g i]? = some (cb s o x (fr.getD i []))) (A:wH ((di fr.length).map λi=>rk.getD (g i) 0+1) 0 m):Cw s o lost (hJ kvs (kOf x) (.int m)) (rk++[m]) (j+1):=by
 have b:∀i,i<j->(rk++[m]).getD i 0=rk.getD i 0:=λi hi=>by
  rw[HU,HU,Iu (by rw[hk.len];exact hi)]
 have new:(rk++[m]).getD j 0=m:=by rw[HU,IW (by rw[hk.len];exact Ih _),hk.len,Nat.sub_self];rfl
 have B:∀i,i<fr.length->0<=rk.getD (g i) 0/\rk.getD (g i) 0<j:=λi hi=>by
  obtain⟨d,f⟩:=v i hi;obtain⟨_,a1,a2,_⟩:=hk.val _ _ d f;exact⟨a1,by omega⟩
 have mb:0<=m/\m<=j/\∀i,i<fr.length->rk.getD (g i) 0<m:=by
  rcases A with⟨h1,h2⟩|⟨h1,h2⟩
  ·have e:fr.length=0:=by have:=congrArg mf h1;simpa using this
   exact⟨by omega,by omega,λi hi=>by omega⟩
  ·obtain⟨i,hi,e⟩:=Ig.mp h1;have:=B i (Io.mp hi);refine⟨by omega,by omega,λC a=>?_⟩;have:=h2 _ (Ig.mpr ⟨C,Io.mpr a,rfl⟩);omega
 refine⟨by rw[Ix,hk.len];rfl,Ie (qk _ _ _) (by have:=hk.kl;omega),λi y hi c=>?_⟩;by_cases e:i=j
 ·subst e;rw[HR hj] at c;have c:y=x:=by rw[hx];exact(du c).symm
  subst c;rw[new];refine⟨by rw[fW,ME rfl],mb.1,mb.2.1,fr,h,λr l=>?_⟩;obtain⟨q,n,e⟩:=Il l;have D:fr.getD q []=r:=by rw[HU,HR n,e];rfl
  obtain⟨d,f⟩:=v q n;rw[D] at f;exact⟨g q,d,f,by rw[b _ d];exact mb.2.2 q n⟩
 ·have a:i<j:=by omega
  obtain⟨a1,a2,a3,p,E,F⟩:=hk.val i y a c;rw[b i a];have t:¬kOf y=kOf x:=λz=>by
   have z:=kI z;have u:i<lost.length:=by omega
   have:=(L8 u w.nd).mp (show lost[i]? = lost[j]? by rw[c,HR hj,z,hx]);omega
  refine⟨by rw[fW,MF t];exact a1,a2,a3,p,E,λr l=>?_⟩;obtain⟨k,G,H,I⟩:=F r l;exact⟨k,G,H,by rw[b k (by omega)];exact I⟩
theorem pC(F:Fun K "paper_of" "paper_of" bX f fd):bx K fd ["town"] []:=F.binds (ps:=["town"]) λ_ _ _ _ _ _ us a=>us1 (Q:=λus=>k3 _ ⟨us,[]⟩=pure (fy _ us)) a λ_=>rfl
theorem oH(F:Fun K "paper_of" "paper_of" bX f fd)(B:Bn mg)(c:Cal P w K mg base "looked_through" 9 (spD K tS))(y:Cal P w K mg base "begun" 1 (spD K ka))(l:Cal P w K mg base "full_rows" 7 (spD K tW))(u:Cal P w K mg base "behind" 1 (spD K ii)):cq P w K mg base CX0 10 f fd ["town"] (spD K nO):=by
 refine okD (k:=9) F cI (λss R h=>?_) (by decide) (λcdv A outer s H E C=>⟨_,(ah (aM (i:=1) cI.nd rfl da (qx (aR c (C.mono (by decide)) rfl (aa (qf 0) (aa (aR y (C.mono (by decide)) rfl (aa (qf 0) ac)) ac)))))
   (ah (dR (aC oF DY (bd (ai (K:=K) rfl) mIx (qv 1) aj (λ_ _=>rfl)) oh (aH _)) (ak (aX oh)) aU)
   (ah (aM (i:=2) cI.nd rfl (eb rfl) za)
   (ah (c8 PassesOwn.never rfl (bj (K:=K) rfl (bd (ai (K:=K) rfl) mIx (qv 1) aj (λ_ _=>rfl))) (au (i:=3) cI.nd rfl (eb rfl)) (ah (cO (i:=4)  cI.nd rfl rfl (N':=["row", "town", "standing"]) (ix:=[none,some 0,some 3]) rfl (cU (N:=["town", "found", "ranks", "standing", "ahead"]) (sc0:=af bX) rfl rfl (by decide +kernel)) (bj (K:=K) rfl (qx (aR l (C.mono (by decide)) rfl (aa (qf 0) (aa (qf 3) ac))))) (λ_ _ _ _=>(au (i:=0) (show eT (["row", "town", "standing"]:List bt) by decide +kernel) rfl da)) (λ_ _ _ _=>bR) (λ_ _ _ _=>(aR u (C.mono (by decide)) rfl (aa (qf 1) (aa (qf 2) (aa (qf 0) ac))))))
   (lN 4 (ak (qw 2 (K:=K) rfl (hu2 C) rfl (qf 3) (AH 2 (Df (K:=K) rfl rfl rfl B.max (aa (dZ (N':=["other", "ranks"]) (ix:=[none,some 2]) rfl (cU (N:=["town", "found", "ranks", "standing", "ahead"]) (sc0:=af bX) rfl rfl (by decide +kernel)) (bj (K:=K) rfl (qf 4)) (λ_ _ _ _=>(au (i:=0) (show eT (["other", "ranks"]:List bt) by decide +kernel) rfl da)) (λ_ _ _ _=>bR) (λ_ _ _ _=>(bD bI mI (bd (Cr (K:=K) rfl (hu2 C)) Cp (qv 1) (qv 0) (λ_ _=>rfl)) aj))) ac))))))))
   (ug 2 (ak (aX (dZ (N':=["standing", "ranks"]) (ix:=[none,some 2]) rfl (cU (N:=["town", "found", "ranks", "standing", "ahead"]) (sc0:=af bX) rfl rfl (by decide +kernel)) (bj (K:=K) rfl (bd (ai (K:=K) rfl) mIx (qv 1) aj (λ_ _=>rfl))) (λ_ _ _ _=>(au (i:=0) (show eT (["standing", "ranks"]:List bt) by decide +kernel) rfl da)) (λ_ _ _ _=>bR) (λ_ _ _ _=>(hV (aa (bd (ai (K:=K) rfl) mIx (qv 0) aj (λ_ _=>rfl)) (aa (bd (ai (K:=K) rfl) mIx (qv 0) aj (λ_ _=>rfl)) (aa (bd (Cr (K:=K) rfl (hu2 C)) Cp (qv 1) (qv 0) (λ_ _=>rfl)) ac))))))))))))),λss R h=>?_⟩)
 ·obtain⟨s,o,rfl,_⟩:=h;rfl
 obtain⟨s,o,rfl,t,qn,q⟩:=h;obtain⟨t1,t2,t3,t4,t5,t6⟩:=id t;walk_at "dx";refine⟨s,o,rfl,?_⟩;walk_at "dx";refine⟨s,o,rfl,t,λA B x hc _ _ _ S0=>?_,λlost _ G S0=>?_⟩
 ·walk_at "dx";exact qn hc
 have J:lost.length<100000:=Jf G.few t6;have O:∀d,d<o.length->0<=o.getD d 0/\(s.length<=4\/o.getD d 0<=3):=λd hd=>⟨t4 _ (aK hd),t5.imp id λh=>h _ (aK hd)⟩
 have T:∀n:Nat,n<=100000->n<sizeLine:=λn h=>Ik (by omega) ag;walk_at "dx";intro S;walk_at "dx";refine aT (λj env=>∃(kvs:List (a8×ab)) (rk:List Int) (a b:Sl),env=[.fr (.tuple [.list (li s),.list (li o)]),.fr (.tuple [.none,.list (lost.map stS)]),.tr S (fb kvs),a,b]/\Cw s o lost kvs rk j) ⟨[],[],_,_,rfl,⟨rfl,Ih _,λi x hi=>absurd hi (JM _)⟩⟩ ?_ ?_
 ·rintro j env hj ⟨kvs,rk,a,b,rfl,hk⟩;rw[HS] at hj;rw[IZ];have p:=G.is _ (IB hj);obtain⟨a0,Z,f2⟩:=G.down j _ (HR hj);obtain⟨x,hx⟩:∃x,x=lost[j]:=⟨_,rfl⟩
  rw[<-hx] at p Z f2 ⊢;walk_at "dx";have D:=kO s o x;obtain⟨U,V⟩:=iY (o:=o) (x:=x) t1 (O _ p.1).2;obtain⟨fr,L⟩:∃fr,fr=jr s o x:=⟨_,rfl⟩
  refine⟨s,o,x.2,x.1,rfl,t1,(O _ p.1).1,(O _ p.1).2,⟨p.1,p.2.1⟩,λS5=>?_⟩;rw[show((x.1,x.2):Std)=x from rfl,<-L];rw[<-L] at D U V;walk_at "dx";refine dh (λi=>stS (cb s o x (fr.getD i []))) (by rw[HS];omega) (λi hi Q I=>?_) ?_
  ·rw[fj];walk_at "dx";refine⟨s,o,x.2,fr.getD i [],x.1,rfl,t2,p.2.1,by omega,?_⟩;walk_at "dx";exact I
  rw[show(lr fr).length=fr.length from HS ..];have W:∀i,i<fr.length->∃k:Nat,k<j/\lost[k]? = some (cb s o x (fr.getD i [])):=λi hi=>by
   have X:fr.getD i []∈fr:=by rw[HU,HR hi];exact IB hi
   exact f2 _ (D.same Z X)
  obtain⟨g,hg⟩:=Classical.axiomOfChoice (r:=λ(i:Nat) (k:Nat)=>i<fr.length->k<j/\lost[k]? = some (cb s o x (fr.getD i []))) λi=>by
   by_cases hi:i<fr.length
   ·obtain⟨k,h1,h2⟩:=W i hi;exact⟨k,λ_=>⟨h1,h2⟩⟩
   ·exact⟨0,λz=>absurd z hi⟩
  walk_at "dx";refine dh (λi=>.int (rk.getD (g i) 0+1)) (by rw[HS,IC];omega) (λi hi Q I=>?_) ?_
  ·rw[HS,IC] at hi;rw[IZ,L1];obtain⟨g1,g2⟩:=hg i hi;have v:=(hk.val _ _ g1 g2).1;walk_at "dx";exact⟨kvs,rfl,kOf (cb s o x (fr.getD i [])),rfl,rfl,_,v,_,rfl,I⟩
  rw[HS,IC,show(di fr.length).map (λi=>eC (rk.getD (g i) 0+1))=li ((di fr.length).map λi=>rk.getD (g i) 0+1) by
   show _=eP _ (eP _ _);rw[IK];rfl]
  walk_at "dx";intro m X;refine⟨⟨kvs,rfl⟩,kvs,rfl,kOf x,rfl,rfl,T _ (by have:=hk.kl;omega),hJ kvs (kOf x) (.int m),rfl,rk++[m],?_⟩;exact hk.next G hj hx D hg X
 ·rintro env ⟨kvs,rk,a,b,rfl,hk⟩;rw[HS] at hk;walk_at "dx";have vi:∀i (hi:i<lost.length),bK kvs (kOf lost[i])=some (.int (rk.getD i 0)):=λi hi=>(hk.val i _ hi (HR hi)).1;refine dh (λi=>Ez (lost.getD i (0,[]),rk.getD i 0)) (by rw[HS];omega) (λi hi Q I=>?_) ?_
  ·rw[HS] at hi;rw[IZ];have e:lost.getD i (0,[])=lost[i]:=by rw[HU,HR hi];rfl
   rw[e] at I;walk_at "dx";exact⟨kvs,rfl,kOf lost[i],rfl,rfl,_,vi i hi,Ie (by decide) ag,I⟩
  rw[show(di (lost.map stS).length).map (λi=>Ez (lost.getD i (0,[]),rk.getD i 0))=dS (lost.zip rk) by
   apply JB
   ·simp[hk.len]
   ·intro i h1 h2;have M:i<lost.length:=by simpa using h1
    have Y:i<rk.length:=by rw[hk.len];exact M
    simp[HU,M,Y]]
  walk_at "dx";exact q _ (hk.pap G J) (by rw[IR,hk.len,G4];exact G.few)
def mnd:List Int->Nat->List (List Int)
 | [],_=>[]
 | [x],n=>[[x+(n:Int)]]
 | x::y::r,n=>(di (n+1)).flatMap λk=>(mnd (y::r) (n - k)).map ((x+(k:Int))::·)
theorem gu(x:Int)(n:Nat):mnd [x] n=[[x+(n:Int)]]:=by unfold mnd;rfl
theorem iS(x y:Int)(r:List Int)(n:Nat):mnd (x::y::r) n=(di (n+1)).flatMap λk=>(mnd (y::r) (n - k)).map ((x+(k:Int))::·):=by rw[mnd]
theorem jL:∀(s:List Int) (n:Nat) (t:List Int),t∈mnd s n->t.length=s.length/\∀c,c<s.length->s.getD c 0<=t.getD c 0/\t.getD c 0<=s.getD c 0+(n:Int)
 | [],n,t,h=>by
  unfold mnd at h;cases h
 | [x],n,t,h=>by
  rw[gu,HW] at h;subst h;refine⟨rfl,λc hc=>?_⟩;have:c=0:=by simpa using hc
  subst this;show x<=x+(n:Int)/\x+(n:Int)<=x+(n:Int)
  omega
 | x :: y::r,n,t,h=>by
  rw[iS,sb] at h;obtain⟨k,hk,h⟩:=h;obtain⟨u,a,rfl⟩:=Ig.mp h;have hk:=Io.mp hk;obtain⟨e1,e2⟩:=jL (y::r) (n - k) u a;refine⟨by rw[IL,e1];rfl,λc hc=>?_⟩;cases c with
  | zero =>
   show x<=x+(k:Int)/\x+(k:Int)<=x+(n:Int)
   omega
  | succ c =>
   have:=e2 c (by simpa using hc);show(y::r).getD c 0<=u.getD c 0/\u.getD c 0<=(y::r).getD c 0+(n:Int)
   omega
theorem tL:∀{s t:List Int},t.length=s.length->(∀c,c<s.length->s.getD c 0<=t.getD c 0)->s.sum<=t.sum
 | [],[],_,_=>Jb _
 | [],_::_,h,_=>by simp at h
 | _::_,[],h,_=>by simp at h
 | x::s,y::t,h,hc=>by
  have b:x<=y:=hc 0 (by simp);have:=tL (s:=s) (t:=t) (by simpa using h) λc a=>hc (c+1) (by simpa using a);rw[IV,IV];omega
theorem uY:∀(s:List Int) (n:Nat) (t:List Int),s≠[]->t.length=s.length->(∀c,c<s.length->s.getD c 0<=t.getD c 0)->t.sum=s.sum+(n:Int)->t∈mnd s n
 | [],_,_,h,_,_,_=>absurd rfl h
 | [x],n,t,_,b,hc,f=>by
  obtain⟨y,rfl⟩:∃y,t=[y]:=by
   cases t with
   | nil=>simp at b
   | cons y t =>
    cases t with
    | nil=>exact⟨y,rfl⟩
    | cons z t=>simp at b
  rw[gu,HW];simp at f;rw[f]
 | x :: y::r,n,t,_,b,hc,f=>by
  cases t with
  | nil=>simp at b
  | cons a t =>
   have g:x<=a:=hc 0 (by simp);have d:t.length=(y::r).length:=by simpa using b
   have e:∀c,c<(y::r).length->(y::r).getD c 0<=t.getD c 0:=λc h=>hc (c+1) (by simpa using h);have i:=tL d e;rw[IV,IV (a:=x)] at f;rw[iS,sb];refine⟨(a - x).toNat,Io.mpr (by omega),Ig.mpr ⟨t,uY (y::r) (n - (a - x).toNat) t (by simp) d e (by omega),?_⟩⟩;rw[show x+((a - x).toNat:Int)=a by omega]
theorem jB{l:List Nat}(h:∀x∈l,x<=b):l.sum<=l.length*b:=by
 induction l with
 | nil=>simp
 | cons x l a =>
  have h1:=h x (by simp);have h2:=a λy c=>h y (by simp[c]);rw[IV,IL,Nat.add_mul,LN];omega
theorem fC:∀(s:List Int) (n:Nat),(mnd s n).length<=(n+1) ^ s.length
 | [],n=>by
  unfold mnd;exact Iz _
 | [x],n=>by
  rw[gu];show 1<=(n+1) ^ 1;rw[Nat.pow_one];omega
 | x :: y::r,n=>by
  rw[iS,LQ];have h:∀v∈(di (n+1)).map (λk=>((mnd (y::r) (n - k)).map ((x+(k:Int))::·)).length),v<=(n+1) ^ (y::r).length:=λv a=>by
   obtain⟨k,hk,rfl⟩:=Ig.mp a;rw[HS];exact Ie (fC (y::r) (n - k)) (LX (by omega) _)
  have:=jB h;rw[HS,IC] at this;refine Ie this ?_;rw[show(x::y::r).length=(y::r).length+1 from rfl,LA,Nat.mul_comm];exact Ih _
theorem Cu(a:m<=3)(hn:n<=4):(n+1) ^ m<=125:=by have h1:(n+1) ^ m<=5 ^ m:=LX (by omega) _;have h2:5 ^ m<=5 ^ 3:=JQ (by decide) a;omega
theorem KP.can(k:KP s o A B):cX s o (0,s):=by have a:=Ad k;refine⟨λx=>∃i,x=(i % o.length,lfF s (rwF A B) i),⟨0,by rw[Nat.zero_mod];rfl⟩,?_⟩;rintro y ⟨i,rfl⟩;have b:=a i;unfold sC at b;have c:rwF A B i∈cy s.length (o.getD (i % o.length) 0) (lfF s (rwF A B) i):=(vy (gw i)).mpr b;refine⟨cb s o (i % o.length,lfF s (rwF A B) i) (rwF A B i),Ig.mpr ⟨_,c,rfl⟩,i+1,?_⟩;show((i % o.length+1) % o.length,_)=_;rw[Lj];rfl
theorem xx{s:List Int}{b:Nat}(h:∀x∈s,1<=x/\x<=(b:Int)):jl s<=b ^ s.length:=by
 induction s with
 | nil=>exact Ih _
 | cons x s a =>
  have h1:=h x (by simp);have h2:=a λy c=>h y (by simp[c]);show x.toNat*jl s<=b ^ (s.length+1);rw[LA,Nat.mul_comm];exact Ln h2 (by omega)
theorem CK(h1:1<=s.length)(h2:s.length<=3)(a:∀x∈s,1<=x/\x<=13)(c:1<=o.length)(d:o.length<=3)(ho:∀x∈o,0<=x):TbL s o:=by refine⟨by omega,c,λx hx=>(a x hx).1,ho,.inl (by omega),?_⟩;rw[rR];have p:=xx (b:=13) a;have p2:13 ^ s.length<=13 ^ 3:=JQ (by decide) h2;have:o.length*jl s<=3*13 ^ 3:=Ln d (Ie p p2);omega
theorem uW(h1:1<=s.length)(h2:s.length<=3)(a:∀x∈s,1<=x/\x<=9)(hn:n<=4)(b:1<=o.length)(d:o.length<=3)(ho:∀x∈o,0<=x)(e:t∈mnd s n):TbL t o:=by obtain⟨e1,e2⟩:=jL s n t e;refine CK (by omega) (by omega) (λx hx=>?_) b d ho;obtain⟨c,hc,rfl⟩:=Il hx;have:=e2 c (by omega);have f:=a _ (aK (l:=s) (k:=c) (by omega));rw[show t.getD c 0=t[c] by rw[HU,HR hc];rfl] at this;omega
theorem mW(x:Int)(r:List Int):pq (li (x::r)) (some 1) none=li r:=by unfold pq;rw[show(some (1:Int))=some ((1:Nat):Int) from rfl,HT.sIx_nat,HT.sIx_none,HS,IL,JT (by omega)];show(List.drop 1 (eC x::eP _ r)).take _=_;rw[List.drop_succ_cons,v2,Jg (by rw[HS];omega)]
def wL(x:Int)(r:List Int)(n k:Nat):List (List Int):=(di k).flatMap λj=>(mnd r (n - j)).map ((x+(j:Int))::·)
theorem l4(x:Int)(r:List Int)(n k:Nat):wL x r n (k+1)=wL x r n k++(mnd r (n - k)).map ((x+(k:Int))::·):=by unfold wL;rw[Jo,LR,L9,List.flatMap_nil,IM]
theorem qF(x y:Int)(r:List Int)(n:Nat):wL x (y::r) n (n+1)=mnd (x::y::r) n:=(iS x y r n).symm
theorem qE(x:Int)(b:r.length<=2)(hn:n<=4)(hk:k<=5):(wL x r n k).length<=1000:=by
 unfold wL;rw[LQ];have h:∀v∈(di k).map (λj=>((mnd r (n - j)).map ((x+(j:Int))::·)).length),v<=125:=λv a=>by
  obtain⟨j,_,rfl⟩:=Ig.mp a;rw[HS];exact Ie (fC r (n - j)) (Cu (by omega) (by omega))
 have:=jB h;rw[HS,IC] at this;have:=v3 125 hk;omega
abbrev bY:Stmt:=top 20
theorem fu:az ["spans", "size", "found", "more"] ["spans", "size"] (af bY):=⟨rfl,rfl,rfl,by decide +kernel,rfl,by decide +kernel,by decide +kernel⟩
def gh(n:Nat):DSp:=λss R=>∃(s:List Int) (m:Nat),ss=[.fr (.list (li s)),.fr (.int m)]/\1<=s.length/\s.length<=n+1/\s.length<=3/\m<=4/\∀S,R (.tr S (.list (lr (mnd s m)))) [.un,.un]
theorem fG(F:Fun K "mends_of" "mends_of" bY f fd):bx K fd ["spans", "size"] []:=F.binds (ps:=["spans", "size"]) λ_ _ _ _ _ _ us a=>us2 (Q:=λus=>k3 _ ⟨us,[]⟩=pure (fy _ us)) a λ_ _=>rfl
theorem jM(F:Fun K "mends_of" "mends_of" bY f fd)(B:Bn mg)(n:Nat)(sp:DSp)(b:Cal P w K mg base "mends_of" n (spD K sp))(e:∀m,n=m+1->sp=gh m):cq P w K mg base CX0 (n+1) f fd ["spans", "size"] (spD K (gh n)):=by
 refine okD (k:=n) F fu (λss R h=>?_) (by decide) (λcdv A outer s H E v=>⟨_,(ah (dR (aC km xQ (dG (fq (K:=K) rfl) fi rfl B.len dt (aa (qv 0) ac)) aj (aH _)) (ak (aX (lQ (aa (cw (aa (bD bI mI (bd (ai (K:=K) rfl) mIx (qv 0) aj (λ_ _=>rfl)) (qv 1)) ac)) ac)))) aU)
   (ah (aM (i:=2) fu.nd rfl da (lQ ac))
   (ah (c8 PassesOwn.never rfl (bF rfl B.range (aa (bD bI mI (qv 1) aj) ac)) (au (i:=3) fu.nd rfl (eb rfl)) (ak (dQ (Dj 2 (K:=K) rfl rfl (aa (AI (N':=["rest", "spans", "more"]) (ix:=[none,some 0,some 3]) rfl (cU (N:=["spans", "size", "found", "more"]) (sc0:=af bY) rfl rfl (by decide +kernel)) (bj (K:=K) rfl (qx (aR b (v.mono (Ih _)) rfl (aa (AC (K:=K) rfl (qv 0) (gj aj) gl) (aa (bD d4 mI (qv 1) (qv 3)) ac))))) (λ_ _ _ _=>(au (i:=0) (show eT (["rest", "spans", "more"]:List bt) by decide +kernel) rfl da)) (λ_ _ _ _=>bR) (λ_ _ _ _=>(lP (dH (K:=K) rfl) zq (cw (aa (bD bI mI (bd (ai (K:=K) rfl) mIx (qv 1) aj (λ_ _=>rfl)) (qv 2)) ac)) (qv 0)))) ac)))))
   (ak (aX (h8 2)))))),λss R h=>?_⟩)
 ·obtain⟨s,m,rfl,_⟩:=h;rfl
 obtain⟨s,m,rfl,h1,h2,d,z,q⟩:=h;have hx:atI (li s) 0=some (.int (s.getD 0 0)):=bV (ns:=s) (k:=0) (by omega);walk_at "dx";rw[HS];refine cu (λg=>?_) (λg=>?_)
 ·obtain⟨x,rfl⟩:∃x,s=[x]:=by
   cases s with
   | nil=>simp at h1
   | cons x r =>
    cases r with
    | nil=>exact⟨x,rfl⟩
    | cons y r=>simp at g;omega
  refine⟨_,hx,?_⟩;walk_at "dx";rw[gu] at q;exact⟨Ie (by decide) ag,Ie (by decide) ag,q⟩
 obtain⟨x,y,r,rfl⟩:∃x y r,s=x::y::r:=by
  cases s with
  | nil=>simp at h1
  | cons x r =>
   cases r with
   | nil=>simp at g
   | cons y r=>exact⟨x,y,r,rfl⟩
 have hx:atI (li (x::y::r)) 0=some (.int x):=hx;have u:=mW x (y::r);obtain⟨S,C⟩:∃S,S=li (x::y::r):=⟨_,rfl⟩
 rw[<-C] at hx u ⊢;walk_at "dx";refine⟨Iz _,λD=>?_⟩;walk_at "dx";refine⟨by omega,by omega,aT (λi env=>∃(o:List al) (a:Sl),env=[.fr (.list S),.fr (.int m),.tr o (.list (lr (wL x (y::r) m i))),a]) ⟨D,_,rfl⟩ ?_ ?_⟩
 ·rintro i env hi ⟨o,a,rfl⟩;rw[ao] at hi;rw[aL];walk_at "dx";obtain⟨p,rfl⟩:∃p,n=p+1:=⟨n - 1,by simp at h2;omega⟩
  obtain rfl:=e p rfl;have G:i<=m:=by omega
  have J:(mnd (y::r) (m - i)).length<=125:=Ie (fC _ _) (Cu (by simpa using Mf d) (by omega));have L:=qE x (r:=y::r) (n:=m) (k:=i) (by simpa using d) z (by omega);rw[u,show((m:Int) - (i:Int))=((m - i:Nat):Int) by omega];refine⟨y::r,m - i,rfl,by simp,by simpa using h2,by simp at d ⊢;omega,by omega,?_⟩;have c:∀t∈mnd (y::r) (m - i),t.length<=3:=λt h=>by
   have:=(jL _ _ _ h).1;simp at this d;omega
  rw[l4];generalize mnd (y::r) (m - i)=mm at *;generalize wL x (y::r) m i=uu at *;walk_at "dx";intro M;refine Cc (λj=>.list (li ((x+(i:Int))::mm.getD j []))) (by rw[HS];omega) (λj hj Q I=>?_) ?_
  ·rw[HS] at hj;rw[fj];have O:=c _ (cp (l:=mm) hj);walk_at "dx";refine⟨_,hx,?_⟩;walk_at "dx";exact⟨Ie (by decide) ag,by rw[HS];exact Ie (by omega) ag,I⟩
  ·intro T;rw[HS,jG mm [] (λt=>fI (li ((x+(i:Int))::t)))];walk_at "dx";refine⟨?_,?_⟩
   ·rw[HS,HS];exact Ie (by omega) ag
   ·intro _;show _=eP _ (uu++_);rw[IE,IK];rfl
 ·rintro env ⟨o,a,rfl⟩;rw[ao];walk_at "dx";rw[show((m:Int)+1).toNat=m+1 by omega,qF];exact q _
theorem l5(F:Fun K "mends_of" "mends_of" bY f fd)(B:Bn mg)(m:mg "mends_of" = some (.ref f)):∀n,cq P w K mg base CX0 (n+1) f fd ["spans", "size"] (spD K (gh n))
 | 0=>jM F B 0 _ (Hf F m (fG F)) λ_ z=>(nomatch z)
 | n+1=>jM F B (n+1) (gh n) (EO F m (fG F) (l5 F B m n)) λ_ z=>by cases z;rfl
theorem oI(F:Fun K "mends_of" "mends_of" bY f fd)(B:Bn mg)(m:mg "mends_of" = some (.ref f)):cq P w K mg base CX0 3 f fd ["spans", "size"] (spD K (gh 2)):=l5 F B m 2
theorem uX:∀(s:List Int) (n:Nat) (t:List Int),t∈mnd s n->t.sum=s.sum+(n:Int)
 | [],n,t,h=>by
  unfold mnd at h;cases h
 | [x],n,t,h=>by
  rw[gu,HW] at h;subst h;simp
 | x::y::r,n,t,h=>by
  rw[iS,sb] at h;obtain⟨k,hk,h⟩:=h;obtain⟨u,b,rfl⟩:=Ig.mp h;have hk:=Io.mp hk;have:=uX (y::r) (n - k) u b;rw[IV,this,IV (a:=x)];omega
theorem uV(A:List (List Int)):jK (lr A)=true:=by
 induction A with
 | nil=>rfl
 | cons r A a =>
  show(jK (li r)&&jK (lr A))=true;rw[a,fS];rfl
theorem nC.noF(h:nC s o v):noF v=true:=by obtain⟨A,B,rfl,_⟩:=h;show(jK (lr A)&&(jK (lr B)&&true))=true;rw[uV,uV];rfl
abbrev c5:Stmt:=top 21
theorem dy:az ["mends", "hands", "spans", "plan"] ["mends", "hands"] (af c5):=⟨rfl,rfl,rfl,by decide +kernel,rfl,by decide +kernel,by decide +kernel⟩
def Hg(t o:List Int):Prop:=¬cX t o (0,t)
theorem ll(F:Fun K "first_kept" "first_kept" c5 f fd):bx K fd ["mends", "hands"] []:=F.binds (ps:=["mends", "hands"]) λ_ _ _ _ _ _ us a=>us2 (Q:=λus=>k3 _ ⟨us,[]⟩=pure (fy _ us)) a λ_ _=>rfl
theorem kt(F:Fun K "first_kept" "first_kept" c5 f fd)(B:Bn mg)(b:Cal P w K mg base "plan_of" 10 (spD K fK)):cq P w K mg base CX0 11 f fd ["mends", "hands"] (E3 K TbL Hg nC):=by
 refine F.ok (k:=10) dy (λvs H Q E h=>?_) λcdv A outer s H vs Q E d h=>⟨tFK K fK,c7 (uv PassesOwn.never rfl (iN (aG (i:=0) rfl da)) (c9 (i:=2) dy.nd rfl da) (c7 (zi (i:=3) dy.nd rfl da (lS b (d.mono (by decide)) rfl (aA (fh (aA (aG (i:=2) rfl da) (aA (aG (i:=1) rfl da) bA))) bA))) (iJ (Dv (uq oF (aG (i:=3) rfl da) uC rfl) (iJ (ut (fh (aA (aG (i:=2) rfl da) (aA (aG (i:=3) rfl da) bA))))) ur)))) (iJ (ut uC)),?_⟩
 ·obtain⟨_,a,us,rows,bs,c,o,rfl,_⟩:=h;rfl
 ·have e:=En (sp:=fK) (λt o R g j l=>⟨t,o,rfl,g,j,λv c S=>l S v c c.noF (by obtain⟨_,_,rfl,_⟩:=c;exactλz=>by cases z)⟩) h;obtain⟨_,a,us,rows,bs,c,o,rfl,_⟩:=h;exact e
abbrev bN:Stmt:=top 29
theorem cC:az ["_law_spans", "_law_many", "_law_found", "_law_more", "_law_others"] ["_law_spans", "_law_many"] (af bN):=⟨rfl,rfl,rfl,by decide +kernel,rfl,by decide +kernel,by decide +kernel⟩
def cY(n:Nat):DSp:=λss R=>∃(s:List Int) (m:Nat),ss=[.fr (.list (li s)),.fr (.int m)]/\1<=s.length/\s.length<=n+1/\s.length<=3/\m<=4/\R (.ow (lr (mnd s m))) [.un,.un]
theorem dM(F:Fun K "_law_mends" "_law_mends" bN f fd):bx K fd ["_law_spans", "_law_many"] []:=F.binds (ps:=["_law_spans", "_law_many"]) λ_ _ _ _ _ _ us a=>us2 (Q:=λus=>k3 _ ⟨us,[]⟩=pure (fy _ us)) a λ_ _=>rfl
theorem iU(F:Fun K "_law_mends" "_law_mends" bN f fd)(B:Bn mg)(n:Nat)(sp:DSp)(d:Cal P w K mg base "_law_mends" n (spD K sp))(o:∀m,n=m+1->sp=cY m):cq P w K mg base CX0 (n+1) f fd ["_law_spans", "_law_many"] (spD K (cY n)):=by
 refine okD (k:=n) F cC (λss R h=>?_) (by decide) (λcdv A outer s H E z=>⟨_,(ah (dR (aC km xQ (dG (fq (K:=K) rfl) fi rfl B.len dt (aa (qv 0) ac)) aj (aH _)) (ak (aX (cw (aa (cw (aa (bD bI mI (bd (ai (K:=K) rfl) mIx (qv 0) aj (λ_ _=>rfl)) (qv 1)) ac)) ac)))) aU)
   (ah (aM (i:=2) cC.nd rfl da (cw ac))
   (ah (c8 PassesOwn.never rfl (bF rfl B.range (aa (bD bI mI (qv 1) aj) ac)) (au (i:=3) cC.nd rfl da) (ak (c8 PassesOwn.never rfl (bj (K:=K) rfl (aR d (z.mono (Ih _)) rfl (aa (AC (K:=K) rfl (qv 0) (gj aj) gl) (aa (bD d4 mI (qv 1) (qv 3)) ac)))) (au (i:=4) cC.nd rfl da) (ak (dQ (om 2 (K:=K) rfl rfl (lP (dH (K:=K) rfl) zq (cw (aa (bD bI mI (bd (ai (K:=K) rfl) mIx (qv 0) aj (λ_ _=>rfl)) (qv 3)) ac)) (qv 4))))))))
   (ak (aX (qv 2)))))),λss R h=>?_⟩)
 ·obtain⟨s,m,rfl,_⟩:=h;rfl
 obtain⟨s,m,rfl,h1,h2,g,C,q⟩:=h;have hx:atI (li s) 0=some (.int (s.getD 0 0)):=bV (ns:=s) (k:=0) (by omega);walk_at "dx";rw[HS];refine cu (λp=>?_) (λp=>?_)
 ·obtain⟨x,rfl⟩:∃x,s=[x]:=by
   cases s with
   | nil=>simp at h1
   | cons x r =>
    cases r with
    | nil=>exact⟨x,rfl⟩
    | cons y r=>simp at p;omega
  refine⟨_,hx,?_⟩;walk_at "dx";rw[gu] at q;exact⟨Ie (by decide) ag,Ie (by decide) ag,q⟩
 obtain⟨x,y,r,rfl⟩:∃x y r,s=x::y::r:=by
  cases s with
  | nil=>simp at h1
  | cons x r =>
   cases r with
   | nil=>simp at p
   | cons y r=>exact⟨x,y,r,rfl⟩
 have hx:atI (li (x::y::r)) 0=some (.int x):=hx;have v:=mW x (y::r);obtain⟨S,D⟩:∃S,S=li (x::y::r):=⟨_,rfl⟩
 rw[<-D] at hx v ⊢;walk_at "dx";refine⟨Iz _,?_⟩;walk_at "dx";refine⟨by omega,by omega,aT (λi env=>∃a b:Sl,env=[.fr (.list S),.fr (.int m),.ow (lr (wL x (y::r) m i)),a,b]) ⟨_,_,rfl⟩ ?_ ?_⟩
 ·rintro i env hi ⟨a,b,rfl⟩;rw[ao] at hi;rw[aL];walk_at "dx";obtain⟨u,rfl⟩:∃u,n=u+1:=⟨n - 1,by simp at h2;omega⟩
  obtain rfl:=o u rfl;have G:i<=m:=by omega
  have L:(mnd (y::r) (m - i)).length<=125:=Ie (fC _ _) (Cu (by simpa using Mf g) (by omega));have M:=qE x (r:=y::r) (n:=m) (k:=i) (by simpa using g) C (by omega);rw[v,show((m:Int) - (i:Int))=((m - i:Nat):Int) by omega];refine⟨y::r,m - i,rfl,by simp,by simpa using h2,by simp at g ⊢;omega,by omega,?_⟩;have e:∀t∈mnd (y::r) (m - i),t.length<=3:=λt h=>by
   have:=(jL _ _ _ h).1;simp at this g;omega
  rw[l4];generalize mnd (y::r) (m - i)=mm at *;generalize wL x (y::r) m i=uu at *;walk_at "dx";refine aT (λj env=>∃c:Sl,env=[.fr (.list S),.fr (.int m),.ow (lr (uu++(mm.take j).map ((x+(i:Int))::·))),.fr (.int i),c]) ⟨b,by simp⟩ ?_ ?_
  ·rintro j env hj ⟨c,rfl⟩;rw[HS] at hj;rw[fj];have N:=e _ (cp (l:=mm) hj);have I:mm.take (j+1)=mm.take j++[mm.getD j []]:=by
    rw[JC,HR hj,HU,HR hj];rfl
   have J:(mm.take j).length<=125:=by rw[IY];omega
   rw[I];generalize mm.getD j []=t at *;generalize mm.take j=mj at *;walk_at "dx";refine⟨_,hx,?_⟩;walk_at "dx";refine⟨Ie (by decide) ag,by rw[HS];exact Ie (by omega) ag,?_,?_⟩
   ·rw[HS,Ix,HS];exact Ik (by omega) ag
   ·show eP _ _++[_]=eP _ _;simp
  ·rintro env ⟨c,rfl⟩;rw[HS,sa];walk_at "dx"
 ·rintro env ⟨a,b,rfl⟩;rw[ao];walk_at "dx";rw[show((m:Int)+1).toNat=m+1 by omega,qF];exact q
theorem jO(F:Fun K "_law_mends" "_law_mends" bN f fd)(B:Bn mg)(m:mg "_law_mends" = some (.ref f)):∀n,cq P w K mg base CX0 (n+1) f fd ["_law_spans", "_law_many"] (spD K (cY n))
 | 0=>iU F B 0 _ (Hf F m (dM F)) λ_ z=>(nomatch z)
 | n+1=>iU F B (n+1) (cY n) (EO F m (dM F) (jO F B m n)) λ_ z=>by cases z;rfl
theorem ku(F:Fun K "_law_mends" "_law_mends" bN f fd)(B:Bn mg)(m:mg "_law_mends" = some (.ref f)):cq P w K mg base CX0 3 f fd ["_law_spans", "_law_many"] (spD K (cY 2)):=jO F B m 2
def jX(l:List Int)(c:Nat):List Int:=l.take c++(l.getD c 0 - 1)::l.drop (c+1)
def nwL(l:List Int):List (List Int):=((di l.length).filter λc=>decide (1<l.getD c 0)).map (jX l)
theorem iq(h:c<l.length):(jX l c).length=l.length:=by unfold jX;rw[Ix,IL,IY,JF];omega
theorem kX(h:c<l.length)(k:Nat):(jX l c).getD k 0=if k=c then l.getD c 0 - 1 else l.getD k 0:=by
 unfold jX;have a:(l.take c).length=c:=by rw[IY];omega
 by_cases h1:k<c
 ·rw[MF (by omega),HU,Iu (by omega),A2,ME h1,<-HU]
 ·rw[HU,IW (by omega),a];by_cases h2:k=c
  ·rw[ME h2,h2,Nat.sub_self];rfl
  ·rw[MF h2,show k - c=(k - c - 1)+1 by omega,List.getElem?_cons_succ,L2,show c+1+(k - c - 1)=k by omega,<-HU]
theorem yw(h:c<l.length):(jX l c).sum=l.sum - 1:=by
 have e:l=l.take c++l.getD c 0::l.drop (c+1):=by rw[HU,HR h];show l=l.take c++l[c]::l.drop (c+1);rw[<-Jl h,ti]
 have e2:=congrArg List.sum e;unfold jX;rw[JS,IV] at e2 ⊢;omega
theorem yO:∀{a b:List Int},a.length=b.length->(∀c,c<b.length->a.getD c 0<=b.getD c 0)->a.sum<=b.sum
 | [],[],_,_=>Jb _
 | x::a,y::b,e,h=>by
  have d:=h 0 (by simp);have f:=yO (a:=a) (b:=b) (by simpa using e) λc hc=>by simpa using h (c+1) (by simpa using hc)
  have d:x<=y:=by simpa using d
  rw[IV,IV];omega
theorem uZ:l'∈nwL l↔∃c,c<l.length/\1<l.getD c 0/\l'=jX l c:=by
 unfold nwL;rw[Ig];constructor
 ·rintro⟨c,hc,rfl⟩;obtain⟨h1,h2⟩:=Iw.mp hc;exact⟨c,Io.mp h1,of_decide_eq_true h2,rfl⟩
 ·rintro⟨c,h1,h2,rfl⟩;exact⟨c,Iw.mpr ⟨Io.mpr h1,decide_eq_true h2⟩,rfl⟩
theorem A5(l:List Int):(nwL l).length<=l.length:=by unfold nwL;rw[HS];exact Ie (IN _ _) (by rw[IC];exact Ih _)
theorem DX(h:noB s o x y)(a:l'∈nwL y.2):noB s o x (y.1,l'):=by
 obtain⟨c,h1,h2,rfl⟩:=uZ.mp a;obtain⟨i1,i2,b,d⟩:=h;have hc:c<s.length:=by rw[<-i1.2.1];exact h1
 refine⟨⟨i1.1,by rw[iq h1];exact i1.2.1,λk hk=>?_⟩,i2,b,λk hk=>?_⟩
 ·show 1<=(jX y.2 c).getD k 0/\_;have:=i1.2.2 k hk;rw[kX h1];split
  ·rename_i e;subst e;omega
  ·exact this
 ·show(jX y.2 c).getD k 0<=_;have:=d k hk;rw[kX h1];split
  ·rename_i e;subst e;omega
  ·exact this
theorem EN{s o:List Int}{g:Std->Option Int}(cl:∀z v,g z=some v->∀l'∈nwL z.2,∃v',g (z.1,l')=some v'/\v'<=v):∀(n:Nat) (x z:Std) (v:Int),x.2.sum - z.2.sum<=n->noB s o x z->g x=some v->∃v',g z=some v'/\v'<=v
 | n, x,z,v,hn,p,l=>by
  obtain⟨i1,i2,i,m⟩:=id p;have f:z.2.length=x.2.length:=by rw[i1.2.1,i]
  by_cases h:∃c,c<s.length/\z.2.getD c 0<x.2.getD c 0
  ·obtain⟨c,hc,r⟩:=h;have d:c<x.2.length:=by rw[i];exact hc
   have A:=(i1.2.2 c hc).1;obtain⟨t,u,l1⟩:=cl x v l (jX x.2 c) (uZ.mpr ⟨c,d,by omega,rfl⟩);have j:noB s o (x.1,jX x.2 c) z:=by
    refine⟨i1,i2,by rw[iq d];exact i,λk hk=>?_⟩;show z.2.getD k 0<=(jX x.2 c).getD k 0;have:=m k hk;rw[kX d];split
    ·rename_i e;subst e;omega
    ·exact this
   have B:=yO (a:=z.2) (b:=jX x.2 c) (by rw[iq d];exact f) λk hk=>j.2.2.2 k (by rw[iq d,i] at hk;exact hk);have e:=yw d;cases n with
   | zero=>omega
   | succ n =>
    obtain⟨w,y,l2⟩:=EN cl n (x.1,jX x.2 c) z t (by show(jX x.2 c).sum - z.2.sum<=n;omega) j u;exact⟨w,y,Int.le_trans l2 l1⟩
  ·have e:x=z:=by
    refine Prod.ext i2 (JB f.symm λc h1 h2=>?_);have hc:c<s.length:=by rw[<-i];exact h1
    have a:=m c hc;have b:¬z.2.getD c 0<x.2.getD c 0:=λq=>h ⟨c,hc,q⟩;rw[HU,HR h2,HU,HR h1] at a b;simp only[rg] at a b;omega
   exact⟨v,e▸l,Jb _⟩
def rkv:ab->Option Int
 | .int v=>some v
 | _=>none
def gR(kvs:List (a8×ab))(z:Std):Option Int:=(bK kvs (kOf z)).bind rkv
theorem jT(kvs:List (a8×ab))(z:Std)(v:Int)(y:Std):gR (hJ kvs (kOf z) (.int v)) y=if y=z then some v else gR kvs y:=by
 unfold gR;rw[fW];by_cases h:y=z
 ·rw[ME h,ME (by rw[h])];rfl
 ·rw[MF h,MF λq=>h (kI q)]
theorem mJ{kvs:List (a8×ab)}(h:k∈kvs.map (·.1)):(bK kvs k).isSome=true:=by
 induction kvs with
 | nil=>cases h
 | cons p kvs a =>
  rw[bJ];by_cases e:p.1=k
  ·rw[ME e];rfl
  ·rw[MF e];rw[ID,Ic] at h;rcases h with h|h
   ·exact absurd h.symm e
   ·exact a h
structure LrI(s o:List Int)(D:List (Std×Int))(e:Std×Int)(kvs:List (a8×ab))(ks W:List Std):Prop where
 keys:kvs.map (·.1)=ks.map kOf
 nd : ks.Nodup
 is : ∀z∈ks,IsS s o z
 snd:∀z d,bK kvs (kOf z)=some d->∃f∈D++[e],noB s o f.1 z/\d=.int f.2
 cl : ∀z v,gR kvs z=some v->∀l'∈nwL z.2,(∃v',gR kvs (z.1,l')=some v'/\v'<=v)\/((z.1,l')∈W/\v=e.2)
 wt : ∀z∈W,noB s o e.1 z
 cov:e.1∈W\/∃v,gR kvs e.1=some v/\v<=e.2
 cov0:∀f∈D,∃v,gR kvs f.1=some v/\v<=f.2
structure LrO(s o:List Int)(D:List (Std×Int))(kvs:List (a8×ab))(ks:List Std):Prop where
 keys:kvs.map (·.1)=ks.map kOf
 nd : ks.Nodup
 is : ∀z∈ks,IsS s o z
 snd:∀z d,bK kvs (kOf z)=some d->∃f∈D,noB s o f.1 z/\d=.int f.2
 cl : ∀z v,gR kvs z=some v->∀l'∈nwL z.2,∃v',gR kvs (z.1,l')=some v'/\v'<=v
 cov:∀f∈D,∃v,gR kvs f.1=some v/\v<=f.2
section
variable {s o:List Int}{D:List (Std×Int)}{e:Std×Int}{kvs:List (a8×ab)}{ks W:List Std}
theorem LrI.few(h:LrI s o D e kvs ks W):kvs.length<=(ji s o).length:=by have e1:=congrArg mf h.keys;rw[HS,HS] at e1;rw[e1];exact cP h.nd λx hx=>fT (h.is x hx)
theorem LrO.start:LrO s o [] [] []:=⟨rfl,IS,λz hz=>(by cases hz),λz d h=>(by cases h),λz v h=>(by cases h),λf a=>(by cases a)⟩
theorem LrO.enter(h:LrO s o D kvs ks)(b:IsS s o e.1):LrI s o D e kvs ks [e.1] :=
 ⟨h.keys,h.nd,h.is,λz d q=>by obtain⟨f,m,a⟩:=h.snd z d q;exact⟨f,HV _ m,a⟩,λz v q l' m=>.inl (h.cl z v q l' m),λz hz=>by rw[HW.mp hz];exact⟨b,rfl,b.2.1,λ_ _=>Jb _⟩,.inl H9,h.cov⟩
theorem LrI.leave(h:LrI s o D e kvs ks []):LrO s o (D++[e]) kvs ks:=by
 refine⟨h.keys,h.nd,h.is,h.snd,λz v q l' m=>?_,λf b=>?_⟩
 ·rcases h.cl z v q l' m with a|⟨a,_⟩
  ·exact a
  ·cases a
 ·rcases HX.mp b with b|b
  ·exact h.cov0 f b
  ·rw[HW.mp b];rcases h.cov with a|a
   ·cases a
   ·exact a
theorem LrI.low(h:LrI s o D e kvs ks W)(a:∀f∈D,f.2<=e.2)(q:bK kvs (kOf z)=some d):∃v,gR kvs z=some v/\v<=e.2:=by
 obtain⟨f,m,_,rfl⟩:=h.snd z d q;refine⟨f.2,by unfold gR;rw[q];rfl,?_⟩;rcases HX.mp m with m|m
 ·exact a f m
 ·rw[HW.mp m];exact Jb _
theorem LrI.skip(h:LrI s o D e kvs ks (W++[z]))(j:∀f∈D,f.2<=e.2)(q:(bK kvs (kOf z)).isSome=true):LrI s o D e kvs ks W:=by
 obtain⟨d,q⟩:=J3.mp q;obtain⟨v0,c,i⟩:=h.low j q;have out:∀y,y∈W++[z]->y∈W\/y=z:=λy b=>(HX.mp b).imp id HW.mp;refine⟨h.keys,h.nd,h.is,h.snd,λy v g l' m=>?_,λy b=>h.wt y (HV _ b),?_,h.cov0⟩
 ·rcases h.cl y v g l' m with a|⟨a,rfl⟩
  ·exact .inl a
  ·rcases out _ a with a|a
   ·exact .inr ⟨a,rfl⟩
   ·exact .inl ⟨v0,by rw[a];exact c,i⟩
 ·rcases h.cov with a|a
  ·rcases out _ a with a|a
   ·exact .inl a
   ·exact .inr ⟨v0,by rw[a];exact c,i⟩
  ·exact .inr a
theorem LrI.add(h:LrI s o D e kvs ks (W++[z]))(q:(bK kvs (kOf z)).isSome=false):LrI s o D e (hJ kvs (kOf z) (.int e.2)) (ks++[z]) (W++(nwL z.2).map λl=>(z.1,l)):=by
 have hz:=h.wt z (by simp);have n:gR kvs z=none:=by
  unfold gR;cases e1:bK kvs (kOf z) with
  | none=>rfl
  | some d=>rw[e1] at q;cases q
 have p:z ∉ ks:=λm=>by
  have:=mJ (kvs:=kvs) (k:=kOf z) (by rw[h.keys];exact v6 m);rw[q] at this;cases this
 have out:∀y,y∈W++[z]->y∈W\/y=z:=λy c=>(HX.mp c).imp id HW.mp;refine⟨?_,?_,λy c=>?_,λy d g=>?_,λy v g l' m=>?_,λy c=>?_,?_,λf r=>?_⟩
 ·unfold hJ;rw[MF (by rw[q];exact IA),IE,IE,h.keys];rfl
 ·exact HY.mpr ⟨h.nd,by simp,λa t b u=>by
   rw[HW.mp u]
   exactλe=>p (e▸t)⟩
 ·rcases HX.mp c with c|c
  ·exact h.is y c
  ·rw[HW.mp c];exact hz.1
 ·rw[fW] at g;by_cases i:kOf y=kOf z
  ·rw[ME i] at g;cases g;rw[kI i];exact⟨e,by simp,hz,rfl⟩
  ·rw[MF i] at g;exact h.snd y d g
 ·rw[jT] at g;by_cases i:y=z
  ·rw[ME i] at g;cases g;subst i;exact .inr ⟨HQ _ (Ig.mpr ⟨l',m,rfl⟩),rfl⟩
  ·rw[MF i] at g;rcases h.cl y v g l' m with⟨v',a,b⟩|⟨a,rfl⟩
   ·refine .inl ⟨v',?_,b⟩;rw[jT,MF]
    ·exact a
    ·intro j;rw[j,n] at a;cases a
   ·rcases out _ a with a|a
    ·exact .inr ⟨HV _ a,rfl⟩
    ·exact .inl ⟨e.2,by rw[jT,ME a],Jb _⟩
 ·rcases HX.mp c with c|c
  ·exact h.wt y (HV _ c)
  ·obtain⟨l',m,rfl⟩:=Ig.mp c;exact DX hz m
 ·rcases h.cov with a|⟨v,a,b⟩
  ·rcases out _ a with a|a
   ·exact .inl (HV _ a)
   ·exact .inr ⟨e.2,by rw[jT,ME a],Jb _⟩
  ·refine .inr ⟨v,?_,b⟩;rw[jT,MF]
   ·exact a
   ·intro j;rw[j,n] at a;cases a
 ·obtain⟨v,a,b⟩:=h.cov0 f r;refine⟨v,?_,b⟩;rw[jT,MF]
  ·exact a
  ·intro j;rw[j,n] at a;cases a
def lrM(N:Nat)(kvs:List (a8×ab))(W:List Std):Nat:=(N - kvs.length)*8+W.length
end
theorem vU(l:List Int)(h:c<=l.length):pq (li l) none (some (c:Int))=li (l.take c):=by unfold pq;have e:HT.sIx (li l).length (li l).length (some (c:Int))=min c (li l).length:=HT.sIx_nat _ _ c;rw[e,HT.sIx_none,HS,v2,Lz,JT h];simp[Mw]
theorem vV(l:List Int)(h:c<=l.length):pq (li l) (some (c:Int)) none=li (l.drop c):=by unfold pq;have e:HT.sIx (li l).length 0 (some (c:Int))=min c (li l).length:=HT.sIx_nat _ _ c;rw[e,HT.sIx_none,HS,JT h,Jg (by simp)];simp[Mx]
abbrev bL:Stmt:=top 15
theorem dr:az ["standing", "lefts", "places"] ["standing"] (af bL):=⟨rfl,rfl,rfl,by decide +kernel,rfl,by decide +kernel,by decide +kernel⟩
def tR:DSp:=λss R=>∃z:Std,ss=[.fr (stS z)]/\z.2.length<=1000/\R (.ow ((nwL z.2).map λl=>stS (z.1,l))) [.un]
theorem lg(F:Fun K "next_worse" "next_worse" bL f fd):bx K fd ["standing"] []:=F.binds (ps:=["standing"]) λ_ _ _ _ _ _ us a=>us1 (Q:=λus=>k3 _ ⟨us,[]⟩=pure (fy _ us)) a λ_=>rfl
theorem kn(F:Fun K "next_worse" "next_worse" bL f fd)(B:Bn mg):cq P w K mg base CX0 1 f fd ["standing"] (spD K tR):=by
 refine okD (k:=0) F dr (λss R h=>?_) (by decide) (λcdv A outer s H E u=>⟨_,(dF (aM (i:=1) dr.nd rfl (eb rfl) (bd (ai (K:=K) rfl) mIx (qv 0) aj (λ_ _=>rfl)))
   (dF (cO (i:=2)  dr.nd rfl rfl (N':=["place", "left"]) (ix:=[none,none]) rfl (cU (N:=["standing", "lefts", "places"]) (sc0:=af bL) rfl rfl (by decide +kernel)) (nY true (K:=K) rfl rfl B.enumerate (aa (qf 1) ac)) (λ_ _ _ _=>(jI (K:=K) (n:=2) rfl rfl (bz (au (i:=0) (show eT (["place", "left"]:List bt) by decide +kernel) rfl da) (bz (au (i:=1) (show eT (["place", "left"]:List bt) by decide +kernel) rfl da) gm)))) (λ_ _ _ _=>(fv (aC uP mB (qv 1) aj (aH _)))) (λ_ _ _ _=>(qf 0)))
   (ak (aX (dZ (N':=["place", "standing", "lefts"]) (ix:=[none,some 0,some 1]) rfl (cU (N:=["standing", "lefts", "places"]) (sc0:=af bL) rfl rfl (by decide +kernel)) (bj (K:=K) rfl (qf 2)) (λ_ _ _ _=>(au (i:=0) (show eT (["place", "standing", "lefts"]:List bt) by decide +kernel) rfl da)) (λ_ _ _ _=>bR) (λ_ _ _ _=>(hV (aa (bd (ai (K:=K) rfl) mIx (qv 1) aj (λ_ _=>rfl)) (aa (zc (K:=K) rfl (zc (K:=K) rfl (AB (K:=K) rfl (qv 2) gl (gj (qv 0))) (hV (aa (bD d4 mI (bd (ai (K:=K) rfl) mIx (qv 2) (qv 0) (λ_ _=>rfl)) aj) ac))) (AB (K:=K) rfl (qv 2) (gj (bD bI mI (qv 0) aj)) gl)) ac))))))))),λss R h=>?_⟩)
 ·obtain⟨z,rfl,_⟩:=h;rfl
 obtain⟨z,rfl,v,q⟩:=h;walk_at "dd";refine eD (λi=>decide (1<z.2.getD i 0)) (λi=>.int (i:Int)) (by rw[bB,HS];omega) (λi hi Q y h1 h2=>?_) ?_
 ·rw[fX,gO];walk_at "dd";exact cu (λc=>h1 (decide_eq_true c)) λc=>h2 (decide_eq_false c)
 rw[bB,HS];obtain⟨cs,a⟩:∃cs,cs=(di z.2.length).filter λi=>decide (1<z.2.getD i 0):=⟨_,rfl⟩
 rw[<-a];have hc:∀j,j<cs.length->cs.getD j 0<z.2.length:=λj hj=>by
  have:cs.getD j 0∈cs:=by rw[HU,HR hj];exact IB hj
  have d:∀x∈cs,x<z.2.length:=λx hx=>by
   rw[a] at hx;exact Io.mp (Iw.mp hx).1
  exact d _ this
 have p:cs.length<=z.2.length:=by rw[a];exact Ie (IN _ _) (by rw[IC];exact Ih _)
 walk_at "dd";refine dh (λj=>stS (z.1,jX z.2 (cs.getD j 0))) (by rw[HS];omega) (λj hj Q r=>?_) ?_
 ·rw[HS] at hj;have b:=hc j hj;have e:cs[j]=cs.getD j 0:=by rw[HU,HR hj];rfl
  rw[IZ,e];generalize cs.getD j 0=c at *;walk_at "dd";have x1:HT.sIx (li z.2).length (li z.2).length (some (c:Int))=min c (li z.2).length:=HT.sIx_nat _ _ c;have t:HT.sIx (li z.2).length 0 (some ((c:Int)+1))=min (c+1) (li z.2).length:=HT.sIx_nat _ _ (c+1);have g:(li z.2).length=z.2.length:=HS ..;have m:=vU z.2 (sn b);have o:pq (li z.2) (some ((c:Int)+1)) none=li (z.2.drop (c+1)):=vV z.2 (c:=c+1) b;refine⟨λq=>?_,_,bV (ns:=z.2) b,_,rfl,Ie (by decide) ag,?_,λq=>?_,?_,Ie (by decide) ag,?_⟩
  ·rw[x1,g] at q;omega
  ·rw[m,HS,IY];exact Ie (by omega) ag
  ·rw[t,g] at q;omega
  ·rw[m,o,Ix,HS,HS,IY,JF,IX];exact Ie (by omega) ag
  ·rw[m,o];rw[show li (z.2.take c)++[eC (z.2.getD c 0 - 1)]++li (z.2.drop (c+1))=li (jX z.2 c) by unfold jX;simp];exact r
 rw[HS,show(di cs.length).map (λj=>stS (z.1,jX z.2 (cs.getD j 0)))=(nwL z.2).map λl=>stS (z.1,l) by
  unfold nwL;rw[<-a,IK];apply JB
  ·simp
  ·intro i h1 h2;have hi:i<cs.length:=by simpa using h1
   simp[HU,hi]]
 walk_at "dd";exact q
def HF:ab->Int
 | .tuple [_,_,.int n]=>n
 | _=>0
def yp(d:ab):ab:=.int (HF d)
def eZ(ds:List ab):List (Int×List Int):=(ds.map yp).map dg
theorem sx(P:List (Std×Int)):∃Q:List (Std×Int),pick (aE (eZ (dS P))) (dS P) .none=dS Q/\Q.Perm P/\Q.Pairwise λa b=>a.2<=b.2:=by
 have d:(eZ (dS P)).length=P.length:=by unfold eZ;rw[HS,HS,HS]
 have g:∀i∈aE (eZ (dS P)),i<P.length:=λi hi=>by rw[<-d];exact b9 i hi
 refine⟨pick (aE (eZ (dS P))) P ((0,[]),0),?_,fQ (by have:=bh (eZ (dS P));rwa [d] at this),?_⟩
 ·unfold pick;show _=eP _ (eP _ _);rw[IK];refine JE λi hi=>?_;have:=g i hi;simp[HU,this]
 ·rw[Jm];intro a b o j k;have m:(aE (eZ (dS P))).length=P.length:=by rw[(bh _).length_eq,IC,d]
  have f:b<P.length:=by unfold pick at j;rw[HS,m] at j;exact j
  have q:=lK (ks:=eZ (dS P)) (sn k) (by rw[d];exact f);have mem:∀c,c<P.length->(aE (eZ (dS P))).getD c 0<P.length:=λc hc=>by
   rw[HU,HR (by rw[m];exact hc)];exact g _ (IB _)
  have key:∀c,c<P.length->(eZ (dS P)).getD c (0,[])=((P.getD c ((0,[]),0)).2,[]):=λc hc=>by
   have e:eZ (dS P)=P.map λe=>(e.2,[]):=by show((P.map _).map yp).map dg=_;rw[IK,IK];rfl
   rw[e];simp[HU,hc]
  have val:∀c (hc:c<(pick (aE (eZ (dS P))) P ((0,[]),0)).length),c<P.length->(pick (aE (eZ (dS P))) P ((0,[]),0))[c]=P.getD ((aE (eZ (dS P))).getD c 0) ((0,[]),0):=λc hc n=>by
   simp only[pick,IZ];rw[HU (l:=aE (eZ (dS P))),HR (by rw[m];exact n)];rfl
  rw[key _ (mem b f),key _ (mem a (by omega))] at q;rw[val a o (by omega),val b j f];unfold cS at q;split at q
  ·rename_i h;exact Int.le_of_eq h.symm
  ·have:=of_decide_eq_false q;omega
structure GM(s o:List Int)(P:List (Std×Int))(kvs:List (a8×ab)):Prop where
 few:kvs.length<=(ji s o).length
 snd:∀z d,bK kvs (kOf z)=some d->∃f∈P,noB s o f.1 z/\d=.int f.2
 cov:∀f∈P,∀z,noB s o f.1 z->∃v,bK kvs (kOf z)=some (.int v)/\v<=f.2
abbrev cD:Stmt:=top 16
theorem bG:az ["paper", "ranks", "entry", "waiting", "standing"] ["paper"] (af cD):=⟨rfl,rfl,rfl,by decide +kernel,rfl,by decide +kernel,by decide +kernel⟩
def tT:DSp:=λss R=>∃(s o:List Int) (P:List (Std×Int)),ss=[.fr (.list (dS P))]/\P.length<64/\s.length<=6/\(ji s o).length<100000/\(∀e∈P,IsS s o e.1)/\∀kvs,GM s o P kvs->R (.fr (fb kvs)) [.un]
theorem ju(F:Fun K "least_ranks" "least_ranks" cD f fd):bx K fd ["paper"] []:=F.binds (ps:=["paper"]) λ_ _ _ _ _ _ us a=>us1 (Q:=λus=>k3 _ ⟨us,[]⟩=pure (fy _ us)) a λ_=>rfl
theorem jn(F:Fun K "least_ranks" "least_ranks" cD f fd)(B:Bn mg)(L:sW K base "least_ranks" fd)(r:Cal P w K mg base "next_worse" 1 (spD K tR)):cq P w K mg base CX0 7 f fd ["paper"] (spD K tT):=by
 refine FU (k:=6) F bG (λss R h=>?_) (by decide) (λcdv J A outer s H E G=>⟨_,(ah (aM (i:=1) bG.nd rfl da za)
   (ah (c8 PassesOwn.never rfl (bj (K:=K) rfl (Db (p := "one") (K:=K) rfl (let ⟨c,T,a,b,d⟩:=L;⟨c,T,J.trans a,b,d⟩) (G.mono (by decide)) rfl B.sorted (aa (qv 0) ac) ⟨rfl,rfl,rfl,by decide,rfl,λx hx=>by rw[HW.mp hx];exact .inl rfl,by decide⟩ (λ_ _ _ _ _=>rfl) rfl rfl (λ_ _ _ _ _=>(bd (ai (K:=K) rfl) mIx (qv 0) aj (λ_ _=>rfl))))) (au (i:=2) bG.nd rfl da) (ah (aM (i:=3) bG.nd rfl da (cw (aa (hV (aa (bd (ai (K:=K) rfl) mIx (qv 2) aj (λ_ _=>rfl)) (aa (bd (ai (K:=K) rfl) mIx (qv 2) aj (λ_ _=>rfl)) ac))) ac)))
   (ak (nZ PassesOwn.never (qt (K:=K) rfl (qv 3)) (ah (aM (i:=4) bG.nd rfl da (AE 3 (K:=K) rfl rfl))
   (ak (dR (aC (oZ (K:=K) rfl (hu2 G)) oT (qv 4) (qv 1) (by with_unfolding_all rfl)) (ah (qw 1 (K:=K) rfl (hu2 G) rfl (qf 4) (bd (ai (K:=K) rfl) mIx (qv 2) aj (λ_ _=>rfl)))
   (ak (dQ (FO 3 (K:=K) rfl rfl (aa (aR r (G.mono (by decide)) rfl (aa (qf 4) ac)) ac))))) aU)))))))
   (ug 1 (ak (aX (qv 1)))))),λss R h=>?_⟩)
 ·obtain⟨s,o,P,rfl,_⟩:=h;rfl
 obtain⟨s,o,P,rfl,U,Z,hN,M,q⟩:=h;walk_at "dx";intro S;walk_at "dx";obtain⟨Q,eQ,I,aQ⟩:=sx P;refine⟨by rw[HS];exact U,yp,.inr (.inl λd hd=>?_),λd hd=>?_,?_⟩
 ·obtain⟨e,_,rfl⟩:=Ig.mp hd;exact⟨_,rfl⟩
 ·obtain⟨e,_,rfl⟩:=Ig.mp hd;unfold qO;walk_at "dd";rfl
 rw[show eP dg (eP yp (dS P))=eZ (dS P) from rfl,eQ];have a0:∀n:Nat,n<=1000000->n<=sizeLine:=λn h=>Ie h ag;have a4:Q.length<64:=by rw[I.length_eq];exact U
 refine aT (λi env=>∃(kvs:List (a8×ab)) (ks:List Std) (a b c:Sl),env=[.fr (.list (dS P)),.tr S (fb kvs),a,b,c]/\LrO s o (Q.take i) kvs ks) ⟨[],[],_,_,_,rfl,LrO.start⟩ ?_ ?_
 ·rintro i env hi ⟨kvs,ks,a,b,c,rfl,hk⟩;rw[HS] at hi;rw[IZ];have hD:∀f∈Q.take i,f.2<=Q[i].2:=λf N=>by
   obtain⟨j,hj,rfl⟩:=Il N;rw[IY] at hj;rw[L7];exact Jm.mp aQ j i (by omega) hi (by omega)
  have et:Q.take (i+1)=Q.take i++[Q[i]]:=by rw[JC,HR hi];rfl
  rw[et];have O:=M _ (I.mem_iff.mp (IB hi));generalize Q[i]=e at *;generalize Q.take i=D at *;walk_at "dx";refine⟨Ie (by decide) ag,Ie (by decide) ag,?_⟩;walk_at "dx";refine⟨λm env=>∃(kvs:List (a8×ab)) (ks W:List Std) (c:Sl),env=[.fr (.list (dS P)),.tr S (fb kvs),.fr (Ez e),.ow (W.map stS),c]/\LrI s o D e kvs ks W/\W.length+6*((ji s o).length - kvs.length)<=1000000/\m=lrM (ji s o).length kvs W,⟨_,kvs,ks,[e.1],_,rfl,hk.enter O,by simp;omega,rfl⟩,?_⟩;rintro m env ⟨kvs,ks,W,c,rfl,u,hW,rfl⟩;have few:=u.few;walk_at "dx";rcases JJ W with rfl|⟨V,z,rfl⟩
  ·rw[MF (by simp)];exact⟨kvs,rfl,ks,u.leave⟩
  rw[JK] at u hW ⊢;have hz:=u.wt z (by simp);rw[IE,ME (by simp)];refine⟨stS z,by simp,?_⟩;walk_at "dx";refine⟨kOf z,rfl,rfl,kvs,rfl,cu (λhc=>?_) λhc=>?_⟩
  ·have y:(bK kvs (kOf z)).isSome=false:=by
    cases e1:bK kvs (kOf z) with
    | none=>rfl
    | some d=>rw[e1] at hc;exact absurd hc (by simp)
   have X:=u.add y;have Y:=X.few;have el:(hJ kvs (kOf z) (.int e.2)).length=kvs.length+1:=by unfold hJ;rw[MF (by rw[y];exact IA),Ix];rfl
   have nf:=A5 z.2;have a5:z.2.length<=6:=by rw[hz.1.2.1];exact Z
   refine⟨⟨kvs,rfl⟩,kvs,rfl,kOf z,rfl,rfl,Ik (by omega) ag,?_⟩;walk_at "dx";refine⟨z,rfl,by omega,?_⟩;walk_at "dx";have a6:V.length+1+6*((ji s o).length - kvs.length)<=1000000:=by simpa using hW
   have t:(V++(nwL z.2).map λl=>(z.1,l)).length=V.length+(nwL z.2).length:=by rw[Ix,HS]
   rw[LI,HS,HS];refine⟨Ie (by omega) ag,lrM (ji s o).length (hJ kvs (kOf z) (.int e.2)) (V++(nwL z.2).map λl=>(z.1,l)),?_,hJ kvs (kOf z) (.int e.2),rfl,ks++[z],_,by rw[IE,IK];rfl,X,by rw[t];omega,rfl⟩;unfold lrM;rw[t,el,Ix,IX];omega
  ·have C:(bK kvs (kOf z)).isSome=true:=by
    cases e1:bK kvs (kOf z) with
    | none=>rw[e1] at hc;exact absurd rfl hc
    | some d=>rfl
   refine⟨lrM (ji s o).length kvs V,?_,kvs,rfl,ks,V,by simp,u.skip hD C,by simp at hW ⊢;omega,rfl⟩;unfold lrM;rw[Ix,IX];omega
 ·rintro env ⟨kvs,ks,a,b,c,rfl,hk⟩;rw[HS,sa] at hk;walk_at "dx";have fw:kvs.length<=(ji s o).length:=by
   have e1:=congrArg mf hk.keys;rw[HS,HS] at e1;rw[e1];exact cP hk.nd λx hx=>fT (hk.is x hx)
  refine q kvs ⟨fw,λz d g=>?_,λf N z hz=>?_⟩
  ·obtain⟨f,m,a,b⟩:=hk.snd z d g;exact⟨f,I.mem_iff.mp m,a,b⟩
  ·obtain⟨v,g,l⟩:=hk.cov f (I.mem_iff.mpr N);obtain⟨v',g',l'⟩:=EN hk.cl (f.1.2.sum - z.2.sum).toNat f.1 z v (by omega) hz g;unfold gR at g';cases e1:bK kvs (kOf z) with
   | none=>rw[e1] at g';cases g'
   | some d =>
    obtain⟨f',m',_,rfl⟩:=hk.snd z d e1;rw[e1] at g';have g':some f'.2=some v':=g';cases g';exact⟨_,rfl,Int.le_trans l' l⟩
abbrev Ent:=Int×List Int×Int
abbrev enD(e:Ent):ab:=.tuple [.int e.1,.tuple (li e.2.1),.int e.2.2]
abbrev enL(P:List Ent):List ab:=P.map enD
def RkP(s o:List Int)(e:Ent):Prop:=(∀c,c<s.length->1<=e.2.1.getD c 0/\e.2.1.getD c 0<=s.getD c 0)/\0<=e.1/\e.1<o.length/\0<=e.2.2
def toE(e:Ent):Std×Int:=((e.1.toNat,e.2.1),e.2.2)
theorem BB{P:List Ent}(h:∀e∈P,0<=e.1):enL P=dS (P.map toE):=by show eP _ _=eP _ (eP _ _);rw[IK];refine JE λe a=>?_;have:=h e a;show r0 [.int e.1,_,_]=r0 [.int ((e.1.toNat:Nat):Int),_,_];rw[Int.toNat_of_nonneg this];rfl
theorem RkP.isS(h:RkP s o e)(a:e.2.1.length=s.length):IsS s o (toE e).1:=by refine⟨?_,a,h.1⟩;show e.1.toNat<o.length;have:=h.2.1;have:=h.2.2.1;omega
def ShP(s o:List Int)(P:List (Std×Int)):Prop:=(∃e∈P,noB s o e.1 (0,s))/\∀e∈P,∀r∈cy s.length (o.getD e.1.1 0) e.1.2,∃e'∈P,e'.2<e.2/\noB s o e'.1 (cb s o e.1 r)
def ET(s o:List Int)(P:List Ent):Prop:=(∀e∈P,RkP s o e)/\ShP s o (P.map toE)
theorem wR{xs ys:List ab}{i:Nat}(h:i<(wS xs ys).length):(wS xs ys)[i]=.tuple [xs[i]'(by rw[dq] at h;omega),ys[i]'(by rw[dq] at h;omega)]:=by simp[wS]
theorem iT(g:Nat->Bool)(L:List Nat):L.map (λi=>Mu (g i))=(L.map g).map Mu:=by rw[IK];rfl
abbrev cM:Stmt:=top 14
theorem gJ:az ["town", "entry", "fits"] ["town", "entry"] (af cM):=⟨rfl,rfl,rfl,by decide +kernel,rfl,by decide +kernel,by decide +kernel⟩
def yR:DSp:=λss R=>∃(s o:List Int) (e:Ent),ss=[.fr (.tuple [.list (li s),.list (li o)]),.fr (enD e)]/\e.2.1.length=s.length/\s.length<=1000/\∀b:Bool,(b=true↔RkP s o e)->R (.fr (.bool b)) [.un,.un]
theorem nt(F:Fun K "is_ranked" "is_ranked" cM f fd):bx K fd ["town", "entry"] []:=F.binds (ps:=["town", "entry"]) λ_ _ _ _ _ _ us a=>us2 (Q:=λus=>k3 _ ⟨us,[]⟩=pure (fy _ us)) a λ_ _=>rfl
theorem lU(F:Fun K "is_ranked" "is_ranked" cM f fd)(B:Bn mg):cq P w K mg base CX0 1 f fd ["town", "entry"] (spD K yR):=by
 refine okD (k:=0) F gJ (λss R h=>?_) (by decide) (λcdv A outer s H E m=>⟨_,(dF (aM (i:=2) gJ.nd rfl da (dG (F5 (K:=K) rfl rfl) FW rfl B.all px (aa (dZ (N':=["left", "span"]) (ix:=[none,none]) rfl (cU (N:=["town", "entry", "fits"]) (sc0:=af cM) rfl rfl (by decide +kernel)) (C6 true false (K:=K) rfl rfl B.zip (aa (bd (ai (K:=K) rfl) mIx (qv 1) aj (λ_ _=>rfl)) (aa (bd (ai (K:=K) rfl) mIx (qv 0) aj (λ_ _=>rfl)) ac))) (λ_ _ _ _=>(jI (K:=K) (n:=2) rfl rfl (bz (au (i:=0) (show eT (["left", "span"]:List bt) by decide +kernel) rfl da) (bz (au (i:=1) (show eT (["left", "span"]:List bt) by decide +kernel) rfl da) gm)))) (λ_ _ _ _=>bR) (λ_ _ _ _=>(um sy mB sy mB aj (qv 0) (qv 1)))) ac)))
   (ak (aX (sv (qv 2) (sv (um sy mB uM mB aj (bd (ai (K:=K) rfl) mIx (qv 1) aj (λ_ _=>rfl)) (dG (fq (K:=K) rfl) fi rfl B.len dt (aa (bd (ai (K:=K) rfl) mIx (qv 0) aj (λ_ _=>rfl)) ac))) (xo (uk A0 mB (bd (ai (K:=K) rfl) mIx (qv 1) aj (λ_ _=>rfl)) aj (aH _)))))))),λss R h=>?_⟩)
 ·obtain⟨s,o,e,rfl,_⟩:=h;rfl
 obtain⟨s,o,e,rfl,j,p,q⟩:=h;walk_at "dd";refine dh (λi=>.bool (decide (1<=e.2.1.getD i 0)&&decide (e.2.1.getD i 0<=s.getD i 0))) (by rw[dq,HS];omega) (λi hi Q d=>?_) ?_
 ·rw[wR,gO,gO];walk_at "dd";refine cu (λc=>?_) λc=>?_
  ·rw[decide_eq_true c,Mz] at d;exact d
  ·rw[decide_eq_false c,Ms] at d;exact d
 rw[dq,HS,HS,j,G4,iT];walk_at "dd";have g:(li o).length=o.length:=HS ..;rw[g];have a:((di s.length).map λi=>decide (1<=e.2.1.getD i 0)&&decide (e.2.1.getD i 0<=s.getD i 0)).all id=true↔∀c,c<s.length->1<=e.2.1.getD c 0/\e.2.1.getD c 0<=s.getD c 0:=by
  rw[Jh];constructor
  ·intro h c hc;have:=h _ (Ig.mpr ⟨c,Io.mpr hc,rfl⟩);rw[id_eq,Iq,decide_eq_true_eq,decide_eq_true_eq] at this;exact this
  ·intro h b l;obtain⟨c,hc,rfl⟩:=Ig.mp l;rw[id_eq,Iq,decide_eq_true_eq,decide_eq_true_eq];exact h c (Io.mp hc)
 refine cu (λc1=>cu (λc2=>cu (λc3=>q _ ?_) λc3=>q false ?_) λc2=>q false ?_) λc1=>q false ?_
 ·rw[decide_eq_true_eq];exact⟨λh=>⟨a.mp c1,c2,c3,h⟩,λh=>h.2.2.2⟩
 ·exact⟨λz=>(nomatch z),λh=>absurd h.2.2.1 c3⟩
 ·exact⟨λz=>(nomatch z),λh=>absurd h.2.1 c2⟩
 ·exact⟨λz=>(nomatch z),λh=>absurd (a.mpr h.1) c1⟩
abbrev bM:Stmt:=top 17
theorem dw:az ["town", "entry", "ranks", "standing", "ahead"] ["town", "entry", "ranks"] (af bM):=⟨rfl,rfl,rfl,by decide +kernel,rfl,by decide +kernel,by decide +kernel⟩
def tU:DSp:=λss R=>∃(s o:List Int) (e:Std×Int) (kvs:List (a8×ab)),ss=[.fr (.tuple [.list (li s),.list (li o)]),.fr (Ez e),.fr (fb kvs)]/\TbL s o/\IsS s o e.1/\(∀z d,bK kvs (kOf z)=some d->∃v:Int,d=.int v) /\
 ∀b:Bool,(b=true↔∀r∈cy s.length (o.getD e.1.1 0) e.1.2,∃v,bK kvs (kOf (cb s o e.1 r))=some (.int v)/\v<e.2)->R (.fr (.bool b)) [.un,.un,.un]
theorem lj(F:Fun K "leads_down" "leads_down" bM f fd):bx K fd ["town", "entry", "ranks"] []:=F.binds (ps:=["town", "entry", "ranks"]) λ_ _ _ _ _ _ us a=>us3 (Q:=λus=>k3 _ ⟨us,[]⟩=pure (fy _ us)) a λ_ _ _=>rfl
theorem kr(F:Fun K "leads_down" "leads_down" bM f fd)(B:Bn mg)(a:Cal P w K mg base "choices" 6 (spD K iF))(c:Cal P w K mg base "behind" 1 (spD K ii)):cq P w K mg base CX0 7 f fd ["town", "entry", "ranks"] (spD K tU):=by
 refine okD (k:=6) F dw (λss R h=>?_) (by decide) (λcdv A outer s H E l=>⟨_,(ah (aM (i:=3) dw.nd rfl (eb rfl) (hV (aa (bd (ai (K:=K) rfl) mIx (qv 1) aj (λ_ _=>rfl)) (aa (bd (ai (K:=K) rfl) mIx (qv 1) aj (λ_ _=>rfl)) ac))))
   (ah (cO (i:=4)  dw.nd rfl rfl (N':=["row", "town", "standing"]) (ix:=[none,some 0,some 3]) rfl (cU (N:=["town", "entry", "ranks", "standing", "ahead"]) (sc0:=af bM) rfl rfl (by decide +kernel)) (bj (K:=K) rfl (qx (aR a (l.mono (by decide)) rfl (aa (qf 0) (aa (qf 3) ac))))) (λ_ _ _ _=>(au (i:=0) (show eT (["row", "town", "standing"]:List bt) by decide +kernel) rfl da)) (λ_ _ _ _=>bR) (λ_ _ _ _=>(aR c (l.mono (by decide)) rfl (aa (qf 1) (aa (qf 2) (aa (qf 0) ac))))))
   (ak (aX (dG (F5 (K:=K) rfl rfl) FW rfl B.all px (aa (dZ (N':=["other", "entry", "ranks"]) (ix:=[none,some 1,some 2]) rfl (cU (N:=["town", "entry", "ranks", "standing", "ahead"]) (sc0:=af bM) rfl rfl (by decide +kernel)) (bj (K:=K) rfl (qf 4)) (λ_ _ _ _=>(au (i:=0) (show eT (["other", "entry", "ranks"]:List bt) by decide +kernel) rfl da)) (λ_ _ _ _=>bR) (λ_ _ _ _=>(sv (uk (HB (K:=K) rfl (hu2 l)) Hw (qv 0) (qv 2) (by with_unfolding_all rfl)) (xo (uk uM mB (bd (Cr (K:=K) rfl (hu2 l)) Cp (qv 2) (qv 0) (λ_ _=>rfl)) (bd (ai (K:=K) rfl) mIx (qv 1) aj (λ_ _=>rfl)) (aH _)))))) ac)))))),λss R h=>?_⟩)
 ·obtain⟨s,o,e,kvs,rfl,_⟩:=h;rfl
 obtain⟨s,o,e,kvs,rfl,t,g,hk,q⟩:=h;obtain⟨t1,t2,D,u,n,G⟩:=id t;walk_at "dx";refine⟨Ie (by decide) ag,?_⟩;walk_at "dx";refine⟨s,o,e.1.2,e.1.1,rfl,t1,u _ (aK g.1),n.imp id λh=>h _ (aK g.1),⟨g.1,g.2.1⟩,λI=>?_⟩;have m:=fY s.length (o.getD e.1.1 0) e.1.2;generalize chX s.length (o.getD e.1.1 0) e.1.2=cs at *;have x:cs.length<64:=by rw[m.length_eq];exact kQ t1 (n.imp id λh=>h _ (aK g.1))
 walk_at "dx";refine dh (λi=>stS (cb s o e.1 (cs.getD i []))) (by rw[HS];omega) (λi hi Q j=>?_) ?_
 ·rw[fj];walk_at "dx";refine⟨s,o,e.1.2,cs.getD i [],e.1.1,rfl,t2,g.2.1,by omega,?_⟩;walk_at "dx";exact j
 rw[show(lr cs).length=cs.length from HS ..];walk_at "dx";refine dh (λi=>.bool (match gR kvs (cb s o e.1 (cs.getD i [])) with|some v=>decide (v<e.2)|none=>false)) (by rw[HS,IC];omega) (λi hi Q j=>?_) ?_
 ·rw[HS,IC] at hi;rw[IZ,L1];generalize cb s o e.1 (cs.getD i [])=y at *;walk_at "dx";refine⟨kOf y,rfl,rfl,kvs,rfl,?_⟩;unfold gR at j;cases e1:bK kvs (kOf y) with
  | none =>
   rw[e1] at j;rw[MF (by simp)];exact j
  | some d =>
   obtain⟨v,rfl⟩:=hk y d e1;rw[e1] at j;rw[ME (show(some (eC v)).isSome=true from rfl)];exact⟨kvs,rfl,kOf y,rfl,rfl,_,e1,v,rfl,j⟩
 rw[HS,IC,iT];walk_at "dx";refine q _ ?_;rw[Jh];have p:∀y:Std,(match gR kvs y with|some v=>decide (v<e.2)|none=>false)=true↔∃v,bK kvs (kOf y)=some (.int v)/\v<e.2:=λy=>by
  unfold gR;cases e1:bK kvs (kOf y) with
  | none=>exact⟨λz=>(nomatch z),λ⟨v,z,_⟩=>(nomatch z)⟩
  | some d =>
   obtain⟨v,rfl⟩:=hk y d e1;show decide (v<e.2)=true↔_;rw[decide_eq_true_eq];exact⟨λh=>⟨v,rfl,h⟩,λ⟨v',z,h⟩=>by cases z;exact h⟩
 constructor
 ·intro h r l;obtain⟨i,hi,rfl⟩:=Il (m.mem_iff.mpr l);have:=h _ (Ig.mpr ⟨i,Io.mpr hi,rfl⟩);rw[id_eq,p] at this;rwa [show cs.getD i []=cs[i] by rw[HU,HR hi];rfl] at this
 ·intro h b C;obtain⟨i,hi,rfl⟩:=Ig.mp C;have hi:=Io.mp hi;rw[id_eq,p];refine h _ (m.mem_iff.mp ?_);rw[HU,HR hi];exact IB hi
abbrev cL:Stmt:=top 18
theorem dW:az ["town", "paper", "ranks", "entry"] ["town", "paper"] (af cL):=⟨rfl,rfl,rfl,by decide +kernel,rfl,by decide +kernel,by decide +kernel⟩
def tQ:DSp:=λss R=>∃(s o:List Int) (P:List Ent),ss=[.fr (.tuple [.list (li s),.list (li o)]),.fr (.list (enL P))]/\TbL s o/\(∀e∈P,e.2.1.length=s.length)/\P.length<64/\∀b:Bool,(b=true↔ET s o P)->R (.fr (.bool b)) [.un,.un]
theorem nr(F:Fun K "shuts_out" "shuts_out" cL f fd):bx K fd ["town", "paper"] []:=F.binds (ps:=["town", "paper"]) λ_ _ _ _ _ _ us a=>us2 (Q:=λus=>k3 _ ⟨us,[]⟩=pure (fy _ us)) a λ_ _=>rfl
theorem lT(F:Fun K "shuts_out" "shuts_out" cL f fd)(B:Bn mg)(u:Cal P w K mg base "is_ranked" 1 (spD K yR))(n:Cal P w K mg base "least_ranks" 7 (spD K tT))(x:Cal P w K mg base "begun" 1 (spD K ka))(p:Cal P w K mg base "leads_down" 7 (spD K tU)):cq P w K mg base CX0 9 f fd ["town", "paper"] (spD K tQ):=by
 refine okD (k:=8) F dW (λss R h=>?_) (by decide) (λcdv A outer s H E G=>⟨_,(ah (dR (cn (cm (dG (F5 (K:=K) rfl rfl) FW rfl B.all px (aa (dZ (N':=["entry", "town"]) (ix:=[none,some 0]) rfl (cU (N:=["town", "paper", "ranks", "entry"]) (sc0:=af cL) rfl rfl (by decide +kernel)) (bj (K:=K) rfl (qf 1)) (λ_ _ _ _=>(au (i:=0) (show eT (["entry", "town"]:List bt) by decide +kernel) rfl da)) (λ_ _ _ _=>bR) (λ_ _ _ _=>(aR u (G.mono (by decide)) rfl (aa (qf 1) (aa (qf 0) ac))))) ac)))) (ak (aX gL)) aU)
   (ah (aM (i:=2) dW.nd rfl da (aR n (G.mono (by decide)) rfl (aa (qf 1) ac)))
   (ah (dR (aC (oZ (K:=K) rfl (hu2 G)) oT (aR x (G.mono (by decide)) rfl (aa (qf 0) ac)) (qv 2) (by with_unfolding_all rfl)) (ak (aX gL)) aU)
   (ah (c8 PassesOwn.never rfl (bj (K:=K) rfl (qf 1)) (au (i:=3) dW.nd rfl da) (ak (dR (cn (cm (aR p (G.mono (by decide)) rfl (aa (qf 0) (aa (qf 3) (aa (qf 2) ac)))))) (ak (aX gL)) aU)))
   (ak (aX gL)))))),λss R h=>?_⟩)
 ·obtain⟨s,o,P,rfl,_⟩:=h;rfl
 obtain⟨s,o,P,rfl,t,W,Y,q⟩:=h;obtain⟨t1,t2,Z,t4,t5,t6⟩:=id t;walk_at "dx";refine dh (λi=>.bool (@decide (RkP s o (P.getD i (0,[],0))) (Classical.propDecidable _))) (by rw[HS];omega) (λi hi Q hQ=>?_) ?_
 ·rw[HS] at hi;have e1:P[i]=P.getD i (0,[],0):=by rw[HU,HR hi];rfl
  have hm:P.getD i (0,[],0)∈P:=e1▸IB hi;rw[IZ,e1];generalize P.getD i (0,[],0)=e at *;walk_at "dx";refine⟨s,o,e,rfl,W e hm,by omega,λb J=>?_⟩;walk_at "dx";rw[show b=@decide (RkP s o e) (Classical.propDecidable _) from JL.mpr (J.trans (@decide_eq_true_iff _ (Classical.propDecidable _)).symm)];exact hQ
 rw[HS,iT];walk_at "dx";have C:((di P.length).map λi=>@decide (RkP s o (P.getD i (0,[],0))) (Classical.propDecidable _)).all id=true↔∀e∈P,RkP s o e:=by
  rw[Jh];constructor
  ·intro h e D;obtain⟨i,hi,rfl⟩:=Il D;have:=h _ (Ig.mpr ⟨i,Io.mpr hi,rfl⟩);rw[id_eq] at this;have:=(@decide_eq_true_iff _ (Classical.propDecidable _)).mp this;rwa [show P.getD i (0,[],0)=P[i] by rw[HU,HR hi];rfl] at this
  ·intro h b J;obtain⟨i,hi,rfl⟩:=Ig.mp J;have hi:=Io.mp hi;rw[id_eq];refine(@decide_eq_true_iff _ (Classical.propDecidable _)).mpr (h _ ?_);rw[HU,HR hi];exact IB hi
 refine cu (λc=>q false ⟨λz=>(nomatch z),λz=>?_⟩) λc=>?_
 ·rw[C.mpr z.1] at c;cases c
 have S:=C.mp (by simpa using c);have ep:=BB (P:=P) λe D=>(S e D).2.1;have X:∀f∈P.map toE,IsS s o f.1:=λf hf=>by
  obtain⟨e,D,rfl⟩:=Ig.mp hf;exact(S e D).isS (W e D)
 have T:∀b:Bool,(b=true↔ShP s o (P.map toE))->R (.fr (.bool b)) [.un,.un]:=λb J=>q b (J.trans ⟨λh=>⟨S,h⟩,λh=>h.2⟩);have U:(P.map toE).length<64:=by rw[HS];exact Y
 rw[ep];generalize P.map toE=P' at *;clear ep C c;walk_at "dx";refine⟨s,o,P',rfl,U,t1,t6,X,λkvs hk=>?_⟩;have i0:IsS s o (0,s):=⟨t2,rfl,λc hc=>⟨Z _ (aK hc),Jb _⟩⟩
 walk_at "dx";refine⟨s,o,rfl,?_⟩;walk_at "dx";have L:∀(y:Std) (m:Int),(∃v,bK kvs (kOf y)=some (.int v)/\v<m)↔∃e'∈P',e'.2<m/\noB s o e'.1 y:=λy m=>by
  constructor
  ·rintro⟨v,g,l⟩;obtain⟨f,M,O,ef⟩:=hk.snd y _ g;cases ef;exact⟨f,M,l,O⟩
  ·rintro⟨f,M,l,O⟩;obtain⟨v,g,lv⟩:=hk.cov f M y O;exact⟨v,g,by omega⟩
 refine⟨kOf (0,s),rfl,rfl,kvs,rfl,cu (λc=>T false ⟨λz=>(nomatch z),λz=>?_⟩) λc=>?_⟩
 ·obtain⟨⟨e,D,hn⟩,_⟩:=z;obtain⟨v,g,_⟩:=hk.cov e D _ hn;rw[g] at c;cases c
 have V:∃e∈P',noB s o e.1 (0,s):=by
  cases e1:bK kvs (kOf (0,s)) with
  | none=>rw[e1] at c;exact absurd rfl c
  | some d =>
   obtain⟨f,M,O,_⟩:=hk.snd _ _ e1;exact⟨f,M,O⟩
 clear c;walk_at "dx";refine aT (λi env=>∃a:Sl,env=[.fr (.tuple [.list (li s),.list (li o)]),.fr (.list (dS P')),.fr (fb kvs),a]/\∀(j:Nat) (hj:j<P'.length),j<i->∀r∈cy s.length (o.getD P'[j].1.1 0) P'[j].1.2,∃v,bK kvs (kOf (cb s o P'[j].1 r))=some (.int v)/\v<P'[j].2) ⟨_,rfl,λj _ hj=>absurd hj (JM _)⟩ ?_ ?_
 ·rintro i env hi ⟨a,rfl,hj⟩;rw[HS] at hi;rw[IZ];walk_at "dx";refine⟨s,o,P'[i],kvs,rfl,t,X _ (IB hi),λz d g=>?_,λb J=>?_⟩
  ·obtain⟨f,_,_,rfl⟩:=hk.snd z d g;exact⟨_,rfl⟩
  walk_at "dx";cases b with
  | false =>
   walk_at "dx";refine T false ⟨λz=>(nomatch z),λz=>?_⟩;have:=J.mpr λr G=>(L _ _).mpr (z.2 _ (IB hi) r G);cases this
  | true =>
   walk_at "dx";intro j I a0;by_cases e:j=i
   ·subst e;exact J.mp rfl
   ·exact hj j I (by omega)
 ·rintro env ⟨a,rfl,hj⟩;rw[HS] at hj;walk_at "dx";refine T true ⟨λ_=>⟨V,λe D r G=>?_⟩,λ_=>rfl⟩;obtain⟨j,I,rfl⟩:=Il D;exact(L _ _).mp (hj j I I r G)
def EU(s o:List Int)(n:Nat)(t:List Int):Prop:=(∃k:Nat,(mnd s n)[k]? = some t/\cX t o (0,t)/\∀(j:Nat) u,j<k->(mnd s n)[j]? = some u->¬cX u o (0,u))/\∀m,m<n->∀u∈mnd s m,¬cX u o (0,u)
def okP(t o:List Int):Prop:=TbL t o/\¬cX t o (0,t)
def gdP(t o:List Int)(d:ab):Prop:=∃P:List (Std×Int),d=.list (dS P)/\pK t o P/\P.length<=(ji t o).length
theorem uU(P:List (Std×Int)):gr (dS P)=true:=by
 induction P with
 | nil=>rfl
 | cons e P a =>
  show((true&&((gr (li e.1.2))&&(true&&true)))&&gr (dS P))=true;rw[a,d5];rfl
theorem xC(t o:List Int)(R:Sl->List Sl->Prop)(h:okP t o)(q:∀l,gdP t o (.list l)->gr l=true->R (.ow l) [.un]):nO [.fr (.tuple [.list (t.map .int),.list (o.map .int)])] R :=
 ⟨t,o,rfl,h.1,λc=>absurd c h.2,λP a b=>q _ ⟨P,rfl,a,b⟩ (uU P)⟩
def lss(s:List Int):Nat->List (List Int)
 | 0=>[]
 | n+1=>mnd s n
def LmI(s o:List Int)(n:Nat)(env:List Sl):Prop:=∃(a:List al) (B C:Sl),env=[.fr (.tuple [.list (li s),.list (li o)]),.fr (.list (li o)),.fr (.int n),.tr a (.list (lr (lss s n))),B,C,.un]/\(∀m,m<n->∀u∈mnd s m,¬cX u o (0,u)) /\
 ((∃b,B=.tr b (.list (lr (mnd s n)))/\C=.fr .none/\∀u∈mnd s n,¬cX u o (0,u)) \/
  (B = .un/\∃c t d,∃k:Nat,C=.tr c (.tuple [.list (li t),d])/\(mnd s n)[k]? = some t/\(∀(j:Nat) u,j<k->(mnd s n)[j]? = some u->¬cX u o (0,u))/\nC t o d))
abbrev ci:Stmt:=top 22
theorem aI:az ["town", "hands", "size", "lesser", "mends", "found", "papers"] ["town"] (af ci):=⟨rfl,rfl,rfl,by decide +kernel,rfl,by decide +kernel,by decide +kernel⟩
def GU:DSp:=λss R=>∃(s o:List Int) (k:Nat) (tk:List Int),ss=[.fr (.tuple [.list (li s),.list (li o)])]/\1<=s.length/\s.length<=3/\(∀x∈s,1<=x/\x<=9)/\1<=o.length/\o.length<=3/\(∀x∈o,0<=x)/\o.sum≠0/\k<=4/\tk∈mnd s k/\cX tk o (0,tk) /\
 ∀(n:Nat) (t:List Int) (p:ab) (ps:List ab),EU s o n t->n<=k->nC t o p->ps.length=(lss s n).length->(∀(j:Nat) u,(lss s n)[j]? = some u->gdP u o (ps.getD j .none))->∀S,R (.tr S (.tuple [.int n,.list (li t),p,.list (prD (lss s n) ps)])) [.un]
theorem lh(F:Fun K "least_mend" "least_mend" ci f fd):bx K fd ["town"] []:=F.binds (ps:=["town"]) λ_ _ _ _ _ _ us a=>us1 (Q:=λus=>k3 _ ⟨us,[]⟩=pure (fy _ us)) a λ_=>rfl
theorem ko(F:Fun K "least_mend" "least_mend" ci f fd)(B:Bn mg)(b:Cal P w K mg base "mends_of" 3 (spD K (gh 2)))(a:Cal P w K mg base "first_kept" 11 (E3 K TbL Hg nC))(c:Cal P w K mg base "paper_of" 10 (spD K nO)):cq P w K mg base CX0 12 f fd ["town"] (spD K GU):=by
 refine okD (k:=11) F aI (λss R h=>?_) (by decide) (λcdv A outer s H E l=>⟨_,(ah (aM (i:=1) aI.nd rfl (eb rfl) (bd (ai (K:=K) rfl) mIx (qv 0) aj (λ_ _=>rfl)))
   (ah (dR (aC km xQ (dG (v8 (K:=K) rfl rfl) Hu rfl B.sum PyProof.Rows.boot_sum (aa (qv 1) ac)) aj (aH _)) (ak AF) aU)
   (ah (aM (i:=2) aI.nd rfl da aj)
   (ah (aM (i:=3) aI.nd rfl da (lQ ac))
   (ah (aM (i:=4) aI.nd rfl da (aR b (l.mono (by decide)) rfl (aa (bd (ai (K:=K) rfl) mIx (qv 0) aj (λ_ _=>rfl)) (aa (qf 2) ac))))
   (ah (aM (i:=5) aI.nd rfl da (y9 4 1 (K:=K) rfl a (l.mono (by decide)) rfl (aA (aG (i:=4) rfl da) (aA (aG (i:=1) rfl (eb da)) bA))))
   (ah (nZ PassesOwn.never (kh (aC zl G3 (qv 5) oh (aH _))) (ah (Dm (i:=2) aI.nd rfl da aj)
   (ah (aM (i:=3) aI.nd rfl da (h8 4))
   (ah (aM (i:=4) aI.nd rfl da (aR b (l.mono (by decide)) rfl (aa (bd (ai (K:=K) rfl) mIx (qv 0) aj (λ_ _=>rfl)) (aa (qf 2) ac))))
   (ak (aM (i:=5) aI.nd rfl da (y9 4 1 (K:=K) rfl a (l.mono (by decide)) rfl (aA (aG (i:=4) rfl da) (aA (aG (i:=1) rfl (eb da)) bA)))))))))
   (ah (uf 3 1 (i:=6) aI.nd rfl rfl da rfl rfl rfl (cU (N:=["town", "hands", "size", "lesser", "mends", "found", "papers"]) (sc0:=af ci) rfl rfl (by decide +kernel)) xC (λ_ _ _ _=>c9 (show eT (["spans", "hands"]:List bt) by decide +kernel) rfl da) (λ_ _ _ _=>(fh (aA (aG rfl da) (aA (lS c (l.mono (by decide)) rfl (aA (fh (aA (aG rfl da) (aA (aG (i:=1) rfl (by first|exact o0 rfl|exact eb da|exact eb (eb rfl))) bA))) bA)) bA)))))
   (ak (aX (Di 2 5 6 (fh (aA (aG (i:=2) rfl da) (aA (ia (ai (K:=K) rfl) (aG (i:=5) rfl da) bU (λ_ _=>rfl)) (aA (ia (ai (K:=K) rfl) (aG (i:=5) rfl da) bU (λ_ _=>rfl)) (aA (aG (i:=6) rfl da) bA)))))))))))))))),λss R h=>?_⟩)
 ·obtain⟨s,o,k,tk,rfl,_⟩:=h;rfl
 obtain⟨s,o,k,tk,rfl,h1,h2,I,J,L,O,hz,Z,hk,Q,q⟩:=h;have tbl:∀n,n<=4->∀t∈mnd s n,TbL t o:=λn hn t r=>uW h1 h2 I hn J L O r;have few:∀n,n<=4->(mnd s n).length<=125:=λn hn=>Ie (fC s n) (Cu h2 hn);walk_at "dx";refine cu (λv=>absurd v hz) (λ_=>?_);walk_at "dx";refine⟨Iz _,λy=>?_⟩;walk_at "dx";refine⟨s,0,rfl,h1,by omega,h2,by omega,λS=>?_⟩;walk_at "dx";refine⟨mnd s 0,rfl,o,rfl,tbl 0 (by omega),?_⟩;refine(λ(m:∀env,LmI s o 0 env->dNx _ (kU 1 R) env)=>⟨λp=>m _ ⟨y,_,_,rfl,λm z=>by omega,.inl ⟨S,rfl,rfl,p⟩⟩,λk' t d e1 e2 e3 _ S'=>m _ ⟨y,_,_,rfl,λm z=>by omega,.inr ⟨rfl,S',t,d,k',rfl,e1,e2,e3⟩⟩⟩) λenv T=>?_;walk_at "dx";refine⟨λM env=>∃n,LmI s o n env/\n<=k/\M=k - n,⟨_,0,T,by omega,rfl⟩,?_⟩;rintro M env ⟨n,⟨S3,B',C',rfl,j,hc⟩,x,rfl⟩;rcases hc with⟨C,rfl,rfl,e⟩|⟨rfl,S5,t,d,k',rfl,r,p,D⟩
 ·have U:n<k:=by
   rcases LB n k with h|h
   ·exact h
   ·have:n=k:=by omega
    subst this;exact absurd Q (e tk hk)
  have g:∀m,m<n+1->∀u∈mnd s m,¬cX u o (0,u):=λm z u G=>by
   rcases LB m n with h|h
   ·exact j m h u G
   ·have:m=n:=by omega
    subst this;exact e u G
  walk_at "dx";rw[show((n:Int)+1)=((n+1:Nat):Int) from rfl];refine⟨s,n+1,rfl,h1,by omega,h2,by omega,λV=>?_⟩;walk_at "dx";exact⟨mnd s (n+1),rfl,o,rfl,tbl (n+1) (by omega),λp=>⟨k - (n+1),by omega,n+1,⟨C,_,_,rfl,g,.inl ⟨V,rfl,rfl,p⟩⟩,by omega,rfl⟩,
   λk' t d e1 e2 e3 _ S'=>⟨k - (n+1),by omega,n+1,⟨C,_,_,rfl,g,.inr ⟨rfl,S',t,d,k',rfl,e1,e2,e3⟩⟩,by omega,rfl⟩⟩
 ·have W:(lss s n).length<=125/\∀t∈lss s n,okP t o:=by
   cases n with
   | zero=>exact⟨Iz _,λt h=>by cases h⟩
   | succ n=>exact⟨few n (by omega),λt h=>⟨tbl n (by omega) t h,j n (by omega) t h⟩⟩
  walk_at "dx";refine⟨lss s n,rfl,o,rfl,by omega,W.2,λS' ps X p2=>?_⟩;walk_at "dx";exact⟨by decide,λY=>q n t d ps ⟨⟨k',r,D.choose_spec.choose_spec.2.1,p⟩,j⟩ x D X p2 Y⟩
def Fd(e:Std×Int):Ent:=((e.1.1:Int),e.1.2,e.2)
theorem AZ(P:List (Std×Int)):dS P=enL (P.map Fd):=by show eP _ _=eP _ (eP _ _);rw[IK];rfl
theorem pK.out{P:List (Std×Int)}(h:pK s o P)(b:∀x∈s,1<=x):ET s o (P.map Fd):=by
 have e:(P.map Fd).map toE=P:=by rw[IK];exact List.map_id' P
 refine⟨λe a=>?_,?_⟩
 ·obtain⟨f,d,rfl⟩:=Ig.mp a;obtain⟨i1,i2,_⟩:=h.is f d;exact⟨i1.2.2,Mb _,Int.ofNat_lt.mpr i1.1,i2⟩
 ·rw[e];have self:∀{x:Std},IsS s o x->noB s o x x:=λhx=>⟨hx,rfl,hx.2.1,λc _=>Jb _⟩
  refine⟨?_,λe a r g=>?_⟩
  ·obtain⟨e,a,e1⟩:=h.bg;exact⟨e,a,by have:=self (h.is e a).1;rwa [e1] at this ⊢⟩
  ·obtain⟨e',m,i,j⟩:=h.step b a (self (h.is e a).1) ⟨r,g,rfl⟩;exact⟨e',m,j,i⟩
abbrev cE:Stmt:=top 31
theorem ca:az ["_law_papers_here", "_law_spans", "_law_hands", "_law_many", "_law_due", "_law_k"] ["_law_papers_here", "_law_spans", "_law_hands", "_law_many"] (af cE):=⟨rfl,rfl,rfl,by decide +kernel,rfl,by decide +kernel,by decide +kernel⟩
def Fp(s o:List Int)(n:Nat)(ps:List ab):Prop:=ps.length=(lss s n).length/\∀(j:Nat) u,(lss s n)[j]? = some u->TbL u o/\(ji u o).length<64/\gdP u o (ps.getD j .none)
def yQ:DSp:=λss R=>∃(s o:List Int) (n:Nat) (ps:List ab),ss=[.fr (.list (prD (lss s n) ps)),.fr (.list (li s)),.fr (.list (li o)),.fr (.int n)]/\1<=s.length/\s.length<=3/\n<=4/\Fp s o n ps/\R (.fr (.bool true)) [.un,.un,.un,.un]
theorem jv(F:Fun K "_law_papers" "_law_papers" cE f fd):bx K fd ["_law_papers_here", "_law_spans", "_law_hands", "_law_many"] []:=F.binds (ps:=["_law_papers_here", "_law_spans", "_law_hands", "_law_many"]) λ_ _ _ _ _ _ us a=>us4 (Q:=λus=>k3 _ ⟨us,[]⟩=pure (fy _ us)) a λ_ _ _ _=>rfl
theorem jo(F:Fun K "_law_papers" "_law_papers" cE f fd)(B:Bn mg)(c:Cal P w K mg base "_law_mends" 3 (spD K (cY 2)))(d:Cal P w K mg base "shuts_out" 9 (spD K tQ)):cq P w K mg base CX0 10 f fd ["_law_papers_here", "_law_spans", "_law_hands", "_law_many"] (spD K yQ):=by
 refine okD (k:=9) F ca (λss R h=>?_) (by decide) (λcdv A outer s H E g=>⟨_,(ah (aM (i:=4) ca.nd rfl da (cw ac))
   (qu (dR (aC uP mB (qv 3) aj (aH _)) (ak (aM (i:=4) ca.nd rfl da (aR c (g.mono (by decide)) rfl (aa (qf 1) (aa (bD d4 mI (qv 3) aj) ac))))) aU)
   (ah (dR (PW.pt (eX (cn (cm (gn (K:=K) rfl eR rfl B.isinstance rfl B.list hI (qv 0)))) (dP (aC uL D0 (dG (fq (K:=K) rfl) fi rfl B.len dt (aa (qv 0) ac)) (dG (fq (K:=K) rfl) fi rfl B.len dt (aa (qv 4) ac)) (aH _))))) (ak (aX gL)) aU)
   (ah (c8 PassesOwn.never rfl (bF rfl B.range (aa (dG (fq (K:=K) rfl) fi rfl B.len dt (aa (qv 4) ac)) ac)) (au (i:=5) ca.nd rfl da) (ah (dR (PW.pt (eX (cn (cm (gn (K:=K) rfl iV rfl B.isinstance rfl B.tuple mo (bd (ai (K:=K) rfl) mIx (qv 0) (qv 5) (λ_ _=>rfl))))) (eX (aC uL D0 (dG (fq (K:=K) rfl) fi rfl B.len dt (aa (bd (ai (K:=K) rfl) mIx (qv 0) (qv 5) (λ_ _=>rfl)) ac)) aj (aH _)) (dP (aC (F2 (K:=K) rfl g.units) mNe (bd (ai (K:=K) rfl) mIx (bd (ai (K:=K) rfl) mIx (qv 0) (qv 5) (λ_ _=>rfl)) aj (λ_ _=>rfl)) (bd (ai (K:=K) rfl) mIx (qv 4) (qv 5) (λ_ _=>rfl)) (aH _)))))) (ak (aX gL)) aU)
   (ah (dR (PW.pt (eX (cn (cm (gn (K:=K) rfl eR rfl B.isinstance rfl B.list hI (bd (ai (K:=K) rfl) mIx (bd (ai (K:=K) rfl) mIx (qv 0) (qv 5) (λ_ _=>rfl)) aj (λ_ _=>rfl))))) (dP (cn (cm (gn (K:=K) rfl eR rfl B.isinstance rfl B.list hI (bd (ai (K:=K) rfl) mIx (bd (ai (K:=K) rfl) mIx (qv 0) (qv 5) (λ_ _=>rfl)) aj (λ_ _=>rfl)))))))) (ak (aX gL)) aU)
   (ak (dR (aC uN FV (aR d (g.mono (by decide)) rfl (aa (hV (aa (bd (ai (K:=K) rfl) mIx (qv 4) (qv 5) (λ_ _=>rfl)) (aa (qf 2) ac))) (aa (bd (ai (K:=K) rfl) mIx (bd (ai (K:=K) rfl) mIx (qv 0) (qv 5) (λ_ _=>rfl)) aj (λ_ _=>rfl)) ac))) gL (aH _)) (ak (aX gL)) aU)))))
   (ak (aX gL)))))),λss R h=>?_⟩)
 ·obtain⟨s,o,n,ps,rfl,_⟩:=h;rfl
 obtain⟨s,o,n,ps,rfl,h1,h2,hn,⟨p,p2⟩,q⟩:=h;have l:(lss s n).length<=125:=by
  cases n with
  | zero=>exact Iz _
  | succ n=>exact Ie (fC s n) (Cu h2 (by omega))
 walk_at "dx";refine⟨Iz _,?_⟩;walk_at "dx";refine⟨λenv=>env=[.fr (.list (prD (lss s n) ps)),.fr (.list (li s)),.fr (.list (li o)),.fr (.int n),.ow (lr (lss s n)),.un],?_,?_⟩
 ·walk_at "dx";cases n with
  | zero=>exact cu (λh=>absurd h (by decide)) λ_=>rfl
  | succ n =>
   refine cu (λ_=>?_) λh=>absurd (Int.natCast_pos.mpr (Nat.succ_pos n)) h;rw[show(((n+1:Nat):Int) - 1)=(n:Int) by omega];refine⟨s,n,rfl,h1,by omega,h2,by omega,?_⟩;walk_at "dx";rfl
 rintro env rfl;have r:(prD (lss s n) ps).length=(lr (lss s n)).length:=by rw[LO,HS,p,G4]
 have t:∀j,j<(lss s n).length->atI (prD (lss s n) ps) (j:Int)=some (.tuple [.list (li ((lss s n).getD j [])),ps.getD j .none])/\atI (lr (lss s n)) (j:Int)=some (.list (li ((lss s n).getD j [])))/\TbL ((lss s n).getD j []) o/\(ji ((lss s n).getD j []) o).length<64/\gdP ((lss s n).getD j []) o (ps.getD j .none):=λj hj=>by
  have e1:(lss s n)[j]? = some ((lss s n).getD j []):=by rw[HU,HR hj];rfl
  have e2:ps[j]? = some (ps.getD j .none):=by rw[HU,HR (by omega)];rfl
  exact⟨cV (by rw[vb,e1,e2]),D3 hj,p2 j _ e1⟩
 generalize lss s n=L at *;walk_at "dx";refine cu (λh=>absurd (by rw[r]) h) λ_=>?_;walk_at "dx";rw[show(lr L).length=L.length from HS ..];refine⟨by omega,by omega,aT (λi env=>∃a:Sl,env=[.fr (.list (prD L ps)),.fr (.list (li s)),.fr (.list (li o)),.fr (.int n),.ow (lr L),a]) ⟨_,rfl⟩ ?_ ?_⟩
 ·rintro i env hi ⟨a,rfl⟩;rw[ao] at hi;rw[aL,Jx];obtain⟨e1,e2,tb,z,P,v,m,C⟩:=t i (by omega);rw[v] at e1;generalize L.getD i []=u at *;walk_at "dx";refine⟨_,e1,rfl,cu (λh=>ih h) λ_=>⟨_,e1,_,rfl,cu (λh=>absurd rfl h) λ_=>⟨_,e1,_,rfl,.list (li u),rfl,_,e2,(Sh.ints 0 u).shp (by decide),(Sh.ints 0 u).shp (by decide),cu (λh=>?_) λ_=>?_⟩⟩⟩
  ·rw[mM,decide_eq_true rfl] at h;cases h
  walk_at "dx";refine⟨_,e1,_,rfl,.list (li u),rfl,rfl,cu (λh=>ih h) λ_=>⟨_,e1,_,rfl,.list (dS P),rfl,rfl,cu (λh=>ih h) λ_=>?_⟩⟩;walk_at "dx";refine⟨_,e2,Ie (by decide) ag,_,e1,_,rfl,.list (dS P),rfl,?_⟩;rw[AZ];refine⟨u,o,P.map Fd,rfl,tb,λe x=>?_,by rw[HS];omega,λb y=>?_⟩
  ·obtain⟨f,l,rfl⟩:=Ig.mp x;exact(m.is f l).1.2.1
  ·obtain rfl:=y.mpr (m.out tb.2.2.1);walk_at "dx";exact cu (λh=>ih h) λ_=>trivial
 ·rintro env ⟨a,rfl⟩;walk_at "dx";exact q
abbrev bH:Stmt:=top 26
theorem cJ:az ["_law_plan", "_law_rows", "_law_row"] ["_law_plan"] (af bH):=⟨rfl,rfl,rfl,by decide +kernel,rfl,by decide +kernel,by decide +kernel⟩
def qa:DSp:=λss R=>∃(A B:List (List Int)),ss=[.fr (.tuple [.list (lr A),.list (lr B)])]/\A.length+B.length<100000/\(∀r∈A++B,r.length<=6)/\R (.fr (.bool true)) [.un]
theorem ja(F:Fun K "_law_is_plan" "_law_is_plan" bH f fd):bx K fd ["_law_plan"] []:=F.binds (ps:=["_law_plan"]) λ_ _ _ _ _ _ us a=>us1 (Q:=λus=>k3 _ ⟨us,[]⟩=pure (fy _ us)) a λ_=>rfl
theorem iQ(F:Fun K "_law_is_plan" "_law_is_plan" bH f fd)(B:Bn mg):cq P w K mg base CX0 1 f fd ["_law_plan"] (spD K qa):=by
 refine okD (k:=0) F cJ (λss R h=>?_) (by decide) (λcdv A outer s H E c=>⟨_,(dF (dR (PW.pt (eX (cn (cm (gn (K:=K) rfl iV rfl B.isinstance rfl B.tuple mo (qv 0)))) (dP (aC uL D0 (dG (fq (K:=K) rfl) fi rfl B.len dt (aa (qv 0) ac)) aj (aH _))))) (ak (aX gL)) aU)
   (dF (c8 PassesOwn.never rfl (C7 (K:=K) rfl (qf 0)) (au (i:=1) cJ.nd rfl da) (dF (dR (cn (cm (gn (K:=K) rfl eR rfl B.isinstance rfl B.list hI (qv 1)))) (ak (aX gL)) aU)
   (ak (c8 PassesOwn.never rfl (bj (K:=K) rfl (qf 1)) (au (i:=2) cJ.nd rfl da) (dF (dR (cn (cm (gn (K:=K) rfl eR rfl B.isinstance rfl B.list hI (qv 2)))) (ak (aX gL)) aU)
   (ak (dR (aC (F2 (K:=K) rfl c.units) mNe (dZ (N':=["_law_one"]) (ix:=[none]) rfl (cU (N:=["_law_plan", "_law_rows", "_law_row"]) (sc0:=af bH) rfl rfl (by decide +kernel)) (bj (K:=K) rfl (qf 2)) (λ_ _ _ _=>(au (i:=0) (show eT (["_law_one"]:List bt) by decide +kernel) rfl da)) (λ_ _ _ _=>(fv (PW.pt (eX (cn (cm (gn (K:=K) rfl vg rfl B.isinstance rfl B.int Lc (qv 0)))) (dP (cm (gn (K:=K) rfl qM rfl B.isinstance rfl B.bool H7 (qv 0)))))))) (λ_ _ _ _=>(qf 0))) (cw ac) (aH _)) (ak (aX gL)) aU)))))))
   (ak (aX gL)))),λss R h=>?_⟩)
 ·obtain⟨A,B,rfl,_⟩:=h;rfl
 obtain⟨A,B,rfl,h1,h2,q⟩:=h;walk_at "dd";refine cu (λh=>absurd rfl h) (λ_=>aT (λi env=>∃a b:Sl,env=[.fr (.tuple [.list (lr A),.list (lr B)]),a,b]) ⟨_,_,rfl⟩ ?_ ?_)
 ·rintro i env hi ⟨a,b,rfl⟩;obtain⟨Z,d,hz,e⟩:∃Z:List (List Int),(∀r∈Z,r.length<=6)/\Z.length<100000/\[fI (lr A),fI (lr B)][i]=.list (lr Z):=by
   match i,hi with
   | 0,_=>exact⟨A,λr c=>h2 r (HV _ c),by omega,rfl⟩
   | 1,_=>exact⟨B,λr c=>h2 r (HQ _ c),by omega,rfl⟩
  rw[e];walk_at "dd";refine aT (λi env=>∃b:Sl,env=[.fr (.tuple [.list (lr A),.list (lr B)]),.fr (.list (lr Z)),b]) ⟨_,rfl⟩ ?_ ?_
  ·rintro i env hi ⟨b,rfl⟩;rw[HS] at hi;rw[fj];have c:=d _ (cp hi);walk_at "dd";refine eD (λ_=>false) (λ_=>.none) (by rw[HS];omega) (λj hj Q l m g=>?_) ?_
   ·rw[gO];walk_at "dd";exact g rfl
   rw[show(iy (λ_=>false) (di (li (Z.getD i [])).length))=([]:List Nat) from by simp,sj];walk_at "dd";exact⟨Iz _,(Sh.ints 0 []).shp (by decide),(Sh.ints 0 []).shp (by decide),cu (λh=>ih h) (λ_=>trivial)⟩
  ·rintro env ⟨b,rfl⟩;walk_at "dd"
 ·rintro env ⟨a,b,rfl⟩;walk_at "dd";exact q
theorem Cn(b:∀x∈s,1<=x)(k:KP s o A B) :
  (∀i,i<A.length+2*B.length->(((A++B++B).getD i []).length:Int)<=o.getD (i % o.length) 0/\((A++B++B).getD i []).Pairwise (·<·)/\∀x∈(A++B++B).getD i [],0<=x/\x<s.length) /\
  ∀c,c<s.length->(∀i,i<A.length+2*B.length->(i:Int) - a9 (Pc (A++B++B) c) i<=s.getD c 0)/\(A.length:Int)+B.length<=a9 (Pc (A++B++B) c) (A.length+2*B.length):=by
 have a:=Ad k;obtain⟨f,g,d,e⟩:=k;refine⟨λi hi=>?_,λc hc=>⟨λi hi=>?_,?_⟩⟩
 ·have:=d i hi;unfold sD zp dY at this;rw[Iq,Iq,Iq,fP,kK,decide_eq_true_eq] at this;exact⟨this.2.1,this.1.1,this.1.2⟩
 ·have:=ve (o:=o) b hc i λj _=>a j;rw[<-vc (rows:=A++B++B) i λj hj=>nS (by omega),kD hc] at this;omega
 ·obtain⟨t,t1,t2⟩:=eF.mp (eG.mp e c hc);refine Int.not_lt.mp λhn=>?_;have:=d9 (Pc (A++B++B) c) (A.length+2*B.length) (A.length+B.length+t) (by omega) (by omega);unfold Pc at this;rw[jd,MF (by simp)] at this;rw[Ix,Nat.add_sub_cancel_left] at this;exact absurd t2 (of_decide_eq_false this)
abbrev c6:Stmt:=top 27
theorem aJ:az ["_law_spans", "_law_hands", "_law_plan", "_law_ahead", "_law_again", "_law_rows", "_law_day", "_law_row", "_law_k", "_law_clock", "_law_last"] ["_law_spans", "_law_hands", "_law_plan"] (af c6):=⟨rfl,rfl,rfl,by decide +kernel,rfl,by decide +kernel,by decide +kernel⟩
def p9:DSp:=λss R=>∃(s o:List Int) (A B:List (List Int)),ss=[.fr (.list (li s)),.fr (.list (li o)),.fr (.tuple [.list (lr A),.list (lr B)])]/\s.length<=6/\1<=o.length/\(∀x∈s,1<=x)/\A.length+B.length<100000/\(∀r∈A++B,r.length<=6)/\KP s o A B/\R (.fr (.bool true)) [.un,.un,.un]
theorem lm(F:Fun K "_law_keeps" "_law_keeps" c6 f fd):bx K fd ["_law_spans", "_law_hands", "_law_plan"] []:=F.binds (ps:=["_law_spans", "_law_hands", "_law_plan"]) λ_ _ _ _ _ _ us a=>us3 (Q:=λus=>k3 _ ⟨us,[]⟩=pure (fy _ us)) a λ_ _ _=>rfl
theorem kx(F:Fun K "_law_keeps" "_law_keeps" c6 f fd)(B:Bn mg):cq P w K mg base CX0 1 f fd ["_law_spans", "_law_hands", "_law_plan"] (spD K p9):=by
 refine okD (k:=0) F aJ (λss R h=>?_) (by decide) (λcdv A outer s H E M=>⟨_,(ah (Do (qf 2) (jI (K:=K) (n:=2) rfl rfl (bz (au (i:=3) aJ.nd rfl da) (bz (au (i:=4) aJ.nd rfl da) gm))))
   (ah (dR (PW.pt (eX (aC (Cs (K:=K) rfl M.units) mEq (qv 4) (cw ac) (aH _)) (dP (aC uL D0 (bD bE mIC (dG (fq (K:=K) rfl) fi rfl B.len dt (aa (qv 4) ac)) (dG (fq (K:=K) rfl) fi rfl B.len dt (aa (qv 1) ac))) aj (aH _))))) (ak (aX gL)) aU)
   (ah (aM (i:=5) aJ.nd rfl da (lP (dH (K:=K) rfl) zq (lP (dH (K:=K) rfl) zq (qv 3) (qv 4)) (qv 4)))
   (lN 5 (ah (c8 PassesOwn.never rfl (bF rfl B.range (aa (dG (fq (K:=K) rfl) fi rfl B.len dt (aa (qv 5) ac)) ac)) (au (i:=6) aJ.nd rfl da) (ah (aM (i:=7) aJ.nd rfl da (bd (ai (K:=K) rfl) mIx (qv 5) (qv 6) (λ_ _=>rfl)))
   (ah (dR (aC uP mB (dG (fq (K:=K) rfl) fi rfl B.len dt (aa (qv 7) ac)) (bd (ai (K:=K) rfl) mIx (qv 1) (bD bE mIC (qv 6) (dG (fq (K:=K) rfl) fi rfl B.len dt (aa (qv 1) ac))) (λ_ _=>rfl)) (aH _)) (ak (aX gL)) aU)
   (ak (c8 PassesOwn.never rfl (bF rfl B.range (aa (dG (fq (K:=K) rfl) fi rfl B.len dt (aa (qv 7) ac)) ac)) (au (i:=8) aJ.nd rfl da) (ak (dR (PW.pt (eX (aC uM mB (bd (ai (K:=K) rfl) mIx (qv 7) (qv 8) (λ_ _=>rfl)) aj (aH _)) (eX (aC A0 mB (bd (ai (K:=K) rfl) mIx (qv 7) (qv 8) (λ_ _=>rfl)) (dG (fq (K:=K) rfl) fi rfl B.len dt (aa (qv 0) ac)) (aH _)) (dP (PW.pt (C5 (aC uP mB (qv 8) aj (aH _)) (Ax (aC sy mB (bd (ai (K:=K) rfl) mIx (qv 7) (qv 8) (λ_ _=>rfl)) (bd (ai (K:=K) rfl) mIx (qv 7) (bD d4 mI (qv 8) aj) (λ_ _=>rfl)) (aH _))))))))) (ak (aX gL)) aU)))))))
   (ah (c8 PassesOwn.never rfl (bF rfl B.range (aa (dG (fq (K:=K) rfl) fi rfl B.len dt (aa (qv 0) ac)) ac)) (au (i:=9) aJ.nd rfl da) (ah (aM (i:=10) aJ.nd rfl da (C8 jy DZ aj))
   (ah (c8 PassesOwn.never rfl (bF rfl B.range (aa (dG (fq (K:=K) rfl) fi rfl B.len dt (aa (qv 5) ac)) ac)) (au (i:=6) aJ.nd rfl da) (ak (dR (aC (kIn (K:=K) rfl) mIn (qv 9) (bd (ai (K:=K) rfl) mIx (qv 5) (qv 6) (λ_ _=>rfl)) (by with_unfolding_all rfl)) (ah (dR (aC uP mB (bD d4 mI (qv 6) (qv 10)) (bd (ai (K:=K) rfl) mIx (qv 0) (qv 9) (λ_ _=>rfl)) (aH _)) (ak (aX gL)) aU)
   (ak (aM (i:=10) aJ.nd rfl da (qf 6)))) aU)))
   (ak (dR (aC uM mB (qv 10) (bD bI mI (dG (fq (K:=K) rfl) fi rfl B.len dt (aa (qv 3) ac)) (dG (fq (K:=K) rfl) fi rfl B.len dt (aa (qv 4) ac))) (aH _)) (ak (aX gL)) aU)))))
   (ak (aX gL)))))))),λss R h=>?_⟩)
 ·obtain⟨s,o,A,B,rfl,_⟩:=h;rfl
 obtain⟨s,o,A,B,rfl,S,ho,v,h1,h2,k,q⟩:=h;walk_at "dx";obtain⟨G,T,U,V⟩:=id k;refine⟨Iz _,(Sh.lr 0 B).shp (by decide),(Sh.ints 0 []).shp (by decide),?_⟩;rw[jV,HS,HS];refine cu (λh=>?_) (λ_=>⟨by omega,cu (λh=>?_) (λ_=>?_)⟩)
 ·have h:B=[]:=by simpa using h
  rw[h] at G;simp at G
 ·exact absurd (show((B.length:Nat):Int) % ((o.length:Nat):Int)=0 by omega) h
 have g:∀Z:List (List Int),(lr Z).length=Z.length:=λZ=>HS ..;have hz:∀k,k<=300000->k<=sizeLine:=λk hk=>Ie (by omega) ag;have e3:lr A++lr B++lr B=lr (A++B++B):=by simp
 have y:(A++B++B).length=A.length+2*B.length:=by simp;omega
 walk_at "dx";rw[Ix,g A,g B,e3];refine⟨hz _ (by omega),hz _ (by omega),?_⟩;have m:=Cn v k;have p:∀i,i<A.length+2*B.length->((A++B++B).getD i []).length<=6:=λi hi=>h2 _ (by have:=cp (l:=A++B++B) (k:=i) (by omega);simp at this ⊢;exact this);walk_at "dx";rw[g (A++B++B),y];generalize A++B++B=rows at *;obtain⟨N,O⟩:∃N,N=A.length+2*B.length:=⟨_,rfl⟩
 rw[<-O] at m p y ⊢;obtain⟨t,u⟩:=m;refine⟨by omega,by omega,aT (λi env=>∃(a b c e f:Sl),env=[.fr (.list (li s)),.fr (.list (li o)),.fr (.tuple [.list (lr A),.list (lr B)]),.fr (.list (lr A)),.fr (.list (lr B)),.fr (.list (lr rows)),a,b,c,e,f]) ⟨_,_,_,_,_,rfl⟩ ?_ ?_⟩
 ·rintro i env hi ⟨a,b,c,e,f,rfl⟩;rw[ao,IP] at hi;rw[aL,Jx];obtain⟨I,J,L⟩:=t i hi;have W:=p i hi;have d:=D3 (rr:=rows) (k:=i) (by omega);walk_at "dx";refine⟨_,d,?_⟩;generalize rows.getD i []=r at *;walk_at "dx";refine⟨by rw[HS];omega,.int (o.getD (i % o.length) 0),?_,_,rfl,cu (λh=>?_) (λ_=>?_)⟩
  ·rw[HS,show((i:Nat):Int) % ((o.length:Nat):Int)=((i % o.length:Nat):Int) from rfl];exact bV (JV _ (by omega))
  ·rw[HS] at h;omega
  walk_at "dx";rw[HS];refine⟨by omega +splitDisjunctions,by omega +splitDisjunctions,aT (λj env=>∃(c:Sl),env=[.fr (.list (li s)),.fr (.list (li o)),.fr (.tuple [.list (lr A),.list (lr B)]),.fr (.list (lr A)),.fr (.list (lr B)),.fr (.list (lr rows)),.fr (.int i),.fr (.list (li r)),c,e,f]) ⟨_,rfl⟩ ?_ ?_⟩
  ·rintro j env hj ⟨c,rfl⟩;rw[ao,IP] at hj;rw[aL,Jx];have X:=L _ (aK hj);have Q:0<j->r.getD (j - 1) 0<r.getD j 0:=λC=>by
    have:=Jm.mp J (j - 1) j (by omega) hj (by omega);rw[HU,HU,HR hj,HR (show j - 1<r.length by omega)];exact this
   have a1:atI (li r) (j:Int)=some (.int (r.getD j 0)):=bV hj;walk_at "dx";refine⟨_,a1,_,rfl,cu (λh=>by omega) (λ_=>⟨_,a1,_,rfl,cu (λh=>?_) (λ_=>cu (λC=>?_) (λ_=>trivial))⟩)⟩
   ·rw[HS] at h;omega
   ·have C:0<j:=by omega
    refine⟨_,a1,.int (r.getD (j - 1) 0),?_,_,rfl,_,rfl,cu (λh=>?_) (λ_=>trivial)⟩
    ·rw[show((j:Nat):Int) - 1=((j - 1:Nat):Int) by omega];exact bV (by omega)
    ·have:=Q C;omega
  ·rintro env ⟨c,rfl⟩;walk_at "dx"
 ·rintro env ⟨a,b,c,e,f,rfl⟩;walk_at "dx";rw[HS];refine⟨by omega,by omega,aT (λi env=>∃(a b c e f:Sl),env=[.fr (.list (li s)),.fr (.list (li o)),.fr (.tuple [.list (lr A),.list (lr B)]),.fr (.list (lr A)),.fr (.list (lr B)),.fr (.list (lr rows)),a,b,c,e,f]) ⟨_,_,_,_,_,rfl⟩ ?_ ?_⟩
  ·rintro c env hc ⟨a,b,x,e,f,rfl⟩;rw[ao,IP] at hc;rw[aL,Jx];obtain⟨I,J⟩:=u c hc;walk_at "dx";rw[HS,y];refine⟨by omega +splitDisjunctions,by omega +splitDisjunctions,aT (λi env=>∃(a b x:Sl),env=[.fr (.list (li s)),.fr (.list (li o)),.fr (.tuple [.list (lr A),.list (lr B)]),.fr (.list (lr A)),.fr (.list (lr B)),.fr (.list (lr rows)),a,b,x,.fr (.int c),.fr (.int (a9 (Pc rows c) i))]) ⟨_,_,_,rfl⟩ ?_ ?_⟩
   ·rintro i env hi ⟨a,b,x,rfl⟩;rw[ao,IP] at hi;rw[aL,Jx];have d:=D3 (rr:=rows) (k:=i) (by omega);have L:=I i hi;walk_at "dx";refine⟨_,d,_,rfl,_,bo _,cu (λD=>⟨_,bV hc,_,rfl,cu (λh=>by omega) (λ_=>?_)⟩) (λD=>?_)⟩
    ·walk_at "dx";show(i:Int)=if Pc rows c i=true then (i:Int) else a9 (Pc rows c) i
     rw[ME (show Pc rows c i=true from decide_eq_true D)]
    ·show a9 (Pc rows c) i=if Pc rows c i=true then (i:Int) else a9 (Pc rows c) i
     rw[MF (show ¬Pc rows c i=true fromλz=>D (of_decide_eq_true z))]
   ·rintro env ⟨a,b,x,rfl⟩;rw[ao,IP];walk_at "dx";rw[g A,g B];exact cu (λh=>by omega) (λ_=>trivial)
  ·rintro env ⟨a,b,c,e,f,rfl⟩;walk_at "dx";exact q
theorem EV(k:KP s o [] B)(h1:1<=s.length)(ho:∀x∈o,0<=x)(n:1<=o.length):o.sum≠0:=by
 obtain⟨p,j,f,hw⟩:=k;obtain⟨t,t1,t2⟩:=eF.mp (eG.mp hw 0 (by omega));have j:=f t (by simp;omega);obtain⟨c,_⟩:=u4.mp j;unfold yk at c;obtain⟨c,_⟩:=Jr.mp c;have c:=of_decide_eq_true c;have e:([]++B++B).getD t []=B.getD t []:=by rw[J2,jd,ME t1]
 rw[e] at c;have q:1<=(B.getD t []).length:=wi.mpr λz=>by rw[z] at t2;cases t2
 have g:∀(l:List Int),(∀x∈l,0<=x)->∀y∈l,y<=l.sum:=by
  intro l
  induction l with
  | nil=>intro _ y d;cases d
  | cons a l m =>
   intro h y d;have r:=h a (by simp);have u:0<=l.sum:=by
    clear m d
    induction l with
    | nil=>exact Jb _
    | cons b l i =>
     have v:=h b (by simp);have:=i λx hx=>h x (by
      simp at hx ⊢;rcases hx with hx|hx <;> simp[hx])
     rw[IV];omega
   rw[IV];rcases Ic.mp d with rfl|d
   ·omega
   ·have:=m (λx hx=>h x (by simp[hx])) y d;omega
 have:=g o ho _ (aK (l:=o) (k:=t % o.length) (JV _ (by omega)));omega
theorem tJ:∀(l:List Int) (j:Nat) (v:Int),j<l.length->(l.set j v).sum=l.sum - l.getD j 0+v
 | [],_,_,h=>by simp at h
 | a::l,0,v,_=>by
  show(v::l).sum=(a::l).sum - a+v;rw[IV,IV];omega
 | a::l,j+1,v,h=>by
  show(a::l.set j v).sum=(a::l).sum - l.getD j 0+v;rw[IV,IV,tJ l j v (by simpa using h)];omega
theorem tK:∀(l:List Int),(∀x∈l,x<=3)->l.sum<=3*(l.length:Int)
 | [],_=>by simp
 | a::l,h=>by
  have:=h a (by simp);have:=tK l λx hx=>h x (by simp[hx]);rw[IV,IL];omega
def GO(s o:List Int):Prop:=1<=s.length/\s.length<=3/\(∀x∈s,1<=x/\x<=3)/\1<=o.length/\o.length<=3/\(∀x∈o,0<=x)/\o.sum≠0/\∃(k:Nat) (t:List Int),k<=4/\s.sum+k<=9/\t∈mnd s k/\cX t o (0,t)
abbrev eL:Stmt:=top 30
theorem cK:az ["_law_script", "_law_draws_here", "_law_spans", "_law_hands", "_law_plan", "_law_k", "_law_at"] ["_law_script"] (af eL):=⟨rfl,rfl,rfl,by decide +kernel,rfl,by decide +kernel,by decide +kernel⟩
def CQ:DSp:=λss R=>∃ns:List Int,ss=[.fr (.list (li ns))]/\ns.length<=63/\∀s o,GO s o->R (.fr (.tuple [.list (li s),.list (li o)])) [.un]
theorem pF(F:Fun K "_law_cut" "_law_cut" eL f fd):bx K fd ["_law_script"] []:=F.binds (ps:=["_law_script"]) λ_ _ _ _ _ _ us a=>us1 (Q:=λus=>k3 _ ⟨us,[]⟩=pure (fy _ us)) a λ_=>rfl
theorem oM(F:Fun K "_law_cut" "_law_cut" eL f fd)(B:Bn mg)(g:Cal P w K mg base "_law_draws" 2 (spD K tX))(m:Cal P w K mg base "_law_made" 2 (spD K yP))(d:Cal P w K mg base "_law_pop" 1 (spD K Ap)):cq P w K mg base CX0 3 f fd ["_law_script"] (spD K CQ):=by
 refine okD (k:=2) F cK (λss R h=>?_) (by decide) (λcdv A outer s H E y=>⟨_,(ah (aM (i:=1) cK.nd rfl da (aR g (y.mono (by decide)) rfl (aa (qf 0) (aa aj (aa aj ac)))))
   (ah (Dn (i:=2) (j:=3) (k:=4) (K:=K) rfl rfl cK.nd rfl rfl rfl da da da (iI 0 m (y.mono (by decide)) rfl (aa (qv 1) ac)))
   (Az 2 (ah (c8 PassesOwn.never rfl (bF rfl B.range (aa (bD bE mIC (iI 0 d (y.mono (by decide)) rfl (aa (qv 1) ac)) (bd (ai (K:=K) rfl) mIx (cw (aa aj (aa aj (aa aj ac)))) (bD d4 mI (dG (fq (K:=K) rfl) fi rfl B.len dt (aa (qv 2) ac)) aj) (λ_ _=>rfl))) ac)) (au (i:=5) cK.nd rfl da) (ah (aM (i:=6) cK.nd rfl da (bD bE mIC (iI 0 d (y.mono (by decide)) rfl (aa (qv 1) ac)) (dG (fq (K:=K) rfl) fi rfl B.len dt (aa (qv 2) ac))))
   (ak (og 2 rfl (qv 6) (dG (wd rfl) Hv rfl B.max nk (aa aj (aa (bD d4 mI (bd (ai (K:=K) rfl) mIx (qv 2) (qv 6) (λ_ _=>rfl)) aj) ac)))))))
   (ak (aX (hV (aa (qf 2) (aa (qf 3) ac))))))))),λss R h=>?_⟩)
 ·obtain⟨ns,rfl,_⟩:=h;rfl
 obtain⟨ns,rfl,hn,q⟩:=h;walk_at "dx";refine⟨ns,2,16,rfl,hn,by decide,by decide,λl W=>?_⟩;walk_at "dx";refine⟨l,rfl,λs o l' B kp C s1 s2 _ _ G I ho S=>?_⟩;walk_at "dx";intro X J L;walk_at "dx";refine⟨l',rfl,?_⟩;walk_at "dx";obtain⟨c,M,u,N⟩:∃c:Int,atI [eC 5,eC 5,eC 3] (((li s).length:Int) - 1)=some (.int c)/\0<c/\c<=5:=by
  rw[HS];have h:s.length=1\/s.length=2\/s.length=3:=by omega
  rcases h with h|h|h <;> rw[h]
  ·exact⟨5,rfl,by decide,by decide⟩
  ·exact⟨5,rfl,by decide,by decide⟩
  ·exact⟨3,rfl,by decide,by decide⟩
 have Y:=Ju (ux l') (show c≠0 by omega);have Z:=Jp (ux l') u;refine⟨Ie (by decide) ag,_,M,c,rfl,u,by omega,by omega,aT (λi env=>∃(ld s':List Int) (a b:Sl),env=[.fr (.list (li ns)),.ow (li ld),.ow (li s'),.tr J (.list (li o)),.tr L (.tuple [.list [],fzD (lr B)]),a,b]/\s'.length=s.length/\(∀j,j<s.length->1<=s'.getD j 0/\s'.getD j 0<=s.getD j 0)/\s.sum - s'.sum<=(i:Int)) ⟨_,s,_,_,rfl,rfl,λj hj=>⟨(C _ (aK hj)).1,Jb _⟩,by omega⟩ ?_ ?_⟩
 ·rintro i env hi ⟨ld,s',a,b,rfl,n,r,p⟩;walk_at "dx";refine⟨ld,rfl,?_⟩;walk_at "dx";rw[HS];have D:(s'.length:Int)≠0:=by omega
  have q0:=Ju (ux ld) D;have O:=Jp (ux ld) (show 0<(s'.length:Int) by omega);obtain⟨j,Q⟩:∃j:Nat,ux ld % (s'.length:Int)=(j:Int):=⟨(ux ld % (s'.length:Int)).toNat,by omega⟩
  rw[Q] at O ⊢;have hj:j<s'.length:=by omega
  refine⟨by omega,?_⟩;walk_at "dx";refine⟨_,bV hj,?_⟩;walk_at "dx";obtain⟨v,ev⟩:∃v:Int,v=if s'.getD j 0 - 1>1 then s'.getD j 0 - 1 else 1:=⟨_,rfl⟩
  have T:=r j (by omega);have hv:1<=v/\v<=s'.getD j 0/\s'.getD j 0 - v<=1:=by rw[ev];split <;> omega
  rw[<-ev];refine⟨j,o4 (by rw[HS];exact hj),ld.dropLast,rfl,s'.set j v,(Lx ..).symm,by rw[II];exact n,λe U=>?_,?_⟩
  ·by_cases z:j=e
   ·subst z;rw[show(s'.set j v).getD j 0=v by rw[HU,Iy hj];rfl];omega
   ·rw[show(s'.set j v).getD e 0=s'.getD e 0 by rw[HU,Ip z,<-HU]];exact r e U
  ·rw[tJ s' j v hj];omega
 ·rintro env ⟨ld,s',a,b,rfl,n,r,p⟩;rw[ao] at p;walk_at "dx";have h9:=tK s λx hx=>(C x hx).2;have V:=tL (s:=s') (t:=s) n.symm λj hj=>(r j (by omega)).2;refine⟨Ie (by decide) ag,q s' o ⟨by omega,by omega,λx hx=>?_,G,I,ho,EV kp s1 ho G,(s.sum - s'.sum).toNat,s,by omega,by omega,uY s' _ s (λz=>by rw[z] at n;simp at n;omega) n.symm (λj hj=>(r j (by omega)).2) (by omega),kp.can⟩⟩;obtain⟨j,hj,rfl⟩:=Il hx;have h1:=r j (by omega);have h2:=C _ (aK (l:=s) (k:=j) (by omega));rw[show s'.getD j 0=s'[j] by rw[HU,HR hj];rfl] at h1;omega
abbrev dz:Stmt:=top 32
theorem cg:az ["_law_found", "_law_town", "_law_many", "_law_spans", "_law_plan", "_law_papers_here"] ["_law_found", "_law_town"] (af dz):=⟨rfl,rfl,rfl,by decide +kernel,rfl,by decide +kernel,by decide +kernel⟩
def tV:DSp:=λss R=>∃(s o t:List Int) (n:Nat) (p:ab) (ps:List ab),ss=[.fr (.tuple [.int n,.list (li t),p,.list (prD (lss s n) ps)]),.fr (.tuple [.list (li s),.list (li o)])]/\1<=s.length/\s.length<=3/\n<=4/\t∈mnd s n/\TbL t o/\nC t o p/\Fp s o n ps/\R (.fr (.bool true)) [.un,.un]
theorem nA(F:Fun K "_law_told" "_law_told" dz f fd):bx K fd ["_law_found", "_law_town"] []:=F.binds (ps:=["_law_found", "_law_town"]) λ_ _ _ _ _ _ us a=>us2 (Q:=λus=>k3 _ ⟨us,[]⟩=pure (fy _ us)) a λ_ _=>rfl
theorem lW(F:Fun K "_law_told" "_law_told" dz f fd)(B:Bn mg)(c:Cal P w K mg base "_law_mends" 3 (spD K (cY 2)))(a:Cal P w K mg base "_law_is_plan" 1 (spD K qa))(d:Cal P w K mg base "_law_keeps" 1 (spD K p9))(b:Cal P w K mg base "_law_papers" 10 (spD K yQ)):cq P w K mg base CX0 11 f fd ["_law_found", "_law_town"] (spD K tV):=by
 refine okD (k:=10) F cg (λss R h=>?_) (by decide) (λcdv A outer s H E e=>⟨_,(ah (dR (PW.pt (eX (cn (cm (gn (K:=K) rfl iV rfl B.isinstance rfl B.tuple mo (qv 0)))) (dP (aC uL D0 (dG (fq (K:=K) rfl) fi rfl B.len dt (aa (qv 0) ac)) aj (aH _))))) (ak (aX gL)) aU)
   (ah (Do (qf 0) (jI (K:=K) (n:=4) rfl rfl (bz (au (i:=2) cg.nd rfl da) (bz (au (i:=3) cg.nd rfl da) (bz (au (i:=4) cg.nd rfl da) (bz (au (i:=5) cg.nd rfl da) gm))))))
   (ah (dR (PW.pt (eX (cn (cm (gn (K:=K) rfl vg rfl B.isinstance rfl B.int Lc (qv 2)))) (eX (cm (gn (K:=K) rfl qM rfl B.isinstance rfl B.bool H7 (qv 2))) (eX (cn (xk sy mB sy mB aj (qv 2) aj)) (dP (cn (cm (gn (K:=K) rfl eR rfl B.isinstance rfl B.list hI (qv 3))))))))) (ak (aX gL)) aU)
   (ah (dR (PW.pt (eX (aC (Bp (K:=K) rfl (CV e)) Ba (qv 3) (aR c (e.mono (by decide)) rfl (aa (bd (ai (K:=K) rfl) mIx (qv 1) aj (λ_ _=>rfl)) (aa (qf 2) ac))) (by with_unfolding_all rfl)) (dP (cn (cm (aR a (e.mono (by decide)) rfl (aa (qf 4) ac))))))) (ak (aX gL)) aU)
   (ak (aX (sv (aR d (e.mono (by decide)) rfl (aa (qf 3) (aa (bd (ai (K:=K) rfl) mIx (qv 1) aj (λ_ _=>rfl)) (aa (qf 4) ac)))) (xo (aR b (e.mono (by decide)) rfl (aa (qf 5) (aa (bd (ai (K:=K) rfl) mIx (qv 1) aj (λ_ _=>rfl)) (aa (bd (ai (K:=K) rfl) mIx (qv 1) aj (λ_ _=>rfl)) (aa (qf 2) ac))))))))))))),λss R h=>?_⟩)
 ·obtain⟨s,o,t,n,p,ps,rfl,_⟩:=h;rfl
 obtain⟨s,o,t,n,p,ps,rfl,h1,h2,hn,j,tb,⟨A,B,rfl,hc,kp,l1,l2⟩,l,q⟩:=h;walk_at "dx";refine cu (λh=>absurd rfl h) λ_=>?_;walk_at "dx";refine cu (λ_=>cu (λh=>absurd (show(n:Int)<=4 by omega) h) λ_=>?_) λh=>absurd (Mb n) h;walk_at "dx";refine⟨s,n,rfl,h1,by omega,h2,by omega,?_⟩;walk_at "dx";have g:A.length+B.length<100000:=Jf l1 tb.2.2.2.2.2;refine⟨(Sh.ints 0 _).shp (by decide),(Sh.lr 0 _).shp (by decide),?_⟩;rw[ER,decide_eq_true j];refine cu (λh=>ih h) λ_=>⟨A,B,rfl,g,l2,?_⟩
 walk_at "dx";refine⟨t,o,A,B,rfl,tb.1,tb.2.1,tb.2.2.1,g,l2,kp,?_⟩;walk_at "dx";refine⟨s,o,n,ps,rfl,h1,h2,hn,l,?_⟩;walk_at "dx";exact q
theorem EU.same(h:EU s o n t)(h':EU s o m u):m=n/\u=t:=by
 obtain⟨⟨i,i1,i2,b⟩,c⟩:=h;obtain⟨⟨j,a,j2,d⟩,f⟩:=h';have e:m=n:=by
  rcases Me m n with z|z|z
  ·exact absurd j2 (c m z u (IG a))
  ·exact z
  ·exact absurd i2 (f n z t (IG i1))
 subst e;refine⟨rfl,?_⟩;rcases Me i j with z|z|z
 ·exact absurd i2 (d i t z i1)
 ·subst z;rw[i1] at a;cases a;rfl
 ·exact absurd j2 (b j u z a)
theorem wg(t:List Int):jY (li t)=true:=by
 induction t with
 | nil=>rfl
 | cons a t b =>
  show(true&&jY (li t))=true;rw[b];rfl
theorem wj(h:t.length<=6):brf (.list (li t))=true:=by show(decide ((li t).length<=100000)&&jY (li t))=true;rw[wg,HS,decide_eq_true (by omega)];rfl
theorem Ce(h:∀r∈A,r.length<=6):jY (lr A)=true:=by
 induction A with
 | nil=>rfl
 | cons r A a =>
  show(brf (.list (li r))&&jY (lr A))=true;rw[a λx hx=>h x (by simp[hx]),wj (h r (by simp))];rfl
theorem zT(h:∀r∈A,r.length<=6)(a:A.length<=100000):brf (.list (lr A))=true:=by show(decide ((lr A).length<=100000)&&jY (lr A))=true;rw[Ce h,HS,decide_eq_true a];rfl
theorem yH(P:List (Std×Int)):jY (dS P)=true:=by
 induction P with
 | nil=>rfl
 | cons e P a =>
  show((true&&((jY (li e.1.2))&&(true&&true)))&&jY (dS P))=true;rw[a,wg];rfl
theorem rQ:∀(rows:List (List Int)) (ps:List ab),(∀r∈rows,r.length<=6)->(∀d∈ps,brf d=true)->jY (prD rows ps)=true
 | [],_,_,_=>rfl
 | _::_,[],_,_=>rfl
 | r::rows,p::ps,h,a=>by
  show((brf (.list (li r))&&(brf p&&true))&&jY (prD rows ps))=true;rw[rQ rows ps (λx hx=>h x (by simp[hx])) λd hd=>a d (by simp[hd]),wj (h r (by simp)),a p (by simp)];rfl
theorem wY(g:t.length<=6)(i:s.length<=6)(b:∀r∈A++B,r.length<=6)(c:A.length+B.length<=100000)(k:(lss s n).length<=125)(f:Fp s o n ps):brf (.tuple [.int n,.list (li t),.tuple [.list (lr A),.list (lr B)],.list (prD (lss s n) ps)])=true/\∀d∈ps,∃l,d=.list l:=by
 have hd:∀d∈ps,∃P:List (Std×Int),d=.list (dS P)/\P.length<=100000:=λd hd=>by
  obtain⟨j,hj,rfl⟩:=Il hd;obtain⟨u,a⟩:∃u,(lss s n)[j]? = some u:=⟨_,HR (by rw[<-f.1];exact hj)⟩
  obtain⟨_,m,P,e,_,p⟩:=f.2 j u a;rw[show ps.getD j .none=ps[j] by rw[HU,HR hj];rfl] at e;exact⟨P,e,by omega⟩
 have a:∀r∈lss s n,r.length<=6:=λr h=>by
  cases n with
  | zero=>cases h
  | succ n=>rw[(jL s n r h).1];exact i
 refine⟨?_,λd h=>⟨_,(hd d h).choose_spec.1⟩⟩;show(true&&(brf (.list (li t))&&((brf (.list (lr A))&&(brf (.list (lr B))&&true))&&((decide ((prD (lss s n) ps).length<=100000)&&jY (prD (lss s n) ps))&&true))))=true;rw[wj g,zT (λr h=>b r (HV _ h)) (by omega),zT (λr h=>b r (HQ _ h)) (by omega),rQ _ _ a,decide_eq_true (by rw[LO];omega)]
 ·rfl
 ·intro d h;obtain⟨P,rfl,c⟩:=hd d h;show(decide ((dS P).length<=100000)&&jY (dS P))=true;rw[yH,HS,decide_eq_true c];rfl
abbrev Au:Stmt:=top 33
theorem fM:az ["_law_script", "_law_town", "_law_handed", "_law_found", "_law_spans", "_law_kept", "_law_paper", "_law_again"] ["_law_script"] (af Au):=⟨rfl,rfl,rfl,by decide +kernel,rfl,by decide +kernel,by decide +kernel⟩
def Aq:DSp:=λss R=>∃ns:List Int,ss=[.fr (.list (li ns))]/\ns.length<=63/\R (.fr (.bool true)) [.un]
theorem DU(F:Fun K "law" "law" Au f fd)(B:Bn mg)(g:Cal P w K mg base "_law_cut" 3 (spD K CQ))(b:Cal P w K mg base "least_mend" 12 (spD K GU))(c:Cal P w K mg base "_law_told" 11 (spD K tV))(d:Cal P w K mg base "_law_mends" 3 (spD K (cY 2)))(l:Cal P w K mg base "plan_of" 10 (spD K fK)):cq P w K mg base CX0 13 f fd ["_law_script"] (spD K Aq):=by
 refine okD (k:=12) F fM (λss R h=>?_) (by decide) (λcdv A outer s H E y=>⟨_,(ah (aM (i:=1) fM.nd rfl da (aR g (y.mono (by decide)) rfl (aa (qf 0) ac)))
   (ah (aM (i:=2) fM.nd rfl da (hV (aa (ki (K:=K) rfl rfl B.list (aa (bd (ai (K:=K) rfl) mIx (qv 1) aj (λ_ _=>rfl)) ac)) (aa (ki (K:=K) rfl rfl B.list (aa (bd (ai (K:=K) rfl) mIx (qv 1) aj (λ_ _=>rfl)) ac)) ac))))
   (ah (aM (i:=3) fM.nd rfl da (aR b (y.mono (by decide)) rfl (aa (qf 2) ac)))
   (ah (dR (kh (PW.pt (eX (cn (cm (aR c (y.mono (by decide)) rfl (aa (qf 3) (aa (qf 1) ac))))) (dP (aC (F2 (K:=K) rfl y.units) mNe (qv 2) (qv 1) (aH _)))))) (ak (aX gL)) aU)
   (ah (c8 PassesOwn.never rfl (bj (K:=K) rfl (aR d (y.mono (by decide)) rfl (aa (bd (ai (K:=K) rfl) mIx (qv 1) aj (λ_ _=>rfl)) (aa (oj (bd (ai (K:=K) rfl) mIx (qv 3) aj (λ_ _=>rfl))) ac)))) (au (i:=4) fM.nd rfl da) (qu (dR (kh (aC (Cs (K:=K) rfl y.units) mEq (qv 4) (bd (ai (K:=K) rfl) mIx (qv 3) aj (λ_ _=>rfl)) (aH _))) (ak AJ) aU)
   (ak (dR (aC oF DY (Dg (aR l (y.mono (by decide)) rfl (aa (hV (aa (qf 4) (aa (bd (ai (K:=K) rfl) mIx (qv 1) aj (λ_ _=>rfl)) ac))) ac))) oh (aH _)) (ak (aX gL)) aU))))
   (ah (aM (i:=5) fM.nd rfl da (AG (lO (aa (bd (ai (K:=K) rfl) mIx (qv 3) aj (λ_ _=>rfl)) (aa (ki (K:=K) rfl rfl B.list (aa (bd (ai (K:=K) rfl) mIx (qv 3) aj (λ_ _=>rfl)) ac)) ac)))))
   (xl (K:=K) (i:=3) (j:=4) (k:=6) (gp (kBm (K:=K) rfl ei gt gs cQ (ia (ai (K:=K) rfl) (aG (i:=3) rfl da) bU (λ_ _=>rfl)) (aA bU bA)))
   (gp (kBm (K:=K) rfl ei gt gs cQ (ia (ai (K:=K) rfl) (ia (ai (K:=K) rfl) (aG (i:=3) rfl da) bU (λ_ _=>rfl)) bU (λ_ _=>rfl)) (aA (qz bA) bA)))
   (uv PassesOwn.never rfl (zw (K:=K) rfl (ia (ai (K:=K) rfl) (aG (i:=3) rfl da) bU (λ_ _=>rfl))) (Bk (K:=K) rfl rfl (eM (c9 fM.nd rfl da) (eM (c9 fM.nd rfl da) oD))) (c7 (gp (kBm (K:=K) rfl ei gt gs cQ (aG (i:=4) rfl da) (aA bU bA))) (iJ (gp (kBm (K:=K) rfl ei gt gs cQ (aG (i:=6) rfl da) (aA (fh (aA bU (aA (fh (aA bU bA)) (aA bU bA)))) bA))))))
   (gp (kBm (K:=K) rfl ei gt gs cQ (ia (ai (K:=K) rfl) (aG (i:=3) rfl da) bU (λ_ _=>rfl)) (aA (qz bA) bA))) (by decide)
   (ah (aM (i:=7) fM.nd rfl da (aR b (y.mono (by decide)) rfl (aa (qf 2) ac)))
   (ak (aX (oj (sv (uk (Cs (K:=K) rfl y.units) mEq (AB (K:=K) rfl (qv 7) gl (gj aj)) (qv 5) (aH _)) (sv (aR c (y.mono (by decide)) rfl (aa (qf 7) (aa (qf 1) ac))) (xo (uk (Cs (K:=K) rfl y.units) mEq (qv 2) (qv 1) (aH _)))))))))))))))),λss R h=>?_⟩)
 ·obtain⟨ns,rfl,_⟩:=h;rfl
 obtain⟨ns,rfl,hn,q⟩:=h;walk_at "dx";refine⟨ns,rfl,hn,λs o hc=>?_⟩;walk_at "dx";obtain⟨h1,h2,h3,Y,V,Z,h7,k,tk,k4,k9,hk,ck⟩:=hc;have C:∀x∈s,1<=x/\x<=9:=λx hx=>⟨(h3 x hx).1,by have:=(h3 x hx).2;omega⟩
 have tbl:∀n,n<=4->∀t∈mnd s n,TbL t o:=λn hn t W=>uW h1 h2 C hn Y V Z W;have told:∀(n:Nat) (t:List Int) (ps:List ab),EU s o n t->n<=k->ps.length=(lss s n).length->(∀(j:Nat) u,(lss s n)[j]? = some u->gdP u o (ps.getD j .none))->t∈mnd s n/\TbL t o/\Fp s o n ps:=λn t ps J hn X hg=>by
  obtain⟨⟨i,hi,_⟩,_⟩:=J;have W:=IG hi;refine⟨W,tbl n (by omega) t W,X,λj u G=>?_⟩;have I:=IG G;cases n with
  | zero=>cases I
  | succ n =>
   have tu:=tbl n (by omega) u I;have su:=uX s n u I;have lu:=(jL s n u I).1;exact⟨tu,Ge (by omega) tu.2.2.1 (by omega) V,hg j u G⟩
 have r:Sh 2 (.tuple [.list (li s),.list (li o)]):=Sh.tuple λx hx=>by
  rcases Ic.mp hx with rfl|hx
  ·exact Sh.ints 0 s
  ·rw[HW.mp hx];exact Sh.ints 0 o
 refine⟨Ie (by decide) ag,?_⟩;walk_at "dx";refine⟨s,o,k,tk,rfl,h1,h2,C,Y,V,Z,h7,k4,hk,ck,λn t p ps J a0 X pl pg S=>?_⟩;obtain⟨m1,m2,m3⟩:=told n t ps J a0 pl pg;walk_at "dx";refine⟨s,o,t,n,p,ps,rfl,h1,h2,by omega,m1,m2,X,m3,?_⟩;walk_at "dx";refine⟨r.shp (by decide),r.shp (by decide),?_⟩;rw[kR r (by decide)];refine cu (λh=>ih h) λ_=>?_;walk_at "dx";refine⟨s,n,rfl,h1,by omega,h2,by omega,?_⟩;walk_at "dx";obtain⟨⟨k',L,b3,a4⟩,b4⟩:=id J;refine(λ(m:∀a:Sl,dNx _ (kU 1 R) [.fr (.list (li ns)),.fr (.tuple [.list (li s),.list (li o)]),.fr (.tuple [.list (li s),.list (li o)]),.tr S (.tuple [.int n,.list (li t),p,.list (prD (lss s n) ps)]),a,.un,.un,.un])=>aT (λi env=>∃a:Sl,env=[.fr (.list (li ns)),.fr (.tuple [.list (li s),.list (li o)]),.fr (.tuple [.list (li s),.list (li o)]),.tr S (.tuple [.int n,.list (li t),p,.list (prD (lss s n) ps)]),a,.un,.un,.un]/\i<=k') ⟨_,rfl,Iz _⟩ (λi env hi h=>?_) (λenv h=>by
  obtain⟨a,rfl,_⟩:=h;exact m a)) λa=>?_
 ·obtain⟨a,rfl,b5⟩:=h;rw[HS] at hi;rw[fj];have G:(mnd s n)[i]? = some ((mnd s n).getD i []):=by rw[HU,HR hi];rfl
  have I:=tbl n (by omega) _ (IG G);generalize (mnd s n).getD i []=u at *;walk_at "dx";refine⟨λenv=>env=[.fr (.list (li ns)),.fr (.tuple [.list (li s),.list (li o)]),.fr (.tuple [.list (li s),.list (li o)]),.tr S (.tuple [.int n,.list (li t),p,.list (prD (lss s n) ps)]),.fr (.list (li u)),.un,.un,.un]/\¬u=t,?_,?_⟩
  ·walk_at "dx";refine⟨(Sh.ints 0 _).shp (by decide),(Sh.ints 0 _).shp (by decide),?_⟩;rw[mM];exact cu (λ_=>m _) λh=>of_decide_eq_false (by simpa using h)
  ·rintro env ⟨rfl,a5⟩;have M:i<k':=by
    rcases LB i k' with z|z
    ·exact z
    ·have e:i=k':=by omega
     subst e;rw[G] at L;cases L;exact absurd rfl a5
   have N:=a4 i u M G;walk_at "dx";unfold EJ;walk_at "dx";refine⟨Ie (by decide) ag,u,o,rfl,I,λ_ S1=>?_,λv hv=>absurd hv.choose_spec.choose_spec.2.1 N⟩;exact⟨.none,.inr ⟨_,rfl⟩,_,rfl,cu (λh=>ih h) λ_=>⟨_,rfl,M⟩⟩
 ·walk_at "dx";obtain⟨A,B,rfl,hc,kp,l1,l2⟩:=id X;refine⟨Ie (by decide) ag,λ_=>⟨fS _,λS'=>?_⟩⟩;obtain⟨b1,b2⟩:=wY (t:=t) (A:=A) (B:=B) m2.1 (by omega) l2 (by have:=m2.2.2.2.2.2;omega) (by
   cases n with
   | zero=>exact Iz _
   | succ n=>exact Ie (fC s n) (Cu h2 (by omega))) m3
  walk_at "dx";refine⟨_,_,rfl,b1,b2,by decide,by decide,s,o,k,tk,rfl,h1,h2,C,Y,V,Z,h7,k4,hk,ck,λO t' p' Q T U a6 a7 b0 S2=>?_⟩;obtain⟨rfl,rfl⟩:=J.same T;obtain⟨g1,g2,g3⟩:=told _ _ _ T U a7 b0;walk_at "dx";rw[show pq [eC (O:Int),.list (li t'),p',.list (prD (lss s O) Q)] none (some 2)=[.int (O:Int),.list (li t')] from rfl];have D:Sh 2 (.tuple [.int (O:Int),.list (li t')]):=Sh.tuple λx hx=>by
   rcases Ic.mp hx with rfl|hx
   ·exact Sh.int 1 _
   ·rw[HW.mp hx];exact Sh.ints 0 _
  refine⟨by decide,D.shp (by decide),D.shp (by decide),?_⟩;rw[kR D (by decide)];refine cu (λ_=>?_) λh=>absurd rfl h;refine⟨s,o,t',O,p',Q,rfl,h1,h2,by omega,g1,g2,a6,g3,?_⟩;walk_at "dx";refine⟨r.shp (by decide),r.shp (by decide),?_⟩;rw[kR r (by decide)];exact q
end
theorem ES{l:rz}{K:cc}{h:bb}(X:K.In h)(G:h.Ns ke mg)(M:mg "law" = some (.ref fa))
  (g0:FnI K "_law_draws" cj)
  (g1:FnI K "_law_pop" eK)
  (g2:FnI K "hands_on" eJ)
  (g3:FnI K "behind" fO)
  (g4:FnI K "begun" kg)
  (g5:FnI K "_law_made" bp)
  (g6:FnL K "choices" dX)
  (g7:FnL K "full_rows" cN)
  (g8:FnI K "looked_through" bw)
  (g9:FnI K "plan_of" fN)
  (N:FnI K "paper_of" bX)
  (O:FnI K "mends_of" bY)
  (Q:FnI K "first_kept" c5)
  (R:FnI K "_law_mends" bN)
  (S:FnI K "next_worse" bL)
  (T:FnL K "least_ranks" cD)
  (U:FnI K "is_ranked" cM)
  (V:FnI K "leads_down" bM)
  (Y:FnI K "shuts_out" cL)
  (Z:FnI K "least_mend" ci)
  (a0:FnI K "_law_papers" cE)
  (a4:FnI K "_law_is_plan" bH)
  (a5:FnI K "_law_keeps" c6)
  (a6:FnI K "_law_cut" eL)
  (a7:FnI K "_law_told" dz)
  (b0:FnI K "law" Au)
  (z : BnI K)
  : ∃fd:j3,(∀(s:av) (v:ap),K5 s fd ⟨[v],[]⟩ [("_law_script",v)])/\∀base:bb,K.In base->base.Ns ke mg->cq l.prog w K mg base CX0 13 fa fd ["_law_script"] (spD K Aq):=by
 have B:Bn mg:=z.bn X G;refine Hy X G M b0 (λF s v=>?_) λ{fd base} J Xb=>?_
 ·obtain⟨_,_,_,_,_,_,_,_,_,rfl,_,_⟩:=F.ex;exact .of_eq rfl
 have n:=lb X G g0 ln λF=>kz (P:=l.prog) (w:=w) (base:=base) F B;have e:=lb X G g1 pE λF=>oK (P:=l.prog) (w:=w) (base:=base) F B;have D:=lb X G g2 pD λF=>oJ (P:=l.prog) (w:=w) (base:=base) F B;have d:=lb X G g3 wo λF=>uQ (P:=l.prog) (w:=w) (base:=base) F B;have g:=lb X G g4 yI λF=>xF (P:=l.prog) (w:=w) (base:=base) F B;have x:=lb X G g5 nB λF=>lX (P:=l.prog) (w:=w) (base:=base) F B e;have i:=GH X G Xb g6 sR λF L=>sB (P:=l.prog) (w:=w) F B L D;have c:=GH X G Xb g7 nu λF L=>lV (P:=l.prog) (w:=w) F B L i;have a:=lb X G g8 gG λF=>gq (P:=l.prog) (w:=w) (base:=base) F B c d;have j:=lb X G g9 sQ λF=>sA (P:=l.prog) (w:=w) (base:=base) F B a g;have E:=lb X G N pC λF=>oH (P:=l.prog) (w:=w) (base:=base) F B a g c d;have H:=He X G O fG λF o=>oI (P:=l.prog) (w:=w) (base:=base) F B o;have p:=HJ X G Q ll λF=>kt (P:=l.prog) (w:=w) (base:=base) F B j;have b:=He X G R dM λF o=>ku (P:=l.prog) (w:=w) (base:=base) F B o;have q:=lb X G S lg λF=>kn (P:=l.prog) (w:=w) (base:=base) F B;have k:=GH X G Xb T ju λF L=>jn (P:=l.prog) (w:=w) F B L q;have y:=lb X G U nt λF=>lU (P:=l.prog) (w:=w) (base:=base) F B;have r:=lb X G V lj λF=>kr (P:=l.prog) (w:=w) (base:=base) F B i d;have A:=lb X G Y nr λF=>lT (P:=l.prog) (w:=w) (base:=base) F B y k g r;have t:=lb X G Z lh λF=>ko (P:=l.prog) (w:=w) (base:=base) F B H p E;have m:=lb X G a0 jv λF=>jo (P:=l.prog) (w:=w) (base:=base) F B b A;have f:=lb X G a4 ja λF=>iQ (P:=l.prog) (w:=w) (base:=base) F B;have u:=lb X G a5 lm λF=>kx (P:=l.prog) (w:=w) (base:=base) F B;have I:=lb X G a6 pF λF=>oM (P:=l.prog) (w:=w) (base:=base) F B n x e;have C:=lb X G a7 nA λF=>lW (P:=l.prog) (w:=w) (base:=base) F B b f u m;exact DU J B I t C b j
end _W
namespace PySem.Challenge.cw_windround_k31_whole_least_mends_holds
theorem tw17309819482530555503:True:=trivial
theorem tw10999372379871758596:True:=trivial
theorem tw14825875830323389615:True:=trivial
theorem tw9223286082178422100:True:=trivial
theorem tw16295366547040503022:True:=trivial
theorem tw5267030578121041997:True:=trivial
theorem tw3415693636396452177:True:=trivial
theorem tw4991534436146366949:True:=trivial
theorem tw4446257702234448861:True:=trivial
theorem tw14013221550960429390:True:=trivial
theorem tw4788534403182369276:True:=trivial
theorem tw9437673207032926765:True:=trivial
theorem tw9255363129159296404:True:=trivial
theorem tw1611556924365885122:True:=trivial
theorem tw16684934603248226311:True:=trivial
theorem tw7890966331025412608:True:=trivial
theorem tw10803522633535309332:True:=trivial
theorem tw3201243326749161131:True:=trivial
theorem tw5624416390695738418:True:=trivial
theorem tw16557701521817589549:True:=trivial
theorem tw9268040996770671322:True:=trivial
theorem tw302778568554361659:True:=trivial
theorem tw5520682248609657371:True:=trivial
theorem tw14694030107381352242:True:=trivial
theorem tw11494347481240184305:True:=trivial
theorem tw13951070409726502417:True:=trivial
theorem tw1094060334832445782:True:=trivial
theorem tw15543045218049698302:True:=trivial
theorem tw13844461282118848843:True:=trivial
theorem tw16434803291278596087:True:=trivial
theorem tw11941274398885799698:True:=trivial
theorem tw6988761259040819123:True:=trivial
theorem tw16571502501606352861:True:=trivial
theorem tw6327038507194465757:True:=trivial
theorem tw10913598781398238389:True:=trivial
theorem tw8531961727751782415:True:=trivial
theorem tw15893906320205022388:True:=trivial
theorem tw7650500793283571642:True:=trivial
theorem tw15900206094819918589:True:=trivial
theorem tw14608826683131889696:True:=trivial
theorem tw18258686263536371476:True:=trivial
theorem tw9210789371218677637:True:=trivial
theorem tw1723730508736168092:True:=trivial
theorem tw14900899629357097326:True:=trivial
theorem tw845512910264133284:True:=trivial
theorem tw16925115204562160183:True:=trivial
theorem tw11184171218798765626:True:=trivial
theorem tw9124005950762292492:True:=trivial
theorem tw13276413412457592691:True:=trivial
theorem tw17452088621355029071:True:=trivial
theorem tw9688194178908028957:True:=trivial
theorem tw16970609731896306578:True:=trivial
theorem tw10007664541707481884:True:=trivial
theorem tw7946947086330084640:True:=trivial
theorem tw10898558727574956333:True:=trivial
theorem tw15889945504959115496:True:=trivial
theorem tw9153998536833331844:True:=trivial
theorem tw13460857988440711190:True:=trivial
theorem tw14647709186323979239:True:=trivial
theorem tw466897574662452218:True:=trivial
end PySem.Challenge.cw_windround_k31_whole_least_mends_holds
open PySem PySem.W PyProof.Rows
set_option maxRecDepth 100000 in
set_option maxHeartbeats 0 in
set_option Elab.async true in
theorem PySem.Challenge.cw_windround_k31_whole_least_mends_holds : PySem.Challenge.rw_windround_k31_whole_least_mends.Holds := by
 w_on;o_law;k_head;(case hw=>w_witness2)
 k_fill
 refine _L.Fr (l:=PySem.Challenge.rw_windround_k31_whole_least_mends) (sp:=_W.Aq) (k:=13) (by decide) rfl rfl (λns h=>⟨ns,rfl,h,rfl⟩) ?TB (λw h Y=>PySem.W.km_in_of Y) ?F
 case TB =>
  intro w s₀ mg mb h G a
  refine' _L.Al _ (_L.kF (x := "choices") (_L.kG G a rfl ?a1 ?l1 ?c1 ?lc1 ?hT1 ?hn1) (_L.kF (x := "full_rows") (_L.kG G a rfl ?a2 ?l2 ?c2 ?lc2 ?hT2 ?hn2) (_L.kF (x := "least_ranks") (_L.kG G a rfl ?a3 ?l3 ?c3 ?lc3 ?hT3 ?hn3) _L.Bi))) ?nd (_L.Bj (.inl ?y0) (.inl ?y1) (.inr ?z2) (.inl ?y3))
  (case a1=>k_is);(case l1=>k_is);(case c1=>exact rfl);(case lc1=>k_is);(case hT1=>exact⟨rfl,rfl,⟨_,_,rfl⟩,⟨_,_,rfl⟩,⟨_,rfl⟩,⟨_,_,rfl⟩,by decide⟩);(case hn1=>kernel_rfl)
  (case a2=>k_is);(case l2=>k_is);(case c2=>exact rfl);(case lc2=>k_is);(case hT2=>exact⟨rfl,rfl,⟨_,_,rfl⟩,⟨_,_,rfl⟩,⟨_,rfl⟩,⟨_,_,rfl⟩,by decide⟩);(case hn2=>kernel_rfl)
  (case a3=>k_is);(case l3=>k_is);(case c3=>exact rfl);(case lc3=>k_is);(case hT3=>exact⟨rfl,rfl,⟨_,_,rfl⟩,⟨_,_,rfl⟩,⟨_,rfl⟩,⟨_,_,rfl⟩,by decide⟩);(case hn3=>kernel_rfl)
  (case nd=>decide);(case y0=>simp);(case y1=>simp);(case z2=>k_is);(case y3=>simp)
 case F =>
  intro w mg fa h a G b
  refine' _W.ES a G b ?fn0 ?fn1 ?fn2 ?fn3 ?fn4 ?fn5 ?fn6 ?fn7 ?fn8 ?fn9 ?fn10 ?fn11 ?fn12 ?fn13 ?fn14 ?fn15 ?fn16 ?fn17 ?fn18 ?fn19 ?fn20 ?fn21 ?fn22 ?fn23 ?fn24 ?fn25 ?fz
  case fn0|fn1|fn2|fn3|fn4|fn5|fn8|fn9|fn10|fn11|fn12|fn13|fn14|fn16|fn17|fn18|fn19|fn20|fn21|fn22|fn23|fn24|fn25=>(refine' _L.fnI ?fa ?fl ?fc ?fk;(case fa=>k_is);(case fl=>k_is);(case fc=>k_is);(case fk=>k_is))
  case fn6|fn7|fn15=>(refine' _L.fnL (by decide) ?fa ?fl ?fc ?fk ?fhc ?flc ?fhT;(case fa=>k_is);(case fl=>k_is);(case fc=>k_is);(case fk=>k_is);(case fhc=>exact rfl);(case flc=>k_is);(case fhT=>exact⟨rfl,rfl,⟨_,_,rfl⟩,⟨_,_,rfl⟩,⟨_,rfl⟩,⟨_,_,rfl⟩,by decide⟩))
  case fz=>refine'⟨?_,?_,?_,?_,?_,?_,?_,?_,?_,?_,?_,?_,?_,?_,?_,?_,?_⟩ <;> k_is
