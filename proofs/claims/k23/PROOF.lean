import PyProof.Rows.All
import Wide.All
import OpenK.AllK
import Wide.FinOn
import Lean
import PyProof.EqAt
import PyProof.EqKinds
import PyProof.TupleCall
import PyProof.DictRoadsH
import PyProof.DictKinds
import PyProof.DictIter
import PyProof.DictRoads
import PyProof.DictList
import PyProof.ListMulAny
import PyProof.StrLawsTight
import KE.KIntText
import PyProof.Rows.StrItems
import PyProof.StrWalks
import KE.KSortTup
import KE.KLam
import PyProof.ExcInit
import PyProof.ExcClass3
import PyProof.InstStoreFacts
import PyProof.ExcBaseAll.ValueError
import PyProof.ExcArgsOwn
import PyProof.ExcAttrAll.ValueError
import PyProof.Rows.RuleN_isinstance
import PyProof.AutoSeq1
import KE.KRevIter
import PyProof.Rows.FactsT2
import PyProof.DictTruth
import PyProof.DictWalks
import PyProof.ListRange
import PyProof.CollectWalk
import KE.KItemsList
import PyProof.ZipIter
import PySem.Challenge.RW_windround_k23_whole_even_plans_keep
set_option compiler.extract_closed false
set_option bootstrap.genMatcherCode false
local macro_rules | `(tactic| omega) => `(tactic| first | assumption | lia)
set_option Elab.async false
set_option linter.all false
set_option maxRecDepth 100000
open PySem renaming wpAny_bind → jj, wpAny_pure → ke, starEach → kq, FuncData → k0, wpAny → qb, mainGlobals → qs, model → q3, Program → zb, sizeLine_eq → zd, bindArgs → ze, World → zf, wpAny_mono → zg, wpAny_holding → zh, compareOp → z4, wpAny_field → z5, backTo → J0, wpAny_seqItems → J1, cellsFrom → J2, wpAny_call_entry → J3, wpAny_callSpecial?_slot → J4, wpAny_truthy_bool → J5, assignEach → J6, intKind → J8, foldedSetIterable → J9, wpAny_setField_rec → Kb, Scope → Kc, IsPair → Kd, wpAny_specialOf → Ke, cLine → Kg, bootBuiltins → Kh, closureFor → Ki, attributeBase → Kj, holding → Kk, wpAny_passesOwn → Kl, rawInt → Km, wpAny_pyIter_list → Kn, wpAny_rule → Ko, sysModules → Kp, builtinsNs → Kq, wpAny_isInstance → Kr, ZipApart → Ks, codeAny_builtin → Kt, wpAny_Call_Name_kw → Ku, assign → Kv, wpAny_nextOf_list_item → Kw, codeAny → Kx, binaryOp → Ky, argBest → Kz, defaultsOf → KA, wpAny_newList → KB, wpAny_attempt → KC, standAt → KD, behindInMarks → KG, sliceBounds → KH, wpAny_execs_nil → KJ, Arguments → KM, wpAny_newTuple → KN, pyNext → KO, wpAny_newObj_type → KQ, wpAny_letGo → KS, Keyword → KW, IsZip → KY, wpAny_standAt → KZ, swapsWithSole → K0, swappedStores → K1, plainId_quiet → K2, wpAny_forIn_list → K4, swapsWith → K5, pushCells → K6, codeAny_mono → K9, wpAny_updateSeq → Qb, pushCells_keeps → Qc, letOwnedTupleGo → Qd, wpAny_nextOf_list_end → Qf, isSubtype_tuple_tuple → Qg, wpAny_updateSeq_pair → Qh, keywordEach → Qj, isTrue → Qk, codeAmong → Ql, BindsTo → Qm, wpAny_onRaise → Qn, field → Qq, wpAny_tupleItemsOf → Qr, setItem → Qs, hashInt → Qt, callerA → Qu, atKey → Qv, wpAny_pyIter_zip → Qw, wpAny_execs_cons → Qx, wpAny_eqBool_int → Qy, DictEntry → Qz, subscripted → QA, valueAt → QC, wpAny_newFunctionEnv_cells → QD, truthy → QE, reduceHash → QH, newFunctionEnv → QI, isSubtype_stop → QJ, call_meets → QL, backToKw → QM, PlainAttrs → QN, wpAny_comprehension_free → QO, updateSeq → QP, seqIndex? → QQ, eqIsQuiet → QS, bindL → QT, bindC → QU, tupleKeyHash → QW
open PyProof.Rows renaming seqObj → q4, listUpdate_at → J7, get?_update_seq → Kf, seqEpoch_at → KI, envOfC → K3, listItems_at → K8, AllBare → Qa, subscriptTail → Qo, entry_list_sort → QB, slot_list_sort → QF, size_push' → QG, failedOf → QK, Call_ → QV, subscriptTail_builtinR → QX, plain_sorted → QY, entry_sorted → Q0, call_function_entry_kw → Q1, IntsAre → Q2
open PySem.W renaming kas_sort → Ka, kas_rev → KF, kas_place → KL, kla_obj → KT, kas_asc → KU, kas_desc → K7, kla_fn → Qi, kas_tail3 → QR, kas_descPart → QZ
open PySem.MeetsSeq3 renaming plain_eq_loop → Qp
open List renaming getElem?_eq_getElem -> Hz, mem_append_right -> HA, getD_eq_getElem?_getD -> HB, length_map -> HC, mem_singleton -> HD, mem_append -> HF, mem_append_left -> HG, mem_cons_self -> HH, getElem?_eq_some_iff -> HI, mem_cons_of_mem -> HJ, size_toArray -> HM, nodup_append -> HN, mem_cons -> HP, mem_map -> HS, map_cons -> HU, mem_range -> HW, getElem?_append_left -> HY, mem_filter -> Ia, getElem?_map -> Ic, length_append -> Ie, getElem_mem -> Ih, getElem?_set_ne -> Ii, getElem?_set_self -> Ik, map_append -> Il, getElem_of_mem -> Im, length_range -> Io, map_map -> Ip, length_cons -> Iq, not_mem_nil -> Ir, nodup_cons -> Iu, drop_eq_getElem_cons -> Iw, pairwise_iff_getElem -> Ix, append_nil -> Iy, lookup_cons -> IA, length_singleton -> ID, mem_of_getElem? -> IE, filter_cons_of_pos -> II, all_eq_true -> IK, drop_of_length_le -> IL, getElem?_zip_eq_some -> IM, append_assoc -> IN, ext_getElem -> IS, getElem_map -> IT, replicate -> IV, take_of_length_le -> IZ, getElem?_append_right -> Jb, getElem?_eq_none -> Jc, length_filter_le -> Jd, zip_cons_cons -> Jf, forIn_nil -> Jg, forIn_cons -> Ji, length_zip -> Jj, filter_cons_of_neg -> Jl, length_take -> Jm, length_drop -> Jn, nodup_nil -> Jq, filter_append -> Jr, mem_iff_getElem? -> Js, find?_cons -> Ju, any_cons -> Jv, map_congr_left -> Jy, getElem?_set_self' -> JA, sum_cons -> JF, eq_nil_or_concat -> JH, concat_eq_append -> JI, drop_zero -> JJ, getElem_zip -> JL, length_reverse -> JP, getElem?_range -> JQ, of_mem_zip -> JR, range_succ -> JS, sum_append -> JT, pairwise_cons -> JX
open Nat renaming le_refl -> HK, le_trans -> HQ, lt_of_lt_of_le -> HV, ne_of_lt -> HZ, zero_le -> Ig, ne_of_gt -> Iz, mul_div_cancel_left -> IC, le_add_right -> IJ, le_succ -> IQ, pos_of_ne_zero -> IR, lt_irrefl -> IU, lt_succ_of_lt -> IW, mod_lt -> Ja, mod_eq_of_lt -> Je, pow_le_pow_right -> Jh, lt_succ_self -> Jo, lt_of_le_of_lt -> JD, mul_assoc -> JG, mul_comm -> JK, min_eq_right -> JM, min_eq_left -> JU, div_add_mod -> JW, le_of_lt -> JY
open Int renaming gcd -> Ib, toNat_natCast -> IB, emod_lt_of_pos -> IF, le_of_dvd -> IP, emod_nonneg -> IY, mul_le_mul_of_nonneg_left -> Jk, natAbs_dvd_natAbs -> Jt, mul_nonneg -> Jx, gcd_dvd_left -> Jz, eq_ofNat_of_zero_le -> JB, dvd_of_emod_eq_zero -> JC, ediv_le_self -> JN, add_mul_emod_self_left -> JO, ediv_nonneg -> JV
open Bool renaming and_eq_true -> HX, false_ne_true -> H9, false_eq_true -> Ij, not_true -> Jw, eq_iff_iff -> JE, false_and -> JZ
open PySem.Heap renaming get?_push_of_some -> HE, lt_size -> HL, get?_push_size -> HR, size_push -> IG, get?_update_self -> IH, get?_update_other -> IX, size_update -> Jp
namespace _L
open PySem PySem.Spec PyProof.Rows
noncomputable abbrev Key:=Sum Int Str
noncomputable def Dx:Key->Value->Bool
 | .inl k,v=>Value.isInt k v
 | .inr x,v=>Value.isStrOf x v
noncomputable def Hb (w:zf):Key->Int
 | .inl k=>Qt k
 | .inr x=>hashStr w x
theorem bo:∀ {k:Key}{v:Value},Dx k v=true->(∃ i t,k=Sum.inl i/\v=Value.int i t)\/(∃ x t,k=Sum.inr x/\v=Value.str x t)
 | .inl i,v,h=>by
  obtain⟨t,e⟩:=Value.isInt_shape (k:=i) (v:=v) h
  exact .inl ⟨i,t,rfl,e⟩
 | .inr x,v,h=>by
  obtain⟨t,e⟩:=Value.isStrOf_shape (x:=x) (v:=v) h
  exact .inr ⟨x,t,rfl,e⟩
theorem Dw (a b:Int):decide ((Sum.inl a:Key)=Sum.inl b)=(a==b):=by
 by_cases e:a=b
 ·subst e;simp
 ·have h:¬(Sum.inl a:Key)=Sum.inl b:=λq=>e (Sum.inl.inj q)
  rw[decide_eq_false h]
  exact(beq_eq_false_iff_ne.mpr e).symm
theorem Dt (a b:Str):decide ((Sum.inr a:Key)=Sum.inr b)=decide (a=b):=by
 by_cases e:a=b
 ·subst e;simp
 ·have h:¬(Sum.inr a:Key)=Sum.inr b:=λq=>e (Sum.inr.inj q)
  rw[decide_eq_false h,decide_eq_false e]
theorem Dv (a:Int) (b:Str):decide ((Sum.inl a:Key)=Sum.inr b)=false:=decide_eq_false (λq=>nomatch q)
theorem Du (a:Str) (b:Int):decide ((Sum.inr a:Key)=Sum.inl b)=false:=decide_eq_false (λq=>nomatch q)
noncomputable def nG (prog:zb) (w:zf):PySem.KeyKind prog w Key where
 is := Dx
 hash:=Hb w
 inj := λv a b f d=>by
  rcases bo f with⟨i,t,rfl,rfl⟩|⟨x,t,rfl,rfl⟩
  ·rcases bo d with⟨j,u,rfl,e⟩|⟨y,u,rfl,e⟩
   ·injection e with e1 _;rw[e1]
   ·exact nomatch e
  ·rcases bo d with⟨j,u,rfl,e⟩|⟨y,u,rfl,e⟩
   ·exact nomatch e
   ·injection e with e1 _;rw[e1]
 byValue:=λk v h=>by
  rcases bo h with⟨i,t,rfl,rfl⟩|⟨x,t,rfl,rfl⟩ <;> rfl
 pyHash:=λc h=>by
  rcases bo c with⟨i,t,rfl,rfl⟩|⟨x,t,rfl,rfl⟩
  ·exact wpAny_pyHash_int h
  ·exact wpAny_pyHash_str h
 eqBool:=λg c h=>by
  rcases bo g with⟨i,t,rfl,rfl⟩|⟨x,t,rfl,rfl⟩
  ·rcases bo c with⟨j,u,rfl,rfl⟩|⟨y,u,rfl,rfl⟩
   ·rw[Dw] at h;exact Qy h
   ·rw[Dv] at h;exact SeqAt.EqAt.int_str i t y u _ _ _ _ h
  ·rcases bo c with⟨j,u,rfl,rfl⟩|⟨y,u,rfl,rfl⟩
   ·rw[Du] at h;exact SeqAt.EqAt.str_int x t j u _ _ _ _ h
   ·rw[Dt] at h;exact wpAny_eqBool_str h
 «strs»:=λk x t v h=>by
  rcases bo h with⟨i,u,rfl,e⟩|⟨y,u,rfl,e⟩
  ·exact nomatch e
  ·injection e with e1 _
   subst e1
   cases v <;> rfl
inductive V where
 | non|bl (b:Bool)|int (i:Int)|str (x:Str)|byt (b:Array UInt8)|flt (b:UInt64)|ref (a:Addr)|ty (n:String)
 deriving DecidableEq
noncomputable def bw:V->Value->Prop
 | .non,u=>u=Value.none
 | .bl b,u=>u=Value.bool b
 | .int i,u=>∃ t,u=Value.int i t
 | .str x,u=>∃ t,u=Value.str x t
 | .byt b,u=>∃ t,u=Value.bytes b t
 | .flt b,u=>∃ t,u=Value.float b t
 | .ref a,u=>u=Value.ref a
 | .ty n,u=>u=Value.type n
noncomputable abbrev aX:List V->List Value->Prop:=Paired bw
theorem aX.length {xs:List V}{us:List Value} (r:aX xs us):xs.length=us.length:=Paired.length r
theorem aX.get:∀ {xs:List V}{us:List Value}{i:Nat}{x:V},aX xs us->xs[i]? = some x->∃ u,us[i]? = some u/\bw x u
 | _,_,_,_,.nil,e=>by simp at e
 | _,_,0,_,.cons r _,e=>by simp at e;subst e;exact⟨_,rfl,r⟩
 | _,_,i+1,x,.cons _ t,e=>by
  obtain⟨u,h1,h2⟩:=aX.get (i:=i) (x:=x) t (by simpa using e)
  exact⟨u,by simpa using h1,h2⟩
theorem aX.set {x:V}{u:Value} (r:bw x u):∀ {xs:List V}{us:List Value} (i:Nat),aX xs us->aX (xs.set i x) (us.set i u)
 | _,_,_,.nil=>.nil
 | _,_,0,.cons _ t=>.cons r t
 | _,_,i+1,.cons q t=>.cons q (aX.set r i t)
theorem aX.append:∀ {xs ys:List V}{us a:List Value},aX xs us->aX ys a->aX (xs++ys) (us++a)
 | _,_,_,_,.nil,s=>s
 | _,_,_,_,.cons r t,s=>.cons r (aX.append t s)
theorem aX.take:∀ {xs:List V}{us:List Value} (n:Nat),aX xs us->aX (xs.take n) (us.take n)
 | _,_,0,_=>.nil
 | _,_,_+1,.nil=>.nil
 | _,_,n+1,.cons r t=>.cons r (aX.take n t)
theorem aX.drop:∀ {xs:List V}{us:List Value} (n:Nat),aX xs us->aX (xs.drop n) (us.drop n)
 | _,_,0,r=>r
 | _,_,_+1,.nil=>.nil
 | _,_,n+1,.cons _ t=>aX.drop n t
noncomputable def GL:Option V->Option Value->Prop
 | some v,some u=>bw v u
 | none,none=>True
 | _,_=>False
noncomputable def KV {κ:Type}:List (κ×V)->List (κ×Value)->Prop:=Paired λ(p:κ×V) (q:κ×Value)=>p.1=q.1/\bw p.2 q.2
noncomputable def kV:Key->V
 | .inl i=>.int i
 | .inr x=>.str x
inductive HO where
 | lst (xs:List V)
 | tup (xs:List V)
 | dK (kvs:List (Key×V))|dT (kvs:List (List Key×V))
 | set (S:Int->Bool) (n:Nat)
 | ins (C dx:Addr) (fs:List (Str×V))
 | own (x:Addr)
 | xd (fs:List (Str×V))
 | met (f x:Addr)
 | rng (lo hi:Int)
 | frz (o:Obj) (u:HO)
 | tbl (q:Str)
 | ext (φ:Heap->Prop)
noncomputable abbrev Hp:=Addr->Option HO
noncomputable def Fix:HO->Prop
 | .tup _=>True
 | .frz _ _=>True
 | _=>False
noncomputable def BR (H:Hp) (h:Heap) (a:Addr) (q:Str):Prop:=∃ ps:Array Value,h.get? a=some { cls:=.none,data:=.fields ps }/\TriplesOk ps.toList /\
 ∀ pos b,Ql pos ps.toList=some b->∃ c oc u vs t,b=.ref c/\H c=some (.frz oc u)/\oc.data=.fields vs/\vs[1]? = some (.str q t)
noncomputable def upd (H:Hp) (a:Addr) (o:HO):Hp:=λb=>if b=a then some o else H b
theorem aB {H:Hp}{a:Addr}{o:HO}:upd H a o a=some o:=by unfold upd;rw[if_pos rfl]
theorem al {H:Hp}{a b:Addr}{o:HO} (h:b≠a):upd H a o b=H b:=by unfold upd;rw[if_neg h]
theorem ay {H:Hp}{a b:Addr}{o:HO} (h:H a=some o) (h':H b=none):a≠b:=by
 intro e;subst e;rw[h] at h';cases h'
noncomputable def xJ (h:Heap) (a:Addr) (b:Array Value):Prop:=∃ o,h.get? a=some o/\o.cls=.type "tuple" /\ (∃ n,o.data=.seq b n)/\o.dict=none
theorem xJ.is {h:Heap}{a:Addr}{b:Array Value} (p:xJ h a b):IsTup h a b:=let ⟨o,e,c,n,_⟩:=p;⟨o,e,c,n⟩
theorem xJ.lt {h:Heap}{a:Addr}{b:Array Value} (p:xJ h a b):a<h.objs.size:=p.is.lt
theorem xJ.new (h:Heap) (items:Array Value):xJ (h.push { cls:=.type "tuple",data:=.seq items }) h.objs.size items:=⟨_,HR _ rfl,rfl,⟨_,rfl⟩,rfl⟩
section
variable (P:zb) (w:zf)
noncomputable def eR (H:Hp) (h:Heap) (a:Addr):HO->Prop
 | .lst xs=>xs.length<=sizeLine/\∃ (b:List Value) (n:Nat),aX xs b/\h.get? a=some { cls:=.type "list",data:=.seq b.toArray n }
 | .tup xs=>xs.length<=sizeLine/\∃ b:List Value,aX xs b/\xJ h a b.toArray
 | .dK kvs=>kvs.length<=sizeLine/\(a==Kp)=false/\∃ vs,KV kvs vs/\h.DictOf (nG P w) a vs
 | .dT kvs=>kvs.length<=sizeLine/\(a==Kp)=false/\∃ xs:List (List Key×Addr×Value),
   Paired (λ(p:List Key×V) (q:List Key×Addr×Value)=>p.1=q.1/\H q.2.1=some (.tup (p.1.map kV))/\bw p.2 q.2.2) kvs xs /\
   ∃ o es ep,h.get? a=some o/\o.ExactDict/\o.data=.dict es ep/\es.toList=xs.map (entryOfKey (tupleKind (nG P w)))/\(xs.map (·.1)).Nodup
 | .set S n=>h.SetOf (J8 P w) a S n
 | .ins C dx fs=>H dx=some (.own a)/\fs.length<=1000/\dx≠a/\h.get? a=some (PySem.W.instObj C dx) /\
   ∃ c,h.Ns1 dx c/\(∀ f,GL (fs.lookup f) (c f))/\PySem.Within c (fs.map (·.1))
 | .own _=>∃ o,h.get? a=some o
 | .xd fs=>∃ c,h.Ns1 a c/\∀ f,GL (fs.lookup f) (c f)
 | .rng lo hi=>∃ t u v,h.get? a=some { cls:=.type "range",data:=.fields #[.int lo t,.int hi u,.int 1 v] }
 | .frz o u=>h.get? a=some o/\eR H h a u
 | .tbl q=>BR H h a q
 | .met f x=>h.get? a=some (PySem.W.methodObj (.ref f) (.ref x))
 | .ext φ=>φ h/\(∃ o,h.get? a=some o)/\∀ h1 h2:Heap,φ h1->(∀ o,h1.get? a=some o->h2.get? a=some o)->φ h2
noncomputable def HOk (H:Hp) (h:Heap):Prop:=∀ a o,H a=some o->eR P w H h a o
end
section
variable {P:zb}{w:zf}{H H':Hp}{h h':Heap}{a:Addr}{o:HO}
theorem eR.lt (x:eR P w H h a o):a<h.objs.size:=by
 cases o with
 | lst xs=>obtain⟨_,_,_,_,e⟩:=x;exact HL e
 | tup xs=>obtain⟨_,_,_,p⟩:=x;exact p.lt
 | dK kvs=>obtain⟨_,_,_,_,o,_,_,e,_⟩:=x;exact HL e
 | dT kvs=>obtain⟨_,_,_,_,o,_,_,e,_⟩:=x;exact HL e
 | set S n=>obtain⟨o,_,_,_,e,_⟩:=x;exact HL e
 | ins C dx fs=>obtain⟨_,_,_,e,_⟩:=x;exact HL e
 | own y=>obtain⟨_,e⟩:=x;exact HL e
 | xd fs=>obtain⟨_,⟨_,_,_,e,_⟩,_⟩:=x;exact HL e
 | rng lo hi=>obtain⟨_,_,_,e⟩:=x;exact HL e
 | frz ob u=>obtain⟨e,_⟩:=x;exact HL e
 | tbl q=>obtain⟨_,e,_⟩:=x;exact HL e
 | met f y=>exact HL (show h.get? a=some _ from x)
 | ext φ=>obtain⟨_,⟨_,e⟩,_⟩:=x;exact HL e
theorem Paired.mapP {α β:Type}{F G:α->β->Prop}:∀ {c:List α}{d:List β},Paired F c d->(∀ a b,F a b->G a b)->Paired G c d
 | _,_,.nil,_=>.nil
 | _,_,.cons r t,f=>.cons (f _ _ r) (Paired.mapP t f)
theorem eR.stay (x:eR P w H h a o) (k:∀ b u,(b=a\/H b=some (.own a))->h.get? b=some u->h'.get? b=some u)
  (ho:∀ b,H b=some (.own a)->H' b=some (.own a)) (l:∀ b o,Fix o->H b=some o->H' b=some o):eR P w H' h' a o:=by
 induction o with
 | lst xs=>obtain⟨z,g,n,r,e⟩:=x;exact⟨z,g,n,r,k _ _ (.inl rfl) e⟩
 | tup xs=>obtain⟨z,g,r,ob,e,c⟩:=x;exact⟨z,g,r,ob,k _ _ (.inl rfl) e,c⟩
 | dK kvs=>obtain⟨z,y,vs,r,ob,es,ep,e,c⟩:=x;exact⟨z,y,vs,r,ob,es,ep,k _ _ (.inl rfl) e,c⟩
 | dT kvs =>
  obtain⟨z,y,xs,r,ob,es,ep,e,c⟩:=x
  exact⟨z,y,xs,Paired.mapP r λp q z=>⟨z.1,l _ _ trivial z.2.1,z.2.2⟩,ob,es,ep,k _ _ (.inl rfl) e,c⟩
 | set S n=>obtain⟨ob,es,ep,t,e,c⟩:=x;exact⟨ob,es,ep,t,k _ _ (.inl rfl) e,c⟩
 | ins C dx fs =>
  obtain⟨d,z,ne,e,i,⟨od,es,ep,e2,c⟩,r⟩:=x
  exact⟨ho _ d,z,ne,k _ _ (.inl rfl) e,i,⟨od,es,ep,k _ _ (.inr d) e2,c⟩,r⟩
 | own y=>obtain⟨ob,e⟩:=x;exact⟨ob,k _ _ (.inl rfl) e⟩
 | xd fs=>obtain⟨i,⟨od,es,ep,e,c⟩,r⟩:=x;exact⟨i,⟨od,es,ep,k _ _ (.inl rfl) e,c⟩,r⟩
 | rng lo hi=>obtain⟨t,u,v,e⟩:=x;exact⟨t,u,v,k _ _ (.inl rfl) e⟩
 | frz ob u m=>obtain⟨e,q⟩:=x;exact⟨k _ _ (.inl rfl) e,m q⟩
 | tbl q =>
  obtain⟨ps,e,t,c⟩:=x
  exact⟨ps,k a _ (.inl rfl) e,t,λpos s j=>let ⟨b,oc,u,vs,t,e1,e2,e3⟩:=c pos s j;⟨b,oc,u,vs,t,e1,l _ _ trivial e2,e3⟩⟩
 | met f y =>
  have e:h.get? a=some (PySem.W.methodObj (.ref f) (.ref y)):=x
  show h'.get? a=some (PySem.W.methodObj (.ref f) (.ref y))
  exact k a _ (.inl rfl) e
 | ext φ=>obtain⟨p,⟨o,e⟩,st⟩:=x;exact⟨st _ _ p λo q=>k _ _ (.inl rfl) q,⟨o,k _ _ (.inl rfl) e⟩,st⟩
theorem HOk.lt (x:HOk P w H h) (e:H a=some o):a<h.objs.size:=(x a o e).lt
theorem HOk.fresh (x:HOk P w H h) (e:h.objs.size<=a):H a=none:=by
 cases q:H a with
 | none=>rfl
 | some u=>exact absurd (HV (x.lt q) e) (IU _)
theorem HOk.kept (x:HOk P w H h) (k:∀ b u,h.get? b=some u->h'.get? b=some u):HOk P w H h':=λa o e =>
 (x a o e).stay (λb u _ q=>k b u q) (λ_ q=>q) λ_ _ _ q=>q
theorem HOk.laid (x:HOk P w H h) (k:∀ b u,h.get? b=some u->h'.get? b=some u) (f:h.objs.size<=a) (new:eR P w (upd H a o) h' a o):HOk P w (upd H a o) h':=λb u e=>by
 have hn:=x.fresh f
 by_cases d:b=a
 ·subst d;rw[aB] at e;cases e;exact new
 ·rw[al d] at e
  exact(x b u e).stay (λc v _ q=>k c v q) (λc q=>by rw[al (ay q hn)];exact q) λc xs _ q=>by rw[al (ay q hn)];exact q
end
noncomputable def Rd (H:Hp) (a:Addr) (u:HO):Prop:=H a=some u\/∃ o,H a=some (.frz o u)
theorem Rd.ok {P:zb}{w:zf}{H:Hp}{h:Heap}{a:Addr}{u:HO} (r:Rd H a u) (x:HOk P w H h):eR P w H h a u:=by
 rcases r with r|⟨o,r⟩
 ·exact x a u r
 ·obtain⟨_,q⟩:=x a _ r
  exact q
noncomputable def Mut:Option HO->Prop
 | some (.lst _)=>True
 | some (.dK _)=>True
 | some (.dT _)=>True
 | some (.set _ _)=>True
 | some (.ins _ _ _)=>True
 | some (.ext _)=>True
 | _=>False
section
variable {P:zb}{w:zf}{H:Hp}{h h':Heap}{x e:Addr}{o':HO}
theorem HOk.write (ok:HOk P w H h) (i:Mut (H x)) (m:e=x\/H e=some (.own x)) (k:∀ b u,b≠e->h.get? b=some u->h'.get? b=some u) (l:∃ u,h'.get? e=some u)
  (new:eR P w (upd H x o') h' x o'):HOk P w (upd H x o') h':=λb u q=>by
 have d:∀ c y,H c=some (.own y)->c≠x:=λc y r z=>by subst z;rw[r] at i;exact i
 have g:∀ c o,Fix o->H c=some o->c≠x:=λc o f r z=>by subst z;rw[r] at i;cases o <;> first|exact i|exact f
 by_cases j:b=x
 ·subst j;rw[aB] at q;cases q;exact new
 ·rw[al j] at q
  by_cases a:b=e
  ·have n:H b=some (.own x):=by
    rcases m with z|z
    ·exact absurd (a.trans z) j
    ·rw[a];exact z
   rw[q] at n;cases n
   obtain⟨v,p⟩:=l
   exact⟨v,by rw[a];exact p⟩
  ·refine(ok b u q).stay (λc v hc r=>k c v ?_ r) (λc r=>by rw[al (d c b r)];exact r) λc xs f r=>by rw[al (g c xs f r)];exact r
   rcases hc with rfl|hc
   ·exact a
   ·rintro rfl
    rcases m with z|z
    ·exact d c b hc z
    ·rw[hc] at z;cases z;exact j rfl
end
structure Un (fs ex:List Addr) (H H':Hp) (h h':Heap):Prop where
 keep:∀ b o,h.get? b=some o->H b=none->b ∉ fs->b ∉ ex->h'.get? b=some o
 slot:∀ b o,h.get? b=some o->H b=none->b∈fs->b ∉ ex->∃ sl,h'.get? b=some { o with slots:=sl }
 free:∀ b o,h.get? b=some o->H b=none->b ∉ ex->H' b=none
 there:∀ b o,h.get? b=some o->b ∉ ex->∃ o',h'.get? b=some o'
 tups:∀ b xs,H b=some (.tup xs)->H' b=some (.tup xs)
 frzs:∀ b o u,H b=some (.frz o u)->H' b=some (.frz o u)
 tbls:∀ b q,H b=some (.tbl q)->H' b=some (.tbl q)
section
variable {fs ex:List Addr}{H H1:Hp}{h h1 h':Heap}{a x e:Addr}{o:HO}
theorem Un.any (u:Un fs ex H H1 h h1) {b:Addr}{ob:Obj} (q:h.get? b=some ob) (n:H b=none) (hx:b ∉ ex):∃ sl,h1.get? b=some { ob with slots:=sl }:=by
 by_cases a:b∈fs
 ·exact u.slot b ob q n a hx
 ·exact⟨ob.slots,u.keep b ob q n a hx⟩
theorem Un.kept (k:∀ b u,h.get? b=some u->h'.get? b=some u):Un fs ex H H h h' :=
 ⟨λb ob q _ _ _=>k b ob q,λb ob q _ _ _=>⟨ob.slots,k b ob q⟩,λ_ _ _ n _=>n,λb ob q _=>⟨ob,k b ob q⟩,λ_ _ q=>q,λ_ _ _ q=>q,λ_ _ q=>q⟩
theorem Un.refl:Un fs ex H H h h:=Un.kept λ_ _ q=>q
theorem Un.laid (k:∀ b u,h.get? b=some u->h'.get? b=some u) (c:h.objs.size<=a) (hn:H a=none):Un fs ex H (upd H a o) h h' where
 keep:=λb u q _ _ _=>k b u q
 slot:=λb u q _ _ _=>⟨u.slots,k b u q⟩
 free:=λb u q n _=>by rw[al (HZ (HV (HL q) c))];exact n
 there:=λb u q _=>⟨u,k b u q⟩
 tups:=λb xs q=>by rw[al (ay q hn)];exact q
 frzs:=λb u xs q=>by rw[al (ay q hn)];exact q
 tbls:=λb ps q=>by rw[al (ay q hn)];exact q
theorem Un.write (c:Mut (H x)) (i:e=x\/H e=some (.own x)) (k:∀ b u,b≠e->h.get? b=some u->h'.get? b=some u) (d:∃ u,h'.get? e=some u):Un fs ex H (upd H x o) h h':=by
 have hx:∀ b,H b=none->b≠x:=λb n z=>by subst z;rw[n] at c;exact c
 have g:∀ b,H b=none->b≠e:=λb n z=>by
  subst z
  rcases i with r|r
  ·exact hx b n r
  ·rw[n] at r;cases r
 have f:∀ b u,H b=some u->¬Mut (some u)->b≠x:=λb u q j z=>by subst z;rw[q] at c;exact j c
 refine⟨λb u q n _ _=>k b u (g b n) q,λb u q n _ _=>⟨u.slots,k b u (g b n) q⟩,λb u q n _=>by rw[al (hx b n)];exact n,λb u q _=>?_,
  λb xs q=>by rw[al (f b _ q λz=>z)];exact q,λb u xs q=>by rw[al (f b _ q λz=>z)];exact q,λb ps q=>by rw[al (f b _ q λz=>z)];exact q⟩
 by_cases a:b=e
 ·subst a;exact d
 ·exact⟨u,k b u a q⟩
end
noncomputable def trk (h:Heap) (H:Hp):List Addr:=(List.range h.objs.size).filter λa=>(H a).isSome
noncomputable def vt (h:Heap) (H:Hp):Heap:=PySem.W.hideAll h (trk h H)
theorem ux (h:Heap) (H:Hp):(vt h H).objs.size=h.objs.size:=PySem.W.hideAll_size _ _
theorem wK {h:Heap}{H:Hp}{b:Addr}{o:Obj} (e:h.get? b=some o) (n:H b=none):(vt h H).get? b=some o :=
 PySem.W.hideAll_get _ e λa=>by
  have q:(H b).isSome=true:=(Ia.mp a).2
  rw[n] at q;simp at q
theorem Az {h:Heap}{H:Hp}{b:Addr}{o:Obj} (e:(vt h H).get? b=some o):h.get? b=some o/\H b=none:=by
 have a:h.get? b=some o:=PySem.W.of_hideAll (trk h H) e
 refine⟨a,?_⟩
 cases q:H b with
 | none=>rfl
 | some x =>
  have c:b∈trk h H:=Ia.mpr ⟨HW.mpr (HL a),by simp[q]⟩
  have z:(vt h H).get? b=none:=PySem.W.hideAll_none (trk h H) c
  rw[z] at e;cases e
noncomputable def BP (g h:Heap) (L:Addr):List (Addr×Obj):=(List.range h.objs.size).filterMap λa=>if a=L\/(g.get? a).isSome=true then none else (h.get? a).map λo=>(a,o)
noncomputable def rest (g h:Heap) (L d:Addr):List (Addr×Obj):=(BP g h L).filter λp=>decide (p.1≠d)
structure Mod (K:PySem.W.Frag) (mg:Str->Option Value) (base:Heap):Prop where
 kin:K.In base
 glob:base.Ns qs mg
 blt:∃ mb,base.Ns Kq mb/\∀ x:Str,x ≠ "__name__" -> mb x=Kh x
 nolimit:base.NoLimit
 bmain:∃ bm ob,mg "__builtins__" = some (.ref bm)/\bm≠Kq/\base.get? bm=some ob/\ob.cls=.type "module" /\ ob.dict=some Kq/\ob.data=.plain
noncomputable def eL:List Str:=["choices", "full_rows", "chain_plan", "least_ranks"]
noncomputable def iT (K:PySem.W.Frag) (T:Addr) (q:Str):Prop:=∃ x∈eL,∃ f o fd c oc vs,PySem.W.nsIn K qs x=some (some (.ref f))/\K.lookup f=some o/\o.data=.func fd/\fd.code=.ref c /\
 K.lookup c=some oc/\oc.data=.fields vs/\vs[11]? = some (.ref T)/\q=x ++ ".<locals>.<lambda>"
noncomputable def zj (K:PySem.W.Frag) (H:Hp):Prop:=∀ T q,iT K T q->H T=some (.tbl q)
structure Cx where
 prog:zb
 w : zf
 K : PySem.W.Frag
 mg : Str->Option Value
 base:Heap
 A : Around
 N : List Str
 s₀ : Shared
 H₀ : Hp
 env:Env
 outer:List Env
 stack:List Env
 ex : List Addr
 fn : Str->Bool
 calm:Bool
 pn : List (Addr×Obj)
 xe : Value->Shared->Prop
noncomputable def frs (l:List Env):List Addr:=l.filterMap (·.frame)
noncomputable abbrev Cx.fs (X:Cx):List Addr:=frs X.outer
noncomputable def Vis (sc:Kc) (x:Str):Prop:=sc.names.lookup x=some .local\/sc.names.lookup x=some .cell\/sc.names.lookup x=some .free
noncomputable def Loc (sc:Kc) (x:Str):Prop:=sc.names.lookup x=some .local\/sc.names.lookup x=some .cell
noncomputable def Hx (env:Env) (h:Heap) (m:Str->Option Value) (x:Str) (u:Value):Prop :=
 (env.kindOf x=some .local/\m x=some u)\/((env.kindOf x=some .cell\/env.kindOf x=some .free)/\∃ c,env.cells.lookup x=some c/\h.IsCell c (some u))
structure Cx.Ok (X:Cx):Prop where
 mod:Mod X.K X.mg X.base
 kind:X.env.scope.kind=.function
 glob:X.env.globals=qs
 blt:X.env.builtins=Kq
 above:X.s₀.heap.objs.size<=X.env.locals
 inj:∀ x y c,X.env.cells.lookup x=some c->X.env.cells.lookup y=some c->x=y
 has:∀ x,(X.env.kindOf x=some .cell\/X.env.kindOf x=some .free)->∃ c,X.env.cells.lookup x=some c
 cab:∀ x c,X.fn x=true->X.env.cells.lookup x=some c->X.s₀.heap.objs.size<=c
 hd : X.calm=true->X.A.handled=none
 frames:X.A.frames=some X.stack
 stk:X.stack=X.outer\/(X.stack=X.env::X.outer/\X.env.frame=some X.env.locals)
 exf:∀ b∈X.ex,b≠X.env.locals/\∀ x c,X.env.cells.lookup x=some c->c≠b
 bs : ∀ b o,X.base.get? b=some o->X.s₀.heap.get? b=some o/\X.H₀ b=none
 bsz:X.base.objs.size<=X.s₀.heap.objs.size
 noex:∀ b o,X.base.get? b=some o->b ∉ X.ex
 exfs:∀ b∈X.ex,b ∉ X.fs
 funs:X.s₀.heap.FunFrames X.base X.outer
 frf:∀ b∈X.fs,X.H₀ b=none
 tab:zj X.K X.H₀
structure Inv (X:Cx) (pins:List (Addr×Obj)) (σ:List (Option V)) (H:Hp) (s:Shared):Prop where
 ok : X.Ok
 os : s.os=X.s₀.os
 bare:Qa s.gens
 base:Un X.fs X.ex X.H₀ H X.s₀.heap s.heap
 loc:∃ m,s.heap.Ns X.env.locals m/\∀ (i:Nat) (x:Str) (v:V),X.N[i]? = some x->σ[i]? = some (some v)->Vis X.env.scope x->∃ u,bw v u/\Hx X.env s.heap m x u
 cell:∀ x c,X.env.cells.lookup x=some c->∃ v,s.heap.IsCell c v
 free:H X.env.locals=none
 freeC:∀ x c,X.env.cells.lookup x=some c->H c=none
 pin:∀ p∈X.pn++pins,s.heap.get? p.1=some p.2/\H p.1=none/\p.1≠X.env.locals/\p.1 ∉ X.fs/\∀ v,p.2.data≠.cell v
 hok:HOk X.prog X.w H s.heap
 len:σ.length=X.N.length
section
variable {X:Cx}{pins:List (Addr×Obj)}{σ:List (Option V)}{H H':Hp}{s:Shared}{h':Heap}
theorem Cx.Ok.nofr (ok:X.Ok) {b:Addr}{o:Obj} (e:X.base.get? b=some o):b ∉ X.fs:=λa=>by
 have:=(ok.funs.mem a).1
 rw[e] at this;cases this
theorem Inv.bs (I:Inv X pins σ H s):∀ b o,X.base.get? b=some o->s.heap.get? b=some o/\H b=none:=λb o e =>
 ⟨I.base.keep b o (I.ok.bs b o e).1 (I.ok.bs b o e).2 (I.ok.nofr e) (I.ok.noex b o e),I.base.free b o (I.ok.bs b o e).1 (I.ok.bs b o e).2 (I.ok.noex b o e)⟩
theorem Inv.bk (I:Inv X pins σ H s):∀ b o,X.base.get? b=some o->s.heap.get? b=some o:=λb o e=>(I.bs b o e).1
theorem Inv.mod (I:Inv X pins σ H s):Mod X.K X.mg X.base:=I.ok.mod
theorem Inv.kIn (I:Inv X pins σ H s):X.K.In s.heap:=I.ok.mod.kin.keeps I.bk
theorem Inv.lt (I:Inv X pins σ H s):X.env.locals<s.heap.objs.size:=let ⟨_,hn,_⟩:=I.loc;hn.lt
theorem Inv.sz (I:Inv X pins σ H s):X.s₀.heap.objs.size<=s.heap.objs.size:=HQ I.ok.above (JY I.lt)
theorem Inv.nofs (I:Inv X pins σ H s) {a:Addr} (h:s.heap.objs.size<=a):a ∉ X.fs:=λb=>by
 obtain⟨_,o,ho,_⟩:=I.ok.funs.mem b
 exact absurd (HV (HL ho) (HQ I.sz h)) (IU _)
theorem Inv.cne (I:Inv X pins σ H s):∀ x c,X.env.cells.lookup x=some c->c≠X.env.locals:=λx c e z=>by
 obtain⟨v,o,ho,hd⟩:=I.cell x c e
 obtain⟨m,⟨o',es,ep,a,b,_⟩,_⟩:=I.loc
 rw[z,a] at ho;cases ho;rw[b] at hd;cases hd
theorem Inv.funs (I:Inv X pins σ H s):s.heap.FunFrames X.base X.outer:=by
 have all:∀ (l:List Env),(∀ b∈frs l,b∈X.fs)->X.s₀.heap.FunFrames X.base l->s.heap.FunFrames X.base l:=by
  intro l
  induction l with
  | nil=>intro _ _;trivial
  | cons env r g =>
   intro f h
   obtain⟨hk,⟨L,o,a,hn,ho,hd⟩,i⟩:=h
   have c:L∈X.fs:=f L (by unfold frs;rw[List.filterMap_cons,a];exact HH)
   obtain⟨sl,e⟩:=I.base.slot L o ho (I.ok.frf L c) c λz=>I.ok.exfs L z c
   exact⟨hk,⟨L,_,a,hn,e,hd⟩,g (λb d=>f b (by unfold frs;rw[List.filterMap_cons,a];exact HJ _ d)) i⟩
 exact all X.outer (λ_ d=>d) I.ok.funs
theorem Inv.stack (I:Inv X pins σ H s):s.heap.FunFrames X.base X.stack:=by
 rcases I.ok.stk with e|⟨e,a⟩
 ·rw[e];exact I.funs
 ·rw[e]
  obtain⟨m,hn,_⟩:=I.loc
  refine .cons (by rw[I.ok.kind];decide) a hn ?_ I.funs
  exact Heap.get?_none_of_le (HQ I.ok.bsz I.ok.above)
theorem Inv.stkSub (I:Inv X pins σ H s):∀ b∈frs X.stack,b∈X.env.locals::X.fs:=λb a=>by
 rcases I.ok.stk with e|⟨e,c⟩
 ·rw[e] at a;exact HJ _ a
 ·rw[e] at a
  unfold frs at a
  rw[List.filterMap_cons,c] at a
  exact a
theorem Inv.stkFree (I:Inv X pins σ H s):∀ b∈frs X.stack,H b=none:=λb a=>by
 rcases HP.mp (I.stkSub b a) with e|a
 ·rw[e];exact I.free
 ·obtain⟨_,o,ho,_⟩:=I.ok.funs.mem a
  exact I.base.free b o ho (I.ok.frf b a) λz=>I.ok.exfs b z a
theorem Inv.step {g':Array GenState}{t':Nat}{d':Drawn}{ch:List Addr} (I:Inv X pins σ H s)
  (a:∀ b∈ch,(b∈X.ex\/X.s₀.heap.objs.size<=b)/\b≠X.env.locals/\(∀ x c,X.env.cells.lookup x=some c->c≠b)/\∀ p∈X.pn++pins,p.1≠b)
  (keep:∀ b o,b≠X.env.locals->b ∉ X.fs->b ∉ ch->s.heap.get? b=some o->H b=none->h'.get? b=some o)
  (slot:∀ b o,b≠X.env.locals->b∈X.fs->b ∉ ch->s.heap.get? b=some o->H b=none->∃ sl,h'.get? b=some { o with slots:=sl }) (free:∀ b o,b ∉ ch->s.heap.get? b=some o->H b=none->H' b=none)
  (there:∀ b o,b ∉ ch->s.heap.get? b=some o->∃ o',h'.get? b=some o')
  (tups:∀ b xs,H b=some (.tup xs)->H' b=some (.tup xs)) (frzs:∀ b o u,H b=some (.frz o u)->H' b=some (.frz o u)) (tbls:∀ b ps,H b=some (.tbl ps)->H' b=some (.tbl ps))
  (ns:∀ m,s.heap.Ns X.env.locals m->h'.Ns X.env.locals m) (hok:HOk X.prog X.w H' h') (C:Qa g') :
  Inv X pins σ H' { s with heap:=h',gens:=g',drawn:=d',toks:=t' }:=by
 have t:∀ b o,X.s₀.heap.get? b=some o->b≠X.env.locals:=λb o e=>HZ (HV (HL e) I.ok.above)
 have h:∀ b o,X.s₀.heap.get? b=some o->b ∉ X.ex->b ∉ ch:=λb o e hx j=>by
  rcases(a b j).1 with z|z
  ·exact hx z
  ·exact absurd (HV (HL e) z) (IU _)
 have f:∀ x c,X.env.cells.lookup x=some c->∀ v,s.heap.IsCell c v->h'.IsCell c v:=λx c e v ⟨o,ho,hd⟩=>by
  have g:c ∉ ch:=λz=>(a c z).2.2.1 x c e rfl
  by_cases hc:c∈X.fs
  ·obtain⟨sl,q⟩:=slot c o (I.cne x c e) hc g ho (I.freeC x c e)
   exact⟨_,q,hd⟩
  ·exact⟨o,keep c o (I.cne x c e) hc g ho (I.freeC x c e),hd⟩
 refine⟨I.ok,I.os,C,⟨λb o e n j hx=>?_,λb o e n j hx=>?_,λb o e n hx=>?_,λb o e hx=>?_,λb xs e=>tups b xs (I.base.tups b xs e),λb o xs e=>frzs b o xs (I.base.frzs b o xs e),λb ps e=>?_⟩,?_,λx c e=>?_,?_,λx c e=>?_,λp A=>?_,hok,I.len⟩
 ·exact keep b o (t b o e) j (h b o e hx) (I.base.keep b o e n j hx) (I.base.free b o e n hx)
 ·obtain⟨sl,e1⟩:=I.base.slot b o e n j hx
  obtain⟨y,e2⟩:=slot b _ (t b o e) j (h b o e hx) e1 (I.base.free b o e n hx)
  exact⟨y,e2⟩
 ·obtain⟨o',e1⟩:=I.base.there b o e hx
  exact free b o' (h b o e hx) e1 (I.base.free b o e n hx)
 ·obtain⟨o',e1⟩:=I.base.there b o e hx
  exact there b o' (h b o e hx) e1
 ·exact tbls b ps (I.base.tbls b ps e)
 ·obtain⟨m,hn,D⟩:=I.loc
  refine⟨m,ns m hn,λi x v e1 e2 e3=>?_⟩
  obtain⟨u,r,l⟩:=D i x v e1 e2 e3
  refine⟨u,r,?_⟩
  rcases l with l|⟨k,c,e,z⟩
  ·exact .inl l
  ·exact .inr ⟨k,c,e,f x c e _ z⟩
 ·obtain⟨v,z⟩:=I.cell x c e
  exact⟨v,f x c e v z⟩
 ·obtain⟨m,⟨o,_,_,ho,_⟩,_⟩:=I.loc
  exact free _ o (λz=>(a _ z).2.1 rfl) ho I.free
 ·obtain⟨v,o,ho,hd⟩:=I.cell x c e
  exact free c o (λz=>(a c z).2.2.1 x c e rfl) ho (I.freeC x c e)
 ·obtain⟨e,n,ne,B,d⟩:=I.pin p A
  have g:p.1 ∉ ch:=λz=>(a p.1 z).2.2.2 p A rfl
  exact⟨keep p.1 p.2 ne B g e n,free p.1 p.2 g e n,ne,B,d⟩
theorem Inv.un {t':Nat} (I:Inv X pins σ H s) (u:Un X.fs [] H H' s.heap h') (hok:HOk X.prog X.w H' h'):Inv X pins σ H' { s with heap:=h',toks:=t' }:=by
 obtain⟨m,⟨o,es,ep,ho,r⟩,_⟩:=id I.loc
 obtain⟨sl,g⟩:=u.any ho I.free (by simp)
 exact I.step (g':=s.gens) (d':=s.drawn) (ch:=[]) (λ_ z=>nomatch z) (λb o _ c _ e n=>u.keep b o e n c (by simp)) (λb o _ c _ e n=>u.slot b o e n c (by simp)) (λb o _ e n=>u.free b o e n (by simp)) (λb o _ e=>u.there b o e (by simp)) u.tups u.frzs u.tbls (λj h=>by
  obtain⟨o',d,f,a,i⟩:=h
  rw[ho] at a;cases a
  exact⟨_,d,f,g,i⟩) hok I.bare
theorem Inv.call {g':Array GenState}{t':Nat}{d':Drawn}{ch:List Addr} (I:Inv X pins σ H s) (u:Un (frs X.stack) ch H H' s.heap h') (hok:HOk X.prog X.w H' h') (i:Qa g')
  (a:∀ b∈ch,(b∈X.ex\/X.s₀.heap.objs.size<=b)/\b≠X.env.locals/\(∀ x c,X.env.cells.lookup x=some c->c≠b)/\∀ p∈X.pn++pins,p.1≠b) :
  Inv X pins σ H' { s with heap:=h',gens:=g',drawn:=d',toks:=t' }:=by
 obtain⟨m,⟨o,es,ep,ho,r⟩,_⟩:=id I.loc
 obtain⟨sl,f⟩:=u.any ho I.free λz=>(a _ z).2.1 rfl
 exact I.step (ch:=ch) a (λb o f j hc e n=>u.keep b o e n (λz=>(HP.mp (I.stkSub b z)).elim f j) hc) (λb o _ _ hc e n=>u.any e n hc) (λb o hc e n=>u.free b o e n hc) (λb o hc e=>u.there b o e hc) u.tups u.frzs u.tbls (λq k=>by
  obtain⟨o',g,h,d,l⟩:=k
  rw[ho] at d;cases d
  exact⟨_,g,h,f,l⟩) hok i
theorem Inv.turned {t':Nat}{it:Addr} (I:Inv X pins σ H s) (k:∀ b o,b≠it->s.heap.get? b=some o->h'.get? b=some o) (hn:H it=none) (d:it≠X.env.locals)
  (h1:it∈X.ex\/X.s₀.heap.objs.size<=it) (h2:∀ x c,X.env.cells.lookup x=some c->c≠it) (f:∀ p∈X.pn++pins,p.1≠it):Inv X pins σ H { s with heap:=h',toks:=t' }:=by
 have a:∀ b u,H b=some u->b≠it:=λb u e z=>by rw[z,hn] at e;cases e
 refine I.step (g':=s.gens) (d':=s.drawn) (ch:=[it]) (λb g=>?_) (λb o _ _ hc e _=>k b o (λz=>hc (by simp[z])) e) (λb o _ _ hc e _=>⟨o.slots,k b o (λz=>hc (by simp[z])) e⟩) (λ_ _ _ _ n=>n)
  (λb o hc e=>⟨o,k b o (λz=>hc (by simp[z])) e⟩) (λ_ _ e=>e) (λ_ _ _ e=>e) (λ_ _ e=>e) (λm h=>?_) (λb u e=>?_) I.bare
 ·have e:b=it:=by simpa using g
  subst e
  exact⟨h1,d,h2,f⟩
 ·obtain⟨o,es,ep,ho,r⟩:=h
  exact⟨o,es,ep,k _ o (Ne.symm d) ho,r⟩
 ·refine(I.hok b u e).stay (λc v hc q=>k c v ?_ q) (λ_ q=>q) λ_ _ _ q=>q
  rcases hc with z|z
  ·rw[z];exact a b u e
  ·exact a c _ z
theorem Inv.tok (I:Inv X pins σ H s) (t:Nat):Inv X pins σ H { s with toks:=t }:=I.un (h':=s.heap) (t':=t) Un.refl I.hok
theorem Inv.kept {t':Nat} (I:Inv X pins σ H s) (k:∀ b u,s.heap.get? b=some u->h'.get? b=some u):Inv X pins σ H { s with heap:=h',toks:=t' }:=I.un (Un.kept k) (I.hok.kept k)
theorem Inv.laid {a:Addr}{o:HO}{t':Nat} (I:Inv X pins σ H s) (k:∀ b u,s.heap.get? b=some u->h'.get? b=some u) (c:s.heap.objs.size<=a) (new:eR X.prog X.w (upd H a o) h' a o) :
  Inv X pins σ (upd H a o) { s with heap:=h',toks:=t' }:=I.un (Un.laid k c (I.hok.fresh c)) (I.hok.laid k c new)
theorem Inv.write {x e:Addr}{o:HO}{t':Nat} (I:Inv X pins σ H s) (c:Mut (H x)) (d:e=x\/H e=some (.own x)) (k:∀ b u,b≠e->s.heap.get? b=some u->h'.get? b=some u) (a:∃ u,h'.get? e=some u)
  (new:eR X.prog X.w (upd H x o) h' x o):Inv X pins σ (upd H x o) { s with heap:=h',toks:=t' }:=I.un (Un.write c d k a) (I.hok.write c d k a new)
theorem Inv.pins_of {pins':List (Addr×Obj)} (I:Inv X pins σ H s) (h:∀ p∈pins',s.heap.get? p.1=some p.2/\H p.1=none/\p.1≠X.env.locals/\p.1 ∉ X.fs/\∀ v,p.2.data≠.cell v):Inv X pins' σ H s :=
 ⟨I.ok,I.os,I.bare,I.base,I.loc,I.cell,I.free,I.freeC,λp a=>(HF.mp a).elim (λz=>I.pin p (HG _ z)) (h p),I.hok,I.len⟩
theorem pz {N:List Str} (c:N.Nodup) {i j:Nat}{x:Str} (a:N[i]? = some x) (b:N[j]? = some x):i=j:=by
 obtain⟨h1,e1⟩:=HI.mp a
 obtain⟨h2,e2⟩:=HI.mp b
 exact(List.getElem_inj c).mp (e1.trans e2.symm)
theorem kT {M:Model}{A:Around}{E:Value->Shared->Prop}{i:Nat}{x:Str}{v:V}{u:Value}{Q:Unit->Shared->Prop} (I:Inv X pins σ H s) (U:X.N.Nodup) (hi:X.N[i]? = some x) (hx:Loc X.env.scope x) (r:bw v u)
  (h : ∀ s',Inv X pins (σ.set i (some v)) H s'->(∃ a,Heap.SameBut a s.heap s'.heap/\(a=X.env.locals\/X.env.cells.lookup x=some a))->Q () s') (Y:X.fn x=true\/X.env.scope.names.lookup x=some .local:=by first|exact .inl rfl|exact .inr rfl|assumption):qb M A (storeName X.env x u) Q E s:=by
 obtain⟨m,hn,W⟩:=id I.loc
 have D:(X.env.scope.kind==.class || (X.env.scope.kind==.module&&X.env.locals != X.env.globals))=false:=by rw[I.ok.kind];rfl
 have t:i<σ.length:=by rw[I.len];exact(HI.mp hi).1
 have cne:=I.cne
 have g:∀ {a:Addr}{h':Heap},(∃ o,s.heap.get? a=some o/\H a=none)->Heap.SameBut a s.heap h'->HOk X.prog X.w H h':=λ{a h'} Z f b ob e=>by
  obtain⟨_,_,l⟩:=Z
  refine(I.hok b ob e).stay (λc w' hc q=>(f.2 c ?_).trans q) (λ_ q=>q) λ_ _ _ q=>q
  rintro rfl
  rcases hc with rfl|hc
  ·rw[l] at e;cases e
  ·rw[l] at hc;cases hc
 rcases hx with hk|hk
 ·refine wpAny_storeName_local hk hn (λh' L f=>?_) D
  obtain⟨oL,_,_,O,_⟩:=id hn
  refine h _ ⟨I.ok,I.os,I.bare,⟨λb o e n B hx=>?_,λb o e n B hx=>?_,I.base.free,λb o e hx=>?_,I.base.tups,I.base.frzs,I.base.tbls⟩,⟨_,L,λj y v' e1 e2 e3=>?_⟩,λy c e=>?_,I.free,I.freeC,λp P=>?_,g ⟨oL,O,I.free⟩ f,by simpa using I.len⟩ ⟨_,f,.inl rfl⟩
  ·exact(f.2 b (HZ (HV (HL e) I.ok.above))).trans (I.base.keep b o e n B hx)
  ·obtain⟨sl,e1⟩:=I.base.slot b o e n B hx
   exact⟨sl,(f.2 b (HZ (HV (HL e) I.ok.above))).trans e1⟩
  ·obtain⟨o',e1⟩:=I.base.there b o e hx
   exact⟨o',(f.2 b (HZ (HV (HL e) I.ok.above))).trans e1⟩
  ·by_cases hj:j=i
   ·subst hj
    rw[hi] at e1;cases e1
    rw[Ik t] at e2
    cases e2
    exact⟨u,r,.inl ⟨hk,by simp⟩⟩
   ·rw[Ii (Ne.symm hj)] at e2
    obtain⟨R,S,q⟩:=W j y v' e1 e2 e3
    refine⟨R,S,?_⟩
    rcases q with⟨k,e⟩|⟨k,c,e,z⟩
    ·refine .inl ⟨k,?_⟩
     have:y≠x:=λe=>hj (pz U e1 (e▸hi))
     simp[this,e]
    ·exact .inr ⟨k,c,e,z.sameBut f (cne y c e)⟩
  ·obtain⟨w',z⟩:=I.cell y c e
   exact⟨w',z.sameBut f (cne y c e)⟩
  ·obtain⟨e,n,ne,T,d⟩:=I.pin p P
   exact⟨(f.2 p.1 ne).trans e,n,ne,T,d⟩
 ·have C:X.fn x=true:=by
   rcases Y with z|z
   ·exact z
   ·rw[z] at hk;cases hk
  obtain⟨c,hc⟩:=I.ok.has x (.inl hk)
  obtain⟨w',z⟩:=I.cell x c hc
  refine wpAny_storeName_cell I.ok.kind hk hc z (λh' F f=>?_)
  obtain⟨oc,G,J⟩:=id z
  refine h { s with heap:=h' } ⟨I.ok,I.os,I.bare,⟨λb o e n B hx=>?_,λb o e n B hx=>?_,I.base.free,λb o e hx=>?_,I.base.tups,I.base.frzs,I.base.tbls⟩,⟨m,hn.sameBut f (Ne.symm (cne x c hc)),λj y v' e1 e2 e3=>?_⟩,λy c' e=>?_,I.free,I.freeC,λp P=>?_,g ⟨oc,G,I.freeC x c hc⟩ f,by simpa using I.len⟩ ⟨c,f,.inr hc⟩
  ·exact(f.2 b (HZ (HV (HL e) (I.ok.cab x c C hc)))).trans (I.base.keep b o e n B hx)
  ·obtain⟨sl,e1⟩:=I.base.slot b o e n B hx
   exact⟨sl,(f.2 b (HZ (HV (HL e) (I.ok.cab x c C hc)))).trans e1⟩
  ·obtain⟨o',e1⟩:=I.base.there b o e hx
   exact⟨o',(f.2 b (HZ (HV (HL e) (I.ok.cab x c C hc)))).trans e1⟩
  ·by_cases hj:j=i
   ·subst hj
    rw[hi] at e1;cases e1
    rw[Ik t] at e2
    cases e2
    exact⟨u,r,.inr ⟨.inl hk,c,hc,F⟩⟩
   ·rw[Ii (Ne.symm hj)] at e2
    obtain⟨R,S,q⟩:=W j y v' e1 e2 e3
    refine⟨R,S,?_⟩
    rcases q with q|⟨k,c',e,z'⟩
    ·exact .inl q
    ·refine .inr ⟨k,c',e,z'.sameBut f ?_⟩
     rintro rfl
     exact hj (pz U e1 (I.ok.inj _ _ _ e hc▸hi))
  ·by_cases K:c'=c
   ·subst K;exact⟨_,F⟩
   ·obtain⟨w2,z2⟩:=I.cell y c' e
    exact⟨w2,z2.sameBut f K⟩
  ·obtain⟨e,n,ne,T,d⟩:=I.pin p P
   refine⟨(f.2 p.1 ?_).trans e,n,ne,T,d⟩
   intro q
   rw[q,G] at e
   have q':oc=p.2:=Option.some.inj e
   exact d w' (by rw[<-q'];exact J)
theorem oK {M:Model}{A:Around}{E:Value->Shared->Prop}{i:Nat}{x:Str}{v:V}{u:Value}{Q:Unit->Shared->Prop} (I:Inv X pins σ H s) (a:X.N.Nodup) (hi:X.N[i]? = some x) (hx:Loc X.env.scope x) (r:bw v u)
  (h : ∀ s',Inv X pins (σ.set i (some v)) H s'->Q () s') (b:X.fn x=true\/X.env.scope.names.lookup x=some .local:=by first|exact .inl rfl|exact .inr rfl|assumption):qb M A (storeName X.env x u) Q E s :=
 kT I a hi hx r (λs' c _=>h s' c) b
theorem Inv.call' {s':Shared}{ch:List Addr} (I:Inv X pins σ H s) (ho:s'.os=s.os) (u:Un (frs X.stack) ch H H' s.heap s'.heap) (hok:HOk X.prog X.w H' s'.heap) (d:Qa s'.gens)
  (a:∀ b∈ch,(b∈X.ex\/X.s₀.heap.objs.size<=b)/\b≠X.env.locals/\(∀ x c,X.env.cells.lookup x=some c->c≠b)/\∀ p∈X.pn++pins,p.1≠b):Inv X pins σ H' s':=by
 obtain⟨h',g',d',t',o'⟩:=s'
 have e:o'=s.os:=ho
 subst e
 exact I.call (g':=g') (t':=t') (d':=d') u hok d a
end
noncomputable abbrev XK:=Value->Option Addr->Hp->Prop
noncomputable abbrev St:=List (Option V)
noncomputable abbrev VK:=V->Hp->Prop
noncomputable abbrev TE:=St->Hp->VK->Prop
noncomputable abbrev TT:=St->Hp->(Bool->Hp->Prop)->Prop
noncomputable abbrev TA:=St->Hp->(List V->Hp->Prop)->Prop
structure vm where
 nx : St->Hp->Prop
 rt : VK
 bk : St->Hp->Prop:=λ_ _=>False
 ct : St->Hp->Prop:=λ_ _=>False
noncomputable abbrev TS:=vm->St->Hp->Prop
noncomputable def EP (X:Cx) (pins:List (Addr×Obj)) (σ:St) (Q:VK) (u:Value) (s':Shared):Prop:=∃ v H',Inv X pins σ H' s'/\bw v u/\Q v H'
noncomputable def TP (X:Cx) (pins:List (Addr×Obj)) (σ:St) (Q:Bool->Hp->Prop) (b:Bool) (s':Shared):Prop:=∃ H',Inv X pins σ H' s'/\Q b H'
noncomputable def AP (X:Cx) (pins:List (Addr×Obj)) (σ:St) (Q:List V->Hp->Prop) (us:List Value) (s':Shared):Prop:=∃ vs H',Inv X pins σ H' s'/\aX vs us/\Q vs H'
noncomputable def SP (X:Cx) (pins:List (Addr×Obj)) (D:vm) (f:Flow) (s':Shared):Prop :=
 match f with
 | .next=>∃ σ' H',Inv X pins σ' H' s'/\D.nx σ' H'
 | .brk=>∃ σ' H',Inv X pins σ' H' s'/\D.bk σ' H'
 | .cont=>∃ σ' H',Inv X pins σ' H' s'/\D.ct σ' H'
 | .ret u=>∃ v σ' H',Inv X pins σ' H' s'/\bw v u/\D.rt v H'
noncomputable def PE (X:Cx) (e:Expr) (t:TE):Prop :=
 ∀ (pins:List (Addr×Obj)) (s:Shared) (σ:St) (H:Hp) (Q:VK),Inv X pins σ H s->t σ H Q->qb (q3 X.prog X.w) X.A (eval e X.env) (EP X pins σ Q) X.xe s
noncomputable def PT (X:Cx) (e:Expr) (t:TT):Prop :=
 ∀ (pins:List (Addr×Obj)) (s:Shared) (σ:St) (H:Hp) (Q:Bool->Hp->Prop),Inv X pins σ H s->t σ H Q->qb (q3 X.prog X.w) X.A (Qk e X.env (eval e X.env)) (TP X pins σ Q) X.xe s
noncomputable def PW (X:Cx) (e:Expr) (t:TT):Prop :=
 ∀ (a:Sem Value) (pins:List (Addr×Obj)) (s:Shared) (σ:St) (H:Hp) (Q:Bool->Hp->Prop),Inv X pins σ H s->t σ H Q->qb (q3 X.prog X.w) X.A (Qk e X.env a) (TP X pins σ Q) X.xe s
theorem PW.pt {X:Cx}{e:Expr}{t:TT} (h:PW X e t):PT X e t:=h _
noncomputable def PA (X:Cx) (es:List Expr) (t:TA):Prop :=
 ∀ (pos:Pos) (pins:List (Addr×Obj)) (s:Shared) (σ:St) (H:Hp) (Q:List V->Hp->Prop),Inv X pins σ H s->t σ H Q->qb (q3 X.prog X.w) X.A (spliced (J0 pos (kq es X.env))) (AP X pins σ Q) X.xe s
noncomputable def PS (X:Cx) (st:Stmt) (t:TS):Prop :=
 ∀ (pins:List (Addr×Obj)) (s:Shared) (σ:St) (H:Hp) (D:vm),Inv X pins σ H s->t D σ H->qb (q3 X.prog X.w) X.A (exec st X.env) (SP X pins D) X.xe s
noncomputable def PSs (X:Cx) (st:List Stmt) (t:TS):Prop :=
 ∀ (pins:List (Addr×Obj)) (s:Shared) (σ:St) (H:Hp) (D:vm),Inv X pins σ H s->t D σ H->qb (q3 X.prog X.w) X.A (execs st X.env) (SP X pins D) X.xe s
theorem thn {α:Type}{t:Sem α}{Q b:α->Shared->Prop}{M:Model}{A:Around}{E:Value->Shared->Prop}{s:Shared} (h:qb M A t Q E s) (c:∀ a s,Q a s->b a s):qb M A t b E s:=zg h c λ_ _ x=>x
section
variable {X:Cx}
noncomputable def E6 (i:Nat):TE:=λσ H Q=>∃ v,σ[i]? = some (some v)/\Q v H
noncomputable def tC (v:V):TE:=λ_ H Q=>Q v H
theorem cP {i:Nat}{x:Str}{pos:Pos} (d:X.N[i]? = some x) (f:Vis X.env.scope x) (hd:(x==("__debug__" : Str))=false:=by decide) (b:(x==("__classdict__" : Str))=false:=by decide):PE X (.Name x pos) (E6 i):=by
 intro pins s σ H Q I h
 obtain⟨v,e,h⟩:=h
 obtain⟨m,hn,g⟩:=I.loc
 obtain⟨u,r,l⟩:=g i x v d e f
 have fin:EP X pins σ Q u s:=⟨v,H,I,r,h⟩
 rcases l with⟨hk,j⟩|⟨hk,c,hc,a⟩
 ·exact wpAny_Name (wpAny_loadName_local I.ok.kind hk hn j fin) hd
 ·rcases hk with hk|hk
  ·exact wpAny_Name (wpAny_loadName_cell I.ok.kind hk hc a fin) hd
  ·exact wpAny_Name (wpAny_loadName_free I.ok.kind hk hc a fin b) hd
theorem pk {i j pos}:PE X (.Constant (.int i) j pos) (tC (.int i)):=λ_ _ _ H _ I h=>wpAny_Constant_int ⟨.int i,H,I.tok _,⟨_,rfl⟩,h⟩
theorem FA {b j pos}:PE X (.Constant (.bool b) j pos) (tC (.bl b)):=λ_ _ _ H _ I h=>Constant_bool ⟨.bl b,H,I,rfl,h⟩
theorem Da {j pos}:PE X (.Constant .none j pos) (tC .non):=λ_ _ _ H _ I h=>Constant_none ⟨.non,H,I,rfl,h⟩
noncomputable def Gl (X:Cx) (x:Str):Prop:=X.env.kindOf x=some .globalImplicit
theorem uj {E:Value->Shared->Prop}{pins:List (Addr×Obj)}{s:Shared}{σ:St}{H:Hp}{x:Str}{u:Value}{pos:Pos}{Q:Value->Shared->Prop} (I:Inv X pins σ H s) (a:Gl X x) (b:X.mg x=some u) (h:Q u s)
  (hd:(x==("__debug__" : Str))=false:=by decide):qb (q3 X.prog X.w) X.A (eval (.Name x pos) X.env) Q E s :=
 Calls.Name_function_global I.ok.kind a (Calls.loadGlobal_global (by rw[I.ok.glob];exact I.mod.glob.keeps I.bk) b h) hd
theorem dh {E:Value->Shared->Prop}{pins:List (Addr×Obj)}{s:Shared}{σ:St}{H:Hp}{x:Str}{u:Value}{pos:Pos}{Q:Value->Shared->Prop} (I:Inv X pins σ H s) (a:Gl X x) (b:X.mg x=none) (c:Kh x=some u) (h:Q u s)
  (hn:x ≠ "__name__" := by decide) (hd:(x==("__debug__" : Str))=false:=by decide):qb (q3 X.prog X.w) X.A (eval (.Name x pos) X.env) Q E s:=by
 obtain⟨mb,h1,h2⟩:=I.mod.blt
 exact Calls.Name_function_global I.ok.kind a (Calls.loadGlobal_builtin (by rw[I.ok.glob];exact I.mod.glob.keeps I.bk) b (by rw[I.ok.blt];exact h1.keeps I.bk) ((h2 x hn).trans c) h) hd
theorem Aq {x:Str}{v:V}{u:Value}{pos:Pos} (a:Gl X x) (b:X.mg x=some u) (r:bw v u) (hd:(x==("__debug__" : Str))=false:=by decide):PE X (.Name x pos) (tC v) :=
 λ_ _ _ H _ I h=>uj I a b ⟨v,H,I,r,h⟩ hd
theorem Aw {x:Str}{v:V}{u:Value}{pos:Pos} (a:Gl X x) (b:X.mg x=none) (c:Kh x=some u) (r:bw v u) (hn:x ≠ "__name__" := by decide) (hd:(x==("__debug__" : Str))=false:=by decide):PE X (.Name x pos) (tC v) :=
 λ_ _ _ H _ I h=>dh I a b c ⟨v,H,I,r,h⟩ hn hd
variable {a b:Expr}{ta tb:TE}{pos:Pos}
noncomputable def tB (t:TE):TT:=λσ H Q=>t σ H λx H1=>∃ c,x=.bl c/\Q c H1
theorem CY {e:Expr}{t:TE} (h:PE X e t) (c:∀ a,Qk e X.env a=(do let v <-a;KD e.pos;Kk [v] (QE v)):=by intro _;rfl):PT X e (tB t):=by
 intro pins s σ H Q I hw
 refine isTrue_plain (thn (h pins s σ H _ I hw) λv s1 b=>?_) (c _)
 obtain⟨x,H1,f,r1,q1⟩:=b
 obtain⟨d,rfl,q⟩:=q1
 cases r1
 exact J5 ⟨H1,f,q⟩
variable {tA tB':TT}{rest:List Expr}
noncomputable def G3 (t u:TT):TT:=λσ H Q=>t σ H λc H1=>if c=true then u σ H1 Q else Q false H1
noncomputable def tOr (t u:TT):TT:=λσ H Q=>t σ H λc H1=>if c=true then Q true H1 else u σ H1 Q
noncomputable def GV (t:TT):TT:=λσ H Q=>t σ H λc H1=>Q (!c) H1
theorem z6 (b:PT X a tA):PW X (.BoolOp .And [a] pos) tA:=by
 intro wh pins s σ H Q I h
 refine isTrue_and (thn (b pins s σ H Q I h) λc s1 e=>?_)
 cases c with
 | true=>exact isTrue_and_nil e
 | false=>exact e
theorem CV (b:PT X a tA):PW X (.BoolOp .Or [a] pos) tA:=by
 intro wh pins s σ H Q I h
 refine isTrue_or (thn (b pins s σ H Q I h) λc s1 e=>?_)
 cases c with
 | false=>exact isTrue_or_nil e
 | true=>exact e
theorem CW (f:PT X a tA) (g:PW X (.BoolOp .And (b::rest) pos) tB'):PW X (.BoolOp .And (a::b::rest) pos) (G3 tA tB'):=by
 intro wh pins s σ H Q I h
 refine isTrue_and (thn (f pins s σ H _ I h) λc s1 d=>?_)
 obtain⟨H1,e,q1⟩:=d
 cases c with
 | true=>exact g wh pins s1 σ H1 Q e q1
 | false=>exact⟨H1,e,q1⟩
theorem Fx (f:PT X a tA) (g:PW X (.BoolOp .Or (b::rest) pos) tB'):PW X (.BoolOp .Or (a::b::rest) pos) (tOr tA tB'):=by
 intro wh pins s σ H Q I h
 refine isTrue_or (thn (f pins s σ H _ I h) λc s1 d=>?_)
 obtain⟨H1,e,q1⟩:=d
 cases c with
 | true=>exact⟨H1,e,q1⟩
 | false=>exact g wh pins s1 σ H1 Q e q1
theorem CZ (b:PT X a tA):PT X (.UnaryOp .Not a pos) (GV tA):=by
 intro pins s σ H Q I h
 exact isTrue_not (b pins s σ H (λc H1=>Q (!c) H1) I h)
noncomputable def Fg (ta tb:TE):TE:=λσ H Q=>ta σ H λx H1=>∃ c,x=.bl c/\if c=true then tb σ H1 Q else Q (.bl false) H1
theorem C9 {op}{t:TE} (h:PE X a t):PE X (.BoolOp op [a] pos) t:=λpins s σ H Q I hw=>BoolOp_one (h pins s σ H Q I hw)
theorem Dc (f:PE X a ta) (g:PE X (.BoolOp .And (b::rest) pos) tb):PE X (.BoolOp .And (a::b::rest) pos) (Fg ta tb):=by
 intro pins s σ H Q I h
 refine BoolOp_and (thn (f pins s σ H _ I h) λv s1 d=>?_)
 obtain⟨x,H1,e,r1,q1⟩:=d
 obtain⟨c,rfl,q1⟩:=q1
 cases r1
 refine J5 ?_
 cases c with
 | true=>exact g pins s1 σ H1 Q e q1
 | false=>exact⟨.bl false,H1,e,rfl,q1⟩
noncomputable def tIf (t:TT) (ta tb:TE):TE:=λσ H Q=>t σ H λc H1=>if c=true then ta σ H1 Q else tb σ H1 Q
theorem vZ {c:Expr} (hc:PT X c tA) (g:PE X a ta) (i:PE X b tb):PE X (.IfExp c a b pos) (tIf tA ta tb):=by
 intro pins s σ H Q I h
 refine wpAny_IfExp (thn (hc pins s σ H _ I h) λd s1 e=>?_)
 obtain⟨H1,f,q1⟩:=e
 cases d with
 | true=>exact g pins s1 σ H1 Q f q1
 | false=>exact i pins s1 σ H1 Q f q1
end
noncomputable def SqL (K:PySem.W.Frag) (H:Hp) (a:Addr) (xs:List V):Prop :=
 Rd H a (.lst xs) \/
  ∃ (o:Obj) (b:Array Value) (n:Nat),K.lookup a=some o/\o.cls=.type "list" /\ o.dict=none/\o.data=.seq b n/\b.size<=sizeLine/\aX xs b.toList
noncomputable def SqT (K:PySem.W.Frag) (H:Hp) (a:Addr) (xs:List V):Prop :=
 Rd H a (.tup xs) \/
  ∃ (o:Obj) (b:Array Value) (n:Nat),K.lookup a=some o/\(o.cls=.type "tuple" /\ o.dict=none)/\o.data=.seq b n/\b.size<=sizeLine/\aX xs b.toList
noncomputable def Hu:Value->Option V
 | .none=>some .non
 | .bool b=>some (.bl b)
 | .int i _=>some (.int i)
 | .str x _=>some (.str x)
 | .bytes b _=>some (.byt b)
 | .float b _=>some (.flt b)
 | .ref a=>some (.ref a)
 | .type n=>some (.ty n)
 | _=>none
theorem bw.abs {x:V}{u:Value} (r:bw x u):Hu u=some x:=by
 cases x with
 | non=>cases r;rfl
 | bl _=>cases r;rfl
 | int _=>obtain⟨t,rfl⟩:=r;rfl
 | str _=>obtain⟨t,rfl⟩:=r;rfl
 | byt _=>obtain⟨t,rfl⟩:=r;rfl
 | flt _=>obtain⟨t,rfl⟩:=r;rfl
 | ref _=>cases r;rfl
 | ty _=>cases r;rfl
theorem bw.inj {x y:V}{u:Value} (r:bw x u) (q:bw y u):x=y:=Option.some.inj (r.abs.symm.trans q.abs)
theorem aX.inj {xs ys:List V}{us:List Value} (h:aX xs us):aX ys us->xs=ys:=by
 induction h generalizing ys with
 | nil =>
  intro q
  cases q
  rfl
 | cons r t a =>
  intro q
  cases q with
  | cons b t'=>rw[r.inj b,a t']
section
variable {X:Cx}{pins:List (Addr×Obj)}{σ:St}{H:Hp}{s:Shared}{a:Addr}{xs ys:List V}
theorem SqL.of {K:PySem.W.Frag} (h:H a=some (.lst xs)):SqL K H a xs:=.inl (.inl h)
theorem Inv.list (I:Inv X pins σ H s) (h:SqL X.K H a xs):∃ b:List Value,aX xs b/\PlainL s.heap a b.toArray/\xs.length<=sizeLine:=by
 rcases h with h|⟨o,b,n,hk,hc,hd,c,hz,r⟩
 ·obtain⟨z,b,n,r,e⟩:=h.ok I.hok
  exact⟨b,r,⟨_,n,e,rfl,rfl,rfl⟩,z⟩
 ·refine⟨b.toList,r,⟨o,n,I.kIn a o hk,hc,hd,by simpa using c⟩,?_⟩
  have e:=r.length
  simp only[Array.length_toList] at e
  omega
theorem Inv.tuple (I:Inv X pins σ H s) (h:SqT X.K H a xs):∃ b:List Value,aX xs b/\IsTup s.heap a b.toArray/\xs.length<=sizeLine:=by
 rcases h with h|⟨o,b,n,hk,hc,c,hz,r⟩
 ·obtain⟨z,b,r,p⟩:=h.ok I.hok
  exact⟨b,r,p.is,z⟩
 ·refine⟨b.toList,r,⟨o,I.kIn a o hk,hc.1,n,by simpa using c⟩,?_⟩
  have e:=r.length
  simp only[Array.length_toList] at e
  omega
theorem Inv.tupleN (I:Inv X pins σ H s) (h:SqT X.K H a xs):∃ b:List Value,aX xs b/\xJ s.heap a b.toArray:=by
 rcases h with h|⟨o,b,n,hk,hc,c,hz,r⟩
 ·obtain⟨z,b,r,p⟩:=h.ok I.hok
  exact⟨b,r,p⟩
 ·exact⟨b.toList,r,⟨o,I.kIn a o hk,hc.1,⟨n,by simpa using c⟩,hc.2⟩⟩
theorem Inv.list_inj (I:Inv X pins σ H s) (h:SqL X.K H a xs) (h':SqL X.K H a ys):xs=ys:=by
 obtain⟨b,r,⟨o,n,e,_,_,d⟩,_⟩:=I.list h
 obtain⟨its',f,⟨o',g,c,_,_,d'⟩,_⟩:=I.list h'
 rw[e] at c;cases c
 rw[d] at d'
 injection d' with d1 _
 have:b=its':=by simpa using congrArg Array.toList d1
 subst this
 exact r.inj f
theorem Inv.tuple_inj (I:Inv X pins σ H s) (h:SqT X.K H a xs) (h':SqT X.K H a ys):xs=ys:=by
 obtain⟨b,r,⟨o,e,_,n,d⟩,_⟩:=I.tuple h
 obtain⟨its',f,⟨o',c,_,g,d'⟩,_⟩:=I.tuple h'
 rw[e] at c;cases c
 rw[d] at d'
 injection d' with d1 _
 have:b=its':=by simpa using congrArg Array.toList d1
 subst this
 exact r.inj f
end
noncomputable abbrev Cx.wish (X:Cx) (E:Value->Shared->Prop):Cx:={ X with xe:=E }
noncomputable abbrev Cx.nox (X:Cx):Cx:=X.wish λ_ _=>False
theorem Cx.Ok.wish {X:Cx} (ok:X.Ok) (E:Value->Shared->Prop):(X.wish E).Ok :=
 ⟨ok.mod,ok.kind,ok.glob,ok.blt,ok.above,ok.inj,ok.has,ok.cab,ok.hd,ok.frames,ok.stk,ok.exf,ok.bs,ok.bsz,ok.noex,ok.exfs,ok.funs,ok.frf,ok.tab⟩
theorem Cx.Ok.unwish {X:Cx}{E:Value->Shared->Prop} (ok:(X.wish E).Ok):X.Ok :=
 ⟨ok.mod,ok.kind,ok.glob,ok.blt,ok.above,ok.inj,ok.has,ok.cab,ok.hd,ok.frames,ok.stk,ok.exf,ok.bs,ok.bsz,ok.noex,ok.exfs,ok.funs,ok.frf,ok.tab⟩
section
variable {X:Cx}{pins:List (Addr×Obj)}{σ:St}{H:Hp}{s:Shared}{E:Value->Shared->Prop}
theorem Inv.wish (I:Inv X pins σ H s) (E:Value->Shared->Prop):Inv (X.wish E) pins σ H s:=⟨I.ok.wish E,I.os,I.bare,I.base,I.loc,I.cell,I.free,I.freeC,I.pin,I.hok,I.len⟩
theorem Inv.unwish (I:Inv (X.wish E) pins σ H s):Inv X pins σ H s:=⟨I.ok.unwish,I.os,I.bare,I.base,I.loc,I.cell,I.free,I.freeC,I.pin,I.hok,I.len⟩
theorem SP.unwish {D:vm}{f:Flow}{s':Shared} (h:SP (X.wish E) pins D f s'):SP X pins D f s':=by
 cases f with
 | next=>obtain⟨σ',H',I,q⟩:=h;exact⟨σ',H',I.unwish,q⟩
 | brk=>obtain⟨σ',H',I,q⟩:=h;exact⟨σ',H',I.unwish,q⟩
 | cont=>obtain⟨σ',H',I,q⟩:=h;exact⟨σ',H',I.unwish,q⟩
 | ret u=>obtain⟨v,σ',H',I,r,q⟩:=h;exact⟨v,σ',H',I.unwish,r,q⟩
theorem PSs.nox {st:List Stmt}{t:TS} (h:PSs X.nox st t):PSs X st t:=λpins s σ H D I hw =>
 zg (h pins s σ H D (I.wish _) hw) (λ_ _ q=>q.unwish) λ_ _ z=>False.elim z
end
section
variable {X:Cx}{st:Stmt}{rest:List Stmt}{t u:TS}{e:Expr}{te:TE}{pos:Pos}
noncomputable def E9:TS:=λD σ H=>D.nx σ H
noncomputable def GT (t u:TS):TS:=λD σ H=>t { D with nx:=u D } σ H
theorem Aa:PSs X [] E9:=λ_ _ σ H _ I h=>KJ ⟨σ,H,I,h⟩
theorem vU (h1:PS X st t) (h2:PSs X rest u):PSs X (st::rest) (GT t u):=by
 intro pins s σ H D I h
 refine Qx (thn (h1 pins s σ H { D with nx:=u D } I h) λf s1 q=>?_)
 cases f with
 | next =>
  obtain⟨σ',H',a,q⟩:=q
  exact h2 pins s1 σ' H' D a q
 | ret v=>exact q
 | brk=>exact q
 | cont=>exact q
theorem z9 (h1:PS X st t):PSs X [st] t:=by
 intro pins s σ H D I h
 refine Qx (thn (h1 pins s σ H D I h) λf s1 q=>?_)
 cases f with
 | next=>exact KJ q
 | ret v=>exact q
 | brk=>exact q
 | cont=>exact q
noncomputable def Fe:TS:=λD σ H=>D.ct σ H
theorem ng:PS X (.Continue pos) Fe:=λ_ _ σ H _ I h=>wpAny_Continue ⟨σ,H,I,h⟩
theorem Inv.quiet {pins:List (Addr×Obj)}{σ:St}{H:Hp}{s:Shared} (I:Inv X pins σ H s):interactive X.env=false:=by simp[interactive,I.ok.kind]
noncomputable def Fb (te:TE):TS:=λD σ H=>te σ H λ_ H1=>D.nx σ H1
theorem Ac (a:PE X e te) (b:K5 e none pos.line X.env=pure false:=by rfl):PS X (.Expr e pos) (Fb te):=by
 intro pins s σ H D I h
 exact wpAny_Expr_any (thn (a pins s σ H _ I h) λv s1 ⟨x,H1,c,r1,q1⟩=>⟨σ,H1,c,q1⟩) I.quiet b
noncomputable def GU (te:TE):TS:=λD σ H=>te σ H D.rt
theorem C1 (a:PE X e te):PS X (.Return (some e) pos) (GU te):=by
 intro pins s σ H D I h
 exact wpAny_Return_some (thn (a pins s σ H _ I h) λv s1 ⟨x,H1,b,r1,q1⟩=>⟨x,σ,H1,b,r1,q1⟩)
noncomputable def GY (c:TT) (t u:TS):TS:=λD σ H=>c σ H λb H1=>if b=true then t D σ H1 else u D σ H1
theorem Fy {c:Expr}{a b:List Stmt}{tc:TT} (hc:PT X c tc) (g:PSs X a t) (i:PSs X b u):PS X (.If c a b pos) (GY tc t u):=by
 intro pins s σ H D I h
 refine wpAny_If (thn (hc pins s σ H _ I h) λd s1 e=>?_)
 obtain⟨H1,f,q1⟩:=e
 cases d with
 | true=>exact g pins s1 σ H1 D f q1
 | false=>exact i pins s1 σ H1 D f q1
end
noncomputable abbrev TG:=V->St->Hp->(St->Hp->Prop)->Prop
noncomputable abbrev TGs:=List V->St->Hp->(St->Hp->Prop)->Prop
noncomputable def PG (X:Cx) (a:Expr) (t:TG):Prop :=
 ∀ (pins:List (Addr×Obj)) (s:Shared) (σ:St) (H:Hp) (v:V) (u:Value) (Q:St->Hp->Prop),Inv X pins σ H s->bw v u->t v σ H Q ->
  qb (q3 X.prog X.w) X.A (Kv a X.env u) (λ_ s'=>∃ σ' H',Inv X pins σ' H' s'/\Q σ' H') X.xe s
noncomputable def PGs (X:Cx) (ts:List Expr) (t:TGs):Prop :=
 ∀ (pins:List (Addr×Obj)) (s:Shared) (σ:St) (H:Hp) (vs:List V) (us:List Value) (Q:St->Hp->Prop),Inv X pins σ H s->aX vs us->t vs σ H Q ->
  qb (q3 X.prog X.w) X.A (assignInOrder ((J6 ts X.env).map (·.2)) us) (λ_ s'=>∃ σ' H',Inv X pins σ' H' s'/\Q σ' H') X.xe s
noncomputable abbrev Es:=V->V->V->Hp->(Hp->Prop)->Prop
noncomputable def EX (X:Cx) (t:Es):Prop :=
 ∀ (pins:List (Addr×Obj)) (s:Shared) (σ:St) (H:Hp) (o i v:V) (ov iv u:Value) (Q:Hp->Prop),Inv X pins σ H s->bw o ov->bw i iv->bw v u->t o i v H Q ->
  qb (q3 X.prog X.w) X.A (Qs ov iv u) (λ_ s'=>∃ H',Inv X pins σ H' s'/\Q H') X.xe s
section
variable {X:Cx}{pos:Pos}
noncomputable def wS (i:Nat):TG:=λv σ H Q=>Q (σ.set i (some v)) H
theorem Al {i:Nat}{x:Str} (a:X.N.Nodup) (hi:X.N[i]? = some x) (hx:Loc X.env.scope x) (b:X.fn x=true\/X.env.scope.names.lookup x=some .local:=by first|exact .inl rfl|exact .inr rfl|assumption):PG X (.Name x pos) (wS i):=by
 intro pins s σ H v u Q I r h
 exact wpAny_assign_Name (oK I a hi hx r (λs' c=>⟨_,H,c,h⟩) b)
noncomputable def Hl:TGs:=λvs σ H Q=>vs=[]/\Q σ H
noncomputable def FS (t:TG) (u:TGs):TGs:=λvs σ H Q=>∃ v r,vs=v::r/\t v σ H λσ' H'=>u r σ' H' Q
theorem Ak:PGs X [] Hl:=by
 intro pins s σ H vs us Q I r h
 obtain⟨e,h⟩:=h
 subst e
 cases r
 exact assignInOrder_nil ⟨σ,H,I,h⟩
theorem vX {e:Expr}{es:List Expr}{t:TG}{u:TGs} (h1:PG X e t) (h2:PGs X es u)
  (c:(J6 (e::es) X.env).map (·.2)=Kv e X.env::(J6 es X.env).map (·.2):=by rfl):PGs X (e::es) (FS t u):=by
 intro pins s σ H vs us Q I r h
 obtain⟨v,f,e1,h⟩:=h
 subst e1
 cases r with
 | cons r rr =>
  rw[c]
  refine assignInOrder_cons (thn (h1 pins s σ H _ _ _ I r h) λ_ s1 a=>?_)
  obtain⟨b,H1,d,q1⟩:=a
  exact h2 pins s1 b H1 _ _ Q d rr q1
noncomputable def GI (K:PySem.W.Frag) (n:Nat) (t:TGs):TG:=λv σ H Q=>∃ a xs,v=.ref a/\SqT K H a xs/\xs.length=n/\t xs σ H Q
theorem C6 {es:List Expr}{k:Nat}{t:TGs}{n:Nat} (hc:X.calm=true) (h:PGs X es t)
  (hn:(J6 es X.env).length=n:=by rfl) (c:(J6 es X.env).findIdx? (·.1)=none:=by rfl):PG X (.Tuple es k pos) (GI X.K n t):=by
 intro pins s σ H v u Q I r hw
 obtain⟨a,xs,e1,f,g,hw⟩:=hw
 subst e1
 cases r
 obtain⟨i,d,j,hz⟩:=I.tuple f
 refine assign_Tuple_tuple (I.ok.hd hc) j (by simp[hn,<-g,d.length]) c λh' hx=>?_
 have l:Inv X pins σ H { s with heap:=h' }:=I.kept (t':=s.toks) λb o e=>hx b o (HZ (HL e)) e
 exact h pins _ σ H xs _ Q l (by simpa using d) hw
noncomputable def Hk (to a:TE) (t:Es):TG:=λv σ H Q=>to σ H λo H1=>a σ H1 λi H2=>t o i v H2 λb=>Q σ b
theorem tI {o i:Expr}{to d:TE}{t:Es} (ho:PE X o to) (hi:PE X i d) (e:EX X t)
  (f:∀ v,Kv (.Subscript o i pos) X.env v=(do
   let ov <-Kk [v] (eval o X.env)
   let iv <-Kk [v,ov] (eval i X.env)
   KD pos
   Kk [v,ov,iv] (Qs ov iv v)
   release [v,ov,iv] []):=by intro _;rfl):PG X (.Subscript o i pos) (Hk to d t):=by
 intro pins s σ H v u Q I r h
 rw[f]
 refine jj (zh (thn (ho pins s σ H _ I h) λov s1 a=>?_))
 obtain⟨x,H1,g,r1,q1⟩:=a
 refine jj (zh (thn (hi pins s1 σ H1 _ g q1) λiv s2 b=>?_))
 obtain⟨y,H2,j,k,l⟩:=b
 refine jj (KZ (jj (zh (thn (e pins s2 σ H2 x y v ov iv u _ j r1 k r l) λ_ q c=>?_))))
 obtain⟨m,n,p⟩:=c
 exact wpAny_release ⟨σ,m,n,p⟩
noncomputable def Ey (te:TE) (g:TG):TS:=λD σ H=>te σ H λx H1=>g x σ H1 D.nx
theorem pj {tg e:Expr}{te:TE}{g:TG} (b:PE X e te) (c:PG X tg g) (d:K0 [tg] e pos.line X.env=pure false:=by rfl) (hw:K1 [tg] e X.env=pure none:=by rfl)
  (h1:(J6 [tg] X.env).map (·.2)=[Kv tg X.env]:=by rfl):PS X (.Assign [tg] e pos) (Ey te g):=by
 intro pins s σ H D I h
 refine wpAny_Assign_stores (thn (b pins s σ H _ I h) λv s1 a=>?_) d hw
 obtain⟨x,H1,f,r1,q1⟩:=a
 rw[h1]
 exact thn (c pins s1 σ H1 x v _ f r1 q1) λ_ s2 q=>q
theorem C0 {i:Nat}{x:Str}{e:Expr}{te:TE}{a:Pos} (c:X.N.Nodup) (hi:X.N[i]? = some x) (hx:Loc X.env.scope x) (d:PE X e te) (f:K5 e (some (.Name x a)) pos.line X.env=pure false:=by rfl) (g:X.fn x=true\/X.env.scope.names.lookup x=some .local:=by first|exact .inl rfl|exact .inr rfl|assumption) :
  PS X (.Assign [.Name x a] e pos) (Ey te (wS i)):=by
 intro pins s σ H D I h
 refine wpAny_Assign_Name (thn (d pins s σ H _ I h) λv s1 b=>?_) f
 obtain⟨y,H1,j,r1,q1⟩:=b
 exact oK j c hi hx r1 (λs2 k=>⟨_,H1,k,q1⟩) g
end
section
variable {X:Cx}{pos:Pos}
noncomputable def Cr (c:TT) (tb:TS):TS:=λD σ H=>∃ W:Nat->St->Hp->Prop,(∃ m,W m σ H)/\∀ m σ H,W m σ H ->
 c σ H λb H1=>if b=true then ∃ N:St->Hp->Prop,(∀ σ' H',N σ' H'->∃ a,a<m/\W a σ' H')/\tb { D with nx:=N,ct:=N,bk:=D.nx } σ H1 else D.nx σ H1
theorem vV {c:Expr}{body:List Stmt}{tc:TT}{tb:TS} (r:PassesOwn (q3 X.prog X.w) X.A X.env X.xe) (hc:PT X c tc) (x:PSs X body tb):PS X (.While c body [] pos) (Cr tc tb):=by
 intro pins s σ H D I h
 obtain⟨W,⟨y,z⟩,e⟩:=h
 refine wpAny_While (codeAny_whileLoop (λn s'=>∃ σ' H',Inv X pins σ' H' s'/\W n σ' H') ?_ y ⟨σ,H,I,z⟩)
 rintro n s1 ⟨d,H1,B,C⟩
 refine Kl r (thn (hc pins s1 d H1 _ B (e n d H1 C)) λb s2 k=>?_)
 obtain⟨H2,t,i⟩:=k
 cases b with
 | true =>
  obtain⟨N,u,i⟩:=i
  rw[if_pos rfl]
  refine Kl r (thn (x pins s2 d H2 _ t i) λf E j=>?_)
  cases f with
  | next =>
   obtain⟨a,g,l,m⟩:=j
   obtain⟨o,p,q⟩:=u a g m
   exact⟨o,p,a,g,l,q⟩
  | cont =>
   obtain⟨a,g,l,m⟩:=j
   obtain⟨o,p,q⟩:=u a g m
   exact⟨o,p,a,g,l,q⟩
  | brk=>exact j
  | ret v=>exact j
 | false =>
  rw[if_neg H9]
  exact KJ ⟨d,H2,t,i⟩
end
structure It where
 go : Nat->Hp->Prop
 yld:Nat->Hp->V->Hp->Prop
 stop:Nat->Hp->Prop
noncomputable def eU (X:Cx) (pins:List (Addr×Obj)) (H:Hp) (b:Addr):Prop :=
 H b=none/\b≠X.env.locals/\b ∉ X.fs/\(b∈X.ex\/X.s₀.heap.objs.size<=b)/\(∀ x c,X.env.cells.lookup x=some c->c≠b)/\∀ p∈X.pn++pins,p.1≠b
theorem Inv.fpOk {X:Cx}{pins:List (Addr×Obj)}{σ:St}{H H':Hp}{s:Shared}{b:Addr} (I:Inv X pins σ H s) (a:s.heap.objs.size<=b) (hn:H' b=none):eU X pins H' b:=by
 refine⟨hn,Iz (HV I.lt a),I.nofs a,.inr (HQ I.sz a),λx c e z=>?_,λp d z=>?_⟩
 ·obtain⟨v,q⟩:=I.cell x c e
  exact absurd (HV q.lt (by rw[z];exact a)) (IU _)
 ·exact absurd (HV (HL (I.pin p d).1) (by rw[z];exact a)) (IU _)
structure zi (P:zb) (w:zf) (K:PySem.W.Frag) (tg:Expr) (J:It) (fp:List Addr) (it:Addr) (tn:Nat->Heap->Prop):Prop where
 mem:it∈fp
 obj:∀ i h,tn i h->∀ b∈fp,∃ o,h.get? b=some o/\∀ v,o.data≠.cell v
 keep:∀ i h h',tn i h->(∀ b∈fp,∀ o,h.get? b=some o->h'.get? b=some o)->tn i h'
 item:∀ (X:Cx),X.prog=P->X.w=w->X.K=K->X.calm=true->∀ (i:Nat) (pins:List (Addr×Obj)) (s:Shared) (σ:St) (H:Hp) (E:Value->Shared->Prop),Inv X pins σ H s->(∀ b∈fp,eU X pins H b)->tn i s.heap->J.go i H ->
  qb (q3 P w) X.A (KO (.ref it)) (λr s1=>∃ u,r=some u /\
   qb (q3 P w) X.A (Qd tg (.ref it) u) (λ_ s2=>∃ x H',Inv X pins σ H' s2/\bw x u/\J.yld i H x H'/\tn (i+1) s2.heap/\∀ b∈fp,H' b=none) E s1) E s
 done:∀ (X:Cx),X.prog=P->X.w=w->X.K=K->X.calm=true->∀ (i:Nat) (pins:List (Addr×Obj)) (s:Shared) (σ:St) (H:Hp) (E:Value->Shared->Prop),Inv X pins σ H s->(∀ b∈fp,eU X pins H b)->tn i s.heap->J.stop i H ->
  qb (q3 P w) X.A (KO (.ref it)) (λr s1=>r=none/\Inv X pins σ H s1) E s
 self:∀ (A:Around) (i:Nat) (s:Shared) (Q:Value->Shared->Prop) (E:Value->Shared->Prop),tn i s.heap->Q (.ref it) s->qb (q3 P w) A (pyIter (.ref it)) Q E s
noncomputable abbrev TI:=St->Hp->(It->Hp->Prop)->Prop
noncomputable def PIE (X:Cx) (pins:List (Addr×Obj)) (σ:St) (tg:Expr) (R:It->Hp->Prop) (a:Value) (s2:Shared):Prop :=
 ∃ (it:Addr) (fp:List Addr) (tn:Nat->Heap->Prop) (J:It) (H':Hp),a=.ref it/\Inv X pins σ H' s2/\zi X.prog X.w X.K tg J fp it tn/\tn 0 s2.heap/\(∀ b∈fp,eU X pins H' b)/\R J H'
noncomputable def PI (X:Cx) (tg iter:Expr) (a:TI):Prop :=
 ∀ (pins:List (Addr×Obj)) (s:Shared) (σ:St) (H:Hp) (R:It->Hp->Prop),Inv X pins σ H s->a σ H R ->
  qb (q3 X.prog X.w) X.A (eval iter X.env) (λv s1=>qb (q3 X.prog X.w) X.A (pyIter v) (PIE X pins σ tg R) X.xe s1) X.xe s
theorem wM {M:Model}{A:Around}{E:Value->Shared->Prop}{s:Shared}{tg:Expr}{it:Addr}{u:Value}{o:Obj}{n:String}{vs:Array Value}{Q:Unit->Shared->Prop} (ho:s.heap.get? it=some o) (hc:o.cls=.type n) (hd:o.data=.fields vs)
    (hn:["enumerate", "zip", "dict_itemiterator", "dict_reverseitemiterator", "odict_iterator", "itertools.zip_longest", "itertools.pairwise"].contains n=false) (a:Q () s):qb M A (Qd tg (.ref it) u) Q E s:=by
  unfold Qd
  cases tg <;> first
    | exact ke a
    | (cases u <;> first
        | exact ke a
        | (refine jj (wpAny_load ho ?_)
           rw[hc,hd]
           show qb M A (if (["enumerate", "zip", "dict_itemiterator", "dict_reverseitemiterator", "odict_iterator", "itertools.zip_longest", "itertools.pairwise"].contains n&&vs[0]?==some (Km _))=true then _ else _) Q E s
           rw[if_neg (by intro h;rw[hn,JZ] at h;cases h)]
           exact ke a))
noncomputable def Itl (K:PySem.W.Frag) (a:Addr):It :=
 ⟨λi H=>∃ xs x,SqL K H a xs/\xs[i]? = some x,λi H x H'=>H'=H/\∀ xs,SqL K H a xs->xs[i]? = some x,λi H=>∃ xs,SqL K H a xs/\xs.length<=i⟩
noncomputable def Itt (K:PySem.W.Frag) (a:Addr):It :=
 ⟨λi H=>∃ xs x,SqT K H a xs/\xs[i]? = some x,λi H x H'=>H'=H/\∀ xs,SqT K H a xs->xs[i]? = some x,λi H=>∃ xs,SqT K H a xs/\xs.length<=i⟩
noncomputable def Itr (lo:Int) (n:Nat):It:=⟨λi _=>i<n,λi H x H'=>H'=H/\x=.int (lo+i),λi _=>n<=i⟩
theorem sv {P:zb}{w:zf}{K:PySem.W.Frag}{tg:Expr} (a it:Addr):zi P w K tg (Itl K a) [it] it (λi h=>h.IsListIter it a i) where
 mem:=by simp
 obj:=λi h st b f=>by
  have e:b=it:=by simpa using f
  subst e
  obtain⟨o,e,c,d⟩:=st
  exact⟨o,e,λv z=>by rw[d] at z;cases z⟩
 keep:=λi h h' st k=>st.at λo e=>k it (by simp) o e
 item:=by
  intro X m hw hK hc i pins s σ H E I j st n
  subst m hw hK
  obtain⟨xs,x,l,hx⟩:=n
  obtain⟨q,r,p,hz⟩:=I.list l
  obtain⟨u,D,F⟩:=r.get hx
  obtain⟨t,y,G,A,B,C⟩:=j it (by simp)
  refine wpAny_pyNext_list_item st p.isList (x:=u) (by simpa using D) λh' g J=>?_
  have L:Inv X pins σ H { s with heap:=h' }:=I.turned (t':=s.toks) (λb o f e=>(J.2 b f).trans e) t y A B C
  obtain⟨o,e,c,d⟩:=id g
  exact⟨u,rfl,wM (s:={ s with heap:=h' }) e c d (by decide) ⟨x,H,L,F,⟨rfl,λys M=>by rw[I.list_inj M l];exact hx⟩,g,λb f=>(j b f).1⟩⟩
 done:=by
  intro X m hw hK hc i pins s σ H E I j st n
  subst m hw hK
  obtain⟨xs,l,hx⟩:=n
  obtain⟨q,r,p,hz⟩:=I.list l
  obtain⟨t,y,G,A,B,C⟩:=j it (by simp)
  have O:=r.length
  exact wpAny_pyNext_list_end (I.ok.hd hc) st p.isList (by simp;omega) λh' N=>⟨rfl,I.turned (t':=s.toks) (λb o f e=>N b o f e) t y A B C⟩
 self:=λ_ _ _ _ _ st h=>wpAny_pyIter_listiter st h
theorem qJ {P:zb}{w:zf}{K:PySem.W.Frag}{tg:Expr} (a it:Addr):zi P w K tg (Itt K a) [it] it (λi h=>h.IsTupleIter it a i) where
 mem:=by simp
 obj:=λi h st b f=>by
  have e:b=it:=by simpa using f
  subst e
  obtain⟨o,e,c,d⟩:=st
  exact⟨o,e,λv z=>by rw[d] at z;cases z⟩
 keep:=λi h h' st k=>st.at λo e=>k it (by simp) o e
 item:=by
  intro X n hw hK hc i pins s σ H E I l st q
  subst n hw hK
  obtain⟨xs,x,m,hx⟩:=q
  obtain⟨g,r,p,hz⟩:=I.tuple m
  obtain⟨u,D,F⟩:=r.get hx
  obtain⟨t,y,G,A,B,C⟩:=l it (by simp)
  refine wpAny_pyNext_tuple_item st (show s.heap.IsTuple a g.toArray from p) (x:=u) (by simpa using D) λh' j J=>?_
  have L:Inv X pins σ H { s with heap:=h' }:=I.turned (t':=s.toks) (λb o f e=>(J.2 b f).trans e) t y A B C
  obtain⟨o,e,c,d⟩:=id j
  exact⟨u,rfl,wM (s:={ s with heap:=h' }) e c d (by decide) ⟨x,H,L,F,⟨rfl,λys M=>by rw[I.tuple_inj M m];exact hx⟩,j,λb f=>(l b f).1⟩⟩
 done:=by
  intro X n hw hK hc i pins s σ H E I l st q
  subst n hw hK
  obtain⟨xs,m,hx⟩:=q
  obtain⟨g,r,p,hz⟩:=I.tuple m
  obtain⟨t,y,G,A,B,C⟩:=l it (by simp)
  have O:=r.length
  exact wpAny_pyNext_tuple_end (I.ok.hd hc) st (show s.heap.IsTuple a g.toArray from p) (by simp;omega) λh' N=>⟨rfl,I.turned (t':=s.toks) (λb o f e=>N b o f e) t y A B C⟩
 self:=λ_ _ _ _ _ st h=>wpAny_pyIter_tupleiter st h
theorem qK {P:zb}{w:zf}{K:PySem.W.Frag}{tg:Expr} (it:Addr) (lo:Int) (n:Nat):zi P w K tg (Itr lo n) [it] it (λi h=>IsRangeIter h it (lo+(i:Nat)*1) ((n:Int) - (i:Nat)) 1) where
 mem:=by simp
 obj := λi h st b a=>by
  have e:b=it:=by simpa using a
  subst e
  exact⟨_,st,λv z=>by
   have r:Data.fields _=Data.cell v:=z
   cases r⟩
 keep:=λi h h' st k=>k it (by simp) _ st
 item:=by
  intro X f hw hK hc i pins s σ H E I d st g
  subst f hw hK
  obtain⟨j,l,u,m,p,q⟩:=d it (by simp)
  have W:=Walks.range (prog:=X.prog) (w:=X.w) (I.ok.hd hc) it lo 1 n
  refine W.item i s _ _ g st λv h' tk x c y=>?_
  obtain⟨t,rfl⟩:=x
  have A:Inv X pins σ H { s with heap:=h',toks:=tk }:=I.turned (λb o a e=>y b o (by simpa using a) e) j l m p q
  refine⟨_,rfl,wM (s:={ s with heap:=h',toks:=tk }) (n := "range_iterator") c rfl rfl (by decide) ⟨.int (lo+i),H,A,⟨t,?_⟩,⟨rfl,rfl⟩,c,λb a=>(d b a).1⟩⟩
  rw[Int.mul_one]
 done:=by
  intro X f hw hK hc i pins s σ H E I d st g
  subst f hw hK
  obtain⟨j,l,u,m,p,q⟩:=d it (by simp)
  exact wpAny_pyNext_range_end (I.ok.hd hc) st (by have:n<=i:=g;omega) λh' B=>⟨rfl,I.turned (t':=s.toks) (λb o a e=>B b o a e) j l m p q⟩
 self:=λ_ _ _ _ _ st h=>wpAny_pyIter_rangeiter st h
section
variable {X:Cx}{tg:Expr}
noncomputable def DK (K:PySem.W.Frag) (tl:TE):TI:=λσ H R=>tl σ H λx H1=>∃ a,x=.ref a/\(∃ xs,SqL K H1 a xs)/\R (Itl K a) H1
noncomputable def GH (K:PySem.W.Frag) (tl:TE):TI:=λσ H R=>tl σ H λx H1=>∃ a,x=.ref a/\(∃ xs,SqT K H1 a xs)/\R (Itt K a) H1
theorem Ai {l:Expr}{tl:TE} (f:PE X l tl):PI X tg l (DK X.K tl):=by
 intro pins s σ H R I h
 refine thn (f pins s σ H _ I h) λv s1 d=>?_
 obtain⟨x,H1,c,r1,q1⟩:=d
 obtain⟨a,e,⟨xs,g⟩,q⟩:=q1
 subst e
 cases r1
 obtain⟨i,k,p,hz⟩:=c.list g
 refine Kn p.isList ?_
 refine⟨s1.heap.objs.size,[s1.heap.objs.size],_,_,H1,rfl,c.kept (t':=s1.toks) λb o e=>HE _ e,sv a _,⟨_,HR _ rfl,rfl,rfl⟩,λb j=>?_,q⟩
 have e:b=s1.heap.objs.size:=by simpa using j
 subst e
 exact c.fpOk (HK _) (c.hok.fresh (HK _))
theorem C4 {l:Expr}{tl:TE} (g:PE X l tl):PI X tg l (GH X.K tl):=by
 intro pins s σ H R I h
 refine thn (g pins s σ H _ I h) λv s1 d=>?_
 obtain⟨x,H1,c,r1,q1⟩:=d
 obtain⟨a,e,⟨xs,i⟩,q⟩:=q1
 subst e
 cases r1
 obtain⟨f,k,p,hz⟩:=c.tuple i
 refine wpAny_pyIter_tuple (show s1.heap.IsTuple a f.toArray from p) ?_
 refine⟨s1.heap.objs.size,[s1.heap.objs.size],_,_,H1,rfl,c.kept (t':=s1.toks) λb o e=>HE _ e,qJ a _,⟨_,HR _ rfl,rfl,rfl⟩,λb j=>?_,q⟩
 have e:b=s1.heap.objs.size:=by simpa using j
 subst e
 exact c.fpOk (HK _) (c.hok.fresh (HK _))
theorem pf {pins:List (Addr×Obj)}{σ:St}{H:Hp}{s:Shared}{R:It->Hp->Prop}{E:Value->Shared->Prop}{lo hi:Int}{t u v:Tok}{tk:Nat} (I:Inv X pins σ H s) (h1:-(2 ^ 62)<=lo) (h2:lo<2 ^ 62) (c:-(2 ^ 62)<=hi) (d:hi<2 ^ 62)
  (q : R (Itr lo (hi - lo).toNat) H):qb (q3 X.prog X.w) X.A (pyIter (.ref s.heap.objs.size)) (PIE X pins σ tg R) E { s with heap:=s.heap.push { cls:=.type "range",data:=.fields #[.int lo t,.int hi u,.int 1 v] },toks:=tk }:=by
 refine wpAny_pyIter_range (IsRange.new ..) (small_one h1 h2 c d) ?_
 have a:Inv X pins σ H { s with heap:=s.heap.push { cls:=.type "range",data:=.fields #[.int lo t,.int hi u,.int 1 v] },toks:=tk }:=I.kept λb o e=>HE _ e
 refine⟨(s.heap.push { cls:=.type "range",data:=.fields #[.int lo t,.int hi u,.int 1 v] }).objs.size,[(s.heap.push { cls:=.type "range",data:=.fields #[.int lo t,.int hi u,.int 1 v] }).objs.size],_,_,H,rfl,
  a.kept (t':=tk) λb o e=>HE _ e,qK _ lo (hi - lo).toNat,?_,λb f=>?_,q⟩
 ·have e1:lo+((0:Nat):Int)*1=lo:=by simp
  have e2:(((hi - lo).toNat:Nat):Int) - ((0:Nat):Int)=Builtin.Range.rangeSize lo hi 1:=by rw[rangeSize_one];split <;> omega
  show IsRangeIter _ _ (lo+((0:Nat):Int)*1) ((((hi - lo).toNat:Nat):Int) - ((0:Nat):Int)) 1
  rw[e1,e2]
  exact HR _ rfl
 ·have e:b=(s.heap.push { cls:=.type "range",data:=.fields #[.int lo t,.int hi u,.int 1 v] }).objs.size:=by simpa using f
  subst e
  exact a.fpOk (HK _) (a.hok.fresh (HK _))
noncomputable def FP (ta:TA):TI:=λσ H R=>ta σ H λvs H1=>∃ j:Int,vs=[.int j]/\-(2 ^ 62)<=j/\j<2 ^ 62/\R (Itr 0 j.toNat) H1
noncomputable def FO (ta:TA):TI:=λσ H R=>ta σ H λvs H1=>∃ i j:Int,vs=[.int i,.int j]/\(-(2 ^ 62)<=i/\i<2 ^ 62/\-(2 ^ 62)<=j/\j<2 ^ 62)/\R (Itr i (j - i).toNat) H1
theorem tH {a:Expr}{ta:TA}{p pos:Pos} (c:Gl X "range") (d:X.mg "range" = none) (f:PA X [a] ta) (g:kq [a] X.env=[(false,eval a X.env)]:=by rfl):PI X tg (.Call (.Name "range" p) [a] [] pos) (FP ta):=by
 intro pins s σ H R I h
 refine QV (dh I c d boot_range (PyProof.Rows.callWith_type1 (thn (f pos pins s σ H _ I h) λus s1 b=>?_) g rfl))
 obtain⟨vs,H1,i,r1,q1⟩:=b
 obtain⟨j,e,q1,k,q⟩:=q1
 subst e
 cases r1 with
 | cons r rr =>
  cases rr
  obtain⟨t,rfl⟩:=r
  exact call_range_1 (pf i (by omega) (by omega) q1 k (by simpa using q))
theorem tG {a b:Expr}{ta:TA}{p pos:Pos} (f:Gl X "range") (g:X.mg "range" = none) (k:PA X [a,b] ta) (l:kq [a,b] X.env=[(false,eval a X.env),(false,eval b X.env)]:=by rfl) (c:kq [b] X.env=[(false,eval b X.env)]:=by rfl) :
  PI X tg (.Call (.Name "range" p) [a,b] [] pos) (FO ta):=by
 intro pins s σ H R I h
 refine QV (dh I f g boot_range (PyProof.Rows.callWith_type1 (thn (k pos pins s σ H _ I h) λus s1 d=>?_) (by rw[l,c]) (by rw[c];rfl)))
 obtain⟨vs,H1,m,r1,q1⟩:=d
 obtain⟨i,j,e,⟨q1,n,o,u⟩,q⟩:=q1
 subst e
 cases r1 with
 | cons r rr =>
  cases rr with
  | cons v rr =>
   cases rr
   obtain⟨t,rfl⟩:=r
   obtain⟨t',rfl⟩:=v
   exact call_range_2 (pf m q1 n o u q)
noncomputable def GZ (c:TI) (g:TG) (tb:TS):TS:=λD σ H=>c σ H λJ H1=>∃ W:Nat->Nat->St->Hp->Prop,(∃ m,W 0 m σ H1)/\∀ i m σ H,W i m σ H ->
 (J.stop i H/\D.nx σ H)\/(J.go i H/\∃ N:St->Hp->Prop,(∀ σ' H',N σ' H'->∃ b,b<m/\W (i+1) b σ' H')/\∀ x H',J.yld i H x H'->g x σ H' λa H2=>tb { D with nx:=N,ct:=N,bk:=D.nx } a H2)
noncomputable def gu (fp:List Addr) (h:Heap):List (Addr×Obj):=fp.filterMap λb=>(h.get? b).map λo=>(b,o)
theorem eK {fp:List Addr}{h:Heap}{b:Addr}{o:Obj} (a:b∈fp) (e:h.get? b=some o):(b,o)∈gu fp h:=List.mem_filterMap.mpr ⟨b,a,by rw[e];rfl⟩
theorem lB {fp:List Addr}{h:Heap}{p:Addr×Obj} (a:p∈gu fp h):p.1∈fp/\h.get? p.1=some p.2:=by
 obtain⟨b,c,e⟩:=List.mem_filterMap.mp a
 cases q:h.get? b with
 | none=>rw[q] at e;cases e
 | some o =>
  rw[q] at e
  have d:(b,o)=p:=Option.some.inj e
  subst d
  exact⟨c,q⟩
theorem Inv.pinned {pins:List (Addr×Obj)}{σ:St}{H:Hp}{s:Shared}{fp:List Addr} (I:Inv X pins σ H s) (f:∀ b∈fp,eU X pins H b) (ho:∀ b∈fp,∃ o,s.heap.get? b=some o/\∀ v,o.data≠.cell v):Inv X (pins++gu fp s.heap) σ H s :=
 I.pins_of λp g=>(HF.mp g).elim (λz=>I.pin p (HA _ z)) λz=>by
  obtain⟨a,e⟩:=lB z
  obtain⟨h,i,j,_⟩:=f p.1 a
  obtain⟨o,c,d⟩:=ho p.1 a
  rw[e] at c;cases c
  exact⟨e,h,i,j,d⟩
theorem Inv.unpinned {pins a:List (Addr×Obj)}{σ:St}{H:Hp}{s:Shared} (I:Inv X (pins++a) σ H s):Inv X pins σ H s:=I.pins_of λp b=>I.pin p (HA _ (HG _ b))
theorem C2 {iter:Expr}{body:List Stmt}{V:TI}{g:TG}{tb:TS}{pos:Pos} (y:PassesOwn (q3 X.prog X.w) X.A X.env X.xe) (hc:X.calm=true) (hi:PI X tg iter V) (hg:PG X tg g) (c:PSs X body tb)
  (hs:∀ x,J9 iter X.env x=pure x:=by intro _;rfl):PS X (.For tg iter body [] pos) (GZ V g tb):=by
 intro pins s σ H D I h
 refine wpAny_For (thn (hi pins s σ H _ I h) λv s1 h1=>thn h1 λa0 s2 h2=>?_) hs
 obtain⟨it,fp,tn,J,H2,e,I2,T,G,Y,W,⟨m0,w0⟩,z⟩:=h2
 subst e
 have j:∀ {H':Hp},(∀ b∈fp,H' b=none)->∀ b∈fp,eU X pins H' b:=λhn b c=>⟨hn b c,(Y b c).2⟩
 refine codeAny_forLoop_any (λn s'=>∃ i σ' H',Inv X pins σ' H' s'/\tn i s'.heap/\(∀ b∈fp,H' b=none)/\W i n σ' H') ?_ m0 ⟨0,σ,H2,I2,G,λb c=>(Y b c).1,w0⟩
 rintro n Z ⟨i,k,F,I3,B,C,w3⟩
 rcases z i n k F w3 with⟨stop,qn⟩|⟨go,N,hN,step⟩
 ·refine Kl y (thn (T.done X rfl rfl rfl hc i pins Z k F X.xe I3 (j C) B stop) λr s4 K=>?_)
  obtain⟨L,I4⟩:=K
  subst L
  exact KJ ⟨k,F,I4,qn⟩
 ·refine Kl y (thn (T.item X rfl rfl rfl hc i pins Z k F X.xe I3 (j C) B go) λr s4 M=>?_)
  obtain⟨u,L,h4⟩:=M
  subst L
  refine Kl y (thn h4 λ_ s5 O=>?_)
  obtain⟨x,H5,I5,r5,y5,t,P⟩:=O
  have Q:=I5.pinned (j P) (T.obj _ _ t)
  refine Kl y (thn (hg _ s5 k H5 x u _ Q r5 (step x H5 y5)) λ_ s6 R=>?_)
  obtain⟨S,H6,I6,q6⟩:=R
  refine Kl y (thn (c _ s6 S H6 _ I6 q6) λf U q=>?_)
  have again:∀ {a:St}{l:Hp},Inv X (pins++gu fp s5.heap) a l U->N a l->∃ m,m<n/\∃ i σ' H',Inv X pins σ' H' U/\tn i U.heap/\(∀ b∈fp,H' b=none)/\W i m σ' H':=λ{a l} p E=>by
   obtain⟨m',hm,w7⟩:=hN a l E
   refine⟨m',hm,i+1,a,l,p.unpinned,T.keep _ _ _ t λb c o e=>(p.pin (b,o) (HA _ (HA _ (eK c e)))).1,λb c=>?_,w7⟩
   obtain⟨o,e,d⟩:=T.obj _ _ t b c
   exact(p.pin (b,o) (HA _ (HA _ (eK c e)))).2.1
  cases f with
  | next=>obtain⟨a,l,p,E⟩:=q;exact again p E
  | cont=>obtain⟨a,l,p,E⟩:=q;exact again p E
  | brk=>obtain⟨a,l,p,q⟩:=q;exact⟨a,l,p.unpinned,q⟩
  | ret v=>obtain⟨x7,a,l,p,r7,q⟩:=q;exact⟨x7,a,l,p.unpinned,r7,q⟩
end
noncomputable abbrev R2:=V->V->Hp->VK->Prop
noncomputable def OpR (X:Cx) (f:Value->Value->Sem Value) (r:R2):Prop :=
 ∀ (pins:List (Addr×Obj)) (s:Shared) (σ:St) (H:Hp) (x y:V) (v u:Value) (Q:VK),Inv X pins σ H s->bw x v->bw y u->r x y H Q ->
  qb (q3 X.prog X.w) X.A (f v u) (EP X pins σ Q) X.xe s
noncomputable def UnR (X:Cx) (f:Value->Sem Value) (r:V->Hp->VK->Prop):Prop :=
 ∀ (pins:List (Addr×Obj)) (s:Shared) (σ:St) (H:Hp) (x:V) (v:Value) (Q:VK),Inv X pins σ H s->bw x v->r x H Q ->
  qb (q3 X.prog X.w) X.A (f v) (EP X pins σ Q) X.xe s
noncomputable def fw (X:Cx) (f:Value) (r:List V->Hp->VK->Prop):Prop :=
 ∀ (pins:List (Addr×Obj)) (s:Shared) (σ:St) (H:Hp) (xs:List V) (us:List Value) (Q:VK),Inv X pins σ H s->aX xs us->r xs H Q ->
  qb (q3 X.prog X.w) X.A (call f us) (EP X pins σ Q) X.xe s
noncomputable def Hv (X:Cx) (r:V->Hp->(Bool->Hp->Prop)->Prop):Prop :=
 ∀ (pins:List (Addr×Obj)) (s:Shared) (σ:St) (H:Hp) (x:V) (v:Value) (Q:Bool->Hp->Prop),Inv X pins σ H s->bw x v->r x H Q ->
  qb (q3 X.prog X.w) X.A (QE v) (TP X pins σ Q) X.xe s
noncomputable def tOp (r:R2) (ta tb:TE):TE:=λσ H Q=>ta σ H λx H1=>tb σ H1 λy H2=>r x y H2 Q
noncomputable def tUn (r:V->Hp->VK->Prop) (ta:TE):TE:=λσ H Q=>ta σ H λx H1=>r x H1 Q
noncomputable def rI (C:Int->Int->Prop) (g:Int->Int->V):R2:=λx y H Q=>∃ i j,x=.int i/\y=.int j/\C i j/\Q (g i j) H
noncomputable def rI0 (g:Int->Int->V):R2:=λx y H Q=>∃ i j,x=.int i/\y=.int j/\Q (g i j) H
noncomputable def rU (g:Int->V):V->Hp->VK->Prop:=λx H Q=>∃ i,x=.int i/\Q (g i) H
section
variable {X:Cx}{a b:Expr}{ta tb:TE}{pos:Pos}
theorem Gk (i:PE X a ta) (j:PE X b tb) {pins:List (Addr×Obj)}{s:Shared}{σ:St}{H:Hp}{R:V->V->Hp->Prop} (I:Inv X pins σ H s)
  (h : ta σ H λx H1=>tb σ H1 λy H2=>R x y H2) {Q:Value->Shared->Prop}{f:Value->Value->Sem Value}
  (k:∀ v u s2 x y H2,Inv X pins σ H2 s2->bw x v->bw y u->R x y H2->qb (q3 X.prog X.w) X.A (f v u) Q X.xe s2) :
  qb (q3 X.prog X.w) X.A (eval a X.env) (λv c=>qb (q3 X.prog X.w) X.A (eval b X.env) (λu d=>qb (q3 X.prog X.w) X.A (f v u) Q X.xe d) X.xe c) X.xe s:=by
 refine thn (i pins s σ H _ I h) λv s1 e=>?_
 obtain⟨x,H1,l,r1,q1⟩:=e
 refine thn (j pins s1 σ H1 _ l q1) λu s2 g=>?_
 obtain⟨y,H2,m,n,o⟩:=g
 exact k v u s2 x y H2 m r1 n o
theorem C8 {op:Operator}{r:R2} (ho:OpR X (Ky op) r) (c:PE X a ta) (d:PE X b tb):PE X (.BinOp a op b pos) (tOp r ta tb):=by
 intro pins s σ H Q I h
 exact wpAny_BinOp (Gk c d I h λv u s2 x y H2 e f g q=>ho pins s2 σ H2 x y v u Q e f g q)
theorem C7 {op:UnaryOp}{r:V->Hp->VK->Prop} (ho:UnR X (unaryOp op) r) (b:PE X a ta):PE X (.UnaryOp op a pos) (tUn r ta):=by
 intro pins s σ H Q I h
 exact UnaryOp_ (thn (b pins s σ H _ I h) λv s1 ⟨x,H1,c,r1,q1⟩=>ho pins s1 σ H1 x v Q c r1 q1)
theorem opI {f:Value->Value->Sem Value}{C:Int->Int->Prop}{g:Int->Int->Int}
  (rule:∀ (i j:Int) (t u:Tok) (s:Shared) (Q:Value->Shared->Prop) (E:Value->Shared->Prop),C i j->Q (.int (g i j) s.toks) { s with toks:=s.toks+1 }->qb (q3 X.prog X.w) X.A (f (.int i t) (.int j u)) Q E s) :
  OpR X f (rI C λi j=>.int (g i j)):=by
 intro pins s σ H x y v u Q I a b h
 obtain⟨i,j,rfl,rfl,hc,q⟩:=h
 obtain⟨t,rfl⟩:=a
 obtain⟨t',rfl⟩:=b
 exact rule i j t t' s _ _ hc ⟨.int (g i j),H,I.tok _,⟨_,rfl⟩,q⟩
theorem Gx {f:Value->Value->Sem Value}{g:Int->Int->Int}
  (rule:∀ (i j:Int) (t u:Tok) (s:Shared) (Q:Value->Shared->Prop) (E:Value->Shared->Prop),Q (.int (g i j) s.toks) { s with toks:=s.toks+1 }->qb (q3 X.prog X.w) X.A (f (.int i t) (.int j u)) Q E s) :
  OpR X f (rI0 λi j=>.int (g i j)):=by
 intro pins s σ H x y v u Q I a b h
 obtain⟨i,j,rfl,rfl,q⟩:=h
 obtain⟨t,rfl⟩:=a
 obtain⟨t',rfl⟩:=b
 exact rule i j t t' s _ _ ⟨.int (g i j),H,I.tok _,⟨_,rfl⟩,q⟩
theorem Ez {f:Value->Value->Sem Value}{g:Int->Int->Bool}
  (rule:∀ (i j:Int) (t u:Tok) (s:Shared) (Q:Value->Shared->Prop) (E:Value->Shared->Prop),Q (.bool (g i j)) s->qb (q3 X.prog X.w) X.A (f (.int i t) (.int j u)) Q E s) :
  OpR X f (rI0 λi j=>.bl (g i j)):=by
 intro pins s σ H x y v u Q I a b h
 obtain⟨i,j,rfl,rfl,q⟩:=h
 obtain⟨t,rfl⟩:=a
 obtain⟨t',rfl⟩:=b
 exact rule i j t t' s _ _ ⟨.bl (g i j),H,I,rfl,q⟩
noncomputable def Hy (i j:Int):Prop:=0<j/\j<1073741824
noncomputable def Ex (i j:Int):Prop:=(-(2 ^ 64)<i/\i<2 ^ 64)\/(-(2 ^ 64)<j/\j<2 ^ 64)
theorem Ex.ok {i j:Int} (h:Ex i j):IntMulOk i j:=by
 rcases h with⟨h1,h2⟩|⟨h1,h2⟩
 ·exact .of_left (intBits_le_64 h1 h2)
 ·exact .of_right (intBits_le_64 h1 h2)
theorem cQ:OpR X (Ky .Add) (rI0 λi j=>.int (i+j)):=Gx λ_ _ _ _ _ _ _ q=>add_int q
theorem jq:OpR X (Ky .Sub) (rI0 λi j=>.int (i - j)):=Gx λ_ _ _ _ _ _ _ q=>sub_int q
theorem gv:OpR X (Ky .Mult) (rI Ex λi j=>.int (i*j)):=opI λ_ _ _ _ _ _ _ hc q=>mul_int q hc.ok
theorem jS:OpR X (Ky .FloorDiv) (rI Hy λi j=>.int (i / j)):=opI λi j _ _ _ _ _ hc q=>by
 have h1:(0:Int)<j:=hc.1
 have h2:j<1073741824:=hc.2
 exact floordiv_int (by omega) (by rw[Int.fdiv_eq_ediv_of_nonneg i (by omega)];exact q) (.inl (PyProof.noPylong_small (by omega)))
theorem bF:OpR X (Ky .Mod) (rI (λ_ j=>0<j) λi j=>.int (i % j)):=opI λi j _ _ _ _ _ hc q=>by
 have h1:(0:Int)<j:=hc
 exact mod_int' (by omega) (by rw[Int.fmod_eq_emod_of_nonneg i (by omega)];exact q)
theorem unI {f:Value->Sem Value}{g:Int->Int}
  (rule:∀ (i:Int) (t:Tok) (s:Shared) (Q:Value->Shared->Prop) (E:Value->Shared->Prop),Q (.int (g i) s.toks) { s with toks:=s.toks+1 }->qb (q3 X.prog X.w) X.A (f (.int i t)) Q E s) :
  UnR X f (rU λi=>.int (g i)):=by
 intro pins s σ H x v Q I a h
 obtain⟨i,rfl,q⟩:=h
 obtain⟨t,rfl⟩:=a
 exact rule i t s _ _ ⟨.int (g i),H,I.tok _,⟨_,rfl⟩,q⟩
theorem jf:UnR X (unaryOp .USub) (rU λi=>.int (-i)):=unI λ_ _ _ _ _ q=>neg_int q
end
noncomputable def Gs:V->V->Bool
 | .non,.non=>true|.non,.int _=>true|.int _,.non=>true|.non,.bl _=>true|.bl _,.non=>true|.non,.str _=>true|.str _,.non=>true
 | .int _,.int _=>true|.bl _,.bl _=>true|.str _,.str _=>true|.byt _,.byt _=>true
 | .int _,.str _=>true|.str _,.int _=>true|.bl _,.str _=>true|.str _,.bl _=>true
 | _,_=>false
noncomputable def rEq:R2:=λx y H Q=>Gs x y=true/\Q (.bl (decide (x=y))) H
noncomputable def rNe:R2:=λx y H Q=>Gs x y=true/\Q (.bl (!decide (x=y))) H
theorem uJ {i j:Int}:decide (V.int i=V.int j)=(i==j):=by
 rw[JE]
 simp
theorem yR {i j:Bool}:decide (V.bl i=V.bl j)=(i==j):=by
 rw[JE]
 simp
theorem uI {i j:Str}:decide (V.str i=V.str j)=(i==j):=by
 rw[JE]
 simp
theorem uK {i j:Array UInt8}:decide (V.byt i=V.byt j)=(i.toList==j.toList):=by
 rw[JE]
 cases i
 cases j
 simp
section
variable {X:Cx}{a b c:Expr}{ta tb tc:TE}{pos:Pos}
theorem aS {pins:List (Addr×Obj)}{σ:St}{H:Hp}{s:Shared}{Q:VK}{k k':Bool} (I:Inv X pins σ H s) (q:Q (.bl k) H) (e:k=k'):EP X pins σ Q (.bool k') s:=by
 subst e
 exact⟨.bl k,H,I,rfl,q⟩
theorem nt:OpR X (z4 .Eq) rEq:=by
 intro pins s σ H x y v u Q I c a h
 obtain⟨b,q⟩:=h
 cases x with
 | non =>
  cases c
  cases y with
  | non=>cases a;exact PySem.EqNone.eq_none_none (aS I q (by simp))
  | bl j=>cases a;exact PySem.EqNone.eq_none_bool (aS I q (by simp))
  | int j=>obtain⟨t',rfl⟩:=a;exact PySem.EqNone.eq_none_int (aS I q (by simp))
  | str j=>obtain⟨t',rfl⟩:=a;exact PySem.EqNone.eq_none_str (aS I q (by simp))
  | _=>exact absurd (show false=true from b) H9
 | bl i =>
  cases c
  cases y with
  | non=>cases a;exact PySem.EqNone.eq_bool_none (aS I q (by simp))
  | bl j=>cases a;exact eq_bool (aS I q yR)
  | str j=>obtain⟨t',rfl⟩:=a;exact PySem.EqMixed.eq_bool_str (aS I q (by simp))
  | _=>exact absurd (show false=true from b) H9
 | int i =>
  obtain⟨t,rfl⟩:=c
  cases y with
  | non=>cases a;exact PySem.EqNone.eq_int_none (aS I q (by simp))
  | int j=>obtain⟨t',rfl⟩:=a;exact eq_int (aS I q uJ)
  | str j=>obtain⟨t',rfl⟩:=a;exact PySem.EqMixed.eq_int_str (aS I q (by simp))
  | _=>exact absurd (show false=true from b) H9
 | str i =>
  obtain⟨t,rfl⟩:=c
  cases y with
  | non=>cases a;exact PySem.EqNone.eq_str_none (aS I q (by simp))
  | bl j=>cases a;exact PySem.EqMixed.eq_str_bool (aS I q (by simp))
  | int j=>obtain⟨t',rfl⟩:=a;exact PySem.EqMixed.eq_str_int (aS I q (by simp))
  | str j=>obtain⟨t',rfl⟩:=a;exact eq_str (aS I q uI)
  | _=>exact absurd (show false=true from b) H9
 | byt i =>
  obtain⟨t,rfl⟩:=c
  cases y with
  | byt j=>obtain⟨t',rfl⟩:=a;exact PySem.W.eq_bytes (aS I q uK)
  | _=>exact absurd (show false=true from b) H9
 | _=>cases y <;> exact absurd (show false=true from b) H9
theorem nq:OpR X (z4 .NotEq) rNe:=by
 intro pins s σ H x y v u Q I c a h
 obtain⟨b,q⟩:=h
 cases x with
 | non =>
  cases c
  cases y with
  | non=>cases a;exact PySem.EqNone.ne_none_none (aS I q (by simp))
  | bl j=>cases a;exact PySem.EqNone.ne_none_bool (aS I q (by simp))
  | int j=>obtain⟨t',rfl⟩:=a;exact PySem.EqNone.ne_none_int (aS I q (by simp))
  | str j=>obtain⟨t',rfl⟩:=a;exact PySem.EqNone.ne_none_str (aS I q (by simp))
  | _=>exact absurd (show false=true from b) H9
 | bl i =>
  cases c
  cases y with
  | non=>cases a;exact PySem.EqNone.ne_bool_none (aS I q (by simp))
  | bl j=>cases a;exact ne_bool (aS I q (congrArg not yR))
  | str j=>obtain⟨t',rfl⟩:=a;exact PySem.EqMixed.ne_bool_str (aS I q (by simp))
  | _=>exact absurd (show false=true from b) H9
 | int i =>
  obtain⟨t,rfl⟩:=c
  cases y with
  | non=>cases a;exact PySem.EqNone.ne_int_none (aS I q (by simp))
  | int j=>obtain⟨t',rfl⟩:=a;exact ne_int (aS I q (congrArg not uJ))
  | str j=>obtain⟨t',rfl⟩:=a;exact PySem.EqMixed.ne_int_str (aS I q (by simp))
  | _=>exact absurd (show false=true from b) H9
 | str i =>
  obtain⟨t,rfl⟩:=c
  cases y with
  | non=>cases a;exact PySem.EqNone.ne_str_none (aS I q (by simp))
  | bl j=>cases a;exact PySem.EqMixed.ne_str_bool (aS I q (by simp))
  | int j=>obtain⟨t',rfl⟩:=a;exact PySem.EqMixed.ne_str_int (aS I q (by simp))
  | str j=>obtain⟨t',rfl⟩:=a;exact ne_str (aS I q (congrArg not uI))
  | _=>exact absurd (show false=true from b) H9
 | byt i =>
  obtain⟨t,rfl⟩:=c
  cases y with
  | byt j=>obtain⟨t',rfl⟩:=a;exact PySem.W.ne_bytes (aS I q (congrArg not uK))
  | _=>exact absurd (show false=true from b) H9
 | _=>cases y <;> exact absurd (show false=true from b) H9
theorem jR:OpR X (z4 .Lt) (rI0 λi j=>.bl (decide (i<j))):=Ez λ_ _ _ _ _ _ _ q=>lt_int q
theorem nr:OpR X (z4 .LtE) (rI0 λi j=>.bl (decide (i<=j))):=Ez λ_ _ _ _ _ _ _ q=>le_int q
theorem tZ:OpR X (z4 .Gt) (rI0 λi j=>.bl (decide (j<i))):=Ez λ_ _ _ _ _ _ _ q=>gt_int q
theorem Df:OpR X (z4 .GtE) (rI0 λi j=>.bl (decide (j<=i))):=Ez λ_ _ _ _ _ _ _ q=>ge_int q
theorem tX:OpR X (z4 .Is) (λx y H Q=>y=.non/\Q (.bl (decide (x=.non))) H):=by
 intro pins s σ H x y v u Q I a b h
 obtain⟨rfl,q⟩:=h
 cases b
 refine is_none_gen (aS I q ?_)
 cases x <;> first
  | (cases a;rfl)
  | (obtain⟨t,rfl⟩:=a;rfl)
theorem nj:OpR X (z4 .IsNot) (λx y H Q=>y=.non/\Q (.bl (!decide (x=.non))) H):=by
 intro pins s σ H x y v u Q I a b h
 obtain⟨rfl,q⟩:=h
 cases b
 refine isnot_none_gen (aS I q ?_)
 cases x <;> first
  | (cases a;rfl)
  | (obtain⟨t,rfl⟩:=a;rfl)
theorem aE (b:Expr) {op:CmpOp} (h:op≠.In:=by decide) (h2:op≠.NotIn:=by decide):KG op b=false:=by
 have e1:(op==CmpOp.In)=false:=by cases op <;> first|rfl|exact absurd rfl h
 have e2:(op==CmpOp.NotIn)=false:=by cases op <;> first|rfl|exact absurd rfl h2
 cases b <;> simp[KG,e1,e2]
theorem Au {op:CmpOp}{r:R2} (ho:OpR X (z4 op) r) (c:PE X a ta) (d:PE X b tb) (e:KG op b=false):PE X (.Compare a [op] [b] pos) (tOp r ta tb):=by
 intro pins s σ H Q I h
 exact wpAny_Compare1 (Gk c d I h λv u s2 x y H2 f g i q=>ho pins s2 σ H2 x y v u Q f g i q) e
noncomputable def Cs (t:TE):TT:=λσ H Q=>t σ H λx H'=>∃ k,x=.bl k/\Q k H'
theorem z8 {op:CmpOp}{r:R2} (ho:OpR X (z4 op) r) (d:PE X a ta) (f:PE X b tb) (g:KG op b=false):PT X (.Compare a [op] [b] pos) (Cs (tOp r ta tb)):=by
 intro pins s σ H Q I h
 refine wpAny_isTrue_Compare1 (thn (d pins s σ H _ I h) λv s1 ⟨x,H1,i,r1,q1⟩=>thn (f pins s1 σ H1 _ i q1) λu s2 ⟨y,H2,j,l,m⟩ =>
  thn (ho pins s2 σ H2 x y v u _ j r1 l m) λc t ⟨z,n,o,p,k,e,q⟩=>?_) g
 subst e
 cases p
 exact J5 ⟨n,o,q⟩
noncomputable def xQ (r b:R2) (ta tb tc:TE):TE:=λσ H Q=>ta σ H λx H1=>tb σ H1 λy H2=>r x y H2 λz a=>∃ k,z=.bl k /\
 (if k=true then tc σ a λw' c=>b y w' c Q else Q (.bl false) a)
theorem v7 {op f:CmpOp}{r i:R2} (ho:OpR X (z4 op) r) (g:OpR X (z4 f) i) (o:PE X a ta) (p:PE X b tb) (hc:PE X c tc)
  (q:lastMarks [op,f] [b,c]=false:=by with_unfolding_all rfl):PE X (.Compare a [op,f] [b,c] pos) (xQ r i ta tb tc):=by
 intro pins s σ H Q I h
 refine Compare_chain (thn (o pins s σ H _ I h) λv s1 ⟨x,H1,t,r1,q1⟩=>chain_link (thn (p pins s1 σ H1 _ t q1) λu s2 ⟨y,H2,w,j,A⟩ =>
  thn (ho pins s2 σ H2 x y v u _ w r1 j A) λd B ⟨z,l,m,C,k,e,n⟩=>?_)) q
 subst e
 cases C
 refine J5 ?_
 cases k with
 | false=>exact ite_ff ⟨.bl false,l,m,rfl,n⟩
 | true=>exact ite_tt (chain_last (thn (hc pins B σ l _ m n) λw' D ⟨E,F,G,J,K⟩=>g pins D σ F y E u w' Q G j J K))
noncomputable def EW (K:PySem.W.Frag) (x:V) (H:Hp) (k:Bool):Prop :=
 match x with
 | .non=>k=false
 | .bl b=>k=b
 | .int i=>k=(i != 0)
 | .str y=>y.length<=sizeLine/\k=((y.length:Int) != 0)
 | .byt y=>y.size<=sizeLine/\k=((y.size:Int) != 0)
 | .ref p=>(∃ xs,SqL K H p xs/\k=!xs.isEmpty)\/(∃ xs,SqT K H p xs/\k=!xs.isEmpty)\/∃ kvs,H p=some (.dK kvs)/\k=!kvs.isEmpty
 | _=>False
theorem rz {κ:Type}{kvs:List (κ×V)}{vs:List (κ×Value)} (r:KV kvs vs):(!vs.isEmpty)=!kvs.isEmpty:=by
 cases r <;> rfl
theorem jw {xs:List V}{a:List Value} (r:aX xs a):(!a.toArray.isEmpty)=!xs.isEmpty:=by
 cases r <;> simp
theorem lH:(sizeLine:Nat)<2 ^ 63:=by rw[zd];decide
theorem Cq:Hv X (λx H Q=>∃ k,EW X.K x H k/\Q k H):=by
 intro pins s σ H x v Q I d h
 obtain⟨k,e,q⟩:=h
 have n:=lH
 have o:sizeLine=16777216:=zd
 cases x with
 | non =>
  cases d
  have a:k=false:=e
  subst a
  exact truthy_none ⟨H,I,q⟩
 | bl b =>
  cases d
  have a:k=b:=e
  subst a
  exact J5 ⟨H,I,q⟩
 | int i =>
  obtain⟨t,rfl⟩:=d
  have a:k=(i != 0):=e
  subst a
  exact PySem.P.truthy_int ⟨H,I,q⟩
 | str y =>
  obtain⟨t,rfl⟩:=d
  obtain⟨j,a⟩:y.length<=sizeLine/\k=((y.length:Int) != 0):=e
  subst a
  exact PySem.P.truthy_str (by omega) ⟨H,I.tok _,q⟩
 | byt y =>
  obtain⟨t,rfl⟩:=d
  obtain⟨j,a⟩:y.size<=sizeLine/\k=((y.size:Int) != 0):=e
  subst a
  exact PySem.W.truthy_bytes (by omega) ⟨H,I.tok _,q⟩
 | ref p =>
  cases d
  have a:(∃ xs,SqL X.K H p xs/\k=!xs.isEmpty)\/(∃ xs,SqT X.K H p xs/\k=!xs.isEmpty)\/∃ kvs,H p=some (.dK kvs)/\k=!kvs.isEmpty:=e
  rcases a with⟨xs,hx,a⟩|⟨xs,hx,a⟩|⟨kvs,hx,a⟩
  ·subst a
   obtain⟨f,r,g,hz⟩:=I.list hx
   have c:=r.length
   exact wpAny_truthy_list g.isList (by simp only[HM];omega) ⟨H,I.tok _,by rw[jw r];exact q⟩
  ·subst a
   obtain⟨f,r,g,hz⟩:=I.tuple hx
   have c:=r.length
   exact truthy_tuple g (by simp only[HM];omega) ⟨H,I.tok _,by rw[jw r];exact q⟩
  ·subst a
   obtain⟨hz,l,vs,r,m⟩:kvs.length<=sizeLine/\(p==Kp)=false/\∃ vs,KV kvs vs/\s.heap.DictOf (nG X.prog X.w) p vs:=I.hok p _ hx
   have c:kvs.length=vs.length:=Paired.length r
   exact wpAny_truthy_dict l m (by omega) ⟨H,I.tok _,by rw[rz r];exact q⟩
 | _=>exact(show False from e).elim
theorem vT (c:PE X a ta) (d:∀ b,Qk a X.env b=(do let v <-b;KD a.pos;Kk [v] (QE v))) :
  PT X a (λσ H Q=>ta σ H λx H'=>∃ k,EW X.K x H' k/\Q k H'):=by
 intro pins s σ H Q I h
 exact isTrue_plain (thn (c pins s σ H _ I h) λv s1 ⟨x,H1,e,r1,q1⟩=>Cq pins s1 σ H1 x v Q e r1 q1) (d _)
theorem hV {x:V}{us:List Value} (r:aX [x] us):∃ u,us=[u]/\bw x u:=by
 cases r with
 | cons r1 a=>cases a;exact⟨_,rfl,r1⟩
theorem sr {x y:V}{us:List Value} (r:aX [x,y] us):∃ u w',us=[u,w']/\bw x u/\bw y w':=by
 cases r with
 | cons r1 a =>
  cases a with
  | cons b c=>cases c;exact⟨_,_,rfl,r1,b⟩
end
structure cJ (k:Nat) (A:Around):Prop where
 hd : A.handled=none
 dp : A.depth+3*k+5<recursionLimit
 un : A.units+16*k+200<Kg
theorem cJ.mono {j k:Nat}{A:Around} (r:cJ k A) (h:j<=k):cJ j A:=⟨r.hd,by have:=r.dp;omega,by have:=r.un;omega⟩
theorem cJ.deeper {k:Nat}{A:Around} (r:cJ (k+1) A) (env:Env):cJ k (A.deeper env) :=
 ⟨r.hd,by have:=r.dp;show A.depth+1+3*k+5<_;omega,by have:=r.un;show A.units+3+16*k+200<_;omega⟩
theorem cJ.in1 {k:Nat}{A:Around} (r:cJ (k+1) A):cJ k A.in1 :=
 ⟨r.hd,by have:=r.dp;show A.depth+3*k+5<_;omega,by have:=r.un;show A.units+1+16*k+200<_;omega⟩
theorem cJ.depth {k:Nat}{A:Around} (r:cJ k A):A.depth<recursionLimit:=by have:=r.dp;omega
theorem cJ.units {k:Nat}{A:Around} (r:cJ k A):A.units+64<Kg:=by have:=r.un;omega
noncomputable def GW:TA:=λ_ H Q=>Q [] H
noncomputable def Ff (ta:TE) (tr:TA):TA:=λσ H Q=>ta σ H λx H1=>tr σ H1 λxs H2=>Q (x::xs) H2
section
variable {X:Cx}{e:Expr}{es:List Expr}{te:TE}{t:TA}{pos:Pos}
theorem ln:PA X [] GW:=λ_ _ _ _ H Q I h=>Calls.spliced_nil ⟨[],H,I,.nil,h⟩
theorem f8 (b:PE X e te) (c:PA X es t) (d:kq (e::es) X.env=(false,eval e X.env)::kq es X.env:=by rfl):PA X (e::es) (Ff te t):=by
 intro pos pins s σ H Q I h
 rw[d]
 show qb _ _ (spliced ((false,eval e X.env)::J0 pos (kq es X.env))) _ _ s
 refine Calls.spliced_cons (thn (b pins s σ H _ I h) λu s1 a=>?_)
 obtain⟨x,H1,f,r1,q1⟩:=a
 exact thn (c pos pins s1 σ H1 _ f q1) λus s2 ⟨xs,H2,g,i,j⟩=>⟨x::xs,H2,g,.cons r1 i,j⟩
noncomputable def GS (t:TA):TE:=λσ H Q=>t σ H λxs H1=>xs.length<=sizeLine/\∀ p,H1 p=none->Q (.ref p) (upd H1 p (.tup xs))
noncomputable def GX (t:TA):TE:=λσ H Q=>t σ H λxs H1=>xs.length<=sizeLine/\∀ p,H1 p=none->Q (.ref p) (upd H1 p (.lst xs))
theorem ym {x1} (h:PA X es t):PE X (.Tuple es x1 pos) (GS t):=by
 intro pins s σ H Q I d
 refine wpAny_Tuple_spliced (thn (h pos pins s σ H _ I d) λus s1 a=>?_)
 obtain⟨xs,H1,c,r,z,q⟩:=a
 refine⟨by rw[<-r.length];exact z,?_⟩
 have f:H1 s1.heap.objs.size=none:=c.hok.fresh (HK _)
 refine⟨.ref s1.heap.objs.size,upd H1 s1.heap.objs.size (.tup xs),c.laid (t':=s1.toks) (λb u e=>HE _ e) (HK _) ?_,rfl,q _ f⟩
 exact⟨z,us,r,⟨_,HR _ rfl,rfl,⟨_,rfl⟩,rfl⟩⟩
theorem yn (h:PA X es t):PE X (.List es pos) (GX t):=by
 intro pins s σ H Q I d
 refine wpAny_List_spliced (thn (h pos pins s σ H _ I d) λus s1 a=>?_)
 obtain⟨xs,H1,c,r,z,q⟩:=a
 refine⟨by rw[<-r.length];exact z,?_⟩
 have f:H1 s1.heap.objs.size=none:=c.hok.fresh (HK _)
 refine⟨.ref s1.heap.objs.size,upd H1 s1.heap.objs.size (.lst xs),c.laid (t':=s1.toks) (λb u e=>HE _ e) (HK _) ?_,rfl,q _ f⟩
 exact⟨z,us,0,r,HR _ rfl⟩
end
noncomputable abbrev Sp:=List V->Hp->VK->XK->Prop
noncomputable abbrev CXT:=List Env->Hp->Shared->XK->Value->Shared->Prop
structure r9 (P:zb) (w:zf) (K:PySem.W.Frag) (mg:Str->Option Value) (base:Heap) (A:Around) (outer:List Env) (s:Shared) (H:Hp):Prop where
 frames:A.frames=some outer
 mod:Mod K mg base
 bs : ∀ b o,base.get? b=some o->s.heap.get? b=some o/\H b=none
 bsz:base.objs.size<=s.heap.objs.size
 funs:s.heap.FunFrames base outer
 frf:∀ b∈frs outer,H b=none
 hok:HOk P w H s.heap
 bare:Qa s.gens
 tab:zj K H
noncomputable def CE (outer:List Env) (P:zb) (w:zf) (H:Hp) (s:Shared) (Q:VK) (u:Value) (s':Shared):Prop :=
 ∃ v H',s'.os=s.os/\Qa s'.gens/\Un (frs outer) [] H H' s.heap s'.heap/\HOk P w H' s'.heap/\bw v u/\Q v H'
noncomputable def CR (CX:CXT) (outer:List Env) (P:zb) (w:zf) (H:Hp) (s:Shared) (Q:VK) (E:XK) (r:Result) (s':Shared):Prop :=
 match r with
 | .ok (.ret u)=>CE outer P w H s Q u s'
 | .ok _=>False
 | .error e=>CX outer H s E e s'
structure bR (P:zb) (w:zf) (K:PySem.W.Frag) (mg:Str->Option Value) (base:Heap) (CX:CXT) (k:Nat) (f:Addr) (fd:k0) (ps:List Str) (sp:Sp):Prop where
 len:∀ vs H Q E,sp vs H Q E->vs.length=ps.length
 run:∀ (A:Around) (outer:List Env) (s:Shared) (H:Hp) (args:Args) (us:List Value) (vs:List V) (Q:VK) (E:XK),cJ k A->r9 P w K mg base A outer s H->Qm s fd args (ps.zip us)->aX vs us->sp vs H Q E ->
  Kx (q3 P w) A (.call (.ref f) args) (CR CX outer P w H s Q E) s
theorem bR.mono {P:zb}{w:zf}{K:PySem.W.Frag}{mg:Str->Option Value}{base:Heap}{CX:CXT}{j k:Nat}{f:Addr}{fd:k0}{ps:List Str}{sp:Sp} (F:bR P w K mg base CX j f fd ps sp) (h:j<=k) :
  bR P w K mg base CX k f fd ps sp:=⟨F.len,λA outer s H args us vs Q E a=>F.run A outer s H args us vs Q E (a.mono h)⟩
theorem r9.in1 {P:zb}{w:zf}{K:PySem.W.Frag}{mg:Str->Option Value}{base:Heap}{A:Around}{outer:List Env}{s:Shared}{H:Hp} (e:r9 P w K mg base A outer s H) :
  r9 P w K mg base A.in1 outer s H:=⟨e.frames,e.mod,e.bs,e.bsz,e.funs,e.frf,e.hok,e.bare,e.tab⟩
section
variable {X:Cx}{pins:List (Addr×Obj)}{σ:St}{H:Hp}{s s':Shared}
theorem Inv.env0 (I:Inv X pins σ H s):r9 X.prog X.w X.K X.mg X.base X.A X.stack s H :=
 ⟨I.ok.frames,I.ok.mod,I.bs,HQ I.ok.bsz I.sz,I.stack,I.stkFree,I.hok,I.bare,λT q h=>I.base.tbls T q (I.ok.tab T q h)⟩
theorem Inv.after {Q:VK}{u:Value} (I:Inv X pins σ H s) (h:CE X.stack X.prog X.w H s Q u s'):EP X pins σ Q u s':=by
 obtain⟨v,H',os,bare,un,hok,r,q⟩:=h
 obtain⟨c,g,d,t,a⟩:=s'
 obtain rfl:a=s.os:=os
 exact⟨v,H',I.call (h':=c) (g':=g) (d':=d) (t':=t) (ch:=[]) un hok bare (λb z=>absurd z (by simp)),r,q⟩
end
noncomputable def sA (sp:Sp) (dvs:List V) (E:XK) (t:TA):TE:=λσ H Q=>t σ H λvs H1=>sp (vs++dvs) H1 Q E
noncomputable def a9 (K:PySem.W.Frag) (fd:k0) (ps:List Str) (ds:List Value):Prop :=
 ∀ (s:Shared) (us:List Value),K.In s.heap->(us++ds).length=ps.length->Qm s fd ⟨us,[]⟩ (ps.zip (us++ds))
theorem a9.all {K:PySem.W.Frag}{fd:k0}{ps:List Str} (h:∀ us:List Value,us.length=ps.length->ze fd ⟨us,[]⟩=pure (ps.zip us)):a9 K fd ps []:=λs us _ a=>by
 rw[Iy] at a ⊢
 exact .of_eq (h us a)
noncomputable def vi (CX:CXT) (X:Cx) (E:XK):Prop:=∀ (pins:List (Addr×Obj)) (σ:St) (H:Hp) (s:Shared) (e:Value) (s':Shared),Inv X pins σ H s->CX X.stack H s E e s'->X.xe e s'
section
variable {X:Cx}{CX:CXT}{k:Nat}{f:Addr}{fd:k0}{ps:List Str}{sp:Sp}{dvs:List V}{ds:List Value}{E:XK}{x:Str}{p pos:Pos}{e:Expr}{es:List Expr}{t:TA}
theorem Cy {pins:List (Addr×Obj)}{σ:St}{H:Hp}{s:Shared}{Q:VK}{us:List Value}{vs:List V} (F:bR X.prog X.w X.K X.mg X.base CX k f fd ps sp) (c:cJ k X.A) (d:a9 X.K fd ps ds) (hd:aX dvs ds) (hx:vi CX X E)
  (I : Inv X pins σ H s) (r:aX vs us) (h:sp (vs++dvs) H Q E):qb (q3 X.prog X.w) X.A (call (.ref f) us) (EP X pins σ Q) X.xe s:=by
 have b:aX (vs++dvs) (us++ds):=r.append hd
 have g:(us++ds).length=ps.length:=by rw[<-b.length];exact F.len _ _ _ _ h
 refine wpAny_call (K9 (F.run X.A X.stack s H ⟨us,[]⟩ (us++ds) (vs++dvs) Q E c I.env0 (d s us I.kIn g) b h) λr s' a=>?_)
 cases r with
 | error e=>exact hx pins σ H s e s' I a
 | ok fl =>
  cases fl with
  | ret u=>exact I.after a
  | next=>exact False.elim a
  | brk=>exact False.elim a
  | cont=>exact False.elim a
theorem Av (F:bR X.prog X.w X.K X.mg X.base CX k f fd ps sp) (g:cJ k X.A) (i:Gl X x) (j:X.mg x=some (.ref f)) (hk:PySem.W.keepIn X.K (.ref f)=true) (l:a9 X.K fd ps ds) (hd:aX dvs ds) (hx:vi CX X E)
  (m:PA X (e::es) t) (a:(x==("__debug__" : Str))=false:=by decide) (n:kq (e::es) X.env=(false,eval e X.env)::kq es X.env:=by rfl) (b:(J0 pos (kq es X.env)).any (·.1)=false:=by rfl) :
  PE X (.Call (.Name x p) (e::es) [] pos) (sA sp dvs E t):=by
 intro pins s σ H Q I h
 refine Ku (uj I i j ?_ a)
 refine PySem.W.callWith_K (h₀:=X.base) I.ok.mod.kin hk (thn (m pos pins s σ H _ I h) λus s1 c=>?_) n b
 obtain⟨vs,H1,d,r,q⟩:=c
 refine⟨d.kIn,?_⟩
 exact Cy F g l hd hx d r q
end
structure ao (N P:List Str) (sc:Kc):Prop where
 kind:sc.kind=.function
 co : sc.isCoroutine=false
 gen:sc.isGenerator=false
 nd : N.Nodup
 pre:N.take P.length=P
 par:∀ x∈P,sc.names.lookup x=some .local\/sc.names.lookup x=some .cell
 nofree:∀ y∈sc.names,y.2≠.free
theorem mr {kindOf:Str->Option NameKind}{x:Str}:∀ {binds:List (Str×Value)}{m:Str->Option Value},(∀ v,(x,v) ∉ binds)->QT kindOf binds m x=m x
 | [],_,_=>rfl
 | (n,v)::r,m,h=>by
  unfold QT
  rw[mr λw hw=>h w (HJ _ hw)]
  split
  ·have:x≠n:=by rintro rfl;exact h v HH
   simp[this]
  ·rfl
theorem mw {kindOf:Str->Option NameKind}{x:Str}:∀ {binds:List (Str×Value)}{m:Str->Option Value},(∀ v,(x,v) ∉ binds)->QU kindOf binds m x=m x
 | [],_,_=>rfl
 | (n,v)::r,m,h=>by
  unfold QU
  rw[mw λw hw=>h w (HJ _ hw)]
  split
  ·rfl
  ·have:x≠n:=by rintro rfl;exact h v HH
   simp[this]
theorem mv {kindOf:Str->Option NameKind}{x:Str}{v:Value}:∀ {P:List Str}{vs:List Value}{i:Nat}{m:Str->Option Value},P.Nodup->P[i]? = some x->vs[i]? = some v->kindOf x=some .local ->
  QT kindOf (P.zip vs) m x=some v
 | [],_,_,_,_,h,_,_=>by simp at h
 | _::_,[],_,_,_,_,h,_=>by simp at h
 | p::P,w::vs,0,m,nd,h1,h2,hk=>by
  simp at h1 h2;subst h1;subst h2
  show QT kindOf ((p,w)::P.zip vs) m p=_
  unfold QT
  rw[mr λv a=>(Iu.mp nd).1 (JR a).1,if_pos hk]
  simp
 | p::P,w::vs,i+1,m,nd,h1,h2,hk=>by
  show QT kindOf ((p,w)::P.zip vs) m x=_
  unfold QT
  exact mv (i:=i) (Iu.mp nd).2 (by simpa using h1) (by simpa using h2) hk
theorem mx {kindOf:Str->Option NameKind}{x:Str}{v:Value}:∀ {P:List Str}{vs:List Value}{i:Nat}{m:Str->Option Value},P.Nodup->P[i]? = some x->vs[i]? = some v->kindOf x≠some .local ->
  QU kindOf (P.zip vs) m x=some v
 | [],_,_,_,_,h,_,_=>by simp at h
 | _::_,[],_,_,_,_,h,_=>by simp at h
 | p::P,w::vs,0,m,nd,h1,h2,hk=>by
  simp at h1 h2;subst h1;subst h2
  show QU kindOf ((p,w)::P.zip vs) m p=_
  unfold QU
  rw[mw λv a=>(Iu.mp nd).1 (JR a).1,if_neg hk]
  simp
 | p::P,w::vs,i+1,m,nd,h1,h2,hk=>by
  show QU kindOf ((p,w)::P.zip vs) m x=_
  unfold QU
  exact mx (i:=i) (Iu.mp nd).2 (by simpa using h1) (by simpa using h2) hk
noncomputable def bV (N:List Str) (vs:List V):St:=vs.map some++IV (N.length - vs.length) none
noncomputable def qt (CX:CXT) (P:zb) (w:zf) (K:PySem.W.Frag) (mg:Str->Option Value) (base:Heap) (N:List Str) (qual:Str) (scope:Kc) (f:Addr) (cd:Value) (A:Around) (outer:List Env) (s:Shared) (H:Hp) (E:XK):Cx where
 prog:=P
 w := w
 K := K
 mg := mg
 base:=base
 A := A.deeper (K3 qual scope s.heap.objs.size f cd)
 N := N
 s₀ := s
 H₀ := H
 env:=K3 qual scope s.heap.objs.size f cd
 outer:=outer
 stack:=K3 qual scope s.heap.objs.size f cd::outer
 ex := []
 calm:=true
 fn := λ_=>true
 pn := []
 xe := λe s'=>qb (q3 P w) (A.deeper (K3 qual scope s.heap.objs.size f cd)) (leaving (K3 qual scope s.heap.objs.size f cd) e) (λ_ a=>CX outer H s E e a) (λb a=>CX outer H s E b a) s'
theorem ku {sc:Kc}{n:Nat}{x:Str} (h:sc.names.lookup x=some .cell):∃ c,(J2 n sc.names []).lookup x=some c:=by
 have q:=PySem.W.cellsFrom_some sc.names n [] (.inl h)
 exact Option.isSome_iff_exists.mp q
theorem lY {CX:CXT}{P:zb}{w:zf}{K:PySem.W.Frag}{mg:Str->Option Value}{base:Heap}{N ps:List Str}{qual:Str}{scope:Kc}{f:Addr}{cd:Value}{A:Around}{outer:List Env}{s s1:Shared}{H:Hp}{E:XK}{us:List Value}{vs:List V}
  (S : ao N ps scope) (hd:A.handled=none) (d:r9 P w K mg base A outer s H) (D:vs.length=ps.length) (r:aX vs us)
  (x : InCallC s s.heap.objs.size (QT (K3 qual scope s.heap.objs.size f cd).kindOf (ps.zip us) λ_=>none) (J2 (s.heap.objs.size+1) scope.names []) (QU (K3 qual scope s.heap.objs.size f cd).kindOf (ps.zip us) λ_=>none) s1) :
  Inv (qt CX P w K mg base N qual scope f cd A outer s H E) [] (bV N vs) H s1:=by
 have t:ps.length<=N.length:=by have:=congrArg List.length S.pre;rw[Jm] at this;omega
 obtain⟨h1,tk,rfl,hk⟩:=x.done
 have g:∀ b:Addr,b ∉ (qt CX P w K mg base N qual scope f cd A outer s H E).ex:=λb z=>absurd (show b∈([]:List Addr) from z) (by simp)
 refine⟨⟨d.mod,S.kind,rfl,rfl,HK _,λy z c h1 h2=>?_,λy j=>?_,λy c _ h=>?_,λ_=>hd,Around.frames_deeper d.frames,.inr ⟨rfl,rfl⟩,λb z=>absurd z (g b),d.bs,d.bsz,λb _ _=>g b,λb z=>absurd z (g b),d.funs,d.frf,d.tab⟩,
  rfl,d.bare,Un.kept hk,⟨_,x.toInCall.ns,λi y v h1 h2 F=>?_⟩,λy c h=>⟨_,x.cell y c h⟩,d.hok.fresh (HK _),λy c h=>?_,λp l=>absurd (show p∈([]:List (Addr×Obj)) from l) (by simp),d.hok.kept hk,?_⟩
 ·exact name_of_addr x.apart (PySem.mem_of_lookup h1) (PySem.mem_of_lookup h2)
 ·have j:scope.names.lookup y=some .cell\/scope.names.lookup y=some .free:=j
  rcases j with j|j
  ·exact ku j
  ·exact absurd rfl (S.nofree _ (PySem.mem_of_lookup j))
 ·exact JY (x.above y c (PySem.mem_of_lookup h))
 ·have hi:i<vs.length:=by
   unfold bV at h2
   by_cases hi:i<vs.length
   ·exact hi
   ·rw[Jb (by simpa using hi)] at h2
    rw[List.getElem?_replicate] at h2
    split at h2 <;> cases h2
  have B:vs[i]? = some v:=by
   unfold bV at h2
   rw[HY (by simpa using hi),Ic] at h2
   cases e:vs[i]? with
   | none=>rw[e] at h2;cases h2
   | some a=>rw[e] at h2;cases h2;rfl
  obtain⟨u,o,C⟩:=r.get B
  have l:ps[i]? = some y:=by
   rw[<-S.pre,List.getElem?_take_of_lt (by omega)];exact h1
  have m:ps.Nodup:=by rw[<-S.pre];exact S.nd.sublist (List.take_sublist _ _)
  refine⟨u,C,?_⟩
  rcases S.par y (IE l) with k|k
  ·exact .inl ⟨k,mv m l o k⟩
  ·obtain⟨c,e⟩:=ku (n:=s.heap.objs.size+1) k
   refine .inr ⟨.inl k,c,e,?_⟩
   have q:=x.cell y c e
   rw[mx m l o (by show scope.names.lookup y≠_;rw[k];decide)] at q
   exact q
 ·exact d.hok.fresh (JY (x.above y c (PySem.mem_of_lookup h)))
 ·unfold bV
  show _=N.length
  rw[Ie,HC,List.length_replicate]
  omega
theorem DP {CX:CXT}{P:zb}{w:zf}{K:PySem.W.Frag}{mg:Str->Option Value}{base:Heap}{k:Nat}{f:Addr}{name qual:Str}{params:KM}{body:List Stmt}{scope:Kc}{p kV doc pm cdv ct oc:Value}{an od:Option Addr}
  {osl:Array (Option Value)}{N ps:List Str}{sp:Sp} (B:K.lookup f=some ⟨oc,od,.func (PySem.W.fnOf name qual params body scope p kV doc pm an cdv ct),osl⟩) (i:PySem.W.codeIn K cdv qual=true) (S:ao N ps scope)
  (len:∀ vs H Q E,sp vs H Q E->vs.length=ps.length)
  (a:∀ (A:Around) (outer:List Env) (s:Shared) (H:Hp) (vs:List V) (Q:VK) (E:XK),cJ k (A.deeper (K3 qual scope s.heap.objs.size f cdv))->sp vs H Q E ->
   ∃ t,PSs (qt CX P w K mg base N qual scope f cdv A outer s H E) body t/\t { nx:=λ_ H'=>Q .non H',rt:=Q } (bV N vs) H) :
  bR P w K mg base CX (k+1) f (PySem.W.fnOf name qual params body scope p kV doc pm an cdv ct) ps sp:=by
 refine⟨len,λA outer s H args us vs Q E j g C r h=>?_⟩
 have D:=len _ _ _ _ h
 have z:K.In s.heap:=g.mod.kin.keeps λb o e=>(g.bs b o e).1
 have l:s.heap.NoLimit:=g.mod.nolimit.keeps λb o e=>(g.bs b o e).1
 have c:∀ y∈ps.zip us,scope.names.lookup y.1=some .local\/(scope.names.lookup y.1=some .cell/\((J2 (s.heap.objs.size+1) scope.names []).lookup y.1).isSome=true):=λ⟨n,v⟩ F=>by
  rcases S.par n (JR F).1 with q|q
  ·exact .inl q
  ·exact .inr ⟨q,PySem.W.cellsFrom_some _ _ _ (.inl q)⟩
 refine codeAny_call_function j.depth (z _ _ B) rfl S.co S.gen rfl (PySem.W.codeRec_of z i) (C _ _ _ _ ?_)
 refine QD S.kind c λenv G s1 x=>?_
 subst G
 refine⟨l.keeps x.toInCall.keep,codeAny_func ?_⟩
 obtain⟨t,L,M⟩:=a A outer s H vs Q E (j.deeper _) h
 have I:Inv (qt CX P w K mg base N qual scope f cdv A outer s H E) [] (bV N vs) H s1:=lY S j.hd g D r x
 refine zg (L [] s1 (bV N vs) H _ I M) (λfl s' d=>?_) λe s' d=>d
 have fin:∀ {σ':St}{H':Hp}{v:V}{u:Value},Inv (qt CX P w K mg base N qual scope f cdv A outer s H E) [] σ' H' s'->bw v u->Q v H'->CE outer P w H s Q u s' :=
  λ{σ' H' v u} J m q=>⟨v,H',J.os,J.bare,J.base,J.hok,m,q⟩
 cases fl with
 | ret u =>
  obtain⟨v,σ',H',J,m,q⟩:=d
  exact fin J m q
 | next =>
  obtain⟨σ',H',J,q⟩:=d
  exact fin (v:=V.non) (u:=Value.none) J rfl q
 | brk =>
  obtain⟨_,_,_,q⟩:=d
  exact False.elim q
 | cont =>
  obtain⟨_,_,_,q⟩:=d
  exact False.elim q
section
variable {X:Cx}{x:Str}{p pos:Pos}{e:Expr}{es:List Expr}{t:TA}{id T:String}{r:List V->Hp->VK->Prop}
noncomputable def tCB (r:List V->Hp->VK->Prop) (t:TA):TE:=λσ H Q=>t σ H λvs H1=>r vs H1 Q
theorem jQ (hc:fw X (.builtin id) r) (c:Gl X x) (d:X.mg x=none) (f:Kh x=some (.builtin id)) (g:PA X (e::es) t) (hn:x ≠ "__name__" := by decide) (a:(x==("__debug__" : Str))=false:=by decide)
  (i:kq (e::es) X.env=(false,eval e X.env)::kq es X.env:=by rfl) (b:(J0 pos (kq es X.env)).any (·.1)=false:=by rfl):PE X (.Call (.Name x p) (e::es) [] pos) (tCB r t):=by
 intro pins s σ H Q I h
 refine Ku (dh I c d f ?_ hn a)
 exact PyProof.Rows.callWith_builtin1 (thn (g pos pins s σ H _ I h) λus s1 ⟨vs,H1,j,r1,q1⟩=>hc pins s1 σ H1 vs us Q j r1 q1) i b
theorem tN (hc:fw X (.type T) r) (c:Gl X x) (d:X.mg x=none) (f:Kh x=some (.type T)) (g:PA X (e::es) t) (hn:x ≠ "__name__" := by decide) (a:(x==("__debug__" : Str))=false:=by decide)
  (i:kq (e::es) X.env=(false,eval e X.env)::kq es X.env:=by rfl) (b:(J0 pos (kq es X.env)).any (·.1)=false:=by rfl):PE X (.Call (.Name x p) (e::es) [] pos) (tCB r t):=by
 intro pins s σ H Q I h
 refine Ku (dh I c d f ?_ hn a)
 exact PyProof.Rows.callWith_type1 (thn (g pos pins s σ H _ I h) λus s1 ⟨vs,H1,j,r1,q1⟩=>hc pins s1 σ H1 vs us Q j r1 q1) i b
end
end _L
namespace HT
open PySem PyProof.Rows
noncomputable def lexLt:List Int->List Int->Bool
 | [],[]=>false
 | [],_::_=>true
 | _::_,[]=>false
 | x::xs,y::ys=>if x=y then lexLt xs ys else decide (x<y)
theorem lexLt_cons (x y:Int) (xs ys:List Int):lexLt (x::xs) (y::ys)=if x=y then lexLt xs ys else decide (x<y):=rfl
theorem lexLt_nil_nil:lexLt [] []=false:=rfl
theorem lexLt_nil_cons (y:Int) (ys:List Int):lexLt [] (y::ys)=true:=rfl
theorem lexLt_cons_nil (x:Int) (xs:List Int):lexLt (x::xs) []=false:=rfl
section
open PySem.SeqAt
open PySem.AutoSeq1 (wpAny_loadPart')
open PySem.MeetsSeq PySem.MeetsSeq2 PySem.MeetsSeq3
end
section
noncomputable def sIx (n d:Nat):Option Int->Nat
 | none=>d
 | some v=>if v<0 then (v+(n:Int)).toNat else min v.toNat n
theorem sIx_none (n d:Nat):sIx n d none=d:=rfl
theorem sIx_nat (n d k:Nat):sIx n d (some (k:Int))=min k n:=by
 show(if (k:Int)<0 then ((k:Int)+(n:Int)).toNat else min (k:Int).toNat n)=min k n
 rw[if_neg (by omega),IB]
end
end HT
namespace _L
open PySem PySem.Spec PyProof.Rows
noncomputable abbrev TO:=St->Hp->(Option Int->Hp->Prop)->Prop
noncomputable def PO (X:Cx) (e:Option Expr) (t:TO):Prop :=
 ∀ (pins:List (Addr×Obj)) (s:Shared) (σ:St) (H:Hp) (Q:Option Int->Hp->Prop),Inv X pins σ H s->t σ H Q ->
  qb (q3 X.prog X.w) X.A (evalPart e X.env) (λu s'=>∃ o H',Inv X pins σ H' s'/\IsPart u o/\Q o H') X.xe s
noncomputable def zI:TO:=λ_ H Q=>Q none H
noncomputable def E8 (t:TE):TO:=λσ H Q=>t σ H λx H1=>∃ i,x=.int i/\Q (some i) H1
section
variable {X:Cx}{e:Expr}{te:TE}{lo hi:Option Expr}{tl th:TO}{pos p2:Pos}
theorem Af:PO X none zI:=by
 intro pins s σ H Q I h
 rw[evalPart_none]
 exact ke ⟨none,H,I,.none,h⟩
theorem Ae (h:PE X e te):PO X (some e) (E8 te):=by
 intro pins s σ H Q I hw
 rw[evalPart_some]
 refine thn (h pins s σ H _ I hw) λu s1 a=>?_
 obtain⟨x,H1,b,r1,q1⟩:=a
 obtain⟨i,rfl,q⟩:=q1
 obtain⟨t,rfl⟩:=r1
 exact⟨some i,H1,b,.int i t,q⟩
noncomputable def SlR (X:Cx) (r:V->Option Int->Option Int->Hp->VK->Prop):Prop :=
 ∀ (pins:List (Addr×Obj)) (s:Shared) (σ:St) (H:Hp) (x:V) (v a b:Value) (lo hi:Option Int) (sl:Addr) (Q:VK),Inv X pins σ H s->bw x v->s.heap.IsSliceOf sl a b .none->IsPart a lo->IsPart b hi->r x lo hi H Q ->
  ∃ T id,typeLookup (.type T) "__getitem__" = pure (some (.builtin id))/\s.TypeIs v T/\qb (q3 X.prog X.w) X.A (getItem v (.ref sl)) (EP X pins σ Q) X.xe s
noncomputable def tSl (r:V->Option Int->Option Int->Hp->VK->Prop) (te:TE) (tl th:TO):TE:=λσ H Q=>te σ H λx H1=>tl σ H1 λl H2=>th σ H2 λu a=>r x l u a Q
theorem vY {r:V->Option Int->Option Int->Hp->VK->Prop} (k:SlR X r) (m:PE X e te) (n:PO X lo tl) (o:PO X hi th):PE X (.Subscript e (.Slice lo hi none p2) pos) (tSl r te tl th):=by
 intro pins s σ H Q I h
 refine Subscript_ (thn (m pins s σ H _ I h) λv s1 f=>?_)
 obtain⟨x,H1,p,r1,q1⟩:=f
 refine wpAny_Slice (thn (n pins s1 σ H1 _ p q1) λc s2 g=>?_)
 obtain⟨l,H2,t,y,z⟩:=g
 refine thn (o pins s2 σ H2 _ t z) λd a i=>?_
 obtain⟨u,j,B,C,D⟩:=i
 rw[evalPart_none]
 refine ke ?_
 have E:Inv X pins σ j { a with heap:=a.heap.push { cls:=.type "slice",data:=.fields #[c,d,.none] } }:=B.kept (t':=a.toks) λb ob q=>HE _ q
 obtain⟨T,id,F,G,J⟩:=k pins { a with heap:=a.heap.push { cls:=.type "slice",data:=.fields #[c,d,.none] } } σ j x v c d l u a.heap.objs.size Q E r1 (Heap.IsSliceOf.new ..) y C D
 show qb (q3 X.prog X.w) X.A (Qo e (.Slice lo hi none p2) v (.ref a.heap.objs.size)) (EP X pins σ Q) X.xe { a with heap:=a.heap.push { cls:=.type "slice",data:=.fields #[c,d,.none] } }
 exact tail_any (ops:=[.ref a.heap.objs.size,v]) G F J (by with_unfolding_all rfl)
noncomputable def B1 (xs:List V) (lo hi:Option Int):List V:=(xs.drop (HT.sIx xs.length 0 lo)).take (HT.sIx xs.length xs.length hi - HT.sIx xs.length 0 lo)
theorem nU (xs:List V) (lo hi:Option Int):(B1 xs lo hi).length<=xs.length:=by
 unfold B1
 rw[Jm,Jn]
 omega
end
noncomputable def ixN (n:Nat) (i:Int):Option Nat:=if 0<=i then (if i<n then some i.toNat else none) else if -(n:Int)<=i then some (i+n).toNat else none
noncomputable def atI {α:Type} (xs:List α) (i:Int):Option α:=(ixN xs.length i).bind λj=>xs[j]?
theorem ur {n:Nat}{i:Int}{j:Nat} (h:ixN n i=some j):QQ i n=some j/\j<n/\-(n:Int)<=i/\i<n:=by
 unfold ixN at h
 by_cases a:0<=i
 ·rw[if_pos a] at h
  by_cases h1:i<n
  ·rw[if_pos h1] at h
   have e:i.toNat=j:=Option.some.inj h
   exact⟨by rw[seqIndex_of a h1,e],by omega,by omega,h1⟩
  ·rw[if_neg h1] at h;cases h
 ·rw[if_neg a] at h
  by_cases h1:-(n:Int)<=i
  ·rw[if_pos h1] at h
   have e:(i+n).toNat=j:=Option.some.inj h
   exact⟨by rw[seqIndex_neg (by omega) h1,e],by omega,h1,by omega⟩
  ·rw[if_neg h1] at h;cases h
theorem vd {α:Type}{xs:List α}{i:Int}{v:α} (h:atI xs i=some v):∃ j,QQ i xs.length=some j/\xs[j]? = some v/\j<xs.length/\-(xs.length:Int)<=i/\i<xs.length:=by
 unfold atI at h
 cases e:ixN xs.length i with
 | none=>rw[e] at h;cases h
 | some j =>
  rw[e] at h
  obtain⟨h1,h2,a,b⟩:=ur e
  exact⟨j,h1,h,h2,a,b⟩
theorem cF {α:Type}{xs:List α}{j:Nat}{v:α} (h:xs[j]? = some v):atI xs (j:Int)=some v:=by
 have hj:j<xs.length:=(HI.mp h).1
 have e:ixN xs.length (j:Int)=some j:=by
  unfold ixN
  rw[if_pos (by omega),if_pos (by omega)];simp
 unfold atI;rw[e];exact h
noncomputable def gq (b:Expr):Prop:=∀ o i,QA b false o i=operate [o,i] (getItem o i)
noncomputable def IxR (X:Cx) (r:R2):Prop :=
 ∀ (a slice:Expr) (pins:List (Addr×Obj)) (s:Shared) (σ:St) (H:Hp) (x y:V) (v u:Value) (Q:VK),Inv X pins σ H s->bw x v->bw y u->r x y H Q ->
  QA slice false v u=operate [v,u] (getItem v u)->qb (q3 X.prog X.w) X.A (Qo a slice v u) (EP X pins σ Q) X.xe s
noncomputable def MtR (X:Cx) (id:String) (r:V->List V->Hp->VK->Prop):Prop :=
 ∀ (pins:List (Addr×Obj)) (s:Shared) (σ:St) (H:Hp) (x:V) (xs:List V) (v:Value) (us:List Value) (Q:VK),Inv X pins σ H s->bw x v->aX xs us->r x xs H Q ->
  qb (q3 X.prog X.w) X.A (call (.builtin id) (v::us)) (EP X pins σ Q) X.xe s
section
variable {X:Cx}{a b:Expr}{ta tb:TE}{pos:Pos}
theorem IxR.or {r b:R2} (h:IxR X r) (h':IxR X b):IxR X (λx y H Q=>r x y H Q\/b x y H Q):=by
 intro a slice pins s σ H x y v u Q I c d q e
 rcases q with q|q
 ·exact h a slice pins s σ H x y v u Q I c d q e
 ·exact h' a slice pins s σ H x y v u Q I c d q e
theorem tL {r:R2} (c:IxR X r) (d:PE X a ta) (e:PE X b tb) (f:gq b):PE X (.Subscript a b pos) (tOp r ta tb):=by
 intro pins s σ H Q I h
 exact Subscript_ (Gk d e I h λv u s2 x y H2 g i j q=>c a b pins s2 σ H2 x y v u Q g i j q (f _ _))
noncomputable def Gw (K:PySem.W.Frag):R2:=λx y H Q=>∃ p xs i v,x=.ref p/\y=.int i/\SqL K H p xs/\atI xs i=some v/\Q v H
noncomputable def Gv (K:PySem.W.Frag):R2:=λx y H Q=>∃ p xs i v,x=.ref p/\y=.int i/\SqT K H p xs/\atI xs i=some v/\Q v H
theorem A1:IxR X (Gw X.K):=by
 intro a slice pins s σ H x y v u Q I k l h e
 obtain⟨p,xs,i,z,rfl,rfl,m,n,q⟩:=h
 cases k
 obtain⟨t,rfl⟩:=l
 obtain⟨b,r,c,hz⟩:=I.list m
 obtain⟨j,h1,h2,C,o,A⟩:=vd n
 obtain⟨w,f,d⟩:=r.get h2
 have B:=r.length
 have hn:=lH
 have fin:EP X pins σ Q w s:=⟨z,H,I,d,q⟩
 by_cases g:0<=i
 ·have hj:i.toNat=j:=by
   rw[seqIndex_of g A] at h1
   exact Option.some.inj h1
  exact item_listR c.isList g (by omega) (by rw[hj];simpa using f) fin e
 ·have hj:(i+(b.toArray.size:Int)).toNat=j:=by
   rw[seqIndex_neg (by omega) o] at h1
   rw[HM,<-B]
   exact Option.some.inj h1
  exact QX (x:=w) c.isList.typeIs slot_list_getitem.lookup
   (wpAny_getItem_list_neg (Q:=λr s'=>r=w/\EP X pins σ Q r s') c.isList (by omega) (by rw[HM] <;> omega) (by omega) (by rw[hj];simpa using f) ⟨rfl,fin⟩) e
theorem Dz:IxR X (Gv X.K):=by
 intro a slice pins s σ H x y v u Q I d e h f
 obtain⟨p,xs,i,z,rfl,rfl,g,k,q⟩:=h
 cases d
 obtain⟨t,rfl⟩:=e
 obtain⟨l,r,c,hz⟩:=I.tuple g
 obtain⟨j,h1,h2,o,A,B⟩:=vd k
 obtain⟨w,m,b⟩:=r.get h2
 have n:=r.length
 have hn:=lH
 have fin:EP X pins σ Q w s:=⟨z,H,I,b,q⟩
 exact QX (x:=w) c.typeIs slot_tuple_getitem.lookup
  (getItem_tuple (j:=j) (Q:=λr s'=>r=w/\EP X pins σ Q r s') c (by omega) (by omega) (by rw[HM,<-n];exact h1) (by simpa using m) ⟨rfl,fin⟩) f
theorem rm (a:List Value) (n j:Nat) (u:Value):Obj.mapSeq (·.setIfInBounds j u) { cls:=.type "list",data:=.seq a.toArray n }={ cls:=.type "list",data:=.seq (a.set j u).toArray n }:=by
 simp[Obj.mapSeq]
theorem Inv.lst {pins:List (Addr×Obj)}{σ:St}{H:Hp}{s:Shared}{p:Addr}{xs:List V} (I:Inv X pins σ H s) (h:H p=some (.lst xs)) :
  ∃ (a:List Value) (n:Nat),aX xs a/\s.heap.get? p=some { cls:=.type "list",data:=.seq a.toArray n }/\xs.length<=sizeLine:=by
 obtain⟨z,a,n,r,e⟩:=I.hok p _ h
 exact⟨a,n,r,e,z⟩
theorem Inv.lstUpd {pins:List (Addr×Obj)}{σ:St}{H:Hp}{s:Shared}{p:Addr}{xs ys:List V}{a its':List Value}{n c:Nat}{f:Obj->Obj} (I:Inv X pins σ H s) (h:H p=some (.lst xs))
  (ho:s.heap.get? p=some { cls:=.type "list",data:=.seq a.toArray n }) (d:f { cls:=.type "list",data:=.seq a.toArray n }={ cls:=.type "list",data:=.seq its'.toArray c }) (r:aX ys its') (hz:ys.length<=sizeLine) (t:Nat) :
  Inv X pins σ (upd H p (.lst ys)) { s with heap:=s.heap.update p f,toks:=t }:=by
 have e:(s.heap.update p f).get? p=some { cls:=.type "list",data:=.seq its'.toArray c }:=by
  rw[IH f ho (by rw[d] <;> rfl),d]
 refine I.write (x:=p) (e:=p) (by rw[h];trivial) (.inl rfl) (λb u g q=>(IX _ _ (Ne.symm g)).trans q) ⟨_,e⟩ ?_
 exact⟨hz,its',c,r,e⟩
noncomputable def Fm:V->V->V->Hp->(Hp->Prop)->Prop:=λo i v H Q=>∃ p xs k j,o=.ref p/\i=.int k/\H p=some (.lst xs)/\ixN xs.length k=some j/\Q (upd H p (.lst (xs.set j v)))
theorem vL:EX X Fm:=by
 intro pins s σ H o i v ov iv u Q I ro l m h
 obtain⟨p,xs,k,j,rfl,rfl,c,hj,q⟩:=h
 cases ro
 obtain⟨t,rfl⟩:=l
 obtain⟨a,n,r,ho,hz⟩:=I.lst c
 obtain⟨h1,h2,d,e⟩:=ur hj
 have b:=r.length
 have hn:=lH
 have f:Inv X pins σ (upd H p (.lst (xs.set j v))) { s with heap:=s.heap.update p (Obj.mapSeq (·.setIfInBounds j u)) } :=
  I.lstUpd c ho (rm a n j u) (r.set m j) (by rw[List.length_set];exact hz) s.toks
 by_cases g:0<=k
 ·have hk:k.toNat=j:=by
   rw[seqIndex_of g e] at h1
   exact Option.some.inj h1
  exact PySem.W.ki_setAt ho g (by omega) (by rw[HM,<-b];exact e) (by rw[hk];exact⟨_,f,q⟩)
 ·have hk:(k+(a.toArray.size:Int)).toNat=j:=by
   rw[seqIndex_neg (by omega) d] at h1
   rw[HM,<-b]
   exact Option.some.inj h1
  exact PySem.W.ki_setBack ho (by omega) (by rw[HM,<-b];exact d) (by omega) (by rw[hk];exact⟨_,f,q⟩)
theorem lg (lo hi:Option Int) (n:Nat):(KH lo hi none n).1=((HT.sIx n 0 lo:Nat):Int)/\(KH lo hi none n).2.1=((HT.sIx n n hi:Nat):Int)/\(KH lo hi none n).2.2=1:=by
 refine⟨?_,?_,rfl⟩
 ·cases lo with
  | none=>simp[KH,HT.sIx]
  | some i =>
   simp only[KH,HT.sIx,Option.getD_none,show(1:Int)>0 by decide,if_true]
   by_cases h:i<0
   ·simp only[h,if_true] <;> omega
   ·simp only[h,if_false] <;> omega
 ·cases hi with
  | none=>simp[KH,HT.sIx]
  | some i =>
   simp only[KH,HT.sIx,Option.getD_none,show(1:Int)>0 by decide,if_true]
   by_cases h:i<0
   ·simp only[h,if_true] <;> omega
   ·simp only[h,if_false] <;> omega
theorem jG (a:List Value) (lo hi:Option Int):slicePick a.toArray lo hi none=((a.drop (HT.sIx a.length 0 lo)).take (HT.sIx a.length a.length hi - HT.sIx a.length 0 lo)).toArray:=by
 obtain⟨h1,h2,b⟩:=lg lo hi a.toArray.size
 unfold slicePick
 rw[h1,h2,b]
 simp only[sliceRange_one,pick_run,HM] <;> rfl
noncomputable def Gu (K:PySem.W.Frag):V->Option Int->Option Int->Hp->VK->Prop:=λx lo hi H Q=>∃ a xs,x=.ref a/\SqL K H a xs/\∀ p,H p=none->Q (.ref p) (upd H p (.lst (B1 xs lo hi)))
theorem zM:SlR X (Gu X.K):=by
 intro pins s σ H x v k l lo hi sl Q I e f g i h
 obtain⟨a,xs,rfl,hx,q⟩:=h
 cases e
 obtain⟨j,r,d,hz⟩:=I.list hx
 have c:=r.length
 refine⟨"list",_,slot_list_getitem.lookup,d.isList.typeIs,?_⟩
 refine wpAny_getItem_list_slice d.isList f g i .none (by simp) ?_ (by rw[HM] <;> omega)
 rw[jG,<-c]
 refine⟨.ref s.heap.objs.size,_,I.laid (t':=s.toks) (o:=.lst (B1 xs lo hi)) (λb ob q=>HE _ q) (HK _) ?_,rfl,q _ (I.hok.fresh (HK _))⟩
 exact⟨HQ (nU xs lo hi) hz,_,0,(r.drop (HT.sIx xs.length 0 lo)).take (HT.sIx xs.length xs.length hi - HT.sIx xs.length 0 lo),HR _ rfl⟩
noncomputable def ki:V->Bool
 | .non=>true
 | .bl _=>true
 | .int _=>true
 | .str _=>true
 | _=>false
noncomputable def eqV:V->V->Bool
 | .non,.non=>true
 | .bl a,.bl b=>a==b
 | .bl a,.int b=>(if a then 1 else 0)==b
 | .int a,.bl b=>a==(if b then 1 else 0)
 | .int a,.int b=>a==b
 | .str a,.str b=>a==b
 | _,_=>false
theorem D4 {A:Around}{s:Shared}{y x:V}{u v:Value} (d:bw y u) (c:bw x v) (f:ki y=true) (e:ki x=true):SeqAt.EqAt A s u v (eqV y x):=by
 cases y with
 | non =>
  cases d
  cases x with
  | non=>cases c;exact SeqAt.EqAt.same _
  | bl b=>cases c;exact SeqAt.EqAt.none_bool b
  | int b=>obtain⟨t,rfl⟩:=c;exact SeqAt.EqAt.none_int b t
  | str b=>obtain⟨t,rfl⟩:=c;exact SeqAt.EqAt.none_str b t
  | _=>exact absurd (show false=true from e) H9
 | bl a =>
  cases d
  cases x with
  | non=>cases c;exact SeqAt.EqAt.bool_none a
  | bl b=>cases c;exact SeqAt.EqAt.bool_bool a b
  | int b=>obtain⟨t,rfl⟩:=c;exact SeqAt.EqAt.bool_int a b t
  | str b=>obtain⟨t,rfl⟩:=c;exact SeqAt.EqAt.bool_str a b t
  | _=>exact absurd (show false=true from e) H9
 | int a =>
  obtain⟨t',rfl⟩:=d
  cases x with
  | non=>cases c;exact SeqAt.EqAt.int_none a t'
  | bl b=>cases c;exact SeqAt.EqAt.int_bool a t' b
  | int b=>obtain⟨t,rfl⟩:=c;exact SeqAt.EqAt.int_int a t' b t
  | str b=>obtain⟨t,rfl⟩:=c;exact SeqAt.EqAt.int_str a t' b t
  | _=>exact absurd (show false=true from e) H9
 | str a =>
  obtain⟨t',rfl⟩:=d
  cases x with
  | non=>cases c;exact SeqAt.EqAt.str_none a t'
  | bl b=>cases c;exact SeqAt.EqAt.str_bool a t' b
  | int b=>obtain⟨t,rfl⟩:=c;exact SeqAt.EqAt.str_int a t' b t
  | str b=>obtain⟨t,rfl⟩:=c;exact SeqAt.EqAt.str_str a t' b t
  | _=>exact absurd (show false=true from e) H9
 | _=>exact absurd (show false=true from f) H9
noncomputable def eqU (x:V) (u:Value):Bool:=match u with
 | .none=>eqV .non x
 | .bool b=>eqV (.bl b) x
 | .int i _=>eqV (.int i) x
 | .str z _=>eqV (.str z) x
 | _=>false
theorem yP {x y:V}{u:Value} (r:bw y u) (f:ki y=true):eqU x u=eqV y x:=by
 cases y with
 | non=>cases r;rfl
 | bl b=>cases r;rfl
 | int i=>obtain⟨t,rfl⟩:=r;rfl
 | str z=>obtain⟨t,rfl⟩:=r;rfl
 | _=>exact absurd (show false=true from f) H9
theorem ou {x:V}:∀ {xs:List V}{us:List Value},aX xs us->xs.all ki=true->us.any (eqU x)=xs.any λy=>eqV y x
 | _,_,.nil,_=>rfl
 | y::xs,u::us,.cons r t,f=>by
  rw[List.all_cons,HX] at f
  rw[Jv,Jv,yP r f.1,ou t f.2]
theorem jX {A:Around}{s:Shared}{x:V}{v:Value} (b:bw x v) (c:ki x=true):∀ {xs:List V}{us:List Value},aX xs us->xs.all ki=true->∀ u∈us,SeqAt.EqAt A s u v (eqU x u)
 | _,_,.nil,_=>λu a=>by cases a
 | y::xs,u::us,.cons r t,f=>λd a=>by
  rw[List.all_cons,HX] at f
  rcases HP.mp a with rfl|a
  ·rw[yP r f.1];exact D4 r b f.1 c
  ·exact jX b c t f.2 d a
noncomputable def inV (x:V) (xs:List V):Bool:=xs.any λy=>eqV y x
noncomputable def rIn (K:PySem.W.Frag) (neg:Bool):R2:=λx y H Q=>∃ p xs,y=.ref p/\(SqL K H p xs\/SqT K H p xs)/\ki x=true/\xs.all ki=true/\Q (.bl (if neg then !inV x xs else inV x xs)) H
theorem tY:OpR X (z4 .In) (rIn X.K false):=by
 intro pins s σ H x y v u Q I d f h
 obtain⟨p,xs,rfl,b,e,fs,q⟩:=h
 cases f
 rcases b with b|b
 ·obtain⟨a,r,c,hz⟩:=I.list b
  refine SeqAt.in_listAt (eqU x) c.isList (λw hw=>jX d e r fs w (by simpa using hw)) ⟨.bl _,H,I,rfl,?_⟩
  rw[show a.toArray.any (eqU x)=a.any (eqU x) by simp,ou r fs]
  exact q
 ·obtain⟨a,r,c,hz⟩:=I.tuple b
  refine SeqAt.in_tupleAt (eqU x) c (λw hw=>jX d e r fs w (by simpa using hw)) ⟨.bl _,H,I,rfl,?_⟩
  rw[show a.toArray.any (eqU x)=a.any (eqU x) by simp,ou r fs]
  exact q
theorem mq:fw X (.builtin "len") (λxs H Q=>∃ p ys,xs=[.ref p]/\(SqL X.K H p ys\/SqT X.K H p ys)/\Q (.int ys.length) H):=by
 intro pins s σ H xs us Q I r h
 obtain⟨p,ys,rfl,b,q⟩:=h
 obtain⟨u,rfl,f⟩:=hV r
 cases f
 have hn:=lH
 rcases b with b|b
 ·obtain⟨c,d,e,hz⟩:=I.list b
  have a:=d.length
  exact Calls.call_len_list e.isList (by simp only[HM] <;> omega) ⟨.int ys.length,H,I.tok _,⟨s.toks+1,by rw[HM,a]⟩,q⟩
 ·obtain⟨c,d,e,hz⟩:=I.tuple b
  have a:=d.length
  exact len_tuple e (by simp only[HM] <;> omega) ⟨.int ys.length,H,I.tok _,⟨s.toks+1,by rw[HM,a]⟩,q⟩
theorem kx:fw X (.type "tuple") (λxs H Q=>∃ p ys,xs=[.ref p]/\((SqL X.K H p ys/\∀ l,H l=none->Q (.ref l) (upd H l (.tup ys)))\/(SqT X.K H p ys/\Q (.ref p) H))):=by
 intro pins s σ H xs us Q I r h
 obtain⟨p,ys,rfl,h⟩:=h
 obtain⟨u,rfl,j⟩:=hV r
 cases j
 rcases h with⟨c,q⟩|⟨c,q⟩
 ·obtain⟨a,d,f,hz⟩:=I.list c
  have g:=d.length
  refine call_tuple_list f.isList (λh' kp=>?_) (by simp only[HM] <;> omega)
  have i:Inv X pins σ H { s with heap:=h' }:=I.kept (t':=s.toks) kp
  have k:Inv X pins σ (upd H h'.objs.size (.tup ys)) { s with heap:=h'.push { cls:=.type "tuple",data:=.seq a.toArray } } :=
   i.laid (t':=s.toks) (λb o e=>HE _ e) (HK _) (show eR X.prog X.w _ _ _ (.tup ys) from⟨hz,a,d,xJ.new _ _⟩)
  exact⟨.ref h'.objs.size,_,k,rfl,q _ (i.hok.fresh (HK _))⟩
 ·obtain⟨a,d,f,hz⟩:=I.tuple c
  exact call_tuple_same f ⟨.ref p,H,I,rfl,q⟩
noncomputable def tyV (K:PySem.W.Frag) (T:String) (x:V) (H:Hp):Prop:=match x with
 | .str _=>T = "str"
 | .int _=>T = "int"
 | .ref p=>(T = "list" /\ ∃ xs,SqL K H p xs)\/(T = "tuple" /\ ∃ xs,SqT K H p xs) \/
   (T = "dict" /\ ((∃ kvs,H p=some (.dK kvs))\/∃ kvs,H p=some (.dT kvs)))\/(T = "set" /\ ∃ S n,H p=some (.set S n))
 | _=>False
theorem xO {pins:List (Addr×Obj)}{σ:St}{H:Hp}{s:Shared}{T:String}{x:V}{v:Value} (I:Inv X pins σ H s) (r:bw x v) (ty:tyV X.K T x H) :
  s.TypeIs v T/\∀ a,v=.ref a->∃ ob,s.heap.get? a=some ob/\ob.dict=none:=by
 cases x with
 | str z =>
  obtain⟨t,rfl⟩:=r
  cases (show T = "str" from ty)
  exact⟨typeIs_str s z t,λ_ e=>nomatch e⟩
 | int i =>
  obtain⟨t,rfl⟩:=r
  cases (show T = "int" from ty)
  exact⟨typeIs_int s i t,λ_ e=>nomatch e⟩
 | ref p =>
  cases r
  rcases ty with⟨rfl,xs,b⟩|⟨rfl,xs,b⟩|⟨rfl,hk⟩|⟨rfl,S,n,hk⟩
  ·obtain⟨d,_,f,_⟩:=I.list b
   refine⟨f.isList.typeIs,λa e=>?_⟩
   cases e
   obtain⟨o,n,e,c,hd,_⟩:=f
   exact⟨o,e,hd⟩
  ·obtain⟨d,_,o,e,hc,_,hd⟩:=I.tupleN b
   refine⟨⟨o,e,hc⟩,λa g=>?_⟩
   cases g
   exact⟨o,e,hd⟩
  ·have z:∃ o,s.heap.get? p=some o/\o.ExactDict:=by
    rcases hk with⟨kvs,hk⟩|⟨kvs,hk⟩
    ·obtain⟨_,_,_,_,o,_,_,e,ex,_⟩:=I.hok p _ hk
     exact⟨o,e,ex⟩
    ·obtain⟨_,_,_,_,o,_,_,e,ex,_⟩:=I.hok p _ hk
     exact⟨o,e,ex⟩
   obtain⟨o,e,ex⟩:=z
   refine⟨⟨o,e,ex.1⟩,λa e2=>?_⟩
   cases e2
   exact⟨o,e,ex.2.1⟩
  ·obtain⟨o,_,_,_,e,ex,_⟩:=I.hok p _ hk
   refine⟨⟨o,e,ex.1⟩,λa e2=>?_⟩
   cases e2
   exact⟨o,e,ex.2.1⟩
 | _=>exact False.elim ty
noncomputable def Gp (K:PySem.W.Frag) (T:String) (r:V->List V->Hp->VK->Prop) (to:TE):TE:=λσ H Q=>to σ H λx H1=>tyV K T x H1/\r x [] H1 Q
noncomputable def tBM (K:PySem.W.Frag) (T:String) (r:V->List V->Hp->VK->Prop) (to:TE) (t:TA):TE:=λσ H Q=>to σ H λx H1=>tyV K T x H1/\t σ H1 λxs H2=>r x xs H2 Q
variable {o e:Expr}{es:List Expr}{to:TE}{t:TA}{name:Str}{apos cpos:Pos}{T id:String}{r:V->List V->Hp->VK->Prop}
theorem Db (pa:QN T) (slot:Slot T name id) (c:typeOf (.builtin id)=pure (.type "method_descriptor")) (f:MtR X id r) (ho:PE X o to)
  (a:Kj o name X.env (eval o X.env)=eval o X.env:=by rfl) (b:(apos.endLine==cpos.line)=true:=by rfl):PE X (.Call (.Attribute o name apos) [] [] cpos) (Gp X.K T r to):=by
 intro pins s σ H Q I h
 refine wpAny_Call_method0_late a b (thn (ho pins s σ H _ I h) λv s1 d=>?_)
 obtain⟨x,H1,e,r1,ty,q1⟩:=d
 obtain⟨h1,h2⟩:=xO e r1 ty
 exact⟨T,id,pa,slot,c,h1,h2,Calls.callWith_builtin rfl (PySem.evalArgs_none (f pins s1 σ H1 x [] v [] Q e r1 .nil q1))⟩
theorem Fz (pa:QN T) (slot:Slot T name id) (f:typeOf (.builtin id)=pure (.type "method_descriptor")) (k:MtR X id r) (ho:PE X o to) (l:PA X (e::es) t)
  (b:Kj o name X.env (eval o X.env)=eval o X.env:=by rfl)
  (d:((J0 cpos (kq (e::es) X.env)).all (λx=>!x.1)&&(QM cpos (Qj [] X.env)).all (λx=>x.1.isSome)
   && decide ((e::es).length+([]:List KW).length+(if ([]:List KW).isEmpty then 0 else 1)<30))=true:=by rfl)
  (c:(apos.endLine==cpos.line)=true:=by rfl) (m:kq (e::es) X.env=(false,eval e X.env)::kq es X.env:=by rfl) (a:(J0 cpos (kq es X.env)).any (·.1)=false:=by rfl) :
  PE X (.Call (.Attribute o name apos) (e::es) [] cpos) (tBM X.K T r to t):=by
 intro pins s σ H Q I h
 refine wpAny_Call_method_late b d c rfl (thn (ho pins s σ H _ I h) λv s1 g=>?_)
 obtain⟨x,H1,i,r1,ty,q1⟩:=g
 obtain⟨h1,h2⟩:=xO i r1 ty
 refine⟨T,id,pa,slot,f,h1,h2,?_⟩
 have j:=l cpos pins s1 σ H1 _ i q1
 rw[m] at j ⊢
 refine Calls.callWith_builtin (by show(false || (J0 cpos (kq es X.env)).any (·.1))=false;rw[a] <;> rfl) (Calls.evalArgs_plain ?_)
 exact thn j λus s2 ⟨vs,H2,n,p,q⟩=>k pins s2 σ H2 x vs v us Q n r1 p q
end
noncomputable def MtM (X:Cx) (id:String) (r:V->List V->Hp->VK->Prop):Prop :=
 ∀ (pins:List (Addr×Obj)) (s:Shared) (σ:St) (H:Hp) (x:V) (xs:List V) (v:Value) (us:List Value) (Q:VK),Inv X pins σ H s->bw x v->aX xs us->r x xs H Q ->
  qb (q3 X.prog X.w) X.A (call (.builtin id) (v::us)) (EP X pins σ Q) X.xe s
theorem aX.consI {x:V}{xs:List V}{us:List Value} (h:aX (x::xs) us):∃ u vs,us=u::vs/\bw x u/\aX xs vs:=by
 cases h with
 | cons r q=>exact⟨_,_,rfl,r,q⟩
theorem aX.zero {us:List Value} (h:aX [] us):us=[]:=by
 cases h
 rfl
theorem aX.one {x:V}{us:List Value} (h:aX [x] us):∃ u,us=[u]/\bw x u:=by
 obtain⟨u,vs,rfl,r,q⟩:=h.consI
 rw[aX.zero q]
 exact⟨u,rfl,r⟩
theorem aX.dropLast {xs:List V}{us:List Value} (h:aX xs us):aX xs.dropLast us.dropLast:=by
 induction h with
 | nil=>exact .nil
 | cons r t a =>
  cases t with
  | nil=>exact .nil
  | cons q t'=>exact .cons r a
theorem aX.eraseIdx:∀ {xs:List V}{us:List Value} (i:Nat),aX xs us->aX (xs.eraseIdx i) (us.eraseIdx i)
 | _,_,_,.nil=>.nil
 | _,_,0,.cons _ t=>t
 | _,_,i+1,.cons r t=>.cons r (aX.eraseIdx i t)
theorem rF {α:Type} (l:List α):l.eraseIdx (l.length - 1)=l.dropLast:=by
 induction l with
 | nil=>rfl
 | cons a r c =>
  cases r with
  | nil=>rfl
  | cons b r =>
   have e:(a::b::r).length - 1=((b::r).length - 1)+1:=by
    have h1:(a::b::r).length=r.length+2:=rfl
    have h2:(b::r).length=r.length+1:=rfl
    omega
   rw[e,List.eraseIdx_cons_succ,c]
   all_goals rfl
theorem lI {α:Type}:∀ (l:List α) (i:Nat),(l.eraseIdx i).length<=l.length
 | [],_=>HK _
 | _::_,0=>IQ _
 | _::r,i+1=>Nat.succ_le_succ (lI r i)
section
variable {X:Cx}{pins:List (Addr×Obj)}{σ:St}{H:Hp}{s:Shared}{l:Addr}{xs ys:List V}
theorem Inv.lset {a its':List Value}{n:Nat}{f:Array Value->Array Value}{t':Nat} (I:Inv X pins σ H s) (b:H l=some (.lst xs))
  (e : s.heap.get? l=some { cls:=.type "list",data:=.seq a.toArray n }) (c:f a.toArray=its'.toArray) (d:aX ys its') (hz:ys.length<=sizeLine) :
  Inv X pins σ (upd H l (.lst ys)) { s with heap:=s.heap.update l (Obj.mapSeq f),toks:=t' }:=by
 have q:=PySem.IsL.update e f
 rw[c] at q
 refine I.write (x:=l) (e:=l) (by rw[b];exact trivial) (.inl rfl) (λi u g h=>(IX s.heap (Obj.mapSeq f) (Ne.symm g)).trans h) ⟨_,q⟩ ?_
 exact⟨hz,its',_,d,q⟩
theorem Inv.lnew {a:List Value}{t':Nat} (I:Inv X pins σ H s) (b:aX ys a) (hz:ys.length<=sizeLine) :
  Inv X pins σ (upd H s.heap.objs.size (.lst ys)) { s with heap:=s.heap.push { cls:=.type "list",data:=.seq a.toArray },toks:=t' } :=
 I.laid (λ_ _ q=>HE _ q) (HK _) ⟨hz,a,0,b,HR _ rfl⟩
theorem Inv.fresh (I:Inv X pins σ H s):H s.heap.objs.size=none:=I.hok.fresh (HK _)
theorem Inv.lstM (I:Inv X pins σ H s) (b:H l=some (.lst xs)):xs.length<=sizeLine/\∃ (a:List Value) (n:Nat),aX xs a/\xs.length=a.length/\s.heap.get? l=some { cls:=.type "list",data:=.seq a.toArray n }:=by
 obtain⟨z,a,n,r,e⟩:=I.hok l _ b
 exact⟨z,a,n,r,r.length,e⟩
end
section
variable {X:Cx}
noncomputable def zP:V->List V->Hp->VK->Prop:=λx vs H Q=>∃ l xs y,x=.ref l/\vs=[y]/\H l=some (.lst xs)/\xs.length<sizeLine/\Q .non (upd H l (.lst (xs++[y])))
theorem lD:MtM X "list.append" zP:=by
 intro pins s σ H x vs v us Q I c d h
 obtain⟨l,xs,y,rfl,rfl,b,hz,q⟩:=h
 cases c
 obtain⟨u,rfl,f⟩:=d.one
 obtain⟨z,a,n,r,g,e⟩:=I.lstM b
 refine QL F.slot_list_append ⟨_,e,rfl⟩ F.entry_list_append (F.args_list_append_2 _ _) (PySem.list_append l a.toArray n u (by rw[HM];omega)) ⟨e,?_⟩
 refine⟨.non,_,I.lset (its':=a++[u]) b e (by simp) (r.append (.cons f .nil)) ?_,rfl,q⟩
 rw[Ie,ID]
 omega
noncomputable def G4:V->List V->Hp->VK->Prop:=λx vs H Q=>∃ l xs y,x=.ref l/\vs=[]/\H l=some (.lst xs)/\xs[xs.length - 1]? = some y/\Q y (upd H l (.lst xs.dropLast))
theorem yr:MtM X "list.pop" G4:=by
 intro pins s σ H x vs v us Q I f g h
 obtain⟨l,xs,y,rfl,rfl,d,i,q⟩:=h
 cases f
 have b:=g.zero
 subst b
 obtain⟨z,a,n,r,j,e⟩:=I.lstM d
 obtain⟨u,k,m⟩:=r.get i
 have c:a.toArray[a.toArray.size - 1]? = some u:=by
  show a.toArray[a.length - 1]? = some u
  rw[<-Array.getElem?_toList,<-j]
  exact k
 refine QL F.slot_list_pop ⟨_,e,rfl⟩ F.entry_list_pop (F.args_list_pop_1 _) (MeetsSeq.list_pop_last l a.toArray n u c (by rw[HM];omega)) ⟨e,?_⟩
 refine⟨y,_,I.lset (its':=a.dropLast) d e ?_ r.dropLast ?_,m,q⟩
 ·show a.toArray.eraseIdxIfInBounds (a.toArray.size - 1)=a.dropLast.toArray
  rw[HM,List.eraseIdxIfInBounds_toArray,rF]
 ·rw[List.length_dropLast]
  omega
noncomputable def Cz:V->List V->Hp->VK->Prop:=λx vs H Q=>∃ l xs i k y,x=.ref l/\vs=[.int i]/\H l=some (.lst xs)/\-(2 ^ 63)<=i/\i<2 ^ 63/\QQ i xs.length=some k/\xs[k]? = some y/\Q y (upd H l (.lst (xs.eraseIdx k)))
theorem wo:MtM X "list.pop" Cz:=by
 intro pins s σ H x vs v us Q I d f h
 obtain⟨l,xs,i,k,y,rfl,rfl,c,h1,h2,hk,g,q⟩:=h
 cases d
 obtain⟨u,rfl,j⟩:=f.one
 obtain⟨t,rfl⟩:=j
 obtain⟨z,a,n,r,m,e⟩:=I.lstM c
 obtain⟨w,hw,b⟩:=r.get g
 refine QL F.slot_list_pop ⟨_,e,rfl⟩ F.entry_list_pop (F.args_list_pop_2 _ _)
  (MeetsSeq.list_pop_at l a.toArray n i t k w (fitsIndex_both h1 h2) (by rw[HM,<-m];exact hk) (by rw[<-Array.getElem?_toList];exact hw) (by rw[HM];omega)) ⟨e,?_⟩
 refine⟨y,_,I.lset (its':=a.eraseIdx k) c e ?_ (r.eraseIdx k) ?_,b,q⟩
 ·show a.toArray.eraseIdxIfInBounds k=(a.eraseIdx k).toArray
  rw[List.eraseIdxIfInBounds_toArray]
 ·have:=lI xs k
  omega
end
end _L
namespace Att
open PySem PySem.W PySem.Calls PyProof.Rows
theorem iG {P:Params}{h:Heap}:∀ (ns:List Int) (vs:List Value),WellAll P h vs (ns.map WData.int)->Q2 vs ns:=by
 intro ns
 induction ns with
 | nil =>
  intro vs w
  rw[List.map_nil] at w
  cases w
  exact .nil
 | cons n ns c =>
  intro vs w
  rw[HU] at w
  cases w with
  | cons a b =>
   cases a
   exact .cons _ _ (c _ b)
theorem sP {l:OpenLaw}{n:Nat} (hn:l.most=some n) {P:Params}{h:Heap}{args:List WData}{b:List Value}
  (c:l.row.toRowW.claim.pre args=true) (j:WellAll P h b args) :
  ∃ a vs ns,b=[Value.ref a]/\args=[WData.list (ns.map WData.int)]/\h.get? a=some { cls:=.type "list",data:=.seq vs.toArray }/\Q2 vs ns/\ns.length<=n:=by
 have k:WShape.hasAll [] args [.list .int]=true:=(pre_splitW c).1
 have hc:l.pre.holds [] { args:=args }=true:=(pre_splitW c).2
 obtain⟨d,r,rfl,h1,h2⟩:=hasAllW_cons k
 obtain rfl:=hasAllW_nil h2
 obtain⟨xs,rfl,m⟩:=hasW_list h1
 obtain⟨ns,rfl⟩:=items_int m
 have e:ns.length<=n:=by
  unfold OpenLaw.pre at hc
  have g:(WTm.not (.lt (.lit (.int (n:Int))) (.len (.arg 0)))).holds [] { args:=[.list (ns.map .int)] }=true:=by
   have g:=(holds_andW hc).1
   rw[hn] at g
   exact g
  have i:=condW_of g (w_not (w_lt w_lit (w_len_list (w_arg rfl))))
  rw[HC] at i
  refine Nat.le_of_not_lt λq=>?_
  have o:(n:Int)<((ns.length:Nat):Int):=by omega
  first
   | (rw[decide_eq_true o] at i;exact absurd i (by decide))
   | (simp at i;omega)
 cases j with
 | cons p s =>
  cases s
  cases p with
  | list ho f=>exact⟨_,_,ns,rfl,rfl,ho,iG ns _ f,e⟩
theorem tz (l:OpenLaw) (args:List WData):l.row.toRowW.claim.post args (.bool true) args=true :=
 postW_of (r:=l.row.toRowW) (X:=(true==true))
  (show WShape.has [] (.bool true) .bool=true by first|rfl|decide|simp[WShape.has,WShape.arms,WShape.armsAll])
  (show(WTm.eq .res (.lit (.bool true))).value [] { args:=args,res:=some (.bool true),after:=args }=some (.bool (true==true)) from w_eq_bool (w_res rfl) w_lit) rfl
theorem attach_call {l:OpenLaw}{n:Nat}{q:zb}{c:List Str}{s:(Str->Option Value)->Heap->Prop}{t:zf->Heap->Prop}{d:DefRec}
  (hn:l.most=some n) (j:d.params.defaults=[])
  (call:∀ (w:zf) (s₀ b:Shared) (mg mb:Str->Option Value) (fa:Addr) (o:Obj) (pm cd doc:Value) (a:Addr) (vs:List Value) (ns:List Int),
   Ground q c [] s w s₀ mg mb b.heap->t w b.heap ->
   b.heap.get? fa=some o->o.data=.func (docDef d.name d.params d.body d.scope pm cd doc)->b.heap.CodeRec cd d.name->mg d.name=some (.ref fa) ->
   b.heap.get? a=some { cls:=.type "list",data:=.seq vs.toArray }->Q2 vs ns->ns.length<=n->b.gens=#[] ->
   Kx (q3 l.prog w) Qu (.call (.ref fa) ⟨[.ref a],[]⟩) (λr s'=>r=.ok (.ret (.bool true))/\OldK b.heap s'.heap/\s'.os=b.os/\Qa s'.gens) b) :
  WalkO q c s t l.row.toRowW d [] (λf vs=>PySem.call f vs):=by
 intro w s₀ b mg mb G Y fa o pm cd doc y kV ho hd k u m z args v as g x A p B
 obtain rfl:y=.none:=Dflts.none u j
 obtain rfl:kV=.none:=Dflts.noKw u
 obtain⟨a,vs,ns,rfl,rfl,h,e,i⟩:=sP hn g p
 refine enter_call (K9 (call w s₀ b mg mb fa o pm cd doc a vs ns G Y ho (fd_plain hd) k m h e i z) λr s' C=>?_)
 obtain⟨rfl,h2,D,E⟩:=C
 exact⟨.inl ⟨.bool true,.bool true,[],rfl,λ_=>rfl,.bool true,tz l _,λ_=>⟨List.Pairwise.nil,λ_ F=>(nomatch F)⟩⟩,h2,D,E⟩
end Att
namespace _L
open PySem PySem.Spec PyProof.Rows
theorem kK:∀ {vs:List Value}{ns:List Int},Q2 vs ns->aX (ns.map V.int) vs
 | _,_,.nil=>.nil
 | _,_,.cons n t h=>.cons ⟨t,rfl⟩ (kK h)
noncomputable def Gm (H:Hp):Prop:=∀ b,H b=none\/(∃ o xs,H b=some (.frz o (.lst xs)))\/∃ q,H b=some (.tbl q)
theorem wx {P:zb}{w:zf}{K:PySem.W.Frag}{mg mb:Str->Option Value}{CX:CXT}{k:Nat}{fa a:Addr}{fd:k0}{x:Str}{sp:Sp}{f:Shared}{vs:List Value}{ns:List Int}{tb:List (Addr×Str)}
  (B:∀ b q,tb.lookup b=some q->f.heap.get? b=some { cls:=.none,data:=.fields #[] }/\K.lookup b=none/\∃ c,f.heap.TableAt c b #[]) (Q:∀ T q,iT K T q->tb.lookup T=some q)
  (KX:K.In f.heap) (E:f.heap.Ns qs mg) (i:f.heap.Ns Kq mb) (R:∀ x:Str,x ≠ "__name__" -> mb x=Kh x) (G:f.heap.NoLimit) (S:∃ bm ob,mg "__builtins__" = some (.ref bm)/\bm≠Kq/\f.heap.get? bm=some ob/\ob.cls=.type "module" /\ ob.dict=some Kq/\ob.data=.plain) (hg:f.gens=#[])
  (C:f.heap.get? a=some { cls:=.type "list",data:=.seq vs.toArray }) (hi:Q2 vs ns) (hl:ns.length<=sizeLine) (hr:cJ k Qu)
  (F : ∀ base:Heap,K.In base->base.Ns qs mg->bR P w K mg base CX k fa fd [x] sp) (D:∀ (s:Shared) (u:Value),Qm s fd ⟨[u],[]⟩ [(x,u)])
  (U:∀ H:Hp,Gm H->SqL K H a (ns.map V.int)->sp [.ref a] H (λv _=>v=.bl true) λ_ _ _=>False)
  (X:∀ H e s',CX [] H f (λ_ _ _=>False) e s'->False) :
  Kx (q3 P w) Qu (.call (.ref fa) ⟨[.ref a],[]⟩) (λr s'=>r=.ok (.ret (.bool true))/\OldK f.heap s'.heap/\s'.os=f.os/\Qa s'.gens) f:=by
 have rv:=kK hi
 have I:=hi.length
 have y:∀ H:Hp,Gm H->SqL K H a (ns.map V.int)->HOk P w H f.heap->(∀ b u,H b=some u->(b=a/\K.lookup a=none)\/∃ q,tb.lookup b=some q/\u=.tbl q)->(∀ b q,tb.lookup b=some q->H b=some (.tbl q)) ->
   Kx (q3 P w) Qu (.call (.ref fa) ⟨[.ref a],[]⟩) (λr s'=>r=.ok (.ret (.bool true))/\OldK f.heap s'.heap/\s'.os=f.os/\Qa s'.gens) f:=by
  intro H hO hS hok N hB
  have g:∀ {b:Addr}{o:Obj},f.heap.get? b=some o->H b=none->(vt f.heap H).get? b=some o:=λe n=>wK e n
  have Y:∀ {b:Addr}{o:Obj}{es:Array Qz}{ep:Nat},f.heap.get? b=some o->o.data=.dict es ep->H b=none:=λ{b o es ep} e d=>by
   cases q:H b with
   | none=>rfl
   | some u =>
    rcases N b u q with⟨l,_⟩|⟨j,l,_⟩
    ·subst l
     rw[C] at e;cases e
     have d':Data.seq vs.toArray _=Data.dict es ep:=d
     cases d'
    ·rw[(B b j l).1] at e;cases e
     have d':Data.fields _=Data.dict es ep:=d
     cases d'
  have p:∀ {b:Addr}{m:Str->Option Value},f.heap.Ns b m->(vt f.heap H).Ns b m:=λ{b m} ⟨o,es,ep,e,d,r⟩=>⟨o,es,ep,g e (Y e d),d,r⟩
  have J:K.In (vt f.heap H):=λb o e=>g (KX b o e) (by
   cases q:H b with
   | none=>rfl
   | some u =>
    rcases N b u q with⟨l,hk⟩|⟨j,l,_⟩
    ·subst l
     rw[hk] at e;cases e
    ·rw[(B b j l).2.1] at e;cases e)
  have L:∃ bm ob,mg "__builtins__" = some (.ref bm)/\bm≠Kq/\(vt f.heap H).get? bm=some ob/\ob.cls=.type "module" /\ ob.dict=some Kq/\ob.data=.plain:=by
   obtain⟨bm,ob,b1,b2,M,b4,b5,Z⟩:=S
   refine⟨bm,ob,b1,b2,g M ?_,b4,b5,Z⟩
   cases q:H bm with
   | none=>rfl
   | some u =>
    rcases N bm u q with⟨l,_⟩|⟨j,l,_⟩
    ·subst l
     rw[C] at M;cases M;cases Z
    ·rw[(B bm j l).1] at M;cases M;cases Z
  have hM:Mod K mg (vt f.heap H):=⟨J,p E,⟨mb,p i,R⟩,let ⟨mc,h1,h2⟩:=G;⟨mc,p h1,h2⟩,L⟩
  have O:r9 P w K mg (vt f.heap H) Qu [] f H:=⟨rfl,hM,λb o e=>Az e,Nat.le_of_eq (ux _ _),trivial,λb i=>absurd (show b∈([]:List Addr) from i) (by simp),hok,.of_eq hg,λT q h=>hB T q (Q T q h)⟩
  refine K9 ((F _ J (p E)).run Qu [] f H ⟨[.ref a],[]⟩ [.ref a] [.ref a] _ _ hr O (D f (.ref a)) (.cons rfl .nil) (U H hO hS)) λr s' h=>?_
  cases r with
  | error e=>exact(X H e s' h).elim
  | ok fl =>
   cases fl with
   | next=>exact False.elim h
   | brk=>exact False.elim h
   | cont=>exact False.elim h
   | ret u =>
    obtain⟨v,H',os,bare,un,A,r',q⟩:=h
    have j:v=.bl true:=q
    subst j
    obtain rfl:u=Value.bool true:=r'
    refine⟨rfl,⟨λb o e=>?_,λb o e=>un.there b o e (by simp)⟩,os,bare⟩
    cases q:H b with
    | none=>exact .inl (un.keep b o e q (by intro z;exact absurd (show b∈([]:List Addr) from z) (by simp)) (by simp))
    | some u =>
     rcases hO b with z|⟨ob,xs,z⟩|⟨j,z⟩
     ·rw[q] at z;cases z
     ·have z2:=un.frzs b ob _ z
      obtain⟨e1,_⟩:=hok b _ z
      obtain⟨e2,_⟩:=A b _ z2
      rw[e] at e1;cases e1
      exact .inl e2
     ·obtain⟨ps,e2,_⟩:=A b _ (un.tbls b j z)
      rcases N b _ z with⟨l,_⟩|⟨q2,l,_⟩
      ·obtain⟨a4,O,_⟩:=hok b _ z
       subst l
       rw[C] at O;cases O
      ·obtain⟨t1,_,c,t2⟩:=B b q2 l
       rw[e] at t1;cases t1
       exact .inr (.inl ⟨t2.isCodeTable,rfl,#[],ps,rfl,by simpa using e2⟩)
 cases hk:K.lookup a with
 | some o =>
  have e:=KX a o hk
  rw[C] at e
  cases e
  refine y (λb=>(tb.lookup b).map .tbl) (λb=>?_) (.inr ⟨_,vs.toArray,_,hk,rfl,rfl,rfl,by rw[HM,I];exact hl,by simpa using rv⟩) (λb u z=>?_) (λb u z=>?_) λb q z=>by show(tb.lookup b).map HO.tbl=_;rw[z];rfl
  ·cases z:tb.lookup b with
   | none=>exact .inl (by show(tb.lookup b).map HO.tbl=_;rw[z];rfl)
   | some q=>exact .inr (.inr ⟨q,by show(tb.lookup b).map HO.tbl=_;rw[z];rfl⟩)
  ·have z:(tb.lookup b).map HO.tbl=some u:=z
   cases q:tb.lookup b with
   | none=>rw[q] at z;cases z
   | some j =>
    rw[q] at z;cases z
    exact⟨#[],(B b j q).1,trivial,λpos cv h=>by cases (show(none:Option Value)=some cv from h)⟩
  ·have z:(tb.lookup b).map HO.tbl=some u:=z
   cases q:tb.lookup b with
   | none=>rw[q] at z;cases z
   | some j=>rw[q] at z;cases z;exact .inr ⟨j,rfl,rfl⟩
 | none =>
  have a0:tb.lookup a=none:=by
   cases z:tb.lookup a with
   | none=>rfl
   | some q =>
    have e:=(B a q z).1
    rw[C] at e
    cases e
  have t:∀ b,b≠a->(if b=a then some (HO.frz { cls:=.type "list",data:=.seq vs.toArray } (.lst (ns.map V.int))) else (tb.lookup b).map .tbl)=(tb.lookup b).map .tbl:=λb i=>if_neg i
  refine y (λb=>if b=a then some (.frz { cls:=.type "list",data:=.seq vs.toArray } (.lst (ns.map V.int))) else (tb.lookup b).map .tbl) (λb=>?_) (.inl (.inr ⟨{ cls:=.type "list",data:=.seq vs.toArray },if_pos rfl⟩)) (λb u z=>?_) (λb u z=>?_) λb q z=>?_
  ·by_cases i:b=a
   ·exact .inr (.inl ⟨_,_,if_pos i⟩)
   ·dsimp only
    rw[t b i]
    cases z:tb.lookup b with
    | none=>exact .inl rfl
    | some q=>exact .inr (.inr ⟨q,rfl⟩)
  ·by_cases i:b=a
   ·have z':=(if_pos i).symm.trans z
    cases z'
    subst i
    exact⟨C,by rw[HC];exact hl,vs,_,rv,C⟩
   ·have z:(tb.lookup b).map HO.tbl=some u:=(t b i).symm.trans z
    cases q:tb.lookup b with
    | none=>rw[q] at z;cases z
    | some j =>
     rw[q] at z;cases z
     exact⟨#[],(B b j q).1,trivial,λpos cv h=>by cases (show(none:Option Value)=some cv from h)⟩
  ·by_cases i:b=a
   ·exact .inl ⟨i,hk⟩
   ·have z:(tb.lookup b).map HO.tbl=some u:=(t b i).symm.trans z
    cases q:tb.lookup b with
    | none=>rw[q] at z;cases z
    | some j=>rw[q] at z;cases z;exact .inr ⟨j,rfl,rfl⟩
  ·have i:b≠a:=λe=>by subst e;rw[a0] at z;cases z
   exact(t b i).trans (by rw[z];rfl)
theorem zB {l:PySem.W.OpenLaw}{n k:Nat}{q:zb}{i:List Str}{E:(Str->Option Value)->Heap->Prop}{I:zf->Heap->Prop}{d:DefRec}{K:Params->PySem.W.Frag}{CX:zf->CXT}{sp:zf->Sp}{x:Str}
  (hn:l.most=some n) (hn2:n<=sizeLine) (t:d.params.defaults=[]) (J:cJ k Qu)
  (y:∀ (w:zf) (s₀:Shared) (mg mb:Str->Option Value) (h:Heap),PySem.W.Ground q i [] E w s₀ mg mb h->(K w.params).In h->∃ tb:List (Addr×Str),(∀ b q,tb.lookup b=some q->h.get? b=some { cls:=.none,data:=.fields #[] }/\(K w.params).lookup b=none/\∃ c,h.TableAt c b #[])/\∀ T q,iT (K w.params) T q->tb.lookup T=some q)
  (L:∀ (w:zf) (h:Heap),I w h->(K w.params).In h)
  (F : ∀ (w:zf) (mg:Str->Option Value) (fa:Addr) (h:Heap),(K w.params).In h->h.Ns qs mg->mg d.name=some (.ref fa) ->
   ∃ fd:k0,(∀ (s:Shared) (u:Value),Qm s fd ⟨[u],[]⟩ [(x,u)]) /\
    ∀ base:Heap,(K w.params).In base->base.Ns qs mg->bR l.prog w (K w.params) mg base (CX w) k fa fd [x] (sp w))
  (z:∀ (w:zf) (H:Hp) (a:Addr) (ns:List Int),ns.length<=n->Gm H->SqL (K w.params) H a (ns.map V.int)->sp w [.ref a] H (λv _=>v=.bl true) λ_ _ _=>False)
  (A:∀ (w:zf) (H:Hp) (s:Shared) (e:Value) (s':Shared),CX w [] H s (λ_ _ _=>False) e s'->False) :
  PySem.W.WalkO q i E I l.row.toRowW d [] (λf vs=>PySem.call f vs):=by
 refine Att.attach_call hn t λw s₀ p mg mb fa o pm cd doc a vs ns G Y ho hd M B r m j N=>?_
 have C:=L w _ Y
 obtain⟨fd,O,P⟩:=F w mg fa _ C G.T.g B
 obtain⟨tb,Q,D⟩:=y w s₀ mg mb _ G C
 exact wx Q D C G.T.g G.T.b G.T.builtins G.T.nolimit G.T.bmain N r m (HQ j hn2) J P O (λH R S=>z w H a ns j R S) λH e s'=>A w H p e s'
noncomputable def d6 (s:Stmt):KM:=match s with
 | .FunctionDef _ a _ _ _ _ _ _ _ _=>a
 | _=>{ posonlyargs:=[],args:=[],vararg:=none,kwonlyargs:=[],kw_defaults:=[],kwarg:=none,defaults:=[] }
noncomputable def cj (s:Stmt):List Stmt:=match s with
 | .FunctionDef _ _ b _ _ _ _ _ _ _=>b
 | _=>[]
noncomputable def ad (s:Stmt):Kc:=match s with
 | .FunctionDef _ _ _ _ _ _ sc _ _ _=>sc
 | _=>{ kind:=.function,names:=[],isGenerator:=false,isCoroutine:=false }
noncomputable abbrev CX0:CXT:=λ_ _ _ _ _ _=>False
noncomputable abbrev E0:XK:=λ_ _ _=>False
theorem FB {X:Cx}:vi CX0 X E0:=λ_ _ _ _ _ _ _ h=>h.elim
structure Fun (K:PySem.W.Frag) (x qual:Str) (st:Stmt) (f:Addr) (fd:k0):Prop where
 ex : ∃ (oc:Value) (od:Option Addr) (kV doc pm:Value) (an:Option Addr) (cdv ct:Value) (osl:Array (Option Value)),
  fd = PySem.W.fnOf x qual (d6 st) (cj st) (ad st) .none kV doc pm an cdv ct/\K.lookup f=some ⟨oc,od,.func fd,osl⟩/\PySem.W.codeIn K cdv qual=true
 kp : PySem.W.keepIn K (.ref f)=true
section
variable {P:zb}{w:zf}{K:PySem.W.Frag}{mg:Str->Option Value}{base:Heap}
theorem Fun.ok {x qual:Str}{st:Stmt}{f:Addr}{fd:k0}{N ps:List Str}{k:Nat}{sp:Sp} (F:Fun K x qual st f fd) (S:ao N ps (ad st)) (len:∀ vs H Q E,sp vs H Q E->vs.length=ps.length)
  (a:∀ (cdv:Value) (A:Around) (outer:List Env) (s:Shared) (H:Hp) (vs:List V) (Q:VK) (E:XK),cJ k (A.deeper (K3 qual (ad st) s.heap.objs.size f cdv))->sp vs H Q E ->
   ∃ t,PSs (qt CX0 P w K mg base N qual (ad st) f cdv A outer s H E).nox (cj st) t/\t { nx:=λ_ H'=>Q .non H',rt:=Q } (bV N vs) H):bR P w K mg base CX0 (k+1) f fd ps sp:=by
 obtain⟨oc,od,kV,doc,pm,an,cdv,ct,osl,rfl,d,b⟩:=F.ex
 refine DP d b S len λA outer s H vs Q E e c=>?_
 obtain⟨t,h,q⟩:=a cdv A outer s H vs Q E e c
 exact⟨t,h.nox,q⟩
theorem Fun.binds {x qual:Str}{st:Stmt}{f:Addr}{fd:k0}{ps:List Str} (F:Fun K x qual st f fd)
  (h : ∀ (kV doc pm:Value) (an:Option Addr) (cdv ct:Value) (us:List Value),us.length=ps.length->ze (PySem.W.fnOf x qual (d6 st) (cj st) (ad st) .none kV doc pm an cdv ct) ⟨us,[]⟩=pure (ps.zip us)):a9 K fd ps []:=by
 obtain⟨oc,od,kV,doc,pm,an,cdv,ct,osl,rfl,b,a⟩:=F.ex
 exact .all (h kV doc pm an cdv ct)
theorem yM {x qual:Str}{st:Stmt}{f:Addr}{oc:Value}{od an:Option Addr}{osl:Array (Option Value)}{kV doc pm cdv ct:Value} (l:K.lookup f=some ⟨oc,od,.func (PySem.W.fnOf x qual (d6 st) (cj st) (ad st) .none kV doc pm an cdv ct),osl⟩)
  (c : PySem.W.codeIn K cdv qual=true) (k:PySem.W.keepIn K (.ref f)=true):Fun K x qual st f (PySem.W.fnOf x qual (d6 st) (cj st) (ad st) .none kV doc pm an cdv ct):=⟨⟨oc,od,kV,doc,pm,an,cdv,ct,osl,rfl,l,c⟩,k⟩
end
section
variable {X:Cx}
theorem pv (i:Nat) {x:Str}{pos:Pos} (b:X.N[i]? = some x:=by rfl) (c:Vis X.env.scope x:=by first|exact Or.inl rfl|exact Or.inr (Or.inl rfl)|exact Or.inr (Or.inr rfl)) (hd:(x==("__debug__" : Str))=false:=by decide)
  (a:(x==("__classdict__" : Str))=false:=by decide):PE X (.Name x pos) (E6 i):=cP b c hd a
end
theorem dO {c A B:Prop} [Decidable c] (h1:c->A) (h2:¬c->B):if c then A else B:=by
 by_cases h:c
 ·rw[if_pos h]
  exact h1 h
 ·rw[if_neg h]
  exact h2 h
noncomputable def aR (H H':Hp):Prop:=∀ b o,H b=some o->H' b=some o
theorem aR.refl (H:Hp):aR H H:=λ_ _ h=>h
theorem aR.trans {H H1 H2:Hp} (a:aR H H1) (b:aR H1 H2):aR H H2:=λc o h=>b c o (a c o h)
theorem aR.seq {K:PySem.W.Frag}{H H':Hp}{a:Addr}{xs:List V} (e:aR H H') (h:SqL K H a xs):SqL K H' a xs:=by
 rcases h with (h|⟨o,h⟩)|h
 ·exact .inl (.inl (e _ _ h))
 ·exact .inl (.inr ⟨o,e _ _ h⟩)
 ·exact .inr h
end _L
set_option maxHeartbeats 4000000
namespace _L
open PySem PySem.Spec PyProof.Rows
noncomputable def cm (env:Env):List (Str×NameKind)->List (Str×Addr)->List (Str×Addr)
 | [],a=>a
 | (n,k)::r,a=>if (k==.free)=true then cm env r ((n,(env.cells.lookup n).getD 0)::a) else cm env r a
theorem gj {env:Env} (f:Str×NameKind->List (Str×Addr)->Sem (ForInStep (List (Str×Addr))))
  (b:∀ name kind cs,f (name,kind) cs=if (kind==.free)=true then (do let c <-cellOf env name;pure (.yield ((name,c)::cs))) else pure (.yield cs)) :
  ∀ (names:List (Str×NameKind)) (a:List (Str×Addr)),(∀ y∈names,y.2=.free->(env.cells.lookup y.1).isSome=true)->forIn names a f=(pure (cm env names a):Sem _)
 | [],a,_=>by rw[Jg];rfl
 | (n,k)::r,a,h=>by
  rw[Ji,b]
  unfold cm
  by_cases hk:(k==NameKind.free)=true
  ·rw[if_pos hk,if_pos hk]
   obtain⟨c,hc⟩:=Option.isSome_iff_exists.mp (h (n,k) HH (by simpa using hk))
   have e:cellOf env n=pure c:=by unfold cellOf;rw[hc]
   rw[e,hc]
   simp only[pure_bind]
   exact gj f b r _ λy d=>h y (HJ _ d)
  ·rw[if_neg hk,if_neg hk]
   simp only[pure_bind]
   exact gj f b r _ λy d=>h y (HJ _ d)
theorem kt {scope:Kc}{env:Env} (h:∀ y∈scope.names,y.2=.free->(env.cells.lookup y.1).isSome=true):Ki scope env=pure (cm env scope.names []):=by
 simp only[Ki]
 rw[gj (env:=env) _ (λname kind cs=>by cases hk:kind==NameKind.free <;> simp[hk]) scope.names [] h]
 rfl
theorem cq (env:Env) (x:Str):∀ (names:List (Str×NameKind)) (a:List (Str×Addr)),(cm env names a).lookup x=if (x,NameKind.free)∈names then some ((env.cells.lookup x).getD 0) else a.lookup x
 | [],a=>by simp[cm]
 | (n, k)::r,a=>by
  unfold cm
  by_cases hk:(k==NameKind.free)=true
  ·have c:k=NameKind.free:=by simpa using hk
   subst c
   rw[if_pos hk,cq env x r]
   by_cases b:(x,NameKind.free)∈r
   ·rw[if_pos b,if_pos (HJ _ b)]
   ·rw[if_neg b,IA]
    by_cases hx:x=n
    ·subst hx
     simp
    ·have e1:(x==n)=false:=beq_eq_false_iff_ne.mpr hx
     rw[e1]
     have e2:¬(x,NameKind.free)∈(n,NameKind.free)::r:=by
      intro z
      rcases HP.mp z with z|z
      ·exact hx (Prod.mk.inj z).1
      ·exact b z
     rw[if_neg e2]
  ·rw[if_neg hk,cq env x r]
   have e2:(x,NameKind.free)∈(n,k)::r↔(x,NameKind.free)∈r:=by
    constructor
    ·intro z
     rcases HP.mp z with z|z
     ·exact absurd (by rw[(Prod.mk.inj z).2.symm];rfl) hk
     ·exact z
    ·exact HJ _
   by_cases b:(x,NameKind.free)∈r
   ·rw[if_pos b,if_pos (e2.mpr b)]
   ·rw[if_neg b,if_neg (λz=>b (e2.mp z))]
theorem bq:∀ (names:List (Str×NameKind)) (n:Nat) (a:List (Str×Addr)),J2 n names a=J2 n names []++a
 | [],n,a=>by simp[J2]
 | (x,k)::r,n,a=>by
  unfold J2
  split
  ·rw[bq r (n+1) ((x,n)::a),bq r (n+1) [(x,n)]]
   simp
  ·exact bq r n a
theorem bQ:∀ (names:List (Str×NameKind)) (n:Nat) (x:Str) (c:Addr),(x,c)∈J2 n names []->(x,NameKind.cell)∈names/\n<=c
 | [],n,x,c,h=>by simp[J2] at h
 | (y,k)::r,n,x,c,h=>by
  unfold J2 at h
  split at h
  ·rename_i hk
   rw[bq] at h
   rcases HF.mp h with h|h
   ·have q:=bQ r (n+1) x c h
    exact⟨HJ _ q.1,by omega⟩
   ·have e:(x,c)=(y,n):=by simpa using h
    cases e
    have a:k=NameKind.cell:=by simpa using hk
    subst a
    exact⟨HH,HK _⟩
  ·have q:=bQ r n x c h
   exact⟨HJ _ q.1,q.2⟩
theorem aN {α:Type}:∀ {l:List (Str×α)}{x:Str}{k:α},(l.map (·.1)).Nodup->(x,k)∈l->l.lookup x=some k
 | (y,j)::r,x,k,nd,h=>by
  rw[IA]
  rcases HP.mp h with e|h
  ·cases e;simp
  ·have a:=Iu.mp nd
   have this:x≠y:=λz=>a.1 (by
    rw[<-z]
    exact HS.mpr ⟨(x,k),h,rfl⟩)
   rw[beq_eq_false_iff_ne.mpr this]
   exact aN a.2 h
theorem nF {M:Model}{A:Around}{E:Value->Shared->Prop}{s:Shared}{scope:Kc}{globals:Addr}{a:List (Str×Addr)}{qual:Str}{env:Env}{Q:Env->Shared->Prop}
  (h : Q (newEnv scope s.heap.objs.size globals (J2 (s.heap.objs.size+1) scope.names a) qual none .none (some env) Kq) { s with heap:=K6 (s.heap.push { cls:=.type "dict",data:=.dict #[] }) scope.names }) :
  qb M A (QI scope globals a [] qual none .none (some env)) Q E s:=by
 simp only[QI,Option.isSome_some,if_true]
 refine jj (wpAny_alloc ?_)
 refine jj (wpAny_layCells _ (λname kind cells=>by cases hkc:kind==NameKind.cell <;> simp[hkc]) _ _ _ _ ?_)
 rw[show({ s with heap:=s.heap.push { cls:=.type "dict",data:=.dict #[] } }:Shared).heap.objs.size=s.heap.objs.size+1 from IG ..]
 rw[Jg]
 exact jj (ke (ke h))
structure bS (N:List Str) (env:Env) (N':List Str) (ix:List (Option Nat)) (sc:Kc):Prop where
 kind:sc.kind=.function
 ndn:(sc.names.map (·.1)).Nodup
 free:∀ y∈sc.names,y.2=.free->env.kindOf y.1=some .cell\/env.kindOf y.1=some .free
 len:ix.length=N'.length
 cap:∀ (i j:Nat),ix[i]? = some (some j)->∃ x,N'[i]? = some x/\N[j]? = some x/\sc.names.lookup x=some .free
theorem bS.names {N:List Str}{env:Env}{N':List Str}{ix:List (Option Nat)}{sc:Kc} (S:bS N env N' ix sc):∀ y∈sc.names,y.2=.local->sc.names.lookup y.1=some .local:=λy a e=>by
 obtain⟨x,k⟩:=y
 cases e
 exact aN S.ndn a
noncomputable def dG (σ:St) (ix:List (Option Nat)):St:=ix.map λo=>o.bind λj=>(σ[j]?).join
noncomputable def rZ (sc:Kc) (C:Addr) (env:Env):Env:=compEnvC sc (J2 (C+1) sc.names (cm env sc.names [])) C env
noncomputable def bCx (X:Cx) (N':List Str) (sc:Kc) (s:Shared) (H:Hp) (C:Addr) (fp:List Addr):Cx where
 prog:=X.prog
 w := X.w
 K := X.K
 mg := X.mg
 base:=X.base
 A := X.A
 N := N'
 s₀ := s
 H₀ := H
 env:=rZ sc C X.env
 outer:=X.stack
 stack:=X.stack
 ex := fp
 fn := λx=>decide (sc.names.lookup x=some .cell)
 calm:=X.calm
 pn := []
 xe := λ_ _=>False
theorem eY {env:Env}:∀ {names:List (Str×NameKind)}{x:Str}{k:NameKind},names.lookup x=some k ->
  (names.map λ(n,k)=>if (k==NameKind.free&&env.scope.kind==.function&&env.kindOf n==some .cell) then (n,NameKind.cell) else (n,k)).lookup x=some (if (k==NameKind.free&&env.scope.kind==.function&&env.kindOf x==some .cell)=true then .cell else k)
 | [],_,_,h=>by simp at h
 | (n,j)::r,x,k,h=>by
  have a:=@eY env r x k
  show List.lookup x ((if (j==NameKind.free&&env.scope.kind==.function&&env.kindOf n==some .cell)=true then (n,NameKind.cell) else (n,j))::_)=_
  cases hx:x==n with
  | true =>
   have e:x=n:=by simpa using hx
   subst e
   simp only[IA,hx] at h
   have b:j=k:=Option.some.inj h
   subst b
   by_cases hc:(j==NameKind.free&&env.scope.kind==.function&&env.kindOf x==some .cell)=true
   ·rw[if_pos hc,if_pos hc];simp[IA]
   ·rw[if_neg hc,if_neg hc];simp[IA]
  | false =>
   simp only[IA,hx] at h
   by_cases hc:(j==NameKind.free&&env.scope.kind==.function&&env.kindOf n==some .cell)=true
   ·rw[if_pos hc];simp only[IA,hx];exact a h
   ·rw[if_neg hc];simp only[IA,hx];exact a h
theorem cD {env:Env}:∀ {names:List (Str×NameKind)}{x:Str},names.lookup x=none ->
  (names.map λ(n,k)=>if (k==NameKind.free&&env.scope.kind==.function&&env.kindOf n==some .cell) then (n,NameKind.cell) else (n,k)).lookup x=none
 | [],_,_=>rfl
 | (n,j)::r,x,h=>by
  have a:=@cD env r x
  show List.lookup x ((if (j==NameKind.free&&env.scope.kind==.function&&env.kindOf n==some .cell)=true then (n,NameKind.cell) else (n,j))::_)=_
  cases hx:x==n with
  | true=>simp only[IA,hx] at h;cases h
  | false =>
   simp only[IA,hx] at h
   by_cases hc:(j==NameKind.free&&env.scope.kind==.function&&env.kindOf n==some .cell)=true
   ·rw[if_pos hc];simp only[IA,hx];exact a h
   ·rw[if_neg hc];simp only[IA,hx];exact a h
theorem eh {sc:Kc}{C:Addr}{env:Env}{x:Str}{k:NameKind} (h:sc.names.lookup x=some k):(rZ sc C env).kindOf x=some (if (k==NameKind.free&&env.scope.kind==.function&&env.kindOf x==some .cell)=true then .cell else k):=eY h
theorem vb {sc:Kc}{C:Addr}{env:Env}{x:Str} (h:sc.names.lookup x=none):(rZ sc C env).kindOf x=none:=cD h
section
variable {X:Cx}{N':List Str}{ix:List (Option Nat)}{sc:Kc}
theorem iR (S:bS X.N X.env N' ix sc) {C:Addr}{x:Str}{c:Addr} (h:(rZ sc C X.env).cells.lookup x=some c) :
  (sc.names.lookup x=some .cell/\C+1<=c/\(x,c)∈J2 (C+1) sc.names [])\/(sc.names.lookup x=some .free/\c=(X.env.cells.lookup x).getD 0):=by
 have e:(rZ sc C X.env).cells=J2 (C+1) sc.names []++cm X.env sc.names []:=bq _ _ _
 rw[e] at h
 rcases HF.mp (mem_of_lookup h) with q|q
 ·obtain⟨a,b⟩:=bQ _ _ _ _ q
  exact .inl ⟨aN S.ndn a,b,q⟩
 ·have fr:(x,NameKind.free)∈sc.names:=by
   have z:∀ (names:List (Str×NameKind)) (f:List (Str×Addr)),(x,c)∈cm X.env names f->(x,c)∈f\/(x,NameKind.free)∈names:=by
    intro names
    induction names with
    | nil=>intro f h;exact .inl h
    | cons y r g =>
     obtain⟨n,k⟩:=y
     intro f h
     unfold cm at h
     split at h
     ·rename_i hk
      have j:k=NameKind.free:=by simpa using hk
      subst j
      rcases g _ h with h|h
      ·rcases HP.mp h with h|h
       ·cases h;exact .inr HH
       ·exact .inl h
      ·exact .inr (HJ _ h)
     ·rcases g _ h with h|h
      ·exact .inl h
      ·exact .inr (HJ _ h)
   rcases z _ _ q with q|q
   ·simp at q
   ·exact q
  have i:=aN S.ndn fr
  have hn:(J2 (C+1) sc.names []).lookup x=none:=by
   cases z:(J2 (C+1) sc.names []).lookup x with
   | none=>rfl
   | some d =>
    have l:=bQ _ _ _ _ (mem_of_lookup z)
    have:=aN S.ndn l.1
    rw[i] at this;cases this
  rw[List.lookup_append,hn,cq,if_pos fr] at h
  exact .inr ⟨i,(Option.some.inj (by simpa using h)).symm⟩
theorem fu (S:bS X.N X.env N' ix sc) {C:Addr}{x:Str} (h:sc.names.lookup x=some .free):(rZ sc C X.env).cells.lookup x=some ((X.env.cells.lookup x).getD 0):=by
 have e:(rZ sc C X.env).cells=J2 (C+1) sc.names []++cm X.env sc.names []:=bq _ _ _
 have hn:(J2 (C+1) sc.names []).lookup x=none:=by
  cases z:(J2 (C+1) sc.names []).lookup x with
  | none=>rfl
  | some d =>
   have a:=bQ _ _ _ _ (mem_of_lookup z)
   have:=aN S.ndn a.1
   rw[h] at this;cases this
 rw[e,List.lookup_append,hn,cq,if_pos (mem_of_lookup h)]
 rfl
theorem rS {C:Addr}{env:Env}{x:Str} (h:sc.names.lookup x=some .cell):∃ c,(rZ sc C env).cells.lookup x=some c:=by
 have e:(rZ sc C env).cells=J2 (C+1) sc.names []++cm env sc.names []:=bq _ _ _
 obtain⟨c,hc⟩:=ku (n:=C+1) h
 exact⟨c,by rw[e,List.lookup_append,hc];rfl⟩
theorem nW {pins:List (Addr×Obj)}{σ:St}{H:Hp}{s:Shared}{fp:List Addr} (S:bS X.N X.env N' ix sc) (I:Inv X pins σ H s) (B:∀ b∈fp,eU X pins H b) (w:∀ b∈fp,b<s.heap.objs.size) :
  Inv (bCx X N' sc s H (s.heap.objs.size+1) fp) [] (dG σ ix) H
   { s with heap:=K6 ((s.heap.push { cls:=.type "list",data:=.seq #[] }).push { cls:=.type "dict",data:=.dict #[] }) sc.names }:=by
 have l:(s.heap.push { cls:=.type "list",data:=.seq #[] }).objs.size=s.heap.objs.size+1:=IG ..
 have keep:∀ b o,s.heap.get? b=some o->(K6 ((s.heap.push { cls:=.type "list",data:=.seq #[] }).push { cls:=.type "dict",data:=.dict #[] }) sc.names).get? b=some o:=λb o e =>
  Qc _ _ b o (HE _ (HE _ e))
 have ok:=cellsFrom_ok sc.names ((s.heap.push { cls:=.type "list",data:=.seq #[] }).push { cls:=.type "dict",data:=.dict #[] }) (s.heap.objs.size+2) [] ⟨λ_ _ O=>(nomatch O),List.Pairwise.nil⟩ (by rw[IG,l];exact HK _)
 rw[IG,l] at ok
 have a:∀ x c,sc.names.lookup x=some .free->c=(X.env.cells.lookup x).getD 0->X.env.cells.lookup x=some c:=λx c h1 h2=>by
  obtain⟨d,hd⟩:=I.ok.has x (S.free (x,.free) (mem_of_lookup h1) rfl)
  rw[hd] at h2 ⊢
  rw[h2];rfl
 have g:∀ x c,X.env.cells.lookup x=some c->c<s.heap.objs.size:=λx c e=>by
  obtain⟨v,q⟩:=I.cell x c e
  exact q.lt
 refine⟨⟨I.ok.mod,S.kind,I.ok.glob,I.ok.blt,IQ _,λx y c h1 h2=>?_,λx hx=>?_,λx c hx h=>?_,I.ok.hd,I.ok.frames,.inl rfl,λb n=>⟨?_,λx c h=>?_⟩,I.bs,HQ I.ok.bsz I.sz,λb o e n=>?_,λb n=>?_,I.stack,I.stkFree,λT q h=>I.base.tbls T q (I.ok.tab T q h)⟩,
  rfl,I.bare,Un.kept keep,⟨λ_=>none,?_,λi x v e1 e2 e3=>?_⟩,λx c h=>?_,I.hok.fresh (IQ _),λx c h=>?_,λp P=>absurd (show p∈([]:List (Addr×Obj)) from P) (by simp),I.hok.kept keep,?_⟩
 ·rcases iR S h1 with⟨a1,f,q1⟩|⟨a1,f⟩ <;> rcases iR S h2 with⟨a2,A,Q⟩|⟨a2,A⟩
  ·exact name_of_addr ok.apart q1 Q
  ·exact absurd (g y c (a y c a2 A)) (Nat.not_lt.mpr (HQ (IJ _ 2) f))
  ·exact absurd (g x c (a x c a1 f)) (Nat.not_lt.mpr (HQ (IJ _ 2) A))
  ·exact I.ok.inj x y c (a x c a1 f) (a y c a2 A)
 ·cases q:sc.names.lookup x with
  | none =>
   have z:=vb (C:=s.heap.objs.size+1) (env:=X.env) q
   rcases hx with hx|hx
   ·exact absurd (hx.symm.trans z) (by simp)
   ·exact absurd (hx.symm.trans z) (by simp)
  | some k =>
   have z:=eh (C:=s.heap.objs.size+1) (env:=X.env) q
   cases k with
   | free=>exact⟨_,fu S q⟩
   | cell=>exact rS q
   | _ =>
    rcases hx with hx|hx
    ·have:=hx.symm.trans z
     simp at this
    ·have:=hx.symm.trans z
     simp at this
 ·have D:sc.names.lookup x=some .cell:=of_decide_eq_true hx
  rcases iR S h with⟨_,f,_⟩|⟨a1,_⟩
  ·exact HQ (by omega:s.heap.objs.size<=s.heap.objs.size+1+1) f
  ·rw[D] at a1;cases a1
 ·exact HZ (IW (w b n))
 ·obtain⟨L,E,F,r,G,M⟩:=B b n
  rcases iR S h with⟨_,f,_⟩|⟨a1,f⟩
  ·exact Iz (HV (w b n) (HQ (IJ _ 2) f))
  ·exact G x c (a x c a1 f)
 ·obtain⟨L,E,F,r,G,M⟩:=B b n
  rcases r with r|r
  ·exact I.ok.noex b o e r
  ·exact absurd (HV (HL e) (HQ I.ok.bsz r)) (IU _)
 ·obtain⟨L,E,F,r,G,M⟩:=B b n
  intro z
  rcases HP.mp (I.stkSub b z) with z|z
  ·exact E z
  ·exact F z
 ·have q:=(Heap.Ns.new (s.heap.push { cls:=.type "list",data:=.seq #[] }) (.type "dict")).keeps (Qc sc.names _)
  rw[l] at q
  exact q
 ·have hi:i<ix.length:=by
   have z:=(HI.mp e2).1
   simpa[dG] using z
  have J:(dG σ ix)[i]? = (ix[i]?).map λo=>o.bind λj=>(σ[j]?).join:=Ic ..
  rw[J,Hz hi] at e2
  have e2:(ix[i]).bind (λj=>(σ[j]?).join)=some v:=Option.some.inj e2
  cases q:ix[i] with
  | none=>rw[q] at e2;cases e2
  | some j =>
   rw[q] at e2
   have e2:(σ[j]?).join=some v:=e2
   have e2:σ[j]? = some (some v):=by
    cases z:σ[j]? with
    | none=>rw[z] at e2;cases e2
    | some w'=>rw[z] at e2;have e2:w'=some v:=e2;rw[e2]
   obtain⟨y,c1,c2,c3⟩:=S.cap i j (by rw[Hz hi,q])
   have K:x=y:=Option.some.inj (e1.symm.trans c1)
   subst K
   have kd:=S.free (x,.free) (mem_of_lookup c3) rfl
   obtain⟨m,hn,R⟩:=I.loc
   obtain⟨u,U,V⟩:=R j x v c2 e2 (by rcases kd with k|k;exact .inr (.inl k);exact .inr (.inr k))
   refine⟨u,U,.inr ⟨?_,?_⟩⟩
   ·rw[show(bCx X N' sc s H (s.heap.objs.size+1) fp).env.kindOf x=_ from eh (C:=s.heap.objs.size+1) (env:=X.env) c3]
    split
    ·exact .inl rfl
    ·exact .inr rfl
   ·rcases V with⟨k,_⟩|⟨_,c,hc,t⟩
    ·rcases kd with k'|k' <;> rw[k] at k' <;> cases k'
    ·refine⟨c,?_,t.keeps keep⟩
     have:=fu S (C:=s.heap.objs.size+1) c3
     rw[hc] at this
     exact this
 ·rcases iR S h with⟨_,f,q⟩|⟨a1,f⟩
  ·exact⟨none,(ok.empty x c q).1⟩
  ·obtain⟨v,q⟩:=I.cell x c (a x c a1 f)
   exact⟨v,q.keeps keep⟩
 ·rcases iR S h with⟨_,f,q⟩|⟨a1,f⟩
  ·exact I.hok.fresh (HQ (IJ _ 2) f)
  ·exact I.freeC x c (a x c a1 f)
 ·show(dG σ ix).length=N'.length
  simp[dG,S.len]
theorem iO {pins pins':List (Addr×Obj)}{σ d:St}{H H':Hp}{s s':Shared}{fp:List Addr}{C:Addr} (S:bS X.N X.env N' ix sc) (I:Inv X pins σ H s) (l:∀ b∈fp,eU X pins H b)
  (a:Inv (bCx X N' sc s H C fp) pins' d H' s'):Inv (bCx X N' sc s H C fp) pins' (dG σ ix) H' s':=by
 refine⟨a.ok,a.os,a.bare,a.base,?_,a.cell,a.free,a.freeC,a.pin,a.hok,by show(dG σ ix).length=N'.length;simp[dG,S.len]⟩
 obtain⟨n,f,_⟩:=a.loc
 refine⟨n,f,λi x v e1 e2 e3=>?_⟩
 have hi:i<ix.length:=by
  have z:=(HI.mp e2).1
  simpa[dG] using z
 have g:(dG σ ix)[i]? = (ix[i]?).map λo=>o.bind λj=>(σ[j]?).join:=Ic ..
 rw[g,Hz hi] at e2
 have e2:(ix[i]).bind (λj=>(σ[j]?).join)=some v:=Option.some.inj e2
 cases q:ix[i] with
 | none=>rw[q] at e2;cases e2
 | some j =>
  rw[q] at e2
  have e2:(σ[j]?).join=some v:=e2
  have e2:σ[j]? = some (some v):=by
   cases z:σ[j]? with
   | none=>rw[z] at e2;cases e2
   | some w'=>rw[z] at e2;have e2:w'=some v:=e2;rw[e2]
  obtain⟨y,c1,c2,c3⟩:=S.cap i j (by rw[Hz hi,q])
  have h:x=y:=Option.some.inj (e1.symm.trans c1)
  subst h
  have kd:=S.free (x,.free) (mem_of_lookup c3) rfl
  obtain⟨m,hn,p⟩:=I.loc
  obtain⟨u,r,t⟩:=p j x v c2 e2 (by rcases kd with k|k;exact .inr (.inl k);exact .inr (.inr k))
  refine⟨u,r,.inr ⟨?_,?_⟩⟩
  ·rw[show(bCx X N' sc s H C fp).env.kindOf x=_ from eh (C:=C) (env:=X.env) c3]
   split
   ·exact .inl rfl
   ·exact .inr rfl
  ·rcases t with⟨k,_⟩|⟨_,c,hc,o,ho,hd⟩
   ·rcases kd with k'|k' <;> rw[k] at k' <;> cases k'
   ·refine⟨c,?_,?_⟩
    ·have:=fu S (C:=C) c3
     rw[hc] at this
     exact this
    ·obtain⟨sl,e⟩:=a.base.any ho (I.freeC x c hc) λz=>(l c z).2.2.2.2.1 x c hc rfl
     exact⟨_,e,hd⟩
noncomputable def PIf (X:Cx) (ifs:List Expr) (t:TT):Prop :=
 ∀ (pins:List (Addr×Obj)) (s:Shared) (σ:St) (H:Hp) (Q:Bool->Hp->Prop),Inv X pins σ H s->t σ H Q ->
  qb (q3 X.prog X.w) X.A (forIn ifs true λc r=>if r=true then do let ok <-Qk c X.env (eval c X.env);pure (ForInStep.yield ok) else pure (ForInStep.yield r)) (TP X pins σ Q) X.xe s
noncomputable def GR:TT:=λ_ H Q=>Q true H
theorem Ah {X:Cx}:PIf X [] GR:=λ_ _ _ H _ I h=>wpAny_tests_nil ⟨H,I,h⟩
theorem Ag {X:Cx}{c:Expr}{t:TT} (h:PT X c t):PIf X [c] t:=λpins s σ H Q I hw=>wpAny_tests_one (h pins s σ H Q I hw)
theorem mi {prog:zb}{w:zf}{A:Around}{R:Result->Shared->Prop}{s:Shared}{elt a iter:Expr}{ifs:List Expr}{scope:Kc}{pos:Pos}{it k:Value}{env:Env} (I:Nat->Shared->Prop)
  (o : ∀ n s,I n s->qb (q3 prog w) A (KO it) (λr b=>match r with
   | none=>R (.ok .next) b
   | some v=>qb (q3 prog w) A (Qd a it v) (λ_ d=>qb (q3 prog w) A (Kv a env v) (λ_ f =>
     qb (q3 prog w) A (forIn ifs true λc r=>if r=true then do let ok <-Qk c env (eval c env);pure (ForInStep.yield ok) else pure (ForInStep.yield r)) (λok e =>
      if ok=true then qb (q3 prog w) A (eval elt env) (λx g =>
       qb (q3 prog w) A (call (.builtin "list.append") [k,x]) (λ_ i=>∃ m,m<n/\I m i) (λ_ _=>False) g) (λ_ _=>False) e
      else ∃ m,m<n/\I m e) (λ_ _=>False) f) (λ_ _=>False) d) (λ_ _=>False) b) (λ_ _=>False) s)
  (n : Nat) (h:I n s):Kx (q3 prog w) A (.compLoop (.ListComp elt [⟨a,iter,ifs,0⟩] scope pos) 0 it k env) R s:=by
 refine codeAny_loop rfl I (λn s u=>?_) n h
 show qb _ A ((compTurn (.ListComp elt [⟨a,iter,ifs,0⟩] scope pos) 0 it k env).onRaise (λx=>do noteFrame x env;theTreesLotGoes x)) _ _ s
 refine wpAny_noted ?_
 rw[compTurn_list]
 refine jj (KZ (jj (zg (o n s u) (λr b h₁=>?_) λ_ _ h'=>h'.elim)))
 cases r with
 | none=>exact ke h₁
 | some v =>
  refine jj (zg h₁ (λ_ d l=>jj (zg l (λ_ f p=>jj (zg p (λok e j=>?_) λ_ _ h'=>h'.elim)) λ_ _ h'=>h'.elim)) λ_ _ h'=>h'.elim)
  cases ok with
  | false=>exact ke ⟨rfl,j⟩
  | true =>
   exact jj (jj (zg j (λx g q=>jj (zg q (λ_ i t=>ke (ke ⟨rfl,t⟩)) λ_ _ h'=>h'.elim)) λ_ _ h'=>h'.elim))
noncomputable def xP (J:It) (σ0:St) (g:TG) (tt:TT) (te:TE) (H1:Hp) (f:List V->Hp->Prop):Prop :=
 ∃ W : Nat->Nat->List V->Hp->Prop,(∃ m,W 0 m [] H1)/\∀ i m ys H,W i m ys H ->
  (J.stop i H/\f ys H) \/
  (J.go i H/\ys.length<sizeLine/\∃ N:List V->Hp->Prop,(∀ a H',N a H'->∃ d,d<m/\W (i+1) d a H') /\
   ∀ x H',J.yld i H x H'->g x σ0 H' λc H2=>tt c H2 λb e=>if b=true then te c e λy h=>N (ys++[y]) h else N ys e)
theorem qu {tg iter elt:Expr}{ifs:List Expr}{pos:Pos}{g:TG}{tt:TT}{te:TE}{pins:List (Addr×Obj)}{σ:St}{H:Hp}{s:Shared}{it:Addr}{fp:List Addr}{tn:Nat->Heap->Prop}{J:It}{Qe:List V->Hp->Prop}
  {RR:Value->Addr->Result->Shared->Prop}{E:Value->Shared->Prop}
  (hc:X.calm=true) (S:bS X.N X.env N' ix sc) (hg:∀ s H C fp,PG (bCx X N' sc s H C fp) tg g) (ht:∀ s H C fp,PIf (bCx X N' sc s H C fp) ifs tt) (he:∀ s H C fp,PE (bCx X N' sc s H C fp) elt te)
  (I : Inv X pins σ H s) (T:zi X.prog X.w X.K tg J fp it tn) (st:tn 0 s.heap) (Z:∀ b∈fp,eU X pins H b) (hw:xP J (dG σ ix) g tt te H Qe)
  (fin:∀ s' H' ys m,s'.heap.Ns (s.heap.objs.size+1) m->H' s.heap.objs.size=none->H' (s.heap.objs.size+1)=none->Qe ys H'->Inv X pins σ (upd H' s.heap.objs.size (.lst ys)) s'->RR (.ref s.heap.objs.size) (s.heap.objs.size+1) (.ok .next) s') :
  qb (q3 X.prog X.w) X.A (newList []) (λa0 a4=>qb (q3 X.prog X.w) X.A (QI sc X.env.globals (cm X.env sc.names []) [] X.env.qual none .none (some X.env)) (λG a5 =>
   Kx (q3 X.prog X.w) X.A (.compStart (.ListComp elt [⟨tg,iter,ifs,0⟩] sc pos) 0 (.ref it) a0 { G with scope:=relabel sc X.env }) (RR a0 G.locals) a5) E a4) E s:=by
 have a6:∀ b∈fp,b<s.heap.objs.size:=λb f=>by
  obtain⟨o,e,_⟩:=T.obj _ _ st b f
  exact HL e
 refine KQ (nF ?_)
 have c5:(s.heap.push { cls:=.type "list",dict:=none,data:=.seq ([]:List Value).toArray }).objs.size=s.heap.objs.size+1:=IG ..
 have I0:=nW S I Z a6
 obtain⟨W,⟨m0,w0⟩,a7⟩:=hw
 have nD:∀ b∈fp,s.heap.objs.size≠b:=λb f=>Iz (a6 b f)
 have F:H s.heap.objs.size=none:=I.hok.fresh (HK _)
 have M:∀ x c,(rZ sc (s.heap.objs.size+1) X.env).cells.lookup x=some c->c≠s.heap.objs.size:=λx c h=>by
  rcases iR S h with⟨_,b1,_⟩|⟨a1,b1⟩
  ·exact Iz (HV (IW (Jo _)) b1)
  ·obtain⟨d,hd⟩:=I.ok.has x (S.free (x,.free) (mem_of_lookup a1) rfl)
   rw[hd] at b1
   obtain⟨v,q⟩:=I.cell x d hd
   have e:c=d:=b1
   rw[e]
   exact HZ q.lt
 have b0:s.heap.objs.size ∉ frs X.stack:=λz=>by
  rcases HP.mp (I.stkSub _ z) with z|z
  ·exact absurd I.lt (by rw[<-z];exact IU _)
  ·exact I.nofs (HK _) z
 have b2:∀ {pins':List (Addr×Obj)}{H':Hp},(∀ b∈fp,H' b=none)->(∀ p∈pins',∀ b∈fp,p.1≠b)->∀ b∈fp,eU (bCx X N' sc s H (s.heap.objs.size+1) fp) pins' H' b:=λ{pins' H'} h1 h2 b f =>
  ⟨h1 b f,(I0.ok.exf b f).1,I0.ok.exfs b f,.inl f,(I0.ok.exf b f).2,λp t=>h2 p (by simpa[bCx] using t) b f⟩
 have O:(K6 ((s.heap.push { cls:=.type "list",data:=.seq #[] }).push { cls:=.type "dict",data:=.dict #[] }) sc.names).get? s.heap.objs.size=some { cls:=.type "list",data:=.seq #[] } :=
  Qc _ _ _ _ (HE _ (HR _ rfl))
 have c6:Inv (bCx X N' sc s H (s.heap.objs.size+1) fp) [(s.heap.objs.size,{ cls:=.type "list",data:=.seq #[] })] (dG σ ix) H _:=I0.pins_of (pins':=[(s.heap.objs.size,{ cls:=.type "list",data:=.seq #[] })]) λp t=>by
  have e:p=(s.heap.objs.size,{ cls:=.type "list",data:=.seq #[] }):=by simpa using t
  subst e
  exact⟨O,F,HZ (Jo _),b0,λv z=>by cases z⟩
 have b3:tn 0 (K6 ((s.heap.push { cls:=.type "list",data:=.seq #[] }).push { cls:=.type "dict",data:=.dict #[] }) sc.names):=T.keep _ _ _ st λb f o e=>Qc _ _ _ _ (HE _ (HE _ e))
 have loop:∀ U:Shared,U={ s with heap:=K6 ((s.heap.push { cls:=.type "list",data:=.seq #[] }).push { cls:=.type "dict",data:=.dict #[] }) sc.names } ->
   Kx (q3 X.prog X.w) X.A (.compLoop (.ListComp elt [⟨tg,iter,ifs,0⟩] sc pos) 0 (.ref it) (.ref s.heap.objs.size) (rZ sc (s.heap.objs.size+1) X.env)) (RR (.ref s.heap.objs.size) (s.heap.objs.size+1)) U:=by
  rintro U rfl
  refine mi (λn s'=>∃ (i:Nat) (ys:List V) (a:List Value) (k:Nat) (H':Hp),Inv (bCx X N' sc s H (s.heap.objs.size+1) fp) [(s.heap.objs.size,{ cls:=.type "list",data:=.seq a.toArray k })] (dG σ ix) H' s' /\
   tn i s'.heap/\(∀ b∈fp,H' b=none)/\aX ys a/\ys.length<=sizeLine/\W i n ys H') ?_ m0 ⟨0,[],[],0,H,c6,b3,λb f=>(Z b f).1,.nil,Ig _,w0⟩
  rintro n s3 ⟨i,ys,a,k,H3,I3,b4,d0,rv,hz,w3⟩
  have b5:=b2 (pins':=[(s.heap.objs.size,{ cls:=.type "list",data:=.seq a.toArray k })]) d0 (λp t b f=>by
   have e:p=(s.heap.objs.size,{ cls:=.type "list",data:=.seq a.toArray k }):=by simpa using t
   rw[e];exact nD b f)
  rcases a7 i n ys H3 w3 with⟨stop,qe⟩|⟨go,g3,N,hN,step⟩
  ·refine thn (T.done (bCx X N' sc s H (s.heap.objs.size+1) fp) rfl rfl rfl hc i _ s3 _ H3 (λ_ _=>False) I3 b5 b4 stop) λr U d3=>?_
   obtain⟨hr,B⟩:=d3
   subst hr
   obtain⟨pg,pn,_⟩:=B.pin (s.heap.objs.size,{ cls:=.type "list",data:=.seq a.toArray k }) (HA _ HH)
   obtain⟨m,hm,_⟩:=B.loc
   refine fin U H3 ys m hm pn B.free qe ?_
   refine I.call' (ch:=fp) B.os ⟨B.base.keep,B.base.slot,λb o e n hx=>?_,B.base.there,λb xs q=>?_,λb o u q=>?_,λb ps q=>?_⟩ (λb o e=>?_) B.bare λb f=>?_
   ·rw[al (HZ (HL e))]
    exact B.base.free b o e n hx
   ·have L:=B.base.tups b xs q
    rw[al (ay L pn)]
    exact L
   ·have L:=B.base.frzs b o u q
    rw[al (ay L pn)]
    exact L
   ·have L:=B.base.tbls b ps q
    rw[al (ay L pn)]
    exact L
   ·by_cases f:b=s.heap.objs.size
    ·subst f
     rw[aB] at e
     cases e
     exact⟨hz,a,k,rv,pg⟩
    ·rw[al f] at e
     exact(B.hok b o e).stay (λc v _ q=>q) (λc q=>by rw[al (ay q pn)];exact q) λc xs _ q=>by rw[al (ay q pn)];exact q
   ·obtain⟨f0,f1,f2,f3,f4,f5⟩:=Z b f
    exact⟨f3,f1,f4,f5⟩
  ·refine thn (T.item (bCx X N' sc s H (s.heap.objs.size+1) fp) rfl rfl rfl hc i _ s3 _ H3 (λ_ _=>False) I3 b5 b4 go) λr U d4=>?_
   obtain⟨u,hr,h4⟩:=d4
   subst hr
   refine thn h4 λ_ s5 e0=>?_
   obtain⟨x,H5,I5,r5,y5,P,e4⟩:=e0
   have e5:=b2 (pins':=[(s.heap.objs.size,{ cls:=.type "list",data:=.seq a.toArray k })]) e4 (λp t b f=>by
    have e:p=(s.heap.objs.size,{ cls:=.type "list",data:=.seq a.toArray k }):=by simpa using t
    rw[e];exact nD b f)
   have e6:=I5.pinned e5 (T.obj _ _ P)
   refine thn (hg s H _ fp _ s5 _ H5 x u _ e6 r5 (step x H5 y5)) λ_ s6 e7=>?_
   obtain⟨D,H6,I6,q6⟩:=e7
   have j:∀ {b6:St}{Y:Hp}{s7:Shared},Inv (bCx X N' sc s H (s.heap.objs.size+1) fp) ([(s.heap.objs.size,{ cls:=.type "list",data:=.seq a.toArray k })]++gu fp s5.heap) b6 Y s7 ->
     tn (i+1) s7.heap/\(∀ b∈fp,Y b=none):=λ{b6 Y s7} Q=>by
    refine⟨T.keep _ _ _ P λb f o e=>(Q.pin (b,o) (HA _ (HA _ (eK f e)))).1,λb f=>?_⟩
    obtain⟨o,e,d⟩:=T.obj _ _ P b f
    exact(Q.pin (b,o) (HA _ (HA _ (eK f e)))).2.1
   refine thn (ht s H _ fp _ s6 D H6 _ I6 q6) λok s7 e8=>?_
   obtain⟨Y,Q,q7⟩:=e8
   cases ok with
   | false =>
    rw[if_neg H9] at q7 ⊢
    obtain⟨m',R,w7⟩:=hN _ _ q7
    exact⟨m',R,i+1,ys,a,k,Y,iO S I Z Q.unpinned,(j Q).1,(j Q).2,rv,hz,w7⟩
   | true =>
    rw[if_pos rfl] at q7 ⊢
    refine thn (he s H _ fp _ s7 D Y _ Q q7) λxv s8 e9=>?_
    obtain⟨y,H8,I8,r8,q8⟩:=e9
    obtain⟨m',R,w8⟩:=hN _ _ q8
    obtain⟨pg,pn,_⟩:=I8.pin (s.heap.objs.size,{ cls:=.type "list",data:=.seq a.toArray k }) (HA _ (HG _ HH))
    refine wpAny_list_append_plain (l:=s.heap.objs.size) (items:=a.toArray) ⟨k,pg⟩ (λh9 f6 c4=>?_) (by have:=rv.length;simp;omega)
    obtain⟨k9,g9⟩:=f6
    have g0:Inv (bCx X N' sc s H (s.heap.objs.size+1) fp) (gu fp s5.heap) D H8 s8:=I8.pins_of λp t=>I8.pin p (HA _ (HA _ t))
    have I9:Inv (bCx X N' sc s H (s.heap.objs.size+1) fp) (gu fp s5.heap) D H8 { s8 with heap:=h9 }:=g0.turned (t':=s8.toks) (it:=s.heap.objs.size) (λb o f e=>c4.extBut b o f e) pn (HZ (Jo _)) (.inr (HK _)) M
     λp t=>by
      have g1:p∈gu fp s5.heap:=by simpa[bCx] using t
      exact(nD _ (lB g1).1).symm
    have g2:Inv (bCx X N' sc s H (s.heap.objs.size+1) fp) [(s.heap.objs.size,{ cls:=.type "list",data:=.seq (a++[xv]).toArray k9 })] D H8 { s8 with heap:=h9 }:=I9.pins_of λp t=>by
     have e:p=(s.heap.objs.size,{ cls:=.type "list",data:=.seq (a++[xv]).toArray k9 }):=by simpa using t
     subst e
     refine⟨?_,pn,HZ (Jo _),b0,λv z=>by cases z⟩
     simpa using g9
    refine⟨m',R,i+1,ys++[y],a++[xv],k9,H8,iO S I Z g2,?_,(j I8).2,rv.append (.cons r8 .nil),by simp;omega,w8⟩
    exact T.keep _ _ _ (j I8).1 λb f o e=>c4.extBut b o (nD b f).symm e
 have key:=codeAny_compStart_list (iter:=iter) (loop _ rfl) (T.self X.A 0 { s with heap:=K6 ((s.heap.push { cls:=.type "list",data:=.seq #[] }).push { cls:=.type "dict",data:=.dict #[] }) sc.names } _ _ b3 (loop _ rfl))
 simpa only[newEnv,c5,rZ,compEnvC] using key
noncomputable def sy (a:TI) (ix:List (Option Nat)) (g:TG) (tt:TT) (te:TE):TE:=λσ H Q=>a σ H λJ H1=>xP J (dG σ ix) g tt te H1 λys H2=>∀ p,H2 p=none->Q (.ref p) (upd H2 p (.lst ys))
theorem bS.clos {pins:List (Addr×Obj)}{σ:St}{H:Hp}{s:Shared} (S:bS X.N X.env N' ix sc) (I:Inv X pins σ H s):Ki sc X.env=pure (cm X.env sc.names []) :=
 kt λy a e=>by
  obtain⟨c,hc⟩:=I.ok.has y.1 (S.free y a e)
  rw[hc];rfl
theorem tM {tg iter elt:Expr}{ifs:List Expr}{pos:Pos}{i:TI}{g:TG}{tt:TT}{te:TE} (hc:X.calm=true) (S:bS X.N X.env N' ix sc) (hi:PI X tg iter i)
  (l:∀ s H C fp,PG (bCx X N' sc s H C fp) tg g) (n:∀ s H C fp,PIf (bCx X N' sc s H C fp) ifs tt) (p:∀ s H C fp,PE (bCx X N' sc s H C fp) elt te)
  (r:∀ x,J9 iter X.env x=pure x:=by intro _;rfl):PE X (.ListComp elt [⟨tg,iter,ifs,0⟩] sc pos) (sy i ix g tt te):=by
 intro pins s σ H Q I h
 rw[eval_ListComp]
 refine QO (use:=none) rfl r (S.clos I) S.kind S.names (thn (hi pins s σ H _ I h) λv s1 h1=>thn h1 λt s2 a=>?_)
 obtain⟨it,fp,tn,J,H2,e,j,T,c,k,hw⟩:=a
 subst e
 refine qu (RR:=λd C=>compPost (q3 X.prog X.w) X.A X.xe none (EP X pins σ Q) d C) hc S l n p j T c k hw λs' H' ys m hn u y q z=>?_
 refine⟨m,hn,λh' f=>?_⟩
 have B:(upd H' s2.heap.objs.size (.lst ys)) (s2.heap.objs.size+1)=none:=by
  rw[al (Iz (Jo _))];exact y
 obtain⟨D,E,k,F,G,K⟩:=j.fpOk (H':=upd H' s2.heap.objs.size (.lst ys)) (b:=s2.heap.objs.size+1) (IQ _) B
 exact⟨.ref s2.heap.objs.size,_,z.turned (t':=s'.toks) (it:=s2.heap.objs.size+1) (λb o L e=>f.extBut b o L e) D E F G K,rfl,q _ u⟩
theorem jp {i:Nat}{y:Str}{tg iter elt:Expr}{ifs:List Expr}{pos c d:Pos}{E:TI}{g:TG}{tt:TT}{te:TE} (O:X.N.Nodup) (f:X.N[i]? = some y) (F:X.env.scope.names.lookup y=some .local)
  (hc:X.calm=true) (S:bS X.N X.env N' ix sc) (hi:PI X tg iter E)
  (P:∀ s H C fp,PG (bCx X N' sc s H C fp) tg g) (R:∀ s H C fp,PIf (bCx X N' sc s H C fp) ifs tt) (U:∀ s H C fp,PE (bCx X N' sc s H C fp) elt te)
  (j:K5 (.ListComp elt [⟨tg,iter,ifs,0⟩] sc pos) (some (.Name y d)) c.line X.env=pure true:=by rfl)
  (V:∀ x,J9 iter X.env x=pure x:=by intro _;rfl):PS X (.Assign [.Name y d] (.ListComp elt [⟨tg,iter,ifs,0⟩] sc pos) c) (Ey (sy E ix g tt te) (wS i)):=by
 intro pins s σ H D I h
 rw[exec_Assign_Name_used _ _ _ _ j]
 refine jj (KZ (jj ?_))
 show qb _ X.A (do let _ <-comprehension (.ListComp elt [⟨tg,iter,ifs,0⟩] sc pos) sc X.env _ (newList []) false (eval iter X.env) (some (Kv (.Name y d) X.env))) _ _ s
 refine jj (zg (QO (use:=some (Kv (.Name y d) X.env)) (Q:=λ_ s'=>SP X pins D .next s') rfl V (S.clos I) S.kind S.names
  (thn (hi pins s σ H _ I h) λv s1 h1=>thn h1 λW s2 ⟨it,fp,tn,J,H2,e,G,T,k,K,hw⟩=>?_)) (λ_ s' Y=>ke (ke Y)) λ_ _ e=>e)
 subst e
 refine qu (RR:=λl C=>compPost (q3 X.prog X.w) X.A X.xe (some (Kv (.Name y d) X.env)) (λ_ s'=>SP X pins D .next s') l C) hc S P R U G T k K hw λs' H' ys m hn Z hC q I'=>?_
 have nn:(upd H' s2.heap.objs.size (.lst ys)) (s2.heap.objs.size+1)=none:=by
  rw[al (Iz (Jo _))];exact hC
 obtain⟨f0,L,K,f3,M,f5⟩:=G.fpOk (H':=upd H' s2.heap.objs.size (.lst ys)) (b:=s2.heap.objs.size+1) (IQ _) nn
 show qb _ X.A (Kv (.Name y d) X.env (.ref s2.heap.objs.size)) _ _ _
 refine wpAny_assign_Name (kT (v:=.ref s2.heap.objs.size) I' O f (.inl F) rfl (λn p r=>?_) (.inr F))
 obtain⟨a,t,u⟩:=r
 have ne:s2.heap.objs.size+1≠a:=by
  rcases u with rfl|u
  ·exact L
  ·exactλz=>M y a u z.symm
 refine⟨m,hn.sameBut t ne,λh' B=>?_⟩
 exact⟨_,_,p.turned (t':=n.toks) (it:=s2.heap.objs.size+1) (λb o hb e=>B.extBut b o hb e) f0 L f3 M f5,q _ Z⟩
end
end _L
namespace _L
open PySem
open Sem (wp)
section
variable {prog:zb}{w:zf}
noncomputable def dr (prog:zb) (w:zf) (h:Heap) (k:Int×List Int) (a:Addr):Prop :=
 ∃ o t b n,h.get? a=some o/\o.cls=.type "tuple" /\ o.data=.seq #[.int k.1 t,.ref b] n/\IsTupleKey (J8 prog w) h k.2 b
theorem cu (i:Int) (t:Tok):(J8 prog w).is i (.int i t)=true:=by simp[J8,Value.isInt]
theorem dr.typeIs {s:Shared}{k:Int×List Int}{a:Addr} (x:dr prog w s.heap k a):s.TypeIs (.ref a) "tuple" := let ⟨o,_,_,_,ho,hc,_⟩:=x;⟨o,ho,hc⟩
theorem dr.inj {h:Heap}{a:Addr}{x y:Int×List Int} (hx:dr prog w h x a) (f:dr prog w h y a):x=y:=by
 obtain⟨x1,g⟩:=x
 obtain⟨y1,y2⟩:=y
 obtain⟨o,t,b,n,ho,_,hd,hi⟩:=hx
 obtain⟨o',t',i,j,d,_,c,e⟩:=f
 obtain rfl:o=o':=Option.some.inj (ho.symm.trans d)
 rw[hd] at c
 injection c with h1 _
 simp only[Array.mk.injEq,List.cons.injEq,Value.int.injEq,Value.ref.injEq,and_true] at h1
 obtain⟨⟨e1,_⟩,e2⟩:=h1
 subst e2
 have e3:g=y2:=hi.inj e
 rw[e1,e3]
theorem dr.keeps {h h':Heap}{k:Int×List Int}{a d:Addr}{o:Obj}{es ep} (x:dr prog w h k a) (ho:h.get? d=some o) (hd:o.data=.dict es ep) (g:Heap.SameBut d h h') :
  dr prog w h' k a:=by
 obtain⟨o',t,b,n,e,hc,c,hi⟩:=x
 have f:a≠d:=by
  rintro rfl
  obtain rfl:o'=o:=Option.some.inj (e.symm.trans ho)
  rw[hd] at c;exact nomatch c
 exact⟨o',t,b,n,(g.2 a f).trans e,hc,c,hi.keeps ho hd g⟩
noncomputable def mN (prog:zb) (w:zf) (k:Int×List Int):Int:=QH (Builtin.Tuple.tupleHashOf [Qt k.1,QW (J8 prog w) k.2])
variable {A:Around}{E:Value->Shared->Prop}{s:Shared}
theorem qL {k:Int×List Int}{a:Addr}{Q:Int->Shared->Prop} (l:A.units+1<Kg) (hk:dr prog w s.heap k a) (h:Q (mN prog w k) { s with toks:=s.toks+(k.2.length+3) }) :
  qb (q3 prog w) A (pyHash (.ref a)) Q E s:=by
 have i:=hk.typeIs
 obtain⟨g,f⟩:=k
 obtain⟨o,t,j,n,ho,_,hd,hi⟩:=hk
 unfold pyHash
 first|unfold pyHashByItsType|skip
 first|refine jj (wpAny_cRoomFor_or (.inr (by omega)) ?_)|skip
 refine jj (Ke i F.slot_tuple_hash.lookup ?_)
 show qb _ _ (if (some (Value.builtin "tuple.__hash__")==some Value.none)=true then _ else _) Q E s
 rw[if_neg (by rw[beq_builtin_none];exact H9)]
 refine jj (Ke i F.slot_tuple_hash.lookup ?_)
 show qb _ _ (callSpecialIfBoundUnlessNone? (.ref a) "__hash__" _ >>= _) Q E s
 refine jj (wpAny_callSpecialIfBoundUnlessNone?_slot i F.slot_tuple_hash (J3 F.slot_tuple_hash i F.entry_tuple_hash ?_ (F.args_tuple_hash_1 _)))
 show qb _ _ (Builtin.Tuple.tupleItemsOf (.ref a) >>= _) _ _ s
 refine jj (Qr ho hd ?_)
 refine jj ?_
 rw[<-Array.forIn_toList]
 refine K4 _
  (λrest (b:Array Int) s'=>(rest=[.int g t,.ref j]/\b.toList=[]/\s'=s)\/(rest=[.ref j]/\b.toList=[Qt g]/\s'={ s with toks:=s.toks+1 })\/(rest=[]/\b.toList=[Qt g,QW (J8 prog w) f]/\s'={ s with toks:=s.toks+1+(f.length+1) }))
  _ ?_ ?_ _ _ (.inl ⟨rfl,rfl,rfl⟩)
 ·rintro x rest b s' (⟨c,d,rfl⟩|⟨c,d,rfl⟩|⟨c,d,rfl⟩)
  ·injection c with e1 e2
   subst e1 e2
   refine jj ((J8 prog w).pyHash (cu g t) ?_)
   first
    | exact ke (.inr (.inl ⟨rfl,by simp[d,J8],rfl⟩))
    | exact jj (ke (ke (.inr (.inl ⟨rfl,by simp[d,J8],rfl⟩))))
  ·injection c with e1 e2
   subst e1 e2
   refine jj (wpAny_pyHash_tuple (knd:=J8 prog w) l hi ?_)
   first
    | exact ke (.inr (.inr ⟨rfl,by simp[d],rfl⟩))
    | exact jj (ke (ke (.inr (.inr ⟨rfl,by simp[d],rfl⟩))))
  ·cases c
 ·rintro b s' (⟨c,d,rfl⟩|⟨c,d,rfl⟩|⟨c,d,rfl⟩)
  ·cases c
  ·cases c
  show qb _ _ (retInt (Builtin.Tuple.tupleHashOf b.toList)) _ _ _
  rw[d]
  refine wpAny_ret_mkInt ?_
  show qb _ _ (if (decide (-(2:Int) ^ 63<=Builtin.Tuple.tupleHashOf _)&&decide (Builtin.Tuple.tupleHashOf _<2 ^ 63))=true then _ else _) Q E _
  unfold mN QH at h
  generalize Builtin.Tuple.tupleHashOf [Qt g,QW (J8 prog w) f]=z at *
  by_cases c:(decide (-(2:Int) ^ 63<=z)&&decide (z<2 ^ 63))=true
  ·rw[if_pos c]
   rw[if_pos c] at h
   refine ke ?_
   have e:s.toks+1+(f.length+1)+1=s.toks+(f.length+3):=by omega
   simpa[e] using h
  ·rw[if_neg c]
   rw[if_neg c] at h
   refine jj (Ko (ke ?_))
   have e:s.toks+1+(f.length+1)+1=s.toks+(f.length+3):=by omega
   simpa[e] using h
theorem mM {x y:Int×List Int}{a b:Addr}{P:Fin->Shared->Prop} (q:A.units<Kg) (hx:dr prog w s.heap x a) (n:dr prog w s.heap y b) (h:P (.done (.ret (.bool (decide (x=y))))) s) :
  qb (q3 prog w) A (Builtin.«tuple.__eq__» ⟨[.ref a,.ref b],[]⟩) P E s:=by
 have d:=n.typeIs
 obtain⟨x1,c⟩:=x
 obtain⟨y1,y2⟩:=y
 obtain⟨t,ta,o,z,e,_,f,g⟩:=hx
 obtain⟨ob,tb,p,B,i,_,j,k⟩:=n
 show qb _ _ (isInstance (.ref b) (.type "tuple") >>= _) _ _ s
 refine jj (Kr d Qg ?_)
 simp only[Jw,Ij,if_false]
 refine jj (Qr e f ?_)
 refine jj (Qr i j ?_)
 refine jj ?_
 refine K4 _
  (λrest r s'=>r.1=none/\s'=s/\(rest=[(.int x1 ta,.int y1 tb),(.ref o,.ref p)]\/(rest=[(.ref o,.ref p)]/\x1=y1)\/(rest=[]/\x1=y1/\c=y2)))
  _ ?_ ?_ _ _ ⟨rfl,rfl,.inl rfl⟩
 ·rintro⟨u,v⟩ rest r s' ⟨l,rfl,(hz|⟨hz,e1⟩|⟨hz,_⟩)⟩
  ·simp only[List.cons.injEq,Prod.mk.injEq] at hz
   obtain⟨⟨rfl,rfl⟩,rfl⟩:=hz
   refine jj ((J8 prog w).eqBool (cu x1 ta) (cu y1 tb) ?_)
   by_cases hk:x1=y1
   ·subst hk
    rw[decide_eq_true rfl]
    simp only[Jw,Ij,if_false]
    exact ke ⟨rfl,rfl,.inr (.inl (by simp))⟩
   ·rw[decide_eq_false hk]
    simp only[Bool.not_false,if_true]
    have m:decide ((x1,c)=(y1,y2))=false:=by simp[hk]
    rw[m] at h
    exact jj (ke (ke (ke h)))
  ·simp only[List.cons.injEq,Prod.mk.injEq] at hz
   obtain⟨⟨rfl,rfl⟩,rfl⟩:=hz
   refine jj (wpAny_eqBool_tuple q g k ?_)
   by_cases hk:c=y2
   ·rw[decide_eq_true hk]
    simp only[Jw,Ij,if_false]
    exact ke ⟨rfl,rfl,.inr (.inr (by simp[e1,hk]))⟩
   ·rw[decide_eq_false hk]
    simp only[Bool.not_false,if_true]
    have m:decide ((x1,c)=(y1,y2))=false:=by simp[hk]
    rw[m] at h
    exact jj (ke (ke (ke h)))
  ·cases hz
 ·rintro⟨r1,C⟩ s' ⟨l,rfl,(hz|⟨hz,e1⟩|⟨hz,e1,e2⟩)⟩
  ·cases hz
  ·cases hz
  simp only at l
  subst l
  refine ke ?_
  rw[decide_eq_true (by rw[e1,e2])] at h
  exact h
theorem qM {x y:Int×List Int}{a b:Addr}{Q:Bool->Shared->Prop} (f:A.units+1<Kg) (hx:dr prog w s.heap x a) (d:dr prog w s.heap y b) (h:Q (decide (x=y)) s) :
  qb (q3 prog w) A (eqBool (.ref a) (.ref b)) Q E s:=by
 unfold eqBool
 try with_reducible refine zh ?_
 show qb _ _ (if (Value.ref a==Value.ref b)=true then _ else _) Q E s
 by_cases c:(Value.ref a==Value.ref b)=true
 ·rw[if_pos c]
  have e:a=b:=by have:=eq_of_beq c;injection this
  subst e
  obtain rfl:=hx.inj d
  exact jj (Ko (ke (by simpa using h)))
 ·rw[if_neg c]
  exact jj (wpAny_richCompare_same_room (op:=.Eq) hx.typeIs d.typeIs F.slot_tuple_eq
   (J3 F.slot_tuple_eq hx.typeIs F.entry_tuple_eq (mM f hx d ⟨_,rfl,(λe=>nomatch e),J5 h⟩) (F.args_tuple_eq_2 _ _)) (by omega))
theorem sY {n:Nat}{ks:List Int}{a:Addr}{Q:Bool->Shared->Prop} (hk:IsTupleKey (J8 prog w) s.heap ks a) (h:Q true s):qb (q3 prog w) A (QS (n+1) (.ref a)) Q E s:=by
 have e:=hk.typeIs
 obtain⟨o,items,m,ho,_,hd,hi⟩:=hk
 unfold QS
 refine jj (Ke e F.slot_tuple_eq.lookup ?_)
 show qb _ _ (isInstance (.ref a) (.type "tuple") >>= _) _ _ s
 refine jj (Kr e Qg ?_)
 simp only[Jw,Ij,if_false]
 refine jj (J1 ho hd ?_)
 refine jj ?_
 show qb _ _ (forIn items _ _) _ _ s
 rw[<-Array.forIn_toList]
 refine K4 _ (λrest r s'=>r.1=none/\s'=s/\∀ v∈rest,carriedByValue v=true) _ ?_ ?_ _ _ ⟨rfl,rfl,hi.byValue⟩
 ·rintro v rest r s' ⟨c,rfl,b⟩
  rw[eqIsQuiet_byValue _ (b v HH)]
  refine jj (ke ?_)
  simp only[Jw,Ij,if_false]
  exact ke ⟨rfl,rfl,λu d=>b u (HJ _ d)⟩
 ·rintro⟨r1,f⟩ s' ⟨c,rfl,_⟩
  simp only at c
  subst c
  exact ke h
theorem sB {k:Int×List Int}{a:Addr}{Q:Bool->Shared->Prop} (hk:dr prog w s.heap k a) (h:Q true s):qb (q3 prog w) A (QS 8 (.ref a)) Q E s:=by
 have g:=hk.typeIs
 obtain⟨o,t,b,n,ho,_,hd,hi⟩:=hk
 unfold QS
 refine jj (Ke g F.slot_tuple_eq.lookup ?_)
 show qb _ _ (isInstance (.ref a) (.type "tuple") >>= _) _ _ s
 refine jj (Kr g Qg ?_)
 simp only[Jw,Ij,if_false]
 refine jj (J1 ho hd ?_)
 refine jj ?_
 show qb _ _ (forIn _ _ _) _ _ s
 rw[<-Array.forIn_toList]
 refine K4 _ (λrest r s'=>r.1=none/\s'=s/\∀ v∈rest,carriedByValue v=true\/v=.ref b) _ ?_ ?_ _ _ ⟨rfl,rfl,λv e=>?_⟩
 ·rintro v rest r s' ⟨f,rfl,c⟩
  rcases c v HH with e|rfl
  ·rw[eqIsQuiet_byValue _ e]
   refine jj (ke ?_)
   simp only[Jw,Ij,if_false]
   exact ke ⟨rfl,rfl,λu d=>c u (HJ _ d)⟩
  ·refine jj (sY hi ?_)
   simp only[Jw,Ij,if_false]
   exact ke ⟨rfl,rfl,λu d=>c u (HJ _ d)⟩
 ·rintro⟨r1,i⟩ s' ⟨f,rfl,_⟩
  simp only at f
  subst f
  exact ke h
 ·simp at e
  rcases e with rfl|rfl
  ·exact .inl rfl
  ·exact .inr rfl
end
noncomputable def bU (prog:zb) (w:zf):HeapKind prog w (Int×List Int) where
 is := dr prog w
 hash:=mN prog w
 draws:=λk=>k.2.length+3
 room:=λA=>A.units+1<Kg
 inj:=λhx a=>hx.inj a
 keeps:=λx ho hd c=>x.keeps ho hd c
 pyHash:=λb hk h=>qL b hk h
 eqBool:=λb hx a h=>qM b hx a h
 quiet:=λhk h=>sB hk h
noncomputable abbrev bh:=Int×List Int
noncomputable def vI (k:bh):Int:=QH (Builtin.Tuple.tupleHashOf [Qt k.1,QH (Builtin.Tuple.tupleHashOf (k.2.map Qt))])
noncomputable def pY (x:bh×Addr×Value):Qz:=⟨vI x.1,.ref x.2.1,x.2.2⟩
theorem jE {prog:zb}{w:zf}{A:Around} (a:A.units+2<Kg):(bU prog w).room A.in1:=a
end _L
namespace _L
open PySem
section
variable {prog:zb}{w:zf}{A:Around}{E:Value->Shared->Prop}{s:Shared}{d a:Addr}{xs:List (bh×Addr×Value)}{k:bh}{v:Value}
noncomputable def oz (prog:zb) (w:zf) (h:Heap) (d:Addr) (xs:List (bh×Addr×Value)):Prop :=
 ∃ o ds ep,h.get? d=some o/\o.ExactDict/\o.data=.dict ds ep/\ds.toList=xs.map pY/\(∀ x∈xs,dr prog w h x.1 x.2.1)/\(xs.map (·.1)).Nodup/\ep=xs.length
theorem oz.of {h:Heap} (x:oz prog w h d xs):h.DictOfH (bU prog w) d xs:=by
 obtain⟨o,ds,ep,h1,h2,a,b,c,e,_⟩:=x
 exact⟨o,ds,ep,h1,h2,a,b,c,e⟩
theorem l8 {Q:Unit->Shared->Prop} (m:A.units+1<Kg) (b:dr prog w s.heap k a) (r:oz prog w s.heap d xs)
  (n:∀ h',oz prog w h' d (storedH xs k a v)->Heap.SameBut d s.heap h'->Q () { s with heap:=h',toks:=s.toks+(k.2.length+3) }) (hsz:xs.length<=sizeLine) :
  qb (q3 prog w) A (dictSet d (.ref a) v) Q E s:=by
 obtain⟨o,es,ep,ho,hc,hd,h,c,hn,q⟩:=r
 unfold dictSet
 try with_reducible refine zh ?_
 refine jj ((bU prog w).pyHash m b ?_)
 unfold dictSetHashed
 try with_reducible refine zh ?_
 refine jj (wpAny_dictFind_heap (knd:=bU prog w) (s:={ s with toks:=s.toks+(bU prog w).draws k }) m b ho hd h c hn ?_ ?_)
 ·intro f
  have g:k ∉ xs.map (·.1):=not_mem_keys_of_get f
  refine jj (Ko (wpAny_updateDictKeys (hz:=by have e:=size_of_entries (knd:=bU prog w) h;omega) (s:={ s with toks:=s.toks+(bU prog w).draws k }) ho hd (n _ ⟨_,_,ep+1,IH _ ho (Obj.isFreed_of_dict (Obj.data_mapDictKeys hd _)),
   hc.mapDictKeys _,Obj.data_mapDictKeys hd _,?_,?_,?_,?_⟩ (Heap.SameBut.update ..))))
  all_goals rw[storedH_new (atKey_none_of_get f)]
  ·simp[h,pY,entryOfKey]
   rfl
  ·intro x hx
   rcases HF.mp hx with hx|hx
   ·exact(bU prog w).keeps (c x hx) ho hd (Heap.SameBut.update ..)
   ·simp only[HD] at hx
    subst hx
    exact(bU prog w).keeps b ho hd (Heap.SameBut.update ..)
  ·rw[Il,HN]
   refine⟨hn,by simp,λx hx y i=>?_⟩
   simp only[HU,List.map_nil,HD] at i
   subst i
   exactλe=>g (e▸hx)
  ·rw[q];simp
 ·intro j p hj
  refine jj (Ko (jj (wpAny_updateDict (s:={ s with toks:=s.toks+(bU prog w).draws k }) ho hd (wpAny_point (n _ ⟨_,_,ep,IH _ ho (Obj.isFreed_of_dict (Obj.data_mapDict hd _)),
   hc.mapDict _,Obj.data_mapDict hd _,?_,?_,?_,?_⟩ (Heap.SameBut.update ..))))))
  all_goals rw[storedH_old (atKey_of_get hn hj)]
  ·have:=modify_map_putAt pY (λe:Qz=>{ e with val:=v }) k v (λ_ _=>rfl) hn hj
   rw[<-h] at this
   obtain⟨l⟩:=es
   simpa using this
  ·intro x hx
   obtain⟨y,i,rfl⟩:=HS.mp hx
   unfold putAt
   split <;> exact(bU prog w).keeps (c y i) ho hd (Heap.SameBut.update ..)
  ·rw[keys_map_putAt];exact hn
  ·rw[q];simp
theorem sO {Q:Unit->Shared->Prop} (h:A.in1.units+1<Kg) (b:dr prog w s.heap k a) (g:oz prog w s.heap d xs)
  (i:∀ h',oz prog w h' d (storedH xs k a v)->Heap.SameBut d s.heap h'->Q () { s with heap:=h',toks:=s.toks+(k.2.length+3) }) (hsz:xs.length<=sizeLine) :
  qb (q3 prog w) A (Qs (.ref d) (.ref a) v) Q E s:=by
 have c:=g.of.typeIs
 unfold Qs
 try with_reducible refine zh ?_
 refine jj (wpAny_sequenceKey c (by decide) ?_)
 refine jj (J4 (name:=Str.ofString "__setitem__") c slot_dict_setitem (J3 slot_dict_setitem c entry_dict_setitem ?_ (args_dict_setitem _ _ _)))
 show qb _ _ (Builtin.Dict.notOrdered "__setitem__" ⟨[.ref d,.ref a,v],[]⟩ >>= _) _ _ s
 refine jj (wpAny_notOrdered_dict c ?_)
 show qb _ _ (dictSet d (.ref a) v >>= _) _ _ s
 exact jj (l8 h b g (λh' e f=>ke ⟨.none,rfl,ke (i h' e f)⟩) hsz)
variable {o:Obj}{es:Array Qz}{ep:Nat}
end
end _L
namespace _L
open PySem PySem.Spec PyProof.Rows
noncomputable def cI (a:Addr) (es:List (bh×Addr×V)) (h:Heap):Prop :=
 es.length<=sizeLine/\(a==Kp)=false/\∃ xs:List (bh×Addr×Value),Paired (λ(p:bh×Addr×V) (q:bh×Addr×Value)=>p.1=q.1/\p.2.1=q.2.1/\bw p.2.2 q.2.2) es xs /\
  ∃ o ds ep,h.get? a=some o/\o.ExactDict/\o.data=.dict ds ep/\ds.toList=xs.map pY/\(xs.map (·.1)).Nodup/\ep=xs.length
noncomputable abbrev cY (k:bh):PyData:=.tuple [.int k.1,.tuple (k.2.map .int)]
noncomputable abbrev fj (kvs:List (bh×PyData)):PyData:=.dict (kvs.map λp=>(cY p.1,p.2))
noncomputable abbrev fzD (ds:List PyData):PyData:=.dict [(.none,.list ds)]
noncomputable def bO (a:Addr) (es:List (Int×V)) (h:Heap):Prop :=
 es.length<=sizeLine/\(a==Kp)=false/\∃ xs:List (Int×Value),Paired (λ(p:Int×V) (q:Int×Value)=>p.1=q.1/\bw p.2 q.2) es xs/\∀ prog w,h.DictOf (J8 prog w) a xs
theorem bO.keep {a:Addr}{es:List (Int×V)}{h h':Heap} (x:bO a es h) (k:∀ o,h.get? a=some o->h'.get? a=some o):bO a es h':=by
 obtain⟨a1,a2,xs,a3,b⟩:=x
 refine⟨a1,a2,xs,a3,λp w=>?_⟩
 obtain⟨o,es,ep,h1,h2⟩:=b p w
 exact⟨o,es,ep,k _ h1,h2⟩
noncomputable abbrev i8 (kvs:List (Int×PyData)):PyData:=.dict ((.none,.none)::kvs.map λp=>(.int p.1,p.2))
theorem FJ {α:Type}{n:Nat}{l:List α} (h:l.length=n+1):∃ a t,l=a::t:=List.exists_cons_of_length_eq_add_one h
theorem vp {α:Type}{l:List α} (h:l.length=1):∃ a,l=[a]:=List.length_eq_one_iff.mp h
theorem Dm {α:Type}{l:List α} (h:l.length=2):∃ a b,l=[a,b]:=by
 obtain⟨a,t,rfl⟩:=FJ h
 obtain⟨b,rfl⟩:=vp (l:=t) (Nat.succ.inj h)
 exact⟨a,b,rfl⟩
theorem GC {α:Type}{l:List α} (h:l.length=3):∃ a b c,l=[a,b,c]:=by
 obtain⟨a,t,rfl⟩:=FJ h
 obtain⟨b,c,rfl⟩:=Dm (l:=t) (Nat.succ.inj h)
 exact⟨a,b,c,rfl⟩
theorem G9 {α:Type}{l:List α} (h:l.length=4):∃ a b c d,l=[a,b,c,d]:=by
 obtain⟨a,t,rfl⟩:=FJ h
 obtain⟨b,c,d,rfl⟩:=GC (l:=t) (Nat.succ.inj h)
 exact⟨a,b,c,d,rfl⟩
mutual
inductive DV (K:PySem.W.Frag) (H:Hp):V->PyData->Prop
 | non:DV K H .non .none
 | bl (b:Bool):DV K H (.bl b) (.bool b)
 | int (i:Int):DV K H (.int i) (.int i)
 | lst {a:Addr}{xs:List V}{ds:List PyData}:SqL K H a xs->DVs K H xs ds->DV K H (.ref a) (.list ds)
 | tup {a:Addr}{xs:List V}{ds:List PyData}:SqT K H a xs->DVs K H xs ds->DV K H (.ref a) (.tuple ds)
 | dct {a:Addr}{es:List (bh×Addr×V)}{kvs:List (bh×PyData)}:H a=some (.ext (cI a es))->DVs K H (es.map λp=>V.ref p.2.1) (kvs.map λp=>cY p.1)->DVs K H (es.map λp=>p.2.2) (kvs.map λp=>p.2)->es.map (λp=>p.1)=kvs.map (λp=>p.1)->DV K H (.ref a) (fj kvs)
 | idc {a:Addr}{es:List (Int×V)}{kvs:List (Int×PyData)}:H a=some (.ext (bO a es))->DVs K H (es.map λp=>p.2) (kvs.map λp=>p.2)->es.map (λp=>p.1)=kvs.map (λp=>p.1)->DV K H (.ref a) (i8 kvs)
 | fz {v:V}{ds:List PyData}:DV K H v (.list ds)->DV K H v (fzD ds)
inductive DVs (K:PySem.W.Frag) (H:Hp):List V->List PyData->Prop
 | nil:DVs K H [] []
 | cons {x:V}{xs:List V}{d:PyData}{ds:List PyData}:DV K H x d->DVs K H xs ds->DVs K H (x::xs) (d::ds)
end
theorem DV.tupI {K:PySem.W.Frag}{H:Hp}{v:V}{ds:List PyData} (h:DV K H v (.tuple ds)):∃ a xs,v=.ref a/\SqT K H a xs/\DVs K H xs ds:=by
 cases h with
 | tup h q=>exact⟨_,_,rfl,h,q⟩
theorem DV.lstI {K:PySem.W.Frag}{H:Hp}{v:V}{ds:List PyData} (h:DV K H v (.list ds)):∃ a xs,v=.ref a/\SqL K H a xs/\DVs K H xs ds:=by
 cases h with
 | lst h q=>exact⟨_,_,rfl,h,q⟩
theorem DV.intI {K:PySem.W.Frag}{H:Hp}{v:V}{i:Int} (h:DV K H v (.int i)):v=.int i:=by
 cases h;rfl
theorem DVs.twoI {K:PySem.W.Frag}{H:Hp}{vs:List V}{d e:PyData} (h:DVs K H vs [d,e]):∃ x y,vs=[x,y]/\DV K H x d/\DV K H y e:=by
 cases h with
 | cons h q =>
  cases q with
  | cons h2 q=>cases q;exact⟨_,_,rfl,h,h2⟩
section
variable {X:Cx}{pins:List (Addr×Obj)}{σ:St}{H:Hp}{s:Shared}
theorem DV.reads (I:Inv X pins σ H s) {x:V}{d:PyData}{u:Value} (h:DV X.K H x d):bw x u->d.canLay0=true->∃ as,Reads s.heap u d as :=
 DV.rec (motive_1:=λx d _=>∀ u:Value,bw x u->d.canLay0=true->∃ as,Reads s.heap u d as) (motive_2:=λxs ds _=>∀ us:List Value,aX xs us->PyData.canLayAll0 ds=true->∃ as,ReadsAll s.heap us ds as)
 (λu r _=>by cases (show _=Value.none from r);exact⟨_,.none⟩)
 (λb u r _=>by cases (show _=Value.bool b from r);exact⟨_,.bool b⟩)
 (λi u r _=>by obtain⟨t,rfl⟩:=r;exact⟨_,.int i t⟩)
 (λ{a xs ds} h q i u r l=>by
  cases (show _=Value.ref a from r)
  obtain⟨g,k,⟨o,n,e,c,_,hd⟩,_⟩:=I.list h
  obtain⟨as,f⟩:=i _ k (by simpa only[PyData.canLay0] using l)
  exact⟨_,.list e c hd (by simpa using f)⟩)
 (λ{a xs ds} h q i u r l=>by
  cases (show _=Value.ref a from r)
  obtain⟨g,k,⟨o,e,c,n,hd⟩,_⟩:=I.tuple h
  obtain⟨as,f⟩:=i _ k (by simpa only[PyData.canLay0] using l)
  exact⟨_,.tuple e c hd (by simpa using f)⟩)
 (λ_ _ _ _ _ _ _ _ l=>by simp[PyData.canLay0] at l) (λ_ _ _ _ _ _ l=>by simp[PyData.canLay0] at l) (λ_ _ _ _ l=>by simp[PyData.canLay0] at l)
 (λus r _=>by rw[aX.zero r];exact⟨_,.nil⟩)
 (λ_ _ i j us r l=>by
  simp only[PyData.canLayAll0,HX] at l
  obtain⟨u,vs,rfl,r1,m⟩:=aX.consI r
  obtain⟨as,f⟩:=i u r1 l.1
  obtain⟨bs,rb⟩:=j vs m l.2
  exact⟨_,.cons f rb⟩) h u
theorem lJ:∀ ns:List Int,PyData.canLayAll0 (ns.map PyData.int)=true
 | []=>rfl
 | n::ns=>by simp only[HU,PyData.canLayAll0,PyData.canLay0,Bool.true_and,lJ ns]
noncomputable abbrev shp (d:PyData):Prop:=SeqAt.shaped d=true
noncomputable def Fu (K:PySem.W.Frag):R2:=λx y H Q=>∃ d e,DV K H x d/\DV K H y e/\shp d/\shp e/\Q (.bl (PyData.eqv d e)) H
noncomputable def Fp (K:PySem.W.Frag):R2:=λx y H Q=>∃ d e,DV K H x d/\DV K H y e/\shp d/\shp e/\Q (.bl (!PyData.eqv d e)) H
theorem Dg (a:X.A.units+64<Kg):OpR X (z4 .Eq) (Fu X.K):=by
 intro pins s σ H x y v u Q I r1 b h
 obtain⟨d,e,h1,h2,s1,s2,q⟩:=h
 obtain⟨as,c⟩:=h1.reads I r1 (SeqAt.canLay_of_shaped s1)
 obtain⟨bs,rb⟩:=h2.reads I b (SeqAt.canLay_of_shaped s2)
 exact eq_dataH c rb s1 s2 a ⟨.bl _,H,I,rfl,q⟩
theorem De (a:X.A.units+64<Kg):OpR X (z4 .NotEq) (Fp X.K):=by
 intro pins s σ H x y v u Q I r1 b h
 obtain⟨d,e,h1,h2,s1,s2,q⟩:=h
 obtain⟨as,c⟩:=h1.reads I r1 (SeqAt.canLay_of_shaped s1)
 obtain⟨bs,rb⟩:=h2.reads I b (SeqAt.canLay_of_shaped s2)
 exact ne_dataH c rb s1 s2 a ⟨.bl _,H,I,rfl,q⟩
theorem iN:∀ {bs:List Bool}{us:List Value},aX (bs.map V.bl) us->LSm.BoolsAre us bs
 | [],_,.nil=>.nil
 | b::bs,_,.cons r t=>by
  cases (show _=Value.bool b from r)
  exact .cons b (iN t)
theorem xA (hc:X.calm=true):fw X (.builtin "all") (λxs H Q=>∃ (a:Addr) (bs:List Bool),xs=[.ref a]/\SqL X.K H a (bs.map V.bl)/\Q (.bl (bs.all id)) H):=by
 intro pins s σ H xs us Q I r h
 obtain⟨a,bs,rfl,k,q⟩:=h
 obtain⟨u,rfl,l⟩:=hV r
 cases (show u=Value.ref a from l)
 obtain⟨c,m,p,_⟩:=I.list k
 have g:=iN m
 have d:=p.isList
 have f:a<s.heap.objs.size:=by obtain⟨_,e,_⟩:=d;exact HL e
 refine call_all_walk (Kn d ?_)
 refine⟨s.heap.objs.size,[s.heap.objs.size,a],[s.heap.objs.size],c.toArray.size,_,_,λi=>(bs[i]?).getD true,rfl,Walks.list (A:=X.A.in1) (I.ok.hd hc) _ a (HZ f) c.toArray,
  ⟨⟨_,HR _ rfl,rfl,rfl⟩,d.push _⟩,λi v s' o E' n j=>?_,λh' tk hk=>?_⟩
 ·obtain⟨b,e,rfl⟩:=g.get i v (by simpa using n)
  simp only[e,Option.getD_some] at j
  exact J5 j
 ·have e:((List.range c.toArray.size).all λi=>(bs[i]?).getD true)=bs.all id:=by
   rw[HM,g.length]
   exact LSm.range_all bs
  rw[e]
  exact⟨.bl _,H,I.kept (LSm.kept_iter hk),rfl,q⟩
theorem xz (hc:X.calm=true):fw X (.builtin "any") (λxs H Q=>∃ (a:Addr) (bs:List Bool),xs=[.ref a]/\SqL X.K H a (bs.map V.bl)/\Q (.bl (bs.any id)) H):=by
 intro pins s σ H xs us Q I r h
 obtain⟨a,bs,rfl,k,q⟩:=h
 obtain⟨u,rfl,l⟩:=hV r
 cases (show u=Value.ref a from l)
 obtain⟨c,m,p,_⟩:=I.list k
 have g:=iN m
 have d:=p.isList
 have f:a<s.heap.objs.size:=by obtain⟨_,e,_⟩:=d;exact HL e
 refine call_any_walk (Kn d ?_)
 refine⟨s.heap.objs.size,[s.heap.objs.size,a],[s.heap.objs.size],c.toArray.size,_,_,λi=>(bs[i]?).getD false,rfl,Walks.list (A:=X.A.in1) (I.ok.hd hc) _ a (HZ f) c.toArray,
  ⟨⟨_,HR _ rfl,rfl,rfl⟩,d.push _⟩,λi v s' o E' n j=>?_,λh' tk hk=>?_⟩
 ·obtain⟨b,e,rfl⟩:=g.get i v (by simpa using n)
  simp only[e,Option.getD_some] at j
  exact J5 j
 ·have e:((List.range c.toArray.size).any λi=>(bs[i]?).getD false)=bs.any id:=by
   rw[HM,g.length]
   exact LSm.range_any bs
  rw[e]
  exact⟨.bl _,H,I.kept (LSm.kept_iter hk),rfl,q⟩
end
noncomputable def cH:Bool->Heap->Addr->Array Value->Prop
 | false,h,a,xs=>h.IsList a xs
 | true,h,a,xs=>h.IsTuple a xs
noncomputable def cr:Bool->Heap->Addr->Addr->Nat->Prop
 | false,h,it,a,i=>h.IsListIter it a i
 | true,h,it,a,i=>h.IsTupleIter it a i
theorem cH.at {b:Bool}{h h':Heap}{a:Addr}{xs:Array Value} (p:cH b h a xs) (k:∀ o,h.get? a=some o->h'.get? a=some o):cH b h' a xs:=by
 cases b with
 | false=>obtain⟨o,e,r⟩:=p;exact⟨o,k o e,r⟩
 | true=>obtain⟨o,e,r⟩:=p;exact⟨o,k o e,r⟩
theorem cr.at {b:Bool}{h h':Heap}{it a:Addr}{i:Nat} (p:cr b h it a i) (k:∀ o,h.get? it=some o->h'.get? it=some o):cr b h' it a i:=by
 cases b with
 | false=>obtain⟨o,e,r⟩:=p;exact⟨o,k o e,r⟩
 | true=>obtain⟨o,e,r⟩:=p;exact⟨o,k o e,r⟩
theorem cH.obj {b:Bool}{h:Heap}{a:Addr}{xs:Array Value} (p:cH b h a xs):∃ o n,h.get? a=some o/\o.data=.seq xs n:=by
 cases b with
 | false=>obtain⟨o,e,_,n,d⟩:=p;exact⟨o,n,e,d⟩
 | true=>obtain⟨o,e,_,n,d⟩:=p;exact⟨o,n,e,d⟩
theorem cr.obj {b:Bool}{h:Heap}{it a:Addr}{i:Nat} (p:cr b h it a i):∃ o,h.get? it=some o/\o.data=.fields #[.ref a,.int i 0]:=by
 cases b with
 | false=>obtain⟨o,e,_,d⟩:=p;exact⟨o,e,d⟩
 | true=>obtain⟨o,e,_,d⟩:=p;exact⟨o,e,d⟩
section
variable {prog:zb}{w:zf}{A:Around}{E:Value->Shared->Prop}{s:Shared}
theorem wn {it t:Addr}{i:Nat}{items:Array Value}{x:Value}{Q:Value->Shared->Prop} (a:s.heap.IsTupleIter it t i) (d:s.heap.IsTuple t items) (hx:items[i]? = some x)
  (e:∀ h',h'.IsTupleIter it t (i+1)->Heap.SameBut it s.heap h'->Q x { s with heap:=h' }):qb (q3 prog w) A (Builtin.SmallTypes.nextOf (.ref it)) Q E s:=by
 obtain⟨o,ho,hc,hd⟩:=id a
 obtain⟨f,b,_,nl,c⟩:=d
 unfold Builtin.SmallTypes.nextOf
 refine jj (J4 (name:=Str.ofString "__next__") a.typeIs F.slot_tuple_iterator_next (J3 F.slot_tuple_iterator_next a.typeIs F.entry_tuple_iterator_next ?_ (F.args_tuple_iterator_next_1 _)))
 show qb _ _ (Qq (.ref it) 0 >>= _) _ _ s
 refine jj (z5 ho hd (x:=.ref t) rfl ?_)
 show qb _ _ (if (Value.ref t==Value.none)=true then _ else _) _ _ s
 rw[if_neg (show ¬((Value.ref t==Value.none)=true) from H9)]
 show qb _ _ (Qq (.ref it) 1 >>= _) _ _ s
 refine jj (z5 ho hd (x:=.int i 0) rfl ?_)
 show qb _ _ (seqItems? (.ref t) >>= _) _ _ s
 refine jj (J1 b c ?_)
 simp only[IB,hx]
 refine jj (wpAny_setField ho hd (by simp) (ke ⟨x,rfl,ke (e _ ?_ (Heap.SameBut.update ..))⟩))
 refine⟨_,IH _ ho (Obj.isFreed_of_fields (Obj.data_mapFields hd _)),(Obj.cls_mapFields ..).trans hc,?_⟩
 rw[Obj.data_mapFields hd]
 simp[Km]
theorem nE {it t:Addr}{i:Nat}{items:Array Value}{Q:Value->Shared->Prop} (f:A.handled=none) (b:s.heap.IsTupleIter it t i) (g:s.heap.IsTuple t items) (hx:items[i]? = none)
  (h:∀ h' e,Heap.ExtBut it s.heap h'->(∃ o,h'.get? e=some o/\o.cls=.type "StopIteration")->E (.ref e) { s with heap:=h' }):qb (q3 prog w) A (Builtin.SmallTypes.nextOf (.ref it)) Q E s:=by
 obtain⟨o,ho,hc,hd⟩:=id b
 obtain⟨j,c,_,nl,d⟩:=g
 unfold Builtin.SmallTypes.nextOf
 refine jj (J4 (name:=Str.ofString "__next__") b.typeIs F.slot_tuple_iterator_next (J3 F.slot_tuple_iterator_next b.typeIs F.entry_tuple_iterator_next ?_ (F.args_tuple_iterator_next_1 _)))
 show qb _ _ (Qq (.ref it) 0 >>= _) _ _ s
 refine jj (z5 ho hd (x:=.ref t) rfl ?_)
 show qb _ _ (if (Value.ref t==Value.none)=true then _ else _) _ _ s
 rw[if_neg (show ¬((Value.ref t==Value.none)=true) from H9)]
 show qb _ _ (Qq (.ref it) 1 >>= _) _ _ s
 refine jj (z5 ho hd (x:=.int i 0) rfl ?_)
 show qb _ _ (seqItems? (.ref t) >>= _) _ _ s
 refine jj (J1 c d ?_)
 simp only[IB,hx]
 refine jj (Ko (jj (wpAny_setField ho hd (by simp) ?_)))
 show qb _ _ (newExc (.type "StopIteration") [] >>= _) _ _ _
 refine jj ?_
 simp only[newExc,newTuple]
 refine jj (KQ ?_ (by size_fits))
 refine jj (m:=firstArgMember _ _) (wpAny_of_eq (a:=Value.none) (by first|rfl|(simp only[firstArgMember];rfl)) ?_)
 refine KQ ?_ (by size_fits)
 simp only[raiseNew]
 refine jj (wpAny_handled ?_)
 first|rw[show A.in1.handled=none from f]|rw[f]
 exact jj (ke (wpAny_throw (h _ _ (((Heap.SameBut.update ..).extBut.push _).push _) ⟨_,HR _ rfl,rfl⟩)))
theorem gQ {b:Bool}{it a:Addr}{i:Nat}{items:Array Value}{x:Value}{Q:Value->Shared->Prop} (c:cr b s.heap it a i) (d:cH b s.heap a items) (hx:items[i]? = some x)
  (e:∀ h',cr b h' it a (i+1)->Heap.SameBut it s.heap h'->Q x { s with heap:=h' }):qb (q3 prog w) A (Builtin.SmallTypes.nextOf (.ref it)) Q E s:=by
 cases b with
 | false=>exact Kw c d hx e
 | true=>exact wn c d hx e
theorem fh {b:Bool}{it a:Addr}{i:Nat}{items:Array Value}{Q:Value->Shared->Prop} (d:A.handled=none) (c:cr b s.heap it a i) (f:cH b s.heap a items) (hx:items[i]? = none)
  (g:∀ h' e,Heap.ExtBut it s.heap h'->(∃ o,h'.get? e=some o/\o.cls=.type "StopIteration")->E (.ref e) { s with heap:=h' }):qb (q3 prog w) A (Builtin.SmallTypes.nextOf (.ref it)) Q E s:=by
 cases b with
 | false=>exact Qf d c f hx g
 | true=>exact nE d c f hx g
end
theorem l7 {prog:zb}{w:zf}{A:Around} (b:Bool) (g:A.handled=none) (it a:Addr) (c:a≠it) (items:Array Value) :
  Draws prog w A it [it,a] items.size (λi v=>items[i]? = some v) (λi h=>cr b h it a i/\cH b h a items) where
 live:=λ_ _ st=>by obtain⟨o,e,_⟩:=st.1.obj;exact⟨o,e⟩
 frame:=λ_ _ _ st hk=>⟨st.1.at λo e=>hk it (by simp) o e,st.2.at λo e=>hk a (by simp) o e⟩
 item:=λi s Q E hi st j=>gQ st.1 st.2 (x:=items[i]) (by simp[hi]) λh' d f=>j _ h' s.toks (by simp[hi]) ⟨d,st.2.at λo e=>f.extBut a o c e⟩ f
 done:=λs Q E st k=>fh g st.1 st.2 (by simp) k
noncomputable def SqB (K:PySem.W.Frag) (H:Hp):Bool->Addr->List V->Prop
 | false,a,xs=>SqL K H a xs
 | true,a,xs=>SqT K H a xs
section
variable {X:Cx}{pins:List (Addr×Obj)}{σ:St}{H:Hp}{s:Shared}
theorem Inv.seq (I:Inv X pins σ H s) {b:Bool}{a:Addr}{xs:List V} (h:SqB X.K H b a xs):∃ c:List Value,aX xs c/\cH b s.heap a c.toArray:=by
 cases b with
 | false=>obtain⟨c,r,p,_⟩:=I.list h;exact⟨c,r,p.isList⟩
 | true=>obtain⟨c,r,p,_⟩:=I.tuple h;exact⟨c,r,p⟩
theorem Inv.seq_inj (I:Inv X pins σ H s) {b:Bool}{a:Addr}{xs ys:List V} (h:SqB X.K H b a xs) (h':SqB X.K H b a ys):xs=ys:=by
 cases b with
 | false=>exact I.list_inj h h'
 | true=>exact I.tuple_inj h h'
theorem Inv.turnedN {fp:List Addr}{h':Heap}{t':Nat} (I:Inv X pins σ H s) (d:∀ b∈fp,eU X pins H b) (k:∀ b o,b ∉ fp->s.heap.get? b=some o->h'.get? b=some o):Inv X pins σ H { s with heap:=h',toks:=t' }:=by
 have a:∀ b u,H b=some u->b ∉ fp:=λb u e z=>by rw[(d b z).1] at e;cases e
 refine I.step (g':=s.gens) (d':=s.drawn) (ch:=fp) (λb f=>?_) (λb o _ _ hc e _=>k b o hc e) (λb o _ _ hc e _=>⟨o.slots,k b o hc e⟩) (λ_ _ _ _ n=>n) (λb o hc e=>⟨o,k b o hc e⟩) (λ_ _ e=>e) (λ_ _ _ e=>e)
  (λ_ _ e=>e) (λm g=>?_) (λb u e=>?_) I.bare
 ·obtain⟨p,h,t,i,j,l⟩:=d b f
  exact⟨i,h,j,l⟩
 ·obtain⟨o,es,ep,ho,r⟩:=g
  exact⟨o,es,ep,k _ o (λz=>(d _ z).2.1 rfl) ho,r⟩
 ·refine(I.hok b u e).stay (λc v hc q=>k c v ?_ q) (λ_ q=>q) λ_ _ _ q=>q
  rcases hc with z|z
  ·rw[z];exact a b u e
  ·exact a c _ z
theorem Inv.track {T:Addr}{o:HO} (I:Inv X pins σ H s) (f:eU X pins H T) (new:eR X.prog X.w (upd H T o) s.heap T o):Inv X pins σ (upd H T o) s:=by
 obtain⟨g,h,p,i,j,k⟩:=f
 have a:∀ b u,H b=some u->b≠T:=λb u e z=>by rw[z,g] at e;cases e
 have q:=I.step (h':=s.heap) (H':=upd H T o) (g':=s.gens) (d':=s.drawn) (t':=s.toks) (ch:=[T]) (λb d=>by
   have e:b=T:=by simpa using d
   rw[e];exact⟨i,h,j,k⟩) (λb o _ _ _ e _=>e) (λb o _ _ _ e _=>⟨o.slots,e⟩) (λb o' hc _ n=>by rw[al (λz=>hc (by simp[z]))];exact n) (λb o' _ e=>⟨o',e⟩)
  (λb xs e=>by rw[al (a b _ e)];exact e) (λb o' u e=>by rw[al (a b _ e)];exact e) (λb ps e=>by rw[al (a b _ e)];exact e) (λm l=>l) (λb u e=>?_) I.bare
 ·exact q
 ·by_cases d:b=T
  ·subst d;rw[aB] at e;cases e;exact new
  ·rw[al d] at e
   exact(I.hok b u e).stay (λ_ _ _ q=>q) (λc q=>by rw[al (a c _ q)];exact q) λc xs _ q=>by rw[al (a c _ q)];exact q
end
noncomputable def Ite (K:PySem.W.Frag) (b:Bool) (a:Addr):It :=
 ⟨λi H=>∃ xs x,SqB K H b a xs/\xs[i]? = some x,λi H v H'=>∃ p x,v=.ref p/\H p=none/\H'=upd H p (.tup [.int i,x])/\∀ xs,SqB K H b a xs->xs[i]? = some x,λi H=>∃ xs,SqB K H b a xs/\xs.length=i⟩
theorem sw {P:zb}{w:zf}{K:PySem.W.Frag}{es:List Expr}{Z:Nat}{pos:Pos} (b:Bool) (a it e:Addr) (g:e≠it) :
  zi P w K (.Tuple es Z pos) (Ite K b a) [e,it] e (λi h=>(∃ old,IsEnum h e it i old)/\cr b h it a i) where
 mem:=by simp
 obj := λi h st c hc=>by
  obtain⟨⟨old,f⟩,st⟩:=st
  rcases HP.mp hc with rfl|hc
  ·exact⟨_,f,λv z=>by
    have z':Data.fields _=Data.cell v:=z
    cases z'⟩
  ·have D:c=it:=by simpa using hc
   subst D
   obtain⟨o,ho,hd⟩:=st.obj
   exact⟨o,ho,λv z=>by rw[hd] at z;cases z⟩
 keep:=λi h h' st k=>by
  obtain⟨⟨old,f⟩,st⟩:=st
  exact⟨⟨old,k e (by simp) _ f⟩,st.at λo q=>k it (by simp) o q⟩
 item := by
  intro X F hw hK hc i pins s σ H E I t st G
  subst F hw hK
  obtain⟨xs,x,B,hx⟩:=G
  obtain⟨⟨old,f⟩,st⟩:=st
  obtain⟨d,J,p⟩:=I.seq B
  obtain⟨u,Y,ru⟩:=J.get hx
  obtain⟨oa,na,j,n⟩:=p.obj
  obtain⟨oi,C,L⟩:=st.obj
  have l:a≠it:=λz=>by rw[z,C] at j;cases j;rw[L] at n;cases n
  have M:e≠a:=λz=>by rw[<-z,f] at j;cases j;cases n
  have N:i<d.toArray.size:=by
   have:=(HI.mp Y).1
   simpa using this
  refine wpAny_pyNext_enum_itemD (l7 (A:=X.A.in1) b (I.ok.hd hc) it a l d.toArray) f ⟨st,p⟩ N g (by simp[g,M]) λy h1 tk O r R hT hz hk=>?_
  have ey:y=u:=by
   have:d[i]? = some y:=by simpa using O
   rw[Y] at this
   exact(Option.some.inj this).symm
  subst ey
  refine⟨_,rfl,wpAny_letOwnedTupleGo_enum r λh2 S m=>?_⟩
  have elt:e<s.heap.objs.size:=HL f
  have U:it<s.heap.objs.size:=HL C
  have I2:Inv X pins σ H { s with heap:=h2,toks:=tk+1 }:=I.turnedN t λc o hc q=>m.extBut c o (λz=>hc (by simp[z])) (hk c o (λz=>hc (by simp[z])) (λz=>hc (by simp[z])) q)
  have g2:h2.get? s.heap.objs.size=some { cls:=.type "tuple",data:=.seq #[.int i tk,y] }:=m.extBut _ _ (Iz elt) hT
  have hn:H s.heap.objs.size=none:=I.hok.fresh (HK _)
  refine⟨.ref s.heap.objs.size,upd H s.heap.objs.size (.tup [.int i,x]),I2.track (T:=s.heap.objs.size) (o:=.tup [.int i,x]) (I.fpOk (HK _) hn) ?_,rfl,?_,⟨⟨y,S⟩,?_⟩,λc hc=>?_⟩
  ·exact⟨by show 2<=sizeLine;decide,[.int i tk,y],.cons ⟨tk,rfl⟩ (.cons ru .nil),_,g2,rfl,⟨_,rfl⟩,rfl⟩
  ·exact⟨_,x,rfl,hn,rfl,λys O=>by rw[I.seq_inj O B];exact hx⟩
  ·exact R.1.at λo q=>m.extBut it o (Ne.symm g) q
  ·have:c<s.heap.objs.size:=by
    rcases HP.mp hc with rfl|hc
    ·exact elt
    ·have D:c=it:=by simpa using hc
     rw[D];exact U
   rw[al (HZ this)]
   exact(t c hc).1
 done:=by
  intro X F hw hK hc i pins s σ H E I t st G
  subst F hw hK
  obtain⟨xs,B,hx⟩:=G
  obtain⟨⟨old,f⟩,st⟩:=st
  obtain⟨d,J,p⟩:=I.seq B
  obtain⟨oa,na,j,n⟩:=p.obj
  obtain⟨oi,C,L⟩:=st.obj
  have l:a≠it:=λz=>by rw[z,C] at j;cases j;rw[L] at n;cases n
  have hl:=J.length
  have ez:d.toArray.size=i:=by simp;omega
  refine wpAny_pyNext_enum_endD (l7 (A:=X.A.in1) b (I.ok.hd hc) it a l d.toArray) f (by rw[ez];exact⟨st,p⟩) λh' V=>⟨rfl,?_⟩
  exact I.turnedN (t':=s.toks) t λc o hc q=>V c o (λz=>hc (by simp[z])) q
 self:=λA i s Q E st h=>by
  obtain⟨⟨old,f⟩,st⟩:=st
  exact wpAny_pyIter_enum f h
noncomputable abbrev i6 (b:Bool) (a:Addr):Obj:={ cls:=.type (if b then "tuple_iterator" else "list_iterator"),data:=.fields #[.ref a,.int 0 0] }
theorem ka {b:Bool}{h:Heap}{it a:Addr} (e:h.get? it=some (i6 b a)):cr b h it a 0:=by
 cases b with
 | false=>exact⟨_,e,rfl,rfl⟩
 | true=>exact⟨_,e,rfl,rfl⟩
theorem fT {prog:zb}{w:zf}{A:Around}{E:Value->Shared->Prop}{s:Shared}{b:Bool}{a:Addr}{items:Array Value}{Q:Value->Shared->Prop} (c:cH b s.heap a items)
  (d:Q (.ref s.heap.objs.size) { s with heap:=s.heap.push (i6 b a) }):qb (q3 prog w) A (pyIter (.ref a)) Q E s:=by
 cases b with
 | false=>exact Kn c d
 | true=>exact wpAny_pyIter_tuple c d
open AutoSeq1 (wpAny_loadPart') in
theorem uE (l:Addr) (items:Array Value) (n:Nat) (dct:Option Addr) (sl:Array (Option Value)) :
  Meets (Builtin.«enumerate.__new__» ⟨[.type "enumerate",.ref l],[]⟩) (λ_ R s=>s.heap.get? l=some { cls:=.type "tuple",dict:=dct,data:=.seq items n,slots:=sl } /\
   R (.ok (.ret (.ref (s.heap.push (i6 true l)).objs.size))) { s with heap:=(s.heap.push (i6 true l)).push { cls:=.type "enumerate",data:=.fields #[.none,.bool false,.ref s.heap.objs.size,Km 0,.none,.none] } }) :=
 .of_wp λprog w A R s h=>by
  obtain⟨f,g,d,tk,os⟩:=s
  obtain⟨a,h⟩:=h
  have b:=sub_enumerate
  have e:cH true (Shared.heap ⟨f,g,d,tk,os⟩) l items:=⟨_,a,rfl,n,rfl⟩
  wp_walk using wpAny_loadPart' a
  refine wpAny_stack_any λst=>ke ?_
  split
  ·rename_i c _ _ _ _ _
   cases (c==Value.type "enumerate") <;> (wp_walk using wpAny_loadPart' a,fT e) <;> exact⟨_,rfl,h⟩
  ·wp_walk using wpAny_loadPart' a,fT e
   exact⟨_,rfl,h⟩
section
variable {prog:zb}{w:zf}{A:Around}{E:Value->Shared->Prop}{s:Shared}
theorem uF {b:Bool}{l:Addr}{items:Array Value}{Q:Value->Shared->Prop} (a:cH b s.heap l items)
  (h : ∀ h',IsEnum h' (s.heap.objs.size+1) s.heap.objs.size 0 .none->cr b h' s.heap.objs.size l 0->h'.objs.size=s.heap.objs.size+2->(∀ c o,s.heap.get? c=some o->h'.get? c=some o)->Q (.ref (s.heap.objs.size+1)) { s with heap:=h' }) :
  qb (q3 prog w) A (call (.type "enumerate") [.ref l]) Q E s:=by
 cases b with
 | false=>exact call_enumerate_list a h
 | true =>
  obtain⟨⟨c,dct,e,sl⟩,f,hc,n,hd⟩:=a
  replace hc:c=.type "tuple" := hc
  replace hd:e=.seq items n:=hd
  subst hc hd
  refine callType_new F.called_enumerate (by decide) (F.typeCall_enumerate_1 _) (F.newCall_enumerate_1 _) (λobj=>F.args_object_init_2 obj _) F.entry_enumerate_new (uE l items n dct sl) ⟨f,?_⟩
  have hz:(s.heap.push (i6 true l)).objs.size=s.heap.objs.size+1:=IG ..
  show _/\_
  rw[hz]
  have d:IsEnum ((s.heap.push (i6 true l)).push { cls:=.type "enumerate",data:=.fields #[.none,.bool false,.ref s.heap.objs.size,Km 0,.none,.none] }) (s.heap.objs.size+1) s.heap.objs.size 0 .none:=by
   have q:=HR (s.heap.push (i6 true l)) (o:={ cls:=.type "enumerate",data:=.fields #[.none,.bool false,.ref s.heap.objs.size,Km 0,.none,.none] }) rfl
   rw[hz] at q
   exact q
  exact⟨⟨_,d,rfl⟩,h _ d (ka (HE _ (HR _ rfl))) (by rw[IG,hz]) λc o x=>HE _ (HE _ x)⟩
end
section
variable {X:Cx}
noncomputable def DL (K:PySem.W.Frag) (b:Bool) (ta:TA):TI:=λσ H R=>ta σ H λvs H1=>∃ a xs,vs=[.ref a]/\SqB K H1 b a xs/\R (Ite K b a) H1
theorem Aj (b:Bool) {es:List Expr}{m:Nat}{f:Pos}{a:Expr}{ta:TA}{p pos:Pos} (n:Gl X "enumerate") (o:X.mg "enumerate" = none) (g:Kh "enumerate" = some (.type "enumerate")) (r:PA X [a] ta) (t:kq [a] X.env=[(false,eval a X.env)]:=by rfl) :
  PI X (.Tuple es m f) (.Call (.Name "enumerate" p) [a] [] pos) (DL X.K b ta):=by
 intro pins s σ H R I h
 refine QV (dh I n o g (PyProof.Rows.callWith_type1 (thn (r pos pins s σ H _ I h) λus s1 i=>?_) t rfl))
 obtain⟨vs,H1,d,r1,q1⟩:=i
 obtain⟨l,xs,rfl,v,q⟩:=q1
 obtain⟨u,rfl,w⟩:=hV r1
 cases (show u=Value.ref l from w)
 obtain⟨x,A,y⟩:=d.seq v
 refine uF y λh' k j hz hk=>wpAny_pyIter_enum k ?_
 have z:Inv X pins σ H1 { s1 with heap:=h' }:=d.kept (t':=s1.toks) hk
 refine⟨s1.heap.objs.size+1,[s1.heap.objs.size+1,s1.heap.objs.size],_,_,H1,rfl,z,sw b l s1.heap.objs.size (s1.heap.objs.size+1) (Iz (Jo _)),⟨⟨_,k⟩,j⟩,λc hc=>?_,q⟩
 rcases HP.mp hc with rfl|hc
 ·exact d.fpOk (IQ _) (d.hok.fresh (IQ _))
 ·have e:c=s1.heap.objs.size:=by simpa using hc
  rw[e]
  exact d.fpOk (HK _) (d.hok.fresh (HK _))
end
noncomputable abbrev zH1 (h:Heap) (b:Bool) (l1:Addr):Heap:=h.push (i6 b l1)
noncomputable abbrev zH2 (h:Heap) (b c:Bool) (l1 l2:Addr):Heap:=(zH1 h b l1).push (i6 c l2)
noncomputable abbrev zH3 (h:Heap) (b c:Bool) (l1 l2:Addr):Heap:=(zH2 h b c l1 l2).push { cls:=.type "tuple",data:=.seq #[.ref h.objs.size,.ref (zH1 h b l1).objs.size] }
noncomputable abbrev zH4 (h:Heap) (b c:Bool) (l1 l2:Addr):Heap:=(zH3 h b c l1 l2).push { cls:=.type "tuple",data:=.seq #[.none,.none] }
noncomputable abbrev zH5 (h:Heap) (b c:Bool) (l1 l2:Addr):Heap:=(zH4 h b c l1 l2).push { cls:=.type "zip",data:=.fields #[.none,.bool false,.bool false,.ref (zH2 h b c l1 l2).objs.size,.ref (zH3 h b c l1 l2).objs.size] }
theorem vx (b c:Bool) (l1 l2:Addr) (xs ys:Array Value) :
  Meets (Builtin.«zip.__new__» ⟨[.type "zip",.ref l1,.ref l2],[]⟩) (λ_ R s=>cH b s.heap l1 xs/\cH c s.heap l2 ys/\R (.ok (.ret (.ref (zH4 s.heap b c l1 l2).objs.size))) { s with heap:=zH5 s.heap b c l1 l2 }) :=
 .of_wp λprog w A R s h=>by
  obtain⟨k,g,d,tk,os⟩:=s
  obtain⟨a,f,h⟩:=h
  have l:=sub_zip
  have i:cH b (Shared.heap ⟨k,g,d,tk,os⟩) l1 xs:=a
  have j:cH c (Shared.heap ⟨k.push (i6 b l1),g,d,tk,os⟩) l2 ys:=cH.at f λo e=>HE _ e
  wp_walk using fT i,fT j
  exact⟨_,rfl,h⟩
section
variable {prog:zb}{w:zf}{A:Around}{E:Value->Shared->Prop}{s:Shared}
theorem oB {b c:Bool}{l1 l2:Addr}{xs ys:Array Value}{Q:Value->Shared->Prop} (a:cH b s.heap l1 xs) (d:cH c s.heap l2 ys)
  (h : ∀ h',KY h' (s.heap.objs.size+4) (s.heap.objs.size+2) (s.heap.objs.size+3) .none->Kd h' (s.heap.objs.size+2) (.ref s.heap.objs.size) (.ref (s.heap.objs.size+1))->Kd h' (s.heap.objs.size+3) .none .none ->
   cr b h' s.heap.objs.size l1 0->cr c h' (s.heap.objs.size+1) l2 0->(∀ c o,s.heap.get? c=some o->h'.get? c=some o)->Q (.ref (s.heap.objs.size+4)) { s with heap:=h' }) :
  qb (q3 prog w) A (call (.type "zip") [.ref l1,.ref l2]) Q E s:=by
 refine callType_new F.called_zip (by decide) (F.typeCall_zip_2 _ _) (F.newCall_zip_2 _ _) (λobj=>F.args_object_init_3 obj _ _) F.entry_zip_new (vx b c l1 l2 xs ys) ⟨a,d,?_⟩
 have z1:(zH1 s.heap b l1).objs.size=s.heap.objs.size+1:=IG ..
 have z2:(zH2 s.heap b c l1 l2).objs.size=s.heap.objs.size+2:=by rw[IG,z1]
 have z3:(zH3 s.heap b c l1 l2).objs.size=s.heap.objs.size+3:=by rw[IG,z2]
 have f:(zH4 s.heap b c l1 l2).objs.size=s.heap.objs.size+4:=by rw[IG,z3]
 have e:(zH5 s.heap b c l1 l2).get? (zH4 s.heap b c l1 l2).objs.size=some _:=HR _ rfl
 have g:(zH5 s.heap b c l1 l2).get? (zH3 s.heap b c l1 l2).objs.size=some _:=HE _ (HR _ rfl)
 have i:(zH5 s.heap b c l1 l2).get? (zH2 s.heap b c l1 l2).objs.size=some _:=HE _ (HE _ (HR _ rfl))
 have j:(zH5 s.heap b c l1 l2).get? (zH1 s.heap b l1).objs.size=some _:=HE _ (HE _ (HE _ (HR _ rfl)))
 have k:(zH5 s.heap b c l1 l2).get? s.heap.objs.size=some _:=HE _ (HE _ (HE _ (HE _ (HR _ rfl))))
 show _/\_
 rw[z2,z3,f] at e
 rw[z1,z2] at i
 rw[z3] at g
 rw[z1] at j
 rw[f]
 exact⟨⟨_,e,rfl⟩,h _ e i g (ka k) (ka j) λc o x=>HE _ (HE _ (HE _ (HE _ (HE _ x))))⟩
noncomputable abbrev BQ (z TO i1 i2:Addr) (h h':Heap):Prop:=∀ c o,c≠z->c≠TO->c≠i1->c≠i2->h.get? c=some o->h'.get? c=some o
theorem vy {b c:Bool}{z TI TO i1 i2 l1 l2:Addr}{k:Nat}{xs ys:Array Value}{x y p q:Value}{Q:Option Value->Shared->Prop} (D:Ks z TI TO i1 i2 l1 l2)
  (hz:KY s.heap z TI TO .none) (n:Kd s.heap TI (.ref i1) (.ref i2)) (r:Kd s.heap TO p q) (h1:cr b s.heap i1 l1 k) (h2:cr c s.heap i2 l2 k) (t:cH b s.heap l1 xs) (u:cH c s.heap l2 ys) (hx:xs[k]? = some x) (O:ys[k]? = some y)
  (P:∀ h',KY h' z TI TO (Km s.heap.objs.size)->Kd h' TO x y->cr b h' i1 l1 (k+1)->cr c h' i2 l2 (k+1)->Kd h' s.heap.objs.size x y->BQ z TO i1 i2 s.heap h'->Q (some (.ref s.heap.objs.size)) { s with heap:=h' }) :
  qb (q3 prog w) A (KO (.ref z)) Q E s:=by
 have J:s.TypeIs (.ref z) "zip" := ⟨_,hz,rfl⟩
 unfold KO
 refine jj (KC (J4 (name:=Str.ofString "__next__") J F.slot_zip_next (J3 F.slot_zip_next J F.entry_zip_next ?_ (F.args_zip_next_1 _))))
 show qb _ _ (Qq (.ref z) 2 >>= _) _ _ _
 refine jj (z5 hz rfl (x:=.bool false) rfl ?_)
 show qb _ _ (Qq (.ref z) 3 >>= _) _ _ _
 refine jj (z5 hz rfl (x:=.ref TI) rfl (jj (J1 n rfl ?_)))
 show qb _ _ (Builtin.SmallTypes.ownedTupleIsFree (.ref z) >>= _) _ _ _
 refine jj ?_
 unfold Builtin.SmallTypes.ownedTupleIsFree
 refine jj (z5 hz rfl (x:=.none) rfl (ke ?_))
 simp only[if_true]
 refine jj (Ko (jj (z5 hz rfl (x:=.ref TO) rfl (jj (Kb hz (by simp) λR d f=>?_)))))
 replace d:KY R z TI TO .ellipsis:=d
 refine jj ?_
 simp only[List.zipIdx_cons,List.zipIdx_nil,Ji,Jg]
 refine jj (jj (Qn ?_))
 show qb _ _ (Builtin.SmallTypes.nextOf (.ref i1) >>= _) _ _ _
 refine jj (gQ (h1.at λo e=>f.extBut _ o D.i1z e) (t.at λo e=>f.extBut _ o D.l1z e) hx λS v g=>ke ?_)
 have tb:Kd S TO p q:=g.extBut _ _ D.TOi1 (f.extBut _ _ D.TOz r)
 refine jj (J1 tb rfl (jj (Qh tb λhc tc sc=>?_)))
 replace tc:Kd hc TO x q:=tc
 refine jj (KS (ke ?_))
 refine jj (jj (Qn ?_))
 show qb _ _ (Builtin.SmallTypes.nextOf (.ref i2) >>= _) _ _ _
 refine jj (gQ (h2.at λo e=>sc.extBut _ o D.TOi2.symm (g.extBut _ o D.i12.symm (f.extBut _ o D.i2z e))) (u.at λo e=>sc.extBut _ o D.l2TO (g.extBut _ o D.l2i1 (f.extBut _ o D.l2z e))) O λhd B h=>ke ?_)
 have K:Kd hd TO x q:=h.extBut _ _ D.TOi2 tc
 refine jj (J1 K rfl (jj (Qh K λa te i=>?_)))
 replace te:Kd a TO x y:=te
 refine jj (KS (ke (ke ?_)))
 refine jj (J1 te rfl (jj (KN ?_)))
 have sz:a.objs.size=s.heap.objs.size:=by rw[i.1,h.1,sc.1,g.1,f.1]
 have L:KY a z TI TO .ellipsis:=i.extBut _ _ D.TOz.symm (h.extBut _ _ D.i2z.symm (sc.extBut _ _ D.TOz.symm (g.extBut _ _ D.i1z.symm d)))
 have T:BQ z TO i1 i2 s.heap a:=λc o c1 c2 c3 C e=>i.extBut _ _ c2 (h.extBut _ _ C (sc.extBut _ _ c2 (g.extBut _ _ c3 (f.extBut _ _ c1 e))))
 have G:cr b a i1 l1 (k+1):=v.at λo e=>i.extBut _ o D.TOi1.symm (h.extBut _ o D.i12 (sc.extBut _ o D.TOi1.symm e))
 have H:cr c a i2 l2 (k+1):=B.at λo e=>i.extBut _ o D.TOi2.symm e
 have j:z<a.objs.size:=HL L
 show qb _ _ (Builtin.SmallTypes.ownedTupleHandOut (.ref z) (.ref a.objs.size) >>= _) _ _ _
 refine jj ?_
 unfold Builtin.SmallTypes.ownedTupleHandOut
 have U:KY (a.push { cls:=.type "tuple",data:=.seq #[x,y] }) z TI TO .ellipsis:=HE _ L
 refine jj (Kb U (by simp) λV I M=>?_)
 replace I:KY V z TI TO (Km a.objs.size):=I
 refine Kb I (by simp) λl m N=>?_
 replace m:KY l z TI TO (Km a.objs.size):=m
 have up:∀ c o,c≠z->a.get? c=some o->l.get? c=some o:=λc o c1 e=>N.extBut _ _ c1 (M.extBut _ _ c1 (HE _ e))
 have th:Kd l a.objs.size x y:=N.extBut _ _ (Iz j) (M.extBut _ _ (Iz j) (HR _ rfl))
 rw[sz] at m th
 refine ke ⟨_,rfl,ke ?_⟩
 show Q (some (.ref a.objs.size)) _
 rw[sz]
 exact P l m (up _ _ D.TOz te) (G.at λo e=>up _ o D.i1z e) (H.at λo e=>up _ o D.i2z e) th λc o c1 c2 c3 C e=>up c o c1 (T c o c1 c2 c3 C e)
theorem zt {b c:Bool}{z TI TO i1 i2 l1 l2:Addr}{k:Nat}{xs ys:Array Value}{p q:Value}{Q:Option Value->Shared->Prop} (C:A.handled=none) (D:Ks z TI TO i1 i2 l1 l2)
  (hz:KY s.heap z TI TO .none) (m:Kd s.heap TI (.ref i1) (.ref i2)) (n:Kd s.heap TO p q) (h1:cr b s.heap i1 l1 k) (h2:cr c s.heap i2 l2 k) (j:cH b s.heap l1 xs) (r:cH c s.heap l2 ys) (l:xs[k]? = none\/ys[k]? = none)
  (G:∀ h',BQ z TO i1 i2 s.heap h'->Q none { s with heap:=h' }):qb (q3 prog w) A (KO (.ref z)) Q E s:=by
 have H:s.TypeIs (.ref z) "zip" := ⟨_,hz,rfl⟩
 unfold KO
 refine jj (KC (J4 (name:=Str.ofString "__next__") H F.slot_zip_next (J3 F.slot_zip_next H F.entry_zip_next ?_ (F.args_zip_next_1 _))))
 show qb _ _ (Qq (.ref z) 2 >>= _) _ _ _
 refine jj (z5 hz rfl (x:=.bool false) rfl ?_)
 show qb _ _ (Qq (.ref z) 3 >>= _) _ _ _
 refine jj (z5 hz rfl (x:=.ref TI) rfl (jj (J1 m rfl ?_)))
 show qb _ _ (Builtin.SmallTypes.ownedTupleIsFree (.ref z) >>= _) _ _ _
 refine jj ?_
 unfold Builtin.SmallTypes.ownedTupleIsFree
 refine jj (z5 hz rfl (x:=.none) rfl (ke ?_))
 simp only[if_true]
 refine jj (Ko (jj (z5 hz rfl (x:=.ref TO) rfl (jj (Kb hz (by simp) λM f g=>?_)))))
 replace f:KY M z TI TO .ellipsis:=f
 refine jj ?_
 simp only[List.zipIdx_cons,List.zipIdx_nil,Ji,Jg]
 refine jj (jj (Qn ?_))
 show qb _ _ (Builtin.SmallTypes.nextOf (.ref i1) >>= _) _ _ _
 cases hx:xs[k]? with
 | none =>
  refine jj (fh C (h1.at λo e=>g.extBut _ o D.i1z e) (j.at λo e=>g.extBut _ o D.l1z e) hx λt e i u=>?_)
  obtain⟨v,a,d⟩:=u
  have I:KY t z TI TO .ellipsis:=i _ _ D.i1z.symm f
  have y:e≠z:=λw'=>by subst w';rw[I] at a;cases a;simp at d
  exact Kb I (by simp) λhc _ sc=>jj (Kr (T := "StopIteration") (b:=true) ⟨v,sc.extBut _ _ y a,d⟩ QJ (ke (G hc λc o c1 _ c3 _ x=>sc.extBut _ _ c1 (i _ _ c3 (g.extBut _ _ c1 x)))))
 | some x =>
  have N:ys[k]? = none:=by
   rcases l with h|h
   ·rw[hx] at h;cases h
   ·exact h
  refine jj (gQ (h1.at λo e=>g.extBut _ o D.i1z e) (j.at λo e=>g.extBut _ o D.l1z e) hx λt O i=>ke ?_)
  have tb:Kd t TO p q:=i.extBut _ _ D.TOi1 (g.extBut _ _ D.TOz n)
  refine jj (J1 tb rfl (jj (Qh tb λhc tc sc=>?_)))
  refine jj (KS (ke ?_))
  refine jj (jj (Qn ?_))
  show qb _ _ (Builtin.SmallTypes.nextOf (.ref i2) >>= _) _ _ _
  refine jj (fh C (h2.at λo e=>sc.extBut _ o D.TOi2.symm (i.extBut _ o D.i12.symm (g.extBut _ o D.i2z e))) (r.at λo e=>sc.extBut _ o D.l2TO (i.extBut _ o D.l2i1 (g.extBut _ o D.l2z e))) N λhd e J B=>?_)
  obtain⟨v,a,d⟩:=B
  have K:KY hd z TI TO .ellipsis:=J _ _ D.i2z.symm (sc.extBut _ _ D.TOz.symm (i.extBut _ _ D.i1z.symm f))
  have y:e≠z:=λw'=>by subst w';rw[K] at a;cases a;simp at d
  exact Kb K (by simp) λP _ L=>jj (Kr (T := "StopIteration") (b:=true) ⟨v,L.extBut _ _ y a,d⟩ QJ (ke (G P λc o c1 c2 c3 R x=>L.extBut _ _ c1 (J _ _ R (sc.extBut _ _ c2 (i.extBut _ _ c3 (g.extBut _ _ c1 x)))))))
end
theorem bc {X:Cx}{pins:List (Addr×Obj)}{σ:St}{H:Hp}{s:Shared}{b:Bool}{a c:Addr}{xs:List V} (I:Inv X pins σ H s) (h:SqB X.K H b a xs) (f:eU X pins H c):a≠c:=by
 obtain⟨g,i,j,d,k,l⟩:=f
 have key:(∃ o,H a=some o)\/∃ o,X.K.lookup a=some o:=by
  cases b with
  | false =>
   rcases h with (h|⟨o,h⟩)|⟨o,_,_,hk,_⟩
   ·exact .inl ⟨_,h⟩
   ·exact .inl ⟨_,h⟩
   ·exact .inr ⟨o,hk⟩
  | true =>
   rcases h with (h|⟨o,h⟩)|⟨o,_,_,hk,_⟩
   ·exact .inl ⟨_,h⟩
   ·exact .inl ⟨_,h⟩
   ·exact .inr ⟨o,hk⟩
 rintro rfl
 rcases key with⟨o,e⟩|⟨o,e⟩
 ·rw[g] at e;cases e
 ·have q:=I.ok.mod.kin a o e
  rcases d with d|d
  ·exact I.ok.noex a o q d
  ·exact absurd (HV (HL q) (HQ I.ok.bsz d)) (IU _)
noncomputable def Itz (K:PySem.W.Frag) (b c:Bool) (l1 l2:Addr):It :=
  ⟨λi H=>∃ xs ys x y,SqB K H b l1 xs/\SqB K H c l2 ys/\xs[i]? = some x/\ys[i]? = some y,
   λi H v H'=>∃ p x y,v=.ref p/\H p=none/\H'=upd H p (.tup [x,y])/\(∀ xs,SqB K H b l1 xs->xs[i]? = some x)/\∀ ys,SqB K H c l2 ys->ys[i]? = some y,
   λi H=>∃ xs ys,SqB K H b l1 xs/\SqB K H c l2 ys/\(xs.length<=i\/ys.length<=i)⟩
structure ZAp (z TI TO i1 i2:Addr):Prop where
 TIz:TI≠z
 TOz:TO≠z
 i1z:i1≠z
 i2z:i2≠z
 TITO:TI≠TO
 TIi1:TI≠i1
 TIi2:TI≠i2
 TOi1:TO≠i1
 TOi2:TO≠i2
 i12:i1≠i2
theorem vC {P:zb}{w:zf}{K:PySem.W.Frag}{es:List Expr}{kk:Nat}{pos:Pos} (b c:Bool) (z TI TO i1 i2 l1 l2:Addr) (a:ZAp z TI TO i1 i2) :
  zi P w K (.Tuple es kk pos) (Itz K b c l1 l2) [z,TI,TO,i1,i2] z
   (λi h=>KY h z TI TO .none/\Kd h TI (.ref i1) (.ref i2)/\(∃ p q,Kd h TO p q)/\cr b h i1 l1 i/\cr c h i2 l2 i) where
 mem:=by simp
 obj := λi h st d hd=>by
  obtain⟨hz,l,⟨p,q,m⟩,h1,h2⟩:=st
  obtain⟨Z,e1,d1⟩:=h1.obj
  obtain⟨o2,e2,d2⟩:=h2.obj
  simp only[HP,Ir,or_false] at hd
  rcases hd with rfl|rfl|rfl|rfl|rfl
  ·exact⟨_,hz,λv e=>by
    have M:Data.fields _=Data.cell v:=e
    cases M⟩
  ·exact⟨_,l,λv e=>by
    have M:Data.seq _ _=Data.cell v:=e
    cases M⟩
  ·exact⟨_,m,λv e=>by
    have M:Data.seq _ _=Data.cell v:=e
    cases M⟩
  ·exact⟨Z,e1,λv e=>by rw[d1] at e;cases e⟩
  ·exact⟨o2,e2,λv e=>by rw[d2] at e;cases e⟩
 keep:=λi h h' st k=>by
  obtain⟨hz,l,⟨p,q,m⟩,h1,h2⟩:=st
  exact⟨k z (by simp) _ hz,k TI (by simp) _ l,⟨p,q,k TO (by simp) _ m⟩,h1.at λo e=>k i1 (by simp) o e,h2.at λo e=>k i2 (by simp) o e⟩
 item := by
  intro X S hw hK hc i pins s σ H E I j st U
  subst S hw hK
  obtain⟨xs,ys,x,y,f,g,hx,hy⟩:=U
  obtain⟨hz,l,⟨p,q,m⟩,h1,h2⟩:=st
  obtain⟨r,B,C⟩:=I.seq f
  obtain⟨t,F,G⟩:=I.seq g
  obtain⟨u,hu,ru⟩:=B.get hx
  obtain⟨v,hv,rv⟩:=F.get hy
  have D:Ks z TI TO i1 i2 l1 l2:=⟨a.TIz,a.TOz,a.i1z,a.i2z,a.TITO,a.TIi1,a.TIi2,a.TOi1,a.TOi2,a.i12,
   bc I f (j z (by simp)),bc I f (j TO (by simp)),bc I f (j i1 (by simp)),bc I f (j i2 (by simp)),bc I g (j z (by simp)),bc I g (j TO (by simp)),bc I g (j i1 (by simp)),bc I g (j i2 (by simp))⟩
  refine vy D hz l m h1 h2 C G (x:=u) (y:=v) (by simpa using hu) (by simpa using hv) λh' a1 a2 a3 a4 a5 hk=>⟨_,rfl,wpAny_letOwnedTupleGo_zip a1 λN V n=>?_⟩
  have O:z<s.heap.objs.size:=HL hz
  have I2:Inv X pins σ H { s with heap:=N }:=I.turnedN (t':=s.toks) j λd o hd e=>n.extBut d o (λw'=>hd (by simp[w'])) (hk d o (λw'=>hd (by simp[w'])) (λw'=>hd (by simp[w'])) (λw'=>hd (by simp[w'])) (λw'=>hd (by simp[w'])) e)
  have g2:N.get? s.heap.objs.size=some { cls:=.type "tuple",data:=.seq #[u,v] }:=n.extBut _ _ (Iz O) a5
  have hn:H s.heap.objs.size=none:=I.hok.fresh (HK _)
  refine⟨.ref s.heap.objs.size,upd H s.heap.objs.size (.tup [x,y]),I2.track (T:=s.heap.objs.size) (o:=.tup [x,y]) (I.fpOk (HK _) hn) ?_,rfl,?_,⟨V,?_,⟨u,v,?_⟩,?_,?_⟩,λd hd=>?_⟩
  ·exact⟨by show 2<=sizeLine;decide,[u,v],.cons ru (.cons rv .nil),_,g2,rfl,⟨_,rfl⟩,rfl⟩
  ·exact⟨_,x,y,rfl,hn,rfl,λzs J=>by rw[I.seq_inj J f];exact hx,λzs J=>by rw[I.seq_inj J g];exact hy⟩
  ·exact n.extBut _ _ a.TIz (hk _ _ a.TIz a.TITO a.TIi1 a.TIi2 l)
  ·exact n.extBut _ _ a.TOz a2
  ·exact a3.at λo e=>n.extBut _ o a.i1z e
  ·exact a4.at λo e=>n.extBut _ o a.i2z e
  ·have Y:d<s.heap.objs.size:=by
    obtain⟨Z,e1,_⟩:=h1.obj
    obtain⟨o2,e2,_⟩:=h2.obj
    simp only[HP,Ir,or_false] at hd
    rcases hd with rfl|rfl|rfl|rfl|rfl
    ·exact O
    ·exact HL l
    ·exact HL m
    ·exact HL e1
    ·exact HL e2
   rw[al (HZ Y)]
   exact(j d hd).1
 done:=by
  intro X S hw hK hc i pins s σ H E I j st U
  subst S hw hK
  obtain⟨xs,ys,f,g,R⟩:=U
  obtain⟨hz,l,⟨p,q,m⟩,h1,h2⟩:=st
  obtain⟨r,B,C⟩:=I.seq f
  obtain⟨t,F,G⟩:=I.seq g
  have D:Ks z TI TO i1 i2 l1 l2:=⟨a.TIz,a.TOz,a.i1z,a.i2z,a.TITO,a.TIi1,a.TIi2,a.TOi1,a.TOi2,a.i12,
   bc I f (j z (by simp)),bc I f (j TO (by simp)),bc I f (j i1 (by simp)),bc I f (j i2 (by simp)),bc I g (j z (by simp)),bc I g (j TO (by simp)),bc I g (j i1 (by simp)),bc I g (j i2 (by simp))⟩
  have a0:=B.length
  have a6:=F.length
  have L:r.toArray[i]? = none\/t.toArray[i]? = none:=by
   rcases R with h|h
   ·exact .inl (by simp;omega)
   ·exact .inr (by simp;omega)
  refine zt (I.ok.hd hc) D hz l m h1 h2 C G L λh' hk=>⟨rfl,?_⟩
  exact I.turnedN (t':=s.toks) j λd o hd e=>hk d o (λw'=>hd (by simp[w'])) (λw'=>hd (by simp[w'])) (λw'=>hd (by simp[w'])) (λw'=>hd (by simp[w'])) e
 self:=λA i s Q E st h=>Qw st.1 h
section
variable {X:Cx}
noncomputable def GG (K:PySem.W.Frag) (b c:Bool) (ta:TA):TI:=λσ H R=>ta σ H λvs H1=>∃ l1 l2 xs ys,vs=[.ref l1,.ref l2]/\SqB K H1 b l1 xs/\SqB K H1 c l2 ys/\R (Itz K b c l1 l2) H1
theorem C3 (b c:Bool) {es:List Expr}{y:Nat}{a:Pos}{e1 e2:Expr}{ta:TA}{p pos:Pos} (A:Gl X "zip") (B:X.mg "zip" = none) (i:Kh "zip" = some (.type "zip")) (C:PA X [e1,e2] ta)
  (D:kq [e1,e2] X.env=[(false,eval e1 X.env),(false,eval e2 X.env)]:=by rfl) (e:kq [e2] X.env=[(false,eval e2 X.env)]:=by rfl) :
  PI X (.Tuple es y a) (.Call (.Name "zip" p) [e1,e2] [] pos) (GG X.K b c ta):=by
 intro pins s σ H R I h
 refine QV (dh I A B i (PyProof.Rows.callWith_type1 (thn (C pos pins s σ H _ I h) λus s1 j=>?_) (by rw[D,e]) (by rw[e];rfl)))
 obtain⟨vs,H1,f,r1,q1⟩:=j
 obtain⟨l1,l2,xs,ys,rfl,k,l,q⟩:=q1
 obtain⟨u,v,rfl,E,F⟩:=sr r1
 cases (show u=Value.ref l1 from E)
 cases (show v=Value.ref l2 from F)
 obtain⟨w,G,m⟩:=f.seq k
 obtain⟨x,J,o⟩:=f.seq l
 refine oB m o λh' hz r t h1 h2 hk=>Qw hz ?_
 have L:Inv X pins σ H1 { s1 with heap:=h' }:=f.kept (t':=s1.toks) hk
 have M:ZAp (s1.heap.objs.size+4) (s1.heap.objs.size+2) (s1.heap.objs.size+3) s1.heap.objs.size (s1.heap.objs.size+1):=by
  refine⟨?_,?_,?_,?_,?_,?_,?_,?_,?_,?_⟩ <;> (intro z;exact absurd (congrArg (λ(n:Nat)=>n - s1.heap.objs.size) z) (by simp))
 refine⟨s1.heap.objs.size+4,[s1.heap.objs.size+4,s1.heap.objs.size+2,s1.heap.objs.size+3,s1.heap.objs.size,s1.heap.objs.size+1],_,_,H1,rfl,L,vC b c _ _ _ _ _ l1 l2 M,⟨hz,r,⟨_,_,t⟩,h1,h2⟩,λd hd=>?_,q⟩
 have g:s1.heap.objs.size<=d:=by
  simp only[HP,Ir,or_false] at hd
  rcases hd with rfl|rfl|rfl|rfl|rfl
  ·exact IJ _ _
  ·exact IJ _ _
  ·exact IJ _ _
  ·exact HK _
  ·exact IJ _ _
 exact f.fpOk g (f.hok.fresh g)
end
noncomputable def SnL (K:PySem.W.Frag) (N:Addr->Prop) (H:Hp) (a:Addr) (xs:List V):Prop :=
 (Rd H a (.lst xs)/\¬N a)\/∃ (o:Obj) (b:Array Value) (n:Nat),K.lookup a=some o/\o.cls=.type "list" /\ o.dict=none/\o.data=.seq b n/\b.size<=sizeLine/\aX xs b.toList
noncomputable def SnT (K:PySem.W.Frag) (N:Addr->Prop) (H:Hp) (a:Addr) (xs:List V):Prop :=
 (Rd H a (.tup xs)/\¬N a)\/∃ (o:Obj) (b:Array Value) (n:Nat),K.lookup a=some o/\(o.cls=.type "tuple" /\ o.dict=none)/\o.data=.seq b n/\b.size<=sizeLine/\aX xs b.toList
noncomputable def aV (N:Addr->Prop) (H H':Hp):Prop:=∀ b o,¬N b->H b=some o->H' b=some o
theorem aV.refl {N:Addr->Prop}{H:Hp}:aV N H H:=λ_ _ _ e=>e
theorem aV.trans {N:Addr->Prop}{H H1 H2:Hp} (a:aV N H H1) (b:aV N H1 H2):aV N H H2:=λc o n e=>b c o n (a c o n e)
theorem aV.own {N:Addr->Prop}{H:Hp}{p:Addr}{o:HO} (h:N p):aV N H (upd H p o):=λb u n e=>by
 have q:b≠p:=λz=>n (by rw[z];exact h)
 rw[al q]
 exact e
theorem aV.mono {N M:Addr->Prop}{H H':Hp} (a:aV N H H') (h:∀ b,N b->M b):aV M H H':=λb o n e=>a b o (λz=>n (h b z)) e
theorem aV.same {N:Addr->Prop}{H H':Hp} (a:aR H H'):aV N H H':=λb o _ e=>a b o e
noncomputable abbrev N0:Addr->Prop:=λ_=>False
noncomputable abbrev N1 (d:Addr):Addr->Prop:=λb=>b=d
theorem aV.none {H H':Hp} (a:aV N0 H H'):aR H H':=λb o e=>a b o (λz=>z) e
section
variable {K:PySem.W.Frag}{N M:Addr->Prop}{H H':Hp}{a:Addr}{xs:List V}
theorem SnL.of (h:H a=some (.lst xs)) (n:¬N a):SnL K N H a xs:=.inl ⟨.inl h,n⟩
theorem SnT.of (h:H a=some (.tup xs)) (n:¬N a):SnT K N H a xs:=.inl ⟨.inl h,n⟩
theorem SnL.sq (h:SnL K N H a xs):SqL K H a xs:=by
 rcases h with⟨h,_⟩|h
 ·exact .inl h
 ·exact .inr h
theorem SnT.sq (h:SnT K N H a xs):SqT K H a xs:=by
 rcases h with⟨h,_⟩|h
 ·exact .inl h
 ·exact .inr h
theorem SnL.keep (h:SnL K N H a xs) (k:aV N H H'):SnL K N H' a xs:=by
 rcases h with⟨h|⟨o,h⟩,n⟩|h
 ·exact .inl ⟨.inl (k _ _ n h),n⟩
 ·exact .inl ⟨.inr ⟨o,k _ _ n h⟩,n⟩
 ·exact .inr h
theorem SnT.keep (h:SnT K N H a xs) (k:aV N H H'):SnT K N H' a xs:=by
 rcases h with⟨h|⟨o,h⟩,n⟩|h
 ·exact .inl ⟨.inl (k _ _ n h),n⟩
 ·exact .inl ⟨.inr ⟨o,k _ _ n h⟩,n⟩
 ·exact .inr h
theorem SnL.to (h:SnL K N H a xs) (m:∀ b o,H b=some o->M b->N b):SnL K M H a xs:=by
 rcases h with⟨h|⟨o,h⟩,n⟩|h
 ·exact .inl ⟨.inl h,λz=>n (m _ _ h z)⟩
 ·exact .inl ⟨.inr ⟨o,h⟩,λz=>n (m _ _ h z)⟩
 ·exact .inr h
theorem SnT.to (h:SnT K N H a xs) (m:∀ b o,H b=some o->M b->N b):SnT K M H a xs:=by
 rcases h with⟨h|⟨o,h⟩,n⟩|h
 ·exact .inl ⟨.inl h,λz=>n (m _ _ h z)⟩
 ·exact .inl ⟨.inr ⟨o,h⟩,λz=>n (m _ _ h z)⟩
 ·exact .inr h
end
mutual
inductive DN (K:PySem.W.Frag) (N:Addr->Prop) (H:Hp):V->PyData->Prop
 | non:DN K N H .non .none
 | bl (b:Bool):DN K N H (.bl b) (.bool b)
 | int (i:Int):DN K N H (.int i) (.int i)
 | lst {a:Addr}{xs:List V}{ds:List PyData}:SnL K N H a xs->DNs K N H xs ds->DN K N H (.ref a) (.list ds)
 | tup {a:Addr}{xs:List V}{ds:List PyData}:SnT K N H a xs->DNs K N H xs ds->DN K N H (.ref a) (.tuple ds)
 | dct {a:Addr}{es:List (bh×Addr×V)}{kvs:List (bh×PyData)}:¬N a->H a=some (.ext (cI a es))->DNs K N H (es.map λp=>V.ref p.2.1) (kvs.map λp=>cY p.1)->DNs K N H (es.map λp=>p.2.2) (kvs.map λp=>p.2)->es.map (λp=>p.1)=kvs.map (λp=>p.1)->DN K N H (.ref a) (fj kvs)
 | idc {a:Addr}{es:List (Int×V)}{kvs:List (Int×PyData)}:¬N a->H a=some (.ext (bO a es))->DNs K N H (es.map λp=>p.2) (kvs.map λp=>p.2)->es.map (λp=>p.1)=kvs.map (λp=>p.1)->DN K N H (.ref a) (i8 kvs)
 | fz {v:V}{ds:List PyData}:DN K N H v (.list ds)->DN K N H v (fzD ds)
inductive DNs (K:PySem.W.Frag) (N:Addr->Prop) (H:Hp):List V->List PyData->Prop
 | nil:DNs K N H [] []
 | cons {x:V}{xs:List V}{d:PyData}{ds:List PyData}:DN K N H x d->DNs K N H xs ds->DNs K N H (x::xs) (d::ds)
end
section
variable {K:PySem.W.Frag}{N M:Addr->Prop}{H H':Hp}
theorem DN.dv {v:V}{d:PyData} (h:DN K N H v d):DV K H v d :=
 DN.rec (motive_1:=λv d _=>DV K H v d) (motive_2:=λv d _=>DVs K H v d)
 .non (λb=>.bl b) (λi=>.int i)
 (λh _ q=>.lst h.sq q) (λh _ q=>.tup h.sq q)
 (λ_ h _ _ e q r=>.dct h q r e) (λ_ h _ e q=>.idc h q e) (λ_ h=>.fz h) .nil (λ_ _ h q=>.cons h q) h
theorem DNs.dv {v:List V}{d:List PyData} (h:DNs K N H v d):DVs K H v d :=
 DNs.rec (motive_1:=λv d _=>DV K H v d) (motive_2:=λv d _=>DVs K H v d)
 .non (λb=>.bl b) (λi=>.int i)
 (λh _ q=>.lst h.sq q) (λh _ q=>.tup h.sq q)
 (λ_ h _ _ e q r=>.dct h q r e) (λ_ h _ e q=>.idc h q e) (λ_ h=>.fz h) .nil (λ_ _ h q=>.cons h q) h
theorem DN.keep (k:aV N H H') {v:V}{d:PyData} (h:DN K N H v d):DN K N H' v d :=
 DN.rec (motive_1:=λv d _=>DN K N H' v d) (motive_2:=λv d _=>DNs K N H' v d)
 .non (λb=>.bl b) (λi=>.int i)
 (λh _ q=>.lst (h.keep k) q) (λh _ q=>.tup (h.keep k) q)
 (λn h _ _ e q r=>.dct n (k _ _ n h) q r e) (λn h _ e q=>.idc n (k _ _ n h) q e) (λ_ h=>.fz h) .nil (λ_ _ h q=>.cons h q) h
theorem DNs.keep (k:aV N H H') {v:List V}{d:List PyData} (h:DNs K N H v d):DNs K N H' v d :=
 DNs.rec (motive_1:=λv d _=>DN K N H' v d) (motive_2:=λv d _=>DNs K N H' v d)
 .non (λb=>.bl b) (λi=>.int i)
 (λh _ q=>.lst (h.keep k) q) (λh _ q=>.tup (h.keep k) q)
 (λn h _ _ e q r=>.dct n (k _ _ n h) q r e) (λn h _ e q=>.idc n (k _ _ n h) q e) (λ_ h=>.fz h) .nil (λ_ _ h q=>.cons h q) h
theorem DN.to (m:∀ b o,H b=some o->M b->N b) {v:V}{d:PyData} (h:DN K N H v d):DN K M H v d :=
 DN.rec (motive_1:=λv d _=>DN K M H v d) (motive_2:=λv d _=>DNs K M H v d)
 .non (λb=>.bl b) (λi=>.int i)
 (λh _ q=>.lst (h.to m) q) (λh _ q=>.tup (h.to m) q)
 (λn h _ _ e q r=>.dct (λz=>n (m _ _ h z)) h q r e) (λn h _ e q=>.idc (λz=>n (m _ _ h z)) h q e) (λ_ h=>.fz h) .nil (λ_ _ h q=>.cons h q) h
theorem DNs.to (m:∀ b o,H b=some o->M b->N b) {v:List V}{d:List PyData} (h:DNs K N H v d):DNs K M H v d :=
 DNs.rec (motive_1:=λv d _=>DN K M H v d) (motive_2:=λv d _=>DNs K M H v d)
 .non (λb=>.bl b) (λi=>.int i)
 (λh _ q=>.lst (h.to m) q) (λh _ q=>.tup (h.to m) q)
 (λn h _ _ e q r=>.dct (λz=>n (m _ _ h z)) h q r e) (λn h _ e q=>.idc (λz=>n (m _ _ h z)) h q e) (λ_ h=>.fz h) .nil (λ_ _ h q=>.cons h q) h
theorem DNs.ind {C:List V->List PyData->Prop} (n:C [] []) (c:∀ {x:V}{xs:List V}{d:PyData}{ds:List PyData},DN K N H x d->DNs K N H xs ds->C xs ds->C (x::xs) (d::ds)) {v:List V}{d:List PyData} (h:DNs K N H v d):C v d :=
 DNs.rec (motive_1:=λ_ _ _=>True) (motive_2:=λv d _=>C v d) trivial (λ_=>trivial) (λ_=>trivial)
 (λ_ _ _=>trivial) (λ_ _ _=>trivial)
 (λ_ _ _ _ _ _ _=>trivial) (λ_ _ _ _ _=>trivial) (λ_ _=>trivial) n (λh q _ i=>c h q i) h
theorem DNs.len {v:List V}{d:List PyData} (h:DNs K N H v d):v.length=d.length:=DNs.ind (C:=λv d=>v.length=d.length) rfl (λ_ _ i=>by rw[Iq,Iq,i]) h
theorem DNs.get:∀ {v:List V}{d:List PyData}{i:Nat}{x:V},DNs K N H v d->v[i]? = some x->∃ e,d[i]? = some e/\DN K N H x e
 | _,_,_,_,.nil,e=>by simp at e
 | _,_,0,_,.cons h _,e=>by simp at e;subst e;exact⟨_,rfl,h⟩
 | _,_,i+1,_,.cons _ q,e=>by
  obtain⟨d,h1,h2⟩:=DNs.get (i:=i) q (by simpa using e)
  exact⟨d,by simpa using h1,h2⟩
theorem DNs.app {v w:List V}{d e:List PyData} (h:DNs K N H v d) (q:DNs K N H w e):DNs K N H (v++w) (d++e):=DNs.ind (C:=λv d=>DNs K N H (v++w) (d++e)) q (λh _ i=>.cons h i) h
noncomputable abbrev pI (ns:List Int):PyData:=.list (ns.map .int)
theorem kl:∀ ns:List Int,DNs K N H (ns.map V.int) (ns.map .int)
 | []=>.nil
 | n::r=>.cons (.int n) (kl r)
theorem DNs.ints:∀ {ns:List Int}{v:List V},DNs K N H v (ns.map .int)->v=ns.map V.int
 | [],_,.nil=>rfl
 | n::r,_,.cons h q=>by
  cases h
  rw[q.ints];rfl
theorem DN.ofI {a:Addr}{ns:List Int} (h:SnL K N H a (ns.map V.int)):DN K N H (.ref a) (pI ns):=.lst h (kl ns)
theorem DN.list {v:V}{ds:List PyData} (h:DN K N H v (.list ds)):∃ a xs,v=.ref a/\SnL K N H a xs/\DNs K N H xs ds:=by
 cases h with|lst h q=>exact⟨_,_,rfl,h,q⟩
theorem DN.tuple {v:V}{ds:List PyData} (h:DN K N H v (.tuple ds)):∃ a xs,v=.ref a/\SnT K N H a xs/\DNs K N H xs ds:=by
 cases h with|tup h q=>exact⟨_,_,rfl,h,q⟩
theorem DN.of2 {a:Addr}{x y:V}{d e:PyData} (s:SnT K N H a [x,y]) (h1:DN K N H x d) (h2:DN K N H y e):DN K N H (.ref a) (.tuple [d,e]):=.tup s (.cons h1 (.cons h2 .nil))
end
theorem iH:∀ a b:List Int,PyData.eqvAll (a.map .int) (b.map .int)=decide (a=b)
 | [],[]=>by simp[PyData.eqvAll]
 | [],_::_=>by simp[PyData.eqvAll]
 | _::_,[]=>by simp[PyData.eqvAll]
 | x::a,y::b=>by
  rw[HU,HU,PyData.eqvAll,iH a b]
  simp only[PyData.eqv]
  by_cases h:x=y <;> by_cases h':a=b <;> simp[h,h']
theorem Bf (a b:List Int):PyData.eqv (pI a) (pI b)=decide (a=b):=by
 show PyData.eqvAll _ _=_
 exact iH a b
theorem j4 (a:List Int):PyData.canLayAll0 (a.map .int)=true:=PySem.W.ke_canLayAll0 a
theorem xg (a:List Int):PyData.depthAll (a.map .int)=0:=PySem.W.ke_depthAll a
theorem Fi (a:List Int):shp (pI a):=by simp[shp,SeqAt.shaped,PyData.canLay0,PyData.depth,j4,xg]
noncomputable def Cal (P:zb) (w:zf) (K:PySem.W.Frag) (mg:Str->Option Value) (base:Heap) (x:Str) (k:Nat) (sp:Sp):Prop :=
 ∃ (f:Addr) (fd:k0) (ps:List Str),bR P w K mg base CX0 k f fd ps sp/\a9 K fd ps []/\PySem.W.keepIn K (.ref f)=true/\mg x=some (.ref f)
section
variable {X:Cx}{x:Str}{p pos:Pos}{e:Expr}{es:List Expr}{t:TA}{k:Nat}{sp:Sp}
theorem tO (C:Cal X.prog X.w X.K X.mg X.base x k sp) (c:cJ k X.A) (d:Gl X x) (g:PA X (e::es) t) (hd:(x==("__debug__" : Str))=false:=by decide)
  (h:kq (e::es) X.env=(false,eval e X.env)::kq es X.env:=by rfl) (a:(J0 pos (kq es X.env)).any (·.1)=false:=by rfl):PE X (.Call (.Name x p) (e::es) [] pos) (sA sp [] E0 t):=by
 obtain⟨f,fd,ps,F,b,kp,m⟩:=C
 exact Av F c d m kp b .nil FB g hd h a
end
noncomputable def bOk (N:List Str) (sc0:Kc) (N':List Str) (ix:List (Option Nat)) (sc:Kc):Bool :=
 decide (sc.kind=.function)&&decide ((sc.names.map (·.1)).Nodup)&&sc.names.all (λy=>!(y.2==.free) || decide (sc0.names.lookup y.1=some .cell) || decide (sc0.names.lookup y.1=some .free))&&decide (ix.length=N'.length) &&
 (ix.zip N').all λq=>match q.1 with
  | none=>true
  | some j=>decide (N[j]? = some q.2)&&decide (sc.names.lookup q.2=some .free)
theorem dq {X:Cx}{N N':List Str}{ix:List (Option Nat)}{sc sc0:Kc} (c:X.N=N) (d:X.env.scope=sc0) (h:bOk N sc0 N' ix sc=true):bS X.N X.env N' ix sc:=by
 rw[<-c] at h
 unfold bOk at h
 simp only[HX,decide_eq_true_eq] at h
 obtain⟨⟨⟨⟨h1,h2⟩,f⟩,g⟩,k⟩:=h
 refine⟨h1,h2,λy l m=>?_,g,λi j a=>?_⟩
 ·have q:=IK.mp f y l
  rw[m] at q
  have e:∀ z,X.env.kindOf z=sc0.names.lookup z:=λz=>by
   show X.env.scope.names.lookup z=_
   rw[d]
  rw[e]
  simpa using q
 ·have hi:i<ix.length:=(HI.mp a).1
  have b:i<N'.length:=by omega
  have n:(some j,N'[i])∈ix.zip N':=by
   rw[Js]
   refine⟨i,?_⟩
   rw[IM]
   exact⟨a,Hz b⟩
  have q:=IK.mp k _ n
  simp only[HX,decide_eq_true_eq] at q
  exact⟨N'[i],Hz b,q.1,q.2⟩
theorem Gi {X:Cx}{N1 N':List Str}{ix:List (Option Nat)}{a sc:Kc}{s:Shared}{H:Hp}{C:Addr}{fp:List Addr} (h:bOk N1 a N' ix sc=true):bS (bCx X N1 a s H C fp).N (bCx X N1 a s H C fp).env N' ix sc:=by
 unfold bOk at h
 simp only[HX,decide_eq_true_eq] at h
 obtain⟨⟨⟨⟨h1,h2⟩,e⟩,f⟩,g⟩:=h
 refine⟨h1,h2,λy k l=>?_,f,λi j b=>?_⟩
 ·have q:=IK.mp e y k
  rw[l] at q
  have c:a.names.lookup y.1=some .cell\/a.names.lookup y.1=some .free:=by simpa using q
  rcases c with c|c
  ·exact .inl (by rw[show(bCx X N1 a s H C fp).env.kindOf y.1=_ from eh (C:=C) (env:=X.env) c];rfl)
  ·rw[show(bCx X N1 a s H C fp).env.kindOf y.1=_ from eh (C:=C) (env:=X.env) c]
   split
   ·exact .inl rfl
   ·exact .inr rfl
 ·have hi:i<ix.length:=(HI.mp b).1
  have d:i<N'.length:=by omega
  have m:(some j,N'[i])∈ix.zip N':=by
   rw[Js]
   refine⟨i,?_⟩
   rw[IM]
   exact⟨b,Hz d⟩
  have q:=IK.mp g _ m
  simp only[HX,decide_eq_true_eq] at q
  exact⟨N'[i],Hz d,q.1,q.2⟩
structure Bn (mg:Str->Option Value):Prop where
 len:mg "len" = none
 range:mg "range" = none
 min:mg "min" = none
 max:mg "max" = none
 enumerate:mg "enumerate" = none
 zip:mg "zip" = none
 all:mg "all" = none
 any:mg "any" = none
 isinstance:mg "isinstance" = none
 bool:mg "bool" = none
 int:mg "int" = none
 list:mg "list" = none
 tuple:mg "tuple" = none
 sorted:mg "sorted" = none
 str:mg "str" = none
 sum:mg "sum" = none
 abs:mg "abs" = none
 reversed:mg "reversed" = none
theorem lq {X:Cx}:OpR X (z4 .IsNot) (λx y H Q=>∃ b c,x=.bl b/\y=.bl c/\Q (.bl (b != c)) H):=by
 intro pins s σ H x y v u Q I r1 a h
 obtain⟨b,c,rfl,rfl,q⟩:=h
 cases (show v=Value.bool b from r1)
 cases (show u=Value.bool c from a)
 exact isnot_bool ⟨.bl _,H,I,rfl,q⟩
theorem aR.new {H:Hp}{p:Addr}{o:HO} (h:H p=none):aR H (upd H p o):=λb u e=>by rw[al (ay e h)];exact e
theorem Cal.mk {P:zb}{w:zf}{K:PySem.W.Frag}{mg:Str->Option Value}{base:Heap}{x:Str}{st:Stmt}{f:Addr}{fd:k0}{k:Nat}{ps:List Str}{sp:Sp} (F:Fun K x x st f fd) (m:mg x=some (.ref f)) (b:a9 K fd ps [])
  (G : bR P w K mg base CX0 k f fd ps sp):Cal P w K mg base x k sp:=⟨f,fd,ps,G,b,F.kp,m⟩
theorem au:1000000<=sizeLine:=by decide
section
variable {X:Cx}{K:PySem.W.Frag}(hK:X.K=K)
include hK
theorem fB:fw X (.builtin "len") (λxs H Q=>∃ p ys,xs=[.ref p]/\(SqL K H p ys\/SqT K H p ys)/\Q (.int ys.length) H):=by subst hK;exact mq
theorem Hd:SlR X (Gu K):=by subst hK;exact zM
theorem GD (a:X.A.units+64<Kg):OpR X (z4 .Eq) (Fu K):=by subst hK;exact Dg a
theorem He (a:X.A.units+64<Kg):OpR X (z4 .NotEq) (Fp K):=by subst hK;exact De a
theorem kIn:OpR X (z4 .In) (rIn K false):=by subst hK;exact tY
theorem BY (hc:X.calm=true):fw X (.builtin "all") (λxs H Q=>∃ (a:Addr) (bs:List Bool),xs=[.ref a]/\SqL K H a (bs.map V.bl)/\Q (.bl (bs.all id)) H):=by subst hK;exact xA hc
theorem GF (hc:X.calm=true):fw X (.builtin "any") (λxs H Q=>∃ (a:Addr) (bs:List Bool),xs=[.ref a]/\SqL K H a (bs.map V.bl)/\Q (.bl (bs.any id)) H):=by subst hK;exact xz hc
theorem Dy:fw X (.type "tuple") (λxs H Q=>∃ p ys,xs=[.ref p]/\((SqL K H p ys/\∀ l,H l=none->Q (.ref l) (upd H l (.tup ys)))\/(SqT K H p ys/\Q (.ref p) H))):=by subst hK;exact kx
variable {tg:Expr}
theorem Dq {l:Expr}{tl:TE} (a:PE X l tl):PI X tg l (DK K tl):=by subst hK;exact Ai a
theorem FL {l:Expr}{tl:TE} (a:PE X l tl):PI X tg l (GH K tl):=by subst hK;exact C4 a
theorem Ds (b:Bool) {es:List Expr}{d:Nat}{c:Pos}{a:Expr}{ta:TA}{p pos:Pos} (e:Gl X "enumerate") (f:X.mg "enumerate" = none) (g:PA X [a] ta) (h:kq [a] X.env=[(false,eval a X.env)]:=by rfl) :
  PI X (.Tuple es d c) (.Call (.Name "enumerate" p) [a] [] pos) (DL K b ta):=by subst hK;exact Aj b e f PyProof.Rows.boot_enumerate g h
theorem FK (b c:Bool) {es:List Expr}{e:Nat}{a:Pos}{e1 e2:Expr}{ta:TA}{p pos:Pos} (f:Gl X "zip") (g:X.mg "zip" = none) (h:PA X [e1,e2] ta)
  (i:kq [e1,e2] X.env=[(false,eval e1 X.env),(false,eval e2 X.env)]:=by rfl) (d:kq [e2] X.env=[(false,eval e2 X.env)]:=by rfl) :
  PI X (.Tuple es e a) (.Call (.Name "zip" p) [e1,e2] [] pos) (GG K b c ta):=by subst hK;exact C3 b c f g PyProof.Rows.boot_zip h i d
theorem FM {pos:Pos}{es:List Expr}{k:Nat}{t:TGs}{n:Nat} (hc:X.calm=true) (h:PGs X es t) (hn:(J6 es X.env).length=n:=by rfl) (a:(J6 es X.env).findIdx? (·.1)=none:=by rfl):PG X (.Tuple es k pos) (GI K n t):=by
 subst hK;exact C6 hc h hn a
theorem yA {a:Expr}{ta:TE} (c:PE X a ta) (d:∀ b,Qk a X.env b=(do let v <-b;KD a.pos;Kk [v] (QE v))):PT X a (λσ H Q=>ta σ H λx H'=>∃ k,EW K x H' k/\Q k H'):=by
 subst hK;exact vT c d
variable {o e:Expr}{es:List Expr}{to:TE}{t:TA}{name:Str}{apos cpos:Pos}{T id:String}{r:V->List V->Hp->VK->Prop}
theorem GE (pa:QN T) (slot:Slot T name id) (c:typeOf (.builtin id)=pure (.type "method_descriptor")) (d:MtR X id r) (ho:PE X o to)
  (a:Kj o name X.env (eval o X.env)=eval o X.env:=by rfl) (b:(apos.endLine==cpos.line)=true:=by rfl):PE X (.Call (.Attribute o name apos) [] [] cpos) (Gp K T r to):=by
 subst hK;exact Db pa slot c d ho a b
theorem kBm (pa:QN T) (slot:Slot T name id) (f:typeOf (.builtin id)=pure (.type "method_descriptor")) (g:MtR X id r) (ho:PE X o to) (h:PA X (e::es) t)
  (b:Kj o name X.env (eval o X.env)=eval o X.env:=by rfl)
  (d:((J0 cpos (kq (e::es) X.env)).all (λx=>!x.1)&&(QM cpos (Qj [] X.env)).all (λx=>x.1.isSome)&&decide ((e::es).length+([]:List KW).length+(if ([]:List KW).isEmpty then 0 else 1)<30))=true:=by rfl)
  (c:(apos.endLine==cpos.line)=true:=by rfl) (i:kq (e::es) X.env=(false,eval e X.env)::kq es X.env:=by rfl) (a:(J0 cpos (kq es X.env)).any (·.1)=false:=by rfl) :
  PE X (.Call (.Attribute o name apos) (e::es) [] cpos) (tBM K T r to t):=by
 subst hK;exact Fz pa slot f g ho h b d c i a
end
end _L
namespace _L
open PySem
theorem A3 {n j:Nat} (h:j<n):ixN n (j:Int)=some j:=by
 unfold ixN
 rw[if_pos (by omega),if_pos (by omega),IB]
end _L
namespace _L
open PySem PySem.Spec PyProof.Rows
noncomputable def G0 (t u:TS):TS:=λD σ H=>∃ R:St->Hp->Prop,t { D with nx:=R } σ H/\∀ σ' H',R σ' H'->u D σ' H'
theorem Ab {X:Cx}{st:Stmt}{rest:List Stmt}{t u:TS} (h1:PS X st t) (h2:PSs X rest u):PSs X (st::rest) (G0 t u):=by
 intro pins s σ H D I h
 obtain⟨R,h,a⟩:=h
 refine Qx (thn (h1 pins s σ H { D with nx:=R } I h) λf s1 q=>?_)
 cases f with
 | next =>
  obtain⟨σ',H',b,q⟩:=q
  exact h2 pins s1 σ' H' D b (a _ _ q)
 | ret v=>exact q
 | brk=>exact q
 | cont=>exact q
end _L
namespace _L
open PySem
theorem aV.put {N:Addr->Prop}{H H':Hp}{p:Addr}{o:HO} (k:aV N H H') (h:H p=Option.none):aV N H (upd H' p o):=λb u n e=>by
 rw[al (ay e h)]
 exact k b u n e
theorem DN.sqL {K:PySem.W.Frag}{H:Hp}{a:Addr}{ns:List Int} (h:SqL K H a (ns.map V.int)):DN K N0 H (.ref a) (pI ns):=DN.ofI (by
 rcases h with h|h
 ·exact .inl ⟨h,λz=>z⟩
 ·exact .inr h)
end _L
namespace _L
end _L
namespace _L
open PySem PySem.Spec PyProof.Rows
section
variable {κ β:Type}[DecidableEq κ]
noncomputable def ci (kvs:List (κ×β)) (k:κ):Option β:=(kvs.find? λp=>decide (p.1=k)).map (·.2)
noncomputable def fY (kvs:List (κ×β)) (k:κ) (v:β):List (κ×β):=if (ci kvs k).isSome=true then kvs.map λp=>if p.1=k then (p.1,v) else p else kvs++[(k,v)]
theorem wO (k:κ):ci ([]:List (κ×β)) k=none:=rfl
theorem bv (p:κ×β) (kvs:List (κ×β)) (k:κ):ci (p::kvs) k=if p.1=k then some p.2 else ci kvs k:=by
 unfold ci
 rw[Ju]
 by_cases h:p.1=k <;> simp[h]
theorem jH (kvs:List (κ×β)) (k:κ) (v:β):(fY kvs k v).length<=kvs.length+1:=by
 unfold fY
 split <;> simp
end
noncomputable def GN (K:PySem.W.Frag) (H:Hp) (v:V) (kvs:List (bh×PyData)):Prop :=
 ∃ a es,v=.ref a/\H a=some (.ext (cI a es))/\DVs K H (es.map λp=>V.ref p.2.1) (kvs.map λp=>cY p.1)/\DVs K H (es.map λp=>p.2.2) (kvs.map λp=>p.2)/\es.map (λp=>p.1)=kvs.map (λp=>p.1)
section
variable {X:Cx}{pins:List (Addr×Obj)}{σ:St}{H:Hp}{s:Shared}{a b:Addr}{k:bh}
theorem DVs.map_int:∀ {ns:List Int}{xs:List V},DVs X.K H xs (ns.map .int)->xs=ns.map V.int
 | [],_,h=>by cases h;rfl
 | n :: ns,_,h=>by
  cases h with
  | cons h t =>
   cases h
   rw[DVs.map_int t]
   rfl
theorem oC:∀ {ns:List Int}{us:List Value},aX (ns.map V.int) us->ItemsAre (J8 X.prog X.w) ns us
 | [],us,h=>by cases h;exact .nil
 | n :: ns,us,h=>by
  cases h with
  | cons r t =>
   obtain⟨tt,rfl⟩:=r
   exact .cons (cu n tt) (oC t)
theorem kU (I:Inv X pins σ H s) {x:V}{u:Value} (h:DV X.K H x (cY k)) (r:bw x u):∃ b,x=.ref b/\u=.ref b/\dr X.prog X.w s.heap k b:=by
 obtain⟨d,l⟩:=k
 obtain⟨b,xs,rfl,sq,q⟩:=DV.tupI (h:DV X.K H x (.tuple _))
 obtain⟨E,F,rfl,h1,h2⟩:=q.twoI
 obtain⟨c,ys,rfl,g,m⟩:=h2.tupI
 obtain⟨p,v,⟨o,e,y,n,hd⟩,_⟩:=I.tuple sq
 obtain⟨a,f,⟨z,e2,i,A,j⟩,_⟩:=I.tuple g
 rw[DVs.map_int (X:=X) m] at f
 obtain⟨G,B,rfl,r1,C⟩:=sr v
 rw[h1.intI] at r1
 obtain⟨t,rfl⟩:=r1
 have e3:B=Value.ref c:=C
 have D:u=Value.ref b:=r
 subst e3 D
 exact⟨b,rfl,rfl,o,t,c,n,e,y,hd,z,a.toArray,A,e2,i,j,by simpa using oC f⟩
theorem pJ (I:Inv X pins σ H s):∀ {es:List (bh×Addr×V)}{xs:List (bh×Addr×Value)}{kvs:List (bh×PyData)},
  Paired (λ(p:bh×Addr×V) (q:bh×Addr×Value)=>p.1=q.1/\p.2.1=q.2.1/\bw p.2.2 q.2.2) es xs->DVs X.K H (es.map λp=>V.ref p.2.1) (kvs.map λp=>cY p.1)->es.map (λp=>p.1)=kvs.map (λp=>p.1) ->
  ∀ x∈xs,dr X.prog X.w s.heap x.1 x.2.1
 | [],_,_,.nil,_,_=>λx hx=>by cases hx
 | p :: es,_,kvs,.cons (b:=q) r t,h,e=>by
  cases kvs with
  | nil=>simp at e
  | cons kv kvs =>
   rw[HU,HU] at h e
   injection e with e1 e2
   cases h with
   | cons h1 h2 =>
    intro x hx
    rcases HP.mp hx with rfl|hx
    ·obtain⟨b,z,_,st⟩:=kU I h1 (u:=.ref p.2.1) rfl
     cases z
     rw[<-r.1,<-r.2.1,e1]
     exact st
    ·exact pJ I t h2 e2 x hx
theorem dct_of (I:Inv X pins σ H s) {es:List (bh×Addr×V)}{kvs:List (bh×PyData)} (b:H a=some (.ext (cI a es))) (hk:DVs X.K H (es.map λp=>V.ref p.2.1) (kvs.map λp=>cY p.1)) (e:es.map (λp=>p.1)=kvs.map (λp=>p.1)) :
  es.length<=sizeLine/\(a==Kp)=false/\∃ xs,Paired (λ(p:bh×Addr×V) (q:bh×Addr×Value)=>p.1=q.1/\p.2.1=q.2.1/\bw p.2.2 q.2.2) es xs/\oz X.prog X.w s.heap a xs:=by
 obtain⟨⟨z,y,xs,r,o,ds,ep,h1,h2,c,d,f⟩,_⟩:=I.hok a _ b
 exact⟨z,y,xs,r,o,ds,ep,h1,h2,c,d,pJ I r hk e,f⟩
theorem yZ {es:List (bh×Addr×V)}{xs:List (bh×Addr×Value)}{kvs:List (bh×PyData)}{K:PySem.W.Frag} (k:bh)
  (c:Paired (λ(p:bh×Addr×V) (q:bh×Addr×Value)=>p.1=q.1/\p.2.1=q.2.1/\bw p.2.2 q.2.2) es xs) (e:es.map (λp=>p.1)=kvs.map (λp=>p.1)) (h:DVs K H (es.map λp=>p.2.2) (kvs.map λp=>p.2)) :
  (ci kvs k=none/\Qv xs k=none)\/∃ (i:Nat) (d:PyData) (v:V) (b:Addr) (u:Value),ci kvs k=some d/\Qv xs k=some (b,u)/\(es.map λp=>p.2.2)[i]? = some v/\(kvs.map λp=>p.2)[i]? = some d/\bw v u:=by
 induction c generalizing kvs with
 | nil =>
  cases kvs with
  | nil=>exact .inl ⟨rfl,rfl⟩
  | cons kv kvs=>simp at e
 | @cons p q es xs r t f =>
  cases kvs with
  | nil=>simp at e
  | cons kv kvs =>
   rw[HU,HU] at e h
   injection e with e1 e2
   cases h with
   | cons h1 h2 =>
    by_cases hk:kv.1=k
    ·have a:q.1=k:=by rw[<-r.1,e1,hk]
     refine .inr ⟨0,kv.2,p.2.2,q.2.1,q.2.2,by rw[bv,if_pos hk],?_,rfl,rfl,r.2.2⟩
     simp[Qv,Ju,a]
    ·have a:¬q.1=k:=λz=>hk (by rw[<-e1,r.1,z])
     have g:ci (kv::kvs) k=ci kvs k:=by rw[bv,if_neg hk]
     have j:Qv (q::xs) k=Qv xs k:=by simp[Qv,Ju,a]
     rw[g,j]
     rcases f e2 h2 with z|⟨i,d,v,b,u,z1,z2,z3,l,m⟩
     ·exact .inl z
     ·exact .inr ⟨i+1,d,v,b,u,z1,z2,by simpa using z3,by simpa using l,m⟩
end
section
variable {X:Cx}
noncomputable def mZ (K:PySem.W.Frag):R2:=λx y H Q=>∃ (k:bh) (kvs:List (bh×PyData)),DV K H x (cY k)/\GN K H y kvs/\Q (.bl (!(ci kvs k).isSome)) H
theorem tW (c:X.A.units+2<Kg):OpR X (z4 .NotIn) (mZ X.K):=by
 intro pins s σ H x y v u Q I f g h
 obtain⟨k,kvs,j,⟨a,es,rfl,l,hk,m,e⟩,q⟩:=h
 cases (show u=Value.ref a from g)
 obtain⟨b,rfl,rfl,st⟩:=kU I j f
 obtain⟨z,y,xs,r,dd⟩:=dct_of I l hk e
 refine wpAny_notIn_heap (knd:=bU X.prog X.w) (jE c) st y dd.of ?_
 have:(Qv xs k).isSome=(ci kvs k).isSome:=by
  rcases yZ k r e m with⟨z1,z2⟩|⟨i,d,v,b,u,z1,z2,_⟩
  ·rw[z1,z2];rfl
  ·rw[z1,z2];rfl
 rw[this]
 exact⟨.bl _,H,I.tok _,rfl,q⟩
noncomputable def Fq (K:PySem.W.Frag):R2:=λx y H Q=>∃ (k:bh) (a:Addr) (es:List (bh×Addr×V)) (kvs:List (bh×PyData)),x=.ref a/\DV K H y (cY k)/\H a=some (.ext (cI a es))/\DVs K H (es.map λp=>V.ref p.2.1) (kvs.map λp=>cY p.1)/\DVs K H (es.map λp=>p.2.2) (kvs.map λp=>p.2) /\
 es.map (λp=>p.1)=kvs.map (λp=>p.1)/\(ci kvs k).isSome=true/\∀ (i:Nat) v d,ci kvs k=some d->(es.map λp=>p.2.2)[i]? = some v->(kvs.map λp=>p.2)[i]? = some d->Q v H
theorem Hg (l:X.A.units+2<Kg):IxR X (Fq X.K):=by
 intro f slice pins s σ H x y v u Q I m n h o
 obtain⟨k,a,es,kvs,rfl,p,t,hk,B,e,c,q⟩:=h
 cases (show v=Value.ref a from m)
 obtain⟨b,rfl,rfl,st⟩:=kU I p n
 obtain⟨z,y,xs,r,dd⟩:=dct_of I t hk e
 have j:=dd.of.typeIs
 unfold Qo
 refine jj ?_
 rw[getitemInPython_of_ne j.not_modules]
 refine jj (Ke j PySem.F.slot_dict_getitem.lookup ?_)
 have fin:qb (q3 X.prog X.w) X.A (QA slice false (.ref a) (.ref b)) (λr g=>qb (q3 X.prog X.w) X.A (letTemporaryGo f (.ref a) r >>= λ_=>pure r) (EP X pins σ Q) X.xe g) X.xe s:=by
  rw[o]
  rcases yZ k r e B with⟨z1,_⟩|⟨i,d,v,E,u,z1,z2,z3,C,D⟩
  ·rw[z1] at c;cases c
  ·refine wpAny_operating (wpAny_getItem_heap (knd:=bU X.prog X.w) (jE l) st dd.of z2 ?_)
   exact jj (wpAny_letTemporaryGo (ke ⟨v,H,I.tok _,D,q i v d z1 z3 C⟩))
 first
  | exact ke (jj fin)
  | exact jj (ke (jj fin))
  | exact jj fin
noncomputable def tx (es:List (bh×Addr×V)) (k:bh) (b:Addr) (v:V):List (bh×Addr×V) :=
 if (es.any λp=>decide (p.1=k))=true then es.map (λp=>if p.1=k then (p.1,p.2.1,v) else p) else es++[(k,b,v)]
theorem nc {es:List (bh×Addr×V)}{xs:List (bh×Addr×Value)} (r:Paired (λ(p:bh×Addr×V) (q:bh×Addr×Value)=>p.1=q.1/\p.2.1=q.2.1/\bw p.2.2 q.2.2) es xs) (k:bh) {b:Addr}{v:V}{u:Value} (f:bw v u) :
  Paired (λ(p:bh×Addr×V) (q:bh×Addr×Value)=>p.1=q.1/\p.2.1=q.2.1/\bw p.2.2 q.2.2) (tx es k b v) (storedH xs k b u):=by
 have e:(es.any λp=>decide (p.1=k))=(Qv xs k).isSome:=by
  induction r with
  | nil=>rfl
  | @cons p q ps g h t a =>
   rw[Jv,a]
   by_cases hk:p.1=k
   ·have d:q.1=k:=by rw[<-h.1,hk]
    simp[Qv,Ju,hk,d]
   ·have d:¬q.1=k:=λz=>hk (by rw[h.1,z])
    simp[Qv,Ju,hk,d]
 unfold tx storedH
 rw[e]
 by_cases c:(Qv xs k).isSome=true
 ·rw[if_pos c,if_pos c]
  clear e c
  induction r with
  | nil=>exact .nil
  | @cons p q ps g h t a =>
   rw[HU,HU]
   refine .cons ?_ a
   unfold putAt
   by_cases hk:p.1=k
   ·rw[if_pos hk,if_pos (show q.1=k by rw[<-h.1,hk])]
    exact⟨h.1,h.2.1,f⟩
   ·rw[if_neg hk,if_neg (λz=>hk (by rw[h.1,z]))]
    exact h
 ·rw[if_neg c,if_neg c]
  exact Paired.snoc r ⟨rfl,rfl,f⟩
theorem vS (es:List (bh×Addr×V)) (k:bh) (b:Addr) (v:V):(tx es k b v).length<=es.length+1:=by
 unfold tx
 split <;> simp
noncomputable def Fn (K:PySem.W.Frag):Es:=λx y v H Q=>∃ (k:bh) (a b:Addr) (es:List (bh×Addr×V)) (kvs:List (bh×PyData)),x=.ref a/\y=.ref b/\DV K H y (cY k)/\H a=some (.ext (cI a es))/\DVs K H (es.map λp=>V.ref p.2.1) (kvs.map λp=>cY p.1) /\
 es.map (λp=>p.1)=kvs.map (λp=>p.1)/\es.length<sizeLine/\Q (upd H a (.ext (cI a (tx es k b v))))
theorem Fj (j:X.A.units+2<Kg):EX X (Fn X.K):=by
 intro pins s σ H x y v ov iv u Q I l m n h
 obtain⟨k,a,b,es,kvs,rfl,rfl,p,i,hk,e,P,q⟩:=h
 cases (show ov=Value.ref a from l)
 obtain⟨R,t,B,st⟩:=kU I p m
 cases t
 subst B
 obtain⟨z,y,xs,r,dd⟩:=dct_of I i hk e
 have hz:xs.length<=sizeLine:=by rw[<-Paired.length r];exact z
 refine sO (hsz:=hz) (jE (prog:=X.prog) (w:=X.w) j) st dd λh' c C=>?_
 obtain⟨o,d,ep,h1,h2,D,E,_,F⟩:=c
 refine⟨_,?_,q⟩
 refine I.write (x:=a) (e:=a) (by rw[i];exact True.intro) (.inl rfl) (λb q G z=>(C.2 b G).trans z) ⟨_,h1⟩ ?_
 have new:cI a (tx es k b v) h':=⟨by have:=vS es k b v;omega,y,_,nc r k n,o,d,ep,h1,h2,D,E,F⟩
 refine⟨new,⟨_,h1⟩,λJ L hx M=>?_⟩
 obtain⟨a1,a2,f,a3,o',ds',g,N,O⟩:=hx
 exact⟨a1,a2,f,a3,o',ds',g,M _ N,O⟩
theorem uL {P:zb}{w:zf}{H:Hp} (h:Heap) (c:Kp<h.objs.size):eR P w H (h.push { cls:=.type "dict",data:=.dict #[] }) h.objs.size (.ext (cI h.objs.size [])):=by
 have e:=HR (o:=({ cls:=.type "dict",data:=.dict #[] }:Obj)) h rfl
 refine⟨⟨Ig _,beq_eq_false_iff_ne.mpr (Ne.symm (HZ c)),[],.nil,_,#[],0,e,⟨rfl,rfl,rfl⟩,rfl,rfl,Jq,rfl⟩,⟨_,e⟩,λh1 h2 hx d=>?_⟩
 obtain⟨a1,a2,a,a3,o',ds',b,f,g⟩:=hx
 exact⟨a1,a2,a,a3,o',ds',b,d _ f,g⟩
theorem Inv.big' {pins:List (Addr×Obj)}{σ:St}{H:Hp}{s:Shared} (I:Inv X pins σ H s):Kp<s.heap.objs.size:=by
 have h:qs<s.heap.objs.size:=(I.mod.glob.keeps I.bk).lt
 exact Nat.lt_trans (by decide) h
noncomputable def Fd (K:PySem.W.Frag) (tk tv:TE):TE:=λσ H Q=>∀ p,H p=none->tk σ (upd H p (.ext (cI p []))) λx H1=>tv σ H1 λy H2=>∃ k b,x=.ref b/\DV K H2 x (cY k)/\H2 p=some (.ext (cI p []))/\Q (.ref p) (upd H2 p (.ext (cI p [(k,b,y)])))
theorem As {pos:Pos}{e1 e2:Expr}{tk tv:TE} (n:X.A.units+1<Kg) (hk:PE X e1 tk) (t:PE X e2 tv):PE X (.Dict [some e1] [e2] pos) (Fd X.K tk tv):=by
 intro pins s σ H Q I h
 have v:=I.laid (a:=s.heap.objs.size) (o:=.ext (cI s.heap.objs.size [])) (h':=s.heap.push { cls:=.type "dict",data:=.dict #[] }) (t':=s.toks) (λ_ _ q=>HE _ q) (HK _) (uL s.heap I.big')
 refine wpAny_Dict_any rfl rfl (by simp) (by simp) (pairTrees_cons_walk (thn (hk pins _ σ _ _ v (h _ (I.hok.fresh (HK _)))) λu s1 c=>?_))
 obtain⟨x,H1,B,C,q1⟩:=c
 refine thn (t pins s1 σ H1 _ B q1) λw s2 d=>?_
 obtain⟨y,H2,f,D,k,b,ex,E,m,q⟩:=d
 refine pairTrees_nil_walk ?_
 subst ex
 obtain⟨U,F,rfl,st⟩:=kU f E C
 cases F
 generalize s.heap.objs.size=p at *
 obtain⟨z,hd,xs,r,dd⟩:=dct_of (kvs:=[]) f m .nil rfl
 cases r
 unfold storeAll
 rw[Ji]
 refine jj (jj (l8 (hsz:=Ig _) n st dd λh' g G=>ke ?_))
 dsimp only
 rw[Jg]
 refine ke ⟨.ref p,_,?_,rfl,q⟩
 obtain⟨o,i,ep,h1,h2,J,L,_,M⟩:=g
 refine f.write (x:=p) (e:=p) (by rw[m];exact True.intro) (.inl rfl) (λb q N z=>(G.2 b N).trans z) ⟨_,h1⟩ ?_
 have new:cI p [(k,b,y)] h':=⟨by rw[zd];simp,hd,_,.cons ⟨rfl,rfl,D⟩ .nil,o,i,ep,h1,h2,J,L,M⟩
 refine⟨new,⟨_,h1⟩,λO P hx R=>?_⟩
 obtain⟨a1,a2,j,a3,o',ds',l,S,T⟩:=hx
 exact⟨a1,a2,j,a3,o',ds',l,R _ S,T⟩
end
mutual
inductive OT (K:PySem.W.Frag) (N:Addr->Prop) (H:Hp):V->PyData->List Addr->Prop
 | non:OT K N H .non .none []
 | bl (b:Bool):OT K N H (.bl b) (.bool b) []
 | int (i:Int):OT K N H (.int i) (.int i) []
 | lst {a:Addr}{xs:List V}{ds:List PyData}{S:List Addr}:H a=some (.lst xs)->OTs K N H xs ds S->OT K N H (.ref a) (.list ds) (a::S)
 | tup {a:Addr}{xs:List V}{ds:List PyData}{S:List Addr}:SnT K N H a xs->OTs K N H xs ds S->OT K N H (.ref a) (.tuple ds) S
 | dct {a:Addr}{es:List (bh×Addr×V)}{kvs:List (bh×PyData)}:H a=some (.ext (cI a es))->DNs K N H (es.map λp=>V.ref p.2.1) (kvs.map λp=>cY p.1)->DNs K N H (es.map λp=>p.2.2) (kvs.map λp=>p.2)->es.map (λp=>p.1)=kvs.map (λp=>p.1)->OT K N H (.ref a) (fj kvs) [a]
 | idc {a:Addr}{es:List (Int×V)}{kvs:List (Int×PyData)}:H a=some (.ext (bO a es))->DNs K N H (es.map λp=>p.2) (kvs.map λp=>p.2)->es.map (λp=>p.1)=kvs.map (λp=>p.1)->OT K N H (.ref a) (i8 kvs) [a]
 | fz {v:V}{ds:List PyData}:DN K N H v (.list ds)->OT K N H v (fzD ds) []
inductive OTs (K:PySem.W.Frag) (N:Addr->Prop) (H:Hp):List V->List PyData->List Addr->Prop
 | nil:OTs K N H [] [] []
 | cons {x:V}{xs:List V}{d:PyData}{ds:List PyData}{S S':List Addr}:OT K N H x d S->OTs K N H xs ds S'->OTs K N H (x::xs) (d::ds) (S++S')
end
section
variable {K:PySem.W.Frag}{N M:Addr->Prop}{H H':Hp}
theorem OT.keep (k:aV N H H') {v:V}{d:PyData}{S:List Addr} (h:OT K N H v d S):(∀ a∈S,H' a=H a)->OT K N H' v d S :=
 OT.rec (motive_1:=λv d S _=>(∀ a∈S,H' a=H a)->OT K N H' v d S) (motive_2:=λv d S _=>(∀ a∈S,H' a=H a)->OTs K N H' v d S)
 (λ_=>.non) (λb _=>.bl b) (λi _=>.int i)
 (λh _ q s=>.lst ((s _ HH).trans h) (q λa c=>s a (HJ _ c))) (λh _ q s=>.tup (h.keep k) (q s))
 (λh q r e s=>.dct ((s _ HH).trans h) (q.keep k) (r.keep k) e) (λh q e s=>.idc ((s _ HH).trans h) (q.keep k) e) (λh s=>.fz (h.keep k)) (λ_=>.nil) (λ_ _ h q s=>.cons (h λa c=>s a (HG _ c)) (q λa c=>s a (HA _ c))) h
theorem OTs.keep (k:aV N H H') {v:List V}{d:List PyData}{S:List Addr} (h:OTs K N H v d S):(∀ a∈S,H' a=H a)->OTs K N H' v d S :=
 OTs.rec (motive_1:=λv d S _=>(∀ a∈S,H' a=H a)->OT K N H' v d S) (motive_2:=λv d S _=>(∀ a∈S,H' a=H a)->OTs K N H' v d S)
 (λ_=>.non) (λb _=>.bl b) (λi _=>.int i)
 (λh _ q s=>.lst ((s _ HH).trans h) (q λa c=>s a (HJ _ c))) (λh _ q s=>.tup (h.keep k) (q s))
 (λh q r e s=>.dct ((s _ HH).trans h) (q.keep k) (r.keep k) e) (λh q e s=>.idc ((s _ HH).trans h) (q.keep k) e) (λh s=>.fz (h.keep k)) (λ_=>.nil) (λ_ _ h q s=>.cons (h λa c=>s a (HG _ c)) (q λa c=>s a (HA _ c))) h
theorem OT.to (m:∀ b o,H b=some o->M b->N b) {v:V}{d:PyData}{S:List Addr} (h:OT K N H v d S):OT K M H v d S :=
 OT.rec (motive_1:=λv d S _=>OT K M H v d S) (motive_2:=λv d S _=>OTs K M H v d S)
 .non (λb=>.bl b) (λi=>.int i)
 (λh _ q=>.lst h q) (λh _ q=>.tup (h.to m) q)
 (λh q r e=>.dct h (q.to m) (r.to m) e) (λh q e=>.idc h (q.to m) e) (λh=>.fz (h.to m)) .nil (λ_ _ h q=>.cons h q) h
theorem OTs.to (m:∀ b o,H b=some o->M b->N b) {v:List V}{d:List PyData}{S:List Addr} (h:OTs K N H v d S):OTs K M H v d S :=
 OTs.rec (motive_1:=λv d S _=>OT K M H v d S) (motive_2:=λv d S _=>OTs K M H v d S)
 .non (λb=>.bl b) (λi=>.int i)
 (λh _ q=>.lst h q) (λh _ q=>.tup (h.to m) q)
 (λh q r e=>.dct h (q.to m) (r.to m) e) (λh q e=>.idc h (q.to m) e) (λh=>.fz (h.to m)) .nil (λ_ _ h q=>.cons h q) h
theorem OT.lives {v:V}{d:PyData}{S:List Addr} (h:OT K N H v d S):∀ a∈S,∃ o,H a=some o :=
 OT.rec (motive_1:=λv d S _=>∀ a∈S,∃ o,H a=some o) (motive_2:=λv d S _=>∀ a∈S,∃ o,H a=some o)
 (λ_ h=>nomatch h) (λ_ _ h=>nomatch h) (λ_ _ h=>nomatch h)
 (λh _ q a b=>(HP.mp b).elim (λe=>⟨_,e▸h⟩) (q a)) (λ_ _ q=>q)
 (λh _ _ _ a b=>⟨_,(HD.mp b)▸h⟩) (λh _ _ a b=>⟨_,(HD.mp b)▸h⟩) (λ_ _ h=>nomatch h) (λ_ h=>nomatch h) (λ_ _ h q a b=>(HF.mp b).elim (h a) (q a)) h
theorem OTs.lives {v:List V}{d:List PyData}{S:List Addr} (h:OTs K N H v d S):∀ a∈S,∃ o,H a=some o :=
 OTs.rec (motive_1:=λv d S _=>∀ a∈S,∃ o,H a=some o) (motive_2:=λv d S _=>∀ a∈S,∃ o,H a=some o)
 (λ_ h=>nomatch h) (λ_ _ h=>nomatch h) (λ_ _ h=>nomatch h)
 (λh _ q a b=>(HP.mp b).elim (λe=>⟨_,e▸h⟩) (q a)) (λ_ _ q=>q)
 (λh _ _ _ a b=>⟨_,(HD.mp b)▸h⟩) (λh _ _ a b=>⟨_,(HD.mp b)▸h⟩) (λ_ _ h=>nomatch h) (λ_ h=>nomatch h) (λ_ _ h q a b=>(HF.mp b).elim (h a) (q a)) h
theorem OT.dn (n:∀ b,M b->N b) {v:V}{d:PyData}{S:List Addr} (h:OT K N H v d S):(∀ a∈S,¬M a)->DN K M H v d :=
 OT.rec (motive_1:=λv d S _=>(∀ a∈S,¬M a)->DN K M H v d) (motive_2:=λv d S _=>(∀ a∈S,¬M a)->DNs K M H v d)
 (λ_=>.non) (λb _=>.bl b) (λi _=>.int i)
 (λh _ q s=>.lst (SnL.of h (s _ HH)) (q λa c=>s a (HJ _ c))) (λh _ q s=>.tup (h.to λb _ _ z=>n b z) (q s))
 (λh q r e s=>.dct (s _ HH) h (q.to λb _ _ z=>n b z) (r.to λb _ _ z=>n b z) e) (λh q e s=>.idc (s _ HH) h (q.to λb _ _ z=>n b z) e) (λh _=>.fz (h.to λb _ _ z=>n b z)) (λ_=>.nil) (λ_ _ h q s=>.cons (h λa c=>s a (HG _ c)) (q λa c=>s a (HA _ c))) h
theorem OTs.ind {C:List V->List PyData->List Addr->Prop} (n:C [] [] []) (c:∀ {x:V}{xs:List V}{d:PyData}{ds:List PyData}{S S':List Addr},OT K N H x d S->OTs K N H xs ds S'->C xs ds S'->C (x::xs) (d::ds) (S++S')) {v:List V}{d:List PyData}{S:List Addr} (h:OTs K N H v d S):C v d S :=
 OTs.rec (motive_1:=λ_ _ _ _=>True) (motive_2:=λv d S _=>C v d S) trivial (λ_=>trivial) (λ_=>trivial)
 (λ_ _ _=>trivial) (λ_ _ _=>trivial) (λ_ _ _ _=>trivial) (λ_ _ _=>trivial) (λ_=>trivial) n (λh q _ i=>c h q i) h
theorem OTs.len {v:List V}{d:List PyData}{S:List Addr} (h:OTs K N H v d S):v.length=d.length:=OTs.ind (C:=λv d _=>v.length=d.length) rfl (λ_ _ i=>by rw[Iq,Iq,i]) h
theorem OTs.app {v w:List V}{d e:List PyData}{S T:List Addr} (h:OTs K N H v d S) (q:OTs K N H w e T):OTs K N H (v++w) (d++e) (S++T):=OTs.ind (C:=λv d S=>OTs K N H (v++w) (d++e) (S++T)) q (λh _ i=>by rw[IN];exact .cons h i) h
end
inductive Sl where
 | un|fr (d:PyData)|ow (ds:List PyData)|io (ds:List PyData)|vw (i:Nat)|tr (S:List Addr) (d:PyData)
noncomputable abbrev Ent:=Option V×Sl
noncomputable def dL:Ent->List Addr
 | (some (.ref a),.ow _)=>[a]
 | (some (.ref a),.io _)=>[a]
 | (some _,.tr S _)=>S
 | _=>[]
noncomputable def oas (E:List Ent):List Addr:=E.flatMap dL
noncomputable def Nw (M:Addr->Prop) (E:List Ent):Addr->Prop:=λa=>M a\/a∈oas E
noncomputable abbrev tmp (ts:List (V×Sl)):List Ent:=ts.map λt=>(some t.1,t.2)
noncomputable def aI (σ:St) (env:List Sl) (ts:List (V×Sl)):List Ent:=σ.zip env++tmp ts
theorem af (A B:List Ent):oas (A++B)=oas A++oas B:=List.flatMap_append
theorem ai (e:Ent) (B:List Ent):oas (e::B)=dL e++oas B:=List.flatMap_cons ..
theorem bA {a:Addr}{E:List Ent}:a∈oas E↔∃ e∈E,a∈dL e:=List.mem_flatMap
theorem iz (x:Option V):dL (x,.un)=[]:=by
 cases x with
 | none=>rfl
 | some v=>cases v <;> rfl
theorem iw (x:Option V) (i:Nat):dL (x,.vw i)=[]:=by
 cases x with
 | none=>rfl
 | some v=>cases v <;> rfl
theorem dB (x:Option V) (d:PyData):dL (x,.fr d)=[]:=by
 cases x with
 | none=>rfl
 | some v=>cases v <;> rfl
theorem aU (v:V) (S:List Addr) (d:PyData):dL (some v,.tr S d)=S:=by cases v <;> rfl
theorem tU {e:Ent}{a:Addr} (h:a∈dL e):(e.1=some (.ref a)/\((∃ ds,e.2=.ow ds)\/∃ ds,e.2=.io ds))\/∃ S d,e.2=.tr S d/\a∈S:=by
 obtain⟨x,s⟩:=e
 cases s with
 | un=>rw[iz] at h;exact absurd h Ir
 | vw i=>rw[iw] at h;exact absurd h Ir
 | fr d=>rw[dB] at h;exact absurd h Ir
 | tr S d =>
  cases x with
  | none=>exact absurd h Ir
  | some v=>rw[aU] at h;exact .inr ⟨S,d,rfl,h⟩
 | ow ds =>
  cases x with
  | none=>exact absurd h Ir
  | some v=>cases v with
   | ref b=>rw[HD.mp h];exact .inl ⟨rfl,.inl ⟨ds,rfl⟩⟩
   | _=>exact absurd h Ir
 | io ds =>
  cases x with
  | none=>exact absurd h Ir
  | some v=>cases v with
   | ref b=>rw[HD.mp h];exact .inl ⟨rfl,.inr ⟨ds,rfl⟩⟩
   | _=>exact absurd h Ir
structure bf (K:PySem.W.Frag) (M P:Addr->Prop) (H0:Hp) (E:List Ent) (H:Hp):Prop where
 keep:aV P H0 H
 live:∀ a,H0 a≠none->H a≠none
 mt : ∀ a,M a->H0 a≠none
 pm : ∀ a,P a->M a
 fr : ∀ x d,(x,Sl.fr d)∈E->∃ v,x=some v/\DN K (Nw M E) H v d
 ow : ∀ x ds,(x,Sl.ow ds)∈E->∃ a vs,x=some (.ref a)/\H a=some (.lst vs)/\DNs K (Nw M E) H vs ds/\H0 a=none
 io : ∀ x ds,(x,Sl.io ds)∈E->∃ a vs,x=some (.ref a)/\H a=some (.lst vs)/\DNs K (Nw M E) H vs ds/\P a
 tr : ∀ x S d,(x,Sl.tr S d)∈E->∃ v,x=some v/\OT K (Nw M E) H v d S/\∀ a∈S,H0 a=none
 nd : (oas E).Nodup
section
variable {K:PySem.W.Frag}{M P:Addr->Prop}{H0 H H':Hp}{E E' A B:List Ent}{e:Ent}
theorem bf.own (h:bf K M P H0 E H) {a:Addr} (e:a∈oas E):∃ o,H a=some o/\(H0 a=none\/P a):=by
 obtain⟨⟨x,s⟩,c,f⟩:=bA.mp e
 rcases tU f with⟨e1,e2⟩|⟨S,d,e2,ms⟩
 rotate_left
 ·simp only at e2;subst e2
  obtain⟨v,_,q,r⟩:=h.tr _ _ _ c
  obtain⟨vs,z⟩:=q.lives a ms
  exact⟨vs,z,.inl (r a ms)⟩
 rcases e2 with⟨ds,e2⟩|⟨ds,e2⟩
 ·simp only at e1 e2;subst e1 e2
  obtain⟨b,vs,z,q,_,r⟩:=h.ow _ _ c
  cases z
  exact⟨_,q,.inl r⟩
 ·simp only at e1 e2;subst e1 e2
  obtain⟨b,vs,z,q,_,r⟩:=h.io _ _ c
  cases z
  exact⟨_,q,.inr r⟩
theorem Nw.sub (h:∀ a,a∈oas E'->a∈oas E):∀ b,Nw M E' b->Nw M E b:=λb z=>by
 rcases z with z|z
 ·exact .inl z
 ·exact .inr (h b z)
theorem bf.sub (h:bf K M P H0 E H) (c:∀ x s,(x,s)∈E'->(x,s)∈E\/s=.un\/∃ i,s=.vw i) (nd:(oas E').Nodup):bf K M P H0 E' H:=by
 have os:∀ a,a∈oas E'->a∈oas E:=λa g=>by
  obtain⟨⟨x,s⟩,j,f⟩:=bA.mp g
  rcases c x s j with q|q|⟨i,q⟩
  ·exact bA.mpr ⟨_,q,f⟩
  ·subst q;rw[iz] at f;cases f
  ·subst q;rw[iw] at f;cases f
 have up:=Nw.sub (M:=M) os
 refine⟨h.keep,h.live,h.mt,h.pm,λx d m=>?_,λx d m=>?_,λx d m=>?_,λx S d m=>?_,nd⟩
 rotate_right
 ·rcases c _ _ m with q|q|⟨i,q⟩
  ·obtain⟨v,e,dn,r⟩:=h.tr x S d q
   exact⟨v,e,dn.to λb _ _ z=>up b z,r⟩
  ·cases q
  ·cases q
 ·rcases c _ _ m with q|q|⟨i,q⟩
  ·obtain⟨v,e,dn⟩:=h.fr x d q
   exact⟨v,e,dn.to λb _ _ z=>up b z⟩
  ·cases q
  ·cases q
 ·rcases c _ _ m with q|q|⟨i,q⟩
  ·obtain⟨a,vs,e,e2,dn,r⟩:=h.ow x d q
   exact⟨a,vs,e,e2,dn.to λb _ _ z=>up b z,r⟩
  ·cases q
  ·cases q
 ·rcases c _ _ m with q|q|⟨i,q⟩
  ·obtain⟨a,vs,e,e2,dn,r⟩:=h.io x d q
   exact⟨a,vs,e,e2,dn.to λb _ _ z=>up b z,r⟩
  ·cases q
  ·cases q
theorem bf.drop (h:bf K M P H0 (E++B) H):bf K M P H0 E H:=h.sub (λx s m=>.inl (HG _ m)) (by
 have:=h.nd
 rw[af] at this
 exact(HN.mp this).1)
theorem bf.same (h:bf K M P H0 E H) (k:aR H H'):bf K M P H0 E H':=by
 refine⟨h.keep.trans (aV.same k),λa q z=>?_,h.mt,h.pm,λx d m=>?_,λx d m=>?_,λx d m=>?_,λx S d m=>?_,h.nd⟩
 rotate_right
 ·obtain⟨v,e,dn,r⟩:=h.tr x S d m
  exact⟨v,e,dn.keep (aV.same k) λa b=>by
   obtain⟨xs,z⟩:=dn.lives a b
   rw[k a _ z,z],r⟩
 ·have q1:=h.live a q
  cases e:H a with
  | none=>exact q1 e
  | some o=>rw[k a o e] at z;cases z
 ·obtain⟨v,e,dn⟩:=h.fr x d m
  exact⟨v,e,dn.keep (aV.same k)⟩
 ·obtain⟨a,vs,e,e2,dn,r⟩:=h.ow x d m
  exact⟨a,vs,e,k _ _ e2,dn.keep (aV.same k),r⟩
 ·obtain⟨a,vs,e,e2,dn,r⟩:=h.io x d m
  exact⟨a,vs,e,k _ _ e2,dn.keep (aV.same k),r⟩
theorem bf.addFr (h:bf K M P H0 E H) {v:V}{d:PyData} (dn:DN K (Nw M E) H v d):bf K M P H0 (E++[(some v,.fr d)]) H:=by
 have a:oas (E++[(some v,Sl.fr d)])=oas E:=by
  rw[af,ai,dB]
  simp[oas]
 have ne:Nw M (E++[(some v,Sl.fr d)])=Nw M E:=by unfold Nw;rw[a]
 refine⟨h.keep,h.live,h.mt,h.pm,λx d' m=>?_,λx d' m=>?_,λx d' m=>?_,λx S d' m=>?_,by rw[a];exact h.nd⟩
 rotate_right
 ·rw[ne]
  rcases HF.mp m with m|m
  ·exact h.tr x S d' m
  ·rw[HD] at m
   cases m
 ·rw[ne]
  rcases HF.mp m with m|m
  ·exact h.fr x d' m
  ·rw[HD] at m
   cases m
   exact⟨v,rfl,dn⟩
 ·rw[ne]
  rcases HF.mp m with m|m
  ·exact h.ow x d' m
  ·rw[HD] at m
   cases m
 ·rw[ne]
  rcases HF.mp m with m|m
  ·exact h.io x d' m
  ·rw[HD] at m
   cases m
theorem bf.addVw (h:bf K M P H0 E H) {v:V}{i:Nat}:bf K M P H0 (E++[(some v,.vw i)]) H:=by
 refine h.sub (λx s m=>?_) ?_
 ·rcases HF.mp m with m|m
  ·exact .inl m
  ·rw[HD] at m
   cases m
   exact .inr (.inr ⟨i,rfl⟩)
 ·rw[af,ai,iw]
  simpa[oas] using h.nd
theorem bf.addOw (h:bf K M P H0 E H) {p:Addr}{vs:List V}{ds:List PyData} (c:H p=none) (d:DNs K (Nw M E) H vs ds):bf K M P H0 (E++[(some (.ref p),.ow ds)]) (upd H p (.lst vs)):=by
 have i:oas (E++[(some (.ref p),Sl.ow ds)])=oas E++[p]:=by
  rw[af]
  rfl
 have j:p ∉ oas E:=λz=>by
  obtain⟨vs',q,_⟩:=h.own z
  rw[c] at q
  cases q
 have k:H0 p=none:=by
  cases e:H0 p with
  | none=>rfl
  | some o=>exact absurd c (h.live p (by rw[e];simp))
 have up:∀ b o,H b=some o->Nw M (E++[(some (.ref p),Sl.ow ds)]) b->Nw M E b:=λb o e z=>by
  rcases z with z|z
  ·exact .inl z
  ·rw[i] at z
   rcases HF.mp z with z|z
   ·exact .inr z
   ·rw[HD.mp z,c] at e
    cases e
 have h':=h.same (aR.new (o:=.lst vs) c)
 refine⟨h'.keep,h'.live,h.mt,h.pm,λx d' m=>?_,λx d' m=>?_,λx d' m=>?_,λx S d' m=>?_,?_⟩
 rotate_right 2
 ·rcases HF.mp m with m|m
  ·obtain⟨v,e,dn,r⟩:=h.tr x S d' m
   exact⟨v,e,(dn.to up).keep (aV.same (aR.new c)) λa f=>by
    obtain⟨xs,z⟩:=dn.lives a f
    rw[aR.new c _ _ z,z],r⟩
  ·rw[HD] at m
   cases m
 rotate_left
 ·rcases HF.mp m with m|m
  ·obtain⟨v,e,dn⟩:=h.fr x d' m
   exact⟨v,e,(dn.to up).keep (aV.same (aR.new c))⟩
  ·rw[HD] at m
   cases m
 ·rcases HF.mp m with m|m
  ·obtain⟨a,g,e,e2,dn,r⟩:=h.ow x d' m
   exact⟨a,g,e,aR.new c _ _ e2,(dn.to up).keep (aV.same (aR.new c)),r⟩
  ·rw[HD] at m
   cases m
   exact⟨p,vs,rfl,aB,(d.to up).keep (aV.same (aR.new c)),k⟩
 ·rcases HF.mp m with m|m
  ·obtain⟨a,g,e,e2,dn,r⟩:=h.io x d' m
   exact⟨a,g,e,aR.new c _ _ e2,(dn.to up).keep (aV.same (aR.new c)),r⟩
  ·rw[HD] at m
   cases m
 ·rw[i]
  exact HN.mpr ⟨h.nd,by simp,λa f b l=>by rw[HD.mp l];exactλz=>j (z▸f)⟩
theorem bf.freeze {a:Addr}{ds:List PyData} (h:bf K M P H0 (A++(some (.ref a),.ow ds)::B) H):bf K M P H0 (A++(some (.ref a),.fr (.list ds))::B) H:=by
 have i:oas (A++(some (.ref a),Sl.ow ds)::B)=oas A++a::oas B:=by rw[af,ai];rfl
 have c:oas (A++(some (.ref a),Sl.fr (.list ds))::B)=oas A++oas B:=by rw[af,ai];rfl
 have nd:=h.nd
 rw[i] at nd
 obtain⟨k,l,j⟩:=HN.mp nd
 obtain⟨n,o⟩:=Iu.mp l
 have up:∀ b,Nw M (A++(some (.ref a),Sl.fr (.list ds))::B) b->Nw M (A++(some (.ref a),Sl.ow ds)::B) b:=Nw.sub λb z=>by
  rw[c] at z
  rw[i]
  rcases HF.mp z with z|z
  ·exact HG _ z
  ·exact HA _ (HJ _ z)
 have p:(some (.ref a),Sl.ow ds)∈A++(some (.ref a),Sl.ow ds)::B:=HA _ HH
 obtain⟨C,vs,z,q,f,t⟩:=h.ow _ _ p
 cases z
 have u:¬Nw M (A++(some (.ref a),Sl.fr (.list ds))::B) a:=λz=>by
  rcases z with z|z
  ·exact h.mt a z t
  ·rw[c] at z
   rcases HF.mp z with z|z
   ·exact j a z a HH rfl
   ·exact n z
 have old:∀ x s,(x,s)∈A++(some (.ref a),Sl.fr (.list ds))::B->(x,s)=(some (.ref a),Sl.fr (.list ds))\/(x,s)∈A++(some (.ref a),Sl.ow ds)::B:=λx s m=>by
  rcases HF.mp m with m|m
  ·exact .inr (HG _ m)
  ·rcases HP.mp m with m|m
   ·exact .inl m
   ·exact .inr (HA _ (HJ _ m))
 refine⟨h.keep,h.live,h.mt,h.pm,λx d m=>?_,λx d m=>?_,λx d m=>?_,λx S d m=>?_,?_⟩
 rotate_right 2
 ·rcases old _ _ m with m|m
  ·cases m
  ·obtain⟨v,e,dn,r⟩:=h.tr x S d m
   exact⟨v,e,dn.to λb _ _ z=>up b z,r⟩
 rotate_left
 ·rcases old _ _ m with m|m
  ·cases m
   exact⟨_,rfl,.lst (SnL.of q u) (f.to λb _ _ z=>up b z)⟩
  ·obtain⟨v,e,dn⟩:=h.fr x d m
   exact⟨v,e,dn.to λb _ _ z=>up b z⟩
 ·rcases old _ _ m with m|m
  ·cases m
  ·obtain⟨b,g,e,e2,dn,r⟩:=h.ow x d m
   exact⟨b,g,e,e2,dn.to λb _ _ z=>up b z,r⟩
 ·rcases old _ _ m with m|m
  ·cases m
  ·obtain⟨b,g,e,e2,dn,r⟩:=h.io x d m
   exact⟨b,g,e,e2,dn.to λb _ _ z=>up b z,r⟩
 ·rw[c]
  exact HN.mpr ⟨k,o,λx hx y w=>j x hx y (HJ _ w)⟩
theorem bf.freezeT {v:V}{S:List Addr}{d:PyData} (h:bf K M P H0 (A++(some v,.tr S d)::B) H):bf K M P H0 (A++(some v,.fr d)::B) H:=by
 have i:oas (A++(some v,Sl.tr S d)::B)=oas A++(S++oas B):=by rw[af,ai,aU]
 have c:oas (A++(some v,Sl.fr d)::B)=oas A++oas B:=by rw[af,ai,dB];rfl
 have nd:=h.nd
 rw[i] at nd
 obtain⟨k,l,j⟩:=HN.mp nd
 obtain⟨w,n,o⟩:=HN.mp l
 have up:∀ b,Nw M (A++(some v,Sl.fr d)::B) b->Nw M (A++(some v,Sl.tr S d)::B) b:=Nw.sub λb z=>by
  rw[c] at z
  rw[i]
  rcases HF.mp z with z|z
  ·exact HG _ z
  ·exact HA _ (HA _ z)
 have p:(some v,Sl.tr S d)∈A++(some v,Sl.tr S d)::B:=HA _ HH
 obtain⟨v',z,ot,q⟩:=h.tr _ _ _ p
 cases z
 have t:∀ a∈S,¬Nw M (A++(some v,Sl.fr d)::B) a:=λa f z=>by
  rcases z with z|z
  ·exact h.mt a z (q a f)
  ·rw[c] at z
   rcases HF.mp z with z|z
   ·exact j a z a (HG _ f) rfl
   ·exact o a f a z rfl
 have old:∀ x s,(x,s)∈A++(some v,Sl.fr d)::B->(x,s)=(some v,Sl.fr d)\/(x,s)∈A++(some v,Sl.tr S d)::B:=λx s m=>by
  rcases HF.mp m with m|m
  ·exact .inr (HG _ m)
  ·rcases HP.mp m with m|m
   ·exact .inl m
   ·exact .inr (HA _ (HJ _ m))
 refine⟨h.keep,h.live,h.mt,h.pm,λx d' m=>?_,λx d' m=>?_,λx d' m=>?_,λx S' d' m=>?_,?_⟩
 ·rcases old _ _ m with m|m
  ·cases m
   exact⟨_,rfl,ot.dn up t⟩
  ·obtain⟨v,e,dn⟩:=h.fr x d' m
   exact⟨v,e,dn.to λb _ _ z=>up b z⟩
 ·rcases old _ _ m with m|m
  ·cases m
  ·obtain⟨b,g,e,e2,dn,r⟩:=h.ow x d' m
   exact⟨b,g,e,e2,dn.to λb _ _ z=>up b z,r⟩
 ·rcases old _ _ m with m|m
  ·cases m
  ·obtain⟨b,g,e,e2,dn,r⟩:=h.io x d' m
   exact⟨b,g,e,e2,dn.to λb _ _ z=>up b z,r⟩
 ·rcases old _ _ m with m|m
  ·cases m
  ·obtain⟨v,e,dn,r⟩:=h.tr x S' d' m
   exact⟨v,e,dn.to λb _ _ z=>up b z,r⟩
 ·rw[c]
  exact HN.mpr ⟨k,n,λx hx y u=>j x hx y (HA _ u)⟩
noncomputable def A4:Sl->List PyData->Sl->Prop
 | .ow _,ds',s'=>s'=.ow ds'
 | .io _,ds',s'=>s'=.io ds'
 | _,_,_=>False
theorem cS {s s':Sl}{l:List PyData} (h:A4 s l s'):(∃ d,s=.ow d/\s'=.ow l)\/∃ d,s=.io d/\s'=.io l:=by
 cases s with
 | ow d=>exact .inl ⟨d,rfl,h⟩
 | io d=>exact .inr ⟨d,rfl,h⟩
 | _=>exact h.elim
theorem fU {s s':Sl}{l:List PyData}{a:Addr} (h:A4 s l s'):dL (some (.ref a),s)=[a]/\dL (some (.ref a),s')=[a]:=by
 rcases cS h with⟨_,rfl,rfl⟩|⟨_,rfl,rfl⟩ <;> exact⟨rfl,rfl⟩
theorem bf.muted {a:Addr}{s s':Sl}{vs':List V}{ds':List PyData} (h:bf K M P H0 (A++(some (.ref a),s)::B) H) (f:A4 s ds' s') (k:aV (λb=>b=a) H H') (D:∀ b,H b≠none->H' b≠none)
  (u:H' a=some (.lst vs')) (g:DNs K (Nw M (A++(some (.ref a),s)::B)) H' vs' ds'):bf K M P H0 (A++(some (.ref a),s')::B) H':=by
 have w:dL (some (.ref a),s)=[a]/\dL (some (.ref a),s')=[a]:=fU f
 have l:oas (A++(some (.ref a),s)::B)=oas A++a::oas B:=by rw[af,ai,w.1];rfl
 have i:oas (A++(some (.ref a),s')::B)=oas A++a::oas B:=by rw[af,ai,w.2];rfl
 have ne:Nw M (A++(some (.ref a),s')::B)=Nw M (A++(some (.ref a),s)::B):=by unfold Nw;rw[l,i]
 have E:Nw M (A++(some (.ref a),s)::B) a:=.inr (by rw[l];simp)
 have nd:=h.nd
 rw[l] at nd
 obtain⟨L,F,G⟩:=HN.mp nd
 obtain⟨I,N⟩:=Iu.mp F
 have n:aV (Nw M (A++(some (.ref a),s)::B)) H H':=k.mono λb z=>by rw[z];exact E
 obtain⟨O,hw,J⟩:=h.own (a:=a) (by rw[l];simp)
 have other:∀ x t b,(x,t)∈A\/(x,t)∈B->b∈dL (x,t)->b≠a:=λx t b m y z=>by
  subst z
  rcases m with m|m
  ·exact G b (bA.mpr ⟨_,m,y⟩) b HH rfl
  ·exact I (bA.mpr ⟨_,m,y⟩)
 have old:∀ x t,(x,t)∈A++(some (.ref a),s')::B->(x,t)=(some (.ref a),s')\/((x,t)∈A\/(x,t)∈B):=λx t m=>by
  rcases HF.mp m with m|m
  ·exact .inr (.inl m)
  ·rcases HP.mp m with m|m
   ·exact .inl m
   ·exact .inr (.inr m)
 have c:∀ x t,(x,t)∈A\/(x,t)∈B->(x,t)∈A++(some (.ref a),s)::B:=λx t m=>by
  rcases m with m|m
  ·exact HG _ m
  ·exact HA _ (HJ _ m)
 have Q:(some (.ref a),s)∈A++(some (.ref a),s)::B:=HA _ HH
 refine⟨?_,λb q=>D b (h.live b q),h.mt,h.pm,λx d m=>?_,λx d m=>?_,λx d m=>?_,λx S d m=>?_,by rw[i];exact nd⟩
 rotate_right
 ·rw[ne]
  rcases old _ _ m with m|m
  ·rcases cS f with⟨_,_,e⟩|⟨_,_,e⟩ <;> (rw[e] at m;cases m)
  ·obtain⟨v,e,dn,r⟩:=h.tr x S d (c _ _ m)
   subst e
   refine⟨v,rfl,dn.keep n λb j=>?_,r⟩
   obtain⟨xs,z⟩:=dn.lives b j
   rw[k _ _ (other _ _ b m (by rw[aU];exact j)) z,z]
 ·intro b o C e
  by_cases j:b=a
  ·subst j
   rcases J with q|q
   ·rw[q] at e;cases e
   ·exact absurd q C
  ·exact k b o j (h.keep b o C e)
 ·rw[ne]
  rcases old _ _ m with m|m
  ·rcases cS f with⟨_,_,e⟩|⟨_,_,e⟩ <;> (rw[e] at m;cases m)
  ·obtain⟨v,e,dn⟩:=h.fr x d (c _ _ m)
   exact⟨v,e,dn.keep n⟩
 ·rw[ne]
  rcases old _ _ m with m|m
  ·rcases cS f with⟨p,e1,e2⟩|⟨_,_,e2⟩ <;> (rw[e2] at m;cases m)
   obtain⟨b,us,e,_,_,r⟩:=h.ow (some (.ref a)) p (HA _ (by rw[e1];exact HH))
   cases e
   exact⟨a,vs',rfl,u,g,r⟩
  ·obtain⟨b,us,e,e2,dn,r⟩:=h.ow x d (c _ _ m)
   subst e
   exact⟨b,us,rfl,k _ _ (other _ _ b m (HD.mpr rfl)) e2,dn.keep n,r⟩
 ·rw[ne]
  rcases old _ _ m with m|m
  ·rcases cS f with⟨_,_,e2⟩|⟨p,e1,e2⟩ <;> (rw[e2] at m;cases m)
   obtain⟨b,us,e,_,_,r⟩:=h.io (some (.ref a)) p (HA _ (by rw[e1];exact HH))
   cases e
   exact⟨a,vs',rfl,u,g,r⟩
  ·obtain⟨b,us,e,e2,dn,r⟩:=h.io x d (c _ _ m)
   subst e
   exact⟨b,us,rfl,k _ _ (other _ _ b m (HD.mpr rfl)) e2,dn.keep n,r⟩
theorem bf.mut {a:Addr}{s s':Sl}{vs':List V}{ds':List PyData} (h:bf K M P H0 (A++(some (.ref a),s)::B) H) (f:A4 s ds' s') (d:DNs K (Nw M (A++(some (.ref a),s)::B)) H vs' ds') :
  bf K M P H0 (A++(some (.ref a),s')::B) (upd H a (.lst vs')) :=
 have g:dL (some (.ref a),s)=[a]:=(fU f).1
 h.muted f (λb o c e=>by rw[al c];exact e) (λb q z=>by
  by_cases c:b=a
  ·rw[c,aB] at z;cases z
  ·rw[al c] at z;exact q z) aB (d.keep (aV.own (.inr (bA.mpr ⟨_,HA _ HH,by rw[g];exact HD.mpr rfl⟩))))
theorem bf.move {t:Ent} (h:bf K M P H0 (A++e::(B++[t])) H):bf K M P H0 (A++t::B) H:=by
 refine h.sub (λx s m=>.inl ?_) ?_
 ·rcases HF.mp m with m|m
  ·exact HG _ m
  ·rcases HP.mp m with m|m
   ·exact HA _ (HJ _ (HA _ (by rw[m];simp)))
   ·exact HA _ (HJ _ (HG _ m))
 ·have nd:=h.nd
  have b:oas (A++e::(B++[t]))=oas A++(oas [e]++(oas B++oas [t])):=by
   rw[af,show e::(B++[t])=[e]++(B++[t]) from rfl,af,af]
  have c:oas (A++t::B)=oas A++(oas [t]++oas B):=by
   rw[af,show t::B=[t]++B from rfl,af]
  rw[b] at nd
  rw[c]
  obtain⟨d,f,g⟩:=HN.mp nd
  obtain⟨_,i,_⟩:=HN.mp f
  obtain⟨j,k,l⟩:=HN.mp i
  refine HN.mpr ⟨d,HN.mpr ⟨k,j,λx hx y a z=>l y a x hx z.symm⟩,λx hx y a=>?_⟩
  refine g x hx y (HA _ ?_)
  rcases HF.mp a with a|a
  ·exact HA _ a
  ·exact HG _ a
end
structure Rel (K:PySem.W.Frag) (M P:Addr->Prop) (H0:Hp) (σ0 σ:St) (env:List Sl) (ts:List (V×Sl)) (H:Hp):Prop where
 e : bf K M P H0 (aI σ env ts) H
 len:σ.length=env.length
 vw : ∀ (v:V) (i:Nat),(v,Sl.vw i)∈ts->σ[i]? = some (some v)
 ios:∀ (i:Nat) (ds:List PyData),env[i]? = some (Sl.io ds)->σ[i]? = σ0[i]?
inductive Vw (K:PySem.W.Frag) (N:Addr->Prop) (H:Hp):V->PyData->Prop
 | dn {v d}:DN K N H v d->Vw K N H v d
 | ow {a vs ds}:H a=some (.lst vs)->DNs K N H vs ds->Vw K N H (.ref a) (.list ds)
 | dct {a:Addr}{es:List (bh×Addr×V)}{kvs:List (bh×PyData)}:H a=some (.ext (cI a es))->DNs K N H (es.map λp=>V.ref p.2.1) (kvs.map λp=>cY p.1)->DNs K N H (es.map λp=>p.2.2) (kvs.map λp=>p.2)->es.map (λp=>p.1)=kvs.map (λp=>p.1)->Vw K N H (.ref a) (fj kvs)
 | idc {a:Addr}{es:List (Int×V)}{kvs:List (Int×PyData)}:H a=some (.ext (bO a es))->DNs K N H (es.map λp=>p.2) (kvs.map λp=>p.2)->es.map (λp=>p.1)=kvs.map (λp=>p.1)->Vw K N H (.ref a) (i8 kvs)
noncomputable def slD:Sl->Option PyData
 | .fr d=>some d
 | .ow ds=>some (.list ds)
 | .io ds=>some (.list ds)
 | .tr _ (.dict kvs)=>some (.dict kvs)
 | _=>none
noncomputable def aP (env:List Sl):Sl->Option PyData
 | .vw i=>(env[i]?).bind slD
 | .fr d=>some d
 | .ow ds=>some (.list ds)
 | .io ds=>some (.list ds)
 | .tr _ (.dict kvs)=>some (.dict kvs)
 | _=>none
noncomputable def slK:Sl->Option PyData
 | .fr d=>some d
 | _=>none
noncomputable def aC (env:List Sl):Sl->Option PyData
 | .vw i=>(env[i]?).bind slK
 | .fr d=>some d
 | .ow ds=>some (.list ds)
 | .tr _ d=>some d
 | _=>none
section
variable {K:PySem.W.Frag}{M P N:Addr->Prop}{H0 H H':Hp}{σ0 σ:St}{env:List Sl}{ts tt:List (V×Sl)}{v:V}{s:Sl}{d:PyData}
theorem aH:aI σ env (ts++tt)=aI σ env ts++tmp tt:=by
 unfold aI
 rw[IN]
 simp[tmp]
theorem OT.dict_view {S:List Addr}{kvs:List (PyData×PyData)} (h:OT K N H v (.dict kvs) S):Vw K N H v (.dict kvs):=by
 generalize e:PyData.dict kvs=d at h
 cases h with
 | dct h q r e2=>exact .dct h q r e2
 | idc h q e2=>exact .idc h q e2
 | fz h=>exact .dn (.fz h)
 | _=>cases e
theorem Vw.dv (h:Vw K N H v d):DV K H v d:=by
 cases h with
 | dn h=>exact h.dv
 | ow h q=>exact .lst (SqL.of h) q.dv
 | dct h q r e=>exact .dct h q.dv r.dv e
 | idc h q e=>exact .idc h q.dv e
theorem Vw.list {ds:List PyData} (h:Vw K N H v (.list ds)):∃ a vs,v=.ref a/\SqL K H a vs/\DNs K N H vs ds:=by
 cases h with
 | dn h=>obtain⟨a,vs,e,s,q⟩:=h.list;exact⟨a,vs,e,s.sq,q⟩
 | ow h q=>exact⟨_,_,rfl,SqL.of h,q⟩
theorem Vw.tuple {ds:List PyData} (h:Vw K N H v (.tuple ds)):∃ a vs,v=.ref a/\SqT K H a vs/\DNs K N H vs ds:=by
 cases h with
 | dn h=>obtain⟨a,vs,e,s,q⟩:=h.tuple;exact⟨a,vs,e,s.sq,q⟩
theorem Vw.int {i:Int} (h:Vw K N H v (.int i)):v=.int i:=by
 cases h with
 | dn h=>cases h;rfl
theorem Vw.bool {i:Bool} (h:Vw K N H v (.bool i)):v=.bl i:=by
 cases h with
 | dn h=>cases h;rfl
theorem Vw.none (h:Vw K N H v .none):v=.non:=by
 cases h with
 | dn h=>cases h;rfl
theorem si (h:σ.length=env.length) {i:Nat} (e:env[i]? = some s):∃ x,σ[i]? = some x/\(x,s)∈σ.zip env:=by
 have hi:i<env.length:=(HI.mp e).1
 have hj:i<σ.length:=by omega
 refine⟨σ[i],Hz hj,?_⟩
 have hz:i<(σ.zip env).length:=by rw[Jj];omega
 have:=Ih hz
 rw[JL] at this
 rwa [(HI.mp e).2] at this
theorem cX (m:(v,s)∈ts):((some v,s):Ent)∈aI σ env ts:=HA _ (HS.mpr ⟨(v,s),m,rfl⟩)
theorem Rel.slot (h:Rel K M P H0 σ0 σ env ts H) {i:Nat} (e:env[i]? = some s):∃ x,σ[i]? = some x/\(x,s)∈aI σ env ts:=by
 obtain⟨x,e1,m⟩:=si h.len e
 exact⟨x,e1,HG _ m⟩
theorem bf.viewE {E:List Ent} (h:bf K M P H0 E H) {x:Option V} (m:(x,s)∈E) (e:slD s=some d):∃ v,x=some v/\Vw K (Nw M E) H v d:=by
 cases s with
 | fr d' =>
  cases e
  obtain⟨v,e1,dn⟩:=h.fr _ _ m
  exact⟨v,e1,.dn dn⟩
 | ow ds =>
  cases e
  obtain⟨a,vs,e1,e2,dn,_⟩:=h.ow _ _ m
  exact⟨_,e1,.ow e2 dn⟩
 | io ds =>
  cases e
  obtain⟨a,vs,e1,e2,dn,_⟩:=h.io _ _ m
  exact⟨_,e1,.ow e2 dn⟩
 | un=>cases e
 | vw i=>cases e
 | tr S d' =>
  cases d' with
  | dict kvs =>
   cases e
   obtain⟨v,e1,ot,_⟩:=h.tr _ _ _ m
   exact⟨v,e1,ot.dict_view⟩
  | _=>cases e
theorem Rel.there (h:Rel K M P H0 σ0 σ env ts H) {i:Nat} (e:(env[i]?).bind slD=some d):∃ v,σ[i]? = some (some v)/\Vw K (Nw M (aI σ env ts)) H v d:=by
 cases q:env[i]? with
 | none=>rw[q] at e;cases e
 | some s =>
  rw[q] at e
  obtain⟨x,e1,m⟩:=h.slot q
  obtain⟨v,e2,w⟩:=h.e.viewE m e
  exact⟨v,by rw[e1,e2],w⟩
theorem Rel.view (h:Rel K M P H0 σ0 σ env ts H) (m:(v,s)∈ts) (e:aP env s=some d):Vw K (Nw M (aI σ env ts)) H v d:=by
 cases s with
 | vw i =>
  obtain⟨w,e1,q⟩:=h.there e
  rw[h.vw v i m] at e1
  cases e1
  exact q
 | un=>cases e
 | tr S d' =>
  cases d' with
  | dict kvs=>obtain⟨w,e1,q⟩:=h.e.viewE (s:=.tr S (.dict kvs)) (cX m) e;cases e1;exact q
  | _=>cases e
 | fr d'=>obtain⟨w,e1,q⟩:=h.e.viewE (cX m) e;cases e1;exact q
 | ow d'=>obtain⟨w,e1,q⟩:=h.e.viewE (cX m) e;cases e1;exact q
 | io d'=>obtain⟨w,e1,q⟩:=h.e.viewE (cX m) e;cases e1;exact q
theorem pr {E B:List Ent}{b:Addr} (h:Nw M E b):Nw M (E++B) b:=by
 rcases h with h|h
 ·exact .inl h
 ·exact .inr (by rw[af];exact HG _ h)
theorem Rel.drop (h:Rel K M P H0 σ0 σ env (ts++tt) H):Rel K M P H0 σ0 σ env ts H :=
 ⟨by have:=h.e;rw[aH] at this;exact this.drop,h.len,λv i m=>h.vw v i (HG _ m),h.ios⟩
theorem Rel.same (h:Rel K M P H0 σ0 σ env ts H) (k:aR H H'):Rel K M P H0 σ0 σ env ts H':=⟨h.e.same k,h.len,h.vw,h.ios⟩
theorem Rel.addFr (h:Rel K M P H0 σ0 σ env ts H) (dn:DN K (Nw M (aI σ env ts)) H v d):Rel K M P H0 σ0 σ env (ts++[(v,.fr d)]) H :=
 ⟨by rw[aH];exact h.e.addFr dn,h.len,(λw i m=>by
  rcases HF.mp m with m|m
  ·exact h.vw w i m
  ·rw[HD] at m;cases m),h.ios⟩
theorem Rel.addVw (h:Rel K M P H0 σ0 σ env ts H) {i:Nat} (e:σ[i]? = some (some v)):Rel K M P H0 σ0 σ env (ts++[(v,.vw i)]) H :=
 ⟨by rw[aH];exact h.e.addVw,h.len,(λw i m=>by
  rcases HF.mp m with m|m
  ·exact h.vw w i m
  ·rw[HD] at m;cases m;exact e),h.ios⟩
theorem Rel.addOw (h:Rel K M P H0 σ0 σ env ts H) {p:Addr}{vs:List V}{ds:List PyData} (b:H p=none) (a:DNs K (Nw M (aI σ env ts)) H vs ds):Rel K M P H0 σ0 σ env (ts++[(.ref p,.ow ds)]) (upd H p (.lst vs)) :=
 ⟨by rw[aH];exact h.e.addOw b a,h.len,(λw i m=>by
  rcases HF.mp m with m|m
  ·exact h.vw w i m
  ·rw[HD] at m;cases m),h.ios⟩
theorem Rel.res (h:Rel K M P H0 σ0 σ env (ts++tt) H) (k:aR H H') (dn:DN K (Nw M (aI σ env (ts++tt))) H' v d):Rel K M P H0 σ0 σ env (ts++[(v,.fr d)]) H' :=
 (h.drop.same k).addFr (dn.to λb _ _ z=>by rw[aH];exact pr z)
theorem Rel.resOw (h:Rel K M P H0 σ0 σ env (ts++tt) H) {p:Addr}{vs:List V}{ds:List PyData} (c:H p=none) (a:DNs K (Nw M (aI σ env (ts++tt))) H vs ds):Rel K M P H0 σ0 σ env (ts++[(.ref p,.ow ds)]) (upd H p (.lst vs)) :=
 h.drop.addOw c (a.to λb _ _ z=>by rw[aH];exact pr z)
end
noncomputable abbrev DE:=List Sl->(Sl->List Sl->Prop)->Prop
noncomputable abbrev DT:=List Sl->(Bool->List Sl->Prop)->Prop
noncomputable abbrev DA:=List Sl->(List Sl->List Sl->Prop)->Prop
structure Wn {α:Type} (a:α):Type
noncomputable def dK (R:Sl->List Sl->Prop) (_:Wn R):Sl->List Sl->Prop:=R
theorem yU (R:Sl->List Sl->Prop) (w:Wn R) (s:Sl) (env:List Sl):dK R w s env=R s env:=rfl
noncomputable def dI (W:List Sl->Prop) (_:Wn W):List Sl->Prop:=W
theorem El (W:List Sl->Prop) (w:Wn W) (env:List Sl):dI W w env=W env:=rfl
noncomputable abbrev Wk (G Q:Prop):Prop:=(G->Q)->(Q->G)->Q->G
theorem sk {c:Bool}{p A d B f:Prop} [Decidable p] (e:c=decide p) (a:d->A) (b:f->B) (h:if p then d else f):if c=true then A else B:=by
 subst e
 by_cases q:p
 ·rw[if_pos q] at h
  rw[if_pos (decide_eq_true q)]
  exact a h
 ·rw[if_neg q] at h
  rw[if_neg λz=>q (of_decide_eq_true z)]
  exact b h
inductive up (K:PySem.W.Frag) (t:DE) (σ:St) (H:Hp) (Q:VK):Prop
 | mk (M P:Addr->Prop) (H0:Hp) (σ0:St) (env:List Sl) (ts:List (V×Sl)) (R:Sl->List Sl->Prop):Rel K M P H0 σ0 σ env ts H->t env R ->
 (∀ s env' v H',R s env'->Rel K M P H0 σ0 σ env' (ts++[(v,s)]) H'->Q v H')->up K t σ H Q
inductive upT (K:PySem.W.Frag) (t:DT) (σ:St) (H:Hp) (Q:Bool->Hp->Prop):Prop
 | mk (M P:Addr->Prop) (H0:Hp) (σ0:St) (env:List Sl) (ts:List (V×Sl)) (R:Bool->List Sl->Prop):Rel K M P H0 σ0 σ env ts H->t env R ->
 (∀ b env' H',R b env'->Rel K M P H0 σ0 σ env' ts H'->Q b H')->upT K t σ H Q
inductive upA (K:PySem.W.Frag) (t:DA) (σ:St) (H:Hp) (Q:List V->Hp->Prop):Prop
 | mk (M P:Addr->Prop) (H0:Hp) (σ0:St) (env:List Sl) (ts:List (V×Sl)) (R:List Sl->List Sl->Prop):Rel K M P H0 σ0 σ env ts H->t env R ->
 (∀ ss env' vs H',R ss env'->vs.length=ss.length->Rel K M P H0 σ0 σ env' (ts++vs.zip ss) H'->Q vs H')->upA K t σ H Q
theorem PE.imp {X:Cx}{e:Expr}{t t':TE} (h:PE X e t) (k:∀ σ H Q,t' σ H Q->t σ H Q):PE X e t':=λpins s σ H Q I hw=>h pins s σ H Q I (k σ H Q hw)
theorem PT.imp {X:Cx}{e:Expr}{t t':TT} (h:PT X e t) (k:∀ σ H Q,t' σ H Q->t σ H Q):PT X e t':=λpins s σ H Q I hw=>h pins s σ H Q I (k σ H Q hw)
theorem PW.imp {X:Cx}{e:Expr}{t t':TT} (h:PW X e t) (k:∀ σ H Q,t' σ H Q->t σ H Q):PW X e t':=λwh pins s σ H Q I hw=>h wh pins s σ H Q I (k σ H Q hw)
theorem PA.imp {X:Cx}{e:List Expr}{t t':TA} (h:PA X e t) (k:∀ σ H Q,t' σ H Q->t σ H Q):PA X e t':=λpos pins s σ H Q I hw=>h pos pins s σ H Q I (k σ H Q hw)
section
variable {X:Cx}{K:PySem.W.Frag}{pos:Pos}{a b c:Expr}{ta tb tc:DE}{es:List Expr}{tA tB':DT}{tl:DA}
noncomputable def EM (i:Nat):DE:=λenv R=>∃ d,(env[i]?).bind slD=some d/\R (.vw i) env
theorem qv (i:Nat) {x:Str} (c:X.N[i]? = some x:=by rfl) (f:Vis X.env.scope x:=by first|exact Or.inl rfl|exact Or.inr (Or.inl rfl)|exact Or.inr (Or.inr rfl)) (hd:(x==("__debug__" : Str))=false:=by decide)
  (b:(x==("__classdict__" : Str))=false:=by decide):PE X (.Name x pos) (up K (EM i)):=(cP c f hd b).imp λσ H Q h=>by
 obtain⟨M,P,H0,σ0,env,ts,R,a,⟨d,e,g⟩,j⟩:=h
 obtain⟨v,e1,_⟩:=a.there e
 exact⟨v,e1,j _ _ _ _ g (a.addVw e1)⟩
theorem fR {α:Type}:∀ {l:List α}{i:Nat}{x:α},l[i]? = some x->∃ A B,l=A++x::B/\∀ y,l.set i y=A++y::B
 | [],i,x,h=>by simp at h
 | z::l,0,x,h=>by
  simp at h
  subst h
  exact⟨[],l,rfl,λy=>rfl⟩
 | z::l,i+1,x,h=>by
  obtain⟨A,B,e1,e2⟩:=fR (l:=l) (i:=i) (x:=x) (by simpa using h)
  exact⟨z::A,B,by rw[e1];rfl,λy=>by rw[List.set_cons_succ,e2 y];rfl⟩
theorem cU {α β:Type} (l:List α) (m:List β) (j:Nat):(l.zip m)[j]? = (l[j]?).bind λa=>(m[j]?).map λb=>(a,b):=by
 rw[List.zip,List.getElem?_zipWith]
 cases l[j]? <;> cases m[j]? <;> rfl
theorem sf {σ:St}{env:List Sl}{i:Nat}{x:Option V}{s':Sl} (h:σ[i]? = some x):σ.zip (env.set i s')=(σ.zip env).set i (x,s'):=by
 apply List.ext_getElem?
 intro j
 by_cases hj:i=j
 ·subst hj
  rw[JA,cU,cU,h]
  by_cases hi:i<env.length
  ·rw[Ik hi,Hz hi]
   rfl
  ·rw[Jc (by simp;omega),Jc (by omega)]
   rfl
 ·rw[Ii hj,cU,cU,Ii hj]
theorem Rel.split {M P:Addr->Prop}{H0 H:Hp}{σ0 σ:St}{env:List Sl}{ts:List (V×Sl)}{i:Nat}{s:Sl} (h:Rel K M P H0 σ0 σ env ts H) (e:env[i]? = some s) :
  ∃ x A B,σ[i]? = some x/\aI σ env ts=A++(x,s)::B/\∀ s',aI σ (env.set i s') ts=A++(x,s')::B:=by
 obtain⟨x,e1,m⟩:=si h.len e
 have a:(σ.zip env)[i]? = some (x,s):=by rw[List.zip,List.getElem?_zipWith,e1,e]
 obtain⟨A,B,q1,b⟩:=fR a
 refine⟨x,A,B++tmp ts,e1,by unfold aI;rw[q1];simp,λs'=>?_⟩
 unfold aI
 rw[sf e1,b]
 simp
noncomputable def yV (i:Nat):DE:=λenv R=>match env[i]? with
 | some (.fr d)=>R (.fr d) env
 | some (.tr _ d)=>R (.fr d) (env.set i (.fr d))
 | some (.ow ds)=>R (.fr (.list ds)) (env.set i (.fr (.list ds)))
 | _=>False
theorem Rel.frz {M P:Addr->Prop}{H0 H:Hp}{σ0 σ:St}{env:List Sl}{ts:List (V×Sl)}{i:Nat}{ds:List PyData} (h:Rel K M P H0 σ0 σ env ts H) (e:env[i]? = some (.ow ds)):Rel K M P H0 σ0 σ (env.set i (.fr (.list ds))) ts H:=by
 obtain⟨x,A,B,e1,q1,c⟩:=h.split e
 have r:=h.e
 rw[q1] at r
 obtain⟨a,vs,z,_⟩:=r.ow _ _ (HA _ HH)
 subst z
 refine⟨by rw[c];exact r.freeze,by simp[h.len],h.vw,λj ds' b=>?_⟩
 by_cases hj:i=j
 ·subst hj
  have hi:i<env.length:=(HI.mp e).1
  rw[Ik hi] at b
  cases b
 ·rw[Ii hj] at b
  exact h.ios j ds' b
theorem Rel.frzT {M P:Addr->Prop}{H0 H:Hp}{σ0 σ:St}{env:List Sl}{ts:List (V×Sl)}{i:Nat}{S:List Addr}{d:PyData} (h:Rel K M P H0 σ0 σ env ts H) (e:env[i]? = some (.tr S d)):Rel K M P H0 σ0 σ (env.set i (.fr d)) ts H:=by
 obtain⟨x,A,B,e1,q1,b⟩:=h.split e
 have r:=h.e
 rw[q1] at r
 obtain⟨v,z,_⟩:=r.tr _ _ _ (HA _ HH)
 subst z
 refine⟨by rw[b];exact r.freezeT,by simp[h.len],h.vw,λj ds' a=>?_⟩
 by_cases hj:i=j
 ·subst hj
  have hi:i<env.length:=(HI.mp e).1
  rw[Ik hi] at a
  cases a
 ·rw[Ii hj] at a
  exact h.ios j ds' a
theorem qf (i:Nat) {x:Str} (g:X.N[i]? = some x:=by rfl) (j:Vis X.env.scope x:=by first|exact Or.inl rfl|exact Or.inr (Or.inl rfl)|exact Or.inr (Or.inr rfl)) (hd:(x==("__debug__" : Str))=false:=by decide)
  (f:(x==("__classdict__" : Str))=false:=by decide):PE X (.Name x pos) (up K (yV i)):=(cP g j hd f).imp λσ H Q h=>by
 obtain⟨M,P,H0,σ0,env,ts,R,b,c,k⟩:=h
 have key:∀ env' d,Rel K M P H0 σ0 σ env' ts H->env'[i]? = some (.fr d)->R (.fr d) env'->E6 i σ H Q:=λenv' d a l n=>by
  obtain⟨o,e1,m⟩:=a.slot l
  obtain⟨v,e2,dn⟩:=a.e.fr _ _ m
  subst e2
  exact⟨v,e1,k _ _ _ _ n (a.addFr dn)⟩
 unfold yV at c
 split at c
 ·rename_i d e
  exact key env d b e c
 ·rename_i S d e
  have hi:i<env.length:=(HI.mp e).1
  exact key _ _ (b.frzT e) (Ik hi) c
 ·rename_i ds e
  have hi:i<env.length:=(HI.mp e).1
  exact key _ _ (b.frz e) (Ik hi) c
 ·exact c.elim
noncomputable def dC (d:PyData):DE:=λenv R=>R (.fr d) env
theorem ag {i j}:PE X (.Constant (.int i) j pos) (up K (dC (.int i))):=pk.imp λσ H Q h=>by
 obtain⟨M,P,H0,σ0,env,ts,R,a,b,c⟩:=h
 exact c _ _ _ _ b (a.addFr (.int i))
theorem gK {i j}:PE X (.Constant (.bool i) j pos) (up K (dC (.bool i))):=FA.imp λσ H Q h=>by
 obtain⟨M,P,H0,σ0,env,ts,R,a,b,c⟩:=h
 exact c _ _ _ _ b (a.addFr (.bl i))
theorem f7 {j}:PE X (.Constant .none j pos) (up K (dC .none)):=Da.imp λσ H Q h=>by
 obtain⟨M,P,H0,σ0,env,ts,R,a,b,c⟩:=h
 exact c _ _ _ _ b (a.addFr .non)
noncomputable abbrev G2:=PyData->PyData->(PyData->Prop)->Prop
noncomputable def dOp (g:G2) (ta tb:DE):DE:=λenv R=>ta env λs1 b=>tb b λs2 a=>∃ d1 d2,aP a s1=some d1/\aP a s2=some d2/\g d1 d2 λd=>R (.fr d) a
noncomputable def ck (K:PySem.W.Frag) (r:R2) (g:G2):Prop:=∀ (N:Addr->Prop) (H:Hp) (x y:V) (d1 d2:PyData) (R:PyData->Prop) (Q:VK),Vw K N H x d1->Vw K N H y d2->g d1 d2 R->(∀ d v,R d->DN K N H v d->Q v H)->r x y H Q
theorem v8 {r:R2}{g:G2} (m:ck K r g):∀ σ H Q,up K (dOp g ta tb) σ H Q->tOp r (up K ta) (up K tb) σ H Q:=λσ H Q h=>by
 obtain⟨M,P,H0,σ0,env,ts,R,i,l,n⟩:=h
 refine⟨M,P,H0,σ0,env,ts,_,i,l,λs1 c j H1 h1 e=>⟨M,P,H0,σ0,c,ts++[(j,s1)],_,e,h1,λs2 f k H2 h2 a=>?_⟩⟩
 obtain⟨d1,d2,e1,e2,g⟩:=h2
 refine m _ H2 j k d1 d2 _ Q (a.view (by simp) e1) (a.view (by simp) e2) g λd v o dn=>n _ _ _ _ o ?_
 have b:Rel K M P H0 σ0 σ f (ts++[(j,s1),(k,s2)]) H2:=by simpa using a
 exact b.res (aR.refl _) (by simpa using dn)
theorem bz {op:Operator}{r:R2}{g:G2} (ho:OpR X (Ky op) r) (m:ck K r g) (c:PE X a (up K ta)) (d:PE X b (up K tb)):PE X (.BinOp a op b pos) (up K (dOp g ta tb)):=(C8 ho c d).imp (v8 m)
theorem m8 {op:CmpOp}{r:R2}{g:G2} (ho:OpR X (z4 op) r) (m:ck K r g) (c:PE X a (up K ta)) (d:PE X b (up K tb)) (e:KG op b=false):PE X (.Compare a [op] [b] pos) (up K (dOp g ta tb)):=(Au ho c d e).imp (v8 m)
noncomputable def nR (t:DE):DT:=λenv R=>t env λs a=>∃ k,aP a s=some (.bool k)/\R k a
theorem sx {t:TE}{c:DE} (h:∀ σ H Q,up K c σ H Q->t σ H Q):∀ σ H Q,upT K (nR c) σ H Q->Cs t σ H Q:=λσ H Q f=>by
 obtain⟨M,P,H0,σ0,env,ts,R,b,g,i⟩:=f
 refine h σ H _ ⟨M,P,H0,σ0,env,ts,_,b,g,λs1 d l H1 h1 a=>?_⟩
 obtain⟨k,e,j⟩:=h1
 exact⟨k,(a.view (by simp) e).bool,i _ _ _ j a.drop⟩
theorem aJ {op:CmpOp}{r:R2}{g:G2} (ho:OpR X (z4 op) r) (m:ck K r g) (c:PE X a (up K ta)) (d:PE X b (up K tb)) (e:KG op b=false):PT X (.Compare a [op] [b] pos) (upT K (nR (dOp g ta tb))):=(z8 ho c d e).imp (sx (v8 m))
theorem bE {r:R2}{g:G2} (c:IxR X r) (m:ck K r g) (d:PE X a (up K ta)) (e:PE X b (up K tb)) (f:gq b):PE X (.Subscript a b pos) (up K (dOp g ta tb)):=(tL c d e f).imp (v8 m)
theorem cN {e:Expr}{t:DE} (h:PE X e (up K t)) (b:∀ a,Qk e X.env a=(do let v <-a;KD e.pos;Kk [v] (QE v)):=by intro _;rfl):PT X e (upT K (nR t)):=(CY h b).imp (sx λ_ _ _ h=>h)
noncomputable def Gb (t u:DT):DT:=λenv R=>t env λk a=>if k=true then u a R else R false a
noncomputable def dOr (t u:DT):DT:=λenv R=>t env λk a=>if k=true then R true a else u a R
noncomputable def EQ (t:DT):DT:=λenv R=>t env λk a=>R (!k) a
theorem sX (b:PT X a (upT K tA)):PW X (.BoolOp .And [a] pos) (upT K tA):=z6 b
theorem fP (b:PT X a (upT K tA)):PW X (.BoolOp .Or [a] pos) (upT K tA):=CV b
theorem yi (g:PT X a (upT K tA)) (i:PW X (.BoolOp .And (b::es) pos) (upT K tB')):PW X (.BoolOp .And (a::b::es) pos) (upT K (Gb tA tB')):=(CW g i).imp λσ H Q h=>by
 obtain⟨M,P,H0,σ0,env,ts,R,e,j,f⟩:=h
 refine⟨M,P,H0,σ0,env,ts,_,e,j,λk d H1 h1 c=>?_⟩
 cases k with
 | true=>exact⟨M,P,H0,σ0,d,ts,R,c,h1,f⟩
 | false=>exact f _ _ _ h1 c
theorem iY (g:PT X a (upT K tA)) (i:PW X (.BoolOp .Or (b::es) pos) (upT K tB')):PW X (.BoolOp .Or (a::b::es) pos) (upT K (dOr tA tB')):=(Fx g i).imp λσ H Q h=>by
 obtain⟨M,P,H0,σ0,env,ts,R,e,j,f⟩:=h
 refine⟨M,P,H0,σ0,env,ts,_,e,j,λk d H1 h1 c=>?_⟩
 cases k with
 | false=>exact⟨M,P,H0,σ0,d,ts,R,c,h1,f⟩
 | true=>exact f _ _ _ h1 c
theorem df (e:PT X a (upT K tA)):PT X (.UnaryOp .Not a pos) (upT K (EQ tA)):=(CZ e).imp λσ H Q h=>by
 obtain⟨M,P,H0,σ0,env,ts,R,c,f,g⟩:=h
 exact⟨M,P,H0,σ0,env,ts,_,c,f,λk d H1 h1 b=>g _ _ _ h1 b⟩
noncomputable def BI (t u:DE):DE:=λenv R=>t env λs a=>∃ k,aP a s=some (.bool k)/\if k=true then u a R else R (.fr (.bool false)) a
theorem zV {op} (h:PE X a (up K ta)):PE X (.BoolOp op [a] pos) (up K ta):=C9 h
theorem vQ (i:PE X a (up K ta)) (j:PE X (.BoolOp .And (b::es) pos) (up K tb)):PE X (.BoolOp .And (a::b::es) pos) (up K (BI ta tb)):=(Dc i j).imp λσ H Q h=>by
 obtain⟨M,P,H0,σ0,env,ts,R,f,l,g⟩:=h
 refine⟨M,P,H0,σ0,env,ts,_,f,l,λs1 d m H1 h1 c=>?_⟩
 obtain⟨k,e,h1⟩:=h1
 refine⟨k,(c.view (by simp) e).bool,?_⟩
 cases k with
 | true=>exact⟨M,P,H0,σ0,d,ts,R,c.drop,h1,g⟩
 | false=>exact g _ _ _ _ h1 (c.drop.addFr (.bl false))
noncomputable def dIf (t:DT) (ta tb:DE):DE:=λenv R=>t env λk a=>if k=true then ta a R else tb a R
theorem tq (hc:PT X c (upT K tA)) (i:PE X a (up K ta)) (j:PE X b (up K tb)):PE X (.IfExp c a b pos) (up K (dIf tA ta tb)):=(vZ hc i j).imp λσ H Q h=>by
 obtain⟨M,P,H0,σ0,env,ts,R,f,l,g⟩:=h
 refine⟨M,P,H0,σ0,env,ts,_,f,l,λk d H1 h1 e=>?_⟩
 cases k with
 | true=>exact⟨M,P,H0,σ0,d,ts,R,e,h1,g⟩
 | false=>exact⟨M,P,H0,σ0,d,ts,R,e,h1,g⟩
noncomputable def qq (g g':G2) (ta tb tc:DE):DE:=λenv R=>ta env λs1 c=>tb c λs2 a=>∃ d1 d2,aP a s1=some d1/\aP a s2=some d2/\g d1 d2 λd=>∃ k,d=.bool k /\
 if k=true then tc a λh b=>∃ e f,aP b s2=some e/\aP b h=some f/\g' e f λd'=>R (.fr d') b else R (.fr (.bool false)) a
theorem xu {r u:R2}{g g':G2} (m:ck K r g) (z:ck K u g'):∀ σ H Q,up K (qq g g' ta tb tc) σ H Q->xQ r u (up K ta) (up K tb) (up K tc) σ H Q:=λσ H Q h=>by
 obtain⟨M,P,H0,σ0,env,ts,R,q,A,w⟩:=h
 refine⟨M,P,H0,σ0,env,ts,_,q,A,λs1 j l H1 h1 n=>⟨M,P,H0,σ0,j,ts++[(l,s1)],_,n,h1,λs2 e o H2 h2 a=>?_⟩⟩
 obtain⟨d1,d2,e1,e2,g⟩:=h2
 have b:Rel K M P H0 σ0 σ e (ts++[(l,s1),(o,s2)]) H2:=by simpa using a
 refine m _ H2 l o d1 d2 _ _ (a.view (by simp) e1) (a.view (by simp) e2) g λd v i dn=>?_
 obtain⟨k,rfl,i⟩:=i
 cases dn
 refine⟨k,rfl,?_⟩
 cases k with
 | false=>exact w _ _ _ _ i (b.drop.addFr (.bl false))
 | true =>
  refine⟨M,P,H0,σ0,e,ts++[(l,s1),(o,s2)],_,b,i,λB p x y C c=>?_⟩
  obtain⟨s,D,t,e3,g'⟩:=C
  refine z _ y o x s D _ Q (c.view (by simp) t) (c.view (by simp) e3) g' λd v i dn=>w _ _ _ _ i ?_
  have f:Rel K M P H0 σ0 σ p (ts++[(l,s1),(o,s2),(x,B)]) y:=by simpa using c
  exact f.res (aR.refl _) (by simpa using dn)
theorem jO {op d:CmpOp}{r f:R2}{g g':G2} (ho:OpR X (z4 op) r) (m:ck K r g) (e:OpR X (z4 d) f) (h:ck K f g') (i:PE X a (up K ta)) (j:PE X b (up K tb)) (hc:PE X c (up K tc))
  (k:lastMarks [op,d] [b,c]=false:=by with_unfolding_all rfl):PE X (.Compare a [op,d] [b,c] pos) (up K (qq g g' ta tb tc)):=(v7 ho e i j hc k).imp (xu m h)
noncomputable abbrev G1:=PyData->(PyData->Prop)->Prop
noncomputable def dUn (g:G1) (ta:DE):DE:=λenv R=>ta env λs1 a=>∃ d1,aP a s1=some d1/\g d1 λd=>R (.fr d) a
theorem CH {op:UnaryOp}{r:V->Hp->VK->Prop}{g:G1} (ho:UnR X (unaryOp op) r) (m:∀ (N:Addr->Prop) (H:Hp) (x:V) (d1:PyData) (R:PyData->Prop) (Q:VK),Vw K N H x d1->g d1 R->(∀ d v,R d->DN K N H v d->Q v H)->r x H Q)
  (f:PE X a (up K ta)):PE X (.UnaryOp op a pos) (up K (dUn g ta)):=(C7 ho f).imp λσ H Q h=>by
 obtain⟨M,P,H0,σ0,env,ts,R,c,i,j⟩:=h
 refine⟨M,P,H0,σ0,env,ts,_,c,i,λs1 e k H1 h1 b=>?_⟩
 obtain⟨d1,e1,g⟩:=h1
 exact m _ H1 k d1 _ Q (b.view (by simp) e1) g λd v l dn=>j _ _ _ _ l (b.res (aR.refl _) dn)
noncomputable def ER:DA:=λenv R=>R [] env
noncomputable def xp (t:DE) (u:DA):DA:=λenv R=>t env λs a=>u a λss b=>R (s::ss) b
theorem ac:PA X [] (upA K ER):=ln.imp λσ H Q h=>by
 obtain⟨M,P,H0,σ0,env,ts,R,a,b,c⟩:=h
 exact c [] env [] H b rfl (by simpa using a)
theorem aa (i:PE X a (up K ta)) (j:PA X es (upA K tl)) (k:kq (a::es) X.env=(false,eval a X.env)::kq es X.env:=by rfl):PA X (a::es) (upA K (xp ta tl)):=(f8 i j k).imp λσ H Q h=>by
 obtain⟨M,P,H0,σ0,env,ts,R,f,l,m⟩:=h
 refine⟨M,P,H0,σ0,env,ts,_,f,l,λs1 b g H1 h1 c=>⟨M,P,H0,σ0,b,ts++[(g,s1)],_,c,h1,λss d vs H2 h2 n e=>?_⟩⟩
 exact m (s1::ss) d (g::vs) H2 h2 (by simp[n]) (by simpa using e)
end
section
variable {K:PySem.W.Frag}{M P N:Addr->Prop}{H0 H:Hp}{σ0 σ:St}{env:List Sl}{ts tt:List (V×Sl)}{v:V}{s:Sl}{d:PyData}
noncomputable def gI (f:Int->Int->Int):G2:=λd e R=>∃ i j,d=.int i/\e=.int j/\R (.int (f i j))
noncomputable def gIC (C:Int->Int->Prop) (f:Int->Int->Int):G2:=λd e R=>∃ i j,d=.int i/\e=.int j/\C i j/\R (.int (f i j))
noncomputable def gB (f:Int->Int->Bool):G2:=λd e R=>∃ i j,d=.int i/\e=.int j/\R (.bool (f i j))
theorem mI {f:Int->Int->Int}:ck K (rI0 λi j=>.int (f i j)) (gI f):=by
 rintro N H x y d e R Q a b ⟨i,j,rfl,rfl,c⟩ g
 exact⟨i,j,a.int,b.int,g _ _ c (.int _)⟩
theorem mIC {C:Int->Int->Prop}{f:Int->Int->Int}:ck K (rI C λi j=>.int (f i j)) (gIC C f):=by
 rintro N H x y d e R Q a b ⟨i,j,rfl,rfl,c,g⟩ h
 exact⟨i,j,a.int,b.int,c,h _ _ g (.int _)⟩
theorem mB {f:Int->Int->Bool}:ck K (rI0 λi j=>.bl (f i j)) (gB f):=by
 rintro N H x y d e R Q a b ⟨i,j,rfl,rfl,c⟩ g
 exact⟨i,j,a.int,b.int,g _ _ c (.bl _)⟩
theorem AJ:ck K rEq (gB λi j=>decide (i=j)):=by
 rintro N H x y d e R Q a b ⟨i,j,rfl,rfl,c⟩ f
 rw[a.int,b.int]
 refine⟨rfl,?_⟩
 have q:=f _ _ c (.bl _)
 rwa [show decide (V.int i=V.int j)=decide (i=j) by simp]
theorem AI:ck K rNe (gB λi j=>!decide (i=j)):=by
 rintro N H x y d e R Q a b ⟨i,j,rfl,rfl,c⟩ f
 rw[a.int,b.int]
 refine⟨rfl,?_⟩
 have q:=f _ _ c (.bl _)
 rwa [show decide (V.int i=V.int j)=decide (i=j) by simp]
noncomputable def gBB (f:Bool->Bool->Bool):G2:=λd e R=>∃ i j,d=.bool i/\e=.bool j/\R (.bool (f i j))
theorem Dk:ck K (λx y H Q=>∃ b c,x=.bl b/\y=.bl c/\Q (.bl (b != c)) H) (gBB λi j=>i != j):=by
 rintro N H x y d e R Q a f ⟨i,j,rfl,rfl,g⟩ h
 exact⟨i,j,a.bool,f.bool,h _ _ g (.bl _)⟩
noncomputable def gEq:G2:=λd e R=>shp d/\shp e/\R (.bool (PyData.eqv d e))
noncomputable def gNe:G2:=λd e R=>shp d/\shp e/\R (.bool (!PyData.eqv d e))
theorem mEq:ck K (Fu K) gEq:=λN H x y d e R Q a b ⟨h1,h2,c⟩ f=>⟨d,e,a.dv,b.dv,h1,h2,f _ _ c (.bl _)⟩
theorem mNe:ck K (Fp K) gNe:=λN H x y d e R Q a b ⟨h1,h2,c⟩ f=>⟨d,e,a.dv,b.dv,h1,h2,f _ _ c (.bl _)⟩
noncomputable def jv:PyData->Bool
 | .none=>true
 | _=>false
theorem Vw.isNon (w:Vw K N H v d):decide (v=.non)=jv d:=by
 cases w with
 | dn h =>
  cases h with
  | fz h=>obtain⟨a,xs,e,_⟩:=h.list;subst e;simp[jv]
  | _=>simp[jv]
 | ow h q=>simp[jv]
 | dct h q r e=>simp[jv]
 | idc h q e=>simp[jv]
noncomputable def EI:G2:=λd e R=>e=.none/\R (.bool (jv d))
noncomputable def wR:G2:=λd e R=>e=.none/\R (.bool (!jv d))
theorem FG:ck K (λx y H Q=>y=.non/\Q (.bl (decide (x=.non))) H) EI:=by
 rintro N H x y d e R Q a b ⟨rfl,c⟩ f
 exact⟨b.none,by rw[a.isNon];exact f _ _ c (.bl _)⟩
theorem AG:ck K (λx y H Q=>y=.non/\Q (.bl (!decide (x=.non))) H) wR:=by
 rintro N H x y d e R Q a b ⟨rfl,c⟩ f
 exact⟨b.none,by rw[a.isNon];exact f _ _ c (.bl _)⟩
noncomputable def eO:PyData->Option (List PyData)
 | .list ds=>some ds
 | .tuple ds=>some ds
 | _=>none
noncomputable def DJ:PyData->Option Int
 | .int i=>some i
 | _=>none
noncomputable def bN:List PyData->Option (List Int)
 | []=>some []
 | d::ds=>(DJ d).bind λi=>(bN ds).map (i::·)
theorem bH:∀ ns:List Int,bN (ns.map .int)=some ns
 | []=>rfl
 | n::ns=>by rw[HU,bN,bH ns];rfl
theorem dE:∀ {ds:List PyData}{ns:List Int},bN ds=some ns->ds=ns.map .int
 | [],ns,h=>by cases h;rfl
 | d::ds,ns,h=>by
  unfold bN at h
  cases d <;> simp[DJ] at h
  obtain⟨ms,h1,rfl⟩:=h
  rw[dE h1];rfl
theorem Vw.seq {ds:List PyData} (w:Vw K N H v d) (e:eO d=some ds):∃ a vs,v=.ref a/\(SqL K H a vs\/SqT K H a vs)/\DNs K N H vs ds:=by
 cases d <;> simp[eO] at e
 ·subst e
  obtain⟨a,vs,e1,s,q⟩:=w.list
  exact⟨a,vs,e1,.inl s,q⟩
 ·subst e
  obtain⟨a,vs,e1,s,q⟩:=w.tuple
  exact⟨a,vs,e1,.inr s,q⟩
theorem wJ (i:Int) (ns:List Int):inV (.int i) (ns.map V.int)=decide (i∈ns):=by
 unfold inV
 induction ns with
 | nil=>rfl
 | cons n r a =>
  rw[HU,Jv,a]
  have:eqV (.int n) (.int i)=decide (n=i):=(show eqV (.int n) (.int i)=(n==i) from rfl).trans (by rw[JE];simp)
  rw[this]
  by_cases h1:n=i
  ·simp[h1]
  ·have:¬i=n:=λz=>h1 z.symm
   simp[h1,this]
theorem uA (ns:List Int):(ns.map V.int).all ki=true:=by
 rw[IK]
 intro x hx
 obtain⟨n,_,rfl⟩:=HS.mp hx
 rfl
noncomputable def gIn:G2:=λd e R=>∃ i ds ns,d=.int i/\eO e=some ds/\bN ds=some ns/\R (.bool (decide (i∈ns)))
noncomputable def DM:G2:=λd e R=>∃ i ds ns,d=.int i/\eO e=some ds/\bN ds=some ns/\R (.bool (!decide (i∈ns)))
theorem mIn:ck K (rIn K false) gIn:=by
 rintro N H x y d e R Q b c ⟨i,ds,ns,rfl,e1,e2,f⟩ g
 obtain⟨a,vs,rfl,s,q⟩:=c.seq e1
 rw[dE e2] at q
 rw[q.ints] at s
 rw[b.int]
 refine⟨a,_,rfl,s,rfl,uA ns,?_⟩
 rw[wJ]
 exact g _ _ f (.bl _)
theorem DNs.atI {vs:List V}{ds:List PyData}{i:Int}{e:PyData} (q:DNs K N H vs ds) (h:_L.atI ds i=some e):∃ v,_L.atI vs i=some v/\DN K N H v e:=by
 unfold _L.atI at h ⊢
 rw[q.len]
 cases hj:ixN ds.length i with
 | none=>rw[hj] at h;cases h
 | some j =>
  rw[hj] at h
  have h:ds[j]? = some e:=h
  have a:j<vs.length:=by rw[q.len];exact(HI.mp h).1
  obtain⟨b,h1,h2⟩:=q.get (Hz a)
  rw[h] at h1
  cases h1
  exact⟨vs[j],Hz a,h2⟩
noncomputable def gIx:G2:=λd e R=>∃ ds i x,eO d=some ds/\e=.int i/\atI ds i=some x/\R x
noncomputable def Ft (K:PySem.W.Frag):R2:=λx y H Q=>Gw K x y H Q\/Gv K x y H Q
theorem ah {X:Cx} (hK:X.K=K):IxR X (Ft K):=by subst hK;exact IxR.or A1 Dz
theorem mIx:ck K (Ft K) gIx:=by
 rintro N H x y d e R Q g b ⟨ds,i,z,e1,rfl,e2,c⟩ f
 obtain⟨a,vs,rfl,s,q⟩:=g.seq e1
 obtain⟨u,e3,dn⟩:=q.atI e2
 rcases s with s|s
 ·exact .inl ⟨a,vs,i,u,rfl,b.int,s,e3,f _ _ c dn⟩
 ·exact .inr ⟨a,vs,i,u,rfl,b.int,s,e3,f _ _ c dn⟩
inductive Vws (K:PySem.W.Frag) (N:Addr->Prop) (H:Hp):List V->List PyData->Prop
 | nil:Vws K N H [] []
 | cons {v d vs ds}:Vw K N H v d->Vws K N H vs ds->Vws K N H (v::vs) (d::ds)
noncomputable def fE (env:List Sl):List Sl->Option (List PyData)
 | []=>some []
 | s::ss=>(aP env s).bind λd=>(fE env ss).bind λds=>some (d::ds)
theorem Rel.views (h:Rel K M P H0 σ0 σ env ts H):∀ {vs:List V}{ss:List Sl}{ds:List PyData},vs.length=ss.length->(∀ p∈vs.zip ss,p∈ts)->fE env ss=some ds->Vws K (Nw M (aI σ env ts)) H vs ds
 | [],[],_,_,_,e=>by cases e;exact .nil
 | v :: vs,s::ss,ds,a,b,e=>by
  unfold fE at e
  cases e1:aP env s with
  | none=>rw[e1] at e;cases e
  | some d =>
   rw[e1] at e
   cases e2:fE env ss with
   | none=>rw[e2] at e;cases e
   | some ds' =>
    rw[e2] at e
    cases e
    exact .cons (h.view (b _ (by simp)) e1) (h.views (by simpa using a) (λp c=>b p (by simp[c])) e2)
 | [],_::_,_,a,_,_=>by simp at a
 | _::_,[],_,a,_,_=>by simp at a
noncomputable abbrev GB:=List PyData->(PyData->Prop)->Prop
noncomputable def dCB (g:GB) (t:DA):DE:=λenv R=>t env λss a=>∃ ds,fE a ss=some ds/\g ds λd=>R (.fr d) a
noncomputable def iS (K:PySem.W.Frag) (r:List V->Hp->VK->Prop) (g:GB):Prop:=∀ (N:Addr->Prop) (H:Hp) (xs:List V) (ds:List PyData) (R:PyData->Prop) (Q:VK),Vws K N H xs ds->g ds R->(∀ d v,R d->DN K N H v d->Q v H)->r xs H Q
theorem Gf {r:List V->Hp->VK->Prop}{g:GB}{tl:DA} (m:iS K r g):∀ σ H Q,up K (dCB g tl) σ H Q->tCB r (upA K tl) σ H Q:=λσ H Q h=>by
 obtain⟨M,P,H0,σ0,env,ts,R,b,f,i⟩:=h
 refine⟨M,P,H0,σ0,env,ts,_,b,f,λss c vs H1 h1 j a=>?_⟩
 obtain⟨ds,e,g⟩:=h1
 exact m _ H1 vs ds _ Q (a.views j (λp k=>HA _ k) e) g λd v l dn=>i _ _ _ _ l (a.res (aR.refl _) dn)
section
variable {X:Cx}{x:Str}{p pos:Pos}{e:Expr}{es:List Expr}{tl:DA}{id:String}{r:List V->Hp->VK->Prop}{g:GB}
theorem dw (hc:fw X (.builtin id) r) (m:iS K r g) (c:Gl X x) (d:X.mg x=none) (f:Kh x=some (.builtin id)) (h:PA X (e::es) (upA K tl)) (hn:x ≠ "__name__" := by decide) (a:(x==("__debug__" : Str))=false:=by decide)
  (i:kq (e::es) X.env=(false,eval e X.env)::kq es X.env:=by rfl) (b:(J0 pos (kq es X.env)).any (·.1)=false:=by rfl):PE X (.Call (.Name x p) (e::es) [] pos) (up K (dCB g tl)) :=
 (jQ hc c d f h hn a i b).imp (Gf m)
end
noncomputable def EF:GB:=λds R=>∃ d es,ds=[d]/\eO d=some es/\R (.int es.length)
theorem fA:iS K (λxs H Q=>∃ p ys,xs=[.ref p]/\(SqL K H p ys\/SqT K H p ys)/\Q (.int ys.length) H) EF:=by
 rintro N H xs ds R Q w ⟨d,es,rfl,e1,b⟩ c
 cases w with
 | cons e f =>
  cases f
  obtain⟨a,vs,rfl,s,q⟩:=e.seq e1
  refine⟨a,vs,rfl,s,?_⟩
  rw[q.len]
  exact c _ _ b (.int _)
noncomputable def Hm:GB:=λds R=>∃ i j,ds=[.int i,.int j]/\R (.int (if j<i then j else i))
noncomputable def Hn:GB:=λds R=>∃ i j,ds=[.int i,.int j]/\R (.int (if j>i then j else i))
noncomputable def yX:PyData->Option Bool
 | .bool i=>some i
 | _=>none
noncomputable def fq:List PyData->Option (List Bool)
 | []=>some []
 | d::ds=>(yX d).bind λi=>(fq ds).map (i::·)
theorem dH:∀ ns:List Bool,fq (ns.map .bool)=some ns
 | []=>rfl
 | n::ns=>by rw[HU,fq,dH ns];rfl
theorem d8:∀ {ds:List PyData}{ns:List Bool},fq ds=some ns->ds=ns.map .bool
 | [],ns,h=>by cases h;rfl
 | d::ds,ns,h=>by
  unfold fq at h
  cases d <;> simp[yX] at h
  obtain⟨ms,h1,rfl⟩:=h
  rw[d8 h1];rfl
theorem DNs.bools:∀ {ns:List Bool}{v:List V},DNs K N H v (ns.map .bool)->v=ns.map V.bl
 | [],_,.nil=>rfl
 | n::r,_,.cons h q=>by
  cases h
  rw[q.bools];rfl
noncomputable def FU:GB:=λds R=>∃ es bs,ds=[.list es]/\fq es=some bs/\R (.bool (bs.all id))
noncomputable def FT:GB:=λds R=>∃ es bs,ds=[.list es]/\fq es=some bs/\R (.bool (bs.any id))
theorem BX:iS K (λxs H Q=>∃ (a:Addr) (bs:List Bool),xs=[.ref a]/\SqL K H a (bs.map V.bl)/\Q (.bl (bs.all id)) H) FU:=by
 rintro N H xs ds R Q w ⟨es,bs,rfl,e1,b⟩ c
 cases w with
 | cons d e =>
  cases e
  obtain⟨a,vs,rfl,s,q⟩:=d.list
  rw[d8 e1] at q
  rw[q.bools] at s
  exact⟨a,bs,rfl,s,c _ _ b (.bl _)⟩
theorem Gz:iS K (λxs H Q=>∃ (a:Addr) (bs:List Bool),xs=[.ref a]/\SqL K H a (bs.map V.bl)/\Q (.bl (bs.any id)) H) FT:=by
 rintro N H xs ds R Q w ⟨es,bs,rfl,e1,b⟩ c
 cases w with
 | cons d e =>
  cases e
  obtain⟨a,vs,rfl,s,q⟩:=d.list
  rw[d8 e1] at q
  rw[q.bools] at s
  exact⟨a,bs,rfl,s,c _ _ b (.bl _)⟩
noncomputable def bp (env:List Sl):List Sl->Option (List PyData)
 | []=>some []
 | s::ss=>(aC env s).bind λd=>(bp env ss).bind λds=>some (d::ds)
theorem Rel.kept (h:Rel K M P H0 σ0 σ env (ts++tt) H) (m:(v,s)∈tt) (e:aC env s=some d):DN K (Nw M (aI σ env ts)) H v d:=by
 have c:=h.e
 rw[aH] at c
 have sub:∀ b,Nw M (aI σ env ts) b->Nw M (aI σ env ts++tmp tt) b:=λb z=>pr z
 have f:((some v,s):Ent)∈aI σ env ts++tmp tt:=HA _ (HS.mpr ⟨(v,s),m,rfl⟩)
 cases s with
 | fr d' =>
  cases e
  obtain⟨v',e1,dn⟩:=c.fr _ _ f
  cases e1
  exact dn.to λb _ _ z=>sub b z
 | ow ds =>
  cases e
  obtain⟨a,vs,e1,e2,dn,g⟩:=c.ow _ _ f
  cases e1
  refine .lst (SnL.of e2 ?_) (dn.to λb _ _ z=>sub b z)
  rintro(z|z)
  ·exact c.mt a z g
  ·have nd:=c.nd
   rw[af] at nd
   exact(HN.mp nd).2.2 a z a (bA.mpr ⟨_,HS.mpr ⟨_,m,rfl⟩,HD.mpr rfl⟩) rfl
 | tr S d' =>
  cases e
  obtain⟨v',e1,ot,g⟩:=c.tr _ _ _ f
  cases e1
  refine ot.dn sub λa j=>?_
  rintro(z|z)
  ·exact c.mt a z (g a j)
  ·have nd:=c.nd
   rw[af] at nd
   exact(HN.mp nd).2.2 a z a (bA.mpr ⟨_,HS.mpr ⟨_,m,rfl⟩,by rw[aU];exact j⟩) rfl
 | vw i =>
  have e:(env[i]?).bind slK=some d:=e
  cases q:env[i]? with
  | none=>rw[q] at e;cases e
  | some s' =>
   rw[q] at e
   cases s' with
   | fr d' =>
    cases e
    obtain⟨x,e1,m1⟩:=h.slot q
    rw[aH] at m1
    obtain⟨v',e2,dn⟩:=c.fr _ _ m1
    have e3:=h.vw v i (HA _ m)
    rw[e1,e2] at e3
    cases e3
    exact dn.to λb _ _ z=>sub b z
   | _=>cases e
 | _=>cases e
theorem Rel.keptAll (h:Rel K M P H0 σ0 σ env (ts++tt) H):∀ {vs:List V}{ss:List Sl}{ds:List PyData},vs.length=ss.length->(∀ p∈vs.zip ss,p∈tt)->bp env ss=some ds->DNs K (Nw M (aI σ env ts)) H vs ds
 | [],[],_,_,_,e=>by cases e;exact .nil
 | v :: vs,s::ss,ds,a,b,e=>by
  unfold bp at e
  cases e1:aC env s with
  | none=>rw[e1] at e;cases e
  | some d =>
   rw[e1] at e
   cases e2:bp env ss with
   | none=>rw[e2] at e;cases e
   | some ds' =>
    rw[e2] at e
    cases e
    exact .cons (h.kept (b _ (by simp)) e1) (h.keptAll (by simpa using a) (λp c=>b p (by simp[c])) e2)
 | [],_::_,_,a,_,_=>by simp at a
 | _::_,[],_,a,_,_=>by simp at a
theorem Rel.newAddr (h:Rel K M P H0 σ0 σ env ts H) {p:Addr} (a:H p=none):¬Nw M (aI σ env ts) p:=by
 rintro(z|z)
 ·exact h.e.live p (h.e.mt p z) a
 ·obtain⟨vs,q,_⟩:=h.e.own z
  rw[a] at q
  cases q
theorem Rel.resTup (h:Rel K M P H0 σ0 σ env (ts++tt) H) {p:Addr}{vs:List V}{ds:List PyData} (a:H p=none) (b:DNs K (Nw M (aI σ env ts)) H vs ds):Rel K M P H0 σ0 σ env (ts++[(.ref p,.fr (.tuple ds))]) (upd H p (.tup vs)) :=
 (h.drop.same (aR.new a)).addFr (.tup (SnT.of aB (h.drop.newAddr a)) (b.keep (aV.same (aR.new a))))
section
variable {X:Cx}{p pos:Pos}{e:Expr}{es:List Expr}{tl:DA}
noncomputable def B0 (t:DA):DE:=λenv R=>t env λss a=>∃ ds,bp a ss=some ds/\ss.length<=sizeLine/\R (.fr (.tuple ds)) a
noncomputable def ES (t:DA):DE:=λenv R=>t env λss a=>∃ ds,bp a ss=some ds/\ss.length<=sizeLine/\R (.ow ds) a
theorem gJ {x1} (h:PA X es (upA K tl)):PE X (.Tuple es x1 pos) (up K (B0 tl)):=(ym h).imp λσ H Q h=>by
 obtain⟨M,P,H0,σ0,env,ts,R,b,f,g⟩:=h
 refine⟨M,P,H0,σ0,env,ts,_,b,f,λss d vs H1 h1 i a=>?_⟩
 obtain⟨ds,e,hz,j⟩:=h1
 exact⟨by omega,λp c=>g _ _ _ _ j (a.resTup c (a.keptAll i (λp c=>c) e))⟩
theorem eP (h:PA X es (upA K tl)):PE X (.List es pos) (up K (ES tl)):=(yn h).imp λσ H Q h=>by
 obtain⟨M,P,H0,σ0,env,ts,R,b,f,g⟩:=h
 refine⟨M,P,H0,σ0,env,ts,_,b,f,λss d vs H1 h1 i a=>?_⟩
 obtain⟨ds,e,hz,j⟩:=h1
 exact⟨by omega,λp c=>g _ _ _ _ j (a.drop.addOw c (a.keptAll i (λp c=>c) e))⟩
end
end
noncomputable def CA (K:PySem.W.Frag):R2:=λx y H Q=>∃ l b xs a,x=.ref l/\y=.ref b/\SqL K H l xs/\SqL K H b a/\xs.length+a.length<=sizeLine/\∀ p,H p=none->Q (.ref p) (upd H p (.lst (xs++a)))
theorem ff {X:Cx}{K:PySem.W.Frag} (hK:X.K=K):OpR X (Ky .Add) (CA K):=by
 subst hK
 intro pins s σ H x y v u Q I m o h
 obtain⟨l,b,xs,C,rfl,rfl,p,t,hz,q⟩:=h
 cases m
 cases o
 obtain⟨c,r,⟨⟨cls,dd,data,sl⟩,n,ho,hc,_,hd⟩,z⟩:=I.list p
 obtain⟨a,j,⟨⟨k,g,data2,i⟩,w,d,e,_,f⟩,z2⟩:=I.list t
 simp only at hc hd e f
 subst hc hd e f
 have D:=r.length
 have A:=j.length
 refine concat_meets ⟨_,ho,rfl⟩ ⟨_,d,rfl⟩ noFill_list_add seq_list_add PySem.F.slot_list_add PySem.F.entry_list_add (PySem.F.args_list_add_2 _ _) (list_addW l b c.toArray a.toArray n w dd g sl i (by rw[HM,HM];omega)) ⟨ho,d,?_⟩
 have B:c.toArray++a.toArray=(c++a).toArray:=by simp
 rw[B]
 exact⟨.ref _,_,I.lnew (t':=s.toks) (r.append j) (by rw[Ie];omega),rfl,q _ I.fresh⟩
section
variable {K:PySem.W.Frag}{M P N:Addr->Prop}{H0 H H':Hp}{σ0 σ:St}{env:List Sl}{ts:List (V×Sl)}{v:V}{s:Sl}{d:PyData}
variable {X:Cx}{x:Str}{p pos:Pos}{a b e:Expr}{es:List Expr}{ta tb:DE}{tl:DA}
noncomputable def Ek (g:PyData->PyData->(List PyData->Prop)->Prop) (ta tb:DE):DE:=λenv R=>ta env λs1 b=>tb b λs2 a=>∃ d1 d2,aP a s1=some d1/\aP a s2=some d2/\g d1 d2 λds=>R (.ow ds) a
noncomputable def vj (K:PySem.W.Frag) (r:R2) (g:PyData->PyData->(List PyData->Prop)->Prop):Prop:=∀ (N:Addr->Prop) (H:Hp) (x y:V) (d1 d2:PyData) (R:List PyData->Prop) (Q:VK),Vw K N H x d1->Vw K N H y d2->g d1 d2 R ->
 (∀ ds vs p,R ds->DNs K N H vs ds->H p=none->Q (.ref p) (upd H p (.lst vs)))->r x y H Q
theorem Dh {r:R2}{g:PyData->PyData->(List PyData->Prop)->Prop} (m:vj K r g):∀ σ H Q,up K (Ek g ta tb) σ H Q->tOp r (up K ta) (up K tb) σ H Q:=λσ H Q h=>by
 obtain⟨M,P,H0,σ0,env,ts,R,f,l,n⟩:=h
 refine⟨M,P,H0,σ0,env,ts,_,f,l,λs1 c i H1 h1 d=>⟨M,P,H0,σ0,c,ts++[(i,s1)],_,d,h1,λs2 e k H2 h2 a=>?_⟩⟩
 obtain⟨d1,d2,e1,e2,g⟩:=h2
 refine m _ H2 i k d1 d2 _ Q (a.view (by simp) e1) (a.view (by simp) e2) g λds vs p o j q=>n _ _ _ _ o ?_
 have b:Rel K M P H0 σ0 σ e (ts++[(i,s1),(k,s2)]) H2:=by simpa using a
 exact b.resOw q (by simpa using j)
theorem m6 {op:Operator}{r:R2}{g:PyData->PyData->(List PyData->Prop)->Prop} (ho:OpR X (Ky op) r) (m:vj K r g) (c:PE X a (up K ta)) (d:PE X b (up K tb)):PE X (.BinOp a op b pos) (up K (Ek g ta tb)):=(C8 ho c d).imp (Dh m)
noncomputable def EJ:PyData->PyData->(List PyData->Prop)->Prop:=λd e R=>∃ xs ys,d=.list xs/\e=.list ys/\xs.length+ys.length<=sizeLine/\R (xs++ys)
theorem AK:vj K (CA K) EJ:=by
 rintro N H x y d e R Q b c ⟨xs,ys,rfl,rfl,hz,f⟩ g
 obtain⟨a1,h,rfl,s1,q1⟩:=b.list
 obtain⟨a2,i,rfl,s2,a⟩:=c.list
 exact⟨a1,a2,h,i,rfl,rfl,s1,s2,by rw[q1.len,a.len];exact hz,λp j=>g _ _ p f (q1.app a) j⟩
noncomputable def F8 (ta tb:DE):DE:=λenv R=>ta env λs1 b=>tb b λs2 a=>∃ xs ys,aP a s1=some (.tuple xs)/\aP a s2=some (.tuple ys)/\xs.length+ys.length<=sizeLine/\R (.fr (.tuple (xs++ys))) a
noncomputable abbrev DO:=List Sl->(Option Int->List Sl->Prop)->Prop
inductive upO (K:PySem.W.Frag) (t:DO) (σ:St) (H:Hp) (Q:Option Int->Hp->Prop):Prop
 | mk (M P:Addr->Prop) (H0:Hp) (σ0:St) (env:List Sl) (ts:List (V×Sl)) (R:Option Int->List Sl->Prop):Rel K M P H0 σ0 σ env ts H->t env R ->
 (∀ o env' H',R o env'->Rel K M P H0 σ0 σ env' ts H'->Q o H')->upO K t σ H Q
theorem PO.imp {e:Option Expr}{t t':TO} (h:PO X e t) (k:∀ σ H Q,t' σ H Q->t σ H Q):PO X e t':=λpins s σ H Q I hw=>h pins s σ H Q I (k σ H Q hw)
noncomputable def ko:DO:=λenv R=>R none env
noncomputable def xk (t:DE):DO:=λenv R=>t env λs a=>∃ i,aP a s=some (.int i)/\R (some i) a
theorem fe:PO X none (upO K ko):=Af.imp λσ H Q h=>by
 obtain⟨M,P,H0,σ0,env,ts,R,a,b,c⟩:=h
 exact c _ _ _ b a
theorem fb (h:PE X e (up K ta)):PO X (some e) (upO K (xk ta)):=(Ae h).imp λσ H Q h=>by
 obtain⟨M,P,H0,σ0,env,ts,R,b,d,f⟩:=h
 refine⟨M,P,H0,σ0,env,ts,_,b,d,λs1 c j H1 h1 a=>?_⟩
 obtain⟨i,e1,g⟩:=h1
 exact⟨i,(a.view (by simp) e1).int,f _ _ _ g a.drop⟩
noncomputable def mh {α:Type} (xs:List α) (lo hi:Option Int):List α:=(xs.drop (HT.sIx xs.length 0 lo)).take (HT.sIx xs.length xs.length hi - HT.sIx xs.length 0 lo)
theorem DNs.drop:∀ {vs:List V}{ds:List PyData} (n:Nat),DNs K N H vs ds->DNs K N H (vs.drop n) (ds.drop n)
 | _,_,0,q=>q
 | _,_,_+1,.nil=>.nil
 | _,_,n+1,.cons _ q=>q.drop n
theorem DNs.take:∀ {vs:List V}{ds:List PyData} (n:Nat),DNs K N H vs ds->DNs K N H (vs.take n) (ds.take n)
 | _,_,0,_=>.nil
 | _,_,_+1,.nil=>.nil
 | _,_,n+1,.cons h q=>.cons h (q.take n)
theorem DNs.cut {vs:List V}{ds:List PyData} (q:DNs K N H vs ds) (lo hi:Option Int):DNs K N H (B1 vs lo hi) (mh ds lo hi):=by
 unfold B1 mh
 rw[q.len]
 exact(q.drop _).take _
noncomputable def EN (te:DE) (tl th:DO):DE:=λenv R=>te env λs b=>tl b λl c=>th c λh a=>∃ ds,aP a s=some (.list ds)/\R (.ow (mh ds l h)) a
variable {lo hi:Option Expr}{tlo thi:DO}{p2:Pos}
theorem m4 (hK:X.K=K) (m:PE X e (up K ta)) (n:PO X lo (upO K tlo)) (o:PO X hi (upO K thi)):PE X (.Subscript e (.Slice lo hi none p2) pos) (up K (EN ta tlo thi)):=(vY (Hd (K:=K) hK) m n o).imp λσ H Q h=>by
 obtain⟨M,P,H0,σ0,env,ts,R,i,r,s⟩:=h
 refine⟨M,P,H0,σ0,env,ts,_,i,r,λs1 c j H1 h1 d=>⟨M,P,H0,σ0,c,ts++[(j,s1)],_,d,h1,λl f H2 h2 g=>⟨M,P,H0,σ0,f,ts++[(j,s1)],_,g,h2,λu k y t b=>?_⟩⟩⟩
 obtain⟨ds,e1,w⟩:=t
 obtain⟨a,vs,rfl,sq,q⟩:=(b.view (v:=j) (by simp) e1).list
 exact⟨a,vs,rfl,sq,λp x=>s _ _ _ _ w (b.resOw x (q.cut l u))⟩
noncomputable def uM (t:DA):DE:=λenv R=>t env λss a=>∃ s d ds,ss=[s]/\aP a s=some d/\eO d=some ds/\R (.fr (.tuple ds)) a
theorem tm (hK:X.K=K) (m:Gl X "tuple") (n:X.mg "tuple" = none) (o:PA X [e] (upA K tl)) (r:kq [e] X.env=[(false,eval e X.env)]:=by rfl):PE X (.Call (.Name "tuple" p) [e] [] pos) (up K (uM tl)) :=
 (tN (Dy (K:=K) hK) m n PyProof.Rows.boot_tuple o (by decide) (by decide) r rfl).imp λσ H Q h=>by
 obtain⟨M,P,H0,σ0,env,ts,R,f,t,i⟩:=h
 refine⟨M,P,H0,σ0,env,ts,_,f,t,λss j vs H1 h1 u c=>?_⟩
 obtain⟨s,d,ds,rfl,e1,e2,k⟩:=h1
 obtain⟨v,rfl⟩:=vp u
 have w:=c.view (v:=v) (by simp) e1
 cases d <;> simp[eO] at e2
 ·subst e2
  obtain⟨a,us,rfl,sq,q⟩:=w.list
  exact⟨a,us,rfl,.inl ⟨sq,λl g=>i _ _ _ _ k (c.resTup g (q.to λb _ _ z=>by rw[aH];exact pr z))⟩⟩
 ·subst e2
  obtain⟨a,us,rfl,sq,q⟩:=w.tuple
  refine⟨a,us,rfl,.inr ⟨sq,i _ _ _ _ k ?_⟩⟩
  cases w with
  | dn dn=>exact c.res (aR.refl _) dn
noncomputable def cV:Sl->List PyData->Option Sl
 | .ow _,ds=>some (.ow ds)
 | .io _,ds=>some (.io ds)
 | _,_=>none
noncomputable def iW:Sl->Option (List PyData)
 | .ow ds=>some ds
 | .io ds=>some ds
 | _=>none
theorem jk {s s':Sl}{l:List PyData} (h:cV s l=some s'):A4 s l s'/\iW s'=some l:=by
 cases s with
 | ow _=>cases h;exact⟨rfl,rfl⟩
 | io _=>cases h;exact⟨rfl,rfl⟩
 | _=>cases h
theorem sN {s:Sl}{l d:List PyData} (h:cV s l=some (.io d)):∃ a,s=.io a:=by
 cases s with
 | io a=>exact⟨a,rfl⟩
 | _=>cases h
theorem po {s:Sl}{l:List PyData} (h:iW s=some l):cV s l=some s/\∀ a,a∈dL (some (.ref a),s):=by
 cases s with
 | ow _=>cases h;exact⟨rfl,λa=>HD.mpr rfl⟩
 | io _=>cases h;exact⟨rfl,λa=>HD.mpr rfl⟩
 | _=>cases h
theorem Rel.mut {i:Nat}{s s':Sl}{ds ds':List PyData} (h:Rel K M P H0 σ0 σ env ts H) (e:env[i]? = some s) (es:cV s ds'=some s') {a:Addr} (g:σ[i]? = some (some (.ref a))) {vs':List V} (b:DNs K (Nw M (aI σ env ts)) H vs' ds') :
  Rel K M P H0 σ0 σ (env.set i s') ts (upd H a (.lst vs')):=by
 obtain⟨x,A,B,e1,q1,k⟩:=h.split e
 rw[g] at e1
 cases e1
 have r:=h.e
 rw[q1] at r b
 refine⟨by rw[k];exact r.mut (jk es).1 b,by simp[h.len],h.vw,λj c d=>?_⟩
 by_cases hj:i=j
 ·subst hj
  have hi:i<env.length:=(HI.mp e).1
  rw[Ik hi] at d
  cases d
  obtain⟨f,rfl⟩:=sN es
  exact h.ios i f e
 ·rw[Ii hj] at d
  exact h.ios j c d
theorem Rel.mine {i:Nat}{s:Sl}{ds:List PyData} (h:Rel K M P H0 σ0 σ env ts H) (e:env[i]? = some s) (b:iW s=some ds):∃ a vs,σ[i]? = some (some (.ref a))/\H a=some (.lst vs)/\DNs K (Nw M (aI σ env ts)) H vs ds:=by
 obtain⟨x,e1,m⟩:=h.slot e
 cases s with
 | ow d =>
  cases b
  obtain⟨a,vs,z,q1,c,_⟩:=h.e.ow _ _ m
  subst z
  exact⟨a,vs,e1,q1,c⟩
 | io d =>
  cases b
  obtain⟨a,vs,z,q1,c,_⟩:=h.e.io _ _ m
  subst z
  exact⟨a,vs,e1,q1,c⟩
 | _=>cases b
noncomputable def EV (i:Nat) (te:DE):DE:=λenv R=>(∃ ds,(env[i]?).bind iW=some ds)/\te env λs a=>∃ d b ds s',aC a s=some d/\a[i]? = some b/\iW b=some ds/\ds.length<sizeLine/\cV b (ds++[d])=some s'/\R (.fr .none) (a.set i s')
theorem qC {i:Nat}{ds:List PyData} (h:(env[i]?).bind iW=some ds):∃ s,env[i]? = some s/\iW s=some ds:=by
 cases e:env[i]? with
 | none=>rw[e] at h;cases h
 | some s=>rw[e] at h;exact⟨s,rfl,h⟩
theorem qV (i:Nat) {y:Str}{apos cpos npos:Pos} (hK:X.K=K) (w:X.N[i]? = some y) (z:PE X e (up K ta))
  (A:Vis X.env.scope y:=by first|exact Or.inl rfl|exact Or.inr (Or.inl rfl)|exact Or.inr (Or.inr rfl)) (hd:(y==("__debug__" : Str))=false:=by decide)
  (o:(y==("__classdict__" : Str))=false:=by decide)
  (j:kq [e] X.env=[(false,eval e X.env)]:=by rfl)
  (f:Kj (.Name y npos) "append" X.env (eval (.Name y npos) X.env)=eval (.Name y npos) X.env:=by rfl)
  (l:((J0 cpos (kq [e] X.env)).all (λx=>!x.1)&&(QM cpos (Qj [] X.env)).all (λx=>x.1.isSome)&&decide ([e].length+([]:List KW).length+(if ([]:List KW).isEmpty then 0 else 1)<30))=true:=by rfl)
  (g:(apos.endLine==cpos.line)=true:=by rfl) (c:(J0 cpos (kq [] X.env)).any (·.1)=false:=by rfl) :
  PE X (.Call (.Attribute (.Name y npos) "append" apos) [e] [] cpos) (up K (EV i ta)) :=
 (kBm (K:=K) hK PySem.F.plainAttrs_list PySem.F.slot_list_append PySem.F.type_list_append lD (cP w A hd o) (f8 z ln j) f l g j c).imp λσ H Q h=>by
 obtain⟨M,P,H0,σ0,env,ts,R,m,⟨⟨B,C⟩,D⟩,E⟩:=h
 obtain⟨S,G,I⟩:=qC C
 obtain⟨a,vs,p,J,_⟩:=m.mine G I
 refine⟨.ref a,p,.inl ⟨rfl,vs,SqL.of J⟩,M,P,H0,σ0,env,ts,_,m,D,λs1 t u H1 h1 b=>?_⟩
 obtain⟨d,s2,ds,s',k,e2,L,hz,es,O⟩:=h1
 obtain⟨T,us,n,r,q⟩:=b.drop.mine e2 L
 rw[p] at n
 cases n
 refine⟨a,us,u,rfl,rfl,r,by rw[q.len];exact hz,?_⟩
 have dn:=b.kept (v:=u) (s:=s1) (by simp) k
 exact E _ _ _ _ O ((b.drop.mut (ds:=ds) e2 es p (q.app (.cons dn .nil))).addFr .non)
noncomputable def EO (i:Nat):DE:=λenv R=>∃ a ds d s',env[i]? = some a/\iW a=some ds/\ds.getLast? = some d/\cV a ds.dropLast=some s'/\R (.fr d) (env.set i s')
theorem DNs.dropLast:∀ {vs:List V}{ds:List PyData},DNs K N H vs ds->DNs K N H vs.dropLast ds.dropLast:=λ{vs ds} q=>by
 rw[List.dropLast_eq_take,List.dropLast_eq_take,q.len]
 exact q.take _
theorem CO (i:Nat) {y:Str}{apos cpos npos:Pos} (hK:X.K=K) (p:X.N[i]? = some y)
  (s:Vis X.env.scope y:=by first|exact Or.inl rfl|exact Or.inr (Or.inl rfl)|exact Or.inr (Or.inr rfl)) (hd:(y==("__debug__" : Str))=false:=by decide)
  (j:(y==("__classdict__" : Str))=false:=by decide)
  (b:Kj (.Name y npos) "pop" X.env (eval (.Name y npos) X.env)=eval (.Name y npos) X.env:=by rfl) (c:(apos.endLine==cpos.line)=true:=by rfl) :
  PE X (.Call (.Attribute (.Name y npos) "pop" apos) [] [] cpos) (up K (EO i)) :=
 (GE (K:=K) hK PySem.F.plainAttrs_list PySem.F.slot_list_pop PySem.F.type_list_pop yr (cP p s hd j) b c).imp λσ H Q h=>by
 obtain⟨M,P,H0,σ0,env,ts,R,e,⟨w,ds,d,s',l,t,k,es,u⟩,v⟩:=h
 obtain⟨a,vs,n,o,q⟩:=e.mine l t
 have hn:ds.length - 1<ds.length:=by
  cases ds with
  | nil=>simp at k
  | cons z r=>simp
 rw[List.getLast?_eq_getElem?] at k
 have f:vs.length - 1<vs.length:=by rw[q.len];exact hn
 obtain⟨d',h1,dn⟩:=q.get (Hz f)
 rw[q.len,k] at h1
 cases h1
 refine⟨.ref a,n,.inl ⟨rfl,vs,SqL.of o⟩,a,vs,vs[vs.length - 1],rfl,rfl,o,Hz f,?_⟩
 have g:=e.addFr dn
 have m:=g.mut (ds:=ds) (vs':=vs.dropLast) (ds':=ds.dropLast) l es n (by
  have : Nw M (aI σ env (ts++[(vs[vs.length - 1],Sl.fr d)]))=Nw M (aI σ env ts):=by
   rw[aH]
   unfold Nw
   have:oas (aI σ env ts++tmp [(vs[vs.length - 1],Sl.fr d)])=oas (aI σ env ts):=by
    rw[af]
    have:oas (tmp [(vs[vs.length - 1],Sl.fr d)])=[]:=by
     show oas [(some vs[vs.length - 1],Sl.fr d)]=[]
     rw[ai]
     cases vs[vs.length - 1] <;> rfl
    rw[this,Iy]
   rw[this]
  rw[this]
  exact q.dropLast)
 exact v _ _ _ _ u m
end
noncomputable abbrev DSp:=List Sl->(Sl->List Sl->Prop)->Prop
noncomputable def i7:Sl->Bool
 | .fr _=>true
 | .ow _=>true
 | .tr _ _=>true
 | _=>false
noncomputable def vq (vs:List V) (ss:List Sl):Addr->Prop:=λa=>a∈oas (tmp (vs.zip ss))
noncomputable def spD (K:PySem.W.Frag) (sp:DSp):Sp:=λvs H Q _=>∃ (M:Addr->Prop) (ss:List Sl) (R:Sl->List Sl->Prop),vs.length=ss.length/\bf K M (vq vs ss) H (tmp (vs.zip ss)) H/\sp ss R /\
 ∀ r a v H',R r a->i7 r=true->bf K M (vq vs ss) H (tmp ((v,r)::vs.zip a)) H'->Q v H'
section
variable {K:PySem.W.Frag}{M P N:Addr->Prop}{H0 H H':Hp}{E:List Ent}{σ0 σ:St}{env:List Sl}{ts:List (V×Sl)}{v:V}{s:Sl}{d:PyData}
theorem iC:∀ (vs:List V) (ds:List PyData),oas (tmp (vs.zip (ds.map Sl.fr)))=[]
 | [],_=>by simp[oas,tmp]
 | _::_,[]=>by simp[oas,tmp]
 | v::vs,d::ds=>by
  show oas ((some v,Sl.fr d)::tmp (vs.zip (ds.map Sl.fr)))=[]
  rw[ai,dB,iC vs ds]
  rfl
theorem gb {vs:List V}{ds:List PyData}{x:Option V}{s:Sl} (h:DNs K N H vs ds):(x,s)∈tmp (vs.zip (ds.map Sl.fr))->∃ v d,x=some v/\s=.fr d/\DN K N H v d:=DNs.ind (C:=λvs ds=>(x,s)∈tmp (vs.zip (ds.map Sl.fr))->∃ v d,x=some v/\s=.fr d/\DN K N H v d) (λm=>by simp[tmp] at m) (λ{v vs d ds} h _ i m=>by
  have m:(x,s)∈(some v,Sl.fr d)::tmp (vs.zip (ds.map Sl.fr)):=m
  rcases HP.mp m with m|m
  ·cases m;exact⟨v,d,rfl,rfl,h⟩
  ·exact i m) h
inductive dP (K:PySem.W.Frag) (N:Addr->Prop) (Hc H':Hp):V->Sl->Prop
 | fr {v:V}{d:PyData}:DN K N H' v d->dP K N Hc H' v (.fr d)
 | ow {a:Addr}{vs:List V}{ds:List PyData}:H' a=some (.lst vs)->DNs K (λb=>N b\/b=a) H' vs ds->Hc a=none->¬N a->dP K N Hc H' (.ref a) (.ow ds)
 | tr {v:V}{d:PyData}{S:List Addr}:OT K (λb=>N b\/b∈S) H' v d S->(∀ a∈S,Hc a=none/\¬N a)->S.Nodup->dP K N Hc H' v (.tr S d)
theorem bf.resOk {Hc:Hp}{Pc:Addr->Prop}{r:Sl}{T:List Ent} (hc:bf K N Pc Hc ((some v,r)::T) H') (g:i7 r=true):dP K N Hc H' v r:=by
 cases r with
 | fr d =>
  obtain⟨w,e,dn⟩:=hc.fr _ _ HH
  cases e
  exact .fr (dn.to λb _ _ z=>.inl z)
 | ow ds =>
  obtain⟨a,vs,e,c,f,hn⟩:=hc.ow _ _ HH
  cases e
  refine .ow c (f.to λb _ _ z=>?_) hn λz=>hc.mt a z hn
  rcases z with z|z
  ·exact .inl z
  ·rw[z]
   exact .inr (by rw[ai];exact HG _ (HD.mpr rfl))
 | tr S d =>
  obtain⟨w,e,ot,hn⟩:=hc.tr _ _ _ HH
  cases e
  refine .tr (ot.to λb _ _ z=>?_) (λa c=>⟨hn a c,λz=>hc.mt a z (hn a c)⟩) ?_
  ·rcases z with z|z
   ·exact .inl z
   ·exact .inr (by rw[ai,aU];exact HG _ z)
  ·have nd:=hc.nd
   rw[ai,aU] at nd
   exact(HN.mp nd).1
 | _=>cases g
theorem dP.own {r:Sl}{Hc:Hp} (h:dP K N Hc H' v r):(∀ b∈dL (some v,r),Hc b=none/\¬N b)/\(dL (some v,r)).Nodup:=by
 cases h with
 | fr dn=>rw[dB];exact⟨λb a=>absurd a Ir,Jq⟩
 | ow e c hn d=>exact⟨λb a=>by rw[HD.mp a];exact⟨hn,d⟩,Iu.mpr ⟨by simp,Jq⟩⟩
 | tr ot hn nd=>rw[aU];exact⟨hn,nd⟩
theorem dP.frD {d:PyData}{Hc:Hp} (h:dP K N Hc H' v (.fr d)):DN K N H' v d:=by
 cases h with
 | fr dn=>exact dn
theorem dP.owD {ds:List PyData}{Hc:Hp} (h:dP K N Hc H' v (.ow ds)):∃ a vs,v=.ref a/\H' a=some (.lst vs)/\DNs K (λb=>N b\/b=a) H' vs ds/\Hc a=none:=by
 cases h with
 | ow d c hn e=>exact⟨_,_,rfl,d,c,hn⟩
theorem dP.ioD {ds:List PyData}{Hc:Hp} (h:dP K N Hc H' v (.io ds)):False:=by cases h
theorem dP.trD {d:PyData}{S:List Addr}{Hc:Hp} (h:dP K N Hc H' v (.tr S d)):OT K (λb=>N b\/b∈S) H' v d S/\∀ a∈S,Hc a=none/\¬N a:=by
 cases h with
 | tr ot hn nd=>exact⟨ot,hn⟩
theorem bf.getRes {r:Sl} (h:bf K M P H0 E H') {Hc:Hp} (j:∀ b,H0 b≠none->Hc b≠none) (f:dP K (Nw M E) Hc H' v r)
  (frs:∀ x d,(x,Sl.fr d)∈E->∃ w,x=some w/\DN K (λb=>Nw M E b\/(b∈dL (some v,r)/\Hc b=none)) H' w d)
  (l:∀ x s ds,(x,s)∈E->iW s=some ds->∃ a vs,x=some (.ref a)/\H' a=some (.lst vs)/\DNs K (λb=>Nw M E b\/(b∈dL (some v,r)/\Hc b=none)) H' vs ds)
  (ots:∀ x S d,(x,Sl.tr S d)∈E->∃ w,x=some w/\OT K (λb=>Nw M E b\/(b∈dL (some v,r)/\Hc b=none)) H' w d S):bf K M P H0 (E++[(some v,r)]) H':=by
 obtain⟨i,n⟩:=f.own
 have A:oas (E++[(some v,r)])=oas E++dL (some v,r):=by
  rw[af,ai]
  simp[oas]
 have up:∀ b,Nw M (E++[(some v,r)]) b->Nw M E b\/b∈dL (some v,r):=λb z=>by
  rcases z with z|z
  ·exact .inl (.inl z)
  ·rw[A] at z
   rcases HF.mp z with z|z
   ·exact .inl (.inr z)
   ·exact .inr z
 have g:∀ b,Nw M (E++[(some v,r)]) b->Nw M E b\/(b∈dL (some v,r)/\Hc b=none):=λb z=>(up b z).elim .inl λz=>.inr ⟨z,(i b z).1⟩
 have B:∀ b,Hc b=none->H0 b=none:=λb hn=>by
  cases e:H0 b with
  | none=>rfl
  | some o=>exact absurd hn (j b (by rw[e];simp))
 refine⟨h.keep,h.live,h.mt,h.pm,λx d' m=>?_,λx d' m=>?_,λx d' m=>?_,λx S d' m=>?_,?_⟩
 ·rcases HF.mp m with m|m
  ·obtain⟨w,e,dn⟩:=frs x d' m
   exact⟨w,e,dn.to λb _ _ z=>g b z⟩
  ·rw[HD] at m
   obtain⟨e1,rfl⟩:=Prod.mk.inj m
   exact⟨v,e1,f.frD.to λb _ _ z=>(up b z).elim id λz=>by rw[dB] at z;exact absurd z Ir⟩
 ·rcases HF.mp m with m|m
  ·obtain⟨b,us,e,e2,dn⟩:=l x _ d' m rfl
   obtain⟨C,p,k,q,_,r⟩:=h.ow x d' m
   rw[e] at k
   cases k
   exact⟨b,us,e,e2,dn.to λb _ _ z=>g b z,r⟩
  ·rw[HD] at m
   obtain⟨e1,rfl⟩:=Prod.mk.inj m
   obtain⟨a,us,rfl,t,u,hn⟩:=f.owD
   exact⟨a,us,e1,t,u.to λb _ _ z=>(up b z).elim .inl λz=>.inr (HD.mp z),B _ hn⟩
 ·rcases HF.mp m with m|m
  ·obtain⟨b,us,e,e2,dn⟩:=l x _ d' m rfl
   obtain⟨C,p,k,q,_,r⟩:=h.io x d' m
   rw[e] at k
   cases k
   exact⟨b,us,e,e2,dn.to λb _ _ z=>g b z,r⟩
  ·rw[HD] at m
   obtain⟨e1,rfl⟩:=Prod.mk.inj m
   exact f.ioD.elim
 ·rcases HF.mp m with m|m
  ·obtain⟨w,e,dn⟩:=ots x S d' m
   obtain⟨w',k,_,r⟩:=h.tr x S d' m
   exact⟨w,e,dn.to λb _ _ z=>g b z,r⟩
  ·rw[HD] at m
   obtain⟨e1,rfl⟩:=Prod.mk.inj m
   exact⟨v,e1,f.trD.1.to λb _ _ z=>(up b z).elim .inl λz=>.inr (by rw[aU] at z;exact z),λa t=>B _ (f.trD.2 a t).1⟩
 ·rw[A]
  exact HN.mpr ⟨h.nd,n,λb D c y z=>(i c y).2 (.inr (z▸D))⟩
theorem DN.past {Hc:Hp}{a:Addr->Prop} (h:DN K N Hc v d) (c:∀ b,a b->N b\/Hc b=none) {Pc:Addr->Prop} (k:aV Pc Hc H') (f:∀ b,Pc b->a b):DN K a H' v d :=
 (h.to λb o e z=>(c b z).elim id λz=>by rw[z] at e;cases e).keep (k.mono f)
theorem DNs.past {Hc:Hp}{a:Addr->Prop}{vs:List V}{ds:List PyData} (h:DNs K N Hc vs ds) (c:∀ b,a b->N b\/Hc b=none) {Pc:Addr->Prop} (k:aV Pc Hc H') (d:∀ b,Pc b->a b):DNs K a H' vs ds :=
 (h.to λb o e z=>(c b z).elim id λz=>by rw[z] at e;cases e).keep (k.mono d)
theorem OT.past {Hc:Hp}{c:Addr->Prop}{S:List Addr} (h:OT K N Hc v d S) (g:∀ b,c b->N b\/Hc b=none) {Pc:Addr->Prop} (k:aV Pc Hc H') (i:∀ b,Pc b->c b) (j:∀ b∈S,¬Pc b):OT K c H' v d S :=
 (h.to λb o e z=>(g b z).elim id λz=>by rw[z] at e;cases e).keep (k.mono i) λa f=>by
  obtain⟨xs,z⟩:=h.lives a f
  rw[k _ _ (j a f) z,z]
theorem bf.called {r:Sl} (h:bf K M P H0 E H) (k:aR H H') (c:dP K (Nw M E) H H' v r):bf K M P H0 (E++[(some v,r)]) H':=by
 refine(h.same k).getRes h.live c (λx d m=>?_) (λx s ds m f=>?_) λx S d m=>?_
 rotate_right
 ·obtain⟨w,e,dn,_⟩:=h.tr x S d m
  exact⟨w,e,dn.past (λb z=>z.elim .inl λz=>.inr z.2) (aV.same (N:=N0) k) (λb z=>z.elim) λb _ z=>z.elim⟩
 ·obtain⟨w,e,dn⟩:=h.fr x d m
  exact⟨w,e,dn.past (λb z=>z.elim .inl λz=>.inr z.2) (aV.same (N:=N0) k) λb z=>z.elim⟩
 ·cases s with
  | ow l =>
   cases f
   obtain⟨a,vs,e,e2,dn,_⟩:=h.ow x _ m
   exact⟨a,vs,e,k _ _ e2,dn.past (λb z=>z.elim .inl λz=>.inr z.2) (aV.same (N:=N0) k) λb z=>z.elim⟩
  | io l =>
   cases f
   obtain⟨a,vs,e,e2,dn,_⟩:=h.io x _ m
   exact⟨a,vs,e,k _ _ e2,dn.past (λb z=>z.elim .inl λz=>.inr z.2) (aV.same (N:=N0) k) λb z=>z.elim⟩
  | _=>cases f
theorem Rel.withRes {r:Sl} (h:Rel K M P H0 σ0 σ env ts H) (e:bf K M P H0 (aI σ env ts++[(some v,r)]) H') (a:i7 r=true):Rel K M P H0 σ0 σ env (ts++[(v,r)]) H' :=
  ⟨by rw[aH];exact e,h.len,(λw i m=>by
    rcases HF.mp m with m|m
    · exact h.vw w i m
    · rw[HD] at m
      cases m
      cases a),h.ios⟩
noncomputable def uP (sp:DSp) (t:DA):DE:=λenv R=>t env λss a=>∃ ds,bp a ss=some ds/\sp (ds.map .fr) (dK (λr _=>R r a) ⟨⟩)
theorem ve {e:Addr->Prop}{vs:List V}{ds:List PyData} (c:DNs K e H vs ds) (g:∀ a,e a->H a≠none):bf K e (vq vs (ds.map .fr)) H (tmp (vs.zip (ds.map .fr))) H:=by
 have f:=iC vs ds
 have ne:∀ b,Nw e (tmp (vs.zip (ds.map .fr))) b->e b:=λb z=>z.elim id λz=>by rw[f] at z;cases z
 refine⟨aV.refl,λa q=>q,g,λa z=>?_,λx d m=>?_,λx l m=>?_,λx l m=>?_,λx S l m=>?_,by rw[f];exact Jq⟩
 rotate_right
 ·obtain⟨w,d',e1,e2,dn⟩:=gb c m
  cases e2
 ·have z:a∈oas (tmp (vs.zip (ds.map .fr))):=z
  rw[f] at z
  cases z
 ·obtain⟨w,d',e1,e2,dn⟩:=gb c m
  cases e2
  exact⟨w,e1,dn.to λb _ _ z=>ne b z⟩
 ·obtain⟨w,d',e1,e2,dn⟩:=gb c m
  cases e2
 ·obtain⟨w,d',e1,e2,dn⟩:=gb c m
  cases e2
theorem BL {sp:DSp}{tl:DA}:∀ σ H Q,up K (uP sp tl) σ H Q->sA (spD K sp) [] E0 (upA K tl) σ H Q:=λσ H Q h=>by
 obtain⟨M,P,H0,σ0,env,ts,R,i,m,n⟩:=h
 refine⟨M,P,H0,σ0,env,ts,_,i,m,λss d vs H1 h1 o c=>?_⟩
 obtain⟨ds,q,j⟩:=h1
 rw[Iy]
 have g:=c.keptAll o (λp s=>s) q
 have t:=iC vs ds
 refine⟨Nw M (aI σ d ts),ds.map .fr,λr _=>R r d,by simp[g.len],ve g λa z hn=>c.drop.newAddr hn z,j,λr u v H' w l f=>n _ _ _ _ w ?_⟩
 have k:aR H1 H':=(f.keep.mono (M:=N0) λb z=>by
  have z:b∈oas (tmp (vs.zip (ds.map .fr))):=z
  rw[t] at z
  cases z).none
 exact(c.drop).withRes (c.drop.e.called k (f.resOk l)) l
end
section
variable {K:PySem.W.Frag}{M P:Addr->Prop}{H0 H H':Hp}{A B:List Ent}{σ0 σ:St}{env:List Sl}{ts tt:List (V×Sl)}{v:V}{s:Sl}{d:PyData}
theorem eB (t:V×Sl) (ts:List (V×Sl)):tmp (t::ts)=(some t.1,t.2)::tmp ts:=rfl
theorem mL (ts tt:List (V×Sl)):tmp (ts++tt)=tmp ts++tmp tt:=by simp[tmp]
theorem kG {α β:Type}:∀ {l1:List α}{m1:List β} (x:α) (y:β) (l2:List α) (m2:List β),l1.length=m1.length->(l1++x::l2).zip (m1++y::m2)=l1.zip m1++(x,y)::l2.zip m2
 | [],[],_,_,_,_,_=>rfl
 | a::l1,b::m1,x,y,l2,m2,h=>by
  show(a,b)::(l1++x::l2).zip (m1++y::m2)=_
  rw[kG x y l2 m2 (by simpa using h)]
  rfl
 | [],_::_,_,_,_,_,h=>by simp at h
 | _::_,[],_,_,_,_,h=>by simp at h
theorem Ep {f:Addr->Prop}{c e us:List V}{d1 d2 l:List PyData}{a:Addr} (q1:DNs K f H c d1) (k:DNs K f H e d2) (n:∀ a,f a->H a≠none) (h:f a) (o:H a=some (.lst us)) (p:DNs K f H us l) :
  oas (tmp ((c++.ref a::e).zip (d1.map .fr++.io l::d2.map .fr)))=[a] /\
  bf K f (vq (c++.ref a::e) (d1.map .fr++.io l::d2.map .fr)) H (tmp ((c++.ref a::e).zip (d1.map .fr++.io l::d2.map .fr))) H:=by
 have i:(c++.ref a::e).zip (d1.map Sl.fr++.io l::d2.map .fr)=c.zip (d1.map .fr)++(.ref a,.io l)::e.zip (d2.map .fr):=kG _ _ _ _ (by simp[q1.len])
 have g:oas (tmp ((c++.ref a::e).zip (d1.map .fr++.io l::d2.map .fr)))=[a]:=by
  rw[i,mL,eB,af,ai,iC,iC]
  rfl
 have ne:∀ b,Nw f (tmp ((c++.ref a::e).zip (d1.map .fr++.io l::d2.map .fr))) b->f b:=λb z=>z.elim id λz=>by rw[g,HD] at z;rw[z];exact h
 have cs:∀ x s,(x,s)∈tmp ((c++.ref a::e).zip (d1.map .fr++.io l::d2.map .fr))->(∃ w d,x=some w/\s=.fr d/\DN K f H w d)\/(x=some (.ref a)/\s=.io l):=λx s m=>by
  rw[i,mL,eB] at m
  rcases HF.mp m with m|m
  ·exact .inl (gb q1 m)
  ·rcases HP.mp m with m|m
   ·cases m;exact .inr ⟨rfl,rfl⟩
   ·exact .inl (gb k m)
 refine⟨g,aV.refl,λa q=>q,n,λb z=>?_,λx d m=>?_,λx j m=>?_,λx j m=>?_,λx S j m=>?_,by rw[g];simp⟩
 rotate_right
 ·rcases cs x _ m with⟨w,d',e1,e2,dn⟩|⟨_,e2⟩
  ·cases e2
  ·cases e2
 ·have z:b∈oas (tmp ((c++.ref a::e).zip (d1.map .fr++.io l::d2.map .fr))):=z
  rw[g,HD] at z
  rw[z];exact h
 ·rcases cs x _ m with⟨w,d',e1,e2,dn⟩|⟨_,e2⟩
  ·cases e2;exact⟨w,e1,dn.to λb _ _ z=>ne b z⟩
  ·cases e2
 ·rcases cs x _ m with⟨w,d',e1,e2,dn⟩|⟨_,e2⟩
  ·cases e2
  ·cases e2
 ·rcases cs x _ m with⟨w,d',e1,e2,dn⟩|⟨e1,e2⟩
  ·cases e2
  ·cases e2
   exact⟨a,us,e1,o,p.to λb _ _ z=>ne b z,by show a∈oas _;rw[g];simp⟩
noncomputable def mf (sp:DSp) (m:Nat) (t:DA):DE:=λenv R=>t env λss a=>∃ i b l d1 d2,ss[m]? = some (.vw i)/\a[i]? = some b/\iW b=some l/\bp a (ss.take m)=some d1/\bp a (ss.drop (m+1))=some d2 /\
 sp (d1.map .fr++.io l::d2.map .fr) (dK (λr as=>∃ c s',as[m]? = some (.io c)/\cV b c=some s'/\R r (a.set i s')) ⟨⟩)
theorem vF {α β:Type} (l:List α) (m:List β) (n:Nat):∀ p∈(l.take n).zip (m.take n),p∈l.zip m:=λp a=>by
 rw[List.zip,<-List.take_zipWith] at a
 exact List.mem_of_mem_take a
theorem w9 {α β:Type} (l:List α) (m:List β) (n:Nat):∀ p∈(l.drop n).zip (m.drop n),p∈l.zip m:=λp a=>by
 rw[List.zip,<-List.drop_zipWith] at a
 exact List.mem_of_mem_drop a
theorem En {α:Type}{l:List α}{m:Nat}{x:α} (h:l[m]? = some x):l=l.take m++x::l.drop (m+1):=by
 obtain⟨a,e⟩:=HI.mp h
 rw[<-e,List.getElem_cons_drop,List.take_append_drop]
theorem xC {sp:DSp}{m:Nat}{tl:DA}:∀ σ H Q,up K (mf sp m tl) σ H Q->sA (spD K sp) [] E0 (upA K tl) σ H Q:=λσ H Q h=>by
 obtain⟨M,P,H0,σ0,env,ts,R,a0,ht,hq⟩:=h
 refine⟨M,P,H0,σ0,env,ts,_,a0,ht,λss f vs H1 h1 hl n=>?_⟩
 obtain⟨i,J,l,d1,d2,em,L,N,k1,k2,a4⟩:=h1
 rw[Iy]
 have c:=n.drop
 obtain⟨a,us,ea,hH,ql⟩:=c.mine L N
 have hm:m<ss.length:=(HI.mp em).1
 have a5:m<vs.length:=by omega
 have va:vs[m]? = some (.ref a):=by
  have mz:(vs[m],ss[m])∈vs.zip ss:=by
   have hz:m<(vs.zip ss).length:=by rw[Jj];omega
   have:=Ih hz
   rwa [JL] at this
  rw[(HI.mp em).2] at mz
  have q:=n.vw _ _ (HA _ mz)
  rw[ea] at q
  rw[Hz a5]
  exact congrArg some (Option.some.inj (Option.some.inj q)).symm
 have ev:=En va
 have q1:=n.keptAll (vs:=vs.take m) (ss:=ss.take m) (by simp;omega) (vF _ _ _) k1
 have q2:=n.keptAll (vs:=vs.drop (m+1)) (ss:=ss.drop (m+1)) (by simp;omega) (w9 _ _ _) k2
 have D:=c.e
 have ma:Nw M (aI σ f ts) a:=by
  obtain⟨x,e1,g⟩:=c.slot L
  rw[ea] at e1
  cases e1
  refine .inr (bA.mpr ⟨_,g,?_⟩)
  exact(po N).2 a
 have E:=Ep (l:=l) (us:=us) (a:=a) q1 q2 (λb z hn=>c.newAddr hn z) ma hH ql
 rw[<-ev] at E
 have b4:=q1.len
 have b5:=q2.len
 refine⟨_,d1.map .fr++.io l::d2.map .fr,_,?_,E.2,a4,λr F v H' hR hr o=>?_⟩
 ·rw[ev]
  simp only[Ie,Iq,HC]
  omega
 obtain⟨O,s',e2,es,hR⟩:=hR
 refine hq _ _ _ _ hR ?_
 have k:aV (λb=>b=a) H1 H':=o.keep.mono λb z=>by
  have z:b∈oas (tmp (vs.zip (d1.map .fr++.io l::d2.map .fr))):=z
  rw[E.1,HD] at z
  exact z
 have mp:((some (.ref a),.io O):Ent)∈tmp ((v,r)::vs.zip F):=by
  rw[eB]
  refine HJ _ (HS.mpr ⟨(.ref a,.io O),?_,rfl⟩)
  have h2:m<F.length:=(HI.mp e2).1
  have hz:m<(vs.zip F).length:=by rw[Jj];omega
  have:=Ih hz
  rw[JL,(HI.mp va).2,(HI.mp e2).2] at this
  exact this
 obtain⟨a',T,z,U,V,_⟩:=o.io _ _ mp
 cases z
 obtain⟨x,A,B,e3,u,G⟩:=c.split L
 rw[ea] at e3
 cases e3
 have s:A4 J O s':=(jk es).1
 rw[u] at D
 have a6:DNs K (Nw M (A++(some (.ref a),J)::B)) H' T O:=V.to λb _ _ z=>.inl (by rw[u];exact z)
 have hM:=D.muted s k o.live U a6
 have y:Nw M (aI σ (f.set i s') ts)=Nw M (aI σ f ts):=by
  rw[u,G]
  have oa:dL (some (.ref a),J)=[a]/\dL (some (.ref a),s')=[a]:=by
   exact fU s
  unfold Nw
  rw[af,af,ai,ai,oa.1,oa.2]
 rw[<-G] at hM
 have rk:dP K (Nw M (aI σ (f.set i s') ts)) H1 H' v r:=by rw[y];exact o.resOk hr
 have W:Rel K M P H0 σ0 σ (f.set i s') ts H':=⟨hM,by simp[c.len],c.vw,λj X Y=>by
  by_cases hj:i=j
  ·subst hj
   have hi:i<f.length:=(HI.mp L).1
   rw[Ik hi] at Y
   cases Y
   obtain⟨a7,rfl⟩:=sN es
   exact c.ios i a7 L
  ·rw[Ii hj] at Y
   exact c.ios j X Y⟩
 refine W.withRes ?_ hr
 have old:∀ x t,(x,t)∈aI σ (f.set i s') ts->(x,t)=(some (.ref a),s')\/((x,t)∈A\/(x,t)∈B):=λx t m=>by
  rw[G] at m
  rcases HF.mp m with m|m
  ·exact .inr (.inl m)
  ·rcases HP.mp m with m|m
   ·exact .inl m
   ·exact .inr (.inr m)
 have p:∀ x t,(x,t)∈A\/(x,t)∈B->(x,t)∈A++(some (.ref a),J)::B:=λx t m=>by
  rcases m with m|m
  ·exact HG _ m
  ·exact HA _ (HJ _ m)
 have Z:∀ b,(Nw M (aI σ (f.set i s') ts) b\/(b∈dL (some v,r)/\H1 b=none))->Nw M (A++(some (.ref a),J)::B) b\/H1 b=none:=λb z=>by
  rw[y,u] at z
  exact z.elim .inl λz=>.inr z.2
 have pa:∀ b,b=a->(Nw M (aI σ (f.set i s') ts) b\/(b∈dL (some v,r)/\H1 b=none)):=λb z=>by rw[z,y];exact .inl ma
 have b0:dL (some (.ref a),J)=[a]:=(fU s).1
 have nd:=D.nd
 rw[af,ai,b0] at nd
 obtain⟨_,b1,b2⟩:=HN.mp nd
 obtain⟨b3,_⟩:=Iu.mp b1
 have other:∀ x t b,(x,t)∈A\/(x,t)∈B->b∈dL (x,t)->b≠a:=λx t b m N z=>by
  subst z
  rcases m with m|m
  ·exact b2 b (bA.mpr ⟨_,m,N⟩) b HH rfl
  ·exact b3 (bA.mpr ⟨_,m,N⟩)
 refine hM.getRes c.e.live rk (λx d g=>?_) (λx t ds' g C=>?_) λx S d g=>?_
 rotate_right
 ·rcases old _ _ g with g|g
  ·rcases cS s with⟨_,_,e⟩|⟨_,_,e⟩ <;> (rw[e] at g;cases g)
  ·obtain⟨w,e,dn,_⟩:=D.tr x S d (p _ _ g)
   subst e
   exact⟨w,rfl,dn.past Z k pa λb hb z=>other _ _ b g (by rw[aU];exact hb) z⟩
 ·rcases old _ _ g with g|g
  ·rcases cS s with⟨_,_,e⟩|⟨_,_,e⟩ <;> (rw[e] at g;cases g)
  ·obtain⟨w,e,dn⟩:=D.fr x d (p _ _ g)
   exact⟨w,e,dn.past Z k pa⟩
 ·rcases old _ _ g with g|g
  ·cases g
   have el:ds'=O:=Option.some.inj (C.symm.trans (jk es).2)
   subst el
   refine⟨a,T,rfl,U,V.to λb _ _ z=>?_⟩
   rcases z with z|z
   ·exact .inl (by rw[<-y];exact z)
   ·exact .inr (by rw[eB,ai];exact HG _ z.1)
  ·cases t with
   | ow l2 =>
    cases C
    obtain⟨b,us2,e,I,dn,_⟩:=D.ow x _ (p _ _ g)
    subst e
    exact⟨b,us2,rfl,k _ _ (other _ _ b g (HD.mpr rfl)) I,dn.past Z k pa⟩
   | io l2 =>
    cases C
    obtain⟨b,us2,e,I,dn,_⟩:=D.io x _ (p _ _ g)
    subst e
    exact⟨b,us2,rfl,k _ _ (other _ _ b g (HD.mpr rfl)) I,dn.past Z k pa⟩
   | _=>cases C
end
structure mH where
 nx : List Sl->Prop
 rt : Sl->List Sl->Prop
 bk : List Sl->Prop:=λ_=>False
 ct : List Sl->Prop:=λ_=>False
noncomputable abbrev DS:=mH->List Sl->Prop
noncomputable def xM (ts:List (V×Sl)):Prop:=∀ v i,(v,Sl.vw i) ∉ ts
structure Eu (K:PySem.W.Frag) (M P:Addr->Prop) (H0:Hp) (σ0:St) (ts:List (V×Sl)) (DD:mH) (D:vm):Prop where
 nx : ∀ σ' env' H',DD.nx env'->Rel K M P H0 σ0 σ' env' ts H'->D.nx σ' H'
 rt : ∀ s env' v σ' H',DD.rt s env'->Rel K M P H0 σ0 σ' env' (ts++[(v,s)]) H'->D.rt v H'
 bk : ∀ σ' env' H',DD.bk env'->Rel K M P H0 σ0 σ' env' ts H'->D.bk σ' H'
 ct : ∀ σ' env' H',DD.ct env'->Rel K M P H0 σ0 σ' env' ts H'->D.ct σ' H'
inductive upS (K:PySem.W.Frag) (t:DS) (D:vm) (σ:St) (H:Hp):Prop
 | mk (M P:Addr->Prop) (H0:Hp) (σ0:St) (env:List Sl) (ts:List (V×Sl)) (DD:mH):xM ts->Rel K M P H0 σ0 σ env ts H->t DD env->Eu K M P H0 σ0 ts DD D->upS K t D σ H
theorem PS.imp {X:Cx}{e:Stmt}{t t':TS} (h:PS X e t) (k:∀ D σ H,t' D σ H->t D σ H):PS X e t':=λpins s σ H D I hw=>h pins s σ H D I (k D σ H hw)
theorem PSs.imp {X:Cx}{e:List Stmt}{t t':TS} (h:PSs X e t) (k:∀ D σ H,t' D σ H->t D σ H):PSs X e t':=λpins s σ H D I hw=>h pins s σ H D I (k D σ H hw)
section
variable {K:PySem.W.Frag}{M P:Addr->Prop}{H0 H:Hp}{σ0 σ:St}{env:List Sl}{ts tt:List (V×Sl)}{v:V}{s:Sl}{d:PyData}
noncomputable def gH (env:List Sl):Sl->Option Sl
 | .fr d=>some (.fr d)
 | .ow ds=>some (.ow ds)
 | .tr S d=>some (.tr S d)
 | .vw i=>((env[i]?).bind slK).map .fr
 | _=>none
theorem Rel.unVw (h:Rel K M P H0 σ0 σ env (ts++[(v,s)]) H) {s':Sl} (e:gH env s=some s'):Rel K M P H0 σ0 σ env (ts++[(v,s')]) H/\i7 s'=true:=by
 cases s with
 | fr d=>cases e;exact⟨h,rfl⟩
 | ow ds=>cases e;exact⟨h,rfl⟩
 | tr S d=>cases e;exact⟨h,rfl⟩
 | vw i =>
  have e:((env[i]?).bind slK).map Sl.fr=some s':=e
  cases q:(env[i]?).bind slK with
  | none=>rw[q] at e;cases e
  | some d =>
   rw[q] at e
   cases e
   exact⟨h.drop.addFr (h.kept (tt:=[(v,.vw i)]) (s:=.vw i) (by simp) q),rfl⟩
 | _=>cases e
theorem vv {σ:St}{env:List Sl}{i:Nat}{x:Option V}{s':Sl}:(σ.set i x).zip (env.set i s')=(σ.zip env).set i (x,s'):=by
 apply List.ext_getElem?
 intro j
 rw[cU]
 by_cases hj:i=j
 ·subst hj
  rw[JA,JA,JA,cU]
  cases σ[i]? <;> cases env[i]? <;> rfl
 ·rw[Ii hj,Ii hj,Ii hj,cU]
theorem Rel.store (h:Rel K M P H0 σ0 σ env (ts++[(v,s)]) H) (nv:xM ts) {i:Nat} (hi:i<env.length) (c:i7 s=true):Rel K M P H0 σ0 (σ.set i (some v)) (env.set i s) ts H:=by
 have b:i<(σ.zip env).length:=by rw[Jj,h.len];omega
 obtain⟨A,B,q1,d⟩:=fR (Hz b)
 refine⟨?_,by simp[h.len],λw j m=>absurd m (nv w j),λj ds e=>?_⟩
 ·have a:=h.e
  unfold aI at a ⊢
  rw[q1,mL,IN] at a
  rw[vv,d,IN]
  have e2:((σ.zip env)[i]::B)++(tmp ts++tmp [(v,s)])=(σ.zip env)[i]::((B++tmp ts)++[(some v,s)]):=by simp[tmp]
  rw[e2] at a
  have:=a.move
  simpa using this
 ·by_cases hj:i=j
  ·subst hj
   rw[Ik hi] at e
   cases e
   cases c
  ·rw[Ii hj] at e
   rw[Ii hj]
   exact h.ios j ds e
end
section
variable {X:Cx}{K:PySem.W.Frag}{pos:Pos}{st:Stmt}{rest a b:List Stmt}{t u:DS}{e c:Expr}{te:DE}{tc:DT}
noncomputable def BB:DS:=λDD env=>DD.nx env
noncomputable def Ei (t u:DS):DS:=λDD env=>t { DD with nx:=u DD } env
noncomputable def Ht (t u:DS):DS:=λDD env=>∃ R:List Sl->Prop,t { DD with nx:=dI R ⟨⟩ } env/\∀ env',R env'->u DD env'
theorem aW:PSs X [] (upS K BB):=Aa.imp λD σ H h=>by
 obtain⟨M,P,H0,σ0,env,ts,DD,nv,a,b,ok⟩:=h
 exact ok.nx _ _ _ b a
theorem aj (h1:PS X st (upS K t)) (h2:PSs X rest (upS K u)):PSs X (st::rest) (upS K (Ei t u)):=(vU h1 h2).imp λD σ H h=>by
 obtain⟨M,P,H0,σ0,env,ts,DD,nv,a,b,ok⟩:=h
 exact⟨M,P,H0,σ0,env,ts,_,nv,a,b,⟨λσ' env' H' q r=>⟨M,P,H0,σ0,env',ts,DD,nv,r,q,ok⟩,ok.rt,ok.bk,ok.ct⟩⟩
theorem CC (h1:PS X st (upS K t)) (h2:PSs X rest (upS K u)):PSs X (st::rest) (upS K (Ht t u)):=(Ab h1 h2).imp λD σ H h=>by
 obtain⟨M,P,H0,σ0,env,ts,DD,nv,a,⟨R,b,c⟩,ok⟩:=h
 exact⟨λσ' H'=>∃ env',R env'/\Rel K M P H0 σ0 σ' env' ts H',⟨M,P,H0,σ0,env,ts,_,nv,a,b,⟨λσ' env' H' q r=>⟨env',q,r⟩,ok.rt,ok.bk,ok.ct⟩⟩,
  λσ' H' ⟨env',q,r⟩=>⟨M,P,H0,σ0,env',ts,DD,nv,r,c env' q,ok⟩⟩
theorem ae (h1:PS X st (upS K t)):PSs X [st] (upS K t):=z9 h1
noncomputable def BG:DS:=λDD env=>DD.ct env
theorem qU:PS X (.Continue pos) (upS K BG):=ng.imp λD σ H h=>by
 obtain⟨M,P,H0,σ0,env,ts,DD,nv,a,b,ok⟩:=h
 exact ok.ct _ _ _ b a
noncomputable def rJ (te:DE):DS:=λDD env=>te env λ_ a=>DD.nx a
theorem eX (d:PE X e (up K te)) (f:K5 e none pos.line X.env=pure false:=by rfl):PS X (.Expr e pos) (upS K (rJ te)):=(Ac d f).imp λD σ H h=>by
 obtain⟨M,P,H0,σ0,env,ts,DD,nv,b,g,ok⟩:=h
 exact⟨M,P,H0,σ0,env,ts,_,b,g,λs1 c i H1 h1 a=>ok.nx _ _ _ h1 a.drop⟩
noncomputable def Ej (te:DE):DS:=λDD env=>te env DD.rt
theorem aD (d:PE X e (up K te)):PS X (.Return (some e) pos) (upS K (Ej te)):=(C1 d).imp λD σ H h=>by
 obtain⟨M,P,H0,σ0,env,ts,DD,nv,b,f,ok⟩:=h
 exact⟨M,P,H0,σ0,env,ts,_,b,f,λs1 c g H1 h1 a=>ok.rt _ _ _ _ _ h1 a⟩
noncomputable def ET (c:DT) (t u:DS):DS:=λDD env=>c env λk a=>if k=true then t DD a else u DD a
theorem eW (hc:PT X c (upT K tc)) (g:PSs X a (upS K t)) (i:PSs X b (upS K u)):PS X (.If c a b pos) (upS K (ET tc t u)):=(Fy hc g i).imp λD σ H h=>by
 obtain⟨M,P,H0,σ0,env,ts,DD,nv,f,j,ok⟩:=h
 refine⟨M,P,H0,σ0,env,ts,_,f,j,λk d H1 h1 e=>?_⟩
 cases k with
 | true=>exact⟨M,P,H0,σ0,d,ts,DD,nv,e,h1,ok⟩
 | false=>exact⟨M,P,H0,σ0,d,ts,DD,nv,e,h1,ok⟩
noncomputable def yS (i:Nat) (te:DE):DS:=λDD env=>te env λs a=>∃ s',i<a.length/\gH a s=some s'/\DD.nx (a.set i s')
theorem aA {i:Nat}{x:Str}{a:Pos} (f:X.N.Nodup) (hi:X.N[i]? = some x) (hx:Loc X.env.scope x) (g:PE X e (up K te)) (j:K5 e (some (.Name x a)) pos.line X.env=pure false:=by rfl) (k:X.fn x=true\/X.env.scope.names.lookup x=some .local:=by first|exact .inl rfl|exact .inr rfl|assumption):PS X (.Assign [.Name x a] e pos) (upS K (yS i te)) :=
 (C0 f hi hx g j k).imp λD σ H h=>by
 obtain⟨M,P,H0,σ0,env,ts,DD,nv,c,l,ok⟩:=h
 refine⟨M,P,H0,σ0,env,ts,_,c,l,λs1 d o H1 h1 b=>?_⟩
 obtain⟨s',m,es,n⟩:=h1
 obtain⟨r,cs⟩:=b.unVw es
 exact ok.nx _ _ _ n (r.store nv m cs)
end
noncomputable abbrev DG:=PyData->List Sl->(List Sl->Prop)->Prop
noncomputable abbrev DGs:=List PyData->List Sl->(List Sl->Prop)->Prop
inductive upG (K:PySem.W.Frag) (g:DG) (v:V) (σ:St) (H:Hp) (Q:St->Hp->Prop):Prop
 | mk (M P:Addr->Prop) (H0:Hp) (σ0:St) (env:List Sl) (ts:List (V×Sl)) (d:PyData) (R:List Sl->Prop):xM ts->Rel K M P H0 σ0 σ env ts H->DN K (Nw M (aI σ env ts)) H v d->g d env R ->
 (∀ σ' env' H',R env'->Rel K M P H0 σ0 σ' env' ts H'->Q σ' H')->upG K g v σ H Q
inductive Co (K:PySem.W.Frag) (g:DGs) (vs:List V) (σ:St) (H:Hp) (Q:St->Hp->Prop):Prop
 | mk (M P:Addr->Prop) (H0:Hp) (σ0:St) (env:List Sl) (ts:List (V×Sl)) (ds:List PyData) (R:List Sl->Prop):xM ts->Rel K M P H0 σ0 σ env ts H->DNs K (Nw M (aI σ env ts)) H vs ds->g ds env R ->
 (∀ σ' env' H',R env'->Rel K M P H0 σ0 σ' env' ts H'->Q σ' H')->Co K g vs σ H Q
theorem PG.imp {X:Cx}{e:Expr}{t t':TG} (h:PG X e t) (k:∀ v σ H Q,t' v σ H Q->t v σ H Q):PG X e t':=λpins s σ H v u Q I r hw=>h pins s σ H v u Q I r (k v σ H Q hw)
theorem PGs.imp {X:Cx}{e:List Expr}{t t':TGs} (h:PGs X e t) (k:∀ v σ H Q,t' v σ H Q->t v σ H Q):PGs X e t':=λpins s σ H v u Q I r hw=>h pins s σ H v u Q I r (k v σ H Q hw)
section
variable {K:PySem.W.Frag}{M P N:Addr->Prop}{H0 H H':Hp}{σ0 σ:St}{env:List Sl}{ts kp:List (V×Sl)}{v:V}{s:Sl}{d:PyData}{X:Cx}{pos:Pos}{e:Expr}{es:List Expr}
theorem ub (v:V) (d:PyData):oas (tmp [(v,Sl.fr d)])=[]:=by
 show oas [(some v,Sl.fr d)]=[]
 rw[ai]
 cases v <;> rfl
theorem wl {E:List Ent}{v:V}{d:PyData}:Nw M (E++tmp [(v,Sl.fr d)])=Nw M E:=by
 unfold Nw
 rw[af,ub,Iy]
noncomputable def qh (i:Nat):DG:=λd env R=>i<env.length/\R (env.set i (.fr d))
theorem ak {i:Nat}{x:Str} (b:X.N.Nodup) (hi:X.N[i]? = some x) (hx:Loc X.env.scope x) (c:X.fn x=true\/X.env.scope.names.lookup x=some .local:=by first|exact .inl rfl|exact .inr rfl|assumption):PG X (.Name x pos) (upG K (qh i)) :=
 (Al b hi hx c).imp λv σ H Q h=>by
 obtain⟨M,P,H0,σ0,env,ts,d,R,nv,a,dn,⟨e,f⟩,g⟩:=h
 exact g _ _ _ f ((a.addFr dn).store nv e rfl)
noncomputable def Bs:DGs:=λds env R=>ds=[]/\R env
noncomputable def uH (g:DG) (b:DGs):DGs:=λds env R=>∃ d r,ds=d::r/\g d env λa=>b r a R
theorem cC:PGs X [] (Co K Bs):=Ak.imp λv σ H Q h=>by
 obtain⟨M,P,H0,σ0,env,ts,ds,R,nv,a,dn,⟨rfl,b⟩,c⟩:=h
 cases dn
 exact⟨rfl,c _ _ _ b a⟩
theorem pN (env:List Sl):∀ ds:List PyData,bp env (ds.map .fr)=some ds
 | []=>rfl
 | d::ds=>by
  show(aC env (Sl.fr d)).bind _=_
  rw[pN env ds]
  rfl
theorem AB (vs:List V) (ds:List PyData) (nv:xM ts):xM (ts++vs.zip (ds.map .fr)):=λw i m=>by
 rcases HF.mp m with m|m
 ·exact nv w i m
 ·obtain⟨d,_,e⟩:=HS.mp (JR m).2
  cases e
theorem Rel.addFrs:∀ {vs:List V}{ds:List PyData}{ts:List (V×Sl)},Rel K M P H0 σ0 σ env ts H->DNs K (Nw M (aI σ env ts)) H vs ds->Rel K M P H0 σ0 σ env (ts++vs.zip (ds.map .fr)) H
 | _,_,ts,a,.nil=>by simpa using a
 | _,_,ts,a,@DNs.cons _ _ _ v vs d ds h q=>by
  have r:=a.addFr h
  have c:DNs K (Nw M (aI σ env (ts++[(v,.fr d)]))) H vs ds:=q.to λb _ _ z=>by rw[aH,wl] at z;exact z
  have:=Rel.addFrs r c
  simpa using this
theorem aK {g:DG}{j:DGs} (h1:PG X e (upG K g)) (h2:PGs X es (Co K j)) (k:(J6 (e::es) X.env).map (·.2)=Kv e X.env::(J6 es X.env).map (·.2):=by rfl):PGs X (e::es) (Co K (uH g j)) :=
 (vX h1 h2 k).imp λvs σ H Q h=>by
 obtain⟨M,P,H0,σ0,env,ts,ds,R,nv,f,dn,⟨d,r,rfl,l⟩,m⟩:=h
 cases dn with
 | @cons v vs _ _ h q =>
  have c:=f.addFrs q
  have n:DN K (Nw M (aI σ env (ts++vs.zip (r.map .fr)))) H v d:=h.to λb _ _ z=>by
   rw[aH] at z
   rcases z with z|z
   ·exact .inl z
   ·rw[af,iC,Iy] at z
    exact .inr z
  refine⟨v,vs,rfl,M,P,H0,σ0,env,ts++vs.zip (r.map .fr),d,_,AB _ _ nv,c,n,l,λσ' env' H' i a=>?_⟩
  exact⟨M,P,H0,σ0,env',ts,r,R,nv,a.drop,a.keptAll (by simp[q.len]) (λp o=>o) (pN _ _),i,m⟩
noncomputable def Br (n:Nat) (a:DGs):DG:=λd env R=>∃ ds,d=.tuple ds/\ds.length=n/\a ds env R
theorem dS {k:Nat}{e:DGs}{n:Nat} (hK:X.K=K) (hc:X.calm=true) (h:PGs X es (Co K e)) (hn:(J6 es X.env).length=n:=by rfl) (b:(J6 es X.env).findIdx? (·.1)=none:=by rfl):PG X (.Tuple es k pos) (upG K (Br n e)) :=
 (FM (K:=K) hK hc h hn b).imp λv σ H Q h=>by
 obtain⟨M,P,H0,σ0,env,ts,d,R,nv,c,dn,⟨ds,rfl,f,g⟩,i⟩:=h
 obtain⟨a,xs,rfl,j,q⟩:=dn.tuple
 exact⟨a,xs,rfl,j.sq,by rw[q.len];exact f,M,P,H0,σ0,env,ts,ds,R,nv,c,q,g,i⟩
noncomputable def Ga (te:DE) (g:DG):DS:=λDD env=>te env λs a=>∃ d,aC a s=some d/\g d a DD.nx
theorem Fw {tg:Expr}{te:DE}{g:DG} (i:PE X e (up K te)) (c:PG X tg (upG K g)) (j:K0 [tg] e pos.line X.env=pure false:=by rfl) (hw:K1 [tg] e X.env=pure none:=by rfl)
  (h1:(J6 [tg] X.env).map (·.2)=[Kv tg X.env]:=by rfl):PS X (.Assign [tg] e pos) (upS K (Ga te g)):=(pj i c j hw h1).imp λD σ H h=>by
 obtain⟨M,P,H0,σ0,env,ts,DD,nv,f,l,ok⟩:=h
 refine⟨M,P,H0,σ0,env,ts,_,f,l,λs1 b m H1 h1 a=>?_⟩
 obtain⟨d,k,c⟩:=h1
 exact⟨M,P,H0,σ0,b,ts,d,_,nv,a.drop,a.kept (v:=m) (s:=s1) (by simp) k,c,λσ' env' H' n r=>ok.nx _ _ _ n r⟩
structure iV (K:PySem.W.Frag) (J:It) (kp:List (V×Sl)) (ds:List PyData):Prop where
 go : ∀ {M P:Addr->Prop}{H0 H:Hp}{σ0 σ:St}{env:List Sl}{ts:List (V×Sl)},Rel K M P H0 σ0 σ env (ts++kp) H->∀ i,i<ds.length->J.go i H
 yld:∀ {M P:Addr->Prop}{H0 H:Hp}{σ0 σ:St}{env:List Sl}{ts:List (V×Sl)},Rel K M P H0 σ0 σ env (ts++kp) H->∀ i x H',(hi:i<ds.length)->J.yld i H x H'->aR H H'/\DN K (Nw M (aI σ env (ts++kp))) H' x ds[i]
 stop:∀ {M P:Addr->Prop}{H0 H:Hp}{σ0 σ:St}{env:List Sl}{ts:List (V×Sl)},Rel K M P H0 σ0 σ env (ts++kp) H->J.stop ds.length H
 nv : xM kp
noncomputable abbrev DI:=List Sl->(List PyData->List Sl->Prop)->Prop
inductive upI (K:PySem.W.Frag) (t:DI) (σ:St) (H:Hp) (R:It->Hp->Prop):Prop
 | mk (M P:Addr->Prop) (H0:Hp) (σ0:St) (env:List Sl) (ts:List (V×Sl)) (RR:List PyData->List Sl->Prop):Rel K M P H0 σ0 σ env ts H->t env RR ->
 (∀ ds env' J H' kp,RR ds env'->Rel K M P H0 σ0 σ env' (ts++kp) H'->iV K J kp ds->R J H')->upI K t σ H R
theorem PI.imp {tg iter:Expr}{t t':TI} (h:PI X tg iter t) (k:∀ σ H R,t' σ H R->t σ H R):PI X tg iter t':=λpins s σ H R I hw=>h pins s σ H R I (k σ H R hw)
theorem aQ {b:Bool}{a:Addr}{ds:List PyData} (c:Rel K M P H0 σ0 σ env ts H) (m:(.ref a,.fr (if b then .tuple ds else .list ds))∈ts):∃ xs,SqB K H b a xs/\DNs K (Nw M (aI σ env ts)) H xs ds:=by
 obtain⟨v,e,dn⟩:=c.e.fr _ _ (cX m)
 cases e
 cases b with
 | false =>
  obtain⟨f,xs,e,d,q⟩:=DN.list dn
  cases e
  exact⟨xs,d.sq,q⟩
 | true =>
  obtain⟨f,xs,e,d,q⟩:=DN.tuple dn
  cases e
  exact⟨xs,d.sq,q⟩
theorem DNs.item {vs:List V}{ds:List PyData} (q:DNs K N H vs ds) {i:Nat} (hi:i<ds.length):∃ x,vs[i]? = some x/\DN K N H x ds[i]:=by
 have a:i<vs.length:=by rw[q.len];exact hi
 obtain⟨e,h1,h2⟩:=q.get (Hz a)
 rw[Hz hi] at h1
 cases h1
 exact⟨vs[i],Hz a,h2⟩
theorem wm {v:V}{d:PyData}:xM [(v,Sl.fr d)]:=λw i m=>by rw[HD] at m;cases m
theorem ut {a:Addr}{ds:List PyData}:iV K (Itl K a) [(.ref a,.fr (.list ds))] ds where
 go := λc i hi=>by
  obtain⟨xs,s,q⟩:=aQ (b:=false) (a:=a) (ds:=ds) c (HA _ (by simp))
  obtain⟨x,e,_⟩:=q.item hi
  exact⟨xs,x,s,e⟩
 yld:=λc i x H' hi y=>by
  obtain⟨xs,s,q⟩:=aQ (b:=false) (a:=a) (ds:=ds) c (HA _ (by simp))
  obtain⟨e,y⟩:=y
  subst e
  obtain⟨f,d,dn⟩:=q.item hi
  rw[y xs s] at d
  cases d
  exact⟨aR.refl _,dn⟩
 stop:=λc=>by
  obtain⟨xs,s,q⟩:=aQ (b:=false) (a:=a) (ds:=ds) c (HA _ (by simp))
  exact⟨xs,s,by rw[q.len];exact HK _⟩
 nv := wm
theorem wH {a:Addr}{ds:List PyData}:iV K (Itt K a) [(.ref a,.fr (.tuple ds))] ds where
 go := λc i hi=>by
  obtain⟨xs,s,q⟩:=aQ (b:=true) (a:=a) (ds:=ds) c (HA _ (by simp))
  obtain⟨x,e,_⟩:=q.item hi
  exact⟨xs,x,s,e⟩
 yld:=λc i x H' hi y=>by
  obtain⟨xs,s,q⟩:=aQ (b:=true) (a:=a) (ds:=ds) c (HA _ (by simp))
  obtain⟨e,y⟩:=y
  subst e
  obtain⟨f,d,dn⟩:=q.item hi
  rw[y xs s] at d
  cases d
  exact⟨aR.refl _,dn⟩
 stop:=λc=>by
  obtain⟨xs,s,q⟩:=aQ (b:=true) (a:=a) (ds:=ds) c (HA _ (by simp))
  exact⟨xs,s,by rw[q.len];exact HK _⟩
 nv := wm
noncomputable def fO (lo:Int) (n:Nat):List PyData:=(List.range n).map λ(k:Nat)=>PyData.int (lo+k)
theorem aw (lo:Int) (n:Nat):(fO lo n).length=n:=by simp[fO]
theorem aY (lo:Int) (n i:Nat) (h:i<(fO lo n).length):(fO lo n)[i]=.int (lo+i):=by simp[fO]
theorem jt {lo:Int}{n:Nat}:iV K (Itr lo n) [] (fO lo n) where
 go := λa i hi=>by rw[aw] at hi;exact hi
 yld:=λa i x H' hi y=>by
  obtain⟨e,y⟩:=y
  subst e
  rw[aY,y]
  exact⟨aR.refl _,.int _⟩
 stop:=λa=>by rw[aw];exact HK _
 nv := λw i m=>by cases m
noncomputable def kj (ds:List PyData):List PyData:=ds.zipIdx.map λ(p:PyData×Nat)=>PyData.tuple [.int p.2,p.1]
theorem aL (ds:List PyData):(kj ds).length=ds.length:=by simp[kj]
theorem cE (ds:List PyData) (i:Nat) (h:i<(kj ds).length):(kj ds)[i]=.tuple [.int i,ds[i]'(by rw[aL] at h;exact h)]:=by simp[kj]
theorem uu {b:Bool}{a:Addr}{ds:List PyData}:iV K (Ite K b a) [(.ref a,.fr (if b then .tuple ds else .list ds))] (kj ds) where
 go := λc i hi=>by
  rw[aL] at hi
  obtain⟨xs,s,q⟩:=aQ (b:=b) (a:=a) (ds:=ds) c (HA _ (by simp))
  obtain⟨x,e,_⟩:=q.item hi
  exact⟨xs,x,s,e⟩
 yld:=λ{M P H0 H σ0 σ env ts} c i x H' hi y=>by
  rw[cE]
  rw[aL] at hi
  obtain⟨xs,s,q⟩:=aQ (b:=b) (a:=a) (ds:=ds) c (HA _ (by simp))
  obtain⟨p,x1,rfl,d,rfl,y⟩:=y
  obtain⟨g,f,dn⟩:=q.item hi
  rw[y xs s] at f
  cases f
  exact⟨aR.new d,DN.of2 (SnT.of aB (c.newAddr d)) (.int _) (dn.keep (aV.same (aR.new d)))⟩
 stop:=λc=>by
  obtain⟨xs,s,q⟩:=aQ (b:=b) (a:=a) (ds:=ds) c (HA _ (by simp))
  exact⟨xs,s,by rw[q.len,aL]⟩
 nv := wm
noncomputable def kI (ds es:List PyData):List PyData:=List.zipWith (λd e=>PyData.tuple [d,e]) ds es
theorem bC (ds es:List PyData):(kI ds es).length=min ds.length es.length:=by simp[kI]
theorem wG {b c:Bool}{a g:Addr}{ds es:List PyData}:iV K (Itz K b c a g) [(.ref a,.fr (if b then .tuple ds else .list ds)),(.ref g,.fr (if c then .tuple es else .list es))] (kI ds es) where
 go := λd i hi=>by
  rw[bC] at hi
  obtain⟨xs,s,q⟩:=aQ (b:=b) (a:=a) (ds:=ds) d (HA _ (by simp))
  obtain⟨f,s',h⟩:=aQ (b:=c) (a:=g) (ds:=es) d (HA _ (by simp))
  obtain⟨x,e,_⟩:=q.item (i:=i) (by omega)
  obtain⟨o,r,_⟩:=h.item (i:=i) (by omega)
  exact⟨xs,f,x,o,s,s',e,r⟩
 yld:=λ{M P H0 H σ0 σ env ts} d i x H' hi y=>by
  have k:=hi
  rw[bC] at k
  obtain⟨xs,s,q⟩:=aQ (b:=b) (a:=a) (ds:=ds) d (HA _ (by simp))
  obtain⟨f,s',h⟩:=aQ (b:=c) (a:=g) (ds:=es) d (HA _ (by simp))
  obtain⟨p,x1,u,rfl,j,rfl,y1,y2⟩:=y
  obtain⟨v,e1,l⟩:=q.item (i:=i) (by omega)
  obtain⟨z,e2,n⟩:=h.item (i:=i) (by omega)
  rw[y1 xs s] at e1
  rw[y2 f s'] at e2
  cases e1
  cases e2
  have t:(kI ds es)[i]=.tuple [ds[i]'(by omega),es[i]'(by omega)]:=by simp[kI]
  rw[t]
  exact⟨aR.new j,DN.of2 (SnT.of aB (d.newAddr j)) (l.keep (aV.same (aR.new j))) (n.keep (aV.same (aR.new j)))⟩
 stop:=λd=>by
  obtain⟨xs,s,q⟩:=aQ (b:=b) (a:=a) (ds:=ds) d (HA _ (by simp))
  obtain⟨f,s',h⟩:=aQ (b:=c) (a:=g) (ds:=es) d (HA _ (by simp))
  refine⟨xs,f,s,s',?_⟩
  rw[q.len,h.len,bC]
  omega
 nv := λw i m=>by
  simp only[HP,Ir,or_false] at m
  rcases m with m|m <;> cases m
end
section
variable {K:PySem.W.Frag}{M P:Addr->Prop}{H0 H H':Hp}{σ0 σ:St}{env:List Sl}{ts kp:List (V×Sl)}{v:V}{s:Sl}{X:Cx}{pos p:Pos}{e e1 e2 tg iter:Expr}{es:List Expr}{te:DE}{tl:DA}
noncomputable def qk (te:DE):DI:=λenv RR=>te env λs a=>∃ ds,aC a s=some (.list ds)/\RR ds a
noncomputable def xl (te:DE):DI:=λenv RR=>te env λs a=>∃ ds,aC a s=some (.tuple ds)/\RR ds a
theorem bJ (hK:X.K=K) (h:PE X e (up K te)):PI X tg e (upI K (qk te)):=(Dq (K:=K) hK h).imp λσ H R h=>by
 obtain⟨M,P,H0,σ0,env,ts,RR,c,f,g⟩:=h
 refine⟨M,P,H0,σ0,env,ts,_,c,f,λs1 d i H1 h1 b=>?_⟩
 obtain⟨ds,k,j⟩:=h1
 have dn:=b.kept (v:=i) (s:=s1) (by simp) k
 obtain⟨a,xs,rfl,l,q⟩:=dn.list
 exact⟨a,rfl,⟨xs,l.sq⟩,g _ _ _ _ _ j (b.drop.addFr dn) ut⟩
theorem CF (hK:X.K=K) (h:PE X e (up K te)):PI X tg e (upI K (xl te)):=(FL (K:=K) hK h).imp λσ H R h=>by
 obtain⟨M,P,H0,σ0,env,ts,RR,c,f,g⟩:=h
 refine⟨M,P,H0,σ0,env,ts,_,c,f,λs1 d i H1 h1 b=>?_⟩
 obtain⟨ds,k,j⟩:=h1
 have dn:=b.kept (v:=i) (s:=s1) (by simp) k
 obtain⟨a,xs,rfl,l,q⟩:=dn.tuple
 exact⟨a,rfl,⟨xs,l.sq⟩,g _ _ _ _ _ j (b.drop.addFr dn) wH⟩
noncomputable def xi (ta:DA):DI:=λenv RR=>ta env λss a=>∃ s j,ss=[s]/\aP a s=some (.int j)/\-4611686018427387904<=j/\j<4611686018427387904/\RR (fO 0 j.toNat) a
noncomputable def BA (ta:DA):DI:=λenv RR=>ta env λss a=>∃ s s' i j,ss=[s,s']/\aP a s=some (.int i)/\aP a s'=some (.int j)/\(-4611686018427387904<=i/\i<4611686018427387904/\-4611686018427387904<=j/\j<4611686018427387904)/\RR (fO i (j - i).toNat) a
theorem cW (d:Gl X "range") (f:X.mg "range" = none) (g:PA X [e] (upA K tl)) (i:kq [e] X.env=[(false,eval e X.env)]:=by rfl):PI X tg (.Call (.Name "range" p) [e] [] pos) (upI K (xi tl)):=(tH d f g i).imp λσ H R h=>by
 obtain⟨M,P,H0,σ0,env,ts,RR,b,k,l⟩:=h
 refine⟨M,P,H0,σ0,env,ts,_,b,k,λss c vs H1 h1 m a=>?_⟩
 obtain⟨s,j,rfl,e1,n,o,q⟩:=h1
 obtain⟨v,rfl⟩:=vp m
 have w:=(a.view (v:=v) (by simp) e1).int
 exact⟨j,by rw[w],n,o,l _ _ _ _ [] q (by simpa using a.drop) jt⟩
theorem zR (f:Gl X "range") (g:X.mg "range" = none) (k:PA X [e1,e2] (upA K tl)) (l:kq [e1,e2] X.env=[(false,eval e1 X.env),(false,eval e2 X.env)]:=by rfl) (c:kq [e2] X.env=[(false,eval e2 X.env)]:=by rfl) :
  PI X tg (.Call (.Name "range" p) [e1,e2] [] pos) (upI K (BA tl)):=(tG f g k l c).imp λσ H R h=>by
 obtain⟨M,P,H0,σ0,env,ts,RR,d,m,n⟩:=h
 refine⟨M,P,H0,σ0,env,ts,_,d,m,λss e vs H1 h1 o a=>?_⟩
 obtain⟨s,s',i,j,rfl,e1,e2,b,q⟩:=h1
 obtain⟨v,v',rfl⟩:=Dm o
 have w:=(a.view (v:=v) (by simp) e1).int
 have w':=(a.view (v:=v') (by simp) e2).int
 exact⟨i,j,by rw[w,w'],b,n _ _ _ _ [] q (by simpa using a.drop) jt⟩
noncomputable def sqD (b:Bool) (ds:List PyData):PyData:=if b then .tuple ds else .list ds
noncomputable def xm (b:Bool) (ta:DA):DI:=λenv RR=>ta env λss a=>∃ s ds,ss=[s]/\aC a s=some (sqD b ds)/\RR (kj ds) a
theorem fZ (b:Bool) {es:List Expr}{j:Nat}{d:Pos} (hK:X.K=K) (l:Gl X "enumerate") (m:X.mg "enumerate" = none) (n:PA X [e] (upA K tl)) (o:kq [e] X.env=[(false,eval e X.env)]:=by rfl) :
  PI X (.Tuple es j d) (.Call (.Name "enumerate" p) [e] [] pos) (upI K (xm b tl)):=(Ds (K:=K) hK b l m n o).imp λσ H R h=>by
 obtain⟨M,P,H0,σ0,env,ts,RR,f,q,r⟩:=h
 refine⟨M,P,H0,σ0,env,ts,_,f,q,λss g vs H1 h1 t c=>?_⟩
 obtain⟨s,ds,rfl,k,u⟩:=h1
 obtain⟨v,rfl⟩:=vp t
 have dn:=c.kept (v:=v) (s:=s) (by simp) k
 have i:=c.drop.addFr dn
 have w:∃ a,v=.ref a:=by
  cases b with
  | false=>obtain⟨a,_,e,_⟩:=DN.list dn;exact⟨a,e⟩
  | true=>obtain⟨a,_,e,_⟩:=DN.tuple dn;exact⟨a,e⟩
 obtain⟨a,rfl⟩:=w
 obtain⟨xs,sq,_⟩:=aQ (b:=b) (a:=a) (ds:=ds) i (HA _ (by simp[sqD]))
 exact⟨a,xs,rfl,sq,r _ _ _ _ _ u i uu⟩
noncomputable def EK (b c:Bool) (ta:DA):DI:=λenv RR=>ta env λss a=>∃ s s' ds es,ss=[s,s']/\aC a s=some (sqD b ds)/\aC a s'=some (sqD c es)/\RR (kI ds es) a
theorem s9 (b c:Bool) {es:List Expr}{x:Nat}{g:Pos} (hK:X.K=K) (y:Gl X "zip") (z:X.mg "zip" = none) (A:PA X [e1,e2] (upA K tl))
  (B:kq [e1,e2] X.env=[(false,eval e1 X.env),(false,eval e2 X.env)]:=by rfl) (m:kq [e2] X.env=[(false,eval e2 X.env)]:=by rfl) :
  PI X (.Tuple es x g) (.Call (.Name "zip" p) [e1,e2] [] pos) (upI K (EK b c tl)):=(FK (K:=K) hK b c y z A B m).imp λσ H R h=>by
 obtain⟨M,P,H0,σ0,env,ts,RR,n,C,D⟩:=h
 refine⟨M,P,H0,σ0,env,ts,_,n,C,λss i vs H1 h1 u d=>?_⟩
 obtain⟨s,s',ds,f,rfl,E,F,G⟩:=h1
 obtain⟨v,v',rfl⟩:=Dm u
 have j:=d.keptAll (vs:=[v,v']) (ds:=[sqD b ds,sqD c f]) u (λp I=>I) (by simp[bp,E,F])
 have k:=d.drop.addFrs j
 have k:Rel K M P H0 σ0 σ i (ts++[(v,.fr (sqD b ds)),(v',.fr (sqD c f))]) H1:=by simpa using k
 cases j with
 | cons dn q =>
  cases q with
  | cons l q =>
   cases q
   have J:∃ a,v=.ref a:=by
    cases b with
    | false=>obtain⟨a,_,e,_⟩:=DN.list dn;exact⟨a,e⟩
    | true=>obtain⟨a,_,e,_⟩:=DN.tuple dn;exact⟨a,e⟩
   have o:∃ a,v'=.ref a:=by
    cases c with
    | false=>obtain⟨a,_,e,_⟩:=DN.list l;exact⟨a,e⟩
    | true=>obtain⟨a,_,e,_⟩:=DN.tuple l;exact⟨a,e⟩
   obtain⟨a,rfl⟩:=J
   obtain⟨w,rfl⟩:=o
   obtain⟨xs,sq,_⟩:=aQ (b:=b) (a:=a) (ds:=ds) k (HA _ (by simp[sqD]))
   obtain⟨r,t,_⟩:=aQ (b:=c) (a:=w) (ds:=f) k (HA _ (by simp[sqD]))
   exact⟨a,w,xs,r,rfl,sq,t,D _ _ _ _ _ G k wG⟩
theorem Rel.dropMid {t:V×Sl} (h:Rel K M P H0 σ0 σ env (ts++kp++[t]) H):Rel K M P H0 σ0 σ env (ts++[t]) H:=by
 refine⟨?_,h.len,λw i m=>h.vw w i (by
  rcases HF.mp m with m|m
  ·exact HG _ (HG _ m)
  ·exact HA _ m),h.ios⟩
 have a:=h.e
 rw[aH,aH] at a
 rw[aH]
 refine a.sub (λx s m=>.inl ?_) ?_
 ·rcases HF.mp m with m|m
  ·exact HG _ (HG _ m)
  ·exact HA _ m
 ·have nd:=a.nd
  rw[af,af] at nd
  rw[af]
  obtain⟨b,c,d⟩:=HN.mp nd
  exact HN.mpr ⟨(HN.mp b).1,c,λx hx y f=>d x (HG _ hx) y f⟩
noncomputable def FD (ds:List PyData) (g:DG) (tb:DS):DS:=λDD env=>∃ W:Nat->List Sl->Prop,W 0 env /\
 (∀ i env,(h:i<ds.length)->W i env->g ds[i] env λa=>tb { DD with nx:=dI (W (i+1)) ⟨⟩,ct:=dI (W (i+1)) ⟨⟩,bk:=DD.nx } a)/\∀ env,W ds.length env->DD.nx env
noncomputable def EU (it:DI) (g:DG) (tb:DS):DS:=λDD env=>it env λds a=>FD ds g tb DD a
theorem dW {body:List Stmt}{it:DI}{g:DG}{tb:DS} (p:PassesOwn (q3 X.prog X.w) X.A X.env X.xe) (hc:X.calm=true) (hi:PI X tg iter (upI K it)) (t:PG X tg (upG K g)) (u:PSs X body (upS K tb)) (z:∀ x,J9 iter X.env x=pure x:=by intro _;rfl) :
  PS X (.For tg iter body [] pos) (upS K (EU it g tb)):=(C2 p hc hi t u z).imp λD σ H h=>by
 obtain⟨M,P,H0,σ0,env,ts,DD,nv,n,B,ok⟩:=h
 refine⟨M,P,H0,σ0,env,ts,_,n,B,λds d J H1 kp C f io=>?_⟩
 obtain⟨W,E,j,done⟩:=C
 have k:xM (ts++kp):=λw i m=>by
  rcases HF.mp m with m|m
  ·exact nv w i m
  ·exact io.nv w i m
 refine⟨λi m σ H=>m=ds.length - i/\i<=ds.length/\∃ env,W i env/\Rel K M P H0 σ0 σ env (ts++kp) H,⟨_,rfl,Ig _,d,E,f⟩,?_⟩
 rintro i m F H2 ⟨rfl,G,c,o,a⟩
 by_cases b:i<ds.length
 ·refine .inr ⟨io.go a i b,λσ' H'=>∃ env',W (i+1) env'/\Rel K M P H0 σ0 σ' env' (ts++kp) H',λσ' H' ⟨env',w',I⟩=>⟨ds.length - (i+1),by omega,rfl,b,env',w',I⟩,λx L y=>?_⟩
  obtain⟨N,dn⟩:=io.yld a i x L b y
  have l:=a.same N
  refine⟨M,P,H0,σ0,c,ts++kp,ds[i],_,k,l,dn,j i c b o,λσ' env' H' O r=>?_⟩
  refine⟨M,P,H0,σ0,env',ts++kp,_,k,r,O,⟨λσ' env' H' q r=>⟨env',q,r⟩,λs env' v σ' H' q r=>ok.rt s env' v σ' H' q r.dropMid,λσ' env' H' q r=>ok.nx _ _ _ q r.drop,λσ' env' H' q r=>⟨env',q,r⟩⟩⟩
 ·have e:i=ds.length:=by omega
  subst e
  exact .inl ⟨io.stop a,ok.nx _ _ _ (done _ o) a.drop⟩
noncomputable def Eh (c:DT) (tb:DS):DS:=λDD env=>∃ W:Nat->List Sl->Prop,(∃ m,W m env)/\∀ m env,W m env ->
 c env λk a=>if k=true then tb { DD with nx:=dI (λenv'=>∃ b,b<m/\W b env') ⟨⟩,ct:=dI (λenv'=>∃ b,b<m/\W b env') ⟨⟩,bk:=DD.nx } a else DD.nx a
theorem jN {c:Expr}{body:List Stmt}{tc:DT}{tb:DS} (l:PassesOwn (q3 X.prog X.w) X.A X.env X.xe) (hc:PT X c (upT K tc)) (n:PSs X body (upS K tb)):PS X (.While c body [] pos) (upS K (Eh tc tb)):=(vV l hc n).imp λD σ H h=>by
 obtain⟨M,P,H0,σ0,env,ts,DD,nv,i,⟨W,⟨o,p⟩,d⟩,ok⟩:=h
 refine⟨λm σ H=>∃ env,W m env/\Rel K M P H0 σ0 σ env ts H,⟨o,env,p,i⟩,?_⟩
 rintro m s H2 ⟨a,t,e⟩
 refine⟨M,P,H0,σ0,a,ts,_,e,d m a t,λk f x j b=>?_⟩
 cases k with
 | false=>exact ok.nx _ _ _ j b
 | true =>
  refine⟨λσ' H'=>∃ env',(∃ g,g<m/\W g env')/\Rel K M P H0 σ0 σ' env' ts H',λσ' H' ⟨env',⟨g,u,w'⟩,v⟩=>⟨g,u,env',w',v⟩,?_⟩
  exact⟨M,P,H0,σ0,f,ts,_,nv,b,j,⟨λσ' env' H' q r=>⟨env',q,r⟩,ok.rt,λσ' env' H' q r=>ok.nx _ _ _ q r,λσ' env' H' q r=>⟨env',q,r⟩⟩⟩
end
noncomputable def mj:Option Sl->Sl
 | some (.fr d)=>.fr d
 | _=>.un
noncomputable def Gg (env:List Sl):Option Nat->Sl
 | none=>.un
 | some j=>mj env[j]?
noncomputable def fC (ix:List (Option Nat)) (env:List Sl):List Sl:=ix.map (Gg env)
theorem gw {α β b:Type}{f:α->β}{g:α->b}:∀ {l:List α}{x:β}{y:b},(x,y)∈(l.map f).zip (l.map g)->∃ o∈l,x=f o/\y=g o
 | [],_,_,h=>by simp at h
 | a :: l,x,y,h=>by
  have h:(x,y)∈(f a,g a)::(l.map f).zip (l.map g):=h
  rcases HP.mp h with h|h
  ·cases h;exact⟨a,HH,rfl,rfl⟩
  ·obtain⟨o,ho,e⟩:=gw h
   exact⟨o,HJ _ ho,e⟩
noncomputable def Bt:DT:=λenv R=>R true env
theorem PIf.imp {X:Cx}{ifs:List Expr}{t t':TT} (h:PIf X ifs t) (k:∀ σ H Q,t' σ H Q->t σ H Q):PIf X ifs t':=λpins s σ H Q I hw=>h pins s σ H Q I (k σ H Q hw)
theorem bI {X:Cx}{K:PySem.W.Frag}:PIf X [] (upT K Bt):=Ah.imp λσ H Q h=>by
 obtain⟨M,P,H0,σ0,env,ts,R,a,b,c⟩:=h
 exact c _ _ _ b a
theorem ik {X:Cx}{K:PySem.W.Frag}{c:Expr}{t:DT} (h:PT X c (upT K t)):PIf X [c] (upT K t):=Ag h
section
variable {K:PySem.W.Frag}{M P:Addr->Prop}{H0 H:Hp}{σ0 σ:St}{env:List Sl}{ts:List (V×Sl)}{v:V}{s:Sl}{d:PyData}
theorem dF {ix:List (Option Nat)}{x:Option V} (a:Rel K M P H0 σ0 σ env ts H) (m:(x,s)∈(dG σ ix).zip (fC ix env)):s=.un\/∃ d v,s=.fr d/\x=some v/\DN K (Nw M (aI σ env ts)) H v d:=by
 obtain⟨o,_,e1,e2⟩:=gw m
 cases o with
 | none=>exact .inl e2
 | some j =>
  have e2:s=mj env[j]?:=e2
  cases q:env[j]? with
  | none=>rw[q] at e2;exact .inl e2
  | some s' =>
   rw[q] at e2
   cases s' with
   | fr d =>
    obtain⟨f,e3,b⟩:=a.slot q
    obtain⟨v,c,dn⟩:=a.e.fr _ _ b
    refine .inr ⟨d,v,e2,?_,dn⟩
    rw[e1]
    show(σ[j]?).join=_
    rw[e3,c]
    rfl
   | _=>exact .inl e2
theorem kw {ix:List (Option Nat)} (a:Rel K M P H0 σ0 σ env ts H):oas ((dG σ ix).zip (fC ix env))=[]:=by
 unfold oas
 rw[List.flatMap_eq_nil_iff]
 rintro⟨x,s⟩ m
 rcases dF a m with e|⟨d,v,e,e2,_⟩
 ·subst e
  exact iz _
 ·subst e e2
  exact dB _ _
theorem nV {ix:List (Option Nat)} (c:Rel K M P H0 σ0 σ env ts H):Rel K (Nw M (aI σ env ts)) (λ_=>False) H (dG σ ix) (dG σ ix) (fC ix env) [] H:=by
 have g:=kw (ix:=ix) c
 have f:aI (dG σ ix) (fC ix env) []=(dG σ ix).zip (fC ix env):=by simp[aI,tmp]
 refine⟨⟨aV.refl,λa q=>q,λa z hn=>c.newAddr hn z,λa z=>z.elim,λx d m=>?_,λx l m=>?_,λx l m=>?_,λx S l m=>?_,by rw[f,g];exact Jq⟩,by simp[dG,fC],λw i m=>(by cases m),λi l e=>rfl⟩
 rotate_right
 ·rw[f] at m
  rcases dF c m with e|⟨d',v,e,e2,dn⟩ <;> cases e
 ·rw[f] at m
  rcases dF c m with e|⟨d',v,e,e2,dn⟩
  ·cases e
  ·cases e
   refine⟨v,e2,dn.to λb _ _ z=>?_⟩
   rcases z with z|z
   ·exact z
   ·rw[f,g] at z;cases z
 ·rw[f] at m
  rcases dF c m with e|⟨d',v,e,e2,dn⟩ <;> cases e
 ·rw[f] at m
  rcases dF c m with e|⟨d',v,e,e2,dn⟩ <;> cases e
theorem xx {ix:List (Option Nat)}{k j:Nat}{p:Sl}{l:List PyData} (c:Rel K M P H0 σ0 σ env ts H) (hk:ix[k]? = some (some j)) (r:env[j]? = some p) (s:iW p=some l) {a:Addr} (u:σ[j]? = some (some (.ref a))) :
  Rel K (Nw M (aI σ env ts)) (λb=>b=a) H (dG σ ix) (dG σ ix) ((fC ix env).set k (.io l)) [] H:=by
 have o:=kw (ix:=ix) c
 have E:=nV (ix:=ix) c
 have F:k<ix.length:=(HI.mp hk).1
 have G:(fC ix env)[k]? = some .un:=by
  unfold fC
  rw[Ic,hk]
  show some (mj env[j]?)=_
  rw[r]
  cases p <;> first|rfl|cases s
 have es:(dG σ ix)[k]? = some (some (.ref a)):=by
  unfold dG
  rw[Ic,hk]
  show some ((σ[j]?).join)=_
  rw[u];rfl
 obtain⟨x,A,B,e1,q1,f⟩:=E.split G
 rw[es] at e1
 cases e1
 have C:aI (dG σ ix) (fC ix env) []=(dG σ ix).zip (fC ix env):=by simp[aI,tmp]
 have g:oas A=[]/\oas B=[]:=by
  rw[<-C,q1,af,ai] at o
  have o:oas A++oas B=[]:=o
  exact List.append_eq_nil_iff.mp o
 obtain⟨N,us,h,I,J⟩:=c.mine r s
 rw[u] at h
 cases h
 have D:Nw M (aI σ env ts) a:=by
  obtain⟨x,e1,L⟩:=c.slot r
  rw[u] at e1
  cases e1
  refine .inr (bA.mpr ⟨_,L,?_⟩)
  exact(po s).2 a
 have n:oas (A++(some (.ref a),Sl.io l)::B)=[a]:=by
  rw[af,ai,g.1,g.2]
  rfl
 have ne:∀ b,Nw (Nw M (aI σ env ts)) (A++(some (.ref a),Sl.io l)::B) b->Nw M (aI σ env ts) b:=λb z=>by
  rcases z with z|z
  ·exact z
  ·rw[n,HD] at z;rw[z];exact D
 have old:∀ x t,(x,t)∈A++(some (.ref a),Sl.io l)::B->(x,t)=(some (.ref a),Sl.io l)\/(x,t)∈(dG σ ix).zip (fC ix env):=λx t m=>by
  rw[<-C,q1]
  rcases HF.mp m with m|m
  ·exact .inr (HG _ m)
  ·rcases HP.mp m with m|m
   ·exact .inl m
   ·exact .inr (HA _ (HJ _ m))
 refine⟨⟨aV.refl,λa q=>q,λa z hn=>c.newAddr hn z,λb z=>by rw[z];exact D,λx d m=>?_,λx y m=>?_,λx y m=>?_,λx S y m=>?_,by rw[f,n];simp⟩,by simp[dG,fC],λw i m=>(by cases m),λi y e=>rfl⟩
 rotate_right
 ·rw[f] at m
  rcases old _ _ m with m|m
  ·cases m
  ·rcases dF c m with e|⟨d',v,e,e2,dn⟩ <;> cases e
 ·rw[f] at m ⊢
  rcases old _ _ m with m|m
  ·cases m
  ·rcases dF c m with e|⟨d',v,e,e2,dn⟩
   ·cases e
   ·cases e
    exact⟨v,e2,dn.to λb _ _ z=>ne b z⟩
 ·rw[f] at m
  rcases old _ _ m with m|m
  ·cases m
  ·rcases dF c m with e|⟨d',v,e,e2,dn⟩ <;> cases e
 ·rw[f] at m ⊢
  rcases old _ _ m with m|m
  ·cases m
   exact⟨a,us,rfl,I,J.to λb _ _ z=>ne b z,rfl⟩
  ·rcases dF c m with e|⟨d',v,e,e2,dn⟩ <;> cases e
end
noncomputable def CD (ds:List PyData) (ix:List (Option Nat)) (g:DG) (tt:DT) (te:DE) (env:List Sl) (R:Sl->List Sl->Prop):Prop:=∃ W:Nat->List PyData->Prop,W 0 [] /\
 (∀ i a,(h:i<ds.length)->W i a->a.length<sizeLine/\g ds[i] (fC ix env) λb=>tt b λk c=>if k=true then te c λs e=>∃ d,aC e s=some d/\W (i+1) (a++[d]) else W (i+1) a)/\∀ a,W ds.length a->R (.ow a) env
noncomputable def rK (it:DI) (ix:List (Option Nat)) (g:DG) (tt:DT) (te:DE):DE:=λenv R=>it env λds a=>CD ds ix g tt te a (dK R ⟨⟩)
noncomputable def CD1 (k j:Nat) (ds:List PyData) (ix:List (Option Nat)) (g:DG) (tt:DT) (te:DE) (env:List Sl) (R:Sl->List Sl->Prop):Prop:=∃ W:Nat->List PyData->List PyData->Prop,∃ c e,env[j]? = some c/\iW c=some e/\W 0 [] e /\
 (∀ i a l,(h:i<ds.length)->W i a l->a.length<sizeLine/\∃ s,cV c l=some s/\g ds[i] ((fC ix (env.set j s)).set k (.io l)) λn=>tt n λo f=>if o=true then te f λs m=>∃ d b,aC m s=some d/\m[k]? = some (.io b)/\W (i+1) (a++[d]) b else ∃ b,f[k]? = some (.io b)/\W (i+1) a b) /\
 ∀ a l,W ds.length a l->∃ s,cV c l=some s/\R (.ow a) (env.set j s)
noncomputable def qp (k j:Nat) (it:DI) (ix:List (Option Nat)) (g:DG) (tt:DT) (te:DE):DE:=λenv R=>it env λds a=>CD1 k j ds ix g tt te a (dK R ⟨⟩)
section
variable {K:PySem.W.Frag}
theorem uV {it:DI}{ix:List (Option Nat)}{g:DG}{tt:DT}{te:DE}:∀ σ H Q,up K (rK it ix g tt te) σ H Q->sy (upI K it) ix (upG K g) (upT K tt) (up K te) σ H Q:=λσ H Q h=>by
 obtain⟨M,P,H0,σ0,env,ts,R,D,S,T⟩:=h
 refine⟨M,P,H0,σ0,env,ts,_,D,S,λds f J H1 kp U u io=>?_⟩
 obtain⟨W,V,A,done⟩:=U
 refine⟨λi m ys H=>m=ds.length - i/\i<=ds.length/\∃ t,W i t/\DNs K (Nw M (aI σ f (ts++kp))) H ys t/\Rel K M P H0 σ0 σ f (ts++kp) H,⟨_,rfl,Ig _,[],V,.nil,u⟩,?_⟩
 rintro i m ys H2 ⟨rfl,X,t,I,l,j⟩
 by_cases n:i<ds.length
 ·obtain⟨hz,tr⟩:=A i t n I
  refine .inr ⟨io.go j i n,by rw[l.len];exact hz,λB H'=>∃ o,W (i+1) o/\DNs K (Nw M (aI σ f (ts++kp))) H' B o/\Rel K M P H0 σ0 σ f (ts++kp) H',λB H' ⟨o,a,b,c⟩=>⟨ds.length - (i+1),by omega,rfl,n,o,a,b,c⟩,λx E y=>?_⟩
  obtain⟨F,dn⟩:=io.yld j i x E n y
  have k:=j.same F
  have rb:=nV (ix:=ix) k
  have Y:=kw (ix:=ix) k
  have Z:∀ b,Nw (Nw M (aI σ f (ts++kp))) (aI (dG σ ix) (fC ix f) []) b->Nw M (aI σ f (ts++kp)) b:=λb z=>by
   rcases z with z|z
   ·exact z
   ·have ee:aI (dG σ ix) (fC ix f) []=(dG σ ix).zip (fC ix f):=by simp[aI,tmp]
    rw[ee,Y] at z;cases z
  refine⟨_,_,_,_,fC ix f,[],ds[i],_,λw i m=>(by cases m),rb,dn.to λb _ _ z=>Z b z,tr,λa0 b1 H4 h4 C=>?_⟩
  refine⟨_,_,_,_,b1,[],_,C,h4,λkk b2 H5 L q=>?_⟩
  cases kk with
  | false =>
   have N:aR E H5:=(q.e.keep.mono (M:=N0) λb z=>z).none
   exact⟨t,L,l.keep (aV.same (F.trans N)),k.same N⟩
  | true =>
   refine⟨_,_,_,_,b2,[],_,q,L,λs b3 v H6 h6 r=>?_⟩
   obtain⟨d,kd,w6⟩:=h6
   have O:aR E H6:=(r.e.keep.mono (M:=N0) λb z=>z).none
   have G:=r.kept (ts:=[]) (tt:=[]++[(v,s)]) (v:=v) (s:=s) (by simp) kd
   exact⟨t++[d],w6,(l.keep (aV.same (F.trans O))).app (.cons (G.to λb _ _ z=>.inl z) .nil),k.same O⟩
 ·have e:i=ds.length:=by omega
  subst e
  exact .inl ⟨io.stop j,λp hp=>T _ _ _ _ (done _ I) (j.resOw hp l)⟩
theorem xt {k j:Nat}{it:DI}{ix:List (Option Nat)}{g:DG}{tt:DT}{te:DE} (hk:ix[k]? = some (some j)):∀ σ H Q,up K (qp k j it ix g tt te) σ H Q->sy (upI K it) ix (upG K g) (upT K tt) (up K te) σ H Q:=λσ H Q h=>by
 obtain⟨M,P,H0,σ0,env,ts,R,b5,ht,hq⟩:=h
 refine⟨M,P,H0,σ0,env,ts,_,b5,ht,λds f J H1 kp hF o io=>?_⟩
 obtain⟨W,C,l0,ej,eo,w0,a0,done⟩:=hF
 have N:j<f.length:=(HI.mp ej).1
 have a4:cV C l0=some C:=(po eo).1
 have env0:f.set j C=f:=by
  rw[<-(HI.mp ej).2]
  exact List.set_getElem_self N
 obtain⟨a,f1,ea,_,_⟩:=o.mine ej eo
 have O:∀ {ls:List PyData}{s:Sl},cV C ls=some s->Nw M (aI σ (f.set j s) (ts++kp))=Nw M (aI σ f (ts++kp)):=λ{ls s} es=>by
  obtain⟨x,A,B,e3,E,S⟩:=o.split ej
  rw[ea] at e3
  cases e3
  rw[E,S]
  have oa:dL (some (.ref a),C)=[a]/\dL (some (.ref a),s)=[a]:=by
   exact fU (jk es).1
  unfold Nw
  rw[af,af,ai,ai,oa.1,oa.2]
 refine⟨λi m ys H=>m=ds.length - i/\i<=ds.length/\∃ D l s,cV C l=some s/\W i D l/\DNs K (Nw M (aI σ f (ts++kp))) H ys D/\Rel K M P H0 σ0 σ (f.set j s) (ts++kp) H,⟨_,rfl,Ig _,[],l0,C,a4,w0,.nil,by rw[env0];exact o⟩,?_⟩
 rintro i m ys H2 ⟨rfl,f2,D,l,s,es,w2,T,r⟩
 by_cases F:i<ds.length
 ·obtain⟨hz,s',n,tr⟩:=a0 i D l F w2
  rw[es] at n
  cases n
  have a5:iW s=some l:=(jk es).2
  have U:(f.set j s)[j]? = some s:=Ik N
  refine .inr ⟨io.go r i F,by rw[T.len];exact hz,λa6 H'=>∃ G u s',cV C u=some s'/\W (i+1) G u/\DNs K (Nw M (aI σ f (ts++kp))) H' a6 G/\Rel K M P H0 σ0 σ (f.set j s') (ts++kp) H',
   λa6 H' ⟨G,u,s',z,a,b,c⟩=>⟨ds.length - (i+1),by omega,rfl,F,G,u,s',z,a,b,c⟩,λx H3 y=>?_⟩
  obtain⟨sm,dn⟩:=io.yld r i x H3 F y
  have t:=r.same sm
  have rb:=xx (ix:=ix) t hk U a5 ea
  have ma:Nw M (aI σ (f.set j s) (ts++kp)) a:=by
   obtain⟨x,e1,mm⟩:=t.slot U
   rw[ea] at e1
   cases e1
   refine .inr (bA.mpr ⟨_,mm,?_⟩)
   exact(po a5).2 a
  have nb:∀ b,Nw (Nw M (aI σ (f.set j s) (ts++kp))) (aI (dG σ ix) ((fC ix (f.set j s)).set k (.io l)) []) b->Nw M (aI σ (f.set j s) (ts++kp)) b:=λb z=>by
   rcases z with z|z
   ·exact z
   ·obtain⟨_,_,hP⟩:=rb.e.own z
    rcases hP with q|q
    ·obtain⟨vs,q2,_⟩:=rb.e.own z
     rw[q] at q2;cases q2
    ·rw[q];exact ma
  have after:∀ {X:St}{b3:List Sl}{t3:List (V×Sl)}{Y:Hp}{u:List PyData},Rel K (Nw M (aI σ (f.set j s) (ts++kp))) (λb=>b=a) H3 (dG σ ix) X b3 t3 Y->b3[k]? = some (.io u) ->
    ∃ s',cV C u=some s'/\Rel K M P H0 σ0 σ (f.set j s') (ts++kp) Y/\∀ {ys:List V}{D:List PyData},DNs K (Nw M (aI σ f (ts++kp))) H3 ys D->DNs K (Nw M (aI σ f (ts++kp))) Y ys D:=λ{X b3 t3 Y u} Z e6=>by
   obtain⟨x6,e7,m7⟩:=Z.slot e6
   have e8:=Z.ios _ _ e6
   have a7:(dG σ ix)[k]? = some (some (.ref a)):=by
    unfold dG
    rw[Ic,hk]
    show some ((σ[j]?).join)=_
    rw[ea];rfl
   rw[e7,a7] at e8
   cases e8
   obtain⟨a',b6,z,c4,c5,_⟩:=Z.e.io _ _ m7
   cases z
   obtain⟨x,A,B,e3,E,S⟩:=t.split U
   rw[ea] at e3
   cases e3
   have c6:∃ s',cV C u=some s'/\A4 s u s':=by
    obtain⟨d0,rfl⟩|⟨d0,rfl⟩:(∃ d0,C=.ow d0)\/∃ d0,C=.io d0:=(cS (jk es).1).imp (λ⟨d,e,_⟩=>⟨d,e⟩) λ⟨d,e,_⟩=>⟨d,e⟩
    ·cases es;exact⟨_,rfl,rfl⟩
    ·cases es;exact⟨_,rfl,rfl⟩
   obtain⟨s',n,d3⟩:=c6
   have hE:=t.e
   rw[E] at hE
   have d4:DNs K (Nw M (A++(some (.ref a),s)::B)) Y b6 u:=c5.to λb _ _ z=>.inl (by rw[E];exact z)
   have hM:=hE.muted d3 Z.e.keep Z.e.live c4 d4
   rw[<-S] at hM
   have e9:(f.set j s).set j s'=f.set j s':=List.set_set ..
   refine⟨s',n,⟨by rw[<-e9];exact hM,by simp[o.len],t.vw,λq l2 e'=>?_⟩,λ{ys D} q=>q.keep (Z.e.keep.mono λb z=>?_)⟩
   ·by_cases hj:j=q
    ·subst hj
     rw[Ik N] at e'
     cases e'
     obtain⟨e0,rfl⟩:=sN n
     exact o.ios _ e0 ej
    ·rw[Ii hj] at e'
     exact o.ios q l2 e'
   ·rw[z,<-O es];exact ma
  have b0:=T.keep (aV.same sm)
  refine⟨_,_,_,_,_,[],ds[i],_,λw i m=>(by cases m),rb,dn.to λb _ _ z=>nb b z,tr,λX b1 H4 h4 b4=>?_⟩
  refine⟨_,_,_,_,b1,[],_,b4,h4,λkk b2 H5 h5 I=>?_⟩
  cases kk with
  | false =>
   obtain⟨u,e5,w5⟩:=h5
   obtain⟨s',n,r',kd⟩:=after I e5
   exact⟨D,u,s',n,w5,kd b0,r'⟩
  | true =>
   refine⟨_,_,_,_,b2,[],_,I,h5,λs6 b3 v Y h6 L=>?_⟩
   obtain⟨d,u,e4,e6,w6⟩:=h6
   obtain⟨s',n,r',kd⟩:=after L e6
   have f0:=L.kept (ts:=[]) (tt:=[]++[(v,s6)]) (v:=v) (s:=s6) (by simp) e4
   exact⟨D++[d],u,s',n,w6,(kd b0).app (.cons (f0.to λb _ _ z=>.inl (by rw[O es];exact z)) .nil),r'⟩
 ·have e:i=ds.length:=by omega
  subst e
  refine .inl ⟨io.stop r,λp hp=>?_⟩
  obtain⟨s',n,hR⟩:=done _ _ w2
  rw[es] at n
  cases n
  exact hq _ _ _ _ hR (r.resOw hp (by rw[O es];exact T))
end
section
variable {K:PySem.W.Frag}{X:Cx}{N':List Str}{ix:List (Option Nat)}{sc:Kc}{tg iter elt:Expr}{ifs:List Expr}{pos:Pos}{it:DI}{g:DG}{tt:DT}{te:DE}
theorem cO (hc:X.calm=true) (S:bS X.N X.env N' ix sc) (hi:PI X tg iter (upI K it))
  (a:∀ s H C fp,PG (bCx X N' sc s H C fp) tg (upG K g)) (b:∀ s H C fp,PIf (bCx X N' sc s H C fp) ifs (upT K tt)) (c:∀ s H C fp,PE (bCx X N' sc s H C fp) elt (up K te))
  (d:∀ x,J9 iter X.env x=pure x:=by intro _;rfl):PE X (.ListComp elt [⟨tg,iter,ifs,0⟩] sc pos) (up K (rK it ix g tt te)):=(tM hc S hi a b c d).imp uV
theorem yh {i:Nat}{t:TE}{c:DE} (h:∀ σ H Q,up K c σ H Q->t σ H Q):∀ D σ H,upS K (yS i c) D σ H->Ey t (wS i) D σ H:=λD σ H e=>by
 obtain⟨M,P,H0,σ0,env,ts,DD,nv,b,f,ok⟩:=e
 refine h _ _ _ ⟨M,P,H0,σ0,env,ts,_,b,f,λs1 d k H1 h1 a=>?_⟩
 obtain⟨s',g,es,j⟩:=h1
 obtain⟨r,cs⟩:=a.unVw es
 exact ok.nx _ _ _ j (r.store nv g cs)
theorem dU {i:Nat}{y:Str}{a d:Pos} (e:X.N.Nodup) (b:X.N[i]? = some y) (f:X.env.scope.names.lookup y=some .local) (hc:X.calm=true) (S:bS X.N X.env N' ix sc) (hi:PI X tg iter (upI K it))
  (h:∀ s H C fp,PG (bCx X N' sc s H C fp) tg (upG K g)) (j:∀ s H C fp,PIf (bCx X N' sc s H C fp) ifs (upT K tt)) (k:∀ s H C fp,PE (bCx X N' sc s H C fp) elt (up K te))
  (c:K5 (.ListComp elt [⟨tg,iter,ifs,0⟩] sc pos) (some (.Name y d)) a.line X.env=pure true:=by rfl)
  (l:∀ x,J9 iter X.env x=pure x:=by intro _;rfl):PS X (.Assign [.Name y d] (.ListComp elt [⟨tg,iter,ifs,0⟩] sc pos) a) (upS K (yS i (rK it ix g tt te))):=(jp e b f hc S hi h j k c l).imp (yh uV)
theorem qT {i:Nat}{y:Str}{a d:Pos} (k j:Nat) (hk:ix[k]? = some (some j)) (e:X.N.Nodup) (b:X.N[i]? = some y) (f:X.env.scope.names.lookup y=some .local) (hc:X.calm=true) (S:bS X.N X.env N' ix sc) (hi:PI X tg iter (upI K it))
  (h:∀ s H C fp,PG (bCx X N' sc s H C fp) tg (upG K g)) (l:∀ s H C fp,PIf (bCx X N' sc s H C fp) ifs (upT K tt)) (m:∀ s H C fp,PE (bCx X N' sc s H C fp) elt (up K te))
  (c:K5 (.ListComp elt [⟨tg,iter,ifs,0⟩] sc pos) (some (.Name y d)) a.line X.env=pure true:=by rfl)
  (n:∀ x,J9 iter X.env x=pure x:=by intro _;rfl):PS X (.Assign [.Name y d] (.ListComp elt [⟨tg,iter,ifs,0⟩] sc pos) a) (upS K (yS i (qp k j it ix g tt te))):=(jp e b f hc S hi h l m c n).imp (yh (xt hk))
end
noncomputable def vE:PyData->Option Bool
 | .none=>some false
 | .bool b=>some b
 | .int i=>some (i != 0)
 | .list ds=>some (!ds.isEmpty)
 | .tuple ds=>some (!ds.isEmpty)
 | _=>none
section
variable {K:PySem.W.Frag}{M P N:Addr->Prop}{H0 H:Hp}{σ0 σ:St}{env:List Sl}{ts:List (V×Sl)}{v:V}{s:Sl}{d:PyData}{X:Cx}{pos p:Pos}{e e1 e2 a:Expr}{es:List Expr}{te tj:DE}
theorem DNs.emp {vs:List V}{ds:List PyData} (q:DNs K N H vs ds):vs.isEmpty=ds.isEmpty:=by cases q <;> rfl
theorem Vw.tru (w:Vw K N H v d) {k:Bool} (e:vE d=some k):EW K v H k:=by
 cases d with
 | none=>cases e;rw[w.none];rfl
 | bool b=>cases e;rw[w.bool];rfl
 | int b=>cases e;rw[w.int];rfl
 | list ds =>
  cases e
  obtain⟨a,vs,rfl,s,q⟩:=w.list
  exact .inl ⟨vs,s,by rw[q.emp]⟩
 | tuple ds =>
  cases e
  obtain⟨a,vs,rfl,s,q⟩:=w.tuple
  exact .inr (.inl ⟨vs,s,by rw[q.emp]⟩)
 | _=>cases e
noncomputable def l9 (te:DE):DT:=λenv R=>te env λs a=>∃ d k,aP a s=some d/\vE d=some k/\R k a
theorem pi (hK:X.K=K) (g:PE X a (up K te)) (i:∀ b,Qk a X.env b=(do let v <-b;KD a.pos;Kk [v] (QE v)):=by intro _;rfl):PT X a (upT K (l9 te)):=(yA (K:=K) hK g i).imp λσ H Q h=>by
 obtain⟨M,P,H0,σ0,env,ts,R,e,j,l⟩:=h
 refine⟨M,P,H0,σ0,env,ts,_,e,j,λs1 f m H1 h1 c=>?_⟩
 obtain⟨d,k,e1,e2,n⟩:=h1
 exact⟨k,(c.view (v:=m) (by simp) e1).tru e2,l _ _ _ n c.drop⟩
noncomputable def j8:PyData->String
 | .none => "NoneType"
 | .bool _ => "bool"
 | .int _ => "int"
 | .str _ => "str"
 | .list _ => "list"
 | .tuple _ => "tuple"
 | .dict _ => "dict"
inductive mG (K:PySem.W.Frag) (H:Hp):V->String->Prop
 | non:mG K H .non "NoneType"
 | bl (b:Bool):mG K H (.bl b) "bool"
 | int (b:Int):mG K H (.int b) "int"
 | str (b:Str):mG K H (.str b) "str"
 | lst {a:Addr}{xs:List V}:SqL K H a xs->mG K H (.ref a) "list"
 | tup {a:Addr}{xs:List V}:SqT K H a xs->mG K H (.ref a) "tuple"
theorem xy (hK:X.K=K):fw X (.builtin "isinstance") (λxs H Q=>∃ (x:V) (t n:String) (b:Bool),xs=[x,.ty n]/\mG K H x t/\PySem.W.kitOne K (.type t) (.type n)=some b/\Q (.bl b) H):=by
 subst hK
 intro pins s σ H xs us Q I r h
 obtain⟨x,t,n,b,rfl,ty,e,q⟩:=h
 obtain⟨u,w',rfl,c,d⟩:=sr r
 cases (show w'=Value.type n from d)
 have fin:∀ tk,EP X pins σ Q (.bool b) { s with toks:=tk }:=λtk=>⟨.bl b,H,I.tok tk,rfl,q⟩
 cases ty with
 | non=>cases (show u=Value.none from c);exact PySem.W.kia_one PySem.W.kitx_none I.kIn True.intro e (λz=>nomatch z) fin
 | bl y=>cases (show u=Value.bool y from c);exact PySem.W.kia_one PySem.W.kitx_bool I.kIn True.intro e (λz=>nomatch z) fin
 | int i=>obtain⟨t,q⟩:=(show ∃ t,u=Value.int i t from c);cases q;exact PySem.W.kia_one PySem.W.kitx_int I.kIn True.intro e (λz=>nomatch z) fin
 | str y=>obtain⟨t,q⟩:=(show ∃ t,u=Value.str y t from c);cases q;exact PySem.W.kia_one PySem.W.kitx_str I.kIn True.intro e (λz=>nomatch z) fin
 | @lst a xs f =>
  cases (show u=Value.ref a from c)
  obtain⟨g,_,⟨o,j,h1,h2,_,_⟩,_⟩:=I.list f
  exact PySem.W.kia_one PySem.W.kitx_list I.kIn ⟨o,h1,h2⟩ e (λz=>nomatch z) fin
 | @tup a xs f =>
  cases (show u=Value.ref a from c)
  obtain⟨g,_,⟨o,h1,h2,_⟩,_⟩:=I.tuple f
  exact PySem.W.kia_one PySem.W.kitx_tuple I.kIn ⟨o,h1,h2⟩ e (λz=>nomatch z) fin
noncomputable def isK (n:String) (d:PyData):Bool:=(j8 d==n) || (n == "int" && j8 d == "bool")
theorem AV (d:PyData):PySem.W.kitOne K (.type (j8 d)) (.type "int")=some (isK "int" d):=by cases d <;> rfl
theorem wA (d:PyData):PySem.W.kitOne K (.type (j8 d)) (.type "bool")=some (isK "bool" d):=by cases d <;> rfl
theorem pH (d:PyData):PySem.W.kitOne K (.type (j8 d)) (.type "list")=some (isK "list" d):=by cases d <;> rfl
theorem ul (d:PyData):PySem.W.kitOne K (.type (j8 d)) (.type "tuple")=some (isK "tuple" d):=by cases d <;> rfl
theorem Vw.kind (w:Vw K N H v d) (hd:∀ kvs,d≠.dict kvs):mG K H v (j8 d):=by
 cases d with
 | none=>rw[w.none];exact .non
 | bool b=>rw[w.bool];exact .bl b
 | int b=>rw[w.int];exact .int b
 | str b=>cases w with|dn h=>cases h
 | list ds=>obtain⟨a,vs,rfl,s,q⟩:=w.list;exact .lst s
 | tuple ds=>obtain⟨a,vs,rfl,s,q⟩:=w.tuple;exact .tup s
 | dict kvs=>exact absurd rfl (hd kvs)
noncomputable def AA:PyData->Bool
 | .dict _=>false
 | _=>true
theorem AA.no {d:PyData} (h:AA d=true):∀ kvs,d≠.dict kvs:=λkvs e=>by subst e;cases h
noncomputable def dIs (n:String) (te:DE):DE:=λenv R=>te env λs a=>∃ d,aP a s=some d/\AA d=true/\R (.fr (.bool (isK n d))) a
theorem tp {n:Str}{T:String}{c:Pos} (hK:X.K=K) (e:∀ d,PySem.W.kitOne K (.type (j8 d)) (.type T)=some (isK T d)) (t:Gl X "isinstance") (u:X.mg "isinstance" = none) (f:Gl X n) (g:X.mg n=none) (i:Kh n=some (.type T)) (x:PE X a (up K te))
  (q:kq [a,.Name n c] X.env=(false,eval a X.env)::kq [.Name n c] X.env:=by rfl) (j:kq [.Name n c] X.env=(false,eval (.Name n c) X.env)::kq [] X.env:=by rfl)
  (k:n ≠ "__name__" := by decide) (l:(n==("__debug__" : Str))=false:=by decide) (m:(J0 pos (kq [.Name n c] X.env)).any (·.1)=false:=by rfl) :
  PE X (.Call (.Name "isinstance" p) [a,.Name n c] [] pos) (up K (dIs T te)) :=
 (jQ (xy hK) t u PyProof.Rows.boot_isinstance (f8 x (f8 (Aw (v:=.ty T) f g i rfl k l) ln j) q) (by decide) (by decide) q m).imp λσ H Q h=>by
 obtain⟨M,P,H0,σ0,env,ts,R,o,y,z⟩:=h
 refine⟨M,P,H0,σ0,env,ts,_,o,y,λs1 r s H1 h1 b=>?_⟩
 obtain⟨d,e1,nd,A⟩:=h1
 have w:=b.view (v:=s) (by simp) e1
 exact⟨s,j8 d,T,isK T d,rfl,w.kind (AA.no nd),e d,z _ _ _ _ A (b.drop.addFr (.bl _))⟩
noncomputable def uN (i:Nat) (tj te:DE):DS:=λDD env=>te env λs b=>(∃ ds,(b[i]?).bind iW=some ds)/\tj b λe a=>∃ d c ds z j s',aC a s=some d/\aP a e=some (.int z)/\a[i]? = some c/\iW c=some ds/\ixN ds.length z=some j /\
 cV c (ds.set j d)=some s'/\DD.nx (a.set i s')
theorem DNs.set:∀ {vs:List V}{ds:List PyData}{x:V}{d:PyData} (j:Nat),DNs K N H vs ds->DN K N H x d->DNs K N H (vs.set j x) (ds.set j d)
 | _,_,_,_,_,.nil,_=>.nil
 | _,_,_,_,0,.cons _ q,h=>.cons h q
 | _,_,_,_,j+1,.cons g q,h=>.cons g (q.set j h)
theorem zT (i:Nat) {y:Str}{npos b:Pos}{j:Expr} (A:X.N[i]? = some y) (hj:PE X j (up K tj)) (B:PE X e (up K te))
  (C:Vis X.env.scope y:=by first|exact Or.inl rfl|exact Or.inr (Or.inl rfl)|exact Or.inr (Or.inr rfl)) (hd:(y==("__debug__" : Str))=false:=by decide)
  (o:(y==("__classdict__" : Str))=false:=by decide)
  (E:∀ v,Kv (.Subscript (.Name y npos) j b) X.env v=(do
   let ov <-Kk [v] (eval (.Name y npos) X.env)
   let iv <-Kk [v,ov] (eval j X.env)
   KD b
   Kk [v,ov,iv] (Qs ov iv v)
   release [v,ov,iv] []):=by intro _;rfl)
  (F:K0 [.Subscript (.Name y npos) j b] e pos.line X.env=pure false:=by rfl) (hw:K1 [.Subscript (.Name y npos) j b] e X.env=pure none:=by rfl)
  (h1:(J6 [.Subscript (.Name y npos) j b] X.env).map (·.2)=[Kv (.Subscript (.Name y npos) j b) X.env]:=by rfl):PS X (.Assign [.Subscript (.Name y npos) j b] e pos) (upS K (uN i tj te)) :=
 (pj B (tI (cP A C hd o) hj vL E) F hw h1).imp λD σ H h=>by
 obtain⟨M,P,H0,σ0,env,ts,DD,nv,p,G,ok⟩:=h
 refine⟨M,P,H0,σ0,env,ts,_,p,G,λs1 l r H1 h1 f=>?_⟩
 obtain⟨⟨I,J⟩,h1⟩:=h1
 obtain⟨T,L,O⟩:=qC J
 obtain⟨a,vs,t,U,_⟩:=f.mine L O
 refine⟨.ref a,t,M,P,H0,σ0,l,ts++[(r,s1)],_,f,h1,λs2 m w H2 h2 g=>?_⟩
 obtain⟨d,V,ds,z,x,s',k,Q,e2,R,ix,es,S⟩:=h2
 have c:Rel K M P H0 σ0 σ m (ts++[(r,s1),(w,s2)]) H2:=by simpa using g
 obtain⟨W,us,n,u,q⟩:=c.drop.mine e2 R
 rw[t] at n
 cases n
 have dn:=c.kept (v:=r) (s:=s1) (by simp) k
 refine⟨a,us,z,x,rfl,(g.view (v:=w) (by simp) Q).int,u,by rw[q.len];exact ix,ok.nx _ _ _ S (c.drop.mut (ds:=ds) e2 es t (q.set x dn))⟩
noncomputable def mY (env:List Sl):Sl->Option Sl
 | .fr d=>some (.fr d)
 | .ow l=>some (.ow l)
 | .tr S d=>some (.tr S d)
 | .vw i=>(env[i]?).bind λs=>match s with
  | .fr d=>some (.fr d)
  | .ow l=>some (.ow l)
  | _=>none
 | _=>none
noncomputable def gz:Sl->Sl
 | .io l=>.io l
 | _=>.un
noncomputable def i9 (n:Nat) (env:List Sl):List Sl:=(env.take n).map gz
noncomputable def nM (n:Nat) (R:Sl->List Sl->Prop):mH where
 nx := λenv=>R (.fr .none) (i9 n env)
 rt := λs env=>∃ r,mY env s=some r/\R r (i9 n env)
noncomputable def cw (n:Nat) (ss:List Sl):List Sl:=ss++IV (n - ss.length) .un
theorem gY (m:Nat):∀ {vs:List V}{ss:List Sl},vs.length=ss.length->(vs.map some++IV m none).zip (ss++IV m Sl.un)=tmp (vs.zip ss)++IV m (none,Sl.un)
 | [],[],_=>by simp[tmp]
 | v::vs,s::ss,h=>by
  show(some v,s)::(vs.map some++IV m none).zip (ss++IV m Sl.un)=_
  rw[gY m (by simpa using h)]
  rfl
 | [],_::_,h=>by simp at h
 | _::_,[],h=>by simp at h
theorem uc (m:Nat):oas (IV m ((none,Sl.un):Ent))=[]:=by
 unfold oas
 rw[List.flatMap_eq_nil_iff]
 intro e a
 rw[(List.mem_replicate.mp a).2]
 rfl
theorem uC:∀ {vs:List V}{σ:St}{env:List Sl},σ.length=env.length->(∀ (j:Nat) (l:List PyData),env[j]? = some (.io l)->j<vs.length->σ[j]? = (vs[j]?).map some)->(oas (tmp (vs.zip (i9 vs.length env)))).Sublist (oas (σ.zip env))
 | [],σ,env,_,_=>by simp[tmp,oas]
 | v::vs,[],[],_,_=>by simp[tmp,oas,i9]
 | v :: vs,x::σ,s::env,a,h=>by
  have b:=uC (vs:=vs) (σ:=σ) (env:=env) (by simpa using a) λj l e hj=>by
   have:=h (j+1) l (by simpa using e) (by simpa using hj)
   simpa using this
  show(oas ((some v,gz s)::tmp (vs.zip (i9 vs.length env)))).Sublist (oas ((x,s)::σ.zip env))
  rw[ai,ai]
  cases s with
  | io l =>
   have c:=h 0 l rfl (by simp)
   simp at c
   subst c
   exact List.Sublist.append (List.Sublist.refl _) b
  | _ =>
   simp only[gz,iz]
   exact b.trans (List.sublist_append_right _ _)
 | _::_,[],_::_,a,_=>by simp at a
 | _::_,_::_,[],a,_=>by simp at a
theorem Rel.fin {vs:List V}{r:Sl}{n:Nat} (a:Rel K M P H0 (bV N' vs) σ env [(v,r)] H) (hn:n=vs.length) (A:i7 r=true):bf K M P H0 (tmp ((v,r)::vs.zip (i9 n env))) H:=by
 subst hn
 have b:∀ (j:Nat) (l:List PyData),env[j]? = some (.io l)->j<vs.length->σ[j]? = (vs[j]?).map some:=λj l e hj=>by
  rw[a.ios j l e]
  unfold bV
  rw[HY (by simpa using hj),Ic]
 have g:=a.e
 refine g.sub (λx s m=>?_) ?_
 ·rw[eB] at m
  rcases HP.mp m with m|m
  ·cases m
   exact .inl (cX (by simp))
  ·obtain⟨⟨w,s'⟩,m1,e⟩:=HS.mp m
   cases e
   obtain⟨j,hj,e⟩:=Im m1
   rw[JL] at e
   have d:=hj
   rw[Jj] at d
   have e1:vs[j]'(by omega)=w:=(Prod.mk.inj e).1
   have e2:(i9 vs.length env)[j]'(by omega)=s':=(Prod.mk.inj e).2
   have f:j<env.length:=by
    have:(i9 vs.length env).length=min vs.length env.length:=by simp[i9]
    omega
   have e3:s'=gz env[j]:=by
    rw[<-e2]
    simp[i9]
   cases q:env[j] with
   | io l =>
    rw[q] at e3
    subst e3
    have eq:env[j]? = some (.io l):=by rw[Hz f,q]
    have c:=b j l eq (by omega)
    obtain⟨x,h,i⟩:=a.slot eq
    rw[h,Hz (by omega:j<vs.length),e1] at c
    have c:x=some w:=Option.some.inj c
    subst c
    exact .inl i
   | _=>rw[q] at e3;subst e3;exact .inr (.inl rfl)
 ·have nd:=g.nd
  have k:aI σ env [(v,r)]=σ.zip env++[(some v,r)]:=rfl
  rw[k,af] at nd
  obtain⟨o,p,t⟩:=HN.mp nd
  have sub:=uC a.len b
  rw[eB,show((some (v,r).1,(v,r).2):Ent)::tmp (vs.zip (i9 vs.length env))=[(some v,r)]++tmp (vs.zip (i9 vs.length env)) from rfl,af]
  exact HN.mpr ⟨p,o.sublist sub,λx hx y u z=>t y (sub.subset u) x hx z.symm⟩
end
section
variable {K:PySem.W.Frag}{M P:Addr->Prop}{H0 H:Hp}{A B:List Ent}{σ0 σ:St}{env:List Sl}{ts:List (V×Sl)}{v:V}{s:Sl}{d:PyData}
theorem Rel.take {i:Nat}{l:List PyData} (h:Rel K M P H0 σ0 σ env [(v,.vw i)] H) (e:env[i]? = some (.ow l)):Rel K M P H0 σ0 σ (env.set i .un) [(v,.ow l)] H:=by
 obtain⟨x,A,B,e1,q1,E⟩:=h.split e
 have ev:=h.vw v i (by simp)
 rw[e1] at ev
 have ev:x=some v:=Option.some.inj ev
 subst ev
 have z1:aI σ env [(v,.vw i)]=σ.zip env++[(some v,.vw i)]:=rfl
 obtain⟨F,e3,m2⟩:=si h.len e
 have f:(σ.zip env)[i]? = some (some v,.ow l):=by rw[cU,e1,e];rfl
 obtain⟨g,k,r1,n⟩:=fR f
 have c:=h.e
 rw[z1,r1] at c
 have o:aI σ (env.set i .un) [(v,.ow l)]=(g++(some v,.un)::k)++[(some v,.ow l)]:=by
  show σ.zip (env.set i .un)++[(some v,.ow l)]=_
  rw[sf e1,n]
 refine⟨?_,by simp[h.len],λw j m=>(by rw[HD] at m;cases m),λj p a=>?_⟩
 ·rw[o]
  refine c.sub (λx s m=>?_) ?_
  ·rcases HF.mp m with m|m
   ·rcases HF.mp m with m|m
    ·exact .inl (HG _ (HG _ m))
    ·rcases HP.mp m with m|m
     ·cases m;exact .inr (.inl rfl)
     ·exact .inl (HG _ (HA _ (HJ _ m)))
   ·rw[HD] at m
    cases m
    exact .inl (HG _ (HA _ HH))
  ·have nd:=c.nd
   have ov:oas [(some v,Sl.vw i)]=[]:=by rw[ai,iw];rfl
   rw[af,af,ai,ov,Iy] at nd
   have q:oas [(some v,Sl.ow l)]=dL (some v,Sl.ow l):=by rw[ai];simp[oas]
   rw[af,af,ai,iz,q]
   obtain⟨r,t,d⟩:=HN.mp nd
   obtain⟨u,C,D⟩:=HN.mp t
   refine HN.mpr ⟨HN.mpr ⟨r,C,λx hx y b=>d x hx y (HA _ b)⟩,u,λx hx y b z=>?_⟩
   subst z
   rcases HF.mp hx with hx|hx
   ·exact d x hx x (HG _ b) rfl
   ·exact D x b x hx rfl
 ·by_cases hj:i=j
  ·subst hj
   rw[Ik (HI.mp e).1] at a
   cases a
  ·rw[Ii hj] at a
   exact h.ios j p a
theorem Ba {i n:Nat}{l:List PyData} (e:env[i]? = some (.ow l)):i9 n (env.set i .un)=i9 n env:=by
 unfold i9
 apply List.ext_getElem?
 intro j
 rw[Ic,Ic,List.getElem?_take,List.getElem?_take]
 by_cases hj:i=j
 ·subst hj
  rw[Ik (HI.mp e).1,e]
  split <;> rfl
 ·rw[Ii hj]
theorem Rel.told {n:Nat}{r:Sl} (h:Rel K M P H0 σ0 σ env [(v,s)] H) (e:mY env s=some r):∃ env',Rel K M P H0 σ0 σ env' [(v,r)] H/\i9 n env'=i9 n env/\i7 r=true:=by
 cases s with
 | fr d=>cases e;exact⟨env,h,rfl,rfl⟩
 | tr S d=>cases e;exact⟨env,h,rfl,rfl⟩
 | ow l=>cases e;exact⟨env,h,rfl,rfl⟩
 | vw i =>
  have e:(env[i]?).bind _=some r:=e
  cases q:env[i]? with
  | none=>rw[q] at e;cases e
  | some s' =>
   rw[q] at e
   cases s' with
   | fr d =>
    cases e
    have a:gH env (.vw i)=some (.fr d):=by
     show((env[i]?).bind slK).map Sl.fr=_
     rw[q];rfl
    have:=(Rel.unVw (ts:=[]) (by simpa using h) a).1
    exact⟨env,by simpa using this,rfl,rfl⟩
   | ow l=>cases e;exact⟨env.set i .un,h.take q,Ba q,rfl⟩
   | _=>cases e
 | _=>cases e
end
section
variable {P:zb}{w:zf}{K:PySem.W.Frag}{mg:Str->Option Value}{base:Heap}
theorem okD {x:Str}{st:Stmt}{f:Addr}{fd:k0}{N ps:List Str}{k:Nat}{sp:DSp} (F:Fun K x x st f fd) (S:ao N ps (ad st)) (len:∀ ss R,sp ss R->ss.length=ps.length) (L:ps.length<=N.length)
  (y:∀ (cdv:Value) (A:Around) (outer:List Env) (s:Shared) (H:Hp) (E:XK),cJ k (A.deeper (K3 x (ad st) s.heap.objs.size f cdv)) ->
   ∃ t:DS,PSs (qt CX0 P w K mg base N x (ad st) f cdv A outer s H E).nox (cj st) (upS K t)/\∀ ss R,sp ss R->t (nM ps.length R) (cw N.length ss)):bR P w K mg base CX0 (k+1) f fd ps (spD K sp):=by
 refine F.ok S (λvs H Q E h=>?_) λcdv A outer s H vs Q E z h=>?_
 ·obtain⟨M,ss,R,b,_,a,_⟩:=h
  rw[b]
  exact len ss R a
 obtain⟨M,ss,R,b,o,a,p⟩:=h
 have hn:=len ss R a
 obtain⟨t,B,j⟩:=y cdv A outer s H E z
 have C:aI (bV N vs) (cw N.length ss) []=tmp (vs.zip ss)++IV (N.length - vs.length) (none,Sl.un):=by
  show(bV N vs).zip (cw N.length ss)++[]=_
  unfold bV cw
  rw[Iy,<-b]
  exact gY _ b
 refine⟨_,B,M,vq vs ss,H,bV N vs,cw N.length ss,[],nM ps.length R,λw i m=>(by cases m),⟨?_,by simp[bV,cw,b],λw i m=>(by cases m),λi l e=>rfl⟩,j ss R a,⟨λσ' env' H' q r=>?_,λs env' v σ' H' q r=>?_,λσ' env' H' q r=>(show False from q),λσ' env' H' q r=>(show False from q)⟩⟩
 ·rw[C]
  refine o.sub (λx s m=>?_) (by rw[af,uc,Iy];exact o.nd)
  rcases HF.mp m with m|m
  ·exact .inl m
  ·have:=(List.mem_replicate.mp m).2
   cases this
   exact .inr (.inl rfl)
 ·have c:=(Rel.addFr r (v:=.non) (d:=.none) .non)
  have c:Rel K M (vq vs ss) H (bV N vs) σ' env' [(.non,.fr .none)] H':=by simpa using c
  exact p _ _ _ _ q rfl (c.fin (by omega) rfl)
 ·obtain⟨D,G,I⟩:=q
  have r1:Rel K M (vq vs ss) H (bV N vs) σ' env' [(v,s)] H':=by simpa using r
  obtain⟨u,c,J,g⟩:=r1.told (n:=ps.length) G
  exact p D _ v H' I g (by rw[<-J];exact c.fin (by omega) g)
theorem G5 {x:Str}{st:Stmt}{f:Addr}{N ps:List Str}{k:Nat}{sp:DSp}{kV doc pm cdv ct oc:Value}{an od:Option Addr}{osl:Array (Option Value)}
  (z:∀ (A:Around) (outer:List Env) (s:Shared) (H:Hp) (E:XK),cJ k (A.deeper (K3 x (ad st) s.heap.objs.size f cdv)) ->
   ∃ t:DS,PSs (qt CX0 P w K mg base N x (ad st) f cdv A outer s H E).nox (cj st) (upS K t)/\∀ ss R,sp ss R->t (nM ps.length R) (cw N.length ss))
  (B:K.lookup f=some ⟨oc,od,.func (PySem.W.fnOf x x (d6 st) (cj st) (ad st) .none kV doc pm an cdv ct),osl⟩) (j:PySem.W.codeIn K cdv x=true) (S:ao N ps (ad st)) (len:∀ ss R,sp ss R->ss.length=ps.length) (O:ps.length<=N.length):bR P w K mg base CX0 (k+1) f (PySem.W.fnOf x x (d6 st) (cj st) (ad st) .none kV doc pm an cdv ct) ps (spD K sp):=by
 refine DP B j S (λvs H Q E h=>?_) λA outer s H vs Q E C h=>?_
 ·obtain⟨M,ss,R,b,_,a,_⟩:=h
  rw[b]
  exact len ss R a
 obtain⟨M,ss,R,b,p,a,u⟩:=h
 have hn:=len ss R a
 obtain⟨t,D,o⟩:=z A outer s H E C
 have F:aI (bV N vs) (cw N.length ss) []=tmp (vs.zip ss)++IV (N.length - vs.length) (none,Sl.un):=by
  show(bV N vs).zip (cw N.length ss)++[]=_
  unfold bV cw
  rw[Iy,<-b]
  exact gY _ b
 refine⟨_,D.nox,M,vq vs ss,H,bV N vs,cw N.length ss,[],nM ps.length R,λw i m=>(by cases m),⟨?_,by simp[bV,cw,b],λw i m=>(by cases m),λi l e=>rfl⟩,o ss R a,⟨λσ' env' H' q r=>?_,λs env' v σ' H' q r=>?_,λσ' env' H' q r=>(show False from q),λσ' env' H' q r=>(show False from q)⟩⟩
 ·rw[F]
  refine p.sub (λx s m=>?_) (by rw[af,uc,Iy];exact p.nd)
  rcases HF.mp m with m|m
  ·exact .inl m
  ·have:=(List.mem_replicate.mp m).2
   cases this
   exact .inr (.inl rfl)
 ·have c:=(Rel.addFr r (v:=.non) (d:=.none) .non)
  have c:Rel K M (vq vs ss) H (bV N vs) σ' env' [(.non,.fr .none)] H':=by simpa using c
  exact u _ _ _ _ q rfl (c.fin (by omega) rfl)
 ·obtain⟨G,I,J⟩:=q
  have r1:Rel K M (vq vs ss) H (bV N vs) σ' env' [(v,s)] H':=by simpa using r
  obtain⟨y,c,L,g⟩:=r1.told (n:=ps.length) I
  exact u G _ v H' J g (by rw[<-L];exact c.fin (by omega) g)
theorem GK {x:Str}{st:Stmt}{f:Addr}{fd:k0}{k:Nat}{ps:List Str}{sp:DSp} (F:Fun K x x st f fd) (m:mg x=some (.ref f)) (b:a9 K fd ps []) (G:bR P w K mg base CX0 k f fd ps (spD K sp)):Cal P w K mg base x k (spD K sp):=Cal.mk F m b G
end
section
variable {X:Cx}{x:Str}{p pos:Pos}{e:Expr}{es:List Expr}{k:Nat}{sp:DSp}{K:PySem.W.Frag}{tl:DA}
theorem aG (C:Cal X.prog X.w X.K X.mg X.base x k (spD K sp)) (b:cJ k X.A) (c:Gl X x) (d:PA X (e::es) (upA K tl)) (hd:(x==("__debug__" : Str))=false:=by decide)
  (f:kq (e::es) X.env=(false,eval e X.env)::kq es X.env:=by rfl) (a:(J0 pos (kq es X.env)).any (·.1)=false:=by rfl):PE X (.Call (.Name x p) (e::es) [] pos) (up K (uP sp tl)):=(tO C b c d hd f a).imp BL
theorem tu (m:Nat) (C:Cal X.prog X.w X.K X.mg X.base x k (spD K sp)) (b:cJ k X.A) (c:Gl X x) (d:PA X (e::es) (upA K tl)) (hd:(x==("__debug__" : Str))=false:=by decide)
  (f:kq (e::es) X.env=(false,eval e X.env)::kq es X.env:=by rfl) (a:(J0 pos (kq es X.env)).any (·.1)=false:=by rfl):PE X (.Call (.Name x p) (e::es) [] pos) (up K (mf sp m tl)):=(tO C b c d hd f a).imp xC
end
noncomputable def EE:G1:=λd R=>∃ i,d=.int i/\R (.int (-i))
theorem Dj {K:PySem.W.Frag}:∀ (N:Addr->Prop) (H:Hp) (x:V) (d1:PyData) (R:PyData->Prop) (Q:VK),Vw K N H x d1->EE d1 R->(∀ d v,R d->DN K N H v d->Q v H)->(rU λi=>.int (-i)) x H Q:=by
 rintro N H x d R Q w ⟨i,rfl,a⟩ b
 exact⟨i,w.int,b _ _ a (.int _)⟩
noncomputable abbrev li (ns:List Int):List PyData:=ns.map .int
theorem a8 {ds:List PyData}{g:DG}{tb:DS}{DD:mH}{env:List Sl} (W:Nat->List Sl->Prop) (b:W 0 env)
  (c:∀ i env,(h:i<ds.length)->W i env->g ds[i] env λa=>tb { DD with nx:=dI (W (i+1)) ⟨⟩,ct:=dI (W (i+1)) ⟨⟩,bk:=DD.nx } a) (hd:∀ env,W ds.length env->DD.nx env):FD ds g tb DD env:=⟨W,b,c,hd⟩
theorem cT {ds:List PyData}{ix:List (Option Nat)}{g:DG}{te:DE}{env:List Sl}{R:Sl->List Sl->Prop} (f:Nat->PyData) (hz:ds.length<=1000000)
  (h : ∀ i,(h:i<ds.length)->∀ Q:PyData->Prop,Q (f i)->g ds[i] (fC ix env) λb=>te b λs c=>∃ d,aC c s=some d/\Q d) (e:R (.ow ((List.range ds.length).map f)) env):CD ds ix g Bt te env R:=by
 refine⟨λi a=>a=(List.range i).map f/\i<=ds.length,⟨rfl,Ig _⟩,λi a hi w=>?_,λa w=>by rw[w.1];exact e⟩
 obtain⟨rfl,_⟩:=w
 refine⟨by rw[HC,Io];exact HV (by omega) au,?_⟩
 have:=h i hi (λd=>(List.range i).map f++[d]=(List.range (i+1)).map f/\i+1<=ds.length) ⟨by rw[JS,Il];rfl,hi⟩
 simpa only[Bt,if_true] using this
theorem d7 {ds:List PyData}{ix:List (Option Nat)}{g:DG}{tt:DT}{te:DE}{env:List Sl}{R:Sl->List Sl->Prop} (p:Nat->Bool) (f:Nat->PyData) (hz:ds.length<=1000000)
  (h : ∀ i,(h:i<ds.length)->∀ (Q:PyData->Prop) (b:Prop),(p i=true->Q (f i))->(p i=false->b)->g ds[i] (fC ix env) λc=>tt c λk j=>if k=true then te j λs l=>∃ d,aC l s=some d/\Q d else b)
  (m:R (.ow (((List.range ds.length).filter p).map f)) env):CD ds ix g tt te env R:=by
 refine⟨λi a=>a=((List.range i).filter p).map f/\i<=ds.length,⟨rfl,Ig _⟩,λi a hi w=>?_,λa w=>by rw[w.1];exact m⟩
 obtain⟨rfl,_⟩:=w
 refine⟨?_,?_⟩
 ·have:=Jd p (List.range i)
  rw[Io] at this
  rw[HC]
  exact HV (by omega) au
 ·refine h i hi _ _ (λe=>⟨?_,hi⟩) (λe=>⟨?_,hi⟩)
  ·rw[JS,Jr,Il]
   simp[e]
  ·rw[JS,Jr,Il]
   simp[e]
noncomputable def Bg (i:Int):Prop:=i.natAbs<2 ^ 8000
noncomputable def BT (i j:Int):Prop:=Bg i/\Bg j
noncomputable def Go (i j:Int):Prop:=0<j/\Bg j
theorem BT.ok {i j:Int} (h:BT i j):IntMulOk i j:=by
 have up:∀ x:Int,Bg x->Builtin.Int.intBits x<=2 ^ 20:=λx hx=>by
  refine PySem.intBits_le_iff.mpr (HV hx (Jh (by decide) (by decide)))
 exact IntMulOk.of_bits (up _ h.1) (up _ h.2)
theorem Bg.log {j:Int} (h:Bg j):j.natAbs.log2<9000:=by
 by_cases a:j.natAbs=0
 ·rw[a];decide
 ·have h1:=Nat.log2_self_le a
  have h:j.natAbs<2 ^ 8000:=h
  have h2:(2:Nat) ^ j.natAbs.log2<2 ^ 8000:=JD h1 h
  have b:=(Nat.pow_lt_pow_iff_right (by decide:1<2)).mp h2
  exact Nat.lt_trans b (by decide)
section
variable {X:Cx}{K:PySem.W.Frag}
theorem dX:OpR X (Ky .Mult) (rI BT λi j=>.int (i*j)):=opI λ_ _ _ _ _ _ _ hc q=>mul_int q hc.ok
theorem bM:OpR X (Ky .FloorDiv) (rI Go λi j=>.int (i / j)):=opI λi j _ _ _ _ _ hc q=>by
 refine floordiv_int (Int.ne_of_gt hc.1) ?_ (.inl (PyProof.noPylong_of_log2 hc.2.log))
 rw[Int.fdiv_eq_ediv_of_nonneg _ (Int.le_of_lt hc.1)]
 exact q
theorem im (ns:List Int):∀ n,n<=ns.length->preSum (λi=>ns.getD i 0) n=(ns.take n).sum
 | 0,_=>rfl
 | n+1,h=>by
  rw[preSum,im ns n (by omega),List.take_add_one,JT,Hz (by omega:n<ns.length)]
  simp[HB,Hz (by omega:n<ns.length)]
theorem uX (hK:X.K=K) (hc:X.calm=true):fw X (.builtin "sum") (λxs H Q=>∃ (p:Addr) (ns:List Int),xs=[.ref p]/\SqL K H p (ns.map V.int)/\Q (.int ns.sum) H):=by
 subst hK
 intro pins s σ H xs us Q I r h
 obtain⟨p,ns,rfl,n,q⟩:=h
 obtain⟨u,rfl,y⟩:=hV r
 cases (show u=Value.ref p from y)
 obtain⟨a,m,z,_⟩:=I.list n
 have g:=z.isList
 have k:p<s.heap.objs.size:=by obtain⟨_,e,_⟩:=g;exact HL e
 have hsz:a.toArray.size=ns.length:=by
  have:=m.length
  simp at this ⊢
  omega
 have W:=(Walks.list (prog:=X.prog) (w:=X.w) (A:=X.A.in1) (I.ok.hd hc) s.heap.objs.size p (HZ k) a.toArray).toS
 rw[hsz] at W
 refine call_sum_walkAnyS (Kn g ?_)
 refine⟨s.heap.objs.size,_,_,_,_,_,_,λi=>ns.getD i 0,rfl,W,⟨⟨_,HR _ rfl,rfl,rfl⟩,g.push _⟩,λb d=>?_,λi v c=>?_,λs' t' j=>?_⟩
 ·rcases HP.mp d with rfl|d
  ·exact HL (HR _ rfl)
  ·obtain rfl:=HD.mp d
   exact HL (HE _ (id g).choose_spec.1)
 ·have c:a.toArray[i]? = some v:=c
  have c:a[i]? = some v:=by simpa using c
  have hi:i<a.length:=(HI.mp c).1
  have f:i<ns.length:=by simp at hsz;omega
  obtain⟨u,e1,⟨t,e2⟩⟩:=m.get (i:=i) (x:=.int ns[i]) (by rw[Ic,Hz f];rfl)
  rw[c] at e1
  cases e1
  refine⟨t,?_⟩
  rw[e2]
  show _=Value.int (ns.getD i 0) t
  rw[HB,Hz f]
  rfl
 ·obtain⟨h',g',d',B,l⟩:=s'
  have e1:g'=s.gens:=j.gens
  have e2:d'=s.drawn:=j.drawn
  have e3:l=s.os:=j.os
  subst e1 e2 e3
  have ep:=im ns ns.length (HK _)
  rw[List.take_length] at ep
  rw[ep]
  exact⟨.int ns.sum,H,I.kept λb o e=>j.heap b o (λd=>absurd (HL e) ((HD.mp d)▸IU _)) (HE _ e),⟨_,rfl⟩,q⟩
noncomputable def ED:GB:=λds R=>∃ es ns,ds=[.list es]/\bN es=some ns/\R (.int ns.sum)
theorem G6:iS K (λxs H Q=>∃ (p:Addr) (ns:List Int),xs=[.ref p]/\SqL K H p (ns.map V.int)/\Q (.int ns.sum) H) ED:=by
 rintro N H xs ds R Q w ⟨es,ns,rfl,e1,b⟩ c
 cases w with
 | cons d e =>
  cases e
  obtain⟨a,vs,rfl,s,q⟩:=d.list
  rw[dE e1] at q
  rw[q.ints] at s
  exact⟨a,ns,rfl,s,c _ _ b (.int _)⟩
end
end _L
namespace _L
open PySem
theorem Bg.of {i:Int} (h1:-1000000000000000000000000000000000000000000000<=i) (h2:i<=1000000000000000000000000000000000000000000000):Bg i:=by
 have h:i.natAbs<2 ^ 200:=by
  have:(2:Nat) ^ 200=1606938044258990275541962092341162602522202993782792835301376:=by decide
  rw[this]
  omega
 exact HV h (Jh (by decide) (by decide))
end _L
namespace _L
open PySem PySem.Spec PyProof.Rows
section
variable (env:List Sl) (d:PyData) (l:List PyData) (i n:Nat) (s:Sl) (R:Sl->List Sl->Prop)
theorem oH:aP env (.fr d)=some d:=rfl
theorem oF:aP env (.ow l)=some (.list l):=rfl
theorem oG:aP env (.io l)=some (.list l):=rfl
theorem oD:aP env (.vw i)=(env[i]?).bind slD:=rfl
theorem yg:slD (.fr d)=some d:=rfl
theorem ye:slD (.ow l)=some (.list l):=rfl
theorem yf:slD (.io l)=some (.list l):=rfl
theorem yc:slD .un=none:=rfl
theorem yd {S:List Addr}{kvs:List (PyData×PyData)}:slD (.tr S (.dict kvs))=some (.dict kvs):=rfl
theorem oE {S:List Addr}{kvs:List (PyData×PyData)}:aP env (.tr S (.dict kvs))=some (.dict kvs):=rfl
theorem ya:slK (.fr d)=some d:=rfl
theorem x8:slK (.ow l)=none:=rfl
theorem x9:slK (.io l)=none:=rfl
theorem x5:slK .un=none:=rfl
theorem lP:aC env (.fr d)=some d:=rfl
theorem lO:aC env (.ow l)=some (.list l):=rfl
theorem lM:aC env (.vw i)=(env[i]?).bind slK:=rfl
theorem oP:gH env (.fr d)=some (.fr d):=rfl
theorem oO:gH env (.ow l)=some (.ow l):=rfl
theorem oN {S:List Addr}:gH env (.tr S d)=some (.tr S d):=rfl
theorem o9 {S:List Addr}:mY env (.tr S d)=some (.tr S d):=rfl
theorem lN {S:List Addr}:aC env (.tr S d)=some d:=rfl
theorem oM:gH env (.vw i)=((env[i]?).bind slK).map .fr:=rfl
noncomputable def Fl:Sl->Option Sl
 | .fr d=>some (.fr d)
 | .ow l=>some (.ow l)
 | _=>none
theorem pe:mY env (.fr d)=some (.fr d):=rfl
theorem pd:mY env (.ow l)=some (.ow l):=rfl
theorem o8:mY env (.vw i)=(env[i]?).bind Fl:=by
 show(env[i]?).bind _=_
 congr 1
theorem sW:Fl (.fr d)=some (.fr d):=rfl
theorem sV:Fl (.ow l)=some (.ow l):=rfl
theorem lX:gz (.fr d)=.un:=rfl
theorem lV:gz (.ow l)=.un:=rfl
theorem lW:gz (.io l)=.io l:=rfl
theorem lU:gz .un=.un:=rfl
theorem pZ:(nM n R).rt s env=∃ r,mY env s=some r/\R r (i9 n env):=rfl
theorem p8:(nM n R).nx env=R (.fr .none) (i9 n env):=rfl
theorem oX:cV (.ow l) d'=some (.ow d'):=rfl
theorem oY:cV (.io l) d'=some (.io d'):=rfl
theorem tR:iW (.ow l)=some l:=rfl
theorem tS:iW (.io l)=some l:=rfl
theorem tT:iW (.fr d)=none:=rfl
theorem tQ:iW .un=none:=rfl
theorem qA:mj (some (.fr d))=.fr d:=rfl
theorem qy:mj (some (.ow l))=.un:=rfl
theorem qz:mj (some (.io l))=.un:=rfl
theorem qx:mj (some .un)=.un:=rfl
theorem mo:Gg env none=.un:=rfl
theorem mn:Gg env (some i)=mj env[i]?:=rfl
theorem jm:eO (.list l)=some l:=rfl
theorem ia:eO (.tuple l)=some l:=rfl
theorem kL:vE .none=some false:=rfl
theorem kO (b:Bool):vE (.bool b)=some b:=rfl
theorem oI (i:Int):vE (.int i)=some (i != 0):=rfl
theorem kM:vE (.list l)=some (!l.isEmpty):=rfl
theorem jg:vE (.tuple l)=some (!l.isEmpty):=rfl
theorem lQ:jv .none=true:=rfl
theorem pO (i:Int):jv (.int i)=false:=rfl
theorem lS (i:Bool):jv (.bool i)=false:=rfl
theorem lR:jv (.list l)=false:=rfl
theorem ju:jv (.tuple l)=false:=rfl
theorem uv (i:Int):isK "int" (.int i)=true:=rfl
theorem pQ (b:Bool):isK "bool" (.bool b)=true:=rfl
theorem yG (b:Bool):isK "int" (.bool b)=true:=rfl
theorem yI (i:Int):isK "bool" (.int i)=false:=rfl
theorem pP:isK "list" (.list l)=true:=rfl
theorem lT:isK "tuple" (.tuple l)=true:=rfl
theorem yC:isK "list" (.tuple l)=false:=rfl
theorem yB:isK "tuple" (.list l)=false:=rfl
theorem yE:isK "int" .none=false:=rfl
theorem yH:isK "bool" .none=false:=rfl
theorem iF:bp env []=some []:=rfl
theorem gy (s:Sl) (ss:List Sl):bp env (s::ss)=(aC env s).bind λd=>(bp env ss).bind λds=>some (d::ds):=rfl
theorem je:fE env []=some []:=rfl
theorem hJ (s:Sl) (ss:List Sl):fE env (s::ss)=(aP env s).bind λd=>(fE env ss).bind λds=>some (d::ds):=rfl
theorem pX (i j:Int):PyData.eqv (.int i) (.int j)=decide (i=j):=by
 show(i==j)=_
 by_cases h:i=j <;> simp[h]
end
theorem zc {α:Type} (x:α) (l:List α):atI (x::l) 0=some x:=cF (j:=0) rfl
theorem za {α:Type} (x y:α) (l:List α):atI (x::y::l) 1=some y:=cF (j:=1) rfl
theorem y9 {α:Type} (x y z:α) (l:List α):atI (x::y::z::l) 2=some z:=cF (j:=2) rfl
theorem y7 {α:Type} (a b c d x:α) (l:List α):atI (a::b::c::d::x::l) 4=some x:=cF (j:=4) rfl
theorem y6 {α:Type} (a b c d e x:α) (l:List α):atI (a::b::c::d::e::x::l) 5=some x:=cF (j:=5) rfl
theorem y4 {α:Type} (a b c d e f x:α) (l:List α):atI (a::b::c::d::e::f::x::l) 6=some x:=cF (j:=6) rfl
theorem y3 {α:Type} (a b c d e f g x:α) (l:List α):atI (a::b::c::d::e::f::g::x::l) 7=some x:=cF (j:=7) rfl
theorem pW:PyData.eqv .none .none=true:=rfl
theorem yN (i:Int):PyData.eqv .none (.int i)=false:=rfl
theorem yO (i:Int):PyData.eqv (.int i) .none=false:=rfl
theorem sM (i:Int):shp (.int i)=True:=by simp[shp,SeqAt.shaped,PySem.PyData.canLay0,PySem.PyData.depth]
theorem oV:shp .none=True:=by simp[shp,SeqAt.shaped,PySem.PyData.canLay0,PySem.PyData.depth]
theorem oW (b:Bool):shp (.bool b)=True:=by simp[shp,SeqAt.shaped,PySem.PyData.canLay0,PySem.PyData.depth]
theorem y8 {α:Type} (x y z u:α) (l:List α):atI (x::y::z::u::l) 3=some u:=cF (j:=3) rfl
theorem Do {K:PySem.W.Frag}{H:Hp}{a:Addr}{ns:List Int}{E:XK} (d:SqL K H a (ns.map V.int)) {sp:DSp} (h:sp [.fr (.list (li ns))] (λr _=>r=.fr (.bool true))):spD K sp [.ref a] H (λv _=>v=.bl true) E:=by
 have c:DNs K (λ_=>False) H [.ref a] [.list (li ns)]:=.cons (DN.sqL d) .nil
 refine⟨λ_=>False,[.fr (.list (li ns))],_,rfl,ve (ds:=[.list (li ns)]) c (λa z=>z.elim),h,λr f v H' g _ b=>?_⟩
 subst g
 obtain⟨w,e,dn⟩:=b.fr _ _ HH
 cases e
 cases dn
 rfl
theorem EZ {l:PySem.W.OpenLaw}{q:zb}{e:List Str}{m:(Str->Option Value)->Heap->Prop}{o:zf->Heap->Prop}{d:DefRec}{K:Params->PySem.W.Frag}{sp:DSp}{k:Nat} (hk:k<=40) (hn:l.most=some 63) (g:d.params.defaults=[])
  (i:∀ ns:List Int,ns.length<=63->sp [.fr (.list (li ns))] (λr _=>r=.fr (.bool true)))
  (j:∀ (w:zf) (s₀:Shared) (mg mb:Str->Option Value) (h:Heap),PySem.W.Ground q e [] m w s₀ mg mb h->(K w.params).In h->∃ tb:List (Addr×Str),(∀ b q,tb.lookup b=some q->h.get? b=some { cls:=.none,data:=.fields #[] }/\(K w.params).lookup b=none/\∃ c,h.TableAt c b #[])/\∀ T q,iT (K w.params) T q->tb.lookup T=some q)
  (p:∀ (w:zf) (h:Heap),o w h->(K w.params).In h)
  (F : ∀ (w:zf) (mg:Str->Option Value) (fa:Addr) (h:Heap),(K w.params).In h->h.Ns qs mg->mg d.name=some (.ref fa) ->
   ∃ fd:k0,(∀ (s:Shared) (u:Value),Qm s fd ⟨[u],[]⟩ [("_law_script",u)])/\∀ base:Heap,(K w.params).In base->base.Ns qs mg->bR l.prog w (K w.params) mg base CX0 k fa fd ["_law_script"] (spD (K w.params) sp)) :
  PySem.W.WalkO q e m o l.row.toRowW d [] (λf vs=>PySem.call f vs):=by
 refine _L.zB (n:=63) (k:=40) (x := "_law_script") (CX:=λ_=>CX0) (sp:=λw=>spD (K w.params) sp) hn (by decide) g ⟨rfl,by decide,by decide⟩ j p (λw mg fa h a b c=>?_) (λw H a ns t _ v=>Do v (i ns t)) λ_ _ _ _ _ z=>z
 obtain⟨fd,h1,h2⟩:=F w mg fa h a b c
 exact⟨fd,h1,λbase x y=>(h2 base x y).mono hk⟩
noncomputable def Sh (n:Nat) (d:PyData):Prop:=d.canLay0=true/\d.depth<=n
theorem Sh.int (n:Nat) (i:Int):Sh n (.int i):=⟨by simp[PyData.canLay0],by simp[PyData.depth]⟩
theorem Sh.all {n:Nat}:∀ {ds:List PyData},(∀ x∈ds,Sh n x)->PyData.canLayAll0 ds=true/\PyData.depthAll ds<=n
 | [],_=>⟨by simp[PyData.canLayAll0],by simp[PyData.depthAll]⟩
 | d::ds,h=>by
  have h1:=h d HH
  have h2:=Sh.all λx hx=>h x (HJ _ hx)
  refine⟨by rw[PyData.canLayAll0,h1.1,h2.1];rfl,?_⟩
  rw[PyData.depthAll]
  have a:=h1.2
  have b:=h2.2
  omega
theorem Sh.list {n:Nat}{ds:List PyData} (h:∀ x∈ds,Sh n x):Sh (n+1) (.list ds):=by
 obtain⟨a,b⟩:=Sh.all h
 exact⟨by rw[PyData.canLay0];exact a,by rw[PyData.depth];omega⟩
theorem Sh.ints (n:Nat) (ns:List Int):Sh (n+1) (.list (li ns)):=Sh.list λx hx=>by
 obtain⟨i,_,rfl⟩:=HS.mp hx
 exact Sh.int _ _
theorem Sh.shp {n:Nat}{d:PyData} (h:Sh n d) (hn:n<=64):shp d:=by
 show SeqAt.shaped d=true
 unfold SeqAt.shaped
 rw[h.1,decide_eq_true (HQ h.2 hn)]
 rfl
theorem eu {ns:List Int}{k:Nat} (h:k<ns.length):atI (li ns) (k:Int)=some (.int (ns.getD k 0)):=cF (by
 rw[Ic,Hz h,HB,Hz h]
 rfl)
theorem cR {ns:List Int}{i:Nat} (h:i<(li ns).length):(li ns)[i]=.int (ns.getD i 0):=by
 have h':i<ns.length:=by simpa using h
 simp[HB,Hz h']
theorem Dl (ns:List Int) (i:Nat) (x:Int):(li ns).set i (.int x)=li (ns.set i x):=by simp[List.map_set]
theorem AM (ns:List Int) (x:Int):li ns++[.int x]=li (ns++[x]):=by simp
theorem wv (n:Nat) (f:Nat->Int):(List.range n).map (λi=>PyData.int (f i))=li ((List.range n).map f):=by
 show _=List.map _ (List.map _ _)
 rw[Ip]
 rfl
theorem jy {i j:Int} (a:-18446744073709551616<i) (h1:i<18446744073709551616):Ex i j:=.inl ⟨a,h1⟩
theorem yW {i j:Int} (a:-18446744073709551616<j) (h1:j<18446744073709551616):Ex i j:=.inr ⟨a,h1⟩
@[irreducible] def dNx (u:DS):DS:=u
theorem yT (u:DS):dNx u=u:=by unfold dNx;rfl
theorem nx {u:DS}{DD:mH}{env:List Sl} (h:u DD env):dNx u DD env:=by rw[yT];exact h
theorem am {X:Cx}{K:PySem.W.Frag}{st:Stmt}{rest:List Stmt}{t u:DS} (h1:PS X st (upS K t)) (h2:PSs X rest (upS K u)):PSs X (st::rest) (upS K (Ei t (dNx u))):=by rw[yT];exact aj h1 h2
end _L
namespace _L
theorem place {x:Int}{n:Nat} (h:0<n):∃ a:Nat,x % (n:Int)=(a:Int)/\a<n:=by
 have b:=IY x (show(n:Int)≠0 by omega)
 have h1:=IF x (show(0:Int)<n by omega)
 exact⟨(x % (n:Int)).toNat,by omega,by omega⟩
end _L
namespace _L
open PySem PySem.Spec PyProof.Rows
theorem jz (a:Nat->Nat->Bool) (val:Nat->Int) (c:∀ i j,a i j=decide (val i<val j)):∀ n,Kz a n<=n/\∀ i,i<=n->val (Kz a n)<=val i
 | 0=>⟨HK _,λi hi=>by rw[show i=0 by omega];exact Int.le_refl _⟩
 | n + 1=>by
  obtain⟨h1,h2⟩:=jz a val c n
  show(if a (n+1) (Kz a n) then n+1 else Kz a n)<=_/\_
  cases e:a (n+1) (Kz a n) with
  | true =>
   rw[c,decide_eq_true_eq] at e
   refine⟨by simp,λi hi=>?_⟩
   have d:Kz a (n+1)=n+1:=by
    show(if a (n+1) (Kz a n) then n+1 else Kz a n)=_
    rw[c,decide_eq_true e,if_pos rfl]
   rw[d]
   by_cases b:i=n+1
   ·rw[b];exact Int.le_refl _
   ·have:=h2 i (by omega)
    omega
  | false =>
   rw[c,decide_eq_false_iff_not] at e
   refine⟨by simp;omega,λi hi=>?_⟩
   have d:Kz a (n+1)=Kz a n:=by
    show(if a (n+1) (Kz a n) then n+1 else Kz a n)=_
    rw[c,decide_eq_false e]
    rfl
   rw[d]
   by_cases b:i=n+1
   ·rw[b];omega
   ·exact h2 i (by omega)
section
variable {X:Cx}{K:PySem.W.Frag}
theorem uZ (hK:X.K=K) (hc:X.calm=true):fw X (.builtin "min") (λxs H Q=>∃ (p:Addr) (ns:List Int),xs=[.ref p]/\SqL K H p (ns.map V.int)/\ns≠[]/\∀ m,m∈ns->(∀ x∈ns,m<=x)->Q (.int m) H):=by
 subst hK
 intro pins s σ H xs us Q I r h
 obtain⟨p,ns,rfl,C,y,q⟩:=h
 obtain⟨u,rfl,D⟩:=hV r
 cases (show u=Value.ref p from D)
 obtain⟨a,B,E,_⟩:=I.list C
 have n:=E.isList
 have z:p<s.heap.objs.size:=by obtain⟨_,e,_⟩:=n;exact HL e
 have hsz:a.toArray.size=ns.length:=by
  have:=B.length
  simp at this ⊢
  omega
 have g:0<ns.length:=List.length_pos_iff.mpr y
 have W:=(Walks.list (prog:=X.prog) (w:=X.w) (A:=X.A.in1) (I.ok.hd hc) s.heap.objs.size p (HZ z) a.toArray)
 rw[hsz] at W
 have c:∀ (i:Nat) (v:Value),a.toArray[i]? = some v->∃ t,v=Value.int (ns.getD i 0) t:=λi v f=>by
  have f:a[i]? = some v:=by simpa using f
  have hi:i<a.length:=(HI.mp f).1
  have k:i<ns.length:=by simp at hsz;omega
  obtain⟨u,e1,⟨t,e2⟩⟩:=B.get (i:=i) (x:=.int ns[i]) (by rw[Ic,Hz k];rfl)
  rw[f] at e1
  cases e1
  refine⟨t,?_⟩
  rw[e2,HB,Hz k]
  rfl
 refine call_min_walk (Kn n ?_)
 refine⟨s.heap.objs.size,_,_,_,_,_,λi j=>decide (ns.getD i 0<ns.getD j 0),rfl,W,⟨⟨_,HR _ rfl,rfl,rfl⟩,n.push _⟩,λb l=>?_,g,CmpOf.ints_lt (λi=>ns.getD i 0) c,λv h' tk f hk=>?_⟩
 ·rcases HP.mp l with rfl|l
  ·exact HL (HR _ rfl)
  ·obtain rfl:=HD.mp l
   exact HL (HE _ (id n).choose_spec.1)
 ·obtain⟨t,rfl⟩:=c _ _ f
  obtain⟨G,F⟩:=jz (λi j=>decide (ns.getD i 0<ns.getD j 0)) (λi=>ns.getD i 0) (λ_ _=>rfl) (ns.length - 1)
  have d:Kz (λi j=>decide (ns.getD i 0<ns.getD j 0)) (ns.length - 1)<ns.length:=by omega
  refine⟨.int _,H,I.kept λb o e=>hk b o (λl=>absurd (HL e) ((HD.mp l)▸IU _)) (HE _ e),⟨_,rfl⟩,q _ ?_ λx hx=>?_⟩
  ·rw[HB,Hz d]
   exact Ih d
  ·obtain⟨j,hj,rfl⟩:=Im hx
   have:=F j (by omega)
   rwa [show ns.getD j 0=ns[j] by rw[HB,Hz hj];rfl] at this
noncomputable def A5:GB:=λds R=>∃ es ns,ds=[.list es]/\bN es=some ns/\ns≠[]/\∀ m,m∈ns->(∀ x∈ns,m<=x)->R (.int m)
theorem FE:iS K (λxs H Q=>∃ (p:Addr) (ns:List Int),xs=[.ref p]/\SqL K H p (ns.map V.int)/\ns≠[]/\∀ m,m∈ns->(∀ x∈ns,m<=x)->Q (.int m) H) A5:=by
 rintro N H xs ds R Q w ⟨es,ns,rfl,e1,b,c⟩ d
 cases w with
 | cons e f =>
  cases f
  obtain⟨a,vs,rfl,s,q⟩:=e.list
  rw[dE e1] at q
  rw[q.ints] at s
  exact⟨a,ns,rfl,s,b,λm h1 h2=>d _ _ (c m h1 h2) (.int _)⟩
end
theorem yF (l:List PyData):isK "int" (.list l)=false:=rfl
theorem yD (l:List PyData):isK "int" (.tuple l)=false:=rfl
mutual
noncomputable def noL:PyData->Bool
 | .none=>true
 | .bool _=>true
 | .int _=>true
 | .str _=>true
 | .tuple ds=>nC ds
 | _=>false
noncomputable def nC:List PyData->Bool
 | []=>true
 | d::ds=>noL d&&nC ds
end
section
variable {K:PySem.W.Frag}{M P N:Addr->Prop}{H0 H:Hp}{E T:List Ent}{σ0 σ:St}{env:List Sl}{ts tt:List (V×Sl)}{v:V}{s:Sl}{d:PyData}
theorem DN.ot {v:V}{d:PyData} (h:DN K N H v d):noL d=true->OT K N H v d [] :=
 DN.rec (motive_1:=λv d _=>noL d=true->OT K N H v d []) (motive_2:=λv d _=>nC d=true->OTs K N H v d [])
 (λ_=>.non) (λb _=>.bl b) (λi _=>.int i)
 (λ_ _ _ e=>by simp[noL] at e) (λh _ i e=>.tup h (i (by simpa[noL] using e)))
 (λ_ _ _ _ _ _ _ e=>by simp[noL] at e) (λ_ _ _ _ _ e=>by simp[noL] at e) (λ_ _ e=>by simp[noL] at e) (λ_=>.nil)
 (λ{_ _ d ds} _ _ i j e=>by
  have e:(noL d&&nC ds)=true:=e
  rw[HX] at e
  exact .cons (S:=[]) (S':=[]) (i e.1) (j e.2)) h
theorem DNs.ots {v:List V}{d:List PyData} (h:DNs K N H v d):nC d=true->OTs K N H v d []:=DNs.ind (C:=λv d=>nC d=true->OTs K N H v d []) (λ_=>.nil) (λ{_ _ d ds} h _ j e=>by
  have e:(noL d&&nC ds)=true:=e
  rw[HX] at e
  exact .cons (S:=[]) (S':=[]) (h.ot e.1) (j e.2)) h
noncomputable def fzs:List PyData->Option (List PyData)
 | []=>some []
 | .list l::ds=>(fzs ds).map (fzD l::·)
 | _::_=>none
theorem DNs.fzs:∀ {vs:List V}{ds ds':List PyData},DNs K N H vs ds->fzs ds=some ds'->OTs K N H vs ds' []
 | _,_,_,.nil,e=>by cases e;exact .nil
 | _, d::ds,_,.cons h q,e=>by
  cases d with
  | list l =>
   have e:(_L.fzs ds).map (fzD l::·)=some _:=e
   cases e2:_L.fzs ds with
   | none=>rw[e2] at e;cases e
   | some ds2 =>
    rw[e2] at e
    cases e
    exact .cons (S:=[]) (S':=[]) (.fz h) (DNs.fzs q e2)
  | _=>cases e
noncomputable def slF (s:Sl):Option PyData:=match s with
 | .fr d=>if noL d=true then some d else none
 | _=>none
noncomputable def eN (env:List Sl):Sl->Option PyData
 | .fr d=>if noL d=true then some d else none
 | .ow ds=>if nC ds=true then some (.list ds) else (fzs ds).map .list
 | .tr _ d=>some d
 | .vw i=>(env[i]?).bind slF
 | _=>none
noncomputable def ca (env:List Sl):List Sl->Option (List PyData)
 | []=>some []
 | s::ss=>(eN env s).bind λd=>(ca env ss).bind λds=>some (d::ds)
theorem Rel.tree (h:Rel K M P H0 σ0 σ env ts H) (m:(v,s)∈ts) (e:eN env s=some d):OT K (Nw M (aI σ env ts)) H v d (dL (some v,s))/\∀ a∈dL (some v,s),H0 a=none:=by
 have g:((some v,s):Ent)∈aI σ env ts:=cX m
 cases s with
 | fr d' =>
  by_cases c:noL d'=true
  ·have e:(if noL d'=true then some d' else none)=some d:=e
   rw[if_pos c] at e
   cases e
   obtain⟨v',e1,dn⟩:=h.e.fr _ _ g
   cases e1
   rw[dB]
   exact⟨dn.ot c,λa j=>by cases j⟩
  ·have e:(if noL d'=true then some d' else none)=some d:=e
   rw[if_neg c] at e
   cases e
 | ow ds =>
  have e:(if nC ds=true then some (PyData.list ds) else (fzs ds).map .list)=some d:=e
  by_cases c:nC ds=true
  ·rw[if_pos c] at e
   cases e
   obtain⟨a,vs,e1,e2,dn,f⟩:=h.e.ow _ _ g
   cases e1
   exact⟨.lst e2 (dn.ots c),λb k=>by rw[HD.mp k];exact f⟩
  ·rw[if_neg c] at e
   cases e3:fzs ds with
   | none=>rw[e3] at e;cases e
   | some ds' =>
    rw[e3] at e
    cases e
    obtain⟨a,vs,e1,e2,dn,f⟩:=h.e.ow _ _ g
    cases e1
    exact⟨.lst e2 (dn.fzs e3),λb k=>by rw[HD.mp k];exact f⟩
 | tr S d' =>
  cases e
  obtain⟨v',e1,ot,f⟩:=h.e.tr _ _ _ g
  cases e1
  rw[aU]
  exact⟨ot,f⟩
 | vw i =>
  have e:(env[i]?).bind slF=some d:=e
  cases q:env[i]? with
  | none=>rw[q] at e;cases e
  | some s' =>
   rw[q] at e
   cases s' with
   | fr d' =>
    have e:(if noL d'=true then some d' else none)=some d:=e
    by_cases c:noL d'=true
    ·rw[if_pos c] at e
     cases e
     obtain⟨x,e1,m1⟩:=h.slot q
     obtain⟨v',e2,dn⟩:=h.e.fr _ _ m1
     have e3:=h.vw v i m
     rw[e1,e2] at e3
     cases e3
     rw[iw]
     exact⟨dn.ot c,λa j=>by cases j⟩
    ·rw[if_neg c] at e
     cases e
   | _=>cases e
 | _=>cases e
theorem Rel.trees (h:Rel K M P H0 σ0 σ env ts H):∀ {vs:List V}{ss:List Sl}{ds:List PyData},vs.length=ss.length->(∀ p∈vs.zip ss,p∈ts)->ca env ss=some ds->OTs K (Nw M (aI σ env ts)) H vs ds (oas (tmp (vs.zip ss)))/\∀ a∈oas (tmp (vs.zip ss)),H0 a=none
 | [],[],_,_,_,e=>by cases e;exact⟨.nil,λa c=>by cases c⟩
 | v :: vs,s::ss,ds,b,f,e=>by
  unfold ca at e
  cases e1:eN env s with
  | none=>rw[e1] at e;cases e
  | some d =>
   rw[e1] at e
   cases e2:ca env ss with
   | none=>rw[e2] at e;cases e
   | some ds' =>
    rw[e2] at e
    cases e
    obtain⟨a1,a2⟩:=h.tree (v:=v) (f (v,s) (by simp)) e1
    obtain⟨g,i⟩:=h.trees (vs:=vs) (ss:=ss) (by simpa using b) (λp j=>f p (by simp[j])) e2
    have k:oas (tmp ((v::vs).zip (s::ss)))=dL (some v,s)++oas (tmp (vs.zip ss)):=ai _ _
    rw[k]
    exact⟨.cons a1 g,λa c=>(HF.mp c).elim (a2 a) (i a)⟩
 | [],_::_,_,b,_,_=>by simp at b
 | _::_,[],_,b,_,_=>by simp at b
theorem bf.fold (h:bf K M P H0 (E++T) H) (ot:OT K (Nw M (E++T)) H v d (oas T)) (c:∀ a∈oas T,H0 a=none):bf K M P H0 (E++[(some v,.tr (oas T) d)]) H:=by
 have b:oas (E++[(some v,Sl.tr (oas T) d)])=oas (E++T):=by
  rw[af,af,ai,aU]
  simp[oas]
 have ne:Nw M (E++[(some v,Sl.tr (oas T) d)])=Nw M (E++T):=by unfold Nw;rw[b]
 have old:∀ x s,(x,s)∈E++[(some v,Sl.tr (oas T) d)]->(x,s)∈E++T\/(x,s)=(some v,Sl.tr (oas T) d):=λx s m=>by
  rcases HF.mp m with m|m
  ·exact .inl (HG _ m)
  ·exact .inr (HD.mp m)
 refine⟨h.keep,h.live,h.mt,h.pm,λx d' m=>?_,λx d' m=>?_,λx d' m=>?_,λx S d' m=>?_,by rw[b];exact h.nd⟩
 ·rw[ne]
  rcases old _ _ m with m|m
  ·exact h.fr x d' m
  ·cases m
 ·rw[ne]
  rcases old _ _ m with m|m
  ·exact h.ow x d' m
  ·cases m
 ·rw[ne]
  rcases old _ _ m with m|m
  ·exact h.io x d' m
  ·cases m
 ·rw[ne]
  rcases old _ _ m with m|m
  ·exact h.tr x S d' m
  ·cases m
   exact⟨v,rfl,ot,c⟩
theorem tV {p:Addr}{o:HO}{vs:List V}{ds:List PyData}{S:List Addr} (q:OTs K N H vs ds S) (b:H p=none):OTs K N (upd H p o) vs ds S:=q.keep (aV.same (aR.new b)) λa c=>by
 obtain⟨xs,z⟩:=q.lives a c
 rw[aR.new b _ _ z,z]
theorem Rel.resTupT (h:Rel K M P H0 σ0 σ env (ts++tt) H) {p:Addr}{vs:List V}{ds:List PyData} (b:H p=none) (q:OTs K (Nw M (aI σ env (ts++tt))) H vs ds (oas (tmp tt))) (f:∀ a∈oas (tmp tt),H0 a=none) :
  Rel K M P H0 σ0 σ env (ts++[(.ref p,.tr (oas (tmp tt)) (.tuple ds))]) (upd H p (.tup vs)):=by
 have c:=h.newAddr b
 have h':=h.same (aR.new (o:=.tup vs) b)
 have d:=h'.e
 rw[aH] at d q c
 refine h'.drop.withRes (d.fold (.tup (SnT.of aB c) (tV q b)) f) rfl
theorem bf.foldL (h:bf K M P H0 (E++T) H) {p:Addr}{vs:List V}{ds:List PyData} (c:H p=none) (q:OTs K (Nw M (E++T)) H vs ds (oas T)) (k:∀ a∈oas T,H0 a=none):bf K M P H0 (E++[(some (.ref p),.tr (p::oas T) (.list ds))]) (upd H p (.lst vs)):=by
 have j:oas (E++[(some (.ref p),Sl.tr (p::oas T) (.list ds))])=oas E++p::oas T:=by
  rw[af,ai,aU]
  simp[oas]
 have g:p ∉ oas (E++T):=λz=>by
  obtain⟨vs',q,_⟩:=h.own z
  rw[c] at q
  cases q
 have l:H0 p=none:=by
  cases e:H0 p with
  | none=>rfl
  | some o=>exact absurd c (h.live p (by rw[e];simp))
 have up:∀ b o,H b=some o->Nw M (E++[(some (.ref p),Sl.tr (p::oas T) (.list ds))]) b->Nw M (E++T) b:=λb o e z=>by
  rcases z with z|z
  ·exact .inl z
  ·rw[j] at z
   rcases HF.mp z with z|z
   ·exact .inr (by rw[af];exact HG _ z)
   ·rcases HP.mp z with z|z
    ·rw[z,c] at e
     cases e
    ·exact .inr (by rw[af];exact HA _ z)
 have old:∀ x s,(x,s)∈E++[(some (.ref p),Sl.tr (p::oas T) (.list ds))]->(x,s)∈E++T\/(x,s)=(some (.ref p),Sl.tr (p::oas T) (.list ds)):=λx s m=>by
  rcases HF.mp m with m|m
  ·exact .inl (HG _ m)
  ·exact .inr (HD.mp m)
 have h':=h.same (aR.new (o:=.lst vs) c)
 refine⟨h'.keep,h'.live,h.mt,h.pm,λx d' m=>?_,λx d' m=>?_,λx d' m=>?_,λx S d' m=>?_,?_⟩
 ·rcases old _ _ m with m|m
  ·obtain⟨v,e,dn⟩:=h.fr x d' m
   exact⟨v,e,(dn.to up).keep (aV.same (aR.new c))⟩
  ·cases m
 ·rcases old _ _ m with m|m
  ·obtain⟨a,i,e,e2,dn,r⟩:=h.ow x d' m
   exact⟨a,i,e,aR.new c _ _ e2,(dn.to up).keep (aV.same (aR.new c)),r⟩
  ·cases m
 ·rcases old _ _ m with m|m
  ·obtain⟨a,i,e,e2,dn,r⟩:=h.io x d' m
   exact⟨a,i,e,aR.new c _ _ e2,(dn.to up).keep (aV.same (aR.new c)),r⟩
  ·cases m
 ·rcases old _ _ m with m|m
  ·obtain⟨v,e,dn,r⟩:=h.tr x S d' m
   exact⟨v,e,(dn.to up).keep (aV.same (aR.new c)) λa d=>by
    obtain⟨xs,z⟩:=dn.lives a d
    rw[aR.new c _ _ z,z],r⟩
  ·cases m
   exact⟨_,rfl,.lst aB (tV (q.to up) c),λa d=>(HP.mp d).elim (λz=>by rw[z];exact l) (k a)⟩
 ·rw[j]
  have nd:=h.nd
  rw[af] at nd g
  obtain⟨n,t,u⟩:=HN.mp nd
  refine HN.mpr ⟨n,Iu.mpr ⟨λz=>g (HA _ z),t⟩,λa d b f z=>?_⟩
  rcases HP.mp f with f|f
  ·rw[f] at z
   exact g (HG _ (z▸d))
  ·exact u a d b f z
theorem Rel.resLstT (h:Rel K M P H0 σ0 σ env (ts++tt) H) {p:Addr}{vs:List V}{ds:List PyData} (c:H p=none) (q:OTs K (Nw M (aI σ env (ts++tt))) H vs ds (oas (tmp tt))) (d:∀ a∈oas (tmp tt),H0 a=none) :
  Rel K M P H0 σ0 σ env (ts++[(.ref p,.tr (p::oas (tmp tt)) (.list ds))]) (upd H p (.lst vs)):=by
 have b:=h.e
 rw[aH] at b q
 exact h.drop.withRes (b.foldL c q d) rfl
end
section
variable {X:Cx}{K:PySem.W.Frag}{pos:Pos}{es:List Expr}{tl:DA}
noncomputable def Bu (t:DA):DE:=λenv R=>t env λss a=>∃ ds,ca a ss=some ds/\ss.length<=sizeLine/\∀ S,R (.tr S (.tuple ds)) a
theorem CI {x1} (h:PA X es (upA K tl)):PE X (.Tuple es x1 pos) (up K (Bu tl)):=(ym h).imp λσ H Q h=>by
 obtain⟨M,P,H0,σ0,env,ts,R,b,f,g⟩:=h
 refine⟨M,P,H0,σ0,env,ts,_,b,f,λss d vs H1 h1 i a=>?_⟩
 obtain⟨ds,e,hz,j⟩:=h1
 obtain⟨q,k⟩:=a.trees i (λp c=>HA _ c) e
 exact⟨by omega,λp c=>g _ _ _ _ (j _) (a.resTupT c q k)⟩
end
section
variable {K:PySem.W.Frag}{M P:Addr->Prop}{H0 H:Hp}{E:List Ent}{σ0 σ:St}{env:List Sl}{ts:List (V×Sl)}{v:V}{s:Sl}{d:PyData}
theorem wj {E E':List Ent} (p:E'.Perm E):(oas E').Perm (oas E):=List.Perm.flatMap_right _ p
theorem bf.perm (h:bf K M P H0 E H) {E':List Ent} (p:E'.Perm E):bf K M P H0 E' H:=h.sub (λx s m=>.inl (p.mem_iff.mp m)) ((wj p).nodup_iff.mpr h.nd)
theorem Rel.perm (h:Rel K M P H0 σ0 σ env ts H) {a:List (V×Sl)} (p:a.Perm ts):Rel K M P H0 σ0 σ env a H :=
 ⟨h.e.perm (List.Perm.append_left _ (p.map _)),h.len,λv i m=>h.vw v i (p.mem_iff.mp m),h.ios⟩
theorem kP {env env':List Sl}{s:Sl} (h:i7 s=true):eN env s=eN env' s:=by
 cases s <;> first|rfl|cases h
theorem fW {env env':List Sl}:∀ {ss:List Sl},(∀ s∈ss,i7 s=true)->ca env ss=ca env' ss
 | [],_=>rfl
 | s::ss,h=>by
  unfold ca
  rw[kP (env':=env') (h s HH),fW λx hx=>h x (HJ _ hx)]
theorem jh {env:List Sl}{d:PyData}{s:Sl} (e:eN env s=some d):∀ {ss:List Sl}{ds:List PyData},ca env ss=some ds->ca env (ss++[s])=some (ds++[d])
 | [],ds,h=>by
  cases h
  show(eN env s).bind _=_
  rw[e];rfl
 | z :: ss,ds,h=>by
  unfold ca at h
  cases e1:eN env z with
  | none=>rw[e1] at h;cases h
  | some d1 =>
   rw[e1] at h
   cases e2:ca env ss with
   | none=>rw[e2] at h;cases h
   | some ds' =>
    rw[e2] at h
    cases h
    show(eN env z).bind _=_
    rw[e1]
    show(ca env (ss++[s])).bind _=_
    rw[jh e e2]
    rfl
end
noncomputable def CDT (ds:List PyData) (ix:List (Option Nat)) (g:DG) (tt:DT) (te:DE) (env:List Sl) (R:Sl->List Sl->Prop):Prop:=∃ W:Nat->List PyData->Prop,W 0 [] /\
 (∀ i a,(h:i<ds.length)->W i a->a.length<sizeLine/\g ds[i] (fC ix env) λb=>tt b λk c=>if k=true then te c λs e=>∃ s' d,gH e s=some s'/\eN [] s'=some d/\W (i+1) (a++[d]) else W (i+1) a)/\∀ a,W ds.length a->∀ S,R (.tr S (.list a)) env
noncomputable def qo (it:DI) (ix:List (Option Nat)) (g:DG) (tt:DT) (te:DE):DE:=λenv R=>it env λds a=>CDT ds ix g tt te a (dK R ⟨⟩)
section
variable {K:PySem.W.Frag}
theorem xr {it:DI}{ix:List (Option Nat)}{g:DG}{tt:DT}{te:DE}:∀ σ H Q,up K (qo it ix g tt te) σ H Q->sy (upI K it) ix (upG K g) (upT K tt) (up K te) σ H Q:=λσ H Q h=>by
 obtain⟨M,P,H0,σ0,env,ts,R,O,ht,hq⟩:=h
 refine⟨M,P,H0,σ0,env,ts,_,O,ht,λds a J H1 kp hF u io=>?_⟩
 obtain⟨W,w0,A,done⟩:=hF
 let Y:Nat->List V->Hp->Prop:=λi ys H=>∃ r ss,W i r/\ys.length=ss.length/\(∀ s∈ss,i7 s=true)/\ca [] ss=some r/\Rel K M P H0 σ0 σ a ((ts++ys.zip ss)++kp) H
 refine⟨λi m ys H=>m=ds.length - i/\i<=ds.length/\Y i ys H,⟨_,rfl,Ig _,[],[],w0,rfl,λs hs=>(by cases hs),rfl,by simpa using u⟩,?_⟩
 rintro i m ys H2 ⟨rfl,a0,r,ss,Z,B,N,k,f⟩
 have rl:ys.length=r.length:=by
  obtain⟨q,_⟩:=f.trees B (λp C=>HG _ (HA _ C)) ((fW N).trans k)
  exact q.len
 by_cases l:i<ds.length
 ·obtain⟨hz,tr⟩:=A i r l Z
  refine .inr ⟨io.go f i l,by rw[rl];exact hz,λD H'=>Y (i+1) D H',λD H' z=>⟨ds.length - (i+1),by omega,rfl,l,z⟩,λx E y=>?_⟩
  obtain⟨sm,dn⟩:=io.yld f i x E l y
  have c:=f.same sm
  have rb:=nV (ix:=ix) c
  have oe:=kw (ix:=ix) c
  have nb:∀ b,Nw (Nw M (aI σ a ((ts++ys.zip ss)++kp))) (aI (dG σ ix) (fC ix a) []) b->Nw M (aI σ a ((ts++ys.zip ss)++kp)) b:=λb z=>by
   rcases z with z|z
   ·exact z
   ·have ee:aI (dG σ ix) (fC ix a) []=(dG σ ix).zip (fC ix a):=by simp[aI,tmp]
    rw[ee,oe] at z;cases z
  refine⟨_,_,_,_,fC ix a,[],ds[i],_,λw i m=>(by cases m),rb,dn.to λb _ _ z=>nb b z,tr,λF b1 H4 h4 G=>?_⟩
  refine⟨_,_,_,_,b1,[],_,G,h4,λkk b2 H5 h5 n=>?_⟩
  cases kk with
  | false =>
   have k5:aR E H5:=(n.e.keep.mono (M:=N0) λb z=>z).none
   exact⟨r,ss,h5,B,N,k,c.same k5⟩
  | true =>
   refine⟨_,_,_,_,b2,[],_,n,h5,λs b3 v S h6 o=>?_⟩
   obtain⟨s',d,es,td,w6⟩:=h6
   have k6:aR E S:=(o.e.keep.mono (M:=N0) λb z=>z).none
   obtain⟨I,U⟩:=o.unVw (ts:=[]) es
   have rk:dP K (Nw M (aI σ a ((ts++ys.zip ss)++kp))) E S v s':=by
    have X:=I.e
    rw[show aI F b3 ([]++[(v,s')])=aI F b3 []++tmp [(v,s')] from aH] at X
    have e8:bf K _ _ E [(some v,s')] S:=X.sub (λx t m=>.inl (HA _ m)) (by
     have nd:=X.nd
     rw[af] at nd
     exact(HN.mp nd).2.1)
    exact bf.resOk (T:=[]) e8 U
   have L:=c.withRes (c.e.called k6 rk) U
   refine⟨r++[d],ss++[s'],w6,by simp[B],λt j=>?_,jh td k,?_⟩
   ·rcases HF.mp j with j|j
    ·exact N t j
    ·rw[HD.mp j];exact U
   ·rw[List.zip_append B]
    refine L.perm ?_
    have:ts++(ys.zip ss++[v].zip [s'])++kp=(ts++ys.zip ss)++([(v,s')]++kp):=by simp
    rw[this]
    have e9:ts++ys.zip ss++kp++[(v,s')]=(ts++ys.zip ss)++(kp++[(v,s')]):=by simp
    rw[e9]
    exact List.Perm.append_left _ List.perm_append_comm
 ·have e:i=ds.length:=by omega
  subst e
  refine .inl ⟨io.stop f,λp C=>?_⟩
  have c:=f.drop
  obtain⟨q,h0⟩:=c.trees B (λp C=>HA _ C) ((fW N).trans k)
  exact hq _ _ _ _ (done _ Z _) (c.resLstT C q h0)
section
variable {X:Cx}{pos:Pos}{N':List Str}{ix:List (Option Nat)}{it:DI}{g:DG}{tt:DT}{te:DE}{tg iter elt:Expr}{ifs:List Expr}
theorem zZ {sc} (hc:X.calm=true) (S:bS X.N X.env N' ix sc) (hi:PI X tg iter (upI K it))
  (a:∀ s H C fp,PG (bCx X N' sc s H C fp) tg (upG K g)) (b:∀ s H C fp,PIf (bCx X N' sc s H C fp) ifs (upT K tt)) (c:∀ s H C fp,PE (bCx X N' sc s H C fp) elt (up K te))
  (d:∀ x,J9 iter X.env x=pure x:=by intro _;rfl):PE X (.ListComp elt [⟨tg,iter,ifs,0⟩] sc pos) (up K (qo it ix g tt te)):=(tM hc S hi a b c d).imp xr
end
end
noncomputable def B3:Sl->Option PyData
 | .fr d=>some d
 | .ow ds=>some (.list ds)
 | .io ds=>some (.list ds)
 | .tr _ d=>some d
 | _=>none
noncomputable def u4 (env:List Sl):Sl->Option PyData
 | .vw i=>(env[i]?).bind B3
 | .fr d=>some d
 | .ow ds=>some (.list ds)
 | .tr _ d=>some d
 | _=>none
noncomputable def iM (env:List Sl):List Sl->Option (List PyData)
 | []=>some []
 | s::ss=>(u4 env s).bind λd=>(iM env ss).bind λds=>some (d::ds)
noncomputable def atom:PyData->Bool
 | .none=>true
 | .bool _=>true
 | .int _=>true
 | .str _=>true
 | _=>false
section
variable {K:PySem.W.Frag}{M P N:Addr->Prop}{H0 H:Hp}{E:List Ent}{σ0 σ:St}{env:List Sl}{ts:List (V×Sl)}{v:V}{s:Sl}{d:PyData}
theorem DN.atom {a:Addr->Prop}{H2:Hp} (h:DN K N H v d) (e:atom d=true):DN K a H2 v d:=by
 cases h with
 | non=>exact .non
 | bl b=>exact .bl b
 | int i=>exact .int i
 | lst _ _=>cases e
 | tup _ _=>cases e
 | dct _ _ _ _ _=>cases e
 | idc _ _ _ _=>cases e
 | fz _=>cases e
theorem bf.lent {x:Option V} (h:bf K M P H0 E H) (m:(x,s)∈E) (e:B3 s=some d):∃ v,x=some v/\DN K N0 H v d:=by
 cases s with
 | fr d'=>cases e;obtain⟨v,e1,dn⟩:=h.fr _ _ m;exact⟨v,e1,dn.to λb _ _ z=>z.elim⟩
 | ow ds=>cases e;obtain⟨a,vs,e1,e2,dn,_⟩:=h.ow _ _ m;exact⟨_,e1,.lst (SnL.of e2 λz=>z) (dn.to λb _ _ z=>z.elim)⟩
 | io ds=>cases e;obtain⟨a,vs,e1,e2,dn,_⟩:=h.io _ _ m;exact⟨_,e1,.lst (SnL.of e2 λz=>z) (dn.to λb _ _ z=>z.elim)⟩
 | tr S d'=>cases e;obtain⟨v,e1,ot,_⟩:=h.tr _ _ _ m;exact⟨v,e1,ot.dn (λb z=>z.elim) λa _ z=>z⟩
 | _=>cases e
theorem Rel.lentAt (h:Rel K M P H0 σ0 σ env ts H) {i:Nat} (e:(env[i]?).bind B3=some d):∃ v,σ[i]? = some (some v)/\DN K N0 H v d:=by
 cases q:env[i]? with
 | none=>rw[q] at e;cases e
 | some s =>
  rw[q] at e
  obtain⟨x,e1,m⟩:=h.slot q
  obtain⟨v,e2,w⟩:=h.e.lent m e
  exact⟨v,by rw[e1,e2],w⟩
theorem Rel.lent (h:Rel K M P H0 σ0 σ env ts H) (m:(v,s)∈ts) (e:u4 env s=some d):DN K N0 H v d:=by
 cases s with
 | vw i =>
  obtain⟨w,e1,q⟩:=h.lentAt e
  rw[h.vw v i m] at e1
  cases e1
  exact q
 | fr d'=>obtain⟨w,e1,q⟩:=h.e.lent (s:=.fr d') (cX m) e;cases e1;exact q
 | ow d'=>obtain⟨w,e1,q⟩:=h.e.lent (s:=.ow d') (cX m) e;cases e1;exact q
 | tr S d'=>obtain⟨w,e1,q⟩:=h.e.lent (s:=.tr S d') (cX m) e;cases e1;exact q
 | _=>cases e
theorem Rel.lents (h:Rel K M P H0 σ0 σ env ts H):∀ {vs:List V}{ss:List Sl}{ds:List PyData},vs.length=ss.length->(∀ p∈vs.zip ss,p∈ts)->iM env ss=some ds->DNs K N0 H vs ds
 | [],[],_,_,_,e=>by cases e;exact .nil
 | v :: vs,s::ss,ds,a,b,e=>by
  unfold iM at e
  cases e1:u4 env s with
  | none=>rw[e1] at e;cases e
  | some d =>
   rw[e1] at e
   cases e2:iM env ss with
   | none=>rw[e2] at e;cases e
   | some ds' =>
    rw[e2] at e
    cases e
    exact .cons (h.lent (b (v,s) (by simp)) e1) (h.lents (by simpa using a) (λp c=>b p (by simp[c])) e2)
 | [],_::_,_,a,_,_=>by simp at a
 | _::_,[],_,a,_,_=>by simp at a
end
section
variable {X:Cx}{K:PySem.W.Frag}{pos p:Pos}{tl:DA}{sp:DSp}{x:Str}{k:Nat}{e:Expr}{es:List Expr}
noncomputable def F9 (i:Nat):DE:=λenv R=>∃ d,(env[i]?).bind B3=some d/\R (.vw i) env
theorem Fv (i:Nat) {x:Str} (c:X.N[i]? = some x:=by rfl) (f:Vis X.env.scope x:=by first|exact Or.inl rfl|exact Or.inr (Or.inl rfl)|exact Or.inr (Or.inr rfl)) (hd:(x==("__debug__" : Str))=false:=by decide)
  (b:(x==("__classdict__" : Str))=false:=by decide):PE X (.Name x pos) (up K (F9 i)):=(cP c f hd b).imp λσ H Q h=>by
 obtain⟨M,P,H0,σ0,env,ts,R,a,⟨d,e,g⟩,j⟩:=h
 obtain⟨v,e1,_⟩:=a.lentAt e
 exact⟨v,e1,j _ _ _ _ g (a.addVw e1)⟩
noncomputable def qr (sp:DSp) (t:DA):DE:=λenv R=>t env λss a=>∃ ds,iM a ss=some ds/\sp (ds.map .fr) (dK (λr _=>∃ d,r=.fr d/\atom d=true/\R (.fr d) a) ⟨⟩)
theorem xB:∀ σ H Q,up K (qr sp tl) σ H Q->sA (spD K sp) [] E0 (upA K tl) σ H Q:=λσ H Q h=>by
 obtain⟨M,P,H0,σ0,env,ts,R,g,m,n⟩:=h
 refine⟨M,P,H0,σ0,env,ts,_,g,m,λss l vs H1 h1 o c=>?_⟩
 obtain⟨ds,q,i⟩:=h1
 rw[Iy]
 have f:=c.lents o (λp s=>HA _ s) q
 have t:=iC vs ds
 refine⟨N0,ds.map .fr,_,by simp[f.len],ve f λa z=>z.elim,i,λr u v H' j y e=>?_⟩
 obtain⟨d,rfl,x,j⟩:=j
 have k:aR H1 H':=(e.keep.mono (M:=N0) λb z=>by
  have z:b∈oas (tmp (vs.zip (ds.map .fr))):=z
  rw[t] at z
  cases z).none
 obtain⟨w,e1,dn⟩:=e.fr _ _ HH
 cases e1
 exact n _ _ _ _ j ((c.drop.same k).addFr (dn.atom x))
theorem z0 (C:Cal X.prog X.w X.K X.mg X.base x k (spD K sp)) (b:cJ k X.A) (c:Gl X x) (d:PA X (e::es) (upA K tl)) (hd:(x==("__debug__" : Str))=false:=by decide)
  (f:kq (e::es) X.env=(false,eval e X.env)::kq es X.env:=by rfl) (a:(J0 pos (kq es X.env)).any (·.1)=false:=by rfl):PE X (.Call (.Name x p) (e::es) [] pos) (up K (qr sp tl)):=(tO C b c d hd f a).imp xB
end
noncomputable def yo (n:PyData):List Nat->PyData->PyData
 | [],_=>n
 | i::p,.list ds=>.list (match ds[i]? with|some c=>ds.set i (yo n p c)|none=>ds)
 | i::p,.tuple ds=>.tuple (match ds[i]? with|some c=>ds.set i (yo n p c)|none=>ds)
 | _::_,d=>d
inductive vg (K:PySem.W.Frag) (H:Hp):V->List Nat->V->Prop
 | nil {v:V}:vg K H v [] v
 | cons {b:Addr}{xs:List V}{i:Nat}{x u:V}{p:List Nat}:(SqL K H b xs\/SqT K H b xs)->xs[i]? = some x->vg K H x p u->vg K H (.ref b) (i::p) u
section
variable {K:PySem.W.Frag}{N:Addr->Prop}{H:Hp}
noncomputable def zm (K:PySem.W.Frag) (N:Addr->Prop) (H:Hp) (v:V) (p:List Nat) (d:PyData) (S:List Addr) (ds:List PyData):Prop:=∃ a us,vg K H v p (.ref a)/\H a=some (.lst us)/\a∈S/\us.length=ds.length /\
  ∀ {N1:Addr->Prop}{H1:Hp}{w:V}{e:PyData}{c:List Addr},(∀ b o,H b=some o->N1 b->N b)->aR H H1->N1 a->OT K N1 (upd H1 a (.lst (us++[w]))) w e c->∃ S',S'.Perm (S++c)/\OT K N1 (upd H1 a (.lst (us++[w]))) v (yo (.list (ds++[e])) p d) S'
theorem OT.path0 {v:V}{S:List Addr}{ds:List PyData} (o:OT K N H v (.list ds) S) (nd:S.Nodup):zm K N H v [] (.list ds) S ds:=by
 cases o with
 | @lst a us _ c g q =>
  refine⟨a,us,.nil,g,HH,q.len,λ{N1 H1 w e h} m d i j=>?_⟩
  obtain⟨k,p⟩:=Iu.mp nd
  have l:OTs K N1 (upd H1 a (.lst (us++[w]))) us ds c:=(q.to m).keep ((aV.same d).trans (aV.own i)) λb f=>by
   obtain⟨xs,z⟩:=q.lives b f
   have n:b≠a:=λz=>k (z▸f)
   rw[al n,d _ _ z,z]
  exact⟨a::(c++(h++[])),by simp,.lst aB (l.app (.cons j .nil))⟩
end
section
variable {K:PySem.W.Frag}{M P:Addr->Prop}{H0 H:Hp}{T A B:List Ent}{v:V}{d:PyData}
theorem bf.appAtU {U:List Ent}{f:Hp}{S:List Addr}{p:List Nat}{ds:List PyData} (I:bf K M P H0 (A++(some v,.tr S d)::(B++U)) f) (R:OT K (Nw M (A++(some v,.tr S d)::(B++U))) f v d S->S.Nodup->zm K (Nw M (A++(some v,.tr S d)::(B++U))) f v p d S ds):∃ a us,vg K f v p (.ref a)/\f a=some (.lst us)/\us.length=ds.length /\
  ∀ {T:List Ent}{H:Hp}{w:V}{e:PyData},aR f H->(∀ a∈oas T,f a=none\/a∈oas U)->bf K M P H0 (A++(some v,.tr S d)::(B++T)) H->OT K (Nw M (A++(some v,.tr S d)::(B++T))) H w e (oas T)->(∀ a∈oas T,H0 a=none)->∃ S',bf K M P H0 (A++(some v,.tr S' (yo (.list (ds++[e])) p d))::B) (upd H a (.lst (us++[w]))):=by
 obtain⟨v',ev,ot,J⟩:=I.tr _ _ _ (HA _ HH)
 cases ev
 have j:=I.nd
 have k:oas (A++(some v,Sl.tr S d)::(B++U))=oas A++(S++(oas B++oas U)):=by rw[af,ai,aU,af]
 rw[k] at j
 obtain⟨a,us,r,W,l,X,g⟩:=R ot (HN.mp (HN.mp j).2.1).1
 refine⟨a,us,r,W,X,λ{T H w e} Y Z h D hT=>?_⟩
 have C:oas (A++(some v,Sl.tr S d)::(B++T))=oas A++(S++(oas B++oas T)):=by rw[af,ai,aU,af]
 have nd:=h.nd
 rw[C] at nd
 obtain⟨n1,n2,n3⟩:=HN.mp nd
 obtain⟨n4,n5,L⟩:=HN.mp n2
 obtain⟨n7,n8,n9⟩:=HN.mp n5
 have N:Nw M (A++(some v,Sl.tr S d)::(B++T)) a:=.inr (by rw[C];exact HA _ (HG _ l))
 have mm:∀ b o,f b=some o->Nw M (A++(some v,Sl.tr S d)::(B++T)) b->Nw M (A++(some v,Sl.tr S d)::(B++U)) b:=λb o O z=>by
  rcases z with z|z
  ·exact .inl z
  ·rw[C] at z
   refine .inr ?_
   rw[k]
   rcases HF.mp z with z|z
   ·exact HG _ z
   ·rcases HF.mp z with z|z
    ·exact HA _ (HG _ z)
    ·rcases HF.mp z with z|z
     ·exact HA _ (HA _ (HG _ z))
     ·rcases Z b z with E|E
      ·rw[E] at O;cases O
      ·exact HA _ (HA _ (HA _ E))
 have n:aV (Nw M (A++(some v,Sl.tr S d)::(B++T))) H (upd H a (.lst (us++[w]))):=aV.own N
 have F:=D.keep n λb i=>al λz=>L a l b (HA _ i) z.symm
 obtain⟨S',pm,G⟩:=g mm Y N F
 refine⟨S',?_⟩
 have s:oas (A++(some v,Sl.tr S' (yo (.list (ds++[e])) p d))::B)=oas A++(S'++oas B):=by rw[af,ai,aU]
 have u:(oas A++(S'++oas B)).Perm (oas A++(S++(oas B++oas T))):=by
  refine List.Perm.append_left _ ((List.Perm.append_right _ pm).trans ?_)
  rw[IN]
  exact List.Perm.append_left _ List.perm_append_comm
 have ne:Nw M (A++(some v,Sl.tr S' (yo (.list (ds++[e])) p d))::B)=Nw M (A++(some v,Sl.tr S d)::(B++T)):=by
  funext b
  apply propext
  unfold Nw
  rw[C,s,u.mem_iff]
 have c:∀ x t,(x,t)∈A\/(x,t)∈B->(x,t)∈A++(some v,Sl.tr S d)::(B++T):=λx t m=>by
  rcases m with m|m
  ·exact HG _ m
  ·exact HA _ (HJ _ (HG _ m))
 have old:∀ x t,(x,t)∈A++(some v,Sl.tr S' (yo (.list (ds++[e])) p d))::B->(x,t)=(some v,Sl.tr S' (yo (.list (ds++[e])) p d))\/((x,t)∈A\/(x,t)∈B):=λx t m=>by
  rcases HF.mp m with m|m
  ·exact .inr (.inl m)
  ·rcases HP.mp m with m|m
   ·exact .inl m
   ·exact .inr (.inr m)
 have other:∀ x t b,(x,t)∈A\/(x,t)∈B->b∈dL (x,t)->b≠a:=λx t b m Q z=>by
  subst z
  rcases m with m|m
  ·exact n3 b (bA.mpr ⟨_,m,Q⟩) b (HG _ l) rfl
  ·exact L b l b (HG _ (bA.mpr ⟨_,m,Q⟩)) rfl
 refine⟨h.keep.put (J a l),λb q z=>?_,h.mt,h.pm,λx d' m=>?_,λx d' m=>?_,λx d' m=>?_,λx S2 d' m=>?_,?_⟩
 ·by_cases i:b=a
  ·subst i;rw[aB] at z;cases z
  ·rw[al i] at z;exact h.live b q z
 ·rw[ne]
  rcases old _ _ m with m|m
  ·cases m
  ·obtain⟨w',e1,dn⟩:=h.fr x d' (c _ _ m)
   exact⟨w',e1,dn.keep n⟩
 ·rw[ne]
  rcases old _ _ m with m|m
  ·cases m
  ·obtain⟨b,us2,e1,e2,dn,y⟩:=h.ow x d' (c _ _ m)
   subst e1
   exact⟨b,us2,rfl,by rw[al (other _ _ b m (HD.mpr rfl))];exact e2,dn.keep n,y⟩
 ·rw[ne]
  rcases old _ _ m with m|m
  ·cases m
  ·obtain⟨b,us2,e1,e2,dn,y⟩:=h.io x d' (c _ _ m)
   subst e1
   exact⟨b,us2,rfl,by rw[al (other _ _ b m (HD.mpr rfl))];exact e2,dn.keep n,y⟩
 ·rw[ne]
  rcases old _ _ m with m|m
  ·cases m
   refine⟨v,rfl,G,λb i=>?_⟩
   rcases HF.mp (pm.mem_iff.mp i) with z|z
   ·exact J b z
   ·exact hT b z
  ·obtain⟨w',e1,dn,y⟩:=h.tr x S2 d' (c _ _ m)
   subst e1
   exact⟨w',rfl,dn.keep n λb i=>al (other _ _ b m (by rw[aU];exact i)),y⟩
 ·rw[s]
  exact u.nodup_iff.mpr nd
end
section
variable {K:PySem.W.Frag}{M P:Addr->Prop}{H0 H H':Hp}{σ0 σ:St}{env:List Sl}{ts:List (V×Sl)}
theorem Rel.setTr {i:Nat}{S S':List Addr}{d d':PyData}{v:V}{A B:List Ent} (h:Rel K M P H0 σ0 σ env ts H) (e:env[i]? = some (.tr S d)) (b:aI σ (env.set i (.tr S' d')) ts=A++(some v,.tr S' d')::B) (c:bf K M P H0 (A++(some v,.tr S' d')::B) H'):Rel K M P H0 σ0 σ (env.set i (.tr S' d')) ts H':=by
 refine⟨by rw[b];exact c,by simp[h.len],h.vw,λj ds' a=>?_⟩
 by_cases hj:i=j
 ·subst hj
  have hi:i<env.length:=(HI.mp e).1
  rw[Ik hi] at a
  cases a
 ·rw[Ii hj] at a
  exact h.ios j ds' a
end
theorem lC (ns:List Int):nC (ns.map PyData.int)=true:=by
 induction ns with
 | nil=>rfl
 | cons n ns a=>exact a
theorem BK {ds:List PyData}{ix:List (Option Nat)}{g:DG}{te:DE}{env:List Sl}{R:Sl->List Sl->Prop} (f:Nat->PyData) (hz:ds.length<=1000000)
  (h : ∀ i,(h:i<ds.length)->∀ Q:PyData->Prop,Q (f i)->g ds[i] (fC ix env) λb=>te b λs c=>∃ s' d,gH c s=some s'/\eN [] s'=some d/\Q d) (e:∀ S,R (.tr S (.list ((List.range ds.length).map f))) env):CDT ds ix g Bt te env R:=by
 refine⟨λi a=>a=(List.range i).map f/\i<=ds.length,⟨rfl,Ig _⟩,λi a hi w=>?_,λa w S=>by rw[w.1];exact e S⟩
 obtain⟨rfl,_⟩:=w
 refine⟨by rw[HC,Io];exact HV (by omega) au,?_⟩
 have:=h i hi (λd=>(List.range i).map f++[d]=(List.range (i+1)).map f/\i+1<=ds.length) ⟨by rw[JS,Il];rfl,hi⟩
 simpa only[Bt,if_true] using this
theorem eI {α:Type} (l:List α) (z:α):(List.range l.length).map (λi=>l.getD i z)=l:=by
 refine IS (by simp) λi h1 h2=>?_
 simp[HB,Hz h2]
theorem qS {α β:Type} (l:List α) (z:α) (g:α->β):(List.range l.length).map (λi=>g (l.getD i z))=l.map g:=by
 conv=>rhs;rw[<-eI l z,Ip]
 rfl
theorem fN {α β:Type} (l:List α) (z:α) (p:α->Bool) (g:α->β):((List.range l.length).filter λi=>p (l.getD i z)).map (λi=>g (l.getD i z))=(l.filter p).map g:=by
 conv=>rhs;rw[<-eI l z,List.filter_map,Ip]
 rfl
noncomputable abbrev lr (a:List (List Int)):List PyData:=a.map λr=>.list (li r)
theorem lG {a:List (List Int)}{i:Nat}{h:i<(lr a).length}:(lr a)[i]=.list (li (a.getD i [])):=by
 have h':i<a.length:=by simpa using h
 rw[IT,HB,Hz h']
 rfl
theorem Sh.lr (n:Nat) (a:List (List Int)):Sh (n+2) (.list (lr a)):=Sh.list λx hx=>by
 obtain⟨r,_,rfl⟩:=HS.mp hx
 exact Sh.ints n r
section
variable {X:Cx}{K:PySem.W.Frag}{pos:Pos}{es:List Expr}{tl:DA}{e:Expr}{ta:DE}{M P N:Addr->Prop}{H0 H:Hp}{σ0 σ:St}{env:List Sl}{ts:List (V×Sl)}
noncomputable def BC (t:DA):DE:=λenv R=>t env λss a=>∃ ds,ca a ss=some ds/\ss.length<=sizeLine/\∀ S,R (.tr S (.list ds)) a
theorem yl (h:PA X es (upA K tl)):PE X (.List es pos) (up K (BC tl)):=(yn h).imp λσ H Q h=>by
 obtain⟨M,P,H0,σ0,env,ts,R,b,f,g⟩:=h
 refine⟨M,P,H0,σ0,env,ts,_,b,f,λss d vs H1 h1 i a=>?_⟩
 obtain⟨ds,e,hz,j⟩:=h1
 obtain⟨q,k⟩:=a.trees i (λp c=>HA _ c) e
 exact⟨by omega,λp c=>g _ _ _ _ (j _) (a.resLstT c q k)⟩
noncomputable def BH (i:Nat) (te:DE):DE:=λenv R=>(∃ S ds,env[i]? = some (.tr S (.list ds)))/\te env λs a=>∃ S ds s' d,a[i]? = some (.tr S (.list ds))/\gH a s=some s'/\eN [] s'=some d/\ds.length<sizeLine/\∀ S',R (.fr .none) (a.set i (.tr S' (.list (ds++[d]))))
theorem CU (i:Nat) {y:Str}{apos cpos npos:Pos} (hK:X.K=K) (I:X.N[i]? = some y) (J:PE X e (up K ta))
  (L:Vis X.env.scope y:=by first|exact Or.inl rfl|exact Or.inr (Or.inl rfl)|exact Or.inr (Or.inr rfl)) (hd:(y==("__debug__" : Str))=false:=by decide)
  (C:(y==("__classdict__" : Str))=false:=by decide)
  (r:kq [e] X.env=[(false,eval e X.env)]:=by rfl)
  (l:Kj (.Name y npos) "append" X.env (eval (.Name y npos) X.env)=eval (.Name y npos) X.env:=by rfl)
  (t:((J0 cpos (kq [e] X.env)).all (λx=>!x.1)&&(QM cpos (Qj [] X.env)).all (λx=>x.1.isSome)&&decide ([e].length+([]:List KW).length+(if ([]:List KW).isEmpty then 0 else 1)<30))=true:=by rfl)
  (m:(apos.endLine==cpos.line)=true:=by rfl) (j:(J0 cpos (kq [] X.env)).any (·.1)=false:=by rfl) :
  PE X (.Call (.Attribute (.Name y npos) "append" apos) [e] [] cpos) (up K (BH i ta)) :=
 (kBm (K:=K) hK PySem.F.plainAttrs_list PySem.F.slot_list_append PySem.F.type_list_append lD (cP I L hd C) (f8 J ln r) l t m r j).imp λσ H Q h=>by
 obtain⟨M,P,H0,σ0,env,ts,R,n,⟨⟨S0,O,T⟩,U⟩,V⟩:=h
 obtain⟨x,ex,W⟩:=n.slot T
 obtain⟨v,ev,D,_⟩:=n.e.tr _ _ _ W
 subst ev
 cases D with
 | @lst a vs _ Sq Y qH =>
  refine⟨.ref a,ex,.inl ⟨rfl,vs,SqL.of Y⟩,M,P,H0,σ0,env,ts,_,n,U,λs1 u q H1 h1 f=>?_⟩
  obtain⟨S,ds,s',d,e1,es,Z,hz,hR⟩:=h1
  obtain⟨k,ir⟩:=f.unVw es
  obtain⟨x',A,B,w,q1,q2⟩:=f.drop.split e1
  rw[ex] at w
  cases w
  have E:=k.e
  have eA:aI σ u (ts++[(q,s')])=A++(some (.ref a),Sl.tr S (.list ds))::(B++[(some q,s')]):=by
   rw[aH,q1]
   simp[tmp]
  obtain⟨ot,z⟩:=k.tree (v:=q) (s:=s') (HA _ HH) ((kP (env':=[]) ir).trans Z)
  have oe:oas [((some q,s'):Ent)]=dL (some q,s'):=by
   rw[ai]
   simp[oas]
  rw[eA] at E ot
  rw[<-oe] at ot z
  obtain⟨b,us,rc,G,hl,g⟩:=bf.appAtU (p:=[]) (ds:=ds) E λo nd=>o.path0 nd
  cases rc
  obtain⟨S',re⟩:=g (aR.refl _) (λc hc=>.inr hc) E ot z
  refine⟨a,us,q,rfl,rfl,G,by rw[hl];exact hz,?_⟩
  exact V _ _ _ _ (hR S') ((f.drop.setTr e1 (q2 _) re).addFr .non)
end
noncomputable def Gy:Sl->Bool
 | .ow _=>true
 | .tr _ _=>true
 | .fr _=>true
 | _=>false
end _L
namespace _L
open PySem Builtin Builtin.Str StrLaws PySem.NumText PySem.W
noncomputable def num (n:Int):Str:=Str.ofString (toString n)
noncomputable def sgn (c:Nat):Str:=⟨#[c]⟩
end _L
namespace _L
open PySem Builtin Builtin.Str StrLaws
noncomputable def ii (x:Nat):Prop:=x=44\/x=45\/(48<=x/\x<=57)
end _L
namespace _L
open PySem PySem.Spec PyProof.Rows
section
variable {X:Cx}{K:PySem.W.Frag}{pos:Pos}{M P:Addr->Prop}{H0 H:Hp}{σ0 σ:St}{env:List Sl}{ts:List (V×Sl)}
theorem zY {x:Str}{a:Int}{t:Tok} (c:Gl X x) (d:X.mg x=some (.int a t)) (hd:(x==("__debug__" : Str))=false:=by decide):PE X (.Name x pos) (up K (dC (.int a))):=(Aq (v:=.int a) c d ⟨_,rfl⟩ hd).imp λσ H Q h=>by
 obtain⟨M,P,H0,σ0,env,ts,R,b,e,f⟩:=h
 exact f _ _ _ _ e (b.addFr (.int a))
noncomputable def uO:DS:=λ_ _=>False
theorem zW {st:Stmt}:PS X st (upS K uO):=λpins s σ H D I h=>by
 obtain⟨M,P,H0,σ0,env,ts,DD,nv,a,z,ok⟩:=h
 exact z.elim
end
section
variable {X:Cx}{K:PySem.W.Frag}
noncomputable def dFz (i:Nat) (u:DS):DS:=λDD env=>∃ ds,env[i]? = some (.ow ds)/\u DD (env.set i (.fr (.list ds)))
theorem CB (i:Nat) {ss:List Stmt}{u:DS} (h:PSs X ss (upS K u)):PSs X ss (upS K (dFz i u)):=h.imp λD σ H h=>by
 obtain⟨M,P,H0,σ0,env,ts,DD,nv,a,⟨ds,e,b⟩,ok⟩:=h
 exact⟨M,P,H0,σ0,_,ts,DD,nv,a.frz e,b,ok⟩
end
end _L
namespace _L
open PySem PySem.W PyProof.Rows
noncomputable def gL {α:Type} (n:Nat) (P:α->Prop):KasT α->Prop
 | .ret a=>P a
 | .ask i j k=>i<n/\j<n/\∀ b,gL n P (k b)
theorem gL.bind {α β:Type}{n:Nat}{P:α->Prop}{R:β->Prop}{f:α->KasT β} (c:∀ a,P a->gL n R (f a)):∀ {t:KasT α},gL n P t->gL n R (t.bind f)
 | .ret a,h=>c a h
 | .ask i j k,h=>⟨h.1,h.2.1,λb=>gL.bind c (h.2.2 b)⟩
noncomputable def Pn (n:Nat) (p:Array Nat):Prop:=p.Perm (List.range n).toArray
theorem Pn.rev {n i j:Nat}{p:Array Nat} (h:Pn n p):Pn n (KF p i j):=(mirror_perm _ _ _ _).trans h
theorem Pn.bub {n i j:Nat}{p:Array Nat} (h:Pn n p):Pn n (bubble p i j):=(bubble_perm _ _ _).trans h
theorem Pn.list {n:Nat}{p:Array Nat} (h:Pn n p):p.toList.Perm (List.range n):=by
 have:=Array.perm_iff_toList_perm.mp h
 simpa using this
theorem Pn.lt {n:Nat}{p:Array Nat} (h:Pn n p) (h1:1<=n) (k:Nat):p.getD k 0<n:=by
 by_cases hk:k<p.size
 ·have e:p.getD k 0=p[k]:=by simp[Array.getD,hk]
  rw[e]
  have m:p[k]∈p.toList:=by simp
  exact HW.mp (h.list.mem_iff.mp m)
 ·have e:p.getD k 0=0:=by simp[Array.getD,hk]
  omega
section
variable {n:Nat}{p:Array Nat}(h1:1<=n)
include h1
theorem oq (h:Pn n p):∀ (f k:Nat),gL n (λ_=>True) (KU p f k)
 | 0,k=>trivial
 | f+1,k=>⟨h.lt h1 _,h.lt h1 _,λb=>by
  cases b with
  | true=>exact trivial
  | false=>exact oq h f (k+1)⟩
theorem gU:∀ (f:Nat) (p:Array Nat) (k q:Nat),Pn n p->gL n (λr=>Pn n r.1) (K7 f p k q)
 | 0,p,k,q,h=>h
 | f + 1,p,k,q,h=>⟨h.lt h1 _,h.lt h1 _,λb=>by
  cases b with
  | true =>
   show gL n _ (if q>0 then _ else _)
   split
   ·exact gU f _ _ _ h.rev
   ·exact gU f _ _ _ h
  | false =>
   refine⟨h.lt h1 _,h.lt h1 _,λd=>?_⟩
   cases d with
   | true=>exact h
   | false=>exact gU f _ _ _ h⟩
theorem kR {k r:Nat} (h:Pn n p):gL n (λr=>Pn n r.2) (QR k r p):=by
 unfold QR
 refine gL.bind (P:=λ_=>True) (λm _=>?_) (oq h1 h.rev _ _)
 exact(h.rev:Pn n (KF p 0 k))
theorem gG {k r:Nat} (h:Pn n p):gL n (λr=>Pn n r.2) (QZ k r p):=(gU h1 _ _ _ _ h).bind λa b=>by
 show gL n _ (if a.2.2>0 then _ else _)
 split
 ·exact kR h1 (Pn.rev b)
 ·exact kR h1 b
theorem uU {r:Nat} (h:Pn n p):gL n (λr=>Pn n r.2) (kas_count r p):=(oq h1 h _ _).bind λk _=>by
 show gL n _ (if (k==r)=true then _ else _)
 split
 ·exact h
 ·split
  ·refine⟨h.lt h1 _,h.lt h1 _,λb=>?_⟩
   cases b with
   | true=>exact h
   | false=>exact gG h1 h.rev
  ·exact gG h1 h
theorem iu (h:Pn n p) (k:Nat):∀ f l r,gL n (λ_=>True) (KL p k f l r)
 | 0,l,r=>trivial
 | f + 1,l,r=>by
  show gL n _ (if l≥r then _ else _)
  split
  ·exact trivial
  ·refine⟨h.lt h1 _,h.lt h1 _,λb=>?_⟩
   cases b with
   | true=>exact iu h k f _ _
   | false=>exact iu h k f _ _
theorem u6:∀ (f:Nat) (p:Array Nat) (k:Nat),Pn n p->gL n (Pn n) (kas_bin f p k)
 | 0,p,k,h=>h
 | f+1,p,k,h=>(iu h1 h _ _ _ _).bind λl _=>u6 f _ _ h.bub
theorem gP:gL n (Pn n) (Ka n):=(uU h1 (p:=(List.range n).toArray) (Array.Perm.refl _)).bind λr a=>by
 show gL n _ (if r.1<n then _ else _)
 split
 ·exact u6 h1 _ _ _ a
 ·exact a
end
end _L
namespace _L
open PySem PySem.Spec PyProof.Rows PySem.W
open PySem.SeqAt PySem.MeetsSeq PySem.MeetsSeq2 PySem.MeetsSeq3 PySem.SeqRoads2
open PySem.AutoSeq1 (wpAny_loadPart')
end _L
namespace _L
open PySem PySem.Spec PyProof.Rows PySem.W
noncomputable def GM (h:Heap) (v:Value):Prop:=∃ (a:Addr) (o:Obj) (n:Nat) (x:Int) (t:Tok) (l:Addr) (b:Array Value) (ns:List Int) (as:List Addr),v=.ref a/\h.get? a=some o/\o.cls=.type "tuple" /\ o.data=.seq #[.int x t,.ref l] n/\h.IsList l b/\(∀ j (h:j<b.size),∃ x t,b[j]=Value.int x t)/\Reads h (.ref l) (.list (ns.map PyData.int)) as
noncomputable def DF (d:PyData):Prop:=∃ (n:Int) (ns:List Int),d=.tuple [.int n,.list (ns.map .int)]
section
theorem js {h:Heap}:∀ {us:List Value},(∀ u∈us,GM h u)->∃ fs,KatTups h us fs/\fs.length=us.length/\∀ f∈fs,∃ x t,f=Value.int x t
 | [],_=>⟨[],.nil,rfl,λf b=>by simp at b⟩
 | u::us,k=>by
  obtain⟨fs,h1,h2,g⟩:=js (us:=us) λv i=>k v (by simp[i])
  obtain⟨a,o,n,x,t,l,j,ns,as,rfl,e,c,d,_⟩:=k u (by simp)
  refine⟨.int x t::fs,.cons e c d (by rfl) h1,by simp[h2],λf b=>?_⟩
  rcases HP.mp b with rfl|b
  ·exact⟨x,t,rfl⟩
  ·exact g f b
end
theorem tJ {α β:Type}{f:α->β}{a bs:List β} (h:a.Perm bs):∀ t:List α,bs=t.map f->∃ t':List α,t'.Perm t/\a=t'.map f:=by
 induction h with
 | nil =>
  intro t e
  cases t with
  | nil=>exact⟨[],.refl _,rfl⟩
  | cons _ _=>cases e
 | cons x _ b =>
  intro t e
  cases t with
  | nil=>cases e
  | cons y t =>
   injection e with e1 e2
   obtain⟨t',p,c⟩:=b t e2
   exact⟨y::t',p.cons y,by rw[e1,c];rfl⟩
 | swap x y l =>
  intro t e
  match t,e with
  | z1::z2::t,e =>
   injection e with e1 e2
   injection e2 with e2 e3
   exact⟨z2::z1::t,.swap ..,by rw[e1,e2,e3];rfl⟩
 | trans _ _ ih1 ih2 =>
  intro t e
  obtain⟨d,g,e1⟩:=ih2 t e
  obtain⟨i,p2,e2⟩:=ih1 d e1
  exact⟨i,p2.trans g,e2⟩
theorem nP {K:PySem.W.Frag}{N:Addr->Prop}{H:Hp}{vs:List V}{ds:List PyData} (h:DNs K N H vs ds):∀ z∈vs.zip ds,DN K N H z.1 z.2:=DNs.ind (C:=λvs ds=>∀ z∈vs.zip ds,DN K N H z.1 z.2) (λz h=>by simp at h) (λd _ i z h=>by
  simp only[Jf] at h
  rcases HP.mp h with rfl|h
  ·exact d
  ·exact i z h) h
section
variable {X:Cx}
theorem ni {j p3 p4}:PE X (.UnaryOp .USub (.Constant (.int 1) j p3) p4) (tC (.int (-1))):=(C7 jf pk).imp λσ H Q h=>⟨1,rfl,h⟩
end
end _L
namespace _L
open PySem PySem.Spec PyProof.Rows PySem.W PySem.Calls
end _L
namespace _L
open PySem PySem.Spec PyProof.Rows
end _L
namespace _L
open PySem PySem.Spec PyProof.Rows PySem.W
section
variable {CX:CXT}{P:zb}{w:zf}{K:PySem.W.Frag}{mg:Str->Option Value}{base:Heap}{k:Nat}{f c':Addr}{qual:Str}{params:KM}{body:Expr}{scope:Kc}{pm ctv:Value}{N ps:List Str}
 {A : Around}{outer:List Env}{s:Shared}{H:Hp}{us:List Value}{vs:List V}{Q:VK}{E:XK}{t:TE}
theorem AS (S:ao N ps scope) (i:cJ (k+1) A) (c:r9 P w K mg base A outer s H) (ho:s.heap.get? f=some (KT "<lambda>" qual params body scope [] pm c' ctv)) (d:s.heap.CodeRec (.ref c') qual)
  (j:ze (Qi "<lambda>" qual params body scope [] pm (.ref c') ctv) ⟨us,[]⟩=pure (ps.zip us)) (r:aX vs us) (l:vs.length=ps.length)
  (m:PE (qt CX P w K mg base N qual scope f (.ref c') A outer s H E) body t) (p:t (bV N vs) H Q):Kx (q3 P w) A (.call (.ref f) ⟨us,[]⟩) (CR CX outer P w H s Q E) s:=by
 have g:s.heap.NoLimit:=c.mod.nolimit.keeps λb o e=>(c.bs b o e).1
 have a:∀ y∈ps.zip us,scope.names.lookup y.1=some .local\/(scope.names.lookup y.1=some .cell/\((J2 (s.heap.objs.size+1) scope.names []).lookup y.1).isSome=true):=λ⟨n,v⟩ z=>by
  rcases S.par n (JR z).1 with q|q
  ·exact .inl q
  ·exact .inr ⟨q,PySem.W.cellsFrom_some _ _ _ (.inl q)⟩
 refine kla_callFunE i.depth ho rfl S.co S.gen rfl d ?_
 rw[j]
 refine ke ?_
 refine QD S.kind a λenv B s1 x=>?_
 subst B
 refine⟨g.keeps x.toInCall.keep,kla_codeExpr ?_⟩
 have I:Inv (qt CX P w K mg base N qual scope f (.ref c') A outer s H E) [] (bV N vs) H s1:=lY S i.hd c l r x
 refine zg (m [] s1 (bV N vs) H _ I p) (λu s' h=>?_) λe s' h=>h
 obtain⟨v,H',J,C,q⟩:=h
 exact⟨v,H',J.os,J.bare,J.base,J.hok,C,q⟩
end
theorem rT {pos:Pos}{a b:Int}{c d:Value} (l:List Value) (h:TriplesOk l) (hn:Ql pos (l++[Km a,Km b,c])=some d):Ql pos l=some d\/d=c:=by
 fun_induction TriplesOk l with
 | case1 =>
  simp only[List.nil_append,Ql,Km] at hn
  split at hn
  ·cases hn;exact .inr rfl
  ·cases hn
 | case2 f t g u x rest e =>
  simp only[List.cons_append,Ql] at hn ⊢
  split at hn
  ·rename_i hc
   rw[if_pos hc]
   exact .inl hn
  ·rename_i hc
   rw[if_neg hc]
   exact e h hn
 | case3 l h1 h2=>exact h.elim
noncomputable def Ew (H:Hp) (c:Addr) (q:Str):Prop:=∃ oc u vs t,H c=some (.frz oc u)/\oc.data=.fields vs/\vs[1]? = some (.str q t)
noncomputable def mF (X:Cx):Prop:=∃ c T,X.env.code=.ref c/\CodeHd X.base c T/\iT X.K T (X.env.qual ++ "<lambda>")
section
variable {X:Cx}{pins:List (Addr×Obj)}{σ:St}{H:Hp}{s:Shared}
theorem Inv.grow (I:Inv X pins σ H s) {T c':Addr}{q:Str}{h':Heap}{oc:Obj}{vs:Array Value}{t:Tok}{tk:Nat} (a:H T=some (.tbl q)) (hx:Heap.ExtBut T s.heap h') (hc:s.heap.objs.size<=c') (ho:h'.get? c'=some oc) (hd:oc.data=.fields vs) (p:vs[1]? = some (.str q t))
  (h:BR (upd H c' (.frz oc (.own 0))) h' T q):Inv X pins σ (upd H c' (.frz oc (.own 0))) { s with heap:=h',toks:=tk }/\aR H (upd H c' (.frz oc (.own 0))):=by
 have hn:H c'=none:=I.hok.fresh hc
 have f:T<s.heap.objs.size:=I.hok.lt a
 have j:T≠c':=HZ (HV f hc)
 obtain⟨k,l,_⟩:=id h
 refine⟨I.un (t':=tk) ⟨λb o e n _ _=>?_,λb o e n _ _=>⟨o.slots,?_⟩,λb o e n _=>?_,λb o e _=>?_,λb xs e=>?_,λb o u e=>?_,λb q e=>?_⟩ (λb u e=>?_),λb o e=>by rw[al (ay e hn)];exact e⟩
 ·exact hx b o (λz=>by rw[z,a] at n;cases n) e
 ·exact hx b o (λz=>by rw[z,a] at n;cases n) e
 ·rw[al (HZ (HV (HL e) hc))];exact n
 ·by_cases z:b=T
  ·subst z;exact⟨_,l⟩
  ·exact⟨o,hx b o z e⟩
 ·rw[al (ay e hn)];exact e
 ·rw[al (ay e hn)];exact e
 ·rw[al (ay e hn)];exact e
 ·by_cases i:b=c'
  ·subst i
   rw[aB] at e
   cases e
   exact⟨ho,_,ho⟩
  ·rw[al i] at e
   by_cases d:b=T
   ·subst d
    rw[a] at e
    cases e
    exact h
   ·refine(I.hok b u e).stay (λc v g q=>hx c v ?_ q) (λc q=>by rw[al (ay q hn)];exact q) λc o _ q=>by rw[al (ay q hn)];exact q
    rcases g with z|z
    ·rw[z];exact d
    ·exactλm=>by rw[m,a] at z;cases z
end
section
variable {X:Cx}{pins:List (Addr×Obj)}{σ:St}{H:Hp}{s:Shared}
noncomputable def dM (X:Cx) (pins:List (Addr×Obj)) (σ:St) (H:Hp) (s:Shared) (d:PyData) (u:Value) (s':Shared):Prop :=
 ∃ H' v,Inv X pins σ H' s'/\aR H H'/\bw v u/\DN X.K N0 H' v d/\∀ b o,eU X pins H b->s.heap.get? b=some o->s'.heap.get? b=some o/\H' b=none
end
section
variable {X:Cx}{pins:List (Addr×Obj)}
theorem kh {H H':Hp}{b:Addr} (h:eU X pins H b) (n:H' b=none):eU X pins H' b:=⟨n,h.2⟩
theorem so {xs:List V}{us:List Value}{x:V}{u:Value} (h:aX xs us) (q:bw x u):aX (xs++[x]) (us++[u]):=by
 induction h with
 | nil=>exact .cons q .nil
 | cons r _ i=>exact .cons r i
end
section
noncomputable def DB (d:PyData):Prop:=∃ ns:List Int,d=.list (ns.map .int)
end
section
variable {P:zb}{w:zf}{K:PySem.W.Frag}{mg:Str->Option Value}{base:Heap}
noncomputable def rX (K:PySem.W.Frag) (base:Heap) (x:Str) (fd:k0):Prop:=∃ c T,fd.code=.ref c/\CodeHd base c T/\iT K T (x ++ ".<locals>.<lambda>")
theorem FC {x:Str}{st:Stmt}{f:Addr}{fd:k0}{N ps:List Str}{k:Nat}{sp:DSp} (F:Fun K x x st f fd) (S:ao N ps (ad st)) (len:∀ ss R,sp ss R->ss.length=ps.length) (b:ps.length<=N.length)
  (c:∀ (cdv:Value) (a:cdv=fd.code) (A:Around) (outer:List Env) (s:Shared) (H:Hp) (E:XK),cJ k (A.deeper (K3 x (ad st) s.heap.objs.size f cdv)) ->
   ∃ t:DS,PSs (qt CX0 P w K mg base N x (ad st) f cdv A outer s H E).nox (cj st) (upS K t)/\∀ ss R,sp ss R->t (nM ps.length R) (cw N.length ss)):bR P w K mg base CX0 (k+1) f fd ps (spD K sp):=by
 obtain⟨oc,od,kV,doc,pm,an,cdv,ct,osl,rfl,d,a⟩:=F.ex
 exact G5 (λA outer s H E e=>c cdv rfl A outer s H E e) d a S len b
noncomputable def vn (vs:Array Value) (c T:Addr):Prop:=vs[11]? = some (.ref T)/\vs.getD 11 .none=.ref T/\(∃ a d,vs.getD 18 .none=.str a d)/\(∃ i t,vs.getD 7 .none=.int i t)/\(∃ b,vs.getD 9 .none=.bool b)/\(∃ i t,vs.getD 10 .none=.int i t)/\c≠T
theorem Dp {x:Str}{f c T:Addr}{fd:k0}{oc:Value}{od e:Option Addr}{osl g:Array (Option Value)}{vs:Array Value} (hx:x∈eL) (a:PySem.W.nsIn K qs x=some (some (.ref f))) (l:K.lookup f=some ⟨oc,od,.func fd,osl⟩) (hc:fd.code=.ref c)
  (h:K.lookup c=some ⟨.type "code",e,.fields vs,g⟩) (k:vn vs c T) (m:K.In base):rX K base x fd:=by
 obtain⟨h1,h2,⟨d,n,o⟩,⟨i,t,p⟩,⟨b,q⟩,⟨j,u,r⟩,s⟩:=k
 exact⟨c,T,hc,⟨_,vs,d,n,i,t,b,j,u,m _ _ h,rfl,rfl,h1,h2,o,p,q,r,s⟩,x,hx,f,_,fd,c,_,vs,a,l,rfl,hc,h,rfl,h1,rfl⟩
structure rW (K:PySem.W.Frag) (h:Heap) (x:Str) (c T:Addr):Prop where
 tab:∀ T0,(∃ f o fd c0 oc vs,PySem.W.nsIn K qs x=some (some (.ref f))/\K.lookup f=some o/\o.data=.func fd/\fd.code=.ref c0/\K.lookup c0=some oc/\oc.data=.fields vs/\vs[11]? = some (.ref T0))->T0=T
 at':h.get? T=some { cls:=.none,data:=.fields #[] }/\K.lookup T=none/\∃ c,h.TableAt c T #[]
theorem j7 {q:zb}{b:List Str}{r:(Str->Option Value)->Heap->Prop}{s₀:Shared}{mb:Str->Option Value}{h:Heap}{d:DefRec}{x:Str}{f c T:Addr}{fd:k0}{oc:Value}{od i:Option Addr}{osl j:Array (Option Value)}{vs:Array Value}
  (G : PySem.W.Ground q b [] r w s₀ mg mb h) (s:K.In h) (t:(recsOf q).find? (λe=>e.name==x)=some d)
  (a : PySem.W.nsIn K qs x=some (some (.ref f))) (l:K.lookup f=some ⟨oc,od,.func fd,osl⟩) (hc:fd.code=.ref c) (k:K.lookup c=some ⟨.type "code",i,.fields vs,j⟩) (m:vn vs c T) (hn:K.lookup T=none):rW K h x c T:=by
 have u:tabIn K x=some (c,T):=by
  unfold tabIn
  rw[a]
  simp only[l,hc,k,m.1]
 obtain⟨C,g⟩:=tab_of G.T s t u
 refine⟨λT0 e=>?_,g,hn,c,C.tab g⟩
 obtain⟨B,D,v,c0,y,z,a1,a2,a3,n,o,A,p⟩:=e
 rw[a] at a1
 cases a1
 rw[l] at a2
 cases a2
 cases a3
 rw[hc] at n
 cases n
 rw[k] at o
 cases o
 cases A
 rw[m.1] at p
 cases p
 rfl
theorem zG {h:Heap} (ps:List (Str×Addr×Addr)) (a:∀ p∈ps,rW K h p.1 p.2.1 p.2.2) (nd:(ps.map λp=>p.2.2).Nodup) (f:∀ n∈eL,n∈ps.map (·.1)\/PySem.W.nsIn K qs n=some none) :
  ∃ tb:List (Addr×Str),(∀ b q,tb.lookup b=some q->h.get? b=some { cls:=.none,data:=.fields #[] }/\K.lookup b=none/\∃ c,h.TableAt c b #[])/\∀ T q,iT K T q->tb.lookup T=some q:=by
 refine⟨ps.map λp=>(p.2.2,p.1 ++ ".<locals>.<lambda>"),λb s e=>?_,λT0 s L=>?_⟩
 ·have : ∃ p∈ps,p.2.2=b:=by
   clear a nd f
   induction ps with
   | nil=>cases e
   | cons p ps g =>
    rw[HU,IA] at e
    by_cases o:b=p.2.2
    ·exact⟨p,HH,o.symm⟩
    ·have h1:(b==p.2.2)=false:=by simpa using o
     rw[h1] at e
     obtain⟨i,m,t⟩:=g e
     exact⟨i,HJ _ m,t⟩
  obtain⟨p,m,rfl⟩:=this
  exact(a p m).at'
 ·obtain⟨n,u,v,w,j,c0,k,l,a1,a2,a3,x,y,A,r,rfl⟩:=L
  rcases f n u with d|d
  ·obtain⟨p,m,rfl⟩:=HS.mp d
   have e:=(a p m).tab T0 ⟨v,w,j,c0,k,l,a1,a2,a3,x,y,A,r⟩
   subst e
   clear a f a1 r d
   induction ps with
   | nil=>cases m
   | cons i ps g =>
    rw[HU,IA]
    rw[HU,Iu] at nd
    rcases HP.mp m with rfl|m
    ·simp
    ·have h1:(p.2.2==i.2.2)=false:=by
      simp only[beq_eq_false_iff_ne,ne_eq]
      exactλz=>nd.1 (z▸List.mem_map_of_mem m)
     rw[h1]
     exact g nd.2 m
  ·rw[d] at a1
   cases a1
theorem AT {h:Heap}:∀ p∈([]:List (Str×Addr×Addr)),rW K h p.1 p.2.1 p.2.2:=λp a=>by cases a
theorem j6 {h:Heap}{x:Str}{c T:Addr}{ps:List (Str×Addr×Addr)} (h1:rW K h x c T) (h2:∀ p∈ps,rW K h p.1 p.2.1 p.2.2):∀ p∈(x,c,T)::ps,rW K h p.1 p.2.1 p.2.2:=λp a=>by
 rcases HP.mp a with rfl|a
 ·exact h1
 ·exact h2 p a
theorem AU {P:Str->Prop} (h1:P "choices") (h2:P "full_rows") (a:P "chain_plan") (b:P "least_ranks"):∀ n∈eL,P n:=λn hn=>by
 simp only[eL,HP,Ir,or_false] at hn
 rcases hn with rfl|rfl|rfl|rfl <;> assumption
end
end _L
namespace _L
open PySem PySem.Spec PyProof.Rows PySem.W
open PySem.SeqAt PySem.MeetsSeq PySem.MeetsSeq2 PySem.MeetsSeq3 PySem.SeqRoads2
open PySem.AutoSeq1 (wpAny_loadPart')
noncomputable def At (items:Array Value) (ns:List Int):Prop:=ns.length=items.size/\∀ j (h:j<items.size),∃ t,items[j]=Value.int (ns.getD j 0) t
theorem ww {ns ms:List Int}{i:Nat} (h1:i<ns.length) (h2:i<ms.length):HT.lexLt (ns.drop i) (ms.drop i)=if ns.getD i 0=ms.getD i 0 then HT.lexLt (ns.drop (i+1)) (ms.drop (i+1)) else decide (ns.getD i 0<ms.getD i 0):=by
 have e1:ns.drop i=ns.getD i 0::ns.drop (i+1):=by rw[Iw h1];simp[HB,h1]
 have e2:ms.drop i=ms.getD i 0::ms.drop (i+1):=by rw[Iw h2];simp[HB,h2]
 rw[e1,e2,HT.lexLt_cons]
theorem wu (l b:Addr) (items a:Array Value) (n D:Nat) (dd y:Option Addr) (sl z:Array (Option Value)) (ns ms:List Int) (f:At items ns) (c:At a ms) (k:Nat) :
  ∀ i : Nat,items.size - i=k->i<=items.size->i<=a.size->Meets (Builtin.«list.__eq__.loop» ⟨[.ref l,.ref b,Km i,Km 0],[]⟩)
   (λA R s=>s.heap.get? l=some { cls:=.type "list",dict:=dd,data:=.seq items n,slots:=sl }/\s.heap.get? b=some { cls:=.type "list",dict:=y,data:=.seq a D,slots:=z } /\
    R (.ok (.ret (.bool (HT.lexLt (ns.drop i) (ms.drop i))))) s):=by
 induction k with
 | zero =>
  intro i hk v x prog w A R s h
  obtain⟨E,g,d,tk,os⟩:=s;obtain⟨q,r,h⟩:=h
  wp_walk using wpAny_loadPart' q,wpAny_loadPart' r
  have j:items[((i:Nat):Int).toNat]? = none:=by simp;omega
  rw[j]
  wp_walk using wpAny_loadPart' q,wpAny_loadPart' r
  have B:HT.lexLt (ns.drop i) (ms.drop i)=decide (items.size<a.size):=by
   rw[IL (by rw[f.1];omega)]
   by_cases C:i<ms.length
   ·rw[Iw C,HT.lexLt_nil_cons,decide_eq_true (by rw[c.1] at C;omega)]
   ·rw[IL (by omega),HT.lexLt_nil_nil,decide_eq_false (by rw[c.1] at C;omega)]
  rw[B] at h
  exact h
 | succ k F =>
  intro i hk v x prog w A R s h
  obtain⟨E,g,d,tk,os⟩:=s;obtain⟨q,r,h⟩:=h
  wp_walk using wpAny_loadPart' q,wpAny_loadPart' r
  have m:i<items.size:=by omega
  have j:items[((i:Nat):Int).toNat]? = some items[i]:=by simp[m]
  have hc:((i:Int)+1)=((i+1:Nat):Int):=by push_cast;rfl
  rw[j]
  by_cases e:i<a.size
  ·have o:a[((i:Nat):Int).toNat]? = some a[i]:=by simp[e]
   rw[o]
   obtain⟨t,e1⟩:=f.2 i m
   obtain⟨u,e2⟩:=c.2 i e
   rw[ww (by rw[f.1];exact m) (by rw[c.1];exact e)] at h
   rw[e1,e2]
   refine jj (Qy ?_)
   by_cases p:ns.getD i 0=ms.getD i 0
   ·rw[if_pos p] at h
    rw[show(ns.getD i 0==ms.getD i 0)=true by simpa using p]
    wp_walk
    rw[hc]
    exact⟨K2 Qp _,Kt entry_eq_loop (by
     rw[Around.under_plainId Qp _]
     exact F (i+1) (by omega) (by omega) (by omega) prog w A R _ ⟨q,r,h⟩)⟩
   ·rw[if_neg p] at h
    rw[show(ns.getD i 0==ms.getD i 0)=false by simpa using p]
    wp_walk using wpAny_loadPart' q,wpAny_loadPart' r
    rw[j,o,e1,e2]
    refine jj (show qb (q3 prog w) A.in1 (z4 .Lt (.int (ns.getD i 0) t) (.int (ms.getD i 0) u)) _ _ _ from wpAny_lt_int (ke h))
  ·have o:a[((i:Nat):Int).toNat]? = none:=by simp;omega
   rw[o]
   wp_walk using wpAny_loadPart' q,wpAny_loadPart' r
   have B:HT.lexLt (ns.drop i) (ms.drop i)=decide (items.size<a.size):=by
    rw[IL (l:=ms) (by rw[c.1];omega),Iw (l:=ns) (by rw[f.1];exact m),HT.lexLt_cons_nil,decide_eq_false (by omega)]
   rw[B] at h
   exact h
theorem pD (l b:Addr) (items a:Array Value) (n j:Nat) (dd c:Option Addr) (sl e:Array (Option Value)) (ns ms:List Int) (f:At items ns) (i:At a ms) :
  Meets (Builtin.«list.__lt__» ⟨[.ref l,.ref b],[]⟩)
   (λA R s=>s.heap.get? l=some { cls:=.type "list",dict:=dd,data:=.seq items n,slots:=sl }/\s.heap.get? b=some { cls:=.type "list",dict:=c,data:=.seq a j,slots:=e } /\
    R (.ok (.ret (.bool (HT.lexLt ns ms)))) s):=by
 intro prog w A R s h
 obtain⟨o,g,d,tk,os⟩:=s;obtain⟨k,m,h⟩:=h
 have p:=AutoSeq1.sub_list_list
 wp_walk using wpAny_loadPart' k,wpAny_loadPart' m
 exact⟨K2 Qp _,Kt entry_eq_loop (by
  rw[Around.under_plainId Qp _]
  exact wu l b items a n j dd c sl e ns ms f i _ 0 rfl (Ig _) (Ig _) prog w A R _ ⟨k,m,h⟩)⟩
noncomputable def cf (a b:Int×List Int):Bool:=if a.1=b.1 then (if a.2=b.2 then false else HT.lexLt a.2 b.2) else decide (a.1<b.1)
section
variable {prog:zb}{w:zf}{A:Around}{E:Value->Shared->Prop}{s:Shared}
theorem ue {l b:Addr}{items a:Array Value}{ns ms:List Int}{Q:Value->Shared->Prop} (m:s.heap.IsList l items) (o:s.heap.IsList b a) (f:At items ns) (g:At a ms)
  (p:A.units<Kg) (h:Q (.bool (HT.lexLt ns ms)) s):qb (q3 prog w) A (z4 .Lt (.ref l) (.ref b)) Q E s:=by
 obtain⟨⟨cls,dd,data,sl⟩,ho,hc,n,hd⟩:=id m
 obtain⟨⟨k,i,data2,j⟩,c,d,q,e⟩:=id o
 simp only at hc hd d e
 subst hc hd d e
 exact richCompare_meets_room (op:=.Lt) ⟨_,ho,rfl⟩ ⟨_,c,rfl⟩ F.slot_list_lt F.entry_list_lt (F.args_list_lt_2 _ _) (pD l b items a n q dd i sl j ns ms f g)
  ⟨ho,c,show Value.bool (HT.lexLt ns ms)≠Value.notImplemented/\Q (.bool (HT.lexLt ns ms)) s from⟨(λx=>nomatch x),h⟩⟩ p
noncomputable def B5 (h:Heap) (v:Value) (k:Int×List Int):Prop:=∃ (a:Addr) (o:Obj) (n:Nat) (t:Tok) (l:Addr) (b:Array Value) (as:List Addr),v=.ref a/\h.get? a=some o/\o.cls=.type "tuple" /\ o.data=.seq #[.int k.1 t,.ref l] n/\h.IsList l b/\At b k.2/\Reads h (.ref l) (.list (k.2.map PyData.int)) as
theorem B5.v {h:Heap}{v:Value}{k:Int×List Int} (x:B5 h v k):GM h v:=by
 obtain⟨a,o,n,t,l,b,as,e1,e2,e3,c,d,f,g⟩:=x
 exact⟨a,o,n,k.1,t,l,b,k.2,as,e1,e2,e3,c,d,λj hj=>let ⟨u,e⟩:=f.2 j hj;⟨_,u,e⟩,g⟩
theorem AY {u v:Value}{k k':Int×List Int}{C:Bool->Shared->Prop}{E:Value->Shared->Prop} (y:A.units+64<Kg) (g:B5 s.heap u k) (i:B5 s.heap v k') (h:C (cf k k') s):qb (q3 prog w) A (keyLt' (tuples' true) u v) C E s:=by
 obtain⟨a,o,n,t,l,j,as,rfl,e,c,d,i1,i2,m⟩:=g
 obtain⟨z,o',B,t',D,its',p,rfl,q,c',d',r,j2,x⟩:=i
 unfold cf at h
 refine kat_lt e d q d' ?_
 refine kat_cons (Qy ?_)
 refine kat_go (λf=>kat_yes ?_) λf=>kat_no (oneLt_int ?_)
 rotate_left
 ·rw[if_neg (by simpa using f)] at h
  exact h
 rw[if_pos (by simpa using f)] at h
 refine kat_cons (SeqAt.eqBoolOverData _ _ _ _ _ _ _ _ _ _ _ _ m x ?_ ?_ ?_ ?_)
 ·simp[PyData.canLay0,j4]
 ·simp[PyData.canLay0,j4]
 ·have:∀ ns:List Int,(PyData.list (ns.map PyData.int)).depth<=64:=λns=>by
   have:=Fi ns
   exact SeqAt.depth_of_shaped this
  have:=this k.2
  have:=Nat.min_le_left (PyData.list (k.2.map PyData.int)).depth (PyData.list (k'.2.map PyData.int)).depth
  omega
 ·refine kat_go (λb=>kat_yes (kat_nil ?_)) λb=>kat_no (kat_one _ _ ?_)
  ·rw[Bf] at b
   rw[if_pos (of_decide_eq_true b)] at h
   exact h
  ·refine ue i1 r i2 j2 (by omega) ?_
   rw[Bf] at b
   rw[if_neg (of_decide_eq_false b)] at h
   exact h
noncomputable def aq {α:Type} (lt:Nat->Nat->Bool):KasT α->α
 | .ret a=>a
 | .ask i j k=>aq lt (k (lt i j))
theorem gL.run {α:Type}{n:Nat}{P:α->Prop}{lt:Nat->Nat->Bool}:∀ {t:KasT α},gL n P t->P (aq lt t)
 | .ret a,h=>h
 | .ask i j k,h=>show P (aq lt (k (lt i j))) from gL.run (t:=k (lt i j)) (h.2.2 _)
theorem j9 {α:Type}{n:Nat}{b:Nat->Nat->(Bool->Shared->Prop)->Shared->Prop}{P:α->Prop}{lt:Nat->Nat->Bool}{Q:α->Shared->Prop} (I:Shared->Prop)
  (hc:∀ i j C s,i<n->j<n->I s->(∀ s',I s'->C (lt i j) s')->b i j C s):∀ {t:KasT α}{s:Shared},gL n P t->(∀ s,I s->Q (aq lt t) s)->I s->t.kasWp b Q s
 | .ret a,s,h,c,i=>c s i
 | .ask x y k,s,h,c,i=>hc x y _ s h.1 h.2.1 i λs' d=>j9 I hc (h.2.2 (lt x y)) c d
noncomputable def ar (ks:List (Int×List Int)):List Nat:=if ks.length<2 then List.range ks.length else (aq (λi j=>cf (ks.getD i (0,[])) (ks.getD j (0,[]))) (Ka ks.length)).toList
theorem aT (ks:List (Int×List Int)):(ar ks).Perm (List.range ks.length):=by
 unfold ar
 split
 ·exact .refl _
 ·exact(gL.run (gP (n:=ks.length) (by omega))).list
noncomputable def bY {α:Type} (p:List Nat) (xs:List α) (d:α):List α:=p.map λi=>xs.getD i d
noncomputable def iU (prog:zb) (w:zf) (A:Around) (vs:List Value) (ks:List (Int×List Int)) (s:Shared):Prop :=
 qb (q3 prog w) A (keyKind' vs.toArray) (λκ s'=>s'=s/\∀ i j (C:Bool->Shared->Prop),i<vs.length->j<vs.length->C (cf (ks.getD i (0,[])) (ks.getD j (0,[]))) s->kas_ask prog w A κ vs i j C s) (λ_ _=>False) s
theorem AW {us:List Value}{ks:List (Int×List Int)} (a:A.units+64<Kg) (h2:2<=us.length) (d:ks.length=us.length) (k:∀ i (h:i<us.length),B5 s.heap us[i] (ks.getD i (0,[]))):iU prog w A us ks s:=by
 obtain⟨fs,h1,e,b⟩:=js (h:=s.heap) (us:=us) λu a=>by
  obtain⟨i,hi,rfl⟩:=Im a
  exact(k i hi).v
 refine kat_kind (T:=.type "int") h1 (by omega) (λv c=>?_) (by rfl) ⟨rfl,λi j C hi hj hc=>?_⟩
 ·obtain⟨x,t,rfl⟩:=b v c
  exact .now
 ·have e1:us.getD i Value.none=us[i]:=by simp[hi]
  have e2:us.getD j Value.none=us[j]:=by simp[hj]
  show qb (q3 prog w) A (keyLt' _ (us.getD i Value.none) (us.getD j Value.none)) C (λ_ _=>False) s
  rw[e1,e2]
  exact AY a (k i hi) (k j hj) hc
end
end _L
namespace _L
open PySem PySem.Spec PyProof.Rows PySem.W
noncomputable def eQ:PyData->Int×List Int
 | .tuple [.int n,.list es]=>(n,(bN es).getD [])
 | .int n=>(n,[])
 | .list es=>(0,(bN es).getD [])
 | _=>(0,[])
section
variable {X:Cx}{pins:List (Addr×Obj)}{σ:St}{H:Hp}{s:Shared}
theorem BN:∀ {ns:List Int}{vs:List V}{us:List Value},DVs X.K H vs (ns.map .int)->aX vs us->ns.length=us.length/\∀ j (h:j<us.length),∃ t,us[j]=Value.int (ns.getD j 0) t
 | [],_,_,.nil,.nil=>⟨rfl,λj h=>by simp at h⟩
 | n :: ns,_,_,.cons d q,.cons r t=>by
  obtain⟨h1,h2⟩:=BN q t
  refine⟨by simp[h1],λj h=>?_⟩
  cases j with
  | zero =>
   cases d
   obtain⟨t,rfl⟩:=r
   exact⟨t,rfl⟩
  | succ j =>
   obtain⟨u,e⟩:=h2 j (by simpa using h)
   exact⟨u,by simpa using e⟩
theorem AX (I:Inv X pins σ H s) {v:V}{d:PyData}{u:Value} (hd:DV X.K H v d) (r:bw v u) (k:DF d):B5 s.heap u (eQ d):=by
 obtain⟨n,ns,rfl⟩:=k
 have i:eQ (.tuple [.int n,.list (ns.map .int)])=(n,ns):=by
  show(n,(bN (ns.map .int)).getD [])=_
  rw[bH]
  rfl
 rw[i]
 obtain⟨a,xs,rfl,h,q⟩:=hd.tupI
 obtain⟨x,y,rfl,q1,b⟩:=q.twoI
 obtain⟨p,w,⟨o,e,c,m,hd⟩,_⟩:=I.tuple h
 obtain⟨D,z,rfl,r1,g⟩:=sr w
 rw[q1.intI] at r1
 obtain⟨t,rfl⟩:=r1
 obtain⟨as,A⟩:=b.reads I g (by simpa only[PyData.canLay0] using lJ _)
 obtain⟨l,ys,rfl,h2,b⟩:=b.lstI
 have e2:z=Value.ref l:=g
 have e3:u=Value.ref a:=r
 subst e2 e3
 obtain⟨f,B,C,_⟩:=I.list h2
 obtain⟨h1,h2⟩:=BN b B
 exact⟨a,o,m,t,l,f.toArray,as,rfl,e,c,hd,C.isList,⟨by simpa using h1,λj hj=>h2 j (by simpa using hj)⟩,A⟩
end
section
variable {prog:zb}{w:zf}{A:Around}{E:Value->Shared->Prop}{s:Shared}
theorem sC {a:Addr}{vs:List Value}{ks:List (Int×List Int)}{n:Nat}{P:PySem.Fin->Shared->Prop} (ho:s.heap.get? a=some (q4 "list" vs.toArray n)) (u:vs.length<64) (m:ks.length=vs.length)
  (hk:2<=vs.length->∀ h',(∀ b o,b≠a->s.heap.get? b=some o->h'.get? b=some o)->iU prog w A vs ks { s with heap:=h' })
  (h : ∀ h' c,(∀ b o,b≠a->s.heap.get? b=some o->h'.get? b=some o)->h'.get? a=some (q4 "list" (bY (ar ks) vs Value.none).toArray c)->P (.done (.ret .none)) { s with heap:=h' }) :
  qb (q3 prog w) A (Builtin.«list.sort» ⟨[.ref a],[]⟩) P E s:=by
 have J:a<s.heap.objs.size:=HL ho
 have s1:=Heap.SameBut.update s.heap a (Obj.mapSeq λ_=>(#[]:Array Value))
 obtain⟨e1,q⟩:∃ e1,(s.heap.update a (Obj.mapSeq λ_=>(#[]:Array Value))).get? a=some (q4 "list" #[] e1):=⟨_,Kf ho λ_=>#[]⟩
 have keep:∀ b o,b≠a->s.heap.get? b=some o->(((s.heap.update a (Obj.mapSeq λ_=>(#[]:Array Value))).push (q4 "tuple" vs.toArray 0)).push (q4 "list" #[] 0)).get? b=some o:=λb o k e =>
  HE _ (HE _ ((s1.2 b k).trans e))
 have d:(((s.heap.update a (Obj.mapSeq λ_=>(#[]:Array Value))).push (q4 "tuple" vs.toArray 0)).push (q4 "list" #[] 0)).get? a=some (q4 "list" #[] e1):=HE _ (HE _ q)
 have fin:∀ (t:List Value),∃ c,(((((s.heap.update a (Obj.mapSeq λ_=>(#[]:Array Value))).push (q4 "tuple" vs.toArray 0)).push (q4 "list" #[] 0))).update a (Obj.mapSeq λ_=>t.toArray)).get? a=some (q4 "list" t.toArray c):=λt=>⟨_,Kf d λ_=>t.toArray⟩
 rw[list_sort_plain]
 refine jj (K8 ho rfl ?_)
 refine jj (J7 ho rfl ?_ (by rw[HM,zd];omega) (Ig _))
 refine jj (KI q rfl ?_)
 refine jj (KN ?_ (by show vs.length<=_;rw[zd];omega))
 refine jj (KB ?_ (Ig _))
 refine zh ?_
 show qb (q3 prog w) A _ P E { s with heap:=((s.heap.update a (Obj.mapSeq λ_=>(#[]:Array Value))).push (q4 "tuple" vs.toArray 0)).push (q4 "list" #[] 0) }
 dsimp only
 by_cases h2:2<=vs.length
 ·have hn2:¬vs.toArray.size<2:=by rw[HM];omega
  rw[if_neg hn2,if_neg hn2]
  refine jj (zg (hk h2 _ keep) (λκ K hk=>?_) λ_ _ x=>x.elim)
  obtain⟨rfl,r⟩:=hk
  have v:ar ks=(aq (λi j=>cf (ks.getD i (0,[])) (ks.getD j (0,[]))) (Ka vs.length)).toList:=by
   unfold ar
   rw[if_neg (by omega),m]
  refine jj (zg (kat_run (κ:=κ) (A:=A) (prog:=prog) (w:=w) (ks:=vs) (vs:=vs) (G:=λp s'=>p=aq (λi j=>cf (ks.getD i (0,[])) (ks.getD j (0,[]))) (Ka vs.length)/\s'={ s with heap:=((s.heap.update a (Obj.mapSeq λ_=>(#[]:Array Value))).push (q4 "tuple" vs.toArray 0)).push (q4 "list" #[] 0) })
   (Q := λg s'=>∃ p:Array Nat,p=aq (λi j=>cf (ks.getD i (0,[])) (ks.getD j (0,[]))) (Ka vs.length)/\p.size=vs.length/\arrOf g=p.map (kas_item (vs.toArray.zip vs.toArray))/\QK g=none/\s'={ s with heap:=((s.heap.update a (Obj.mapSeq λ_=>(#[]:Array Value))).push (q4 "tuple" vs.toArray 0)).push (q4 "list" #[] 0) })
   rfl h2 u (λF g s' a1 a2 a3 D=>⟨F,D.1,a1,a2,a3,D.2⟩) (j9 (λs'=>s'={ s with heap:=((s.heap.update a (Obj.mapSeq λ_=>(#[]:Array Value))).push (q4 "tuple" vs.toArray 0)).push (q4 "list" #[] 0) }) (λi j C s' hi hj e hc=>by subst e;exact r i j C hi hj (hc _ rfl)) (gP (n:=vs.length) (by omega)) (λs' e=>⟨rfl,e⟩) rfl)) ?_ λ_ _ e=>e)
  rintro⟨⟨⟩,g⟩ s' ⟨p,y,H,z,I,rfl⟩
  dsimp only
  have f:=kat_snds rfl z
  have hsz:(List.toArray (p.toList.map λi=>vs.getD i Value.none)).size=vs.length:=by rw[HM,HC,Array.length_toList,H]
  rw[f]
  obtain⟨c2,l⟩:=fin (p.toList.map λi=>vs.getD i Value.none)
  refine jj (KI d rfl ?_)
  refine jj (J7 d rfl ?_ (Ig _) (HQ (Nat.le_of_eq hsz) (by rw[zd];omega)))
  rw[I]
  simp only[bne_self_eq_false,Ij,if_false]
  refine ke (h _ c2 (λb o k e=>?_) ?_)
  ·exact((Heap.SameBut.update _ a _).2 b k).trans (keep b o k e)
  ·rw[v,<-y]
   exact l
 ·have hn2:vs.toArray.size<2:=by rw[HM];omega
  rw[if_pos hn2,if_pos hn2]
  refine jj (ke ?_)
  refine jj (ke ?_)
  have f:(arrOf (SortSt.mk' general' (vs.toArray.zip vs.toArray) #[] 7 none)).map (·.2)=vs.toArray:=by
   show(vs.toArray.zip vs.toArray).map (·.2)=_
   apply Array.toList_inj.mp
   simp
   exact List.map_snd_zip (HK _)
  dsimp only
  rw[f]
  obtain⟨c2,l⟩:=fin vs
  have B:bY (ar ks) vs Value.none=vs:=by
   unfold ar bY
   rw[if_pos (by omega),m]
   apply IS
   ·simp
   ·intro i h1 h2
    simp at h1
    simp[h1]
  refine jj (KI d rfl ?_)
  refine jj (J7 d rfl ?_ (Ig _) (by rw[HM,zd];omega))
  simp only[bne_self_eq_false,Ij,if_false]
  refine ke (h _ c2 (λb o k e=>?_) (by rw[B];exact l))
  exact((Heap.SameBut.update _ a _).2 b k).trans (keep b o k e)
theorem mO {l:Addr}{vs:List Value}{ks:List (Int×List Int)}{Q:Value->Shared->Prop} (i:s.heap.IsList l vs.toArray) (f:vs.length<64) (g:ks.length=vs.length)
  (hk:2<=vs.length->∀ h',(∀ b o,s.heap.get? b=some o->h'.get? b=some o)->iU prog w A.in1.in1 vs ks { s with heap:=h' })
  (h : ∀ D h' c,(∀ b o,s.heap.get? b=some o->h'.get? b=some o)->s.heap.objs.size<=D->h'.get? D=some (q4 "list" (bY (ar ks) vs Value.none).toArray c)->Q (.ref D) { s with heap:=h' }) :
  qb (q3 prog w) A (call (.builtin "sorted") [.ref l]) Q E s:=by
 refine Calls.call_function_entry kind_sorted QY Q0 (args_sorted1 _) ?_
 unfold Builtin.«sorted»
 refine jj (m:=checkCount "sorted" 1 1 _) (ke ?_)
 refine jj (collect_list i ?_ (by rw[zd];omega))
 refine jj (KB ?_ (by rw[zd];omega))
 have hsz:((s.heap.push (q4 "list" #[] 0)).update s.heap.objs.size (Obj.mapSeq (·++vs.toArray))).objs.size=s.heap.objs.size+1:=by
  rw[Jp,QG]
 have d:(((s.heap.push (q4 "list" #[] 0)).update s.heap.objs.size (Obj.mapSeq (·++vs.toArray))).push (q4 "list" vs.toArray 0)).get? (s.heap.objs.size+1)=some (q4 "list" vs.toArray 0):=by
  rw[<-hsz];exact HR _ rfl
 have keep:∀ b o,s.heap.get? b=some o->(((s.heap.push (q4 "list" #[] 0)).update s.heap.objs.size (Obj.mapSeq (·++vs.toArray))).push (q4 "list" vs.toArray 0)).get? b=some o:=λb o q=>by
  have a:b<s.heap.objs.size:=HL q
  rw[Heap.get?_push_ne _ _ _ (by rw[hsz];exact HZ (IW a)),Heap.get?_update_ne _ _ _ _ (HZ a),Heap.get?_push_ne _ _ _ (HZ a)]
  exact q
 have ne:∀ b o,s.heap.get? b=some o->b≠s.heap.objs.size+1:=λb o q=>by
  exact HZ (IW (HL q))
 show qb _ _ _ _ _ { s with heap:=((s.heap.push (q4 "list" #[] 0)).update s.heap.objs.size (Obj.mapSeq (·++vs.toArray))).push (q4 "list" vs.toArray 0) }
 rw[hsz]
 refine jj (zh (J3 QF ⟨_,d,rfl⟩ QB ?body (args_list_sort _)))
 case body =>
  refine sC (s:={ s with heap:=((s.heap.push (q4 "list" #[] 0)).update s.heap.objs.size (Obj.mapSeq (·++vs.toArray))).push (q4 "list" vs.toArray 0) }) d f g
   (λh2 h' k=>hk h2 h' λb o e=>k b o (ne b o e) (keep b o e)) λh' c k j=>⟨_,rfl,ke ⟨_,rfl,?_⟩⟩
  exact h _ h' c (λb o e=>k b o (ne b o e) (keep b o e)) (IQ _) j
end
theorem gZ {vs:List V}{us:List Value} (r:aX vs us):∀ {p:List Nat},(∀ i∈p,i<vs.length)->aX (bY p vs .non) (bY p us Value.none)
 | [],_=>.nil
 | i::p,h=>by
  have hi:=h i (by simp)
  obtain⟨u,e,a⟩:=r.get (i:=i) (x:=vs[i]) (by simp[hi])
  have e1:vs.getD i .non=vs[i]:=by simp[HB,hi]
  have e2:us.getD i Value.none=u:=by rw[HB,e];rfl
  show aX (vs.getD i .non::bY p vs .non) (us.getD i Value.none::bY p us Value.none)
  rw[e1,e2]
  exact .cons a (gZ r λj hj=>h j (by simp[hj]))
theorem qd {K:PySem.W.Frag}{N:Addr->Prop}{H:Hp}{vs:List V}{ds:List PyData} (q:DNs K N H vs ds):∀ {p:List Nat},(∀ i∈p,i<vs.length)->DNs K N H (bY p vs .non) (bY p ds .none)
 | [],_=>.nil
 | i :: p,h=>by
  have hi:=h i (by simp)
  have b:=q.len
  have a:(vs[i],ds[i]'(by omega))∈vs.zip ds:=by
   rw[Js]
   exact⟨i,by rw[IM];exact⟨Hz _,Hz _⟩⟩
  have e1:vs.getD i .non=vs[i]:=by simp[HB,hi]
  have e2:ds.getD i .none=ds[i]'(by omega):=by simp[HB,show i<ds.length by omega]
  show DNs K N H (vs.getD i .non::bY p vs .non) (ds.getD i .none::bY p ds .none)
  rw[e1,e2]
  exact .cons (nP q _ a) (qd q λj hj=>h j (by simp[hj]))
theorem dy {ks:List (Int×List Int)}:∀ i∈ar ks,i<ks.length:=λi hi=>HW.mp ((aT ks).mem_iff.mp hi)
end _L
namespace _L
open PySem PySem.Spec PyProof.Rows PySem.W
open Builtin Builtin.ObjectAttr
end _L
namespace _L
open PySem PySem.Spec PyProof.Rows PySem.W
noncomputable abbrev Gn:=List Sl->(Sl->List Sl->Prop)->(Int->Prop)->Prop
theorem us1 {Q:List Value->Prop}{us:List Value} (l:us.length=1) (h:∀ a:Value,Q [a]):Q us:=by
 obtain⟨a,rfl⟩:=vp l
 exact h a
theorem us2 {Q:List Value->Prop}{us:List Value} (l:us.length=2) (h:∀ a b:Value,Q [a,b]):Q us:=by
 obtain⟨a,b,rfl⟩:=Dm l
 exact h a b
theorem us3 {Q:List Value->Prop}{us:List Value} (l:us.length=3) (h:∀ a b c:Value,Q [a,b,c]):Q us:=by
 obtain⟨a,b,c,rfl⟩:=GC l
 exact h a b c
theorem us4 {Q:List Value->Prop}{us:List Value} (l:us.length=4) (h:∀ a b c d:Value,Q [a,b,c,d]):Q us:=by
 obtain⟨a,b,c,d,rfl⟩:=G9 l
 exact h a b c d
noncomputable def vm.off (D:vm) (i:Nat):vm:=⟨λσ H=>D.nx (σ.set i none) H,D.rt,λσ H=>D.bk (σ.set i none) H,λσ H=>D.ct (σ.set i none) H⟩
end _L
namespace _L
open PySem PySem.Spec PyProof.Rows
theorem tD:∀ {a b:List Int},a.map PyData.int=b.map PyData.int->a=b
 | [],[],_=>rfl
 | [],_::_,e=>by simp at e
 | _::_,[],e=>by simp at e
 | x::xs,y::ys,e=>by
  rw[HU,HU] at e
  injection e with e1 e2
  injection e1 with e1
  rw[e1,tD e2]
theorem vJ {k k':bh} (e:cY k=cY k'):k=k':=by
 obtain⟨d,l⟩:=k
 obtain⟨d',a⟩:=k'
 simp only[cY,PyData.tuple.injEq,List.cons.injEq,PyData.int.injEq,and_true] at e
 rw[e.1,tD e.2]
theorem gW:∀ {kvs a:List (bh×PyData)},kvs.map (λp=>(cY p.1,p.2))=a.map (λp=>(cY p.1,p.2))->kvs=a
 | [],[],_=>rfl
 | [],_::_,e=>by simp at e
 | _::_,[],e=>by simp at e
 | (k,v)::xs,(k',v')::ys,e=>by
  rw[HU,HU] at e
  injection e with e1 e2
  injection e1 with e1 e3
  have e1:=vJ e1
  simp only at e1 e3
  rw[e1,e3,gW e2]
section
variable {K:PySem.W.Frag}{M P N:Addr->Prop}{H0 H:Hp}{A B:List Ent}{σ0 σ:St}{env:List Sl}{ts:List (V×Sl)}{v:V}{d:PyData}{kvs:List (bh×PyData)}
noncomputable def EY (K:PySem.W.Frag) (N:Addr->Prop) (H:Hp) (v:V) (kvs:List (bh×PyData)):Prop :=
 ∃ a es,v=.ref a/\H a=some (.ext (cI a es))/\DNs K N H (es.map λp=>V.ref p.2.1) (kvs.map λp=>cY p.1)/\DNs K N H (es.map λp=>p.2.2) (kvs.map λp=>p.2)/\es.map (λp=>p.1)=kvs.map (λp=>p.1)
theorem EY.dctV (h:EY K N H v kvs):GN K H v kvs:=by
 obtain⟨a,es,e,b,hk,c,d⟩:=h
 exact⟨a,es,e,b,hk.dv,c.dv,d⟩
theorem wT {ds:List PyData} (e:fzD ds=fj kvs):False:=by
 cases kvs with
 | nil=>cases e
 | cons p kvs=>simp[fzD,fj,cY] at e
theorem pS {kv:List (Int×PyData)} (e:i8 kv=fj kvs):False:=by
 cases kvs with
 | nil=>cases e
 | cons p kvs=>simp[i8,fj,cY] at e
theorem DN.dct_of (h:DN K N H v d) (e:d=fj kvs):EY K N H v kvs:=by
 cases h with
 | fz _=>exact(wT e).elim
 | idc _ _ _ _=>exact(pS e).elim
 | @dct a es b n c hk f g =>
  injection e with e
  have e:=gW e
  subst e
  exact⟨a,es,rfl,c,hk,f,g⟩
 | _=>cases e
theorem Vw.dct_of (h:Vw K N H v d) (e:d=fj kvs):EY K N H v kvs:=by
 cases h with
 | dn h=>exact h.dct_of e
 | ow h q=>cases e
 | idc _ _ _=>exact(pS e).elim
 | @dct a es b c hk f g =>
  injection e with e
  have e:=gW e
  subst e
  exact⟨a,es,rfl,c,hk,f,g⟩
theorem OT.dct_of {S:List Addr} (h:OT K N H v d S) (e:d=fj kvs):∃ a es,v=.ref a/\S=[a]/\H a=some (.ext (cI a es))/\DNs K N H (es.map λp=>V.ref p.2.1) (kvs.map λp=>cY p.1)/\DNs K N H (es.map λp=>p.2.2) (kvs.map λp=>p.2)/\es.map (λp=>p.1)=kvs.map (λp=>p.1):=by
 cases h with
 | fz _=>exact(wT e).elim
 | idc _ _ _=>exact(pS e).elim
 | @dct a es b c hk f g =>
  injection e with e
  have e:=gW e
  subst e
  exact⟨a,es,rfl,rfl,c,hk,f,g⟩
 | _=>cases e
noncomputable def kg:G2:=λd e R=>∃ k kvs,d=cY k/\e=fj kvs/\R (.bool (!(ci kvs k).isSome))
noncomputable def EH:G2:=λd e R=>∃ kvs k x,d=fj kvs/\e=cY k/\ci kvs k=some x/\R x
theorem AH:ck K (mZ K) kg:=by
 rintro N H x y d e R Q a b ⟨k,kvs,rfl,rfl,c⟩ f
 exact⟨k,kvs,a.dv,(b.dct_of rfl).dctV,f _ _ c (.bl _)⟩
theorem FF:ck K (Fq K) EH:=by
 rintro N H x y d e R Q f g ⟨kvs,k,z,rfl,rfl,b,h⟩ j
 obtain⟨a,es,rfl,l,hk,c,m⟩:=f.dct_of rfl
 refine⟨k,a,es,kvs,rfl,g.dv,l,hk.dv,c.dv,m,by rw[b];rfl,λi v d hd h1 h2=>?_⟩
 rw[b] at hd
 cases hd
 obtain⟨n,e1,dn⟩:=c.get h1
 rw[h2] at e1
 cases e1
 exact j _ _ h dn
theorem vf:∀ {es:List (bh×Addr×V)}{kvs:List (bh×PyData)} (k:bh),es.map (λp=>p.1)=kvs.map (λp=>p.1)->(es.any λp=>decide (p.1=k))=(ci kvs k).isSome
 | [],[],k,_=>rfl
 | [],_::_,k,e=>by simp at e
 | _::_,[],k,e=>by simp at e
 | p::es,q::kvs,k,e=>by
  rw[HU,HU] at e
  injection e with e1 e2
  rw[Jv,vf k e2,bv,e1]
  by_cases h:q.1=k <;> simp[h]
theorem vR {es:List (bh×Addr×V)}{kvs:List (bh×PyData)} (k:bh) (v:V) (d:PyData) (e:es.map (λp=>p.1)=kvs.map (λp=>p.1)) (h1:DNs K N H (es.map λp=>V.ref p.2.1) (kvs.map λp=>cY p.1)) (h2:DNs K N H (es.map λp=>p.2.2) (kvs.map λp=>p.2)) (dn:DN K N H v d) :
    (es.map λp=>if p.1=k then (p.1,p.2.1,v) else p).map (λp=>p.1)=(kvs.map λp=>if p.1=k then (p.1,d) else p).map (λp=>p.1) /\
    DNs K N H ((es.map λp=>if p.1=k then (p.1,p.2.1,v) else p).map λp=>V.ref p.2.1) ((kvs.map λp=>if p.1=k then (p.1,d) else p).map λp=>cY p.1) /\
    DNs K N H ((es.map λp=>if p.1=k then (p.1,p.2.1,v) else p).map λp=>p.2.2) ((kvs.map λp=>if p.1=k then (p.1,d) else p).map λp=>p.2):=by
  induction es generalizing kvs with
  | nil =>
    cases kvs with
    | nil=>exact⟨rfl,.nil,.nil⟩
    | cons q kvs=>simp at e
  | cons p es c =>
   cases kvs with
   | nil=>simp at e
   | cons q kvs =>
    rw[HU,HU] at e h1 h2
    injection e with e1 e2
    cases h1 with
    | cons a1 a2 =>
      cases h2 with
      | cons f g =>
        obtain⟨i1,i2,b⟩:=c e2 a2 g
        simp only[HU]
        by_cases h:q.1=k
        · have a:p.1=k:=e1.trans h
          simp only[h,a,if_true]
          refine⟨by rw[i1],.cons ?_ i2,.cons dn b⟩
          rw[<-h];exact a1
        · have a:¬p.1=k:=λz=>h (e1.symm.trans z)
          simp only[h,a,if_false]
          exact⟨by rw[i1,e1],.cons a1 i2,.cons f b⟩
theorem z7 {es:List (bh×Addr×V)}{k:bh}{b:Addr} (e:es.map (λp=>p.1)=kvs.map (λp=>p.1)) (h1:DNs K N H (es.map λp=>V.ref p.2.1) (kvs.map λp=>cY p.1)) (h2:DNs K N H (es.map λp=>p.2.2) (kvs.map λp=>p.2)) (a:DN K N H (.ref b) (cY k)) (dn:DN K N H v d) :
  (tx es k b v).map (λp=>p.1)=(fY kvs k d).map (λp=>p.1)/\DNs K N H ((tx es k b v).map λp=>V.ref p.2.1) ((fY kvs k d).map λp=>cY p.1)/\DNs K N H ((tx es k b v).map λp=>p.2.2) ((fY kvs k d).map λp=>p.2):=by
 unfold tx fY
 rw[vf k e]
 by_cases c:(ci kvs k).isSome=true
 ·rw[if_pos c,if_pos c]
  exact vR k v d e h1 h2 dn
 ·rw[if_neg c,if_neg c]
  simp only[Il,HU,List.map_nil]
  exact⟨by rw[e],h1.app (.cons a .nil),h2.app (.cons dn .nil)⟩
theorem bf.retreeR {S S' R:List Addr}{d':PyData}{a:Addr}{o:HO} (h:bf K M P H0 (A++(some v,.tr S d)::B) H) (k:a∈S) (pm:S.Perm (S'++R)) (n:OT K (Nw M (A++(some v,.tr S d)::B)) (upd H a o) v d' S') :
  bf K M P H0 (A++(some v,.tr S' d')::B) (upd H a o):=by
 obtain⟨v',ev,ot,s⟩:=h.tr _ _ _ (HA _ HH)
 cases ev
 have p:oas (A++(some v,Sl.tr S d)::B)=oas A++(S++oas B):=by rw[af,ai,aU]
 have nd:=h.nd
 rw[p] at nd
 obtain⟨G,y,C⟩:=HN.mp nd
 obtain⟨I,J,D⟩:=HN.mp y
 have E:Nw M (A++(some v,Sl.tr S d)::B) a:=.inr (by rw[p];exact HA _ (HG _ k))
 have l:aV (Nw M (A++(some v,Sl.tr S d)::B)) H (upd H a o):=aV.own E
 have g:oas (A++(some v,Sl.tr S' d')::B)=oas A++(S'++oas B):=by rw[af,ai,aU]
 have i:∀ b,b∈S'->b∈S:=λb z=>pm.mem_iff.mpr (HG _ z)
 have up:∀ b,Nw M (A++(some v,Sl.tr S' d')::B) b->Nw M (A++(some v,Sl.tr S d)::B) b:=Nw.sub λb z=>by
  rw[g] at z
  rw[p]
  rcases HF.mp z with z|z
  ·exact HG _ z
  ·rcases HF.mp z with z|z
   ·exact HA _ (HG _ (i b z))
   ·exact HA _ (HA _ z)
 have e:∀ (b:Addr) (u:HO),upd H a o b=some u->Nw M (A++(some v,Sl.tr S' d')::B) b->Nw M (A++(some v,Sl.tr S d)::B) b:=λb _ _ z=>up b z
 have c:∀ x t,(x,t)∈A\/(x,t)∈B->(x,t)∈A++(some v,Sl.tr S d)::B:=λx t m=>by
  rcases m with m|m
  ·exact HG _ m
  ·exact HA _ (HJ _ m)
 have old:∀ x t,(x,t)∈A++(some v,Sl.tr S' d')::B->(x,t)=(some v,Sl.tr S' d')\/((x,t)∈A\/(x,t)∈B):=λx t m=>by
  rcases HF.mp m with m|m
  ·exact .inr (.inl m)
  ·rcases HP.mp m with m|m
   ·exact .inl m
   ·exact .inr (.inr m)
 have other:∀ x t b,(x,t)∈A\/(x,t)∈B->b∈dL (x,t)->b≠a:=λx t b m w z=>by
  subst z
  rcases m with m|m
  ·exact C b (bA.mpr ⟨_,m,w⟩) b (HG _ k) rfl
  ·exact D b k b (bA.mpr ⟨_,m,w⟩) rfl
 refine⟨h.keep.put (s a k),λb q z=>?_,h.mt,h.pm,λx d' m=>?_,λx d' m=>?_,λx d' m=>?_,λx F d' m=>?_,?_⟩
 ·by_cases f:b=a
  ·subst f;rw[aB] at z;cases z
  ·rw[al f] at z;exact h.live b q z
 ·rcases old _ _ m with m|m
  ·cases m
  ·obtain⟨w',e1,dn⟩:=h.fr x d' (c _ _ m)
   exact⟨w',e1,(dn.keep l).to e⟩
 ·rcases old _ _ m with m|m
  ·cases m
  ·obtain⟨b,us2,e1,e2,dn,j⟩:=h.ow x d' (c _ _ m)
   subst e1
   exact⟨b,us2,rfl,by rw[al (other _ _ b m (HD.mpr rfl))];exact e2,(dn.keep l).to e,j⟩
 ·rcases old _ _ m with m|m
  ·cases m
  ·obtain⟨b,us2,e1,e2,dn,j⟩:=h.io x d' (c _ _ m)
   subst e1
   exact⟨b,us2,rfl,by rw[al (other _ _ b m (HD.mpr rfl))];exact e2,(dn.keep l).to e,j⟩
 ·rcases old _ _ m with m|m
  ·cases m
   exact⟨v,rfl,n.to e,λb f=>s b (i b f)⟩
  ·obtain⟨w',e1,dn,j⟩:=h.tr x F d' (c _ _ m)
   subst e1
   exact⟨w',rfl,(dn.keep l λb f=>al (other _ _ b m (by rw[aU];exact f))).to e,j⟩
 ·rw[g]
  have r:(oas A++((S'++R)++oas B)).Nodup:=(List.Perm.append_left _ (List.Perm.append_right _ pm)).nodup_iff.mp nd
  refine r.sublist (List.Sublist.append_left (List.Sublist.append_right ?_ _) _)
  exact List.sublist_append_left _ _
theorem Rel.retreeT {i:Nat}{S S' R:List Addr}{d':PyData}{a:Addr}{o:HO} (h:Rel K M P H0 σ0 σ env ts H) (e:env[i]? = some (.tr S d)) (ev:σ[i]? = some (some v)) (g:a∈S) (pm:S.Perm (S'++R)) (b:OT K (Nw M (aI σ env ts)) (upd H a o) v d' S') :
  Rel K M P H0 σ0 σ (env.set i (.tr S' d')) ts (upd H a o):=by
 obtain⟨x,A,B,e1,q1,k⟩:=h.split e
 rw[ev] at e1
 cases e1
 have r:=h.e
 rw[q1] at r b
 refine⟨by rw[k];exact r.retreeR g pm b,by simp[h.len],h.vw,λj c f=>?_⟩
 by_cases hj:i=j
 ·subst hj
  have hi:i<env.length:=(HI.mp e).1
  rw[Ik hi] at f
  cases f
 ·rw[Ii hj] at f
  exact h.ios j c f
theorem Rel.dct {i:Nat}{S:List Addr} (h:Rel K M P H0 σ0 σ env ts H) (e:env[i]? = some (.tr S (fj kvs))):∃ a es,σ[i]? = some (some (.ref a))/\S=[a]/\H a=some (.ext (cI a es))/\DNs K (Nw M (aI σ env ts)) H (es.map λp=>V.ref p.2.1) (kvs.map λp=>cY p.1) /\
  DNs K (Nw M (aI σ env ts)) H (es.map λp=>p.2.2) (kvs.map λp=>p.2)/\es.map (λp=>p.1)=kvs.map (λp=>p.1):=by
 obtain⟨x,e1,m⟩:=h.slot e
 obtain⟨v,ev,ot,_⟩:=h.e.tr _ _ _ m
 obtain⟨a,es,rfl,b,c,hk,d,f⟩:=ot.dct_of rfl
 exact⟨a,es,by rw[e1,ev],b,c,hk,d,f⟩
end
section
variable {X:Cx}{K:PySem.W.Frag}{pos:Pos}{e:Expr}{te tj:DE}
theorem A0 (hK:X.K=K) (a:X.A.units+2<Kg):OpR X (z4 .NotIn) (mZ K):=by subst hK;exact tW a
theorem FN (hK:X.K=K) (a:X.A.units+2<Kg):IxR X (Fq K):=by subst hK;exact Hg a
theorem hu2 {k:Nat}{A:Around} (a:cJ k A):A.units+2<Kg:=JD (Nat.add_le_add_left (by decide:2<=64) _) a.units
noncomputable def xh (i:Nat) (tj te:DE):DS:=λDD env=>te env λs1 b=>(∃ S kvs,b[i]? = some (.tr S (fj kvs)))/\tj b λs2 a=>∃ (S:List Addr) (kvs:List (bh×PyData)) (k:bh) (d:PyData),
 a[i]? = some (.tr S (fj kvs))/\aC a s2=some (cY k)/\aC a s1=some d/\kvs.length<sizeLine/\DD.nx (a.set i (.tr S (fj (fY kvs k d))))
theorem yk (i:Nat) {y:Str}{npos c:Pos}{j:Expr} (hK:X.K=K) (L:X.A.units+2<Kg) (O:X.N[i]? = some y) (hj:PE X j (up K tj)) (Q:PE X e (up K te))
  (t:Vis X.env.scope y:=by first|exact Or.inl rfl|exact Or.inr (Or.inl rfl)|exact Or.inr (Or.inr rfl)) (hd:(y==("__debug__" : Str))=false:=by decide)
  (u:(y==("__classdict__" : Str))=false:=by decide)
  (T:∀ v,Kv (.Subscript (.Name y npos) j c) X.env v=(do
   let ov <-Kk [v] (eval (.Name y npos) X.env)
   let iv <-Kk [v,ov] (eval j X.env)
   KD c
   Kk [v,ov,iv] (Qs ov iv v)
   release [v,ov,iv] []):=by intro _;rfl)
  (U:K0 [.Subscript (.Name y npos) j c] e pos.line X.env=pure false:=by rfl) (hw:K1 [.Subscript (.Name y npos) j c] e X.env=pure none:=by rfl)
  (h1:(J6 [.Subscript (.Name y npos) j c] X.env).map (·.2)=[Kv (.Subscript (.Name y npos) j c) X.env]:=by rfl):PS X (.Assign [.Subscript (.Name y npos) j c] e pos) (upS K (xh i tj te)):=by
 subst hK
 refine(pj Q (tI (cP O t hd u) hj (Fj L) T) U hw h1).imp λD σ H h=>?_
 obtain⟨M,P,H0,σ0,env,ts,DD,nv,w,V,ok⟩:=h
 refine⟨M,P,H0,σ0,env,ts,_,w,V,λs1 n q H1 h1 l=>?_⟩
 obtain⟨⟨S0,F,W⟩,h1⟩:=h1
 obtain⟨a,_,r,_⟩:=l.dct W
 refine⟨.ref a,r,M,P,H0,σ0,n,ts++[(q,s1)],_,l,h1,λs2 g G H2 h2 o=>?_⟩
 obtain⟨S,kvs,k,d,e2,Y,Z,hl,hR⟩:=h2
 have f:Rel X.K M P H0 σ0 σ g (ts++[(q,s1),(G,s2)]) H2:=by simpa using o
 have z:=f.kept (v:=q) (s:=s1) (by simp) Z
 have m:=f.kept (v:=G) (s:=s2) (by simp) Y
 obtain⟨a',es,p,C,hH,hk,t,E⟩:=f.drop.dct e2
 rw[r] at p
 cases p
 obtain⟨b,xs,rfl,_,_⟩:=m.tuple
 have I:es.length=kvs.length:=by have:=congrArg List.length E;simpa using this
 refine⟨k,a,b,es,kvs,rfl,rfl,m.dv,hH,hk.dv,E,by omega,ok.nx _ _ _ hR ?_⟩
 obtain⟨p1,p2,p3⟩:=z7 (b:=b) (k:=k) E hk t m z
 have na:Nw M (aI σ g ts) a:=by
  obtain⟨x,A,B,e1,q1,q2⟩:=f.drop.split e2
  refine .inr ?_
  rw[q1,af,ai]
  rw[r] at e1
  cases e1
  rw[aU,C]
  simp
 have J:aV (Nw M (aI σ g ts)) H2 (upd H2 a (.ext (cI a (tx es k b q)))):=aV.own na
 refine f.drop.retreeT (R:=[]) e2 r (by rw[C];simp) (by simp) ?_
 rw[C]
 exact .dct aB (p2.keep J) (p3.keep J) p1
end
section
variable {K:PySem.W.Frag}{M P N:Addr->Prop}{H0 H:Hp}{E:List Ent}{σ0 σ:St}{env:List Sl}{ts:List (V×Sl)}{v:V}{d:PyData}{kvs:List (bh×PyData)}
theorem bf.addO (h:bf K M P H0 E H) {p:Addr}{o:HO} (c:H p=none) (ot:∀ N,OT K N (upd H p o) (.ref p) d [p]):bf K M P H0 (E++[(some (.ref p),.tr [p] d)]) (upd H p o):=by
 have i:oas (E++[(some (.ref p),Sl.tr [p] d)])=oas E++[p]:=by
  rw[af]
  rfl
 have j:p ∉ oas E:=λz=>by
  obtain⟨vs',q,_⟩:=h.own z
  rw[c] at q
  cases q
 have k:H0 p=none:=by
  cases e:H0 p with
  | none=>rfl
  | some o=>exact absurd c (h.live p (by rw[e];simp))
 have up:∀ b o,H b=some o->Nw M (E++[(some (.ref p),Sl.tr [p] d)]) b->Nw M E b:=λb _ e z=>by
  rcases z with z|z
  ·exact .inl z
  ·rw[i] at z
   rcases HF.mp z with z|z
   ·exact .inr z
   ·rw[HD.mp z,c] at e
    cases e
 have h':=h.same (aR.new (o:=o) c)
 refine⟨h'.keep,h'.live,h.mt,h.pm,λx d' m=>?_,λx d' m=>?_,λx d' m=>?_,λx S d' m=>?_,?_⟩
 ·rcases HF.mp m with m|m
  ·obtain⟨v,e,dn⟩:=h.fr x d' m
   exact⟨v,e,(dn.to up).keep (aV.same (aR.new c))⟩
  ·rw[HD] at m
   cases m
 ·rcases HF.mp m with m|m
  ·obtain⟨a,g,e,e2,dn,r⟩:=h.ow x d' m
   exact⟨a,g,e,aR.new c _ _ e2,(dn.to up).keep (aV.same (aR.new c)),r⟩
  ·rw[HD] at m
   cases m
 ·rcases HF.mp m with m|m
  ·obtain⟨a,g,e,e2,dn,r⟩:=h.io x d' m
   exact⟨a,g,e,aR.new c _ _ e2,(dn.to up).keep (aV.same (aR.new c)),r⟩
  ·rw[HD] at m
   cases m
 ·rcases HF.mp m with m|m
  ·obtain⟨v,e,dn,r⟩:=h.tr x S d' m
   exact⟨v,e,(dn.to up).keep (aV.same (aR.new c)) λa f=>by
    obtain⟨xs,z⟩:=dn.lives a f
    rw[aR.new c _ _ z,z],r⟩
  ·rw[HD] at m
   cases m
   exact⟨_,rfl,ot _,λa f=>by rw[HD.mp f];exact k⟩
 ·rw[i]
  exact HN.mpr ⟨h.nd,by simp,λa f b l=>by rw[HD.mp l];exactλz=>j (z▸f)⟩
theorem bf.addD (h:bf K M P H0 E H) {p:Addr} (a:H p=none):bf K M P H0 (E++[(some (.ref p),.tr [p] (fj []))]) (upd H p (.ext (cI p []))):=h.addO a λ_=>.dct (es:=[]) (kvs:=[]) aB .nil .nil rfl
theorem Rel.addD (h:Rel K M P H0 σ0 σ env ts H) {p:Addr} (a:H p=none):Rel K M P H0 σ0 σ env (ts++[(.ref p,.tr [p] (fj []))]) (upd H p (.ext (cI p []))):=h.withRes (h.e.addD a) rfl
end
section
variable {X:Cx}{K:PySem.W.Frag}{pos:Pos}{e1 e2:Expr}{tk tv:DE}
noncomputable def xo (tk tv:DE):DE:=λenv R=>tk env λs1 b=>tv b λs2 a=>∃ (k:bh) (d:PyData),aC a s1=some (cY k)/\aC a s2=some d/\∀ S,R (.tr S (fj [(k,d)])) a
theorem CT (hK:X.K=K) (y:X.A.units+2<Kg) (hk:PE X e1 (up K tk)) (z:PE X e2 (up K tv)):PE X (.Dict [some e1] [e2] pos) (up K (xo tk tv)):=by
 subst hK
 refine(As (JD (IQ _) y) hk z).imp λσ H Q h=>?_
 obtain⟨M,P,H0,σ0,env,ts,R,q,C,D⟩:=h
 intro p E
 refine⟨M,P,H0,σ0,env,_,_,q.addD E,C,λs1 j w H1 h1 l=>⟨M,P,H0,σ0,j,_,_,l,h1,λs2 f o H2 h2 m=>?_⟩⟩
 obtain⟨k,d,F,G,I⟩:=h2
 have c:Rel X.K M P H0 σ0 σ f ((ts++[(.ref p,.tr [p] (fj []))])++[(w,s1),(o,s2)]) H2:=by simpa using m
 have g:=c.kept (v:=w) (s:=s1) (by simp) F
 have n:=c.kept (v:=o) (s:=s2) (by simp) G
 have i:=c.drop
 have r:=i.e
 rw[aH] at r g n
 obtain⟨v',ev,ot,U⟩:=r.tr _ _ _ (HA _ HH)
 obtain⟨a,es,t,W,J,L,N,O⟩:=ot.dct_of (kvs:=[]) rfl
 rw[t] at ev
 cases ev
 have u:es=[]:=by simpa using O
 subst u
 obtain⟨b,xs,rfl,_,_⟩:=g.tuple
 refine⟨k,b,rfl,g.dv,J,D _ _ _ _ (I [p]) ?_⟩
 have T:Nw M (aI σ f ts++tmp [(V.ref p,Sl.tr [p] (fj []))]) p:=.inr (by rw[af];exact HA _ (bA.mpr ⟨_,HD.mpr rfl,HD.mpr rfl⟩))
 have x:aV (Nw M (aI σ f ts++tmp [(V.ref p,Sl.tr [p] (fj []))])) H2 (upd H2 p (.ext (cI p [(k,b,o)]))):=aV.own T
 refine i.drop.withRes ?_ rfl
 refine bf.retreeR (B:=[]) (R:=[]) (S:=[p]) r (by simp) (by simp) ?_
 exact .dct (es:=[(k,b,o)]) (kvs:=[(k,d)]) aB ((DNs.cons g .nil).keep x) ((DNs.cons n .nil).keep x) rfl
end
noncomputable abbrev wD (w:List (List Int)):PyData:=.list (w.map λr=>fzD (r.map .int))
noncomputable abbrev fD (W:List (List (List Int))):PyData:=.list (W.map wD)
section
variable {K:PySem.W.Frag}{M P N:Addr->Prop}{H0 H:Hp}{A B:List Ent}{σ0 σ:St}{env:List Sl}{ts:List (V×Sl)}{v:V}{s:Sl}{d:PyData}
theorem OT.unfz {S:List Addr}{ds:List PyData} (h:OT K N H v d S) (e:d=fzD ds):DN K N H v (.list ds)/\S=[]:=by
 cases h with
 | @fz _ ds' h =>
  simp only[fzD,PyData.dict.injEq,List.cons.injEq,Prod.mk.injEq,PyData.list.injEq,and_true,true_and] at e
  subst e
  exact⟨h,rfl⟩
 | dct _ _ _ _=>exact(wT e.symm).elim
 | idc _ _ _=>simp[fzD,i8] at e
 | _=>cases e
theorem DN.unfz {ds:List PyData} (h:DN K N H v d) (e:d=fzD ds):DN K N H v (.list ds):=by
 cases h with
 | @fz _ ds' h =>
  simp only[fzD,PyData.dict.injEq,List.cons.injEq,Prod.mk.injEq,PyData.list.injEq,and_true,true_and] at e
  subst e
  exact h
 | dct _ _ _ _ _=>exact(wT e.symm).elim
 | idc _ _ _ _=>simp[fzD,i8] at e
 | _=>cases e
theorem yL:∀ w:List (List Int),fzs (w.map λr=>PyData.list (r.map .int))=some (w.map λr=>fzD (r.map .int))
 | []=>rfl
 | r::w=>by
  show(fzs (w.map λr=>PyData.list (r.map .int))).map (fzD (r.map .int)::·)=_
  rw[yL w]
  rfl
theorem oJ (w:List (List Int)):eN env (.ow (w.map λr=>PyData.list (r.map .int)))=some (wD w):=by
 show(if nC _=true then _ else _)=_
 rw[yL]
 cases w with
 | nil=>rfl
 | cons r w =>
  rw[if_neg (by simp[nC,noL])]
  rfl
theorem OTs.row:∀ {w:List (List Int)}{us:List V}{S:List Addr},OTs K N H us (w.map λr=>fzD (r.map .int)) S->S=[]/\DNs K N H us (w.map λr=>PyData.list (r.map .int))
 | [],_,_,h=>by cases h;exact⟨rfl,.nil⟩
 | r :: w,_,_,h=>by
  rw[HU] at h
  cases h with
  | cons h q =>
   obtain⟨e1,e2⟩:=OTs.row q
   obtain⟨d1,d2⟩:=h.unfz rfl
   subst e1 d2
   exact⟨rfl,.cons d1 e2⟩
theorem DNs.row:∀ {w:List (List Int)}{us:List V},DNs K N H us (w.map λr=>PyData.list (r.map .int))->OTs K N H us (w.map λr=>fzD (r.map .int)) []
 | [],_,h=>by cases h;exact .nil
 | r::w,_,h=>by
  rw[HU] at h
  cases h with
  | cons h q=>exact .cons (S:=[]) (S':=[]) (.fz h) (DNs.row q)
theorem OTs.last {W:List (List (List Int))}{w:List (List Int)}{vs:List V}{S:List Addr} (h:OTs K N H vs ((W++[w]).map wD) S) :
  ∃ vs' S' b us,vs=vs'++[.ref b]/\S=S'++[b]/\OTs K N H vs' (W.map wD) S'/\H b=some (.lst us)/\DNs K N H us (w.map λr=>PyData.list (r.map .int)):=by
 induction W generalizing vs S with
 | nil =>
  rw[List.nil_append,HU,List.map_nil] at h
  cases h with
  | cons h q =>
   cases q
   cases h with
   | @lst b us _ S a c =>
    obtain⟨e1,e2⟩:=c.row
    subst e1
    exact⟨[],[],b,us,rfl,by simp,.nil,a,e2⟩
 | cons g W d =>
  rw[List.cons_append,HU] at h
  cases h with
  | @cons x xs _ _ e i h q =>
   obtain⟨vs',S',b,us,e1,e2,f,a,dn⟩:=d q
   subst e1 e2
   exact⟨x::vs',e++S',b,us,rfl,by simp,.cons h f,a,dn⟩
theorem OTs.snoc {W:List (List (List Int))}{w:List (List Int)}{vs:List V}{S:List Addr}{b:Addr}{us:List V} (q:OTs K N H vs (W.map wD) S) (a:H b=some (.lst us)) (dn:DNs K N H us (w.map λr=>PyData.list (r.map .int))) :
  OTs K N H (vs++[.ref b]) ((W++[w]).map wD) (S++[b]):=by
 rw[Il]
 refine q.app ?_
 have:=OTs.cons (OT.lst a dn.row) (OTs.nil (K:=K) (N:=N) (H:=H))
 simpa using this
theorem Rel.ways {i:Nat}{S:List Addr}{W:List (List (List Int))}{w:List (List Int)} (h:Rel K M P H0 σ0 σ env ts H) (e:env[i]? = some (.tr S (fD (W++[w])))) :
  ∃ a vs S' b us,σ[i]? = some (some (.ref a))/\S=a::(S'++[b])/\S.Nodup/\(∀ c∈S,Nw M (aI σ env ts) c)/\H a=some (.lst (vs++[.ref b]))/\OTs K (Nw M (aI σ env ts)) H vs (W.map wD) S'/\H b=some (.lst us)/\DNs K (Nw M (aI σ env ts)) H us (w.map λr=>PyData.list (r.map .int)):=by
 obtain⟨x,A,B,e1,q1,n⟩:=h.split e
 obtain⟨o,d,m⟩:=h.slot e
 obtain⟨v,ev,ot,_⟩:=h.e.tr _ _ _ m
 rw[e1] at d
 cases d
 subst ev
 cases ot with
 | @lst a g _ p j q =>
  obtain⟨vs',S',b,us,rfl,rfl,k,l,dn⟩:=OTs.last q
  have f:oas (aI σ env ts)=oas A++((a::(S'++[b]))++oas B):=by rw[q1,af,ai,aU]
  have nd:=h.e.nd
  rw[f] at nd
  refine⟨a,vs',S',b,us,e1,rfl,(HN.mp (HN.mp nd).2.1).1,λc hc=>.inr ?_,j,k,l,dn⟩
  rw[f]
  exact HA _ (HG _ hc)
noncomputable def EG:G2:=λd e R=>∃ ds i x,eO d=some ds/\e=.int i/\atI ds i=some (fzD x)/\R (.list x)
theorem G7:ck K (Ft K) EG:=by
 rintro N H x y d e R Q g b ⟨ds,i,z,e1,rfl,e2,c⟩ f
 obtain⟨a,vs,rfl,s,q⟩:=g.seq e1
 obtain⟨u,e3,dn⟩:=q.atI e2
 rcases s with s|s
 ·exact .inl ⟨a,vs,i,u,rfl,b.int,s,e3,f _ _ c (dn.unfz rfl)⟩
 ·exact .inr ⟨a,vs,i,u,rfl,b.int,s,e3,f _ _ c (dn.unfz rfl)⟩
theorem cG {α:Type} (xs:List α) (v:α):atI (xs++[v]) (-1)=some v:=by
 unfold atI ixN
 rw[if_neg (by decide),if_pos (by rw[Ie];simp;omega)]
 show(xs++[v])[(-1+((xs++[v]).length:Int)).toNat]? = some v
 rw[show(-1+((xs++[v]).length:Int)).toNat=xs.length by rw[Ie];simp;omega]
 simp
end
section
variable {X:Cx}{K:PySem.W.Frag}{pos npos:Pos}{y:Str}{j j2:Nat}{p3 p4 p5 p6 apos cpos:Pos}
noncomputable def km (i:Nat):DT:=λenv R=>∃ (S:List Addr) (W:List (List (List Int))) (w:List (List Int)),env[i]? = some (.tr S (fD (W++[w])))/\R (!w.isEmpty) env
theorem sZ (i:Nat) (hK:X.K=K) (g:X.N[i]? = some y) (k:Vis X.env.scope y:=by first|exact Or.inl rfl|exact Or.inr (Or.inl rfl)|exact Or.inr (Or.inr rfl)) (hd:(y==("__debug__" : Str))=false:=by decide)
  (f:(y==("__classdict__" : Str))=false:=by decide) (l:gq (.UnaryOp .USub (.Constant (.int 1) j p3) p4):=by intro _ _;rfl)
  (m:∀ c,Qk (.Subscript (.Name y npos) (.UnaryOp .USub (.Constant (.int 1) j p3) p4) pos) X.env c=(do let v <-c;KD (Expr.pos (.Subscript (.Name y npos) (.UnaryOp .USub (.Constant (.int 1) j p3) p4) pos));Kk [v] (QE v)):=by intro _;rfl) :
  PT X (.Subscript (.Name y npos) (.UnaryOp .USub (.Constant (.int 1) j p3) p4) pos) (upT K (km i)) :=
 (yA (K:=K) hK (tL (ah hK) (cP g k hd f) ni l) m).imp λσ H Q h=>by
 obtain⟨M,P,H0,σ0,env,ts,R,d,⟨S,W,w,e,n⟩,o⟩:=h
 obtain⟨a,vs,S',b,us,p,_,_,_,q,_,s,dn⟩:=d.ways e
 refine⟨.ref a,p,.inl ⟨a,_,-1,.ref b,rfl,rfl,SqL.of q,cG _ _,_,.inl ⟨us,SqL.of s,?_⟩,o _ _ _ n d⟩⟩
 have:=dn.len
 cases us with
 | nil=>cases w with
  | nil=>rfl
  | cons r w=>simp at this
 | cons u us=>cases w with
  | nil=>simp at this
  | cons r w=>rfl
noncomputable def qm (i:Nat):DE:=λenv R=>∃ (S:List Addr) (W:List (List (List Int))) (r:List Int) (w:List (List Int)),env[i]? = some (.tr S (fD (W++[r::w])))/\R (.fr (.list (r.map .int))) env
theorem zX (i:Nat) (hK:X.K=K) (k:X.N[i]? = some y) (l:Vis X.env.scope y:=by first|exact Or.inl rfl|exact Or.inr (Or.inl rfl)|exact Or.inr (Or.inr rfl)) (hd:(y==("__debug__" : Str))=false:=by decide)
  (d:(y==("__classdict__" : Str))=false:=by decide) (m:gq (.UnaryOp .USub (.Constant (.int 1) j p3) p4):=by intro _ _;rfl) (f:gq (.Constant (.int 0) j2 p5):=by intro _ _;rfl) :
  PE X (.Subscript (.Subscript (.Name y npos) (.UnaryOp .USub (.Constant (.int 1) j p3) p4) pos) (.Constant (.int 0) j2 p5) p6) (up K (qm i)) :=
 (tL (ah hK) (tL (ah hK) (cP k l hd d) ni m) pk f).imp λσ H Q h=>by
 obtain⟨M,P,H0,σ0,env,ts,R,c,⟨S,W,r,w,e,n⟩,o⟩:=h
 obtain⟨a,vs,S',b,us,p,_,_,_,q,_,s,dn⟩:=c.ways e
 rw[HU] at dn
 cases dn with
 | @cons u us _ _ g t =>
  exact⟨.ref a,p,.inl ⟨a,_,-1,.ref b,rfl,rfl,SqL.of q,cG _ _,.inl ⟨b,_,0,u,rfl,rfl,SqL.of s,by simp[atI,ixN],o _ _ _ _ n (c.addFr g)⟩⟩⟩
noncomputable def qj (i:Nat):DE:=λenv R=>∃ (S:List Addr) (W:List (List (List Int))) (r:List Int) (w:List (List Int)),env[i]? = some (.tr S (fD (W++[r::w])))/\R (.fr (.list (r.map .int))) (env.set i (.tr S (fD (W++[w]))))
theorem zU (i:Nat) (hK:X.K=K) (L:X.N[i]? = some y) (O:Vis X.env.scope y:=by first|exact Or.inl rfl|exact Or.inr (Or.inl rfl)|exact Or.inr (Or.inr rfl)) (hd:(y==("__debug__" : Str))=false:=by decide)
  (n:(y==("__classdict__" : Str))=false:=by decide) (T:gq (.UnaryOp .USub (.Constant (.int 1) j p3) p4):=by intro _ _;rfl)
  (l:kq [.Constant (.int 0) j2 p5] X.env=[(false,eval (.Constant (.int 0) j2 p5) X.env)]:=by rfl)
  (f:Kj (.Subscript (.Name y npos) (.UnaryOp .USub (.Constant (.int 1) j p3) p4) pos) "pop" X.env (eval (.Subscript (.Name y npos) (.UnaryOp .USub (.Constant (.int 1) j p3) p4) pos) X.env)=eval (.Subscript (.Name y npos) (.UnaryOp .USub (.Constant (.int 1) j p3) p4) pos) X.env:=by rfl)
  (m:((J0 cpos (kq [.Constant (.int 0) j2 p5] X.env)).all (λx=>!x.1)&&(QM cpos (Qj [] X.env)).all (λx=>x.1.isSome)&&decide ([Expr.Constant (.int 0) j2 p5].length+([]:List KW).length+(if ([]:List KW).isEmpty then 0 else 1)<30))=true:=by rfl)
  (g:(apos.endLine==cpos.line)=true:=by rfl) (d:(J0 cpos (kq [] X.env)).any (·.1)=false:=by rfl) :
  PE X (.Call (.Attribute (.Subscript (.Name y npos) (.UnaryOp .USub (.Constant (.int 1) j p3) p4) pos) "pop" apos) [.Constant (.int 0) j2 p5] [] cpos) (up K (qj i)) :=
 (kBm (K:=K) hK PySem.F.plainAttrs_list PySem.F.slot_list_pop PySem.F.type_list_pop wo (tL (ah hK) (cP L O hd n) ni T) (f8 pk ln l) f m g l d).imp λσ H Q h=>by
 obtain⟨M,P,H0,σ0,env,ts,R,k,⟨S,W,r,w,e,U⟩,V⟩:=h
 obtain⟨a,vs,S',b,us,p,G,s,t,I,q,J,dn⟩:=k.ways e
 rw[HU] at dn
 cases dn with
 | @cons u us _ _ v C =>
  refine⟨.ref a,p,.inl ⟨a,_,-1,.ref b,rfl,rfl,SqL.of I,cG _ _,.inl ⟨rfl,_,SqL.of J⟩,b,_,0,0,u,rfl,rfl,J,by decide,by decide,by simp[QQ],rfl,V _ _ _ _ U ?_⟩⟩
  have mb:b∈S:=by rw[G];simp
  have D:aV (Nw M (aI σ env ts)) H (upd H b (.lst us)):=aV.own (t b mb)
  subst G
  obtain⟨Y,Z⟩:=Iu.mp s
  obtain⟨n3,n4,n5⟩:=HN.mp Z
  have E:a≠b:=λz=>Y (by rw[z];simp)
  refine Rel.addFr (k.retreeT (R:=[]) e p mb (by simp) ?_) ?_
  ·refine .lst (by rw[al E];exact I) ?_
   refine OTs.snoc (q.keep D λc hc=>al λz=>n5 c hc b (by simp) z) aB (C.keep D)
  ·have oe:aI σ (env.set i (.tr (a::(S'++[b])) (fD (W++[w])))) ts=aI σ (env.set i (.tr (a::(S'++[b])) (fD (W++[w])))) ts:=rfl
   obtain⟨x,A,B,e1,q1,q2⟩:=k.split e
   refine(v.keep D).to λc o _ z=>?_
   rw[q2] at z
   rw[q1]
   rcases z with z|z
   ·exact .inl z
   ·refine .inr ?_
    rw[p] at e1
    cases e1
    rw[af,ai,aU] at z ⊢
    exact z
noncomputable def xj (i:Nat):DE:=λenv R=>∃ (S:List Addr) (W:List (List (List Int))) (w:List (List Int)),env[i]? = some (.tr S (fD (W++[w])))/\∀ S',R .un (env.set i (.tr S' (fD W)))
theorem CN (i:Nat) (hK:X.K=K) (u:X.N[i]? = some y) (v:Vis X.env.scope y:=by first|exact Or.inl rfl|exact Or.inr (Or.inl rfl)|exact Or.inr (Or.inr rfl)) (hd:(y==("__debug__" : Str))=false:=by decide)
  (k:(y==("__classdict__" : Str))=false:=by decide)
  (d:Kj (.Name y npos) "pop" X.env (eval (.Name y npos) X.env)=eval (.Name y npos) X.env:=by rfl) (f:(apos.endLine==cpos.line)=true:=by rfl) :
  PE X (.Call (.Attribute (.Name y npos) "pop" apos) [] [] cpos) (up K (xj i)) :=
 (GE (K:=K) hK PySem.F.plainAttrs_list PySem.F.slot_list_pop PySem.F.type_list_pop yr (cP u v hd k) d f).imp λσ H Q h=>by
 obtain⟨M,P,H0,σ0,env,ts,R,g,⟨S,W,w,e,A⟩,B⟩:=h
 obtain⟨a,vs,S',b,us,p,C,l,n,r,q,I,dn⟩:=g.ways e
 subst C
 refine⟨.ref a,p,.inl ⟨rfl,_,SqL.of r⟩,a,_,.ref b,rfl,rfl,r,by simp,B _ _ _ _ (A (a::S')) ?_⟩
 have s:a∈a::(S'++[b]):=HH
 have D:aV (Nw M (aI σ env ts)) H (upd H a (.lst vs)):=aV.own (n a s)
 obtain⟨E,J⟩:=Iu.mp l
 rw[List.dropLast_concat]
 have j:=g.retreeT (o:=.lst vs) (S':=a::S') (R:=[b]) (d':=fD W) e p s (by simp) (.lst aB (q.keep D λc hc=>al λz=>E (by rw[<-z];simp[hc])))
 have G:bf K M P H0 (aI σ (env.set i (.tr (a::S') (fD W))) ts++tmp [(V.ref b,Sl.un)]) (upd H a (.lst vs)):=by
  refine j.e.sub (λx t m=>?_) ?_
  ·rcases HF.mp m with m|m
   ·exact .inl m
   ·have m:=HD.mp m
    injection m with m1 m2
    exact .inr (.inl m2)
  ·rw[af]
   show(oas _++oas [(some (.ref b),Sl.un)]).Nodup
   rw[show oas [((some (.ref b),Sl.un):Ent)]=[] from rfl,Iy]
   exact j.e.nd
 refine⟨by rw[aH];exact G,j.len,λw i m=>?_,j.ios⟩
 rcases HF.mp m with m|m
 ·exact j.vw w i m
 ·rw[HD] at m
  cases m
end
end _L
namespace _L
open PySem PySem.Spec PyProof.Rows PySem.W
theorem bZ {α β:Type}{lt:Nat->Nat->Bool}{f:α->KasT β}:∀ t:KasT α,aq lt (t.bind f)=aq lt (f (aq lt t))
 | .ret a=>rfl
 | .ask i j k=>bZ (k (lt i j))
theorem rp {α:Type}{lt:Nat->Nat->Bool}{i j:Nat}{k:Bool->KasT α}:aq lt (.ask i j k)=aq lt (k (lt i j)):=rfl
noncomputable def gA (p:Array Nat) (k:Nat):Nat:=p.getD k 0
theorem gC {p:Array Nat}{i j:Nat} (hj:j<=p.size) (k:Nat):gA (KF p i j) k=if i<=k/\k<j then gA p (i+j - 1 - k) else gA p k:=by
 unfold gA KF
 rw[Array.getD_eq_getD_getElem?,getElem?_mirror_all hj]
 split <;> rw[Array.getD_eq_getD_getElem?]
theorem yK {p:Array Nat}{a d:Nat} (b:a<p.size) (hd:d<=a) (k:Nat):gA (bubble p a d) k=if k=a - d then gA p a else if a - d<k/\k<=a then gA p (k - 1) else gA p k:=by
 unfold gA
 rw[Array.getD_eq_getD_getElem?,getElem?_bubble b d hd]
 by_cases c1:k=a - d
 ·rw[if_pos c1,if_pos c1,<-Array.getD_eq_getD_getElem?]
 ·rw[if_neg c1,if_neg c1]
  by_cases c2:a - d<k/\k<=a
  ·rw[if_pos c2,if_pos c2,<-Array.getD_eq_getD_getElem?]
  ·rw[if_neg c2,if_neg c2,<-Array.getD_eq_getD_getElem?]
theorem dA (p:Array Nat) (i j:Nat):(KF p i j).size=p.size:=mirror_size _ _ _ _
section
variable {lt:Nat->Nat->Bool}(as:∀ a b,lt a b=true->lt b a=false) (tr:∀ a b c,lt a b=false->lt b c=false->lt a c=false)
noncomputable def jd (lt:Nat->Nat->Bool) (p:Array Nat) (n:Nat):Prop:=∀ i,1<=i->i<n->lt (gA p i) (gA p (i - 1))=false
noncomputable def fV (lt:Nat->Nat->Bool) (p:Array Nat) (n:Nat):Prop:=∀ i,1<=i->i<n->lt (gA p (i - 1)) (gA p i)=false
include as tr
theorem yt (a:Nat):lt a a=false:=by
 cases e:lt a a with
 | false=>rfl
 | true=>have:=as a a e;rw[e] at this;cases this
theorem jd.far {p:Array Nat}{n:Nat} (h:jd lt p n):∀ d a,a+d<n->lt (gA p (a+d)) (gA p a)=false
 | 0,a,_=>yt as tr _
 | d+1,a,hd=>by
  have h1:=h (a+(d+1)) (by omega) hd
  rw[show a+(d+1) - 1=a+d by omega] at h1
  exact tr _ _ _ h1 (jd.far h d a (by omega))
theorem jd.le {p:Array Nat}{n:Nat} (h:jd lt p n) {a b:Nat} (c:a<=b) (d:b<n):lt (gA p b) (gA p a)=false:=by
 have:=jd.far as tr h (b - a) a (by omega)
 rwa [show a+(b - a)=b by omega] at this
theorem fV.far {p:Array Nat}{n:Nat} (h:fV lt p n):∀ d a,a+d<n->lt (gA p a) (gA p (a+d))=false
 | 0,a,_=>yt as tr _
 | d+1,a,hd=>by
  have h1:=h (a+(d+1)) (by omega) hd
  rw[show a+(d+1) - 1=a+d by omega] at h1
  exact tr _ _ _ (fV.far h d a (by omega)) h1
theorem fV.le {p:Array Nat}{n:Nat} (h:fV lt p n) {a b:Nat} (c:a<=b) (d:b<n):lt (gA p a) (gA p b)=false:=by
 have:=fV.far as tr h (b - a) a (by omega)
 rwa [show a+(b - a)=b by omega] at this
omit as tr in
theorem oh {p:Array Nat}:∀ (f n:Nat),1<=n->jd lt p n->n<=aq lt (KU p f n)/\aq lt (KU p f n)<=n+f/\jd lt p (aq lt (KU p f n))/\(aq lt (KU p f n)<n+f->lt (gA p (aq lt (KU p f n))) (gA p (aq lt (KU p f n) - 1))=true)
 | 0,n,_,h=>⟨HK _,HK _,h,λz=>absurd z (IU _)⟩
 | f + 1,n,hn,h=>by
  have e:aq lt (KU p (f+1) n)=aq lt (if lt (gA p n) (gA p (n - 1))=true then KasT.ret n else KU p f (n+1)):=rfl
  rw[e]
  cases c:lt (gA p n) (gA p (n - 1)) with
  | true=>exact⟨HK _,by show n<=_;omega,h,λ_=>c⟩
  | false =>
   rw[if_neg (by decide)]
   obtain⟨a1,a2,a3,b⟩:=oh (p:=p) f (n+1) (by omega) λi hi d=>by
    by_cases a:i=n
    ·rw[a];exact c
    ·exact h i hi (by omega)
   exact⟨by omega,by omega,a3,λz=>b (by omega)⟩
theorem qi {p:Array Nat}{n q:Nat} (hz:n<=p.size) (c:q+1<=n) (h:fV lt p n) (b:∀ i,n - (q+1)<=i->i+1<n->lt (gA p (i+1)) (gA p i)=false):fV lt (KF p (n - (q+1)) n) n:=by
 intro i h1 h2
 rw[gC hz,gC hz]
 by_cases hi:n - (q+1)<=i
 ·rw[if_pos (show n - (q+1)<=i/\i<n from⟨hi,h2⟩)]
  by_cases a:n - (q+1)<=i - 1
  ·rw[if_pos (show n - (q+1)<=i - 1/\i - 1<n from⟨a,by omega⟩)]
   have:=b (n - (q+1)+n - 1 - i) (by omega) (by omega)
   rwa [show n - (q+1)+n - 1 - i+1=n - (q+1)+n - 1 - (i - 1) by omega] at this
  ·rw[if_neg (by omega)]
   exact fV.le as tr h (by omega) (by omega)
 ·rw[if_neg (by omega),if_neg (by omega)]
  exact h i h1 h2
theorem xf (f:Nat):∀ (p:Array Nat) (n q:Nat),n+f<=p.size->q+1<=n->fV lt p n->(∀ i,n - (q+1)<=i->i+1<n->lt (gA p (i+1)) (gA p i)=false) ->
  ∃ g b j,aq lt (K7 f p n q)=(g,b,j)/\g.size=p.size/\n<=b/\b<=n+f/\j+1<=b/\fV lt g b/\∀ i,b - (j+1)<=i->i+1<b->lt (gA g (i+1)) (gA g i)=false:=by
 induction f with
 | zero=>exactλp n q _ s h k=>⟨p,n,q,rfl,rfl,HK _,HK _,s,h,k⟩
 | succ f t =>
  intro p n q hz s h k
  have e:aq lt (K7 (f+1) p n q)=aq lt (if lt (gA p n) (gA p (n - 1))=true then (if q>0 then K7 f (KF p (n - (q+1)) n) (n+1) 0 else K7 f p (n+1) 0)
   else .ask (p.getD (n - 1) 0) (p.getD n 0) λd=>if d=true then .ret (p,n,q) else K7 f p (n+1) (q+1)):=rfl
  rw[e]
  cases c:lt (gA p n) (gA p (n - 1)) with
  | true =>
   rw[if_pos rfl]
   have c':=as _ _ c
   by_cases l:q>0
   ·rw[if_pos l]
    have hd:=qi as tr (p:=p) (n:=n) (q:=q) (by omega) s h k
    obtain⟨g,b,j,a1,a2,a3,u,m,o,r⟩:=t (KF p (n - (q+1)) n) (n+1) 0 (by rw[dA];omega) (by omega) (λi h1 h2=>by
     by_cases a:i=n
     ·subst a
      rw[gC (by omega),gC (by omega),if_neg (show ¬(i - (q+1)<=i/\i<i) by omega),if_pos (show i - (q+1)<=i - 1/\i - 1<i by omega)]
      refine tr _ _ _ ?_ c'
      exact fV.le as tr h (by omega) (by omega)
     ·exact hd i h1 (by omega)) (λi h1 h2=>by omega)
    exact⟨g,b,j,a1,by rw[a2,dA],by omega,by omega,m,o,r⟩
   ·rw[if_neg l]
    obtain⟨g,b,j,a1,a2,a3,u,m,o,r⟩:=t p (n+1) 0 (by omega) (by omega) (λi h1 h2=>by
     by_cases a:i=n
     ·subst a;exact c'
     ·exact h i h1 (by omega)) (λi h1 h2=>by omega)
    exact⟨g,b,j,a1,a2,by omega,by omega,m,o,r⟩
  | false =>
   rw[if_neg (by decide)]
   have e2:aq lt (KasT.ask (p.getD (n - 1) 0) (p.getD n 0) λd=>if d=true then .ret (p,n,q) else K7 f p (n+1) (q+1))=aq lt (if lt (gA p (n - 1)) (gA p n)=true then .ret (p,n,q) else K7 f p (n+1) (q+1)):=rfl
   rw[e2]
   cases c2:lt (gA p (n - 1)) (gA p n) with
   | true=>exact⟨p,n,q,rfl,rfl,HK _,by omega,s,h,k⟩
   | false =>
    rw[if_neg (by decide)]
    obtain⟨g,b,j,a1,a2,a3,u,m,o,r⟩:=t p (n+1) (q+1) (by omega) (by omega) (λi h1 h2=>by
     by_cases a:i=n
     ·subst a;exact c2
     ·exact h i h1 (by omega)) (λi h1 h2=>by
     by_cases a:i+1=n
     ·rw[a]
      have:i=n - 1:=by omega
      rw[this];exact c
     ·exact k i (by omega) (by omega))
    exact⟨g,b,j,a1,a2,by omega,by omega,m,o,r⟩
omit as tr in
theorem kQ {p:Array Nat}{n nrem:Nat} (h1:1<=n) (hn:n<=nrem) (hz:nrem<=p.size) (h:fV lt p n) :
  ∃ m a,aq lt (QR n nrem p)=(m,a)/\a.size=p.size/\1<=m/\m<=nrem/\jd lt a m:=by
 unfold QR
 rw[bZ]
 have b:jd lt (KF p 0 n) n:=λi i1 i2=>by
  rw[gC (by omega),gC (by omega),if_pos (by omega),if_pos (by omega)]
  have:=h (n - i) (by omega) (by omega)
  rwa [show n - i - 1=0+n - 1 - i by omega,show n - i=0+n - 1 - (i - 1) by omega] at this
 obtain⟨a1,a2,a3,_⟩:=oh (lt:=lt) (p:=KF p 0 n) (nrem - n) n h1 b
 exact⟨_,_,rfl,dA _ _ _,by omega,by omega,a3⟩
theorem gF {p:Array Nat}{n nrem:Nat} (hn:n+1<=nrem) (hz:nrem<=p.size) (h:fV lt p (n+1)) :
  ∃ m a,aq lt (QZ n nrem p)=(m,a)/\a.size=p.size/\1<=m/\m<=nrem/\jd lt a m:=by
 unfold QZ
 rw[bZ]
 obtain⟨a,b,g,a1,a2,a3,l,j,f,k⟩:=xf as tr (nrem - (n+1)) p (n+1) 0 (by omega) (by omega) h λi h1 h2=>by omega
 rw[a1]
 dsimp only
 split
 ·obtain⟨m,p2,c,d,e⟩:=kQ (p:=KF a (b - (g+1)) b) (n:=b) (nrem:=nrem) (by omega) (by omega) (by rw[dA];omega) (qi as tr (by omega) j f k)
  exact⟨m,p2,c,by rw[d,dA,a2],e⟩
 ·obtain⟨m,p2,c,d,e⟩:=kQ (p:=a) (n:=b) (nrem:=nrem) (by omega) (by omega) (by omega) f
  exact⟨m,p2,c,by rw[d,a2],e⟩
theorem uT {p:Array Nat}{nrem:Nat} (h1:1<=nrem) (hz:nrem<=p.size):∃ m f,aq lt (kas_count nrem p)=(m,f)/\f.size=p.size/\1<=m/\m<=nrem/\jd lt f m:=by
 unfold kas_count
 rw[bZ]
 obtain⟨a1,a2,a3,h⟩:=oh (lt:=lt) (p:=p) (nrem - 1) 1 (HK _) λi i1 i2=>by omega
 generalize aq lt (KU p (nrem - 1) 1)=n at *
 split
 ·exact⟨n,p,rfl,rfl,a1,by omega,a3⟩
 ·rename_i b
  have b:n≠nrem:=λz=>b (by rw[z];simp)
  have g:=h (by omega)
  have a:=as _ _ g
  split
  ·rename_i hn1
   rw[rp]
   have e:lt (p.getD 0 0) (p.getD (n - 1) 0)=lt (gA p 0) (gA p (n - 1)):=rfl
   rw[e]
   cases c:lt (gA p 0) (gA p (n - 1)) with
   | true=>exact⟨n,p,rfl,rfl,a1,by omega,a3⟩
   | false =>
    rw[if_neg (by decide)]
    obtain⟨m,p2,j,k,l⟩:=gF as tr (p:=KF p 0 n) (n:=n) (nrem:=nrem) (by omega) (by rw[dA];omega) λi i1 i2=>by
     rw[gC (by omega),gC (by omega),if_pos (show 0<=i - 1/\i - 1<n by omega)]
     by_cases o:i<n
     ·rw[if_pos (show 0<=i/\i<n by omega)]
      exact jd.le as tr a3 (by omega) (by omega)
     ·rw[if_neg (show ¬(0<=i/\i<n) by omega)]
      have d:i=n:=by omega
      subst d
      rw[show 0+i - 1 - (i - 1)=0 by omega]
      exact tr _ _ _ c a
    exact⟨m,p2,j,by rw[k,dA],l⟩
  ·rename_i hn1
   have hn2:n=1:=by omega
   subst hn2
   exact gF as tr (by omega) hz λi i1 i2=>by
    have:i=1:=by omega
    subst this
    exact a
theorem iq {p:Array Nat}{k:Nat} (h:jd lt p k):∀ f l r,l<=r->r<=k->r - l<=f->(∀ i,i<l->lt (gA p k) (gA p i)=false)->(∀ i,r<=i->i<k->lt (gA p k) (gA p i)=true) ->
  ∃ m,aq lt (KL p k f l r)=m/\m<=k/\(∀ i,i<m->lt (gA p k) (gA p i)=false)/\∀ i,m<=i->i<k->lt (gA p k) (gA p i)=true
 | 0,l,r,h1,h2,g,b,d=>⟨l,rfl,by omega,b,λi i1 i2=>d i (by omega) i2⟩
 | f + 1,l,r,h1,h2,g,b,d=>by
  by_cases a:l≥r
  ·have e:aq lt (KL p k (f+1) l r)=l:=by show aq lt (if l≥r then KasT.ret l else _)=_;rw[if_pos a];rfl
   exact⟨l,e,by omega,b,λi i1 i2=>d i (by omega) i2⟩
  ·have e:aq lt (KL p k (f+1) l r)=aq lt (if lt (gA p k) (gA p ((l+r) / 2))=true then KL p k f l ((l+r) / 2) else KL p k f ((l+r) / 2+1) r):=by
    show aq lt (if l≥r then KasT.ret l else _)=_
    rw[if_neg a]
    rfl
   rw[e]
   cases c:lt (gA p k) (gA p ((l+r) / 2)) with
   | true =>
    rw[if_pos rfl]
    refine iq h f l ((l+r) / 2) (by omega) (by omega) (by omega) b λi i1 i2=>?_
    cases c2:lt (gA p k) (gA p i) with
    | true=>rfl
    | false =>
     have:=tr _ _ _ c2 (jd.le as tr h i1 i2)
     rw[c] at this
     cases this
   | false =>
    rw[if_neg (by decide)]
    refine iq h f ((l+r) / 2+1) r (by omega) h2 (by omega) (λi i1=>?_) d
    exact tr _ _ _ c (jd.le as tr h (by omega) (by omega))
theorem u5:∀ (f:Nat) (p:Array Nat) (k:Nat),k+f=p.size->jd lt p k->jd lt (aq lt (kas_bin f p k)) p.size
 | 0,p,k,e,h=>by
  rw[<-e,Nat.add_zero]
  exact h
 | f + 1,p,k,e,h=>by
  have e1:aq lt (kas_bin (f+1) p k)=aq lt (kas_bin f (bubble p k (k - aq lt (KL p k k 0 k))) (k+1)):=by
   show aq lt ((KL p k k 0 k).bind _)=_
   rw[bZ]
  rw[e1]
  obtain⟨m,a,d,b,c⟩:=iq as tr h k 0 k (Ig _) (HK _) (by omega) (λi hi=>by omega) λi i1 i2=>by omega
  rw[a]
  have hsz:(bubble p k (k - m)).size=p.size:=bubble_size _ _ _
  rw[<-hsz]
  refine u5 f _ (k+1) (by rw[hsz];omega) λi i1 i2=>?_
  rw[yK (by omega) (by omega),yK (by omega) (by omega),show k - (k - m)=m by omega]
  by_cases c1:i=m
  ·rw[if_pos c1,if_neg (by omega),if_neg (by omega)]
   exact b (i - 1) (by omega)
  ·rw[if_neg c1]
   by_cases c2:m<i
   ·rw[if_pos (show m<i/\i<=k by omega)]
    by_cases c3:i - 1=m
    ·rw[if_pos c3,c3]
     exact as _ _ (c m (HK _) (by omega))
    ·rw[if_neg c3,if_pos (show m<i - 1/\i - 1<=k by omega)]
     exact h (i - 1) (by omega) (by omega)
   ·rw[if_neg (by omega),if_neg (by omega),if_neg (by omega)]
    exact h i i1 (by omega)
theorem oU {n:Nat} (h1:1<=n):jd lt (aq lt (Ka n)) n:=by
 unfold Ka
 rw[bZ]
 have hz:(List.toArray (List.range n)).size=n:=by simp
 obtain⟨m,p,a1,a2,a3,c,b⟩:=uT as tr (p:=List.toArray (List.range n)) (nrem:=n) h1 (by rw[hz];exact HK _)
 rw[a1]
 dsimp only
 rw[hz] at a2
 split
 ·rw[show max m 1=m by omega]
  have:=u5 as tr (n - m) p m (by omega) b
  rwa [a2] at this
 ·have a:n=m:=by omega
  rw[a]
  exact b
end
noncomputable def DH (d:PyData):Prop:=∃ n:Int,d=.int n
noncomputable def rY (CX:CXT) (P:zb) (w:zf) (K:PySem.W.Frag) (mg:Str->Option Value) (base:Heap) (N:List Str) (qual:Str) (scope:Kc) (f:Addr) (cd:Value) (b:List (Str×Addr)) (A:Around) (outer:List Env) (s:Shared) (H:Hp) (E:XK):Cx where
 prog:=P
 w := w
 K := K
 mg := mg
 base:=base
 A := A.deeper (envX qual scope s.heap.objs.size f cd b)
 N := N
 s₀ := s
 H₀ := H
 env:=envX qual scope s.heap.objs.size f cd b
 outer:=outer
 stack:=envX qual scope s.heap.objs.size f cd b::outer
 ex := []
 calm:=true
 fn := λ_=>false
 pn := []
 xe := λe s'=>qb (q3 P w) (A.deeper (envX qual scope s.heap.objs.size f cd b)) (leaving (envX qual scope s.heap.objs.size f cd b) e) (λ_ a=>CX outer H s E e a) (λc a=>CX outer H s E c a) s'
structure dJ (p x:Str) (sc:Kc):Prop where
 kind:sc.kind=.function
 co : sc.isCoroutine=false
 gen:sc.isGenerator=false
 par:sc.names.lookup p=some .local
 fre:sc.names.lookup x=some .free
 nocell:∀ y∈sc.names,y.2≠.cell
 one:∀ y∈sc.names,y.2=.free->y.1=x
 ne : p≠x
section
variable {CX:CXT}{P:zb}{w:zf}{K:PySem.W.Frag}{mg:Str->Option Value}{base:Heap}{qual p x:Str}{scope:Kc}{f c:Addr}{cd:Value}{A:Around}{outer:List Env}{s:Shared}{H:Hp}{E:XK}{u u0:Value}{v v0:V}{h₁:Heap}{tk:Nat}
theorem rC (S:dJ p x scope) (hd:A.handled=none) (g:r9 P w K mg base A outer s H) (e:s.heap.IsCell c (some u0)) (t:bw v0 u0) (l:H c=none) (r:bw v u)
  (m:h₁.Ns s.heap.objs.size (λy=>[(p,u)].reverse.lookup y)) (hk:∀ b o,s.heap.get? b=some o->h₁.get? b=some o) :
  Inv (rY CX P w K mg base [p,x] qual scope f cd [(x,c)] A outer s H E) [] [some v,some v0] H { s with heap:=h₁,toks:=tk }:=by
 have j:∀ b:Addr,b ∉ (rY CX P w K mg base [p,x] qual scope f cd [(x,c)] A outer s H E).ex:=λb z=>absurd (show b∈([]:List Addr) from z) (by simp)
 have a:∀ y d,List.lookup y [(x,c)]=some d->y=x/\d=c:=λy d h=>by
  have:=PySem.mem_of_lookup h
  rw[HD] at this
  cases this
  exact⟨rfl,rfl⟩
 have n:List.lookup x [(x,c)]=some c:=by simp
 refine⟨⟨g.mod,S.kind,rfl,rfl,HK _,λy z d h1 h2=>?_,λy k=>?_,λy d h=>absurd h (by show ¬false=true;decide),λ_=>hd,Around.frames_deeper g.frames,.inr ⟨rfl,rfl⟩,λb z=>absurd z (j b),g.bs,g.bsz,λb _ _=>j b,λb z=>absurd z (j b),g.funs,g.frf,g.tab⟩,
  rfl,g.bare,Un.kept hk,⟨_,m,λi y z h1 h2 C=>?_⟩,λy d h=>?_,g.hok.fresh (HK _),λy d h=>?_,λq B=>absurd (show q∈([]:List (Addr×Obj)) from B) (by simp),g.hok.kept hk,rfl⟩
 ·rw[(a y d h1).1,(a z d h2).1]
 ·have k:scope.names.lookup y=some .cell\/scope.names.lookup y=some .free:=k
  rcases k with k|k
  ·exact absurd rfl (S.nocell _ (PySem.mem_of_lookup k))
  ·have:=S.one _ (PySem.mem_of_lookup k) rfl
   simp only at this
   rw[this]
   exact⟨c,n⟩
 ·match i,h1,h2 with
  | 0,h1,h2 =>
   have h1:p=y:=by simpa[rY] using h1
   have h2:v=z:=by simpa using h2
   subst h1 h2
   refine⟨u,r,.inl ⟨S.par,?_⟩⟩
   simp
  | 1,h1,h2 =>
   have h1:x=y:=by simpa[rY] using h1
   have h2:v0=z:=by simpa using h2
   subst h1 h2
   exact⟨u0,t,.inr ⟨.inr S.fre,c,n,e.keeps hk⟩⟩
  | i+2,h1,h2=>simp at h2
 ·obtain⟨_,rfl⟩:=a y d h
  exact⟨_,e.keeps hk⟩
 ·obtain⟨_,rfl⟩:=a y d h
  exact l
theorem wy {params:KM}{body:Expr}{pm ctv:Value}{c':Addr}{t:TE}{Q:VK}{k:Nat} (S:dJ p x scope) (B:cJ (k+1) A) (h:r9 P w K mg base A outer s H) (ho:s.heap.get? f=some (KT "<lambda>" qual params body scope [(x,c)] pm c' ctv)) (i:s.heap.CodeRec (.ref c') qual)
  (C:ze (Qi "<lambda>" qual params body scope [(x,c)] pm (.ref c') ctv) ⟨[u],[]⟩=pure [(p,u)]) (a:s.heap.IsCell c (some u0)) (D:bw v0 u0) (j:H c=none) (r:bw v u)
  (F:PE (rY CX P w K mg base [p,x] qual scope f (.ref c') [(x,c)] A outer s H E) body t) (G:t [some v,some v0] H Q):Kx (q3 P w) A (.call (.ref f) ⟨[u],[]⟩) (CR CX outer P w H s Q E) s:=by
 have l:s.heap.NoLimit:=h.mod.nolimit.keeps λb o e=>(h.bs b o e).1
 refine kla_callFunE B.depth ho rfl S.co S.gen rfl i ?_
 rw[C]
 refine ke (wpAny_newFunctionEnv S.nocell (λy L=>by rw[HD.mp L];exact S.par) (λh₁ m g=>⟨l.fresh _ g,?_⟩) S.kind)
 have d:∀ b o,s.heap.get? b=some o->h₁.get? b=some o:=λb o e=>g.extBut b o (HZ (HL e)) (HE _ e)
 show Kx _ _ (.expr body (envX qual scope s.heap.objs.size f (.ref c') [(x,c)])) _ _
 refine kla_codeExpr ?_
 have I:=rC (CX:=CX) (E:=E) (qual:=qual) (f:=f) (cd:=.ref c') (tk:=s.toks+[(p,u)].length) S B.hd h a D j r m d
 refine zg (F [] _ _ H _ I G) (λN s' n=>?_) λe s' n=>n
 obtain⟨z,H',J,M,q⟩:=n
 exact⟨z,H',J.os,J.bare,J.base,J.hok,M,q⟩
end
section
variable {X:Cx}{pins:List (Addr×Obj)}{σ:St}{H:Hp}{s:Shared}{params:KM}{body:Expr}{scope:Kc}{pos:Pos}{E:Value->Shared->Prop}{clos:List (Str×Addr)}
theorem lL (I:Inv X pins σ H s) (L:mF X) (l:Ki scope X.env=pure clos) (m:KA params X.env=([],[])) {Q:Value->Shared->Prop}
  (h : ∀ f c' pm ctv s' H',Inv X pins σ H' s'->aR H H'->s'.heap.get? f=some (KT "<lambda>" (X.env.qual ++ "<lambda>") params body scope clos pm c' ctv)->eU X pins H' f->Ew H' c' (X.env.qual ++ "<lambda>")->Q (.ref f) s') :
  qb (q3 X.prog X.w) X.A (eval (.Lambda params body scope pos) X.env) Q E s:=by
 obtain⟨c,T,a,C,U⟩:=L
 have P:H T=some (.tbl (X.env.qual ++ "<lambda>")):=I.base.tbls T _ (I.ok.tab T _ U)
 obtain⟨ps,e,g,d⟩:=I.hok T _ P
 obtain⟨bm,ob,V,W,z,R,Y,B⟩:=I.mod.bmain
 have y:=I.mod.glob.keeps I.bk
 have D:qs≠T:=λq=>by
  obtain⟨o,es,ep,j,hd,_⟩:=y
  rw[q,e] at j;cases j;cases hd
 have F:bm≠T:=λq=>by
  have j:=I.bk _ _ z
  rw[q,e] at j;cases j;cases R
 have G:bm≠qs:=λq=>by
  obtain⟨o,es,ep,j,hd,_⟩:=y
  have e2:=I.bk _ _ z
  rw[q,j] at e2;cases e2;rw[hd] at B;cases B
 have S:s.heap.BuiltinsAt X.mg T:=⟨bm,ob,V,W,G,F,I.bk _ _ z,R,Y,B⟩
 refine kla_eval m ?_
 cases hc:Ql pos ps.toList with
 | none =>
  refine kla_makeFunction l I.ok.glob y a (C.keeps I.bk) e g hc D S λc' ctv h' tk hx n Z r J=>?_
  obtain⟨c2,oc,vs,t,e2,v,hd,x⟩:=r
  cases e2
  have K:BR (upd H c' (.frz oc (.own 0))) h' T (X.env.qual ++ "<lambda>"):=by
   refine⟨_,J,by rw[Array.toList_append];exact TriplesOk_snoc _ _ _ _ g,λp cv i=>?_⟩
   rw[Array.toList_append] at i
   rcases rT _ g i with i|rfl
   ·obtain⟨c2,M,u2,N,t2,e1,e2,e3⟩:=d _ _ i
    exact⟨c2,M,u2,N,t2,e1,by rw[al (ay e2 (I.hok.fresh n))];exact e2,e3⟩
   ·exact⟨c',oc,_,vs,t,rfl,aB,hd,x⟩
  obtain⟨k,sm⟩:=I.grow (tk:=tk) P hx n v hd x K
  have O:=k.kept (t':=tk) (h':=h'.push (KT "<lambda>" (X.env.qual ++ "<lambda>") params body scope clos ((X.mg "__name__").getD .none) c' ctv)) λb o e=>HE _ e
  exact h _ c' _ ctv _ _ O sm (HR _ rfl) (k.fpOk (HK _) (k.hok.fresh (HK _))) ⟨_,_,_,_,aB,hd,x⟩
 | some cv =>
  obtain⟨c',oc,u,vs,t,rfl,e1,hd,x⟩:=d _ _ hc
  obtain⟨v,_⟩:=I.hok c' _ e1
  refine kla_makeFunctionHit l I.ok.glob y a (C.keeps I.bk) e g hc S λctv h' tk hk hsz=>?_
  have k:=I.kept (t':=tk) hk
  have O:=k.kept (t':=tk) (h':=h'.push (KT "<lambda>" (X.env.qual ++ "<lambda>") params body scope clos ((X.mg "__name__").getD .none) c' ctv)) λb o e=>HE _ e
  exact h _ c' _ ctv _ _ O (aR.refl _) (HR _ rfl) (k.fpOk (HK _) (k.hok.fresh (HK _))) ⟨_,_,_,_,e1,hd,x⟩
end
theorem gg:∀ a:List Int,HT.lexLt a a=false
 | []=>HT.lexLt_nil_nil
 | x::a=>by rw[HT.lexLt_cons,if_pos rfl];exact gg a
theorem yw:∀ a b:List Int,HT.lexLt a b=true->HT.lexLt b a=false
 | [],[],h=>by rw[HT.lexLt_nil_nil] at h;cases h
 | [],y::b,_=>HT.lexLt_cons_nil ..
 | x::a,[],h=>by rw[HT.lexLt_cons_nil] at h;cases h
 | x :: a,y::b,h=>by
  rw[HT.lexLt_cons] at h ⊢
  by_cases e:x=y
  ·rw[if_pos e] at h
   rw[if_pos e.symm]
   exact yw a b h
  ·rw[if_neg e] at h
   rw[if_neg λz=>e z.symm]
   have:=of_decide_eq_true h
   exact decide_eq_false (by omega)
theorem yv:∀ a b c:List Int,HT.lexLt a b=false->HT.lexLt b c=false->HT.lexLt a c=false
 | [],[],c,_,h=>h
 | [],y::b,c,h,_=>by rw[HT.lexLt_nil_cons] at h;cases h
 | x::a,b,[],_,_=>HT.lexLt_cons_nil ..
 | x::a,[],z::c,_,h=>by rw[HT.lexLt_nil_cons] at h;cases h
 | x :: a,y::b,z::c,h1,h2=>by
  rw[HT.lexLt_cons] at h1 h2 ⊢
  by_cases e1:x=y
  ·rw[if_pos e1] at h1
   by_cases e2:y=z
   ·rw[if_pos e2] at h2
    rw[if_pos (e1.trans e2)]
    exact yv a b c h1 h2
   ·rw[if_neg e2] at h2
    rw[if_neg λq=>e2 (e1.symm.trans q),e1]
    exact h2
  ·rw[if_neg e1] at h1
   have h1:=of_decide_eq_false h1
   by_cases e2:y=z
   ·rw[if_neg λq=>e1 (q.trans e2.symm)]
    exact decide_eq_false (by omega)
   ·rw[if_neg e2] at h2
    have h2:=of_decide_eq_false h2
    rw[if_neg (by omega)]
    exact decide_eq_false (by omega)
theorem dD (a b:Int×List Int):cf a b=if a.1=b.1 then HT.lexLt a.2 b.2 else decide (a.1<b.1):=by
 unfold cf
 by_cases e:a.1=b.1
 ·rw[if_pos e,if_pos e]
  by_cases e2:a.2=b.2
  ·rw[if_pos e2,e2,gg]
  ·rw[if_neg e2]
 ·rw[if_neg e,if_neg e]
theorem pL (a b:Int×List Int) (h:cf a b=true):cf b a=false:=by
 rw[dD] at h ⊢
 by_cases e:a.1=b.1
 ·rw[if_pos e] at h
  rw[if_pos e.symm]
  exact yw _ _ h
 ·rw[if_neg e] at h
  rw[if_neg λz=>e z.symm]
  have:=of_decide_eq_true h
  exact decide_eq_false (by omega)
theorem pK (a b c:Int×List Int) (h1:cf a b=false) (h2:cf b c=false):cf a c=false:=by
 rw[dD] at h1 h2 ⊢
 by_cases e1:a.1=b.1
 ·rw[if_pos e1] at h1
  by_cases e2:b.1=c.1
  ·rw[if_pos e2] at h2
   rw[if_pos (e1.trans e2)]
   exact yv _ _ _ h1 h2
  ·rw[if_neg e2] at h2
   rw[if_neg λq=>e2 (e1.symm.trans q),e1]
   exact h2
 ·rw[if_neg e1] at h1
  have h1:=of_decide_eq_false h1
  by_cases e2:b.1=c.1
  ·rw[if_neg λq=>e1 (q.trans e2.symm)]
   exact decide_eq_false (by omega)
  ·rw[if_neg e2] at h2
   have h2:=of_decide_eq_false h2
   rw[if_neg (by omega)]
   exact decide_eq_false (by omega)
theorem qP {ks:List (Int×List Int)} (h1:1<=ks.length):∃ j,(ar ks).getLast? = some j/\j<ks.length/\∀ i,i<ks.length->(ks.getD i (0,[])).1<=(ks.getD j (0,[])).1:=by
 have p:=aT ks
 have q:(ar ks).length=ks.length:=by rw[p.length_eq,Io]
 have l:ks.length - 1<(ar ks).length:=by omega
 have f:(ar ks).getLast? = some (ar ks)[ks.length - 1]:=by
  rw[List.getLast?_eq_getElem?,<-Hz l]
  congr 1
  omega
 refine⟨_,f,dy _ (Ih _),λi hi=>?_⟩
 have m:i∈ar ks:=p.mem_iff.mpr (HW.mpr hi)
 obtain⟨a,r,e⟩:=Im m
 rw[q] at r
 have key:cf (ks.getD (ar ks)[ks.length - 1] (0,[])) (ks.getD i (0,[]))=false:=by
  by_cases h2:ks.length<2
  ·have e1:ks.length=1:=by omega
   have:(ar ks)[ks.length - 1]=i:=by
    rw[<-e]
    congr 1
    omega
   rw[this,dD,if_pos rfl,gg]
  ·obtain⟨lt,d⟩:∃ lt:Nat->Nat->Bool,lt=λi j=>cf (ks.getD i (0,[])) (ks.getD j (0,[])):=⟨_,rfl⟩
   have ex:ar ks=(aq lt (Ka ks.length)).toList:=by
    unfold ar
    rw[if_neg h2,d]
   have as:∀ a b,lt a b=true->lt b a=false:=λa b h=>by rw[d] at h ⊢;exact pL _ _ h
   have tr:∀ a b c,lt a b=false->lt b c=false->lt a c=false:=λa b c h1 h2=>by rw[d] at h1 h2 ⊢;exact pK _ _ _ h1 h2
   have o:=oU as tr (n:=ks.length) h1
   have far:=jd.le as tr o (a:=a) (b:=ks.length - 1) (by omega) (by omega)
   have g:∀ k,(hk:k<ks.length)->gA (aq lt (Ka ks.length)) k=(ar ks)[k]'(by omega):=λk hk=>by
    unfold gA
    have hz:k<(aq lt (Ka ks.length)).size:=by
     have:(aq lt (Ka ks.length)).toList.length=ks.length:=by rw[<-ex];exact q
     rw[<-Array.length_toList,this];exact hk
    rw[Array.getD_eq_getD_getElem?,Array.getElem?_eq_getElem hz]
    show _=_
    simp only[ex,Option.getD_some,Array.getElem_toList]
   rw[g _ (by omega),g a r,e,d] at far
   exact far
 rw[dD] at key
 by_cases e3:(ks.getD (ar ks)[ks.length - 1] (0,[])).1=(ks.getD i (0,[])).1
 ·omega
 ·rw[if_neg e3] at key
  have:=of_decide_eq_false key
  omega
theorem fQ {α:Type}{p:List Nat}{xs:List α}{d:α} (h:p.Perm (List.range xs.length)):(bY p xs d).Perm xs:=by
 have h1:=h.map λi=>xs.getD i d
 refine h1.trans (List.Perm.of_eq ?_)
 apply IS
 ·simp
 ·intro i a b
  simp at a
  simp[a]
theorem Gj {CX:CXT}{P:zb}{w:zf}{K:PySem.W.Frag}{mg:Str->Option Value}{base:Heap}{N N':List Str}{qual:Str}{scope sc:Kc}{f:Addr}{cd:Value}{a:List (Str×Addr)}{A:Around}{outer:List Env}{s:Shared}{H:Hp}{E:XK}{ix:List (Option Nat)}
  (h : bOk N scope N' ix sc=true):bS (rY CX P w K mg base N qual scope f cd a A outer s H E).N (rY CX P w K mg base N qual scope f cd a A outer s H E).env N' ix sc:=dq rfl rfl h
section
variable {prog:zb}{w:zf}{A:Around}{s:Shared}
theorem kb {us:List Value}{ns:List Int} (h2:2<=us.length) (k:∀ i (h:i<us.length),∃ t,us[i]=Value.int (ns.getD i 0) t) (c:ns.length=us.length):iU prog w A us (ns.map λn=>(n,[])) s:=by
 refine kas_kind (T:=.type "int") h2 (λv a=>?_) (by decide) (by rfl) ⟨rfl,λi j C hi hj hc=>?_⟩
 ·obtain⟨i,hi,rfl⟩:=Im a
  obtain⟨t,e⟩:=k i hi
  rw[e]
  exact .now
 ·have e1:us.getD i Value.none=us[i]:=by simp[hi]
  have e2:us.getD j Value.none=us[j]:=by simp[hj]
  show qb (q3 prog w) A (keyLt' _ (us.getD i Value.none) (us.getD j Value.none)) C (λ_ _=>False) s
  rw[e1,e2]
  obtain⟨t,ex⟩:=k i hi
  obtain⟨u,b⟩:=k j hj
  rw[ex,b]
  have g:∀ m,m<us.length->(ns.map λn=>(n,([]:List Int))).getD m (0,[])=(ns.getD m 0,[]):=λm d=>by
   rw[HB,Ic,HB,Hz (by omega)]
   rfl
  rw[g i hi,g j hj,dD] at hc
  refine kat_lt_int ?_
  have e:(if (ns.getD i 0,([]:List Int)).1=(ns.getD j 0,([]:List Int)).1 then HT.lexLt (ns.getD i 0,([]:List Int)).2 (ns.getD j 0,([]:List Int)).2 else decide ((ns.getD i 0,([]:List Int)).1<(ns.getD j 0,([]:List Int)).1))=decide (ns.getD i 0<ns.getD j 0):=by
   by_cases z:ns.getD i 0=ns.getD j 0
   ·rw[if_pos z,gg]
    exact(decide_eq_false (by omega)).symm
   ·rw[if_neg z]
  rw[e] at hc
  exact hc
end
theorem kY {ks:List (Int×List Int)}{a b:Nat} (e:a<=b) (f:b<ks.length):cf (ks.getD ((ar ks).getD b 0) (0,[])) (ks.getD ((ar ks).getD a 0) (0,[]))=false:=by
 have l:(ar ks).length=ks.length:=by rw[(aT ks).length_eq,Io]
 by_cases h2:ks.length<2
 ·rw[show a=b by omega,dD,if_pos rfl,gg]
 ·obtain⟨lt,d⟩:∃ lt:Nat->Nat->Bool,lt=λi j=>cf (ks.getD i (0,[])) (ks.getD j (0,[])):=⟨_,rfl⟩
  have ex:ar ks=(aq lt (Ka ks.length)).toList:=by
   unfold ar
   rw[if_neg h2,d]
  have as:∀ a b,lt a b=true->lt b a=false:=λa b h=>by rw[d] at h ⊢;exact pL _ _ h
  have tr:∀ a b c,lt a b=false->lt b c=false->lt a c=false:=λa b c h1 h2=>by rw[d] at h1 h2 ⊢;exact pK _ _ _ h1 h2
  have far:=jd.le as tr (oU as tr (n:=ks.length) (by omega)) e f
  have g:∀ k,gA (aq lt (Ka ks.length)) k=(ar ks).getD k 0:=λk=>by
   unfold gA
   rw[ex,Array.getD_eq_getD_getElem?,HB,Array.getElem?_toList]
  rw[g,g,d] at far
  exact far
noncomputable def cZ (ns:List Int):List Int:=bY (ar (ns.map λn=>(n,[]))) ns 0
theorem fX (ns:List Int):(cZ ns).Perm ns:=fQ (by have:=aT (ns.map λn=>(n,([]:List Int)));rwa [HC] at this)
theorem sE (ns:List Int):(cZ ns).Pairwise (·<=·):=by
 have k:(ar (ns.map λn=>(n,([]:List Int)))).length=ns.length:=by rw[(aT _).length_eq,Io,HC]
 rw[Ix]
 intro i j hi hj f
 have hn:(cZ ns).length=ns.length:=(fX ns).length_eq
 have h:=kY (ks:=ns.map λn=>(n,([]:List Int))) (a:=i) (b:=j) (by omega) (by rw[HC];omega)
 have g:∀ m,(d:m<(cZ ns).length)->((ns.map λn=>(n,([]:List Int))).getD ((ar (ns.map λn=>(n,([]:List Int)))).getD m 0) (0,[]))=((cZ ns)[m],[]):=λm d=>by
  have q:(ar (ns.map λn=>(n,([]:List Int)))).getD m 0<ns.length:=by
   have:=dy ((ar (ns.map λn=>(n,([]:List Int)))).getD m 0) (by rw[HB,Hz (by omega)];exact Ih _)
   rwa [HC] at this
  have z:(cZ ns)[m]=ns[(ar (ns.map λn=>(n,([]:List Int)))).getD m 0]:=by
   have c:m<(ar (ns.map λn=>(n,([]:List Int)))).length:=by omega
   have w:(cZ ns)[m]? = some (ns.getD ((ar (ns.map λn=>(n,([]:List Int)))).getD m 0) 0):=by
    unfold cZ bY
    rw[Ic,HB (l:=ar _),Hz c]
    rfl
   rw[Hz d,HB (l:=ns),Hz q] at w
   exact Option.some.inj w
  rw[HB,Ic,Hz q,z]
  rfl
 rw[g i hi,g j hj,dD] at h
 by_cases e:(cZ ns)[j]=(cZ ns)[i]
 ·omega
 ·rw[if_neg e] at h
  have:=of_decide_eq_false h
  simp only at this
  omega
section
variable {X:Cx}{K:PySem.W.Frag}
theorem uY (hK:X.K=K):fw X (.builtin "sorted") (λxs H Q=>∃ (p:Addr) (ns:List Int),xs=[.ref p]/\SqL K H p (ns.map V.int)/\ns.length<64 /\
  ∀ q,H q=none->Q (.ref q) (upd H q (.lst ((cZ ns).map V.int)))):=by
 subst hK
 intro pins s σ H xs us Q I r h
 obtain⟨p,ns,rfl,m,v,q⟩:=h
 obtain⟨u,rfl,w⟩:=hV r
 cases (show u=Value.ref p from w)
 obtain⟨a,g,y,_⟩:=I.list m
 have b:=g.length
 rw[HC] at b
 have d:∀ i (h:i<a.length),∃ t,a[i]=Value.int (ns.getD i 0) t:=λi hi=>by
  have e:i<ns.length:=by omega
  obtain⟨u,e1,⟨t,e2⟩⟩:=g.get (i:=i) (x:=.int ns[i]) (by rw[Ic,Hz e];rfl)
  rw[Hz hi] at e1
  cases e1
  refine⟨t,?_⟩
  rw[e2,HB,Hz e]
  rfl
 refine mO (vs:=a) (ks:=ns.map λn=>(n,[])) y.isList (by omega) (by rw[HC];omega) (λh2 h' k=>kb h2 d (by omega)) λD h' c k l j=>?_
 have f:∀ i∈ar (ns.map λn=>(n,([]:List Int))),i<ns.length:=λi hi=>by have:=dy i hi;rwa [HC] at this
 have ep:bY (ar (ns.map λn=>(n,([]:List Int)))) (ns.map V.int) .non=(cZ ns).map V.int:=by
  unfold cZ bY
  rw[Ip]
  refine Jy λi hi=>?_
  have:=f i hi
  rw[HB,Ic,Hz this]
  show _=V.int (ns.getD i 0)
  rw[HB,Hz this]
  rfl
 refine⟨.ref D,upd H D (.lst ((cZ ns).map V.int)),I.laid (t':=s.toks) (o:=.lst ((cZ ns).map V.int)) k l ⟨?_,_,c,ep▸gZ g (λi hi=>by rw[HC];exact f i hi),j⟩,rfl,q _ (I.hok.fresh l)⟩
 rw[HC,(fX ns).length_eq,zd]
 omega
noncomputable def Bw (t:DA):DE:=λenv R=>t env λss a=>∃ s ns,ss=[s]/\aP a s=some (.list (li ns))/\ns.length<64/\R (.ow (li (cZ ns))) a
variable {e:Expr}{p pos:Pos}{tl:DA}
theorem yj (hK:X.K=K) (g:Gl X "sorted") (i:X.mg "sorted" = none) (j:PA X [e] (upA K tl)) (k:kq [e] X.env=[(false,eval e X.env)]:=by rfl):PE X (.Call (.Name "sorted" p) [e] [] pos) (up K (Bw tl)) :=
 (jQ (uY (K:=K) hK) g i boot_sorted j (by decide) (by decide) k rfl).imp λσ H Q h=>by
 obtain⟨M,P,H0,σ0,env,ts,R,c,l,m⟩:=h
 refine⟨M,P,H0,σ0,env,ts,_,c,l,λss f vs H1 h1 n b=>?_⟩
 obtain⟨s,ns,rfl,e1,d,o⟩:=h1
 obtain⟨v,rfl⟩:=vp n
 obtain⟨a,us,rfl,sq,q⟩:=(b.view (v:=v) (by simp) e1).list
 rw[q.ints] at sq
 exact⟨a,ns,rfl,sq,d,λt r=>m _ _ _ _ o (b.resOw r (kl _))⟩
end
noncomputable def FQ:Sl->Sl
 | .fr d=>.fr d
 | _=>.un
noncomputable def yQ (i:Nat) (t:DT):DT:=λenv R=>∃ ds,env[i]? = some (.ow ds)/\t ((env.map FQ).set i (.fr (.list ds))) λb _=>R b env
section
variable {prog:zb}{w:zf}{A:Around}{E:Value->Shared->Prop}{s:Shared}
theorem uq (a b:List Int):cf (0,a) (0,b)=HT.lexLt a b:=by
 unfold cf
 rw[if_pos rfl]
 split
 ·rename_i h
  simp only at h
  rw[h,gg]
 ·rfl
noncomputable def Hw (h:Heap) (v:Value) (ns:List Int):Prop:=∃ (l:Addr) (a:Array Value),v=.ref l/\h.IsList l a/\At a ns
theorem nu {l b:Addr}{items a:Array Value}{ns ms:List Int}{Q:Bool->Shared->Prop} (m:s.heap.IsList l items) (o:s.heap.IsList b a) (e:At items ns) (f:At a ms)
  (p:A.units<Kg) (h:Q (HT.lexLt ns ms) s):qb (q3 prog w) A (oneLt' true (.ref l) (.ref b)) Q E s:=by
 obtain⟨⟨cls,dd,data,sl⟩,ho,hc,n,hd⟩:=id m
 obtain⟨⟨k,g,data2,i⟩,j,c,q,d⟩:=id o
 simp only at hc hd c d
 subst hc hd c d
 rw[oneLt'_eq]
 simp only[if_true]
 refine jj (wpAny_cRoomFor p ?_)
 refine jj (wpAny_callSpecialIfBound?_slot ⟨_,ho,rfl⟩ F.slot_list_lt (QL F.slot_list_lt ⟨_,ho,rfl⟩ F.entry_list_lt (F.args_list_lt_2 _ _) (pD l b items a n q dd g sl i ns ms e f) ⟨ho,j,?_⟩))
 exact J5 h
theorem vO {us:List Value}{ks:List (Int×List Int)} (d:A.units<Kg) (h2:2<=us.length) (k:∀ i (h:i<us.length),∃ ns,ks.getD i (0,[])=(0,ns)/\Hw s.heap us[i] ns):iU prog w A us ks s:=by
 refine kas_kind (T:=.type "list") h2 (λv f=>?_) (by decide) (by rfl) ⟨rfl,λi j C hi hj hc=>?_⟩
 ·obtain⟨i,hi,rfl⟩:=Im f
  obtain⟨ns,_,l,a,e,⟨o,ho,hc,_⟩,_⟩:=k i hi
  rw[e]
  exact hc▸(Looks.ld ho).andThen .now
 ·have e1:us.getD i Value.none=us[i]:=by simp[hi]
  have e2:us.getD j Value.none=us[j]:=by simp[hj]
  show qb (q3 prog w) A (keyLt' _ (us.getD i Value.none) (us.getD j Value.none)) C (λ_ _=>False) s
  rw[e1,e2]
  obtain⟨ns,g,l,a,m,i1,i2⟩:=k i hi
  obtain⟨ms,n,b,c,p,q,j2⟩:=k j hj
  rw[g,n,uq] at hc
  rw[m,p,keyLt'_oneType]
  exact nu i1 q i2 j2 d hc
end
noncomputable def B6 (kds:List PyData):Prop:=(∀ d∈kds,DF d)\/(∀ d∈kds,DH d)\/∀ d∈kds,DB d
section
variable {K:PySem.W.Frag}
theorem xc {N:Addr->Prop}{H:Hp}{vs:List V}{ds:List PyData}{us:List Value} (q:DNs K N H vs ds) (r:aX vs us) (i:Nat) (h:i<us.length):∃ v,bw v us[i]/\DN K N H v (ds.getD i .none)/\ds.getD i .none∈ds:=by
 have d:=q.len
 have a:=r.length
 obtain⟨u,e,b⟩:=r.get (i:=i) (x:=vs[i]) (by simp)
 rw[Hz h] at e
 cases e
 have c:(vs[i],ds[i])∈vs.zip ds:=by
  rw[Js]
  exact⟨i,by rw[IM];exact⟨Hz _,Hz _⟩⟩
 have e2:ds.getD i .none=ds[i]:=by simp[HB,show i<ds.length by omega]
 rw[e2]
 exact⟨_,b,nP q _ c,Ih _⟩
end
theorem l4 {α β:Type} (f:α->β) (l:List α) (i:Nat) (d:α):(l.map f).getD i (f d)=f (l.getD i d):=by
 simp only[HB,Ic]
 cases l[i]? <;> rfl
theorem l5 (kds:List PyData) (i:Nat):(kds.map eQ).getD i (0,[])=eQ (kds.getD i .none):=l4 eQ kds i .none
section
variable {X:Cx}{pins:List (Addr×Obj)}{σ:St}{H:Hp}{s:Shared}{A:Around}
theorem wB {kds:List PyData}{kv:List V}{ks:List Value} (hk:B6 kds) (h:A.units+64<Kg) (I:Inv X pins σ H s) (dn:DNs X.K N0 H kv kds) (c:aX kv ks) (h2:2<=ks.length):iU X.prog X.w A ks (kds.map eQ) s:=by
 have g:kds.length=ks.length:=by rw[<-dn.len,c.length]
 rcases hk with hk|hk|hk
 ·refine AW h h2 (by rw[HC];exact g) λi hi=>?_
  obtain⟨v,a,dx,b⟩:=xc dn c i hi
  rw[l5]
  exact AX I dx.dv a (hk _ b)
 ·have k:kds.map eQ=(kds.map λd=>(eQ d).1).map λn=>(n,[]):=by
   rw[Ip]
   refine Jy λd hd=>?_
   obtain⟨n,rfl⟩:=hk d hd
   rfl
  rw[k]
  refine kb h2 (λi hi=>?_) (by rw[HC];exact g)
  obtain⟨v,a,dx,b⟩:=xc dn c i hi
  have m:(kds.map λd=>(eQ d).1).getD i 0=(eQ (kds.getD i .none)).1:=l4 (λd=>(eQ d).1) kds i .none
  rw[m]
  obtain⟨n,e⟩:=hk _ b
  rw[e] at dx ⊢
  rw[dx.dv.intI] at a
  exact a
 ·refine vO (by omega) h2 λi hi=>?_
  obtain⟨v,a,dx,b⟩:=xc dn c i hi
  rw[l5]
  obtain⟨ns,e⟩:=hk _ b
  rw[e] at dx ⊢
  obtain⟨l,ys,rfl,sq,q⟩:=dx.dv.lstI
  obtain⟨f,o,p,_⟩:=I.list sq
  obtain⟨h1,h2⟩:=BN q o
  refine⟨ns,?_,l,f.toArray,a,p.isList,⟨by simpa using h1,λj hj=>h2 j (by simpa using hj)⟩⟩
  show((0:Int),(bN (ns.map PyData.int)).getD [])=_
  rw[bH]
  rfl
end
section
variable {X:Cx}{pins:List (Addr×Obj)}{σ:St}{H0:Hp}{f:Value}{vs:List Value}{A:Around}{E:Value->Shared->Prop}{a kS:Addr}
structure zo (X:Cx) (pins:List (Addr×Obj)) (σ:St) (H0:Hp) (a kS:Addr) (e1:Nat) (kds:List PyData) (ks:List Value) (s:Shared):Prop where
 ex : ∃ H kv c,Inv X pins σ H s/\aR H0 H/\aX kv ks/\DNs X.K N0 H kv (kds.take ks.length)/\eU X pins H a/\eU X pins H kS/\s.heap.get? kS=some (q4 "list" ks.toArray c)
 la : s.heap.get? a=some (q4 "list" #[] e1)
theorem qN {e1 n:Nat}{kds:List PyData} (ne:a≠kS) (hn:n<64) {body:Value->PUnit->Sem (ForInStep PUnit)}
  (L:∀ x ks e (s:Shared) (C:Value->Shared->Prop),List.length ks<64->qb (q3 X.prog X.w) A (call f [x]) (λk s1=>s1.heap.get? kS=some (q4 "list" (List.toArray ks) e)/\C k s1) (λ_ _=>False) s ->
   qb (q3 X.prog X.w) A (body x ⟨⟩) (λr s'=>r=.yield ⟨⟩/\∃ k s1 c,C k s1/\s'={ s1 with heap:=s1.heap.update kS (Obj.mapSeq (·.push k)) }/\s'.heap.get? kS=some (q4 "list" (List.toArray (ks++[k])) c)) E s)
  (M:kds.length=vs.length) (call:∀ i (h:i<vs.length),∀ H s,Inv X pins σ H s->aR H0 H->qb (q3 X.prog X.w) A (call f [vs[i]]) (dM X pins σ H s (kds.getD i .none)) (λ_ _=>False) s) :
  ∀ (r ks:List Value) (s:Shared),r=vs.drop ks.length->ks.length+r.length=n->zo X pins σ H0 a kS e1 kds ks s ->
   qb (q3 X.prog X.w) A (forIn r PUnit.unit body) (λ_ s'=>∃ ks,ks.length=n/\zo X pins σ H0 a kS e1 kds ks s') E s:=by
 intro r
 induction r with
 | nil =>
  intro ks s _ u h
  rw[Jg]
  exact ke ⟨ks,by simpa using u,h⟩
 | cons x r N =>
  intro ks s y u h
  rw[Iq] at u
  rw[Ji]
  obtain⟨⟨H,kv,c,I,F,O,dn,fa,fk,G⟩,la⟩:=h
  have j:ks.length<vs.length:=by
   have:=congrArg List.length y
   rw[Jn,Iq] at this
   omega
  have hx:vs[ks.length]=x/\r=vs.drop (ks.length+1):=by
   rw[Iw j] at y
   injection y with h1 h2
   exact⟨h1.symm,h2⟩
  have hc:=call ks.length j H s I F
  rw[hx.1] at hc
  refine jj (zg (L x ks c s (λk s1=>dM X pins σ H s (kds.getD ks.length .none) k s1) (by omega) (zg hc (λk s1 l=>?_) λ_ _ z=>z)) (λq s' P=>?_) λ_ _ z=>z)
  ·obtain⟨H',v,J,d,m,p,kp⟩:=id l
   exact⟨(kp kS _ fk G).1,l⟩
  ·obtain⟨rfl,k,s1,c2,⟨H',v,J,d,m,p,kp⟩,es,B⟩:=P
   subst es
   have t:=kh fk (kp kS _ fk G).2
   have D:=kh fa (kp a _ fa la).2
   have K:=Heap.SameBut.update s1.heap kS (Obj.mapSeq (·.push k))
   have Q:=J.turnedN (t':=s1.toks) (fp:=[kS]) (h':=s1.heap.update kS (Obj.mapSeq (·.push k))) (λb g=>by rw[HD.mp g];exact t) λb o g e=>(K.2 b (λz=>g (by simp[z]))).trans e
   show qb (q3 X.prog X.w) A (forIn r PUnit.unit body) _ E _
   refine N (ks++[k]) _ (by rw[Ie,ID];exact hx.2) (by rw[Ie,ID];omega) ⟨⟨H',kv++[v],c2,Q,F.trans d,so O m,?_,D,t,B⟩,?_⟩
   ·have e:kds.take (ks++[k]).length=kds.take ks.length++[kds.getD ks.length .none]:=by
     rw[Ie,ID,List.take_add_one,Hz (by omega),HB,Hz (by omega)]
     rfl
    rw[e]
    exact(dn.keep (aV.same d)).app (.cons p .nil)
   ·exact(K.2 a ne).trans (kp a _ fa la).1
theorem qO {kds:List PyData}{s:Shared}{n:Nat}{P:PySem.Fin->Shared->Prop} (I:Inv X pins σ H0 s) (fa:eU X pins H0 a) (ho:s.heap.get? a=some (q4 "list" vs.toArray n)) (u:vs.length<64) (hu:A.units+64<Kg)
  (q:kds.length=vs.length) (L:B6 kds) (call:∀ i (h:i<vs.length),∀ H s',Inv X pins σ H s'->aR H0 H->qb (q3 X.prog X.w) A (call f [vs[i]]) (dM X pins σ H s' (kds.getD i .none)) (λ_ _=>False) s')
  (h : ∀ H s' c,Inv X pins σ H s'->aR H0 H->eU X pins H a->s'.heap.get? a=some (q4 "list" (bY (ar (kds.map eQ)) vs Value.none).toArray c)->P (.done (.ret .none)) s') :
  qb (q3 X.prog X.w) A (ksk_tree a f false) P E s:=by
 have ha:a<s.heap.objs.size:=HL ho
 have s1:=Heap.SameBut.update s.heap a (Obj.mapSeq λ_=>(#[]:Array Value))
 obtain⟨e1,v⟩:∃ e1,(s.heap.update a (Obj.mapSeq λ_=>(#[]:Array Value))).get? a=some (q4 "list" #[] e1):=⟨_,Kf ho λ_=>#[]⟩
 have keep:∀ b o,b≠a->s.heap.get? b=some o->(((s.heap.update a (Obj.mapSeq λ_=>(#[]:Array Value))).push (q4 "tuple" vs.toArray 0)).push (q4 "list" #[] 0)).get? b=some o:=λb o d e =>
  HE _ (HE _ ((s1.2 b d).trans e))
 have M:(((s.heap.update a (Obj.mapSeq λ_=>(#[]:Array Value))).push (q4 "tuple" vs.toArray 0)).push (q4 "list" #[] 0)).get? a=some (q4 "list" #[] e1):=HE _ (HE _ v)
 have hsz:((s.heap.update a (Obj.mapSeq λ_=>(#[]:Array Value))).push (q4 "tuple" vs.toArray 0)).objs.size=s.heap.objs.size+1:=by rw[QG,Jp]
 unfold ksk_tree
 refine jj (K8 ho rfl ?_)
 refine jj (J7 ho rfl ?_ (by rw[HM,zd];omega) (Ig _))
 refine jj (KI v rfl ?_)
 refine jj (KN ?_ (by show vs.length<=_;rw[zd];omega))
 refine jj (KB ?_ (Ig _))
 refine zh ?_
 obtain⟨kS,g⟩:∃ kS,kS=((s.heap.update a (Obj.mapSeq λ_=>(#[]:Array Value))).push (q4 "tuple" vs.toArray 0)).objs.size:=⟨_,rfl⟩
 have gk:(((s.heap.update a (Obj.mapSeq λ_=>(#[]:Array Value))).push (q4 "tuple" vs.toArray 0)).push (q4 "list" #[] 0)).get? kS=some (q4 "list" (List.toArray []) 0):=by rw[g];exact HR _ rfl
 have y:a≠kS:=by rw[g,hsz];exact HZ (IW ha)
 have fk:eU X pins H0 kS:=I.fpOk (by rw[g,hsz];omega) (I.hok.fresh (by rw[g,hsz];omega))
 have I1:=I.turnedN (t':=s.toks) (fp:=[a]) (h':=((s.heap.update a (Obj.mapSeq λ_=>(#[]:Array Value))).push (q4 "tuple" vs.toArray 0)).push (q4 "list" #[] 0)) (λb d=>by rw[HD.mp d];exact fa) λb o d e=>keep b o (λz=>d (by simp[z])) e
 rw[<-g]
 show qb (q3 X.prog X.w) A (ksk_rest a f false vs.toArray e1 (.ref kS)) P E { s with heap:=((s.heap.update a (Obj.mapSeq λ_=>(#[]:Array Value))).push (q4 "tuple" vs.toArray 0)).push (q4 "list" #[] 0) }
 unfold ksk_rest
 refine jj (Ko ?_)
 first
  | rw[List.forIn_toArray]
  | (rw[<-Array.forIn_toList];simp only[List.toList_toArray])
  | rw[<-Array.forIn_toList]
 refine jj (zg (qN (f:=f) (A:=A) (e1:=e1) (n:=vs.length) (kds:=kds) y u (λx ks e s' C hz hx=>?_) q call vs [] _ rfl (by simp) ⟨⟨H0,[],0,I1,aR.refl _,.nil,.nil,fa,fk,gk⟩,M⟩) (λ_ s' hd=>?_) λ_ _ x=>x)
 ·refine jj (KC (zg hx (λk B hk=>?_) λ_ _ hF=>hF.elim))
  obtain⟨W,hC⟩:=hk
  have ea:(List.toArray ks).push k=List.toArray (ks++[k]):=by simp
  obtain⟨c2,r⟩:∃ c2,(B.heap.update kS (Obj.mapSeq (·.push k))).get? kS=some (q4 "list" (List.toArray (ks++[k])) c2):=⟨_,by rw[<-ea];exact Kf W (·.push k)⟩
  try dsimp only
  refine jj (J7 W rfl ?_ (by rw[HM,zd];omega) (HQ (Nat.le_of_eq (Array.size_push ..)) (by rw[HM,zd];omega)))
  exact ke ⟨rfl,k,B,c2,hC,rfl,r⟩
 ·obtain⟨ks,Y,⟨⟨H,kv,c,Z,sm,rv,dn,D,N,F⟩,la⟩⟩:=hd
  rw[IZ (by omega)] at dn
  refine jj (K8 F rfl ?_)
  have fin:∀ (m:List Value) (st:SortSt),m.length=vs.length->m=bY (ar (kds.map eQ)) vs Value.none->(arrOf st).map (·.2)=m.toArray->QK st=none->qb (q3 X.prog X.w) A (ksk_tail a false e1 (.ref kS) st) P E s':=λm st a0 O J R=>by
   have t1:=Heap.SameBut.update s'.heap kS (Obj.mapSeq λ_=>(#[]:Array Value))
   have t:(s'.heap.update kS (Obj.mapSeq λ_=>(#[]:Array Value))).get? a=some (q4 "list" #[] e1):=(t1.2 a y).trans la
   have t2:=Heap.SameBut.update (s'.heap.update kS (Obj.mapSeq λ_=>(#[]:Array Value))) a (Obj.mapSeq λ_=>m.toArray)
   obtain⟨c2,r⟩:∃ c2,((s'.heap.update kS (Obj.mapSeq λ_=>(#[]:Array Value))).update a (Obj.mapSeq λ_=>m.toArray)).get? a=some (q4 "list" m.toArray c2):=⟨_,Kf t λ_=>m.toArray⟩
   unfold ksk_tail
   try dsimp only
   rw[J]
   refine jj (J7 F rfl ?_ (by rw[HM,zd];omega) (Ig _))
   refine jj (KS ?_)
   refine jj (KI t rfl ?_)
   simp only[Ij,if_false]
   refine jj (J7 t rfl ?_ (Ig _) (by rw[HM,zd];omega))
   rw[R]
   simp only[bne_self_eq_false,Ij,if_false]
   refine ke (h H _ c2 (Z.turnedN (t':=s'.toks) (fp:=[kS,a]) (λb d=>?_) λb o d e=>?_) sm D (by rw[<-O];exact r))
   ·rcases HP.mp d with rfl|d
    ·exact N
    ·rw[HD.mp d];exact D
   ·simp only[HP,Ir,or_false,not_or] at d
    exact(t2.2 b d.2).trans ((t1.2 b d.1).trans e)
  unfold ksk_end
  try dsimp only
  simp only[Ij,if_false]
  by_cases h2:2<=vs.length
  ·have hn2:¬vs.toArray.size<2:=by rw[HM];omega
   rw[if_neg hn2,if_neg hn2]
   refine jj (zg (wB L hu Z dn rv (by omega)) (λκ S T=>?_) λ_ _ x=>x.elim)
   obtain⟨rfl,K⟩:=T
   refine jj (zg (kat_run (κ:=κ) (A:=A) (prog:=X.prog) (w:=X.w) (ks:=ks) (vs:=vs) (G:=λp s2=>p=aq (λi j=>cf ((kds.map eQ).getD i (0,[])) ((kds.map eQ).getD j (0,[]))) (Ka vs.length)/\s2=S)
    (Q := λl s2=>∃ p:Array Nat,p=aq (λi j=>cf ((kds.map eQ).getD i (0,[])) ((kds.map eQ).getD j (0,[]))) (Ka vs.length)/\p.size=vs.length/\arrOf l=p.map (kas_item (ks.toArray.zip vs.toArray))/\QK l=none/\s2=S)
    Y h2 u (λp' l s2 a1 a2 a3 a4=>⟨p',a4.1,a1,a2,a3,a4.2⟩) (j9 (λs2=>s2=S) (λi j C s2 hi hj e hc=>by subst e;exact K i j C (by omega) (by omega) (hc _ rfl)) (gP (n:=vs.length) (by omega)) (λs2 e=>⟨rfl,e⟩) rfl)) ?_ λ_ _ e=>e)
   rintro⟨⟨⟩,l⟩ s2 ⟨p,U,O,V,R,rfl⟩
   dsimp only
   refine fin (p.toList.map λi=>vs.getD i Value.none) l (by rw[HC,Array.length_toList,O]) ?_ (kat_snds Y V) R
   unfold ar bY
   rw[if_neg (by rw[HC];omega),U,HC,q]
  ·have hn2:vs.toArray.size<2:=by rw[HM];omega
   rw[if_pos hn2,if_pos hn2]
   refine jj (ke ?_)
   refine jj (ke ?_)
   dsimp only
   refine fin vs _ rfl ?_ ?_ rfl
   ·unfold ar bY
    rw[if_pos (by rw[HC];omega),HC,q]
    apply IS
    ·simp
    ·intro i h1 h2
     simp at h2
     simp[h2]
   show(ks.toArray.zip vs.toArray).map (·.2)=_
   apply Array.toList_inj.mp
   simp
   exact List.map_snd_zip (by omega)
end
section
variable {X:Cx}{pins:List (Addr×Obj)}{σ:St}{H0:Hp}{f:Addr}{vs:List Value}{A:Around}{E:Value->Shared->Prop}{s:Shared}
theorem kX {kds:List PyData}{l:Addr}{Q:Value->Shared->Prop} (I:Inv X pins σ H0 s) (n:s.heap.IsList l vs.toArray) (e:vs.length<64) (p:A.in1.in1.units+64<Kg)
  (j:kds.length=vs.length) (k:B6 kds) (call:∀ i (h:i<vs.length),∀ H s',Inv X pins σ H s'->aR H0 H->qb (q3 X.prog X.w) A.in1.in1 (call (.ref f) [vs[i]]) (dM X pins σ H s' (kds.getD i .none)) (λ_ _=>False) s')
  (h : ∀ H s' D c,Inv X pins σ H s'->aR H0 H->eU X pins H D->s'.heap.get? D=some (q4 "list" (bY (ar (kds.map eQ)) vs Value.none).toArray c)->Q (.ref D) s') :
  qb (q3 X.prog X.w) A (PySem.call (.builtin "sorted") [.ref l] [(Str.ofString "key",.ref f)]) Q E s:=by
 refine Q1 kind_sorted QY Q0 (ksk_s1 _ _) ?_
 unfold Builtin.«sorted»
 refine jj (m:=checkCount "sorted" 1 1 _) (ke ?_)
 refine jj (collect_list n ?_ (by rw[zd];omega))
 refine jj (KB ?_ (by rw[zd];omega))
 have hsz:((s.heap.push (q4 "list" #[] 0)).update s.heap.objs.size (Obj.mapSeq (·++vs.toArray))).objs.size=s.heap.objs.size+1:=by
  rw[Jp,QG]
 have d:(((s.heap.push (q4 "list" #[] 0)).update s.heap.objs.size (Obj.mapSeq (·++vs.toArray))).push (q4 "list" vs.toArray 0)).get? (s.heap.objs.size+1)=some (q4 "list" vs.toArray 0):=by
  rw[<-hsz];exact HR _ rfl
 have keep:∀ b o,s.heap.get? b=some o->(((s.heap.push (q4 "list" #[] 0)).update s.heap.objs.size (Obj.mapSeq (·++vs.toArray))).push (q4 "list" vs.toArray 0)).get? b=some o:=λb o q=>by
  have a:b<s.heap.objs.size:=HL q
  rw[Heap.get?_push_ne _ _ _ (by rw[hsz];exact HZ (IW a)),Heap.get?_update_ne _ _ _ _ (HZ a),Heap.get?_push_ne _ _ _ (HZ a)]
  exact q
 show qb _ _ _ _ _ { s with heap:=((s.heap.push (q4 "list" #[] 0)).update s.heap.objs.size (Obj.mapSeq (·++vs.toArray))).push (q4 "list" vs.toArray 0) }
 rw[hsz]
 refine jj (zh (wpAny_call_entry_kw QF ⟨_,d,rfl⟩ QB ?body (ksk_l1 _ _)))
 case body =>
  show qb (q3 X.prog X.w) A.in1.in1 (Builtin.«list.sort» ⟨[.ref (s.heap.objs.size+1)],[(Str.ofString "key",.ref f)]⟩) _ _ _
  rw[ksk_t1]
  refine qO (kds:=kds) (I.kept (t':=s.toks) keep) (I.fpOk (IQ _) (I.hok.fresh (IQ _))) d e p j k call λH s' c r t fp g=>⟨_,rfl,ke ⟨_,rfl,?_⟩⟩
  exact h H s' _ c r t fp g
end
theorem zO {K:PySem.W.Frag}{H:Hp}{vs:List V}{ds:List PyData} (q:DNs K N0 H vs ds):Rel K N0 N0 H (vs.map some) (vs.map some) (ds.map Sl.fr) [] H:=by
 have c:∀ x s,(x,s)∈aI (vs.map some) (ds.map Sl.fr) []->∃ v d,x=some v/\s=.fr d/\(v,d)∈vs.zip ds:=λx s m=>by
  have m:(x,s)∈(vs.map some).zip (ds.map Sl.fr)++[]:=m
  rw[Iy,List.zip_map] at m
  obtain⟨⟨v,d⟩,f,e⟩:=HS.mp m
  cases e
  exact⟨v,d,rfl,rfl,f⟩
 have g:oas (aI (vs.map some) (ds.map Sl.fr) [])=[]:=List.flatMap_eq_nil_iff.mpr λ⟨x,s⟩ m=>by
  obtain⟨v,d,rfl,rfl,_⟩:=c x s m
  exact dB _ _
 have ne:∀ b,Nw N0 (aI (vs.map some) (ds.map Sl.fr) []) b->N0 b:=λb z=>by
  rcases z with z|z
  ·exact z
  ·rw[g] at z;cases z
 refine⟨⟨aV.refl,λa h=>h,λa z=>z.elim,λa z=>z,λx e m=>?_,λx e m=>?_,λx e m=>?_,λx S e m=>?_,by rw[g];exact Jq⟩,by rw[HC,HC,q.len],λw i m=>(by cases m),λi ds' e=>rfl⟩
 ·obtain⟨v,d,rfl,e1,f⟩:=c _ _ m
  cases e1
  exact⟨v,rfl,(nP q _ f).to λb _ _ z=>ne b z⟩
 ·obtain⟨v,d,_,e1,_⟩:=c _ _ m;cases e1
 ·obtain⟨v,d,_,e1,_⟩:=c _ _ m;cases e1
 ·obtain⟨v,d,_,e1,_⟩:=c _ _ m;cases e1
noncomputable def iE (tb:DE) (es:List PyData) (kd:PyData):Prop:=tb (es.map .fr) λs env=>aC env s=some kd
section
variable {X:Cx}{pins:List (Addr×Obj)}{σ:St}{H:Hp}{s:Shared}{params:KM}{scope:Kc}{body:Expr}{f c c':Addr}{qual p x:Str}{pm ctv:Value}{k:Nat}{A:Around}{tb:DE}{kd:PyData}
theorem um {fl:Except Value Flow}{s':Shared} (I:Inv X pins σ H s) (c:CR CX0 X.stack X.prog X.w H s (λv H'=>aR H H'/\DN X.K N0 H' v kd) E0 fl s'):∃ r,fl=.ok (.ret r)/\dM X pins σ H s kd r s':=by
 cases fl with
 | error e=>exact c.elim
 | ok fl =>
  cases fl with
  | ret z =>
   obtain⟨d,H',os,bare,un,hok,f,g,dn⟩:=c
   refine⟨_,rfl,H',d,I.call' (ch:=[]) os un hok bare (λb z=>nomatch z),g,f,dn,λb o a e=>⟨un.keep b o e a.1 (λz=>?_) (by simp),un.free b o e a.1 (by simp)⟩⟩
   rcases HP.mp (I.stkSub b z) with z|z
   ·exact a.2.1 z
   ·exact a.2.2.1 z
  | next=>exact False.elim c
  | brk=>exact False.elim c
  | cont=>exact False.elim c
theorem yy {vs:List V}{ds:List PyData} (q:DNs X.K N0 H vs ds) (hk:iE tb ds kd):up X.K tb (vs.map some) H λv H'=>aR H H'/\DN X.K N0 H' v kd:=by
 refine⟨N0,N0,H,_,_,[],_,zO q,hk,λs1 env' v' H' c a=>⟨(a.e.keep).none,?_⟩⟩
 have:=a.kept (ts:=[]) (v:=v') (s:=s1) (by simp) c
 exact this.to λb _ _ z=>z.elim
theorem wz {d:PyData}{v:V}{u:Value} (I:Inv X pins σ H s) (c:r9 X.prog X.w X.K X.mg X.base A X.stack s H) (e:cJ (k+1) A) (S:ao [p] [p] scope)
  (g:ze (Qi "<lambda>" qual params body scope [] pm (.ref c') ctv) ⟨[u],[]⟩=pure [(p,u)])
  (a:PE (qt CX0 X.prog X.w X.K X.mg X.base [p] qual scope f (.ref c') A X.stack s H E0) body (up X.K tb))
  (ho:s.heap.get? f=some (KT "<lambda>" qual params body scope [] pm c' ctv)) (b:s.heap.CodeRec (.ref c') qual) (r:bw v u) (hd:DN X.K N0 H v d) (hk:iE tb [d] kd) :
  qb (q3 X.prog X.w) A (call (.ref f) [u]) (dM X pins σ H s kd) (λ_ _=>False) s :=
 wpAny_call (K9 (AS (CX:=CX0) (E:=E0) (ps:=[p]) (us:=[u]) (vs:=[v]) S e c ho b g (.cons r .nil) rfl a (yy (.cons hd .nil) hk)) λres s' i=>by
  obtain⟨z,rfl,h⟩:=um I i
  exact h)
theorem pG {d j:PyData}{v v0:V}{u u0:Value} (I:Inv X pins σ H s) (l:r9 X.prog X.w X.K X.mg X.base A X.stack s H) (m:cJ (k+1) A) (S:dJ p x scope)
  (n:ze (Qi "<lambda>" qual params body scope [(x,c)] pm (.ref c') ctv) ⟨[u],[]⟩=pure [(p,u)])
  (a:PE (rY CX0 X.prog X.w X.K X.mg X.base [p,x] qual scope f (.ref c') [(x,c)] A X.stack s H E0) body (up X.K tb))
  (ho:s.heap.get? f=some (KT "<lambda>" qual params body scope [(x,c)] pm c' ctv)) (e:s.heap.CodeRec (.ref c') qual) (b:s.heap.IsCell c (some u0)) (o:bw v0 u0) (g:H c=none)
  (r : bw v u) (hd:DN X.K N0 H v d) (i:DN X.K N0 H v0 j) (hk:iE tb [d,j] kd) :
  qb (q3 X.prog X.w) A (call (.ref f) [u]) (dM X pins σ H s kd) (λ_ _=>False) s :=
 wpAny_call (K9 (wy (CX:=CX0) (E:=E0) S m l ho e n b o g r a (yy (.cons hd (.cons i .nil)) hk)) λres s' q=>by
  obtain⟨z,rfl,h⟩:=um I q
  exact h)
end
section
variable {X:Cx}{K:PySem.W.Frag}{e:Expr}{t:TA}{q0 pos kpos lpos:Pos}{params:KM}{scope:Kc}{body:Expr}{p x:Str}{i:Nat}{tb:DE}{KR:St->Hp->PyData->PyData->Prop}
noncomputable def zH (K:PySem.W.Frag) (KR:St->Hp->PyData->PyData->Prop) (t:TA):TE:=λσ H Q=>t σ H λxs H1=>∃ (q:Addr) (vs:List V) (N:Addr->Prop) (ds kds:List PyData),xs=[.ref q]/\SqL K H1 q vs/\DNs K N H1 vs ds/\kds.length=ds.length/\B6 kds/\(∀ i,i<ds.length->KR σ H1 (ds.getD i .none) (kds.getD i .none))/\vs.length<64 /\
 ∀ H2,aR H1 H2->∀ q,H2 q=none->Q (.ref q) (upd H2 q (.lst (bY (ar (kds.map eQ)) vs .non)))
theorem tK (hK:X.K=K) (L:mF X) (W:cJ 4 X.A) (Y:Gl X "sorted") (Z:X.mg "sorted" = none) (ha:PA X [e] t) (n:KA params X.env=([],[]))
  (E:∀ {pins:List (Addr×Obj)}{s:Shared}{σ:St}{H:Hp},Inv X pins σ H s->∃ clos,Ki scope X.env=pure clos)
  (F:∀ {σ:St}{H H':Hp}{d kd:PyData},KR σ H d kd->aR H H'->KR σ H' d kd)
  (k:∀ {pins:List (Addr×Obj)}{s:Shared}{σ:St}{H:Hp}{clos:List (Str×Addr)}{f c':Addr}{pm ctv u:Value}{v:V}{d kd:PyData},Inv X pins σ H s->Ki scope X.env=pure clos->s.heap.get? f=some (KT "<lambda>" (X.env.qual ++ "<lambda>") params body scope clos pm c' ctv)->s.heap.CodeRec (.ref c') (X.env.qual ++ "<lambda>") ->
   bw v u->DN X.K N0 H v d->KR σ H d kd->qb (q3 X.prog X.w) X.A.in1.in1 (call (.ref f) [u]) (dM X pins σ H s kd) (λ_ _=>False) s)
  (o:J0 pos (kq [e] X.env)=(false,eval e X.env)::J0 pos (kq [] X.env)) :
  PE X (.Call (.Name "sorted" q0) [e] [⟨some "key",.Lambda params body scope lpos,kpos⟩] pos) (zH K KR t):=by
 subst hK
 intro pins s σ H Q I h
 obtain⟨clos,hc⟩:=E I
 refine Ku (dh I Y Z boot_sorted ?_ (by decide) (by decide))
 refine callWith_kw (thn (ha pos pins s σ H _ I h) λus s1 G=>?_) o (by rw[o];rfl) rfl rfl
 obtain⟨xs,H1,I1,r,q⟩:=G
 show qb _ _ (evalAll [(do let v <-eval (.Lambda params body scope lpos) X.env;KD pos;pure v)]) _ _ s1
 refine wpAny_evalAll_cons (jj (lL I1 L hc n λf c' pm ctv s2 H2 J B p l cz=>jj (KZ (ke (wpAny_evalAll_nil ?_)))))
 obtain⟨p0,vs,N,ds,kds,rfl,sq,dn,a0,M,x,a4,q⟩:=q
 obtain⟨u,rfl,ru⟩:=hV r
 cases (show u=Value.ref p0 from ru)
 obtain⟨a5,O,hp,_⟩:=J.list (B.seq sq)
 have T:=O.length
 obtain⟨C,g⟩:∃ C,C=KT "<lambda>" (X.env.qual ++ "<lambda>") params body scope clos pm c' ctv:=⟨_,rfl⟩
 rw[<-g] at p
 have I3:Inv X ((f,C)::pins) σ H2 s2:=J.pins_of λz hz=>by
  rcases HP.mp hz with rfl|hz
  ·exact⟨p,l.1,l.2.1,l.2.2.1,λv=>by rw[g];exactλz=>by cases z⟩
  ·exact J.pin z (HA _ hz)
 have P:DNs X.K N0 H2 vs ds:=(dn.keep (aV.same B)).to λb _ _ z=>z.elim
 show qb _ _ (PySem.call (.builtin "sorted") [.ref p0] [(Str.ofString "key",.ref f)]) _ _ _
 have a6:ds.length=vs.length:=dn.len.symm
 refine kX (kds:=kds) I3 hp.isList (by omega) ?_ (by omega) M (λi hi H' s' m j=>?_) λH' s' D c m j a gD=>?_
 ·have:=W.un
  show X.A.units+1+1+64<Kg
  omega
 ·obtain⟨v,rx,dx,md⟩:=xc P O i hi
  have U:=(m.pin (f,C) (HA _ HH)).1
  rw[g] at U
  obtain⟨oc,u,ws,t,e1,e2,e3⟩:=cz
  obtain⟨R,_⟩:=m.hok c' _ (j _ _ e1)
  exact k m hc U ⟨_,_,_,_,rfl,R,e2,e3⟩ rx (dx.keep (aV.same j)) (F (x i (by omega)) (B.trans j))
 ·have I4:Inv X pins σ H' s':=m.pins_of λz hz=>m.pin z (HA _ (HJ _ hz))
  have y:eU X pins H' D:=⟨a.1,a.2.1,a.2.2.1,a.2.2.2.1,a.2.2.2.2.1,λz hz=>a.2.2.2.2.2 z (by
   rcases HF.mp hz with hz|hz
   ·exact HG _ hz
   ·exact HA _ (HJ _ hz))⟩
  have S:∀ i∈ar (kds.map eQ),i<vs.length:=λi hi=>by have:=dy i hi;rw[HC] at this;omega
  refine⟨.ref D,upd H' D (.lst (bY (ar (kds.map eQ)) vs .non)),I4.track y ⟨?_,_,c,gZ O S,gD⟩,rfl,q _ (B.trans j) _ a.1⟩
  unfold bY
  rw[HC,(aT _).length_eq,Io,HC,zd]
  omega
theorem An (hK:X.K=K) (L:mF X) (l:cJ 4 X.A) (m:Gl X "sorted") (n:X.mg "sorted" = none) (o:PA X [e] t) (S:ao [p] [p] scope)
  (q:∀ (qual:Str) (pm c ctv u:Value),ze (Qi "<lambda>" qual params body scope [] pm c ctv) ⟨[u],[]⟩=pure [(p,u)])
  (b:Ki scope X.env=pure []) (g:KA params X.env=([],[]))
  (a:∀ (A:Around) (s:Shared) (H:Hp) (f:Addr) (cd:Value),PE (qt CX0 X.prog X.w X.K X.mg X.base [p] (X.env.qual ++ "<lambda>") scope f cd A X.stack s H E0) body (up X.K tb))
  (i:J0 pos (kq [e] X.env)=(false,eval e X.env)::J0 pos (kq [] X.env)) :
  PE X (.Call (.Name "sorted" q0) [e] [⟨some "key",.Lambda params body scope lpos,kpos⟩] pos) (zH K (λ_ _ d kd=>iE tb [d] kd) t) :=
 tK hK L l m n o g (λ_=>⟨[],b⟩) (λh _=>h) (λI hc ho j r hd hk=>by
  rw[b] at hc
  cases hc
  exact wz (k:=1) I I.env0.in1.in1 l.in1.in1 S (q _ _ _ _ _) (a _ _ _ _ _) ho j r hd hk) i
theorem Ao (hK:X.K=K) (L:mF X) (O:cJ 4 X.A) (P:Gl X "sorted") (Q:X.mg "sorted" = none) (R:PA X [e] t) (S:dJ p x scope)
  (T:X.N[i]? = some x) (U:Vis X.env.scope x) (b:X.env.kindOf x=some .cell\/X.env.kindOf x=some .free) (D:X.env.kindOf x≠some .local)
  (V:∀ (qual:Str) (W:List (Str×Addr)) (pm c ctv u:Value),ze (Qi "<lambda>" qual params body scope W pm c ctv) ⟨[u],[]⟩=pure [(p,u)])
  (n:∀ c,X.env.cells.lookup x=some c->Ki scope X.env=pure [(x,c)]) (o:KA params X.env=([],[]))
  (g:∀ (A:Around) (s:Shared) (H:Hp) (f:Addr) (cd:Value) (c:Addr),cJ 1 (A.deeper (envX (X.env.qual ++ "<lambda>") scope s.heap.objs.size f cd [(x,c)]))->PE (rY CX0 X.prog X.w X.K X.mg X.base [p,x] (X.env.qual ++ "<lambda>") scope f cd [(x,c)] A X.stack s H E0) body (up X.K tb))
  (E:J0 pos (kq [e] X.env)=(false,eval e X.env)::J0 pos (kq [] X.env)) :
  PE X (.Call (.Name "sorted" q0) [e] [⟨some "key",.Lambda params body scope lpos,kpos⟩] pos) (zH K (λσ H d kd=>∃ v0 q,σ[i]? = some (some v0)/\DN K N0 H v0 q/\iE tb [d,q] kd) t):=by
 subst hK
 refine tK rfl L O P Q R o (λI=>?_) (λh Y=>?_) (λ{pins s σ H clos f c' pm ctv u v d kd} I hc ho F r hd hk=>?_) E
 ·obtain⟨c,hc⟩:=I.ok.has x b
  exact⟨_,n c hc⟩
 ·obtain⟨v0,q,Z,dn,hk⟩:=h
  exact⟨v0,q,Z,dn.keep (aV.same Y),hk⟩
 ·obtain⟨c,j⟩:=I.ok.has x b
  rw[n c j] at hc
  cases hc
  obtain⟨v0,q,G,J,hk⟩:=hk
  obtain⟨m,a0,y⟩:=I.loc
  obtain⟨u0,M,l⟩:=y i x v0 T G U
  have a:s.heap.IsCell c (some u0):=by
   rcases l with⟨z,_⟩|⟨_,c2,B,ic⟩
   ·exact absurd z D
   ·rw[j] at B
    cases B
    exact ic
  have C:cJ 2 X.A.in1.in1:=O.in1.in1
  exact pG (k:=1) I I.env0.in1.in1 C S (V _ _ _ _ _ _) (g _ _ _ _ _ _ (C.deeper _)) ho F a M (I.freeC x c j) r hd J hk
noncomputable def nK:PyData->PyData
 | .list es=>.tuple [.int es.length,.list es]
 | d=>d
noncomputable def yz (tb:DE) (d kd:PyData):Prop:=tb [.fr d] λs env=>aC env s=some kd
noncomputable def uo (tb:DE) (d a kd:PyData):Prop:=tb [.fr d,.fr a] λs env=>aC env s=some kd
noncomputable def Bx (tb:DE) (t:DA):DE:=λenv R=>t env λss a=>∃ s ds b,ss=[s]/\aP a s=some (.list ds)/\ds.length<64/\B6 (ds.map b)/\(∀ d∈ds,yz tb d (b d))/\R (.ow (bY (ar ((ds.map b).map eQ)) ds .none)) a
noncomputable def By (tb:DE) (i:Nat) (t:DA):DE:=λenv R=>t env λss a=>∃ s ds c b,ss=[s]/\aP a s=some (.list ds)/\a[i]? = some (.fr c)/\ds.length<64/\B6 (ds.map b)/\(∀ d∈ds,uo tb d c (b d))/\R (.ow (bY (ar ((ds.map b).map eQ)) ds .none)) a
variable {tl:DA}
theorem uz {ds:List PyData}{a:PyData->PyData}{P:PyData->PyData->Prop} (h:∀ d∈ds,P d (a d)) {i:Nat} (hi:i<ds.length):P (ds.getD i .none) ((ds.map a).getD i .none):=by
 have e1:ds.getD i .none=ds[i]:=by simp[HB,hi]
 have e2:(ds.map a).getD i .none=a ds[i]:=by simp[HB,hi]
 rw[e1,e2]
 exact h _ (Ih hi)
theorem tF {K:PySem.W.Frag}{N:Addr->Prop}{H:Hp}{us:List V}{ds:List PyData}{a:PyData->PyData} (q:DNs K N H us ds):DNs K N H (bY (ar ((ds.map a).map eQ)) us .non) (bY (ar ((ds.map a).map eQ)) ds .none) :=
 qd q λi hi=>by have:=dy i hi;rw[HC,HC] at this;rw[q.len];exact this
theorem CK (hK:X.K=K) (L:mF X) (x:cJ 4 X.A) (y:Gl X "sorted") (z:X.mg "sorted" = none) (B:PA X [e] (upA K tl)) (S:ao [p] [p] scope)
  (C:∀ (qual:Str) (pm c ctv u:Value),ze (Qi "<lambda>" qual params body scope [] pm c ctv) ⟨[u],[]⟩=pure [(p,u)])
  (k:Ki scope X.env=pure []) (j:KA params X.env=([],[]))
  (g:∀ (A:Around) (s:Shared) (H:Hp) (f:Addr) (cd:Value),PE (qt CX0 X.prog X.w X.K X.mg X.base [p] (X.env.qual ++ "<lambda>") scope f cd A X.stack s H E0) body (up X.K tb))
  (l:J0 pos (kq [e] X.env)=(false,eval e X.env)::J0 pos (kq [] X.env):=by rfl) :
  PE X (.Call (.Name "sorted" q0) [e] [⟨some "key",.Lambda params body scope lpos,kpos⟩] pos) (up K (Bx tb tl)) :=
 (An (K:=K) (tb:=tb) hK L x y z B S C k j g l).imp λσ H Q h=>by
 obtain⟨M,P,H0,σ0,env,ts,R,m,D,E⟩:=h
 refine⟨M,P,H0,σ0,env,ts,_,m,D,λss r vs H1 h1 F b=>?_⟩
 obtain⟨s,ds,G,rfl,e1,n,o,hk,I⟩:=h1
 obtain⟨v,rfl⟩:=vp F
 obtain⟨a,us,rfl,sq,q⟩:=(b.view (v:=v) (by simp) e1).list
 exact⟨a,us,_,ds,ds.map G,rfl,sq,q,HC ..,o,λi hi=>uz (P:=λd kd=>iE tb [d] kd) hk hi,by rw[q.len];exact n,λH2 t N J=>E _ _ _ _ I ((b.same t).resOw J (tF (q.keep (aV.same t))))⟩
theorem CL (i:Nat) (hK:X.K=K) (L:mF X) (G:cJ 4 X.A) (I:Gl X "sorted") (J:X.mg "sorted" = none) (O:PA X [e] (upA K tl)) (S:dJ p x scope)
  (T:X.N[i]? = some x) (U:Vis X.env.scope x) (k:X.env.kindOf x=some .cell\/X.env.kindOf x=some .free) (m:X.env.kindOf x≠some .local)
  (V:∀ (qual:Str) (W:List (Str×Addr)) (pm c ctv u:Value),ze (Qi "<lambda>" qual params body scope W pm c ctv) ⟨[u],[]⟩=pure [(p,u)])
  (n:∀ c,X.env.cells.lookup x=some c->Ki scope X.env=pure [(x,c)]) (l:KA params X.env=([],[]))
  (j:∀ (A:Around) (s:Shared) (H:Hp) (f:Addr) (cd:Value) (c:Addr),cJ 1 (A.deeper (envX (X.env.qual ++ "<lambda>") scope s.heap.objs.size f cd [(x,c)]))->PE (rY CX0 X.prog X.w X.K X.mg X.base [p,x] (X.env.qual ++ "<lambda>") scope f cd [(x,c)] A X.stack s H E0) body (up X.K tb))
  (o:J0 pos (kq [e] X.env)=(false,eval e X.env)::J0 pos (kq [] X.env):=by rfl) :
  PE X (.Call (.Name "sorted" q0) [e] [⟨some "key",.Lambda params body scope lpos,kpos⟩] pos) (up K (By tb i tl)) :=
 (Ao (K:=K) (tb:=tb) hK L G I J O S T U k m V n l j o).imp λσ H Q h=>by
 obtain⟨M,P,H0,σ0,env,ts,R,r,Y,Z⟩:=h
 refine⟨M,P,H0,σ0,env,ts,_,r,Y,λss D vs H1 h1 hl g=>?_⟩
 obtain⟨s,ds,E,kf,rfl,e1,e0,t,y,hk,hR⟩:=h1
 obtain⟨v,rfl⟩:=vp hl
 obtain⟨a,us,rfl,sq,q⟩:=(g.view (v:=v) (by simp) e1).list
 obtain⟨x0,ex,m0⟩:=g.slot e0
 obtain⟨v0,B,C⟩:=g.e.fr _ _ m0
 exact⟨a,us,_,ds,ds.map kf,rfl,sq,q,HC ..,y,λi hi=>⟨v0,E,by rw[ex,B],C.to λb _ _ z=>z.elim,uz (P:=λd kd=>iE tb [d,E] kd) hk hi⟩,by rw[q.len];exact t,λH2 F p' hp=>Z _ _ _ _ hR ((g.same F).resOw hp (tF (q.keep (aV.same F))))⟩
end
end _L
namespace _L
open PySem PySem.Spec PyProof.Rows
noncomputable def Ev (t:DE) (env:List Sl) (s:Sl):Prop:=∀ R:Sl->List Sl->Prop,R s env->t env R
noncomputable def EvA (t:DA) (env:List Sl) (ss:List Sl):Prop:=∀ R:List Sl->List Sl->Prop,R ss env->t env R
noncomputable def EvT (t:DT) (env:List Sl) (k:Bool):Prop:=∀ R:Bool->List Sl->Prop,R k env->t env R
noncomputable def EvO (t:DO) (env:List Sl) (k:Option Int):Prop:=∀ R:Option Int->List Sl->Prop,R k env->t env R
noncomputable def EvI (t:DI) (env:List Sl) (ds:List PyData):Prop:=∀ R:List PyData->List Sl->Prop,R ds env->t env R
noncomputable def E2 (g:G2) (d e x:PyData):Prop:=∀ R:PyData->Prop,R x->g d e R
noncomputable def E1 (g:G1) (d x:PyData):Prop:=∀ R:PyData->Prop,R x->g d R
noncomputable def EB (g:GB) (ds:List PyData) (x:PyData):Prop:=∀ R:PyData->Prop,R x->g ds R
noncomputable def EL (g:PyData->PyData->(List PyData->Prop)->Prop) (d e:PyData) (x:List PyData):Prop:=∀ R:List PyData->Prop,R x->g d e R
section
variable {env:List Sl}{s s1 s2 s':Sl}{d d1 d2 x e:PyData}{ds es xs ys:List PyData}{i:Nat}{m n:Int}{ta tb te:DE}{tl:DA}{ss:List Sl}{g:G2}{k:Bool}{DD:mH}
theorem DR (h:(env[i]?).bind slD=some d):Ev (EM i) env (.vw i):=λ_ r=>⟨d,h,r⟩
theorem Ho:Ev (dC d) env (.fr d):=λ_ r=>r
theorem D1 (h:env[i]? = some (.fr d)):Ev (yV i) env (.fr d):=λR r=>by unfold yV;rw[h];exact r
theorem FW (h1:Ev ta env s1) (h2:Ev tb env s2) (e1:aP env s1=some d1) (e2:aP env s2=some d2) (h:E2 g d1 d2 x):Ev (dOp g ta tb) env (.fr x):=λ_ r=>h1 _ (h2 _ ⟨d1,d2,e1,e2,h _ r⟩)
theorem DX {g:PyData->PyData->(List PyData->Prop)->Prop} (h1:Ev ta env s1) (h2:Ev tb env s2) (e1:aP env s1=some d1) (e2:aP env s2=some d2) (h:EL g d1 d2 xs):Ev (Ek g ta tb) env (.ow xs):=λ_ r=>h1 _ (h2 _ ⟨d1,d2,e1,e2,h _ r⟩)
theorem FV {g:G1} (h1:Ev ta env s1) (e1:aP env s1=some d1) (h:E1 g d1 x):Ev (dUn g ta) env (.fr x):=λ_ r=>h1 _ ⟨d1,e1,h _ r⟩
theorem FZ {g:GB} (h1:EvA tl env ss) (e1:fE env ss=some ds) (h:EB g ds x):Ev (dCB g tl) env (.fr x):=λ_ r=>h1 _ ⟨ds,e1,h _ r⟩
theorem DU (h1:EvA tl env ss) (e1:bp env ss=some ds) (z:ss.length<=sizeLine):Ev (B0 tl) env (.fr (.tuple ds)):=λ_ r=>h1 _ ⟨ds,e1,z,r⟩
theorem D0 (h1:EvA tl env ss) (e1:bp env ss=some ds) (z:ss.length<=sizeLine):Ev (ES tl) env (.ow ds):=λ_ r=>h1 _ ⟨ds,e1,z,r⟩
theorem Be (h1:Ev ta env s1) (h2:Ev tb env s2) (e1:aP env s1=some (.tuple xs)) (e2:aP env s2=some (.tuple ys)) (z:xs.length+ys.length<=sizeLine):Ev (F8 ta tb) env (.fr (.tuple (xs++ys))):=λ_ r=>h1 _ (h2 _ ⟨xs,ys,e1,e2,z,r⟩)
theorem DW {l h:Option Int}{a b:DO} (h1:Ev te env s) (h2:EvO a env l) (c:EvO b env h) (e1:aP env s=some (.list ds)):Ev (EN te a b) env (.ow (mh ds l h)):=λ_ r=>h1 _ (h2 _ (c _ ⟨ds,e1,r⟩))
theorem FX:EvO ko env none:=λ_ r=>r
theorem Bc (h1:Ev te env s) (e1:aP env s=some (.int n)):EvO (xk te) env (some n):=λ_ r=>h1 _ ⟨n,e1,r⟩
theorem DZ:EvA ER env []:=λ_ r=>r
theorem Bd (h1:Ev te env s) (h2:EvA tl env ss):EvA (xp te tl) env (s::ss):=λ_ r=>h1 _ (h2 _ r)
theorem Bb (h1:Ev te env s) (e1:aP env s=some (.bool k)):EvT (nR te) env k:=λ_ r=>h1 _ ⟨k,e1,r⟩
theorem DY {t:DT} (h1:EvT t env k):EvT (EQ t) env (!k):=λ_ r=>h1 _ r
theorem wX (h1:Ev te env s) (e1:aP env s=some d) (e2:vE d=some k):EvT (l9 te) env k:=λ_ r=>h1 _ ⟨d,k,e1,e2,r⟩
theorem FY {n:String} (h1:Ev te env s) (e1:aP env s=some d) (e2:AA d=true):Ev (dIs n te) env (.fr (.bool (isK n d))):=λ_ r=>h1 _ ⟨d,e1,e2,r⟩
theorem Hq {f:Int->Int->Int}:E2 (gI f) (.int m) (.int n) (.int (f m n)):=λ_ r=>⟨m,n,rfl,rfl,r⟩
theorem F5 {C:Int->Int->Prop}{f:Int->Int->Int} (c:C m n):E2 (gIC C f) (.int m) (.int n) (.int (f m n)):=λ_ r=>⟨m,n,rfl,rfl,c,r⟩
theorem Hr {f:Int->Int->Bool}:E2 (gB f) (.int m) (.int n) (.bool (f m n)):=λ_ r=>⟨m,n,rfl,rfl,r⟩
theorem F4 (h1:shp d) (h2:shp e):E2 gEq d e (.bool (PyData.eqv d e)):=λ_ r=>⟨h1,h2,r⟩
theorem F1 (h1:shp d) (h2:shp e):E2 gNe d e (.bool (!PyData.eqv d e)):=λ_ r=>⟨h1,h2,r⟩
theorem Ef:E2 EI d .none (.bool (jv d)):=λ_ r=>⟨rfl,r⟩
theorem Bm:E2 wR d .none (.bool (!jv d)):=λ_ r=>⟨rfl,r⟩
theorem F2 (h1:eO d=some ds) (h2:atI ds n=some x):E2 gIx d (.int n) x:=λ_ r=>⟨ds,n,x,h1,rfl,h2,r⟩
theorem F3 {ns:List Int} (h1:eO e=some ds) (h2:bN ds=some ns):E2 gIn (.int n) e (.bool (decide (n∈ns))):=λ_ r=>⟨n,ds,ns,rfl,h1,h2,r⟩
theorem wZ {ns:List Int} (h1:eO e=some ds) (h2:bN ds=some ns):E2 DM (.int n) e (.bool (!decide (n∈ns))):=λ_ r=>⟨n,ds,ns,rfl,h1,h2,r⟩
theorem Eg:E1 EE (.int n) (.int (-n)):=λ_ r=>⟨n,rfl,r⟩
theorem Ec (h:eO d=some es):EB EF [d] (.int es.length):=λ_ r=>⟨d,es,rfl,h,r⟩
theorem Ea:EB Hm [.int m,.int n] (.int (if n<m then n else m)):=λ_ r=>⟨m,n,rfl,r⟩
theorem Eb:EB Hn [.int m,.int n] (.int (if n>m then n else m)):=λ_ r=>⟨m,n,rfl,r⟩
theorem D9 {ns:List Int} (h:bN es=some ns):EB ED [.list es] (.int ns.sum):=λ_ r=>⟨es,ns,rfl,h,r⟩
theorem D8 (z:xs.length+ys.length<=sizeLine):EL EJ (.list xs) (.list ys) (xs++ys):=λ_ r=>⟨xs,ys,rfl,rfl,z,r⟩
theorem Bj (h1:Ev te env s) (e1:aC env s=some (.list ds)):EvI (qk te) env ds:=λ_ r=>h1 _ ⟨ds,e1,r⟩
theorem D7 (h1:Ev te env s) (e1:aC env s=some (.tuple ds)):EvI (xl te) env ds:=λ_ r=>h1 _ ⟨ds,e1,r⟩
theorem Bi (h1:EvA tl env [s]) (e1:aP env s=some (.int n)) (z1:-4611686018427387904<=n) (z2:n<4611686018427387904):EvI (xi tl) env (fO 0 n.toNat):=λ_ r=>h1 _ ⟨s,n,rfl,e1,z1,z2,r⟩
theorem Bl {b:Bool} (h1:EvA tl env [s]) (e1:aC env s=some (sqD b ds)):EvI (xm b tl) env (kj ds):=λ_ r=>h1 _ ⟨s,ds,rfl,e1,r⟩
theorem D6 {b c:Bool} (h1:EvA tl env [s,s']) (e1:aC env s=some (sqD b ds)) (e2:aC env s'=some (sqD c es)):EvI (EK b c tl) env (kI ds es):=λ_ r=>h1 _ ⟨s,s',ds,es,rfl,e1,e2,r⟩
theorem AN {n:Nat} (h:decide (n<=100)=true):n<=sizeLine:=HQ (of_decide_eq_true h) (HQ (by decide) au)
theorem Ce {t u:DS} (h:t { DD with nx:=u DD } env):Ei t u DD env:=h
theorem Cd (h1:Ev te env s) (z:i<env.length) (e1:gH env s=some s') (h:DD.nx (env.set i s')):yS i te DD env:=h1 _ ⟨s',z,e1,h⟩
theorem zx (h1:Ev te env s) (h:DD.nx env):rJ te DD env:=h1 _ h
theorem Cf (h1:Ev te env s) (h:DD.rt s env):Ej te DD env:=h1 _ h
theorem Cg {c:DT}{t u:DS} (h1:EvT c env k) (h:if k=true then t DD env else u DD env):ET c t u DD env:=h1 _ h
theorem Ch {it:DI}{g:DG}{tb:DS} (h1:EvI it env ds) (h:FD ds g tb DD env):EU it g tb DD env:=h1 _ h
theorem Ci {a:Sl} (h1:Ev te env s) (e1:aC env s=some d) (e2:env[i]? = some a) (e3:iW a=some ds) (z:ds.length<sizeLine) (b:cV a (ds++[d])=some s') (h:DD.nx (env.set i s')):rJ (EV i te) DD env:=⟨⟨ds,by rw[e2];exact e3⟩,h1 _ ⟨d,a,ds,s',e1,e2,e3,z,b,h⟩⟩
theorem zD {sp:DSp}{q:Nat}{b:Sl}{l a ds2:List PyData}{R:Sl->List Sl->Prop} (h1:EvA tl env ss) (a1:ss[q]? = some (.vw i)) (a2:env[i]? = some b) (a3:iW b=some l) (d:bp env (ss.take q)=some a) (e:bp env (ss.drop (q+1))=some ds2)
  (h : sp (a.map .fr++.io l::ds2.map .fr) (dK (λr as=>∃ c s',as[q]? = some (.io c)/\cV b c=some s'/\R r (env.set i s')) ⟨⟩)):mf sp q tl env R:=h1 _ ⟨i,b,l,a,ds2,a1,a2,a3,d,e,h⟩
theorem Cn {sp:DSp}{R:Sl->List Sl->Prop} (h1:EvA tl env ss) (e1:bp env ss=some ds) (h:sp (ds.map .fr) (dK (λr _=>R r env) ⟨⟩)):uP sp tl env R:=h1 _ ⟨ds,e1,h⟩
theorem Cm {it:DI}{ix:List (Option Nat)}{g:DG}{tt:DT}{R:Sl->List Sl->Prop} (h1:EvI it env ds) (h:CD ds ix g tt te env (dK R ⟨⟩)):rK it ix g tt te env R:=h1 _ h
theorem E4 {a:Sl}{R:Sl->List Sl->Prop} (a1:env[i]? = some a) (a2:iW a=some ds) (a3:ds.getLast? = some d) (b:cV a ds.dropLast=some s') (h:R (.fr d) (env.set i s')):EO i env R:=⟨a,ds,d,s',a1,a2,a3,b,h⟩
theorem zA {R:List Sl->Prop} (z:i<env.length) (h:R (env.set i (.fr d))):qh i d env R:=⟨z,h⟩
theorem GP {R:Sl->List Sl->Prop}{w:Wn R} (h:R s env):dK R w s env:=h
theorem Cb (h:te env λs a=>∃ s',i<a.length/\gH a s=some s'/\DD.nx (a.set i s')):yS i te DD env:=h
theorem Cc (h:te env DD.rt):Ej te DD env:=h
theorem zu (h:te env λ_ a=>DD.nx a):rJ te DD env:=h
end
end _L
namespace _L
open PySem PySem.Spec PyProof.Rows PySem.W
noncomputable def Itv (K:PySem.W.Frag) (a:Addr) (m:Nat):It :=
 ⟨λi H=>i<m/\∃ xs x,SqL K H a xs/\xs[m - 1 - i]? = some x,λi H x H'=>H'=H/\∀ xs,SqL K H a xs->xs[m - 1 - i]? = some x,λi _=>i=m⟩
theorem vD {P:zb}{w:zf}{K:PySem.W.Frag}{tg:Expr} (a it:Addr) (m:Nat):zi P w K tg (Itv K a m) [it] it (λi h=>h.IsRevIter it a ((m:Int) - 1 - i)) where
 mem:=by simp
 obj:=λi h st b f=>by
  have e:b=it:=by simpa using f
  subst e
  obtain⟨o,e,c,d⟩:=st
  exact⟨o,e,λv z=>by rw[d] at z;cases z⟩
 keep:=λi h h' st k=>st.at λo e=>k it (by simp) o e
 item:=by
  intro X n hw hK hc i pins s σ H E I j st l
  subst n hw hK
  obtain⟨hi,xs,x,B,hx⟩:=l
  obtain⟨C,D,p,hz⟩:=I.list B
  obtain⟨u,F,G⟩:=D.get hx
  obtain⟨q,r,J,t,y,A⟩:=j it (by simp)
  have e1:(m:Int) - 1 - i=((m - 1 - i:Nat):Int):=by omega
  have st:s.heap.IsRevIter it a ((m:Int) - 1 - i):=st
  rw[e1] at st
  refine wpAny_pyNext_rev_item st p.isList (x:=u) (by simpa using F) λh' g L=>?_
  have M:Inv X pins σ H { s with heap:=h' }:=I.turned (t':=s.toks) (λb o f e=>(L.2 b f).trans e) q r t y A
  have e2:((m - 1 - i:Nat):Int) - 1=(m:Int) - 1 - (i+1:Nat):=by omega
  rw[e2] at g
  obtain⟨o,e,c,d⟩:=id g
  exact⟨u,rfl,wM (s:={ s with heap:=h' }) e c d (by decide) ⟨x,H,M,G,⟨rfl,λys N=>by rw[I.list_inj N B];exact hx⟩,g,λb f=>(j b f).1⟩⟩
 done:=by
  intro X n hw hK hc i pins s σ H E I j st l
  subst n hw hK
  have l:i=m:=l
  obtain⟨q,r,J,t,y,A⟩:=j it (by simp)
  have st:s.heap.IsRevIter it a ((m:Int) - 1 - i):=st
  rw[show(m:Int) - 1 - i = -1 by omega] at st
  exact wpAny_pyNext_rev_end (I.ok.hd hc) st λh' O=>⟨rfl,I.turned (t':=s.toks) (λb o f e=>O b o f e) q r t y A⟩
 self:=λ_ _ _ _ _ st h=>wpAny_pyIter_revIter st h
section
variable {X:Cx}{tg:Expr}
noncomputable def Hj (K:PySem.W.Frag) (ta:TA):TI:=λσ H R=>ta σ H λvs H1=>∃ (a:Addr) (xs:List V),vs=[.ref a]/\SqL K H1 a xs/\R (Itv K a xs.length) H1
theorem C5 {e:Expr}{ta:TA}{p pos:Pos} (g:Gl X "reversed") (i:X.mg "reversed" = none) (j:PA X [e] ta) (k:kq [e] X.env=[(false,eval e X.env)]:=by rfl):PI X tg (.Call (.Name "reversed" p) [e] [] pos) (Hj X.K ta):=by
 intro pins s σ H R I h
 refine QV (dh I g i boot_reversed (PyProof.Rows.callWith_type1 (thn (j pos pins s σ H _ I h) λus s1 f=>?_) k rfl))
 obtain⟨vs,H1,d,r1,q1⟩:=f
 obtain⟨a,xs,rfl,l,q⟩:=q1
 obtain⟨u,rfl,m⟩:=hV r1
 cases (show u=Value.ref a from m)
 obtain⟨c,n,r,hz⟩:=d.list l
 have v:=n.length
 have st:(s1.heap.push (revObj a ((c.toArray.size:Int) - 1))).IsRevIter s1.heap.objs.size a ((c.toArray.size:Int) - 1):=⟨_,HR _ rfl,rfl,rfl⟩
 refine call_reversed_list r.isList ?_
 refine wpAny_pyIter_revIter st ?_
 refine⟨s1.heap.objs.size,[s1.heap.objs.size],_,_,H1,rfl,d.kept (t':=s1.toks) λb o e=>HE _ e,vD a _ xs.length,?_,λb t=>?_,q⟩
 ·rw[show((xs.length:Nat):Int) - 1 - (0:Nat)=(c.toArray.size:Int) - 1 by rw[HM];omega]
  exact st
 have e:b=s1.heap.objs.size:=by simpa using t
 subst e
 exact d.fpOk (HK _) (d.hok.fresh (HK _))
end
section
variable {X:Cx}{K:PySem.W.Frag}{tg e:Expr}{p pos:Pos}{tl:DA}
theorem wI {a:Addr}{ds:List PyData}:iV K (Itv K a ds.length) [(.ref a,.fr (.list ds))] ds.reverse where
 go := λc i hi=>by
  rw[JP] at hi
  obtain⟨xs,s,q⟩:=aQ (b:=false) (a:=a) (ds:=ds) c (HA _ (by simp))
  obtain⟨x,e,_⟩:=q.item (i:=ds.length - 1 - i) (by omega)
  exact⟨hi,xs,x,s,e⟩
 yld:=λc i x H' hi y=>by
  obtain⟨xs,s,q⟩:=aQ (b:=false) (a:=a) (ds:=ds) c (HA _ (by simp))
  obtain⟨e,y⟩:=y
  subst e
  rw[JP] at hi
  obtain⟨f,d,dn⟩:=q.item (i:=ds.length - 1 - i) (by omega)
  rw[y xs s] at d
  cases d
  exact⟨aR.refl _,by rw[List.getElem_reverse];exact dn⟩
 stop:=λc=>JP ..
 nv := wm
noncomputable def F6 (tl:DA):DI:=λenv RR=>tl env λss a=>∃ s ds,ss=[s]/\aC a s=some (.list ds)/\RR ds.reverse a
theorem CG (hK:X.K=K) (f:Gl X "reversed") (g:X.mg "reversed" = none) (i:PA X [e] (upA K tl)) (j:kq [e] X.env=[(false,eval e X.env)]:=by rfl):PI X tg (.Call (.Name "reversed" p) [e] [] pos) (upI K (F6 tl)):=by
 subst hK
 refine(C5 f g i j).imp λσ H R h=>?_
 obtain⟨M,P,H0,σ0,env,ts,RR,c,l,m⟩:=h
 refine⟨M,P,H0,σ0,env,ts,_,c,l,λss d vs H1 h1 n b=>?_⟩
 obtain⟨s,ds,rfl,k,o⟩:=h1
 obtain⟨v,rfl⟩:=vp n
 have dn:=b.kept (v:=v) (s:=s) (by simp) k
 obtain⟨a,xs,rfl,r,q⟩:=dn.list
 refine⟨a,xs,rfl,r.sq,?_⟩
 rw[q.len]
 exact m _ _ _ _ _ o (b.drop.addFr dn) wI
end
end _L
namespace _L
open PySem PySem.Spec PyProof.Rows PySem.W PySem.Calls
end _L
namespace _L
open PySem PySem.Spec PyProof.Rows PySem.W
section
variable {X:Cx}{K:PySem.W.Frag}
noncomputable def F7 (i:Nat) (u:DS):DS:=λDD env=>∃ S d,env[i]? = some (.tr S d)/\u DD (env.set i (.fr d))
theorem zQ (i:Nat) {ss:List Stmt}{u:DS} (h:PSs X ss (upS K u)):PSs X ss (upS K (F7 i u)):=h.imp λD σ H h=>by
 obtain⟨M,P,H0,σ0,env,ts,DD,nv,a,⟨S,d,e,b⟩,ok⟩:=h
 exact⟨M,P,H0,σ0,_,ts,DD,nv,a.frzT e,b,ok⟩
end
noncomputable def FnI (K:PySem.W.Frag) (x:Str) (st:Stmt):Prop:=∃ f fd,PySem.W.nsIn K qs x=some (some (.ref f))/\Fun K x x st f fd
noncomputable def FnL (K:PySem.W.Frag) (x:Str) (st:Stmt):Prop:=∃ f fd,PySem.W.nsIn K qs x=some (some (.ref f))/\Fun K x x st f fd/\∀ base:Heap,K.In base->rX K base x fd
structure BnI (K:PySem.W.Frag):Prop where
 len:PySem.W.nsIn K qs "len" = some none
 range:PySem.W.nsIn K qs "range" = some none
 min:PySem.W.nsIn K qs "min" = some none
 max:PySem.W.nsIn K qs "max" = some none
 enumerate:PySem.W.nsIn K qs "enumerate" = some none
 zip:PySem.W.nsIn K qs "zip" = some none
 all:PySem.W.nsIn K qs "all" = some none
 any:PySem.W.nsIn K qs "any" = some none
 isinstance:PySem.W.nsIn K qs "isinstance" = some none
 bool:PySem.W.nsIn K qs "bool" = some none
 int:PySem.W.nsIn K qs "int" = some none
 list:PySem.W.nsIn K qs "list" = some none
 tuple:PySem.W.nsIn K qs "tuple" = some none
 sorted:PySem.W.nsIn K qs "sorted" = some none
 str:PySem.W.nsIn K qs "str" = some none
 sum:PySem.W.nsIn K qs "sum" = some none
 abs:PySem.W.nsIn K qs "abs" = some none
 reversed:PySem.W.nsIn K qs "reversed" = some none
section
variable {P:zb}{w:zf}{K:PySem.W.Frag}{mg:Str->Option Value}{base h:Heap}{x:Str}{st:Stmt}{f:Addr}{oc:Value}{od an:Option Addr}{osl:Array (Option Value)}{kV doc pm cdv ct:Value}{k:Nat}{ps:List Str}{sp:DSp}
theorem BnI.bn (X:K.In h) (G:h.Ns qs mg) (z:BnI K):Bn mg :=
 have m:∀ {y:Str},PySem.W.nsIn K qs y=some none->mg y=none:=λe=>PySem.W.mg_none_of X G e
 ⟨m z.len,m z.range,m z.min,m z.max,m z.enumerate,m z.zip,m z.all,m z.any,m z.isinstance,m z.bool,m z.int,m z.list,m z.tuple,m z.sorted,m z.str,m z.sum,m z.abs,m z.reversed⟩
theorem fnI (a:PySem.W.nsIn K qs x=some (some (.ref f))) (l:K.lookup f=some ⟨oc,od,.func (PySem.W.fnOf x x (d6 st) (cj st) (ad st) .none kV doc pm an cdv ct),osl⟩) (c:PySem.W.codeIn K cdv x=true) (k:PySem.W.keepIn K (.ref f)=true):FnI K x st:=⟨f,_,a,yM l c k⟩
theorem fnL {b T:Addr}{d:Option Addr}{e:Array (Option Value)}{vs:Array Value} (hx:x∈eL) (a:PySem.W.nsIn K qs x=some (some (.ref f))) (l:K.lookup f=some ⟨oc,od,.func (PySem.W.fnOf x x (d6 st) (cj st) (ad st) .none kV doc pm an cdv ct),osl⟩) (c:PySem.W.codeIn K cdv x=true) (k:PySem.W.keepIn K (.ref f)=true)
  (hc:cdv=.ref b) (g:K.lookup b=some ⟨.type "code",d,.fields vs,e⟩) (h:vn vs b T):FnL K x st:=⟨f,_,a,yM l c k,λbase i=>Dp hx a l hc g h i⟩
theorem fm (X:K.In h) (G:h.Ns qs mg) (g:FnI K x st) (b:∀ {f:Addr}{fd:k0},Fun K x x st f fd->a9 K fd ps []) (ok:∀ {f:Addr}{fd:k0},Fun K x x st f fd->bR P w K mg base CX0 k f fd ps (spD K sp)):Cal P w K mg base x k (spD K sp):=by
 obtain⟨f,fd,a,F⟩:=g
 exact GK F (PySem.W.mg_of X G a) (b F) (ok F)
theorem Gh (X:K.In h) (G:h.Ns qs mg) (c:K.In base) (g:FnL K x st) (b:∀ {f:Addr}{fd:k0},Fun K x x st f fd->a9 K fd ps []) (ok:∀ {f:Addr}{fd:k0},Fun K x x st f fd->rX K base x fd->bR P w K mg base CX0 k f fd ps (spD K sp)):Cal P w K mg base x k (spD K sp):=by
 obtain⟨f,fd,a,F,L⟩:=g
 exact GK F (PySem.W.mg_of X G a) (b F) (ok F (L base c))
theorem Ha {l:PySem.W.OpenLaw}{fa:Addr} (X:K.In h) (G:h.Ns qs mg) (b:mg "law" = some (.ref fa)) (g:FnI K "law" st) (c:∀ {fd:k0},Fun K "law" "law" st fa fd->∀ (s:Shared) (v:Value),Qm s fd ⟨[v],[]⟩ [("_law_script",v)])
  (ok:∀ {fd:k0}{base:Heap},Fun K "law" "law" st fa fd->K.In base->bR l.prog w K mg base CX0 k fa fd ["_law_script"] (spD K sp)):∃ fd:k0,(∀ (s:Shared) (v:Value),Qm s fd ⟨[v],[]⟩ [("_law_script",v)])/\∀ base:Heap,K.In base->base.Ns qs mg->bR l.prog w K mg base CX0 k fa fd ["_law_script"] (spD K sp):=by
 obtain⟨f,fd,a,F⟩:=g
 have e:=b.symm.trans (PySem.W.mg_of X G a)
 cases e
 exact⟨fd,c F,λbase d _=>ok F d⟩
end
end _L
namespace _L
open PySem PySem.Spec PyProof.Rows
section
variable {env:List Sl}{s s1 s2:Sl}{d x e:PyData}{i:Nat}{n:Int}{ta tb te tj:DE}{tl:DA}{g:G2}{k:Bool}{DD:mH}{ky:bh}{kvs:List (bh×PyData)}{S:List Addr}{ds:List PyData}{W:List (List (List Int))}{r:List Int}{w:List (List Int)}{R:Sl->List Sl->Prop}{RT:Bool->List Sl->Prop}
theorem zw (h1:Ev te env s1) (h2:Ev tj env s2) (a:env[i]? = some (.tr S (fj kvs))) (e1:aC env s2=some (cY ky)) (e2:aC env s1=some d) (z:kvs.length<sizeLine) (h:DD.nx (env.set i (.tr S (fj (fY kvs ky d))))):xh i tj te DD env:=h1 _ ⟨⟨S,kvs,a⟩,h2 _ ⟨S,kvs,ky,d,a,e1,e2,z,h⟩⟩
theorem zv (h1:Ev te env s) (e1:aP env s=some (.bool k)) (h:RT k env):nR te env RT:=h1 _ ⟨k,e1,h⟩
theorem vB (h1:Ev te env s) (e1:aP env s=some d) (e2:vE d=some k) (h:RT k env):l9 te env RT:=h1 _ ⟨d,k,e1,e2,h⟩
theorem uD (a:env[i]? = some (.tr S (.list ds))) (e1:ds=List.map wD (W++[w])):EvT (km i) env (!w.isEmpty):=λ_ h=>⟨S,W,w,a.trans (congrArg (λy=>some (Sl.tr S (PyData.list y))) e1),h⟩
theorem wY (a:env[i]? = some (.tr S (.list ds))) (e1:ds=List.map wD (W++[r::w])):Ev (qm i) env (.fr (.list (r.map .int))):=λ_ h=>⟨S,W,r,w,a.trans (congrArg (λy=>some (Sl.tr S (PyData.list y))) e1),h⟩
theorem Cj (a:env[i]? = some (.tr S (.list ds))) (e1:ds=List.map wD (W++[w])) (h:∀ S',R .un (env.set i (.tr S' (fD W)))):xj i env R:=⟨S,W,w,a.trans (congrArg (λy=>some (Sl.tr S (PyData.list y))) e1),h⟩
theorem zC (a:env[i]? = some (.tr S (.list ds))) (e1:ds=List.map wD (W++[r::w])) (h:R (.fr (.list (r.map .int))) (env.set i (.tr S (fD (W++[w]))))):qj i env R:=⟨S,W,r,w,a.trans (congrArg (λy=>some (Sl.tr S (PyData.list y))) e1),h⟩
theorem Ck (h1:Ev ta env s1) (h2:Ev tb env s2) (e1:aC env s1=some (cY ky)) (e2:aC env s2=some d) (h:∀ S,R (.tr S (fj [(ky,d)])) env):xo ta tb env R:=h1 _ (h2 _ ⟨ky,d,e1,e2,h⟩)
theorem uG (h1:d=cY ky) (h2:e=fj kvs):E2 kg d e (.bool (!(ci kvs ky).isSome)):=λ_ r=>⟨ky,kvs,h1,h2,r⟩
theorem Ee (h1:d=fj kvs) (h2:e=cY ky) (a:ci kvs ky=some x):E2 EH d e x:=λ_ r=>⟨kvs,ky,x,h1,h2,a,r⟩
theorem Ed {y:List PyData} (h1:eO d=some ds) (h2:atI ds n=some (fzD y)):E2 EG d (.int n) (.list y):=λ_ r=>⟨ds,n,y,h1,rfl,h2,r⟩
theorem zz {c:Bool}{A d B e:Prop} (a:d->A) (b:e->B) (h:if c=true then d else e):if c=true then A else B:=sk (p:=c=true) (by cases c <;> rfl) a b h
theorem zy {c:Bool}{A d B e:Prop} (a:d->A) (b:e->B) (h:if c=false then d else e):if (!c)=true then A else B:=sk (p:=c=false) (by cases c <;> rfl) a b h
theorem GQ (h1:Ev (dOp g ta tb) env s) (h:R s env):dOp g ta tb env R:=h1 _ h
theorem E3 (h1:Ev (B0 tl) env s) (h:R s env):B0 tl env R:=h1 _ h
theorem E5 (h1:Ev (yV i) env s) (h:R s env):yV i env R:=h1 _ h
end
end _L
namespace _L
open PySem PySem.Spec PyProof.Rows PySem.W
section
variable {prog:zb}{w:zf}{A:Around}{E:Value->Shared->Prop}{s:Shared}
theorem kr {Q:List Value->Shared->Prop}{r:Addr}{a b c:Int}{t u v:Tok}{n:Nat} (m:A.handled=none) (p:IsRange s.heap r a b c t u v) (f:Builtin.Range.small a b c=true)
  (hn:Builtin.Range.rangeSize a b c=n) (g:n<=2 ^ 24)
  (q:∀ h' tk h,(∀ b o,s.heap.get? b=some o->h'.get? b=some o)->s.heap.objs.size<=h'.objs.size->ItemsOf (λi v=>∃ t,v=.int (a+i*c) t) h n->Q h.toList { s with heap:=h',toks:=tk }) :
  qb (q3 prog w) A (collect (.ref r)) Q E s:=by
 have key:∀ R:Result->Shared->Prop,(∀ h' tk d c',(∀ b o,b≠s.heap.objs.size->(s.heap.push { cls:=.type "list",data:=.seq ([]:List Value).toArray }).get? b=some o->h'.get? b=some o)->h'.get? s.heap.objs.size=some { cls:=.type "list",dict:=none,data:=.seq d c',slots:=#[] }->ItemsOf (λi v=>∃ t,v=.int (a+i*c) t) d n->R (.ok (.ret (.ref s.heap.objs.size))) { s with heap:=h',toks:=tk }) ->
   Kx (q3 prog w) A (.builtin "list.__iadd__" ⟨[.ref s.heap.objs.size,.ref r],[]⟩) R { s with heap:=s.heap.push { cls:=.type "list",data:=.seq ([]:List Value).toArray } }:=λR x=>by
  refine Kt F.entry_list_iadd ?_
  rw[Around.under_plainId F.plain_list_iadd _]
  show qb _ A.in1 (Builtin.List.listExtendWith (.ref s.heap.objs.size) (.ref r) (.ref s.heap.objs.size)) _ _ _
  exact wpAny_extend_range (R:=R) (A:=A) (s:={ s with heap:=s.heap.push { cls:=.type "list",data:=.seq ([]:List Value).toArray } }) m (HE _ p) f hn g s.heap.objs.size _ 0 (HR _ rfl) x
 unfold collect
 refine jj (wpAny_runValue (Kt F.entry_proto_collect ?_))
 rw[Around.under_plainId F.plain_proto_collect _]
 show qb _ A.in1 (newList [] >>= λl=>again (.builtin "list.__iadd__" ⟨[l,.ref r],[]⟩)) _ _ s
 refine jj (KQ ?_)
 refine ke ⟨K2 F.plain_list_iadd _,key _ λh' tk d c' hk j k=>?_⟩
 show qb _ A (load s.heap.objs.size >>= _) _ _ _
 refine jj (wpAny_load j ?_)
 exact ke (q h' tk d (λb o e=>hk b o (HZ (HL e)) (HE _ e)) (JY (HL j)) k)
end
noncomputable def dN (kn:Nat->Int) (n:Nat):List (Int×List Int):=((List.range n).map kn).map λn=>(n,[])
theorem bP (kn:Nat->Int) (n:Nat):(dN kn n).length=n:=by simp[dN]
section
variable {X:Cx}{pins:List (Addr×Obj)}{σ:St}{H0:Hp}{f:Value}{vs:List Value}{A:Around}{E:Value->Shared->Prop}{a kS:Addr}
structure zq (kn:Nat->Int) (X:Cx) (pins:List (Addr×Obj)) (σ:St) (H0:Hp) (a kS:Addr) (e1:Nat) (ks:List Value) (s:Shared):Prop where
 ex : ∃ H c,Inv X pins σ H s/\aR H0 H/\(∀ i (h:i<ks.length),∃ t,ks[i]=Value.int (kn i) t)/\eU X pins H a/\eU X pins H kS/\s.heap.get? kS=some (q4 "list" ks.toArray c)
 la : s.heap.get? a=some (q4 "list" #[] e1)
theorem kW {kn:Nat->Int}{e1 n:Nat} (ne:a≠kS) (hn:n<64) {body:Value->PUnit->Sem (ForInStep PUnit)}
  (J:∀ x ks e (s:Shared) (C:Value->Shared->Prop),List.length ks<64->qb (q3 X.prog X.w) A (call f [x]) (λk s1=>s1.heap.get? kS=some (q4 "list" (List.toArray ks) e)/\C k s1) (λ_ _=>False) s ->
   qb (q3 X.prog X.w) A (body x ⟨⟩) (λr s'=>r=.yield ⟨⟩/\∃ k s1 c,C k s1/\s'={ s1 with heap:=s1.heap.update kS (Obj.mapSeq (·.push k)) }/\s'.heap.get? kS=some (q4 "list" (List.toArray (ks++[k])) c)) E s)
  (call:∀ i (h:i<vs.length),∀ H s,Inv X pins σ H s->aR H0 H->qb (q3 X.prog X.w) A (call f [vs[i]]) (dM X pins σ H s (.int (kn i))) (λ_ _=>False) s) :
  ∀ (r ks:List Value) (s:Shared),r=vs.drop ks.length->n=vs.length->ks.length+r.length=n->zq kn X pins σ H0 a kS e1 ks s ->
   qb (q3 X.prog X.w) A (forIn r PUnit.unit body) (λ_ s'=>∃ ks,ks.length=n/\zq kn X pins σ H0 a kS e1 ks s') E s
 | [],ks,s,_,_,B,h=>by
  rw[Jg]
  exact ke ⟨ks,by simpa using B,h⟩
 | x :: r,ks,s,K,D,B,h=>by
  rw[Iq] at B
  rw[Ji]
  obtain⟨⟨H,c,I,L,hk,fa,fk,M⟩,la⟩:=h
  have g:ks.length<vs.length:=by omega
  have hx:x=vs[ks.length]/\r=vs.drop (ks.length+1):=by
   rw[Iw g] at K
   injection K with e1 e2
   exact⟨e1,e2⟩
  have hc:=call ks.length g H s I L
  rw[<-hx.1] at hc
  refine jj (zg (J x ks c s (λk s1=>dM X pins σ H s (.int (kn ks.length)) k s1) (by omega) (zg hc (λk s1 j=>?_) λ_ _ z=>z)) (λq s' P=>?_) λ_ _ z=>z)
  ·obtain⟨H',v,N,l,m,p,kp⟩:=id j
   exact⟨(kp kS _ fk M).1,j⟩
  ·obtain⟨rfl,k,s1,c2,⟨H',v,N,l,m,p,kp⟩,es,F⟩:=P
   subst es
   have u:=kh fk (kp kS _ fk M).2
   have G:=kh fa (kp a _ fa la).2
   have O:=Heap.SameBut.update s1.heap kS (Obj.mapSeq (·.push k))
   have Q:=N.turnedN (t':=s1.toks) (fp:=[kS]) (h':=s1.heap.update kS (Obj.mapSeq (·.push k))) (λb d=>by rw[HD.mp d];exact u) λb o d e=>(O.2 b (λz=>d (by simp[z]))).trans e
   show qb (q3 X.prog X.w) A (forIn r PUnit.unit body) _ E _
   refine kW ne hn J call r (ks++[k]) _ (by rw[Ie,ID];exact hx.2) D (by rw[Ie,ID];omega) ⟨⟨H',c2,Q,L.trans l,λi hi=>?_,G,u,F⟩,?_⟩
   ·by_cases y:i<ks.length
    ·rw[List.getElem_append_left y]
     exact hk i y
    ·have e:i=ks.length:=by rw[Ie,ID] at hi;omega
     subst e
     rw[List.getElem_append_right (HK _)]
     cases p
     obtain⟨t,e⟩:=m
     exact⟨t,by simpa using e⟩
   ·exact(O.2 a ne).trans (kp a _ fa la).1
theorem sD {kn:Nat->Int}{s:Shared}{n:Nat}{P:PySem.Fin->Shared->Prop} (I:Inv X pins σ H0 s) (fa:eU X pins H0 a) (ho:s.heap.get? a=some (q4 "list" vs.toArray n)) (u:vs.length<64) 
  (call:∀ i (h:i<vs.length),∀ H s',Inv X pins σ H s'->aR H0 H->qb (q3 X.prog X.w) A (call f [vs[i]]) (dM X pins σ H s' (.int (kn i))) (λ_ _=>False) s')
  (h : ∀ H s' c,Inv X pins σ H s'->aR H0 H->eU X pins H a->s'.heap.get? a=some (q4 "list" (bY (ar (dN kn vs.length)) vs Value.none).toArray c)->P (.done (.ret .none)) s') :
  qb (q3 X.prog X.w) A (ksk_tree a f false) P E s:=by
 have ha:a<s.heap.objs.size:=HL ho
 have s1:=Heap.SameBut.update s.heap a (Obj.mapSeq λ_=>(#[]:Array Value))
 obtain⟨e1,v⟩:∃ e1,(s.heap.update a (Obj.mapSeq λ_=>(#[]:Array Value))).get? a=some (q4 "list" #[] e1):=⟨_,Kf ho λ_=>#[]⟩
 have keep:∀ b o,b≠a->s.heap.get? b=some o->(((s.heap.update a (Obj.mapSeq λ_=>(#[]:Array Value))).push (q4 "tuple" vs.toArray 0)).push (q4 "list" #[] 0)).get? b=some o:=λb o d e =>
  HE _ (HE _ ((s1.2 b d).trans e))
 have L:(((s.heap.update a (Obj.mapSeq λ_=>(#[]:Array Value))).push (q4 "tuple" vs.toArray 0)).push (q4 "list" #[] 0)).get? a=some (q4 "list" #[] e1):=HE _ (HE _ v)
 have hsz:((s.heap.update a (Obj.mapSeq λ_=>(#[]:Array Value))).push (q4 "tuple" vs.toArray 0)).objs.size=s.heap.objs.size+1:=by rw[QG,Jp]
 unfold ksk_tree
 refine jj (K8 ho rfl ?_)
 refine jj (J7 ho rfl ?_ (by rw[HM,zd];omega) (Ig _))
 refine jj (KI v rfl ?_)
 refine jj (KN ?_ (by show vs.length<=_;rw[zd];omega))
 refine jj (KB ?_ (Ig _))
 refine zh ?_
 obtain⟨kS,g⟩:∃ kS,kS=((s.heap.update a (Obj.mapSeq λ_=>(#[]:Array Value))).push (q4 "tuple" vs.toArray 0)).objs.size:=⟨_,rfl⟩
 have gk:(((s.heap.update a (Obj.mapSeq λ_=>(#[]:Array Value))).push (q4 "tuple" vs.toArray 0)).push (q4 "list" #[] 0)).get? kS=some (q4 "list" (List.toArray []) 0):=by rw[g];exact HR _ rfl
 have y:a≠kS:=by rw[g,hsz];exact HZ (IW ha)
 have fk:eU X pins H0 kS:=I.fpOk (by rw[g,hsz];omega) (I.hok.fresh (by rw[g,hsz];omega))
 have I1:=I.turnedN (t':=s.toks) (fp:=[a]) (h':=((s.heap.update a (Obj.mapSeq λ_=>(#[]:Array Value))).push (q4 "tuple" vs.toArray 0)).push (q4 "list" #[] 0)) (λb d=>by rw[HD.mp d];exact fa) λb o d e=>keep b o (λz=>d (by simp[z])) e
 rw[<-g]
 show qb (q3 X.prog X.w) A (ksk_rest a f false vs.toArray e1 (.ref kS)) P E { s with heap:=((s.heap.update a (Obj.mapSeq λ_=>(#[]:Array Value))).push (q4 "tuple" vs.toArray 0)).push (q4 "list" #[] 0) }
 unfold ksk_rest
 refine jj (Ko ?_)
 first
  | rw[List.forIn_toArray]
  | (rw[<-Array.forIn_toList];simp only[List.toList_toArray])
  | rw[<-Array.forIn_toList]
 refine jj (zg (kW (f:=f) (A:=A) (e1:=e1) (n:=vs.length) y u (λx ks e s' C hz hx=>?_) call vs [] _ (by simp) rfl (by simp) ⟨⟨H0,0,I1,aR.refl _,λi hi=>absurd hi (Nat.not_lt_zero _),fa,fk,gk⟩,L⟩) (λ_ s' hd=>?_) λ_ _ x=>x)
 ·refine jj (KC (zg hx (λk B hk=>?_) λ_ _ hF=>hF.elim))
  obtain⟨Z,hC⟩:=hk
  have ea:(List.toArray ks).push k=List.toArray (ks++[k]):=by simp
  obtain⟨c2,q⟩:∃ c2,(B.heap.update kS (Obj.mapSeq (·.push k))).get? kS=some (q4 "list" (List.toArray (ks++[k])) c2):=⟨_,by rw[<-ea];exact Kf Z (·.push k)⟩
  try dsimp only
  refine jj (J7 Z rfl ?_ (by rw[HM,zd];omega) (HQ (Nat.le_of_eq (Array.size_push ..)) (by rw[HM,zd];omega)))
  exact ke ⟨rfl,k,B,c2,hC,rfl,q⟩
 ·obtain⟨ks,M,⟨⟨H,c,I2,sm,hk,D,N,F⟩,la⟩⟩:=hd
  refine jj (K8 F rfl ?_)
  have fin:∀ (m:List Value) (st:SortSt),m=bY (ar (dN kn vs.length)) vs Value.none->(arrOf st).map (·.2)=m.toArray->QK st=none->qb (q3 X.prog X.w) A (ksk_tail a false e1 (.ref kS) st) P E s':=λm st O J R=>by
   have a0:m.length=vs.length:=by rw[O];unfold bY;rw[HC,(aT _).length_eq,Io,bP]
   have t1:=Heap.SameBut.update s'.heap kS (Obj.mapSeq λ_=>(#[]:Array Value))
   have r:(s'.heap.update kS (Obj.mapSeq λ_=>(#[]:Array Value))).get? a=some (q4 "list" #[] e1):=(t1.2 a y).trans la
   have t2:=Heap.SameBut.update (s'.heap.update kS (Obj.mapSeq λ_=>(#[]:Array Value))) a (Obj.mapSeq λ_=>m.toArray)
   obtain⟨c2,q⟩:∃ c2,((s'.heap.update kS (Obj.mapSeq λ_=>(#[]:Array Value))).update a (Obj.mapSeq λ_=>m.toArray)).get? a=some (q4 "list" m.toArray c2):=⟨_,Kf r λ_=>m.toArray⟩
   unfold ksk_tail
   try dsimp only
   rw[J]
   refine jj (J7 F rfl ?_ (by rw[HM,zd];omega) (Ig _))
   refine jj (KS ?_)
   refine jj (KI r rfl ?_)
   simp only[Ij,if_false]
   refine jj (J7 r rfl ?_ (Ig _) (by rw[HM,zd];omega))
   rw[R]
   simp only[bne_self_eq_false,Ij,if_false]
   refine ke (h H _ c2 (I2.turnedN (t':=s'.toks) (fp:=[kS,a]) (λb d=>?_) λb o d e=>?_) sm D (by rw[<-O];exact q))
   ·rcases HP.mp d with rfl|d
    ·exact N
    ·rw[HD.mp d];exact D
   ·simp only[HP,Ir,or_false,not_or] at d
    exact(t2.2 b d.2).trans ((t1.2 b d.1).trans e)
  unfold ksk_end
  try dsimp only
  simp only[Ij,if_false]
  by_cases h2:2<=vs.length
  ·have hn2:¬vs.toArray.size<2:=by rw[HM];omega
   rw[if_neg hn2,if_neg hn2]
   have hok:iU X.prog X.w A ks (dN kn ks.length) s':=kb (ns:=(List.range ks.length).map kn) (by omega) (λi hi=>by
    obtain⟨t,e⟩:=hk i hi
    exact⟨t,by rw[e];simp[HB,hi]⟩) (by simp)
   have S:dN kn ks.length=dN kn vs.length:=by rw[M]
   rw[S] at hok
   refine jj (zg hok (λκ T U=>?_) λ_ _ x=>x.elim)
   obtain⟨rfl,K⟩:=U
   have V:ar (dN kn vs.length)=(aq (λi j=>cf ((dN kn vs.length).getD i (0,[])) ((dN kn vs.length).getD j (0,[]))) (Ka vs.length)).toList:=by
    unfold ar
    rw[if_neg (by rw[bP];omega),bP]
   refine jj (zg (kat_run (κ:=κ) (A:=A) (prog:=X.prog) (w:=X.w) (ks:=ks) (vs:=vs) (G:=λp s2=>p=aq (λi j=>cf ((dN kn vs.length).getD i (0,[])) ((dN kn vs.length).getD j (0,[]))) (Ka vs.length)/\s2=T)
    (Q := λl s2=>∃ p:Array Nat,p=aq (λi j=>cf ((dN kn vs.length).getD i (0,[])) ((dN kn vs.length).getD j (0,[]))) (Ka vs.length)/\p.size=vs.length/\arrOf l=p.map (kas_item (ks.toArray.zip vs.toArray))/\QK l=none/\s2=T)
    M h2 u (λp' l s2 a1 a2 a3 a4=>⟨p',a4.1,a1,a2,a3,a4.2⟩) (j9 (λs2=>s2=T) (λi j C s2 hi hj e hc=>by subst e;exact K i j C (by omega) (by omega) (hc _ rfl)) (gP (n:=vs.length) (by omega)) (λs2 e=>⟨rfl,e⟩) rfl)) ?_ λ_ _ e=>e)
   rintro⟨⟨⟩,l⟩ s2 ⟨p,W,O,Y,R,rfl⟩
   dsimp only
   exact fin _ l (by rw[V,<-W];rfl) (kat_snds M Y) R
  ·have hn2:vs.toArray.size<2:=by rw[HM];omega
   rw[if_pos hn2,if_pos hn2]
   refine jj (ke ?_)
   refine jj (ke ?_)
   dsimp only
   refine fin vs _ ?_ ?_ rfl
   ·unfold ar bY
    rw[if_pos (by rw[bP];omega),bP]
    apply IS
    ·simp
    ·intro i h1 h2
     simp[h1]
   show(ks.toArray.zip vs.toArray).map (·.2)=_
   apply Array.toList_inj.mp
   simp
   exact List.map_snd_zip (by omega)
end
theorem qI {vs:List Value}{n:Nat}{kn:Nat->Int} (d:vs.length=n) (b:∀ i (h:i<vs.length),∃ t,vs[i]=Value.int (i:Nat) t):aX ((bY (ar (dN kn n)) (List.range n) 0).map λi=>V.int (i:Nat)) (bY (ar (dN kn n)) vs Value.none):=by
 have a:∀ i∈ar (dN kn n),i<n:=λi hi=>by have:=dy i hi;rwa [bP] at this
 generalize ar (dN kn n)=p at *
 unfold bY
 rw[Ip]
 induction p with
 | nil=>exact .nil
 | cons i p c =>
  have hi:=a i (by simp)
  refine .cons ?_ (c λj hj=>a j (by simp[hj]))
  obtain⟨t,e⟩:=b i (by omega)
  refine⟨t,?_⟩
  have e2:vs.getD i Value.none=vs[i]:=by simp[HB,show i<vs.length by omega]
  have e3:(List.range n).getD i 0=i:=by simp[HB,hi]
  show vs.getD i Value.none=Value.int (((List.range n).getD i 0:Nat):Int) t
  rw[e2,e,e3]
section
variable {X:Cx}{pins:List (Addr×Obj)}{σ:St}{H0:Hp}{f:Addr}{A:Around}{E:Value->Shared->Prop}{s:Shared}
theorem mP {kn:Nat->Int}{r:Addr}{n:Nat}{t u v:Tok}{Q:Value->Shared->Prop} (I:Inv X pins σ H0 s) (B:A.handled=none) (C:IsRange s.heap r 0 n 1 t u v) (F:n<64)
  (call:∀ i tt,i<n->∀ H s',Inv X pins σ H s'->aR H0 H->qb (q3 X.prog X.w) A.in1.in1 (call (.ref f) [.int (i:Nat) tt]) (dM X pins σ H s' (.int (kn i))) (λ_ _=>False) s')
  (h : ∀ (z:List Value) H s' D c,aX ((bY (ar (dN kn n)) (List.range n) 0).map λi=>V.int (i:Nat)) z->Inv X pins σ H s'->aR H0 H->eU X pins H D->s'.heap.get? D=some (q4 "list" z.toArray c)->Q (.ref D) s') :
  qb (q3 X.prog X.w) A (PySem.call (.builtin "sorted") [.ref r] [(Str.ofString "key",.ref f)]) Q E s:=by
 refine Q1 kind_sorted QY Q0 (ksk_s1 _ _) ?_
 unfold Builtin.«sorted»
 refine jj (m:=checkCount "sorted" 1 1 _) (ke ?_)
 have hsz:Builtin.Range.rangeSize 0 (n:Int) 1=n:=by
  unfold Builtin.Range.rangeSize
  rw[if_pos (by decide)]
  split <;> omega
 have q:Builtin.Range.small 0 (n:Int) 1=true:=small_one (by omega) (by omega) (by omega) (by omega)
 refine jj (kr (n:=n) B C q hsz (by omega) λh' tk a keep l d=>?_)
 have j:a.toList.length=n:=by rw[Array.length_toList];exact d.1
 have k:∀ i (hi:i<a.toList.length),∃ t,a.toList[i]=Value.int (i:Nat) t:=λi hi=>by
  obtain⟨t,e⟩:=d.2 i a.toList[i] (by rw[<-Array.getElem?_toList,Hz hi])
  exact⟨t,by rw[e];simp⟩
 refine jj (KB ?_ (by rw[zd];omega))
 have p:(h'.push (q4 "list" a.toList.toArray 0)).get? h'.objs.size=some (q4 "list" a.toList.toArray 0):=HR _ rfl
 refine jj (zh (wpAny_call_entry_kw QF ⟨_,p,rfl⟩ QB ?body (ksk_l1 _ _)))
 case body =>
  show qb (q3 X.prog X.w) A.in1.in1 (Builtin.«list.sort» ⟨[.ref h'.objs.size],[(Str.ofString "key",.ref f)]⟩) _ _ _
  rw[ksk_t1]
  refine sD (kn:=kn) (f:=.ref f) (I.kept (t':=tk) (h':=h'.push (q4 "list" a.toList.toArray 0)) λb o e=>HE _ (keep b o e)) (I.fpOk l (I.hok.fresh l)) p (by omega) (λi hi H s' x y=>?_) λH s' c x G fp g=>⟨_,rfl,ke ⟨_,rfl,?_⟩⟩
  ·obtain⟨tt,e⟩:=k i hi
   rw[e]
   exact call i tt (by omega) H s' x y
  ·rw[j] at g
   exact h _ H s' _ c (qI j k) x G fp g
end
theorem qg {K:PySem.W.Frag}{N:Addr->Prop}{H:Hp}:∀ l:List Nat,DNs K N H (l.map λi=>V.int (i:Nat)) (l.map λi=>PyData.int (i:Nat))
 | []=>.nil
 | i::l=>.cons (.int _) (qg l)
section
variable {X:Cx}{K:PySem.W.Frag}{e:Expr}{t:TA}{q0 q1 pos rpos kpos lpos:Pos}{params:KM}{scope:Kc}{body:Expr}{p x:Str}{i:Nat}{tb:DE}
noncomputable def E7 (K:PySem.W.Frag) (tb:DE) (i:Nat) (t:TA):TE:=λσ H Q=>t σ H λxs H1=>∃ (n:Nat) (kn:Nat->Int) (N:Addr->Prop) (v0:V) (a:PyData),xs=[.int (n:Nat)]/\n<64/\σ[i]? = some (some v0)/\DN K N H1 v0 a /\
 (∀ j,j<n->iE tb [.int (j:Nat),a] (.int (kn j)))/\∀ H2,aR H1 H2->∀ q,H2 q=none->Q (.ref q) (upd H2 q (.lst ((bY (ar (dN kn n)) (List.range n) 0).map λi=>V.int (i:Nat))))
theorem Am (hK:X.K=K) (a6:X.calm=true) (L:mF X) (hr:cJ 4 X.A) (hg:Gl X "sorted") (hm:X.mg "sorted" = none) (a7:Gl X "range") (b0:X.mg "range" = none) (ha:PA X [e] t) (S:dJ p x scope)
  (hN:X.N[i]? = some x) (hv:Vis X.env.scope x) (M:X.env.kindOf x=some .cell\/X.env.kindOf x=some .free) (b1:X.env.kindOf x≠some .local)
  (hb:∀ (qual:Str) (cl:List (Str×Addr)) (pm c ctv u:Value),ze (Qi "<lambda>" qual params body scope cl pm c ctv) ⟨[u],[]⟩=pure [(p,u)])
  (b2:∀ c,X.env.cells.lookup x=some c->Ki scope X.env=pure [(x,c)]) (O:KA params X.env=([],[]))
  (C:∀ (A:Around) (s:Shared) (H:Hp) (f:Addr) (cd:Value) (c:Addr),cJ 1 (A.deeper (envX (X.env.qual ++ "<lambda>") scope s.heap.objs.size f cd [(x,c)]))->PE (rY CX0 X.prog X.w X.K X.mg X.base [p,x] (X.env.qual ++ "<lambda>") scope f cd [(x,c)] A X.stack s H E0) body (up X.K tb))
  (b3:kq [e] X.env=[(false,eval e X.env)]:=by rfl)
  (E:J0 pos (kq [.Call (.Name "range" q1) [e] [] rpos] X.env)=(false,eval (.Call (.Name "range" q1) [e] [] rpos) X.env)::J0 pos (kq [] X.env):=by rfl) :
  PE X (.Call (.Name "sorted" q0) [.Call (.Name "range" q1) [e] [] rpos] [⟨some "key",.Lambda params body scope lpos,kpos⟩] pos) (E7 K tb i t):=by
 subst hK
 intro pins s σ H Q I h
 obtain⟨c,hc⟩:=I.ok.has x M
 refine Ku (dh I hg hm boot_sorted ?_ (by decide) (by decide))
 refine callWith_kw ?_ E (by rw[E];rfl) rfl rfl
 rw[E]
 refine Calls.spliced_cons ?_
 refine QV (dh I a7 b0 boot_range (PyProof.Rows.callWith_type1 (thn (ha rpos pins s σ H _ I h) λus s1 b4=>?_) b3 rfl))
 obtain⟨vs,H1,I1,r1,q1⟩:=b4
 obtain⟨n,kn,N,v0,d0,rfl,b5,b6,c4,P,q⟩:=q1
 obtain⟨u,rfl,ru⟩:=hV r1
 obtain⟨tn,rfl⟩:=ru
 refine call_range_1 ?_
 refine Calls.spliced_nil ?_
 generalize R:({ s1 with heap:=s1.heap.push { cls:=.type "range",data:=.fields #[.int 0 s1.toks,.int (n:Nat) tn,.int 1 (s1.toks+1)] },toks:=s1.toks+1+1 }:Shared)=s1'
 have c5:s1'.heap.get? s1.heap.objs.size=some { cls:=.type "range",data:=.fields #[.int 0 s1.toks,.int (n:Nat) tn,.int 1 (s1.toks+1)] }:=by rw[<-R];exact HR _ rfl
 have T:Inv X pins σ H1 s1':=by rw[<-R];exact I1.kept λb o e=>HE _ e
 have F:eU X pins H1 s1.heap.objs.size:=I1.fpOk (HK _) (I1.hok.fresh (HK _))
 generalize s1.heap.objs.size=r at *
 generalize U:({ cls:=.type "range",data:=.fields #[.int 0 s1.toks,.int (n:Nat) tn,.int 1 (s1.toks+1)] }:Obj)=ro at *
 have c6:Inv X ((r,ro)::pins) σ H1 s1':=T.pins_of λz hz=>by
  rcases HP.mp hz with rfl|hz
  ·exact⟨c5,F.1,F.2.1,F.2.2.1,λv=>by rw[<-U];exactλz=>by cases z⟩
  ·exact T.pin z (HA _ hz)
 show qb _ _ (evalAll [(do let v <-eval (.Lambda params body scope lpos) X.env;KD pos;pure v)]) _ _ s1'
 refine wpAny_evalAll_cons (jj (lL c6 L (b2 c hc) O λf c' pm ctv s2 H2 I2 sm W G cz=>jj (KZ (ke (wpAny_evalAll_nil ?_)))))
 have d3:s2.heap.get? r=some ro:=(I2.pin (r,ro) (HA _ HH)).1
 obtain⟨fo,g⟩:∃ fo,fo=KT "<lambda>" (X.env.qual ++ "<lambda>") params body scope [(x,c)] pm c' ctv:=⟨_,rfl⟩
 rw[<-g] at W
 have I3:Inv X ((f,fo)::(r,ro)::pins) σ H2 s2:=I2.pins_of λz hz=>by
  rcases HP.mp hz with rfl|hz
  ·exact⟨W,G.1,G.2.1,G.2.2.1,λv=>by rw[g];exactλz=>by cases z⟩
  ·exact I2.pin z (HA _ hz)
 have Y:DN X.K N0 H2 v0 d0:=(c4.keep (aV.same sm)).to λb _ _ z=>z.elim
 show qb _ _ (PySem.call (.builtin "sorted") [.ref r] [(Str.ofString "key",.ref f)]) _ _ _
 refine mP (kn:=kn) (n:=n) I3 (I.ok.hd a6) (t:=s1.toks) (u:=tn) (v:=s1.toks+1) (show s2.heap.get? r=some _ by rw[d3,<-U]) b5 (λj tt hj H' s' l y=>?_) λws H' s' D cc d4 l y a gD=>?_
 ·have gf:=(l.pin (f,fo) (HA _ HH)).1
  rw[g] at gf
  obtain⟨oc,u,ws,t,e1,e2,e3⟩:=cz
  obtain⟨e0,_⟩:=l.hok c' _ (y _ _ e1)
  obtain⟨m,e5,Z⟩:=l.loc
  obtain⟨u0,e4,J⟩:=Z i x v0 hN b6 hv
  have B:s'.heap.IsCell c (some u0):=by
   rcases J with⟨z,_⟩|⟨_,c2,a0,ic⟩
   ·exact absurd z b1
   ·rw[hc] at a0
    cases a0
    exact ic
  have a4:cJ 2 X.A.in1.in1:=hr.in1.in1
  refine zg (pG (k:=1) (kd:=.int (kn j)) (tb:=tb) (f:=f) (c:=c) (c':=c') (v:=.int (j:Nat)) (d:=.int (j:Nat)) l l.env0.in1.in1 a4 S (hb _ _ _ _ _ _) (C _ _ _ _ _ _ (a4.deeper _)) gf ⟨_,_,_,_,rfl,e0,e2,e3⟩ B e4 (l.freeC x c hc) ⟨tt,rfl⟩ (.int _) (Y.keep (aV.same y)) (P j hj)) (λ_ _ z=>?_) λ_ _ z=>z
  exact z
 ·have I4:Inv X pins σ H' s':=l.pins_of λz hz=>l.pin z (HA _ (HJ _ (HJ _ hz)))
  have a5:eU X pins H' D:=⟨a.1,a.2.1,a.2.2.1,a.2.2.2.1,a.2.2.2.2.1,λz hz=>a.2.2.2.2.2 z (by
   rcases HF.mp hz with hz|hz
   ·exact HG _ hz
   ·exact HA _ (HJ _ (HJ _ hz)))⟩
  refine⟨.ref D,_,I4.track (o:=.lst ((bY (ar (dN kn n)) (List.range n) 0).map λi=>V.int (i:Nat))) a5 ⟨?_,ws,cc,d4,gD⟩,rfl,q _ (sm.trans y) _ a.1⟩
  rw[HC]
  unfold bY
  rw[HC,(aT _).length_eq,Io,bP,zd]
  omega
noncomputable def Bv (tb:DE) (i:Nat) (t:DA):DE:=λenv R=>t env λss a=>∃ s n kn b,ss=[s]/\aP a s=some (.int (n:Nat))/\a[i]? = some (.fr b)/\n<64/\(∀ j:Nat,j<n->iE tb [.int (j:Nat),b] (.int (kn j))) /\
 R (.ow ((bY (ar (dN kn n)) (List.range n) 0).map λi=>PyData.int (i:Nat))) a
variable {tl:DA}
theorem CJ (i:Nat) (hK:X.K=K) (j:X.calm=true) (L:mF X) (D:cJ 4 X.A) (E:Gl X "sorted") (F:X.mg "sorted" = none) (k:Gl X "range") (l:X.mg "range" = none) (G:PA X [e] (upA K tl)) (S:dJ p x scope)
  (I:X.N[i]? = some x) (J:Vis X.env.scope x) (d:X.env.kindOf x=some .cell\/X.env.kindOf x=some .free) (m:X.env.kindOf x≠some .local)
  (O:∀ (qual:Str) (T:List (Str×Addr)) (pm c ctv u:Value),ze (Qi "<lambda>" qual params body scope T pm c ctv) ⟨[u],[]⟩=pure [(p,u)])
  (o:∀ c,X.env.cells.lookup x=some c->Ki scope X.env=pure [(x,c)]) (g:KA params X.env=([],[]))
  (b:∀ (A:Around) (s:Shared) (H:Hp) (f:Addr) (cd:Value) (c:Addr),cJ 1 (A.deeper (envX (X.env.qual ++ "<lambda>") scope s.heap.objs.size f cd [(x,c)]))->PE (rY CX0 X.prog X.w X.K X.mg X.base [p,x] (X.env.qual ++ "<lambda>") scope f cd [(x,c)] A X.stack s H E0) body (up X.K tb))
  (q:kq [e] X.env=[(false,eval e X.env)]:=by rfl)
  (r:J0 pos (kq [.Call (.Name "range" q1) [e] [] rpos] X.env)=(false,eval (.Call (.Name "range" q1) [e] [] rpos) X.env)::J0 pos (kq [] X.env):=by rfl) :
  PE X (.Call (.Name "sorted" q0) [.Call (.Name "range" q1) [e] [] rpos] [⟨some "key",.Lambda params body scope lpos,kpos⟩] pos) (up K (Bv tb i tl)) :=
 (Am (K:=K) (tb:=tb) hK j L D E F k l G S I J d m O o g b q r).imp λσ H Q h=>by
 obtain⟨M,P,H0,σ0,env,ts,R,t,U,V⟩:=h
 refine⟨M,P,H0,σ0,env,ts,_,t,U,λss C vs H1 h1 W a=>?_⟩
 obtain⟨s,n,kn,Y,rfl,e1,Z,y,hk,hR⟩:=h1
 obtain⟨v,rfl⟩:=vp W
 have ev:=(a.view (v:=v) (by simp) e1).int
 subst ev
 obtain⟨x0,ex,m0⟩:=a.slot Z
 obtain⟨v0,z,B⟩:=a.e.fr _ _ m0
 refine⟨n,kn,_,v0,Y,rfl,y,by rw[ex,z],B,hk,λH2 sm p' hp=>V _ _ _ _ hR ((a.same sm).resOw hp ?_)⟩
 refine qg _
end
noncomputable abbrev jA (h:Heap) (z TI TO:Addr) (a b:Value):Prop :=
 h.get? z=some { cls:=.type "zip",dict:=none,data:=.fields #[a,b,.bool false,.ref TI,.ref TO],slots:=#[] }
section
variable {prog:zb}{w:zf}{A:Around}{E:Value->Shared->Prop}{s:Shared}
theorem oA {z TI TO a:Addr}{f:Bool}{e:Obj}{Q:Bool->Shared->Prop} (hz:jA s.heap z TI TO (Km a) (.bool f)) (g:s.heap.get? a=some e)
  (h : ∀ h₁,jA h₁ z TI TO (Km a) (.bool true)->Heap.SameBut z s.heap h₁->Q false { s with heap:=h₁ }):qb (q3 prog w) A (Builtin.SmallTypes.ownedTupleIsFree (.ref z)) Q E s:=by
 unfold Builtin.SmallTypes.ownedTupleIsFree
 refine jj (z5 hz rfl (x:=Km a) rfl ?_)
 show qb _ _ (loadIfAlive ((a:Int).toNat) >>= _) _ _ _
 rw[IB]
 refine jj (kdx_alive g ?_)
 simp only[Option.isNone_some,Ij,if_false]
 refine jj (z5 hz rfl (x:=.bool f) rfl ?_)
 cases f with
 | true =>
  rw[if_neg (show ¬((Value.bool true != Value.bool true)=true) from H9)]
  exact ke (h _ hz (Heap.SameBut.refl _ _))
 | false =>
  rw[if_pos (show(Value.bool false != Value.bool true)=true from rfl)]
  exact jj (Kb hz (by simp) λd b c=>ke (h d b c))
theorem kH {z TI TO i1 i2 l1 l2 a:Addr}{f:Bool}{t:Obj}{l m:Nat}{xs ys:Array Value}{x y:Value}{Q:Value->Shared->Prop} (D:Ks z TI TO i1 i2 l1 l2)
  (hz:jA s.heap z TI TO (Km a) (.bool f)) (u:s.heap.get? a=some t) (n:Kd s.heap TI (.ref i1) (.ref i2))
  (h1:s.heap.IsListIter i1 l1 l) (h2:s.heap.IsListIter i2 l2 m) (p:s.heap.IsList l1 xs) (q:s.heap.IsList l2 ys) (hx:xs[l]? = some x) (B:ys[m]? = some y)
  (C:∀ h',jA h' z TI TO (Km a) (.bool true)->h'.IsListIter i1 l1 (l+1)->h'.IsListIter i2 l2 (m+1)->Kd h' s.heap.objs.size x y->h'.objs.size=s.heap.objs.size+1 ->
   (∀ c o,c≠z->c≠i1->c≠i2->s.heap.get? c=some o->h'.get? c=some o)->Q (.ref s.heap.objs.size) { s with heap:=h' }) :
  qb (q3 prog w) A (Builtin.«zip.__next__» ⟨[.ref z],[]⟩) (λfin s'=>∃ v,fin=.done (.ret v)/\Q v s') E s:=by
 show qb _ _ (Qq (.ref z) 2 >>= _) _ _ _
 refine jj (z5 hz rfl (x:=.bool false) rfl ?_)
 show qb _ _ (Qq (.ref z) 3 >>= _) _ _ _
 refine jj (z5 hz rfl (x:=.ref TI) rfl ?_)
 refine jj (J1 n rfl ?_)
 show qb _ _ (Builtin.SmallTypes.ownedTupleIsFree (.ref z) >>= _) _ _ _
 refine jj (oA hz u λh₁ i b=>?_)
 simp only[Ij,if_false]
 refine jj ?_
 rw[<-Array.forIn_toList]
 simp only[Ji,Jg]
 refine jj (jj (zh ?_))
 show qb _ _ (Builtin.SmallTypes.nextOf (.ref i1) >>= _) _ _ _
 refine jj (Kw (h1.extBut b.extBut D.i1z) (p.extBut b.extBut D.l1z) hx λr j d=>ke ?_)
 dsimp only
 refine ke ?_
 dsimp only
 refine jj (jj (zh ?_))
 show qb _ _ (Builtin.SmallTypes.nextOf (.ref i2) >>= _) _ _ _
 refine jj (Kw ((h2.extBut b.extBut D.i2z).extBut d.extBut D.i12.symm) ((q.extBut b.extBut D.l2z).extBut d.extBut D.l2i1) B λg k h=>ke ?_)
 dsimp only
 refine ke (ke ?_)
 dsimp only
 have hsz:g.objs.size=s.heap.objs.size:=by rw[h.1,d.1,b.1]
 refine jj (KN ?_ (by simp[zd]))
 refine ke ⟨_,rfl,?_⟩
 have up:∀ c o,g.get? c=some o->(g.push { cls:=.type "tuple",data:=.seq #[x,y] }).get? c=some o:=λc o e=>HE _ e
 have F:∀ {c o},g.get? c=some o->c<g.objs.size:=λe=>HL e
 have key:=C (g.push { cls:=.type "tuple",data:=.seq #[x,y] }) (up _ _ (h.extBut _ _ D.i2z.symm (d.extBut _ _ D.i1z.symm i))) ((j.extBut h.extBut D.i12).at λo e=>up _ o e) (k.at λo e=>up _ o e) (by rw[<-hsz];exact HR _ rfl) (by rw[IG,hsz])
  λc o c1 c3 G e=>up c o (h.extBut _ _ G (d.extBut _ _ c3 (b.extBut _ _ c1 e)))
 show Q (.ref g.objs.size) _
 rw[hsz]
 exact key
theorem mK {z TI TO i1 i2 l1 l2 a:Addr}{f:Bool}{B:Obj}{m n:Nat}{xs ys:Array Value}{Q:Fin->Shared->Prop} (v:A.handled=none) (D:Ks z TI TO i1 i2 l1 l2)
  (hz:jA s.heap z TI TO (Km a) (.bool f)) (C:s.heap.get? a=some B) (p:Kd s.heap TI (.ref i1) (.ref i2))
  (h1:s.heap.IsListIter i1 l1 m) (h2:s.heap.IsListIter i2 l2 n) (j:s.heap.IsList l1 xs) (q:s.heap.IsList l2 ys) (k:xs[m]? = none\/ys[n]? = none)
  (y:∀ h' e,(∀ c o,c≠z->c≠i1->c≠i2->s.heap.get? c=some o->h'.get? c=some o)->(∃ o,h'.get? e=some o/\o.cls=.type "StopIteration")->E (.ref e) { s with heap:=h' }) :
  qb (q3 prog w) A (Builtin.«zip.__next__» ⟨[.ref z],[]⟩) Q E s:=by
 show qb _ _ (Qq (.ref z) 2 >>= _) _ _ _
 refine jj (z5 hz rfl (x:=.bool false) rfl ?_)
 show qb _ _ (Qq (.ref z) 3 >>= _) _ _ _
 refine jj (z5 hz rfl (x:=.ref TI) rfl ?_)
 refine jj (J1 p rfl ?_)
 show qb _ _ (Builtin.SmallTypes.ownedTupleIsFree (.ref z) >>= _) _ _ _
 refine jj (oA hz C λh₁ r b=>?_)
 simp only[Ij,if_false]
 refine jj ?_
 rw[<-Array.forIn_toList]
 simp only[Ji,Jg]
 refine jj (jj (zh ?_))
 show qb _ _ (Builtin.SmallTypes.nextOf (.ref i1) >>= _) _ _ _
 cases hx:xs[m]? with
 | none =>
  refine jj (Qf v (h1.extBut b.extBut D.i1z) (j.extBut b.extBut D.l1z) hx λg e d t=>?_)
  exact y g e (λc o c1 c3 _ x=>d _ _ c3 (b.extBut _ _ c1 x)) t
 | some x =>
  have F:ys[n]? = none:=by rcases k with h|h;rw[hx] at h;cases h;exact h
  refine jj (Kw (h1.extBut b.extBut D.i1z) (j.extBut b.extBut D.l1z) hx λg u d=>ke ?_)
  dsimp only
  refine ke ?_
  dsimp only
  refine jj (jj (zh ?_))
  show qb _ _ (Builtin.SmallTypes.nextOf (.ref i2) >>= _) _ _ _
  refine jj (Qf v ((h2.extBut b.extBut D.i2z).extBut d.extBut D.i12.symm) ((q.extBut b.extBut D.l2z).extBut d.extBut D.l2i1) F λl e i t=>?_)
  exact y l e (λc o c1 c3 G x=>i _ _ G (d.extBut _ _ c3 (b.extBut _ _ c1 x))) t
noncomputable def ZSt (h:Heap) (z TI TO i1 i2 l1 l2:Addr) (xs ys:Array Value) (i:Nat):Prop :=
 Kd h TI (.ref i1) (.ref i2)/\h.IsListIter i1 l1 i/\h.IsListIter i2 l2 i/\h.IsList l1 xs/\h.IsList l2 ys/\((i=0/\KY h z TI TO .none/\∃ a b,Kd h TO a b)\/∃ (a:Addr) (f:Bool) (c:Obj),jA h z TI TO (Km a) (.bool f)/\h.get? a=some c/\c.cls=.type "tuple" /\ a≠z/\a≠i1/\a≠i2)
theorem ZSt.keep {h h':Heap}{z TI TO i1 i2 l1 l2 S:Addr}{r:Obj}{xs ys:Array Value}{i:Nat} (x:ZSt h z TI TO i1 i2 l1 l2 xs ys i) (t:h.get? S=some r) (hc:r.cls=.type "list") (u:l1≠S) (v:l2≠S)
  (k : ∀ b o,b≠S->h.get? b=some o->h'.get? b=some o):ZSt h' z TI TO i1 i2 l1 l2 xs ys i:=by
 have ne:∀ b o,h.get? b=some o->o.cls≠.type "list" -> b≠S:=λb o e c q=>c (by subst q;rw[t] at e;cases e;exact hc)
 obtain⟨g,h1,h2,m,n,hz⟩:=x
 refine⟨k _ _ (ne _ _ g (by simp)) g,?_,?_,m.at λo e=>k _ o u e,n.at λo e=>k _ o v e,?_⟩
 ·obtain⟨o,e,c,d⟩:=id h1
  exact h1.at λo' p=>k _ o' (ne _ _ e (by rw[c];simp)) p
 ·obtain⟨o,e,c,d⟩:=id h2
  exact h2.at λo' p=>k _ o' (ne _ _ e (by rw[c];simp)) p
 ·rcases hz with⟨e,hz,a,b,j⟩|⟨a,f,w,hz,s,l,q1,y,A⟩
  ·exact .inl ⟨e,k _ _ (ne _ _ hz (by simp)) hz,a,b,k _ _ (ne _ _ j (by simp)) j⟩
  ·exact .inr ⟨a,f,w,k _ _ (ne _ _ hz (by simp)) hz,k _ _ (ne _ _ s (by rw[l];simp)) s,l,q1,y,A⟩
theorem B8 {z TI TO i1 i2 l1 l2:Addr}{i:Nat}{xs ys:Array Value}{x y:Value}{Q:Option Value->Shared->Prop} (D:Ks z TI TO i1 i2 l1 l2) (k:ZSt s.heap z TI TO i1 i2 l1 l2 xs ys i) (hx:xs[i]? = some x) (q:ys[i]? = some y)
  (r:∀ h',ZSt h' z TI TO i1 i2 l1 l2 xs ys (i+1)->Kd h' s.heap.objs.size x y->h'.objs.size=s.heap.objs.size+1 ->
   (∀ c o,c≠z->c≠TO->c≠i1->c≠i2->s.heap.get? c=some o->h'.get? c=some o)->Q (some (.ref s.heap.objs.size)) { s with heap:=h' }) :
  qb (q3 prog w) A (KO (.ref z)) Q E s:=by
 obtain⟨d,h1,h2,g,h,hz⟩:=k
 rcases hz with⟨rfl,hz,a,b,l⟩|⟨a,f,t,hz,u,m,v,a1,a2⟩
 ·refine wpAny_pyNext_zip_item D hz d l h1 h2 g h hx q λh' c1 c2 c3 n j p hk=>?_
  have lt:∀ {c o},s.heap.get? c=some o->s.heap.objs.size≠c:=λe=>Iz (HL e)
  exact r h' ⟨hk _ _ D.TIz D.TITO D.TIi1 D.TIi2 d,c3,n,g.at λo e=>hk _ o D.l1z D.l1TO D.l1i1 D.l1i2 e,h.at λo e=>hk _ o D.l2z D.l2TO D.l2i1 D.l2i2 e,
   .inr ⟨_,false,_,c1,j,rfl,lt hz,(by obtain⟨_,e,_⟩:=h1;exact lt e),(by obtain⟨_,e,_⟩:=h2;exact lt e)⟩⟩ j p hk
 ·have B:s.TypeIs (.ref z) "zip" := ⟨_,hz,rfl⟩
  unfold KO
  refine jj (KC (J4 (name:=Str.ofString "__next__") B F.slot_zip_next
   (J3 F.slot_zip_next B F.entry_zip_next (kH D hz u d h1 h2 g h hx q λh' c1 c3 n j p hk=>ke ?_) (F.args_zip_next_1 _))))
  exact r h' ⟨hk _ _ D.TIz D.TIi1 D.TIi2 d,c3,n,g.at λo e=>hk _ o D.l1z D.l1i1 D.l1i2 e,h.at λo e=>hk _ o D.l2z D.l2i1 D.l2i2 e,
   .inr ⟨a,true,t,c1,hk a t v a1 a2 u,m,v,a1,a2⟩⟩ j p λc o d1 _ C G e=>hk c o d1 C G e
theorem B9 {z TI TO i1 i2 l1 l2:Addr}{i:Nat}{xs ys:Array Value}{Q:Option Value->Shared->Prop} (m:A.handled=none) (D:Ks z TI TO i1 i2 l1 l2) (k:ZSt s.heap z TI TO i1 i2 l1 l2 xs ys i) (d:xs[i]? = none\/ys[i]? = none)
  (n:∀ h',(∀ c o,c≠z->c≠TO->c≠i1->c≠i2->s.heap.get? c=some o->h'.get? c=some o)->Q none { s with heap:=h' }):qb (q3 prog w) A (KO (.ref z)) Q E s:=by
 obtain⟨g,h1,h2,h,j,hz⟩:=k
 rcases hz with⟨rfl,hz,a,b,l⟩|⟨a,f,x,hz,q,r,y,a1,a2⟩
 ·exact wpAny_pyNext_zip_end m D hz g l h1 h2 h j d n
 ·have p:s.TypeIs (.ref z) "zip" := ⟨_,hz,rfl⟩
  unfold KO
  refine jj (KC (J4 (name:=Str.ofString "__next__") p F.slot_zip_next
   (J3 F.slot_zip_next p F.entry_zip_next (mK m D hz q g h1 h2 h j d λh' e hk t=>?_) (F.args_zip_next_1 _))))
  obtain⟨o,ho,hc⟩:=t
  refine jj (Kr (T := "StopIteration") (b:=true) ⟨o,ho,hc⟩ QJ ?_)
  exact ke (n _ λc o d1 _ u v e=>hk c o d1 u v e)
end
section
variable {prog:zb}{w:zf}{A:Around}{s:Shared}{R:Result->Shared->Prop}{z TI TO i1 i2 l1 l2:Addr}{xs ys:Array Value}
structure ZG (xs ys:Array Value) (lo:Addr) (h:Heap) (as:List Addr):Prop where
 nd : as.Nodup
 above:∀ a∈as,lo<=a
 pairs:∀ (j:Nat) (a:Addr),as[j]? = some a->∃ x y,xs[j]? = some x/\ys[j]? = some y/\Kd h a x y
theorem B7 {S lo:Addr}{n:Nat} (hh:A.handled=none) (D:Ks z TI TO i1 i2 l1 l2) (hn:n=min xs.size ys.size) (a0:n<=sizeLine) (n1:l1≠S) (n2:l2≠S) (zl:z<lo) (tl:TO<lo) (il:i1<lo) (jl:i2<lo) (sl:S<lo) (d:S≠z/\S≠TO/\S≠i1/\S≠i2) (res:Value) {h₁:Heap}
  (hR:∀ h' tk f c as,(∀ b o,b≠S->b≠z->b≠TO->b≠i1->b≠i2->h₁.get? b=some o->h'.get? b=some o)->h'.get? S=some { cls:=.type "list",dict:=none,data:=.seq f c,slots:=#[] }->as.length=n->ZG xs ys lo h' as ->
   f.toList=as.map Value.ref->R (.ok (.ret res)) { s with heap:=h',toks:=tk }) :
  ∀ (k i:Nat) (h:Heap) (tk c:Nat) (f:Array Value) (as:List Addr),n - i=k->i<=n->ZSt h z TI TO i1 i2 l1 l2 xs ys i->(∀ b o,b≠S->b≠z->b≠TO->b≠i1->b≠i2->h₁.get? b=some o->h.get? b=some o) ->
   h.get? S=some { cls:=.type "list",dict:=none,data:=.seq f c,slots:=#[] }->f.toList=as.map Value.ref->as.length=i->ZG xs ys lo h as->lo<=h.objs.size ->
   Kx (q3 prog w) A (.builtin "list.extend.loop" ⟨[.ref S,.ref z,res],[]⟩) R { s with heap:=h,toks:=tk }:=by
 intro k
 have G:∀ b,lo<=b->b≠z/\b≠TO/\b≠i1/\b≠i2/\b≠S:=λb m =>
  ⟨Iz (HV zl m),Iz (HV tl m),Iz (HV il m),Iz (HV jl m),Iz (HV sl m)⟩
 induction k with
 | zero =>
  intro i h tk c f as hk hi u g Q l p r v
  have a4:i=n:=by omega
  refine Kt PySem.F.entry_extend_loop ?_
  rw[Around.under_plainId PySem.F.plain_extend_loop _]
  show qb _ A.in1 (KO (.ref z) >>= _) _ _ _
  have H:xs[i]? = none\/ys[i]? = none:=by
   rcases Nat.le_total xs.size ys.size with q|q
   ·exact .inl (Array.getElem?_eq_none (by omega))
   ·exact .inr (Array.getElem?_eq_none (by omega))
  refine jj (B9 (s:={ s with heap:=h,toks:=tk }) (A:=A.in1) hh D u H λh' U=>?_)
  refine ke (hR h' tk f c as (λb o T I J K L e=>U b o I J K L (g b o T I J K L e)) (U S _ d.1 d.2.1 d.2.2.1 d.2.2.2 Q) (by omega) ⟨r.nd,r.above,λj a hj=>?_⟩ l)
  obtain⟨x,y,e1,e2,e3⟩:=r.pairs j a hj
  obtain⟨q1,V,W,X,_⟩:=G a (r.above a (IE hj))
  exact⟨x,y,e1,e2,U a _ q1 V W X e3⟩
 | succ k ih =>
  intro i h tk c f as hk hi u g Q l p r v
  have Y:i<n:=by omega
  have M:i<xs.size:=by omega
  have N:i<ys.size:=by omega
  have hsz:f.size=i:=by rw[<-Array.length_toList,l,HC,p]
  refine Kt PySem.F.entry_extend_loop ?_
  rw[Around.under_plainId PySem.F.plain_extend_loop _]
  show qb _ A.in1 (KO (.ref z) >>= _) _ _ _
  refine jj (B8 (s:={ s with heap:=h,toks:=tk }) D u (Array.getElem?_eq_getElem M) (Array.getElem?_eq_getElem N) λh' O Z hz t=>?_)
  dsimp only at Z hz t ⊢
  have B:=t S _ d.1 d.2.1 d.2.2.1 d.2.2.2 Q
  have up:∀ b o,b≠S->h'.get? b=some o->(h'.update S (Obj.mapSeq (·.push (Value.ref h.objs.size)))).get? b=some o:=λb o m e=>(IX _ _ (Ne.symm m)).trans e
  have P:h.objs.size≠S:=Iz (HL Q)
  show qb _ A.in1 (QP S (·.push (Value.ref h.objs.size)) >>= _) _ _ _
  refine jj ?_
  refine Qb B rfl (ke ⟨K2 PySem.F.plain_extend_loop _,ih (i+1) _ tk _ (f.push (Value.ref h.objs.size)) (as++[h.objs.size]) (by omega) Y (O.keep B rfl n1 n2 up)
   (λb o T I J K L e=>up b o T (t b o I J K L (g b o T I J K L e))) (IH _ B rfl) (by rw[Array.toList_push,l,Il];rfl) (by rw[Ie,p];rfl) ⟨?_,?_,?_⟩ ?_⟩) (by rw[hsz];omega) (by show(f.push (Value.ref h.objs.size)).size<=sizeLine+1;rw[Array.size_push,hsz];omega)
  ·refine HN.mpr ⟨r.nd,by simp,λa C b m=>?_⟩
   rw[HD.mp m]
   obtain⟨j,hj⟩:=Js.mp C
   obtain⟨_,_,_,_,e⟩:=r.pairs j a hj
   exact HZ (HL e)
  ·intro a C
   rcases HF.mp C with C|C
   ·exact r.above a C
   ·rw[HD.mp C];exact v
  ·intro j b hj
   rcases Nat.lt_trichotomy j as.length with q|q|q
   ·rw[HY q] at hj
    obtain⟨x,y,e1,e2,e3⟩:=r.pairs j b hj
    obtain⟨q1,V,W,X,q5⟩:=G b (r.above b (IE hj))
    exact⟨x,y,e1,e2,up b _ q5 (t b _ q1 V W X e3)⟩
   ·subst q
    have m:h.objs.size=b:=by simpa using hj
    subst m
    exact⟨_,_,by rw[p];exact Array.getElem?_eq_getElem M,by rw[p];exact Array.getElem?_eq_getElem N,up _ _ P Z⟩
   ·have E:(as++[h.objs.size])[j]? = none:=Jc (by rw[Ie,ID];omega)
    rw[E] at hj;cases hj
  ·have e:(h'.update S (Obj.mapSeq (·.push (Value.ref h.objs.size)))).get? h.objs.size=_:=up _ _ P Z
   exact HQ v (JY (HL e))
theorem qG:typeLookup (.type "zip") "__len__" = pure none:=by rw[typeLookup_type,builtinLookup_eq_fast];kernel_rfl
theorem mJ:typeLookup (.type "zip") "__length_hint__" = pure none:=by rw[typeLookup_type,builtinLookup_eq_fast];kernel_rfl
theorem vA {S:Addr}{k:Nat} (v:A.handled=none) (D:Ks z TI TO i1 i2 l1 l2) (h:ZSt s.heap z TI TO i1 i2 l1 l2 xs ys 0) (hz:KY s.heap z TI TO .none) (p:min xs.size ys.size<=sizeLine) (r:l1≠S) (t:l2≠S) (tl:TO<s.heap.objs.size) (g:S≠z/\S≠TO/\S≠i1/\S≠i2) (res:Value)
  (n:s.heap.get? S=some { cls:=.type "list",data:=.seq #[] k })
  (x:∀ h' tk l c as,(∀ b o,b≠S->b≠z->b≠TO->b≠i1->b≠i2->s.heap.get? b=some o->h'.get? b=some o)->h'.get? S=some { cls:=.type "list",dict:=none,data:=.seq l c,slots:=#[] }->as.length=min xs.size ys.size->ZG xs ys s.heap.objs.size h' as ->
   l.toList=as.map Value.ref->R (.ok (.ret res)) { s with heap:=h',toks:=tk }) :
  qb (q3 prog w) A.in1 (Builtin.List.listExtendWith (.ref S) (.ref z) res)
   (λfin s'=>match fin with|.done f=>R (.ok f) s'|.again c'=>c'.quiet=true/\Kx (q3 prog w) A c' R s') (λe s'=>R (.error e) s') s:=by
 have q:s.TypeIs (.ref z) "zip" := ⟨_,hz,rfl⟩
 unfold Builtin.List.listExtendWith
 refine jj (wpAny_typeOf q ?_)
 have e1:Builtin.List.listSameRef (.ref S) (.ref z)=false:=by simp[Builtin.List.listSameRef,g.1]
 have e2:(Value.type "zip" == Value.type "list")=false:=by decide
 have e3:(Value.type "zip" == Value.type "tuple")=false:=by decide
 simp only[e1,e2,e3,Bool.or_false,Ij,if_false]
 refine jj (Qw hz ?_)
 refine jj (zh ?_)
 unfold Builtin.List.listLengthHint
 refine jj (Ke q qG ?_)
 show qb _ A.in1 (specialOf (Value.ref z) (Str.ofString "__length_hint__") >>= _) _ _ _
 refine jj (Ke q mJ ?_)
 refine ke ?_
 show qb _ A.in1 (rule "list.extend.makes-room" >>= λ_=>Builtin.List.listTouch (.ref S) >>= λ_ =>
  again (.builtin "list.extend.loop" ⟨[.ref S,.ref z,res],[]⟩)) _ _ _
 refine jj (Ko ?_)
 refine jj ?_
 show qb _ A.in1 (QP S (·.push .none) >>= λ_=>QP S (·.pop)) _ _ _
 refine jj (Qb n rfl ?_)
 have d:=IH (Obj.mapSeq (·.push Value.none)) n rfl
 refine Qb (hz:=by seq_fits) d rfl ?_
 have i:=IH (Obj.mapSeq (·.pop)) d rfl
 have m:∀ b o,b≠S->s.heap.get? b=some o->((s.heap.update S (Obj.mapSeq (·.push Value.none))).update S (Obj.mapSeq (·.pop))).get? b=some o :=
  λb o u e=>(IX _ _ (Ne.symm u)).trans ((IX _ _ (Ne.symm u)).trans e)
 have hsz:((s.heap.update S (Obj.mapSeq (·.push Value.none))).update S (Obj.mapSeq (·.pop))).objs.size=s.heap.objs.size:=by rw[Jp,Jp]
 obtain⟨G,y,_⟩:=id h.2.1
 obtain⟨H,B,_⟩:=id h.2.2.1
 exact ke ⟨K2 F.plain_extend_loop _,B7 (lo:=s.heap.objs.size) (h₁:=s.heap) v D rfl p r t (HL hz) tl (HL y) (HL B) (HL n) g res x _ 0 _ s.toks _ #[] [] rfl (Ig _) (h.keep n rfl r t m) (λb o C _ _ _ _ e=>m b o C e) i rfl rfl ⟨Jq,(λa E=>by cases E),λj a hj=>by simp at hj⟩ (by rw[hsz];exact HK _)⟩
end
section
variable {prog:zb}{w:zf}{A:Around}{E:Value->Shared->Prop}{s:Shared}{z TI TO i1 i2 l1 l2:Addr}{xs ys:Array Value}
theorem kz {Q:Value->Shared->Prop} (C:A.handled=none) (D:Ks z TI TO i1 i2 l1 l2) (t:ZSt s.heap z TI TO i1 i2 l1 l2 xs ys 0) (hz:KY s.heap z TI TO .none) (u:min xs.size ys.size<=sizeLine) (tl:TO<s.heap.objs.size)
  (G:∀ h' tk g c as,(∀ b o,b≠z->b≠TO->b≠i1->b≠i2->s.heap.get? b=some o->h'.get? b=some o)->h'.get? s.heap.objs.size=some { cls:=.type "list",dict:=none,data:=.seq g c,slots:=#[] }->as.length=min xs.size ys.size ->
   ZG xs ys (s.heap.objs.size+1) h' as->g.toList=as.map Value.ref->Q (.ref s.heap.objs.size) { s with heap:=h',toks:=tk }) :
  qb (q3 prog w) A (call (.type "list") [.ref z]) Q E s:=by
 refine callType_codes (Q₁:=λobj h=>obj=.ref s.heap.objs.size/\h={ s with heap:=s.heap.push { cls:=.type "list",data:=.seq #[] } }) F.called_list (F.typeCall_list_1 _) F.entry_list_init
  (code_list_new _ ⟨rfl,rfl⟩) λobj h h₁=>?_
 obtain⟨rfl,rfl⟩:=h₁
 have p:(s.heap.push { cls:=.type "list",data:=.seq #[] }).get? s.heap.objs.size=some { cls:=.type "list",data:=.seq #[] }:=HR _ rfl
 refine⟨⟨_,p,rfl⟩,F.args_list_init_2 _ _,?_⟩
 show qb _ _ (do let old <-Builtin.List.listItems (.ref s.heap.objs.size);Builtin.List.listUpdate (.ref s.heap.objs.size) (λ_=>#[]);letGo old.toList.reverse;Builtin.List.listExtendWith (.ref s.heap.objs.size) (.ref z) .none) _ _ _
 refine jj ?_
 unfold Builtin.List.listItems
 refine jj (J1 p rfl (ke ?_))
 show qb _ _ (QP s.heap.objs.size (λ_=>#[]) >>= λ_=>letGo (#[]:Array Value).toList.reverse >>= λ_=>Builtin.List.listExtendWith (.ref s.heap.objs.size) (.ref z) .none) _ _ _
 refine jj (Qb p rfl ?_)
 have i:=IH (Obj.mapSeq (λ_=>(#[]:Array Value))) p rfl
 have d:∀ b o,s.heap.get? b=some o->((s.heap.push { cls:=.type "list",data:=.seq #[] }).update s.heap.objs.size (Obj.mapSeq (λ_=>(#[]:Array Value)))).get? b=some o :=
  λb o e=>(IX _ _ (Iz (HL e))).trans (HE _ e)
 refine jj (KS ?_)
 obtain⟨v,h1,h2,k,l,x⟩:=t
 have j:∀ {b o},s.heap.get? b=some o->b≠s.heap.objs.size:=λe=>HZ (HL e)
 have m:ZSt ((s.heap.push { cls:=.type "list",data:=.seq #[] }).update s.heap.objs.size (Obj.mapSeq (λ_=>(#[]:Array Value)))) z TI TO i1 i2 l1 l2 xs ys 0:=by
  refine⟨d _ _ v,h1.at λo e=>d _ o e,h2.at λo e=>d _ o e,k.at λo e=>d _ o e,l.at λo e=>d _ o e,?_⟩
  rcases x with⟨e,q,a,b,r⟩|⟨a,f,H,q,r,c,q1⟩
  ·exact .inl ⟨e,d _ _ q,a,b,d _ _ r⟩
  ·exact .inr ⟨a,f,H,d _ _ q,d _ _ r,c,q1⟩
 have hsz:((s.heap.push { cls:=.type "list",data:=.seq #[] }).update s.heap.objs.size (Obj.mapSeq (λ_=>(#[]:Array Value)))).objs.size=s.heap.objs.size+1:=by rw[Jp,IG]
 obtain⟨U,I,_⟩:=id h1
 obtain⟨V,J,_⟩:=id h2
 obtain⟨W,K,_⟩:=id k
 obtain⟨X,L,_⟩:=id l
 refine vA (R:=wants (λr n=>r=Value.none/\Q (Value.ref s.heap.objs.size) n) E) (A:=A.in1) (s:={ s with heap:=(s.heap.push { cls:=.type "list",data:=.seq #[] }).update s.heap.objs.size (Obj.mapSeq (λ_=>(#[]:Array Value))) }) C D m (d _ _ hz) u (j K) (j L) (by show TO<_;rw[hsz];exact IW tl) ⟨(j hz).symm,Iz tl,(j I).symm,(j J).symm⟩ .none i λh' tk g c as hk y M B N=>?_
 dsimp only at B hk
 rw[hsz] at B
 exact⟨rfl,G h' tk g c as (λb o O P S T e=>hk b o (j e) O P S T (d b o e)) y M B N⟩
end
section
variable {X:Cx}{pins:List (Addr×Obj)}{σ:St}{s:Shared}
theorem hX:∀ (L:List (Addr×V×V)) (H:Hp),Inv X pins σ H s->(L.map λt=>t.1).Nodup->(∀ t∈L,eU X pins H t.1/\∃ x y,bw t.2.1 x/\bw t.2.2 y/\Kd s.heap t.1 x y) ->
  ∃ H',Inv X pins σ H' s/\aR H H'/\(∀ b,b ∉ L.map (λt=>t.1)->H' b=H b)/\∀ t∈L,H' t.1=some (.tup [t.2.1,t.2.2])
 | [],H,I,_,_=>⟨H,I,aR.refl H,λ_ _=>rfl,λ_ z=>by cases z⟩
 | t :: L,H,I,nd,h=>by
  rw[HU,Iu] at nd
  obtain⟨fp,x,y,e,g,i⟩:=h t HH
  have j:Inv X pins σ (upd H t.1 (.tup [t.2.1,t.2.2])) s:=I.track fp ⟨by rw[zd];simp,[x,y],.cons e (.cons g .nil),⟨_,i,rfl,⟨_,rfl⟩,rfl⟩⟩
  have k:aR H (upd H t.1 (.tup [t.2.1,t.2.2])):=aR.new fp.1
  obtain⟨H',l,s2,d,m⟩:=hX L _ j nd.2 λu a=>by
   obtain⟨f,r⟩:=h u (HJ _ a)
   have ne:u.1≠t.1:=λz=>nd.1 (HS.mpr ⟨u,a,z⟩)
   exact⟨⟨by rw[al ne];exact f.1,f.2⟩,r⟩
  refine⟨H',l,k.trans s2,λb c=>?_,λu a=>?_⟩
  ·rw[HU,HP,not_or] at c
   rw[d b c.2,al c.1]
  ·rcases HP.mp a with rfl|a
   ·rw[d _ nd.1];exact aB
   ·exact m u a
theorem kJ:∀ as:List Addr,aX (as.map V.ref) (as.map Value.ref)
 | []=>.nil
 | a::as=>.cons rfl (kJ as)
theorem jB:∀ {xs:List V}{us:List Value}{j:Nat}{u:Value}{x:V},aX xs us->us[j]? = some u->xs[j]? = some x->bw x u
 | _,_,0,u,x,.cons r _,e,f=>by
  simp only[List.getElem?_cons_zero,Option.some.injEq] at e f
  subst e;subst f;exact r
 | _,_,j+1,u,x,.cons _ r,e,f=>by
  rw[List.getElem?_cons_succ] at e f
  exact jB r e f
 | _,_,_,_,_,.nil,e,_=>by simp at e
end
section
variable {X:Cx}{K:PySem.W.Frag}{e1 e2:Expr}{ta:TA}{p q zp pos:Pos}
noncomputable def Fa (K:PySem.W.Frag) (ta:TA):TE:=λσ H Q=>ta σ H λvs H1=>∃ l1 l2 xs ys,vs=[.ref l1,.ref l2]/\SqL K H1 l1 xs/\SqL K H1 l2 ys /\
 ∀ (H2:Hp) (as:List Addr),aR H1 H2->as.length=(xs.zip ys).length->(∀ t∈as.zip (xs.zip ys),H1 t.1=none/\H2 t.1=some (.tup [t.2.1,t.2.2]))->∀ r,H2 r=none->Q (.ref r) (upd H2 r (.lst (as.map V.ref)))
theorem Ap (hK:X.K=K) (L:X.calm=true) (M:Gl X "list") (N:X.mg "list" = none) (hg:Gl X "zip") (hm:X.mg "zip" = none) (O:PA X [e1,e2] ta)
  (P:kq [.Call (.Name "zip" q) [e1,e2] [] zp] X.env=[(false,eval (.Call (.Name "zip" q) [e1,e2] [] zp) X.env)]:=by rfl)
  (m:J0 pos (kq [.Call (.Name "zip" q) [e1,e2] [] zp] X.env)=[(false,eval (.Call (.Name "zip" q) [e1,e2] [] zp) X.env)]:=by rfl)
  (hs:kq [e1,e2] X.env=[(false,eval e1 X.env),(false,eval e2 X.env)]:=by rfl) (r:kq [e2] X.env=[(false,eval e2 X.env)]:=by rfl) :
  PE X (.Call (.Name "list" p) [.Call (.Name "zip" q) [e1,e2] [] zp] [] pos) (Fa K ta):=by
 subst hK
 intro pins s σ H Q I h
 refine QV (dh I M N PyProof.Rows.boot_list (PyProof.Rows.callWith_type1 ?_ P rfl))
 rw[m]
 refine Calls.spliced_cons ?_
 refine QV (dh I hg hm PyProof.Rows.boot_zip (PyProof.Rows.callWith_type1 (thn (O zp pins s σ H _ I h) λus s1 R=>?_) (by rw[hs,r]) (by rw[r];rfl)))
 obtain⟨vs,H1,l,r1,q1⟩:=R
 obtain⟨l1,l2,xs,ys,rfl,S,T,q⟩:=q1
 obtain⟨u,v,rfl,ru,rv⟩:=sr r1
 cases (show u=Value.ref l1 from ru)
 cases (show v=Value.ref l2 from rv)
 obtain⟨w,g,U,z1⟩:=l.list S
 obtain⟨A,B,W,z2⟩:=l.list T
 have i:=U.isList
 have k:=W.isList
 refine oB (b:=false) (c:=false) i k λh' hz Y C h1 h2 hk=>?_
 refine Calls.spliced_nil ?_
 obtain⟨o1,g1,_⟩:=id i
 obtain⟨o2,g2,_⟩:=id k
 have a0:=HL g1
 have a4:=HL g2
 generalize G:s1.heap.objs.size=n at *
 have ap:Ks (n+4) (n+2) (n+3) n (n+1) l1 l2:=by
  constructor <;> (intro z;simp only[Addr] at *;omega)
 have tl:n+3<h'.objs.size:=HL C
 refine kz (s:={ s1 with heap:=h' }) (xs:=w.toArray) (ys:=A.toArray) (I.ok.hd L) ap ⟨Y,h1,h2,i.at λo e=>hk _ o e,k.at λo e=>hk _ o e,.inl ⟨rfl,hz,_,_,C⟩⟩ hz ?_ tl λh2 tk a5 c as kp hS D E F=>?_
 ·have:=g.length
  rw[HM,<-this]
  exact HQ (Nat.min_le_left _ _) z1
 have le:n<=h'.objs.size:=by simp only[Addr] at *;omega
 have kk:∀ b o,s1.heap.get? b=some o->h2.get? b=some o:=λb o e=>by
  have lb:=HL e
  rw[G] at lb
  refine kp b o ?_ ?_ ?_ ?_ (hk b o e) <;> (intro z;simp only[Addr] at *;omega)
 have I2:Inv X pins σ H1 { s1 with heap:=h2,toks:=tk }:=l.kept kk
 have fr:∀ a,n<=a->H1 a=none:=λa O=>l.hok.fresh (by rw[G];exact O)
 have d:as.length=(xs.zip ys).length:=by
  rw[D,Jj,HM,HM,g.length,B.length]
 have f:(as.zip (xs.zip ys)).map (λt=>t.1)=as:=List.map_fst_zip (by rw[d];exact HK _)
 obtain⟨Z,I3,s3,o3,g3⟩:=hX (as.zip (xs.zip ys)) H1 I2 (by rw[f];exact E.nd) λt J=>by
  obtain⟨j,hj⟩:=List.getElem?_of_mem J
  rw[IM] at hj
  obtain⟨j1,j2⟩:=hj
  rw[IM] at j2
  obtain⟨j2,j3⟩:=j2
  obtain⟨x,y,hx,hy,hp⟩:=E.pairs j t.1 j1
  have ab:=E.above t.1 (IE j1)
  refine⟨l.fpOk (by rw[G];exact HQ le (HQ (IQ _) ab)) (fr _ (HQ le (HQ (IQ _) ab))),x,y,?_,?_,hp⟩
  ·exact jB g (by simpa using hx) j2
  ·exact jB B (by simpa using hy) j3
 have nS:h'.objs.size ∉ (as.zip (xs.zip ys)).map (λt=>t.1):=by
  rw[f]
  intro z
  exact Nat.not_succ_le_self _ (E.above _ z)
 have f3:Z h'.objs.size=none:=by rw[o3 _ nS];exact fr _ le
 refine⟨.ref h'.objs.size,_,I3.track (o:=.lst (as.map V.ref)) (l.fpOk (by rw[G];exact le) f3) ⟨?_,as.map Value.ref,c,kJ as,?_⟩,rfl,q Z as s3 d (λt J=>⟨?_,g3 t J⟩) _ f3⟩
 ·rw[HC,d,Jj]
  exact HQ (Nat.min_le_left _ _) z1
 ·rw[<-F]
  exact hS
 ·have:t.1∈as:=by rw[<-f];exact HS.mpr ⟨t,J,rfl⟩
  exact fr _ (HQ le (HQ (IQ _) (E.above _ this)))
end
section
variable {K:PySem.W.Frag}{N:Addr->Prop}{H1 H2:Hp}
theorem qc (k:aR H1 H2) (b:∀ a,H1 a=none->¬N a):∀ (as:List Addr) {xs ys:List V}{d1 d2:List PyData},DNs K N H1 xs d1->DNs K N H1 ys d2->as.length=(xs.zip ys).length->(∀ t∈as.zip (xs.zip ys),H1 t.1=none/\H2 t.1=some (.tup [t.2.1,t.2.2])) ->
  DNs K N H2 (as.map V.ref) ((d1.zip d2).map λp=>PyData.tuple [p.1,p.2])
 | [],_,_,_,_,.nil,_,_,_=>.nil
 | [],_,_,_,_,.cons _ _,.nil,_,_=>.nil
 | [],_,_,_,_,.cons _ _,.cons _ _,e,_=>by simp at e
 | _::_,_,_,_,_,.nil,_,e,_=>by simp at e
 | _::_,_,_,_,_,.cons _ _,.nil,e,_=>by simp at e
 | a::as,_,_,_,_,.cons u us,.cons w c,e,h=>by
  simp only[Jf,Iq,Nat.add_right_cancel_iff] at e
  simp only[Jf,HU]
  obtain⟨h1,h2⟩:=h (a,_,_) (by rw[Jf,Jf];exact HH)
  refine .cons (.tup (SnT.of h2 (b a h1)) (.cons (u.keep (aV.same k)) (.cons (w.keep (aV.same k)) .nil))) (qc k b as us c e λt d=>h t ?_)
  rw[Jf,Jf]
  exact HJ _ d
end
section
variable {X:Cx}{K:PySem.W.Frag}{e1 e2:Expr}{p q zp pos:Pos}{tl:DA}
noncomputable def BE (t:DA):DE:=λenv R=>t env λss a=>∃ s1 s2 d1 d2,ss=[s1,s2]/\aP a s1=some (.list d1)/\aP a s2=some (.list d2)/\R (.ow ((d1.zip d2).map λp=>PyData.tuple [p.1,p.2])) a
theorem CP (hK:X.K=K) (e:X.calm=true) (f:Gl X "list") (g:X.mg "list" = none) (s:Gl X "zip") (t:X.mg "zip" = none) (u:PA X [e1,e2] (upA K tl))
  (i:kq [.Call (.Name "zip" q) [e1,e2] [] zp] X.env=[(false,eval (.Call (.Name "zip" q) [e1,e2] [] zp) X.env)]:=by rfl)
  (c:J0 pos (kq [.Call (.Name "zip" q) [e1,e2] [] zp] X.env)=[(false,eval (.Call (.Name "zip" q) [e1,e2] [] zp) X.env)]:=by rfl)
  (x:kq [e1,e2] X.env=[(false,eval e1 X.env),(false,eval e2 X.env)]:=by rfl) (j:kq [e2] X.env=[(false,eval e2 X.env)]:=by rfl) :
  PE X (.Call (.Name "list" p) [.Call (.Name "zip" q) [e1,e2] [] zp] [] pos) (up K (BE tl)) :=
 (Ap (K:=K) hK e f g s t u i c x j).imp λσ H Q h=>by
 obtain⟨M,P,H0,σ0,env,ts,R,k,y,z⟩:=h
 refine⟨M,P,H0,σ0,env,ts,_,k,y,λss n vs H1 h1 A b=>?_⟩
 obtain⟨s1,s2,d1,d2,rfl,e1,e2,B⟩:=h1
 obtain⟨v,w,rfl⟩:=Dm A
 obtain⟨l1,xs,rfl,l,q1⟩:=(b.view (v:=v) (by simp) e1).list
 obtain⟨l2,ys,rfl,m,C⟩:=(b.view (v:=w) (by simp) e2).list
 exact⟨l1,l2,xs,ys,rfl,l,m,λH2 as o d hz r D=>z _ _ _ _ B ((b.same o).resOw D (qc o (λa E=>b.newAddr E) as q1 C d hz))⟩
end
end _L
namespace _L
open PySem PySem.Spec PyProof.Rows
theorem tP {p a:zb}{w w':zf}{es:List Qz}{kvs:List (Int×Value)} (h:Pairs (J8 p w) es kvs):Pairs (J8 a w') es kvs:=by
 induction h with
 | nil=>exact .nil
 | cons h1 h2 _ b=>exact .cons h1 h2 b
theorem rH {p b:zb}{w w':zf}{h:Heap}{a:Addr}{kvs:List (Int×Value)} (x:h.DictOf (J8 p w) a kvs):h.DictOf (J8 b w') a kvs:=by
 obtain⟨o,es,ep,h1,h2,c,d,e,f⟩:=x
 exact⟨o,es,ep,h1,h2,c,d,tP e,f⟩
noncomputable abbrev PrI:List (Int×V)->List (Int×Value)->Prop:=Paired (λ(p:Int×V) (q:Int×Value)=>p.1=q.1/\bw p.2 q.2)
section
variable {X:Cx}{pins:List (Addr×Obj)}{σ:St}{H:Hp}{s:Shared}{a:Addr}{k:Int}
theorem uw (I:Inv X pins σ H s) {es:List (Int×V)} (b:H a=some (.ext (bO a es))):es.length<=sizeLine/\(a==Kp)=false/\∃ xs,PrI es xs/\s.heap.DictOf (J8 X.prog X.w) a xs:=by
 obtain⟨⟨z,y,xs,r,h⟩,_⟩:=I.hok a _ b
 exact⟨z,y,xs,r,h _ _⟩
theorem BO {es:List (Int×V)}{xs:List (Int×Value)}{kvs:List (Int×PyData)}{K:PySem.W.Frag} (k:Int) (r:PrI es xs):es.map (λp=>p.1)=kvs.map (λp=>p.1)->DVs K H (es.map λp=>p.2) (kvs.map λp=>p.2) ->
  (ci kvs k=none/\QC xs k=none)\/∃ (i:Nat) (d:PyData) (v:V) (u:Value),ci kvs k=some d/\QC xs k=some u/\(es.map λp=>p.2)[i]? = some v/\(kvs.map λp=>p.2)[i]? = some d/\bw v u:=by
 induction r generalizing kvs with
 | nil =>
  intro e _
  cases kvs with
  | nil=>exact .inl ⟨rfl,rfl⟩
  | cons kv kvs=>simp at e
 | @cons p q es xs r t b =>
  intro e h
  cases kvs with
  | nil=>simp at e
  | cons kv kvs =>
   rw[HU,HU] at e h
   injection e with e1 e2
   cases h with
   | cons h1 h2 =>
    by_cases hk:kv.1=k
    ·have a:q.1=k:=by rw[<-r.1,e1,hk]
     refine .inr ⟨0,kv.2,p.2,q.2,by rw[bv,if_pos hk],?_,rfl,rfl,r.2⟩
     simp[QC,Ju,a]
    ·have a:¬q.1=k:=λz=>hk (by rw[<-e1,r.1,z])
     have c:ci (kv::kvs) k=ci kvs k:=by rw[bv,if_neg hk]
     have f:QC (q::xs) k=QC xs k:=by simp[QC,Ju,a]
     rw[c,f]
     rcases b e2 h2 with z|⟨i,d,v,u,z1,z2,z3,g,j⟩
     ·exact .inl z
     ·exact .inr ⟨i+1,d,v,u,z1,z2,by simpa using z3,by simpa using g,j⟩
end
section
variable {X:Cx}
noncomputable def Fs (K:PySem.W.Frag):R2:=λx y H Q=>∃ (k:Int) (a:Addr) (es:List (Int×V)) (kvs:List (Int×PyData)),x=.ref a/\y=.int k/\H a=some (.ext (bO a es))/\DVs K H (es.map λp=>p.2) (kvs.map λp=>p.2) /\
 es.map (λp=>p.1)=kvs.map (λp=>p.1)/\(ci kvs k).isSome=true/\∀ (i:Nat) v d,ci kvs k=some d->(es.map λp=>p.2)[i]? = some v->(kvs.map λp=>p.2)[i]? = some d->Q v H
theorem Hi:IxR X (Fs X.K):=by
 intro c slice pins s σ H x y v u Q I l m h n
 obtain⟨k,a,es,kvs,rfl,rfl,o,p,e,b,q⟩:=h
 cases (show v=Value.ref a from l)
 obtain⟨t,rfl⟩:=m
 obtain⟨z,y,xs,r,dd⟩:=uw I o
 have g:=dd.mapOf
 have j:=g.typeIs
 unfold Qo
 refine jj ?_
 rw[getitemInPython_of_ne j.not_modules]
 refine jj (Ke j PySem.F.slot_dict_getitem.lookup ?_)
 have fin:qb (q3 X.prog X.w) X.A (QA slice false (.ref a) (.int k t)) (λr f=>qb (q3 X.prog X.w) X.A (letTemporaryGo c (.ref a) r >>= λ_=>pure r) (EP X pins σ Q) X.xe f) X.xe s:=by
  rw[n]
  rcases BO k r e p with⟨z1,_⟩|⟨i,d,v,u,z1,z2,z3,B,C⟩
  ·rw[z1] at b;cases b
  ·refine wpAny_operating (wpAny_getItem_of (knd:=J8 X.prog X.w) (cu k t) g z2 ?_)
   exact jj (wpAny_letTemporaryGo (ke ⟨v,H,I.tok _,C,q i v d z1 z3 B⟩))
 first
  | exact ke (jj fin)
  | exact jj (ke (jj fin))
  | exact jj fin
theorem kE {κ β:Type} [DecidableEq κ]:∀ (es:List (κ×β)) (k:κ),(es.any λp=>decide (p.1=k))=(ci es k).isSome
 | [],k=>rfl
 | p::es,k=>by
  rw[Jv,kE es k,bv]
  by_cases h:p.1=k <;> simp[h]
theorem uy {κ β a:Type} [DecidableEq κ] {es:List (κ×β)}{kvs:List (κ×a)} (k:κ) (e:es.map (λp=>p.1)=kvs.map (λp=>p.1)):(ci es k).isSome=(ci kvs k).isSome:=by
 have h:∀ {β:Type} (es:List (κ×β)),(ci es k).isSome=(es.map λp=>p.1).any λx=>decide (x=k):=λes=>by rw[<-kE,List.any_map];rfl
 rw[h,h,e]
theorem m9 {es:List (Int×V)}{xs:List (Int×Value)} (r:PrI es xs) (k:Int) {v:V}{u:Value} (b:bw v u):PrI (fY es k v) (stored xs k u):=by
 have e:(ci es k).isSome=(xs.any λkv=>decide (kv.1=k)):=by
  rw[<-kE]
  induction r with
  | nil=>rfl
  | @cons p q ps d h t a=>rw[Jv,Jv,a,h.1]
 unfold fY stored
 rw[e]
 by_cases c:(xs.any λkv=>decide (kv.1=k))=true
 ·rw[if_pos c,if_pos c]
  clear e c
  induction r with
  | nil=>exact .nil
  | @cons p q ps d h t a =>
   rw[HU,HU]
   refine .cons ?_ a
   by_cases hk:p.1=k
   ·rw[if_pos hk,if_pos (show q.1=k by rw[<-h.1,hk])]
    exact⟨h.1,b⟩
   ·rw[if_neg hk,if_neg (λz=>hk (by rw[h.1,z]))]
    exact h
 ·rw[if_neg c,if_neg c]
  exact Paired.snoc r ⟨rfl,b⟩
noncomputable def Fo:Es:=λx y v H Q=>∃ (k:Int) (a:Addr) (es:List (Int×V)),x=.ref a/\y=.int k/\H a=some (.ext (bO a es))/\es.length<sizeLine/\Q (upd H a (.ext (bO a (fY es k v))))
theorem Fk:EX X Fo:=by
 intro pins s σ H x y v ov iv u Q I f g i h
 obtain⟨k,a,es,rfl,rfl,d,C,q⟩:=h
 cases (show ov=Value.ref a from f)
 obtain⟨t,rfl⟩:=g
 obtain⟨z,y,xs,r,dd⟩:=uw I d
 have hz:xs.length<=sizeLine:=by rw[<-Paired.length r];exact z
 refine wpAny_setItem_pairs (hsz:=hz) (knd:=J8 X.prog X.w) (cu k t) dd λh' c j=>?_
 obtain⟨o,l,ep,h1,h2⟩:=id c
 refine⟨_,?_,q⟩
 refine I.write (x:=a) (e:=a) (by rw[d];exact True.intro) (.inl rfl) (λb q m z=>(j.2 b m).trans z) ⟨_,h1⟩ ?_
 have new:bO a (fY es k v) h':=⟨by have:=jH es k v;omega,y,_,m9 r k i,λp w=>rH c⟩
 exact⟨new,⟨_,h1⟩,λn A hx B=>hx.keep λo e=>B _ e⟩
noncomputable def Fc:TE:=λ_ H Q=>∀ p,H p=none->Q (.ref p) (upd H p (.ext (bO p [])))
theorem rE {P:zb}{w:zf}{H:Hp} (h:Heap) (a:Kp<h.objs.size):eR P w H (h.push { cls:=.type "dict",data:=.dict #[] }) h.objs.size (.ext (bO h.objs.size [])):=by
 have e:=HR (o:=({ cls:=.type "dict",data:=.dict #[] }:Obj)) h rfl
 exact⟨⟨Ig _,beq_eq_false_iff_ne.mpr (Ne.symm (HZ a)),[],.nil,λp w=>⟨_,#[],0,e,⟨rfl,rfl,rfl⟩,rfl,λx hx=>by simp at hx,.nil,Jq⟩⟩,⟨_,e⟩,λh1 h2 hx b=>hx.keep λo e=>b _ e⟩
theorem Ar {pos:Pos}:PE X (.Dict [] [] pos) Fc:=λpins s σ H Q I h =>
 wpAny_Dict_empty ⟨.ref s.heap.objs.size,_,I.laid (a:=s.heap.objs.size) (o:=.ext (bO s.heap.objs.size [])) (t':=s.toks) (λ_ _ q=>HE _ q) (HK _) (rE s.heap I.big'),rfl,h _ (I.hok.fresh (HK _))⟩
end
theorem gS:∀ {kvs a:List (Int×PyData)},kvs.map (λp=>(PyData.int p.1,p.2))=a.map (λp=>(PyData.int p.1,p.2))->kvs=a
 | [],[],_=>rfl
 | [],_::_,e=>by simp at e
 | _::_,[],e=>by simp at e
 | (k,v)::xs,(k',v')::ys,e=>by
  rw[HU,HU] at e
  injection e with e1 e2
  injection e1 with e1 e3
  injection e1 with e1
  simp only at e1 e3
  rw[e1,e3,gS e2]
section
variable {K:PySem.W.Frag}{M P N:Addr->Prop}{H0 H:Hp}{σ0 σ:St}{env:List Sl}{ts:List (V×Sl)}{v:V}{d:PyData}{kvs:List (Int×PyData)}
noncomputable abbrev IDN (K:PySem.W.Frag) (N:Addr->Prop) (H:Hp) (es:List (Int×V)) (kvs:List (Int×PyData)):Prop:=DNs K N H (es.map λp=>p.2) (kvs.map λp=>p.2)/\es.map (λp=>p.1)=kvs.map (λp=>p.1)
theorem nQ {kv:List (bh×PyData)} (e:fj kv=i8 kvs):False:=pS e.symm
theorem DN.idc_of (h:DN K N H v d) (e:d=i8 kvs):∃ a es,v=.ref a/\H a=some (.ext (bO a es))/\IDN K N H es kvs:=by
 cases h with
 | fz _=>simp[fzD,i8] at e
 | dct _ _ _ _ _=>exact(nQ e).elim
 | @idc a es b n c f g =>
  injection e with e
  injection e with _ e
  have e:=gS e
  subst e
  exact⟨a,es,rfl,c,f,g⟩
 | _=>cases e
theorem Vw.idc_of (h:Vw K N H v d) (e:d=i8 kvs):∃ a es,v=.ref a/\H a=some (.ext (bO a es))/\IDN K N H es kvs:=by
 cases h with
 | dn h=>exact h.idc_of e
 | ow h q=>cases e
 | dct _ _ _ _=>exact(nQ e).elim
 | @idc a es b c f g =>
  injection e with e
  injection e with _ e
  have e:=gS e
  subst e
  exact⟨a,es,rfl,c,f,g⟩
theorem OT.idc_of {S:List Addr} (h:OT K N H v d S) (e:d=i8 kvs):∃ a es,v=.ref a/\S=[a]/\H a=some (.ext (bO a es))/\IDN K N H es kvs:=by
 cases h with
 | fz _=>simp[fzD,i8] at e
 | dct _ _ _ _=>exact(nQ e).elim
 | @idc a es b c f g =>
  injection e with e
  injection e with _ e
  have e:=gS e
  subst e
  exact⟨a,es,rfl,rfl,c,f,g⟩
 | _=>cases e
noncomputable def FR:G2:=λd e R=>∃ (kvs:List (Int×PyData)) (k:Int) (x:PyData),d=i8 kvs/\e=.int k/\ci kvs k=some x/\R x
theorem G8:ck K (Fs K) FR:=by
 rintro N H x y d e R Q f g ⟨kvs,k,z,rfl,rfl,b,h⟩ j
 obtain⟨a,es,rfl,l,c,m⟩:=f.idc_of rfl
 refine⟨k,a,es,kvs,rfl,g.int,l,c.dv,m,by rw[b];rfl,λi v d hd h1 h2=>?_⟩
 rw[b] at hd
 cases hd
 obtain⟨n,e1,dn⟩:=c.get h1
 rw[h2] at e1
 cases e1
 exact j _ _ h dn
theorem tw {es:List (Int×V)} (k:Int) (h2:IDN K N H es kvs) (dn:DN K N H v d):IDN K N H (fY es k v) (fY kvs k d):=by
 obtain⟨h2,e⟩:=h2
 unfold fY
 rw[uy k e]
 by_cases c:(ci kvs k).isSome=true
 ·rw[if_pos c,if_pos c]
  clear c
  induction es generalizing kvs with
  | nil =>
   cases kvs with
   | nil=>exact⟨.nil,rfl⟩
   | cons q kvs=>simp at e
  | cons p es b =>
   cases kvs with
   | nil=>simp at e
   | cons q kvs =>
    rw[HU,HU] at e h2
    injection e with e1 e2
    cases h2 with
    | cons f g =>
     obtain⟨i2,i1⟩:=b g e2
     simp only[HU]
     by_cases h:q.1=k
     ·have a:p.1=k:=e1.trans h
      simp only[h,a,if_true]
      exact⟨.cons dn i2,by rw[HU,HU,i1]⟩
     ·have a:¬p.1=k:=λz=>h (e1.symm.trans z)
      simp only[h,a,if_false]
      exact⟨.cons f i2,by rw[HU,HU,i1,e1]⟩
 ·rw[if_neg c,if_neg c]
  refine⟨?_,by rw[Il,Il,e];rfl⟩
  rw[Il,Il]
  exact h2.app (.cons dn .nil)
theorem Rel.idct {i:Nat}{S:List Addr} (h:Rel K M P H0 σ0 σ env ts H) (e:env[i]? = some (.tr S (i8 kvs))):∃ a es,σ[i]? = some (some (.ref a))/\S=[a]/\H a=some (.ext (bO a es))/\IDN K (Nw M (aI σ env ts)) H es kvs:=by
 obtain⟨x,e1,m⟩:=h.slot e
 obtain⟨v,ev,ot,_⟩:=h.e.tr _ _ _ m
 obtain⟨a,es,rfl,b,c,d⟩:=ot.idc_of rfl
 exact⟨a,es,by rw[e1,ev],b,c,d⟩
end
section
variable {X:Cx}{K:PySem.W.Frag}{pos:Pos}{e:Expr}{te tj:DE}
theorem Hf (hK:X.K=K):IxR X (Fs K):=by subst hK;exact Hi
noncomputable def Bz (i:Nat) (tj te:DE):DS:=λDD env=>te env λs1 b=>(∃ S kvs,b[i]? = some (.tr S (i8 kvs)))/\tj b λs2 a=>∃ (S:List Addr) (kvs:List (Int×PyData)) (k:Int) (d:PyData),
 a[i]? = some (.tr S (i8 kvs))/\aC a s2=some (.int k)/\aC a s1=some d/\kvs.length<sizeLine/\DD.nx (a.set i (.tr S (i8 (fY kvs k d))))
theorem CM (i:Nat) {y:Str}{npos b:Pos}{j:Expr} (hK:X.K=K) (J:X.N[i]? = some y) (hj:PE X j (up K tj)) (L:PE X e (up K te))
  (o:Vis X.env.scope y:=by first|exact Or.inl rfl|exact Or.inr (Or.inl rfl)|exact Or.inr (Or.inr rfl)) (hd:(y==("__debug__" : Str))=false:=by decide)
  (r:(y==("__classdict__" : Str))=false:=by decide)
  (O:∀ v,Kv (.Subscript (.Name y npos) j b) X.env v=(do
   let ov <-Kk [v] (eval (.Name y npos) X.env)
   let iv <-Kk [v,ov] (eval j X.env)
   KD b
   Kk [v,ov,iv] (Qs ov iv v)
   release [v,ov,iv] []):=by intro _;rfl)
  (Q:K0 [.Subscript (.Name y npos) j b] e pos.line X.env=pure false:=by rfl) (hw:K1 [.Subscript (.Name y npos) j b] e X.env=pure none:=by rfl)
  (h1:(J6 [.Subscript (.Name y npos) j b] X.env).map (·.2)=[Kv (.Subscript (.Name y npos) j b) X.env]:=by rfl):PS X (.Assign [.Subscript (.Name y npos) j b] e pos) (upS K (Bz i tj te)):=by
 subst hK
 refine(pj L (tI (cP J o hd r) hj Fk O) Q hw h1).imp λD σ H h=>?_
 obtain⟨M,P,H0,σ0,env,ts,DD,nv,t,T,ok⟩:=h
 refine⟨M,P,H0,σ0,env,ts,_,t,T,λs1 l p H1 h1 g=>?_⟩
 obtain⟨⟨S0,F,U⟩,h1⟩:=h1
 obtain⟨a,_,q,_⟩:=g.idct U
 refine⟨.ref a,q,M,P,H0,σ0,l,ts++[(p,s1)],_,g,h1,λs2 f u H2 h2 m=>?_⟩
 obtain⟨S,kvs,k,d,e2,V,W,hl,Y⟩:=h2
 have c:Rel X.K M P H0 σ0 σ f (ts++[(p,s1),(u,s2)]) H2:=by simpa using m
 have w:=c.kept (v:=p) (s:=s1) (by simp) W
 have z:=c.kept (v:=u) (s:=s2) (by simp) V
 obtain⟨a',es,n,C,Z,o⟩:=c.drop.idct e2
 rw[q] at n
 cases n
 have E:u=.int k:=by cases z;rfl
 subst E
 have G:es.length=kvs.length:=by have:=congrArg List.length o.2;simpa using this
 refine⟨k,a,es,rfl,rfl,Z,by omega,ok.nx _ _ _ Y ?_⟩
 have I:=tw (k:=k) o w
 have na:Nw M (aI σ f ts) a:=by
  obtain⟨x,A,B,e1,q1,q2⟩:=c.drop.split e2
  refine .inr ?_
  rw[q1,af,ai]
  rw[q] at e1
  cases e1
  rw[aU,C]
  simp
 have kN:aV (Nw M (aI σ f ts)) H2 (upd H2 a (.ext (bO a (fY es k p)))):=aV.own na
 refine c.drop.retreeT (R:=[]) e2 q (by rw[C];simp) (by simp) ?_
 rw[C]
 exact .idc aB (I.1.keep kN) I.2
noncomputable def BF:DE:=λenv R=>∀ S,R (.tr S (i8 [])) env
theorem CS:PE X (.Dict [] [] pos) (up K BF):=Ar.imp λσ H Q h=>by
 obtain⟨M,P,H0,σ0,env,ts,R,a,b,c⟩:=h
 exactλp d=>c _ _ _ _ (b [p]) (a.withRes (a.e.addO d λ_=>.idc (es:=[]) (kvs:=[]) aB .nil rfl) rfl)
end
section
variable {X:Cx}{K:PySem.W.Frag}{e:Expr}
noncomputable def BD (t:DE):DE:=λenv R=>t env λs a=>∃ S d,s=.tr S d/\R (.fr d) a
theorem CQ {t:DE} (h:PE X e (up K t)):PE X e (up K (BD t)):=h.imp λσ H Q h=>by
 obtain⟨M,P,H0,σ0,env,ts,R,b,g,i⟩:=h
 refine⟨M,P,H0,σ0,env,ts,_,b,g,λs c v H1 h1 a=>?_⟩
 obtain⟨S,d,rfl,j⟩:=h1
 have f:=a.e
 rw[aH] at f
 exact i _ _ _ _ j (a.drop.withRes (bf.freezeT (B:=[]) f) rfl)
end
section
variable {X:Cx}{K:PySem.W.Frag}
theorem zS {body:List Stmt}{h₀:ExceptHandler}{a:List ExceptHandler}{pos:Pos}{t:DS} (hx:∀ e s,X.xe e s->False) (h:PSs X body (upS K t)):PS X (.Try body (h₀::a) [] [] pos) (upS K t):=λpins s σ H D I w =>
 wpAny_Try_except (zg (h pins s σ H D I w) (λf s1 q=>match f,q with
  | .next,q=>KJ q
  | .brk,q=>q
  | .cont,q=>q
  | .ret _,q=>q) λe s1 z=>(hx e s1 z).elim)
end
end _L
namespace _W
open PySem _L
local macro_rules | `(tactic| walk_at "d2") => do
 let l <- (("El,yU,Bv,F6,BE,iE,Bz,FR,BF,BD,Bx,F7,Bw,yQ,FQ,By,uo,xo,xh,kg,EH,EG,km,qm,qj,xj,yd,oE,AA,Ei,yS,Ga,qh,Br,dFz,uH,Bs,Ej,rJ,BB,ET,BG,uN,EU,dOp,Ek,dUn,EM,yV,dC,nR,Gb,dOr,EQ,BI,dIf,qq,B0,ES,xp,ER,uP,mf,dCB,dIs,l9,EN,xk,ko,uM,EV,EO,qk,xl,xi,BA,xm,EK,rK,qp,Bt,sqD,gI,gIC,gB,gBB,gEq,gNe,EI,wR,gIn,gIx,EJ,EF,uO,FU,FT,EE,ED,A5,Bu,BC,BH,Sl.tr.injEq,Gy,qo,F9,qr,B3,u4,iM,eN,ca,slF,noL,nC,lC,oN,o9,lN,oH,oF,oG,oD,je,hJ,lP,lO,lM,iF,gy,yg,ye,yf,yc,ya,x8,x9,x5,oP,oO,oM,pe,pd,o8,sW,sV,i9,lX,lV,lW,lU,pZ,p8,cw,oX,oY,tR,tS,tT,tQ,fC,mo,mn,qA,qy,qz,qx,jm,ia,kL,kO,oI,kM,jg,lQ,pO,lS,lR,ju,uv,pQ,yG,yI,pP,lT,yC,yB,yE,yH,yF,yD,bH,dH,pX,zc,za,y9,y8,y7,y6,y4,y3,pW,yN,yO,sM,oV,oW,List.map_cons,List.map_nil,List.length_cons,List.length_nil,List.cons_append,List.nil_append,List.append_nil,List.replicate_succ,List.replicate_zero,List.set_cons_succ,List.set_cons_zero,List.getElem?_cons_zero,List.getElem?_cons_succ,List.getElem?_nil,List.take_succ_cons,List.take_zero,List.take_nil,List.drop_succ_cons,List.drop_zero,List.drop_nil,Option.some.injEq,Option.bind_some,Option.bind_none,Option.map_some,Option.map_none,Sl.fr.injEq,Sl.ow.injEq,Sl.io.injEq,Sl.vw.injEq,PyData.int.injEq,PyData.bool.injEq,PyData.list.injEq,PyData.tuple.injEq,PyData.str.injEq,List.cons.injEq,reduceCtorEq,and_true,true_and,and_false,false_and,and_assoc,exists_eq_left',exists_eq_left,exists_and_left,exists_eq',exists_eq,exists_false,exists_const,Nat.reduceSub,Nat.reduceAdd,Nat.reduceLT,Nat.zero_add,Nat.lt_add_left_iff_pos,decide_eq_true_eq,ite_true,ite_false,Bool.false_eq_true,if_true,if_false,Bool.not_eq_true',Bool.not_eq_true,decide_eq_false_iff_not,Int.zero_add,String.reduceBEq,Bool.true_and,Bool.and_true,Bool.or_false,Bool.false_or,Bool.or_true,Bool.true_or,Bool.and_false,Bool.false_and,Bool.not_true,Bool.not_false,id_eq,Sl.ctorIdx,Nat.succ_eq_add_one".splitOn ",").toArray.mapM λs => `(Lean.Parser.Tactic.simpLemma| $(Lean.mkIdent s.toName):ident))
 `(tactic| simp only[$l,*])
local macro_rules | `(tactic| walk_at "d1") => do
 let l <- (("yU,Bv,F6,BE,iE,Bz,FR,BF,BD,Bx,F7,Bw,yQ,FQ,By,uo,xo,xh,kg,EH,EG,km,qm,qj,xj,yd,oE,AA,Ei,yS,Ga,qh,Br,dFz,uH,Bs,Ej,rJ,BB,ET,BG,uN,EU,dOp,Ek,dUn,EM,yV,dC,nR,Gb,dOr,EQ,BI,dIf,qq,B0,ES,xp,ER,uP,mf,dCB,dIs,l9,EN,xk,ko,uM,EV,EO,qk,xl,xi,BA,xm,EK,rK,qp,Bt,sqD,gI,gIC,gB,gBB,gEq,gNe,EI,wR,gIn,gIx,EJ,EF,uO,FU,FT,EE,ED,A5,Bu,BC,BH,Sl.tr.injEq,Gy,qo,F9,qr,B3,u4,iM,eN,ca,slF,noL,nC,lC,oN,o9,lN,oH,oF,oG,oD,je,hJ,lP,lO,lM,iF,gy,yg,ye,yf,yc,ya,x8,x9,x5,oP,oO,oM,pe,pd,o8,sW,sV,i9,lX,lV,lW,lU,pZ,p8,cw,oX,oY,tR,tS,tT,tQ,fC,mo,mn,qA,qy,qz,qx,jm,ia,kL,kO,oI,kM,jg,lQ,pO,lS,lR,ju,uv,pQ,yG,yI,pP,lT,yC,yB,yE,yH,yF,yD,bH,dH,pX,zc,za,y9,y8,y7,y6,y4,y3,pW,yN,yO,sM,oV,oW,List.map_cons,List.map_nil,List.length_cons,List.length_nil,List.cons_append,List.nil_append,List.append_nil,List.replicate_succ,List.replicate_zero,List.set_cons_succ,List.set_cons_zero,List.getElem?_cons_zero,List.getElem?_cons_succ,List.getElem?_nil,List.take_succ_cons,List.take_zero,List.take_nil,List.drop_succ_cons,List.drop_zero,List.drop_nil,Option.some.injEq,Option.bind_some,Option.bind_none,Option.map_some,Option.map_none,Sl.fr.injEq,Sl.ow.injEq,Sl.io.injEq,Sl.vw.injEq,PyData.int.injEq,PyData.bool.injEq,PyData.list.injEq,PyData.tuple.injEq,PyData.str.injEq,List.cons.injEq,reduceCtorEq,and_true,true_and,and_false,false_and,and_assoc,exists_eq_left',exists_eq_left,exists_and_left,exists_eq',exists_eq,exists_false,exists_const,Nat.reduceSub,Nat.reduceAdd,Nat.reduceLT,Nat.zero_add,Nat.lt_add_left_iff_pos,decide_eq_true_eq,ite_true,ite_false,Bool.false_eq_true,if_true,if_false,Bool.not_eq_true',Bool.not_eq_true,decide_eq_false_iff_not,Int.zero_add,String.reduceBEq,Bool.true_and,Bool.and_true,Bool.or_false,Bool.false_or,Bool.or_true,Bool.true_or,Bool.and_false,Bool.false_and,Bool.not_true,Bool.not_false,id_eq,Sl.ctorIdx,Nat.succ_eq_add_one".splitOn ",").toArray.mapM λs => `(Lean.Parser.Tactic.simpLemma| $(Lean.mkIdent s.toName):ident))
 let h:=Lean.mkIdent `hW
 `(tactic| (refine'(?wf : Wk _ _) ?we ?wk ?wq; (case we => (intro $h:ident; simp only[$l,*] at $h:ident; exact $h)); (case wf => exactλ_ k q => k q); (case wk => (intro $h:ident; walk_at "wa"))))
local macro_rules | `(tactic| walk_at "wh") => do
 let h:=Lean.mkIdent `hW
 `(tactic| repeat (first | (with_reducible refine Exists.elim $h λ_ $h => ?_) | ((with_reducible refine And.elim (λe $h => ?_) $h); try subst e)))
local macro_rules | `(tactic| walk_at "ev") => do
 let l <- ("FW,DR,Ho,Hq,F5,Hr,FZ,Bd,DZ,DU,D0,D1,DX,FV,Be,DW,FX,Bc,Bb,DY,wX,FY,F4,F1,Ef,Bm,F2,F3,wZ,Eg,Ec,Ea,Eb,D9,D8,Bj,D7,Bi,Bl,D6,uD,wY,uG,Ee,Ed".splitOn ",").toArray.mapM λs => `(Lean.Parser.Tactic.tacticSeq| with_reducible apply $(Lean.mkIdent s.toName))
 `(tactic| ((repeat' (first $[| $l]* | walk_at "wc")); done))
local macro_rules | `(tactic| walk_at "wc") => `(tactic| first | ((first | (with_reducible show _ = some (cY _)) | (with_reducible show _ = cY _) | (with_reducible show _ = List.map wD _) | (with_reducible show _ = fj _)); assumption) | exact rfl | with_reducible assumption | with_reducible exact bH _ | exact of_decide_eq_true rfl | exact AN rfl | ((first | (with_reducible show _ <= sizeLine) | (with_reducible show _ < sizeLine) | (with_reducible show _ = _) | (with_reducible show shp _)); assumption))
local macro_rules | `(tactic| walk_at "wa") => do
 let h:=Lean.mkIdent `hW
 let l <- ("Ci,Cd,Cf,zx,Cg,Ch,Cn,zD,Cm,zw,zv,vB,Ck,GQ,E3,E5".splitOn ",").toArray.mapM λs => `(Lean.Parser.Tactic.tacticSeq| (with_reducible apply $(Lean.mkIdent s.toName)); focus walk_at "ev")
 let m <- ("Ce,zA,GP,E4,Cj,zC,Cb,Cc,zu".splitOn ",").toArray.mapM λs => `(Lean.Parser.Tactic.tacticSeq| with_reducible apply $(Lean.mkIdent s.toName))
 `(tactic| (walk_at "wh"; repeat' (first | exact $h $[| $l]* $[| $m]* | walk_at "wc" | ((with_reducible show Ev _ _ _); walk_at "ev") | apply Exists.intro | refine And.intro rfl ?_ | (refine And.intro ?_ ?_; focus walk_at "wc") | refine And.intro ⟨_, rfl⟩ ?_ | refine And.intro ⟨_, _, rfl⟩ ?_ | (intro x; replace $h:ident := $h x; walk_at "wh") | (refine sk rfl (fun $h => ?_) (fun $h => ?_) $h <;> walk_at "wh") | (refine zy (fun $h => ?_) (fun $h => ?_) $h <;> walk_at "wh") | (refine zz (fun $h => ?_) (fun $h => ?_) $h <;> walk_at "wh"))))
local macro_rules | `(tactic| walk_at "dd") => `(tactic| first | (walk_at "d1"; try walk_at "d2") | (simp only[Int.zero_add]; walk_at "d1"; try walk_at "d2") | (walk_at "d2"))
local macro_rules | `(tactic| walk_at "dx") => `(tactic| (first | ((with_reducible refine nx ?_); try walk_at "dd") | walk_at "dd"); repeat ((with_reducible refine nx ?_); try walk_at "dd"))
noncomputable def top (i:Nat):Stmt:=PySem.Challenge.pw_windround_k23_whole_even_plans_keep.main.body.getD i (.Pass ⟨0,0,0,0⟩)
section
variable {P:zb}{w:zf}{K:PySem.W.Frag}{mg:Str->Option Value}{base:Heap}
noncomputable abbrev ce:Stmt:=top 40
theorem aO:ao ["_law_script", "_law_turn", "_law_many", "_law_cells", "_law_found", "_law_left", "_law_k", "_law_at", "_law_place", "_law_number"] ["_law_script", "_law_turn", "_law_many"] (ad ce):=⟨rfl,rfl,rfl,by decide +kernel,rfl,by decide +kernel,by decide +kernel⟩
noncomputable def Dr (m:Nat) (l:List Int):Prop:=l.length=m/\∀ x∈l,0<=x/\x<2147483587
theorem Dr.app {m:Nat}{l:List Int}{x:Int} (h:Dr m l) (b:0<=x) (h1:x<2147483587):Dr (m+1) (l++[x]):=by
 refine⟨by simp[h.1],λy a=>?_⟩
 rcases HF.mp a with a|a
 ·exact h.2 y a
 ·rw[HD.mp a];exact⟨b,h1⟩
noncomputable def sK:DSp:=λss R=>∃ (ns:List Int) (t m:Nat),ss=[.fr (.list (li ns)),.fr (.int t),.fr (.int m)]/\ns.length<=63/\t<=5000/\m<=5000/\∀ l,Dr m l->R (.ow (li l)) [.un,.un,.un]
theorem Gc (ns:List Int) (h:ns.length<=63):mh (li ns) none (some 63)=li ns:=by
 unfold mh
 have e:HT.sIx (li ns).length (li ns).length (some 63)=min 63 (li ns).length:=HT.sIx_nat _ _ 63
 rw[e,HT.sIx_none,HC,JJ,Nat.sub_zero,JM h]
 exact IZ (by simp)
theorem kC {f:Addr}{fd:k0} (F:Fun K "_law_draws" "_law_draws" ce f fd):a9 K fd ["_law_script", "_law_turn", "_law_many"] []:=F.binds (ps:=["_law_script", "_law_turn", "_law_many"]) λ_ _ _ _ _ _ us a=>us3 (Q:=λus=>ze _ ⟨us,[]⟩=pure (List.zip _ us)) a λ_ _ _=>rfl
theorem jV {f:Addr}{fd:k0} (F:Fun K "_law_draws" "_law_draws" ce f fd) (B:Bn mg):bR P w K mg base CX0 2 f fd ["_law_script", "_law_turn", "_law_many"] (spD K sK):=by
 refine okD (k:=1) F aO (λss R h=>?_) (by decide) (λcdv A outer s H E D=>⟨_,(am (aA (i:=3) aO.nd rfl (Or.inl rfl) (m6 (ff (K:=K) rfl) AK (m4 (K:=K) rfl (qv 0) fe (fb ag)) (eP (aa (qf 1) ac))))
   (am (aA (i:=4) aO.nd rfl (Or.inl rfl) (eP ac))
   (am (eW (aJ nt AJ (bz bF mIC (bz jS mIC (bE (ah (K:=K) rfl) mIx (qv 3) ag (λ_ _=>rfl)) ag) ag) ag (aE _)) (am (dU (i:=5)  aO.nd rfl rfl (N':=["_law_cell"]) (ix:=[none]) rfl (dq (N:=["_law_script", "_law_turn", "_law_many", "_law_cells", "_law_found", "_law_left", "_law_k", "_law_at", "_law_place", "_law_number"]) (sc0:=ad ce) rfl rfl (by decide +kernel)) (bJ (K:=K) rfl (qf 3)) (λ_ _ _ _=>(ak (i:=0) (show List.Nodup (["_law_cell"]:List Str) by decide +kernel) rfl (Or.inl rfl))) (λ_ _ _ _=>bI) (λ_ _ _ _=>(bz jS mIC (qv 0) ag)))
   (am (dW PassesOwn.never rfl (cW rfl B.range (aa (bz cQ mI (qv 1) (qv 2)) ac)) (ak (i:=6) aO.nd rfl (Or.inl rfl)) (am (aA (i:=7) aO.nd rfl (Or.inl rfl) (bz bF mIC (qv 6) (dw (fB (K:=K) rfl) fA rfl B.len PySem.boot_len (aa (qv 5) ac))))
   (CC (eW (aJ Df mB (qv 6) (qv 1) (aE _)) (ae (eX (qV 4 (K:=K) rfl rfl (bz bF mIC (bE (ah (K:=K) rfl) mIx (qv 5) (qv 7) (λ_ _=>rfl)) ag)))) aW)
   (ae (zT 5 rfl (qv 7) (bz bM mIC (bE (ah (K:=K) rfl) mIx (qv 5) (qv 7) (λ_ _=>rfl)) ag))))))
   (ae (aD (qv 4))))) aW)
   (am (dW PassesOwn.never rfl (cW rfl B.range (aa (qv 2) ac)) (ak (i:=6) aO.nd rfl (Or.inl rfl)) (am (aA (i:=8) aO.nd rfl (Or.inl rfl) (bz cQ mI (bz gv mIC (bz gv mIC (bz cQ mI (qv 6) (qv 1)) (bz cQ mI (qv 6) (qv 1))) ag) ag))
   (am (aA (i:=9) aO.nd rfl (Or.inl rfl) (bz bF mIC (bz gv mIC (bz cQ mI (bz bF mIC (bE (ah (K:=K) rfl) mIx (qv 3) (bz bF mIC (qv 6) (dw (fB (K:=K) rfl) fA rfl B.len PySem.boot_len (aa (qv 3) ac))) (λ_ _=>rfl)) ag) (qv 8)) ag) ag))
   (am (aA (i:=9) aO.nd rfl (Or.inl rfl) (bz bF mIC (bz cQ mI (bz gv mIC (qv 9) (qv 9)) (bz gv mIC ag (qv 6))) ag))
   (ae (eX (qV 4 (K:=K) rfl rfl (bz bF mIC (bz gv mIC (qv 9) (qv 9)) ag))))))))
   (ae (aD (qv 4))))))),λss R h=>?_⟩)
 ·obtain⟨ns,t,m,rfl,_⟩:=h
  rfl
 obtain⟨ns,t,m,rfl,n,G,I,q⟩:=h
 walk_at "dx"
 rw[Gc ns n]
 have y:li ns++[PyData.int (t:Int)]=li (ns++[(t:Int)]):=by simp
 rw[y]
 obtain⟨cs,l⟩:∃ cs:List Int,cs=ns++[(t:Int)]:=⟨_,rfl⟩
 have u:cs.length=ns.length+1:=by rw[l];simp
 rw[<-l]
 refine⟨by decide,?_,?_⟩
 ·rw[HC]
  exact HQ (by omega) au
 walk_at "dx"
 refine⟨by decide,?_⟩
 walk_at "dx"
 refine⟨_,eu (k:=0) (by omega),?_⟩
 walk_at "dx"
 refine⟨⟨by decide,by decide⟩,by decide,dO (λ_=>?_) (λ_=>?_)⟩
 ·refine cT (λi=>.int (cs.getD i 0 / 100000)) (by rw[HC];omega) (λi hi Q z=>?_) ?_
  ·rw[cR]
   walk_at "dx"
   exact⟨⟨by decide,by decide⟩,z⟩
  walk_at "dx"
  have C:(List.range (li cs).length).map (λi=>PyData.int (cs.getD i 0 / 100000))=li ((List.range cs.length).map λi=>cs.getD i 0 / 100000):=by
   rw[HC]
   show _=List.map _ (List.map _ _)
   rw[Ip]
   rfl
  rw[C]
  refine⟨by omega,by omega,a8 (λi env=>∃ (fs d:List Int) (kv o:Sl),env=[.fr (.list (li ns)),.fr (.int t),.fr (.int m),.fr (.list (li cs)),.ow (li fs),.ow (li d),kv,o,.un,.un]/\d.length=cs.length/\Dr (i - t) fs) ⟨[],_,_,_,rfl,by simp,⟨by simp,λx hx=>by cases hx⟩⟩ ?_ ?_⟩
  ·rintro i env hi ⟨fs,d,kv,o,rfl,v,g⟩
   rw[aw] at hi
   rw[aY]
   have e:i % d.length<d.length:=Ja _ (by omega)
   have hk:i - t<=5000:=by omega
   walk_at "dx"
   rw[HC]
   have p:((i:Nat):Int) % ((d.length:Nat):Int)=((i % d.length:Nat):Int):=rfl
   refine⟨by omega,nx ?_⟩
   refine⟨λenv'=>∃ j:List Int,env'=[.fr (.list (li ns)),.fr (.int t),.fr (.int m),.fr (.list (li cs)),.ow (li j),.ow (li d),.fr (.int i),.fr (.int ((i % d.length:Nat):Int)),.un,.un]/\Dr (i+1 - t) j,?_,?_⟩
   ·rw[p]
    walk_at "dx"
    refine dO (λc=>?_) (λc=>?_)
    ·refine⟨_,eu e,?_⟩
     walk_at "dx"
     refine⟨by decide,by rw[HC,g.1];exact HV (by omega) au,fs++[d.getD (i % d.length) 0 % 2147483587],by simp,?_⟩
     have:=g.app (IY (d.getD (i % d.length) 0) (by decide:(2147483587:Int)≠0)) (IF _ (by decide))
     rwa [show i+1 - t=i - t+1 by omega]
    ·refine⟨fs,rfl,?_⟩
     rwa [show i+1 - t=i - t by omega]
   ·rintro env' ⟨j,rfl,r⟩
    walk_at "dx"
    refine⟨_,eu e,?_⟩
    walk_at "dx"
    exact⟨⟨by decide,Bg.of (by decide) (by decide)⟩,_,by rw[HC];exact A3 e,j,rfl,d.set (i % d.length) (d.getD (i % d.length) 0 / 2147483587),Dl _ _ _,by rw[List.length_set];exact v,r⟩
  ·rintro env ⟨fs,d,kv,o,rfl,v,g⟩
   rw[aw] at g
   walk_at "dx"
   exact q fs (by rwa [show((t:Int)+(m:Int)).toNat - t=m by omega] at g)
 ·walk_at "dx"
  refine⟨by omega,by omega,a8 (λi env=>∃ (fs:List Int) (kv pv nv:Sl),env=[.fr (.list (li ns)),.fr (.int t),.fr (.int m),.ow (li cs),.ow (li fs),.un,kv,.un,pv,nv]/\Dr i fs) ⟨[],_,_,_,rfl,rfl,λx hx=>by cases hx⟩ ?_ ?_⟩
  ·rintro i env hi ⟨fs,kv,pv,nv,rfl,g⟩
   rw[aw] at hi
   rw[aY]
   have hi:i<m:=by omega
   have e:i % cs.length<cs.length:=Ja _ (by omega)
   walk_at "dx"
   refine⟨jy (by omega) (by omega),yW (by decide) (by decide),?_⟩
   walk_at "dx"
   rw[HC]
   have p:((i:Nat):Int) % ((cs.length:Nat):Int)=((i % cs.length:Nat):Int):=rfl
   rw[p]
   refine⟨by omega,_,eu e,?_⟩
   walk_at "dx"
   generalize (cs.getD (i % cs.length) 0 % 2147483647+(((i:Int)+t)*(i+t)*7919+104729))*48271=a
   have J:=IY a (by decide:(2147483647:Int)≠0)
   have a1:=IF a (by decide:(0:Int)<2147483647)
   generalize a % 2147483647=a at *
   refine⟨by decide,yW (by decide) (by decide),by decide,?_⟩
   walk_at "dx"
   have L:=IY (a*a+69621*i) (by decide:(2147483629:Int)≠0)
   have M:=IF (a*a+69621*i) (by decide:(0:Int)<2147483629)
   generalize (a*a+69621*i) % 2147483629=b at *
   refine⟨jy (by omega) (by omega),jy (by decide) (by decide),by decide,?_⟩
   walk_at "dx"
   refine⟨jy (by omega) (by omega),by decide,by rw[HC,g.1];exact HV (by omega) au,fs++[b*b % 2147483587],by simp,g.app (IY _ (by decide)) (IF _ (by decide))⟩
  ·rintro env ⟨fs,kv,pv,nv,rfl,g⟩
   rw[aw] at g
   walk_at "dx"
   exact q fs (by simpa using g)
noncomputable abbrev eH:Stmt:=top 41
theorem mU:ao ["_law_draws_here"] ["_law_draws_here"] (ad eH):=⟨rfl,rfl,rfl,by decide +kernel,rfl,by decide +kernel,by decide +kernel⟩
noncomputable def Ad (ds:List Int):Int:=ds.getLastD 0
noncomputable def Cu:DSp:=λss R=>∃ ds:List Int,ss=[.io (li ds)]/\R (.fr (.int (Ad ds))) [.io (li ds.dropLast)]
theorem D3 (a b:List Int):PyData.eqv (.list (li a)) (.list (li b))=decide (a=b):=Bf a b
theorem AO {ds:List Int} (h:ds≠[]):(li ds).getLast? = some (.int (Ad ds)):=by
 unfold Ad
 rw[List.getLast?_map,List.getLastD_eq_getLast?]
 cases e:ds.getLast? with
 | none=>exact absurd (List.getLast?_eq_none_iff.mp e) h
 | some x=>rfl
theorem Bq (ds:List Int):(li ds).dropLast=li ds.dropLast:=by simp[List.map_dropLast]
theorem og {f:Addr}{fd:k0} (F:Fun K "_law_pop" "_law_pop" eH f fd):a9 K fd ["_law_draws_here"] []:=F.binds (ps:=["_law_draws_here"]) λ_ _ _ _ _ _ us a=>us1 (Q:=λus=>ze _ ⟨us,[]⟩=pure (List.zip _ us)) a λ_=>rfl
theorem nB {f:Addr}{fd:k0} (F:Fun K "_law_pop" "_law_pop" eH f fd) (B:Bn mg):bR P w K mg base CX0 1 f fd ["_law_draws_here"] (spD K Cu):=by
 refine okD (k:=0) F mU (λss R h=>?_) (by decide) (λcdv A outer s H E a=>⟨_,(aj (eW (aJ (GD (K:=K) rfl a.units) mEq (qv 0) (eP ac) (aE _)) (ae (aD ag)) aW)
   (ae (aD (CO 0 (K:=K) rfl rfl)))),λss R h=>?_⟩)
 ·obtain⟨ds,rfl,_⟩:=h
  rfl
 obtain⟨ds,rfl,q⟩:=h
 walk_at "dd"
 refine⟨Ig _,(Sh.ints 0 ds).shp (by decide),(Sh.ints 0 []).shp (by decide),?_⟩
 rw[show PyData.list []=PyData.list (li []) from rfl,D3]
 by_cases e:ds=[]
 ·subst e
  rw[if_pos (by simp)]
  exact q
 ·rw[if_neg (by simp[e])]
  exact⟨_,AO e,by rw[Bq];exact q⟩
theorem Em (ns:List Int) (a b:Option Int):mh (li ns) a b=li ((ns.drop (HT.sIx ns.length 0 a)).take (HT.sIx ns.length ns.length b - HT.sIx ns.length 0 a)):=by
 unfold mh
 show(List.drop _ (List.map PyData.int ns)).take _=List.map PyData.int _
 rw[HC,List.map_take,List.map_drop]
theorem xq (ns:List Int) (c:Nat):mh (li ns) (some (c:Int)) none=li (ns.drop c):=by
 rw[Em,HT.sIx_none,HT.sIx_nat]
 by_cases h:c<=ns.length
 ·rw[JU h,IZ (by simp)]
 ·rw[JM (by omega),IL (HK _),IL (by omega)]
  simp
theorem dZ {l:List (List Int)}{k:Nat} (h:k<l.length):l.getD k []∈l:=by
 rw[HB,Hz h]
 exact Ih h
noncomputable def jD:Nat->List (List Int)
 | 0=>[[]]
 | k+1=>jD k++(jD k).map (·++[(k:Int)])
noncomputable def jx (l:List Int) (n:Nat):List Int:=((List.range n).filter λi=>decide (l.getD i 0=1)).map (Nat.cast:Nat->Int)
noncomputable def gh (h:Int) (a r:List Int):Bool:=decide ((r.length:Int)<=h)&&decide ((a.filter λc=>decide (c ∉ r))=[])
noncomputable def cp (n:Nat) (h:Int) (l:List Int):List (List Int):=(jD n).filter (gh h (jx l n))
theorem jC:∀ n,(jD n).length=2 ^ n
 | 0=>rfl
 | n+1=>by
  show(jD n++(jD n).map _).length=_
  rw[Ie,HC,jC n,Nat.pow_succ]
  omega
theorem b7:∀ n,∀ r∈jD n,r.length<=n/\r.Pairwise (·<·)/\∀ x∈r,0<=x/\x<n
 | 0,r,h=>by
  rw[HD.mp h]
  simp
 | n + 1,r,h=>by
  rcases HF.mp h with h|h
  ·obtain⟨a,b,c⟩:=b7 n r h
   exact⟨by omega,b,λx hx=>by have:=c x hx;omega⟩
  ·obtain⟨d,h',rfl⟩:=HS.mp h
   obtain⟨a,b,c⟩:=b7 n d h'
   refine⟨by simp;omega,List.pairwise_append.mpr ⟨b,by simp,λx hx y e=>?_⟩,λx hx=>?_⟩
   ·rw[HD.mp e]
    have:=c x hx
    omega
   ·rcases HF.mp hx with hx|hx
    ·have:=c x hx;omega
    ·rw[HD.mp hx];omega
theorem gE {α:Type}{p q:α->Bool} (h:∀ x,p x=true->q x=true):∀ l:List α,(l.filter p).length<=(l.filter q).length
 | []=>HK _
 | x :: l=>by
  have b:=gE h l
  by_cases a:p x=true
  ·rw[II a,II (h x a)]
   simpa using b
  ·rw[Jl a]
   by_cases c:q x=true
   ·rw[II c];simp;omega
   ·rw[Jl c];exact b
theorem uB {n:Nat}{h:Int}{l:List Int} (hn:n<=6) (d:n<=4\/h<=3):(cp n h l).length<64:=by
 rcases d with e|h2
 ·have a:=Jd (gh h (jx l n)) (jD n)
  rw[jC] at a
  have:2 ^ n<=2 ^ 4:=Jh (by decide) e
  unfold cp
  omega
 ·have a:(cp n h l).length<=((jD n).filter λr=>decide (r.length<=3)).length:=gE (λr c=>by
   unfold gh at c
   rw[HX,decide_eq_true_eq] at c
   rw[decide_eq_true_eq]
   omega) _
  have b:∀ n:Nat,n<=6->((jD n).filter λr=>decide (r.length<=3)).length<=42:=by
   intro n hn
   match n,hn with
   | 0,_=>decide
   | 1,_=>decide
   | 2,_=>decide
   | 3,_=>decide
   | 4,_=>decide
   | 5,_=>decide +kernel
   | 6,_=>decide +kernel
  have:=b n hn
  omega
theorem cg {l:List Int}{k:Nat} (h:k<l.length):l.getD k 0∈l:=by
 rw[HB,Hz h]
 exact Ih h
noncomputable def StB (s o:List Int) (d:Nat) (l:List Int):Prop:=d<o.length/\l.length=s.length
noncomputable def kF (s l r:List Int) (n:Nat):List Int:=(List.range n).map λ(i:Nat)=>if (i:Int)∈r then s.getD i 0 else l.getD i 0 - 1
theorem gX (s l r:List Int) (n:Nat):(kF s l r n).length=n:=by simp[kF]
theorem vz {xs ys:List PyData}{i:Nat} (h:i<(kI xs ys).length):(kI xs ys)[i]=.tuple [xs[i]'(by rw[bC] at h;omega),ys[i]'(by rw[bC] at h;omega)]:=by
 simp[kI]
theorem fS (g:Nat->Bool) (L:List Nat):L.map (λi=>PyData.bool (g i))=(L.map g).map PyData.bool:=by rw[Ip];rfl
noncomputable def jo (r:List Int):Bool:=((List.range (r.length - 1)).map λi=>decide (r.getD i 0<r.getD (i+1) 0)).all id
noncomputable def EC (n:Nat) (r:List Int):Bool:=((List.range r.length).map λi=>decide (0<=r.getD i 0)&&decide (r.getD i 0<n)).all id
noncomputable def ii (n:Nat) (r:List Int):Bool:=jo r&&EC n r
noncomputable abbrev eD:Stmt:=top 29
theorem ll:ao ["row", "clocks", "rising"] ["row", "clocks"] (ad eD):=⟨rfl,rfl,rfl,by decide +kernel,rfl,by decide +kernel,by decide +kernel⟩
noncomputable def sJ:DSp:=λss R=>∃ (r:List Int) (n:Nat),ss=[.fr (.list (li r)),.fr (.int n)]/\r.length<=1000/\R (.fr (.bool (ii n r))) [.un,.un]
theorem u8 {f:Addr}{fd:k0} (F:Fun K "is_row" "is_row" eD f fd):a9 K fd ["row", "clocks"] []:=F.binds (ps:=["row", "clocks"]) λ_ _ _ _ _ _ us a=>us2 (Q:=λus=>ze _ ⟨us,[]⟩=pure (List.zip _ us)) a λ_ _=>rfl
theorem t9 {f:Addr}{fd:k0} (F:Fun K "is_row" "is_row" eD f fd) (B:Bn mg):bR P w K mg base CX0 1 f fd ["row", "clocks"] (spD K sJ):=by
 refine okD (k:=0) F ll (λss R h=>?_) (by decide) (λcdv A outer s H E g=>⟨_,(aj (aA (i:=2) ll.nd rfl (Or.inl rfl) (dw (BY (K:=K) rfl rfl) BX rfl B.all PyProof.Rows.boot_all (aa (cO (N':=["one", "other"]) (ix:=[none,none]) rfl (dq (N:=["row", "clocks", "rising"]) (sc0:=ad eD) rfl rfl (by decide +kernel)) (s9 false false (K:=K) rfl rfl B.zip (aa (qf 0) (aa (m4 (K:=K) rfl (qv 0) (fb ag) fe) ac))) (λ_ _ _ _=>(dS (K:=K) (n:=2) rfl rfl (aK (ak (i:=0) (show List.Nodup (["one", "other"]:List Str) by decide +kernel) rfl (Or.inl rfl)) (aK (ak (i:=1) (show List.Nodup (["one", "other"]:List Str) by decide +kernel) rfl (Or.inl rfl)) cC)))) (λ_ _ _ _=>bI) (λ_ _ _ _=>(m8 jR mB (qv 0) (qv 1) (aE _)))) ac)))
   (ae (aD (vQ (qv 2) (zV (dw (BY (K:=K) rfl rfl) BX rfl B.all PyProof.Rows.boot_all (aa (cO (N':=["clock", "clocks"]) (ix:=[none,some 1]) rfl (dq (N:=["row", "clocks", "rising"]) (sc0:=ad eD) rfl rfl (by decide +kernel)) (bJ (K:=K) rfl (qf 0)) (λ_ _ _ _=>(ak (i:=0) (show List.Nodup (["clock", "clocks"]:List Str) by decide +kernel) rfl (Or.inl rfl))) (λ_ _ _ _=>bI) (λ_ _ _ _=>(jO nr mB jR mB ag (qv 0) (qv 1)))) ac))))))),λss R h=>?_⟩)
 ·obtain⟨r,n,rfl,_⟩:=h
  rfl
 obtain⟨r,n,rfl,h1,q⟩:=h
 walk_at "dd"
 rw[show(some (1:Int))=some ((1:Nat):Int) from rfl,xq]
 refine cT (λi=>.bool (decide (r.getD i 0<r.getD (i+1) 0))) (by rw[bC,HC];omega) (λi hi Q a=>?_) ?_
 ·rw[vz,cR,cR]
  rw[bC,HC,HC,Jn] at hi
  have e:(r.drop 1).getD i 0=r.getD (i+1) 0:=by simp[HB,List.getElem?_drop,Nat.add_comm]
  rw[e]
  walk_at "dd"
  exact a
 rw[fS,bC,HC,HC,Jn,JM (Nat.sub_le _ _)]
 walk_at "dd"
 have e:((List.range (r.length - 1)).map λi=>decide (r.getD i 0<r.getD (i+1) 0)).all id=jo r:=rfl
 simp only[e]
 unfold ii at q
 generalize jo r=b at *
 refine dO (λc=>?_) (λc=>?_)
 ·refine cT (λi=>.bool (decide (0<=r.getD i 0)&&decide (r.getD i 0<n))) (by rw[HC];omega) (λi hi Q a=>?_) ?_
  ·rw[cR]
   walk_at "dd"
   refine dO (λd=>?_) (λd=>?_)
   ·rw[decide_eq_true d,Bool.true_and] at a
    exact a
   ·rw[decide_eq_false d,JZ] at a
    exact a
  rw[fS,HC]
  walk_at "dd"
  rw[c,Bool.true_and] at q
  exact q
 ·rw[Bool.not_eq_true] at c
  rw[c,JZ] at q
  exact q
noncomputable def Bp (l r:List Int):Bool:=(((List.range l.length).filter λi=>decide (l.getD i 0=1)).map λ(i:Nat)=>decide ((i:Int)∈r)).all id
noncomputable def ud (s o l r:List Int) (d:Nat):Bool:=ii s.length r&&(decide ((r.length:Int)<=o.getD d 0)&&Bp l r)
noncomputable abbrev eF:Stmt:=top 27
theorem mS:ao ["town", "standing"] ["town", "standing"] (ad eF):=⟨rfl,rfl,rfl,by decide +kernel,rfl,by decide +kernel,by decide +kernel⟩
noncomputable def h8:DSp:=λss R=>∃ (s o l:List Int) (d:Nat),ss=[.fr (.tuple [.list (li s),.list (li o)]),.fr (.tuple [.int d,.tuple (li l)])]/\d<o.length/\R (.fr (.int (o.getD d 0))) [.un,.un]
theorem nZ {f:Addr}{fd:k0} (F:Fun K "hands_on" "hands_on" eF f fd):a9 K fd ["town", "standing"] []:=F.binds (ps:=["town", "standing"]) λ_ _ _ _ _ _ us a=>us2 (Q:=λus=>ze _ ⟨us,[]⟩=pure (List.zip _ us)) a λ_ _=>rfl
theorem nz {f:Addr}{fd:k0} (F:Fun K "hands_on" "hands_on" eF f fd) (B:Bn mg):bR P w K mg base CX0 1 f fd ["town", "standing"] (spD K h8):=by
 refine okD (k:=0) F mS (λss R h=>?_) (by decide) (λcdv A outer s H E a=>⟨_,(ae (aD (bE (ah (K:=K) rfl) mIx (bE (ah (K:=K) rfl) mIx (qv 0) ag (λ_ _=>rfl)) (bE (ah (K:=K) rfl) mIx (qv 1) ag (λ_ _=>rfl)) (λ_ _=>rfl)))),λss R h=>?_⟩)
 ·obtain⟨s,o,l,d,rfl,_⟩:=h
  rfl
 obtain⟨s,o,l,d,rfl,hd,q⟩:=h
 walk_at "dd"
 exact⟨_,eu hd,q⟩
noncomputable abbrev c9:Stmt:=top 30
theorem mR:ao ["town", "standing", "row"] ["town", "standing", "row"] (ad c9):=⟨rfl,rfl,rfl,by decide +kernel,rfl,by decide +kernel,by decide +kernel⟩
noncomputable def kZ:DSp:=λss R=>∃ (s o l r:List Int) (d:Nat),ss=[.fr (.tuple [.list (li s),.list (li o)]),.fr (.tuple [.int d,.tuple (li l)]),.fr (.list (li r))]/\d<o.length/\l.length<=1000/\r.length<=1000/\R (.fr (.bool (ud s o l r d))) [.un,.un,.un]
theorem nX {f:Addr}{fd:k0} (F:Fun K "may_wind" "may_wind" c9 f fd):a9 K fd ["town", "standing", "row"] []:=F.binds (ps:=["town", "standing", "row"]) λ_ _ _ _ _ _ us a=>us3 (Q:=λus=>ze _ ⟨us,[]⟩=pure (List.zip _ us)) a λ_ _ _=>rfl
theorem nw {f:Addr}{fd:k0} (F:Fun K "may_wind" "may_wind" c9 f fd) (B:Bn mg) (c:Cal P w K mg base "is_row" 1 (spD K sJ)) (a:Cal P w K mg base "hands_on" 1 (spD K h8)):bR P w K mg base CX0 2 f fd ["town", "standing", "row"] (spD K kZ):=by
 refine okD (k:=1) F mR (λss R h=>?_) (by decide) (λcdv A outer s H E g=>⟨_,(aj (eW (PW.pt (iY (df (cN (aG c (g.mono (by decide)) rfl (aa (qf 2) (aa (dw (fB (K:=K) rfl) fA rfl B.len PySem.boot_len (aa (bE (ah (K:=K) rfl) mIx (qv 0) ag (λ_ _=>rfl)) ac)) ac))))) (fP (aJ tZ mB (dw (fB (K:=K) rfl) fA rfl B.len PySem.boot_len (aa (qv 2) ac)) (aG a (g.mono (by decide)) rfl (aa (qf 0) (aa (qf 1) ac))) (aE _))))) (ae (aD gK)) aW)
   (ae (aD (dw (BY (K:=K) rfl rfl) BX rfl B.all PyProof.Rows.boot_all (aa (cO (N':=["clock", "left", "row"]) (ix:=[none,none,some 2]) rfl (dq (N:=["town", "standing", "row"]) (sc0:=ad c9) rfl rfl (by decide +kernel)) (fZ true (K:=K) rfl rfl B.enumerate (aa (bE (ah (K:=K) rfl) mIx (qv 1) ag (λ_ _=>rfl)) ac)) (λ_ _ _ _=>(dS (K:=K) (n:=2) rfl rfl (aK (ak (i:=0) (show List.Nodup (["clock", "left", "row"]:List Str) by decide +kernel) rfl (Or.inl rfl)) (aK (ak (i:=1) (show List.Nodup (["clock", "left", "row"]:List Str) by decide +kernel) rfl (Or.inl rfl)) cC)))) (λ_ _ _ _=>(ik (aJ nt AJ (qv 1) ag (aE _)))) (λ_ _ _ _=>(m8 (kIn (K:=K) rfl) mIn (qv 0) (qv 2) (by with_unfolding_all rfl)))) ac))))),λss R h=>?_⟩)
 ·obtain⟨s,o,l,r,d,rfl,_⟩:=h
  rfl
 obtain⟨s,o,l,r,d,rfl,hd,p,j,q⟩:=h
 walk_at "dd"
 rw[HC]
 refine⟨r,s.length,rfl,by omega,?_⟩
 walk_at "dd"
 unfold ud at q
 generalize ii s.length r=b at *
 refine dO (λe=>?_) (λe=>?_)
 ·have e:b=false:=by simpa using e
  rw[e,JZ] at q
  exact q
 have e:b=true:=by simpa using e
 rw[e,Bool.true_and] at q
 refine⟨s,o,l,d,rfl,hd,?_⟩
 walk_at "dd"
 rw[HC]
 refine dO (λm=>?_) (λm=>?_)
 ·rw[decide_eq_false (by omega),JZ] at q
  exact q
 rw[decide_eq_true (by omega),Bool.true_and] at q
 refine d7 (λi=>decide (l.getD i 0=1)) (λi=>.bool (decide ((i:Int)∈r))) (by rw[aL,HC];omega) (λi hi Q t h1 h2=>?_) ?_
 ·rw[aL,HC] at hi
  rw[cE,cR]
  walk_at "dd"
  exact dO (λh=>h1 (by simpa using h)) (λh=>h2 (by simpa using h))
 rw[fS,aL,HC]
 walk_at "dd"
 exact q
noncomputable abbrev fM:Stmt:=top 31
theorem ig:ao ["town", "standing", "row", "spans", "lefts"] ["town", "standing", "row"] (ad fM):=⟨rfl,rfl,rfl,by decide +kernel,rfl,by decide +kernel,by decide +kernel⟩
noncomputable def jF:DSp:=λss R=>∃ (s o l r:List Int) (d:Nat),ss=[.fr (.tuple [.list (li s),.list (li o)]),.fr (.tuple [.int d,.tuple (li l)]),.fr (.list (li r))]/\1<=o.length/\l.length=s.length/\s.length<=1000/\R (.fr (.tuple [.int (((d+1) % o.length:Nat):Int),.tuple (li (kF s l r s.length))])) [.un,.un,.un]
theorem u9 {f:Addr}{fd:k0} (F:Fun K "behind" "behind" fM f fd):a9 K fd ["town", "standing", "row"] []:=F.binds (ps:=["town", "standing", "row"]) λ_ _ _ _ _ _ us a=>us3 (Q:=λus=>ze _ ⟨us,[]⟩=pure (List.zip _ us)) a λ_ _ _=>rfl
theorem ua {f:Addr}{fd:k0} (F:Fun K "behind" "behind" fM f fd) (B:Bn mg):bR P w K mg base CX0 1 f fd ["town", "standing", "row"] (spD K jF):=by
 refine okD (k:=0) F ig (λss R h=>?_) (by decide) (λcdv A outer s H E c=>⟨_,(am (aA (i:=3) ig.nd rfl (Or.inr rfl) (bE (ah (K:=K) rfl) mIx (qv 0) ag (λ_ _=>rfl)))
   (am (dU (i:=4)  ig.nd rfl rfl (N':=["clock", "left", "row", "spans"]) (ix:=[none,none,some 2,some 3]) rfl (dq (N:=["town", "standing", "row", "spans", "lefts"]) (sc0:=ad fM) rfl rfl (by decide +kernel)) (fZ true (K:=K) rfl rfl B.enumerate (aa (bE (ah (K:=K) rfl) mIx (qv 1) ag (λ_ _=>rfl)) ac)) (λ_ _ _ _=>(dS (K:=K) (n:=2) rfl rfl (aK (ak (i:=0) (show List.Nodup (["clock", "left", "row", "spans"]:List Str) by decide +kernel) rfl (Or.inl rfl)) (aK (ak (i:=1) (show List.Nodup (["clock", "left", "row", "spans"]:List Str) by decide +kernel) rfl (Or.inl rfl)) cC)))) (λ_ _ _ _=>bI) (λ_ _ _ _=>(tq (aJ (kIn (K:=K) rfl) mIn (qv 0) (qv 2) (by with_unfolding_all rfl)) (bE (ah (K:=K) rfl) mIx (qv 3) (qv 0) (λ_ _=>rfl)) (bz jq mI (qv 1) ag))))
   (ae (aD (gJ (aa (bz bF mIC (bz cQ mI (bE (ah (K:=K) rfl) mIx (qv 1) ag (λ_ _=>rfl)) ag) (dw (fB (K:=K) rfl) fA rfl B.len PySem.boot_len (aa (bE (ah (K:=K) rfl) mIx (qv 0) ag (λ_ _=>rfl)) ac))) (aa (tm (K:=K) rfl rfl B.tuple (aa (qv 4) ac)) ac))))))),λss R h=>?_⟩)
 ·obtain⟨s,o,l,r,d,rfl,_⟩:=h
  rfl
 obtain⟨s,o,l,r,d,rfl,ho,b,g,q⟩:=h
 walk_at "dx"
 refine cT (λi=>.int (if (i:Int)∈r then s.getD i 0 else l.getD i 0 - 1)) (by rw[aL,HC];omega) (λi hi Q a=>?_) ?_
 ·rw[aL,HC] at hi
  rw[cE,cR]
  walk_at "dx"
  refine dO (λh=>?_) (λh=>?_)
  ·rw[if_pos h] at a
   exact⟨_,eu (by omega),a⟩
  ·rw[if_neg h] at a
   exact a
 have e:(List.range (kj (li l)).length).map (λi:Nat=>PyData.int (if (i:Int)∈r then s.getD i 0 else l.getD i 0 - 1))=li (kF s l r s.length):=by
  rw[aL,HC,b]
  show _=List.map _ (List.map _ _)
  rw[Ip]
  rfl
 rw[e]
 walk_at "dx"
 rw[HC]
 exact⟨by omega,HQ (by decide) au,q⟩
noncomputable abbrev jL:Stmt:=top 26
theorem vM:ao ["town"] ["town"] (ad jL):=⟨rfl,rfl,rfl,by decide +kernel,rfl,by decide +kernel,by decide +kernel⟩
noncomputable def mQ:DSp:=λss R=>∃ (s o:List Int),ss=[.fr (.tuple [.list (li s),.list (li o)])]/\R (.fr (.tuple [.int 0,.tuple (li s)])) [.un]
theorem xG {f:Addr}{fd:k0} (F:Fun K "begun" "begun" jL f fd):a9 K fd ["town"] []:=F.binds (ps:=["town"]) λ_ _ _ _ _ _ us a=>us1 (Q:=λus=>ze _ ⟨us,[]⟩=pure (List.zip _ us)) a λ_=>rfl
theorem wg {f:Addr}{fd:k0} (F:Fun K "begun" "begun" jL f fd) (B:Bn mg):bR P w K mg base CX0 1 f fd ["town"] (spD K mQ):=by
 refine okD (k:=0) F vM (λss R h=>?_) (by decide) (λcdv A outer s H E a=>⟨_,(ae (aD (gJ (aa ag (aa (tm (K:=K) rfl rfl B.tuple (aa (bE (ah (K:=K) rfl) mIx (qv 0) ag (λ_ _=>rfl)) ac)) ac))))),λss R h=>?_⟩)
 ·obtain⟨s,o,rfl,_⟩:=h
  rfl
 obtain⟨s,o,rfl,q⟩:=h
 walk_at "dd"
 exact⟨HQ (by decide) au,q⟩
noncomputable def ui (s l:List Int) (rows:List (List Int)):Nat->List Int
 | 0=>l
 | i+1=>kF s (ui s l rows i) (rows.getD i []) s.length
theorem pF {s l:List Int} (h:l.length=s.length) (rows:List (List Int)):∀ i,(ui s l rows i).length=s.length
 | 0=>h
 | i+1=>gX _ _ _ _
noncomputable def nI (s o l:List Int) (rows:List (List Int)) (i:Nat):Bool:=ud s o (ui s l rows i) (rows.getD i []) (i % o.length)
noncomputable abbrev o6:Stmt:=top 32
theorem ie:ao ["town", "standing", "rows", "here", "number", "row"] ["town", "standing", "rows"] (ad o6):=⟨rfl,rfl,rfl,by decide +kernel,rfl,by decide +kernel,by decide +kernel⟩
noncomputable def xX:DSp:=λss R=>∃ (s o l:List Int) (rows:List (List Int)),ss=[.fr (.tuple [.list (li s),.list (li o)]),.fr (.tuple [.int 0,.tuple (li l)]),.fr (.list (lr rows))]/\1<=o.length/\l.length=s.length/\s.length<=1000/\(∀ r∈rows,r.length<=1000) /\
 (∀ i,i<rows.length->nI s o l rows i=true)/\∀ d,R (.fr d) [.un,.un,.un]
theorem BM {f:Addr}{fd:k0} (F:Fun K "gone" "gone" o6 f fd):a9 K fd ["town", "standing", "rows"] []:=F.binds (ps:=["town", "standing", "rows"]) λ_ _ _ _ _ _ us a=>us3 (Q:=λus=>ze _ ⟨us,[]⟩=pure (List.zip _ us)) a λ_ _ _=>rfl
theorem Ay {f:Addr}{fd:k0} (F:Fun K "gone" "gone" o6 f fd) (B:Bn mg) (c:Cal P w K mg base "may_wind" 2 (spD K kZ)) (d:Cal P w K mg base "behind" 1 (spD K jF)):bR P w K mg base CX0 4 f fd ["town", "standing", "rows"] (spD K xX):=by
 refine okD (k:=3) F ie (λss R h=>?_) (by decide) (λcdv A outer s H E r=>⟨_,(aj (aA (i:=3) ie.nd rfl (Or.inl rfl) (qf 1))
   (aj (dW PassesOwn.never rfl (fZ false (K:=K) rfl rfl B.enumerate (aa (qf 2) ac)) (dS (K:=K) (n:=2) rfl rfl (aK (ak (i:=4) ie.nd rfl (Or.inl rfl)) (aK (ak (i:=5) ie.nd rfl (Or.inl rfl)) cC))) (aj (eW (df (cN (aG c (r.mono (by decide)) rfl (aa (qf 0) (aa (qf 3) (aa (qf 5) ac)))))) (ae zW) aW)
   (ae (aA (i:=3) ie.nd rfl (Or.inl rfl) (aG d (r.mono (by decide)) rfl (aa (qf 0) (aa (qf 3) (aa (qf 5) ac))))))))
   (ae (aD (qv 3))))),λss R h=>?_⟩)
 ·obtain⟨s,o,l,rows,rfl,_⟩:=h
  rfl
 obtain⟨s,o,l,rows,rfl,ho,u,v,j,g,q⟩:=h
 walk_at "dd"
 refine a8 (λi env=>i<=rows.length/\∃ (a b:Sl),env=[.fr (.tuple [.list (li s),.list (li o)]),.fr (.tuple [.int 0,.tuple (li l)]),.fr (.list (lr rows)),.fr (.tuple [.int ((i % o.length:Nat):Int),.tuple (li (ui s l rows i))]),a,b]) ⟨by omega,_,_,by rw[Nat.zero_mod];rfl⟩ ?_ ?_
 ·rintro i env hi ⟨m,a,b,rfl⟩
  rw[aL,HC] at hi
  rw[cE,lG]
  have x:=j _ (dZ (l:=rows) hi)
  have p:=pF u rows i
  walk_at "dd"
  refine⟨s,o,ui s l rows i,rows.getD i [],i % o.length,rfl,Ja _ (by omega),by omega,x,?_⟩
  walk_at "dd"
  have e:ud s o (ui s l rows i) (rows.getD i []) (i % o.length)=true:=g i hi
  rw[e]
  refine dO (λt=>by simp at t) (λt=>?_)
  refine⟨s,o,ui s l rows i,rows.getD i [],i % o.length,rfl,ho,p,v,?_⟩
  walk_at "dd"
  refine⟨by omega,?_⟩
  rw[Nat.mod_add_mod]
  exact⟨rfl,rfl⟩
 ·rintro env ⟨m,a,b,rfl⟩
  walk_at "dd"
  exact q _
noncomputable def bj (P:Nat->Bool):Nat->Int
 | 0=>-1
 | t+1=>if P t=true then (t:Int) else bj P t
theorem j5 (P:Nat->Bool):∀ t:Nat,bj P t<(t:Int)/\-1<=bj P t
 | 0=>by unfold bj;omega
 | t+1=>by
  have:=j5 P t
  unfold bj
  split <;> omega
theorem dj (P:Nat->Bool):∀ (t u:Nat),bj P t<(u:Int)->u<t->P u=false
 | 0,u,_,h=>by omega
 | t + 1,u,h1,h2=>by
  unfold bj at h1
  split at h1
  ·omega
  ·rename_i h
   by_cases a:u=t
   ·rw[a];simpa using h
   ·exact dj P t u h1 (by omega)
theorem nJ (P:Nat->Bool):∀ t:Nat,bj P t = -1\/∃ u:Nat,bj P t=(u:Int)/\u<t/\P u=true
 | 0=>.inl rfl
 | t + 1=>by
  unfold bj
  split
  ·rename_i h
   exact .inr ⟨t,rfl,by omega,h⟩
  ·rcases nJ P t with h|⟨u,h1,h2,a⟩
   ·exact .inl h
   ·exact .inr ⟨u,h1,by omega,a⟩
theorem AR {P:Nat->Bool}{t:Nat}{p:Int} (d:p<t) (h1:-1<=p) (h2:p = -1\/P p.toNat=true) (a:∀ u:Nat,p<(u:Int)->u<t->P u=false):bj P t=p:=by
 have e:=j5 P t
 by_cases b:bj P t<p
 ·have f:0<=p:=by omega
  rcases h2 with h2|h2
  ·omega
  ·have:=dj P t p.toNat (by omega) (by omega)
   rw[h2] at this
   cases this
 ·by_cases c:p<bj P t
  ·rcases nJ P t with h|⟨u,e1,e2,e3⟩
   ·omega
   ·have:=a u (by omega) e2
    rw[e3] at this
    cases this
  ·omega
theorem yq {P:Nat->Bool}:∀ (n t:Nat),P (t+n)=true->∃ q,t<=q/\q<=t+n/\P q=true/\∀ u,t<=u->u<q->P u=false
 | 0,t,h=>⟨t,by omega,by omega,h,λu h1 h2=>by omega⟩
 | n + 1,t,h=>by
  by_cases a:P t=true
  ·exact⟨t,by omega,by omega,a,λu h1 h2=>by omega⟩
  ·obtain⟨q,h1,h2,b,c⟩:=yq n (t+1) (by rw[show t+1+n=t+(n+1) by omega];exact h)
   refine⟨q,by omega,by omega,b,λu f d=>?_⟩
   by_cases e:u=t
   ·rw[e];simpa using a
   ·exact c u (by omega) d
noncomputable def Pc (rows:List (List Int)) (c t:Nat):Bool:=decide ((c:Int)∈rows.getD t [])
theorem jr {P Q:Nat->Bool}:∀ t:Nat,(∀ u,u<t->P u=Q u)->bj P t=bj Q t
 | 0,_=>rfl
 | t+1,h=>by
  unfold bj
  rw[h t (by omega),jr t λu a=>h u (by omega)]
theorem eM {s l r:List Int}{n c:Nat} (h:c<n):(kF s l r n).getD c 0=if (c:Int)∈r then s.getD c 0 else l.getD c 0 - 1:=by
 unfold kF
 simp[HB,h]
theorem jZ {s:List Int}{rows:List (List Int)}{c:Nat} (hc:c<s.length):∀ i:Nat,(ui s s rows i).getD c 0=s.getD c 0 - ((i:Int) - bj (Pc rows c) i - 1)
 | 0=>by
  show s.getD c 0=s.getD c 0 - ((0:Nat) - (-1) - 1:Int)
  omega
 | i + 1=>by
  have a:=jZ (rows:=rows) hc i
  show(kF s (ui s s rows i) (rows.getD i []) s.length).getD c 0=_
  have b:bj (Pc rows c) (i+1)=if Pc rows c i=true then (i:Int) else bj (Pc rows c) i:=rfl
  rw[eM hc,a,b]
  by_cases h:(c:Int)∈rows.getD i []
  ·rw[if_pos h,if_pos (show Pc rows c i=true from decide_eq_true h)]
   omega
  ·rw[if_neg h,if_neg (show ¬Pc rows c i=true fromλz=>h (of_decide_eq_true z))]
   omega
noncomputable def A7 (s o:List Int) (rows:List (List Int)) (i:Nat):Bool:=decide (((rows.getD i []).length:Int)<=o.getD (i % o.length) 0)&&(EC s.length (rows.getD i [])&&jo (rows.getD i []))
theorem nO (l r:List Int):Bp l r=true↔∀ c,c<l.length->l.getD c 0=1->(c:Int)∈r:=by
 unfold Bp
 rw[IK]
 constructor
 ·intro h c hc e
  have:=h (decide ((c:Int)∈r)) (HS.mpr ⟨c,Ia.mpr ⟨HW.mpr hc,decide_eq_true e⟩,rfl⟩)
  exact of_decide_eq_true this
 ·intro h x hx
  obtain⟨c,hc,rfl⟩:=HS.mp hx
  obtain⟨h1,h2⟩:=Ia.mp hc
  exact decide_eq_true (h c (HW.mp h1) (of_decide_eq_true h2))
theorem AD {s o:List Int}{rows:List (List Int)}{i:Nat}:nI s o s rows i=true↔A7 s o rows i=true/\∀ c,c<s.length->(i:Int) - bj (Pc rows c) i=s.getD c 0->Pc rows c i=true:=by
 unfold nI ud A7 ii
 rw[HX,HX,HX,HX,HX,nO,pF rfl]
 constructor
 ·rintro⟨⟨h1,h2⟩,a,b⟩
  refine⟨⟨a,h2,h1⟩,λc hc e=>decide_eq_true (b c hc ?_)⟩
  rw[jZ hc]
  omega
 ·rintro⟨⟨a,h2,h1⟩,b⟩
  refine⟨⟨h1,h2⟩,a,λc hc e=>of_decide_eq_true (b c hc ?_)⟩
  rw[jZ hc] at e
  omega
noncomputable def BV (rows:List (List Int)) (c:Nat):Bool:=((List.range rows.length).map λ(i:Nat)=>decide ((c:Int)∈rows.getD i [])).any id
noncomputable def BW (rows:List (List Int)) (n:Nat):Bool:=((List.range n).map λc=>BV rows c).all id
theorem gM {rows:List (List Int)}{c:Nat}:BV rows c=true↔∃ t,t<rows.length/\(c:Int)∈rows.getD t []:=by
 unfold BV
 rw[List.any_eq_true]
 constructor
 ·rintro⟨x,hx,e⟩
  obtain⟨t,a,rfl⟩:=HS.mp hx
  exact⟨t,HW.mp a,of_decide_eq_true e⟩
 ·rintro⟨t,a,e⟩
  exact⟨_,HS.mpr ⟨t,HW.mpr a,rfl⟩,decide_eq_true e⟩
theorem gN {rows:List (List Int)}{n:Nat}:BW rows n=true↔∀ c,c<n->BV rows c=true:=by
 unfold BW
 rw[IK]
 constructor
 ·intro h c hc
  exact h _ (HS.mpr ⟨c,HW.mpr hc,rfl⟩)
 ·intro h x hx
  obtain⟨c,hc,rfl⟩:=HS.mp hx
  exact h c (HW.mp hc)
theorem kD (X Y:List (List Int)) (i:Nat):(X++Y).getD i []=if i<X.length then X.getD i [] else Y.getD (i - X.length) []:=by
 rw[HB,List.getElem?_append,HB,HB]
 split <;> rfl
noncomputable abbrev cy:Stmt:=top 34
theorem lh:ao ["rows", "clocks"] ["rows", "clocks"] (ad cy):=⟨rfl,rfl,rfl,by decide +kernel,rfl,by decide +kernel,by decide +kernel⟩
noncomputable def ji:DSp:=λss R=>∃ (rows:List (List Int)) (n:Nat),ss=[.fr (.list (lr rows)),.fr (.int n)]/\rows.length<=5000/\n<=1000/\R (.fr (.bool (BW rows n))) [.un,.un]
theorem my {f:Addr}{fd:k0} (F:Fun K "winds_all" "winds_all" cy f fd):a9 K fd ["rows", "clocks"] []:=F.binds (ps:=["rows", "clocks"]) λ_ _ _ _ _ _ us a=>us2 (Q:=λus=>ze _ ⟨us,[]⟩=pure (List.zip _ us)) a λ_ _=>rfl
theorem lw {f:Addr}{fd:k0} (F:Fun K "winds_all" "winds_all" cy f fd) (B:Bn mg):bR P w K mg base CX0 1 f fd ["rows", "clocks"] (spD K ji):=by
 refine okD (k:=0) F lh (λss R h=>?_) (by decide) (λcdv A outer s H E b=>⟨_,(ae (aD (dw (BY (K:=K) rfl rfl) BX rfl B.all PyProof.Rows.boot_all (aa (cO (N':=["clock", "rows"]) (ix:=[none,some 0]) rfl (dq (N:=["rows", "clocks"]) (sc0:=ad cy) rfl rfl (by decide +kernel)) (cW rfl B.range (aa (qv 1) ac)) (λ_ _ _ _=>(ak (i:=0) (show List.Nodup (["clock", "rows"]:List Str) by decide +kernel) rfl (Or.inr rfl))) (λ_ _ _ _=>bI) (λ_ _ _ _=>(dw (GF (K:=K) rfl rfl) Gz rfl B.any PyProof.Rows.boot_any (aa (cO (N':=["row", "clock"]) (ix:=[none,some 0]) rfl (Gi (by decide +kernel)) (bJ (K:=K) rfl (qf 1)) (λ_ _ _ _=>(ak (i:=0) (show List.Nodup (["row", "clock"]:List Str) by decide +kernel) rfl (Or.inl rfl))) (λ_ _ _ _=>bI) (λ_ _ _ _=>(m8 (kIn (K:=K) rfl) mIn (qv 1) (qv 0) (by with_unfolding_all rfl)))) ac)))) ac)))),λss R h=>?_⟩)
 ·obtain⟨rows,n,rfl,_⟩:=h
  rfl
 obtain⟨rows,n,rfl,h1,h2,q⟩:=h
 walk_at "dx"
 refine⟨by omega,by omega,cT (λc=>.bool (BV rows c)) (by rw[aw];omega) (λc hc Q a=>?_) ?_⟩
 ·rw[aY]
  walk_at "dx"
  refine cT (λi=>.bool (decide ((c:Int)∈rows.getD i []))) (by rw[HC];omega) (λi hi Q a=>?_) ?_
  ·rw[lG]
   walk_at "dx"
   exact a
  rw[fS,HC]
  walk_at "dx"
  exact a
 rw[fS,aw,IB]
 walk_at "dx"
 exact q
noncomputable def KP (s o:List Int) (A B:List (List Int)):Prop:=1<=B.length/\B.length % o.length=0/\(∀ i,i<A.length+2*B.length->nI s o s (A++B++B) i=true)/\BW B s.length=true
noncomputable def PlB (s o:List Int) (A B:List (List Int)):Prop:=1<=o.length/\s.length<=1000/\A.length<=5000/\B.length<=5000/\(∀ r∈A,r.length<=10)/\∀ r∈B,r.length<=10
noncomputable abbrev jJ:Stmt:=top 35
theorem o5:ao ["town", "plan", "again"] ["town", "plan"] (ad jJ):=⟨rfl,rfl,rfl,by decide +kernel,rfl,by decide +kernel,by decide +kernel⟩
noncomputable def sI:DSp:=λss R=>∃ (s o:List Int) (A B:List (List Int)),ss=[.fr (.tuple [.list (li s),.list (li o)]),.fr (.tuple [.list (lr A),.list (lr B)])]/\PlB s o A B/\KP s o A B/\R (.fr (.bool true)) [.un,.un]
theorem xE {f:Addr}{fd:k0} (F:Fun K "keeps" "keeps" jJ f fd):a9 K fd ["town", "plan"] []:=F.binds (ps:=["town", "plan"]) λ_ _ _ _ _ _ us a=>us2 (Q:=λus=>ze _ ⟨us,[]⟩=pure (List.zip _ us)) a λ_ _=>rfl
theorem wb {f:Addr}{fd:k0} (F:Fun K "keeps" "keeps" jJ f fd) (B:Bn mg) (a:Cal P w K mg base "winds_all" 1 (spD K ji)) (c:Cal P w K mg base "begun" 1 (spD K mQ)) (e:Cal P w K mg base "gone" 4 (spD K xX)):bR P w K mg base CX0 5 f fd ["town", "plan"] (spD K sI):=by
 refine okD (k:=4) F o5 (λss R h=>?_) (by decide) (λcdv A outer s H E b=>⟨_,(am (aA (i:=2) o5.nd rfl (Or.inl rfl) (bE (ah (K:=K) rfl) mIx (qv 1) ag (λ_ _=>rfl)))
   (am (eW (PW.pt (iY (df (pi (K:=K) rfl (qv 2))) (fP (aJ nq AI (bz bF mIC (dw (fB (K:=K) rfl) fA rfl B.len PySem.boot_len (aa (qv 2) ac)) (dw (fB (K:=K) rfl) fA rfl B.len PySem.boot_len (aa (bE (ah (K:=K) rfl) mIx (qv 0) ag (λ_ _=>rfl)) ac))) ag (aE _))))) (ae (aD gK)) aW)
   (am (eW (df (cN (aG a (b.mono (by decide)) rfl (aa (qf 2) (aa (dw (fB (K:=K) rfl) fA rfl B.len PySem.boot_len (aa (bE (ah (K:=K) rfl) mIx (qv 0) ag (λ_ _=>rfl)) ac)) ac))))) (ae (aD gK)) aW)
   (am (zS (λ_ _ z=>z) (ae (eX (aG e (b.mono (by decide)) rfl (aa (qf 0) (aa (aG c (b.mono (by decide)) rfl (aa (qf 0) ac)) (aa (m6 (ff (K:=K) rfl) AK (m6 (ff (K:=K) rfl) AK (bE (ah (K:=K) rfl) mIx (qv 1) ag (λ_ _=>rfl)) (qv 2)) (qv 2)) ac)))))))
   (ae (aD gK)))))),λss R h=>?_⟩)
 ·obtain⟨s,o,A,B,rfl,_⟩:=h
  rfl
 obtain⟨s,o,A,B,rfl,⟨ho,m,y,C,t,n⟩,⟨j,u,g,hw⟩,q⟩:=h
 walk_at "dx"
 refine dO (λp=>?_) (λp=>?_)
 ·cases B with
  | nil=>simp at j
  | cons r D=>simp at p
 have l:∀ Z:List (List Int),(lr Z).length=Z.length:=λZ=>HC ..
 rw[l B,HC]
 have v:((B.length:Nat):Int) % ((o.length:Nat):Int)=((B.length % o.length:Nat):Int):=rfl
 rw[v,u]
 refine⟨by omega,dO (λh1=>absurd rfl h1) (λh1=>?_)⟩
 walk_at "dx"
 refine⟨B,s.length,by rw[HC],by omega,m,?_⟩
 walk_at "dx"
 rw[hw]
 refine dO (λh2=>by simp at h2) (λh2=>?_)
 have hz:∀ k,k<=20000->k<=sizeLine:=λk hk=>HQ (by omega) au
 have e3:lr A++lr B++lr B=lr (A++B++B):=by simp
 have x:(A++B++B).length=A.length+2*B.length:=by simp;omega
 walk_at "dx"
 refine⟨s,o,rfl,?_⟩
 walk_at "dx"
 rw[Ie,l A,l B,e3]
 refine⟨hz _ (by omega),hz _ (by omega),s,o,s,A++B++B,rfl,ho,rfl,m,λr b=>?_,by rw[x];exact g,λd=>?_⟩
 ·rcases HF.mp b with b|b
  ·rcases HF.mp b with b|b
   ·have:=t r b;omega
   ·have:=n r b;omega
  ·have:=n r b;omega
 ·walk_at "dx"
  exact q
noncomputable abbrev dR:Stmt:=top 28
theorem bX:ao ["town", "standing", "most", "rows", "clock", "left", "with_it"] ["town", "standing"] (ad dR):=⟨rfl,rfl,rfl,by decide +kernel,rfl,by decide +kernel,by decide +kernel⟩
noncomputable def chs (h:Int) (l:List Int):Nat->List (List Int)
 | 0=>[[]]
 | k+1=>if l.getD k 0=1 then ((chs h l k).filter λr=>decide ((r.length:Int)<h)).map (·++[(k:Int)]) else chs h l k++((chs h l k).filter λr=>decide ((r.length:Int)<h)).map (·++[(k:Int)])
theorem iI (l:List Int) (k:Nat):jx l (k+1)=jx l k++(if l.getD k 0=1 then [(k:Int)] else []):=by
 unfold jx
 rw[JS,Jr,Il]
 congr 1
 by_cases h:l.getD k 0=1
 ·rw[if_pos h,II (by simpa using h)]
  rfl
 ·rw[if_neg h,Jl (by simpa using h)]
  rfl
theorem Bo {l:List Int}{k:Nat}{x:Int} (h:x∈jx l k):0<=x/\x<k:=by
 unfold jx at h
 obtain⟨i,hi,rfl⟩:=HS.mp h
 have:=HW.mp (Ia.mp hi).1
 omega
theorem iL (h:Int) (e:0<=h) (l:List Int):∀ k,chs h l k=cp k h l
 | 0 => by
  show[[]]=List.filter _ [[]]
  rw[II]
  ·rfl
  ·show gh h (jx l 0) []=true
   unfold gh jx
   simp[e]
 | k + 1=>by
  have f:=iL h e l k
  have e1:((jD k).map (·++[(k:Int)])).filter (gh h (jx l (k+1)))=((cp k h l).filter λr=>decide ((r.length:Int)<h)).map (·++[(k:Int)]):=by
   unfold cp
   rw[List.filter_map,List.filter_filter]
   congr 1
   refine List.filter_congr λr b=>?_
   have a:=b7 k r b
   show gh h (jx l (k+1)) (r++[(k:Int)])=_
   unfold gh
   rw[iI]
   have e2:(List.filter (λc=>decide (c ∉ r++[(k:Int)])) (jx l k++if l.getD k 0=1 then [(k:Int)] else []))=List.filter (λc=>decide (c ∉ r)) (jx l k):=by
    rw[Jr]
    have e3:List.filter (λc=>decide (c ∉ r++[(k:Int)])) (if l.getD k 0=1 then [(k:Int)] else [])=[]:=by split <;> simp
    rw[e3,Iy]
    refine List.filter_congr λc hc=>?_
    have:=Bo hc
    have d:c≠(k:Int):=by omega
    simp[d]
   rw[e2]
   have g:decide (((r++[(k:Int)]).length:Int)<=h)=(decide ((r.length:Int)<h)&&decide ((r.length:Int)<=h)):=by
    rw[Ie,ID]
    by_cases c:(r.length:Int)<h
    ·have c2:(r.length:Int)<=h:=by omega
     have c3:((r.length+1:Nat):Int)<=h:=by omega
     rw[decide_eq_true c,decide_eq_true c2,decide_eq_true c3];rfl
    ·have c3:¬((r.length+1:Nat):Int)<=h:=by omega
     rw[decide_eq_false c,decide_eq_false c3];rfl
   rw[g,Bool.and_assoc]
  have e2:(jD k).filter (gh h (jx l (k+1)))=if l.getD k 0=1 then [] else cp k h l:=by
   split
   ·rename_i h1
    refine List.filter_eq_nil_iff.mpr λr b=>?_
    have a:=b7 k r b
    unfold gh
    rw[iI,if_pos h1,Jr]
    have hn:(k:Int) ∉ r:=λz=>by have:=a.2.2 _ z;omega
    simp[hn]
   ·rename_i h1
    unfold cp
    rw[iI,if_neg h1,Iy]
  show(if l.getD k 0=1 then _ else _)=List.filter _ (jD k++(jD k).map (·++[(k:Int)]))
  rw[Jr,e1,e2,f]
  split
  ·rw[List.nil_append]
  ·rfl
noncomputable def wE (r:List Int):Int×List Int:=((r.length:Int),r)
noncomputable def chX (n:Nat) (h:Int) (l:List Int):List (List Int):=bY (ar ((cp n h l).map wE)) (cp n h l) []
theorem qw (n:Nat) (h:Int) (l:List Int):(chX n h l).Perm (cp n h l):=fQ (by have:=aT ((cp n h l).map wE);rwa [HC] at this)
theorem xw {n:Nat}{h:Int}{l:List Int} (a:chX n h l≠[]):∃ b r,chX n h l=b++[r]/\r∈cp n h l/\∀ f∈cp n h l,f.length<=r.length:=by
 have q:=qw n h l
 have c:1<=((cp n h l).map wE).length:=by
  rw[HC,<-q.length_eq]
  exact List.length_pos_iff.mpr a
 obtain⟨j,h1,h2,o⟩:=qP c
 rw[HC] at h2 o
 have e:(chX n h l).getLast? = some ((cp n h l).getD j []):=by
  unfold chX bY
  rw[List.getLast?_map,h1]
  rfl
 obtain⟨b,r,d⟩:∃ b r,chX n h l=b++[r]:=⟨(chX n h l).dropLast,(chX n h l).getLast a,(List.dropLast_concat_getLast a).symm⟩
 have p:r=(cp n h l).getD j []:=by
  rw[d,List.getLast?_append] at e
  simpa using e
 refine⟨b,r,d,by rw[p];exact dZ h2,λf m=>?_⟩
 obtain⟨i,hi,e2⟩:=Im m
 have:=o i hi
 have g:∀ k,k<(cp n h l).length->((cp n h l).map wE).getD k (0,[])=wE ((cp n h l).getD k []):=λk hk=>by
  simp[HB,hk]
 rw[g i hi,g j h2] at this
 unfold wE at this
 simp only at this
 rw[<-p,show(cp n h l).getD i []=f by simp[HB,hi,e2]] at this
 omega
theorem wC (rr:List (List Int)):(lr rr).map (λd=>eQ (nK d))=rr.map wE:=by
 show(List.map _ (List.map _ rr))=_
 rw[Ip]
 refine Jy λr _=>?_
 show eQ (nK (.list (li r)))=wE r
 unfold nK eQ wE
 simp only[bH,Option.getD_some,HC]
theorem AL {rr:List (List Int)}{p:List Nat} (h:∀ i∈p,i<rr.length):bY p (lr rr) .none=lr (bY p rr []):=by
 unfold bY
 show _=List.map _ (List.map _ p)
 rw[Ip]
 refine Jy λi hi=>?_
 have:=h i hi
 simp[HB,this]
noncomputable def lf:DSp:=λss R=>∃ (s o l:List Int) (d:Nat),ss=[.fr (.tuple [.list (li s),.list (li o)]),.fr (.tuple [.int d,.tuple (li l)])]/\s.length<=6/\0<=o.getD d 0/\(s.length<=4\/o.getD d 0<=3)/\StB s o d l /\
 R (.ow (lr (chX s.length (o.getD d 0) l))) [.un,.un]
theorem rR {f:Addr}{fd:k0} (F:Fun K "choices" "choices" dR f fd):a9 K fd ["town", "standing"] []:=F.binds (ps:=["town", "standing"]) λ_ _ _ _ _ _ us a=>us2 (Q:=λus=>ze _ ⟨us,[]⟩=pure (List.zip _ us)) a λ_ _=>rfl
theorem rg {f:Addr}{fd:k0} (F:Fun K "choices" "choices" dR f fd) (B:Bn mg) (L:rX K base "choices" fd) (g:Cal P w K mg base "hands_on" 1 (spD K h8)):bR P w K mg base CX0 6 f fd ["town", "standing"] (spD K lf):=by
 refine FC (k:=5) F bX (λss R h=>?_) (by decide) (λcdv C A outer s H E t=>⟨_,(am (aA (i:=2) bX.nd rfl (Or.inr rfl) (aG g (t.mono (by decide)) rfl (aa (qf 0) (aa (qf 1) ac))))
   (am (aA (i:=3) bX.nd rfl (Or.inl rfl) (eP (aa (eP ac) ac)))
   (am (dW PassesOwn.never rfl (fZ true (K:=K) rfl rfl B.enumerate (aa (bE (ah (K:=K) rfl) mIx (qv 1) ag (λ_ _=>rfl)) ac)) (dS (K:=K) (n:=2) rfl rfl (aK (ak (i:=4) bX.nd rfl (Or.inr rfl)) (aK (ak (i:=5) bX.nd rfl (Or.inl rfl)) cC))) (am (dU (i:=6)  bX.nd rfl rfl (N':=["row", "most", "clock"]) (ix:=[none,some 2,some 4]) rfl (dq (N:=["town", "standing", "most", "rows", "clock", "left", "with_it"]) (sc0:=ad dR) rfl rfl (by decide +kernel)) (bJ (K:=K) rfl (qf 3)) (λ_ _ _ _=>(ak (i:=0) (show List.Nodup (["row", "most", "clock"]:List Str) by decide +kernel) rfl (Or.inl rfl))) (λ_ _ _ _=>(ik (aJ jR mB (dw (fB (K:=K) rfl) fA rfl B.len PySem.boot_len (aa (qv 0) ac)) (qv 1) (aE _)))) (λ_ _ _ _=>(m6 (ff (K:=K) rfl) AK (qv 0) (eP (aa (qf 2) ac)))))
   (ae (aA (i:=3) bX.nd rfl (Or.inl rfl) (tq (aJ nt AJ (qv 5) ag (aE _)) (qf 6) (m6 (ff (K:=K) rfl) AK (qv 3) (qv 6)))))))
   (ae (aD (CK (p := "row") (K:=K) rfl (let ⟨c,T,a,b,d⟩:=L;⟨c,T,C.trans a,b,d⟩) (t.mono (by decide)) rfl B.sorted (aa (qv 3) ac) ⟨rfl,rfl,rfl,by decide,rfl,λx hx=>by rw[HD.mp hx];exact .inl rfl,by decide⟩ (λ_ _ _ _ _=>rfl) rfl rfl (λ_ _ _ _ _=>(gJ (aa (dw (fB (K:=K) rfl) fA rfl B.len PySem.boot_len (aa (qv 0) ac)) (aa (qf 0) ac)))))))))),λss R h=>?_⟩)
 ·obtain⟨s,o,l,d,rfl,_⟩:=h
  rfl
 obtain⟨s,o,l,d,rfl,D,z,G,I,q⟩:=h
 obtain⟨s1,s2⟩:=I
 walk_at "dx"
 refine⟨s,o,l,d,rfl,s1,?_⟩
 walk_at "dx"
 refine⟨Ig _,HQ (by decide) au,?_⟩
 walk_at "dx"
 refine a8 (λi env=>∃ (u a b c:Sl),env=[.fr (.tuple [.list (li s),.list (li o)]),.fr (.tuple [.int d,.tuple (li l)]),.fr (.int (o.getD d 0)),u,a,b,c]/\(u=.ow (lr (chs (o.getD d 0) l i))\/u=.fr (.list (lr (chs (o.getD d 0) l i))))) ⟨_,_,_,_,rfl,.inl rfl⟩ ?_ ?_
 ·rintro i env hi ⟨u,a,b,c,rfl,m⟩
  rw[cE,cR]
  rw[aL,HC] at hi
  have hz:(chs (o.getD d 0) l i).length<=64:=by
   rw[iL _ z]
   refine HQ (Jd _ _) ?_
   rw[jC]
   exact Jh (by decide) (show i<=6 by omega)
  have v:∀ r∈chs (o.getD d 0) l i,r.length<=6:=λr t=>by
   rw[iL _ z] at t
   have:=(b7 i r (Ia.mp t).1).1
   omega
  have J:chs (o.getD d 0) l (i+1)=if l.getD i 0=1 then ((chs (o.getD d 0) l i).filter λr=>decide ((r.length:Int)<o.getD d 0)).map (·++[(i:Int)]) else chs (o.getD d 0) l i++((chs (o.getD d 0) l i).filter λr=>decide ((r.length:Int)<o.getD d 0)).map (·++[(i:Int)]):=rfl
  rw[J]
  generalize chs (o.getD d 0) l i=cs at *
  generalize o.getD d 0=hd at *
  rcases m with rfl|rfl
  all_goals
   walk_at "dx"
   refine d7 (λj=>decide (((cs.getD j []).length:Int)<hd)) (λj=>.list (li (cs.getD j []++[(i:Int)]))) (by rw[HC];omega) (λj hj Q O h1 h2=>?_) ?_
   ·rw[HC] at hj
    rw[lG]
    have S:=v _ (dZ (l:=cs) hj)
    walk_at "dx"
    rw[HC]
    refine dO (λh=>?_) (λh=>h2 (by simpa using h))
    rw[AM]
    exact⟨HQ (by decide) au,HQ (by omega) au,h1 (by simpa using h)⟩
   rw[HC,fN cs [] (λr=>decide ((r.length:Int)<hd)) (λr=>PyData.list (li (r++[(i:Int)])))]
   walk_at "dx"
   refine dO (λh1=>?_) (λh1=>?_)
   ·rw[if_pos h1]
    exact .inr (by simp)
   ·rw[if_neg h1]
    have U:=Jd (λr:List Int=>decide ((r.length:Int)<hd)) cs
    refine⟨?_,.inl (by simp)⟩
    rw[HC,HC]
    exact HQ (by omega) au
 ·rintro env ⟨u,a,b,c,rfl,m⟩
  rw[aL,HC,s2] at m
  have hz:(chs (o.getD d 0) l s.length).length<64:=by
   rw[iL _ z]
   exact uB D G
  have t:∀ x∈lr (chs (o.getD d 0) l s.length),DB x:=λx hx=>by
   obtain⟨r,_,rfl⟩:=HS.mp hx
   exact⟨r,rfl⟩
  have e:bY (ar (((lr (chs (o.getD d 0) l s.length)).map nK).map eQ)) (lr (chs (o.getD d 0) l s.length)) .none=lr (chX s.length (o.getD d 0) l):=by
   rw[Ip,show(eQ ∘ nK)=λd=>eQ (nK d) from rfl,wC,iL _ z]
   exact AL λi hi=>by have:=dy i hi;rwa [HC] at this
  rcases m with rfl|rfl
  all_goals
   walk_at "dx"
   refine⟨by rw[HC];exact hz,nK,.inl λx hx=>?_,λx hx=>?_,?_⟩
   ·obtain⟨y,M,rfl⟩:=HS.mp hx
    obtain⟨r,rfl⟩:=t y M
    exact⟨_,r,rfl⟩
   ·obtain⟨r,rfl⟩:=t x hx
    unfold yz
    walk_at "dd"
    exact⟨HQ (by decide) au,rfl⟩
   ·rw[e]
    exact q
noncomputable def rwF (A B:List (List Int)) (t:Nat):List Int:=if t<A.length then A.getD t [] else B.getD ((t - A.length) % B.length) []
noncomputable def lfF (s:List Int) (rw:Nat->List Int):Nat->List Int
 | 0=>s
 | i+1=>kF s (lfF s rw i) (rw i) s.length
theorem iD {s:List Int}{rw:Nat->List Int}:∀ i,(lfF s rw i).length=s.length
 | 0=>rfl
 | i+1=>gX _ _ _ _
noncomputable def vo (s o:List Int) (rw:Nat->List Int) (i:Nat):Bool:=ud s o (lfF s rw i) (rw i) (i % o.length)
theorem uf {s:List Int}{rows:List (List Int)}{rw:Nat->List Int}:∀ i,(∀ j,j<i->rows.getD j []=rw j)->ui s s rows i=lfF s rw i
 | 0,_=>rfl
 | i+1,h=>by
  show kF s (ui s s rows i) (rows.getD i []) s.length=kF s (lfF s rw i) (rw i) s.length
  rw[uf i λj hj=>h j (by omega),h i (by omega)]
theorem mV {A B:List (List Int)}{t:Nat} (h:t<A.length+2*B.length):(A++B++B).getD t []=rwF A B t:=by
 unfold rwF
 rw[IN,kD]
 by_cases h1:t<A.length
 ·rw[if_pos h1,if_pos h1]
 ·rw[if_neg h1,if_neg h1,kD]
  by_cases h2:t - A.length<B.length
  ·rw[if_pos h2,Je h2]
  ·rw[if_neg h2,Nat.mod_eq_sub_mod (Nat.le_of_not_lt h2),Je (by omega)]
theorem AE {s o:List Int}{A B:List (List Int)}{i:Nat} (h:i<A.length+2*B.length):nI s o s (A++B++B) i=vo s o (rwF A B) i:=by
 unfold nI vo
 rw[uf i λj hj=>mV (by omega),mV h]
theorem sR {A B:List (List Int)}{t:Nat} (h:A.length<=t):rwF A B (t+B.length)=rwF A B t:=by
 unfold rwF
 rw[if_neg (by omega),if_neg (by omega),show t+B.length - A.length=t - A.length+B.length by omega,Nat.add_mod_right]
noncomputable def PF (rw:Nat->List Int) (c t:Nat):Bool:=decide ((c:Int)∈rw t)
theorem j0 {s:List Int}{rw:Nat->List Int}{c:Nat} (hc:c<s.length):∀ i:Nat,(lfF s rw i).getD c 0=s.getD c 0 - ((i:Int) - bj (PF rw c) i - 1)
 | 0=>by
  show s.getD c 0=s.getD c 0 - ((0:Nat) - (-1) - 1:Int)
  omega
 | i + 1=>by
  have a:=j0 (rw:=rw) hc i
  show(kF s (lfF s rw i) (rw i) s.length).getD c 0=_
  have b:bj (PF rw c) (i+1)=if PF rw c i=true then (i:Int) else bj (PF rw c) i:=rfl
  rw[eM hc,a,b]
  by_cases h:(c:Int)∈rw i
  ·rw[if_pos h,if_pos (show PF rw c i=true from decide_eq_true h)]
   omega
  ·rw[if_neg h,if_neg (show ¬PF rw c i=true fromλz=>h (of_decide_eq_true z))]
   omega
theorem wt {s o l r:List Int}{d:Nat} (h:ud s o l r d=true) {c:Nat} (hc:c<l.length) (e:l.getD c 0=1):(c:Int)∈r:=by
 unfold ud at h
 rw[HX,HX] at h
 exact(nO l r).mp h.2.2 c hc e
theorem uh {s o:List Int}{rw:Nat->List Int} (a:∀ x∈s,1<=x) {c:Nat} (hc:c<s.length):∀ i:Nat,(∀ j,j<i->vo s o rw j=true)->1<=(lfF s rw i).getD c 0
 | 0,_=>a _ (cg hc)
 | i + 1,h=>by
  have b:=uh (o:=o) a hc i λj hj=>h j (by omega)
  show 1<=(kF s (lfF s rw i) (rw i) s.length).getD c 0
  rw[eM hc]
  split
  ·exact a _ (cg hc)
  ·rename_i hn
   by_cases e:(lfF s rw i).getD c 0=1
   ·exact absurd (wt (h i (by omega)) (by rw[iD];exact hc) e) hn
   ·omega
theorem wW {l a:List Int} (b:l.length=a.length) (h:∀ c,c<l.length->l.getD c 0=a.getD c 0):l=a:=by
 apply IS b
 intro i h1 h2
 have:=h i h1
 simpa[HB,h1,h2] using this
theorem rn {P:Nat->Bool}{a b:Nat} (f:1<=b) (c:∀ t,a<=t->P (t+b)=P t) (d:∃ t,a<=t/\t<a+b/\P t=true) {i:Nat} (hi:a+b<=i):bj P (i+b)=bj P i+b:=by
 obtain⟨w,g,h,e⟩:=d
 have j:=j5 P i
 have k:(a:Int)<=bj P i:=by
  by_cases hc:(w:Int)<=bj P i
  ·omega
  ·have:=dj P i w (by omega) (by omega)
   rw[e] at this
   cases this
 refine AR (by omega) (by omega) (.inr ?_) λu h1 h2=>?_
 ·rcases nJ P i with z|⟨u,z,_,z3⟩
  ·omega
  ·rw[show(bj P i+b).toNat=u+b by omega,c u (by omega)]
   exact z3
 ·obtain⟨v,rfl⟩:∃ v,u=v+b:=⟨u - b,by omega⟩
  rw[c v (by omega)]
  exact dj P i v (by omega) (by omega)
theorem zE {A B:List (List Int)}{c:Nat}:BV B c=true↔∃ t,A.length<=t/\t<A.length+B.length/\PF (rwF A B) c t=true:=by
 rw[gM]
 constructor
 ·rintro⟨t,h1,h2⟩
  refine⟨A.length+t,by omega,by omega,decide_eq_true ?_⟩
  unfold rwF
  rw[if_neg (by omega),show A.length+t - A.length=t by omega,Je h1]
  exact h2
 ·rintro⟨t,h1,h2,a⟩
  have a:=of_decide_eq_true a
  unfold rwF at a
  rw[if_neg (by omega),Je (by omega)] at a
  exact⟨t - A.length,by omega,a⟩
theorem ug {s:List Int}{A B:List (List Int)} (b:1<=B.length) (hw:BW B s.length=true) {i:Nat} (hi:A.length+B.length<=i):lfF s (rwF A B) (i+B.length)=lfF s (rwF A B) i:=by
 refine wW (by rw[iD,iD]) λc hc=>?_
 rw[iD] at hc
 rw[j0 hc,j0 hc,rn (a:=A.length) b (λt d=>by unfold PF;rw[sR d]) (zE.mp (gN.mp hw c hc)) hi]
 omega
theorem rh {s o:List Int}{A B:List (List Int)} (b:1<=B.length) (a:B.length % o.length=0) {i:Nat} (hi:A.length<=i) (e:lfF s (rwF A B) (i+B.length)=lfF s (rwF A B) i):vo s o (rwF A B) (i+B.length)=vo s o (rwF A B) i:=by
 unfold vo
 rw[e,sR hi,Nat.add_mod,a,Nat.add_zero,Nat.mod_mod]
theorem zr {s o:List Int}{A B:List (List Int)} (k:KP s o A B):∀ i,vo s o (rwF A B) i=true:=by
 obtain⟨b,c,a,hw⟩:=k
 have base:∀ i,i<A.length+2*B.length->vo s o (rwF A B) i=true:=λi hi=>by rw[<-AE hi];exact a i hi
 have go:∀ n i,i<=n->vo s o (rwF A B) i=true:=λn=>by
  induction n with
  | zero=>exactλi hi=>base i (by omega)
  | succ n d =>
   intro i hi
   by_cases h:i<A.length+2*B.length
   ·exact base i h
   ·have e:=ug (s:=s) (A:=A) b hw (i:=i - B.length) (by omega)
    have e2:=rh (s:=s) (A:=A) (o:=o) b c (i:=i - B.length) (by omega) e
    rw[show i - B.length+B.length=i by omega] at e2
    rw[e2]
    exact d _ (by omega)
 exactλi=>go i i (HK _)
theorem ij (r:List Int):jo r=true↔r.Pairwise (·<·):=by
 unfold jo
 rw[IK]
 constructor
 ·intro h
  have c:∀ i,i+1<r.length->r.getD i 0<r.getD (i+1) 0:=λi hi=>of_decide_eq_true (h _ (HS.mpr ⟨i,HW.mpr (by omega),rfl⟩))
  have far:∀ k i,i+k+1<r.length->r.getD i 0<r.getD (i+k+1) 0:=λk=>by
   induction k with
   | zero=>exactλi hi=>c i hi
   | succ k d =>
    intro i hi
    have a:=d i (by omega)
    have b:=c (i+k+1) (by omega)
    rw[show i+(k+1)+1=i+k+1+1 by omega]
    omega
  rw[Ix]
  intro i j hi hj e
  have:=far (j - i - 1) i (by omega)
  rw[show i+(j - i - 1)+1=j by omega] at this
  simpa[HB,hi,hj] using this
 ·intro h x hx
  obtain⟨i,hi,rfl⟩:=HS.mp hx
  have hi:=HW.mp hi
  have h1:i<r.length:=by omega
  have h2:i+1<r.length:=by omega
  have:=Ix.mp h i (i+1) h1 h2 (by omega)
  refine decide_eq_true ?_
  simpa[HB,h1,h2] using this
theorem nL (n:Nat) (r:List Int):EC n r=true↔∀ x∈r,0<=x/\x<n:=by
 unfold EC
 rw[IK]
 constructor
 ·intro h x hx
  obtain⟨i,hi,rfl⟩:=Im hx
  have:=h _ (HS.mpr ⟨i,HW.mpr hi,rfl⟩)
  have e:r.getD i 0=r[i]:=by simp[HB,hi]
  rw[id_eq,HX,decide_eq_true_eq,decide_eq_true_eq,e] at this
  exact this
 ·intro h x hx
  obtain⟨i,hi,rfl⟩:=HS.mp hx
  have:=h _ (cg (HW.mp hi))
  rw[id_eq,HX,decide_eq_true_eq,decide_eq_true_eq]
  exact this
theorem gO:∀ (n:Nat) (r:List Int),r.Pairwise (·<·)->(∀ x∈r,0<=x/\x<n)->r∈jD n
 | 0,r,_,h=>by
  cases r with
  | nil=>simp[jD]
  | cons x l=>have:=h x (by simp);omega
 | n + 1,r,d,h=>by
  show r∈jD n++(jD n).map (·++[(n:Int)])
  by_cases hn:(n:Int)∈r
  ·refine HA _ ?_
   rcases JH r with rfl|⟨l,x,rfl⟩
   ·cases hn
   ·rw[JI] at *
    obtain⟨f,_,p3⟩:=List.pairwise_append.mp d
    have hx:=h x (by simp)
    have c:x=(n:Int):=by
     rcases HF.mp hn with z|z
     ·have:=p3 _ z x (by simp);omega
     ·exact(HD.mp z).symm
    refine HS.mpr ⟨l,gO n l f λy e=>?_,by rw[c]⟩
    have a:=h y (by simp[e])
    have b:=p3 y e x (by simp)
    omega
  ·refine HG _ (gO n r d λx hx=>?_)
   have a:=h x hx
   have b:x≠(n:Int):=λz=>hn (z▸hx)
   omega
theorem A8 {s o l r:List Int}{d:Nat} (b:l.length=s.length):r∈cp s.length (o.getD d 0) l↔ud s o l r d=true:=by
 unfold cp ud ii gh
 rw[Ia,HX,HX,HX,HX,ij,nL,nO,b,decide_eq_true_eq,decide_eq_true_eq]
 have f:(List.filter (λc=>decide (c ∉ r)) (jx l s.length))=[]↔∀ c,c<s.length->l.getD c 0=1->(c:Int)∈r:=by
  rw[List.filter_eq_nil_iff]
  constructor
  ·intro h c hc e
   have:=h (c:Int) (by
    unfold jx
    exact HS.mpr ⟨c,Ia.mpr ⟨HW.mpr hc,decide_eq_true e⟩,rfl⟩)
   simpa using this
  ·intro h x hx
   unfold jx at hx
   obtain⟨c,hc,rfl⟩:=HS.mp hx
   obtain⟨h1,h2⟩:=Ia.mp hc
   have:=h c (HW.mp h1) (of_decide_eq_true h2)
   simpa using this
 rw[f]
 constructor
 ·rintro⟨h1,h2,a⟩
  obtain⟨_,p,q⟩:=b7 _ r h1
  exact⟨⟨p,q⟩,h2,a⟩
 ·rintro⟨⟨p,q⟩,h2,a⟩
  exact⟨gO _ r p q,h2,a⟩
section
variable {κ β:Type}[DecidableEq κ]
theorem wQ (a b:List (κ×β)) (k:κ):ci (a++b) k=match ci a k with|some v=>some v|none=>ci b k:=by
 induction a with
 | nil=>rfl
 | cons p a c =>
  rw[List.cons_append,bv,bv,c]
  by_cases h:p.1=k <;> simp[h]
theorem wN (kvs:List (κ×β)) (k:κ) (v:β) (x:κ):ci (kvs.map λp=>if p.1=k then (p.1,v) else p) x=if x=k then (ci kvs x).map λ_=>v else ci kvs x:=by
 induction kvs with
 | nil=>simp[ci]
 | cons p kvs a =>
  rw[HU,bv,bv,a]
  by_cases h1:p.1=k
  ·by_cases h2:x=k
   ·simp[h1,h2]
   ·have:¬k=x:=λz=>h2 z.symm
    simp[h1,h2,this]
  ·by_cases h2:p.1=x
   ·subst h2;simp[h1]
   ·simp[h1,h2]
theorem kc (kvs:List (κ×β)) (k:κ) (v:β) (x:κ):ci (fY kvs k v) x=if x=k then some v else ci kvs x:=by
 unfold fY
 cases e:ci kvs k with
 | some w =>
  rw[if_pos (show(some w).isSome=true from rfl),wN]
  by_cases h:x=k
  ·subst h;simp[e]
  ·simp[h]
 | none =>
  rw[if_neg (by simp),wQ,bv,wO]
  by_cases h:x=k
  ·subst h;simp[e]
  ·have:¬k=x:=λz=>h z.symm
   simp only[this,h,if_false]
   cases ci kvs x <;> rfl
end
theorem dg {α:Type} [DecidableEq α]:∀ {l U:List α},l.Nodup->(∀ x∈l,x∈U)->l.length<=U.length
 | [],_,_,_=>Ig _
 | x::l,U,hn,h=>by
  obtain⟨h1,h2⟩:=Iu.mp hn
  have hx:=h x (by simp)
  have:=dg (l:=l) (U:=U.erase x) h2 λy a=>(List.mem_erase_of_ne (λ(z:y=x)=>h1 (by rw[<-z];exact a))).mpr (h y (by simp[a]))
  rw[List.length_erase_of_mem hx] at this
  have b:0<U.length:=List.length_pos_of_mem hx
  simp;omega
section
variable {σ ρ:Type}[DecidableEq σ](Full:σ->List ρ->Prop) (nxt:σ->ρ->σ) (start₀:σ)
structure gp (path:List σ) (ways:List (List ρ)) (places:σ->Option (Option Nat)) (lost:List σ):Prop where
 len:ways.length=path.length
 hd : path.head? = some start₀\/path=[]/\start₀∈lost
 way:∀ (i:Nat) x w,path[i]? = some x->ways[i]? = some w->∃ fr pre,Full x fr/\fr=pre++w/\∀ r∈pre,nxt x r∈lost
 lnk:∀ (i:Nat) x y w,path[i]? = some x->path[i+1]? = some y->ways[i]? = some w->∃ r t,w=r::t/\nxt x r=y
 on : ∀ x (i:Nat),places x=some (some i)↔path[i]? = some x
 off:∀ x,places x=some none↔x∈lost
 down:∀ (j:Nat) x,lost[j]? = some x->∃ fr,Full x fr/\∀ r∈fr,∃ i:Nat,i<j/\lost[i]? = some (nxt x r)
 nd : (path++lost).Nodup
variable {Full nxt start₀}{path:List σ}{ways:List (List ρ)}{places:σ->Option (Option Nat)}{lost:List σ}
theorem gp.init {fr:List ρ} (h:Full start₀ fr) (a:∀ x,places x=if x=start₀ then some (some 0) else none):gp Full nxt start₀ [start₀] [fr] places []:=by
 refine⟨rfl,.inl rfl,λi x w h1 h2=>?_,λi x y w h1 h2=>?_,λx i=>?_,λx=>?_,λj x h1=>by simp at h1,by simp⟩
 ·cases i with
  | zero=>simp at h1 h2;subst h1 h2;exact⟨fr,[],h,rfl,by simp⟩
  | succ i=>simp at h1
 ·simp at h2
 ·rw[a]
  by_cases e:x=start₀
  ·subst e
   cases i <;> simp
  ·rw[if_neg e]
   cases i <;> simp[Ne.symm e]
 ·rw[a]
  split <;> simp
theorem gp.lose {x:σ}{d:σ->Option (Option Nat)} (h:gp Full nxt start₀ (path++[x]) (ways++[[]]) places lost) (n:∀ y,d y=if y=x then some none else places y) :
  gp Full nxt start₀ path ways d (lost++[x]):=by
 have o:ways.length=path.length:=by have:=h.len;simpa using this
 have nd:=h.nd
 have g:(path++(lost++[x])).Nodup:=by
  rw[IN] at nd
  exact(List.Perm.append_left path (List.perm_append_comm)).nodup_iff.mp nd
 have p:x ∉ path:=λhx=>by
  have:=HN.mp (HN.mp nd).1
  exact this.2.2 x hx x (by simp) rfl
 refine⟨o,?_,λi y w h1 h2=>?_,λi y z w h1 h2 q=>?_,λy i=>?_,λy=>?_,λj y h1=>?_,g⟩
 ·rcases h.hd with e|⟨e,_⟩
  ·cases path with
   | nil =>
    simp at e
    exact .inr ⟨rfl,by simp[e]⟩
   | cons a b=>exact .inl (by simpa using e)
  ·simp at e
 ·have hi:i<path.length:=(HI.mp h1).1
  obtain⟨fr,pre,a,b,c⟩:=h.way i y w (by rw[HY hi];exact h1) (by rw[HY (by omega)];exact h2)
  exact⟨fr,pre,a,b,λr f=>HG _ (c r f)⟩
 ·have hi:i+1<path.length:=(HI.mp h2).1
  exact h.lnk i y z w (by rw[HY (by omega)];exact h1) (by rw[HY hi];exact h2) (by rw[HY (by omega)];exact q)
 ·rw[n]
  by_cases e:y=x
  ·subst e
   rw[if_pos rfl]
   constructor
   ·intro z;cases z
   ·intro z;exact absurd (IE z) p
  ·rw[if_neg e,h.on]
   by_cases hi:i<path.length
   ·rw[HY hi]
   ·rw[Jb (by omega),Jc (show path.length<=i by omega)]
    constructor
    ·intro z
     cases hk:i - path.length with
     | zero=>rw[hk] at z;simp at z;exact absurd z.symm e
     | succ k=>rw[hk] at z;simp at z
    ·intro z;cases z
 ·rw[n]
  by_cases e:y=x
  ·subst e;simp
  ·rw[if_neg e,h.off];simp[e]
 ·by_cases hj:j<lost.length
  ·rw[HY hj] at h1
   obtain⟨fr,a,b⟩:=h.down j y h1
   refine⟨fr,a,λr f=>?_⟩
   obtain⟨i,i1,i2⟩:=b r f
   exact⟨i,i1,by rw[HY (by omega)];exact i2⟩
  ·have l:j<(lost++[x]).length:=(HI.mp h1).1
   have m:j=lost.length:=by simp at l;omega
   subst m
   rw[Jb (HK _)] at h1
   simp at h1
   subst h1
   obtain⟨fr,pre,a,b,c⟩:=h.way path.length x [] (by simp) (by rw[<-o];simp)
   rw[Iy] at b
   subst b
   refine⟨fr,a,λr f=>?_⟩
   obtain⟨i,hi,e⟩:=Im (c r f)
   exact⟨i,hi,by rw[HY hi,Hz hi,e]⟩
theorem gp.go {x:σ}{r:ρ}{w fr:List ρ}{b:σ->Option (Option Nat)} (h:gp Full nxt start₀ (path++[x]) (ways++[r::w]) places lost) (hn:places (nxt x r)=none) (o:Full (nxt x r) fr)
  (f:∀ y,b y=if y=nxt x r then some (some (path.length+1)) else places y):gp Full nxt start₀ (path++[x]++[nxt x r]) (ways++[r::w]++[fr]) b lost:=by
 have g:ways.length=path.length:=by have:=h.len;simpa using this
 have j:nxt x r ∉ path++[x]:=λz=>by
  obtain⟨i,hi,e⟩:=Im z
  have:=(h.on (nxt x r) i).mpr (by rw[Hz hi,e])
  rw[hn] at this;cases this
 have m:nxt x r ∉ lost:=λz=>by
  have:=(h.off (nxt x r)).mpr z
  rw[hn] at this;cases this
 have cut:∀ {α:Type} (l:List α) (a:α) (i:Nat) (y:α),(l++[a])[i]? = some y->(i<l.length/\l[i]? = some y)\/(i=l.length/\y=a):=λl a i y e=>by
  by_cases hi:i<l.length
  ·rw[HY hi] at e;exact .inl ⟨hi,e⟩
  ·rw[Jb (by omega)] at e
   cases hk:i - l.length with
   | zero=>rw[hk] at e;simp at e;exact .inr ⟨by omega,e.symm⟩
   | succ k=>rw[hk] at e;simp at e
 refine⟨by simp[g],?_,λi y v h1 h2=>?_,λi y z v h1 h2 n=>?_,λy i=>?_,λy=>?_,h.down,?_⟩
 ·rcases h.hd with e|⟨e,_⟩
  ·exact .inl (by rw[List.head?_append,e];rfl)
  ·simp at e
 ·rcases cut _ _ _ _ h1 with⟨a1,a2⟩|⟨a1,a2⟩
  ·rcases cut _ _ _ _ h2 with⟨d,c⟩|⟨d,c⟩
   ·exact h.way i y v a2 c
   ·simp at a1 d;omega
  ·rcases cut _ _ _ _ h2 with⟨d,c⟩|⟨d,c⟩
   ·simp at a1 d;omega
   ·subst a2 c;exact⟨_,[],o,rfl,by simp⟩
 ·rcases cut _ _ _ _ h2 with⟨a1,a2⟩|⟨a1,a2⟩
  ·rcases cut _ _ _ _ h1 with⟨c1,c2⟩|⟨c1,c2⟩
   ·rcases cut _ _ _ _ n with⟨d,c⟩|⟨d,c⟩
    ·exact h.lnk i y z v c2 a2 c
    ·simp at a1 d;omega
   ·simp at a1 c1;omega
  ·have hi:i=path.length:=by simp at a1;omega
   subst hi
   rcases cut _ _ _ _ h1 with⟨c1,c2⟩|⟨c1,c2⟩
   ·rcases cut _ _ _ _ n with⟨d,c⟩|⟨d,c⟩
    ·simp at c2
     rw[<-g] at c
     simp at c
     subst a2 c2 c
     exact⟨r,w,rfl,rfl⟩
    ·simp at d;omega
   ·simp at c1
 ·rw[f]
  by_cases e:y=nxt x r
  ·subst e
   rw[if_pos rfl]
   constructor
   ·intro z
    cases z
    rw[Jb (by simp)]
    simp
   ·intro z
    rcases cut _ _ _ _ z with⟨_,a2⟩|⟨a1,_⟩
    ·exact absurd (IE a2) j
    ·rw[a1];simp
  ·rw[if_neg e,h.on]
   constructor
   ·intro z
    rw[HY (HI.mp z).1];exact z
   ·intro z
    rcases cut _ _ _ _ z with⟨_,a2⟩|⟨_,a2⟩
    ·exact a2
    ·exact absurd a2 e
 ·rw[f]
  by_cases e:y=nxt x r
  ·subst e
   rw[if_pos rfl]
   constructor
   ·intro z;cases z
   ·intro z;exact absurd z m
  ·rw[if_neg e,h.off]
 ·have nd:=h.nd
  have:(nxt x r::(path++[x]++lost)).Nodup:=Iu.mpr ⟨λz=>(HF.mp z).elim j m,nd⟩
  refine List.Perm.nodup_iff ?_ |>.mp this
  rw[IN (path++[x]) [nxt x r] lost]
  exact List.perm_middle.symm
theorem gp.skip {x:σ}{r:ρ}{w:List ρ} (h:gp Full nxt start₀ (path++[x]) (ways++[r::w]) places lost) (hn:places (nxt x r)=some none) :
  gp Full nxt start₀ (path++[x]) (ways++[w]) places lost:=by
 have j:ways.length=path.length:=by have:=h.len;simpa using this
 have hx:=(h.off _).mp hn
 refine⟨by simpa using j,h.hd,λi y v h1 h2=>?_,λi y z v h1 h2 k=>?_,h.on,h.off,h.down,h.nd⟩
 ·by_cases hi:i<ways.length
  ·rw[HY hi] at h2
   exact h.way i y v h1 (by rw[HY hi];exact h2)
  ·have d:i<(path++[x]).length:=(HI.mp h1).1
   have g:i=ways.length:=by simp at d;omega
   subst g
   simp at h2
   subst h2
   obtain⟨fr,pre,a,b,c⟩:=h.way ways.length y (r::w) h1 (by simp)
   have e:y=x:=by
    rw[j] at h1
    simpa using h1.symm
   subst e
   refine⟨fr,pre++[r],a,by simp[b],λq f=>?_⟩
   rcases HF.mp f with f|f
   ·exact c q f
   ·rw[HD.mp f];exact hx
 ·have hi:i+1<(path++[x]).length:=(HI.mp h2).1
  have d:i<ways.length:=by simp at hi;omega
  rw[HY d] at k
  exact h.lnk i y z v h1 h2 (by rw[HY d];exact k)
noncomputable def iX (N C:Nat) (path lost:List σ) (ways:List (List ρ)):Nat:=(N - (path.length+lost.length))*C+(ways.map λw=>w.length+1).sum
theorem gp.few (h:gp Full nxt start₀ path ways places lost) {U:List σ} (a:∀ x∈path++lost,x∈U):path.length+lost.length<=U.length:=by
 have:=dg h.nd a
 simpa using this
end
section
variable {σ ρ:Type}[DecidableEq σ]{path:List σ}{ways:List (List ρ)}{lost:List σ}
theorem gp.lt_lose {x:σ}{N C:Nat} (a:(path++[x]).length+lost.length<=N):iX N C path (lost++[x]) ways<iX N C (path++[x]) lost (ways++[([]:List ρ)]):=by
 unfold iX
 have:path.length+(lost++[x]).length=(path++[x]).length+lost.length:=by simp;omega
 rw[this,Il,JT]
 simp
theorem gp.lt_skip {x:σ}{r:ρ}{w:List ρ}{N C:Nat}:iX N C (path++[x]) lost (ways++[w])<iX N C (path++[x]) lost (ways++[r::w]):=by
 unfold iX
 rw[Il,JT,Il,JT]
 simp
theorem gp.lt_go {x:σ}{fr:List ρ}{N C:Nat} (a:path.length+1+lost.length<=N) (b:fr.length+1<C):iX N C (path++[x]) lost (ways++[fr])<iX N C path lost ways:=by
 unfold iX
 rw[Il,JT]
 have e:N - (path.length+lost.length)=N - ((path++[x]).length+lost.length)+1:=by simp;omega
 rw[e,Nat.succ_mul]
 simp
 omega
end
theorem nH {n:Nat}{h:Int}{l r:List Int}:r∈cp n h l↔r∈jD n/\(r.length:Int)<=h/\∀ c,c<n->l.getD c 0=1->(c:Int)∈r:=by
 unfold cp gh
 rw[Ia,HX,decide_eq_true_eq,decide_eq_true_eq]
 have a:(List.filter (λc=>decide (c ∉ r)) (jx l n))=[]↔∀ c,c<n->l.getD c 0=1->(c:Int)∈r:=by
  rw[List.filter_eq_nil_iff]
  constructor
  ·intro h c hc e
   have:=h (c:Int) (by
    unfold jx
    exact HS.mpr ⟨c,Ia.mpr ⟨HW.mpr hc,decide_eq_true e⟩,rfl⟩)
   simpa using this
  ·intro h x hx
   unfold jx at hx
   obtain⟨c,hc,rfl⟩:=HS.mp hx
   obtain⟨h1,h2⟩:=Ia.mp hc
   have:=h c (HW.mp h1) (of_decide_eq_true h2)
   simpa using this
 rw[a]
noncomputable abbrev Std:=Nat×List Int
noncomputable def eJ (s o:List Int) (x:Std) (r:List Int):Std:=((x.1+1) % o.length,kF s x.2 r s.length)
noncomputable def jb (s o:List Int) (x:Std) (fr:List (List Int)):Prop:=(∀ r∈fr,r∈cp s.length (o.getD x.1 0) x.2)/\(∀ r∈cp s.length (o.getD x.1 0) x.2,∃ a∈fr,∀ c∈r,c∈a) /\
 (∀ r∈fr,∀ a∈cp s.length (o.getD x.1 0) x.2,a.length<=r.length)/\∀ r∈cp s.length (o.getD x.1 0) x.2,(∀ a∈cp s.length (o.getD x.1 0) x.2,a.length<=r.length)->r∈fr
noncomputable def IsS (s o:List Int) (x:Std):Prop:=x.1<o.length/\x.2.length=s.length/\∀ c,c<s.length->1<=x.2.getD c 0/\x.2.getD c 0<=s.getD c 0
theorem yp {s o:List Int} (a:∀ x∈s,1<=x) {x:Std}{r:List Int} (h:IsS s o x) (b:r∈cp s.length (o.getD x.1 0) x.2):IsS s o (eJ s o x r):=by
 obtain⟨h1,h2,d⟩:=h
 refine⟨Ja _ (by omega),gX _ _ _ _,λc hc=>?_⟩
 have f:=(nH.mp b).2.2
 show 1<=(kF s x.2 r s.length).getD c 0/\(kF s x.2 r s.length).getD c 0<=_
 rw[eM hc]
 have g:=d c hc
 have i:=a _ (cg hc)
 split
 ·omega
 ·rename_i hn
  by_cases e:x.2.getD c 0=1
  ·exact absurd (f c hc e) hn
  ·omega
noncomputable def xI:List Int->List (List Int)
 | []=>[[]]
 | x::s=>((List.range x.toNat).map λ(i:Nat)=>(xI s).map λl=>((i:Int)+1)::l).flatten
theorem pC:∀ {s l:List Int},l.length=s.length->(∀ c,c<s.length->1<=l.getD c 0/\l.getD c 0<=s.getD c 0)->l∈xI s
 | [],l,h,_=>by
  rw[List.length_eq_zero_iff.mp h]
  simp[xI]
 | x::s,[],h,_=>by simp at h
 | x::s,y::l,h,a=>by
  have b:=a 0 (by simp)
  have e:1<=y/\y<=x:=by simpa using b
  have d:=pC (s:=s) (l:=l) (by simpa using h) λc hc=>by simpa using a (c+1) (by simpa using hc)
  unfold xI
  refine List.mem_flatten.mpr ⟨_,HS.mpr ⟨(y - 1).toNat,HW.mpr (by omega),rfl⟩,HS.mpr ⟨l,d,?_⟩⟩
  rw[show(((y - 1).toNat:Nat):Int)+1=y by omega]
noncomputable def jP:List Int->Nat
 | []=>1
 | x::s=>x.toNat*jP s
theorem qE:∀ s:List Int,(xI s).length=jP s
 | []=>rfl
 | x :: s=>by
  unfold xI jP
  rw[List.length_flatten,Ip]
  have:(List.length ∘ λ(i:Nat)=>(xI s).map λl=>((i:Int)+1)::l)=λ_=>jP s:=by
   funext i
   simp[qE s]
  rw[this,List.map_const',List.sum_replicate_nat,Io]
noncomputable def B4 (s o:List Int):List Std:=((List.range o.length).map λd=>(xI s).map λl=>(d,l)).flatten
theorem jY {s o:List Int}{x:Std} (h:IsS s o x):x∈B4 s o :=
 List.mem_flatten.mpr ⟨_,HS.mpr ⟨x.1,HW.mpr h.1,rfl⟩,HS.mpr ⟨x.2,pC h.2.1 h.2.2,rfl⟩⟩
theorem xH (s o:List Int):(B4 s o).length=o.length*jP s:=by
 unfold B4
 rw[List.length_flatten,Ip]
 have:(List.length ∘ λd=>(xI s).map λl=>((d,l):Std))=λ_=>jP s:=by
  funext i
  simp[qE s]
 rw[this,List.map_const',List.sum_replicate_nat,Io]
noncomputable def noB (s o:List Int) (x y:Std):Prop:=IsS s o y/\x.1=y.1/\x.2.length=s.length/\∀ c,c<s.length->y.2.getD c 0<=x.2.getD c 0
noncomputable def goS (s o:List Int) (y z:Std):Prop:=∃ r∈cp s.length (o.getD y.1 0) y.2,z=eJ s o y r
theorem wV {s o l b r:List Int}{d:Nat} (f:∀ c,c<s.length->1<=l.getD c 0/\l.getD c 0<=b.getD c 0) (a:r∈cp s.length (o.getD d 0) l):r∈cp s.length (o.getD d 0) b:=by
 rw[nH] at a ⊢
 refine⟨a.1,a.2.1,λc hc e=>a.2.2 c hc ?_⟩
 have:=f c hc
 omega
theorem xa {s o:List Int} (i:∀ x∈s,1<=x) {x y z:Std}{fr:List (List Int)} (j:jb s o x fr) (k:noB s o x y) (l:goS s o y z):∃ r∈fr,noB s o (eJ s o x r) z:=by
 obtain⟨e,e1,l1,h⟩:=k
 obtain⟨d,a,rfl⟩:=l
 have f:d∈cp s.length (o.getD x.1 0) x.2:=by
  rw[e1]
  exact wV (λc hc=>⟨(e.2.2 c hc).1,h c hc⟩) a
 obtain⟨r,m,b⟩:=j.2.1 d f
 refine⟨r,m,yp i e a,?_,gX _ _ _ _,λc hc=>?_⟩
 ·show(x.1+1) % o.length=(y.1+1) % o.length
  rw[e1]
 ·show(kF s y.2 d s.length).getD c 0<=(kF s x.2 r s.length).getD c 0
  rw[eM hc,eM hc]
  have h1:=h c hc
  have h2:=(e.2.2 c hc).2
  by_cases g:(c:Int)∈d
  ·rw[if_pos g,if_pos (b _ g)]
   exact Int.le_refl _
  ·rw[if_neg g]
   split <;> omega
noncomputable def yJ (c:Int) (r:List Int):List Int:=r.filter (λx=>decide (x<c))++c::r.filter (λx=>decide (c<x))
theorem jW {c x:Int}{r:List Int}:x∈yJ c r↔x=c\/x∈r:=by
 unfold yJ
 rw[HF,HP,Ia,Ia,decide_eq_true_eq,decide_eq_true_eq]
 constructor
 ·rintro(h|h|h)
  ·exact .inr h.1
  ·exact .inl h
  ·exact .inr h.1
 ·rintro(h|h)
  ·exact .inr (.inl h)
  ·by_cases h1:x<c
   ·exact .inl ⟨h,h1⟩
   ·by_cases h2:x=c
    ·exact .inr (.inl h2)
    ·exact .inr (.inr ⟨h,by omega⟩)
theorem pR {c:Int}{r:List Int} (h:c ∉ r):(yJ c r).length=r.length+1:=by
 unfold yJ
 rw[Ie,Iq]
 have : ∀ r:List Int,c ∉ r->(r.filter λx=>decide (x<c)).length+(r.filter λx=>decide (c<x)).length=r.length:=λr=>by
  induction r with
  | nil=>exactλ_=>rfl
  | cons x r b =>
   intro h
   have h1:c≠x:=λz=>h (by simp[z])
   have:=b λz=>h (HJ _ z)
   by_cases h2:x<c
   ·have a:¬c<x:=by omega
    rw[II (by simpa using h2),Jl (by simpa using a),Iq,Iq]
    omega
   ·have a:c<x:=by omega
    rw[Jl (by simpa using h2),II (by simpa using a),Iq,Iq]
    omega
 have:=this r h
 omega
theorem rD {c:Int}{r:List Int} (h:r.Pairwise (·<·)):(yJ c r).Pairwise (·<·):=by
 unfold yJ
 refine List.pairwise_append.mpr ⟨h.filter _,JX.mpr ⟨λx hx=>?_,h.filter _⟩,λx hx y a=>?_⟩
 ·simpa using(Ia.mp hx).2
 ·have h1:x<c:=by simpa using(Ia.mp hx).2
  rcases HP.mp a with a|a
  ·rw[a];exact h1
  ·have h2:c<y:=by simpa using(Ia.mp a).2
   omega
theorem A9 {s o l r:List Int}{d:Nat}{c:Int} (a:r∈cp s.length (o.getD d 0) l) (hc:0<=c/\c<s.length) (hn:c ∉ r) (h:(r.length:Int)+1<=o.getD d 0):yJ c r∈cp s.length (o.getD d 0) l:=by
 rw[nH] at a ⊢
 obtain⟨h1,i,b⟩:=a
 obtain⟨_,f,g⟩:=b7 _ _ h1
 refine⟨gO _ _ (rD f) λx hx=>?_,?_,λk hk e=>jW.mpr (.inr (b k hk e))⟩
 ·rcases jW.mp hx with rfl|hx
  ·exact hc
  ·exact g x hx
 ·rw[pR hn]
  omega
theorem mX {r:List Int} (h:r.Pairwise (·<·)):r.Nodup:=h.imp λ{a b} (z:a<b) (e:a=b)=>by omega
theorem pV {s o l:List Int}{d:Nat}{r1:List Int} (h1:r1∈cp s.length (o.getD d 0) l):∀ n (r:List Int),r∈cp s.length (o.getD d 0) l->r.length+n=r1.length->∃ b∈cp s.length (o.getD d 0) l,b.length=r1.length/\∀ x∈r,x∈b
 | 0,r,f,e=>⟨r,f,by omega,λx hx=>hx⟩
 | n + 1,r,f,e=>by
  obtain⟨_,g,h⟩:=b7 _ _ (Ia.mp h1).1
  have i:(r1.length:Int)<=o.getD d 0:=by
   have:=(Ia.mp h1).2
   unfold gh at this
   rw[HX,decide_eq_true_eq] at this
   exact this.1
  have : ∃ c∈r1,c ∉ r:=by
   by_cases hc:∃ c∈r1,c ∉ r
   ·exact hc
   ·have:=dg (mX g) (U:=r) λx hx=>by
     by_cases a:x∈r
     ·exact a
     ·exact absurd ⟨x,hx,a⟩ hc
    omega
  obtain⟨c,c1,c2⟩:=this
  obtain⟨b,a1,a2,a3⟩:=pV h1 n (yJ c r) (A9 f (h c c1) c2 (by omega)) (by rw[pR c2];omega)
  exact⟨b,a1,a2,λx hx=>a3 x (jW.mpr (.inr hx))⟩
theorem A6 {s o:List Int}{x:Std}{fr:List (List Int)}{r1:List Int} (h1:r1∈cp s.length (o.getD x.1 0) x.2) (c:∀ r∈cp s.length (o.getD x.1 0) x.2,r.length<=r1.length)
  (e:∀ r,r∈fr↔r∈cp s.length (o.getD x.1 0) x.2/\r.length=r1.length):jb s o x fr:=by
 refine⟨λr d=>((e r).mp d).1,λr d=>?_,λr d f g=>?_,λr d h=>(e r).mpr ⟨d,Nat.le_antisymm (c r d) (h r1 h1)⟩⟩
 ·obtain⟨f,a1,a2,a3⟩:=pV h1 (r1.length - r.length) r d (by have:=c r d;omega)
  exact⟨f,(e f).mpr ⟨a1,a2⟩,a3⟩
 ·have a:=((e r).mp d).2
  have b:=c f g
  omega
theorem wU {s o:List Int}{x:Std} (h:cp s.length (o.getD x.1 0) x.2=[]):jb s o x []:=by
 refine⟨λr a=>(by cases a),λr a=>?_,λr a=>(by cases a),λr a=>?_⟩
 all_goals
  rw[h] at a
  cases a
structure zn (s o:List Int) (lost:List Std):Prop where
 bg : ((0,s):Std)∈lost
 is : ∀ x∈lost,IsS s o x
 nd : lost.Nodup
 few:lost.length<=(B4 s o).length
 down:∀ (j:Nat) x,lost[j]? = some x->∃ fr,jb s o x fr/\∀ r∈fr,∃ i:Nat,i<j/\lost[i]? = some (eJ s o x r)
theorem gp.lostOk {s o:List Int}{places:Std->Option (Option Nat)}{lost:List Std} (h:gp (jb s o) (eJ s o) (0,s) [] [] places lost) (a:∀ x∈lost,IsS s o x):zn s o lost:=by
 have nd:lost.Nodup:=by simpa using h.nd
 refine⟨?_,a,nd,dg nd λx hx=>jY (a x hx),h.down⟩
 rcases h.hd with e|⟨_,e⟩
 ·cases e
 ·exact e
theorem vc (a:List (List Int)) (x:List Int):atI (lr (a++[x])) (-1)=some (.list (li x)):=by
 show atI (List.map _ (a++[x])) (-1)=_
 rw[Il]
 exact cG _ _
noncomputable def EA (l:List Int):PyData->PyData
 | .list es=>.list (li (cZ ((List.range ((bN es).getD []).length).map λi=>l.getD (((bN es).getD []).getD i 0).toNat 0)))
 | d=>d
theorem wF (l r:List Int):EA l (.list (li r))=.list (li (cZ ((List.range r.length).map λi=>l.getD (r.getD i 0).toNat 0))):=by
 show PyData.list (li (cZ ((List.range ((bN (r.map .int)).getD []).length).map λi=>l.getD (((bN (r.map .int)).getD []).getD i 0).toNat 0)))=_
 rw[bH]
 rfl
theorem tE (l:List Int) (ds:List PyData):(bY (ar ((ds.map (EA l)).map eQ)) ds .none).Perm ds:=fQ (by have:=aT ((ds.map (EA l)).map eQ);rwa [HC,HC] at this)
noncomputable abbrev cB:Stmt:=top 36
theorem cK:ao ["town", "standing", "lefts", "rows", "full"] ["town", "standing"] (ad cB):=⟨rfl,rfl,rfl,by decide +kernel,rfl,by decide +kernel,by decide +kernel⟩
noncomputable def xY:DSp:=λss R=>∃ (s o l:List Int) (d:Nat),ss=[.fr (.tuple [.list (li s),.list (li o)]),.fr (.tuple [.int d,.tuple (li l)])]/\s.length<=6/\0<=o.getD d 0/\(s.length<=4\/o.getD d 0<=3)/\StB s o d l /\
 ∀ fr:List (List Int),jb s o (d,l) fr->fr.length<64->(∀ r∈fr,r.length<=6)->R (.ow (lr fr)) [.un,.un]
theorem mD {f:Addr}{fd:k0} (F:Fun K "full_rows" "full_rows" cB f fd):a9 K fd ["town", "standing"] []:=F.binds (ps:=["town", "standing"]) λ_ _ _ _ _ _ us a=>us2 (Q:=λus=>ze _ ⟨us,[]⟩=pure (List.zip _ us)) a λ_ _=>rfl
theorem lz {f:Addr}{fd:k0} (F:Fun K "full_rows" "full_rows" cB f fd) (B:Bn mg) (L:rX K base "full_rows" fd) (g:Cal P w K mg base "choices" 6 (spD K lf)):bR P w K mg base CX0 7 f fd ["town", "standing"] (spD K xY):=by
 refine FC (k:=6) F cK (λss R h=>?_) (by decide) (λcdv M A outer s H E n=>⟨_,(aj (aA (i:=2) cK.nd rfl (Or.inr rfl) (bE (ah (K:=K) rfl) mIx (qv 1) ag (λ_ _=>rfl)))
   (aj (aA (i:=3) cK.nd rfl (Or.inr rfl) (aG g (n.mono (by decide)) rfl (aa (qf 0) (aa (qf 1) ac))))
   (aj (dU (i:=4)  cK.nd rfl rfl (N':=["row", "rows"]) (ix:=[none,some 3]) rfl (dq (N:=["town", "standing", "lefts", "rows", "full"]) (sc0:=ad cB) rfl rfl (by decide +kernel)) (bJ (K:=K) rfl (qf 3)) (λ_ _ _ _=>(ak (i:=0) (show List.Nodup (["row", "rows"]:List Str) by decide +kernel) rfl (Or.inl rfl))) (λ_ _ _ _=>(ik (aJ nt AJ (dw (fB (K:=K) rfl) fA rfl B.len PySem.boot_len (aa (qv 0) ac)) (dw (fB (K:=K) rfl) fA rfl B.len PySem.boot_len (aa (bE (ah (K:=K) rfl) mIx (qv 1) (CH jf Dj ag) (λ_ _=>rfl)) ac)) (aE _)))) (λ_ _ _ _=>(qf 0)))
   (ae (aD (CL 2 (p := "row") (x := "lefts") (K:=K) rfl (let ⟨c,T,a,b,d⟩:=L;⟨c,T,M.trans a,b,d⟩) (n.mono (by decide)) rfl B.sorted (aa (qv 4) ac) ⟨rfl,rfl,rfl,rfl,rfl,by decide,by decide,by decide⟩ rfl (Or.inr (Or.inl rfl)) (Or.inl rfl) (λz=>nomatch (show(some NameKind.cell:Option NameKind)=some .local from z)) (λ_ _ _ _ _ _=>rfl) (λc hc=>by cases hc;rfl) rfl (λ_ _ _ _ _ _ _=>(yj (K:=K) rfl rfl B.sorted (aa (cO (N':=["clock", "lefts"]) (ix:=[none,some 1]) rfl (Gj (by decide +kernel)) (bJ (K:=K) rfl (qf 0)) (λ_ _ _ _=>(ak (i:=0) (show List.Nodup (["clock", "lefts"]:List Str) by decide +kernel) rfl (Or.inl rfl))) (λ_ _ _ _=>bI) (λ_ _ _ _=>(bE (ah (K:=K) rfl) mIx (qv 1) (qv 0) (λ_ _=>rfl)))) ac))))))))),λss R h=>?_⟩)
 ·obtain⟨s,o,l,d,rfl,_⟩:=h
  rfl
 obtain⟨s,o,l,d,rfl,S,X,U,V,q⟩:=h
 obtain⟨s1,s2⟩:=id V
 walk_at "dd"
 refine⟨s,o,l,d,rfl,S,X,U,V,?_⟩
 walk_at "dd"
 have G:=qw s.length (o.getD d 0) l
 have I:(chX s.length (o.getD d 0) l).length<64:=by rw[G.length_eq];exact uB S U
 have v:∀ r∈chX s.length (o.getD d 0) l,r.length<=6:=λr n=>by
  have:=(b7 _ r (Ia.mp (G.mem_iff.mp n)).1).1
  omega
 have O:∀ r∈chX s.length (o.getD d 0) l,∀ x∈r,0<=x/\x<s.length:=λr n=>(b7 _ r (Ia.mp (G.mem_iff.mp n)).1).2.2
 have W:∀ m:Nat,((chX s.length (o.getD d 0) l).filter λr=>decide (r.length=m)).length<64:=λm=>JD (Jd _ _) I
 obtain⟨m,Y,Z⟩:∃ m:Nat,(∀ j,j<(chX s.length (o.getD d 0) l).length->∃ z:List Int,atI (lr (chX s.length (o.getD d 0) l)) (-1)=some (.list (li z))/\z.length=m) /\
   ∀ fr:List (List Int),fr.Perm ((chX s.length (o.getD d 0) l).filter λr=>decide (r.length=m))->jb s o (d,l) fr:=by
  by_cases C:chX s.length (o.getD d 0) l=[]
  ·refine⟨0,λj hj=>by rw[C] at hj;simp at hj,λfr t=>?_⟩
   rw[C] at t G
   rw[show fr=[] from List.Perm.eq_nil t]
   exact wU (show cp s.length (o.getD d 0) l=[] from List.Perm.eq_nil G.symm)
  ·obtain⟨rl,r,e1,e2,e3⟩:=xw C
   refine⟨r.length,λj hj=>⟨r,by rw[e1];exact vc _ _,rfl⟩,λfr t=>A6 (x:=(d,l)) e2 e3 λr'=>?_⟩
   rw[t.mem_iff,Ia,G.mem_iff]
   simp
 generalize chX s.length (o.getD d 0) l=cs at *
 refine d7 (λj=>decide ((cs.getD j []).length=m)) (λj=>.list (li (cs.getD j []))) (by rw[HC];omega) (λj hj Q Q' h1 h2=>?_) ?_
 ·rw[HC] at hj
  rw[lG]
  obtain⟨z,z1,z2⟩:=Y j hj
  walk_at "dd"
  refine⟨_,z1,_,rfl,?_⟩
  rw[HC,HC]
  refine dO (λh=>h1 (decide_eq_true (by omega))) (λh=>h2 (decide_eq_false (by omega)))
 rw[HC,fN cs [] (λr=>decide (r.length=m)) (λr=>PyData.list (li r))]
 walk_at "dd"
 have u:∀ r∈List.filter (λr=>decide (r.length=m)) cs,r∈cs:=λr n=>(Ia.mp n).1
 refine⟨by rw[HC];exact W m,EA l,.inr (.inr λx hx=>?_),λx hx=>?_,?_⟩
 ·obtain⟨y,hy,rfl⟩:=HS.mp hx
  obtain⟨r,_,rfl⟩:=HS.mp hy
  exact⟨_,rfl⟩
 ·obtain⟨r,n,rfl⟩:=HS.mp hx
  refine⟨_,rfl,cT (λi=>.int (l.getD (r.getD i 0).toNat 0)) (by rw[HC];have:=v r (u r n);omega) (λi hi Q hQ=>?_) ?_⟩
  ·rw[HC] at hi
   rw[cR]
   have h9:=O r (u r n) _ (show r.getD i 0∈r by rw[HB,Hz hi];exact Ih hi)
   walk_at "dd"
   rw[show r.getD i 0=((r.getD i 0).toNat:Int) by omega]
   exact⟨_,eu (by omega),hQ⟩
  ·have e:(List.range (li r).length).map (λi:Nat=>PyData.int (l.getD (r.getD i 0).toNat 0))=li ((List.range r.length).map λi=>l.getD (r.getD i 0).toNat 0):=by
    rw[HC]
    show _=List.map _ (List.map _ _)
    rw[Ip]
    rfl
   rw[e]
   walk_at "dx"
   refine⟨_,rfl,?_,(wF l r).symm⟩
   have:=v r (u r n)
   simp;omega
 ·have J:=tE l (List.map (λr=>PyData.list (li r)) (List.filter (λr=>decide (r.length=m)) cs))
  generalize bY (ar _) _ _=es at J ⊢
  obtain⟨rr,D,rfl⟩:=tJ J _ rfl
  exact q rr (Z rr D) (by rw[D.length_eq];exact W m) λr n=>v r (u r (D.mem_iff.mp n))
noncomputable abbrev stS (x:Std):PyData:=cY ((x.1:Int),x.2)
noncomputable def plV:PyData->Option Nat
 | .int i=>some i.toNat
 | _=>none
noncomputable def kOf (x:Std):bh:=((x.1:Int),x.2)
theorem AZ {x y:Std} (h:kOf x=kOf y):x=y:=by
 obtain⟨a,b⟩:=x
 obtain⟨c,d⟩:=y
 unfold kOf at h
 simp only[Prod.mk.injEq] at h ⊢
 exact⟨by omega,h.2⟩
noncomputable def plc (kvs:List (bh×PyData)) (x:Std):Option (Option Nat):=(ci kvs (kOf x)).map plV
theorem nh (kvs:List (bh×PyData)) (x:Std) (d:PyData) (y:Std):plc (fY kvs (kOf x) d) y=if y=x then some (plV d) else plc kvs y:=by
 unfold plc
 rw[kc]
 by_cases h:y=x
 ·rw[if_pos h,if_pos (by rw[h])]
  rfl
 ·rw[if_neg h,if_neg λz=>h (AZ z)]
theorem zN {κ β:Type} [DecidableEq κ] {kvs:List (κ×β)}{k:κ}{v:β} (h:(ci kvs k).isSome=true):(fY kvs k v).length=kvs.length:=by
 unfold fY
 rw[if_pos h,HC]
theorem oZ {κ β:Type} [DecidableEq κ] {kvs:List (κ×β)}{k:κ}{v:β}:∀ p∈fY kvs k v,p.2=v\/p∈kvs:=by
 intro p a
 unfold fY at a
 split at a
 ·obtain⟨q,b,rfl⟩:=HS.mp a
  split
  ·exact .inl rfl
  ·exact .inr b
 ·rcases HF.mp a with h|h
  ·exact .inr h
  ·rw[HD.mp h]
   exact .inl rfl
theorem wP {κ β:Type} [DecidableEq κ] {kvs:List (κ×β)}{k:κ}{v:β} (h:ci kvs k=some v):(k,v)∈kvs:=by
 induction kvs with
 | nil=>cases h
 | cons p kvs a =>
  rw[bv] at h
  split at h
  ·rename_i e
   cases h
   subst e
   exact HH
  ·exact HJ _ (a h)
theorem wL (W:List (List (List Int))):(List.range (List.map wD W).length).map (λi:Nat=>PyData.list (li ((W.getD i []).getD 0 [])))=lr (W.map λw=>w.getD 0 []):=by
 show _=List.map _ (List.map _ _)
 rw[HC,Ip]
 refine IS (by simp) λi h1 h2=>?_
 rw[HC] at h2
 simp[HB,h2]
theorem uR (ns:List (List Int)) (a b:Option Int):mh (lr ns) a b=lr ((ns.drop (HT.sIx ns.length 0 a)).take (HT.sIx ns.length ns.length b - HT.sIx ns.length 0 a)):=by
 unfold mh
 show(List.drop _ (List.map (λr=>PyData.list (li r)) ns)).take _=List.map _ _
 rw[HC,List.map_take,List.map_drop]
theorem uQ (ns:List (List Int)) (c:Nat):mh (lr ns) none (some (c:Int))=lr (ns.take c):=by
 rw[uR,HT.sIx_none,HT.sIx_nat,JJ,Nat.sub_zero]
 by_cases h:c<=ns.length
 ·rw[JU h]
 ·rw[JM (by omega),IZ (HK _),IZ (by omega)]
theorem uS (ns:List (List Int)) (c:Nat):mh (lr ns) (some (c:Int)) none=lr (ns.drop c):=by
 rw[uR,HT.sIx_none,HT.sIx_nat]
 by_cases h:c<=ns.length
 ·rw[JU h,IZ (by simp)]
 ·rw[JM (by omega),IL (HK _),IL (by omega)]
  simp
noncomputable def Gq (s o:List Int) (x:Std):List Std:=(cp s.length (o.getD x.1 0) x.2).map (eJ s o x)
noncomputable def jc (s o:List Int) (x:Std):Prop:=∃ S:Std->Prop,S x/\∀ y,S y->∃ z∈Gq s o y,S z
theorem jc.step {s o:List Int}{x:Std} (h:jc s o x):∃ z∈Gq s o x,jc s o z:=by
 obtain⟨S,hx,a⟩:=h
 obtain⟨z,hz,sz⟩:=a x hx
 exact⟨z,hz,S,sz,a⟩
noncomputable abbrev Lds:=List (Std×List Std)
theorem gp.ringGo {s o:List Int}{c x:Std}{P:List Std}{V:List (List (List Int))}{r:List Int}{w:List (List Int)}{d:Std->Option (Option Nat)}{lost:List Std}{k:Nat}
  (b:gp (jb s o) (eJ s o) c (P++[x]) (V++[r::w]) d lost) (f:r∈cp s.length (o.getD x.1 0) x.2) (hk:(P++[x])[k]? = some (eJ s o x r)):jc s o c:=by
 have j:=b.len
 refine⟨λy=>y∈P++[x],?_,λy g=>?_⟩
 ·rcases b.hd with e|⟨e,_⟩
  ·exact List.mem_of_mem_head? e
  ·simp at e
 obtain⟨i,hi,e⟩:=Im g
 by_cases h2:i+1<(P++[x]).length
 ·have a:i<(V++[r::w]).length:=by omega
  obtain⟨q,t,e1,e2⟩:=b.lnk i _ _ _ (Hz hi) (Hz h2) (Hz a)
  obtain⟨fr,pre,a1,a2,_⟩:=b.way i _ _ (Hz hi) (Hz a)
  rw[e] at e2 a1
  refine⟨eJ s o y q,HS.mpr ⟨q,a1.1 q (by rw[a2,e1];simp),rfl⟩,?_⟩
  show _∈P++[x]
  rw[e2]
  exact Ih h2
 ·have h:i=P.length:=by simp at hi h2;omega
  have ex:y=x:=by
   rw[<-e]
   subst h
   simp
  subst ex
  exact⟨eJ s o y r,HS.mpr ⟨r,f,rfl⟩,IE hk⟩
theorem gp.lostNo {s o:List Int}{a:Std}{f:Std->Option (Option Nat)}{lost:List Std} (g:∀ x∈s,1<=x) (d:gp (jb s o) (eJ s o) a [] [] f lost) (b:∀ x∈lost,IsS s o x):¬jc s o a:=by
 have key:∀ n (j:Nat) x,j<n->lost[j]? = some x->∀ y,noB s o x y->¬jc s o y:=by
  intro n
  induction n with
  | zero=>intro j x hj;omega
  | succ n h =>
   intro j x hj hx y hn hc
   obtain⟨z,hz,k⟩:=hc.step
   obtain⟨fr,l,hd⟩:=d.down j x hx
   obtain⟨q,m,rfl⟩:=HS.mp hz
   obtain⟨r,p,hn2⟩:=xa g l hn ⟨q,m,rfl⟩
   obtain⟨i,hi,e⟩:=hd r p
   exact h i _ (by omega) e _ hn2 k
 rcases d.hd with e|⟨_,e⟩
 ·simp at e
 obtain⟨j,hj,e⟩:=Im e
 have hx:=b a (by rw[<-e];exact Ih hj)
 exact key (j+1) j a (by omega) (by rw[Hz hj,e]) a ⟨hx,rfl,hx.2.1,λc hc=>Int.le_refl _⟩
noncomputable abbrev bu:Stmt:=top 37
theorem aM:ao ["town", "standing", "path", "ways", "places", "lost", "ahead", "rows"] ["town", "standing"] (ad bu):=⟨rfl,rfl,rfl,by decide +kernel,rfl,by decide +kernel,by decide +kernel⟩
noncomputable def TbL (s o:List Int):Prop:=s.length<=6/\1<=o.length/\(∀ x∈s,1<=x)/\(∀ h∈o,0<=h)/\(s.length<=4\/∀ h∈o,h<=3)/\(B4 s o).length<100000
noncomputable def xV:DSp:=λss R=>∃ (s o:List Int) (a:Std),ss=[.fr (.tuple [.list (li s),.list (li o)]),.fr (stS a)]/\TbL s o/\IsS s o a /\
 (jc s o a->∀ (A B:List (List Int)) (x:PyData),R (.fr (.tuple [.tuple [.list (lr A),.list (lr B)],x])) [.un,.un]) /\
 (¬ jc s o a->∀ lost:List Std,(a=(0,s)->zn s o lost)->R (.fr (.tuple [.none,.list (lost.map stS)])) [.un,.un])
theorem gm {f:Addr}{fd:k0} (F:Fun K "looked_through" "looked_through" bu f fd):a9 K fd ["town", "standing"] []:=F.binds (ps:=["town", "standing"]) λ_ _ _ _ _ _ us a=>us2 (Q:=λus=>ze _ ⟨us,[]⟩=pure (List.zip _ us)) a λ_ _=>rfl
theorem f9 {f:Addr}{fd:k0} (F:Fun K "looked_through" "looked_through" bu f fd) (B:Bn mg) (c:Cal P w K mg base "full_rows" 7 (spD K xY)) (D:Cal P w K mg base "behind" 1 (spD K jF)):bR P w K mg base CX0 9 f fd ["town", "standing"] (spD K xV):=by
 refine okD (k:=8) F aM (λss R h=>?_) (by decide) (λcdv A outer s H E G=>⟨_,(am (aA (i:=2) aM.nd rfl (Or.inl rfl) (eP (aa (qf 1) ac)))
   (am (aA (i:=3) aM.nd rfl (Or.inl rfl) (yl (aa (aG c (G.mono (by decide)) rfl (aa (qf 0) (aa (qf 1) ac))) ac)))
   (am (aA (i:=4) aM.nd rfl (Or.inl rfl) (CT (K:=K) rfl (hu2 G) (qf 1) ag))
   (am (aA (i:=5) aM.nd rfl (Or.inl rfl) (eP ac))
   (am (jN PassesOwn.never (pi (K:=K) rfl (qv 2)) (am (eW (df (sZ 3 (K:=K) rfl rfl)) (am (eX (qV 5 (K:=K) rfl rfl (CO 2 (K:=K) rfl rfl)))
   (am (yk 4 (K:=K) rfl (hu2 G) rfl (bE (ah (K:=K) rfl) mIx (qv 5) (CH jf Dj ag) (λ_ _=>rfl)) f7)
   (am (eX (CN 3 (K:=K) rfl rfl))
   (ae qU)))) aW)
   (am (aA (i:=6) aM.nd rfl (Or.inl rfl) (aG D (G.mono (by decide)) rfl (aa (qf 0) (aa (bE (ah (K:=K) rfl) mIx (qv 2) (CH jf Dj ag) (λ_ _=>rfl)) (aa (zX 3 (K:=K) rfl rfl) ac)))))
   (ae (eW (aJ (A0 (K:=K) rfl (hu2 G)) AH (qv 6) (qv 4) (by with_unfolding_all rfl)) (am (yk 4 (K:=K) rfl (hu2 G) rfl (qf 6) (dw (fB (K:=K) rfl) fA rfl B.len PySem.boot_len (aa (qv 2) ac)))
   (am (eX (qV 2 (K:=K) rfl rfl (qf 6)))
   (ae (eX (CU 3 (K:=K) rfl rfl (aG c (G.mono (by decide)) rfl (aa (qf 0) (aa (qf 6) ac)))))))) (ae (eW (aJ tX FG (bE (FN (K:=K) rfl (hu2 G)) FF (qv 4) (qv 6) (λ_ _=>rfl)) f7 (aE _)) (ae (eX (zU 3 (K:=K) rfl rfl))) (am (dU (i:=7)  aM.nd rfl rfl (N':=["way"]) (ix:=[none]) rfl (dq (N:=["town", "standing", "path", "ways", "places", "lost", "ahead", "rows"]) (sc0:=ad bu) rfl rfl (by decide +kernel)) (bJ (K:=K) rfl (qf 3)) (λ_ _ _ _=>(ak (i:=0) (show List.Nodup (["way"]:List Str) by decide +kernel) rfl (Or.inl rfl))) (λ_ _ _ _=>bI) (λ_ _ _ _=>(bE (ah (K:=K) rfl) G7 (qv 0) ag (λ_ _=>rfl))))
   (ae (aD (gJ (aa (gJ (aa (m4 (K:=K) rfl (qv 7) fe (fb (bE (FN (K:=K) rfl (hu2 G)) FF (qv 4) (qv 6) (λ_ _=>rfl)))) (aa (m4 (K:=K) rfl (qv 7) (fb (bE (FN (K:=K) rfl (hu2 G)) FF (qv 4) (qv 6) (λ_ _=>rfl))) fe) ac))) (aa (qf 5) ac)))))))))))))
   (ae (aD (gJ (aa f7 (aa (qf 5) ac)))))))))),λss R h=>?_⟩)
 ·obtain⟨s,o,M,rfl,_⟩:=h
  rfl
 obtain⟨s,o,M,rfl,⟨t1,t2,t3,t4,t5,t6⟩,i0,q1,q2⟩:=h
 walk_at "dx"
 have hh:∀ d,d<o.length->0<=o.getD d 0/\(s.length<=4\/o.getD d 0<=3):=λd hd=>⟨t4 _ (cg hd),t5.imp id λh=>h _ (cg hd)⟩
 refine⟨HQ (by decide) au,?_⟩
 walk_at "dx"
 refine⟨s,o,M.2,M.1,rfl,t1,(hh _ i0.1).1,(hh _ i0.1).2,⟨i0.1,i0.2.1⟩,λfr X Y Z=>?_⟩
 refine⟨[wD fr],?_,HQ (by decide) au,λS=>?_⟩
 ·show(eN [] (Sl.ow (lr fr))).bind _=_
  rw[oJ]
  rfl
 walk_at "dx"
 refine⟨kOf M,rfl,rfl,λS1=>?_⟩
 walk_at "dx"
 refine⟨Ig _,?_⟩
 walk_at "dx"
 refine⟨λm env=>∃ (path:List Std) (U:List (List (List Int))) (kvs:List (bh×PyData)) (lost:List Std) (S1 S2:List Addr) (a b:Sl),
  env=[.fr (.tuple [.list (li s),.list (li o)]),.fr (stS M),.ow (path.map stS),.tr S1 (fD U),.tr S2 (fj kvs),.ow (lost.map stS),a,b] /\
  gp (jb s o) (eJ s o) M path U (plc kvs) lost/\(∀ x∈path++lost,IsS s o x)/\(∀ w∈U,w.length<64/\∀ r∈w,r.length<=6)/\(∀ p∈kvs,p.2=.none\/∃ i:Nat,p.2=.int i)/\kvs.length<=path.length+lost.length/\m=iX (B4 s o).length 66 path lost U,⟨_,[M],[fr],[(kOf M,.int 0)],[],S,S1,.un,.un,rfl,?_,?_,?_,?_,?_,rfl⟩,?_⟩
 ·refine gp.init X λx=>?_
  show plc (fY [] (kOf M) (.int 0)) x=_
  rw[nh]
  rfl
 ·intro x hx
  simp at hx
  rw[hx]
  exact i0
 ·intro w hw
  simp at hw
  rw[hw]
  exact⟨Y,Z⟩
 ·intro p hp
  simp at hp
  rw[hp]
  exact .inr ⟨0,rfl⟩
 ·simp
 rintro m env ⟨path,U,kvs,lost,S1,S2,a,b,rfl,j,l,hw,O,T,rfl⟩
 have g:=j.few λx hx=>jY (l x hx)
 have I:∀ n:Nat,n<=100000->n<sizeLine:=λn h=>HV (by omega) au
 walk_at "dx"
 rcases JH path with rfl|⟨P,x,rfl⟩
 ·have e:U=[]:=List.length_eq_zero_iff.mp j.len
  subst e
  rw[if_neg (by simp)]
  walk_at "dx"
  refine⟨HQ (by decide) au,q2 (j.lostNo t3 λx hx=>l x (by simpa using hx)) _ λe=>?_⟩
  subst e
  exact j.lostOk λx hx=>l x (by simpa using hx)
 rw[JI] at j l T g ⊢
 obtain⟨V,w,rfl⟩:∃ V w,U=V++[w]:=by
  rcases JH U with rfl|⟨V,w,rfl⟩
  ·have:=j.len
   simp at this
  ·exact⟨V,w,JI ..⟩
 have a0:IsS s o x:=l x (by simp)
 have hl:V.length=P.length:=by have:=j.len;simpa using this
 rw[Il,if_pos (by simp)]
 cases w with
 | nil =>
  refine⟨V,[],rfl,?_⟩
  rw[if_pos (show(!([]:List (List Int)).isEmpty)=false from rfl)]
  have gx:(ci kvs (kOf x)).isSome=true:=by
   have:=(j.on x P.length).mpr (by simp)
   unfold plc at this
   cases e:ci kvs (kOf x) with
   | none=>rw[e] at this;cases this
   | some v=>rfl
  refine⟨stS x,by simp,I _ (by simp at g ⊢;omega),?_⟩
  walk_at "dx"
  refine⟨⟨kvs,rfl⟩,stS x,cG _ _,kvs,rfl,kOf x,rfl,I _ (by omega),?_⟩
  walk_at "dx"
  refine⟨V,[],rfl,λS'=>?_⟩
  walk_at "dx"
  refine⟨_,gp.lt_lose g,P,by simp,V,rfl,fY kvs (kOf x) .none,rfl,lost++[x],by simp,j.lose λy=>nh kvs x .none y,λy hy=>l y (by simp at hy ⊢;rcases hy with h|h|h <;> simp[h]),λv J=>hw v (by simp[J]),λp hp=>?_,?_,rfl⟩
  ·rcases oZ p hp with e|e
   ·exact .inl e
   ·exact O p e
  ·rw[zN gx]
   simp at T ⊢
   omega
 | cons r w =>
  refine⟨V,r::w,rfl,?_⟩
  rw[if_neg (show ¬(!(r::w).isEmpty)=false from by simp)]
  have G:r∈cp s.length (o.getD x.1 0) x.2:=by
   obtain⟨fr,pre,a1,a2,_⟩:=j.way P.length x (r::w) (by simp) (by rw[<-hl];simp)
   exact a1.1 r (by rw[a2];simp)
  have L:=yp t3 a0 G
  walk_at "dx"
  refine⟨stS x,cG _ _,V,r,w,rfl,s,o,x.2,r,x.1,rfl,t2,a0.2.1,by omega,?_⟩
  walk_at "dx"
  refine⟨kOf (eJ s o x r),rfl,rfl,kvs,rfl,dO (λh=>?_) (λh=>?_)⟩
  ·have C:plc kvs (eJ s o x r)=none:=by
    unfold plc
    cases e:ci kvs (kOf (eJ s o x r)) with
    | none=>rfl
    | some v=>rw[e] at h;cases h
   have a5:(P++[x]++[eJ s o x r]++lost).Nodup:=by
    have hz:=j.nd
    have n1:eJ s o x r ∉ P++[x]:=λz=>by
     obtain⟨i,hi,e⟩:=Im z
     have:=(j.on (eJ s o x r) i).mpr (by rw[Hz hi,e])
     rw[C] at this;cases this
    have n2:eJ s o x r ∉ lost:=λz=>by
     have:=(j.off (eJ s o x r)).mpr z
     rw[C] at this;cases this
    have:(eJ s o x r::(P++[x]++lost)).Nodup:=Iu.mpr ⟨λz=>(HF.mp z).elim n1 n2,hz⟩
    refine List.Perm.nodup_iff ?_ |>.mp this
    rw[IN (P++[x]) [eJ s o x r] lost]
    exact List.perm_middle.symm
   have W:∀ y∈P++[x]++[eJ s o x r]++lost,IsS s o y:=λy hy=>by
    simp only[HF,HD] at hy
    rcases hy with ((h|h)|h)|h
    ·exact l y (by simp[h])
    ·rw[h];exact a0
    ·rw[h];exact L
    ·exact l y (by simp[h])
   have a4:=dg a5 λy hy=>jY (W y hy)
   refine⟨⟨kvs,rfl⟩,kvs,rfl,kOf (eJ s o x r),rfl,rfl,I _ (by omega),?_⟩
   walk_at "dx"
   refine⟨I _ (by simp at g ⊢;omega),?_⟩
   walk_at "dx"
   refine⟨s,o,(eJ s o x r).2,(eJ s o x r).1,rfl,t1,(hh _ L.1).1,(hh _ L.1).2,⟨L.1,L.2.1⟩,λfr X Y Z=>?_⟩
   walk_at "dx"
   refine⟨wD fr,oJ (env:=[]) fr,I _ (by simp at g ⊢;omega),λS'=>⟨_,gp.lt_go (x:=eJ s o x r) (fr:=fr) (by simp at a4 ⊢;omega) (by omega),P++[x]++[eJ s o x r],by rw[Il,Il];rfl,V++[r::w]++[fr],by simp,_,rfl,lost,rfl,j.go C X (λy=>?_),W,λv J=>?_,λp hp=>?_,?_,rfl⟩⟩
   ·rw[nh]
    simp[plV]
   ·rcases HF.mp J with h|h
    ·exact hw v h
    ·rw[HD.mp h]
     exact⟨Y,Z⟩
   ·rcases oZ p hp with e|e
    ·exact .inr ⟨_,e⟩
    ·exact O p e
   ·refine HQ (jH _ _ _) ?_
    simp at T ⊢
    omega
  ·cases J:ci kvs (kOf (eJ s o x r)) with
   | none=>rw[J] at h;exact absurd rfl h
   | some v =>
    refine⟨kvs,rfl,kOf (eJ s o x r),rfl,rfl,v,J,?_⟩
    rcases O _ (wP J) with e|⟨k,e⟩
    ·simp only at e
     subst e
     rw[if_pos (show jv .none=true from rfl)]
     refine⟨V,r,w,rfl,_,gp.lt_skip,P++[x],by simp,V++[w],rfl,kvs,rfl,lost,rfl,j.skip (by unfold plc;rw[J];rfl),l,λu hu=>?_,O,T,rfl⟩
     rcases HF.mp hu with h|h
     ·exact hw u (by simp[h])
     ·rw[HD.mp h]
      have:=hw (r::w) (by simp)
      exact⟨by have:=this.1;simp at this;omega,λr' a6=>this.2 r' (by simp[a6])⟩
    ·simp only at e
     subst e
     rw[if_neg (show ¬jv (.int (k:Int))=true fromλz=>Bool.noConfusion z)]
     have hk:(P++[x])[k]? = some (eJ s o x r):=(j.on _ k).mp (by unfold plc;rw[J];simp[plV])
     have hW:∀ i,i<(V++[r::w]).length->∃ q t,(V++[r::w]).getD i []=q::t:=λi hi=>by
      have a7:i<(P++[x]).length:=by rw[<-j.len];exact hi
      by_cases b0:i=V.length
      ·subst b0
       exact⟨r,w,by simp⟩
      ·have h2:i+1<(P++[x]).length:=by simp at hi ⊢;omega
       obtain⟨q,t,e1,_⟩:=j.lnk i _ _ _ (Hz a7) (Hz h2) (Hz hi)
       exact⟨q,t,by rw[HB,Hz hi,e1];rfl⟩
     refine cT (λi=>.list (li (((V++[r::w]).getD i []).getD 0 []))) (by simp at g ⊢;omega) (λi hi Q hQ=>?_) ?_
     ·rw[HC] at hi
      obtain⟨q,t,e1⟩:=hW i hi
      have e2:(V++[r::w])[i]=q::t:=by
       rw[<-e1,HB,Hz hi]
       rfl
      rw[IT,e2]
      rw[e1] at hQ
      walk_at "dx"
      exact⟨_,rfl,hQ⟩
     rw[wL]
     walk_at "dx"
     refine⟨kvs,rfl,kOf (eJ s o x r),rfl,rfl,_,J,_,rfl,kvs,rfl,kOf (eJ s o x r),rfl,rfl,_,J,_,rfl,?_⟩
     rw[uQ,uS]
     exact⟨HQ (by decide) au,HQ (by decide) au,q1 (j.ringGo G hk) _ _ _⟩
noncomputable abbrev fK:Stmt:=top 38
theorem qQ:ao ["town"] ["town"] (ad fK):=⟨rfl,rfl,rfl,by decide +kernel,rfl,by decide +kernel,by decide +kernel⟩
noncomputable def oQ:DSp:=λss R=>∃ (s o:List Int),ss=[.fr (.tuple [.list (li s),.list (li o)])]/\TbL s o/\∀ v:PyData,(jv v=false↔jc s o (0,s))->R (.fr v) [.un]
theorem rN {f:Addr}{fd:k0} (F:Fun K "plan_of" "plan_of" fK f fd):a9 K fd ["town"] []:=F.binds (ps:=["town"]) λ_ _ _ _ _ _ us a=>us1 (Q:=λus=>ze _ ⟨us,[]⟩=pure (List.zip _ us)) a λ_=>rfl
theorem qZ {f:Addr}{fd:k0} (F:Fun K "plan_of" "plan_of" fK f fd) (B:Bn mg) (a:Cal P w K mg base "looked_through" 9 (spD K xV)) (b:Cal P w K mg base "begun" 1 (spD K mQ)):bR P w K mg base CX0 10 f fd ["town"] (spD K oQ):=by
 refine okD (k:=9) F qQ (λss R h=>?_) (by decide) (λcdv A outer s H E d=>⟨_,(ae (aD (bE (ah (K:=K) rfl) mIx (aG a (d.mono (by decide)) rfl (aa (qf 0) (aa (aG b (d.mono (by decide)) rfl (aa (qf 0) ac)) ac))) ag (λ_ _=>rfl)))),λss R h=>?_⟩)
 ·obtain⟨s,o,rfl,_⟩:=h
  rfl
 obtain⟨s,o,rfl,t,q⟩:=h
 obtain⟨i,e,g,j,l,m⟩:=id t
 walk_at "dd"
 refine⟨s,o,rfl,?_⟩
 walk_at "dd"
 refine⟨s,o,(0,s),rfl,t,⟨e,rfl,λc hc=>⟨g _ (cg hc),Int.le_refl _⟩⟩,λhc A B x=>?_,λhc lost _=>?_⟩
 ·walk_at "dx"
  exact q _ (by simpa[jv] using hc)
 ·walk_at "dx"
  exact q _ (by simpa[jv] using hc)
noncomputable abbrev bK:Stmt:=top 42
theorem cx:ao ["_law_plan", "_law_rows", "_law_row"] ["_law_plan"] (ad bK):=⟨rfl,rfl,rfl,by decide +kernel,rfl,by decide +kernel,by decide +kernel⟩
noncomputable def oT:DSp:=λss R=>∃ (A B:List (List Int)),ss=[.fr (.tuple [.list (lr A),.list (lr B)])]/\A.length+B.length<100000/\(∀ r∈A++B,r.length<=6)/\R (.fr (.bool true)) [.un]
theorem iQ {f:Addr}{fd:k0} (F:Fun K "_law_is_plan" "_law_is_plan" bK f fd):a9 K fd ["_law_plan"] []:=F.binds (ps:=["_law_plan"]) λ_ _ _ _ _ _ us a=>us1 (Q:=λus=>ze _ ⟨us,[]⟩=pure (List.zip _ us)) a λ_=>rfl
theorem iB {f:Addr}{fd:k0} (F:Fun K "_law_is_plan" "_law_is_plan" bK f fd) (B:Bn mg):bR P w K mg base CX0 1 f fd ["_law_plan"] (spD K oT):=by
 refine okD (k:=0) F cx (λss R h=>?_) (by decide) (λcdv A outer s H E c=>⟨_,(aj (eW (PW.pt (iY (df (cN (tp (K:=K) rfl ul rfl B.isinstance rfl B.tuple PyProof.Rows.boot_tuple (qv 0)))) (fP (aJ nq AI (dw (fB (K:=K) rfl) fA rfl B.len PySem.boot_len (aa (qv 0) ac)) ag (aE _))))) (ae (aD gK)) aW)
   (aj (dW PassesOwn.never rfl (CF (K:=K) rfl (qf 0)) (ak (i:=1) cx.nd rfl (Or.inl rfl)) (aj (eW (df (cN (tp (K:=K) rfl pH rfl B.isinstance rfl B.list PyProof.Rows.boot_list (qv 1)))) (ae (aD gK)) aW)
   (ae (dW PassesOwn.never rfl (bJ (K:=K) rfl (qf 1)) (ak (i:=2) cx.nd rfl (Or.inl rfl)) (aj (eW (df (cN (tp (K:=K) rfl pH rfl B.isinstance rfl B.list PyProof.Rows.boot_list (qv 2)))) (ae (aD gK)) aW)
   (ae (eW (aJ (He (K:=K) rfl c.units) mNe (cO (N':=["_law_one"]) (ix:=[none]) rfl (dq (N:=["_law_plan", "_law_rows", "_law_row"]) (sc0:=ad bK) rfl rfl (by decide +kernel)) (bJ (K:=K) rfl (qf 2)) (λ_ _ _ _=>(ak (i:=0) (show List.Nodup (["_law_one"]:List Str) by decide +kernel) rfl (Or.inl rfl))) (λ_ _ _ _=>(ik (PW.pt (iY (df (cN (tp (K:=K) rfl AV rfl B.isinstance rfl B.int PyProof.Rows.boot_int (qv 0)))) (fP (cN (tp (K:=K) rfl wA rfl B.isinstance rfl B.bool PyProof.Rows.boot_bool (qv 0)))))))) (λ_ _ _ _=>(qf 0))) (eP ac) (aE _)) (ae (aD gK)) aW)))))))
   (ae (aD gK)))),λss R h=>?_⟩)
 ·obtain⟨A,B,rfl,_⟩:=h
  rfl
 obtain⟨A,B,rfl,h1,h2,q⟩:=h
 walk_at "dd"
 refine dO (λh=>absurd rfl h) (λ_=>a8 (λi env=>∃ a b:Sl,env=[.fr (.tuple [.list (lr A),.list (lr B)]),a,b]) ⟨_,_,rfl⟩ ?_ ?_)
 ·rintro i env hi ⟨a,b,rfl⟩
  obtain⟨Z,d,hz,e⟩:∃ Z:List (List Int),(∀ r∈Z,r.length<=6)/\Z.length<100000/\[PyData.list (lr A),PyData.list (lr B)][i]=.list (lr Z):=by
   match i,hi with
   | 0,_=>exact⟨A,λr c=>h2 r (HG _ c),by omega,rfl⟩
   | 1,_=>exact⟨B,λr c=>h2 r (HA _ c),by omega,rfl⟩
  rw[e]
  walk_at "dd"
  refine a8 (λi env=>∃ b:Sl,env=[.fr (.tuple [.list (lr A),.list (lr B)]),.fr (.list (lr Z)),b]) ⟨_,rfl⟩ ?_ ?_
  ·rintro i env hi ⟨b,rfl⟩
   rw[HC] at hi
   rw[lG]
   have c:=d _ (dZ hi)
   walk_at "dd"
   refine d7 (λ_=>false) (λ_=>.none) (by rw[HC];omega) (λj hj Q l q1 g=>?_) ?_
   ·rw[cR]
    walk_at "dd"
    exact g rfl
   rw[show(List.filter (λ_=>false) (List.range (li (Z.getD i [])).length))=([]:List Nat) from by simp,List.map_nil]
   walk_at "dd"
   exact⟨Ig _,(Sh.ints 0 []).shp (by decide),(Sh.ints 0 []).shp (by decide),dO (λh=>Bool.noConfusion h) (λ_=>trivial)⟩
  ·rintro env ⟨b,rfl⟩
   walk_at "dd"
 ·rintro env ⟨a,b,rfl⟩
  walk_at "dd"
  exact q
theorem rG (rr:List (List Int)):PyData.eqv (.list (lr rr)) (.list [])=decide (rr=[]):=by
 cases rr with
 | nil=>rfl
 | cons r rr=>rfl
theorem GA {rr:List (List Int)}{k:Nat} (h:k<rr.length):atI (lr rr) (k:Int)=some (.list (li (rr.getD k []))):=cF (by
 rw[Ic,Hz h,HB,Hz h]
 rfl)
theorem BS {s o:List Int}{A B:List (List Int)} (b:∀ x∈s,1<=x) (k:KP s o A B) :
  (∀ i,i<A.length+2*B.length->(((A++B++B).getD i []).length:Int)<=o.getD (i % o.length) 0/\((A++B++B).getD i []).Pairwise (·<·)/\∀ x∈(A++B++B).getD i [],0<=x/\x<s.length) /\
  ∀ c,c<s.length->(∀ i,i<A.length+2*B.length->(i:Int) - bj (Pc (A++B++B) c) i<=s.getD c 0)/\(A.length:Int)+B.length<=bj (Pc (A++B++B) c) (A.length+2*B.length):=by
 have a:=zr k
 obtain⟨g,h,d,e⟩:=k
 refine⟨λi hi=>?_,λc hc=>⟨λi hi=>?_,?_⟩⟩
 ·have:=d i hi
  unfold nI ud ii at this
  rw[HX,HX,HX,ij,nL,decide_eq_true_eq] at this
  exact⟨this.2.1,this.1.1,this.1.2⟩
 ·have:=uh (o:=o) b hc i λj _=>a j
  rw[<-uf (rows:=A++B++B) i λj hj=>mV (by omega),jZ hc] at this
  omega
 ·obtain⟨t,l,f⟩:=gM.mp (gN.mp e c hc)
  refine Int.not_lt.mp λhn=>?_
  have:=dj (Pc (A++B++B) c) (A.length+2*B.length) (A.length+B.length+t) (by omega) (by omega)
  unfold Pc at this
  rw[kD,if_neg (by simp)] at this
  rw[Ie,Nat.add_sub_cancel_left] at this
  exact absurd f (of_decide_eq_false this)
noncomputable abbrev cM:Stmt:=top 43
theorem aF:ao ["_law_spans", "_law_hands", "_law_plan", "_law_ahead", "_law_again", "_law_rows", "_law_day", "_law_row", "_law_k", "_law_clock", "_law_last"] ["_law_spans", "_law_hands", "_law_plan"] (ad cM):=⟨rfl,rfl,rfl,by decide +kernel,rfl,by decide +kernel,by decide +kernel⟩
noncomputable def oR:DSp:=λss R=>∃ (s o:List Int) (A B:List (List Int)),ss=[.fr (.list (li s)),.fr (.list (li o)),.fr (.tuple [.list (lr A),.list (lr B)])]/\s.length<=6/\1<=o.length/\(∀ x∈s,1<=x)/\A.length+B.length<100000/\(∀ r∈A++B,r.length<=6)/\KP s o A B/\R (.fr (.bool true)) [.un,.un,.un]
theorem kB {f:Addr}{fd:k0} (F:Fun K "_law_keeps" "_law_keeps" cM f fd):a9 K fd ["_law_spans", "_law_hands", "_law_plan"] []:=F.binds (ps:=["_law_spans", "_law_hands", "_law_plan"]) λ_ _ _ _ _ _ us a=>us3 (Q:=λus=>ze _ ⟨us,[]⟩=pure (List.zip _ us)) a λ_ _ _=>rfl
theorem jU {f:Addr}{fd:k0} (F:Fun K "_law_keeps" "_law_keeps" cM f fd) (B:Bn mg):bR P w K mg base CX0 1 f fd ["_law_spans", "_law_hands", "_law_plan"] (spD K oR):=by
 refine okD (k:=0) F aF (λss R h=>?_) (by decide) (λcdv A outer s H E M=>⟨_,(am (Fw (qf 2) (dS (K:=K) (n:=2) rfl rfl (aK (ak (i:=3) aF.nd rfl (Or.inl rfl)) (aK (ak (i:=4) aF.nd rfl (Or.inl rfl)) cC))))
   (am (eW (PW.pt (iY (aJ (GD (K:=K) rfl M.units) mEq (qv 4) (eP ac) (aE _)) (fP (aJ nq AI (bz bF mIC (dw (fB (K:=K) rfl) fA rfl B.len PySem.boot_len (aa (qv 4) ac)) (dw (fB (K:=K) rfl) fA rfl B.len PySem.boot_len (aa (qv 1) ac))) ag (aE _))))) (ae (aD gK)) aW)
   (am (aA (i:=5) aF.nd rfl (Or.inl rfl) (m6 (ff (K:=K) rfl) AK (m6 (ff (K:=K) rfl) AK (qv 3) (qv 4)) (qv 4)))
   (CB 5 (am (dW PassesOwn.never rfl (cW rfl B.range (aa (dw (fB (K:=K) rfl) fA rfl B.len PySem.boot_len (aa (qv 5) ac)) ac)) (ak (i:=6) aF.nd rfl (Or.inl rfl)) (am (aA (i:=7) aF.nd rfl (Or.inl rfl) (bE (ah (K:=K) rfl) mIx (qv 5) (qv 6) (λ_ _=>rfl)))
   (am (eW (aJ tZ mB (dw (fB (K:=K) rfl) fA rfl B.len PySem.boot_len (aa (qv 7) ac)) (bE (ah (K:=K) rfl) mIx (qv 1) (bz bF mIC (qv 6) (dw (fB (K:=K) rfl) fA rfl B.len PySem.boot_len (aa (qv 1) ac))) (λ_ _=>rfl)) (aE _)) (ae (aD gK)) aW)
   (ae (dW PassesOwn.never rfl (cW rfl B.range (aa (dw (fB (K:=K) rfl) fA rfl B.len PySem.boot_len (aa (qv 7) ac)) ac)) (ak (i:=8) aF.nd rfl (Or.inl rfl)) (ae (eW (PW.pt (iY (aJ jR mB (bE (ah (K:=K) rfl) mIx (qv 7) (qv 8) (λ_ _=>rfl)) ag (aE _)) (iY (aJ Df mB (bE (ah (K:=K) rfl) mIx (qv 7) (qv 8) (λ_ _=>rfl)) (dw (fB (K:=K) rfl) fA rfl B.len PySem.boot_len (aa (qv 0) ac)) (aE _)) (fP (PW.pt (yi (aJ tZ mB (qv 8) ag (aE _)) (sX (aJ nr mB (bE (ah (K:=K) rfl) mIx (qv 7) (qv 8) (λ_ _=>rfl)) (bE (ah (K:=K) rfl) mIx (qv 7) (bz jq mI (qv 8) ag) (λ_ _=>rfl)) (aE _))))))))) (ae (aD gK)) aW)))))))
   (am (dW PassesOwn.never rfl (cW rfl B.range (aa (dw (fB (K:=K) rfl) fA rfl B.len PySem.boot_len (aa (qv 0) ac)) ac)) (ak (i:=9) aF.nd rfl (Or.inl rfl)) (am (aA (i:=10) aF.nd rfl (Or.inl rfl) (CH jf Dj ag))
   (am (dW PassesOwn.never rfl (cW rfl B.range (aa (dw (fB (K:=K) rfl) fA rfl B.len PySem.boot_len (aa (qv 5) ac)) ac)) (ak (i:=6) aF.nd rfl (Or.inl rfl)) (ae (eW (aJ (kIn (K:=K) rfl) mIn (qv 9) (bE (ah (K:=K) rfl) mIx (qv 5) (qv 6) (λ_ _=>rfl)) (by with_unfolding_all rfl)) (am (eW (aJ tZ mB (bz jq mI (qv 6) (qv 10)) (bE (ah (K:=K) rfl) mIx (qv 0) (qv 9) (λ_ _=>rfl)) (aE _)) (ae (aD gK)) aW)
   (ae (aA (i:=10) aF.nd rfl (Or.inl rfl) (qf 6)))) aW)))
   (ae (eW (aJ jR mB (qv 10) (bz cQ mI (dw (fB (K:=K) rfl) fA rfl B.len PySem.boot_len (aa (qv 3) ac)) (dw (fB (K:=K) rfl) fA rfl B.len PySem.boot_len (aa (qv 4) ac))) (aE _)) (ae (aD gK)) aW)))))
   (ae (aD gK)))))))),λss R h=>?_⟩)
 ·obtain⟨s,o,A,B,rfl,_⟩:=h
  rfl
 obtain⟨s,o,A,B,rfl,S,ho,v,h1,h2,k,q⟩:=h
 walk_at "dx"
 obtain⟨G,T,U,V⟩:=id k
 refine⟨Ig _,(Sh.lr 0 B).shp (by decide),(Sh.ints 0 []).shp (by decide),?_⟩
 rw[rG,HC,HC]
 refine dO (λh=>?_) (λ_=>⟨by omega,dO (λh=>?_) (λ_=>?_)⟩)
 ·have h:B=[]:=by simpa using h
  rw[h] at G
  simp at G
 ·exact absurd (show((B.length:Nat):Int) % ((o.length:Nat):Int)=0 by omega) h
 have g:∀ Z:List (List Int),(lr Z).length=Z.length:=λZ=>HC ..
 have hz:∀ k,k<=300000->k<=sizeLine:=λk hk=>HQ (by omega) au
 have e3:lr A++lr B++lr B=lr (A++B++B):=by simp
 have y:(A++B++B).length=A.length+2*B.length:=by simp;omega
 walk_at "dx"
 rw[Ie,g A,g B,e3]
 refine⟨hz _ (by omega),hz _ (by omega),?_⟩
 have m:=BS v k
 have p:∀ i,i<A.length+2*B.length->((A++B++B).getD i []).length<=6:=λi hi=>h2 _ (by have:=dZ (l:=A++B++B) (k:=i) (by omega);simp at this ⊢;exact this)
 walk_at "dx"
 rw[g (A++B++B),y]
 generalize A++B++B=rows at *
 obtain⟨N,O⟩:∃ N,N=A.length+2*B.length:=⟨_,rfl⟩
 rw[<-O] at m p y ⊢
 obtain⟨t,u⟩:=m
 refine⟨by omega,by omega,a8 (λi env=>∃ (a b c e f:Sl),env=[.fr (.list (li s)),.fr (.list (li o)),.fr (.tuple [.list (lr A),.list (lr B)]),.fr (.list (lr A)),.fr (.list (lr B)),.fr (.list (lr rows)),a,b,c,e,f]) ⟨_,_,_,_,_,rfl⟩ ?_ ?_⟩
 ·rintro i env hi ⟨a,b,c,e,f,rfl⟩
  rw[aw,IB] at hi
  rw[aY,Int.zero_add]
  obtain⟨I,J,L⟩:=t i hi
  have W:=p i hi
  have d:=GA (rr:=rows) (k:=i) (by omega)
  walk_at "dx"
  refine⟨_,d,?_⟩
  generalize rows.getD i []=r at *
  walk_at "dx"
  refine⟨by rw[HC];omega,.int (o.getD (i % o.length) 0),?_,_,rfl,dO (λh=>?_) (λ_=>?_)⟩
  ·rw[HC,show((i:Nat):Int) % ((o.length:Nat):Int)=((i % o.length:Nat):Int) from rfl]
   exact eu (Ja _ (by omega))
  ·rw[HC] at h
   omega
  walk_at "dx"
  rw[HC]
  refine⟨by omega +splitDisjunctions,by omega +splitDisjunctions,a8 (λj env=>∃ (c:Sl),env=[.fr (.list (li s)),.fr (.list (li o)),.fr (.tuple [.list (lr A),.list (lr B)]),.fr (.list (lr A)),.fr (.list (lr B)),.fr (.list (lr rows)),.fr (.int i),.fr (.list (li r)),c,e,f]) ⟨_,rfl⟩ ?_ ?_⟩
  ·rintro j env hj ⟨c,rfl⟩
   rw[aw,IB] at hj
   rw[aY,Int.zero_add]
   have X:=L _ (cg hj)
   have Q:0<j->r.getD (j - 1) 0<r.getD j 0:=λC=>by
    have:=Ix.mp J (j - 1) j (by omega) hj (by omega)
    rw[HB,HB,Hz hj,Hz (show j - 1<r.length by omega)]
    exact this
   have a1:atI (li r) (j:Int)=some (.int (r.getD j 0)):=eu hj
   walk_at "dx"
   refine⟨_,a1,_,rfl,dO (λh=>by omega) (λ_=>⟨_,a1,_,rfl,dO (λh=>?_) (λ_=>dO (λC=>?_) (λ_=>trivial))⟩)⟩
   ·rw[HC] at h
    omega
   ·have C:0<j:=by omega
    refine⟨_,a1,.int (r.getD (j - 1) 0),?_,_,rfl,_,rfl,dO (λh=>?_) (λ_=>trivial)⟩
    ·rw[show((j:Nat):Int) - 1=((j - 1:Nat):Int) by omega]
     exact eu (by omega)
    ·have:=Q C
     omega
  ·rintro env ⟨c,rfl⟩
   walk_at "dx"
 ·rintro env ⟨a,b,c,e,f,rfl⟩
  walk_at "dx"
  rw[HC]
  refine⟨by omega,by omega,a8 (λi env=>∃ (a b c e f:Sl),env=[.fr (.list (li s)),.fr (.list (li o)),.fr (.tuple [.list (lr A),.list (lr B)]),.fr (.list (lr A)),.fr (.list (lr B)),.fr (.list (lr rows)),a,b,c,e,f]) ⟨_,_,_,_,_,rfl⟩ ?_ ?_⟩
  ·rintro c env hc ⟨a,b,x,e,f,rfl⟩
   rw[aw,IB] at hc
   rw[aY,Int.zero_add]
   obtain⟨I,J⟩:=u c hc
   walk_at "dx"
   rw[HC,y]
   refine⟨by omega +splitDisjunctions,by omega +splitDisjunctions,a8 (λi env=>∃ (a b x:Sl),env=[.fr (.list (li s)),.fr (.list (li o)),.fr (.tuple [.list (lr A),.list (lr B)]),.fr (.list (lr A)),.fr (.list (lr B)),.fr (.list (lr rows)),a,b,x,.fr (.int c),.fr (.int (bj (Pc rows c) i))]) ⟨_,_,_,rfl⟩ ?_ ?_⟩
   ·rintro i env hi ⟨a,b,x,rfl⟩
    rw[aw,IB] at hi
    rw[aY,Int.zero_add]
    have d:=GA (rr:=rows) (k:=i) (by omega)
    have L:=I i hi
    walk_at "dx"
    refine⟨_,d,_,rfl,_,bH _,dO (λD=>⟨_,eu hc,_,rfl,dO (λh=>by omega) (λ_=>?_)⟩) (λD=>?_)⟩
    ·walk_at "dx"
     show(i:Int)=if Pc rows c i=true then (i:Int) else bj (Pc rows c) i
     rw[if_pos (show Pc rows c i=true from decide_eq_true D)]
    ·show bj (Pc rows c) i=if Pc rows c i=true then (i:Int) else bj (Pc rows c) i
     rw[if_neg (show ¬Pc rows c i=true fromλz=>D (of_decide_eq_true z))]
   ·rintro env ⟨a,b,x,rfl⟩
    rw[aw,IB]
    walk_at "dx"
    rw[g A,g B]
    exact dO (λh=>by omega) (λ_=>trivial)
  ·rintro env ⟨a,b,c,e,f,rfl⟩
   walk_at "dx"
   exact q
theorem d5 {s s':Int} (c:0<s):0<(Ib s s':Int)/\(∃ a,s=(Ib s s':Int)*a)/\∃ b,s'=(Ib s s':Int)*b:=by
 refine⟨?_,?_,?_⟩
 ·have:Ib s s'≠0:=λz=>by
   have:=(Int.gcd_eq_zero_iff.mp z).1
   omega
  omega
 ·exact Jz s s'
 ·exact Int.gcd_dvd_right s s'
theorem pT {x y:Int} (hx:0<=x) (c:0<=y):Ib y (x % y)=Ib x y:=by
 obtain⟨a,rfl⟩:=JB hx
 obtain⟨b,rfl⟩:=JB c
 show Nat.gcd b (a % b)=Nat.gcd a b
 rw[Nat.gcd_comm b,<-Nat.gcd_rec,Nat.gcd_comm]
noncomputable def zK:DSp:=λss R=>∃ a b:Int,ss=[.fr (.int a),.fr (.int b)]/\0<=a/\0<=b/\R (.fr (.int (Ib a b))) [.un,.un]
noncomputable abbrev bD:Stmt:=top 1
theorem bi:ao ["one", "other", "rest"] ["one", "other"] (ad bD):=⟨rfl,rfl,rfl,by decide +kernel,rfl,by decide +kernel,by decide +kernel⟩
theorem ft {f:Addr}{fd:k0} (F:Fun K "greatest_divisor" "greatest_divisor" bD f fd):a9 K fd ["one", "other"] []:=F.binds (ps:=["one", "other"]) λ_ _ _ _ _ _ us a=>us2 (Q:=λus=>ze _ ⟨us,[]⟩=pure (List.zip _ us)) a λ_ _=>rfl
theorem fg {f:Addr}{fd:k0} (F:Fun K "greatest_divisor" "greatest_divisor" bD f fd) (B:Bn mg):bR P w K mg base CX0 1 f fd ["one", "other"] (spD K zK):=by
 refine okD (k:=0) F bi (λss R h=>?_) (by decide) (λcdv A outer s H E l=>⟨_,(aj (jN PassesOwn.never (aJ nq AI (qv 1) ag (aE _)) (aj (aA (i:=2) bi.nd rfl (Or.inl rfl) (bz bF mIC (qv 0) (qv 1)))
   (aj (aA (i:=0) bi.nd rfl (Or.inl rfl) (qf 1))
   (ae (aA (i:=1) bi.nd rfl (Or.inl rfl) (qf 2))))))
   (ae (aD (qv 0)))),λss R h=>?_⟩)
 ·obtain⟨a,b,rfl,_⟩:=h
  rfl
 obtain⟨a,b,rfl,g,j,q⟩:=h
 walk_at "dd"
 refine⟨λm env=>∃ (x y:Int) (r:Sl),env=[.fr (.int x),.fr (.int y),r]/\0<=x/\0<=y/\m=y.toNat/\Ib x y=Ib a b,⟨_,a,b,_,rfl,g,j,rfl,rfl⟩,?_⟩
 rintro m env ⟨x,y,r,rfl,hx,d,rfl,e⟩
 walk_at "dd"
 refine dO (λc=>?_) (λc=>?_)
 ·have h1:=IY x (show y≠0 from c)
  have h2:=IF x (show 0<y by omega)
  exact⟨by omega,_,by omega,d,h1,rfl,(pT hx d).trans e⟩
 ·have c:y=0:=by simpa using c
  subst c
  rw[<-e,Int.gcd_zero_right,Int.natAbs_of_nonneg hx] at q
  exact q
noncomputable def Bk (k:Nat) (i:Int):Prop:=0<=i/\i<=10000000000000000000000000000000000000000 ^ k
theorem Bk.bg {k:Nat}{i:Int} (h:Bk k i) (hk:k<=45):Bg i:=by
 have h1:i.natAbs<=10000000000000000000000000000000000000000 ^ k:=by
  have h2:=h.2
  have b:((10000000000000000000000000000000000000000 ^ k:Nat):Int)=(10000000000000000000000000000000000000000:Int) ^ k:=by simp
  have:=h.1
  omega
 have a:(10000000000000000000000000000000000000000:Nat) ^ k<=(2 ^ 140) ^ 45:=HQ (Nat.pow_le_pow_left (by decide) k) (Jh (by decide) hk)
 rw[<-Nat.pow_mul] at a
 exact JD (HQ h1 a) (Nat.pow_lt_pow_right (by decide) (by decide))
theorem Bk.mul {k:Nat}{i j:Int} (h:Bk k i) (a:0<=j) (h1:j<=10000000000000000000000000000000000000000):Bk (k+1) (i*j):=by
 refine⟨Jx h.1 a,?_⟩
 rw[Int.pow_succ]
 exact Int.mul_le_mul h.2 h1 a (Int.le_trans h.1 h.2)
theorem Bk.le {k:Nat}{i j:Int} (h:Bk k i) (a:0<=j) (h1:j<=i):Bk k j:=⟨a,Int.le_trans h1 h.2⟩
theorem Dn {s s':Int} (h:0<s) (h':0<s'):((Nat.lcm s.natAbs s'.natAbs:Nat):Int)=s / (Ib s s':Int)*s':=by
 obtain⟨i,rfl⟩:=JB (Int.le_of_lt h)
 obtain⟨j,rfl⟩:=JB (Int.le_of_lt h')
 show((i*j / Nat.gcd i j:Nat):Int)=((i / Nat.gcd i j*j:Nat):Int)
 rw[Nat.div_mul_right_comm (Nat.gcd_dvd_left i j)]
noncomputable abbrev bL:Stmt:=top 3
theorem bG:ao ["numbers", "found", "number"] ["numbers"] (ad bL):=⟨rfl,rfl,rfl,by decide +kernel,rfl,by decide +kernel,by decide +kernel⟩
structure Lm (ns:List Int) (m:Int):Prop where
 pos:1<=m
 bk : Bk ns.length m
 dvd:∀ x∈ns,x∣m
 least:∀ k:Int,(∀ x∈ns,x∣k)->m∣k
noncomputable def Fh:DSp:=λss R=>∃ ns:List Int,ss=[.fr (.list (li ns))]/\ns.length<=41/\(∀ x∈ns,1<=x/\x<=10000000000000000000000000000000000000000)/\∀ m:Int,Lm ns m->R (.fr (.int m)) [.un]
theorem Lm.nil:Lm [] 1:=⟨Int.le_refl 1,⟨by decide,by simp⟩,λx hx=>(by cases hx),λk _=>Int.one_dvd k⟩
theorem Lm.snoc {ns:List Int}{m n:Int} (h:Lm ns m) (h1:1<=n) (h2:n<=10000000000000000000000000000000000000000):Lm (ns++[n]) (m / (Ib m n:Int)*n):=by
 have c:=h.pos
 have e:=Dn (show 0<m by omega) (show 0<n by omega)
 have g:=(d5 (s:=m) (s':=n) (by omega)).1
 have d1:m∣m / (Ib m n:Int)*n:=by
  rw[<-e]
  exact Jt.mp (Nat.dvd_lcm_left _ _)
 have d2:n∣m / (Ib m n:Int)*n:=by
  rw[<-e]
  exact Jt.mp (Nat.dvd_lcm_right _ _)
 have q0:1<=m / (Ib m n:Int):=by
  refine(Int.le_ediv_iff_mul_le g).mpr ?_
  rw[Int.one_mul]
  exact IP (by omega) (Jz m n)
 have p0:=Int.mul_le_mul q0 h1 (by omega) (by omega)
 refine⟨by omega,?_,λx hx=>?_,λk hk=>?_⟩
 ·rw[Ie]
  exact(h.bk.le (by omega) (JN _ (by omega))).mul (by omega) h2
 ·rcases HF.mp hx with hx|hx
  ·exact Int.dvd_trans (h.dvd x hx) d1
  ·rw[HD.mp hx];exact d2
 ·rw[<-e]
  have a:=h.least k λx hx=>hk x (HG _ hx)
  have b:=hk n (HA _ (by simp))
  exact Jt.mp (Nat.lcm_dvd (Jt.mpr a) (Jt.mpr b))
theorem gn {f:Addr}{fd:k0} (F:Fun K "least_multiple" "least_multiple" bL f fd):a9 K fd ["numbers"] []:=F.binds (ps:=["numbers"]) λ_ _ _ _ _ _ us a=>us1 (Q:=λus=>ze _ ⟨us,[]⟩=pure (List.zip _ us)) a λ_=>rfl
theorem ga {f:Addr}{fd:k0} (F:Fun K "least_multiple" "least_multiple" bL f fd) (B:Bn mg) (a:Cal P w K mg base "greatest_divisor" 1 (spD K zK)):bR P w K mg base CX0 2 f fd ["numbers"] (spD K Fh):=by
 refine okD (k:=1) F bG (λss R h=>?_) (by decide) (λcdv A outer s H E d=>⟨_,(aj (aA (i:=1) bG.nd rfl (Or.inl rfl) ag)
   (aj (dW PassesOwn.never rfl (bJ (K:=K) rfl (qf 0)) (ak (i:=2) bG.nd rfl (Or.inl rfl)) (ae (aA (i:=1) bG.nd rfl (Or.inl rfl) (bz dX mIC (bz bM mIC (qv 1) (aG a (d.mono (by decide)) rfl (aa (qf 1) (aa (qf 2) ac)))) (qv 2)))))
   (ae (aD (qv 1))))),λss R h=>?_⟩)
 ·obtain⟨ns,rfl,_⟩:=h
  rfl
 obtain⟨ns,rfl,n,e,q⟩:=h
 walk_at "dd"
 refine a8 (λi env=>∃ (m:Int) (v:Sl),env=[.fr (.list (li ns)),.fr (.int m),v]/\Lm (ns.take i) m) ⟨1,_,rfl,Lm.nil⟩ ?_ ?_
 ·rintro i env hi ⟨m,v,rfl,c⟩
  have b:i<ns.length:=by simpa using hi
  rw[cR]
  have bn:=e _ (by rw[HB,Hz b];exact Ih b:ns.getD i 0∈ns)
  have j:ns.take (i+1)=ns.take i++[ns.getD i 0]:=by
   rw[List.take_add_one,Hz b,HB,Hz b]
   rfl
  walk_at "dd"
  have o:=c.pos
  refine⟨_,_,rfl,by omega,by omega,?_⟩
  walk_at "dd"
  have g:=(d5 (s:=m) (s':=ns.getD i 0) (by omega)).1
  have l:(Ib m (ns.getD i 0):Int)<=m:=IP (by omega) (Jz _ _)
  have hk:(ns.take i).length<=45:=by rw[Jm];omega
  have bm:=c.bk.bg hk
  refine⟨⟨g,(c.bk.le (by omega) l).bg hk⟩,⟨(c.bk.le (JV (by omega) (by omega)) (JN _ (by omega))).bg hk,Bg.of (by omega) (by omega)⟩,?_⟩
  rw[j]
  exact c.snoc bn.1 bn.2
 ·rintro env ⟨m,v,rfl,c⟩
  rw[HC,List.take_length] at c
  walk_at "dd"
  exact q m c
noncomputable abbrev cA:Stmt:=top 6
theorem lj:ao ["spans", "days"] ["spans", "days"] (ad cA):=⟨rfl,rfl,rfl,by decide +kernel,rfl,by decide +kernel,by decide +kernel⟩
noncomputable def xR:DSp:=λss R=>∃ (ns:List Int) (d:Int),ss=[.fr (.list (li ns)),.fr (.int d)]/\ns.length<=1000/\(∀ x∈ns,1<=x/\x<=10000000000000000000000000000000000000000)/\R (.fr (.int ((ns.map (d / ·)).sum))) [.un,.un]
theorem i5 (ns:List Int) (f:Int->Int):(List.range ns.length).map (λi=>f (ns.getD i 0))=ns.map f:=by
 apply List.ext_getElem?
 intro i
 rw[Ic,Ic]
 by_cases h:i<ns.length
 ·rw[JQ h,Hz h]
  simp[HB,Hz h]
 ·rw[Jc (by simp;omega),Jc (by omega)]
  rfl
theorem mC {f:Addr}{fd:k0} (F:Fun K "wanted_in" "wanted_in" cA f fd):a9 K fd ["spans", "days"] []:=F.binds (ps:=["spans", "days"]) λ_ _ _ _ _ _ us a=>us2 (Q:=λus=>ze _ ⟨us,[]⟩=pure (List.zip _ us)) a λ_ _=>rfl
theorem ly {f:Addr}{fd:k0} (F:Fun K "wanted_in" "wanted_in" cA f fd) (B:Bn mg):bR P w K mg base CX0 1 f fd ["spans", "days"] (spD K xR):=by
 refine okD (k:=0) F lj (λss R h=>?_) (by decide) (λcdv A outer s H E e=>⟨_,(ae (aD (dw (uX (K:=K) rfl rfl) G6 rfl B.sum PyProof.Rows.boot_sum (aa (cO (N':=["span", "days"]) (ix:=[none,some 1]) rfl (dq (N:=["spans", "days"]) (sc0:=ad cA) rfl rfl (by decide +kernel)) (bJ (K:=K) rfl (qf 0)) (λ_ _ _ _=>(ak (i:=0) (show List.Nodup (["span", "days"]:List Str) by decide +kernel) rfl (Or.inl rfl))) (λ_ _ _ _=>bI) (λ_ _ _ _=>(bz bM mIC (qv 1) (qv 0)))) ac)))),λss R h=>?_⟩)
 ·obtain⟨ns,d,rfl,_⟩:=h
  rfl
 obtain⟨ns,d,rfl,g,b,q⟩:=h
 walk_at "dd"
 refine cT (λi=>.int (d / ns.getD i 0)) (by rw[HC];omega) (λi hi Q c=>?_) ?_
 ·have a:i<ns.length:=by simpa using hi
  rw[cR]
  have bn:=b _ (by rw[HB,Hz a];exact Ih a:ns.getD i 0∈ns)
  walk_at "dd"
  exact⟨⟨by omega,Bg.of (by omega) (by omega)⟩,c⟩
 rw[HC,wv]
 walk_at "dd"
 rw[i5 ns (d / ·)]
 exact q
noncomputable abbrev b8:Stmt:=top 4
theorem dQ:ao ["above", "below", "divisor"] ["above", "below"] (ad b8):=⟨rfl,rfl,rfl,by decide +kernel,rfl,by decide +kernel,by decide +kernel⟩
noncomputable def xZ:DSp:=λss R=>∃ a b:Int,ss=[.fr (.int a),.fr (.int b)]/\0<=a/\1<=b/\Bg b/\∀ g p r:Int,1<=g->g*p=a->g*r=b->0<=p->1<=r->Ib p r=1->R (.fr (.tuple [.int p,.int r])) [.un,.un]
theorem iP {f:Addr}{fd:k0} (F:Fun K "lowest_terms" "lowest_terms" b8 f fd):a9 K fd ["above", "below"] []:=F.binds (ps:=["above", "below"]) λ_ _ _ _ _ _ us a=>us2 (Q:=λus=>ze _ ⟨us,[]⟩=pure (List.zip _ us)) a λ_ _=>rfl
theorem iA {f:Addr}{fd:k0} (F:Fun K "lowest_terms" "lowest_terms" b8 f fd) (B:Bn mg) (c:Cal P w K mg base "greatest_divisor" 1 (spD K zK)):bR P w K mg base CX0 2 f fd ["above", "below"] (spD K xZ):=by
 refine okD (k:=1) F dQ (λss R h=>?_) (by decide) (λcdv A outer s H E g=>⟨_,(am (aA (i:=2) dQ.nd rfl (Or.inl rfl) (aG c (g.mono (by decide)) rfl (aa (qf 0) (aa (qf 1) ac))))
   (ae (aD (gJ (aa (bz bM mIC (qv 0) (qv 2)) (aa (bz bM mIC (qv 1) (qv 2)) ac)))))),λss R h=>?_⟩)
 ·obtain⟨a,b,rfl,_⟩:=h
  rfl
 obtain⟨a,b,rfl,e,m,j,q⟩:=h
 walk_at "dd"
 refine⟨a,b,rfl,e,by omega,?_⟩
 walk_at "dd"
 refine nx ?_
 walk_at "dd"
 have l:Ib b a=Ib a b:=Int.gcd_comm _ _
 have d:=(d5 (s:=b) (s':=a) (by omega)).1
 rw[l] at d
 have n:(Ib a b:Int)<=b:=IP (by omega) (Int.gcd_dvd_right a b)
 have bg:Bg (Ib a b:Int):=by
  have:b.natAbs<2 ^ 8000:=j
  show(Ib a b:Int).natAbs<2 ^ 8000
  omega
 have e1:(Ib a b:Int)*(a / (Ib a b:Int))=a:=Int.mul_ediv_cancel' (Jz a b)
 have e2:(Ib a b:Int)*(b / (Ib a b:Int))=b:=Int.mul_ediv_cancel' (Int.gcd_dvd_right a b)
 refine⟨⟨d,bg⟩,⟨d,bg⟩,by decide,q (Ib a b) _ _ (by omega) e1 e2 (JV e (by omega)) ?_ ?_⟩
 ·exact(Int.le_ediv_iff_mul_le d).mpr (by omega)
 ·exact Int.gcd_ediv_gcd_ediv_gcd (by omega)
theorem Ct {l:List Int} (h:∀ x∈l,0<=x):0<=l.sum:=by
 induction l with
 | nil=>simp
 | cons x l a =>
  rw[JF]
  have h1:=h x HH
  have h2:=a λy b=>h y (HJ _ b)
  omega
noncomputable abbrev jI:Stmt:=top 7
theorem o4:ao ["spans", "days"] ["spans"] (ad jI):=⟨rfl,rfl,rfl,by decide +kernel,rfl,by decide +kernel,by decide +kernel⟩
noncomputable def Sps (l:List Int):Prop:=∀ x∈l,1<=x/\x<=10000000000000000000000000000000000000000
structure Fr (a b p r:Int):Prop where
 p0 : 0<=p
 r1 : 1<=r
 gcd:Ib p r=1
 eq : p*b=r*a
 pa : p<=a
 rb : r<=b
theorem Fr.mk' {a b g p r:Int} (c:1<=g) (e1:g*p=a) (e2:g*r=b) (p0:0<=p) (r1:1<=r) (d:Ib p r=1):Fr a b p r:=by
 have m1:=Int.mul_le_mul_of_nonneg_right c p0
 have m2:=Int.mul_le_mul_of_nonneg_right c (show 0<=r by omega)
 refine⟨p0,r1,d,?_,by omega,by omega⟩
 rw[<-e1,<-e2]
 grind
noncomputable def sF:DSp:=λss R=>∃ ns:List Int,ss=[.fr (.list (li ns))]/\ns.length<=40/\Sps ns/\∀ d p r:Int,Lm ns d->Fr ((ns.map (d / ·)).sum) d p r->R (.fr (.tuple [.int p,.int r])) [.un]
theorem xD {f:Addr}{fd:k0} (F:Fun K "share" "share" jI f fd):a9 K fd ["spans"] []:=F.binds (ps:=["spans"]) λ_ _ _ _ _ _ us a=>us1 (Q:=λus=>ze _ ⟨us,[]⟩=pure (List.zip _ us)) a λ_=>rfl
theorem v9 {f:Addr}{fd:k0} (F:Fun K "share" "share" jI f fd) (B:Bn mg) (a:Cal P w K mg base "least_multiple" 2 (spD K Fh)) (c:Cal P w K mg base "wanted_in" 1 (spD K xR)) (b:Cal P w K mg base "lowest_terms" 2 (spD K xZ)):bR P w K mg base CX0 3 f fd ["spans"] (spD K sF):=by
 refine okD (k:=2) F o4 (λss R h=>?_) (by decide) (λcdv A outer s H E e=>⟨_,(am (aA (i:=1) o4.nd rfl (Or.inl rfl) (aG a (e.mono (by decide)) rfl (aa (qf 0) ac)))
   (ae (aD (aG b (e.mono (by decide)) rfl (aa (aG c (e.mono (by decide)) rfl (aa (qf 0) (aa (qf 1) ac))) (aa (qf 1) ac)))))),λss R h=>?_⟩)
 ·obtain⟨ns,rfl,_⟩:=h
  rfl
 obtain⟨ns,rfl,o,j,q⟩:=h
 walk_at "dd"
 refine⟨ns,rfl,by omega,j,λd hd=>?_⟩
 walk_at "dd"
 refine nx ?_
 walk_at "dd"
 refine⟨ns,d,rfl,by omega,j,?_⟩
 walk_at "dd"
 have d1:=hd.pos
 refine⟨_,d,rfl,Ct λx hx=>?_,d1,hd.bk.bg (by omega),λg p r l e1 e2 p0 r1 m=>?_⟩
 ·obtain⟨y,n,rfl⟩:=HS.mp hx
  have:=j y n
  exact JV (by omega) (by omega)
 ·walk_at "dd"
  exact q d p r hd (Fr.mk' l e1 e2 p0 r1 m)
noncomputable abbrev Ev:=Int×Int×Int
noncomputable abbrev pE (e:Ev):PyData:=.tuple [.int e.1,.int e.2.1,.int e.2.2]
noncomputable abbrev lE (es:List Ev):List PyData:=es.map pE
noncomputable def Cl (e f:Ev):Prop:=e.1=f.1/\(e.2.1 - f.2.1) % (Ib e.2.2 f.2.2:Int)=0
noncomputable def iZ (e:Ev) (sp w:Int):Bool:=decide (0<=e.1/\e.1<w/\1<=e.2.2/\e.2.2<=sp/\0<=e.2.1/\e.2.1<e.2.2)
structure vk (sp:List Int) (w:Int) (es:List Ev):Prop where
 len:es.length=sp.length
 part:∀ k,k<es.length->iZ (es.getD k (0,0,0)) (sp.getD k 0) w=true
 apart:∀ k,k<es.length->∀ j,j<k->¬Cl (es.getD k (0,0,0)) (es.getD j (0,0,0))
theorem yx {es:List Ev}{i:Nat} (h:i<es.length):(lE es)[i]'(by rw[HC];exact h)=pE (es.getD i (0,0,0)):=by
 simp[HB,Hz h]
noncomputable def GO (sp:List Int) (w:Int) (es:List Ev):Prop:=vk sp w es/\∀ k,k<sp.length->(es.getD k (0,0,0)).2.2=sp.getD k 0
noncomputable def DC:List Nat->Prop
 | []=>False
 | [b]=>b=1
 | b::a::l=>1<=b/\a∣b/\DC (a::l)
noncomputable def RN:List Nat->Nat->Nat
 | b::a::l,p=>p % (b / a)*a+RN (a::l) (p / (b / a))
 | _,_=>0
theorem DC.pos {b:Nat}{l:List Nat} (h:DC (b::l)):1<=b:=by
 cases l with
 | nil=>have:b=1:=h;omega
 | cons a l=>exact h.1
theorem iK {a b p:Nat} (h:a∣b) (d:1<=b) (e:p<b):1<=b / a/\p / (b / a)<a/\b / a*a=b:=by
 obtain⟨c,rfl⟩:=h
 have f:0<a:=IR λz=>by rw[z,Nat.zero_mul] at d;omega
 rw[IC _ f]
 have hc:0<c:=IR λz=>by rw[z,Nat.mul_zero] at d;omega
 exact⟨hc,(Nat.div_lt_iff_lt_mul hc).mpr e,JK _ _⟩
theorem xK:∀ {l:List Nat}{b p:Nat},DC (b::l)->p<b->RN (b::l) p<b
 | [],b,p,h,c=>by show 0<b;omega
 | a::l,b,p,⟨h1,h2,d⟩,c=>by
  obtain⟨d1,d2,e⟩:=iK h2 h1 c
  have f:=xK d d2
  show p % (b / a)*a+RN (a::l) (p / (b / a))<b
  have m:=Ja p d1
  have:(p % (b / a)+1)*a<=b / a*a:=Nat.mul_le_mul_right _ m
  rw[Nat.succ_mul] at this
  omega
theorem qF {l:List Nat}{a b p:Nat} (h:DC (b::a::l)) (c:p<b):RN (b::a::l) p % a=RN (a::l) (p / (b / a)):=by
 obtain⟨h1,h2,d⟩:=h
 obtain⟨d1,d2,e⟩:=iK h2 h1 c
 show(p % (b / a)*a+RN (a::l) (p / (b / a))) % a=_
 rw[Nat.mul_add_mod_self_right,Je (xK d d2)]
theorem zk:∀ {l:List Nat}{b p q:Nat},DC (b::l)->p<b->q<b->RN (b::l) p=RN (b::l) q->p=q
 | [],b,p,q,h,c,d,_=>by have:b=1:=h;omega
 | a::l,b,p,q,h,c,d,e=>by
  obtain⟨h1,h2,f⟩:=id h
  obtain⟨d1,d2,g⟩:=iK h2 h1 c
  obtain⟨_,e2,_⟩:=iK h2 h1 d
  have m:RN (a::l) (p / (b / a))=RN (a::l) (q / (b / a)):=by rw[<-qF h c,<-qF h d,e]
  have i1:=zk f d2 e2 m
  have e:p % (b / a)*a+RN (a::l) (p / (b / a))=q % (b / a)*a+RN (a::l) (q / (b / a)):=e
  rw[m] at e
  have i2:p % (b / a)=q % (b / a):=Nat.eq_of_mul_eq_mul_right f.pos (by omega)
  rw[<-JW p (b / a),<-JW q (b / a),i1,i2]
theorem vh:∀ {k:List Nat}{l:List Nat}{a b p:Nat},DC (b::(k++a::l))->p<b->a∣b/\RN (b::(k++a::l)) p % a=RN (a::l) (p / (b / a))
 | [],l,a,b,p,h,d=>⟨h.2.1,qF h d⟩
 | c::k,l,a,b,p,h,d=>by
  obtain⟨h1,h2,g⟩:=id h
  obtain⟨d1,d2,j⟩:=iK h2 h1 d
  obtain⟨i1,i2⟩:=vh (k:=k) g d2
  refine⟨Nat.dvd_trans i1 h2,?_⟩
  have e:=qF (l:=k++a::l) h d
  rw[<-Nat.mod_mod_of_dvd _ i1]
  show RN (b::c::(k++a::l)) p % c % a=_
  rw[e,i2,Nat.div_div_eq_div_mul]
  congr 1
  obtain⟨u,rfl⟩:=i1
  obtain⟨w,rfl⟩:=h2
  have f:0<a:=IR λz=>by rw[z] at h1;simp at h1
  have i:0<u:=IR λz=>by rw[z] at h1;simp at h1
  rw[IC _ f,JG,IC _ f,<-JG,IC _ (Nat.mul_pos f i),JK]
theorem xL {k l:List Nat}{a b p q:Nat} (h:DC (b::(k++a::l))) (d:p<b) (f:q<a) (g:(q+1)*(b / a)<=p):RN (b::(k++a::l)) p % a≠RN (a::l) q:=by
 obtain⟨i1,i2⟩:=vh h d
 rw[i2]
 intro z
 have hd:DC (a::l):=by
  clear i1 i2 z g f d
  induction k generalizing b with
  | nil=>exact h.2.2
  | cons c k i=>exact i h.2.2
 obtain⟨d1,d2,j⟩:=iK i1 h.pos d
 have e:=zk hd d2 f z
 have:q+1<=p / (b / a):=(Nat.le_div_iff_mul_le d1).mpr g
 omega
noncomputable def mW:List Nat->List Nat->Nat->List (Nat×List Nat)
 | [],_,_=>[]
 | s::ss,L,T=>(T*(s / L.headD 1),s::L)::mW ss (s::L) (T*(s / L.headD 1)+1)
noncomputable def UC:Nat->List Nat->Prop
 | _,[]=>True
 | a,s::ss=>1<=s/\a∣s/\UC s ss
theorem iJ {a b c:Nat} (h1:a∣b) (h2:b∣c) (hc:1<=c):c / b*(b / a)=c / a:=by
 obtain⟨u,rfl⟩:=h1
 obtain⟨w,rfl⟩:=h2
 have d:0<a:=IR λz=>by rw[z] at hc;simp at hc
 have e:0<u:=IR λz=>by rw[z] at hc;simp at hc
 rw[IC _ (Nat.mul_pos d e),IC _ d,JG,IC _ d,JK]
theorem jM:∀ {ss:List Nat}{a:Nat}{L:List Nat}{T:Nat},DC (a::L)->UC a ss->∀ e∈mW ss (a::L) T,∃ b k,e.2=b::(k++a::L)/\DC e.2/\a∣b/\T*(b / a)<=e.1
 | [],_,_,_,_,_,e,c=>by cases c
 | s :: ss,a,L,T,h,⟨g,d,i⟩,e,c=>by
  have hd:DC (s::a::L):=⟨g,d,h⟩
  rcases HP.mp c with rfl|c
  ·exact⟨s,[],rfl,hd,d,HK _⟩
  ·obtain⟨b,k,e1,e2,e3,f⟩:=jM hd i e c
   refine⟨b,k++[s],by rw[e1];simp,e2,Nat.dvd_trans d e3,?_⟩
   have j:1<=b:=by rw[e1] at e2;exact e2.pos
   have f:(T*(s / a)+1)*(b / s)<=e.1:=f
   rw[<-iJ d e3 j]
   refine HQ ?_ f
   rw[Nat.add_mul,JG,JK (b / s)]
   exact IJ _ _
noncomputable def BU (e f:Nat×List Nat):Prop:=∃ a l b k,e.2=a::l/\f.2=b::(k++a::l)/\DC f.2/\a∣b/\(e.1+1)*(b / a)<=f.1
theorem lm:∀ {ss:List Nat}{a:Nat}{L:List Nat}{T:Nat},DC (a::L)->UC a ss->(mW ss (a::L) T).Pairwise BU
 | [],_,_,_,_,_=>List.Pairwise.nil
 | s::ss,a,L,T,h,⟨d,e,c⟩=>by
  have hd:DC (s::a::L):=⟨d,e,h⟩
  refine List.Pairwise.cons (λf g=>?_) (lm hd c)
  obtain⟨b,k,e1,e2,e3,i⟩:=jM hd c f g
  exact⟨s,a::L,b,k,rfl,e1,e2,e3,i⟩
theorem Cw {a b x y:Nat} (hd:a∣b) (d:1<=b) (h:(x+1)*(b / a)<=y) (e:x / a=y / b):(x % a+1)*(b / a)<=y % b:=by
 have e1:=JW x a
 have e2:=JW y b
 obtain⟨c,rfl⟩:=hd
 have f:0<a:=IR λz=>by rw[z] at d;simp at d
 rw[IC _ f] at *
 obtain⟨w,hw⟩:∃ w,w=x / a:=⟨_,rfl⟩
 rw[<-e,<-hw] at e2
 rw[<-hw] at e1
 rw[<-e1,<-e2] at h
 have:(a*w+x % a+1)*c=a*c*w+(x % a+1)*c:=by
  rw[Nat.add_assoc,Nat.add_mul,Nat.mul_right_comm]
 omega
theorem ox {e f:Nat×List Nat} (h:BU e f):∃ a b,e.2.head? = some a/\f.2.head? = some b/\a∣b/\1<=a/\(e.1 / a=f.1 / b->RN f.2 (f.1 % b) % a≠RN e.2 (e.1 % a)):=by
 obtain⟨a,l,b,k,e1,e2,e3,c,i⟩:=h
 rw[e2] at e3
 have d:1<=b:=e3.pos
 have g:1<=a:=Nat.pos_of_dvd_of_pos c d
 refine⟨a,b,by rw[e1];rfl,by rw[e2];rfl,c,g,λz=>?_⟩
 rw[e1,e2]
 exact xL e3 (Ja _ d) (Ja _ g) (Cw c d i z)
noncomputable def fi:List Nat->Nat->Nat->Nat×Nat
 | [],a,T=>(a,T)
 | s::ss,a,T=>fi ss s (T*(s / a)+1)
theorem gT:∀ {ss:List Nat}{a:Nat}{T:Nat},1<=a->UC a ss->a∣(fi ss a T).1/\1<=(fi ss a T).1/\T*((fi ss a T).1 / a)<=(fi ss a T).2
 | [],a,T,b,_=>⟨Nat.dvd_refl _,b,by show T*(a / a)<=T;rw[Nat.div_self b,Nat.mul_one];exact HK _⟩
 | s::ss,a,T,b,⟨d,c,e⟩=>by
  obtain⟨i1,i2,f⟩:=gT (T:=T*(s / a)+1) d e
  refine⟨Nat.dvd_trans c i1,i2,?_⟩
  show T*((fi ss s (T*(s / a)+1)).1 / a)<=(fi ss s (T*(s / a)+1)).2
  rw[<-iJ c i1 i2]
  refine HQ ?_ f
  rw[Nat.add_mul,JG,JK ((fi ss s (T*(s / a)+1)).1 / s)]
  exact IJ _ _
theorem o7 {W:Nat}:∀ {ss:List Nat}{a:Nat}{L:List Nat}{T:Nat},DC (a::L)->UC a ss->(fi ss a T).2<=W*(fi ss a T).1->∀ e∈mW ss (a::L) T,∃ b l,e.2=b::l/\e.1+1<=W*b
 | [],_,_,_,_,_,_,e,d=>by cases d
 | s :: ss,a,L,T,h,⟨f,k,i⟩,hW,e,d=>by
  have hd:DC (s::a::L):=⟨f,k,h⟩
  rcases HP.mp d with rfl|d
  ·refine⟨s,a::L,rfl,?_⟩
   obtain⟨i1,i2,j⟩:=gT (T:=T*(s / a)+1) f i
   have hW:(fi ss s (T*(s / a)+1)).2<=W*(fi ss s (T*(s / a)+1)).1:=hW
   generalize fi ss s (T*(s / a)+1)=z at *
   obtain⟨c,hc⟩:=i1
   have g:0<c:=IR λq=>by rw[hc,q] at i2;simp at i2
   rw[hc,IC _ f] at j
   rw[hc] at hW
   have:(T*(s / a)+1)*c<=W*s*c:=by rw[JG];exact HQ j hW
   exact Nat.le_of_mul_le_mul_right this g
  ·exact o7 hd i hW e d
theorem p9:∀ {ss:List Nat}{a:Nat}{T:Nat},1<=a->UC a ss->(fi ss a T).2=T*((fi ss a T).1 / a)+(ss.map ((fi ss a T).1 / ·)).sum
 | [],a,T,b,_=>by
  show T=T*(a / a)+0
  rw[Nat.div_self b,Nat.mul_one]
  rfl
 | s::ss,a,T,b,⟨c,e,d⟩=>by
  obtain⟨i1,i2,_⟩:=gT (T:=T*(s / a)+1) c d
  have f:=p9 (T:=T*(s / a)+1) c d
  show(fi ss s (T*(s / a)+1)).2=T*((fi ss s (T*(s / a)+1)).1 / a)+((s::ss).map ((fi ss s (T*(s / a)+1)).1 / ·)).sum
  rw[f,HU,JF,<-iJ e i1 i2,Nat.add_mul,Nat.one_mul,JG,JK (s / a)]
  omega
theorem l6:∀ {ss:List Nat}{a:Nat}{T:Nat},(fi ss a T).1=(a::ss).getLast (List.cons_ne_nil _ _)
 | [],a,T=>rfl
 | s::ss,a,T=>by
  rw[List.getLast_cons (List.cons_ne_nil _ _)]
  exact l6 (ss:=ss) (a:=s) (T:=T*(s / a)+1)
theorem oy {ms:List Int} (h:∀ i,i+1<ms.length->ms.getD i 0∣ms.getD (i+1) 0):∀ k i,i+k<ms.length->ms.getD i 0∣ms.getD (i+k) 0
 | 0,i,_=>Int.dvd_refl _
 | k+1,i,hk=>Int.dvd_trans (oy h k i (by omega)) (h (i+k) (by omega))
theorem pA {ms:List Int}{x:Int} (h:x∈ms):∃ i,i<ms.length/\ms.getD i 0=x:=by
 obtain⟨i,hi,e⟩:=Im h
 exact⟨i,hi,by rw[HB,Hz hi];exact e⟩
theorem b9 {ms:List Int}{j:Nat} (hj:j<ms.length):ms.getD j 0∈ms:=by rw[HB,Hz hj];exact Ih hj
noncomputable def Chn (ns:List Int):Prop:=∀ x∈ns,∀ y∈ns,x∣y\/y∣x
theorem BJ {ms:List Int} (b:ms.Pairwise (·<=·)) (pos:∀ x∈ms,1<=x):(∀ i,i+1<ms.length->ms.getD i 0∣ms.getD (i+1) 0)↔Chn ms:=by
 constructor
 ·intro h x hx y c
  obtain⟨i,hi,rfl⟩:=pA hx
  obtain⟨j,hj,rfl⟩:=pA c
  rcases Nat.le_total i j with l|l
  ·obtain⟨k,rfl⟩:=Nat.exists_eq_add_of_le l
   exact .inl (oy h k i hj)
  ·obtain⟨k,rfl⟩:=Nat.exists_eq_add_of_le l
   exact .inr (oy h k j hi)
 ·intro h i hi
  have a:i<ms.length:=by omega
  have le:ms.getD i 0<=ms.getD (i+1) 0:=by
   have:=Ix.mp b i (i+1) a hi (by omega)
   rw[HB,HB,Hz a,Hz hi]
   exact this
  have p:=pos _ (b9 a)
  rcases h _ (b9 a) _ (b9 hi) with d|d
  ·exact d
  ·have:=IP (by omega) d
   have e:ms.getD i 0=ms.getD (i+1) 0:=by omega
   rw[e]
   exact Int.dvd_refl _
theorem zF {W a d p r:Int} (r1:1<=r) (d1:1<=d) (e:p*d=r*a):W*r<p↔W*d<a:=by
 constructor
 ·intro h
  have:=Int.mul_lt_mul_of_pos_right h (show 0<d by omega)
  rw[e,show W*r*d=r*(W*d) by grind] at this
  exact Int.lt_of_mul_lt_mul_left this (by omega)
 ·intro h
  have:=Int.mul_lt_mul_of_pos_left h (show 0<r by omega)
  rw[<-e,show r*(W*d)=W*r*d by grind] at this
  exact Int.lt_of_mul_lt_mul_right this (by omega)
theorem GJ {α:Type} (l:List α):mh l (some 1) none=l.drop 1:=by
 unfold mh
 cases l with
 | nil=>rfl
 | cons a l =>
  have e1:HT.sIx (a::l).length 0 (some 1)=1:=by simp[HT.sIx]
  have e2:HT.sIx (a::l).length (a::l).length none=(a::l).length:=by simp[HT.sIx]
  rw[e1,e2]
  simp
theorem cU {ms:List Int}{i:Nat} (h:i<(kI (li ms) ((li ms).drop 1)).length):(kI (li ms) ((li ms).drop 1))[i]=.tuple [.int (ms.getD i 0),.int (ms.getD (i+1) 0)]:=by
 have h':i+1<ms.length:=by
  rw[bC,Jn,HC] at h
  omega
 simp only[kI,List.getElem_zipWith,List.getElem_drop,cR]
 rw[Nat.add_comm 1 i]
noncomputable abbrev dc:Stmt:=top 14
theorem ib:ao ["spans", "rising"] ["spans"] (ad dc):=⟨rfl,rfl,rfl,by decide +kernel,rfl,by decide +kernel,by decide +kernel⟩
noncomputable def xW:DSp:=λss R=>∃ ns:List Int,ss=[.fr (.list (li ns))]/\ns.length<=40/\Sps ns/\∀ b:Bool,(b=true↔Chn ns)->R (.fr (.bool b)) [.un]
theorem nY {f:Addr}{fd:k0} (F:Fun K "is_chain" "is_chain" dc f fd):a9 K fd ["spans"] []:=F.binds (ps:=["spans"]) λ_ _ _ _ _ _ us a=>us1 (Q:=λus=>ze _ ⟨us,[]⟩=pure (List.zip _ us)) a λ_=>rfl
theorem ny {f:Addr}{fd:k0} (F:Fun K "is_chain" "is_chain" dc f fd) (B:Bn mg):bR P w K mg base CX0 1 f fd ["spans"] (spD K xW):=by
 refine okD (k:=0) F ib (λss R h=>?_) (by decide) (λcdv A outer s H E r=>⟨_,(aj (aA (i:=1) ib.nd rfl (Or.inl rfl) (yj (K:=K) rfl rfl B.sorted (aa (qv 0) ac)))
   (ae (aD (dw (BY (K:=K) rfl rfl) BX rfl B.all PyProof.Rows.boot_all (aa (cO (N':=["one", "other"]) (ix:=[none,none]) rfl (dq (N:=["spans", "rising"]) (sc0:=ad dc) rfl rfl (by decide +kernel)) (s9 false false (K:=K) rfl rfl B.zip (aa (qf 1) (aa (m4 (K:=K) rfl (qv 1) (fb ag) fe) ac))) (λ_ _ _ _=>(dS (K:=K) (n:=2) rfl rfl (aK (ak (i:=0) (show List.Nodup (["one", "other"]:List Str) by decide +kernel) rfl (Or.inl rfl)) (aK (ak (i:=1) (show List.Nodup (["one", "other"]:List Str) by decide +kernel) rfl (Or.inl rfl)) cC)))) (λ_ _ _ _=>bI) (λ_ _ _ _=>(m8 nt AJ (bz bF mIC (qv 1) (qv 0)) ag (aE _)))) ac))))),λss R h=>?_⟩)
 ·obtain⟨ns,rfl,_⟩:=h
  rfl
 obtain⟨ns,rfl,t,j,q⟩:=h
 walk_at "dd"
 refine⟨ns,rfl,by omega,?_⟩
 have pm:=fX ns
 have c:=sE ns
 generalize cZ ns=ms at *
 rw[GJ]
 have a:∀ x∈ms,1<=x:=λx hx=>(j x (pm.mem_iff.mp hx)).1
 have l:=pm.length_eq
 refine cT (λi=>.bool (decide (ms.getD (i+1) 0 % ms.getD i 0=0))) (by rw[bC,HC];omega) (λi hi Q m=>?_) ?_
 ·rw[cU]
  have d:i<ms.length:=by rw[bC,HC] at hi;omega
  have p:=a _ (b9 d)
  walk_at "dd"
  exact⟨by omega,m⟩
 have hz:(kI (li ms) ((li ms).drop 1)).length=ms.length - 1:=by
  rw[bC,Jn,HC]
  omega
 rw[hz]
 walk_at "dd"
 refine⟨(List.range (ms.length - 1)).map λi=>decide (ms.getD (i+1) 0 % ms.getD i 0=0),?_,q _ ?_⟩
 ·rw[show(List.range (ms.length - 1)).map (λi=>PyData.bool (decide (ms.getD (i+1) 0 % ms.getD i 0=0)))=((List.range (ms.length - 1)).map λi=>decide (ms.getD (i+1) 0 % ms.getD i 0=0)).map PyData.bool by rw[Ip];rfl]
  exact dH _
 have e:Chn ms↔Chn ns:=⟨λh x hx y g=>h x (pm.mem_iff.mpr hx) y (pm.mem_iff.mpr g),λh x hx y g=>h x (pm.mem_iff.mp hx) y (pm.mem_iff.mp g)⟩
 rw[<-e,<-BJ c a,IK]
 constructor
 ·intro h i hi
  have:=h _ (HS.mpr ⟨i,HW.mpr (by omega),rfl⟩)
  exact JC (of_decide_eq_true this)
 ·intro h b o
  obtain⟨i,hi,rfl⟩:=HS.mp o
  exact decide_eq_true (Int.emod_eq_zero_of_dvd (h i (by have:=HW.mp hi;omega)))
noncomputable abbrev cn:Stmt:=top 15
theorem eV:ao ["spans", "winders", "found"] ["spans", "winders"] (ad cn):=⟨rfl,rfl,rfl,by decide +kernel,rfl,by decide +kernel,by decide +kernel⟩
noncomputable def xS:DSp:=λss R=>∃ (ns:List Int) (W:Int),ss=[.fr (.list (li ns)),.fr (.int W)]/\ns.length<=40/\Sps ns/\0<=W/\W<=1000/\∀ d:Int,Lm ns d->R (.fr (.bool (decide (W*d<(ns.map (d / ·)).sum)))) [.un,.un]
theorem ja {f:Addr}{fd:k0} (F:Fun K "is_too_much" "is_too_much" cn f fd):a9 K fd ["spans", "winders"] []:=F.binds (ps:=["spans", "winders"]) λ_ _ _ _ _ _ us a=>us2 (Q:=λus=>ze _ ⟨us,[]⟩=pure (List.zip _ us)) a λ_ _=>rfl
theorem i4 {f:Addr}{fd:k0} (F:Fun K "is_too_much" "is_too_much" cn f fd) (B:Bn mg) (a:Cal P w K mg base "share" 3 (spD K sF)):bR P w K mg base CX0 4 f fd ["spans", "winders"] (spD K xS):=by
 refine okD (k:=3) F eV (λss R h=>?_) (by decide) (λcdv A outer s H E b=>⟨_,(aj (aA (i:=2) eV.nd rfl (Or.inl rfl) (aG a (b.mono (by decide)) rfl (aa (qf 0) ac)))
   (ae (aD (m8 tZ mB (bE (ah (K:=K) rfl) mIx (qv 2) ag (λ_ _=>rfl)) (bz dX mIC (qv 1) (bE (ah (K:=K) rfl) mIx (qv 2) ag (λ_ _=>rfl))) (aE _))))),λss R h=>?_⟩)
 ·obtain⟨ns,W,rfl,_⟩:=h
  rfl
 obtain⟨ns,W,rfl,c,e,l,m,q⟩:=h
 walk_at "dd"
 refine⟨ns,rfl,c,e,λd p r hd fr=>?_⟩
 walk_at "dd"
 have d1:=hd.pos
 have g:Bg d:=hd.bk.bg (by omega)
 have rb:=fr.rb
 have r1:=fr.r1
 have j:Bg r:=by
  have:d.natAbs<2 ^ 8000:=g
  show r.natAbs<2 ^ 8000
  omega
 refine⟨⟨Bg.of (by omega) (by omega),j⟩,?_⟩
 rw[show decide (W*r<p)=decide (W*d<(ns.map (d / ·)).sum) by rw[decide_eq_decide];exact zF r1 d1 fr.eq]
 exact q d hd
noncomputable def nl (l:List Nat):List PyData:=l.map λn=>PyData.int (n:Nat)
theorem DC.drop:∀ {l:List Nat},DC l->∀ i,i<l.length->DC (l.drop i)
 | l,h,0,_=>h
 | [],h,i+1,hi=>by simp at hi
 | [b],h,i+1,hi=>by simp at hi
 | b::a::l,h,i+1,hi=>by
  rw[List.drop_succ_cons]
  exact DC.drop h.2.2 i (by simpa using hi)
theorem sU (l:List Nat):(((nl l.reverse).zip ((nl l.reverse).drop 1)).map λp=>PyData.tuple [p.1,p.2]).reverse=(List.range (l.length - 1)).map λi=>PyData.tuple [.int (l.getD (i+1) 0:Nat),.int (l.getD i 0:Nat)]:=by
 apply IS
 ·simp[nl]
 ·intro i h1 h2
  have hi:i<l.length - 1:=by simpa using h2
  simp only[nl,List.getElem_reverse,IT,JL,List.getElem_drop,List.getElem_range,HC,Jj,Jn,JP]
  have a1:l.getD (i+1) 0=l[i+1]'(by omega):=by rw[HB,Hz (by omega)];rfl
  have a2:l.getD i 0=l[i]'(by omega):=by rw[HB,Hz (by omega)];rfl
  rw[a1,a2]
  congr 3
  ·congr 2;omega
  ·congr 3;omega
noncomputable abbrev fJ:Stmt:=top 16
theorem bW:ao ["place", "steps", "rest", "step", "finer", "parts"] ["place", "steps"] (ad fJ):=⟨rfl,rfl,rfl,by decide +kernel,rfl,by decide +kernel,by decide +kernel⟩
noncomputable def xT:DSp:=λss R=>∃ (p b:Nat) (L:List Nat),ss=[.fr (.int p),.fr (.list (nl (b::L).reverse))]/\L.length<=41/\DC (b::L)/\(∀ x∈b::L,x<=10000000000000000000000000000000000000001)/\p<b/\R (.fr (.int (RN (b::L) p:Nat))) [.un,.un]
theorem rM {f:Addr}{fd:k0} (F:Fun K "rest_at" "rest_at" fJ f fd):a9 K fd ["place", "steps"] []:=F.binds (ps:=["place", "steps"]) λ_ _ _ _ _ _ us a=>us2 (Q:=λus=>ze _ ⟨us,[]⟩=pure (List.zip _ us)) a λ_ _=>rfl
theorem qY {f:Addr}{fd:k0} (F:Fun K "rest_at" "rest_at" fJ f fd) (B:Bn mg):bR P w K mg base CX0 1 f fd ["place", "steps"] (spD K xT):=by
 refine okD (k:=0) F bW (λss R h=>?_) (by decide) (λcdv A outer s H E v=>⟨_,(aj (aA (i:=2) bW.nd rfl (Or.inl rfl) ag)
   (aj (dW PassesOwn.never rfl (CG (K:=K) rfl rfl B.reversed (aa (CP (K:=K) rfl rfl rfl B.list rfl B.zip (aa (qv 1) (aa (m4 (K:=K) rfl (qv 1) (fb ag) fe) ac))) ac)) (dS (K:=K) (n:=2) rfl rfl (aK (ak (i:=3) bW.nd rfl (Or.inl rfl)) (aK (ak (i:=4) bW.nd rfl (Or.inl rfl)) cC))) (aj (aA (i:=5) bW.nd rfl (Or.inl rfl) (bz bM mIC (qv 4) (qv 3)))
   (aj (aA (i:=2) bW.nd rfl (Or.inl rfl) (bz cQ mI (qv 2) (bz dX mIC (bz bF mIC (qv 0) (qv 5)) (qv 3))))
   (ae (aA (i:=0) bW.nd rfl (Or.inl rfl) (bz bM mIC (qv 0) (qv 5)))))))
   (ae (aD (qv 2))))),λss R h=>?_⟩)
 ·obtain⟨p,b,L,rfl,_⟩:=h
  rfl
 obtain⟨p,b,L,rfl,z,hd,m,o,q⟩:=h
 walk_at "dd"
 rw[GJ,sU]
 refine a8 (λi env=>∃ (r a:Nat) (g j l:Sl),env=[.fr (.int a),.fr (.list (nl (b::L).reverse)),.fr (.int r),g,j,l]/\a<(b::L).getD i 0/\r+RN ((b::L).drop i) a=RN (b::L) p) ⟨0,p,_,_,_,rfl,o,by simp⟩ ?_ ?_
 ·rintro i env hi ⟨r,a,g,j,l,rfl,h1,h2⟩
  have e:i<L.length:=by simpa using hi
  rw[IT,List.getElem_range]
  walk_at "dd"
  have e2:L.drop i=(b::L).getD (i+1) 0::L.drop (i+1):=by
   rw[Iw e,List.getD_cons_succ,HB,Hz e]
   rfl
  have d:i<(b::L).length:=by rw[Iq];omega
  have e1:(b::L).drop i=(b::L).getD i 0::L.drop i:=by
   rw[Iw d,List.drop_succ_cons,HB,Hz d]
   rfl
  have c:=hd.drop i d
  have C:(b::L).getD i 0<=10000000000000000000000000000000000000001:=m _ (List.mem_of_mem_drop (i:=i) (by rw[e1];exact HH))
  have t:(b::L).getD (i+1) 0<=10000000000000000000000000000000000000001:=m _ (List.mem_of_mem_drop (i:=i) (by rw[e1,e2];exact HJ _ HH))
  rw[e1,e2] at c h2
  rw[e2]
  generalize (b::L).getD i 0=x at *
  generalize (b::L).getD (i+1) 0=y at *
  obtain⟨c1,c2,c3⟩:=iK c.2.1 c.1 h1
  have y1:=DC.pos c.2.2
  rw[<-Int.natCast_ediv x y,<-Int.natCast_emod a (x / y),<-Int.natCast_ediv a (x / y)]
  have l1:x / y<=x:=Nat.div_le_self x y
  have l2:a % (x / y)<x / y:=Ja _ (by omega)
  refine⟨⟨by omega,Bg.of (by omega) (by omega)⟩,by omega,⟨Bg.of (by omega) (by omega),Bg.of (by omega) (by omega)⟩,⟨by omega,Bg.of (by omega) (by omega)⟩,r+a % (x / y)*y,a / (x / y),rfl,by rw[Int.natCast_add,Int.natCast_mul],c2,?_⟩
  rw[Nat.add_assoc]
  exact h2
 ·rintro env ⟨r,a,g,j,l,rfl,h1,h2⟩
  rw[HC,Io] at h1 h2
  walk_at "dd"
  have u:RN ((b::L).drop ((b::L).length - 1)) a=0:=by
   rw[Iq,Nat.add_sub_cancel,Iw (by simp),List.drop_eq_nil_of_le (by simp)]
   rfl
  rw[u,Nat.add_zero] at h2
  rw[h2]
  exact q
theorem Cp:∀ {l:List Nat}{a:Nat},(∀ x∈l,1<=x)->(a::l).Pairwise (λx y=>x∣y)->UC a l
 | [],_,_,_=>trivial
 | s::l,a,h,p=>⟨h s HH,(JX.mp p).1 s HH,Cp (λx hx=>h x (HJ _ hx)) (JX.mp p).2⟩
theorem pq (kn:Nat->Int) (n:Nat):(bY (ar (dN kn n)) (List.range n) 0).Perm (List.range n) :=
 fQ (by rw[Io];have:=aT (dN kn n);rwa [bP] at this)
theorem pM (kn:Nat->Int) {n j:Nat} (h:j<n):(dN kn n).getD j (0,[])=(kn j,[]):=by
 rw[HB]
 simp[dN,h]
theorem Ax (kn:Nat->Int) (n:Nat):((bY (ar (dN kn n)) (List.range n) 0).map kn).Pairwise (·<=·):=by
 rw[Ix]
 intro a b j g i
 have f:(ar (dN kn n)).length=n:=by rw[(aT _).length_eq,Io,bP]
 have d:b<n:=by
  rw[HC,(pq kn n).length_eq,Io] at g
  exact g
 have q:=kY (ks:=dN kn n) (JY i) (by rw[bP];exact d)
 have mem:∀ c,c<n->(ar (dN kn n)).getD c 0<n:=λc hc=>by
  rw[HB,Hz (by rw[f];exact hc)]
  have:=(aT (dN kn n)).mem_iff.mp (Ih (by rw[f];exact hc:c<(ar (dN kn n)).length))
  rw[bP] at this
  exact HW.mp this
 rw[pM kn (mem b d),pM kn (mem a (by omega))] at q
 have val:∀ c (hc:c<((bY (ar (dN kn n)) (List.range n) 0).map kn).length),c<n->((bY (ar (dN kn n)) (List.range n) 0).map kn)[c]=kn ((ar (dN kn n)).getD c 0):=λc hc e=>by
  have m:=mem c e
  rw[HB,Hz (by rw[f];exact e)] at m ⊢
  simp only[bY,IT]
  congr 1
  have k:(ar (dN kn n))[c]'(by rw[f];exact e)<n:=m
  rw[HB,JQ k]
 rw[val a j (by omega),val b g d]
 unfold cf at q
 split at q
 ·rename_i h
  exact Int.le_of_eq h.symm
 ·have:=of_decide_eq_false q
  omega
theorem yu {ns:List Int}{j:Nat} (h:j<ns.length):atI (li ns) (j:Int)=some (.int (ns.getD j 0)):=by
 have h':j<(li ns).length:=by rw[show(li ns).length=ns.length from HC ..];exact h
 rw[cF (Hz h'),cR]
theorem AC (c:Nat) (C:List Nat):atI (nl (c::C).reverse) (-1)=some (.int (c:Nat)):=by
 unfold nl
 rw[List.reverse_cons,Il]
 exact cG _ _
theorem eI (ns:List Int):(List.range ns.length).map (λj=>ns.getD j 0)=ns:=by
 apply IS
 ·simp
 ·intro i h1 h2
  rw[IT,List.getElem_range,HB,Hz h2]
  rfl
theorem xN:∀ {ss:List Nat}{a T:Nat},1<=a->UC a ss->∀ x∈ss,x∣(fi ss a T).1
 | [],_,_,_,_,x,hx=>by cases hx
 | s::ss,a,T,d,⟨b,e,c⟩,x,hx=>by
  show x∣(fi ss s (T*(s / a)+1)).1
  rcases HP.mp hx with rfl|hx
  ·exact(gT b c).1
  ·exact xN b c x hx
theorem Bh {ss:List Nat}{a T:Nat} (h:ss≠[]):(fi ss a T).1∈ss:=by
 rw[l6,List.getLast_cons h]
 exact List.getLast_mem h
theorem vH (l:List Nat):((l.sum:Nat):Int)=(l.map λ(n:Nat)=>(n:Int)).sum:=by
 induction l with
 | nil=>rfl
 | cons a l b=>rw[JF,HU,JF,<-b,Int.natCast_add]
theorem vG {a b:List Int} (h:a.Perm b):a.sum=b.sum:=by
 induction h with
 | nil=>rfl
 | cons x _ c=>rw[JF,JF,c]
 | swap x y l=>simp only[JF];omega
 | trans _ _ i1 i2=>rw[i1,i2]
theorem DQ {ns:List Int}{o ss:List Nat}{W d:Int} (l:o.Perm (List.range ns.length)) (f:ss=o.map λj=>(ns.getD j 0).toNat) (c:UC 1 ss) (r:1<=ns.length) (m:∀ x∈ns,1<=x) (d1:1<=d) (dd:∀ x∈ns,x∣d) (dl:∀ k:Int,(∀ x∈ns,x∣k)->d∣k) (s:0<=W) (hc:¬W*d<(ns.map (d / ·)).sum):(fi ss 1 0).2<=W.toNat*(fi ss 1 0).1:=by
 have b:(ss.map λ(n:Nat)=>(n:Int)).Perm ns:=by
  have h1:=l.map λj=>ns.getD j 0
  rw[eI] at h1
  have:(ss.map λ(n:Nat)=>(n:Int))=o.map λj=>ns.getD j 0:=by
   rw[f,Ip]
   refine Jy λj hj=>?_
   have:=m _ (by
    have hj:=HW.mp (l.mem_iff.mp hj)
    rw[HB,Hz hj];exact Ih hj:ns.getD j 0∈ns)
   show(((ns.getD j 0).toNat:Nat):Int)=_
   omega
  rw[this]
  exact h1
 have g:ss≠[]:=by
  intro z
  have:=b.length_eq
  rw[z] at this
  simp at this
  omega
 have m1:=Bh (a:=1) (T:=0) g
 have m2:(((fi ss 1 0).1:Nat):Int)∈ns:=b.mem_iff.mp (HS.mpr ⟨_,m1,rfl⟩)
 have e1:d∣((fi ss 1 0).1:Nat):=dl _ λx hx=>by
  obtain⟨y,q,rfl⟩:=HS.mp (b.mem_iff.mpr hx)
  exact Int.natCast_dvd_natCast.mpr (xN (HK 1) c y q)
 have e2:=dd _ m2
 have p:=m _ m2
 have e:d=((fi ss 1 0).1:Nat):=Int.le_antisymm (IP (by omega) e1) (IP (by omega) e2)
 have es:=p9 (T:=0) (HK 1) c
 rw[Nat.zero_mul,Nat.zero_add] at es
 have h:(((fi ss 1 0).2:Nat):Int)=(ns.map (d / ·)).sum:=by
  rw[es,vH,<-vG (b.map (d / ·)),Ip,Ip,e]
  congr 1
 have i:(((fi ss 1 0).2:Nat):Int)<=W*(((fi ss 1 0).1:Nat):Int):=by rw[h,<-e];omega
 have hw:((W.toNat:Nat):Int)=W:=by omega
 rw[<-hw,<-Int.natCast_mul] at i
 omega
theorem qD {e f:Nat×List Nat} (h:BU e f) {a b:Nat}{l m:List Nat} (i:e.2=a::l) (n:f.2=b::m) (hw:e.1 / a=f.1 / b):((RN e.2 (e.1 % a):Nat) - (RN f.2 (f.1 % b):Nat):Int) % (Ib (a:Int) (b:Int):Int)≠0/\((RN f.2 (f.1 % b):Nat) - (RN e.2 (e.1 % a):Nat):Int) % (Ib (b:Int) (a:Int):Int)≠0:=by
 have d:DC e.2:=by
  obtain⟨a,l,b,k,e1,e2,e3,r,s⟩:=h
  rw[e1]
  rw[e2] at e3
  exact DC.drop (l:=b::(k++a::l)) e3 (k.length+1) (by simp) |> λz=>by simpa using z
 obtain⟨t,u,h1,h2,j,o,g⟩:=ox h
 rw[i] at h1
 rw[n] at h2
 cases h1
 cases h2
 have g:=g hw
 have lt:RN e.2 (e.1 % a)<a:=by
  rw[i] at d ⊢
  exact xK d (Ja _ o)
 generalize RN e.2 (e.1 % a)=x at *
 generalize RN f.2 (f.1 % b)=y at *
 have p:Ib (a:Int) (b:Int)=a:=Nat.gcd_eq_left j
 have q:Ib (b:Int) (a:Int)=a:=Nat.gcd_eq_right j
 rw[p,q]
 have key:∀ c:Int,(y:Int) - x=a*c->False:=λc hc=>g (by
  have e:(y:Int)=x+a*c:=by omega
  have:((y % a:Nat):Int)=x:=by
   rw[Int.natCast_emod,e,JO,Int.emod_eq_of_lt (by omega) (by omega)]
  omega)
 refine⟨λz=>?_,λz=>?_⟩
 ·obtain⟨c,hc⟩:=JC z
  exact key (-c) (by rw[Int.mul_neg];omega)
 ·obtain⟨c,hc⟩:=JC z
  exact key c hc
theorem gR {n k:Nat} (g:Nat->Ev) (h:k<n):((List.range n).map g).getD k (0,0,0)=g k:=by
 rw[HB,Ic,JQ h]
 rfl
noncomputable def Et (ns:List Int) (o ss:List Nat) (k:Nat) (e:Nat×Nat×Nat×List Nat):Prop:=o[e.1]? = some k/\(mW ss [1] 0)[e.1]? = some (e.2.1,e.2.2.1::e.2.2.2)/\((e.2.2.1:Nat):Int)=ns.getD k 0
noncomputable def BZ (e:Nat×Nat×Nat×List Nat):Ev:=(((e.2.1 / e.2.2.1:Nat):Int),((RN (e.2.2.1::e.2.2.2) (e.2.1 % e.2.2.1):Nat):Int),((e.2.2.1:Nat):Int))
theorem D5 {ns:List Int}{o ss:List Nat}{W:Int} (B:0<=W) (t:∀ x∈ns,1<=x) (a:UC 1 ss) (c:∀ e∈mW ss [1] 0,∃ b l,e.2=b::l/\e.1+1<=W.toNat*b) {f:Nat->Nat×Nat×Nat×List Nat} (d:∀ k,k<ns.length->Et ns o ss k (f k)):GO ns W ((List.range ns.length).map λk=>BZ (f k)):=by
 have g:DC [1]:=rfl
 have pos:∀ k,k<ns.length->1<=(f k).2.2.1:=λk hk=>by
  have h1:=(d k hk).2.2
  have h2:=t _ (b9 hk)
  omega
 refine⟨⟨by simp,λk hk=>?_,λk hk j hj=>?_⟩,λk hk=>?_⟩
 ·have hk:k<ns.length:=by simpa using hk
  rw[gR _ hk]
  obtain⟨e1,e2,e3⟩:=d k hk
  have p:=pos k hk
  generalize f k=e at *
  obtain⟨j,T,s,l⟩:=e
  have e2:(mW ss [1] 0)[j]? = some (T,s::l):=e2
  have p:1<=s:=p
  have e3:((s:Nat):Int)=ns.getD k 0:=e3
  have mem:=IE e2
  obtain⟨b,k',r1,u,C,D⟩:=jM g a _ mem
  obtain⟨E,F,v,h⟩:=c _ mem
  cases v
  have lt:=xK u (Ja T p)
  have dv:T / s<W.toNat:=(Nat.div_lt_iff_lt_mul p).mpr (by have h:T+1<=W.toNat*s:=h;omega)
  unfold iZ BZ
  rw[decide_eq_true_eq]
  simp only
  generalize T / s=w at *
  generalize RN (s::l) (T % s)=r at *
  omega
 ·have hk:k<ns.length:=by simpa using hk
  rw[gR _ hk,gR _ (by omega)]
  obtain⟨a1,a2,a3⟩:=d k hk
  obtain⟨y,A,G⟩:=d j (by omega)
  have i:=lm (T:=0) g a
  rintro⟨z1,z2⟩
  have z1:(((f k).2.1 / (f k).2.2.1:Nat):Int)=(((f j).2.1 / (f j).2.2.1:Nat):Int):=z1
  have z1:(f k).2.1 / (f k).2.2.1=(f j).2.1 / (f j).2.2.1:=by omega
  have ne:(f k).1≠(f j).1:=λz=>by
   rw[z,y] at a1
   injection a1 with a1
   omega
  obtain⟨la,m⟩:=HI.mp a2
  obtain⟨n,q⟩:=HI.mp A
  rcases Nat.lt_or_gt_of_ne ne with l|l
  ·have:=Ix.mp i _ _ la n l
   rw[m,q] at this
   exact(qD this rfl rfl z1).1 z2
  ·have:=Ix.mp i _ _ n la l
   rw[m,q] at this
   exact(qD this rfl rfl z1.symm).2 z2
 ·rw[gR _ hk]
  exact(d k hk).2.2
noncomputable abbrev cb:Stmt:=top 17
theorem aZ:ao ["spans", "winders", "even", "steps", "taken", "clock", "step"] ["spans", "winders"] (ad cb):=⟨rfl,rfl,rfl,by decide +kernel,rfl,by decide +kernel,by decide +kernel⟩
noncomputable def vK:DSp:=λss R=>∃ (ns:List Int) (W:Int),ss=[.fr (.list (li ns)),.fr (.int W)]/\1<=ns.length/\ns.length<=40/\Sps ns/\0<=W/\W<=1000/\(¬Chn ns->R (.fr .none) [.un,.un]) /\
 (Chn ns->∀ d:Int,Lm ns d->(W*d<(ns.map (d / ·)).sum->R (.fr .none) [.un,.un])/\(¬W*d<(ns.map (d / ·)).sum->∀ es,GO ns W es->R (.ow (lE es)) [.un,.un]))
theorem kA {f:Addr}{fd:k0} (F:Fun K "chain_plan" "chain_plan" cb f fd):a9 K fd ["spans", "winders"] []:=F.binds (ps:=["spans", "winders"]) λ_ _ _ _ _ _ us a=>us2 (Q:=λus=>ze _ ⟨us,[]⟩=pure (List.zip _ us)) a λ_ _=>rfl
theorem jT {f:Addr}{fd:k0} (F:Fun K "chain_plan" "chain_plan" cb f fd) (B:Bn mg) (L:rX K base "chain_plan" fd) (n:Cal P w K mg base "is_chain" 1 (spD K xW)) (m:Cal P w K mg base "is_too_much" 4 (spD K xS)) (t:Cal P w K mg base "rest_at" 1 (spD K xT)):bR P w K mg base CX0 6 f fd ["spans", "winders"] (spD K vK):=by
 refine FC (k:=5) F aZ (λss R h=>?_) (by decide) (λcdv a6 A outer s H E hr=>⟨_,(am (eW (PW.pt (iY (df (cN (aG n (hr.mono (by decide)) rfl (aa (qf 0) ac)))) (fP (cN (aG m (hr.mono (by decide)) rfl (aa (qf 0) (aa (qf 1) ac))))))) (ae (aD f7)) aW)
   (am (aA (i:=2) aZ.nd rfl (Or.inr rfl) CS)
   (am (aA (i:=3) aZ.nd rfl (Or.inl rfl) (eP (aa ag ac)))
   (am (aA (i:=4) aZ.nd rfl (Or.inl rfl) ag)
   (am (dW PassesOwn.never rfl (bJ (K:=K) rfl (CJ 0 (p := "number") (x := "spans") (K:=K) rfl rfl (let ⟨c,T,a,b,d⟩:=L;⟨c,T,a6.trans a,b,d⟩) (hr.mono (by decide)) rfl B.sorted rfl B.range (aa (dw (fB (K:=K) rfl) fA rfl B.len PySem.boot_len (aa (qv 0) ac)) ac) ⟨rfl,rfl,rfl,rfl,rfl,by decide,by decide,by decide⟩ rfl (Or.inr (Or.inl rfl)) (Or.inl rfl) (λz=>nomatch (show(some NameKind.cell:Option NameKind)=some .local from z)) (λ_ _ _ _ _ _=>rfl) (λc hc=>by cases hc;rfl) rfl (λ_ _ _ _ _ _ _=>(bE (ah (K:=K) rfl) mIx (qv 1) (qv 0) (λ_ _=>rfl))))) (ak (i:=5) aZ.nd rfl (Or.inl rfl)) (am (aA (i:=6) aZ.nd rfl (Or.inl rfl) (bE (ah (K:=K) rfl) mIx (qv 0) (qv 5) (λ_ _=>rfl)))
   (am (aA (i:=4) aZ.nd rfl (Or.inl rfl) (bz dX mIC (qv 4) (bz bM mIC (qv 6) (bE (ah (K:=K) rfl) mIx (qv 3) (CH jf Dj ag) (λ_ _=>rfl)))))
   (am (eX (qV 3 (K:=K) rfl rfl (qf 6)))
   (am (CM 2 (K:=K) rfl rfl (qf 5) (gJ (aa (bz bM mIC (qv 4) (qv 6)) (aa (z0 t (hr.mono (by decide)) rfl (aa (bz bF mIC (qv 4) (qv 6)) (aa (Fv 3) ac))) (aa (qf 6) ac)))))
   (ae (aA (i:=4) aZ.nd rfl (Or.inl rfl) (bz cQ mI (qv 4) ag))))))))
   (zQ 2 (ae (aD (cO (N':=["clock", "even"]) (ix:=[none,some 2]) rfl (dq (N:=["spans", "winders", "even", "steps", "taken", "clock", "step"]) (sc0:=ad cb) rfl rfl (by decide +kernel)) (cW rfl B.range (aa (dw (fB (K:=K) rfl) fA rfl B.len PySem.boot_len (aa (qv 0) ac)) ac)) (λ_ _ _ _=>(ak (i:=0) (show List.Nodup (["clock", "even"]:List Str) by decide +kernel) rfl (Or.inl rfl))) (λ_ _ _ _=>bI) (λ_ _ _ _=>(bE (Hf (K:=K) rfl) G8 (qv 1) (qv 0) (λ_ _=>rfl)))))))))))),λss R h=>?_⟩)
 ·obtain⟨ns,W,rfl,_⟩:=h
  rfl
 obtain⟨ns,W,rfl,n1,hl,M,w0,w1,q0,q⟩:=h
 walk_at "dx"
 refine⟨ns,rfl,hl,M,λb hb=>?_⟩
 walk_at "dx"
 cases b with
 | false =>
  walk_at "dx"
  exact q0 λz=>nomatch hb.mpr z
 | true =>
  walk_at "dx"
  refine⟨ns,W,rfl,hl,M,w0,w1,λd hd=>?_⟩
  walk_at "dx"
  by_cases hc:W*d<(ns.map (d / ·)).sum
  ·rw[if_pos hc]
   exact(q (hb.mp rfl) d hd).1 hc
  ·rw[if_neg hc]
   walk_at "dx"
   intro S
   walk_at "dx"
   refine⟨by rw[zd];decide,?_⟩
   walk_at "dx"
   have Z:(li ns).length=ns.length:=HC ..
   refine⟨ns.length,by rw[Z],by omega,λj=>ns.getD j 0,λj hj=>?_,?_⟩
   ·exact⟨_,yu hj,rfl⟩
   obtain⟨o,ho⟩:∃ o,o=bY (ar (dN (λj=>ns.getD j 0) ns.length)) (List.range ns.length) 0:=⟨_,rfl⟩
   rw[<-ho]
   have g:o.Perm (List.range ns.length):=by rw[ho];exact pq _ _
   have O:(o.map λj=>ns.getD j 0).Pairwise (·<=·):=by rw[ho];exact Ax _ _
   have a7:o.length=ns.length:=by rw[g.length_eq,Io]
   obtain⟨ss,u⟩:∃ ss:List Nat,ss=o.map λj=>(ns.getD j 0).toNat:=⟨_,rfl⟩
   have b1:Chn ns:=hb.mp rfl
   have v:∀ j∈o,ns.getD j 0∈ns:=λj hj=>b9 (HW.mp (g.mem_iff.mp hj))
   have G:UC 1 ss:=by
    refine Cp (λx hx=>?_) (JX.mpr ⟨λ_ _=>Nat.one_dvd _,?_⟩)
    ·rw[u] at hx
     obtain⟨j,hj,rfl⟩:=HS.mp hx
     have:=M _ (v j hj)
     omega
    ·rw[u,List.pairwise_map]
     rw[List.pairwise_map] at O
     refine O.imp_of_mem λ{a b} ha a0 c4=>?_
     have p1:=M _ (v a ha)
     have p2:=M _ (v b a0)
     have:ns.getD a 0∣ns.getD b 0:=by
      rcases b1 _ (v a ha) _ (v b a0) with d|d
      ·exact d
      ·have:=IP (by omega) d
       rw[show ns.getD a 0=ns.getD b 0 by omega]
       exact Int.dvd_refl _
     exact Int.natCast_dvd_natCast.mp (by rw[Int.toNat_of_nonneg (by omega),Int.toNat_of_nonneg (by omega)];exact this)
   have U:∀ e∈mW ss [1] 0,∃ b l,e.2=b::l/\e.1+1<=W.toNat*b:=o7 (show DC [1] from rfl) G (DQ g u G n1 (λx hx=>(M x hx).1) hd.pos hd.dvd hd.least w0 hc)
   refine a8 (λi env=>∃ (T c:Nat) (C:List Nat) (kvs:List (Int×PyData)) (v5 v6:Sl),env=[.fr (.list (li ns)),.fr (.int W),.tr S (i8 kvs),.ow (nl (c::C).reverse),.fr (.int T),v5,v6] /\
    kvs.length<=i/\C.length=i/\DC (c::C)/\UC c (ss.drop i)/\(∀ x∈c::C,x<=10000000000000000000000000000000000000001)/\T<=100000000000000000000000000000000000000000000/\mW (ss.drop i) (c::C) T=(mW ss [1] 0).drop i /\
    ∀ (j k:Nat),j<i->o[j]? = some k->∃ (X s:Nat) (l:List Nat),(mW ss [1] 0)[j]? = some (X,s::l)/\(s:Int)=ns.getD k 0/\ci kvs (k:Int)=some (.tuple [.int (X / s:Nat),.int (RN (s::l) (X % s):Nat),.int s])) ?_ ?_ ?_
   ·refine⟨0,1,[],[],_,_,rfl,HK _,rfl,rfl,by rw[JJ];exact G,?_,by omega,by rw[JJ,JJ],λj k hj=>absurd hj (by omega)⟩
    intro x hx
    rw[HD.mp hx]
    omega
   ·rintro i env hi ⟨T,c,C,kvs,v5,v6,rfl,k1,k2,k3,k4,k5,k6,k7,k8⟩
    have I:i<o.length:=by simpa using hi
    rw[IT]
    have hk:o[i]<ns.length:=HW.mp (g.mem_iff.mp (Ih I))
    obtain⟨k,J⟩:∃ k,k=o[i]:=⟨_,rfl⟩
    rw[<-J] at hk ⊢
    have c5:=M _ (b9 hk)
    obtain⟨s',es⟩:∃ s':Nat,ns.getD k 0=(s':Int):=⟨(ns.getD k 0).toNat,by omega⟩
    have Y:ss.drop i=s'::ss.drop (i+1):=by
     have b2:i<ss.length:=by rw[u,HC];exact I
     rw[Iw b2]
     congr 1
     subst u
     rw[IT,<-J,es]
     rfl
    rw[Y] at k4 k7
    obtain⟨u1,u2,u3⟩:=k4
    have c1:=DC.pos k3
    have a4:DC (s'::c::C):=⟨u1,u2,k3⟩
    have y:(mW ss [1] 0)[i]? = some (T*(s' / c),s'::c::C):=by
     have:=congrArg (λl=>l[0]?) k7
     simpa[mW] using this.symm
    have D:mW (ss.drop (i+1)) (s'::c::C) (T*(s' / c)+1)=(mW ss [1] 0).drop (i+1):=by
     have:=congrArg List.tail k7
     rw[List.tail_drop] at this
     exact this
    obtain⟨b0,l0,eb,few⟩:=U _ (IE y)
    cases eb
    have bT:T*(s' / c)+1<=100000000000000000000000000000000000000000000:=by
     have h1:W.toNat*s'<=1000*10000000000000000000000000000000000000000:=Nat.mul_le_mul (by omega) (by omega)
     have h2:T*(s' / c)+1<=W.toNat*s':=few
     omega
    walk_at "dx"
    refine⟨_,(yu hk).trans (by rw[es]),?_⟩
    walk_at "dx"
    refine⟨_,AC c C,?_⟩
    walk_at "dx"
    have cl:c<=10000000000000000000000000000000000000001:=k5 c HH
    have sl:s'<=10000000000000000000000000000000000000001:=by omega
    have dl:s' / c<=s':=Nat.div_le_self _ _
    rw[<-Int.natCast_ediv s' c]
    have d0:(0:Int)<=((s' / c:Nat):Int):=Int.natCast_nonneg _
    refine⟨⟨by omega,Bg.of (by omega) (by omega)⟩,⟨Bg.of (by omega) (by omega),Bg.of (by omega) (by omega)⟩,?_⟩
    rw[<-Int.natCast_mul]
    walk_at "dx"
    refine⟨by rw[zd,show(nl (c::C).reverse).length=C.length+1 by simp[nl]];omega,?_⟩
    rw[show nl (c::C).reverse++[PyData.int s']=nl (s'::c::C).reverse by simp[nl]]
    obtain⟨V,b3⟩:∃ V,V=T*(s' / c):=⟨_,rfl⟩
    rw[<-b3] at y D few bT ⊢
    have ml:V % s'<s':=Ja _ u1
    walk_at "dx"
    refine⟨⟨by omega,Bg.of (by omega) (by omega)⟩,by omega,V % s',s',c::C,by rw[Int.natCast_emod],by rw[Iq];omega,a4,?_,ml,?_⟩
    ·intro x hx
     rcases HP.mp hx with rfl|hx
     ·exact sl
     ·exact k5 x hx
    walk_at "dx"
    refine⟨rfl,by rw[zd];decide,⟨_,rfl⟩,kvs,rfl,by rw[zd];omega,?_⟩
    walk_at "dx"
    have b4:o.Nodup:=g.nodup_iff.mpr List.nodup_range
    refine⟨V+1,s',c::C,fY kvs (k:Int) (.tuple [.int (V / s':Nat),.int (RN (s'::c::C) (V % s'):Nat),.int s']),by rw[Int.natCast_ediv],rfl,by omega,HQ (jH _ _ _) (by omega),by rw[Iq,k2],a4,u3,?_,bT,D,λj k' hj hok=>?_⟩
    ·intro x hx
     rcases HP.mp hx with rfl|hx
     ·exact sl
     ·exact k5 x hx
    by_cases a5:j=i
    ·subst a5
     rw[Hz I] at hok
     injection hok with hok
     have e:k'=k:=by rw[J];exact hok.symm
     rw[e]
     exact⟨V,s',c::C,y,es.symm,by rw[kc,if_pos rfl]⟩
    ·obtain⟨X,s,l,r1,r2,r3⟩:=k8 j k' (by omega) hok
     refine⟨X,s,l,r1,r2,?_⟩
     rw[kc,if_neg ?_]
     ·exact r3
     ·intro z
      have e:k'=k:=Int.ofNat.inj z
      have b5:j<o.length:=by omega
      refine a5 ((List.getElem?_inj b5 b4).mp ?_)
      rw[hok,Hz I,e,J]
   ·rintro env ⟨T,c,C,kvs,v5,v6,rfl,k1,k2,k3,k4,k5,k6,k7,k8⟩
    walk_at "dx"
    have b6:(List.map (λi=>PyData.int ((i:Nat):Int)) o).length=ns.length:=by rw[HC,a7]
    rw[b6] at k8
    obtain⟨f,hf⟩:=Classical.axiomOfChoice (r:=λk (e:Nat×Nat×Nat×List Nat)=>k<ns.length->Et ns o ss k e/\ci kvs (k:Int)=some (pE (BZ e))) λk=>by
     by_cases hk:k<ns.length
     ·have hm:k∈o:=g.mem_iff.mpr (HW.mpr hk)
      obtain⟨j,hj,e⟩:=Im hm
      have e':o[j]? = some k:=by rw[Hz hj,e]
      obtain⟨X,s,l,r1,r2,r3⟩:=k8 j k (by omega) e'
      exact⟨(j,X,s,l),λ_=>⟨⟨e',r1,r2⟩,r3⟩⟩
     ·exact⟨(0,0,0,[]),λz=>absurd z hk⟩
    rw[Z]
    refine⟨by omega +splitDisjunctions,by omega +splitDisjunctions,cT (λk=>pE (BZ (f k))) (by rw[aw];omega) (λi hi Q hQ=>?_) ?_⟩
    ·rw[aw] at hi
     rw[aY]
     walk_at "dx"
     exact⟨kvs,rfl,_,(hf i (by omega)).2,hQ⟩
    ·rw[aw]
     walk_at "dx"
     have:=(q (hb.mp rfl) d hd).2 hc _ (D5 w0 (λx hx=>(M x hx).1) G U λk hk=>(hf k hk).1)
     rw[show(lE ((List.range ns.length).map λk=>BZ (f k)))=(List.range ((ns.length:Nat):Int).toNat).map λk=>pE (BZ (f k)) by simp only[Ip,IB];rfl] at this
     exact this
noncomputable abbrev be:Stmt:=top 2
theorem ax:ao ["one", "other", "ahead", "here", "many", "rest"] ["one", "other"] (ad be):=⟨rfl,rfl,rfl,by decide +kernel,rfl,by decide +kernel,by decide +kernel⟩
noncomputable def Cv:DSp:=λss R=>∃ a b:Int,ss=[.fr (.int a),.fr (.int b)]/\1<=a/\1<=b/\a<=10000000000000000000000000000000000000000/\b<=10000000000000000000000000000000000000000/\∀ x y:Int,a*x+b*y=Ib a b->-b<=x->x<=b->R (.fr (.tuple [.int (Ib a b),.int x])) [.un,.un]
structure Bez (a b p x q y:Int):Prop where
 p0 : 1<=p
 q0 : 0<=q
 pa : p<=a+b
 qa : q<=a+b
 gcd:Ib p q=Ib a b
 fst:∃ u,a*x+b*u=p
 snd:∃ u,a*y+b*u=q
 sgn:(0<=x/\y<=0/\x*q - y*p=b)\/(x<=0/\0<=y/\y*p - x*q=b)
 xb : -b<=x/\x<=b
theorem Bez.yb {a b p x q y:Int} (h:Bez a b p x q y):-b<=y/\y<=b:=by
 have p0:=h.p0
 have q0:=h.q0
 rcases h.sgn with⟨s1,s2,c⟩|⟨s1,s2,c⟩
 ·have h1:=Jx s1 q0
  have h2:=Jk p0 (show 0<=-y by omega)
  rw[Int.mul_one,Int.neg_mul] at h2
  omega
 ·have h1:=Jx (show 0<=-x by omega) q0
  have h2:=Jk p0 s2
  rw[Int.mul_one] at h2
  rw[Int.neg_mul] at h1
  omega
theorem Bez.step {a b p x q y:Int} (h:Bez a b p x q y) (f:q≠0):Bez a b q y (p - p / q*q) (x - p / q*y):=by
 have p0:=h.p0
 have q0:=h.q0
 have q1:1<=q:=by omega
 have qa:=h.qa
 have c:p - p / q*q=p % q:=by rw[Int.emod_def,Int.mul_comm]
 have e:0<=p / q:=JV (by omega) q0
 have m1:=IF p (show 0<q by omega)
 refine⟨q1,by rw[c];exact IY _ f,qa,by omega,by rw[c,pT (by omega) q0];exact h.gcd,h.snd,?_,?_,h.yb⟩
 ·obtain⟨u,e1⟩:=h.fst
  obtain⟨v,e2⟩:=h.snd
  refine⟨u - p / q*v,?_⟩
  generalize p / q=d
  grind
 ·have g:y*(p - p / q*q) - (x - p / q*y)*q=y*p - x*q:=by
   generalize p / q=d
   grind
  rcases h.sgn with⟨s1,s2,i⟩|⟨s1,s2,i⟩
  ·refine .inr ⟨s2,?_,by omega⟩
   have:=Jx e (show 0<=-y by omega)
   rw[Int.mul_neg] at this
   omega
  ·refine .inl ⟨s2,?_,by omega⟩
   have:=Jx e s2
   omega
theorem d9 {f:Addr}{fd:k0} (F:Fun K "divisor_and_factor" "divisor_and_factor" be f fd):a9 K fd ["one", "other"] []:=F.binds (ps:=["one", "other"]) λ_ _ _ _ _ _ us a=>us2 (Q:=λus=>ze _ ⟨us,[]⟩=pure (List.zip _ us)) a λ_ _=>rfl
theorem dY {f:Addr}{fd:k0} (F:Fun K "divisor_and_factor" "divisor_and_factor" be f fd) (B:Bn mg):bR P w K mg base CX0 1 f fd ["one", "other"] (spD K Cv):=by
 refine okD (k:=0) F ax (λss R h=>?_) (by decide) (λcdv A outer s H E z=>⟨_,(aj (aA (i:=2) ax.nd rfl (Or.inl rfl) (gJ (aa (qf 0) (aa ag ac))))
   (aj (aA (i:=3) ax.nd rfl (Or.inl rfl) (gJ (aa (qf 1) (aa ag ac))))
   (aj (jN PassesOwn.never (aJ nq AI (bE (ah (K:=K) rfl) mIx (qv 3) ag (λ_ _=>rfl)) ag (aE _)) (aj (aA (i:=4) ax.nd rfl (Or.inl rfl) (bz bM mIC (bE (ah (K:=K) rfl) mIx (qv 2) ag (λ_ _=>rfl)) (bE (ah (K:=K) rfl) mIx (qv 3) ag (λ_ _=>rfl))))
   (aj (aA (i:=5) ax.nd rfl (Or.inl rfl) (gJ (aa (bz jq mI (bE (ah (K:=K) rfl) mIx (qv 2) ag (λ_ _=>rfl)) (bz dX mIC (qv 4) (bE (ah (K:=K) rfl) mIx (qv 3) ag (λ_ _=>rfl)))) (aa (bz jq mI (bE (ah (K:=K) rfl) mIx (qv 2) ag (λ_ _=>rfl)) (bz dX mIC (qv 4) (bE (ah (K:=K) rfl) mIx (qv 3) ag (λ_ _=>rfl)))) ac))))
   (aj (aA (i:=2) ax.nd rfl (Or.inl rfl) (qf 3))
   (ae (aA (i:=3) ax.nd rfl (Or.inl rfl) (qf 5)))))))
   (ae (aD (qv 2)))))),λss R h=>?_⟩)
 ·obtain⟨a,b,rfl,_⟩:=h
  rfl
 obtain⟨a,b,rfl,n,C,o,t,q⟩:=h
 walk_at "dd"
 refine⟨by decide,by decide,?_⟩
 refine⟨λm env=>∃ p x r y:Int,∃ e g,env=[.fr (.int a),.fr (.int b),.fr (.tuple [.int p,.int x]),.fr (.tuple [.int r,.int y]),e,g]/\m=r.toNat/\Bez a b p x r y,⟨_,a,1,b,0,_,_,rfl,rfl,?_⟩,?_⟩
 ·exact⟨n,by omega,by omega,by omega,rfl,⟨0,by omega⟩,⟨1,by omega⟩,.inl ⟨by omega,by omega,by omega⟩,by omega,by omega⟩
 rintro m env ⟨p,x,r,y,e,g,rfl,rfl,d⟩
 walk_at "dd"
 have p0:=d.p0
 have q0:=d.q0
 have pa:=d.pa
 have qa:=d.qa
 have yb:=d.yb
 refine dO (λc=>?_) (λc=>?_)
 ·have D:0<=p / r:=JV (by omega) q0
  have d1:p / r<=p:=JN _ (by omega)
  have v:p - p / r*r=p % r:=by rw[Int.emod_def,Int.mul_comm]
  have m1:=IF p (show 0<r by omega)
  have j:Bg (p / r):=Bg.of (by omega) (by omega)
  exact⟨⟨by omega,Bg.of (by omega) (by omega)⟩,⟨j,Bg.of (by omega) (by omega)⟩,⟨j,Bg.of (by omega) (by omega)⟩,by decide,_,by rw[v];omega,rfl,d.step c⟩
 ·have c:r=0:=by simpa using c
  subst c
  have l:=d.gcd
  rw[Int.gcd_zero_right] at l
  have ep:((Ib a b:Nat):Int)=p:=by rw[<-l,Int.natAbs_of_nonneg (by omega)]
  obtain⟨u,e1⟩:=d.fst
  have:=q x u (by rw[ep];exact e1) d.xb.1 d.xb.2
  rwa [ep] at this
noncomputable abbrev jK:Stmt:=top 10
theorem fF:ao ["rest", "step", "other_rest", "other_step", "found", "divisor", "apart", "turns"] ["rest", "step", "other_rest", "other_step"] (ad jK):=⟨rfl,rfl,rfl,by decide +kernel,rfl,by decide +kernel,by decide +kernel⟩
noncomputable def sL:DSp:=λss R=>∃ r s a s':Int,ss=[.fr (.int r),.fr (.int s),.fr (.int a),.fr (.int s')]/\0<=r/\r<s/\0<=a/\a<s'/\s<=10000000000000000000000000000000000000000/\s'<=10000000000000000000000000000000000000000 /\
 ((a - r) % (Ib s s':Int)≠0->R (.fr .none) [.un,.un,.un,.un])/\∀ d:Int,(a - r) % (Ib s s':Int)=0->0<=d->d<s / (Ib s s':Int)*s'->d % s=r->d % s'=a->R (.fr (.int d)) [.un,.un,.un,.un]
theorem uW {r s c s' x y:Int} (h1:0<=r) (h2:r<s) (j:0<=c) (l:c<s') (e:s*x+s'*y=Ib s s') (hd:(c - r) % (Ib s s':Int)=0) :
  0 < s' / (Ib s s':Int)/\0<=(c - r) / (Ib s s':Int)*x % (s' / (Ib s s':Int))/\(c - r) / (Ib s s':Int)*x % (s' / (Ib s s':Int))<s' / (Ib s s':Int) /\
  r + s*((c - r) / (Ib s s':Int)*x % (s' / (Ib s s':Int)))<s / (Ib s s':Int)*s'/\(r+s*((c - r) / (Ib s s':Int)*x % (s' / (Ib s s':Int)))) % s=r /\
  (r + s*((c - r) / (Ib s s':Int)*x % (s' / (Ib s s':Int)))) % s'=c:=by
 obtain⟨u,⟨a,f⟩,⟨b,d⟩⟩:=d5 (s:=s) (s':=s') (by omega)
 generalize (Ib s s':Int)=g at *
 obtain⟨k,m⟩:=JC hd
 have q1:s' / g=b:=by rw[d,Int.mul_ediv_cancel_left _ (by omega)]
 have n:s / g=a:=by rw[f,Int.mul_ediv_cancel_left _ (by omega)]
 have o:(c - r) / g=k:=by rw[m,Int.mul_ediv_cancel_left _ (by omega)]
 have i:0<b:=by
  rcases Int.lt_or_le 0 b with z|z
  ·exact z
  ·have:=Jx (show 0<=g by omega) (show 0<=-b by omega)
   rw[Int.mul_neg,<-d] at this
   omega
 rw[q1,n,o]
 have p:=IY (k*x) (show b≠0 by omega)
 have q:=IF (k*x) i
 have v:=Int.emod_add_mul_ediv (k*x) b
 generalize k*x % b=t at *
 generalize k*x / b=w at *
 have A:0<s:=by omega
 refine⟨i,p,q,?_,?_,?_⟩
 ·have h:=Jk (show t<=b - 1 by omega) (show 0<=s by omega)
  have e1:a*s'=s*b:=by rw[f,d];grind
  rw[e1]
  rw[Int.mul_sub,Int.mul_one] at h
  omega
 ·rw[JO]
  exact Int.emod_eq_of_lt h1 h2
 ·have e1:r+s*t=c+s'*(-(k*y+a*w)):=by
   have e2:s*b=s'*a:=by rw[f,d];grind
   have e3:s*t=s*(k*x) - s'*a*w:=by rw[<-e2];grind
   grind
  rw[e1,JO]
  exact Int.emod_eq_of_lt j l
theorem xF {f:Addr}{fd:k0} (F:Fun K "clash" "clash" jK f fd):a9 K fd ["rest", "step", "other_rest", "other_step"] []:=F.binds (ps:=["rest", "step", "other_rest", "other_step"]) λ_ _ _ _ _ _ us a=>us4 (Q:=λus=>ze _ ⟨us,[]⟩=pure (List.zip _ us)) a λ_ _ _ _=>rfl
theorem wd {f:Addr}{fd:k0} (F:Fun K "clash" "clash" jK f fd) (B:Bn mg) (d:Cal P w K mg base "divisor_and_factor" 1 (spD K Cv)):bR P w K mg base CX0 2 f fd ["rest", "step", "other_rest", "other_step"] (spD K sL):=by
 refine okD (k:=1) F fF (λss R h=>?_) (by decide) (λcdv A outer s H E l=>⟨_,(aj (aA (i:=4) fF.nd rfl (Or.inl rfl) (aG d (l.mono (by decide)) rfl (aa (qf 1) (aa (qf 3) ac))))
   (aj (aA (i:=5) fF.nd rfl (Or.inl rfl) (bE (ah (K:=K) rfl) mIx (qv 4) ag (λ_ _=>rfl)))
   (aj (aA (i:=6) fF.nd rfl (Or.inl rfl) (bz jq mI (qv 2) (qv 0)))
   (aj (eW (aJ nq AI (bz bF mIC (qv 6) (qv 5)) ag (aE _)) (ae (aD f7)) aW)
   (aj (aA (i:=7) fF.nd rfl (Or.inl rfl) (bz bF mIC (bz dX mIC (bz bM mIC (qv 6) (qv 5)) (bE (ah (K:=K) rfl) mIx (qv 4) ag (λ_ _=>rfl))) (bz bM mIC (qv 3) (qv 5))))
   (ae (aD (bz cQ mI (qv 0) (bz dX mIC (qv 1) (qv 7)))))))))),λss R h=>?_⟩)
 ·obtain⟨r,s,g,s',rfl,_⟩:=h
  rfl
 obtain⟨r,s,g,s',rfl,h1,h2,m,n,o,p,q,t⟩:=h
 walk_at "dd"
 refine⟨s,s',rfl,by omega,by omega,o,p,λx y e u v=>?_⟩
 walk_at "dd"
 obtain⟨j,⟨a,J⟩,⟨b,L⟩⟩:=d5 (s:=s) (s':=s') (by omega)
 have M:(Ib s s':Int)<=s:=IP (by omega) (Jz s s')
 refine⟨j,dO (λc=>q c) (λc=>?_)⟩
 have c:(g - r) % (Ib s s':Int)=0:=by simpa using c
 obtain⟨z,C,N,D,G,I⟩:=uW h1 h2 m n e c
 have d1:(g - r) / (Ib s s':Int)<=s':=by
  refine Int.le_trans (Int.ediv_le_ediv j (show g - r<=s' by omega)) (JN _ (by omega))
 have d2:-s<=(g - r) / (Ib s s':Int):=by
  refine(Int.le_ediv_iff_mul_le j).mpr ?_
  have:=Jk (show 1<=(Ib s s':Int) by omega) (show 0<=s by omega)
  rw[Int.neg_mul]
  omega
 have O:s' / (Ib s s':Int)<=s':=JN _ (by omega)
 have bg:=Bg.of (i:=(Ib s s':Int)) (by omega) (by omega)
 exact⟨⟨j,bg⟩,⟨Bg.of (by omega) (by omega),Bg.of (by omega) (by omega)⟩,⟨j,bg⟩,z,⟨Bg.of (by omega) (by omega),Bg.of (by omega) (by omega)⟩,t _ c (by
  have:=Jx (show 0<=s by omega) C
  omega) D G I⟩
noncomputable def Gd (e:Ev):Prop:=0<=e.2.1/\e.2.1<e.2.2/\e.2.2<=10000000000000000000000000000000000000000
instance (e f:Ev):Decidable (Cl e f):=by unfold Cl;infer_instance
theorem pU (a b g:Int):(a - b) % g=0↔(b - a) % g=0:=by
 rw[<-Int.dvd_iff_emod_eq_zero,<-Int.dvd_iff_emod_eq_zero,show a - b = -(b - a) by omega,Int.dvd_neg]
noncomputable abbrev eG:Stmt:=top 11
theorem mT:ao ["one", "other"] ["one", "other"] (ad eG):=⟨rfl,rfl,rfl,by decide +kernel,rfl,by decide +kernel,by decide +kernel⟩
noncomputable def Gr:DSp:=λss R=>∃ e f:Ev,ss=[.fr (pE e),.fr (pE f)]/\Gd e/\Gd f/\R (.fr (.bool (decide (Cl e f)))) [.un,.un]
theorem n0 {f:Addr}{fd:k0} (F:Fun K "do_clash" "do_clash" eG f fd):a9 K fd ["one", "other"] []:=F.binds (ps:=["one", "other"]) λ_ _ _ _ _ _ us a=>us2 (Q:=λus=>ze _ ⟨us,[]⟩=pure (List.zip _ us)) a λ_ _=>rfl
theorem nA {f:Addr}{fd:k0} (F:Fun K "do_clash" "do_clash" eG f fd) (B:Bn mg) (a:Cal P w K mg base "clash" 2 (spD K sL)):bR P w K mg base CX0 3 f fd ["one", "other"] (spD K Gr):=by
 refine okD (k:=2) F mT (λss R h=>?_) (by decide) (λcdv A outer s H E b=>⟨_,(ae (aD (vQ (m8 nt AJ (bE (ah (K:=K) rfl) mIx (qv 0) ag (λ_ _=>rfl)) (bE (ah (K:=K) rfl) mIx (qv 1) ag (λ_ _=>rfl)) (aE _)) (zV (m8 nj AG (aG a (b.mono (by decide)) rfl (aa (bE (ah (K:=K) rfl) mIx (qv 0) ag (λ_ _=>rfl)) (aa (bE (ah (K:=K) rfl) mIx (qv 0) ag (λ_ _=>rfl)) (aa (bE (ah (K:=K) rfl) mIx (qv 1) ag (λ_ _=>rfl)) (aa (bE (ah (K:=K) rfl) mIx (qv 1) ag (λ_ _=>rfl)) ac))))) f7 (aE _)))))),λss R h=>?_⟩)
 ·obtain⟨e,f,rfl,_⟩:=h
  rfl
 obtain⟨e,f,rfl,g,i,q⟩:=h
 obtain⟨j,l,m⟩:=g
 obtain⟨n,o,p⟩:=i
 walk_at "dd"
 refine dO (λc=>?_) (λc=>?_)
 ·refine⟨_,_,_,_,rfl,j,l,n,o,m,p,λhn=>?_,λd r _ _ _ _=>?_⟩
  ·walk_at "dd"
   rwa [decide_eq_false λz=>absurd ((pU _ _ _).mp z.2) hn] at q
  ·walk_at "dd"
   rwa [decide_eq_true ⟨c,(pU _ _ _).mp r⟩] at q
 ·rwa [decide_eq_false λz=>absurd z.1 c] at q
noncomputable abbrev fL:Stmt:=top 12
theorem qR:ao ["part", "span", "winders"] ["part", "span", "winders"] (ad fL):=⟨rfl,rfl,rfl,by decide +kernel,rfl,by decide +kernel,by decide +kernel⟩
noncomputable def xU:DSp:=λss R=>∃ (e:Ev) (sp w:Int),ss=[.fr (pE e),.fr (.int sp),.fr (.int w)]/\R (.fr (.bool (iZ e sp w))) [.un,.un,.un]
theorem rO {f:Addr}{fd:k0} (F:Fun K "is_part" "is_part" fL f fd):a9 K fd ["part", "span", "winders"] []:=F.binds (ps:=["part", "span", "winders"]) λ_ _ _ _ _ _ us a=>us3 (Q:=λus=>ze _ ⟨us,[]⟩=pure (List.zip _ us)) a λ_ _ _=>rfl
theorem q9 {f:Addr}{fd:k0} (F:Fun K "is_part" "is_part" fL f fd) (B:Bn mg):bR P w K mg base CX0 1 f fd ["part", "span", "winders"] (spD K xU):=by
 refine okD (k:=0) F qR (λss R h=>?_) (by decide) (λcdv A outer s H E c=>⟨_,(ae (aD (vQ (jO nr mB jR mB ag (bE (ah (K:=K) rfl) mIx (qv 0) ag (λ_ _=>rfl)) (qv 2)) (vQ (jO nr mB nr mB ag (bE (ah (K:=K) rfl) mIx (qv 0) ag (λ_ _=>rfl)) (qv 1)) (zV (jO nr mB jR mB ag (bE (ah (K:=K) rfl) mIx (qv 0) ag (λ_ _=>rfl)) (bE (ah (K:=K) rfl) mIx (qv 0) ag (λ_ _=>rfl)))))))),λss R h=>?_⟩)
 ·obtain⟨e,sp,w,rfl,_⟩:=h
  rfl
 obtain⟨e,sp,w',rfl,q⟩:=h
 walk_at "dd"
 unfold iZ at q
 by_cases c1:0<=e.1
 ·rw[if_pos c1]
  by_cases c2:e.1<w'
  ·rw[if_pos c2]
   by_cases c3:1<=e.2.2
   ·rw[if_pos c3]
    by_cases a:e.2.2<=sp
    ·rw[if_pos a]
     by_cases b:0<=e.2.1
     ·rw[if_pos b]
      simpa[c1,c2,c3,a,b] using q
     ·rw[if_neg b]
      simpa[b] using q
    ·rw[if_neg a]
     simpa[a] using q
   ·rw[if_neg c3]
    simpa[c3] using q
  ·rw[if_neg c2]
   simpa[c2] using q
 ·rw[if_neg c1]
  simpa[c1] using q
noncomputable abbrev db:Stmt:=top 13
theorem c8:ao ["town", "even", "spans", "winders", "clock", "part"] ["town", "even"] (ad db):=⟨rfl,rfl,rfl,by decide +kernel,rfl,by decide +kernel,by decide +kernel⟩
noncomputable def x3:DSp:=λss R=>∃ (sp:List Int) (w:Int) (es:List Ev),ss=[.fr (.tuple [.list (li sp),.list [.int w]]),.fr (.list (lE es))]/\sp.length<=1000/\es.length<=1000/\(∀ x∈sp,x<=10000000000000000000000000000000000000000)/\∀ b:Bool,(b=true↔vk sp w es)->R (.fr (.bool b)) [.un,.un]
theorem Ca {es:List Ev}{sp:List Int}{i:Nat} (h:i<es.length) (h':i<sp.length):(kI (lE es) (li sp))[i]'(by rw[bC,HC,HC];omega)=.tuple [pE (es.getD i (0,0,0)),.int (sp.getD i 0)]:=by
 simp[kI,HB,Hz h,Hz h']
theorem qB (n:Nat) (f:Nat->Bool):(List.range n).map (λi=>PyData.bool (f i))=((List.range n).map f).map .bool:=by
 rw[Ip]
 rfl
theorem rP {f:Addr}{fd:k0} (F:Fun K "is_even" "is_even" db f fd):a9 K fd ["town", "even"] []:=F.binds (ps:=["town", "even"]) λ_ _ _ _ _ _ us a=>us2 (Q:=λus=>ze _ ⟨us,[]⟩=pure (List.zip _ us)) a λ_ _=>rfl
theorem rd {f:Addr}{fd:k0} (F:Fun K "is_even" "is_even" db f fd) (B:Bn mg) (d:Cal P w K mg base "is_part" 1 (spD K xU)) (a:Cal P w K mg base "do_clash" 3 (spD K Gr)):bR P w K mg base CX0 4 f fd ["town", "even"] (spD K x3):=by
 refine okD (k:=3) F c8 (λss R h=>?_) (by decide) (λcdv A outer s H E t=>⟨_,(aj (aA (i:=2) c8.nd rfl (Or.inl rfl) (bE (ah (K:=K) rfl) mIx (qv 0) ag (λ_ _=>rfl)))
   (aj (aA (i:=3) c8.nd rfl (Or.inr rfl) (bE (ah (K:=K) rfl) mIx (bE (ah (K:=K) rfl) mIx (qv 0) ag (λ_ _=>rfl)) ag (λ_ _=>rfl)))
   (aj (eW (aJ nq AI (dw (fB (K:=K) rfl) fA rfl B.len PySem.boot_len (aa (qv 1) ac)) (dw (fB (K:=K) rfl) fA rfl B.len PySem.boot_len (aa (qv 2) ac)) (aE _)) (ae (aD gK)) aW)
   (aj (eW (df (cN (dw (BY (K:=K) rfl rfl) BX rfl B.all PyProof.Rows.boot_all (aa (cO (N':=["part", "span", "winders"]) (ix:=[none,none,some 3]) rfl (dq (N:=["town", "even", "spans", "winders", "clock", "part"]) (sc0:=ad db) rfl rfl (by decide +kernel)) (s9 false false (K:=K) rfl rfl B.zip (aa (qf 1) (aa (qf 2) ac))) (λ_ _ _ _=>(dS (K:=K) (n:=2) rfl rfl (aK (ak (i:=0) (show List.Nodup (["part", "span", "winders"]:List Str) by decide +kernel) rfl (Or.inl rfl)) (aK (ak (i:=1) (show List.Nodup (["part", "span", "winders"]:List Str) by decide +kernel) rfl (Or.inl rfl)) cC)))) (λ_ _ _ _=>bI) (λ_ _ _ _=>(aG d (t.mono (by decide)) rfl (aa (qf 0) (aa (qf 1) (aa (qf 2) ac)))))) ac)))) (ae (aD gK)) aW)
   (aj (dW PassesOwn.never rfl (fZ false (K:=K) rfl rfl B.enumerate (aa (qf 1) ac)) (dS (K:=K) (n:=2) rfl rfl (aK (ak (i:=4) c8.nd rfl (Or.inl rfl)) (aK (ak (i:=5) c8.nd rfl (Or.inr rfl)) cC))) (ae (eW (cN (dw (GF (K:=K) rfl rfl) Gz rfl B.any PyProof.Rows.boot_any (aa (cO (N':=["other", "part"]) (ix:=[none,some 5]) rfl (dq (N:=["town", "even", "spans", "winders", "clock", "part"]) (sc0:=ad db) rfl rfl (by decide +kernel)) (bJ (K:=K) rfl (m4 (K:=K) rfl (qv 1) fe (fb (qv 4)))) (λ_ _ _ _=>(ak (i:=0) (show List.Nodup (["other", "part"]:List Str) by decide +kernel) rfl (Or.inl rfl))) (λ_ _ _ _=>bI) (λ_ _ _ _=>(aG a (t.mono (by decide)) rfl (aa (qf 1) (aa (qf 0) ac))))) ac))) (ae (aD gK)) aW)))
   (ae (aD gK))))))),λss R h=>?_⟩)
 ·obtain⟨sp,w,es,rfl,_⟩:=h
  rfl
 obtain⟨sp,w',es,rfl,C,D,o,q⟩:=h
 walk_at "dd"
 rw[HC,HC]
 refine dO (λc=>q false ⟨λz=>(nomatch z),λz=>absurd z.len (by omega)⟩) (λc=>?_)
 have G:es.length=sp.length:=by omega
 have u:(kI (lE es) (li sp)).length=es.length:=by rw[bC,HC,HC];omega
 refine cT (λi=>.bool (iZ (es.getD i (0,0,0)) (sp.getD i 0) w')) (by omega) (λi hi Q p=>?_) ?_
 ·rw[u] at hi
  rw[Ca hi (by omega)]
  walk_at "dd"
  refine⟨_,_,_,rfl,?_⟩
  walk_at "dd"
  exact p
 rw[u,qB]
 walk_at "dd"
 have v:∀ b:Bool,(b=true↔∀ k,k<es.length->iZ (es.getD k (0,0,0)) (sp.getD k 0) w'=true)->((List.range es.length).map λi=>iZ (es.getD i (0,0,0)) (sp.getD i 0) w').all id=b:=by
  intro b I
  rw[JE,I]
  simp
 by_cases g:∀ k,k<es.length->iZ (es.getD k (0,0,0)) (sp.getD k 0) w'=true
 ·rw[v true ⟨λ_=>g,λ_=>rfl⟩,if_neg (by decide)]
  have y:∀ k,k<es.length->Gd (es.getD k (0,0,0)):=λk hk=>by
   have h1:=g k hk
   unfold iZ at h1
   rw[decide_eq_true_eq] at h1
   have h2:=o (sp.getD k 0) (by rw[HB,Hz (by omega:k<sp.length)];exact Ih _)
   exact⟨h1.2.2.2.2.1,h1.2.2.2.2.2,by omega⟩
  refine a8 (λi env=>∃ (r pv:Sl),env=[.fr (.tuple [.list (li sp),.list [.int w']]),.fr (.list (lE es)),.fr (.list (li sp)),.fr (.int w'),r,pv]/\∀ k,k<i->∀ j,j<k->¬Cl (es.getD k (0,0,0)) (es.getD j (0,0,0))) ⟨_,_,rfl,λk hk=>absurd hk (Nat.not_lt_zero _)⟩ ?_ ?_
  ·rintro i env hi ⟨r,pv,rfl,m⟩
   rw[cE]
   rw[aL,HC] at hi
   rw[yx hi]
   walk_at "dd"
   have J:mh (lE es) none (some ((i:Nat):Int))=lE (es.take i):=by
    unfold mh
    have e:HT.sIx (lE es).length (lE es).length (some ((i:Nat):Int))=min i (lE es).length:=HT.sIx_nat _ _ i
    rw[e,HT.sIx_none,HC,JJ,Nat.sub_zero,JU (by omega)]
    simp[List.map_take]
   rw[J]
   refine cT (λj=>.bool (decide (Cl (es.getD i (0,0,0)) (es.getD j (0,0,0))))) (by rw[HC,Jm];omega) (λj hj Q p=>?_) ?_
   ·rw[HC,Jm] at hj
    rw[yx (by rw[Jm];omega)]
    have L:(es.take i).getD j (0,0,0)=es.getD j (0,0,0):=by
     rw[HB,HB,List.getElem?_take,if_pos (by omega)]
    rw[L]
    walk_at "dd"
    refine⟨_,_,rfl,y i hi,y j (by omega),?_⟩
    walk_at "dd"
    exact p
   rw[HC,Jm,JU (by omega),qB]
   walk_at "dd"
   by_cases hc:∃ j,j<i/\Cl (es.getD i (0,0,0)) (es.getD j (0,0,0))
   ·obtain⟨j,hj,l⟩:=hc
    have:((List.range i).map λj=>decide (Cl (es.getD i (0,0,0)) (es.getD j (0,0,0)))).any id=true:=by
     rw[List.any_eq_true]
     exact⟨true,HS.mpr ⟨j,HW.mpr hj,decide_eq_true l⟩,rfl⟩
    rw[this,if_pos rfl]
    exact q false ⟨λz=>(nomatch z),λz=>absurd l (z.apart i hi j hj)⟩
   ·have:((List.range i).map λj=>decide (Cl (es.getD i (0,0,0)) (es.getD j (0,0,0)))).any id=false:=by
     rw[List.any_eq_false]
     intro x hx
     obtain⟨j,hj,rfl⟩:=HS.mp hx
     simpa usingλz=>hc ⟨j,HW.mp hj,z⟩
    rw[this,if_neg (by decide)]
    refineλk hk j hj=>?_
    by_cases M:k=i
    ·subst M
     exactλz=>hc ⟨j,hj,z⟩
    ·exact m k (by omega) j hj
  ·rintro env ⟨r,pv,rfl,m⟩
   rw[aL,HC] at m
   walk_at "dd"
   exact q true ⟨λ_=>⟨G,g,m⟩,λ_=>rfl⟩
 ·rw[v false ⟨λz=>(nomatch z),λz=>absurd z g⟩,if_pos rfl]
  exact q false ⟨λz=>(nomatch z),λz=>absurd z.part g⟩
theorem uk {es:List Ev}{i:Nat}{h:i<(lE es).length}:(lE es)[i]=pE (es.getD i (0,0,0)):=by
 have h':i<es.length:=by simpa using h
 rw[IT,HB,Hz h']
 rfl
theorem lZ {l:List Ev}{k:Nat} (h:k<l.length):l.getD k (0,0,0)∈l:=by
 rw[HB,Hz h]
 exact Ih h
noncomputable abbrev fG:Stmt:=top 20
theorem sQ:ao ["even", "day"] ["even", "day"] (ad fG):=⟨rfl,rfl,rfl,by decide +kernel,rfl,by decide +kernel,by decide +kernel⟩
noncomputable def rq (es:List Ev) (d:Int) (i:Nat):Bool:=decide (d % (es.getD i (0,0,0)).2.2=(es.getD i (0,0,0)).2.1)
noncomputable def eZ (es:List Ev) (d:Int):List Int:=((List.range es.length).filter (rq es d)).map λi:Nat=>(i:Int)
theorem sS (es:List Ev) (d:Int):(eZ es d).length<=es.length:=by
 unfold eZ
 rw[HC]
 have:=Jd (rq es d) (List.range es.length)
 rwa [Io] at this
theorem vP (es:List Ev) (d:Int):((List.range es.length).filter (rq es d)).map (λi:Nat=>PyData.int (i:Int))=li (eZ es d):=by
 unfold eZ
 show _=List.map _ (List.map _ _)
 rw[Ip]
 rfl
noncomputable def EOk (es:List Ev):Prop:=es.length<=40/\∀ e∈es,1<=e.2.2/\e.2.2<=60
noncomputable def sG:DSp:=λss R=>∃ (es:List Ev) (d:Int),ss=[.fr (.list (lE es)),.fr (.int d)]/\EOk es/\R (.ow (li (eZ es d))) [.un,.un]
theorem u7 {f:Addr}{fd:k0} (F:Fun K "row_on" "row_on" fG f fd):a9 K fd ["even", "day"] []:=F.binds (ps:=["even", "day"]) λ_ _ _ _ _ _ us a=>us2 (Q:=λus=>ze _ ⟨us,[]⟩=pure (List.zip _ us)) a λ_ _=>rfl
theorem t8 {f:Addr}{fd:k0} (F:Fun K "row_on" "row_on" fG f fd) (B:Bn mg):bR P w K mg base CX0 1 f fd ["even", "day"] (spD K sG):=by
 refine okD (k:=0) F sQ (λss R h=>?_) (by decide) (λcdv A outer s H E a=>⟨_,(ae (aD (cO (N':=["clock", "part", "day"]) (ix:=[none,none,some 1]) rfl (dq (N:=["even", "day"]) (sc0:=ad fG) rfl rfl (by decide +kernel)) (fZ false (K:=K) rfl rfl B.enumerate (aa (qf 0) ac)) (λ_ _ _ _=>(dS (K:=K) (n:=2) rfl rfl (aK (ak (i:=0) (show List.Nodup (["clock", "part", "day"]:List Str) by decide +kernel) rfl (Or.inl rfl)) (aK (ak (i:=1) (show List.Nodup (["clock", "part", "day"]:List Str) by decide +kernel) rfl (Or.inl rfl)) cC)))) (λ_ _ _ _=>(ik (aJ nt AJ (bz bF mIC (qv 2) (bE (ah (K:=K) rfl) mIx (qv 1) ag (λ_ _=>rfl))) (bE (ah (K:=K) rfl) mIx (qv 1) ag (λ_ _=>rfl)) (aE _)))) (λ_ _ _ _=>(qf 0))))),λss R h=>?_⟩)
 ·obtain⟨es,d,rfl,_⟩:=h
  rfl
 obtain⟨es,d,rfl,ho,q⟩:=h
 walk_at "dd"
 refine d7 (rq es d) (λi=>.int (i:Int)) (by rw[aL,HC];have:=ho.1;omega) (λi hi Q b h1 h2=>?_) ?_
 ·rw[cE,uk]
  rw[aL,HC] at hi
  have g:=ho.2 _ (lZ hi)
  unfold rq at h1 h2
  generalize es.getD i (0,0,0)=e at *
  walk_at "dd"
  refine⟨by omega,dO (λc=>h1 (by simpa using c)) (λc=>h2 (by simpa using c))⟩
 rw[aL,HC,vP]
 walk_at "dd"
 exact q
noncomputable abbrev de:Stmt:=top 21
theorem jn:ao ["even", "days"] ["even"] (ad de):=⟨rfl,rfl,rfl,by decide +kernel,rfl,by decide +kernel,by decide +kernel⟩
theorem Lm.one {ns:List Int}{m k:Int} (h:Lm ns m) (h':Lm ns k):m=k:=by
 have d1:=h.least k h'.dvd
 have d2:=h'.least m h.dvd
 have a:=h.pos
 have p2:=h'.pos
 have l1:=IP (by omega) d1
 have l2:=IP (by omega) d2
 omega
noncomputable def bB (es:List Ev) (n:Nat):List (List Int):=(List.range n).map λd:Nat=>eZ es (d:Int)
theorem rV (es:List Ev) (n:Nat):(List.range n).map (λd:Nat=>PyData.list (li (eZ es (d:Int))))=lr (bB es n):=by
 unfold bB
 show _=List.map _ (List.map _ _)
 rw[Ip]
 rfl
noncomputable def x4:DSp:=λss R=>∃ (es:List Ev) (n:Nat),ss=[.fr (.list (lE es))]/\EOk es/\Lm (es.map (·.2.2)) (n:Int)/\n<=500/\∀ S,R (.tr S (.tuple [.list [],.list (lr (bB es n))])) [.un]
theorem rQ {f:Addr}{fd:k0} (F:Fun K "days_of" "days_of" de f fd):a9 K fd ["even"] []:=F.binds (ps:=["even"]) λ_ _ _ _ _ _ us a=>us1 (Q:=λus=>ze _ ⟨us,[]⟩=pure (List.zip _ us)) a λ_=>rfl
theorem rf {f:Addr}{fd:k0} (F:Fun K "days_of" "days_of" de f fd) (B:Bn mg) (a:Cal P w K mg base "least_multiple" 2 (spD K Fh)) (b:Cal P w K mg base "row_on" 1 (spD K sG)):bR P w K mg base CX0 3 f fd ["even"] (spD K x4):=by
 refine okD (k:=2) F jn (λss R h=>?_) (by decide) (λcdv A outer s H E j=>⟨_,(aj (aA (i:=1) jn.nd rfl (Or.inl rfl) (aG a (j.mono (by decide)) rfl (aa (cO (N':=["part"]) (ix:=[none]) rfl (dq (N:=["even", "days"]) (sc0:=ad de) rfl rfl (by decide +kernel)) (bJ (K:=K) rfl (qf 0)) (λ_ _ _ _=>(ak (i:=0) (show List.Nodup (["part"]:List Str) by decide +kernel) rfl (Or.inl rfl))) (λ_ _ _ _=>bI) (λ_ _ _ _=>(bE (ah (K:=K) rfl) mIx (qv 0) ag (λ_ _=>rfl)))) ac)))
   (ae (aD (CI (aa (yl ac) (aa (zZ (N':=["day", "even"]) (ix:=[none,some 0]) rfl (dq (N:=["even", "days"]) (sc0:=ad de) rfl rfl (by decide +kernel)) (cW rfl B.range (aa (qv 1) ac)) (λ_ _ _ _=>(ak (i:=0) (show List.Nodup (["day", "even"]:List Str) by decide +kernel) rfl (Or.inl rfl))) (λ_ _ _ _=>bI) (λ_ _ _ _=>(aG b (j.mono (by decide)) rfl (aa (qf 1) (aa (qf 0) ac))))) ac)))))),λss R h=>?_⟩)
 ·obtain⟨es,n,rfl,_⟩:=h
  rfl
 obtain⟨es,n,rfl,ho,l,hn,q⟩:=h
 walk_at "dd"
 refine cT (λi=>.int (es.getD i (0,0,0)).2.2) (by rw[HC];have:=ho.1;omega) (λi hi Q c=>?_) ?_
 ·rw[uk]
  walk_at "dd"
  exact c
 have e:(List.range (lE es).length).map (λi=>PyData.int (es.getD i (0,0,0)).2.2)=li (es.map (·.2.2)):=by
  rw[HC,qS es (0,0,0) (λe=>PyData.int e.2.2)]
  show _=List.map _ (List.map _ _)
  rw[Ip]
  rfl
 rw[e]
 walk_at "dd"
 refine⟨es.map (·.2.2),rfl,by rw[HC];have:=ho.1;omega,λx hx=>?_,λm g=>?_⟩
 ·obtain⟨e,o,rfl⟩:=HS.mp hx
  have:=ho.2 e o
  omega
 obtain rfl:=l.one g
 walk_at "dd"
 refine⟨Ig _,λS=>⟨by omega,by omega,?_⟩⟩
 refine BK (λd=>.list (li (eZ es (d:Int)))) (by rw[aw];omega) (λd hd Q c=>?_) ?_
 ·rw[aY]
  walk_at "dd"
  refine⟨es,_,rfl,ho,?_⟩
  walk_at "dd"
  exact c
 intro S'
 rw[aw,IB,rV]
 walk_at "dd"
 exact⟨HQ (by decide) au,q⟩
noncomputable abbrev fH:Stmt:=top 18
theorem c7:ao ["spans", "x", "found", "span", "step"] ["spans", "x"] (ad fH):=⟨rfl,rfl,rfl,by decide +kernel,rfl,by decide +kernel,by decide +kernel⟩
noncomputable def Rd1 (ns l:List Int):Prop:=l.length=ns.length/\∀ k,k<ns.length->1<=l.getD k 0/\l.getD k 0<=ns.getD k 0
noncomputable def sH:DSp:=λss R=>∃ (ns:List Int) (x:Int),ss=[.fr (.list (li ns)),.fr (.int x)]/\ns≠[]/\ns.length<=1000/\1<=x/\R (.fr .none) [.un,.un]/\∀ l:List Int,Rd1 ns l->R (.ow (li l)) [.un,.un]
theorem rL {f:Addr}{fd:k0} (F:Fun K "rounded" "rounded" fH f fd):a9 K fd ["spans", "x"] []:=F.binds (ps:=["spans", "x"]) λ_ _ _ _ _ _ us a=>us2 (Q:=λus=>ze _ ⟨us,[]⟩=pure (List.zip _ us)) a λ_ _=>rfl
theorem qX {f:Addr}{fd:k0} (F:Fun K "rounded" "rounded" fH f fd) (B:Bn mg):bR P w K mg base CX0 1 f fd ["spans", "x"] (spD K sH):=by
 refine okD (k:=0) F c7 (λss R h=>?_) (by decide) (λcdv A outer s H E g=>⟨_,(aj (eW (aJ jR mB (dw (uZ (K:=K) rfl rfl) FE rfl B.min PyProof.Rows.boot_min (aa (qv 0) ac)) (qv 1) (aE _)) (ae (aD f7)) aW)
   (aj (aA (i:=2) c7.nd rfl (Or.inl rfl) (eP ac))
   (aj (dW PassesOwn.never rfl (bJ (K:=K) rfl (qf 0)) (ak (i:=3) c7.nd rfl (Or.inl rfl)) (aj (aA (i:=4) c7.nd rfl (Or.inl rfl) (qf 1))
   (aj (jN PassesOwn.never (aJ nr mB (bz gv mIC ag (qv 4)) (qv 3) (aE _)) (ae (aA (i:=4) c7.nd rfl (Or.inl rfl) (bz gv mIC ag (qv 4)))))
   (ae (eX (qV 2 (K:=K) rfl rfl (qf 4)))))))
   (ae (aD (qv 2)))))),λss R h=>?_⟩)
 ·obtain⟨ns,x,rfl,_⟩:=h
  rfl
 obtain⟨ns,x,rfl,n,z,hx,q,r⟩:=h
 walk_at "dd"
 refine⟨n,λm C j=>?_⟩
 refine dO (λc=>q) (λc=>⟨Ig _,?_⟩)
 have t:∀ y∈ns,x<=y:=λy u=>by have:=j y u;omega
 refine a8 (λi env=>∃ (l:List Int) (a b:Sl),env=[.fr (.list (li ns)),.fr (.int x),.ow (li l),a,b]/\l.length=i/\∀ k,k<i->1<=l.getD k 0/\l.getD k 0<=ns.getD k 0) ⟨[],_,_,rfl,rfl,λk hk=>absurd hk (Nat.not_lt_zero _)⟩ ?_ ?_
 ·rintro i env hi ⟨l,a,b,rfl,d,g⟩
  have o:i<ns.length:=by simpa using hi
  rw[cR]
  have D:=t _ (b9 o)
  generalize p:ns.getD i 0=sp at *
  walk_at "dd"
  refine⟨λm env=>∃ (y:Int),env=[.fr (.list (li ns)),.fr (.int x),.ow (li l),.fr (.int sp),.fr (.int y)]/\x<=y/\y<=sp/\m=(sp - y).toNat,⟨_,x,rfl,by omega,by omega,rfl⟩,?_⟩
  rintro m env ⟨y,rfl,y0,y1,rfl⟩
  walk_at "dd"
  refine⟨jy (by decide) (by decide),dO (λc=>?_) (λc=>?_)⟩
  ·exact⟨jy (by decide) (by decide),(sp - 2*y).toNat,by omega,by omega,c,rfl⟩
  ·refine⟨by rw[HC,d];exact HV (by omega) au,l++[y],by simp,by simp[d],λk' v=>?_⟩
   by_cases e:k'=i
   ·subst e
    rw[p,show(l++[y]).getD k' 0=y by rw[<-d];simp[HB]]
    exact⟨by omega,y1⟩
   ·have:=g k' (by omega)
    rwa [show(l++[y]).getD k' 0=l.getD k' 0 by rw[HB,HB,HY (by omega)]]
 ·rintro env ⟨l,a,b,rfl,d,g⟩
  rw[HC] at d g
  walk_at "dd"
  exact r l ⟨d,g⟩
theorem vk.wide {sp ys:List Int}{W:Int}{es:List Ev} (h:vk ys W es) (a:Rd1 sp ys):vk sp W es:=by
 refine⟨h.len.trans a.1,λk hk=>?_,h.apart⟩
 have p:=h.part k hk
 have:=a.2 k (by rw[<-a.1,<-h.len];exact hk)
 unfold iZ at *
 have p:=of_decide_eq_true p
 exact decide_eq_true ⟨p.1,p.2.1,p.2.2.1,by omega,p.2.2.2.2⟩
noncomputable abbrev dz:Stmt:=top 19
theorem cL:ao ["town", "x", "steps", "even"] ["town"] (ad dz):=⟨rfl,rfl,rfl,by decide +kernel,rfl,by decide +kernel,by decide +kernel⟩
noncomputable def zL:DSp:=λss R=>∃ (sp:List Int) (W:Int),ss=[.fr (.tuple [.list (li sp),.list [.int W]])]/\1<=sp.length/\sp.length<=40/\Sps sp/\0<=W/\W<=1000/\R (.fr .none) [.un]/\∀ es:List Ev,vk sp W es->R (.ow (lE es)) [.un]
theorem mE {f:Addr}{fd:k0} (F:Fun K "even_plan" "even_plan" dz f fd):a9 K fd ["town"] []:=F.binds (ps:=["town"]) λ_ _ _ _ _ _ us a=>us1 (Q:=λus=>ze _ ⟨us,[]⟩=pure (List.zip _ us)) a λ_=>rfl
theorem lA {f:Addr}{fd:k0} (F:Fun K "even_plan" "even_plan" dz f fd) (B:Bn mg) {l:Tok}{e:Int} (m:mg "MOST_X" = some (.int e l)) (e_MOST_X:e=200) (g:Cal P w K mg base "rounded" 1 (spD K sH)) (c:Cal P w K mg base "chain_plan" 6 (spD K vK)):bR P w K mg base CX0 7 f fd ["town"] (spD K zL):=by
 refine okD (k:=6) F cL (λss R h=>?_) (by decide) (λcdv A outer s H E u=>⟨_,(aj (dW PassesOwn.never rfl (zR rfl B.range (aa ag (aa (bz cQ mI (zY rfl m) ag) ac))) (ak (i:=1) cL.nd rfl (Or.inl rfl)) (aj (aA (i:=2) cL.nd rfl (Or.inl rfl) (aG g (u.mono (by decide)) rfl (aa (bE (ah (K:=K) rfl) mIx (qv 0) ag (λ_ _=>rfl)) (aa (qf 1) ac))))
   (aj (eW (aJ tX FG (qv 2) f7 (aE _)) (ae (aD f7)) aW)
   (aj (aA (i:=3) cL.nd rfl (Or.inl rfl) (aG c (u.mono (by decide)) rfl (aa (qf 2) (aa (bE (ah (K:=K) rfl) mIx (bE (ah (K:=K) rfl) mIx (qv 0) ag (λ_ _=>rfl)) ag (λ_ _=>rfl)) ac))))
   (ae (eW (aJ nj AG (qv 3) f7 (aE _)) (ae (aD (qv 3))) aW))))))
   (ae (aD f7))),λss R h=>?_⟩)
 ·obtain⟨sp,W,rfl,_⟩:=h
  rfl
 obtain⟨sp,W,rfl,o,C,D,G,I,v,J⟩:=h
 walk_at "dd"
 rw[e_MOST_X]
 refine⟨by decide,by decide,by decide,by decide,a8 (λi env=>∃ p q r:Sl,env=[.fr (.tuple [.list (li sp),.list [.int W]]),p,q,r]) ⟨_,_,_,rfl⟩ ?_ ?_⟩
 ·rintro i env hi ⟨p,q,r,rfl⟩
  rw[aw] at hi
  rw[aY]
  have hi:i<200:=hi
  generalize hx:1+(i:Int)=x at *
  walk_at "dd"
  refine⟨sp,x,rfl,λz=>by rw[z] at o;simp at o,by omega,by omega,?_,λys n=>?_⟩
  ·walk_at "dd"
   exact v
  ·walk_at "dd"
   refine⟨ys,W,rfl,by rw[n.1];exact o,by rw[n.1];exact C,λy L=>?_,G,I,λhn=>?_,λ_ d hd=>⟨λhc=>?_,λhc es t=>?_⟩⟩
   ·obtain⟨k,hk,rfl⟩:=Im L
    have a:=n.2 k (by rw[<-n.1];exact hk)
    have b:=D _ (b9 (ms:=sp) (j:=k) (by rw[<-n.1];exact hk))
    rw[show ys.getD k 0=ys[k] by rw[HB,Hz hk];rfl] at a
    omega
   ·walk_at "dd"
   ·walk_at "dd"
   ·walk_at "dd"
    exact J es (t.1.wide n)
 ·rintro env ⟨p,q,r,rfl⟩
  walk_at "dd"
  exact v
noncomputable def pB (B:List (List Int)) (c t:Nat):Bool:=decide ((c:Int)∈B.getD (t % B.length) [])
theorem yY {B:List (List Int)}{t:Nat} (h:t<2*B.length):(([]:List (List Int))++B++B).getD t []=B.getD (t % B.length) []:=by
 rw[List.nil_append,kD]
 by_cases h1:t<B.length
 ·rw[if_pos h1,Je h1]
 ·rw[if_neg h1,Nat.mod_eq_sub_mod (by omega),Je (by omega)]
theorem lK {P:Nat->Bool}{i:Nat}:∀ k,(∀ u,i<=u->u<i+k->P u=false)->bj P (i+k)=bj P i
 | 0,_=>rfl
 | k+1,h=>by
  show(if P (i+k)=true then ((i+k:Nat):Int) else bj P (i+k))=_
  rw[if_neg (by rw[h (i+k) (by omega) (by omega)];decide)]
  exact lK k λu h1 h2=>h u h1 (by omega)
theorem AF {s o:List Int}{B:List (List Int)} (x:1<=B.length) (k:B.length % o.length=0) (a:∀ i,i<B.length->ii s.length (B.getD i [])=true/\((B.getD i []).length:Int)<=o.getD (i % o.length) 0)
  (hw:BW B s.length=true) (b:∀ c,c<s.length->∀ j:Nat,j<3*B.length->pB B c j=true->(j:Int) - bj (pB B c) j<=s.getD c 0):KP s o [] B:=by
 refine⟨x,k,λi hi=>?_,hw⟩
 have d:i<2*B.length:=by simpa using hi
 have f:i % B.length<B.length:=Ja _ (by omega)
 have h:i % B.length % o.length=i % o.length:=Nat.mod_mod_of_dvd _ (Nat.dvd_of_mod_eq_zero k)
 have l:∀ c u,u<2*B.length->Pc ([]++B++B) c u=pB B c u:=λc u m=>by
  unfold Pc pB
  rw[yY m]
 rw[AD]
 refine⟨?_,λc hc e=>?_⟩
 ·obtain⟨g,p⟩:=a _ f
  unfold A7
  rw[yY d]
  unfold ii at g
  rw[HX] at g
  rw[HX,HX,decide_eq_true_eq]
  rw[h] at p
  exact⟨p,g.2,g.1⟩
 ·rw[l c i d]
  rw[jr i λu m=>l c u (by omega)] at e
  by_cases r:pB B c i=true
  ·exact r
  ·exfalso
   obtain⟨t,y,A⟩:=gM.mp (gN.mp hw c hc)
   have ex:∃ n,pB B c (i+n)=true/\i+n<3*B.length:=by
    have C:=JW i B.length
    have D:i / B.length<2:=Nat.div_lt_of_lt_mul (by omega)
    have v:B.length*(i / B.length)<=B.length*1:=Nat.mul_le_mul_left _ (by omega)
    refine⟨B.length*(i / B.length)+B.length+t - i,?_,?_⟩
    ·unfold pB
     rw[show i+(B.length*(i / B.length)+B.length+t - i)=t+B.length*(i / B.length+1) by rw[Nat.mul_add];omega,Nat.add_mul_mod_self_left,Je y]
     exact decide_eq_true A
    ·omega
   obtain⟨n,E,H⟩:=ex
   obtain⟨q,q1,I,w,F⟩:=yq n i E
   have G:q≠i:=λz=>r (by rw[<-z];exact w)
   have:=b c hc q (by omega) w
   rw[show q=i+(q - i) by omega,lK (q - i) λu h1 h2=>F u h1 (by omega)] at this
   omega
theorem AQ {P:Nat->Bool}{t u:Nat} (h:u<t) (a:P u=true):(u:Int)<=bj P t:=Int.not_lt.mp λz=>by
 rw[dj P t u z h] at a
 cases a
theorem lF {es:List Ev}{d:Int}{c:Nat}:(c:Int)∈eZ es d↔c<es.length/\rq es d c=true:=by
 unfold eZ
 rw[HS]
 constructor
 ·rintro⟨i,hi,e⟩
  obtain rfl:i=c:=by omega
  obtain⟨h1,h2⟩:=Ia.mp hi
  exact⟨HW.mp h1,h2⟩
 ·rintro⟨h1,h2⟩
  exact⟨c,Ia.mpr ⟨HW.mpr h1,h2⟩,rfl⟩
theorem Ge {es:List Ev}{d:Int}{i j:Nat} (hi:rq es d i=true) (hj:rq es d j=true) (e:(es.getD i (0,0,0)).1=(es.getD j (0,0,0)).1):Cl (es.getD i (0,0,0)) (es.getD j (0,0,0)):=by
 refine⟨e,?_⟩
 have hi:=of_decide_eq_true hi
 have hj:=of_decide_eq_true hj
 generalize es.getD i (0,0,0)=a at *
 generalize es.getD j (0,0,0)=b at *
 rw[<-hi,<-hj]
 have c:((Ib a.2.2 b.2.2:Nat):Int)∣a.2.2:=Jz ..
 have f:((Ib a.2.2 b.2.2:Nat):Int)∣b.2.2:=Int.gcd_dvd_right ..
 rw[Int.sub_emod,Int.emod_emod_of_dvd _ c,Int.emod_emod_of_dvd _ f,<-Int.sub_emod,Int.sub_self,Int.zero_emod]
theorem qW {sp:List Int}{W:Int}{es:List Ev} (h:vk sp W es) {k:Nat} (hk:k<es.length):0<=(es.getD k (0,0,0)).1/\(es.getD k (0,0,0)).1<W/\1<=(es.getD k (0,0,0)).2.2/\(es.getD k (0,0,0)).2.2<=sp.getD k 0/\0<=(es.getD k (0,0,0)).2.1/\(es.getD k (0,0,0)).2.1<(es.getD k (0,0,0)).2.2 :=
 of_decide_eq_true (h.part k hk)
theorem sT {sp:List Int}{W:Int}{es:List Ev} (h:vk sp W es) (k:0<=W) (d:Int):((eZ es d).length:Int)<=W:=by
 unfold eZ
 rw[HC]
 have f:((List.range es.length).filter (rq es d)).Pairwise (·<·):=(List.pairwise_lt_range).filter _
 have nd:(((List.range es.length).filter (rq es d)).map λi=>(es.getD i (0,0,0)).1.toNat).Nodup:=by
  unfold List.Nodup
  rw[List.pairwise_map,Ix]
  intro i j hi hj a e
  obtain⟨a1,a2⟩:=Ia.mp (Ih hi)
  obtain⟨c,g⟩:=Ia.mp (Ih hj)
  have b:=Ix.mp f i j hi hj a
  have pa:=qW h (HW.mp a1)
  have l:=qW h (HW.mp c)
  exact h.apart _ (HW.mp c) _ b (Ge g a2 (by omega))
 have sub:=dg (U:=List.range W.toNat) nd λx hx=>by
  obtain⟨i,hi,rfl⟩:=HS.mp hx
  have p:=qW h (HW.mp (Ia.mp hi).1)
  rw[HW]
  omega
 rw[HC,Io] at sub
 omega
theorem fv {es:List Ev}{n t:Nat} (h:t<n):(bB es n).getD t []=eZ es (t:Int):=by
 unfold bB
 rw[HB,Ic,JQ h]
 rfl
theorem F0 {sp:List Int}{W:Int}{es:List Ev}{n:Nat} (h:vk sp W es) (f:0<=W) (hn:Lm (es.map (·.2.2)) (n:Int)):KP sp [W] [] (bB es n):=by
 have d:1<=n:=by have:=hn.pos;omega
 have len:(bB es n).length=n:=by unfold bB;simp
 have dv:∀ c,c<es.length->(es.getD c (0,0,0)).2.2∣(n:Int):=λc hc=>hn.dvd _ (HS.mpr ⟨_,lZ hc,rfl⟩)
 have e:∀ c j,pB (bB es n) c j=true↔c<es.length/\rq es (j:Int) c=true:=λc j=>by
  unfold pB
  rw[len,fv (Ja _ d),decide_eq_true_eq,lF]
  refine and_congr_right λhc=>?_
  unfold rq
  rw[decide_eq_true_eq,decide_eq_true_eq,Int.natCast_emod,Int.emod_emod_of_dvd _ (dv c hc)]
 refine AF (by rw[len];exact d) (Nat.mod_one _) (λi hi=>?_) ?_ (λc hc j hj g=>?_)
 ·rw[len] at hi
  rw[fv hi]
  refine⟨?_,?_⟩
  ·unfold ii
   rw[HX,ij,nL]
   constructor
   ·unfold eZ
    rw[List.pairwise_map]
    exact((List.pairwise_lt_range).filter _).imp λz=>Int.ofNat_lt.mpr z
   ·intro x hx
    unfold eZ at hx
    obtain⟨i,hi,rfl⟩:=HS.mp hx
    have:=HW.mp (Ia.mp hi).1
    rw[h.len] at this
    omega
  ·rw[show[W].getD (i % [W].length) 0=W by rw[show i % [W].length=0 from Nat.mod_one i];rfl]
   exact sT h f _
 ·rw[gN]
  intro c hc
  rw[gM]
  have a:c<es.length:=by rw[h.len];exact hc
  have p:=qW h a
  have dl:=IP (by omega) (dv c a)
  have k:((es.getD c (0,0,0)).2.1.toNat:Int)=(es.getD c (0,0,0)).2.1:=Int.toNat_of_nonneg p.2.2.2.2.1
  refine⟨(es.getD c (0,0,0)).2.1.toNat,by rw[len];omega,?_⟩
  rw[fv (by omega),lF]
  refine⟨a,decide_eq_true ?_⟩
  rw[k,Int.emod_eq_of_lt p.2.2.2.2.1 p.2.2.2.2.2]
 ·have a:c<es.length:=by rw[h.len];exact hc
  have p:=qW h a
  obtain⟨_,ho⟩:=(e c j).mp g
  obtain⟨m,l⟩:∃ m:Nat,(es.getD c (0,0,0)).2.2=(m:Int):=⟨(es.getD c (0,0,0)).2.2.toNat,by omega⟩
  have l1:=(j5 (pB (bB es n) c) j).2
  by_cases o:j<m
  ·omega
  ·have b:pB (bB es n) c (j - m)=true:=(e c (j - m)).mpr ⟨a,by
    unfold rq at ho ⊢
    have ho:=of_decide_eq_true ho
    refine decide_eq_true ?_
    rw[l] at ho ⊢
    rw[show((j - m:Nat):Int)=(j:Int) - (m:Int) by omega,Int.sub_emod_right]
    exact ho⟩
   have:=AQ (P:=pB (bB es n) c) (t:=j) (u:=j - m) (by omega) b
   omega
noncomputable def EvV (s:List Int) (W:Int) (v:PyData):Prop:=v=.none\/∃ es:List Ev,v=.list (lE es)/\vk s W es
theorem FH:∀ (ns:List Int),(∀ x∈ns,1<=x/\x<=6)->∃ m:Int,Lm ns m:=by
 intro ns
 have key:∀ (k:Nat) (l:List Int),l.length=k->(∀ x∈l,1<=x/\x<=6)->∃ m:Int,Lm l m:=by
  intro k
  induction k with
  | zero =>
   intro l e _
   rw[List.length_eq_zero_iff.mp e]
   exact⟨1,Lm.nil⟩
  | succ k a =>
   intro l e h
   rcases JH l with rfl|⟨b,x,rfl⟩
   ·simp at e
   rw[JI] at e h ⊢
   obtain⟨m,c⟩:=a b (by simpa using e) λy d=>h y (by simp[d])
   have hx:=h x (by simp)
   exact⟨_,c.snoc hx.1 (by omega)⟩
 exact key _ ns rfl
theorem FI {ns:List Int}{m:Int} (h:Lm ns m) (a:∀ x∈ns,1<=x/\x<=6):m<=60:=by
 refine IP (by decide) (h.least 60 λx hx=>?_)
 have:=a x hx
 rcases(show x=1\/x=2\/x=3\/x=4\/x=5\/x=6 by omega) with rfl|rfl|rfl|rfl|rfl|rfl <;> decide
noncomputable def EvR (s:List Int) (W:Int) (r:Sl):Prop:=r=.fr .none\/∃ es:List Ev,r=.ow (lE es)/\vk s W es
theorem EvR.keep {s:List Int}{W:Int}{r:Sl} (h:EvR s W r) (env:List Sl):∃ d,aC env r=some d/\EvV s W d:=by
 rcases h with rfl|⟨es,rfl,h⟩
 ·exact⟨_,rfl,.inl rfl⟩
 ·exact⟨_,rfl,.inr ⟨es,rfl,h⟩⟩
theorem Eo {s:List Int}{W:Int}{R:Sl->List Sl->Prop} (a:1<=s.length) (b:s.length<=40) (c:Sps s) (d:0<=W) (e:W<=1000) (h:∀ r,EvR s W r->R r [.un,.un]):vK [.fr (.list (li s)),.fr (.int W)] R :=
 ⟨s,W,rfl,a,b,c,d,e,λ_=>h _ (.inl rfl),λ_ _ _=>⟨λ_=>h _ (.inl rfl),λ_ es f=>h _ (.inr ⟨es,rfl,f.1⟩)⟩⟩
theorem D2 {s:List Int}{W:Int}{R:Sl->List Sl->Prop} (a:1<=s.length) (b:s.length<=40) (c:Sps s) (d:0<=W) (e:W<=1000) (h:∀ r,EvR s W r->R r [.un]):zL [.fr (.tuple [.list (li s),.list [.int W]])] R :=
 ⟨s,W,rfl,a,b,c,d,e,h _ (.inl rfl),λes f=>h _ (.inr ⟨es,rfl,f⟩)⟩
theorem KP.can {s o:List Int}{A B:List (List Int)} (k:KP s o A B):jc s o (0,s):=by
 have a:=zr k
 refine⟨λx=>∃ i,x=(i % o.length,lfF s (rwF A B) i),⟨0,by rw[Nat.zero_mod];rfl⟩,?_⟩
 rintro y ⟨i,rfl⟩
 have b:=a i
 unfold vo at b
 have c:rwF A B i∈cp s.length (o.getD (i % o.length) 0) (lfF s (rwF A B) i):=(A8 (iD i)).mpr b
 refine⟨eJ s o (i % o.length,lfF s (rwF A B) i) (rwF A B i),HS.mpr ⟨_,c,rfl⟩,i+1,?_⟩
 show((i % o.length+1) % o.length,_)=_
 rw[Nat.mod_add_mod]
 rfl
theorem vW {s:List Int}{b:Nat} (h:∀ x∈s,1<=x/\x<=(b:Int)):jP s<=b ^ s.length:=by
 induction s with
 | nil=>exact HK _
 | cons x s a =>
  have h1:=h x (by simp)
  have h2:=a λy c=>h y (by simp[c])
  show x.toNat*jP s<=b ^ (s.length+1)
  rw[Nat.pow_succ,JK]
  exact Nat.mul_le_mul h2 (by omega)
noncomputable abbrev vN:Stmt:=top 44
theorem gr:ao ["_law_script", "_law_draws_here", "_law_number", "_law_spans", "_law_winders", "_law_town", "_law_even", "_law_plan"] ["_law_script"] (ad vN):=⟨rfl,rfl,rfl,by decide +kernel,rfl,by decide +kernel,by decide +kernel⟩
noncomputable def zJ:DSp:=λss R=>∃ ns:List Int,ss=[.fr (.list (li ns))]/\ns.length<=63/\R (.fr (.bool true)) [.un]
theorem Di {f:Addr}{fd:k0} (F:Fun K "law" "law" vN f fd) (B:Bn mg) (t:Cal P w K mg base "_law_draws" 2 (spD K sK)) (g:Cal P w K mg base "_law_pop" 1 (spD K Cu)) (z:Cal P w K mg base "even_plan" 7 (spD K zL)) (u:Cal P w K mg base "chain_plan" 6 (spD K vK)) (D:Cal P w K mg base "days_of" 3 (spD K x4)) (G:Cal P w K mg base "is_even" 4 (spD K x3)) (o:Cal P w K mg base "_law_is_plan" 1 (spD K oT)) (y:Cal P w K mg base "_law_keeps" 1 (spD K oR)) (L:Cal P w K mg base "keeps" 5 (spD K sI)) (I:Cal P w K mg base "plan_of" 10 (spD K oQ)):bR P w K mg base CX0 12 f fd ["_law_script"] (spD K zJ):=by
 refine okD (k:=11) F gr (λss R h=>?_) (by decide) (λcdv A outer s H E C=>⟨_,(am (aA (i:=1) gr.nd rfl (Or.inr rfl) (aG t (C.mono (by decide)) rfl (aa (qf 0) (aa ag (aa ag ac)))))
   (am (aA (i:=2) gr.nd rfl (Or.inr rfl) (tu 0 g (C.mono (by decide)) rfl (aa (qv 1) ac)))
   (am (qT (i:=3) 1 1 rfl gr.nd rfl rfl (N':=["_law_k", "_law_draws_here", "_law_number"]) (ix:=[none,some 1,some 2]) rfl (dq (N:=["_law_script", "_law_draws_here", "_law_number", "_law_spans", "_law_winders", "_law_town", "_law_even", "_law_plan"]) (sc0:=ad vN) rfl rfl (by decide +kernel)) (cW rfl B.range (aa (bz cQ mI ag (bz bF mIC (qv 2) ag)) ac)) (λ_ _ _ _=>(ak (i:=0) (show List.Nodup (["_law_k", "_law_draws_here", "_law_number"]:List Str) by decide +kernel) rfl (Or.inl rfl))) (λ_ _ _ _=>bI) (λ_ _ _ _=>(bz cQ mI ag (bz bF mIC (tu 0 g (C.mono (by decide)) rfl (aa (qv 1) ac)) (bE (ah (K:=K) rfl) mIx (eP (aa ag (aa ag ac))) (bz bF mIC (bz jS mIC (qv 2) ag) ag) (λ_ _=>rfl))))))
   (aj (aA (i:=4) gr.nd rfl (Or.inl rfl) (bz bF mIC (bz jS mIC (qv 2) ag) ag))
   (aj (aA (i:=5) gr.nd rfl (Or.inl rfl) (gJ (aa (qf 3) (aa (eP (aa (qf 4) ac)) ac))))
   (am (dW PassesOwn.never rfl (bJ (K:=K) rfl (eP (aa (aG z (C.mono (by decide)) rfl (aa (qf 5) ac)) (aa (aG u (C.mono (by decide)) rfl (aa (qf 3) (aa (qf 4) ac))) ac)))) (ak (i:=6) gr.nd rfl (Or.inl rfl)) (ae (eW (aJ nj AG (qv 6) f7 (aE _)) (am (aA (i:=7) gr.nd rfl (Or.inl rfl) (CQ (aG D (C.mono (by decide)) rfl (aa (qf 6) ac))))
   (am (eW (PW.pt (iY (aJ lq Dk (aG G (C.mono (by decide)) rfl (aa (qf 5) (aa (qf 6) ac))) gK (aE _)) (fP (df (cN (aG o (C.mono (by decide)) rfl (aa (qf 7) ac))))))) (ae (aD gK)) aW)
   (am (eW (PW.pt (iY (df (cN (aG y (C.mono (by decide)) rfl (aa (qf 3) (aa (eP (aa (qf 4) ac)) (aa (qf 7) ac)))))) (fP (aJ lq Dk (aG L (C.mono (by decide)) rfl (aa (qf 5) (aa (qf 7) ac))) gK (aE _))))) (ae (aD gK)) aW)
   (ae (eW (PW.pt (yi (aJ jR mB (dw (fB (K:=K) rfl) fA rfl B.len PySem.boot_len (aa (qv 3) ac)) ag (aE _)) (sX (aJ tX FG (aG I (C.mono (by decide)) rfl (aa (qf 5) ac)) f7 (aE _))))) (ae (aD gK)) aW))))) aW)))
   (ae (aD gK)))))))),λss R h=>?_⟩)
 ·obtain⟨l,rfl,_⟩:=h
  rfl
 obtain⟨ns,rfl,a0,q⟩:=h
 walk_at "dx"
 refine⟨ns,2,6,rfl,a0,by decide,by decide,λds hd=>?_⟩
 walk_at "dx"
 refine⟨ds,rfl,?_⟩
 walk_at "dx"
 generalize Ad ds=num at *
 generalize ds.dropLast=l1 at *
 refine⟨by decide,by omega,by omega,λi rs l=>∃ (M T:List Int),rs=li M/\l=li T/\M.length=i/\∀ x∈M,1<=x/\x<=6,_,_,rfl,rfl,⟨[],l1,rfl,rfl,rfl,by simp⟩,?_,?_⟩
 ·rintro i rs l hi ⟨M,T,rfl,rfl,hl,hh⟩
  rw[aw] at hi
  rw[aY]
  refine⟨by rw[HC,hl];exact HV (by omega) au,_,rfl,?_⟩
  walk_at "dx"
  refine⟨T,rfl,?_⟩
  walk_at "dx"
  obtain⟨c,ec,c0,c6⟩:∃ c:Int,atI [PyData.int 6,PyData.int 4] (num / 4 % 2)=some (.int c)/\0<c/\c<=6:=by
   rcases(show num / 4 % 2=((0:Nat):Int)\/num / 4 % 2=((1:Nat):Int) by omega) with e|e <;> rw[e]
   ·exact⟨6,rfl,by decide,by decide⟩
   ·exact⟨4,rfl,by decide,by decide⟩
  refine⟨HQ (by decide) au,⟨by decide,by decide⟩,by decide,_,ec,c,rfl,c0,M++[1+Ad T % c],by simp,T.dropLast,rfl,by simp[hl],λx hx=>?_⟩
  rcases HF.mp hx with hx|hx
  ·exact hh x hx
  ·rw[HD.mp hx]
   have p0:=IY (Ad T) (show c≠0 by omega)
   have p1:=IF (Ad T) c0
   omega
 rintro rs l ⟨s,l2,rfl,rfl,a4,J⟩
 rw[aw] at a4
 refine⟨_,rfl,?_⟩
 walk_at "dx"
 have Z:0<=num / 8 % 4:=by omega
 have w3:num / 8 % 4<=3:=by omega
 have s1:1<=s.length:=by omega
 have s4:s.length<=4:=by omega
 have Y:Sps s:=λx hx=>by have:=J x hx;omega
 generalize num / 8 % 4=W at *
 refine⟨⟨by decide,by decide⟩,by decide,HQ (by decide) au,HQ (by decide) au,D2 s1 (by omega) Y Z (by omega) λr1 a5=>?_⟩
 walk_at "dx"
 refine Eo s1 (by omega) Y Z (by omega) λr2 a6=>?_
 walk_at "dx"
 obtain⟨d1,e1,a7⟩:=a5.keep [.fr (.list (li ns)),.ow (li l2),.fr (.int num),.fr (.list (li s)),.fr (.int W),.fr (.tuple [.list (li s),.list [.int W]]),.un,.un]
 obtain⟨d2,e2,b0⟩:=a6.keep [.fr (.list (li ns)),.ow (li l2),.fr (.int num),.fr (.list (li s)),.fr (.int W),.fr (.tuple [.list (li s),.list [.int W]]),.un,.un]
 refine⟨[d1,d2],by rw[e1,e2];rfl,HQ (by decide) au,a8 (λi env=>∃ a b:Sl,env=[.fr (.list (li ns)),.ow (li l2),.fr (.int num),.fr (.list (li s)),.fr (.int W),.fr (.tuple [.list (li s),.list [.int W]]),a,b]) ⟨_,_,rfl⟩ ?_ ?_⟩
 ·rintro i env hi ⟨a,b,rfl⟩
  obtain⟨v,ev,hv⟩:∃ v,[d1,d2][i]=v/\EvV s W v:=by
   match i,hi with
   | 0,_=>exact⟨_,rfl,a7⟩
   | 1,_=>exact⟨_,rfl,b0⟩
  rw[ev]
  rcases hv with rfl|⟨es,rfl,X⟩
  ·walk_at "dx"
  have U:∀ e∈es,1<=e.2.2/\e.2.2<=6:=λe O=>by
   obtain⟨k,hk,rfl⟩:=Im O
   have p:=qW X hk
   rw[show es.getD k (0,0,0)=es[k] by rw[HB,Hz hk];rfl] at p
   have:=J _ (b9 (ms:=s) (j:=k) (by rw[<-X.len];exact hk))
   omega
  have Q:∀ x∈es.map (·.2.2),1<=x/\x<=6:=λx hx=>by
   obtain⟨e,O,rfl⟩:=HS.mp hx
   exact U e O
  obtain⟨m,O⟩:=FH _ Q
  have b2:=FI O Q
  obtain⟨n,rfl⟩:∃ n:Nat,m=(n:Int):=⟨m.toNat,by have:=O.pos;omega⟩
  have kp:=F0 X Z O
  have b3:(bB es n).length=n:=by unfold bB;simp
  have V:∀ r∈bB es n,r.length<=4:=λr C=>by
   obtain⟨d,_,rfl⟩:=HS.mp C
   have:=sS es (d:Int)
   have:=X.len
   omega
  walk_at "dx"
  have b4:=X.len
  refine⟨es,n,rfl,⟨by omega,λe h=>⟨(U e h).1,by have:=U e h;omega⟩⟩,O,by omega,λS=>?_⟩
  walk_at "dx"
  refine⟨s,W,es,rfl,by omega,by omega,λx hx=>by have:=J x hx;omega,λb hb=>?_⟩
  obtain rfl:b=true:=hb.mpr X
  walk_at "dx"
  refine⟨[],bB es n,rfl,by simp;omega,λr C=>HQ (V r (by simpa using C)) (by decide),?_⟩
  walk_at "dx"
  refine⟨HQ (by decide) au,s,[W],[],bB es n,rfl,by omega,HK _,λx hx=>(J x hx).1,by simp;omega,λr C=>HQ (V r (by simpa using C)) (by decide),kp,?_⟩
  walk_at "dx"
  refine⟨s,[W],[],bB es n,rfl,⟨HK _,by omega,by simp,by omega,by simp,λr C=>HQ (V r C) (by decide)⟩,kp,?_⟩
  walk_at "dx"
  rw[if_neg (by decide)]
  walk_at "dx"
  refine dO (λb1=>?_) (λ_=>trivial)
  rw[HC] at b1
  refine⟨s,[W],rfl,⟨by omega,HK _,λx hx=>(J x hx).1,λx hx=>by rw[HD.mp hx];exact Z,.inl s4,?_⟩,λv hv=>?_⟩
  ·rw[xH]
   have p:=vW (b:=6) J
   have p2:6 ^ s.length<=6 ^ 2:=Jh (by decide) (by omega)
   have:[W].length*jP s<=1*6 ^ 2:=Nat.mul_le_mul (HK _) (HQ p p2)
   omega
  ·walk_at "dx"
   rw[hv.mpr kp.can]
   walk_at "dx"
 ·rintro env ⟨a,b,rfl⟩
  walk_at "dx"
  exact q
end
theorem Er {l:PySem.W.OpenLaw}{w:zf}{K:PySem.W.Frag}{h:Heap}{mg:Str->Option Value}{fa:Addr} (X:K.In h) (G:h.Ns qs mg) (Z:mg "law" = some (.ref fa))
  (g0:FnI K "_law_draws" ce)
  (g1:FnI K "_law_pop" eH)
  (g2:FnI K "is_row" eD)
  (g3:FnI K "hands_on" eF)
  (g4:FnI K "may_wind" c9)
  (g5:FnI K "behind" fM)
  (g6:FnI K "begun" jL)
  (g7:FnI K "gone" o6)
  (g8:FnI K "winds_all" cy)
  (g9:FnI K "keeps" jJ)
  (a0:FnL K "choices" dR)
  (a4:FnL K "full_rows" cB)
  (a5:FnI K "looked_through" bu)
  (a6:FnI K "plan_of" fK)
  (a7:FnI K "_law_is_plan" bK)
  (b0:FnI K "_law_keeps" cM)
  (b1:FnI K "greatest_divisor" bD)
  (b2:FnI K "least_multiple" bL)
  (b3:FnI K "wanted_in" cA)
  (b4:FnI K "lowest_terms" b8)
  (b5:FnI K "share" jI)
  (b6:FnI K "is_chain" dc)
  (c4:FnI K "is_too_much" cn)
  (c5:FnI K "rest_at" fJ)
  (c6:FnL K "chain_plan" cb)
  (d0:FnI K "divisor_and_factor" be)
  (d3:FnI K "clash" jK)
  (d4:FnI K "do_clash" eG)
  (e0:FnI K "is_part" fL)
  (e4:FnI K "is_even" db)
  (e5:FnI K "row_on" fG)
  (e6:FnI K "days_of" de)
  (e7:FnI K "rounded" fH)
  (e8:FnI K "even_plan" dz)
  (e9:FnI K "law" vN)
  {O:Tok}{n:Int} (g_MOST_X:PySem.W.nsIn K qs "MOST_X" = some (some (.int n O))) (e_MOST_X:n=200)
  (z : BnI K)
  : ∃ fd:k0,(∀ (s:Shared) (v:Value),Qm s fd ⟨[v],[]⟩ [("_law_script",v)])/\∀ base:Heap,K.In base->base.Ns qs mg->bR l.prog w K mg base CX0 12 fa fd ["_law_script"] (spD K zJ):=by
 have B:Bn mg:=z.bn X G
 refine Ha X G Z e9 (λF s v=>?_) λ{fd base} Y Xb=>?_
 ·obtain⟨_,_,_,_,_,_,_,_,_,rfl,_,_⟩:=F.ex
  exact .of_eq rfl
 have k:=fm X G g0 kC λF=>jV (P:=l.prog) (w:=w) (base:=base) F B
 have u:=fm X G g1 og λF=>nB (P:=l.prog) (w:=w) (base:=base) F B
 have Q:=fm X G g2 u8 λF=>t9 (P:=l.prog) (w:=w) (base:=base) F B
 have f:=fm X G g3 nZ λF=>nz (P:=l.prog) (w:=w) (base:=base) F B
 have x:=fm X G g4 nX λF=>nw (P:=l.prog) (w:=w) (base:=base) F B Q f
 have o:=fm X G g5 u9 λF=>ua (P:=l.prog) (w:=w) (base:=base) F B
 have y:=fm X G g6 xG λF=>wg (P:=l.prog) (w:=w) (base:=base) F B
 have V:=fm X G g7 BM λF=>Ay (P:=l.prog) (w:=w) (base:=base) F B x o
 have p:=fm X G g8 my λF=>lw (P:=l.prog) (w:=w) (base:=base) F B
 have S:=fm X G g9 xE λF=>wb (P:=l.prog) (w:=w) (base:=base) F B p y V
 have D:=Gh X G Xb a0 rR λF L=>rg (P:=l.prog) (w:=w) F B L f
 have q:=Gh X G Xb a4 mD λF L=>lz (P:=l.prog) (w:=w) F B L D
 have e:=fm X G a5 gm λF=>f9 (P:=l.prog) (w:=w) (base:=base) F B q o
 have E:=fm X G a6 rN λF=>qZ (P:=l.prog) (w:=w) (base:=base) F B e y
 have g:=fm X G a7 iQ λF=>iB (P:=l.prog) (w:=w) (base:=base) F B
 have m:=fm X G b0 kB λF=>jU (P:=l.prog) (w:=w) (base:=base) F B
 have a:=fm X G b1 ft λF=>fg (P:=l.prog) (w:=w) (base:=base) F B
 have b:=fm X G b2 gn λF=>ga (P:=l.prog) (w:=w) (base:=base) F B a
 have r:=fm X G b3 mC λF=>ly (P:=l.prog) (w:=w) (base:=base) F B
 have i:=fm X G b4 iP λF=>iA (P:=l.prog) (w:=w) (base:=base) F B a
 have T:=fm X G b5 xD λF=>v9 (P:=l.prog) (w:=w) (base:=base) F B b r i
 have A:=fm X G b6 nY λF=>ny (P:=l.prog) (w:=w) (base:=base) F B
 have j:=fm X G c4 ja λF=>i4 (P:=l.prog) (w:=w) (base:=base) F B T
 have H:=fm X G c5 rM λF=>qY (P:=l.prog) (w:=w) (base:=base) F B
 have d:=Gh X G Xb c6 kA λF L=>jT (P:=l.prog) (w:=w) F B L A j H
 have c:=fm X G d0 d9 λF=>dY (P:=l.prog) (w:=w) (base:=base) F B
 have U:=fm X G d3 xF λF=>wd (P:=l.prog) (w:=w) (base:=base) F B c
 have C:=fm X G d4 n0 λF=>nA (P:=l.prog) (w:=w) (base:=base) F B U
 have I:=fm X G e0 rO λF=>q9 (P:=l.prog) (w:=w) (base:=base) F B
 have J:=fm X G e4 rP λF=>rd (P:=l.prog) (w:=w) (base:=base) F B I C
 have R:=fm X G e5 u7 λF=>t8 (P:=l.prog) (w:=w) (base:=base) F B
 have M:=fm X G e6 rQ λF=>rf (P:=l.prog) (w:=w) (base:=base) F B b R
 have N:=fm X G e7 rL λF=>qX (P:=l.prog) (w:=w) (base:=base) F B
 have t:=fm X G e8 mE λF=>lA (P:=l.prog) (w:=w) (base:=base) F B (PySem.W.mg_of X G g_MOST_X) e_MOST_X N d
 exact Di Y B k u t d M J g m S E
end _W
namespace PySem.Challenge.cw_windround_k23_whole_even_plans_keep_holds
theorem tw17132183739739762843:True:=trivial
theorem tw7336713802610468293:True:=trivial
theorem tw12305510726281394139:True:=trivial
theorem tw9056332997614921362:True:=trivial
theorem tw7407508663744809763:True:=trivial
theorem tw2820730838870492456:True:=trivial
theorem tw5944451860697961871:True:=trivial
theorem tw4540825116008234063:True:=trivial
theorem tw13546544288959471046:True:=trivial
theorem tw1339977280241372632:True:=trivial
theorem tw13773073299743030462:True:=trivial
theorem tw3666624184629074065:True:=trivial
theorem tw3108436410475193803:True:=trivial
theorem tw5837248502954111557:True:=trivial
theorem tw13651672613836528070:True:=trivial
theorem tw15873736219913484815:True:=trivial
theorem tw3221357285665967627:True:=trivial
theorem tw15364059406930884356:True:=trivial
theorem tw18186194021146830548:True:=trivial
theorem tw14730373975071981077:True:=trivial
theorem tw6774152887594581120:True:=trivial
theorem tw1910138573106616317:True:=trivial
theorem tw3067961399793828860:True:=trivial
theorem tw2688925673287088492:True:=trivial
theorem tw17870397907445080191:True:=trivial
theorem tw12250611981931024955:True:=trivial
theorem tw13622507825184386850:True:=trivial
theorem tw13807197449907478384:True:=trivial
theorem tw15724643704957550681:True:=trivial
theorem tw16659689896791206836:True:=trivial
theorem tw2940772138699896275:True:=trivial
theorem tw18250731183320103688:True:=trivial
theorem tw17683041274674042726:True:=trivial
theorem tw16665739356552725130:True:=trivial
theorem tw16755559074361773784:True:=trivial
theorem tw4771068863059398643:True:=trivial
theorem tw12232414528975730658:True:=trivial
theorem tw14457019098196184156:True:=trivial
theorem tw9660814337789408271:True:=trivial
theorem tw8249126383291379811:True:=trivial
theorem tw10914818971474232547:True:=trivial
theorem tw4112582017514535583:True:=trivial
theorem tw11288759236641485509:True:=trivial
theorem tw4775938542905566473:True:=trivial
theorem tw1672734897991915032:True:=trivial
theorem tw5494220433008993351:True:=trivial
theorem tw5190975843566478301:True:=trivial
theorem tw1809314768549091658:True:=trivial
theorem tw8111285735233231329:True:=trivial
theorem tw15620436311731408671:True:=trivial
theorem tw11757026441300550256:True:=trivial
theorem tw2119465449864590710:True:=trivial
theorem tw1586954575373622926:True:=trivial
theorem tw4621524196163202994:True:=trivial
theorem tw8630092866920389551:True:=trivial
theorem tw9804706471753132294:True:=trivial
theorem tw16564885260682641720:True:=trivial
theorem tw10397342222515654758:True:=trivial
theorem tw15832644821405550526:True:=trivial
theorem tw10783554804641705649:True:=trivial
theorem tw13774068743059109463:True:=trivial
theorem tw12183971531392681235:True:=trivial
theorem tw5539156014592082452:True:=trivial
theorem tw881895013450880244:True:=trivial
theorem tw14507685107026713923:True:=trivial
theorem tw9035749023839075913:True:=trivial
theorem tw1960572900801794971:True:=trivial
theorem tw17950473963618320347:True:=trivial
theorem tw4140061849433592191:True:=trivial
theorem tw8744302778388267479:True:=trivial
theorem tw5525393917722821673:True:=trivial
theorem tw1523701535074432680:True:=trivial
theorem tw9255639781055706258:True:=trivial
theorem tw15441775765674784817:True:=trivial
theorem tw5854290967310514885:True:=trivial
theorem tw2862791230039305836:True:=trivial
theorem tw8040423473392137633:True:=trivial
theorem tw14365389030491526112:True:=trivial
theorem tw2217393581674639358:True:=trivial
end PySem.Challenge.cw_windround_k23_whole_even_plans_keep_holds
open PySem PySem.W PyProof.Rows
set_option maxRecDepth 100000 in
set_option maxHeartbeats 0 in
set_option Elab.async true in
theorem PySem.Challenge.cw_windround_k23_whole_even_plans_keep_holds : PySem.Challenge.rw_windround_k23_whole_even_plans_keep.Holds := by
 w_on;o_law;k_head;(case hw=>w_witness2)
 k_fill
 refine _L.EZ (l:=PySem.Challenge.rw_windround_k23_whole_even_plans_keep) (sp:=_W.zJ) (k:=12) (by decide) rfl rfl (λns h=>⟨ns,rfl,h,rfl⟩) ?TB (λw h Y=>PySem.W.km_in_of Y) ?F
 case TB =>
  intro w s₀ mg mb h G a
  refine' _L.zG _ (_L.j6 (x := "choices") (_L.j7 G a rfl ?a1 ?l1 ?c1 ?lc1 ?hT1 ?hn1) (_L.j6 (x := "full_rows") (_L.j7 G a rfl ?a2 ?l2 ?c2 ?lc2 ?hT2 ?hn2) (_L.j6 (x := "chain_plan") (_L.j7 G a rfl ?a3 ?l3 ?c3 ?lc3 ?hT3 ?hn3) _L.AT))) ?nd (_L.AU (.inl ?y0) (.inl ?y1) (.inl ?y2) (.inr ?z3))
  (case a1=>k_is);(case l1=>k_is);(case c1=>exact rfl);(case lc1=>k_is);(case hT1=>exact⟨rfl,rfl,⟨_,_,rfl⟩,⟨_,_,rfl⟩,⟨_,rfl⟩,⟨_,_,rfl⟩,by decide⟩);(case hn1=>kernel_rfl)
  (case a2=>k_is);(case l2=>k_is);(case c2=>exact rfl);(case lc2=>k_is);(case hT2=>exact⟨rfl,rfl,⟨_,_,rfl⟩,⟨_,_,rfl⟩,⟨_,rfl⟩,⟨_,_,rfl⟩,by decide⟩);(case hn2=>kernel_rfl)
  (case a3=>k_is);(case l3=>k_is);(case c3=>exact rfl);(case lc3=>k_is);(case hT3=>exact⟨rfl,rfl,⟨_,_,rfl⟩,⟨_,_,rfl⟩,⟨_,rfl⟩,⟨_,_,rfl⟩,by decide⟩);(case hn3=>kernel_rfl)
  (case nd=>decide);(case y0=>simp);(case y1=>simp);(case y2=>simp);(case z3=>k_is)
 case F =>
  intro w mg fa h a G b
  refine' _W.Er a G b ?fn0 ?fn1 ?fn2 ?fn3 ?fn4 ?fn5 ?fn6 ?fn7 ?fn8 ?fn9 ?fn10 ?fn11 ?fn12 ?fn13 ?fn14 ?fn15 ?fn16 ?fn17 ?fn18 ?fn19 ?fn20 ?fn21 ?fn22 ?fn23 ?fn24 ?fn25 ?fn26 ?fn27 ?fn28 ?fn29 ?fn30 ?fn31 ?fn32 ?fn33 ?fn34 ?g_MOST_X ?e_MOST_X ?fz
  case fn0|fn1|fn2|fn3|fn4|fn5|fn6|fn7|fn8|fn9|fn12|fn13|fn14|fn15|fn16|fn17|fn18|fn19|fn20|fn21|fn22|fn23|fn25|fn26|fn27|fn28|fn29|fn30|fn31|fn32|fn33|fn34=>(refine' _L.fnI ?fa ?fl ?fc ?fk;(case fa=>k_is);(case fl=>k_is);(case fc=>k_is);(case fk=>k_is))
  (case g_MOST_X=>k_is);(case e_MOST_X=>rfl)
  case fn10|fn11|fn24=>(refine' _L.fnL (by decide) ?fa ?fl ?fc ?fk ?fhc ?flc ?fhT;(case fa=>k_is);(case fl=>k_is);(case fc=>k_is);(case fk=>k_is);(case fhc=>exact rfl);(case flc=>k_is);(case fhT=>exact⟨rfl,rfl,⟨_,_,rfl⟩,⟨_,_,rfl⟩,⟨_,rfl⟩,⟨_,_,rfl⟩,by decide⟩))
  case fz=>refine'⟨?_,?_,?_,?_,?_,?_,?_,?_,?_,?_,?_,?_,?_,?_,?_,?_,?_,?_⟩ <;> k_is
