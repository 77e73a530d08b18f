import PyProof.Rows.All
import Wide.All
import OpenK.AllK
import Wide.FinOn
import Lean
import PyProof.EqAt
import PyProof.EqKinds
import PyProof.TupleCall
import PyProof.DictRoadsH
import PyProof.DictKinds
import PyProof.DictIter
import PyProof.DictRoads
import PyProof.DictList
import PyProof.ListMulAny
import PyProof.StrLawsTight
import KE.KIntText
import PyProof.Rows.StrItems
import PyProof.StrWalks
import KE.KSortTup
import KE.KLam
import PyProof.ExcInit
import PyProof.ExcClass3
import PyProof.InstStoreFacts
import PyProof.ExcBaseAll.ValueError
import PyProof.ExcArgsOwn
import PyProof.ExcAttrAll.ValueError
import PyProof.Rows.RuleN_isinstance
import PyProof.AutoSeq1
import KE.KRevIter
import PyProof.Rows.FactsT2
import PyProof.DictTruth
import PyProof.DictWalks
import PyProof.ListRange
import PyProof.CollectWalk
import KE.KItemsList
import PyProof.ZipIter
import PySem.Challenge.RW_windround_k38_whole_from_line_to_answer
set_option compiler.extract_closed false
set_option bootstrap.genMatcherCode false
local macro_rules | `(tactic| omega) => `(tactic| first | assumption | lia)
set_option Elab.async false
set_option linter.all false
set_option maxRecDepth 100000
noncomputable section
open PySem renaming PyData → ab, Addr → ap, Value → as, Shared → ba, Expr → bb, Heap → bd, Str → bx
open PySem.W renaming Frag → ca, nsIn → cb
open PySem renaming wpAny_bind → jj, wpAny_pure → ke, starEach → kq, wpAny → kw, mainGlobals → ky, FuncData → kN, model → qb, Program → q3, compareOp → q4, World → zb, backTo → ze, wpAny_newObj_type → zh, wpAny_holding → zp, sizeLine_eq → z0, wpAny_mono → z3, wpAny_call_entry → z4, attributeBase → z5, wpAny_callSpecial?_slot → z6, cellsFrom → Kx, wpAny_seqItems → Ky, wpAny_field → Kz, keywordEach → KA, wpAny_truthy_bool → KB, foldedSetIterable → KC, cLine → KD, assignEach → KH, holding → KI, bootBuiltins → KJ, sysModules → cf, Scope → KL, codeAny → KM, binaryOp → KN, wpAny_rule → KO, plainId_quiet → KQ, Keyword → KS, wpAny_isInstance → KT, backToKw → KU, wpAny_typeNameOfWhole_keyiter → KW, wpAny_setField_rec → KY, wpAny_Call_Name_kw → KZ, wpAny_specialOf → K0, wpAny_passesOwn → K1, standAt → K2, builtinsNs → K3, rawInt → K4, IsPair → K5, wpAny_typeNameOf_keyiter → K6, intKind → K7, codeAny_builtin → K8, wpAny_letGo → K9, wpAny_pyIter_list → Qb, closureFor → Qc, call_meets → Qd, wpAny_attempt → Qf, behindInMarks → Qh, sliceBounds → Qi, bindArgs → Qj, wpAny_updateSeq → Qk, assign → Qm, swapsWith → Qn, pyNext → Qo, wpAny_standAt → Qp, wpAny_pyIter_zip → Qr, wpAny_forIn_list → Qs, pushCells → Qt, getMethod → Qu, codeAny_mono → Qw, wpAny_execs_nil → Qy, pushCells_keeps → Qz, letOwnedTupleGo → QA, IsZip → QB, isSubtype_tuple_tuple → QC, wpAny_updateSeq_pair → QD, wpAny_setField → QE, isTrue → QF, firstArgMember → QG, codeAmong → QI, BindsTo → QJ, Arguments → QK, wpAny_onRaise → QL, wpAny_newList → QM, atKey → QP, wpAny_tupleItemsOf → QQ, typeIs_str → QR, wpAny_dictEntries → QS, hashInt → QU, concat_meets → QV, callerA → QW, wpAny_execs_cons → QY, wpAny_eqBool_int → QZ, noFill_tuple_add → Q0, Result → Q2, IsPart → Q3, subscripted → Q4, wpAny_ite_split → Q7, wpAny_dictEpoch → Q8, setItem → Q9, wpAny_tryCatch → Za, wpAny_newTuple → Zb, wpAny_newFunctionEnv_cells → Zc, wpAny_call → Zd, truthy → Ze, reduceHash → Zf, newFunctionEnv → Zg, isSubtype_stop → Zh, defaultsOf → Zi, callWith → Zj, ZipApart → Zk, PlainAttrs → Zl, wpAny_letOwnedTupleGo_zip → Zm, wpAny_comprehension_free → Zn, swapsWithSole → Zo, swappedStores → Zp, seq_tuple_add → Zq, updateSeq → Zr, seqItems? → Zs, seqIndex? → Zt, field → Zu, eqIsQuiet → Zv, bindL → Zw, bindC → Zx, wpAny_typeOf → Zz, tupleKeyHash → ZA, pyIter → ZC, getItem → ZE
open PyProof.Rows renaming arrOf → zd, Keyed → zf, wpS_bind → zg, wpS_pure → KF, seqObj → KG, pendingOf → Qa, listUpdate_at → Qg, get?_update_seq → Ql, envOfC → Qq, wpS_modify → Qv, AllBare → Qx, elem' → QH, subscriptTail → QN, SortKind → QX, mirror → Q1, seqEpoch_at → Q5, mirror_perm → Q6, wpS_get → Zy, subscriptTail_builtinR → ZB, listItems_at → ZD, IntsAre → ZF
open PySem.MeetsSeq3 renaming plain_eq_loop → QO
open PySem.W renaming kla_obj → QT
open List renaming mem_append_right -> IE, length_map -> IF, mem_singleton -> IG, mem_append -> II, mem_append_left -> IJ, getElem?_eq_getElem -> IK, mem_cons_self -> IL, mem_cons_of_mem -> IM, getElem?_eq_some_iff -> IN, getD_eq_getElem?_getD -> IP, mem_cons -> IR, nodup_append -> IT, map_cons -> IU, size_toArray -> IV, mem_map -> IZ, getElem?_set_self -> Jc, getElem?_set_ne -> Je, length_cons -> Jf, length_append -> Jg, append_nil -> Jh, mem_filter -> Ji, not_mem_nil -> Jk, length_range -> Jl, map_append -> Jm, getElem_map -> Jn, map_map -> Jq, nodup_cons -> Jr, lookup_cons -> Js, getElem?_map -> Jt, getElem_mem -> Ju, length_filter_le -> Jy, mem_range -> Jz, sum_cons -> JB, length_take -> JC, length_singleton -> JD, append_assoc -> JE, filter_cons_of_pos -> JG, take_length -> JI, ext_getElem -> JJ, take_of_length_le -> JK, getElem?_append_left -> JM, replicate -> JN, take_add_one -> JT, getElem?_append_right -> JV, filter_append -> JY, length_zip -> JZ, reverse_cons -> J0, filter_cons_of_neg -> J1, getElem_of_mem -> J2, getElem_zip -> J3, nodup_nil -> J4, map_nil -> J5, range_succ -> J6, mem_of_getElem? -> J9, length_drop -> Kc, map_snd_zip -> Kd, getElem?_set_self' -> Ke, of_mem_zip -> Kg, length_set -> Kh, drop_of_length_le -> Ki, take_append_of_le_length -> Kj, pairwise_map -> Kk, forIn_nil -> Kl, pairwise_append -> Km, mem_map_of_mem -> Kn, pairwise_iff_getElem -> Ko, map_congr_left -> Kp, drop_eq_getElem_cons -> Kq, forIn_cons -> Kr, find?_cons -> Ks, nil_append -> Kt, sum_append -> Ku
open Nat renaming le_trans -> IQ, le_refl -> IS, lt_of_lt_of_le -> IY, zero_le -> Jb, ne_of_lt -> Jd, lt_irrefl -> JL, lt_succ_self -> JO, le_add_right -> JP, pow_le_pow_right -> JQ, ne_of_gt -> JR, le_of_lt -> JW, toDigits -> JX, le_succ -> Kb, min_eq_left -> Kv, lt_of_le_of_lt -> Kw
open Int renaming le_refl -> Jo, toNat_natCast -> Jv, le_trans -> JF, emod_lt_of_pos -> JH, eq_ofNat_of_zero_le -> JS, emod_nonneg -> JU, gcd -> J8
open Option renaming isSome_iff_exists -> Ka
open Bool renaming false_ne_true -> Ja, false_eq_true -> Jj, and_eq_true -> Jw, not_true -> J7, eq_iff_iff -> Kf
open PySem.Heap renaming get?_push_of_some -> IH, get?_push_size -> IW, lt_size -> IX, get?_update_other -> Jp, get?_update_self -> Jx, size_push -> JA
theorem cc{α:Type _}{a:α}{b:Prop}:a=a\/b:=.inl rfl
namespace _L
open PySem PySem.Spec PyProof.Rows
abbrev Key:=Sum Int bx
def xy:Key->as->Bool
 | .inl k,v=>Value.isInt k v
 | .inr x,v=>Value.isStrOf x v
def Ia(w:zb):Key->Int
 | .inl k=>QU k
 | .inr x=>hashStr w x
theorem aY:∀{k:Key}{v:as},xy k v=true->(∃i t,k=Sum.inl i/\v=Value.int i t)\/(∃x t,k=Sum.inr x/\v=Value.str x t)
 | .inl i,v,h=>by
  obtain⟨t,e⟩:=Value.isInt_shape (k:=i) (v:=v) h;exact .inl ⟨i,t,rfl,e⟩
 | .inr x,v,h=>by
  obtain⟨t,e⟩:=Value.isStrOf_shape (x:=x) (v:=v) h;exact .inr ⟨x,t,rfl,e⟩
theorem uL(x:bx)(t:Tok):xy (.inr x) (.str x t)=true:=by simp[xy,Value.isStrOf]
theorem D0(a b:Int):decide ((Sum.inl a:Key)=Sum.inl b)=(a==b):=by by_cases e:a=b;subst e;simp;have h:¬(Sum.inl a:Key)=Sum.inl b:=λq=>e (Sum.inl.inj q);rw[decide_eq_false h];exact(beq_eq_false_iff_ne.mpr e).symm
theorem DW(a b:bx):decide ((Sum.inr a:Key)=Sum.inr b)=decide (a=b):=by by_cases e:a=b;subst e;simp;have h:¬(Sum.inr a:Key)=Sum.inr b:=λq=>e (Sum.inr.inj q);rw[decide_eq_false h,decide_eq_false e]
theorem DZ(a:Int)(b:bx):decide ((Sum.inl a:Key)=Sum.inr b)=false:=decide_eq_false (λq=>nomatch q)
theorem DX(a:bx)(b:Int):decide ((Sum.inr a:Key)=Sum.inl b)=false:=decide_eq_false (λq=>nomatch q)
def cR(prog:q3)(w:zb):PySem.KeyKind prog w Key where
 is := xy
 hash:=Ia w
 inj := λv a b d c=>by
  rcases aY d with⟨i,t,rfl,rfl⟩|⟨x,t,rfl,rfl⟩
  rcases aY c with⟨j,u,rfl,e⟩|⟨y,u,rfl,e⟩
  injection e with e1 _;rw[e1];exact nomatch e;rcases aY c with⟨j,u,rfl,e⟩|⟨y,u,rfl,e⟩
  exact nomatch e;injection e with e1 _;rw[e1]
 byValue:=λk v h=>by
  rcases aY h with⟨i,t,rfl,rfl⟩|⟨x,t,rfl,rfl⟩ <;> rfl
 pyHash:=λhv h=>by
  rcases aY hv with⟨i,t,rfl,rfl⟩|⟨x,t,rfl,rfl⟩
  exact wpAny_pyHash_int h;exact wpAny_pyHash_str h
 eqBool:=λf hv h=>by
  rcases aY f with⟨i,t,rfl,rfl⟩|⟨x,t,rfl,rfl⟩
  rcases aY hv with⟨j,u,rfl,rfl⟩|⟨y,u,rfl,rfl⟩
  rw[D0] at h;exact QZ h;rw[DZ] at h;exact SeqAt.EqAt.int_str i t y u _ _ _ _ h;rcases aY hv with⟨j,u,rfl,rfl⟩|⟨y,u,rfl,rfl⟩
  rw[DX] at h;exact SeqAt.EqAt.str_int x t j u _ _ _ _ h;rw[DW] at h;exact wpAny_eqBool_str h
 «strs»:=λk x t v h=>by
  rcases aY h with⟨i,u,rfl,e⟩|⟨y,u,rfl,e⟩
  exact nomatch e;injection e with e1 _;subst e1;cases v <;> rfl
theorem dz(prog:q3)(w:zb)(x:bx)(t:Tok):(cR prog w).is (.inr x) (.str x t)=true:=uL x t
inductive V where
 | non|bl (b:Bool)|int (i:Int)|str (x:bx)|byt (b:Array UInt8)|flt (b:UInt64)|ref (a:ap)|ty (n:String)
 deriving DecidableEq
def be:V->as->Prop
 | .non,u=>u=Value.none
 | .bl b,u=>u=Value.bool b
 | .int i,u=>∃t,u=Value.int i t
 | .str x,u=>∃t,u=Value.str x t
 | .byt b,u=>∃t,u=Value.bytes b t
 | .flt b,u=>∃t,u=Value.float b t
 | .ref a,u=>u=Value.ref a
 | .ty n,u=>u=Value.type n
abbrev aH:List V->List as->Prop:=Paired be
theorem aH.length{xs:List V}{us:List as}(r:aH xs us):xs.length=us.length:=Paired.length r
theorem aH.get:∀{xs:List V}{us:List as}{i:Nat}{x:V},aH xs us->xs[i]? = some x->∃u,us[i]? = some u/\be x u
 | _,_,_,_,.nil,e=>by simp at e
 | _,_,0,_,.cons r _,e=>by simp at e;subst e;exact⟨_,rfl,r⟩
 | _,_,i+1,x,.cons _ t,e=>by
  obtain⟨u,h1,h2⟩:=aH.get (i:=i) (x:=x) t (by simpa using e);exact⟨u,by simpa using h1,h2⟩
theorem aH.set{x:V}{u:as}(r:be x u):∀{xs:List V}{us:List as} (i:Nat),aH xs us->aH (xs.set i x) (us.set i u)
 | _,_,_,.nil=>.nil
 | _,_,0,.cons _ t=>.cons r t
 | _,_,i+1,.cons q t=>.cons q (aH.set r i t)
theorem aH.append:∀{xs ys:List V}{us ws:List as},aH xs us->aH ys ws->aH (xs++ys) (us++ws)
 | _,_,_,_,.nil,s=>s
 | _,_,_,_,.cons r t,s=>.cons r (aH.append t s)
theorem aH.take:∀{xs:List V}{us:List as} (n:Nat),aH xs us->aH (xs.take n) (us.take n)
 | _,_,0,_=>.nil
 | _,_,_+1,.nil=>.nil
 | _,_,n+1,.cons r t=>.cons r (aH.take n t)
theorem aH.drop:∀{xs:List V}{us:List as} (n:Nat),aH xs us->aH (xs.drop n) (us.drop n)
 | _,_,0,r=>r
 | _,_,_+1,.nil=>.nil
 | _,_,n+1,.cons _ t=>aH.drop n t
def vV:Option V->Option as->Prop
 | some v,some u=>be v u
 | none,none=>True
 | _,_=>False
def KV{κ:Type}:List (κ×V)->List (κ×as)->Prop:=Paired λ(p:κ×V) (q:κ×as)=>p.1=q.1/\be p.2 q.2
def kV:Key->V
 | .inl i=>.int i
 | .inr x=>.str x
inductive HO where
 | lst (xs:List V)
 | tup (xs:List V)
 | dK (kvs:List (Key×V))|dT (kvs:List (List Key×V))
 | set (S:Int->Bool) (n:Nat)
 | ins (C dx:ap) (fs:List (bx×V))
 | own (x:ap)
 | xd (fs:List (bx×V))
 | met (f x:ap)
 | rng (lo hi:Int)
 | frz (o:Obj) (u:HO)
 | tbl (q:bx)
 | ext (φ:bd->Prop)
abbrev Hp:=ap->Option HO
def Fix:HO->Prop
 | .tup _=>True
 | .frz _ _=>True
 | _=>False
def B8(H:Hp)(h:bd)(a:ap)(q:bx):Prop:=∃ps:Array as,h.get? a=some { cls:=.none,data:=.fields ps }/\TriplesOk ps.toList /\
 ∀pos cv,QI pos ps.toList=some cv->∃c oc u vs t,cv=.ref c/\H c=some (.frz oc u)/\oc.data=.fields vs/\vs[1]? = some (.str q t)
def upd(H:Hp)(a:ap)(o:HO):Hp:=λb=>if b=a then some o else H b
theorem aq{H:Hp}{a:ap}{o:HO}:upd H a o a=some o:=by unfold upd;rw[if_pos rfl]
theorem al{H:Hp}{a b:ap}{o:HO}(h:b≠a):upd H a o b=H b:=by unfold upd;rw[if_neg h]
theorem au{H:Hp}{a b:ap}{o:HO}(h:H a=some o)(h':H b=none):a≠b:=by intro e;subst e;rw[h] at h';cases h'
def vL(h:bd)(a:ap)(b:Array as):Prop:=∃o,h.get? a=some o/\o.cls=.type "tuple" /\ (∃n,o.data=.seq b n)/\o.dict=none
theorem vL.is{h:bd}{a:ap}{b:Array as}(p:vL h a b):IsTup h a b:=let ⟨o,e,c,n,_⟩:=p;⟨o,e,c,n⟩
theorem vL.lt{h:bd}{a:ap}{b:Array as}(p:vL h a b):a<h.objs.size:=p.is.lt
theorem vL.new(h:bd)(items:Array as):vL (h.push { cls:=.type "tuple",data:=.seq items }) h.objs.size items:=⟨_,IW _ rfl,rfl,⟨_,rfl⟩,rfl⟩
section
variable (P:q3) (w:zb)
def dB(H:Hp)(h:bd)(a:ap):HO->Prop
 | .lst xs=>xs.length<=sizeLine/\∃(b:List as) (n:Nat),aH xs b/\h.get? a=some { cls:=.type "list",data:=.seq b.toArray n }
 | .tup xs=>xs.length<=sizeLine/\∃b:List as,aH xs b/\vL h a b.toArray
 | .dK kvs=>kvs.length<=sizeLine/\(a==cf)=false/\∃vs,KV kvs vs/\h.DictOf (cR P w) a vs
 | .dT kvs=>kvs.length<=sizeLine/\(a==cf)=false/\∃xs:List (List Key×ap×as),
   Paired (λ(p:List Key×V) (q:List Key×ap×as)=>p.1=q.1/\H q.2.1=some (.tup (p.1.map kV))/\be p.2 q.2.2) kvs xs /\
   ∃o es ep,h.get? a=some o/\o.ExactDict/\o.data=.dict es ep/\es.toList=xs.map (entryOfKey (tupleKind (cR P w)))/\(xs.map (·.1)).Nodup
 | .set S n=>h.SetOf (K7 P w) a S n
 | .ins C dx fs=>H dx=some (.own a)/\fs.length<=1000/\dx≠a/\h.get? a=some (PySem.W.instObj C dx) /\
   ∃mA,h.Ns1 dx mA/\(∀f,vV (fs.lookup f) (mA f))/\PySem.Within mA (fs.map (·.1))
 | .own _=>∃o,h.get? a=some o
 | .xd fs=>∃mA,h.Ns1 a mA/\∀f,vV (fs.lookup f) (mA f)
 | .rng lo hi=>∃t u v,h.get? a=some { cls:=.type "range",data:=.fields #[.int lo t,.int hi u,.int 1 v] }
 | .frz o u=>h.get? a=some o/\dB H h a u
 | .tbl q=>B8 H h a q
 | .met f x=>h.get? a=some (PySem.W.methodObj (.ref f) (.ref x))
 | .ext φ=>φ h/\(∃o,h.get? a=some o)/\∀h1 h2:bd,φ h1->(∀o,h1.get? a=some o->h2.get? a=some o)->φ h2
def HOk(H:Hp)(h:bd):Prop:=∀a o,H a=some o->dB P w H h a o
end
section
variable {P:q3}{w:zb}{H H':Hp}{h h':bd}{a:ap}{o:HO}
theorem dB.lt(x:dB P w H h a o):a<h.objs.size:=by
 cases o with
 | lst xs=>obtain⟨_,_,_,_,e⟩:=x;exact IX e
 | tup xs=>obtain⟨_,_,_,p⟩:=x;exact p.lt
 | dK kvs=>obtain⟨_,_,_,_,o,_,_,e,_⟩:=x;exact IX e
 | dT kvs=>obtain⟨_,_,_,_,o,_,_,e,_⟩:=x;exact IX e
 | set S n=>obtain⟨o,_,_,_,e,_⟩:=x;exact IX e
 | ins C dx fs=>obtain⟨_,_,_,e,_⟩:=x;exact IX e
 | own y=>obtain⟨_,e⟩:=x;exact IX e
 | xd fs=>obtain⟨_,⟨_,_,_,e,_⟩,_⟩:=x;exact IX e
 | rng lo hi=>obtain⟨_,_,_,e⟩:=x;exact IX e
 | frz ob u=>obtain⟨e,_⟩:=x;exact IX e
 | tbl q=>obtain⟨_,e,_⟩:=x;exact IX e
 | met f y=>exact IX (show h.get? a=some _ from x)
 | ext φ=>obtain⟨_,⟨_,e⟩,_⟩:=x;exact IX e
theorem Paired.mapP{α β:Type}{F G:α->β->Prop}:∀{c:List α}{d:List β},Paired F c d->(∀a b,F a b->G a b)->Paired G c d
 | _,_,.nil,_=>.nil
 | _,_,.cons r t,f=>.cons (f _ _ r) (Paired.mapP t f)
theorem dB.stay(x:dB P w H h a o)(k:∀b u,(b=a\/H b=some (.own a))->h.get? b=some u->h'.get? b=some u)
  (ho:∀b,H b=some (.own a)->H' b=some (.own a)) (ht:∀b o,Fix o->H b=some o->H' b=some o):dB P w H' h' a o:=by
 induction o with
 | lst xs=>obtain⟨z,g,n,r,e⟩:=x;exact⟨z,g,n,r,k _ _ (.inl rfl) e⟩
 | tup xs=>obtain⟨z,g,r,ob,e,c⟩:=x;exact⟨z,g,r,ob,k _ _ (.inl rfl) e,c⟩
 | dK kvs=>obtain⟨z,y,vs,r,ob,es,ep,e,c⟩:=x;exact⟨z,y,vs,r,ob,es,ep,k _ _ (.inl rfl) e,c⟩
 | dT kvs =>
  obtain⟨z,y,xs,r,ob,es,ep,e,c⟩:=x;exact⟨z,y,xs,Paired.mapP r λp q z=>⟨z.1,ht _ _ trivial z.2.1,z.2.2⟩,ob,es,ep,k _ _ (.inl rfl) e,c⟩
 | set S n=>obtain⟨ob,es,ep,t,e,c⟩:=x;exact⟨ob,es,ep,t,k _ _ (.inl rfl) e,c⟩
 | ins C dx fs =>
  obtain⟨d,z,ne,e,mA,⟨od,es,ep,e2,c⟩,r⟩:=x;exact⟨ho _ d,z,ne,k _ _ (.inl rfl) e,mA,⟨od,es,ep,k _ _ (.inr d) e2,c⟩,r⟩
 | own y=>obtain⟨ob,e⟩:=x;exact⟨ob,k _ _ (.inl rfl) e⟩
 | xd fs=>obtain⟨mA,⟨od,es,ep,e,c⟩,r⟩:=x;exact⟨mA,⟨od,es,ep,k _ _ (.inl rfl) e,c⟩,r⟩
 | rng lo hi=>obtain⟨t,u,v,e⟩:=x;exact⟨t,u,v,k _ _ (.inl rfl) e⟩
 | frz ob u j=>obtain⟨e,q⟩:=x;exact⟨k _ _ (.inl rfl) e,j q⟩
 | tbl q =>
  obtain⟨ps,e,t,c⟩:=x;exact⟨ps,k a _ (.inl rfl) e,t,λpos cv i=>let ⟨b,oc,u,vs,t,e1,e2,e3⟩:=c pos cv i;⟨b,oc,u,vs,t,e1,ht _ _ trivial e2,e3⟩⟩
 | met f y =>
  have e:h.get? a=some (PySem.W.methodObj (.ref f) (.ref y)):=x;show h'.get? a=some (PySem.W.methodObj (.ref f) (.ref y));exact k a _ (.inl rfl) e
 | ext φ=>obtain⟨p,⟨o,e⟩,st⟩:=x;exact⟨st _ _ p λo q=>k _ _ (.inl rfl) q,⟨o,k _ _ (.inl rfl) e⟩,st⟩
theorem HOk.lt(x:HOk P w H h)(e:H a=some o):a<h.objs.size:=(x a o e).lt
theorem HOk.fresh(x:HOk P w H h)(e:h.objs.size<=a):H a=none:=by
 cases q:H a with
 | none=>rfl
 | some u=>exact absurd (IY (x.lt q) e) (JL _)
theorem HOk.kept(x:HOk P w H h)(k:∀b u,h.get? b=some u->h'.get? b=some u):HOk P w H h':=λa o e =>
 (x a o e).stay (λb u _ q=>k b u q) (λ_ q=>q) λ_ _ _ q=>q
theorem HOk.laid(x:HOk P w H h)(k:∀b u,h.get? b=some u->h'.get? b=some u)(f:h.objs.size<=a)(new:dB P w (upd H a o) h' a o):HOk P w (upd H a o) h':=λb u e=>by
 have hn:=x.fresh f;by_cases d:b=a;subst d;rw[aq] at e;cases e;exact new;rw[al d] at e;exact(x b u e).stay (λc v _ q=>k c v q) (λc q=>by rw[al (au q hn)];exact q) λc xs _ q=>by rw[al (au q hn)];exact q
end
def Rd(H:Hp)(a:ap)(u:HO):Prop:=H a=some u\/∃o,H a=some (.frz o u)
theorem Rd.ok{P:q3}{w:zb}{H:Hp}{h:bd}{a:ap}{u:HO}(r:Rd H a u)(x:HOk P w H h):dB P w H h a u:=by
 rcases r with r|⟨o,r⟩
 exact x a u r;obtain⟨_,q⟩:=x a _ r;exact q
def Mut:Option HO->Prop
 | some (.lst _)=>True
 | some (.dK _)=>True
 | some (.dT _)=>True
 | some (.set _ _)=>True
 | some (.ins _ _ _)=>True
 | some (.ext _)=>True
 | _=>False
section
variable {P:q3}{w:zb}{H:Hp}{h h':bd}{x e:ap}{o':HO}
theorem HOk.write(ok:HOk P w H h)(i:Mut (H x))(m:e=x\/H e=some (.own x))(k:∀b u,b≠e->h.get? b=some u->h'.get? b=some u)(l:∃u,h'.get? e=some u)
  (new:dB P w (upd H x o') h' x o'):HOk P w (upd H x o') h':=λb u q=>by
 have d:∀c y,H c=some (.own y)->c≠x:=λc y r z=>by subst z;rw[r] at i;exact i
 have g:∀c o,Fix o->H c=some o->c≠x:=λc o f r z=>by subst z;rw[r] at i;cases o <;> first|exact i|exact f
 by_cases j:b=x;subst j;rw[aq] at q;cases q;exact new;rw[al j] at q;by_cases a:b=e;have n:H b=some (.own x):=by rcases m with z|z;exact absurd (a.trans z) j;rw[a];exact z
 rw[q] at n;cases n;obtain⟨v,hv⟩:=l;exact⟨v,by rw[a];exact hv⟩;refine(ok b u q).stay (λc v hc r=>k c v ?_ r) (λc r=>by rw[al (d c b r)];exact r) λc xs f r=>by rw[al (g c xs f r)];exact r
 rcases hc with rfl|hc;exact a;rintro rfl;rcases m with z|z;exact d c b hc z;rw[hc] at z;cases z;exact j rfl
end
structure Un(fs ex:List ap)(H H':Hp)(h h':bd):Prop where
 keep:∀b o,h.get? b=some o->H b=none->b ∉ fs->b ∉ ex->h'.get? b=some o
 slot:∀b o,h.get? b=some o->H b=none->b∈fs->b ∉ ex->∃sl,h'.get? b=some { o with slots:=sl }
 free:∀b o,h.get? b=some o->H b=none->b ∉ ex->H' b=none
 there:∀b o,h.get? b=some o->b ∉ ex->∃o',h'.get? b=some o'
 tups:∀b xs,H b=some (.tup xs)->H' b=some (.tup xs)
 frzs:∀b o u,H b=some (.frz o u)->H' b=some (.frz o u)
 tbls:∀b q,H b=some (.tbl q)->H' b=some (.tbl q)
section
variable {fs ex:List ap}{H H1:Hp}{h h1 h':bd}{a x e:ap}{o:HO}
theorem Un.any(u:Un fs ex H H1 h h1){b:ap}{ob:Obj}(q:h.get? b=some ob)(n:H b=none)(hx:b ∉ ex):∃sl,h1.get? b=some { ob with slots:=sl }:=by by_cases a:b∈fs;exact u.slot b ob q n a hx;exact⟨ob.slots,u.keep b ob q n a hx⟩
theorem Un.kept(k:∀b u,h.get? b=some u->h'.get? b=some u):Un fs ex H H h h' :=
 ⟨λb ob q _ _ _=>k b ob q,λb ob q _ _ _=>⟨ob.slots,k b ob q⟩,λ_ _ _ n _=>n,λb ob q _=>⟨ob,k b ob q⟩,λ_ _ q=>q,λ_ _ _ q=>q,λ_ _ q=>q⟩
theorem Un.refl:Un fs ex H H h h:=Un.kept λ_ _ q=>q
theorem Un.laid(k:∀b u,h.get? b=some u->h'.get? b=some u)(c:h.objs.size<=a)(hn:H a=none):Un fs ex H (upd H a o) h h' where
 keep:=λb u q _ _ _=>k b u q
 slot:=λb u q _ _ _=>⟨u.slots,k b u q⟩
 free:=λb u q n _=>by rw[al (Jd (IY (IX q) c))];exact n
 there:=λb u q _=>⟨u,k b u q⟩
 tups:=λb xs q=>by rw[al (au q hn)];exact q
 frzs:=λb u xs q=>by rw[al (au q hn)];exact q
 tbls:=λb ps q=>by rw[al (au q hn)];exact q
theorem Un.write(c:Mut (H x))(i:e=x\/H e=some (.own x))(k:∀b u,b≠e->h.get? b=some u->h'.get? b=some u)(d:∃u,h'.get? e=some u):Un fs ex H (upd H x o) h h':=by
 have hx:∀b,H b=none->b≠x:=λb n z=>by subst z;rw[n] at c;exact c
 have g:∀b,H b=none->b≠e:=λb n z=>by
  subst z;rcases i with r|r;exact hx b n r;rw[n] at r;cases r
 have f:∀b u,H b=some u->¬Mut (some u)->b≠x:=λb u q nm z=>by subst z;rw[q] at c;exact nm c
 refine⟨λb u q n _ _=>k b u (g b n) q,λb u q n _ _=>⟨u.slots,k b u (g b n) q⟩,λb u q n _=>by rw[al (hx b n)];exact n,λb u q _=>?_,
  λb xs q=>by rw[al (f b _ q λz=>z)];exact q,λb u xs q=>by rw[al (f b _ q λz=>z)];exact q,λb ps q=>by rw[al (f b _ q λz=>z)];exact q⟩
 by_cases a:b=e;subst a;exact d;exact⟨u,k b u a q⟩
end
def trk(h:bd)(H:Hp):List ap:=(List.range h.objs.size).filter λa=>(H a).isSome
def vU(h:bd)(H:Hp):bd:=PySem.W.hideAll h (trk h H)
theorem uS(h:bd)(H:Hp):(vU h H).objs.size=h.objs.size:=PySem.W.hideAll_size _ _
theorem xD{h:bd}{H:Hp}{b:ap}{o:Obj}(e:h.get? b=some o)(n:H b=none):(vU h H).get? b=some o :=
 PySem.W.hideAll_get _ e λa=>by
  have q:(H b).isSome=true:=(Ji.mp a).2;rw[n] at q;simp at q
theorem A0{h:bd}{H:Hp}{b:ap}{o:Obj}(e:(vU h H).get? b=some o):h.get? b=some o/\H b=none:=by
 have e':h.get? b=some o:=PySem.W.of_hideAll (trk h H) e;refine⟨e',?_⟩;cases q:H b with
 | none=>rfl
 | some x =>
  have a:b∈trk h H:=Ji.mpr ⟨Jz.mpr (IX e'),by simp[q]⟩;have z:(vU h H).get? b=none:=PySem.W.hideAll_none (trk h H) a;rw[z] at e;cases e
def B6(g h:bd)(L:ap):List (ap×Obj):=(List.range h.objs.size).filterMap λa=>if a=L\/(g.get? a).isSome=true then none else (h.get? a).map λo=>(a,o)
def rest(g h:bd)(L d:ap):List (ap×Obj):=(B6 g h L).filter λp=>decide (p.1≠d)
structure Mod(K:ca)(mg:bx->Option as)(base:bd):Prop where
 kin:K.In base
 glob:base.Ns ky mg
 blt:∃mb,base.Ns K3 mb/\∀x:bx,x ≠ "__name__" -> mb x=KJ x
 nolimit:base.NoLimit
 bmain:∃bm ob,mg "__builtins__" = some (.ref bm)/\bm≠K3/\base.get? bm=some ob/\ob.cls=.type "module" /\ ob.dict=some K3/\ob.data=.plain
def d8:List bx:=["choices", "full_rows", "chain_plan", "least_ranks"]
def jb(K:ca)(T:ap)(q:bx):Prop:=∃x∈d8,∃f o fd c oc vs,cb K ky x=some (some (.ref f))/\K.lookup f=some o/\o.data=.func fd/\fd.code=.ref c /\
 K.lookup c=some oc/\oc.data=.fields vs/\vs[11]? = some (.ref T)/\q=x ++ ".<locals>.<lambda>"
def zE(K:ca)(H:Hp):Prop:=∀T q,jb K T q->H T=some (.tbl q)
structure Cx where
 prog:q3
 w : zb
 K : ca
 mg : bx->Option as
 base:bd
 A : Around
 N : List bx
 s₀ : ba
 H₀ : Hp
 env:Env
 outer:List Env
 stack:List Env
 ex : List ap
 fn : bx->Bool
 calm:Bool
 pn : List (ap×Obj)
 xe : as->ba->Prop
def frs(l:List Env):List ap:=l.filterMap (·.frame)
abbrev Cx.fs(X:Cx):List ap:=frs X.outer
def Vis(sc:KL)(x:bx):Prop:=sc.names.lookup x=some .local\/sc.names.lookup x=some .cell\/sc.names.lookup x=some .free
def Loc(sc:KL)(x:bx):Prop:=sc.names.lookup x=some .local\/sc.names.lookup x=some .cell
def IC(env:Env)(h:bd)(m:bx->Option as)(x:bx)(u:as):Prop :=
 (env.kindOf x=some .local/\m x=some u)\/((env.kindOf x=some .cell\/env.kindOf x=some .free)/\∃c,env.cells.lookup x=some c/\h.IsCell c (some u))
structure Cx.Ok(X:Cx):Prop where
 mod:Mod X.K X.mg X.base
 kind:X.env.scope.kind=.function
 glob:X.env.globals=ky
 blt:X.env.builtins=K3
 above:X.s₀.heap.objs.size<=X.env.locals
 inj:∀x y c,X.env.cells.lookup x=some c->X.env.cells.lookup y=some c->x=y
 has:∀x,(X.env.kindOf x=some .cell\/X.env.kindOf x=some .free)->∃c,X.env.cells.lookup x=some c
 cab:∀x c,X.fn x=true->X.env.cells.lookup x=some c->X.s₀.heap.objs.size<=c
 hd : X.calm=true->X.A.handled=none
 frames:X.A.frames=some X.stack
 stk:X.stack=X.outer\/(X.stack=X.env::X.outer/\X.env.frame=some X.env.locals)
 exf:∀b∈X.ex,b≠X.env.locals/\∀x c,X.env.cells.lookup x=some c->c≠b
 bs : ∀b o,X.base.get? b=some o->X.s₀.heap.get? b=some o/\X.H₀ b=none
 bsz:X.base.objs.size<=X.s₀.heap.objs.size
 noex:∀b o,X.base.get? b=some o->b ∉ X.ex
 exfs:∀b∈X.ex,b ∉ X.fs
 funs:X.s₀.heap.FunFrames X.base X.outer
 frf:∀b∈X.fs,X.H₀ b=none
 tab:zE X.K X.H₀
structure Inv(X:Cx)(pins:List (ap×Obj))(σ:List (Option V))(H:Hp)(s:ba):Prop where
 ok : X.Ok
 os : s.os=X.s₀.os
 bare:Qx s.gens
 base:Un X.fs X.ex X.H₀ H X.s₀.heap s.heap
 loc:∃m,s.heap.Ns X.env.locals m/\∀(i:Nat) (x:bx) (v:V),X.N[i]? = some x->σ[i]? = some (some v)->Vis X.env.scope x->∃u,be v u/\IC X.env s.heap m x u
 cell:∀x c,X.env.cells.lookup x=some c->∃v,s.heap.IsCell c v
 free:H X.env.locals=none
 freeC:∀x c,X.env.cells.lookup x=some c->H c=none
 pin:∀p∈X.pn++pins,s.heap.get? p.1=some p.2/\H p.1=none/\p.1≠X.env.locals/\p.1 ∉ X.fs/\∀v,p.2.data≠.cell v
 hok:HOk X.prog X.w H s.heap
 len:σ.length=X.N.length
section
variable {X:Cx}{pins:List (ap×Obj)}{σ:List (Option V)}{H H':Hp}{s:ba}{h':bd}
theorem Cx.Ok.nofr(ok:X.Ok){b:ap}{o:Obj}(e:X.base.get? b=some o):b ∉ X.fs:=λa=>by
 have:=(ok.funs.mem a).1;rw[e] at this;cases this
theorem Inv.bs(I:Inv X pins σ H s):∀b o,X.base.get? b=some o->s.heap.get? b=some o/\H b=none:=λb o e =>
 ⟨I.base.keep b o (I.ok.bs b o e).1 (I.ok.bs b o e).2 (I.ok.nofr e) (I.ok.noex b o e),I.base.free b o (I.ok.bs b o e).1 (I.ok.bs b o e).2 (I.ok.noex b o e)⟩
theorem Inv.bk(I:Inv X pins σ H s):∀b o,X.base.get? b=some o->s.heap.get? b=some o:=λb o e=>(I.bs b o e).1
theorem Inv.mod(I:Inv X pins σ H s):Mod X.K X.mg X.base:=I.ok.mod
theorem Inv.kIn(I:Inv X pins σ H s):X.K.In s.heap:=I.ok.mod.kin.keeps I.bk
theorem Inv.lt(I:Inv X pins σ H s):X.env.locals<s.heap.objs.size:=let ⟨_,hn,_⟩:=I.loc;hn.lt
theorem Inv.sz(I:Inv X pins σ H s):X.s₀.heap.objs.size<=s.heap.objs.size:=IQ I.ok.above (JW I.lt)
theorem Inv.nofs(I:Inv X pins σ H s){a:ap}(h:s.heap.objs.size<=a):a ∉ X.fs:=λb=>by
 obtain⟨_,o,ho,_⟩:=I.ok.funs.mem b;exact absurd (IY (IX ho) (IQ I.sz h)) (JL _)
theorem Inv.cne(I:Inv X pins σ H s):∀x c,X.env.cells.lookup x=some c->c≠X.env.locals:=λx c e z=>by
 obtain⟨v,o,ho,hd⟩:=I.cell x c e;obtain⟨m,⟨o',es,ep,a,b,_⟩,_⟩:=I.loc;rw[z,a] at ho;cases ho;rw[b] at hd;cases hd
theorem Inv.funs(I:Inv X pins σ H s):s.heap.FunFrames X.base X.outer:=by
 have all:∀(l:List Env),(∀b∈frs l,b∈X.fs)->X.s₀.heap.FunFrames X.base l->s.heap.FunFrames X.base l:=by
  intro l
  induction l with
  | nil=>intro _ _;trivial
  | cons env r d =>
   intro hs hl;obtain⟨hk,⟨L,o,a,hn,ho,hd⟩,f⟩:=hl;have hL:L∈X.fs:=hs L (by unfold frs;rw[List.filterMap_cons,a];exact IL);obtain⟨sl,e⟩:=I.base.slot L o ho (I.ok.frf L hL) hL λz=>I.ok.exfs L z hL;exact⟨hk,⟨L,_,a,hn,e,hd⟩,d (λb c=>hs b (by unfold frs;rw[List.filterMap_cons,a];exact IM _ c)) f⟩
 exact all X.outer (λ_ c=>c) I.ok.funs
theorem Inv.stack(I:Inv X pins σ H s):s.heap.FunFrames X.base X.stack:=by
 rcases I.ok.stk with e|⟨e,a⟩
 rw[e];exact I.funs;rw[e];obtain⟨m,hn,_⟩:=I.loc;refine .cons (by rw[I.ok.kind];decide) a hn ?_ I.funs;exact Heap.get?_none_of_le (IQ I.ok.bsz I.ok.above)
theorem Inv.stkSub(I:Inv X pins σ H s):∀b∈frs X.stack,b∈X.env.locals::X.fs:=λb a=>by
 rcases I.ok.stk with e|⟨e,c⟩
 rw[e] at a;exact IM _ a;rw[e] at a;unfold frs at a;rw[List.filterMap_cons,c] at a;exact a
theorem Inv.stkFree(I:Inv X pins σ H s):∀b∈frs X.stack,H b=none:=λb a=>by
 rcases IR.mp (I.stkSub b a) with e|a;rw[e];exact I.free;obtain⟨_,o,ho,_⟩:=I.ok.funs.mem a;exact I.base.free b o ho (I.ok.frf b a) λz=>I.ok.exfs b z a
theorem Inv.step{g':Array GenState}{t':Nat}{d':Drawn}{ch:List ap}(I:Inv X pins σ H s)
  (a:∀b∈ch,(b∈X.ex\/X.s₀.heap.objs.size<=b)/\b≠X.env.locals/\(∀x c,X.env.cells.lookup x=some c->c≠b)/\∀p∈X.pn++pins,p.1≠b)
  (keep:∀b o,b≠X.env.locals->b ∉ X.fs->b ∉ ch->s.heap.get? b=some o->H b=none->h'.get? b=some o)
  (slot:∀b o,b≠X.env.locals->b∈X.fs->b ∉ ch->s.heap.get? b=some o->H b=none->∃sl,h'.get? b=some { o with slots:=sl }) (free:∀b o,b ∉ ch->s.heap.get? b=some o->H b=none->H' b=none)
  (there:∀b o,b ∉ ch->s.heap.get? b=some o->∃o',h'.get? b=some o')
  (tups:∀b xs,H b=some (.tup xs)->H' b=some (.tup xs)) (frzs:∀b o u,H b=some (.frz o u)->H' b=some (.frz o u)) (tbls:∀b ps,H b=some (.tbl ps)->H' b=some (.tbl ps))
  (ns:∀m,s.heap.Ns X.env.locals m->h'.Ns X.env.locals m) (hok:HOk X.prog X.w H' h') (hg:Qx g') :
  Inv X pins σ H' { s with heap:=h',gens:=g',drawn:=d',toks:=t' }:=by
 have t:∀b o,X.s₀.heap.get? b=some o->b≠X.env.locals:=λb o e=>Jd (IY (IX e) I.ok.above);have h:∀b o,X.s₀.heap.get? b=some o->b ∉ X.ex->b ∉ ch:=λb o e hx j=>by
  rcases(a b j).1 with z|z;exact hx z;exact absurd (IY (IX e) z) (JL _)
 have f:∀x c,X.env.cells.lookup x=some c->∀v,s.heap.IsCell c v->h'.IsCell c v:=λx c e v ⟨o,ho,hd⟩=>by
  have g:c ∉ ch:=λz=>(a c z).2.2.1 x c e rfl;by_cases hc:c∈X.fs;obtain⟨sl,q⟩:=slot c o (I.cne x c e) hc g ho (I.freeC x c e);exact⟨_,q,hd⟩;exact⟨o,keep c o (I.cne x c e) hc g ho (I.freeC x c e),hd⟩
 refine⟨I.ok,I.os,hg,⟨λb o e n j hx=>?_,λb o e n j hx=>?_,λb o e n hx=>?_,λb o e hx=>?_,λb xs e=>tups b xs (I.base.tups b xs e),λb o xs e=>frzs b o xs (I.base.frzs b o xs e),λb ps e=>?_⟩,?_,λx c e=>?_,?_,λx c e=>?_,λp A=>?_,hok,I.len⟩;exact keep b o (t b o e) j (h b o e hx) (I.base.keep b o e n j hx) (I.base.free b o e n hx);obtain⟨sl,e1⟩:=I.base.slot b o e n j hx;obtain⟨y,e2⟩:=slot b _ (t b o e) j (h b o e hx) e1 (I.base.free b o e n hx);exact⟨y,e2⟩;obtain⟨o',e1⟩:=I.base.there b o e hx;exact free b o' (h b o e hx) e1 (I.base.free b o e n hx);obtain⟨o',e1⟩:=I.base.there b o e hx;exact there b o' (h b o e hx) e1;exact tbls b ps (I.base.tbls b ps e);obtain⟨m,hn,hl⟩:=I.loc;refine⟨m,ns m hn,λi x v e1 e2 e3=>?_⟩;obtain⟨u,r,l⟩:=hl i x v e1 e2 e3;refine⟨u,r,?_⟩;rcases l with l|⟨k,c,e,z⟩
 exact .inl l;exact .inr ⟨k,c,e,f x c e _ z⟩;obtain⟨v,z⟩:=I.cell x c e;exact⟨v,f x c e v z⟩;obtain⟨m,⟨o,_,_,ho,_⟩,_⟩:=I.loc;exact free _ o (λz=>(a _ z).2.1 rfl) ho I.free;obtain⟨v,o,ho,hd⟩:=I.cell x c e;exact free c o (λz=>(a c z).2.2.1 x c e rfl) ho (I.freeC x c e);obtain⟨e,n,ne,B,d⟩:=I.pin p A;have g:p.1 ∉ ch:=λz=>(a p.1 z).2.2.2 p A rfl;exact⟨keep p.1 p.2 ne B g e n,free p.1 p.2 g e n,ne,B,d⟩
theorem Inv.un{t':Nat}(I:Inv X pins σ H s)(u:Un X.fs [] H H' s.heap h')(hok:HOk X.prog X.w H' h'):Inv X pins σ H' { s with heap:=h',toks:=t' }:=by
 obtain⟨m,⟨o,es,ep,ho,r⟩,_⟩:=id I.loc;obtain⟨sl,hL⟩:=u.any ho I.free (by simp);exact I.step (g':=s.gens) (d':=s.drawn) (ch:=[]) (λ_ z=>nomatch z) (λb o _ c _ e n=>u.keep b o e n c (by simp)) (λb o _ c _ e n=>u.slot b o e n c (by simp)) (λb o _ e n=>u.free b o e n (by simp)) (λb o _ e=>u.there b o e (by simp)) u.tups u.frzs u.tbls (λh g=>by
  obtain⟨o',d,f,a,r'⟩:=g;rw[ho] at a;cases a;exact⟨_,d,f,hL,r'⟩) hok I.bare
theorem Inv.call{g':Array GenState}{t':Nat}{d':Drawn}{ch:List ap}(I:Inv X pins σ H s)(u:Un (frs X.stack) ch H H' s.heap h')(hok:HOk X.prog X.w H' h')(hg:Qx g')
  (a:∀b∈ch,(b∈X.ex\/X.s₀.heap.objs.size<=b)/\b≠X.env.locals/\(∀x c,X.env.cells.lookup x=some c->c≠b)/\∀p∈X.pn++pins,p.1≠b) :
  Inv X pins σ H' { s with heap:=h',gens:=g',drawn:=d',toks:=t' }:=by
 obtain⟨m,⟨o,es,ep,ho,r⟩,_⟩:=id I.loc;obtain⟨sl,hL⟩:=u.any ho I.free λz=>(a _ z).2.1 rfl;exact I.step (ch:=ch) a (λb o hL h hc e n=>u.keep b o e n (λz=>(IR.mp (I.stkSub b z)).elim hL h) hc) (λb o _ _ hc e n=>u.any e n hc) (λb o hc e n=>u.free b o e n hc) (λb o hc e=>u.there b o e hc) u.tups u.frzs u.tbls (λj i=>by
  obtain⟨o',f,g,d,r'⟩:=i;rw[ho] at d;cases d;exact⟨_,f,g,hL,r'⟩) hok hg
theorem Inv.turned{t':Nat}{it:ap}(I:Inv X pins σ H s)(k:∀b o,b≠it->s.heap.get? b=some o->h'.get? b=some o)(hn:H it=none)(hL:it≠X.env.locals)
  (h1:it∈X.ex\/X.s₀.heap.objs.size<=it) (h2:∀x c,X.env.cells.lookup x=some c->c≠it) (h3:∀p∈X.pn++pins,p.1≠it):Inv X pins σ H { s with heap:=h',toks:=t' }:=by
 have a:∀b u,H b=some u->b≠it:=λb u e z=>by rw[z,hn] at e;cases e
 refine I.step (g':=s.gens) (d':=s.drawn) (ch:=[it]) (λb d=>?_) (λb o _ _ hc e _=>k b o (λz=>hc (by simp[z])) e) (λb o _ _ hc e _=>⟨o.slots,k b o (λz=>hc (by simp[z])) e⟩) (λ_ _ _ _ n=>n)
  (λb o hc e=>⟨o,k b o (λz=>hc (by simp[z])) e⟩) (λ_ _ e=>e) (λ_ _ _ e=>e) (λ_ _ e=>e) (λm f=>?_) (λb u e=>?_) I.bare
 have e:b=it:=by simpa using d
 subst e;exact⟨h1,hL,h2,h3⟩;obtain⟨o,es,ep,ho,r⟩:=f;exact⟨o,es,ep,k _ o (Ne.symm hL) ho,r⟩;refine(I.hok b u e).stay (λc v hc q=>k c v ?_ q) (λ_ q=>q) λ_ _ _ q=>q;rcases hc with z|z;rw[z];exact a b u e;exact a c _ z
theorem Inv.tok(I:Inv X pins σ H s)(t:Nat):Inv X pins σ H { s with toks:=t }:=I.un (h':=s.heap) (t':=t) Un.refl I.hok
theorem Inv.kept{t':Nat}(I:Inv X pins σ H s)(k:∀b u,s.heap.get? b=some u->h'.get? b=some u):Inv X pins σ H { s with heap:=h',toks:=t' }:=I.un (Un.kept k) (I.hok.kept k)
theorem Inv.laid{a:ap}{o:HO}{t':Nat}(I:Inv X pins σ H s)(k:∀b u,s.heap.get? b=some u->h'.get? b=some u)(c:s.heap.objs.size<=a)(new:dB X.prog X.w (upd H a o) h' a o) :
  Inv X pins σ (upd H a o) { s with heap:=h',toks:=t' }:=I.un (Un.laid k c (I.hok.fresh c)) (I.hok.laid k c new)
theorem Inv.write{x e:ap}{o:HO}{t':Nat}(I:Inv X pins σ H s)(c:Mut (H x))(d:e=x\/H e=some (.own x))(k:∀b u,b≠e->s.heap.get? b=some u->h'.get? b=some u)(a:∃u,h'.get? e=some u)
  (new:dB X.prog X.w (upd H x o) h' x o):Inv X pins σ (upd H x o) { s with heap:=h',toks:=t' }:=I.un (Un.write c d k a) (I.hok.write c d k a new)
theorem Inv.pins_of{pins':List (ap×Obj)}(I:Inv X pins σ H s)(h:∀p∈pins',s.heap.get? p.1=some p.2/\H p.1=none/\p.1≠X.env.locals/\p.1 ∉ X.fs/\∀v,p.2.data≠.cell v):Inv X pins' σ H s :=
 ⟨I.ok,I.os,I.bare,I.base,I.loc,I.cell,I.free,I.freeC,λp a=>(II.mp a).elim (λz=>I.pin p (IJ _ z)) (h p),I.hok,I.len⟩
theorem qa{N:List bx}(hN:N.Nodup){i j:Nat}{x:bx}(a:N[i]? = some x)(b:N[j]? = some x):i=j:=by obtain⟨h1,e1⟩:=IN.mp a;obtain⟨h2,e2⟩:=IN.mp b;exact(List.getElem_inj hN).mp (e1.trans e2.symm)
theorem lf{M:Model}{A:Around}{E:as->ba->Prop}{i:Nat}{x:bx}{v:V}{u:as}{Q:Unit->ba->Prop}(I:Inv X pins σ H s)(hN:X.N.Nodup)(hi:X.N[i]? = some x)(hx:Loc X.env.scope x)(r:be v u)
  (h : ∀s',Inv X pins (σ.set i (some v)) H s'->(∃a,Heap.SameBut a s.heap s'.heap/\(a=X.env.locals\/X.env.cells.lookup x=some a))->Q () s') (S:X.fn x=true\/X.env.scope.names.lookup x=some .local:=by first|exact .inl rfl|exact .inr rfl|assumption):kw M A (storeName X.env x u) Q E s:=by
 obtain⟨m,hn,hl⟩:=id I.loc;have C:(X.env.scope.kind==.class || (X.env.scope.kind==.module&&X.env.locals != X.env.globals))=false:=by rw[I.ok.kind];rfl
 have l:i<σ.length:=by rw[I.len];exact(IN.mp hi).1
 have cne:=I.cne;have f:∀{a:ap}{h':bd},(∃o,s.heap.get? a=some o/\H a=none)->Heap.SameBut a s.heap h'->HOk X.prog X.w H h':=λ{a h'} T hs b ob e=>by
  obtain⟨_,_,g⟩:=T;refine(I.hok b ob e).stay (λc w' hc q=>(hs.2 c ?_).trans q) (λ_ q=>q) λ_ _ _ q=>q;rintro rfl;rcases hc with rfl|hc;rw[g] at e;cases e;rw[g] at hc;cases hc
 rcases hx with hk|hk;refine wpAny_storeName_local hk hn (λh' K hs=>?_) C;obtain⟨U,_,_,L,_⟩:=id hn;refine h _ ⟨I.ok,I.os,I.bare,⟨λb o e n t hx=>?_,λb o e n t hx=>?_,I.base.free,λb o e hx=>?_,I.base.tups,I.base.frzs,I.base.tbls⟩,⟨_,K,λj y v' e1 e2 e3=>?_⟩,λy c e=>?_,I.free,I.freeC,λp O=>?_,f ⟨U,L,I.free⟩ hs,by simpa using I.len⟩ ⟨_,hs,.inl rfl⟩;exact(hs.2 b (Jd (IY (IX e) I.ok.above))).trans (I.base.keep b o e n t hx);obtain⟨sl,e1⟩:=I.base.slot b o e n t hx;exact⟨sl,(hs.2 b (Jd (IY (IX e) I.ok.above))).trans e1⟩;obtain⟨o',e1⟩:=I.base.there b o e hx;exact⟨o',(hs.2 b (Jd (IY (IX e) I.ok.above))).trans e1⟩;by_cases hj:j=i;subst hj;rw[hi] at e1;cases e1;rw[Jc l] at e2;cases e2;exact⟨u,r,.inl ⟨hk,by simp⟩⟩;rw[Je (Ne.symm hj)] at e2;obtain⟨P,r',q⟩:=hl j y v' e1 e2 e3;refine⟨P,r',?_⟩;rcases q with⟨k,e⟩|⟨k,c,e,z⟩
 refine .inl ⟨k,?_⟩;have:y≠x:=λe=>hj (qa hN e1 (e▸hi));simp[this,e];exact .inr ⟨k,c,e,z.sameBut hs (cne y c e)⟩;obtain⟨w',z⟩:=I.cell y c e;exact⟨w',z.sameBut hs (cne y c e)⟩;obtain⟨e,n,ne,R,d⟩:=I.pin p O;exact⟨(hs.2 p.1 ne).trans e,n,ne,R,d⟩;have B:X.fn x=true:=by rcases S with z|z;exact z;rw[z] at hk;cases hk
 obtain⟨c,hc⟩:=I.ok.has x (.inl hk);obtain⟨w',z⟩:=I.cell x c hc;refine wpAny_storeName_cell I.ok.kind hk hc z (λh' D hs=>?_);obtain⟨oc,F,G⟩:=id z;refine h { s with heap:=h' } ⟨I.ok,I.os,I.bare,⟨λb o e n t hx=>?_,λb o e n t hx=>?_,I.base.free,λb o e hx=>?_,I.base.tups,I.base.frzs,I.base.tbls⟩,⟨m,hn.sameBut hs (Ne.symm (cne x c hc)),λj y v' e1 e2 e3=>?_⟩,λy c' e=>?_,I.free,I.freeC,λp O=>?_,f ⟨oc,F,I.freeC x c hc⟩ hs,by simpa using I.len⟩ ⟨c,hs,.inr hc⟩;exact(hs.2 b (Jd (IY (IX e) (I.ok.cab x c B hc)))).trans (I.base.keep b o e n t hx);obtain⟨sl,e1⟩:=I.base.slot b o e n t hx;exact⟨sl,(hs.2 b (Jd (IY (IX e) (I.ok.cab x c B hc)))).trans e1⟩;obtain⟨o',e1⟩:=I.base.there b o e hx;exact⟨o',(hs.2 b (Jd (IY (IX e) (I.ok.cab x c B hc)))).trans e1⟩;by_cases hj:j=i;subst hj;rw[hi] at e1;cases e1;rw[Jc l] at e2;cases e2;exact⟨u,r,.inr ⟨.inl hk,c,hc,D⟩⟩;rw[Je (Ne.symm hj)] at e2;obtain⟨P,r',q⟩:=hl j y v' e1 e2 e3;refine⟨P,r',?_⟩;rcases q with q|⟨k,c',e,W⟩
 exact .inl q;refine .inr ⟨k,c',e,W.sameBut hs ?_⟩;rintro rfl;exact hj (qa hN e1 (I.ok.inj _ _ _ e hc▸hi));by_cases J:c'=c;subst J;exact⟨_,D⟩;obtain⟨Y,z2⟩:=I.cell y c' e;exact⟨Y,z2.sameBut hs J⟩;obtain⟨e,n,ne,R,d⟩:=I.pin p O;refine⟨(hs.2 p.1 ?_).trans e,n,ne,R,d⟩;intro q;rw[q,F] at e;have Z:oc=p.2:=Option.some.inj e;exact d w' (by rw[<-Z];exact G)
theorem pz{M:Model}{A:Around}{E:as->ba->Prop}{i:Nat}{x:bx}{v:V}{u:as}{Q:Unit->ba->Prop}(I:Inv X pins σ H s)(hN:X.N.Nodup)(hi:X.N[i]? = some x)(hx:Loc X.env.scope x)(r:be v u)
  (h : ∀s',Inv X pins (σ.set i (some v)) H s'->Q () s') (a:X.fn x=true\/X.env.scope.names.lookup x=some .local:=by first|exact .inl rfl|exact .inr rfl|assumption):kw M A (storeName X.env x u) Q E s :=
 lf I hN hi hx r (λs' b _=>h s' b) a
theorem Inv.call'{s':ba}{ch:List ap}(I:Inv X pins σ H s)(ho:s'.os=s.os)(u:Un (frs X.stack) ch H H' s.heap s'.heap)(hok:HOk X.prog X.w H' s'.heap)(hg:Qx s'.gens)
  (a:∀b∈ch,(b∈X.ex\/X.s₀.heap.objs.size<=b)/\b≠X.env.locals/\(∀x c,X.env.cells.lookup x=some c->c≠b)/\∀p∈X.pn++pins,p.1≠b):Inv X pins σ H' s':=by obtain⟨h',g',d',t',o'⟩:=s';have e:o'=s.os:=ho;subst e;exact I.call (g':=g') (t':=t') (d':=d') u hok hg a
end
abbrev XK:=as->Option ap->Hp->Prop
abbrev St:=List (Option V)
abbrev VK:=V->Hp->Prop
abbrev TE:=St->Hp->VK->Prop
abbrev TT:=St->Hp->(Bool->Hp->Prop)->Prop
abbrev TA:=St->Hp->(List V->Hp->Prop)->Prop
structure zH where
 nx : St->Hp->Prop
 rt : VK
 bk : St->Hp->Prop:=λ_ _=>False
 ct : St->Hp->Prop:=λ_ _=>False
abbrev TS:=zH->St->Hp->Prop
def EP(X:Cx)(pins:List (ap×Obj))(σ:St)(Q:VK)(u:as)(s':ba):Prop:=∃v H',Inv X pins σ H' s'/\be v u/\Q v H'
def TP(X:Cx)(pins:List (ap×Obj))(σ:St)(Q:Bool->Hp->Prop)(b:Bool)(s':ba):Prop:=∃H',Inv X pins σ H' s'/\Q b H'
def AP(X:Cx)(pins:List (ap×Obj))(σ:St)(Q:List V->Hp->Prop)(us:List as)(s':ba):Prop:=∃vs H',Inv X pins σ H' s'/\aH vs us/\Q vs H'
def SP(X:Cx)(pins:List (ap×Obj))(D:zH)(f:Flow)(s':ba):Prop :=
 match f with
 | .next=>∃σ' H',Inv X pins σ' H' s'/\D.nx σ' H'
 | .brk=>∃σ' H',Inv X pins σ' H' s'/\D.bk σ' H'
 | .cont=>∃σ' H',Inv X pins σ' H' s'/\D.ct σ' H'
 | .ret u=>∃v σ' H',Inv X pins σ' H' s'/\be v u/\D.rt v H'
def PE(X:Cx)(e:bb)(t:TE):Prop :=
 ∀(pins:List (ap×Obj)) (s:ba) (σ:St) (H:Hp) (Q:VK),Inv X pins σ H s->t σ H Q->kw (qb X.prog X.w) X.A (eval e X.env) (EP X pins σ Q) X.xe s
def PT(X:Cx)(e:bb)(t:TT):Prop :=
 ∀(pins:List (ap×Obj)) (s:ba) (σ:St) (H:Hp) (Q:Bool->Hp->Prop),Inv X pins σ H s->t σ H Q->kw (qb X.prog X.w) X.A (QF e X.env (eval e X.env)) (TP X pins σ Q) X.xe s
def PW(X:Cx)(e:bb)(t:TT):Prop :=
 ∀(a:Sem as) (pins:List (ap×Obj)) (s:ba) (σ:St) (H:Hp) (Q:Bool->Hp->Prop),Inv X pins σ H s->t σ H Q->kw (qb X.prog X.w) X.A (QF e X.env a) (TP X pins σ Q) X.xe s
theorem PW.pt{X:Cx}{e:bb}{t:TT}(h:PW X e t):PT X e t:=h _
def PA(X:Cx)(es:List bb)(t:TA):Prop :=
 ∀(pos:Pos) (pins:List (ap×Obj)) (s:ba) (σ:St) (H:Hp) (Q:List V->Hp->Prop),Inv X pins σ H s->t σ H Q->kw (qb X.prog X.w) X.A (spliced (ze pos (kq es X.env))) (AP X pins σ Q) X.xe s
def PS(X:Cx)(st:Stmt)(t:TS):Prop :=
 ∀(pins:List (ap×Obj)) (s:ba) (σ:St) (H:Hp) (D:zH),Inv X pins σ H s->t D σ H->kw (qb X.prog X.w) X.A (exec st X.env) (SP X pins D) X.xe s
def PSs(X:Cx)(st:List Stmt)(t:TS):Prop :=
 ∀(pins:List (ap×Obj)) (s:ba) (σ:St) (H:Hp) (D:zH),Inv X pins σ H s->t D σ H->kw (qb X.prog X.w) X.A (execs st X.env) (SP X pins D) X.xe s
theorem thn{α:Type}{t:Sem α}{Q b:α->ba->Prop}{M:Model}{A:Around}{E:as->ba->Prop}{s:ba}(h:kw M A t Q E s)(c:∀a s,Q a s->b a s):kw M A t b E s:=z3 h c λ_ _ x=>x
section
variable {X:Cx}
def vR(i:Nat):TE:=λσ H Q=>∃v,σ[i]? = some (some v)/\Q v H
def tC(v:V):TE:=λ_ H Q=>Q v H
theorem bu{i:Nat}{x:bx}{pos:Pos}(hN:X.N[i]? = some x)(hv:Vis X.env.scope x)(hd:(x==("__debug__" : bx))=false:=by decide)(b:(x==("__classdict__" : bx))=false:=by decide):PE X (.Name x pos) (vR i):=by
 intro pins s σ H Q I h;obtain⟨v,e,h⟩:=h;obtain⟨m,hn,hl⟩:=I.loc;obtain⟨u,r,l⟩:=hl i x v hN e hv;have fin:EP X pins σ Q u s:=⟨v,H,I,r,h⟩
 rcases l with⟨hk,d⟩|⟨hk,c,hc,a⟩
 exact wpAny_Name (wpAny_loadName_local I.ok.kind hk hn d fin) hd;rcases hk with hk|hk;exact wpAny_Name (wpAny_loadName_cell I.ok.kind hk hc a fin) hd;exact wpAny_Name (wpAny_loadName_free I.ok.kind hk hc a fin b) hd
theorem lF{i j pos}:PE X (.Constant (.int i) j pos) (tC (.int i)):=λ_ _ _ H _ I h=>wpAny_Constant_int ⟨.int i,H,I.tok _,⟨_,rfl⟩,h⟩
theorem FS{b j pos}:PE X (.Constant (.bool b) j pos) (tC (.bl b)):=λ_ _ _ H _ I h=>Constant_bool ⟨.bl b,H,I,rfl,h⟩
theorem Do{j pos}:PE X (.Constant .none j pos) (tC .non):=λ_ _ _ H _ I h=>Constant_none ⟨.non,H,I,rfl,h⟩
theorem yN{x j pos}:PE X (.Constant (.str x) j pos) (tC (.str x)):=λ_ _ _ H _ I h=>Calls.Constant_str ⟨.str x,H,I.tok _,⟨_,rfl⟩,h⟩
def Gl(X:Cx)(x:bx):Prop:=X.env.kindOf x=some .globalImplicit
theorem oK{E:as->ba->Prop}{pins:List (ap×Obj)}{s:ba}{σ:St}{H:Hp}{x:bx}{u:as}{pos:Pos}{Q:as->ba->Prop}(I:Inv X pins σ H s)(hg:Gl X x)(a:X.mg x=some u)(h:Q u s)
  (hd:(x==("__debug__" : bx))=false:=by decide):kw (qb X.prog X.w) X.A (eval (.Name x pos) X.env) Q E s :=
 Calls.Name_function_global I.ok.kind hg (Calls.loadGlobal_global (by rw[I.ok.glob];exact I.mod.glob.keeps I.bk) a h) hd
theorem fR{E:as->ba->Prop}{pins:List (ap×Obj)}{s:ba}{σ:St}{H:Hp}{x:bx}{u:as}{pos:Pos}{Q:as->ba->Prop}(I:Inv X pins σ H s)(hg:Gl X x)(a:X.mg x=none)(hv:KJ x=some u)(h:Q u s)
  (hn:x ≠ "__name__" := by decide) (hd:(x==("__debug__" : bx))=false:=by decide):kw (qb X.prog X.w) X.A (eval (.Name x pos) X.env) Q E s:=by obtain⟨mb,h1,h2⟩:=I.mod.blt;exact Calls.Name_function_global I.ok.kind hg (Calls.loadGlobal_builtin (by rw[I.ok.glob];exact I.mod.glob.keeps I.bk) a (by rw[I.ok.blt];exact h1.keeps I.bk) ((h2 x hn).trans hv) h) hd
theorem ud{x:bx}{v:V}{u:as}{pos:Pos}(hg:Gl X x)(a:X.mg x=some u)(r:be v u)(hd:(x==("__debug__" : bx))=false:=by decide):PE X (.Name x pos) (tC v) :=
 λ_ _ _ H _ I h=>oK I hg a ⟨v,H,I,r,h⟩ hd
theorem AR{x:bx}{v:V}{u:as}{pos:Pos}(hg:Gl X x)(a:X.mg x=none)(hv:KJ x=some u)(r:be v u)(hn:x ≠ "__name__" := by decide)(hd:(x==("__debug__" : bx))=false:=by decide):PE X (.Name x pos) (tC v) :=
 λ_ _ _ H _ I h=>fR I hg a hv ⟨v,H,I,r,h⟩ hn hd
variable {a b:bb}{ta tb:TE}{pos:Pos}
def tB(t:TE):TT:=λσ H Q=>t σ H λx H1=>∃c,x=.bl c/\Q c H1
theorem Da{e:bb}{t:TE}(h:PE X e t)(c:∀a,QF e X.env a=(do let v <-a;K2 e.pos;KI [v] (Ze v)):=by intro _;rfl):PT X e (tB t):=by intro pins s σ H Q I hw;refine isTrue_plain (thn (h pins s σ H _ I hw) λv s1 b=>?_) (c _);obtain⟨x,H1,f,g,i⟩:=b;obtain⟨d,rfl,q⟩:=i;cases g;exact KB ⟨H1,f,q⟩
variable {tA tB':TT}{rest:List bb}
def HI(t u:TT):TT:=λσ H Q=>t σ H λc H1=>if c=true then u σ H1 Q else Q false H1
def tOr(t u:TT):TT:=λσ H Q=>t σ H λc H1=>if c=true then Q true H1 else u σ H1 Q
def HE(t:TT):TT:=λσ H Q=>t σ H λc H1=>Q (!c) H1
theorem Av(b:PT X a tA):PW X (.BoolOp .And [a] pos) tA:=by
 intro wh pins s σ H Q I h;refine isTrue_and (thn (b pins s σ H Q I h) λc s1 e=>?_);cases c with
 | true=>exact isTrue_and_nil e
 | false=>exact e
theorem C8(b:PT X a tA):PW X (.BoolOp .Or [a] pos) tA:=by
 intro wh pins s σ H Q I h;refine isTrue_or (thn (b pins s σ H Q I h) λc s1 e=>?_);cases c with
 | false=>exact isTrue_or_nil e
 | true=>exact e
theorem C9(g:PT X a tA)(i:PW X (.BoolOp .And (b::rest) pos) tB'):PW X (.BoolOp .And (a::b::rest) pos) (HI tA tB'):=by
 intro wh pins s σ H Q I h;refine isTrue_and (thn (g pins s σ H _ I h) λc s1 d=>?_);obtain⟨H1,e,f⟩:=d;cases c with
 | true=>exact i wh pins s1 σ H1 Q e f
 | false=>exact⟨H1,e,f⟩
theorem FQ(g:PT X a tA)(i:PW X (.BoolOp .Or (b::rest) pos) tB'):PW X (.BoolOp .Or (a::b::rest) pos) (tOr tA tB'):=by
 intro wh pins s σ H Q I h;refine isTrue_or (thn (g pins s σ H _ I h) λc s1 d=>?_);obtain⟨H1,e,f⟩:=d;cases c with
 | true=>exact⟨H1,e,f⟩
 | false=>exact i wh pins s1 σ H1 Q e f
theorem Db(b:PT X a tA):PT X (.UnaryOp .Not a pos) (HE tA):=by intro pins s σ H Q I h;exact isTrue_not (b pins s σ H (λc H1=>Q (!c) H1) I h)
def Fx(ta tb:TE):TE:=λσ H Q=>ta σ H λx H1=>∃c,x=.bl c/\if c=true then tb σ H1 Q else Q (.bl false) H1
theorem Dn{op}{t:TE}(h:PE X a t):PE X (.BoolOp op [a] pos) t:=λpins s σ H Q I hw=>BoolOp_one (h pins s σ H Q I hw)
theorem Dr(g:PE X a ta)(i:PE X (.BoolOp .And (b::rest) pos) tb):PE X (.BoolOp .And (a::b::rest) pos) (Fx ta tb):=by
 intro pins s σ H Q I h;refine BoolOp_and (thn (g pins s σ H _ I h) λv s1 e=>?_);obtain⟨x,H1,f,j,d⟩:=e;obtain⟨c,rfl,d⟩:=d;cases j;refine KB ?_;cases c with
 | true=>exact i pins s1 σ H1 Q f d
 | false=>exact⟨.bl false,H1,f,rfl,d⟩
def tIf(t:TT)(ta tb:TE):TE:=λσ H Q=>t σ H λc H1=>if c=true then ta σ H1 Q else tb σ H1 Q
theorem wU{c:bb}(hc:PT X c tA)(i:PE X a ta)(j:PE X b tb):PE X (.IfExp c a b pos) (tIf tA ta tb):=by
 intro pins s σ H Q I h;refine wpAny_IfExp (thn (hc pins s σ H _ I h) λd s1 e=>?_);obtain⟨H1,f,g⟩:=e;cases d with
 | true=>exact i pins s1 σ H1 Q f g
 | false=>exact j pins s1 σ H1 Q f g
end
def SqL(K:ca)(H:Hp)(a:ap)(xs:List V):Prop :=
 Rd H a (.lst xs) \/
  ∃(o:Obj) (b:Array as) (n:Nat),K.lookup a=some o/\o.cls=.type "list" /\ o.dict=none/\o.data=.seq b n/\b.size<=sizeLine/\aH xs b.toList
def SqT(K:ca)(H:Hp)(a:ap)(xs:List V):Prop :=
 Rd H a (.tup xs) \/
  ∃(o:Obj) (b:Array as) (n:Nat),K.lookup a=some o/\(o.cls=.type "tuple" /\ o.dict=none)/\o.data=.seq b n/\b.size<=sizeLine/\aH xs b.toList
def Iz:as->Option V
 | .none=>some .non
 | .bool b=>some (.bl b)
 | .int i _=>some (.int i)
 | .str x _=>some (.str x)
 | .bytes b _=>some (.byt b)
 | .float b _=>some (.flt b)
 | .ref a=>some (.ref a)
 | .type n=>some (.ty n)
 | _=>none
theorem be.abs{x:V}{u:as}(r:be x u):Iz u=some x:=by
 cases x with
 | non=>cases r;rfl
 | bl _=>cases r;rfl
 | int _=>obtain⟨t,rfl⟩:=r;rfl
 | str _=>obtain⟨t,rfl⟩:=r;rfl
 | byt _=>obtain⟨t,rfl⟩:=r;rfl
 | flt _=>obtain⟨t,rfl⟩:=r;rfl
 | ref _=>cases r;rfl
 | ty _=>cases r;rfl
theorem be.inj{x y:V}{u:as}(r:be x u)(q:be y u):x=y:=Option.some.inj (r.abs.symm.trans q.abs)
theorem aH.inj{xs ys:List V}{us:List as}(h:aH xs us):aH ys us->xs=ys:=by
 induction h generalizing ys with
 | nil =>
  intro q;cases q;rfl
 | cons r t a =>
  intro q;cases q with
  | cons r' t'=>rw[r.inj r',a t']
section
variable {X:Cx}{pins:List (ap×Obj)}{σ:St}{H:Hp}{s:ba}{a:ap}{xs ys:List V}
theorem SqL.of{K:ca}(h:H a=some (.lst xs)):SqL K H a xs:=.inl (.inl h)
theorem Inv.list(I:Inv X pins σ H s)(h:SqL X.K H a xs):∃b:List as,aH xs b/\PlainL s.heap a b.toArray/\xs.length<=sizeLine:=by
 rcases h with h|⟨o,b,n,hk,hc,hd,hs,hz,r⟩
 obtain⟨z,b,n,r,e⟩:=h.ok I.hok;exact⟨b,r,⟨_,n,e,rfl,rfl,rfl⟩,z⟩;refine⟨b.toList,r,⟨o,n,I.kIn a o hk,hc,hd,by simpa using hs⟩,?_⟩;have e:=r.length;simp only[Array.length_toList] at e;omega
theorem Inv.tuple(I:Inv X pins σ H s)(h:SqT X.K H a xs):∃b:List as,aH xs b/\IsTup s.heap a b.toArray/\xs.length<=sizeLine:=by
 rcases h with h|⟨o,b,n,hk,hc,hs,hz,r⟩
 obtain⟨z,b,r,p⟩:=h.ok I.hok;exact⟨b,r,p.is,z⟩;refine⟨b.toList,r,⟨o,I.kIn a o hk,hc.1,n,by simpa using hs⟩,?_⟩;have e:=r.length;simp only[Array.length_toList] at e;omega
theorem Inv.tupleN(I:Inv X pins σ H s)(h:SqT X.K H a xs):∃b:List as,aH xs b/\vL s.heap a b.toArray:=by
 rcases h with h|⟨o,b,n,hk,hc,hs,hz,r⟩
 obtain⟨z,b,r,p⟩:=h.ok I.hok;exact⟨b,r,p⟩;exact⟨b.toList,r,⟨o,I.kIn a o hk,hc.1,⟨n,by simpa using hs⟩,hc.2⟩⟩
theorem Inv.list_inj(I:Inv X pins σ H s)(h:SqL X.K H a xs)(h':SqL X.K H a ys):xs=ys:=by
 obtain⟨b,r,⟨o,n,e,_,_,d⟩,_⟩:=I.list h;obtain⟨its',r',⟨o',c,e',_,_,d'⟩,_⟩:=I.list h';rw[e] at e';cases e';rw[d] at d';injection d' with d1 _;have:b=its':=by simpa using congrArg Array.toList d1
 subst this;exact r.inj r'
theorem Inv.tuple_inj(I:Inv X pins σ H s)(h:SqT X.K H a xs)(h':SqT X.K H a ys):xs=ys:=by
 obtain⟨b,r,⟨o,e,_,n,d⟩,_⟩:=I.tuple h;obtain⟨its',r',⟨o',e',_,c,d'⟩,_⟩:=I.tuple h';rw[e] at e';cases e';rw[d] at d';injection d' with d1 _;have:b=its':=by simpa using congrArg Array.toList d1
 subst this;exact r.inj r'
end
abbrev Cx.wish(X:Cx)(E:as->ba->Prop):Cx:={ X with xe:=E }
abbrev Cx.nox(X:Cx):Cx:=X.wish λ_ _=>False
theorem Cx.Ok.wish{X:Cx}(ok:X.Ok)(E:as->ba->Prop):(X.wish E).Ok :=
 ⟨ok.mod,ok.kind,ok.glob,ok.blt,ok.above,ok.inj,ok.has,ok.cab,ok.hd,ok.frames,ok.stk,ok.exf,ok.bs,ok.bsz,ok.noex,ok.exfs,ok.funs,ok.frf,ok.tab⟩
theorem Cx.Ok.unwish{X:Cx}{E:as->ba->Prop}(ok:(X.wish E).Ok):X.Ok :=
 ⟨ok.mod,ok.kind,ok.glob,ok.blt,ok.above,ok.inj,ok.has,ok.cab,ok.hd,ok.frames,ok.stk,ok.exf,ok.bs,ok.bsz,ok.noex,ok.exfs,ok.funs,ok.frf,ok.tab⟩
section
variable {X:Cx}{pins:List (ap×Obj)}{σ:St}{H:Hp}{s:ba}{E:as->ba->Prop}
theorem Inv.wish(I:Inv X pins σ H s)(E:as->ba->Prop):Inv (X.wish E) pins σ H s:=⟨I.ok.wish E,I.os,I.bare,I.base,I.loc,I.cell,I.free,I.freeC,I.pin,I.hok,I.len⟩
theorem Inv.unwish(I:Inv (X.wish E) pins σ H s):Inv X pins σ H s:=⟨I.ok.unwish,I.os,I.bare,I.base,I.loc,I.cell,I.free,I.freeC,I.pin,I.hok,I.len⟩
theorem SP.unwish{D:zH}{f:Flow}{s':ba}(h:SP (X.wish E) pins D f s'):SP X pins D f s':=by
 cases f with
 | next=>obtain⟨σ',H',I,q⟩:=h;exact⟨σ',H',I.unwish,q⟩
 | brk=>obtain⟨σ',H',I,q⟩:=h;exact⟨σ',H',I.unwish,q⟩
 | cont=>obtain⟨σ',H',I,q⟩:=h;exact⟨σ',H',I.unwish,q⟩
 | ret u=>obtain⟨v,σ',H',I,r,q⟩:=h;exact⟨v,σ',H',I.unwish,r,q⟩
theorem PSs.nox{st:List Stmt}{t:TS}(h:PSs X.nox st t):PSs X st t:=λpins s σ H D I hw =>
 z3 (h pins s σ H D (I.wish _) hw) (λ_ _ q=>q.unwish) λ_ _ z=>False.elim z
end
section
variable {X:Cx}{st:Stmt}{rest:List Stmt}{t u:TS}{e:bb}{te:TE}{pos:Pos}
def CB:TS:=λD σ H=>D.nx σ H
def GT(t u:TS):TS:=λD σ H=>t { D with nx:=u D } σ H
theorem tV:PSs X [] CB:=λ_ _ σ H _ I h=>Qy ⟨σ,H,I,h⟩
theorem gW(h1:PS X st t)(h2:PSs X rest u):PSs X (st::rest) (GT t u):=by
 intro pins s σ H D I h;refine QY (thn (h1 pins s σ H { D with nx:=u D } I h) λf s1 q=>?_);cases f with
 | next =>
  obtain⟨σ',H',a,q⟩:=q;exact h2 pins s1 σ' H' D a q
 | ret v=>exact q
 | brk=>exact q
 | cont=>exact q
theorem j6(h1:PS X st t):PSs X [st] t:=by
 intro pins s σ H D I h;refine QY (thn (h1 pins s σ H D I h) λf s1 q=>?_);cases f with
 | next=>exact Qy q
 | ret v=>exact q
 | brk=>exact q
 | cont=>exact q
def Fw:TS:=λD σ H=>D.ct σ H
theorem om:PS X (.Continue pos) Fw:=λ_ _ σ H _ I h=>wpAny_Continue ⟨σ,H,I,h⟩
theorem Inv.quiet{pins:List (ap×Obj)}{σ:St}{H:Hp}{s:ba}(I:Inv X pins σ H s):interactive X.env=false:=by simp[interactive,I.ok.kind]
def CC(te:TE):TS:=λD σ H=>te σ H λ_ H1=>D.nx σ H1
theorem tW(a:PE X e te)(hs:Qn e none pos.line X.env=pure false:=by rfl):PS X (.Expr e pos) (CC te):=by intro pins s σ H D I h;exact wpAny_Expr_any (thn (a pins s σ H _ I h) λv s1 ⟨x,H1,b,d,c⟩=>⟨σ,H1,b,c⟩) I.quiet hs
def HD(te:TE):TS:=λD σ H=>te σ H D.rt
theorem Dc(a:PE X e te):PS X (.Return (some e) pos) (HD te):=by intro pins s σ H D I h;exact wpAny_Return_some (thn (a pins s σ H _ I h) λv s1 ⟨x,H1,b,c,d⟩=>⟨x,σ,H1,b,c,d⟩)
def GU(c:TT)(t u:TS):TS:=λD σ H=>c σ H λb H1=>if b=true then t D σ H1 else u D σ H1
theorem De{c:bb}{a b:List Stmt}{tc:TT}(hc:PT X c tc)(i:PSs X a t)(j:PSs X b u):PS X (.If c a b pos) (GU tc t u):=by
 intro pins s σ H D I h;refine wpAny_If (thn (hc pins s σ H _ I h) λd s1 e=>?_);obtain⟨H1,f,g⟩:=e;cases d with
 | true=>exact i pins s1 σ H1 D f g
 | false=>exact j pins s1 σ H1 D f g
def yp:TS:=λ_ _ _=>False
theorem wN:PS X st yp:=λ_ _ _ _ _ _ h=>h.elim
end
abbrev TG:=V->St->Hp->(St->Hp->Prop)->Prop
abbrev TGs:=List V->St->Hp->(St->Hp->Prop)->Prop
def PG(X:Cx)(a:bb)(t:TG):Prop :=
 ∀(pins:List (ap×Obj)) (s:ba) (σ:St) (H:Hp) (v:V) (u:as) (Q:St->Hp->Prop),Inv X pins σ H s->be v u->t v σ H Q ->
  kw (qb X.prog X.w) X.A (Qm a X.env u) (λ_ s'=>∃σ' H',Inv X pins σ' H' s'/\Q σ' H') X.xe s
def PGs(X:Cx)(ts:List bb)(t:TGs):Prop :=
 ∀(pins:List (ap×Obj)) (s:ba) (σ:St) (H:Hp) (vs:List V) (us:List as) (Q:St->Hp->Prop),Inv X pins σ H s->aH vs us->t vs σ H Q ->
  kw (qb X.prog X.w) X.A (assignInOrder ((KH ts X.env).map (·.2)) us) (λ_ s'=>∃σ' H',Inv X pins σ' H' s'/\Q σ' H') X.xe s
abbrev EJ:=V->V->V->Hp->(Hp->Prop)->Prop
def Fk(X:Cx)(t:EJ):Prop :=
 ∀(pins:List (ap×Obj)) (s:ba) (σ:St) (H:Hp) (o i v:V) (ov iv u:as) (Q:Hp->Prop),Inv X pins σ H s->be o ov->be i iv->be v u->t o i v H Q ->
  kw (qb X.prog X.w) X.A (Q9 ov iv u) (λ_ s'=>∃H',Inv X pins σ H' s'/\Q H') X.xe s
section
variable {X:Cx}{pos:Pos}
def uV(i:Nat):TG:=λv σ H Q=>Q (σ.set i (some v)) H
theorem AI{i:Nat}{x:bx}(hN:X.N.Nodup)(hi:X.N[i]? = some x)(hx:Loc X.env.scope x)(a:X.fn x=true\/X.env.scope.names.lookup x=some .local:=by first|exact .inl rfl|exact .inr rfl|assumption):PG X (.Name x pos) (uV i):=by intro pins s σ H v u Q I r h;exact wpAny_assign_Name (pz I hN hi hx r (λs' b=>⟨_,H,b,h⟩) a)
def Ip:TGs:=λvs σ H Q=>vs=[]/\Q σ H
def Gf(t:TG)(u:TGs):TGs:=λvs σ H Q=>∃v r,vs=v::r/\t v σ H λσ' H'=>u r σ' H' Q
theorem AH:PGs X [] Ip:=by intro pins s σ H vs us Q I r h;obtain⟨e,h⟩:=h;subst e;cases r;exact assignInOrder_nil ⟨σ,H,I,h⟩
theorem wQ{e:bb}{es:List bb}{t:TG}{u:TGs}(h1:PG X e t)(h2:PGs X es u)
  (hs:(KH (e::es) X.env).map (·.2)=Qm e X.env::(KH es X.env).map (·.2):=by rfl):PGs X (e::es) (Gf t u):=by
 intro pins s σ H vs us Q I r h;obtain⟨v,f,e1,h⟩:=h;subst e1;cases r with
 | cons r rr =>
  rw[hs];refine assignInOrder_cons (thn (h1 pins s σ H _ _ _ I r h) λ_ s1 a=>?_);obtain⟨b,H1,c,d⟩:=a;exact h2 pins s1 b H1 _ _ Q c rr d
def Hf(K:ca)(n:Nat)(t:TGs):TG:=λv σ H Q=>∃a xs,v=.ref a/\SqT K H a xs/\xs.length=n/\t xs σ H Q
theorem Dk{es:List bb}{k:Nat}{t:TGs}{n:Nat}(hc:X.calm=true)(h:PGs X es t)
  (hn:(KH es X.env).length=n:=by rfl) (c:(KH es X.env).findIdx? (·.1)=none:=by rfl):PG X (.Tuple es k pos) (Hf X.K n t):=by intro pins s σ H v u Q I r hw;obtain⟨a,xs,e1,d,hl,hw⟩:=hw;subst e1;cases r;obtain⟨f,rv,ht,hz⟩:=I.tuple d;refine assign_Tuple_tuple (I.ok.hd hc) ht (by simp[hn,<-hl,rv.length]) c λh' hx=>?_;have g:Inv X pins σ H { s with heap:=h' }:=I.kept (t':=s.toks) λb o e=>hx b o (Jd (IX e)) e;exact h pins _ σ H xs _ Q g (by simpa using rv) hw
def Hg(to a:TE)(t:EJ):TG:=λv σ H Q=>to σ H λo H1=>a σ H1 λi b=>t o i v b λc=>Q σ c
theorem ua{o i:bb}{to d:TE}{t:EJ}(ho:PE X o to)(hi:PE X i d)(hs:Fk X t)
  (e:∀v,Qm (.Subscript o i pos) X.env v=(do
   let ov <-KI [v] (eval o X.env)
   let iv <-KI [v,ov] (eval i X.env)
   K2 pos
   KI [v,ov,iv] (Q9 ov iv v)
   release [v,ov,iv] []):=by intro _;rfl):PG X (.Subscript o i pos) (Hg to d t):=by intro pins s σ H v u Q I r h;rw[e];refine jj (zp (thn (ho pins s σ H _ I h) λov s1 a=>?_));obtain⟨x,H1,f,g,j⟩:=a;refine jj (zp (thn (hi pins s1 σ H1 _ f j) λiv s2 b=>?_));obtain⟨y,k,l,m,n⟩:=b;refine jj (Qp (jj (zp (thn (hs pins s2 σ k x y v ov iv u _ l g m r n) λ_ z c=>?_))));obtain⟨p,q,w⟩:=c;exact wpAny_release ⟨σ,p,q,w⟩
def Cd(te:TE)(g:TG):TS:=λD σ H=>te σ H λx H1=>g x σ H1 D.nx
theorem tX{tg e:bb}{te:TE}{g:TG}(b:PE X e te)(hg:PG X tg g)(hs:Zo [tg] e pos.line X.env=pure false:=by rfl)(hw:Zp [tg] e X.env=pure none:=by rfl)
  (h1:(KH [tg] X.env).map (·.2)=[Qm tg X.env]:=by rfl):PS X (.Assign [tg] e pos) (Cd te g):=by intro pins s σ H D I h;refine wpAny_Assign_stores (thn (b pins s σ H _ I h) λv s1 a=>?_) hs hw;obtain⟨x,H1,c,d,f⟩:=a;rw[h1];exact thn (hg pins s1 σ H1 x v _ c d f) λ_ s2 q=>q
theorem yL{i:Nat}{x:bx}{e:bb}{te:TE}{pos':Pos}(hN:X.N.Nodup)(hi:X.N[i]? = some x)(hx:Loc X.env.scope x)(b:PE X e te)(hs:Qn e (some (.Name x pos')) pos.line X.env=pure false:=by rfl)(c:X.fn x=true\/X.env.scope.names.lookup x=some .local:=by first|exact .inl rfl|exact .inr rfl|assumption) :
  PS X (.Assign [.Name x pos'] e pos) (Cd te (uV i)):=by intro pins s σ H D I h;refine wpAny_Assign_Name (thn (b pins s σ H _ I h) λv s1 a=>?_) hs;obtain⟨y,H1,d,f,g⟩:=a;exact pz d hN hi hx f (λs2 j=>⟨_,H1,j,g⟩) c
end
section
variable {X:Cx}{pos:Pos}
def CA(c:TT)(tb:TS):TS:=λD σ H=>∃W:Nat->St->Hp->Prop,(∃m,W m σ H)/\∀m σ H,W m σ H ->
 c σ H λb H1=>if b=true then ∃N:St->Hp->Prop,(∀σ' H',N σ' H'->∃a,a<m/\W a σ' H')/\tb { D with nx:=N,ct:=N,bk:=D.nx } σ H1 else D.nx σ H1
theorem wM{c:bb}{body:List Stmt}{tc:TT}{tb:TS}(q:PassesOwn (qb X.prog X.w) X.A X.env X.xe)(hc:PT X c tc)(u:PSs X body tb):PS X (.While c body [] pos) (CA tc tb):=by
 intro pins s σ H D I h;obtain⟨W,⟨x,y⟩,turn⟩:=h;refine wpAny_While (codeAny_whileLoop (λn s'=>∃σ' H',Inv X pins σ' H' s'/\W n σ' H') ?_ x ⟨σ,H,I,y⟩);rintro n s1 ⟨d,H1,z,B⟩;refine K1 q (thn (hc pins s1 d H1 _ z (turn n d H1 B)) λb s2 j=>?_);obtain⟨r,t,g⟩:=j;cases b with
 | true =>
  obtain⟨N,hN,g⟩:=g;rw[if_pos rfl];refine K1 q (thn (u pins s2 d r _ t g) λf C i=>?_);cases f with
  | next =>
   obtain⟨a,e,k,l⟩:=i;obtain⟨m,o,p⟩:=hN a e l;exact⟨m,o,a,e,k,p⟩
  | cont =>
   obtain⟨a,e,k,l⟩:=i;obtain⟨m,o,p⟩:=hN a e l;exact⟨m,o,a,e,k,p⟩
  | brk=>exact i
  | ret v=>exact i
 | false =>
  rw[if_neg Ja];exact Qy ⟨d,r,t,g⟩
end
structure It where
 go : Nat->Hp->Prop
 yld:Nat->Hp->V->Hp->Prop
 stop:Nat->Hp->Prop
def hV(X:Cx)(pins:List (ap×Obj))(H:Hp)(b:ap):Prop :=
 H b=none/\b≠X.env.locals/\b ∉ X.fs/\(b∈X.ex\/X.s₀.heap.objs.size<=b)/\(∀x c,X.env.cells.lookup x=some c->c≠b)/\∀p∈X.pn++pins,p.1≠b
theorem Inv.fpOk{X:Cx}{pins:List (ap×Obj)}{σ:St}{H H':Hp}{s:ba}{b:ap}(I:Inv X pins σ H s)(a:s.heap.objs.size<=b)(hn:H' b=none):hV X pins H' b:=by refine⟨hn,JR (IY I.lt a),I.nofs a,.inr (IQ I.sz a),λx c e z=>?_,λp d z=>?_⟩;obtain⟨v,q⟩:=I.cell x c e;exact absurd (IY q.lt (by rw[z];exact a)) (JL _);exact absurd (IY (IX (I.pin p d).1) (by rw[z];exact a)) (JL _)
structure zD(P:q3)(w:zb)(K:ca)(tg:bb)(J:It)(fp:List ap)(it:ap)(tn:Nat->bd->Prop):Prop where
 mem:it∈fp
 obj:∀i h,tn i h->∀b∈fp,∃o,h.get? b=some o/\∀v,o.data≠.cell v
 keep:∀i h h',tn i h->(∀b∈fp,∀o,h.get? b=some o->h'.get? b=some o)->tn i h'
 item:∀(X:Cx),X.prog=P->X.w=w->X.K=K->X.calm=true->∀(i:Nat) (pins:List (ap×Obj)) (s:ba) (σ:St) (H:Hp) (E:as->ba->Prop),Inv X pins σ H s->(∀b∈fp,hV X pins H b)->tn i s.heap->J.go i H ->
  kw (qb P w) X.A (Qo (.ref it)) (λr s1=>∃u,r=some u /\
   kw (qb P w) X.A (QA tg (.ref it) u) (λ_ s2=>∃x H',Inv X pins σ H' s2/\be x u/\J.yld i H x H'/\tn (i+1) s2.heap/\∀b∈fp,H' b=none) E s1) E s
 done:∀(X:Cx),X.prog=P->X.w=w->X.K=K->X.calm=true->∀(i:Nat) (pins:List (ap×Obj)) (s:ba) (σ:St) (H:Hp) (E:as->ba->Prop),Inv X pins σ H s->(∀b∈fp,hV X pins H b)->tn i s.heap->J.stop i H ->
  kw (qb P w) X.A (Qo (.ref it)) (λr s1=>r=none/\Inv X pins σ H s1) E s
 self:∀(A:Around) (i:Nat) (s:ba) (Q:as->ba->Prop) (E:as->ba->Prop),tn i s.heap->Q (.ref it) s->kw (qb P w) A (ZC (.ref it)) Q E s
abbrev TI:=St->Hp->(It->Hp->Prop)->Prop
def PIE(X:Cx)(pins:List (ap×Obj))(σ:St)(tg:bb)(R:It->Hp->Prop)(a:as)(s2:ba):Prop :=
 ∃(it:ap) (fp:List ap) (tn:Nat->bd->Prop) (J:It) (H':Hp),a=.ref it/\Inv X pins σ H' s2/\zD X.prog X.w X.K tg J fp it tn/\tn 0 s2.heap/\(∀b∈fp,hV X pins H' b)/\R J H'
def PI(X:Cx)(tg iter:bb)(a:TI):Prop :=
 ∀(pins:List (ap×Obj)) (s:ba) (σ:St) (H:Hp) (R:It->Hp->Prop),Inv X pins σ H s->a σ H R ->
  kw (qb X.prog X.w) X.A (eval iter X.env) (λv s1=>kw (qb X.prog X.w) X.A (ZC v) (PIE X pins σ tg R) X.xe s1) X.xe s
theorem Bo{M:Model}{A:Around}{E:as->ba->Prop}{s:ba}{tg:bb}{it:ap}{u:as}{o:Obj}{n:String}{vs:Array as}{Q:Unit->ba->Prop}(ho:s.heap.get? it=some o)(hc:o.cls=.type n)(hd:o.data=.fields vs)
    (hn:["enumerate", "zip", "dict_itemiterator", "dict_reverseitemiterator", "odict_iterator", "itertools.zip_longest", "itertools.pairwise"].contains n=false) (a:Q () s):kw M A (QA tg (.ref it) u) Q E s:=by
  unfold QA;cases tg <;> first
    | exact ke a
    | (cases u <;> first
        | exact ke a
        | (refine jj (wpAny_load ho ?_)
           rw[hc,hd];show kw M A (if (["enumerate", "zip", "dict_itemiterator", "dict_reverseitemiterator", "odict_iterator", "itertools.zip_longest", "itertools.pairwise"].contains n&&vs[0]?==some (K4 _))=true then _ else _) Q E s;rw[if_neg (by intro h;rw[hn,Bool.false_and] at h;cases h)];exact ke a))
def Itl(K:ca)(a:ap):It :=
 ⟨λi H=>∃xs x,SqL K H a xs/\xs[i]? = some x,λi H x H'=>H'=H/\∀xs,SqL K H a xs->xs[i]? = some x,λi H=>∃xs,SqL K H a xs/\xs.length<=i⟩
def Itr(lo:Int)(n:Nat):It:=⟨λi _=>i<n,λi H x H'=>H'=H/\x=.int (lo+i),λi _=>n<=i⟩
theorem sM{P:q3}{w:zb}{K:ca}{tg:bb}(a it:ap):zD P w K tg (Itl K a) [it] it (λi h=>h.IsListIter it a i) where
 mem:=by simp
 obj:=λi h st b f=>by
  have e:b=it:=by simpa using f
  subst e;obtain⟨o,e,c,d⟩:=st;exact⟨o,e,λv z=>by rw[d] at z;cases z⟩
 keep:=λi h h' st k=>st.at λo e=>k it (by simp) o e
 item:=by intro X m hw hK hc i pins s σ H E I j st hg;subst m hw hK;obtain⟨xs,x,l,hx⟩:=hg;obtain⟨n,rv,p,hz⟩:=I.list l;obtain⟨u,B,C⟩:=rv.get hx;obtain⟨q,r,D,t,y,A⟩:=j it (by simp);refine wpAny_pyNext_list_item st p.isList (x:=u) (by simpa using B) λh' g F=>?_;have G:Inv X pins σ H { s with heap:=h' }:=I.turned (t':=s.toks) (λb o f e=>(F.2 b f).trans e) q r t y A;obtain⟨o,e,c,d⟩:=id g;exact⟨u,rfl,Bo (s:={ s with heap:=h' }) e c d (by decide) ⟨x,H,G,C,⟨rfl,λys J=>by rw[I.list_inj J l];exact hx⟩,g,λb f=>(j b f).1⟩⟩
 done:=by intro X m hw hK hc i pins s σ H E I j st hg;subst m hw hK;obtain⟨xs,l,hx⟩:=hg;obtain⟨n,rv,p,hz⟩:=I.list l;obtain⟨q,r,D,t,y,A⟩:=j it (by simp);have hl:=rv.length;exact wpAny_pyNext_list_end (I.ok.hd hc) st p.isList (by simp;omega) λh' L=>⟨rfl,I.turned (t':=s.toks) (λb o f e=>L b o f e) q r t y A⟩
 self:=λ_ _ _ _ _ st h=>wpAny_pyIter_listiter st h
theorem rd{P:q3}{w:zb}{K:ca}{tg:bb}(it:ap)(lo:Int)(n:Nat):zD P w K tg (Itr lo n) [it] it (λi h=>IsRangeIter h it (lo+(i:Nat)*1) ((n:Int) - (i:Nat)) 1) where
 mem:=by simp
 obj := λi h st b a=>by
  have e:b=it:=by simpa using a
  subst e;exact⟨_,st,λv z=>by
   have q:Data.fields _=Data.cell v:=z;cases q⟩
 keep:=λi h h' st k=>k it (by simp) _ st
 item:=by intro X f hw hK hc i pins s σ H E I d st hg;subst f hw hK;obtain⟨g,j,r,l,m,p⟩:=d it (by simp);have W:=Walks.range (prog:=X.prog) (w:=X.w) (I.ok.hd hc) it lo 1 n;refine W.item i s _ _ hg st λv h' tk hv c u=>?_;obtain⟨t,rfl⟩:=hv;have x:Inv X pins σ H { s with heap:=h',toks:=tk }:=I.turned (λb o a e=>u b o (by simpa using a) e) g j l m p;refine⟨_,rfl,Bo (s:={ s with heap:=h',toks:=tk }) (n := "range_iterator") c rfl rfl (by decide) ⟨.int (lo+i),H,x,⟨t,?_⟩,⟨rfl,rfl⟩,c,λb a=>(d b a).1⟩⟩;rw[Int.mul_one]
 done:=by intro X f hw hK hc i pins s σ H E I d st hg;subst f hw hK;obtain⟨g,j,r,l,m,p⟩:=d it (by simp);exact wpAny_pyNext_range_end (I.ok.hd hc) st (by have:n<=i:=hg;omega) λh' y=>⟨rfl,I.turned (t':=s.toks) (λb o a e=>y b o a e) g j l m p⟩
 self:=λ_ _ _ _ _ st h=>wpAny_pyIter_rangeiter st h
section
variable {X:Cx}{tg:bb}
def Ea(K:ca)(tl:TE):TI:=λσ H R=>tl σ H λx H1=>∃a,x=.ref a/\(∃xs,SqL K H1 a xs)/\R (Itl K a) H1
theorem AF{l:bb}{tl:TE}(hl:PE X l tl):PI X tg l (Ea X.K tl):=by
 intro pins s σ H R I h;refine thn (hl pins s σ H _ I h) λv s1 d=>?_;obtain⟨x,H1,c,f,g⟩:=d;obtain⟨a,e,⟨xs,i⟩,q⟩:=g;subst e;cases f;obtain⟨j,rv,p,hz⟩:=c.list i;refine Qb p.isList ?_;refine⟨s1.heap.objs.size,[s1.heap.objs.size],_,_,H1,rfl,c.kept (t':=s1.toks) λb o e=>IH _ e,sM a _,⟨_,IW _ rfl,rfl,rfl⟩,λb k=>?_,q⟩;have e:b=s1.heap.objs.size:=by simpa using k
 subst e;exact c.fpOk (IS _) (c.hok.fresh (IS _))
theorem wG{pins:List (ap×Obj)}{σ:St}{H:Hp}{s:ba}{R:It->Hp->Prop}{E:as->ba->Prop}{lo hi:Int}{t u v:Tok}{tk:Nat}(I:Inv X pins σ H s)(h1:-(2 ^ 62)<=lo)(h2:lo<2 ^ 62)(h3:-(2 ^ 62)<=hi)(c:hi<2 ^ 62)
  (q : R (Itr lo (hi - lo).toNat) H):kw (qb X.prog X.w) X.A (ZC (.ref s.heap.objs.size)) (PIE X pins σ tg R) E { s with heap:=s.heap.push { cls:=.type "range",data:=.fields #[.int lo t,.int hi u,.int 1 v] },toks:=tk }:=by
 refine wpAny_pyIter_range (IsRange.new ..) (small_one h1 h2 h3 c) ?_;have a:Inv X pins σ H { s with heap:=s.heap.push { cls:=.type "range",data:=.fields #[.int lo t,.int hi u,.int 1 v] },toks:=tk }:=I.kept λb o e=>IH _ e;refine⟨(s.heap.push { cls:=.type "range",data:=.fields #[.int lo t,.int hi u,.int 1 v] }).objs.size,[(s.heap.push { cls:=.type "range",data:=.fields #[.int lo t,.int hi u,.int 1 v] }).objs.size],_,_,H,rfl,
  a.kept (t':=tk) λb o e=>IH _ e,rd _ lo (hi - lo).toNat,?_,λb d=>?_,q⟩
 have e1:lo+((0:Nat):Int)*1=lo:=by simp
 have e2:(((hi - lo).toNat:Nat):Int) - ((0:Nat):Int)=Builtin.Range.rangeSize lo hi 1:=by rw[rangeSize_one];split <;> omega
 show IsRangeIter _ _ (lo+((0:Nat):Int)*1) ((((hi - lo).toNat:Nat):Int) - ((0:Nat):Int)) 1;rw[e1,e2];exact IW _ rfl;have e:b=(s.heap.push { cls:=.type "range",data:=.fields #[.int lo t,.int hi u,.int 1 v] }).objs.size:=by simpa using d
 subst e;exact a.fpOk (IS _) (a.hok.fresh (IS _))
def F5(ta:TA):TI:=λσ H R=>ta σ H λvs H1=>∃j:Int,vs=[.int j]/\-(2 ^ 62)<=j/\j<2 ^ 62/\R (Itr 0 j.toNat) H1
theorem t9{a:bb}{ta:TA}{p pos:Pos}(hg:Gl X "range")(d:X.mg "range" = none)(f:PA X [a] ta)(hs:kq [a] X.env=[(false,eval a X.env)]:=by rfl):PI X tg (.Call (.Name "range" p) [a] [] pos) (F5 ta):=by
 intro pins s σ H R I h;refine Call_ (fR I hg d boot_range (PyProof.Rows.callWith_type1 (thn (f pos pins s σ H _ I h) λus s1 b=>?_) hs rfl));obtain⟨vs,H1,g,i,c⟩:=b;obtain⟨j,e,c,k,q⟩:=c;subst e;cases i with
 | cons r rr =>
  cases rr;obtain⟨t,rfl⟩:=r;exact call_range_1 (wG g (by omega) (by omega) c k (by simpa using q))
def HG(c:TI)(g:TG)(tb:TS):TS:=λD σ H=>c σ H λJ H1=>∃W:Nat->Nat->St->Hp->Prop,(∃m,W 0 m σ H1)/\∀i m σ H,W i m σ H ->
 (J.stop i H/\D.nx σ H)\/(J.go i H/\∃N:St->Hp->Prop,(∀σ' H',N σ' H'->∃b,b<m/\W (i+1) b σ' H')/\∀x H',J.yld i H x H'->g x σ H' λa d=>tb { D with nx:=N,ct:=N,bk:=D.nx } a d)
def gG(fp:List ap)(h:bd):List (ap×Obj):=fp.filterMap λb=>(h.get? b).map λo=>(b,o)
theorem d7{fp:List ap}{h:bd}{b:ap}{o:Obj}(a:b∈fp)(e:h.get? b=some o):(b,o)∈gG fp h:=List.mem_filterMap.mpr ⟨b,a,by rw[e];rfl⟩
theorem lW{fp:List ap}{h:bd}{p:ap×Obj}(a:p∈gG fp h):p.1∈fp/\h.get? p.1=some p.2:=by
 obtain⟨b,c,e⟩:=List.mem_filterMap.mp a;cases q:h.get? b with
 | none=>rw[q] at e;cases e
 | some o =>
  rw[q] at e;have e':(b,o)=p:=Option.some.inj e;subst e';exact⟨c,q⟩
theorem Inv.pinned{pins:List (ap×Obj)}{σ:St}{H:Hp}{s:ba}{fp:List ap}(I:Inv X pins σ H s)(c:∀b∈fp,hV X pins H b)(ho:∀b∈fp,∃o,s.heap.get? b=some o/\∀v,o.data≠.cell v):Inv X (pins++gG fp s.heap) σ H s :=
 I.pins_of λp f=>(II.mp f).elim (λz=>I.pin p (IE _ z)) λz=>by
  obtain⟨a,e⟩:=lW z;obtain⟨g,h,i,_⟩:=c p.1 a;obtain⟨o,e',d⟩:=ho p.1 a;rw[e] at e';cases e';exact⟨e,g,h,i,d⟩
theorem Inv.unpinned{pins pl:List (ap×Obj)}{σ:St}{H:Hp}{s:ba}(I:Inv X (pins++pl) σ H s):Inv X pins σ H s:=I.pins_of λp a=>I.pin p (IE _ (IJ _ a))
theorem Df{iter:bb}{body:List Stmt}{U:TI}{g:TG}{tb:TS}{pos:Pos}(y:PassesOwn (qb X.prog X.w) X.A X.env X.xe)(hc:X.calm=true)(hi:PI X tg iter U)(hg:PG X tg g)(c:PSs X body tb)
  (hs:∀x,KC iter X.env x=pure x:=by intro _;rfl):PS X (.For tg iter body [] pos) (HG U g tb):=by
 intro pins s σ H D I h;refine wpAny_For (thn (hi pins s σ H _ I h) λv s1 h1=>thn h1 λa4 s2 h2=>?_) hs;obtain⟨it,fp,tn,J,H2,e,I2,T,F,V,W,⟨m0,w0⟩,turn⟩:=h2;subst e;have j:∀{H':Hp},(∀b∈fp,H' b=none)->∀b∈fp,hV X pins H' b:=λhn b c=>⟨hn b c,(V b c).2⟩
 refine codeAny_forLoop_any (λn s'=>∃i σ' H',Inv X pins σ' H' s'/\tn i s'.heap/\(∀b∈fp,H' b=none)/\W i n σ' H') ?_ m0 ⟨0,σ,H2,I2,F,λb c=>(V b c).1,w0⟩;rintro n Y ⟨i,k,E,Z,z,B,w3⟩;rcases turn i n k E w3 with⟨stop,qn⟩|⟨go,N,hN,step⟩
 ·refine K1 y (thn (T.done X rfl rfl rfl hc i pins Y k E X.xe Z (j B) z stop) λr s4 G=>?_);obtain⟨K,I4⟩:=G;subst K;exact Qy ⟨k,E,I4,qn⟩
 ·refine K1 y (thn (T.item X rfl rfl rfl hc i pins Y k E X.xe Z (j B) z go) λr s4 L=>?_);obtain⟨u,K,h4⟩:=L;subst K;refine K1 y (thn h4 λ_ s5 M=>?_);obtain⟨x,H5,I5,r5,y5,t,O⟩:=M;have P:=I5.pinned (j O) (T.obj _ _ t);refine K1 y (thn (hg _ s5 k H5 x u _ P r5 (step x H5 y5)) λ_ s6 Q=>?_);obtain⟨R,H6,I6,q6⟩:=Q;refine K1 y (thn (c _ s6 R H6 _ I6 q6) λf S q=>?_);have again:∀{a:St}{l:Hp},Inv X (pins++gG fp s5.heap) a l S->N a l->∃m,m<n/\∃i σ' H',Inv X pins σ' H' S/\tn i S.heap/\(∀b∈fp,H' b=none)/\W i m σ' H':=λ{a l} p C=>by
   obtain⟨m',hm,w7⟩:=hN a l C;refine⟨m',hm,i+1,a,l,p.unpinned,T.keep _ _ _ t λb c o e=>(p.pin (b,o) (IE _ (IE _ (d7 c e)))).1,λb c=>?_,w7⟩;obtain⟨o,e,d⟩:=T.obj _ _ t b c;exact(p.pin (b,o) (IE _ (IE _ (d7 c e)))).2.1
  cases f with
  | next=>obtain⟨a,l,p,C⟩:=q;exact again p C
  | cont=>obtain⟨a,l,p,C⟩:=q;exact again p C
  | brk=>obtain⟨a,l,p,q⟩:=q;exact⟨a,l,p.unpinned,q⟩
  | ret v=>obtain⟨x7,a,l,p,r7,q⟩:=q;exact⟨x7,a,l,p.unpinned,r7,q⟩
end
abbrev R2:=V->V->Hp->VK->Prop
def OpR(X:Cx)(f:as->as->Sem as)(r:R2):Prop :=
 ∀(pins:List (ap×Obj)) (s:ba) (σ:St) (H:Hp) (x y:V) (v u:as) (Q:VK),Inv X pins σ H s->be x v->be y u->r x y H Q ->
  kw (qb X.prog X.w) X.A (f v u) (EP X pins σ Q) X.xe s
def UnR(X:Cx)(f:as->Sem as)(r:V->Hp->VK->Prop):Prop :=
 ∀(pins:List (ap×Obj)) (s:ba) (σ:St) (H:Hp) (x:V) (v:as) (Q:VK),Inv X pins σ H s->be x v->r x H Q ->
  kw (qb X.prog X.w) X.A (f v) (EP X pins σ Q) X.xe s
def cZ(X:Cx)(f:as)(r:List V->Hp->VK->Prop):Prop :=
 ∀(pins:List (ap×Obj)) (s:ba) (σ:St) (H:Hp) (xs:List V) (us:List as) (Q:VK),Inv X pins σ H s->aH xs us->r xs H Q ->
  kw (qb X.prog X.w) X.A (call f us) (EP X pins σ Q) X.xe s
def IA(X:Cx)(r:V->Hp->(Bool->Hp->Prop)->Prop):Prop :=
 ∀(pins:List (ap×Obj)) (s:ba) (σ:St) (H:Hp) (x:V) (v:as) (Q:Bool->Hp->Prop),Inv X pins σ H s->be x v->r x H Q ->
  kw (qb X.prog X.w) X.A (Ze v) (TP X pins σ Q) X.xe s
def tOp(r:R2)(ta tb:TE):TE:=λσ H Q=>ta σ H λx H1=>tb σ H1 λy a=>r x y a Q
def tUn(r:V->Hp->VK->Prop)(ta:TE):TE:=λσ H Q=>ta σ H λx H1=>r x H1 Q
def rI(C:Int->Int->Prop)(g:Int->Int->V):R2:=λx y H Q=>∃i j,x=.int i/\y=.int j/\C i j/\Q (g i j) H
def rI0(g:Int->Int->V):R2:=λx y H Q=>∃i j,x=.int i/\y=.int j/\Q (g i j) H
def rU(g:Int->V):V->Hp->VK->Prop:=λx H Q=>∃i,x=.int i/\Q (g i) H
section
variable {X:Cx}{a b:bb}{ta tb:TE}{pos:Pos}
theorem GK(j:PE X a ta)(k:PE X b tb){pins:List (ap×Obj)}{s:ba}{σ:St}{H:Hp}{R:V->V->Hp->Prop}(I:Inv X pins σ H s)
  (h : ta σ H λx H1=>tb σ H1 λy c=>R x y c) {Q:as->ba->Prop}{f:as->as->Sem as}
  (l:∀v u s2 x y c,Inv X pins σ c s2->be x v->be y u->R x y c->kw (qb X.prog X.w) X.A (f v u) Q X.xe s2) :
  kw (qb X.prog X.w) X.A (eval a X.env) (λv d=>kw (qb X.prog X.w) X.A (eval b X.env) (λu e=>kw (qb X.prog X.w) X.A (f v u) Q X.xe e) X.xe d) X.xe s:=by refine thn (j pins s σ H _ I h) λv s1 g=>?_;obtain⟨x,H1,m,n,o⟩:=g;refine thn (k pins s1 σ H1 _ m o) λu s2 i=>?_;obtain⟨y,c,p,q,r⟩:=i;exact l v u s2 x y c p n q r
theorem AJ{op:Operator}{r:R2}(ho:OpR X (KN op) r)(c:PE X a ta)(d:PE X b tb):PE X (.BinOp a op b pos) (tOp r ta tb):=by intro pins s σ H Q I h;exact wpAny_BinOp (GK c d I h λv u s2 x y e f g i q=>ho pins s2 σ e x y v u Q f g i q)
theorem Dl{op:UnaryOp}{r:V->Hp->VK->Prop}(ho:UnR X (unaryOp op) r)(b:PE X a ta):PE X (.UnaryOp op a pos) (tUn r ta):=by intro pins s σ H Q I h;exact UnaryOp_ (thn (b pins s σ H _ I h) λv s1 ⟨x,H1,c,d,e⟩=>ho pins s1 σ H1 x v Q c d e)
theorem opI{f:as->as->Sem as}{C:Int->Int->Prop}{g:Int->Int->Int}
  (rule:∀(i j:Int) (t u:Tok) (s:ba) (Q:as->ba->Prop) (E:as->ba->Prop),C i j->Q (.int (g i j) s.toks) { s with toks:=s.toks+1 }->kw (qb X.prog X.w) X.A (f (.int i t) (.int j u)) Q E s) :
  OpR X f (rI C λi j=>.int (g i j)):=by intro pins s σ H x y v u Q I a b h;obtain⟨i,j,rfl,rfl,hc,q⟩:=h;obtain⟨t,rfl⟩:=a;obtain⟨t',rfl⟩:=b;exact rule i j t t' s _ _ hc ⟨.int (g i j),H,I.tok _,⟨_,rfl⟩,q⟩
theorem Hb{f:as->as->Sem as}{g:Int->Int->Int}
  (rule:∀(i j:Int) (t u:Tok) (s:ba) (Q:as->ba->Prop) (E:as->ba->Prop),Q (.int (g i j) s.toks) { s with toks:=s.toks+1 }->kw (qb X.prog X.w) X.A (f (.int i t) (.int j u)) Q E s) :
  OpR X f (rI0 λi j=>.int (g i j)):=by intro pins s σ H x y v u Q I a b h;obtain⟨i,j,rfl,rfl,q⟩:=h;obtain⟨t,rfl⟩:=a;obtain⟨t',rfl⟩:=b;exact rule i j t t' s _ _ ⟨.int (g i j),H,I.tok _,⟨_,rfl⟩,q⟩
theorem EU{f:as->as->Sem as}{g:Int->Int->Bool}
  (rule:∀(i j:Int) (t u:Tok) (s:ba) (Q:as->ba->Prop) (E:as->ba->Prop),Q (.bool (g i j)) s->kw (qb X.prog X.w) X.A (f (.int i t) (.int j u)) Q E s) :
  OpR X f (rI0 λi j=>.bl (g i j)):=by intro pins s σ H x y v u Q I a b h;obtain⟨i,j,rfl,rfl,q⟩:=h;obtain⟨t,rfl⟩:=a;obtain⟨t',rfl⟩:=b;exact rule i j t t' s _ _ ⟨.bl (g i j),H,I,rfl,q⟩
def ID(i j:Int):Prop:=0<j/\j<1073741824
def ER(i j:Int):Prop:=(-(2 ^ 64)<i/\i<2 ^ 64)\/(-(2 ^ 64)<j/\j<2 ^ 64)
theorem ER.ok{i j:Int}(h:ER i j):IntMulOk i j:=by
 rcases h with⟨h1,h2⟩|⟨h1,h2⟩
 exact .of_left (intBits_le_64 h1 h2);exact .of_right (intBits_le_64 h1 h2)
theorem bY:OpR X (KN .Add) (rI0 λi j=>.int (i+j)):=Hb λ_ _ _ _ _ _ _ q=>add_int q
theorem ul:OpR X (KN .Sub) (rI0 λi j=>.int (i - j)):=Hb λ_ _ _ _ _ _ _ q=>sub_int q
theorem jD:OpR X (KN .Mult) (rI ER λi j=>.int (i*j)):=opI λ_ _ _ _ _ _ _ hc q=>mul_int q hc.ok
theorem cQ:OpR X (KN .FloorDiv) (rI ID λi j=>.int (i / j)):=opI λi j _ _ _ _ _ hc q=>by
 have h1:(0:Int)<j:=hc.1;have h2:j<1073741824:=hc.2;exact floordiv_int (by omega) (by rw[Int.fdiv_eq_ediv_of_nonneg i (by omega)];exact q) (.inl (PyProof.noPylong_small (by omega)))
theorem bi:OpR X (KN .Mod) (rI (λ_ j=>0<j) λi j=>.int (i % j)):=opI λi j _ _ _ _ _ hc q=>by
 have h1:(0:Int)<j:=hc;exact mod_int' (by omega) (by rw[Int.fmod_eq_emod_of_nonneg i (by omega)];exact q)
theorem unI{f:as->Sem as}{g:Int->Int}
  (rule:∀(i:Int) (t:Tok) (s:ba) (Q:as->ba->Prop) (E:as->ba->Prop),Q (.int (g i) s.toks) { s with toks:=s.toks+1 }->kw (qb X.prog X.w) X.A (f (.int i t)) Q E s) :
  UnR X f (rU λi=>.int (g i)):=by intro pins s σ H x v Q I a h;obtain⟨i,rfl,q⟩:=h;obtain⟨t,rfl⟩:=a;exact rule i t s _ _ ⟨.int (g i),H,I.tok _,⟨_,rfl⟩,q⟩
theorem kW:UnR X (unaryOp .USub) (rU λi=>.int (-i)):=unI λ_ _ _ _ _ q=>neg_int q
end
def GW:V->V->Bool
 | .non,.non=>true|.non,.int _=>true|.int _,.non=>true|.non,.bl _=>true|.bl _,.non=>true|.non,.str _=>true|.str _,.non=>true
 | .int _,.int _=>true|.bl _,.bl _=>true|.str _,.str _=>true|.byt _,.byt _=>true
 | .int _,.str _=>true|.str _,.int _=>true|.bl _,.str _=>true|.str _,.bl _=>true
 | _,_=>false
def rEq:R2:=λx y H Q=>GW x y=true/\Q (.bl (decide (x=y))) H
def rNe:R2:=λx y H Q=>GW x y=true/\Q (.bl (!decide (x=y))) H
theorem u9{i j:Int}:decide (V.int i=V.int j)=(i==j):=by rw[Kf];simp
theorem zc{i j:Bool}:decide (V.bl i=V.bl j)=(i==j):=by rw[Kf];simp
theorem u8{i j:bx}:decide (V.str i=V.str j)=(i==j):=by rw[Kf];simp
theorem vc{i j:Array UInt8}:decide (V.byt i=V.byt j)=(i.toList==j.toList):=by rw[Kf];cases i;cases j;simp
section
variable {X:Cx}{a b c:bb}{ta tb tc:TE}{pos:Pos}
theorem aI{pins:List (ap×Obj)}{σ:St}{H:Hp}{s:ba}{Q:VK}{k k':Bool}(I:Inv X pins σ H s)(q:Q (.bl k) H)(e:k=k'):EP X pins σ Q (.bool k') s:=by subst e;exact⟨.bl k,H,I,rfl,q⟩
theorem rJ:OpR X (q4 .Eq) rEq:=by
 intro pins s σ H x y v u Q I b a h;obtain⟨hs,q⟩:=h;cases x with
 | non =>
  cases b;cases y with
  | non=>cases a;exact PySem.EqNone.eq_none_none (aI I q (by simp))
  | bl j=>cases a;exact PySem.EqNone.eq_none_bool (aI I q (by simp))
  | int j=>obtain⟨t',rfl⟩:=a;exact PySem.EqNone.eq_none_int (aI I q (by simp))
  | str j=>obtain⟨t',rfl⟩:=a;exact PySem.EqNone.eq_none_str (aI I q (by simp))
  | _=>exact absurd (show false=true from hs) Ja
 | bl i =>
  cases b;cases y with
  | non=>cases a;exact PySem.EqNone.eq_bool_none (aI I q (by simp))
  | bl j=>cases a;exact eq_bool (aI I q zc)
  | str j=>obtain⟨t',rfl⟩:=a;exact PySem.EqMixed.eq_bool_str (aI I q (by simp))
  | _=>exact absurd (show false=true from hs) Ja
 | int i =>
  obtain⟨t,rfl⟩:=b;cases y with
  | non=>cases a;exact PySem.EqNone.eq_int_none (aI I q (by simp))
  | int j=>obtain⟨t',rfl⟩:=a;exact eq_int (aI I q u9)
  | str j=>obtain⟨t',rfl⟩:=a;exact PySem.EqMixed.eq_int_str (aI I q (by simp))
  | _=>exact absurd (show false=true from hs) Ja
 | str i =>
  obtain⟨t,rfl⟩:=b;cases y with
  | non=>cases a;exact PySem.EqNone.eq_str_none (aI I q (by simp))
  | bl j=>cases a;exact PySem.EqMixed.eq_str_bool (aI I q (by simp))
  | int j=>obtain⟨t',rfl⟩:=a;exact PySem.EqMixed.eq_str_int (aI I q (by simp))
  | str j=>obtain⟨t',rfl⟩:=a;exact eq_str (aI I q u8)
  | _=>exact absurd (show false=true from hs) Ja
 | byt i =>
  obtain⟨t,rfl⟩:=b;cases y with
  | byt j=>obtain⟨t',rfl⟩:=a;exact PySem.W.eq_bytes (aI I q vc)
  | _=>exact absurd (show false=true from hs) Ja
 | _=>cases y <;> exact absurd (show false=true from hs) Ja
theorem wY:OpR X (q4 .NotEq) rNe:=by
 intro pins s σ H x y v u Q I b a h;obtain⟨hs,q⟩:=h;cases x with
 | non =>
  cases b;cases y with
  | non=>cases a;exact PySem.EqNone.ne_none_none (aI I q (by simp))
  | bl j=>cases a;exact PySem.EqNone.ne_none_bool (aI I q (by simp))
  | int j=>obtain⟨t',rfl⟩:=a;exact PySem.EqNone.ne_none_int (aI I q (by simp))
  | str j=>obtain⟨t',rfl⟩:=a;exact PySem.EqNone.ne_none_str (aI I q (by simp))
  | _=>exact absurd (show false=true from hs) Ja
 | bl i =>
  cases b;cases y with
  | non=>cases a;exact PySem.EqNone.ne_bool_none (aI I q (by simp))
  | bl j=>cases a;exact ne_bool (aI I q (congrArg not zc))
  | str j=>obtain⟨t',rfl⟩:=a;exact PySem.EqMixed.ne_bool_str (aI I q (by simp))
  | _=>exact absurd (show false=true from hs) Ja
 | int i =>
  obtain⟨t,rfl⟩:=b;cases y with
  | non=>cases a;exact PySem.EqNone.ne_int_none (aI I q (by simp))
  | int j=>obtain⟨t',rfl⟩:=a;exact ne_int (aI I q (congrArg not u9))
  | str j=>obtain⟨t',rfl⟩:=a;exact PySem.EqMixed.ne_int_str (aI I q (by simp))
  | _=>exact absurd (show false=true from hs) Ja
 | str i =>
  obtain⟨t,rfl⟩:=b;cases y with
  | non=>cases a;exact PySem.EqNone.ne_str_none (aI I q (by simp))
  | bl j=>cases a;exact PySem.EqMixed.ne_str_bool (aI I q (by simp))
  | int j=>obtain⟨t',rfl⟩:=a;exact PySem.EqMixed.ne_str_int (aI I q (by simp))
  | str j=>obtain⟨t',rfl⟩:=a;exact ne_str (aI I q (congrArg not u8))
  | _=>exact absurd (show false=true from hs) Ja
 | byt i =>
  obtain⟨t,rfl⟩:=b;cases y with
  | byt j=>obtain⟨t',rfl⟩:=a;exact PySem.W.ne_bytes (aI I q (congrArg not vc))
  | _=>exact absurd (show false=true from hs) Ja
 | _=>cases y <;> exact absurd (show false=true from hs) Ja
theorem ur:OpR X (q4 .Lt) (rI0 λi j=>.bl (decide (i<j))):=EU λ_ _ _ _ _ _ _ q=>lt_int q
theorem ou:OpR X (q4 .LtE) (rI0 λi j=>.bl (decide (i<=j))):=EU λ_ _ _ _ _ _ _ q=>le_int q
theorem AU:OpR X (q4 .Gt) (rI0 λi j=>.bl (decide (j<i))):=EU λ_ _ _ _ _ _ _ q=>gt_int q
theorem FT:OpR X (q4 .GtE) (rI0 λi j=>.bl (decide (j<=i))):=EU λ_ _ _ _ _ _ _ q=>ge_int q
theorem ut:OpR X (q4 .In) (λx y H Q=>∃i j,x=.str i/\y=.str j/\Q (.bl (!(Builtin.Str.occurrences j i 0 j.length 1).isEmpty)) H):=by intro pins s σ H x y v u Q I a b h;obtain⟨i,j,rfl,rfl,q⟩:=h;obtain⟨t,rfl⟩:=a;obtain⟨t',rfl⟩:=b;exact in_str (aI I q rfl)
theorem p8:OpR X (q4 .Is) (λx y H Q=>y=.non/\Q (.bl (decide (x=.non))) H):=by
 intro pins s σ H x y v u Q I a b h;obtain⟨rfl,q⟩:=h;cases b;refine is_none_gen (aI I q ?_);cases x <;> first
  | (cases a;rfl)
  | (obtain⟨t,rfl⟩:=a;rfl)
theorem gj:OpR X (q4 .IsNot) (λx y H Q=>y=.non/\Q (.bl (!decide (x=.non))) H):=by
 intro pins s σ H x y v u Q I a b h;obtain⟨rfl,q⟩:=h;cases b;refine isnot_none_gen (aI I q ?_);cases x <;> first
  | (cases a;rfl)
  | (obtain⟨t,rfl⟩:=a;rfl)
theorem yR(b:bb){op:CmpOp}(h:op≠.In:=by decide)(h2:op≠.NotIn:=by decide):Qh op b=false:=by
 have e1:(op==CmpOp.In)=false:=by cases op <;> first|rfl|exact absurd rfl h
 have e2:(op==CmpOp.NotIn)=false:=by cases op <;> first|rfl|exact absurd rfl h2
 cases b <;> simp[Qh,e1,e2]
theorem AO{op:CmpOp}{r:R2}(ho:OpR X (q4 op) r)(c:PE X a ta)(d:PE X b tb)(e:Qh op b=false):PE X (.Compare a [op] [b] pos) (tOp r ta tb):=by intro pins s σ H Q I h;exact wpAny_Compare1 (GK c d I h λv u s2 x y f g i j q=>ho pins s2 σ f x y v u Q g i j q) e
def zP(t:TE):TT:=λσ H Q=>t σ H λx H'=>∃k,x=.bl k/\Q k H'
theorem tU{op:CmpOp}{r:R2}(ho:OpR X (q4 op) r)(d:PE X a ta)(f:PE X b tb)(g:Qh op b=false):PT X (.Compare a [op] [b] pos) (zP (tOp r ta tb)):=by
 intro pins s σ H Q I h;refine wpAny_isTrue_Compare1 (thn (d pins s σ H _ I h) λv s1 ⟨x,H1,i,j,l⟩=>thn (f pins s1 σ H1 _ i l) λu s2 ⟨y,m,n,o,p⟩ =>
  thn (ho pins s2 σ m x y v u _ n j o p) λc B ⟨z,q,t,w,k,e,A⟩=>?_) g
 subst e;cases w;exact KB ⟨q,t,A⟩
def yr(r r':R2)(ta tb tc:TE):TE:=λσ H Q=>ta σ H λx H1=>tb σ H1 λy b=>r x y b λz a=>∃k,z=.bl k /\
 (if k=true then tc σ a λw' c=>r' y w' c Q else Q (.bl false) a)
theorem wV{op f:CmpOp}{r r':R2}(ho:OpR X (q4 op) r)(g:OpR X (q4 f) r')(n:PE X a ta)(o:PE X b tb)(hc:PE X c tc)
  (p:lastMarks [op,f] [b,c]=false:=by with_unfolding_all rfl):PE X (.Compare a [op,f] [b,c] pos) (yr r r' ta tb tc):=by
 intro pins s σ H Q I h;refine Compare_chain (thn (n pins s σ H _ I h) λv s1 ⟨x,H1,q,t,w⟩=>chain_link (thn (o pins s1 σ H1 _ q w) λu s2 ⟨y,A,B,i,C⟩ =>
  thn (ho pins s2 σ A x y v u _ B t i C) λd D ⟨z,j,l,E,k,e,m⟩=>?_)) p
 subst e;cases E;refine KB ?_;cases k with
 | false=>exact ite_ff ⟨.bl false,j,l,rfl,m⟩
 | true=>exact ite_tt (chain_last (thn (hc pins D σ j _ l m) λw' F ⟨G,J,K,L,M⟩=>g pins F σ J y G u w' Q K i L M))
def Fj(K:ca)(x:V)(H:Hp)(k:Bool):Prop :=
 match x with
 | .non=>k=false
 | .bl b=>k=b
 | .int i=>k=(i != 0)
 | .str y=>y.length<=sizeLine/\k=((y.length:Int) != 0)
 | .byt y=>y.size<=sizeLine/\k=((y.size:Int) != 0)
 | .ref p=>(∃xs,SqL K H p xs/\k=!xs.isEmpty)\/(∃xs,SqT K H p xs/\k=!xs.isEmpty)\/∃kvs,H p=some (.dK kvs)/\k=!kvs.isEmpty
 | _=>False
theorem rV{κ:Type}{kvs:List (κ×V)}{vs:List (κ×as)}(r:KV kvs vs):(!vs.isEmpty)=!kvs.isEmpty:=by cases r <;> rfl
theorem jH{xs:List V}{a:List as}(r:aH xs a):(!a.toArray.isEmpty)=!xs.isEmpty:=by cases r <;> simp
theorem iQ:(sizeLine:Nat)<2 ^ 63:=by rw[z0];decide
theorem Cz:IA X (λx H Q=>∃k,Fj X.K x H k/\Q k H):=by
 intro pins s σ H x v Q I c h;obtain⟨k,e,q⟩:=h;have hl:=iQ;have hs:sizeLine=16777216:=z0;cases x with
 | non =>
  cases c;have e':k=false:=e;subst e';exact truthy_none ⟨H,I,q⟩
 | bl b =>
  cases c;have e':k=b:=e;subst e';exact KB ⟨H,I,q⟩
 | int i =>
  obtain⟨t,rfl⟩:=c;have e':k=(i != 0):=e;subst e';exact PySem.P.truthy_int ⟨H,I,q⟩
 | str y =>
  obtain⟨t,rfl⟩:=c;obtain⟨f,e'⟩:y.length<=sizeLine/\k=((y.length:Int) != 0):=e;subst e';exact PySem.P.truthy_str (by omega) ⟨H,I.tok _,q⟩
 | byt y =>
  obtain⟨t,rfl⟩:=c;obtain⟨f,e'⟩:y.size<=sizeLine/\k=((y.size:Int) != 0):=e;subst e';exact PySem.W.truthy_bytes (by omega) ⟨H,I.tok _,q⟩
 | ref p =>
  cases c;have e':(∃xs,SqL X.K H p xs/\k=!xs.isEmpty)\/(∃xs,SqT X.K H p xs/\k=!xs.isEmpty)\/∃kvs,H p=some (.dK kvs)/\k=!kvs.isEmpty:=e;rcases e' with⟨xs,hx,e'⟩|⟨xs,hx,e'⟩|⟨kvs,hx,e'⟩
  subst e';obtain⟨d,r,pl,hz⟩:=I.list hx;have a:=r.length;exact wpAny_truthy_list pl.isList (by simp only[IV];omega) ⟨H,I.tok _,by rw[jH r];exact q⟩;subst e';obtain⟨d,r,pl,hz⟩:=I.tuple hx;have a:=r.length;exact truthy_tuple pl (by simp only[IV];omega) ⟨H,I.tok _,by rw[jH r];exact q⟩;subst e';obtain⟨hz,g,vs,r,m⟩:kvs.length<=sizeLine/\(p==cf)=false/\∃vs,KV kvs vs/\s.heap.DictOf (cR X.prog X.w) p vs:=I.hok p _ hx;have a:kvs.length=vs.length:=Paired.length r;exact wpAny_truthy_dict g m (by omega) ⟨H,I.tok _,by rw[rV r];exact q⟩
 | _=>exact(show False from e).elim
theorem wL(c:PE X a ta)(d:∀b,QF a X.env b=(do let v <-b;K2 a.pos;KI [v] (Ze v))) :
  PT X a (λσ H Q=>ta σ H λx H'=>∃k,Fj X.K x H' k/\Q k H'):=by intro pins s σ H Q I h;exact isTrue_plain (thn (c pins s σ H _ I h) λv s1 ⟨x,H1,e,f,g⟩=>Cz pins s1 σ H1 x v Q e f g) (d _)
theorem d5:OpR X (KN .Add) (λx y H Q=>∃i j,x=.str i/\y=.str j/\i.length+j.length<=sizeLine/\Q (.str (i++j)) H):=by intro pins s σ H x y v u Q I a b h;obtain⟨i,j,rfl,rfl,hz,q⟩:=h;obtain⟨t,rfl⟩:=a;obtain⟨t',rfl⟩:=b;exact add_str (λt' tk=>⟨.str (i++j),H,I.tok _,⟨_,rfl⟩,q⟩) hz
theorem fw{x:V}{us:List as}(r:aH [x] us):∃u,us=[u]/\be x u:=by
 cases r with
 | cons a b=>cases b;exact⟨_,rfl,a⟩
theorem sJ{x y:V}{us:List as}(r:aH [x,y] us):∃u w',us=[u,w']/\be x u/\be y w':=by
 cases r with
 | cons a b =>
  cases b with
  | cons c d=>cases d;exact⟨_,_,rfl,a,c⟩
theorem vB(hc:X.calm=true):cZ X (.builtin "min") (λxs H Q=>∃i j,xs=[.int i,.int j]/\Q (.int (if j<i then j else i)) H):=by
 intro pins s σ H xs us Q I r h;obtain⟨i,j,rfl,q⟩:=h;obtain⟨u,w',rfl,⟨t,rfl⟩,⟨t',rfl⟩⟩:=sJ r;refine min_two_ints (I.ok.hd hc) λh' tk k=>⟨_,H,I.kept k,?_,q⟩
 by_cases hj:j<i;rw[if_pos hj,if_pos hj];exact⟨_,rfl⟩;rw[if_neg hj,if_neg hj];exact⟨_,rfl⟩
theorem mQ:cZ X (.type "str") (λxs H Q=>∃i,xs=[.int i]/\i.natAbs.log2<1920/\Q (.str (toString i)) H):=by intro pins s σ H xs us Q I r h;obtain⟨i,rfl,hz,q⟩:=h;obtain⟨u,rfl,t,rfl⟩:=fw r;exact PySem.P.str_of_int hz ⟨.str _,H,I.tok _,⟨_,rfl⟩,q⟩
end
structure B9(h:bd)(x dx C:ap)(mA:bx->Option as):Prop where
 obj:h.get? x=some (PySem.W.instObj C dx)
 ns : h.Ns1 dx mA
 ne : dx≠x
theorem uH{h:bd}{dx:ap}{mA:bx->Option as}(n:h.Ns1 dx mA):∃od,h.get? dx=some od/\∀name,PySem.W.lookIn name od=some (mA name):=by
 obtain⟨o,es,ep,ho,hd,hk,_,c⟩:=n;refine⟨o,ho,λname=>?_⟩;have e:=c name;unfold nsFind findBy at e;rw[<-Array.find?_toList] at e;unfold PySem.W.lookIn;rw[hd];dsimp only;split;rename_i y q;rw[q] at e;exact congrArg some e;rename_i q;rw[q] at e;have a:es.toList.any (·.refKey)=false:=by rw[List.any_eq_false];intro y d;obtain⟨z,t,b⟩:=hk y (Array.mem_toList_iff.mp d);simp[DictEntry.refKey,b]
 have f:¬es.toList.any (·.refKey)=true:=by rw[a];exact Ja
 rw[if_neg f];exact congrArg some e
theorem B9.look{h:bd}{x dx C:ap}{mA:bx->Option as}(I:B9 h x dx C mA):∃od,PySem.W.InstAt h x (PySem.W.instObj C dx) C (some od)/\∀name,PySem.W.lookIn name od=some (mA name) :=
 let ⟨od,ho,hl⟩:=uH I.ns
 ⟨od,⟨I.obj,rfl,rfl,ho⟩,hl⟩
section
variable {prog:q3}{w:zb}{A:Around}{E:as->ba->Prop}{s:ba}{K:ca}{x dx C f:ap}{mA:bx->Option as}{name:bx}{v:as}
theorem Bp{a:Bool}{Q:as->ba->Prop}(X:K.In s.heap)(I:B9 s.heap x dx C mA)(hg:PySem.W.plainGet K C name=true)(c:PySem.W.hasDictIn K C=true)
  (d:PySem.W.findIn K (.ref C) name=some none) (hv:mA name=some v) (b:PySem.W.handedIn v=true) (h:Q v { s with toks:=s.toks+1 }) :
  kw (qb prog w) A (getAttr (.ref x) name a) Q E s:=by obtain⟨od,J,hl⟩:=I.look;exact PySem.W.get_value X J (PySem.W.plainGet_of hg).1 (PySem.W.findObj_own c d rfl (by rw[hl,hv])) b h
theorem xH{pl:Sem Bool}{Q:as×List as->ba->Prop}(X:K.In s.heap)(I:B9 s.heap x dx C mA)(hg:PySem.W.plainGet K C name=true)
  (a:PySem.W.findIn K (.ref C) name=some (some (.ref f))) (ht:PySem.W.isFn K (.ref f)=true) (hv:mA name=none) (h:Q (.ref f,[.ref x]) s) :
  kw (qb prog w) A (Qu (.ref x) name pl) Q E s:=by obtain⟨od,J,hl⟩:=I.look;exact PySem.W.method_fn X J (PySem.W.plainGet_of hg).1 (PySem.W.plainGet_of hg).2 a (beq_iff_eq.mp ht) (by show(PySem.W.lookIn name od).map (·.isSome)=some false;rw[hl,hv];rfl) h
theorem zZ{ns:List bx}{Q:Unit->ba->Prop}(X:K.In s.heap)(I:B9 s.heap x dx C mA)
  (hs:PySem.W.findIn K (.ref C) "__setattr__" = some (some (.builtin "object.__setattr__"))) (i:PySem.W.plainOver K C=true) (ht:PySem.W.takerIn K C name=some none) (j:PySem.W.hasDictIn K C=true)
  (hw:PySem.Within mA ns) (hsz:ns.length<=sizeLine)
  (h : ∀h',B9 h' x dx C (λy=>if y=name then some v else mA y)->Heap.SameBut dx s.heap h'->Q () { s with heap:=h',toks:=s.toks+2 }) :
  kw (qb prog w) A (setAttr (.ref x) name v) Q E s:=by obtain⟨od,J,hl⟩:=I.look;refine PySem.W.set_plain X J hs (PySem.W.osa_open (s:={ s with toks:=s.toks+1 }) (r:=none) X J i ht λb=>?_);obtain⟨cd,hc,d⟩:=PySem.W.any_some j;have hx:s.heap.get? x=some ⟨.ref C,some dx,.plain,#[]⟩:=I.obj;refine jj (ke (jj (jj (wpAny_loadPart hx (jj (PySem.W.Looks.here (s:={ s with toks:=s.toks+1 }) (PySem.W.looks_clsIn X hc) ?_))))));rw[d];refine ke (a:=some dx) (jj (ke (jj ?_)));refine wpAny_nsSet1 (s:={ s with toks:=s.toks+1 }) I.ns λh' hn2 c=>?_;obtain⟨m,k,l,e,f,g⟩:=hn2.count (PySem.Within.cons name v hw);refine jj (wpAny_lookBehind e (by rw[f];exact pastItsLine_dict (IQ g (by rw[Jf];omega))) ?_);exact ke (h _ ⟨(c.2 _ (Ne.symm I.ne)).trans I.obj,hn2,I.ne⟩ c)
theorem xm{R:Q2->ba->Prop}{vs:List as}{a:List (bx×as)}(X:K.In s.heap)(b:PySem.W.makesIn K C=true)
  (hi:PySem.W.findIn K (.ref C) "__init__" = some (some (.ref f))) (c:PySem.W.typeIn K (.ref f)=some (.type "function"))
  (h : KM (qb prog w) (A.under (.builtin "type.__call__" ⟨.ref C::vs,a⟩)) (.call (.ref f) ⟨.ref (s.heap.objs.size+1)::vs,a⟩) (PySem.W.InitBack (s.heap.objs.size+1) R)
   { s with heap:=(s.heap.push PySem.W.emptyDict).push (PySem.W.instObj C s.heap.objs.size) }) :
  KM (qb prog w) A (.call (.ref C) ⟨vs,a⟩) R s:=by obtain⟨e,g,d,t,os⟩:=s;exact PySem.W.make_core (PySem.W.makes_of X b) (PySem.W.looks_findIn X hi) (λself=>PySem.W.bind_fn X self c) (.inl rfl) h
end
def m9(f:bx)(v:V):List (bx×V)->List (bx×V)
 | []=>[(f,v)]
 | (g,x)::r=>if g=f then (g,v)::r else (g,x)::m9 f v r
theorem iP(f g:bx)(v:V):∀fs:List (bx×V),(m9 f v fs).lookup g=if g=f then some v else fs.lookup g
 | []=>by
  show List.lookup g [(f,v)]=_;by_cases h:g=f;have a:(g==f)=true:=beq_iff_eq.mpr h;simp only[List.lookup,a,if_pos h];have a:(g==f)=false:=beq_eq_false_iff_ne.mpr h;simp only[List.lookup,a,if_neg h]
 | (k,x)::r=>by
  have b:=iP f g v r;rw[show m9 f v ((k,x)::r)=(if k=f then (k,v)::r else (k,x)::m9 f v r) from rfl];by_cases hk:k=f;rw[if_pos hk];by_cases h:g=k;have a:(g==k)=true:=beq_iff_eq.mpr h;simp only[List.lookup,a,if_pos (h.trans hk)];have a:(g==k)=false:=beq_eq_false_iff_ne.mpr h;simp only[List.lookup,a,if_neg (λe:g=f=>h (e.trans hk.symm))];rw[if_neg hk];by_cases h:g=k;have a:(g==k)=true:=beq_iff_eq.mpr h;simp only[List.lookup,a,if_neg (λe:g=f=>hk (h.symm.trans e))];have a:(g==k)=false:=beq_eq_false_iff_ne.mpr h;simp only[List.lookup,a];exact b
theorem iS(f:bx)(v:V):∀fs:List (bx×V),f∈(m9 f v fs).map (·.1)/\∀g,g∈fs.map (·.1)->g∈(m9 f v fs).map (·.1)
 | []=>⟨by simp[m9],λg h=>by simp at h⟩
 | (k,x)::r=>by
  obtain⟨i1,i2⟩:=iS f v r;rw[show m9 f v ((k,x)::r)=(if k=f then (k,v)::r else (k,x)::m9 f v r) from rfl];by_cases hk:k=f;rw[if_pos hk];subst hk;exact⟨by simp,λg h=>by simpa using h⟩;rw[if_neg hk];refine⟨?_,λg h=>?_⟩;rw[IU];exact IM _ i1;rw[IU] at h ⊢;rcases IR.mp h with e|e;exact IR.mpr (.inl e);exact IM _ (i2 g e)
theorem iR(f:bx)(v:V):∀fs:List (bx×V),(m9 f v fs).length<=fs.length+1
 | []=>by simp[m9]
 | (k,x)::r=>by
  have a:=iR f v r;rw[show m9 f v ((k,x)::r)=(if k=f then (k,v)::r else (k,x)::m9 f v r) from rfl];by_cases hk:k=f;rw[if_pos hk,Jf,Jf];omega;rw[if_neg hk,Jf,Jf];omega
theorem vV.some_of{v:V}{o:Option as}(r:vV (some v) o):∃u,o=some u/\be v u:=by
 cases o with
 | none=>exact(show False from r).elim
 | some u=>exact⟨u,rfl,r⟩
theorem vV.none_of{o:Option as}(r:vV none o):o=none:=by
 cases o with
 | none=>rfl
 | some u=>exact(show False from r).elim
theorem uT{v:V}{u:as}(r:be v u):PySem.W.handedIn u=true:=by
 cases v with
 | non=>cases (show u=Value.none from r);rfl
 | bl b=>cases (show u=Value.bool b from r);rfl
 | int i=>obtain⟨t,e⟩:=(show ∃t,u=Value.int i t from r);cases e;rfl
 | str x=>obtain⟨t,e⟩:=(show ∃t,u=Value.str x t from r);cases e;rfl
 | byt b=>obtain⟨t,e⟩:=(show ∃t,u=Value.bytes b t from r);cases e;rfl
 | flt b=>obtain⟨t,e⟩:=(show ∃t,u=Value.float b t from r);cases e;rfl
 | ref a=>cases (show u=Value.ref a from r);rfl
 | ty n=>cases (show u=Value.type n from r);rfl
section
variable {P:q3}{w:zb}{H:Hp}{h:bd}{a C dx:ap}{fs:List (bx×V)}
theorem oO(hok:HOk P w H h)(e:H a=some (.ins C dx fs)):∃mA,B9 h a dx C mA/\(∀f,vV (fs.lookup f) (mA f))/\PySem.Within mA (fs.map (·.1))/\fs.length<=1000/\H dx=some (.own a):=by
 obtain⟨d,z,ne,ob,mA,n,r,q⟩:=(show dB P w H h a (.ins C dx fs) from hok a _ e)
 exact⟨mA,⟨ob,n,ne⟩,r,q,z,d⟩
end
structure Cls(K:ca)(C:ap):Prop where
 pg : PySem.W.plainGet K C Str.empty=true
 hd : PySem.W.hasDictIn K C=true
 po : PySem.W.plainOver K C=true
 sa : PySem.W.findIn K (.ref C) "__setattr__" = some (some (.builtin "object.__setattr__"))
theorem Cls.get{K:ca}{C:ap}(c:Cls K C)(f:bx):PySem.W.plainGet K C f=true:=c.pg
def cN(K:ca)(C:ap)(f:bx):Prop:=PySem.W.findIn K (.ref C) f=some none
theorem cN.taker{K:ca}{C:ap}{f:bx}(n:cN K C f):PySem.W.takerIn K C f=some none:=by unfold PySem.W.takerIn;rw[show PySem.W.findIn K (.ref C) f=some none from n];rfl
structure EK(K:ca)(C:ap)(m:bx)(f:ap):Prop where
 at_:PySem.W.findIn K (.ref C) m=some (some (.ref f))
 fn : PySem.W.isFn K (.ref f)=true
 kp : PySem.W.keepIn K (.ref f)=true
section
variable {X:Cx}{pins:List (ap×Obj)}{σ:St}{H:Hp}{s:ba}{a C dx:ap}{fs:List (bx×V)}{f:bx}{v:V}{A:Around}{E:as->ba->Prop}
theorem rY{b:Bool}{Q:as->ba->Prop}(I:Inv X pins σ H s)(e:H a=some (.ins C dx fs))(c:Cls X.K C)(n:cN X.K C f)(l:fs.lookup f=some v)
  (h : ∀u s',Inv X pins σ H s'->be v u->Q u s'):kw (qb X.prog X.w) A (getAttr (.ref a) f b) Q E s:=by obtain⟨mA,O,r,_,_,_⟩:=oO I.hok e;obtain⟨u,g,d⟩:=vV.some_of (v:=v) (o:=mA f) (by rw[<-l];exact r f);exact Bp I.kIn O (c.get f) c.hd n g (uT d) (h u _ (I.tok _) d)
theorem jJ{m:bx}{g:ap}{pl:Sem Bool}{Q:as×List as->ba->Prop}(I:Inv X pins σ H s)(e:H a=some (.ins C dx fs))(c:Cls X.K C)(k:EK X.K C m g)(l:fs.lookup m=none)
  (h : Q (.ref g,[.ref a]) s):kw (qb X.prog X.w) A (Qu (.ref a) m pl) Q E s:=by obtain⟨mA,O,r,_,_,_⟩:=oO I.hok e;have hn:mA m=none:=vV.none_of (by rw[<-l];exact r m);exact xH I.kIn O (c.get m) k.at_ k.fn hn h
theorem rq{y:V}{u:as}{Q:Unit->ba->Prop}(I:Inv X pins σ H s)(e:H a=some (.ins C dx fs))(c:Cls X.K C)(n:cN X.K C f)(hl:fs.length<1000)(j:be y u)
  (h : ∀s',Inv X pins σ (upd H a (.ins C dx (m9 f y fs))) s'->Q () s'):kw (qb X.prog X.w) A (setAttr (.ref a) f u) Q E s:=by
 obtain⟨mA,O,r,i,_,ho⟩:=oO I.hok e;have hz:(fs.map (·.1)).length<=sizeLine:=by rw[IF,z0];omega
 refine zZ I.kIn O c.sa c.po n.taker c.hd i hz λh' d k=>h _ ?_;have hd:∃o,h'.get? dx=some o:=let ⟨o,_,_,e',_⟩:=d.ns;⟨o,e'⟩
 refine I.write (x:=a) (e:=dx) (by rw[e];exact True.intro) (.inr ho) (λb q l z=>(k.2 b l).trans z) hd ?_;refine⟨by rw[al O.ne];exact ho,?_,O.ne,d.obj,_,d.ns,λg=>?_,λg hg=>?_⟩;have:=iR f y fs;omega;show vV ((m9 f y fs).lookup g) (if g=f then some u else mA g);rw[iP];by_cases q:g=f;rw[if_pos q,if_pos q];exact j;rw[if_neg q,if_neg q];exact r g;by_cases q:g=f;rw[q];exact(iS f y fs).1;refine(iS f y fs).2 g (i g λz=>hg ?_);show(if g=f then some u else mA g)=none;rw[if_neg q];exact z
theorem Inv.made(I:Inv X pins σ H s):Inv X pins σ (upd (upd H s.heap.objs.size (.own (s.heap.objs.size+1))) (s.heap.objs.size+1) (.ins C s.heap.objs.size []))
  { s with heap:=(s.heap.push PySem.W.emptyDict).push (PySem.W.instObj C s.heap.objs.size) }:=by
 have e1:(s.heap.push PySem.W.emptyDict).get? s.heap.objs.size=some PySem.W.emptyDict:=IW s.heap rfl;have e2:((s.heap.push PySem.W.emptyDict).push (PySem.W.instObj C s.heap.objs.size)).get? (s.heap.objs.size+1)=some (PySem.W.instObj C s.heap.objs.size):=by have:=IW (s.heap.push PySem.W.emptyDict) (o:=PySem.W.instObj C s.heap.objs.size) rfl;rwa [JA] at this
 have e3:(s.heap.push PySem.W.emptyDict).Ns s.heap.objs.size (λ_=>none):=⟨PySem.W.emptyDict,#[],_,e1,rfl,(λe c=>absurd c (by simp)),λ_=>rfl⟩
 have d:=I.laid (a:=s.heap.objs.size) (o:=.own (s.heap.objs.size+1)) (h':=s.heap.push PySem.W.emptyDict) (t':=s.toks) (λb u q=>IH _ q) (IS _) ⟨_,e1⟩;refine d.laid (a:=s.heap.objs.size+1) (o:=.ins C s.heap.objs.size []) (t':=s.toks) (λb u q=>IH _ q) (Nat.le_of_eq (JA _ _)) ?_;have ne:s.heap.objs.size≠s.heap.objs.size+1:=Jd (JO _);refine⟨by rw[al ne,aq],Jb _,ne,e2,λ_=>none,(Heap.Ns1.of_empty e3).at λo q=>IH _ q,λ_=>True.intro,λy f=>absurd rfl f⟩
theorem B5{prog:q3}{w:zb}{env:Env}{e:bb}{f:bx}{pos:Pos}{s:ba}{Q:as->ba->Prop}(b:z5 e f env (eval e env)=eval e env)
  (h : kw (qb prog w) A (eval e env) (λo a=>kw (qb prog w) A (getAttr o f true) Q E a) E s):kw (qb prog w) A (eval (.Attribute e f pos) env) Q E s :=
 Attribute_any_ h (by rw[arm_eval_Attribute,b])
end
def Ft(K:ca)(ta:TE)(f:bx):TE:=λσ H Q=>ta σ H λx H1=>∃a C dx fs v,x=.ref a/\H1 a=some (.ins C dx fs)/\Cls K C/\cN K C f/\fs.lookup f=some v/\Q v H1
def GX(K:ca)(ta tv:TE)(f:bx):TS:=λD σ H=>tv σ H λy H1=>ta σ H1 λx b=>∃a C dx fs,x=.ref a/\b a=some (.ins C dx fs)/\Cls K C/\cN K C f/\fs.length<1000 /\
 D.nx σ (upd b a (.ins C dx (m9 f y fs)))
section
variable {X:Cx}{o e value:bb}{f:bx}{pos pos':Pos}{ta tv:TE}
theorem ue(d:PE X e ta)(g:z5 e f X.env (eval e X.env)=eval e X.env):PE X (.Attribute e f pos) (Ft X.K ta f):=by intro pins s σ H Q I h;refine B5 g (thn (d pins s σ H _ I h) λu s1 b=>?_);obtain⟨x,H1,i,j,a,C,dx,fs,v,ex,k,c,n,l,q⟩:=b;subst ex;obtain rfl:u=Value.ref a:=j;exact rY i k c n l λp s2 m o=>⟨v,H1,m,o,q⟩
theorem Dg(e:PE X o ta)(hv:PE X value tv)(hs:Qn value (some (.Attribute o f pos')) pos.line X.env=pure false):PS X (.Assign [.Attribute o f pos'] value pos) (GX X.K ta tv f):=by intro pins s σ H D I h;refine plainObj_wpAny_Assign_Attribute (thn (hv pins s σ H _ I h) λu s1 b=>?_) hs;obtain⟨y,H1,g,i,q⟩:=b;refine thn (e pins s1 σ H1 _ g q) λov s2 d=>?_;obtain⟨x,t,j,k,a,C,dx,fs,ex,m,c,n,l,p⟩:=d;subst ex;obtain rfl:ov=Value.ref a:=k;exact rq j m c n l i λv r=>⟨σ,_,r,p⟩
end
structure b9(k:Nat)(A:Around):Prop where
 hd : A.handled=none
 dp : A.depth+3*k+5<recursionLimit
 un : A.units+16*k+200<KD
theorem b9.mono{j k:Nat}{A:Around}(r:b9 k A)(h:j<=k):b9 j A:=⟨r.hd,by have:=r.dp;omega,by have:=r.un;omega⟩
theorem b9.deeper{k:Nat}{A:Around}(r:b9 (k+1) A)(env:Env):b9 k (A.deeper env) :=
 ⟨r.hd,by have:=r.dp;show A.depth+1+3*k+5<_;omega,by have:=r.un;show A.units+3+16*k+200<_;omega⟩
theorem b9.in1{k:Nat}{A:Around}(r:b9 (k+1) A):b9 k A.in1 :=
 ⟨r.hd,by have:=r.dp;show A.depth+3*k+5<_;omega,by have:=r.un;show A.units+1+16*k+200<_;omega⟩
theorem rR{A:Around}{C:ap}{us:List as}{a:List (bx×as)}:(A.under (.builtin "type.__call__" ⟨.ref C::us,a⟩)).depth=A.depth+1:=by first|rfl|simp[Around.under,Code.weight,Code.isCreation,Code.isGuard,Code.isCaller,Code.frames,Code.isFrame,guardIds]
theorem rQ{A:Around}{C:ap}{us:List as}{a:List (bx×as)}:(A.under (.builtin "type.__call__" ⟨.ref C::us,a⟩)).units=A.units+1:=by first|rfl|simp[Around.under,Code.cUnits,Code.frames,Code.isFrame]
theorem b9.make{k:Nat}{A:Around}(r:b9 (k+1) A)(C:ap)(us:List as)(a:List (bx×as)):b9 k (A.under (.builtin "type.__call__" ⟨.ref C::us,a⟩)) :=
 ⟨r.hd,by have:=r.dp;rw[rR];omega,by have:=r.un;rw[rQ];omega⟩
theorem b9.depth{k:Nat}{A:Around}(r:b9 k A):A.depth<recursionLimit:=by have:=r.dp;omega
theorem b9.units{k:Nat}{A:Around}(r:b9 k A):A.units+64<KD:=by have:=r.un;omega
def wb:TA:=λ_ H Q=>Q [] H
def nj(ta:TE)(tr:TA):TA:=λσ H Q=>ta σ H λx H1=>tr σ H1 λxs a=>Q (x::xs) a
section
variable {X:Cx}{e:bb}{es:List bb}{te:TE}{t:TA}{pos:Pos}
theorem fM:PA X [] wb:=λ_ _ _ _ H Q I h=>Calls.spliced_nil ⟨[],H,I,.nil,h⟩
theorem cB(b:PE X e te)(c:PA X es t)(hs:kq (e::es) X.env=(false,eval e X.env)::kq es X.env:=by rfl):PA X (e::es) (nj te t):=by intro pos pins s σ H Q I h;rw[hs];show kw _ _ (spliced ((false,eval e X.env)::ze pos (kq es X.env))) _ _ s;refine Calls.spliced_cons (thn (b pins s σ H _ I h) λu s1 a=>?_);obtain⟨x,H1,d,f,g⟩:=a;exact thn (c pos pins s1 σ H1 _ d g) λus s2 ⟨xs,i,j,k,l⟩=>⟨x::xs,i,j,.cons f k,l⟩
def HB(t:TA):TE:=λσ H Q=>t σ H λxs H1=>xs.length<=sizeLine/\∀p,H1 p=none->Q (.ref p) (upd H1 p (.tup xs))
def HF(t:TA):TE:=λσ H Q=>t σ H λxs H1=>xs.length<=sizeLine/\∀p,H1 p=none->Q (.ref p) (upd H1 p (.lst xs))
theorem yM{x1}(h:PA X es t):PE X (.Tuple es x1 pos) (HB t):=by intro pins s σ H Q I d;refine wpAny_Tuple_spliced (thn (h pos pins s σ H _ I d) λus s1 a=>?_);obtain⟨xs,H1,c,r,z,q⟩:=a;refine⟨by rw[<-r.length];exact z,?_⟩;have f:H1 s1.heap.objs.size=none:=c.hok.fresh (IS _);refine⟨.ref s1.heap.objs.size,upd H1 s1.heap.objs.size (.tup xs),c.laid (t':=s1.toks) (λb u e=>IH _ e) (IS _) ?_,rfl,q _ f⟩;exact⟨z,us,r,⟨_,IW _ rfl,rfl,⟨_,rfl⟩,rfl⟩⟩
theorem yP(h:PA X es t):PE X (.List es pos) (HF t):=by intro pins s σ H Q I d;refine wpAny_List_spliced (thn (h pos pins s σ H _ I d) λus s1 a=>?_);obtain⟨xs,H1,c,r,z,q⟩:=a;refine⟨by rw[<-r.length];exact z,?_⟩;have f:H1 s1.heap.objs.size=none:=c.hok.fresh (IS _);refine⟨.ref s1.heap.objs.size,upd H1 s1.heap.objs.size (.lst xs),c.laid (t':=s1.toks) (λb u e=>IH _ e) (IS _) ?_,rfl,q _ f⟩;exact⟨z,us,0,r,IW _ rfl⟩
end
abbrev Sp:=List V->Hp->VK->XK->Prop
abbrev CXT:=List Env->Hp->ba->XK->as->ba->Prop
structure sy(P:q3)(w:zb)(K:ca)(mg:bx->Option as)(base:bd)(A:Around)(outer:List Env)(s:ba)(H:Hp):Prop where
 frames:A.frames=some outer
 mod:Mod K mg base
 bs : ∀b o,base.get? b=some o->s.heap.get? b=some o/\H b=none
 bsz:base.objs.size<=s.heap.objs.size
 funs:s.heap.FunFrames base outer
 frf:∀b∈frs outer,H b=none
 hok:HOk P w H s.heap
 bare:Qx s.gens
 tab:zE K H
def CE(outer:List Env)(P:q3)(w:zb)(H:Hp)(s:ba)(Q:VK)(u:as)(s':ba):Prop :=
 ∃v H',s'.os=s.os/\Qx s'.gens/\Un (frs outer) [] H H' s.heap s'.heap/\HOk P w H' s'.heap/\be v u/\Q v H'
def CR(CX:CXT)(outer:List Env)(P:q3)(w:zb)(H:Hp)(s:ba)(Q:VK)(E:XK)(r:Q2)(s':ba):Prop :=
 match r with
 | .ok (.ret u)=>CE outer P w H s Q u s'
 | .ok _=>False
 | .error e=>CX outer H s E e s'
structure a9(P:q3)(w:zb)(K:ca)(mg:bx->Option as)(base:bd)(CX:CXT)(k:Nat)(f:ap)(fd:kN)(ps:List bx)(sp:Sp):Prop where
 len:∀vs H Q E,sp vs H Q E->vs.length=ps.length
 run:∀(A:Around) (outer:List Env) (s:ba) (H:Hp) (args:Args) (us:List as) (vs:List V) (Q:VK) (E:XK),b9 k A->sy P w K mg base A outer s H->QJ s fd args (ps.zip us)->aH vs us->sp vs H Q E ->
  KM (qb P w) A (.call (.ref f) args) (CR CX outer P w H s Q E) s
theorem a9.mono{P:q3}{w:zb}{K:ca}{mg:bx->Option as}{base:bd}{CX:CXT}{j k:Nat}{f:ap}{fd:kN}{ps:List bx}{sp:Sp}(F:a9 P w K mg base CX j f fd ps sp)(h:j<=k) :
  a9 P w K mg base CX k f fd ps sp:=⟨F.len,λA outer s H args us vs Q E a=>F.run A outer s H args us vs Q E (a.mono h)⟩
theorem sy.make{P:q3}{w:zb}{K:ca}{mg:bx->Option as}{base:bd}{A:Around}{outer:List Env}{s:ba}{H:Hp}(e:sy P w K mg base A outer s H)(C:ap)(us:List as)(a:List (bx×as)) :
  sy P w K mg base (A.under (.builtin "type.__call__" ⟨.ref C::us,a⟩)) outer s H:=⟨by first|exact e.frames|(simpa[Around.under,Code.envs,Code.isFrame,pushEnvs] using e.frames),e.mod,e.bs,e.bsz,e.funs,e.frf,e.hok,e.bare,e.tab⟩
theorem sy.in1{P:q3}{w:zb}{K:ca}{mg:bx->Option as}{base:bd}{A:Around}{outer:List Env}{s:ba}{H:Hp}(e:sy P w K mg base A outer s H) :
  sy P w K mg base A.in1 outer s H:=⟨e.frames,e.mod,e.bs,e.bsz,e.funs,e.frf,e.hok,e.bare,e.tab⟩
section
variable {X:Cx}{pins:List (ap×Obj)}{σ:St}{H:Hp}{s s':ba}
theorem Inv.env0(I:Inv X pins σ H s):sy X.prog X.w X.K X.mg X.base X.A X.stack s H :=
 ⟨I.ok.frames,I.ok.mod,I.bs,IQ I.ok.bsz I.sz,I.stack,I.stkFree,I.hok,I.bare,λT q h=>I.base.tbls T q (I.ok.tab T q h)⟩
theorem Inv.after{Q:VK}{u:as}(I:Inv X pins σ H s)(h:CE X.stack X.prog X.w H s Q u s'):EP X pins σ Q u s':=by obtain⟨v,H',os,bare,un,hok,r,q⟩:=h;obtain⟨c,g,d,t,a⟩:=s';obtain rfl:a=s.os:=os;exact⟨v,H',I.call (h':=c) (g':=g) (d':=d) (t':=t) (ch:=[]) un hok bare (λb z=>absurd z (by simp)),r,q⟩
end
def nq(sp:Sp)(dvs:List V)(E:XK)(t:TA):TE:=λσ H Q=>t σ H λvs H1=>sp (vs++dvs) H1 Q E
def sQ(C:ap)(m:bx)(sp:Sp)(dvs:List V)(E:XK)(ta:TE)(t:TA):TE:=λσ H Q=>ta σ H λx H1=>∃a dx fs,x=.ref a/\H1 a=some (.ins C dx fs)/\fs.lookup m=none /\
 t σ H1 λvs b=>sp (x::(vs++dvs)) b Q E
def zR(C:ap)(sp:Sp)(dvs:List V)(E:XK)(t:TA):TE:=λσ H Q=>t σ H λvs H1=>∀x dx,H1 x=none->H1 dx=none->dx≠x ->
 sp (.ref x::(vs++dvs)) (upd (upd H1 dx (.own x)) x (.ins C dx [])) (λv a=>v=.non/\Q (.ref x) a) E
def cV(K:ca)(fd:kN)(ps:List bx)(ds:List as):Prop :=
 ∀(s:ba) (us:List as),K.In s.heap->(us++ds).length=ps.length->QJ s fd ⟨us,[]⟩ (ps.zip (us++ds))
theorem cV.all{K:ca}{fd:kN}{ps:List bx}(h:∀us:List as,us.length=ps.length->Qj fd ⟨us,[]⟩=pure (ps.zip us)):cV K fd ps []:=λs us _ hl=>by
 rw[Jh] at hl ⊢;exact .of_eq (h us hl)
def ja(CX:CXT)(X:Cx)(E:XK):Prop:=∀(pins:List (ap×Obj)) (σ:St) (H:Hp) (s:ba) (e:as) (s':ba),Inv X pins σ H s->CX X.stack H s E e s'->X.xe e s'
section
variable {X:Cx}{CX:CXT}{k:Nat}{f C:ap}{fd:kN}{ps:List bx}{sp:Sp}{dvs:List V}{ds:List as}{E:XK}{x m:bx}{p pos apos:Pos}{e o:bb}{es:List bb}{ta:TE}{t:TA}
theorem tI{pins:List (ap×Obj)}{σ:St}{H:Hp}{s:ba}{Q:VK}{us:List as}{vs:List V}(F:a9 X.prog X.w X.K X.mg X.base CX k f fd ps sp)(c:b9 k X.A)(d:cV X.K fd ps ds)(hd:aH dvs ds)(hx:ja CX X E)
  (I : Inv X pins σ H s) (r:aH vs us) (h:sp (vs++dvs) H Q E):kw (qb X.prog X.w) X.A (call (.ref f) us) (EP X pins σ Q) X.xe s:=by
 have b:aH (vs++dvs) (us++ds):=r.append hd;have hl:(us++ds).length=ps.length:=by rw[<-b.length];exact F.len _ _ _ _ h
 refine Zd (Qw (F.run X.A X.stack s H ⟨us,[]⟩ (us++ds) (vs++dvs) Q E c I.env0 (d s us I.kIn hl) b h) λr s' a=>?_);cases r with
 | error e=>exact hx pins σ H s e s' I a
 | ok fl =>
  cases fl with
  | ret u=>exact I.after a
  | next=>exact False.elim a
  | brk=>exact False.elim a
  | cont=>exact False.elim a
theorem AQ(F:a9 X.prog X.w X.K X.mg X.base CX k f fd ps sp)(g:b9 k X.A)(hg:Gl X x)(i:X.mg x=some (.ref f))(hk:PySem.W.keepIn X.K (.ref f)=true)(j:cV X.K fd ps ds)(hd:aH dvs ds)(hx:ja CX X E)
  (l:PA X (e::es) t) (a:(x==("__debug__" : bx))=false:=by decide) (m:kq (e::es) X.env=(false,eval e X.env)::kq es X.env:=by rfl) (b:(ze pos (kq es X.env)).any (·.1)=false:=by rfl) :
  PE X (.Call (.Name x p) (e::es) [] pos) (nq sp dvs E t):=by intro pins s σ H Q I h;refine KZ (oK I hg i ?_ a);refine PySem.W.callWith_K (h₀:=X.base) I.ok.mod.kin hk (thn (l pos pins s σ H _ I h) λus s1 c=>?_) m b;obtain⟨vs,H1,d,r,q⟩:=c;refine⟨d.kIn,?_⟩;exact tI F g j hd hx d r q
theorem ub{pl:Sem Bool}(v:PE X o ta)(c:Cls X.K C)(j:EK X.K C m f)(F:a9 X.prog X.w X.K X.mg X.base CX k f fd ps sp)(y:b9 k X.A)(z:cV X.K fd ps ds)(hd:aH dvs ds)(hx:ja CX X E)(B:PA X (e::es) t)
  (b:kq (e::es) X.env=(false,eval e X.env)::kq es X.env:=by rfl) (d:(ze pos (kq es X.env)).any (·.1)=false:=by rfl)
  (ht:eval (.Call (.Attribute o m apos) (e::es) [] pos) X.env=(do
   let ov <-eval o X.env
   K2 apos.atName
   let (f,first) <-KI [ov] (Qu ov m pl)
   Zj pos f first (ze pos (kq (e::es) X.env)) (KU pos (KA [] X.env))):=by rfl) :
  PE X (.Call (.Attribute o m apos) (e::es) [] pos) (sQ C m sp dvs E ta t):=by intro pins s σ H Q I h;refine PySem.W.methodCall_KW (pl:=pl) (thn (v pins s σ H _ I h) λu s1 g=>?_) ht;obtain⟨x,H1,n,D,a,dx,fs,ex,G,l,q⟩:=g;subst ex;obtain rfl:u=Value.ref a:=D;refine jJ n G c j l ?_;refine PySem.W.callWith_K (first:=[.ref a]) (h₀:=X.base) I.ok.mod.kin j.kp (thn (B pos pins s1 σ H1 _ n q) λus s2 i=>?_) b d;obtain⟨vs,L,p,r,J⟩:=i;refine⟨p.kIn,?_⟩;exact tI (us:=.ref a::us) (vs:=.ref a::vs) F y z hd hx p (.cons rfl r) J
theorem wS{pl:Sem Bool}(g:PE X o ta)(c:Cls X.K C)(e:EK X.K C m f)(F:a9 X.prog X.w X.K X.mg X.base CX k f fd ps sp)(i:b9 k X.A)(j:cV X.K fd ps ds)(hd:aH dvs ds)(hx:ja CX X E)
  (ht:eval (.Call (.Attribute o m apos) [] [] pos) X.env=(do
   let ov <-eval o X.env
   K2 apos.atName
   let (f,first) <-KI [ov] (Qu ov m pl)
   Zj pos f first (ze pos (kq [] X.env)) (KU pos (KA [] X.env))):=by rfl) :
  PE X (.Call (.Attribute o m apos) [] [] pos) (sQ C m sp dvs E ta wb):=by intro pins s σ H Q I h;refine PySem.W.methodCall_KW (pl:=pl) (thn (g pins s σ H _ I h) λu s1 b=>?_) ht;obtain⟨x,H1,d,n,a,dx,fs,ex,p,l,q⟩:=b;subst ex;obtain rfl:u=Value.ref a:=n;refine jJ d p c e l ?_;exact PySem.W.callWith_K0 (first:=[.ref a]) d.kIn e.kp (tI (us:=[.ref a]) (vs:=[.ref a]) F i j hd hx d (.cons rfl .nil) q)
structure Mk(K:ca)(C f:ap):Prop where
 makes:PySem.W.makesIn K C=true
 init:PySem.W.findIn K (.ref C) "__init__" = some (some (.ref f))
 fn : PySem.W.isFn K (.ref f)=true
 kp : PySem.W.keepIn K (.ref C)=true
theorem wC{pins:List (ap×Obj)}{σ:St}{H:Hp}{s:ba}{Q:VK}{us:List as}{vs:List V}(M:Mk X.K C f)(F:a9 X.prog X.w X.K X.mg X.base CX k f fd ps sp)(g:b9 (k+1) X.A)(i:cV X.K fd ps ds)(hd:aH dvs ds)
  (hx:ja CX X E) (I:Inv X pins σ H s) (r:aH vs us)
  (h : ∀x dx,H x=none->H dx=none->dx≠x->sp (.ref x::(vs++dvs)) (upd (upd H dx (.own x)) x (.ins C dx [])) (λv j=>v=.non/\Q (.ref x) j) E) :
  kw (qb X.prog X.w) X.A (call (.ref C) us) (EP X pins σ Q) X.xe s:=by
 have c:=h (s.heap.objs.size+1) s.heap.objs.size (I.hok.fresh (Kb _)) (I.hok.fresh (IS _)) (Jd (JO _));have b:=Inv.made (C:=C) I;have d:aH (V.ref (s.heap.objs.size+1)::(vs++dvs)) (Value.ref (s.heap.objs.size+1)::(us++ds)):=.cons rfl (r.append hd);have hl:(Value.ref (s.heap.objs.size+1)::us++ds).length=ps.length:=by have e:=d.length;rw[F.len _ _ _ _ c] at e;exact e.symm
 refine Zd (xm (f:=f) I.kIn M.makes M.init (beq_iff_eq.mp M.fn) (Qw (F.run _ X.stack _ _ ⟨Value.ref (s.heap.objs.size+1)::us,[]⟩ (Value.ref (s.heap.objs.size+1)::(us++ds)) _ _ E (g.make C us [])
  (b.env0.make C us []) (i _ (Value.ref (s.heap.objs.size+1)::us) b.kIn hl) d c) λr s' a=>?_))
 cases r with
 | error e=>exact hx pins σ _ _ e s' b a
 | ok fl =>
  cases fl with
  | ret u =>
   obtain⟨v,H',l,rv,ev,m⟩:=b.after a;subst ev;exact⟨rv,⟨V.ref (s.heap.objs.size+1),H',l,rfl,m⟩⟩
  | next=>exact False.elim a
  | brk=>exact False.elim a
  | cont=>exact False.elim a
theorem wT(M:Mk X.K C f)(F:a9 X.prog X.w X.K X.mg X.base CX k f fd ps sp)(b:b9 (k+1) X.A)(hg:Gl X x)(c:X.mg x=some (.ref C))(d:cV X.K fd ps ds)(hd:aH dvs ds)(hx:ja CX X E)
  (a:(x==("__debug__" : bx))=false:=by decide):PE X (.Call (.Name x p) [] [] pos) (zR C sp dvs E wb):=by intro pins s σ H Q I h;refine KZ (oK I hg c ?_ a);exact PySem.W.callWith_K0 I.kIn M.kp (wC (us:=[]) M F b d hd hx I .nil h)
end
def PK(X:Cx)(kws:List KS)(t:TA):Prop :=
 ∀(pos:Pos) (pins:List (ap×Obj)) (s:ba) (σ:St) (H:Hp) (Q:List V->Hp->Prop),Inv X pins σ H s->t σ H Q->kw (qb X.prog X.w) X.A (evalAll ((KU pos (KA kws X.env)).map (·.2))) (AP X pins σ Q) X.xe s
section
variable {X:Cx}{x:bx}{pos kpos:Pos}{e:bb}{kws:List KS}{te:TE}{t:TA}{nm:Option bx}
theorem Dh:PK X [] wb:=λ_ _ _ _ H Q I h=>wpAny_evalAll_nil ⟨[],H,I,.nil,h⟩
theorem AB(b:PE X e te)(c:PK X kws t):PK X (⟨nm,e,kpos⟩::kws) (nj te t):=by intro pos pins s σ H Q I h;show kw _ _ (evalAll ((do let v <-eval e X.env;K2 pos;pure v)::(KU pos (KA kws X.env)).map (·.2))) _ _ s;refine wpAny_evalAll_cons (jj (thn (b pins s σ H _ I h) λu s1 a=>?_));obtain⟨x,H1,d,f,g⟩:=a;refine jj (Qp (ke ?_));exact thn (c pos pins s1 σ H1 _ d g) λus s2 ⟨xs,i,j,k,l⟩=>⟨x::xs,i,j,.cons f k,l⟩
end
structure ak(N P:List bx)(sc:KL):Prop where
 kind:sc.kind=.function
 co : sc.isCoroutine=false
 gen:sc.isGenerator=false
 nd : N.Nodup
 pre:N.take P.length=P
 par:∀x∈P,sc.names.lookup x=some .local\/sc.names.lookup x=some .cell
 nofree:∀y∈sc.names,y.2≠.free
theorem mV{kindOf:bx->Option NameKind}{x:bx}:∀{binds:List (bx×as)}{m:bx->Option as},(∀v,(x,v) ∉ binds)->Zw kindOf binds m x=m x
 | [],_,_=>rfl
 | (n,v)::r,m,h=>by
  unfold Zw;rw[mV λw hw=>h w (IM _ hw)];split;have:x≠n:=by rintro rfl;exact h v IL
  simp[this];rfl
theorem mX{kindOf:bx->Option NameKind}{x:bx}:∀{binds:List (bx×as)}{m:bx->Option as},(∀v,(x,v) ∉ binds)->Zx kindOf binds m x=m x
 | [],_,_=>rfl
 | (n,v)::r,m,h=>by
  unfold Zx;rw[mX λw hw=>h w (IM _ hw)];split;rfl;have:x≠n:=by rintro rfl;exact h v IL
  simp[this]
theorem mW{kindOf:bx->Option NameKind}{x:bx}{v:as}:∀{P:List bx}{vs:List as}{i:Nat}{m:bx->Option as},P.Nodup->P[i]? = some x->vs[i]? = some v->kindOf x=some .local ->
  Zw kindOf (P.zip vs) m x=some v
 | [],_,_,_,_,h,_,_=>by simp at h
 | _::_,[],_,_,_,_,h,_=>by simp at h
 | p::P,w::vs,0,m,nd,h1,h2,hk=>by
  simp at h1 h2;subst h1;subst h2;show Zw kindOf ((p,w)::P.zip vs) m p=_;unfold Zw;rw[mV λv hv=>(Jr.mp nd).1 (Kg hv).1,if_pos hk];simp
 | p::P,w::vs,i+1,m,nd,h1,h2,hk=>by
  show Zw kindOf ((p,w)::P.zip vs) m x=_;unfold Zw;exact mW (i:=i) (Jr.mp nd).2 (by simpa using h1) (by simpa using h2) hk
theorem mY{kindOf:bx->Option NameKind}{x:bx}{v:as}:∀{P:List bx}{vs:List as}{i:Nat}{m:bx->Option as},P.Nodup->P[i]? = some x->vs[i]? = some v->kindOf x≠some .local ->
  Zx kindOf (P.zip vs) m x=some v
 | [],_,_,_,_,h,_,_=>by simp at h
 | _::_,[],_,_,_,_,h,_=>by simp at h
 | p::P,w::vs,0,m,nd,h1,h2,hk=>by
  simp at h1 h2;subst h1;subst h2;show Zx kindOf ((p,w)::P.zip vs) m p=_;unfold Zx;rw[mX λv hv=>(Jr.mp nd).1 (Kg hv).1,if_neg hk];simp
 | p::P,w::vs,i+1,m,nd,h1,h2,hk=>by
  show Zx kindOf ((p,w)::P.zip vs) m x=_;unfold Zx;exact mY (i:=i) (Jr.mp nd).2 (by simpa using h1) (by simpa using h2) hk
def start(N:List bx)(vs:List V):St:=vs.map some++JN (N.length - vs.length) none
def sC(CX:CXT)(P:q3)(w:zb)(K:ca)(mg:bx->Option as)(base:bd)(N:List bx)(qual:bx)(scope:KL)(f:ap)(cd:as)(A:Around)(outer:List Env)(s:ba)(H:Hp)(E:XK):Cx where
 prog:=P
 w := w
 K := K
 mg := mg
 base:=base
 A := A.deeper (Qq qual scope s.heap.objs.size f cd)
 N := N
 s₀ := s
 H₀ := H
 env:=Qq qual scope s.heap.objs.size f cd
 outer:=outer
 stack:=Qq qual scope s.heap.objs.size f cd::outer
 ex := []
 calm:=true
 fn := λ_=>true
 pn := []
 xe := λe s'=>kw (qb P w) (A.deeper (Qq qual scope s.heap.objs.size f cd)) (leaving (Qq qual scope s.heap.objs.size f cd) e) (λ_ a=>CX outer H s E e a) (λe' a=>CX outer H s E e' a) s'
theorem kG{sc:KL}{n:Nat}{x:bx}(h:sc.names.lookup x=some .cell):∃c,(Kx n sc.names []).lookup x=some c:=by have q:=PySem.W.cellsFrom_some sc.names n [] (.inl h);exact Ka.mp q
theorem mC{CX:CXT}{P:q3}{w:zb}{K:ca}{mg:bx->Option as}{base:bd}{N ps:List bx}{qual:bx}{scope:KL}{f:ap}{cd:as}{A:Around}{outer:List Env}{s s1:ba}{H:Hp}{E:XK}{us:List as}{vs:List V}
  (S : ak N ps scope) (hd:A.handled=none) (d:sy P w K mg base A outer s H) (hl:vs.length=ps.length) (r:aH vs us)
  (x : InCallC s s.heap.objs.size (Zw (Qq qual scope s.heap.objs.size f cd).kindOf (ps.zip us) λ_=>none) (Kx (s.heap.objs.size+1) scope.names []) (Zx (Qq qual scope s.heap.objs.size f cd).kindOf (ps.zip us) λ_=>none) s1) :
  Inv (sC CX P w K mg base N qual scope f cd A outer s H E) [] (start N vs) H s1:=by
 have t:ps.length<=N.length:=by have:=congrArg List.length S.pre;rw[JC] at this;omega
 obtain⟨h1,tk,rfl,hk⟩:=x.done;have g:∀b:ap,b ∉ (sC CX P w K mg base N qual scope f cd A outer s H E).ex:=λb z=>absurd (show b∈([]:List ap) from z) (by simp);refine⟨⟨d.mod,S.kind,rfl,rfl,IS _,λy z c h1 h2=>?_,λy j=>?_,λy c _ h=>?_,λ_=>hd,Around.frames_deeper d.frames,.inr ⟨rfl,rfl⟩,λb z=>absurd z (g b),d.bs,d.bsz,λb _ _=>g b,λb z=>absurd z (g b),d.funs,d.frf,d.tab⟩,
  rfl,d.bare,Un.kept hk,⟨_,x.toInCall.ns,λi y v h1 h2 h3=>?_⟩,λy c h=>⟨_,x.cell y c h⟩,d.hok.fresh (IS _),λy c h=>?_,λp l=>absurd (show p∈([]:List (ap×Obj)) from l) (by simp),d.hok.kept hk,?_⟩
 exact name_of_addr x.apart (PySem.mem_of_lookup h1) (PySem.mem_of_lookup h2);have j:scope.names.lookup y=some .cell\/scope.names.lookup y=some .free:=j;rcases j with j|j;exact kG j;exact absurd rfl (S.nofree _ (PySem.mem_of_lookup j));exact JW (x.above y c (PySem.mem_of_lookup h));have hi:i<vs.length:=by unfold start at h2;by_cases hi:i<vs.length;exact hi;rw[JV (by simpa using hi)] at h2;rw[List.getElem?_replicate] at h2;split at h2 <;> cases h2
 have B:vs[i]? = some v:=by
  unfold start at h2;rw[JM (by simpa using hi),Jt] at h2;cases e:vs[i]? with
  | none=>rw[e] at h2;cases h2
  | some a=>rw[e] at h2;cases h2;rfl
 obtain⟨u,o,rv⟩:=r.get B;have l:ps[i]? = some y:=by rw[<-S.pre,List.getElem?_take_of_lt (by omega)];exact h1
 have m:ps.Nodup:=by rw[<-S.pre];exact S.nd.sublist (List.take_sublist _ _)
 refine⟨u,rv,?_⟩;rcases S.par y (J9 l) with k|k;exact .inl ⟨k,mW m l o k⟩;obtain⟨c,e⟩:=kG (n:=s.heap.objs.size+1) k;refine .inr ⟨.inl k,c,e,?_⟩;have q:=x.cell y c e;rw[mY m l o (by show scope.names.lookup y≠_;rw[k];decide)] at q;exact q;exact d.hok.fresh (JW (x.above y c (PySem.mem_of_lookup h)));unfold start;show _=N.length;rw[Jg,IF,List.length_replicate];omega
theorem Ef{CX:CXT}{P:q3}{w:zb}{K:ca}{mg:bx->Option as}{base:bd}{k:Nat}{f:ap}{name qual:bx}{params:QK}{body:List Stmt}{scope:KL}{l kV doc pm cdv ct oc:as}{an od:Option ap}
  {osl:Array (Option as)}{N ps:List bx}{sp:Sp} (p:K.lookup f=some ⟨oc,od,.func (PySem.W.fnOf name qual params body scope l kV doc pm an cdv ct),osl⟩) (h:PySem.W.codeIn K cdv qual=true) (S:ak N ps scope)
  (len:∀vs H Q E,sp vs H Q E->vs.length=ps.length)
  (a:∀(A:Around) (outer:List Env) (s:ba) (H:Hp) (vs:List V) (Q:VK) (E:XK),b9 k (A.deeper (Qq qual scope s.heap.objs.size f cdv))->sp vs H Q E ->
   ∃t,PSs (sC CX P w K mg base N qual scope f cdv A outer s H E) body t/\t { nx:=λ_ H'=>Q .non H',rt:=Q } (start N vs) H) :
  a9 P w K mg base CX (k+1) f (PySem.W.fnOf name qual params body scope l kV doc pm an cdv ct) ps sp:=by
 refine⟨len,λA outer s H args us vs Q E i d z r g=>?_⟩;have hl:=len _ _ _ _ g;have m:K.In s.heap:=d.mod.kin.keeps λb o e=>(d.bs b o e).1;have j:s.heap.NoLimit:=d.mod.nolimit.keeps λb o e=>(d.bs b o e).1;have c:∀y∈ps.zip us,scope.names.lookup y.1=some .local\/(scope.names.lookup y.1=some .cell/\((Kx (s.heap.objs.size+1) scope.names []).lookup y.1).isSome=true):=λ⟨n,v⟩ B=>by
  rcases S.par n (Kg B).1 with q|q;exact .inl q;exact .inr ⟨q,PySem.W.cellsFrom_some _ _ _ (.inl q)⟩
 refine codeAny_call_function i.depth (m _ _ p) rfl S.co S.gen rfl (PySem.W.codeRec_of m h) (z _ _ _ _ ?_);refine Zc S.kind c λenv C s1 x=>?_;subst C;refine⟨j.keeps x.toInCall.keep,codeAny_func ?_⟩;obtain⟨t,ht,D⟩:=a A outer s H vs Q E (i.deeper _) g;have I:Inv (sC CX P w K mg base N qual scope f cdv A outer s H E) [] (start N vs) H s1:=mC S i.hd d hl r x;refine z3 (ht [] s1 (start N vs) H _ I D) (λfl s' hs=>?_) λe s' hs=>hs;have fin:∀{σ':St}{H':Hp}{v:V}{u:as},Inv (sC CX P w K mg base N qual scope f cdv A outer s H E) [] σ' H' s'->be v u->Q v H'->CE outer P w H s Q u s' :=
  λ{σ' H' v u} J rv q=>⟨v,H',J.os,J.bare,J.base,J.hok,rv,q⟩
 cases fl with
 | ret u =>
  obtain⟨v,σ',H',J,rv,q⟩:=hs;exact fin J rv q
 | next =>
  obtain⟨σ',H',J,q⟩:=hs;exact fin (v:=V.non) (u:=Value.none) J rfl q
 | brk =>
  obtain⟨_,_,_,q⟩:=hs;exact False.elim q
 | cont =>
  obtain⟨_,_,_,q⟩:=hs;exact False.elim q
section
variable {X:Cx}{x:bx}{p pos:Pos}{e:bb}{es:List bb}{t:TA}{id T:String}{r:List V->Hp->VK->Prop}
def tCB(r:List V->Hp->VK->Prop)(t:TA):TE:=λσ H Q=>t σ H λvs H1=>r vs H1 Q
theorem gX(hc:cZ X (.builtin id) r)(hg:Gl X x)(c:X.mg x=none)(hv:KJ x=some (.builtin id))(d:PA X (e::es) t)(hn:x ≠ "__name__" := by decide)(a:(x==("__debug__" : bx))=false:=by decide)
  (f:kq (e::es) X.env=(false,eval e X.env)::kq es X.env:=by rfl) (b:(ze pos (kq es X.env)).any (·.1)=false:=by rfl):PE X (.Call (.Name x p) (e::es) [] pos) (tCB r t):=by intro pins s σ H Q I h;refine KZ (fR I hg c hv ?_ hn a);exact PyProof.Rows.callWith_builtin1 (thn (d pos pins s σ H _ I h) λus s1 ⟨vs,H1,g,i,j⟩=>hc pins s1 σ H1 vs us Q g i j) f b
theorem iJ(hc:cZ X (.type T) r)(hg:Gl X x)(c:X.mg x=none)(hv:KJ x=some (.type T))(d:PA X (e::es) t)(hn:x ≠ "__name__" := by decide)(a:(x==("__debug__" : bx))=false:=by decide)
  (f:kq (e::es) X.env=(false,eval e X.env)::kq es X.env:=by rfl) (b:(ze pos (kq es X.env)).any (·.1)=false:=by rfl):PE X (.Call (.Name x p) (e::es) [] pos) (tCB r t):=by intro pins s σ H Q I h;refine KZ (fR I hg c hv ?_ hn a);exact PyProof.Rows.callWith_type1 (thn (d pos pins s σ H _ I h) λus s1 ⟨vs,H1,g,i,j⟩=>hc pins s1 σ H1 vs us Q g i j) f b
end
end _L
namespace HT
open PySem PyProof.Rows
section
open PySem.SeqAt
open PySem.AutoSeq1 (wpAny_loadPart')
open PySem.MeetsSeq PySem.MeetsSeq2 PySem.MeetsSeq3
end
section
variable {prog:q3}{w:zb}{A:Around}{E:as->ba->Prop}{s:ba}
theorem cat_tup{t b:ap}{vs ws:List as}{Q:as->ba->Prop}(ht:IsTup s.heap t vs.toArray)(j:IsTup s.heap b ws.toArray)(hv:vs≠[])
  (h1:ws=[]->Q (.ref t) s) (h2:ws≠[]->Q (.ref s.heap.objs.size) { s with heap:=s.heap.push { cls:=.type "tuple",data:=.seq (vs++ws).toArray } })
  (hsz:vs.length+ws.length<=sizeLine):kw (qb prog w) A (KN .Add (.ref t) (.ref b)) Q E s:=by
 obtain⟨⟨cls,dd,data,sl⟩,ho,hc,n,hd⟩:=id ht;obtain⟨⟨h,c,data2,d⟩,a,f,i,g⟩:=id j;simp only at hc hd f g;subst hc hd f g;have e:vs.toArray++ws.toArray=(vs++ws).toArray:=by simp
 by_cases hw:ws=[]
 exact QV ⟨_,ho,rfl⟩ ⟨_,a,rfl⟩ Q0 Zq PySem.F.slot_tuple_add PySem.F.entry_tuple_add (PySem.F.args_tuple_add_2 _ _)
  (tuple_addW1 t b vs.toArray ws.toArray n i dd c sl d (by simpa using hv) (by simp[hw])) ⟨ho,a,h1 hw⟩
 refine QV ⟨_,ho,rfl⟩ ⟨_,a,rfl⟩ Q0 Zq PySem.F.slot_tuple_add PySem.F.entry_tuple_add (PySem.F.args_tuple_add_2 _ _)
  (tuple_addW2 t b vs.toArray ws.toArray n i dd c sl d (by simpa using hv) (by simpa using hw) (by rw[IV,IV];exact hsz)) ⟨ho,a,?_⟩
 rw[e];exact h2 hw
def sIx(n d:Nat):Option Int->Nat
 | none=>d
 | some v=>if v<0 then (v+(n:Int)).toNat else min v.toNat n
theorem sIx_none(n d:Nat):sIx n d none=d:=rfl
theorem sIx_nat(n d k:Nat):sIx n d (some (k:Int))=min k n:=by show(if (k:Int)<0 then ((k:Int)+(n:Int)).toNat else min (k:Int).toNat n)=min k n;rw[if_neg (by omega),Jv]
theorem CK(n d:Nat)(hd:d<=n)(o:Option Int):sIx n d o<=n:=by
 cases o with
 | none=>exact hd
 | some v =>
  show(if v<0 then (v+(n:Int)).toNat else min v.toNat n)<=n;by_cases hv:v<0;rw[if_pos hv];omega;rw[if_neg hv];exact Nat.min_le_right _ _
theorem vz(v:Int)(n d:Nat):(if v<0 then max (v+(n:Int)) 0 else min v (n:Int))=((sIx n d (some v):Nat):Int):=by
 show(if v<0 then max (v+(n:Int)) 0 else min v (n:Int))=(((if v<0 then (v+(n:Int)).toNat else min v.toNat n):Nat):Int)
 by_cases hv:v<0;simp only[if_pos hv];omega;simp only[if_neg hv];omega
theorem sv(lo hi:Option Int)(n:Nat):Builtin.Slice.sliceAdjust lo hi 1 (n:Int)=(((sIx n 0 lo:Nat):Int),((sIx n n hi:Nat):Int)):=by
 have h1:¬((1:Int)<0):=by omega
 unfold Builtin.Slice.sliceAdjust;simp only[h1,if_false];refine Prod.ext ?_ ?_;cases lo with
 | none=>rfl
 | some v=>exact vz v n 0
 cases hi with
 | none=>rfl
 | some v=>exact vz v n n
theorem rH(i j:Nat):Builtin.Slice.slicePlaces (i:Int) (j:Int) 1=j - i:=by
 unfold Builtin.Slice.slicePlaces;have h1:(1:Int)>0:=by omega
 simp only[h1,if_true,Int.ediv_one];split <;> omega
theorem jt{v:as}{o:Option Int}{Q:Option Int->ba->Prop}(p:Q3 v o)(h:Q o s):kw (qb prog w) A (Builtin.Slice.slicePartIndex v) Q E s:=by
 cases p with
 | none=>exact slicePart_none h
 | int i t=>exact slicePart_int h
theorem gQ{sl:ap}{b c:as}{lo hi:Option Int}{n:Nat}{Q:Int×Int×Nat->ba->Prop}(hs:s.heap.IsSliceOf sl b c .none)(pl:Q3 b lo)(d:Q3 c hi)
  (h : Q (((sIx n 0 lo:Nat):Int),1,sIx n n hi - sIx n 0 lo) s):kw (qb prog w) A (Builtin.Slice.sliceApplied (.ref sl) (pure (n:Int))) Q E s:=by obtain⟨os,a,e,hds⟩:=id hs;unfold Builtin.Slice.sliceApplied Builtin.Slice.sliceFields;refine jj (jj (Kz a hds (x:=b) rfl (jj (Kz a hds (x:=c) rfl (jj (Kz a hds (x:=.none) rfl (ke ?_)))))));refine jj (slicePart_none ?_);show kw _ _ (if ((1:Int)==0)=true then _ else _) _ _ s;rw[if_neg (by decide)];refine jj (jt pl (jj (jt d (jj (ke ?_)))));show kw _ _ (match Builtin.Slice.sliceAdjust lo hi 1 (n:Int) with|(lo,hi)=>pure (lo,(1:Int),Builtin.Slice.slicePlaces lo hi 1)) _ _ s;rw[sv lo hi n];show kw _ _ (pure (((sIx n 0 lo:Nat):Int),(1:Int),Builtin.Slice.slicePlaces ((sIx n 0 lo:Nat):Int) ((sIx n n hi:Nat):Int) 1)) _ _ s;rw[rH];exact ke h
theorem wP(xs:Array as)(i k:Nat):((List.range k).filterMap λ(m:Nat)=>xs[((i:Int)+(m:Int)*1).toNat]?).toArray=((xs.toList.drop i).take k).toArray:=by
 have e:(λ(m:Nat)=>xs[((i:Int)+(m:Int)*1).toNat]?)=λm=>xs[i+m]?:=by
  funext m;have:((i:Int)+(m:Int)*1).toNat=i+m:=by omega
  rw[this]
 rw[e];have:=pick_run xs i k;rw[List.filterMap_map] at this;have e2:((λx=>xs[x]?) ∘ λx=>i+x)=λm=>xs[i+m]?:=rfl;rw[e2] at this;rw[this]
theorem getItem_tuple_cut{t sl:ap}{items:Array as}{f g:as}{lo hi:Option Int}{Q:as->ba->Prop}(ht:IsTup s.heap t items)(hs:s.heap.IsSliceOf sl f g .none)(pl:Q3 f lo)(i:Q3 g hi)
  (hw:¬(sIx items.size 0 lo=0/\sIx items.size items.size hi=items.size))
  (h : Q (.ref s.heap.objs.size) { s with heap:=s.heap.push { cls:=.type "tuple",data:=.seq ((items.toList.drop (sIx items.size 0 lo)).take (sIx items.size items.size hi - sIx items.size 0 lo)).toArray } })
  (hsz:items.size<=sizeLine):kw (qb prog w) A (ZE (.ref t) (.ref sl)) Q E s:=by
 have a:sizeOk (.seq ((items.toList.drop (sIx items.size 0 lo)).take (sIx items.size items.size hi - sIx items.size 0 lo)).toArray):=by show((items.toList.drop (sIx items.size 0 lo)).take (sIx items.size items.size hi - sIx items.size 0 lo)).toArray.size<=sizeLine;rw[IV,JC,Kc,Array.length_toList];omega
 have hj:sIx items.size items.size hi<=items.size:=CK _ _ (IS _) hi;obtain⟨os,b,c,hds⟩:=id hs;have d:s.TypeIs (.ref sl) "slice" := ⟨os,b,c⟩
 unfold ZE
 try with_reducible refine zp ?_
 first|refine jj (ke ?_)|skip
 refine jj (wpAny_sequenceKey ht.typeIs (by decide) ?_);refine jj (z6 (name:=Str.ofString "__getitem__") ht.typeIs PyProof.Rows.slot_tuple_getitem
  (z4 PyProof.Rows.slot_tuple_getitem ht.typeIs entry_tuple_getitem ?_ (args_tuple_getitem _ _)))
 show kw _ _ (Builtin.Tuple.tupleItemsOf (.ref t) >>= _) _ _ s;refine jj (tupleItemsOf_ ht ?_);refine jj (Zz d ?_);rw[if_pos (by decide)];refine jj (gQ hs pl i ?_);have e:¬((((sIx items.size 0 lo:Nat):Int)==0&&(1:Int)==1&&(sIx items.size items.size hi - sIx items.size 0 lo)==items.size)=true):=by intro q;rw[Jw,Jw] at q;have j:((sIx items.size 0 lo:Nat):Int)=0:=eq_of_beq q.1.1;have k:sIx items.size items.size hi - sIx items.size 0 lo=items.size:=eq_of_beq q.2;exact hw ⟨by omega,by omega⟩
 show kw _ _ (if (((sIx items.size 0 lo:Nat):Int)==0&&(1:Int)==1&&(sIx items.size items.size hi - sIx items.size 0 lo)==items.size)=true then _ else _) _ _ s;rw[if_neg e,wP]
 first
  | exact jj (m:=Builtin.Tuple.tupleExact _) (zh (ke ⟨_,rfl,ke h⟩) a)
  | exact jj (m:=Builtin.Tuple.tupleExact _) (zh (jj (ke (ke ⟨_,rfl,ke h⟩))) a)
  | exact jj (jj (m:=Builtin.Tuple.tupleExact _) (zh (ke (ke ⟨_,rfl,ke h⟩)) a))
  | exact jj (jj (m:=Builtin.Tuple.tupleExact _) (zh (ke ⟨_,rfl,ke h⟩) a))
end
end HT
namespace _L
open PySem PySem.Spec PyProof.Rows
abbrev TO:=St->Hp->(Option Int->Hp->Prop)->Prop
def PO(X:Cx)(e:Option bb)(t:TO):Prop :=
 ∀(pins:List (ap×Obj)) (s:ba) (σ:St) (H:Hp) (Q:Option Int->Hp->Prop),Inv X pins σ H s->t σ H Q ->
  kw (qb X.prog X.w) X.A (evalPart e X.env) (λu s'=>∃o H',Inv X pins σ H' s'/\Q3 u o/\Q o H') X.xe s
def zQ:TO:=λ_ H Q=>Q none H
def Fr(t:TE):TO:=λσ H Q=>t σ H λx H1=>∃i,x=.int i/\Q (some i) H1
section
variable {X:Cx}{e:bb}{te:TE}{lo hi:Option bb}{tl th:TO}{pos p2:Pos}
theorem Az:PO X none zQ:=by intro pins s σ H Q I h;rw[evalPart_none];exact ke ⟨none,H,I,.none,h⟩
theorem Ay(h:PE X e te):PO X (some e) (Fr te):=by intro pins s σ H Q I hw;rw[evalPart_some];refine thn (h pins s σ H _ I hw) λu s1 a=>?_;obtain⟨x,H1,b,c,d⟩:=a;obtain⟨i,rfl,q⟩:=d;obtain⟨t,rfl⟩:=c;exact⟨some i,H1,b,.int i t,q⟩
def SlR(X:Cx)(r:V->Option Int->Option Int->Hp->VK->Prop):Prop :=
 ∀(pins:List (ap×Obj)) (s:ba) (σ:St) (H:Hp) (x:V) (v a b:as) (lo hi:Option Int) (sl:ap) (Q:VK),Inv X pins σ H s->be x v->s.heap.IsSliceOf sl a b .none->Q3 a lo->Q3 b hi->r x lo hi H Q ->
  ∃T id,typeLookup (.type T) "__getitem__" = pure (some (.builtin id))/\s.TypeIs v T/\kw (qb X.prog X.w) X.A (ZE v (.ref sl)) (EP X pins σ Q) X.xe s
def tSl(r:V->Option Int->Option Int->Hp->VK->Prop)(te:TE)(tl th:TO):TE:=λσ H Q=>te σ H λx H1=>tl σ H1 λl a=>th σ a λu b=>r x l u b Q
theorem pY{r:V->Option Int->Option Int->Hp->VK->Prop}(k:SlR X r)(m:PE X e te)(hl:PO X lo tl)(n:PO X hi th):PE X (.Subscript e (.Slice lo hi none p2) pos) (tSl r te tl th):=by intro pins s σ H Q I h;refine Subscript_ (thn (m pins s σ H _ I h) λv s1 f=>?_);obtain⟨x,H1,o,p,t⟩:=f;refine wpAny_Slice (thn (hl pins s1 σ H1 _ o t) λc s2 g=>?_);obtain⟨l,y,z,pl,B⟩:=g;refine thn (n pins s2 σ y _ z B) λd a i=>?_;obtain⟨u,j,C,D,E⟩:=i;rw[evalPart_none];refine ke ?_;have F:Inv X pins σ j { a with heap:=a.heap.push { cls:=.type "slice",data:=.fields #[c,d,.none] } }:=C.kept (t':=a.toks) λb ob q=>IH _ q;obtain⟨T,id,G,ht,hg⟩:=k pins { a with heap:=a.heap.push { cls:=.type "slice",data:=.fields #[c,d,.none] } } σ j x v c d l u a.heap.objs.size Q F p (Heap.IsSliceOf.new ..) pl D E;show kw (qb X.prog X.w) X.A (QN e (.Slice lo hi none p2) v (.ref a.heap.objs.size)) (EP X pins σ Q) X.xe { a with heap:=a.heap.push { cls:=.type "slice",data:=.fields #[c,d,.none] } };exact tail_any (ops:=[.ref a.heap.objs.size,v]) ht G hg (by with_unfolding_all rfl)
def zo(xs:List V)(lo hi:Option Int):List V:=(xs.drop (HT.sIx xs.length 0 lo)).take (HT.sIx xs.length xs.length hi - HT.sIx xs.length 0 lo)
theorem iY(xs:List V)(lo hi:Option Int):(zo xs lo hi).length<=xs.length:=by unfold zo;rw[JC,Kc];omega
def GZ(K:ca):V->Option Int->Option Int->Hp->VK->Prop:=λx lo hi H Q=>∃a xs,x=.ref a/\SqT K H a xs /\
 ¬ (HT.sIx xs.length 0 lo=0/\HT.sIx xs.length xs.length hi=xs.length)/\∀p,H p=none->Q (.ref p) (upd H p (.tup (zo xs lo hi)))
theorem CI:SlR X (GZ X.K):=by
 intro pins s σ H x v g i lo hi sl Q I e hs pl f h;obtain⟨a,xs,rfl,hx,hw,q⟩:=h;cases e;obtain⟨d,r,ht,hz⟩:=I.tuple hx;have c:d.toArray.size=xs.length:=by rw[IV];exact r.length.symm
 refine⟨"tuple",_,PyProof.Rows.slot_tuple_getitem.lookup,ht.typeIs,?_⟩;refine HT.getItem_tuple_cut ht hs pl f (by rw[c];exact hw) ?_ (by rw[c];exact hz);rw[c];refine⟨.ref s.heap.objs.size,_,I.laid (t':=s.toks) (o:=.tup (zo xs lo hi)) (λb ob q=>IH _ q) (IS _) ?_,rfl,q _ (I.hok.fresh (IS _))⟩;exact⟨IQ (iY xs lo hi) hz,_,(r.drop (HT.sIx xs.length 0 lo)).take (HT.sIx xs.length xs.length hi - HT.sIx xs.length 0 lo),vL.new _ _⟩
def FM(K:ca):R2:=λx y H Q=>∃a b xs ys,x=.ref a/\y=.ref b/\SqT K H a xs/\SqT K H b ys/\xs≠[]/\xs.length+ys.length<=sizeLine /\
 (ys=[]->Q (.ref a) H)/\(ys≠[]->∀p,H p=none->Q (.ref p) (upd H p (.tup (xs++ys))))
theorem aH.nil_iff{xs:List V}{us:List as}(r:aH xs us):us=[]↔xs=[]:=by
 cases r with
 | nil=>simp
 | cons _ _=>simp
theorem AV:OpR X (KN .Add) (FM X.K):=by intro pins s σ H x y v u Q I f g h;obtain⟨a,b,xs,ys,rfl,rfl,i,j,hx,hz,k,l⟩:=h;cases f;cases g;obtain⟨m,d,n,_⟩:=I.tuple i;obtain⟨e,c,p2,_⟩:=I.tuple j;refine HT.cat_tup n p2 (λz=>hx (d.nil_iff.mp z)) (λz=>⟨.ref a,H,I,rfl,k (c.nil_iff.mp z)⟩) (λz=>?_) (by rw[<-d.length,<-c.length];exact hz);refine⟨.ref s.heap.objs.size,_,I.laid (t':=s.toks) (o:=.tup (xs++ys)) (λb ob q=>IH _ q) (IS _) ?_,rfl,l (λw=>z (c.nil_iff.mpr w)) _ (I.hok.fresh (IS _))⟩;exact⟨by rw[Jg];exact hz,_,d.append c,vL.new _ _⟩
end
def ixN(n:Nat)(i:Int):Option Nat:=if 0<=i then (if i<n then some i.toNat else none) else if -(n:Int)<=i then some (i+n).toNat else none
def atI{α:Type}(xs:List α)(i:Int):Option α:=(ixN xs.length i).bind λj=>xs[j]?
theorem uN{n:Nat}{i:Int}{j:Nat}(h:ixN n i=some j):Zt i n=some j/\j<n/\-(n:Int)<=i/\i<n:=by unfold ixN at h;by_cases a:0<=i;rw[if_pos a] at h;by_cases h1:i<n;rw[if_pos h1] at h;have e:i.toNat=j:=Option.some.inj h;exact⟨by rw[seqIndex_of a h1,e],by omega,by omega,h1⟩;rw[if_neg h1] at h;cases h;rw[if_neg a] at h;by_cases h1:-(n:Int)<=i;rw[if_pos h1] at h;have e:(i+n).toNat=j:=Option.some.inj h;exact⟨by rw[seqIndex_neg (by omega) h1,e],by omega,h1,by omega⟩;rw[if_neg h1] at h;cases h
theorem o8{α:Type}{xs:List α}{i:Int}{v:α}(h:atI xs i=some v):∃j,Zt i xs.length=some j/\xs[j]? = some v/\j<xs.length/\-(xs.length:Int)<=i/\i<xs.length:=by
 unfold atI at h;cases e:ixN xs.length i with
 | none=>rw[e] at h;cases h
 | some j =>
  rw[e] at h;obtain⟨h1,h2,h3,a⟩:=uN e;exact⟨j,h1,h,h2,h3,a⟩
theorem cU{α:Type}{xs:List α}{j:Nat}{v:α}(h:xs[j]? = some v):atI xs (j:Int)=some v:=by
 have hj:j<xs.length:=(IN.mp h).1;have e:ixN xs.length (j:Int)=some j:=by unfold ixN;rw[if_pos (by omega),if_pos (by omega)];simp
 unfold atI;rw[e];exact h
def dZ(b:bb):Prop:=∀o i,Q4 b false o i=operate [o,i] (ZE o i)
def IxR(X:Cx)(r:R2):Prop :=
 ∀(value slice:bb) (pins:List (ap×Obj)) (s:ba) (σ:St) (H:Hp) (x y:V) (v u:as) (Q:VK),Inv X pins σ H s->be x v->be y u->r x y H Q ->
  Q4 slice false v u=operate [v,u] (ZE v u)->kw (qb X.prog X.w) X.A (QN value slice v u) (EP X pins σ Q) X.xe s
def MtR(X:Cx)(id:String)(r:V->List V->Hp->VK->Prop):Prop :=
 ∀(pins:List (ap×Obj)) (s:ba) (σ:St) (H:Hp) (x:V) (xs:List V) (v:as) (us:List as) (Q:VK),Inv X pins σ H s->be x v->aH xs us->r x xs H Q ->
  kw (qb X.prog X.w) X.A (call (.builtin id) (v::us)) (EP X pins σ Q) X.xe s
section
variable {X:Cx}{a b:bb}{ta tb:TE}{pos:Pos}
theorem IxR.or{r r':R2}(h:IxR X r)(h':IxR X r'):IxR X (λx y H Q=>r x y H Q\/r' x y H Q):=by intro value slice pins s σ H x y v u Q I a b q hs;rcases q with q|q;exact h value slice pins s σ H x y v u Q I a b q hs;exact h' value slice pins s σ H x y v u Q I a b q hs
theorem uc{r:R2}(c:IxR X r)(d:PE X a ta)(e:PE X b tb)(hs:dZ b):PE X (.Subscript a b pos) (tOp r ta tb):=by intro pins s σ H Q I h;exact Subscript_ (GK d e I h λv u s2 x y f g i j q=>c a b pins s2 σ f x y v u Q g i j q (hs _ _))
def G6(K:ca):R2:=λx y H Q=>∃p xs i v,x=.ref p/\y=.int i/\SqL K H p xs/\atI xs i=some v/\Q v H
def G3(K:ca):R2:=λx y H Q=>∃p xs i v,x=.ref p/\y=.int i/\SqT K H p xs/\atI xs i=some v/\Q v H
def G4:R2:=λx y H Q=>∃z i c,x=.str z/\y=.int i/\z.length<=sizeLine/\atI z.cps.toList i=some c/\Q (.str ⟨#[c]⟩) H
theorem Bf:IxR X (G6 X.K):=by
 intro value slice pins s σ H x y v u Q I e f h hs;obtain⟨p,xs,i,z,rfl,rfl,g,k,q⟩:=h;cases e;obtain⟨t,rfl⟩:=f;obtain⟨a,r,pl,hz⟩:=I.list g;obtain⟨j,h1,h2,h3,l,m⟩:=o8 k;obtain⟨w,c,b⟩:=r.get h2;have hl:=r.length;have hn:=iQ;have fin:EP X pins σ Q w s:=⟨z,H,I,b,q⟩
 by_cases d:0<=i;have hj:i.toNat=j:=by rw[seqIndex_of d m] at h1;exact Option.some.inj h1
 exact item_listR pl.isList d (by omega) (by rw[hj];simpa using c) fin hs;have hj:(i+(a.toArray.size:Int)).toNat=j:=by rw[seqIndex_neg (by omega) l] at h1;rw[IV,<-hl];exact Option.some.inj h1
 exact ZB (x:=w) pl.isList.typeIs slot_list_getitem.lookup
  (wpAny_getItem_list_neg (Q:=λr s'=>r=w/\EP X pins σ Q r s') pl.isList (by omega) (by rw[IV] <;> omega) (by omega) (by rw[hj];simpa using c) ⟨rfl,fin⟩) hs
theorem D6:IxR X (G3 X.K):=by
 intro value slice pins s σ H x y v u Q I b c h hs;obtain⟨p,xs,i,z,rfl,rfl,d,e,q⟩:=h;cases b;obtain⟨t,rfl⟩:=c;obtain⟨f,r,pl,hz⟩:=I.tuple d;obtain⟨j,h1,h2,h3,k,l⟩:=o8 e;obtain⟨w,g,a⟩:=r.get h2;have hl:=r.length;have hn:=iQ;have fin:EP X pins σ Q w s:=⟨z,H,I,a,q⟩
 exact ZB (x:=w) pl.typeIs slot_tuple_getitem.lookup
  (getItem_tuple (j:=j) (Q:=λr s'=>r=w/\EP X pins σ Q r s') pl (by omega) (by omega) (by rw[IV,<-hl];exact h1) (by simpa using g) ⟨rfl,fin⟩) hs
theorem D7:IxR X G4:=by
 intro value slice pins s σ H x y v u Q I a b h hs;obtain⟨z,i,c,rfl,rfl,hz,d,q⟩:=h;obtain⟨t,rfl⟩:=a;obtain⟨t',rfl⟩:=b;obtain⟨j,h1,h2,h3,e,f⟩:=o8 d;have hl:z.cps.toList.length=z.length:=by simp[Str.length]
 rw[hl] at h1 e f;have hn:=iQ;exact tail_any (QR s z t) slot_str_getitem.lookup (getItem_str (c:=c) (by
  have e1:decide (i < -(2 ^ 63:Int))=false:=decide_eq_false (by omega);have e2:decide (i≥2 ^ 63)=false:=decide_eq_false (by omega);rw[e1,e2,Bool.or_false]) (by rw[h1];simpa using h2) ⟨.str ⟨#[c]⟩,H,I.tok _,⟨_,rfl⟩,q⟩) hs
theorem rP(a:List as)(n j:Nat)(u:as):Obj.mapSeq (·.setIfInBounds j u) { cls:=.type "list",data:=.seq a.toArray n }={ cls:=.type "list",data:=.seq (a.set j u).toArray n }:=by simp[Obj.mapSeq]
theorem Inv.lst{pins:List (ap×Obj)}{σ:St}{H:Hp}{s:ba}{p:ap}{xs:List V}(I:Inv X pins σ H s)(h:H p=some (.lst xs)) :
  ∃(a:List as) (n:Nat),aH xs a/\s.heap.get? p=some { cls:=.type "list",data:=.seq a.toArray n }/\xs.length<=sizeLine:=by obtain⟨z,a,n,r,e⟩:=I.hok p _ h;exact⟨a,n,r,e,z⟩
theorem Inv.lstUpd{pins:List (ap×Obj)}{σ:St}{H:Hp}{s:ba}{p:ap}{xs ys:List V}{a its':List as}{n c:Nat}{f:Obj->Obj}(I:Inv X pins σ H s)(h:H p=some (.lst xs))
  (ho:s.heap.get? p=some { cls:=.type "list",data:=.seq a.toArray n }) (d:f { cls:=.type "list",data:=.seq a.toArray n }={ cls:=.type "list",data:=.seq its'.toArray c }) (r:aH ys its') (hz:ys.length<=sizeLine) (t:Nat) :
  Inv X pins σ (upd H p (.lst ys)) { s with heap:=s.heap.update p f,toks:=t }:=by
 have e:(s.heap.update p f).get? p=some { cls:=.type "list",data:=.seq its'.toArray c }:=by rw[Jx f ho (by rw[d] <;> rfl),d]
 refine I.write (x:=p) (e:=p) (by rw[h];trivial) (.inl rfl) (λb u g q=>(Jp _ _ (Ne.symm g)).trans q) ⟨_,e⟩ ?_;exact⟨hz,its',c,r,e⟩
def FE:V->V->V->Hp->(Hp->Prop)->Prop:=λo i v H Q=>∃p xs k j,o=.ref p/\i=.int k/\H p=some (.lst xs)/\ixN xs.length k=some j/\Q (upd H p (.lst (xs.set j v)))
theorem wv:Fk X FE:=by
 intro pins s σ H o i v ov iv u Q I f g rv h;obtain⟨p,xs,k,j,rfl,rfl,b,hj,q⟩:=h;cases f;obtain⟨t,rfl⟩:=g;obtain⟨a,n,r,ho,hz⟩:=I.lst b;obtain⟨h1,h2,h3,c⟩:=uN hj;have hl:=r.length;have hn:=iQ;have d:Inv X pins σ (upd H p (.lst (xs.set j v))) { s with heap:=s.heap.update p (Obj.mapSeq (·.setIfInBounds j u)) } :=
  I.lstUpd b ho (rP a n j u) (r.set rv j) (by rw[Kh];exact hz) s.toks
 by_cases e:0<=k;have hk:k.toNat=j:=by rw[seqIndex_of e c] at h1;exact Option.some.inj h1
 exact PySem.W.ki_setAt ho e (by omega) (by rw[IV,<-hl];exact c) (by rw[hk];exact⟨_,d,q⟩);have hk:(k+(a.toArray.size:Int)).toNat=j:=by rw[seqIndex_neg (by omega) h3] at h1;rw[IV,<-hl];exact Option.some.inj h1
 exact PySem.W.ki_setBack ho (by omega) (by rw[IV,<-hl];exact h3) (by omega) (by rw[hk];exact⟨_,d,q⟩)
theorem lg(lo hi:Option Int)(n:Nat):(Qi lo hi none n).1=((HT.sIx n 0 lo:Nat):Int)/\(Qi lo hi none n).2.1=((HT.sIx n n hi:Nat):Int)/\(Qi lo hi none n).2.2=1:=by
 refine⟨?_,?_,rfl⟩;cases lo with
 | none=>simp[Qi,HT.sIx]
 | some i =>
  simp only[Qi,HT.sIx,Option.getD_none,show(1:Int)>0 by decide,if_true];by_cases h:i<0;simp only[h,if_true] <;> omega
  simp only[h,if_false] <;> omega
 cases hi with
 | none=>simp[Qi,HT.sIx]
 | some i =>
  simp only[Qi,HT.sIx,Option.getD_none,show(1:Int)>0 by decide,if_true];by_cases h:i<0;simp only[h,if_true] <;> omega
  simp only[h,if_false] <;> omega
theorem jV(a:List as)(lo hi:Option Int):slicePick a.toArray lo hi none=((a.drop (HT.sIx a.length 0 lo)).take (HT.sIx a.length a.length hi - HT.sIx a.length 0 lo)).toArray:=by obtain⟨h1,h2,h3⟩:=lg lo hi a.toArray.size;unfold slicePick;rw[h1,h2,h3];simp only[sliceRange_one,pick_run,IV] <;> rfl
def G0(K:ca):V->Option Int->Option Int->Hp->VK->Prop:=λx lo hi H Q=>∃a xs,x=.ref a/\SqL K H a xs/\∀p,H p=none->Q (.ref p) (upd H p (.lst (zo xs lo hi)))
theorem zY:SlR X (G0 X.K):=by intro pins s σ H x v g i lo hi sl Q I d hs pl e h;obtain⟨a,xs,rfl,hx,q⟩:=h;cases d;obtain⟨f,r,ht,hz⟩:=I.list hx;have c:=r.length;refine⟨"list",_,slot_list_getitem.lookup,ht.isList.typeIs,?_⟩;refine wpAny_getItem_list_slice ht.isList hs pl e .none (by simp) ?_ (by rw[IV] <;> omega);rw[jV,<-c];refine⟨.ref s.heap.objs.size,_,I.laid (t':=s.toks) (o:=.lst (zo xs lo hi)) (λb ob q=>IH _ q) (IS _) ?_,rfl,q _ (I.hok.fresh (IS _))⟩;exact⟨IQ (iY xs lo hi) hz,_,0,(r.drop (HT.sIx xs.length 0 lo)).take (HT.sIx xs.length xs.length hi - HT.sIx xs.length 0 lo),IW _ rfl⟩
def kz:V->Bool
 | .non=>true
 | .bl _=>true
 | .int _=>true
 | .str _=>true
 | _=>false
def eqV:V->V->Bool
 | .non,.non=>true
 | .bl a,.bl b=>a==b
 | .bl a,.int b=>(if a then 1 else 0)==b
 | .int a,.bl b=>a==(if b then 1 else 0)
 | .int a,.int b=>a==b
 | .str a,.str b=>a==b
 | _,_=>false
theorem Ep{A:Around}{s:ba}{y x:V}{u v:as}(d:be y u)(c:be x v)(f:kz y=true)(e:kz x=true):SeqAt.EqAt A s u v (eqV y x):=by
 cases y with
 | non =>
  cases d;cases x with
  | non=>cases c;exact SeqAt.EqAt.same _
  | bl b=>cases c;exact SeqAt.EqAt.none_bool b
  | int b=>obtain⟨t,rfl⟩:=c;exact SeqAt.EqAt.none_int b t
  | str b=>obtain⟨t,rfl⟩:=c;exact SeqAt.EqAt.none_str b t
  | _=>exact absurd (show false=true from e) Ja
 | bl a =>
  cases d;cases x with
  | non=>cases c;exact SeqAt.EqAt.bool_none a
  | bl b=>cases c;exact SeqAt.EqAt.bool_bool a b
  | int b=>obtain⟨t,rfl⟩:=c;exact SeqAt.EqAt.bool_int a b t
  | str b=>obtain⟨t,rfl⟩:=c;exact SeqAt.EqAt.bool_str a b t
  | _=>exact absurd (show false=true from e) Ja
 | int a =>
  obtain⟨t',rfl⟩:=d;cases x with
  | non=>cases c;exact SeqAt.EqAt.int_none a t'
  | bl b=>cases c;exact SeqAt.EqAt.int_bool a t' b
  | int b=>obtain⟨t,rfl⟩:=c;exact SeqAt.EqAt.int_int a t' b t
  | str b=>obtain⟨t,rfl⟩:=c;exact SeqAt.EqAt.int_str a t' b t
  | _=>exact absurd (show false=true from e) Ja
 | str a =>
  obtain⟨t',rfl⟩:=d;cases x with
  | non=>cases c;exact SeqAt.EqAt.str_none a t'
  | bl b=>cases c;exact SeqAt.EqAt.str_bool a t' b
  | int b=>obtain⟨t,rfl⟩:=c;exact SeqAt.EqAt.str_int a t' b t
  | str b=>obtain⟨t,rfl⟩:=c;exact SeqAt.EqAt.str_str a t' b t
  | _=>exact absurd (show false=true from e) Ja
 | _=>exact absurd (show false=true from f) Ja
def eqU(x:V)(u:as):Bool:=match u with
 | .none=>eqV .non x
 | .bool b=>eqV (.bl b) x
 | .int i _=>eqV (.int i) x
 | .str z _=>eqV (.str z) x
 | _=>false
theorem y9{x y:V}{u:as}(r:be y u)(f:kz y=true):eqU x u=eqV y x:=by
 cases y with
 | non=>cases r;rfl
 | bl b=>cases r;rfl
 | int i=>obtain⟨t,rfl⟩:=r;rfl
 | str z=>obtain⟨t,rfl⟩:=r;rfl
 | _=>exact absurd (show false=true from f) Ja
theorem i9{x:V}:∀{xs:List V}{us:List as},aH xs us->xs.all kz=true->us.any (eqU x)=xs.any λy=>eqV y x
 | _,_,.nil,_=>rfl
 | y::xs,u::us,.cons r t,f=>by
  rw[List.all_cons,Jw] at f;rw[List.any_cons,List.any_cons,y9 r f.1,i9 t f.2]
theorem fQ{A:Around}{s:ba}{x:V}{v:as}(b:be x v)(c:kz x=true):∀{xs:List V}{us:List as},aH xs us->xs.all kz=true->∀u∈us,SeqAt.EqAt A s u v (eqU x u)
 | _,_,.nil,_=>λu a=>by cases a
 | y::xs,u::us,.cons r t,f=>λd a=>by
  rw[List.all_cons,Jw] at f;rcases IR.mp a with rfl|a;rw[y9 r f.1];exact Ep r b f.1 c;exact fQ b c t f.2 d a
def inV(x:V)(xs:List V):Bool:=xs.any λy=>eqV y x
def rIn(K:ca)(neg:Bool):R2:=λx y H Q=>∃p xs,y=.ref p/\(SqL K H p xs\/SqT K H p xs)/\kz x=true/\xs.all kz=true/\Q (.bl (if neg then !inV x xs else inV x xs)) H
theorem uu:OpR X (q4 .In) (rIn X.K false):=by intro pins s σ H x y v u Q I c e h;obtain⟨p,xs,rfl,b,d,fs,q⟩:=h;cases e;rcases b with b|b;obtain⟨a,r,pl,hz⟩:=I.list b;refine SeqAt.in_listAt (eqU x) pl.isList (λw hw=>fQ c d r fs w (by simpa using hw)) ⟨.bl _,H,I,rfl,?_⟩;rw[show a.toArray.any (eqU x)=a.any (eqU x) by simp,i9 r fs];exact q;obtain⟨a,r,pl,hz⟩:=I.tuple b;refine SeqAt.in_tupleAt (eqU x) pl (λw hw=>fQ c d r fs w (by simpa using hw)) ⟨.bl _,H,I,rfl,?_⟩;rw[show a.toArray.any (eqU x)=a.any (eqU x) by simp,i9 r fs];exact q
theorem lI:OpR X (q4 .NotIn) (rIn X.K true):=by intro pins s σ H x y v u Q I c e h;obtain⟨p,xs,rfl,b,d,fs,q⟩:=h;cases e;rcases b with b|b;obtain⟨a,r,pl,hz⟩:=I.list b;refine SeqAt.notIn_listAt (eqU x) pl.isList (λw hw=>fQ c d r fs w (by simpa using hw)) ⟨.bl _,H,I,rfl,?_⟩;rw[show a.toArray.any (eqU x)=a.any (eqU x) by simp,i9 r fs];exact q;obtain⟨a,r,pl,hz⟩:=I.tuple b;refine SeqAt.notIn_tupleAt (eqU x) pl (λw hw=>fQ c d r fs w (by simpa using hw)) ⟨.bl _,H,I,rfl,?_⟩;rw[show a.toArray.any (eqU x)=a.any (eqU x) by simp,i9 r fs];exact q
theorem mT:cZ X (.builtin "len") (λxs H Q=>∃p ys,xs=[.ref p]/\(SqL X.K H p ys\/SqT X.K H p ys)/\Q (.int ys.length) H):=by intro pins s σ H xs us Q I r h;obtain⟨p,ys,rfl,b,q⟩:=h;obtain⟨u,rfl,d⟩:=fw r;cases d;have hn:=iQ;rcases b with b|b;obtain⟨c,r',pl,hz⟩:=I.list b;have a:=r'.length;exact Calls.call_len_list pl.isList (by simp only[IV] <;> omega) ⟨.int ys.length,H,I.tok _,⟨s.toks+1,by rw[IV,a]⟩,q⟩;obtain⟨c,r',pl,hz⟩:=I.tuple b;have a:=r'.length;exact len_tuple pl (by simp only[IV] <;> omega) ⟨.int ys.length,H,I.tok _,⟨s.toks+1,by rw[IV,a]⟩,q⟩
theorem mS:cZ X (.builtin "len") (λxs H Q=>∃z,xs=[.str z]/\z.length<=sizeLine/\Q (.int z.length) H):=by intro pins s σ H xs us Q I r h;obtain⟨z,rfl,hz,q⟩:=h;obtain⟨u,rfl,t,rfl⟩:=fw r;have hn:=iQ;exact len_str (by omega) ⟨.int z.length,H,I.tok _,⟨_,rfl⟩,q⟩
theorem mR:cZ X (.type "list") (λxs H Q=>∃p ys,xs=[.ref p]/\(SqL X.K H p ys\/SqT X.K H p ys)/\∀l,H l=none->Q (.ref l) (upd H l (.lst ys))):=by
 intro pins s σ H xs us Q I r h;obtain⟨p,ys,rfl,c,q⟩:=h;obtain⟨u,rfl,f⟩:=fw r;cases f;have fin:∀(a:List as),aH ys a->ys.length<=sizeLine->∀(h':bd) (c':Nat),(∀b o',s.heap.get? b=some o'->h'.get? b=some o') ->
   h'.get? s.heap.objs.size=some { cls:=.type "list",dict:=none,data:=.seq a.toArray c',slots:=#[] }->EP X pins σ Q (.ref s.heap.objs.size) { s with heap:=h' }:=λa r' hz h' c' kp e =>
  ⟨.ref s.heap.objs.size,_,I.laid (t':=s.toks) kp (IS _) (show dB X.prog X.w _ h' _ (.lst ys) from⟨hz,a,c',r',e⟩),rfl,q _ (I.hok.fresh (IS _))⟩
 rcases c with c|c;obtain⟨a,r',pl,hz⟩:=I.list c;have d:=r'.length;obtain⟨o,ho,hc,n,hd⟩:=pl.isList;exact call_list_seq p (.inl rfl) ho hc hd (λh' c' kp e=>fin a r' hz h' c' kp e) (by simp only[IV] <;> omega);obtain⟨a,r',pl,hz⟩:=I.tuple c;have d:=r'.length;obtain⟨o,ho,hc,n,hd⟩:=pl;exact call_list_seq p (.inr rfl) ho hc hd (λh' c' kp e=>fin a r' hz h' c' kp e) (by simp only[IV] <;> omega)
theorem kI:cZ X (.type "tuple") (λxs H Q=>∃p ys,xs=[.ref p]/\((SqL X.K H p ys/\∀l,H l=none->Q (.ref l) (upd H l (.tup ys)))\/(SqT X.K H p ys/\Q (.ref p) H))):=by
 intro pins s σ H xs us Q I r h;obtain⟨p,ys,rfl,h⟩:=h;obtain⟨u,rfl,g⟩:=fw r;cases g;rcases h with⟨c,q⟩|⟨c,q⟩
 obtain⟨a,r',pl,hz⟩:=I.list c;have d:=r'.length;refine call_tuple_list pl.isList (λh' kp=>?_) (by simp only[IV] <;> omega);have f:Inv X pins σ H { s with heap:=h' }:=I.kept (t':=s.toks) kp;have i:Inv X pins σ (upd H h'.objs.size (.tup ys)) { s with heap:=h'.push { cls:=.type "tuple",data:=.seq a.toArray } } :=
  f.laid (t':=s.toks) (λb o e=>IH _ e) (IS _) (show dB X.prog X.w _ _ _ (.tup ys) from⟨hz,a,r',vL.new _ _⟩)
 exact⟨.ref h'.objs.size,_,i,rfl,q _ (f.hok.fresh (IS _))⟩;obtain⟨a,r',pl,hz⟩:=I.tuple c;exact call_tuple_same pl ⟨.ref p,H,I,rfl,q⟩
def tyV(K:ca)(T:String)(x:V)(H:Hp):Prop:=match x with
 | .str _=>T = "str"
 | .int _=>T = "int"
 | .ref p=>(T = "list" /\ ∃xs,SqL K H p xs)\/(T = "tuple" /\ ∃xs,SqT K H p xs) \/
   (T = "dict" /\ ((∃kvs,H p=some (.dK kvs))\/∃kvs,H p=some (.dT kvs)))\/(T = "set" /\ ∃S n,H p=some (.set S n))
 | _=>False
theorem yn{pins:List (ap×Obj)}{σ:St}{H:Hp}{s:ba}{T:String}{x:V}{v:as}(I:Inv X pins σ H s)(r:be x v)(ty:tyV X.K T x H) :
  s.TypeIs v T/\∀a,v=.ref a->∃ob,s.heap.get? a=some ob/\ob.dict=none:=by
 cases x with
 | str z =>
  obtain⟨t,rfl⟩:=r;cases (show T = "str" from ty);exact⟨QR s z t,λ_ e=>nomatch e⟩
 | int i =>
  obtain⟨t,rfl⟩:=r;cases (show T = "int" from ty);exact⟨typeIs_int s i t,λ_ e=>nomatch e⟩
 | ref p =>
  cases r;rcases ty with⟨rfl,xs,b⟩|⟨rfl,xs,b⟩|⟨rfl,hk⟩|⟨rfl,S,n,hk⟩
  obtain⟨d,_,pl,_⟩:=I.list b;refine⟨pl.isList.typeIs,λa e=>?_⟩;cases e;obtain⟨o,n,e,c,hd,_⟩:=pl;exact⟨o,e,hd⟩;obtain⟨d,_,o,e,hc,_,hd⟩:=I.tupleN b;refine⟨⟨o,e,hc⟩,λa e'=>?_⟩;cases e';exact⟨o,e,hd⟩;have z:∃o,s.heap.get? p=some o/\o.ExactDict:=by
   rcases hk with⟨kvs,hk⟩|⟨kvs,hk⟩
   obtain⟨_,_,_,_,o,_,_,e,ex,_⟩:=I.hok p _ hk;exact⟨o,e,ex⟩;obtain⟨_,_,_,_,o,_,_,e,ex,_⟩:=I.hok p _ hk;exact⟨o,e,ex⟩
  obtain⟨o,e,ex⟩:=z;refine⟨⟨o,e,ex.1⟩,λa e2=>?_⟩;cases e2;exact⟨o,e,ex.2.1⟩;obtain⟨o,_,_,_,e,ex,_⟩:=I.hok p _ hk;refine⟨⟨o,e,ex.1⟩,λa e2=>?_⟩;cases e2;exact⟨o,e,ex.2.1⟩
 | _=>exact False.elim ty
def GV(K:ca)(T:String)(r:V->List V->Hp->VK->Prop)(to:TE):TE:=λσ H Q=>to σ H λx H1=>tyV K T x H1/\r x [] H1 Q
def tBM(K:ca)(T:String)(r:V->List V->Hp->VK->Prop)(to:TE)(t:TA):TE:=λσ H Q=>to σ H λx H1=>tyV K T x H1/\t σ H1 λxs a=>r x xs a Q
variable {o e:bb}{es:List bb}{to:TE}{t:TA}{name:bx}{apos cpos:Pos}{T id:String}{r:V->List V->Hp->VK->Prop}
theorem Dq(g:Zl T)(slot:Slot T name id)(c:typeOf (.builtin id)=pure (.type "method_descriptor"))(i:MtR X id r)(ho:PE X o to)
  (a:z5 o name X.env (eval o X.env)=eval o X.env:=by rfl) (b:(apos.endLine==cpos.line)=true:=by rfl):PE X (.Call (.Attribute o name apos) [] [] cpos) (GV X.K T r to):=by intro pins s σ H Q I h;refine wpAny_Call_method0_late a b (thn (ho pins s σ H _ I h) λv s1 d=>?_);obtain⟨x,H1,e,f,ty,j⟩:=d;obtain⟨h1,h2⟩:=yn e f ty;exact⟨T,id,g,slot,c,h1,h2,Calls.callWith_builtin rfl (PySem.evalArgs_none (i pins s1 σ H1 x [] v [] Q e f .nil j))⟩
theorem FR(l:Zl T)(slot:Slot T name id)(f:typeOf (.builtin id)=pure (.type "method_descriptor"))(m:MtR X id r)(ho:PE X o to)(n:PA X (e::es) t)
  (b:z5 o name X.env (eval o X.env)=eval o X.env:=by rfl)
  (d:((ze cpos (kq (e::es) X.env)).all (λx=>!x.1)&&(KU cpos (KA [] X.env)).all (λx=>x.1.isSome)
   && decide ((e::es).length+([]:List KS).length+(if ([]:List KS).isEmpty then 0 else 1)<30))=true:=by rfl)
  (c:(apos.endLine==cpos.line)=true:=by rfl) (hs:kq (e::es) X.env=(false,eval e X.env)::kq es X.env:=by rfl) (a:(ze cpos (kq es X.env)).any (·.1)=false:=by rfl) :
  PE X (.Call (.Attribute o name apos) (e::es) [] cpos) (tBM X.K T r to t):=by intro pins s σ H Q I h;refine wpAny_Call_method_late b d c rfl (thn (ho pins s σ H _ I h) λv s1 g=>?_);obtain⟨x,H1,i,j,ty,p⟩:=g;obtain⟨h1,h2⟩:=yn i j ty;refine⟨T,id,l,slot,f,h1,h2,?_⟩;have k:=n cpos pins s1 σ H1 _ i p;rw[hs] at k ⊢;refine Calls.callWith_builtin (by show(false || (ze cpos (kq es X.env)).any (·.1))=false;rw[a] <;> rfl) (Calls.evalArgs_plain ?_);exact thn k λus s2 ⟨vs,q,u,w,y⟩=>m pins s2 σ q x vs v us Q u j w y
end
def MtM(X:Cx)(id:String)(r:V->List V->Hp->VK->Prop):Prop :=
 ∀(pins:List (ap×Obj)) (s:ba) (σ:St) (H:Hp) (x:V) (xs:List V) (v:as) (us:List as) (Q:VK),Inv X pins σ H s->be x v->aH xs us->r x xs H Q ->
  kw (qb X.prog X.w) X.A (call (.builtin id) (v::us)) (EP X pins σ Q) X.xe s
theorem aH.consI{x:V}{xs:List V}{us:List as}(h:aH (x::xs) us):∃u vs,us=u::vs/\be x u/\aH xs vs:=by
 cases h with
 | cons r q=>exact⟨_,_,rfl,r,q⟩
theorem aH.zero{us:List as}(h:aH [] us):us=[]:=by cases h;rfl
theorem aH.one{x:V}{us:List as}(h:aH [x] us):∃u,us=[u]/\be x u:=by obtain⟨u,vs,rfl,r,q⟩:=h.consI;rw[aH.zero q];exact⟨u,rfl,r⟩
theorem aH.dropLast{xs:List V}{us:List as}(h:aH xs us):aH xs.dropLast us.dropLast:=by
 induction h with
 | nil=>exact .nil
 | cons r t a =>
  cases t with
  | nil=>exact .nil
  | cons q t'=>exact .cons r a
theorem aH.eraseIdx:∀{xs:List V}{us:List as} (i:Nat),aH xs us->aH (xs.eraseIdx i) (us.eraseIdx i)
 | _,_,_,.nil=>.nil
 | _,_,0,.cons _ t=>t
 | _,_,i+1,.cons r t=>.cons r (aH.eraseIdx i t)
theorem rZ{α:Type}(l:List α):l.eraseIdx (l.length - 1)=l.dropLast:=by
 induction l with
 | nil=>rfl
 | cons a r c =>
  cases r with
  | nil=>rfl
  | cons b r =>
   have e:(a::b::r).length - 1=((b::r).length - 1)+1:=by have h1:(a::b::r).length=r.length+2:=rfl;have h2:(b::r).length=r.length+1:=rfl;omega
   rw[e,List.eraseIdx_cons_succ,c]
   all_goals rfl
theorem l9{α:Type}:∀(l:List α) (i:Nat),(l.eraseIdx i).length<=l.length
 | [],_=>IS _
 | _::_,0=>Kb _
 | _::r,i+1=>Nat.succ_le_succ (l9 r i)
section
variable {X:Cx}{pins:List (ap×Obj)}{σ:St}{H:Hp}{s:ba}{l:ap}{xs ys:List V}
theorem Inv.lset{a its':List as}{n:Nat}{f:Array as->Array as}{t':Nat}(I:Inv X pins σ H s)(b:H l=some (.lst xs))
  (e : s.heap.get? l=some { cls:=.type "list",data:=.seq a.toArray n }) (c:f a.toArray=its'.toArray) (hv:aH ys its') (hz:ys.length<=sizeLine) :
  Inv X pins σ (upd H l (.lst ys)) { s with heap:=s.heap.update l (Obj.mapSeq f),toks:=t' }:=by have q:=PySem.IsL.update e f;rw[c] at q;refine I.write (x:=l) (e:=l) (by rw[b];exact trivial) (.inl rfl) (λh u d g=>(Jp s.heap (Obj.mapSeq f) (Ne.symm d)).trans g) ⟨_,q⟩ ?_;exact⟨hz,its',_,hv,q⟩
theorem Inv.lnew{a:List as}{t':Nat}(I:Inv X pins σ H s)(hv:aH ys a)(hz:ys.length<=sizeLine) :
  Inv X pins σ (upd H s.heap.objs.size (.lst ys)) { s with heap:=s.heap.push { cls:=.type "list",data:=.seq a.toArray },toks:=t' } :=
 I.laid (λ_ _ q=>IH _ q) (IS _) ⟨hz,a,0,hv,IW _ rfl⟩
theorem Inv.fresh(I:Inv X pins σ H s):H s.heap.objs.size=none:=I.hok.fresh (IS _)
theorem Inv.lstM(I:Inv X pins σ H s)(b:H l=some (.lst xs)):xs.length<=sizeLine/\∃(a:List as) (n:Nat),aH xs a/\xs.length=a.length/\s.heap.get? l=some { cls:=.type "list",data:=.seq a.toArray n }:=by obtain⟨z,a,n,r,e⟩:=I.hok l _ b;exact⟨z,a,n,r,r.length,e⟩
theorem xg{n:Nat}(h:n<=sizeLine):Builtin.List.listTooLong n=false:=by unfold Builtin.List.listTooLong;exact decide_eq_false (by omega)
end
section
variable {X:Cx}
def Ag:V->List V->Hp->VK->Prop:=λx vs H Q=>∃l xs y,x=.ref l/\vs=[y]/\H l=some (.lst xs)/\xs.length<sizeLine/\Q .non (upd H l (.lst (xs++[y])))
theorem lZ:MtM X "list.append" Ag:=by intro pins s σ H x vs v us Q I c rv h;obtain⟨l,xs,y,rfl,rfl,b,hz,q⟩:=h;cases c;obtain⟨u,rfl,d⟩:=rv.one;obtain⟨z,a,n,r,hl,e⟩:=I.lstM b;refine Qd F.slot_list_append ⟨_,e,rfl⟩ F.entry_list_append (F.args_list_append_2 _ _) (PySem.list_append l a.toArray n u (by rw[IV];omega)) ⟨e,?_⟩;refine⟨.non,_,I.lset (its':=a++[u]) b e (by simp) (r.append (.cons d .nil)) ?_,rfl,q⟩;rw[Jg,JD];omega
def Af:V->List V->Hp->VK->Prop:=λx vs H Q=>∃l b xs a,x=.ref l/\vs=[.ref b]/\H l=some (.lst xs)/\H b=some (.lst a)/\xs.length+a.length<=sizeLine/\Q .non (upd H l (.lst (xs++a)))
theorem uC:MtM X "list.extend" Af:=by
 intro pins s σ H x vs v us Q I g rv h;obtain⟨l,b,xs,p,rfl,rfl,f,i,hz,q⟩:=h;cases g;obtain⟨u,rfl,j⟩:=rv.one;cases j;obtain⟨z,c,n,r,hl,e⟩:=I.lstM f;obtain⟨z2,a,k,m,o,e2⟩:=I.lstM i;have hsz:c.toArray.size+a.toArray.size<=sizeLine:=by rw[IV,IV];omega
 have d:¬(!c.toArray.isEmpty&&Builtin.List.listTooLong (c.toArray.size+a.toArray.size))=true:=by rw[xg hsz,Bool.and_false];exact Ja
 refine Qd F.slot_list_extend ⟨_,e,rfl⟩ F.entry_list_extend (F.args_list_extend_2 _ _)
  (AutoSeq1.list_extend_list_list_0 l c.toArray n b a.toArray k d (by rw[IV];omega) (by omega)) ⟨e,e2,?_⟩
 refine⟨.non,_,I.lset (its':=c++a) f e (by simp) (r.append m) ?_,rfl,q⟩;rw[Jg];omega
def HJ:V->List V->Hp->VK->Prop:=λx vs H Q=>∃l xs y,x=.ref l/\vs=[]/\H l=some (.lst xs)/\xs[xs.length - 1]? = some y/\Q y (upd H l (.lst xs.dropLast))
theorem yS:MtM X "list.pop" HJ:=by
 intro pins s σ H x vs v us Q I f rv h;obtain⟨l,xs,y,rfl,rfl,d,g,q⟩:=h;cases f;have b:=rv.zero;subst b;obtain⟨z,a,n,r,hl,e⟩:=I.lstM d;obtain⟨u,i,j⟩:=r.get g;have c:a.toArray[a.toArray.size - 1]? = some u:=by show a.toArray[a.length - 1]? = some u;rw[<-Array.getElem?_toList,<-hl];exact i
 refine Qd F.slot_list_pop ⟨_,e,rfl⟩ F.entry_list_pop (F.args_list_pop_1 _) (MeetsSeq.list_pop_last l a.toArray n u c (by rw[IV];omega)) ⟨e,?_⟩;refine⟨y,_,I.lset (its':=a.dropLast) d e ?_ r.dropLast ?_,j,q⟩;show a.toArray.eraseIdxIfInBounds (a.toArray.size - 1)=a.dropLast.toArray;rw[IV,List.eraseIdxIfInBounds_toArray,rZ];rw[List.length_dropLast];omega
def CO:V->List V->Hp->VK->Prop:=λx vs H Q=>∃l xs i k y,x=.ref l/\vs=[.int i]/\H l=some (.lst xs)/\-(2 ^ 63)<=i/\i<2 ^ 63/\Zt i xs.length=some k/\xs[k]? = some y/\Q y (upd H l (.lst (xs.eraseIdx k)))
theorem xl:MtM X "list.pop" CO:=by
 intro pins s σ H x vs v us Q I d rv h;obtain⟨l,xs,i,k,y,rfl,rfl,c,h1,h2,hk,f,q⟩:=h;cases d;obtain⟨u,rfl,g⟩:=rv.one;obtain⟨t,rfl⟩:=g;obtain⟨z,a,n,r,hl,e⟩:=I.lstM c;obtain⟨w,hw,b⟩:=r.get f;refine Qd F.slot_list_pop ⟨_,e,rfl⟩ F.entry_list_pop (F.args_list_pop_2 _ _)
  (MeetsSeq.list_pop_at l a.toArray n i t k w (fitsIndex_both h1 h2) (by rw[IV,<-hl];exact hk) (by rw[<-Array.getElem?_toList];exact hw) (by rw[IV];omega)) ⟨e,?_⟩
 refine⟨y,_,I.lset (its':=a.eraseIdx k) c e ?_ (r.eraseIdx k) ?_,b,q⟩;show a.toArray.eraseIdxIfInBounds k=(a.eraseIdx k).toArray;rw[List.eraseIdxIfInBounds_toArray];have:=l9 xs k;omega
end
end _L
namespace Att
open PySem PySem.W PySem.Calls PyProof.Rows
theorem iU{P:Params}{h:bd}:∀(ns:List Int) (vs:List as),WellAll P h vs (ns.map WData.int)->ZF vs ns:=by
 intro ns
 induction ns with
 | nil =>
  intro vs w;rw[J5] at w;cases w;exact .nil
 | cons n ns c =>
  intro vs w;rw[IU] at w;cases w with
  | cons a b =>
   cases a;exact .cons _ _ (c _ b)
theorem tD{l:OpenLaw}{n:Nat}(hn:l.most=some n){P:Params}{h:bd}{args:List WData}{b:List as}
  (c:l.row.toRowW.claim.pre args=true) (j:WellAll P h b args) :
  ∃a vs ns,b=[Value.ref a]/\args=[WData.list (ns.map WData.int)]/\h.get? a=some { cls:=.type "list",data:=.seq vs.toArray }/\ZF vs ns/\ns.length<=n:=by
 have k:WShape.hasAll [] args [.list .int]=true:=(pre_splitW c).1;have hc:l.pre.holds [] { args:=args }=true:=(pre_splitW c).2;obtain⟨d,r,rfl,h1,h2⟩:=hasAllW_cons k;obtain rfl:=hasAllW_nil h2;obtain⟨xs,rfl,h3⟩:=hasW_list h1;obtain⟨ns,rfl⟩:=items_int h3;have e:ns.length<=n:=by
  unfold OpenLaw.pre at hc;have g:(WTm.not (.lt (.lit (.int (n:Int))) (.len (.arg 0)))).holds [] { args:=[.list (ns.map .int)] }=true:=by have g:=(holds_andW hc).1;rw[hn] at g;exact g
  have i:=condW_of g (w_not (w_lt w_lit (w_len_list (w_arg rfl))));rw[IF] at i;refine Nat.le_of_not_lt λq=>?_;have m:(n:Int)<((ns.length:Nat):Int):=by omega
  first
   | (rw[decide_eq_true m] at i;exact absurd i (by decide))
   | (simp at i;omega)
 cases j with
 | cons o p =>
  cases p;cases o with
  | list ho f=>exact⟨_,_,ns,rfl,rfl,ho,iU ns _ f,e⟩
theorem tZ(l:OpenLaw)(args:List WData):l.row.toRowW.claim.post args (.bool true) args=true :=
 postW_of (r:=l.row.toRowW) (X:=(true==true))
  (show WShape.has [] (.bool true) .bool=true by first|rfl|decide|simp[WShape.has,WShape.arms,WShape.armsAll])
  (show(WTm.eq .res (.lit (.bool true))).value [] { args:=args,res:=some (.bool true),after:=args }=some (.bool (true==true)) from w_eq_bool (w_res rfl) w_lit) rfl
theorem attach_call{l:OpenLaw}{n:Nat}{q:q3}{c:List bx}{s:(bx->Option as)->bd->Prop}{t:zb->bd->Prop}{d:DefRec}
  (hn:l.most=some n) (j:d.params.defaults=[])
  (call:∀(w:zb) (s₀ b:ba) (mg mb:bx->Option as) (fa:ap) (o:Obj) (pm cd doc:as) (a:ap) (vs:List as) (ns:List Int),
   Ground q c [] s w s₀ mg mb b.heap->t w b.heap ->
   b.heap.get? fa=some o->o.data=.func (docDef d.name d.params d.body d.scope pm cd doc)->b.heap.CodeRec cd d.name->mg d.name=some (.ref fa) ->
   b.heap.get? a=some { cls:=.type "list",data:=.seq vs.toArray }->ZF vs ns->ns.length<=n->b.gens=#[] ->
   KM (qb l.prog w) QW (.call (.ref fa) ⟨[.ref a],[]⟩) (λr s'=>r=.ok (.ret (.bool true))/\OldK b.heap s'.heap/\s'.os=b.os/\Qx s'.gens) b) :
  WalkO q c s t l.row.toRowW d [] (λf vs=>PySem.call f vs):=by intro w s₀ b mg mb G Y fa o pm cd doc x kV ho hd k hD m hg args u D g v y p z;obtain rfl:x=.none:=Dflts.none hD j;obtain rfl:kV=.none:=Dflts.noKw hD;obtain⟨a,vs,ns,rfl,rfl,h,e,i⟩:=tD hn g p;refine enter_call (Qw (call w s₀ b mg mb fa o pm cd doc a vs ns G Y ho (fd_plain hd) k m h e i hg) λr s' A=>?_);obtain⟨rfl,h2,h3,B⟩:=A;exact⟨.inl ⟨.bool true,.bool true,[],rfl,λ_=>rfl,.bool true,tZ l _,λ_=>⟨List.Pairwise.nil,λ_ C=>(nomatch C)⟩⟩,h2,h3,B⟩
end Att
namespace _L
open PySem PySem.Spec PyProof.Rows
theorem kT:∀{vs:List as}{ns:List Int},ZF vs ns->aH (ns.map V.int) vs
 | _,_,.nil=>.nil
 | _,_,.cons n t h=>.cons ⟨t,rfl⟩ (kT h)
def GL(H:Hp):Prop:=∀b,H b=none\/(∃o xs,H b=some (.frz o (.lst xs)))\/∃q,H b=some (.tbl q)
theorem xu{P:q3}{w:zb}{K:ca}{mg mb:bx->Option as}{CX:CXT}{k:Nat}{fa a:ap}{fd:kN}{x:bx}{sp:Sp}{f:ba}{vs:List as}{ns:List Int}{tb:List (ap×bx)}
  (A:∀b q,tb.lookup b=some q->f.heap.get? b=some { cls:=.none,data:=.fields #[] }/\K.lookup b=none/\∃c,f.heap.TableAt c b #[]) (O:∀T q,jb K T q->tb.lookup T=some q)
  (KX:K.In f.heap) (D:f.heap.Ns ky mg) (i:f.heap.Ns K3 mb) (Q:∀x:bx,x ≠ "__name__" -> mb x=KJ x) (E:f.heap.NoLimit) (R:∃bm ob,mg "__builtins__" = some (.ref bm)/\bm≠K3/\f.heap.get? bm=some ob/\ob.cls=.type "module" /\ ob.dict=some K3/\ob.data=.plain) (hg:f.gens=#[])
  (B:f.heap.get? a=some { cls:=.type "list",data:=.seq vs.toArray }) (hi:ZF vs ns) (hl:ns.length<=sizeLine) (hr:b9 k QW)
  (F : ∀base:bd,K.In base->base.Ns ky mg->a9 P w K mg base CX k fa fd [x] sp) (C:∀(s:ba) (u:as),QJ s fd ⟨[u],[]⟩ [(x,u)])
  (S:∀H:Hp,GL H->SqL K H a (ns.map V.int)->sp [.ref a] H (λv _=>v=.bl true) λ_ _ _=>False)
  (U:∀H e s',CX [] H f (λ_ _ _=>False) e s'->False) :
  KM (qb P w) QW (.call (.ref fa) ⟨[.ref a],[]⟩) (λr s'=>r=.ok (.ret (.bool true))/\OldK f.heap s'.heap/\s'.os=f.os/\Qx s'.gens) f:=by
 have rv:=kT hi;have G:=hi.length;have t:∀H:Hp,GL H->SqL K H a (ns.map V.int)->HOk P w H f.heap->(∀b u,H b=some u->(b=a/\K.lookup a=none)\/∃q,tb.lookup b=some q/\u=.tbl q)->(∀b q,tb.lookup b=some q->H b=some (.tbl q)) ->
   KM (qb P w) QW (.call (.ref fa) ⟨[.ref a],[]⟩) (λr s'=>r=.ok (.ret (.bool true))/\OldK f.heap s'.heap/\s'.os=f.os/\Qx s'.gens) f:=by
  intro H hO hS hok M hB;have g:∀{b:ap}{o:Obj},f.heap.get? b=some o->H b=none->(vU f.heap H).get? b=some o:=λe n=>xD e n;have X:∀{b:ap}{o:Obj}{es:Array DictEntry}{ep:Nat},f.heap.get? b=some o->o.data=.dict es ep->H b=none:=λ{b o es ep} e d=>by
   cases q:H b with
   | none=>rfl
   | some u =>
    rcases M b u q with⟨e',_⟩|⟨j,e',_⟩
    subst e';rw[B] at e;cases e;have d':Data.seq vs.toArray _=Data.dict es ep:=d;cases d';rw[(A b j e').1] at e;cases e;have d':Data.fields _=Data.dict es ep:=d;cases d'
  have l:∀{b:ap}{m:bx->Option as},f.heap.Ns b m->(vU f.heap H).Ns b m:=λ{b m} ⟨o,es,ep,e,d,r⟩=>⟨o,es,ep,g e (X e d),d,r⟩
  have I:K.In (vU f.heap H):=λb o e=>g (KX b o e) (by
   cases q:H b with
   | none=>rfl
   | some u =>
    rcases M b u q with⟨e',hk⟩|⟨j,e',_⟩
    subst e';rw[hk] at e;cases e;rw[(A b j e').2.1] at e;cases e)
  have J:∃bm ob,mg "__builtins__" = some (.ref bm)/\bm≠K3/\(vU f.heap H).get? bm=some ob/\ob.cls=.type "module" /\ ob.dict=some K3/\ob.data=.plain:=by
   obtain⟨bm,ob,b1,b2,L,b4,b5,Y⟩:=R;refine⟨bm,ob,b1,b2,g L ?_,b4,b5,Y⟩;cases q:H bm with
   | none=>rfl
   | some u =>
    rcases M bm u q with⟨e',_⟩|⟨j,e',_⟩
    subst e';rw[B] at L;cases L;cases Y;rw[(A bm j e').1] at L;cases L;cases Y
  have hM:Mod K mg (vU f.heap H):=⟨I,l D,⟨mb,l i,Q⟩,let ⟨mc,h1,h2⟩:=E;⟨mc,l h1,h2⟩,J⟩
  have N:sy P w K mg (vU f.heap H) QW [] f H:=⟨rfl,hM,λb o e=>A0 e,Nat.le_of_eq (uS _ _),trivial,λb i=>absurd (show b∈([]:List ap) from i) (by simp),hok,.of_eq hg,λT q h=>hB T q (O T q h)⟩
  refine Qw ((F _ I (l D)).run QW [] f H ⟨[.ref a],[]⟩ [.ref a] [.ref a] _ _ hr N (C f (.ref a)) (.cons rfl .nil) (S H hO hS)) λr s' h=>?_;cases r with
  | error e=>exact(U H e s' h).elim
  | ok fl =>
   cases fl with
   | next=>exact False.elim h
   | brk=>exact False.elim h
   | cont=>exact False.elim h
   | ret u =>
    obtain⟨v,H',os,bare,un,y,r',q⟩:=h;have j:v=.bl true:=q;subst j;obtain rfl:u=Value.bool true:=r';refine⟨rfl,⟨λb o e=>?_,λb o e=>un.there b o e (by simp)⟩,os,bare⟩;cases q:H b with
    | none=>exact .inl (un.keep b o e q (by intro z;exact absurd (show b∈([]:List ap) from z) (by simp)) (by simp))
    | some u =>
     rcases hO b with z|⟨ob,xs,z⟩|⟨j,z⟩
     rw[q] at z;cases z;have z2:=un.frzs b ob _ z;obtain⟨e1,_⟩:=hok b _ z;obtain⟨e2,_⟩:=y b _ z2;rw[e] at e1;cases e1;exact .inl e2;obtain⟨ps,e2,_⟩:=y b _ (un.tbls b j z);rcases M b _ z with⟨e',_⟩|⟨q2,e',_⟩
     obtain⟨a4,N,_⟩:=hok b _ z;subst e';rw[B] at N;cases N;obtain⟨t1,_,c,t2⟩:=A b q2 e';rw[e] at t1;cases t1;exact .inr (.inl ⟨t2.isCodeTable,rfl,#[],ps,rfl,by simpa using e2⟩)
 cases hk:K.lookup a with
 | some o =>
  have e:=KX a o hk;rw[B] at e;cases e;refine t (λb=>(tb.lookup b).map .tbl) (λb=>?_) (.inr ⟨_,vs.toArray,_,hk,rfl,rfl,rfl,by rw[IV,G];exact hl,by simpa using rv⟩) (λb u z=>?_) (λb u z=>?_) λb q z=>by show(tb.lookup b).map HO.tbl=_;rw[z];rfl
  cases z:tb.lookup b with
  | none=>exact .inl (by show(tb.lookup b).map HO.tbl=_;rw[z];rfl)
  | some q=>exact .inr (.inr ⟨q,by show(tb.lookup b).map HO.tbl=_;rw[z];rfl⟩)
  have z:(tb.lookup b).map HO.tbl=some u:=z;cases q:tb.lookup b with
  | none=>rw[q] at z;cases z
  | some j =>
   rw[q] at z;cases z;exact⟨#[],(A b j q).1,trivial,λpos cv h=>by cases (show(none:Option as)=some cv from h)⟩
  have z:(tb.lookup b).map HO.tbl=some u:=z;cases q:tb.lookup b with
  | none=>rw[q] at z;cases z
  | some j=>rw[q] at z;cases z;exact .inr ⟨j,rfl,rfl⟩
 | none =>
  have Z:tb.lookup a=none:=by
   cases z:tb.lookup a with
   | none=>rfl
   | some q =>
    have e:=(A a q z).1;rw[B] at e;cases e
  have p:∀b,b≠a->(if b=a then some (HO.frz { cls:=.type "list",data:=.seq vs.toArray } (.lst (ns.map V.int))) else (tb.lookup b).map .tbl)=(tb.lookup b).map .tbl:=λb i=>if_neg i;refine t (λb=>if b=a then some (.frz { cls:=.type "list",data:=.seq vs.toArray } (.lst (ns.map V.int))) else (tb.lookup b).map .tbl) (λb=>?_) (.inl (.inr ⟨{ cls:=.type "list",data:=.seq vs.toArray },if_pos rfl⟩)) (λb u z=>?_) (λb u z=>?_) λb q z=>?_;by_cases i:b=a;exact .inr (.inl ⟨_,_,if_pos i⟩);dsimp only;rw[p b i];cases z:tb.lookup b with
  | none=>exact .inl rfl
  | some q=>exact .inr (.inr ⟨q,rfl⟩)
  by_cases i:b=a;have z':=(if_pos i).symm.trans z;cases z';subst i;exact⟨B,by rw[IF];exact hl,vs,_,rv,B⟩;have z:(tb.lookup b).map HO.tbl=some u:=(p b i).symm.trans z;cases q:tb.lookup b with
  | none=>rw[q] at z;cases z
  | some j =>
   rw[q] at z;cases z;exact⟨#[],(A b j q).1,trivial,λpos cv h=>by cases (show(none:Option as)=some cv from h)⟩
  by_cases i:b=a;exact .inl ⟨i,hk⟩;have z:(tb.lookup b).map HO.tbl=some u:=(p b i).symm.trans z;cases q:tb.lookup b with
  | none=>rw[q] at z;cases z
  | some j=>rw[q] at z;cases z;exact .inr ⟨j,rfl,rfl⟩
  have i:b≠a:=λe=>by subst e;rw[Z] at z;cases z
  exact(p b i).trans (by rw[z];rfl)
theorem zM{l:PySem.W.OpenLaw}{n k:Nat}{q:q3}{i:List bx}{E:(bx->Option as)->bd->Prop}{I:zb->bd->Prop}{d:DefRec}{K:Params->ca}{CX:zb->CXT}{sp:zb->Sp}{x:bx}
  (hn:l.most=some n) (hn2:n<=sizeLine) (t:d.params.defaults=[]) (J:b9 k QW)
  (y:∀(w:zb) (s₀:ba) (mg mb:bx->Option as) (h:bd),PySem.W.Ground q i [] E w s₀ mg mb h->(K w.params).In h->∃tb:List (ap×bx),(∀b q,tb.lookup b=some q->h.get? b=some { cls:=.none,data:=.fields #[] }/\(K w.params).lookup b=none/\∃c,h.TableAt c b #[])/\∀T q,jb (K w.params) T q->tb.lookup T=some q)
  (L:∀(w:zb) (h:bd),I w h->(K w.params).In h)
  (F : ∀(w:zb) (mg:bx->Option as) (fa:ap) (h:bd),(K w.params).In h->h.Ns ky mg->mg d.name=some (.ref fa) ->
   ∃fd:kN,(∀(s:ba) (u:as),QJ s fd ⟨[u],[]⟩ [(x,u)]) /\
    ∀base:bd,(K w.params).In base->base.Ns ky mg->a9 l.prog w (K w.params) mg base (CX w) k fa fd [x] (sp w))
  (z:∀(w:zb) (H:Hp) (a:ap) (ns:List Int),ns.length<=n->GL H->SqL (K w.params) H a (ns.map V.int)->sp w [.ref a] H (λv _=>v=.bl true) λ_ _ _=>False)
  (A:∀(w:zb) (H:Hp) (s:ba) (e:as) (s':ba),CX w [] H s (λ_ _ _=>False) e s'->False) :
  PySem.W.WalkO q i E I l.row.toRowW d [] (λf vs=>PySem.call f vs):=by refine Att.attach_call hn t λw s₀ p mg mb fa o pm cd doc a vs ns G Y ho hd M B r m j hg=>?_;have C:=L w _ Y;obtain⟨fd,N,hF⟩:=F w mg fa _ C G.T.g B;obtain⟨tb,O,D⟩:=y w s₀ mg mb _ G C;exact xu O D C G.T.g G.T.b G.T.builtins G.T.nolimit G.T.bmain hg r m (IQ j hn2) J hF N (λH P Q=>z w H a ns j P Q) λH e s'=>A w H p e s'
def fg(s:Stmt)(j:Nat):Stmt:=match s with
 | .ClassDef _ _ _ body _ _ _ _ _ _ _=>body.getD j (.Pass ⟨0,0,0,0⟩)
 | _=>.Pass ⟨0,0,0,0⟩
def cT(s:Stmt):QK:=match s with
 | .FunctionDef _ a _ _ _ _ _ _ _ _=>a
 | _=>{ posonlyargs:=[],args:=[],vararg:=none,kwonlyargs:=[],kw_defaults:=[],kwarg:=none,defaults:=[] }
def bI(s:Stmt):List Stmt:=match s with
 | .FunctionDef _ _ b _ _ _ _ _ _ _=>b
 | _=>[]
def ac(s:Stmt):KL:=match s with
 | .FunctionDef _ _ _ _ _ _ sc _ _ _=>sc
 | _=>{ kind:=.function,names:=[],isGenerator:=false,isCoroutine:=false }
abbrev CX0:CXT:=λ_ _ _ _ _ _=>False
abbrev E0:XK:=λ_ _ _=>False
theorem uf{X:Cx}:ja CX0 X E0:=λ_ _ _ _ _ _ _ h=>h.elim
structure Fun(K:ca)(x qual:bx)(st:Stmt)(f:ap)(fd:kN):Prop where
 ex : ∃(oc:as) (od:Option ap) (kV doc pm:as) (an:Option ap) (cdv ct:as) (osl:Array (Option as)),
  fd = PySem.W.fnOf x qual (cT st) (bI st) (ac st) .none kV doc pm an cdv ct/\K.lookup f=some ⟨oc,od,.func fd,osl⟩/\PySem.W.codeIn K cdv qual=true
 kp : PySem.W.keepIn K (.ref f)=true
section
variable {P:q3}{w:zb}{K:ca}{mg:bx->Option as}{base:bd}
theorem Fun.ok{x qual:bx}{st:Stmt}{f:ap}{fd:kN}{N ps:List bx}{k:Nat}{sp:Sp}(F:Fun K x qual st f fd)(S:ak N ps (ac st))(len:∀vs H Q E,sp vs H Q E->vs.length=ps.length)
  (a:∀(cdv:as) (A:Around) (outer:List Env) (s:ba) (H:Hp) (vs:List V) (Q:VK) (E:XK),b9 k (A.deeper (Qq qual (ac st) s.heap.objs.size f cdv))->sp vs H Q E ->
   ∃t,PSs (sC CX0 P w K mg base N qual (ac st) f cdv A outer s H E).nox (bI st) t/\t { nx:=λ_ H'=>Q .non H',rt:=Q } (start N vs) H):a9 P w K mg base CX0 (k+1) f fd ps sp:=by obtain⟨oc,od,kV,doc,pm,an,cdv,ct,osl,rfl,d,b⟩:=F.ex;refine Ef d b S len λA outer s H vs Q E e c=>?_;obtain⟨t,h,q⟩:=a cdv A outer s H vs Q E e c;exact⟨t,h.nox,q⟩
theorem Fun.binds{x qual:bx}{st:Stmt}{f:ap}{fd:kN}{ps:List bx}(F:Fun K x qual st f fd)
  (h : ∀(kV doc pm:as) (an:Option ap) (cdv ct:as) (us:List as),us.length=ps.length->Qj (PySem.W.fnOf x qual (cT st) (bI st) (ac st) .none kV doc pm an cdv ct) ⟨us,[]⟩=pure (ps.zip us)):cV K fd ps []:=by obtain⟨oc,od,kV,doc,pm,an,cdv,ct,osl,rfl,b,a⟩:=F.ex;exact .all (h kV doc pm an cdv ct)
theorem uW{x qual:bx}{st:Stmt}{f:ap}{oc:as}{od an:Option ap}{osl:Array (Option as)}{kV doc pm cdv ct:as}(l:K.lookup f=some ⟨oc,od,.func (PySem.W.fnOf x qual (cT st) (bI st) (ac st) .none kV doc pm an cdv ct),osl⟩)
  (c : PySem.W.codeIn K cdv qual=true) (k:PySem.W.keepIn K (.ref f)=true):Fun K x qual st f (PySem.W.fnOf x qual (cT st) (bI st) (ac st) .none kV doc pm an cdv ct):=⟨⟨oc,od,kV,doc,pm,an,cdv,ct,osl,rfl,l,c⟩,k⟩
end
theorem kP{c A B:Prop} [Decidable c](h1:c->A)(h2:¬c->B):if c then A else B:=by by_cases h:c;rw[if_pos h];exact h1 h;rw[if_neg h];exact h2 h
def aS(H H':Hp):Prop:=∀b o,H b=some o->H' b=some o
theorem aS.refl(H:Hp):aS H H:=λ_ _ h=>h
theorem aS.trans{H H1 d:Hp}(a:aS H H1)(b:aS H1 d):aS H d:=λc o h=>b c o (a c o h)
theorem aS.seq{K:ca}{H H':Hp}{a:ap}{xs:List V}(e:aS H H')(h:SqL K H a xs):SqL K H' a xs:=by rcases h with (h|⟨o,h⟩)|h;exact .inl (.inl (e _ _ h));exact .inl (.inr ⟨o,e _ _ h⟩);exact .inr h
end _L
set_option maxHeartbeats 4000000
namespace _L
open PySem PySem.Spec PyProof.Rows
def cg(env:Env):List (bx×NameKind)->List (bx×ap)->List (bx×ap)
 | [],a=>a
 | (n,k)::r,a=>if (k==.free)=true then cg env r ((n,(env.cells.lookup n).getD 0)::a) else cg env r a
theorem gv{env:Env}(f:bx×NameKind->List (bx×ap)->Sem (ForInStep (List (bx×ap))))
  (b:∀name kind cs,f (name,kind) cs=if (kind==.free)=true then (do let c <-cellOf env name;pure (.yield ((name,c)::cs))) else pure (.yield cs)) :
  ∀(names:List (bx×NameKind)) (a:List (bx×ap)),(∀y∈names,y.2=.free->(env.cells.lookup y.1).isSome=true)->forIn names a f=(pure (cg env names a):Sem _)
 | [],a,_=>by rw[Kl];rfl
 | (n,k)::r,a,h=>by
  rw[Kr,b];unfold cg;by_cases hk:(k==NameKind.free)=true;rw[if_pos hk,if_pos hk];obtain⟨c,hc⟩:=Ka.mp (h (n,k) IL (by simpa using hk));have e:cellOf env n=pure c:=by unfold cellOf;rw[hc]
  rw[e,hc];simp only[pure_bind];exact gv f b r _ λy d=>h y (IM _ d);rw[if_neg hk,if_neg hk];simp only[pure_bind];exact gv f b r _ λy d=>h y (IM _ d)
theorem kF{scope:KL}{env:Env}(h:∀y∈scope.names,y.2=.free->(env.cells.lookup y.1).isSome=true):Qc scope env=pure (cg env scope.names []):=by simp only[Qc];rw[gv (env:=env) _ (λname kind cs=>by cases hk:kind==NameKind.free <;> simp[hk]) scope.names [] h];rfl
theorem cm(env:Env)(x:bx):∀(names:List (bx×NameKind)) (a:List (bx×ap)),(cg env names a).lookup x=if (x,NameKind.free)∈names then some ((env.cells.lookup x).getD 0) else a.lookup x
 | [],a=>by simp[cg]
 | (n, k)::r,a=>by
  unfold cg;by_cases hk:(k==NameKind.free)=true;have c:k=NameKind.free:=by simpa using hk
  subst c;rw[if_pos hk,cm env x r];by_cases b:(x,NameKind.free)∈r;rw[if_pos b,if_pos (IM _ b)];rw[if_neg b,Js];by_cases hx:x=n;subst hx;simp;have e1:(x==n)=false:=beq_eq_false_iff_ne.mpr hx;rw[e1];have e2:¬(x,NameKind.free)∈(n,NameKind.free)::r:=by intro z;rcases IR.mp z with z|z;exact hx (Prod.mk.inj z).1;exact b z
  rw[if_neg e2];rw[if_neg hk,cm env x r];have e2:(x,NameKind.free)∈(n,k)::r↔(x,NameKind.free)∈r:=by constructor;intro z;rcases IR.mp z with z|z;exact absurd (by rw[(Prod.mk.inj z).2.symm];rfl) hk;exact z;exact IM _
  by_cases b:(x,NameKind.free)∈r;rw[if_pos b,if_pos (e2.mpr b)];rw[if_neg b,if_neg (λz=>b (e2.mp z))]
theorem aZ:∀(names:List (bx×NameKind)) (n:Nat) (a:List (bx×ap)),Kx n names a=Kx n names []++a
 | [],n,a=>by simp[Kx]
 | (x,k)::r,n,a=>by
  unfold Kx;split;rw[aZ r (n+1) ((x,n)::a),aZ r (n+1) [(x,n)]];simp;exact aZ r n a
theorem bJ:∀(names:List (bx×NameKind)) (n:Nat) (x:bx) (c:ap),(x,c)∈Kx n names []->(x,NameKind.cell)∈names/\n<=c
 | [],n,x,c,h=>by simp[Kx] at h
 | (y,k)::r,n,x,c,h=>by
  unfold Kx at h;split at h;rename_i hk;rw[aZ] at h;rcases II.mp h with h|h;have q:=bJ r (n+1) x c h;exact⟨IM _ q.1,by omega⟩;have e:(x,c)=(y,n):=by simpa using h
  cases e;have a:k=NameKind.cell:=by simpa using hk
  subst a;exact⟨IL,IS _⟩;have q:=bJ r n x c h;exact⟨IM _ q.1,q.2⟩
theorem aG{α:Type}:∀{l:List (bx×α)}{x:bx}{k:α},(l.map (·.1)).Nodup->(x,k)∈l->l.lookup x=some k
 | (y,j)::r,x,k,nd,h=>by
  rw[Js];rcases IR.mp h with e|h;cases e;simp;have a:=Jr.mp nd;have this:x≠y:=λz=>a.1 (by
   rw[<-z];exact IZ.mpr ⟨(x,k),h,rfl⟩)
  rw[beq_eq_false_iff_ne.mpr this];exact aG a.2 h
theorem oI{M:Model}{A:Around}{E:as->ba->Prop}{s:ba}{scope:KL}{globals:ap}{cl:List (bx×ap)}{qual:bx}{env:Env}{Q:Env->ba->Prop}
  (h : Q (newEnv scope s.heap.objs.size globals (Kx (s.heap.objs.size+1) scope.names cl) qual none .none (some env) K3) { s with heap:=Qt (s.heap.push { cls:=.type "dict",data:=.dict #[] }) scope.names }) :
  kw M A (Zg scope globals cl [] qual none .none (some env)) Q E s:=by simp only[Zg,Option.isSome_some,if_true];refine jj (wpAny_alloc ?_);refine jj (wpAny_layCells _ (λname kind cells=>by cases hkc:kind==NameKind.cell <;> simp[hkc]) _ _ _ _ ?_);rw[show({ s with heap:=s.heap.push { cls:=.type "dict",data:=.dict #[] } }:ba).heap.objs.size=s.heap.objs.size+1 from JA ..];rw[Kl];exact jj (ke (ke h))
structure cF(N:List bx)(env:Env)(N':List bx)(ix:List (Option Nat))(sc:KL):Prop where
 kind:sc.kind=.function
 ndn:(sc.names.map (·.1)).Nodup
 free:∀y∈sc.names,y.2=.free->env.kindOf y.1=some .cell\/env.kindOf y.1=some .free
 len:ix.length=N'.length
 cap:∀(i j:Nat),ix[i]? = some (some j)->∃x,N'[i]? = some x/\N[j]? = some x/\sc.names.lookup x=some .free
theorem cF.names{N:List bx}{env:Env}{N':List bx}{ix:List (Option Nat)}{sc:KL}(S:cF N env N' ix sc):∀y∈sc.names,y.2=.local->sc.names.lookup y.1=some .local:=λy a e=>by
 obtain⟨x,k⟩:=y;cases e;exact aG S.ndn a
def c5(σ:St)(ix:List (Option Nat)):St:=ix.map λo=>o.bind λj=>(σ[j]?).join
def sD(sc:KL)(C:ap)(env:Env):Env:=compEnvC sc (Kx (C+1) sc.names (cg env sc.names [])) C env
def bCx(X:Cx)(N':List bx)(sc:KL)(s:ba)(H:Hp)(C:ap)(fp:List ap):Cx where
 prog:=X.prog
 w := X.w
 K := X.K
 mg := X.mg
 base:=X.base
 A := X.A
 N := N'
 s₀ := s
 H₀ := H
 env:=sD sc C X.env
 outer:=X.stack
 stack:=X.stack
 ex := fp
 fn := λx=>decide (sc.names.lookup x=some .cell)
 calm:=X.calm
 pn := []
 xe := λ_ _=>False
theorem eN{env:Env}:∀{names:List (bx×NameKind)}{x:bx}{k:NameKind},names.lookup x=some k ->
  (names.map λ(n,k)=>if (k==NameKind.free&&env.scope.kind==.function&&env.kindOf n==some .cell) then (n,NameKind.cell) else (n,k)).lookup x=some (if (k==NameKind.free&&env.scope.kind==.function&&env.kindOf x==some .cell)=true then .cell else k)
 | [],_,_,h=>by simp at h
 | (n,j)::r,x,k,h=>by
  have a:=@eN env r x k;show List.lookup x ((if (j==NameKind.free&&env.scope.kind==.function&&env.kindOf n==some .cell)=true then (n,NameKind.cell) else (n,j))::_)=_;cases hx:x==n with
  | true =>
   have e:x=n:=by simpa using hx
   subst e;simp only[Js,hx] at h;have b:j=k:=Option.some.inj h;subst b;by_cases hc:(j==NameKind.free&&env.scope.kind==.function&&env.kindOf x==some .cell)=true;rw[if_pos hc,if_pos hc];simp[Js];rw[if_neg hc,if_neg hc];simp[Js]
  | false =>
   simp only[Js,hx] at h;by_cases hc:(j==NameKind.free&&env.scope.kind==.function&&env.kindOf n==some .cell)=true;rw[if_pos hc];simp only[Js,hx];exact a h;rw[if_neg hc];simp only[Js,hx];exact a h
theorem cC{env:Env}:∀{names:List (bx×NameKind)}{x:bx},names.lookup x=none ->
  (names.map λ(n,k)=>if (k==NameKind.free&&env.scope.kind==.function&&env.kindOf n==some .cell) then (n,NameKind.cell) else (n,k)).lookup x=none
 | [],_,_=>rfl
 | (n,j)::r,x,h=>by
  have a:=@cC env r x;show List.lookup x ((if (j==NameKind.free&&env.scope.kind==.function&&env.kindOf n==some .cell)=true then (n,NameKind.cell) else (n,j))::_)=_;cases hx:x==n with
  | true=>simp only[Js,hx] at h;cases h
  | false =>
   simp only[Js,hx] at h;by_cases hc:(j==NameKind.free&&env.scope.kind==.function&&env.kindOf n==some .cell)=true;rw[if_pos hc];simp only[Js,hx];exact a h;rw[if_neg hc];simp only[Js,hx];exact a h
theorem i7{sc:KL}{C:ap}{env:Env}{x:bx}{k:NameKind}(h:sc.names.lookup x=some k):(sD sc C env).kindOf x=some (if (k==NameKind.free&&env.scope.kind==.function&&env.kindOf x==some .cell)=true then .cell else k):=eN h
theorem vF{sc:KL}{C:ap}{env:Env}{x:bx}(h:sc.names.lookup x=none):(sD sc C env).kindOf x=none:=cC h
section
variable {X:Cx}{N':List bx}{ix:List (Option Nat)}{sc:KL}
theorem i8(S:cF X.N X.env N' ix sc){C:ap}{x:bx}{c:ap}(h:(sD sc C X.env).cells.lookup x=some c) :
  (sc.names.lookup x=some .cell/\C+1<=c/\(x,c)∈Kx (C+1) sc.names [])\/(sc.names.lookup x=some .free/\c=(X.env.cells.lookup x).getD 0):=by
 have e:(sD sc C X.env).cells=Kx (C+1) sc.names []++cg X.env sc.names []:=aZ _ _ _;rw[e] at h;rcases II.mp (mem_of_lookup h) with q|q;obtain⟨a,b⟩:=bJ _ _ _ _ q;exact .inl ⟨aG S.ndn a,b,q⟩;have fr:(x,NameKind.free)∈sc.names:=by
  have z:∀(names:List (bx×NameKind)) (f:List (bx×ap)),(x,c)∈cg X.env names f->(x,c)∈f\/(x,NameKind.free)∈names:=by
   intro names
   induction names with
   | nil=>intro f h;exact .inl h
   | cons y r g =>
    obtain⟨n,k⟩:=y;intro f h;unfold cg at h;split at h;rename_i hk;have j:k=NameKind.free:=by simpa using hk
    subst j;rcases g _ h with h|h;rcases IR.mp h with h|h;cases h;exact .inr IL;exact .inl h;exact .inr (IM _ h);rcases g _ h with h|h;exact .inl h;exact .inr (IM _ h)
  rcases z _ _ q with q|q;simp at q;exact q
 have i:=aG S.ndn fr;have hn:(Kx (C+1) sc.names []).lookup x=none:=by
  cases z:(Kx (C+1) sc.names []).lookup x with
  | none=>rfl
  | some d =>
   have l:=bJ _ _ _ _ (mem_of_lookup z);have:=aG S.ndn l.1;rw[i] at this;cases this
 rw[List.lookup_append,hn,cm,if_pos fr] at h;exact .inr ⟨i,(Option.some.inj (by simpa using h)).symm⟩
theorem ft(S:cF X.N X.env N' ix sc){C:ap}{x:bx}(h:sc.names.lookup x=some .free):(sD sc C X.env).cells.lookup x=some ((X.env.cells.lookup x).getD 0):=by
 have e:(sD sc C X.env).cells=Kx (C+1) sc.names []++cg X.env sc.names []:=aZ _ _ _;have hn:(Kx (C+1) sc.names []).lookup x=none:=by
  cases z:(Kx (C+1) sc.names []).lookup x with
  | none=>rfl
  | some d =>
   have a:=bJ _ _ _ _ (mem_of_lookup z);have:=aG S.ndn a.1;rw[h] at this;cases this
 rw[e,List.lookup_append,hn,cm,if_pos (mem_of_lookup h)];rfl
theorem si{C:ap}{env:Env}{x:bx}(h:sc.names.lookup x=some .cell):∃c,(sD sc C env).cells.lookup x=some c:=by have e:(sD sc C env).cells=Kx (C+1) sc.names []++cg env sc.names []:=aZ _ _ _;obtain⟨c,hc⟩:=kG (n:=C+1) h;exact⟨c,by rw[e,List.lookup_append,hc];rfl⟩
theorem o6{pins:List (ap×Obj)}{σ:St}{H:Hp}{s:ba}{fp:List ap}(S:cF X.N X.env N' ix sc)(I:Inv X pins σ H s)(B:∀b∈fp,hV X pins H b)(w:∀b∈fp,b<s.heap.objs.size) :
  Inv (bCx X N' sc s H (s.heap.objs.size+1) fp) [] (c5 σ ix) H
   { s with heap:=Qt ((s.heap.push { cls:=.type "list",data:=.seq #[] }).push { cls:=.type "dict",data:=.dict #[] }) sc.names }:=by
 have l:(s.heap.push { cls:=.type "list",data:=.seq #[] }).objs.size=s.heap.objs.size+1:=JA ..;have keep:∀b o,s.heap.get? b=some o->(Qt ((s.heap.push { cls:=.type "list",data:=.seq #[] }).push { cls:=.type "dict",data:=.dict #[] }) sc.names).get? b=some o:=λb o e =>
  Qz _ _ b o (IH _ (IH _ e))
 have ok:=cellsFrom_ok sc.names ((s.heap.push { cls:=.type "list",data:=.seq #[] }).push { cls:=.type "dict",data:=.dict #[] }) (s.heap.objs.size+2) [] ⟨λ_ _ O=>(nomatch O),List.Pairwise.nil⟩ (by rw[JA,l];exact IS _);rw[JA,l] at ok;have a:∀x c,sc.names.lookup x=some .free->c=(X.env.cells.lookup x).getD 0->X.env.cells.lookup x=some c:=λx c h1 h2=>by
  obtain⟨d,hd⟩:=I.ok.has x (S.free (x,.free) (mem_of_lookup h1) rfl);rw[hd] at h2 ⊢;rw[h2];rfl
 have g:∀x c,X.env.cells.lookup x=some c->c<s.heap.objs.size:=λx c e=>by
  obtain⟨v,q⟩:=I.cell x c e;exact q.lt
 refine⟨⟨I.ok.mod,S.kind,I.ok.glob,I.ok.blt,Kb _,λx y c h1 h2=>?_,λx hx=>?_,λx c hx h=>?_,I.ok.hd,I.ok.frames,.inl rfl,λb n=>⟨?_,λx c h=>?_⟩,I.bs,IQ I.ok.bsz I.sz,λb o e n=>?_,λb n=>?_,I.stack,I.stkFree,λT q h=>I.base.tbls T q (I.ok.tab T q h)⟩,
  rfl,I.bare,Un.kept keep,⟨λ_=>none,?_,λi x v e1 e2 e3=>?_⟩,λx c h=>?_,I.hok.fresh (Kb _),λx c h=>?_,λp P=>absurd (show p∈([]:List (ap×Obj)) from P) (by simp),I.hok.kept keep,?_⟩
 rcases i8 S h1 with⟨a1,f,Q⟩|⟨a1,f⟩ <;> rcases i8 S h2 with⟨a2,A,R⟩|⟨a2,A⟩
 exact name_of_addr ok.apart Q R;exact absurd (g y c (a y c a2 A)) (Nat.not_lt.mpr (IQ (JP _ 2) f));exact absurd (g x c (a x c a1 f)) (Nat.not_lt.mpr (IQ (JP _ 2) A));exact I.ok.inj x y c (a x c a1 f) (a y c a2 A);cases q:sc.names.lookup x with
 | none =>
  have z:=vF (C:=s.heap.objs.size+1) (env:=X.env) q;rcases hx with hx|hx;exact absurd (hx.symm.trans z) (by simp);exact absurd (hx.symm.trans z) (by simp)
 | some k =>
  have z:=i7 (C:=s.heap.objs.size+1) (env:=X.env) q;cases k with
  | free=>exact⟨_,ft S q⟩
  | cell=>exact si q
  | _ =>
   rcases hx with hx|hx;have:=hx.symm.trans z;simp at this;have:=hx.symm.trans z;simp at this
 have D:sc.names.lookup x=some .cell:=of_decide_eq_true hx;rcases i8 S h with⟨_,f,_⟩|⟨a1,_⟩
 exact IQ (by omega:s.heap.objs.size<=s.heap.objs.size+1+1) f;rw[D] at a1;cases a1;exact Jd (Nat.lt_succ_of_lt (w b n));obtain⟨L,E,F,r,G,M⟩:=B b n;rcases i8 S h with⟨_,f,_⟩|⟨a1,f⟩
 exact JR (IY (w b n) (IQ (JP _ 2) f));exact G x c (a x c a1 f);obtain⟨L,E,F,r,G,M⟩:=B b n;rcases r with r|r;exact I.ok.noex b o e r;exact absurd (IY (IX e) (IQ I.ok.bsz r)) (JL _);obtain⟨L,E,F,r,G,M⟩:=B b n;intro z;rcases IR.mp (I.stkSub b z) with z|z;exact E z;exact F z;have q:=(Heap.Ns.new (s.heap.push { cls:=.type "list",data:=.seq #[] }) (.type "dict")).keeps (Qz sc.names _);rw[l] at q;exact q;have hi:i<ix.length:=by have z:=(IN.mp e2).1;simpa[c5] using z
 have J:(c5 σ ix)[i]? = (ix[i]?).map λo=>o.bind λj=>(σ[j]?).join:=Jt ..;rw[J,IK hi] at e2;have e2:(ix[i]).bind (λj=>(σ[j]?).join)=some v:=Option.some.inj e2;cases q:ix[i] with
 | none=>rw[q] at e2;cases e2
 | some j =>
  rw[q] at e2;have e2:(σ[j]?).join=some v:=e2;have e2:σ[j]? = some (some v):=by
   cases z:σ[j]? with
   | none=>rw[z] at e2;cases e2
   | some w'=>rw[z] at e2;have e2:w'=some v:=e2;rw[e2]
  obtain⟨y,c1,c2,c3⟩:=S.cap i j (by rw[IK hi,q]);have K:x=y:=Option.some.inj (e1.symm.trans c1);subst K;have kd:=S.free (x,.free) (mem_of_lookup c3) rfl;obtain⟨m,hn,hl⟩:=I.loc;obtain⟨u,U,V⟩:=hl j x v c2 e2 (by rcases kd with k|k;exact .inr (.inl k);exact .inr (.inr k));refine⟨u,U,.inr ⟨?_,?_⟩⟩;rw[show(bCx X N' sc s H (s.heap.objs.size+1) fp).env.kindOf x=_ from i7 (C:=s.heap.objs.size+1) (env:=X.env) c3];split;exact .inl rfl;exact .inr rfl;rcases V with⟨k,_⟩|⟨_,c,hc,t⟩
  rcases kd with k'|k' <;> rw[k] at k' <;> cases k'
  refine⟨c,?_,t.keeps keep⟩;have:=ft S (C:=s.heap.objs.size+1) c3;rw[hc] at this;exact this
 rcases i8 S h with⟨_,f,q⟩|⟨a1,f⟩
 exact⟨none,(ok.empty x c q).1⟩;obtain⟨v,q⟩:=I.cell x c (a x c a1 f);exact⟨v,q.keeps keep⟩;rcases i8 S h with⟨_,f,q⟩|⟨a1,f⟩
 exact I.hok.fresh (IQ (JP _ 2) f);exact I.freeC x c (a x c a1 f);show(c5 σ ix).length=N'.length;simp[c5,S.len]
theorem i6{pins pins':List (ap×Obj)}{σ d:St}{H H':Hp}{s s':ba}{fp:List ap}{C:ap}(S:cF X.N X.env N' ix sc)(I:Inv X pins σ H s)(l:∀b∈fp,hV X pins H b)
  (a:Inv (bCx X N' sc s H C fp) pins' d H' s'):Inv (bCx X N' sc s H C fp) pins' (c5 σ ix) H' s':=by
 refine⟨a.ok,a.os,a.bare,a.base,?_,a.cell,a.free,a.freeC,a.pin,a.hok,by show(c5 σ ix).length=N'.length;simp[c5,S.len]⟩;obtain⟨n,f,_⟩:=a.loc;refine⟨n,f,λi x v e1 e2 e3=>?_⟩;have hi:i<ix.length:=by have z:=(IN.mp e2).1;simpa[c5] using z
 have g:(c5 σ ix)[i]? = (ix[i]?).map λo=>o.bind λj=>(σ[j]?).join:=Jt ..;rw[g,IK hi] at e2;have e2:(ix[i]).bind (λj=>(σ[j]?).join)=some v:=Option.some.inj e2;cases q:ix[i] with
 | none=>rw[q] at e2;cases e2
 | some j =>
  rw[q] at e2;have e2:(σ[j]?).join=some v:=e2;have e2:σ[j]? = some (some v):=by
   cases z:σ[j]? with
   | none=>rw[z] at e2;cases e2
   | some w'=>rw[z] at e2;have e2:w'=some v:=e2;rw[e2]
  obtain⟨y,c1,c2,c3⟩:=S.cap i j (by rw[IK hi,q]);have h:x=y:=Option.some.inj (e1.symm.trans c1);subst h;have kd:=S.free (x,.free) (mem_of_lookup c3) rfl;obtain⟨m,hn,hl⟩:=I.loc;obtain⟨u,p,r⟩:=hl j x v c2 e2 (by rcases kd with k|k;exact .inr (.inl k);exact .inr (.inr k));refine⟨u,p,.inr ⟨?_,?_⟩⟩;rw[show(bCx X N' sc s H C fp).env.kindOf x=_ from i7 (C:=C) (env:=X.env) c3];split;exact .inl rfl;exact .inr rfl;rcases r with⟨k,_⟩|⟨_,c,hc,o,ho,hd⟩
  rcases kd with k'|k' <;> rw[k] at k' <;> cases k'
  refine⟨c,?_,?_⟩;have:=ft S (C:=C) c3;rw[hc] at this;exact this;obtain⟨sl,e⟩:=a.base.any ho (I.freeC x c hc) λz=>(l c z).2.2.2.2.1 x c hc rfl;exact⟨_,e,hd⟩
def PIf(X:Cx)(ifs:List bb)(t:TT):Prop :=
 ∀(pins:List (ap×Obj)) (s:ba) (σ:St) (H:Hp) (Q:Bool->Hp->Prop),Inv X pins σ H s->t σ H Q ->
  kw (qb X.prog X.w) X.A (forIn ifs true λc r=>if r=true then do let ok <-QF c X.env (eval c X.env);pure (ForInStep.yield ok) else pure (ForInStep.yield r)) (TP X pins σ Q) X.xe s
def HA:TT:=λ_ H Q=>Q true H
theorem AD{X:Cx}:PIf X [] HA:=λ_ _ _ H _ I h=>wpAny_tests_nil ⟨H,I,h⟩
theorem AC{X:Cx}{c:bb}{t:TT}(h:PT X c t):PIf X [c] t:=λpins s σ H Q I hw=>wpAny_tests_one (h pins s σ H Q I hw)
theorem mJ{prog:q3}{w:zb}{A:Around}{R:Q2->ba->Prop}{s:ba}{elt a iter:bb}{ifs:List bb}{scope:KL}{pos:Pos}{it k:as}{env:Env}(I:Nat->ba->Prop)
  (turn : ∀n s,I n s->kw (qb prog w) A (Qo it) (λr b=>match r with
   | none=>R (.ok .next) b
   | some v=>kw (qb prog w) A (QA a it v) (λ_ d=>kw (qb prog w) A (Qm a env v) (λ_ f =>
     kw (qb prog w) A (forIn ifs true λc r=>if r=true then do let ok <-QF c env (eval c env);pure (ForInStep.yield ok) else pure (ForInStep.yield r)) (λok e =>
      if ok=true then kw (qb prog w) A (eval elt env) (λx g =>
       kw (qb prog w) A (call (.builtin "list.append") [k,x]) (λ_ i=>∃m,m<n/\I m i) (λ_ _=>False) g) (λ_ _=>False) e
      else ∃m,m<n/\I m e) (λ_ _=>False) f) (λ_ _=>False) d) (λ_ _=>False) b) (λ_ _=>False) s)
  (n : Nat) (h:I n s):KM (qb prog w) A (.compLoop (.ListComp elt [⟨a,iter,ifs,0⟩] scope pos) 0 it k env) R s:=by
 refine codeAny_loop rfl I (λn s t=>?_) n h;show kw _ A ((compTurn (.ListComp elt [⟨a,iter,ifs,0⟩] scope pos) 0 it k env).onRaise (λx=>do noteFrame x env;theTreesLotGoes x)) _ _ s;refine wpAny_noted ?_;rw[compTurn_list];refine jj (Qp (jj (z3 (turn n s t) (λr b h₁=>?_) λ_ _ h'=>h'.elim)));cases r with
 | none=>exact ke h₁
 | some v =>
  refine jj (z3 h₁ (λ_ d l=>jj (z3 l (λ_ f o=>jj (z3 o (λok e j=>?_) λ_ _ h'=>h'.elim)) λ_ _ h'=>h'.elim)) λ_ _ h'=>h'.elim);cases ok with
  | false=>exact ke ⟨rfl,j⟩
  | true =>
   exact jj (jj (z3 j (λx g p=>jj (z3 p (λ_ i q=>ke (ke ⟨rfl,q⟩)) λ_ _ h'=>h'.elim)) λ_ _ h'=>h'.elim))
def yq(J:It)(σ0:St)(g:TG)(tt:TT)(te:TE)(H1:Hp)(f:List V->Hp->Prop):Prop :=
 ∃W : Nat->Nat->List V->Hp->Prop,(∃m,W 0 m [] H1)/\∀i m ys H,W i m ys H ->
  (J.stop i H/\f ys H) \/
  (J.go i H/\ys.length<sizeLine/\∃N:List V->Hp->Prop,(∀a H',N a H'->∃d,d<m/\W (i+1) d a H') /\
   ∀x H',J.yld i H x H'->g x σ0 H' λc h=>tt c h λb e=>if b=true then te c e λy j=>N (ys++[y]) j else N ys e)
theorem qT{tg iter elt:bb}{ifs:List bb}{pos:Pos}{g:TG}{tt:TT}{te:TE}{pins:List (ap×Obj)}{σ:St}{H:Hp}{s:ba}{it:ap}{fp:List ap}{tn:Nat->bd->Prop}{J:It}{Qe:List V->Hp->Prop}
  {RR:as->ap->Q2->ba->Prop}{E:as->ba->Prop}
  (hc:X.calm=true) (S:cF X.N X.env N' ix sc) (hg:∀s H C fp,PG (bCx X N' sc s H C fp) tg g) (ht:∀s H C fp,PIf (bCx X N' sc s H C fp) ifs tt) (he:∀s H C fp,PE (bCx X N' sc s H C fp) elt te)
  (I : Inv X pins σ H s) (T:zD X.prog X.w X.K tg J fp it tn) (st:tn 0 s.heap) (Z:∀b∈fp,hV X pins H b) (hw:yq J (c5 σ ix) g tt te H Qe)
  (fin:∀s' H' ys m,s'.heap.Ns (s.heap.objs.size+1) m->H' s.heap.objs.size=none->H' (s.heap.objs.size+1)=none->Qe ys H'->Inv X pins σ (upd H' s.heap.objs.size (.lst ys)) s'->RR (.ref s.heap.objs.size) (s.heap.objs.size+1) (.ok .next) s') :
  kw (qb X.prog X.w) X.A (newList []) (λa4 a5=>kw (qb X.prog X.w) X.A (Zg sc X.env.globals (cg X.env sc.names []) [] X.env.qual none .none (some X.env)) (λG a6 =>
   KM (qb X.prog X.w) X.A (.compStart (.ListComp elt [⟨tg,iter,ifs,0⟩] sc pos) 0 (.ref it) a4 { G with scope:=relabel sc X.env }) (RR a4 G.locals) a6) E a5) E s:=by
 have a7:∀b∈fp,b<s.heap.objs.size:=λb f=>by
  obtain⟨o,e,_⟩:=T.obj _ _ st b f;exact IX e
 refine zh (oI ?_);have c6:(s.heap.push { cls:=.type "list",dict:=none,data:=.seq ([]:List as).toArray }).objs.size=s.heap.objs.size+1:=JA ..;have I0:=o6 S I Z a7;obtain⟨W,⟨m0,w0⟩,turn⟩:=hw;have nD:∀b∈fp,s.heap.objs.size≠b:=λb f=>JR (a7 b f);have F:H s.heap.objs.size=none:=I.hok.fresh (IS _);have M:∀x c,(sD sc (s.heap.objs.size+1) X.env).cells.lookup x=some c->c≠s.heap.objs.size:=λx c h=>by
  rcases i8 S h with⟨_,b1,_⟩|⟨a1,b1⟩
  exact JR (IY (Nat.lt_succ_of_lt (JO _)) b1);obtain⟨d,hd⟩:=I.ok.has x (S.free (x,.free) (mem_of_lookup a1) rfl);rw[hd] at b1;obtain⟨v,q⟩:=I.cell x d hd;have e:c=d:=b1;rw[e];exact Jd q.lt
 have b0:s.heap.objs.size ∉ frs X.stack:=λz=>by
  rcases IR.mp (I.stkSub _ z) with z|z;exact absurd I.lt (by rw[<-z];exact JL _);exact I.nofs (IS _) z
 have b2:∀{pins':List (ap×Obj)}{H':Hp},(∀b∈fp,H' b=none)->(∀p∈pins',∀b∈fp,p.1≠b)->∀b∈fp,hV (bCx X N' sc s H (s.heap.objs.size+1) fp) pins' H' b:=λ{pins' H'} h1 h2 b f =>
  ⟨h1 b f,(I0.ok.exf b f).1,I0.ok.exfs b f,.inl f,(I0.ok.exf b f).2,λp t=>h2 p (by simpa[bCx] using t) b f⟩
 have O:(Qt ((s.heap.push { cls:=.type "list",data:=.seq #[] }).push { cls:=.type "dict",data:=.dict #[] }) sc.names).get? s.heap.objs.size=some { cls:=.type "list",data:=.seq #[] } :=
  Qz _ _ _ _ (IH _ (IW _ rfl))
 have d0:Inv (bCx X N' sc s H (s.heap.objs.size+1) fp) [(s.heap.objs.size,{ cls:=.type "list",data:=.seq #[] })] (c5 σ ix) H _:=I0.pins_of (pins':=[(s.heap.objs.size,{ cls:=.type "list",data:=.seq #[] })]) λp t=>by
  have e:p=(s.heap.objs.size,{ cls:=.type "list",data:=.seq #[] }):=by simpa using t
  subst e;exact⟨O,F,Jd (JO _),b0,λv z=>by cases z⟩
 have b3:tn 0 (Qt ((s.heap.push { cls:=.type "list",data:=.seq #[] }).push { cls:=.type "dict",data:=.dict #[] }) sc.names):=T.keep _ _ _ st λb f o e=>Qz _ _ _ _ (IH _ (IH _ e));have loop:∀U:ba,U={ s with heap:=Qt ((s.heap.push { cls:=.type "list",data:=.seq #[] }).push { cls:=.type "dict",data:=.dict #[] }) sc.names } ->
   KM (qb X.prog X.w) X.A (.compLoop (.ListComp elt [⟨tg,iter,ifs,0⟩] sc pos) 0 (.ref it) (.ref s.heap.objs.size) (sD sc (s.heap.objs.size+1) X.env)) (RR (.ref s.heap.objs.size) (s.heap.objs.size+1)) U:=by
  rintro U rfl;refine mJ (λn s'=>∃(i:Nat) (ys:List V) (a:List as) (k:Nat) (H':Hp),Inv (bCx X N' sc s H (s.heap.objs.size+1) fp) [(s.heap.objs.size,{ cls:=.type "list",data:=.seq a.toArray k })] (c5 σ ix) H' s' /\
   tn i s'.heap/\(∀b∈fp,H' b=none)/\aH ys a/\ys.length<=sizeLine/\W i n ys H') ?_ m0 ⟨0,[],[],0,H,d0,b3,λb f=>(Z b f).1,.nil,Jb _,w0⟩
  rintro n s3 ⟨i,ys,a,k,H3,I3,b4,d3,rv,hz,w3⟩;have b5:=b2 (pins':=[(s.heap.objs.size,{ cls:=.type "list",data:=.seq a.toArray k })]) d3 (λp t b f=>by
   have e:p=(s.heap.objs.size,{ cls:=.type "list",data:=.seq a.toArray k }):=by simpa using t
   rw[e];exact nD b f)
  rcases turn i n ys H3 w3 with⟨stop,qe⟩|⟨go,h0,N,hN,step⟩
  ·refine thn (T.done (bCx X N' sc s H (s.heap.objs.size+1) fp) rfl rfl rfl hc i _ s3 _ H3 (λ_ _=>False) I3 b5 b4 stop) λr U e0=>?_;obtain⟨hr,B⟩:=e0;subst hr;obtain⟨pg,pn,_⟩:=B.pin (s.heap.objs.size,{ cls:=.type "list",data:=.seq a.toArray k }) (IE _ IL);obtain⟨m,hm,_⟩:=B.loc;refine fin U H3 ys m hm pn B.free qe ?_;refine I.call' (ch:=fp) B.os ⟨B.base.keep,B.base.slot,λb o e n hx=>?_,B.base.there,λb xs q=>?_,λb o u q=>?_,λb ps q=>?_⟩ (λb o e=>?_) B.bare λb f=>?_;rw[al (Jd (IX e))];exact B.base.free b o e n hx;have L:=B.base.tups b xs q;rw[al (au L pn)];exact L;have L:=B.base.frzs b o u q;rw[al (au L pn)];exact L;have L:=B.base.tbls b ps q;rw[al (au L pn)];exact L;by_cases f:b=s.heap.objs.size;subst f;rw[aq] at e;cases e;exact⟨hz,a,k,rv,pg⟩;rw[al f] at e;exact(B.hok b o e).stay (λc v _ q=>q) (λc q=>by rw[al (au q pn)];exact q) λc xs _ q=>by rw[al (au q pn)];exact q
   obtain⟨f0,f1,f2,f3,f4,f5⟩:=Z b f;exact⟨f3,f1,f4,f5⟩
  refine thn (T.item (bCx X N' sc s H (s.heap.objs.size+1) fp) rfl rfl rfl hc i _ s3 _ H3 (λ_ _=>False) I3 b5 b4 go) λr U e4=>?_;obtain⟨u,hr,h4⟩:=e4;subst hr;refine thn h4 λ_ s5 e5=>?_;obtain⟨x,H5,I5,r5,y5,P,e6⟩:=e5;have e7:=b2 (pins':=[(s.heap.objs.size,{ cls:=.type "list",data:=.seq a.toArray k })]) e6 (λp t b f=>by
   have e:p=(s.heap.objs.size,{ cls:=.type "list",data:=.seq a.toArray k }):=by simpa using t
   rw[e];exact nD b f)
  have e8:=I5.pinned e7 (T.obj _ _ P);refine thn (hg s H _ fp _ s5 _ H5 x u _ e8 r5 (step x H5 y5)) λ_ s6 e9=>?_;obtain⟨D,H6,I6,q6⟩:=e9;have j:∀{b6:St}{Y:Hp}{s7:ba},Inv (bCx X N' sc s H (s.heap.objs.size+1) fp) ([(s.heap.objs.size,{ cls:=.type "list",data:=.seq a.toArray k })]++gG fp s5.heap) b6 Y s7 ->
    tn (i+1) s7.heap/\(∀b∈fp,Y b=none):=λ{b6 Y s7} Q=>by
   refine⟨T.keep _ _ _ P λb f o e=>(Q.pin (b,o) (IE _ (IE _ (d7 f e)))).1,λb f=>?_⟩;obtain⟨o,e,d⟩:=T.obj _ _ P b f;exact(Q.pin (b,o) (IE _ (IE _ (d7 f e)))).2.1
  refine thn (ht s H _ fp _ s6 D H6 _ I6 q6) λok s7 g0=>?_;obtain⟨Y,Q,q7⟩:=g0;cases ok with
  | false =>
   rw[if_neg Ja] at q7 ⊢;obtain⟨m',R,w7⟩:=hN _ _ q7;exact⟨m',R,i+1,ys,a,k,Y,i6 S I Z Q.unpinned,(j Q).1,(j Q).2,rv,hz,w7⟩
  | true =>
   rw[if_pos rfl] at q7 ⊢;refine thn (he s H _ fp _ s7 D Y _ Q q7) λxv s8 g4=>?_;obtain⟨y,H8,I8,r8,q8⟩:=g4;obtain⟨m',R,w8⟩:=hN _ _ q8;obtain⟨pg,pn,_⟩:=I8.pin (s.heap.objs.size,{ cls:=.type "list",data:=.seq a.toArray k }) (IE _ (IJ _ IL));refine wpAny_list_append_plain (l:=s.heap.objs.size) (items:=a.toArray) ⟨k,pg⟩ (λh9 g5 c4=>?_) (by have:=rv.length;simp;omega);obtain⟨k9,g9⟩:=g5;have g6:Inv (bCx X N' sc s H (s.heap.objs.size+1) fp) (gG fp s5.heap) D H8 s8:=I8.pins_of λp t=>I8.pin p (IE _ (IE _ t));have I9:Inv (bCx X N' sc s H (s.heap.objs.size+1) fp) (gG fp s5.heap) D H8 { s8 with heap:=h9 }:=g6.turned (t':=s8.toks) (it:=s.heap.objs.size) (λb o f e=>c4.extBut b o f e) pn (Jd (JO _)) (.inr (IS _)) M
    λp t=>by
     have g7:p∈gG fp s5.heap:=by simpa[bCx] using t
     exact(nD _ (lW g7).1).symm
   have g8:Inv (bCx X N' sc s H (s.heap.objs.size+1) fp) [(s.heap.objs.size,{ cls:=.type "list",data:=.seq (a++[xv]).toArray k9 })] D H8 { s8 with heap:=h9 }:=I9.pins_of λp t=>by
    have e:p=(s.heap.objs.size,{ cls:=.type "list",data:=.seq (a++[xv]).toArray k9 }):=by simpa using t
    subst e;refine⟨?_,pn,Jd (JO _),b0,λv z=>by cases z⟩;simpa using g9
   refine⟨m',R,i+1,ys++[y],a++[xv],k9,H8,i6 S I Z g8,?_,(j I8).2,rv.append (.cons r8 .nil),by simp;omega,w8⟩;exact T.keep _ _ _ (j I8).1 λb f o e=>c4.extBut b o (nD b f).symm e
 have key:=codeAny_compStart_list (iter:=iter) (loop _ rfl) (T.self X.A 0 { s with heap:=Qt ((s.heap.push { cls:=.type "list",data:=.seq #[] }).push { cls:=.type "dict",data:=.dict #[] }) sc.names } _ _ b3 (loop _ rfl));simpa only[newEnv,c6,sD,compEnvC] using key
def sR(b:TI)(ix:List (Option Nat))(g:TG)(tt:TT)(te:TE):TE:=λσ H Q=>b σ H λJ H1=>yq J (c5 σ ix) g tt te H1 λys a=>∀p,a p=none->Q (.ref p) (upd a p (.lst ys))
theorem cF.clos{pins:List (ap×Obj)}{σ:St}{H:Hp}{s:ba}(S:cF X.N X.env N' ix sc)(I:Inv X pins σ H s):Qc sc X.env=pure (cg X.env sc.names []) :=
 kF λy a e=>by
  obtain⟨c,hc⟩:=I.ok.has y.1 (S.free y a e);rw[hc];rfl
theorem oq{tg iter elt:bb}{ifs:List bb}{pos:Pos}{i:TI}{g:TG}{tt:TT}{te:TE}(hc:X.calm=true)(S:cF X.N X.env N' ix sc)(hi:PI X tg iter i)
  (hg:∀s H C fp,PG (bCx X N' sc s H C fp) tg g) (ht:∀s H C fp,PIf (bCx X N' sc s H C fp) ifs tt) (l:∀s H C fp,PE (bCx X N' sc s H C fp) elt te)
  (hs:∀x,KC iter X.env x=pure x:=by intro _;rfl):PE X (.ListComp elt [⟨tg,iter,ifs,0⟩] sc pos) (sR i ix g tt te):=by
 intro pins s σ H Q I h;rw[eval_ListComp];refine Zn (use:=none) rfl hs (S.clos I) S.kind S.names (thn (hi pins s σ H _ I h) λv s1 h1=>thn h1 λn s2 a=>?_);obtain⟨it,fp,tn,J,F,e,j,T,c,k,hw⟩:=a;subst e;refine qT (RR:=λd C=>compPost (qb X.prog X.w) X.A X.xe none (EP X pins σ Q) d C) hc S hg ht l j T c k hw λs' H' ys m hn hD p q r=>?_;refine⟨m,hn,λh' f=>?_⟩;have t:(upd H' s2.heap.objs.size (.lst ys)) (s2.heap.objs.size+1)=none:=by rw[al (JR (JO _))];exact p
 obtain⟨u,y,k,z,B,D⟩:=j.fpOk (H':=upd H' s2.heap.objs.size (.lst ys)) (b:=s2.heap.objs.size+1) (Kb _) t;exact⟨.ref s2.heap.objs.size,_,r.turned (t':=s'.toks) (it:=s2.heap.objs.size+1) (λb o E e=>f.extBut b o E e) u y z B D,rfl,q _ hD⟩
theorem jC{i:Nat}{y:bx}{tg iter elt:bb}{ifs:List bb}{pos c d:Pos}{E:TI}{g:TG}{tt:TT}{te:TE}(hN:X.N.Nodup)(f:X.N[i]? = some y)(F:X.env.scope.names.lookup y=some .local)
  (hc:X.calm=true) (S:cF X.N X.env N' ix sc) (hi:PI X tg iter E)
  (hg:∀s H C fp,PG (bCx X N' sc s H C fp) tg g) (ht:∀s H C fp,PIf (bCx X N' sc s H C fp) ifs tt) (O:∀s H C fp,PE (bCx X N' sc s H C fp) elt te)
  (j:Qn (.ListComp elt [⟨tg,iter,ifs,0⟩] sc pos) (some (.Name y d)) c.line X.env=pure true:=by rfl)
  (hs:∀x,KC iter X.env x=pure x:=by intro _;rfl):PS X (.Assign [.Name y d] (.ListComp elt [⟨tg,iter,ifs,0⟩] sc pos) c) (Cd (sR E ix g tt te) (uV i)):=by
 intro pins s σ H D I h;rw[exec_Assign_Name_used _ _ _ _ j];refine jj (Qp (jj ?_));show kw _ X.A (do let _ <-comprehension (.ListComp elt [⟨tg,iter,ifs,0⟩] sc pos) sc X.env _ (newList []) false (eval iter X.env) (some (Qm (.Name y d) X.env))) _ _ s;refine jj (z3 (Zn (use:=some (Qm (.Name y d) X.env)) (Q:=λ_ s'=>SP X pins D .next s') rfl hs (S.clos I) S.kind S.names
  (thn (hi pins s σ H _ I h) λv s1 h1=>thn h1 λP s2 ⟨it,fp,tn,J,H2,e,G,T,k,K,hw⟩=>?_)) (λ_ s' R=>ke (ke R)) λ_ _ e=>e)
 subst e;refine qT (RR:=λl C=>compPost (qb X.prog X.w) X.A X.xe (some (Qm (.Name y d) X.env)) (λ_ s'=>SP X pins D .next s') l C) hc S hg ht O G T k K hw λs' H' ys m hn hD U q V=>?_;have W:(upd H' s2.heap.objs.size (.lst ys)) (s2.heap.objs.size+1)=none:=by rw[al (JR (JO _))];exact U
 obtain⟨Y,L,K,Z,M,f5⟩:=G.fpOk (H':=upd H' s2.heap.objs.size (.lst ys)) (b:=s2.heap.objs.size+1) (Kb _) W;show kw _ X.A (Qm (.Name y d) X.env (.ref s2.heap.objs.size)) _ _ _;refine wpAny_assign_Name (lf (v:=.ref s2.heap.objs.size) V hN f (.inl F) rfl (λn p r=>?_) (.inr F));obtain⟨a,t,u⟩:=r;have ne:s2.heap.objs.size+1≠a:=by
  rcases u with rfl|u;exact L
  exactλz=>M y a u z.symm
 refine⟨m,hn.sameBut t ne,λh' B=>?_⟩;exact⟨_,_,p.turned (t':=n.toks) (it:=s2.heap.objs.size+1) (λb o hb e=>B.extBut b o hb e) Y L Z M f5,q _ hD⟩
end
open Sem (wp)
section
variable {prog:q3}{w:zb}
def cY(prog:q3)(w:zb)(h:bd)(k:Int×List Int)(a:ap):Prop :=
 ∃o t b n,h.get? a=some o/\o.cls=.type "tuple" /\ o.data=.seq #[.int k.1 t,.ref b] n/\IsTupleKey (K7 prog w) h k.2 b
theorem d9(i:Int)(t:Tok):(K7 prog w).is i (.int i t)=true:=by simp[K7,Value.isInt]
theorem cY.typeIs{s:ba}{k:Int×List Int}{a:ap}(x:cY prog w s.heap k a):s.TypeIs (.ref a) "tuple" := let ⟨o,_,_,_,ho,hc,_⟩:=x;⟨o,ho,hc⟩
theorem cY.inj{h:bd}{a:ap}{x y:Int×List Int}(hx:cY prog w h x a)(f:cY prog w h y a):x=y:=by obtain⟨x1,g⟩:=x;obtain⟨y1,i⟩:=y;obtain⟨o,t,b,n,ho,_,hd,hi⟩:=hx;obtain⟨o',t',j,k,d,_,c,e⟩:=f;obtain rfl:o=o':=Option.some.inj (ho.symm.trans d);rw[hd] at c;injection c with h1 _;simp only[Array.mk.injEq,List.cons.injEq,Value.int.injEq,Value.ref.injEq,and_true] at h1;obtain⟨⟨e1,_⟩,e2⟩:=h1;subst e2;have e3:g=i:=hi.inj e;rw[e1,e3]
theorem cY.keeps{h h':bd}{k:Int×List Int}{a d:ap}{o:Obj}{es ep}(x:cY prog w h k a)(ho:h.get? d=some o)(hd:o.data=.dict es ep)(hs:Heap.SameBut d h h') :
  cY prog w h' k a:=by
 obtain⟨o',t,b,n,e,hc,c,hi⟩:=x;have f:a≠d:=by rintro rfl;obtain rfl:o'=o:=Option.some.inj (e.symm.trans ho);rw[hd] at c;exact nomatch c
 exact⟨o',t,b,n,(hs.2 a f).trans e,hc,c,hi.keeps ho hd hs⟩
def nt(prog:q3)(w:zb)(k:Int×List Int):Int:=Zf (Builtin.Tuple.tupleHashOf [QU k.1,ZA (K7 prog w) k.2])
variable {A:Around}{E:as->ba->Prop}{s:ba}
theorem rh{k:Int×List Int}{a:ap}{Q:Int->ba->Prop}(l:A.units+1<KD)(hk:cY prog w s.heap k a)(h:Q (nt prog w k) { s with toks:=s.toks+(k.2.length+3) }) :
  kw (qb prog w) A (pyHash (.ref a)) Q E s:=by
 have i:=hk.typeIs;obtain⟨g,f⟩:=k;obtain⟨o,t,j,n,ho,_,hd,hi⟩:=hk;unfold pyHash
 first|unfold pyHashByItsType|skip
 first|refine jj (wpAny_cRoomFor_or (.inr (by omega)) ?_)|skip
 refine jj (K0 i F.slot_tuple_hash.lookup ?_);show kw _ _ (if (some (Value.builtin "tuple.__hash__")==some Value.none)=true then _ else _) Q E s;rw[if_neg (by rw[beq_builtin_none];exact Ja)];refine jj (K0 i F.slot_tuple_hash.lookup ?_);show kw _ _ (callSpecialIfBoundUnlessNone? (.ref a) "__hash__" _ >>= _) Q E s;refine jj (wpAny_callSpecialIfBoundUnlessNone?_slot i F.slot_tuple_hash (z4 F.slot_tuple_hash i F.entry_tuple_hash ?_ (F.args_tuple_hash_1 _)));show kw _ _ (Builtin.Tuple.tupleItemsOf (.ref a) >>= _) _ _ s;refine jj (QQ ho hd ?_);refine jj ?_;rw[<-Array.forIn_toList];refine Qs _
  (λrest (b:Array Int) s'=>(rest=[.int g t,.ref j]/\b.toList=[]/\s'=s)\/(rest=[.ref j]/\b.toList=[QU g]/\s'={ s with toks:=s.toks+1 })\/(rest=[]/\b.toList=[QU g,ZA (K7 prog w) f]/\s'={ s with toks:=s.toks+1+(f.length+1) }))
  _ ?_ ?_ _ _ (.inl ⟨rfl,rfl,rfl⟩)
 rintro x rest b s' (⟨c,d,rfl⟩|⟨c,d,rfl⟩|⟨c,d,rfl⟩);injection c with e1 e2;subst e1 e2;refine jj ((K7 prog w).pyHash (d9 g t) ?_)
 first
  | exact ke (.inr (.inl ⟨rfl,by simp[d,K7],rfl⟩))
  | exact jj (ke (ke (.inr (.inl ⟨rfl,by simp[d,K7],rfl⟩))))
 injection c with e1 e2;subst e1 e2;refine jj (wpAny_pyHash_tuple (knd:=K7 prog w) l hi ?_)
 first
  | exact ke (.inr (.inr ⟨rfl,by simp[d],rfl⟩))
  | exact jj (ke (ke (.inr (.inr ⟨rfl,by simp[d],rfl⟩))))
 cases c;rintro b s' (⟨c,d,rfl⟩|⟨c,d,rfl⟩|⟨c,d,rfl⟩);cases c;cases c;show kw _ _ (retInt (Builtin.Tuple.tupleHashOf b.toList)) _ _ _;rw[d];refine wpAny_ret_mkInt ?_;show kw _ _ (if (decide (-(2:Int) ^ 63<=Builtin.Tuple.tupleHashOf _)&&decide (Builtin.Tuple.tupleHashOf _<2 ^ 63))=true then _ else _) Q E _;unfold nt Zf at h;generalize Builtin.Tuple.tupleHashOf [QU g,ZA (K7 prog w) f]=z at *;by_cases c:(decide (-(2:Int) ^ 63<=z)&&decide (z<2 ^ 63))=true;rw[if_pos c];rw[if_pos c] at h;refine ke ?_;have e:s.toks+1+(f.length+1)+1=s.toks+(f.length+3):=by omega
 simpa[e] using h;rw[if_neg c];rw[if_neg c] at h;refine jj (KO (ke ?_));have e:s.toks+1+(f.length+1)+1=s.toks+(f.length+3):=by omega
 simpa[e] using h
theorem nr{x y:Int×List Int}{a b:ap}{P:Fin->ba->Prop}(t:A.units<KD)(hx:cY prog w s.heap x a)(o:cY prog w s.heap y b)(h:P (.done (.ret (.bool (decide (x=y))))) s) :
  kw (qb prog w) A (Builtin.«tuple.__eq__» ⟨[.ref a,.ref b],[]⟩) P E s:=by
 have e:=o.typeIs;obtain⟨x1,c⟩:=x;obtain⟨y1,d⟩:=y;obtain⟨z,ta,p,na,f,_,g,i⟩:=hx;obtain⟨ob,tb,q,nb,j,_,k,l⟩:=o;show kw _ _ (isInstance (.ref b) (.type "tuple") >>= _) _ _ s;refine jj (KT e QC ?_);simp only[J7,Jj,if_false];refine jj (QQ f g ?_);refine jj (QQ j k ?_);refine jj ?_;refine Qs _
  (λrest r s'=>r.1=none/\s'=s/\(rest=[(.int x1 ta,.int y1 tb),(.ref p,.ref q)]\/(rest=[(.ref p,.ref q)]/\x1=y1)\/(rest=[]/\x1=y1/\c=d)))
  _ ?_ ?_ _ _ ⟨rfl,rfl,.inl rfl⟩
 rintro⟨u,v⟩ rest r s' ⟨m,rfl,(hz|⟨hz,e1⟩|⟨hz,_⟩)⟩;simp only[List.cons.injEq,Prod.mk.injEq] at hz;obtain⟨⟨rfl,rfl⟩,rfl⟩:=hz;refine jj ((K7 prog w).eqBool (d9 x1 ta) (d9 y1 tb) ?_);by_cases hk:x1=y1;subst hk;rw[decide_eq_true rfl];simp only[J7,Jj,if_false];exact ke ⟨rfl,rfl,.inr (.inl (by simp))⟩;rw[decide_eq_false hk];simp only[Bool.not_false,if_true];have n:decide ((x1,c)=(y1,d))=false:=by simp[hk]
 rw[n] at h;exact jj (ke (ke (ke h)));simp only[List.cons.injEq,Prod.mk.injEq] at hz;obtain⟨⟨rfl,rfl⟩,rfl⟩:=hz;refine jj (wpAny_eqBool_tuple t i l ?_);by_cases hk:c=d;rw[decide_eq_true hk];simp only[J7,Jj,if_false];exact ke ⟨rfl,rfl,.inr (.inr (by simp[e1,hk]))⟩;rw[decide_eq_false hk];simp only[Bool.not_false,if_true];have n:decide ((x1,c)=(y1,d))=false:=by simp[hk]
 rw[n] at h;exact jj (ke (ke (ke h)));cases hz;rintro⟨B,C⟩ s' ⟨m,rfl,(hz|⟨hz,e1⟩|⟨hz,e1,e2⟩)⟩;cases hz;cases hz;simp only at m;subst m;refine ke ?_;rw[decide_eq_true (by rw[e1,e2])] at h;exact h
theorem rm{x y:Int×List Int}{a b:ap}{Q:Bool->ba->Prop}(f:A.units+1<KD)(hx:cY prog w s.heap x a)(d:cY prog w s.heap y b)(h:Q (decide (x=y)) s) :
  kw (qb prog w) A (eqBool (.ref a) (.ref b)) Q E s:=by
 unfold eqBool
 try with_reducible refine zp ?_
 show kw _ _ (if (Value.ref a==Value.ref b)=true then _ else _) Q E s;by_cases c:(Value.ref a==Value.ref b)=true;rw[if_pos c];have e:a=b:=by have:=eq_of_beq c;injection this
 subst e;obtain rfl:=hx.inj d;exact jj (KO (ke (by simpa using h)));rw[if_neg c];exact jj (wpAny_richCompare_same_room (op:=.Eq) hx.typeIs d.typeIs F.slot_tuple_eq
  (z4 F.slot_tuple_eq hx.typeIs F.entry_tuple_eq (nr f hx d ⟨_,rfl,(λe=>nomatch e),KB h⟩) (F.args_tuple_eq_2 _ _)) (by omega))
theorem tL{n:Nat}{ks:List Int}{a:ap}{Q:Bool->ba->Prop}(hk:IsTupleKey (K7 prog w) s.heap ks a)(h:Q true s):kw (qb prog w) A (Zv (n+1) (.ref a)) Q E s:=by have e:=hk.typeIs;obtain⟨o,items,m,ho,_,hd,hi⟩:=hk;unfold Zv;refine jj (K0 e F.slot_tuple_eq.lookup ?_);show kw _ _ (isInstance (.ref a) (.type "tuple") >>= _) _ _ s;refine jj (KT e QC ?_);simp only[J7,Jj,if_false];refine jj (Ky ho hd ?_);refine jj ?_;show kw _ _ (forIn items _ _) _ _ s;rw[<-Array.forIn_toList];refine Qs _ (λrest r s'=>r.1=none/\s'=s/\∀v∈rest,carriedByValue v=true) _ ?_ ?_ _ _ ⟨rfl,rfl,hi.byValue⟩;rintro v rest r s' ⟨c,rfl,b⟩;rw[eqIsQuiet_byValue _ (b v IL)];refine jj (ke ?_);simp only[J7,Jj,if_false];exact ke ⟨rfl,rfl,λu d=>b u (IM _ d)⟩;rintro⟨f,g⟩ s' ⟨c,rfl,_⟩;simp only at c;subst c;exact ke h
theorem sS{k:Int×List Int}{a:ap}{Q:Bool->ba->Prop}(hk:cY prog w s.heap k a)(h:Q true s):kw (qb prog w) A (Zv 8 (.ref a)) Q E s:=by have f:=hk.typeIs;obtain⟨o,t,b,n,ho,_,hd,hi⟩:=hk;unfold Zv;refine jj (K0 f F.slot_tuple_eq.lookup ?_);show kw _ _ (isInstance (.ref a) (.type "tuple") >>= _) _ _ s;refine jj (KT f QC ?_);simp only[J7,Jj,if_false];refine jj (Ky ho hd ?_);refine jj ?_;show kw _ _ (forIn _ _ _) _ _ s;rw[<-Array.forIn_toList];refine Qs _ (λrest r s'=>r.1=none/\s'=s/\∀v∈rest,carriedByValue v=true\/v=.ref b) _ ?_ ?_ _ _ ⟨rfl,rfl,λv hv=>?_⟩;rintro v rest r s' ⟨e,rfl,c⟩;rcases c v IL with hv|rfl;rw[eqIsQuiet_byValue _ hv];refine jj (ke ?_);simp only[J7,Jj,if_false];exact ke ⟨rfl,rfl,λu d=>c u (IM _ d)⟩;refine jj (tL hi ?_);simp only[J7,Jj,if_false];exact ke ⟨rfl,rfl,λu d=>c u (IM _ d)⟩;rintro⟨g,i⟩ s' ⟨e,rfl,_⟩;simp only at e;subst e;exact ke h;simp at hv;rcases hv with rfl|rfl;exact .inl rfl;exact .inr rfl
end
def bD(prog:q3)(w:zb):HeapKind prog w (Int×List Int) where
 is := cY prog w
 hash:=nt prog w
 draws:=λk=>k.2.length+3
 room:=λA=>A.units+1<KD
 inj:=λhx a=>hx.inj a
 keeps:=λx ho hd hs=>x.keeps ho hd hs
 pyHash:=λb hk h=>rh b hk h
 eqBool:=λb hx a h=>rm b hx a h
 quiet:=λhk h=>sS hk h
abbrev aL:=Int×List Int
def wl(k:aL):Int:=Zf (Builtin.Tuple.tupleHashOf [QU k.1,Zf (Builtin.Tuple.tupleHashOf (k.2.map QU))])
def qC(x:aL×ap×as):DictEntry:=⟨wl x.1,.ref x.2.1,x.2.2⟩
theorem gS{prog:q3}{w:zb}{A:Around}(a:A.units+2<KD):(bD prog w).room A.in1:=a
section
variable {prog:q3}{w:zb}{A:Around}{E:as->ba->Prop}{s:ba}{d a:ap}{xs:List (aL×ap×as)}{k:aL}{v:as}
def o9(prog:q3)(w:zb)(h:bd)(d:ap)(xs:List (aL×ap×as)):Prop :=
 ∃o ds ep,h.get? d=some o/\o.ExactDict/\o.data=.dict ds ep/\ds.toList=xs.map qC/\(∀x∈xs,cY prog w h x.1 x.2.1)/\(xs.map (·.1)).Nodup/\ep=xs.length
theorem o9.of{h:bd}(x:o9 prog w h d xs):h.DictOfH (bD prog w) d xs:=by obtain⟨o,ds,ep,h1,h2,h3,a,b,c,_⟩:=x;exact⟨o,ds,ep,h1,h2,h3,a,b,c⟩
theorem mF{Q:Unit->ba->Prop}(m:A.units+1<KD)(b:cY prog w s.heap k a)(q:o9 prog w s.heap d xs)
  (n:∀h',o9 prog w h' d (storedH xs k a v)->Heap.SameBut d s.heap h'->Q () { s with heap:=h',toks:=s.toks+(k.2.length+3) }) (hsz:xs.length<=sizeLine) :
  kw (qb prog w) A (dictSet d (.ref a) v) Q E s:=by
 obtain⟨o,es,ep,ho,hc,hd,h,c,hn,hl⟩:=q;unfold dictSet
 try with_reducible refine zp ?_
 refine jj ((bD prog w).pyHash m b ?_);unfold dictSetHashed
 try with_reducible refine zp ?_
 refine jj (wpAny_dictFind_heap (knd:=bD prog w) (s:={ s with toks:=s.toks+(bD prog w).draws k }) m b ho hd h c hn ?_ ?_)
 ·intro f;have g:k ∉ xs.map (·.1):=not_mem_keys_of_get f;refine jj (KO (wpAny_updateDictKeys (hz:=by have e:=size_of_entries (knd:=bD prog w) h;omega) (s:={ s with toks:=s.toks+(bD prog w).draws k }) ho hd (n _ ⟨_,_,ep+1,Jx _ ho (Obj.isFreed_of_dict (Obj.data_mapDictKeys hd _)),
   hc.mapDictKeys _,Obj.data_mapDictKeys hd _,?_,?_,?_,?_⟩ (Heap.SameBut.update ..))))
  all_goals rw[storedH_new (atKey_none_of_get f)]
  simp[h,qC,entryOfKey];rfl;intro x hx;rcases II.mp hx with hx|hx;exact(bD prog w).keeps (c x hx) ho hd (Heap.SameBut.update ..);simp only[IG] at hx;subst hx;exact(bD prog w).keeps b ho hd (Heap.SameBut.update ..);rw[Jm,IT];refine⟨hn,by simp,λx hx y i=>?_⟩;simp only[IU,J5,IG] at i;subst i
  exactλe=>g (e▸hx)
  rw[hl];simp
 ·intro j p hj;refine jj (KO (jj (wpAny_updateDict (s:={ s with toks:=s.toks+(bD prog w).draws k }) ho hd (wpAny_point (n _ ⟨_,_,ep,Jx _ ho (Obj.isFreed_of_dict (Obj.data_mapDict hd _)),
   hc.mapDict _,Obj.data_mapDict hd _,?_,?_,?_,?_⟩ (Heap.SameBut.update ..))))))
  all_goals rw[storedH_old (atKey_of_get hn hj)]
  have:=modify_map_putAt qC (λe:DictEntry=>{ e with val:=v }) k v (λ_ _=>rfl) hn hj;rw[<-h] at this;obtain⟨l⟩:=es;simpa using this;intro x hx;obtain⟨y,i,rfl⟩:=IZ.mp hx;unfold putAt;split <;> exact(bD prog w).keeps (c y i) ho hd (Heap.SameBut.update ..)
  rw[keys_map_putAt];exact hn;rw[hl];simp
theorem tz{Q:Unit->ba->Prop}(h:A.in1.units+1<KD)(b:cY prog w s.heap k a)(g:o9 prog w s.heap d xs)
  (i:∀h',o9 prog w h' d (storedH xs k a v)->Heap.SameBut d s.heap h'->Q () { s with heap:=h',toks:=s.toks+(k.2.length+3) }) (hsz:xs.length<=sizeLine) :
  kw (qb prog w) A (Q9 (.ref d) (.ref a) v) Q E s:=by
 have c:=g.of.typeIs;unfold Q9
 try with_reducible refine zp ?_
 refine jj (wpAny_sequenceKey c (by decide) ?_);refine jj (z6 (name:=Str.ofString "__setitem__") c slot_dict_setitem (z4 slot_dict_setitem c entry_dict_setitem ?_ (args_dict_setitem _ _ _)));show kw _ _ (Builtin.Dict.notOrdered "__setitem__" ⟨[.ref d,.ref a,v],[]⟩ >>= _) _ _ s;refine jj (wpAny_notOrdered_dict c ?_);show kw _ _ (dictSet d (.ref a) v >>= _) _ _ s;exact jj (mF h b g (λh' e f=>ke ⟨.none,rfl,ke (i h' e f)⟩) hsz)
variable {o od:Obj}{es:Array DictEntry}{ep i:Nat}{it:ap}
theorem uP{Q:as->ba->Prop}(b:(d==cf)=false)(ho:s.heap.get? d=some o)(hc:o.ExactDict)(a:o.data=.dict es ep)
  (e:Q (.ref s.heap.objs.size) { s with heap:=s.heap.push { cls:=.type "dict_keyiterator",data:=.fields #[.ref d,.int 0 0,.int es.size 0,.int ep 0] } }) :
  kw (qb prog w) A (ZC (.ref d)) Q E s:=by
 have c:s.TypeIs (.ref d) "dict" := ⟨o,ho,hc.1⟩
 refine wpAny_pyIter_slot c F.slot_dict_iter (z4 F.slot_dict_iter c F.entry_dict_iter ?_ (F.args_dict_iter_1 _));unfold Builtin.«dict.__iter__»;refine jj ?_;unfold Builtin.Dict.dictSlotNone;refine jj (wpAny_notOrdered_dict c ?_);show kw _ _ (pure (Value.ref d)) _ _ s;refine ke ?_;show kw _ _ (Builtin.Dict.showsAll d >>= _) _ _ s;unfold Builtin.Dict.showsAll;rw[if_neg (by rw[b];exact Ja)];refine jj (ke ?_);refine jj (QS ho a ?_);refine jj (Q8 ho a ?_);refine jj (zh (ke ⟨_,rfl, "dict_keyiterator",_,⟨_,IW _ rfl,rfl⟩,F.slot_dict_keyiterator_next.lookup,?_⟩));simpa[K4] using e
theorem xi{Q:Option as->ba->Prop}(a:s.heap.IsKeyIter it d i es.size ep)(c:s.heap.get? d=some od)(e:od.data=.dict es ep)(g:i<es.size)
  (h:∀h',h'.IsKeyIter it d (i+1) es.size ep->Heap.SameBut it s.heap h'->Q (some es[i].key) { s with heap:=h' }) :
  kw (qb prog w) A (Qo (.ref it)) Q E s:=by
 obtain⟨o,ho,hc,hd⟩:=id a;unfold Qo;refine jj (Qf (z6 (name:=Str.ofString "__next__") a.typeIs F.slot_dict_keyiterator_next
  (z4 F.slot_dict_keyiterator_next a.typeIs F.entry_dict_keyiterator_next ?_ (F.args_dict_keyiterator_next_1 _))))
 refine jj (ke ?_);refine jj ?_;refine jj ?_
 first|refine jj (KW a.typeIs (ke ?_))|refine jj (K6 a.typeIs (ke ?_))
 refine jj (wpAny_fieldsOf ho hd ?_);have f:Builtin.Dict_items.ownsTuple "dict_keyiterator" = false:=by decide
 simp only[f,Jj,if_false];show kw _ _ (if (Value.ref d==Value.none)=true then _ else _) _ _ s;rw[if_neg (show ¬((Value.ref d==Value.none)=true) from Ja)];refine jj (ke ?_);refine jj (QS c e ?_);rw[if_neg (by simp)];refine jj (ke ?_);refine jj (Q8 c e ?_);rw[if_neg (by simp)];refine ke ?_;simp only[show ¬((i:Int)<0) from by omega,if_false,Jv,Array.getElem?_eq_getElem g];refine jj ?_
 first|refine jj (KW a.typeIs (ke ?_))|refine jj (K6 a.typeIs (ke ?_))
 refine jj (wpAny_isOneOf_keyiter a.typeIs ?_);show kw _ _ (setField (.ref it) 1 (K4 ((i:Int)+1)) >>= _) _ _ s;refine jj (QE ho hd (by simp) ?_);have b:(s.heap.update it (Obj.mapFields (·.setIfInBounds 1 (K4 ((i:Int)+1))))).IsKeyIter it d (i+1) es.size ep :=
  ⟨_,Jx _ ho (Obj.isFreed_of_fields (Obj.data_mapFields hd _)),(Obj.cls_mapFields ..).trans hc,by rw[Obj.data_mapFields hd];simp[K4]⟩
 refine jj (zp ?_);refine jj (wpAny_isOneOf_keyiter (s:={ s with heap:=s.heap.update it (Obj.mapFields (·.setIfInBounds 1 (K4 ((i:Int)+1)))) }) b.typeIs ?_);show kw _ _ (pure es[i].key) _ _ _;exact ke (ke ⟨_,rfl,ke (h _ b (Heap.SameBut.update ..))⟩)
theorem xR{Q:Option as->ba->Prop}(j:A.handled=none)(c:s.heap.IsKeyIter it d i es.size ep)(e:s.heap.get? d=some od)(f:od.data=.dict es ep)(h:es.size<=i)
  (k:∀h',Heap.ExtBut it s.heap h'->Q none { s with heap:=h' }):kw (qb prog w) A (Qo (.ref it)) Q E s:=by
 obtain⟨o,ho,hc,hd⟩:=id c;unfold Qo;refine jj (Qf (z6 (name:=Str.ofString "__next__") c.typeIs F.slot_dict_keyiterator_next
  (z4 F.slot_dict_keyiterator_next c.typeIs F.entry_dict_keyiterator_next ?_ (F.args_dict_keyiterator_next_1 _))))
 refine jj (ke ?_);refine jj ?_;refine jj ?_
 first|refine jj (KW c.typeIs (ke ?_))|refine jj (K6 c.typeIs (ke ?_))
 refine jj (wpAny_fieldsOf ho hd ?_);have g:Builtin.Dict_items.ownsTuple "dict_keyiterator" = false:=by decide
 simp only[g,Jj,if_false];show kw _ _ (if (Value.ref d==Value.none)=true then _ else _) _ _ s;rw[if_neg (show ¬((Value.ref d==Value.none)=true) from Ja)];refine jj (ke ?_);refine jj (QS e f ?_);rw[if_neg (by simp)];refine jj (ke ?_);refine jj (Q8 e f ?_);rw[if_neg (by simp)];refine ke ?_;simp only[show ¬((i:Int)<0) from by omega,if_false,Jv,Array.getElem?_eq_none h];refine jj ?_
 first|refine jj (KW c.typeIs (ke ?_))|refine jj (K6 c.typeIs (ke ?_))
 show kw _ _ (setField (.ref it) 0 .none >>= _) _ _ s;refine jj (QE ho hd (by simp) ?_);show kw _ _ (newExc (.type "StopIteration") [] >>= _) _ _ _;refine jj ?_;simp only[newExc,newTuple];refine jj (zh ?_ (by size_fits));refine jj (m:=QG _ _) (wpAny_of_eq (a:=Value.none) (by first|rfl|(simp only[QG];rfl)) ?_);refine zh ?_ (by size_fits);simp only[raiseNew];refine jj (wpAny_handled ?_);rw[show A.in1.handled=none from j];refine jj (ke (wpAny_throw ?_));refine jj (KT (T := "StopIteration") (b:=true) ⟨_,IW _ rfl,rfl⟩ Zh ?_);exact ke (k _ (((Heap.SameBut.update ..).extBut.push _).push _))
end
def ce(a:ap)(es:List (aL×ap×V))(h:bd):Prop :=
 es.length<=sizeLine/\(a==cf)=false/\∃xs:List (aL×ap×as),Paired (λ(p:aL×ap×V) (q:aL×ap×as)=>p.1=q.1/\p.2.1=q.2.1/\be p.2.2 q.2.2) es xs /\
  ∃o ds ep,h.get? a=some o/\o.ExactDict/\o.data=.dict ds ep/\ds.toList=xs.map qC/\(xs.map (·.1)).Nodup/\ep=xs.length
abbrev dD(k:aL):ab:=.tuple [.int k.1,.tuple (k.2.map .int)]
abbrev eD(kvs:List (aL×ab)):ab:=.dict (kvs.map λp=>(dD p.1,p.2))
abbrev fzD(ds:List ab):ab:=.dict [(.none,.list ds)]
abbrev qt(x:bx)(d:ab):ab:=.dict [(.none,.none),(.str x,d)]
abbrev jK(C:ap)(x:bx)(d:ab):ab:=.dict [(.none,.int (C:Nat)),(.str x,d)]
theorem FY{α:Type}{n:Nat}{l:List α}(h:l.length=n+1):∃a t,l=a::t:=List.exists_cons_of_length_eq_add_one h
theorem sB{α:Type}{l:List α}(h:l.length=1):∃a,l=[a]:=List.length_eq_one_iff.mp h
theorem EZ{α:Type}{l:List α}(h:l.length=2):∃a b,l=[a,b]:=by obtain⟨a,t,rfl⟩:=FY h;obtain⟨b,rfl⟩:=sB (l:=t) (Nat.succ.inj h);exact⟨a,b,rfl⟩
theorem HZ{α:Type}{l:List α}(h:l.length=3):∃a b c,l=[a,b,c]:=by obtain⟨a,t,rfl⟩:=FY h;obtain⟨b,c,rfl⟩:=EZ (l:=t) (Nat.succ.inj h);exact⟨a,b,c,rfl⟩
mutual
inductive DV (K:ca) (H:Hp):V->ab->Prop
 | non:DV K H .non .none
 | bl (b:Bool):DV K H (.bl b) (.bool b)
 | int (i:Int):DV K H (.int i) (.int i)
 | str (x:bx):DV K H (.str x) (.str x)
 | lst {a:ap}{xs:List V}{ds:List ab}:SqL K H a xs->DVs K H xs ds->DV K H (.ref a) (.list ds)
 | tup {a:ap}{xs:List V}{ds:List ab}:SqT K H a xs->DVs K H xs ds->DV K H (.ref a) (.tuple ds)
 | dct {a:ap}{es:List (aL×ap×V)}{kvs:List (aL×ab)}:H a=some (.ext (ce a es))->DVs K H (es.map λp=>V.ref p.2.1) (kvs.map λp=>dD p.1)->DVs K H (es.map λp=>p.2.2) (kvs.map λp=>p.2)->es.map (λp=>p.1)=kvs.map (λp=>p.1)->DV K H (.ref a) (eD kvs)
 | idc {a:ap}{x:bx}{v:V}{d:ab}:H a=some (.dK [(.inr x,v)])->DV K H v d->DV K H (.ref a) (qt x d)
 | dsk {a b C dx:ap}{x:bx}{v:V}{d:ab}:H a=some (.ins C dx [("towns",.ref b)])->H b=some (.dK [(.inr x,v)])->DV K H v d->DV K H (.ref a) (jK C x d)
 | fz {v:V}{ds:List ab}:DV K H v (.list ds)->DV K H v (fzD ds)
inductive DVs (K:ca) (H:Hp):List V->List ab->Prop
 | nil:DVs K H [] []
 | cons {x:V}{xs:List V}{d:ab}{ds:List ab}:DV K H x d->DVs K H xs ds->DVs K H (x::xs) (d::ds)
end
theorem DV.tupI{K:ca}{H:Hp}{v:V}{ds:List ab}(h:DV K H v (.tuple ds)):∃a xs,v=.ref a/\SqT K H a xs/\DVs K H xs ds:=by
 cases h with
 | tup h q=>exact⟨_,_,rfl,h,q⟩
theorem DV.lstI{K:ca}{H:Hp}{v:V}{ds:List ab}(h:DV K H v (.list ds)):∃a xs,v=.ref a/\SqL K H a xs/\DVs K H xs ds:=by
 cases h with
 | lst h q=>exact⟨_,_,rfl,h,q⟩
theorem DV.intI{K:ca}{H:Hp}{v:V}{i:Int}(h:DV K H v (.int i)):v=.int i:=by cases h;rfl
theorem DVs.twoI{K:ca}{H:Hp}{vs:List V}{d e:ab}(h:DVs K H vs [d,e]):∃x y,vs=[x,y]/\DV K H x d/\DV K H y e:=by
 cases h with
 | cons h q =>
  cases q with
  | cons h2 q=>cases q;exact⟨_,_,rfl,h,h2⟩
section
variable {X:Cx}{pins:List (ap×Obj)}{σ:St}{H:Hp}{s:ba}
theorem DVs.ind{K:ca}{H:Hp}{C:List V->List ab->Prop}(n:C [] [])(c:∀{x:V}{xs:List V}{d:ab}{ds:List ab},DV K H x d->DVs K H xs ds->C xs ds->C (x::xs) (d::ds)){v:List V}{d:List ab}(h:DVs K H v d):C v d :=
  DVs.rec (motive_1:=λ_ _ _=>True) (motive_2:=λv d _=>C v d) trivial (λ_=>trivial) (λ_=>trivial)
   (λ_=>trivial)
  (λ_ _ _=>trivial) (λ_ _ _=>trivial)
  (λ_ _ _ _ _ _=>trivial) (λ_ _ _=>trivial) (λ_ _ _ _=>trivial) (λ_ _=>trivial) n (λh q _ i=>c h q i) h
theorem DV.reads(I:Inv X pins σ H s){x:V}{d:ab}{u:as}(h:DV X.K H x d):be x u->d.canLay0=true->∃f,Reads s.heap u d f :=
  DV.rec (motive_1:=λx d _=>∀u:as,be x u->d.canLay0=true->∃f,Reads s.heap u d f) (motive_2:=λxs ds _=>∀us:List as,aH xs us->PyData.canLayAll0 ds=true->∃f,ReadsAll s.heap us ds f)
  (λu r _=>by cases (show _=Value.none from r);exact⟨_,.none⟩)
  (λb u r _=>by cases (show _=Value.bool b from r);exact⟨_,.bool b⟩)
  (λi u r _=>by obtain⟨t,rfl⟩:=r;exact⟨_,.int i t⟩)
   (λx u r _=>by obtain⟨t,rfl⟩:=r;exact⟨_,.str x t⟩)
  (λ{a xs ds} h q i u r l=>by
    cases (show _=Value.ref a from r);obtain⟨k,rv,⟨o,n,e,c,_,hd⟩,_⟩:=I.list h;obtain⟨f,g⟩:=i _ rv (by simpa only[PyData.canLay0] using l);exact⟨_,.list e c hd (by simpa using g)⟩)
  (λ{a xs ds} h q i u r l=>by
    cases (show _=Value.ref a from r);obtain⟨k,rv,⟨o,e,c,n,hd⟩,_⟩:=I.tuple h;obtain⟨f,g⟩:=i _ rv (by simpa only[PyData.canLay0] using l);exact⟨_,.tuple e c hd (by simpa using g)⟩)
  (λ_ _ _ _ _ _ _ _ l=>by simp[PyData.canLay0] at l) (λ_ _ _ _ _ l=>by simp[PyData.canLay0] at l) (λ_ _ _ _ _ _ l=>by simp[PyData.canLay0] at l) (λ_ _ _ _ l=>by simp[PyData.canLay0] at l)
  (λus r _=>by rw[aH.zero r];exact⟨_,.nil⟩)
  (λ_ _ i j us r l=>by
    simp only[PyData.canLayAll0,Jw] at l;obtain⟨u,vs,rfl,m,p⟩:=aH.consI r;obtain⟨f,g⟩:=i u m l.1;obtain⟨bs,v⟩:=j vs p l.2;exact⟨_,.cons g v⟩) h u
theorem fS:∀ns:List Int,PyData.canLayAll0 (ns.map PyData.int)=true
 | []=>rfl
 | n::ns=>by simp only[IU,PyData.canLayAll0,PyData.canLay0,Bool.true_and,fS ns]
abbrev shp(d:ab):Prop:=SeqAt.shaped d=true
def FL(K:ca):R2:=λx y H Q=>∃d e,DV K H x d/\DV K H y e/\shp d/\shp e/\Q (.bl (PyData.eqv d e)) H
def FG(K:ca):R2:=λx y H Q=>∃d e,DV K H x d/\DV K H y e/\shp d/\shp e/\Q (.bl (!PyData.eqv d e)) H
theorem Dy(a:X.A.units+64<KD):OpR X (q4 .Eq) (FL X.K):=by intro pins s σ H x y v u Q I b c h;obtain⟨d,e,h1,h2,s1,s2,q⟩:=h;obtain⟨i,f⟩:=h1.reads I b (SeqAt.canLay_of_shaped s1);obtain⟨bs,g⟩:=h2.reads I c (SeqAt.canLay_of_shaped s2);exact eq_dataH f g s1 s2 a ⟨.bl _,H,I,rfl,q⟩
theorem Dt(a:X.A.units+64<KD):OpR X (q4 .NotEq) (FG X.K):=by intro pins s σ H x y v u Q I b c h;obtain⟨d,e,h1,h2,s1,s2,q⟩:=h;obtain⟨i,f⟩:=h1.reads I b (SeqAt.canLay_of_shaped s1);obtain⟨bs,g⟩:=h2.reads I c (SeqAt.canLay_of_shaped s2);exact ne_dataH f g s1 s2 a ⟨.bl _,H,I,rfl,q⟩
def FK(K:ca):R2:=λx y H Q=>∃d ds,DV K H x d/\DV K H y (.list ds)/\shp d/\shp (.list ds)/\Q (.bl (ds.any λe=>PyData.eqv e d)) H
def nZ(K:ca):R2:=λx y H Q=>∃d ds,DV K H x d/\DV K H y (.list ds)/\shp d/\shp (.list ds)/\Q (.bl (!ds.any λe=>PyData.eqv e d)) H
theorem pJ{ds:List ab}(h:shp (.list ds)):PyData.canLayAll0 ds=true/\PyData.depthAll ds<=63:=by have a:=SeqAt.canLay_of_shaped h;have b:=SeqAt.depth_of_shaped h;simp only[PyData.depth] at b;exact⟨a,by omega⟩
theorem Dw(f:X.A.units+80<KD):OpR X (q4 .In) (FK X.K):=by intro pins s σ H x y v u Q I a b h;obtain⟨d,ds,h1,h2,s1,s2,q⟩:=h;obtain⟨g,c⟩:=h1.reads I a (SeqAt.canLay_of_shaped s1);obtain⟨bs,e⟩:=h2.reads I b (SeqAt.canLay_of_shaped s2);obtain⟨l1,l2⟩:=pJ s2;have:=Nat.min_le_left (PyData.depthAll ds) d.depth;exact SeqAt.in_list_reads e c l1 (SeqAt.canLay_of_shaped s1) (by omega) ⟨.bl _,H,I,rfl,q⟩
theorem uo(f:X.A.units+80<KD):OpR X (q4 .NotIn) (nZ X.K):=by intro pins s σ H x y v u Q I a b h;obtain⟨d,ds,h1,h2,s1,s2,q⟩:=h;obtain⟨g,c⟩:=h1.reads I a (SeqAt.canLay_of_shaped s1);obtain⟨bs,e⟩:=h2.reads I b (SeqAt.canLay_of_shaped s2);obtain⟨l1,l2⟩:=pJ s2;have:=Nat.min_le_left (PyData.depthAll ds) d.depth;exact SeqAt.notIn_list_reads e c l1 (SeqAt.canLay_of_shaped s1) (by omega) ⟨.bl _,H,I,rfl,q⟩
theorem mU:∀{bs:List Bool}{us:List as},aH (bs.map V.bl) us->LSm.BoolsAre us bs
 | [],_,.nil=>.nil
 | b::bs,_,.cons r t=>by
  cases (show _=Value.bool b from r);exact .cons b (mU t)
theorem ye(hc:X.calm=true):cZ X (.builtin "all") (λxs H Q=>∃(a:ap) (bs:List Bool),xs=[.ref a]/\SqL X.K H a (bs.map V.bl)/\Q (.bl (bs.all id)) H):=by
 intro pins s σ H xs us Q I r h;obtain⟨a,bs,rfl,hs,q⟩:=h;obtain⟨u,rfl,j⟩:=fw r;cases (show u=Value.ref a from j);obtain⟨c,rv,p,_⟩:=I.list hs;have f:=mU rv;have hl:=p.isList;have d:a<s.heap.objs.size:=by obtain⟨_,e,_⟩:=hl;exact IX e
 refine call_all_walk (Qb hl ?_);refine⟨s.heap.objs.size,[s.heap.objs.size,a],[s.heap.objs.size],c.toArray.size,_,_,λi=>(bs[i]?).getD true,rfl,Walks.list (A:=X.A.in1) (I.ok.hd hc) _ a (Jd d) c.toArray,
  ⟨⟨_,IW _ rfl,rfl,rfl⟩,hl.push _⟩,λi v s' l E' k g=>?_,λh' tk hk=>?_⟩
 obtain⟨b,e,rfl⟩:=f.get i v (by simpa using k);simp only[e,Option.getD_some] at g;exact KB g;have e:((List.range c.toArray.size).all λi=>(bs[i]?).getD true)=bs.all id:=by rw[IV,f.length];exact LSm.range_all bs
 rw[e];exact⟨.bl _,H,I.kept (LSm.kept_iter hk),rfl,q⟩
def CT(K:ca):R2:=λx y H Q=>∃a b xs ys,x=.ref a/\y=.ref b/\SqT K H a xs/\SqT K H b ys/\xs.length+ys.length<=sizeLine /\
 (xs=[]->Q (.ref b) H)/\(xs≠[]->ys=[]->Q (.ref a) H)/\(xs≠[]->ys≠[]->∀p,H p=none->Q (.ref p) (upd H p (.tup (xs++ys))))
theorem AW:OpR X (KN .Add) (CT X.K):=by
 intro pins s σ H x y v u Q I j k h;obtain⟨a,b,xs,ys,rfl,rfl,l,m,hz,q0,p,q⟩:=h;by_cases hx:xs=[]
 subst hx;cases (show v=Value.ref a from j);cases (show u=Value.ref b from k);obtain⟨r,v1,t,_⟩:=I.tuple l;obtain⟨c,z,p2,_⟩:=I.tuple m;cases v1;obtain⟨⟨cls,dd,data,sl⟩,ho,hc,n,hd⟩:=id t;obtain⟨⟨o,g,data2,i⟩,d,e,w,f⟩:=id p2;simp only at hc hd e f;subst hc hd e f;exact QV ⟨_,ho,rfl⟩ ⟨_,d,rfl⟩ Q0 Zq PySem.F.slot_tuple_add PySem.F.entry_tuple_add (PySem.F.args_tuple_add_2 _ _)
  (tuple_addW0 a b #[] c.toArray n w dd g sl i rfl) ⟨ho,d,.ref b,H,I,rfl,q0 rfl⟩
 exact AV pins s σ H _ _ v u Q I j k ⟨a,b,xs,ys,rfl,rfl,l,m,hx,hz,p hx,q hx⟩
end
def cE:Bool->bd->ap->Array as->Prop
 | false,h,a,xs=>h.IsList a xs
 | true,h,a,xs=>h.IsTuple a xs
def cn:Bool->bd->ap->ap->Nat->Prop
 | false,h,it,a,i=>h.IsListIter it a i
 | true,h,it,a,i=>h.IsTupleIter it a i
theorem cE.at{b:Bool}{h h':bd}{a:ap}{xs:Array as}(p:cE b h a xs)(k:∀o,h.get? a=some o->h'.get? a=some o):cE b h' a xs:=by
 cases b with
 | false=>obtain⟨o,e,r⟩:=p;exact⟨o,k o e,r⟩
 | true=>obtain⟨o,e,r⟩:=p;exact⟨o,k o e,r⟩
theorem cn.at{b:Bool}{h h':bd}{it a:ap}{i:Nat}(p:cn b h it a i)(k:∀o,h.get? it=some o->h'.get? it=some o):cn b h' it a i:=by
 cases b with
 | false=>obtain⟨o,e,r⟩:=p;exact⟨o,k o e,r⟩
 | true=>obtain⟨o,e,r⟩:=p;exact⟨o,k o e,r⟩
theorem cE.obj{b:Bool}{h:bd}{a:ap}{xs:Array as}(p:cE b h a xs):∃o n,h.get? a=some o/\o.data=.seq xs n:=by
 cases b with
 | false=>obtain⟨o,e,_,n,d⟩:=p;exact⟨o,n,e,d⟩
 | true=>obtain⟨o,e,_,n,d⟩:=p;exact⟨o,n,e,d⟩
theorem cn.obj{b:Bool}{h:bd}{it a:ap}{i:Nat}(p:cn b h it a i):∃o,h.get? it=some o/\o.data=.fields #[.ref a,.int i 0]:=by
 cases b with
 | false=>obtain⟨o,e,_,d⟩:=p;exact⟨o,e,d⟩
 | true=>obtain⟨o,e,_,d⟩:=p;exact⟨o,e,d⟩
section
variable {prog:q3}{w:zb}{A:Around}{E:as->ba->Prop}{s:ba}
theorem xh{it t:ap}{i:Nat}{items:Array as}{x:as}{Q:as->ba->Prop}(a:s.heap.IsTupleIter it t i)(ht:s.heap.IsTuple t items)(hx:items[i]? = some x)
  (d:∀h',h'.IsTupleIter it t (i+1)->Heap.SameBut it s.heap h'->Q x { s with heap:=h' }):kw (qb prog w) A (Builtin.SmallTypes.nextOf (.ref it)) Q E s:=by obtain⟨o,ho,hc,hd⟩:=id a;obtain⟨e,b,_,f,c⟩:=ht;unfold Builtin.SmallTypes.nextOf;refine jj (z6 (name:=Str.ofString "__next__") a.typeIs F.slot_tuple_iterator_next (z4 F.slot_tuple_iterator_next a.typeIs F.entry_tuple_iterator_next ?_ (F.args_tuple_iterator_next_1 _)));show kw _ _ (Zu (.ref it) 0 >>= _) _ _ s;refine jj (Kz ho hd (x:=.ref t) rfl ?_);show kw _ _ (if (Value.ref t==Value.none)=true then _ else _) _ _ s;rw[if_neg (show ¬((Value.ref t==Value.none)=true) from Ja)];show kw _ _ (Zu (.ref it) 1 >>= _) _ _ s;refine jj (Kz ho hd (x:=.int i 0) rfl ?_);show kw _ _ (Zs (.ref t) >>= _) _ _ s;refine jj (Ky b c ?_);simp only[Jv,hx];refine jj (QE ho hd (by simp) (ke ⟨x,rfl,ke (d _ ?_ (Heap.SameBut.update ..))⟩));refine⟨_,Jx _ ho (Obj.isFreed_of_fields (Obj.data_mapFields hd _)),(Obj.cls_mapFields ..).trans hc,?_⟩;rw[Obj.data_mapFields hd];simp[K4]
theorem oH{it t:ap}{i:Nat}{items:Array as}{Q:as->ba->Prop}(f:A.handled=none)(b:s.heap.IsTupleIter it t i)(ht:s.heap.IsTuple t items)(hx:items[i]? = none)
  (g:∀h' e,Heap.ExtBut it s.heap h'->(∃o,h'.get? e=some o/\o.cls=.type "StopIteration")->E (.ref e) { s with heap:=h' }):kw (qb prog w) A (Builtin.SmallTypes.nextOf (.ref it)) Q E s:=by
 obtain⟨o,ho,hc,hd⟩:=id b;obtain⟨h,c,_,j,d⟩:=ht;unfold Builtin.SmallTypes.nextOf;refine jj (z6 (name:=Str.ofString "__next__") b.typeIs F.slot_tuple_iterator_next (z4 F.slot_tuple_iterator_next b.typeIs F.entry_tuple_iterator_next ?_ (F.args_tuple_iterator_next_1 _)));show kw _ _ (Zu (.ref it) 0 >>= _) _ _ s;refine jj (Kz ho hd (x:=.ref t) rfl ?_);show kw _ _ (if (Value.ref t==Value.none)=true then _ else _) _ _ s;rw[if_neg (show ¬((Value.ref t==Value.none)=true) from Ja)];show kw _ _ (Zu (.ref it) 1 >>= _) _ _ s;refine jj (Kz ho hd (x:=.int i 0) rfl ?_);show kw _ _ (Zs (.ref t) >>= _) _ _ s;refine jj (Ky c d ?_);simp only[Jv,hx];refine jj (KO (jj (QE ho hd (by simp) ?_)));show kw _ _ (newExc (.type "StopIteration") [] >>= _) _ _ _;refine jj ?_;simp only[newExc,newTuple];refine jj (zh ?_ (by size_fits));refine jj (m:=QG _ _) (wpAny_of_eq (a:=Value.none) (by first|rfl|(simp only[QG];rfl)) ?_);refine zh ?_ (by size_fits);simp only[raiseNew];refine jj (wpAny_handled ?_)
 first|rw[show A.in1.handled=none from f]|rw[f]
 exact jj (ke (wpAny_throw (g _ _ (((Heap.SameBut.update ..).extBut.push _).push _) ⟨_,IW _ rfl,rfl⟩)))
theorem gY{b:Bool}{it a:ap}{i:Nat}{items:Array as}{x:as}{Q:as->ba->Prop}(c:cn b s.heap it a i)(d:cE b s.heap a items)(hx:items[i]? = some x)
  (e:∀h',cn b h' it a (i+1)->Heap.SameBut it s.heap h'->Q x { s with heap:=h' }):kw (qb prog w) A (Builtin.SmallTypes.nextOf (.ref it)) Q E s:=by
 cases b with
 | false=>exact wpAny_nextOf_list_item c d hx e
 | true=>exact xh c d hx e
theorem ff{b:Bool}{it a:ap}{i:Nat}{items:Array as}{Q:as->ba->Prop}(d:A.handled=none)(c:cn b s.heap it a i)(f:cE b s.heap a items)(hx:items[i]? = none)
  (g:∀h' e,Heap.ExtBut it s.heap h'->(∃o,h'.get? e=some o/\o.cls=.type "StopIteration")->E (.ref e) { s with heap:=h' }):kw (qb prog w) A (Builtin.SmallTypes.nextOf (.ref it)) Q E s:=by
 cases b with
 | false=>exact wpAny_nextOf_list_end d c f hx g
 | true=>exact oH d c f hx g
end
theorem mE{prog:q3}{w:zb}{A:Around}(b:Bool)(g:A.handled=none)(it a:ap)(c:a≠it)(items:Array as) :
  Draws prog w A it [it,a] items.size (λi v=>items[i]? = some v) (λi h=>cn b h it a i/\cE b h a items) where
 live:=λ_ _ st=>by obtain⟨o,e,_⟩:=st.1.obj;exact⟨o,e⟩
 frame:=λ_ _ _ st hk=>⟨st.1.at λo e=>hk it (by simp) o e,st.2.at λo e=>hk a (by simp) o e⟩
 item:=λi s Q E hi st j=>gY st.1 st.2 (x:=items[i]) (by simp[hi]) λh' d f=>j _ h' s.toks (by simp[hi]) ⟨d,st.2.at λo e=>f.extBut a o c e⟩ f
 done:=λs Q E st k=>ff g st.1 st.2 (by simp) k
def SqB(K:ca)(H:Hp):Bool->ap->List V->Prop
 | false,a,xs=>SqL K H a xs
 | true,a,xs=>SqT K H a xs
section
variable {X:Cx}{pins:List (ap×Obj)}{σ:St}{H:Hp}{s:ba}
theorem Inv.seq(I:Inv X pins σ H s){b:Bool}{a:ap}{xs:List V}(h:SqB X.K H b a xs):∃c:List as,aH xs c/\cE b s.heap a c.toArray:=by
 cases b with
 | false=>obtain⟨c,r,p,_⟩:=I.list h;exact⟨c,r,p.isList⟩
 | true=>obtain⟨c,r,p,_⟩:=I.tuple h;exact⟨c,r,p⟩
theorem Inv.seq_inj(I:Inv X pins σ H s){b:Bool}{a:ap}{xs ys:List V}(h:SqB X.K H b a xs)(h':SqB X.K H b a ys):xs=ys:=by
 cases b with
 | false=>exact I.list_inj h h'
 | true=>exact I.tuple_inj h h'
theorem Inv.turnedN{fp:List ap}{h':bd}{t':Nat}(I:Inv X pins σ H s)(d:∀b∈fp,hV X pins H b)(k:∀b o,b ∉ fp->s.heap.get? b=some o->h'.get? b=some o):Inv X pins σ H { s with heap:=h',toks:=t' }:=by
 have a:∀b u,H b=some u->b ∉ fp:=λb u e z=>by rw[(d b z).1] at e;cases e
 refine I.step (g':=s.gens) (d':=s.drawn) (ch:=fp) (λb f=>?_) (λb o _ _ hc e _=>k b o hc e) (λb o _ _ hc e _=>⟨o.slots,k b o hc e⟩) (λ_ _ _ _ n=>n) (λb o hc e=>⟨o,k b o hc e⟩) (λ_ _ e=>e) (λ_ _ _ e=>e)
  (λ_ _ e=>e) (λm g=>?_) (λb u e=>?_) I.bare
 obtain⟨p,h,t,i,j,l⟩:=d b f;exact⟨i,h,j,l⟩;obtain⟨o,es,ep,ho,r⟩:=g;exact⟨o,es,ep,k _ o (λz=>(d _ z).2.1 rfl) ho,r⟩;refine(I.hok b u e).stay (λc v hc q=>k c v ?_ q) (λ_ q=>q) λ_ _ _ q=>q;rcases hc with z|z;rw[z];exact a b u e;exact a c _ z
theorem Inv.track{T:ap}{o:HO}(I:Inv X pins σ H s)(f:hV X pins H T)(new:dB X.prog X.w (upd H T o) s.heap T o):Inv X pins σ (upd H T o) s:=by
 obtain⟨g,h,p,i,j,k⟩:=f;have a:∀b u,H b=some u->b≠T:=λb u e z=>by rw[z,g] at e;cases e
 have q:=I.step (h':=s.heap) (H':=upd H T o) (g':=s.gens) (d':=s.drawn) (t':=s.toks) (ch:=[T]) (λb d=>by
   have e:b=T:=by simpa using d
   rw[e];exact⟨i,h,j,k⟩) (λb o _ _ _ e _=>e) (λb o _ _ _ e _=>⟨o.slots,e⟩) (λb o' hc _ n=>by rw[al (λz=>hc (by simp[z]))];exact n) (λb o' _ e=>⟨o',e⟩)
  (λb xs e=>by rw[al (a b _ e)];exact e) (λb o' u e=>by rw[al (a b _ e)];exact e) (λb ps e=>by rw[al (a b _ e)];exact e) (λm l=>l) (λb u e=>?_) I.bare
 exact q;by_cases d:b=T;subst d;rw[aq] at e;cases e;exact new;rw[al d] at e;exact(I.hok b u e).stay (λ_ _ _ q=>q) (λc q=>by rw[al (a c _ q)];exact q) λc xs _ q=>by rw[al (a c _ q)];exact q
end
def Ite(K:ca)(b:Bool)(a:ap):It :=
 ⟨λi H=>∃xs x,SqB K H b a xs/\xs[i]? = some x,λi H v H'=>∃p x,v=.ref p/\H p=none/\H'=upd H p (.tup [.int i,x])/\∀xs,SqB K H b a xs->xs[i]? = some x,λi H=>∃xs,SqB K H b a xs/\xs.length=i⟩
theorem sN{P:q3}{w:zb}{K:ca}{es:List bb}{V:Nat}{pos:Pos}(b:Bool)(a it e:ap)(j:e≠it) :
  zD P w K (.Tuple es V pos) (Ite K b a) [e,it] e (λi h=>(∃d,IsEnum h e it i d)/\cn b h it a i) where
 mem:=by simp
 obj := λi h st c hc=>by
  obtain⟨⟨d,g⟩,st⟩:=st;rcases IR.mp hc with rfl|hc;exact⟨_,g,λv z=>by
   have Y:Data.fields _=Data.cell v:=z;cases Y⟩
  have e':c=it:=by simpa using hc
  subst e';obtain⟨o,ho,hd⟩:=st.obj;exact⟨o,ho,λv z=>by rw[hd] at z;cases z⟩
 keep:=λi h h' st k=>by
  obtain⟨⟨d,g⟩,st⟩:=st;exact⟨⟨d,k e (by simp) _ g⟩,st.at λo q=>k it (by simp) o q⟩
 item := by
  intro X F hw hK hc i pins s σ H E I B st hg;subst F hw hK;obtain⟨xs,x,C,hx⟩:=hg;obtain⟨⟨d,g⟩,st⟩:=st;obtain⟨f,rv,r⟩:=I.seq C;obtain⟨u,U,Z⟩:=rv.get hx;obtain⟨oa,na,l,p⟩:=r.obj;obtain⟨oi,D,G⟩:=st.obj;have m:a≠it:=λz=>by rw[z,D] at l;cases l;rw[G] at p;cases p
  have J:e≠a:=λz=>by rw[<-z,g] at l;cases l;cases p
  have L:i<f.toArray.size:=by have:=(IN.mp U).1;simpa using this
  refine wpAny_pyNext_enum_itemD (mE (A:=X.A.in1) b (I.ok.hd hc) it a m f.toArray) g ⟨st,r⟩ L j (by simp[j,J]) λy h1 tk M t N hT hz hk=>?_;have ey:y=u:=by
   have:f[i]? = some y:=by simpa using M
   rw[U] at this;exact(Option.some.inj this).symm
  subst ey;refine⟨_,rfl,wpAny_letOwnedTupleGo_enum t λh2 O n=>?_⟩;have elt:e<s.heap.objs.size:=IX g;have R:it<s.heap.objs.size:=IX D;have I2:Inv X pins σ H { s with heap:=h2,toks:=tk+1 }:=I.turnedN B λc o hc q=>n.extBut c o (λz=>hc (by simp[z])) (hk c o (λz=>hc (by simp[z])) (λz=>hc (by simp[z])) q);have g2:h2.get? s.heap.objs.size=some { cls:=.type "tuple",data:=.seq #[.int i tk,y] }:=n.extBut _ _ (JR elt) hT;have hn:H s.heap.objs.size=none:=I.hok.fresh (IS _);refine⟨.ref s.heap.objs.size,upd H s.heap.objs.size (.tup [.int i,x]),I2.track (T:=s.heap.objs.size) (o:=.tup [.int i,x]) (I.fpOk (IS _) hn) ?_,rfl,?_,⟨⟨y,O⟩,?_⟩,λc hc=>?_⟩;exact⟨by show 2<=sizeLine;decide,[.int i tk,y],.cons ⟨tk,rfl⟩ (.cons Z .nil),_,g2,rfl,⟨_,rfl⟩,rfl⟩;exact⟨_,x,rfl,hn,rfl,λys M=>by rw[I.seq_inj M C];exact hx⟩;exact N.1.at λo q=>n.extBut it o (Ne.symm j) q;have:c<s.heap.objs.size:=by
   rcases IR.mp hc with rfl|hc;exact elt;have e':c=it:=by simpa using hc
   rw[e'];exact R
  rw[al (Jd this)];exact(B c hc).1
 done:=by
  intro X F hw hK hc i pins s σ H E I B st hg;subst F hw hK;obtain⟨xs,C,hx⟩:=hg;obtain⟨⟨d,g⟩,st⟩:=st;obtain⟨f,rv,r⟩:=I.seq C;obtain⟨oa,na,l,p⟩:=r.obj;obtain⟨oi,D,G⟩:=st.obj;have m:a≠it:=λz=>by rw[z,D] at l;cases l;rw[G] at p;cases p
  have hl:=rv.length;have ez:f.toArray.size=i:=by simp;omega
  refine wpAny_pyNext_enum_endD (mE (A:=X.A.in1) b (I.ok.hd hc) it a m f.toArray) g (by rw[ez];exact⟨st,r⟩) λh' S=>⟨rfl,?_⟩
  exact I.turnedN (t':=s.toks) B λc o hc q=>S c o (λz=>hc (by simp[z])) q
 self:=λA i s Q E st h=>by
  obtain⟨⟨d,g⟩,st⟩:=st;exact wpAny_pyIter_enum g h
abbrev jh(b:Bool)(a:ap):Obj:={ cls:=.type (if b then "tuple_iterator" else "list_iterator"),data:=.fields #[.ref a,.int 0 0] }
theorem ku{b:Bool}{h:bd}{it a:ap}(e:h.get? it=some (jh b a)):cn b h it a 0:=by
 cases b with
 | false=>exact⟨_,e,rfl,rfl⟩
 | true=>exact⟨_,e,rfl,rfl⟩
theorem fT{prog:q3}{w:zb}{A:Around}{E:as->ba->Prop}{s:ba}{b:Bool}{a:ap}{items:Array as}{Q:as->ba->Prop}(c:cE b s.heap a items)
  (d:Q (.ref s.heap.objs.size) { s with heap:=s.heap.push (jh b a) }):kw (qb prog w) A (ZC (.ref a)) Q E s:=by
 cases b with
 | false=>exact Qb c d
 | true=>exact wpAny_pyIter_tuple c d
open AutoSeq1 (wpAny_loadPart') in
theorem u4(l:ap)(items:Array as)(n:Nat)(dct:Option ap)(sl:Array (Option as)) :
  Meets (Builtin.«enumerate.__new__» ⟨[.type "enumerate",.ref l],[]⟩) (λ_ R s=>s.heap.get? l=some { cls:=.type "tuple",dict:=dct,data:=.seq items n,slots:=sl } /\
   R (.ok (.ret (.ref (s.heap.push (jh true l)).objs.size))) { s with heap:=(s.heap.push (jh true l)).push { cls:=.type "enumerate",data:=.fields #[.none,.bool false,.ref s.heap.objs.size,K4 0,.none,.none] } }) :=
 .of_wp λprog w A R s h=>by
  obtain⟨b,g,d,tk,os⟩:=s;obtain⟨hl,h⟩:=h;have a:=sub_enumerate;have hL:cE true (Shared.heap ⟨b,g,d,tk,os⟩) l items:=⟨_,hl,rfl,n,rfl⟩
  wp_walk using wpAny_loadPart' hl
  refine wpAny_stack_any λst=>ke ?_;split
  ·rename_i c _ _ _ _ _;cases (c==Value.type "enumerate") <;> (wp_walk using wpAny_loadPart' hl,fT hL) <;> exact⟨_,rfl,h⟩
  ·wp_walk using wpAny_loadPart' hl,fT hL
   exact⟨_,rfl,h⟩
section
variable {prog:q3}{w:zb}{A:Around}{E:as->ba->Prop}{s:ba}
theorem u5{b:Bool}{l:ap}{items:Array as}{Q:as->ba->Prop}(hL:cE b s.heap l items)
  (h : ∀h',IsEnum h' (s.heap.objs.size+1) s.heap.objs.size 0 .none->cn b h' s.heap.objs.size l 0->h'.objs.size=s.heap.objs.size+2->(∀c o,s.heap.get? c=some o->h'.get? c=some o)->Q (.ref (s.heap.objs.size+1)) { s with heap:=h' }) :
  kw (qb prog w) A (call (.type "enumerate") [.ref l]) Q E s:=by
 cases b with
 | false=>exact call_enumerate_list hL h
 | true =>
  obtain⟨⟨c,dct,d,sl⟩,hl,hc,n,hd⟩:=hL;replace hc:c=.type "tuple" := hc;replace hd:d=.seq items n:=hd;subst hc hd;refine callType_new F.called_enumerate (by decide) (F.typeCall_enumerate_1 _) (F.newCall_enumerate_1 _) (λobj=>F.args_object_init_2 obj _) F.entry_enumerate_new (u4 l items n dct sl) ⟨hl,?_⟩;have hz:(s.heap.push (jh true l)).objs.size=s.heap.objs.size+1:=JA ..;show _/\_;rw[hz];have a:IsEnum ((s.heap.push (jh true l)).push { cls:=.type "enumerate",data:=.fields #[.none,.bool false,.ref s.heap.objs.size,K4 0,.none,.none] }) (s.heap.objs.size+1) s.heap.objs.size 0 .none:=by have q:=IW (s.heap.push (jh true l)) (o:={ cls:=.type "enumerate",data:=.fields #[.none,.bool false,.ref s.heap.objs.size,K4 0,.none,.none] }) rfl;rw[hz] at q;exact q
  exact⟨⟨_,a,rfl⟩,h _ a (ku (IH _ (IW _ rfl))) (by rw[JA,hz]) λc o x=>IH _ (IH _ x)⟩
end
section
variable {X:Cx}
def Eb(K:ca)(b:Bool)(ta:TA):TI:=λσ H R=>ta σ H λvs H1=>∃a xs,vs=[.ref a]/\SqB K H1 b a xs/\R (Ite K b a) H1
theorem AG(b:Bool){es:List bb}{m:Nat}{f:Pos}{a:bb}{ta:TA}{p pos:Pos}(hg:Gl X "enumerate")(n:X.mg "enumerate" = none)(g:KJ "enumerate" = some (.type "enumerate"))(o:PA X [a] ta)(hs:kq [a] X.env=[(false,eval a X.env)]:=by rfl) :
  PI X (.Tuple es m f) (.Call (.Name "enumerate" p) [a] [] pos) (Eb X.K b ta):=by
 intro pins s σ H R I h;refine Call_ (fR I hg n g (PyProof.Rows.callWith_type1 (thn (o pos pins s σ H _ I h) λus s1 i=>?_) hs rfl));obtain⟨vs,H1,d,r,t⟩:=i;obtain⟨l,xs,rfl,v,q⟩:=t;obtain⟨u,rfl,w⟩:=fw r;cases (show u=Value.ref l from w);obtain⟨x,rv,hL⟩:=d.seq v;refine u5 hL λh' k j hz hk=>wpAny_pyIter_enum k ?_;have y:Inv X pins σ H1 { s1 with heap:=h' }:=d.kept (t':=s1.toks) hk;refine⟨s1.heap.objs.size+1,[s1.heap.objs.size+1,s1.heap.objs.size],_,_,H1,rfl,y,sN b l s1.heap.objs.size (s1.heap.objs.size+1) (JR (JO _)),⟨⟨_,k⟩,j⟩,λc hc=>?_,q⟩;rcases IR.mp hc with rfl|hc;exact d.fpOk (Kb _) (d.hok.fresh (Kb _));have e:c=s1.heap.objs.size:=by simpa using hc
 rw[e];exact d.fpOk (IS _) (d.hok.fresh (IS _))
end
abbrev zH1(h:bd)(b:Bool)(l1:ap):bd:=h.push (jh b l1)
abbrev zH2(h:bd)(b c:Bool)(l1 l2:ap):bd:=(zH1 h b l1).push (jh c l2)
abbrev zH3(h:bd)(b c:Bool)(l1 l2:ap):bd:=(zH2 h b c l1 l2).push { cls:=.type "tuple",data:=.seq #[.ref h.objs.size,.ref (zH1 h b l1).objs.size] }
abbrev zH4(h:bd)(b c:Bool)(l1 l2:ap):bd:=(zH3 h b c l1 l2).push { cls:=.type "tuple",data:=.seq #[.none,.none] }
abbrev zH5(h:bd)(b c:Bool)(l1 l2:ap):bd:=(zH4 h b c l1 l2).push { cls:=.type "zip",data:=.fields #[.none,.bool false,.bool false,.ref (zH2 h b c l1 l2).objs.size,.ref (zH3 h b c l1 l2).objs.size] }
theorem vY(b c:Bool)(l1 l2:ap)(xs ys:Array as) :
  Meets (Builtin.«zip.__new__» ⟨[.type "zip",.ref l1,.ref l2],[]⟩) (λ_ R s=>cE b s.heap l1 xs/\cE c s.heap l2 ys/\R (.ok (.ret (.ref (zH4 s.heap b c l1 l2).objs.size))) { s with heap:=zH5 s.heap b c l1 l2 }) :=
 .of_wp λprog w A R s h=>by
  obtain⟨k,g,d,tk,os⟩:=s;obtain⟨a,f,h⟩:=h;have l:=sub_zip;have i:cE b (Shared.heap ⟨k,g,d,tk,os⟩) l1 xs:=a;have j:cE c (Shared.heap ⟨k.push (jh b l1),g,d,tk,os⟩) l2 ys:=cE.at f λo e=>IH _ e
  wp_walk using fT i,fT j
  exact⟨_,rfl,h⟩
section
variable {prog:q3}{w:zb}{A:Around}{E:as->ba->Prop}{s:ba}
theorem v4{b c:Bool}{l1 l2:ap}{xs ys:Array as}{Q:as->ba->Prop}(a:cE b s.heap l1 xs)(d:cE c s.heap l2 ys)
  (h : ∀h',QB h' (s.heap.objs.size+4) (s.heap.objs.size+2) (s.heap.objs.size+3) .none->K5 h' (s.heap.objs.size+2) (.ref s.heap.objs.size) (.ref (s.heap.objs.size+1))->K5 h' (s.heap.objs.size+3) .none .none ->
   cn b h' s.heap.objs.size l1 0->cn c h' (s.heap.objs.size+1) l2 0->(∀c o,s.heap.get? c=some o->h'.get? c=some o)->Q (.ref (s.heap.objs.size+4)) { s with heap:=h' }) :
  kw (qb prog w) A (call (.type "zip") [.ref l1,.ref l2]) Q E s:=by
 refine callType_new F.called_zip (by decide) (F.typeCall_zip_2 _ _) (F.newCall_zip_2 _ _) (λobj=>F.args_object_init_3 obj _ _) F.entry_zip_new (vY b c l1 l2 xs ys) ⟨a,d,?_⟩;have z1:(zH1 s.heap b l1).objs.size=s.heap.objs.size+1:=JA ..;have z2:(zH2 s.heap b c l1 l2).objs.size=s.heap.objs.size+2:=by rw[JA,z1]
 have e:(zH3 s.heap b c l1 l2).objs.size=s.heap.objs.size+3:=by rw[JA,z2]
 have g:(zH4 s.heap b c l1 l2).objs.size=s.heap.objs.size+4:=by rw[JA,e]
 have f:(zH5 s.heap b c l1 l2).get? (zH4 s.heap b c l1 l2).objs.size=some _:=IW _ rfl;have i:(zH5 s.heap b c l1 l2).get? (zH3 s.heap b c l1 l2).objs.size=some _:=IH _ (IW _ rfl);have g3:(zH5 s.heap b c l1 l2).get? (zH2 s.heap b c l1 l2).objs.size=some _:=IH _ (IH _ (IW _ rfl));have g2:(zH5 s.heap b c l1 l2).get? (zH1 s.heap b l1).objs.size=some _:=IH _ (IH _ (IH _ (IW _ rfl)));have g1:(zH5 s.heap b c l1 l2).get? s.heap.objs.size=some _:=IH _ (IH _ (IH _ (IH _ (IW _ rfl))));show _/\_;rw[z2,e,g] at f;rw[z1,z2] at g3;rw[e] at i;rw[z1] at g2;rw[g];exact⟨⟨_,f,rfl⟩,h _ f g3 i (ku g1) (ku g2) λc o x=>IH _ (IH _ (IH _ (IH _ (IH _ x))))⟩
abbrev B7(z TO i1 i2:ap)(h h':bd):Prop:=∀c o,c≠z->c≠TO->c≠i1->c≠i2->h.get? c=some o->h'.get? c=some o
theorem vZ{b c:Bool}{z TI TO i1 i2 l1 l2:ap}{k:Nat}{xs ys:Array as}{x y p q:as}{Q:Option as->ba->Prop}(D:Zk z TI TO i1 i2 l1 l2)
  (hz:QB s.heap z TI TO .none) (m:K5 s.heap TI (.ref i1) (.ref i2)) (n:K5 s.heap TO p q) (h1:cn b s.heap i1 l1 k) (h2:cn c s.heap i2 l2 k) (r:cE b s.heap l1 xs) (t:cE c s.heap l2 ys) (hx:xs[k]? = some x) (N:ys[k]? = some y)
  (O:∀h',QB h' z TI TO (K4 s.heap.objs.size)->K5 h' TO x y->cn b h' i1 l1 (k+1)->cn c h' i2 l2 (k+1)->K5 h' s.heap.objs.size x y->B7 z TO i1 i2 s.heap h'->Q (some (.ref s.heap.objs.size)) { s with heap:=h' }) :
  kw (qb prog w) A (Qo (.ref z)) Q E s:=by
 have I:s.TypeIs (.ref z) "zip" := ⟨_,hz,rfl⟩
 unfold Qo;refine jj (Qf (z6 (name:=Str.ofString "__next__") I F.slot_zip_next (z4 F.slot_zip_next I F.entry_zip_next ?_ (F.args_zip_next_1 _))));show kw _ _ (Zu (.ref z) 2 >>= _) _ _ _;refine jj (Kz hz rfl (x:=.bool false) rfl ?_);show kw _ _ (Zu (.ref z) 3 >>= _) _ _ _;refine jj (Kz hz rfl (x:=.ref TI) rfl (jj (Ky m rfl ?_)));show kw _ _ (Builtin.SmallTypes.ownedTupleIsFree (.ref z) >>= _) _ _ _;refine jj ?_;unfold Builtin.SmallTypes.ownedTupleIsFree;refine jj (Kz hz rfl (x:=.none) rfl (ke ?_));simp only[if_true];refine jj (KO (jj (Kz hz rfl (x:=.ref TO) rfl (jj (KY hz (by simp) λP d sa=>?_)))));replace d:QB P z TI TO .ellipsis:=d;refine jj ?_;simp only[List.zipIdx_cons,List.zipIdx_nil,Kr,Kl];refine jj (jj (QL ?_));show kw _ _ (Builtin.SmallTypes.nextOf (.ref i1) >>= _) _ _ _;refine jj (gY (h1.at λo e=>sa.extBut _ o D.i1z e) (r.at λo e=>sa.extBut _ o D.l1z e) hx λR u f=>ke ?_);have tb:K5 R TO p q:=f.extBut _ _ D.TOi1 (sa.extBut _ _ D.TOz n);refine jj (Ky tb rfl (jj (QD tb λhc tc sc=>?_)));replace tc:K5 hc TO x q:=tc;refine jj (K9 (ke ?_));refine jj (jj (QL ?_));show kw _ _ (Builtin.SmallTypes.nextOf (.ref i2) >>= _) _ _ _;refine jj (gY (h2.at λo e=>sc.extBut _ o D.TOi2.symm (f.extBut _ o D.i12.symm (sa.extBut _ o D.i2z e))) (t.at λo e=>sc.extBut _ o D.l2TO (f.extBut _ o D.l2i1 (sa.extBut _ o D.l2z e))) N λhd v g=>ke ?_);have J:K5 hd TO x q:=g.extBut _ _ D.TOi2 tc;refine jj (Ky J rfl (jj (QD J λa te h=>?_)));replace te:K5 a TO x y:=te;refine jj (K9 (ke (ke ?_)));refine jj (Ky te rfl (jj (Zb ?_)));have sz:a.objs.size=s.heap.objs.size:=by rw[h.1,g.1,sc.1,f.1,sa.1]
 have K:QB a z TI TO .ellipsis:=h.extBut _ _ D.TOz.symm (g.extBut _ _ D.i2z.symm (sc.extBut _ _ D.TOz.symm (f.extBut _ _ D.i1z.symm d)));have S:B7 z TO i1 i2 s.heap a:=λc o c1 c2 c3 B e=>h.extBut _ _ c2 (g.extBut _ _ B (sc.extBut _ _ c2 (f.extBut _ _ c3 (sa.extBut _ _ c1 e))));have C:cn b a i1 l1 (k+1):=u.at λo e=>h.extBut _ o D.TOi1.symm (g.extBut _ o D.i12 (sc.extBut _ o D.TOi1.symm e));have G:cn c a i2 l2 (k+1):=v.at λo e=>h.extBut _ o D.TOi2.symm e;have i:z<a.objs.size:=IX K;show kw _ _ (Builtin.SmallTypes.ownedTupleHandOut (.ref z) (.ref a.objs.size) >>= _) _ _ _;refine jj ?_;unfold Builtin.SmallTypes.ownedTupleHandOut;have T:QB (a.push { cls:=.type "tuple",data:=.seq #[x,y] }) z TI TO .ellipsis:=IH _ K;refine jj (KY T (by simp) λhg H L=>?_);replace H:QB hg z TI TO (K4 a.objs.size):=H;refine KY H (by simp) λj l M=>?_;replace l:QB j z TI TO (K4 a.objs.size):=l;have up:∀c o,c≠z->a.get? c=some o->j.get? c=some o:=λc o c1 e=>M.extBut _ _ c1 (L.extBut _ _ c1 (IH _ e));have th:K5 j a.objs.size x y:=M.extBut _ _ (JR i) (L.extBut _ _ (JR i) (IW _ rfl));rw[sz] at l th;refine ke ⟨_,rfl,ke ?_⟩;show Q (some (.ref a.objs.size)) _;rw[sz];exact O j l (up _ _ D.TOz te) (C.at λo e=>up _ o D.i1z e) (G.at λo e=>up _ o D.i2z e) th λc o c1 c2 c3 B e=>up c o c1 (S c o c1 c2 c3 B e)
theorem zI{b c:Bool}{z TI TO i1 i2 l1 l2:ap}{k:Nat}{xs ys:Array as}{p q:as}{Q:Option as->ba->Prop}(B:A.handled=none)(D:Zk z TI TO i1 i2 l1 l2)
  (hz:QB s.heap z TI TO .none) (l:K5 s.heap TI (.ref i1) (.ref i2)) (m:K5 s.heap TO p q) (h1:cn b s.heap i1 l1 k) (h2:cn c s.heap i2 l2 k) (i:cE b s.heap l1 xs) (n:cE c s.heap l2 ys) (j:xs[k]? = none\/ys[k]? = none)
  (C:∀h',B7 z TO i1 i2 s.heap h'->Q none { s with heap:=h' }):kw (qb prog w) A (Qo (.ref z)) Q E s:=by
 have G:s.TypeIs (.ref z) "zip" := ⟨_,hz,rfl⟩
 unfold Qo;refine jj (Qf (z6 (name:=Str.ofString "__next__") G F.slot_zip_next (z4 F.slot_zip_next G F.entry_zip_next ?_ (F.args_zip_next_1 _))));show kw _ _ (Zu (.ref z) 2 >>= _) _ _ _;refine jj (Kz hz rfl (x:=.bool false) rfl ?_);show kw _ _ (Zu (.ref z) 3 >>= _) _ _ _;refine jj (Kz hz rfl (x:=.ref TI) rfl (jj (Ky l rfl ?_)));show kw _ _ (Builtin.SmallTypes.ownedTupleIsFree (.ref z) >>= _) _ _ _;refine jj ?_;unfold Builtin.SmallTypes.ownedTupleIsFree;refine jj (Kz hz rfl (x:=.none) rfl (ke ?_));simp only[if_true];refine jj (KO (jj (Kz hz rfl (x:=.ref TO) rfl (jj (KY hz (by simp) λL f sa=>?_)))));replace f:QB L z TI TO .ellipsis:=f;refine jj ?_;simp only[List.zipIdx_cons,List.zipIdx_nil,Kr,Kl];refine jj (jj (QL ?_));show kw _ _ (Builtin.SmallTypes.nextOf (.ref i1) >>= _) _ _ _;cases hx:xs[k]? with
 | none =>
  refine jj (ff B (h1.at λo e=>sa.extBut _ o D.i1z e) (i.at λo e=>sa.extBut _ o D.l1z e) hx λr e g t=>?_);obtain⟨u,a,d⟩:=t;have H:QB r z TI TO .ellipsis:=g _ _ D.i1z.symm f;have v:e≠z:=λw'=>by subst w';rw[H] at a;cases a;simp at d
  exact KY H (by simp) λhc _ sc=>jj (KT (T := "StopIteration") (b:=true) ⟨u,sc.extBut _ _ v a,d⟩ Zh (ke (C hc λc o c1 _ c3 _ x=>sc.extBut _ _ c1 (g _ _ c3 (sa.extBut _ _ c1 x)))))
 | some x =>
  have M:ys[k]? = none:=by rcases j with h|h;rw[hx] at h;cases h;exact h
  refine jj (gY (h1.at λo e=>sa.extBut _ o D.i1z e) (i.at λo e=>sa.extBut _ o D.l1z e) hx λr N g=>ke ?_);have tb:K5 r TO p q:=g.extBut _ _ D.TOi1 (sa.extBut _ _ D.TOz m);refine jj (Ky tb rfl (jj (QD tb λhc tc sc=>?_)));refine jj (K9 (ke ?_));refine jj (jj (QL ?_));show kw _ _ (Builtin.SmallTypes.nextOf (.ref i2) >>= _) _ _ _;refine jj (ff B (h2.at λo e=>sc.extBut _ o D.TOi2.symm (g.extBut _ o D.i12.symm (sa.extBut _ o D.i2z e))) (n.at λo e=>sc.extBut _ o D.l2TO (g.extBut _ o D.l2i1 (sa.extBut _ o D.l2z e))) M λhd e I y=>?_);obtain⟨u,a,d⟩:=y;have J:QB hd z TI TO .ellipsis:=I _ _ D.i2z.symm (sc.extBut _ _ D.TOz.symm (g.extBut _ _ D.i1z.symm f));have v:e≠z:=λw'=>by subst w';rw[J] at a;cases a;simp at d
  exact KY J (by simp) λO _ K=>jj (KT (T := "StopIteration") (b:=true) ⟨u,K.extBut _ _ v a,d⟩ Zh (ke (C O λc o c1 c2 c3 P x=>K.extBut _ _ c1 (I _ _ P (sc.extBut _ _ c2 (g.extBut _ _ c3 (sa.extBut _ _ c1 x)))))))
end
theorem aM{X:Cx}{pins:List (ap×Obj)}{σ:St}{H:Hp}{s:ba}{b:Bool}{a c:ap}{xs:List V}(I:Inv X pins σ H s)(h:SqB X.K H b a xs)(f:hV X pins H c):a≠c:=by
 obtain⟨g,i,j,d,k,l⟩:=f;have key:(∃o,H a=some o)\/∃o,X.K.lookup a=some o:=by
  cases b with
  | false =>
   rcases h with (h|⟨o,h⟩)|⟨o,_,_,hk,_⟩
   exact .inl ⟨_,h⟩;exact .inl ⟨_,h⟩;exact .inr ⟨o,hk⟩
  | true =>
   rcases h with (h|⟨o,h⟩)|⟨o,_,_,hk,_⟩
   exact .inl ⟨_,h⟩;exact .inl ⟨_,h⟩;exact .inr ⟨o,hk⟩
 rintro rfl;rcases key with⟨o,e⟩|⟨o,e⟩
 rw[g] at e;cases e;have q:=I.ok.mod.kin a o e;rcases d with d|d;exact I.ok.noex a o q d;exact absurd (IY (IX q) (IQ I.ok.bsz d)) (JL _)
def Itz(K:ca)(b c:Bool)(l1 l2:ap):It :=
  ⟨λi H=>∃xs ys x y,SqB K H b l1 xs/\SqB K H c l2 ys/\xs[i]? = some x/\ys[i]? = some y,
   λi H v H'=>∃p x y,v=.ref p/\H p=none/\H'=upd H p (.tup [x,y])/\(∀xs,SqB K H b l1 xs->xs[i]? = some x)/\∀ys,SqB K H c l2 ys->ys[i]? = some y,
   λi H=>∃xs ys,SqB K H b l1 xs/\SqB K H c l2 ys/\(xs.length<=i\/ys.length<=i)⟩
structure ZAp(z TI TO i1 i2:ap):Prop where
 TIz:TI≠z
 TOz:TO≠z
 i1z:i1≠z
 i2z:i2≠z
 TITO:TI≠TO
 TIi1:TI≠i1
 TIi2:TI≠i2
 TOi1:TO≠i1
 TOi2:TO≠i2
 i12:i1≠i2
theorem v8{P:q3}{w:zb}{K:ca}{es:List bb}{kk:Nat}{pos:Pos}(b c:Bool)(z TI TO i1 i2 l1 l2:ap)(a:ZAp z TI TO i1 i2) :
  zD P w K (.Tuple es kk pos) (Itz K b c l1 l2) [z,TI,TO,i1,i2] z
   (λi h=>QB h z TI TO .none/\K5 h TI (.ref i1) (.ref i2)/\(∃p q,K5 h TO p q)/\cn b h i1 l1 i/\cn c h i2 l2 i) where
 mem:=by simp
 obj := λi h st d hd=>by
  obtain⟨hz,l,⟨p,q,m⟩,h1,h2⟩:=st;obtain⟨V,e1,d1⟩:=h1.obj;obtain⟨Y,e2,d2⟩:=h2.obj;simp only[IR,Jk,or_false] at hd;rcases hd with rfl|rfl|rfl|rfl|rfl;exact⟨_,hz,λv e=>by
   have e':Data.fields _=Data.cell v:=e;cases e'⟩
  exact⟨_,l,λv e=>by
   have e':Data.seq _ _=Data.cell v:=e;cases e'⟩
  exact⟨_,m,λv e=>by
   have e':Data.seq _ _=Data.cell v:=e;cases e'⟩
  exact⟨V,e1,λv e=>by rw[d1] at e;cases e⟩;exact⟨Y,e2,λv e=>by rw[d2] at e;cases e⟩
 keep:=λi h h' st k=>by
  obtain⟨hz,l,⟨p,q,m⟩,h1,h2⟩:=st;exact⟨k z (by simp) _ hz,k TI (by simp) _ l,⟨p,q,k TO (by simp) _ m⟩,h1.at λo e=>k i1 (by simp) o e,h2.at λo e=>k i2 (by simp) o e⟩
 item := by
  intro X R hw hK hc i pins s σ H E I j st hg;subst R hw hK;obtain⟨xs,ys,x,y,f,g,hx,Z⟩:=hg;obtain⟨hz,l,⟨p,q,m⟩,h1,h2⟩:=st;obtain⟨r,B,C⟩:=I.seq f;obtain⟨t,F,G⟩:=I.seq g;obtain⟨u,hu,ru⟩:=B.get hx;obtain⟨v,hv,rv⟩:=F.get Z;have D:Zk z TI TO i1 i2 l1 l2:=⟨a.TIz,a.TOz,a.i1z,a.i2z,a.TITO,a.TIi1,a.TIi2,a.TOi1,a.TOi2,a.i12,
   aM I f (j z (by simp)),aM I f (j TO (by simp)),aM I f (j i1 (by simp)),aM I f (j i2 (by simp)),aM I g (j z (by simp)),aM I g (j TO (by simp)),aM I g (j i1 (by simp)),aM I g (j i2 (by simp))⟩
  refine vZ D hz l m h1 h2 C G (x:=u) (y:=v) (by simpa using hu) (by simpa using hv) λh' a1 a2 a3 a4 a5 hk=>⟨_,rfl,Zm a1 λM S n=>?_⟩
  have N:z<s.heap.objs.size:=IX hz;have I2:Inv X pins σ H { s with heap:=M }:=I.turnedN (t':=s.toks) j λd o hd e=>n.extBut d o (λw'=>hd (by simp[w'])) (hk d o (λw'=>hd (by simp[w'])) (λw'=>hd (by simp[w'])) (λw'=>hd (by simp[w'])) (λw'=>hd (by simp[w'])) e);have g2:M.get? s.heap.objs.size=some { cls:=.type "tuple",data:=.seq #[u,v] }:=n.extBut _ _ (JR N) a5;have hn:H s.heap.objs.size=none:=I.hok.fresh (IS _);refine⟨.ref s.heap.objs.size,upd H s.heap.objs.size (.tup [x,y]),I2.track (T:=s.heap.objs.size) (o:=.tup [x,y]) (I.fpOk (IS _) hn) ?_,rfl,?_,⟨S,?_,⟨u,v,?_⟩,?_,?_⟩,λd hd=>?_⟩;exact⟨by show 2<=sizeLine;decide,[u,v],.cons ru (.cons rv .nil),_,g2,rfl,⟨_,rfl⟩,rfl⟩;exact⟨_,x,y,rfl,hn,rfl,λzs J=>by rw[I.seq_inj J f];exact hx,λzs J=>by rw[I.seq_inj J g];exact Z⟩;exact n.extBut _ _ a.TIz (hk _ _ a.TIz a.TITO a.TIi1 a.TIi2 l);exact n.extBut _ _ a.TOz a2;exact a3.at λo e=>n.extBut _ o a.i1z e;exact a4.at λo e=>n.extBut _ o a.i2z e;have U:d<s.heap.objs.size:=by obtain⟨V,e1,_⟩:=h1.obj;obtain⟨Y,e2,_⟩:=h2.obj;simp only[IR,Jk,or_false] at hd;rcases hd with rfl|rfl|rfl|rfl|rfl;exact N;exact IX l;exact IX m;exact IX e1;exact IX e2
  rw[al (Jd U)];exact(j d hd).1
 done:=by
  intro X R hw hK hc i pins s σ H E I j st hg;subst R hw hK;obtain⟨xs,ys,f,g,O⟩:=hg;obtain⟨hz,l,⟨p,q,m⟩,h1,h2⟩:=st;obtain⟨r,B,C⟩:=I.seq f;obtain⟨t,F,G⟩:=I.seq g;have D:Zk z TI TO i1 i2 l1 l2:=⟨a.TIz,a.TOz,a.i1z,a.i2z,a.TITO,a.TIi1,a.TIi2,a.TOi1,a.TOi2,a.i12,
   aM I f (j z (by simp)),aM I f (j TO (by simp)),aM I f (j i1 (by simp)),aM I f (j i2 (by simp)),aM I g (j z (by simp)),aM I g (j TO (by simp)),aM I g (j i1 (by simp)),aM I g (j i2 (by simp))⟩
  have a6:=B.length;have a7:=F.length;have L:r.toArray[i]? = none\/t.toArray[i]? = none:=by rcases O with h|h;exact .inl (by simp;omega);exact .inr (by simp;omega)
  refine zI (I.ok.hd hc) D hz l m h1 h2 C G L λh' hk=>⟨rfl,?_⟩
  exact I.turnedN (t':=s.toks) j λd o hd e=>hk d o (λw'=>hd (by simp[w'])) (λw'=>hd (by simp[w'])) (λw'=>hd (by simp[w'])) (λw'=>hd (by simp[w'])) e
 self:=λA i s Q E st h=>Qr st.1 h
section
variable {X:Cx}
def E4(K:ca)(b c:Bool)(ta:TA):TI:=λσ H R=>ta σ H λvs H1=>∃l1 l2 xs ys,vs=[.ref l1,.ref l2]/\SqB K H1 b l1 xs/\SqB K H1 c l2 ys/\R (Itz K b c l1 l2) H1
theorem Di(b c:Bool){es:List bb}{y:Nat}{a:Pos}{e1 e2:bb}{ta:TA}{p pos:Pos}(hg:Gl X "zip")(A:X.mg "zip" = none)(i:KJ "zip" = some (.type "zip"))(B:PA X [e1,e2] ta)
  (hs:kq [e1,e2] X.env=[(false,eval e1 X.env),(false,eval e2 X.env)]:=by rfl) (e:kq [e2] X.env=[(false,eval e2 X.env)]:=by rfl) :
  PI X (.Tuple es y a) (.Call (.Name "zip" p) [e1,e2] [] pos) (E4 X.K b c ta):=by
 intro pins s σ H R I h;refine Call_ (fR I hg A i (PyProof.Rows.callWith_type1 (thn (B pos pins s σ H _ I h) λus s1 j=>?_) (by rw[hs,e]) (by rw[e];rfl)));obtain⟨vs,H1,f,C,D⟩:=j;obtain⟨l1,l2,xs,ys,rfl,k,l,q⟩:=D;obtain⟨u,v,rfl,E,rv⟩:=sJ C;cases (show u=Value.ref l1 from E);cases (show v=Value.ref l2 from rv);obtain⟨w,F,m⟩:=f.seq k;obtain⟨x,G,o⟩:=f.seq l;refine v4 m o λh' hz r t h1 h2 hk=>Qr hz ?_;have J:Inv X pins σ H1 { s1 with heap:=h' }:=f.kept (t':=s1.toks) hk;have L:ZAp (s1.heap.objs.size+4) (s1.heap.objs.size+2) (s1.heap.objs.size+3) s1.heap.objs.size (s1.heap.objs.size+1):=by refine⟨?_,?_,?_,?_,?_,?_,?_,?_,?_,?_⟩ <;> (intro z;exact absurd (congrArg (λ(n:Nat)=>n - s1.heap.objs.size) z) (by simp))
 refine⟨s1.heap.objs.size+4,[s1.heap.objs.size+4,s1.heap.objs.size+2,s1.heap.objs.size+3,s1.heap.objs.size,s1.heap.objs.size+1],_,_,H1,rfl,J,v8 b c _ _ _ _ _ l1 l2 L,⟨hz,r,⟨_,_,t⟩,h1,h2⟩,λd hd=>?_,q⟩;have g:s1.heap.objs.size<=d:=by simp only[IR,Jk,or_false] at hd;rcases hd with rfl|rfl|rfl|rfl|rfl;exact JP _ _;exact JP _ _;exact JP _ _;exact IS _;exact JP _ _
 exact f.fpOk g (f.hok.fresh g)
end
def SnL(K:ca)(N:ap->Prop)(H:Hp)(a:ap)(xs:List V):Prop :=
 (Rd H a (.lst xs)/\¬N a)\/∃(o:Obj) (b:Array as) (n:Nat),K.lookup a=some o/\o.cls=.type "list" /\ o.dict=none/\o.data=.seq b n/\b.size<=sizeLine/\aH xs b.toList
def SnT(K:ca)(N:ap->Prop)(H:Hp)(a:ap)(xs:List V):Prop :=
 (Rd H a (.tup xs)/\¬N a)\/∃(o:Obj) (b:Array as) (n:Nat),K.lookup a=some o/\(o.cls=.type "tuple" /\ o.dict=none)/\o.data=.seq b n/\b.size<=sizeLine/\aH xs b.toList
def aO(N:ap->Prop)(H H':Hp):Prop:=∀b o,¬N b->H b=some o->H' b=some o
theorem aO.refl{N:ap->Prop}{H:Hp}:aO N H H:=λ_ _ _ e=>e
theorem aO.trans{N:ap->Prop}{H H1 d:Hp}(a:aO N H H1)(b:aO N H1 d):aO N H d:=λc o n e=>b c o n (a c o n e)
theorem aO.own{N:ap->Prop}{H:Hp}{p:ap}{o:HO}(h:N p):aO N H (upd H p o):=λb u n e=>by
 have q:b≠p:=λz=>n (by rw[z];exact h);rw[al q];exact e
theorem aO.mono{N M:ap->Prop}{H H':Hp}(a:aO N H H')(h:∀b,N b->M b):aO M H H':=λb o n e=>a b o (λz=>n (h b z)) e
theorem aO.same{N:ap->Prop}{H H':Hp}(a:aS H H'):aO N H H':=λb o _ e=>a b o e
abbrev N0:ap->Prop:=λ_=>False
abbrev N1(d:ap):ap->Prop:=λb=>b=d
theorem aO.none{H H':Hp}(a:aO N0 H H'):aS H H':=λb o e=>a b o (λz=>z) e
section
variable {K:ca}{N M:ap->Prop}{H H':Hp}{a:ap}{xs:List V}
theorem SnL.of(h:H a=some (.lst xs))(n:¬N a):SnL K N H a xs:=.inl ⟨.inl h,n⟩
theorem SnT.of(h:H a=some (.tup xs))(n:¬N a):SnT K N H a xs:=.inl ⟨.inl h,n⟩
theorem SnL.sq(h:SnL K N H a xs):SqL K H a xs:=by rcases h with⟨h,_⟩|h;exact .inl h;exact .inr h
theorem SnT.sq(h:SnT K N H a xs):SqT K H a xs:=by rcases h with⟨h,_⟩|h;exact .inl h;exact .inr h
theorem SnL.keep(h:SnL K N H a xs)(k:aO N H H'):SnL K N H' a xs:=by rcases h with⟨h|⟨o,h⟩,n⟩|h;exact .inl ⟨.inl (k _ _ n h),n⟩;exact .inl ⟨.inr ⟨o,k _ _ n h⟩,n⟩;exact .inr h
theorem SnT.keep(h:SnT K N H a xs)(k:aO N H H'):SnT K N H' a xs:=by rcases h with⟨h|⟨o,h⟩,n⟩|h;exact .inl ⟨.inl (k _ _ n h),n⟩;exact .inl ⟨.inr ⟨o,k _ _ n h⟩,n⟩;exact .inr h
theorem SnL.to(h:SnL K N H a xs)(m:∀b o,H b=some o->M b->N b):SnL K M H a xs:=by rcases h with⟨h|⟨o,h⟩,n⟩|h;exact .inl ⟨.inl h,λz=>n (m _ _ h z)⟩;exact .inl ⟨.inr ⟨o,h⟩,λz=>n (m _ _ h z)⟩;exact .inr h
theorem SnT.to(h:SnT K N H a xs)(m:∀b o,H b=some o->M b->N b):SnT K M H a xs:=by rcases h with⟨h|⟨o,h⟩,n⟩|h;exact .inl ⟨.inl h,λz=>n (m _ _ h z)⟩;exact .inl ⟨.inr ⟨o,h⟩,λz=>n (m _ _ h z)⟩;exact .inr h
end
mutual
inductive DN (K:ca) (N:ap->Prop) (H:Hp):V->ab->Prop
 | non:DN K N H .non .none
 | bl (b:Bool):DN K N H (.bl b) (.bool b)
 | int (i:Int):DN K N H (.int i) (.int i)
 | str (x:bx):DN K N H (.str x) (.str x)
 | lst {a:ap}{xs:List V}{ds:List ab}:SnL K N H a xs->DNs K N H xs ds->DN K N H (.ref a) (.list ds)
 | tup {a:ap}{xs:List V}{ds:List ab}:SnT K N H a xs->DNs K N H xs ds->DN K N H (.ref a) (.tuple ds)
 | dct {a:ap}{es:List (aL×ap×V)}{kvs:List (aL×ab)}:¬N a->H a=some (.ext (ce a es))->DNs K N H (es.map λp=>V.ref p.2.1) (kvs.map λp=>dD p.1)->DNs K N H (es.map λp=>p.2.2) (kvs.map λp=>p.2)->es.map (λp=>p.1)=kvs.map (λp=>p.1)->DN K N H (.ref a) (eD kvs)
 | idc {a:ap}{x:bx}{v:V}{d:ab}:¬N a->H a=some (.dK [(.inr x,v)])->DN K N H v d->DN K N H (.ref a) (qt x d)
 | dsk {a b C dx:ap}{x:bx}{v:V}{d:ab}:¬N a->¬N b->H a=some (.ins C dx [("towns",.ref b)])->H b=some (.dK [(.inr x,v)])->DN K N H v d->DN K N H (.ref a) (jK C x d)
 | fz {v:V}{ds:List ab}:DN K N H v (.list ds)->DN K N H v (fzD ds)
inductive DNs (K:ca) (N:ap->Prop) (H:Hp):List V->List ab->Prop
 | nil:DNs K N H [] []
 | cons {x:V}{xs:List V}{d:ab}{ds:List ab}:DN K N H x d->DNs K N H xs ds->DNs K N H (x::xs) (d::ds)
end
section
variable {K:ca}{N M:ap->Prop}{H H':Hp}
theorem DN.dv{v:V}{d:ab}(h:DN K N H v d):DV K H v d :=
  DN.rec (motive_1:=λv d _=>DV K H v d) (motive_2:=λv d _=>DVs K H v d)
  .non (λb=>.bl b) (λi=>.int i)
   (λx=>.str x)
  (λh _ q=>.lst h.sq q) (λh _ q=>.tup h.sq q)
  (λ_ h _ _ e q r=>.dct h q r e) (λ_ h _ q=>.idc h q) (λ_ _ h g _ q=>.dsk h g q) (λ_ h=>.fz h) .nil (λ_ _ h q=>.cons h q) h
theorem DNs.dv{v:List V}{d:List ab}(h:DNs K N H v d):DVs K H v d :=
  DNs.rec (motive_1:=λv d _=>DV K H v d) (motive_2:=λv d _=>DVs K H v d)
  .non (λb=>.bl b) (λi=>.int i)
   (λx=>.str x)
  (λh _ q=>.lst h.sq q) (λh _ q=>.tup h.sq q)
  (λ_ h _ _ e q r=>.dct h q r e) (λ_ h _ q=>.idc h q) (λ_ _ h g _ q=>.dsk h g q) (λ_ h=>.fz h) .nil (λ_ _ h q=>.cons h q) h
theorem DN.keep(k:aO N H H'){v:V}{d:ab}(h:DN K N H v d):DN K N H' v d :=
  DN.rec (motive_1:=λv d _=>DN K N H' v d) (motive_2:=λv d _=>DNs K N H' v d)
  .non (λb=>.bl b) (λi=>.int i)
   (λx=>.str x)
  (λh _ q=>.lst (h.keep k) q) (λh _ q=>.tup (h.keep k) q)
  (λn h _ _ e q r=>.dct n (k _ _ n h) q r e) (λn h _ q=>.idc n (k _ _ n h) q) (λn a h g _ q=>.dsk n a (k _ _ n h) (k _ _ a g) q) (λ_ h=>.fz h) .nil (λ_ _ h q=>.cons h q) h
theorem DNs.keep(k:aO N H H'){v:List V}{d:List ab}(h:DNs K N H v d):DNs K N H' v d :=
  DNs.rec (motive_1:=λv d _=>DN K N H' v d) (motive_2:=λv d _=>DNs K N H' v d)
  .non (λb=>.bl b) (λi=>.int i)
   (λx=>.str x)
  (λh _ q=>.lst (h.keep k) q) (λh _ q=>.tup (h.keep k) q)
  (λn h _ _ e q r=>.dct n (k _ _ n h) q r e) (λn h _ q=>.idc n (k _ _ n h) q) (λn a h g _ q=>.dsk n a (k _ _ n h) (k _ _ a g) q) (λ_ h=>.fz h) .nil (λ_ _ h q=>.cons h q) h
theorem DN.to(m:∀b o,H b=some o->M b->N b){v:V}{d:ab}(h:DN K N H v d):DN K M H v d :=
  DN.rec (motive_1:=λv d _=>DN K M H v d) (motive_2:=λv d _=>DNs K M H v d)
  .non (λb=>.bl b) (λi=>.int i)
   (λx=>.str x)
  (λh _ q=>.lst (h.to m) q) (λh _ q=>.tup (h.to m) q)
  (λn h _ _ e q r=>.dct (λz=>n (m _ _ h z)) h q r e) (λn h _ q=>.idc (λz=>n (m _ _ h z)) h q) (λn a h g _ q=>.dsk (λz=>n (m _ _ h z)) (λz=>a (m _ _ g z)) h g q) (λ_ h=>.fz h) .nil (λ_ _ h q=>.cons h q) h
theorem DNs.to(m:∀b o,H b=some o->M b->N b){v:List V}{d:List ab}(h:DNs K N H v d):DNs K M H v d :=
  DNs.rec (motive_1:=λv d _=>DN K M H v d) (motive_2:=λv d _=>DNs K M H v d)
  .non (λb=>.bl b) (λi=>.int i)
   (λx=>.str x)
  (λh _ q=>.lst (h.to m) q) (λh _ q=>.tup (h.to m) q)
  (λn h _ _ e q r=>.dct (λz=>n (m _ _ h z)) h q r e) (λn h _ q=>.idc (λz=>n (m _ _ h z)) h q) (λn a h g _ q=>.dsk (λz=>n (m _ _ h z)) (λz=>a (m _ _ g z)) h g q) (λ_ h=>.fz h) .nil (λ_ _ h q=>.cons h q) h
theorem DNs.ind{C:List V->List ab->Prop}(n:C [] [])(c:∀{x:V}{xs:List V}{d:ab}{ds:List ab},DN K N H x d->DNs K N H xs ds->C xs ds->C (x::xs) (d::ds)){v:List V}{d:List ab}(h:DNs K N H v d):C v d :=
  DNs.rec (motive_1:=λ_ _ _=>True) (motive_2:=λv d _=>C v d) trivial (λ_=>trivial) (λ_=>trivial)
   (λ_=>trivial)
  (λ_ _ _=>trivial) (λ_ _ _=>trivial)
  (λ_ _ _ _ _ _ _=>trivial) (λ_ _ _ _=>trivial) (λ_ _ _ _ _ _=>trivial) (λ_ _=>trivial) n (λh q _ i=>c h q i) h
theorem DNs.len{v:List V}{d:List ab}(h:DNs K N H v d):v.length=d.length:=DNs.ind (C:=λv d=>v.length=d.length) rfl (λ_ _ i=>by rw[Jf,Jf,i]) h
theorem DNs.get:∀{v:List V}{d:List ab}{i:Nat}{x:V},DNs K N H v d->v[i]? = some x->∃e,d[i]? = some e/\DN K N H x e
 | _,_,_,_,.nil,e=>by simp at e
 | _,_,0,_,.cons h _,e=>by simp at e;subst e;exact⟨_,rfl,h⟩
 | _,_,i+1,_,.cons _ q,e=>by
  obtain⟨d,h1,h2⟩:=DNs.get (i:=i) q (by simpa using e);exact⟨d,by simpa using h1,h2⟩
theorem DNs.app{v w:List V}{d e:List ab}(h:DNs K N H v d)(q:DNs K N H w e):DNs K N H (v++w) (d++e):=DNs.ind (C:=λv d=>DNs K N H (v++w) (d++e)) q (λh _ i=>.cons h i) h
abbrev pI(ns:List Int):ab:=.list (ns.map .int)
abbrev pT(ns:List Int):ab:=.tuple (ns.map .int)
theorem qF:∀ns:List Int,DNs K N H (ns.map V.int) (ns.map .int)
 | []=>.nil
 | n::r=>.cons (.int n) (qF r)
theorem DNs.ints:∀{ns:List Int}{v:List V},DNs K N H v (ns.map .int)->v=ns.map V.int
 | [],_,.nil=>rfl
 | n::r,_,.cons h q=>by
  cases h;rw[q.ints];rfl
theorem DN.ofI{a:ap}{ns:List Int}(h:SnL K N H a (ns.map V.int)):DN K N H (.ref a) (pI ns):=.lst h (qF ns)
theorem DN.list{v:V}{ds:List ab}(h:DN K N H v (.list ds)):∃a xs,v=.ref a/\SnL K N H a xs/\DNs K N H xs ds:=by cases h with|lst h q=>exact⟨_,_,rfl,h,q⟩
theorem DN.tuple{v:V}{ds:List ab}(h:DN K N H v (.tuple ds)):∃a xs,v=.ref a/\SnT K N H a xs/\DNs K N H xs ds:=by cases h with|tup h q=>exact⟨_,_,rfl,h,q⟩
theorem DN.of2{a:ap}{x y:V}{d e:ab}(s:SnT K N H a [x,y])(h1:DN K N H x d)(h2:DN K N H y e):DN K N H (.ref a) (.tuple [d,e]):=.tup s (.cons h1 (.cons h2 .nil))
abbrev Ha(S:Int×List Int):ab:=.tuple [.int S.1,pT S.2]
end
theorem fh:∀a b:List Int,PyData.eqvAll (a.map .int) (b.map .int)=decide (a=b)
 | [],[]=>by simp[PyData.eqvAll]
 | [],_::_=>by simp[PyData.eqvAll]
 | _::_,[]=>by simp[PyData.eqvAll]
 | x::a,y::b=>by
  rw[IU,IU,PyData.eqvAll,fh a b];simp only[PyData.eqv];by_cases h:x=y <;> by_cases h':a=b <;> simp[h,h']
theorem Gn(a b:List Int):PyData.eqv (pI a) (pI b)=decide (a=b):=by show PyData.eqvAll _ _=_;exact fh a b
theorem Gm(a b:List Int):PyData.eqv (pT a) (pT b)=decide (a=b):=by show PyData.eqvAll _ _=_;exact fh a b
theorem BB(S T:Int×List Int):PyData.eqv (Ha S) (Ha T)=decide (S=T):=by show PyData.eqvAll [.int S.1,pT S.2] [.int T.1,pT T.2]=_;have e1:PyData.eqv (.int S.1) (.int T.1)=(S.1==T.1):=rfl;rw[PyData.eqvAll,PyData.eqvAll,PyData.eqvAll,Gm,e1];by_cases h:S.1=T.1 <;> by_cases h':S.2=T.2 <;> simp[h,h',Prod.ext_iff]
theorem xt(a:List Int):PyData.canLayAll0 (a.map .int)=true:=PySem.W.ke_canLayAll0 a
theorem xV(a:List Int):PyData.depthAll (a.map .int)=0:=PySem.W.ke_depthAll a
theorem Fz(a:List Int):shp (pI a):=by simp[shp,SeqAt.shaped,PyData.canLay0,PyData.depth,xt,xV]
def Cal(P:q3)(w:zb)(K:ca)(mg:bx->Option as)(base:bd)(x:bx)(k:Nat)(sp:Sp):Prop :=
 ∃(f:ap) (fd:kN) (ps:List bx),a9 P w K mg base CX0 k f fd ps sp/\cV K fd ps []/\PySem.W.keepIn K (.ref f)=true/\mg x=some (.ref f)
section
variable {X:Cx}{x:bx}{p pos:Pos}{e:bb}{es:List bb}{t:TA}{k:Nat}{sp:Sp}
theorem lG(C:Cal X.prog X.w X.K X.mg X.base x k sp)(c:b9 k X.A)(hg:Gl X x)(d:PA X (e::es) t)(hd:(x==("__debug__" : bx))=false:=by decide)
  (g:kq (e::es) X.env=(false,eval e X.env)::kq es X.env:=by rfl) (a:(ze pos (kq es X.env)).any (·.1)=false:=by rfl):PE X (.Call (.Name x p) (e::es) [] pos) (nq sp [] E0 t):=by obtain⟨f,fd,ps,F,b,kp,m⟩:=C;exact AQ F c hg m kp b .nil uf d hd g a
end
def bOk(N:List bx)(sc0:KL)(N':List bx)(ix:List (Option Nat))(sc:KL):Bool :=
 decide (sc.kind=.function)&&decide ((sc.names.map (·.1)).Nodup)&&sc.names.all (λy=>!(y.2==.free) || decide (sc0.names.lookup y.1=some .cell) || decide (sc0.names.lookup y.1=some .free))&&decide (ix.length=N'.length) &&
 (ix.zip N').all λq=>match q.1 with
  | none=>true
  | some j=>decide (N[j]? = some q.2)&&decide (sc.names.lookup q.2=some .free)
theorem vD{X:Cx}{N N':List bx}{ix:List (Option Nat)}{sc sc0:KL}(hN:X.N=N)(c:X.env.scope=sc0)(h:bOk N sc0 N' ix sc=true):cF X.N X.env N' ix sc:=by
 rw[<-hN] at h;unfold bOk at h;simp only[Jw,decide_eq_true_eq] at h;obtain⟨⟨⟨⟨h1,h2⟩,h3⟩,d⟩,f⟩:=h;refine⟨h1,h2,λy g k=>?_,d,λi j a=>?_⟩;have q:=List.all_eq_true.mp h3 y g;rw[k] at q;have e:∀z,X.env.kindOf z=sc0.names.lookup z:=λz=>by
  show X.env.scope.names.lookup z=_;rw[c]
 rw[e];simpa using q;have hi:i<ix.length:=(IN.mp a).1;have b:i<N'.length:=by omega
 have l:(some j,N'[i])∈ix.zip N':=by rw[List.mem_iff_getElem?];refine⟨i,?_⟩;rw[List.getElem?_zip_eq_some];exact⟨a,IK b⟩
 have q:=List.all_eq_true.mp f _ l;simp only[Jw,decide_eq_true_eq] at q;exact⟨N'[i],IK b,q.1,q.2⟩
structure Bn(mg:bx->Option as):Prop where
 len:mg "len" = none
 range:mg "range" = none
 min:mg "min" = none
 max:mg "max" = none
 enumerate:mg "enumerate" = none
 zip:mg "zip" = none
 all:mg "all" = none
 any:mg "any" = none
 isinstance:mg "isinstance" = none
 bool:mg "bool" = none
 int:mg "int" = none
 list:mg "list" = none
 tuple:mg "tuple" = none
 sorted:mg "sorted" = none
 str:mg "str" = none
 sum:mg "sum" = none
 abs:mg "abs" = none
 reversed:mg "reversed" = none
 dict:mg "dict" = none
theorem Du{X:Cx}:OpR X (q4 .Is) (λx y H Q=>∃b c,x=.bl b/\y=.bl c/\Q (.bl (b==c)) H):=by intro pins s σ H x y v u Q I a d h;obtain⟨b,c,rfl,rfl,q⟩:=h;cases (show v=Value.bool b from a);cases (show u=Value.bool c from d);exact is_bool ⟨.bl _,H,I,rfl,q⟩
theorem aS.new{H:Hp}{p:ap}{o:HO}(h:H p=none):aS H (upd H p o):=λb u e=>by rw[al (au e h)];exact e
theorem Cal.mk{P:q3}{w:zb}{K:ca}{mg:bx->Option as}{base:bd}{x:bx}{st:Stmt}{f:ap}{fd:kN}{k:Nat}{ps:List bx}{sp:Sp}(F:Fun K x x st f fd)(m:mg x=some (.ref f))(b:cV K fd ps [])
  (G : a9 P w K mg base CX0 k f fd ps sp):Cal P w K mg base x k sp:=⟨f,fd,ps,G,b,F.kp,m⟩
theorem ae:1000000<=sizeLine:=by decide
section
variable {X:Cx}{K:ca}(hK:X.K=K)
include hK
theorem Ie:cZ X (.builtin "len") (λxs H Q=>∃p ys,xs=[.ref p]/\(SqL K H p ys\/SqT K H p ys)/\Q (.int ys.length) H):=by subst hK;exact mT
theorem Ic:SlR X (G0 K):=by subst hK;exact zY
theorem Ib:SlR X (GZ K):=by subst hK;exact CI
theorem F4:OpR X (KN .Add) (CT K):=by subst hK;exact AW
theorem Be(a:X.A.units+64<KD):OpR X (q4 .Eq) (FL K):=by subst hK;exact Dy a
theorem E3(a:X.A.units+64<KD):OpR X (q4 .NotEq) (FG K):=by subst hK;exact Dt a
theorem Ii(a:X.A.units+80<KD):OpR X (q4 .In) (FK K):=by subst hK;exact Dw a
theorem Bd(a:X.A.units+80<KD):OpR X (q4 .NotIn) (nZ K):=by subst hK;exact uo a
theorem kIn:OpR X (q4 .In) (rIn K false):=by subst hK;exact uu
theorem D4:OpR X (q4 .NotIn) (rIn K true):=by subst hK;exact lI
theorem Ch(hc:X.calm=true):cZ X (.builtin "all") (λxs H Q=>∃(a:ap) (bs:List Bool),xs=[.ref a]/\SqL K H a (bs.map V.bl)/\Q (.bl (bs.all id)) H):=by subst hK;exact ye hc
theorem F1:cZ X (.type "list") (λxs H Q=>∃p ys,xs=[.ref p]/\(SqL K H p ys\/SqT K H p ys)/\∀l,H l=none->Q (.ref l) (upd H l (.lst ys))):=by subst hK;exact mR
theorem D3:cZ X (.type "tuple") (λxs H Q=>∃p ys,xs=[.ref p]/\((SqL K H p ys/\∀l,H l=none->Q (.ref l) (upd H l (.tup ys)))\/(SqT K H p ys/\Q (.ref p) H))):=by subst hK;exact kI
variable {tg:bb}
theorem DR{l:bb}{tl:TE}(hl:PE X l tl):PI X tg l (Ea K tl):=by subst hK;exact AF hl
theorem DU(b:Bool){es:List bb}{d:Nat}{c:Pos}{a:bb}{ta:TA}{p pos:Pos}(hg:Gl X "enumerate")(e:X.mg "enumerate" = none)(f:PA X [a] ta)(hs:kq [a] X.env=[(false,eval a X.env)]:=by rfl) :
  PI X (.Tuple es d c) (.Call (.Name "enumerate" p) [a] [] pos) (Eb K b ta):=by subst hK;exact AG b hg e PyProof.Rows.boot_enumerate f hs
theorem FZ(b c:Bool){es:List bb}{e:Nat}{a:Pos}{e1 e2:bb}{ta:TA}{p pos:Pos}(hg:Gl X "zip")(f:X.mg "zip" = none)(g:PA X [e1,e2] ta)
  (hs:kq [e1,e2] X.env=[(false,eval e1 X.env),(false,eval e2 X.env)]:=by rfl) (d:kq [e2] X.env=[(false,eval e2 X.env)]:=by rfl) :
  PI X (.Tuple es e a) (.Call (.Name "zip" p) [e1,e2] [] pos) (E4 K b c ta):=by subst hK;exact Di b c hg f PyProof.Rows.boot_zip g hs d
theorem F0{pos:Pos}{es:List bb}{k:Nat}{t:TGs}{n:Nat}(hc:X.calm=true)(h:PGs X es t)(hn:(KH es X.env).length=n:=by rfl)(a:(KH es X.env).findIdx? (·.1)=none:=by rfl):PG X (.Tuple es k pos) (Hf K n t):=by subst hK;exact Dk hc h hn a
theorem yU{a:bb}{ta:TE}(c:PE X a ta)(d:∀b,QF a X.env b=(do let v <-b;K2 a.pos;KI [v] (Ze v))):PT X a (λσ H Q=>ta σ H λx H'=>∃k,Fj K x H' k/\Q k H'):=by subst hK;exact wL c d
variable {o e:bb}{es:List bb}{to:TE}{t:TA}{name:bx}{apos cpos:Pos}{T id:String}{r:V->List V->Hp->VK->Prop}
theorem He(d:Zl T)(slot:Slot T name id)(c:typeOf (.builtin id)=pure (.type "method_descriptor"))(e:MtR X id r)(ho:PE X o to)
  (a:z5 o name X.env (eval o X.env)=eval o X.env:=by rfl) (b:(apos.endLine==cpos.line)=true:=by rfl):PE X (.Call (.Attribute o name apos) [] [] cpos) (GV K T r to):=by subst hK;exact Dq d slot c e ho a b
theorem kBm(g:Zl T)(slot:Slot T name id)(f:typeOf (.builtin id)=pure (.type "method_descriptor"))(h:MtR X id r)(ho:PE X o to)(i:PA X (e::es) t)
  (b:z5 o name X.env (eval o X.env)=eval o X.env:=by rfl)
  (d:((ze cpos (kq (e::es) X.env)).all (λx=>!x.1)&&(KU cpos (KA [] X.env)).all (λx=>x.1.isSome)&&decide ((e::es).length+([]:List KS).length+(if ([]:List KS).isEmpty then 0 else 1)<30))=true:=by rfl)
  (c:(apos.endLine==cpos.line)=true:=by rfl) (hs:kq (e::es) X.env=(false,eval e X.env)::kq es X.env:=by rfl) (a:(ze cpos (kq es X.env)).any (·.1)=false:=by rfl) :
  PE X (.Call (.Attribute o name apos) (e::es) [] cpos) (tBM K T r to t):=by subst hK;exact FR g slot f h ho i b d c hs a
end
theorem jw{A:Around}{k:Nat}(a:b9 k A):A.units+80<KD:=by have:=a.un;omega
theorem Bh{n j:Nat}(h:j<n):ixN n (j:Int)=some j:=by unfold ixN;rw[if_pos (by omega),if_pos (by omega),Jv]
def HH(t u:TS):TS:=λD σ H=>∃R:St->Hp->Prop,t { D with nx:=R } σ H/\∀σ' H',R σ' H'->u D σ' H'
theorem Ax{X:Cx}{st:Stmt}{rest:List Stmt}{t u:TS}(h1:PS X st t)(h2:PSs X rest u):PSs X (st::rest) (HH t u):=by
 intro pins s σ H D I h;obtain⟨R,h,a⟩:=h;refine QY (thn (h1 pins s σ H { D with nx:=R } I h) λf s1 q=>?_);cases f with
 | next =>
  obtain⟨σ',H',b,q⟩:=q;exact h2 pins s1 σ' H' D b (a _ _ q)
 | ret v=>exact q
 | brk=>exact q
 | cont=>exact q
theorem l6{α:Type}{x:α}{l:List α}(h:x∈l.dropLast):x∈l:=by rw[List.dropLast_eq_take] at h;exact List.mem_of_mem_take h
theorem aO.put{N:ap->Prop}{H H':Hp}{p:ap}{o:HO}(k:aO N H H')(h:H p=Option.none):aO N H (upd H' p o):=λb u n e=>by
 rw[al (au e h)];exact k b u n e
theorem DN.sqL{K:ca}{H:Hp}{a:ap}{ns:List Int}(h:SqL K H a (ns.map V.int)):DN K N0 H (.ref a) (pI ns):=DN.ofI (by
 rcases h with h|h;exact .inl ⟨h,λz=>z⟩;exact .inr h)
section
variable {κ β:Type}[DecidableEq κ]
def cu(kvs:List (κ×β))(k:κ):Option β:=(kvs.find? λp=>decide (p.1=k)).map (·.2)
def kO(kvs:List (κ×β))(k:κ)(v:β):List (κ×β):=if (cu kvs k).isSome=true then kvs.map λp=>if p.1=k then (p.1,v) else p else kvs++[(k,v)]
theorem xJ(k:κ):cu ([]:List (κ×β)) k=none:=rfl
theorem bz(p:κ×β)(kvs:List (κ×β))(k:κ):cu (p::kvs) k=if p.1=k then some p.2 else cu kvs k:=by unfold cu;rw[Ks];by_cases h:p.1=k <;> simp[h]
theorem jW(kvs:List (κ×β))(k:κ)(v:β):(kO kvs k v).length<=kvs.length+1:=by unfold kO;split <;> simp
end
def GO(K:ca)(H:Hp)(v:V)(kvs:List (aL×ab)):Prop :=
 ∃a es,v=.ref a/\H a=some (.ext (ce a es))/\DVs K H (es.map λp=>V.ref p.2.1) (kvs.map λp=>dD p.1)/\DVs K H (es.map λp=>p.2.2) (kvs.map λp=>p.2)/\es.map (λp=>p.1)=kvs.map (λp=>p.1)
section
variable {X:Cx}{pins:List (ap×Obj)}{σ:St}{H:Hp}{s:ba}{a b:ap}{k:aL}
theorem DVs.map_int:∀{ns:List Int}{xs:List V},DVs X.K H xs (ns.map .int)->xs=ns.map V.int
 | [],_,h=>by cases h;rfl
 | n :: ns,_,h=>by
  cases h with
  | cons h t =>
   cases h;rw[DVs.map_int t];rfl
theorem pi:∀{ns:List Int}{us:List as},aH (ns.map V.int) us->ItemsAre (K7 X.prog X.w) ns us
 | [],us,h=>by cases h;exact .nil
 | n :: ns,us,h=>by
  cases h with
  | cons r t =>
   obtain⟨tt,rfl⟩:=r;exact .cons (d9 n tt) (pi t)
theorem jp(I:Inv X pins σ H s){x:V}{u:as}(h:DV X.K H x (dD k))(r:be x u):∃b,x=.ref b/\u=.ref b/\cY X.prog X.w s.heap k b:=by obtain⟨d,l⟩:=k;obtain⟨b,xs,rfl,sq,q⟩:=DV.tupI (h:DV X.K H x (.tuple _));obtain⟨v1,D,rfl,h1,h2⟩:=q.twoI;obtain⟨c,ys,rfl,g,p⟩:=h2.tupI;obtain⟨v,rv,⟨o,e,cl,n,hd⟩,_⟩:=I.tuple sq;obtain⟨a,f,⟨y,e2,i,z,j⟩,_⟩:=I.tuple g;rw[DVs.map_int (X:=X) p] at f;obtain⟨E,A,rfl,m,B⟩:=sJ rv;rw[h1.intI] at m;obtain⟨t,rfl⟩:=m;have e3:A=Value.ref c:=B;have C:u=Value.ref b:=r;subst e3 C;exact⟨b,rfl,rfl,o,t,c,n,e,cl,hd,y,a.toArray,z,e2,i,j,by simpa using pi f⟩
theorem qd(I:Inv X pins σ H s):∀{es:List (aL×ap×V)}{xs:List (aL×ap×as)}{kvs:List (aL×ab)},
  Paired (λ(p:aL×ap×V) (q:aL×ap×as)=>p.1=q.1/\p.2.1=q.2.1/\be p.2.2 q.2.2) es xs->DVs X.K H (es.map λp=>V.ref p.2.1) (kvs.map λp=>dD p.1)->es.map (λp=>p.1)=kvs.map (λp=>p.1) ->
  ∀x∈xs,cY X.prog X.w s.heap x.1 x.2.1
 | [],_,_,.nil,_,_=>λx hx=>by cases hx
 | p :: es,_,kvs,.cons (b:=q) r t,h,e=>by
  cases kvs with
  | nil=>simp at e
  | cons kv kvs =>
   rw[IU,IU] at h e;injection e with e1 e2;cases h with
   | cons h1 h2 =>
    intro x hx;rcases IR.mp hx with rfl|hx;obtain⟨b,z,_,st⟩:=jp I h1 (u:=.ref p.2.1) rfl;cases z;rw[<-r.1,<-r.2.1,e1];exact st;exact qd I t h2 e2 x hx
theorem dct_of(I:Inv X pins σ H s){es:List (aL×ap×V)}{kvs:List (aL×ab)}(b:H a=some (.ext (ce a es)))(hk:DVs X.K H (es.map λp=>V.ref p.2.1) (kvs.map λp=>dD p.1))(e:es.map (λp=>p.1)=kvs.map (λp=>p.1)) :
  es.length<=sizeLine/\(a==cf)=false/\∃xs,Paired (λ(p:aL×ap×V) (q:aL×ap×as)=>p.1=q.1/\p.2.1=q.2.1/\be p.2.2 q.2.2) es xs/\o9 X.prog X.w s.heap a xs:=by obtain⟨⟨z,y,xs,r,o,ds,ep,h1,h2,h3,c,d⟩,_⟩:=I.hok a _ b;exact⟨z,y,xs,r,o,ds,ep,h1,h2,h3,c,qd I r hk e,d⟩
theorem vG{es:List (aL×ap×V)}{xs:List (aL×ap×as)}{kvs:List (aL×ab)}{K:ca}(k:aL)
  (c:Paired (λ(p:aL×ap×V) (q:aL×ap×as)=>p.1=q.1/\p.2.1=q.2.1/\be p.2.2 q.2.2) es xs) (e:es.map (λp=>p.1)=kvs.map (λp=>p.1)) (h:DVs K H (es.map λp=>p.2.2) (kvs.map λp=>p.2)) :
  (cu kvs k=none/\QP xs k=none)\/∃(i:Nat) (d:ab) (v:V) (b:ap) (u:as),cu kvs k=some d/\QP xs k=some (b,u)/\(es.map λp=>p.2.2)[i]? = some v/\(kvs.map λp=>p.2)[i]? = some d/\be v u:=by
 induction c generalizing kvs with
 | nil =>
  cases kvs with
  | nil=>exact .inl ⟨rfl,rfl⟩
  | cons kv kvs=>simp at e
 | @cons p q es xs r t f =>
  cases kvs with
  | nil=>simp at e
  | cons kv kvs =>
   rw[IU,IU] at e h;injection e with e1 e2;cases h with
   | cons h1 h2 =>
    by_cases hk:kv.1=k;have a:q.1=k:=by rw[<-r.1,e1,hk]
    refine .inr ⟨0,kv.2,p.2.2,q.2.1,q.2.2,by rw[bz,if_pos hk],?_,rfl,rfl,r.2.2⟩;simp[QP,Ks,a];have a:¬q.1=k:=λz=>hk (by rw[<-e1,r.1,z]);have g:cu (kv::kvs) k=cu kvs k:=by rw[bz,if_neg hk]
    have j:QP (q::xs) k=QP xs k:=by simp[QP,Ks,a]
    rw[g,j];rcases f e2 h2 with z|⟨i,d,v,b,u,z1,z2,l,m,n⟩
    exact .inl z;exact .inr ⟨i+1,d,v,b,u,z1,z2,by simpa using l,by simpa using m,n⟩
end
section
variable {X:Cx}
def FJ(K:ca):R2:=λx y H Q=>∃(k:aL) (kvs:List (aL×ab)),DV K H x (dD k)/\GO K H y kvs/\Q (.bl (cu kvs k).isSome) H
def nY(K:ca):R2:=λx y H Q=>∃(k:aL) (kvs:List (aL×ab)),DV K H x (dD k)/\GO K H y kvs/\Q (.bl (!(cu kvs k).isSome)) H
theorem Dv(c:X.A.units+2<KD):OpR X (q4 .In) (FJ X.K):=by
 intro pins s σ H x y v u Q I f g h;obtain⟨k,kvs,j,⟨a,es,rfl,l,hk,hv,e⟩,q⟩:=h;cases (show u=Value.ref a from g);obtain⟨b,rfl,rfl,st⟩:=jp I j f;obtain⟨z,y,xs,r,dd⟩:=dct_of I l hk e;refine wpAny_in_heap (knd:=bD X.prog X.w) (gS c) st y dd.of ?_;have:(QP xs k).isSome=(cu kvs k).isSome:=by
  rcases vG k r e hv with⟨z1,z2⟩|⟨i,d,v,b,u,z1,z2,_⟩
  rw[z1,z2];rfl;rw[z1,z2];rfl
 rw[this];exact⟨.bl _,H,I.tok _,rfl,q⟩
theorem um(c:X.A.units+2<KD):OpR X (q4 .NotIn) (nY X.K):=by
 intro pins s σ H x y v u Q I f g h;obtain⟨k,kvs,j,⟨a,es,rfl,l,hk,hv,e⟩,q⟩:=h;cases (show u=Value.ref a from g);obtain⟨b,rfl,rfl,st⟩:=jp I j f;obtain⟨z,y,xs,r,dd⟩:=dct_of I l hk e;refine wpAny_notIn_heap (knd:=bD X.prog X.w) (gS c) st y dd.of ?_;have:(QP xs k).isSome=(cu kvs k).isSome:=by
  rcases vG k r e hv with⟨z1,z2⟩|⟨i,d,v,b,u,z1,z2,_⟩
  rw[z1,z2];rfl;rw[z1,z2];rfl
 rw[this];exact⟨.bl _,H,I.tok _,rfl,q⟩
def FH(K:ca):R2:=λx y H Q=>∃(k:aL) (a:ap) (es:List (aL×ap×V)) (kvs:List (aL×ab)),x=.ref a/\DV K H y (dD k)/\H a=some (.ext (ce a es))/\DVs K H (es.map λp=>V.ref p.2.1) (kvs.map λp=>dD p.1)/\DVs K H (es.map λp=>p.2.2) (kvs.map λp=>p.2) /\
 es.map (λp=>p.1)=kvs.map (λp=>p.1)/\(cu kvs k).isSome=true/\∀(i:Nat) v d,cu kvs k=some d->(es.map λp=>p.2.2)[i]? = some v->(kvs.map λp=>p.2)[i]? = some d->Q v H
theorem Ij(j:X.A.units+2<KD):IxR X (FH X.K):=by
 intro value slice pins s σ H x y v u Q I l m h hs;obtain⟨k,a,es,kvs,rfl,n,o,hk,hv,e,c,q⟩:=h;cases (show v=Value.ref a from l);obtain⟨b,rfl,rfl,st⟩:=jp I n m;obtain⟨z,y,xs,r,dd⟩:=dct_of I o hk e;have g:=dd.of.typeIs;unfold QN;refine jj ?_;rw[getitemInPython_of_ne g.not_modules];refine jj (K0 g PySem.F.slot_dict_getitem.lookup ?_);have fin:kw (qb X.prog X.w) X.A (Q4 slice false (.ref a) (.ref b)) (λr f=>kw (qb X.prog X.w) X.A (letTemporaryGo value (.ref a) r >>= λ_=>pure r) (EP X pins σ Q) X.xe f) X.xe s:=by
  rw[hs];rcases vG k r e hv with⟨z1,_⟩|⟨i,d,v,C,u,z1,z2,p,t,B⟩
  rw[z1] at c;cases c;refine wpAny_operating (wpAny_getItem_heap (knd:=bD X.prog X.w) (gS j) st dd.of z2 ?_);exact jj (wpAny_letTemporaryGo (ke ⟨v,H,I.tok _,B,q i v d z1 p t⟩))
 first
  | exact ke (jj fin)
  | exact jj (ke (jj fin))
  | exact jj fin
def tT(es:List (aL×ap×V))(k:aL)(b:ap)(v:V):List (aL×ap×V) :=
 if (es.any λp=>decide (p.1=k))=true then es.map (λp=>if p.1=k then (p.1,p.2.1,v) else p) else es++[(k,b,v)]
theorem oj{es:List (aL×ap×V)}{xs:List (aL×ap×as)}(r:Paired (λ(p:aL×ap×V) (q:aL×ap×as)=>p.1=q.1/\p.2.1=q.2.1/\be p.2.2 q.2.2) es xs)(k:aL){b:ap}{v:V}{u:as}(rv:be v u) :
  Paired (λ(p:aL×ap×V) (q:aL×ap×as)=>p.1=q.1/\p.2.1=q.2.1/\be p.2.2 q.2.2) (tT es k b v) (storedH xs k b u):=by
 have e:(es.any λp=>decide (p.1=k))=(QP xs k).isSome:=by
  induction r with
  | nil=>rfl
  | @cons p q ps qs h t a =>
   rw[List.any_cons,a];by_cases hk:p.1=k;have d:q.1=k:=by rw[<-h.1,hk]
   simp[QP,Ks,hk,d];have d:¬q.1=k:=λz=>hk (by rw[h.1,z]);simp[QP,Ks,hk,d]
 unfold tT storedH;rw[e];by_cases c:(QP xs k).isSome=true;rw[if_pos c,if_pos c];clear e c
 induction r with
 | nil=>exact .nil
 | @cons p q ps qs h t a =>
  rw[IU,IU];refine .cons ?_ a;unfold putAt;by_cases hk:p.1=k;rw[if_pos hk,if_pos (show q.1=k by rw[<-h.1,hk])];exact⟨h.1,h.2.1,rv⟩;rw[if_neg hk,if_neg (λz=>hk (by rw[h.1,z]))];exact h
 rw[if_neg c,if_neg c];exact Paired.snoc r ⟨rfl,rfl,rv⟩
theorem wK(es:List (aL×ap×V))(k:aL)(b:ap)(v:V):(tT es k b v).length<=es.length+1:=by unfold tT;split <;> simp
def FF(K:ca):EJ:=λx y v H Q=>∃(k:aL) (a b:ap) (es:List (aL×ap×V)) (kvs:List (aL×ab)),x=.ref a/\y=.ref b/\DV K H y (dD k)/\H a=some (.ext (ce a es))/\DVs K H (es.map λp=>V.ref p.2.1) (kvs.map λp=>dD p.1) /\
 es.map (λp=>p.1)=kvs.map (λp=>p.1)/\es.length<sizeLine/\Q (upd H a (.ext (ce a (tT es k b v))))
theorem FA(j:X.A.units+2<KD):Fk X (FF X.K):=by
 intro pins s σ H x y v ov iv u Q I l m rv h;obtain⟨k,a,b,es,kvs,rfl,rfl,n,i,hk,e,hl,q⟩:=h;cases (show ov=Value.ref a from l);obtain⟨M,p,t,st⟩:=jp I n m;cases p;subst t;obtain⟨z,y,xs,r,dd⟩:=dct_of I i hk e;have hz:xs.length<=sizeLine:=by rw[<-Paired.length r];exact z
 refine tz (hsz:=hz) (gS (prog:=X.prog) (w:=X.w) j) st dd λh' c hs=>?_;obtain⟨o,d,ep,h1,h2,h3,B,_,C⟩:=c;refine⟨_,?_,q⟩;refine I.write (x:=a) (e:=a) (by rw[i];exact True.intro) (.inl rfl) (λb q D z=>(hs.2 b D).trans z) ⟨_,h1⟩ ?_;have new:ce a (tT es k b v) h':=⟨by have:=wK es k b v;omega,y,_,oj r k rv,o,d,ep,h1,h2,h3,B,C⟩
 refine⟨new,⟨_,h1⟩,λE F hx G=>?_⟩;obtain⟨a1,a2,f,a3,o',ds',g,J,L⟩:=hx;exact⟨a1,a2,f,a3,o',ds',g,G _ J,L⟩
def Fv:TE:=λ_ H Q=>∀p,H p=none->Q (.ref p) (upd H p (.ext (ce p [])))
theorem mG{P:q3}{w:zb}{H:Hp}(h:bd)(c:cf<h.objs.size):dB P w H (h.push { cls:=.type "dict",data:=.dict #[] }) h.objs.size (.ext (ce h.objs.size [])):=by have e:=IW (o:=({ cls:=.type "dict",data:=.dict #[] }:Obj)) h rfl;refine⟨⟨Jb _,beq_eq_false_iff_ne.mpr (Ne.symm (Jd c)),[],.nil,_,#[],0,e,⟨rfl,rfl,rfl⟩,rfl,rfl,J4,rfl⟩,⟨_,e⟩,λh1 h2 hx d=>?_⟩;obtain⟨a1,a2,a,a3,o',ds',b,f,g⟩:=hx;exact⟨a1,a2,a,a3,o',ds',b,d _ f,g⟩
theorem Inv.big'{pins:List (ap×Obj)}{σ:St}{H:Hp}{s:ba}(I:Inv X pins σ H s):cf<s.heap.objs.size:=by have h:ky<s.heap.objs.size:=(I.mod.glob.keeps I.bk).lt;exact Nat.lt_trans (by decide) h
theorem AN{pos:Pos}:PE X (.Dict [] [] pos) Fv:=λpins s σ H Q I h =>
 wpAny_Dict_empty ⟨.ref s.heap.objs.size,_,I.laid (a:=s.heap.objs.size) (o:=.ext (ce s.heap.objs.size [])) (t':=s.toks) (λ_ _ q=>IH _ q) (IS _) (mG s.heap I.big'),rfl,h _ (I.hok.fresh (IS _))⟩
def Fu(K:ca)(tk tv:TE):TE:=λσ H Q=>∀p,H p=none->tk σ (upd H p (.ext (ce p []))) λx H1=>tv σ H1 λy a=>∃k b,x=.ref b/\DV K a x (dD k)/\a p=some (.ext (ce p []))/\Q (.ref p) (upd a p (.ext (ce p [(k,b,y)])))
theorem AM{pos:Pos}{e1 e2:bb}{tk tv:TE}(n:X.A.units+1<KD)(hk:PE X e1 tk)(hv:PE X e2 tv):PE X (.Dict [some e1] [e2] pos) (Fu X.K tk tv):=by
 intro pins s σ H Q I h;have t:=I.laid (a:=s.heap.objs.size) (o:=.ext (ce s.heap.objs.size [])) (h':=s.heap.push { cls:=.type "dict",data:=.dict #[] }) (t':=s.toks) (λ_ _ q=>IH _ q) (IS _) (mG s.heap I.big');refine wpAny_Dict_any rfl rfl (by simp) (by simp) (pairTrees_cons_walk (thn (hk pins _ σ _ _ t (h _ (I.hok.fresh (IS _)))) λu s1 c=>?_));obtain⟨x,H1,v,B,C⟩:=c;refine thn (hv pins s1 σ H1 _ v C) λw s2 d=>?_;obtain⟨y,S,f,D,k,b,ex,E,m,q⟩:=d;refine pairTrees_nil_walk ?_;subst ex;obtain⟨T,F,rfl,st⟩:=jp f E B;cases F;generalize s.heap.objs.size=p at *;obtain⟨z,hd,xs,r,dd⟩:=dct_of (kvs:=[]) f m .nil rfl;cases r;unfold storeAll;rw[Kr];refine jj (jj (mF (hsz:=Jb _) n st dd λh' g hs=>ke ?_));dsimp only;rw[Kl];refine ke ⟨.ref p,_,?_,rfl,q⟩;obtain⟨o,i,ep,h1,h2,h3,G,_,J⟩:=g;refine f.write (x:=p) (e:=p) (by rw[m];exact True.intro) (.inl rfl) (λb q L z=>(hs.2 b L).trans z) ⟨_,h1⟩ ?_;have new:ce p [(k,b,y)] h':=⟨by rw[z0];simp,hd,_,.cons ⟨rfl,rfl,D⟩ .nil,o,i,ep,h1,h2,h3,G,J⟩
 refine⟨new,⟨_,h1⟩,λM N hx O=>?_⟩;obtain⟨a1,a2,j,a3,o',ds',l,P,R⟩:=hx;exact⟨a1,a2,j,a3,o',ds',l,O _ P,R⟩
end
mutual
inductive OT (K:ca) (N:ap->Prop) (H:Hp):V->ab->List ap->Prop
 | non:OT K N H .non .none []
 | bl (b:Bool):OT K N H (.bl b) (.bool b) []
 | int (i:Int):OT K N H (.int i) (.int i) []
 | str (x:bx):OT K N H (.str x) (.str x) []
 | lst {a:ap}{xs:List V}{ds:List ab}{S:List ap}:H a=some (.lst xs)->OTs K N H xs ds S->OT K N H (.ref a) (.list ds) (a::S)
 | tup {a:ap}{xs:List V}{ds:List ab}{S:List ap}:SnT K N H a xs->OTs K N H xs ds S->OT K N H (.ref a) (.tuple ds) S
 | dct {a:ap}{es:List (aL×ap×V)}{kvs:List (aL×ab)}:H a=some (.ext (ce a es))->DNs K N H (es.map λp=>V.ref p.2.1) (kvs.map λp=>dD p.1)->DNs K N H (es.map λp=>p.2.2) (kvs.map λp=>p.2)->es.map (λp=>p.1)=kvs.map (λp=>p.1)->OT K N H (.ref a) (eD kvs) [a]
 | fz {v:V}{ds:List ab}:DN K N H v (.list ds)->OT K N H v (fzD ds) []
inductive OTs (K:ca) (N:ap->Prop) (H:Hp):List V->List ab->List ap->Prop
 | nil:OTs K N H [] [] []
 | cons {x:V}{xs:List V}{d:ab}{ds:List ab}{S S':List ap}:OT K N H x d S->OTs K N H xs ds S'->OTs K N H (x::xs) (d::ds) (S++S')
end
section
variable {K:ca}{N M:ap->Prop}{H H':Hp}
theorem OT.keep(k:aO N H H'){v:V}{d:ab}{S:List ap}(h:OT K N H v d S):(∀a∈S,H' a=H a)->OT K N H' v d S :=
  OT.rec (motive_1:=λv d S _=>(∀a∈S,H' a=H a)->OT K N H' v d S) (motive_2:=λv d S _=>(∀a∈S,H' a=H a)->OTs K N H' v d S)
  (λ_=>.non) (λb _=>.bl b) (λi _=>.int i)
   (λx _=>.str x)
  (λh _ q s=>.lst ((s _ IL).trans h) (q λa c=>s a (IM _ c))) (λh _ q s=>.tup (h.keep k) (q s))
  (λh q r e s=>.dct ((s _ IL).trans h) (q.keep k) (r.keep k) e) (λh s=>.fz (h.keep k)) (λ_=>.nil) (λ_ _ h q s=>.cons (h λa c=>s a (IJ _ c)) (q λa c=>s a (IE _ c))) h
theorem OTs.keep(k:aO N H H'){v:List V}{d:List ab}{S:List ap}(h:OTs K N H v d S):(∀a∈S,H' a=H a)->OTs K N H' v d S :=
  OTs.rec (motive_1:=λv d S _=>(∀a∈S,H' a=H a)->OT K N H' v d S) (motive_2:=λv d S _=>(∀a∈S,H' a=H a)->OTs K N H' v d S)
  (λ_=>.non) (λb _=>.bl b) (λi _=>.int i)
   (λx _=>.str x)
  (λh _ q s=>.lst ((s _ IL).trans h) (q λa c=>s a (IM _ c))) (λh _ q s=>.tup (h.keep k) (q s))
  (λh q r e s=>.dct ((s _ IL).trans h) (q.keep k) (r.keep k) e) (λh s=>.fz (h.keep k)) (λ_=>.nil) (λ_ _ h q s=>.cons (h λa c=>s a (IJ _ c)) (q λa c=>s a (IE _ c))) h
theorem OT.to(m:∀b o,H b=some o->M b->N b){v:V}{d:ab}{S:List ap}(h:OT K N H v d S):OT K M H v d S :=
  OT.rec (motive_1:=λv d S _=>OT K M H v d S) (motive_2:=λv d S _=>OTs K M H v d S)
  .non (λb=>.bl b) (λi=>.int i)
   (λx=>.str x)
  (λh _ q=>.lst h q) (λh _ q=>.tup (h.to m) q)
  (λh q r e=>.dct h (q.to m) (r.to m) e) (λh=>.fz (h.to m)) .nil (λ_ _ h q=>.cons h q) h
theorem OTs.to(m:∀b o,H b=some o->M b->N b){v:List V}{d:List ab}{S:List ap}(h:OTs K N H v d S):OTs K M H v d S :=
  OTs.rec (motive_1:=λv d S _=>OT K M H v d S) (motive_2:=λv d S _=>OTs K M H v d S)
  .non (λb=>.bl b) (λi=>.int i)
   (λx=>.str x)
  (λh _ q=>.lst h q) (λh _ q=>.tup (h.to m) q)
  (λh q r e=>.dct h (q.to m) (r.to m) e) (λh=>.fz (h.to m)) .nil (λ_ _ h q=>.cons h q) h
theorem OT.lives{v:V}{d:ab}{S:List ap}(h:OT K N H v d S):∀a∈S,∃o,H a=some o :=
  OT.rec (motive_1:=λv d S _=>∀a∈S,∃o,H a=some o) (motive_2:=λv d S _=>∀a∈S,∃o,H a=some o)
  (λ_ h=>nomatch h) (λ_ _ h=>nomatch h) (λ_ _ h=>nomatch h)
   (λ_ _ h=>nomatch h)
  (λh _ q a b=>(IR.mp b).elim (λe=>⟨_,e▸h⟩) (q a)) (λ_ _ q=>q)
  (λh _ _ _ a b=>⟨_,(IG.mp b)▸h⟩) (λ_ _ h=>nomatch h) (λ_ h=>nomatch h) (λ_ _ h q a b=>(II.mp b).elim (h a) (q a)) h
theorem OTs.lives{v:List V}{d:List ab}{S:List ap}(h:OTs K N H v d S):∀a∈S,∃o,H a=some o :=
  OTs.rec (motive_1:=λv d S _=>∀a∈S,∃o,H a=some o) (motive_2:=λv d S _=>∀a∈S,∃o,H a=some o)
  (λ_ h=>nomatch h) (λ_ _ h=>nomatch h) (λ_ _ h=>nomatch h)
   (λ_ _ h=>nomatch h)
  (λh _ q a b=>(IR.mp b).elim (λe=>⟨_,e▸h⟩) (q a)) (λ_ _ q=>q)
  (λh _ _ _ a b=>⟨_,(IG.mp b)▸h⟩) (λ_ _ h=>nomatch h) (λ_ h=>nomatch h) (λ_ _ h q a b=>(II.mp b).elim (h a) (q a)) h
theorem OT.dn(n:∀b,M b->N b){v:V}{d:ab}{S:List ap}(h:OT K N H v d S):(∀a∈S,¬M a)->DN K M H v d :=
  OT.rec (motive_1:=λv d S _=>(∀a∈S,¬M a)->DN K M H v d) (motive_2:=λv d S _=>(∀a∈S,¬M a)->DNs K M H v d)
  (λ_=>.non) (λb _=>.bl b) (λi _=>.int i)
   (λx _=>.str x)
  (λh _ q s=>.lst (SnL.of h (s _ IL)) (q λa c=>s a (IM _ c))) (λh _ q s=>.tup (h.to λb _ _ z=>n b z) (q s))
  (λh q r e s=>.dct (s _ IL) h (q.to λb _ _ z=>n b z) (r.to λb _ _ z=>n b z) e) (λh _=>.fz (h.to λb _ _ z=>n b z)) (λ_=>.nil) (λ_ _ h q s=>.cons (h λa c=>s a (IJ _ c)) (q λa c=>s a (IE _ c))) h
theorem OTs.ind{C:List V->List ab->List ap->Prop}(n:C [] [] [])(c:∀{x:V}{xs:List V}{d:ab}{ds:List ab}{S S':List ap},OT K N H x d S->OTs K N H xs ds S'->C xs ds S'->C (x::xs) (d::ds) (S++S')){v:List V}{d:List ab}{S:List ap}(h:OTs K N H v d S):C v d S :=
  OTs.rec (motive_1:=λ_ _ _ _=>True) (motive_2:=λv d S _=>C v d S) trivial (λ_=>trivial) (λ_=>trivial)
   (λ_=>trivial)
  (λ_ _ _=>trivial) (λ_ _ _=>trivial) (λ_ _ _ _=>trivial) (λ_=>trivial) n (λh q _ i=>c h q i) h
theorem OTs.len{v:List V}{d:List ab}{S:List ap}(h:OTs K N H v d S):v.length=d.length:=OTs.ind (C:=λv d _=>v.length=d.length) rfl (λ_ _ i=>by rw[Jf,Jf,i]) h
theorem OTs.app{v w:List V}{d e:List ab}{S T:List ap}(h:OTs K N H v d S)(q:OTs K N H w e T):OTs K N H (v++w) (d++e) (S++T):=OTs.ind (C:=λv d S=>OTs K N H (v++w) (d++e) (S++T)) q (λh _ i=>by rw[JE];exact .cons h i) h
end
inductive Sl where
 | un|fr (d:ab)|ow (ds:List ab)|io (ds:List ab)|vw (i:Nat)|tr (S:List ap) (d:ab)
abbrev Ent:=Option V×Sl
def cH:Ent->List ap
 | (some (.ref a),.ow _)=>[a]
 | (some (.ref a),.io _)=>[a]
 | (some _,.tr S _)=>S
 | _=>[]
def oas(E:List Ent):List ap:=E.flatMap cH
def Nw(M:ap->Prop)(E:List Ent):ap->Prop:=λa=>M a\/a∈oas E
abbrev tmp(ts:List (V×Sl)):List Ent:=ts.map λt=>(some t.1,t.2)
def aw(σ:St)(env:List Sl)(ts:List (V×Sl)):List Ent:=σ.zip env++tmp ts
theorem ah(A B:List Ent):oas (A++B)=oas A++oas B:=List.flatMap_append
theorem aj(e:Ent)(B:List Ent):oas (e::B)=cH e++oas B:=List.flatMap_cons ..
theorem aT{a:ap}{E:List Ent}:a∈oas E↔∃e∈E,a∈cH e:=List.mem_flatMap
theorem gi(x:Option V):cH (x,.un)=[]:=by
 cases x with
 | none=>rfl
 | some v=>cases v <;> rfl
theorem iK(x:Option V)(i:Nat):cH (x,.vw i)=[]:=by
 cases x with
 | none=>rfl
 | some v=>cases v <;> rfl
theorem dy(x:Option V)(d:ab):cH (x,.fr d)=[]:=by
 cases x with
 | none=>rfl
 | some v=>cases v <;> rfl
theorem aK(v:V)(S:List ap)(d:ab):cH (some v,.tr S d)=S:=by cases v <;> rfl
theorem lH{e:Ent}{a:ap}(h:a∈cH e):(e.1=some (.ref a)/\((∃ds,e.2=.ow ds)\/∃ds,e.2=.io ds))\/∃S d,e.2=.tr S d/\a∈S:=by
 obtain⟨x,s⟩:=e;cases s with
 | un=>rw[gi] at h;exact absurd h Jk
 | vw i=>rw[iK] at h;exact absurd h Jk
 | fr d=>rw[dy] at h;exact absurd h Jk
 | tr S d =>
  cases x with
  | none=>exact absurd h Jk
  | some v=>rw[aK] at h;exact .inr ⟨S,d,rfl,h⟩
 | ow ds =>
  cases x with
  | none=>exact absurd h Jk
  | some v=>cases v with
   | ref b=>rw[IG.mp h];exact .inl ⟨rfl,.inl ⟨ds,rfl⟩⟩
   | _=>exact absurd h Jk
 | io ds =>
  cases x with
  | none=>exact absurd h Jk
  | some v=>cases v with
   | ref b=>rw[IG.mp h];exact .inl ⟨rfl,.inr ⟨ds,rfl⟩⟩
   | _=>exact absurd h Jk
structure aU(K:ca)(M P:ap->Prop)(H0:Hp)(E:List Ent)(H:Hp):Prop where
 keep:aO P H0 H
 live:∀a,H0 a≠none->H a≠none
 mt : ∀a,M a->H0 a≠none
 pm : ∀a,P a->M a
 fr : ∀x d,(x,Sl.fr d)∈E->∃v,x=some v/\DN K (Nw M E) H v d
 ow : ∀x ds,(x,Sl.ow ds)∈E->∃a vs,x=some (.ref a)/\H a=some (.lst vs)/\DNs K (Nw M E) H vs ds/\H0 a=none
 io : ∀x ds,(x,Sl.io ds)∈E->∃a vs,x=some (.ref a)/\H a=some (.lst vs)/\DNs K (Nw M E) H vs ds/\P a
 tr : ∀x S d,(x,Sl.tr S d)∈E->∃v,x=some v/\OT K (Nw M E) H v d S/\∀a∈S,H0 a=none
 nd : (oas E).Nodup
section
variable {K:ca}{M P:ap->Prop}{H0 H H':Hp}{E E' A B:List Ent}{e:Ent}
theorem aU.own(h:aU K M P H0 E H){a:ap}(f:a∈oas E):∃o,H a=some o/\(H0 a=none\/P a):=by
 obtain⟨⟨x,s⟩,c,g⟩:=aT.mp f;rcases lH g with⟨e1,e2⟩|⟨S,d,e2,e⟩
 rotate_left
 simp only at e2;subst e2;obtain⟨v,_,q,r⟩:=h.tr _ _ _ c;obtain⟨vs,z⟩:=q.lives a e;exact⟨vs,z,.inl (r a e)⟩;rcases e2 with⟨ds,e2⟩|⟨ds,e2⟩
 simp only at e1 e2;subst e1 e2;obtain⟨b,vs,z,q,_,r⟩:=h.ow _ _ c;cases z;exact⟨_,q,.inl r⟩;simp only at e1 e2;subst e1 e2;obtain⟨b,vs,z,q,_,r⟩:=h.io _ _ c;cases z;exact⟨_,q,.inr r⟩
theorem Nw.sub(h:∀a,a∈oas E'->a∈oas E):∀b,Nw M E' b->Nw M E b:=λb z=>by
 rcases z with z|z;exact .inl z;exact .inr (h b z)
theorem aU.sub(h:aU K M P H0 E H)(c:∀x s,(x,s)∈E'->(x,s)∈E\/s=.un\/∃i,s=.vw i)(nd:(oas E').Nodup):aU K M P H0 E' H:=by
 have os:∀a,a∈oas E'->a∈oas E:=λa g=>by
  obtain⟨⟨x,s⟩,j,f⟩:=aT.mp g;rcases c x s j with q|q|⟨i,q⟩
  exact aT.mpr ⟨_,q,f⟩;subst q;rw[gi] at f;cases f;subst q;rw[iK] at f;cases f
 have up:=Nw.sub (M:=M) os;refine⟨h.keep,h.live,h.mt,h.pm,λx d m=>?_,λx d m=>?_,λx d m=>?_,λx S d m=>?_,nd⟩
 rotate_right
 rcases c _ _ m with q|q|⟨i,q⟩
 obtain⟨v,e,dn,r⟩:=h.tr x S d q;exact⟨v,e,dn.to λb _ _ z=>up b z,r⟩;cases q;cases q;rcases c _ _ m with q|q|⟨i,q⟩
 obtain⟨v,e,dn⟩:=h.fr x d q;exact⟨v,e,dn.to λb _ _ z=>up b z⟩;cases q;cases q;rcases c _ _ m with q|q|⟨i,q⟩
 obtain⟨a,vs,e,e2,dn,r⟩:=h.ow x d q;exact⟨a,vs,e,e2,dn.to λb _ _ z=>up b z,r⟩;cases q;cases q;rcases c _ _ m with q|q|⟨i,q⟩
 obtain⟨a,vs,e,e2,dn,r⟩:=h.io x d q;exact⟨a,vs,e,e2,dn.to λb _ _ z=>up b z,r⟩;cases q;cases q
theorem aU.drop(h:aU K M P H0 (E++B) H):aU K M P H0 E H:=h.sub (λx s m=>.inl (IJ _ m)) (by
 have:=h.nd;rw[ah] at this;exact(IT.mp this).1)
theorem aU.same(h:aU K M P H0 E H)(k:aS H H'):aU K M P H0 E H':=by
 refine⟨h.keep.trans (aO.same k),λa q z=>?_,h.mt,h.pm,λx d m=>?_,λx d m=>?_,λx d m=>?_,λx S d m=>?_,h.nd⟩
 rotate_right
 obtain⟨v,e,dn,r⟩:=h.tr x S d m;exact⟨v,e,dn.keep (aO.same k) λa b=>by
  obtain⟨xs,z⟩:=dn.lives a b;rw[k a _ z,z],r⟩
 have c:=h.live a q;cases e:H a with
 | none=>exact c e
 | some o=>rw[k a o e] at z;cases z
 obtain⟨v,e,dn⟩:=h.fr x d m;exact⟨v,e,dn.keep (aO.same k)⟩;obtain⟨a,vs,e,e2,dn,r⟩:=h.ow x d m;exact⟨a,vs,e,k _ _ e2,dn.keep (aO.same k),r⟩;obtain⟨a,vs,e,e2,dn,r⟩:=h.io x d m;exact⟨a,vs,e,k _ _ e2,dn.keep (aO.same k),r⟩
theorem aU.addFr(h:aU K M P H0 E H){v:V}{d:ab}(dn:DN K (Nw M E) H v d):aU K M P H0 (E++[(some v,.fr d)]) H:=by
 have a:oas (E++[(some v,Sl.fr d)])=oas E:=by rw[ah,aj,dy];simp[oas]
 have ne:Nw M (E++[(some v,Sl.fr d)])=Nw M E:=by unfold Nw;rw[a]
 refine⟨h.keep,h.live,h.mt,h.pm,λx d' m=>?_,λx d' m=>?_,λx d' m=>?_,λx S d' m=>?_,by rw[a];exact h.nd⟩
 rotate_right
 rw[ne];rcases II.mp m with m|m;exact h.tr x S d' m;rw[IG] at m;cases m;rw[ne];rcases II.mp m with m|m;exact h.fr x d' m;rw[IG] at m;cases m;exact⟨v,rfl,dn⟩;rw[ne];rcases II.mp m with m|m;exact h.ow x d' m;rw[IG] at m;cases m;rw[ne];rcases II.mp m with m|m;exact h.io x d' m;rw[IG] at m;cases m
theorem aU.addVw(h:aU K M P H0 E H){v:V}{i:Nat}:aU K M P H0 (E++[(some v,.vw i)]) H:=by refine h.sub (λx s m=>?_) ?_;rcases II.mp m with m|m;exact .inl m;rw[IG] at m;cases m;exact .inr (.inr ⟨i,rfl⟩);rw[ah,aj,iK];simpa[oas] using h.nd
theorem aU.addOw(h:aU K M P H0 E H){p:ap}{vs:List V}{ds:List ab}(c:H p=none)(d:DNs K (Nw M E) H vs ds):aU K M P H0 (E++[(some (.ref p),.ow ds)]) (upd H p (.lst vs)):=by
 have g:oas (E++[(some (.ref p),Sl.ow ds)])=oas E++[p]:=by rw[ah];rfl
 have i:p ∉ oas E:=λz=>by
  obtain⟨vs',q,_⟩:=h.own z;rw[c] at q;cases q
 have j:H0 p=none:=by
  cases e:H0 p with
  | none=>rfl
  | some o=>exact absurd c (h.live p (by rw[e];simp))
 have up:∀b o,H b=some o->Nw M (E++[(some (.ref p),Sl.ow ds)]) b->Nw M E b:=λb o e z=>by
  rcases z with z|z;exact .inl z;rw[g] at z;rcases II.mp z with z|z;exact .inr z;rw[IG.mp z,c] at e;cases e
 have h':=h.same (aS.new (o:=.lst vs) c);refine⟨h'.keep,h'.live,h.mt,h.pm,λx d' m=>?_,λx d' m=>?_,λx d' m=>?_,λx S d' m=>?_,?_⟩
 rotate_right 2
 rcases II.mp m with m|m;obtain⟨v,e,dn,r⟩:=h.tr x S d' m;exact⟨v,e,(dn.to up).keep (aO.same (aS.new c)) λa f=>by
  obtain⟨xs,z⟩:=dn.lives a f;rw[aS.new c _ _ z,z],r⟩
 rw[IG] at m;cases m
 rotate_left
 rcases II.mp m with m|m;obtain⟨v,e,dn⟩:=h.fr x d' m;exact⟨v,e,(dn.to up).keep (aO.same (aS.new c))⟩;rw[IG] at m;cases m;rcases II.mp m with m|m;obtain⟨a,ws,e,e2,dn,r⟩:=h.ow x d' m;exact⟨a,ws,e,aS.new c _ _ e2,(dn.to up).keep (aO.same (aS.new c)),r⟩;rw[IG] at m;cases m;exact⟨p,vs,rfl,aq,(d.to up).keep (aO.same (aS.new c)),j⟩;rcases II.mp m with m|m;obtain⟨a,ws,e,e2,dn,r⟩:=h.io x d' m;exact⟨a,ws,e,aS.new c _ _ e2,(dn.to up).keep (aO.same (aS.new c)),r⟩;rw[IG] at m;cases m;rw[g];exact IT.mpr ⟨h.nd,by simp,λa f b k=>by rw[IG.mp k];exactλz=>i (z▸f)⟩
theorem aU.freeze{a:ap}{ds:List ab}(h:aU K M P H0 (A++(some (.ref a),.ow ds)::B) H):aU K M P H0 (A++(some (.ref a),.fr (.list ds))::B) H:=by
 have i:oas (A++(some (.ref a),Sl.ow ds)::B)=oas A++a::oas B:=by rw[ah,aj];rfl
 have f:oas (A++(some (.ref a),Sl.fr (.list ds))::B)=oas A++oas B:=by rw[ah,aj];rfl
 have nd:=h.nd;rw[i] at nd;obtain⟨k,l,j⟩:=IT.mp nd;obtain⟨n,o⟩:=Jr.mp l;have up:∀b,Nw M (A++(some (.ref a),Sl.fr (.list ds))::B) b->Nw M (A++(some (.ref a),Sl.ow ds)::B) b:=Nw.sub λb z=>by
  rw[f] at z;rw[i];rcases II.mp z with z|z;exact IJ _ z;exact IE _ (IM _ z)
 have p:(some (.ref a),Sl.ow ds)∈A++(some (.ref a),Sl.ow ds)::B:=IE _ IL;obtain⟨w,vs,z,q,g,t⟩:=h.ow _ _ p;cases z;have na:¬Nw M (A++(some (.ref a),Sl.fr (.list ds))::B) a:=λz=>by
  rcases z with z|z;exact h.mt a z t;rw[f] at z;rcases II.mp z with z|z;exact j a z a IL rfl;exact n z
 have c:∀x s,(x,s)∈A++(some (.ref a),Sl.fr (.list ds))::B->(x,s)=(some (.ref a),Sl.fr (.list ds))\/(x,s)∈A++(some (.ref a),Sl.ow ds)::B:=λx s m=>by
  rcases II.mp m with m|m;exact .inr (IJ _ m);rcases IR.mp m with m|m;exact .inl m;exact .inr (IE _ (IM _ m))
 refine⟨h.keep,h.live,h.mt,h.pm,λx d m=>?_,λx d m=>?_,λx d m=>?_,λx S d m=>?_,?_⟩
 rotate_right 2
 rcases c _ _ m with m|m;cases m;obtain⟨v,e,dn,r⟩:=h.tr x S d m;exact⟨v,e,dn.to λb _ _ z=>up b z,r⟩
 rotate_left
 rcases c _ _ m with m|m;cases m;exact⟨_,rfl,.lst (SnL.of q na) (g.to λb _ _ z=>up b z)⟩;obtain⟨v,e,dn⟩:=h.fr x d m;exact⟨v,e,dn.to λb _ _ z=>up b z⟩;rcases c _ _ m with m|m;cases m;obtain⟨b,ws,e,e2,dn,r⟩:=h.ow x d m;exact⟨b,ws,e,e2,dn.to λb _ _ z=>up b z,r⟩;rcases c _ _ m with m|m;cases m;obtain⟨b,ws,e,e2,dn,r⟩:=h.io x d m;exact⟨b,ws,e,e2,dn.to λb _ _ z=>up b z,r⟩;rw[f];exact IT.mpr ⟨k,o,λx hx y u=>j x hx y (IM _ u)⟩
theorem aU.freezeT{v:V}{S:List ap}{d:ab}(h:aU K M P H0 (A++(some v,.tr S d)::B) H):aU K M P H0 (A++(some v,.fr d)::B) H:=by
 have i:oas (A++(some v,Sl.tr S d)::B)=oas A++(S++oas B):=by rw[ah,aj,aK]
 have f:oas (A++(some v,Sl.fr d)::B)=oas A++oas B:=by rw[ah,aj,dy];rfl
 have nd:=h.nd;rw[i] at nd;obtain⟨k,l,j⟩:=IT.mp nd;obtain⟨u,n,o⟩:=IT.mp l;have up:∀b,Nw M (A++(some v,Sl.fr d)::B) b->Nw M (A++(some v,Sl.tr S d)::B) b:=Nw.sub λb z=>by
  rw[f] at z;rw[i];rcases II.mp z with z|z;exact IJ _ z;exact IE _ (IE _ z)
 have p:(some v,Sl.tr S d)∈A++(some v,Sl.tr S d)::B:=IE _ IL;obtain⟨v',z,ot,q⟩:=h.tr _ _ _ p;cases z;have na:∀a∈S,¬Nw M (A++(some v,Sl.fr d)::B) a:=λa g z=>by
  rcases z with z|z;exact h.mt a z (q a g);rw[f] at z;rcases II.mp z with z|z;exact j a z a (IJ _ g) rfl;exact o a g a z rfl
 have c:∀x s,(x,s)∈A++(some v,Sl.fr d)::B->(x,s)=(some v,Sl.fr d)\/(x,s)∈A++(some v,Sl.tr S d)::B:=λx s m=>by
  rcases II.mp m with m|m;exact .inr (IJ _ m);rcases IR.mp m with m|m;exact .inl m;exact .inr (IE _ (IM _ m))
 refine⟨h.keep,h.live,h.mt,h.pm,λx d' m=>?_,λx d' m=>?_,λx d' m=>?_,λx S' d' m=>?_,?_⟩;rcases c _ _ m with m|m;cases m;exact⟨_,rfl,ot.dn up na⟩;obtain⟨v,e,dn⟩:=h.fr x d' m;exact⟨v,e,dn.to λb _ _ z=>up b z⟩;rcases c _ _ m with m|m;cases m;obtain⟨b,ws,e,e2,dn,r⟩:=h.ow x d' m;exact⟨b,ws,e,e2,dn.to λb _ _ z=>up b z,r⟩;rcases c _ _ m with m|m;cases m;obtain⟨b,ws,e,e2,dn,r⟩:=h.io x d' m;exact⟨b,ws,e,e2,dn.to λb _ _ z=>up b z,r⟩;rcases c _ _ m with m|m;cases m;obtain⟨v,e,dn,r⟩:=h.tr x S' d' m;exact⟨v,e,dn.to λb _ _ z=>up b z,r⟩;rw[f];exact IT.mpr ⟨k,n,λx hx y t=>j x hx y (IE _ t)⟩
def Bi:Sl->List ab->Sl->Prop
 | .ow _,ds',s'=>s'=.ow ds'
 | .io _,ds',s'=>s'=.io ds'
 | _,_,_=>False
theorem cM{s s':Sl}{l:List ab}(h:Bi s l s'):(∃d,s=.ow d/\s'=.ow l)\/∃d,s=.io d/\s'=.io l:=by
 cases s with
 | ow d=>exact .inl ⟨d,rfl,h⟩
 | io d=>exact .inr ⟨d,rfl,h⟩
 | _=>exact h.elim
theorem fU{s s':Sl}{l:List ab}{a:ap}(h:Bi s l s'):cH (some (.ref a),s)=[a]/\cH (some (.ref a),s')=[a]:=by rcases cM h with⟨_,rfl,rfl⟩|⟨_,rfl,rfl⟩ <;> exact⟨rfl,rfl⟩
theorem aU.muted{a:ap}{s s':Sl}{vs':List V}{ds':List ab}(h:aU K M P H0 (A++(some (.ref a),s)::B) H)(hs:Bi s ds' s')(k:aO (λb=>b=a) H H')(D:∀b,H b≠none->H' b≠none)
  (u:H' a=some (.lst vs')) (g:DNs K (Nw M (A++(some (.ref a),s)::B)) H' vs' ds'):aU K M P H0 (A++(some (.ref a),s')::B) H':=by
 have w:cH (some (.ref a),s)=[a]/\cH (some (.ref a),s')=[a]:=fU hs;have l:oas (A++(some (.ref a),s)::B)=oas A++a::oas B:=by rw[ah,aj,w.1];rfl
 have i:oas (A++(some (.ref a),s')::B)=oas A++a::oas B:=by rw[ah,aj,w.2];rfl
 have ne:Nw M (A++(some (.ref a),s')::B)=Nw M (A++(some (.ref a),s)::B):=by unfold Nw;rw[l,i]
 have na:Nw M (A++(some (.ref a),s)::B) a:=.inr (by rw[l];simp);have nd:=h.nd;rw[l] at nd;obtain⟨J,E,F⟩:=IT.mp nd;obtain⟨G,L⟩:=Jr.mp E;have n:aO (Nw M (A++(some (.ref a),s)::B)) H H':=k.mono λb z=>by rw[z];exact na
 obtain⟨ws,hw,I⟩:=h.own (a:=a) (by rw[l];simp);have other:∀x t b,(x,t)∈A\/(x,t)∈B->b∈cH (x,t)->b≠a:=λx t b m y z=>by
  subst z;rcases m with m|m;exact F b (aT.mpr ⟨_,m,y⟩) b IL rfl;exact G (aT.mpr ⟨_,m,y⟩)
 have f:∀x t,(x,t)∈A++(some (.ref a),s')::B->(x,t)=(some (.ref a),s')\/((x,t)∈A\/(x,t)∈B):=λx t m=>by
  rcases II.mp m with m|m;exact .inr (.inl m);rcases IR.mp m with m|m;exact .inl m;exact .inr (.inr m)
 have c:∀x t,(x,t)∈A\/(x,t)∈B->(x,t)∈A++(some (.ref a),s)::B:=λx t m=>by
  rcases m with m|m;exact IJ _ m;exact IE _ (IM _ m)
 have N:(some (.ref a),s)∈A++(some (.ref a),s)::B:=IE _ IL;refine⟨?_,λb q=>D b (h.live b q),h.mt,h.pm,λx d m=>?_,λx d m=>?_,λx d m=>?_,λx S d m=>?_,by rw[i];exact nd⟩
 rotate_right
 rw[ne];rcases f _ _ m with m|m;rcases cM hs with⟨_,_,e⟩|⟨_,_,e⟩ <;> (rw[e] at m;cases m)
 obtain⟨v,e,dn,r⟩:=h.tr x S d (c _ _ m);subst e;refine⟨v,rfl,dn.keep n λb j=>?_,r⟩;obtain⟨xs,z⟩:=dn.lives b j;rw[k _ _ (other _ _ b m (by rw[aK];exact j)) z,z];intro b o C e;by_cases j:b=a;subst j;rcases I with q|q;rw[q] at e;cases e;exact absurd q C;exact k b o j (h.keep b o C e);rw[ne];rcases f _ _ m with m|m;rcases cM hs with⟨_,_,e⟩|⟨_,_,e⟩ <;> (rw[e] at m;cases m)
 obtain⟨v,e,dn⟩:=h.fr x d (c _ _ m);exact⟨v,e,dn.keep n⟩;rw[ne];rcases f _ _ m with m|m;rcases cM hs with⟨p,e1,e2⟩|⟨_,_,e2⟩ <;> (rw[e2] at m;cases m)
 obtain⟨b,us,e,_,_,r⟩:=h.ow (some (.ref a)) p (IE _ (by rw[e1];exact IL));cases e;exact⟨a,vs',rfl,u,g,r⟩;obtain⟨b,us,e,e2,dn,r⟩:=h.ow x d (c _ _ m);subst e;exact⟨b,us,rfl,k _ _ (other _ _ b m (IG.mpr rfl)) e2,dn.keep n,r⟩;rw[ne];rcases f _ _ m with m|m;rcases cM hs with⟨_,_,e2⟩|⟨p,e1,e2⟩ <;> (rw[e2] at m;cases m)
 obtain⟨b,us,e,_,_,r⟩:=h.io (some (.ref a)) p (IE _ (by rw[e1];exact IL));cases e;exact⟨a,vs',rfl,u,g,r⟩;obtain⟨b,us,e,e2,dn,r⟩:=h.io x d (c _ _ m);subst e;exact⟨b,us,rfl,k _ _ (other _ _ b m (IG.mpr rfl)) e2,dn.keep n,r⟩
theorem aU.mut{a:ap}{s s':Sl}{vs':List V}{ds':List ab}(h:aU K M P H0 (A++(some (.ref a),s)::B) H)(hs:Bi s ds' s')(d:DNs K (Nw M (A++(some (.ref a),s)::B)) H vs' ds') :
  aU K M P H0 (A++(some (.ref a),s')::B) (upd H a (.lst vs')) :=
 have f:cH (some (.ref a),s)=[a]:=(fU hs).1
 h.muted hs (λb o c e=>by rw[al c];exact e) (λb q z=>by
  by_cases c:b=a;rw[c,aq] at z;cases z;rw[al c] at z;exact q z) aq (d.keep (aO.own (.inr (aT.mpr ⟨_,IE _ IL,by rw[f];exact IG.mpr rfl⟩))))
theorem aU.move{t:Ent}(h:aU K M P H0 (A++e::(B++[t])) H):aU K M P H0 (A++t::B) H:=by
 refine h.sub (λx s m=>.inl ?_) ?_;rcases II.mp m with m|m;exact IJ _ m;rcases IR.mp m with m|m;exact IE _ (IM _ (IE _ (by rw[m];simp)));exact IE _ (IM _ (IJ _ m));have nd:=h.nd;have b:oas (A++e::(B++[t]))=oas A++(oas [e]++(oas B++oas [t])):=by rw[ah,show e::(B++[t])=[e]++(B++[t]) from rfl,ah,ah]
 have c:oas (A++t::B)=oas A++(oas [t]++oas B):=by rw[ah,show t::B=[t]++B from rfl,ah]
 rw[b] at nd;rw[c];obtain⟨d,f,g⟩:=IT.mp nd;obtain⟨_,i,_⟩:=IT.mp f;obtain⟨j,k,l⟩:=IT.mp i;refine IT.mpr ⟨d,IT.mpr ⟨k,j,λx hx y a z=>l y a x hx z.symm⟩,λx hx y a=>?_⟩;refine g x hx y (IE _ ?_);rcases II.mp a with a|a;exact IE _ a;exact IJ _ a
end
structure Rel(K:ca)(M P:ap->Prop)(H0:Hp)(σ0 σ:St)(env:List Sl)(ts:List (V×Sl))(H:Hp):Prop where
 e : aU K M P H0 (aw σ env ts) H
 len:σ.length=env.length
 vw : ∀(v:V) (i:Nat),(v,Sl.vw i)∈ts->σ[i]? = some (some v)
 ios:∀(i:Nat) (ds:List ab),env[i]? = some (Sl.io ds)->σ[i]? = σ0[i]?
inductive Vw (K:ca) (N:ap->Prop) (H:Hp):V->ab->Prop
 | dn {v d}:DN K N H v d->Vw K N H v d
 | ow {a vs ds}:H a=some (.lst vs)->DNs K N H vs ds->Vw K N H (.ref a) (.list ds)
 | dct {a:ap}{es:List (aL×ap×V)}{kvs:List (aL×ab)}:H a=some (.ext (ce a es))->DNs K N H (es.map λp=>V.ref p.2.1) (kvs.map λp=>dD p.1)->DNs K N H (es.map λp=>p.2.2) (kvs.map λp=>p.2)->es.map (λp=>p.1)=kvs.map (λp=>p.1)->Vw K N H (.ref a) (eD kvs)
def slD:Sl->Option ab
 | .fr d=>some d
 | .ow ds=>some (.list ds)
 | .io ds=>some (.list ds)
 | .tr _ (.dict kvs)=>some (.dict kvs)
 | _=>none
def aC(env:List Sl):Sl->Option ab
 | .vw i=>(env[i]?).bind slD
 | .fr d=>some d
 | .ow ds=>some (.list ds)
 | .io ds=>some (.list ds)
 | .tr _ (.dict kvs)=>some (.dict kvs)
 | _=>none
def slK:Sl->Option ab
 | .fr d=>some d
 | _=>none
def aV(env:List Sl):Sl->Option ab
 | .vw i=>(env[i]?).bind slK
 | .fr d=>some d
 | .ow ds=>some (.list ds)
 | .tr _ d=>some d
 | _=>none
section
variable {K:ca}{M P N:ap->Prop}{H0 H H':Hp}{σ0 σ:St}{env:List Sl}{ts tt:List (V×Sl)}{v:V}{s:Sl}{d:ab}
theorem ar:aw σ env (ts++tt)=aw σ env ts++tmp tt:=by unfold aw;rw[JE];simp[tmp]
theorem OT.dict_view{S:List ap}{kvs:List (ab×ab)}(h:OT K N H v (.dict kvs) S):Vw K N H v (.dict kvs):=by
 generalize e:PyData.dict kvs=d at h;cases h with
 | dct h q r e2=>exact .dct h q r e2
 | fz h=>exact .dn (.fz h)
 | _=>cases e
theorem Vw.dv(h:Vw K N H v d):DV K H v d:=by
 cases h with
 | dn h=>exact h.dv
 | ow h q=>exact .lst (SqL.of h) q.dv
 | dct h q r e=>exact .dct h q.dv r.dv e
theorem Vw.list{ds:List ab}(h:Vw K N H v (.list ds)):∃a vs,v=.ref a/\SqL K H a vs/\DNs K N H vs ds:=by
 cases h with
 | dn h=>obtain⟨a,vs,e,s,q⟩:=h.list;exact⟨a,vs,e,s.sq,q⟩
 | ow h q=>exact⟨_,_,rfl,SqL.of h,q⟩
theorem Vw.tuple{ds:List ab}(h:Vw K N H v (.tuple ds)):∃a vs,v=.ref a/\SqT K H a vs/\DNs K N H vs ds:=by
 cases h with
 | dn h=>obtain⟨a,vs,e,s,q⟩:=h.tuple;exact⟨a,vs,e,s.sq,q⟩
theorem Vw.int{i:Int}(h:Vw K N H v (.int i)):v=.int i:=by
 cases h with
 | dn h=>cases h;rfl
theorem Vw.bool{i:Bool}(h:Vw K N H v (.bool i)):v=.bl i:=by
 cases h with
 | dn h=>cases h;rfl
theorem Vw.none(h:Vw K N H v .none):v=.non:=by
 cases h with
 | dn h=>cases h;rfl
theorem Vw.str{i:bx}(h:Vw K N H v (.str i)):v=.str i:=by
 cases h with
 | dn h=>cases h;rfl
theorem sG(h:σ.length=env.length){i:Nat}(e:env[i]? = some s):∃x,σ[i]? = some x/\(x,s)∈σ.zip env:=by
 have hi:i<env.length:=(IN.mp e).1;have hj:i<σ.length:=by omega
 refine⟨σ[i],IK hj,?_⟩;have hz:i<(σ.zip env).length:=by rw[JZ];omega
 have:=Ju hz;rw[J3] at this;rwa [(IN.mp e).2] at this
theorem cS(m:(v,s)∈ts):((some v,s):Ent)∈aw σ env ts:=IE _ (IZ.mpr ⟨(v,s),m,rfl⟩)
theorem Rel.slot(h:Rel K M P H0 σ0 σ env ts H){i:Nat}(e:env[i]? = some s):∃x,σ[i]? = some x/\(x,s)∈aw σ env ts:=by obtain⟨x,e1,m⟩:=sG h.len e;exact⟨x,e1,IJ _ m⟩
theorem aU.viewE{E:List Ent}(h:aU K M P H0 E H){x:Option V}(m:(x,s)∈E)(e:slD s=some d):∃v,x=some v/\Vw K (Nw M E) H v d:=by
 cases s with
 | fr d' =>
  cases e;obtain⟨v,e1,dn⟩:=h.fr _ _ m;exact⟨v,e1,.dn dn⟩
 | ow ds =>
  cases e;obtain⟨a,vs,e1,e2,dn,_⟩:=h.ow _ _ m;exact⟨_,e1,.ow e2 dn⟩
 | io ds =>
  cases e;obtain⟨a,vs,e1,e2,dn,_⟩:=h.io _ _ m;exact⟨_,e1,.ow e2 dn⟩
 | un=>cases e
 | vw i=>cases e
 | tr S d' =>
  cases d' with
  | dict kvs =>
   cases e;obtain⟨v,e1,ot,_⟩:=h.tr _ _ _ m;exact⟨v,e1,ot.dict_view⟩
  | _=>cases e
theorem Rel.there(h:Rel K M P H0 σ0 σ env ts H){i:Nat}(e:(env[i]?).bind slD=some d):∃v,σ[i]? = some (some v)/\Vw K (Nw M (aw σ env ts)) H v d:=by
 cases q:env[i]? with
 | none=>rw[q] at e;cases e
 | some s =>
  rw[q] at e;obtain⟨x,e1,m⟩:=h.slot q;obtain⟨v,e2,w⟩:=h.e.viewE m e;exact⟨v,by rw[e1,e2],w⟩
theorem Rel.view(h:Rel K M P H0 σ0 σ env ts H)(m:(v,s)∈ts)(e:aC env s=some d):Vw K (Nw M (aw σ env ts)) H v d:=by
 cases s with
 | vw i =>
  obtain⟨w,e1,q⟩:=h.there e;rw[h.vw v i m] at e1;cases e1;exact q
 | un=>cases e
 | tr S d' =>
  cases d' with
  | dict kvs=>obtain⟨w,e1,q⟩:=h.e.viewE (s:=.tr S (.dict kvs)) (cS m) e;cases e1;exact q
  | _=>cases e
 | fr d'=>obtain⟨w,e1,q⟩:=h.e.viewE (cS m) e;cases e1;exact q
 | ow d'=>obtain⟨w,e1,q⟩:=h.e.viewE (cS m) e;cases e1;exact q
 | io d'=>obtain⟨w,e1,q⟩:=h.e.viewE (cS m) e;cases e1;exact q
theorem eM{E B:List Ent}{b:ap}(h:Nw M E b):Nw M (E++B) b:=by rcases h with h|h;exact .inl h;exact .inr (by rw[ah];exact IJ _ h)
theorem Rel.drop(h:Rel K M P H0 σ0 σ env (ts++tt) H):Rel K M P H0 σ0 σ env ts H :=
 ⟨by have:=h.e;rw[ar] at this;exact this.drop,h.len,λv i m=>h.vw v i (IJ _ m),h.ios⟩
theorem Rel.same(h:Rel K M P H0 σ0 σ env ts H)(k:aS H H'):Rel K M P H0 σ0 σ env ts H':=⟨h.e.same k,h.len,h.vw,h.ios⟩
theorem Rel.addFr(h:Rel K M P H0 σ0 σ env ts H)(dn:DN K (Nw M (aw σ env ts)) H v d):Rel K M P H0 σ0 σ env (ts++[(v,.fr d)]) H :=
 ⟨by rw[ar];exact h.e.addFr dn,h.len,(λw i m=>by
  rcases II.mp m with m|m;exact h.vw w i m;rw[IG] at m;cases m),h.ios⟩
theorem Rel.addVw(h:Rel K M P H0 σ0 σ env ts H){i:Nat}(e:σ[i]? = some (some v)):Rel K M P H0 σ0 σ env (ts++[(v,.vw i)]) H :=
 ⟨by rw[ar];exact h.e.addVw,h.len,(λw i m=>by
  rcases II.mp m with m|m;exact h.vw w i m;rw[IG] at m;cases m;exact e),h.ios⟩
theorem Rel.addOw(h:Rel K M P H0 σ0 σ env ts H){p:ap}{vs:List V}{ds:List ab}(b:H p=none)(a:DNs K (Nw M (aw σ env ts)) H vs ds):Rel K M P H0 σ0 σ env (ts++[(.ref p,.ow ds)]) (upd H p (.lst vs)) :=
 ⟨by rw[ar];exact h.e.addOw b a,h.len,(λw i m=>by
  rcases II.mp m with m|m;exact h.vw w i m;rw[IG] at m;cases m),h.ios⟩
theorem Rel.res(h:Rel K M P H0 σ0 σ env (ts++tt) H)(k:aS H H')(dn:DN K (Nw M (aw σ env (ts++tt))) H' v d):Rel K M P H0 σ0 σ env (ts++[(v,.fr d)]) H' :=
 (h.drop.same k).addFr (dn.to λb _ _ z=>by rw[ar];exact eM z)
theorem Rel.resOw(h:Rel K M P H0 σ0 σ env (ts++tt) H){p:ap}{vs:List V}{ds:List ab}(c:H p=none)(a:DNs K (Nw M (aw σ env (ts++tt))) H vs ds):Rel K M P H0 σ0 σ env (ts++[(.ref p,.ow ds)]) (upd H p (.lst vs)) :=
 h.drop.addOw c (a.to λb _ _ z=>by rw[ar];exact eM z)
end
abbrev DE:=List Sl->(Sl->List Sl->Prop)->Prop
abbrev DT:=List Sl->(Bool->List Sl->Prop)->Prop
abbrev DA:=List Sl->(List Sl->List Sl->Prop)->Prop
structure Wn{α:Type}(a:α):Type
def dK(R:Sl->List Sl->Prop)(_:Wn R):Sl->List Sl->Prop:=R
theorem zl(R:Sl->List Sl->Prop)(w:Wn R)(s:Sl)(env:List Sl):dK R w s env=R s env:=rfl
def dI(W:List Sl->Prop)(_:Wn W):List Sl->Prop:=W
theorem EA(W:List Sl->Prop)(w:Wn W)(env:List Sl):dI W w env=W env:=rfl
abbrev Wk(G Q:Prop):Prop:=(G->Q)->(Q->G)->Q->G
theorem sH{c:Bool}{p A d B f:Prop} [Decidable p](e:c=decide p)(a:d->A)(b:f->B)(h:if p then d else f):if c=true then A else B:=by subst e;by_cases q:p;rw[if_pos q] at h;rw[if_pos (decide_eq_true q)];exact a h;rw[if_neg q] at h;rw[if_neg λz=>q (of_decide_eq_true z)];exact b h
inductive up (K:ca) (t:DE) (σ:St) (H:Hp) (Q:VK):Prop
 | mk (M P:ap->Prop) (H0:Hp) (σ0:St) (env:List Sl) (ts:List (V×Sl)) (R:Sl->List Sl->Prop):Rel K M P H0 σ0 σ env ts H->t env R ->
 (∀s env' v H',R s env'->Rel K M P H0 σ0 σ env' (ts++[(v,s)]) H'->Q v H')->up K t σ H Q
inductive upT (K:ca) (t:DT) (σ:St) (H:Hp) (Q:Bool->Hp->Prop):Prop
 | mk (M P:ap->Prop) (H0:Hp) (σ0:St) (env:List Sl) (ts:List (V×Sl)) (R:Bool->List Sl->Prop):Rel K M P H0 σ0 σ env ts H->t env R ->
 (∀b env' H',R b env'->Rel K M P H0 σ0 σ env' ts H'->Q b H')->upT K t σ H Q
inductive upA (K:ca) (t:DA) (σ:St) (H:Hp) (Q:List V->Hp->Prop):Prop
 | mk (M P:ap->Prop) (H0:Hp) (σ0:St) (env:List Sl) (ts:List (V×Sl)) (R:List Sl->List Sl->Prop):Rel K M P H0 σ0 σ env ts H->t env R ->
 (∀ss env' vs H',R ss env'->vs.length=ss.length->Rel K M P H0 σ0 σ env' (ts++vs.zip ss) H'->Q vs H')->upA K t σ H Q
theorem PE.imp{X:Cx}{e:bb}{t t':TE}(h:PE X e t)(k:∀σ H Q,t' σ H Q->t σ H Q):PE X e t':=λpins s σ H Q I hw=>h pins s σ H Q I (k σ H Q hw)
theorem PT.imp{X:Cx}{e:bb}{t t':TT}(h:PT X e t)(k:∀σ H Q,t' σ H Q->t σ H Q):PT X e t':=λpins s σ H Q I hw=>h pins s σ H Q I (k σ H Q hw)
theorem PW.imp{X:Cx}{e:bb}{t t':TT}(h:PW X e t)(k:∀σ H Q,t' σ H Q->t σ H Q):PW X e t':=λwh pins s σ H Q I hw=>h wh pins s σ H Q I (k σ H Q hw)
theorem PA.imp{X:Cx}{e:List bb}{t t':TA}(h:PA X e t)(k:∀σ H Q,t' σ H Q->t σ H Q):PA X e t':=λpos pins s σ H Q I hw=>h pos pins s σ H Q I (k σ H Q hw)
section
variable {X:Cx}{K:ca}{pos:Pos}{a b c:bb}{ta tb tc:DE}{es:List bb}{tA tB':DT}{tl:DA}
def Fb(i:Nat):DE:=λenv R=>∃d,(env[i]?).bind slD=some d/\R (.vw i) env
theorem qv(i:Nat){x:bx}(hN:X.N[i]? = some x:=by rfl)(hv:Vis X.env.scope x:=by first|exact Or.inl rfl|exact Or.inr cc|exact Or.inr (Or.inr rfl))(hd:(x==("__debug__" : bx))=false:=by decide)
  (b:(x==("__classdict__" : bx))=false:=by decide):PE X (.Name x pos) (up K (Fb i)):=(bu hN hv hd b).imp λσ H Q h=>by
 obtain⟨M,P,H0,σ0,env,ts,R,a,⟨d,e,c⟩,f⟩:=h;obtain⟨v,e1,_⟩:=a.there e;exact⟨v,e1,f _ _ _ _ c (a.addVw e1)⟩
theorem fP{α:Type}:∀{l:List α}{i:Nat}{x:α},l[i]? = some x->∃A B,l=A++x::B/\∀y,l.set i y=A++y::B
 | [],i,x,h=>by simp at h
 | z::l,0,x,h=>by
  simp at h;subst h;exact⟨[],l,rfl,λy=>rfl⟩
 | z::l,i+1,x,h=>by
  obtain⟨A,B,e1,e2⟩:=fP (l:=l) (i:=i) (x:=x) (by simpa using h);exact⟨z::A,B,by rw[e1];rfl,λy=>by rw[List.set_cons_succ,e2 y];rfl⟩
theorem dG{α β:Type}(l:List α)(m:List β)(j:Nat):(l.zip m)[j]? = (l[j]?).bind λa=>(m[j]?).map λb=>(a,b):=by rw[List.zip,List.getElem?_zipWith];cases l[j]? <;> cases m[j]? <;> rfl
theorem sF{σ:St}{env:List Sl}{i:Nat}{x:Option V}{s':Sl}(h:σ[i]? = some x):σ.zip (env.set i s')=(σ.zip env).set i (x,s'):=by apply List.ext_getElem?;intro j;by_cases hj:i=j;subst hj;rw[Ke,dG,dG,h];by_cases hi:i<env.length;rw[Jc hi,IK hi];rfl;rw[List.getElem?_eq_none (by simp;omega),List.getElem?_eq_none (by omega)];rfl;rw[Je hj,dG,dG,Je hj]
theorem Rel.split{M P:ap->Prop}{H0 H:Hp}{σ0 σ:St}{env:List Sl}{ts:List (V×Sl)}{i:Nat}{s:Sl}(h:Rel K M P H0 σ0 σ env ts H)(e:env[i]? = some s) :
  ∃x A B,σ[i]? = some x/\aw σ env ts=A++(x,s)::B/\∀s',aw σ (env.set i s') ts=A++(x,s')::B:=by
 obtain⟨x,e1,m⟩:=sG h.len e;have a:(σ.zip env)[i]? = some (x,s):=by rw[List.zip,List.getElem?_zipWith,e1,e]
 obtain⟨A,B,b,c⟩:=fP a;refine⟨x,A,B++tmp ts,e1,by unfold aw;rw[b];simp,λs'=>?_⟩;unfold aw;rw[sF e1,c];simp
def zm(i:Nat):DE:=λenv R=>match env[i]? with
 | some (.fr d)=>R (.fr d) env
 | some (.tr _ d)=>R (.fr d) (env.set i (.fr d))
 | some (.ow ds)=>R (.fr (.list ds)) (env.set i (.fr (.list ds)))
 | _=>False
theorem Rel.frz{M P:ap->Prop}{H0 H:Hp}{σ0 σ:St}{env:List Sl}{ts:List (V×Sl)}{i:Nat}{ds:List ab}(h:Rel K M P H0 σ0 σ env ts H)(e:env[i]? = some (.ow ds)):Rel K M P H0 σ0 σ (env.set i (.fr (.list ds))) ts H:=by obtain⟨x,A,B,e1,b,c⟩:=h.split e;have r:=h.e;rw[b] at r;obtain⟨a,vs,z,_⟩:=r.ow _ _ (IE _ IL);subst z;refine⟨by rw[c];exact r.freeze,by simp[h.len],h.vw,λj ds' e'=>?_⟩;by_cases hj:i=j;subst hj;have hi:i<env.length:=(IN.mp e).1;rw[Jc hi] at e';cases e';rw[Je hj] at e';exact h.ios j ds' e'
theorem Rel.frzT{M P:ap->Prop}{H0 H:Hp}{σ0 σ:St}{env:List Sl}{ts:List (V×Sl)}{i:Nat}{S:List ap}{d:ab}(h:Rel K M P H0 σ0 σ env ts H)(e:env[i]? = some (.tr S d)):Rel K M P H0 σ0 σ (env.set i (.fr d)) ts H:=by obtain⟨x,A,B,e1,a,b⟩:=h.split e;have r:=h.e;rw[a] at r;obtain⟨v,z,_⟩:=r.tr _ _ _ (IE _ IL);subst z;refine⟨by rw[b];exact r.freezeT,by simp[h.len],h.vw,λj ds' e'=>?_⟩;by_cases hj:i=j;subst hj;have hi:i<env.length:=(IN.mp e).1;rw[Jc hi] at e';cases e';rw[Je hj] at e';exact h.ios j ds' e'
theorem qf(i:Nat){x:bx}(hN:X.N[i]? = some x:=by rfl)(hv:Vis X.env.scope x:=by first|exact Or.inl rfl|exact Or.inr cc|exact Or.inr (Or.inr rfl))(hd:(x==("__debug__" : bx))=false:=by decide)
  (c:(x==("__classdict__" : bx))=false:=by decide):PE X (.Name x pos) (up K (zm i)):=(bu hN hv hd c).imp λσ H Q h=>by
 obtain⟨M,P,H0,σ0,env,ts,R,b,ht,f⟩:=h;have key:∀env' d,Rel K M P H0 σ0 σ env' ts H->env'[i]? = some (.fr d)->R (.fr d) env'->vR i σ H Q:=λenv' d a e' g=>by
  obtain⟨j,e1,m⟩:=a.slot e';obtain⟨v,e2,dn⟩:=a.e.fr _ _ m;subst e2;exact⟨v,e1,f _ _ _ _ g (a.addFr dn)⟩
 unfold zm at ht;split at ht;rename_i d e;exact key env d b e ht;rename_i S d e;have hi:i<env.length:=(IN.mp e).1;exact key _ _ (b.frzT e) (Jc hi) ht;rename_i ds e;have hi:i<env.length:=(IN.mp e).1;exact key _ _ (b.frz e) (Jc hi) ht;exact ht.elim
def dC(d:ab):DE:=λenv R=>R (.fr d) env
theorem ag{i j}:PE X (.Constant (.int i) j pos) (up K (dC (.int i))):=lF.imp λσ H Q h=>by
 obtain⟨M,P,H0,σ0,env,ts,R,a,ht,b⟩:=h;exact b _ _ _ _ ht (a.addFr (.int i))
theorem wI{i j}:PE X (.Constant (.bool i) j pos) (up K (dC (.bool i))):=FS.imp λσ H Q h=>by
 obtain⟨M,P,H0,σ0,env,ts,R,a,ht,b⟩:=h;exact b _ _ _ _ ht (a.addFr (.bl i))
theorem fb{j}:PE X (.Constant .none j pos) (up K (dC .none)):=Do.imp λσ H Q h=>by
 obtain⟨M,P,H0,σ0,env,ts,R,a,ht,b⟩:=h;exact b _ _ _ _ ht (a.addFr .non)
theorem fL{i j}:PE X (.Constant (.str i) j pos) (up K (dC (.str i))):=yN.imp λσ H Q h=>by
 obtain⟨M,P,H0,σ0,env,ts,R,a,ht,b⟩:=h;exact b _ _ _ _ ht (a.addFr (.str i))
abbrev G2:=ab->ab->(ab->Prop)->Prop
def dOp(g:G2)(ta tb:DE):DE:=λenv R=>ta env λs1 b=>tb b λs2 a=>∃d1 d2,aC a s1=some d1/\aC a s2=some d2/\g d1 d2 λd=>R (.fr d) a
def bq(K:ca)(r:R2)(g:G2):Prop:=∀(N:ap->Prop) (H:Hp) (x y:V) (d1 d2:ab) (R:ab->Prop) (Q:VK),Vw K N H x d1->Vw K N H y d2->g d1 d2 R->(∀d v,R d->DN K N H v d->Q v H)->r x y H Q
theorem wX{r:R2}{g:G2}(m:bq K r g):∀σ H Q,up K (dOp g ta tb) σ H Q->tOp r (up K ta) (up K tb) σ H Q:=λσ H Q h=>by
 obtain⟨M,P,H0,σ0,env,ts,R,i,ht,l⟩:=h;refine⟨M,P,H0,σ0,env,ts,_,i,ht,λs1 c v1 H1 h1 e=>⟨M,P,H0,σ0,c,ts++[(v1,s1)],_,e,h1,λs2 f j k h2 a=>?_⟩⟩;obtain⟨d1,d2,e1,e2,g⟩:=h2;refine m _ k v1 j d1 d2 _ Q (a.view (by simp) e1) (a.view (by simp) e2) g λd v n dn=>l _ _ _ _ n ?_;have b:Rel K M P H0 σ0 σ f (ts++[(v1,s1),(j,s2)]) k:=by simpa using a
 exact b.res (aS.refl _) (by simpa using dn)
theorem bt{op:Operator}{r:R2}{g:G2}(ho:OpR X (KN op) r)(m:bq K r g)(c:PE X a (up K ta))(d:PE X b (up K tb)):PE X (.BinOp a op b pos) (up K (dOp g ta tb)):=(AJ ho c d).imp (wX m)
theorem jd{op:CmpOp}{r:R2}{g:G2}(ho:OpR X (q4 op) r)(m:bq K r g)(c:PE X a (up K ta))(d:PE X b (up K tb))(e:Qh op b=false:=by first|exact yR _|with_unfolding_all rfl):PE X (.Compare a [op] [b] pos) (up K (dOp g ta tb)):=(AO ho c d e).imp (wX m)
def oW(t:DE):DT:=λenv R=>t env λs a=>∃k,aC a s=some (.bool k)/\R k a
theorem sO{t:TE}{c:DE}(h:∀σ H Q,up K c σ H Q->t σ H Q):∀σ H Q,upT K (oW c) σ H Q->zP t σ H Q:=λσ H Q f=>by
 obtain⟨M,P,H0,σ0,env,ts,R,b,ht,g⟩:=f;refine h σ H _ ⟨M,P,H0,σ0,env,ts,_,b,ht,λs1 d v1 H1 h1 a=>?_⟩;obtain⟨k,e,i⟩:=h1;exact⟨k,(a.view (by simp) e).bool,g _ _ _ i a.drop⟩
theorem ay{op:CmpOp}{r:R2}{g:G2}(ho:OpR X (q4 op) r)(m:bq K r g)(c:PE X a (up K ta))(d:PE X b (up K tb))(e:Qh op b=false:=by first|exact yR _|with_unfolding_all rfl):PT X (.Compare a [op] [b] pos) (upT K (oW (dOp g ta tb))):=(tU ho c d e).imp (sO (wX m))
theorem C4{r:R2}{g:G2}(c:IxR X r)(m:bq K r g)(d:PE X a (up K ta))(e:PE X b (up K tb))(hs:dZ b:=by exactλ_ _=>rfl):PE X (.Subscript a b pos) (up K (dOp g ta tb)):=(uc c d e hs).imp (wX m)
theorem gC{e:bb}{t:DE}(h:PE X e (up K t))(b:∀a,QF e X.env a=(do let v <-a;K2 e.pos;KI [v] (Ze v)):=by intro _;rfl):PT X e (upT K (oW t)):=(Da h b).imp (sO λ_ _ _ h=>h)
def GE(t u:DT):DT:=λenv R=>t env λk a=>if k=true then u a R else R false a
def dOr(t u:DT):DT:=λenv R=>t env λk a=>if k=true then R true a else u a R
def Fe(t:DT):DT:=λenv R=>t env λk a=>R (!k) a
theorem iB(b:PT X a (upT K tA)):PW X (.BoolOp .And [a] pos) (upT K tA):=Av b
theorem lA(b:PT X a (upT K tA)):PW X (.BoolOp .Or [a] pos) (upT K tA):=C8 b
theorem jz(g:PT X a (upT K tA))(i:PW X (.BoolOp .And (b::es) pos) (upT K tB')):PW X (.BoolOp .And (a::b::es) pos) (upT K (GE tA tB')):=(C9 g i).imp λσ H Q h=>by
 obtain⟨M,P,H0,σ0,env,ts,R,e,ht,f⟩:=h;refine⟨M,P,H0,σ0,env,ts,_,e,ht,λk d H1 h1 c=>?_⟩;cases k with
 | true=>exact⟨M,P,H0,σ0,d,ts,R,c,h1,f⟩
 | false=>exact f _ _ _ h1 c
theorem lB(g:PT X a (upT K tA))(i:PW X (.BoolOp .Or (b::es) pos) (upT K tB')):PW X (.BoolOp .Or (a::b::es) pos) (upT K (dOr tA tB')):=(FQ g i).imp λσ H Q h=>by
 obtain⟨M,P,H0,σ0,env,ts,R,e,ht,f⟩:=h;refine⟨M,P,H0,σ0,env,ts,_,e,ht,λk d H1 h1 c=>?_⟩;cases k with
 | false=>exact⟨M,P,H0,σ0,d,ts,R,c,h1,f⟩
 | true=>exact f _ _ _ h1 c
theorem gE(e:PT X a (upT K tA)):PT X (.UnaryOp .Not a pos) (upT K (Fe tA)):=(Db e).imp λσ H Q h=>by
 obtain⟨M,P,H0,σ0,env,ts,R,c,ht,f⟩:=h;exact⟨M,P,H0,σ0,env,ts,_,c,ht,λk d H1 h1 b=>f _ _ _ h1 b⟩
def B0(t u:DE):DE:=λenv R=>t env λs a=>∃k,aC a s=some (.bool k)/\if k=true then u a R else R (.fr (.bool false)) a
theorem tQ{op}(h:PE X a (up K ta)):PE X (.BoolOp op [a] pos) (up K ta):=Dn h
theorem rF(i:PE X a (up K ta))(j:PE X (.BoolOp .And (b::es) pos) (up K tb)):PE X (.BoolOp .And (a::b::es) pos) (up K (B0 ta tb)):=(Dr i j).imp λσ H Q h=>by
 obtain⟨M,P,H0,σ0,env,ts,R,f,ht,g⟩:=h;refine⟨M,P,H0,σ0,env,ts,_,f,ht,λs1 d v1 H1 h1 c=>?_⟩;obtain⟨k,e,h1⟩:=h1;refine⟨k,(c.view (by simp) e).bool,?_⟩;cases k with
 | true=>exact⟨M,P,H0,σ0,d,ts,R,c.drop,h1,g⟩
 | false=>exact g _ _ _ _ h1 (c.drop.addFr (.bl false))
def dIf(t:DT)(ta tb:DE):DE:=λenv R=>t env λk a=>if k=true then ta a R else tb a R
theorem gg(hc:PT X c (upT K tA))(i:PE X a (up K ta))(j:PE X b (up K tb)):PE X (.IfExp c a b pos) (up K (dIf tA ta tb)):=(wU hc i j).imp λσ H Q h=>by
 obtain⟨M,P,H0,σ0,env,ts,R,f,ht,g⟩:=h;refine⟨M,P,H0,σ0,env,ts,_,f,ht,λk d H1 h1 e=>?_⟩;cases k with
 | true=>exact⟨M,P,H0,σ0,d,ts,R,e,h1,g⟩
 | false=>exact⟨M,P,H0,σ0,d,ts,R,e,h1,g⟩
def qP(g g':G2)(ta tb tc:DE):DE:=λenv R=>ta env λs1 c=>tb c λs2 a=>∃d1 d2,aC a s1=some d1/\aC a s2=some d2/\g d1 d2 λd=>∃k,d=.bool k /\
 if k=true then tc a λh b=>∃e f,aC b s2=some e/\aC b h=some f/\g' e f λd'=>R (.fr d') b else R (.fr (.bool false)) a
theorem ya{r r':R2}{g g':G2}(m:bq K r g)(y:bq K r' g'):∀σ H Q,up K (qP g g' ta tb tc) σ H Q->yr r r' (up K ta) (up K tb) (up K tc) σ H Q:=λσ H Q h=>by
 obtain⟨M,P,H0,σ0,env,ts,R,p,ht,t⟩:=h;refine⟨M,P,H0,σ0,env,ts,_,p,ht,λs1 j v1 H1 h1 l=>⟨M,P,H0,σ0,j,ts++[(v1,s1)],_,l,h1,λs2 e n u h2 a=>?_⟩⟩;obtain⟨d1,d2,e1,e2,g⟩:=h2;have b:Rel K M P H0 σ0 σ e (ts++[(v1,s1),(n,s2)]) u:=by simpa using a
 refine m _ u v1 n d1 d2 _ _ (a.view (by simp) e1) (a.view (by simp) e2) g λd v i dn=>?_;obtain⟨k,rfl,i⟩:=i;cases dn;refine⟨k,rfl,?_⟩;cases k with
 | false=>exact t _ _ _ _ i (b.drop.addFr (.bl false))
 | true =>
  refine⟨M,P,H0,σ0,e,ts++[(v1,s1),(n,s2)],_,b,i,λz o w x h3 c=>?_⟩;obtain⟨q,A,s,e3,g'⟩:=h3;refine y _ x n w q A _ Q (c.view (by simp) s) (c.view (by simp) e3) g' λd v i dn=>t _ _ _ _ i ?_;have f:Rel K M P H0 σ0 σ o (ts++[(v1,s1),(n,s2),(w,z)]) x:=by simpa using c
  exact f.res (aS.refl _) (by simpa using dn)
theorem j5{op d:CmpOp}{r r':R2}{g g':G2}(ho:OpR X (q4 op) r)(m:bq K r g)(e:OpR X (q4 d) r')(f:bq K r' g')(h:PE X a (up K ta))(i:PE X b (up K tb))(hc:PE X c (up K tc))
  (j:lastMarks [op,d] [b,c]=false:=by with_unfolding_all rfl):PE X (.Compare a [op,d] [b,c] pos) (up K (qP g g' ta tb tc)):=(wV ho e h i hc j).imp (ya m f)
abbrev G1:=ab->(ab->Prop)->Prop
def dUn(g:G1)(ta:DE):DE:=λenv R=>ta env λs1 a=>∃d1,aC a s1=some d1/\g d1 λd=>R (.fr d) a
theorem ET{op:UnaryOp}{r:V->Hp->VK->Prop}{g:G1}(ho:UnR X (unaryOp op) r)(m:∀(N:ap->Prop) (H:Hp) (x:V) (d1:ab) (R:ab->Prop) (Q:VK),Vw K N H x d1->g d1 R->(∀d v,R d->DN K N H v d->Q v H)->r x H Q)
  (f:PE X a (up K ta)):PE X (.UnaryOp op a pos) (up K (dUn g ta)):=(Dl ho f).imp λσ H Q h=>by
 obtain⟨M,P,H0,σ0,env,ts,R,c,ht,i⟩:=h;refine⟨M,P,H0,σ0,env,ts,_,c,ht,λs1 e v1 H1 h1 b=>?_⟩;obtain⟨d1,e1,g⟩:=h1;exact m _ H1 v1 d1 _ Q (b.view (by simp) e1) g λd v j dn=>i _ _ _ _ j (b.res (aS.refl _) dn)
def Cn:DA:=λenv R=>R [] env
def vo(t:DE)(u:DA):DA:=λenv R=>t env λs a=>u a λss b=>R (s::ss) b
theorem ad:PA X [] (upA K Cn):=fM.imp λσ H Q h=>by
 obtain⟨M,P,H0,σ0,env,ts,R,a,ht,b⟩:=h;exact b [] env [] H ht rfl (by simpa using a)
theorem aa(g:PE X a (up K ta))(i:PA X es (upA K tl))(hs:kq (a::es) X.env=(false,eval a X.env)::kq es X.env:=by rfl):PA X (a::es) (upA K (vo ta tl)):=(cB g i hs).imp λσ H Q h=>by
 obtain⟨M,P,H0,σ0,env,ts,R,f,ht,j⟩:=h;refine⟨M,P,H0,σ0,env,ts,_,f,ht,λs1 b v1 H1 h1 c=>⟨M,P,H0,σ0,b,ts++[(v1,s1)],_,c,h1,λss d vs k h2 hl e=>?_⟩⟩;exact j (s1::ss) d (v1::vs) k h2 (by simp[hl]) (by simpa using e)
end
section
variable {K:ca}{M P N:ap->Prop}{H0 H:Hp}{σ0 σ:St}{env:List Sl}{ts tt:List (V×Sl)}{v:V}{s:Sl}{d:ab}
def gI(f:Int->Int->Int):G2:=λd e R=>∃i j,d=.int i/\e=.int j/\R (.int (f i j))
def gIC(C:Int->Int->Prop)(f:Int->Int->Int):G2:=λd e R=>∃i j,d=.int i/\e=.int j/\C i j/\R (.int (f i j))
def gB(f:Int->Int->Bool):G2:=λd e R=>∃i j,d=.int i/\e=.int j/\R (.bool (f i j))
theorem mI{f:Int->Int->Int}:bq K (rI0 λi j=>.int (f i j)) (gI f):=by rintro N H x y d e R Q a b ⟨i,j,rfl,rfl,c⟩ g;exact⟨i,j,a.int,b.int,g _ _ c (.int _)⟩
theorem mIC{C:Int->Int->Prop}{f:Int->Int->Int}:bq K (rI C λi j=>.int (f i j)) (gIC C f):=by rintro N H x y d e R Q a b ⟨i,j,rfl,rfl,c,g⟩ h;exact⟨i,j,a.int,b.int,c,h _ _ g (.int _)⟩
theorem mB{f:Int->Int->Bool}:bq K (rI0 λi j=>.bl (f i j)) (gB f):=by rintro N H x y d e R Q a b ⟨i,j,rfl,rfl,c⟩ g;exact⟨i,j,a.int,b.int,g _ _ c (.bl _)⟩
theorem DJ:bq K rEq (gB λi j=>decide (i=j)):=by rintro N H x y d e R Q a b ⟨i,j,rfl,rfl,c⟩ f;rw[a.int,b.int];refine⟨rfl,?_⟩;have q:=f _ _ c (.bl _);rwa [show decide (V.int i=V.int j)=decide (i=j) by simp]
theorem EX:bq K rNe (gB λi j=>!decide (i=j)):=by rintro N H x y d e R Q a b ⟨i,j,rfl,rfl,c⟩ f;rw[a.int,b.int];refine⟨rfl,?_⟩;have q:=f _ _ c (.bl _);rwa [show decide (V.int i=V.int j)=decide (i=j) by simp]
def gBB(f:Bool->Bool->Bool):G2:=λd e R=>∃i j,d=.bool i/\e=.bool j/\R (.bool (f i j))
theorem HY:bq K rEq (gBB λi j=>decide (i=j)):=by rintro N H x y d e R Q a b ⟨i,j,rfl,rfl,c⟩ f;rw[a.bool,b.bool];refine⟨rfl,?_⟩;have q:=f _ _ c (.bl _);rwa [show decide (V.bl i=V.bl j)=decide (i=j) by simp]
theorem HU:bq K (λx y H Q=>∃b c,x=.bl b/\y=.bl c/\Q (.bl (b==c)) H) (gBB λi j=>i==j):=by rintro N H x y d e R Q a f ⟨i,j,rfl,rfl,g⟩ h;exact⟨i,j,a.bool,f.bool,h _ _ g (.bl _)⟩
def gEq:G2:=λd e R=>shp d/\shp e/\R (.bool (PyData.eqv d e))
def gNe:G2:=λd e R=>shp d/\shp e/\R (.bool (!PyData.eqv d e))
theorem mEq:bq K (FL K) gEq:=λN H x y d e R Q a b ⟨h1,h2,c⟩ f=>⟨d,e,a.dv,b.dv,h1,h2,f _ _ c (.bl _)⟩
theorem mNe:bq K (FG K) gNe:=λN H x y d e R Q a b ⟨h1,h2,c⟩ f=>⟨d,e,a.dv,b.dv,h1,h2,f _ _ c (.bl _)⟩
def ng:ab->Bool
 | .none=>true
 | _=>false
theorem Vw.isNon(w:Vw K N H v d):decide (v=.non)=ng d:=by
 cases w with
 | dn h =>
  cases h with
  | fz h=>obtain⟨a,xs,e,_⟩:=h.list;subst e;simp[ng]
  | _=>simp[ng]
 | ow h q=>simp[ng]
 | dct h q r e=>simp[ng]
def E8:G2:=λd e R=>e=.none/\R (.bool (ng d))
def xM:G2:=λd e R=>e=.none/\R (.bool (!ng d))
theorem EY:bq K (λx y H Q=>y=.non/\Q (.bl (decide (x=.non))) H) E8:=by rintro N H x y d e R Q a b ⟨rfl,c⟩ f;exact⟨b.none,by rw[a.isNon];exact f _ _ c (.bl _)⟩
theorem rS:bq K (λx y H Q=>y=.non/\Q (.bl (!decide (x=.non))) H) xM:=by rintro N H x y d e R Q a b ⟨rfl,c⟩ f;exact⟨b.none,by rw[a.isNon];exact f _ _ c (.bl _)⟩
def eP:ab->Option (List ab)
 | .list ds=>some ds
 | .tuple ds=>some ds
 | _=>none
def Bk:ab->Option Int
 | .int i=>some i
 | _=>none
def dS:List ab->Option (List Int)
 | []=>some []
 | d::ds=>(Bk d).bind λi=>(dS ds).map (i::·)
theorem eu:∀ns:List Int,dS (ns.map .int)=some ns
 | []=>rfl
 | n::ns=>by rw[IU,dS,eu ns];rfl
theorem cD:∀{ds:List ab}{ns:List Int},dS ds=some ns->ds=ns.map .int
 | [],ns,h=>by cases h;rfl
 | d::ds,ns,h=>by
  unfold dS at h;cases d <;> simp[Bk] at h
  obtain⟨a,h1,rfl⟩:=h;rw[cD h1];rfl
theorem Vw.seq{ds:List ab}(w:Vw K N H v d)(e:eP d=some ds):∃a vs,v=.ref a/\(SqL K H a vs\/SqT K H a vs)/\DNs K N H vs ds:=by
 cases d <;> simp[eP] at e
 subst e;obtain⟨a,vs,e1,s,q⟩:=w.list;exact⟨a,vs,e1,.inl s,q⟩;subst e;obtain⟨a,vs,e1,s,q⟩:=w.tuple;exact⟨a,vs,e1,.inr s,q⟩
theorem qr(i:Int)(ns:List Int):inV (.int i) (ns.map V.int)=decide (i∈ns):=by
 unfold inV
 induction ns with
 | nil=>rfl
 | cons n r a =>
  rw[IU,List.any_cons,a];have:eqV (.int n) (.int i)=decide (n=i):=(show eqV (.int n) (.int i)=(n==i) from rfl).trans (by rw[Kf];simp);rw[this];by_cases h1:n=i;simp[h1];have:¬i=n:=λz=>h1 z.symm;simp[h1,this]
theorem mD(ns:List Int):(ns.map V.int).all kz=true:=by rw[List.all_eq_true];intro x hx;obtain⟨n,_,rfl⟩:=IZ.mp hx;rfl
def gIn:G2:=λd e R=>∃i ds ns,d=.int i/\eP e=some ds/\dS ds=some ns/\R (.bool (decide (i∈ns)))
def uU:G2:=λd e R=>∃i ds ns,d=.int i/\eP e=some ds/\dS ds=some ns/\R (.bool (!decide (i∈ns)))
theorem mIn:bq K (rIn K false) gIn:=by rintro N H x y d e R Q b c ⟨i,ds,ns,rfl,e1,e2,f⟩ g;obtain⟨a,vs,rfl,s,q⟩:=c.seq e1;rw[cD e2] at q;rw[q.ints] at s;rw[b.int];refine⟨a,_,rfl,s,rfl,mD ns,?_⟩;rw[qr];exact g _ _ f (.bl _)
theorem DH:bq K (rIn K true) uU:=by rintro N H x y d e R Q b c ⟨i,ds,ns,rfl,e1,e2,f⟩ g;obtain⟨a,vs,rfl,s,q⟩:=c.seq e1;rw[cD e2] at q;rw[q.ints] at s;rw[b.int];refine⟨a,_,rfl,s,rfl,mD ns,?_⟩;rw[qr];exact g _ _ f (.bl _)
def Ge:G2:=λd e R=>∃ds,e=.list ds/\shp d/\shp e/\R (.bool (ds.any λx=>PyData.eqv x d))
def oQ:G2:=λd e R=>∃ds,e=.list ds/\shp d/\shp e/\R (.bool (!ds.any λx=>PyData.eqv x d))
theorem HX:bq K (FK K) Ge:=by rintro N H x y d e R Q a b ⟨ds,rfl,h1,h2,c⟩ f;exact⟨d,ds,a.dv,b.dv,h1,h2,f _ _ c (.bl _)⟩
theorem A5:bq K (nZ K) oQ:=by rintro N H x y d e R Q a b ⟨ds,rfl,h1,h2,c⟩ f;exact⟨d,ds,a.dv,b.dv,h1,h2,f _ _ c (.bl _)⟩
theorem DNs.atI{vs:List V}{ds:List ab}{i:Int}{e:ab}(q:DNs K N H vs ds)(h:_L.atI ds i=some e):∃v,_L.atI vs i=some v/\DN K N H v e:=by
 unfold _L.atI at h ⊢;rw[q.len];cases hj:ixN ds.length i with
 | none=>rw[hj] at h;cases h
 | some j =>
  rw[hj] at h;have h:ds[j]? = some e:=h;have a:j<vs.length:=by rw[q.len];exact(IN.mp h).1
  obtain⟨e',h1,h2⟩:=q.get (IK a);rw[h] at h1;cases h1;exact⟨vs[j],IK a,h2⟩
def gIx:G2:=λd e R=>∃ds i x,eP d=some ds/\e=.int i/\atI ds i=some x/\R x
def FI(K:ca):R2:=λx y H Q=>G6 K x y H Q\/G3 K x y H Q
theorem jF{X:Cx}(hK:X.K=K):IxR X (FI K):=by subst hK;exact IxR.or Bf D6
theorem mIx:bq K (FI K) gIx:=by rintro N H x y d e R Q g b ⟨ds,i,z,e1,rfl,e2,c⟩ f;obtain⟨a,vs,rfl,s,q⟩:=g.seq e1;obtain⟨u,e3,dn⟩:=q.atI e2;rcases s with s|s;exact .inl ⟨a,vs,i,u,rfl,b.int,s,e3,f _ _ c dn⟩;exact .inr ⟨a,vs,i,u,rfl,b.int,s,e3,f _ _ c dn⟩
inductive Vws (K:ca) (N:ap->Prop) (H:Hp):List V->List ab->Prop
 | nil:Vws K N H [] []
 | cons {v d vs ds}:Vw K N H v d->Vws K N H vs ds->Vws K N H (v::vs) (d::ds)
def fv(env:List Sl):List Sl->Option (List ab)
 | []=>some []
 | s::ss=>(aC env s).bind λd=>(fv env ss).bind λds=>some (d::ds)
theorem Rel.views(h:Rel K M P H0 σ0 σ env ts H):∀{vs:List V}{ss:List Sl}{ds:List ab},vs.length=ss.length->(∀p∈vs.zip ss,p∈ts)->fv env ss=some ds->Vws K (Nw M (aw σ env ts)) H vs ds
 | [],[],_,_,_,e=>by cases e;exact .nil
 | v :: vs,s::ss,ds,hl,a,e=>by
  unfold fv at e;cases e1:aC env s with
  | none=>rw[e1] at e;cases e
  | some d =>
   rw[e1] at e;cases e2:fv env ss with
   | none=>rw[e2] at e;cases e
   | some ds' =>
    rw[e2] at e;cases e;exact .cons (h.view (a _ (by simp)) e1) (h.views (by simpa using hl) (λp b=>a p (by simp[b])) e2)
 | [],_::_,_,hl,_,_=>by simp at hl
 | _::_,[],_,hl,_,_=>by simp at hl
abbrev GB:=List ab->(ab->Prop)->Prop
def dCB(g:GB)(t:DA):DE:=λenv R=>t env λss a=>∃ds,fv a ss=some ds/\g ds λd=>R (.fr d) a
def eO(K:ca)(r:List V->Hp->VK->Prop)(g:GB):Prop:=∀(N:ap->Prop) (H:Hp) (xs:List V) (ds:List ab) (R:ab->Prop) (Q:VK),Vws K N H xs ds->g ds R->(∀d v,R d->DN K N H v d->Q v H)->r xs H Q
theorem EF{r:List V->Hp->VK->Prop}{g:GB}{tl:DA}(m:eO K r g):∀σ H Q,up K (dCB g tl) σ H Q->tCB r (upA K tl) σ H Q:=λσ H Q h=>by
 obtain⟨M,P,H0,σ0,env,ts,R,b,ht,f⟩:=h;refine⟨M,P,H0,σ0,env,ts,_,b,ht,λss c vs H1 h1 hl a=>?_⟩;obtain⟨ds,e,g⟩:=h1;exact m _ H1 vs ds _ Q (a.views hl (λp i=>IE _ i) e) g λd v j dn=>f _ _ _ _ j (a.res (aS.refl _) dn)
section
variable {X:Cx}{x:bx}{p pos:Pos}{e:bb}{es:List bb}{tl:DA}{id T:String}{r:List V->Hp->VK->Prop}{g:GB}
theorem tS(hc:cZ X (.builtin id) r)(m:eO K r g)(hg:Gl X x)(c:X.mg x=none)(hv:KJ x=some (.builtin id))(d:PA X (e::es) (upA K tl))(hn:x ≠ "__name__" := by decide)(a:(x==("__debug__" : bx))=false:=by decide)
  (f:kq (e::es) X.env=(false,eval e X.env)::kq es X.env:=by rfl) (b:(ze pos (kq es X.env)).any (·.1)=false:=by rfl):PE X (.Call (.Name x p) (e::es) [] pos) (up K (dCB g tl)) :=
 (gX hc hg c hv d hn a f b).imp (EF m)
theorem C6(hc:cZ X (.type T) r)(m:eO K r g)(hg:Gl X x)(c:X.mg x=none)(hv:KJ x=some (.type T))(d:PA X (e::es) (upA K tl))(hn:x ≠ "__name__" := by decide)(a:(x==("__debug__" : bx))=false:=by decide)
  (f:kq (e::es) X.env=(false,eval e X.env)::kq es X.env:=by rfl) (b:(ze pos (kq es X.env)).any (·.1)=false:=by rfl):PE X (.Call (.Name x p) (e::es) [] pos) (up K (dCB g tl)) :=
 (iJ hc hg c hv d hn a f b).imp (EF m)
end
def Ec:GB:=λds R=>∃d es,ds=[d]/\eP d=some es/\R (.int es.length)
theorem HN:eO K (λxs H Q=>∃p ys,xs=[.ref p]/\(SqL K H p ys\/SqT K H p ys)/\Q (.int ys.length) H) Ec:=by
 rintro N H xs ds R Q w ⟨d,es,rfl,e1,b⟩ c;cases w with
 | cons e f =>
  cases f;obtain⟨a,vs,rfl,s,q⟩:=e.seq e1;refine⟨a,vs,rfl,s,?_⟩;rw[q.len];exact c _ _ b (.int _)
def F8:GB:=λds R=>∃i j,ds=[.int i,.int j]/\R (.int (if j<i then j else i))
theorem HM:eO K (λxs H Q=>∃i j,xs=[.int i,.int j]/\Q (.int (if j<i then j else i)) H) F8:=by
 rintro N H xs ds R Q w ⟨i,j,rfl,b⟩ c;cases w with
 | cons d a =>
  cases a with
  | cons a e =>
   cases e;exact⟨i,j,by rw[d.int,a.int],c _ _ b (.int _)⟩
def zt:ab->Option Bool
 | .bool i=>some i
 | _=>none
def gw:List ab->Option (List Bool)
 | []=>some []
 | d::ds=>(zt d).bind λi=>(gw ds).map (i::·)
theorem fq:∀ns:List Bool,gw (ns.map .bool)=some ns
 | []=>rfl
 | n::ns=>by rw[IU,gw,fq ns];rfl
theorem gO:∀{ds:List ab}{ns:List Bool},gw ds=some ns->ds=ns.map .bool
 | [],ns,h=>by cases h;rfl
 | d::ds,ns,h=>by
  unfold gw at h;cases d <;> simp[zt] at h
  obtain⟨a,h1,rfl⟩:=h;rw[gO h1];rfl
theorem DNs.bools:∀{ns:List Bool}{v:List V},DNs K N H v (ns.map .bool)->v=ns.map V.bl
 | [],_,.nil=>rfl
 | n::r,_,.cons h q=>by
  cases h;rw[q.bools];rfl
def Gg:GB:=λds R=>∃es bs,ds=[.list es]/\gw es=some bs/\R (.bool (bs.all id))
theorem Cg:eO K (λxs H Q=>∃(a:ap) (bs:List Bool),xs=[.ref a]/\SqL K H a (bs.map V.bl)/\Q (.bl (bs.all id)) H) Gg:=by
 rintro N H xs ds R Q w ⟨es,bs,rfl,e1,b⟩ c;cases w with
 | cons d e =>
  cases e;obtain⟨a,vs,rfl,s,q⟩:=d.list;rw[gO e1] at q;rw[q.bools] at s;exact⟨a,bs,rfl,s,c _ _ b (.bl _)⟩
def aN(env:List Sl):List Sl->Option (List ab)
 | []=>some []
 | s::ss=>(aV env s).bind λd=>(aN env ss).bind λds=>some (d::ds)
theorem Rel.kept(h:Rel K M P H0 σ0 σ env (ts++tt) H)(m:(v,s)∈tt)(e:aV env s=some d):DN K (Nw M (aw σ env ts)) H v d:=by
 have c:=h.e;rw[ar] at c;have sub:∀b,Nw M (aw σ env ts) b->Nw M (aw σ env ts++tmp tt) b:=λb z=>eM z;have f:((some v,s):Ent)∈aw σ env ts++tmp tt:=IE _ (IZ.mpr ⟨(v,s),m,rfl⟩);cases s with
 | fr d' =>
  cases e;obtain⟨v',e1,dn⟩:=c.fr _ _ f;cases e1;exact dn.to λb _ _ z=>sub b z
 | ow ds =>
  cases e;obtain⟨a,vs,e1,e2,dn,g⟩:=c.ow _ _ f;cases e1;refine .lst (SnL.of e2 ?_) (dn.to λb _ _ z=>sub b z);rintro(z|z);exact c.mt a z g;have nd:=c.nd;rw[ah] at nd;exact(IT.mp nd).2.2 a z a (aT.mpr ⟨_,IZ.mpr ⟨_,m,rfl⟩,IG.mpr rfl⟩) rfl
 | tr S d' =>
  cases e;obtain⟨v',e1,ot,g⟩:=c.tr _ _ _ f;cases e1;refine ot.dn sub λa j=>?_;rintro(z|z);exact c.mt a z (g a j);have nd:=c.nd;rw[ah] at nd;exact(IT.mp nd).2.2 a z a (aT.mpr ⟨_,IZ.mpr ⟨_,m,rfl⟩,by rw[aK];exact j⟩) rfl
 | vw i =>
  have e:(env[i]?).bind slK=some d:=e;cases q:env[i]? with
  | none=>rw[q] at e;cases e
  | some s' =>
   rw[q] at e;cases s' with
   | fr d' =>
    cases e;obtain⟨x,e1,m1⟩:=h.slot q;rw[ar] at m1;obtain⟨v',e2,dn⟩:=c.fr _ _ m1;have e3:=h.vw v i (IE _ m);rw[e1,e2] at e3;cases e3;exact dn.to λb _ _ z=>sub b z
   | _=>cases e
 | _=>cases e
theorem Rel.keptAll(h:Rel K M P H0 σ0 σ env (ts++tt) H):∀{vs:List V}{ss:List Sl}{ds:List ab},vs.length=ss.length->(∀p∈vs.zip ss,p∈tt)->aN env ss=some ds->DNs K (Nw M (aw σ env ts)) H vs ds
 | [],[],_,_,_,e=>by cases e;exact .nil
 | v :: vs,s::ss,ds,hl,a,e=>by
  unfold aN at e;cases e1:aV env s with
  | none=>rw[e1] at e;cases e
  | some d =>
   rw[e1] at e;cases e2:aN env ss with
   | none=>rw[e2] at e;cases e
   | some ds' =>
    rw[e2] at e;cases e;exact .cons (h.kept (a _ (by simp)) e1) (h.keptAll (by simpa using hl) (λp b=>a p (by simp[b])) e2)
 | [],_::_,_,hl,_,_=>by simp at hl
 | _::_,[],_,hl,_,_=>by simp at hl
theorem Rel.newAddr(h:Rel K M P H0 σ0 σ env ts H){p:ap}(a:H p=none):¬Nw M (aw σ env ts) p:=by rintro(z|z);exact h.e.live p (h.e.mt p z) a;obtain⟨vs,q,_⟩:=h.e.own z;rw[a] at q;cases q
theorem Rel.resTup(h:Rel K M P H0 σ0 σ env (ts++tt) H){p:ap}{vs:List V}{ds:List ab}(a:H p=none)(b:DNs K (Nw M (aw σ env ts)) H vs ds):Rel K M P H0 σ0 σ env (ts++[(.ref p,.fr (.tuple ds))]) (upd H p (.tup vs)) :=
 (h.drop.same (aS.new a)).addFr (.tup (SnT.of aq (h.drop.newAddr a)) (b.keep (aO.same (aS.new a))))
section
variable {X:Cx}{p pos:Pos}{e:bb}{es:List bb}{tl:DA}
def Cl(t:DA):DE:=λenv R=>t env λss a=>∃ds,aN a ss=some ds/\ss.length<=sizeLine/\R (.fr (.tuple ds)) a
def Ff(t:DA):DE:=λenv R=>t env λss a=>∃ds,aN a ss=some ds/\ss.length<=sizeLine/\R (.ow ds) a
theorem cG{x1}(h:PA X es (upA K tl)):PE X (.Tuple es x1 pos) (up K (Cl tl)):=(yM h).imp λσ H Q h=>by
 obtain⟨M,P,H0,σ0,env,ts,R,b,ht,f⟩:=h;refine⟨M,P,H0,σ0,env,ts,_,b,ht,λss d vs H1 h1 hl a=>?_⟩;obtain⟨ds,e,hz,g⟩:=h1;exact⟨by omega,λp c=>f _ _ _ _ g (a.resTup c (a.keptAll hl (λp c=>c) e))⟩
theorem cP(h:PA X es (upA K tl)):PE X (.List es pos) (up K (Ff tl)):=(yP h).imp λσ H Q h=>by
 obtain⟨M,P,H0,σ0,env,ts,R,b,ht,f⟩:=h;refine⟨M,P,H0,σ0,env,ts,_,b,ht,λss d vs H1 h1 hl a=>?_⟩;obtain⟨ds,e,hz,g⟩:=h1;exact⟨by omega,λp c=>f _ _ _ _ g (a.drop.addOw c (a.keptAll hl (λp c=>c) e))⟩
end
end
def CS(K:ca):R2:=λx y H Q=>∃l b xs a,x=.ref l/\y=.ref b/\SqL K H l xs/\SqL K H b a/\xs.length+a.length<=sizeLine/\∀p,H p=none->Q (.ref p) (upd H p (.lst (xs++a)))
theorem gm{X:Cx}{K:ca}(hK:X.K=K):OpR X (KN .Add) (CS K):=by
 subst hK;intro pins s σ H x y v u Q I m o h;obtain⟨l,b,xs,C,rfl,rfl,p,t,hz,q⟩:=h;cases m;cases o;obtain⟨c,r,⟨⟨cls,dd,data,sl⟩,n,ho,hc,_,hd⟩,z⟩:=I.list p;obtain⟨a,j,⟨⟨k,g,data2,i⟩,w,d,e,_,f⟩,z2⟩:=I.list t;simp only at hc hd e f;subst hc hd e f;have hl:=r.length;have A:=j.length;refine QV ⟨_,ho,rfl⟩ ⟨_,d,rfl⟩ noFill_list_add seq_list_add PySem.F.slot_list_add PySem.F.entry_list_add (PySem.F.args_list_add_2 _ _) (list_addW l b c.toArray a.toArray n w dd g sl i (by rw[IV,IV];omega)) ⟨ho,d,?_⟩;have B:c.toArray++a.toArray=(c++a).toArray:=by simp
 rw[B];exact⟨.ref _,_,I.lnew (t':=s.toks) (r.append j) (by rw[Jg];omega),rfl,q _ I.fresh⟩
section
variable {K:ca}{M P N:ap->Prop}{H0 H H':Hp}{σ0 σ:St}{env:List Sl}{ts:List (V×Sl)}{v:V}{s:Sl}{d:ab}
variable {X:Cx}{x:bx}{p pos:Pos}{a b e:bb}{es:List bb}{ta tb:DE}{tl:DA}
def Ez(g:ab->ab->(List ab->Prop)->Prop)(ta tb:DE):DE:=λenv R=>ta env λs1 b=>tb b λs2 a=>∃d1 d2,aC a s1=some d1/\aC a s2=some d2/\g d1 d2 λds=>R (.ow ds) a
def vN(K:ca)(r:R2)(g:ab->ab->(List ab->Prop)->Prop):Prop:=∀(N:ap->Prop) (H:Hp) (x y:V) (d1 d2:ab) (R:List ab->Prop) (Q:VK),Vw K N H x d1->Vw K N H y d2->g d1 d2 R ->
 (∀ds vs p,R ds->DNs K N H vs ds->H p=none->Q (.ref p) (upd H p (.lst vs)))->r x y H Q
theorem Dz{r:R2}{g:ab->ab->(List ab->Prop)->Prop}(m:vN K r g):∀σ H Q,up K (Ez g ta tb) σ H Q->tOp r (up K ta) (up K tb) σ H Q:=λσ H Q h=>by
 obtain⟨M,P,H0,σ0,env,ts,R,f,ht,l⟩:=h;refine⟨M,P,H0,σ0,env,ts,_,f,ht,λs1 c v1 H1 h1 d=>⟨M,P,H0,σ0,c,ts++[(v1,s1)],_,d,h1,λs2 e j k h2 a=>?_⟩⟩;obtain⟨d1,d2,e1,e2,g⟩:=h2;refine m _ k v1 j d1 d2 _ Q (a.view (by simp) e1) (a.view (by simp) e2) g λds vs p n i o=>l _ _ _ _ n ?_;have b:Rel K M P H0 σ0 σ e (ts++[(v1,s1),(j,s2)]) k:=by simpa using a
 exact b.resOw o (by simpa using i)
theorem rC{op:Operator}{r:R2}{g:ab->ab->(List ab->Prop)->Prop}(ho:OpR X (KN op) r)(m:vN K r g)(c:PE X a (up K ta))(d:PE X b (up K tb)):PE X (.BinOp a op b pos) (up K (Ez g ta tb)):=(AJ ho c d).imp (Dz m)
def E9:ab->ab->(List ab->Prop)->Prop:=λd e R=>∃xs ys,d=.list xs/\e=.list ys/\xs.length+ys.length<=sizeLine/\R (xs++ys)
theorem Cf:vN K (CS K) E9:=by rintro N H x y d e R Q c f ⟨xs,ys,rfl,rfl,hz,g⟩ h;obtain⟨a1,v1,rfl,s1,a⟩:=c.list;obtain⟨a2,i,rfl,s2,b⟩:=f.list;exact⟨a1,a2,v1,i,rfl,rfl,s1,s2,by rw[a.len,b.len];exact hz,λp j=>h _ _ p g (a.app b) j⟩
def x5(ta tb:DE):DE:=λenv R=>ta env λs1 b=>tb b λs2 a=>∃xs ys,aC a s1=some (.tuple xs)/\aC a s2=some (.tuple ys)/\xs.length+ys.length<=sizeLine/\R (.fr (.tuple (xs++ys))) a
theorem lC(hK:X.K=K)(r:PE X a (up K ta))(s:PE X b (up K tb)):PE X (.BinOp a .Add b pos) (up K (x5 ta tb)):=(AJ (F4 (K:=K) hK) r s).imp λσ H Q h=>by
 obtain⟨M,P,H0,σ0,env,ts,R,k,ht,l⟩:=h;refine⟨M,P,H0,σ0,env,ts,_,k,ht,λs1 e v1 H1 h1 f=>⟨M,P,H0,σ0,e,ts++[(v1,s1)],_,f,h1,λs2 g i t h2 d=>?_⟩⟩;obtain⟨xs,ys,e1,e2,hz,j⟩:=h2;have m:=d.view (v:=v1) (by simp) e1;have n:=d.view (v:=i) (by simp) e2;have c:Rel K M P H0 σ0 σ g (ts++[(v1,s1),(i,s2)]) t:=by simpa using d
 have u:ts++[(v1,s1)]++[(i,s2)]=ts++[(v1,s1),(i,s2)]:=by simp
 rw[u] at m n;obtain⟨a1,w,rfl,x,o⟩:=m.tuple;obtain⟨a2,y,rfl,A,q⟩:=n.tuple;refine⟨a1,a2,w,y,rfl,rfl,x,A,by rw[o.len,q.len];exact hz,λz=>?_,λ_ z=>?_,λ_ _ p B=>?_⟩;subst z;have:xs=[]:=by have:=o.len;exact List.eq_nil_of_length_eq_zero this.symm
 subst this;cases n with
 | dn dn=>exact l _ _ _ _ j (c.res (aS.refl _) dn)
 subst z;have:ys=[]:=by have:=q.len;exact List.eq_nil_of_length_eq_zero this.symm
 subst this;rw[Jh] at j;cases m with
 | dn dn=>exact l _ _ _ _ j (c.res (aS.refl _) dn)
 exact l _ _ _ _ j (c.resTup B ((o.app q).to λb _ _ z=>by rw[ar];exact eM z))
abbrev DO:=List Sl->(Option Int->List Sl->Prop)->Prop
inductive upO (K:ca) (t:DO) (σ:St) (H:Hp) (Q:Option Int->Hp->Prop):Prop
 | mk (M P:ap->Prop) (H0:Hp) (σ0:St) (env:List Sl) (ts:List (V×Sl)) (R:Option Int->List Sl->Prop):Rel K M P H0 σ0 σ env ts H->t env R ->
 (∀o env' H',R o env'->Rel K M P H0 σ0 σ env' ts H'->Q o H')->upO K t σ H Q
theorem PO.imp{e:Option bb}{t t':TO}(h:PO X e t)(k:∀σ H Q,t' σ H Q->t σ H Q):PO X e t':=λpins s σ H Q I hw=>h pins s σ H Q I (k σ H Q hw)
def kD:DO:=λenv R=>R none env
def x3(t:DE):DO:=λenv R=>t env λs a=>∃i,aC a s=some (.int i)/\R (some i) a
theorem eX:PO X none (upO K kD):=Az.imp λσ H Q h=>by
 obtain⟨M,P,H0,σ0,env,ts,R,a,ht,b⟩:=h;exact b _ _ _ ht a
theorem eW(h:PE X e (up K ta)):PO X (some e) (upO K (x3 ta)):=(Ay h).imp λσ H Q h=>by
 obtain⟨M,P,H0,σ0,env,ts,R,b,ht,d⟩:=h;refine⟨M,P,H0,σ0,env,ts,_,b,ht,λs1 c v1 H1 h1 a=>?_⟩;obtain⟨i,e1,f⟩:=h1;exact⟨i,(a.view (by simp) e1).int,d _ _ _ f a.drop⟩
def kE{α:Type}(xs:List α)(lo hi:Option Int):List α:=(xs.drop (HT.sIx xs.length 0 lo)).take (HT.sIx xs.length xs.length hi - HT.sIx xs.length 0 lo)
theorem DNs.drop:∀{vs:List V}{ds:List ab} (n:Nat),DNs K N H vs ds->DNs K N H (vs.drop n) (ds.drop n)
 | _,_,0,q=>q
 | _,_,_+1,.nil=>.nil
 | _,_,n+1,.cons _ q=>q.drop n
theorem DNs.take:∀{vs:List V}{ds:List ab} (n:Nat),DNs K N H vs ds->DNs K N H (vs.take n) (ds.take n)
 | _,_,0,_=>.nil
 | _,_,_+1,.nil=>.nil
 | _,_,n+1,.cons h q=>.cons h (q.take n)
theorem DNs.cut{vs:List V}{ds:List ab}(q:DNs K N H vs ds)(lo hi:Option Int):DNs K N H (zo vs lo hi) (kE ds lo hi):=by unfold zo kE;rw[q.len];exact(q.drop _).take _
def Fc(te:DE)(tl th:DO):DE:=λenv R=>te env λs b=>tl b λl c=>th c λh a=>∃ds,aC a s=some (.list ds)/\R (.ow (kE ds l h)) a
def Gx(te:DE)(tl th:DO):DE:=λenv R=>te env λs b=>tl b λl c=>th c λh a=>∃ds,aC a s=some (.tuple ds)/\¬(HT.sIx ds.length 0 l=0/\HT.sIx ds.length ds.length h=ds.length)/\R (.fr (.tuple (kE ds l h))) a
variable {lo hi:Option bb}{tlo thi:DO}{p2:Pos}
theorem tP(hK:X.K=K)(k:PE X e (up K ta))(hl:PO X lo (upO K tlo))(m:PO X hi (upO K thi)):PE X (.Subscript e (.Slice lo hi none p2) pos) (up K (Fc ta tlo thi)):=(pY (Ic (K:=K) hK) k hl m).imp λσ H Q h=>by
 obtain⟨M,P,H0,σ0,env,ts,R,i,ht,n⟩:=h;refine⟨M,P,H0,σ0,env,ts,_,i,ht,λs1 c v1 H1 h1 d=>⟨M,P,H0,σ0,c,ts++[(v1,s1)],_,d,h1,λl f s h2 g=>⟨M,P,H0,σ0,f,ts++[(v1,s1)],_,g,h2,λu j t h3 b=>?_⟩⟩⟩;obtain⟨ds,e1,o⟩:=h3;obtain⟨a,vs,rfl,sq,q⟩:=(b.view (v:=v1) (by simp) e1).list;exact⟨a,vs,rfl,sq,λp r=>n _ _ _ _ o (b.resOw r (q.cut l u))⟩
theorem C0(hK:X.K=K)(m:PE X e (up K ta))(hl:PO X lo (upO K tlo))(n:PO X hi (upO K thi)):PE X (.Subscript e (.Slice lo hi none p2) pos) (up K (Gx ta tlo thi)):=(pY (Ib (K:=K) hK) m hl n).imp λσ H Q h=>by
 obtain⟨M,P,H0,σ0,env,ts,R,j,ht,o⟩:=h;refine⟨M,P,H0,σ0,env,ts,_,j,ht,λs1 d v1 H1 h1 f=>⟨M,P,H0,σ0,d,ts++[(v1,s1)],_,f,h1,λl g t h2 i=>⟨M,P,H0,σ0,g,ts++[(v1,s1)],_,i,h2,λu k w h3 c=>?_⟩⟩⟩;obtain⟨ds,e1,hw,r⟩:=h3;obtain⟨a,vs,rfl,sq,q⟩:=(c.view (v:=v1) (by simp) e1).tuple;exact⟨a,vs,rfl,sq,by rw[q.len];exact hw,λp s=>o _ _ _ _ r (c.resTup s ((q.cut l u).to λb _ _ z=>by rw[ar];exact eM z))⟩
def oX(t:DA):DE:=λenv R=>t env λss a=>∃s d ds,ss=[s]/\aC a s=some d/\eP d=some ds/\R (.ow ds) a
theorem pX(hK:X.K=K)(hg:Gl X "list")(i:X.mg "list" = none)(j:PA X [e] (upA K tl))(k:kq [e] X.env=[(false,eval e X.env)]:=by rfl):PE X (.Call (.Name "list" p) [e] [] pos) (up K (oX tl)) :=
 (iJ (F1 (K:=K) hK) hg i PyProof.Rows.boot_list j (by decide) (by decide) k rfl).imp λσ H Q h=>by
 obtain⟨M,P,H0,σ0,env,ts,R,c,ht,m⟩:=h;refine⟨M,P,H0,σ0,env,ts,_,c,ht,λss g vs H1 h1 hl b=>?_⟩;obtain⟨s,d,ds,rfl,e1,e2,n⟩:=h1;obtain⟨v,rfl⟩:=sB hl;obtain⟨a,us,rfl,sq,q⟩:=(b.view (v:=v) (by simp) e1).seq e2;exact⟨a,us,rfl,sq,λl f=>m _ _ _ _ n (b.resOw f q)⟩
def vd(t:DA):DE:=λenv R=>t env λss a=>∃s d ds,ss=[s]/\aC a s=some d/\eP d=some ds/\R (.fr (.tuple ds)) a
theorem tO(hK:X.K=K)(hg:Gl X "tuple")(m:X.mg "tuple" = none)(n:PA X [e] (upA K tl))(o:kq [e] X.env=[(false,eval e X.env)]:=by rfl):PE X (.Call (.Name "tuple" p) [e] [] pos) (up K (vd tl)) :=
 (iJ (D3 (K:=K) hK) hg m PyProof.Rows.boot_tuple n (by decide) (by decide) o rfl).imp λσ H Q h=>by
 obtain⟨M,P,H0,σ0,env,ts,R,f,ht,i⟩:=h;refine⟨M,P,H0,σ0,env,ts,_,f,ht,λss j vs H1 h1 hl c=>?_⟩;obtain⟨s,d,ds,rfl,e1,e2,k⟩:=h1;obtain⟨v,rfl⟩:=sB hl;have w:=c.view (v:=v) (by simp) e1;cases d <;> simp[eP] at e2
 subst e2;obtain⟨a,us,rfl,sq,q⟩:=w.list;exact⟨a,us,rfl,.inl ⟨sq,λl g=>i _ _ _ _ k (c.resTup g (q.to λb _ _ z=>by rw[ar];exact eM z))⟩⟩;subst e2;obtain⟨a,us,rfl,sq,q⟩:=w.tuple;refine⟨a,us,rfl,.inr ⟨sq,i _ _ _ _ k ?_⟩⟩;cases w with
 | dn dn=>exact c.res (aS.refl _) dn
def cx:Sl->List ab->Option Sl
 | .ow _,ds=>some (.ow ds)
 | .io _,ds=>some (.io ds)
 | _,_=>none
def gR:Sl->Option (List ab)
 | .ow ds=>some ds
 | .io ds=>some ds
 | _=>none
theorem ju{s s':Sl}{l:List ab}(h:cx s l=some s'):Bi s l s'/\gR s'=some l:=by
 cases s with
 | ow _=>cases h;exact⟨rfl,rfl⟩
 | io _=>cases h;exact⟨rfl,rfl⟩
 | _=>cases h
theorem tx{s:Sl}{l d:List ab}(h:cx s l=some (.io d)):∃a,s=.io a:=by
 cases s with
 | io a=>exact⟨a,rfl⟩
 | _=>cases h
theorem pZ{s:Sl}{l:List ab}(h:gR s=some l):cx s l=some s/\∀a,a∈cH (some (.ref a),s):=by
 cases s with
 | ow _=>cases h;exact⟨rfl,λa=>IG.mpr rfl⟩
 | io _=>cases h;exact⟨rfl,λa=>IG.mpr rfl⟩
 | _=>cases h
theorem Rel.mut{i:Nat}{s s':Sl}{ds ds':List ab}(h:Rel K M P H0 σ0 σ env ts H)(e:env[i]? = some s)(es:cx s ds'=some s'){a:ap}(f:σ[i]? = some (some (.ref a))){vs':List V}(b:DNs K (Nw M (aw σ env ts)) H vs' ds') :
  Rel K M P H0 σ0 σ (env.set i s') ts (upd H a (.lst vs')):=by obtain⟨x,A,B,e1,g,k⟩:=h.split e;rw[f] at e1;cases e1;have r:=h.e;rw[g] at r b;refine⟨by rw[k];exact r.mut (ju es).1 b,by simp[h.len],h.vw,λj c e'=>?_⟩;by_cases hj:i=j;subst hj;have hi:i<env.length:=(IN.mp e).1;rw[Jc hi] at e';cases e';obtain⟨d,rfl⟩:=tx es;exact h.ios i d e;rw[Je hj] at e';exact h.ios j c e'
theorem Rel.mine{i:Nat}{s:Sl}{ds:List ab}(h:Rel K M P H0 σ0 σ env ts H)(e:env[i]? = some s)(b:gR s=some ds):∃a vs,σ[i]? = some (some (.ref a))/\H a=some (.lst vs)/\DNs K (Nw M (aw σ env ts)) H vs ds:=by
 obtain⟨x,e1,m⟩:=h.slot e;cases s with
 | ow d =>
  cases b;obtain⟨a,vs,z,c,f,_⟩:=h.e.ow _ _ m;subst z;exact⟨a,vs,e1,c,f⟩
 | io d =>
  cases b;obtain⟨a,vs,z,c,f,_⟩:=h.e.io _ _ m;subst z;exact⟨a,vs,e1,c,f⟩
 | _=>cases b
def Fi(i:Nat)(te:DE):DE:=λenv R=>(∃ds,(env[i]?).bind gR=some ds)/\te env λs a=>∃d b ds s',aV a s=some d/\a[i]? = some b/\gR b=some ds/\ds.length<sizeLine/\cx b (ds++[d])=some s'/\R (.fr .none) (a.set i s')
theorem kJ{i:Nat}{ds:List ab}(h:(env[i]?).bind gR=some ds):∃s,env[i]? = some s/\gR s=some ds:=by
 cases e:env[i]? with
 | none=>rw[e] at h;cases h
 | some s=>rw[e] at h;exact⟨s,rfl,h⟩
theorem rE(i:Nat){y:bx}{apos cpos npos:Pos}(hK:X.K=K)(hN:X.N[i]? = some y)(u:PE X e (up K ta))
  (hv:Vis X.env.scope y:=by first|exact Or.inl rfl|exact Or.inr cc|exact Or.inr (Or.inr rfl)) (hd:(y==("__debug__" : bx))=false:=by decide)
  (o:(y==("__classdict__" : bx))=false:=by decide)
  (j:kq [e] X.env=[(false,eval e X.env)]:=by rfl)
  (f:z5 (.Name y npos) "append" X.env (eval (.Name y npos) X.env)=eval (.Name y npos) X.env:=by rfl)
  (l:((ze cpos (kq [e] X.env)).all (λx=>!x.1)&&(KU cpos (KA [] X.env)).all (λx=>x.1.isSome)&&decide ([e].length+([]:List KS).length+(if ([]:List KS).isEmpty then 0 else 1)<30))=true:=by rfl)
  (g:(apos.endLine==cpos.line)=true:=by rfl) (c:(ze cpos (kq [] X.env)).any (·.1)=false:=by rfl) :
  PE X (.Call (.Attribute (.Name y npos) "append" apos) [e] [] cpos) (up K (Fi i ta)) :=
 (kBm (K:=K) hK PySem.F.plainAttrs_list PySem.F.slot_list_append PySem.F.type_list_append lZ (bu hN hv hd o) (cB u fM j) f l g j c).imp λσ H Q h=>by
 obtain⟨M,P,H0,σ0,env,ts,R,m,⟨⟨w,z⟩,ht⟩,A⟩:=h;obtain⟨I,B,C⟩:=kJ z;obtain⟨a,vs,p,D,_⟩:=m.mine B C;refine⟨.ref a,p,.inl ⟨rfl,vs,SqL.of D⟩,M,P,H0,σ0,env,ts,_,m,ht,λs1 t v1 H1 h1 b=>?_⟩;obtain⟨d,s2,ds,s',k,e2,E,hz,es,G⟩:=h1;obtain⟨J,us,n,r,q⟩:=b.drop.mine e2 E;rw[p] at n;cases n;refine⟨a,us,v1,rfl,rfl,r,by rw[q.len];exact hz,?_⟩;have dn:=b.kept (v:=v1) (s:=s1) (by simp) k;exact A _ _ _ _ G ((b.drop.mut (ds:=ds) e2 es p (q.app (.cons dn .nil))).addFr .non)
def Fd(i:Nat):DE:=λenv R=>∃a ds d s',env[i]? = some a/\gR a=some ds/\ds.getLast? = some d/\cx a ds.dropLast=some s'/\R (.fr d) (env.set i s')
theorem DNs.dropLast:∀{vs:List V}{ds:List ab},DNs K N H vs ds->DNs K N H vs.dropLast ds.dropLast:=λ{vs ds} q=>by
 rw[List.dropLast_eq_take,List.dropLast_eq_take,q.len];exact q.take _
theorem Al(i:Nat){y:bx}{apos cpos npos:Pos}(hK:X.K=K)(hN:X.N[i]? = some y)
  (hv:Vis X.env.scope y:=by first|exact Or.inl rfl|exact Or.inr cc|exact Or.inr (Or.inr rfl)) (hd:(y==("__debug__" : bx))=false:=by decide)
  (j:(y==("__classdict__" : bx))=false:=by decide)
  (b:z5 (.Name y npos) "pop" X.env (eval (.Name y npos) X.env)=eval (.Name y npos) X.env:=by rfl) (c:(apos.endLine==cpos.line)=true:=by rfl) :
  PE X (.Call (.Attribute (.Name y npos) "pop" apos) [] [] cpos) (up K (Fd i)) :=
 (He (K:=K) hK PySem.F.plainAttrs_list PySem.F.slot_list_pop PySem.F.type_list_pop yS (bu hN hv hd j) b c).imp λσ H Q h=>by
 obtain⟨M,P,H0,σ0,env,ts,R,e,⟨t,ds,d,s',k,o,hl,es,p⟩,s⟩:=h;obtain⟨a,vs,l,n,q⟩:=e.mine k o;have hn:ds.length - 1<ds.length:=by
  cases ds with
  | nil=>simp at hl
  | cons z r=>simp
 rw[List.getLast?_eq_getElem?] at hl;have f:vs.length - 1<vs.length:=by rw[q.len];exact hn
 obtain⟨d',h1,dn⟩:=q.get (IK f);rw[q.len,hl] at h1;cases h1;refine⟨.ref a,l,.inl ⟨rfl,vs,SqL.of n⟩,a,vs,vs[vs.length - 1],rfl,rfl,n,IK f,?_⟩;have g:=e.addFr dn;have m:=g.mut (ds:=ds) (vs':=vs.dropLast) (ds':=ds.dropLast) k es l (by
  have : Nw M (aw σ env (ts++[(vs[vs.length - 1],Sl.fr d)]))=Nw M (aw σ env ts):=by
   rw[ar];unfold Nw;have:oas (aw σ env ts++tmp [(vs[vs.length - 1],Sl.fr d)])=oas (aw σ env ts):=by
    rw[ah];have:oas (tmp [(vs[vs.length - 1],Sl.fr d)])=[]:=by
     show oas [(some vs[vs.length - 1],Sl.fr d)]=[]
     rw[aj];cases vs[vs.length - 1] <;> rfl
    rw[this,Jh]
   rw[this]
  rw[this];exact q.dropLast)
 exact s _ _ _ _ p m
end
abbrev DSp:=List Sl->(Sl->List Sl->Prop)->Prop
def ji:Sl->Bool
 | .fr _=>true
 | .ow _=>true
 | .tr _ _=>true
 | _=>false
def vS(vs:List V)(ss:List Sl):ap->Prop:=λa=>a∈oas (tmp (vs.zip ss))
def spD(K:ca)(sp:DSp):Sp:=λvs H Q _=>∃(M:ap->Prop) (ss:List Sl) (R:Sl->List Sl->Prop),vs.length=ss.length/\aU K M (vS vs ss) H (tmp (vs.zip ss)) H/\sp ss R /\
 ∀r a v H',R r a->ji r=true->aU K M (vS vs ss) H (tmp ((v,r)::vs.zip a)) H'->Q v H'
section
variable {K:ca}{M P N:ap->Prop}{H0 H H':Hp}{E:List Ent}{σ0 σ:St}{env:List Sl}{ts:List (V×Sl)}{v:V}{s:Sl}{d:ab}
theorem fN:∀(vs:List V) (ds:List ab),oas (tmp (vs.zip (ds.map Sl.fr)))=[]
 | [],_=>by simp[oas,tmp]
 | _::_,[]=>by simp[oas,tmp]
 | v::vs,d::ds=>by
  show oas ((some v,Sl.fr d)::tmp (vs.zip (ds.map Sl.fr)))=[]
  rw[aj,dy,fN vs ds];rfl
theorem gq{vs:List V}{ds:List ab}{x:Option V}{s:Sl}(h:DNs K N H vs ds):(x,s)∈tmp (vs.zip (ds.map Sl.fr))->∃v d,x=some v/\s=.fr d/\DN K N H v d:=DNs.ind (C:=λvs ds=>(x,s)∈tmp (vs.zip (ds.map Sl.fr))->∃v d,x=some v/\s=.fr d/\DN K N H v d) (λm=>by simp[tmp] at m) (λ{v vs d ds} h _ i m=>by
  have m:(x,s)∈(some v,Sl.fr d)::tmp (vs.zip (ds.map Sl.fr)):=m;rcases IR.mp m with m|m;cases m;exact⟨v,d,rfl,rfl,h⟩;exact i m) h
inductive cI (K:ca) (N:ap->Prop) (Hc H':Hp):V->Sl->Prop
 | fr {v:V}{d:ab}:DN K N H' v d->cI K N Hc H' v (.fr d)
 | ow {a:ap}{vs:List V}{ds:List ab}:H' a=some (.lst vs)->DNs K (λb=>N b\/b=a) H' vs ds->Hc a=none->¬N a->cI K N Hc H' (.ref a) (.ow ds)
 | tr {v:V}{d:ab}{S:List ap}:OT K (λb=>N b\/b∈S) H' v d S->(∀a∈S,Hc a=none/\¬N a)->S.Nodup->cI K N Hc H' v (.tr S d)
theorem aU.resOk{Hc:Hp}{g:ap->Prop}{r:Sl}{T:List Ent}(hc:aU K N g Hc ((some v,r)::T) H')(h:ji r=true):cI K N Hc H' v r:=by
 cases r with
 | fr d =>
  obtain⟨w,e,dn⟩:=hc.fr _ _ IL;cases e;exact .fr (dn.to λb _ _ z=>.inl z)
 | ow ds =>
  obtain⟨a,vs,e,c,f,hn⟩:=hc.ow _ _ IL;cases e;refine .ow c (f.to λb _ _ z=>?_) hn λz=>hc.mt a z hn;rcases z with z|z;exact .inl z;rw[z];exact .inr (by rw[aj];exact IJ _ (IG.mpr rfl))
 | tr S d =>
  obtain⟨w,e,ot,hn⟩:=hc.tr _ _ _ IL;cases e;refine .tr (ot.to λb _ _ z=>?_) (λa c=>⟨hn a c,λz=>hc.mt a z (hn a c)⟩) ?_;rcases z with z|z;exact .inl z;exact .inr (by rw[aj,aK];exact IJ _ z);have nd:=hc.nd;rw[aj,aK] at nd;exact(IT.mp nd).1
 | _=>cases h
theorem cI.to{Hc:Hp}{r:Sl}{e:ap->Prop}(h:cI K N Hc H' v r)(m:∀b,e b->N b):cI K e Hc H' v r:=by
 cases h with
 | fr dn=>exact .fr (dn.to λb _ _ z=>m b z)
 | ow c d hn f=>exact .ow c (d.to λb _ _ z=>z.elim (λz=>.inl (m b z)) .inr) hn λz=>f (m _ z)
 | tr ot hn nd=>exact .tr (ot.to λb _ _ z=>z.elim (λz=>.inl (m b z)) .inr) (λa c=>⟨(hn a c).1,λz=>(hn a c).2 (m a z)⟩) nd
theorem cI.own{r:Sl}{Hc:Hp}(h:cI K N Hc H' v r):(∀b∈cH (some v,r),Hc b=none/\¬N b)/\(cH (some v,r)).Nodup:=by
 cases h with
 | fr dn=>rw[dy];exact⟨λb a=>absurd a Jk,J4⟩
 | ow e c hn d=>exact⟨λb a=>by rw[IG.mp a];exact⟨hn,d⟩,Jr.mpr ⟨by simp,J4⟩⟩
 | tr ot hn nd=>rw[aK];exact⟨hn,nd⟩
theorem cI.frD{d:ab}{Hc:Hp}(h:cI K N Hc H' v (.fr d)):DN K N H' v d:=by
 cases h with
 | fr dn=>exact dn
theorem cI.owD{ds:List ab}{Hc:Hp}(h:cI K N Hc H' v (.ow ds)):∃a vs,v=.ref a/\H' a=some (.lst vs)/\DNs K (λb=>N b\/b=a) H' vs ds/\Hc a=none:=by
 cases h with
 | ow d c hn e=>exact⟨_,_,rfl,d,c,hn⟩
theorem cI.ioD{ds:List ab}{Hc:Hp}(h:cI K N Hc H' v (.io ds)):False:=by cases h
theorem cI.trD{d:ab}{S:List ap}{Hc:Hp}(h:cI K N Hc H' v (.tr S d)):OT K (λb=>N b\/b∈S) H' v d S/\∀a∈S,Hc a=none/\¬N a:=by
 cases h with
 | tr ot hn nd=>exact⟨ot,hn⟩
theorem aU.getRes{r:Sl}(h:aU K M P H0 E H'){Hc:Hp}(j:∀b,H0 b≠none->Hc b≠none)(f:cI K (Nw M E) Hc H' v r)
  (frs:∀x d,(x,Sl.fr d)∈E->∃w,x=some w/\DN K (λb=>Nw M E b\/(b∈cH (some v,r)/\Hc b=none)) H' w d)
  (k:∀x s ds,(x,s)∈E->gR s=some ds->∃a vs,x=some (.ref a)/\H' a=some (.lst vs)/\DNs K (λb=>Nw M E b\/(b∈cH (some v,r)/\Hc b=none)) H' vs ds)
  (ots:∀x S d,(x,Sl.tr S d)∈E->∃w,x=some w/\OT K (λb=>Nw M E b\/(b∈cH (some v,r)/\Hc b=none)) H' w d S):aU K M P H0 (E++[(some v,r)]) H':=by
 obtain⟨i,l⟩:=f.own;have y:oas (E++[(some v,r)])=oas E++cH (some v,r):=by rw[ah,aj];simp[oas]
 have up:∀b,Nw M (E++[(some v,r)]) b->Nw M E b\/b∈cH (some v,r):=λb z=>by
  rcases z with z|z;exact .inl (.inl z);rw[y] at z;rcases II.mp z with z|z;exact .inl (.inr z);exact .inr z
 have g:∀b,Nw M (E++[(some v,r)]) b->Nw M E b\/(b∈cH (some v,r)/\Hc b=none):=λb z=>(up b z).elim .inl λz=>.inr ⟨z,(i b z).1⟩;have A:∀b,Hc b=none->H0 b=none:=λb hn=>by
  cases e:H0 b with
  | none=>rfl
  | some o=>exact absurd hn (j b (by rw[e];simp))
 refine⟨h.keep,h.live,h.mt,h.pm,λx d' m=>?_,λx d' m=>?_,λx d' m=>?_,λx S d' m=>?_,?_⟩;rcases II.mp m with m|m;obtain⟨w,e,dn⟩:=frs x d' m;exact⟨w,e,dn.to λb _ _ z=>g b z⟩;rw[IG] at m;obtain⟨e1,rfl⟩:=Prod.mk.inj m;exact⟨v,e1,f.frD.to λb _ _ z=>(up b z).elim id λz=>by rw[dy] at z;exact absurd z Jk⟩;rcases II.mp m with m|m;obtain⟨b,us,e,e2,dn⟩:=k x _ d' m rfl;obtain⟨B,n,e',p,_,r⟩:=h.ow x d' m;rw[e] at e';cases e';exact⟨b,us,e,e2,dn.to λb _ _ z=>g b z,r⟩;rw[IG] at m;obtain⟨e1,rfl⟩:=Prod.mk.inj m;obtain⟨a,us,rfl,q,t,hn⟩:=f.owD;exact⟨a,us,e1,q,t.to λb _ _ z=>(up b z).elim .inl λz=>.inr (IG.mp z),A _ hn⟩;rcases II.mp m with m|m;obtain⟨b,us,e,e2,dn⟩:=k x _ d' m rfl;obtain⟨B,n,e',p,_,r⟩:=h.io x d' m;rw[e] at e';cases e';exact⟨b,us,e,e2,dn.to λb _ _ z=>g b z,r⟩;rw[IG] at m;obtain⟨e1,rfl⟩:=Prod.mk.inj m;exact f.ioD.elim;rcases II.mp m with m|m;obtain⟨w,e,dn⟩:=ots x S d' m;obtain⟨w',e',_,r⟩:=h.tr x S d' m;exact⟨w,e,dn.to λb _ _ z=>g b z,r⟩;rw[IG] at m;obtain⟨e1,rfl⟩:=Prod.mk.inj m;exact⟨v,e1,f.trD.1.to λb _ _ z=>(up b z).elim .inl λz=>.inr (by rw[aK] at z;exact z),λa q=>A _ (f.trD.2 a q).1⟩;rw[y];exact IT.mpr ⟨h.nd,l,λb C c u z=>(i c u).2 (.inr (z▸C))⟩
theorem DN.past{Hc:Hp}{a:ap->Prop}(h:DN K N Hc v d)(f:∀b,a b->N b\/Hc b=none){c:ap->Prop}(k:aO c Hc H')(g:∀b,c b->a b):DN K a H' v d :=
 (h.to λb o e z=>(f b z).elim id λz=>by rw[z] at e;cases e).keep (k.mono g)
theorem DNs.past{Hc:Hp}{a:ap->Prop}{vs:List V}{ds:List ab}(h:DNs K N Hc vs ds)(d:∀b,a b->N b\/Hc b=none){c:ap->Prop}(k:aO c Hc H')(f:∀b,c b->a b):DNs K a H' vs ds :=
 (h.to λb o e z=>(d b z).elim id λz=>by rw[z] at e;cases e).keep (k.mono f)
theorem OT.past{Hc:Hp}{c:ap->Prop}{S:List ap}(h:OT K N Hc v d S)(i:∀b,c b->N b\/Hc b=none){f:ap->Prop}(k:aO f Hc H')(j:∀b,f b->c b)(hs:∀b∈S,¬f b):OT K c H' v d S :=
 (h.to λb o e z=>(i b z).elim id λz=>by rw[z] at e;cases e).keep (k.mono j) λa g=>by
  obtain⟨xs,z⟩:=h.lives a g;rw[k _ _ (hs a g) z,z]
theorem aU.called{r:Sl}(h:aU K M P H0 E H)(k:aS H H')(c:cI K (Nw M E) H H' v r):aU K M P H0 (E++[(some v,r)]) H':=by
 refine(h.same k).getRes h.live c (λx d m=>?_) (λx s ds m f=>?_) λx S d m=>?_
 rotate_right
 obtain⟨w,e,dn,_⟩:=h.tr x S d m;exact⟨w,e,dn.past (λb z=>z.elim .inl λz=>.inr z.2) (aO.same (N:=N0) k) (λb z=>z.elim) λb _ z=>z.elim⟩;obtain⟨w,e,dn⟩:=h.fr x d m;exact⟨w,e,dn.past (λb z=>z.elim .inl λz=>.inr z.2) (aO.same (N:=N0) k) λb z=>z.elim⟩;cases s with
 | ow l =>
  cases f;obtain⟨a,vs,e,e2,dn,_⟩:=h.ow x _ m;exact⟨a,vs,e,k _ _ e2,dn.past (λb z=>z.elim .inl λz=>.inr z.2) (aO.same (N:=N0) k) λb z=>z.elim⟩
 | io l =>
  cases f;obtain⟨a,vs,e,e2,dn,_⟩:=h.io x _ m;exact⟨a,vs,e,k _ _ e2,dn.past (λb z=>z.elim .inl λz=>.inr z.2) (aO.same (N:=N0) k) λb z=>z.elim⟩
 | _=>cases f
theorem Rel.withRes{r:Sl}(h:Rel K M P H0 σ0 σ env ts H)(e:aU K M P H0 (aw σ env ts++[(some v,r)]) H')(a:ji r=true):Rel K M P H0 σ0 σ env (ts++[(v,r)]) H' :=
  ⟨by rw[ar];exact e,h.len,(λw i m=>by
    rcases II.mp m with m|m;exact h.vw w i m;rw[IG] at m;cases m;cases a),h.ios⟩
def vp(sp:DSp)(t:DA):DE:=λenv R=>t env λss a=>∃ds,aN a ss=some ds/\sp (ds.map .fr) (dK (λr _=>R r a) ⟨⟩)
theorem mZ{M':ap->Prop}{vs:List V}{ds:List ab}(c:DNs K M' H vs ds)(f:∀a,M' a->H a≠none):aU K M' (vS vs (ds.map .fr)) H (tmp (vs.zip (ds.map .fr))) H:=by
 have e:=fN vs ds;have ne:∀b,Nw M' (tmp (vs.zip (ds.map .fr))) b->M' b:=λb z=>z.elim id λz=>by rw[e] at z;cases z
 refine⟨aO.refl,λa q=>q,f,λa z=>?_,λx d m=>?_,λx l m=>?_,λx l m=>?_,λx S l m=>?_,by rw[e];exact J4⟩
 rotate_right
 obtain⟨w,d',e1,e2,dn⟩:=gq c m;cases e2;have z:a∈oas (tmp (vs.zip (ds.map .fr))):=z;rw[e] at z;cases z;obtain⟨w,d',e1,e2,dn⟩:=gq c m;cases e2;exact⟨w,e1,dn.to λb _ _ z=>ne b z⟩;obtain⟨w,d',e1,e2,dn⟩:=gq c m;cases e2;obtain⟨w,d',e1,e2,dn⟩:=gq c m;cases e2
theorem B4{sp:DSp}{tl:DA}:∀σ H Q,up K (vp sp tl) σ H Q->nq (spD K sp) [] E0 (upA K tl) σ H Q:=λσ H Q h=>by
 obtain⟨M,P,H0,σ0,env,ts,R,i,ht,m⟩:=h;refine⟨M,P,H0,σ0,env,ts,_,i,ht,λss d vs H1 h1 hl c=>?_⟩;obtain⟨ds,n,j⟩:=h1;rw[Jh];have g:=c.keptAll hl (λp o=>o) n;have q:=fN vs ds;refine⟨Nw M (aw σ d ts),ds.map .fr,λr _=>R r d,by simp[g.len],mZ g λa z hn=>c.drop.newAddr hn z,j,λr s v H' t l f=>m _ _ _ _ t ?_⟩;have k:aS H1 H':=(f.keep.mono (M:=N0) λb z=>by
  have z:b∈oas (tmp (vs.zip (ds.map .fr))):=z;rw[q] at z;cases z).none
 exact(c.drop).withRes (c.drop.e.called k (f.resOk l)) l
end
section
variable {K:ca}{M P:ap->Prop}{H0 H H':Hp}{E A B:List Ent}{σ0 σ:St}{env:List Sl}{ts tt:List (V×Sl)}{v:V}{s:Sl}{d:ab}
theorem d4(t:V×Sl)(ts:List (V×Sl)):tmp (t::ts)=(some t.1,t.2)::tmp ts:=rfl
theorem ni(ts tt:List (V×Sl)):tmp (ts++tt)=tmp ts++tmp tt:=by simp[tmp]
theorem kR{α β:Type}:∀{l1:List α}{m1:List β} (x:α) (y:β) (l2:List α) (m2:List β),l1.length=m1.length->(l1++x::l2).zip (m1++y::m2)=l1.zip m1++(x,y)::l2.zip m2
 | [],[],_,_,_,_,_=>rfl
 | a::l1,b::m1,x,y,l2,m2,h=>by
  show(a,b)::(l1++x::l2).zip (m1++y::m2)=_;rw[kR x y l2 m2 (by simpa using h)];rfl
 | [],_::_,_,_,_,_,h=>by simp at h
 | _::_,[],_,_,_,_,h=>by simp at h
theorem zC{M':ap->Prop}{v1 c us:List V}{d1 d2 l:List ab}{a:ap}(f:DNs K M' H v1 d1)(i:DNs K M' H c d2)(j:∀a,M' a->H a≠none)(g:M' a)(k:H a=some (.lst us))(n:DNs K M' H us l) :
  oas (tmp ((v1++.ref a::c).zip (d1.map .fr++.io l::d2.map .fr)))=[a] /\
  aU K M' (vS (v1++.ref a::c) (d1.map .fr++.io l::d2.map .fr)) H (tmp ((v1++.ref a::c).zip (d1.map .fr++.io l::d2.map .fr))) H:=by
 have h:(v1++.ref a::c).zip (d1.map Sl.fr++.io l::d2.map .fr)=v1.zip (d1.map .fr)++(.ref a,.io l)::c.zip (d2.map .fr):=kR _ _ _ _ (by simp[f.len]);have e:oas (tmp ((v1++.ref a::c).zip (d1.map .fr++.io l::d2.map .fr)))=[a]:=by rw[h,ni,d4,ah,aj,fN,fN];rfl
 have ne:∀b,Nw M' (tmp ((v1++.ref a::c).zip (d1.map .fr++.io l::d2.map .fr))) b->M' b:=λb z=>z.elim id λz=>by rw[e,IG] at z;rw[z];exact g
 have cs:∀x s,(x,s)∈tmp ((v1++.ref a::c).zip (d1.map .fr++.io l::d2.map .fr))->(∃w d,x=some w/\s=.fr d/\DN K M' H w d)\/(x=some (.ref a)/\s=.io l):=λx s m=>by
  rw[h,ni,d4] at m;rcases II.mp m with m|m;exact .inl (gq f m);rcases IR.mp m with m|m;cases m;exact .inr ⟨rfl,rfl⟩;exact .inl (gq i m)
 refine⟨e,aO.refl,λa q=>q,j,λb z=>?_,λx d m=>?_,λx l' m=>?_,λx l' m=>?_,λx S l' m=>?_,by rw[e];simp⟩
 rotate_right
 rcases cs x _ m with⟨w,d',e1,e2,dn⟩|⟨_,e2⟩
 cases e2;cases e2;have z:b∈oas (tmp ((v1++.ref a::c).zip (d1.map .fr++.io l::d2.map .fr))):=z;rw[e,IG] at z;rw[z];exact g;rcases cs x _ m with⟨w,d',e1,e2,dn⟩|⟨_,e2⟩
 cases e2;exact⟨w,e1,dn.to λb _ _ z=>ne b z⟩;cases e2;rcases cs x _ m with⟨w,d',e1,e2,dn⟩|⟨_,e2⟩
 cases e2;cases e2;rcases cs x _ m with⟨w,d',e1,e2,dn⟩|⟨e1,e2⟩
 cases e2;cases e2;exact⟨a,us,e1,k,n.to λb _ _ z=>ne b z,by show a∈oas _;rw[e];simp⟩
theorem aU.lost{a:ap}{l:List ab}(h:aU K M P H0 (E++[(some (.ref a),.ow l)]) H)(k:aO (λb=>b=a) H H')(t:∀b,H b≠none->H' b≠none):aU K M P H0 E H' /\
  (∀x d,(x,Sl.fr d)∈E->∃w,x=some w/\∀c:ap->Prop,(∀b,c b->Nw M (E++[(some (.ref a),.ow l)]) b\/H b=none)->c a->DN K c H' w d) /\
  (∀x s ds,(x,s)∈E->gR s=some ds->∃b vs,x=some (.ref b)/\H' b=some (.lst vs)/\∀c:ap->Prop,(∀b,c b->Nw M (E++[(some (.ref a),.ow l)]) b\/H b=none)->c a->DNs K c H' vs ds) /\
  (∀x S d,(x,Sl.tr S d)∈E->∃w,x=some w/\∀c:ap->Prop,(∀b,c b->Nw M (E++[(some (.ref a),.ow l)]) b\/H b=none)->c a->OT K c H' w d S):=by
 have p:oas (E++[(some (.ref a),Sl.ow l)])=oas E++[a]:=by rw[ah];rfl
 have nd:=h.nd;rw[p] at nd;obtain⟨u,_,y⟩:=IT.mp nd;have na:Nw M (E++[(some (.ref a),Sl.ow l)]) a:=.inr (by rw[p];simp);obtain⟨_,_,z,_,_,A⟩:=h.ow _ _ (IE _ IL);cases z;have sub:∀b,Nw M E b->Nw M (E++[(some (.ref a),Sl.ow l)]) b:=λb z=>eM z;have j:∀b,b=a->Nw M (E++[(some (.ref a),Sl.ow l)]) b:=λb z=>by rw[z];exact na
 have other:∀b x s,(x,s)∈E->b∈cH (x,s)->b≠a:=λb x s m i z=>y b (aT.mpr ⟨_,m,i⟩) a (by simp) z;refine⟨⟨?_,λb q=>t b (h.live b q),h.mt,h.pm,λx d m=>?_,λx d m=>?_,λx d m=>?_,λx S d m=>?_,u⟩,λx d m=>?_,λx s ds m i=>?_,λx S d m=>?_⟩
 rotate_right
 obtain⟨v,e,dn,r⟩:=h.tr x S d (IJ _ m);subst e;exact⟨v,rfl,λc g f=>dn.past g k (λb z=>by rw[z];exact f) λb n z=>other b _ _ m (by rw[aK];exact n) z⟩
 rotate_right 3
 obtain⟨v,e,dn,r⟩:=h.tr x S d (IJ _ m);subst e;refine⟨v,rfl,(dn.keep (k.mono j) λb n=>?_).to λb _ _ z=>sub b z,r⟩;obtain⟨xs,z⟩:=dn.lives b n;rw[k _ _ (other b _ _ m (by rw[aK];exact n)) z,z]
 rotate_left 2
 intro b o B e;refine k b o (λz=>?_) (h.keep b o B e);rw[z,A] at e;cases e;obtain⟨v,e,dn⟩:=h.fr x d (IJ _ m);exact⟨v,e,(dn.keep (k.mono j)).to λb _ _ z=>sub b z⟩;obtain⟨b,us,e,e2,dn,r⟩:=h.ow x d (IJ _ m);subst e;exact⟨b,us,rfl,k _ _ (other b _ _ m (IG.mpr rfl)) e2,(dn.keep (k.mono j)).to λb _ _ z=>sub b z,r⟩;obtain⟨b,us,e,e2,dn,r⟩:=h.io x d (IJ _ m);subst e;exact⟨b,us,rfl,k _ _ (other b _ _ m (IG.mpr rfl)) e2,(dn.keep (k.mono j)).to λb _ _ z=>sub b z,r⟩;obtain⟨v,e,dn⟩:=h.fr x d (IJ _ m);exact⟨v,e,λc g f=>dn.past g k λb z=>by rw[z];exact f⟩;cases s with
 | ow l' =>
  cases i;obtain⟨b,us,e,e2,dn,r⟩:=h.ow x _ (IJ _ m);subst e;exact⟨b,us,rfl,k _ _ (other b _ _ m (IG.mpr rfl)) e2,λc g f=>dn.past g k λb z=>by rw[z];exact f⟩
 | io l' =>
  cases i;obtain⟨b,us,e,e2,dn,r⟩:=h.io x _ (IJ _ m);subst e;exact⟨b,us,rfl,k _ _ (other b _ _ m (IG.mpr rfl)) e2,λc g f=>dn.past g k λb z=>by rw[z];exact f⟩
 | _=>cases i
def qR(sp:DSp)(t:DA):DE:=λenv R=>t env λss a=>∃l b ds,ss=.ow l::b/\aN a b=some ds/\sp (.io l::ds.map .fr) (dK (λr _=>R r a) ⟨⟩)
theorem yg{sp:DSp}{tl:DA}:∀σ H Q,up K (qR sp tl) σ H Q->nq (spD K sp) [] E0 (upA K tl) σ H Q:=λσ H Q h=>by
 obtain⟨M,P,H0,σ0,env,ts,R,A,ht,L⟩:=h;refine⟨M,P,H0,σ0,env,ts,_,A,ht,λss c vs H1 h1 hl o=>?_⟩;obtain⟨l,B,ds,rfl,N,C⟩:=h1;rw[Jh];obtain⟨v1,vs',rfl⟩:=FY hl;have i:Rel K M P H0 σ0 σ c ((ts++[(v1,.ow l)])++vs'.zip B) H1:=by simpa using o
 have n:=i.keptAll (by simpa using hl) (λp O=>O) N;have g:=i.drop;have q:=g.e;rw[ar] at q;obtain⟨a,us,T,U,V,h0⟩:=q.ow (some v1) l (IE _ (by simp[tmp]));cases T;have q:aU K M P H0 (aw σ c ts++[(some (.ref a),.ow l)]) H1:=q;have t:Nw M (aw σ c (ts++[(.ref a,.ow l)]))=Nw M (aw σ c ts++[(some (.ref a),.ow l)]):=by rw[ar];rfl
 rw[t] at n;have G:Nw M (aw σ c ts++[(some (.ref a),.ow l)]) a:=.inr (by rw[ah];exact IE _ (aT.mpr ⟨_,IG.mpr rfl,IG.mpr rfl⟩));have u:=zC (v1:=[]) (d1:=[]) (l:=l) (us:=us) (a:=a) (K:=K) (M':=Nw M (aw σ c ts++[(some (.ref a),.ow l)])) (H:=H1) .nil n (λb z hn=>g.newAddr hn (by rw[t];exact z)) G U V;refine⟨_,.io l::ds.map .fr,λr _=>R r c,by simp[n.len],u.2,C,λr W v H' X I j=>L _ _ _ _ X ?_⟩;have k:aO (λb=>b=a) H1 H':=j.keep.mono λb z=>by
  have z:b∈oas (tmp ((.ref a::vs').zip (.io l::ds.map .fr))):=z;have J:=u.1;simp only[Kt,J5] at J;rw[J,IG] at z;exact z
 obtain⟨y,Y,Z,f3⟩:=q.lost k j.live;have rk:=j.resOk I;have D:cI K (Nw M (aw σ c ts)) H1 H' v r:=rk.to λb z=>eM z;have E:∀b,((Nw M (aw σ c ts) b\/(b∈cH (some v,r)/\H1 b=none))\/b=a)->Nw M (aw σ c ts++[(some (.ref a),.ow l)]) b\/H1 b=none:=λb z=>by
  rcases z with (z|z)|z;exact .inl (eM z);exact .inr z.2;rw[z];exact .inl G
 refine g.drop.withRes ?_ I;refine y.getRes g.e.live D (λx d m=>?_) (λx s ds' m eo=>?_) λx S d m=>?_
 rotate_right
 obtain⟨w,e,f⟩:=f3 x S d m;exact⟨w,e,(f (λb=>(Nw M (aw σ c ts) b\/(b∈cH (some v,r)/\H1 b=none))\/b=a) E (.inr rfl)).to λb _ _ z=>.inl z⟩;obtain⟨w,e,f⟩:=Y x d m;exact⟨w,e,(f (λb=>(Nw M (aw σ c ts) b\/(b∈cH (some v,r)/\H1 b=none))\/b=a) E (.inr rfl)).to λb _ _ z=>.inl z⟩;obtain⟨b,F,e,e2,f⟩:=Z x s ds' m eo;exact⟨b,F,e,e2,(f (λb=>(Nw M (aw σ c ts) b\/(b∈cH (some v,r)/\H1 b=none))\/b=a) E (.inr rfl)).to λb _ _ z=>.inl z⟩
def mH(sp:DSp)(m:Nat)(t:DA):DE:=λenv R=>t env λss a=>∃i b l d1 d2,ss[m]? = some (.vw i)/\a[i]? = some b/\gR b=some l/\aN a (ss.take m)=some d1/\aN a (ss.drop (m+1))=some d2 /\
 sp (d1.map .fr++.io l::d2.map .fr) (dK (λr c=>∃l' s',c[m]? = some (.io l')/\cx b l'=some s'/\R r (a.set i s')) ⟨⟩)
theorem v9{α β:Type}(l:List α)(m:List β)(n:Nat):∀p∈(l.take n).zip (m.take n),p∈l.zip m:=λp a=>by
 rw[List.zip,<-List.take_zipWith] at a;exact List.mem_of_mem_take a
theorem xS{α β:Type}(l:List α)(m:List β)(n:Nat):∀p∈(l.drop n).zip (m.drop n),p∈l.zip m:=λp a=>by
 rw[List.zip,<-List.drop_zipWith] at a;exact List.mem_of_mem_drop a
theorem ED{α:Type}{l:List α}{m:Nat}{x:α}(h:l[m]? = some x):l=l.take m++x::l.drop (m+1):=by obtain⟨a,e⟩:=IN.mp h;rw[<-e,List.getElem_cons_drop,List.take_append_drop]
theorem yh{sp:DSp}{m:Nat}{tl:DA}:∀σ H Q,up K (mH sp m tl) σ H Q->nq (spD K sp) [] E0 (upA K tl) σ H Q:=λσ H Q h=>by
 obtain⟨M,P,H0,σ0,env,ts,R,a4,ht,hq⟩:=h;refine⟨M,P,H0,σ0,env,ts,_,a4,ht,λss f vs H1 h1 hl n=>?_⟩;obtain⟨i,L,l,d1,d2,em,N,O,k1,k2,a5⟩:=h1;rw[Jh];have c:=n.drop;obtain⟨a,us,ea,hH,ql⟩:=c.mine N O;have hm:m<ss.length:=(IN.mp em).1;have a6:m<vs.length:=by omega
 have va:vs[m]? = some (.ref a):=by
  have mz:(vs[m],ss[m])∈vs.zip ss:=by
   have hz:m<(vs.zip ss).length:=by rw[JZ];omega
   have:=Ju hz;rwa [J3] at this
  rw[(IN.mp em).2] at mz;have q:=n.vw _ _ (IE _ mz);rw[ea] at q;rw[IK a6];exact congrArg some (Option.some.inj (Option.some.inj q)).symm
 have ev:=ED va;have q1:=n.keptAll (vs:=vs.take m) (ss:=ss.take m) (by simp;omega) (v9 _ _ _) k1;have q2:=n.keptAll (vs:=vs.drop (m+1)) (ss:=ss.drop (m+1)) (by simp;omega) (xS _ _ _) k2;have D:=c.e;have ma:Nw M (aw σ f ts) a:=by obtain⟨x,e1,g⟩:=c.slot N;rw[ea] at e1;cases e1;refine .inr (aT.mpr ⟨_,g,?_⟩);exact(pZ O).2 a
 have E:=zC (l:=l) (us:=us) (a:=a) q1 q2 (λb z hn=>c.newAddr hn z) ma hH ql;rw[<-ev] at E;have b5:=q1.len;have b6:=q2.len;refine⟨_,d1.map .fr++.io l::d2.map .fr,_,?_,E.2,a5,λr F v H' hR hr o=>?_⟩;rw[ev];simp only[Jg,Jf,IF];omega;obtain⟨l',s',e2,es,hR⟩:=hR;refine hq _ _ _ _ hR ?_;have k:aO (λb=>b=a) H1 H':=o.keep.mono λb z=>by
  have z:b∈oas (tmp (vs.zip (d1.map .fr++.io l::d2.map .fr))):=z;rw[E.1,IG] at z;exact z
 have mp:((some (.ref a),.io l'):Ent)∈tmp ((v,r)::vs.zip F):=by
  rw[d4];refine IM _ (IZ.mpr ⟨(.ref a,.io l'),?_,rfl⟩);have h2:m<F.length:=(IN.mp e2).1;have hz:m<(vs.zip F).length:=by rw[JZ];omega
  have:=Ju hz;rw[J3,(IN.mp va).2,(IN.mp e2).2] at this;exact this
 obtain⟨a',T,z,U,V,_⟩:=o.io _ _ mp;cases z;obtain⟨x,A,B,e3,u,G⟩:=c.split N;rw[ea] at e3;cases e3;have s:Bi L l' s':=(ju es).1;rw[u] at D;have a7:DNs K (Nw M (A++(some (.ref a),L)::B)) H' T l':=V.to λb _ _ z=>.inl (by rw[u];exact z);have hM:=D.muted s k o.live U a7;have y:Nw M (aw σ (f.set i s') ts)=Nw M (aw σ f ts):=by
  rw[u,G];have oa:cH (some (.ref a),L)=[a]/\cH (some (.ref a),s')=[a]:=by exact fU s
  unfold Nw;rw[ah,ah,aj,aj,oa.1,oa.2]
 rw[<-G] at hM;have rk:cI K (Nw M (aw σ (f.set i s') ts)) H1 H' v r:=by rw[y];exact o.resOk hr
 have W:Rel K M P H0 σ0 σ (f.set i s') ts H':=⟨hM,by simp[c.len],c.vw,λj X e'=>by
  by_cases hj:i=j;subst hj;have hi:i<f.length:=(IN.mp N).1;rw[Jc hi] at e';cases e';obtain⟨b0,rfl⟩:=tx es;exact c.ios i b0 N;rw[Je hj] at e';exact c.ios j X e'⟩
 refine W.withRes ?_ hr;have I:∀x t,(x,t)∈aw σ (f.set i s') ts->(x,t)=(some (.ref a),s')\/((x,t)∈A\/(x,t)∈B):=λx t m=>by
  rw[G] at m;rcases II.mp m with m|m;exact .inr (.inl m);rcases IR.mp m with m|m;exact .inl m;exact .inr (.inr m)
 have p:∀x t,(x,t)∈A\/(x,t)∈B->(x,t)∈A++(some (.ref a),L)::B:=λx t m=>by
  rcases m with m|m;exact IJ _ m;exact IE _ (IM _ m)
 have Y:∀b,(Nw M (aw σ (f.set i s') ts) b\/(b∈cH (some v,r)/\H1 b=none))->Nw M (A++(some (.ref a),L)::B) b\/H1 b=none:=λb z=>by
  rw[y,u] at z;exact z.elim .inl λz=>.inr z.2
 have Z:∀b,b=a->(Nw M (aw σ (f.set i s') ts) b\/(b∈cH (some v,r)/\H1 b=none)):=λb z=>by rw[z,y];exact .inl ma
 have b1:cH (some (.ref a),L)=[a]:=(fU s).1;have nd:=D.nd;rw[ah,aj,b1] at nd;obtain⟨_,b2,b3⟩:=IT.mp nd;obtain⟨b4,_⟩:=Jr.mp b2;have other:∀x t b,(x,t)∈A\/(x,t)∈B->b∈cH (x,t)->b≠a:=λx t b m O z=>by
  subst z;rcases m with m|m;exact b3 b (aT.mpr ⟨_,m,O⟩) b IL rfl;exact b4 (aT.mpr ⟨_,m,O⟩)
 refine hM.getRes c.e.live rk (λx d g=>?_) (λx t ds' g C=>?_) λx S d g=>?_
 rotate_right
 rcases I _ _ g with g|g;rcases cM s with⟨_,_,e⟩|⟨_,_,e⟩ <;> (rw[e] at g;cases g)
 obtain⟨w,e,dn,_⟩:=D.tr x S d (p _ _ g);subst e;exact⟨w,rfl,dn.past Y k Z λb hb z=>other _ _ b g (by rw[aK];exact hb) z⟩;rcases I _ _ g with g|g;rcases cM s with⟨_,_,e⟩|⟨_,_,e⟩ <;> (rw[e] at g;cases g)
 obtain⟨w,e,dn⟩:=D.fr x d (p _ _ g);exact⟨w,e,dn.past Y k Z⟩;rcases I _ _ g with g|g;cases g;have el:ds'=l':=Option.some.inj (C.symm.trans (ju es).2);subst el;refine⟨a,T,rfl,U,V.to λb _ _ z=>?_⟩;rcases z with z|z;exact .inl (by rw[<-y];exact z);exact .inr (by rw[d4,aj];exact IJ _ z.1);cases t with
 | ow l2 =>
  cases C;obtain⟨b,us2,e,J,dn,_⟩:=D.ow x _ (p _ _ g);subst e;exact⟨b,us2,rfl,k _ _ (other _ _ b g (IG.mpr rfl)) J,dn.past Y k Z⟩
 | io l2 =>
  cases C;obtain⟨b,us2,e,J,dn,_⟩:=D.io x _ (p _ _ g);subst e;exact⟨b,us2,rfl,k _ _ (other _ _ b g (IG.mpr rfl)) J,dn.past Y k Z⟩
 | _=>cases C
end
structure gx where
 nx : List Sl->Prop
 rt : Sl->List Sl->Prop
 bk : List Sl->Prop:=λ_=>False
 ct : List Sl->Prop:=λ_=>False
abbrev DS:=gx->List Sl->Prop
def yl(ts:List (V×Sl)):Prop:=∀v i,(v,Sl.vw i) ∉ ts
structure EO(K:ca)(M P:ap->Prop)(H0:Hp)(σ0:St)(ts:List (V×Sl))(DD:gx)(D:zH):Prop where
 nx : ∀σ' env' H',DD.nx env'->Rel K M P H0 σ0 σ' env' ts H'->D.nx σ' H'
 rt : ∀s env' v σ' H',DD.rt s env'->Rel K M P H0 σ0 σ' env' (ts++[(v,s)]) H'->D.rt v H'
 bk : ∀σ' env' H',DD.bk env'->Rel K M P H0 σ0 σ' env' ts H'->D.bk σ' H'
 ct : ∀σ' env' H',DD.ct env'->Rel K M P H0 σ0 σ' env' ts H'->D.ct σ' H'
inductive upS (K:ca) (t:DS) (D:zH) (σ:St) (H:Hp):Prop
 | mk (M P:ap->Prop) (H0:Hp) (σ0:St) (env:List Sl) (ts:List (V×Sl)) (DD:gx):yl ts->Rel K M P H0 σ0 σ env ts H->t DD env->EO K M P H0 σ0 ts DD D->upS K t D σ H
theorem PS.imp{X:Cx}{e:Stmt}{t t':TS}(h:PS X e t)(k:∀D σ H,t' D σ H->t D σ H):PS X e t':=λpins s σ H D I hw=>h pins s σ H D I (k D σ H hw)
theorem PSs.imp{X:Cx}{e:List Stmt}{t t':TS}(h:PSs X e t)(k:∀D σ H,t' D σ H->t D σ H):PSs X e t':=λpins s σ H D I hw=>h pins s σ H D I (k D σ H hw)
section
variable {K:ca}{M P:ap->Prop}{H0 H:Hp}{σ0 σ:St}{env:List Sl}{ts tt:List (V×Sl)}{v:V}{s:Sl}{d:ab}
def gP(env:List Sl):Sl->Option Sl
 | .fr d=>some (.fr d)
 | .ow ds=>some (.ow ds)
 | .tr S d=>some (.tr S d)
 | .vw i=>((env[i]?).bind slK).map .fr
 | _=>none
theorem Rel.unVw(h:Rel K M P H0 σ0 σ env (ts++[(v,s)]) H){s':Sl}(e:gP env s=some s'):Rel K M P H0 σ0 σ env (ts++[(v,s')]) H/\ji s'=true:=by
 cases s with
 | fr d=>cases e;exact⟨h,rfl⟩
 | ow ds=>cases e;exact⟨h,rfl⟩
 | tr S d=>cases e;exact⟨h,rfl⟩
 | vw i =>
  have e:((env[i]?).bind slK).map Sl.fr=some s':=e;cases q:(env[i]?).bind slK with
  | none=>rw[q] at e;cases e
  | some d =>
   rw[q] at e;cases e;exact⟨h.drop.addFr (h.kept (tt:=[(v,.vw i)]) (s:=.vw i) (by simp) q),rfl⟩
 | _=>cases e
theorem vX{σ:St}{env:List Sl}{i:Nat}{x:Option V}{s':Sl}:(σ.set i x).zip (env.set i s')=(σ.zip env).set i (x,s'):=by
 apply List.ext_getElem?;intro j;rw[dG];by_cases hj:i=j;subst hj;rw[Ke,Ke,Ke,dG];cases σ[i]? <;> cases env[i]? <;> rfl
 rw[Je hj,Je hj,Je hj,dG]
theorem Rel.store(h:Rel K M P H0 σ0 σ env (ts++[(v,s)]) H)(nv:yl ts){i:Nat}(hi:i<env.length)(hs:ji s=true):Rel K M P H0 σ0 (σ.set i (some v)) (env.set i s) ts H:=by
 have b:i<(σ.zip env).length:=by rw[JZ,h.len];omega
 obtain⟨A,B,c,d⟩:=fP (IK b);refine⟨?_,by simp[h.len],λw j m=>absurd m (nv w j),λj ds e=>?_⟩;have a:=h.e;unfold aw at a ⊢;rw[c,ni,JE] at a;rw[vX,d,JE];have e2:((σ.zip env)[i]::B)++(tmp ts++tmp [(v,s)])=(σ.zip env)[i]::((B++tmp ts)++[(some v,s)]):=by simp[tmp]
 rw[e2] at a;have:=a.move;simpa using this;by_cases hj:i=j;subst hj;rw[Jc hi] at e;cases e;cases hs;rw[Je hj] at e;rw[Je hj];exact h.ios j ds e
end
section
variable {X:Cx}{K:ca}{pos:Pos}{st:Stmt}{rest a b:List Stmt}{t u:DS}{e c:bb}{te:DE}{tc:DT}
def BP:DS:=λDD env=>DD.nx env
def Ex(t u:DS):DS:=λDD env=>t { DD with nx:=u DD } env
def Ix(t u:DS):DS:=λDD env=>∃R:List Sl->Prop,t { DD with nx:=dI R ⟨⟩ } env/\∀env',R env'->u DD env'
theorem br:PSs X [] (upS K BP):=tV.imp λD σ H h=>by
 obtain⟨M,P,H0,σ0,env,ts,DD,nv,a,ht,ok⟩:=h;exact ok.nx _ _ _ ht a
theorem bc(h1:PS X st (upS K t))(h2:PSs X rest (upS K u)):PSs X (st::rest) (upS K (Ex t u)):=(gW h1 h2).imp λD σ H h=>by
 obtain⟨M,P,H0,σ0,env,ts,DD,nv,a,ht,ok⟩:=h;exact⟨M,P,H0,σ0,env,ts,_,nv,a,ht,⟨λσ' env' H' q r=>⟨M,P,H0,σ0,env',ts,DD,nv,r,q,ok⟩,ok.rt,ok.bk,ok.ct⟩⟩
theorem pV(h1:PS X st (upS K t))(h2:PSs X rest (upS K u)):PSs X (st::rest) (upS K (Ix t u)):=(Ax h1 h2).imp λD σ H h=>by
 obtain⟨M,P,H0,σ0,env,ts,DD,nv,a,⟨R,ht,b⟩,ok⟩:=h;exact⟨λσ' H'=>∃env',R env'/\Rel K M P H0 σ0 σ' env' ts H',⟨M,P,H0,σ0,env,ts,_,nv,a,ht,⟨λσ' env' H' q r=>⟨env',q,r⟩,ok.rt,ok.bk,ok.ct⟩⟩,
  λσ' H' ⟨env',q,r⟩=>⟨M,P,H0,σ0,env',ts,DD,nv,r,b env' q,ok⟩⟩
theorem af(h1:PS X st (upS K t)):PSs X [st] (upS K t):=j6 h1
def BY:DS:=λDD env=>DD.ct env
theorem rD:PS X (.Continue pos) (upS K BY):=om.imp λD σ H h=>by
 obtain⟨M,P,H0,σ0,env,ts,DD,nv,a,ht,ok⟩:=h;exact ok.ct _ _ _ ht a
def vn(te:DE):DS:=λDD env=>te env λ_ a=>DD.nx a
theorem eL(d:PE X e (up K te))(hs:Qn e none pos.line X.env=pure false:=by rfl):PS X (.Expr e pos) (upS K (vn te)):=(tW d hs).imp λD σ H h=>by
 obtain⟨M,P,H0,σ0,env,ts,DD,nv,b,ht,ok⟩:=h;exact⟨M,P,H0,σ0,env,ts,_,b,ht,λs1 c v1 H1 h1 a=>ok.nx _ _ _ h1 a.drop⟩
def Ey(te:DE):DS:=λDD env=>te env DD.rt
theorem aB(d:PE X e (up K te)):PS X (.Return (some e) pos) (upS K (Ey te)):=(Dc d).imp λD σ H h=>by
 obtain⟨M,P,H0,σ0,env,ts,DD,nv,b,ht,ok⟩:=h;exact⟨M,P,H0,σ0,env,ts,_,b,ht,λs1 c v1 H1 h1 a=>ok.rt _ _ _ _ _ h1 a⟩
def Fg(c:DT)(t u:DS):DS:=λDD env=>c env λk a=>if k=true then t DD a else u DD a
theorem gF(hc:PT X c (upT K tc))(g:PSs X a (upS K t))(i:PSs X b (upS K u)):PS X (.If c a b pos) (upS K (Fg tc t u)):=(De hc g i).imp λD σ H h=>by
 obtain⟨M,P,H0,σ0,env,ts,DD,nv,f,ht,ok⟩:=h;refine⟨M,P,H0,σ0,env,ts,_,f,ht,λk d H1 h1 e=>?_⟩;cases k with
 | true=>exact⟨M,P,H0,σ0,d,ts,DD,nv,e,h1,ok⟩
 | false=>exact⟨M,P,H0,σ0,d,ts,DD,nv,e,h1,ok⟩
def zj(i:Nat)(te:DE):DS:=λDD env=>te env λs a=>∃s',i<a.length/\gP a s=some s'/\DD.nx (a.set i s')
theorem ax(i:Nat){x:bx}{pos':Pos}(hN:X.N.Nodup)(d:PE X e (up K te))(hi:X.N[i]? = some x:=by rfl)(hx:Loc X.env.scope x:=by first|exact .inl rfl|exact .inr rfl)(hs:Qn e (some (.Name x pos')) pos.line X.env=pure false:=by rfl)(f:X.fn x=true\/X.env.scope.names.lookup x=some .local:=by first|exact .inl rfl|exact .inr rfl|assumption):PS X (.Assign [.Name x pos'] e pos) (upS K (zj i te)) :=
 (yL hN hi hx d hs f).imp λD σ H h=>by
 obtain⟨M,P,H0,σ0,env,ts,DD,nv,b,ht,ok⟩:=h;refine⟨M,P,H0,σ0,env,ts,_,b,ht,λs1 c v1 H1 h1 a=>?_⟩;obtain⟨s',hl,es,g⟩:=h1;obtain⟨r,cs⟩:=a.unVw es;exact ok.nx _ _ _ g (r.store nv hl cs)
end
abbrev DG:=ab->List Sl->(List Sl->Prop)->Prop
abbrev DGs:=List ab->List Sl->(List Sl->Prop)->Prop
inductive upG (K:ca) (g:DG) (v:V) (σ:St) (H:Hp) (Q:St->Hp->Prop):Prop
 | mk (M P:ap->Prop) (H0:Hp) (σ0:St) (env:List Sl) (ts:List (V×Sl)) (d:ab) (R:List Sl->Prop):yl ts->Rel K M P H0 σ0 σ env ts H->DN K (Nw M (aw σ env ts)) H v d->g d env R ->
 (∀σ' env' H',R env'->Rel K M P H0 σ0 σ' env' ts H'->Q σ' H')->upG K g v σ H Q
inductive Cy (K:ca) (g:DGs) (vs:List V) (σ:St) (H:Hp) (Q:St->Hp->Prop):Prop
 | mk (M P:ap->Prop) (H0:Hp) (σ0:St) (env:List Sl) (ts:List (V×Sl)) (ds:List ab) (R:List Sl->Prop):yl ts->Rel K M P H0 σ0 σ env ts H->DNs K (Nw M (aw σ env ts)) H vs ds->g ds env R ->
 (∀σ' env' H',R env'->Rel K M P H0 σ0 σ' env' ts H'->Q σ' H')->Cy K g vs σ H Q
theorem PG.imp{X:Cx}{e:bb}{t t':TG}(h:PG X e t)(k:∀v σ H Q,t' v σ H Q->t v σ H Q):PG X e t':=λpins s σ H v u Q I r hw=>h pins s σ H v u Q I r (k v σ H Q hw)
theorem PGs.imp{X:Cx}{e:List bb}{t t':TGs}(h:PGs X e t)(k:∀v σ H Q,t' v σ H Q->t v σ H Q):PGs X e t':=λpins s σ H v u Q I r hw=>h pins s σ H v u Q I r (k v σ H Q hw)
section
variable {K:ca}{M P N:ap->Prop}{H0 H H':Hp}{σ0 σ:St}{env:List Sl}{ts kp:List (V×Sl)}{v:V}{s:Sl}{d:ab}{X:Cx}{pos:Pos}{e:bb}{es:List bb}
theorem uz(v:V)(d:ab):oas (tmp [(v,Sl.fr d)])=[]:=by
 show oas [(some v,Sl.fr d)]=[]
 rw[aj];cases v <;> rfl
theorem xb{E:List Ent}{v:V}{d:ab}:Nw M (E++tmp [(v,Sl.fr d)])=Nw M E:=by unfold Nw;rw[ah,uz,Jh]
def qG(i:Nat):DG:=λd env R=>i<env.length/\R (env.set i (.fr d))
theorem am(i:Nat){x:bx}(hN:X.N.Nodup)(hi:X.N[i]? = some x:=by rfl)(hx:Loc X.env.scope x:=by first|exact .inl rfl|exact .inr rfl)(b:X.fn x=true\/X.env.scope.names.lookup x=some .local:=by first|exact .inl rfl|exact .inr rfl|assumption):PG X (.Name x pos) (upG K (qG i)) :=
 (AI hN hi hx b).imp λv σ H Q h=>by
 obtain⟨M,P,H0,σ0,env,ts,d,R,nv,a,dn,⟨hl,c⟩,e⟩:=h;exact e _ _ _ c ((a.addFr dn).store nv hl rfl)
def BL:DGs:=λds env R=>ds=[]/\R env
def u7(g:DG)(b:DGs):DGs:=λds env R=>∃d r,ds=d::r/\g d env λa=>b r a R
theorem eZ:PGs X [] (Cy K BL):=AH.imp λv σ H Q h=>by
 obtain⟨M,P,H0,σ0,env,ts,ds,R,nv,a,dn,⟨rfl,b⟩,c⟩:=h;cases dn;exact⟨rfl,c _ _ _ b a⟩
theorem qi(env:List Sl):∀ds:List ab,aN env (ds.map .fr)=some ds
 | []=>rfl
 | d::ds=>by
  show(aV env (Sl.fr d)).bind _=_;rw[qi env ds];rfl
theorem A3(vs:List V)(ds:List ab)(nv:yl ts):yl (ts++vs.zip (ds.map .fr)):=λw i m=>by
 rcases II.mp m with m|m;exact nv w i m;obtain⟨d,_,e⟩:=IZ.mp (Kg m).2;cases e
theorem Rel.addFrs:∀{vs:List V}{ds:List ab}{ts:List (V×Sl)},Rel K M P H0 σ0 σ env ts H->DNs K (Nw M (aw σ env ts)) H vs ds->Rel K M P H0 σ0 σ env (ts++vs.zip (ds.map .fr)) H
 | _,_,ts,a,.nil=>by simpa using a
 | _,_,ts,a,@DNs.cons _ _ _ v vs d ds h q=>by
  have r:=a.addFr h;have c:DNs K (Nw M (aw σ env (ts++[(v,.fr d)]))) H vs ds:=q.to λb _ _ z=>by rw[ar,xb] at z;exact z
  have:=Rel.addFrs r c;simpa using this
theorem bf{g:DG}{j:DGs}(h1:PG X e (upG K g))(h2:PGs X es (Cy K j))(hs:(KH (e::es) X.env).map (·.2)=Qm e X.env::(KH es X.env).map (·.2):=by rfl):PGs X (e::es) (Cy K (u7 g j)) :=
 (wQ h1 h2 hs).imp λvs σ H Q h=>by
 obtain⟨M,P,H0,σ0,env,ts,ds,R,nv,f,dn,⟨d,r,rfl,hg⟩,k⟩:=h;cases dn with
 | @cons v vs _ _ h q =>
  have c:=f.addFrs q;have hN:DN K (Nw M (aw σ env (ts++vs.zip (r.map .fr)))) H v d:=h.to λb _ _ z=>by
   rw[ar] at z;rcases z with z|z;exact .inl z;rw[ah,fN,Jh] at z;exact .inr z
  refine⟨v,vs,rfl,M,P,H0,σ0,env,ts++vs.zip (r.map .fr),d,_,A3 _ _ nv,c,hN,hg,λσ' env' H' i a=>?_⟩;exact⟨M,P,H0,σ0,env',ts,r,R,nv,a.drop,a.keptAll (by simp[q.len]) (λp l=>l) (qi _ _),i,k⟩
def BK(n:Nat)(a:DGs):DG:=λd env R=>∃ds,d=.tuple ds/\ds.length=n/\a ds env R
theorem iE{k:Nat}{e:DGs}{n:Nat}(hK:X.K=K)(hc:X.calm=true)(h:PGs X es (Cy K e))(hn:(KH es X.env).length=n:=by rfl)(b:(KH es X.env).findIdx? (·.1)=none:=by rfl):PG X (.Tuple es k pos) (upG K (BK n e)) :=
 (F0 (K:=K) hK hc h hn b).imp λv σ H Q h=>by
 obtain⟨M,P,H0,σ0,env,ts,d,R,nv,c,dn,⟨ds,rfl,hl,hg⟩,f⟩:=h;obtain⟨a,xs,rfl,g,q⟩:=dn.tuple;exact⟨a,xs,rfl,g.sq,by rw[q.len];exact hl,M,P,H0,σ0,env,ts,ds,R,nv,c,q,hg,f⟩
structure jL(K:ca)(J:It)(kp:List (V×Sl))(ds:List ab):Prop where
 go : ∀{M P:ap->Prop}{H0 H:Hp}{σ0 σ:St}{env:List Sl}{ts:List (V×Sl)},Rel K M P H0 σ0 σ env (ts++kp) H->∀i,i<ds.length->J.go i H
 yld:∀{M P:ap->Prop}{H0 H:Hp}{σ0 σ:St}{env:List Sl}{ts:List (V×Sl)},Rel K M P H0 σ0 σ env (ts++kp) H->∀i x H',(hi:i<ds.length)->J.yld i H x H'->aS H H'/\DN K (Nw M (aw σ env (ts++kp))) H' x ds[i]
 stop:∀{M P:ap->Prop}{H0 H:Hp}{σ0 σ:St}{env:List Sl}{ts:List (V×Sl)},Rel K M P H0 σ0 σ env (ts++kp) H->J.stop ds.length H
 nv : yl kp
abbrev DI:=List Sl->(List ab->List Sl->Prop)->Prop
inductive upI (K:ca) (t:DI) (σ:St) (H:Hp) (R:It->Hp->Prop):Prop
 | mk (M P:ap->Prop) (H0:Hp) (σ0:St) (env:List Sl) (ts:List (V×Sl)) (RR:List ab->List Sl->Prop):Rel K M P H0 σ0 σ env ts H->t env RR ->
 (∀ds env' J H' kp,RR ds env'->Rel K M P H0 σ0 σ env' (ts++kp) H'->jL K J kp ds->R J H')->upI K t σ H R
theorem PI.imp{tg iter:bb}{t t':TI}(h:PI X tg iter t)(k:∀σ H R,t' σ H R->t σ H R):PI X tg iter t':=λpins s σ H R I hw=>h pins s σ H R I (k σ H R hw)
theorem aP{b:Bool}{a:ap}{ds:List ab}(c:Rel K M P H0 σ0 σ env ts H)(m:(.ref a,.fr (if b then .tuple ds else .list ds))∈ts):∃xs,SqB K H b a xs/\DNs K (Nw M (aw σ env ts)) H xs ds:=by
 obtain⟨v,e,dn⟩:=c.e.fr _ _ (cS m);cases e;cases b with
 | false =>
  obtain⟨f,xs,e,d,q⟩:=DN.list dn;cases e;exact⟨xs,d.sq,q⟩
 | true =>
  obtain⟨f,xs,e,d,q⟩:=DN.tuple dn;cases e;exact⟨xs,d.sq,q⟩
theorem DNs.item{vs:List V}{ds:List ab}(q:DNs K N H vs ds){i:Nat}(hi:i<ds.length):∃x,vs[i]? = some x/\DN K N H x ds[i]:=by
 have hv:i<vs.length:=by rw[q.len];exact hi
 obtain⟨e,h1,h2⟩:=q.get (IK hv);rw[IK hi] at h1;cases h1;exact⟨vs[i],IK hv,h2⟩
theorem DF{v:V}{d:ab}:yl [(v,Sl.fr d)]:=λw i m=>by rw[IG] at m;cases m
theorem uO{a:ap}{ds:List ab}:jL K (Itl K a) [(.ref a,.fr (.list ds))] ds where
 go := λc i hi=>by
  obtain⟨xs,s,q⟩:=aP (b:=false) (a:=a) (ds:=ds) c (IE _ (by simp));obtain⟨x,e,_⟩:=q.item hi;exact⟨xs,x,s,e⟩
 yld:=λc i x H' hi y=>by
  obtain⟨xs,s,q⟩:=aP (b:=false) (a:=a) (ds:=ds) c (IE _ (by simp));obtain⟨e,y⟩:=y;subst e;obtain⟨d,e',dn⟩:=q.item hi;rw[y xs s] at e';cases e';exact⟨aS.refl _,dn⟩
 stop:=λc=>by
  obtain⟨xs,s,q⟩:=aP (b:=false) (a:=a) (ds:=ds) c (IE _ (by simp));exact⟨xs,s,by rw[q.len];exact IS _⟩
 nv := DF
def gA(lo:Int)(n:Nat):List ab:=(List.range n).map λ(k:Nat)=>PyData.int (lo+k)
theorem az(lo:Int)(n:Nat):(gA lo n).length=n:=by simp[gA]
theorem bC(lo:Int)(n i:Nat)(h:i<(gA lo n).length):(gA lo n)[i]=.int (lo+i):=by simp[gA]
theorem rT{lo:Int}{n:Nat}:jL K (Itr lo n) [] (gA lo n) where
 go := λa i hi=>by rw[az] at hi;exact hi
 yld:=λa i x H' hi y=>by
  obtain⟨e,y⟩:=y;subst e;rw[bC,y];exact⟨aS.refl _,.int _⟩
 stop:=λa=>by rw[az];exact IS _
 nv := λw i m=>by cases m
def kA(ds:List ab):List ab:=ds.zipIdx.map λ(p:ab×Nat)=>PyData.tuple [.int p.2,p.1]
theorem a8(ds:List ab):(kA ds).length=ds.length:=by simp[kA]
theorem dW(ds:List ab)(i:Nat)(h:i<(kA ds).length):(kA ds)[i]=.tuple [.int i,ds[i]'(by rw[a8] at h;exact h)]:=by simp[kA]
theorem uQ{b:Bool}{a:ap}{ds:List ab}:jL K (Ite K b a) [(.ref a,.fr (if b then .tuple ds else .list ds))] (kA ds) where
 go := λc i hi=>by
  rw[a8] at hi;obtain⟨xs,s,q⟩:=aP (b:=b) (a:=a) (ds:=ds) c (IE _ (by simp));obtain⟨x,e,_⟩:=q.item hi;exact⟨xs,x,s,e⟩
 yld:=λ{M P H0 H σ0 σ env ts} c i x H' hi y=>by
  rw[dW];rw[a8] at hi;obtain⟨xs,s,q⟩:=aP (b:=b) (a:=a) (ds:=ds) c (IE _ (by simp));obtain⟨p,x1,rfl,d,rfl,y⟩:=y;obtain⟨f,e',dn⟩:=q.item hi;rw[y xs s] at e';cases e';exact⟨aS.new d,DN.of2 (SnT.of aq (c.newAddr d)) (.int _) (dn.keep (aO.same (aS.new d)))⟩
 stop:=λc=>by
  obtain⟨xs,s,q⟩:=aP (b:=b) (a:=a) (ds:=ds) c (IE _ (by simp));exact⟨xs,s,by rw[q.len,a8]⟩
 nv := DF
def v5(ds es:List ab):List ab:=List.zipWith (λd e=>PyData.tuple [d,e]) ds es
theorem ci(ds es:List ab):(v5 ds es).length=min ds.length es.length:=by simp[v5]
theorem qk{b c:Bool}{a g:ap}{ds es:List ab}:jL K (Itz K b c a g) [(.ref a,.fr (if b then .tuple ds else .list ds)),(.ref g,.fr (if c then .tuple es else .list es))] (v5 ds es) where
 go := λd i hi=>by
  rw[ci] at hi;obtain⟨xs,s,q⟩:=aP (b:=b) (a:=a) (ds:=ds) d (IE _ (by simp));obtain⟨f,s',h⟩:=aP (b:=c) (a:=g) (ds:=es) d (IE _ (by simp));obtain⟨x,e,_⟩:=q.item (i:=i) (by omega);obtain⟨o,e',_⟩:=h.item (i:=i) (by omega);exact⟨xs,f,x,o,s,s',e,e'⟩
 yld:=λ{M P H0 H σ0 σ env ts} d i x H' hi y=>by
  have k:=hi;rw[ci] at k;obtain⟨xs,s,q⟩:=aP (b:=b) (a:=a) (ds:=ds) d (IE _ (by simp));obtain⟨f,s',h⟩:=aP (b:=c) (a:=g) (ds:=es) d (IE _ (by simp));obtain⟨p,x1,u,rfl,j,rfl,y1,r⟩:=y;obtain⟨v,e1,l⟩:=q.item (i:=i) (by omega);obtain⟨z,e2,n⟩:=h.item (i:=i) (by omega);rw[y1 xs s] at e1;rw[r f s'] at e2;cases e1;cases e2;have t:(v5 ds es)[i]=.tuple [ds[i]'(by omega),es[i]'(by omega)]:=by simp[v5]
  rw[t];exact⟨aS.new j,DN.of2 (SnT.of aq (d.newAddr j)) (l.keep (aO.same (aS.new j))) (n.keep (aO.same (aS.new j)))⟩
 stop:=λd=>by
  obtain⟨xs,s,q⟩:=aP (b:=b) (a:=a) (ds:=ds) d (IE _ (by simp));obtain⟨f,s',h⟩:=aP (b:=c) (a:=g) (ds:=es) d (IE _ (by simp));refine⟨xs,f,s,s',?_⟩;rw[q.len,h.len,ci];omega
 nv := λw i m=>by
  simp only[IR,Jk,or_false] at m;rcases m with m|m <;> cases m
end
section
variable {K:ca}{M P:ap->Prop}{H0 H H':Hp}{σ0 σ:St}{env:List Sl}{ts kp:List (V×Sl)}{v:V}{s:Sl}{X:Cx}{pos p:Pos}{e e1 e2 tg iter:bb}{es:List bb}{te:DE}{tl:DA}
def qL(te:DE):DI:=λenv RR=>te env λs a=>∃ds,aV a s=some (.list ds)/\RR ds a
theorem aA(h:PE X e (up K te))(hK:X.K=K:=by rfl):PI X tg e (upI K (qL te)):=(DR (K:=K) hK h).imp λσ H R h=>by
 obtain⟨M,P,H0,σ0,env,ts,RR,c,ht,f⟩:=h;refine⟨M,P,H0,σ0,env,ts,_,c,ht,λs1 d v1 H1 h1 b=>?_⟩;obtain⟨ds,k,g⟩:=h1;have dn:=b.kept (v:=v1) (s:=s1) (by simp) k;obtain⟨a,xs,rfl,i,q⟩:=dn.list;exact⟨a,rfl,⟨xs,i.sq⟩,f _ _ _ _ _ g (b.drop.addFr dn) uO⟩
def xY(ta:DA):DI:=λenv RR=>ta env λss a=>∃s j,ss=[s]/\aC a s=some (.int j)/\-4611686018427387904<=j/\j<4611686018427387904/\RR (gA 0 j.toNat) a
theorem eY(hg:Gl X "range")(d:X.mg "range" = none)(f:PA X [e] (upA K tl))(hs:kq [e] X.env=[(false,eval e X.env)]:=by rfl):PI X tg (.Call (.Name "range" p) [e] [] pos) (upI K (xY tl)):=(t9 hg d f hs).imp λσ H R h=>by
 obtain⟨M,P,H0,σ0,env,ts,RR,b,ht,g⟩:=h;refine⟨M,P,H0,σ0,env,ts,_,b,ht,λss c vs H1 h1 hl a=>?_⟩;obtain⟨s,j,rfl,e1,i,k,l⟩:=h1;obtain⟨v,rfl⟩:=sB hl;have w:=(a.view (v:=v) (by simp) e1).int;exact⟨j,by rw[w],i,k,g _ _ _ _ [] l (by simpa using a.drop) rT⟩
def sqD(b:Bool)(ds:List ab):ab:=if b then .tuple ds else .list ds
def x4(b:Bool)(ta:DA):DI:=λenv RR=>ta env λss a=>∃s ds,ss=[s]/\aV a s=some (sqD b ds)/\RR (kA ds) a
theorem j0(b:Bool){es:List bb}{j:Nat}{d:Pos}(hK:X.K=K)(hg:Gl X "enumerate")(l:X.mg "enumerate" = none)(m:PA X [e] (upA K tl))(hs:kq [e] X.env=[(false,eval e X.env)]:=by rfl) :
  PI X (.Tuple es j d) (.Call (.Name "enumerate" p) [e] [] pos) (upI K (x4 b tl)):=(DU (K:=K) hK b hg l m hs).imp λσ H R h=>by
 obtain⟨M,P,H0,σ0,env,ts,RR,f,ht,n⟩:=h;refine⟨M,P,H0,σ0,env,ts,_,f,ht,λss g vs H1 h1 hl c=>?_⟩;obtain⟨s,ds,rfl,k,o⟩:=h1;obtain⟨v,rfl⟩:=sB hl;have dn:=c.kept (v:=v) (s:=s) (by simp) k;have i:=c.drop.addFr dn;have hv:∃a,v=.ref a:=by
  cases b with
  | false=>obtain⟨a,_,e,_⟩:=DN.list dn;exact⟨a,e⟩
  | true=>obtain⟨a,_,e,_⟩:=DN.tuple dn;exact⟨a,e⟩
 obtain⟨a,rfl⟩:=hv;obtain⟨xs,sq,_⟩:=aP (b:=b) (a:=a) (ds:=ds) i (IE _ (by simp[sqD]));exact⟨a,xs,rfl,sq,n _ _ _ _ _ o i uQ⟩
def Fa(b c:Bool)(ta:DA):DI:=λenv RR=>ta env λss a=>∃s s' ds es,ss=[s,s']/\aV a s=some (sqD b ds)/\aV a s'=some (sqD c es)/\RR (v5 ds es) a
theorem CU(b c:Bool){es:List bb}{w:Nat}{g:Pos}(hK:X.K=K)(hg:Gl X "zip")(x:X.mg "zip" = none)(y:PA X [e1,e2] (upA K tl))
  (hs:kq [e1,e2] X.env=[(false,eval e1 X.env),(false,eval e2 X.env)]:=by rfl) (m:kq [e2] X.env=[(false,eval e2 X.env)]:=by rfl) :
  PI X (.Tuple es w g) (.Call (.Name "zip" p) [e1,e2] [] pos) (upI K (Fa b c tl)):=(FZ (K:=K) hK b c hg x y hs m).imp λσ H R h=>by
 obtain⟨M,P,H0,σ0,env,ts,RR,n,ht,z⟩:=h;refine⟨M,P,H0,σ0,env,ts,_,n,ht,λss i vs H1 h1 hl d=>?_⟩;obtain⟨s,s',ds,f,rfl,A,B,C⟩:=h1;obtain⟨v,v',rfl⟩:=EZ hl;have j:=d.keptAll (vs:=[v,v']) (ds:=[sqD b ds,sqD c f]) hl (λp D=>D) (by simp[aN,A,B]);have k:=d.drop.addFrs j;have k:Rel K M P H0 σ0 σ i (ts++[(v,.fr (sqD b ds)),(v',.fr (sqD c f))]) H1:=by simpa using k
 cases j with
 | cons dn q =>
  cases q with
  | cons l q =>
   cases q;have hv:∃a,v=.ref a:=by
    cases b with
    | false=>obtain⟨a,_,e,_⟩:=DN.list dn;exact⟨a,e⟩
    | true=>obtain⟨a,_,e,_⟩:=DN.tuple dn;exact⟨a,e⟩
   have o:∃a,v'=.ref a:=by
    cases c with
    | false=>obtain⟨a,_,e,_⟩:=DN.list l;exact⟨a,e⟩
    | true=>obtain⟨a,_,e,_⟩:=DN.tuple l;exact⟨a,e⟩
   obtain⟨a,rfl⟩:=hv;obtain⟨u,rfl⟩:=o;obtain⟨xs,sq,_⟩:=aP (b:=b) (a:=a) (ds:=ds) k (IE _ (by simp[sqD]));obtain⟨r,t,_⟩:=aP (b:=c) (a:=u) (ds:=f) k (IE _ (by simp[sqD]));exact⟨a,u,xs,r,rfl,sq,t,z _ _ _ _ _ C k qk⟩
theorem Rel.dropMid{t:V×Sl}(h:Rel K M P H0 σ0 σ env (ts++kp++[t]) H):Rel K M P H0 σ0 σ env (ts++[t]) H:=by
 refine⟨?_,h.len,λw i m=>h.vw w i (by
  rcases II.mp m with m|m;exact IJ _ (IJ _ m);exact IE _ m),h.ios⟩
 have a:=h.e;rw[ar,ar] at a;rw[ar];refine a.sub (λx s m=>.inl ?_) ?_;rcases II.mp m with m|m;exact IJ _ (IJ _ m);exact IE _ m;have nd:=a.nd;rw[ah,ah] at nd;rw[ah];obtain⟨b,c,d⟩:=IT.mp nd;exact IT.mpr ⟨(IT.mp b).1,c,λx hx y f=>d x (IJ _ hx) y f⟩
def FD(ds:List ab)(g:DG)(tb:DS):DS:=λDD env=>∃W:Nat->List Sl->Prop,W 0 env /\
 (∀i env,(h:i<ds.length)->W i env->g ds[i] env λa=>tb { DD with nx:=dI (W (i+1)) ⟨⟩,ct:=dI (W (i+1)) ⟨⟩,bk:=DD.nx } a)/\∀env,W ds.length env->DD.nx env
def Fh(it:DI)(g:DG)(tb:DS):DS:=λDD env=>it env λds a=>FD ds g tb DD a
theorem gh{body:List Stmt}{it:DI}{g:DG}{tb:DS}(o:PassesOwn (qb X.prog X.w) X.A X.env X.xe)(hc:X.calm=true)(hi:PI X tg iter (upI K it))(hg:PG X tg (upG K g))(p:PSs X body (upS K tb))(hs:∀x,KC iter X.env x=pure x:=by intro _;rfl) :
  PS X (.For tg iter body [] pos) (upS K (Fh it g tb)):=(Df o hc hi hg p hs).imp λD σ H h=>by
 obtain⟨M,P,H0,σ0,env,ts,DD,nv,l,ht,ok⟩:=h;refine⟨M,P,H0,σ0,env,ts,_,l,ht,λds d J H1 kp hF f io=>?_⟩;obtain⟨W,t,turn,done⟩:=hF;have j:yl (ts++kp):=λw i m=>by
  rcases II.mp m with m|m;exact nv w i m;exact io.nv w i m
 refine⟨λi m σ H=>m=ds.length - i/\i<=ds.length/\∃env,W i env/\Rel K M P H0 σ0 σ env (ts++kp) H,⟨_,rfl,Jb _,d,t,f⟩,?_⟩;rintro i m u F ⟨rfl,z,c,n,a⟩;by_cases b:i<ds.length;refine .inr ⟨io.go a i b,λσ' H'=>∃env',W (i+1) env'/\Rel K M P H0 σ0 σ' env' (ts++kp) H',λσ' H' ⟨env',w',r'⟩=>⟨ds.length - (i+1),by omega,rfl,b,env',w',r'⟩,λx B y=>?_⟩;obtain⟨C,dn⟩:=io.yld a i x B b y;have k:=a.same C;refine⟨M,P,H0,σ0,c,ts++kp,ds[i],_,j,k,dn,turn i c b n,λσ' env' H' E r=>?_⟩;refine⟨M,P,H0,σ0,env',ts++kp,_,j,r,E,⟨λσ' env' H' q r=>⟨env',q,r⟩,λs env' v σ' H' q r=>ok.rt s env' v σ' H' q r.dropMid,λσ' env' H' q r=>ok.nx _ _ _ q r.drop,λσ' env' H' q r=>⟨env',q,r⟩⟩⟩
 ·have e:i=ds.length:=by omega
  subst e;exact .inl ⟨io.stop a,ok.nx _ _ _ (done _ n) a.drop⟩
def zi(c:DT)(tb:DS):DS:=λDD env=>∃W:Nat->List Sl->Prop,(∃m,W m env)/\∀m env,W m env ->
 c env λk a=>if k=true then tb { DD with nx:=dI (λenv'=>∃b,b<m/\W b env') ⟨⟩,ct:=dI (λenv'=>∃b,b<m/\W b env') ⟨⟩,bk:=DD.nx } a else DD.nx a
theorem j4{c:bb}{body:List Stmt}{tc:DT}{tb:DS}(i:PassesOwn (qb X.prog X.w) X.A X.env X.xe)(hc:PT X c (upT K tc))(j:PSs X body (upS K tb)):PS X (.While c body [] pos) (upS K (zi tc tb)):=(wM i hc j).imp λD σ H h=>by
 obtain⟨M,P,H0,σ0,env,ts,DD,nv,g,⟨W,⟨l,n⟩,turn⟩,ok⟩:=h;refine⟨λm σ H=>∃env,W m env/\Rel K M P H0 σ0 σ env ts H,⟨l,env,n,g⟩,?_⟩;rintro m o t ⟨a,p,d⟩;refine⟨M,P,H0,σ0,a,ts,_,d,turn m a p,λk e u h3 b=>?_⟩;cases k with
 | false=>exact ok.nx _ _ _ h3 b
 | true =>
  refine⟨λσ' H'=>∃env',(∃f,f<m/\W f env')/\Rel K M P H0 σ0 σ' env' ts H',λσ' H' ⟨env',⟨f,s,w'⟩,r'⟩=>⟨f,s,env',w',r'⟩,?_⟩;exact⟨M,P,H0,σ0,e,ts,_,nv,b,h3,⟨λσ' env' H' q r=>⟨env',q,r⟩,ok.rt,λσ' env' H' q r=>ok.nx _ _ _ q r,λσ' env' H' q r=>⟨env',q,r⟩⟩⟩
end
def mM:Option Sl->Sl
 | some (.fr d)=>.fr d
 | _=>.un
def GG(env:List Sl):Option Nat->Sl
 | none=>.un
 | some j=>mM env[j]?
def fm(ix:List (Option Nat))(env:List Sl):List Sl:=ix.map (GG env)
theorem gH{α β γ:Type}{f:α->β}{g:α->γ}:∀{l:List α}{x:β}{y:γ},(x,y)∈(l.map f).zip (l.map g)->∃o∈l,x=f o/\y=g o
 | [],_,_,h=>by simp at h
 | a :: l,x,y,h=>by
  have h:(x,y)∈(f a,g a)::(l.map f).zip (l.map g):=h;rcases IR.mp h with h|h;cases h;exact⟨a,IL,rfl,rfl⟩;obtain⟨o,ho,e⟩:=gH h;exact⟨o,IM _ ho,e⟩
def xX:DT:=λenv R=>R true env
theorem PIf.imp{X:Cx}{ifs:List bb}{t t':TT}(h:PIf X ifs t)(k:∀σ H Q,t' σ H Q->t σ H Q):PIf X ifs t':=λpins s σ H Q I hw=>h pins s σ H Q I (k σ H Q hw)
theorem iD{X:Cx}{K:ca}:PIf X [] (upT K xX):=AD.imp λσ H Q h=>by
 obtain⟨M,P,H0,σ0,env,ts,R,a,ht,b⟩:=h;exact b _ _ _ ht a
theorem iC{X:Cx}{K:ca}{c:bb}{t:DT}(h:PT X c (upT K t)):PIf X [c] (upT K t):=AC h
section
variable {K:ca}{M P:ap->Prop}{H0 H:Hp}{σ0 σ:St}{env:List Sl}{ts:List (V×Sl)}{v:V}{s:Sl}{d:ab}
theorem dA{ix:List (Option Nat)}{x:Option V}(a:Rel K M P H0 σ0 σ env ts H)(m:(x,s)∈(c5 σ ix).zip (fm ix env)):s=.un\/∃d v,s=.fr d/\x=some v/\DN K (Nw M (aw σ env ts)) H v d:=by
 obtain⟨o,_,e1,e2⟩:=gH m;cases o with
 | none=>exact .inl e2
 | some j =>
  have e2:s=mM env[j]?:=e2;cases q:env[j]? with
  | none=>rw[q] at e2;exact .inl e2
  | some s' =>
   rw[q] at e2;cases s' with
   | fr d =>
    obtain⟨f,e3,b⟩:=a.slot q;obtain⟨v,c,dn⟩:=a.e.fr _ _ b;refine .inr ⟨d,v,e2,?_,dn⟩;rw[e1];show(σ[j]?).join=_;rw[e3,c];rfl
   | _=>exact .inl e2
theorem kH{ix:List (Option Nat)}(a:Rel K M P H0 σ0 σ env ts H):oas ((c5 σ ix).zip (fm ix env))=[]:=by
 unfold oas;rw[List.flatMap_eq_nil_iff];rintro⟨x,s⟩ m;rcases dA a m with e|⟨d,v,e,e2,_⟩
 subst e;exact gi _;subst e e2;exact dy _ _
theorem o5{ix:List (Option Nat)}(c:Rel K M P H0 σ0 σ env ts H):Rel K (Nw M (aw σ env ts)) (λ_=>False) H (c5 σ ix) (c5 σ ix) (fm ix env) [] H:=by
 have g:=kH (ix:=ix) c;have f:aw (c5 σ ix) (fm ix env) []=(c5 σ ix).zip (fm ix env):=by simp[aw,tmp]
 refine⟨⟨aO.refl,λa q=>q,λa z hn=>c.newAddr hn z,λa z=>z.elim,λx d m=>?_,λx l m=>?_,λx l m=>?_,λx S l m=>?_,by rw[f,g];exact J4⟩,by simp[c5,fm],λw i m=>(by cases m),λi l e=>rfl⟩
 rotate_right
 rw[f] at m;rcases dA c m with e|⟨d',v,e,e2,dn⟩ <;> cases e
 rw[f] at m;rcases dA c m with e|⟨d',v,e,e2,dn⟩
 cases e;cases e;refine⟨v,e2,dn.to λb _ _ z=>?_⟩;rcases z with z|z;exact z;rw[f,g] at z;cases z;rw[f] at m;rcases dA c m with e|⟨d',v,e,e2,dn⟩ <;> cases e
 rw[f] at m;rcases dA c m with e|⟨d',v,e,e2,dn⟩ <;> cases e
theorem yb{ix:List (Option Nat)}{k j:Nat}{r:Sl}{l:List ab}(c:Rel K M P H0 σ0 σ env ts H)(hk:ix[k]? = some (some j))(s:env[j]? = some r)(u:gR r=some l){a:ap}(y:σ[j]? = some (some (.ref a))) :
  Rel K (Nw M (aw σ env ts)) (λb=>b=a) H (c5 σ ix) (c5 σ ix) ((fm ix env).set k (.io l)) [] H:=by
 have p:=kH (ix:=ix) c;have F:=o5 (ix:=ix) c;have G:k<ix.length:=(IN.mp hk).1;have I:(fm ix env)[k]? = some .un:=by unfold fm;rw[Jt,hk];show some (mM env[j]?)=_;rw[s];cases r <;> first|rfl|cases u
 have es:(c5 σ ix)[k]? = some (some (.ref a)):=by unfold c5;rw[Jt,hk];show some ((σ[j]?).join)=_;rw[y];rfl
 obtain⟨x,A,B,e1,C,g⟩:=F.split I;rw[es] at e1;cases e1;have D:aw (c5 σ ix) (fm ix env) []=(c5 σ ix).zip (fm ix env):=by simp[aw,tmp]
 have h:oas A=[]/\oas B=[]:=by rw[<-D,C,ah,aj] at p;have p:oas A++oas B=[]:=p;exact List.append_eq_nil_iff.mp p
 obtain⟨O,us,n,J,L⟩:=c.mine s u;rw[y] at n;cases n;have E:Nw M (aw σ env ts) a:=by obtain⟨x,e1,N⟩:=c.slot s;rw[y] at e1;cases e1;refine .inr (aT.mpr ⟨_,N,?_⟩);exact(pZ u).2 a
 have o:oas (A++(some (.ref a),Sl.io l)::B)=[a]:=by rw[ah,aj,h.1,h.2];rfl
 have ne:∀b,Nw (Nw M (aw σ env ts)) (A++(some (.ref a),Sl.io l)::B) b->Nw M (aw σ env ts) b:=λb z=>by
  rcases z with z|z;exact z;rw[o,IG] at z;rw[z];exact E
 have f:∀x t,(x,t)∈A++(some (.ref a),Sl.io l)::B->(x,t)=(some (.ref a),Sl.io l)\/(x,t)∈(c5 σ ix).zip (fm ix env):=λx t m=>by
  rw[<-D,C];rcases II.mp m with m|m;exact .inr (IJ _ m);rcases IR.mp m with m|m;exact .inl m;exact .inr (IE _ (IM _ m))
 refine⟨⟨aO.refl,λa q=>q,λa z hn=>c.newAddr hn z,λb z=>by rw[z];exact E,λx d m=>?_,λx l' m=>?_,λx l' m=>?_,λx S l' m=>?_,by rw[g,o];simp⟩,by simp[c5,fm],λw i m=>(by cases m),λi l' e=>rfl⟩
 rotate_right
 rw[g] at m;rcases f _ _ m with m|m;cases m;rcases dA c m with e|⟨d',v,e,e2,dn⟩ <;> cases e
 rw[g] at m ⊢;rcases f _ _ m with m|m;cases m;rcases dA c m with e|⟨d',v,e,e2,dn⟩
 cases e;cases e;exact⟨v,e2,dn.to λb _ _ z=>ne b z⟩;rw[g] at m;rcases f _ _ m with m|m;cases m;rcases dA c m with e|⟨d',v,e,e2,dn⟩ <;> cases e
 rw[g] at m ⊢;rcases f _ _ m with m|m;cases m;exact⟨a,us,rfl,J,L.to λb _ _ z=>ne b z,rfl⟩;rcases dA c m with e|⟨d',v,e,e2,dn⟩ <;> cases e
end
def CD(ds:List ab)(ix:List (Option Nat))(g:DG)(tt:DT)(te:DE)(env:List Sl)(R:Sl->List Sl->Prop):Prop:=∃W:Nat->List ab->Prop,W 0 [] /\
 (∀i rs,(h:i<ds.length)->W i rs->rs.length<sizeLine/\g ds[i] (fm ix env) λa=>tt a λk b=>if k=true then te b λs c=>∃d,aV c s=some d/\W (i+1) (rs++[d]) else W (i+1) rs)/\∀rs,W ds.length rs->R (.ow rs) env
def oY(it:DI)(ix:List (Option Nat))(g:DG)(tt:DT)(te:DE):DE:=λenv R=>it env λds a=>CD ds ix g tt te a (dK R ⟨⟩)
def CD1(k j:Nat)(ds:List ab)(ix:List (Option Nat))(g:DG)(tt:DT)(te:DE)(env:List Sl)(R:Sl->List Sl->Prop):Prop:=∃W:Nat->List ab->List ab->Prop,∃a b,env[j]? = some a/\gR a=some b/\W 0 [] b /\
 (∀i rs l,(h:i<ds.length)->W i rs l->rs.length<sizeLine/\∃s,cx a l=some s/\g ds[i] ((fm ix (env.set j s)).set k (.io l)) λf=>tt f λm c=>if m=true then te c λs e=>∃d l',aV e s=some d/\e[k]? = some (.io l')/\W (i+1) (rs++[d]) l' else ∃l',c[k]? = some (.io l')/\W (i+1) rs l') /\
 ∀rs l,W ds.length rs l->∃s,cx a l=some s/\R (.ow rs) (env.set j s)
def qO(k j:Nat)(it:DI)(ix:List (Option Nat))(g:DG)(tt:DT)(te:DE):DE:=λenv R=>it env λds a=>CD1 k j ds ix g tt te a (dK R ⟨⟩)
section
variable {K:ca}
theorem o3{it:DI}{ix:List (Option Nat)}{g:DG}{tt:DT}{te:DE}:∀σ H Q,up K (oY it ix g tt te) σ H Q->sR (upI K it) ix (upG K g) (upT K tt) (up K te) σ H Q:=λσ H Q h=>by
 obtain⟨M,P,H0,σ0,env,ts,R,B,ht,N⟩:=h;refine⟨M,P,H0,σ0,env,ts,_,B,ht,λds f J H1 kp hF t io=>?_⟩;obtain⟨W,O,turn,done⟩:=hF;refine⟨λi m ys H=>m=ds.length - i/\i<=ds.length/\∃rs,W i rs/\DNs K (Nw M (aw σ f (ts++kp))) H ys rs/\Rel K M P H0 σ0 σ f (ts++kp) H,⟨_,rfl,Jb _,[],O,.nil,t⟩,?_⟩;rintro i m ys H2 ⟨rfl,S,rs,F,l,j⟩;by_cases n:i<ds.length;obtain⟨hz,tr⟩:=turn i rs n F;refine .inr ⟨io.go j i n,by rw[l.len];exact hz,λu H'=>∃o,W (i+1) o/\DNs K (Nw M (aw σ f (ts++kp))) H' u o/\Rel K M P H0 σ0 σ f (ts++kp) H',λu H' ⟨o,a,b,c⟩=>⟨ds.length - (i+1),by omega,rfl,n,o,a,b,c⟩,λx C y=>?_⟩;obtain⟨D,dn⟩:=io.yld j i x C n y;have k:=j.same D;have T:=o5 (ix:=ix) k;have U:=kH (ix:=ix) k;have nb:∀b,Nw (Nw M (aw σ f (ts++kp))) (aw (c5 σ ix) (fm ix f) []) b->Nw M (aw σ f (ts++kp)) b:=λb z=>by
  rcases z with z|z;exact z;have V:aw (c5 σ ix) (fm ix f) []=(c5 σ ix).zip (fm ix f):=by simp[aw,tmp]
  rw[V,U] at z;cases z
 refine⟨_,_,_,_,fm ix f,[],ds[i],_,λw i m=>(by cases m),T,dn.to λb _ _ z=>nb b z,tr,λX Y H4 Z A=>?_⟩;refine⟨_,_,_,_,Y,[],_,A,Z,λkk b2 H5 G q=>?_⟩;cases kk with
 | false =>
  have I:aS C H5:=(q.e.keep.mono (M:=N0) λb z=>z).none;exact⟨rs,G,l.keep (aO.same (D.trans I)),k.same I⟩
 | true =>
  refine⟨_,_,_,_,b2,[],_,q,G,λs b3 v H6 h6 r=>?_⟩;obtain⟨d,kd,w6⟩:=h6;have L:aS C H6:=(r.e.keep.mono (M:=N0) λb z=>z).none;have E:=r.kept (ts:=[]) (tt:=[]++[(v,s)]) (v:=v) (s:=s) (by simp) kd;exact⟨rs++[d],w6,(l.keep (aO.same (D.trans L))).app (.cons (E.to λb _ _ z=>.inl z) .nil),k.same L⟩
 ·have e:i=ds.length:=by omega
  subst e;exact .inl ⟨io.stop j,λp hp=>N _ _ _ _ (done _ F) (j.resOw hp l)⟩
theorem o4{k j:Nat}{ix:List (Option Nat)}{M P:ap->Prop}{H0 H1 u t:Hp}{σ0 σ v:St}{c L:List Sl}{ts kp S:List (V×Sl)}{h s:Sl}{l l':List ab}{a:ap}(hk:ix[k]? = some (some j))(m:j<c.length)(T:c[j]? = some h)(f:Rel K M P H0 σ0 σ c (ts++kp) H1)(es:cx h l=some s)(N:σ[j]? = some (some (.ref a)))(g:Rel K M P H0 σ0 σ (c.set j s) (ts++kp) u)(U:Nw M (aw σ (c.set j s) (ts++kp)) a)(w:Nw M (aw σ (c.set j s) (ts++kp))=Nw M (aw σ c (ts++kp)))(i:Rel K (Nw M (aw σ (c.set j s) (ts++kp))) (λb=>b=a) u (c5 σ ix) v L S t)(O:L[k]? = some (.io l')) :
  ∃s',cx h l'=some s'/\Rel K M P H0 σ0 σ (c.set j s') (ts++kp) t/\∀{ys:List V}{rs:List ab},DNs K (Nw M (aw σ c (ts++kp))) u ys rs->DNs K (Nw M (aw σ c (ts++kp))) t ys rs:=by
 have y:(c.set j s)[j]? = some s:=Jc m;obtain⟨Z,W,X⟩:=i.slot O;have Q:=i.ios _ _ O;have n:(c5 σ ix)[k]? = some (some (.ref a)):=by unfold c5;rw[Jt,hk];show some ((σ[j]?).join)=_;rw[N];rfl
 rw[W,n] at Q;cases Q;obtain⟨a',C,z,D,E,_⟩:=i.e.io _ _ X;cases z;obtain⟨x,A,B,e3,o,F⟩:=g.split y;rw[N] at e3;cases e3;have G:∃s',cx h l'=some s'/\Bi s l' s':=by
  obtain⟨p,rfl⟩|⟨p,rfl⟩:(∃p,h=.ow p)\/∃p,h=.io p:=(cM (ju es).1).imp (λ⟨d,e,_⟩=>⟨d,e⟩) λ⟨d,e,_⟩=>⟨d,e⟩
  cases es;exact⟨_,rfl,rfl⟩;cases es;exact⟨_,rfl,rfl⟩
 obtain⟨s',r,H⟩:=G;have R:=g.e;rw[o] at R;have I:DNs K (Nw M (A++(some (.ref a),s)::B)) t C l':=E.to λb _ _ z=>.inl (by rw[o];exact z);have hM:=R.muted H i.e.keep i.e.live D I;rw[<-F] at hM;have Y:(c.set j s).set j s'=c.set j s':=List.set_set ..;refine⟨s',r,⟨by rw[<-Y];exact hM,by simp[f.len],g.vw,λq l2 e'=>?_⟩,λ{ys rs} q=>q.keep (i.e.keep.mono λb z=>?_)⟩;by_cases hj:j=q;subst hj;rw[Jc m] at e';cases e';obtain⟨J,rfl⟩:=tx r;exact f.ios _ J T;rw[Je hj] at e';exact f.ios q l2 e';rw[z,<-w];exact U
def C1I(K:ca)(M P:ap->Prop)(H0:Hp)(σ0 σ:St)(a:List Sl)(ts:List (V×Sl))(b:Sl)(j:Nat)(W:List ab->List ab->Prop)(ys:List V)(H:Hp):Prop:=∃rs l s,cx b l=some s/\W rs l/\DNs K (Nw M (aw σ a ts)) H ys rs/\Rel K M P H0 σ0 σ (a.set j s) ts H
theorem x9{k j:Nat}{it:DI}{ix:List (Option Nat)}{g:DG}{tt:DT}{te:DE}(hk:ix[k]? = some (some j)):∀σ H Q,up K (qO k j it ix g tt te) σ H Q->sR (upI K it) ix (upG K g) (upT K tt) (up K te) σ H Q:=λσ H Q h=>by
 obtain⟨M,P,H0,σ0,env,ts,R,a4,ht,hq⟩:=h;refine⟨M,P,H0,σ0,env,ts,_,a4,ht,λds f J H1 kp hF r io=>?_⟩;obtain⟨W,u,l0,N,eo,w0,turn,done⟩:=hF;have F:j<f.length:=(IN.mp N).1;have O:cx u l0=some u:=(pZ eo).1;have env0:f.set j u=f:=by rw[<-(IN.mp N).2];exact List.set_getElem_self F
 obtain⟨a,b5,ea,_,_⟩:=r.mine N eo;have G:∀{ls:List ab}{s:Sl},cx u ls=some s->Nw M (aw σ (f.set j s) (ts++kp))=Nw M (aw σ f (ts++kp)):=λ{ls s} es=>by
  obtain⟨x,A,B,e3,a5,a6⟩:=r.split N;rw[ea] at e3;cases e3;rw[a5,a6];have oa:cH (some (.ref a),u)=[a]/\cH (some (.ref a),s)=[a]:=by exact fU (ju es).1
  unfold Nw;rw[ah,ah,aj,aj,oa.1,oa.2]
 refine⟨λi m ys H=>m=ds.length - i/\i<=ds.length/\C1I K M P H0 σ0 σ f (ts++kp) u j (W i) ys H,⟨_,rfl,Jb _,[],l0,u,O,w0,.nil,by rw[env0];exact r⟩,?_⟩;rintro i m ys H2 ⟨rfl,b6,rs,l,s,es,w2,I,o⟩;by_cases C:i<ds.length;obtain⟨hz,s',n,tr⟩:=turn i rs l C w2;rw[es] at n;cases n;have S:gR s=some l:=(ju es).2;have T:(f.set j s)[j]? = some s:=Jc F;refine .inr ⟨io.go o i C,by rw[I.len];exact hz,λU H'=>C1I K M P H0 σ0 σ f (ts++kp) u j (W (i+1)) U H',
  λU H' ⟨a7,l',s',z,a,b,c⟩=>⟨ds.length - (i+1),by omega,rfl,C,a7,l',s',z,a,b,c⟩,λx H3 y=>?_⟩
 obtain⟨sm,dn⟩:=io.yld o i x H3 C y;have t:=o.same sm;have rb:=yb (ix:=ix) t hk T S ea;have ma:Nw M (aw σ (f.set j s) (ts++kp)) a:=by obtain⟨x,e1,mm⟩:=t.slot T;rw[ea] at e1;cases e1;refine .inr (aT.mpr ⟨_,mm,?_⟩);exact(pZ S).2 a
 have nb:∀b,Nw (Nw M (aw σ (f.set j s) (ts++kp))) (aw (c5 σ ix) ((fm ix (f.set j s)).set k (.io l)) []) b->Nw M (aw σ (f.set j s) (ts++kp)) b:=λb z=>by
  rcases z with z|z;exact z;obtain⟨_,_,hP⟩:=rb.e.own z;rcases hP with q|q;obtain⟨vs,q2,_⟩:=rb.e.own z;rw[q] at q2;cases q2;rw[q];exact ma
 have after:∀{L:St}{b3:List Sl}{t3:List (V×Sl)}{X:Hp}{l':List ab},Rel K (Nw M (aw σ (f.set j s) (ts++kp))) (λb=>b=a) H3 (c5 σ ix) L b3 t3 X->b3[k]? = some (.io l') ->
   ∃s',cx u l'=some s'/\Rel K M P H0 σ0 σ (f.set j s') (ts++kp) X/\∀{ys:List V}{rs:List ab},DNs K (Nw M (aw σ f (ts++kp))) H3 ys rs->DNs K (Nw M (aw σ f (ts++kp))) X ys rs:=λ{L b3 t3 X l'} r6 e6=>o4 hk F N r es ea t ma (G es) r6 e6
 have Y:=I.keep (aO.same sm);refine⟨_,_,_,_,_,[],ds[i],_,λw i m=>(by cases m),rb,dn.to λb _ _ z=>nb b z,tr,λL b1 H4 h4 Z=>?_⟩;refine⟨_,_,_,_,b1,[],_,Z,h4,λkk b2 H5 h5 D=>?_⟩;cases kk with
 | false =>
  obtain⟨l',e5,w5⟩:=h5;obtain⟨s',n,r',kd⟩:=after D e5;exact⟨rs,l',s',n,w5,kd Y,r'⟩
 | true =>
  refine⟨_,_,_,_,b2,[],_,D,h5,λs6 b3 v X h6 E=>?_⟩;obtain⟨d,l',b0,e6,w6⟩:=h6;obtain⟨s',n,r',kd⟩:=after E e6;have b4:=E.kept (ts:=[]) (tt:=[]++[(v,s6)]) (v:=v) (s:=s6) (by simp) b0;exact⟨rs++[d],l',s',n,w6,(kd Y).app (.cons (b4.to λb _ _ z=>.inl (by rw[G es];exact z)) .nil),r'⟩
 ·have e:i=ds.length:=by omega
  subst e;refine .inl ⟨io.stop o,λp hp=>?_⟩;obtain⟨s',n,hR⟩:=done _ _ w2;rw[es] at n;cases n;exact hq _ _ _ _ hR (o.resOw hp (by rw[G es];exact I))
end
section
variable {K:ca}{X:Cx}{N':List bx}{ix:List (Option Nat)}{sc:KL}{tg iter elt:bb}{ifs:List bb}{pos:Pos}{it:DI}{g:DG}{tt:DT}{te:DE}
theorem Ar(hc:X.calm=true)(S:cF X.N X.env N' ix sc)(hi:PI X tg iter (upI K it))
  (hg:∀s H C fp,PG (bCx X N' sc s H C fp) tg (upG K g)) (ht:∀s H C fp,PIf (bCx X N' sc s H C fp) ifs (upT K tt)) (a:∀s H C fp,PE (bCx X N' sc s H C fp) elt (up K te))
  (hs:∀x,KC iter X.env x=pure x:=by intro _;rfl):PE X (.ListComp elt [⟨tg,iter,ifs,0⟩] sc pos) (up K (oY it ix g tt te)):=(oq hc S hi hg ht a hs).imp o3
theorem bX{NN:List bx}{sc0:KL}(hi:PI X tg iter (upI K it))
  (hg:∀s H C fp,PG (bCx X N' sc s H C fp) tg (upG K g)) (a:∀s H C fp,PE (bCx X N' sc s H C fp) elt (up K te))
  (ht:∀s H C fp,PIf (bCx X N' sc s H C fp) ifs (upT K tt):=by exactλ_ _ _ _=>iD) (hc:X.calm=true:=by rfl) (h1:X.N=NN:=by rfl) (h2:X.env.scope=sc0:=by rfl) (h3:bOk NN sc0 N' ix sc=true:=by decide +kernel)
  (hs:∀x,KC iter X.env x=pure x:=by intro _;rfl):PE X (.ListComp elt [⟨tg,iter,ifs,0⟩] sc pos) (up K (oY it ix g tt te)):=(oq hc (vD h1 h2 h3) hi hg ht a hs).imp o3
theorem yD{i:Nat}{t:TE}{c:DE}(h:∀σ H Q,up K c σ H Q->t σ H Q):∀D σ H,upS K (zj i c) D σ H->Cd t (uV i) D σ H:=λD σ H e=>by
 obtain⟨M,P,H0,σ0,env,ts,DD,nv,b,ht,ok⟩:=e;refine h _ _ _ ⟨M,P,H0,σ0,env,ts,_,b,ht,λs1 d v1 H1 h1 a=>?_⟩;obtain⟨s',hl,es,f⟩:=h1;obtain⟨r,cs⟩:=a.unVw es;exact ok.nx _ _ _ f (r.store nv hl cs)
theorem bw{NN:List bx}{sc0:KL}(i:Nat){y:bx}{a d:Pos}(hN:X.N.Nodup)(hi:PI X tg iter (upI K it))
  (hg:∀s H C fp,PG (bCx X N' sc s H C fp) tg (upG K g)) (e:∀s H C fp,PE (bCx X N' sc s H C fp) elt (up K te))
  (ht:∀s H C fp,PIf (bCx X N' sc s H C fp) ifs (upT K tt):=by exactλ_ _ _ _=>iD) (hc:X.calm=true:=by rfl) (h1:X.N=NN:=by rfl) (h2:X.env.scope=sc0:=by rfl) (h3:bOk NN sc0 N' ix sc=true:=by decide +kernel)
  (b:X.N[i]? = some y:=by rfl) (f:X.env.scope.names.lookup y=some .local:=by rfl) (c:Qn (.ListComp elt [⟨tg,iter,ifs,0⟩] sc pos) (some (.Name y d)) a.line X.env=pure true:=by rfl)
  (hs:∀x,KC iter X.env x=pure x:=by intro _;rfl):PS X (.Assign [.Name y d] (.ListComp elt [⟨tg,iter,ifs,0⟩] sc pos) a) (upS K (zj i (oY it ix g tt te))):=(jC hN b f hc (vD h1 h2 h3) hi hg ht e c hs).imp (yD o3)
theorem jA{NN:List bx}{sc0:KL}(i:Nat){y:bx}{a d:Pos}(k j:Nat)(hk:ix[k]? = some (some j))(hN:X.N.Nodup)(hi:PI X tg iter (upI K it))
  (hg:∀s H C fp,PG (bCx X N' sc s H C fp) tg (upG K g)) (e:∀s H C fp,PE (bCx X N' sc s H C fp) elt (up K te))
  (ht:∀s H C fp,PIf (bCx X N' sc s H C fp) ifs (upT K tt):=by exactλ_ _ _ _=>iD) (hc:X.calm=true:=by rfl) (h1:X.N=NN:=by rfl) (h2:X.env.scope=sc0:=by rfl) (h3:bOk NN sc0 N' ix sc=true:=by decide +kernel)
  (b:X.N[i]? = some y:=by rfl) (f:X.env.scope.names.lookup y=some .local:=by rfl) (c:Qn (.ListComp elt [⟨tg,iter,ifs,0⟩] sc pos) (some (.Name y d)) a.line X.env=pure true:=by rfl)
  (hs:∀x,KC iter X.env x=pure x:=by intro _;rfl):PS X (.Assign [.Name y d] (.ListComp elt [⟨tg,iter,ifs,0⟩] sc pos) a) (upS K (zj i (qO k j it ix g tt te))):=(jC hN b f hc (vD h1 h2 h3) hi hg ht e c hs).imp (yD (x9 hk))
end
def yo:ab->Option Bool
 | .none=>some false
 | .bool b=>some b
 | .int i=>some (i != 0)
 | .list ds=>some (!ds.isEmpty)
 | .tuple ds=>some (!ds.isEmpty)
 | _=>none
section
variable {K:ca}{M P N:ap->Prop}{H0 H:Hp}{σ0 σ:St}{env:List Sl}{ts:List (V×Sl)}{v:V}{s:Sl}{d:ab}{X:Cx}{pos p:Pos}{e e1 e2 a:bb}{es:List bb}{te tj:DE}
theorem DNs.emp{vs:List V}{ds:List ab}(q:DNs K N H vs ds):vs.isEmpty=ds.isEmpty:=by cases q <;> rfl
theorem Vw.tru(w:Vw K N H v d){k:Bool}(e:yo d=some k):Fj K v H k:=by
 cases d with
 | none=>cases e;rw[w.none];rfl
 | bool b=>cases e;rw[w.bool];rfl
 | int b=>cases e;rw[w.int];rfl
 | list ds =>
  cases e;obtain⟨a,vs,rfl,s,q⟩:=w.list;exact .inl ⟨vs,s,by rw[q.emp]⟩
 | tuple ds =>
  cases e;obtain⟨a,vs,rfl,s,q⟩:=w.tuple;exact .inr (.inl ⟨vs,s,by rw[q.emp]⟩)
 | _=>cases e
def qK(te:DE):DT:=λenv R=>te env λs a=>∃d k,aC a s=some d/\yo d=some k/\R k a
theorem gU(hK:X.K=K)(g:PE X a (up K te))(i:∀b,QF a X.env b=(do let v <-b;K2 a.pos;KI [v] (Ze v)):=by intro _;rfl):PT X a (upT K (qK te)):=(yU (K:=K) hK g i).imp λσ H Q h=>by
 obtain⟨M,P,H0,σ0,env,ts,R,e,ht,j⟩:=h;refine⟨M,P,H0,σ0,env,ts,_,e,ht,λs1 f v1 H1 h1 c=>?_⟩;obtain⟨d,k,e1,e2,l⟩:=h1;exact⟨k,(c.view (v:=v1) (by simp) e1).tru e2,j _ _ _ l c.drop⟩
def oM:ab->String
 | .none => "NoneType"
 | .bool _ => "bool"
 | .int _ => "int"
 | .str _ => "str"
 | .list _ => "list"
 | .tuple _ => "tuple"
 | .dict _ => "dict"
inductive m8 (K:ca) (H:Hp):V->String->Prop
 | non:m8 K H .non "NoneType"
 | bl (b:Bool):m8 K H (.bl b) "bool"
 | int (b:Int):m8 K H (.int b) "int"
 | str (b:bx):m8 K H (.str b) "str"
 | lst {a:ap}{xs:List V}:SqL K H a xs->m8 K H (.ref a) "list"
 | tup {a:ap}{xs:List V}:SqT K H a xs->m8 K H (.ref a) "tuple"
theorem yd(hK:X.K=K):cZ X (.builtin "isinstance") (λxs H Q=>∃(x:V) (t n:String) (b:Bool),xs=[x,.ty n]/\m8 K H x t/\PySem.W.kitOne K (.type t) (.type n)=some b/\Q (.bl b) H):=by
 subst hK;intro pins s σ H xs us Q I r h;obtain⟨x,t,n,b,rfl,ty,e,q⟩:=h;obtain⟨u,w',rfl,c,d⟩:=sJ r;cases (show w'=Value.type n from d);have fin:∀tk,EP X pins σ Q (.bool b) { s with toks:=tk }:=λtk=>⟨.bl b,H,I.tok tk,rfl,q⟩
 cases ty with
 | non=>cases (show u=Value.none from c);exact PySem.W.kia_one PySem.W.kitx_none I.kIn True.intro e (λz=>nomatch z) fin
 | bl y=>cases (show u=Value.bool y from c);exact PySem.W.kia_one PySem.W.kitx_bool I.kIn True.intro e (λz=>nomatch z) fin
 | int i=>obtain⟨t,q⟩:=(show ∃t,u=Value.int i t from c);cases q;exact PySem.W.kia_one PySem.W.kitx_int I.kIn True.intro e (λz=>nomatch z) fin
 | str y=>obtain⟨t,q⟩:=(show ∃t,u=Value.str y t from c);cases q;exact PySem.W.kia_one PySem.W.kitx_str I.kIn True.intro e (λz=>nomatch z) fin
 | @lst a xs hs =>
  cases (show u=Value.ref a from c);obtain⟨f,_,⟨o,g,h1,h2,_,_⟩,_⟩:=I.list hs;exact PySem.W.kia_one PySem.W.kitx_list I.kIn ⟨o,h1,h2⟩ e (λz=>nomatch z) fin
 | @tup a xs hs =>
  cases (show u=Value.ref a from c);obtain⟨f,_,⟨o,h1,h2,_⟩,_⟩:=I.tuple hs;exact PySem.W.kia_one PySem.W.kitx_tuple I.kIn ⟨o,h1,h2⟩ e (λz=>nomatch z) fin
def isK(n:String)(d:ab):Bool:=(oM d==n) || (n == "int" && oM d == "bool")
theorem kr(d:ab):PySem.W.kitOne K (.type (oM d)) (.type "list")=some (isK "list" d):=by cases d <;> rfl
theorem uJ(d:ab):PySem.W.kitOne K (.type (oM d)) (.type "tuple")=some (isK "tuple" d):=by cases d <;> rfl
theorem Vw.kind(w:Vw K N H v d)(hd:∀kvs,d≠.dict kvs):m8 K H v (oM d):=by
 cases d with
 | none=>rw[w.none];exact .non
 | bool b=>rw[w.bool];exact .bl b
 | int b=>rw[w.int];exact .int b
 | str b=>rw[w.str];exact .str b
 | list ds=>obtain⟨a,vs,rfl,s,q⟩:=w.list;exact .lst s
 | tuple ds=>obtain⟨a,vs,rfl,s,q⟩:=w.tuple;exact .tup s
 | dict kvs=>exact absurd rfl (hd kvs)
def Ce:ab->Bool
 | .dict _=>false
 | _=>true
theorem Ce.no{d:ab}(h:Ce d=true):∀kvs,d≠.dict kvs:=λkvs e=>by subst e;cases h
def dIs(n:String)(te:DE):DE:=λenv R=>te env λs a=>∃d,aC a s=some d/\Ce d=true/\R (.fr (.bool (isK n d))) a
theorem wH{n:bx}{T:String}{c:Pos}(hK:X.K=K)(e:∀d,PySem.W.kitOne K (.type (oM d)) (.type T)=some (isK T d))(hg:Gl X "isinstance")(s:X.mg "isinstance" = none)(f:Gl X n)(g:X.mg n=none)(i:KJ n=some (.type T))(t:PE X a (up K te))
  (q:kq [a,.Name n c] X.env=(false,eval a X.env)::kq [.Name n c] X.env:=by rfl) (j:kq [.Name n c] X.env=(false,eval (.Name n c) X.env)::kq [] X.env:=by rfl)
  (k:n ≠ "__name__" := by decide) (l:(n==("__debug__" : bx))=false:=by decide) (m:(ze pos (kq [.Name n c] X.env)).any (·.1)=false:=by rfl) :
  PE X (.Call (.Name "isinstance" p) [a,.Name n c] [] pos) (up K (dIs T te)) :=
 (gX (yd hK) hg s PyProof.Rows.boot_isinstance (cB t (cB (AR (v:=.ty T) f g i rfl k l) fM j) q) (by decide) (by decide) q m).imp λσ H Q h=>by
 obtain⟨M,P,H0,σ0,env,ts,R,o,ht,u⟩:=h;refine⟨M,P,H0,σ0,env,ts,_,o,ht,λs1 r v1 H1 h1 b=>?_⟩;obtain⟨d,e1,nd,x⟩:=h1;have w:=b.view (v:=v1) (by simp) e1;exact⟨v1,oM d,T,isK T d,rfl,w.kind (Ce.no nd),e d,u _ _ _ _ x (b.drop.addFr (.bl _))⟩
def vf(i:Nat)(tj te:DE):DS:=λDD env=>te env λs b=>(∃ds,(b[i]?).bind gR=some ds)/\tj b λe a=>∃d c ds z j s',aV a s=some d/\aC a e=some (.int z)/\a[i]? = some c/\gR c=some ds/\ixN ds.length z=some j /\
 cx c (ds.set j d)=some s'/\DD.nx (a.set i s')
theorem DNs.set:∀{vs:List V}{ds:List ab}{x:V}{d:ab} (j:Nat),DNs K N H vs ds->DN K N H x d->DNs K N H (vs.set j x) (ds.set j d)
 | _,_,_,_,_,.nil,_=>.nil
 | _,_,_,_,0,.cons _ q,h=>.cons h q
 | _,_,_,_,j+1,.cons g q,h=>.cons g (q.set j h)
theorem Aj(i:Nat){y:bx}{npos b:Pos}{j:bb}(hN:X.N[i]? = some y)(hj:PE X j (up K tj))(x:PE X e (up K te))
  (hv:Vis X.env.scope y:=by first|exact Or.inl rfl|exact Or.inr cc|exact Or.inr (Or.inr rfl)) (hd:(y==("__debug__" : bx))=false:=by decide)
  (o:(y==("__classdict__" : bx))=false:=by decide)
  (A:∀v,Qm (.Subscript (.Name y npos) j b) X.env v=(do
   let ov <-KI [v] (eval (.Name y npos) X.env)
   let iv <-KI [v,ov] (eval j X.env)
   K2 b
   KI [v,ov,iv] (Q9 ov iv v)
   release [v,ov,iv] []):=by intro _;rfl)
  (hs:Zo [.Subscript (.Name y npos) j b] e pos.line X.env=pure false:=by rfl) (hw:Zp [.Subscript (.Name y npos) j b] e X.env=pure none:=by rfl)
  (h1:(KH [.Subscript (.Name y npos) j b] X.env).map (·.2)=[Qm (.Subscript (.Name y npos) j b) X.env]:=by rfl):PS X (.Assign [.Subscript (.Name y npos) j b] e pos) (upS K (vf i tj te)) :=
 (tX x (ua (bu hN hv hd o) hj wv A) hs hw h1).imp λD σ H h=>by
 obtain⟨M,P,H0,σ0,env,ts,DD,nv,p,ht,ok⟩:=h;refine⟨M,P,H0,σ0,env,ts,_,p,ht,λs1 l v1 H1 h1 f=>?_⟩;obtain⟨⟨B,C⟩,h1⟩:=h1;obtain⟨O,E,F⟩:=kJ C;obtain⟨a,vs,r,Q,_⟩:=f.mine E F;refine⟨.ref a,r,M,P,H0,σ0,l,ts++[(v1,s1)],_,f,h1,λs2 m u G h2 g=>?_⟩;obtain⟨d,R,ds,z,w,s',k,I,e2,J,ix,es,L⟩:=h2;have c:Rel K M P H0 σ0 σ m (ts++[(v1,s1),(u,s2)]) G:=by simpa using g
 obtain⟨S,us,n,t,q⟩:=c.drop.mine e2 J;rw[r] at n;cases n;have dn:=c.kept (v:=v1) (s:=s1) (by simp) k;refine⟨a,us,z,w,rfl,(g.view (v:=u) (by simp) I).int,t,by rw[q.len];exact ix,ok.nx _ _ _ L (c.drop.mut (ds:=ds) e2 es r (q.set w dn))⟩
def nX(env:List Sl):Sl->Option Sl
 | .fr d=>some (.fr d)
 | .ow l=>some (.ow l)
 | .tr S d=>some (.tr S d)
 | .vw i=>(env[i]?).bind λs=>match s with
  | .fr d=>some (.fr d)
  | .ow l=>some (.ow l)
  | _=>none
 | _=>none
def gM:Sl->Sl
 | .io l=>.io l
 | _=>.un
def jk(n:Nat)(env:List Sl):List Sl:=(env.take n).map gM
def oS(n:Nat)(R:Sl->List Sl->Prop):gx where
 nx := λenv=>R (.fr .none) (jk n env)
 rt := λs env=>∃r,nX env s=some r/\R r (jk n env)
def cw(n:Nat)(ss:List Sl):List Sl:=ss++JN (n - ss.length) .un
theorem hX(m:Nat):∀{vs:List V}{ss:List Sl},vs.length=ss.length->(vs.map some++JN m none).zip (ss++JN m Sl.un)=tmp (vs.zip ss)++JN m (none,Sl.un)
 | [],[],_=>by simp[tmp]
 | v::vs,s::ss,h=>by
  show(some v,s)::(vs.map some++JN m none).zip (ss++JN m Sl.un)=_;rw[hX m (by simpa using h)];rfl
 | [],_::_,h=>by simp at h
 | _::_,[],h=>by simp at h
theorem uA(m:Nat):oas (JN m ((none,Sl.un):Ent))=[]:=by unfold oas;rw[List.flatMap_eq_nil_iff];intro e a;rw[(List.mem_replicate.mp a).2];rfl
theorem uY:∀{vs:List V}{σ:St}{env:List Sl},σ.length=env.length->(∀(j:Nat) (l:List ab),env[j]? = some (.io l)->j<vs.length->σ[j]? = (vs[j]?).map some)->(oas (tmp (vs.zip (jk vs.length env)))).Sublist (oas (σ.zip env))
 | [],σ,env,_,_=>by simp[tmp,oas]
 | v::vs,[],[],_,_=>by simp[tmp,oas,jk]
 | v :: vs,x::σ,s::env,hl,h=>by
  have a:=uY (vs:=vs) (σ:=σ) (env:=env) (by simpa using hl) λj l e hj=>by
   have:=h (j+1) l (by simpa using e) (by simpa using hj);simpa using this
  show(oas ((some v,gM s)::tmp (vs.zip (jk vs.length env)))).Sublist (oas ((x,s)::σ.zip env));rw[aj,aj];cases s with
  | io l =>
   have b:=h 0 l rfl (by simp);simp at b;subst b;exact List.Sublist.append (List.Sublist.refl _) a
  | _ =>
   simp only[gM,gi];exact a.trans (List.sublist_append_right _ _)
 | _::_,[],_::_,hl,_=>by simp at hl
 | _::_,_::_,[],hl,_=>by simp at hl
theorem Rel.fin{vs:List V}{r:Sl}{n:Nat}(a:Rel K M P H0 (start N' vs) σ env [(v,r)] H)(hn:n=vs.length)(A:ji r=true):aU K M P H0 (tmp ((v,r)::vs.zip (jk n env))) H:=by
 subst hn;have b:∀(j:Nat) (l:List ab),env[j]? = some (.io l)->j<vs.length->σ[j]? = (vs[j]?).map some:=λj l e hj=>by
  rw[a.ios j l e];unfold start;rw[JM (by simpa using hj),Jt]
 have g:=a.e;refine g.sub (λx s m=>?_) ?_;rw[d4] at m;rcases IR.mp m with m|m;cases m;exact .inl (cS (by simp));obtain⟨⟨w,s'⟩,m1,e⟩:=IZ.mp m;cases e;obtain⟨j,hj,e⟩:=J2 m1;rw[J3] at e;have d:=hj;rw[JZ] at d;have e1:vs[j]'(by omega)=w:=(Prod.mk.inj e).1;have e2:(jk vs.length env)[j]'(by omega)=s':=(Prod.mk.inj e).2;have f:j<env.length:=by
  have:(jk vs.length env).length=min vs.length env.length:=by simp[jk]
  omega
 have e3:s'=gM env[j]:=by rw[<-e2];simp[jk]
 cases q:env[j] with
 | io l =>
  rw[q] at e3;subst e3;have eq:env[j]? = some (.io l):=by rw[IK f,q]
  have c:=b j l eq (by omega);obtain⟨x,h,i⟩:=a.slot eq;rw[h,IK (by omega:j<vs.length),e1] at c;have c:x=some w:=Option.some.inj c;subst c;exact .inl i
 | _=>rw[q] at e3;subst e3;exact .inr (.inl rfl)
 have nd:=g.nd;have k:aw σ env [(v,r)]=σ.zip env++[(some v,r)]:=rfl;rw[k,ah] at nd;obtain⟨o,p,t⟩:=IT.mp nd;have sub:=uY a.len b;rw[d4,show((some (v,r).1,(v,r).2):Ent)::tmp (vs.zip (jk vs.length env))=[(some v,r)]++tmp (vs.zip (jk vs.length env)) from rfl,ah];exact IT.mpr ⟨p,o.sublist sub,λx hx y u z=>t y (sub.subset u) x hx z.symm⟩
end
section
variable {K:ca}{M P:ap->Prop}{H0 H:Hp}{A B:List Ent}{σ0 σ:St}{env:List Sl}{ts:List (V×Sl)}{v:V}{s:Sl}{d:ab}
theorem Rel.take{i:Nat}{l:List ab}(h:Rel K M P H0 σ0 σ env [(v,.vw i)] H)(e:env[i]? = some (.ow l)):Rel K M P H0 σ0 σ (env.set i .un) [(v,.ow l)] H:=by
 obtain⟨x,A,B,e1,D,E⟩:=h.split e;have ev:=h.vw v i (by simp);rw[e1] at ev;have ev:x=some v:=Option.some.inj ev;subst ev;have z1:aw σ env [(v,.vw i)]=σ.zip env++[(some v,.vw i)]:=rfl;obtain⟨F,e3,m2⟩:=sG h.len e;have d:(σ.zip env)[i]? = some (some v,.ow l):=by rw[dG,e1,e];rfl
 obtain⟨f,g,k,n⟩:=fP d;have b:=h.e;rw[z1,k] at b;have o:aw σ (env.set i .un) [(v,.ow l)]=(f++(some v,.un)::g)++[(some v,.ow l)]:=by show σ.zip (env.set i .un)++[(some v,.ow l)]=_;rw[sF e1,n]
 refine⟨?_,by simp[h.len],λw j m=>(by rw[IG] at m;cases m),λj l' e'=>?_⟩;rw[o];refine b.sub (λx s m=>?_) ?_;rcases II.mp m with m|m;rcases II.mp m with m|m;exact .inl (IJ _ (IJ _ m));rcases IR.mp m with m|m;cases m;exact .inr (.inl rfl);exact .inl (IJ _ (IE _ (IM _ m)));rw[IG] at m;cases m;exact .inl (IJ _ (IE _ IL));have nd:=b.nd;have ov:oas [(some v,Sl.vw i)]=[]:=by rw[aj,iK];rfl
 rw[ah,ah,aj,ov,Jh] at nd;have p:oas [(some v,Sl.ow l)]=cH (some v,Sl.ow l):=by rw[aj];simp[oas]
 rw[ah,ah,aj,gi,p];obtain⟨q,r,c⟩:=IT.mp nd;obtain⟨t,u,C⟩:=IT.mp r;refine IT.mpr ⟨IT.mpr ⟨q,u,λx hx y a=>c x hx y (IE _ a)⟩,t,λx hx y a z=>?_⟩;subst z;rcases II.mp hx with hx|hx;exact c x hx x (IJ _ a) rfl;exact C x a x hx rfl;by_cases hj:i=j;subst hj;rw[Jc (IN.mp e).1] at e';cases e';rw[Je hj] at e';exact h.ios j l' e'
theorem Bw{i n:Nat}{l:List ab}(e:env[i]? = some (.ow l)):jk n (env.set i .un)=jk n env:=by
 unfold jk;apply List.ext_getElem?;intro j;rw[Jt,Jt,List.getElem?_take,List.getElem?_take];by_cases hj:i=j;subst hj;rw[Jc (IN.mp e).1,e];split <;> rfl
 rw[Je hj]
theorem Rel.told{n:Nat}{r:Sl}(h:Rel K M P H0 σ0 σ env [(v,s)] H)(e:nX env s=some r):∃env',Rel K M P H0 σ0 σ env' [(v,r)] H/\jk n env'=jk n env/\ji r=true:=by
 cases s with
 | fr d=>cases e;exact⟨env,h,rfl,rfl⟩
 | tr S d=>cases e;exact⟨env,h,rfl,rfl⟩
 | ow l=>cases e;exact⟨env,h,rfl,rfl⟩
 | vw i =>
  have e:(env[i]?).bind _=some r:=e;cases q:env[i]? with
  | none=>rw[q] at e;cases e
  | some s' =>
   rw[q] at e;cases s' with
   | fr d =>
    cases e;have hs:gP env (.vw i)=some (.fr d):=by show((env[i]?).bind slK).map Sl.fr=_;rw[q];rfl
    have:=(Rel.unVw (ts:=[]) (by simpa using h) hs).1;exact⟨env,by simpa using this,rfl,rfl⟩
   | ow l=>cases e;exact⟨env.set i .un,h.take q,Bw q,rfl⟩
   | _=>cases e
 | _=>cases e
end
section
variable {P:q3}{w:zb}{K:ca}{mg:bx->Option as}{base:bd}
theorem okD{x q:bx}{st:Stmt}{f:ap}{fd:kN}{N ps:List bx}{k:Nat}{sp:DSp}(F:Fun K x q st f fd)(S:ak N ps (ac st))(len:∀ss R,sp ss R->ss.length=ps.length)(hN:ps.length<=N.length)
  (u:∀(cdv:as) (A:Around) (outer:List Env) (s:ba) (H:Hp) (E:XK),b9 k (A.deeper (Qq q (ac st) s.heap.objs.size f cdv)) ->
   ∃t:DS,PSs (sC CX0 P w K mg base N q (ac st) f cdv A outer s H E).nox (bI st) (upS K t)/\∀ss R,sp ss R->t (oS ps.length R) (cw N.length ss)):a9 P w K mg base CX0 (k+1) f fd ps (spD K sp):=by
 refine F.ok S (λvs H Q E h=>?_) λcdv A outer s H vs Q E y h=>?_;obtain⟨M,ss,R,hl,_,a,_⟩:=h;rw[hl];exact len ss R a;obtain⟨M,ss,R,hl,j,a,o⟩:=h;have hn:=len ss R a;obtain⟨t,ht,g⟩:=u cdv A outer s H E y;have z:aw (start N vs) (cw N.length ss) []=tmp (vs.zip ss)++JN (N.length - vs.length) (none,Sl.un):=by show(start N vs).zip (cw N.length ss)++[]=_;unfold start cw;rw[Jh,<-hl];exact hX _ hl
 refine⟨_,ht,M,vS vs ss,H,start N vs,cw N.length ss,[],oS ps.length R,λw i m=>(by cases m),⟨?_,by simp[start,cw,hl],λw i m=>(by cases m),λi l e=>rfl⟩,g ss R a,⟨λσ' env' H' q r=>?_,λs env' v σ' H' q r=>?_,λσ' env' H' q r=>(show False from q),λσ' env' H' q r=>(show False from q)⟩⟩;rw[z];refine j.sub (λx s m=>?_) (by rw[ah,uA,Jh];exact j.nd);rcases II.mp m with m|m;exact .inl m;have:=(List.mem_replicate.mp m).2;cases this;exact .inr (.inl rfl);have b:=(Rel.addFr r (v:=.non) (d:=.none) .non)
 have b:Rel K M (vS vs ss) H (start N vs) σ' env' [(.non,.fr .none)] H':=by simpa using b
 exact o _ _ _ _ q rfl (b.fin (by omega) rfl);obtain⟨B,C,D⟩:=q;have G:Rel K M (vS vs ss) H (start N vs) σ' env' [(v,s)] H':=by simpa using r
 obtain⟨p,b,I,c⟩:=G.told (n:=ps.length) C;exact o B _ v H' D c (by rw[<-I];exact b.fin (by omega) c)
theorem HK{x:bx}{st:Stmt}{f:ap}{N ps:List bx}{k:Nat}{sp:DSp}{kV doc pm cdv ct oc:as}{an od:Option ap}{osl:Array (Option as)}
  (y:∀(A:Around) (outer:List Env) (s:ba) (H:Hp) (E:XK),b9 k (A.deeper (Qq x (ac st) s.heap.objs.size f cdv)) ->
   ∃t:DS,PSs (sC CX0 P w K mg base N x (ac st) f cdv A outer s H E).nox (bI st) (upS K t)/\∀ss R,sp ss R->t (oS ps.length R) (cw N.length ss))
  (z:K.lookup f=some ⟨oc,od,.func (PySem.W.fnOf x x (cT st) (bI st) (ac st) .none kV doc pm an cdv ct),osl⟩) (g:PySem.W.codeIn K cdv x=true) (S:ak N ps (ac st)) (len:∀ss R,sp ss R->ss.length=ps.length) (hN:ps.length<=N.length):a9 P w K mg base CX0 (k+1) f (PySem.W.fnOf x x (cT st) (bI st) (ac st) .none kV doc pm an cdv ct) ps (spD K sp):=by
 refine Ef z g S (λvs H Q E h=>?_) λA outer s H vs Q E B h=>?_;obtain⟨M,ss,R,hl,_,a,_⟩:=h;rw[hl];exact len ss R a;obtain⟨M,ss,R,hl,o,a,p⟩:=h;have hn:=len ss R a;obtain⟨t,ht,j⟩:=y A outer s H E B;have C:aw (start N vs) (cw N.length ss) []=tmp (vs.zip ss)++JN (N.length - vs.length) (none,Sl.un):=by show(start N vs).zip (cw N.length ss)++[]=_;unfold start cw;rw[Jh,<-hl];exact hX _ hl
 refine⟨_,ht.nox,M,vS vs ss,H,start N vs,cw N.length ss,[],oS ps.length R,λw i m=>(by cases m),⟨?_,by simp[start,cw,hl],λw i m=>(by cases m),λi l e=>rfl⟩,j ss R a,⟨λσ' env' H' q r=>?_,λs env' v σ' H' q r=>?_,λσ' env' H' q r=>(show False from q),λσ' env' H' q r=>(show False from q)⟩⟩;rw[C];refine o.sub (λx s m=>?_) (by rw[ah,uA,Jh];exact o.nd);rcases II.mp m with m|m;exact .inl m;have:=(List.mem_replicate.mp m).2;cases this;exact .inr (.inl rfl);have b:=(Rel.addFr r (v:=.non) (d:=.none) .non)
 have b:Rel K M (vS vs ss) H (start N vs) σ' env' [(.non,.fr .none)] H':=by simpa using b
 exact p _ _ _ _ q rfl (b.fin (by omega) rfl);obtain⟨D,F,G⟩:=q;have I:Rel K M (vS vs ss) H (start N vs) σ' env' [(v,s)] H':=by simpa using r
 obtain⟨u,b,J,c⟩:=I.told (n:=ps.length) F;exact p D _ v H' G c (by rw[<-J];exact b.fin (by omega) c)
theorem Hi{x:bx}{st:Stmt}{f:ap}{fd:kN}{k:Nat}{ps:List bx}{sp:DSp}(F:Fun K x x st f fd)(m:mg x=some (.ref f))(b:cV K fd ps [])(G:a9 P w K mg base CX0 k f fd ps (spD K sp)):Cal P w K mg base x k (spD K sp):=Cal.mk F m b G
end
section
variable {X:Cx}{x:bx}{p pos:Pos}{e:bb}{es:List bb}{k:Nat}{sp:DSp}{K:ca}{tl:DA}
theorem ao(C:Cal X.prog X.w X.K X.mg X.base x k (spD K sp))(b:PA X (e::es) (upA K tl))(c:b9 k X.A:=by exact b9.mono (by assumption) (by decide))(hg:Gl X x:=by rfl)(hd:(x==("__debug__" : bx))=false:=by decide)
  (d:kq (e::es) X.env=(false,eval e X.env)::kq es X.env:=by rfl) (a:(ze pos (kq es X.env)).any (·.1)=false:=by rfl):PE X (.Call (.Name x p) (e::es) [] pos) (up K (vp sp tl)):=(lG C c hg b hd d a).imp B4
theorem iG(m:Nat)(C:Cal X.prog X.w X.K X.mg X.base x k (spD K sp))(b:PA X (e::es) (upA K tl))(c:b9 k X.A:=by exact b9.mono (by assumption) (by decide))(hg:Gl X x:=by rfl)(hd:(x==("__debug__" : bx))=false:=by decide)
  (d:kq (e::es) X.env=(false,eval e X.env)::kq es X.env:=by rfl) (a:(ze pos (kq es X.env)).any (·.1)=false:=by rfl):PE X (.Call (.Name x p) (e::es) [] pos) (up K (mH sp m tl)):=(lG C c hg b hd d a).imp yh
theorem Au(C:Cal X.prog X.w X.K X.mg X.base x k (spD K sp))(b:PA X (e::es) (upA K tl))(c:b9 k X.A:=by exact b9.mono (by assumption) (by decide))(hg:Gl X x:=by rfl)(hd:(x==("__debug__" : bx))=false:=by decide)
  (d:kq (e::es) X.env=(false,eval e X.env)::kq es X.env:=by rfl) (a:(ze pos (kq es X.env)).any (·.1)=false:=by rfl):PE X (.Call (.Name x p) (e::es) [] pos) (up K (qR sp tl)):=(lG C c hg b hd d a).imp yg
end
def E6:G1:=λd R=>∃i,d=.int i/\R (.int (-i))
theorem EW{K:ca}:∀(N:ap->Prop) (H:Hp) (x:V) (d1:ab) (R:ab->Prop) (Q:VK),Vw K N H x d1->E6 d1 R->(∀d v,R d->DN K N H v d->Q v H)->(rU λi=>.int (-i)) x H Q:=by rintro N H x d R Q w ⟨i,rfl,a⟩ b;exact⟨i,w.int,b _ _ a (.int _)⟩
abbrev li(ns:List Int):List ab:=ns.map .int
theorem qw{ds:List ab}{g:DG}{tb:DS}{DD:gx}{env:List Sl}(W:Nat->List Sl->Prop)(b:W 0 env)
  (hs:∀i env,(h:i<ds.length)->W i env->g ds[i] env λa=>tb { DD with nx:=dI (W (i+1)) ⟨⟩,ct:=dI (W (i+1)) ⟨⟩,bk:=DD.nx } a) (hd:∀env,W ds.length env->DD.nx env):FD ds g tb DD env:=⟨W,b,hs,hd⟩
theorem bA{ds:List ab}{ix:List (Option Nat)}{g:DG}{te:DE}{env:List Sl}{R:Sl->List Sl->Prop}(f:Nat->ab)(hz:ds.length<=1000000)
  (h : ∀i,(h:i<ds.length)->∀Q:ab->Prop,Q (f i)->g ds[i] (fm ix env) λa=>te a λs b=>∃d,aV b s=some d/\Q d) (c:R (.ow ((List.range ds.length).map f)) env):CD ds ix g xX te env R:=by refine⟨λi rs=>rs=(List.range i).map f/\i<=ds.length,⟨rfl,Jb _⟩,λi rs hi w=>?_,λrs w=>by rw[w.1];exact c⟩;obtain⟨rfl,_⟩:=w;refine⟨by rw[IF,Jl];exact IY (by omega) ae,?_⟩;have:=h i hi (λd=>(List.range i).map f++[d]=(List.range (i+1)).map f/\i+1<=ds.length) ⟨by rw[J6,Jm];rfl,hi⟩;simpa only[xX,if_true] using this
theorem dX{ds:List ab}{ix:List (Option Nat)}{g:DG}{tt:DT}{te:DE}{env:List Sl}{R:Sl->List Sl->Prop}(p:Nat->Bool)(f:Nat->ab)(hz:ds.length<=1000000)
  (h : ∀i,(h:i<ds.length)->∀(Q:ab->Prop) (a:Prop),(p i=true->Q (f i))->(p i=false->a)->g ds[i] (fm ix env) λb=>tt b λk c=>if k=true then te c λs j=>∃d,aV j s=some d/\Q d else a)
  (l:R (.ow (((List.range ds.length).filter p).map f)) env):CD ds ix g tt te env R:=by refine⟨λi rs=>rs=((List.range i).filter p).map f/\i<=ds.length,⟨rfl,Jb _⟩,λi rs hi w=>?_,λrs w=>by rw[w.1];exact l⟩;obtain⟨rfl,_⟩:=w;refine⟨?_,?_⟩;have:=Jy p (List.range i);rw[Jl] at this;rw[IF];exact IY (by omega) ae;refine h i hi _ _ (λe=>⟨?_,hi⟩) (λe=>⟨?_,hi⟩);rw[J6,JY,Jm];simp[e];rw[J6,JY,Jm];simp[e]
def Bg(i:Int):Prop:=i.natAbs<2 ^ 8000
def Cc(i j:Int):Prop:=Bg i/\Bg j
def GS(i j:Int):Prop:=0<j/\Bg j
theorem Cc.ok{i j:Int}(h:Cc i j):IntMulOk i j:=by
 have up:∀x:Int,Bg x->Builtin.Int.intBits x<=2 ^ 20:=λx hx=>by
  refine PySem.intBits_le_iff.mpr (IY hx (JQ (by decide) (by decide)))
 exact IntMulOk.of_bits (up _ h.1) (up _ h.2)
theorem Bg.log{j:Int}(h:Bg j):j.natAbs.log2<9000:=by by_cases a:j.natAbs=0;rw[a];decide;have h1:=Nat.log2_self_le a;have h:j.natAbs<2 ^ 8000:=h;have h2:(2:Nat) ^ j.natAbs.log2<2 ^ 8000:=Kw h1 h;have h3:=(Nat.pow_lt_pow_iff_right (by decide:1<2)).mp h2;exact Nat.lt_trans h3 (by decide)
section
variable {X:Cx}{K:ca}
theorem uq:OpR X (KN .Mult) (rI Cc λi j=>.int (i*j)):=opI λ_ _ _ _ _ _ _ hc q=>mul_int q hc.ok
theorem j7:OpR X (KN .FloorDiv) (rI GS λi j=>.int (i / j)):=opI λi j _ _ _ _ _ hc q=>by
 refine floordiv_int (Int.ne_of_gt hc.1) ?_ (.inl (PyProof.noPylong_of_log2 hc.2.log));rw[Int.fdiv_eq_ediv_of_nonneg _ (Int.le_of_lt hc.1)];exact q
theorem iI(ns:List Int):∀n,n<=ns.length->preSum (λi=>ns.getD i 0) n=(ns.take n).sum
 | 0,_=>rfl
 | n+1,h=>by
  rw[preSum,iI ns n (by omega),JT,Ku,IK (by omega:n<ns.length)];simp[IP,IK (by omega:n<ns.length)]
theorem mP(hK:X.K=K)(hc:X.calm=true):cZ X (.builtin "sum") (λxs H Q=>∃(p:ap) (ns:List Int),xs=[.ref p]/\SqL K H p (ns.map V.int)/\Q (.int ns.sum) H):=by
 subst hK;intro pins s σ H xs us Q I r h;obtain⟨p,ns,rfl,hs,q⟩:=h;obtain⟨u,rfl,k⟩:=fw r;cases (show u=Value.ref p from k);obtain⟨a,rv,l,_⟩:=I.list hs;have hl:=l.isList;have g:p<s.heap.objs.size:=by obtain⟨_,e,_⟩:=hl;exact IX e
 have hsz:a.toArray.size=ns.length:=by have:=rv.length;simp at this ⊢;omega
 have W:=(Walks.list (prog:=X.prog) (w:=X.w) (A:=X.A.in1) (I.ok.hd hc) s.heap.objs.size p (Jd g) a.toArray).toS;rw[hsz] at W;refine call_sum_walkAnyS (Qb hl ?_);refine⟨s.heap.objs.size,_,_,_,_,_,_,λi=>ns.getD i 0,rfl,W,⟨⟨_,IW _ rfl,rfl,rfl⟩,hl.push _⟩,λb d=>?_,λi v c=>?_,λs' t' f=>?_⟩;rcases IR.mp d with rfl|d;exact IX (IW _ rfl);obtain rfl:=IG.mp d;exact IX (IH _ (id hl).choose_spec.1);have c:a.toArray[i]? = some v:=c;have c:a[i]? = some v:=by simpa using c
 have hi:i<a.length:=(IN.mp c).1;have hi2:i<ns.length:=by simp at hsz;omega
 obtain⟨u,e1,⟨t,e2⟩⟩:=rv.get (i:=i) (x:=.int ns[i]) (by rw[Jt,IK hi2];rfl);rw[c] at e1;cases e1;refine⟨t,?_⟩;rw[e2];show _=Value.int (ns.getD i 0) t;rw[IP,IK hi2];rfl;obtain⟨h',g',d',m,j⟩:=s';have e1:g'=s.gens:=f.gens;have e2:d'=s.drawn:=f.drawn;have e3:j=s.os:=f.os;subst e1 e2 e3;have ep:=iI ns ns.length (IS _);rw[JI] at ep;rw[ep];exact⟨.int ns.sum,H,I.kept λb o e=>f.heap b o (λd=>absurd (IX e) ((IG.mp d)▸JL _)) (IH _ e),⟨_,rfl⟩,q⟩
def E5:GB:=λds R=>∃es ns,ds=[.list es]/\dS es=some ns/\R (.int ns.sum)
theorem Hd:eO K (λxs H Q=>∃(p:ap) (ns:List Int),xs=[.ref p]/\SqL K H p (ns.map V.int)/\Q (.int ns.sum) H) E5:=by
 rintro N H xs ds R Q w ⟨es,ns,rfl,e1,b⟩ c;cases w with
 | cons d e =>
  cases e;obtain⟨a,vs,rfl,s,q⟩:=d.list;rw[cD e1] at q;rw[q.ints] at s;exact⟨a,ns,rfl,s,c _ _ b (.int _)⟩
end
theorem Bg.of{i:Int}(h1:-1000000000000000000000000000000000000000000000<=i)(h2:i<=1000000000000000000000000000000000000000000000):Bg i:=by
 have h:i.natAbs<2 ^ 200:=by
  have:(2:Nat) ^ 200=1606938044258990275541962092341162602522202993782792835301376:=by decide
  rw[this];omega
 exact IY h (JQ (by decide) (by decide))
section
variable (env:List Sl) (d:ab) (l:List ab) (i n:Nat) (s:Sl) (R:Sl->List Sl->Prop)
theorem pr:aC env (.fr d)=some d:=rfl
theorem pp:aC env (.ow l)=some (.list l):=rfl
theorem pq:aC env (.io l)=some (.list l):=rfl
theorem pj:aC env (.vw i)=(env[i]?).bind slD:=rfl
theorem yC:slD (.fr d)=some d:=rfl
theorem yA:slD (.ow l)=some (.list l):=rfl
theorem yB:slD (.io l)=some (.list l):=rfl
theorem yy:slD .un=none:=rfl
theorem yz{S:List ap}{kvs:List (ab×ab)}:slD (.tr S (.dict kvs))=some (.dict kvs):=rfl
theorem pk{S:List ap}{kvs:List (ab×ab)}:aC env (.tr S (.dict kvs))=some (.dict kvs):=rfl
theorem yx:slK (.fr d)=some d:=rfl
theorem yv:slK (.ow l)=none:=rfl
theorem yw:slK (.io l)=none:=rfl
theorem yu:slK .un=none:=rfl
theorem ml:aV env (.fr d)=some d:=rfl
theorem mi:aV env (.ow l)=some (.list l):=rfl
theorem mf:aV env (.vw i)=(env[i]?).bind slK:=rfl
theorem pD:gP env (.fr d)=some (.fr d):=rfl
theorem pC:gP env (.ow l)=some (.ow l):=rfl
theorem pB{S:List ap}:gP env (.tr S d)=some (.tr S d):=rfl
theorem pR{S:List ap}:nX env (.tr S d)=some (.tr S d):=rfl
theorem mh{S:List ap}:aV env (.tr S d)=some d:=rfl
theorem pA:gP env (.vw i)=((env[i]?).bind slK).map .fr:=rfl
def FC:Sl->Option Sl
 | .fr d=>some (.fr d)
 | .ow l=>some (.ow l)
 | _=>none
theorem pU:nX env (.fr d)=some (.fr d):=rfl
theorem pS:nX env (.ow l)=some (.ow l):=rfl
theorem pP:nX env (.vw i)=(env[i]?).bind FC:=by
 show(env[i]?).bind _=_
 congr 1
theorem tK:FC (.fr d)=some (.fr d):=rfl
theorem tJ:FC (.ow l)=some (.ow l):=rfl
theorem my:gM (.fr d)=.un:=rfl
theorem mw:gM (.ow l)=.un:=rfl
theorem mx:gM (.io l)=.io l:=rfl
theorem mv:gM .un=.un:=rfl
theorem qD:(oS n R).rt s env=∃r,nX env s=some r/\R r (jk n env):=rfl
theorem qE:(oS n R).nx env=R (.fr .none) (jk n env):=rfl
theorem pL:cx (.ow l) d'=some (.ow d'):=rfl
theorem pM:cx (.io l) d'=some (.io d'):=rfl
theorem uh:gR (.ow l)=some l:=rfl
theorem ui:gR (.io l)=some l:=rfl
theorem uj:gR (.fr d)=none:=rfl
theorem ug:gR .un=none:=rfl
theorem qY:mM (some (.fr d))=.fr d:=rfl
theorem qW:mM (some (.ow l))=.un:=rfl
theorem qX:mM (some (.io l))=.un:=rfl
theorem qV:mM (some .un)=.un:=rfl
theorem mO:GG env none=.un:=rfl
theorem mN:GG env (some i)=mM env[i]?:=rfl
theorem jv:eP (.list l)=some l:=rfl
theorem ij:eP (.tuple l)=some l:=rfl
theorem kX:yo .none=some false:=rfl
theorem kZ(b:Bool):yo (.bool b)=some b:=rfl
theorem pv(i:Int):yo (.int i)=some (i != 0):=rfl
theorem kY:yo (.list l)=some (!l.isEmpty):=rfl
theorem jm:yo (.tuple l)=some (!l.isEmpty):=rfl
theorem mn:ng .none=true:=rfl
theorem qm(i:Int):ng (.int i)=false:=rfl
theorem mq(i:Bool):ng (.bool i)=false:=rfl
theorem mo:ng (.list l)=false:=rfl
theorem jG:ng (.tuple l)=false:=rfl
theorem qp(b:Bool):isK "bool" (.bool b)=true:=rfl
theorem qo:isK "list" (.list l)=true:=rfl
theorem mr:isK "tuple" (.tuple l)=true:=rfl
theorem yY:isK "list" (.tuple l)=false:=rfl
theorem yX:isK "tuple" (.list l)=false:=rfl
theorem iT:aN env []=some []:=rfl
theorem gL(s:Sl)(ss:List Sl):aN env (s::ss)=(aV env s).bind λd=>(aN env ss).bind λds=>some (d::ds):=rfl
theorem jl:fv env []=some []:=rfl
theorem hZ(s:Sl)(ss:List Sl):fv env (s::ss)=(aC env s).bind λd=>(fv env ss).bind λds=>some (d::ds):=rfl
theorem qB(i j:Int):PyData.eqv (.int i) (.int j)=decide (i=j):=by show(i==j)=_;by_cases h:i=j <;> simp[h]
end
theorem zB{α:Type}(x:α)(l:List α):atI (x::l) 0=some x:=cU (j:=0) rfl
theorem zA{α:Type}(x y:α)(l:List α):atI (x::y::l) 1=some y:=cU (j:=1) rfl
theorem zz{α:Type}(x y z:α)(l:List α):atI (x::y::z::l) 2=some z:=cU (j:=2) rfl
theorem zx{α:Type}(a b c d x:α)(l:List α):atI (a::b::c::d::x::l) 4=some x:=cU (j:=4) rfl
theorem zw{α:Type}(a b c d e x:α)(l:List α):atI (a::b::c::d::e::x::l) 5=some x:=cU (j:=5) rfl
theorem zv{α:Type}(a b c d e f x:α)(l:List α):atI (a::b::c::d::e::f::x::l) 6=some x:=cU (j:=6) rfl
theorem zu{α:Type}(a b c d e f g x:α)(l:List α):atI (a::b::c::d::e::f::g::x::l) 7=some x:=cU (j:=7) rfl
theorem qz:PyData.eqv .none .none=true:=rfl
theorem y7(i:Int):PyData.eqv .none (.int i)=false:=rfl
theorem y8(i:Int):PyData.eqv (.int i) .none=false:=rfl
theorem tw(i:Int):shp (.int i)=True:=by simp[shp,SeqAt.shaped,PySem.PyData.canLay0,PySem.PyData.depth]
theorem pH:shp .none=True:=by simp[shp,SeqAt.shaped,PySem.PyData.canLay0,PySem.PyData.depth]
theorem pK(b:Bool):shp (.bool b)=True:=by simp[shp,SeqAt.shaped,PySem.PyData.canLay0,PySem.PyData.depth]
theorem zy{α:Type}(x y z u:α)(l:List α):atI (x::y::z::u::l) 3=some u:=cU (j:=3) rfl
theorem DP{K:ca}{H:Hp}{a:ap}{ns:List Int}{E:XK}(d:SqL K H a (ns.map V.int)){sp:DSp}(h:sp [.fr (.list (li ns))] (λr _=>r=.fr (.bool true))):spD K sp [.ref a] H (λv _=>v=.bl true) E:=by have c:DNs K (λ_=>False) H [.ref a] [.list (li ns)]:=.cons (DN.sqL d) .nil;refine⟨λ_=>False,[.fr (.list (li ns))],_,rfl,mZ (ds:=[.list (li ns)]) c (λa z=>z.elim),h,λr f v H' g _ b=>?_⟩;subst g;obtain⟨w,e,dn⟩:=b.fr _ _ IL;cases e;cases dn;rfl
theorem Fo{l:PySem.W.OpenLaw}{q:q3}{e:List bx}{m:(bx->Option as)->bd->Prop}{o:zb->bd->Prop}{d:DefRec}{K:Params->ca}{sp:DSp}{k:Nat}(hk:k<=40)(hn:l.most=some 63)(g:d.params.defaults=[])
  (i:∀ns:List Int,ns.length<=63->sp [.fr (.list (li ns))] (λr _=>r=.fr (.bool true)))
  (j:∀(w:zb) (s₀:ba) (mg mb:bx->Option as) (h:bd),PySem.W.Ground q e [] m w s₀ mg mb h->(K w.params).In h->∃tb:List (ap×bx),(∀b q,tb.lookup b=some q->h.get? b=some { cls:=.none,data:=.fields #[] }/\(K w.params).lookup b=none/\∃c,h.TableAt c b #[])/\∀T q,jb (K w.params) T q->tb.lookup T=some q)
  (p:∀(w:zb) (h:bd),o w h->(K w.params).In h)
  (F : ∀(w:zb) (mg:bx->Option as) (fa:ap) (h:bd),(K w.params).In h->h.Ns ky mg->mg d.name=some (.ref fa) ->
   ∃fd:kN,(∀(s:ba) (u:as),QJ s fd ⟨[u],[]⟩ [("_law_script",u)])/\∀base:bd,(K w.params).In base->base.Ns ky mg->a9 l.prog w (K w.params) mg base CX0 k fa fd ["_law_script"] (spD (K w.params) sp)) :
  PySem.W.WalkO q e m o l.row.toRowW d [] (λf vs=>PySem.call f vs):=by refine _L.zM (n:=63) (k:=40) (x := "_law_script") (CX:=λ_=>CX0) (sp:=λw=>spD (K w.params) sp) hn (by decide) g ⟨rfl,by decide,by decide⟩ j p (λw mg fa h a b c=>?_) (λw H a ns hl _ t=>DP t (i ns hl)) λ_ _ _ _ _ z=>z;obtain⟨fd,h1,h2⟩:=F w mg fa h a b c;exact⟨fd,h1,λbase x y=>(h2 base x y).mono hk⟩
def Sh(n:Nat)(d:ab):Prop:=d.canLay0=true/\d.depth<=n
theorem Sh.int(n:Nat)(i:Int):Sh n (.int i):=⟨by simp[PyData.canLay0],by simp[PyData.depth]⟩
theorem Sh.all{n:Nat}:∀{ds:List ab},(∀x∈ds,Sh n x)->PyData.canLayAll0 ds=true/\PyData.depthAll ds<=n
 | [],_=>⟨by simp[PyData.canLayAll0],by simp[PyData.depthAll]⟩
 | d::ds,h=>by
  have h1:=h d IL;have h2:=Sh.all λx hx=>h x (IM _ hx);refine⟨by rw[PyData.canLayAll0,h1.1,h2.1];rfl,?_⟩;rw[PyData.depthAll];have a:=h1.2;have b:=h2.2;omega
theorem Sh.list{n:Nat}{ds:List ab}(h:∀x∈ds,Sh n x):Sh (n+1) (.list ds):=by obtain⟨a,b⟩:=Sh.all h;exact⟨by rw[PyData.canLay0];exact a,by rw[PyData.depth];omega⟩
theorem Sh.tuple{n:Nat}{ds:List ab}(h:∀x∈ds,Sh n x):Sh (n+1) (.tuple ds):=by obtain⟨a,b⟩:=Sh.all h;exact⟨by rw[PyData.canLay0];exact a,by rw[PyData.depth];omega⟩
theorem Sh.ints(n:Nat)(ns:List Int):Sh (n+1) (.list (li ns)):=Sh.list λx hx=>by
 obtain⟨i,_,rfl⟩:=IZ.mp hx;exact Sh.int _ _
theorem Sh.intT(n:Nat)(ns:List Int):Sh (n+1) (.tuple (li ns)):=Sh.tuple λx hx=>by
 obtain⟨i,_,rfl⟩:=IZ.mp hx;exact Sh.int _ _
theorem Sh.shp{n:Nat}{d:ab}(h:Sh n d)(hn:n<=64):shp d:=by show SeqAt.shaped d=true;unfold SeqAt.shaped;rw[h.1,decide_eq_true (IQ h.2 hn)];rfl
theorem dE{ns:List Int}{k:Nat}(h:k<ns.length):atI (li ns) (k:Int)=some (.int (ns.getD k 0)):=cU (by
 rw[Jt,IK h,IP,IK h];rfl)
theorem bK{ns:List Int}{i:Nat}(h:i<(li ns).length):(li ns)[i]=.int (ns.getD i 0):=by
 have h':i<ns.length:=by simpa using h
 simp[IP,IK h']
theorem DL(ns:List Int)(i:Nat)(x:Int):(li ns).set i (.int x)=li (ns.set i x):=by simp[List.map_set]
theorem dR(ns:List Int)(x:Int):li ns++[.int x]=li (ns++[x]):=by simp
theorem xq(n:Nat)(f:Nat->Int):(List.range n).map (λi=>PyData.int (f i))=li ((List.range n).map f):=by show _=List.map _ (List.map _ _);rw[Jq];rfl
theorem qU{i j:Int}(a:-18446744073709551616<i)(h1:i<18446744073709551616):ER i j:=.inl ⟨a,h1⟩
theorem zq{i j:Int}(a:-18446744073709551616<j)(h1:j<18446744073709551616):ER i j:=.inr ⟨a,h1⟩
@[irreducible] def dNx (u:DS):DS:=u
theorem zk(u:DS):dNx u=u:=by unfold dNx;rfl
theorem nx{u:DS}{DD:gx}{env:List Sl}(h:u DD env):dNx u DD env:=by rw[zk];exact h
theorem ai{X:Cx}{K:ca}{st:Stmt}{rest:List Stmt}{t u:DS}(h1:PS X st (upS K t))(h2:PSs X rest (upS K u)):PSs X (st::rest) (upS K (Ex t (dNx u))):=by rw[zk];exact bc h1 h2
theorem place{x:Int}{n:Nat}(h:0<n):∃a:Nat,x % (n:Int)=(a:Int)/\a<n:=by have b:=JU x (show(n:Int)≠0 by omega);have h1:=JH x (show(0:Int)<n by omega);exact⟨(x % (n:Int)).toNat,by omega,by omega⟩
mutual
def noL:ab->Bool
 | .none=>true
 | .bool _=>true
 | .int _=>true
 | .str _=>true
 | .tuple ds=>oG ds
 | _=>false
def oG:List ab->Bool
 | []=>true
 | d::ds=>noL d&&oG ds
end
section
variable {K:ca}{M P N:ap->Prop}{H0 H:Hp}{E T:List Ent}{σ0 σ:St}{env:List Sl}{ts tt:List (V×Sl)}{v:V}{s:Sl}{d:ab}
theorem DN.ot{v:V}{d:ab}(h:DN K N H v d):noL d=true->OT K N H v d [] :=
  DN.rec (motive_1:=λv d _=>noL d=true->OT K N H v d []) (motive_2:=λv d _=>oG d=true->OTs K N H v d [])
  (λ_=>.non) (λb _=>.bl b) (λi _=>.int i)
   (λx _=>.str x)
  (λ_ _ _ e=>by simp[noL] at e) (λh _ i e=>.tup h (i (by simpa[noL] using e)))
  (λ_ _ _ _ _ _ _ e=>by simp[noL] at e) (λ_ _ _ _ e=>by simp[noL] at e) (λ_ _ _ _ _ _ e=>by simp[noL] at e) (λ_ _ e=>by simp[noL] at e) (λ_=>.nil)
  (λ{_ _ d ds} _ _ i j e=>by
    have e:(noL d&&oG ds)=true:=e;rw[Jw] at e;exact .cons (S:=[]) (S':=[]) (i e.1) (j e.2)) h
theorem DNs.ots{v:List V}{d:List ab}(h:DNs K N H v d):oG d=true->OTs K N H v d []:=DNs.ind (C:=λv d=>oG d=true->OTs K N H v d []) (λ_=>.nil) (λ{_ _ d ds} h _ j e=>by
  have e:(noL d&&oG ds)=true:=e;rw[Jw] at e;exact .cons (S:=[]) (S':=[]) (h.ot e.1) (j e.2)) h
def fzs:List ab->Option (List ab)
 | []=>some []
 | .list l::ds=>(fzs ds).map (fzD l::·)
 | _::_=>none
theorem DNs.fzs:∀{vs:List V}{ds ds':List ab},DNs K N H vs ds->fzs ds=some ds'->OTs K N H vs ds' []
 | _,_,_,.nil,e=>by cases e;exact .nil
 | _, d::ds,_,.cons h q,e=>by
  cases d with
  | list l =>
   have e:(_L.fzs ds).map (fzD l::·)=some _:=e;cases e2:_L.fzs ds with
   | none=>rw[e2] at e;cases e
   | some ds2 =>
    rw[e2] at e;cases e;exact .cons (S:=[]) (S':=[]) (.fz h) (DNs.fzs q e2)
  | _=>cases e
def slF(s:Sl):Option ab:=match s with
 | .fr d=>if noL d=true then some d else none
 | _=>none
def eG(env:List Sl):Sl->Option ab
 | .fr d=>if noL d=true then some d else none
 | .ow ds=>if oG ds=true then some (.list ds) else (fzs ds).map .list
 | .tr _ d=>some d
 | .vw i=>(env[i]?).bind slF
 | _=>none
def bU(env:List Sl):List Sl->Option (List ab)
 | []=>some []
 | s::ss=>(eG env s).bind λd=>(bU env ss).bind λds=>some (d::ds)
theorem Rel.tree(h:Rel K M P H0 σ0 σ env ts H)(m:(v,s)∈ts)(e:eG env s=some d):OT K (Nw M (aw σ env ts)) H v d (cH (some v,s))/\∀a∈cH (some v,s),H0 a=none:=by
 have g:((some v,s):Ent)∈aw σ env ts:=cS m;cases s with
 | fr d' =>
  by_cases c:noL d'=true;have e:(if noL d'=true then some d' else none)=some d:=e;rw[if_pos c] at e;cases e;obtain⟨v',e1,dn⟩:=h.e.fr _ _ g;cases e1;rw[dy];exact⟨dn.ot c,λa j=>by cases j⟩;have e:(if noL d'=true then some d' else none)=some d:=e;rw[if_neg c] at e;cases e
 | ow ds =>
  have e:(if oG ds=true then some (PyData.list ds) else (fzs ds).map .list)=some d:=e;by_cases c:oG ds=true;rw[if_pos c] at e;cases e;obtain⟨a,vs,e1,e2,dn,f⟩:=h.e.ow _ _ g;cases e1;exact⟨.lst e2 (dn.ots c),λb k=>by rw[IG.mp k];exact f⟩;rw[if_neg c] at e;cases e3:fzs ds with
  | none=>rw[e3] at e;cases e
  | some ds' =>
   rw[e3] at e;cases e;obtain⟨a,vs,e1,e2,dn,f⟩:=h.e.ow _ _ g;cases e1;exact⟨.lst e2 (dn.fzs e3),λb k=>by rw[IG.mp k];exact f⟩
 | tr S d' =>
  cases e;obtain⟨v',e1,ot,f⟩:=h.e.tr _ _ _ g;cases e1;rw[aK];exact⟨ot,f⟩
 | vw i =>
  have e:(env[i]?).bind slF=some d:=e;cases q:env[i]? with
  | none=>rw[q] at e;cases e
  | some s' =>
   rw[q] at e;cases s' with
   | fr d' =>
    have e:(if noL d'=true then some d' else none)=some d:=e;by_cases c:noL d'=true;rw[if_pos c] at e;cases e;obtain⟨x,e1,m1⟩:=h.slot q;obtain⟨v',e2,dn⟩:=h.e.fr _ _ m1;have e3:=h.vw v i m;rw[e1,e2] at e3;cases e3;rw[iK];exact⟨dn.ot c,λa j=>by cases j⟩;rw[if_neg c] at e;cases e
   | _=>cases e
 | _=>cases e
theorem Rel.trees(h:Rel K M P H0 σ0 σ env ts H):∀{vs:List V}{ss:List Sl}{ds:List ab},vs.length=ss.length->(∀p∈vs.zip ss,p∈ts)->bU env ss=some ds->OTs K (Nw M (aw σ env ts)) H vs ds (oas (tmp (vs.zip ss)))/\∀a∈oas (tmp (vs.zip ss)),H0 a=none
 | [],[],_,_,_,e=>by cases e;exact⟨.nil,λa b=>by cases b⟩
 | v :: vs,s::ss,ds,hl,c,e=>by
  unfold bU at e;cases e1:eG env s with
  | none=>rw[e1] at e;cases e
  | some d =>
   rw[e1] at e;cases e2:bU env ss with
   | none=>rw[e2] at e;cases e
   | some ds' =>
    rw[e2] at e;cases e;obtain⟨a1,a2⟩:=h.tree (v:=v) (c (v,s) (by simp)) e1;obtain⟨f,g⟩:=h.trees (vs:=vs) (ss:=ss) (by simpa using hl) (λp i=>c p (by simp[i])) e2;have j:oas (tmp ((v::vs).zip (s::ss)))=cH (some v,s)++oas (tmp (vs.zip ss)):=aj _ _;rw[j];exact⟨.cons a1 f,λa b=>(II.mp b).elim (a2 a) (g a)⟩
 | [],_::_,_,hl,_,_=>by simp at hl
 | _::_,[],_,hl,_,_=>by simp at hl
theorem aU.fold(h:aU K M P H0 (E++T) H)(ot:OT K (Nw M (E++T)) H v d (oas T))(e:∀a∈oas T,H0 a=none):aU K M P H0 (E++[(some v,.tr (oas T) d)]) H:=by
 have c:oas (E++[(some v,Sl.tr (oas T) d)])=oas (E++T):=by rw[ah,ah,aj,aK];simp[oas]
 have ne:Nw M (E++[(some v,Sl.tr (oas T) d)])=Nw M (E++T):=by unfold Nw;rw[c]
 have b:∀x s,(x,s)∈E++[(some v,Sl.tr (oas T) d)]->(x,s)∈E++T\/(x,s)=(some v,Sl.tr (oas T) d):=λx s m=>by
  rcases II.mp m with m|m;exact .inl (IJ _ m);exact .inr (IG.mp m)
 refine⟨h.keep,h.live,h.mt,h.pm,λx d' m=>?_,λx d' m=>?_,λx d' m=>?_,λx S d' m=>?_,by rw[c];exact h.nd⟩;rw[ne];rcases b _ _ m with m|m;exact h.fr x d' m;cases m;rw[ne];rcases b _ _ m with m|m;exact h.ow x d' m;cases m;rw[ne];rcases b _ _ m with m|m;exact h.io x d' m;cases m;rw[ne];rcases b _ _ m with m|m;exact h.tr x S d' m;cases m;exact⟨v,rfl,ot,e⟩
theorem uk{p:ap}{o:HO}{vs:List V}{ds:List ab}{S:List ap}(q:OTs K N H vs ds S)(b:H p=none):OTs K N (upd H p o) vs ds S:=q.keep (aO.same (aS.new b)) λa c=>by
 obtain⟨xs,z⟩:=q.lives a c;rw[aS.new b _ _ z,z]
theorem Rel.resTupT(h:Rel K M P H0 σ0 σ env (ts++tt) H){p:ap}{vs:List V}{ds:List ab}(b:H p=none)(q:OTs K (Nw M (aw σ env (ts++tt))) H vs ds (oas (tmp tt)))(f:∀a∈oas (tmp tt),H0 a=none) :
  Rel K M P H0 σ0 σ env (ts++[(.ref p,.tr (oas (tmp tt)) (.tuple ds))]) (upd H p (.tup vs)):=by have c:=h.newAddr b;have h':=h.same (aS.new (o:=.tup vs) b);have d:=h'.e;rw[ar] at d q c;refine h'.drop.withRes (d.fold (.tup (SnT.of aq c) (uk q b)) f) rfl
theorem aU.foldL(h:aU K M P H0 (E++T) H){p:ap}{vs:List V}{ds:List ab}(c:H p=none)(q:OTs K (Nw M (E++T)) H vs ds (oas T))(k:∀a∈oas T,H0 a=none):aU K M P H0 (E++[(some (.ref p),.tr (p::oas T) (.list ds))]) (upd H p (.lst vs)):=by
 have j:oas (E++[(some (.ref p),Sl.tr (p::oas T) (.list ds))])=oas E++p::oas T:=by rw[ah,aj,aK];simp[oas]
 have i:p ∉ oas (E++T):=λz=>by
  obtain⟨vs',q,_⟩:=h.own z;rw[c] at q;cases q
 have l:H0 p=none:=by
  cases e:H0 p with
  | none=>rfl
  | some o=>exact absurd c (h.live p (by rw[e];simp))
 have up:∀b o,H b=some o->Nw M (E++[(some (.ref p),Sl.tr (p::oas T) (.list ds))]) b->Nw M (E++T) b:=λb o e z=>by
  rcases z with z|z;exact .inl z;rw[j] at z;rcases II.mp z with z|z;exact .inr (by rw[ah];exact IJ _ z);rcases IR.mp z with z|z;rw[z,c] at e;cases e;exact .inr (by rw[ah];exact IE _ z)
 have d:∀x s,(x,s)∈E++[(some (.ref p),Sl.tr (p::oas T) (.list ds))]->(x,s)∈E++T\/(x,s)=(some (.ref p),Sl.tr (p::oas T) (.list ds)):=λx s m=>by
  rcases II.mp m with m|m;exact .inl (IJ _ m);exact .inr (IG.mp m)
 have h':=h.same (aS.new (o:=.lst vs) c);refine⟨h'.keep,h'.live,h.mt,h.pm,λx d' m=>?_,λx d' m=>?_,λx d' m=>?_,λx S d' m=>?_,?_⟩;rcases d _ _ m with m|m;obtain⟨v,e,dn⟩:=h.fr x d' m;exact⟨v,e,(dn.to up).keep (aO.same (aS.new c))⟩;cases m;rcases d _ _ m with m|m;obtain⟨a,ws,e,e2,dn,r⟩:=h.ow x d' m;exact⟨a,ws,e,aS.new c _ _ e2,(dn.to up).keep (aO.same (aS.new c)),r⟩;cases m;rcases d _ _ m with m|m;obtain⟨a,ws,e,e2,dn,r⟩:=h.io x d' m;exact⟨a,ws,e,aS.new c _ _ e2,(dn.to up).keep (aO.same (aS.new c)),r⟩;cases m;rcases d _ _ m with m|m;obtain⟨v,e,dn,r⟩:=h.tr x S d' m;exact⟨v,e,(dn.to up).keep (aO.same (aS.new c)) λa f=>by
  obtain⟨xs,z⟩:=dn.lives a f;rw[aS.new c _ _ z,z],r⟩
 cases m;exact⟨_,rfl,.lst aq (uk (q.to up) c),λa f=>(IR.mp f).elim (λz=>by rw[z];exact l) (k a)⟩;rw[j];have nd:=h.nd;rw[ah] at nd i;obtain⟨n,t,u⟩:=IT.mp nd;refine IT.mpr ⟨n,Jr.mpr ⟨λz=>i (IE _ z),t⟩,λa f b g z=>?_⟩;rcases IR.mp g with g|g;rw[g] at z;exact i (IJ _ (z▸f));exact u a f b g z
theorem Rel.resLstT(h:Rel K M P H0 σ0 σ env (ts++tt) H){p:ap}{vs:List V}{ds:List ab}(c:H p=none)(q:OTs K (Nw M (aw σ env (ts++tt))) H vs ds (oas (tmp tt)))(d:∀a∈oas (tmp tt),H0 a=none) :
  Rel K M P H0 σ0 σ env (ts++[(.ref p,.tr (p::oas (tmp tt)) (.list ds))]) (upd H p (.lst vs)):=by have b:=h.e;rw[ar] at b q;exact h.drop.withRes (b.foldL c q d) rfl
end
section
variable {X:Cx}{K:ca}{pos:Pos}{es:List bb}{tl:DA}
def BM(t:DA):DE:=λenv R=>t env λss a=>∃ds,bU a ss=some ds/\ss.length<=sizeLine/\∀S,R (.tr S (.tuple ds)) a
theorem yG{x1}(h:PA X es (upA K tl)):PE X (.Tuple es x1 pos) (up K (BM tl)):=(yM h).imp λσ H Q h=>by
 obtain⟨M,P,H0,σ0,env,ts,R,b,ht,f⟩:=h;refine⟨M,P,H0,σ0,env,ts,_,b,ht,λss d vs H1 h1 hl a=>?_⟩;obtain⟨ds,e,hz,g⟩:=h1;obtain⟨q,i⟩:=a.trees hl (λp c=>IE _ c) e;exact⟨by omega,λp c=>f _ _ _ _ (g _) (a.resTupT c q i)⟩
end
section
variable {K:ca}{M P:ap->Prop}{H0 H:Hp}{E:List Ent}{σ0 σ:St}{env:List Sl}{ts:List (V×Sl)}{v:V}{s:Sl}{d:ab}
theorem xa{E E':List Ent}(p:E'.Perm E):(oas E').Perm (oas E):=List.Perm.flatMap_right _ p
theorem aU.perm(h:aU K M P H0 E H){E':List Ent}(p:E'.Perm E):aU K M P H0 E' H:=h.sub (λx s m=>.inl (p.mem_iff.mp m)) ((xa p).nodup_iff.mpr h.nd)
theorem Rel.perm(h:Rel K M P H0 σ0 σ env ts H){a:List (V×Sl)}(p:a.Perm ts):Rel K M P H0 σ0 σ env a H :=
 ⟨h.e.perm (List.Perm.append_left _ (p.map _)),h.len,λv i m=>h.vw v i (p.mem_iff.mp m),h.ios⟩
theorem k4{env env':List Sl}{s:Sl}(h:ji s=true):eG env s=eG env' s:=by cases s <;> first|rfl|cases h
theorem fW{env env':List Sl}:∀{ss:List Sl},(∀s∈ss,ji s=true)->bU env ss=bU env' ss
 | [],_=>rfl
 | s::ss,h=>by
  unfold bU;rw[k4 (env':=env') (h s IL),fW λx hx=>h x (IM _ hx)]
theorem jo{env:List Sl}{d:ab}{s:Sl}(e:eG env s=some d):∀{ss:List Sl}{ds:List ab},bU env ss=some ds->bU env (ss++[s])=some (ds++[d])
 | [],ds,h=>by
  cases h;show(eG env s).bind _=_;rw[e];rfl
 | z :: ss,ds,h=>by
  unfold bU at h;cases e1:eG env z with
  | none=>rw[e1] at h;cases h
  | some d1 =>
   rw[e1] at h;cases e2:bU env ss with
   | none=>rw[e2] at h;cases h
   | some ds' =>
    rw[e2] at h;cases h;show(eG env z).bind _=_;rw[e1];show(bU env (ss++[s])).bind _=_;rw[jo e e2];rfl
end
def CDT(ds:List ab)(ix:List (Option Nat))(g:DG)(tt:DT)(te:DE)(env:List Sl)(R:Sl->List Sl->Prop):Prop:=∃W:Nat->List ab->Prop,W 0 [] /\
 (∀i rs,(h:i<ds.length)->W i rs->rs.length<sizeLine/\g ds[i] (fm ix env) λa=>tt a λk b=>if k=true then te b λs c=>∃s' d,gP c s=some s'/\eG [] s'=some d/\W (i+1) (rs++[d]) else W (i+1) rs)/\∀rs,W ds.length rs->∀S,R (.tr S (.list rs)) env
def qN(it:DI)(ix:List (Option Nat))(g:DG)(tt:DT)(te:DE):DE:=λenv R=>it env λds a=>CDT ds ix g tt te a (dK R ⟨⟩)
section
variable {K:ca}
theorem x8{it:DI}{ix:List (Option Nat)}{g:DG}{tt:DT}{te:DE}:∀σ H Q,up K (qN it ix g tt te) σ H Q->sR (upI K it) ix (upG K g) (upT K tt) (up K te) σ H Q:=λσ H Q h=>by
 obtain⟨M,P,H0,σ0,env,ts,R,I,ht,Z⟩:=h;refine⟨M,P,H0,σ0,env,ts,_,I,ht,λds a J H1 kp hF r io=>?_⟩;obtain⟨W,w0,turn,done⟩:=hF
 let S:Nat->List V->Hp->Prop:=λi ys H=>∃rs ss,W i rs/\ys.length=ss.length/\(∀s∈ss,ji s=true)/\bU [] ss=some rs/\Rel K M P H0 σ0 σ a ((ts++ys.zip ss)++kp) H
 refine⟨λi m ys H=>m=ds.length - i/\i<=ds.length/\S i ys H,⟨_,rfl,Jb _,[],[],w0,rfl,λs hs=>(by cases hs),rfl,by simpa using r⟩,?_⟩;rintro i m ys H2 ⟨rfl,a4,rs,ss,U,hl,G,k,f⟩;have rl:ys.length=rs.length:=by obtain⟨q,_⟩:=f.trees hl (λp u=>IJ _ (IE _ u)) ((fW G).trans k);exact q.len
 by_cases l:i<ds.length;obtain⟨hz,tr⟩:=turn i rs l U;refine .inr ⟨io.go f i l,by rw[rl];exact hz,λA H'=>S (i+1) A H',λA H' z=>⟨ds.length - (i+1),by omega,rfl,l,z⟩,λx B y=>?_⟩;obtain⟨sm,dn⟩:=io.yld f i x B l y;have c:=f.same sm;have rb:=o5 (ix:=ix) c;have oe:=kH (ix:=ix) c;have nb:∀b,Nw (Nw M (aw σ a ((ts++ys.zip ss)++kp))) (aw (c5 σ ix) (fm ix a) []) b->Nw M (aw σ a ((ts++ys.zip ss)++kp)) b:=λb z=>by
  rcases z with z|z;exact z;have ee:aw (c5 σ ix) (fm ix a) []=(c5 σ ix).zip (fm ix a):=by simp[aw,tmp]
  rw[ee,oe] at z;cases z
 refine⟨_,_,_,_,fm ix a,[],ds[i],_,λw i m=>(by cases m),rb,dn.to λb _ _ z=>nb b z,tr,λC b1 H4 h4 D=>?_⟩;refine⟨_,_,_,_,b1,[],_,D,h4,λkk b2 H5 X n=>?_⟩;cases kk with
 | false =>
  have k5:aS B H5:=(n.e.keep.mono (M:=N0) λb z=>z).none;exact⟨rs,ss,X,hl,G,k,c.same k5⟩
 | true =>
  refine⟨_,_,_,_,b2,[],_,n,X,λs Y v L h6 o=>?_⟩;obtain⟨s',d,es,td,w6⟩:=h6;have k6:aS B L:=(o.e.keep.mono (M:=N0) λb z=>z).none;obtain⟨E,N⟩:=o.unVw (ts:=[]) es;have rk:cI K (Nw M (aw σ a ((ts++ys.zip ss)++kp))) B L v s':=by
   have O:=E.e;rw[show aw C Y ([]++[(v,s')])=aw C Y []++tmp [(v,s')] from ar] at O;have e8:aU K _ _ B [(some v,s')] L:=O.sub (λx t m=>.inl (IE _ m)) (by
    have nd:=O.nd;rw[ah] at nd;exact(IT.mp nd).2.1)
   exact aU.resOk (T:=[]) e8 N
  have F:=c.withRes (c.e.called k6 rk) N;refine⟨rs++[d],ss++[s'],w6,by simp[hl],λt j=>?_,jo td k,?_⟩;rcases II.mp j with j|j;exact G t j;rw[IG.mp j];exact N;rw[List.zip_append hl];refine F.perm ?_;have:ts++(ys.zip ss++[v].zip [s'])++kp=(ts++ys.zip ss)++([(v,s')]++kp):=by simp
  rw[this];have e9:ts++ys.zip ss++kp++[(v,s')]=(ts++ys.zip ss)++(kp++[(v,s')]):=by simp
  rw[e9];exact List.Perm.append_left _ List.perm_append_comm
 ·have e:i=ds.length:=by omega
  subst e;refine .inl ⟨io.stop f,λp u=>?_⟩;have c:=f.drop;obtain⟨q,h0⟩:=c.trees hl (λp u=>IE _ u) ((fW G).trans k);exact Z _ _ _ _ (done _ U _) (c.resLstT u q h0)
section
variable {X:Cx}{pos:Pos}{N':List bx}{ix:List (Option Nat)}{it:DI}{g:DG}{tt:DT}{te:DE}{tg iter elt:bb}{ifs:List bb}
theorem Aq{sc}(hc:X.calm=true)(S:cF X.N X.env N' ix sc)(hi:PI X tg iter (upI K it))
  (hg:∀s H C fp,PG (bCx X N' sc s H C fp) tg (upG K g)) (ht:∀s H C fp,PIf (bCx X N' sc s H C fp) ifs (upT K tt)) (a:∀s H C fp,PE (bCx X N' sc s H C fp) elt (up K te))
  (hs:∀x,KC iter X.env x=pure x:=by intro _;rfl):PE X (.ListComp elt [⟨tg,iter,ifs,0⟩] sc pos) (up K (qN it ix g tt te)):=(oq hc S hi hg ht a hs).imp x8
end
end
def Cp:Sl->Option ab
 | .fr d=>some d
 | .ow ds=>some (.list ds)
 | .io ds=>some (.list ds)
 | .tr _ d=>some d
 | _=>none
def vE(env:List Sl):Sl->Option ab
 | .vw i=>(env[i]?).bind Cp
 | .fr d=>some d
 | .ow ds=>some (.list ds)
 | .tr _ d=>some d
 | _=>none
def i5(env:List Sl):List Sl->Option (List ab)
 | []=>some []
 | s::ss=>(vE env s).bind λd=>(i5 env ss).bind λds=>some (d::ds)
def atom:ab->Bool
 | .none=>true
 | .bool _=>true
 | .int _=>true
 | .str _=>true
 | _=>false
section
variable {K:ca}{M P N:ap->Prop}{H0 H:Hp}{E:List Ent}{σ0 σ:St}{env:List Sl}{ts:List (V×Sl)}{v:V}{s:Sl}{d:ab}
theorem DN.atom{a:ap->Prop}{c:Hp}(h:DN K N H v d)(e:atom d=true):DN K a c v d:=by
 cases h with
 | non=>exact .non
 | bl b=>exact .bl b
 | int i=>exact .int i
 | str x=>exact .str x
 | lst _ _=>cases e
 | tup _ _=>cases e
 | dct _ _ _ _ _=>cases e
 | idc _ _ _=>cases e
 | dsk _ _ _ _ _=>cases e
 | fz _=>cases e
theorem aU.lent{x:Option V}(h:aU K M P H0 E H)(m:(x,s)∈E)(e:Cp s=some d):∃v,x=some v/\DN K N0 H v d:=by
 cases s with
 | fr d'=>cases e;obtain⟨v,e1,dn⟩:=h.fr _ _ m;exact⟨v,e1,dn.to λb _ _ z=>z.elim⟩
 | ow ds=>cases e;obtain⟨a,vs,e1,e2,dn,_⟩:=h.ow _ _ m;exact⟨_,e1,.lst (SnL.of e2 λz=>z) (dn.to λb _ _ z=>z.elim)⟩
 | io ds=>cases e;obtain⟨a,vs,e1,e2,dn,_⟩:=h.io _ _ m;exact⟨_,e1,.lst (SnL.of e2 λz=>z) (dn.to λb _ _ z=>z.elim)⟩
 | tr S d'=>cases e;obtain⟨v,e1,ot,_⟩:=h.tr _ _ _ m;exact⟨v,e1,ot.dn (λb z=>z.elim) λa _ z=>z⟩
 | _=>cases e
theorem Rel.lentAt(h:Rel K M P H0 σ0 σ env ts H){i:Nat}(e:(env[i]?).bind Cp=some d):∃v,σ[i]? = some (some v)/\DN K N0 H v d:=by
 cases q:env[i]? with
 | none=>rw[q] at e;cases e
 | some s =>
  rw[q] at e;obtain⟨x,e1,m⟩:=h.slot q;obtain⟨v,e2,w⟩:=h.e.lent m e;exact⟨v,by rw[e1,e2],w⟩
theorem Rel.lent(h:Rel K M P H0 σ0 σ env ts H)(m:(v,s)∈ts)(e:vE env s=some d):DN K N0 H v d:=by
 cases s with
 | vw i =>
  obtain⟨w,e1,q⟩:=h.lentAt e;rw[h.vw v i m] at e1;cases e1;exact q
 | fr d'=>obtain⟨w,e1,q⟩:=h.e.lent (s:=.fr d') (cS m) e;cases e1;exact q
 | ow d'=>obtain⟨w,e1,q⟩:=h.e.lent (s:=.ow d') (cS m) e;cases e1;exact q
 | tr S d'=>obtain⟨w,e1,q⟩:=h.e.lent (s:=.tr S d') (cS m) e;cases e1;exact q
 | _=>cases e
theorem Rel.lents(h:Rel K M P H0 σ0 σ env ts H):∀{vs:List V}{ss:List Sl}{ds:List ab},vs.length=ss.length->(∀p∈vs.zip ss,p∈ts)->i5 env ss=some ds->DNs K N0 H vs ds
 | [],[],_,_,_,e=>by cases e;exact .nil
 | v :: vs,s::ss,ds,hl,a,e=>by
  unfold i5 at e;cases e1:vE env s with
  | none=>rw[e1] at e;cases e
  | some d =>
   rw[e1] at e;cases e2:i5 env ss with
   | none=>rw[e2] at e;cases e
   | some ds' =>
    rw[e2] at e;cases e;exact .cons (h.lent (a (v,s) (by simp)) e1) (h.lents (by simpa using hl) (λp b=>a p (by simp[b])) e2)
 | [],_::_,_,hl,_,_=>by simp at hl
 | _::_,[],_,hl,_,_=>by simp at hl
end
section
variable {X:Cx}{K:ca}{pos p:Pos}{tl:DA}{sp:DSp}{x:bx}{k:Nat}{e:bb}{es:List bb}
def GD(i:Nat):DE:=λenv R=>∃d,(env[i]?).bind Cp=some d/\R (.vw i) env
theorem FP(i:Nat){x:bx}(hN:X.N[i]? = some x:=by rfl)(hv:Vis X.env.scope x:=by first|exact Or.inl rfl|exact Or.inr cc|exact Or.inr (Or.inr rfl))(hd:(x==("__debug__" : bx))=false:=by decide)
  (b:(x==("__classdict__" : bx))=false:=by decide):PE X (.Name x pos) (up K (GD i)):=(bu hN hv hd b).imp λσ H Q h=>by
 obtain⟨M,P,H0,σ0,env,ts,R,a,⟨d,e,c⟩,f⟩:=h;obtain⟨v,e1,_⟩:=a.lentAt e;exact⟨v,e1,f _ _ _ _ c (a.addVw e1)⟩
def qQ(sp:DSp)(t:DA):DE:=λenv R=>t env λss a=>∃ds,i5 a ss=some ds/\sp (ds.map .fr) (dK (λr _=>∃d,r=.fr d/\atom d=true/\R (.fr d) a) ⟨⟩)
theorem yf:∀σ H Q,up K (qQ sp tl) σ H Q->nq (spD K sp) [] E0 (upA K tl) σ H Q:=λσ H Q h=>by
 obtain⟨M,P,H0,σ0,env,ts,R,g,ht,m⟩:=h;refine⟨M,P,H0,σ0,env,ts,_,g,ht,λss l vs H1 h1 hl c=>?_⟩;obtain⟨ds,n,i⟩:=h1;rw[Jh];have f:=c.lents hl (λp o=>IE _ o) n;have q:=fN vs ds;refine⟨N0,ds.map .fr,_,by simp[f.len],mZ f λa z=>z.elim,i,λr s v H' j u e=>?_⟩;obtain⟨d,rfl,t,j⟩:=j;have k:aS H1 H':=(e.keep.mono (M:=N0) λb z=>by
  have z:b∈oas (tmp (vs.zip (ds.map .fr))):=z;rw[q] at z;cases z).none
 obtain⟨w,e1,dn⟩:=e.fr _ _ IL;cases e1;exact m _ _ _ _ j ((c.drop.same k).addFr (dn.atom t))
theorem As(C:Cal X.prog X.w X.K X.mg X.base x k (spD K sp))(b:b9 k X.A)(hg:Gl X x)(c:PA X (e::es) (upA K tl))(hd:(x==("__debug__" : bx))=false:=by decide)
  (d:kq (e::es) X.env=(false,eval e X.env)::kq es X.env:=by rfl) (a:(ze pos (kq es X.env)).any (·.1)=false:=by rfl):PE X (.Call (.Name x p) (e::es) [] pos) (up K (qQ sp tl)):=(lG C b hg c hd d a).imp yf
end
def yQ(n:ab):List Nat->ab->ab
 | [],_=>n
 | i::p,.list ds=>.list (match ds[i]? with|some c=>ds.set i (yQ n p c)|none=>ds)
 | i::p,.tuple ds=>.tuple (match ds[i]? with|some c=>ds.set i (yQ n p c)|none=>ds)
 | _::_,d=>d
inductive vM (K:ca) (H:Hp):V->List Nat->V->Prop
 | nil {v:V}:vM K H v [] v
 | cons {b:ap}{xs:List V}{i:Nat}{x u:V}{p:List Nat}:(SqL K H b xs\/SqT K H b xs)->xs[i]? = some x->vM K H x p u->vM K H (.ref b) (i::p) u
section
variable {K:ca}{N:ap->Prop}{H:Hp}
def zF(K:ca)(N:ap->Prop)(H:Hp)(v:V)(p:List Nat)(d:ab)(S:List ap)(ds:List ab):Prop:=∃a us,vM K H v p (.ref a)/\H a=some (.lst us)/\a∈S/\us.length=ds.length /\
  ∀{N1:ap->Prop}{H1:Hp}{w:V}{e:ab}{c:List ap},(∀b o,H b=some o->N1 b->N b)->aS H H1->N1 a->OT K N1 (upd H1 a (.lst (us++[w]))) w e c->∃S',S'.Perm (S++c)/\OT K N1 (upd H1 a (.lst (us++[w]))) v (yQ (.list (ds++[e])) p d) S'
theorem OT.path0{v:V}{S:List ap}{ds:List ab}(o:OT K N H v (.list ds) S)(nd:S.Nodup):zF K N H v [] (.list ds) S ds:=by
 cases o with
 | @lst a us _ c g q =>
  refine⟨a,us,.nil,g,IL,q.len,λ{N1 H1 w e h} m d na i=>?_⟩;obtain⟨j,l⟩:=Jr.mp nd;have k:OTs K N1 (upd H1 a (.lst (us++[w]))) us ds c:=(q.to m).keep ((aO.same d).trans (aO.own na)) λb f=>by
   obtain⟨xs,z⟩:=q.lives b f;have nb:b≠a:=λz=>j (z▸f);rw[al nb,d _ _ z,z]
  exact⟨a::(c++(h++[])),by simp,.lst aq (k.app (.cons i .nil))⟩
end
section
variable {K:ca}{M P:ap->Prop}{H0 H:Hp}{T A B:List Ent}{v:V}{d:ab}
theorem aU.appAtU{U:List Ent}{i:Hp}{S:List ap}{p:List Nat}{ds:List ab}(I:aU K M P H0 (A++(some v,.tr S d)::(B++U)) i)(Q:OT K (Nw M (A++(some v,.tr S d)::(B++U))) i v d S->S.Nodup->zF K (Nw M (A++(some v,.tr S d)::(B++U))) i v p d S ds):∃a us,vM K i v p (.ref a)/\i a=some (.lst us)/\us.length=ds.length /\
  ∀{T:List Ent}{H:Hp}{w:V}{e:ab},aS i H->(∀a∈oas T,i a=none\/a∈oas U)->aU K M P H0 (A++(some v,.tr S d)::(B++T)) H->OT K (Nw M (A++(some v,.tr S d)::(B++T))) H w e (oas T)->(∀a∈oas T,H0 a=none)->∃S',aU K M P H0 (A++(some v,.tr S' (yQ (.list (ds++[e])) p d))::B) (upd H a (.lst (us++[w]))):=by
 obtain⟨v',ev,ot,J⟩:=I.tr _ _ _ (IE _ IL);cases ev;have k:=I.nd;have l:oas (A++(some v,Sl.tr S d)::(B++U))=oas A++(S++(oas B++oas U)):=by rw[ah,aj,aK,ah]
 rw[l] at k;obtain⟨a,us,r,R,n,hl,g⟩:=Q ot (IT.mp (IT.mp k).2.1).1;refine⟨a,us,r,R,hl,λ{T H w e} W X h E Y=>?_⟩;have D:oas (A++(some v,Sl.tr S d)::(B++T))=oas A++(S++(oas B++oas T)):=by rw[ah,aj,aK,ah]
 have nd:=h.nd;rw[D] at nd;obtain⟨n1,Z,n3⟩:=IT.mp nd;obtain⟨n4,n5,L⟩:=IT.mp Z;obtain⟨n7,n8,n9⟩:=IT.mp n5;have na:Nw M (A++(some v,Sl.tr S d)::(B++T)) a:=.inr (by rw[D];exact IE _ (IJ _ n));have mm:∀b o,i b=some o->Nw M (A++(some v,Sl.tr S d)::(B++T)) b->Nw M (A++(some v,Sl.tr S d)::(B++U)) b:=λb o N z=>by
  rcases z with z|z;exact .inl z;rw[D] at z;refine .inr ?_;rw[l];rcases II.mp z with z|z;exact IJ _ z;rcases II.mp z with z|z;exact IE _ (IJ _ z);rcases II.mp z with z|z;exact IE _ (IE _ (IJ _ z));rcases X b z with nb|nb;rw[nb] at N;cases N;exact IE _ (IE _ (IE _ nb))
 have s:aO (Nw M (A++(some v,Sl.tr S d)::(B++T))) H (upd H a (.lst (us++[w]))):=aO.own na;have F:=E.keep s λb j=>al λz=>L a n b (IE _ j) z.symm;obtain⟨S',pm,G⟩:=g mm W na F;refine⟨S',?_⟩;have u:oas (A++(some v,Sl.tr S' (yQ (.list (ds++[e])) p d))::B)=oas A++(S'++oas B):=by rw[ah,aj,aK]
 have y:(oas A++(S'++oas B)).Perm (oas A++(S++(oas B++oas T))):=by refine List.Perm.append_left _ ((List.Perm.append_right _ pm).trans ?_);rw[JE];exact List.Perm.append_left _ List.perm_append_comm
 have ne:Nw M (A++(some v,Sl.tr S' (yQ (.list (ds++[e])) p d))::B)=Nw M (A++(some v,Sl.tr S d)::(B++T)):=by funext b;apply propext;unfold Nw;rw[D,u,y.mem_iff]
 have c:∀x t,(x,t)∈A\/(x,t)∈B->(x,t)∈A++(some v,Sl.tr S d)::(B++T):=λx t m=>by
  rcases m with m|m;exact IJ _ m;exact IE _ (IM _ (IJ _ m))
 have f:∀x t,(x,t)∈A++(some v,Sl.tr S' (yQ (.list (ds++[e])) p d))::B->(x,t)=(some v,Sl.tr S' (yQ (.list (ds++[e])) p d))\/((x,t)∈A\/(x,t)∈B):=λx t m=>by
  rcases II.mp m with m|m;exact .inr (.inl m);rcases IR.mp m with m|m;exact .inl m;exact .inr (.inr m)
 have other:∀x t b,(x,t)∈A\/(x,t)∈B->b∈cH (x,t)->b≠a:=λx t b m O z=>by
  subst z;rcases m with m|m;exact n3 b (aT.mpr ⟨_,m,O⟩) b (IJ _ n) rfl;exact L b n b (IJ _ (aT.mpr ⟨_,m,O⟩)) rfl
 refine⟨h.keep.put (J a n),λb q z=>?_,h.mt,h.pm,λx d' m=>?_,λx d' m=>?_,λx d' m=>?_,λx S2 d' m=>?_,?_⟩;by_cases j:b=a;subst j;rw[aq] at z;cases z;rw[al j] at z;exact h.live b q z;rw[ne];rcases f _ _ m with m|m;cases m;obtain⟨w',e1,dn⟩:=h.fr x d' (c _ _ m);exact⟨w',e1,dn.keep s⟩;rw[ne];rcases f _ _ m with m|m;cases m;obtain⟨b,us2,e1,e2,dn,C⟩:=h.ow x d' (c _ _ m);subst e1;exact⟨b,us2,rfl,by rw[al (other _ _ b m (IG.mpr rfl))];exact e2,dn.keep s,C⟩;rw[ne];rcases f _ _ m with m|m;cases m;obtain⟨b,us2,e1,e2,dn,C⟩:=h.io x d' (c _ _ m);subst e1;exact⟨b,us2,rfl,by rw[al (other _ _ b m (IG.mpr rfl))];exact e2,dn.keep s,C⟩;rw[ne];rcases f _ _ m with m|m;cases m;refine⟨v,rfl,G,λb j=>?_⟩;rcases II.mp (pm.mem_iff.mp j) with z|z;exact J b z;exact Y b z;obtain⟨w',e1,dn,C⟩:=h.tr x S2 d' (c _ _ m);subst e1;exact⟨w',rfl,dn.keep s λb j=>al (other _ _ b m (by rw[aK];exact j)),C⟩;rw[u];exact y.nodup_iff.mpr nd
end
section
variable {K:ca}{M P:ap->Prop}{H0 H H':Hp}{σ0 σ:St}{env:List Sl}{ts:List (V×Sl)}
theorem Rel.setTr{i:Nat}{S S':List ap}{d d':ab}{v:V}{A B:List Ent}(h:Rel K M P H0 σ0 σ env ts H)(e:env[i]? = some (.tr S d))(a:aw σ (env.set i (.tr S' d')) ts=A++(some v,.tr S' d')::B)(b:aU K M P H0 (A++(some v,.tr S' d')::B) H'):Rel K M P H0 σ0 σ (env.set i (.tr S' d')) ts H':=by refine⟨by rw[a];exact b,by simp[h.len],h.vw,λj ds' e'=>?_⟩;by_cases hj:i=j;subst hj;have hi:i<env.length:=(IN.mp e).1;rw[Jc hi] at e';cases e';rw[Je hj] at e';exact h.ios j ds' e'
end
theorem lY(ns:List Int):oG (ns.map PyData.int)=true:=by
 induction ns with
 | nil=>rfl
 | cons n ns a=>exact a
theorem B3{ds:List ab}{ix:List (Option Nat)}{g:DG}{te:DE}{env:List Sl}{R:Sl->List Sl->Prop}(f:Nat->ab)(hz:ds.length<=1000000)
  (h : ∀i,(h:i<ds.length)->∀Q:ab->Prop,Q (f i)->g ds[i] (fm ix env) λa=>te a λs b=>∃s' d,gP b s=some s'/\eG [] s'=some d/\Q d) (c:∀S,R (.tr S (.list ((List.range ds.length).map f))) env):CDT ds ix g xX te env R:=by refine⟨λi rs=>rs=(List.range i).map f/\i<=ds.length,⟨rfl,Jb _⟩,λi rs hi w=>?_,λrs w S=>by rw[w.1];exact c S⟩;obtain⟨rfl,_⟩:=w;refine⟨by rw[IF,Jl];exact IY (by omega) ae,?_⟩;have:=h i hi (λd=>(List.range i).map f++[d]=(List.range (i+1)).map f/\i+1<=ds.length) ⟨by rw[J6,Jm];rfl,hi⟩;simpa only[xX,if_true] using this
theorem jy{α:Type}(l:List α)(z:α):(List.range l.length).map (λi=>l.getD i z)=l:=by refine JJ (by simp) λi h1 h2=>?_;simp[IP,IK h2]
theorem bO{α β:Type}(l:List α)(z:α)(g:α->β):(List.range l.length).map (λi=>g (l.getD i z))=l.map g:=by
 conv=>rhs;rw[<-jy l z,Jq]
 rfl
theorem dw{α β:Type}(l:List α)(z:α)(p:α->Bool)(g:α->β):((List.range l.length).filter λi=>p (l.getD i z)).map (λi=>g (l.getD i z))=(l.filter p).map g:=by
 conv=>rhs;rw[<-jy l z,List.filter_map,Jq]
 rfl
abbrev lr(rs:List (List Int)):List ab:=rs.map λr=>.list (li r)
theorem gJ{rs:List (List Int)}{i:Nat}{h:i<(lr rs).length}:(lr rs)[i]=.list (li (rs.getD i [])):=by
 have h':i<rs.length:=by simpa using h
 rw[Jn,IP,IK h'];rfl
theorem Sh.lr(n:Nat)(rs:List (List Int)):Sh (n+2) (.list (lr rs)):=Sh.list λx hx=>by
 obtain⟨r,_,rfl⟩:=IZ.mp hx;exact Sh.ints n r
theorem Sh.two{n:Nat}{a b:ab}(c:Sh n a)(d:Sh n b):Sh (n+1) (.tuple [a,b]):=Sh.tuple λx hx=>by
 simp only[IR,Jk,or_false] at hx;rcases hx with rfl|rfl <;> assumption
theorem qy{d:ab}{n:Nat}(h:Sh n d)(hn:n<=64):PyData.eqv d d=true:=SeqAt.eqv_refl _ (SeqAt.canLay_of_shaped (h.shp hn))
section
variable {X:Cx}{K:ca}{pos:Pos}{es:List bb}{tl:DA}{e:bb}{ta:DE}{M P N:ap->Prop}{H0 H:Hp}{σ0 σ:St}{env:List Sl}{ts:List (V×Sl)}
def BR(t:DA):DE:=λenv R=>t env λss a=>∃ds,bU a ss=some ds/\ss.length<=sizeLine/\∀S,R (.tr S (.list ds)) a
theorem yH(h:PA X es (upA K tl)):PE X (.List es pos) (up K (BR tl)):=(yP h).imp λσ H Q h=>by
 obtain⟨M,P,H0,σ0,env,ts,R,b,ht,f⟩:=h;refine⟨M,P,H0,σ0,env,ts,_,b,ht,λss d vs H1 h1 hl a=>?_⟩;obtain⟨ds,e,hz,g⟩:=h1;obtain⟨q,i⟩:=a.trees hl (λp c=>IE _ c) e;exact⟨by omega,λp c=>f _ _ _ _ (g _) (a.resLstT c q i)⟩
def BZ(i:Nat)(te:DE):DE:=λenv R=>(∃S ds,env[i]? = some (.tr S (.list ds)))/\te env λs a=>∃S ds s' d,a[i]? = some (.tr S (.list ds))/\gP a s=some s'/\eG [] s'=some d/\ds.length<sizeLine/\∀S',R (.fr .none) (a.set i (.tr S' (.list (ds++[d]))))
theorem C7(i:Nat){y:bx}{apos cpos npos:Pos}(hK:X.K=K)(hN:X.N[i]? = some y)(G:PE X e (up K ta))
  (hv:Vis X.env.scope y:=by first|exact Or.inl rfl|exact Or.inr cc|exact Or.inr (Or.inr rfl)) (hd:(y==("__debug__" : bx))=false:=by decide)
  (z:(y==("__classdict__" : bx))=false:=by decide)
  (q:kq [e] X.env=[(false,eval e X.env)]:=by rfl)
  (l:z5 (.Name y npos) "append" X.env (eval (.Name y npos) X.env)=eval (.Name y npos) X.env:=by rfl)
  (r:((ze cpos (kq [e] X.env)).all (λx=>!x.1)&&(KU cpos (KA [] X.env)).all (λx=>x.1.isSome)&&decide ([e].length+([]:List KS).length+(if ([]:List KS).isEmpty then 0 else 1)<30))=true:=by rfl)
  (m:(apos.endLine==cpos.line)=true:=by rfl) (j:(ze cpos (kq [] X.env)).any (·.1)=false:=by rfl) :
  PE X (.Call (.Attribute (.Name y npos) "append" apos) [e] [] cpos) (up K (BZ i ta)) :=
 (kBm (K:=K) hK PySem.F.plainAttrs_list PySem.F.slot_list_append PySem.F.type_list_append lZ (bu hN hv hd z) (cB G fM q) l r m q j).imp λσ H Q h=>by
 obtain⟨M,P,H0,σ0,env,ts,R,n,⟨⟨S0,I,J⟩,ht⟩,L⟩:=h;obtain⟨x,ex,O⟩:=n.slot J;obtain⟨v,ev,C,_⟩:=n.e.tr _ _ _ O;subst ev;cases C with
 | @lst a vs _ Sq T qH =>
  refine⟨.ref a,ex,.inl ⟨rfl,vs,SqL.of T⟩,M,P,H0,σ0,env,ts,_,n,ht,λs1 t v1 H1 h1 f=>?_⟩;obtain⟨S,ds,s',d,e1,es,U,hz,V⟩:=h1;obtain⟨k,W⟩:=f.unVw es;obtain⟨x',A,B,u,Y,Z⟩:=f.drop.split e1;rw[ex] at u;cases u;have D:=k.e;have eA:aw σ t (ts++[(v1,s')])=A++(some (.ref a),Sl.tr S (.list ds))::(B++[(some v1,s')]):=by rw[ar,Y];simp[tmp]
  obtain⟨ot,w⟩:=k.tree (v:=v1) (s:=s') (IE _ IL) ((k4 (env':=[]) W).trans U);have oe:oas [((some v1,s'):Ent)]=cH (some v1,s'):=by rw[aj];simp[oas]
  rw[eA] at D ot;rw[<-oe] at ot w;obtain⟨b,us,rc,E,hl,g⟩:=aU.appAtU (p:=[]) (ds:=ds) D λo nd=>o.path0 nd;cases rc;obtain⟨S',re⟩:=g (aS.refl _) (λc hc=>.inr hc) D ot w;refine⟨a,us,v1,rfl,rfl,E,by rw[hl];exact hz,?_⟩;exact L _ _ _ _ (V S') ((f.drop.setTr e1 (Z _) re).addFr .non)
end
def EV:Sl->Bool
 | .ow _=>true
 | .tr _ _=>true
 | .fr _=>true
 | _=>false
section
variable {X:Cx}{K:ca}{pos:Pos}{M P N:ap->Prop}{H0 H:Hp}{σ0 σ:St}{env:List Sl}{ts:List (V×Sl)}{v:V}
theorem Rel.move{i:Nat}{s:Sl}(h:Rel K M P H0 σ0 σ env ts H)(e:env[i]? = some s)(hs:EV s=true):∃v,σ[i]? = some (some v)/\Rel K M P H0 σ0 σ (env.set i .un) (ts++[(v,s)]) H:=by
 obtain⟨x,A,B,e1,c,f⟩:=h.split e;have b:=h.e;rw[c] at b;obtain⟨v,ev⟩:∃v,x=some v:=by
  cases s with
  | fr d=>obtain⟨v,ev,_⟩:=b.fr _ _ (IE _ IL);exact⟨v,ev⟩
  | ow ds=>obtain⟨a,vs,ev,_⟩:=b.ow _ _ (IE _ IL);exact⟨_,ev⟩
  | tr S d=>obtain⟨v,ev,_⟩:=b.tr _ _ _ (IE _ IL);exact⟨v,ev⟩
  | _=>cases hs
 subst ev;refine⟨v,e1,?_⟩;have g:aw σ (env.set i .un) (ts++[(v,s)])=(A++(some v,Sl.un)::B)++[(some v,s)]:=by rw[ar,f];rfl
 have k:oas ((A++(some v,Sl.un)::B)++[(some v,s)])=oas A++(oas B++cH (some v,s)):=by rw[ah,ah,aj,gi,aj];simp[oas]
 refine⟨?_,by simp[h.len],λw j m=>?_,λj l' e'=>?_⟩;rw[g];refine b.sub (λx t m=>?_) ?_;rcases II.mp m with m|m;rcases II.mp m with m|m;exact .inl (IJ _ m);rcases IR.mp m with m|m;cases m;exact .inr (.inl rfl);exact .inl (IE _ (IM _ m));rw[IG] at m;cases m;exact .inl (IE _ IL);have nd:=b.nd;rw[ah,aj] at nd;rw[k];exact(List.Perm.append_left _ List.perm_append_comm).nodup_iff.mpr nd;rcases II.mp m with m|m;exact h.vw w j m;rw[IG] at m;cases m;cases hs;by_cases hj:i=j;subst hj;rw[Jc (IN.mp e).1] at e';cases e';rw[Je hj] at e';exact h.ios j l' e'
def Gy(i:Nat):DE:=λenv R=>∃s,env[i]? = some s/\EV s=true/\R s (env.set i .un)
theorem C2(i:Nat){x:bx}(hN:X.N[i]? = some x:=by rfl)(hv:Vis X.env.scope x:=by first|exact Or.inl rfl|exact Or.inr cc|exact Or.inr (Or.inr rfl))(hd:(x==("__debug__" : bx))=false:=by decide)
  (b:(x==("__classdict__" : bx))=false:=by decide):PE X (.Name x pos) (up K (Gy i)):=(bu hN hv hd b).imp λσ H Q h=>by
 obtain⟨M,P,H0,σ0,env,ts,R,c,⟨s,e,hs,d⟩,f⟩:=h;obtain⟨v,e1,a⟩:=c.move e hs;exact⟨v,e1,f _ _ _ _ d a⟩
end
open Builtin Builtin.Str StrLaws PySem.NumText PySem.W
def jn(s:List Nat):List (List Nat)->List Nat
 | []=>[]
 | [x]=>x
 | x::y::r=>x++(s++jn s (y::r))
def cpl(x:bx):List Nat:=x.cps.toList
theorem oZ{x y:bx}(h:cpl x=cpl y):x=y:=Str.ext' (Array.toList_inj.mp h)
theorem gu(x y:bx):cpl (x++y)=cpl x++cpl y:=by simp[cpl,Str.cps_append]
theorem eF(s:bx):∀ys:List bx,cpl (Str.join s ys)=jn (cpl s) (ys.map cpl)
 | []=>rfl
 | [x]=>rfl
 | x::y::r=>by
  show cpl (x++s++Str.join s (y::r))=cpl x++(cpl s++jn (cpl s) (cpl y::r.map cpl))
  rw[gu,gu,eF s (y::r),JE];rfl
theorem h8{c:Nat}:∀{p q A B:List Nat},c ∉ p->c ∉ q->p++c::A=q++c::B->p=q/\A=B
 | [],[],A,B,_,_,h=>by simpa using h
 | [],y::q,A,B,_,a,h=>by
  simp at h;exact absurd h.1 λz=>a (by simp[z])
 | x::p,[],A,B,b,_,h=>by
  simp at h;exact absurd h.1 λz=>b (by simp[z])
 | x::p,y::q,A,B,b,a,h=>by
  simp at h b a;obtain⟨e1,e2⟩:=h8 (p:=p) (q:=q) b.2 a.2 h.2;exact⟨by rw[h.1,e1],e2⟩
theorem yV(c:Nat):∀{ps qs:List (List Nat)},ps≠[]->qs≠[]->(∀p∈ps,c ∉ p)->(∀q∈qs,c ∉ q)->jn [c] ps=jn [c] qs->ps=qs
 | [],_,h,_,_,_,_=>absurd rfl h
 | _,[],_,h,_,_,_=>absurd rfl h
 | [p],[q],_,_,_,_,h=>by
  have h:p=q:=h;rw[h]
 | [p],q::a::r,_,_,b,_,h=>by
  have h:p=q++([c]++jn [c] (a::r)):=h;exact absurd (by rw[h];simp) (b p (by simp))
 | p::p2::r,[q],_,_,_,d,h=>by
  have h:p++([c]++jn [c] (p2::r))=q:=h;exact absurd (by rw[<-h];simp) (d q (by simp))
 | p::p2::r,q::a::r',_,_,b,d,h=>by
  have h:p++c::jn [c] (p2::r)=q++c::jn [c] (a::r'):=h;obtain⟨e1,e2⟩:=h8 (b p (by simp)) (d q (by simp)) h;have e3:=yV c (ps:=p2::r) (qs:=a::r') (by simp) (by simp) (λx hx=>b x (IM _ hx)) (λx hx=>d x (IM _ hx)) e2;rw[e1,e3]
theorem iO:∀{ps qs:List bx},ps.map cpl=qs.map cpl->ps=qs
 | [],[],_=>rfl
 | [],_::_,h=>by simp at h
 | _::_,[],h=>by simp at h
 | p::ps,q::qs,h=>by
  simp at h;rw[oZ h.1,iO h.2]
theorem jr{c:Nat}{ys:List bx}(a:ys≠[])(d:∀y∈ys,c ∉ cpl y):Txt.split (Str.join ⟨#[c]⟩ ys) ⟨#[c]⟩=ys:=by refine iO (yV c ?_ (by simpa using a) (λp f=>?_) (λq g=>?_) ?_);intro z;have:=PyProof.Rows.split_pos (Str.join ⟨#[c]⟩ ys) ⟨#[c]⟩;rw[List.map_eq_nil_iff.mp z] at this;simp at this;obtain⟨y,b,rfl⟩:=IZ.mp f;exact split_free _ c y b;obtain⟨y,b,rfl⟩:=IZ.mp g;exact d y b;have e:=congrArg cpl (StrLaws.join_split (Str.join ⟨#[c]⟩ ys) ⟨#[c]⟩);rw[eF,eF] at e;exact e
theorem qj(m:Nat)(s:List Nat)(hs:s.count m=1):∀ps:List (List Nat),ps≠[]->(jn s ps).count m+1=ps.length+(ps.map (·.count m)).sum
 | [],h=>absurd rfl h
 | [p],_=>by
  show p.count m+1=1+(p.count m+0)
  omega
 | p::q::r,_=>by
  have a:=qj m s hs (q::r) (by simp);show(p++(s++jn s (q::r))).count m+1=_;rw[List.count_append,List.count_append,hs];simp only[IU,JB,Jf] at a ⊢;omega
def bar:bx:=Str.ofString " | "
theorem o7:cpl bar=[32,124,32]:=by decide +kernel
theorem sW{A B:bx}(b:124 ∉ cpl A)(d:124 ∉ cpl B):Txt.split (A++bar++B) bar=[A,B]:=by
 have a:=congrArg cpl (StrLaws.join_split (A++bar++B) bar);rw[eF,gu,gu,o7] at a;have c:=PyProof.Rows.split_pos (A++bar++B) bar;have two:2<=(Txt.split (A++bar++B) bar).length:=by
  unfold Txt.split;have g:(decide ((A++bar++B).length<bar.length) || decide (Str.strKind (A++bar++B)<Str.strKind bar))=false:=by
   have h:Str.strKind bar=1:=by decide +kernel
   have t:1<=Str.strKind (A++bar++B):=by unfold Str.strKind;split;omega;split <;> omega
   have l1:bar.length<=(A++bar++B).length:=by rw[Str.length_append,Str.length_append];omega
   rw[h,decide_eq_false (by omega),decide_eq_false (by omega)];rfl
  rw[g];simp only[Jj,if_false];obtain⟨f,ch,no⟩:=occ_tight (A++bar++B) bar (by decide +kernel);have j:bar.length=3:=by decide +kernel
  have la:(cpl A).length=A.length:=by simp[cpl,Str.length]
  have at':At (A++bar++B) bar (A++bar++B).length A.length:=by
   refine⟨by rw[Str.length_append,Str.length_append];omega,?_⟩;rw[subAt_eq];have e1:(A++bar++B).cps.toList=cpl A++([32,124,32]++cpl B):=by show cpl (A++bar++B)=_;rw[gu,gu,o7,JE]
   have e2:bar.cps.toList=[32,124,32]:=o7;rw[e1,e2,j,<-la,List.drop_left];rfl
  cases e:occurrences (A++bar++B) bar 0 (A++bar++B).length ((A++bar++B).length+1) with
  | nil =>
   rw[e] at ch;have ch:f=0:=ch;exact absurd at' (no _ (by omega))
  | cons i r =>
   simp only[List.isEmpty_cons,Jj,if_false];rw[partsBetween_eq];obtain⟨p,q,e3⟩:=partsFrom_ne (A++bar++B) bar.length (i+bar.length) r;show 2<=(strSub (A++bar++B) 0 i::partsFrom (A++bar++B) bar.length (i+bar.length) r).length;rw[e3];simp
 generalize Txt.split (A++bar++B) bar=ps at *;have hc:=qj 124 [32,124,32] (by decide) (ps.map cpl) (by intro z;rw[List.map_eq_nil_iff.mp z] at c;simp at c);rw[a] at hc;have k:(cpl A).count 124=0:=List.count_eq_zero.mpr b;have l:(cpl B).count 124=0:=List.count_eq_zero.mpr d;rw[List.count_append,List.count_append,k,l] at hc;have m:([32,124,32]:List Nat).count 124=1:=by decide
 rw[m,IF] at hc
 match ps,two,hc,a with
 | [p,q],_,hc,a =>
  simp only[IU,J5,JB,List.sum_nil,Jf,List.length_nil] at hc;have n:(cpl p).count 124=0:=by omega
  have u:(cpl q).count 124=0:=by omega
  have a:cpl p++([32,124,32]++cpl q)=cpl A++[32,124,32]++cpl B:=a;have a:(cpl p++[32])++124::(32::cpl q)=(cpl A++[32])++124::(32::cpl B):=by simpa using a
  have o:124 ∉ cpl p++[32]:=by have:=List.count_eq_zero.mp n;simp[this]
  have s:124 ∉ cpl A++[32]:=by simp[b]
  obtain⟨e1,e2⟩:=h8 o s a;rw[oZ (List.append_cancel_right e1),oZ (List.cons.inj e2).2]
 | [],two,_,_=>simp at two
 | [_],two,_,_=>simp at two
 | _::_::_::_,_,hc,_=>simp at hc;omega
def num(n:Int):bx:=Str.ofString (toString n)
theorem kh(m:Nat):cpl (num (m:Int))=(JX 10 m).map Char.toNat:=PySem.W.KIN.signs_num m
theorem k7{m k:Nat}(hk:1<=k)(h:m<10 ^ k):(JX 10 m).length<=k:=by
 induction k generalizing m with
 | zero=>omega
 | succ k b =>
  by_cases c:m<10;rw[Nat.toDigits_of_lt_base c];simp;have a:m % 10<10:=Nat.mod_lt m (by decide);have t:JX 10 (m / 10)++JX 10 (m % 10)=JX 10 (10*(m / 10)+m % 10):=Nat.toDigits_append_toDigits (by decide) (by omega) a;rw[Nat.div_add_mod] at t;rw[<-t,Jg,Nat.toDigits_of_lt_base a];rw[Nat.pow_succ] at h;by_cases d:k=0;subst d;simp at h;omega;have:=b (m:=m / 10) (by omega) (by omega);simp;omega
theorem fA{m:Nat}(h:1<=m):∃c r,JX 10 m=c::r/\c≠'0':=by
 induction m using Nat.strongRecOn with
 | _ m b =>
  by_cases a:m<10;rw[Nat.toDigits_of_lt_base a];refine⟨_,[],rfl,?_⟩;have:∀d:Nat,d<10->1<=d->Nat.digitChar d≠'0':=by decide
  exact this m a h;have f:m % 10<10:=Nat.mod_lt m (by decide);have t:JX 10 (m / 10)++JX 10 (m % 10)=JX 10 (10*(m / 10)+m % 10):=Nat.toDigits_append_toDigits (by decide) (by omega) f;rw[Nat.div_add_mod] at t;obtain⟨c,r,e,hc⟩:=b (m / 10) (by omega) (by omega);exact⟨c,r++JX 10 (m % 10),by rw[<-t,e];rfl,hc⟩
theorem bP{n:Int}(b:0<=n):∀c∈cpl (num n),48<=c/\c<=57:=by obtain⟨m,rfl⟩:=JS b;intro c hc;rw[kh] at hc;obtain⟨ch,a,e⟩:=IZ.mp hc;have r:=PyProof.Rows.digit_range (Nat.isDigit_of_mem_toDigits (by decide) (by decide) a);rw[<-e];exact r
theorem oF{n:Int}{k:Nat}(a:0<=n)(hk:1<=k)(h:n<10 ^ k):1<=(num n).length/\(num n).length<=k:=by
 obtain⟨m,rfl⟩:=JS a;have e:(num (m:Int)).length=(JX 10 m).length:=by have:=congrArg List.length (kh m);simpa[cpl,Str.length] using this
 have h':m<10 ^ k:=by
  have:((m:Nat):Int)<((10 ^ k:Nat):Int):=by simpa using h
  omega
 rw[e];refine⟨?_,k7 hk h'⟩;by_cases b:m=0;subst b;decide;obtain⟨c,r,e,_⟩:=fA (m:=m) (by omega);rw[e];simp
theorem xc{n:Int}(a:0<=n):(cpl (num n))[0]? = some 48->n=0:=by
 obtain⟨m,rfl⟩:=JS a;intro h;by_cases b:m=0;rw[b];rfl;obtain⟨c,r,e,hc⟩:=fA (m:=m) (by omega);rw[kh,e] at h;have h:c.toNat=48:=by simpa using h
 have:c='0':=by apply Char.ext;apply UInt32.toNat_inj.mp;exact h
 exact absurd this hc
theorem xf{n:Int}(a:0<=n)(h:n<10 ^ 100):PySem.intText? (num n)=some n:=by
 have hl:=oF a (by decide) h;have hd:PySem.NumText.AllDigits (num n).cps.toList:=bP a;have b:(num n).cps.toList≠[]:=λz=>by
  have:(num n).length=0:=by show(num n).cps.size=0;rw[<-Array.length_toList,z];rfl
  omega
 have e:=intText_digits hd b (by omega);obtain⟨m,rfl⟩:=JS a;have e2:(num (m:Int)).cps.toList=_:=kh m;rw[e2,PySem.W.KIN.val_back] at e;exact e
theorem fX{α:Type}(f:α->Nat)(c:Nat):∀l:List α,(∀x∈l,f x<=c)->(l.map f).sum<=c*l.length
 | [],_=>Jb _
 | x::l,h=>by
  have h1:=h x (by simp);have h2:=fX f c l λy a=>h y (IM _ a);simp only[IU,JB,Jf,Nat.mul_succ];omega
def NB(ns:List Int):Prop:=ns.length<=6/\∀n∈ns,0<=n/\n<10 ^ 40
theorem NB.log{ns:List Int}(h:NB ns){n:Int}(hn:n∈ns):n.natAbs.log2<1920:=by obtain⟨a,h1⟩:=h.2 n hn;have:n.natAbs<2 ^ 1920:=IY (m:=10 ^ 40) (by omega) (by decide +kernel);by_cases z:n.natAbs=0;rw[z];decide;exact(Nat.log2_lt z).mpr this
theorem NB.lens{ns:List Int}(h:NB ns){b:bx}(a:b.length<=10):((ns.map num).map (·.length)).sum+(ns.map num).length*b.length<=300:=by
 have h1:=fX (·.length) 40 (ns.map num) λx hx=>by
  obtain⟨n,hn,rfl⟩:=IZ.mp hx;exact(oF (h.2 n hn).1 (by decide) (h.2 n hn).2).2
 have h2:=h.1;rw[IF] at h1 ⊢;have h3:ns.length*b.length<=6*10:=Nat.mul_le_mul h2 a;omega
def sgn(c:Nat):bx:=⟨#[c]⟩
theorem kg{ns:List Int}(h:NB ns)(c:Nat):∀x∈cpl (Str.join (sgn c) (ns.map num)),x=c\/(48<=x/\x<=57):=by
 intro x hx;rw[eF] at hx;have gen:∀(ps:List (List Nat)),(∀p∈ps,∀x∈p,48<=x/\x<=57)->∀x∈jn [c] ps,x=c\/(48<=x/\x<=57):=by
  intro ps
  induction ps with
  | nil=>intro _ x hx;cases hx
  | cons p r d =>
   intro a x hx;cases r with
   | nil=>exact .inr (a p (by simp) x hx)
   | cons q r =>
    have hx:x∈p++([c]++jn [c] (q::r)):=hx;rcases II.mp hx with hx|hx;exact .inr (a p (by simp) x hx);rcases II.mp hx with hx|hx;exact .inl (IG.mp hx);exact d (λy b=>a y (IM _ b)) x hx
 refine gen _ (λp a y b=>?_) x hx;obtain⟨z,hz,rfl⟩:=IZ.mp a;obtain⟨n,hn,rfl⟩:=IZ.mp hz;exact bP (h.2 n hn).1 y b
theorem rp{ns:List Int}(h:NB ns)(a:ns≠[]){c:Nat}(hc:c<48):Txt.split (Str.join (sgn c) (ns.map num)) (sgn c)=ns.map num:=by refine jr (by simpa using a) λy b z=>?_;obtain⟨n,hn,rfl⟩:=IZ.mp b;have:=bP (h.2 n hn).1 c z;omega
theorem d6{ns:List Int}(h:NB ns)(c:Nat):(Str.join (sgn c) (ns.map num)).length<=300:=by refine IQ (StrLaws.join_length_le _ _) ?_;exact h.lens (by show 1<=10;decide)
theorem p9{ns:List Int}(h:NB ns){c:Nat}(hc:c<48):124 ∉ cpl (Str.join (sgn c) (ns.map num)):=λz=>by
 rcases kg h c 124 z with e|e <;> omega
theorem fig(c:Nat)(h:48<=c/\c<=57):(!(Builtin.Str.occurrences (Str.ofString "0123456789") ⟨#[c]⟩ 0 (Str.ofString "0123456789").length 1).isEmpty)=true:=by
 have:∀k,k<10->(!(Builtin.Str.occurrences (Str.ofString "0123456789") ⟨#[k+48]⟩ 0 (Str.ofString "0123456789").length 1).isEmpty)=true:=by decide +kernel
 have:=this (c - 48) (by omega);rwa [show c - 48+48=c by omega] at this
theorem uB{n:Int}(a:0<=n):(num n).cps.all (·<128)=true:=by rw[Array.all_eq_true_iff_forall_mem];intro c hc;have:=bP a c (by simpa[cpl] using hc);simp;omega
def Gs:bx:=Str.ofString "-"
def dot:bx:=Str.ofString "."
theorem qJ:cpl Gs=[45]:=by decide +kernel
theorem oT:cpl dot=[46]:=by decide +kernel
def gz(r:List Int):bx:=if r=[] then Gs else Str.join (sgn 44) (r.map num)
def fK(rs:List (List Int)):bx:=Str.join (sgn 32) (rs.map gz)
def dU(rs:List (List Int)):bx:=if rs=[] then dot else fK rs
def AA(a b:List (List Int)):bx:=dU a++bar++fK b
def CL(x:Nat):Prop:=x=44\/x=45\/(48<=x/\x<=57)
theorem nV{r:List Int}(h:NB r):∀x∈cpl (gz r),CL x:=by intro x hx;unfold gz at hx;split at hx;rw[qJ] at hx;exact .inr (.inl (IG.mp hx));rcases kg h 44 x hx with e|e;exact .inl e;exact .inr (.inr e)
theorem wF{r:List Int}(h:NB r)(a:r≠[]):gz r≠Gs:=by
 intro z;unfold gz at z;rw[if_neg a] at z;have:45∈cpl (Str.join (sgn 44) (r.map num)):=by rw[z,qJ];simp
 rcases kg h 44 45 this with e|e <;> omega
theorem D5{c:Nat}{b:Nat->Prop}:∀(ps:List (List Nat)),(∀p∈ps,∀x∈p,b x)->∀x∈jn [c] ps,x=c\/b x:=by
 intro ps
 induction ps with
 | nil=>intro _ x hx;cases hx
 | cons p r d =>
  intro a x hx;cases r with
  | nil=>exact .inr (a p (by simp) x hx)
  | cons q r =>
   have hx:x∈p++([c]++jn [c] (q::r)):=hx;rcases II.mp hx with hx|hx;exact .inr (a p (by simp) x hx);rcases II.mp hx with hx|hx;exact .inl (IG.mp hx);exact d (λy e=>a y (IM _ e)) x hx
theorem jZ{rs:List (List Int)}(h:∀r∈rs,NB r):∀x∈cpl (fK rs),x=32\/CL x:=by intro x hx;unfold fK at hx;rw[eF] at hx;refine D5 _ (λp a y b=>?_) x hx;obtain⟨z,hz,rfl⟩:=IZ.mp a;obtain⟨r,c,rfl⟩:=IZ.mp hz;exact nV (h r c) y b
theorem rn{rs:List (List Int)}(h:∀r∈rs,NB r)(a:rs≠[]):Txt.split (fK rs) (sgn 32)=rs.map gz:=by refine jr (by simpa using a) λy b z=>?_;obtain⟨r,c,rfl⟩:=IZ.mp b;rcases nV (h r c) 32 z with e|e|e <;> omega
theorem pN{rs:List (List Int)}(h:∀r∈rs,NB r):124 ∉ cpl (fK rs):=λz=>by
 rcases jZ h 124 z with e|e|e|e <;> omega
theorem wE{rs:List (List Int)}(h:∀r∈rs,NB r):fK rs≠dot:=λz=>by
 have:46∈cpl (fK rs):=by rw[z,oT];simp
 rcases jZ h 46 this with e|e|e|e <;> omega
theorem xF{rs:List (List Int)}(h:∀r∈rs,NB r):124 ∉ cpl (dU rs):=by unfold dU;split;rw[oT];decide;exact pN h
theorem Ad{r:List Int}(h:NB r):(gz r).length<=300:=by unfold gz;split;decide +kernel;exact d6 h 44
theorem lz{rs:List (List Int)}(h:∀r∈rs,NB r)(hl:rs.length<=64){b:bx}(a:b.length<=10):((rs.map gz).map (·.length)).sum+(rs.map gz).length*b.length<=20000:=by
 have h1:=fX (·.length) 300 (rs.map gz) λx hx=>by
  obtain⟨r,c,rfl⟩:=IZ.mp hx;exact Ad (h r c)
 rw[IF] at h1 ⊢;have h3:rs.length*b.length<=64*10:=Nat.mul_le_mul hl a;omega
theorem fJ{rs:List (List Int)}(h:∀r∈rs,NB r)(hl:rs.length<=64):(fK rs).length<=20000:=by refine IQ (StrLaws.join_length_le _ _) ?_;exact lz h hl (by show 1<=10;decide)
section
variable {X:Cx}{K:ca}
def Bt:G2:=λd e R=>∃a b:bx,d=.str a/\e=.str b/\a.length+b.length<=1000000/\R (.str (a++b))
theorem xo:bq K (λx y H Q=>∃i j,x=.str i/\y=.str j/\i.length+j.length<=sizeLine/\Q (.str (i++j)) H) Bt:=by rintro N H x y d e R Q c f ⟨a,b,rfl,rfl,hz,g⟩ h;exact⟨a,b,c.str,f.str,IQ hz ae,h _ _ g (.str _)⟩
def Gc:G2:=λd e R=>∃a b:bx,d=.str a/\e=.str b/\R (.bool (!(Builtin.Str.occurrences b a 0 b.length 1).isEmpty))
theorem HV:bq K (λx y H Q=>∃i j,x=.str i/\y=.str j/\Q (.bl (!(Builtin.Str.occurrences j i 0 j.length 1).isEmpty)) H) Gc:=by rintro N H x y d e R Q c f ⟨a,b,rfl,rfl,g⟩ h;exact⟨a,b,c.str,f.str,h _ _ g (.bl _)⟩
def Br:GB:=λds R=>∃a:bx,ds=[.str a]/\a.length<=1000000/\R (.int a.length)
theorem FW:eO K (λxs H Q=>∃z,xs=[.str z]/\z.length<=sizeLine/\Q (.int z.length) H) Br:=by
 rintro N H xs ds R Q w ⟨a,rfl,hz,b⟩ c;cases w with
 | cons d e=>cases e;exact⟨a,by rw[d.str],IQ hz ae,c _ _ b (.int _)⟩
def F6:GB:=λds R=>∃i:Int,ds=[.int i]/\i.natAbs.log2<1920/\R (.str (Str.ofString (toString i)))
theorem HL:eO K (λxs H Q=>∃i,xs=[.int i]/\i.natAbs.log2<1920/\Q (.str (toString i)) H) F6:=by
 rintro N H xs ds R Q w ⟨a,rfl,hz,b⟩ c;cases w with
 | cons d e=>cases e;exact⟨a,by rw[d.int],hz,c _ _ b (.str _)⟩
theorem F3:cZ X (.type "int") (λxs H Q=>∃(a:bx) (n:Int),xs=[.str a]/\PySem.intText? a=some n/\a.length<=640/\Q (.int n) H):=by intro pins s σ H xs us Q I r h;obtain⟨a,n,rfl,hn,hz,q⟩:=h;obtain⟨u,rfl,b⟩:=fw r;obtain⟨t,rfl⟩:=b;exact PySem.W.KIN.call_text hn hz ⟨.int n,H,I.tok _,⟨_,rfl⟩,q⟩
def Bs:GB:=λds R=>∃(a:bx) (n:Int),ds=[.str a]/\PySem.intText? a=some n/\a.length<=640/\R (.int n)
theorem FX:eO K (λxs H Q=>∃(a:bx) (n:Int),xs=[.str a]/\PySem.intText? a=some n/\a.length<=640/\Q (.int n) H) Bs:=by
 rintro N H xs ds R Q w ⟨a,n,rfl,hn,hz,b⟩ c;cases w with
 | cons d e=>cases e;exact⟨a,n,by rw[d.str],hn,hz,c _ _ b (.int _)⟩
theorem kU:∀(ps:List bx) (k:Nat),aH (ps.map V.str) (strsFrom k ps)
 | [],_=>.nil
 | p::ps,k=>.cons ⟨_,rfl⟩ (kU ps (k+1))
def CM:V->List V->Hp->VK->Prop:=λx vs H Q=>∃a b:bx,x=.str a/\vs=[.str b]/\(b.length==0)=false/\a.length<=100000/\∀p,H p=none->Q (.ref p) (upd H p (.lst ((Txt.split a b).map .str)))
theorem xk:MtR X "str.split" CM:=by
 intro pins s σ H x vs v us Q I i rv h;obtain⟨a,b,rfl,rfl,g,hz,q⟩:=h;obtain⟨t,rfl⟩:=i;obtain⟨u,rfl,j⟩:=rv.one;obtain⟨t',rfl⟩:=j;have hl:=split_le a b;have l:=ae;have fin:∀(c:List as) (k:Nat),aH ((Txt.split a b).map .str) c->EP X pins σ Q (.ref s.heap.objs.size) { s with toks:=k,heap:=s.heap.push { cls:=.type "list",data:=.seq c.toArray } }:=λc k r =>
  ⟨.ref s.heap.objs.size,_,I.laid (t':=k) (o:=.lst ((Txt.split a b).map .str)) (λb ob q=>IH _ q) (IS _) ⟨by rw[IF];omega,c,0,r,IW _ rfl⟩,rfl,q _ (I.hok.fresh (IS _))⟩
 have one:Txt.split a b=[a]->∀tt:Tok,aH ((Txt.split a b).map .str) [Value.str a tt]:=λe tt=>by rw[e];exact .cons ⟨_,rfl⟩ .nil
 by_cases h1:(decide (a.length<b.length) || decide (Builtin.Str.strKind a<Builtin.Str.strKind b))=true;have e:Txt.split a b=[a]:=by unfold Txt.split;rw[if_pos h1]
 exact Qd F.slot_str_split (QR _ _ _) F.entry_str_split (F.args_str_split_2 _ _) (meets_str_split_cannot_occur a b t t' h1) (fin _ _ (one e t));have d:(decide (a.length<b.length) || decide (Builtin.Str.strKind a<Builtin.Str.strKind b))=false:=by simpa using h1
 by_cases h2:(Builtin.Str.occurrences a b 0 a.length (a.length+1)).isEmpty=true;have e:Txt.split a b=[a]:=by unfold Txt.split;rw[if_neg h1,if_pos h2]
 exact Qd F.slot_str_split (QR _ _ _) F.entry_str_split (F.args_str_split_2 _ _) (meets_str_split_not_found a b t t' d g h2) (fin _ _ (one e t));have f:(Builtin.Str.occurrences a b 0 a.length (a.length+1)).isEmpty=false:=by simpa using h2
 have e:Txt.split a b=Builtin.Str.partsBetween a (Builtin.Str.occurrences a b 0 a.length (a.length+1)) b.length:=by unfold Txt.split;rw[if_neg h1,if_neg h2]
 refine Qd F.slot_str_split (QR _ _ _) F.entry_str_split (F.args_str_split_2 _ _) (meets_str_split_sep a b t t' d g f (by omega) (by rw[<-e];omega)) (fin _ _ ?_);rw[<-e];exact kU _ _
def CQ(K:ca):V->List V->Hp->VK->Prop:=λx vs H Q=>∃(a:bx) (p:ap) (ys:List bx),x=.str a/\vs=[.ref p]/\SqL K H p (ys.map .str)/\(ys.map (·.length)).sum+ys.length*a.length<=1000000/\Q (.str (Txt.join a ys)) H
theorem px:∀{ys:List bx}{a:List as},aH (ys.map .str) a->StrsAre a ys
 | [],_,.nil=>.nil
 | y::ys,_,.cons h r=>by
  obtain⟨t,rfl⟩:=h;exact .cons y t (px r)
theorem A4:MtR X "str.join" (CQ X.K):=by intro pins s σ H x vs v us Q I b rv h;obtain⟨a,p,ys,rfl,rfl,c,hz,q⟩:=h;obtain⟨t,rfl⟩:=b;obtain⟨u,rfl,d⟩:=rv.one;cases d;obtain⟨e,r,pl,f⟩:=I.list c;refine join_list pl.isList (px (by simpa using r)) (by omega) λt' k=>⟨.str _,H,I.tok _,⟨_,rfl⟩,q⟩
theorem F2(hK:X.K=K):MtR X "str.join" (CQ K):=by subst hK;exact A4
def Its(x:bx):It:=⟨λi _=>i<x.length,λi H v H'=>H'=H/\∃c,x.cps[i]? = some c/\v=.str ⟨#[c]⟩,λi _=>x.length<=i⟩
theorem rf{P:q3}{w:zb}{tg:bb}(x:bx)(t:Tok)(it:ap):zD P w K tg (Its x) [it] it (λi h=>h.IsStrIter it "str_ascii_iterator" x t i) where
 mem:=by simp
 obj:=λi h st b a=>by
  have e:b=it:=by simpa using a
  subst e;obtain⟨o,e,c,d⟩:=st;exact⟨o,e,λv z=>by rw[d] at z;cases z⟩
 keep:=λi h h' st k=>by
  obtain⟨o,e,r⟩:=st;exact⟨o,k it (by simp) o e,r⟩
 item:=by intro X j hw hK hc i pins s σ H E I g st hg;subst j hw hK;have hg:i<x.length:=hg;obtain⟨l,m,u,n,p,q⟩:=g it (by simp);refine wpAny_pyNext_ascii_item st (c:=x.cps[i]'hg) (by simp[Str.length] at hg;simp[hg]) λh' f y=>?_;have A:Inv X pins σ H { s with heap:=h',toks:=s.toks+1 }:=I.turned (t':=s.toks+1) (λb o a e=>(y.2 b a).trans e) l m n p q;obtain⟨o,e,c,d⟩:=id f;exact⟨_,rfl,Bo (s:={ s with heap:=h',toks:=s.toks+1 }) e c d (by decide) ⟨.str _,H,A,⟨_,rfl⟩,⟨rfl,_,by simp[Str.length] at hg;simp[hg],rfl⟩,f,λb a=>(g b a).1⟩⟩
 done:=by intro X j hw hK hc i pins s σ H E I g st hg;subst j hw hK;obtain⟨l,m,u,n,p,q⟩:=g it (by simp);have hg:x.length<=i:=hg;exact wpAny_pyNext_ascii_end (I.ok.hd hc) st (by simp[Str.length] at hg;simp[hg]) λh' B=>⟨rfl,I.turned (t':=s.toks) (λb o a e=>B b o a e) l m n p q⟩
 self:=λ_ _ _ _ _ st h=>wpAny_pyIter_striter_ascii st h
def Il(tl:TE):TI:=λσ H R=>tl σ H λx H1=>∃a:bx,x=.str a/\a.cps.all (·<128)=true/\R (Its a) H1
theorem Dj{tg l:bb}{tl:TE}(hl:PE X l tl):PI X tg l (Il tl):=by
 intro pins s σ H R I h;refine thn (hl pins s σ H _ I h) λv s1 c=>?_;obtain⟨x,H1,d,f,g⟩:=c;obtain⟨a,rfl,i,q⟩:=g;obtain⟨t,rfl⟩:=f;refine wpAny_pyIter_ascii i ?_;refine⟨s1.heap.objs.size,[s1.heap.objs.size],_,_,H1,rfl,d.kept (t':=s1.toks) λb o e=>IH _ e,rf a t _,⟨_,IW _ rfl,rfl,rfl⟩,λb j=>?_,q⟩;have e:b=s1.heap.objs.size:=by simpa using j
 subst e;exact d.fpOk (IS _) (d.hok.fresh (IS _))
end
section
variable {X:Cx}{K:ca}{pos:Pos}{e o:bb}{ta to:DE}{M P N:ap->Prop}{H0 H H':Hp}{σ0 σ:St}{env:List Sl}{ts:List (V×Sl)}
def Ga:G2:=λd e R=>∃(a:bx) (i:Int) (c:Nat),d=.str a/\e=.int i/\a.length<=1000000/\atI a.cps.toList i=some c/\R (.str ⟨#[c]⟩)
theorem HQ:bq K G4 Ga:=by rintro N H x y d e R Q b f ⟨a,i,c,rfl,rfl,hz,hc,g⟩ h;exact⟨a,i,c,b.str,f.int,IQ hz ae,hc,h _ _ g (.str _)⟩
theorem DNs.strs{v:List V}{ys:List bx}(h:DNs K N H v (ys.map .str)):v=ys.map V.str:=by
 induction ys generalizing v with
 | nil=>cases h;rfl
 | cons y ys a =>
  cases h with
  | cons h q=>cases h;rw[a q];rfl
def BT(to ta:DE):DE:=λenv R=>to env λs b=>∃a,aC b s=some (.str a)/\ta b λs2 c=>∃ys:List bx,aC c s2=some (.list (ys.map .str))/\(ys.map (·.length)).sum+ys.length*a.length<=1000000/\R (.fr (.str (Str.join a ys))) c
theorem yJ{apos cpos:Pos}(hK:X.K=K)(ho:PE X o (up K to))(n:PE X e (up K ta))
  (i:kq [e] X.env=[(false,eval e X.env)]:=by rfl)
  (f:z5 o "join" X.env (eval o X.env)=eval o X.env:=by rfl)
  (j:((ze cpos (kq [e] X.env)).all (λx=>!x.1)&&(KU cpos (KA [] X.env)).all (λx=>x.1.isSome)&&decide ([e].length+([]:List KS).length+(if ([]:List KS).isEmpty then 0 else 1)<30))=true:=by rfl)
  (g:(apos.endLine==cpos.line)=true:=by rfl) (b:(ze cpos (kq [] X.env)).any (·.1)=false:=by rfl) :
  PE X (.Call (.Attribute o "join" apos) [e] [] cpos) (up K (BT to ta)) :=
 (kBm (K:=K) hK PySem.F.plainAttrs_str PySem.F.slot_str_join PySem.F.type_str_join (F2 hK) ho (cB n fM i) f j g i b).imp λσ H Q h=>by
 obtain⟨M,P,H0,σ0,env,ts,R,l,ht,r⟩:=h;refine⟨M,P,H0,σ0,env,ts,_,l,ht,λs1 k v1 H1 h1 c=>?_⟩;obtain⟨a,e1,h1⟩:=h1;have ev:=(c.view (v:=v1) (by simp) e1).str;subst ev;refine⟨rfl,M,P,H0,σ0,k,ts,_,c.drop,h1,λs2 m s t h2 d=>?_⟩;obtain⟨ys,e2,hz,u⟩:=h2;obtain⟨p,vs,rfl,sq,q⟩:=(d.view (v:=s) (by simp) e2).list;rw[q.strs] at sq;refine⟨a,p,ys,rfl,rfl,sq,hz,?_⟩;show Q (.str (Builtin.Str.glued a ys)) t;rw[StrLaws.glued_eq_join];exact r _ _ _ _ u (d.drop.addFr (.str _))
def ve(to ta:DE):DE:=λenv R=>to env λs c=>∃a,aC c s=some (.str a)/\ta c λs2 d=>∃b,aC d s2=some (.str b)/\(b.length==0)=false/\a.length<=100000/\R (.ow ((Txt.split a b).map .str)) d
theorem DNs.ofStrs(ys:List bx):DNs K N H (ys.map V.str) (ys.map .str):=by
 induction ys with
 | nil=>exact .nil
 | cons y ys a=>exact .cons (.str y) a
theorem og{apos cpos:Pos}(hK:X.K=K)(ho:PE X o (up K to))(r:PE X e (up K ta))
  (j:kq [e] X.env=[(false,eval e X.env)]:=by rfl)
  (g:z5 o "split" X.env (eval o X.env)=eval o X.env:=by rfl)
  (k:((ze cpos (kq [e] X.env)).all (λx=>!x.1)&&(KU cpos (KA [] X.env)).all (λx=>x.1.isSome)&&decide ([e].length+([]:List KS).length+(if ([]:List KS).isEmpty then 0 else 1)<30))=true:=by rfl)
  (i:(apos.endLine==cpos.line)=true:=by rfl) (c:(ze cpos (kq [] X.env)).any (·.1)=false:=by rfl) :
  PE X (.Call (.Attribute o "split" apos) [e] [] cpos) (up K (ve to ta)) :=
 (kBm (K:=K) hK PySem.F.plainAttrs_str PySem.F.slot_str_split PySem.F.type_str_split xk ho (cB r fM j) g k i j c).imp λσ H Q h=>by
 obtain⟨M,P,H0,σ0,env,ts,R,m,ht,s⟩:=h;refine⟨M,P,H0,σ0,env,ts,_,m,ht,λs1 l v1 H1 h1 d=>?_⟩;obtain⟨a,e1,h1⟩:=h1;have ev:=(d.view (v:=v1) (by simp) e1).str;subst ev;refine⟨rfl,M,P,H0,σ0,l,ts,_,d.drop,h1,λs2 q t z h2 f=>?_⟩;obtain⟨b,e2,u,hz,w⟩:=h2;have n:=(f.view (v:=t) (by simp) e2).str;subst n;exact⟨a,b,rfl,rfl,u,hz,λp y=>s _ _ _ _ w (f.drop.addOw y (DNs.ofStrs _))⟩
def BU(te:DE):DI:=λenv RR=>te env λs b=>∃a:bx,aC b s=some (.str a)/\a.cps.all (·<128)=true/\RR (a.cps.toList.map λc=>.str ⟨#[c]⟩) b
theorem xA(a:bx):jL K (Its a) [] (a.cps.toList.map λc=>.str ⟨#[c]⟩) where
 go := λ_ i hi=>by
  show i<a.cps.size;simpa using hi
 yld := λ_ i x H' hi y=>by
  obtain⟨rfl,c,hc,rfl⟩:=y;refine⟨aS.refl _,?_⟩;rw[Jn];have:a.cps.toList[i]'(by simpa using hi)=c:=by rw[<-Array.getElem?_toList] at hc;exact(IN.mp hc).2
  rw[this];exact .str _
 stop:=λ_=>by
  show a.cps.size<=_;simp
 nv := λv i m=>by cases m
theorem CV{tg:bb}(h:PE X e (up K ta)):PI X tg e (upI K (BU ta)):=(Dj h).imp λσ H R h=>by
 obtain⟨M,P,H0,σ0,env,ts,RR,c,ht,f⟩:=h;refine⟨M,P,H0,σ0,env,ts,_,c,ht,λs1 d v1 H1 h1 b=>?_⟩;obtain⟨a,e1,g,i⟩:=h1;have ev:=(b.view (v:=v1) (by simp) e1).str;subst ev;exact⟨a,rfl,g,f _ _ _ _ _ i (by rw[Jh];exact b.drop) (xA a)⟩
theorem dP{x:bx}{a:bx}{t:Tok}(hg:Gl X x)(c:X.mg x=some (.str a t))(hd:(x==("__debug__" : bx))=false:=by decide):PE X (.Name x pos) (up K (dC (.str a))):=(ud (v:=.str a) hg c ⟨_,rfl⟩ hd).imp λσ H Q h=>by
 obtain⟨M,P,H0,σ0,env,ts,R,b,ht,d⟩:=h;exact d _ _ _ _ ht (b.addFr (.str a))
theorem tR{x:bx}{a:Int}{t:Tok}(hg:Gl X x)(c:X.mg x=some (.int a t))(hd:(x==("__debug__" : bx))=false:=by decide):PE X (.Name x pos) (up K (dC (.int a))):=(ud (v:=.int a) hg c ⟨_,rfl⟩ hd).imp λσ H Q h=>by
 obtain⟨M,P,H0,σ0,env,ts,R,b,ht,d⟩:=h;exact d _ _ _ _ ht (b.addFr (.int a))
def vh:DS:=λ_ _=>False
theorem iF{st:Stmt}:PS X st (upS K vh):=λpins s σ H D I h=>by
 obtain⟨M,P,H0,σ0,env,ts,DD,nv,a,z,ok⟩:=h;exact z.elim
theorem u3(a b:bx):PyData.eqv (.str a) (.str b)=decide (a=b):=by show(a==b)=_;rfl
theorem tu{a:bx}(h:PyData.strOk a=true):shp (.str a):=by simp[shp,SeqAt.shaped,PySem.PyData.canLay0,PySem.PyData.depth,h]
end
section
variable {X:Cx}{K:ca}
def dFz(i:Nat)(u:DS):DS:=λDD env=>∃ds,env[i]? = some (.ow ds)/\u DD (env.set i (.fr (.list ds)))
theorem yF(i:Nat){ss:List Stmt}{u:DS}(h:PSs X ss (upS K u)):PSs X ss (upS K (dFz i u)):=h.imp λD σ H h=>by
 obtain⟨M,P,H0,σ0,env,ts,DD,nv,a,⟨ds,e,b⟩,ok⟩:=h;exact⟨M,P,H0,σ0,_,ts,DD,nv,a.frz e,b,ok⟩
end
section
variable {n:Nat}(h1:1<=n)
include h1
end
open PySem.SeqAt PySem.MeetsSeq PySem.MeetsSeq2 PySem.MeetsSeq3 PySem.SeqRoads2
open PySem.AutoSeq1 (wpAny_loadPart')
theorem uG(l b:ap)(items a:Array as)(n v:Nat)(dd o:Option ap)(sl p:Array (Option as))(q:∀j (h:j<items.size),∃x t,items[j]=Value.int x t)(r:∀j (h:j<a.size),∃x t,a[j]=Value.int x t)(k:Nat) :
  ∀i : Nat,items.size - i=k->Meets (Builtin.«list.__eq__.loop» ⟨[.ref l,.ref b,K4 i,K4 0],[]⟩)
   (λA R s=>s.heap.get? l=some { cls:=.type "list",dict:=dd,data:=.seq items n,slots:=sl }/\s.heap.get? b=some { cls:=.type "list",dict:=o,data:=.seq a v,slots:=p } /\
    ∀c:Bool,R (.ok (.ret (.bool c))) s):=by
 induction k with
 | zero =>
  intro i hk prog w A R s h;obtain⟨z,g,d,tk,os⟩:=s;obtain⟨hl,f,h⟩:=h
  wp_walk using wpAny_loadPart' hl,wpAny_loadPart' f
  have hi1:items[((i:Nat):Int).toNat]? = none:=by simp;omega
  rw[hi1]
  wp_walk using wpAny_loadPart' hl,wpAny_loadPart' f
  exact h _
 | succ k B =>
  intro i hk prog w A R s h;obtain⟨z,g,d,tk,os⟩:=s;obtain⟨hl,f,h⟩:=h
  wp_walk using wpAny_loadPart' hl,wpAny_loadPart' f
  have m:i<items.size:=by omega
  have hi1:items[((i:Nat):Int).toNat]? = some items[i]:=by simp[m]
  have hc:((i:Int)+1)=((i+1:Nat):Int):=by push_cast;rfl
  rw[hi1];by_cases e:i<a.size
  ·have hi2:a[((i:Nat):Int).toNat]? = some a[i]:=by simp[e]
   rw[hi2];obtain⟨x,t,e1⟩:=q i m;obtain⟨y,u,e2⟩:=r i e;rw[e1,e2];refine jj (QZ ?_);cases hb':(x==y) with
   | true =>
    wp_walk
    rw[hc];exact⟨KQ QO _,K8 entry_eq_loop (by
     rw[Around.under_plainId QO _];exact B (i+1) (by omega) prog w A R _ ⟨hl,f,h⟩)⟩
   | false =>
    wp_walk using wpAny_loadPart' hl,wpAny_loadPart' f
    rw[hi1,hi2,e1,e2];refine jj (show kw (qb prog w) A.in1 (q4 .Lt (.int x t) (.int y u)) _ _ _ from wpAny_lt_int (ke (h _)))
  ·have hi2:a[((i:Nat):Int).toNat]? = none:=by simp;omega
   rw[hi2]
   wp_walk using wpAny_loadPart' hl,wpAny_loadPart' f
   exact h _
theorem l8(l b:ap)(items a:Array as)(n m:Nat)(dd e:Option ap)(sl f:Array (Option as))(i:∀j (h:j<items.size),∃x t,items[j]=Value.int x t)(k:∀j (h:j<a.size),∃x t,a[j]=Value.int x t) :
  Meets (Builtin.«list.__lt__» ⟨[.ref l,.ref b],[]⟩)
   (λA R s=>s.heap.get? l=some { cls:=.type "list",dict:=dd,data:=.seq items n,slots:=sl }/\s.heap.get? b=some { cls:=.type "list",dict:=e,data:=.seq a m,slots:=f } /\
    ∀c:Bool,R (.ok (.ret (.bool c))) s):=by
 intro prog w A R s h;obtain⟨p,g,d,tk,os⟩:=s;obtain⟨hl,o,h⟩:=h;have q:=AutoSeq1.sub_list_list
 wp_walk using wpAny_loadPart' hl,wpAny_loadPart' o
 exact⟨KQ QO _,K8 entry_eq_loop (by
  rw[Around.under_plainId QO _];exact uG l b items a n m dd e sl f i k _ 0 rfl prog w A R _ ⟨hl,o,h⟩)⟩
section
variable {prog:q3}{w:zb}{A:Around}{E:as->ba->Prop}{s:ba}
theorem xp{l b:ap}{items a:Array as}{Q:as->ba->Prop}(hl:s.heap.IsList l items)(p:s.heap.IsList b a)(g:∀j (h:j<items.size),∃x t,items[j]=Value.int x t)(i:∀j (h:j<a.size),∃x t,a[j]=Value.int x t)
  (q:A.units<KD) (h:∀c:Bool,Q (.bool c) s):kw (qb prog w) A (q4 .Lt (.ref l) (.ref b)) Q E s:=by
 obtain⟨⟨cls,dd,data,sl⟩,ho,hc,n,hd⟩:=id hl;obtain⟨⟨o,k,data2,m⟩,d,e,r,f⟩:=id p;simp only at hc hd e f;subst hc hd e f;exact richCompare_meets_room (op:=.Lt) ⟨_,ho,rfl⟩ ⟨_,d,rfl⟩ F.slot_list_lt F.entry_list_lt (F.args_list_lt_2 _ _) (l8 l b items a n r dd k sl m g i)
  ⟨ho,d,λc=>show Value.bool c≠Value.notImplemented/\Q (.bool c) s from⟨(λx=>nomatch x),h c⟩⟩ q
end
def EM(h:bd)(v:as):Prop:=∃(a:ap) (o:Obj) (n:Nat) (x:Int) (t:Tok) (l:ap) (b:Array as) (ns:List Int) (c:List ap),v=.ref a/\h.get? a=some o/\o.cls=.type "tuple" /\ o.data=.seq #[.int x t,.ref l] n/\h.IsList l b/\(∀j (h:j<b.size),∃x t,b[j]=Value.int x t)/\Reads h (.ref l) (.list (ns.map PyData.int)) c
def Bj(d:ab):Prop:=∃(n:Int) (ns:List Int),d=.tuple [.int n,.list (ns.map .int)]
section
variable {X:Cx}{pins:List (ap×Obj)}{σ:St}{H:Hp}{s:ba}
theorem kt:∀{ns:List Int}{vs:List V}{us:List as},DVs X.K H vs (ns.map .int)->aH vs us->∀j (h:j<us.length),∃x t,us[j]=Value.int x t
 | [],_,_,.nil,.nil,j,h=>by simp at h
 | n::ns,_,_,.cons d q,.cons r t,0,h=>by
  cases d;obtain⟨t,rfl⟩:=r;exact⟨_,_,rfl⟩
 | n::ns,_,_,.cons d q,.cons r t,j+1,h=>by
  obtain⟨x,u,e⟩:=kt q t j (by simpa using h);exact⟨x,u,by simpa using e⟩
theorem DY(I:Inv X pins σ H s){v:V}{d:ab}{u:as}(hd:DV X.K H v d)(r:be v u)(k:Bj d):EM s.heap u:=by
 obtain⟨n,ns,rfl⟩:=k;cases hd with
 | @tup a xs _ h q =>
  cases (show _=Value.ref a from r);obtain⟨i,rv,⟨o,e,c,m,hd⟩,_⟩:=I.tuple h;cases q with
  | cons p b =>
   cases b with
   | cons b w =>
    cases w;cases p;cases rv with
    | cons x rv =>
     cases rv with
     | cons g rv =>
      cases rv;obtain⟨t,rfl⟩:=x;obtain⟨y,z⟩:=b.reads I g (by simpa only[PyData.canLay0] using fS _);cases b with
      | @lst l ys _ h2 b =>
       cases (show _=Value.ref l from g);obtain⟨f,A,pl,_⟩:=I.list h2;exact⟨a,o,m,n,t,l,f.toArray,ns,y,rfl,e,c,hd,pl.isList,λj hj=>kt b A j (by simpa using hj),z⟩
theorem uK(I:Inv X pins σ H s):∀{vs:List V}{ds:List ab}{us:List as},DVs X.K H vs ds->aH vs us->(∀d∈ds,Bj d)->∀u∈us,EM s.heap u
 | _,_,_,.nil,.nil,_,u,a=>by simp at a
 | _,_,_,.cons d q,.cons r t,k,u,a=>by
  rcases IR.mp a with rfl|a;exact DY I d r (k _ (by simp));exact uK I q t (λd hd=>k d (by simp[hd])) u a
end
section
theorem jE{h:bd}:∀{us:List as},(∀u∈us,EM h u)->∃fs,KatTups h us fs/\fs.length=us.length/\∀f∈fs,∃x t,f=Value.int x t
 | [],_=>⟨[],.nil,rfl,λf b=>by simp at b⟩
 | u::us,k=>by
  obtain⟨fs,h1,h2,h3⟩:=jE (us:=us) λv hv=>k v (by simp[hv]);obtain⟨a,o,n,x,t,l,g,ns,i,rfl,e,c,d,_⟩:=k u (by simp);refine⟨.int x t::fs,.cons e c d (by rfl) h1,by simp[h2],λf b=>?_⟩;rcases IR.mp b with rfl|b;exact⟨x,t,rfl⟩;exact h3 f b
end
theorem cA{α β:Type}{f:α->β}{ws bs:List β}(h:ws.Perm bs):∀t:List α,bs=t.map f->∃t':List α,t'.Perm t/\ws=t'.map f:=by
 induction h with
 | nil =>
  intro t e;cases t with
  | nil=>exact⟨[],.refl _,rfl⟩
  | cons _ _=>cases e
 | cons x _ a =>
  intro t e;cases t with
  | nil=>cases e
  | cons y t =>
   injection e with e1 e2;obtain⟨t',p,e'⟩:=a t e2;exact⟨y::t',p.cons y,by rw[e1,e'];rfl⟩
 | swap x y l =>
  intro t e
  match t,e with
  | z1::z2::t,e =>
   injection e with e1 e2;injection e2 with e2 e3;exact⟨z2::z1::t,.swap ..,by rw[e1,e2,e3];rfl⟩
 | trans _ _ ih1 ih2 =>
  intro t e;obtain⟨b,c,e1⟩:=ih2 t e;obtain⟨d,p2,e2⟩:=ih1 b e1;exact⟨d,p2.trans c,e2⟩
theorem nh:∀{t:List (as×V×ab)},(∀x∈t,be x.2.1 x.1)->aH (t.map (·.2.1)) (t.map (·.1))
 | [],_=>.nil
 | x::t,h=>.cons (h x (by simp)) (nh λy a=>h y (by simp[a]))
theorem jM:∀{vs:List V}{us:List as}{ds:List ab},aH vs us->∀x∈us.zip (vs.zip ds),be x.2.1 x.1
 | _,_,_,.nil,x,h=>by simp at h
 | _,_,[],.cons r t,x,h=>by simp at h
 | _,_,d::ds,.cons r t,x,h=>by
  simp only[List.zip_cons_cons] at h;rcases IR.mp h with rfl|h;exact r;exact jM t x h
theorem BG{K:ca}{H:Hp}{vs:List V}{ds:List ab}(h:DVs K H vs ds):vs.length=ds.length:=DVs.ind (C:=λv d=>v.length=d.length) rfl (λ_ _ i=>by rw[Jf,Jf,i]) h
theorem oU{K:ca}{N:ap->Prop}{H:Hp}{vs:List V}{ds:List ab}(h:DNs K N H vs ds):∀z∈vs.zip ds,DN K N H z.1 z.2:=DNs.ind (C:=λvs ds=>∀z∈vs.zip ds,DN K N H z.1 z.2) (λz h=>by simp at h) (λd _ i z h=>by
  simp only[List.zip_cons_cons] at h;rcases IR.mp h with rfl|h;exact d;exact i z h) h
theorem oV{K:ca}{N:ap->Prop}{H:Hp}:∀{a:List (V×ab)},(∀z∈a,DN K N H z.1 z.2)->DNs K N H (a.map (·.1)) (a.map (·.2))
 | [],_=>.nil
 | x::t,h=>.cons (h x (by simp)) (oV λy b=>h y (by simp[b]))
section
variable {X:Cx}
theorem on{j p3 p4}:PE X (.UnaryOp .USub (.Constant (.int 1) j p3) p4) (tC (.int (-1))):=(Dl kW lF).imp λσ H Q h=>⟨1,rfl,h⟩
end
open PySem.Calls
section
variable {prog:q3}{w:zb}{A:Around}
theorem sf{E:as->ba->Prop}{s:ba}{id:String}{b:Builtin}{args:List as}{a:List (bx×as)}{Q:as->ba->Prop}(hk:builtinKind id=none)(d:plainId id=true)
  (g:entryFor table id=some b) (c:argsOk id ⟨args,a⟩)
  (hc:kw (qb prog w) A.in1 (b ⟨args,a⟩) (λfin s'=>match fin with
   | .done f=>(match (Except.ok f:Q2) with|.ok (.ret v)=>Q v s'|.ok _=>False|.error e=>E e s')
   | .again c'=>c'.quiet=true/\KM (qb prog w) A c' (λr s'=>match r with|.ok (.ret v)=>Q v s'|.ok _=>False|.error e=>E e s') s') E s) :
  kw (qb prog w) A (call (.builtin id) args a) Q E s:=by
 refine Zd (codeAny_call_builtin d g ?_);simp only[checkBuiltinCall,hk];cases hsig:Manifest.signature? id with
 | none=>exact ke hc
 | some sig =>
  simp only[argsOk,hsig] at c;have h2:Bind.checkArgs id sig ⟨args,a⟩=pure ():=c;show kw _ A.in1 (Bind.checkArgs id sig ⟨args,a⟩) _ _ s;rw[h2];exact ke hc
end
section
variable {ds:List ab}{ix:List (Option Nat)}{g:DG}{te:DE}{env:List Sl}{R:Sl->List Sl->Prop}
theorem zr(P:ab->Prop)(hz:ds.length<=1000000)(h:∀i,(h:i<ds.length)->∀Q:ab->Prop,(∀d,P d->Q d)->g ds[i] (fm ix env) λb=>te b λs c=>∃d,aV c s=some d/\Q d)
  (e:∀rs:List ab,rs.length=ds.length->(∀d∈rs,P d)->R (.ow rs) env):CD ds ix g xX te env R:=by
 refine⟨λi rs=>rs.length=i/\i<=ds.length/\∀d∈rs,P d,⟨rfl,Jb _,by simp⟩,λi rs hi w=>?_,λrs w=>e rs w.1 w.2.2⟩;obtain⟨a,j,f⟩:=w;refine⟨by rw[a];exact IY (by omega) ae,?_⟩;have:=h i hi (λd=>(rs++[d]).length=i+1/\i+1<=ds.length/\∀x∈rs++[d],P x) λd hd=>⟨by simp[a],hi,λx hx=>by
  rcases II.mp hx with hx|hx;exact f x hx;rw[IG.mp hx];exact hd⟩
 simpa only[xX,if_true] using this
end
theorem kK{p:Int->Prop}:∀{rs:List ab},(∀d∈rs,∃x:Int,d=.int x/\p x)->∃ns:List Int,rs=li ns/\∀x∈ns,p x
 | [],_=>⟨[],rfl,by simp⟩
 | d :: rs,h=>by
  obtain⟨ns,rfl,h2⟩:=kK (rs:=rs) λe b=>h e (by simp[b]);obtain⟨x,rfl,hx⟩:=h d (by simp);exact⟨x::ns,rfl,λy a=>by
   rcases IR.mp a with rfl|a;exact hx;exact h2 y a⟩
section
variable {CX:CXT}{P:q3}{w:zb}{K:ca}{mg:bx->Option as}{base:bd}{k:Nat}{f c':ap}{qual:bx}{params:QK}{body:bb}{scope:KL}{pm ctv:as}{N ps:List bx}
 {A : Around}{outer:List Env}{s:ba}{H:Hp}{us:List as}{vs:List V}{Q:VK}{E:XK}{t:TE}
theorem A8(S:ak N ps scope)(h:b9 (k+1) A)(c:sy P w K mg base A outer s H)(ho:s.heap.get? f=some (QT "<lambda>" qual params body scope [] pm c' ctv))(d:s.heap.CodeRec (.ref c') qual)
  (i:Qj (kla_fn "<lambda>" qual params body scope [] pm (.ref c') ctv) ⟨us,[]⟩=pure (ps.zip us)) (r:aH vs us) (hl:vs.length=ps.length)
  (ht:PE (sC CX P w K mg base N qual scope f (.ref c') A outer s H E) body t) (j:t (start N vs) H Q):KM (qb P w) A (.call (.ref f) ⟨us,[]⟩) (CR CX outer P w H s Q E) s:=by
 have g:s.heap.NoLimit:=c.mod.nolimit.keeps λb o e=>(c.bs b o e).1;have a:∀y∈ps.zip us,scope.names.lookup y.1=some .local\/(scope.names.lookup y.1=some .cell/\((Kx (s.heap.objs.size+1) scope.names []).lookup y.1).isSome=true):=λ⟨n,v⟩ l=>by
  rcases S.par n (Kg l).1 with q|q;exact .inl q;exact .inr ⟨q,PySem.W.cellsFrom_some _ _ _ (.inl q)⟩
 refine kla_callFunE h.depth ho rfl S.co S.gen rfl d ?_;rw[i];refine ke ?_;refine Zc S.kind a λenv m s1 x=>?_;subst m;refine⟨g.keeps x.toInCall.keep,kla_codeExpr ?_⟩;have I:Inv (sC CX P w K mg base N qual scope f (.ref c') A outer s H E) [] (start N vs) H s1:=mC S h.hd c hl r x;refine z3 (ht [] s1 (start N vs) H _ I j) (λu s' hs=>?_) λe s' hs=>hs;obtain⟨v,H',J,rv,q⟩:=hs;exact⟨v,H',J.os,J.bare,J.base,J.hok,rv,q⟩
end
theorem sk{pos:Pos}{a b:Int}{c cv:as}(l:List as)(h:TriplesOk l)(hn:QI pos (l++[K4 a,K4 b,c])=some cv):QI pos l=some cv\/cv=c:=by
 fun_induction TriplesOk l with
 | case1 =>
  simp only[Kt,QI,K4] at hn;split at hn;cases hn;exact .inr rfl;cases hn
 | case2 e t f u x rest d =>
  simp only[List.cons_append,QI] at hn ⊢;split at hn;rename_i hc;rw[if_pos hc];exact .inl hn;rename_i hc;rw[if_neg hc];exact d h hn
 | case3 l h1 h2=>exact h.elim
def EQ(H:Hp)(c:ap)(q:bx):Prop:=∃oc u vs t,H c=some (.frz oc u)/\oc.data=.fields vs/\vs[1]? = some (.str q t)
def ym(X:Cx):Prop:=∃c T,X.env.code=.ref c/\CodeHd X.base c T/\jb X.K T (X.env.qual ++ "<lambda>")
section
variable {X:Cx}{pins:List (ap×Obj)}{σ:St}{H:Hp}{s:ba}
theorem Inv.grow(I:Inv X pins σ H s){T c':ap}{q:bx}{h':bd}{oc:Obj}{vs:Array as}{t:Tok}{tk:Nat}(a:H T=some (.tbl q))(hx:Heap.ExtBut T s.heap h')(hc:s.heap.objs.size<=c')(ho:h'.get? c'=some oc)(hd:oc.data=.fields vs)(hv:vs[1]? = some (.str q t))
  (ht:B8 (upd H c' (.frz oc (.own 0))) h' T q):Inv X pins σ (upd H c' (.frz oc (.own 0))) { s with heap:=h',toks:=tk }/\aS H (upd H c' (.frz oc (.own 0))):=by
 have hn:H c'=none:=I.hok.fresh hc;have f:T<s.heap.objs.size:=I.hok.lt a;have i:T≠c':=Jd (IY f hc);obtain⟨j,k,_⟩:=id ht;refine⟨I.un (t':=tk) ⟨λb o e n _ _=>?_,λb o e n _ _=>⟨o.slots,?_⟩,λb o e n _=>?_,λb o e _=>?_,λb xs e=>?_,λb o u e=>?_,λb q e=>?_⟩ (λb u e=>?_),λb o e=>by rw[al (au e hn)];exact e⟩;exact hx b o (λz=>by rw[z,a] at n;cases n) e;exact hx b o (λz=>by rw[z,a] at n;cases n) e;rw[al (Jd (IY (IX e) hc))];exact n;by_cases z:b=T;subst z;exact⟨_,k⟩;exact⟨o,hx b o z e⟩;rw[al (au e hn)];exact e;rw[al (au e hn)];exact e;rw[al (au e hn)];exact e;by_cases h:b=c';subst h;rw[aq] at e;cases e;exact⟨ho,_,ho⟩;rw[al h] at e;by_cases d:b=T;subst d;rw[a] at e;cases e;exact ht;refine(I.hok b u e).stay (λc v g q=>hx c v ?_ q) (λc q=>by rw[al (au q hn)];exact q) λc o _ q=>by rw[al (au q hn)];exact q
 rcases g with z|z;rw[z];exact d
 exactλl=>by rw[l,a] at z;cases z
end
section
variable {X:Cx}{pins:List (ap×Obj)}{σ:St}{H:Hp}{s:ba}
def vP(X:Cx)(pins:List (ap×Obj))(σ:St)(H:Hp)(s:ba)(d:ab)(u:as)(s':ba):Prop :=
 ∃H' v,Inv X pins σ H' s'/\aS H H'/\be v u/\DN X.K N0 H' v d/\∀b o,hV X pins H b->s.heap.get? b=some o->s'.heap.get? b=some o/\H' b=none
end
section
variable {X:Cx}{pins:List (ap×Obj)}
theorem uX{H H':Hp}{b:ap}(h:hV X pins H b)(n:H' b=none):hV X pins H' b:=⟨n,h.2⟩
theorem sI{xs:List V}{us:List as}{x:V}{u:as}(h:aH xs us)(q:be x u):aH (xs++[x]) (us++[u]):=by
 induction h with
 | nil=>exact .cons q .nil
 | cons r _ i=>exact .cons r i
end
section
def D9(d:ab):Prop:=∃ns:List Int,d=.list (ns.map .int)
end
section
variable {P:q3}{w:zb}{K:ca}{mg:bx->Option as}{base:bd}
def sx(K:ca)(base:bd)(x:bx)(fd:kN):Prop:=∃c T,fd.code=.ref c/\CodeHd base c T/\jb K T (x ++ ".<locals>.<lambda>")
theorem FU{x:bx}{st:Stmt}{f:ap}{fd:kN}{N ps:List bx}{k:Nat}{sp:DSp}(F:Fun K x x st f fd)(S:ak N ps (ac st))(len:∀ss R,sp ss R->ss.length=ps.length)(hN:ps.length<=N.length)
  (b:∀(cdv:as) (a:cdv=fd.code) (A:Around) (outer:List Env) (s:ba) (H:Hp) (E:XK),b9 k (A.deeper (Qq x (ac st) s.heap.objs.size f cdv)) ->
   ∃t:DS,PSs (sC CX0 P w K mg base N x (ac st) f cdv A outer s H E).nox (bI st) (upS K t)/\∀ss R,sp ss R->t (oS ps.length R) (cw N.length ss)):a9 P w K mg base CX0 (k+1) f fd ps (spD K sp):=by obtain⟨oc,od,kV,doc,pm,an,cdv,ct,osl,rfl,c,a⟩:=F.ex;exact HK (λA outer s H E d=>b cdv rfl A outer s H E d) c a S len hN
def vQ(vs:Array as)(c T:ap):Prop:=vs[11]? = some (.ref T)/\vs.getD 11 .none=.ref T/\(∃a d,vs.getD 18 .none=.str a d)/\(∃i t,vs.getD 7 .none=.int i t)/\(∃b,vs.getD 9 .none=.bool b)/\(∃i t,vs.getD 10 .none=.int i t)/\c≠T
theorem DQ{x:bx}{f c T:ap}{fd:kN}{oc:as}{od e:Option ap}{osl g:Array (Option as)}{vs:Array as}(hx:x∈d8)(a:cb K ky x=some (some (.ref f)))(l:K.lookup f=some ⟨oc,od,.func fd,osl⟩)(hc:fd.code=.ref c)
  (h:K.lookup c=some ⟨.type "code",e,.fields vs,g⟩) (k:vQ vs c T) (m:K.In base):sx K base x fd:=by obtain⟨h1,h2,⟨d,n,h3⟩,⟨i,t,o⟩,⟨b,p⟩,⟨j,u,q⟩,r⟩:=k;exact⟨c,T,hc,⟨_,vs,d,n,i,t,b,j,u,m _ _ h,rfl,rfl,h1,h2,h3,o,p,q,r⟩,x,hx,f,_,fd,c,_,vs,a,l,rfl,hc,h,rfl,h1,rfl⟩
structure sw(K:ca)(h:bd)(x:bx)(c T:ap):Prop where
 tab:∀T0,(∃f o fd c0 oc vs,cb K ky x=some (some (.ref f))/\K.lookup f=some o/\o.data=.func fd/\fd.code=.ref c0/\K.lookup c0=some oc/\oc.data=.fields vs/\vs[11]? = some (.ref T0))->T0=T
 at':h.get? T=some { cls:=.none,data:=.fields #[] }/\K.lookup T=none/\∃c,h.TableAt c T #[]
theorem ko{q:q3}{b:List bx}{r:(bx->Option as)->bd->Prop}{s₀:ba}{mb:bx->Option as}{h:bd}{d:DefRec}{x:bx}{f c T:ap}{fd:kN}{oc:as}{od i:Option ap}{osl j:Array (Option as)}{vs:Array as}
  (G : PySem.W.Ground q b [] r w s₀ mg mb h) (s:K.In h) (t:(recsOf q).find? (λe=>e.name==x)=some d)
  (a : cb K ky x=some (some (.ref f))) (l:K.lookup f=some ⟨oc,od,.func fd,osl⟩) (hc:fd.code=.ref c) (k:K.lookup c=some ⟨.type "code",i,.fields vs,j⟩) (m:vQ vs c T) (hn:K.lookup T=none):sw K h x c T:=by
 have ht:tabIn K x=some (c,T):=by unfold tabIn;rw[a];simp only[l,hc,k,m.1]
 obtain⟨C,g⟩:=tab_of G.T s t ht;refine⟨λT0 e=>?_,g,hn,c,C.tab g⟩;obtain⟨A,B,u,c0,v,y,a1,a2,a3,n,o,z,p⟩:=e;rw[a] at a1;cases a1;rw[l] at a2;cases a2;cases a3;rw[hc] at n;cases n;rw[k] at o;cases o;cases z;rw[m.1] at p;cases p;rfl
theorem zO{h:bd}(ps:List (bx×ap×ap))(a:∀p∈ps,sw K h p.1 p.2.1 p.2.2)(nd:(ps.map λp=>p.2.2).Nodup)(hL:∀n∈d8,n∈ps.map (·.1)\/cb K ky n=some none) :
  ∃tb:List (ap×bx),(∀b q,tb.lookup b=some q->h.get? b=some { cls:=.none,data:=.fields #[] }/\K.lookup b=none/\∃c,h.TableAt c b #[])/\∀T q,jb K T q->tb.lookup T=some q:=by
 refine⟨ps.map λp=>(p.2.2,p.1 ++ ".<locals>.<lambda>"),λb r e=>?_,λT0 r L=>?_⟩;have : ∃p∈ps,p.2.2=b:=by
  clear a nd hL
  induction ps with
  | nil=>cases e
  | cons p ps f =>
   rw[IU,Js] at e;by_cases l:b=p.2.2;exact⟨p,IL,l.symm⟩;have h1:(b==p.2.2)=false:=by simpa using l
   rw[h1] at e;obtain⟨g,m,e'⟩:=f e;exact⟨g,IM _ m,e'⟩
 obtain⟨p,m,rfl⟩:=this;exact(a p m).at';obtain⟨n,s,t,u,i,c0,j,k,a1,a2,a3,v,w,x,o,rfl⟩:=L;rcases hL n s with d|d;obtain⟨p,m,rfl⟩:=IZ.mp d;have e:=(a p m).tab T0 ⟨t,u,i,c0,j,k,a1,a2,a3,v,w,x,o⟩;subst e;clear a hL a1 o d
 induction ps with
 | nil=>cases m
 | cons g ps f =>
  rw[IU,Js];rw[IU,Jr] at nd;rcases IR.mp m with rfl|m;simp;have h1:(p.2.2==g.2.2)=false:=by
   simp only[beq_eq_false_iff_ne,ne_eq]
   exactλz=>nd.1 (z▸Kn m)
  rw[h1];exact f nd.2 m
 rw[d] at a1;cases a1
theorem A9{h:bd}:∀p∈([]:List (bx×ap×ap)),sw K h p.1 p.2.1 p.2.2:=λp a=>by cases a
theorem kn{h:bd}{x:bx}{c T:ap}{ps:List (bx×ap×ap)}(h1:sw K h x c T)(h2:∀p∈ps,sw K h p.1 p.2.1 p.2.2):∀p∈(x,c,T)::ps,sw K h p.1 p.2.1 p.2.2:=λp a=>by
 rcases IR.mp a with rfl|a;exact h1;exact h2 p a
theorem Ba{P:bx->Prop}(h1:P "choices")(h2:P "full_rows")(h3:P "chain_plan")(a:P "least_ranks"):∀n∈d8,P n:=λn hn=>by
 simp only[d8,IR,Jk,or_false] at hn;rcases hn with rfl|rfl|rfl|rfl <;> assumption
end
open PySem.AutoSeq1 (wpAny_loadPart')
def At(items:Array as)(ns:List Int):Prop:=ns.length=items.size/\∀j (h:j<items.size),∃t,items[j]=Value.int (ns.getD j 0) t
open Builtin.ObjectAttr
abbrev GP:=List Sl->(Sl->List Sl->Prop)->(Int->Prop)->Prop
theorem us1{Q:List as->Prop}{us:List as}(l:us.length=1)(h:∀a:as,Q [a]):Q us:=by obtain⟨a,rfl⟩:=sB l;exact h a
theorem us2{Q:List as->Prop}{us:List as}(l:us.length=2)(h:∀a b:as,Q [a,b]):Q us:=by obtain⟨a,b,rfl⟩:=EZ l;exact h a b
theorem us3{Q:List as->Prop}{us:List as}(l:us.length=3)(h:∀a b c:as,Q [a,b,c]):Q us:=by obtain⟨a,b,c,rfl⟩:=HZ l;exact h a b c
theorem t8:∀{a b:List Int},a.map PyData.int=b.map PyData.int->a=b
 | [],[],_=>rfl
 | [],_::_,e=>by simp at e
 | _::_,[],e=>by simp at e
 | x::xs,y::ys,e=>by
  rw[IU,IU] at e;injection e with e1 e2;injection e1 with e1;rw[e1,t8 e2]
theorem wm{k k':aL}(e:dD k=dD k'):k=k':=by obtain⟨d,l⟩:=k;obtain⟨d',l'⟩:=k';simp only[dD,PyData.tuple.injEq,List.cons.injEq,PyData.int.injEq,and_true] at e;rw[e.1,t8 e.2]
theorem hJ:∀{kvs a:List (aL×ab)},kvs.map (λp=>(dD p.1,p.2))=a.map (λp=>(dD p.1,p.2))->kvs=a
 | [],[],_=>rfl
 | [],_::_,e=>by simp at e
 | _::_,[],e=>by simp at e
 | (k,v)::xs,(k',v')::ys,e=>by
  rw[IU,IU] at e;injection e with e1 e2;injection e1 with e1 e3;have e1:=wm e1;simp only at e1 e3;rw[e1,e3,hJ e2]
section
variable {K:ca}{M P N:ap->Prop}{H0 H:Hp}{A B:List Ent}{σ0 σ:St}{env:List Sl}{ts:List (V×Sl)}{v:V}{d:ab}{kvs:List (aL×ab)}
def Fn(K:ca)(N:ap->Prop)(H:Hp)(v:V)(kvs:List (aL×ab)):Prop :=
 ∃a es,v=.ref a/\H a=some (.ext (ce a es))/\DNs K N H (es.map λp=>V.ref p.2.1) (kvs.map λp=>dD p.1)/\DNs K N H (es.map λp=>p.2.2) (kvs.map λp=>p.2)/\es.map (λp=>p.1)=kvs.map (λp=>p.1)
theorem Fn.dctV(h:Fn K N H v kvs):GO K H v kvs:=by obtain⟨a,es,e,b,hk,hv,c⟩:=h;exact⟨a,es,e,b,hk.dv,hv.dv,c⟩
theorem xN{ds:List ab}(e:fzD ds=eD kvs):False:=by
 cases kvs with
 | nil=>cases e
 | cons p kvs=>simp[fzD,eD,dD] at e
theorem jI{p:ab×ab}{l:List (ab×ab)}(a:p.1=.none)(e:.dict (p::l)=eD kvs):False:=by
 cases kvs with
 | nil=>cases e
 | cons q kvs =>
  simp only[eD,IU,PyData.dict.injEq,List.cons.injEq] at e;rw[e.1] at a;cases a
theorem DN.dct_of(h:DN K N H v d)(e:d=eD kvs):Fn K N H v kvs:=by
 cases h with
 | fz _=>exact(xN e).elim
 | idc _ _ _=>exact(jI rfl e).elim
 | dsk _ _ _ _ _=>exact(jI rfl e).elim
 | @dct a es b n c hk hv f =>
  injection e with e;have e:=hJ e;subst e;exact⟨a,es,rfl,c,hk,hv,f⟩
 | _=>cases e
theorem Vw.dct_of(h:Vw K N H v d)(e:d=eD kvs):Fn K N H v kvs:=by
 cases h with
 | dn h=>exact h.dct_of e
 | ow h q=>cases e
 | @dct a es b c hk hv f =>
  injection e with e;have e:=hJ e;subst e;exact⟨a,es,rfl,c,hk,hv,f⟩
theorem OT.dct_of{S:List ap}(h:OT K N H v d S)(e:d=eD kvs):∃a es,v=.ref a/\S=[a]/\H a=some (.ext (ce a es))/\DNs K N H (es.map λp=>V.ref p.2.1) (kvs.map λp=>dD p.1)/\DNs K N H (es.map λp=>p.2.2) (kvs.map λp=>p.2)/\es.map (λp=>p.1)=kvs.map (λp=>p.1):=by
 cases h with
 | fz _=>exact(xN e).elim
 | @dct a es b c hk hv f =>
  injection e with e;have e:=hJ e;subst e;exact⟨a,es,rfl,rfl,c,hk,hv,f⟩
 | _=>cases e
def Gd:G2:=λd e R=>∃k kvs,d=dD k/\e=eD kvs/\R (.bool (cu kvs k).isSome)
def oP:G2:=λd e R=>∃k kvs,d=dD k/\e=eD kvs/\R (.bool (!(cu kvs k).isSome))
def E7:G2:=λd e R=>∃kvs k x,d=eD kvs/\e=dD k/\cu kvs k=some x/\R x
theorem HW:bq K (FJ K) Gd:=by rintro N H x y d e R Q a b ⟨k,kvs,rfl,rfl,c⟩ f;exact⟨k,kvs,a.dv,(b.dct_of rfl).dctV,f _ _ c (.bl _)⟩
theorem oJ:bq K (nY K) oP:=by rintro N H x y d e R Q a b ⟨k,kvs,rfl,rfl,c⟩ f;exact⟨k,kvs,a.dv,(b.dct_of rfl).dctV,f _ _ c (.bl _)⟩
theorem HR:bq K (FH K) E7:=by rintro N H x y d e R Q b c ⟨kvs,k,z,rfl,rfl,hg,f⟩ g;obtain⟨a,es,rfl,h,hk,hv,j⟩:=b.dct_of rfl;refine⟨k,a,es,kvs,rfl,c.dv,h,hk.dv,hv.dv,j,by rw[hg];rfl,λi v d hd h1 h2=>?_⟩;rw[hg] at hd;cases hd;obtain⟨l,e1,dn⟩:=hv.get h1;rw[h2] at e1;cases e1;exact g _ _ f dn
theorem vJ:∀{es:List (aL×ap×V)}{kvs:List (aL×ab)} (k:aL),es.map (λp=>p.1)=kvs.map (λp=>p.1)->(es.any λp=>decide (p.1=k))=(cu kvs k).isSome
 | [],[],k,_=>rfl
 | [],_::_,k,e=>by simp at e
 | _::_,[],k,e=>by simp at e
 | p::es,q::kvs,k,e=>by
  rw[IU,IU] at e;injection e with e1 e2;rw[List.any_cons,vJ k e2,bz,e1];by_cases h:q.1=k <;> simp[h]
theorem wJ{es:List (aL×ap×V)}{kvs:List (aL×ab)}(k:aL)(v:V)(d:ab)(e:es.map (λp=>p.1)=kvs.map (λp=>p.1))(h1:DNs K N H (es.map λp=>V.ref p.2.1) (kvs.map λp=>dD p.1))(h2:DNs K N H (es.map λp=>p.2.2) (kvs.map λp=>p.2))(dn:DN K N H v d) :
    (es.map λp=>if p.1=k then (p.1,p.2.1,v) else p).map (λp=>p.1)=(kvs.map λp=>if p.1=k then (p.1,d) else p).map (λp=>p.1) /\
    DNs K N H ((es.map λp=>if p.1=k then (p.1,p.2.1,v) else p).map λp=>V.ref p.2.1) ((kvs.map λp=>if p.1=k then (p.1,d) else p).map λp=>dD p.1) /\
    DNs K N H ((es.map λp=>if p.1=k then (p.1,p.2.1,v) else p).map λp=>p.2.2) ((kvs.map λp=>if p.1=k then (p.1,d) else p).map λp=>p.2):=by
  induction es generalizing kvs with
  | nil =>
    cases kvs with
    | nil=>exact⟨rfl,.nil,.nil⟩
    | cons q kvs=>simp at e
  | cons p es c =>
   cases kvs with
   | nil=>simp at e
   | cons q kvs =>
    rw[IU,IU] at e h1 h2;injection e with e1 e2;cases h1 with
    | cons a1 a2 =>
      cases h2 with
      | cons f g =>
        obtain⟨i1,i2,b⟩:=c e2 a2 g;simp only[IU];by_cases h:q.1=k;have a:p.1=k:=e1.trans h;simp only[h,a,if_true];refine⟨by rw[i1],.cons ?_ i2,.cons dn b⟩;rw[<-h];exact a1;have a:¬p.1=k:=λz=>h (e1.symm.trans z);simp only[h,a,if_false];exact⟨by rw[i1,e1],.cons a1 i2,.cons f b⟩
theorem Aw{es:List (aL×ap×V)}{k:aL}{b:ap}(e:es.map (λp=>p.1)=kvs.map (λp=>p.1))(h1:DNs K N H (es.map λp=>V.ref p.2.1) (kvs.map λp=>dD p.1))(h2:DNs K N H (es.map λp=>p.2.2) (kvs.map λp=>p.2))(a:DN K N H (.ref b) (dD k))(dn:DN K N H v d) :
  (tT es k b v).map (λp=>p.1)=(kO kvs k d).map (λp=>p.1)/\DNs K N H ((tT es k b v).map λp=>V.ref p.2.1) ((kO kvs k d).map λp=>dD p.1)/\DNs K N H ((tT es k b v).map λp=>p.2.2) ((kO kvs k d).map λp=>p.2):=by unfold tT kO;rw[vJ k e];by_cases c:(cu kvs k).isSome=true;rw[if_pos c,if_pos c];exact wJ k v d e h1 h2 dn;rw[if_neg c,if_neg c];simp only[Jm,IU,J5];exact⟨by rw[e],h1.app (.cons a .nil),h2.app (.cons dn .nil)⟩
theorem aU.retreeR{S S' R:List ap}{d':ab}{a:ap}{o:HO}(h:aU K M P H0 (A++(some v,.tr S d)::B) H)(l:a∈S)(pm:S.Perm (S'++R))(p:OT K (Nw M (A++(some v,.tr S d)::B)) (upd H a o) v d' S') :
  aU K M P H0 (A++(some v,.tr S' d')::B) (upd H a o):=by
 obtain⟨v',ev,ot,w⟩:=h.tr _ _ _ (IE _ IL);cases ev;have r:oas (A++(some v,Sl.tr S d)::B)=oas A++(S++oas B):=by rw[ah,aj,aK]
 have nd:=h.nd;rw[r] at nd;obtain⟨F,C,D⟩:=IT.mp nd;obtain⟨G,I,E⟩:=IT.mp C;have na:Nw M (A++(some v,Sl.tr S d)::B) a:=.inr (by rw[r];exact IE _ (IJ _ l));have n:aO (Nw M (A++(some v,Sl.tr S d)::B)) H (upd H a o):=aO.own na;have i:oas (A++(some v,Sl.tr S' d')::B)=oas A++(S'++oas B):=by rw[ah,aj,aK]
 have j:∀b,b∈S'->b∈S:=λb z=>pm.mem_iff.mpr (IJ _ z);have up:∀b,Nw M (A++(some v,Sl.tr S' d')::B) b->Nw M (A++(some v,Sl.tr S d)::B) b:=Nw.sub λb z=>by
  rw[i] at z;rw[r];rcases II.mp z with z|z;exact IJ _ z;rcases II.mp z with z|z;exact IE _ (IJ _ (j b z));exact IE _ (IE _ z)
 have e:∀(b:ap) (u:HO),upd H a o b=some u->Nw M (A++(some v,Sl.tr S' d')::B) b->Nw M (A++(some v,Sl.tr S d)::B) b:=λb _ _ z=>up b z;have c:∀x t,(x,t)∈A\/(x,t)∈B->(x,t)∈A++(some v,Sl.tr S d)::B:=λx t m=>by
  rcases m with m|m;exact IJ _ m;exact IE _ (IM _ m)
 have f:∀x t,(x,t)∈A++(some v,Sl.tr S' d')::B->(x,t)=(some v,Sl.tr S' d')\/((x,t)∈A\/(x,t)∈B):=λx t m=>by
  rcases II.mp m with m|m;exact .inr (.inl m);rcases IR.mp m with m|m;exact .inl m;exact .inr (.inr m)
 have other:∀x t b,(x,t)∈A\/(x,t)∈B->b∈cH (x,t)->b≠a:=λx t b m y z=>by
  subst z;rcases m with m|m;exact D b (aT.mpr ⟨_,m,y⟩) b (IJ _ l) rfl;exact E b l b (aT.mpr ⟨_,m,y⟩) rfl
 refine⟨h.keep.put (w a l),λb q z=>?_,h.mt,h.pm,λx d' m=>?_,λx d' m=>?_,λx d' m=>?_,λx S2 d' m=>?_,?_⟩;by_cases g:b=a;subst g;rw[aq] at z;cases z;rw[al g] at z;exact h.live b q z;rcases f _ _ m with m|m;cases m;obtain⟨w',e1,dn⟩:=h.fr x d' (c _ _ m);exact⟨w',e1,(dn.keep n).to e⟩;rcases f _ _ m with m|m;cases m;obtain⟨b,us2,e1,e2,dn,k⟩:=h.ow x d' (c _ _ m);subst e1;exact⟨b,us2,rfl,by rw[al (other _ _ b m (IG.mpr rfl))];exact e2,(dn.keep n).to e,k⟩;rcases f _ _ m with m|m;cases m;obtain⟨b,us2,e1,e2,dn,k⟩:=h.io x d' (c _ _ m);subst e1;exact⟨b,us2,rfl,by rw[al (other _ _ b m (IG.mpr rfl))];exact e2,(dn.keep n).to e,k⟩;rcases f _ _ m with m|m;cases m;exact⟨v,rfl,p.to e,λb g=>w b (j b g)⟩;obtain⟨w',e1,dn,k⟩:=h.tr x S2 d' (c _ _ m);subst e1;exact⟨w',rfl,(dn.keep n λb g=>al (other _ _ b m (by rw[aK];exact g))).to e,k⟩;rw[i];have s:(oas A++((S'++R)++oas B)).Nodup:=(List.Perm.append_left _ (List.Perm.append_right _ pm)).nodup_iff.mp nd;refine s.sublist (List.Sublist.append_left (List.Sublist.append_right ?_ _) _);exact List.sublist_append_left _ _
theorem Rel.retreeT{i:Nat}{S S' R:List ap}{d':ab}{a:ap}{o:HO}(h:Rel K M P H0 σ0 σ env ts H)(e:env[i]? = some (.tr S d))(ev:σ[i]? = some (some v))(f:a∈S)(pm:S.Perm (S'++R))(b:OT K (Nw M (aw σ env ts)) (upd H a o) v d' S') :
  Rel K M P H0 σ0 σ (env.set i (.tr S' d')) ts (upd H a o):=by obtain⟨x,A,B,e1,g,k⟩:=h.split e;rw[ev] at e1;cases e1;have r:=h.e;rw[g] at r b;refine⟨by rw[k];exact r.retreeR f pm b,by simp[h.len],h.vw,λj c e'=>?_⟩;by_cases hj:i=j;subst hj;have hi:i<env.length:=(IN.mp e).1;rw[Jc hi] at e';cases e';rw[Je hj] at e';exact h.ios j c e'
theorem Rel.dct{i:Nat}{S:List ap}(h:Rel K M P H0 σ0 σ env ts H)(e:env[i]? = some (.tr S (eD kvs))):∃a es,σ[i]? = some (some (.ref a))/\S=[a]/\H a=some (.ext (ce a es))/\DNs K (Nw M (aw σ env ts)) H (es.map λp=>V.ref p.2.1) (kvs.map λp=>dD p.1) /\
  DNs K (Nw M (aw σ env ts)) H (es.map λp=>p.2.2) (kvs.map λp=>p.2)/\es.map (λp=>p.1)=kvs.map (λp=>p.1):=by obtain⟨x,e1,m⟩:=h.slot e;obtain⟨v,ev,ot,_⟩:=h.e.tr _ _ _ m;obtain⟨a,es,rfl,b,c,hk,hv,d⟩:=ot.dct_of rfl;exact⟨a,es,by rw[e1,ev],b,c,hk,hv,d⟩
end
section
variable {X:Cx}{K:ca}{pos:Pos}{e:bb}{te tj:DE}
theorem Ih(hK:X.K=K)(a:X.A.units+2<KD):OpR X (q4 .In) (FJ K):=by subst hK;exact Dv a
theorem oN(hK:X.K=K)(a:X.A.units+2<KD):OpR X (q4 .NotIn) (nY K):=by subst hK;exact um a
theorem Ig(hK:X.K=K)(a:X.A.units+2<KD):IxR X (FH K):=by subst hK;exact Ij a
theorem hu2{k:Nat}{A:Around}(a:b9 k A):A.units+2<KD:=Kw (Nat.add_le_add_left (by decide:2<=64) _) a.units
def BO(i:Nat)(tj te:DE):DS:=λDD env=>te env λs1 b=>(∃S kvs,b[i]? = some (.tr S (eD kvs)))/\tj b λs2 a=>∃(S:List ap) (kvs:List (aL×ab)) (k:aL) (d:ab),
 a[i]? = some (.tr S (eD kvs))/\aV a s2=some (dD k)/\aV a s1=some d/\kvs.length<sizeLine/\DD.nx (a.set i (.tr S (eD (kO kvs k d))))
theorem pW(i:Nat){y:bx}{npos c:Pos}{j:bb}(hK:X.K=K)(J:X.A.units+2<KD)(hN:X.N[i]? = some y)(hj:PE X j (up K tj))(L:PE X e (up K te))
  (hv:Vis X.env.scope y:=by first|exact Or.inl rfl|exact Or.inr cc|exact Or.inr (Or.inr rfl)) (hd:(y==("__debug__" : bx))=false:=by decide)
  (r:(y==("__classdict__" : bx))=false:=by decide)
  (O:∀v,Qm (.Subscript (.Name y npos) j c) X.env v=(do
   let ov <-KI [v] (eval (.Name y npos) X.env)
   let iv <-KI [v,ov] (eval j X.env)
   K2 c
   KI [v,ov,iv] (Q9 ov iv v)
   release [v,ov,iv] []):=by intro _;rfl)
  (hs:Zo [.Subscript (.Name y npos) j c] e pos.line X.env=pure false:=by rfl) (hw:Zp [.Subscript (.Name y npos) j c] e X.env=pure none:=by rfl)
  (h1:(KH [.Subscript (.Name y npos) j c] X.env).map (·.2)=[Qm (.Subscript (.Name y npos) j c) X.env]:=by rfl):PS X (.Assign [.Subscript (.Name y npos) j c] e pos) (upS K (BO i tj te)):=by
 subst hK;refine(tX L (ua (bu hN hv hd r) hj (FA J) O) hs hw h1).imp λD σ H h=>?_;obtain⟨M,P,H0,σ0,env,ts,DD,nv,t,ht,ok⟩:=h;refine⟨M,P,H0,σ0,env,ts,_,t,ht,λs1 n v1 H1 h1 l=>?_⟩;obtain⟨⟨S0,E,Q⟩,h1⟩:=h1;obtain⟨a,_,q,_⟩:=l.dct Q;refine⟨.ref a,q,M,P,H0,σ0,n,ts++[(v1,s1)],_,l,h1,λs2 g F u h2 o=>?_⟩;obtain⟨S,kvs,k,d,e2,T,U,hl,V⟩:=h2;have f:Rel X.K M P H0 σ0 σ g (ts++[(v1,s1),(F,s2)]) u:=by simpa using o
 have w:=f.kept (v:=v1) (s:=s1) (by simp) U;have m:=f.kept (v:=F) (s:=s2) (by simp) T;obtain⟨a',es,p,z,W,hk,hv,C⟩:=f.drop.dct e2;rw[q] at p;cases p;obtain⟨b,xs,rfl,_,_⟩:=m.tuple;have G:es.length=kvs.length:=by have:=congrArg List.length C;simpa using this
 refine⟨k,a,b,es,kvs,rfl,rfl,m.dv,W,hk.dv,C,by omega,ok.nx _ _ _ V ?_⟩;obtain⟨Y,p2,p3⟩:=Aw (b:=b) (k:=k) C hk hv m w;have na:Nw M (aw σ g ts) a:=by obtain⟨x,A,B,e1,Z,q2⟩:=f.drop.split e2;refine .inr ?_;rw[Z,ah,aj];rw[q] at e1;cases e1;rw[aK,z];simp
 have I:aO (Nw M (aw σ g ts)) u (upd u a (.ext (ce a (tT es k b v1)))):=aO.own na;refine f.drop.retreeT (R:=[]) e2 q (by rw[z];simp) (by simp) ?_;rw[z];exact .dct aq (p2.keep I) (p3.keep I) Y
end
section
variable {K:ca}{M P N:ap->Prop}{H0 H:Hp}{E:List Ent}{σ0 σ:St}{env:List Sl}{ts:List (V×Sl)}{v:V}{d:ab}{kvs:List (aL×ab)}
theorem aU.addO(h:aU K M P H0 E H){p:ap}{o:HO}(c:H p=none)(ot:∀N,OT K N (upd H p o) (.ref p) d [p]):aU K M P H0 (E++[(some (.ref p),.tr [p] d)]) (upd H p o):=by
 have g:oas (E++[(some (.ref p),Sl.tr [p] d)])=oas E++[p]:=by rw[ah];rfl
 have i:p ∉ oas E:=λz=>by
  obtain⟨vs',q,_⟩:=h.own z;rw[c] at q;cases q
 have j:H0 p=none:=by
  cases e:H0 p with
  | none=>rfl
  | some o=>exact absurd c (h.live p (by rw[e];simp))
 have up:∀b o,H b=some o->Nw M (E++[(some (.ref p),Sl.tr [p] d)]) b->Nw M E b:=λb _ e z=>by
  rcases z with z|z;exact .inl z;rw[g] at z;rcases II.mp z with z|z;exact .inr z;rw[IG.mp z,c] at e;cases e
 have h':=h.same (aS.new (o:=o) c);refine⟨h'.keep,h'.live,h.mt,h.pm,λx d' m=>?_,λx d' m=>?_,λx d' m=>?_,λx S d' m=>?_,?_⟩;rcases II.mp m with m|m;obtain⟨v,e,dn⟩:=h.fr x d' m;exact⟨v,e,(dn.to up).keep (aO.same (aS.new c))⟩;rw[IG] at m;cases m;rcases II.mp m with m|m;obtain⟨a,ws,e,e2,dn,r⟩:=h.ow x d' m;exact⟨a,ws,e,aS.new c _ _ e2,(dn.to up).keep (aO.same (aS.new c)),r⟩;rw[IG] at m;cases m;rcases II.mp m with m|m;obtain⟨a,ws,e,e2,dn,r⟩:=h.io x d' m;exact⟨a,ws,e,aS.new c _ _ e2,(dn.to up).keep (aO.same (aS.new c)),r⟩;rw[IG] at m;cases m;rcases II.mp m with m|m;obtain⟨v,e,dn,r⟩:=h.tr x S d' m;exact⟨v,e,(dn.to up).keep (aO.same (aS.new c)) λa f=>by
  obtain⟨xs,z⟩:=dn.lives a f;rw[aS.new c _ _ z,z],r⟩
 rw[IG] at m;cases m;exact⟨_,rfl,ot _,λa f=>by rw[IG.mp f];exact j⟩;rw[g];exact IT.mpr ⟨h.nd,by simp,λa f b k=>by rw[IG.mp k];exactλz=>i (z▸f)⟩
theorem aU.addD(h:aU K M P H0 E H){p:ap}(a:H p=none):aU K M P H0 (E++[(some (.ref p),.tr [p] (eD []))]) (upd H p (.ext (ce p []))):=h.addO a λ_=>.dct (es:=[]) (kvs:=[]) aq .nil .nil rfl
theorem Rel.addD(h:Rel K M P H0 σ0 σ env ts H){p:ap}(a:H p=none):Rel K M P H0 σ0 σ env (ts++[(.ref p,.tr [p] (eD []))]) (upd H p (.ext (ce p []))):=h.withRes (h.e.addD a) rfl
end
section
variable {X:Cx}{K:ca}{pos:Pos}{e1 e2:bb}{tk tv:DE}
def BX:DE:=λenv R=>∀S,R (.tr S (eD [])) env
theorem yK:PE X (.Dict [] [] pos) (up K BX):=AN.imp λσ H Q h=>by
 obtain⟨M,P,H0,σ0,env,ts,R,a,ht,b⟩:=h
 exactλp c=>b _ _ _ _ (ht _) (a.addD c)
def BW(tk tv:DE):DE:=λenv R=>tk env λs1 b=>tv b λs2 a=>∃(k:aL) (d:ab),aV a s1=some (dD k)/\aV a s2=some d/\∀S,R (.tr S (eD [(k,d)])) a
theorem C5(hK:X.K=K)(y:X.A.units+2<KD)(hk:PE X e1 (up K tk))(hv:PE X e2 (up K tv)):PE X (.Dict [some e1] [e2] pos) (up K (BW tk tv)):=by
 subst hK;refine(AM (Kw (Kb _) y) hk hv).imp λσ H Q h=>?_;obtain⟨M,P,H0,σ0,env,ts,R,q,ht,z⟩:=h;intro p C;refine⟨M,P,H0,σ0,env,_,_,q.addD C,ht,λs1 j v1 H1 h1 l=>⟨M,P,H0,σ0,j,_,_,l,h1,λs2 f o r h2 m=>?_⟩⟩;obtain⟨k,d,D,E,F⟩:=h2;have c:Rel X.K M P H0 σ0 σ f ((ts++[(.ref p,.tr [p] (eD []))])++[(v1,s1),(o,s2)]) r:=by simpa using m
 have g:=c.kept (v:=v1) (s:=s1) (by simp) D;have n:=c.kept (v:=o) (s:=s2) (by simp) E;have i:=c.drop;have t:=i.e;rw[ar] at t g n;obtain⟨v',ev,ot,N⟩:=t.tr _ _ _ (IE _ IL);obtain⟨a,es,u,O,G,I,J,L⟩:=ot.dct_of (kvs:=[]) rfl;rw[u] at ev;cases ev;have w:es=[]:=by simpa using L
 subst w;obtain⟨b,xs,rfl,_,_⟩:=g.tuple;refine⟨k,b,rfl,g.dv,G,z _ _ _ _ (F [p]) ?_⟩;have na:Nw M (aw σ f ts++tmp [(V.ref p,Sl.tr [p] (eD []))]) p:=.inr (by rw[ah];exact IE _ (aT.mpr ⟨_,IG.mpr rfl,IG.mpr rfl⟩));have x:aO (Nw M (aw σ f ts++tmp [(V.ref p,Sl.tr [p] (eD []))])) r (upd r p (.ext (ce p [(k,b,o)]))):=aO.own na;refine i.drop.withRes ?_ rfl;refine aU.retreeR (B:=[]) (R:=[]) (S:=[p]) t (by simp) (by simp) ?_;exact .dct (es:=[(k,b,o)]) (kvs:=[(k,d)]) aq ((DNs.cons g .nil).keep x) ((DNs.cons n .nil).keep x) rfl
end
abbrev wD(w:List (List Int)):ab:=.list (w.map λr=>fzD (r.map .int))
abbrev fu(W:List (List (List Int))):ab:=.list (W.map wD)
section
variable {K:ca}{M P N:ap->Prop}{H0 H:Hp}{A B:List Ent}{σ0 σ:St}{env:List Sl}{ts:List (V×Sl)}{v:V}{s:Sl}{d:ab}
theorem OT.unfz{S:List ap}{ds:List ab}(h:OT K N H v d S)(e:d=fzD ds):DN K N H v (.list ds)/\S=[]:=by
 cases h with
 | @fz _ ds' h =>
  simp only[fzD,PyData.dict.injEq,List.cons.injEq,Prod.mk.injEq,PyData.list.injEq,and_true,true_and] at e;subst e;exact⟨h,rfl⟩
 | dct _ _ _ _=>exact(xN e.symm).elim
 | _=>cases e
theorem DN.unfz{ds:List ab}(h:DN K N H v d)(e:d=fzD ds):DN K N H v (.list ds):=by
 cases h with
 | @fz _ ds' h =>
  simp only[fzD,PyData.dict.injEq,List.cons.injEq,Prod.mk.injEq,PyData.list.injEq,and_true,true_and] at e;subst e;exact h
 | dct _ _ _ _ _=>exact(xN e.symm).elim
 | idc _ _ _=>simp[fzD,qt] at e
 | dsk _ _ _ _ _=>simp[fzD,jK] at e
 | _=>cases e
theorem y6:∀w:List (List Int),fzs (w.map λr=>PyData.list (r.map .int))=some (w.map λr=>fzD (r.map .int))
 | []=>rfl
 | r::w=>by
  show(fzs (w.map λr=>PyData.list (r.map .int))).map (fzD (r.map .int)::·)=_;rw[y6 w];rfl
theorem pw(w:List (List Int)):eG env (.ow (w.map λr=>PyData.list (r.map .int)))=some (wD w):=by
 show(if oG _=true then _ else _)=_;rw[y6];cases w with
 | nil=>rfl
 | cons r w =>
  rw[if_neg (by simp[oG,noL])];rfl
theorem OTs.row:∀{w:List (List Int)}{us:List V}{S:List ap},OTs K N H us (w.map λr=>fzD (r.map .int)) S->S=[]/\DNs K N H us (w.map λr=>PyData.list (r.map .int))
 | [],_,_,h=>by cases h;exact⟨rfl,.nil⟩
 | r :: w,_,_,h=>by
  rw[IU] at h;cases h with
  | cons h q =>
   obtain⟨e1,e2⟩:=OTs.row q;obtain⟨d1,d2⟩:=h.unfz rfl;subst e1 d2;exact⟨rfl,.cons d1 e2⟩
theorem DNs.row:∀{w:List (List Int)}{us:List V},DNs K N H us (w.map λr=>PyData.list (r.map .int))->OTs K N H us (w.map λr=>fzD (r.map .int)) []
 | [],_,h=>by cases h;exact .nil
 | r::w,_,h=>by
  rw[IU] at h;cases h with
  | cons h q=>exact .cons (S:=[]) (S':=[]) (.fz h) (DNs.row q)
theorem OTs.last{W:List (List (List Int))}{w:List (List Int)}{vs:List V}{S:List ap}(h:OTs K N H vs ((W++[w]).map wD) S) :
  ∃vs' S' b us,vs=vs'++[.ref b]/\S=S'++[b]/\OTs K N H vs' (W.map wD) S'/\H b=some (.lst us)/\DNs K N H us (w.map λr=>PyData.list (r.map .int)):=by
 induction W generalizing vs S with
 | nil =>
  rw[Kt,IU,J5] at h;cases h with
  | cons h q =>
   cases q;cases h with
   | @lst b us _ S a c =>
    obtain⟨e1,e2⟩:=c.row;subst e1;exact⟨[],[],b,us,rfl,by simp,.nil,a,e2⟩
 | cons f W d =>
  rw[List.cons_append,IU] at h;cases h with
  | @cons x xs _ _ S1 S2 h q =>
   obtain⟨vs',S',b,us,e1,e2,e,a,dn⟩:=d q;subst e1 e2;exact⟨x::vs',S1++S',b,us,rfl,by simp,.cons h e,a,dn⟩
theorem OTs.snoc{W:List (List (List Int))}{w:List (List Int)}{vs:List V}{S:List ap}{b:ap}{us:List V}(q:OTs K N H vs (W.map wD) S)(a:H b=some (.lst us))(dn:DNs K N H us (w.map λr=>PyData.list (r.map .int))) :
  OTs K N H (vs++[.ref b]) ((W++[w]).map wD) (S++[b]):=by rw[Jm];refine q.app ?_;have:=OTs.cons (OT.lst a dn.row) (OTs.nil (K:=K) (N:=N) (H:=H));simpa using this
theorem Rel.ways{i:Nat}{S:List ap}{W:List (List (List Int))}{w:List (List Int)}(h:Rel K M P H0 σ0 σ env ts H)(e:env[i]? = some (.tr S (fu (W++[w])))) :
  ∃a vs S' b us,σ[i]? = some (some (.ref a))/\S=a::(S'++[b])/\S.Nodup/\(∀c∈S,Nw M (aw σ env ts) c)/\H a=some (.lst (vs++[.ref b]))/\OTs K (Nw M (aw σ env ts)) H vs (W.map wD) S'/\H b=some (.lst us)/\DNs K (Nw M (aw σ env ts)) H us (w.map λr=>PyData.list (r.map .int)):=by
 obtain⟨x,A,B,e1,g,o⟩:=h.split e;obtain⟨p,d,m⟩:=h.slot e;obtain⟨v,ev,ot,_⟩:=h.e.tr _ _ _ m;rw[e1] at d;cases d;subst ev;cases ot with
 | @lst a j _ s k q =>
  obtain⟨vs',S',b,us,rfl,rfl,l,n,dn⟩:=OTs.last q;have f:oas (aw σ env ts)=oas A++((a::(S'++[b]))++oas B):=by rw[g,ah,aj,aK]
  have nd:=h.e.nd;rw[f] at nd;refine⟨a,vs',S',b,us,e1,rfl,(IT.mp (IT.mp nd).2.1).1,λc hc=>.inr ?_,k,l,n,dn⟩;rw[f];exact IE _ (IJ _ hc)
def F9:G2:=λd e R=>∃ds i x,eP d=some ds/\e=.int i/\atI ds i=some (fzD x)/\R (.list x)
theorem HP:bq K (FI K) F9:=by rintro N H x y d e R Q g b ⟨ds,i,z,e1,rfl,e2,c⟩ f;obtain⟨a,vs,rfl,s,q⟩:=g.seq e1;obtain⟨u,e3,dn⟩:=q.atI e2;rcases s with s|s;exact .inl ⟨a,vs,i,u,rfl,b.int,s,e3,f _ _ c (dn.unfz rfl)⟩;exact .inr ⟨a,vs,i,u,rfl,b.int,s,e3,f _ _ c (dn.unfz rfl)⟩
theorem cX{α:Type}(xs:List α)(v:α):atI (xs++[v]) (-1)=some v:=by unfold atI ixN;rw[if_neg (by decide),if_pos (by rw[Jg];simp;omega)];show(xs++[v])[(-1+((xs++[v]).length:Int)).toNat]? = some v;rw[show(-1+((xs++[v]).length:Int)).toNat=xs.length by rw[Jg];simp;omega];simp
end
section
variable {X:Cx}{K:ca}{pos npos:Pos}{y:bx}{j j2:Nat}{p3 p4 p5 p6 apos cpos:Pos}
def kC(i:Nat):DT:=λenv R=>∃(S:List ap) (W:List (List (List Int))) (w:List (List Int)),env[i]? = some (.tr S (fu (W++[w])))/\R (!w.isEmpty) env
theorem tM(i:Nat)(hK:X.K=K)(hN:X.N[i]? = some y)(hv:Vis X.env.scope y:=by first|exact Or.inl rfl|exact Or.inr cc|exact Or.inr (Or.inr rfl))(hd:(y==("__debug__" : bx))=false:=by decide)
  (f:(y==("__classdict__" : bx))=false:=by decide) (g:dZ (.UnaryOp .USub (.Constant (.int 1) j p3) p4):=by intro _ _;rfl)
  (k:∀c,QF (.Subscript (.Name y npos) (.UnaryOp .USub (.Constant (.int 1) j p3) p4) pos) X.env c=(do let v <-c;K2 (Expr.pos (.Subscript (.Name y npos) (.UnaryOp .USub (.Constant (.int 1) j p3) p4) pos));KI [v] (Ze v)):=by intro _;rfl) :
  PT X (.Subscript (.Name y npos) (.UnaryOp .USub (.Constant (.int 1) j p3) p4) pos) (upT K (kC i)) :=
 (yU (K:=K) hK (uc (jF hK) (bu hN hv hd f) on g) k).imp λσ H Q h=>by
 obtain⟨M,P,H0,σ0,env,ts,R,d,⟨S,W,w,e,l⟩,m⟩:=h;obtain⟨a,vs,S',b,us,n,_,_,_,o,_,p,dn⟩:=d.ways e;refine⟨.ref a,n,.inl ⟨a,_,-1,.ref b,rfl,rfl,SqL.of o,cX _ _,_,.inl ⟨us,SqL.of p,?_⟩,m _ _ _ l d⟩⟩;have:=dn.len;cases us with
 | nil=>cases w with
  | nil=>rfl
  | cons r w=>simp at this
 | cons u us=>cases w with
  | nil=>simp at this
  | cons r w=>rfl
def qM(i:Nat):DE:=λenv R=>∃(S:List ap) (W:List (List (List Int))) (r:List Int) (w:List (List Int)),env[i]? = some (.tr S (fu (W++[r::w])))/\R (.fr (.list (r.map .int))) env
theorem Ao(i:Nat)(hK:X.K=K)(hN:X.N[i]? = some y)(hv:Vis X.env.scope y:=by first|exact Or.inl rfl|exact Or.inr cc|exact Or.inr (Or.inr rfl))(hd:(y==("__debug__" : bx))=false:=by decide)
  (d:(y==("__classdict__" : bx))=false:=by decide) (k:dZ (.UnaryOp .USub (.Constant (.int 1) j p3) p4):=by intro _ _;rfl) (f:dZ (.Constant (.int 0) j2 p5):=by intro _ _;rfl) :
  PE X (.Subscript (.Subscript (.Name y npos) (.UnaryOp .USub (.Constant (.int 1) j p3) p4) pos) (.Constant (.int 0) j2 p5) p6) (up K (qM i)) :=
 (uc (jF hK) (uc (jF hK) (bu hN hv hd d) on k) lF f).imp λσ H Q h=>by
 obtain⟨M,P,H0,σ0,env,ts,R,c,⟨S,W,r,w,e,l⟩,m⟩:=h;obtain⟨a,vs,S',b,us,n,_,_,_,o,_,p,dn⟩:=c.ways e;rw[IU] at dn;cases dn with
 | @cons u us _ _ g q =>
  exact⟨.ref a,n,.inl ⟨a,_,-1,.ref b,rfl,rfl,SqL.of o,cX _ _,.inl ⟨b,_,0,u,rfl,rfl,SqL.of p,by simp[atI,ixN],m _ _ _ _ l (c.addFr g)⟩⟩⟩
def vg(i:Nat):DE:=λenv R=>∃(S:List ap) (W:List (List (List Int))) (r:List Int) (w:List (List Int)),env[i]? = some (.tr S (fu (W++[r::w])))/\R (.fr (.list (r.map .int))) (env.set i (.tr S (fu (W++[w]))))
theorem Ak(i:Nat)(hK:X.K=K)(hN:X.N[i]? = some y)(hv:Vis X.env.scope y:=by first|exact Or.inl rfl|exact Or.inr cc|exact Or.inr (Or.inr rfl))(hd:(y==("__debug__" : bx))=false:=by decide)
  (n:(y==("__classdict__" : bx))=false:=by decide) (L:dZ (.UnaryOp .USub (.Constant (.int 1) j p3) p4):=by intro _ _;rfl)
  (l:kq [.Constant (.int 0) j2 p5] X.env=[(false,eval (.Constant (.int 0) j2 p5) X.env)]:=by rfl)
  (f:z5 (.Subscript (.Name y npos) (.UnaryOp .USub (.Constant (.int 1) j p3) p4) pos) "pop" X.env (eval (.Subscript (.Name y npos) (.UnaryOp .USub (.Constant (.int 1) j p3) p4) pos) X.env)=eval (.Subscript (.Name y npos) (.UnaryOp .USub (.Constant (.int 1) j p3) p4) pos) X.env:=by rfl)
  (m:((ze cpos (kq [.Constant (.int 0) j2 p5] X.env)).all (λx=>!x.1)&&(KU cpos (KA [] X.env)).all (λx=>x.1.isSome)&&decide ([Expr.Constant (.int 0) j2 p5].length+([]:List KS).length+(if ([]:List KS).isEmpty then 0 else 1)<30))=true:=by rfl)
  (g:(apos.endLine==cpos.line)=true:=by rfl) (d:(ze cpos (kq [] X.env)).any (·.1)=false:=by rfl) :
  PE X (.Call (.Attribute (.Subscript (.Name y npos) (.UnaryOp .USub (.Constant (.int 1) j p3) p4) pos) "pop" apos) [.Constant (.int 0) j2 p5] [] cpos) (up K (vg i)) :=
 (kBm (K:=K) hK PySem.F.plainAttrs_list PySem.F.slot_list_pop PySem.F.type_list_pop xl (uc (jF hK) (bu hN hv hd n) on L) (cB lF fM l) f m g l d).imp λσ H Q h=>by
 obtain⟨M,P,H0,σ0,env,ts,R,k,⟨S,W,r,w,e,O⟩,T⟩:=h;obtain⟨a,vs,S',b,us,p,G,s,t,I,q,J,dn⟩:=k.ways e;rw[IU] at dn;cases dn with
 | @cons u us _ _ v C =>
  refine⟨.ref a,p,.inl ⟨a,_,-1,.ref b,rfl,rfl,SqL.of I,cX _ _,.inl ⟨rfl,_,SqL.of J⟩,b,_,0,0,u,rfl,rfl,J,by decide,by decide,by simp[Zt],rfl,T _ _ _ _ O ?_⟩⟩;have mb:b∈S:=by rw[G];simp
  have D:aO (Nw M (aw σ env ts)) H (upd H b (.lst us)):=aO.own (t b mb);subst G;obtain⟨U,V⟩:=Jr.mp s;obtain⟨n3,n4,Y⟩:=IT.mp V;have E:a≠b:=λz=>U (by rw[z];simp);refine Rel.addFr (k.retreeT (R:=[]) e p mb (by simp) ?_) ?_;refine .lst (by rw[al E];exact I) ?_;refine OTs.snoc (q.keep D λc hc=>al λz=>Y c hc b (by simp) z) aq (C.keep D);have oe:aw σ (env.set i (.tr (a::(S'++[b])) (fu (W++[w])))) ts=aw σ (env.set i (.tr (a::(S'++[b])) (fu (W++[w])))) ts:=rfl;obtain⟨x,A,B,e1,Z,q2⟩:=k.split e;refine(v.keep D).to λc o _ z=>?_;rw[q2] at z;rw[Z];rcases z with z|z;exact .inl z;refine .inr ?_;rw[p] at e1;cases e1;rw[ah,aj,aK] at z ⊢;exact z
def xZ(i:Nat):DE:=λenv R=>∃(S:List ap) (W:List (List (List Int))) (w:List (List Int)),env[i]? = some (.tr S (fu (W++[w])))/\∀S',R .un (env.set i (.tr S' (fu W)))
theorem C1(i:Nat)(hK:X.K=K)(hN:X.N[i]? = some y)(hv:Vis X.env.scope y:=by first|exact Or.inl rfl|exact Or.inr cc|exact Or.inr (Or.inr rfl))(hd:(y==("__debug__" : bx))=false:=by decide)
  (k:(y==("__classdict__" : bx))=false:=by decide)
  (d:z5 (.Name y npos) "pop" X.env (eval (.Name y npos) X.env)=eval (.Name y npos) X.env:=by rfl) (f:(apos.endLine==cpos.line)=true:=by rfl) :
  PE X (.Call (.Attribute (.Name y npos) "pop" apos) [] [] cpos) (up K (xZ i)) :=
 (He (K:=K) hK PySem.F.plainAttrs_list PySem.F.slot_list_pop PySem.F.type_list_pop yS (bu hN hv hd k) d f).imp λσ H Q h=>by
 obtain⟨M,P,H0,σ0,env,ts,R,g,⟨S,W,w,e,u⟩,v⟩:=h;obtain⟨a,vs,S',b,us,p,A,l,n,r,q,E,dn⟩:=g.ways e;subst A;refine⟨.ref a,p,.inl ⟨rfl,_,SqL.of r⟩,a,_,.ref b,rfl,rfl,r,by simp,v _ _ _ _ (u (a::S')) ?_⟩;have s:a∈a::(S'++[b]):=IL;have B:aO (Nw M (aw σ env ts)) H (upd H a (.lst vs)):=aO.own (n a s);obtain⟨C,G⟩:=Jr.mp l;rw[List.dropLast_concat];have j:=g.retreeT (o:=.lst vs) (S':=a::S') (R:=[b]) (d':=fu W) e p s (by simp) (.lst aq (q.keep B λc hc=>al λz=>C (by rw[<-z];simp[hc])));have D:aU K M P H0 (aw σ (env.set i (.tr (a::S') (fu W))) ts++tmp [(V.ref b,Sl.un)]) (upd H a (.lst vs)):=by refine j.e.sub (λx t m=>?_) ?_;rcases II.mp m with m|m;exact .inl m;have m:=IG.mp m;injection m with m1 m2;exact .inr (.inl m2);rw[ah];show(oas _++oas [(some (.ref b),Sl.un)]).Nodup;rw[show oas [((some (.ref b),Sl.un):Ent)]=[] from rfl,Jh];exact j.e.nd
 refine⟨by rw[ar];exact D,j.len,λw i m=>?_,j.ios⟩;rcases II.mp m with m|m;exact j.vw w i m;rw[IG] at m;cases m
end
section
variable {prog:q3}{w:zb}{A:Around}{E:as->ba->Prop}{s:ba}
def IB(h:bd)(v:as):Prop:=∃(l:ap) (a:Array as),v=.ref l/\h.IsList l a/\∀j (h:j<a.size),∃x t,a[j]=Value.int x t
theorem rL{l b:ap}{items a:Array as}{Q:Bool->ba->Prop}(hl:s.heap.IsList l items)(p:s.heap.IsList b a)(f:∀j (h:j<items.size),∃x t,items[j]=Value.int x t)(g:∀j (h:j<a.size),∃x t,a[j]=Value.int x t)
  (q:A.units<KD) (h:∀c,Q c s):kw (qb prog w) A (oneLt' true (.ref l) (.ref b)) Q E s:=by obtain⟨⟨cls,dd,data,sl⟩,ho,hc,n,hd⟩:=id hl;obtain⟨⟨o,i,data2,k⟩,m,d,r,e⟩:=id p;simp only at hc hd d e;subst hc hd d e;rw[oneLt'_eq];simp only[if_true];refine jj (wpAny_cRoomFor q ?_);refine jj (wpAny_callSpecialIfBound?_slot ⟨_,ho,rfl⟩ F.slot_list_lt (Qd F.slot_list_lt ⟨_,ho,rfl⟩ F.entry_list_lt (F.args_list_lt_2 _ _) (l8 l b items a n r dd i sl k f g) ⟨ho,m,λc=>?_⟩));exact KB (h c)
end
def yZ(d:ab):Prop:=∃n:Int,d=.int n
section
variable {X:Cx}{pins:List (ap×Obj)}{σ:St}{H:Hp}{s:ba}
theorem uR(I:Inv X pins σ H s):∀{vs:List V}{ds:List ab}{us:List as},DVs X.K H vs ds->aH vs us->(∀d∈ds,yZ d)->∀u∈us,∃x t,u=Value.int x t
 | _,_,_,.nil,.nil,_,u,h=>by cases h
 | _,_,_,.cons (d:=d) a b,.cons r t,hk,u,h=>by
  rcases IR.mp h with rfl|h;obtain⟨n,rfl⟩:=hk d (by simp);cases a;obtain⟨t,rfl⟩:=r;exact⟨_,_,rfl⟩;exact uR I b t (λd hd=>hk d (by simp[hd])) u h
theorem pO(I:Inv X pins σ H s):∀{vs:List V}{ds:List ab}{us:List as},DVs X.K H vs ds->aH vs us->(∀d∈ds,D9 d)->∀u∈us,IB s.heap u
 | _,_,_,.nil,.nil,_,u,h=>by cases h
 | _, _,_,.cons (d:=d) c e,.cons r t,hk,u,h=>by
  rcases IR.mp h with rfl|h;obtain⟨ns,rfl⟩:=hk d (by simp);obtain⟨a,xs,rfl,sq,q⟩:=c.lstI;obtain⟨b,rv,f,_⟩:=I.list sq;exact⟨a,b.toArray,r,f.isList,λj hj=>by
   have:=kt q rv j (by simpa using hj);simpa using this⟩
  exact pO I e t (λd hd=>hk d (by simp[hd])) u h
end
def zn(CX:CXT)(P:q3)(w:zb)(K:ca)(mg:bx->Option as)(base:bd)(N:List bx)(qual:bx)(scope:KL)(f:ap)(cd:as)(cl:List (bx×ap))(A:Around)(outer:List Env)(s:ba)(H:Hp)(E:XK):Cx where
 prog:=P
 w := w
 K := K
 mg := mg
 base:=base
 A := A.deeper (envX qual scope s.heap.objs.size f cd cl)
 N := N
 s₀ := s
 H₀ := H
 env:=envX qual scope s.heap.objs.size f cd cl
 outer:=outer
 stack:=envX qual scope s.heap.objs.size f cd cl::outer
 ex := []
 calm:=true
 fn := λ_=>false
 pn := []
 xe := λe s'=>kw (qb P w) (A.deeper (envX qual scope s.heap.objs.size f cd cl)) (leaving (envX qual scope s.heap.objs.size f cd cl) e) (λ_ a=>CX outer H s E e a) (λe' a=>CX outer H s E e' a) s'
structure kM(p x:bx)(sc:KL):Prop where
 kind:sc.kind=.function
 co : sc.isCoroutine=false
 gen:sc.isGenerator=false
 par:sc.names.lookup p=some .local
 fre:sc.names.lookup x=some .free
 nocell:∀y∈sc.names,y.2≠.cell
 one:∀y∈sc.names,y.2=.free->y.1=x
 ne : p≠x
section
variable {CX:CXT}{P:q3}{w:zb}{K:ca}{mg:bx->Option as}{base:bd}{qual p x:bx}{scope:KL}{f c:ap}{cd:as}{A:Around}{outer:List Env}{s:ba}{H:Hp}{E:XK}{u u0:as}{v v0:V}{h₁:bd}{tk:Nat}
theorem rW(S:kM p x scope)(hd:A.handled=none)(e:sy P w K mg base A outer s H)(a:s.heap.IsCell c (some u0))(n:be v0 u0)(k:H c=none)(r:be v u)
  (l:h₁.Ns s.heap.objs.size (λy=>[(p,u)].reverse.lookup y)) (hk:∀b o,s.heap.get? b=some o->h₁.get? b=some o) :
  Inv (zn CX P w K mg base [p,x] qual scope f cd [(x,c)] A outer s H E) [] [some v,some v0] H { s with heap:=h₁,toks:=tk }:=by
 have g:∀b:ap,b ∉ (zn CX P w K mg base [p,x] qual scope f cd [(x,c)] A outer s H E).ex:=λb z=>absurd (show b∈([]:List ap) from z) (by simp);have look:∀y d,List.lookup y [(x,c)]=some d->y=x/\d=c:=λy d h=>by
  have:=PySem.mem_of_lookup h;rw[IG] at this;cases this;exact⟨rfl,rfl⟩
 have m:List.lookup x [(x,c)]=some c:=by simp
 refine⟨⟨e.mod,S.kind,rfl,rfl,IS _,λy z d h1 h2=>?_,λy j=>?_,λy d h=>absurd h (by show ¬false=true;decide),λ_=>hd,Around.frames_deeper e.frames,.inr ⟨rfl,rfl⟩,λb z=>absurd z (g b),e.bs,e.bsz,λb _ _=>g b,λb z=>absurd z (g b),e.funs,e.frf,e.tab⟩,
  rfl,e.bare,Un.kept hk,⟨_,l,λi y z h1 h2 h3=>?_⟩,λy d h=>?_,e.hok.fresh (IS _),λy d h=>?_,λq t=>absurd (show q∈([]:List (ap×Obj)) from t) (by simp),e.hok.kept hk,rfl⟩
 rw[(look y d h1).1,(look z d h2).1];have j:scope.names.lookup y=some .cell\/scope.names.lookup y=some .free:=j;rcases j with j|j;exact absurd rfl (S.nocell _ (PySem.mem_of_lookup j));have:=S.one _ (PySem.mem_of_lookup j) rfl;simp only at this;rw[this];exact⟨c,m⟩
 match i,h1,h2 with
 | 0,h1,h2 =>
  have h1:p=y:=by simpa[zn] using h1
  have h2:v=z:=by simpa using h2
  subst h1 h2;refine⟨u,r,.inl ⟨S.par,?_⟩⟩;simp
 | 1,h1,h2 =>
  have h1:x=y:=by simpa[zn] using h1
  have h2:v0=z:=by simpa using h2
  subst h1 h2;exact⟨u0,n,.inr ⟨.inr S.fre,c,m,a.keeps hk⟩⟩
 | i+2,h1,h2=>simp at h2
 obtain⟨_,rfl⟩:=look y d h;exact⟨_,a.keeps hk⟩;obtain⟨_,rfl⟩:=look y d h;exact k
theorem xw{params:QK}{body:bb}{pm ctv:as}{c':ap}{t:TE}{Q:VK}{k:Nat}(S:kM p x scope)(n:b9 (k+1) A)(h:sy P w K mg base A outer s H)(ho:s.heap.get? f=some (QT "<lambda>" qual params body scope [(x,c)] pm c' ctv))(i:s.heap.CodeRec (.ref c') qual)
  (B:Qj (kla_fn "<lambda>" qual params body scope [(x,c)] pm (.ref c') ctv) ⟨[u],[]⟩=pure [(p,u)]) (a:s.heap.IsCell c (some u0)) (C:be v0 u0) (j:H c=none) (r:be v u)
  (ht:PE (zn CX P w K mg base [p,x] qual scope f (.ref c') [(x,c)] A outer s H E) body t) (D:t [some v,some v0] H Q):KM (qb P w) A (.call (.ref f) ⟨[u],[]⟩) (CR CX outer P w H s Q E) s:=by have l:s.heap.NoLimit:=h.mod.nolimit.keeps λb o e=>(h.bs b o e).1;refine kla_callFunE n.depth ho rfl S.co S.gen rfl i ?_;rw[B];refine ke (wpAny_newFunctionEnv S.nocell (λy F=>by rw[IG.mp F];exact S.par) (λh₁ m g=>⟨l.fresh _ g,?_⟩) S.kind);have d:∀b o,s.heap.get? b=some o->h₁.get? b=some o:=λb o e=>g.extBut b o (Jd (IX e)) (IH _ e);show KM _ _ (.expr body (envX qual scope s.heap.objs.size f (.ref c') [(x,c)])) _ _;refine kla_codeExpr ?_;have I:=rW (CX:=CX) (E:=E) (qual:=qual) (f:=f) (cd:=.ref c') (tk:=s.toks+[(p,u)].length) S n.hd h a C j r m d;refine z3 (ht [] _ _ H _ I D) (λG s' hs=>?_) λe s' hs=>hs;obtain⟨z,H',J,rv,q⟩:=hs;exact⟨z,H',J.os,J.bare,J.base,J.hok,rv,q⟩
end
section
variable {X:Cx}{pins:List (ap×Obj)}{σ:St}{H:Hp}{s:ba}{params:QK}{body:bb}{scope:KL}{pos:Pos}{E:as->ba->Prop}{clos:List (bx×ap)}
theorem uI(I:Inv X pins σ H s)(L:ym X)(k:Qc scope X.env=pure clos)(l:Zi params X.env=([],[])){Q:as->ba->Prop}
  (h : ∀f c' pm ctv s' H',Inv X pins σ H' s'->aS H H'->s'.heap.get? f=some (QT "<lambda>" (X.env.qual ++ "<lambda>") params body scope clos pm c' ctv)->hV X pins H' f->EQ H' c' (X.env.qual ++ "<lambda>")->Q (.ref f) s') :
  kw (qb X.prog X.w) X.A (eval (.Lambda params body scope pos) X.env) Q E s:=by
 obtain⟨c,T,a,C,hL⟩:=L;have M:H T=some (.tbl (X.env.qual ++ "<lambda>")):=I.base.tbls T _ (I.ok.tab T _ hL);obtain⟨ps,e,g,d⟩:=I.hok T _ M;obtain⟨bm,ob,P,R,v,N,S,x⟩:=I.mod.bmain;have hg:=I.mod.glob.keeps I.bk;have y:ky≠T:=λq=>by
  obtain⟨o,es,ep,e',hd,_⟩:=hg;rw[q,e] at e';cases e';cases hd
 have z:bm≠T:=λq=>by
  have e':=I.bk _ _ v;rw[q,e] at e';cases e';cases N
 have B:bm≠ky:=λq=>by
  obtain⟨o,es,ep,e',hd,_⟩:=hg;have e2:=I.bk _ _ v;rw[q,e'] at e2;cases e2;rw[hd] at x;cases x
 have O:s.heap.BuiltinsAt X.mg T:=⟨bm,ob,P,R,B,z,I.bk _ _ v,N,S,x⟩
 refine kla_eval l ?_;cases hc:QI pos ps.toList with
 | none =>
  refine kla_makeFunction k I.ok.glob hg a (C.keeps I.bk) e g hc y O λc' ctv h' tk hx m U n D=>?_;obtain⟨c2,oc,vs,t,e2,r,hd,hv⟩:=n;cases e2;have F:B8 (upd H c' (.frz oc (.own 0))) h' T (X.env.qual ++ "<lambda>"):=by refine⟨_,D,by rw[Array.toList_append];exact TriplesOk_snoc _ _ _ _ g,λp cv i=>?_⟩;rw[Array.toList_append] at i;rcases sk _ g i with i|rfl;obtain⟨c2,G,V,J,W,e1,e2,e3⟩:=d _ _ i;exact⟨c2,G,V,J,W,e1,by rw[al (au e2 (I.hok.fresh m))];exact e2,e3⟩;exact⟨c',oc,_,vs,t,rfl,aq,hd,hv⟩
  obtain⟨j,Y⟩:=I.grow (tk:=tk) M hx m r hd hv F;have K:=j.kept (t':=tk) (h':=h'.push (QT "<lambda>" (X.env.qual ++ "<lambda>") params body scope clos ((X.mg "__name__").getD .none) c' ctv)) λb o e=>IH _ e;exact h _ c' _ ctv _ _ K Y (IW _ rfl) (j.fpOk (IS _) (j.hok.fresh (IS _))) ⟨_,_,_,_,aq,hd,hv⟩
 | some cv =>
  obtain⟨c',oc,u,vs,t,rfl,e1,hd,hv⟩:=d _ _ hc;obtain⟨r,_⟩:=I.hok c' _ e1;refine kla_makeFunctionHit k I.ok.glob hg a (C.keeps I.bk) e g hc O λctv h' tk hk hsz=>?_;have j:=I.kept (t':=tk) hk;have K:=j.kept (t':=tk) (h':=h'.push (QT "<lambda>" (X.env.qual ++ "<lambda>") params body scope clos ((X.mg "__name__").getD .none) c' ctv)) λb o e=>IH _ e;exact h _ c' _ ctv _ _ K (aS.refl _) (IW _ rfl) (j.fpOk (IS _) (j.hok.fresh (IS _))) ⟨_,_,_,_,e1,hd,hv⟩
end
theorem GI{CX:CXT}{P:q3}{w:zb}{K:ca}{mg:bx->Option as}{base:bd}{N N':List bx}{qual:bx}{scope sc:KL}{f:ap}{cd:as}{cl:List (bx×ap)}{A:Around}{outer:List Env}{s:ba}{H:Hp}{E:XK}{ix:List (Option Nat)}
  (h : bOk N scope N' ix sc=true):cF (zn CX P w K mg base N qual scope f cd cl A outer s H E).N (zn CX P w K mg base N qual scope f cd cl A outer s H E).env N' ix sc:=vD rfl rfl h
def vT:Sl->Sl
 | .fr d=>.fr d
 | _=>.un
theorem Bm{s:Sl}{d:ab}(h:vT s=.fr d):s=.fr d:=by cases s <;> first|exact h|cases h
theorem xC{s:Sl}{a:ap}{x:Option V}:a ∉ cH (x,vT s):=λz=>by
 rcases lH z with⟨_,⟨ds,e⟩|⟨ds,e⟩⟩|⟨S,d,e,_⟩ <;> cases s <;> cases e
def za(i:Nat)(t:DT):DT:=λenv R=>∃ds,env[i]? = some (.ow ds)/\t ((env.map vT).set i (.fr (.list ds))) λb _=>R b env
theorem Ae{K:ca}{H:Hp}{vs:List V}{ds:List ab}(q:DNs K N0 H vs ds):Rel K N0 N0 H (vs.map some) (vs.map some) (ds.map Sl.fr) [] H:=by
 have c:∀x s,(x,s)∈aw (vs.map some) (ds.map Sl.fr) []->∃v d,x=some v/\s=.fr d/\(v,d)∈vs.zip ds:=λx s m=>by
  have m:(x,s)∈(vs.map some).zip (ds.map Sl.fr)++[]:=m;rw[Jh,List.zip_map] at m;obtain⟨⟨v,d⟩,f,e⟩:=IZ.mp m;cases e;exact⟨v,d,rfl,rfl,f⟩
 have g:oas (aw (vs.map some) (ds.map Sl.fr) [])=[]:=List.flatMap_eq_nil_iff.mpr λ⟨x,s⟩ m=>by
  obtain⟨v,d,rfl,rfl,_⟩:=c x s m;exact dy _ _
 have ne:∀b,Nw N0 (aw (vs.map some) (ds.map Sl.fr) []) b->N0 b:=λb z=>by
  rcases z with z|z;exact z;rw[g] at z;cases z
 refine⟨⟨aO.refl,λa h=>h,λa z=>z.elim,λa z=>z,λx e m=>?_,λx e m=>?_,λx e m=>?_,λx S e m=>?_,by rw[g];exact J4⟩,by rw[IF,IF,q.len],λw i m=>(by cases m),λi ds' e=>rfl⟩;obtain⟨v,d,rfl,e1,f⟩:=c _ _ m;cases e1;exact⟨v,rfl,(oU q _ f).to λb _ _ z=>ne b z⟩;obtain⟨v,d,_,e1,_⟩:=c _ _ m;cases e1;obtain⟨v,d,_,e1,_⟩:=c _ _ m;cases e1;obtain⟨v,d,_,e1,_⟩:=c _ _ m;cases e1
def Ev(t:DE)(env:List Sl)(s:Sl):Prop:=∀R:Sl->List Sl->Prop,R s env->t env R
def EvA(t:DA)(env:List Sl)(ss:List Sl):Prop:=∀R:List Sl->List Sl->Prop,R ss env->t env R
def EvT(t:DT)(env:List Sl)(k:Bool):Prop:=∀R:Bool->List Sl->Prop,R k env->t env R
def EvO(t:DO)(env:List Sl)(k:Option Int):Prop:=∀R:Option Int->List Sl->Prop,R k env->t env R
def EvI(t:DI)(env:List Sl)(ds:List ab):Prop:=∀R:List ab->List Sl->Prop,R ds env->t env R
def E2(g:G2)(d e x:ab):Prop:=∀R:ab->Prop,R x->g d e R
def E1(g:G1)(d x:ab):Prop:=∀R:ab->Prop,R x->g d R
def EB(g:GB)(ds:List ab)(x:ab):Prop:=∀R:ab->Prop,R x->g ds R
def EL(g:ab->ab->(List ab->Prop)->Prop)(d e:ab)(x:List ab):Prop:=∀R:List ab->Prop,R x->g d e R
section
variable {env:List Sl}{s s1 s2 s':Sl}{d d1 d2 x e:ab}{ds es xs ys:List ab}{i:Nat}{m n:Int}{ta tb te:DE}{tl:DA}{ss:List Sl}{g:G2}{k:Bool}{DD:gx}
theorem Eg(h:(env[i]?).bind slD=some d):Ev (Fb i) env (.vw i):=λ_ r=>⟨d,h,r⟩
theorem Iq:Ev (dC d) env (.fr d):=λ_ r=>r
theorem Eo(h:env[i]? = some (.fr d)):Ev (zm i) env (.fr d):=λR r=>by unfold zm;rw[h];exact r
theorem Gi(h1:Ev ta env s1)(h2:Ev tb env s2)(e1:aC env s1=some d1)(e2:aC env s2=some d2)(h:E2 g d1 d2 x):Ev (dOp g ta tb) env (.fr x):=λ_ r=>h1 _ (h2 _ ⟨d1,d2,e1,e2,h _ r⟩)
theorem Ej{g:ab->ab->(List ab->Prop)->Prop}(h1:Ev ta env s1)(h2:Ev tb env s2)(e1:aC env s1=some d1)(e2:aC env s2=some d2)(h:EL g d1 d2 xs):Ev (Ez g ta tb) env (.ow xs):=λ_ r=>h1 _ (h2 _ ⟨d1,d2,e1,e2,h _ r⟩)
theorem Gh{g:G1}(h1:Ev ta env s1)(e1:aC env s1=some d1)(h:E1 g d1 x):Ev (dUn g ta) env (.fr x):=λ_ r=>h1 _ ⟨d1,e1,h _ r⟩
theorem Gk{g:GB}(h1:EvA tl env ss)(e1:fv env ss=some ds)(h:EB g ds x):Ev (dCB g tl) env (.fr x):=λ_ r=>h1 _ ⟨ds,e1,h _ r⟩
theorem Eh(h1:EvA tl env ss)(e1:aN env ss=some ds)(z:ss.length<=sizeLine):Ev (Cl tl) env (.fr (.tuple ds)):=λ_ r=>h1 _ ⟨ds,e1,z,r⟩
theorem Em(h1:EvA tl env ss)(e1:aN env ss=some ds)(z:ss.length<=sizeLine):Ev (Ff tl) env (.ow ds):=λ_ r=>h1 _ ⟨ds,e1,z,r⟩
theorem BA(h1:Ev ta env s1)(h2:Ev tb env s2)(e1:aC env s1=some (.tuple xs))(e2:aC env s2=some (.tuple ys))(z:xs.length+ys.length<=sizeLine):Ev (x5 ta tb) env (.fr (.tuple (xs++ys))):=λ_ r=>h1 _ (h2 _ ⟨xs,ys,e1,e2,z,r⟩)
theorem Ei{l h:Option Int}{a b:DO}(h1:Ev te env s)(h2:EvO a env l)(h3:EvO b env h)(e1:aC env s=some (.list ds)):Ev (Fc te a b) env (.ow (kE ds l h)):=λ_ r=>h1 _ (h2 _ (h3 _ ⟨ds,e1,r⟩))
theorem Gj:EvO kD env none:=λ_ r=>r
theorem By(h1:Ev te env s)(e1:aC env s=some (.int n)):EvO (x3 te) env (some n):=λ_ r=>h1 _ ⟨n,e1,r⟩
theorem El:EvA Cn env []:=λ_ r=>r
theorem Bz(h1:Ev te env s)(h2:EvA tl env ss):EvA (vo te tl) env (s::ss):=λ_ r=>h1 _ (h2 _ r)
theorem Bx(h1:Ev te env s)(e1:aC env s=some (.bool k)):EvT (oW te) env k:=λ_ r=>h1 _ ⟨k,e1,r⟩
theorem Ek{t:DT}(h1:EvT t env k):EvT (Fe t) env (!k):=λ_ r=>h1 _ r
theorem Iu{f:Int->Int->Int}:E2 (gI f) (.int m) (.int n) (.int (f m n)):=λ_ r=>⟨m,n,rfl,rfl,r⟩
theorem Gr{C:Int->Int->Prop}{f:Int->Int->Int}(c:C m n):E2 (gIC C f) (.int m) (.int n) (.int (f m n)):=λ_ r=>⟨m,n,rfl,rfl,c,r⟩
theorem Iw{f:Int->Int->Bool}:E2 (gB f) (.int m) (.int n) (.bool (f m n)):=λ_ r=>⟨m,n,rfl,rfl,r⟩
theorem Gq(h1:shp d)(h2:shp e):E2 gEq d e (.bool (PyData.eqv d e)):=λ_ r=>⟨h1,h2,r⟩
theorem Eu:E2 E8 d .none (.bool (ng d)):=λ_ r=>⟨rfl,r⟩
theorem BF:E2 xM d .none (.bool (!ng d)):=λ_ r=>⟨rfl,r⟩
theorem Go(h1:eP d=some ds)(h2:atI ds n=some x):E2 gIx d (.int n) x:=λ_ r=>⟨ds,n,x,h1,rfl,h2,r⟩
theorem Gp{ns:List Int}(h1:eP e=some ds)(h2:dS ds=some ns):E2 gIn (.int n) e (.bool (decide (n∈ns))):=λ_ r=>⟨n,ds,ns,rfl,h1,h2,r⟩
theorem Ew:E1 E6 (.int n) (.int (-n)):=λ_ r=>⟨n,rfl,r⟩
theorem Et(h:eP d=some es):EB Ec [d] (.int es.length):=λ_ r=>⟨d,es,rfl,h,r⟩
theorem Es{ns:List Int}(h:dS es=some ns):EB E5 [.list es] (.int ns.sum):=λ_ r=>⟨es,ns,rfl,h,r⟩
theorem Er(z:xs.length+ys.length<=sizeLine):EL E9 (.list xs) (.list ys) (xs++ys):=λ_ r=>⟨xs,ys,rfl,rfl,z,r⟩
theorem BD(h1:Ev te env s)(e1:aV env s=some (.list ds)):EvI (qL te) env ds:=λ_ r=>h1 _ ⟨ds,e1,r⟩
theorem BC(h1:EvA tl env [s])(e1:aC env s=some (.int n))(z1:-4611686018427387904<=n)(z2:n<4611686018427387904):EvI (xY tl) env (gA 0 n.toNat):=λ_ r=>h1 _ ⟨s,n,rfl,e1,z1,z2,r⟩
theorem BE{b:Bool}(h1:EvA tl env [s])(e1:aV env s=some (sqD b ds)):EvI (x4 b tl) env (kA ds):=λ_ r=>h1 _ ⟨s,ds,rfl,e1,r⟩
theorem A6{n:Nat}(h:decide (n<=100)=true):n<=sizeLine:=IQ (of_decide_eq_true h) (IQ (by decide) ae)
theorem ws_seq{t u:DS}(h:t { DD with nx:=u DD } env):Ex t u DD env:=h
theorem Cq(h1:Ev te env s)(z:i<env.length)(e1:gP env s=some s')(h:DD.nx (env.set i s')):zj i te DD env:=h1 _ ⟨s',z,e1,h⟩
theorem Cr(h1:Ev te env s)(h:DD.rt s env):Ey te DD env:=h1 _ h
theorem Cs{c:DT}{t u:DS}(h1:EvT c env k)(h:if k=true then t DD env else u DD env):Fg c t u DD env:=h1 _ h
theorem Ct{it:DI}{g:DG}{tb:DS}(h1:EvI it env ds)(h:FD ds g tb DD env):Fh it g tb DD env:=h1 _ h
theorem Cu{a:Sl}(h1:Ev te env s)(e1:aV env s=some d)(e2:env[i]? = some a)(e3:gR a=some ds)(z:ds.length<sizeLine)(b:cx a (ds++[d])=some s')(h:DD.nx (env.set i s')):vn (Fi i te) DD env:=⟨⟨ds,by rw[e2];exact e3⟩,h1 _ ⟨d,a,ds,s',e1,e2,e3,z,b,h⟩⟩
theorem zN{sp:DSp}{q:Nat}{b:Sl}{l a ds2:List ab}{R:Sl->List Sl->Prop}(h1:EvA tl env ss)(a1:ss[q]? = some (.vw i))(a2:env[i]? = some b)(a3:gR b=some l)(c:aN env (ss.take q)=some a)(d:aN env (ss.drop (q+1))=some ds2)
  (h : sp (a.map .fr++.io l::ds2.map .fr) (dK (λr e=>∃l' s',e[q]? = some (.io l')/\cx b l'=some s'/\R r (env.set i s')) ⟨⟩)):mH sp q tl env R:=h1 _ ⟨i,b,l,a,ds2,a1,a2,a3,c,d,h⟩
theorem Cw{sp:DSp}{R:Sl->List Sl->Prop}(h1:EvA tl env ss)(e1:aN env ss=some ds)(h:sp (ds.map .fr) (dK (λr _=>R r env) ⟨⟩)):vp sp tl env R:=h1 _ ⟨ds,e1,h⟩
theorem Cv{it:DI}{ix:List (Option Nat)}{g:DG}{tt:DT}{R:Sl->List Sl->Prop}(h1:EvI it env ds)(h:CD ds ix g tt te env (dK R ⟨⟩)):oY it ix g tt te env R:=h1 _ h
theorem w_pop{a:Sl}{R:Sl->List Sl->Prop}(a1:env[i]? = some a)(a2:gR a=some ds)(a3:ds.getLast? = some d)(b:cx a ds.dropLast=some s')(h:R (.fr d) (env.set i s')):Fd i env R:=⟨a,ds,d,s',a1,a2,a3,b,h⟩
theorem wg_name{R:List Sl->Prop}(z:i<env.length)(h:R (env.set i (.fr d))):qG i d env R:=⟨z,h⟩
theorem wk_K{R:Sl->List Sl->Prop}{w:Wn R}(h:R s env):dK R w s env:=h
theorem wx_set(h:te env λs a=>∃s',i<a.length/\gP a s=some s'/\DD.nx (a.set i s')):zj i te DD env:=h
theorem wx_ret(h:te env DD.rt):Ey te DD env:=h
theorem wx_drop(h:te env λ_ a=>DD.nx a):vn te DD env:=h
end
section
variable {prog:q3}{w:zb}{A:Around}{R:Q2->ba->Prop}{I:ap}{fp wr:List ap}{P:Nat->as->Prop}{St:Nat->bd->Prop}
def vO(ns:List Int)(d x:Int):Prop:=ns=[]/\x=d\/x∈ns/\∀y∈ns,y<=x
theorem k8{ns:List Int}{j:Nat}(h:j<ns.length):ns.take (j+1)=ns.take j++[ns.getD j 0]:=by rw[JT,IK h,IP,IK h];rfl
theorem uF{ns:List Int}(W:Walks prog w A.in1 I fp wr ns.length P St)(hP:∀i v,P i v->∃t,v=Value.int (ns.getD i 0) t)(S:ap)(H:S ∉ fp)(d:Int)(Q:Tok) :
  ∀(k j:Nat) (s:ba) (J:List as) (c:Nat),ns.length - j=k->j<=ns.length->St j s.heap->(J=[]/\j=0\/∃x t,J=[Value.int x t,Value.int x t]/\x∈ns.take j/\∀y∈ns.take j,y<=x) ->
  s.heap.get? S=some { cls:=.type "list",dict:=none,data:=.seq J.toArray c,slots:=#[] } ->
  (∀x t h' tk,vO ns d x->(∀b o,b ∉ wr->b≠S->s.heap.get? b=some o->h'.get? b=some o)->R (.ok (.ret (.int x t))) { s with heap:=h',toks:=tk }) ->
  KM (qb prog w) A (.builtin "max.loop" ⟨[.ref I,.none,.ref S],[(("default" : bx),.int d Q)]⟩) R s:=by
 have K:S ∉ wr:=λh=>H (W.sub _ h);have g:(toString "max" ++ toString ".loop" : String) = "max.loop" := by decide
 intro k
 induction k with
 | zero =>
  intro j s J c hk hj E C L M;have N:j=ns.length:=by omega
  refine K8 F.entry_max_loop ?_;rw[Around.under_plainId F.plain_max_loop _];show kw _ A.in1 (Zs (.ref S) >>= _) _ _ s;refine jj (Ky L rfl ?_);show kw _ A.in1 (tryCatch (Qo (.ref I)) _ >>= _) _ _ s;refine jj (Za (W.done s _ _ (N▸E) λh' tk l=>?_));have m:=l S _ K L;rcases C with⟨rfl,Y⟩|⟨x,t,rfl,r,n⟩
  exact jj (KO (ke (M d Q h' tk (.inl ⟨List.length_eq_zero_iff.mp (by omega),rfl⟩) λb o f a e=>l b o f e)));show kw _ A.in1 (Zr S (λ_=>#[]) >>= _) _ _ _;refine jj ?_;refine Qk m rfl (jj (K9 (ke ?_)));rw[N,JI] at r n;exact M x t _ tk (.inr ⟨r,n⟩) λb o f a e=>(Jp _ _ (Ne.symm a)).trans (l b o f e)
 | succ k Z =>
  intro j s J c hk hj E C L M;have B:j<ns.length:=by omega
  refine K8 F.entry_max_loop ?_;rw[Around.under_plainId F.plain_max_loop _];show kw _ A.in1 (Zs (.ref S) >>= _) _ _ s;refine jj (Ky L rfl ?_);show kw _ A.in1 (tryCatch (Qo (.ref I)) _ >>= _) _ _ s;refine jj (Za (W.item j s _ _ B E λv h' tk T D l=>?_));have m:=l S _ K L;obtain⟨u,rfl⟩:=hP _ _ T;have O:=k8 B;generalize ns.getD j 0=y at *;have go:∀(h2:bd) (c2:Nat),(∀z∈ns.take j,z<=y)->(∀b o,b≠S->h'.get? b=some o->h2.get? b=some o)->h2.get? S=some { cls:=.type "list",dict:=none,data:=.seq #[.int y u,.int y u] c2,slots:=#[] } ->
    KM (qb prog w) A (.builtin "max.loop" ⟨[.ref I,.none,.ref S],[(("default" : bx),.int d Q)]⟩) R { s with heap:=h2,toks:=tk }:=λh2 c2 hy k2 U =>
   Z (j+1) _ [.int y u,.int y u] c2 (by omega) B (W.frame _ _ _ D λb V o e=>k2 b o (λh:b=S=>H (by rw[<-h];exact V)) e) (.inr ⟨y,u,rfl,by rw[O];simp,λz hz=>by
    rw[O] at hz;rcases II.mp hz with hz|hz;exact hy z hz;rw[IG.mp hz];exact Jo _⟩) U
    λx t G p X q=>M x t G p X λb o f a e=>q b o f a (k2 b o a (l b o f e))
  rcases C with⟨rfl,Y⟩|⟨x,t,rfl,r,n⟩
  show kw _ A.in1 (Zr S (λ_=>#[.int y u,.int y u]) >>= _) _ _ _;refine jj ?_;refine Qk m rfl ?_;rw[g];exact ke ⟨KQ F.plain_max_loop _,go _ _ (λz hz=>by rw[Y] at hz;simp at hz) (λb o a e=>(Jp _ _ (Ne.symm a)).trans e) (Jx _ m rfl)⟩;show kw _ A.in1 (tryCatch (KI [.int y u,.int y u] (richCompare .Gt (.int y u) (.int x t) >>= _)) _ >>= _) _ _ _;refine jj (Za (zp (jj (show kw _ _ (q4 .Gt (.int y u) (.int x t)) _ _ _ from gt_int ?_))));refine jj (zp (KB ?_));refine jj (K9 (ke ?_));cases C:decide (x<y) with
  | true =>
   have C:=of_decide_eq_true C;simp only[if_true];refine jj ?_;refine Qk m rfl (jj (K9 ?_));rw[g];exact ke ⟨KQ F.plain_max_loop _,go _ _ (λz hz=>by have:=n z hz;omega) (λb o a e=>(Jp _ _ (Ne.symm a)).trans e) (Jx _ m rfl)⟩
  | false =>
   have C:=of_decide_eq_false C;simp only[Jj,if_false];refine jj (K9 ?_);rw[g];exact ke ⟨KQ F.plain_max_loop _,Z (j+1) _ [.int x t,.int x t] c (by omega) B D (.inr ⟨x,t,rfl,by rw[O];simp[r],λz hz=>by
    rw[O] at hz;rcases II.mp hz with hz|hz;exact n z hz;rw[IG.mp hz];omega⟩) m λx t G p X q=>M x t G p X λb o f a e=>q b o f a (l b o f e)⟩
theorem vI(a v:as):argsOk "max" ⟨[a],[(("default" : bx),v)]⟩:=by unfold argsOk;kernel_rfl
theorem vC{E:as->ba->Prop}{s:ba}{x:as}{ns:List Int}{d:Int}{f:Tok}{Q:as->ba->Prop}
  (h : kw (qb prog w) A.in1 (ZC x) (λit a=>∃I fp wr P St,it=.ref I/\Walks prog w A.in1 I fp wr ns.length P St/\St 0 a.heap/\(∀b∈fp,b<a.heap.objs.size)/\(∀i v,P i v->∃t,v=Value.int (ns.getD i 0) t) /\
   ∀x t h' tk,vO ns d x->(∀b o,b ∉ wr->a.heap.get? b=some o->h'.get? b=some o)->Q (.int x t) { a with heap:=h',toks:=tk }) E s) :
  kw (qb prog w) A (call (.builtin "max") [x] [(("default" : bx),.int d f)]) Q E s:=by
 have c:(toString "max" ++ toString ".loop" : String) = "max.loop" := by decide
 refine sf F.kind_max F.plain_max F.entry_max (vI _ _) ?_;show kw _ A.in1 (Builtin.Builtins.bindParams "max" ["key", "default"] 0 ⟨[],[(("default" : bx),.int d f)]⟩ >>= _) _ _ s;refine jj (wpAny_of_eq (show Builtin.Builtins.bindParams "max" ["key", "default"] 0 ⟨[],[(("default" : bx),.int d f)]⟩=pure [none,some (.int d f)] from rfl) ?_);refine jj (ke ?_);refine jj (z3 h (λit a g=>?_) λ_ _ e=>e);obtain⟨I,fp,wr,P,St,rfl,W,j,k,p,q⟩:=g;refine jj (zh ?_);have l:a.heap.objs.size ∉ fp:=λm=>JL _ (k _ m);rw[c];refine ke ⟨KQ F.plain_max_loop _,uF W p a.heap.objs.size l d f _ 0 _ [] 0 rfl (Jb _) (W.frame _ _ _ j λb _ o e=>IH _ e) (.inl ⟨rfl,rfl⟩) (IW _ rfl) λx t h' tk m hk=>?_⟩;exact q x t h' tk m λb o n e=>hk b o n (Jd (IX e)) (IH _ e)
end
section
variable {X:Cx}{K:ca}{e:bb}{tl:DA}{p pos kpos p3:Pos}
def Fs(K:ca)(d:Int)(t:TA):TE:=λσ H Q=>t σ H λxs H1=>∃(p:ap) (ns:List Int),xs=[.ref p]/\SqL K H1 p (ns.map V.int)/\∀m:Int,vO ns d m->Q (.int m) H1
theorem AK{t:TA}{d:Int}{j}(hK:X.K=K)(hc:X.calm=true)(hg:Gl X "max")(k:X.mg "max" = none)(C:PA X [e] t)
  (N:kq [e] X.env=[(false,eval e X.env)]:=by rfl)
  (c:ze pos (kq [e] X.env)=(false,eval e X.env)::ze pos (kq [] X.env):=by rfl):PE X (.Call (.Name "max" p) [e] [⟨some "default",.Constant (.int d) j p3,kpos⟩] pos) (Fs K d t):=by
 subst hK;intro pins s σ H Q I h;refine KZ (fR I hg k PyProof.Rows.boot_max ?_ (by decide) (by decide));refine callWith_kw (thn (C pos pins s σ H _ I h) λus s1 l=>?_) c (by rw[c];rfl) rfl rfl;obtain⟨vs,H1,D,r,q⟩:=l;refine thn ((AB lF Dh:PK X [⟨some "default",.Constant (.int d) j p3,kpos⟩] _) pos pins s1 σ H1 (λB m=>B=[.int d]/\m=H1) D ⟨rfl,rfl⟩) λws s2 n=>?_;obtain⟨B,m,y,E,F,G⟩:=n;subst F G;obtain⟨u,rfl,⟨J,rfl⟩⟩:=fw E;obtain⟨q0,ns,rfl,hs,q⟩:=q;obtain⟨u,rfl,L⟩:=fw r;cases (show u=Value.ref q0 from L);obtain⟨a,rv,M,_⟩:=y.list hs;have hl:=M.isList;have z:q0<s2.heap.objs.size:=by obtain⟨_,e,_⟩:=hl;exact IX e
 have hsz:a.toArray.size=ns.length:=by have:=rv.length;simp at this ⊢;omega
 have W:=(Walks.list (prog:=X.prog) (w:=X.w) (A:=X.A.in1) (y.ok.hd hc) s2.heap.objs.size q0 (Jd z) a.toArray)
 rw[hsz] at W;show kw _ _ (call (.builtin "max") [.ref q0] [(("default" : bx),.int d J)]) _ _ _;refine vC (ns:=ns) (Qb hl ?_);refine⟨s2.heap.objs.size,_,_,_,_,rfl,W,⟨⟨_,IW _ rfl,rfl,rfl⟩,hl.push _⟩,λb f=>?_,λi v g=>?_,λx t h' tk k hk=>?_⟩;rcases IR.mp f with rfl|f;exact IX (IW _ rfl);obtain rfl:=IG.mp f;exact IX (IH _ (id hl).choose_spec.1);have g:a[i]? = some v:=by simpa using g
 have hi:i<a.length:=(IN.mp g).1;have hi2:i<ns.length:=by simp at hsz;omega
 obtain⟨u,e1,⟨t,e2⟩⟩:=rv.get (i:=i) (x:=.int ns[i]) (by rw[Jt,IK hi2];rfl);rw[g] at e1;cases e1;refine⟨t,?_⟩;rw[e2,IP,IK hi2];rfl;exact⟨.int x,m,y.kept λb o e=>hk b o (λf=>absurd (IX e) ((IG.mp f)▸JL _)) (IH _ e),⟨_,rfl⟩,q _ k⟩
def BQ(d:Int)(t:DA):DE:=λenv R=>t env λss a=>∃s es ns,ss=[s]/\aC a s=some (.list es)/\dS es=some ns/\∀m:Int,vO ns d m->R (.fr (.int m)) a
theorem C3{d:Int}{j}(hK:X.K=K)(hc:X.calm=true)(hg:Gl X "max")(i:X.mg "max" = none)(k:PA X [e] (upA K tl))
  (l:kq [e] X.env=[(false,eval e X.env)]:=by rfl)
  (c:ze pos (kq [e] X.env)=(false,eval e X.env)::ze pos (kq [] X.env):=by rfl):PE X (.Call (.Name "max" p) [e] [⟨some "default",.Constant (.int d) j p3,kpos⟩] pos) (up K (BQ d tl)) :=
 (AK (K:=K) hK hc hg i k l c).imp λσ H Q h=>by
 obtain⟨M,P,H0,σ0,env,ts,R,f,ht,n⟩:=h;refine⟨M,P,H0,σ0,env,ts,_,f,ht,λss g vs H1 h1 hl b=>?_⟩;obtain⟨s,es,ns,rfl,e1,e2,o⟩:=h1;obtain⟨v,rfl⟩:=sB hl;obtain⟨a,us,rfl,sq,q⟩:=(b.view (v:=v) (by simp) e1).list;rw[cD e2] at q;rw[q.ints] at sq;exact⟨a,ns,rfl,sq,λm h1=>n _ _ _ _ (o m h1) (b.drop.addFr (.int m))⟩
end
def vm(i:Nat)(t:DE):DE:=λenv R=>∃S d,env[i]? = some (.tr S d)/\t ((env.map vT).set i (.fr d)) λs a=>∃m:Int,aC a s=some (.int m)/\R (.fr (.int m)) env
theorem An(i:Nat){X:Cx}{K:ca}{e:bb}{t:DE}(h:PE X e (up K t)):PE X e (up K (vm i t)):=h.imp λσ H Q h=>by
 obtain⟨M,P,H0,σ0,env,ts,R,g,⟨S,d,e,ht⟩,p⟩:=h;have k:=g.frzT e;have q:i<env.length:=(IN.mp e).1;have l:∀(x:Option V) (s:Sl),(x,s)∈aw σ ((env.map vT).set i (.fr d)) []->(∃s',s=vT s')/\∀d',s=.fr d'->(x,Sl.fr d')∈aw σ (env.set i (.fr d)) ts:=λx s m=>by
  have m:(x,s)∈σ.zip ((env.map vT).set i (.fr d)):=by simpa[aw] using m
  obtain⟨j,hj,n⟩:=J2 m;rw[JZ,Kh,IF] at hj;rw[J3] at n;obtain⟨e1,e2⟩:=Prod.mk.inj n;rw[List.getElem_set] at e2;by_cases c:i=j;rw[if_pos c] at e2;refine⟨⟨.fr d,e2.symm⟩,λd' hd=>IJ _ ?_⟩;rw[List.mem_iff_getElem];refine⟨j,by rw[JZ,Kh];omega,?_⟩;rw[J3,List.getElem_set,if_pos c,e1,e2,hd];rw[if_neg c,Jn] at e2;refine⟨⟨_,e2.symm⟩,λd' hd=>IJ _ ?_⟩;rw[List.mem_iff_getElem];refine⟨j,by rw[JZ,Kh];omega,?_⟩;rw[J3,List.getElem_set,if_neg c,e1,Bm (e2.trans hd)]
 have no:∀a,a ∉ oas (aw σ ((env.map vT).set i (.fr d)) []):=λa z=>by
  obtain⟨⟨x,s⟩,r,u⟩:=aT.mp z;obtain⟨⟨s',rfl⟩,_⟩:=l x s r;exact xC u
 refine⟨N0,N0,H,σ,_,[],_,⟨⟨aO.refl,λa z=>z,λa z=>z.elim,λa z=>z.elim,λx d m=>?_,λx ds m=>?_,λx ds m=>?_,λx S d m=>?_,?_⟩,?_,(λv j m=>by cases m),λj ds' m=>?_⟩,ht,λs o v H1 h1 f=>?_⟩;obtain⟨v,e1,dn⟩:=k.e.fr x d ((l x _ m).2 d rfl);exact⟨v,e1,dn.to λb _ _ z=>z.elim (λz=>z.elim) λz=>absurd z (no b)⟩;obtain⟨⟨s',e1⟩,_⟩:=l _ _ m;cases s' <;> cases e1
 obtain⟨⟨s',e1⟩,_⟩:=l _ _ m;cases s' <;> cases e1
 obtain⟨⟨s',e1⟩,_⟩:=l _ _ m;cases s' <;> cases e1
 rw[List.eq_nil_iff_forall_not_mem.mpr no];exact J4;rw[Kh,IF];exact g.len;have m2:=J9 m;rcases List.mem_or_eq_of_mem_set m2 with h|h;obtain⟨s,_,e1⟩:=IZ.mp h;cases s <;> cases e1
 cases h;obtain⟨m,e1,w⟩:=h1;have ev:=(f.view (v:=v) (s:=s) (by simp) e1).int;subst ev;exact p _ _ _ _ w ((g.same f.e.keep.none).addFr (.int m))
section
variable {X:Cx}{K:ca}
def Gz(i:Nat)(u:DS):DS:=λDD env=>∃S d,env[i]? = some (.tr S d)/\u DD (env.set i (.fr d))
theorem tN(i:Nat){ss:List Stmt}{u:DS}(h:PSs X ss (upS K u)):PSs X ss (upS K (Gz i u)):=h.imp λD σ H h=>by
 obtain⟨M,P,H0,σ0,env,ts,DD,nv,a,⟨S,d,e,b⟩,ok⟩:=h;exact⟨M,P,H0,σ0,_,ts,DD,nv,a.frzT e,b,ok⟩
end
section
variable {X:Cx}{K:ca}
def GC(i:Nat)(tl:DA):DE:=λenv R=>(∃ds,(env[i]?).bind gR=some ds)/\tl env λss a=>∃l b ds s',ss=[.ow l]/\a[i]? = some b/\gR b=some ds/\ds.length+l.length<=sizeLine/\cx b (ds++l)=some s'/\R (.fr .none) (a.set i s')
theorem FO(i:Nat){y:bx}{e1:bb}{tl:DA}{apos cpos npos:Pos}(hK:X.K=K)(hN:X.N[i]? = some y)(u:PA X [e1] (upA K tl))
  (hv:Vis X.env.scope y:=by first|exact Or.inl rfl|exact Or.inr cc|exact Or.inr (Or.inr rfl)) (hd:(y==("__debug__" : bx))=false:=by decide)
  (p:(y==("__classdict__" : bx))=false:=by decide)
  (r:kq [e1] X.env=(false,eval e1 X.env)::kq [] X.env:=by rfl)
  (f:z5 (.Name y npos) "extend" X.env (eval (.Name y npos) X.env)=eval (.Name y npos) X.env:=by rfl)
  (j:((ze cpos (kq [e1] X.env)).all (λx=>!x.1)&&(KU cpos (KA [] X.env)).all (λx=>x.1.isSome)&&decide ([e1].length+([]:List KS).length+(if ([]:List KS).isEmpty then 0 else 1)<30))=true:=by rfl)
  (g:(apos.endLine==cpos.line)=true:=by rfl) (d:(ze cpos (kq [] X.env)).any (·.1)=false:=by rfl) :
  PE X (.Call (.Attribute (.Name y npos) "extend" apos) [e1] [] cpos) (up K (GC i tl)) :=
 (kBm (K:=K) hK PySem.F.plainAttrs_list PySem.F.slot_list_extend PySem.F.type_list_extend uC (bu hN hv hd p) u f j g r d).imp λσ H Q h=>by
 obtain⟨M,P,H0,σ0,env,ts,R,k,⟨⟨v,w⟩,ht⟩,A⟩:=h;obtain⟨T,B,C⟩:=kJ w;obtain⟨a,vs,s,D,_⟩:=k.mine B C;refine⟨.ref a,s,.inl ⟨rfl,vs,SqL.of D⟩,M,P,H0,σ0,env,ts,_,k,ht,λss m E H1 h1 hl c=>?_⟩;obtain⟨l,U,ds,s',rfl,z2,G,hz,es,I⟩:=h1;obtain⟨v1,rfl⟩:=sB hl;obtain⟨V,us,n,t,q⟩:=c.drop.mine z2 G;rw[s] at n;cases n;have J:=c.e;obtain⟨b,ws,L,O,S,_⟩:=J.ow (some v1) l (by rw[ar];exact IE _ (by simp[tmp]));cases L;have o:DNs K (Nw M (aw σ m ts)) H1 ws l:=S.to λb _ _ z=>by rw[ar];exact eM z
 exact⟨a,b,us,ws,rfl,rfl,t,O,by rw[q.len,o.len];exact hz,A _ _ _ _ I ((c.drop.mut (ds:=ds) z2 es s (q.app o)).addFr .non)⟩
end
def FnI(K:ca)(x:bx)(st:Stmt):Prop:=∃f fd,cb K ky x=some (some (.ref f))/\Fun K x x st f fd
def FnL(K:ca)(x:bx)(st:Stmt):Prop:=∃f fd,cb K ky x=some (some (.ref f))/\Fun K x x st f fd/\∀base:bd,K.In base->sx K base x fd
structure BnI(K:ca):Prop where
 len:cb K ky "len" = some none
 range:cb K ky "range" = some none
 min:cb K ky "min" = some none
 max:cb K ky "max" = some none
 enumerate:cb K ky "enumerate" = some none
 zip:cb K ky "zip" = some none
 all:cb K ky "all" = some none
 any:cb K ky "any" = some none
 isinstance:cb K ky "isinstance" = some none
 bool:cb K ky "bool" = some none
 int:cb K ky "int" = some none
 list:cb K ky "list" = some none
 tuple:cb K ky "tuple" = some none
 sorted:cb K ky "sorted" = some none
 str:cb K ky "str" = some none
 sum:cb K ky "sum" = some none
 abs:cb K ky "abs" = some none
 reversed:cb K ky "reversed" = some none
 dict:cb K ky "dict" = some none
section
variable {P:q3}{w:zb}{K:ca}{mg:bx->Option as}{base h:bd}{x:bx}{st:Stmt}{f:ap}{oc:as}{od an:Option ap}{osl:Array (Option as)}{kV doc pm cdv ct:as}{k:Nat}{ps:List bx}{sp:DSp}
theorem BnI.bn(X:K.In h)(G:h.Ns ky mg)(z:BnI K):Bn mg :=
 have m:∀{y:bx},cb K ky y=some none->mg y=none:=λe=>PySem.W.mg_none_of X G e
 ⟨m z.len,m z.range,m z.min,m z.max,m z.enumerate,m z.zip,m z.all,m z.any,m z.isinstance,m z.bool,m z.int,m z.list,m z.tuple,m z.sorted,m z.str,m z.sum,m z.abs,m z.reversed,m z.dict⟩
theorem fnI(a:cb K ky x=some (some (.ref f)))(l:K.lookup f=some ⟨oc,od,.func (PySem.W.fnOf x x (cT st) (bI st) (ac st) .none kV doc pm an cdv ct),osl⟩)(c:PySem.W.codeIn K cdv x=true)(k:PySem.W.keepIn K (.ref f)=true):FnI K x st:=⟨f,_,a,uW l c k⟩
theorem fnL{b T:ap}{d:Option ap}{e:Array (Option as)}{vs:Array as}(hx:x∈d8)(a:cb K ky x=some (some (.ref f)))(l:K.lookup f=some ⟨oc,od,.func (PySem.W.fnOf x x (cT st) (bI st) (ac st) .none kV doc pm an cdv ct),osl⟩)(c:PySem.W.codeIn K cdv x=true)(k:PySem.W.keepIn K (.ref f)=true)
  (hc:cdv=.ref b) (g:K.lookup b=some ⟨.type "code",d,.fields vs,e⟩) (h:vQ vs b T):FnL K x st:=⟨f,_,a,uW l c k,λbase i=>DQ hx a l hc g h i⟩
theorem dF(X:K.In h)(G:h.Ns ky mg)(g:FnI K x st)(b:∀{f:ap}{fd:kN},Fun K x x st f fd->cV K fd ps [])(ok:∀{f:ap}{fd:kN},Fun K x x st f fd->a9 P w K mg base CX0 k f fd ps (spD K sp)):Cal P w K mg base x k (spD K sp):=by obtain⟨f,fd,a,F⟩:=g;exact Hi F (PySem.W.mg_of X G a) (b F) (ok F)
theorem GH(X:K.In h)(G:h.Ns ky mg)(c:K.In base)(g:FnL K x st)(b:∀{f:ap}{fd:kN},Fun K x x st f fd->cV K fd ps [])(ok:∀{f:ap}{fd:kN},Fun K x x st f fd->sx K base x fd->a9 P w K mg base CX0 k f fd ps (spD K sp)):Cal P w K mg base x k (spD K sp):=by obtain⟨f,fd,a,F,L⟩:=g;exact Hi F (PySem.W.mg_of X G a) (b F) (ok F (L base c))
theorem H9{l:PySem.W.OpenLaw}{fa:ap}(X:K.In h)(G:h.Ns ky mg)(b:mg "law" = some (.ref fa))(g:FnI K "law" st)(c:∀{fd:kN},Fun K "law" "law" st fa fd->∀(s:ba) (v:as),QJ s fd ⟨[v],[]⟩ [("_law_script",v)])
  (ok:∀{fd:kN}{base:bd},Fun K "law" "law" st fa fd->K.In base->a9 l.prog w K mg base CX0 k fa fd ["_law_script"] (spD K sp)):∃fd:kN,(∀(s:ba) (v:as),QJ s fd ⟨[v],[]⟩ [("_law_script",v)])/\∀base:bd,K.In base->base.Ns ky mg->a9 l.prog w K mg base CX0 k fa fd ["_law_script"] (spD K sp):=by obtain⟨f,fd,a,F⟩:=g;have e:=b.symm.trans (PySem.W.mg_of X G a);cases e;exact⟨fd,c F,λbase d _=>ok F d⟩
end
section
variable {env:List Sl}{s:Sl}{d:ab}{i:Nat}{ta tb te:DE}{tl:DA}{g:G2}{k:Bool}{S:List ap}{ds:List ab}{W:List (List (List Int))}{r:List Int}{w:List (List Int)}{R:Sl->List Sl->Prop}{RT:Bool->List Sl->Prop}
theorem zJ(h1:Ev te env s)(e1:aC env s=some (.bool k))(h:RT k env):oW te env RT:=h1 _ ⟨k,e1,h⟩
theorem v6(h1:Ev te env s)(e1:aC env s=some d)(e2:yo d=some k)(h:RT k env):qK te env RT:=h1 _ ⟨d,k,e1,e2,h⟩
theorem uZ(a:env[i]? = some (.tr S (.list ds)))(e1:ds=List.map wD (W++[w])):EvT (kC i) env (!w.isEmpty):=λ_ h=>⟨S,W,w,a.trans (congrArg (λy=>some (Sl.tr S (PyData.list y))) e1),h⟩
theorem xQ(a:env[i]? = some (.tr S (.list ds)))(e1:ds=List.map wD (W++[r::w])):Ev (qM i) env (.fr (.list (r.map .int))):=λ_ h=>⟨S,W,r,w,a.trans (congrArg (λy=>some (Sl.tr S (PyData.list y))) e1),h⟩
theorem w_popL(a:env[i]? = some (.tr S (.list ds)))(e1:ds=List.map wD (W++[w]))(h:∀S',R .un (env.set i (.tr S' (fu W)))):xZ i env R:=⟨S,W,w,a.trans (congrArg (λy=>some (Sl.tr S (PyData.list y))) e1),h⟩
theorem zL{c:Bool}{A d B e:Prop}(a:d->A)(b:e->B)(h:if c=true then d else e):if c=true then A else B:=sH (p:=c=true) (by cases c <;> rfl) a b h
theorem zK{c:Bool}{A d B e:Prop}(a:d->A)(b:e->B)(h:if c=false then d else e):if (!c)=true then A else B:=sH (p:=c=false) (by cases c <;> rfl) a b h
theorem Hz(h1:Ev (dOp g ta tb) env s)(h:R s env):dOp g ta tb env R:=h1 _ h
theorem Fp(h1:Ev (Cl tl) env s)(h:R s env):Cl tl env R:=h1 _ h
theorem Fq(h1:Ev (zm i) env s)(h:R s env):zm i env R:=h1 _ h
end
def DM:Sl->Sl
 | .fr d=>.fr d
 | .ow ds=>.fr (.list ds)
 | .tr _ d=>.fr d
 | _=>.un
section
variable {prog:q3}{w:zb}{A:Around}{E:as->ba->Prop}{s:ba}{d:ap}{o:Obj}{es:Array DictEntry}{ep:Nat}
theorem q9(l:A.handled=none)(I d:ap)(j:d≠I)(es:Array DictEntry)(ep:Nat) :
  Walks prog w A I [I,d] [I] es.size (λi v=>∃h:i<es.size,v=es[i].key) (λi h=>h.IsKeyIter I d i es.size ep/\∃od,h.get? d=some od/\od.data=.dict es ep) where
 sub:=λb a=>by simp at a;simp[a]
 frame:=λ_ _ _ st hk=>⟨st.1.at λo e=>hk I (by simp) o e,let ⟨od,h1,h2⟩:=st.2;⟨od,hk d (by simp) od h1,h2⟩⟩
 item:=λi s Q E hi st c=>by
  obtain⟨st,od,h1,h2⟩:=st;refine xi st h1 h2 hi λh' f g=>?_;exact c _ h' s.toks ⟨hi,rfl⟩ ⟨f,od,(g.2 d j).trans h1,h2⟩ λb o a e=>(g.2 b (λh=>a (by simp[h]))).trans e
 done:=λs Q E st c=>by
  obtain⟨st,od,h1,h2⟩:=st;exact xR l st h1 h2 (IS _) λh' k=>c h' s.toks λb o a e=>k b o (λh=>a (by simp[h])) e
 self:=λ_ _ _ _ st c=>wpAny_pyIter_keyiter st.1 c
theorem xB{Q:Bool->ba->Prop}(g:(d==cf)=false)(ho:s.heap.get? d=some o)(hc:o.ExactDict)(e:o.data=.dict es ep)(f:es.size<=2 ^ 24)
  (h : Q false s):kw (qb prog w) A (Builtin.List.listLengthHint (.ref d)) Q E s:=by
 unfold Builtin.List.listLengthHint;refine jj (K0 ⟨_,ho,hc.1⟩ F.slot_dict_len.lookup ?_);generalize c:("dict.__len__" : String)=id0
 wp_delta
 rw[show splitId id0=some ("dict", "__len__") from by subst c;decide +kernel];subst c;refine jj (KT (T := "dict") (b:=true) ⟨_,ho,hc.1⟩ (by rw[isSubtype_type];kernel_rfl) ?_);refine Q7 (λa=>absurd a (by decide)) (λ_=>?_);refine Q7 (λ_=>?_) (λa=>absurd (by decide +kernel) a);refine jj (Zz (T := "dict") ⟨_,ho,hc.1⟩ ?_);exact ke h
theorem oR{R:Q2->ba->Prop}(J:A.handled=none)(x:(d==cf)=false)(ho:s.heap.get? d=some o)(hc:o.ExactDict)(c:o.data=.dict es ep)(y:es.size<=2 ^ 24)(S:ap)(res:as)(q:Nat)(u:s.heap.get? S=some { cls:=.type "list",data:=.seq #[] q })
  (K:∀h' tk j c',(∀b o,b≠S->s.heap.get? b=some o->h'.get? b=some o)->h'.get? S=some { cls:=.type "list",dict:=none,data:=.seq j c',slots:=#[] } ->
   ItemsOf (λi v=>∃h:i<es.size,v=es[i].key) j es.size->R (.ok (.ret res)) { s with heap:=h',toks:=tk }) :
  kw (qb prog w) A.in1 (Builtin.List.listExtendWith (.ref S) (.ref d) res)
   (λfin s'=>match fin with|.done f=>R (.ok f) s'|.again c'=>c'.quiet=true/\KM (qb prog w) A c' R s') (λe s'=>R (.error e) s') s:=by
 have p:S≠d:=λe=>by
  rw[e,ho] at u;injection u with u;rw[u] at c;cases c
 have z:S<s.heap.objs.size:=IX u;have r:S≠s.heap.objs.size:=Jd z;have E:d≠s.heap.objs.size:=Jd (IX ho);have G:S ∉ [s.heap.objs.size,d]:=λB=>by
  simp at B;rcases B with e|e;exact r e;exact p e
 have W:=(q9 (prog:=prog) (w:=w) (A:=A.in1) J s.heap.objs.size d E es ep).toS;have key:∀(h:bd) (l tk:Nat),h.IsKeyIter s.heap.objs.size d 0 es.size ep->h.get? d=some o->(∀b o,b≠S->s.heap.get? b=some o->h.get? b=some o) ->
   h.get? S=some { cls:=.type "list",data:=.seq #[] l }->KM (qb prog w) A (.builtin "list.extend.loop" ⟨[.ref S,.ref s.heap.objs.size,res],[]⟩) R { s with heap:=h,toks:=tk }:=by intro h l tk H hd hk a;refine codeAny_extend_loopS W (by rw[z0];omega) S G res es.size 0 _ #[] l rfl (Jb _) ⟨H,o,hd,c⟩ a (ItemsOf.nil _) λs' j c' B I C=>?_;rw[Moved.eq_with B];refine K s'.heap s'.toks j c' (λb o D e=>B.heap b o (λm=>?_) (hk b o D e)) I C;rcases IR.mp m with e'|m;exact D e';exact absurd (IX e) (by rw[IG.mp m];exact JL _)
 unfold Builtin.List.listExtendWith;refine jj (Zz (T := "dict") ⟨_,ho,hc.1⟩ ?_);have h1:Builtin.List.listSameRef (.ref S) (.ref d)=false:=by simp[Builtin.List.listSameRef,p]
 have h2:(Value.type "dict" == Value.type "list")=false:=by decide
 have h3:(Value.type "dict" == Value.type "tuple")=false:=by decide
 simp only[h1,h2,h3,Bool.or_false,Jj,if_false];refine jj (uP x ho hc c ?_);have a:=IH { cls:=.type "dict_keyiterator",data:=.fields #[.ref d,.int 0 0,.int es.size 0,.int ep 0] } u;have g:=IH { cls:=.type "dict_keyiterator",data:=.fields #[.ref d,.int 0 0,.int es.size 0,.int ep 0] } ho;have k:(s.heap.push { cls:=.type "dict_keyiterator",data:=.fields #[.ref d,.int 0 0,.int es.size 0,.int ep 0] }).IsKeyIter s.heap.objs.size d 0 es.size ep:=⟨_,IW _ rfl,rfl,rfl⟩
 refine jj (zp (xB x g hc c y ?_));refine Q7 (λ_=>?_) (λ_=>ke ⟨KQ F.plain_extend_loop _,key _ q _ k g (λb o _ e=>IH _ e) a⟩);refine jj (KO ?_);refine jj ?_;show kw _ _ (Zr S (·.push .none) >>= λ_=>Zr S (·.pop)) _ _ _;refine jj (Qk a rfl ?_);have n:=Jx (Obj.mapSeq (·.push Value.none)) a rfl;refine Qk (hz:=by seq_fits) n rfl ?_;have t:=Jx (Obj.mapSeq (·.pop)) n rfl;refine ke ⟨KQ F.plain_extend_loop _,key _ _ _ (k.at λo e=>?_) ?_ (λb o D e=>?_) t⟩;exact(Jp _ _ r).trans ((Jp _ _ r).trans e);exact(Jp _ _ p).trans ((Jp _ _ p).trans g);exact(Jp _ _ (Ne.symm D)).trans ((Jp _ _ (Ne.symm D)).trans (IH _ e))
theorem mK{Q:List as->ba->Prop}(n:A.handled=none)(m:(d==cf)=false)(ho:s.heap.get? d=some o)(hc:o.ExactDict)(c:o.data=.dict es ep)(f:es.size<=2 ^ 24)
  (p:∀h' tk g,(∀b o,s.heap.get? b=some o->h'.get? b=some o)->s.heap.objs.size<=h'.objs.size->ItemsOf (λi v=>∃h:i<es.size,v=es[i].key) g es.size->Q g.toList { s with heap:=h',toks:=tk }) :
  kw (qb prog w) A (collect (.ref d)) Q E s:=by
 have key:∀R:Q2->ba->Prop,(∀h' tk a c',(∀b o,b≠s.heap.objs.size->(s.heap.push { cls:=.type "list",data:=.seq ([]:List as).toArray }).get? b=some o->h'.get? b=some o)->h'.get? s.heap.objs.size=some { cls:=.type "list",dict:=none,data:=.seq a c',slots:=#[] }->ItemsOf (λi v=>∃h:i<es.size,v=es[i].key) a es.size->R (.ok (.ret (.ref s.heap.objs.size))) { s with heap:=h',toks:=tk }) ->
   KM (qb prog w) A (.builtin "list.__iadd__" ⟨[.ref s.heap.objs.size,.ref d],[]⟩) R { s with heap:=s.heap.push { cls:=.type "list",data:=.seq ([]:List as).toArray } }:=λR q=>by
  refine K8 F.entry_list_iadd ?_;rw[Around.under_plainId F.plain_list_iadd _];show kw _ A.in1 (Builtin.List.listExtendWith (.ref s.heap.objs.size) (.ref d) (.ref s.heap.objs.size)) _ _ _;exact oR (R:=R) (A:=A) (s:={ s with heap:=s.heap.push { cls:=.type "list",data:=.seq ([]:List as).toArray } }) n m (IH _ ho) hc c f s.heap.objs.size _ 0 (IW _ rfl) q
 unfold collect;refine jj (wpAny_runValue (K8 F.entry_proto_collect ?_));rw[Around.under_plainId F.plain_proto_collect _];show kw _ A.in1 (newList [] >>= λl=>again (.builtin "list.__iadd__" ⟨[l,.ref d],[]⟩)) _ _ s;refine jj (zh ?_);refine ke ⟨KQ F.plain_list_iadd _,key _ λh' tk a c' hk j k=>?_⟩;show kw _ A (load s.heap.objs.size >>= _) _ _ _;refine jj (wpAny_load j ?_);exact ke (p h' tk a (λb o e=>hk b o (Jd (IX e)) (IH _ e)) (JW (IX j)) k)
end
def kx:Bool->zf->Array zf->Nat->Nat->Nat->StateT SortSt Sem (Option Nat):=sortPriv% PySem.Builtin.gallop
section
variable {prog:q3}{w:zb}{A:Around}{E:as->ba->Prop}{s:ba}{κ:QX}{a0:Array zf}{st:SortSt}{G:Prop}
structure Sg(κ:QX)(a0:Array zf)(st:SortSt):Prop where
 kind:kindOf st=κ
 perm:(zd st).Perm a0
 failed:failedOf st=none
theorem Sg.size(g:Sg κ a0 st):(zd st).size=a0.size:=g.perm.size_eq
theorem Sg.mem(g:Sg κ a0 st){x:zf}(h:x∈zd st):x∈a0:=g.perm.mem_iff.mp h
theorem pd{arr:Array zf}{i:Nat}{Q:zf->SortSt->Prop}(hi:i<arr.size)(h:Q arr[i] st):wpS (qb prog w) A E s (QH arr i) Q st:=by rw[elem'_eq,getElem?_pos arr i hi];exact KF h
def gK(xs:Array zf)(i:Nat):zf:=xs.getD i (.none,.none)
structure En{β γ:Type}(Y K:β->SortSt->Prop)(G:γ->SortSt->Prop)(Q:ForInStep (Option γ×β)->SortSt->Prop):Prop where
 y : ∀d st,Y d st->Q (.yield (none,d)) st
 d : ∀d st,K d st->Q (.done (none,d)) st
 r : ∀v d st,G v st->Q (.done (some v,d)) st
theorem Ci{β γ:Type}{a b:Nat}{f:Nat->Option γ×β->StateT SortSt Sem (ForInStep (Option γ×β))}{c:β}(J:Nat->β->SortSt->Prop)(K:β->SortSt->Prop)(G:γ->SortSt->Prop){Q:Option γ×β->SortSt->Prop}
  (step:∀i d st,a<=i->i<b->J i d st->∀Q,En (J (i+1)) K G Q->wpS (qb prog w) A E s (f i (none,d)) Q st)
  (h : J a c st) (g:∀d e,J (max a b) d e->K d e) (hK:∀d e,K d e->Q (none,d) e) (j:∀v d e,G v e->Q (some v,d) e):wpS (qb prog w) A E s (forIn [a:b] (none,c) f) Q st:=by refine wpS_forRange (I:=λi c e=>∃d,c=(none,d)/\J i d e) (λi c e h1 h2 h3=>?_) (λc e h3=>?_) ⟨c,rfl,h⟩;obtain⟨d,rfl,h3⟩:=h3;exact step i d e h1 h2 h3 _ ⟨λd _ h=>⟨d,rfl,h⟩,hK,j⟩;obtain⟨d,rfl,h3⟩:=h3;exact hK _ _ (g _ _ h3)
theorem bL{α:Type}{c:Prop} [Decidable c]{x y:StateT SortSt Sem α}{Q:α->SortSt->Prop}(h1:c->wpS (qb prog w) A E s x Q st)(h2:¬c->wpS (qb prog w) A E s y Q st):wpS (qb prog w) A E s (if c then x else y) Q st:=by split;exact h1 ‹_›;exact h2 ‹_›
end
def nM:Nat->StateT SortSt Sem Unit:=sortPriv% PySem.Builtin.setMinGallop
abbrev F7:=ForInStep (Option (Array zf)×Array zf×Nat×Nat×Nat×Nat×Nat)
section
variable (a b:Array zf)
def lD(o:Array zf)(i j:Nat):=o++a.extract i a.size++b.extract j b.size
def lL(o:Array zf)(i j:Nat):=o++b.extract j b.size++a.extract i a.size
def g3(g x y:Nat)(o:Array zf)(i j:Nat):StateT SortSt Sem F7:=QH a i >>= λv=>if (i+1+1==a.size)=true then pure (.done (some (lL a b (o.push v) (i+1) j),o.push v,i+1,j,g,x,y)) else if (decide (x<7)&&decide (y<7))=true then pure (.done (none,o.push v,i+1,j,g,x,y)) else pure (.yield (none,o.push v,i+1,j,g,x,y))
def g2k(g x y:Nat)(o:Array zf)(i j:Nat):Option Nat->StateT SortSt Sem F7
 | some k=>if k>0 then if (j+k==b.size)=true then pure (.done (some (lD a b (o++b.extract j (j+k)) i (j+k)),o++b.extract j (j+k),i,j+k,g,x,k)) else g3 a b g x k (o++b.extract j (j+k)) i (j+k) else g3 a b g x k o i j
 | _=>pure (.done (some (lD a b o i j),o,i,j,g,x,y))
def g2(g x y:Nat)(o:Array zf)(i j:Nat):StateT SortSt Sem F7:=QH b j >>= λv=>if (j+1==b.size)=true then pure (.done (some (lD a b (o.push v) i (j+1)),o.push v,i,j+1,g,x,y)) else QH a i >>= λu=>kx true u b (j+1) (b.size - (j+1)) 0 >>= g2k a b g x y (o.push v) i (j+1)
def g1k(g x y:Nat)(o:Array zf)(i j:Nat):Option Nat->StateT SortSt Sem F7
 | some k=>if k>0 then if (i+k+1==a.size)=true then pure (.done (some (lL a b (o++a.extract i (i+k)) (i+k) j),o++a.extract i (i+k),i+k,j,g,k,y)) else if (i+k==a.size)=true then pure (.done (some (lD a b (o++a.extract i (i+k)) (i+k) j),o++a.extract i (i+k),i+k,j,g,k,y)) else g2 a b g k y (o++a.extract i (i+k)) (i+k) j else g2 a b g k y o i j
 | _=>pure (.done (some (lD a b o i j),o,i,j,g,x,y))
def g1(g x y:Nat)(o:Array zf)(i j:Nat):StateT SortSt Sem F7:=nM g >>= λ_=>QH b j >>= λv=>kx false v a i (a.size - i) 0 >>= g1k a b g x y o i j
def hD(o:Array zf)(i j:Nat):=a.extract 0 i++b.extract 0 j++o.reverse
def hF(o:Array zf)(i j:Nat):=b.extract 0 j++a.extract 0 i++o.reverse
abbrev G7:=ForInStep (Option (Array zf)×Nat×Nat×Array zf×Nat×Nat×Nat)
abbrev G5:=ForInStep (Option (Array zf)×Nat×Nat×Array zf×Nat)
def h3(g x y:Nat)(o:Array zf)(i j:Nat):StateT SortSt Sem G7:=QH a (i - 1) >>= λv=>if (i - 1==0)=true then pure (.done (some (hD a b (o.push v) (i - 1) j),i - 1,j,o.push v,g,x,y)) else if (decide (x<7)&&decide (y<7))=true then pure (.done (none,i - 1,j,o.push v,g,x,y)) else pure (.yield (none,i - 1,j,o.push v,g,x,y))
def h2k(g x y:Nat)(o:Array zf)(i j:Nat):Option Nat->StateT SortSt Sem G7
 | some p=>if j - p>0 then if (p==1)=true then pure (.done (some (hF a b (o++(b.extract p j).reverse) i p),i,p,o++(b.extract p j).reverse,g,x,j - p)) else if (p==0)=true then pure (.done (some (hD a b (o++(b.extract p j).reverse) i p),i,p,o++(b.extract p j).reverse,g,x,j - p)) else h3 a b g x (j - p) (o++(b.extract p j).reverse) i p else h3 a b g x (j - p) o i j
 | _=>pure (.done (some (hD a b o i j),i,j,o,g,x,y))
def h2(g x y:Nat)(o:Array zf)(i j:Nat):StateT SortSt Sem G7:=QH b (j - 1) >>= λv=>if (j - 1==1)=true then pure (.done (some (hF a b (o.push v) i (j - 1)),i,j - 1,o.push v,g,x,y)) else QH a (i - 1) >>= λu=>kx true u b 0 (j - 1) (j - 1 - 1) >>= h2k a b g x y (o.push v) i (j - 1)
def h1k(g x y:Nat)(o:Array zf)(i j:Nat):Option Nat->StateT SortSt Sem G7
 | some p=>if i - p>0 then if (p==0)=true then pure (.done (some (hD a b (o++(a.extract p i).reverse) p j),p,j,o++(a.extract p i).reverse,g,i - p,y)) else h2 a b g (i - p) y (o++(a.extract p i).reverse) p j else h2 a b g (i - p) y o i j
 | _=>pure (.done (some (hD a b o i j),i,j,o,g,x,y))
def h1(g x y:Nat)(o:Array zf)(i j:Nat):StateT SortSt Sem G7:=nM g >>= λ_=>QH b (j - 1) >>= λv=>kx false v a 0 i (i - 1) >>= h1k a b g x y o i j
def hi3(_:Nat)(s:Option (Array zf)×Nat×Nat×Array zf×Nat×Nat×Nat):StateT SortSt Sem G7:=if s.2.2.2.2.1>1 then h1 a b (s.2.2.2.2.1 - 1) s.2.2.2.2.2.1 s.2.2.2.2.2.2 s.2.2.2.1 s.2.1 s.2.2.1 else h1 a b s.2.2.2.2.1 s.2.2.2.2.2.1 s.2.2.2.2.2.2 s.2.2.2.1 s.2.1 s.2.2.1
def Im(s:Option (Array zf)×Nat×Nat×Array zf×Nat×Nat×Nat):StateT SortSt Sem G5:=match s.1 with
 | some r=>pure (.done (some r,s.2.1,s.2.2.1,s.2.2.2.1,s.2.2.2.2.1))
 | none=>nM (s.2.2.2.2.1+1) >>= λ_=>pure (.yield (none,s.2.1,s.2.2.1,s.2.2.2.1,s.2.2.2.2.1+1))
def Io(g:Nat)(s:Option (Array zf)×Nat×Nat×Array zf×Nat×Nat):StateT SortSt Sem G5:=match s.1 with
 | some r=>pure (.done (some r,s.2.1,s.2.2.1,s.2.2.2.1,g))
 | none=>liftM (PySem.rule "list.sort.gallop") >>= λ_=>forIn [:a.size+b.size] (none,s.2.1,s.2.2.1,s.2.2.2.1,g+1,s.2.2.2.2.1,s.2.2.2.2.2) (hi3 a b) >>= Im
def hi2(g:Nat)(_:Nat)(s:Option (Array zf)×Nat×Nat×Array zf×Nat×Nat):StateT SortSt Sem (ForInStep (Option (Array zf)×Nat×Nat×Array zf×Nat×Nat)):=QH b (s.2.2.1 - 1) >>= λv=>QH a (s.2.1 - 1) >>= λu=>lt' v u >>= fun
 | some w=>if w=true then QH a (s.2.1 - 1) >>= λv=>if (s.2.1 - 1==0)=true then pure (.done (some (hD a b (s.2.2.2.1.push v) (s.2.1 - 1) s.2.2.1),s.2.1 - 1,s.2.2.1,s.2.2.2.1.push v,s.2.2.2.2.1+1,0)) else if s.2.2.2.2.1+1≥g then pure (.done (none,s.2.1 - 1,s.2.2.1,s.2.2.2.1.push v,s.2.2.2.2.1+1,0)) else pure (.yield (none,s.2.1 - 1,s.2.2.1,s.2.2.2.1.push v,s.2.2.2.2.1+1,0))
  else QH b (s.2.2.1 - 1) >>= λv=>if (s.2.2.1 - 1==1)=true then pure (.done (some (hF a b (s.2.2.2.1.push v) s.2.1 (s.2.2.1 - 1)),s.2.1,s.2.2.1 - 1,s.2.2.2.1.push v,0,s.2.2.2.2.2+1)) else if s.2.2.2.2.2+1≥g then pure (.done (none,s.2.1,s.2.2.1 - 1,s.2.2.2.1.push v,0,s.2.2.2.2.2+1)) else pure (.yield (none,s.2.1,s.2.2.1 - 1,s.2.2.2.1.push v,0,s.2.2.2.2.2+1))
 | _=>pure (.done (some (hD a b s.2.2.2.1 s.2.1 s.2.2.1),s.2.1,s.2.2.1,s.2.2.2.1,s.2.2.2.2.1,s.2.2.2.2.2))
def hi1(_:Nat)(s:Option (Array zf)×Nat×Nat×Array zf×Nat):StateT SortSt Sem G5:=forIn [:a.size+b.size] (none,s.2.1,s.2.2.1,s.2.2.2.1,0,0) (hi2 a b s.2.2.2.2) >>= Io a b s.2.2.2.2
end
section
variable {κ:QX}{a0:Array zf}{st:SortSt}
def Sb(κ:QX)(a0:Array zf)(st a:SortSt):Prop:=Sg κ a0 a/\Qa a=Qa st
theorem Sb.arr{a:SortSt}(h:Sb κ a0 st a){xs:Array zf}(b:xs.Perm (zd a)):Sb κ a0 st (setArr a xs):=⟨⟨h.1.1,b.trans h.1.2,h.1.3⟩,h.2⟩
theorem Ed{p:Array zf}{i j:Nat}(hj:j<=p.size)(k:Nat):gK (Q1 p i j ((j - i) / 2)) k=if i<=k/\k<j then gK p (i+j - 1 - k) else gK p k:=by unfold gK;rw[Array.getD_eq_getD_getElem?,getElem?_mirror_all hj];split <;> rw[Array.getD_eq_getD_getElem?]
theorem Ee{p:Array zf}{a d:Nat}(hs:a<p.size)(hd:d<=a)(k:Nat):gK (bubble p a d) k=if k=a - d then gK p a else if a - d<k/\k<=a then gK p (k - 1) else gK p k:=by
 unfold gK;simp only[Array.getD_eq_getD_getElem?];rw[getElem?_bubble hs d hd]
 repeat' split
 all_goals rfl
end
section
variable {prog:q3}{w:zb}{A:Around}{E:as->ba->Prop}{s:ba}{vs:List as}
def GQ(prog:q3)(w:zb)(A:Around)(s:ba)(l:ap)(vs:List as):Prop:=∀{E:as->ba->Prop}{Q:List as->ba->Prop},(∀h' tk,(∀b o,s.heap.get? b=some o->h'.get? b=some o)->s.heap.objs.size<=h'.objs.size->Q vs { s with heap:=h',toks:=tk })->kw (qb prog w) A (collect (.ref l)) Q E s
theorem mL{l:ap}(hl:s.heap.IsList l vs.toArray)(a:vs.length<1000000):GQ prog w A s l vs:=λh =>
 collect_list hl (h _ s.toks (λb o e=>by rw[Heap.get?_update_ne _ _ _ _ (Jd (IX e))];exact IH _ e) (by rw[Heap.size_update,size_push'];omega)) (by rw[z0];omega)
end
theorem wR{K:ca}{N:ap->Prop}{H:Hp}{vs:List V}{ds:List ab}{a ws:List as}(rv:aH vs a)(q:DNs K N H vs ds)(b:ws.Perm a):∃vs' es,aH vs' ws/\DNs K N H vs' es/\es.Perm ds:=by
 have hl:=rv.length;have hd:=q.len;obtain⟨t,pt,rfl⟩:=cA (f:=λx:as×V×ab=>x.1) b (a.zip (vs.zip ds)) (by rw[List.map_fst_zip];simp;omega);have hz:(t.map (·.2)).Perm (vs.zip ds):=by have:=pt.map (·.2);rwa [Kd (by simp;omega)] at this
 refine⟨(t.map (·.2)).map (·.1),(t.map (·.2)).map (·.2),?_,oV λz h=>oU q z (hz.mem_iff.mp h),?_⟩;rw[Jq];exact nh λx hx=>jM rv x (pt.mem_iff.mp hx);have:=hz.map (·.2);rwa [Kd (by omega)] at this
def D2(KP:ab->Prop)(tb:DE)(es:List ab):Prop:=tb (es.map .fr) λs env=>∃kd,aV env s=some kd/\KP kd
section
variable {X:Cx}{pins:List (ap×Obj)}{σ:St}{H:Hp}{s:ba}{KP:ab->Prop}{tb:DE}
def GM(KP:ab->Prop)(X:Cx)(H:Hp):VK:=λv H'=>aS H H'/\∃kd,KP kd/\DN X.K N0 H' v kd
theorem xz{fl:Except as Flow}{s':ba}(I:Inv X pins σ H s)(c:CR CX0 X.stack X.prog X.w H s (GM KP X H) E0 fl s'):∃r,fl=.ok (.ret r)/\∃kd,KP kd/\vP X pins σ H s kd r s':=by
 cases fl with
 | error e=>exact c.elim
 | ok fl =>
  cases fl with
  | ret z =>
   obtain⟨v1,H',os,bare,un,hok,rv,f,kd,d,dn⟩:=c;refine⟨_,rfl,kd,d,H',v1,I.call' (ch:=[]) os un hok bare (λb z=>nomatch z),f,rv,dn,λb o a e=>⟨un.keep b o e a.1 (λz=>?_) (by simp),un.free b o e a.1 (by simp)⟩⟩;rcases IR.mp (I.stkSub b z) with z|z;exact a.2.1 z;exact a.2.2.1 z
  | _=>exact False.elim c
theorem uM{vs:List V}{ds:List ab}(q:DNs X.K N0 H vs ds)(hk:D2 KP tb ds):up X.K tb (vs.map some) H (GM KP X H):=by refine⟨N0,N0,H,_,_,[],_,Ae q,hk,λs1 env' v' H' ⟨kd,d,c⟩ a=>⟨(a.e.keep).none,kd,c,?_⟩⟩;exact(a.kept (ts:=[]) (v:=v') (s:=s1) (by simp) d).to λb _ _ z=>z.elim
end
section
variable {K:ca}{x qual p q r:bx}{st:Stmt}{f:ap}{fd:kN}(F:Fun K x qual st f fd)
def BdA(x qual:bx)(st:Stmt)(us:List as)(ps:List (bx×as)):Prop:=∀(kV doc pm:as) (an:Option ap) (cdv ct:as),Qj (PySem.W.fnOf x qual (cT st) (bI st) (ac st) .none kV doc pm an cdv ct) ⟨us,[]⟩=pure ps
include F
theorem bd1(h:∀a,BdA x qual st [a] [(p,a)]:=by intros;unfold BdA;intros;rfl):cV K fd [p] []:=F.binds (ps:=[p]) λ_ _ _ _ _ _ us hl=>us1 (Q:=λus=>Qj _ ⟨us,[]⟩=pure (List.zip _ us)) hl λa=>h a _ _ _ _ _ _
theorem bd2(h:∀a b,BdA x qual st [a,b] [(p,a),(q,b)]:=by intros;unfold BdA;intros;rfl):cV K fd [p,q] []:=F.binds (ps:=[p,q]) λ_ _ _ _ _ _ us hl=>us2 (Q:=λus=>Qj _ ⟨us,[]⟩=pure (List.zip _ us)) hl λa b=>h a b _ _ _ _ _ _
theorem bd3(h:∀a b c,BdA x qual st [a,b,c] [(p,a),(q,b),(r,c)]:=by intros;unfold BdA;intros;rfl):cV K fd [p,q,r] []:=F.binds (ps:=[p,q,r]) λ_ _ _ _ _ _ us hl=>us3 (Q:=λus=>Qj _ ⟨us,[]⟩=pure (List.zip _ us)) hl λa b c=>h a b c _ _ _ _ _ _
end
abbrev ZL(z TI TO i1 i2 l1 l2:ap)(i:Nat)(h:bd):Prop:=QB h z TI TO .none/\K5 h TI (.ref i1) (.ref i2)/\(∃p q,K5 h TO p q)/\h.IsListIter i1 l1 i/\h.IsListIter i2 l2 i
section
variable {z TI TO i1 i2 l1 l2:ap}
theorem ZL.obj{i:Nat}{h:bd}(st:ZL z TI TO i1 i2 l1 l2 i h)(d:ap)(hd:d∈[z,TI,TO,i1,i2]):∃o,h.get? d=some o/\∀v,o.data≠.cell v:=by obtain⟨hz,a,⟨p,q,b⟩,⟨c,e1,_,d1⟩,f,e2,_,d2⟩:=st;simp only[IR,Jk,or_false] at hd;rcases hd with rfl|rfl|rfl|rfl|rfl;exact⟨_,hz,λv e=>nomatch (e:Data.fields _=Data.cell v)⟩;exact⟨_,a,λv e=>nomatch (e:Data.seq _ _=Data.cell v)⟩;exact⟨_,b,λv e=>nomatch (e:Data.seq _ _=Data.cell v)⟩;exact⟨c,e1,λv e=>by rw[d1] at e;cases e⟩;exact⟨f,e2,λv e=>by rw[d2] at e;cases e⟩
theorem ZAp.to{X:Cx}{pins:List (ap×Obj)}{σ:St}{H:Hp}{s:ba}{xs ys:List V}(a:ZAp z TI TO i1 i2)(I:Inv X pins σ H s)(e:∀d∈[z,TI,TO,i1,i2],hV X pins H d)(h1:SqB X.K H false l1 xs)(h2:SqB X.K H false l2 ys):Zk z TI TO i1 i2 l1 l2 :=
 have b:=λd hd=>aM I h1 (e d hd);have c:=λd hd=>aM I h2 (e d hd)
 ⟨a.TIz,a.TOz,a.i1z,a.i2z,a.TITO,a.TIi1,a.TIi2,a.TOi1,a.TOi2,a.i12,b _ (by simp),b _ (by simp),b _ (by simp),b _ (by simp),c _ (by simp),c _ (by simp),c _ (by simp),c _ (by simp)⟩
theorem sL{P:q3}{w:zb}{K:ca}{es:List bb}{N:Nat}{pos:Pos}(j:ZAp z TI TO i1 i2) :
  zD P w K (.Tuple es N pos) (Itz K false false l1 l2) [z,TI,TO,i1,i2] z (ZL z TI TO i1 i2 l1 l2) where
 mem:=by simp
 obj:=λi h st d hd=>st.obj d hd
 keep:=λi h h' st k=>by
  obtain⟨hz,a,⟨p,q,g⟩,h1,h2⟩:=st;exact⟨k z (by simp) _ hz,k TI (by simp) _ a,⟨p,q,k TO (by simp) _ g⟩,h1.at λo e=>k i1 (by simp) o e,h2.at λo e=>k i2 (by simp) o e⟩
 item:=by
  intro X J hw hK hc i pins s σ H E I B st hg;subst J hw hK;obtain⟨xs,ys,x,y,b,c,hx,M⟩:=hg;obtain⟨hz,a,⟨p,q,g⟩,h1,h2⟩:=id st;obtain⟨C,l,m⟩:=I.seq b;obtain⟨D,n,r⟩:=I.seq c;obtain⟨u,O,R⟩:=l.get hx;obtain⟨v,hv,rv⟩:=n.get M;refine wpAny_pyNext_zip_item (j.to I B b c) hz a g h1 h2 m r (x:=u) (y:=v) (by simpa using O) (by simpa using hv) λh' a1 a2 a3 S U _ hk=>⟨_,rfl,Zm a1 λV L f=>?_⟩
  have F:=λd hd=>let ⟨_,e,_⟩:=st.obj d hd;IX e
  have g2:=f.extBut _ _ (JR (F z (by simp))) U;have hn:H s.heap.objs.size=none:=I.hok.fresh (IS _);refine⟨.ref s.heap.objs.size,upd H s.heap.objs.size (.tup [x,y]),(I.turnedN (t':=s.toks) B λd o hd e=>f.extBut d o (λw'=>hd (by simp[w'])) (hk d o (λw'=>hd (by simp[w'])) (λw'=>hd (by simp[w'])) (λw'=>hd (by simp[w'])) (λw'=>hd (by simp[w'])) e)).track (T:=s.heap.objs.size) (o:=.tup [x,y]) (I.fpOk (IS _) hn) ⟨by show 2<=sizeLine;decide,[u,v],.cons R (.cons rv .nil),_,g2,rfl,⟨_,rfl⟩,rfl⟩,rfl,⟨_,x,y,rfl,hn,rfl,λY t=>by rw[I.seq_inj t b];exact hx,λY t=>by rw[I.seq_inj t c];exact M⟩,⟨L,f.extBut _ _ j.TIz (hk _ _ j.TIz j.TITO j.TIi1 j.TIi2 a),⟨u,v,f.extBut _ _ j.TOz a2⟩,a3.at λo e=>f.extBut _ o j.i1z e,S.at λo e=>f.extBut _ o j.i2z e⟩,λd hd=>?_⟩;rw[al (Jd (F d hd))];exact(B d hd).1
 done:=by intro X J hw hK hc i pins s σ H E I B st hg;subst J hw hK;obtain⟨xs,ys,b,c,G⟩:=hg;obtain⟨hz,a,⟨p,q,g⟩,h1,h2⟩:=st;obtain⟨C,l,m⟩:=I.seq b;obtain⟨D,n,r⟩:=I.seq c;have Z:=l.length;have a6:=n.length;exact wpAny_pyNext_zip_end (I.ok.hd hc) (j.to I B b c) hz a g h1 h2 m r (G.imp (λh=>by simp;omega) λh=>by simp;omega) λh' hk=>⟨rfl,I.turnedN (t':=s.toks) B λd o hd e=>hk d o (λw'=>hd (by simp[w'])) (λw'=>hd (by simp[w'])) (λw'=>hd (by simp[w'])) (λw'=>hd (by simp[w'])) e⟩
 self:=λA i s Q E st h=>Qr st.1 h
end
section
variable {X:Cx}{K:ca}{e1 e2:bb}{ta:TA}{p q pos:Pos}
theorem AE{es:List bb}{r:Nat}{a:Pos}(hg:Gl X "zip")(t:X.mg "zip" = none)(w:PA X [e1,e2] ta)
  (hs:kq [e1,e2] X.env=[(false,eval e1 X.env),(false,eval e2 X.env)]) (b:kq [e2] X.env=[(false,eval e2 X.env)]) :
  PI X (.Tuple es r a) (.Call (.Name "zip" p) [e1,e2] [] pos) (E4 X.K false false ta):=by
 intro pins s σ H R I h;refine Call_ (fR I hg t PyProof.Rows.boot_zip (PyProof.Rows.callWith_type1 (thn (w pos pins s σ H _ I h) λus s1 f=>?_) (by rw[hs,b]) (by rw[b];rfl)));obtain⟨vs,H1,c,x,y⟩:=f;obtain⟨l1,l2,xs,ys,rfl,g,i,q⟩:=y;obtain⟨u,v,rfl,A,rv⟩:=sJ x;cases (show u=Value.ref l1 from A);cases (show v=Value.ref l2 from rv);obtain⟨n,B,j⟩:=c.seq g;obtain⟨o,C,k⟩:=c.seq i;refine call_zip_2 j k λh' hz l m h1 h2 _ hk=>Qr hz ?_;have D:ZAp (s1.heap.objs.size+4) (s1.heap.objs.size+2) (s1.heap.objs.size+3) s1.heap.objs.size (s1.heap.objs.size+1):=by constructor <;> (intro z;simp only[ap] at *;omega)
 refine⟨s1.heap.objs.size+4,[s1.heap.objs.size+4,s1.heap.objs.size+2,s1.heap.objs.size+3,s1.heap.objs.size,s1.heap.objs.size+1],_,_,H1,rfl,c.kept (t':=s1.toks) hk,sL (l1:=l1) (l2:=l2) D,⟨hz,l,⟨_,_,m⟩,h1,h2⟩,λd hd=>?_,q⟩;have e:s1.heap.objs.size<=d:=by simp only[IR,Jk,or_false] at hd;rcases hd with rfl|rfl|rfl|rfl|rfl <;> first|exact IS _|exact JP _ _
 exact c.fpOk e (c.hok.fresh e)
variable {tl:DA}
theorem Ai{es:List bb}{r:Nat}{e:Pos}(hK:X.K=K)(hg:Gl X "zip")(t:X.mg "zip" = none)(u:PA X [e1,e2] (upA K tl))
  (hs:kq [e1,e2] X.env=[(false,eval e1 X.env),(false,eval e2 X.env)]:=by rfl) (j:kq [e2] X.env=[(false,eval e2 X.env)]:=by rfl) :
  PI X (.Tuple es r e) (.Call (.Name "zip" p) [e1,e2] [] pos) (upI K (Fa false false tl)):=(show PI X _ _ (E4 K false false (upA K tl)) by subst hK;exact AE hg t u hs j).imp λσ H R h=>by
 obtain⟨M,P,H0,σ0,env,ts,RR,k,ht,w⟩:=h;refine⟨M,P,H0,σ0,env,ts,_,k,ht,λss f vs H1 h1 hl c=>?_⟩;obtain⟨s,s',ds,d,rfl,x,y,z⟩:=h1;obtain⟨v,v',rfl⟩:=EZ hl;have g:=c.keptAll (vs:=[v,v']) (ds:=[sqD false ds,sqD false d]) hl (λp A=>A) (by simp[aN,x,y]);have i:=c.drop.addFrs g;have i:Rel K M P H0 σ0 σ f (ts++[(v,.fr (sqD false ds)),(v',.fr (sqD false d))]) H1:=by simpa using i
 cases g with
 | cons dn q =>
  cases q with
  | cons l q =>
   obtain⟨a,_,rfl,_⟩:=DN.list dn;obtain⟨o,_,rfl,_⟩:=DN.list l;obtain⟨xs,sq,_⟩:=aP (b:=false) (a:=a) (ds:=ds) i (IE _ (by simp[sqD]));obtain⟨m,n,_⟩:=aP (b:=false) (a:=o) (ds:=d) i (IE _ (by simp[sqD]));exact⟨a,o,xs,m,rfl,sq,n,w _ _ _ _ _ z i qk⟩
end
section
variable {env:List Sl}{DD:gx}{ds:List ab}
structure LpE(E:gx)(W:List Sl->Prop)(DD:gx):Prop where
 nx : ∀env,W env->E.nx env
 ct : ∀env,W env->E.ct env
 bk : ∀env,DD.nx env->E.bk env
 rt : ∀s env,DD.rt s env->E.rt s env
theorem iW{g:DG}{tb:DS}(W:Nat->List Sl->Prop)(b:W 0 env)
  (hs:∀E:Nat->gx,(∀i,LpE (E i) (W (i+1)) DD)->∀i env,(h:i<ds.length)->W i env->g ds[i] env λa=>tb (E i) a) (hd:∀env,W ds.length env->DD.nx env):FD ds g tb DD env:=⟨W,b,λi=>hs (λi=>{ DD with nx:=dI (W (i+1)) ⟨⟩,ct:=dI (W (i+1)) ⟨⟩,bk:=DD.nx }) (λ_=>⟨λ_ z=>z,λ_ z=>z,λ_ z=>z,λ_ _ z=>z⟩) i,hd⟩
theorem v7{c:DT}{tb:DS}(W:Nat->List Sl->Prop)(d:∃m,W m env)
  (h : ∀E:Nat->gx,(∀m,LpE (E m) (λenv=>∃a,a<m/\W a env) DD)->∀m env,W m env->c env λk b=>if k=true then tb (E m) b else DD.nx b):zi c tb DD env :=
 ⟨W,d,λm=>h (λm=>{ DD with nx:=dI (λenv'=>∃a,a<m/\W a env') ⟨⟩,ct:=dI (λenv'=>∃a,a<m/\W a env') ⟨⟩,bk:=DD.nx }) (λ_=>⟨λ_ z=>z,λ_ z=>z,λ_ z=>z,λ_ _ z=>z⟩) m⟩
end
section
variable {prog:q3}{w:zb}{A:Around}{E:as->ba->Prop}{s:ba}{κ:QX}{a0:Array zf}{st:SortSt}{f:as->Int}
def Ans(m n:Int)(b:Bool):Prop:=(b=true->m<=n)/\(b=false->n<=m)
def ES(prog:q3)(w:zb)(A:Around)(κ:QX)(a0:Array zf)(s:ba)(f:as->Int):Prop:=∀x∈a0,∀y∈a0,∀C:Bool->ba->Prop,(∀b,Ans (f x.1) (f y.1) b->C b s)->kw (qb prog w) A (keyLt' κ x.1 y.1) C (λ_ _=>False) s
def rK(f:as->Int)(xs:Array zf)(i:Nat):Int:=f (gK xs i).1
theorem l7{i j:Nat}{Q:Option Bool->SortSt->Prop}(a:ES prog w A κ a0 s f)(g:Sg κ a0 st)(hi:i<a0.size)(hj:j<a0.size)(h:∀b,Ans (rK f (zd st) i) (rK f (zd st) j) b->Q (some b) st):wpS (qb prog w) A E s (ltAt' i j) Q st:=by
 rw[ltAt'_eq];have hi:i<(zd st).size:=by rw[g.size];exact hi
 have hj:j<(zd st).size:=by rw[g.size];exact hj
 refine zg (Zy (zg (pd hi (zg (pd hj ?_)))));rw[lt'_eq];refine zg (Zy ?_);rw[g.kind];refine zg (wpS_lift (Qf (z3 (a _ (g.mem (Array.getElem_mem hi)) _ (g.mem (Array.getElem_mem hj)) (λb s'=>s'=s/\Ans (rK f (zd st) i) (rK f (zd st) j) b) λ_ z=>⟨rfl,by simpa[rK,gK,hi,hj] using z⟩) (λb s' e=>⟨e.1,KF (h b e.2)⟩) λ_ _ x=>x.elim)))
def Ris(f:as->Int)(xs:Array zf)(p q:Nat):Prop:=∀i j,p<=i->i<=j->j<q->rK f xs i<=rK f xs j
def Fal(f:as->Int)(xs:Array zf)(p q:Nat):Prop:=∀i j,p<=i->i<=j->j<q->rK f xs j<=rK f xs i
theorem eK{p:Array zf}{i j:Nat}(hj:j<=p.size)(k:Nat):rK f (Q1 p i j ((j - i) / 2)) k=if i<=k/\k<j then rK f p (i+j - 1 - k) else rK f p k:=by unfold rK;rw[Ed hj];split <;> rfl
theorem yE{p:Array zf}{a d:Nat}(hs:a<p.size)(hd:d<=a)(k:Nat):rK f (bubble p a d) k=if k=a - d then rK f p a else if a - d<k/\k<=a then rK f p (k - 1) else rK f p k:=by
 unfold rK;rw[Ee hs hd]
 repeat' split
 all_goals rfl
theorem Ris.one{xs:Array zf}{p:Nat}:Ris f xs p (p+1):=λi j h1 h2 h3=>by
 rw[show i=j by omega];exact Jo _
theorem Ris.snoc{xs:Array zf}{p q:Nat}(h:Ris f xs p q)(a:p<q)(e:rK f xs (q - 1)<=rK f xs q):Ris f xs p (q+1):=λi j h1 h2 h3=>by
 by_cases c:j=q;subst c;by_cases c:i=j;rw[c];exact Jo _;exact JF (h i (j - 1) h1 (by omega) (by omega)) e;exact h i j h1 h2 (by omega)
theorem Fal.snoc{xs:Array zf}{p q:Nat}(h:Fal f xs p q)(a:p<q)(e:rK f xs q<=rK f xs (q - 1)):Fal f xs p (q+1):=λi j h1 h2 h3=>by
 by_cases c:j=q;subst c;by_cases c:i=j;rw[c];exact Jo _;exact JF e (h i (j - 1) h1 (by omega) (by omega));exact h i j h1 h2 (by omega)
theorem Fal.turn{xs:Array zf}{p q:Nat}(h:Fal f xs p q)(hz:q<=xs.size):Ris f (Q1 xs p q ((q - p) / 2)) p q:=λi j h1 h2 h3=>by
 rw[eK hz,eK hz,if_pos (by omega),if_pos (by omega)];exact h _ _ (by omega) (by omega) (by omega)
theorem Ris.turn{xs:Array zf}{p q:Nat}(h:Ris f xs p q)(hz:q<=xs.size):Fal f (Q1 xs p q ((q - p) / 2)) p q:=λi j h1 h2 h3=>by
 rw[eK hz,eK hz,if_pos (by omega),if_pos (by omega)];exact h _ _ (by omega) (by omega) (by omega)
theorem Fal.like{xs:Array zf}{p k q:Nat}(h:Fal f xs p q)(hk:p<=k)(hz:q<=xs.size)(e:Ris f xs k q):Fal f (Q1 xs k q ((q - k) / 2)) p q:=λi j h1 h2 h3=>by
 rw[eK hz,eK hz];by_cases c:k<=i;rw[if_pos (by omega),if_pos (by omega)];exact e _ _ (by omega) (by omega) (by omega);rw[if_neg (show ¬(k<=i/\i<q) by omega)];split;exact h _ _ h1 (by omega) (by omega);exact h _ _ h1 h2 h3
theorem GJ{n ok:Nat}{Q:Bool->SortSt->Prop}(D:ES prog w A κ a0 s f)(g:Sg κ a0 st)(h1:1<=ok)(hok:ok<=n)(hn:n<=a0.size)(hs:Ris f (zd st) 0 ok)(h:∀a,Sb κ a0 st a->Ris f (zd a) 0 n->Q true a):wpS (qb prog w) A E s (binarySort' 0 n ok) Q st:=by
 refine zg (Ci (λk _ a=>Sb κ a0 st a/\Ris f (zd a) 0 k) (λ_ a=>Sb κ a0 st a/\Ris f (zd a) 0 n) (λ_ _=>False) (λk d a F hk b _ p=>?_) ⟨⟨g,rfl⟩,by rw[Nat.max_eq_left h1];exact hs⟩ (λ_ _ z=>by rwa [show max (max ok 1) n=n by omega] at z) (λ_ a b=>KF (h _ b.1 b.2)) λ_ _ _ z=>z.elim);obtain⟨b,hs⟩:=b;have hz:=b.1.size;refine zg (Ci (λx d m=>d.1<=d.2/\d.2<=k/\m=a/\d.2 - d.1<=k - x/\(∀i,i<d.1->rK f (zd a) i<=rK f (zd a) (0+k))/\∀i,d.2<=i->i<k->rK f (zd a) (0+k)<=rK f (zd a) i)
  (λd m=>d.1<=k/\m=a/\(∀i,i<d.1->rK f (zd a) i<=rK f (zd a) (0+k))/\∀i,d.1<=i->i<k->rK f (zd a) (0+k)<=rK f (zd a) i) (λ_ _=>False) (λx d m _ hx z _ p=>?_) ⟨Jb k,IS k,rfl,by simp,λi hi=>absurd hi (Nat.not_lt_zero i),λi h1 h2=>absurd h1 (by simp;omega)⟩ (λd _ z=>?_) (λd m e=>?_) λ_ _ _ z=>z.elim)
 obtain⟨l,r⟩:=d;obtain⟨z1,z2,rfl,u,q,o⟩:=z;dsimp only at z1 z2 u q o;refine bL (λe=>KF (p.d _ _ ⟨IQ z1 z2,rfl,q,λi i1 i2=>o i (IQ e i1) i2⟩)) λt=>?_;have t:l<r:=Nat.lt_of_not_le t;refine zg (l7 (i:=0+k) (j:=0+(l+r) / 2) D b.1 (by omega) (by omega) λc hc=>?_);rw[Nat.zero_add ((l+r) / 2)] at hc;cases c;refine KF (p.y _ _ ⟨(show(l+r) / 2+1<=r by omega),z2,rfl,(show r - ((l+r) / 2+1)<=k - (x+1) by omega),λi hi=>?_,o⟩);have hi:i<(l+r) / 2+1:=hi;exact JF (hs _ _ (Jb _) (by omega) (by omega)) (hc.2 rfl);refine KF (p.y _ _ ⟨(show l<=(l+r) / 2 by omega),(show(l+r) / 2<=k by omega),rfl,(show(l+r) / 2 - l<=k - (x+1) by omega),q,λi i1 i2=>?_⟩);exact JF (hc.1 rfl) (hs _ _ (Jb _) i1 i2);obtain⟨l,r⟩:=d;obtain⟨z1,z2,u,q,o,v⟩:=z;dsimp only at z1 z2 q o v;exact⟨IQ z1 z2,u,o,λi i1 i2=>v i (by have i1:l<=i:=i1;omega) i2⟩;obtain⟨l,r⟩:=d;obtain⟨e1,rfl,B,C⟩:=e;have e1:l<=k:=e1;rw[Nat.zero_add] at B C;refine zg (Qv (KF (p.y _ _ ⟨b.arr (bubble_perm _ _ _),λi j i1 i2 G=>?_⟩)));show rK f (bubble (zd m) (0+k) (0+k - (0+l))) i<=rK f (bubble (zd m) (0+k) (0+k - (0+l))) j;rw[yE (by omega) (by omega),yE (by omega) (by omega),show 0+k - (0+k - (0+l))=l by omega,Nat.zero_add];by_cases c1:j=l;rw[if_pos c1];by_cases c2:i=l;rw[if_pos c2];exact Jo _;rw[if_neg c2,if_neg (by omega)];exact B _ (show i<l by omega);rw[if_neg c1];by_cases c3:l<j;rw[if_pos (show l<j/\j<=k by omega)];by_cases c2:i=l;rw[if_pos c2];exact C _ (show l<=j - 1 by omega) (by omega);rw[if_neg c2];split;exact hs _ _ (by omega) (by omega) (by omega);exact hs _ _ (by omega) (by omega) (by omega);rw[if_neg (by omega),if_neg (by omega),if_neg (by omega)];exact hs _ _ (by omega) (by omega) (by omega)
theorem EG{lo a n:Nat}{e:SortSt}{Q:Option (Option Nat)×Nat->SortSt->Prop}(m:ES prog w A κ a0 s f)(g:Sg κ a0 e)(h1:1<=a)(r:a<=n)(hn:lo+n<=a0.size)(hs:Ris f (zd e) lo (lo+a)){F:Nat->Option (Option Nat)×Nat->StateT SortSt Sem (ForInStep (Option (Option Nat)×Nat))}
  (o:∀i d (Q:ForInStep (Option (Option Nat)×Nat)->SortSt->Prop),wpS (qb prog w) A E s (ltAt' (lo+d) (lo+d - 1)) (λb st=>∃c,b=some c/\Q (if c then .done (none,d) else .yield (none,d+1)) st) e->wpS (qb prog w) A E s (F i (none,d)) Q e)
  (h : ∀d,a<=d->d<=n->Ris f (zd e) lo (lo+d)->(d<n->rK f (zd e) (lo+d)<=rK f (zd e) (lo+d - 1))->Q (none,d) e):wpS (qb prog w) A E s (forIn [a:n] (none,a) F) Q e:=by refine Ci (λi d j=>d=i/\j=e/\Ris f (zd e) lo (lo+d)) (λd j=>a<=d/\d<=n/\j=e/\Ris f (zd e) lo (lo+d)/\(d<n->rK f (zd e) (lo+d)<=rK f (zd e) (lo+d - 1))) (λ_ _=>False) (λi d j i1 i2 z _ k=>?_) ⟨rfl,rfl,hs⟩ (λd j z=>⟨by omega,by omega,z.2.1,z.2.2,λl=>by omega⟩) (λd j z=>?_) λ_ _ _ z=>z.elim;obtain⟨rfl,rfl,hs⟩:=z;refine o d d _ (l7 m g (by omega) (by omega) λc hc=>⟨c,rfl,?_⟩);cases c;exact k.y _ _ ⟨rfl,rfl,hs.snoc (by omega) (hc.2 rfl)⟩;exact k.d _ _ ⟨i1,by omega,rfl,hs,λ_=>hc.1 rfl⟩;obtain⟨z1,z2,rfl,p,q⟩:=z;exact h d z1 z2 p q
theorem B1{lo n:Nat}{Q:Option Nat->SortSt->Prop}(r:ES prog w A κ a0 s f)(g:Sg κ a0 st)(hn1:1<=n)(hn:lo+n<=a0.size)(h:∀m a,1<=m->m<=n->Sb κ a0 st a->Ris f (zd a) lo (lo+m)->Q (some m) a):wpS (qb prog w) A E s (countRun' lo n) Q st:=by
 have hz:=g.size;refine zg (EG r g (IS 1) hn1 hn Ris.one (λi d Q h=>zg (wpS_mono h ?_)) λd d1 d2 hs l=>?_);rintro _ st ⟨c,rfl,h⟩;cases c <;> exact KF h
 refine bL (λ_=>KF (h _ _ d1 d2 ⟨g,rfl⟩ hs)) λe=>?_;have e:d<n:=by simp at e;omega
 have l:=l e;have b:Sb κ a0 st st:=⟨g,rfl⟩
 refine bL (λdl=>zg (l7 (i:=lo) (j:=lo+d - 1) r g (by omega) (by omega) λc hc=>bL (λ_=>KF (h _ _ d1 d2 b hs)) λu=>zg (Qv ?_))) λdl=>?_
 case' refine_1 =>
  have b:=b.arr (Q6 (zd st) lo (lo+d) ((lo+d - lo) / 2));have hd:Fal f (Q1 (zd st) lo (lo+d) ((lo+d - lo) / 2)) lo (lo+d+1):=(hs.turn (by omega)).snoc (by omega) (by
   rw[eK (by omega),eK (by omega),if_neg (by omega),if_pos (by omega),show lo+(lo+d) - 1 - (lo+d - 1)=lo by omega];exact JF l (hc.2 (by simpa using u)))
 case' refine_2 =>
  have dl:d=1:=by have dl:¬d>1:=dl;omega
  have hd:Fal f (zd st) lo (lo+d+1):=Fal.snoc (λi j h1 h2 h3=>by rw[show i=j by omega];exact Jo _) (by omega) l
 all_goals
  refine zg (wpS_lift (KO ⟨rfl,zg (Ci (λi d a=>d.1=i/\Sb κ a0 st a/\d.2+1<=i/\Fal f (zd a) lo (lo+i)/\Ris f (zd a) (lo+i - (d.2+1)) (lo+i)) (λd a=>d.1<=n/\Sb κ a0 st a/\d.2+1<=d.1/\Fal f (zd a) lo (lo+d.1)/\Ris f (zd a) (lo+d.1 - (d.2+1)) (lo+d.1)) (λ_ _=>False) ?_ ⟨rfl,b,by simp,hd,Ris.one⟩ ?_ ?_ λ_ _ _ z=>z.elim)⟩));rintro i ⟨d,q⟩ k i1 i2 ⟨rfl,b,o,hF,p⟩ _ t;dsimp only at i2 o hF p;have hz:=b.1.size;refine zg (l7 (i:=lo+d) (j:=lo+d - 1) r b.1 (by omega) (by omega) λc hc=>bL (λct=>bL (λq0=>zg (Qv (KF (t.y (d+1,0) _ ⟨rfl,b.arr (Q6 _ _ _ _),by simp,?_,Ris.one⟩)))) λ_=>KF (t.y (d+1,0) _ ⟨rfl,b,by simp,hF.snoc (by omega) (hc.1 ct),Ris.one⟩)) λu=>?_);refine(hF.like (by omega) (by omega) p).snoc (by omega) ?_;show rK f (Q1 (zd k) (lo+d - (q+1)) (lo+d) ((lo+d - (lo+d - (q+1))) / 2)) (lo+d)<=rK f (Q1 (zd k) (lo+d - (q+1)) (lo+d) ((lo+d - (lo+d - (q+1))) / 2)) (lo+d - 1);rw[eK (by omega),eK (by omega),if_neg (by omega),if_pos (by omega)];exact JF (hc.1 ct) (hF _ (lo+d - 1) (by omega) (by omega) (by omega));refine zg (l7 (i:=lo+d - 1) (j:=lo+d) r b.1 (by omega) (by omega) λc2 v=>bL (λ_=>KF (t.d _ _ ⟨JW i2,b,o,hF,p⟩)) λx=>KF (t.y (d+1,q+1) _ ⟨rfl,b,Nat.succ_le_succ o,hF.snoc (by omega) (v.2 (by simpa using x)),?_⟩));have:=p.snoc (by omega) (hc.2 (by simpa using u));rwa [show lo+d - (q+1)=lo+(d+1) - (q+1+1) by omega] at this;rintro⟨d',q⟩ k ⟨rfl,b,o,hs⟩;refine⟨?_,b,o,hs⟩;show max (d+1) n<=n;omega
  ·rintro⟨d',q⟩ k ⟨d2,b,o,hF,p⟩;dsimp only at d2 o hF p;have hz:=b.1.size;refine bL (λ_=>zg (Qv ?_)) λ_=>?_
   case' refine_1 =>
    have hF:=hF.like (by omega) (by omega) p;have b:=b.arr (Q6 (zd k) (lo+d' - (q+1)) (lo+d') ((lo+d' - (lo+d' - (q+1))) / 2));have hz:=b.1.size
   all_goals
    have b:=b.arr (Q6 _ lo (lo+d') ((lo+d' - lo) / 2));refine zg (Qv (zg (EG (n:=n) r b.1 (by omega) d2 hn (hF.turn (IQ (show lo+d'<=a0.size by omega) (Nat.le_of_eq hz.symm))) (λi d Q h=>zg (wpS_mono h ?_)) λe e1 e2 hs _=>KF (h _ _ (by omega) e2 b hs))));rintro _ st ⟨c,rfl,h⟩;cases c <;> exact KF h
theorem CH{Q:Unit->SortSt->Prop}(u:ES prog w A κ a0 s f)(g:Sg κ a0 st)(r:Qa st=#[])(h1:1<=a0.size)(p:a0.size<64)(h:∀a,Sg κ a0 a->Ris f (zd a) 0 a0.size->Q () a):wpS (qb prog w) A E s sortRuns' Q st:=by
 have hs:=g.size;have q:minRun' (zd st).size (zd st).size 0=a0.size:=by
  obtain⟨f,v⟩:∃f,a0.size=f+1:=⟨a0.size - 1,by omega⟩
  rw[hs,v];rw[v] at p;rw[minRun'_succ,if_pos p]
 refine zg (Zy (zg (Ci (λi lo a=>(i=0/\lo=0/\a=st)\/(lo=a0.size/\Sg κ a0 a/\(Qa a).size=1/\Ris f (zd a) 0 a0.size)) (λ_ a=>Sg κ a0 a/\(Qa a).size=1/\Ris f (zd a) 0 a0.size) (λ_ _=>False) (λi lo a _ _ b _ t=>?_) (.inl ⟨rfl,rfl,rfl⟩) (λlo a z=>?_) (λlo a z=>?_) λ_ _ _ z=>z.elim)))
 ·rcases b with⟨rfl,rfl,rfl⟩|⟨rfl,b⟩
  ·refine bL (λj=>absurd (show(zd a).size<=0 from j) (by omega)) λj=>?_;refine zg (B1 (lo:=0) (n:=(zd a).size - 0) u g (by omega) (by omega) λm B m1 m2 b l=>?_);rw[Nat.zero_add] at l;have fin:∀{c:SortSt}{k:Nat},Sb κ a0 a c->k=a0.size->Ris f (zd c) 0 k->0+k=a0.size/\Sg κ a0 (setPending c ((Qa c).push (0,k,0)))/\(Qa (setPending c ((Qa c).push (0,k,0)))).size=1/\Ris f (zd (setPending c ((Qa c).push (0,k,0)))) 0 a0.size:=λb e l=>⟨by omega,⟨b.1.1,b.1.2,b.1.3⟩,by
    show((Qa _).push _).size=1;rw[b.2,r];rfl,e▸l⟩
   refine bL (λo=>zg (wpS_lift (KO ⟨rfl,zg (GJ (ok:=m) (n:=min ((zd a).size - 0) (minRun' (zd a).size (zd a).size 0)) u b.1 m1 (by have o:m<minRun' (zd a).size (zd a).size 0:=o;omega) (by omega) l λc x l=>bL (λz=>absurd z (by decide)) λ_=>?_)⟩))) λo=>?_
   case' refine_1 =>
    have b:Sb κ a0 a c:=⟨x.1,x.2.trans b.2⟩
    have f:=fin b (by rw[q];omega) l
   case' refine_2=>have f:=fin b (by have o:¬m<minRun' (zd a).size (zd a).size 0:=o;rw[q] at o;omega) l
   all_goals
    refine zg (Zy ?_);dsimp only;split;rename_i C;have e:=(congrArg Array.back? (b.2.trans r)).symm.trans C;simp at e;exact zg (Qv (KF (t.y _ _ (.inr f))))
  refine bL (λj=>KF (t.d _ _ b)) λj=>absurd (show(zd st).size<=a0.size by omega) j
 rcases z with⟨e,_⟩|z;have e:max 0 (zd st).size=0:=e;omega;exact z.2;obtain⟨g,r,D⟩:=z;refine zg (Ci (λ_ _ c=>c=a) (λ_ c=>c=a) (λ_ _=>False) (λi _ c _ _ b _ t=>?_) rfl (λ_ _ z=>z) (λ_ c z=>by subst z;exact KF (h _ g D)) λ_ _ _ z=>z.elim);subst b;exact zg (Zy (bL (λ_=>KF (t.d _ _ rfl)) λF=>absurd (Nat.le_of_eq r) F))
end
section
variable {prog:q3}{w:zb}{A:Around}{E:as->ba->Prop}{s:ba}{ks vs:List as}{f:as->Int}
def Fm(prog:q3)(w:zb)(A:Around)(ks:List as)(s:ba)(f:as->Int):Prop :=
 kw (qb prog w) A (keyKind' ks.toArray) (λκ s'=>s'=s/\∀x∈ks,∀y∈ks,∀C:Bool->ba->Prop,(∀b,Ans (f x) (f y) b->C b s)->kw (qb prog w) A (keyLt' κ x y) C (λ_ _=>False) s) (λ_ _=>False) s
def Ord(f:as->Int)(ks vs:List as)(ts:List zf):Prop:=ts.Perm (ks.zip vs)/\ts.Pairwise λa b=>f a.1<=f b.1
theorem js{k:Unit×SortSt->Sem PySem.Fin}{P:PySem.Fin->ba->Prop}(m:vs.length<64)(hl:ks.length=vs.length)(hok:2<=vs.length->Fm prog w A ks s f)
  (h : ∀(ts:List zf) st,Ord f ks vs ts->(zd st).map (·.2)=(ts.map (·.2)).toArray->failedOf st=none->kw (qb prog w) A (k ((),st)) P E s) :
  let F:=λκ=>((if vs.toArray.size<2 then pure () else sortRuns').run (SortSt.mk' κ (ks.toArray.zip vs.toArray) #[] 7 none)) >>= k
  kw (qb prog w) A (if vs.toArray.size<2 then pure general' >>= F else keyKind' ks.toArray >>= F) P E s:=by
 dsimp only;have hz:(ks.toArray.zip vs.toArray).size=vs.length:=by simp;omega
 by_cases h2:2<=vs.length;have hn2:¬vs.toArray.size<2:=by rw[IV];omega
 rw[if_neg hn2,if_neg hn2];refine jj (z3 (hok h2) (λκ p d=>?_) λ_ _ x=>x.elim);obtain⟨rfl,b⟩:=d;refine jj (z3 (CH (f:=f) (a0:=ks.toArray.zip vs.toArray) (st:=SortSt.mk' κ (ks.toArray.zip vs.toArray) #[] 7 none) (Q:=λ_ a=>Sg κ (ks.toArray.zip vs.toArray) a/\Ris f (zd a) 0 (ks.toArray.zip vs.toArray).size) (λx hx y n C o=>?_) ⟨rfl,Array.Perm.refl _,rfl⟩ rfl (by rw[hz];omega) (by rw[hz];omega) λa g l=>⟨g,l⟩) ?_ λ_ _ e=>e);have mk:∀x∈ks.toArray.zip vs.toArray,x.1∈ks:=λx hx=>by
  rw[<-Array.mem_toList_iff,Array.toList_zip] at hx;exact(Kg hx).1
 exact b _ (mk x hx) _ (mk y n) C o;rintro⟨⟨⟩,a⟩ s2 ⟨rfl,g,l⟩;have pm:=Array.perm_iff_toList_perm.mp g.perm;rw[Array.toList_zip] at pm;refine h (zd a).toList a ⟨pm,Ko.mpr λi j hi hj c=>?_⟩ (by rw[<-Array.toList_map,Array.toArray_toList]) g.failed;have:=l i j (Jb _) (JW c) (by rw[<-g.size];exact hj);simp only[Array.length_toList] at hi hj;simpa[rK,gK,hi,hj] using this;have hn2:vs.toArray.size<2:=by rw[IV];omega
 rw[if_pos hn2,if_pos hn2];refine jj (ke (jj (ke (h (ks.zip vs) _ ⟨.refl _,Ko.mpr λi j hi hj c=>?_⟩ (by show(ks.toArray.zip vs.toArray).map _=_;simp) rfl))));simp at hi hj;omega
theorem wo{a:ap}{n:Nat}{P:PySem.Fin->ba->Prop}(ho:s.heap.get? a=some (KG "list" vs.toArray n))(k:vs.length<64)
  (hk:2<=vs.length->∀h',(∀b o,b≠a->s.heap.get? b=some o->h'.get? b=some o)->Fm prog w A vs { s with heap:=h' } f)
  (h : ∀(ws:List as) h' c,ws.Perm vs->(∀b o,b≠a->s.heap.get? b=some o->h'.get? b=some o)->h'.get? a=some (KG "list" ws.toArray c)->P (.done (.ret .none)) { s with heap:=h' }) :
  kw (qb prog w) A (Builtin.«list.sort» ⟨[.ref a],[]⟩) P E s:=by
 obtain⟨h3,e3⟩:∃h3,h3=((s.heap.update a (Obj.mapSeq λ_=>(#[]:Array as))).push (KG "tuple" vs.toArray 0)).push (KG "list" #[] 0):=⟨_,rfl⟩
 have g:=Ql ho λ_=>(#[]:Array as)
 have keep:∀b o,b≠a->s.heap.get? b=some o->h3.get? b=some o:=λb o i e=>by
  rw[e3];exact IH _ (IH _ (((Heap.SameBut.update s.heap a _).2 b i).trans e))
 have d:∃e,h3.get? a=some (KG "list" #[] e)/\_=e:=⟨_,by rw[e3];exact IH _ (IH _ g),rfl⟩
 obtain⟨e,d,l⟩:=d;rw[list_sort_plain];refine jj (ZD ho rfl ?_);refine jj (Qg ho rfl ?_ (by rw[IV,z0];omega) (Jb _));refine jj (Q5 g rfl ?_);refine jj (Zb ?_ (by show vs.length<=_;rw[z0];omega));refine jj (QM ?_ (Jb _));refine zp ?_;rw[l];show kw (qb prog w) A _ P E { s with heap:=((s.heap.update a (Obj.mapSeq λ_=>(#[]:Array as))).push (KG "tuple" vs.toArray 0)).push (KG "list" #[] 0) };rw[<-e3];dsimp only;refine js k rfl (λh2=>hk h2 h3 keep) λts st j ho m=>?_;have j:(ts.map (·.2)).Perm vs:=by have:=j.1.map (·.2);rwa [Kd (IS _)] at this
 dsimp only;rw[ho];refine jj (Q5 d rfl ?_);refine jj (Qg d rfl ?_ (Jb _) (by rw[IV,j.length_eq,z0];omega));rw[m];simp only[bne_self_eq_false,Jj,if_false];exact ke (h _ _ _ j (λb o i e=>((Heap.SameBut.update _ a _).2 b i).trans (keep b o i e)) (Ql d λ_=>(ts.map (·.2)).toArray))
theorem jq{l:ap}{Q:as->ba->Prop}(hl:GQ prog w A.in1 s l vs)(g:vs.length<64)
  (hk:2<=vs.length->∀h' tk,(∀b o,s.heap.get? b=some o->h'.get? b=some o)->Fm prog w A.in1.in1 vs { s with heap:=h',toks:=tk } f)
  (h : ∀(ws:List as) D h' tk c,ws.Perm vs->(∀b o,s.heap.get? b=some o->h'.get? b=some o)->s.heap.objs.size<=D->h'.get? D=some (KG "list" ws.toArray c)->Q (.ref D) { s with heap:=h',toks:=tk }) :
  kw (qb prog w) A (call (.builtin "sorted") [.ref l]) Q E s:=by refine Calls.call_function_entry kind_sorted plain_sorted entry_sorted (args_sorted1 _) ?_;unfold Builtin.«sorted»;refine jj (m:=checkCount "sorted" 1 1 _) (ke ?_);refine jj (hl λh1 tk kp a=>?_);refine jj (QM ?_ (by rw[z0];omega));have d:(h1.push (KG "list" vs.toArray 0)).get? h1.objs.size=some (KG "list" vs.toArray 0):=IW _ rfl;have i:∀{h'},(∀b o,b≠h1.objs.size->(h1.push (KG "list" vs.toArray 0)).get? b=some o->Heap.get? h' b=some o)->∀b o,s.heap.get? b=some o->h'.get? b=some o:=λk b o e=>k b o (Jd (IY (IX e) a)) (IH _ (kp b o e));refine jj (zp (z4 slot_list_sort ⟨_,d,rfl⟩ entry_list_sort ?bo (args_list_sort _)));exact wo (s:={ s with heap:=h1.push (KG "list" vs.toArray 0),toks:=tk }) d g (λh2 h' k=>hk h2 h' tk (i k)) λws h' c j k hD=>⟨_,rfl,ke ⟨_,rfl,h ws _ h' tk c j (i k) a hD⟩⟩
end
def rkD:ab->Int
 | .int n=>n
 | .tuple (.int n::_)=>n
 | _=>0
def Fst(h:bd)(v:as)(x:Int):Prop:=(∃t,v=.int x t)\/∃a o n t r,v=.ref a/\h.get? a=some o/\o.data=.seq #[.int x t,r] n/\o.cls=.type "tuple"
theorem Fst.one{h:bd}{v:as}{x y:Int}(p:Fst h v x)(q:Fst h v y):x=y:=by
 rcases p with⟨t,rfl⟩|⟨a,o,n,t,r,rfl,e,d,_⟩
 rcases q with⟨u,e⟩|⟨a,o,n,t,r,e,_⟩
 cases e;rfl;cases e;rcases q with⟨u,e⟩|⟨a,o',n,t,r,e1,e2,d2,_⟩
 cases e;cases e1;rw[e] at e2;cases e2;rw[d] at d2;cases d2;rfl
def rkV(h:bd)(v:as):Int:=open Classical in if z:∃x,Fst h v x then z.choose else 0
theorem jx{h:bd}{v:as}{x:Int}(p:Fst h v x):rkV h v=x:=by unfold rkV;rw[dif_pos ⟨x,p⟩];exact(Exists.choose_spec (⟨x,p⟩:∃x,Fst h v x)).one p
section
variable {X:Cx}{K:ca}{KP:ab->Prop}{N:ap->Prop}{pins:List (ap×Obj)}{σ:St}{H:Hp}{s:ba}
def vW(X:Cx)(KP:ab->Prop):Prop:=∀{A:Around}{pins:List (ap×Obj)}{σ:St}{H:Hp}{s:ba}{kv:List V}{kd:List ab}{ks:List as},A.units+64<KD->Inv X pins σ H s->DVs X.K H kv kd->aH kv ks->(∀d∈kd,KP d)->∃f,ks.map f=kd.map rkD/\(2<=ks.length->Fm X.prog X.w A ks s f)
theorem xx:vW X D9:=λ{A pins σ H s kv kd ks} g I q r k=>⟨λ_=>0,by
 have:=r.length;have:=BG q;rw[List.map_const',show kd.map rkD=kd.map λ_=>0 from Kp λd hd=>by obtain⟨n,rfl⟩:=k d hd;rfl,List.map_const']
 congr 1
 omega,λh2=>by
 have k:=pO I q r k;refine kas_kind (T:=.type "list") h2 (λv hv=>?_) (by decide) (by rfl) ⟨rfl,λx hx y e C hc=>?_⟩;obtain⟨l,a,rfl,⟨o,ho,hc,_⟩,_⟩:=k v hv;exact hc▸(Looks.ld ho).andThen .now;obtain⟨l,a,rfl,i1,i2⟩:=k x hx;obtain⟨b,c,rfl,f,j2⟩:=k y e;rw[keyLt'_oneType];exact rL i1 f i2 j2 (by omega) λb=>hc b ⟨λ_=>Jo _,λ_=>Jo _⟩⟩
theorem yT{f:as->Int}{kv:List V}{ks:List as}(r:aH kv ks):∀{kd:List ab},DVs X.K H kv kd->(∀v d u,d∈kd->DV X.K H v d->be v u->f u=rkD d)->ks.map f=kd.map rkD:=by
 induction r with
 | nil=>intro kd q _;cases q;rfl
 | cons r t a =>
  intro kd q h;cases q with
  | cons d q=>rw[IU,IU,h _ _ _ IL d r,a q λv d u m=>h v d u (IM _ m)]
theorem qh:vW X yZ:=λ{A pins σ H s kv kd ks} _ I q r k=>⟨rkV s.heap,yT r q λv d u m hd rv=>by
 obtain⟨n,rfl⟩:=k d m;cases hd;obtain⟨t,rfl⟩:=rv;exact jx (.inl ⟨t,rfl⟩),λh2=>by
 have k:=uR I q r k;refine kas_kind (T:=.type "int") h2 (λv hv=>?_) (by decide) (by rfl) ⟨rfl,λx hx y a C hc=>?_⟩;obtain⟨x,t,rfl⟩:=k v hv;exact .now;obtain⟨x,t,rfl⟩:=k x hx;obtain⟨y,u,rfl⟩:=k y a;rw[jx (.inl ⟨t,rfl⟩),jx (.inl ⟨u,rfl⟩)] at hc;exact kat_lt_int (hc _ ⟨λz=>Int.le_of_lt (of_decide_eq_true z),λz=>Int.not_lt.mp (of_decide_eq_false z)⟩)⟩
theorem Bb{A:Around}{u v:as}{C:Bool->ba->Prop}{E:as->ba->Prop}(F:A.units+64<KD)(g:EM s.heap u)(i:EM s.heap v)(h:∀b,Ans (rkV s.heap u) (rkV s.heap v) b->C b s):kw (qb X.prog X.w) A (keyLt' (tuples' true) u v) C E s:=by
 obtain⟨a,o,n,x,t,l,j,ns,G,rfl,e,c,d,i1,i2,k⟩:=g;obtain⟨m,o',p,r,t',l',its',f,y,rfl,e',c',d',B,j2,D⟩:=i;rw[jx (.inr ⟨a,o,n,t,_,rfl,e,d,c⟩),jx (.inr ⟨m,o',p,t',_,rfl,e',d',c'⟩)] at h;refine kat_lt e d e' d' ?_;refine kat_cons (QZ ?_);refine kat_go (λq=>kat_yes ?_) λ_=>kat_no (oneLt_int (h _ ⟨λz=>Int.le_of_lt (of_decide_eq_true z),λz=>Int.not_lt.mp (of_decide_eq_false z)⟩));have q:x=r:=by simpa using q
 have h:∀b,C b s:=λb=>h b (q▸⟨λ_=>Jo _,λ_=>Jo _⟩);have:∀ns:List Int,(PyData.list (ns.map PyData.int)).depth<=64:=λns=>SeqAt.depth_of_shaped (Fz ns);have:=this ns;have:=Nat.min_le_left (PyData.list (ns.map PyData.int)).depth (PyData.list (f.map PyData.int)).depth;refine kat_cons (SeqAt.eqBoolOverData _ _ _ _ _ _ _ _ _ _ _ _ k D (by simp[PyData.canLay0,fS]) (by simp[PyData.canLay0,fS]) (by omega) ?_);exact kat_go (λ_=>kat_yes (kat_nil (h _))) λ_=>kat_no (kat_one _ _ (xp i1 B i2 j2 (by omega) λb=>h b))
theorem qg:vW X Bj:=λ{A pins σ H s kv kd ks} g I q r k=>⟨rkV s.heap,yT r q λv d u m hd rv=>by
 obtain⟨n,ns,rfl⟩:=k d m;obtain⟨a,xs,rfl,h,q⟩:=hd.tupI;cases (show u=Value.ref a from rv);obtain⟨i,rv,⟨o,e,c,m,hd⟩,_⟩:=I.tuple h;obtain⟨v1,w,rfl,j,z⟩:=q.twoI;cases j;obtain⟨B,us1,rfl,⟨t,rfl⟩,b⟩:=rv.consI;obtain⟨D,us2,rfl,_,f⟩:=b.consI;cases f;exact jx (.inr ⟨a,o,m,t,_,rfl,e,hd,c⟩),λh2=>by
 have k:=uK I q r k;obtain⟨fs,h1,h3,l⟩:=jE k;refine kat_kind (T:=.type "int") h1 (by omega) (λv hv=>?_) (by rfl) ⟨rfl,λx hx y p C hc=>Bb g (k x hx) (k y p) hc⟩;obtain⟨x,t,rfl⟩:=l v hv;exact .now⟩
theorem yc(hK:X.K=K)(hg:vW X KP)(w:X.A.units+80<KD):cZ X (.builtin "sorted") (λxs H Q=>∃(p:ap) (vs:List V) (ds:List ab) (N:ap->Prop),xs=[.ref p]/\SqL K H p vs/\DNs K N H vs ds/\(∀d∈ds,KP d)/\vs.length<64 /\
  ∀vs' es,es.Perm ds->DNs K N H vs' es->∀q,H q=none->Q (.ref q) (upd H q (.lst vs'))):=by
 subst hK;intro pins s σ H xs us Q I r h;obtain⟨p,vs,ds,N,rfl,hs,hd,hk,j,l⟩:=h;obtain⟨u,rfl,m⟩:=fw r;cases (show u=Value.ref p from m);obtain⟨n,rv,a,_⟩:=I.list hs;have hl:=rv.length;obtain⟨f,_⟩:∃f:as->Int,f=λ_=>0:=⟨_,rfl⟩
 refine jq (f:=λ_=>0) (mL a.isList (by omega)) (by omega) (λh2 h' tk k=>?_) λws D h' tk c a k hD e=>?_;obtain⟨f,_,h⟩:=hg (A:=X.A.in1.in1) (by simp[Around.in1] at *;omega) (I.kept (t':=tk) k) hd.dv rv hk;exact z3 (h h2) (λκ s' q=>⟨q.1,λx hx y t C v=>q.2 x hx y t C λb _=>v b ⟨λ_=>Jo _,λ_=>Jo _⟩⟩) λ_ _ z=>z;obtain⟨vs',es,r',g,i⟩:=wR rv hd a;exact⟨.ref D,_,I.laid (t':=tk) (o:=.lst vs') k hD ⟨by have:=g.len;have:=i.length_eq;have:=hd.len;rw[z0];omega,ws,c,r',e⟩,rfl,l vs' es i g _ (I.hok.fresh hD)⟩
def Gu(KP:ab->Prop)(t:DA):DE:=λenv R=>t env λss a=>∃s ds,ss=[s]/\aC a s=some (.list ds)/\(∀d∈ds,KP d)/\ds.length<64/\∀es:List ab,es.Perm ds->R (.ow es) a
variable {e:bb}{p pos:Pos}{tl:DA}
theorem CY(hg:vW X KP)(hK:X.K=K)(i:X.A.units+80<KD)(c:Gl X "sorted")(j:X.mg "sorted" = none)(k:PA X [e] (upA K tl))(l:kq [e] X.env=[(false,eval e X.env)]:=by rfl):PE X (.Call (.Name "sorted" p) [e] [] pos) (up K (Gu KP tl)) :=
 (gX (yc (K:=K) hK hg i) c j boot_sorted k (by decide) (by decide) l rfl).imp λσ H Q h=>by
 obtain⟨M,P,H0,σ0,env,ts,R,d,ht,m⟩:=h;refine⟨M,P,H0,σ0,env,ts,_,d,ht,λss g vs H1 h1 hl b=>?_⟩;obtain⟨s,ds,rfl,e1,hk,f,n⟩:=h1;obtain⟨v,rfl⟩:=sB hl;obtain⟨a,us,rfl,sq,q⟩:=(b.view (v:=v) (by simp) e1).list;exact⟨a,us,ds,_,rfl,sq,q,hk,by rw[q.len];exact f,λu es o r w t=>m _ _ _ _ (n es o) (b.resOw t r)⟩
end
section
variable {X:Cx}{KP:ab->Prop}{pins:List (ap×Obj)}{σ:St}{H0:Hp}{f:as}{vs:List as}{rs:List Int}{A:Around}{E:as->ba->Prop}{a kS:ap}{s:ba}
structure zG(KP:ab->Prop)(X:Cx)(pins:List (ap×Obj))(σ:St)(H0:Hp)(a kS:ap)(e1:Nat)(ks:List as)(qs:List Int)(s:ba):Prop where
 ex : ∃H kv kd c,Inv X pins σ H s/\aS H0 H/\aH kv ks/\DNs X.K N0 H kv kd/\(∀d∈kd,KP d)/\kd.map rkD=qs/\hV X pins H a/\hV X pins H kS/\s.heap.get? kS=some (KG "list" ks.toArray c)
 la : s.heap.get? a=some (KG "list" #[] e1)
def Cb(KP:ab->Prop)(X:Cx)(pins:List (ap×Obj))(σ:St)(H0:Hp)(A:Around)(f:as)(x:as)(q:Int):Prop:=∀H s,Inv X pins σ H s->aS H0 H->kw (qb X.prog X.w) A (call f [x]) (λr s2=>∃d,(KP d/\rkD d=q)/\vP X pins σ H s d r s2) (λ_ _=>False) s
theorem wn{e1:Nat}(ne:a≠kS){body:as->PUnit->Sem (ForInStep PUnit)}
  (N:∀x ks e (s:ba) (C:as->ba->Prop),List.length ks<64->kw (qb X.prog X.w) A (call f [x]) (λk s1=>s1.heap.get? kS=some (KG "list" (List.toArray ks) e)/\C k s1) (λ_ _=>False) s ->
   kw (qb X.prog X.w) A (body x ⟨⟩) (λr s'=>r=.yield ⟨⟩/\∃k s1 c,C k s1/\s'={ s1 with heap:=s1.heap.update kS (Obj.mapSeq (·.push k)) }/\s'.heap.get? kS=some (KG "list" (List.toArray (ks++[k])) c)) E s)
  {l : List as} (r:List (as×Int)) (O:l=r.map (·.1)):∀(ks:List as) (qs:List Int) (s:ba),(∀p∈r,Cb KP X pins σ H0 A f p.1 p.2)->ks.length+r.length<64->zG KP X pins σ H0 a kS e1 ks qs s ->
   kw (qb X.prog X.w) A (forIn l PUnit.unit body) (λ_ s'=>∃ks,zG KP X pins σ H0 a kS e1 ks (qs++r.map (·.2)) s') E s:=by
 subst O
 induction r with
 | nil =>
  intro ks qs s _ _ h;rw[J5,Kl,J5,Jh];exact ke ⟨ks,h⟩
 | cons x r P =>
  intro ks qs s G hl h;rw[Jf] at hl;rw[IU,Kr];obtain⟨⟨H,kv,kd,c,I,J,rv,dn,hk,rfl,fa,fk,K⟩,la⟩:=h;refine jj (z3 (N x.1 ks c s (λk s1=>∃d,(KP d/\rkD d=x.2)/\vP X pins σ H s d k s1) (by omega) (z3 (G x IL H s I J) (λk s1 i=>?_) λ_ _ z=>z)) (λq s' Q=>?_) λ_ _ z=>z);obtain⟨d,j,H',v,L,g,m,n,kp⟩:=id i;exact⟨(kp kS _ fk K).1,i⟩;obtain⟨rfl,k,s1,c2,⟨d,⟨j,B⟩,H',v,L,g,m,n,kp⟩,es,D⟩:=Q;subst es;have t:=uX fk (kp kS _ fk K).2;have F:=uX fa (kp a _ fa la).2;have M:=Heap.SameBut.update s1.heap kS (Obj.mapSeq (·.push k));have R:=L.turnedN (t':=s1.toks) (fp:=[kS]) (h':=s1.heap.update kS (Obj.mapSeq (·.push k))) (λb hb'=>by rw[IG.mp hb'];exact t) λb o hb' e=>(M.2 b (λz=>hb' (by simp[z]))).trans e;show kw (qb X.prog X.w) A (forIn (r.map (·.1)) PUnit.unit body) _ E _;have:=P (ks++[k]) ((kd++[d]).map rkD) { s1 with heap:=s1.heap.update kS (Obj.mapSeq (·.push k)) } (λy S=>G y (IM _ S)) (by rw[Jg,JD];omega) ⟨⟨H',kv++[v],kd++[d],c2,R,J.trans g,sI rv m,(dn.keep (aO.same g)).app (.cons n .nil),λe u=>?_,rfl,F,t,D⟩,(M.2 a ne).trans (kp a _ fa la).1⟩;rwa [Jm,IU,J5,B,JE,List.singleton_append] at this;rcases II.mp u with u|u;exact hk e u;rw[IG.mp u];exact j
def Fl(vs:List as)(rs:List Int)(us:List (as×Int)):Prop:=us.Perm (vs.zip rs)/\us.Pairwise λa b=>a.2<=b.2
theorem Ord.ranks{g:as->Int}{ks:List as}{ts:List zf}(h:Ord g ks vs ts)(hl:ks.length=vs.length):Fl vs (ks.map g) (ts.map λt=>(t.2,g t.1)):=by refine⟨(h.1.map _).trans (List.Perm.of_eq (JJ (by simp;omega) λi h1 h2=>by simp)),Kk.mpr h.2⟩
theorem sU{n:Nat}{P:PySem.Fin->ba->Prop}(hg:vW X KP)(O:A.units+64<KD)(I:Inv X pins σ H0 s)(fa:hV X pins H0 a)(ho:s.heap.get? a=some (KG "list" vs.toArray n))(v:vs.length<64)(y:rs.length=vs.length)
  (call:∀p∈vs.zip rs,Cb KP X pins σ H0 A f p.1 p.2)
  (h : ∀(us:List (as×Int)) H s' c,Fl vs rs us->Inv X pins σ H s'->aS H0 H->hV X pins H a->s'.heap.get? a=some (KG "list" (us.map (·.1)).toArray c)->P (.done (.ret .none)) s') :
  kw (qb X.prog X.w) A (ksk_tree a f false) P E s:=by
 obtain⟨h3,e3⟩:∃h3,h3=((s.heap.update a (Obj.mapSeq λ_=>(#[]:Array as))).push (KG "tuple" vs.toArray 0)).push (KG "list" #[] 0):=⟨_,rfl⟩
 obtain⟨kS,B⟩:∃kS,kS=((s.heap.update a (Obj.mapSeq λ_=>(#[]:Array as))).push (KG "tuple" vs.toArray 0)).objs.size:=⟨_,rfl⟩
 have j:=Ql ho λ_=>(#[]:Array as)
 obtain⟨e1,D,Q⟩:∃e,h3.get? a=some (KG "list" #[] e)/\_=e:=⟨_,by rw[e3];exact IH _ (IH _ j),rfl⟩
 have R:h3.get? kS=some (KG "list" (List.toArray []) 0):=by rw[e3,B];exact IW _ rfl
 have hsz:kS=s.heap.objs.size+1:=by rw[B,size_push',Heap.size_update]
 have l:a≠kS:=by rw[hsz];exact Jd (Nat.lt_succ_of_lt (IX ho))
 have S:=I.turnedN (t':=s.toks) (fp:=[a]) (h':=h3) (λb d=>by rw[IG.mp d];exact fa) λb o d e=>by
  rw[e3];exact IH _ (IH _ (((Heap.SameBut.update s.heap a _).2 b (λz=>d (by simp[z]))).trans e))
 have hv:vs=(vs.zip rs).map (·.1):=(List.map_fst_zip (by omega)).symm;unfold ksk_tree;refine jj (ZD ho rfl ?_);refine jj (Qg ho rfl ?_ (by rw[IV,z0];omega) (Jb _));refine jj (Q5 j rfl ?_);refine jj (Zb ?_ (by show vs.length<=_;rw[z0];omega));refine jj (QM ?_ (Jb _));refine zp ?_;rw[Q];show kw (qb X.prog X.w) A (ksk_rest a f false vs.toArray e1 (.ref ((s.heap.update a (Obj.mapSeq λ_=>(#[]:Array as))).push (KG "tuple" vs.toArray 0)).objs.size)) P E { s with heap:=((s.heap.update a (Obj.mapSeq λ_=>(#[]:Array as))).push (KG "tuple" vs.toArray 0)).push (KG "list" #[] 0) };rw[<-e3,<-B];unfold ksk_rest;refine jj (KO ?_);rw[List.forIn_toArray];refine jj (z3 (wn (f:=f) (A:=A) (e1:=e1) l (λx ks e s' C hz hx=>?_) (vs.zip rs) hv [] [] _ call (by simp;omega) ⟨⟨H0,[],[],0,S,aS.refl _,.nil,.nil,by simp,rfl,fa,I.fpOk (by omega) (I.hok.fresh (by omega)),R⟩,D⟩) (λ_ s' hd=>?_) λ_ _ x=>x);refine jj (Qf (z3 hx (λk F hk=>?_) λ_ _ hF=>hF.elim));have e:=Ql hk.1 (·.push k);rw[show(List.toArray ks).push k=List.toArray (ks++[k]) by simp] at e;dsimp only;exact jj (Qg hk.1 rfl (ke ⟨rfl,k,F,_,hk.2,rfl,e⟩) (by rw[IV,z0];omega) (by rw[Array.size_push,IV,z0];omega));obtain⟨ks,⟨⟨H,kv,kd,c,M,T,rv,dn,hk,G,m,J,q⟩,la⟩⟩:=hd;rw[Kt,Kd (by omega)] at G;obtain⟨g,r,K⟩:=hg O M dn.dv rv hk;have hl:ks.length=vs.length:=by rw[<-y,<-G,<-r,IF]
 refine jj (ZD q rfl ?_);unfold ksk_end;simp only[Jj,if_false];refine js v hl (λh2=>K (by omega)) λts st t u U=>?_;have t:=t.ranks hl;rw[r,G] at t;have L:=t.1.length_eq;simp at L;have N:=Heap.SameBut.update s'.heap kS (Obj.mapSeq λ_=>(#[]:Array as));have i:=(N.2 a l).trans la;unfold ksk_tail;dsimp only;rw[u];refine jj (Qg q rfl ?_ (by rw[IV,z0];omega) (Jb _));refine jj (K9 ?_);refine jj (Q5 i rfl ?_);simp only[Jj,if_false];refine jj (Qg i rfl ?_ (Jb _) (by rw[IV,IF,z0];omega));rw[U];simp only[bne_self_eq_false,Jj,if_false];refine ke (h _ H _ _ t (M.turnedN (t':=s'.toks) (fp:=[kS,a]) (λb d=>?_) λb o d e=>?_) T m (by rw[Jq];exact Ql i λ_=>(ts.map (·.2)).toArray));rcases IR.mp d with rfl|d;exact J;rw[IG.mp d];exact m;simp only[IR,Jk,or_false,not_or] at d;exact((Heap.SameBut.update _ a _).2 b d.2).trans ((N.2 b d.1).trans e)
theorem nu{f l:ap}{Q:as->ba->Prop}(hg:vW X KP)(r:A.units+80<KD)(I:Inv X pins σ H0 s)(hl:GQ X.prog X.w A.in1 s l vs)(i:vs.length<64)(j:rs.length=vs.length)
  (call:∀p∈vs.zip rs,Cb KP X pins σ H0 A.in1.in1 (.ref f) p.1 p.2)
  (h : ∀(us:List (as×Int)) H s' D c,Fl vs rs us->Inv X pins σ H s'->aS H0 H->hV X pins H D->s'.heap.get? D=some (KG "list" (us.map (·.1)).toArray c)->Q (.ref D) s') :
  kw (qb X.prog X.w) A (PySem.call (.builtin "sorted") [.ref l] [(Str.ofString "key",.ref f)]) Q E s:=by refine call_function_entry_kw kind_sorted plain_sorted entry_sorted (ksk_s1 _ _) ?_;unfold Builtin.«sorted»;refine jj (m:=checkCount "sorted" 1 1 _) (ke ?_);refine jj (hl λh1 tk kp a=>?_);refine jj (QM ?_ (by rw[z0];omega));have d:(h1.push (KG "list" vs.toArray 0)).get? h1.objs.size=some (KG "list" vs.toArray 0):=IW _ rfl;refine jj (zp (wpAny_call_entry_kw slot_list_sort ⟨_,d,rfl⟩ entry_list_sort ?bo (ksk_l1 _ _)));show kw (qb X.prog X.w) A.in1.in1 (Builtin.«list.sort» ⟨[.ref h1.objs.size],[(Str.ofString "key",.ref f)]⟩) _ _ _;rw[ksk_t1];exact sU hg (by simp[Around.in1] at *;omega) (I.kept (t':=tk) λb o e=>IH _ (kp b o e)) (I.fpOk a (I.hok.fresh a)) d i j call λws H s' c k n q fp g=>⟨_,rfl,ke ⟨_,rfl,h ws H s' _ c k n q fp g⟩⟩
theorem AS{K:ca}{N:ap->Prop}{H:Hp}{vs:List V}{ds:List ab}{c:List as}{R:ab->Int}{us:List (as×Int)}(rv:aH vs c)(q:DNs K N H vs ds)(d:Fl c (ds.map R) us):∃vs' es,aH vs' (us.map (·.1))/\DNs K N H vs' es/\es.Perm ds/\es.Pairwise λa b=>R a<=R b:=by
 have hl:=rv.length;have hd:=q.len;obtain⟨d,e⟩:=d;obtain⟨t,pt,rfl⟩:=cA (f:=λx:as×V×ab=>(x.1,R x.2.2)) d (c.zip (vs.zip ds)) (JJ (by simp;omega) λi h1 h2=>by simp);have hz:(t.map (·.2)).Perm (vs.zip ds):=by have:=pt.map (·.2);rwa [Kd (by simp;omega)] at this
 refine⟨(t.map (·.2)).map (·.1),(t.map (·.2)).map (·.2),?_,oV λz h=>oU q z (hz.mem_iff.mp h),?_,?_⟩;rw[Jq,Jq];exact nh λx hx=>jM rv x (pt.mem_iff.mp hx);have:=hz.map (·.2);rwa [Kd (by omega)] at this;have e:=Kk.mp e;rw[Jq];exact Kk.mpr e
theorem xU{K:ca}{N:ap->Prop}{H:Hp}{vs:List V}{ds:List ab}{a:List as}(q:DNs K N H vs ds)(r:aH vs a){R:ab->Int}:∀p∈a.zip (ds.map R),∃v d,be v p.1/\DN K N H v d/\d∈ds/\R d=p.2:=by
 induction r generalizing ds with
 | nil=>intro p h;simp at h
 | cons r t b =>
  cases q with
  | cons d q =>
   intro p h;rw[IU,List.zip_cons_cons] at h;rcases IR.mp h with rfl|h;exact⟨_,_,r,d,IL,rfl⟩;obtain⟨v,d,h1,h2,h3,c⟩:=b q p h;exact⟨v,d,h1,h2,IM _ h3,c⟩
end
section
variable {X:Cx}{K:ca}{e:bb}{t:TA}{q0 pos kpos lpos:Pos}{params:QK}{scope:KL}{body:bb}{p x:bx}{i:Nat}{tb:DE}{KP:ab->Prop}{KR:St->Hp->ab->Int->Prop}
def HC(K:ca)(KR:St->Hp->ab->Int->Prop)(t:TA):TE:=λσ H Q=>t σ H λxs H1=>∃(q:ap) (vs:List V) (N:ap->Prop) (ds:List ab) (R:ab->Int),xs=[.ref q]/\SqL K H1 q vs/\DNs K N H1 vs ds/\(∀d∈ds,KR σ H1 d (R d))/\vs.length<64 /\
 ∀vs' es c,aS H1 c->es.Perm ds->(es.Pairwise λa b=>R a<=R b)->DNs K N c vs' es->∀q,c q=none->Q (.ref q) (upd c q (.lst vs'))
theorem yO(hK:X.K=K)(hG:vW X KP)(L:ym X)(hr:b9 4 X.A)(hg:Gl X "sorted")(hm:X.mg "sorted" = none)(ha:PA X [e] t)(x:Zi params X.env=([],[]))
  (J:∀{pins:List (ap×Obj)}{s:ba}{σ:St}{H:Hp},Inv X pins σ H s->∃clos,Qc scope X.env=pure clos)
  (M:∀{σ:St}{H H':Hp}{d:ab}{n:Int},KR σ H d n->aS H H'->KR σ H' d n)
  (j:∀{pins:List (ap×Obj)}{s:ba}{σ:St}{H:Hp}{clos:List (bx×ap)}{f c':ap}{pm ctv u:as}{v:V}{d:ab}{n:Int},Inv X pins σ H s->Qc scope X.env=pure clos->s.heap.get? f=some (QT "<lambda>" (X.env.qual ++ "<lambda>") params body scope clos pm c' ctv)->s.heap.CodeRec (.ref c') (X.env.qual ++ "<lambda>") ->
   be v u->DN X.K N0 H v d->KR σ H d n->KM (qb X.prog X.w) X.A.in1.in1 (.call (.ref f) ⟨[u],[]⟩) (CR CX0 X.stack X.prog X.w H s (GM (λk=>KP k/\rkD k=n) X H) E0) s)
  (B:ze pos (kq [e] X.env)=(false,eval e X.env)::ze pos (kq [] X.env)) :
  PE X (.Call (.Name "sorted" q0) [e] [⟨some "key",.Lambda params body scope lpos,kpos⟩] pos) (HC K KR t):=by
 subst hK;intro pins s σ H Q I h;obtain⟨clos,hc⟩:=J I;refine KZ (fR I hg hm boot_sorted ?_ (by decide) (by decide));refine callWith_kw (thn (ha pos pins s σ H _ I h) λus s1 O=>?_) B (by rw[B];rfl) rfl rfl;obtain⟨xs,H1,I1,r,q⟩:=O;show kw _ _ (evalAll [(do let v <-eval (.Lambda params body scope lpos) X.env;K2 pos;pure v)]) _ _ s1;refine wpAny_evalAll_cons (jj (uI I1 L hc x λf c' pm ctv s2 U P C E l cz=>jj (Qp (ke (wpAny_evalAll_nil ?_)))));obtain⟨p0,vs,N,ds,R,rfl,sq,dn,F,a4,q⟩:=q;obtain⟨u,rfl,ru⟩:=fw r;cases (show u=Value.ref p0 from ru);obtain⟨a5,rv,hp,_⟩:=P.list (C.seq sq);have W:=rv.length;have a6:=dn.len;generalize i:QT "<lambda>" (X.env.qual ++ "<lambda>") params body scope clos pm c' ctv=fo at E;have I3:Inv X ((f,fo)::pins) σ U s2:=P.pins_of λz hz=>by
  rcases IR.mp hz with rfl|hz;exact⟨E,l.1,l.2.1,l.2.2.1,λv=>by rw[<-i];exactλz=>by cases z⟩;exact P.pin z (IE _ hz)
 have S:DNs X.K N0 U vs ds:=(dn.keep (aO.same C)).to λb _ _ z=>z.elim;refine nu (rs:=ds.map R) hG (jw hr) I3 (mL hp.isList (by omega)) (by omega) (by simp;omega) (λy hy H' s' m g=>?_) λws H' s' D c p m g a gD=>?_;obtain⟨v,d,rx,dx,md,er⟩:=xU S rv y hy;have Y:=(m.pin (f,fo) (IE _ IL)).1;rw[<-i] at Y;obtain⟨oc,u,ws,t,e1,e2,e3⟩:=cz;obtain⟨T,_⟩:=m.hok c' _ (g _ _ e1);rw[<-er];exact Zd (Qw (j m hc Y ⟨_,_,_,_,rfl,T,e2,e3⟩ rx (dx.keep (aO.same g)) (M (F d md) (C.trans g))) λres s' hq=>by
  obtain⟨z,rfl,h⟩:=xz m hq;exact h)
 have I4:Inv X pins σ H' s':=m.pins_of λz hz=>m.pin z (IE _ (IM _ hz));have G:hV X pins H' D:=⟨a.1,a.2.1,a.2.2.1,a.2.2.2.1,a.2.2.2.2.1,λz hz=>a.2.2.2.2.2 z (by
  rcases II.mp hz with hz|hz;exact IJ _ hz;exact IE _ (IM _ hz))⟩
 obtain⟨vs',es,r',Z,pe,so⟩:=AS rv (dn.keep (aO.same (C.trans g))) p;exact⟨.ref D,_,I4.track (o:=.lst vs') G ⟨by have:=Z.len;have:=pe.length_eq;rw[z0];omega,_,c,r',gD⟩,rfl,q vs' es _ (C.trans g) pe so Z _ a.1⟩
variable {tl:DA}
def Bc(KP:ab->Prop)(tb:DE)(n:Int)(es:List ab):Prop:=D2 (λk=>KP k/\rkD k=n) tb es
def Gw(KP:ab->Prop)(tb:DE)(t:DA):DE:=λenv R=>t env λss c=>∃s ds,ss=[s]/\aC c s=some (.list ds)/\ds.length<64/\∃r:ab->Int,(∀d∈ds,Bc KP tb (r d) [d])/\∀es:List ab,es.Perm ds->(es.Pairwise λa b=>r a<=r b)->R (.ow es) c
def Gv(KP:ab->Prop)(tb:DE)(i:Nat)(t:DA):DE:=λenv R=>t env λss a=>∃s ds b,ss=[s]/\aC a s=some (.list ds)/\a[i]? = some (.fr b)/\ds.length<64/\(∀d∈ds,Bc KP tb 0 [d,b])/\∀es:List ab,es.Perm ds->R (.ow es) a
theorem CZ(z:vW X KP)(hK:X.K=K)(L:ym X)(x:b9 4 X.A)(hg:Gl X "sorted")(B:X.mg "sorted" = none)(C:PA X [e] (upA K tl))(S:ak [p] [p] scope)
  (D:∀(qual:bx) (pm c ctv u:as),Qj (kla_fn "<lambda>" qual params body scope [] pm c ctv) ⟨[u],[]⟩=pure [(p,u)])
  (i:Qc scope X.env=pure []) (j:Zi params X.env=([],[]))
  (g:∀(A:Around) (s:ba) (H:Hp) (f:ap) (cd:as),PE (sC CX0 X.prog X.w X.K X.mg X.base [p] (X.env.qual ++ "<lambda>") scope f cd A X.stack s H E0) body (up X.K tb))
  (l:ze pos (kq [e] X.env)=(false,eval e X.env)::ze pos (kq [] X.env):=by rfl) :
  PE X (.Call (.Name "sorted" q0) [e] [⟨some "key",.Lambda params body scope lpos,kpos⟩] pos) (up K (Gw KP tb tl)) :=
 (yO (KR:=λ_ _ d n=>Bc KP tb n [d]) hK z L x hg B C j (λ_=>⟨[],i⟩) (λh _=>h) (λI hc ho m r hd hk=>by
  rw[i] at hc;cases hc;exact A8 (k:=1) (CX:=CX0) (E:=E0) (ps:=[p]) S x.in1.in1 I.env0.in1.in1 ho m (D _ _ _ _ _) (.cons r .nil) rfl (g _ _ _ _ _) (uM (.cons hd .nil) hk)) l).imp λσ H Q h=>by
 obtain⟨M,P,H0,σ0,env,ts,R,o,ht,F⟩:=h;refine⟨M,P,H0,σ0,env,ts,_,o,ht,λss y vs H1 h1 hl b=>?_⟩;obtain⟨s,ds,rfl,e1,t,rk,hk,G⟩:=h1;obtain⟨v,rfl⟩:=sB hl;obtain⟨a,us,rfl,sq,q⟩:=(b.view (v:=v) (by simp) e1).list;exact⟨a,us,_,ds,rk,rfl,sq,q,hk,by rw[q.len];exact t,λvs' es V J N O T W U=>F _ _ _ _ (G es N O) ((b.same J).resOw U T)⟩
theorem FN(i:Nat)(hG:vW X KP)(hK:X.K=K)(L:ym X)(hr:b9 4 X.A)(hg:Gl X "sorted")(hm:X.mg "sorted" = none)(ha:PA X [e] (upA K tl))(S:kM p x scope)
  (hN:X.N[i]? = some x) (hv:Vis X.env.scope x) (l:X.env.kindOf x=some .cell\/X.env.kindOf x=some .free) (T:X.env.kindOf x≠some .local)
  (hb:∀(qual:bx) (cl:List (bx×ap)) (pm c ctv u:as),Qj (kla_fn "<lambda>" qual params body scope cl pm c ctv) ⟨[u],[]⟩=pure [(p,u)])
  (D:∀c,X.env.cells.lookup x=some c->Qc scope X.env=pure [(x,c)]) (F:Zi params X.env=([],[]))
  (o:∀(A:Around) (s:ba) (H:Hp) (f:ap) (cd:as) (c:ap),b9 1 (A.deeper (envX (X.env.qual ++ "<lambda>") scope s.heap.objs.size f cd [(x,c)]))->PE (zn CX0 X.prog X.w X.K X.mg X.base [p,x] (X.env.qual ++ "<lambda>") scope f cd [(x,c)] A X.stack s H E0) body (up X.K tb))
  (U:ze pos (kq [e] X.env)=(false,eval e X.env)::ze pos (kq [] X.env):=by rfl) :
  PE X (.Call (.Name "sorted" q0) [e] [⟨some "key",.Lambda params body scope lpos,kpos⟩] pos) (up K (Gv KP tb i tl)) :=
 (yO (KR:=λσ H d n=>∃v0 t,σ[i]? = some (some v0)/\DN K N0 H v0 t/\Bc KP tb n [d,t]) hK hG L hr hg hm ha F (λI=>let ⟨c,hc⟩:=I.ok.has x l;⟨_,D c hc⟩) (λ⟨v0,t,V,dn,hk⟩ W=>⟨v0,t,V,dn.keep (aO.same W),hk⟩) (λ{pins s σ H clos f c' pm ctv u v d n} I hc ho Y r hd hk=>by
  subst hK;obtain⟨c,y⟩:=I.ok.has x l;rw[D c y] at hc;cases hc;obtain⟨v0,t,Z,B,hk⟩:=hk;obtain⟨m,b1,G⟩:=I.loc;obtain⟨u0,a4,C⟩:=G i x v0 hN Z hv;have j:s.heap.IsCell c (some u0):=by
   rcases C with⟨z,_⟩|⟨_,c2,J,ic⟩
   exact absurd z T;rw[y] at J;cases J;exact ic
  have O:b9 2 X.A.in1.in1:=hr.in1.in1;exact xw (k:=1) (CX:=CX0) (E:=E0) S O I.env0.in1.in1 ho Y (hb _ _ _ _ _ _) j a4 (I.freeC x c y) r (o _ _ _ _ _ _ (O.deeper _)) (uM (.cons hd (.cons B .nil)) hk)) U).imp λσ H Q h=>by
 obtain⟨M,P,H0,σ0,env,ts,R,a5,ht,hq⟩:=h;refine⟨M,P,H0,σ0,env,ts,_,a5,ht,λss b0 vs H1 h1 hl g=>?_⟩;obtain⟨s,ds,t,rfl,e1,V,a6,hk,hR⟩:=h1;obtain⟨v,rfl⟩:=sB hl;obtain⟨a,us,rfl,sq,q⟩:=(g.view (v:=v) (by simp) e1).list;obtain⟨x0,ex,m0⟩:=g.slot V;obtain⟨v0,a7,B⟩:=g.e.fr _ _ m0;exact⟨a,us,_,ds,λ_=>0,rfl,sq,q,λd hd=>⟨v0,t,by rw[ex,a7],B.to λb _ _ z=>z.elim,hk d hd⟩,by rw[q.len];exact a6,λvs' es H2 W pe _ qe p' hp=>hq _ _ _ _ (hR es pe) ((g.same W).resOw hp qe)⟩
end
section
variable {X:Cx}{pins:List (ap×Obj)}{σ:St}{H:Hp}{s:ba}{a:ap}{x:bx}{v:V}
theorem BJ(I:Inv X pins σ H s){kvs:List (Key×V)}(e:H a=some (.dK kvs)):(a==cf)=false/\∃vs,KV kvs vs/\s.heap.DictOf (cR X.prog X.w) a vs:=(show dB X.prog X.w H s.heap a (.dK kvs) from I.hok a _ e).2
theorem u6(I:Inv X pins σ H s)(e:H a=some (.dK [(.inr x,v)])):(a==cf)=false/\∃u,be v u/\s.heap.DictOf (cR X.prog X.w) a [(.inr x,u)]:=by
 obtain⟨y,vs,r,dd⟩:=BJ I e;cases r with
 | @cons p q _ _ h t =>
  cases t;obtain⟨b,c⟩:=q;obtain⟨h1,h2⟩:=h;cases (show b=Sum.inr x from h1.symm);exact⟨y,c,h2,dd⟩
theorem sK(x k:bx)(u:as):valueAt [((Sum.inr x:Key),u)] (Sum.inr k)=if x=k then some u else none:=by by_cases h:x=k <;> simp[valueAt,h]
end
section
variable {X:Cx}
def CP:R2:=λx y H Q=>∃(k nm:bx) (a:ap) (v:V),x=.str k/\y=.ref a/\H a=some (.dK [(.inr nm,v)])/\Q (.bl (!decide (nm=k))) H
theorem AT:OpR X (q4 .NotIn) CP:=by intro pins s σ H x y v u Q I b c h;obtain⟨k,nm,a,w,rfl,rfl,d,q⟩:=h;cases (show u=Value.ref a from c);obtain⟨t,rfl⟩:=b;obtain⟨y,u,e,dd⟩:=u6 I d;refine wpAny_notIn_of (knd:=cR X.prog X.w) (dz _ _ k t) y dd.mapOf ?_;rw[sK];refine⟨.bl _,H,I.tok _,?_,q⟩;by_cases h:nm=k <;> simp[h,be]
def G9:R2:=λx y H Q=>∃(k:bx) (a:ap),x=.str k/\y=.ref a/\H a=some (.dK [])/\Q (.bl false) H
theorem Dx:OpR X (q4 .In) G9:=by intro pins s σ H x y v u Q I b c h;obtain⟨k,a,rfl,rfl,d,q⟩:=h;cases (show u=Value.ref a from c);obtain⟨t,rfl⟩:=b;obtain⟨y,vs,r,dd⟩:=BJ I d;cases r;exact wpAny_in_of (knd:=cR X.prog X.w) (dz _ _ k t) y dd.mapOf ⟨.bl _,H,I.tok _,rfl,q⟩
def G8:R2:=λx y H Q=>∃(nm:bx) (a:ap) (v:V),x=.ref a/\y=.str nm/\H a=some (.dK [(.inr nm,v)])/\Q v H
theorem Ik:IxR X G8:=by
 intro value slice pins s σ H x y v u Q I e f h hs;obtain⟨nm,a,w,rfl,rfl,g,q⟩:=h;cases (show v=Value.ref a from e);obtain⟨t,rfl⟩:=f;obtain⟨y,u,i,dd⟩:=u6 I g;have c:=dd.mapOf;have d:=c.typeIs;unfold QN;refine jj ?_;rw[getitemInPython_of_ne d.not_modules];refine jj (K0 d PySem.F.slot_dict_getitem.lookup ?_);have fin:kw (qb X.prog X.w) X.A (Q4 slice false (.ref a) (.str nm t)) (λr b=>kw (qb X.prog X.w) X.A (letTemporaryGo value (.ref a) r >>= λ_=>pure r) (EP X pins σ Q) X.xe b) X.xe s:=by rw[hs];refine wpAny_operating (wpAny_getItem_of (knd:=cR X.prog X.w) (dz _ _ nm t) c (by rw[sK,if_pos rfl]) ?_);exact jj (wpAny_letTemporaryGo (ke ⟨w,H,I.tok _,i,q⟩))
 first
  | exact ke (jj fin)
  | exact jj (ke (jj fin))
  | exact jj fin
def CN:EJ:=λx y v H Q=>∃(k:bx) (a:ap),x=.ref a/\y=.str k/\H a=some (.dK [])/\Q (upd H a (.dK [(.inr k,v)]))
theorem FB:Fk X CN:=by intro pins s σ H x y v ov iv u Q I f g rv h;obtain⟨k,a,rfl,rfl,d,q⟩:=h;cases (show ov=Value.ref a from f);obtain⟨t,rfl⟩:=g;obtain⟨y,vs,r,dd⟩:=BJ I d;cases r;refine wpAny_setItem_pairs (hsz:=Jb _) (knd:=cR X.prog X.w) (dz _ _ k t) dd λh' c hs=>?_;obtain⟨o,i,ep,h1,h2⟩:=id c;exact⟨_,I.write (x:=a) (e:=a) (by rw[d];exact True.intro) (.inl rfl) (λb q j z=>(hs.2 b j).trans z) ⟨_,h1⟩ (show dB X.prog X.w _ h' a (.dK [(.inr k,v)]) from⟨by show 1<=sizeLine;decide,y,_,.cons ⟨rfl,rv⟩ .nil,c⟩),q⟩
def CF:TE:=λ_ H Q=>∀p,H p=none->Q (.ref p) (upd H p (.dK []))
theorem AL{pos:Pos}:PE X (.Dict [] [] pos) CF:=λpins s σ H Q I h =>
 wpAny_Dict_empty ⟨.ref s.heap.objs.size,_,I.laid (a:=s.heap.objs.size) (o:=.dK []) (t':=s.toks) (λ_ _ q=>IH _ q) (IS _) ⟨Jb _,beq_eq_false_iff_ne.mpr (Ne.symm (Jd I.big')),[],.nil,Heap.DictOf.new s.heap⟩,rfl,h _ (I.hok.fresh (IS _))⟩
theorem vA{K:ca}(hK:X.K=K)(hc:X.calm=true)(L:X.A.units+80<KD):cZ X (.builtin "sorted") (λxs H Q=>∃(p:ap) (nm:bx) (v:V),xs=[.ref p]/\H p=some (.dK [(.inr nm,v)])/\∀q,H q=none->Q (.ref q) (upd H q (.lst [.str nm]))):=by
 intro pins s σ H xs us Q I r h;obtain⟨p,nm,v,rfl,n,q⟩:=h;obtain⟨u,rfl,B⟩:=fw r;cases (show u=Value.ref p from B);obtain⟨y,w,C,o,es,ep,h1,h2,h3,M,k,N⟩:=u6 I n;obtain⟨e,m,t,g⟩:∃e,es.toList=[e]/\∃t,e.key=.str nm t:=by
  generalize es.toList=l at k;cases k with
  | cons F O z =>
   cases z;obtain⟨t,g⟩:=Value.isStrOf_shape (x:=nm) F;exact⟨_,rfl,t,g⟩
 have hl:es.size=1:=by rw[<-Array.length_toList,m];rfl
 have hk:(es[0]'(by omega)).key=.str nm t:=by rw[<-g,<-Array.getElem_toList];simp[m]
 refine jq (vs:=[.str nm t]) (f:=λ_=>0) (λ{E Q} G=>mK (I.ok.hd hc) y h1 h2 h3 (by omega) λh' tk b kp j it=>?_) (by show 1<64;decide) (λz=>absurd z (by show ¬2<=1;decide)) λws D h' tk c a kp hD d=>?_;have J:b.toList=[.str nm t]:=by
  refine JJ (by rw[Array.length_toList,it.1,hl];rfl) λi P j2=>?_;have hi:i=0:=by simp at j2;exact j2
  subst hi;obtain⟨z,e⟩:=it.2 0 b[0] (by simp);rw[Array.getElem_toList,e];exact hk
 rw[J];exact G h' tk kp j;rw[List.perm_singleton.mp a] at d;exact⟨.ref D,_,I.laid (t':=tk) (o:=.lst [.str nm]) kp hD ⟨by show 1<=sizeLine;decide,_,c,.cons ⟨t,rfl⟩ .nil,d⟩,rfl,q _ (I.hok.fresh hD)⟩
end
section
variable {K:ca}{N:ap->Prop}{H:Hp}{v:V}{d e:ab}{nm:bx}{C:ap}
theorem DN.idc_of(h:DN K N H v e)(b:e=qt nm d):∃a u,v=.ref a/\H a=some (.dK [(.inr nm,u)])/\DN K N H u d:=by
 cases h with
 | fz _=>simp[fzD,qt] at b
 | dct _ _ _ _ _=>exact(jI rfl b.symm).elim
 | dsk _ _ _ _ _=>simp[jK,qt] at b
 | idc n h q =>
  simp only[qt,PyData.dict.injEq,List.cons.injEq,Prod.mk.injEq,PyData.str.injEq,and_true,true_and] at b;obtain⟨rfl,rfl⟩:=b;exact⟨_,_,rfl,h,q⟩
 | _=>cases b
theorem DN.dsk_of(h:DN K N H v e)(c:e=jK C nm d):∃a b dx u,v=.ref a/\H a=some (.ins C dx [("towns",.ref b)])/\¬N b/\H b=some (.dK [(.inr nm,u)])/\DN K N H u d:=by
 cases h with
 | fz _=>simp[fzD,jK] at c
 | dct _ _ _ _ _=>exact(jI rfl c.symm).elim
 | idc _ _ _=>simp[jK,qt] at c
 | @dsk a b f dx x u d' n i h g q =>
  simp only[jK,PyData.dict.injEq,List.cons.injEq,Prod.mk.injEq,PyData.str.injEq,PyData.int.injEq,and_true,true_and] at c;obtain⟨j,rfl,rfl⟩:=c;obtain rfl:f=C:=Int.ofNat.inj j;exact⟨_,_,_,_,rfl,h,i,g,q⟩
 | _=>cases c
theorem Vw.idc_of(h:Vw K N H v (qt nm d)):∃a u,v=.ref a/\H a=some (.dK [(.inr nm,u)])/\DN K N H u d:=by
 generalize b:qt nm d=e at h;cases h with
 | dn h=>exact h.idc_of b.symm
 | ow h q=>cases b
 | dct _ _ _ _=>exact(jI rfl b).elim
theorem Vw.dsk_of(h:Vw K N H v (jK C nm d)):∃a b dx u,v=.ref a/\H a=some (.ins C dx [("towns",.ref b)])/\¬N b/\H b=some (.dK [(.inr nm,u)])/\DN K N H u d:=by
 generalize c:jK C nm d=e at h;cases h with
 | dn h=>exact h.dsk_of c.symm
 | ow h q=>cases c
 | dct _ _ _ _=>exact(jI rfl c).elim
def Bq:G2:=λd e R=>∃k nm t,d=.str k/\e=qt nm t/\R (.bool (!decide (nm=k)))
theorem FV:bq K CP Bq:=by rintro N H x y d e R Q b c ⟨k,nm,t,rfl,rfl,f⟩ g;obtain⟨a,u,rfl,h,_⟩:=c.idc_of;exact⟨k,nm,a,u,b.str,rfl,h,g _ _ f (.bl _)⟩
def Gb:G2:=λd e R=>∃nm t,d=qt nm t/\e=.str nm/\R t
theorem HS:bq K G8 Gb:=by rintro N H x y d e R Q b c ⟨nm,t,rfl,rfl,f⟩ g;obtain⟨a,u,rfl,h,dn⟩:=b.idc_of;exact⟨nm,a,u,rfl,c.str,h,g _ _ f dn⟩
end
section
variable {X:Cx}{K:ca}{C:ap}{e:bb}{te:DE}{tl:DA}{pos apos p:Pos}
def GA(C:ap)(te:DE):DE:=λenv R=>te env λs a=>∃nm t,aC a s=some (jK C nm t)/\R (.fr (qt nm t)) a
theorem Ap(hK:X.K=K)(c:Cls K C)(n:cN K C "towns")(j:PE X e (up K te))(f:z5 e "towns" X.env (eval e X.env)=eval e X.env:=by rfl):PE X (.Attribute e "towns" pos) (up K (GA C te)):=by subst hK;refine(ue j f).imp λσ H Q h=>?_;obtain⟨M,P,H0,σ0,env,ts,R,g,ht,k⟩:=h;refine⟨M,P,H0,σ0,env,ts,_,g,ht,λs1 i v1 H1 h1 d=>?_⟩;obtain⟨nm,t,e1,l⟩:=h1;obtain⟨a,b,dx,u,rfl,m,nb,f,dn⟩:=(d.view (v:=v1) (by simp) e1).dsk_of;exact⟨a,C,dx,_,.ref b,rfl,m,c,n,rfl,k _ _ _ _ l (d.res (aS.refl _) (.idc nb f dn))⟩
def BN(t:DA):DE:=λenv R=>t env λss a=>∃s nm d,ss=[s]/\aC a s=some (qt nm d)/\R (.ow [.str nm]) a
theorem CW(hK:X.K=K)(hc:X.calm=true)(j:X.A.units+80<KD)(c:Gl X "sorted")(k:X.mg "sorted" = none)(l:PA X [e] (upA K tl))(m:kq [e] X.env=[(false,eval e X.env)]:=by rfl):PE X (.Call (.Name "sorted" p) [e] [] pos) (up K (BN tl)) :=
 (gX (vA (K:=K) hK hc j) c k boot_sorted l (by decide) (by decide) m rfl).imp λσ H Q h=>by
 obtain⟨M,P,H0,σ0,env,ts,R,f,ht,n⟩:=h;refine⟨M,P,H0,σ0,env,ts,_,f,ht,λss i vs H1 h1 hl b=>?_⟩;obtain⟨s,nm,d,rfl,e1,o⟩:=h1;obtain⟨v,rfl⟩:=sB hl;obtain⟨a,u,rfl,q,_⟩:=(b.view (v:=v) (by simp) e1).idc_of;exact⟨a,nm,u,rfl,q,λr g=>n _ _ _ _ o (b.resOw g (.cons (.str _) .nil))⟩
def sE(P:q3)(w:zb)(K:ca)(mg:bx->Option as)(base:bd)(C:ap)(m:bx)(k:Nat)(sp:Sp):Prop :=
 Cls K C/\∃(f:ap) (fd:kN) (ps:List bx),a9 P w K mg base CX0 k f fd ps sp/\cV K fd ps []/\EK K C m f
def vk(C:ap)(sp:DSp)(te:DE)(tl:DA):DE:=λenv R=>te env λb env0=>(∃nm t,aC env0 b=some (jK C nm t))/\tl env0 λss a=>∃ds,aN a (b::ss)=some ds/\sp (ds.map .fr) (dK (λr _=>R r a) ⟨⟩)
theorem uD{m:bx}{sp:DSp}{t:TA}(x:∀v:V,List.lookup m [(("towns" : bx),v)]=none)(hk:∀σ H Q,upA K tl σ H Q->t σ H Q):∀σ H Q,up K (vk C sp te tl) σ H Q->sQ C m (spD K sp) [] E0 (up K te) t σ H Q:=λσ H Q h=>by
 obtain⟨M,P,H0,σ0,env,ts,R,j,ht,y⟩:=h;refine⟨M,P,H0,σ0,env,ts,_,j,ht,λl env0 v0 H1 A f=>?_⟩;obtain⟨⟨nm,t,B⟩,h1⟩:=A;obtain⟨a,b,dx,u,rfl,D,_⟩:=(f.view (v:=v0) (by simp) B).dsk_of;refine⟨a,dx,_,rfl,D,x _,hk _ _ _ ⟨M,P,H0,σ0,env0,ts++[(.ref a,l)],_,f,h1,λss d vs s h2 hl c=>?_⟩⟩;obtain⟨ds,E,n⟩:=h2;rw[Jh];have c:Rel K M P H0 σ0 σ d (ts++(V.ref a::vs).zip (l::ss)) s:=by simpa using c
 generalize o:V.ref a::vs=us at *;have q:us.length=(l::ss).length:=by rw[<-o];simp[hl]
 have i:=c.keptAll q (λp F=>F) E;have G:=fN us ds;refine⟨Nw M (aw σ d ts),ds.map .fr,λr _=>R r d,by simp[i.len],mZ i λa z hn=>c.drop.newAddr hn z,n,λr I v H' J w g=>y _ _ _ _ J ?_⟩;have k:aS s H':=(g.keep.mono (M:=N0) λb z=>by
  have z:b∈oas (tmp (us.zip (ds.map .fr))):=z;rw[G] at z;cases z).none
 exact(c.drop).withRes (c.drop.e.called k (g.resOk w)) w
theorem jB{m:bx}{k:Nat}{sp:DSp}{o:bb}{es:List bb}{pl:Sem Bool}(G:sE X.prog X.w X.K X.mg X.base C m k (spD K sp))(hK:X.K=K)(g:b9 k X.A)(ho:PE X o (up K te))(h:PA X (e::es) (upA K tl))(hn:(m==("towns" : bx))=false:=by decide)
  (a:kq (e::es) X.env=(false,eval e X.env)::kq es X.env:=by rfl) (d:(ze pos (kq es X.env)).any (·.1)=false:=by rfl)
  (ht:eval (.Call (.Attribute o m apos) (e::es) [] pos) X.env=(do
   let ov <-eval o X.env
   K2 apos.atName
   let (f,first) <-KI [ov] (Qu ov m pl)
   Zj pos f first (ze pos (kq (e::es) X.env)) (KU pos (KA [] X.env))):=by rfl) :
  PE X (.Call (.Attribute o m apos) (e::es) [] pos) (up K (vk C sp te tl)):=by subst hK;obtain⟨c,f,fd,ps,F,b,i⟩:=G;exact(ub ho c i F g b .nil uf h a d ht).imp (uD (λv=>by simp[List.lookup,hn]) λ_ _ _ z=>z)
theorem Am{m:bx}{k:Nat}{sp:DSp}{o:bb}{pl:Sem Bool}(G:sE X.prog X.w X.K X.mg X.base C m k (spD K sp))(hK:X.K=K)(d:b9 k X.A)(ho:PE X o (up K te))(hn:(m==("towns" : bx))=false:=by decide)
  (ht:eval (.Call (.Attribute o m apos) [] [] pos) X.env=(do
   let ov <-eval o X.env
   K2 apos.atName
   let (f,first) <-KI [ov] (Qu ov m pl)
   Zj pos f first (ze pos (kq [] X.env)) (KU pos (KA [] X.env))):=by rfl) :
  PE X (.Call (.Attribute o m apos) [] [] pos) (up K (vk C sp te Cn)):=by subst hK;obtain⟨c,f,fd,ps,F,b,e⟩:=G;refine(wS ho c e F d b .nil uf ht).imp (uD (λv=>by simp[List.lookup,hn]) λσ H Q z=>?_);obtain⟨M,P,H0,σ0,env,ts,R,a,ht,g⟩:=z;exact g [] env [] H ht rfl (by simpa using a)
end
def zW(C:ap):Sp:=λvs H Q _=>∃x dx,vs=[.ref x]/\H x=some (.ins C dx [])/\∀b,H b=none->Q .non (upd (upd H b (.dK [])) x (.ins C dx [("towns",.ref b)]))
def zT(K:ca)(C:ap)(ok:ab->Prop):Sp:=λvs H Q _=>∃(x dx b:ap) (nm:bx) (v:V) (d:ab) (N:ap->Prop),vs=[.ref x,.str nm,v]/\H x=some (.ins C dx [("towns",.ref b)])/\H b=some (.dK [])/\N b/\(∀a,N a->H a≠none)/\DN K N H v d/\ok d /\
 ∀p c,aS H c->DN K N c p d->Q .non (upd c b (.dK [(.inr nm,p)]))
def BV(C:ap)(i j:Nat)(nm:bx)(ok:ab->Prop)(tr:DS):DS:=λDD env=>∃d,i<env.length/\env[j]? = some (.fr d)/\ok d/\i≠j/\tr DD (env.set i (.fr (jK C nm d)))
section
variable {X:Cx}{K:ca}{C:ap}{i j:Nat}{nm:bx}{ok:ab->Prop}{s1 s2:Stmt}{rest:List Stmt}{tr:DS}
theorem Ah(h1:PS X s1 (Cd (zR C (zW C) [] E0 wb) (uV i)))(h2:PS X s2 (CC (sQ C "put" (zT K C ok) [] E0 (vR i) (nj (tC (.str nm)) (nj (vR j) wb)))))(I:PSs X rest (upS K tr)):PSs X (s1::s2::rest) (upS K (BV C i j nm ok tr)) :=
 (gW h1 (gW h2 I)).imp λD σ H h=>by
 obtain⟨M,P,H0,σ0,env,ts,DD,nv,f,⟨d,hi,J,hok,q,g⟩,r⟩:=h;have t:i<σ.length:=by rw[f.len];exact hi
 obtain⟨W,L,O⟩:=f.slot J;obtain⟨F,u,Q⟩:=f.e.fr _ _ O;subst u;intro x dx nx w R;refine⟨x,dx,rfl,aq,λb nb=>⟨rfl,?_⟩⟩;have y:b≠x:=λz=>by rw[z,aq] at nb;cases nb
 rw[al y] at nb;have S:b≠dx:=λz=>by rw[z,aq] at nb;cases nb
 rw[al S] at nb;generalize l:upd (upd (upd (upd H dx (.own x)) x (.ins C dx [])) b (.dK [])) x (.ins C dx [("towns",.ref b)])=H1;have same:aS H H1:=λc o e=>by
  rw[<-l,al (λz=>by rw[z,nx] at e;cases e),al (λz=>by rw[z,nb] at e;cases e),al (λz=>by rw[z,nx] at e;cases e),al (λz=>by rw[z,w] at e;cases e)];exact e
 have hx:H1 x=some (.ins C dx [("towns",.ref b)]):=by rw[<-l,aq]
 have A:H1 b=some (.dK []):=by rw[<-l,al y,aq]
 obtain⟨N,hN⟩:∃N:ap->Prop,N=Nw M (aw σ env ts):=⟨_,rfl⟩
 have live:∀a,N a->H a≠none:=λa z hn=>f.newAddr hn (hN▸z);refine⟨.ref x,by rw[Jc t],x,dx,_,rfl,hx,rfl,F,by rw[Je q];exact L,?_⟩;refine⟨x,dx,b,nm,F,d,λa=>N a\/a=b,rfl,hx,A,.inr rfl,λa z=>?_,?_,hok,λp n k dn=>?_⟩;rcases z with z|rfl;cases e:H a with
 | none=>exact absurd e (live a z)
 | some o=>rw[same _ _ e];exactλz=>nomatch z
 rw[A];exactλz=>nomatch z;exact(Q.to λc o e z=>by
  rcases z with z|rfl;exact hN▸z;rw[nb] at e;cases e).keep (aO.same same)
 have T:=k _ _ A;have B:=k _ _ hx;have m:aS H (upd n b (.dK [(.inr nm,p)])):=λc o e=>by
  rw[al (λz=>by rw[z,nb] at e;cases e)];exact k _ _ (same _ _ e)
 have G:∀{a:ap},H a=none->¬N a:=λe z=>live _ z e;have E:DN K N (upd n b (.dK [(.inr nm,p)])) p d:=(dn.keep (H':=upd n b (.dK [(.inr nm,p)])) λc o U e=>by
  rw[al (λz=>U (.inr z))];exact e).to λ_ _ _ z=>.inl z
 have dd:DN K N (upd n b (.dK [(.inr nm,p)])) (.ref x) (jK C nm d):=.dsk (G nx) (G nb) (by rw[al (Ne.symm y)];exact B) aq E;have V:=((f.same m).addFr (v:=.ref x) (hN▸dd)).store nv hi (s:=.fr (jK C nm d)) rfl;exact⟨M,P,H0,σ0,_,ts,DD,nv,V,g,r⟩
end
section
variable {X:Cx}{K:ca}{e:bb}
def BS(t:DE):DE:=λenv R=>t env λs a=>∃S d,s=.tr S d/\R (.fr d) a
theorem yI{t:DE}(h:PE X e (up K t)):PE X e (up K (BS t)):=h.imp λσ H Q h=>by
 obtain⟨M,P,H0,σ0,env,ts,R,b,ht,g⟩:=h;refine⟨M,P,H0,σ0,env,ts,_,b,ht,λs c v H1 h1 a=>?_⟩;obtain⟨S,d,rfl,i⟩:=h1;have f:=a.e;rw[ar] at f;exact g _ _ _ _ i (a.drop.withRes (aU.freezeT (B:=[]) f) rfl)
end
section
variable {X:Cx}{K:ca}{a b e:bb}{ta tb te:DE}{pos p:Pos}
theorem qx(c:PE X a (up K ta))(d:PE X b (up K tb))(hK:X.K=K:=by rfl)(hs:dZ b:=by exactλ_ _=>rfl):PE X (.Subscript a b pos) (up K (dOp gIx ta tb)):=C4 (jF hK) mIx c d hs
theorem qxK(c:PE X a (up K ta))(d:PE X b (up K tb))(hK:X.K=K:=by rfl)(e:X.A.units+2<KD:=by exact hu2 (by assumption))(hs:dZ b:=by exactλ_ _=>rfl):PE X (.Subscript a b pos) (up K (dOp E7 ta tb)):=C4 (Ig hK e) HR c d hs
theorem jc(b:X.mg "len" = none)(h:PE X e (up K te))(hK:X.K=K:=by rfl)(hg:Gl X "len" := by rfl)(a:kq [e] X.env=(false,eval e X.env)::kq [] X.env:=by rfl):PE X (.Call (.Name "len" p) [e] [] pos) (up K (dCB Ec (vo te Cn))):=tS (Ie hK) HN hg b PySem.boot_len (aa h ad a) (by decide) (by decide) a
end
end _L
namespace _W
open PySem _L
local macro_rules | `(tactic| walk_at "d2") => do
 let l <- (("EA,zl,GA,Bq,Gb,vk,BN,BV,Gu,Gw,Gv,DM,BS,GC,BQ,vm,Gz,za,vT,BX,BW,BO,Gd,oP,E7,F9,kC,qM,vg,xZ,yz,pk,Ce,Ex,zj,qG,BK,dFz,u7,BL,Ey,vn,BP,Fg,BY,vf,Fh,dOp,Ez,x5,dUn,Fb,zm,dC,oW,GE,dOr,Fe,B0,dIf,qP,Cl,Ff,vo,Cn,vp,mH,qR,dCB,dIs,qK,Fc,Gx,x3,kD,oX,vd,Fi,Fd,qL,xY,x4,Fa,oY,qO,xX,sqD,gI,gIC,gB,gBB,gEq,gNe,E8,xM,gIn,uU,Ge,oQ,gIx,E9,Ec,Bt,Gc,Br,F6,Bs,Ga,BT,ve,BU,vh,u3,F8,Gg,E6,E5,BM,BR,BZ,Sl.tr.injEq,Gy,EV,qN,GD,qQ,Cp,vE,i5,eG,bU,slF,noL,oG,lY,pB,pR,mh,pr,pp,pq,pj,jl,hZ,ml,mi,mf,iT,gL,yC,yA,yB,yy,yx,yv,yw,yu,pD,pC,pA,pU,pS,pP,tK,tJ,jk,my,mw,mx,mv,qD,qE,cw,pL,pM,uh,ui,uj,ug,fm,mO,mN,qY,qW,qX,qV,jv,ij,kX,kZ,pv,kY,jm,mn,qm,mq,mo,jG,qp,qo,mr,yY,yX,eu,fq,qB,zB,zA,zz,zy,zx,zw,zv,zu,qz,y7,y8,tw,pH,pK,List.map_cons,List.map_nil,List.length_cons,List.length_nil,List.cons_append,List.nil_append,List.append_nil,List.replicate_succ,List.replicate_zero,List.set_cons_succ,List.set_cons_zero,List.getElem?_cons_zero,List.getElem?_cons_succ,List.getElem?_nil,List.take_succ_cons,List.take_zero,List.take_nil,List.drop_succ_cons,List.drop_zero,List.drop_nil,Option.some.injEq,Option.bind_some,Option.bind_none,Option.map_some,Option.map_none,Sl.fr.injEq,Sl.ow.injEq,Sl.io.injEq,Sl.vw.injEq,PyData.int.injEq,PyData.bool.injEq,PyData.list.injEq,PyData.tuple.injEq,PyData.str.injEq,List.cons.injEq,reduceCtorEq,and_true,true_and,and_false,false_and,and_assoc,exists_eq_left',exists_eq_left,exists_and_left,exists_eq',exists_eq,exists_false,exists_const,Nat.reduceSub,Nat.reduceAdd,Nat.reduceLT,Nat.zero_add,Nat.lt_add_left_iff_pos,decide_eq_true_eq,ite_true,ite_false,Bool.false_eq_true,if_true,if_false,Bool.not_eq_true',Bool.not_eq_true,decide_eq_false_iff_not,Int.zero_add,String.reduceBEq,Bool.true_and,Bool.and_true,Bool.or_false,Bool.false_or,Bool.or_true,Bool.true_or,Bool.and_false,Bool.false_and,Bool.not_true,Bool.not_false,id_eq,Sl.ctorIdx,Nat.succ_eq_add_one".splitOn ",").toArray.mapM λs => `(Lean.Parser.Tactic.simpLemma| $(Lean.mkIdent s.toName):ident))
 `(tactic| simp only[$l,*])
local macro_rules | `(tactic| walk_at "d1") => do
 let l <- (("zl,GA,Bq,Gb,vk,BN,BV,Gu,Gw,Gv,DM,BS,GC,BQ,vm,Gz,za,vT,BX,BW,BO,Gd,oP,E7,F9,kC,qM,vg,xZ,yz,pk,Ce,Ex,zj,qG,BK,dFz,u7,BL,Ey,vn,BP,Fg,BY,vf,Fh,dOp,Ez,x5,dUn,Fb,zm,dC,oW,GE,dOr,Fe,B0,dIf,qP,Cl,Ff,vo,Cn,vp,mH,qR,dCB,dIs,qK,Fc,Gx,x3,kD,oX,vd,Fi,Fd,qL,xY,x4,Fa,oY,qO,xX,sqD,gI,gIC,gB,gBB,gEq,gNe,E8,xM,gIn,uU,Ge,oQ,gIx,E9,Ec,Bt,Gc,Br,F6,Bs,Ga,BT,ve,BU,vh,u3,F8,Gg,E6,E5,BM,BR,BZ,Sl.tr.injEq,Gy,EV,qN,GD,qQ,Cp,vE,i5,eG,bU,slF,noL,oG,lY,pB,pR,mh,pr,pp,pq,pj,jl,hZ,ml,mi,mf,iT,gL,yC,yA,yB,yy,yx,yv,yw,yu,pD,pC,pA,pU,pS,pP,tK,tJ,jk,my,mw,mx,mv,qD,qE,cw,pL,pM,uh,ui,uj,ug,fm,mO,mN,qY,qW,qX,qV,jv,ij,kX,kZ,pv,kY,jm,mn,qm,mq,mo,jG,qp,qo,mr,yY,yX,eu,fq,qB,zB,zA,zz,zy,zx,zw,zv,zu,qz,y7,y8,tw,pH,pK,List.map_cons,List.map_nil,List.length_cons,List.length_nil,List.cons_append,List.nil_append,List.append_nil,List.replicate_succ,List.replicate_zero,List.set_cons_succ,List.set_cons_zero,List.getElem?_cons_zero,List.getElem?_cons_succ,List.getElem?_nil,List.take_succ_cons,List.take_zero,List.take_nil,List.drop_succ_cons,List.drop_zero,List.drop_nil,Option.some.injEq,Option.bind_some,Option.bind_none,Option.map_some,Option.map_none,Sl.fr.injEq,Sl.ow.injEq,Sl.io.injEq,Sl.vw.injEq,PyData.int.injEq,PyData.bool.injEq,PyData.list.injEq,PyData.tuple.injEq,PyData.str.injEq,List.cons.injEq,reduceCtorEq,and_true,true_and,and_false,false_and,and_assoc,exists_eq_left',exists_eq_left,exists_and_left,exists_eq',exists_eq,exists_false,exists_const,Nat.reduceSub,Nat.reduceAdd,Nat.reduceLT,Nat.zero_add,Nat.lt_add_left_iff_pos,decide_eq_true_eq,ite_true,ite_false,Bool.false_eq_true,if_true,if_false,Bool.not_eq_true',Bool.not_eq_true,decide_eq_false_iff_not,Int.zero_add,String.reduceBEq,Bool.true_and,Bool.and_true,Bool.or_false,Bool.false_or,Bool.or_true,Bool.true_or,Bool.and_false,Bool.false_and,Bool.not_true,Bool.not_false,id_eq,Sl.ctorIdx,Nat.succ_eq_add_one".splitOn ",").toArray.mapM λs => `(Lean.Parser.Tactic.simpLemma| $(Lean.mkIdent s.toName):ident))
 let h:=Lean.mkIdent `hW
 `(tactic| (refine'(?wf : Wk _ _) ?we ?wk ?wq; (case we => (intro $h:ident; simp only[$l,*] at $h:ident; exact $h)); (case wf => exactλ_ k q => k q); (case wk => (intro $h:ident; walk_at "wa"))))
local macro_rules | `(tactic| walk_at "wh") => do
 let h:=Lean.mkIdent `hW
 `(tactic| repeat (first | (with_reducible refine Exists.elim $h λ_ $h => ?_) | ((with_reducible refine And.elim (λe $h => ?_) $h); try subst e)))
local macro_rules | `(tactic| walk_at "ev") => do
 let l <- ("Gi,Eg,Iq,Iu,Gr,Iw,Gk,Bz,El,Eh,Em,Eo,Ej,Gh,BA,Ei,Gj,By,Bx,Ek,Gq,Eu,BF,Go,Gp,Ew,Et,Es,Er,BD,BC,BE,uZ,xQ".splitOn ",").toArray.mapM λs => `(Lean.Parser.Tactic.tacticSeq| with_reducible apply $(Lean.mkIdent s.toName))
 `(tactic| ((repeat' (first $[| $l]* | walk_at "wc")); done))
local macro_rules | `(tactic| walk_at "wc") => `(tactic| first | ((first | (with_reducible show _ = some (dD _)) | (with_reducible show _ = dD _) | (with_reducible show _ = List.map wD _) | (with_reducible show _ = eD _)); assumption) | exact rfl | with_reducible assumption | with_reducible exact eu _ | exact of_decide_eq_true rfl | exact A6 rfl | ((first | (with_reducible show _ <= sizeLine) | (with_reducible show _ < sizeLine) | (with_reducible show _ = _) | (with_reducible show shp _)); assumption))
local macro_rules | `(tactic| walk_at "wa") => do
 let h:=Lean.mkIdent `hW
 let l <- ("Cu,Cq,Cr,Cs,Ct,Cw,zN,Cv,zJ,v6,Hz,Fp,Fq".splitOn ",").toArray.mapM λs => `(Lean.Parser.Tactic.tacticSeq| (with_reducible apply $(Lean.mkIdent s.toName)); focus walk_at "ev")
 let m <- ("ws_seq,wg_name,wk_K,w_pop,w_popL,wx_set,wx_ret,wx_drop".splitOn ",").toArray.mapM λs => `(Lean.Parser.Tactic.tacticSeq| with_reducible apply $(Lean.mkIdent s.toName))
 `(tactic| (walk_at "wh"; repeat' (first | exact $h $[| $l]* $[| $m]* | walk_at "wc" | ((with_reducible show Ev _ _ _); walk_at "ev") | apply Exists.intro | refine And.intro rfl ?_ | (refine And.intro ?_ ?_; focus walk_at "wc") | refine And.intro ⟨_, rfl⟩ ?_ | refine And.intro ⟨_, _, rfl⟩ ?_ | (intro x; replace $h:ident := $h x; walk_at "wh") | (refine sH rfl (fun $h => ?_) (fun $h => ?_) $h <;> walk_at "wh") | (refine zK (fun $h => ?_) (fun $h => ?_) $h <;> walk_at "wh") | (refine zL (fun $h => ?_) (fun $h => ?_) $h <;> walk_at "wh"))))
local macro_rules | `(tactic| walk_at "dN") => do
 let l <- ("hN,hM,hL".splitOn ",").toArray.mapM λs => let x := Lean.mkIdent s.toName; `(Lean.Parser.Tactic.tacticSeq| with_reducible (first | refine($x _).nx _ ?_ | refine($x _).ct _ ?_ | refine($x _).bk _ ?_ | refine($x _).rt _ _ ?_))
 `(tactic| ((first $[| $l]*); try walk_at "d2"))
local macro_rules | `(tactic| walk_at "dd") => `(tactic| ((first | (walk_at "d1"; try walk_at "d2") | (simp only[Int.zero_add]; walk_at "d1"; try walk_at "d2") | (walk_at "d2")); try walk_at "dN"))
local macro_rules | `(tactic| walk_at "dx") => `(tactic| (first | ((with_reducible refine nx ?_); try walk_at "dd") | walk_at "dd"); repeat ((with_reducible refine nx ?_); try walk_at "dd"))
def top(i:Nat):Stmt:=PySem.Challenge.pw_windround_k38_whole_from_line_to_answer.main.body.getD i (.Pass ⟨0,0,0,0⟩)
section
variable {P:q3}{w:zb}{K:ca}{mg:bx->Option as}{base:bd}
abbrev gc:Stmt:=top 54
theorem nQ:ak ["_law_draws_here"] ["_law_draws_here"] (ac gc):=⟨rfl,rfl,rfl,by decide +kernel,rfl,by decide +kernel,by decide +kernel⟩
def wO(ds:List Int):Int:=ds.getLastD 0
inductive zU:DSp
 | mk {ss R} (ds:List Int):ss=[.io (li ds)]->R (.fr (.int (wO ds))) [.io (li ds.dropLast)]->zU ss R
theorem qA(a b:List Int):PyData.eqv (.list (li a)) (.list (li b))=decide (a=b):=Gn a b
theorem A7{ds:List Int}(h:ds≠[]):(li ds).getLast? = some (.int (wO ds)):=by
 unfold wO;rw[List.getLast?_map,List.getLastD_eq_getLast?];cases e:ds.getLast? with
 | none=>exact absurd (List.getLast?_eq_none_iff.mp e) h
 | some x=>rfl
theorem BI(ds:List Int):(li ds).dropLast=li ds.dropLast:=by simp[List.map_dropLast]
theorem oC{f:ap}{fd:kN}(F:Fun K "_law_pop" "_law_pop" gc f fd)(B:Bn mg):a9 P w K mg base CX0 1 f fd ["_law_draws_here"] (spD K zU):=by
 refine okD (k:=0) F nQ (λss R h=>?_) (by decide) (λcdv A outer s H E a=>⟨_,(bc (gF (ay (Be (K:=K) rfl a.units) mEq (qv 0) (cP ad)) (af (aB ag)) br)
   (af (aB (Al 0 (K:=K) rfl rfl)))),λss R h=>?_⟩)
 obtain⟨ds,rfl,_⟩:=h;rfl;obtain⟨ds,rfl,q⟩:=h;walk_at "dd";refine⟨Jb _,(Sh.ints 0 ds).shp (by decide),(Sh.ints 0 []).shp (by decide),?_⟩;rw[show PyData.list []=PyData.list (li []) from rfl,qA];by_cases e:ds=[]
 subst e;rw[if_pos (by simp)];exact q;rw[if_neg (by simp[e])];exact⟨_,A7 e,by rw[BI];exact q⟩
theorem EC(ns:List Int)(a b:Option Int):kE (li ns) a b=li ((ns.drop (HT.sIx ns.length 0 a)).take (HT.sIx ns.length ns.length b - HT.sIx ns.length 0 a)):=by unfold kE;show(List.drop _ (List.map PyData.int ns)).take _=List.map PyData.int _;rw[IF,List.map_take,List.map_drop]
theorem qS(ns:List Int)(c:Nat):kE (li ns) (some (c:Int)) none=li (ns.drop c):=by rw[EC,HT.sIx_none,HT.sIx_nat];by_cases h:c<=ns.length;rw[Kv h,JK (by simp)];rw[Nat.min_eq_right (by omega),Ki (IS _),Ki (by omega)];simp
theorem bZ{l:List (List Int)}{k:Nat}(h:k<l.length):l.getD k []∈l:=by rw[IP,IK h];exact Ju h
abbrev gd:Stmt:=top 52
theorem iw:ak ["_law_cell", "_law_turn", "_law_number"] ["_law_cell", "_law_turn"] (ac gd):=⟨rfl,rfl,rfl,by decide +kernel,rfl,by decide +kernel,by decide +kernel⟩
inductive zV:DSp
 | mk {ss R} (c t:Int):ss=[.fr (.int c),.fr (.int t)]->0<=t->t<100000->(∀x:Int,0<=x->x<2147483648->R (.fr (.int x)) [.un,.un])->zV ss R
theorem oE{f:ap}{fd:kN}(F:Fun K "_law_mix" "_law_mix" gd f fd)(B:Bn mg):a9 P w K mg base CX0 1 f fd ["_law_cell", "_law_turn"] (spD K zV):=by
 refine okD (k:=0) F iw (λss R h=>?_) (by decide) (λcdv A outer s H E b=>⟨_,(bc (ax 2 iw.nd (bt bi mIC (bt jD mIC (bt bY mI (bt bY mI (bt bi mIC (qv 0) ag) (bt jD mIC (bt jD mIC (qv 1) (qv 1)) ag)) ag) ag) ag))
   (af (aB (bt bi mIC (bt bY mI (bt jD mIC (qv 2) (qv 2)) (bt jD mIC ag (qv 1))) ag)))),λss R h=>?_⟩)
 obtain⟨c,t,rfl,_⟩:=h;rfl;obtain⟨c,t,rfl,d,h1,q⟩:=h;walk_at "dx";have a1:=JU ((c % 2147483647+t*t*7919+104729)*48271) (show(2147483647:Int)≠0 by decide);have a2:=JH ((c % 2147483647+t*t*7919+104729)*48271) (show(0:Int)<2147483647 by decide);refine⟨by decide,qU (by omega) (by omega),zq (by decide) (by decide),zq (by decide) (by decide),by decide,?_⟩;have a:=JU ((c % 2147483647+t*t*7919+104729)*48271 % 2147483647*((c % 2147483647+t*t*7919+104729)*48271 % 2147483647)+69621*t) (show(2147483629:Int)≠0 by decide);have e:=JH ((c % 2147483647+t*t*7919+104729)*48271 % 2147483647*((c % 2147483647+t*t*7919+104729)*48271 % 2147483647)+69621*t) (show(0:Int)<2147483629 by decide);exact⟨qU (by omega) (by omega),qU (by decide) (by decide),by decide,q _ a (by omega)⟩
abbrev cK:Stmt:=top 53
theorem aJ:ak ["_law_script", "_law_turn", "_law_many", "_law_cells", "_law_found", "_law_k", "_law_at", "_law_number", "_law_cell"] ["_law_script", "_law_turn", "_law_many"] (ac cK):=⟨rfl,rfl,rfl,by decide +kernel,rfl,by decide +kernel,by decide +kernel⟩
def Ds(l:List Int):Prop:=∀x∈l,0<=x/\x<2147483648
theorem Ds.app{l:List Int}{x:Int}(h:Ds l)(b:0<=x)(h1:x<2147483648):Ds (l++[x]):=λy a=>by
 rcases II.mp a with a|a;exact h y a;rw[IG.mp a];exact⟨b,h1⟩
theorem Ds.drop{l:List Int}(h:Ds l):Ds l.dropLast:=λx hx=>h x (l6 hx)
theorem Ds.pop{l:List Int}(h:Ds l):0<=wO l/\wO l<2147483648:=by
 unfold wO;rw[List.getLastD_eq_getLast?];cases e:l.getLast? with
 | none=>exact⟨Jo 0,by decide⟩
 | some x=>exact h x (List.mem_of_getLast? e)
inductive nK:DSp
 | mk {ss R} (ns:List Int) (t m:Nat):ss=[.fr (.list (li ns)),.fr (.int t),.fr (.int m)]->ns.length<=63->t<=5000->m<=5000->(∀l,Ds l->l.length=m->R (.ow (li l)) [.un,.un,.un])->nK ss R
theorem GF(ns:List Int)(h:ns.length<=63):kE (li ns) none (some 63)=li ns:=by unfold kE;have e:HT.sIx (li ns).length (li ns).length (some 63)=min 63 (li ns).length:=HT.sIx_nat _ _ 63;rw[e,HT.sIx_none,IF,List.drop_zero,Nat.sub_zero,Nat.min_eq_right h];exact JK (by simp)
inductive Hx (ns:List Int) (t m:Int) (n i:Nat):List Sl->Prop
 | mk (fs ls:List Int) (kv av:Sl):ls.length=n->fs.length=i->Ds fs->Hx ns t m n i [.fr (.list (li ns)),.fr (.int t),.fr (.int m),.ow (li ls),.ow (li fs),kv,av,.un,.un]
inductive Hw (ns cs:List Int) (t m:Int) (i:Nat):List Sl->Prop
 | mk (n:Int) (kv cv:Sl):0<=n->n<2147483648->Hw ns cs t m i [.fr (.list (li ns)),.fr (.int t),.fr (.int m),.fr (.list (li cs)),.un,kv,.un,.fr (.int n),cv]
theorem ka{f:ap}{fd:kN}(F:Fun K "_law_draws" "_law_draws" cK f fd)(B:Bn mg)(a:Cal P w K mg base "_law_mix" 1 (spD K zV)):a9 P w K mg base CX0 2 f fd ["_law_script", "_law_turn", "_law_many"] (spD K nK):=by
 refine okD (k:=1) F aJ (λss R h=>?_) (by decide) (λcdv A outer s H E G=>⟨_,(ai (ax 3 aJ.nd (rC (gm (K:=K) rfl) Cf (tP (K:=K) rfl (qv 0) eX (eW ag)) (cP (aa (qf 1) ad))))
   (ai (gF (ay rJ DJ (bt bi mIC (bt cQ mIC (qx (qv 3) ag) ag) ag) ag) (ai (ax 4 aJ.nd (cP ad))
   (ai (gh PassesOwn.never rfl (eY rfl B.range (aa (bt bY mI (bt cQ mIC (qv 1) ag) (qv 2)) ad)) (am 5 aJ.nd) (ai (ax 6 aJ.nd (bt bi mIC (qv 5) (jc B.len (qv 3))))
   (ai (eL (rE 4 (K:=K) rfl rfl (bt bi mIC (qx (qv 3) (qv 6)) ag)))
   (af (Aj 3 rfl (qv 6) (bt cQ mIC (qx (qv 3) (qv 6)) ag))))))
   (af (aB (tP (K:=K) rfl (qv 4) (eW (bt cQ mIC (qv 1) ag)) eX))))) br)
   (ai (ax 7 aJ.nd (qf 1))
   (ai (gh PassesOwn.never rfl (j0 false (K:=K) rfl rfl B.enumerate (aa (qf 3) ad)) (iE (K:=K) (n:=2) rfl rfl (bf (am 5 aJ.nd) (bf (am 8 aJ.nd) eZ))) (af (ax 7 aJ.nd (bt bi mIC (bt bY mI (bt jD mIC (qv 7) ag) (ao a (aa (qf 8) (aa (bt bY mI (qv 5) (qv 1)) ad)))) ag))))
   (af (aB (bX (NN:=_::_) (sc0:=ac cK) (N':=["_law_k", "_law_turn", "_law_cells", "_law_number"]) (ix:=[none,some 1,some 3,some 7]) (eY rfl B.range (aa (qv 2) ad)) (λ_ _ _ _=>(am 0 (show List.Nodup (["_law_k", "_law_turn", "_law_cells", "_law_number"]:List bx) by decide +kernel))) (λ_ _ _ _=>(ao a (aa (qx (qv 2) (bt bi mIC (qv 0) (jc B.len (qv 2)))) (aa (bt bY mI (bt bY mI (bt bi mIC (qv 3) ag) (qv 0)) (qv 1)) ad))))))))))),λss R h=>?_⟩)
 obtain⟨ns,t,m,rfl,_⟩:=h;rfl;obtain⟨ns,t,m,rfl,j,ht,I,q⟩:=h;walk_at "dx";rw[GF ns j];have u:li ns++[PyData.int (t:Int)]=li (ns++[(t:Int)]):=by simp
 rw[u];obtain⟨cs,c⟩:∃cs:List Int,cs=ns++[(t:Int)]:=⟨_,rfl⟩
 have p:cs.length=ns.length+1:=by rw[c];simp
 rw[<-c];refine⟨IQ (by decide) ae,?_,?_⟩;rw[IF];exact IQ (by omega) ae;walk_at "dx";refine⟨_,dE (k:=0) (by omega),?_⟩;walk_at "dx";refine⟨⟨by decide,by decide⟩,by decide,kP (λ_=>?_) (λ_=>?_)⟩
 ·have v:(t:Int) / 4=((t / 4:Nat):Int):=rfl;refine⟨Jb _,?_⟩;walk_at "dx";refine⟨⟨by decide,by decide⟩,by omega,by omega,iW (Hx ns t m cs.length) (.mk [] cs _ _ rfl rfl (λx hx=>by cases hx)) (λE hN=>?_) ?_⟩
  ·rintro i env hi ⟨fs,ls,kv,av,hl,e,hd⟩;rw[az] at hi;rw[bC];have b:i % ls.length<ls.length:=Nat.mod_lt _ (by omega);walk_at "dx";rw[IF];have y:((i:Nat):Int) % ((ls.length:Nat):Int)=((i % ls.length:Nat):Int):=rfl;rw[y];refine⟨by omega,?_⟩;walk_at "dx";refine⟨_,dE b,?_⟩;walk_at "dx";refine⟨by decide,by rw[IF,e];exact IY (by omega) ae,?_⟩;walk_at "dx";refine⟨_,dE b,?_⟩;walk_at "dx";have g:=JU (ls.getD (i % ls.length) 0) (show(1000003:Int)≠0 by decide);have r:=JH (ls.getD (i % ls.length) 0) (show(0:Int)<1000003 by decide);refine⟨⟨by decide,by decide⟩,_,Bh (by rw[IF];exact b),(hN _).nx _ ?_⟩;rw[dR,DL];exact .mk _ _ _ _ (by rw[Kh];exact hl) (by simp[e]) (hd.app g (by omega))
  ·rintro env ⟨fs,ls,kv,av,hl,e,hd⟩;walk_at "dx";rw[v,qS];exact⟨⟨by decide,by decide⟩,q _ (λx hx=>hd x (List.mem_of_mem_drop hx)) (by rw[az] at e;rw[Kc,e];omega)⟩
 ·walk_at "dx";refine iW (Hw ns cs t m) (.mk t _ _ (by omega) (by omega)) (λE hN=>?_) ?_
  ·rintro i env hi ⟨n,kv,cv,z,C⟩;rw[dW,bK];rw[a8,IF] at hi;walk_at "dx";refine⟨qU (by omega +splitDisjunctions) (by omega +splitDisjunctions),_,_,rfl,by omega +splitDisjunctions,by omega +splitDisjunctions,λx x0 x1=>?_⟩;walk_at "dx";have g:=JU (n*31+x) (show(2147483629:Int)≠0 by decide);have r:=JH (n*31+x) (show(0:Int)<2147483629 by decide);exact⟨by decide,(hN _).nx _ (.mk _ _ _ g (by omega))⟩
  ·rintro env ⟨n,kv,cv,z,C⟩;walk_at "dx";refine⟨by omega +splitDisjunctions,by omega +splitDisjunctions,zr (λd=>∃x:Int,d=.int x/\0<=x/\x<2147483648) (by rw[az];omega) (λi hi Q D=>?_) λrs hn o=>?_⟩
   ·rw[az] at hi;rw[bC];walk_at "dx";rw[IF];have b:i % cs.length<cs.length:=Nat.mod_lt _ (by omega);rw[show((i:Nat):Int) % ((cs.length:Nat):Int)=((i % cs.length:Nat):Int) from rfl];have g:=JU n (show(1009:Int)≠0 by decide);have r:=JH n (show(0:Int)<1009 by decide);refine⟨by omega,_,dE b,by decide,_,_,rfl,by omega,by omega,λx x0 x1=>?_⟩;walk_at "dx";exact D _ ⟨x,rfl,x0,x1⟩
   ·obtain⟨l,rfl,hl⟩:=kK o;walk_at "dx";exact q l hl (by rw[az,IF] at hn;omega)
abbrev bN:Stmt:=top 55
theorem aR:ak ["_law_draws_here", "_law_most", "_law_number", "_law_hands", "_law_left", "_law_spans", "_law_k"] ["_law_draws_here", "_law_most"] (ac bN):=⟨rfl,rfl,rfl,by decide +kernel,rfl,by decide +kernel,by decide +kernel⟩
def TB(s o:List Int):Prop:=1<=s.length/\s.length<=6/\1<=o.length/\o.length<=6/\(∀x∈s,1<=x/\x<=12)/\(∀x∈o,0<=x/\x<=6)/\(s.length<=4\/∀x∈o,x<=2)
def iH:List Int->Nat
 | []=>1
 | x::s=>x.toNat*iH s
theorem rG(s:List Int)(x:Int):iH (s++[x])=iH s*x.toNat:=by
 induction s with
 | nil=>show x.toNat*1=1*x.toNat;omega
 | cons y s a=>show y.toNat*iH (s++[x])=y.toNat*iH s*x.toNat;rw[a,Nat.mul_assoc]
theorem xr{L l q p:Nat}(h:L*p<=q)(hl:l<=L)(y:Nat)(e:L / y*y<=L):L / y*(p*y)<=q:=by rw[<-Nat.mul_assoc,Nat.mul_right_comm];exact IQ (Nat.mul_le_mul_right _ e) h
inductive sY:DSp
 | mk {ss R} (l:List Int) (m:Nat):ss=[.io (li l),.fr (.int m)]->Ds l->6<=m->m<=100000->(∀s o l':List Int,Ds l'->TB s o->o.length*iH s<=m->R (.fr (.tuple [.list (li s),.list (li o)])) [.io (li l'),.un])->sY ss R
theorem yi{α:Type}(xs:List α)(v:α):atI (xs++[v]) (-1)=some v:=by unfold atI ixN;rw[if_neg (by decide),if_pos (by rw[Jg];simp;omega)];show(xs++[v])[(-1+((xs++[v]).length:Int)).toNat]? = some v;rw[show(-1+((xs++[v]).length:Int)).toNat=xs.length by rw[Jg];simp;omega];simp
inductive EN (k:Int) (i:Nat):List ab->List ab->Prop
 | mk (hds l:List Int):hds.length=i->Ds l->(∀x∈hds,0<=x/\x<=k)->EN k i (li hds) (li l)
theorem EN.add{k v:Int}{i:Nat}{hds l:List Int}(hl:hds.length=i)(dl:Ds l)(a:∀x∈hds,0<=x/\x<=k)(hv:0<=v/\v<=k):EN k (i+1) (li hds++[.int v]) (li l.dropLast):=by rw[dR];exact .mk _ _ (by simp[hl]) dl.drop λx hx=>(II.mp hx).elim (a x) λh=>by rw[IG.mp h];exact hv
inductive Hl (l2:List Int) (m num:Int):List Sl->Prop
 | mk (hs:List Int):1<=hs.length->hs.length<=6->(∀x∈hs,0<=x/\x<=2)->Hl l2 m num [.io (li l2),.fr (.int m),.fr (.int num),.ow (li hs),.un,.un,.un]
inductive Hk (m num:Int):List Sl->Prop
 | mk (hs l3:List Int):Ds l3->1<=hs.length->hs.length<=6->(∀x∈hs,0<=x/\x<=6)->(num / 27 % 3=1\/∀x∈hs,x<=2)->Hk m num [.io (li l3),.fr (.int m),.fr (.int num),.ow (li hs),.un,.un,.un]
inductive Hj (hs:List Int) (m:Nat) (num:Int) (i:Nat):List Sl->Prop
 | mk (l sp:List Int) (left:Int) (kv:Sl):Ds l->sp.length=i->1<=left->hs.length*(left.toNat*iH sp)<=m->(∀x∈sp,1<=x/\x<=12)->Hj hs m num i [.io (li l),.fr (.int m),.fr (.int num),.ow (li hs),.fr (.int left),.ow (li sp),kv]
theorem lU{f:ap}{fd:kN}(F:Fun K "_law_town" "_law_town" bN f fd)(B:Bn mg)(a:Cal P w K mg base "_law_pop" 1 (spD K zU)):a9 P w K mg base CX0 2 f fd ["_law_draws_here", "_law_most"] (spD K sY):=by
 refine okD (k:=1) F aR (λss R h=>?_) (by decide) (λcdv A outer s H E U=>⟨_,(ai (ax 2 aR.nd (iG 0 a (aa (qv 0) ad)))
   (ai (jA 3 1 0 rfl aR.nd (NN:=_::_) (sc0:=ac bN) (N':=["_law_k", "_law_draws_here"]) (ix:=[none,some 0]) (eY rfl B.range (aa (bt bY mI ag (bt bi mIC (qv 2) ag)) ad)) (λ_ _ _ _=>(am 0 (show List.Nodup (["_law_k", "_law_draws_here"]:List bx) by decide +kernel))) (λ_ _ _ _=>(bt bi mIC (iG 0 a (aa (qv 1) ad)) ag)))
   (pV (gF (ay AU mB (bt bi mIC (bt cQ mIC (qv 2) ag) ag) ag) (af (bw 3 aR.nd (NN:=_::_) (sc0:=ac bN) (N':=["_law_one"]) (ix:=[none]) (aA (qf 3)) (λ_ _ _ _=>(am 0 (show List.Nodup (["_law_one"]:List bx) by decide +kernel))) (λ_ _ _ _=>(bt bY mI ag (bt bi mIC (qv 0) ag))))) br)
   (pV (gF (ay rJ DJ (bt bi mIC (bt cQ mIC (qv 2) ag) ag) ag) (af (jA 3 1 0 rfl aR.nd (NN:=_::_) (sc0:=ac bN) (N':=["_law_k", "_law_draws_here"]) (ix:=[none,some 0]) (eY rfl B.range (aa (bt bY mI ag (bt bi mIC (bt cQ mIC (qv 2) ag) ag)) ad)) (λ_ _ _ _=>(am 0 (show List.Nodup (["_law_k", "_law_draws_here"]:List bx) by decide +kernel))) (λ_ _ _ _=>(bt bi mIC (iG 0 a (aa (qv 1) ad)) ag)))) br)
   (ai (ax 4 aR.nd (bt cQ mIC (qv 1) (jc B.len (qv 3))))
   (ai (ax 5 aR.nd (cP ad))
   (ai (gh PassesOwn.never rfl (eY rfl B.range (aa (bt bY mI ag (bt bi mIC (iG 0 a (aa (qv 0) ad)) (qx (cP (aa ag (aa ag (aa ag ad)))) (bt bi mIC (bt cQ mIC (qv 2) ag) ag)))) ad)) (am 6 aR.nd) (ai (eL (rE 5 (K:=K) rfl rfl (bt bY mI ag (bt bi mIC (iG 0 a (aa (qv 0) ad)) (tS (vB rfl) HM rfl B.min PyProof.Rows.boot_min (aa ag (aa (qv 4) ad)))))))
   (af (ax 4 aR.nd (bt cQ mIC (qv 4) (qx (qv 5) (ET kW EW ag)))))))
   (af (aB (cG (aa (qf 5) (aa (qf 3) ad)))))))))))),λss R h=>?_⟩)
 obtain⟨l,m,rfl,_⟩:=h;rfl;obtain⟨l,m,rfl,dl,N,V,q⟩:=h;walk_at "dx";refine⟨l,rfl,?_⟩;walk_at "dx";have W:=dl.pop;have u:=dl.drop;generalize wO l=num at *;generalize l.dropLast=l1 at *;refine⟨by decide,by omega,by omega,EN 2,_,_,rfl,rfl,.mk [] _ rfl u (by simp),?_,?_⟩
 ·rintro i rs l hi ⟨hds,l',hl,b,n⟩;rw[az] at hi;rw[bC];refine⟨by rw[IF,hl];exact IY (by omega) ae,_,rfl,?_⟩;walk_at "dx";refine⟨l',rfl,?_⟩;walk_at "dx";exact⟨by decide,.add hl b n (by omega)⟩
 rintro rs l ⟨hds,l2,hl,t,n⟩;rw[az] at hl;refine⟨_,rfl,?_⟩;walk_at "dx";refine⟨Hl l2 m num,?_,?_⟩
 ·walk_at "dx";refine⟨⟨by decide,by decide⟩,by decide,kP (λ_=>?_) (λ_=>.mk hds (by omega) (by omega) n)⟩;refine zr (λd=>∃x:Int,d=.int x/\0<=x/\x<=2) (by rw[IF];omega) (λi hi Q O=>?_) λrs v z=>?_
  ·rw[bK];walk_at "dx";exact⟨by decide,O _ ⟨_,rfl,by omega,by omega⟩⟩
  ·obtain⟨hs,rfl,g⟩:=kK z;walk_at "dx";rw[IF,IF] at v;exact .mk hs (by omega) (by omega) g
 rintro env ⟨hs,h1,C,g⟩;refine⟨Hk m num,?_,?_⟩
 ·walk_at "dx";refine⟨⟨by decide,by decide⟩,by decide,kP (λM=>?_) (λ_=>.mk hs l2 t h1 C (λx hx=>by have:=g x hx;omega) (.inr λx hx=>(g x hx).2))⟩;refine⟨⟨by decide,by decide⟩,by decide,by omega,by omega,EN 6,_,_,rfl,rfl,.mk [] _ rfl t (by simp),?_,?_⟩
  ·rintro i rs l hi ⟨hds,l',hl,b,n⟩;rw[az] at hi;rw[bC];refine⟨by rw[IF,hl];exact IY (by omega) ae,_,rfl,?_⟩;walk_at "dx";refine⟨l',rfl,?_⟩;walk_at "dx";exact⟨by decide,.add hl b n (by omega)⟩
  rintro rs l ⟨D,l3,hl,j,n⟩;rw[az] at hl;refine⟨_,rfl,?_⟩;walk_at "dx";exact .mk D l3 j (by omega) (by omega) n (.inl (by omega))
 rintro env ⟨hs,l3,j,h1,C,G,I⟩;walk_at "dx";rw[IF];obtain⟨c,S,c3,X,M⟩:∃c:Int,atI [PyData.int 3,PyData.int 4,PyData.int 6] (num / 27 % 3)=some (.int c)/\3<=c/\c<=6/\(num / 27 % 3=1->c=4):=by
  have:num / 27 % 3=0\/num / 27 % 3=1\/num / 27 % 3=2:=by omega
  rcases this with e|e|e;rw[e];exact⟨3,rfl,by decide,by decide,by decide⟩;rw[e];exact⟨4,rfl,by decide,by decide,λ_=>rfl⟩;rw[e];exact⟨6,rfl,by decide,by decide,by decide⟩
 have Z:=j.pop;have J:=j.drop;refine⟨⟨by omega +splitDisjunctions,by omega +splitDisjunctions⟩,?_⟩;walk_at "dx";refine⟨Jb _,?_⟩;walk_at "dx";refine⟨l3,rfl,?_⟩;walk_at "dx";refine⟨IQ (by decide) ae,⟨by decide,by decide⟩,by decide,_,S,_,rfl,by omega +splitDisjunctions,?_⟩;generalize wO l3=p3 at *;generalize l3.dropLast=l4 at *;have u0:=JU p3 (show c≠0 by omega);have u1:=JH p3 (show 0<c by omega);have m1:1<=(m:Int) / (hs.length:Int):=by rw[Int.le_ediv_iff_mul_le (by omega)];omega
 have m2:hs.length*(((m:Int) / (hs.length:Int)).toNat*iH [])<=m:=by show hs.length*(((m / hs.length:Nat):Int).toNat*1)<=m;rw[Jv,Nat.mul_one];exact Nat.mul_div_le _ _
 refine⟨by omega,by omega,iW (Hj hs m num) (.mk l4 [] _ _ J rfl m1 m2 (by simp)) (λE hN=>?_) ?_⟩
 ·rintro i env hi ⟨l,sp,left,kv,dl,hl,l1,o,r⟩;rw[az] at hi;rw[bC];walk_at "dx";refine⟨l,rfl,?_⟩;walk_at "dx";have b:=dl.drop;generalize wO l=p at *;generalize l.dropLast=l5 at *;obtain⟨w,hw⟩:∃w:Int,w=if left<12 then left else 12:=⟨_,rfl⟩
  rw[<-hw];have w1:1<=w/\w<=12/\w<=left:=by rw[hw];split <;> omega
  have y0:=JU p (show w≠0 by omega);have y1:=JH p (show 0<w by omega);generalize p % w=y at *;refine⟨by omega,by rw[IF,hl];exact IY (by omega) ae,?_⟩;walk_at "dx";refine⟨_,yi _ _,_,rfl,⟨by omega,by omega⟩,(hN _).nx _ ?_⟩;rw[dR];refine .mk l5 (sp++[1+y]) _ _ b (by simp[hl]) ?_ ?_ λx hx=>?_;rw[Int.le_ediv_iff_mul_le (by omega)];omega;rw[rG];refine IQ (Nat.mul_le_mul_left _ ?_) o;obtain⟨L,rfl⟩:∃L:Nat,left=(L:Int):=⟨left.toNat,by omega⟩
  obtain⟨Y,T⟩:∃Y:Nat,1+y=(Y:Int):=⟨(1+y).toNat,by omega⟩
  rw[T,show((L:Int) / (Y:Int)).toNat=L / Y from rfl,Jv,Jv];exact xr (l:=0) (IS _) (Jb _) Y (Nat.div_mul_le_self L Y);rcases II.mp hx with hx|hx;exact r x hx;rw[IG.mp hx];omega
 ·rintro env ⟨l,sp,left,kv,dl,hl,l1,o,r⟩;rw[az] at hl;walk_at "dx";refine⟨IQ (by decide) ae,q sp hs l dl ⟨by omega,by omega,h1,C,r,G,?_⟩ (IQ (Nat.mul_le_mul_left _ (Nat.le_mul_of_pos_left _ (by omega))) o)⟩;rcases I with h|h;have:=M h;exact .inl (by omega);exact .inr h
def b7:Nat->List (List Int)
 | 0=>[[]]
 | k+1=>b7 k++(b7 k).map (·++[(k:Int)])
def cW(l:List Int)(n:Nat):List Int:=((List.range n).filter λi=>decide (l.getD i 0=1)).map (Nat.cast:Nat->Int)
def bQ(h:Int)(a r:List Int):Bool:=decide ((r.length:Int)<=h)&&decide ((a.filter λc=>decide (c ∉ r))=[])
def eB(n:Nat)(h:Int)(l:List Int):List (List Int):=(b7 n).filter (bQ h (cW l n))
def D1(r:List Int):ab:=.tuple [.int r.length,.list (li r)]
theorem fB:∀n,(b7 n).length=2 ^ n
 | 0=>rfl
 | n+1=>by
  show(b7 n++(b7 n).map _).length=_;rw[Jg,IF,fB n,Nat.pow_succ];omega
theorem bj:∀n,∀r∈b7 n,r.length<=n/\r.Pairwise (·<·)/\∀x∈r,0<=x/\x<n
 | 0,r,h=>by
  rw[IG.mp h];simp
 | n + 1,r,h=>by
  rcases II.mp h with h|h;obtain⟨a,b,c⟩:=bj n r h;exact⟨by omega,b,λx hx=>by have:=c x hx;omega⟩;obtain⟨r',h',rfl⟩:=IZ.mp h;obtain⟨a,b,c⟩:=bj n r' h';refine⟨by simp;omega,Km.mpr ⟨b,by simp,λx hx y d=>?_⟩,λx hx=>?_⟩;rw[IG.mp d];have:=c x hx;omega;rcases II.mp hx with hx|hx;have:=c x hx;omega;rw[IG.mp hx];omega
theorem gN{α:Type}{p q:α->Bool}(h:∀x,p x=true->q x=true):∀l:List α,(l.filter p).length<=(l.filter q).length
 | []=>IS _
 | x :: l=>by
  have b:=gN h l;by_cases a:p x=true;rw[JG a,JG (h x a)];simpa using b;rw[J1 a];by_cases c:q x=true;rw[JG c];simp;omega;rw[J1 c];exact b
theorem iV{n:Nat}{h:Int}{l:List Int}(hn:n<=6)(d:n<=4\/h<=3):(eB n h l).length<64:=by
 rcases d with e|h2;have a:=Jy (bQ h (cW l n)) (b7 n);rw[fB] at a;have:2 ^ n<=2 ^ 4:=JQ (by decide) e;unfold eB;omega;have a:(eB n h l).length<=((b7 n).filter λr=>decide (r.length<=3)).length:=gN (λr c=>by
  unfold bQ at c;rw[Jw,decide_eq_true_eq] at c;rw[decide_eq_true_eq];omega) _
 have b:∀n:Nat,n<=6->((b7 n).filter λr=>decide (r.length<=3)).length<=42:=by
  intro n hn
  match n,hn with
  | 0,_=>decide
  | 1,_=>decide
  | 2,_=>decide
  | 3,_=>decide
  | 4,_=>decide
  | 5,_=>decide +kernel
  | 6,_=>decide +kernel
 have:=b n hn;omega
theorem aE{l:List Int}{k:Nat}(h:k<l.length):l.getD k 0∈l:=by rw[IP,IK h];exact Ju h
def StB(s o:List Int)(d:Nat)(l:List Int):Prop:=d<o.length/\l.length=s.length
abbrev bh:Stmt:=top 57
theorem aW:ak ["_law_town_here", "_law_standing_here", "_law_found", "_law_clocks", "_law_due", "_law_rows_here", "_law_clock", "_law_row"] ["_law_town_here", "_law_standing_here"] (ac bh):=⟨rfl,rfl,rfl,by decide +kernel,rfl,by decide +kernel,by decide +kernel⟩
inductive Ho (s o l:List Int) (d i:Nat):List Sl->Prop
 | mk (cv:Sl) (rs:List ab):rs=lr (b7 i)->Ho s o l d i [.fr (.tuple [.list (li s),.list (li o)]),.fr (.tuple [.int d,.tuple (li l)]),.ow [],.fr (.list (li (List.map (Nat.cast:Nat->Int) (List.range s.length)))),.fr (.list (li (cW l s.length))),.ow rs,cv,.un]
inductive Hn (s o l:List Int) (d:Nat) (cv:Sl) (i:Nat):List Sl->Prop
 | mk (rv:Sl) (fs:List ab):fs=(((b7 s.length).take i).filter (bQ (o.getD d 0) (cW l s.length))).map D1->Hn s o l d cv i [.fr (.tuple [.list (li s),.list (li o)]),.fr (.tuple [.int d,.tuple (li l)]),.ow fs,.fr (.list (li (List.map (Nat.cast:Nat->Int) (List.range s.length)))),.fr (.list (li (cW l s.length))),.fr (.list (lr (b7 s.length))),cv,rv]
inductive s9:DSp
 | mk {ss R} (s o l:List Int) (d:Nat):ss=[.fr (.tuple [.list (li s),.list (li o)]),.fr (.tuple [.int d,.tuple (li l)])]->TB s o->StB s o d l->(∀rr:List (List Int),rr.Perm (eB s.length (o.getD d 0) l)->R (.ow (lr rr)) [.un,.un])->s9 ss R
theorem lV{f:ap}{fd:kN}(F:Fun K "_law_rows" "_law_rows" bh f fd)(B:Bn mg):a9 P w K mg base CX0 1 f fd ["_law_town_here", "_law_standing_here"] (spD K s9):=by
 refine okD (k:=0) F aW (λss R h=>?_) (by decide) (λcdv A outer s H E m=>⟨_,(ai (ax 2 aW.nd (cP ad))
   (ai (bw 3 aW.nd (NN:=_::_) (sc0:=ac bh) (N':=["_law_clock"]) (ix:=[none]) (eY rfl B.range (aa (jc B.len (qx (qv 0) ag)) ad)) (λ_ _ _ _=>(am 0 (show List.Nodup (["_law_clock"]:List bx) by decide +kernel))) (λ_ _ _ _=>(qf 0)))
   (ai (bw 4 aW.nd (NN:=_::_) (sc0:=ac bh) (N':=["_law_clock", "_law_standing_here"]) (ix:=[none,some 1]) (aA (qf 3)) (λ_ _ _ _=>(am 0 (show List.Nodup (["_law_clock", "_law_standing_here"]:List bx) by decide +kernel))) (λ_ _ _ _=>(qf 0)) (ht:=(λ_ _ _ _=>(iC (ay rJ DJ (qx (qx (qv 1) ag) (qv 0)) ag)))))
   (yF 4 (ai (ax 5 aW.nd (cP (aa (cP ad) ad)))
   (ai (gh PassesOwn.never rfl (aA (qf 3)) (am 6 aW.nd) (af (ax 5 aW.nd (rC (gm (K:=K) rfl) Cf (qv 5) (bX (NN:=_::_) (sc0:=ac bh) (N':=["_law_row", "_law_clock"]) (ix:=[none,some 6]) (aA (qf 5)) (λ_ _ _ _=>(am 0 (show List.Nodup (["_law_row", "_law_clock"]:List bx) by decide +kernel))) (λ_ _ _ _=>(rC (gm (K:=K) rfl) Cf (qv 0) (cP (aa (qf 1) ad)))))))))
   (ai (gh PassesOwn.never rfl (aA (qf 5)) (am 7 aW.nd) (af (gF (PW.pt (jz (ay ou mB (jc B.len (qv 7)) (qx (qx (qv 0) ag) (qx (qv 1) ag))) (iB (ay (Be (K:=K) rfl m.units) mEq (bX (NN:=_::_) (sc0:=ac bh) (N':=["_law_clock", "_law_row"]) (ix:=[none,some 7]) (aA (qf 4)) (λ_ _ _ _=>(am 0 (show List.Nodup (["_law_clock", "_law_row"]:List bx) by decide +kernel))) (λ_ _ _ _=>(qf 0)) (ht:=(λ_ _ _ _=>(iC (ay (D4 (K:=K) rfl) DH (qv 0) (qv 1)))))) (cP ad))))) (af (eL (rE 2 (K:=K) rfl rfl (cG (aa (jc B.len (qv 7)) (aa (qf 7) ad)))))) br)))
   (af (aB (bX (NN:=_::_) (sc0:=ac bh) (N':=["_law_many", "_law_row"]) (ix:=[none,none]) (aA (CY qg (K:=K) rfl (jw m) rfl B.sorted (aa (qv 2) ad))) (λ_ _ _ _=>(iE (K:=K) (n:=2) rfl rfl (bf (am 0 (show List.Nodup (["_law_many", "_law_row"]:List bx) by decide +kernel)) (bf (am 1 (show List.Nodup (["_law_many", "_law_row"]:List bx) by decide +kernel)) eZ)))) (λ_ _ _ _=>(qf 1)))))))))))),λss R h=>?_⟩)
 obtain⟨s,o,l,d,rfl,_⟩:=h;rfl;obtain⟨s,o,l,d,rfl,tb,J,q⟩:=h;obtain⟨S,y,T,U,V,W,D⟩:=tb;obtain⟨s1,s2⟩:=J;walk_at "dx";refine⟨Jb _,?_⟩;walk_at "dx";rw[IF];refine⟨by omega,by omega,bA (λi=>.int (i:Int)) (by rw[az];omega) (λi hi Q p=>?_) ?_⟩
 ·rw[bC];walk_at "dx";exact p
 rw[az,Jv,xq];walk_at "dx";refine dX (λi=>decide (l.getD i 0=1)) (λi=>.int (i:Int)) (by simp;omega) (λi hi Q L h1 h2=>?_) ?_
 ·rw[IF,IF,Jl] at hi;rw[bK];have z:(List.map (Nat.cast:Nat->Int) (List.range s.length)).getD i 0=(i:Int):=by simp[IP,hi]
  rw[z];walk_at "dx";refine⟨_,dE (k:=i) (by omega),?_⟩;walk_at "dx";exact kP (λh=>h1 (by simpa using h)) (λh=>h2 (by simpa using h))
 walk_at "dx";have M:List.map (λ(i:Nat)=>PyData.int (i:Int)) (List.filter (λ(i:Nat)=>decide (l.getD i 0=1)) (List.range (li (List.map (Nat.cast:Nat->Int) (List.range s.length))).length))=li (cW l s.length):=by rw[IF,IF,Jl];unfold cW;show _=List.map _ (List.map _ _);rw[Jq];rfl
 rw[M];refine⟨Jb _,IQ (by decide) ae,?_⟩;walk_at "dx";refine iW (Ho s o l d) (.mk _ _ rfl) (λE hN=>?_) ?_
 ·rintro i env hi ⟨cv,_,rfl⟩;rw[IF,IF,Jl] at hi;rw[bK];have z:(List.map (Nat.cast:Nat->Int) (List.range s.length)).getD i 0=(i:Int):=by simp[IP,hi]
  rw[z];have hz:(b7 i).length<=32:=by rw[fB];have:2 ^ i<=2 ^ 5:=JQ (by decide) (by omega);omega
  walk_at "dx";refine bA (λj=>.list (li ((b7 i).getD j []++[(i:Int)]))) (by rw[IF];omega) (λj hj Q p=>?_) ?_
  ·rw[IF] at hj;rw[gJ];have m:=(bj i _ (bZ (l:=b7 i) hj)).1;walk_at "dx";refine⟨IQ (by decide) ae,by rw[IF];exact IQ (by omega) ae,?_⟩;rw[dR];exact p
  ·rw[IF,bO (b7 i) [] (λr=>PyData.list (li (r++[(i:Int)])))];have e:lr (b7 i)++(b7 i).map (λr=>PyData.list (li (r++[(i:Int)])))=lr (b7 (i+1)):=by
    show _=List.map _ (b7 i++_);rw[Jm,Jq];rfl
   walk_at "dx";refine⟨?_,(hN _).nx _ (.mk _ _ e)⟩;rw[IF,IF];exact IQ (by omega) ae
 rintro env ⟨cv,_,rfl⟩;rw[IF,IF,Jl];walk_at "dx";refine iW (Hn s o l d cv) (.mk _ _ rfl) (λE hN=>?_) ?_
 ·rintro i env hi ⟨rv,_,rfl⟩;rw[IF] at hi;rw[gJ];have t:=bZ (l:=b7 s.length) hi;obtain⟨X,Y,Z⟩:=bj _ _ t;have G:((b7 s.length).take (i+1)).filter (bQ (o.getD d 0) (cW l s.length))=((b7 s.length).take i).filter (bQ (o.getD d 0) (cW l s.length))++(if bQ (o.getD d 0) (cW l s.length) ((b7 s.length).getD i [])=true then [(b7 s.length).getD i []] else []):=by
   have u:(b7 s.length).getD i []=(b7 s.length)[i]:=by simp[IP,hi]
   rw[JT,IK hi,u,JY];show _++List.filter _ [_]=_;generalize o.getD d 0=oh;cases hg:bQ oh (cW l s.length) (b7 s.length)[i] <;> simp[hg]
  have hz:(((b7 s.length).take i).filter (bQ (o.getD d 0) (cW l s.length))).length<=64:=by refine IQ (Jy _ _) ?_;rw[JC,fB];have:2 ^ s.length<=2 ^ 6:=JQ (by decide) y;omega
  have a:∀g v,g=(((b7 s.length).take i).filter (bQ (o.getD d 0) (cW l s.length))++(if bQ (o.getD d 0) (cW l s.length) ((b7 s.length).getD i [])=true then [(b7 s.length).getD i []] else [])).map D1->(E i).nx [.fr (.tuple [.list (li s),.list (li o)]),.fr (.tuple [.int d,.tuple (li l)]),.ow g,.fr (.list (li (List.map (Nat.cast:Nat->Int) (List.range s.length)))),.fr (.list (li (cW l s.length))),.fr (.list (lr (b7 s.length))),cv,v]:=λg v e=>(hN _).nx _ (.mk _ _ (by rw[G];exact e));clear hN G;generalize ((b7 s.length).take i).filter (bQ (o.getD d 0) (cW l s.length))=fs at *;generalize (b7 s.length).getD i []=r at *;have N:(cW l s.length).length<=6:=by unfold cW;rw[IF];refine IQ (Jy _ _) ?_;rw[Jl];exact y
  walk_at "dx";refine⟨_,dE s1,?_⟩;walk_at "dx";rw[IF];refine kP (λb=>?_) (λb=>?_)
  rotate_left
  have u:bQ (o.getD d 0) (cW l s.length) r=false:=by unfold bQ;rw[decide_eq_false b,Bool.false_and]
  rw[u,if_neg (by decide),Jh] at a;exact a _ _ rfl;refine dX (λj=>decide ((cW l s.length).getD j 0 ∉ r)) (λj=>.int ((cW l s.length).getD j 0)) (by rw[IF];omega) (λj hj Q L h1 h2=>?_) ?_
  ·rw[bK];walk_at "dx";generalize (cW l s.length).getD j 0=c at *;exact kP (λh=>h1 (decide_eq_true h)) (λh=>h2 (decide_eq_false h))
  rw[IF,dw (cW l s.length) 0 (λc=>decide (c ∉ r)) (λc=>PyData.int c)];walk_at "dx";rw[show PyData.list []=PyData.list (li []) from rfl,qA];refine⟨Jb _,(Sh.ints 0 _).shp (by decide),(Sh.ints 0 []).shp (by decide),?_⟩;have u:bQ (o.getD d 0) (cW l s.length) r=decide (((cW l s.length).filter λc=>decide (c ∉ r))=[]):=by unfold bQ;rw[decide_eq_true b,Bool.true_and]
  rw[u] at a;refine kP (λt=>?_) (λt=>?_);rw[if_pos t,Jm] at a;refine⟨IQ (by decide) ae,by rw[IF];exact IY (by omega) ae,?_⟩;exact a _ _ (by rw[IF];rfl);rw[if_neg t,Jh] at a;exact a _ _ rfl
 ·rintro env ⟨rv,_,rfl⟩;rw[IF,JK (IS _)];walk_at "dx";have hs:∀r∈(b7 s.length).filter (bQ (o.getD d 0) (cW l s.length)),r.length<=1000:=λr m=>by
   have:=(bj _ r (Ji.mp m).1).1;omega
  refine⟨λx hx=>?_,?_,λes C=>?_⟩;obtain⟨r,_,rfl⟩:=IZ.mp hx;exact⟨r.length,r,rfl⟩;rw[IF];exact iV (n:=s.length) (h:=o.getD d 0) y (D.imp (λh=>h) λh=>by have:=h _ (aE s1);omega)
  ·obtain⟨rr,I,rfl⟩:=cA C _ rfl;have hl:=I.length_eq;have hf:((b7 s.length).filter (bQ (o.getD d 0) (cW l s.length))).length<64:=iV y (D.imp (λh=>h) λh=>by have:=h _ (aE s1);omega);refine bA (λj=>.list (li (rr.getD j []))) (by rw[IF];omega) (λj hj Q p=>?_) ?_
   ·rw[IF] at hj;have O:(List.map D1 rr)[j]'(by simpa using hj)=D1 (rr.getD j []):=by simp[IP,hj]
    rw[O];unfold D1;walk_at "dx";exact p
   ·rw[IF,bO rr [] (λr=>PyData.list (li r))];walk_at "dx";exact q rr I
def kQ(s l r:List Int)(n:Nat):List Int:=(List.range n).map λ(i:Nat)=>if (i:Int)∈r then s.getD i 0 else l.getD i 0 - 1
theorem kL(s l r:List Int)(n:Nat):(kQ s l r n).length=n:=by simp[kQ]
theorem vK(s l r:List Int)(n:Nat):kQ s l r (n+1)=kQ s l r n++[if (n:Int)∈r then s.getD n 0 else l.getD n 0 - 1]:=by unfold kQ;rw[J6,Jm];rfl
abbrev dO:Stmt:=top 58
theorem bF:ak ["_law_town_here", "_law_standing_here", "_law_row", "_law_lefts", "_law_clock"] ["_law_town_here", "_law_standing_here", "_law_row"] (ac dO):=⟨rfl,rfl,rfl,by decide +kernel,rfl,by decide +kernel,by decide +kernel⟩
inductive nL:DSp
 | mk {ss R} (s o l r:List Int) (d:Nat):ss=[.fr (.tuple [.list (li s),.list (li o)]),.fr (.tuple [.int d,.tuple (li l)]),.fr (.list (li r))]->s.length<=1000->1<=o.length->l.length=s.length->R (.fr (.tuple [.int (((d+1) % o.length:Nat):Int),.tuple (li (kQ s l r s.length))])) [.un,.un,.un]->nL ss R
inductive IvX (s o l r:List Int) (d i:Nat):List Sl->Prop
 | mk (cv:Sl):IvX s o l r d i [.fr (.tuple [.list (li s),.list (li o)]),.fr (.tuple [.int d,.tuple (li l)]),.fr (.list (li r)),.fr (.tuple (li (kQ s l r i))),cv]
theorem kf{f:ap}{fd:kN}(F:Fun K "_law_after" "_law_after" dO f fd)(B:Bn mg):a9 P w K mg base CX0 1 f fd ["_law_town_here", "_law_standing_here", "_law_row"] (spD K nL):=by
 refine okD (k:=0) F bF (λss R h=>?_) (by decide) (λcdv A outer s H E b=>⟨_,(ai (ax 3 bF.nd (cG ad))
   (ai (gh PassesOwn.never rfl (eY rfl B.range (aa (jc B.len (qx (qv 0) ag)) ad)) (am 4 bF.nd) (af (gF (ay (kIn (K:=K) rfl) mIn (qv 4) (qv 2)) (af (ax 3 bF.nd (lC (K:=K) rfl (qv 3) (cG (aa (qx (qx (qv 0) ag) (qv 4)) ad))))) (af (ax 3 bF.nd (lC (K:=K) rfl (qv 3) (cG (aa (bt ul mI (qx (qx (qv 1) ag) (qv 4)) ag) ad))))))))
   (af (aB (cG (aa (bt bi mIC (bt bY mI (qx (qv 1) ag) ag) (jc B.len (qx (qv 0) ag))) (aa (qf 3) ad))))))),λss R h=>?_⟩)
 obtain⟨s,o,l,r,d,rfl,_⟩:=h;rfl;obtain⟨s,o,l,r,d,rfl,h1,h2,h3,q⟩:=h;walk_at "dx";refine⟨Jb _,?_⟩;walk_at "dx";rw[IF];refine⟨by omega,by omega,iW (IvX s o l r d) (.mk _) (λE hN=>?_) ?_⟩
 ·rintro i env hi ⟨cv⟩;rw[az,Jv] at hi;rw[bC];walk_at "dx";have hz:(li (kQ s l r i)).length+1<=sizeLine:=by
   rw[IF,kL];exact IQ (by omega) ae
  have hv:=λcv=>IvX.mk (s:=s) (o:=o) (l:=l) (r:=r) (d:=d) (i:=i+1) cv;rw[vK] at hv;refine kP (λa=>?_) (λa=>?_);rw[if_pos a] at hv;exact⟨_,dE hi,IQ (by decide) ae,hz,(hN _).nx _ (by rw[dR];exact hv _)⟩;rw[if_neg a] at hv;exact⟨_,dE (by omega),_,rfl,IQ (by decide) ae,hz,(hN _).nx _ (by rw[dR];exact hv _)⟩
 ·rintro env ⟨cv⟩;rw[az,Jv];walk_at "dx";rw[IF];exact⟨by omega,IQ (by decide) ae,q⟩
abbrev gb:Stmt:=top 8
theorem nP:ak ["town", "standing"] ["town", "standing"] (ac gb):=⟨rfl,rfl,rfl,by decide +kernel,rfl,by decide +kernel,by decide +kernel⟩
inductive ig:DSp
 | mk {ss R} (s o l:List Int) (d:Nat):ss=[.fr (.tuple [.list (li s),.list (li o)]),.fr (.tuple [.int d,.tuple (li l)])]->d<o.length->R (.fr (.int (o.getD d 0))) [.un,.un]->ig ss R
theorem oB{f:ap}{fd:kN}(F:Fun K "hands_on" "hands_on" gb f fd)(B:Bn mg):a9 P w K mg base CX0 1 f fd ["town", "standing"] (spD K ig):=by refine okD (k:=0) F nP (λss R h=>?_) (by decide) (λcdv A outer s H E a=>⟨_,(af (aB (qx (qx (qv 0) ag) (qx (qv 1) ag)))),λss R h=>?_⟩);obtain⟨s,o,l,d,rfl,_⟩:=h;rfl;obtain⟨s,o,l,d,rfl,hd,q⟩:=h;walk_at "dd";exact⟨_,dE hd,q⟩
abbrev gT:Stmt:=top 11
theorem iu:ak ["town", "standing", "row", "spans", "lefts"] ["town", "standing", "row"] (ac gT):=⟨rfl,rfl,rfl,by decide +kernel,rfl,by decide +kernel,by decide +kernel⟩
inductive fF:DSp
 | mk {ss R} (s o l r:List Int) (d:Nat):ss=[.fr (.tuple [.list (li s),.list (li o)]),.fr (.tuple [.int d,.tuple (li l)]),.fr (.list (li r))]->1<=o.length->l.length=s.length->s.length<=1000->R (.fr (.tuple [.int (((d+1) % o.length:Nat):Int),.tuple (li (kQ s l r s.length))])) [.un,.un,.un]->fF ss R
theorem uy{f:ap}{fd:kN}(F:Fun K "behind" "behind" gT f fd)(B:Bn mg):a9 P w K mg base CX0 1 f fd ["town", "standing", "row"] (spD K fF):=by
 refine okD (k:=0) F iu (λss R h=>?_) (by decide) (λcdv A outer s H E b=>⟨_,(ai (ax 3 iu.nd (qx (qv 0) ag))
   (ai (bw 4 iu.nd (NN:=_::_) (sc0:=ac gT) (N':=["clock", "left", "row", "spans"]) (ix:=[none,none,some 2,some 3]) (j0 true (K:=K) rfl rfl B.enumerate (aa (qx (qv 1) ag) ad)) (λ_ _ _ _=>(iE (K:=K) (n:=2) rfl rfl (bf (am 0 (show List.Nodup (["clock", "left", "row", "spans"]:List bx) by decide +kernel)) (bf (am 1 (show List.Nodup (["clock", "left", "row", "spans"]:List bx) by decide +kernel)) eZ)))) (λ_ _ _ _=>(gg (ay (kIn (K:=K) rfl) mIn (qv 0) (qv 2)) (qx (qv 3) (qv 0)) (bt ul mI (qv 1) ag))))
   (af (aB (cG (aa (bt bi mIC (bt bY mI (qx (qv 1) ag) ag) (jc B.len (qx (qv 0) ag))) (aa (tO (K:=K) rfl rfl B.tuple (aa (qv 4) ad)) ad))))))),λss R h=>?_⟩)
 obtain⟨s,o,l,r,d,rfl,_⟩:=h;rfl;obtain⟨s,o,l,r,d,rfl,ho,hl,hs,q⟩:=h;walk_at "dx";refine bA (λi=>.int (if (i:Int)∈r then s.getD i 0 else l.getD i 0 - 1)) (by rw[a8,IF];omega) (λi hi Q a=>?_) ?_
 ·rw[a8,IF] at hi;rw[dW,bK];walk_at "dx";refine kP (λh=>?_) (λh=>?_);rw[if_pos h] at a;exact⟨_,dE (by omega),a⟩;rw[if_neg h] at a;exact a
 have e:(List.range (kA (li l)).length).map (λi:Nat=>PyData.int (if (i:Int)∈r then s.getD i 0 else l.getD i 0 - 1))=li (kQ s l r s.length):=by rw[a8,IF,hl];show _=List.map _ (List.map _ _);rw[Jq];rfl
 rw[e];walk_at "dx";rw[IF];exact⟨by omega,IQ (by decide) ae,q⟩
abbrev nU:Stmt:=top 7
theorem wz:ak ["town"] ["town"] (ac nU):=⟨rfl,rfl,rfl,by decide +kernel,rfl,by decide +kernel,by decide +kernel⟩
inductive ii:DSp
 | mk {ss R} (s o:List Int):ss=[.fr (.tuple [.list (li s),.list (li o)])]->R (.fr (.tuple [.int 0,.tuple (li s)])) [.un]->ii ss R
theorem w9{f:ap}{fd:kN}(F:Fun K "begun" "begun" nU f fd)(B:Bn mg):a9 P w K mg base CX0 1 f fd ["town"] (spD K ii):=by refine okD (k:=0) F wz (λss R h=>?_) (by decide) (λcdv A outer s H E a=>⟨_,(af (aB (cG (aa ag (aa (tO (K:=K) rfl rfl B.tuple (aa (qx (qv 0) ag) ad)) ad))))),λss R h=>?_⟩);obtain⟨s,o,rfl,_⟩:=h;rfl;obtain⟨s,o,rfl,q⟩:=h;walk_at "dd";exact⟨IQ (by decide) ae,q⟩
theorem hU{s l r:List Int}{n c:Nat}(h:c<n):(kQ s l r n).getD c 0=if (c:Int)∈r then s.getD c 0 else l.getD c 0 - 1:=by unfold kQ;simp[IP,h]
theorem jO:∀(n:Nat) (r:List Int),r.Pairwise (·<·)->(∀x∈r,0<=x/\x<n)->r∈b7 n
 | 0,r,_,h=>by
  cases r with
  | nil=>simp[b7]
  | cons x l=>have:=h x (by simp);omega
 | n + 1,r,d,h=>by
  show r∈b7 n++(b7 n).map (·++[(n:Int)]);by_cases hn:(n:Int)∈r;refine IE _ ?_;rcases List.eq_nil_or_concat r with rfl|⟨l,x,rfl⟩
  cases hn;rw[List.concat_eq_append] at *;obtain⟨f,_,p3⟩:=Km.mp d;have hx:=h x (by simp);have c:x=(n:Int):=by rcases II.mp hn with z|z;have:=p3 _ z x (by simp);omega;exact(IG.mp z).symm
  refine IZ.mpr ⟨l,jO n l f λy e=>?_,by rw[c]⟩;have a:=h y (by simp[e]);have b:=p3 y e x (by simp);omega;refine IJ _ (jO n r d λx hx=>?_);have a:=h x hx;have b:x≠(n:Int):=λz=>hn (z▸hx);omega
abbrev fH:Stmt:=top 9
theorem bM:ak ["town", "standing", "most", "rows", "clock", "left", "with_it"] ["town", "standing"] (ac fH):=⟨rfl,rfl,rfl,by decide +kernel,rfl,by decide +kernel,by decide +kernel⟩
def chs(h:Int)(l:List Int):Nat->List (List Int)
 | 0=>[[]]
 | k+1=>if l.getD k 0=1 then ((chs h l k).filter λr=>decide ((r.length:Int)<h)).map (·++[(k:Int)]) else chs h l k++((chs h l k).filter λr=>decide ((r.length:Int)<h)).map (·++[(k:Int)])
theorem iX(l:List Int)(k:Nat):cW l (k+1)=cW l k++(if l.getD k 0=1 then [(k:Int)] else []):=by
 unfold cW;rw[J6,JY,Jm]
 congr 1
 by_cases h:l.getD k 0=1;rw[if_pos h,JG (by simpa using h)];rfl;rw[if_neg h,J1 (by simpa using h)];rfl
theorem BH{l:List Int}{k:Nat}{x:Int}(h:x∈cW l k):0<=x/\x<k:=by unfold cW at h;obtain⟨i,hi,rfl⟩:=IZ.mp h;have:=Jz.mp (Ji.mp hi).1;omega
theorem iZ(h:Int)(e:0<=h)(l:List Int):∀k,chs h l k=eB k h l
 | 0 => by
  show[[]]=List.filter _ [[]];rw[JG];rfl;show bQ h (cW l 0) []=true;unfold bQ cW;simp[e]
 | k + 1=>by
  have f:=iZ h e l k;have e1:((b7 k).map (·++[(k:Int)])).filter (bQ h (cW l (k+1)))=((eB k h l).filter λr=>decide ((r.length:Int)<h)).map (·++[(k:Int)]):=by
   unfold eB;rw[List.filter_map,List.filter_filter]
   congr 1
   refine List.filter_congr λr b=>?_;have a:=bj k r b;show bQ h (cW l (k+1)) (r++[(k:Int)])=_;unfold bQ;rw[iX];have e2:(List.filter (λc=>decide (c ∉ r++[(k:Int)])) (cW l k++if l.getD k 0=1 then [(k:Int)] else []))=List.filter (λc=>decide (c ∉ r)) (cW l k):=by
    rw[JY];have e3:List.filter (λc=>decide (c ∉ r++[(k:Int)])) (if l.getD k 0=1 then [(k:Int)] else [])=[]:=by split <;> simp
    rw[e3,Jh];refine List.filter_congr λc hc=>?_;have:=BH hc;have d:c≠(k:Int):=by omega
    simp[d]
   rw[e2];have g:decide (((r++[(k:Int)]).length:Int)<=h)=(decide ((r.length:Int)<h)&&decide ((r.length:Int)<=h)):=by
    rw[Jg,JD];by_cases c:(r.length:Int)<h;have c2:(r.length:Int)<=h:=by omega
    have c3:((r.length+1:Nat):Int)<=h:=by omega
    rw[decide_eq_true c,decide_eq_true c2,decide_eq_true c3];rfl;have c3:¬((r.length+1:Nat):Int)<=h:=by omega
    rw[decide_eq_false c,decide_eq_false c3];rfl
   rw[g,Bool.and_assoc]
  have e2:(b7 k).filter (bQ h (cW l (k+1)))=if l.getD k 0=1 then [] else eB k h l:=by
   split;rename_i h1;refine List.filter_eq_nil_iff.mpr λr b=>?_;have a:=bj k r b;unfold bQ;rw[iX,if_pos h1,JY];have hn:(k:Int) ∉ r:=λz=>by have:=a.2.2 _ z;omega
   simp[hn];rename_i h1;unfold eB;rw[iX,if_neg h1,Jh]
  show(if l.getD k 0=1 then _ else _)=List.filter _ (b7 k++(b7 k).map (·++[(k:Int)]));rw[JY,e1,e2,f];split;rw[Kt];rfl
def GY:ab->Int
 | .list es=>es.length
 | _=>0
inductive fE:DSp
 | mk {ss R} (s o l:List Int) (d:Nat):ss=[.fr (.tuple [.list (li s),.list (li o)]),.fr (.tuple [.int d,.tuple (li l)])]->s.length<=6->0<=o.getD d 0->(s.length<=4\/o.getD d 0<=3)->StB s o d l->(∀cs:List (List Int),cs.Perm (eB s.length (o.getD d 0) l)->(cs.Pairwise λa b=>a.length<=b.length)->R (.ow (lr cs)) [.un,.un])->fE ss R
theorem rO{f:ap}{fd:kN}(F:Fun K "choices" "choices" fH f fd)(B:Bn mg)(L:sx K base "choices" fd)(e:Cal P w K mg base "hands_on" 1 (spD K ig)):a9 P w K mg base CX0 6 f fd ["town", "standing"] (spD K fE):=by
 refine FU (k:=5) F bM (λss R h=>?_) (by decide) (λcdv v A outer s H E t=>⟨_,(ai (ax 2 bM.nd (ao e (aa (qf 0) (aa (qf 1) ad))))
   (ai (ax 3 bM.nd (cP (aa (cP ad) ad)))
   (ai (gh PassesOwn.never rfl (j0 true (K:=K) rfl rfl B.enumerate (aa (qx (qv 1) ag) ad)) (iE (K:=K) (n:=2) rfl rfl (bf (am 4 bM.nd) (bf (am 5 bM.nd) eZ))) (ai (bw 6 bM.nd (NN:=_::_) (sc0:=ac fH) (N':=["row", "most", "clock"]) (ix:=[none,some 2,some 4]) (aA (qf 3)) (λ_ _ _ _=>(am 0 (show List.Nodup (["row", "most", "clock"]:List bx) by decide +kernel))) (λ_ _ _ _=>(rC (gm (K:=K) rfl) Cf (qv 0) (cP (aa (qf 2) ad)))) (ht:=(λ_ _ _ _=>(iC (ay ur mB (jc B.len (qv 0)) (qv 1))))))
   (af (ax 3 bM.nd (gg (ay rJ DJ (qv 5) ag) (qf 6) (rC (gm (K:=K) rfl) Cf (qv 3) (qv 6)))))))
   (af (aB (CZ qg (p := "row") (K:=K) rfl (let ⟨c,T,a,b,d⟩:=L;⟨c,T,v.trans a,b,d⟩) (t.mono (by decide)) rfl B.sorted (aa (qv 3) ad) ⟨rfl,rfl,rfl,by decide,rfl,λx hx=>by rw[IG.mp hx];exact .inl rfl,by decide⟩ (λ_ _ _ _ _=>rfl) rfl rfl (λ_ _ _ _ _=>(cG (aa (jc B.len (qv 0)) (aa (qf 0) ad)))))))))),λss R h=>?_⟩)
 obtain⟨s,o,l,d,rfl,_⟩:=h;rfl;obtain⟨s,o,l,d,rfl,C,u,D,G,q⟩:=h;obtain⟨s1,s2⟩:=G;walk_at "dx";refine⟨s,o,l,d,rfl,s1,?_⟩;walk_at "dx";refine⟨Jb _,IQ (by decide) ae,?_⟩;walk_at "dx";refine qw (λi env=>∃(rv a b c:Sl),env=[.fr (.tuple [.list (li s),.list (li o)]),.fr (.tuple [.int d,.tuple (li l)]),.fr (.int (o.getD d 0)),rv,a,b,c]/\(rv=.ow (lr (chs (o.getD d 0) l i))\/rv=.fr (.list (lr (chs (o.getD d 0) l i))))) ⟨_,_,_,_,rfl,.inl rfl⟩ ?_ ?_
 ·rintro i env hi ⟨rv,a,b,c,rfl,g⟩;rw[dW,bK];rw[a8,IF] at hi;have hz:(chs (o.getD d 0) l i).length<=64:=by
   rw[iZ _ u];refine IQ (Jy _ _) ?_;rw[fB];exact JQ (by decide) (show i<=6 by omega)
  have m:∀r∈chs (o.getD d 0) l i,r.length<=6:=λr t=>by
   rw[iZ _ u] at t;have:=(bj i r (Ji.mp t).1).1;omega
  have I:chs (o.getD d 0) l (i+1)=if l.getD i 0=1 then ((chs (o.getD d 0) l i).filter λr=>decide ((r.length:Int)<o.getD d 0)).map (·++[(i:Int)]) else chs (o.getD d 0) l i++((chs (o.getD d 0) l i).filter λr=>decide ((r.length:Int)<o.getD d 0)).map (·++[(i:Int)]):=rfl
  rw[I];generalize chs (o.getD d 0) l i=cs at *;generalize o.getD d 0=hd at *;rcases g with rfl|rfl
  all_goals
   walk_at "dx";refine dX (λj=>decide (((cs.getD j []).length:Int)<hd)) (λj=>.list (li (cs.getD j []++[(i:Int)]))) (by rw[IF];omega) (λj hj Q N h1 h2=>?_) ?_
   ·rw[IF] at hj;rw[gJ];have O:=m _ (bZ (l:=cs) hj);walk_at "dx";rw[IF];refine kP (λh=>?_) (λh=>h2 (by simpa using h));rw[dR];exact⟨IQ (by decide) ae,IQ (by omega) ae,h1 (by simpa using h)⟩
   rw[IF,dw cs [] (λr=>decide ((r.length:Int)<hd)) (λr=>PyData.list (li (r++[(i:Int)])))];walk_at "dx";refine kP (λh1=>?_) (λh1=>?_);rw[if_pos h1];exact .inr (by simp);rw[if_neg h1];have S:=Jy (λr:List Int=>decide ((r.length:Int)<hd)) cs;refine⟨?_,.inl (by simp)⟩;rw[IF,IF];exact IQ (by omega) ae
 ·rintro env ⟨rv,a,b,c,rfl,g⟩;rw[a8,IF,s2] at g;have hz:(chs (o.getD d 0) l s.length).length<64:=by
   rw[iZ _ u];exact iV C D
  rcases g with rfl|rfl
  all_goals
   walk_at "dx";refine⟨by rw[IF];exact hz,GY,λx hx=>?_,λes y J=>?_⟩
   ·obtain⟨r,_,rfl⟩:=IZ.mp hx;unfold Bc D2;walk_at "dd";exact⟨IQ (by decide) ae,⟨_,r,rfl⟩,rfl⟩
   obtain⟨cs,M,rfl⟩:=cA y _ rfl;exact q cs (by rw[<-iZ _ u];exact M) ((Kk.mp J).imp λz=>by simpa[GY] using z)
section
variable {κ β:Type}[DecidableEq κ]
theorem xK(a b:List (κ×β))(k:κ):cu (a++b) k=match cu a k with|some v=>some v|none=>cu b k:=by
 induction a with
 | nil=>rfl
 | cons p a c =>
  rw[List.cons_append,bz,bz,c];by_cases h:p.1=k <;> simp[h]
theorem xI(kvs:List (κ×β))(k:κ)(v:β)(x:κ):cu (kvs.map λp=>if p.1=k then (p.1,v) else p) x=if x=k then (cu kvs x).map λ_=>v else cu kvs x:=by
 induction kvs with
 | nil=>simp[cu]
 | cons p kvs a =>
  rw[IU,bz,bz,a];by_cases h1:p.1=k;by_cases h2:x=k;simp[h1,h2];have:¬k=x:=λz=>h2 z.symm;simp[h1,h2,this];by_cases h2:p.1=x;subst h2;simp[h1];simp[h1,h2]
theorem bH(kvs:List (κ×β))(k:κ)(v:β)(x:κ):cu (kO kvs k v) x=if x=k then some v else cu kvs x:=by
 unfold kO;cases e:cu kvs k with
 | some w =>
  rw[if_pos (show(some w).isSome=true from rfl),xI];by_cases h:x=k;subst h;simp[e];simp[h]
 | none =>
  rw[if_neg (by simp),xK,bz,xJ];by_cases h:x=k;subst h;simp[e];have:¬k=x:=λz=>h z.symm;simp only[this,h,if_false];cases cu kvs x <;> rfl
end
theorem fO{α:Type} [DecidableEq α]:∀{l U:List α},l.Nodup->(∀x∈l,x∈U)->l.length<=U.length
 | [],_,_,_=>Jb _
 | x::l,U,hn,h=>by
  obtain⟨h1,h2⟩:=Jr.mp hn;have hx:=h x (by simp);have:=fO (l:=l) (U:=U.erase x) h2 λy a=>(List.mem_erase_of_ne (λ(z:y=x)=>h1 (by rw[<-z];exact a))).mpr (h y (by simp[a]));rw[List.length_erase_of_mem hx] at this;have b:0<U.length:=List.length_pos_of_mem hx;simp;omega
theorem kj{n:Nat}{h:Int}{l r:List Int}:r∈eB n h l↔r∈b7 n/\(r.length:Int)<=h/\∀c,c<n->l.getD c 0=1->(c:Int)∈r:=by
 unfold eB bQ;rw[Ji,Jw,decide_eq_true_eq,decide_eq_true_eq];have a:(List.filter (λc=>decide (c ∉ r)) (cW l n))=[]↔∀c,c<n->l.getD c 0=1->(c:Int)∈r:=by
  rw[List.filter_eq_nil_iff];constructor;intro h c hc e;have:=h (c:Int) (by
   unfold cW;exact IZ.mpr ⟨c,Ji.mpr ⟨Jz.mpr hc,decide_eq_true e⟩,rfl⟩)
  simpa using this;intro h x hx;unfold cW at hx;obtain⟨c,hc,rfl⟩:=IZ.mp hx;obtain⟨h1,h2⟩:=Ji.mp hc;have:=h c (Jz.mp h1) (of_decide_eq_true h2);simpa using this
 rw[a]
abbrev Std:=Nat×List Int
def cL(s o:List Int)(x:Std)(r:List Int):Std:=((x.1+1) % o.length,kQ s x.2 r s.length)
def eI(s o:List Int)(x:Std)(fr:List (List Int)):Prop:=(∀r∈fr,r∈eB s.length (o.getD x.1 0) x.2)/\(∀r∈eB s.length (o.getD x.1 0) x.2,∃r'∈fr,∀c∈r,c∈r') /\
 (∀r∈fr,∀r'∈eB s.length (o.getD x.1 0) x.2,r'.length<=r.length)/\∀r∈eB s.length (o.getD x.1 0) x.2,(∀r'∈eB s.length (o.getD x.1 0) x.2,r'.length<=r.length)->r∈fr
theorem eI.same{s o:List Int}{x:Std}{fr a:List (List Int)}(h:eI s o x fr)(h':eI s o x a){r:List Int}(b:r∈fr):r∈a:=h'.2.2.2 r (h.1 r b) (h.2.2.1 r b)
def IsS(s o:List Int)(x:Std):Prop:=x.1<o.length/\x.2.length=s.length/\∀c,c<s.length->1<=x.2.getD c 0/\x.2.getD c 0<=s.getD c 0
theorem lX{s o:List Int}(hs:∀x∈s,1<=x){x:Std}{r:List Int}(h:IsS s o x)(a:r∈eB s.length (o.getD x.1 0) x.2):IsS s o (cL s o x r):=by obtain⟨h1,h2,h3⟩:=h;refine⟨Nat.mod_lt _ (by omega),kL _ _ _ _,λc hc=>?_⟩;have b:=(kj.mp a).2.2;show 1<=(kQ s x.2 r s.length).getD c 0/\(kQ s x.2 r s.length).getD c 0<=_;rw[hU hc];have d:=h3 c hc;have f:=hs _ (aE hc);split;omega;rename_i hn;by_cases e:x.2.getD c 0=1;exact absurd (b c hc e) hn;omega
def yk:List Int->List (List Int)
 | []=>[[]]
 | x::s=>((List.range x.toNat).map λ(i:Nat)=>(yk s).map λl=>((i:Int)+1)::l).flatten
theorem qc:∀{s l:List Int},l.length=s.length->(∀c,c<s.length->1<=l.getD c 0/\l.getD c 0<=s.getD c 0)->l∈yk s
 | [],l,h,_=>by
  rw[List.length_eq_zero_iff.mp h];simp[yk]
 | x::s,[],h,_=>by simp at h
 | x::s,y::l,h,a=>by
  have b:=a 0 (by simp);have e:1<=y/\y<=x:=by simpa using b
  have d:=qc (s:=s) (l:=l) (by simpa using h) λc hc=>by simpa using a (c+1) (by simpa using hc)
  unfold yk;refine List.mem_flatten.mpr ⟨_,IZ.mpr ⟨(y - 1).toNat,Jz.mpr (by omega),rfl⟩,IZ.mpr ⟨l,d,?_⟩⟩;rw[show(((y - 1).toNat:Nat):Int)+1=y by omega]
def lE:List Int->Nat
 | []=>1
 | x::s=>x.toNat*lE s
theorem q5:∀s:List Int,(yk s).length=lE s
 | []=>rfl
 | x :: s=>by
  unfold yk lE;rw[List.length_flatten,Jq];have:(List.length ∘ λ(i:Nat)=>(yk s).map λl=>((i:Int)+1)::l)=λ_=>lE s:=by funext i;simp[q5 s]
  rw[this,List.map_const',List.sum_replicate_nat,Jl]
def qZ(s o:List Int):List Std:=((List.range o.length).map λd=>(yk s).map λl=>(d,l)).flatten
theorem km{s o:List Int}{x:Std}(h:IsS s o x):x∈qZ s o :=
 List.mem_flatten.mpr ⟨_,IZ.mpr ⟨x.1,Jz.mpr h.1,rfl⟩,IZ.mpr ⟨x.2,qc h.2.1 h.2.2,rfl⟩⟩
theorem yj(s o:List Int):(qZ s o).length=o.length*lE s:=by
 unfold qZ;rw[List.length_flatten,Jq];have:(List.length ∘ λd=>(yk s).map λl=>((d,l):Std))=λ_=>lE s:=by funext i;simp[q5 s]
 rw[this,List.map_const',List.sum_replicate_nat,Jl]
def noB(s o:List Int)(x y:Std):Prop:=IsS s o y/\x.1=y.1/\x.2.length=s.length/\∀c,c<s.length->y.2.getD c 0<=x.2.getD c 0
def goS(s o:List Int)(y z:Std):Prop:=∃r∈eB s.length (o.getD y.1 0) y.2,z=cL s o y r
theorem xP{s o l l' r:List Int}{d:Nat}(b:∀c,c<s.length->1<=l.getD c 0/\l.getD c 0<=l'.getD c 0)(a:r∈eB s.length (o.getD d 0) l):r∈eB s.length (o.getD d 0) l':=by rw[kj] at a ⊢;refine⟨a.1,a.2.1,λc hc e=>a.2.2 c hc ?_⟩;have:=b c hc;omega
theorem xT{s o:List Int}(hs:∀x∈s,1<=x){x y z:Std}{fr:List (List Int)}(i:eI s o x fr)(hl:noB s o x y)(hg:goS s o y z):∃r∈fr,noB s o (cL s o x r) z:=by
 obtain⟨e,e1,l1,h⟩:=hl;obtain⟨d,a,rfl⟩:=hg;have f:d∈eB s.length (o.getD x.1 0) x.2:=by rw[e1];exact xP (λc hc=>⟨(e.2.2 c hc).1,h c hc⟩) a
 obtain⟨r,j,b⟩:=i.2.1 d f;refine⟨r,j,lX hs e a,?_,kL _ _ _ _,λc hc=>?_⟩;show(x.1+1) % o.length=(y.1+1) % o.length;rw[e1];show(kQ s y.2 d s.length).getD c 0<=(kQ s x.2 r s.length).getD c 0;rw[hU hc,hU hc];have h1:=h c hc;have h2:=(e.2.2 c hc).2;by_cases g:(c:Int)∈d;rw[if_pos g,if_pos (b _ g)];exact Jo _;rw[if_neg g];split <;> omega
def y4(c:Int)(r:List Int):List Int:=r.filter (λx=>decide (x<c))++c::r.filter (λx=>decide (c<x))
theorem ki{c x:Int}{r:List Int}:x∈y4 c r↔x=c\/x∈r:=by unfold y4;rw[II,IR,Ji,Ji,decide_eq_true_eq,decide_eq_true_eq];constructor;rintro(h|h|h);exact .inr h.1;exact .inl h;exact .inr h.1;rintro(h|h);exact .inr (.inl h);by_cases h1:x<c;exact .inl ⟨h,h1⟩;by_cases h2:x=c;exact .inr (.inl h2);exact .inr (.inr ⟨h,by omega⟩)
theorem qq{c:Int}{r:List Int}(h:c ∉ r):(y4 c r).length=r.length+1:=by
 unfold y4;rw[Jg,Jf];have : ∀r:List Int,c ∉ r->(r.filter λx=>decide (x<c)).length+(r.filter λx=>decide (c<x)).length=r.length:=λr=>by
  induction r with
  | nil=>exactλ_=>rfl
  | cons x r a =>
   intro h;have h1:c≠x:=λz=>h (by simp[z]);have:=a λz=>h (IM _ z);by_cases h2:x<c;have h3:¬c<x:=by omega
   rw[JG (by simpa using h2),J1 (by simpa using h3),Jf,Jf];omega;have h3:c<x:=by omega
   rw[J1 (by simpa using h2),JG (by simpa using h3),Jf,Jf];omega
 have:=this r h;omega
theorem rX{c:Int}{r:List Int}(h:r.Pairwise (·<·)):(y4 c r).Pairwise (·<·):=by
 unfold y4;refine Km.mpr ⟨h.filter _,List.pairwise_cons.mpr ⟨λx hx=>?_,h.filter _⟩,λx hx y a=>?_⟩;simpa using(Ji.mp hx).2;have h1:x<c:=by simpa using(Ji.mp hx).2
 rcases IR.mp a with a|a;rw[a];exact h1;have h2:c<y:=by simpa using(Ji.mp a).2
 omega
theorem Bv{s o l r:List Int}{d:Nat}{c:Int}(a:r∈eB s.length (o.getD d 0) l)(hc:0<=c/\c<s.length)(hn:c ∉ r)(h:(r.length:Int)+1<=o.getD d 0):y4 c r∈eB s.length (o.getD d 0) l:=by rw[kj] at a ⊢;obtain⟨h1,h3,b⟩:=a;obtain⟨_,f,g⟩:=bj _ _ h1;refine⟨jO _ _ (rX f) λx hx=>?_,?_,λk hk e=>ki.mpr (.inr (b k hk e))⟩;rcases ki.mp hx with rfl|hx;exact hc;exact g x hx;rw[qq hn];omega
theorem nW{r:List Int}(h:r.Pairwise (·<·)):r.Nodup:=h.imp λ{a b} (z:a<b) (e:a=b)=>by omega
theorem qu{s o l:List Int}{d:Nat}{a:List Int}(h1:a∈eB s.length (o.getD d 0) l):∀n (r:List Int),r∈eB s.length (o.getD d 0) l->r.length+n=a.length->∃r'∈eB s.length (o.getD d 0) l,r'.length=a.length/\∀x∈r,x∈r'
 | 0,r,f,e=>⟨r,f,by omega,λx hx=>hx⟩
 | n + 1,r,f,e=>by
  obtain⟨_,g,h⟩:=bj _ _ (Ji.mp h1).1;have i:(a.length:Int)<=o.getD d 0:=by have:=(Ji.mp h1).2;unfold bQ at this;rw[Jw,decide_eq_true_eq] at this;exact this.1
  have : ∃c∈a,c ∉ r:=by
   by_cases hc:∃c∈a,c ∉ r;exact hc;have:=fO (nW g) (U:=r) λx hx=>by
    by_cases b:x∈r;exact b;exact absurd ⟨x,hx,b⟩ hc
   omega
  obtain⟨c,c1,c2⟩:=this;obtain⟨r',a1,a2,a3⟩:=qu h1 n (y4 c r) (Bv f (h c c1) c2 (by omega)) (by rw[qq c2];omega);exact⟨r',a1,a2,λx hx=>a3 x (ki.mpr (.inr hx))⟩
theorem Bu{s o:List Int}{x:Std}{fr:List (List Int)}{e:List Int}(h1:e∈eB s.length (o.getD x.1 0) x.2)(c:∀r∈eB s.length (o.getD x.1 0) x.2,r.length<=e.length)
  (f:∀r,r∈fr↔r∈eB s.length (o.getD x.1 0) x.2/\r.length=e.length):eI s o x fr:=by refine⟨λr d=>((f r).mp d).1,λr d=>?_,λr d r' g=>?_,λr d h=>(f r).mpr ⟨d,Nat.le_antisymm (c r d) (h e h1)⟩⟩;obtain⟨r',a1,a2,a3⟩:=qu h1 (e.length - r.length) r d (by have:=c r d;omega);exact⟨r',(f r').mpr ⟨a1,a2⟩,a3⟩;have a:=((f r).mp d).2;have b:=c r' g;omega
theorem xO{s o:List Int}{x:Std}(h:eB s.length (o.getD x.1 0) x.2=[]):eI s o x []:=by
 refine⟨λr a=>(by cases a),λr a=>?_,λr a=>(by cases a),λr a=>?_⟩
 all_goals
  rw[h] at a;cases a
structure fV(s o:List Int)(P:List (Std×Int)):Prop where
 bg : ∃e∈P,e.1=((0,s):Std)
 is : ∀e∈P,IsS s o e.1/\0<=e.2/\e.2<100000
 down:∀e∈P,∃fr,eI s o e.1 fr/\∀r∈fr,∃e'∈P,e'.1=cL s o e.1 r/\e'.2<e.2
theorem fV.step{s o:List Int}{P:List (Std×Int)}(h:fV s o P)(hs:∀x∈s,1<=x){e:Std×Int}{y z:Std}(a:e∈P)(hn:noB s o e.1 y)(hg:goS s o y z):∃e'∈P,noB s o e'.1 z/\e'.2<e.2:=by obtain⟨fr,b,c⟩:=h.down e a;obtain⟨r,d,hz⟩:=xT hs b hn hg;obtain⟨e',m,f,g⟩:=c r d;exact⟨e',m,by rw[f];exact hz,g⟩
theorem vH(a:List (List Int))(x:List Int):atI (lr (a++[x])) (-1)=some (.list (li x)):=by show atI (List.map _ (a++[x])) (-1)=_;rw[Jm];exact cX _ _
abbrev dq:Stmt:=top 13
theorem cJ:ak ["town", "standing", "lefts", "rows", "full"] ["town", "standing"] (ac dq):=⟨rfl,rfl,rfl,by decide +kernel,rfl,by decide +kernel,by decide +kernel⟩
inductive pF:DSp
 | mk {ss R} (s o l:List Int) (d:Nat):ss=[.fr (.tuple [.list (li s),.list (li o)]),.fr (.tuple [.int d,.tuple (li l)])]->s.length<=6->0<=o.getD d 0->(s.length<=4\/o.getD d 0<=3)->StB s o d l->(∀fr:List (List Int),eI s o (d,l) fr->fr.length<64->R (.ow (lr fr)) [.un,.un])->pF ss R
theorem lT{f:ap}{fd:kN}(F:Fun K "full_rows" "full_rows" dq f fd)(B:Bn mg)(L:sx K base "full_rows" fd)(e:Cal P w K mg base "choices" 6 (spD K fE)):a9 P w K mg base CX0 7 f fd ["town", "standing"] (spD K pF):=by
 refine FU (k:=6) F cJ (λss R h=>?_) (by decide) (λcdv v A outer s H E g=>⟨_,(bc (ax 2 cJ.nd (qx (qv 1) ag))
   (bc (ax 3 cJ.nd (ao e (aa (qf 0) (aa (qf 1) ad))))
   (bc (bw 4 cJ.nd (NN:=_::_) (sc0:=ac dq) (N':=["row", "rows"]) (ix:=[none,some 3]) (aA (qf 3)) (λ_ _ _ _=>(am 0 (show List.Nodup (["row", "rows"]:List bx) by decide +kernel))) (λ_ _ _ _=>(qf 0)) (ht:=(λ_ _ _ _=>(iC (ay rJ DJ (jc B.len (qv 0)) (jc B.len (qx (qv 1) (ET kW EW ag))))))))
   (af (aB (FN 2 xx (p := "row") (x := "lefts") (K:=K) rfl (let ⟨c,T,a,b,d⟩:=L;⟨c,T,v.trans a,b,d⟩) (g.mono (by decide)) rfl B.sorted (aa (qv 4) ad) ⟨rfl,rfl,rfl,rfl,rfl,by decide,by decide,by decide⟩ rfl (Or.inr cc) cc (λz=>nomatch (show(some NameKind.cell:Option NameKind)=some .local from z)) (λ_ _ _ _ _ _=>rfl) (λc hc=>by cases hc;rfl) rfl (λ_ _ _ _ _ _ y=>(CY qh (K:=K) rfl (jw y) rfl B.sorted (aa (Ar (N':=["clock", "lefts"]) (ix:=[none,some 1]) rfl (GI (by decide +kernel)) (aA (qf 0)) (λ_ _ _ _=>(am 0 (show List.Nodup (["clock", "lefts"]:List bx) by decide +kernel))) (λ_ _ _ _=>iD) (λ_ _ _ _=>(qx (qv 1) (qv 0)))) ad))))))))),λss R h=>?_⟩)
 obtain⟨s,o,l,d,rfl,_⟩:=h;rfl;obtain⟨s,o,l,d,rfl,J,S,M,N,q⟩:=h;obtain⟨s1,s2⟩:=id N;walk_at "dd";refine⟨s,o,l,d,rfl,J,S,M,N,λcs n C=>?_⟩;walk_at "dd";have t:cs.length<64:=by rw[n.length_eq];exact iV J M
 have D:∀r∈cs,r.length<=6/\∀x∈r,0<=x/\x<s.length:=λr g=>by
  have:=bj _ r (Ji.mp (n.mem_iff.mp g)).1;exact⟨by omega,this.2.2⟩
 obtain⟨m,U,hF⟩:∃m:Nat,(∀j,j<cs.length->∃z:List Int,atI (lr cs) (-1)=some (.list (li z))/\z.length=m)/\∀fr:List (List Int),fr.Perm (cs.filter λr=>decide (r.length=m))->eI s o (d,l) fr:=by
  rcases List.eq_nil_or_concat cs with rfl|⟨X,r,rfl⟩
  exact⟨0,λj hj=>absurd hj (Nat.not_lt_zero _),λfr h=>by rw[show fr=[] from List.Perm.eq_nil h];exact xO (show eB s.length (o.getD d 0) l=[] from List.Perm.eq_nil n.symm)⟩;rw[List.concat_eq_append] at *;have C:=(Km.mp C).2.2;refine⟨r.length,λj hj=>⟨r,vH _ _,rfl⟩,λfr h=>Bu (x:=(d,l)) (n.mem_iff.mp (IE _ IL)) (λr' g=>?_) λr'=>?_⟩;rcases II.mp (n.mem_iff.mpr g) with h|h;exact C _ h _ IL;rw[IG.mp h];exact IS _;rw[h.mem_iff,Ji,n.mem_iff,decide_eq_true_eq]
 refine dX (λj=>decide ((cs.getD j []).length=m)) (λj=>.list (li (cs.getD j []))) (by rw[IF];omega) (λj hj Q Y h1 h2=>?_) ?_
 ·rw[IF] at hj;rw[gJ];obtain⟨z,z1,z2⟩:=U j hj;walk_at "dd";refine⟨_,z1,_,rfl,?_⟩;rw[IF,IF];exact kP (λh=>h1 (decide_eq_true (by omega))) (λh=>h2 (decide_eq_false (by omega)))
 rw[IF,dw cs [] (λr=>decide (r.length=m)) (λr=>PyData.list (li r))];walk_at "dd";have O:(cs.filter λr=>decide (r.length=m)).length<64:=Kw (Jy _ _) t;refine⟨by rw[IF];exact O,λx hx=>?_,λes G=>?_⟩
 ·obtain⟨r,g,rfl⟩:=IZ.mp hx;obtain⟨Z,I⟩:=D r (Ji.mp g).1;unfold Bc D2;walk_at "dd";refine bA (λi=>.int (l.getD (r.getD i 0).toNat 0)) (by rw[IF];omega) (λi hi Q V=>?_) ?_
  ·rw[IF] at hi;rw[bK];have h9:=I _ (aE hi);walk_at "dd";rw[show r.getD i 0=((r.getD i 0).toNat:Int) by omega];exact⟨_,dE (by omega),V⟩
  ·walk_at "dx";refine⟨λd hd=>?_,by simp;omega,λes W=>?_⟩;obtain⟨i,_,rfl⟩:=IZ.mp hd;exact⟨_,rfl⟩;obtain⟨ns,_,rfl⟩:=cA (f:=PyData.int) W ((List.range (li r).length).map λi=>l.getD (r.getD i 0).toNat 0) (by rw[Jq];rfl);exact⟨⟨ns,rfl⟩,rfl⟩
 obtain⟨fr,u,rfl⟩:=cA G _ rfl;exact q fr (hF fr u) (by rw[u.length_eq];exact O)
abbrev stS(x:Std):ab:=dD ((x.1:Int),x.2)
def kOf(x:Std):aL:=((x.1:Int),x.2)
theorem gr{x y:Std}(h:kOf x=kOf y):x=y:=by obtain⟨a,b⟩:=x;obtain⟨c,d⟩:=y;unfold kOf at h;simp only[Prod.mk.injEq] at h ⊢;exact⟨by omega,h.2⟩
theorem z7{κ β:Type} [DecidableEq κ]{kvs:List (κ×β)}{k:κ}{v:β}(h:(cu kvs k).isSome=true):(kO kvs k v).length=kvs.length:=by unfold kO;rw[if_pos h,IF]
theorem xE(W:List (List (List Int))):(List.range (List.map wD W).length).map (λi:Nat=>PyData.list (li ((W.getD i []).getD 0 [])))=lr (W.map λw=>w.getD 0 []):=by show _=List.map _ (List.map _ _);rw[IF,Jq];refine JJ (by simp) λi h1 h2=>?_;rw[IF] at h2;simp[IP,h2]
theorem vx(ns:List (List Int))(a b:Option Int):kE (lr ns) a b=lr ((ns.drop (HT.sIx ns.length 0 a)).take (HT.sIx ns.length ns.length b - HT.sIx ns.length 0 a)):=by unfold kE;show(List.drop _ (List.map (λr=>PyData.list (li r)) ns)).take _=List.map _ _;rw[IF,List.map_take,List.map_drop]
theorem vv(ns:List (List Int))(c:Nat):kE (lr ns) none (some (c:Int))=lr (ns.take c):=by rw[vx,HT.sIx_none,HT.sIx_nat,List.drop_zero,Nat.sub_zero];by_cases h:c<=ns.length;rw[Kv h];rw[Nat.min_eq_right (by omega),JK (IS _),JK (by omega)]
theorem vy(ns:List (List Int))(c:Nat):kE (lr ns) (some (c:Int)) none=lr (ns.drop c):=by rw[vx,HT.sIx_none,HT.sIx_nat];by_cases h:c<=ns.length;rw[Kv h,JK (by simp)];rw[Nat.min_eq_right (by omega),Ki (IS _),Ki (by omega)];simp
abbrev Cj(s o:List Int)(x:Std)(r:List Int):Prop:=r∈eB s.length (o.getD x.1 0) x.2
inductive Wy (s o:List Int) (x:Std):List (List Int)->Std->Prop
 | nil:Wy s o x [] x
 | snoc {A y r}:Wy s o x A y->Cj s o y r->Wy s o x (A++[r]) (cL s o y r)
inductive Chn (s o:List Int) (x0:Std):List (Std×List (List Int))->Prop
 | nil:Chn s o x0 []
 | one {w:List (List Int)}:Chn s o x0 [(x0,w)]
 | go {x:Std}{r:List Int}{w u:List (List Int)}{Z:List (Std×List (List Int))}:Chn s o x0 ((x,r::w)::Z)->Cj s o x r->Chn s o x0 ((cL s o x r,u)::(x,r::w)::Z)
section
variable {s o:List Int}{x y z x0:Std}{r:List Int}{A B w:List (List Int)}{T D Z:List (Std×List (List Int))}
def goW(s o:List Int)(x:Std)(A:List (List Int)):Std:=A.foldl (cL s o) x
theorem xG:goW s o x (A++[r])=cL s o (goW s o x A) r:=by unfold goW;rw[List.foldl_append];rfl
theorem Wy.eq(h:Wy s o x A y):goW s o x A=y:=by
 induction h with
 | nil=>rfl
 | snoc h b a=>rw[xG,a]
theorem Wy.at(h:Wy s o x A y):∀i (hi:i<A.length),Cj s o (goW s o x (A.take i)) A[i]:=by
 induction h with
 | nil=>intro i hi;cases hi
 | @snoc A y r h a b =>
  intro i hi;by_cases e:i<A.length;rw[Kj (JW e),List.getElem_append_left e];exact b i e;have e:i=A.length:=by simp at hi;omega
  subst e;simpa[h.eq] using a
theorem Wy.is(hs:∀x∈s,1<=x)(h:Wy s o x A y)(hx:IsS s o x):IsS s o y:=by
 induction h with
 | nil=>exact hx
 | snoc h a b=>exact lX hs b a
theorem Wy.rows(h:Wy s o x A y):∀r∈A,∃h l,r∈eB s.length h l:=λr a=>by
 obtain⟨i,hi,rfl⟩:=J2 a;exact⟨_,_,h.at i hi⟩
def ind(c:Nat)(r:List Int):Int:=if (c:Int)∈r then 1 else 0
def wnd(A:List (List Int))(c:Nat):Int:=(A.map (ind c)).sum
theorem wg{α:Type}(l:List α)(f g:α->Int):(l.map λx=>f x+g x).sum=(l.map f).sum+(l.map g).sum:=by
 induction l with
 | nil=>rfl
 | cons x l a =>
  rw[IU,IU,IU,JB,JB,JB,a];omega
theorem jN{α:Type}(l:List α)(f:α->Int)(a:Int):(l.map λx=>a*f x).sum=a*(l.map f).sum:=by
 induction l with
 | nil=>simp
 | cons x l b=>rw[IU,IU,JB,JB,b,Int.mul_add]
theorem zS{α:Type}{l:List α}{f g:α->Int}(h:∀x∈l,f x<=g x):(l.map f).sum<=(l.map g).sum:=by
 induction l with
 | nil=>exact Jo _
 | cons x l a =>
  rw[IU,IU,JB,JB];have:=h x (by simp);have:=a λy b=>h y (by simp[b]);omega
theorem Bl{n:Nat}:∀r∈b7 n,((List.range n).map λc=>ind c r).sum=r.length:=by
 induction n with
 | zero=>intro r a;simp[b7] at a;subst a;rfl
 | succ n b =>
  intro r a;rw[J6,Jm,Ku];have a:r∈b7 n++(b7 n).map (·++[(n:Int)]):=a;rcases II.mp a with h|h;have hn:ind n r=0:=if_neg λz=>by have:=(bj n r h).2.2 _ z;omega
  rw[b r h,show List.map (λc=>ind c r) [n]=[ind n r] from rfl,hn];simp;obtain⟨q,d,rfl⟩:=IZ.mp h;have hn:ind n (q++[(n:Int)])=1:=if_pos (by simp);have e:(List.range n).map (λc=>ind c (q++[(n:Int)]))=(List.range n).map λc=>ind c q:=Kp λc hc=>by
   have hc:=Jz.mp hc;unfold ind;have:((c:Int)∈q++[(n:Int)])↔(c:Int)∈q:=by rw[II,IG];exact⟨λz=>z.elim id λz=>by omega,.inl⟩
   simp only[this]
  rw[e,b q d,show List.map (λc=>ind c (q++[(n:Int)])) [n]=[ind n (q++[(n:Int)])] from rfl,hn];simp
theorem wd(o:List Int){d:Nat}(h:d<o.length):(o.take (d+1)).sum=(o.take d).sum+o.getD d 0:=by rw[JT,IK h,Ku,IP,IK h];simp
theorem pf(c:Nat):wnd (A++[r]) c=wnd A c+ind c r:=by unfold wnd;rw[Jm,Ku];simp
theorem Wy.clk(hs:∀x∈s,1<=x)(h:Wy s o x A y)(hx:IsS s o x){c:Nat}(hc:c<s.length):y.2.getD c 0+A.length<=x.2.getD c 0+wnd A c*s.getD c 0:=by
 induction h with
 | nil=>simp[wnd]
 | @snoc A y r h b d =>
  have e:=(h.is hs hx).2.2 c hc;show(kQ s y.2 r s.length).getD c 0+_<=_;rw[hU hc,pf,Int.add_mul,Jg,JD];unfold ind;by_cases a:(c:Int)∈r;rw[if_pos a,if_pos a,Int.one_mul];omega;rw[if_neg a,if_neg a,Int.zero_mul];omega
theorem Wy.days(hs:∀x∈s,1<=x)(h:Wy s o x A y)(hx:IsS s o x):∃k:Nat,A.length+x.1=y.1+k*o.length/\((List.range s.length).map (wnd A)).sum<=(o.take y.1).sum - (o.take x.1).sum+k*o.sum:=by
 induction h with
 | nil =>
  refine⟨0,by simp,?_⟩;have:((List.range s.length).map (wnd [])).sum=0:=by have:=jN (List.range s.length) (wnd []) 0;rw[Int.zero_mul] at this;exact(congrArg List.sum (Kp λc _=>(Int.zero_mul _).symm)).trans this
  rw[this];omega
 | @snoc A y r h b d =>
  obtain⟨k,e1,e2⟩:=d;have e:=(h.is hs hx).1;have a:=kj.mp b;have e3:((List.range s.length).map (wnd (A++[r]))).sum=((List.range s.length).map (wnd A)).sum+r.length:=by rw[<-Bl _ a.1,<-wg];exact congrArg List.sum (Kp λc _=>pf c)
  have st:=wd o e;have hl:=a.2.1;rw[e3,Jg,JD];show ∃k,_=(y.1+1) % o.length+k*o.length/\_<=(o.take ((y.1+1) % o.length)).sum - _+_;by_cases hw:y.1+1<o.length;rw[Nat.mod_eq_of_lt hw];exact⟨k,by omega,by omega⟩;have hw:y.1+1=o.length:=by omega
  rw[hw,JI] at st;rw[hw,Nat.mod_self,List.take_zero];refine⟨k+1,by rw[Nat.add_mul];omega,?_⟩;rw[show(((k+1:Nat):Int))*o.sum=k*o.sum+o.sum by push_cast;rw[Int.add_mul];omega];simp only[List.sum_nil];omega
structure Rg(s o:List Int)(A B:List (List Int)):Prop where
 ex : ∃y,Wy s o (0,s) A y/\Wy s o y B y
 ne : 1<=B.length
theorem is0(hs:∀x∈s,1<=x)(ho:1<=o.length):IsS s o (0,s):=⟨ho,rfl,λc hc=>⟨hs _ (aE hc),Jo _⟩⟩
theorem Rg.mod(hs:∀x∈s,1<=x)(ho:1<=o.length)(h:Rg s o A B):B.length % o.length=0:=by obtain⟨y,h1,h2⟩:=h.ex;obtain⟨k,e,_⟩:=h2.days hs (h1.is hs (is0 hs ho));rw[show B.length=k*o.length by omega];exact Nat.mul_mod_left _ _
theorem Rg.share(hs:∀x∈s,1<=x)(ho:1<=o.length)(h:Rg s o A B){d:Int}(u:1<=d)(hds:∀x∈s,x∣d)(b:(o.length:Int)∣d):(s.map (d / ·)).sum<=d / o.length*o.sum:=by
 obtain⟨⟨y,h1,h⟩,hL⟩:=h;have m:=h1.is hs (is0 hs ho);obtain⟨k,D,E⟩:=h.days hs m;have f:(B.length:Int)=k*o.length:=by
  rw[show B.length=k*o.length by omega]
  push_cast
  rfl
 have F:0<k:=by rcases Nat.eq_zero_or_pos k with z|z;subst z;omega;exact z
 have v:((List.range s.length).map (wnd B)).sum<=k*o.sum:=by omega
 obtain⟨q,n⟩:=b;have g:d / (o.length:Int)=q:=by rw[n];exact Int.mul_ediv_cancel_left _ (by omega)
 rw[g];have e:s.map (d / ·)=(List.range s.length).map λc=>d / s.getD c 0:=by
  apply JJ;simp;intro i h1 h2;have:i<s.length:=by simpa using h1
  simp[IP,this]
 have a:((List.range s.length).map λc=>(B.length:Int)*(d / s.getD c 0)).sum<=((List.range s.length).map λc=>d*wnd B c).sum:=zS λc hc=>by
  have hc:=Jz.mp hc;have r:=aE hc;have h1:=hs _ r;obtain⟨p,t⟩:=hds _ r;have j:d / s.getD c 0=p:=by rw[t];exact Int.mul_ediv_cancel_left _ (by omega)
  have l:0<=p:=by rcases Int.lt_or_le p 0 with z|z;have:=Int.mul_neg_of_pos_of_neg (show 0<s.getD c 0 by omega) z;omega;exact z
  rw[j];have h3:=Int.mul_le_mul_of_nonneg_right (show(B.length:Int)<=wnd B c*s.getD c 0 by have:=h.clk hs m hc;omega) l;refine JF h3 (Int.le_of_eq ?_);rw[t,Int.mul_assoc,Int.mul_comm]
 rw[jN,jN,<-e,f] at a;have w:d*((List.range s.length).map (wnd B)).sum<=d*(k*o.sum):=Int.mul_le_mul_of_nonneg_left v (by omega);have C:(k:Int)*o.length*(s.map (d / ·)).sum<=k*o.length*(q*o.sum):=by refine JF a (JF w (Int.le_of_eq ?_));rw[n];simp only[Int.mul_assoc,Int.mul_left_comm]
 exact Int.le_of_mul_le_mul_left C (Int.mul_pos (by omega) (by omega))
theorem fV.wy{P:List (Std×Int)}(hs:∀x∈s,1<=x)(h:fV s o P)(hw:Wy s o x A y){e:Std×Int}(a:e∈P)(hn:noB s o e.1 x):∃e'∈P,noB s o e'.1 y/\e'.2+A.length<=e.2:=by
 induction hw with
 | nil=>exact⟨e,a,hn,by simp⟩
 | snoc hw b c =>
  obtain⟨e1,m1,d,l1⟩:=c;obtain⟨e2,m2,f,l2⟩:=h.step hs m1 d ⟨_,b,rfl⟩;exact⟨e2,m2,f,by simp;omega⟩
theorem fV.ring{P:List (Std×Int)}(hs:∀x∈s,1<=x)(ho:1<=o.length)(h:fV s o P)(b:Rg s o A B):False:=by
 obtain⟨⟨y,h1,h2⟩,h3⟩:=b;obtain⟨e,a,c⟩:=h.bg;have d:=is0 hs ho;obtain⟨e,a,hn,_⟩:=h.wy hs h1 a (by rw[c];exact⟨d,rfl,rfl,λ_ _=>Jo _⟩);have:∀(n:Nat) e,e∈P->noB s o e.1 y->e.2<n->False:=λn=>by
  induction n with
  | zero=>intro e a _ l;have:=(h.is e a).2.1;omega
  | succ n f =>
   intro e a hn l;obtain⟨e',m,g,l'⟩:=h.wy hs h2 a hn;exact f e' m g (by omega)
 exact this 100000 e a hn (h.is e a).2.2
abbrev hdW(p:Std×List (List Int)):List Int:=p.2.getD 0 []
theorem Chn.lose{p:Std×List (List Int)}(h:Chn s o x0 (p::Z)):Chn s o x0 Z:=by
 cases h with
 | one=>exact .nil
 | go h _=>exact h
theorem Chn.skip{w w':List (List Int)}(h:Chn s o x0 ((x,w)::Z)):Chn s o x0 ((x,w')::Z):=by
 cases h with
 | one=>exact .one
 | go h h2=>exact .go h h2
theorem Chn.heads(h:Chn s o x0 Z):∀p∈Z.tail,∃q t,p.2=q::t:=by
 induction h with
 | go h c b =>
  intro p a;rcases IR.mp a with rfl|a;exact⟨_,_,rfl⟩;exact b p a
 | _=>exactλp a=>nomatch a
theorem Chn.way(h:Chn s o x0 Z):∀p T,Z=p::T->Wy s o x0 (T.map hdW).reverse p.1:=by
 induction h with
 | nil=>intro p T e;cases e
 | one=>intro p T e;cases e;exact .nil
 | go h a b =>
  intro p T e;cases e;rw[IU,J0];exact(b _ _ rfl).snoc a
theorem Chn.cut:∀T,Chn s o x0 (T++(y,w)::D)->Chn s o y (T++[(y,w)])
 | [],_=>.one
 | [p],h=>by
  cases h with
  | go h a=>exact .go .one a
 | p::q::T,h=>by
  cases h with
  | go h a=>exact .go (Chn.cut (_::T) h) a
theorem Chn.drop:∀T,Chn s o x0 (T++D)->Chn s o x0 D
 | [],h=>h
 | _::T,h=>Chn.drop T h.lose
theorem sV{k:Nat}(h:(Z.map (·.1)).reverse[k]? = some y):∃T w D,Z=T++(y,w)::D/\D.length=k:=by
 rw[<-List.map_reverse,Jt] at h;obtain⟨p,a,rfl⟩:=Option.map_eq_some_iff.mp h;obtain⟨hk,e⟩:=IN.mp a;refine⟨(Z.reverse.drop (k+1)).reverse,p.2,(Z.reverse.take k).reverse,?_,by simp at hk ⊢;omega⟩;have this:Z=(Z.reverse.take k++p::Z.reverse.drop (k+1)).reverse:=by rw[<-e,<-Kq hk,List.take_append_drop,List.reverse_reverse]
 rw[List.reverse_append,J0,JE] at this;exact this
theorem Chn.ring{k:Nat}(h:Chn s o (0,s) ((x,r::w)::Z))(b:Cj s o x r)(hk:(((x,r::w)::Z).map (·.1)).reverse[k]? = some (cL s o x r)):Rg s o ((((x,r::w)::Z).map hdW).reverse.take k) ((((x,r::w)::Z).map hdW).reverse.drop k):=by
 obtain⟨T,u,D,e,rfl⟩:=sV hk;obtain⟨a,e'⟩:∃a,T++[(cL s o x r,u)]=(x,r::w)::a:=by
  cases T with
  | nil=>exact⟨[],by rw[(List.cons.inj e).1];rfl⟩
  | cons p T=>exact⟨_,by rw[(List.cons.inj e).1];rfl⟩
 rw[e] at h;have h2:=h.cut;rw[e'] at h2;have h2:=(h2.way _ _ rfl).snoc b;have e2:(((x,r::w)::Z).map hdW).reverse=(D.map hdW).reverse++((a.map hdW).reverse++[r]):=by rw[e,show T++(cL s o x r,u)::D=(T++[(cL s o x r,u)])++D by simp,e'];simp
 rw[e2,List.take_left' (by simp),List.drop_left' (by simp)];exact⟨⟨_,(h.drop T).way _ _ rfl,h2⟩,by simp⟩
end
structure Lk(s o:List Int)(Z:List (Std×List (List Int)))(lost:List Std)(kvs:List (aL×ab)):Prop where
 ch : Chn s o (0,s) Z
 is : ∀p∈Z,IsS s o p.1/\p.2.length<64
 ful:∀p∈Z,∃fr pre,eI s o p.1 fr/\fr=pre++p.2/\∀r∈pre,cL s o p.1 r∈lost
 isl:∀x∈lost,IsS s o x
 bg : ((0,s):Std)∈Z.map (·.1)++lost
 nd : (Z.map (·.1)++lost).Nodup
 kl : kvs.length<=Z.length+lost.length
 val:∀y d,cu kvs (kOf y)=some d->(d=.none/\y∈lost)\/∃i:Nat,d=.int i/\(Z.map (·.1)).reverse[i]? = some y
 key:∀y∈Z.map (·.1)++lost,(cu kvs (kOf y)).isSome=true
 down:∀(j:Nat) x,lost[j]? = some x->∃fr,eI s o x fr/\∀r∈fr,cL s o x r∈lost.take j
structure Lst(s o:List Int)(lost:List Std):Prop where
 bg : ((0,s):Std)∈lost
 is : ∀x∈lost,IsS s o x
 nd : lost.Nodup
 few:lost.length<=(qZ s o).length
 down:∀(j:Nat) x,lost[j]? = some x->∃fr,eI s o x fr/\∀r∈fr,cL s o x r∈lost.take j
section
variable {s o:List Int}{x:Std}{r:List Int}{w fr:List (List Int)}{Z:List (Std×List (List Int))}{lost:List Std}{kvs:List (aL×ab)}
theorem Lk.few(h:Lk s o Z lost kvs):Z.length+lost.length<=(qZ s o).length:=by
 have:=fO h.nd (U:=qZ s o) λx hx=>by
  rcases II.mp hx with hx|hx;obtain⟨p,a,rfl⟩:=IZ.mp hx;exact km (h.is p a).1;exact km (h.isl x hx)
 simpa using this
theorem Lk.lst(h:Lk s o [] lost kvs):Lst s o lost:=⟨h.bg,h.isl,h.nd,by have:=h.few;simpa using this,h.down⟩
theorem Lk.fit(h:Lk s o ((x,r::w)::Z) lost kvs):Cj s o x r:=by obtain⟨fr,pre,h1,h2,_⟩:=h.ful _ IL;exact h1.1 r (by rw[h2];simp)
theorem Lk.init(b:IsS s o (0,s))(c:eI s o (0,s) fr)(hl:fr.length<64):Lk s o [((0,s),fr)] [] [(kOf (0,s),.int 0)]:=by refine⟨.one,λp a=>?_,λp a=>?_,λx hx=>(nomatch hx),IL,by simp,IS _,λy d e=>?_,λy f=>?_,λj x e=>by simp at e⟩;rw[IG.mp a];exact⟨b,hl⟩;rw[IG.mp a];exact⟨fr,[],c,rfl,λr g=>(nomatch g)⟩;rw[bz] at e;split at e;rename_i z;rw[<-gr z];cases e;exact .inr ⟨0,rfl,rfl⟩;cases e;rw[IG.mp f,bz,if_pos rfl];rfl
theorem Lk.skip(h:Lk s o ((x,r::w)::Z) lost kvs)(hx:cL s o x r∈lost):Lk s o ((x,w)::Z) lost kvs:=by refine⟨h.ch.skip,λp a=>?_,λp a=>?_,h.isl,h.bg,h.nd,h.kl,h.val,h.key,h.down⟩;rcases IR.mp a with rfl|a;have:=h.is _ IL;exact⟨this.1,by have:=this.2;simp at this ⊢;omega⟩;exact h.is p (IM _ a);rcases IR.mp a with rfl|a;obtain⟨fr,pre,h1,h2,h3⟩:=h.ful _ IL;refine⟨fr,pre++[r],h1,by rw[h2];simp,λq b=>?_⟩;rcases II.mp b with b|b;exact h3 q b;rw[IG.mp b];exact hx;exact h.ful p (IM _ a)
theorem Lk.lose(h:Lk s o ((x,[])::Z) lost kvs):Lk s o Z (lost++[x]) (kO kvs (kOf x) .none):=by
 have pm:(Z.map (·.1)++(lost++[x])).Perm (((x,[])::Z).map (·.1)++lost):=by rw[<-JE];exact List.perm_append_singleton ..
 refine⟨h.ch.lose,λp f=>h.is p (IM _ f),λp f=>?_,λy c=>?_,pm.mem_iff.mpr h.bg,pm.nodup_iff.mpr h.nd,?_,λy d e=>?_,λy c=>?_,λj y e=>?_⟩;obtain⟨fr,pre,h1,h2,h3⟩:=h.ful p (IM _ f);exact⟨fr,pre,h1,h2,λr k=>IJ _ (h3 r k)⟩;rcases II.mp c with c|c;exact h.isl y c;rw[IG.mp c];exact(h.is _ IL).1;have:=h.kl;rw[z7 (h.key x IL)];simp at this ⊢;omega;rw[bH] at e;split at e;rename_i z;cases e;exact .inl ⟨rfl,by rw[gr z];simp⟩;rename_i z;refine(h.val y d e).imp (λ⟨a,b⟩=>⟨a,IJ _ b⟩) λg=>?_;obtain⟨i,a,b⟩:=g;refine⟨i,a,?_⟩;rw[IU,J0] at b;by_cases hi:i<(Z.map (·.1)).reverse.length;rwa [JM hi] at b;rw[JV (by omega)] at b;exact absurd (by rw[IG.mp (J9 b)]) z;rw[bH];split;rfl;exact h.key y (pm.mem_iff.mp c);by_cases hj:j<lost.length;rw[JM hj] at e;rw[Kj (JW hj)];exact h.down j y e;rw[JV (by omega)] at e;have l:j=lost.length:=by have:=(IN.mp e).1;simp at this;omega
 rw[IG.mp (J9 e),l,List.take_left];obtain⟨fr,pre,h1,h2,h3⟩:=h.ful _ IL;rw[Jh] at h2;exact⟨fr,h1,h2▸h3⟩
theorem Lk.push(h:Lk s o ((x,r::w)::Z) lost kvs)(hs:∀x∈s,1<=x)(hn:(cu kvs (kOf (cL s o x r))).isSome=false)(g:eI s o (cL s o x r) fr)(hl:fr.length<64):Lk s o ((cL s o x r,fr)::(x,r::w)::Z) lost (kO kvs (kOf (cL s o x r)) (.int ((Z.length+1:Nat):Int))):=by
 have hx:=h.is _ IL;refine⟨.go h.ch h.fit,λp c=>?_,λp c=>?_,h.isl,IM _ h.bg,Jr.mpr ⟨λz=>?_,h.nd⟩,?_,λy d e=>?_,λy f=>?_,h.down⟩;rcases IR.mp c with rfl|c;exact⟨lX hs hx.1 h.fit,hl⟩;exact h.is p c;rcases IR.mp c with rfl|c;exact⟨fr,[],g,rfl,λr j=>(nomatch j)⟩;exact h.ful p c;have:=h.key _ z;rw[hn] at this;cases this;have:=h.kl;have:=jW kvs (kOf (cL s o x r)) (.int ((Z.length+1:Nat):Int));simp at *;omega;rw[bH] at e;rw[IU,J0];split at e;rename_i z;cases e;exact .inr ⟨_,rfl,by rw[gr z,JV (by simp)];simp⟩;exact(h.val y d e).imp id λ⟨i,a,b⟩=>⟨i,a,by rw[JM (IN.mp b).1];exact b⟩
 rw[bH];split;rfl;rename_i z;rcases IR.mp f with e|f;exact absurd (by rw[e]) z;exact h.key y f
end
def lkM(s o:List Int)(Z:List (Std×List (List Int)))(lost:List Std):Nat:=((qZ s o).length - (Z.length+lost.length))*66+(Z.map λp=>p.2.length+1).sum
inductive Hv (s o:List Int) (m:Nat):List Sl->Prop
 | mk (Z:List (Std×List (List Int))) (kvs:List (aL×ab)) (lost:List Std) (S1 S2:List ap) (a b:Sl) (ps ls:List ab) (ws:ab):ps=(Z.map (·.1)).reverse.map stS->ws=fu (Z.map (·.2)).reverse->ls=lost.map stS->Lk s o Z lost kvs->m=lkM s o Z lost ->
  Hv s o m [.fr (.tuple [.list (li s),.list (li o)]),.fr (stS (0,s)),.ow ps,.tr S1 ws,.tr S2 (eD kvs),.ow ls,a,b]
abbrev bB:Stmt:=top 14
theorem aF:ak ["town", "standing", "path", "ways", "places", "lost", "ahead", "rows"] ["town", "standing"] (ac bB):=⟨rfl,rfl,rfl,by decide +kernel,rfl,by decide +kernel,by decide +kernel⟩
def TbL(s o:List Int):Prop:=s.length<=6/\1<=o.length/\(∀x∈s,1<=x)/\(∀h∈o,0<=h)/\(s.length<=4\/∀h∈o,h<=3)/\(qZ s o).length<64
inductive pE:DSp
 | mk {ss R} (s o:List Int):ss=[.fr (.tuple [.list (li s),.list (li o)]),.fr (stS (0,s))]->TbL s o->(∀(A B:List (List Int)) (x:ab),Rg s o A B->A.length+B.length<64->R (.fr (.tuple [.tuple [.list (lr A),.list (lr B)],x])) [.un,.un])->(∀lost,Lst s o lost->R (.fr (.tuple [.none,.list (lost.map stS)])) [.un,.un])->pE ss R
theorem gn{f:ap}{fd:kN}(F:Fun K "looked_through" "looked_through" bB f fd)(B:Bn mg)(c:Cal P w K mg base "full_rows" 7 (spD K pF))(g:Cal P w K mg base "behind" 1 (spD K fF)):a9 P w K mg base CX0 9 f fd ["town", "standing"] (spD K pE):=by
 refine okD (k:=8) F aF (λss R h=>?_) (by decide) (λcdv A outer s H E G=>⟨_,(ai (ax 2 aF.nd (cP (aa (qf 1) ad)))
   (ai (ax 3 aF.nd (yH (aa (ao c (aa (qf 0) (aa (qf 1) ad))) ad)))
   (ai (ax 4 aF.nd (C5 (K:=K) rfl (hu2 G) (qf 1) ag))
   (ai (ax 5 aF.nd (cP ad))
   (ai (j4 PassesOwn.never (gU (K:=K) rfl (qv 2)) (ai (gF (gE (tM 3 (K:=K) rfl rfl)) (ai (eL (rE 5 (K:=K) rfl rfl (Al 2 (K:=K) rfl rfl)))
   (ai (pW 4 (K:=K) rfl (hu2 G) rfl (qx (qv 5) (ET kW EW ag)) fb)
   (ai (eL (C1 3 (K:=K) rfl rfl))
   (af rD)))) br)
   (ai (ax 6 aF.nd (ao g (aa (qf 0) (aa (qx (qv 2) (ET kW EW ag)) (aa (Ao 3 (K:=K) rfl rfl) ad)))))
   (af (gF (ay (oN (K:=K) rfl (hu2 G)) oJ (qv 6) (qv 4)) (ai (pW 4 (K:=K) rfl (hu2 G) rfl (qf 6) (jc B.len (qv 2)))
   (ai (eL (rE 2 (K:=K) rfl rfl (qf 6)))
   (af (eL (C7 3 (K:=K) rfl rfl (ao c (aa (qf 0) (aa (qf 6) ad)))))))) (af (gF (ay p8 EY (qxK (qv 4) (qv 6)) fb) (af (eL (Ak 3 (K:=K) rfl rfl))) (ai (bw 7 aF.nd (NN:=_::_) (sc0:=ac bB) (N':=["way"]) (ix:=[none]) (aA (qf 3)) (λ_ _ _ _=>(am 0 (show List.Nodup (["way"]:List bx) by decide +kernel))) (λ_ _ _ _=>(C4 (jF (K:=K) rfl) HP (qv 0) ag)))
   (af (aB (cG (aa (cG (aa (tP (K:=K) rfl (qv 7) eX (eW (qxK (qv 4) (qv 6)))) (aa (tP (K:=K) rfl (qv 7) (eW (qxK (qv 4) (qv 6))) eX) ad))) (aa (qf 5) ad)))))))))))))
   (af (aB (cG (aa fb (aa (qf 5) ad)))))))))),λss R h=>?_⟩)
 obtain⟨s,o,rfl,_⟩:=h;rfl;obtain⟨s,o,rfl,⟨M,N,L,T,U,t6⟩,V,W⟩:=h;have I:=is0 L N;have big:∀n:Nat,n<=100000->n<sizeLine:=λn h=>IY (by omega) ae;have J:∀d,d<o.length->0<=o.getD d 0/\(s.length<=4\/o.getD d 0<=3):=λd hd=>⟨T _ (aE hd),U.imp id λh=>h _ (aE hd)⟩
 walk_at "dx";refine⟨IQ (by decide) ae,?_⟩;walk_at "dx";refine⟨s,o,s,0,rfl,M,(J _ I.1).1,(J _ I.1).2,⟨I.1,rfl⟩,λfr l m=>?_⟩;refine⟨[wD fr],?_,IQ (by decide) ae,λS=>?_⟩;show(eG [] (Sl.ow (lr fr))).bind _=_;rw[pw];rfl;walk_at "dx";refine⟨kOf (0,s),rfl,rfl,λS1=>?_⟩;walk_at "dx";refine⟨Jb _,?_⟩;walk_at "dx";refine v7 (Hv s o) ⟨_,.mk [((0,s),fr)] [(kOf (0,s),.int 0)] [] S S1 _ _ _ _ _ rfl rfl rfl (.init I l m) rfl⟩ λE hM=>?_;rintro _ env ⟨Z,kvs,lost,S1,S2,a,b,_,_,_,rfl,rfl,rfl,hk,rfl⟩;have few:=hk.few;have kl:=hk.kl;walk_at "dx";cases Z with
 | nil =>
  rw[if_neg (by simp)];walk_at "dx";exact⟨IQ (by decide) ae,W _ hk.lst⟩
 | cons p Z =>
 obtain⟨x,w⟩:=p;have y:=(hk.is _ IL).1;simp only[IU,J0,Jf,Jm] at few kl ⊢;rw[if_pos (by simp)];cases w with
 | nil =>
  have h2:=hk.lose;refine⟨(Z.map (·.2)).reverse,[],rfl,?_⟩;rw[if_pos (show(!([]:List (List Int)).isEmpty)=false from rfl)];refine⟨stS x,by simp,big _ (by simp;omega),?_⟩;walk_at "dx";refine⟨⟨kvs,rfl⟩,stS x,cX _ _,kvs,rfl,kOf x,rfl,big _ (by omega),?_⟩;walk_at "dx";refine⟨(Z.map (·.2)).reverse,[],rfl,λS'=>?_⟩;walk_at "dx";refine⟨_,?_,.mk Z _ (lost++[x]) _ _ _ _ _ _ _ (by simp) rfl (by simp) h2 rfl⟩;unfold lkM;simp;omega
 | cons r w =>
  refine⟨(Z.map (·.2)).reverse,r::w,rfl,?_⟩;rw[if_neg (show ¬(!(r::w).isEmpty)=false from by simp)];have j:=lX L y hk.fit;walk_at "dx";refine⟨stS x,cX _ _,(Z.map (·.2)).reverse,r,w,rfl,s,o,x.2,r,x.1,rfl,N,y.2.1,by omega,?_⟩;walk_at "dx";refine⟨kOf (cL s o x r),rfl,rfl,kvs,rfl,kP (λh=>?_) (λh=>?_)⟩
  ·have h':(cu kvs (kOf (cL s o x r))).isSome=false:=by simpa using h
   refine⟨⟨kvs,rfl⟩,kvs,rfl,kOf (cL s o x r),rfl,rfl,big _ (by omega),?_⟩;walk_at "dx";refine⟨big _ (by simp;omega),?_⟩;walk_at "dx";refine⟨s,o,(cL s o x r).2,(cL s o x r).1,rfl,M,(J _ j.1).1,(J _ j.1).2,⟨j.1,j.2.1⟩,λfr l m=>?_⟩;have h2:=hk.push L h' l m;have C:=h2.few;walk_at "dx";refine⟨wD fr,pw (env:=[]) fr,big _ (by simp;omega),λS'=>(hM _).nx _ ⟨_,?_,.mk ((cL s o x r,fr)::(x,r::w)::Z) _ lost _ _ _ _ _ _ _ (by rw[IU,IU,J0,J0,Jm,Jm];rfl) (by simp[fu]) rfl (by simpa using h2) rfl⟩⟩;unfold lkM;simp at C ⊢;omega
  ·cases hv:cu kvs (kOf (cL s o x r)) with
   | none=>rw[hv] at h;exact absurd rfl h
   | some v =>
    refine⟨kvs,rfl,kOf (cL s o x r),rfl,rfl,v,hv,?_⟩;rcases hk.val _ _ hv with⟨rfl,hx⟩|⟨k,rfl,hx⟩
    rw[if_pos (show ng .none=true from rfl)];refine⟨(Z.map (·.2)).reverse,r,w,rfl,(hM _).nx _ ⟨_,?_,.mk ((x,w)::Z) kvs lost _ _ _ _ _ _ _ (by simp) (by simp) rfl (hk.skip hx) rfl⟩⟩;unfold lkM;simp
    ·rw[if_neg (show ¬ng (.int (k:Int))=true fromλz=>Bool.noConfusion z)];have X:=hk.ch.ring hk.fit hx;have hW:∀u∈(Z.map (·.2)).reverse++[r::w],∃q t,u=q::t:=λu D=>by
      rcases II.mp D with D|D;obtain⟨p,Y,rfl⟩:=IZ.mp (List.mem_reverse.mp D);exact hk.ch.heads p Y;exact⟨r,w,IG.mp D⟩
     refine bA (λi=>.list (li ((((Z.map (·.2)).reverse++[r::w]).getD i []).getD 0 []))) (by simp;omega) (λi hi Q O=>?_) ?_
     ·rw[IF] at hi;obtain⟨q,t,e⟩:=hW _ (Ju hi);rw[Jn,e];rw[show((Z.map (·.2)).reverse++[r::w]).getD i []=((Z.map (·.2)).reverse++[r::w])[i] by rw[IP,IK hi];rfl,e] at O;walk_at "dx";exact⟨_,rfl,O⟩
     rw[xE,show((Z.map (·.2)).reverse++[r::w]).map (λw=>w.getD 0 [])=(((x,r::w)::Z).map hdW).reverse by simp];walk_at "dx";refine⟨kvs,rfl,kOf (cL s o x r),rfl,rfl,_,hv,_,rfl,kvs,rfl,kOf (cL s o x r),rfl,rfl,_,hv,_,rfl,?_⟩;rw[vv,vy];refine⟨IQ (by decide) ae,IQ (by decide) ae,(hM _).rt _ _ ?_⟩
     walk_at "d2";exact V _ _ _ X (by simp;omega)
theorem Lst.pap{s o:List Int}{lost:List Std}(h:Lst s o lost)(hN:(qZ s o).length<64):fV s o (lost.zipIdx.map λp=>(p.1,(p.2:Int))):=by
 have few:=h.few;have a:∀{x:Std}{i:Nat},lost[i]? = some x->(x,(i:Int))∈lost.zipIdx.map λp=>(p.1,(p.2:Int)):=λe=>IZ.mpr ⟨(_,_),List.mem_zipIdx_iff_getElem?.mpr e,rfl⟩;refine⟨?_,λe b=>?_,λe b=>?_⟩;obtain⟨i,hi,e⟩:=J2 h.bg;exact⟨_,a (IN.mpr ⟨hi,e⟩),rfl⟩
 all_goals
  obtain⟨⟨x,i⟩,c,rfl⟩:=IZ.mp b;have hx:=List.mem_zipIdx_iff_getElem?.mp c;have hi:=(IN.mp hx).1;dsimp only at hx hi ⊢
 exact⟨h.is x (J9 hx),by omega,by omega⟩;obtain⟨fr,d,f⟩:=h.down i x hx;refine⟨fr,d,λr g=>?_⟩;obtain⟨k,hk,e⟩:=J2 (f r g);rw[List.getElem_take] at e;rw[JC] at hk;exact⟨_,a (IN.mpr ⟨by omega,e⟩),rfl,by show(k:Int)<i;omega⟩
abbrev iz:Stmt:=top 15
theorem rA:ak ["town"] ["town"] (ac iz):=⟨rfl,rfl,rfl,by decide +kernel,rfl,by decide +kernel,by decide +kernel⟩
inductive jQ:DSp
 | mk {ss R} (s o:List Int):ss=[.fr (.tuple [.list (li s),.list (li o)])]->TbL s o->(∀P,fV s o P->R (.fr .none) [.un])->(∀A B:List (List Int),Rg s o A B->A.length+B.length<64->R (.fr (.tuple [.list (lr A),.list (lr B)])) [.un])->jQ ss R
theorem rM{f:ap}{fd:kN}(F:Fun K "plan_of" "plan_of" iz f fd)(B:Bn mg)(a:Cal P w K mg base "looked_through" 9 (spD K pE))(b:Cal P w K mg base "begun" 1 (spD K ii)):a9 P w K mg base CX0 10 f fd ["town"] (spD K jQ):=by
 refine okD (k:=9) F rA (λss R h=>?_) (by decide) (λcdv A outer s H E d=>⟨_,(af (aB (qx (ao a (aa (qf 0) (aa (ao b (aa (qf 0) ad)) ad))) ag))),λss R h=>?_⟩);obtain⟨s,o,rfl,_⟩:=h;rfl;obtain⟨s,o,rfl,t,c,q⟩:=h;walk_at "dd";refine⟨s,o,rfl,?_⟩;walk_at "dd";refine⟨s,o,rfl,t,λA B x h1 h2=>?_,λlost hl=>?_⟩
 ·walk_at "dx";exact q A B h1 h2
 ·walk_at "dx";exact c _ (hl.pap t.2.2.2.2.2)
abbrev Ck(e:Std×Int):ab:=.tuple [.int (e.1.1:Int),.tuple (li e.1.2),.int e.2]
abbrev wW(P:List (Std×Int)):List ab:=P.map Ck
abbrev gV(kvs:List (aL×ab))(z:Std)(v:Int):Prop:=cu kvs (kOf z)=some (.int v)
def rkF(kvs:List (aL×ab))(z:Std):Int:=((cu kvs (kOf z)).bind Bk).getD 0
theorem gV.rk{kvs:List (aL×ab)}{z:Std}{v:Int}(h:gV kvs z v):rkF kvs z=v:=by unfold rkF;rw[h];rfl
structure Rk(s o:List Int)(lost:List Std)(kvs:List (aL×ab))(j:Nat):Prop where
 kl : kvs.length<=j
 only:∀y d,cu kvs (kOf y)=some d->y∈lost.take j
 val:∀x∈lost.take j,∃v,gV kvs x v/\0<=v/\v<j/\∃fr,eI s o x fr/\∀r∈fr,∃v',gV kvs (cL s o x r) v'/\v'<v
section
variable {s o:List Int}{lost:List Std}{kvs:List (aL×ab)}{x:Std}{fr:List (List Int)}{m:Int}{j:Nat}
theorem Rk.next(hk:Rk s o lost kvs j)(hl:Lst s o lost)(hj:lost[j]? = some x)(p:eI s o x fr)(hg:∀r∈fr,cL s o x r∈lost.take j)
  (w:vO ((List.range fr.length).map λi=>rkF kvs (cL s o x (fr.getD i []))+1) 0 m):Rk s o lost (kO kvs (kOf x) (.int m)) (j+1):=by
 obtain⟨A,D⟩:=IN.mp hj;have q:lost.take (j+1)=lost.take j++[x]:=by rw[JT,hj];rfl
 have nx:x ∉ lost.take j:=λz=>by
  have:=(IT.mp (q▸hl.nd.sublist (List.take_sublist _ _))).2.2 x z x IL;exact this rfl
 have k:∀y∈lost.take j,cu (kO kvs (kOf x) (.int m)) (kOf y)=cu kvs (kOf y):=λy h=>by
  rw[bH,if_neg λz:kOf y=kOf x=>nx (gr z▸h)]
 have rk:∀r∈fr,∃v,gV kvs (cL s o x r) v/\0<=v/\v<j:=λr f=>by
  obtain⟨v,a,b,c,_⟩:=hk.val _ (hg r f);exact⟨v,a,b,c⟩
 have mb:0<=m/\m<=j/\∀r∈fr,rkF kvs (cL s o x r)<m:=by
  rcases w with⟨h1,h2⟩|⟨h1,h2⟩
  have e:fr=[]:=by have:=congrArg List.length h1;simpa using this
  subst e;exact⟨by omega,by omega,λr f=>nomatch f⟩;obtain⟨i,hi,e⟩:=IZ.mp h1;have hi:=Jz.mp hi;obtain⟨v,a,b,c⟩:=rk _ (bZ (l:=fr) hi);rw[a.rk] at e;refine⟨by omega,by omega,λr f=>?_⟩;obtain⟨u,n,e'⟩:=J2 f;have:=h2 _ (IZ.mpr ⟨u,Jz.mpr n,rfl⟩);rw[show fr.getD u []=r by rw[IP,IK n,e'];rfl] at this;omega
 refine⟨IQ (jW _ _ _) (by have:=hk.kl;omega),λy d e=>?_,λy h=>?_⟩;rw[q];rw[bH] at e;split at e;rename_i z;rw[gr z];simp;exact IJ _ (hk.only y d e);rw[q] at h;rcases II.mp h with h|h;obtain⟨v,a,b,c,t,B,C⟩:=hk.val y h;refine⟨v,(k y h).trans a,b,by omega,t,B,λr f=>?_⟩;obtain⟨v',g,l⟩:=C r f;exact⟨v',(k _ (hk.only _ _ g)).trans g,l⟩;rw[IG.mp h];refine⟨m,by unfold gV;rw[bH,if_pos rfl],mb.1,by omega,fr,p,λr f=>?_⟩;obtain⟨v,a,_⟩:=rk r f;exact⟨v,(k _ (hg r f)).trans a,a.rk▸mb.2.2 r f⟩
theorem Rk.pap(hk:Rk s o lost kvs lost.length)(hl:Lst s o lost)(hN:(qZ s o).length<64):fV s o (lost.map λx=>(x,rkF kvs x)):=by
 have few:=hl.few;have:=hk.val;rw[JI] at this;refine⟨⟨_,Kn hl.bg,rfl⟩,λe d=>?_,λe d=>?_⟩
 all_goals
  obtain⟨x,hx,rfl⟩:=IZ.mp d;obtain⟨v,a,b,c,fr,f,h⟩:=this x hx;dsimp only;rw[a.rk]
 exact⟨hl.is x hx,b,by omega⟩;refine⟨fr,f,λr i=>?_⟩;obtain⟨v',g,l⟩:=h r i;have:=hk.only _ _ g;rw[JI] at this;exact⟨_,Kn this,rfl,by dsimp only;rw[g.rk];exact l⟩
end
inductive Hq (s o:List Int) (lost:List Std) (S:List ap) (j:Nat):List Sl->Prop
 | mk (kvs:List (aL×ab)) (a b:Sl):Rk s o lost kvs j->Hq s o lost S j [.fr (.tuple [.list (li s),.list (li o)]),.fr (.tuple [.none,.list (lost.map stS)]),.tr S (eD kvs),a,b]
abbrev cr:Stmt:=top 17
theorem cy:ak ["town", "found", "ranks", "standing", "ahead"] ["town"] (ac cr):=⟨rfl,rfl,rfl,by decide +kernel,rfl,by decide +kernel,by decide +kernel⟩
inductive nE:DSp
 | mk {ss R} (s o:List Int):ss=[.fr (.tuple [.list (li s),.list (li o)])]->TbL s o->(∀A B,Rg s o A B->R (.fr .none) [.un])->(∀P:List (Std×Int),fV s o P->P.length<64->R (.ow (wW P)) [.un])->nE ss R
theorem oA{f:ap}{fd:kN}(F:Fun K "paper_of" "paper_of" cr f fd)(B:Bn mg)(c:Cal P w K mg base "looked_through" 9 (spD K pE))(z:Cal P w K mg base "begun" 1 (spD K ii))(p:Cal P w K mg base "full_rows" 7 (spD K pF))(u:Cal P w K mg base "behind" 1 (spD K fF)):a9 P w K mg base CX0 10 f fd ["town"] (spD K nE):=by
 refine okD (k:=9) F cy (λss R h=>?_) (by decide) (λcdv A outer s H E G=>⟨_,(ai (ax 1 cy.nd (ao c (aa (qf 0) (aa (ao z (aa (qf 0) ad)) ad))))
   (ai (gF (ay gj rS (qx (qv 1) ag) fb) (af (aB fb)) br)
   (ai (ax 2 cy.nd yK)
   (ai (gh PassesOwn.never rfl (aA (qx (qv 1) ag)) (am 3 cy.nd) (ai (bw 4 cy.nd (NN:=_::_) (sc0:=ac cr) (N':=["row", "town", "standing"]) (ix:=[none,some 0,some 3]) (aA (ao p (aa (qf 0) (aa (qf 3) ad)))) (λ_ _ _ _=>(am 0 (show List.Nodup (["row", "town", "standing"]:List bx) by decide +kernel))) (λ_ _ _ _=>(ao u (aa (qf 1) (aa (qf 2) (aa (qf 0) ad))))))
   (yF 4 (af (pW 2 (K:=K) rfl (hu2 G) rfl (qf 3) (An 2 (C3 (K:=K) rfl rfl rfl B.max (aa (bX (NN:=_::_) (sc0:=ac cr) (N':=["other", "ranks"]) (ix:=[none,some 2]) (aA (qf 4)) (λ_ _ _ _=>(am 0 (show List.Nodup (["other", "ranks"]:List bx) by decide +kernel))) (λ_ _ _ _=>(bt bY mI (qxK (qv 1) (qv 0)) ag))) ad))))))))
   (tN 2 (af (aB (bX (NN:=_::_) (sc0:=ac cr) (N':=["standing", "ranks"]) (ix:=[none,some 2]) (aA (qx (qv 1) ag)) (λ_ _ _ _=>(am 0 (show List.Nodup (["standing", "ranks"]:List bx) by decide +kernel))) (λ_ _ _ _=>(cG (aa (qx (qv 0) ag) (aa (qx (qv 0) ag) (aa (qxK (qv 1) (qv 0)) ad))))))))))))),λss R h=>?_⟩)
 obtain⟨s,o,rfl,_⟩:=h;rfl;obtain⟨s,o,rfl,t,O,q⟩:=h;obtain⟨T,U,t3,V,W,X⟩:=id t;walk_at "dx";refine⟨s,o,rfl,?_⟩;walk_at "dx";refine⟨s,o,rfl,t,λA B x G _=>?_,λlost hl=>?_⟩
 ·walk_at "dx";exact O A B G
 have few:=hl.few;have L:∀d,d<o.length->0<=o.getD d 0/\(s.length<=4\/o.getD d 0<=3):=λd hd=>⟨V _ (aE hd),W.imp id λh=>h _ (aE hd)⟩
 have big:∀n:Nat,n<=100000->n<sizeLine:=λn h=>IY (by omega) ae;walk_at "dx";intro S;walk_at "dx";refine iW (Hq s o lost S) (.mk [] _ _ ⟨IS _,λy d e=>(nomatch e),λx hx=>by simp at hx⟩) (λE hN=>?_) ?_
 ·rintro j env hj ⟨kvs,a,b,hk⟩;rw[IF] at hj;rw[Jn];have M:=IK hj;have C:=hl.is _ (Ju hj);generalize lost[j]=x at *;obtain⟨Y,Z,f2⟩:=hl.down j _ M;walk_at "dx";refine⟨s,o,x.2,x.1,rfl,T,(L _ C.1).1,(L _ C.1).2,⟨C.1,C.2.1⟩,λfr I a4=>?_⟩;have hg:∀r∈fr,cL s o x r∈lost.take j:=λr G=>f2 r (I.same Z G);walk_at "dx";refine bA (λi=>stS (cL s o x (fr.getD i []))) (by rw[IF];omega) (λi hi Q D=>?_) ?_
  ·rw[gJ];walk_at "dx";refine⟨s,o,x.2,fr.getD i [],x.1,rfl,U,C.2.1,by omega,?_⟩;walk_at "dx";exact D
  rw[show(lr fr).length=fr.length from IF ..];walk_at "dx";refine bA (λi=>.int (rkF kvs (cL s o x (fr.getD i []))+1)) (by rw[IF,Jl];omega) (λi hi Q D=>?_) ?_
  ·rw[IF,Jl] at hi;rw[Jn,List.getElem_range];obtain⟨v,g,_⟩:=hk.val _ (hg _ (bZ (l:=fr) hi));rw[g.rk] at D;walk_at "dx";exact⟨kvs,rfl,kOf (cL s o x (fr.getD i [])),rfl,rfl,_,g,_,rfl,D⟩
  rw[IF,Jl,show(List.range fr.length).map (λi=>PyData.int (rkF kvs (cL s o x (fr.getD i []))+1))=li ((List.range fr.length).map λi=>rkF kvs (cL s o x (fr.getD i []))+1) by
   show _=List.map _ (List.map _ _);rw[Jq];rfl]
  walk_at "dx";intro m hm;exact⟨⟨kvs,rfl⟩,kvs,rfl,kOf x,rfl,rfl,big _ (by have:=hk.kl;omega),(hN _).nx _ (.mk _ _ _ (hk.next hl M I hg hm))⟩
 ·rintro env ⟨kvs,a,b,hk⟩;rw[IF] at hk;have N:=hk.val;rw[JI] at N;walk_at "dx";refine bA (λi=>Ck (lost.getD i (0,[]),rkF kvs (lost.getD i (0,[])))) (by rw[IF];omega) (λi hi Q D=>?_) ?_
  ·rw[IF] at hi;rw[Jn];rw[show lost.getD i (0,[])=lost[i] by rw[IP,IK hi];rfl] at D;obtain⟨v,g,_⟩:=N _ (Ju hi);rw[g.rk] at D;walk_at "dx";exact⟨kvs,rfl,kOf lost[i],rfl,rfl,_,g,IQ (by decide) ae,D⟩
  rw[show(List.range (lost.map stS).length).map (λi=>Ck (lost.getD i (0,[]),rkF kvs (lost.getD i (0,[]))))=wW (lost.map λx=>(x,rkF kvs x)) by
   apply JJ;simp;intro i h1 h2;have J:i<lost.length:=by simpa using h1
   simp[IP,J]]
  walk_at "dx";exact q _ (hk.pap hl X) (by rw[IF];omega)
theorem pb{xs ys:List ab}{i:Nat}(h:i<(v5 xs ys).length):(v5 xs ys)[i]=.tuple [xs[i]'(by rw[ci] at h;omega),ys[i]'(by rw[ci] at h;omega)]:=by simp[v5]
theorem dQ(L:List Nat):L.map (λ_=>PyData.bool true)=(L.map λ_=>true).map PyData.bool:=by rw[Jq];rfl
theorem dY(L:List Nat):(L.map λ_=>true).all id=true:=by simp
def kB(l:List Int)(c:Nat):List Int:=l.take c++(l.getD c 0 - 1)::l.drop (c+1)
def nwL(l:List Int):List (List Int):=((List.range l.length).filter λc=>decide (1<l.getD c 0)).map (kB l)
theorem gZ{l:List Int}{c:Nat}(h:c<l.length):(kB l c).length=l.length:=by unfold kB;rw[Jg,Jf,JC,Kc];omega
theorem qI{l:List Int}{c:Nat}(h:c<l.length)(k:Nat):(kB l c).getD k 0=if k=c then l.getD c 0 - 1 else l.getD k 0:=by
 unfold kB;have ht:(l.take c).length=c:=by rw[JC];omega
 by_cases h1:k<c;rw[if_neg (by omega),IP,JM (by omega),List.getElem?_take,if_pos h1,<-IP];rw[IP,JV (by omega),ht];by_cases h2:k=c;rw[if_pos h2,h2,Nat.sub_self];rfl;rw[if_neg h2,show k - c=(k - c - 1)+1 by omega,List.getElem?_cons_succ,List.getElem?_drop,show c+1+(k - c - 1)=k by omega,<-IP]
theorem xW{l:List Int}{c:Nat}(h:c<l.length):(kB l c).sum=l.sum - 1:=by
 have e:l=l.take c++l.getD c 0::l.drop (c+1):=by rw[IP,IK h];show l=l.take c++l[c]::l.drop (c+1);rw[<-Kq h,List.take_append_drop]
 have e2:=congrArg List.sum e;unfold kB;rw[Ku,JB] at e2 ⊢;omega
theorem yt:∀{a b:List Int},a.length=b.length->(∀c,c<b.length->a.getD c 0<=b.getD c 0)->a.sum<=b.sum
 | [],[],_,_=>Jo _
 | x::a,y::b,hl,h=>by
  have d:=h 0 (by simp);have e:=yt (a:=a) (b:=b) (by simpa using hl) λc hc=>by simpa using h (c+1) (by simpa using hc)
  have d:x<=y:=by simpa using d
  rw[JB,JB];omega
theorem uE{l l':List Int}:l'∈nwL l↔∃c,c<l.length/\1<l.getD c 0/\l'=kB l c:=by unfold nwL;rw[IZ];constructor;rintro⟨c,hc,rfl⟩;obtain⟨h1,h2⟩:=Ji.mp hc;exact⟨c,Jz.mp h1,of_decide_eq_true h2,rfl⟩;rintro⟨c,h1,h2,rfl⟩;exact⟨c,Ji.mpr ⟨Jz.mpr h1,decide_eq_true h2⟩,rfl⟩
theorem A1(l:List Int):(nwL l).length<=l.length:=by unfold nwL;rw[IF];exact IQ (Jy _ _) (by rw[Jl];exact IS _)
theorem D8{s o:List Int}{y:Std}{l':List Int}(i1:IsS s o y)(hl:l'∈nwL y.2):IsS s o (y.1,l'):=by obtain⟨c,h1,h2,rfl⟩:=uE.mp hl;refine⟨i1.1,by rw[gZ h1];exact i1.2.1,λk hk=>?_⟩;show 1<=(kB y.2 c).getD k 0/\_;have:=i1.2.2 k hk;rw[qI h1];split;rename_i e;subst e;omega;exact this
theorem EE{s o:List Int}{kvs:List (aL×ab)}(cl:∀z v,gV kvs z v->∀l'∈nwL z.2,∃v',gV kvs (z.1,l') v'/\v'<=v):∀(n:Nat) (x z:Std) (v:Int),x.2.sum - z.2.sum<=n->noB s o x z->gV kvs x v->∃v',gV kvs z v'/\v'<=v
 | n, x,z,v,hn,j,hg=>by
  obtain⟨i1,i2,g,i⟩:=id j;have f:z.2.length=x.2.length:=by rw[i1.2.1,g]
  by_cases h:∃c,c<s.length/\z.2.getD c 0<x.2.getD c 0;obtain⟨c,hc,l⟩:=h;have d:c<x.2.length:=by rw[g];exact hc
  have z1:=(i1.2.2 c hc).1;obtain⟨v1,g1,l1⟩:=cl x v hg (kB x.2 c) (uE.mpr ⟨c,d,by omega,rfl⟩);have hb':noB s o (x.1,kB x.2 c) z:=by refine⟨i1,i2,by rw[gZ d];exact g,λk hk=>?_⟩;show z.2.getD k 0<=(kB x.2 c).getD k 0;have:=i k hk;rw[qI d];split;rename_i e;subst e;omega;exact this
  have hs:=yt (a:=z.2) (b:=kB x.2 c) (by rw[gZ d];exact f) λk hk=>hb'.2.2.2 k (by rw[gZ d,g] at hk;exact hk);have e:=xW d;cases n with
  | zero=>omega
  | succ n =>
   obtain⟨m,g2,l2⟩:=EE cl n (x.1,kB x.2 c) z v1 (by show(kB x.2 c).sum - z.2.sum<=n;omega) hb' g1;exact⟨m,g2,JF l2 l1⟩
  have e:x=z:=by
   refine Prod.ext i2 (JJ f.symm λc h1 h2=>?_);have hc:c<s.length:=by rw[<-g];exact h1
   have a:=i c hc;have b:¬z.2.getD c 0<x.2.getD c 0:=λq=>h ⟨c,hc,q⟩;rw[IP,IK h2,IP,IK h1] at a b;simp only[Option.getD_some] at a b;omega
  exact⟨v,e▸hg,Jo _⟩
structure LrI(s o:List Int)(D:List (Std×Int))(b:Int)(kvs:List (aL×ab))(ks W:List Std):Prop where
 kl : kvs.length<=ks.length
 nd : ks.Nodup
 is : ∀z∈ks,IsS s o z/\(cu kvs (kOf z)).isSome=true
 val:∀z d,cu kvs (kOf z)=some d->∃v,d=.int v/\v<=b
 cl : ∀z v,gV kvs z v->∀l'∈nwL z.2,(∃v',gV kvs (z.1,l') v'/\v'<=v)\/((z.1,l')∈W/\v=b)
 wt : ∀z∈W,IsS s o z
 cov:∀f∈D,(f.1∈W/\b<=f.2)\/∃v,gV kvs f.1 v/\v<=f.2
section
variable {s o:List Int}{D:List (Std×Int)}{b:Int}{kvs:List (aL×ab)}{ks W:List Std}{z:Std}
theorem LrI.few(h:LrI s o D b kvs ks W):ks.length<=(qZ s o).length:=fO h.nd λx hx=>km (h.is x hx).1
theorem LrI.start:LrI s o [] b [] [] []:=⟨IS _,J4,λz hz=>(nomatch hz),λz d e=>(nomatch e),λz v e=>(nomatch e),λz hz=>(nomatch hz),λf a=>(nomatch a)⟩
theorem LrI.up{c:Int}(h:LrI s o D b kvs ks [])(g:b<=c):LrI s o D c kvs ks []:=⟨h.kl,h.nd,h.is,λz d e=>by
 obtain⟨v,a,l⟩:=h.val z d e;exact⟨v,a,JF l g⟩,λz v e l' m=>(h.cl z v e l' m).imp id λa=>(nomatch a.1),λz hz=>(nomatch hz),λf i=>(h.cov f i).imp (λa=>(nomatch a.1)) id⟩
theorem LrI.enter{e:Std×Int}(h:LrI s o D e.2 kvs ks [])(c:IsS s o e.1):LrI s o (D++[e]) e.2 kvs ks [e.1]:=by refine⟨h.kl,h.nd,h.is,h.val,λz v g l' m=>(h.cl z v g l' m).imp id λa=>(nomatch a.1),λz hz=>?_,λf b=>?_⟩;rw[IG.mp hz];exact c;rcases II.mp b with b|b;exact(h.cov f b).imp (λa=>(nomatch a.1)) id;rw[IG.mp b];exact .inl ⟨IL,Jo _⟩
theorem LrI.skip(h:LrI s o D b kvs ks (W++[z]))(q:(cu kvs (kOf z)).isSome=true):LrI s o D b kvs ks W:=by
 obtain⟨d,q⟩:=Ka.mp q;obtain⟨v0,rfl,c⟩:=h.val z d q;refine⟨h.kl,h.nd,h.is,h.val,λy v g l' m=>?_,λy e=>h.wt y (IJ _ e),λf i=>?_⟩;rcases h.cl y v g l' m with a|⟨a,rfl⟩
 exact .inl a;rcases II.mp a with a|a;exact .inr ⟨a,rfl⟩;exact .inl ⟨v0,by rw[IG.mp a];exact q,c⟩;rcases h.cov f i with⟨a,l⟩|a;rcases II.mp a with a|a;exact .inl ⟨a,l⟩;exact .inr ⟨v0,by rw[IG.mp a];exact q,JF c l⟩;exact .inr a
theorem LrI.add(h:LrI s o D b kvs ks (W++[z]))(q:(cu kvs (kOf z)).isSome=false):LrI s o D b (kO kvs (kOf z) (.int b)) (ks++[z]) (W++(nwL z.2).map λl=>(z.1,l)):=by
 have hz:=h.wt z (by simp);have new:gV (kO kvs (kOf z) (.int b)) z b:=by unfold gV;rw[bH,if_pos rfl]
 have j:∀{y d},cu kvs (kOf y)=some d->cu (kO kvs (kOf z) (.int b)) (kOf y)=some d:=λ{y d} g=>by
  rw[bH,if_neg];exact g;intro e;rw[e] at g;rw[g] at q;cases q
 refine⟨?_,IT.mpr ⟨h.nd,by simp,λa k c hc e=>?_⟩,λy i=>?_,λy d g=>?_,λy v g l' m=>?_,λy i=>?_,λf n=>?_⟩;have:=jW kvs (kOf z) (.int b);have:=h.kl;rw[Jg,JD];omega;have:=(h.is a k).2;rw[e,IG.mp hc,q] at this;cases this;rcases II.mp i with i|i;obtain⟨a,c⟩:=h.is y i;obtain⟨d,g⟩:=Ka.mp c;exact⟨a,by rw[j g];rfl⟩;rw[IG.mp i];exact⟨hz,by rw[new];rfl⟩;rw[bH] at g;split at g;cases g;exact⟨b,rfl,Jo _⟩;exact h.val y d g;unfold gV at g;rw[bH] at g;split at g;rename_i e;cases g;rw[gr e] at m ⊢;exact .inr ⟨IE _ (IZ.mpr ⟨l',m,rfl⟩),rfl⟩;rcases h.cl y v g l' m with⟨v',a,c⟩|⟨a,rfl⟩
 exact .inl ⟨v',j a,c⟩;rcases II.mp a with a|a;exact .inr ⟨IJ _ a,rfl⟩;exact .inl ⟨v,by rw[IG.mp a];exact new,Jo _⟩;rcases II.mp i with i|i;exact h.wt y (IJ _ i);obtain⟨l',m,rfl⟩:=IZ.mp i;exact D8 hz m;rcases h.cov f n with⟨a,l⟩|⟨v,a,l⟩
 rcases II.mp a with a|a;exact .inl ⟨IJ _ a,l⟩;exact .inr ⟨b,by rw[IG.mp a];exact new,l⟩;exact .inr ⟨v,j a,l⟩
end
theorem vq(l:List Int){c:Nat}(h:c<=l.length):kE (li l) none (some (c:Int))=li (l.take c):=by unfold kE;have e:HT.sIx (li l).length (li l).length (some (c:Int))=min c (li l).length:=HT.sIx_nat _ _ c;rw[e,HT.sIx_none,IF,List.drop_zero,Nat.sub_zero,Kv h];simp[List.map_take]
theorem vt(l:List Int){c:Nat}(h:c<=l.length):kE (li l) (some (c:Int)) none=li (l.drop c):=by unfold kE;have e:HT.sIx (li l).length 0 (some (c:Int))=min c (li l).length:=HT.sIx_nat _ _ c;rw[e,HT.sIx_none,IF,Kv h,JK (by simp)];simp[List.map_drop]
abbrev bV:Stmt:=top 19
theorem c8:ak ["standing", "lefts", "places"] ["standing"] (ac bV):=⟨rfl,rfl,rfl,by decide +kernel,rfl,by decide +kernel,by decide +kernel⟩
inductive nF:DSp
 | mk {ss R} (z:Std):ss=[.fr (stS z)]->z.2.length<=1000->R (.ow ((nwL z.2).map λl=>stS (z.1,l))) [.un]->nF ss R
theorem j8{f:ap}{fd:kN}(F:Fun K "next_worse" "next_worse" bV f fd)(B:Bn mg):a9 P w K mg base CX0 1 f fd ["standing"] (spD K nF):=by
 refine okD (k:=0) F c8 (λss R h=>?_) (by decide) (λcdv A outer s H E u=>⟨_,(bc (ax 1 c8.nd (qx (qv 0) ag))
   (bc (bw 2 c8.nd (NN:=_::_) (sc0:=ac bV) (N':=["place", "left"]) (ix:=[none,none]) (j0 true (K:=K) rfl rfl B.enumerate (aa (qf 1) ad)) (λ_ _ _ _=>(iE (K:=K) (n:=2) rfl rfl (bf (am 0 (show List.Nodup (["place", "left"]:List bx) by decide +kernel)) (bf (am 1 (show List.Nodup (["place", "left"]:List bx) by decide +kernel)) eZ)))) (λ_ _ _ _=>(qf 0)) (ht:=(λ_ _ _ _=>(iC (ay AU mB (qv 1) ag)))))
   (af (aB (bX (NN:=_::_) (sc0:=ac bV) (N':=["place", "standing", "lefts"]) (ix:=[none,some 0,some 1]) (aA (qf 2)) (λ_ _ _ _=>(am 0 (show List.Nodup (["place", "standing", "lefts"]:List bx) by decide +kernel))) (λ_ _ _ _=>(cG (aa (qx (qv 1) ag) (aa (lC (K:=K) rfl (lC (K:=K) rfl (C0 (K:=K) rfl (qv 2) eX (eW (qv 0))) (cG (aa (bt ul mI (qx (qv 2) (qv 0)) ag) ad))) (C0 (K:=K) rfl (qv 2) (eW (bt bY mI (qv 0) ag)) eX)) ad))))))))),λss R h=>?_⟩)
 obtain⟨z,rfl,_⟩:=h;rfl;obtain⟨z,rfl,hl,q⟩:=h;walk_at "dd";refine dX (λi=>decide (1<z.2.getD i 0)) (λi=>.int (i:Int)) (by rw[a8,IF];omega) (λi hi Q v h1 h2=>?_) ?_
 ·rw[dW,bK];walk_at "dd";exact kP (λc=>h1 (decide_eq_true c)) λc=>h2 (decide_eq_false c)
 rw[a8,IF];obtain⟨cs,a⟩:∃cs,cs=(List.range z.2.length).filter λi=>decide (1<z.2.getD i 0):=⟨_,rfl⟩
 rw[<-a];have hc:∀j,j<cs.length->cs.getD j 0<z.2.length:=λj hj=>by
  have:cs.getD j 0∈cs:=by rw[IP,IK hj];exact Ju hj
  have d:∀x∈cs,x<z.2.length:=λx hx=>by
   rw[a] at hx;exact Jz.mp (Ji.mp hx).1
  exact d _ this
 have p:cs.length<=z.2.length:=by rw[a];exact IQ (Jy _ _) (by rw[Jl];exact IS _)
 walk_at "dd";refine bA (λj=>stS (z.1,kB z.2 (cs.getD j 0))) (by rw[IF];omega) (λj hj Q r=>?_) ?_
 ·rw[IF] at hj;have b:=hc j hj;have e:cs[j]=cs.getD j 0:=by rw[IP,IK hj];rfl
  rw[Jn,e];generalize cs.getD j 0=c at *;walk_at "dd";have x1:HT.sIx (li z.2).length (li z.2).length (some (c:Int))=min c (li z.2).length:=HT.sIx_nat _ _ c;have t:HT.sIx (li z.2).length 0 (some ((c:Int)+1))=min (c+1) (li z.2).length:=HT.sIx_nat _ _ (c+1);have g:(li z.2).length=z.2.length:=IF ..;have m:=vq z.2 (JW b);have o:kE (li z.2) (some ((c:Int)+1)) none=li (z.2.drop (c+1)):=vt z.2 (c:=c+1) b;refine⟨λq=>?_,_,dE (ns:=z.2) b,_,rfl,IQ (by decide) ae,?_,λq=>?_,?_,IQ (by decide) ae,?_⟩;rw[x1,g] at q;omega;rw[m,IF,JC];exact IQ (by omega) ae;rw[t,g] at q;omega;rw[m,o,Jg,IF,IF,JC,Kc,JD];exact IQ (by omega) ae;rw[m,o];rw[show li (z.2.take c)++[PyData.int (z.2.getD c 0 - 1)]++li (z.2.drop (c+1))=li (kB z.2 c) by unfold kB;simp];exact r
 rw[IF,show(List.range cs.length).map (λj=>stS (z.1,kB z.2 (cs.getD j 0)))=(nwL z.2).map λl=>stS (z.1,l) by
  unfold nwL;rw[<-a,Jq];apply JJ;simp;intro i h1 h2;have hi:i<cs.length:=by simpa using h1
  simp[IP,hi]]
 walk_at "dd";exact q
structure Ca(s o:List Int)(P:List (Std×Int))(kvs:List (aL×ab)):Prop where
 cov:∀f∈P,∀z,noB s o f.1 z->∃v,gV kvs z v/\v<=f.2
theorem LrI.fin{s o:List Int}{P Q:List (Std×Int)}{b:Int}{kvs:List (aL×ab)}{ks:List Std}(h:LrI s o Q b kvs ks [])(c:Q.Perm P):Ca s o P kvs:=⟨λf d z hz=>by
 rcases h.cov f (c.mem_iff.mpr d) with a|⟨v,g,l⟩
 nomatch a.1
 obtain⟨v',g',l'⟩:=EE (λz v g l' m=>(h.cl z v g l' m).elim id λa=>(nomatch a.1)) (f.1.2.sum - z.2.sum).toNat f.1 z v (by omega) hz g;exact⟨v',g',JF l' l⟩⟩
def Ir:ab->Int
 | .tuple [_,_,.int n]=>n
 | _=>0
inductive Ht (s o:List Int) (P Q:List (Std×Int)) (S:List ap) (i:Nat):List Sl->Prop
 | mk (kvs:List (aL×ab)) (ks:List Std) (b:Int) (x y z:Sl):LrI s o (Q.take i) b kvs ks []->(∀f∈Q.drop i,b<=f.2)->Ht s o P Q S i [.fr (.list (wW P)),.tr S (eD kvs),x,y,z]
inductive Hr (s o:List Int) (P D:List (Std×Int)) (e:Std×Int) (S:List ap) (m:Nat):List Sl->Prop
 | mk (kvs:List (aL×ab)) (ks W:List Std) (c:Sl) (ws:List ab):ws=W.map stS->LrI s o D e.2 kvs ks W->m=W.length+7*((qZ s o).length - ks.length)->m<=1000->Hr s o P D e S m [.fr (.list (wW P)),.tr S (eD kvs),.fr (Ck e),.ow ws,c]
abbrev dg:Stmt:=top 20
theorem bv:ak ["paper", "ranks", "entry", "waiting", "standing"] ["paper"] (ac dg):=⟨rfl,rfl,rfl,by decide +kernel,rfl,by decide +kernel,by decide +kernel⟩
inductive nH:DSp
 | mk {ss R} (s o:List Int) (P:List (Std×Int)):ss=[.fr (.list (wW P))]->P.length<64->s.length<=6->(qZ s o).length<64->(∀e∈P,IsS s o e.1/\0<=e.2)->(∀kvs,Ca s o P kvs->R (.fr (eD kvs)) [.un])->nH ss R
theorem jf{f:ap}{fd:kN}(F:Fun K "least_ranks" "least_ranks" dg f fd)(B:Bn mg)(L:sx K base "least_ranks" fd)(g:Cal P w K mg base "next_worse" 1 (spD K nF)):a9 P w K mg base CX0 7 f fd ["paper"] (spD K nH):=by
 refine FU (k:=6) F bv (λss R h=>?_) (by decide) (λcdv v A outer s H E C=>⟨_,(ai (ax 1 bv.nd yK)
   (ai (gh PassesOwn.never rfl (aA (CZ qh (p := "one") (K:=K) rfl (let ⟨c,T,a,b,d⟩:=L;⟨c,T,v.trans a,b,d⟩) (C.mono (by decide)) rfl B.sorted (aa (qv 0) ad) ⟨rfl,rfl,rfl,by decide,rfl,λx hx=>by rw[IG.mp hx];exact .inl rfl,by decide⟩ (λ_ _ _ _ _=>rfl) rfl rfl (λ_ _ _ _ _=>(qx (qv 0) ag)))) (am 2 bv.nd) (ai (ax 3 bv.nd (cP (aa (cG (aa (qx (qv 2) ag) (aa (qx (qv 2) ag) ad))) ad)))
   (af (j4 PassesOwn.never (gU (K:=K) rfl (qv 3)) (ai (ax 4 bv.nd (Al 3 (K:=K) rfl rfl))
   (af (gF (ay (oN (K:=K) rfl (hu2 C)) oJ (qv 4) (qv 1)) (ai (pW 1 (K:=K) rfl (hu2 C) rfl (qf 4) (qx (qv 2) ag))
   (af (eL (FO 3 (K:=K) rfl rfl (aa (ao g (aa (qf 4) ad)) ad))))) br)))))))
   (tN 1 (af (aB (qv 1)))))),λss R h=>?_⟩)
 obtain⟨s,o,P,rfl,_⟩:=h;rfl;obtain⟨s,o,P,rfl,O,hs,hN,l,q⟩:=h;have big:∀n:Nat,n<=100000->n<sizeLine:=λn h=>IY (by omega) ae;walk_at "dx";intro S;walk_at "dx";refine⟨by rw[IF];exact O,Ir,λd hd=>?_,λes G so=>?_⟩
 ·obtain⟨e,_,rfl⟩:=IZ.mp hd;unfold Bc D2;walk_at "dd";exact⟨⟨_,rfl⟩,rfl⟩
 obtain⟨Q,u,rfl⟩:=cA G _ rfl;have aQ:Q.Pairwise λa b=>a.2<=b.2:=(Kk.mp so).imp λz=>z;have a4:Q.length<64:=by rw[u.length_eq];exact O
 refine iW (Ht s o P Q S) (.mk [] [] 0 _ _ _ LrI.start λf I=>(l f (u.mem_iff.mp I)).2) (λE m=>?_) ?_
 ·rintro i env hi ⟨kvs,ks,b,x,y,z,hk,J⟩;rw[IF] at hi;rw[Jn];have U:Q.take (i+1)=Q.take i++[Q[i]]:=by rw[JT,IK hi];rfl
  have M:Q.drop i=Q[i]::Q.drop (i+1):=Kq hi;have N:=(l _ (u.mem_iff.mp (Ju hi))).1;have r:∀f∈Q.drop (i+1),Q[i].2<=f.2:=λf I=>by
   have:=aQ.sublist (List.drop_sublist i Q);rw[M] at this;exact(List.pairwise_cons.mp this).1 f I
  have hk:=hk.up (J _ (by rw[M];exact IL));have nx:∀kvs ks x y z,LrI s o (Q.take i++[Q[i]]) Q[i].2 kvs ks []->(E i).nx [.fr (.list (wW P)),.tr S (eD kvs),x,y,z]:=λkvs ks x y z h=>(m _).nx _ (.mk kvs ks _ _ _ _ (U▸h) r);clear m r J U M;generalize Q[i]=e at *;generalize Q.take i=D at *;walk_at "dx";refine⟨IQ (by decide) ae,IQ (by decide) ae,?_⟩;walk_at "dx";have X:=hk.few;refine v7 (Hr s o P (D++[e]) e S) ⟨_,.mk kvs ks [e.1] _ _ rfl (hk.enter N) rfl (by simp;omega)⟩ λE2 hM=>?_;rintro _ env ⟨kvs,ks,W,c,_,rfl,j,rfl,Y⟩;have few:=j.few;have kl:=j.kl;walk_at "dx";rcases List.eq_nil_or_concat W with rfl|⟨V,z,rfl⟩
  ·rw[if_neg (by simp)];walk_at "dx";exact nx _ _ _ _ _ j
  rw[List.concat_eq_append] at *;have hz:=j.wt z (by simp);rw[Jm,if_pos (by simp)];refine⟨stS z,by simp,?_⟩;walk_at "dx";refine⟨kOf z,rfl,rfl,kvs,rfl,kP (λhc=>?_) λhc=>?_⟩
  ·have Z:=j.add (by simpa using hc);have t:=Z.few;have nf:=A1 z.2;have a5:z.2.length<=6:=by rw[hz.2.1];exact hs
   refine⟨⟨kvs,rfl⟩,kvs,rfl,kOf z,rfl,rfl,big _ (by omega),?_⟩;walk_at "dx";refine⟨z,rfl,by omega,?_⟩;walk_at "dx";simp at t Y ⊢;refine⟨JW (big _ (by omega)),(hM _).nx _ ⟨_,?_,.mk _ _ _ _ _ (by simp) Z rfl (by simp;omega)⟩⟩;simp;omega
  refine(hM _).nx _ ⟨_,?_,.mk _ _ _ _ _ (by simp) (j.skip (Option.isSome_iff_ne_none.mpr (by simpa using hc))) rfl (by simp at Y;omega)⟩;simp
 ·rintro env ⟨kvs,ks,b,x,y,z,hk,J⟩;rw[IF,JI] at hk;walk_at "dx";exact q kvs (hk.fin u)
abbrev dh:Stmt:=top 18
theorem gy:ak ["town", "entry", "fits"] ["town", "entry"] (ac dh):=⟨rfl,rfl,rfl,by decide +kernel,rfl,by decide +kernel,by decide +kernel⟩
inductive tq:DSp
 | mk {ss R} (s o:List Int) (e:Std×Int):ss=[.fr (.tuple [.list (li s),.list (li o)]),.fr (Ck e)]->IsS s o e.1->0<=e.2->s.length<=1000->R (.fr (.bool true)) [.un,.un]->tq ss R
theorem lS{f:ap}{fd:kN}(F:Fun K "is_ranked" "is_ranked" dh f fd)(B:Bn mg):a9 P w K mg base CX0 1 f fd ["town", "entry"] (spD K tq):=by
 refine okD (k:=0) F gy (λss R h=>?_) (by decide) (λcdv A outer s H E d=>⟨_,(bc (ax 2 gy.nd (tS (Ch (K:=K) rfl rfl) Cg rfl B.all PyProof.Rows.boot_all (aa (bX (NN:=_::_) (sc0:=ac dh) (N':=["left", "span"]) (ix:=[none,none]) (CU true false (K:=K) rfl rfl B.zip (aa (qx (qv 1) ag) (aa (qx (qv 0) ag) ad))) (λ_ _ _ _=>(iE (K:=K) (n:=2) rfl rfl (bf (am 0 (show List.Nodup (["left", "span"]:List bx) by decide +kernel)) (bf (am 1 (show List.Nodup (["left", "span"]:List bx) by decide +kernel)) eZ)))) (λ_ _ _ _=>(j5 ou mB ou mB ag (qv 0) (qv 1)))) ad)))
   (af (aB (rF (qv 2) (rF (j5 ou mB ur mB ag (qx (qv 1) ag) (jc B.len (qx (qv 0) ag))) (tQ (jd FT mB (qx (qv 1) ag) ag))))))),λss R h=>?_⟩)
 obtain⟨s,o,e,rfl,_⟩:=h;rfl;obtain⟨s,o,e,rfl,⟨i1,i2,a⟩,b,hs,q⟩:=h;walk_at "dd";refine bA (λi=>.bool true) (by rw[ci,IF];omega) (λi hi Q c=>?_) ?_
 ·rw[ci,IF,IF] at hi;rw[pb,bK,bK];have:=a i (by omega);walk_at "dd";rw[if_pos this.1,decide_eq_true this.2];exact c
 rw[dQ];walk_at "dd";rw[dY,if_pos rfl,if_pos (by omega),IF,if_pos (by omega),decide_eq_true b];exact q
abbrev bW:Stmt:=top 21
theorem c9:ak ["town", "entry", "ranks", "standing", "ahead"] ["town", "entry", "ranks"] (ac bW):=⟨rfl,rfl,rfl,by decide +kernel,rfl,by decide +kernel,by decide +kernel⟩
inductive nI:DSp
 | mk {ss R} (s o:List Int) (e:Std×Int) (P:List (Std×Int)) (kvs:List (aL×ab)):ss=[.fr (.tuple [.list (li s),.list (li o)]),.fr (Ck e),.fr (eD kvs)]->TbL s o->fV s o P->e∈P->Ca s o P kvs->R (.fr (.bool true)) [.un,.un,.un]->nI ss R
theorem j9{f:ap}{fd:kN}(F:Fun K "leads_down" "leads_down" bW f fd)(B:Bn mg)(b:Cal P w K mg base "choices" 6 (spD K fE))(c:Cal P w K mg base "behind" 1 (spD K fF)):a9 P w K mg base CX0 7 f fd ["town", "entry", "ranks"] (spD K nI):=by
 refine okD (k:=6) F c9 (λss R h=>?_) (by decide) (λcdv A outer s H E z=>⟨_,(ai (ax 3 c9.nd (cG (aa (qx (qv 1) ag) (aa (qx (qv 1) ag) ad))))
   (ai (bw 4 c9.nd (NN:=_::_) (sc0:=ac bW) (N':=["row", "town", "standing"]) (ix:=[none,some 0,some 3]) (aA (ao b (aa (qf 0) (aa (qf 3) ad)))) (λ_ _ _ _=>(am 0 (show List.Nodup (["row", "town", "standing"]:List bx) by decide +kernel))) (λ_ _ _ _=>(ao c (aa (qf 1) (aa (qf 2) (aa (qf 0) ad))))))
   (af (aB (tS (Ch (K:=K) rfl rfl) Cg rfl B.all PyProof.Rows.boot_all (aa (bX (NN:=_::_) (sc0:=ac bW) (N':=["other", "entry", "ranks"]) (ix:=[none,some 1,some 2]) (aA (qf 4)) (λ_ _ _ _=>(am 0 (show List.Nodup (["other", "entry", "ranks"]:List bx) by decide +kernel))) (λ_ _ _ _=>(rF (jd (Ih (K:=K) rfl (hu2 z)) HW (qv 0) (qv 2)) (tQ (jd ur mB (qxK (qv 2) (qv 0)) (qx (qv 1) ag)))))) ad)))))),λss R h=>?_⟩)
 obtain⟨s,o,e,P,kvs,rfl,_⟩:=h;rfl;obtain⟨s,o,e,P,kvs,rfl,t,j,m,hk,q⟩:=h;obtain⟨n,C,p,D,r,M⟩:=id t;have a:=(j.is e m).1;walk_at "dx";refine⟨IQ (by decide) ae,?_⟩;walk_at "dx";refine⟨s,o,e.1.2,e.1.1,rfl,n,D _ (aE a.1),r.imp id λh=>h _ (aE a.1),⟨a.1,a.2.1⟩,λcs u _=>?_⟩;have G:cs.length<64:=by rw[u.length_eq];exact iV n (r.imp id λh=>h _ (aE a.1))
 walk_at "dx";refine bA (λi=>stS (cL s o e.1 (cs.getD i []))) (by rw[IF];omega) (λi hi Q d=>?_) ?_
 ·rw[gJ];walk_at "dx";refine⟨s,o,e.1.2,cs.getD i [],e.1.1,rfl,C,a.2.1,by omega,?_⟩;walk_at "dx";exact d
 rw[show(lr cs).length=cs.length from IF ..];walk_at "dx";refine bA (λi=>.bool true) (by rw[IF,Jl];omega) (λi hi Q d=>?_) ?_
 ·rw[IF,Jl] at hi;rw[Jn,List.getElem_range];have x:=u.mem_iff.mp (bZ (l:=cs) hi);have I:=lX p a x;obtain⟨e',J,L,l'⟩:=j.step p m ⟨a,rfl,a.2.1,λ_ _=>Jo _⟩ ⟨_,x,rfl⟩;obtain⟨v,g,N⟩:=hk.cov e' J _ L;generalize cL s o e.1 (cs.getD i [])=y at *;walk_at "dx";refine⟨kOf y,rfl,rfl,kvs,rfl,?_⟩;rw[if_pos (by rw[g];rfl)];refine⟨kvs,rfl,kOf y,rfl,rfl,_,g,v,rfl,?_⟩;rw[decide_eq_true (by omega)];exact d
 rw[dQ];walk_at "dx";rw[dY];exact q
inductive Hm (s o:List Int) (P:List (Std×Int)) (kvs:List (aL×ab)) (i:Nat):List Sl->Prop
 | mk (a:Sl):Hm s o P kvs i [.fr (.tuple [.list (li s),.list (li o)]),.fr (.list (wW P)),.fr (eD kvs),a]
abbrev dc:Stmt:=top 22
theorem dH:ak ["town", "paper", "ranks", "entry"] ["town", "paper"] (ac dc):=⟨rfl,rfl,rfl,by decide +kernel,rfl,by decide +kernel,by decide +kernel⟩
inductive ny:DSp
 | mk {ss R} (s o:List Int) (P:List (Std×Int)):ss=[.fr (.tuple [.list (li s),.list (li o)]),.fr (.list (wW P))]->TbL s o->fV s o P->P.length<64->R (.fr (.bool true)) [.un,.un]->ny ss R
theorem lK{f:ap}{fd:kN}(F:Fun K "shuts_out" "shuts_out" dc f fd)(B:Bn mg)(d:Cal P w K mg base "is_ranked" 1 (spD K tq))(b:Cal P w K mg base "least_ranks" 7 (spD K nH))(g:Cal P w K mg base "begun" 1 (spD K ii))(c:Cal P w K mg base "leads_down" 7 (spD K nI)):a9 P w K mg base CX0 9 f fd ["town", "paper"] (spD K ny):=by
 refine okD (k:=8) F dH (λss R h=>?_) (by decide) (λcdv A outer s H E m=>⟨_,(ai (gF (gE (gC (tS (Ch (K:=K) rfl rfl) Cg rfl B.all PyProof.Rows.boot_all (aa (bX (NN:=_::_) (sc0:=ac dc) (N':=["entry", "town"]) (ix:=[none,some 0]) (aA (qf 1)) (λ_ _ _ _=>(am 0 (show List.Nodup (["entry", "town"]:List bx) by decide +kernel))) (λ_ _ _ _=>(ao d (aa (qf 1) (aa (qf 0) ad))))) ad)))) (af (aB wI)) br)
   (ai (ax 2 dH.nd (ao b (aa (qf 1) ad)))
   (ai (gF (ay (oN (K:=K) rfl (hu2 m)) oJ (ao g (aa (qf 0) ad)) (qv 2)) (af (aB wI)) br)
   (ai (gh PassesOwn.never rfl (aA (qf 1)) (am 3 dH.nd) (af (gF (gE (gC (ao c (aa (qf 0) (aa (qf 3) (aa (qf 2) ad)))))) (af (aB wI)) br)))
   (af (aB wI)))))),λss R h=>?_⟩)
 obtain⟨s,o,P,rfl,_⟩:=h;rfl;obtain⟨s,o,P,rfl,t,j,n,q⟩:=h;obtain⟨p,r,u,G,I,v⟩:=id t;walk_at "dx";refine bA (λi=>.bool true) (by rw[IF];omega) (λi hi Q x=>?_) ?_
 ·rw[IF] at hi;rw[Jn];have:=j.is _ (Ju hi);walk_at "dx";refine⟨s,o,P[i],rfl,this.1,this.2.1,by omega,?_⟩;walk_at "dx";exact x
 rw[dQ];walk_at "dx";rw[dY,if_neg (by simp)];walk_at "dx";refine⟨s,o,P,rfl,n,p,v,λe l=>⟨(j.is e l).1,(j.is e l).2.1⟩,λkvs hk=>?_⟩;walk_at "dx";refine⟨s,o,rfl,?_⟩;walk_at "dx";obtain⟨y,z,C⟩:=j.bg;obtain⟨v0,D,_⟩:=hk.cov y z (0,s) (by rw[C];exact⟨is0 u r,rfl,rfl,λ_ _=>Jo _⟩);refine⟨kOf (0,s),rfl,rfl,kvs,rfl,?_⟩;rw[if_neg (by rw[D];simp)];walk_at "dx";refine iW (Hm s o P kvs) (.mk _) (λE hN=>?_) ?_
 ·rintro i env hi ⟨a⟩;rw[IF] at hi;rw[Jn];walk_at "dx";refine⟨s,o,P[i],P,kvs,rfl,t,j,Ju hi,hk,?_⟩;walk_at "dx";exact .mk _
 ·rintro env ⟨a⟩;walk_at "dx";exact q
theorem xL{x y:Int}(hx:0<=x)(c:0<=y):J8 y (x % y)=J8 x y:=by obtain⟨a,rfl⟩:=JS hx;obtain⟨b,rfl⟩:=JS c;show Nat.gcd b (a % b)=Nat.gcd a b;rw[Nat.gcd_comm b,<-Nat.gcd_rec,Nat.gcd_comm]
abbrev bG:Stmt:=top 27
theorem aX:ak ["one", "other", "rest"] ["one", "other"] (ac bG):=⟨rfl,rfl,rfl,by decide +kernel,rfl,by decide +kernel,by decide +kernel⟩
inductive zX:DSp
 | mk {ss R} (a b:Int):ss=[.fr (.int a),.fr (.int b)]->0<=a->0<=b->R (.fr (.int (J8 a b))) [.un,.un]->zX ss R
inductive IvG (a b:Int) (m:Nat):List Sl->Prop
 | mk (x y:Int) (r:Sl):0<=x->0<=y->m=y.toNat->J8 x y=J8 a b->IvG a b m [.fr (.int x),.fr (.int y),r]
theorem fe{f:ap}{fd:kN}(F:Fun K "greatest_divisor" "greatest_divisor" bG f fd)(B:Bn mg):a9 P w K mg base CX0 1 f fd ["one", "other"] (spD K zX):=by
 refine okD (k:=0) F aX (λss R h=>?_) (by decide) (λcdv A outer s H E j=>⟨_,(ai (j4 PassesOwn.never (ay wY EX (qv 1) ag) (ai (ax 2 aX.nd (bt bi mIC (qv 0) (qv 1)))
   (ai (ax 0 aX.nd (qf 1))
   (af (ax 1 aX.nd (qf 2))))))
   (af (aB (qv 0)))),λss R h=>?_⟩)
 obtain⟨a,b,rfl,_⟩:=h;rfl;obtain⟨a,b,rfl,g,i,q⟩:=h;walk_at "dx";refine v7 (IvG a b) ⟨_,.mk a b _ g i rfl rfl⟩ λN hN=>?_;rintro _ env ⟨x,y,r,hx,e,rfl,hg⟩;walk_at "dx";refine kP (λc=>?_) (λc=>?_)
 ·have c:y≠0:=by simpa using c
  have h1:=JU x c;have h2:=JH x (show 0<y by omega);refine⟨by omega,?_⟩;walk_at "dx";have d:=(xL hx e).trans hg;generalize x % y=z at *;exact⟨z.toNat,by omega,.mk y z _ e h1 rfl d⟩
 ·have c:y=0:=by simpa using c
  subst c;walk_at "dx";rw[<-hg,Int.gcd_zero_right,Int.natAbs_of_nonneg hx] at q;exact q
structure Cm(ns:List Int)(m:Int):Prop where
 pos:1<=m
 le : m.toNat<=12 ^ ns.length
 dvd:∀x∈ns,x∣m
theorem Cm.snoc{ns:List Int}{m n:Int}(h:Cm ns m)(h1:1<=n)(h2:n<=12):0<(J8 m n:Int)/\(J8 m n:Int)<=m/\m / (J8 m n:Int)<=m/\0<=m / (J8 m n:Int)/\Cm (ns++[n]) (m / (J8 m n:Int)*n):=by
 have c:=h.pos;have g:0<(J8 m n:Int):=by
  have:J8 m n≠0:=λz=>by have:=(Int.gcd_eq_zero_iff.mp z).1;omega
  omega
 have a:(J8 m n:Int)<=m:=Int.le_of_dvd (by omega) (Int.gcd_dvd_left m n);have d1:m∣m / (J8 m n:Int)*n:=by
  obtain⟨k,hk⟩:=Int.gcd_dvd_right m n;have e:=Int.ediv_mul_cancel (Int.gcd_dvd_left m n);refine⟨k,?_⟩
  conv=>lhs;rhs;rw[hk]
  rw[<-Int.mul_assoc,e]
 have q0:1<=m / (J8 m n:Int):=by refine(Int.le_ediv_iff_mul_le g).mpr ?_;rw[Int.one_mul];exact a
 have b:m / (J8 m n:Int)<=m:=Int.ediv_le_self _ (by omega);have d:=Int.mul_le_mul q0 h1 (by omega) (by omega);have f:=Int.mul_le_mul b h2 (by omega) (by omega);refine⟨g,a,b,by omega,by omega,?_,λx hx=>?_⟩;have:=h.le;rw[Jg,JD,Nat.pow_succ];omega;rcases II.mp hx with hx|hx;exact Int.dvd_trans (h.dvd x hx) d1;rw[IG.mp hx];exact Int.dvd_mul_left _ _
theorem Cm.big{ns:List Int}{m:Int}(h:Cm ns m)(hl:ns.length<=7):m<=35831808:=by have:=IQ h.le (JQ (by decide) hl);have:=h.pos;omega
abbrev b8:Stmt:=top 28
theorem bp:ak ["numbers", "found", "number"] ["numbers"] (ac b8):=⟨rfl,rfl,rfl,by decide +kernel,rfl,by decide +kernel,by decide +kernel⟩
inductive Fy:DSp
 | mk {ss R} (ns:List Int):ss=[.fr (.list (li ns))]->ns.length<=7->(∀x∈ns,1<=x/\x<=12)->(∀m:Int,Cm ns m->R (.fr (.int m)) [.un])->Fy ss R
inductive Hu (ns:List Int) (i:Nat):List Sl->Prop
 | mk (m:Int) (v:Sl):Cm (ns.take i) m->Hu ns i [.fr (.list (li ns)),.fr (.int m),v]
theorem gp{f:ap}{fd:kN}(F:Fun K "least_multiple" "least_multiple" b8 f fd)(B:Bn mg)(a:Cal P w K mg base "greatest_divisor" 1 (spD K zX)):a9 P w K mg base CX0 2 f fd ["numbers"] (spD K Fy):=by
 refine okD (k:=1) F bp (λss R h=>?_) (by decide) (λcdv A outer s H E g=>⟨_,(bc (ax 1 bp.nd ag)
   (bc (gh PassesOwn.never rfl (aA (qf 0)) (am 2 bp.nd) (af (ax 1 bp.nd (bt uq mIC (bt j7 mIC (qv 1) (ao a (aa (qf 1) (aa (qf 2) ad)))) (qv 2)))))
   (af (aB (qv 1))))),λss R h=>?_⟩)
 obtain⟨ns,rfl,_⟩:=h;rfl;obtain⟨ns,rfl,hl,d,q⟩:=h;walk_at "dx";refine iW (Hu ns) (.mk 1 _ ⟨Jo 1,by simp,λx hx=>(by cases hx)⟩) (λE hN=>?_) ?_
 ·rintro i env hi ⟨m,v,c⟩;have b:i<ns.length:=by simpa using hi
  rw[bK];have bn:=d _ (aE b);have e:ns.take (i+1)=ns.take i++[ns.getD i 0]:=by rw[JT,IK b,IP,IK b];rfl
  have j:=c.pos;have hg:=c.big (by rw[JC];omega);obtain⟨g1,g2,g3,l,h2⟩:=c.snoc bn.1 bn.2;walk_at "dx";refine⟨_,_,rfl,by omega,by omega,?_⟩;walk_at "dx";exact⟨⟨g1,Bg.of (by omega) (by omega)⟩,⟨Bg.of (by omega) (by omega),Bg.of (by omega) (by omega)⟩,(hN _).nx _ (.mk _ _ (e▸h2))⟩
 ·rintro env ⟨m,v,c⟩;rw[IF,JI] at c;walk_at "dx";exact q m c
abbrev db:Stmt:=top 30
theorem lh:ak ["spans", "days"] ["spans", "days"] (ac db):=⟨rfl,rfl,rfl,by decide +kernel,rfl,by decide +kernel,by decide +kernel⟩
inductive sX:DSp
 | mk {ss R} (ns:List Int) (d:Int):ss=[.fr (.list (li ns)),.fr (.int d)]->ns.length<=1000->(∀x∈ns,1<=x/\x<=12)->R (.fr (.int ((ns.map (d / ·)).sum))) [.un,.un]->sX ss R
theorem lJ{f:ap}{fd:kN}(F:Fun K "wanted_in" "wanted_in" db f fd)(B:Bn mg):a9 P w K mg base CX0 1 f fd ["spans", "days"] (spD K sX):=by
 refine okD (k:=0) F lh (λss R h=>?_) (by decide) (λcdv A outer s H E e=>⟨_,(af (aB (tS (mP (K:=K) rfl rfl) Hd rfl B.sum PyProof.Rows.boot_sum (aa (bX (NN:=_::_) (sc0:=ac db) (N':=["span", "days"]) (ix:=[none,some 1]) (aA (qf 0)) (λ_ _ _ _=>(am 0 (show List.Nodup (["span", "days"]:List bx) by decide +kernel))) (λ_ _ _ _=>(bt j7 mIC (qv 1) (qv 0)))) ad)))),λss R h=>?_⟩);obtain⟨ns,d,rfl,_⟩:=h;rfl;obtain⟨ns,d,rfl,hl,b,q⟩:=h;walk_at "dd";refine bA (λi=>.int (d / ns.getD i 0)) (by rw[IF];omega) (λi hi Q c=>?_) ?_
 ·have a:i<ns.length:=by simpa using hi
  rw[bK];have bn:=b _ (aE a);walk_at "dd";exact⟨⟨by omega,Bg.of (by omega) (by omega)⟩,c⟩
 rw[IF,bO ns 0 (λx=>PyData.int (d / x)),show ns.map (λx=>PyData.int (d / x))=li (ns.map (d / ·)) by show _=List.map _ (List.map _ _);rw[Jq];rfl];walk_at "dd";exact q
theorem CG{o:List Int}(h:∀x∈o,0<=x/\x<=6):0<=o.sum/\o.sum<=6*o.length:=by
 induction o with
 | nil=>simp
 | cons x o a =>
  have:=h x (by simp);have:=a λy b=>h y (by simp[b]);rw[JB,Jf];omega
abbrev f9:Stmt:=top 31
theorem c7:ak ["town", "days", "wanted", "there"] ["town"] (ac f9):=⟨rfl,rfl,rfl,by decide +kernel,rfl,by decide +kernel,by decide +kernel⟩
inductive nB:DSp
 | mk {ss R} (s o:List Int):ss=[.fr (.tuple [.list (li s),.list (li o)])]->TB s o->R (.fr .none) [.un]->(∀a b c:Int,(∀A B,¬Rg s o A B)->R (.fr (.tuple [.int a,.int b,.int c])) [.un])->nB ss R
theorem oy{f:ap}{fd:kN}(F:Fun K "shortage" "shortage" f9 f fd)(B:Bn mg)(e:Cal P w K mg base "least_multiple" 2 (spD K Fy))(g:Cal P w K mg base "wanted_in" 1 (spD K sX)):a9 P w K mg base CX0 3 f fd ["town"] (spD K nB):=by
 refine okD (k:=2) F c7 (λss R h=>?_) (by decide) (λcdv A outer s H E j=>⟨_,(ai (ax 1 c7.nd (ao e (aa (rC (gm (K:=K) rfl) Cf (qx (qv 0) ag) (cP (aa (jc B.len (qx (qv 0) ag)) ad))) ad)))
   (ai (ax 2 c7.nd (ao g (aa (qx (qv 0) ag) (aa (qf 1) ad))))
   (ai (ax 3 c7.nd (bt uq mIC (bt j7 mIC (qv 1) (jc B.len (qx (qv 0) ag))) (tS (mP (K:=K) rfl rfl) Hd rfl B.sum PyProof.Rows.boot_sum (aa (qx (qv 0) ag) ad))))
   (af (aB (gg (ay AU mB (qv 2) (qv 3)) (cG (aa (qf 1) (aa (qf 2) (aa (qf 3) ad)))) fb)))))),λss R h=>?_⟩)
 obtain⟨s,o,rfl,_⟩:=h;rfl;obtain⟨s,o,rfl,⟨p,r,l,t,i,m,u⟩,n,q⟩:=h;walk_at "dx";simp only[IF,dR];refine⟨IQ (by decide) ae,IQ (by omega) ae,s++[(o.length:Int)],rfl,by simp;omega,λx hx=>?_,λd hd=>?_⟩;rcases II.mp hx with hx|hx;exact i x hx;rw[IG.mp hx];omega;have h1:=hd.pos;have h2:=hd.big (by simp;omega);walk_at "dx";refine⟨s,d,rfl,by omega,i,?_⟩;walk_at "dx";rw[IF];have v:=CG m;have q0:=Int.ediv_nonneg (a:=d) (b:=(o.length:Int)) (by omega) (by omega);have y:d / (o.length:Int)<=d:=Int.ediv_le_self _ (by omega);refine⟨⟨by omega,Bg.of (by omega) (by omega)⟩,⟨Bg.of (by omega) (by omega),Bg.of (by omega) (by omega)⟩,?_⟩;walk_at "dx";refine kP (λc=>⟨IQ (by decide) ae,q _ _ _ λA B j=>?_⟩) λc=>n;have:=j.share (λx hx=>(i x hx).1) l h1 (λx hx=>hd.dvd x (by simp[hx])) (hd.dvd _ (by simp));omega
abbrev dM:Stmt:=top 59
theorem cj:ak ["_law_town_here", "_law_lefts", "_law_span"] ["_law_town_here"] (ac dM):=⟨rfl,rfl,rfl,by decide +kernel,rfl,by decide +kernel,by decide +kernel⟩
inductive jS:DSp
 | mk {ss R} (s o:List Int):ss=[.fr (.tuple [.list (li s),.list (li o)])]->s.length<=1000->R (.fr (.tuple [.int 0,.tuple (li s)])) [.un]->jS ss R
theorem kb{f:ap}{fd:kN}(F:Fun K "_law_begun" "_law_begun" dM f fd)(B:Bn mg):a9 P w K mg base CX0 1 f fd ["_law_town_here"] (spD K jS):=by
 refine okD (k:=0) F cj (λss R h=>?_) (by decide) (λcdv A outer s H E c=>⟨_,(bc (ax 1 cj.nd (cG ad))
   (bc (gh PassesOwn.never rfl (aA (qx (qv 0) ag)) (am 2 cj.nd) (af (ax 1 cj.nd (lC (K:=K) rfl (qv 1) (cG (aa (qf 2) ad))))))
   (af (aB (cG (aa ag (aa (qf 1) ad))))))),λss R h=>?_⟩)
 obtain⟨s,o,rfl,_⟩:=h;rfl;obtain⟨s,o,rfl,hs,q⟩:=h;walk_at "dd";refine⟨Jb _,?_⟩;refine qw (λi env=>∃a:Sl,env=[.fr (.tuple [.list (li s),.list (li o)]),.fr (.tuple (li (s.take i))),a]) ⟨_,rfl⟩ ?_ ?_
 ·rintro i env hi ⟨a,rfl⟩;have b:i<s.length:=by simpa using hi
  rw[bK,k8 b];walk_at "dd";exact⟨IQ (by decide) ae,by rw[IF,JC];exact IQ (by omega) ae,by simp⟩
 ·rintro env ⟨a,rfl⟩;rw[IF,JI];walk_at "dd";exact⟨IQ (by decide) ae,q⟩
theorem Wy.pre{s o:List Int}{x y:Std}{A:List (List Int)}(h:Wy s o x A y):∀i (hi:i<A.length),∃z,Wy s o x (A.take i) z/\Cj s o z A[i]:=by
 induction h with
 | nil=>intro i hi;cases hi
 | @snoc A y r h a b =>
  intro i hi;by_cases e:i<A.length;rw[Kj (JW e),List.getElem_append_left e];exact b i e;have e:i=A.length:=by simp at hi;omega
  subst e;exact⟨y,by simpa using h,by simpa using a⟩
theorem EH(rr:List (List Int))(r:List Int):((lr rr).any λx=>PyData.eqv x (.list (li r)))=decide (r∈rr):=by rw[Kf,List.any_eq_true,decide_eq_true_eq];constructor;rintro⟨x,hx,e⟩;obtain⟨y,a,rfl⟩:=IZ.mp hx;rw[qA,decide_eq_true_eq] at e;exact e▸a;intro h;exact⟨_,Kn h,by rw[qA];simp⟩
theorem r9(rr:List (List Int)):PyData.eqv (.list (lr rr)) (.list [])=decide (rr=[]):=by
 cases rr with
 | nil=>rfl
 | cons r rr=>rfl
abbrev dr:Stmt:=top 60
theorem bR:ak ["_law_town_here", "_law_here", "_law_rows_here", "_law_row"] ["_law_town_here", "_law_here", "_law_rows_here"] (ac dr):=⟨rfl,rfl,rfl,by decide +kernel,rfl,by decide +kernel,by decide +kernel⟩
inductive ie:DSp
 | mk {ss R} (s o:List Int) (Z:List (List Int)) (x y:Std):ss=[.fr (.tuple [.list (li s),.list (li o)]),.fr (stS x),.fr (.list (lr Z))]->TB s o->IsS s o x->Wy s o x Z y->R (.fr (stS y)) [.un,.un,.un]->ie ss R
inductive Hy (s o:List Int) (Z:List (List Int)) (x:Std) (i:Nat):List Sl->Prop
 | mk (z:Std) (a:Sl):Wy s o x (Z.take i) z->Hy s o Z x i [.fr (.tuple [.list (li s),.list (li o)]),.fr (stS z),.fr (.list (lr Z)),a]
theorem jg{f:ap}{fd:kN}(F:Fun K "_law_behind" "_law_behind" dr f fd)(B:Bn mg)(c:Cal P w K mg base "_law_rows" 1 (spD K s9))(b:Cal P w K mg base "_law_after" 1 (spD K nL)):a9 P w K mg base CX0 3 f fd ["_law_town_here", "_law_here", "_law_rows_here"] (spD K ie):=by
 refine okD (k:=2) F bR (λss R h=>?_) (by decide) (λcdv A outer s H E l=>⟨_,(bc (gh PassesOwn.never rfl (aA (qf 2)) (am 3 bR.nd) (af (gF (PW.pt (jz (ay gj rS (qv 1) fb) (jz (gC (wH (K:=K) rfl kr rfl B.isinstance rfl B.list PyProof.Rows.boot_list (qv 3))) (iB (ay (Ii (K:=K) rfl (jw l)) HX (qv 3) (ao c (aa (qf 0) (aa (qf 1) ad)))))))) (af (ax 1 bR.nd (ao b (aa (qf 0) (aa (qf 1) (aa (qf 3) ad)))))) (af (ax 1 bR.nd fb)))))
   (af (aB (qv 1)))),λss R h=>?_⟩)
 obtain⟨s,o,Z,x,y,rfl,_⟩:=h;rfl;obtain⟨s,o,Z,x,y,rfl,tb,ix,hw,q⟩:=h;obtain⟨u,v,m,C,n,D,G⟩:=id tb;walk_at "dx";refine iW (Hy s o Z x) (.mk x _ .nil) (λE hN=>?_) ?_
 ·rintro i env hi ⟨z,a,hz⟩;rw[IF] at hi;have g:Z.take (i+1)=Z.take i++[Z[i]]:=by rw[JT,IK hi];rfl
  rw[gJ,show Z.getD i []=Z[i] by rw[IP,IK hi];rfl];obtain⟨p,e,j⟩:=hw.pre i hi;obtain rfl:z=p:=hz.eq.symm.trans e.eq;have d:=hz.is (λx hx=>(n x hx).1) ix;have hn:=hz.snoc j;rw[<-g] at hn;clear e g;generalize Z[i]=r at *;walk_at "dx";refine⟨s,o,z.2,z.1,rfl,tb,⟨d.1,d.2.1⟩,λrr t=>?_⟩;walk_at "dx";rw[EH,decide_eq_true (t.mem_iff.mpr j)];refine⟨(Sh.ints 0 _).shp (by decide),(Sh.lr 0 rr).shp (by decide),?_⟩;rw[if_pos rfl];refine⟨s,o,z.2,r,z.1,rfl,by omega,m,d.2.1,?_⟩;walk_at "dx";exact .mk _ _ hn
 ·rintro env ⟨z,a,hz⟩;rw[IF,JI] at hz;obtain rfl:z=y:=hz.eq.symm.trans hw.eq;walk_at "dx";exact q
inductive GN (s o:List Int) (A B:List (List Int)) (y:Std) (m:Nat):List Sl->Prop
 | a:m=1->GN s o A B y m [.fr (.tuple [.list (li s),.list (li o)]),.fr (.tuple [.list (lr A),.list (lr B)]),.fr (stS y),.ow []]
 | b:m=0->GN s o A B y m [.fr (.tuple [.list (li s),.list (li o)]),.fr (.tuple [.list (lr A),.list (lr B)]),.fr (stS y),.ow [stS y]]
abbrev cO:Stmt:=top 61
theorem bE:ak ["_law_town_here", "_law_plan", "_law_here", "_law_met"] ["_law_town_here", "_law_plan"] (ac cO):=⟨rfl,rfl,rfl,by decide +kernel,rfl,by decide +kernel,by decide +kernel⟩
inductive jU:DSp
 | mk {ss R} (s o:List Int) (A B:List (List Int)):ss=[.fr (.tuple [.list (li s),.list (li o)]),.fr (.tuple [.list (lr A),.list (lr B)])]->TB s o->Rg s o A B->R (.fr (.bool true)) [.un,.un]->jU ss R
theorem iN{f:ap}{fd:kN}(F:Fun K "_law_goes_on" "_law_goes_on" cO f fd)(B:Bn mg)(d:Cal P w K mg base "_law_begun" 1 (spD K jS))(c:Cal P w K mg base "_law_behind" 3 (spD K ie)):a9 P w K mg base CX0 4 f fd ["_law_town_here", "_law_plan"] (spD K jU):=by
 refine okD (k:=3) F bE (λss R h=>?_) (by decide) (λcdv A outer s H E l=>⟨_,(ai (gF (PW.pt (lB (gE (gC (wH (K:=K) rfl uJ rfl B.isinstance rfl B.tuple PyProof.Rows.boot_tuple (qv 1)))) (lB (ay wY EX (jc B.len (qv 1)) ag) (lB (gE (gC (wH (K:=K) rfl kr rfl B.isinstance rfl B.list PyProof.Rows.boot_list (qx (qv 1) ag)))) (lA (gE (gC (wH (K:=K) rfl kr rfl B.isinstance rfl B.list PyProof.Rows.boot_list (qx (qv 1) ag))))))))) (af (aB wI)) br)
   (ai (gF (PW.pt (lB (ay (Be (K:=K) rfl l.units) mEq (qx (qv 1) ag) (cP ad)) (lA (ay wY EX (bt bi mIC (jc B.len (qx (qv 1) ag)) (jc B.len (qx (qv 0) ag))) ag)))) (af (aB wI)) br)
   (ai (ax 2 bE.nd (ao c (aa (qf 0) (aa (ao d (aa (qf 0) ad)) (aa (qx (qv 1) ag) ad)))))
   (ai (ax 3 bE.nd (cP ad))
   (ai (j4 PassesOwn.never (PW.pt (jz (ay gj rS (qv 2) fb) (iB (ay (Bd (K:=K) rfl (jw l)) A5 (qv 2) (qv 3))))) (ai (eL (rE 3 (K:=K) rfl rfl (qf 2)))
   (af (ax 2 bE.nd (ao c (aa (qf 0) (aa (qf 2) (aa (qx (qv 1) ag) ad))))))))
   (af (aB (jd gj rS (qv 2) fb)))))))),λss R h=>?_⟩)
 obtain⟨s,o,A,B,rfl,_⟩:=h;rfl;obtain⟨s,o,A,B,rfl,tb,p,q⟩:=h;obtain⟨G,I,i,J,t,L,M⟩:=id tb;have hs:∀x∈s,1<=x:=λx hx=>(t x hx).1;have u:=p.mod hs i;obtain⟨⟨y,r,v⟩,g⟩:=p;have C:=r.is hs (is0 hs i);have D:∀Z:List (List Int),(lr Z).length=Z.length:=λZ=>IF ..;walk_at "dx";rw[if_neg (by simp)];walk_at "dx";rw[r9,D B,IF,decide_eq_false (show ¬B=[] fromλz=>by rw[z] at g;simp at g)];refine⟨Jb _,(Sh.lr 0 B).shp (by decide),(Sh.ints 0 []).shp (by decide),?_⟩;rw[if_neg (by decide),show((B.length:Nat):Int) % ((o.length:Nat):Int)=((B.length % o.length:Nat):Int) from rfl,u];refine⟨by omega,?_⟩;rw[if_neg (by decide)];walk_at "dx";refine⟨s,o,rfl,by omega,?_⟩;walk_at "dx";refine⟨s,o,A,(0,s),y,rfl,tb,is0 hs i,r,?_⟩;walk_at "dx";refine⟨Jb _,?_⟩;walk_at "dx";refine v7 (GN s o A B y) ⟨_,.a rfl⟩ λE hM=>?_;have j:Sh 2 (stS y):=Sh.two (Sh.int 1 _) (Sh.intT 0 _);rintro m env (rfl|rfl)
 ·walk_at "dx";refine⟨j.shp (by decide),(Sh.ints 0 []).shp (by decide),?_⟩;rw[if_pos (by simp)];refine⟨IY (by decide) ae,?_⟩;walk_at "dx";refine⟨s,o,B,y,y,rfl,tb,C,v,?_⟩;walk_at "dx";exact⟨0,by omega,.b rfl⟩
 ·walk_at "dx";refine⟨j.shp (by decide),(Sh.list (n:=2) (λx hx=>by rw[IG.mp hx];exact j)).shp (by decide),?_⟩;have e:PyData.eqv (stS y) (stS y)=true:=(BB ((y.1:Int),y.2) ((y.1:Int),y.2)).trans (decide_eq_true rfl);rw[if_neg (by simp[e])];walk_at "dx";exact q
def GR(P:q3)(w:zb)(K:ca)(mg:bx->Option as)(base:bd)(C:ap)(x:bx)(k:Nat)(sp:Sp):Prop :=
 mg x=some (.ref C)/\∃(f:ap) (fd:kN) (ps:List bx),Mk K C f/\a9 P w K mg base CX0 k f fd ps sp/\cV K fd ps []
theorem Dp{X:Cx}{C:ap}{x:bx}{k:Nat}{sp:Sp}{p pos:Pos}(G:GR X.prog X.w X.K X.mg X.base C x k sp)(a:b9 (k+1) X.A)(hg:Gl X x)(hd:(x==("__debug__" : bx))=false:=by decide):PE X (.Call (.Name x p) [] [] pos) (zR C sp [] E0 wb):=by obtain⟨m,f,fd,ps,M,F,b⟩:=G;exact wT M F a hg m b .nil uf hd
theorem Dm{X:Cx}{C:ap}{m nm:bx}{k j2:Nat}{sp:Sp}{o e:bb}{pos apos:Pos}{cpos:Pos}{to te:TE}{pl:Sem Bool}(G:sE X.prog X.w X.K X.mg X.base C m k sp)(h:b9 k X.A)(ho:PE X o to)(i:PE X e te)
  (a:kq [.Constant (.str nm) j2 cpos,e] X.env=(false,eval (.Constant (.str nm) j2 cpos) X.env)::kq [e] X.env:=by rfl) (d:kq [e] X.env=(false,eval e X.env)::kq [] X.env:=by rfl) (g:(ze pos (kq [e] X.env)).any (·.1)=false:=by rfl)
  (ht:eval (.Call (.Attribute o m apos) [.Constant (.str nm) j2 cpos,e] [] pos) X.env=(do
   let ov <-eval o X.env
   K2 apos.atName
   let (f,first) <-KI [ov] (Qu ov m pl)
   Zj pos f first (ze pos (kq [.Constant (.str nm) j2 cpos,e] X.env)) (KU pos (KA [] X.env))):=by rfl) :
  PE X (.Call (.Attribute o m apos) [.Constant (.str nm) j2 cpos,e] [] pos) (sQ C m sp [] E0 to (nj (tC (.str nm)) (nj te wb))):=by obtain⟨c,f,fd,ps,F,b,j⟩:=G;exact ub ho c j F h b .nil uf (cB yN (cB i fM d) a) a g ht
def MtI(K:ca)(C:ap)(m q:bx)(st:Stmt):Prop:=∃(f:ap) (fd:kN),EK K C m f/\Fun K m q st f fd
section
variable {C f:ap}{m q x:bx}{st:Stmt}{ps:List bx}{k:Nat}{sp:Sp}{oc kV doc pm cdv ct:as}{od an:Option ap}{osl:Array (Option as)}
theorem mtI(a:PySem.W.findIn K (.ref C) m=some (some (.ref f)))(i:PySem.W.isFn K (.ref f)=true)(l:K.lookup f=some ⟨oc,od,.func (PySem.W.fnOf m q (cT st) (bI st) (ac st) .none kV doc pm an cdv ct),osl⟩)(c:PySem.W.codeIn K cdv q=true)(kp:PySem.W.keepIn K (.ref f)=true):MtI K C m q st:=⟨f,_,⟨a,i,kp⟩,uW l c kp⟩
theorem Co(g:MtI K C m q st)(c:Cls K C)(b:∀{f:ap}{fd:kN},Fun K m q st f fd->cV K fd ps [])(ok:∀{f:ap}{fd:kN},Fun K m q st f fd->a9 P w K mg base CX0 k f fd ps sp):sE P w K mg base C m k sp:=by obtain⟨f,fd,M,F⟩:=g;exact⟨c,f,fd,ps,ok F,b F,M⟩
theorem Iy(g:MtI K C "__init__" q st)(m:mg x=some (.ref C))(mk:PySem.W.makesIn K C=true)(kc:PySem.W.keepIn K (.ref C)=true)(b:∀{f:ap}{fd:kN},Fun K "__init__" q st f fd->cV K fd ps [])(ok:∀{f:ap}{fd:kN},Fun K "__init__" q st f fd->a9 P w K mg base CX0 k f fd ps sp):GR P w K mg base C x k sp:=by obtain⟨f,fd,M,F⟩:=g;exact⟨m,f,fd,ps,⟨mk,M.at_,M.fn,kc⟩,ok F,b F⟩
end
abbrev jY:Stmt:=top 24
theorem tE:ak ["town"] ["town"] (ac jY):=⟨rfl,rfl,rfl,by decide +kernel,rfl,by decide +kernel,by decide +kernel⟩
inductive fD:DSp
 | mk {ss R} (s o:List Int):ss=[.fr (.tuple [.list (li s),.list (li o)])]->R (.fr (.tuple [.list (li s),.list (li o)])) [.un]->fD ss R
theorem ux{f:ap}{fd:kN}(F:Fun K "copied" "copied" jY f fd)(B:Bn mg):a9 P w K mg base CX0 1 f fd ["town"] (spD K fD):=by refine okD (k:=0) F tE (λss R h=>?_) (by decide) (λcdv A outer s H E a=>⟨_,(af (aB (cG (aa (pX (K:=K) rfl rfl B.list (aa (qx (qv 0) ag) ad)) (aa (pX (K:=K) rfl rfl B.list (aa (qx (qv 0) ag) ad)) ad))))),λss R h=>?_⟩);obtain⟨s,o,rfl,_⟩:=h;rfl;obtain⟨s,o,rfl,q⟩:=h;walk_at "dd";exact⟨IQ (by decide) ae,q⟩
def yW(d:ab):Prop:=∃s o:List Int,d=.tuple [.list (li s),.list (li o)]
abbrev tH:Stmt:=fg (top 25) 0
theorem Aa:ak ["self"] ["self"] (ac tH):=⟨rfl,rfl,rfl,by decide +kernel,rfl,by decide +kernel,by decide +kernel⟩
abbrev Ab:Stmt:=fg (top 25) 1
theorem CJ:ak ["self", "name", "town"] ["self", "name", "town"] (ac Ab):=⟨rfl,rfl,rfl,by decide +kernel,rfl,by decide +kernel,by decide +kernel⟩
section
variable {f C:ap}{fd:kN}
theorem AZ(F:Fun K "__init__" "Desk.__init__" tH f fd)(c:Cls K C)(na:cN K C "towns"):a9 P w K mg base CX0 1 f fd ["self"] (zW C):=by
 refine F.ok (k:=0) Aa (λvs H Q E h=>?_) λcdv A outer s H vs Q E d h=>⟨GX K (vR 0) CF "towns",j6 (Dg (bu rfl cc) AL rfl),?_⟩
 obtain⟨x,dx,rfl,_⟩:=h;rfl;obtain⟨x,dx,rfl,hx,a⟩:=h;intro b nb;exact⟨.ref x,rfl,x,C,dx,[],rfl,by rw[al (au hx nb)];exact hx,c,na,by decide,a b nb⟩
theorem DB(F:Fun K "put" "Desk.put" Ab f fd)(c:Cls K C)(na:cN K C "towns")(g:Cal P w K mg base "copied" 1 (spD K fD)):a9 P w K mg base CX0 2 f fd ["self", "name", "town"] (zT K C yW):=by
 refine F.ok (k:=1) CJ (λvs H Q E h=>?_) λcdv A outer s H vs Q E n h=>⟨GT (GU (zP (tOp G9 (vR 1) (Ft K (vR 0) "towns"))) yp CB) (Cd (nq (spD K fD) [] E0 (nj (vR 2) wb)) (Hg (Ft K (vR 0) "towns") (vR 1) CN)),
  gW (De (tU Dx (bu rfl cc) (ue (bu rfl cc) rfl) (by with_unfolding_all rfl)) (j6 wN) tV) (j6 (tX (lG g (n.mono (by decide)) rfl (cB (bu rfl cc) fM)) (ua (ue (bu rfl cc) rfl) (bu rfl cc) FB))),?_⟩
 obtain⟨x,dx,b,nm,v,d,N,rfl,_⟩:=h;rfl;obtain⟨x,dx,b,nm,v,d,N,rfl,hx,j,y,live,dn,⟨s,o,rfl⟩,q⟩:=h;refine⟨.str nm,rfl,.ref x,rfl,x,C,dx,_,.ref b,rfl,hx,c,na,rfl,nm,b,rfl,rfl,j,false,rfl,?_⟩;show(if false=true then _ else _);rw[if_neg (by decide)];refine⟨v,rfl,N,[.fr (.tuple [.list (li s),.list (li o)])],λr _=>r=.fr (.tuple [.list (li s),.list (li o)]),rfl,mZ (ds:=[_]) (.cons dn .nil) live,.mk s o rfl rfl,λr t p l u _ m=>?_⟩;subst u;have same:aS H l:=(m.keep.mono (M:=N0) λa z=>by
  have z:a∈oas (tmp ([v].zip ([PyData.tuple [.list (li s),.list (li o)]].map Sl.fr))):=z;rw[fN] at z;cases z).none
 obtain⟨B,ep,i⟩:=m.fr (some p) _ IL;cases ep;exact⟨.ref x,rfl,x,C,dx,_,.ref b,rfl,same _ _ hx,c,na,rfl,.str nm,rfl,nm,b,rfl,rfl,same _ _ j,q p l same (i.to λa o e z=>.inl z)⟩
end
section
variable {f C:ap}{fd:kN}
abbrev iA:Stmt:=fg (top 25) 9
theorem rB:ak ["self", "name"] ["self", "name"] (ac iA):=⟨rfl,rfl,rfl,by decide +kernel,rfl,by decide +kernel,by decide +kernel⟩
inductive fC (C:ap):DSp
 | mk {ss R} (nm:bx) (d:ab):ss=[.fr (jK C nm d),.fr (.str nm)]->R (.fr d) [.un,.un]->fC C ss R
theorem rN(F:Fun K "look_up" "Desk.look_up" iA f fd)(B:Bn mg)(c:Cls K C)(na:cN K C "towns"):a9 P w K mg base CX0 1 f fd ["self", "name"] (spD K (fC C)):=by refine okD (k:=0) F rB (λss R h=>?_) (by decide) (λcdv A outer s H E a=>⟨_,(bc (gF (ay AT FV (qv 1) (Ap rfl c na (qv 0))) (af iF) br) (af (aB (C4 Ik HS (Ap rfl c na (qv 0)) (qv 1))))),λss R h=>?_⟩);obtain⟨nm,d,rfl,_⟩:=h;rfl;obtain⟨nm,d,rfl,q⟩:=h;walk_at "dx";refine⟨nm,d,rfl,nm,d,rfl,?_⟩;rw[if_neg (λz=>z rfl)];exact⟨nm,d,rfl,nm,d,rfl,rfl,q⟩
abbrev nS:Stmt:=fg (top 25) 4
theorem wx:ak ["self"] ["self"] (ac nS):=⟨rfl,rfl,rfl,by decide +kernel,rfl,by decide +kernel,by decide +kernel⟩
inductive nG (C:ap):DSp
 | mk {ss R} (nm:bx) (d:ab):ss=[.fr (jK C nm d)]->R (.ow [.str nm]) [.un]->nG C ss R
theorem w4(F:Fun K "names" "Desk.names" nS f fd)(B:Bn mg)(c:Cls K C)(na:cN K C "towns"):a9 P w K mg base CX0 1 f fd ["self"] (spD K (nG C)):=by refine okD (k:=0) F wx (λss R h=>?_) (by decide) (λcdv A outer s H E a=>⟨_,(af (aB (CW rfl rfl (jw a) rfl B.sorted (aa (Ap rfl c na (qv 0)) ad)))),λss R h=>?_⟩);obtain⟨nm,d,rfl,_⟩:=h;rfl;obtain⟨nm,d,rfl,q⟩:=h;walk_at "dx";exact⟨nm,d,rfl,nm,d,rfl,q⟩
abbrev tF:Stmt:=fg (top 25) 5
theorem z8:ak ["self", "name"] ["self", "name"] (ac tF):=⟨rfl,rfl,rfl,by decide +kernel,rfl,by decide +kernel,by decide +kernel⟩
inductive nw (C:ap):DSp
 | mk {ss R} (nm:bx) (s o:List Int):ss=[.fr (jK C nm (.tuple [.list (li s),.list (li o)])),.fr (.str nm)]->R (.fr (.tuple [.list (li s),.list (li o)])) [.un,.un]->nw C ss R
theorem AX(F:Fun K "town" "Desk.town" tF f fd)(B:Bn mg)(c:Cls K C)(na:cN K C "towns")(a:sE P w K mg base C "look_up" 1 (spD K (fC C)))(b:Cal P w K mg base "copied" 1 (spD K fD)):a9 P w K mg base CX0 2 f fd ["self", "name"] (spD K (nw C)):=by refine okD (k:=1) F z8 (λss R h=>?_) (by decide) (λcdv A outer s H E d=>⟨_,(af (aB (ao b (aa (jB a rfl (d.mono (by decide)) (qv 0) (aa (qf 1) ad)) ad)))),λss R h=>?_⟩);obtain⟨nm,s,o,rfl,_⟩:=h;rfl;obtain⟨nm,s,o,rfl,q⟩:=h;walk_at "dx";refine⟨⟨nm,_,rfl⟩,nm,_,rfl,?_⟩;walk_at "dx";refine⟨s,o,rfl,?_⟩;walk_at "dx";exact q
abbrev tG:Stmt:=fg (top 25) 6
theorem z9:ak ["self", "name"] ["self", "name"] (ac tG):=⟨rfl,rfl,rfl,by decide +kernel,rfl,by decide +kernel,by decide +kernel⟩
inductive nC (C:ap):DSp
 | mk {ss R} (nm:bx) (s o:List Int):ss=[.fr (jK C nm (.tuple [.list (li s),.list (li o)])),.fr (.str nm)]->TbL s o->(∀P,fV s o P->R (.fr .none) [.un,.un])->(∀A B:List (List Int),Rg s o A B->A.length+B.length<64->R (.fr (.tuple [.list (lr A),.list (lr B)])) [.un,.un])->nC C ss R
theorem AY(F:Fun K "plan" "Desk.plan" tG f fd)(B:Bn mg)(c:Cls K C)(na:cN K C "towns")(a:sE P w K mg base C "look_up" 1 (spD K (fC C)))(b:Cal P w K mg base "plan_of" 10 (spD K jQ)):a9 P w K mg base CX0 11 f fd ["self", "name"] (spD K (nC C)):=by
 refine okD (k:=10) F z9 (λss R h=>?_) (by decide) (λcdv A outer s H E d=>⟨_,(af (aB (ao b (aa (jB a rfl (d.mono (by decide)) (qv 0) (aa (qf 1) ad)) ad)))),λss R h=>?_⟩);obtain⟨nm,s,o,rfl,_⟩:=h;rfl;obtain⟨nm,s,o,rfl,t,e,g⟩:=h;walk_at "dx";refine⟨⟨nm,_,rfl⟩,nm,_,rfl,?_⟩;walk_at "dx";refine⟨s,o,rfl,t,λP i=>?_,λA B h1 h2=>?_⟩
 ·walk_at "dx";exact e P i
 ·walk_at "dx";exact g A B h1 h2
abbrev nR:Stmt:=fg (top 25) 7
theorem ww:ak ["self", "name"] ["self", "name"] (ac nR):=⟨rfl,rfl,rfl,by decide +kernel,rfl,by decide +kernel,by decide +kernel⟩
inductive jR (C:ap):DSp
 | mk {ss R} (nm:bx) (s o:List Int):ss=[.fr (jK C nm (.tuple [.list (li s),.list (li o)])),.fr (.str nm)]->TbL s o->(∀A B,Rg s o A B->R (.fr .none) [.un,.un])->(∀P:List (Std×Int),fV s o P->P.length<64->R (.ow (wW P)) [.un,.un])->jR C ss R
theorem wZ(F:Fun K "paper" "Desk.paper" nR f fd)(B:Bn mg)(c:Cls K C)(na:cN K C "towns")(b:sE P w K mg base C "look_up" 1 (spD K (fC C)))(a:Cal P w K mg base "paper_of" 10 (spD K nE)):a9 P w K mg base CX0 11 f fd ["self", "name"] (spD K (jR C)):=by
 refine okD (k:=10) F ww (λss R h=>?_) (by decide) (λcdv A outer s H E d=>⟨_,(af (aB (ao a (aa (jB b rfl (d.mono (by decide)) (qv 0) (aa (qf 1) ad)) ad)))),λss R h=>?_⟩);obtain⟨nm,s,o,rfl,_⟩:=h;rfl;obtain⟨nm,s,o,rfl,t,e,g⟩:=h;walk_at "dx";refine⟨⟨nm,_,rfl⟩,nm,_,rfl,?_⟩;walk_at "dx";refine⟨s,o,rfl,t,λA B h1=>?_,λP h1 h2=>?_⟩
 ·walk_at "dx";exact e A B h1
 ·walk_at "dx";exact g P h1 h2
end
abbrev bS:Stmt:=top 39
theorem ik:ak ["numbers", "between"] ["numbers", "between"] (ac bS):=⟨rfl,rfl,rfl,by decide +kernel,rfl,by decide +kernel,by decide +kernel⟩
def nz:DSp:=λss R=>∃(ns:List Int) (c:Nat),ss=[.fr (.list (li ns)),.fr (.str (sgn c))]/\NB ns/\R (.fr (.str (Str.join (sgn c) (ns.map num)))) [.un,.un]
theorem wj(ns:List Int):(List.range (li ns).length).map (λi=>PyData.str (num (ns.getD i 0)))=(ns.map num).map PyData.str:=by rw[IF,bO ns 0 (λn=>PyData.str (num n)),Jq];rfl
theorem iL{f:ap}{fd:kN}(F:Fun K "show_numbers" "show_numbers" bS f fd)(B:Bn mg):a9 P w K mg base CX0 1 f fd ["numbers", "between"] (spD K nz):=by
 refine okD (k:=0) F ik (λss R h=>?_) (by decide) (λcdv A outer s H E d=>⟨_,(af (aB (yJ (K:=K) rfl (qv 1) (bX (NN:=_::_) (sc0:=ac bS) (N':=["number"]) (ix:=[none]) (aA (qf 0)) (λ_ _ _ _=>(am 0 (show List.Nodup (["number"]:List bx) by decide +kernel))) (λ_ _ _ _=>(C6 mQ HL rfl B.str PyProof.Rows.boot_str (aa (qv 0) ad))))))),λss R h=>?_⟩);obtain⟨ns,c,rfl,_⟩:=h;rfl;obtain⟨ns,c,rfl,hn,q⟩:=h;walk_at "dd";refine bA (λi=>.str (num (ns.getD i 0))) (by rw[IF];have:=hn.1;omega) (λi hi Q b=>?_) ?_
 ·rw[bK];have a:i<ns.length:=by simpa using hi
  have hl:=hn.log (aE a);walk_at "dd";exact⟨hl,b⟩
 rw[wj];walk_at "dd";exact⟨ns.map num,rfl,IQ (hn.lens (by show 1<=10;decide)) (by decide),q⟩
abbrev eQ:Stmt:=top 40
theorem lj:ak ["town"] ["town"] (ac eQ):=⟨rfl,rfl,rfl,by decide +kernel,rfl,by decide +kernel,by decide +kernel⟩
def DK(a b:List Int):bx:=Str.join (sgn 32) (a.map num)++bar++Str.join (sgn 32) (b.map num)
def sZ:DSp:=λss R=>∃a b:List Int,ss=[.fr (.tuple [.list (li a),.list (li b)])]/\NB a/\NB b/\R (.fr (.str (DK a b))) [.un]
theorem lM{f:ap}{fd:kN}(F:Fun K "show_town" "show_town" eQ f fd)(B:Bn mg){e:Tok}{d:bx}(g:mg "BETWEEN" = some (.str d e))(e_BETWEEN:d=Str.ofString " | ")(c:Cal P w K mg base "show_numbers" 1 (spD K nz)):a9 P w K mg base CX0 2 f fd ["town"] (spD K sZ):=by
 refine okD (k:=1) F lj (λss R h=>?_) (by decide) (λcdv A outer s H E l=>⟨_,(af (aB (bt d5 xo (bt d5 xo (ao c (aa (qx (qv 0) ag) (aa fL ad))) (dP rfl g)) (ao c (aa (qx (qv 0) ag) (aa fL ad)))))),λss R h=>?_⟩);obtain⟨a,b,rfl,_⟩:=h;rfl;obtain⟨a,b,rfl,i,j,q⟩:=h;subst e_BETWEEN;walk_at "dx";refine⟨a,32,rfl,i,?_⟩;walk_at "dx";have la:=d6 i 32;have m:=d6 j 32;have l3:(Str.ofString " | ").length=3:=by decide +kernel
 refine⟨by omega,b,32,rfl,j,?_⟩;walk_at "dx";refine⟨?_,q⟩;rw[Str.length_append];omega
abbrev ck:Stmt:=top 44
theorem eJ:ak ["text", "fits"] ["text"] (ac ck):=⟨rfl,rfl,rfl,by decide +kernel,rfl,by decide +kernel,by decide +kernel⟩
def tp:DSp:=λss R=>∃n:Int,ss=[.fr (.str (num n))]/\0<=n/\n<10 ^ 40/\R (.fr (.int n)) [.un]
theorem je{f:ap}{fd:kN}(F:Fun K "read_number" "read_number" ck f fd)(B:Bn mg){l:Tok}{g:bx}(m:mg "FIGURES" = some (.str g l))(e_FIGURES:g=Str.ofString "0123456789"){b:Tok}{a:Int}(d:mg "MOST_FIGURES" = some (.int a b))(e_MOST_FIGURES:a=40):a9 P w K mg base CX0 1 f fd ["text"] (spD K tp):=by
 refine okD (k:=0) F eJ (λss R h=>?_) (by decide) (λcdv A outer s H E y=>⟨_,(pV (ax 1 eJ.nd (rF (j5 ou mB ou mB ag (tS mS FW rfl B.len PySem.boot_len (aa (qv 0) ad)) (tR rfl d)) (tQ (tS (Ch (K:=K) rfl rfl) Cg rfl B.all PyProof.Rows.boot_all (aa (bX (NN:=_::_) (sc0:=ac ck) (N':=["sign"]) (ix:=[none]) (CV (qv 0)) (λ_ _ _ _=>(am 0 (show List.Nodup (["sign"]:List bx) by decide +kernel))) (λ_ _ _ _=>(jd ut HV (qv 0) (dP rfl m)))) ad)))))
   (bc (gF (PW.pt (lB (gE (gC (qv 1))) (lA (PW.pt (jz (ay (Be (K:=K) rfl y.units) mEq (C4 D7 HQ (qv 0) ag) fL) (iB (ay (E3 (K:=K) rfl y.units) mNe (qv 0) fL))))))) (af iF) br)
   (af (aB (C6 F3 FX rfl B.int PyProof.Rows.boot_int (aa (qv 0) ad)))))),λss R h=>?_⟩)
 obtain⟨n,rfl,_⟩:=h;rfl;obtain⟨n,rfl,o,h1,q⟩:=h;subst e_FIGURES;subst e_MOST_FIGURES;have hl:=oF o (by decide) h1;walk_at "dd";refine⟨λenv=>env=[.fr (.str (num n)),.fr (.bool true)],?_,?_⟩
 ·walk_at "dd";rw[if_pos (by omega),if_pos (by omega)];have u:(num n).cps.toList.length=(num n).length:=by simp[Str.length]
  refine⟨by omega,uB o,?_⟩;refine bA (λ_=>.bool true) (by rw[IF];omega) (λi hi Q D=>?_) ?_
  ·rw[Jn];have p:i<(num n).cps.toList.length:=by simpa using hi
   have hd:=bP o ((num n).cps.toList[i]'p) (Ju _);generalize (num n).cps.toList[i]'p=c at *;walk_at "dd";rw[fig c hd];exact D
  ·have e:∀k:Nat,(List.range k).map (λ_=>PyData.bool true)=(JN k true).map PyData.bool:=λk=>by
    rw[List.map_replicate];apply JJ;simp;intro i h1 h2;simp
   rw[e];walk_at "dd";simp
 ·rintro env rfl;walk_at "dd";have v:∀x:bx,(∀c∈cpl x,c<1000)->shp (.str x):=λx hx=>tu (by
   unfold PyData.strOk;rw[Array.all_eq_true_iff_forall_mem];intro c hc;have:=hx c (by simpa[cpl] using hc);simp;omega)
  have C:shp (PyData.str (Str.ofString "0")):=v _ (by decide +kernel);have G:cpl (Str.ofString "0")=[48]:=by decide +kernel
  obtain⟨c,r,e⟩:∃c r,(num n).cps.toList=c::r:=by
   cases e:(num n).cps.toList with
   | nil =>
    have u:(num n).cps.toList.length=(num n).length:=by simp[Str.length]
    rw[e] at u;simp at u;omega
   | cons c r=>exact⟨c,r,rfl⟩
  have hc:=bP o c (by show c∈(num n).cps.toList;rw[e];simp);have fin:∃x,intText? (num n)=some x/\(num n).length<=640/\R (Sl.fr (PyData.int x)) [Sl.un]:=⟨n,xf o (Int.lt_of_lt_of_le h1 (by decide)),by omega,q⟩
  refine⟨by omega,c,by rw[e];exact cU (j:=0) (xs:=c::r) rfl,v _ (λx hx=>by have hx:x∈[c]:=hx;rw[IG.mp hx];omega),C,kP (λh=>⟨v _ (λx hx=>by have:=bP o x hx;omega),C,?_⟩) (λh=>fin)⟩;have t:c=48:=by have:=congrArg cpl h;rw[G] at this;have:[c]=[48]:=this;simpa using this
  have I:n=0:=xc o (by show(num n).cps.toList[0]? = _;rw[e,t];rfl);subst I;rw[if_neg (λz=>z rfl)];exact fin
abbrev bT:Stmt:=top 45
theorem im:ak ["text", "between"] ["text", "between"] (ac bT):=⟨rfl,rfl,rfl,by decide +kernel,rfl,by decide +kernel,by decide +kernel⟩
def jP:DSp:=λss R=>∃(ns:List Int) (c:Nat),ss=[.fr (.str (Str.join (sgn c) (ns.map num))),.fr (.str (sgn c))]/\NB ns/\ns≠[]/\c<48/\R (.ow (li ns)) [.un,.un]
theorem iM{f:ap}{fd:kN}(F:Fun K "read_numbers" "read_numbers" bT f fd)(B:Bn mg)(a:Cal P w K mg base "read_number" 1 (spD K tp)):a9 P w K mg base CX0 2 f fd ["text", "between"] (spD K jP):=by
 refine okD (k:=1) F im (λss R h=>?_) (by decide) (λcdv A outer s H E l=>⟨_,(af (aB (bX (NN:=_::_) (sc0:=ac bT) (N':=["part"]) (ix:=[none]) (aA (og (K:=K) rfl (qv 0) (qv 1))) (λ_ _ _ _=>(am 0 (show List.Nodup (["part"]:List bx) by decide +kernel))) (λ_ _ _ _=>(ao a (aa (qf 0) ad)))))),λss R h=>?_⟩);obtain⟨ns,c,rfl,_⟩:=h;rfl;obtain⟨ns,c,rfl,hn,d,hc,q⟩:=h;walk_at "dd";refine⟨rfl,IQ (d6 hn c) (by decide),?_⟩;rw[rp hn d hc];refine bA (λi=>.int (ns.getD i 0)) (by rw[IF,IF];have:=hn.1;omega) (λi hi Q j=>?_) ?_
 ·have b:i<ns.length:=by simpa using hi
  have g:=hn.2 _ (aE b);have e:((ns.map num).map PyData.str)[i]=PyData.str (num (ns.getD i 0)):=by rw[Jn,Jn,IP,IK b];rfl
  rw[e];walk_at "dd";refine⟨_,rfl,g.1,g.2,?_⟩;walk_at "dd";exact j
 have e:(List.range ((ns.map num).map PyData.str).length).map (λi=>PyData.int (ns.getD i 0))=li ns:=by rw[IF,IF,bO ns 0 (λn=>PyData.int n)]
 rw[e];walk_at "dd";exact q
abbrev jX:Stmt:=top 46
theorem ly:ak ["line", "parts"] ["line"] (ac jX):=⟨rfl,rfl,rfl,by decide +kernel,rfl,by decide +kernel,by decide +kernel⟩
def jT:DSp:=λss R=>∃A a:bx,ss=[.fr (.str (A++bar++a))]/\124 ∉ cpl A/\124 ∉ cpl a/\A.length+a.length<=90000/\R (.ow [.str A,.str a]) [.un]
theorem uw{f:ap}{fd:kN}(F:Fun K "halves" "halves" jX f fd)(B:Bn mg){b:Tok}{a:bx}(c:mg "BETWEEN" = some (.str a b))(e_BETWEEN:a=Str.ofString " | "):a9 P w K mg base CX0 1 f fd ["line"] (spD K jT):=by
 refine okD (k:=0) F ly (λss R h=>?_) (by decide) (λcdv A outer s H E j=>⟨_,(bc (ax 1 ly.nd (og (K:=K) rfl (qv 0) (dP rfl c)))
   (bc (gF (ay wY EX (jc B.len (qv 1)) ag) (af iF) br)
   (af (aB (qv 1))))),λss R h=>?_⟩)
 obtain⟨d,e,rfl,_⟩:=h;rfl;obtain⟨d,e,rfl,g,i,hl,q⟩:=h;subst e_BETWEEN;walk_at "dd";have l3:bar.length=3:=by decide +kernel
 rw[show Str.ofString " | " = bar from rfl,sW g i];refine⟨by decide +kernel,by rw[Str.length_append,Str.length_append];omega,?_⟩;rw[if_neg (by simp)];exact q
abbrev eU:Stmt:=top 47
theorem dJ:ak ["line", "parts", "spans"] ["line"] (ac eU):=⟨rfl,rfl,rfl,by decide +kernel,rfl,by decide +kernel,by decide +kernel⟩
def tm:DSp:=λss R=>∃a b:List Int,ss=[.fr (.str (DK a b))]/\NB a/\NB b/\a≠[]/\b≠[]/\(∀x∈a,1<=x)/\∀S,R (.tr S (.tuple [.list (li a),.list (li b)])) [.un]
theorem lP{f:ap}{fd:kN}(F:Fun K "read_town" "read_town" eU f fd)(B:Bn mg)(d:Cal P w K mg base "halves" 1 (spD K jT))(c:Cal P w K mg base "read_numbers" 2 (spD K jP)):a9 P w K mg base CX0 3 f fd ["line"] (spD K tm):=by
 refine okD (k:=2) F dJ (λss R h=>?_) (by decide) (λcdv A outer s H E i=>⟨_,(ai (ax 1 dJ.nd (ao d (aa (qf 0) ad)))
   (ai (ax 2 dJ.nd (ao c (aa (qx (qv 1) ag) (aa fL ad))))
   (ai (gF (ay (kIn (K:=K) rfl) mIn ag (qv 2)) (af iF) br)
   (af (aB (yG (aa (C2 2) (aa (ao c (aa (qx (qv 1) ag) (aa fL ad))) ad)))))))),λss R h=>?_⟩)
 obtain⟨a,b,rfl,_⟩:=h;rfl;obtain⟨a,b,rfl,e,g,na,nb,h1,q⟩:=h;walk_at "dx";refine⟨_,_,rfl,p9 e (by decide),p9 g (by decide),by have:=d6 e 32;have:=d6 g 32;omega,?_⟩;walk_at "dx";refine⟨a,32,rfl,e,na,by decide,?_⟩;walk_at "dx";rw[if_neg (λz=>by have:=h1 0 z;omega)];walk_at "dx";refine⟨b,32,rfl,g,nb,by decide,?_⟩;walk_at "dx";exact⟨IQ (by decide) ae,q⟩
theorem pG{x:bx}(hx:∀c∈cpl x,c<1000):shp (.str x):=tu (by
 unfold PyData.strOk;rw[Array.all_eq_true_iff_forall_mem];intro c hc;have:=hx c (by simpa[cpl] using hc);simp;omega)
abbrev fG:Stmt:=top 10
theorem lw:ak ["row", "clocks", "rising"] ["row", "clocks"] (ac fG):=⟨rfl,rfl,rfl,by decide +kernel,rfl,by decide +kernel,by decide +kernel⟩
structure Rs(r:List Int):Prop where
 nb : NB r
 up : r.Pairwise (·<·)
 lt : ∀x∈r,0<=x/\x<1000
inductive nJ:DSp
 | mk {ss R} (r:List Int):ss=[.fr (.list (li r)),.fr (.int 1000)]->Rs r->R (.fr (.bool true)) [.un,.un]->nJ ss R
theorem uv{f:ap}{fd:kN}(F:Fun K "is_row" "is_row" fG f fd)(B:Bn mg):a9 P w K mg base CX0 1 f fd ["row", "clocks"] (spD K nJ):=by
 refine okD (k:=0) F lw (λss R h=>?_) (by decide) (λcdv A outer s H E a=>⟨_,(ai (ax 2 lw.nd (tS (Ch (K:=K) rfl rfl) Cg rfl B.all PyProof.Rows.boot_all (aa (bX (NN:=_::_) (sc0:=ac fG) (N':=["one", "other"]) (ix:=[none,none]) (Ai (K:=K) rfl rfl B.zip (aa (qf 0) (aa (tP (K:=K) rfl (qv 0) (eW ag) eX) ad))) (λ_ _ _ _=>(iE (K:=K) (n:=2) rfl rfl (bf (am 0 (show List.Nodup (["one", "other"]:List bx) by decide +kernel)) (bf (am 1 (show List.Nodup (["one", "other"]:List bx) by decide +kernel)) eZ)))) (λ_ _ _ _=>(jd ur mB (qv 0) (qv 1)))) ad)))
   (af (aB (rF (qv 2) (tQ (tS (Ch (K:=K) rfl rfl) Cg rfl B.all PyProof.Rows.boot_all (aa (bX (NN:=_::_) (sc0:=ac fG) (N':=["clock", "clocks"]) (ix:=[none,some 1]) (aA (qf 0)) (λ_ _ _ _=>(am 0 (show List.Nodup (["clock", "clocks"]:List bx) by decide +kernel))) (λ_ _ _ _=>(j5 ou mB ur mB ag (qv 0) (qv 1)))) ad))))))),λss R h=>?_⟩)
 obtain⟨r,rfl,_⟩:=h;rfl;obtain⟨r,rfl,a,q⟩:=h;walk_at "dx";rw[show(some (1:Int))=some ((1:Nat):Int) from rfl,qS];refine bA (λ_=>.bool true) (by rw[ci,IF];have:=a.nb.1;omega) (λi hi Q b=>?_) ?_
 ·rw[pb,bK,bK];rw[ci,IF,IF,Kc] at hi;have e:(r.drop 1).getD i 0=r.getD (i+1) 0:=by simp[IP,List.getElem?_drop,Nat.add_comm]
  rw[e];have lt:r.getD i 0<r.getD (i+1) 0:=by have:=Ko.mp a.up i (i+1) (by omega) (by omega) (by omega);rwa [IP,IK (by omega),IP,IK (by omega)]
  walk_at "dx";rw[decide_eq_true lt];exact b
 rw[dQ];walk_at "dx";rw[dY];walk_at "dx";refine bA (λ_=>.bool true) (by rw[IF];have:=a.nb.1;omega) (λi hi Q b=>?_) ?_
 ·rw[bK];have c:=a.lt _ (aE (l:=r) (k:=i) (by simpa using hi));walk_at "dx";rw[if_pos c.1,decide_eq_true c.2];exact b
 rw[dQ];walk_at "dx";rw[dY];exact q
abbrev f8:Stmt:=top 41
theorem nO:ak ["row"] ["row"] (ac f8):=⟨rfl,rfl,rfl,by decide +kernel,rfl,by decide +kernel,by decide +kernel⟩
inductive ia (ss:List Sl) (R:Sl->List Sl->Prop):Prop
 | mk (r:List Int):ss=[.fr (.list (li r))]->NB r->R (.fr (.str (gz r))) [.un]->ia ss R
theorem ox{f:ap}{fd:kN}(F:Fun K "show_row" "show_row" f8 f fd)(B:Bn mg){c:Tok}{a:bx}(d:mg "NO_CLOCKS" = some (.str a c))(e_NO_CLOCKS:a=Str.ofString "-")(b:Cal P w K mg base "show_numbers" 1 (spD K nz)):a9 P w K mg base CX0 2 f fd ["row"] (spD K ia):=by
 refine okD (k:=1) F nO (λss R h=>?_) (by decide) (λcdv A outer s H E e=>⟨_,(af (aB (gg (gU (K:=K) rfl (qv 0)) (ao b (aa (qf 0) (aa fL ad))) (dP rfl d)))),λss R h=>?_⟩);obtain⟨r,rfl,_⟩:=h;rfl;obtain⟨r,rfl,hn,q⟩:=h;subst e_NO_CLOCKS;unfold gz at q;walk_at "dx";by_cases h:r=[]
 subst h;rw[if_pos rfl] at q;exact q;rw[if_neg h] at q;rw[if_pos (by cases r with|nil=>exact absurd rfl h|cons x r=>rfl)];exact⟨r,44,rfl,hn,_,rfl,q⟩
abbrev de:Stmt:=top 42
theorem lm:ak ["rows"] ["rows"] (ac de):=⟨rfl,rfl,rfl,by decide +kernel,rfl,by decide +kernel,by decide +kernel⟩
inductive fY (ss:List Sl) (R:Sl->List Sl->Prop):Prop
 | mk (rs:List (List Int)):ss=[.fr (.list (lr rs))]->(∀r∈rs,NB r)->rs.length<=64->R (.fr (.str (dU rs))) [.un]->fY ss R
theorem lN{f:ap}{fd:kN}(F:Fun K "show_rows" "show_rows" de f fd)(B:Bn mg){c:Tok}{a:bx}(d:mg "NO_ROWS" = some (.str a c))(e_NO_ROWS:a=Str.ofString ".")(b:Cal P w K mg base "show_row" 2 (spD K ia)):a9 P w K mg base CX0 3 f fd ["rows"] (spD K fY):=by
 refine okD (k:=2) F lm (λss R h=>?_) (by decide) (λcdv A outer s H E m=>⟨_,(af (aB (gg (gU (K:=K) rfl (qv 0)) (yJ (K:=K) rfl fL (bX (NN:=_::_) (sc0:=ac de) (N':=["row"]) (ix:=[none]) (aA (qf 0)) (λ_ _ _ _=>(am 0 (show List.Nodup (["row"]:List bx) by decide +kernel))) (λ_ _ _ _=>(ao b (aa (qf 0) ad))))) (dP rfl d)))),λss R h=>?_⟩);obtain⟨rs,rfl,_⟩:=h;rfl;obtain⟨rs,rfl,hn,hl,q⟩:=h;subst e_NO_ROWS;unfold dU at q;walk_at "dx";by_cases h:rs=[]
 subst h;rw[if_pos rfl] at q;exact q
 ·rw[if_neg h] at q;rw[if_pos (by cases rs with|nil=>exact absurd rfl h|cons x r=>rfl)];refine bA (λi=>.str (gz (rs.getD i []))) (by rw[IF];omega) (λi hi Q g=>?_) ?_
  ·rw[gJ];have j:=hn _ (bZ (l:=rs) (k:=i) (by simpa using hi));walk_at "dx";refine⟨_,rfl,j,?_⟩;walk_at "dx";exact g
  have e:(List.range (lr rs).length).map (λi=>PyData.str (gz (rs.getD i [])))=(rs.map gz).map PyData.str:=by rw[IF,bO rs [] (λr=>PyData.str (gz r)),Jq];rfl
  rw[e];walk_at "dx";exact⟨rs.map gz,rfl,IQ (lz hn (by omega) (by decide +kernel)) (by decide),q⟩
abbrev eR:Stmt:=top 43
theorem ln:ak ["plan"] ["plan"] (ac eR):=⟨rfl,rfl,rfl,by decide +kernel,rfl,by decide +kernel,by decide +kernel⟩
inductive fZ (ss:List Sl) (R:Sl->List Sl->Prop):Prop
 | mk (a b:List (List Int)):ss=[.fr (.tuple [.list (lr a),.list (lr b)])]->(∀r∈a,NB r)->(∀r∈b,NB r)->a.length<=64->b.length<=64->b≠[]->R (.fr (.str (AA a b))) [.un]->fZ ss R
theorem lO{f:ap}{fd:kN}(F:Fun K "show_plan" "show_plan" eR f fd)(B:Bn mg){e:Tok}{d:bx}(g:mg "BETWEEN" = some (.str d e))(e_BETWEEN:d=Str.ofString " | ")(c:Cal P w K mg base "show_rows" 3 (spD K fY)):a9 P w K mg base CX0 4 f fd ["plan"] (spD K fZ):=by
 refine okD (k:=3) F ln (λss R h=>?_) (by decide) (λcdv A outer s H E p=>⟨_,(af (aB (bt d5 xo (bt d5 xo (ao c (aa (qx (qv 0) ag) ad)) (dP rfl g)) (ao c (aa (qx (qv 0) ag) ad))))),λss R h=>?_⟩);obtain⟨a,b,rfl,_⟩:=h;rfl;obtain⟨a,b,rfl,i,j,la,l,nb,q⟩:=h;subst e_BETWEEN;walk_at "dx";have l3:(Str.ofString " | ").length=3:=by decide +kernel
 have m:(dU a).length<=20000:=by unfold dU;split;exact IQ (show dot.length<=1 by decide +kernel) (by decide);have:=fJ i la;omega
 have n:=fJ j l;have o:dU b=fK b:=if_neg nb;refine⟨a,rfl,i,la,?_⟩;walk_at "dx";refine⟨by omega,b,rfl,j,l,?_⟩;walk_at "dx";rw[o];exact⟨by rw[Str.length_append];omega,q⟩
abbrev ga:Stmt:=top 48
theorem il:ak ["text", "row"] ["text"] (ac ga):=⟨rfl,rfl,rfl,by decide +kernel,rfl,by decide +kernel,by decide +kernel⟩
inductive ib (ss:List Sl) (R:Sl->List Sl->Prop):Prop
 | mk (r:List Int):ss=[.fr (.str (gz r))]->Rs r->R (.ow (li r)) [.un]->ib ss R
theorem oz{f:ap}{fd:kN}(F:Fun K "read_row" "read_row" ga f fd)(B:Bn mg){e:Tok}{a:bx}(g:mg "NO_CLOCKS" = some (.str a e))(e_NO_CLOCKS:a=Str.ofString "-"){i:Tok}{d:Int}(j:mg "CLOCKS" = some (.int d i))(e_CLOCKS:d=1000)(b:Cal P w K mg base "read_numbers" 2 (spD K jP))(l:Cal P w K mg base "is_row" 1 (spD K nJ)):a9 P w K mg base CX0 3 f fd ["text"] (spD K ib):=by
 refine okD (k:=2) F il (λss R h=>?_) (by decide) (λcdv A outer s H E m=>⟨_,(ai (gF (ay (Be (K:=K) rfl m.units) mEq (qv 0) (dP rfl g)) (af (aB (cP ad))) br)
   (ai (ax 1 il.nd (ao b (aa (qf 0) (aa fL ad))))
   (ai (gF (gE (gC (As l (m.mono (by decide)) rfl (aa (FP 1) (aa (tR rfl j) ad))))) (af iF) br)
   (af (aB (qv 1)))))),λss R h=>?_⟩)
 obtain⟨r,rfl,_⟩:=h;rfl;obtain⟨r,rfl,m,q⟩:=h;subst e_NO_CLOCKS;subst e_CLOCKS;walk_at "dx";have n:shp (PyData.str (Str.ofString "-")):=pG (by decide +kernel);have o:shp (PyData.str (gz r)):=pG λc hc=>by
  rcases nV m.nb c hc with h|h|h <;> omega
 refine⟨o,n,?_⟩;by_cases h:r=[]
 subst h;rw[if_pos (show gz []=Str.ofString "-" from if_pos rfl)];exact⟨Jb _,q⟩
 ·have hd:gz r≠Str.ofString "-" := wF m.nb h;rw[if_neg hd];walk_at "dx";refine⟨r,44,by unfold gz;rw[if_neg h];rfl,m.nb,h,by decide,?_⟩;walk_at "dx";refine⟨r,rfl,m,?_⟩;walk_at "dx";refine⟨rfl,?_⟩;walk_at "dx";exact q
abbrev df:Stmt:=top 49
theorem lq:ak ["text"] ["text"] (ac df):=⟨rfl,rfl,rfl,by decide +kernel,rfl,by decide +kernel,by decide +kernel⟩
inductive f6 (ss:List Sl) (R:Sl->List Sl->Prop):Prop
 | mk (rs:List (List Int)):ss=[.fr (.str (fK rs))]->rs≠[]->(∀r∈rs,Rs r)->rs.length<=64->(∀S,R (.tr S (.list (lr rs))) [.un])->f6 ss R
theorem lQ{f:ap}{fd:kN}(F:Fun K "read_rows" "read_rows" df f fd)(B:Bn mg)(a:Cal P w K mg base "read_row" 3 (spD K ib)):a9 P w K mg base CX0 4 f fd ["text"] (spD K f6):=by
 refine okD (k:=3) F lq (λss R h=>?_) (by decide) (λcdv A outer s H E c=>⟨_,(af (aB (Aq (N':=["part"]) (ix:=[none]) rfl (vD (N:=["text"]) (sc0:=ac df) rfl rfl (by decide +kernel)) (aA (og (K:=K) rfl (qv 0) fL)) (λ_ _ _ _=>(am 0 (show List.Nodup (["part"]:List bx) by decide +kernel))) (λ_ _ _ _=>iD) (λ_ _ _ _=>(ao a (aa (qf 0) ad)))))),λss R h=>?_⟩);obtain⟨rs,rfl,_⟩:=h;rfl;obtain⟨rs,rfl,d,c,hl,q⟩:=h;walk_at "dx";have hn:∀r∈rs,NB r:=λr h=>(c r h).nb;refine⟨by decide +kernel,IQ (fJ hn hl) (by decide),?_⟩;rw[show Str.ofString " " = sgn 32 from rfl,rn hn d];refine B3 (λi=>.list (li (rs.getD i []))) (by rw[IF,IF];omega) (λi hi Q g=>?_) ?_
 ·have b:i<rs.length:=by simpa using hi
  have j:=c _ (bZ b);have e:((rs.map gz).map PyData.str)[i]=PyData.str (gz (rs.getD i [])):=by rw[Jn,Jn,IP,IK b];rfl
  rw[e];walk_at "dx";refine⟨_,rfl,j,?_⟩;walk_at "dx";exact g
 intro S;have e:(List.range ((rs.map gz).map PyData.str).length).map (λi=>PyData.list (li (rs.getD i [])))=lr rs:=by rw[IF,IF,bO rs [] (λr=>PyData.list (li r))]
 rw[e];walk_at "dx";exact q S
abbrev eV:Stmt:=top 50
theorem dL:ak ["line", "parts", "first"] ["line"] (ac eV):=⟨rfl,rfl,rfl,by decide +kernel,rfl,by decide +kernel,by decide +kernel⟩
inductive f7 (ss:List Sl) (R:Sl->List Sl->Prop):Prop
 | mk (a b:List (List Int)):ss=[.fr (.str (AA a b))]->(∀r∈a,Rs r)->(∀r∈b,Rs r)->a.length<=64->b.length<=64->b≠[]->(∀S,R (.tr S (.tuple [.list (lr a),.list (lr b)])) [.un])->f7 ss R
theorem lR{f:ap}{fd:kN}(F:Fun K "read_plan" "read_plan" eV f fd)(B:Bn mg){g:Tok}{e:bx}(i:mg "NO_ROWS" = some (.str e g))(e_NO_ROWS:e=Str.ofString ".")(j:Cal P w K mg base "halves" 1 (spD K jT))(d:Cal P w K mg base "read_rows" 4 (spD K f6)):a9 P w K mg base CX0 5 f fd ["line"] (spD K f7):=by
 refine okD (k:=4) F dL (λss R h=>?_) (by decide) (λcdv A outer s H E t=>⟨_,(ai (ax 1 dL.nd (ao j (aa (qf 0) ad)))
   (pV (ax 2 dL.nd (gg (ay (Be (K:=K) rfl t.units) mEq (qx (qv 1) ag) (dP rfl i)) (yH ad) (ao d (aa (qx (qv 1) ag) ad))))
   (af (aB (yG (aa (C2 2) (aa (ao d (aa (qx (qv 1) ag) ad)) ad))))))),λss R h=>?_⟩)
 obtain⟨a,b,rfl,_⟩:=h;rfl;obtain⟨a,b,rfl,m,n,la,o,nb,q⟩:=h;subst e_NO_ROWS;walk_at "dx";have na:∀r∈a,NB r:=λr h=>(m r h).nb;have l:∀r∈b,NB r:=λr h=>(n r h).nb;have u:(dU a).length<=20000:=by unfold dU;split;exact IQ (show dot.length<=1 by decide +kernel) (by decide);have:=fJ na la;omega
 have v:=fJ l o;refine⟨dU a,fK b,rfl,xF na,pN l,by omega,?_⟩;walk_at "dx";refine⟨λenv=>∃S,env=[.fr (.str (AA a b)),.ow [.str (dU a),.str (fK b)],.tr S (.list (lr a))],?_,?_⟩
 ·walk_at "dx";have x:shp (PyData.str (Str.ofString ".")):=pG (by decide +kernel);have y:shp (PyData.str (dU a)):=pG λc hc=>by
   unfold dU at hc;split at hc;rw[oT] at hc;rw[IG.mp hc];decide;rcases jZ na c hc with h|h|h|h <;> omega
  refine⟨y,x,?_⟩;by_cases h:a=[]
  subst h;rw[if_pos (show dU []=Str.ofString "." from if_pos rfl)];exact⟨Jb _,λ_=>rfl⟩
  ·have p:dU a=fK a:=if_neg h;have hd:dU a≠Str.ofString "." := by
    rw[p];exact wE na
   rw[if_neg hd];refine⟨a,by rw[p],h,m,la,λS=>?_⟩;walk_at "dx"
 ·rintro env ⟨S,rfl⟩;walk_at "dx";refine⟨b,rfl,nb,n,o,λS'=>?_⟩;walk_at "dx";exact⟨IQ (by decide) ae,q⟩
abbrev Ac:Stmt:=top 62
theorem iq:ak ["_law_script", "_law_town_here", "_law_again", "_law_desk", "_law_plan", "_law_paper", "_law_told"] ["_law_script"] (ac Ac):=⟨rfl,rfl,rfl,by decide +kernel,rfl,by decide +kernel,by decide +kernel⟩
theorem tY:∀s:List Int,iH s=lE s
 | []=>rfl
 | x::s=>by
  show x.toNat*iH s=x.toNat*lE s;rw[tY s]
theorem TB.tbl{s o:List Int}(h:TB s o)(a:o.length*iH s<=60):TbL s o:=by
 obtain⟨h1,h2,h3,f,b,c,d⟩:=h;have e:(qZ s o).length<=60:=by rw[yj,<-tY];exact a
 exact⟨h2,h3,λx hx=>(b x hx).1,λx hx=>(c x hx).1,d.imp id λh x hx=>JF (h x hx) (by decide),by omega⟩
inductive wu:DSp
 | mk {ss R} (ns:List Int):ss=[.fr (.list (li ns))]->ns.length<=63->R (.fr (.bool true)) [.un]->wu ss R
theorem DC{f C:ap}{fd:kN}(F:Fun K "law" "law" Ac f fd)(B:Bn mg)(e:Cal P w K mg base "_law_draws" 2 (spD K nK))(g:Cal P w K mg base "_law_town" 2 (spD K sY))(m:Cal P w K mg base "show_town" 2 (spD K sZ))(n:Cal P w K mg base "read_town" 3 (spD K tm))
  (L:GR P w K mg base C "Desk" 1 (zW C)) (O:sE P w K mg base C "put" 2 (zT K C yW)) (I:sE P w K mg base C "names" 1 (spD K (nG C))) (M:sE P w K mg base C "town" 2 (spD K (nw C))) (N:sE P w K mg base C "plan" 11 (spD K (nC C))) (J:sE P w K mg base C "paper" 11 (spD K (jR C)))
  (G:Cal P w K mg base "shortage" 3 (spD K nB)) (p:Cal P w K mg base "shuts_out" 9 (spD K ny)) (u:Cal P w K mg base "show_plan" 4 (spD K fZ)) (v:Cal P w K mg base "read_plan" 5 (spD K f7)) (d:Cal P w K mg base "_law_goes_on" 4 (spD K jU)):a9 P w K mg base CX0 14 f fd ["_law_script"] (spD K wu):=by
 refine okD (k:=13) F iq (λss R h=>?_) (by decide) (λcdv A outer s H E D=>⟨_,(ai (ax 1 iq.nd (Au g (aa (ao e (aa (qf 0) (aa ag (aa ag ad)))) (aa ag ad))))
   (ai (ax 2 iq.nd (yI (ao n (aa (ao m (aa (qf 1) ad)) ad))))
   (Ah (i:=3) (j:=2) (yL iq.nd rfl cc (Dp L (D.mono (by decide)) rfl)) (tW (Dm O (D.mono (by decide)) (bu rfl cc) (bu rfl cc))) (ai (gF (PW.pt (lB (ay (E3 (K:=K) rfl D.units) mNe (qv 2) (qv 1)) (lB (ay (E3 (K:=K) rfl D.units) mNe (Am I rfl (D.mono (by decide)) (qv 3)) (cP (aa fL ad))) (lA (ay (E3 (K:=K) rfl D.units) mNe (jB M rfl (D.mono (by decide)) (qv 3) (aa fL ad)) (qv 1)))))) (af (aB wI)) br)
   (ai (ax 4 iq.nd (jB N rfl (D.mono (by decide)) (qv 3) (aa fL ad)))
   (ai (ax 5 iq.nd (jB J rfl (D.mono (by decide)) (qv 3) (aa fL ad)))
   (ai (gF (PW.pt (lB (ay rJ HY (jd p8 EY (qv 4) fb) (jd p8 EY (qv 5) fb)) (lA (PW.pt (jz (ay gj rS (ao G (aa (qf 2) ad)) fb) (iB (ay gj rS (qv 4) fb))))))) (af (aB wI)) br)
   (ai (gF (ay p8 EY (qv 4) fb) (af (aB (jd Du HU (ao p (aa (qf 2) (aa (qf 5) ad))) wI))) br)
   (ai (ax 6 iq.nd (yI (ao v (aa (ao u (aa (qf 4) ad)) ad))))
   (af (aB (rF (jd (Be (K:=K) rfl D.units) mEq (qv 6) (qv 4)) (tQ (ao d (aa (qf 1) (aa (qf 6) ad)))))))))))))))),λss R h=>?_⟩)
 obtain⟨ns,rfl,_⟩:=h;rfl;obtain⟨ns,rfl,X,q⟩:=h;walk_at "dx";refine⟨ns,1,30,rfl,X,by decide,by decide,λl hl _=>?_⟩;walk_at "dx";refine⟨l,60,rfl,hl,by decide,by decide,λs o l' a4 tb Y=>?_⟩;walk_at "dx";have t:=tb.tbl Y;obtain⟨t1,t2,W,t4,t5,t6,t7⟩:=id tb;have Q:NB s:=⟨t2,λx hx=>by have:=t5 x hx;omega⟩
 have T:NB o:=⟨t4,λx hx=>by have:=t6 x hx;omega⟩
 refine⟨s,o,rfl,Q,T,?_⟩;walk_at "dx";refine⟨s,o,rfl,Q,T,λz=>by rw[z] at t1;simp at t1,λz=>by rw[z] at W;simp at W,λx hx=>(t5 x hx).1,λS=>?_⟩;walk_at "dx";have U:Sh 2 (.tuple [.list (li s),.list (li o)]):=Sh.two (Sh.ints 0 s) (Sh.ints 0 o);have eT:=qy U (by decide);refine⟨⟨s,o,rfl⟩,by decide,U.shp (by decide),U.shp (by decide),?_⟩;rw[eT,if_neg (by decide)];refine⟨⟨_,_,rfl⟩,_,_,rfl,?_⟩;walk_at "dx";have sA:shp (PyData.list [PyData.str (Str.ofString "a")]):=by decide +kernel
 have eA:PyData.eqv (PyData.list [PyData.str (Str.ofString "a")]) (PyData.list [PyData.str (Str.ofString "a")])=true:=by decide +kernel
 refine⟨IQ (by decide) ae,sA,sA,?_⟩;rw[eA,if_neg (by decide)];refine⟨⟨_,_,rfl⟩,_,s,o,rfl,?_⟩;walk_at "dx";refine⟨U.shp (by decide),U.shp (by decide),?_⟩;rw[eT,if_neg (by decide)];walk_at "dx";refine⟨⟨_,_,rfl⟩,_,s,o,rfl,t,λP Y=>?_,λA B h1 h2=>?_⟩
 ·walk_at "dx";refine⟨⟨_,_,rfl⟩,_,s,o,rfl,t,λA B D=>(Y.ring t.2.2.1 W D).elim,λP2 h3 h4=>?_⟩;walk_at "dx";refine⟨s,o,rfl,tb,?_,λa b c _=>?_⟩
  all_goals
   walk_at "dx";refine⟨s,o,P2,rfl,t,h3,h4,?_⟩;walk_at "dx";exact q
 ·have rs:∀{Z x y},Wy s o x Z y->∀r∈Z,Rs r:=λ{Z x y} w r D=>by
   obtain⟨h,l,hm⟩:=w.rows r D;obtain⟨a1,a2,a3⟩:=bj _ r (Ji.mp hm).1;exact⟨⟨by omega,λx hx=>by have:=a3 x hx;omega⟩,a2,λx hx=>by have:=a3 x hx;omega⟩
  walk_at "dx";refine⟨⟨_,_,rfl⟩,_,s,o,rfl,t,λA2 B2 _=>?_,λP h3 _=>(h3.ring t.2.2.1 W h1).elim⟩;walk_at "dx";refine⟨s,o,rfl,tb,?_,λa b c hn=>(hn A B h1).elim⟩;walk_at "dx";obtain⟨⟨y,wA,wB⟩,V⟩:=id h1;have ra:=rs wA;have rb:=rs wB;have nb:B≠[]:=λz=>by rw[z] at V;simp at V
  refine⟨A,B,rfl,λr D=>(ra r D).nb,λr D=>(rb r D).nb,by omega,by omega,nb,?_⟩;walk_at "dx";refine⟨A,B,rfl,ra,rb,by omega,by omega,nb,λS2=>?_⟩;walk_at "dx";have sP:Sh 3 (.tuple [.list (lr A),.list (lr B)]):=Sh.two (Sh.lr 0 A) (Sh.lr 0 B);refine⟨sP.shp (by decide),sP.shp (by decide),?_⟩;rw[qy sP (by decide),if_pos rfl];refine⟨s,o,A,B,rfl,tb,h1,?_⟩;walk_at "dx";exact q
end
theorem EI{l:PySem.W.OpenLaw}{w:zb}{K:ca}{h:bd}{mg:bx->Option as}{fa CD:ap}(X:K.In h)(G:h.Ns ky mg)(f1:mg "law" = some (.ref fa))
  (g0:FnI K "_law_pop" gc)
  (g1:FnI K "_law_mix" gd)
  (g2:FnI K "_law_draws" cK)
  (g3:FnI K "_law_town" bN)
  (g4:FnI K "_law_rows" bh)
  (g5:FnI K "_law_after" dO)
  (g6:FnI K "hands_on" gb)
  (g7:FnI K "behind" gT)
  (g8:FnI K "begun" nU)
  (g9:FnL K "choices" fH)
  (f2:FnL K "full_rows" dq)
  (f3:FnI K "looked_through" bB)
  (f4:FnI K "plan_of" iz)
  (f5:FnI K "paper_of" cr)
  (h0:FnI K "next_worse" bV)
  (h4:FnL K "least_ranks" dg)
  (h5:FnI K "is_ranked" dh)
  (h6:FnI K "leads_down" bW)
  (h7:FnI K "shuts_out" dc)
  (h9:FnI K "greatest_divisor" bG)
  (i0:FnI K "least_multiple" b8)
  (i3:FnI K "wanted_in" db)
  (i4:FnI K "shortage" f9)
  (j1:FnI K "_law_begun" dM)
  (j3:FnI K "_law_behind" dr)
  (k0:FnI K "_law_goes_on" cO)
  (k1:FnI K "copied" jY)
  (k2:FnI K "show_numbers" bS)
  (k3:FnI K "show_town" eQ)
  (k5:FnI K "read_number" ck)
  (k6:FnI K "read_numbers" bT)
  (k9:FnI K "halves" jX)
  (l0:FnI K "read_town" eU)
  (m7:FnI K "is_row" fG)
  (n0:FnI K "show_row" f8)
  (n1:FnI K "show_rows" de)
  (n2:FnI K "show_plan" eR)
  (n3:FnI K "read_row" ga)
  (n4:FnI K "read_rows" df)
  (n5:FnI K "read_plan" eV)
  (n6:FnI K "law" Ac)
  {b6:Tok}{p:bx} (g_BETWEEN:cb K ky "BETWEEN" = some (some (.str p b6))) (e_BETWEEN:p=Str.ofString " | ")
  {c4:Tok}{q:bx} (g_FIGURES:cb K ky "FIGURES" = some (some (.str q c4))) (e_FIGURES:q=Str.ofString "0123456789")
  {n:Tok}{b:Int} (g_MOST_FIGURES:cb K ky "MOST_FIGURES" = some (some (.int b n))) (e_MOST_FIGURES:b=40)
  {O:Tok}{i:bx} (g_NO_CLOCKS:cb K ky "NO_CLOCKS" = some (some (.str i O))) (e_NO_CLOCKS:i=Str.ofString "-")
  {c6:Tok}{r:bx} (g_NO_ROWS:cb K ky "NO_ROWS" = some (some (.str r c6))) (e_NO_ROWS:r=Str.ofString ".")
  {d3:Tok}{J:Int} (g_CLOCKS:cb K ky "CLOCKS" = some (some (.int J d3))) (e_CLOCKS:J=1000)
  (aD:cb K ky "Desk" = some (some (.ref CD))) (pg:PySem.W.plainGet K CD Str.empty=true) (hd:PySem.W.hasDictIn K CD=true) (po:PySem.W.plainOver K CD=true) (sa:PySem.W.findIn K (.ref CD) "__setattr__" = some (some (.builtin "object.__setattr__"))) (mk:PySem.W.makesIn K CD=true) (kc:PySem.W.keepIn K (.ref CD)=true) (na:PySem.W.findIn K (.ref CD) "towns" = some none)
  (m0:MtI K CD "__init__" "Desk.__init__" tH)
  (m1:MtI K CD "put" "Desk.put" Ab)
  (m2:MtI K CD "names" "Desk.names" nS)
  (m3:MtI K CD "town" "Desk.town" tF)
  (m4:MtI K CD "plan" "Desk.plan" tG)
  (m5:MtI K CD "paper" "Desk.paper" nR)
  (m6:MtI K CD "look_up" "Desk.look_up" iA)
  (z : BnI K)
  : ∃fd:kN,(∀(s:ba) (v:as),QJ s fd ⟨[v],[]⟩ [("_law_script",v)])/\∀base:bd,K.In base->base.Ns ky mg->a9 l.prog w K mg base CX0 14 fa fd ["_law_script"] (spD K wu):=by
 have B:Bn mg:=z.bn X G;refine H9 X G f1 n6 (λF s v=>?_) λ{fd base} e9 Xb=>?_;obtain⟨_,_,_,_,_,_,_,_,_,rfl,_,_⟩:=F.ex;exact .of_eq rfl;have c:Cls K CD:=⟨pg,hd,po,sa⟩
 have a7:=dF X G g0 (λF=>bd1 F) λF=>oC (P:=l.prog) (w:=w) (base:=base) F B;have b0:=dF X G g1 (λF=>bd2 F) λF=>oE (P:=l.prog) (w:=w) (base:=base) F B;have C:=dF X G g2 (λF=>bd3 F) λF=>ka (P:=l.prog) (w:=w) (base:=base) F B b0;have Q:=dF X G g3 (λF=>bd2 F) λF=>lU (P:=l.prog) (w:=w) (base:=base) F B a7;have R:=dF X G g4 (λF=>bd2 F) λF=>lV (P:=l.prog) (w:=w) (base:=base) F B;have D:=dF X G g5 (λF=>bd3 F) λF=>kf (P:=l.prog) (w:=w) (base:=base) F B;have b1:=dF X G g6 (λF=>bd2 F) λF=>oB (P:=l.prog) (w:=w) (base:=base) F B;have m:=dF X G g7 (λF=>bd3 F) λF=>uy (P:=l.prog) (w:=w) (base:=base) F B;have t:=dF X G g8 (λF=>bd1 F) λF=>w9 (P:=l.prog) (w:=w) (base:=base) F B;have u:=GH X G Xb g9 (λF=>bd2 F) λF L=>rO (P:=l.prog) (w:=w) F B L b1;have j:=GH X G Xb f2 (λF=>bd2 F) λF L=>lT (P:=l.prog) (w:=w) F B L u;have a:=dF X G f3 (λF=>bd2 F) λF=>gn (P:=l.prog) (w:=w) (base:=base) F B j m;have d0:=dF X G f4 (λF=>bd1 F) λF=>rM (P:=l.prog) (w:=w) (base:=base) F B a t;have b2:=dF X G f5 (λF=>bd1 F) λF=>oA (P:=l.prog) (w:=w) (base:=base) F B a t j m;have E:=dF X G h0 (λF=>bd1 F) λF=>j8 (P:=l.prog) (w:=w) (base:=base) F B;have x:=GH X G Xb h4 (λF=>bd1 F) λF L=>jf (P:=l.prog) (w:=w) F B L E;have S:=dF X G h5 (λF=>bd2 F) λF=>lS (P:=l.prog) (w:=w) (base:=base) F B;have H:=dF X G h6 (λF=>bd3 F) λF=>j9 (P:=l.prog) (w:=w) (base:=base) F B u m;have T:=dF X G h7 (λF=>bd2 F) λF=>lK (P:=l.prog) (w:=w) (base:=base) F B S x t H;have f:=dF X G h9 (λF=>bd2 F) λF=>fe (P:=l.prog) (w:=w) (base:=base) F B;have k:=dF X G i0 (λF=>bd1 F) λF=>gp (P:=l.prog) (w:=w) (base:=base) F B f;have U:=dF X G i3 (λF=>bd2 F) λF=>lJ (P:=l.prog) (w:=w) (base:=base) F B;have b3:=dF X G i4 (λF=>bd1 F) λF=>oy (P:=l.prog) (w:=w) (base:=base) F B k U;have I:=dF X G j1 (λF=>bd1 F) λF=>kb (P:=l.prog) (w:=w) (base:=base) F B;have y:=dF X G j3 (λF=>bd3 F) λF=>jg (P:=l.prog) (w:=w) (base:=base) F B R D;have o:=dF X G k0 (λF=>bd2 F) λF=>iN (P:=l.prog) (w:=w) (base:=base) F B I y;have M:=dF X G k1 (λF=>bd1 F) λF=>ux (P:=l.prog) (w:=w) (base:=base) F B;have d:=dF X G k2 (λF=>bd2 F) λF=>iL (P:=l.prog) (w:=w) (base:=base) F B;have V:=dF X G k3 (λF=>bd1 F) λF=>lM (P:=l.prog) (w:=w) (base:=base) F B (PySem.W.mg_of X G g_BETWEEN) e_BETWEEN d;have A:=dF X G k5 (λF=>bd1 F) λF=>je (P:=l.prog) (w:=w) (base:=base) F B (PySem.W.mg_of X G g_FIGURES) e_FIGURES (PySem.W.mg_of X G g_MOST_FIGURES) e_MOST_FIGURES;have e:=dF X G k6 (λF=>bd2 F) λF=>iM (P:=l.prog) (w:=w) (base:=base) F B A;have N:=dF X G k9 (λF=>bd1 F) λF=>uw (P:=l.prog) (w:=w) (base:=base) F B (PySem.W.mg_of X G g_BETWEEN) e_BETWEEN;have Y:=dF X G l0 (λF=>bd1 F) λF=>lP (P:=l.prog) (w:=w) (base:=base) F B N e;have e0:=dF X G m7 (λF=>bd2 F) λF=>uv (P:=l.prog) (w:=w) (base:=base) F B;have b4:=dF X G n0 (λF=>bd1 F) λF=>ox (P:=l.prog) (w:=w) (base:=base) F B (PySem.W.mg_of X G g_NO_CLOCKS) e_NO_CLOCKS d;have Z:=dF X G n1 (λF=>bd1 F) λF=>lN (P:=l.prog) (w:=w) (base:=base) F B (PySem.W.mg_of X G g_NO_ROWS) e_NO_ROWS b4;have a4:=dF X G n2 (λF=>bd1 F) λF=>lO (P:=l.prog) (w:=w) (base:=base) F B (PySem.W.mg_of X G g_BETWEEN) e_BETWEEN Z;have b5:=dF X G n3 (λF=>bd1 F) λF=>oz (P:=l.prog) (w:=w) (base:=base) F B (PySem.W.mg_of X G g_NO_CLOCKS) e_NO_CLOCKS (PySem.W.mg_of X G g_CLOCKS) e_CLOCKS e e0;have a5:=dF X G n4 (λF=>bd1 F) λF=>lQ (P:=l.prog) (w:=w) (base:=base) F B b5;have a6:=dF X G n5 (λF=>bd1 F) λF=>lR (P:=l.prog) (w:=w) (base:=base) F B (PySem.W.mg_of X G g_NO_ROWS) e_NO_ROWS N a5;have e6:=Iy (P:=l.prog) (w:=w) (base:=base) m0 (PySem.W.mg_of X G aD) mk kc (λF=>bd1 F) λF=>AZ F c na;have f0:=Co (P:=l.prog) (w:=w) (mg:=mg) (base:=base) m1 c (λF=>bd3 F) λF=>DB F c na M;have g:=Co (P:=l.prog) (w:=w) (mg:=mg) (base:=base) m6 c (λF=>bd2 F) λF=>rN F B c na;have e4:=Co (P:=l.prog) (w:=w) (mg:=mg) (base:=base) m2 c (λF=>bd1 F) λF=>w4 F B c na;have e7:=Co (P:=l.prog) (w:=w) (mg:=mg) (base:=base) m3 c (λF=>bd2 F) λF=>AX F B c na g M;have e8:=Co (P:=l.prog) (w:=w) (mg:=mg) (base:=base) m4 c (λF=>bd2 F) λF=>AY F B c na g d0;have e5:=Co (P:=l.prog) (w:=w) (mg:=mg) (base:=base) m5 c (λF=>bd2 F) λF=>wZ F B c na g b2;exact DC e9 B C Q V Y e6 f0 e4 e7 e8 e5 b3 T a4 a6 o
end _W
namespace PySem.Challenge.cw_windround_k38_whole_from_line_to_answer_holds
def tw6774672688702060040:0=0:=rfl
def tw2749832172768963041:0=0:=rfl
def tw14247740133712863758:0=0:=rfl
def tw15647508221674565146:0=0:=rfl
def tw8559069426721487777:0=0:=rfl
def tw7682216685361179745:0=0:=rfl
def tw14286194780422649953:0=0:=rfl
def tw9855415366307535023:0=0:=rfl
def tw7739281754440138728:0=0:=rfl
def tw6524176354700059660:0=0:=rfl
def tw3872737077777787198:0=0:=rfl
def tw8132195839078417438:0=0:=rfl
def tw16283668839073163519:0=0:=rfl
def tw17225597259708539773:0=0:=rfl
def tw11889602300298222403:0=0:=rfl
def tw10700857870460008783:0=0:=rfl
def tw17207760094107810439:0=0:=rfl
def tw5567963819328276031:0=0:=rfl
def tw13475666943523788303:0=0:=rfl
def tw9545615669544696592:0=0:=rfl
def tw10817506043225103861:0=0:=rfl
def tw5273235860182150637:0=0:=rfl
def tw4712309563873245161:0=0:=rfl
def tw13502640136876623750:0=0:=rfl
def tw5811760979882170121:0=0:=rfl
def tw7055211073332135382:0=0:=rfl
def tw6709658115434871612:0=0:=rfl
def tw8327267969934022355:0=0:=rfl
def tw17561487811439867605:0=0:=rfl
def tw1589107564085890936:0=0:=rfl
def tw11345621905757476889:0=0:=rfl
def tw10587975195164523335:0=0:=rfl
def tw5711924150761605205:0=0:=rfl
def tw4351977255061271879:0=0:=rfl
def tw13650961429015943910:0=0:=rfl
def tw5920158777854081403:0=0:=rfl
def tw1818395349408989296:0=0:=rfl
def tw16632370054567908256:0=0:=rfl
def tw11392202758536865635:0=0:=rfl
def tw16423004032758212194:0=0:=rfl
def tw13231934204561376800:0=0:=rfl
def tw5004212060051508442:0=0:=rfl
def tw12729878477857617444:0=0:=rfl
def tw871012042305572946:0=0:=rfl
def tw1062660533572163355:0=0:=rfl
def tw4528134951815112248:0=0:=rfl
def tw6275628371192862971:0=0:=rfl
def tw4997173510649596391:0=0:=rfl
def tw15951604810069906979:0=0:=rfl
def tw7818107149442476862:0=0:=rfl
def tw6706777478482327060:0=0:=rfl
def tw11594553136164135046:0=0:=rfl
def tw1501225004814867778:0=0:=rfl
def tw4312023454835880910:0=0:=rfl
def tw2000167855015234957:0=0:=rfl
def tw16222268809609453096:0=0:=rfl
def tw6590698284014022556:0=0:=rfl
def tw6523915860177340970:0=0:=rfl
def tw12604051828888421225:0=0:=rfl
def tw2833824764332809006:0=0:=rfl
end PySem.Challenge.cw_windround_k38_whole_from_line_to_answer_holds
open PySem PySem.W PyProof.Rows
set_option maxRecDepth 100000 in
set_option maxHeartbeats 0 in
set_option Elab.async true in
theorem PySem.Challenge.cw_windround_k38_whole_from_line_to_answer_holds : PySem.Challenge.rw_windround_k38_whole_from_line_to_answer.Holds := by
 w_on;o_law;k_head;(case hw=>w_witness2)
 k_fill
 refine _L.Fo (l:=PySem.Challenge.rw_windround_k38_whole_from_line_to_answer) (sp:=_W.wu) (k:=14) (by decide) rfl rfl (λns h=>⟨ns,rfl,h,rfl⟩) ?TB (λw h Y=>PySem.W.km_in_of Y) ?F
 case TB =>
  intro w s₀ mg mb h G a
  refine' _L.zO _ (_L.kn (x := "choices") (_L.ko G a rfl ?a1 ?l1 ?c1 ?lc1 ?hT1 ?hn1) (_L.kn (x := "full_rows") (_L.ko G a rfl ?a2 ?l2 ?c2 ?lc2 ?hT2 ?hn2) (_L.kn (x := "least_ranks") (_L.ko G a rfl ?a3 ?l3 ?c3 ?lc3 ?hT3 ?hn3) _L.A9))) ?nd (_L.Ba (.inl ?y0) (.inl ?y1) (.inr ?z2) (.inl ?y3))
  (case a1=>k_is);(case l1=>k_is);(case c1=>exact rfl);(case lc1=>k_is);(case hT1=>exact⟨rfl,rfl,⟨_,_,rfl⟩,⟨_,_,rfl⟩,⟨_,rfl⟩,⟨_,_,rfl⟩,by decide⟩);(case hn1=>kernel_rfl)
  (case a2=>k_is);(case l2=>k_is);(case c2=>exact rfl);(case lc2=>k_is);(case hT2=>exact⟨rfl,rfl,⟨_,_,rfl⟩,⟨_,_,rfl⟩,⟨_,rfl⟩,⟨_,_,rfl⟩,by decide⟩);(case hn2=>kernel_rfl)
  (case a3=>k_is);(case l3=>k_is);(case c3=>exact rfl);(case lc3=>k_is);(case hT3=>exact⟨rfl,rfl,⟨_,_,rfl⟩,⟨_,_,rfl⟩,⟨_,rfl⟩,⟨_,_,rfl⟩,by decide⟩);(case hn3=>kernel_rfl)
  (case nd=>decide);(case y0=>simp);(case y1=>simp);(case z2=>k_is);(case y3=>simp)
 case F =>
  intro w mg fa h a G b
  refine' _W.EI a G b ?fn0 ?fn1 ?fn2 ?fn3 ?fn4 ?fn5 ?fn6 ?fn7 ?fn8 ?fn9 ?fn10 ?fn11 ?fn12 ?fn13 ?fn14 ?fn15 ?fn16 ?fn17 ?fn18 ?fn19 ?fn20 ?fn21 ?fn22 ?fn23 ?fn24 ?fn25 ?fn26 ?fn27 ?fn28 ?fn29 ?fn30 ?fn31 ?fn32 ?fn33 ?fn34 ?fn35 ?fn36 ?fn37 ?fn38 ?fn39 ?fn40 ?g_BETWEEN ?e_BETWEEN ?g_FIGURES ?e_FIGURES ?g_MOST_FIGURES ?e_MOST_FIGURES ?g_NO_CLOCKS ?e_NO_CLOCKS ?g_NO_ROWS ?e_NO_ROWS ?g_CLOCKS ?e_CLOCKS ?aD ?pg ?hd ?po ?sa ?mk ?kc ?na ?mt0 ?mt1 ?mt2 ?mt3 ?mt4 ?mt5 ?mt6 ?fz
  case fn0|fn1|fn2|fn3|fn4|fn5|fn6|fn7|fn8|fn11|fn12|fn13|fn14|fn16|fn17|fn18|fn19|fn20|fn21|fn22|fn23|fn24|fn25|fn26|fn27|fn28|fn29|fn30|fn31|fn32|fn33|fn34|fn35|fn36|fn37|fn38|fn39|fn40=>(refine' _L.fnI ?fa ?fl ?fc ?fk;(case fa=>k_is);(case fl=>k_is);(case fc=>k_is);(case fk=>k_is))
  (case g_BETWEEN=>k_is);(case e_BETWEEN=>rfl)
  (case g_FIGURES=>k_is);(case e_FIGURES=>rfl)
  (case g_MOST_FIGURES=>k_is);(case e_MOST_FIGURES=>rfl)
  (case g_NO_CLOCKS=>k_is);(case e_NO_CLOCKS=>rfl)
  (case g_NO_ROWS=>k_is);(case e_NO_ROWS=>rfl)
  (case g_CLOCKS=>k_is);(case e_CLOCKS=>rfl)
  case fn9|fn10|fn15=>(refine' _L.fnL (by decide) ?fa ?fl ?fc ?fk ?fhc ?flc ?fhT;(case fa=>k_is);(case fl=>k_is);(case fc=>k_is);(case fk=>k_is);(case fhc=>exact rfl);(case flc=>k_is);(case fhT=>exact⟨rfl,rfl,⟨_,_,rfl⟩,⟨_,_,rfl⟩,⟨_,rfl⟩,⟨_,_,rfl⟩,by decide⟩))
  case aD|pg|hd|po|sa|mk|kc|na=>k_is
  case mt0|mt1|mt2|mt3|mt4|mt5|mt6=>(refine' _W.mtI ?fa ?fi ?fl ?fc ?fk;(case fa=>k_is);(case fi=>k_is);(case fl=>k_is);(case fc=>k_is);(case fk=>k_is))
  case fz=>refine'⟨?_,?_,?_,?_,?_,?_,?_,?_,?_,?_,?_,?_,?_,?_,?_,?_,?_,?_,?_⟩ <;> k_is
