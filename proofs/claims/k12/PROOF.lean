import PyProof.Rows.All
import Wide.All
import OpenK.AllK
import Wide.FinOn
import Lean
import PyProof.EqAt
import PyProof.EqKinds
import PyProof.TupleCall
import PyProof.DictRoadsH
import PyProof.DictKinds
import PyProof.DictIter
import PyProof.ListMulAny
import PyProof.StrLawsTight
import KE.KIntText
import PyProof.Rows.StrItems
import PyProof.StrWalks
import KE.KSortTup
import KE.KLam
import PyProof.ExcInit
import PyProof.ExcClass3
import PyProof.InstStoreFacts
import PyProof.ExcBaseAll.ValueError
import PyProof.ExcArgsOwn
import PyProof.ExcAttrAll.ValueError
import PyProof.Rows.RuleN_isinstance
import PyProof.AutoSeq1
import KE.KRevIter
import PyProof.Rows.FactsT2
import PyProof.DictTruth
import PyProof.DictWalks
import PySem.Challenge.RW_windround_k12_whole_a_plan_or_a_paper
set_option compiler.extract_closed false
set_option bootstrap.genMatcherCode false
local macro_rules | `(tactic| omega) => `(tactic| first | assumption | lia)
set_option Elab.async false
set_option linter.all false
set_option maxRecDepth 100000
open List renaming length_map → D7, getElem?_eq_getElem → D8, mem_append_right → D9, getD_eq_getElem?_getD → Ea, mem_singleton → Eb, mem_append_left → Ec, mem_append → Ed, getElem?_eq_some_iff → Ef, mem_cons_self → Eh, nodup_append → Ei, mem_cons_of_mem → Ej, size_toArray → El, mem_map → Em, mem_cons → En, getElem?_append_left → Es, map_cons → Eu, length_append → Ew, getElem_of_mem → Ex, mem_range → Ey, getElem_mem → EA, mem_filter → EC, length_range → EE, getElem?_set_ne → EF, getElem?_set_self → EG, map_append → EH, map_map → EI, not_mem_nil → EJ, append_nil → EK, getElem?_map → EM, getElem_map → EN, nodup_cons → EO, length_cons → ES, lookup_cons → ET, length_filter_le → EU, length_take → EV, getElem?_append_right → EX, take_of_length_le → EY, map_congr_left → EZ, length_singleton → E3, filter_cons_of_pos → E4, drop_of_length_le → E5, drop_eq_getElem_cons → E6, length_zip → E8, ext_getElem → Fa, mem_of_getElem? → Fb, replicate → Fd, append_assoc → Ff, getElem_zip → Fj, filter_append → Fk, filter_cons_of_neg → Fn, filter_eq_nil_iff → Fq, nodup_nil → Fr, eq_nil_or_concat → Fs, concat_eq_append → Ft, getLastD_eq_getLast? → Fx, all_eq_true → Fy, mem_map_of_mem → Fz, getElem?_set_self' → FA, length_set → FC, take_add_one → FE, forIn_nil → FF, length_drop → FH, getElem?_zip_eq_some → FI, of_mem_zip → FJ, forIn_cons → FK, find?_cons → FL, range_succ → FM, sum_append → FO, map_nil → FQ
open Nat renaming le_trans → Eg, le_refl → Ek, lt_of_lt_of_le → Ep, zero_le → Ez, ne_of_lt → ED, lt_irrefl → Fc, ne_of_gt → Fg, le_add_right → Fi, le_succ → Fm, lt_succ_self → Fp, lt_succ_of_lt → Fv, lt_of_le_of_lt → FB, pow_le_pow_right → FG, min_eq_left → FN
open Int renaming toNat_natCast → EW, emod_lt_of_pos → E9, le_refl → Fe, emod_nonneg → Fl
open Option renaming isSome_iff_exists → FP
open Bool renaming false_ne_true → Et, false_eq_true → EQ, and_eq_true → ER, eq_iff_iff → Fu, not_true → Fw
open PySem.Heap renaming get?_push_of_some → Ee, lt_size → Eo, get?_push_size → Er, size_push → E7, get?_update_self → Fh, get?_update_other → Fo
namespace _L
open PySem PySem.Spec PyProof.Rows
noncomputable abbrev Key:=Sum Int Str
noncomputable def Ay:Key→Value→Bool
 | .inl k,v=>Value.isInt k v
 | .inr x,v=>Value.isStrOf x v
noncomputable def DB (w:World):Key→Int
 | .inl k=>hashInt k
 | .inr x=>hashStr w x
theorem bf:∀ {k:Key}{v:Value},Ay k v=true→(∃ i t,k=Sum.inl i∧v=Value.int i t)∨(∃ x t,k=Sum.inr x∧v=Value.str x t)
 | .inl i,v,h=>by
  obtain ⟨t,e⟩:=Value.isInt_shape (k:=i) (v:=v) h
  exact .inl ⟨i,t,rfl,e⟩
 | .inr x,v,h=>by
  obtain ⟨t,e⟩:=Value.isStrOf_shape (x:=x) (v:=v) h
  exact .inr ⟨x,t,rfl,e⟩
theorem Aw (a b:Int):decide ((Sum.inl a:Key)=Sum.inl b)=(a==b):=by
 by_cases e:a=b
 ·subst e;simp
 ·have h:¬(Sum.inl a:Key)=Sum.inl b:=fun q=>e (Sum.inl.inj q)
  rw [decide_eq_false h]
  exact (beq_eq_false_iff_ne.mpr e).symm
theorem As (a b:Str):decide ((Sum.inr a:Key)=Sum.inr b)=decide (a=b):=by
 by_cases e:a=b
 ·subst e;simp
 ·have h:¬(Sum.inr a:Key)=Sum.inr b:=fun q=>e (Sum.inr.inj q)
  rw [decide_eq_false h,decide_eq_false e]
theorem Av (a:Int) (b:Str):decide ((Sum.inl a:Key)=Sum.inr b)=false:=decide_eq_false (fun q=>nomatch q)
theorem Au (a:Str) (b:Int):decide ((Sum.inr a:Key)=Sum.inl b)=false:=decide_eq_false (fun q=>nomatch q)
noncomputable def lZ (prog:Program) (w:World):PySem.KeyKind prog w Key where
 is := Ay
 hash:=DB w
 inj := fun v a b ha hb=>by
  rcases bf ha with ⟨i,t,rfl,rfl⟩|⟨x,t,rfl,rfl⟩
  ·rcases bf hb with ⟨j,u,rfl,e⟩|⟨y,u,rfl,e⟩
   ·injection e with e1 _;rw[e1]
   ·exact nomatch e
  ·rcases bf hb with ⟨j,u,rfl,e⟩|⟨y,u,rfl,e⟩
   ·exact nomatch e
   ·injection e with e1 _;rw[e1]
 byValue:=fun k v h=>by
  rcases bf h with ⟨i,t,rfl,rfl⟩|⟨x,t,rfl,rfl⟩ <;> rfl
 pyHash:=fun hv h=>by
  rcases bf hv with ⟨i,t,rfl,rfl⟩|⟨x,t,rfl,rfl⟩
  ·exact wpAny_pyHash_int h
  ·exact wpAny_pyHash_str h
 eqBool:=fun hu hv h=>by
  rcases bf hu with ⟨i,t,rfl,rfl⟩|⟨x,t,rfl,rfl⟩
  ·rcases bf hv with ⟨j,u,rfl,rfl⟩|⟨y,u,rfl,rfl⟩
   ·rw [Aw] at h;exact wpAny_eqBool_int h
   ·rw [Av] at h;exact SeqAt.EqAt.int_str i t y u _ _ _ _ h
  ·rcases bf hv with ⟨j,u,rfl,rfl⟩|⟨y,u,rfl,rfl⟩
   ·rw [Au] at h;exact SeqAt.EqAt.str_int x t j u _ _ _ _ h
   ·rw [As] at h;exact wpAny_eqBool_str h
 «strs»:=fun k x t v h=>by
  rcases bf h with ⟨i,u,rfl,e⟩|⟨y,u,rfl,e⟩
  ·exact nomatch e
  ·injection e with e1 _
   subst e1
   cases v <;> rfl
inductive V where
 | non|bl (b:Bool)|int (i:Int)|str (x:Str)|byt (b:Array UInt8)|flt (b:UInt64)|ref (a:Addr)|ty (n:String)
 deriving DecidableEq
noncomputable def bx:V→Value→Prop
 | .non,u=>u=Value.none
 | .bl b,u=>u=Value.bool b
 | .int i,u=>∃ t,u=Value.int i t
 | .str x,u=>∃ t,u=Value.str x t
 | .byt b,u=>∃ t,u=Value.bytes b t
 | .flt b,u=>∃ t,u=Value.float b t
 | .ref a,u=>u=Value.ref a
 | .ty n,u=>u=Value.type n
noncomputable abbrev aO:List V→List Value→Prop:=Paired bx
theorem aO.length {xs:List V}{us:List Value} (r:aO xs us):xs.length=us.length:=Paired.length r
theorem aO.get:∀ {xs:List V}{us:List Value}{i:Nat}{x:V},aO xs us→xs[i]? = some x→∃ u,us[i]? = some u∧bx x u
 | _,_,_,_,.nil,e=>by simp at e
 | _,_,0,_,.cons r _,e=>by simp at e;subst e;exact⟨_,rfl,r⟩
 | _,_,i+1,x,.cons _ t,e=>by
  obtain ⟨u,h1,h2⟩:=aO.get (i:=i) (x:=x) t (by simpa using e)
  exact ⟨u,by simpa using h1,h2⟩
theorem aO.set {x:V}{u:Value} (r:bx x u):∀ {xs:List V}{us:List Value} (i:Nat),aO xs us→aO (xs.set i x) (us.set i u)
 | _,_,_,.nil=>.nil
 | _,_,0,.cons _ t=>.cons r t
 | _,_,i+1,.cons q t=>.cons q (aO.set r i t)
theorem aO.append:∀ {xs ys:List V}{us ws:List Value},aO xs us→aO ys ws→aO (xs++ys) (us++ws)
 | _,_,_,_,.nil,s=>s
 | _,_,_,_,.cons r t,s=>.cons r (aO.append t s)
theorem aO.take:∀ {xs:List V}{us:List Value} (n:Nat),aO xs us→aO (xs.take n) (us.take n)
 | _,_,0,_=>.nil
 | _,_,_+1,.nil=>.nil
 | _,_,n+1,.cons r t=>.cons r (aO.take n t)
theorem aO.drop:∀ {xs:List V}{us:List Value} (n:Nat),aO xs us→aO (xs.drop n) (us.drop n)
 | _,_,0,r=>r
 | _,_,_+1,.nil=>.nil
 | _,_,n+1,.cons _ t=>aO.drop n t
noncomputable def Dc:Option V→Option Value→Prop
 | some v,some u=>bx v u
 | none,none=>True
 | _,_=>False
noncomputable def KV {κ:Type}:List (κ×V)→List (κ×Value)→Prop:=Paired fun (p:κ×V) (q:κ×Value)=>p.1=q.1∧bx p.2 q.2
noncomputable def kV:Key→V
 | .inl i=>.int i
 | .inr x=>.str x
inductive HO where
 | lst (xs:List V)
 | tup (xs:List V)
 | dK (kvs:List (Key×V))|dT (kvs:List (List Key×V))
 | set (S:Int→Bool) (n:Nat)
 | ins (C dx:Addr) (fs:List (Str×V))
 | own (x:Addr)
 | xd (fs:List (Str×V))
 | met (f x:Addr)
 | rng (lo hi:Int)
 | frz (o:Obj) (u:HO)
 | tbl (q:Str)
 | ext (φ:Heap→Prop)
noncomputable abbrev Hp:=Addr→Option HO
noncomputable def Fix:HO→Prop
 | .tup _=>True
 | .frz _ _=>True
 | _=>False
noncomputable def yY (H:Hp) (h:Heap) (a:Addr) (q:Str):Prop:=∃ ps:Array Value,h.get? a=some { cls:=.none,data:=.fields ps }∧TriplesOk ps.toList ∧
 ∀ pos cv,codeAmong pos ps.toList=some cv→∃ c oc u vs t,cv=.ref c∧H c=some (.frz oc u)∧oc.data=.fields vs∧vs[1]? = some (.str q t)
noncomputable def upd (H:Hp) (a:Addr) (o:HO):Hp:=fun b=>if b=a then some o else H b
theorem aB {H:Hp}{a:Addr}{o:HO}:upd H a o a=some o:=by unfold upd;rw[if_pos rfl]
theorem am {H:Hp}{a b:Addr}{o:HO} (h:b≠a):upd H a o b=H b:=by unfold upd;rw[if_neg h]
theorem au {H:Hp}{a b:Addr}{o:HO} (h:H a=some o) (h':H b=none):a≠b:=by
 intro e;subst e;rw[h] at h';cases h'
noncomputable def sQ (h:Heap) (a:Addr) (its:Array Value):Prop:=∃ o,h.get? a=some o∧o.cls=.type "tuple" ∧ (∃ n,o.data=.seq its n)∧o.dict=none
theorem sQ.is {h:Heap}{a:Addr}{its:Array Value} (p:sQ h a its):IsTup h a its:=let ⟨o,e,c,n,_⟩:=p;⟨o,e,c,n⟩
theorem sQ.lt {h:Heap}{a:Addr}{its:Array Value} (p:sQ h a its):a<h.objs.size:=p.is.lt
theorem sQ.new (h:Heap) (items:Array Value):sQ (h.push { cls:=.type "tuple",data:=.seq items }) h.objs.size items:=⟨_,Er _ rfl,rfl,⟨_,rfl⟩,rfl⟩
section
variable (P:Program) (w:World)
noncomputable def eh (H:Hp) (h:Heap) (a:Addr):HO→Prop
 | .lst xs=>xs.length≤sizeLine∧∃ (its:List Value) (n:Nat),aO xs its∧h.get? a=some { cls:=.type "list",data:=.seq its.toArray n }
 | .tup xs=>xs.length≤sizeLine∧∃ its:List Value,aO xs its∧sQ h a its.toArray
 | .dK kvs=>kvs.length≤sizeLine∧(a==sysModules)=false∧∃ vs,KV kvs vs∧h.DictOf (lZ P w) a vs
 | .dT kvs=>kvs.length≤sizeLine∧(a==sysModules)=false∧∃ xs:List (List Key×Addr×Value),
   Paired (fun (p:List Key×V) (q:List Key×Addr×Value)=>p.1=q.1∧H q.2.1=some (.tup (p.1.map kV))∧bx p.2 q.2.2) kvs xs ∧
   ∃ o es ep,h.get? a=some o∧o.ExactDict∧o.data=.dict es ep∧es.toList=xs.map (entryOfKey (tupleKind (lZ P w)))∧(xs.map (·.1)).Nodup
 | .set S n=>h.SetOf (intKind P w) a S n
 | .ins C dx fs=>H dx=some (.own a)∧fs.length≤1000∧dx≠a∧h.get? a=some (PySem.W.instObj C dx) ∧
   ∃ mA,h.Ns1 dx mA∧(∀ f,Dc (fs.lookup f) (mA f))∧PySem.Within mA (fs.map (·.1))
 | .own _=>∃ o,h.get? a=some o
 | .xd fs=>∃ mA,h.Ns1 a mA∧∀ f,Dc (fs.lookup f) (mA f)
 | .rng lo hi=>∃ t u v,h.get? a=some { cls:=.type "range",data:=.fields #[.int lo t,.int hi u,.int 1 v] }
 | .frz o u=>h.get? a=some o∧eh H h a u
 | .tbl q=>yY H h a q
 | .met f x=>h.get? a=some (PySem.W.methodObj (.ref f) (.ref x))
 | .ext φ=>φ h∧(∃ o,h.get? a=some o)∧∀ h1 h2:Heap,φ h1→(∀ o,h1.get? a=some o→h2.get? a=some o)→φ h2
noncomputable def HOk (H:Hp) (h:Heap):Prop:=∀ a o,H a=some o→eh P w H h a o
end
section
variable {P:Program}{w:World}{H H':Hp}{h h':Heap}{a:Addr}{o:HO}
theorem eh.lt (x:eh P w H h a o):a<h.objs.size:=by
 cases o with
 | lst xs=>obtain⟨_,_,_,_,e⟩:=x;exact Eo e
 | tup xs=>obtain⟨_,_,_,p⟩:=x;exact p.lt
 | dK kvs=>obtain⟨_,_,_,_,o,_,_,e,_⟩:=x;exact Eo e
 | dT kvs=>obtain⟨_,_,_,_,o,_,_,e,_⟩:=x;exact Eo e
 | set S n=>obtain⟨o,_,_,_,e,_⟩:=x;exact Eo e
 | ins C dx fs=>obtain⟨_,_,_,e,_⟩:=x;exact Eo e
 | own y=>obtain⟨_,e⟩:=x;exact Eo e
 | xd fs=>obtain⟨_,⟨_,_,_,e,_⟩,_⟩:=x;exact Eo e
 | rng lo hi=>obtain⟨_,_,_,e⟩:=x;exact Eo e
 | frz ob u=>obtain⟨e,_⟩:=x;exact Eo e
 | tbl q=>obtain⟨_,e,_⟩:=x;exact Eo e
 | met f y=>exact Eo (show h.get? a=some _ from x)
 | ext φ=>obtain⟨_,⟨_,e⟩,_⟩:=x;exact Eo e
theorem Paired.mapP {α β:Type}{F G:α→β→Prop}:∀ {l₁:List α}{l₂:List β},Paired F l₁ l₂→(∀ a b,F a b→G a b)→Paired G l₁ l₂
 | _,_,.nil,_=>.nil
 | _,_,.cons r t,f=>.cons (f _ _ r) (Paired.mapP t f)
theorem eh.stay (x:eh P w H h a o) (k:∀ b u,(b=a∨H b=some (.own a))→h.get? b=some u→h'.get? b=some u)
  (ho:∀ b,H b=some (.own a)→H' b=some (.own a)) (ht:∀ b o,Fix o→H b=some o→H' b=some o):eh P w H' h' a o:=by
 induction o with
 | lst xs=>obtain⟨z,its,n,r,e⟩:=x;exact⟨z,its,n,r,k _ _ (.inl rfl) e⟩
 | tup xs=>obtain⟨z,its,r,ob,e,c⟩:=x;exact⟨z,its,r,ob,k _ _ (.inl rfl) e,c⟩
 | dK kvs=>obtain⟨z,y,vs,r,ob,es,ep,e,c⟩:=x;exact⟨z,y,vs,r,ob,es,ep,k _ _ (.inl rfl) e,c⟩
 | dT kvs =>
  obtain ⟨z,y,xs,r,ob,es,ep,e,c⟩:=x
  exact ⟨z,y,xs,Paired.mapP r fun p q z=>⟨z.1,ht _ _ trivial z.2.1,z.2.2⟩,ob,es,ep,k _ _ (.inl rfl) e,c⟩
 | set S n=>obtain⟨ob,es,ep,t,e,c⟩:=x;exact⟨ob,es,ep,t,k _ _ (.inl rfl) e,c⟩
 | ins C dx fs =>
  obtain ⟨d,z,ne,e,mA,⟨od,es,ep,e2,c⟩,r⟩:=x
  exact ⟨ho _ d,z,ne,k _ _ (.inl rfl) e,mA,⟨od,es,ep,k _ _ (.inr d) e2,c⟩,r⟩
 | own y=>obtain⟨ob,e⟩:=x;exact⟨ob,k _ _ (.inl rfl) e⟩
 | xd fs=>obtain⟨mA,⟨od,es,ep,e,c⟩,r⟩:=x;exact⟨mA,⟨od,es,ep,k _ _ (.inl rfl) e,c⟩,r⟩
 | rng lo hi=>obtain⟨t,u,v,e⟩:=x;exact⟨t,u,v,k _ _ (.inl rfl) e⟩
 | frz ob u ih=>obtain⟨e,q⟩:=x;exact⟨k _ _ (.inl rfl) e,ih q⟩
 | tbl q =>
  obtain ⟨ps,e,t,c⟩:=x
  exact ⟨ps,k a _ (.inl rfl) e,t,fun pos cv hcv=>let ⟨b,oc,u,vs,t,e1,e2,e3⟩:=c pos cv hcv;⟨b,oc,u,vs,t,e1,ht _ _ trivial e2,e3⟩⟩
 | met f y =>
  have e:h.get? a=some (PySem.W.methodObj (.ref f) (.ref y)):=x
  show h'.get? a=some (PySem.W.methodObj (.ref f) (.ref y))
  exact k a _ (.inl rfl) e
 | ext φ=>obtain⟨p,⟨o,e⟩,st⟩:=x;exact⟨st _ _ p fun o q=>k _ _ (.inl rfl) q,⟨o,k _ _ (.inl rfl) e⟩,st⟩
theorem HOk.lt (x:HOk P w H h) (e:H a=some o):a<h.objs.size:=(x a o e).lt
theorem HOk.fresh (x:HOk P w H h) (e:h.objs.size≤a):H a=none:=by
 cases q:H a with
 | none=>rfl
 | some u=>exact absurd (Ep (x.lt q) e) (Fc _)
theorem HOk.kept (x:HOk P w H h) (k:∀ b u,h.get? b=some u→h'.get? b=some u):HOk P w H h':=fun a o e =>
 (x a o e).stay (fun b u _ q=>k b u q) (fun _ q=>q) fun _ _ _ q=>q
theorem HOk.laid (x:HOk P w H h) (k:∀ b u,h.get? b=some u→h'.get? b=some u) (hp:h.objs.size≤a) (new:eh P w (upd H a o) h' a o):HOk P w (upd H a o) h':=fun b u e=>by
 have hn:=x.fresh hp
 by_cases hb:b=a
 ·subst hb;rw[aB] at e;cases e;exact new
 ·rw [am hb] at e
  exact (x b u e).stay (fun c v _ q=>k c v q) (fun c q=>by rw[am (au q hn)];exact q) fun c xs _ q=>by rw[am (au q hn)];exact q
end
noncomputable def Rd (H:Hp) (a:Addr) (u:HO):Prop:=H a=some u∨∃ o,H a=some (.frz o u)
theorem Rd.ok {P:Program}{w:World}{H:Hp}{h:Heap}{a:Addr}{u:HO} (r:Rd H a u) (x:HOk P w H h):eh P w H h a u:=by
 rcases r with r|⟨o,r⟩
 ·exact x a u r
 ·obtain ⟨_,q⟩:=x a _ r
  exact q
noncomputable def Mut:Option HO→Prop
 | some (.lst _)=>True
 | some (.dK _)=>True
 | some (.dT _)=>True
 | some (.set _ _)=>True
 | some (.ins _ _ _)=>True
 | some (.ext _)=>True
 | _=>False
section
variable {P:Program}{w:World}{H:Hp}{h h':Heap}{x e:Addr}{o':HO}
theorem HOk.write (ok:HOk P w H h) (mu:Mut (H x)) (he:e=x∨H e=some (.own x)) (k:∀ b u,b≠e→h.get? b=some u→h'.get? b=some u) (heo:∃ u,h'.get? e=some u)
  (new:eh P w (upd H x o') h' x o'):HOk P w (upd H x o') h':=fun b u q=>by
 have nown:∀ c y,H c=some (.own y)→c≠x:=fun c y r z=>by subst z;rw[r] at mu;exact mu
 have ntup:∀ c o,Fix o→H c=some o→c≠x:=fun c o f r z=>by subst z;rw[r] at mu;cases o <;> first|exact mu|exact f
 by_cases hb:b=x
 ·subst hb;rw[aB] at q;cases q;exact new
 ·rw [am hb] at q
  by_cases hbe:b=e
  ·have q':H b=some (.own x):=by
    rcases he with z|z
    ·exact absurd (hbe.trans z) hb
    ·rw [hbe];exact z
   rw [q] at q';cases q'
   obtain ⟨v,hv⟩:=heo
   exact ⟨v,by rw[hbe];exact hv⟩
  ·refine (ok b u q).stay (fun c v hc r=>k c v ?_ r) (fun c r=>by rw[am (nown c b r)];exact r) fun c xs f r=>by rw[am (ntup c xs f r)];exact r
   rcases hc with rfl|hc
   ·exact hbe
   ·rintro rfl
    rcases he with z|z
    ·exact nown c b hc z
    ·rw [hc] at z;cases z;exact hb rfl
end
structure Un (fs ex:List Addr) (H H':Hp) (h h':Heap):Prop where
 keep:∀ b o,h.get? b=some o→H b=none→b ∉ fs→b ∉ ex→h'.get? b=some o
 slot:∀ b o,h.get? b=some o→H b=none→b∈fs→b ∉ ex→∃ sl,h'.get? b=some { o with slots:=sl }
 free:∀ b o,h.get? b=some o→H b=none→b ∉ ex→H' b=none
 there:∀ b o,h.get? b=some o→b ∉ ex→∃ o',h'.get? b=some o'
 tups:∀ b xs,H b=some (.tup xs)→H' b=some (.tup xs)
 frzs:∀ b o u,H b=some (.frz o u)→H' b=some (.frz o u)
 tbls:∀ b q,H b=some (.tbl q)→H' b=some (.tbl q)
section
variable {fs fs' ex ex':List Addr}{H H1 H2:Hp}{h h1 h2 h':Heap}{a x e:Addr}{o:HO}
theorem Un.any (u:Un fs ex H H1 h h1) {b:Addr}{ob:Obj} (q:h.get? b=some ob) (n:H b=none) (hx:b ∉ ex):∃ sl,h1.get? b=some { ob with slots:=sl }:=by
 by_cases hb:b∈fs
 ·exact u.slot b ob q n hb hx
 ·exact ⟨ob.slots,u.keep b ob q n hb hx⟩
theorem Un.kept (k:∀ b u,h.get? b=some u→h'.get? b=some u):Un fs ex H H h h' :=
 ⟨fun b ob q _ _ _=>k b ob q,fun b ob q _ _ _=>⟨ob.slots,k b ob q⟩,fun _ _ _ n _=>n,fun b ob q _=>⟨ob,k b ob q⟩,fun _ _ q=>q,fun _ _ _ q=>q,fun _ _ q=>q⟩
theorem Un.refl:Un fs ex H H h h:=Un.kept fun _ _ q=>q
theorem Un.laid (k:∀ b u,h.get? b=some u→h'.get? b=some u) (hp:h.objs.size≤a) (hn:H a=none):Un fs ex H (upd H a o) h h' where
 keep:=fun b u q _ _ _=>k b u q
 slot:=fun b u q _ _ _=>⟨u.slots,k b u q⟩
 free:=fun b u q n _=>by rw[am (ED (Ep (Eo q) hp))];exact n
 there:=fun b u q _=>⟨u,k b u q⟩
 tups:=fun b xs q=>by rw[am (au q hn)];exact q
 frzs:=fun b u xs q=>by rw[am (au q hn)];exact q
 tbls:=fun b ps q=>by rw[am (au q hn)];exact q
theorem Un.write (mu:Mut (H x)) (he:e=x∨H e=some (.own x)) (k:∀ b u,b≠e→h.get? b=some u→h'.get? b=some u) (heo:∃ u,h'.get? e=some u):Un fs ex H (upd H x o) h h':=by
 have hx:∀ b,H b=none→b≠x:=fun b n z=>by subst z;rw[n] at mu;exact mu
 have hb:∀ b,H b=none→b≠e:=fun b n z=>by
  subst z
  rcases he with r|r
  ·exact hx b n r
  ·rw [n] at r;cases r
 have hm:∀ b u,H b=some u→¬Mut (some u)→b≠x:=fun b u q nm z=>by subst z;rw[q] at mu;exact nm mu
 refine ⟨fun b u q n _ _=>k b u (hb b n) q,fun b u q n _ _=>⟨u.slots,k b u (hb b n) q⟩,fun b u q n _=>by rw[am (hx b n)];exact n,fun b u q _=>?_,
  fun b xs q=>by rw[am (hm b _ q fun z=>z)];exact q,fun b u xs q=>by rw[am (hm b _ q fun z=>z)];exact q,fun b ps q=>by rw[am (hm b _ q fun z=>z)];exact q⟩
 by_cases hbe:b=e
 ·subst hbe;exact heo
 ·exact ⟨u,k b u hbe q⟩
end
noncomputable def trk (h:Heap) (H:Hp):List Addr:=(List.range h.objs.size).filter fun a=>(H a).isSome
noncomputable def sY (h:Heap) (H:Hp):Heap:=PySem.W.hideAll h (trk h H)
theorem rE (h:Heap) (H:Hp):(sY h H).objs.size=h.objs.size:=PySem.W.hideAll_size _ _
theorem uC {h:Heap}{H:Hp}{b:Addr}{o:Obj} (e:h.get? b=some o) (n:H b=none):(sY h H).get? b=some o :=
 PySem.W.hideAll_get _ e fun hm=>by
  have q:(H b).isSome=true:=(EC.mp hm).2
  rw [n] at q;simp at q
theorem xW {h:Heap}{H:Hp}{b:Addr}{o:Obj} (e:(sY h H).get? b=some o):h.get? b=some o∧H b=none:=by
 have e':h.get? b=some o:=PySem.W.of_hideAll (trk h H) e
 refine ⟨e',?_⟩
 cases q:H b with
 | none=>rfl
 | some x =>
  have hm:b∈trk h H:=EC.mpr ⟨Ey.mpr (Eo e'),by simp[q]⟩
  have z:(sY h H).get? b=none:=PySem.W.hideAll_none (trk h H) hm
  rw [z] at e;cases e
noncomputable def yV (g h:Heap) (L:Addr):List (Addr×Obj):=(List.range h.objs.size).filterMap fun a=>if a=L∨(g.get? a).isSome=true then none else (h.get? a).map fun o=>(a,o)
noncomputable def dc (g h:Heap) (L d:Addr):List (Addr×Obj):=(yV g h L).filter fun p=>decide (p.1≠d)
structure Mod (K:PySem.W.Frag) (mg:Str→Option Value) (base:Heap):Prop where
 kin:K.In base
 glob:base.Ns mainGlobals mg
 blt:∃ mb,base.Ns builtinsNs mb∧∀ x:Str,x ≠ "__name__" → mb x=bootBuiltins x
 nolimit:base.NoLimit
 bmain:∃ bm ob,mg "__builtins__" = some (.ref bm)∧bm≠builtinsNs∧base.get? bm=some ob∧ob.cls=.type "module" ∧ ob.dict=some builtinsNs∧ob.data=.plain
noncomputable def dO:List Str:=["choices", "full_rows", "chain_plan", "least_ranks"]
noncomputable def hV (K:PySem.W.Frag) (T:Addr) (q:Str):Prop:=∃ x∈dO,∃ f o fd c oc vs,PySem.W.nsIn K mainGlobals x=some (some (.ref f))∧K.lookup f=some o∧o.data=.func fd∧fd.code=.ref c ∧
 K.lookup c=some oc∧oc.data=.fields vs∧vs[11]? = some (.ref T)∧q=x ++ ".<locals>.<lambda>"
noncomputable def wO (K:PySem.W.Frag) (H:Hp):Prop:=∀ T q,hV K T q→H T=some (.tbl q)
structure Cx where
 prog:Program
 w : World
 K : PySem.W.Frag
 mg : Str→Option Value
 base:Heap
 A : Around
 N : List Str
 s₀ : Shared
 H₀ : Hp
 env:Env
 outer:List Env
 stack:List Env
 ex : List Addr
 fn : Str→Bool
 calm:Bool
 pn : List (Addr×Obj)
 xe : Value→Shared→Prop
noncomputable def frs (l:List Env):List Addr:=l.filterMap (·.frame)
noncomputable abbrev Cx.fs (X:Cx):List Addr:=frs X.outer
noncomputable def Vis (sc:Scope) (x:Str):Prop:=sc.names.lookup x=some .local∨sc.names.lookup x=some .cell∨sc.names.lookup x=some .free
noncomputable def Loc (sc:Scope) (x:Str):Prop:=sc.names.lookup x=some .local∨sc.names.lookup x=some .cell
noncomputable def D0 (env:Env) (h:Heap) (m:Str→Option Value) (x:Str) (u:Value):Prop :=
 (env.kindOf x=some .local∧m x=some u)∨((env.kindOf x=some .cell∨env.kindOf x=some .free)∧∃ c,env.cells.lookup x=some c∧h.IsCell c (some u))
structure Cx.Ok (X:Cx):Prop where
 mod:Mod X.K X.mg X.base
 kind:X.env.scope.kind=.function
 glob:X.env.globals=mainGlobals
 blt:X.env.builtins=builtinsNs
 above:X.s₀.heap.objs.size≤X.env.locals
 inj:∀ x y c,X.env.cells.lookup x=some c→X.env.cells.lookup y=some c→x=y
 has:∀ x,(X.env.kindOf x=some .cell∨X.env.kindOf x=some .free)→∃ c,X.env.cells.lookup x=some c
 cab:∀ x c,X.fn x=true→X.env.cells.lookup x=some c→X.s₀.heap.objs.size≤c
 hd : X.calm=true→X.A.handled=none
 frames:X.A.frames=some X.stack
 stk:X.stack=X.outer∨(X.stack=X.env::X.outer∧X.env.frame=some X.env.locals)
 exf:∀ b∈X.ex,b≠X.env.locals∧∀ x c,X.env.cells.lookup x=some c→c≠b
 bs : ∀ b o,X.base.get? b=some o→X.s₀.heap.get? b=some o∧X.H₀ b=none
 bsz:X.base.objs.size≤X.s₀.heap.objs.size
 noex:∀ b o,X.base.get? b=some o→b ∉ X.ex
 exfs:∀ b∈X.ex,b ∉ X.fs
 funs:X.s₀.heap.FunFrames X.base X.outer
 frf:∀ b∈X.fs,X.H₀ b=none
 tab:wO X.K X.H₀
structure Inv (X:Cx) (pins:List (Addr×Obj)) (σ:List (Option V)) (H:Hp) (s:Shared):Prop where
 ok : X.Ok
 os : s.os=X.s₀.os
 bare:AllBare s.gens
 base:Un X.fs X.ex X.H₀ H X.s₀.heap s.heap
 loc:∃ m,s.heap.Ns X.env.locals m∧∀ (i:Nat) (x:Str) (v:V),X.N[i]? = some x→σ[i]? = some (some v)→Vis X.env.scope x→∃ u,bx v u∧D0 X.env s.heap m x u
 cell:∀ x c,X.env.cells.lookup x=some c→∃ v,s.heap.IsCell c v
 free:H X.env.locals=none
 freeC:∀ x c,X.env.cells.lookup x=some c→H c=none
 pin:∀ p∈X.pn++pins,s.heap.get? p.1=some p.2∧H p.1=none∧p.1≠X.env.locals∧p.1 ∉ X.fs∧∀ v,p.2.data≠.cell v
 hok:HOk X.prog X.w H s.heap
 len:σ.length=X.N.length
section
variable {X:Cx}{pins:List (Addr×Obj)}{σ:List (Option V)}{H H':Hp}{s:Shared}{h':Heap}
theorem Cx.Ok.nofr (ok:X.Ok) {b:Addr}{o:Obj} (e:X.base.get? b=some o):b ∉ X.fs:=fun hb=>by
 have:=(ok.funs.mem hb).1
 rw [e] at this;cases this
theorem Inv.bs (I:Inv X pins σ H s):∀ b o,X.base.get? b=some o→s.heap.get? b=some o∧H b=none:=fun b o e =>
 ⟨I.base.keep b o (I.ok.bs b o e).1 (I.ok.bs b o e).2 (I.ok.nofr e) (I.ok.noex b o e),I.base.free b o (I.ok.bs b o e).1 (I.ok.bs b o e).2 (I.ok.noex b o e)⟩
theorem Inv.bk (I:Inv X pins σ H s):∀ b o,X.base.get? b=some o→s.heap.get? b=some o:=fun b o e=>(I.bs b o e).1
theorem Inv.mod (I:Inv X pins σ H s):Mod X.K X.mg X.base:=I.ok.mod
theorem Inv.kIn (I:Inv X pins σ H s):X.K.In s.heap:=I.ok.mod.kin.keeps I.bk
theorem Inv.lt (I:Inv X pins σ H s):X.env.locals<s.heap.objs.size:=let ⟨_,hn,_⟩:=I.loc;hn.lt
theorem Inv.sz (I:Inv X pins σ H s):X.s₀.heap.objs.size≤s.heap.objs.size:=Eg I.ok.above (Nat.le_of_lt I.lt)
theorem Inv.nofs (I:Inv X pins σ H s) {a:Addr} (h:s.heap.objs.size≤a):a ∉ X.fs:=fun hb=>by
 obtain ⟨_,o,ho,_⟩:=I.ok.funs.mem hb
 exact absurd (Ep (Eo ho) (Eg I.sz h)) (Fc _)
theorem Inv.cne (I:Inv X pins σ H s):∀ x c,X.env.cells.lookup x=some c→c≠X.env.locals:=fun x c e z=>by
 obtain ⟨v,o,ho,hd⟩:=I.cell x c e
 obtain ⟨m,⟨o',es,ep,ho',hd',_⟩,_⟩:=I.loc
 rw [z,ho'] at ho;cases ho;rw[hd'] at hd;cases hd
theorem Inv.funs (I:Inv X pins σ H s):s.heap.FunFrames X.base X.outer:=by
 have all:∀ (l:List Env),(∀ b∈frs l,b∈X.fs)→X.s₀.heap.FunFrames X.base l→s.heap.FunFrames X.base l:=by
  intro l
  induction l with
  | nil=>intro _ _;trivial
  | cons env r ih =>
   intro hs hl
   obtain ⟨hk,⟨L,o,hf,hn,ho,hd⟩,hr⟩:=hl
   have hL:L∈X.fs:=hs L (by unfold frs;rw[List.filterMap_cons,hf];exact Eh)
   obtain ⟨sl,e⟩:=I.base.slot L o ho (I.ok.frf L hL) hL fun z=>I.ok.exfs L z hL
   exact ⟨hk,⟨L,_,hf,hn,e,hd⟩,ih (fun b hb=>hs b (by unfold frs;rw[List.filterMap_cons,hf];exact Ej _ hb)) hr⟩
 exact all X.outer (fun _ hb=>hb) I.ok.funs
theorem Inv.stack (I:Inv X pins σ H s):s.heap.FunFrames X.base X.stack:=by
 rcases I.ok.stk with e|⟨e,hf⟩
 ·rw [e];exact I.funs
 ·rw [e]
  obtain ⟨m,hn,_⟩:=I.loc
  refine .cons (by rw[I.ok.kind];decide) hf hn ?_ I.funs
  exact Heap.get?_none_of_le (Eg I.ok.bsz I.ok.above)
theorem Inv.stkSub (I:Inv X pins σ H s):∀ b∈frs X.stack,b∈X.env.locals::X.fs:=fun b hb=>by
 rcases I.ok.stk with e|⟨e,hf⟩
 ·rw [e] at hb;exact Ej _ hb
 ·rw [e] at hb
  unfold frs at hb
  rw [List.filterMap_cons,hf] at hb
  exact hb
theorem Inv.stkFree (I:Inv X pins σ H s):∀ b∈frs X.stack,H b=none:=fun b hb=>by
 rcases En.mp (I.stkSub b hb) with e|hb
 ·rw [e];exact I.free
 ·obtain ⟨_,o,ho,_⟩:=I.ok.funs.mem hb
  exact I.base.free b o ho (I.ok.frf b hb) fun z=>I.ok.exfs b z hb
theorem Inv.step {g':Array GenState}{t':Nat}{d':Drawn}{ch:List Addr} (I:Inv X pins σ H s)
  (hch:∀ b∈ch,(b∈X.ex∨X.s₀.heap.objs.size≤b)∧b≠X.env.locals∧(∀ x c,X.env.cells.lookup x=some c→c≠b)∧∀ p∈X.pn++pins,p.1≠b)
  (keep:∀ b o,b≠X.env.locals→b ∉ X.fs→b ∉ ch→s.heap.get? b=some o→H b=none→h'.get? b=some o)
  (slot:∀ b o,b≠X.env.locals→b∈X.fs→b ∉ ch→s.heap.get? b=some o→H b=none→∃ sl,h'.get? b=some { o with slots:=sl }) (free:∀ b o,b ∉ ch→s.heap.get? b=some o→H b=none→H' b=none)
  (there:∀ b o,b ∉ ch→s.heap.get? b=some o→∃ o',h'.get? b=some o')
  (tups:∀ b xs,H b=some (.tup xs)→H' b=some (.tup xs)) (frzs:∀ b o u,H b=some (.frz o u)→H' b=some (.frz o u)) (tbls:∀ b ps,H b=some (.tbl ps)→H' b=some (.tbl ps))
  (ns:∀ m,s.heap.Ns X.env.locals m→h'.Ns X.env.locals m) (hok:HOk X.prog X.w H' h') (hg:AllBare g') :
  Inv X pins σ H' { s with heap:=h',gens:=g',drawn:=d',toks:=t' }:=by
 have neL:∀ b o,X.s₀.heap.get? b=some o→b≠X.env.locals:=fun b o e=>ED (Ep (Eo e) I.ok.above)
 have neC:∀ b o,X.s₀.heap.get? b=some o→b ∉ X.ex→b ∉ ch:=fun b o e hx hb=>by
  rcases (hch b hb).1 with z|z
  ·exact hx z
  ·exact absurd (Ep (Eo e) z) (Fc _)
 have cellK:∀ x c,X.env.cells.lookup x=some c→∀ v,s.heap.IsCell c v→h'.IsCell c v:=fun x c e v ⟨o,ho,hd⟩=>by
  have nch:c ∉ ch:=fun z=>(hch c z).2.2.1 x c e rfl
  by_cases hc:c∈X.fs
  ·obtain ⟨sl,q⟩:=slot c o (I.cne x c e) hc nch ho (I.freeC x c e)
   exact ⟨_,q,hd⟩
  ·exact ⟨o,keep c o (I.cne x c e) hc nch ho (I.freeC x c e),hd⟩
 refine ⟨I.ok,I.os,hg,⟨fun b o e n hb hx=>?_,fun b o e n hb hx=>?_,fun b o e n hx=>?_,fun b o e hx=>?_,fun b xs e=>tups b xs (I.base.tups b xs e),fun b o xs e=>frzs b o xs (I.base.frzs b o xs e),fun b ps e=>?_⟩,?_,fun x c e=>?_,?_,fun x c e=>?_,fun p hp=>?_,hok,I.len⟩
 ·exact keep b o (neL b o e) hb (neC b o e hx) (I.base.keep b o e n hb hx) (I.base.free b o e n hx)
 ·obtain ⟨sl,e1⟩:=I.base.slot b o e n hb hx
  obtain ⟨sl',e2⟩:=slot b _ (neL b o e) hb (neC b o e hx) e1 (I.base.free b o e n hx)
  exact ⟨sl',e2⟩
 ·obtain ⟨o',e1⟩:=I.base.there b o e hx
  exact free b o' (neC b o e hx) e1 (I.base.free b o e n hx)
 ·obtain ⟨o',e1⟩:=I.base.there b o e hx
  exact there b o' (neC b o e hx) e1
 ·exact tbls b ps (I.base.tbls b ps e)
 ·obtain ⟨m,hn,hl⟩:=I.loc
  refine ⟨m,ns m hn,fun i x v e1 e2 e3=>?_⟩
  obtain ⟨u,r,l⟩:=hl i x v e1 e2 e3
  refine ⟨u,r,?_⟩
  rcases l with l|⟨k,c,e,z⟩
  ·exact .inl l
  ·exact .inr ⟨k,c,e,cellK x c e _ z⟩
 ·obtain ⟨v,z⟩:=I.cell x c e
  exact ⟨v,cellK x c e v z⟩
 ·obtain ⟨m,⟨o,_,_,ho,_⟩,_⟩:=I.loc
  exact free _ o (fun z=>(hch _ z).2.1 rfl) ho I.free
 ·obtain ⟨v,o,ho,hd⟩:=I.cell x c e
  exact free c o (fun z=>(hch c z).2.2.1 x c e rfl) ho (I.freeC x c e)
 ·obtain ⟨e,n,ne,nf,d⟩:=I.pin p hp
  have nch:p.1 ∉ ch:=fun z=>(hch p.1 z).2.2.2 p hp rfl
  exact ⟨keep p.1 p.2 ne nf nch e n,free p.1 p.2 nch e n,ne,nf,d⟩
theorem Inv.un {t':Nat} (I:Inv X pins σ H s) (u:Un X.fs [] H H' s.heap h') (hok:HOk X.prog X.w H' h'):Inv X pins σ H' { s with heap:=h',toks:=t' }:=by
 obtain ⟨m,⟨o,es,ep,ho,r⟩,_⟩:=id I.loc
 obtain ⟨sl,hL⟩:=u.any ho I.free (by simp)
 exact I.step (g':=s.gens) (d':=s.drawn) (ch:=[]) (fun _ z=>nomatch z) (fun b o _ hb _ e n=>u.keep b o e n hb (by simp)) (fun b o _ hb _ e n=>u.slot b o e n hb (by simp)) (fun b o _ e n=>u.free b o e n (by simp)) (fun b o _ e=>u.there b o e (by simp)) u.tups u.frzs u.tbls (fun m' hm=>by
  obtain ⟨o',es',ep',ho',r'⟩:=hm
  rw [ho] at ho';cases ho'
  exact ⟨_,es',ep',hL,r'⟩) hok I.bare
theorem Inv.call {g':Array GenState}{t':Nat}{d':Drawn}{ch:List Addr} (I:Inv X pins σ H s) (u:Un (frs X.stack) ch H H' s.heap h') (hok:HOk X.prog X.w H' h') (hg:AllBare g')
  (hch:∀ b∈ch,(b∈X.ex∨X.s₀.heap.objs.size≤b)∧b≠X.env.locals∧(∀ x c,X.env.cells.lookup x=some c→c≠b)∧∀ p∈X.pn++pins,p.1≠b) :
  Inv X pins σ H' { s with heap:=h',gens:=g',drawn:=d',toks:=t' }:=by
 obtain ⟨m,⟨o,es,ep,ho,r⟩,_⟩:=id I.loc
 obtain ⟨sl,hL⟩:=u.any ho I.free fun z=>(hch _ z).2.1 rfl
 exact I.step (ch:=ch) hch (fun b o hL hb hc e n=>u.keep b o e n (fun z=>(En.mp (I.stkSub b z)).elim hL hb) hc) (fun b o _ _ hc e n=>u.any e n hc) (fun b o hc e n=>u.free b o e n hc) (fun b o hc e=>u.there b o e hc) u.tups u.frzs u.tbls (fun m' hm=>by
  obtain ⟨o',es',ep',ho',r'⟩:=hm
  rw [ho] at ho';cases ho'
  exact ⟨_,es',ep',hL,r'⟩) hok hg
theorem Inv.turned {t':Nat}{it:Addr} (I:Inv X pins σ H s) (k:∀ b o,b≠it→s.heap.get? b=some o→h'.get? b=some o) (hn:H it=none) (hL:it≠X.env.locals)
  (h1:it∈X.ex∨X.s₀.heap.objs.size≤it) (h2:∀ x c,X.env.cells.lookup x=some c→c≠it) (h3:∀ p∈X.pn++pins,p.1≠it):Inv X pins σ H { s with heap:=h',toks:=t' }:=by
 have nit:∀ b u,H b=some u→b≠it:=fun b u e z=>by rw[z,hn] at e;cases e
 refine I.step (g':=s.gens) (d':=s.drawn) (ch:=[it]) (fun b hb=>?_) (fun b o _ _ hc e _=>k b o (fun z=>hc (by simp[z])) e) (fun b o _ _ hc e _=>⟨o.slots,k b o (fun z=>hc (by simp[z])) e⟩) (fun _ _ _ _ n=>n)
  (fun b o hc e=>⟨o,k b o (fun z=>hc (by simp[z])) e⟩) (fun _ _ e=>e) (fun _ _ _ e=>e) (fun _ _ e=>e) (fun m hm=>?_) (fun b u e=>?_) I.bare
 ·have e:b=it:=by simpa using hb
  subst e
  exact ⟨h1,hL,h2,h3⟩
 ·obtain ⟨o,es,ep,ho,r⟩:=hm
  exact ⟨o,es,ep,k _ o (Ne.symm hL) ho,r⟩
 ·refine (I.hok b u e).stay (fun c v hc q=>k c v ?_ q) (fun _ q=>q) fun _ _ _ q=>q
  rcases hc with z|z
  ·rw [z];exact nit b u e
  ·exact nit c _ z
theorem Inv.tok (I:Inv X pins σ H s) (t:Nat):Inv X pins σ H { s with toks:=t }:=I.un (h':=s.heap) (t':=t) Un.refl I.hok
theorem Inv.kept {t':Nat} (I:Inv X pins σ H s) (k:∀ b u,s.heap.get? b=some u→h'.get? b=some u):Inv X pins σ H { s with heap:=h',toks:=t' }:=I.un (Un.kept k) (I.hok.kept k)
theorem Inv.laid {a:Addr}{o:HO}{t':Nat} (I:Inv X pins σ H s) (k:∀ b u,s.heap.get? b=some u→h'.get? b=some u) (hp:s.heap.objs.size≤a) (new:eh X.prog X.w (upd H a o) h' a o) :
  Inv X pins σ (upd H a o) { s with heap:=h',toks:=t' }:=I.un (Un.laid k hp (I.hok.fresh hp)) (I.hok.laid k hp new)
theorem Inv.write {x e:Addr}{o:HO}{t':Nat} (I:Inv X pins σ H s) (mu:Mut (H x)) (he:e=x∨H e=some (.own x)) (k:∀ b u,b≠e→s.heap.get? b=some u→h'.get? b=some u) (heo:∃ u,h'.get? e=some u)
  (new:eh X.prog X.w (upd H x o) h' x o):Inv X pins σ (upd H x o) { s with heap:=h',toks:=t' }:=I.un (Un.write mu he k heo) (I.hok.write mu he k heo new)
theorem Inv.pins_of {pins':List (Addr×Obj)} (I:Inv X pins σ H s) (h:∀ p∈pins',s.heap.get? p.1=some p.2∧H p.1=none∧p.1≠X.env.locals∧p.1 ∉ X.fs∧∀ v,p.2.data≠.cell v):Inv X pins' σ H s :=
 ⟨I.ok,I.os,I.bare,I.base,I.loc,I.cell,I.free,I.freeC,fun p hp=>(Ed.mp hp).elim (fun z=>I.pin p (Ec _ z)) (h p),I.hok,I.len⟩
theorem nA {N:List Str} (hN:N.Nodup) {i j:Nat}{x:Str} (a:N[i]? = some x) (b:N[j]? = some x):i=j:=by
 obtain ⟨h1,e1⟩:=Ef.mp a
 obtain ⟨h2,e2⟩:=Ef.mp b
 exact (List.getElem_inj hN).mp (e1.trans e2.symm)
theorem jV {M:Model}{A:Around}{E:Value→Shared→Prop}{i:Nat}{x:Str}{v:V}{u:Value}{Q:Unit→Shared→Prop} (I:Inv X pins σ H s) (hN:X.N.Nodup) (hi:X.N[i]? = some x) (hx:Loc X.env.scope x) (r:bx v u)
  (h : ∀ s',Inv X pins (σ.set i (some v)) H s'→(∃ a,Heap.SameBut a s.heap s'.heap∧(a=X.env.locals∨X.env.cells.lookup x=some a))→Q () s') (hf:X.fn x=true∨X.env.scope.names.lookup x=some .local:=by first|exact .inl rfl|exact .inr rfl|assumption):wpAny M A (storeName X.env x u) Q E s:=by
 obtain ⟨m,hn,hl⟩:=id I.loc
 have hcls:(X.env.scope.kind==.class || (X.env.scope.kind==.module&&X.env.locals != X.env.globals))=false:=by rw[I.ok.kind];rfl
 have hiσ:i<σ.length:=by rw[I.len];exact (Ef.mp hi).1
 have cne:=I.cne
 have tracked:∀ {a:Addr}{h':Heap},(∃ o,s.heap.get? a=some o∧H a=none)→Heap.SameBut a s.heap h'→HOk X.prog X.w H h':=fun {a h'} ha hs b ob e=>by
  obtain ⟨_,_,hfree⟩:=ha
  refine (I.hok b ob e).stay (fun c w' hc q=>(hs.2 c ?_).trans q) (fun _ q=>q) fun _ _ _ q=>q
  rintro rfl
  rcases hc with rfl|hc
  ·rw [hfree] at e;cases e
  ·rw [hfree] at hc;cases hc
 rcases hx with hk|hk
 ·refine wpAny_storeName_local hk hn (fun h' hn' hs=>?_) hcls
  obtain ⟨oL,_,_,hoL,_⟩:=id hn
  refine h _ ⟨I.ok,I.os,I.bare,⟨fun b o e n hb hx=>?_,fun b o e n hb hx=>?_,I.base.free,fun b o e hx=>?_,I.base.tups,I.base.frzs,I.base.tbls⟩,⟨_,hn',fun j y v' e1 e2 e3=>?_⟩,fun y c e=>?_,I.free,I.freeC,fun p hp=>?_,tracked ⟨oL,hoL,I.free⟩ hs,by simpa using I.len⟩ ⟨_,hs,.inl rfl⟩
  ·exact (hs.2 b (ED (Ep (Eo e) I.ok.above))).trans (I.base.keep b o e n hb hx)
  ·obtain ⟨sl,e1⟩:=I.base.slot b o e n hb hx
   exact ⟨sl,(hs.2 b (ED (Ep (Eo e) I.ok.above))).trans e1⟩
  ·obtain ⟨o',e1⟩:=I.base.there b o e hx
   exact ⟨o',(hs.2 b (ED (Ep (Eo e) I.ok.above))).trans e1⟩
  ·by_cases hj:j=i
   ·subst hj
    rw [hi] at e1;cases e1
    rw [EG hiσ] at e2
    cases e2
    exact ⟨u,r,.inl ⟨hk,by simp⟩⟩
   ·rw [EF (Ne.symm hj)] at e2
    obtain ⟨u',r',q⟩:=hl j y v' e1 e2 e3
    refine ⟨u',r',?_⟩
    rcases q with ⟨k,e⟩|⟨k,c,e,z⟩
    ·refine .inl ⟨k,?_⟩
     have:y≠x:=fun e=>hj (nA hN e1 (e▸hi))
     simp [this,e]
    ·exact .inr ⟨k,c,e,z.sameBut hs (cne y c e)⟩
  ·obtain ⟨w',z⟩:=I.cell y c e
   exact ⟨w',z.sameBut hs (cne y c e)⟩
  ·obtain ⟨e,n,ne,nf,d⟩:=I.pin p hp
   exact ⟨(hs.2 p.1 ne).trans e,n,ne,nf,d⟩
 ·have hfn:X.fn x=true:=by
   rcases hf with z|z
   ·exact z
   ·rw [z] at hk;cases hk
  obtain ⟨c,hc⟩:=I.ok.has x (.inl hk)
  obtain ⟨w',z⟩:=I.cell x c hc
  refine wpAny_storeName_cell I.ok.kind hk hc z (fun h' hc' hs=>?_)
  obtain ⟨oc,hoc,hocd⟩:=id z
  refine h { s with heap:=h' } ⟨I.ok,I.os,I.bare,⟨fun b o e n hb hx=>?_,fun b o e n hb hx=>?_,I.base.free,fun b o e hx=>?_,I.base.tups,I.base.frzs,I.base.tbls⟩,⟨m,hn.sameBut hs (Ne.symm (cne x c hc)),fun j y v' e1 e2 e3=>?_⟩,fun y c' e=>?_,I.free,I.freeC,fun p hp=>?_,tracked ⟨oc,hoc,I.freeC x c hc⟩ hs,by simpa using I.len⟩ ⟨c,hs,.inr hc⟩
  ·exact (hs.2 b (ED (Ep (Eo e) (I.ok.cab x c hfn hc)))).trans (I.base.keep b o e n hb hx)
  ·obtain ⟨sl,e1⟩:=I.base.slot b o e n hb hx
   exact ⟨sl,(hs.2 b (ED (Ep (Eo e) (I.ok.cab x c hfn hc)))).trans e1⟩
  ·obtain ⟨o',e1⟩:=I.base.there b o e hx
   exact ⟨o',(hs.2 b (ED (Ep (Eo e) (I.ok.cab x c hfn hc)))).trans e1⟩
  ·by_cases hj:j=i
   ·subst hj
    rw [hi] at e1;cases e1
    rw [EG hiσ] at e2
    cases e2
    exact ⟨u,r,.inr ⟨.inl hk,c,hc,hc'⟩⟩
   ·rw [EF (Ne.symm hj)] at e2
    obtain ⟨u',r',q⟩:=hl j y v' e1 e2 e3
    refine ⟨u',r',?_⟩
    rcases q with q|⟨k,c',e,z'⟩
    ·exact .inl q
    ·refine .inr ⟨k,c',e,z'.sameBut hs ?_⟩
     rintro rfl
     exact hj (nA hN e1 (I.ok.inj _ _ _ e hc▸hi))
  ·by_cases hcc:c'=c
   ·subst hcc;exact⟨_,hc'⟩
   ·obtain ⟨w2,z2⟩:=I.cell y c' e
    exact ⟨w2,z2.sameBut hs hcc⟩
  ·obtain ⟨e,n,ne,nf,d⟩:=I.pin p hp
   refine ⟨(hs.2 p.1 ?_).trans e,n,ne,nf,d⟩
   intro q
   rw [q,hoc] at e
   have q':oc=p.2:=Option.some.inj e
   exact d w' (by rw[←q'];exact hocd)
theorem mQ {M:Model}{A:Around}{E:Value→Shared→Prop}{i:Nat}{x:Str}{v:V}{u:Value}{Q:Unit→Shared→Prop} (I:Inv X pins σ H s) (hN:X.N.Nodup) (hi:X.N[i]? = some x) (hx:Loc X.env.scope x) (r:bx v u)
  (h : ∀ s',Inv X pins (σ.set i (some v)) H s'→Q () s') (hf:X.fn x=true∨X.env.scope.names.lookup x=some .local:=by first|exact .inl rfl|exact .inr rfl|assumption):wpAny M A (storeName X.env x u) Q E s :=
 jV I hN hi hx r (fun s' I' _=>h s' I') hf
theorem Inv.call' {s':Shared}{ch:List Addr} (I:Inv X pins σ H s) (ho:s'.os=s.os) (u:Un (frs X.stack) ch H H' s.heap s'.heap) (hok:HOk X.prog X.w H' s'.heap) (hg:AllBare s'.gens)
  (hch:∀ b∈ch,(b∈X.ex∨X.s₀.heap.objs.size≤b)∧b≠X.env.locals∧(∀ x c,X.env.cells.lookup x=some c→c≠b)∧∀ p∈X.pn++pins,p.1≠b):Inv X pins σ H' s':=by
 obtain ⟨h',g',d',t',o'⟩:=s'
 have e:o'=s.os:=ho
 subst e
 exact I.call (g':=g') (t':=t') (d':=d') u hok hg hch
end
noncomputable abbrev XK:=Value→Option Addr→Hp→Prop
noncomputable abbrev St:=List (Option V)
noncomputable abbrev VK:=V→Hp→Prop
noncomputable abbrev TE:=St→Hp→VK→Prop
noncomputable abbrev TT:=St→Hp→(Bool→Hp→Prop)→Prop
noncomputable abbrev TA:=St→Hp→(List V→Hp→Prop)→Prop
structure sU where
 nx : St→Hp→Prop
 rt : VK
 bk : St→Hp→Prop:=fun _ _=>False
 ct : St→Hp→Prop:=fun _ _=>False
noncomputable abbrev TS:=sU→St→Hp→Prop
noncomputable def EP (X:Cx) (pins:List (Addr×Obj)) (σ:St) (Q:VK) (u:Value) (s':Shared):Prop:=∃ v H',Inv X pins σ H' s'∧bx v u∧Q v H'
noncomputable def TP (X:Cx) (pins:List (Addr×Obj)) (σ:St) (Q:Bool→Hp→Prop) (b:Bool) (s':Shared):Prop:=∃ H',Inv X pins σ H' s'∧Q b H'
noncomputable def AP (X:Cx) (pins:List (Addr×Obj)) (σ:St) (Q:List V→Hp→Prop) (us:List Value) (s':Shared):Prop:=∃ vs H',Inv X pins σ H' s'∧aO vs us∧Q vs H'
noncomputable def SP (X:Cx) (pins:List (Addr×Obj)) (D:sU) (f:Flow) (s':Shared):Prop :=
 match f with
 | .next=>∃ σ' H',Inv X pins σ' H' s'∧D.nx σ' H'
 | .brk=>∃ σ' H',Inv X pins σ' H' s'∧D.bk σ' H'
 | .cont=>∃ σ' H',Inv X pins σ' H' s'∧D.ct σ' H'
 | .ret u=>∃ v σ' H',Inv X pins σ' H' s'∧bx v u∧D.rt v H'
noncomputable def PE (X:Cx) (e:Expr) (t:TE):Prop :=
 ∀ (pins:List (Addr×Obj)) (s:Shared) (σ:St) (H:Hp) (Q:VK),Inv X pins σ H s→t σ H Q→wpAny (model X.prog X.w) X.A (eval e X.env) (EP X pins σ Q) X.xe s
noncomputable def PT (X:Cx) (e:Expr) (t:TT):Prop :=
 ∀ (pins:List (Addr×Obj)) (s:Shared) (σ:St) (H:Hp) (Q:Bool→Hp→Prop),Inv X pins σ H s→t σ H Q→wpAny (model X.prog X.w) X.A (isTrue e X.env (eval e X.env)) (TP X pins σ Q) X.xe s
noncomputable def PW (X:Cx) (e:Expr) (t:TT):Prop :=
 ∀ (whole:Sem Value) (pins:List (Addr×Obj)) (s:Shared) (σ:St) (H:Hp) (Q:Bool→Hp→Prop),Inv X pins σ H s→t σ H Q→wpAny (model X.prog X.w) X.A (isTrue e X.env whole) (TP X pins σ Q) X.xe s
theorem PW.pt {X:Cx}{e:Expr}{t:TT} (h:PW X e t):PT X e t:=h _
noncomputable def PA (X:Cx) (es:List Expr) (t:TA):Prop :=
 ∀ (pos:Pos) (pins:List (Addr×Obj)) (s:Shared) (σ:St) (H:Hp) (Q:List V→Hp→Prop),Inv X pins σ H s→t σ H Q→wpAny (model X.prog X.w) X.A (spliced (backTo pos (starEach es X.env))) (AP X pins σ Q) X.xe s
noncomputable def PS (X:Cx) (st:Stmt) (t:TS):Prop :=
 ∀ (pins:List (Addr×Obj)) (s:Shared) (σ:St) (H:Hp) (D:sU),Inv X pins σ H s→t D σ H→wpAny (model X.prog X.w) X.A (exec st X.env) (SP X pins D) X.xe s
noncomputable def PSs (X:Cx) (st:List Stmt) (t:TS):Prop :=
 ∀ (pins:List (Addr×Obj)) (s:Shared) (σ:St) (H:Hp) (D:sU),Inv X pins σ H s→t D σ H→wpAny (model X.prog X.w) X.A (execs st X.env) (SP X pins D) X.xe s
theorem thn {α:Type}{t:Sem α}{Q Q':α→Shared→Prop}{M:Model}{A:Around}{E:Value→Shared→Prop}{s:Shared} (h:wpAny M A t Q E s) (hQ:∀ a s,Q a s→Q' a s):wpAny M A t Q' E s:=wpAny_mono h hQ fun _ _ x=>x
section
variable {X:Cx}
noncomputable def CU (i:Nat):TE:=fun σ H Q=>∃ v,σ[i]? = some (some v)∧Q v H
noncomputable def tC (v:V):TE:=fun _ H Q=>Q v H
theorem cU {i:Nat}{x:Str}{pos:Pos} (hN:X.N[i]? = some x) (hv:Vis X.env.scope x) (hd:(x==("__debug__" : Str))=false:=by decide) (hcd:(x==("__classdict__" : Str))=false:=by decide):PE X (.Name x pos) (CU i):=by
 intro pins s σ H Q I h
 obtain ⟨v,e,h⟩:=h
 obtain ⟨m,hn,hl⟩:=I.loc
 obtain ⟨u,r,l⟩:=hl i x v hN e hv
 have fin:EP X pins σ Q u s:=⟨v,H,I,r,h⟩
 rcases l with ⟨hk,hm⟩|⟨hk,c,hc,hcell⟩
 ·exact wpAny_Name (wpAny_loadName_local I.ok.kind hk hn hm fin) hd
 ·rcases hk with hk|hk
  ·exact wpAny_Name (wpAny_loadName_cell I.ok.kind hk hc hcell fin) hd
  ·exact wpAny_Name (wpAny_loadName_free I.ok.kind hk hc hcell fin hcd) hd
theorem j6 {i j pos}:PE X (.Constant (.int i) j pos) (tC (.int i)):=fun _ _ _ H _ I h=>wpAny_Constant_int ⟨.int i,H,I.tok _,⟨_,rfl⟩,h⟩
theorem B4 {b j pos}:PE X (.Constant (.bool b) j pos) (tC (.bl b)):=fun _ _ _ H _ I h=>Constant_bool ⟨.bl b,H,I,rfl,h⟩
theorem z8 {j pos}:PE X (.Constant .none j pos) (tC .non):=fun _ _ _ H _ I h=>Constant_none ⟨.non,H,I,rfl,h⟩
noncomputable def Gl (X:Cx) (x:Str):Prop:=X.env.kindOf x=some .globalImplicit
theorem x5 {E:Value→Shared→Prop}{pins:List (Addr×Obj)}{s:Shared}{σ:St}{H:Hp}{x:Str}{u:Value}{pos:Pos}{Q:Value→Shared→Prop} (I:Inv X pins σ H s) (hg:Gl X x) (hm:X.mg x=some u) (h:Q u s)
  (hd:(x==("__debug__" : Str))=false:=by decide):wpAny (model X.prog X.w) X.A (eval (.Name x pos) X.env) Q E s :=
 Calls.Name_function_global I.ok.kind hg (Calls.loadGlobal_global (by rw[I.ok.glob];exact I.mod.glob.keeps I.bk) hm h) hd
theorem fJ {E:Value→Shared→Prop}{pins:List (Addr×Obj)}{s:Shared}{σ:St}{H:Hp}{x:Str}{u:Value}{pos:Pos}{Q:Value→Shared→Prop} (I:Inv X pins σ H s) (hg:Gl X x) (hm:X.mg x=none) (hv:bootBuiltins x=some u) (h:Q u s)
  (hn:x ≠ "__name__" := by decide) (hd:(x==("__debug__" : Str))=false:=by decide):wpAny (model X.prog X.w) X.A (eval (.Name x pos) X.env) Q E s:=by
 obtain ⟨mb,h1,h2⟩:=I.mod.blt
 exact Calls.Name_function_global I.ok.kind hg (Calls.loadGlobal_builtin (by rw[I.ok.glob];exact I.mod.glob.keeps I.bk) hm (by rw[I.ok.blt];exact h1.keeps I.bk) ((h2 x hn).trans hv) h) hd
theorem xQ {x:Str}{v:V}{u:Value}{pos:Pos} (hg:Gl X x) (hm:X.mg x=none) (hv:bootBuiltins x=some u) (r:bx v u) (hn:x ≠ "__name__" := by decide) (hd:(x==("__debug__" : Str))=false:=by decide):PE X (.Name x pos) (tC v) :=
 fun _ _ _ H _ I h=>fJ I hg hm hv ⟨v,H,I,r,h⟩ hn hd
variable {a b:Expr}{ta tb:TE}{pos:Pos}
noncomputable def tB (t:TE):TT:=fun σ H Q=>t σ H fun x H1=>∃ c,x=.bl c∧Q c H1
theorem zQ {e:Expr}{t:TE} (h:PE X e t) (he:∀ whole,isTrue e X.env whole=(do let v ←whole;standAt e.pos;holding [v] (truthy v)):=by intro _;rfl):PT X e (tB t):=by
 intro pins s σ H Q I hw
 refine isTrue_plain (thn (h pins s σ H _ I hw) fun v s1 zz0=>?_) (he _)
 obtain ⟨x,H1,I1,r1,q1⟩:=zz0
 obtain ⟨d,rfl,q⟩:=q1
 cases r1
 exact wpAny_truthy_bool ⟨H1,I1,q⟩
variable {tA tB':TT}{dc:List Expr}
noncomputable def Dp (t u:TT):TT:=fun σ H Q=>t σ H fun c H1=>if c=true then u σ H1 Q else Q false H1
noncomputable def tOr (t u:TT):TT:=fun σ H Q=>t σ H fun c H1=>if c=true then Q true H1 else u σ H1 Q
noncomputable def Dk (t:TT):TT:=fun σ H Q=>t σ H fun c H1=>Q (!c) H1
theorem xp (ha:PT X a tA):PW X (.BoolOp .And [a] pos) tA:=by
 intro wh pins s σ H Q I h
 refine isTrue_and (thn (ha pins s σ H Q I h) fun c s1 e=>?_)
 cases c with
 | true=>exact isTrue_and_nil e
 | false=>exact e
theorem zO (ha:PT X a tA):PW X (.BoolOp .Or [a] pos) tA:=by
 intro wh pins s σ H Q I h
 refine isTrue_or (thn (ha pins s σ H Q I h) fun c s1 e=>?_)
 cases c with
 | false=>exact isTrue_or_nil e
 | true=>exact e
theorem zP (ha:PT X a tA) (hb:PW X (.BoolOp .And (b::dc) pos) tB'):PW X (.BoolOp .And (a::b::dc) pos) (Dp tA tB'):=by
 intro wh pins s σ H Q I h
 refine isTrue_and (thn (ha pins s σ H _ I h) fun c s1 zz1=>?_)
 obtain ⟨H1,I1,q1⟩:=zz1
 cases c with
 | true=>exact hb wh pins s1 σ H1 Q I1 q1
 | false=>exact⟨H1,I1,q1⟩
theorem B0 (ha:PT X a tA) (hb:PW X (.BoolOp .Or (b::dc) pos) tB'):PW X (.BoolOp .Or (a::b::dc) pos) (tOr tA tB'):=by
 intro wh pins s σ H Q I h
 refine isTrue_or (thn (ha pins s σ H _ I h) fun c s1 zz2=>?_)
 obtain ⟨H1,I1,q1⟩:=zz2
 cases c with
 | true=>exact⟨H1,I1,q1⟩
 | false=>exact hb wh pins s1 σ H1 Q I1 q1
theorem zR (ha:PT X a tA):PT X (.UnaryOp .Not a pos) (Dk tA):=by
 intro pins s σ H Q I h
 exact isTrue_not (ha pins s σ H (fun c H1=>Q (!c) H1) I h)
noncomputable def BL (ta tb:TE):TE:=fun σ H Q=>ta σ H fun x H1=>∃ c,x=.bl c∧if c=true then tb σ H1 Q else Q (.bl false) H1
noncomputable def BE (ta:TE):TE:=fun σ H Q=>ta σ H fun x H1=>∃ c,x=.bl c∧Q (.bl (!c)) H1
theorem z6 {op}{t:TE} (h:PE X a t):PE X (.BoolOp op [a] pos) t:=fun pins s σ H Q I hw=>BoolOp_one (h pins s σ H Q I hw)
theorem Aa (ha:PE X a ta) (hb:PE X (.BoolOp .And (b::dc) pos) tb):PE X (.BoolOp .And (a::b::dc) pos) (BL ta tb):=by
 intro pins s σ H Q I h
 refine BoolOp_and (thn (ha pins s σ H _ I h) fun v s1 zz3=>?_)
 obtain ⟨x,H1,I1,r1,q1⟩:=zz3
 obtain ⟨c,rfl,q1⟩:=q1
 cases r1
 refine wpAny_truthy_bool ?_
 cases c with
 | true=>exact hb pins s1 σ H1 Q I1 q1
 | false=>exact⟨.bl false,H1,I1,rfl,q1⟩
theorem z7 (ha:PE X a ta):PE X (.UnaryOp .Not a pos) (BE ta):=by
 intro pins s σ H Q I h
 refine UnaryOp_ (thn (ha pins s σ H _ I h) fun v s1 zz4=>?_)
 obtain ⟨x,H1,I1,r1,q1⟩:=zz4
 obtain ⟨c,rfl,q1⟩:=q1
 cases r1
 exact not_of (wpAny_truthy_bool ⟨.bl (!c),H1,I1,rfl,q1⟩)
noncomputable def tIf (t:TT) (ta tb:TE):TE:=fun σ H Q=>t σ H fun c H1=>if c=true then ta σ H1 Q else tb σ H1 Q
theorem tW {c:Expr} (hc:PT X c tA) (ha:PE X a ta) (hb:PE X b tb):PE X (.IfExp c a b pos) (tIf tA ta tb):=by
 intro pins s σ H Q I h
 refine wpAny_IfExp (thn (hc pins s σ H _ I h) fun d s1 zz5=>?_)
 obtain ⟨H1,I1,q1⟩:=zz5
 cases d with
 | true=>exact ha pins s1 σ H1 Q I1 q1
 | false=>exact hb pins s1 σ H1 Q I1 q1
end
noncomputable def SqL (K:PySem.W.Frag) (H:Hp) (a:Addr) (xs:List V):Prop :=
 Rd H a (.lst xs) ∨
  ∃ (o:Obj) (its:Array Value) (n:Nat),K.lookup a=some o∧o.cls=.type "list" ∧ o.dict=none∧o.data=.seq its n∧its.size≤sizeLine∧aO xs its.toList
noncomputable def SqT (K:PySem.W.Frag) (H:Hp) (a:Addr) (xs:List V):Prop :=
 Rd H a (.tup xs) ∨
  ∃ (o:Obj) (its:Array Value) (n:Nat),K.lookup a=some o∧(o.cls=.type "tuple" ∧ o.dict=none)∧o.data=.seq its n∧its.size≤sizeLine∧aO xs its.toList
noncomputable def DX:Value→Option V
 | .none=>some .non
 | .bool b=>some (.bl b)
 | .int i _=>some (.int i)
 | .str x _=>some (.str x)
 | .bytes b _=>some (.byt b)
 | .float b _=>some (.flt b)
 | .ref a=>some (.ref a)
 | .type n=>some (.ty n)
 | _=>none
theorem bx.abs {x:V}{u:Value} (r:bx x u):DX u=some x:=by
 cases x with
 | non=>cases r;rfl
 | bl _=>cases r;rfl
 | int _=>obtain⟨t,rfl⟩:=r;rfl
 | str _=>obtain⟨t,rfl⟩:=r;rfl
 | byt _=>obtain⟨t,rfl⟩:=r;rfl
 | flt _=>obtain⟨t,rfl⟩:=r;rfl
 | ref _=>cases r;rfl
 | ty _=>cases r;rfl
theorem bx.inj {x y:V}{u:Value} (r:bx x u) (q:bx y u):x=y:=Option.some.inj (r.abs.symm.trans q.abs)
theorem aO.inj {xs ys:List V}{us:List Value} (h:aO xs us):aO ys us→xs=ys:=by
 induction h generalizing ys with
 | nil =>
  intro q
  cases q
  rfl
 | cons r t ih =>
  intro q
  cases q with
  | cons r' t'=>rw[r.inj r',ih t']
section
variable {X:Cx}{pins:List (Addr×Obj)}{σ:St}{H:Hp}{s:Shared}{a:Addr}{xs ys:List V}
theorem SqL.of {K:PySem.W.Frag} (h:H a=some (.lst xs)):SqL K H a xs:=.inl (.inl h)
theorem Inv.list (I:Inv X pins σ H s) (h:SqL X.K H a xs):∃ its:List Value,aO xs its∧PlainL s.heap a its.toArray∧xs.length≤sizeLine:=by
 rcases h with h|⟨o,its,n,hk,hc,hd,hs,hz,r⟩
 ·obtain ⟨z,its,n,r,e⟩:=h.ok I.hok
  exact ⟨its,r,⟨_,n,e,rfl,rfl,rfl⟩,z⟩
 ·refine ⟨its.toList,r,⟨o,n,I.kIn a o hk,hc,hd,by simpa using hs⟩,?_⟩
  have e:=r.length
  simp only [Array.length_toList] at e
  omega
theorem Inv.tuple (I:Inv X pins σ H s) (h:SqT X.K H a xs):∃ its:List Value,aO xs its∧IsTup s.heap a its.toArray∧xs.length≤sizeLine:=by
 rcases h with h|⟨o,its,n,hk,hc,hs,hz,r⟩
 ·obtain ⟨z,its,r,p⟩:=h.ok I.hok
  exact ⟨its,r,p.is,z⟩
 ·refine ⟨its.toList,r,⟨o,I.kIn a o hk,hc.1,n,by simpa using hs⟩,?_⟩
  have e:=r.length
  simp only [Array.length_toList] at e
  omega
theorem Inv.tupleN (I:Inv X pins σ H s) (h:SqT X.K H a xs):∃ its:List Value,aO xs its∧sQ s.heap a its.toArray:=by
 rcases h with h|⟨o,its,n,hk,hc,hs,hz,r⟩
 ·obtain ⟨z,its,r,p⟩:=h.ok I.hok
  exact ⟨its,r,p⟩
 ·exact ⟨its.toList,r,⟨o,I.kIn a o hk,hc.1,⟨n,by simpa using hs⟩,hc.2⟩⟩
theorem Inv.list_inj (I:Inv X pins σ H s) (h:SqL X.K H a xs) (h':SqL X.K H a ys):xs=ys:=by
 obtain ⟨its,r,⟨o,n,e,_,_,d⟩,_⟩:=I.list h
 obtain ⟨its',r',⟨o',n',e',_,_,d'⟩,_⟩:=I.list h'
 rw [e] at e';cases e'
 rw [d] at d'
 injection d' with d1 _
 have:its=its':=by simpa using congrArg Array.toList d1
 subst this
 exact r.inj r'
theorem Inv.tuple_inj (I:Inv X pins σ H s) (h:SqT X.K H a xs) (h':SqT X.K H a ys):xs=ys:=by
 obtain ⟨its,r,⟨o,e,_,n,d⟩,_⟩:=I.tuple h
 obtain ⟨its',r',⟨o',e',_,n',d'⟩,_⟩:=I.tuple h'
 rw [e] at e';cases e'
 rw [d] at d'
 injection d' with d1 _
 have:its=its':=by simpa using congrArg Array.toList d1
 subst this
 exact r.inj r'
end
noncomputable abbrev Cx.wish (X:Cx) (E:Value→Shared→Prop):Cx:={ X with xe:=E }
noncomputable abbrev Cx.nox (X:Cx):Cx:=X.wish fun _ _=>False
theorem Cx.Ok.wish {X:Cx} (ok:X.Ok) (E:Value→Shared→Prop):(X.wish E).Ok :=
 ⟨ok.mod,ok.kind,ok.glob,ok.blt,ok.above,ok.inj,ok.has,ok.cab,ok.hd,ok.frames,ok.stk,ok.exf,ok.bs,ok.bsz,ok.noex,ok.exfs,ok.funs,ok.frf,ok.tab⟩
theorem Cx.Ok.unwish {X:Cx}{E:Value→Shared→Prop} (ok:(X.wish E).Ok):X.Ok :=
 ⟨ok.mod,ok.kind,ok.glob,ok.blt,ok.above,ok.inj,ok.has,ok.cab,ok.hd,ok.frames,ok.stk,ok.exf,ok.bs,ok.bsz,ok.noex,ok.exfs,ok.funs,ok.frf,ok.tab⟩
section
variable {X:Cx}{pins:List (Addr×Obj)}{σ:St}{H:Hp}{s:Shared}{E:Value→Shared→Prop}
theorem Inv.wish (I:Inv X pins σ H s) (E:Value→Shared→Prop):Inv (X.wish E) pins σ H s:=⟨I.ok.wish E,I.os,I.bare,I.base,I.loc,I.cell,I.free,I.freeC,I.pin,I.hok,I.len⟩
theorem Inv.unwish (I:Inv (X.wish E) pins σ H s):Inv X pins σ H s:=⟨I.ok.unwish,I.os,I.bare,I.base,I.loc,I.cell,I.free,I.freeC,I.pin,I.hok,I.len⟩
theorem SP.unwish {D:sU}{f:Flow}{s':Shared} (h:SP (X.wish E) pins D f s'):SP X pins D f s':=by
 cases f with
 | next=>obtain⟨σ',H',I,q⟩:=h;exact⟨σ',H',I.unwish,q⟩
 | brk=>obtain⟨σ',H',I,q⟩:=h;exact⟨σ',H',I.unwish,q⟩
 | cont=>obtain⟨σ',H',I,q⟩:=h;exact⟨σ',H',I.unwish,q⟩
 | ret u=>obtain⟨v,σ',H',I,r,q⟩:=h;exact⟨v,σ',H',I.unwish,r,q⟩
theorem PSs.nox {st:List Stmt}{t:TS} (h:PSs X.nox st t):PSs X st t:=fun pins s σ H D I hw =>
 wpAny_mono (h pins s σ H D (I.wish _) hw) (fun _ _ q=>q.unwish) fun _ _ z=>False.elim z
end
section
variable {X:Cx}{st:Stmt}{dc:List Stmt}{t u:TS}{e:Expr}{te:TE}{pos:Pos}
noncomputable def BF:TS:=fun D σ H=>D.nx σ H
noncomputable def Di (t u:TS):TS:=fun D σ H=>t { D with nx:=u D } σ H
theorem xu:PSs X [] BF:=fun _ _ σ H _ I h=>wpAny_execs_nil ⟨σ,H,I,h⟩
theorem tS (h1:PS X st t) (h2:PSs X dc u):PSs X (st::dc) (Di t u):=by
 intro pins s σ H D I h
 refine wpAny_execs_cons (thn (h1 pins s σ H { D with nx:=u D } I h) fun f s1 q=>?_)
 cases f with
 | next =>
  obtain ⟨σ',H',I',q⟩:=q
  exact h2 pins s1 σ' H' D I' q
 | ret v=>exact q
 | brk=>exact q
 | cont=>exact q
theorem xt (h1:PS X st t):PSs X [st] t:=by
 intro pins s σ H D I h
 refine wpAny_execs_cons (thn (h1 pins s σ H D I h) fun f s1 q=>?_)
 cases f with
 | next=>exact wpAny_execs_nil q
 | ret v=>exact q
 | brk=>exact q
 | cont=>exact q
noncomputable def BK:TS:=fun D σ H=>D.ct σ H
theorem lN:PS X (.Continue pos) BK:=fun _ _ σ H _ I h=>wpAny_Continue ⟨σ,H,I,h⟩
theorem Inv.quiet {pins:List (Addr×Obj)}{σ:St}{H:Hp}{s:Shared} (I:Inv X pins σ H s):interactive X.env=false:=by simp[interactive,I.ok.kind]
noncomputable def BH (te:TE):TS:=fun D σ H=>te σ H fun _ H1=>D.nx σ H1
theorem xx (he:PE X e te) (hs:swapsWith e none pos.line X.env=pure false:=by rfl):PS X (.Expr e pos) (BH te):=by
 intro pins s σ H D I h
 exact wpAny_Expr_any (thn (he pins s σ H _ I h) fun v s1 ⟨x,H1,I1,r1,q1⟩=>⟨σ,H1,I1,q1⟩) I.quiet hs
noncomputable def Dj (te:TE):TS:=fun D σ H=>te σ H D.rt
theorem zT (he:PE X e te):PS X (.Return (some e) pos) (Dj te):=by
 intro pins s σ H D I h
 exact wpAny_Return_some (thn (he pins s σ H _ I h) fun v s1 ⟨x,H1,I1,r1,q1⟩=>⟨x,σ,H1,I1,r1,q1⟩)
noncomputable def Dm (c:TT) (t u:TS):TS:=fun D σ H=>c σ H fun b H1=>if b=true then t D σ H1 else u D σ H1
theorem B1 {c:Expr}{a b:List Stmt}{tc:TT} (hc:PT X c tc) (ha:PSs X a t) (hb:PSs X b u):PS X (.If c a b pos) (Dm tc t u):=by
 intro pins s σ H D I h
 refine wpAny_If (thn (hc pins s σ H _ I h) fun d s1 zz6=>?_)
 obtain ⟨H1,I1,q1⟩:=zz6
 cases d with
 | true=>exact ha pins s1 σ H1 D I1 q1
 | false=>exact hb pins s1 σ H1 D I1 q1
end
noncomputable abbrev TG:=V→St→Hp→(St→Hp→Prop)→Prop
noncomputable abbrev TGs:=List V→St→Hp→(St→Hp→Prop)→Prop
noncomputable def PG (X:Cx) (target:Expr) (t:TG):Prop :=
 ∀ (pins:List (Addr×Obj)) (s:Shared) (σ:St) (H:Hp) (v:V) (u:Value) (Q:St→Hp→Prop),Inv X pins σ H s→bx v u→t v σ H Q →
  wpAny (model X.prog X.w) X.A (assign target X.env u) (fun _ s'=>∃ σ' H',Inv X pins σ' H' s'∧Q σ' H') X.xe s
noncomputable def PGs (X:Cx) (ts:List Expr) (t:TGs):Prop :=
 ∀ (pins:List (Addr×Obj)) (s:Shared) (σ:St) (H:Hp) (vs:List V) (us:List Value) (Q:St→Hp→Prop),Inv X pins σ H s→aO vs us→t vs σ H Q →
  wpAny (model X.prog X.w) X.A (assignInOrder ((assignEach ts X.env).map (·.2)) us) (fun _ s'=>∃ σ' H',Inv X pins σ' H' s'∧Q σ' H') X.xe s
noncomputable abbrev BA:=V→V→V→Hp→(Hp→Prop)→Prop
noncomputable def CO (X:Cx) (t:BA):Prop :=
 ∀ (pins:List (Addr×Obj)) (s:Shared) (σ:St) (H:Hp) (o i v:V) (ov iv u:Value) (Q:Hp→Prop),Inv X pins σ H s→bx o ov→bx i iv→bx v u→t o i v H Q →
  wpAny (model X.prog X.w) X.A (setItem ov iv u) (fun _ s'=>∃ H',Inv X pins σ H' s'∧Q H') X.xe s
section
variable {X:Cx}{pos:Pos}
noncomputable def uJ (i:Nat):TG:=fun v σ H Q=>Q (σ.set i (some v)) H
theorem xG {i:Nat}{x:Str} (hN:X.N.Nodup) (hi:X.N[i]? = some x) (hx:Loc X.env.scope x) (hf:X.fn x=true∨X.env.scope.names.lookup x=some .local:=by first|exact .inl rfl|exact .inr rfl|assumption):PG X (.Name x pos) (uJ i):=by
 intro pins s σ H v u Q I r h
 exact wpAny_assign_Name (mQ I hN hi hx r (fun s' I'=>⟨_,H,I',h⟩) hf)
noncomputable def DM:TGs:=fun vs σ H Q=>vs=[]∧Q σ H
noncomputable def Co (t:TG) (u:TGs):TGs:=fun vs σ H Q=>∃ v r,vs=v::r∧t v σ H fun σ' H'=>u r σ' H' Q
theorem xF:PGs X [] DM:=by
 intro pins s σ H vs us Q I r h
 obtain ⟨e,h⟩:=h
 subst e
 cases r
 exact assignInOrder_nil ⟨σ,H,I,h⟩
theorem tV {e:Expr}{es:List Expr}{t:TG}{u:TGs} (h1:PG X e t) (h2:PGs X es u)
  (hs:(assignEach (e::es) X.env).map (·.2)=assign e X.env::(assignEach es X.env).map (·.2):=by rfl):PGs X (e::es) (Co t u):=by
 intro pins s σ H vs us Q I r h
 obtain ⟨v,vr,e1,h⟩:=h
 subst e1
 cases r with
 | cons r rr =>
  rw [hs]
  refine assignInOrder_cons (thn (h1 pins s σ H _ _ _ I r h) fun _ s1 zz7=>?_)
  obtain ⟨σ1,H1,I1,q1⟩:=zz7
  exact h2 pins s1 σ1 H1 _ _ Q I1 rr q1
noncomputable def C8 (K:PySem.W.Frag) (n:Nat) (t:TGs):TG:=fun v σ H Q=>∃ a xs,v=.ref a∧SqT K H a xs∧xs.length=n∧t xs σ H Q
theorem zY {es:List Expr}{k:Nat}{t:TGs}{n:Nat} (hc:X.calm=true) (h:PGs X es t)
  (hn:(assignEach es X.env).length=n:=by rfl) (hst:(assignEach es X.env).findIdx? (·.1)=none:=by rfl):PG X (.Tuple es k pos) (C8 X.K n t):=by
 intro pins s σ H v u Q I r hw
 obtain ⟨a,xs,e1,hq,hl,hw⟩:=hw
 subst e1
 cases r
 obtain ⟨its,rv,ht,hz⟩:=I.tuple hq
 refine assign_Tuple_tuple (I.ok.hd hc) ht (by simp[hn,←hl,rv.length]) hst fun h' hx=>?_
 have I1:Inv X pins σ H { s with heap:=h' }:=I.kept (t':=s.toks) fun b o e=>hx b o (ED (Eo e)) e
 exact h pins _ σ H xs _ Q I1 (by simpa using rv) hw
noncomputable def DL (to ti:TE) (t:BA):TG:=fun v σ H Q=>to σ H fun o H1=>ti σ H1 fun i H2=>t o i v H2 fun H3=>Q σ H3
theorem vR {o i:Expr}{to ti:TE}{t:BA} (ho:PE X o to) (hi:PE X i ti) (hs:CO X t)
  (ha:∀ v,assign (.Subscript o i pos) X.env v=(do
   let ov ←holding [v] (eval o X.env)
   let iv ←holding [v,ov] (eval i X.env)
   standAt pos
   holding [v,ov,iv] (setItem ov iv v)
   release [v,ov,iv] []):=by intro _;rfl):PG X (.Subscript o i pos) (DL to ti t):=by
 intro pins s σ H v u Q I r h
 rw [ha]
 refine wpAny_bind (wpAny_holding (thn (ho pins s σ H _ I h) fun ov s1 zz8=>?_))
 obtain ⟨x,H1,I1,r1,q1⟩:=zz8
 refine wpAny_bind (wpAny_holding (thn (hi pins s1 σ H1 _ I1 q1) fun iv s2 zz0=>?_))
 obtain ⟨y,H2,I2,r2,q2⟩:=zz0
 refine wpAny_bind (wpAny_standAt (wpAny_bind (wpAny_holding (thn (hs pins s2 σ H2 x y v ov iv u _ I2 r1 r2 r q2) fun _ s3 zz1=>?_))))
 obtain ⟨H3,I3,q3⟩:=zz1
 exact wpAny_release ⟨σ,H3,I3,q3⟩
noncomputable def Bf (te:TE) (g:TG):TS:=fun D σ H=>te σ H fun x H1=>g x σ H1 D.nx
theorem vQ {tg e:Expr}{te:TE}{g:TG} (he:PE X e te) (hg:PG X tg g) (hs:swapsWithSole [tg] e pos.line X.env=pure false:=by rfl) (hw:swappedStores [tg] e X.env=pure none:=by rfl)
  (h1:(assignEach [tg] X.env).map (·.2)=[assign tg X.env]:=by rfl):PS X (.Assign [tg] e pos) (Bf te g):=by
 intro pins s σ H D I h
 refine wpAny_Assign_stores (thn (he pins s σ H _ I h) fun v s1 zz2=>?_) hs hw
 obtain ⟨x,H1,I1,r1,q1⟩:=zz2
 rw [h1]
 exact thn (hg pins s1 σ H1 x v _ I1 r1 q1) fun _ s2 q=>q
theorem zS {i:Nat}{x:Str}{e:Expr}{te:TE}{pos':Pos} (hN:X.N.Nodup) (hi:X.N[i]? = some x) (hx:Loc X.env.scope x) (he:PE X e te) (hs:swapsWith e (some (.Name x pos')) pos.line X.env=pure false:=by rfl) (hf:X.fn x=true∨X.env.scope.names.lookup x=some .local:=by first|exact .inl rfl|exact .inr rfl|assumption) :
  PS X (.Assign [.Name x pos'] e pos) (Bf te (uJ i)):=by
 intro pins s σ H D I h
 refine wpAny_Assign_Name (thn (he pins s σ H _ I h) fun v s1 zz3=>?_) hs
 obtain ⟨y,H1,I1,r1,q1⟩:=zz3
 exact mQ I1 hN hi hx r1 (fun s2 I2=>⟨_,H1,I2,q1⟩) hf
end
section
variable {X:Cx}{pos:Pos}
noncomputable def zo (c:TT) (tb:TS):TS:=fun D σ H=>∃ W:Nat→St→Hp→Prop,(∃ m,W m σ H)∧∀ m σ H,W m σ H →
 c σ H fun b H1=>if b=true then ∃ N:St→Hp→Prop,(∀ σ' H',N σ' H'→∃ m',m'<m∧W m' σ' H')∧tb { D with nx:=N,ct:=N,bk:=D.nx } σ H1 else D.nx σ H1
theorem tT {c:Expr}{body:List Stmt}{tc:TT}{tb:TS} (hp:PassesOwn (model X.prog X.w) X.A X.env X.xe) (hc:PT X c tc) (hb:PSs X body tb):PS X (.While c body [] pos) (zo tc tb):=by
 intro pins s σ H D I h
 obtain ⟨W,⟨m0,w0⟩,turn⟩:=h
 refine wpAny_While (codeAny_whileLoop (fun n s'=>∃ σ' H',Inv X pins σ' H' s'∧W n σ' H') ?_ m0 ⟨σ,H,I,w0⟩)
 rintro n s1 ⟨σ1,H1,I1,w1⟩
 refine wpAny_passesOwn hp (thn (hc pins s1 σ1 H1 _ I1 (turn n σ1 H1 w1)) fun b s2 zz4=>?_)
 obtain ⟨H2,I2,q2⟩:=zz4
 cases b with
 | true =>
  obtain ⟨N,hN,q2⟩:=q2
  rw [if_pos rfl]
  refine wpAny_passesOwn hp (thn (hb pins s2 σ1 H2 _ I2 q2) fun f s3 q3=>?_)
  cases f with
  | next =>
   obtain ⟨σ3,H3,I3,n3⟩:=q3
   obtain ⟨m',hm,w3⟩:=hN σ3 H3 n3
   exact ⟨m',hm,σ3,H3,I3,w3⟩
  | cont =>
   obtain ⟨σ3,H3,I3,n3⟩:=q3
   obtain ⟨m',hm,w3⟩:=hN σ3 H3 n3
   exact ⟨m',hm,σ3,H3,I3,w3⟩
  | brk=>exact q3
  | ret v=>exact q3
 | false =>
  rw [if_neg Et]
  exact wpAny_execs_nil ⟨σ1,H2,I2,q2⟩
end
structure It where
 go : Nat→Hp→Prop
 yld:Nat→Hp→V→Hp→Prop
 stop:Nat→Hp→Prop
noncomputable def gn (X:Cx) (pins:List (Addr×Obj)) (H:Hp) (b:Addr):Prop :=
 H b=none∧b≠X.env.locals∧b ∉ X.fs∧(b∈X.ex∨X.s₀.heap.objs.size≤b)∧(∀ x c,X.env.cells.lookup x=some c→c≠b)∧∀ p∈X.pn++pins,p.1≠b
theorem Inv.fpOk {X:Cx}{pins:List (Addr×Obj)}{σ:St}{H H':Hp}{s:Shared}{b:Addr} (I:Inv X pins σ H s) (hb:s.heap.objs.size≤b) (hn:H' b=none):gn X pins H' b:=by
 refine ⟨hn,Fg (Ep I.lt hb),I.nofs hb,.inr (Eg I.sz hb),fun x c e z=>?_,fun p hp z=>?_⟩
 ·obtain ⟨v,q⟩:=I.cell x c e
  exact absurd (Ep q.lt (by rw[z];exact hb)) (Fc _)
 ·exact absurd (Ep (Eo (I.pin p hp).1) (by rw[z];exact hb)) (Fc _)
structure yX (P:Program) (w:World) (K:PySem.W.Frag) (tg:Expr) (J:It) (fp:List Addr) (it:Addr) (tn:Nat→Heap→Prop):Prop where
 mem:it∈fp
 obj:∀ i h,tn i h→∀ b∈fp,∃ o,h.get? b=some o∧∀ v,o.data≠.cell v
 keep:∀ i h h',tn i h→(∀ b∈fp,∀ o,h.get? b=some o→h'.get? b=some o)→tn i h'
 item:∀ (X:Cx),X.prog=P→X.w=w→X.K=K→X.calm=true→∀ (i:Nat) (pins:List (Addr×Obj)) (s:Shared) (σ:St) (H:Hp) (E:Value→Shared→Prop),Inv X pins σ H s→(∀ b∈fp,gn X pins H b)→tn i s.heap→J.go i H →
  wpAny (model P w) X.A (pyNext (.ref it)) (fun r s1=>∃ u,r=some u ∧
   wpAny (model P w) X.A (letOwnedTupleGo tg (.ref it) u) (fun _ s2=>∃ x H',Inv X pins σ H' s2∧bx x u∧J.yld i H x H'∧tn (i+1) s2.heap∧∀ b∈fp,H' b=none) E s1) E s
 done:∀ (X:Cx),X.prog=P→X.w=w→X.K=K→X.calm=true→∀ (i:Nat) (pins:List (Addr×Obj)) (s:Shared) (σ:St) (H:Hp) (E:Value→Shared→Prop),Inv X pins σ H s→(∀ b∈fp,gn X pins H b)→tn i s.heap→J.stop i H →
  wpAny (model P w) X.A (pyNext (.ref it)) (fun r s1=>r=none∧Inv X pins σ H s1) E s
 self:∀ (A:Around) (i:Nat) (s:Shared) (Q:Value→Shared→Prop) (E:Value→Shared→Prop),tn i s.heap→Q (.ref it) s→wpAny (model P w) A (pyIter (.ref it)) Q E s
noncomputable abbrev TI:=St→Hp→(It→Hp→Prop)→Prop
noncomputable def PIE (X:Cx) (pins:List (Addr×Obj)) (σ:St) (tg:Expr) (R:It→Hp→Prop) (itv:Value) (s2:Shared):Prop :=
 ∃ (it:Addr) (fp:List Addr) (tn:Nat→Heap→Prop) (J:It) (H':Hp),itv=.ref it∧Inv X pins σ H' s2∧yX X.prog X.w X.K tg J fp it tn∧tn 0 s2.heap∧(∀ b∈fp,gn X pins H' b)∧R J H'
noncomputable def PI (X:Cx) (tg iter:Expr) (wi:TI):Prop :=
 ∀ (pins:List (Addr×Obj)) (s:Shared) (σ:St) (H:Hp) (R:It→Hp→Prop),Inv X pins σ H s→wi σ H R →
  wpAny (model X.prog X.w) X.A (eval iter X.env) (fun v s1=>wpAny (model X.prog X.w) X.A (pyIter v) (PIE X pins σ tg R) X.xe s1) X.xe s
theorem yi {M:Model}{A:Around}{E:Value→Shared→Prop}{s:Shared}{tg:Expr}{it:Addr}{u:Value}{o:Obj}{n:String}{vs:Array Value}{Q:Unit→Shared→Prop} (ho:s.heap.get? it=some o) (hc:o.cls=.type n) (hd:o.data=.fields vs)
    (hn:["enumerate", "zip", "dict_itemiterator", "dict_reverseitemiterator", "odict_iterator", "itertools.zip_longest", "itertools.pairwise"].contains n=false) (hQ:Q () s):wpAny M A (letOwnedTupleGo tg (.ref it) u) Q E s:=by
  unfold letOwnedTupleGo
  cases tg <;> first
    | exact wpAny_pure hQ
    | (cases u <;> first
        | exact wpAny_pure hQ
        | (refine wpAny_bind (wpAny_load ho ?_)
           rw [hc,hd]
           show wpAny M A (if (["enumerate", "zip", "dict_itemiterator", "dict_reverseitemiterator", "odict_iterator", "itertools.zip_longest", "itertools.pairwise"].contains n&&vs[0]?==some (rawInt _))=true then _ else _) Q E s
           rw [if_neg (by intro h;rw[hn,Bool.false_and] at h;cases h)]
           exact wpAny_pure hQ))
noncomputable def Itl (K:PySem.W.Frag) (a:Addr):It :=
 ⟨fun i H=>∃ xs x,SqL K H a xs∧xs[i]? = some x,fun i H x H'=>H'=H∧∀ xs,SqL K H a xs→xs[i]? = some x,fun i H=>∃ xs,SqL K H a xs∧xs.length≤i⟩
noncomputable def Itt (K:PySem.W.Frag) (a:Addr):It :=
 ⟨fun i H=>∃ xs x,SqT K H a xs∧xs[i]? = some x,fun i H x H'=>H'=H∧∀ xs,SqT K H a xs→xs[i]? = some x,fun i H=>∃ xs,SqT K H a xs∧xs.length≤i⟩
noncomputable def Itr (lo:Int) (n:Nat):It:=⟨fun i _=>i<n,fun i H x H'=>H'=H∧x=.int (lo+i),fun i _=>n≤i⟩
theorem pA {P:Program}{w:World}{K:PySem.W.Frag}{tg:Expr} (a it:Addr):yX P w K tg (Itl K a) [it] it (fun i h=>h.IsListIter it a i) where
 mem:=by simp
 obj:=fun i h st b hb=>by
  have e:b=it:=by simpa using hb
  subst e
  obtain ⟨o,e,c,d⟩:=st
  exact ⟨o,e,fun v z=>by rw[d] at z;cases z⟩
 keep:=fun i h h' st k=>st.at fun o e=>k it (by simp) o e
 item:=by
  intro X hP hw hK hc i pins s σ H E I hf st hg
  subst hP hw hK
  obtain ⟨xs,x,hq,hx⟩:=hg
  obtain ⟨its,rv,p,hz⟩:=I.list hq
  obtain ⟨u,hu,ru⟩:=rv.get hx
  obtain ⟨f0,f1,f2,f3,f4,f5⟩:=hf it (by simp)
  refine wpAny_pyNext_list_item st p.isList (x:=u) (by simpa using hu) fun h' st' sb=>?_
  have I1:Inv X pins σ H { s with heap:=h' }:=I.turned (t':=s.toks) (fun b o hb e=>(sb.2 b hb).trans e) f0 f1 f3 f4 f5
  obtain ⟨o,e,c,d⟩:=id st'
  exact ⟨u,rfl,yi (s:={ s with heap:=h' }) e c d (by decide) ⟨x,H,I1,ru,⟨rfl,fun ys hy=>by rw[I.list_inj hy hq];exact hx⟩,st',fun b hb=>(hf b hb).1⟩⟩
 done:=by
  intro X hP hw hK hc i pins s σ H E I hf st hg
  subst hP hw hK
  obtain ⟨xs,hq,hx⟩:=hg
  obtain ⟨its,rv,p,hz⟩:=I.list hq
  obtain ⟨f0,f1,f2,f3,f4,f5⟩:=hf it (by simp)
  have hl:=rv.length
  exact wpAny_pyNext_list_end (I.ok.hd hc) st p.isList (by simp;omega) fun h' eb=>⟨rfl,I.turned (t':=s.toks) (fun b o hb e=>eb b o hb e) f0 f1 f3 f4 f5⟩
 self:=fun _ _ _ _ _ st h=>wpAny_pyIter_listiter st h
theorem oD {P:Program}{w:World}{K:PySem.W.Frag}{tg:Expr} (a it:Addr):yX P w K tg (Itt K a) [it] it (fun i h=>h.IsTupleIter it a i) where
 mem:=by simp
 obj:=fun i h st b hb=>by
  have e:b=it:=by simpa using hb
  subst e
  obtain ⟨o,e,c,d⟩:=st
  exact ⟨o,e,fun v z=>by rw[d] at z;cases z⟩
 keep:=fun i h h' st k=>st.at fun o e=>k it (by simp) o e
 item:=by
  intro X hP hw hK hc i pins s σ H E I hf st hg
  subst hP hw hK
  obtain ⟨xs,x,hq,hx⟩:=hg
  obtain ⟨its,rv,p,hz⟩:=I.tuple hq
  obtain ⟨u,hu,ru⟩:=rv.get hx
  obtain ⟨f0,f1,f2,f3,f4,f5⟩:=hf it (by simp)
  refine wpAny_pyNext_tuple_item st (show s.heap.IsTuple a its.toArray from p) (x:=u) (by simpa using hu) fun h' st' sb=>?_
  have I1:Inv X pins σ H { s with heap:=h' }:=I.turned (t':=s.toks) (fun b o hb e=>(sb.2 b hb).trans e) f0 f1 f3 f4 f5
  obtain ⟨o,e,c,d⟩:=id st'
  exact ⟨u,rfl,yi (s:={ s with heap:=h' }) e c d (by decide) ⟨x,H,I1,ru,⟨rfl,fun ys hy=>by rw[I.tuple_inj hy hq];exact hx⟩,st',fun b hb=>(hf b hb).1⟩⟩
 done:=by
  intro X hP hw hK hc i pins s σ H E I hf st hg
  subst hP hw hK
  obtain ⟨xs,hq,hx⟩:=hg
  obtain ⟨its,rv,p,hz⟩:=I.tuple hq
  obtain ⟨f0,f1,f2,f3,f4,f5⟩:=hf it (by simp)
  have hl:=rv.length
  exact wpAny_pyNext_tuple_end (I.ok.hd hc) st (show s.heap.IsTuple a its.toArray from p) (by simp;omega) fun h' eb=>⟨rfl,I.turned (t':=s.toks) (fun b o hb e=>eb b o hb e) f0 f1 f3 f4 f5⟩
 self:=fun _ _ _ _ _ st h=>wpAny_pyIter_tupleiter st h
theorem oE {P:Program}{w:World}{K:PySem.W.Frag}{tg:Expr} (it:Addr) (lo:Int) (n:Nat):yX P w K tg (Itr lo n) [it] it (fun i h=>IsRangeIter h it (lo+(i:Nat)*1) ((n:Int) - (i:Nat)) 1) where
 mem:=by simp
 obj := fun i h st b hb=>by
  have e:b=it:=by simpa using hb
  subst e
  exact ⟨_,st,fun v z=>by
   have z':Data.fields _=Data.cell v:=z
   cases z'⟩
 keep:=fun i h h' st k=>k it (by simp) _ st
 item:=by
  intro X hP hw hK hc i pins s σ H E I hf st hg
  subst hP hw hK
  obtain ⟨f0,f1,f2,f3,f4,f5⟩:=hf it (by simp)
  have W:=Walks.range (prog:=X.prog) (w:=X.w) (I.ok.hd hc) it lo 1 n
  refine W.item i s _ _ hg st fun v h' tk hv st' kk=>?_
  obtain ⟨t,rfl⟩:=hv
  have I1:Inv X pins σ H { s with heap:=h',toks:=tk }:=I.turned (fun b o hb e=>kk b o (by simpa using hb) e) f0 f1 f3 f4 f5
  refine ⟨_,rfl,yi (s:={ s with heap:=h',toks:=tk }) (n := "range_iterator") st' rfl rfl (by decide) ⟨.int (lo+i),H,I1,⟨t,?_⟩,⟨rfl,rfl⟩,st',fun b hb=>(hf b hb).1⟩⟩
  rw [Int.mul_one]
 done:=by
  intro X hP hw hK hc i pins s σ H E I hf st hg
  subst hP hw hK
  obtain ⟨f0,f1,f2,f3,f4,f5⟩:=hf it (by simp)
  exact wpAny_pyNext_range_end (I.ok.hd hc) st (by have:n≤i:=hg;omega) fun h' eb=>⟨rfl,I.turned (t':=s.toks) (fun b o hb e=>eb b o hb e) f0 f1 f3 f4 f5⟩
 self:=fun _ _ _ _ _ st h=>wpAny_pyIter_rangeiter st h
section
variable {X:Cx}{tg:Expr}
noncomputable def AF (K:PySem.W.Frag) (tl:TE):TI:=fun σ H R=>tl σ H fun x H1=>∃ a,x=.ref a∧(∃ xs,SqL K H1 a xs)∧R (Itl K a) H1
noncomputable def C7 (K:PySem.W.Frag) (tl:TE):TI:=fun σ H R=>tl σ H fun x H1=>∃ a,x=.ref a∧(∃ xs,SqT K H1 a xs)∧R (Itt K a) H1
theorem xD {l:Expr}{tl:TE} (hl:PE X l tl):PI X tg l (AF X.K tl):=by
 intro pins s σ H R I h
 refine thn (hl pins s σ H _ I h) fun v s1 zz5=>?_
 obtain ⟨x,H1,I1,r1,q1⟩:=zz5
 obtain ⟨a,e,⟨xs,hq⟩,q⟩:=q1
 subst e
 cases r1
 obtain ⟨its,rv,p,hz⟩:=I1.list hq
 refine wpAny_pyIter_list p.isList ?_
 refine ⟨s1.heap.objs.size,[s1.heap.objs.size],_,_,H1,rfl,I1.kept (t':=s1.toks) fun b o e=>Ee _ e,pA a _,⟨_,Er _ rfl,rfl,rfl⟩,fun b hb=>?_,q⟩
 have e:b=s1.heap.objs.size:=by simpa using hb
 subst e
 exact I1.fpOk (Ek _) (I1.hok.fresh (Ek _))
theorem zX {l:Expr}{tl:TE} (hl:PE X l tl):PI X tg l (C7 X.K tl):=by
 intro pins s σ H R I h
 refine thn (hl pins s σ H _ I h) fun v s1 zz6=>?_
 obtain ⟨x,H1,I1,r1,q1⟩:=zz6
 obtain ⟨a,e,⟨xs,hq⟩,q⟩:=q1
 subst e
 cases r1
 obtain ⟨its,rv,p,hz⟩:=I1.tuple hq
 refine wpAny_pyIter_tuple (show s1.heap.IsTuple a its.toArray from p) ?_
 refine ⟨s1.heap.objs.size,[s1.heap.objs.size],_,_,H1,rfl,I1.kept (t':=s1.toks) fun b o e=>Ee _ e,oD a _,⟨_,Er _ rfl,rfl,rfl⟩,fun b hb=>?_,q⟩
 have e:b=s1.heap.objs.size:=by simpa using hb
 subst e
 exact I1.fpOk (Ek _) (I1.hok.fresh (Ek _))
theorem tM {pins:List (Addr×Obj)}{σ:St}{H:Hp}{s:Shared}{R:It→Hp→Prop}{E:Value→Shared→Prop}{lo hi:Int}{t u v:Tok}{tk:Nat} (I:Inv X pins σ H s) (h1:-(2 ^ 62)≤lo) (h2:lo<2 ^ 62) (h3:-(2 ^ 62)≤hi) (h4:hi<2 ^ 62)
  (q : R (Itr lo (hi - lo).toNat) H):wpAny (model X.prog X.w) X.A (pyIter (.ref s.heap.objs.size)) (PIE X pins σ tg R) E { s with heap:=s.heap.push { cls:=.type "range",data:=.fields #[.int lo t,.int hi u,.int 1 v] },toks:=tk }:=by
 refine wpAny_pyIter_range (IsRange.new ..) (small_one h1 h2 h3 h4) ?_
 have I1:Inv X pins σ H { s with heap:=s.heap.push { cls:=.type "range",data:=.fields #[.int lo t,.int hi u,.int 1 v] },toks:=tk }:=I.kept fun b o e=>Ee _ e
 refine ⟨(s.heap.push { cls:=.type "range",data:=.fields #[.int lo t,.int hi u,.int 1 v] }).objs.size,[(s.heap.push { cls:=.type "range",data:=.fields #[.int lo t,.int hi u,.int 1 v] }).objs.size],_,_,H,rfl,
  I1.kept (t':=tk) fun b o e=>Ee _ e,oE _ lo (hi - lo).toNat,?_,fun b hb=>?_,q⟩
 ·have e1:lo+((0:Nat):Int)*1=lo:=by simp
  have e2:(((hi - lo).toNat:Nat):Int) - ((0:Nat):Int)=Builtin.Range.rangeSize lo hi 1:=by rw[rangeSize_one];split <;> omega
  show IsRangeIter _ _ (lo+((0:Nat):Int)*1) ((((hi - lo).toNat:Nat):Int) - ((0:Nat):Int)) 1
  rw [e1,e2]
  exact Er _ rfl
 ·have e:b=(s.heap.push { cls:=.type "range",data:=.fields #[.int lo t,.int hi u,.int 1 v] }).objs.size:=by simpa using hb
  subst e
  exact I1.fpOk (Ek _) (I1.hok.fresh (Ek _))
noncomputable def Ci (ta:TA):TI:=fun σ H R=>ta σ H fun vs H1=>∃ j:Int,vs=[.int j]∧-(2 ^ 62)≤j∧j<2 ^ 62∧R (Itr 0 j.toNat) H1
theorem qC {a:Expr}{ta:TA}{p pos:Pos} (hg:Gl X "range") (hm:X.mg "range" = none) (ha:PA X [a] ta) (hs:starEach [a] X.env=[(false,eval a X.env)]:=by rfl):PI X tg (.Call (.Name "range" p) [a] [] pos) (Ci ta):=by
 intro pins s σ H R I h
 refine Call_ (fJ I hg hm boot_range (PyProof.Rows.callWith_type1 (thn (ha pos pins s σ H _ I h) fun us s1 zz7=>?_) hs rfl))
 obtain ⟨vs,H1,I1,r1,q1⟩:=zz7
 obtain ⟨j,e,q1,q2,q⟩:=q1
 subst e
 cases r1 with
 | cons r rr =>
  cases rr
  obtain ⟨t,rfl⟩:=r
  exact call_range_1 (tM I1 (by omega) (by omega) q1 q2 (by simpa using q))
noncomputable def Dn (wi:TI) (g:TG) (tb:TS):TS:=fun D σ H=>wi σ H fun J H1=>∃ W:Nat→Nat→St→Hp→Prop,(∃ m,W 0 m σ H1)∧∀ i m σ H,W i m σ H →
 (J.stop i H∧D.nx σ H)∨(J.go i H∧∃ N:St→Hp→Prop,(∀ σ' H',N σ' H'→∃ m',m'<m∧W (i+1) m' σ' H')∧∀ x H',J.yld i H x H'→g x σ H' fun σ2 H2=>tb { D with nx:=N,ct:=N,bk:=D.nx } σ2 H2)
noncomputable def fG (fp:List Addr) (h:Heap):List (Addr×Obj):=fp.filterMap fun b=>(h.get? b).map fun o=>(b,o)
theorem dN {fp:List Addr}{h:Heap}{b:Addr}{o:Obj} (hb:b∈fp) (e:h.get? b=some o):(b,o)∈fG fp h:=List.mem_filterMap.mpr ⟨b,hb,by rw[e];rfl⟩
theorem kj {fp:List Addr}{h:Heap}{p:Addr×Obj} (hp:p∈fG fp h):p.1∈fp∧h.get? p.1=some p.2:=by
 obtain ⟨b,hb,e⟩:=List.mem_filterMap.mp hp
 cases q:h.get? b with
 | none=>rw[q] at e;cases e
 | some o =>
  rw [q] at e
  have e':(b,o)=p:=Option.some.inj e
  subst e'
  exact ⟨hb,q⟩
theorem Inv.pinned {pins:List (Addr×Obj)}{σ:St}{H:Hp}{s:Shared}{fp:List Addr} (I:Inv X pins σ H s) (hf:∀ b∈fp,gn X pins H b) (ho:∀ b∈fp,∃ o,s.heap.get? b=some o∧∀ v,o.data≠.cell v):Inv X (pins++fG fp s.heap) σ H s :=
 I.pins_of fun p hp=>(Ed.mp hp).elim (fun z=>I.pin p (D9 _ z)) fun z=>by
  obtain ⟨hb,e⟩:=kj z
  obtain ⟨f0,f1,f2,_⟩:=hf p.1 hb
  obtain ⟨o,e',d⟩:=ho p.1 hb
  rw [e] at e';cases e'
  exact ⟨e,f0,f1,f2,d⟩
theorem Inv.unpinned {pins pl:List (Addr×Obj)}{σ:St}{H:Hp}{s:Shared} (I:Inv X (pins++pl) σ H s):Inv X pins σ H s:=I.pins_of fun p hp=>I.pin p (D9 _ (Ec _ hp))
theorem zU {iter:Expr}{body:List Stmt}{wi:TI}{g:TG}{tb:TS}{pos:Pos} (hp:PassesOwn (model X.prog X.w) X.A X.env X.xe) (hc:X.calm=true) (hi:PI X tg iter wi) (hg:PG X tg g) (hb:PSs X body tb)
  (hs:∀ x,foldedSetIterable iter X.env x=pure x:=by intro _;rfl):PS X (.For tg iter body [] pos) (Dn wi g tb):=by
 intro pins s σ H D I h
 refine wpAny_For (thn (hi pins s σ H _ I h) fun v s1 h1=>thn h1 fun itv s2 h2=>?_) hs
 obtain ⟨it,fp,tn,J,H2,e,I2,T,st2,f2,W,⟨m0,w0⟩,turn⟩:=h2
 subst e
 have stat:∀ {H':Hp},(∀ b∈fp,H' b=none)→∀ b∈fp,gn X pins H' b:=fun hn b hb=>⟨hn b hb,(f2 b hb).2⟩
 refine codeAny_forLoop_any (fun n s'=>∃ i σ' H',Inv X pins σ' H' s'∧tn i s'.heap∧(∀ b∈fp,H' b=none)∧W i n σ' H') ?_ m0 ⟨0,σ,H2,I2,st2,fun b hb=>(f2 b hb).1,w0⟩
 rintro n s3 ⟨i,σ3,H3,I3,st3,fr3,w3⟩
 rcases turn i n σ3 H3 w3 with ⟨stop,qn⟩|⟨go,N,hN,step⟩
 ·refine wpAny_passesOwn hp (thn (T.done X rfl rfl rfl hc i pins s3 σ3 H3 X.xe I3 (stat fr3) st3 stop) fun r s4 zz8=>?_)
  obtain ⟨hr,I4⟩:=zz8
  subst hr
  exact wpAny_execs_nil ⟨σ3,H3,I4,qn⟩
 ·refine wpAny_passesOwn hp (thn (T.item X rfl rfl rfl hc i pins s3 σ3 H3 X.xe I3 (stat fr3) st3 go) fun r s4 zz0=>?_)
  obtain ⟨u,hr,h4⟩:=zz0
  subst hr
  refine wpAny_passesOwn hp (thn h4 fun _ s5 zz1=>?_)
  obtain ⟨x,H5,I5,r5,y5,st5,fr5⟩:=zz1
  have I5':=I5.pinned (stat fr5) (T.obj _ _ st5)
  refine wpAny_passesOwn hp (thn (hg _ s5 σ3 H5 x u _ I5' r5 (step x H5 y5)) fun _ s6 zz2=>?_)
  obtain ⟨σ6,H6,I6,q6⟩:=zz2
  refine wpAny_passesOwn hp (thn (hb _ s6 σ6 H6 _ I6 q6) fun f s7 q7=>?_)
  have again:∀ {σ7:St}{H7:Hp},Inv X (pins++fG fp s5.heap) σ7 H7 s7→N σ7 H7→∃ m,m<n∧∃ i σ' H',Inv X pins σ' H' s7∧tn i s7.heap∧(∀ b∈fp,H' b=none)∧W i m σ' H':=fun {σ7 H7} I7 n7=>by
   obtain ⟨m',hm,w7⟩:=hN σ7 H7 n7
   refine ⟨m',hm,i+1,σ7,H7,I7.unpinned,T.keep _ _ _ st5 fun b hb o e=>(I7.pin (b,o) (D9 _ (D9 _ (dN hb e)))).1,fun b hb=>?_,w7⟩
   obtain ⟨o,e,d⟩:=T.obj _ _ st5 b hb
   exact (I7.pin (b,o) (D9 _ (D9 _ (dN hb e)))).2.1
  cases f with
  | next=>obtain⟨σ7,H7,I7,n7⟩:=q7;exact again I7 n7
  | cont=>obtain⟨σ7,H7,I7,n7⟩:=q7;exact again I7 n7
  | brk=>obtain⟨σ7,H7,I7,q7⟩:=q7;exact⟨σ7,H7,I7.unpinned,q7⟩
  | ret v=>obtain⟨x7,σ7,H7,I7,r7,q7⟩:=q7;exact⟨x7,σ7,H7,I7.unpinned,r7,q7⟩
end
noncomputable abbrev R2:=V→V→Hp→VK→Prop
noncomputable def OpR (X:Cx) (f:Value→Value→Sem Value) (r:R2):Prop :=
 ∀ (pins:List (Addr×Obj)) (s:Shared) (σ:St) (H:Hp) (x y:V) (v u:Value) (Q:VK),Inv X pins σ H s→bx x v→bx y u→r x y H Q →
  wpAny (model X.prog X.w) X.A (f v u) (EP X pins σ Q) X.xe s
noncomputable def UnR (X:Cx) (f:Value→Sem Value) (r:V→Hp→VK→Prop):Prop :=
 ∀ (pins:List (Addr×Obj)) (s:Shared) (σ:St) (H:Hp) (x:V) (v:Value) (Q:VK),Inv X pins σ H s→bx x v→r x H Q →
  wpAny (model X.prog X.w) X.A (f v) (EP X pins σ Q) X.xe s
noncomputable def fC (X:Cx) (f:Value) (r:List V→Hp→VK→Prop):Prop :=
 ∀ (pins:List (Addr×Obj)) (s:Shared) (σ:St) (H:Hp) (xs:List V) (us:List Value) (Q:VK),Inv X pins σ H s→aO xs us→r xs H Q →
  wpAny (model X.prog X.w) X.A (call f us) (EP X pins σ Q) X.xe s
noncomputable def DY (X:Cx) (r:V→Hp→(Bool→Hp→Prop)→Prop):Prop :=
 ∀ (pins:List (Addr×Obj)) (s:Shared) (σ:St) (H:Hp) (x:V) (v:Value) (Q:Bool→Hp→Prop),Inv X pins σ H s→bx x v→r x H Q →
  wpAny (model X.prog X.w) X.A (truthy v) (TP X pins σ Q) X.xe s
noncomputable def tOp (r:R2) (ta tb:TE):TE:=fun σ H Q=>ta σ H fun x H1=>tb σ H1 fun y H2=>r x y H2 Q
noncomputable def tUn (r:V→Hp→VK→Prop) (ta:TE):TE:=fun σ H Q=>ta σ H fun x H1=>r x H1 Q
noncomputable def rI (C:Int→Int→Prop) (g:Int→Int→V):R2:=fun x y H Q=>∃ i j,x=.int i∧y=.int j∧C i j∧Q (g i j) H
noncomputable def rI0 (g:Int→Int→V):R2:=fun x y H Q=>∃ i j,x=.int i∧y=.int j∧Q (g i j) H
noncomputable def rU (g:Int→V):V→Hp→VK→Prop:=fun x H Q=>∃ i,x=.int i∧Q (g i) H
section
variable {X:Cx}{a b c:Expr}{ta tb tc:TE}{pos:Pos}
theorem CN (ha:PE X a ta) (hb:PE X b tb) {pins:List (Addr×Obj)}{s:Shared}{σ:St}{H:Hp}{R:V→V→Hp→Prop} (I:Inv X pins σ H s)
  (h : ta σ H fun x H1=>tb σ H1 fun y H2=>R x y H2) {Q:Value→Shared→Prop}{f:Value→Value→Sem Value}
  (hf:∀ v u s2 x y H2,Inv X pins σ H2 s2→bx x v→bx y u→R x y H2→wpAny (model X.prog X.w) X.A (f v u) Q X.xe s2) :
  wpAny (model X.prog X.w) X.A (eval a X.env) (fun v s₁=>wpAny (model X.prog X.w) X.A (eval b X.env) (fun u s₂=>wpAny (model X.prog X.w) X.A (f v u) Q X.xe s₂) X.xe s₁) X.xe s:=by
 refine thn (ha pins s σ H _ I h) fun v s1 zz3=>?_
 obtain ⟨x,H1,I1,r1,q1⟩:=zz3
 refine thn (hb pins s1 σ H1 _ I1 q1) fun u s2 zz4=>?_
 obtain ⟨y,H2,I2,r2,q2⟩:=zz4
 exact hf v u s2 x y H2 I2 r1 r2 q2
theorem xJ {op:Operator}{r:R2} (ho:OpR X (binaryOp op) r) (ha:PE X a ta) (hb:PE X b tb):PE X (.BinOp a op b pos) (tOp r ta tb):=by
 intro pins s σ H Q I h
 exact wpAny_BinOp (CN ha hb I h fun v u s2 x y H2 I2 rx ry q=>ho pins s2 σ H2 x y v u Q I2 rx ry q)
theorem zZ {op:UnaryOp}{r:V→Hp→VK→Prop} (ho:UnR X (unaryOp op) r) (ha:PE X a ta):PE X (.UnaryOp op a pos) (tUn r ta):=by
 intro pins s σ H Q I h
 exact UnaryOp_ (thn (ha pins s σ H _ I h) fun v s1 ⟨x,H1,I1,r1,q1⟩=>ho pins s1 σ H1 x v Q I1 r1 q1)
theorem opI {f:Value→Value→Sem Value}{C:Int→Int→Prop}{g:Int→Int→Int}
  (rule:∀ (i j:Int) (t u:Tok) (s:Shared) (Q:Value→Shared→Prop) (E:Value→Shared→Prop),C i j→Q (.int (g i j) s.toks) { s with toks:=s.toks+1 }→wpAny (model X.prog X.w) X.A (f (.int i t) (.int j u)) Q E s) :
  OpR X f (rI C fun i j=>.int (g i j)):=by
 intro pins s σ H x y v u Q I rx ry h
 obtain ⟨i,j,rfl,rfl,hc,q⟩:=h
 obtain ⟨t,rfl⟩:=rx
 obtain ⟨t',rfl⟩:=ry
 exact rule i j t t' s _ _ hc ⟨.int (g i j),H,I.tok _,⟨_,rfl⟩,q⟩
theorem C4 {f:Value→Value→Sem Value}{g:Int→Int→Int}
  (rule:∀ (i j:Int) (t u:Tok) (s:Shared) (Q:Value→Shared→Prop) (E:Value→Shared→Prop),Q (.int (g i j) s.toks) { s with toks:=s.toks+1 }→wpAny (model X.prog X.w) X.A (f (.int i t) (.int j u)) Q E s) :
  OpR X f (rI0 fun i j=>.int (g i j)):=by
 intro pins s σ H x y v u Q I rx ry h
 obtain ⟨i,j,rfl,rfl,q⟩:=h
 obtain ⟨t,rfl⟩:=rx
 obtain ⟨t',rfl⟩:=ry
 exact rule i j t t' s _ _ ⟨.int (g i j),H,I.tok _,⟨_,rfl⟩,q⟩
theorem Bi {f:Value→Value→Sem Value}{g:Int→Int→Bool}
  (rule:∀ (i j:Int) (t u:Tok) (s:Shared) (Q:Value→Shared→Prop) (E:Value→Shared→Prop),Q (.bool (g i j)) s→wpAny (model X.prog X.w) X.A (f (.int i t) (.int j u)) Q E s) :
  OpR X f (rI0 fun i j=>.bl (g i j)):=by
 intro pins s σ H x y v u Q I rx ry h
 obtain ⟨i,j,rfl,rfl,q⟩:=h
 obtain ⟨t,rfl⟩:=rx
 obtain ⟨t',rfl⟩:=ry
 exact rule i j t t' s _ _ ⟨.bl (g i j),H,I,rfl,q⟩
noncomputable def D3 (i j:Int):Prop:=0<j∧j<1073741824
noncomputable def Bd (i j:Int):Prop:=(-(2 ^ 64)<i∧i<2 ^ 64)∨(-(2 ^ 64)<j∧j<2 ^ 64)
theorem Bd.ok {i j:Int} (h:Bd i j):IntMulOk i j:=by
 rcases h with ⟨h1,h2⟩|⟨h1,h2⟩
 ·exact .of_left (intBits_le_64 h1 h2)
 ·exact .of_right (intBits_le_64 h1 h2)
theorem bX:OpR X (binaryOp .Add) (rI0 fun i j=>.int (i+j)):=C4 fun _ _ _ _ _ _ _ q=>add_int q
theorem qN:OpR X (binaryOp .Sub) (rI0 fun i j=>.int (i - j)):=C4 fun _ _ _ _ _ _ _ q=>sub_int q
theorem iL:OpR X (binaryOp .Mult) (rI Bd fun i j=>.int (i*j)):=opI fun _ _ _ _ _ _ _ hc q=>mul_int q hc.ok
theorem cR:OpR X (binaryOp .FloorDiv) (rI D3 fun i j=>.int (i / j)):=opI fun i j _ _ _ _ _ hc q=>by
 have h1:(0:Int)<j:=hc.1
 have h2:j<1073741824:=hc.2
 exact floordiv_int (by omega) (by rw[Int.fdiv_eq_ediv_of_nonneg i (by omega)];exact q) (.inl (PyProof.noPylong_small (by omega)))
theorem bC:OpR X (binaryOp .Mod) (rI (fun _ j=>0<j) fun i j=>.int (i % j)):=opI fun i j _ _ _ _ _ hc q=>by
 have h1:(0:Int)<j:=hc
 exact mod_int' (by omega) (by rw[Int.fmod_eq_emod_of_nonneg i (by omega)];exact q)
theorem unI {f:Value→Sem Value}{g:Int→Int}
  (rule:∀ (i:Int) (t:Tok) (s:Shared) (Q:Value→Shared→Prop) (E:Value→Shared→Prop),Q (.int (g i) s.toks) { s with toks:=s.toks+1 }→wpAny (model X.prog X.w) X.A (f (.int i t)) Q E s) :
  UnR X f (rU fun i=>.int (g i)):=by
 intro pins s σ H x v Q I rx h
 obtain ⟨i,rfl,q⟩:=h
 obtain ⟨t,rfl⟩:=rx
 exact rule i t s _ _ ⟨.int (g i),H,I.tok _,⟨_,rfl⟩,q⟩
theorem jO:UnR X (unaryOp .USub) (rU fun i=>.int (-i)):=unI fun _ _ _ _ _ q=>neg_int q
end
noncomputable def CY:V→V→Bool
 | .non,.non=>true|.non,.int _=>true|.int _,.non=>true|.non,.bl _=>true|.bl _,.non=>true|.non,.str _=>true|.str _,.non=>true
 | .int _,.int _=>true|.bl _,.bl _=>true|.str _,.str _=>true|.byt _,.byt _=>true
 | .int _,.str _=>true|.str _,.int _=>true|.bl _,.str _=>true|.str _,.bl _=>true
 | _,_=>false
noncomputable def rEq:R2:=fun x y H Q=>CY x y=true∧Q (.bl (decide (x=y))) H
noncomputable def rNe:R2:=fun x y H Q=>CY x y=true∧Q (.bl (!decide (x=y))) H
theorem rQ {i j:Int}:decide (V.int i=V.int j)=(i==j):=by
 rw [Fu]
 simp
theorem ww {i j:Bool}:decide (V.bl i=V.bl j)=(i==j):=by
 rw [Fu]
 simp
theorem rP {i j:Str}:decide (V.str i=V.str j)=(i==j):=by
 rw [Fu]
 simp
theorem rR {i j:Array UInt8}:decide (V.byt i=V.byt j)=(i.toList==j.toList):=by
 rw [Fu]
 cases i
 cases j
 simp
section
variable {X:Cx}{a b c:Expr}{ta tb tc:TE}{pos:Pos}
theorem aJ {pins:List (Addr×Obj)}{σ:St}{H:Hp}{s:Shared}{Q:VK}{k k':Bool} (I:Inv X pins σ H s) (q:Q (.bl k) H) (e:k=k'):EP X pins σ Q (.bool k') s:=by
 subst e
 exact ⟨.bl k,H,I,rfl,q⟩
theorem lR:OpR X (compareOp .Eq) rEq:=by
 intro pins s σ H x y v u Q I rx ry h
 obtain ⟨hs,q⟩:=h
 cases x with
 | non =>
  cases rx
  cases y with
  | non=>cases ry;exact PySem.EqNone.eq_none_none (aJ I q (by simp))
  | bl j=>cases ry;exact PySem.EqNone.eq_none_bool (aJ I q (by simp))
  | int j=>obtain⟨t',rfl⟩:=ry;exact PySem.EqNone.eq_none_int (aJ I q (by simp))
  | str j=>obtain⟨t',rfl⟩:=ry;exact PySem.EqNone.eq_none_str (aJ I q (by simp))
  | _=>exact absurd (show false=true from hs) Et
 | bl i =>
  cases rx
  cases y with
  | non=>cases ry;exact PySem.EqNone.eq_bool_none (aJ I q (by simp))
  | bl j=>cases ry;exact eq_bool (aJ I q ww)
  | str j=>obtain⟨t',rfl⟩:=ry;exact PySem.EqMixed.eq_bool_str (aJ I q (by simp))
  | _=>exact absurd (show false=true from hs) Et
 | int i =>
  obtain ⟨t,rfl⟩:=rx
  cases y with
  | non=>cases ry;exact PySem.EqNone.eq_int_none (aJ I q (by simp))
  | int j=>obtain⟨t',rfl⟩:=ry;exact eq_int (aJ I q rQ)
  | str j=>obtain⟨t',rfl⟩:=ry;exact PySem.EqMixed.eq_int_str (aJ I q (by simp))
  | _=>exact absurd (show false=true from hs) Et
 | str i =>
  obtain ⟨t,rfl⟩:=rx
  cases y with
  | non=>cases ry;exact PySem.EqNone.eq_str_none (aJ I q (by simp))
  | bl j=>cases ry;exact PySem.EqMixed.eq_str_bool (aJ I q (by simp))
  | int j=>obtain⟨t',rfl⟩:=ry;exact PySem.EqMixed.eq_str_int (aJ I q (by simp))
  | str j=>obtain⟨t',rfl⟩:=ry;exact eq_str (aJ I q rP)
  | _=>exact absurd (show false=true from hs) Et
 | byt i =>
  obtain ⟨t,rfl⟩:=rx
  cases y with
  | byt j=>obtain⟨t',rfl⟩:=ry;exact PySem.W.eq_bytes (aJ I q rR)
  | _=>exact absurd (show false=true from hs) Et
 | _=>cases y <;> exact absurd (show false=true from hs) Et
theorem Ac:OpR X (compareOp .NotEq) rNe:=by
 intro pins s σ H x y v u Q I rx ry h
 obtain ⟨hs,q⟩:=h
 cases x with
 | non =>
  cases rx
  cases y with
  | non=>cases ry;exact PySem.EqNone.ne_none_none (aJ I q (by simp))
  | bl j=>cases ry;exact PySem.EqNone.ne_none_bool (aJ I q (by simp))
  | int j=>obtain⟨t',rfl⟩:=ry;exact PySem.EqNone.ne_none_int (aJ I q (by simp))
  | str j=>obtain⟨t',rfl⟩:=ry;exact PySem.EqNone.ne_none_str (aJ I q (by simp))
  | _=>exact absurd (show false=true from hs) Et
 | bl i =>
  cases rx
  cases y with
  | non=>cases ry;exact PySem.EqNone.ne_bool_none (aJ I q (by simp))
  | bl j=>cases ry;exact ne_bool (aJ I q (congrArg not ww))
  | str j=>obtain⟨t',rfl⟩:=ry;exact PySem.EqMixed.ne_bool_str (aJ I q (by simp))
  | _=>exact absurd (show false=true from hs) Et
 | int i =>
  obtain ⟨t,rfl⟩:=rx
  cases y with
  | non=>cases ry;exact PySem.EqNone.ne_int_none (aJ I q (by simp))
  | int j=>obtain⟨t',rfl⟩:=ry;exact ne_int (aJ I q (congrArg not rQ))
  | str j=>obtain⟨t',rfl⟩:=ry;exact PySem.EqMixed.ne_int_str (aJ I q (by simp))
  | _=>exact absurd (show false=true from hs) Et
 | str i =>
  obtain ⟨t,rfl⟩:=rx
  cases y with
  | non=>cases ry;exact PySem.EqNone.ne_str_none (aJ I q (by simp))
  | bl j=>cases ry;exact PySem.EqMixed.ne_str_bool (aJ I q (by simp))
  | int j=>obtain⟨t',rfl⟩:=ry;exact PySem.EqMixed.ne_str_int (aJ I q (by simp))
  | str j=>obtain⟨t',rfl⟩:=ry;exact ne_str (aJ I q (congrArg not rP))
  | _=>exact absurd (show false=true from hs) Et
 | byt i =>
  obtain ⟨t,rfl⟩:=rx
  cases y with
  | byt j=>obtain⟨t',rfl⟩:=ry;exact PySem.W.ne_bytes (aJ I q (congrArg not rR))
  | _=>exact absurd (show false=true from hs) Et
 | _=>cases y <;> exact absurd (show false=true from hs) Et
theorem ka:OpR X (compareOp .Lt) (rI0 fun i j=>.bl (decide (i<j))):=Bi fun _ _ _ _ _ _ _ q=>lt_int q
theorem tZ:OpR X (compareOp .LtE) (rI0 fun i j=>.bl (decide (i≤j))):=Bi fun _ _ _ _ _ _ _ q=>le_int q
theorem xT:OpR X (compareOp .Gt) (rI0 fun i j=>.bl (decide (j<i))):=Bi fun _ _ _ _ _ _ _ q=>gt_int q
theorem Af:OpR X (compareOp .GtE) (rI0 fun i j=>.bl (decide (j≤i))):=Bi fun _ _ _ _ _ _ _ q=>ge_int q
theorem nz:OpR X (compareOp .Is) (fun x y H Q=>y=.non∧Q (.bl (decide (x=.non))) H):=by
 intro pins s σ H x y v u Q I rx ry h
 obtain ⟨rfl,q⟩:=h
 cases ry
 refine is_none_gen (aJ I q ?_)
 cases x <;> first
  | (cases rx;rfl)
  | (obtain⟨t,rfl⟩:=rx;rfl)
theorem xS:OpR X (compareOp .IsNot) (fun x y H Q=>y=.non∧Q (.bl (!decide (x=.non))) H):=by
 intro pins s σ H x y v u Q I rx ry h
 obtain ⟨rfl,q⟩:=h
 cases ry
 refine isnot_none_gen (aJ I q ?_)
 cases x <;> first
  | (cases rx;rfl)
  | (obtain⟨t,rfl⟩:=rx;rfl)
theorem aA (b:Expr) {op:CmpOp} (h:op≠.In:=by decide) (h2:op≠.NotIn:=by decide):behindInMarks op b=false:=by
 have e1:(op==CmpOp.In)=false:=by cases op <;> first|rfl|exact absurd rfl h
 have e2:(op==CmpOp.NotIn)=false:=by cases op <;> first|rfl|exact absurd rfl h2
 cases b <;> simp[behindInMarks,e1,e2]
theorem xO {op:CmpOp}{r:R2} (ho:OpR X (compareOp op) r) (ha:PE X a ta) (hb:PE X b tb) (hm:behindInMarks op b=false):PE X (.Compare a [op] [b] pos) (tOp r ta tb):=by
 intro pins s σ H Q I h
 exact wpAny_Compare1 (CN ha hb I h fun v u s2 x y H2 I2 rx ry q=>ho pins s2 σ H2 x y v u Q I2 rx ry q) hm
noncomputable def zp (t:TE):TT:=fun σ H Q=>t σ H fun x H'=>∃ k,x=.bl k∧Q k H'
theorem xr {op:CmpOp}{r:R2} (ho:OpR X (compareOp op) r) (ha:PE X a ta) (hb:PE X b tb) (hm:behindInMarks op b=false):PT X (.Compare a [op] [b] pos) (zp (tOp r ta tb)):=by
 intro pins s σ H Q I h
 refine wpAny_isTrue_Compare1 (thn (ha pins s σ H _ I h) fun v s1 ⟨x,H1,I1,r1,q1⟩=>thn (hb pins s1 σ H1 _ I1 q1) fun u s2 ⟨y,H2,I2,r2,q2⟩ =>
  thn (ho pins s2 σ H2 x y v u _ I2 r1 r2 q2) fun c s3 ⟨z,H3,I3,r3,k,e,q3⟩=>?_) hm
 subst e
 cases r3
 exact wpAny_truthy_bool ⟨H3,I3,q3⟩
noncomputable def vo (r r':R2) (ta tb tc:TE):TE:=fun σ H Q=>ta σ H fun x H1=>tb σ H1 fun y H2=>r x y H2 fun z H3=>∃ k,z=.bl k ∧
 (if k=true then tc σ H3 fun w' H4=>r' y w' H4 Q else Q (.bl false) H3)
theorem tX {op op':CmpOp}{r r':R2} (ho:OpR X (compareOp op) r) (ho':OpR X (compareOp op') r') (ha:PE X a ta) (hb:PE X b tb) (hc:PE X c tc)
  (hm:lastMarks [op,op'] [b,c]=false:=by with_unfolding_all rfl):PE X (.Compare a [op,op'] [b,c] pos) (vo r r' ta tb tc):=by
 intro pins s σ H Q I h
 refine Compare_chain (thn (ha pins s σ H _ I h) fun v s1 ⟨x,H1,I1,r1,q1⟩=>chain_link (thn (hb pins s1 σ H1 _ I1 q1) fun u s2 ⟨y,H2,I2,r2,q2⟩ =>
  thn (ho pins s2 σ H2 x y v u _ I2 r1 r2 q2) fun d s3 ⟨z,H3,I3,r3,k,e,q3⟩=>?_)) hm
 subst e
 cases r3
 refine wpAny_truthy_bool ?_
 cases k with
 | false=>exact ite_ff ⟨.bl false,H3,I3,rfl,q3⟩
 | true=>exact ite_tt (chain_last (thn (hc pins s3 σ H3 _ I3 q3) fun w' s4 ⟨z',H4,I4,r4,q4⟩=>ho' pins s4 σ H4 y z' u w' Q I4 r2 r4 q4))
noncomputable def Bz (K:PySem.W.Frag) (x:V) (H:Hp) (k:Bool):Prop :=
 match x with
 | .non=>k=false
 | .bl b=>k=b
 | .int i=>k=(i != 0)
 | .str y=>y.length≤sizeLine∧k=((y.length:Int) != 0)
 | .byt y=>y.size≤sizeLine∧k=((y.size:Int) != 0)
 | .ref p=>(∃ xs,SqL K H p xs∧k=!xs.isEmpty)∨(∃ xs,SqT K H p xs∧k=!xs.isEmpty)∨∃ kvs,H p=some (.dK kvs)∧k=!kvs.isEmpty
 | _=>False
theorem oY {κ:Type}{kvs:List (κ×V)}{vs:List (κ×Value)} (r:KV kvs vs):(!vs.isEmpty)=!kvs.isEmpty:=by
 cases r <;> rfl
theorem iQ {xs:List V}{its:List Value} (r:aO xs its):(!its.toArray.isEmpty)=!xs.isEmpty:=by
 cases r <;> simp
theorem ko:(sizeLine:Nat)<2 ^ 63:=by rw[sizeLine_eq];decide
theorem zn:DY X (fun x H Q=>∃ k,Bz X.K x H k∧Q k H):=by
 intro pins s σ H x v Q I rx h
 obtain ⟨k,e,q⟩:=h
 have hl:=ko
 have hs:sizeLine=16777216:=sizeLine_eq
 cases x with
 | non =>
  cases rx
  have e':k=false:=e
  subst e'
  exact truthy_none ⟨H,I,q⟩
 | bl b =>
  cases rx
  have e':k=b:=e
  subst e'
  exact wpAny_truthy_bool ⟨H,I,q⟩
 | int i =>
  obtain ⟨t,rfl⟩:=rx
  have e':k=(i != 0):=e
  subst e'
  exact PySem.P.truthy_int ⟨H,I,q⟩
 | str y =>
  obtain ⟨t,rfl⟩:=rx
  obtain ⟨hy,e'⟩:y.length≤sizeLine∧k=((y.length:Int) != 0):=e
  subst e'
  exact PySem.P.truthy_str (by omega) ⟨H,I.tok _,q⟩
 | byt y =>
  obtain ⟨t,rfl⟩:=rx
  obtain ⟨hy,e'⟩:y.size≤sizeLine∧k=((y.size:Int) != 0):=e
  subst e'
  exact PySem.W.truthy_bytes (by omega) ⟨H,I.tok _,q⟩
 | ref p =>
  cases rx
  have e':(∃ xs,SqL X.K H p xs∧k=!xs.isEmpty)∨(∃ xs,SqT X.K H p xs∧k=!xs.isEmpty)∨∃ kvs,H p=some (.dK kvs)∧k=!kvs.isEmpty:=e
  rcases e' with ⟨xs,hx,e'⟩|⟨xs,hx,e'⟩|⟨kvs,hx,e'⟩
  ·subst e'
   obtain ⟨its,r,pl,hz⟩:=I.list hx
   have hlen:=r.length
   exact wpAny_truthy_list pl.isList (by simp only [El];omega) ⟨H,I.tok _,by rw[iQ r];exact q⟩
  ·subst e'
   obtain ⟨its,r,pl,hz⟩:=I.tuple hx
   have hlen:=r.length
   exact truthy_tuple pl (by simp only [El];omega) ⟨H,I.tok _,by rw[iQ r];exact q⟩
  ·subst e'
   obtain ⟨hz,hS,vs,r,m⟩:kvs.length≤sizeLine∧(p==sysModules)=false∧∃ vs,KV kvs vs∧s.heap.DictOf (lZ X.prog X.w) p vs:=I.hok p _ hx
   have hlen:kvs.length=vs.length:=Paired.length r
   exact wpAny_truthy_dict hS m (by omega) ⟨H,I.tok _,by rw[oY r];exact q⟩
 | _=>exact (show False from e).elim
theorem tR (ha:PE X a ta) (he:∀ whole,isTrue a X.env whole=(do let v ←whole;standAt a.pos;holding [v] (truthy v))) :
  PT X a (fun σ H Q=>ta σ H fun x H'=>∃ k,Bz X.K x H' k∧Q k H'):=by
 intro pins s σ H Q I h
 exact isTrue_plain (thn (ha pins s σ H _ I h) fun v s1 ⟨x,H1,I1,r1,q1⟩=>zn pins s1 σ H1 x v Q I1 r1 q1) (he _)
theorem iW {x:V}{us:List Value} (r:aO [x] us):∃ u,us=[u]∧bx x u:=by
 cases r with
 | cons r1 r2=>cases r2;exact⟨_,rfl,r1⟩
theorem pz {x y:V}{us:List Value} (r:aO [x,y] us):∃ u w',us=[u,w']∧bx x u∧bx y w':=by
 cases r with
 | cons r1 r2 =>
  cases r2 with
  | cons r3 r4=>cases r4;exact⟨_,_,rfl,r1,r3⟩
theorem sE (hc:X.calm=true):fC X (.builtin "min") (fun xs H Q=>∃ i j,xs=[.int i,.int j]∧Q (.int (if j<i then j else i)) H):=by
 intro pins s σ H xs us Q I r h
 obtain ⟨i,j,rfl,q⟩:=h
 obtain ⟨u,w',rfl,⟨t,rfl⟩,⟨t',rfl⟩⟩:=pz r
 refine min_two_ints (I.ok.hd hc) fun h' tk k=>⟨_,H,I.kept k,?_,q⟩
 by_cases hj:j<i
 ·rw [if_pos hj,if_pos hj];exact⟨_,rfl⟩
 ·rw [if_neg hj,if_neg hj];exact⟨_,rfl⟩
end
structure D6 (h:Heap) (x dx C:Addr) (mA:Str→Option Value):Prop where
 obj:h.get? x=some (PySem.W.instObj C dx)
 ns : h.Ns1 dx mA
 ne : dx≠x
section
variable {prog:Program}{w:World}{A:Around}{E:Value→Shared→Prop}{s:Shared}{K:PySem.W.Frag}{x dx C f:Addr}{mA:Str→Option Value}{name:Str}{v:Value}
end
section
variable {P:Program}{w:World}{H H':Hp}{h h':Heap}{a C dx:Addr}{fs fs':List (Str×V)}
end
structure Cls (K:PySem.W.Frag) (C:Addr):Prop where
 pg : PySem.W.plainGet K C Str.empty=true
 hd : PySem.W.hasDictIn K C=true
 po : PySem.W.plainOver K C=true
 sa : PySem.W.findIn K (.ref C) "__setattr__" = some (some (.builtin "object.__setattr__"))
section
variable {X:Cx}{pins:List (Addr×Obj)}{σ:St}{H:Hp}{s:Shared}{a C dx:Addr}{fs:List (Str×V)}{f:Str}{v:V}{A:Around}{E:Value→Shared→Prop}
end
section
variable {X:Cx}{o e value:Expr}{f:Str}{pos pos' tpos:Pos}{ta tv:TE}
end
section
variable {X:Cx}{pins:List (Addr×Obj)}{σ:St}{H:Hp}{s:Shared}{A:Around}{E:Value→Shared→Prop}{Q:Value→Shared→Prop}{c:Value}{b:Bool}
end
structure cY (k:Nat) (A:Around):Prop where
 hd : A.handled=none
 dp : A.depth+3*k+5<recursionLimit
 un : A.units+16*k+200<cLine
theorem cY.mono {j k:Nat}{A:Around} (r:cY k A) (h:j≤k):cY j A:=⟨r.hd,by have:=r.dp;omega,by have:=r.un;omega⟩
theorem cY.deeper {k:Nat}{A:Around} (r:cY (k+1) A) (env:Env):cY k (A.deeper env) :=
 ⟨r.hd,by have:=r.dp;show A.depth+1+3*k+5<_;omega,by have:=r.un;show A.units+3+16*k+200<_;omega⟩
theorem cY.in1 {k:Nat}{A:Around} (r:cY (k+1) A):cY k A.in1 :=
 ⟨r.hd,by have:=r.dp;show A.depth+3*k+5<_;omega,by have:=r.un;show A.units+1+16*k+200<_;omega⟩
theorem cY.depth {k:Nat}{A:Around} (r:cY k A):A.depth<recursionLimit:=by have:=r.dp;omega
theorem cY.units {k:Nat}{A:Around} (r:cY k A):A.units+64<cLine:=by have:=r.un;omega
noncomputable def CV:TA:=fun _ H Q=>Q [] H
noncomputable def zq (ta:TE) (tr:TA):TA:=fun σ H Q=>ta σ H fun x H1=>tr σ H1 fun xs H2=>Q (x::xs) H2
section
variable {X:Cx}{e:Expr}{es:List Expr}{te:TE}{t:TA}{pos:Pos}
theorem j7:PA X [] CV:=fun _ _ _ _ H Q I h=>Calls.spliced_nil ⟨[],H,I,.nil,h⟩
theorem ff (ha:PE X e te) (hr:PA X es t) (hs:starEach (e::es) X.env=(false,eval e X.env)::starEach es X.env:=by rfl):PA X (e::es) (zq te t):=by
 intro pos pins s σ H Q I h
 rw [hs]
 show wpAny _ _ (spliced ((false,eval e X.env)::backTo pos (starEach es X.env))) _ _ s
 refine Calls.spliced_cons (thn (ha pins s σ H _ I h) fun u s1 zz5=>?_)
 obtain ⟨x,H1,I1,r1,q1⟩:=zz5
 exact thn (hr pos pins s1 σ H1 _ I1 q1) fun us s2 ⟨xs,H2,I2,r2,q2⟩=>⟨x::xs,H2,I2,.cons r1 r2,q2⟩
noncomputable def Dh (t:TA):TE:=fun σ H Q=>t σ H fun xs H1=>xs.length≤sizeLine∧∀ p,H1 p=none→Q (.ref p) (upd H1 p (.tup xs))
noncomputable def Dl (t:TA):TE:=fun σ H Q=>t σ H fun xs H1=>xs.length≤sizeLine∧∀ p,H1 p=none→Q (.ref p) (upd H1 p (.lst xs))
theorem z0 {x1} (h:PA X es t):PE X (.Tuple es x1 pos) (Dh t):=by
 intro pins s σ H Q I hq
 refine wpAny_Tuple_spliced (thn (h pos pins s σ H _ I hq) fun us s1 zz6=>?_)
 obtain ⟨xs,H1,I1,r,z,q⟩:=zz6
 refine ⟨by rw[←r.length];exact z,?_⟩
 have hf:H1 s1.heap.objs.size=none:=I1.hok.fresh (Ek _)
 refine ⟨.ref s1.heap.objs.size,upd H1 s1.heap.objs.size (.tup xs),I1.laid (t':=s1.toks) (fun b u e=>Ee _ e) (Ek _) ?_,rfl,q _ hf⟩
 exact ⟨z,us,r,⟨_,Er _ rfl,rfl,⟨_,rfl⟩,rfl⟩⟩
theorem vS (h:PA X es t):PE X (.List es pos) (Dl t):=by
 intro pins s σ H Q I hq
 refine wpAny_List_spliced (thn (h pos pins s σ H _ I hq) fun us s1 zz7=>?_)
 obtain ⟨xs,H1,I1,r,z,q⟩:=zz7
 refine ⟨by rw[←r.length];exact z,?_⟩
 have hf:H1 s1.heap.objs.size=none:=I1.hok.fresh (Ek _)
 refine ⟨.ref s1.heap.objs.size,upd H1 s1.heap.objs.size (.lst xs),I1.laid (t':=s1.toks) (fun b u e=>Ee _ e) (Ek _) ?_,rfl,q _ hf⟩
 exact ⟨z,us,0,r,Er _ rfl⟩
end
noncomputable abbrev Sp:=List V→Hp→VK→XK→Prop
noncomputable abbrev CXT:=List Env→Hp→Shared→XK→Value→Shared→Prop
structure pq (P:Program) (w:World) (K:PySem.W.Frag) (mg:Str→Option Value) (base:Heap) (A:Around) (outer:List Env) (s:Shared) (H:Hp):Prop where
 frames:A.frames=some outer
 mod:Mod K mg base
 bs : ∀ b o,base.get? b=some o→s.heap.get? b=some o∧H b=none
 bsz:base.objs.size≤s.heap.objs.size
 funs:s.heap.FunFrames base outer
 frf:∀ b∈frs outer,H b=none
 hok:HOk P w H s.heap
 bare:AllBare s.gens
 tab:wO K H
noncomputable def CE (outer:List Env) (P:Program) (w:World) (H:Hp) (s:Shared) (Q:VK) (u:Value) (s':Shared):Prop :=
 ∃ v H',s'.os=s.os∧AllBare s'.gens∧Un (frs outer) [] H H' s.heap s'.heap∧HOk P w H' s'.heap∧bx v u∧Q v H'
noncomputable def CR (CX:CXT) (outer:List Env) (P:Program) (w:World) (H:Hp) (s:Shared) (Q:VK) (E:XK) (r:Result) (s':Shared):Prop :=
 match r with
 | .ok (.ret u)=>CE outer P w H s Q u s'
 | .ok _=>False
 | .error e=>CX outer H s E e s'
structure cG (P:Program) (w:World) (K:PySem.W.Frag) (mg:Str→Option Value) (base:Heap) (CX:CXT) (k:Nat) (f:Addr) (fd:FuncData) (ps:List Str) (sp:Sp):Prop where
 len:∀ vs H Q E,sp vs H Q E→vs.length=ps.length
 run:∀ (A:Around) (outer:List Env) (s:Shared) (H:Hp) (args:Args) (us:List Value) (vs:List V) (Q:VK) (E:XK),cY k A→pq P w K mg base A outer s H→BindsTo s fd args (ps.zip us)→aO vs us→sp vs H Q E →
  codeAny (model P w) A (.call (.ref f) args) (CR CX outer P w H s Q E) s
theorem cG.mono {P:Program}{w:World}{K:PySem.W.Frag}{mg:Str→Option Value}{base:Heap}{CX:CXT}{j k:Nat}{f:Addr}{fd:FuncData}{ps:List Str}{sp:Sp} (F:cG P w K mg base CX j f fd ps sp) (h:j≤k) :
  cG P w K mg base CX k f fd ps sp:=⟨F.len,fun A outer s H args us vs Q E hr=>F.run A outer s H args us vs Q E (hr.mono h)⟩
theorem pq.in1 {P:Program}{w:World}{K:PySem.W.Frag}{mg:Str→Option Value}{base:Heap}{A:Around}{outer:List Env}{s:Shared}{H:Hp} (e:pq P w K mg base A outer s H) :
  pq P w K mg base A.in1 outer s H:=⟨e.frames,e.mod,e.bs,e.bsz,e.funs,e.frf,e.hok,e.bare,e.tab⟩
section
variable {X:Cx}{pins:List (Addr×Obj)}{σ:St}{H:Hp}{s s':Shared}
theorem Inv.env0 (I:Inv X pins σ H s):pq X.prog X.w X.K X.mg X.base X.A X.stack s H :=
 ⟨I.ok.frames,I.ok.mod,I.bs,Eg I.ok.bsz I.sz,I.stack,I.stkFree,I.hok,I.bare,fun T q h=>I.base.tbls T q (I.ok.tab T q h)⟩
theorem Inv.after {Q:VK}{u:Value} (I:Inv X pins σ H s) (h:CE X.stack X.prog X.w H s Q u s'):EP X pins σ Q u s':=by
 obtain ⟨v,H',os,bare,un,hok,r,q⟩:=h
 obtain ⟨hh,g,d,t,os'⟩:=s'
 obtain rfl:os'=s.os:=os
 exact ⟨v,H',I.call (h':=hh) (g':=g) (d':=d) (t':=t) (ch:=[]) un hok bare (fun b z=>absurd z (by simp)),r,q⟩
end
noncomputable def pE (sp:Sp) (dvs:List V) (E:XK) (t:TA):TE:=fun σ H Q=>t σ H fun vs H1=>sp (vs++dvs) H1 Q E
noncomputable def bu (K:PySem.W.Frag) (fd:FuncData) (ps:List Str) (ds:List Value):Prop :=
 ∀ (s:Shared) (us:List Value),K.In s.heap→(us++ds).length=ps.length→BindsTo s fd ⟨us,[]⟩ (ps.zip (us++ds))
theorem bu.all {K:PySem.W.Frag}{fd:FuncData}{ps:List Str} (h:∀ us:List Value,us.length=ps.length→bindArgs fd ⟨us,[]⟩=pure (ps.zip us)):bu K fd ps []:=fun s us _ hl=>by
 rw [EK] at hl ⊢
 exact .of_eq (h us hl)
noncomputable def sS (CX:CXT) (X:Cx) (E:XK):Prop:=∀ (pins:List (Addr×Obj)) (σ:St) (H:Hp) (s:Shared) (e:Value) (s':Shared),Inv X pins σ H s→CX X.stack H s E e s'→X.xe e s'
section
variable {X:Cx}{CX:CXT}{k:Nat}{f C:Addr}{fd:FuncData}{ps:List Str}{sp:Sp}{dvs:List V}{ds:List Value}{E:XK}{x m:Str}{p pos apos:Pos}{e o:Expr}{es:List Expr}{ta:TE}{t:TA}
theorem zx {pins:List (Addr×Obj)}{σ:St}{H:Hp}{s:Shared}{Q:VK}{us:List Value}{vs:List V} (F:cG X.prog X.w X.K X.mg X.base CX k f fd ps sp) (hr:cY k X.A) (hb:bu X.K fd ps ds) (hd:aO dvs ds) (hx:sS CX X E)
  (I : Inv X pins σ H s) (r:aO vs us) (h:sp (vs++dvs) H Q E):wpAny (model X.prog X.w) X.A (call (.ref f) us) (EP X pins σ Q) X.xe s:=by
 have r2:aO (vs++dvs) (us++ds):=r.append hd
 have hl:(us++ds).length=ps.length:=by rw[←r2.length];exact F.len _ _ _ _ h
 refine wpAny_call (codeAny_mono (F.run X.A X.stack s H ⟨us,[]⟩ (us++ds) (vs++dvs) Q E hr I.env0 (hb s us I.kIn hl) r2 h) fun r s' hq=>?_)
 cases r with
 | error e=>exact hx pins σ H s e s' I hq
 | ok fl =>
  cases fl with
  | ret u=>exact I.after hq
  | next=>exact False.elim hq
  | brk=>exact False.elim hq
  | cont=>exact False.elim hq
theorem xP (F:cG X.prog X.w X.K X.mg X.base CX k f fd ps sp) (hr:cY k X.A) (hg:Gl X x) (hm:X.mg x=some (.ref f)) (hk:PySem.W.keepIn X.K (.ref f)=true) (hb:bu X.K fd ps ds) (hd:aO dvs ds) (hx:sS CX X E)
  (ha:PA X (e::es) t) (hdb:(x==("__debug__" : Str))=false:=by decide) (he:starEach (e::es) X.env=(false,eval e X.env)::starEach es X.env:=by rfl) (hpl:(backTo pos (starEach es X.env)).any (·.1)=false:=by rfl) :
  PE X (.Call (.Name x p) (e::es) [] pos) (pE sp dvs E t):=by
 intro pins s σ H Q I h
 refine wpAny_Call_Name_kw (x5 I hg hm ?_ hdb)
 refine PySem.W.callWith_K (h₀:=X.base) I.ok.mod.kin hk (thn (ha pos pins s σ H _ I h) fun us s1 zz8=>?_) he hpl
 obtain ⟨vs,H1,I1,r,q⟩:=zz8
 refine ⟨I1.kIn,?_⟩
 exact zx F hr hb hd hx I1 r q
end
noncomputable def PK (X:Cx) (kws:List Keyword) (t:TA):Prop :=
 ∀ (pos:Pos) (pins:List (Addr×Obj)) (s:Shared) (σ:St) (H:Hp) (Q:List V→Hp→Prop),Inv X pins σ H s→t σ H Q→wpAny (model X.prog X.w) X.A (evalAll ((backToKw pos (keywordEach kws X.env)).map (·.2))) (AP X pins σ Q) X.xe s
section
variable {X:Cx}{CX:CXT}{k:Nat}{f C:Addr}{fd:FuncData}{ps ks:List Str}{sp:Sp}{E:XK}{x m:Str}{p pos apos kpos:Pos}{e o:Expr}{es:List Expr}{kws:List Keyword}{te ta:TE}{t tk:TA}{nm:Option Str}
theorem zV:PK X [] CV:=fun _ _ _ _ H Q I h=>wpAny_evalAll_nil ⟨[],H,I,.nil,h⟩
theorem xA (ha:PE X e te) (hr:PK X kws t):PK X (⟨nm,e,kpos⟩::kws) (zq te t):=by
 intro pos pins s σ H Q I h
 show wpAny _ _ (evalAll ((do let v ←eval e X.env;standAt pos;pure v)::(backToKw pos (keywordEach kws X.env)).map (·.2))) _ _ s
 refine wpAny_evalAll_cons (wpAny_bind (thn (ha pins s σ H _ I h) fun u s1 zz0=>?_))
 obtain ⟨x,H1,I1,r1,q1⟩:=zz0
 refine wpAny_bind (wpAny_standAt (wpAny_pure ?_))
 exact thn (hr pos pins s1 σ H1 _ I1 q1) fun us s2 ⟨xs,H2,I2,r2,q2⟩=>⟨x::xs,H2,I2,.cons r1 r2,q2⟩
variable {g:List Value→List Value→List Value}{gV:List V→List V→List V}
end
structure ar (N P:List Str) (sc:Scope):Prop where
 kind:sc.kind=.function
 co : sc.isCoroutine=false
 gen:sc.isGenerator=false
 nd : N.Nodup
 pre:N.take P.length=P
 par:∀ x∈P,sc.names.lookup x=some .local∨sc.names.lookup x=some .cell
 nofree:∀ y∈sc.names,y.2≠.free
theorem lg {kindOf:Str→Option NameKind}{x:Str}:∀ {binds:List (Str×Value)}{m:Str→Option Value},(∀ v,(x,v) ∉ binds)→bindL kindOf binds m x=m x
 | [],_,_=>rfl
 | (n,v)::r,m,h=>by
  unfold bindL
  rw [lg fun w hw=>h w (Ej _ hw)]
  split
  ·have:x≠n:=by rintro rfl;exact h v Eh
   simp [this]
  ·rfl
theorem lj {kindOf:Str→Option NameKind}{x:Str}:∀ {binds:List (Str×Value)}{m:Str→Option Value},(∀ v,(x,v) ∉ binds)→bindC kindOf binds m x=m x
 | [],_,_=>rfl
 | (n,v)::r,m,h=>by
  unfold bindC
  rw [lj fun w hw=>h w (Ej _ hw)]
  split
  ·rfl
  ·have:x≠n:=by rintro rfl;exact h v Eh
   simp [this]
theorem lh {kindOf:Str→Option NameKind}{x:Str}{v:Value}:∀ {P:List Str}{vs:List Value}{i:Nat}{m:Str→Option Value},P.Nodup→P[i]? = some x→vs[i]? = some v→kindOf x=some .local →
  bindL kindOf (P.zip vs) m x=some v
 | [],_,_,_,_,h,_,_=>by simp at h
 | _::_,[],_,_,_,_,h,_=>by simp at h
 | p::P,w::vs,0,m,nd,h1,h2,hk=>by
  simp at h1 h2;subst h1;subst h2
  show bindL kindOf ((p,w)::P.zip vs) m p=_
  unfold bindL
  rw [lg fun v hv=>(EO.mp nd).1 (FJ hv).1,if_pos hk]
  simp
 | p::P,w::vs,i+1,m,nd,h1,h2,hk=>by
  show bindL kindOf ((p,w)::P.zip vs) m x=_
  unfold bindL
  exact lh (i:=i) (EO.mp nd).2 (by simpa using h1) (by simpa using h2) hk
theorem ll {kindOf:Str→Option NameKind}{x:Str}{v:Value}:∀ {P:List Str}{vs:List Value}{i:Nat}{m:Str→Option Value},P.Nodup→P[i]? = some x→vs[i]? = some v→kindOf x≠some .local →
  bindC kindOf (P.zip vs) m x=some v
 | [],_,_,_,_,h,_,_=>by simp at h
 | _::_,[],_,_,_,_,h,_=>by simp at h
 | p::P,w::vs,0,m,nd,h1,h2,hk=>by
  simp at h1 h2;subst h1;subst h2
  show bindC kindOf ((p,w)::P.zip vs) m p=_
  unfold bindC
  rw [lj fun v hv=>(EO.mp nd).1 (FJ hv).1,if_neg hk]
  simp
 | p::P,w::vs,i+1,m,nd,h1,h2,hk=>by
  show bindC kindOf ((p,w)::P.zip vs) m x=_
  unfold bindC
  exact ll (i:=i) (EO.mp nd).2 (by simpa using h1) (by simpa using h2) hk
noncomputable def start (N:List Str) (vs:List V):St:=vs.map some++Fd (N.length - vs.length) none
noncomputable def oq (CX:CXT) (P:Program) (w:World) (K:PySem.W.Frag) (mg:Str→Option Value) (base:Heap) (N:List Str) (qual:Str) (scope:Scope) (f:Addr) (cd:Value) (A:Around) (outer:List Env) (s:Shared) (H:Hp) (E:XK):Cx where
 prog:=P
 w := w
 K := K
 mg := mg
 base:=base
 A := A.deeper (envOfC qual scope s.heap.objs.size f cd)
 N := N
 s₀ := s
 H₀ := H
 env:=envOfC qual scope s.heap.objs.size f cd
 outer:=outer
 stack:=envOfC qual scope s.heap.objs.size f cd::outer
 ex := []
 calm:=true
 fn := fun _=>true
 pn := []
 xe := fun e s'=>wpAny (model P w) (A.deeper (envOfC qual scope s.heap.objs.size f cd)) (leaving (envOfC qual scope s.heap.objs.size f cd) e) (fun _ s''=>CX outer H s E e s'') (fun e' s''=>CX outer H s E e' s'') s'
theorem jA {sc:Scope}{n:Nat}{x:Str} (h:sc.names.lookup x=some .cell):∃ c,(cellsFrom n sc.names []).lookup x=some c:=by
 have q:=PySem.W.cellsFrom_some sc.names n [] (.inl h)
 exact FP.mp q
theorem kK {CX:CXT}{P:Program}{w:World}{K:PySem.W.Frag}{mg:Str→Option Value}{base:Heap}{N ps:List Str}{qual:Str}{scope:Scope}{f:Addr}{cd:Value}{A:Around}{outer:List Env}{s s1:Shared}{H:Hp}{E:XK}{us:List Value}{vs:List V}
  (S : ar N ps scope) (hd:A.handled=none) (e0:pq P w K mg base A outer s H) (hl:vs.length=ps.length) (r:aO vs us)
  (x : InCallC s s.heap.objs.size (bindL (envOfC qual scope s.heap.objs.size f cd).kindOf (ps.zip us) fun _=>none) (cellsFrom (s.heap.objs.size+1) scope.names []) (bindC (envOfC qual scope s.heap.objs.size f cd).kindOf (ps.zip us) fun _=>none) s1) :
  Inv (oq CX P w K mg base N qual scope f cd A outer s H E) [] (start N vs) H s1:=by
 have hpl:ps.length≤N.length:=by have:=congrArg List.length S.pre;rw[EV] at this;omega
 obtain ⟨h1,tk,rfl,hk⟩:=x.done
 have noA:∀ b:Addr,b ∉ (oq CX P w K mg base N qual scope f cd A outer s H E).ex:=fun b z=>absurd (show b∈([]:List Addr) from z) (by simp)
 refine ⟨⟨e0.mod,S.kind,rfl,rfl,Ek _,fun y z c h1 h2=>?_,fun y hy=>?_,fun y c _ h=>?_,fun _=>hd,Around.frames_deeper e0.frames,.inr ⟨rfl,rfl⟩,fun b z=>absurd z (noA b),e0.bs,e0.bsz,fun b _ _=>noA b,fun b z=>absurd z (noA b),e0.funs,e0.frf,e0.tab⟩,
  rfl,e0.bare,Un.kept hk,⟨_,x.toInCall.ns,fun i y v h1 h2 h3=>?_⟩,fun y c h=>⟨_,x.cell y c h⟩,e0.hok.fresh (Ek _),fun y c h=>?_,fun p hp=>absurd (show p∈([]:List (Addr×Obj)) from hp) (by simp),e0.hok.kept hk,?_⟩
 ·exact name_of_addr x.apart (PySem.mem_of_lookup h1) (PySem.mem_of_lookup h2)
 ·have hy:scope.names.lookup y=some .cell∨scope.names.lookup y=some .free:=hy
  rcases hy with hy|hy
  ·exact jA hy
  ·exact absurd rfl (S.nofree _ (PySem.mem_of_lookup hy))
 ·exact Nat.le_of_lt (x.above y c (PySem.mem_of_lookup h))
 ·have hi:i<vs.length:=by
   unfold start at h2
   by_cases hi:i<vs.length
   ·exact hi
   ·rw [EX (by simpa using hi)] at h2
    rw [List.getElem?_replicate] at h2
    split at h2 <;> cases h2
  have ha:vs[i]? = some v:=by
   unfold start at h2
   rw [Es (by simpa using hi),EM] at h2
   cases e:vs[i]? with
   | none=>rw[e] at h2;cases h2
   | some a=>rw[e] at h2;cases h2;rfl
  obtain ⟨u,hu,rv⟩:=r.get ha
  have hp:ps[i]? = some y:=by
   rw [←S.pre,List.getElem?_take_of_lt (by omega)];exact h1
  have ndP:ps.Nodup:=by rw[←S.pre];exact S.nd.sublist (List.take_sublist _ _)
  refine ⟨u,rv,?_⟩
  rcases S.par y (Fb hp) with k|k
  ·exact .inl ⟨k,lh ndP hp hu k⟩
  ·obtain ⟨c,e⟩:=jA (n:=s.heap.objs.size+1) k
   refine .inr ⟨.inl k,c,e,?_⟩
   have q:=x.cell y c e
   rw [ll ndP hp hu (by show scope.names.lookup y≠_;rw[k];decide)] at q
   exact q
 ·exact e0.hok.fresh (Nat.le_of_lt (x.above y c (PySem.mem_of_lookup h)))
 ·unfold start
  show _=N.length
  rw [Ew,D7,List.length_replicate]
  omega
theorem AH {CX:CXT}{P:Program}{w:World}{K:PySem.W.Frag}{mg:Str→Option Value}{base:Heap}{k:Nat}{f:Addr}{name qual:Str}{params:Arguments}{body:List Stmt}{scope:Scope}{dV kV doc pm cdv ct oc:Value}{an od:Option Addr}
  {osl:Array (Option Value)}{N ps:List Str}{sp:Sp} (lk:K.lookup f=some ⟨oc,od,.func (PySem.W.fnOf name qual params body scope dV kV doc pm an cdv ct),osl⟩) (hcd:PySem.W.codeIn K cdv qual=true) (S:ar N ps scope)
  (len:∀ vs H Q E,sp vs H Q E→vs.length=ps.length)
  (hbody:∀ (A:Around) (outer:List Env) (s:Shared) (H:Hp) (vs:List V) (Q:VK) (E:XK),cY k (A.deeper (envOfC qual scope s.heap.objs.size f cdv))→sp vs H Q E →
   ∃ t,PSs (oq CX P w K mg base N qual scope f cdv A outer s H E) body t∧t { nx:=fun _ H'=>Q .non H',rt:=Q } (start N vs) H) :
  cG P w K mg base CX (k+1) f (PySem.W.fnOf name qual params body scope dV kV doc pm an cdv ct) ps sp:=by
 refine ⟨len,fun A outer s H args us vs Q E hr e0 hb r hsp=>?_⟩
 have hl:=len _ _ _ _ hsp
 have KX:K.In s.heap:=e0.mod.kin.keeps fun b o e=>(e0.bs b o e).1
 have lim:s.heap.NoLimit:=e0.mod.nolimit.keeps fun b o e=>(e0.bs b o e).1
 have hkind:∀ y∈ps.zip us,scope.names.lookup y.1=some .local∨(scope.names.lookup y.1=some .cell∧((cellsFrom (s.heap.objs.size+1) scope.names []).lookup y.1).isSome=true):=fun ⟨n,v⟩ hy=>by
  rcases S.par n (FJ hy).1 with q|q
  ·exact .inl q
  ·exact .inr ⟨q,PySem.W.cellsFrom_some _ _ _ (.inl q)⟩
 refine codeAny_call_function hr.depth (KX _ _ lk) rfl S.co S.gen rfl (PySem.W.codeRec_of KX hcd) (hb _ _ _ _ ?_)
 refine wpAny_newFunctionEnv_cells S.kind hkind fun env he s1 x=>?_
 subst he
 refine ⟨lim.keeps x.toInCall.keep,codeAny_func ?_⟩
 obtain ⟨t,ht,hq⟩:=hbody A outer s H vs Q E (hr.deeper _) hsp
 have I:Inv (oq CX P w K mg base N qual scope f cdv A outer s H E) [] (start N vs) H s1:=kK S hr.hd e0 hl r x
 refine wpAny_mono (ht [] s1 (start N vs) H _ I hq) (fun fl s' hs=>?_) fun e s' hs=>hs
 have fin:∀ {σ':St}{H':Hp}{v:V}{u:Value},Inv (oq CX P w K mg base N qual scope f cdv A outer s H E) [] σ' H' s'→bx v u→Q v H'→CE outer P w H s Q u s' :=
  fun {σ' H' v u} J rv q=>⟨v,H',J.os,J.bare,J.base,J.hok,rv,q⟩
 cases fl with
 | ret u =>
  obtain ⟨v,σ',H',J,rv,q⟩:=hs
  exact fin J rv q
 | next =>
  obtain ⟨σ',H',J,q⟩:=hs
  exact fin (v:=V.non) (u:=Value.none) J rfl q
 | brk =>
  obtain ⟨_,_,_,q⟩:=hs
  exact False.elim q
 | cont =>
  obtain ⟨_,_,_,q⟩:=hs
  exact False.elim q
section
variable {X:Cx}{x:Str}{p pos:Pos}{e:Expr}{es:List Expr}{t:TA}{id T:String}{r:List V→Hp→VK→Prop}
noncomputable def tCB (r:List V→Hp→VK→Prop) (t:TA):TE:=fun σ H Q=>t σ H fun vs H1=>r vs H1 Q
theorem gc (hc:fC X (.builtin id) r) (hg:Gl X x) (hm:X.mg x=none) (hv:bootBuiltins x=some (.builtin id)) (ha:PA X (e::es) t) (hn:x ≠ "__name__" := by decide) (hdb:(x==("__debug__" : Str))=false:=by decide)
  (he:starEach (e::es) X.env=(false,eval e X.env)::starEach es X.env:=by rfl) (hpl:(backTo pos (starEach es X.env)).any (·.1)=false:=by rfl):PE X (.Call (.Name x p) (e::es) [] pos) (tCB r t):=by
 intro pins s σ H Q I h
 refine wpAny_Call_Name_kw (fJ I hg hm hv ?_ hn hdb)
 exact PyProof.Rows.callWith_builtin1 (thn (ha pos pins s σ H _ I h) fun us s1 ⟨vs,H1,I1,r1,q1⟩=>hc pins s1 σ H1 vs us Q I1 r1 q1) he hpl
theorem qG (hc:fC X (.type T) r) (hg:Gl X x) (hm:X.mg x=none) (hv:bootBuiltins x=some (.type T)) (ha:PA X (e::es) t) (hn:x ≠ "__name__" := by decide) (hdb:(x==("__debug__" : Str))=false:=by decide)
  (he:starEach (e::es) X.env=(false,eval e X.env)::starEach es X.env:=by rfl) (hpl:(backTo pos (starEach es X.env)).any (·.1)=false:=by rfl):PE X (.Call (.Name x p) (e::es) [] pos) (tCB r t):=by
 intro pins s σ H Q I h
 refine wpAny_Call_Name_kw (fJ I hg hm hv ?_ hn hdb)
 exact PyProof.Rows.callWith_type1 (thn (ha pos pins s σ H _ I h) fun us s1 ⟨vs,H1,I1,r1,q1⟩=>hc pins s1 σ H1 vs us Q I1 r1 q1) he hpl
end
end _L
namespace HT
open PySem PyProof.Rows
noncomputable def lexLt:List Int→List Int→Bool
 | [],[]=>false
 | [],_::_=>true
 | _::_,[]=>false
 | x::xs,y::ys=>if x=y then lexLt xs ys else decide (x<y)
theorem lexLt_cons (x y:Int) (xs ys:List Int):lexLt (x::xs) (y::ys)=if x=y then lexLt xs ys else decide (x<y):=rfl
theorem lexLt_nil_nil:lexLt [] []=false:=rfl
theorem lexLt_nil_cons (y:Int) (ys:List Int):lexLt [] (y::ys)=true:=rfl
theorem lexLt_cons_nil (x:Int) (xs:List Int):lexLt (x::xs) []=false:=rfl
section
open PySem.SeqAt
open PySem.AutoSeq1 (wpAny_loadPart')
open PySem.MeetsSeq PySem.MeetsSeq2 PySem.MeetsSeq3
end
section
variable {prog:Program}{w:World}{A:Around}{E:Value→Shared→Prop}{s:Shared}
theorem cat_tup {t b:Addr}{vs ws:List Value}{Q:Value→Shared→Prop} (ht:IsTup s.heap t vs.toArray) (hb:IsTup s.heap b ws.toArray) (hv:vs≠[])
  (h1:ws=[]→Q (.ref t) s) (h2:ws≠[]→Q (.ref s.heap.objs.size) { s with heap:=s.heap.push { cls:=.type "tuple",data:=.seq (vs++ws).toArray } })
  (hsz:vs.length+ws.length≤sizeLine):wpAny (model prog w) A (binaryOp .Add (.ref t) (.ref b)) Q E s:=by
 obtain ⟨⟨cls,dd,data,sl⟩,ho,hc,n,hd⟩:=id ht
 obtain ⟨⟨cls2,dd2,data2,sl2⟩,ho2,hc2,n2,hd2⟩:=id hb
 simp only at hc hd hc2 hd2
 subst hc hd hc2 hd2
 have e:vs.toArray++ws.toArray=(vs++ws).toArray:=by simp
 by_cases hw:ws=[]
 ·exact concat_meets ⟨_,ho,rfl⟩ ⟨_,ho2,rfl⟩ noFill_tuple_add seq_tuple_add PySem.F.slot_tuple_add PySem.F.entry_tuple_add (PySem.F.args_tuple_add_2 _ _)
   (tuple_addW1 t b vs.toArray ws.toArray n n2 dd dd2 sl sl2 (by simpa using hv) (by simp[hw])) ⟨ho,ho2,h1 hw⟩
 ·refine concat_meets ⟨_,ho,rfl⟩ ⟨_,ho2,rfl⟩ noFill_tuple_add seq_tuple_add PySem.F.slot_tuple_add PySem.F.entry_tuple_add (PySem.F.args_tuple_add_2 _ _)
   (tuple_addW2 t b vs.toArray ws.toArray n n2 dd dd2 sl sl2 (by simpa using hv) (by simpa using hw) (by rw[El,El];exact hsz)) ⟨ho,ho2,?_⟩
  rw [e]
  exact h2 hw
noncomputable def sIx (n d:Nat):Option Int→Nat
 | none=>d
 | some v=>if v<0 then (v+(n:Int)).toNat else min v.toNat n
theorem sIx_none (n d:Nat):sIx n d none=d:=rfl
theorem sIx_nat (n d k:Nat):sIx n d (some (k:Int))=min k n:=by
 show (if (k:Int)<0 then ((k:Int)+(n:Int)).toNat else min (k:Int).toNat n)=min k n
 rw [if_neg (by omega),EW]
theorem zw (n d:Nat) (hd:d≤n) (o:Option Int):sIx n d o≤n:=by
 cases o with
 | none=>exact hd
 | some v =>
  show (if v<0 then (v+(n:Int)).toNat else min v.toNat n)≤n
  by_cases hv:v<0
  ·rw [if_pos hv];omega
  ·rw [if_neg hv];exact Nat.min_le_right _ _
theorem sA (v:Int) (n d:Nat):(if v<0 then max (v+(n:Int)) 0 else min v (n:Int))=((sIx n d (some v):Nat):Int):=by
 show (if v<0 then max (v+(n:Int)) 0 else min v (n:Int))=(((if v<0 then (v+(n:Int)).toNat else min v.toNat n):Nat):Int)
 by_cases hv:v<0
 ·simp only [if_pos hv];omega
 ·simp only [if_neg hv];omega
theorem pd (lo hi:Option Int) (n:Nat):Builtin.Slice.sliceAdjust lo hi 1 (n:Int)=(((sIx n 0 lo:Nat):Int),((sIx n n hi:Nat):Int)):=by
 have h1:¬((1:Int)<0):=by omega
 unfold Builtin.Slice.sliceAdjust
 simp only [h1,if_false]
 refine Prod.ext ?_ ?_
 ·cases lo with
  | none=>rfl
  | some v=>exact sA v n 0
 ·cases hi with
  | none=>rfl
  | some v=>exact sA v n n
theorem oQ (i j:Nat):Builtin.Slice.slicePlaces (i:Int) (j:Int) 1=j - i:=by
 unfold Builtin.Slice.slicePlaces
 have h1:(1:Int)>0:=by omega
 simp only [h1,if_true,Int.ediv_one]
 split <;> omega
theorem iF {v:Value}{o:Option Int}{Q:Option Int→Shared→Prop} (p:IsPart v o) (h:Q o s):wpAny (model prog w) A (Builtin.Slice.slicePartIndex v) Q E s:=by
 cases p with
 | none=>exact slicePart_none h
 | int i t=>exact slicePart_int h
theorem fT {sl:Addr}{vl vu:Value}{lo hi:Option Int}{n:Nat}{Q:Int×Int×Nat→Shared→Prop} (hs:s.heap.IsSliceOf sl vl vu .none) (pl:IsPart vl lo) (pu:IsPart vu hi)
  (h : Q (((sIx n 0 lo:Nat):Int),1,sIx n n hi - sIx n 0 lo) s):wpAny (model prog w) A (Builtin.Slice.sliceApplied (.ref sl) (pure (n:Int))) Q E s:=by
 obtain ⟨os,hos,hcs,hds⟩:=id hs
 unfold Builtin.Slice.sliceApplied Builtin.Slice.sliceFields
 refine wpAny_bind (wpAny_bind (wpAny_field hos hds (x:=vl) rfl (wpAny_bind (wpAny_field hos hds (x:=vu) rfl (wpAny_bind (wpAny_field hos hds (x:=.none) rfl (wpAny_pure ?_)))))))
 refine wpAny_bind (slicePart_none ?_)
 show wpAny _ _ (if ((1:Int)==0)=true then _ else _) _ _ s
 rw [if_neg (by decide)]
 refine wpAny_bind (iF pl (wpAny_bind (iF pu (wpAny_bind (wpAny_pure ?_)))))
 show wpAny _ _ (match Builtin.Slice.sliceAdjust lo hi 1 (n:Int) with|(lo,hi)=>pure (lo,(1:Int),Builtin.Slice.slicePlaces lo hi 1)) _ _ s
 rw [pd lo hi n]
 show wpAny _ _ (pure (((sIx n 0 lo:Nat):Int),(1:Int),Builtin.Slice.slicePlaces ((sIx n 0 lo:Nat):Int) ((sIx n n hi:Nat):Int) 1)) _ _ s
 rw [oQ]
 exact wpAny_pure h
theorem tU (xs:Array Value) (i k:Nat):((List.range k).filterMap fun (m:Nat)=>xs[((i:Int)+(m:Int)*1).toNat]?).toArray=((xs.toList.drop i).take k).toArray:=by
 have e:(fun (m:Nat)=>xs[((i:Int)+(m:Int)*1).toNat]?)=fun m=>xs[i+m]?:=by
  funext m
  have:((i:Int)+(m:Int)*1).toNat=i+m:=by omega
  rw [this]
 rw [e]
 have:=pick_run xs i k
 rw [List.filterMap_map] at this
 have e2:((fun x=>xs[x]?) ∘ fun x=>i+x)=fun m=>xs[i+m]?:=rfl
 rw [e2] at this
 rw [this]
theorem getItem_tuple_cut {t sl:Addr}{items:Array Value}{vl vu:Value}{lo hi:Option Int}{Q:Value→Shared→Prop} (ht:IsTup s.heap t items) (hs:s.heap.IsSliceOf sl vl vu .none) (pl:IsPart vl lo) (pu:IsPart vu hi)
  (hw:¬(sIx items.size 0 lo=0∧sIx items.size items.size hi=items.size))
  (h : Q (.ref s.heap.objs.size) { s with heap:=s.heap.push { cls:=.type "tuple",data:=.seq ((items.toList.drop (sIx items.size 0 lo)).take (sIx items.size items.size hi - sIx items.size 0 lo)).toArray } })
  (hsz:items.size≤sizeLine):wpAny (model prog w) A (getItem (.ref t) (.ref sl)) Q E s:=by
 have htake:sizeOk (.seq ((items.toList.drop (sIx items.size 0 lo)).take (sIx items.size items.size hi - sIx items.size 0 lo)).toArray):=by
  show ((items.toList.drop (sIx items.size 0 lo)).take (sIx items.size items.size hi - sIx items.size 0 lo)).toArray.size≤sizeLine
  rw [El,EV,FH,Array.length_toList]
  omega
 have hj:sIx items.size items.size hi≤items.size:=zw _ _ (Ek _) hi
 obtain ⟨os,hos,hcs,hds⟩:=id hs
 have hTs:s.TypeIs (.ref sl) "slice" := ⟨os,hos,hcs⟩
 unfold getItem
 try with_reducible refine wpAny_holding ?_
 first|refine wpAny_bind (wpAny_pure ?_)|skip
 refine wpAny_bind (wpAny_sequenceKey ht.typeIs (by decide) ?_)
 refine wpAny_bind (wpAny_callSpecial?_slot (name:=Str.ofString "__getitem__") ht.typeIs PyProof.Rows.slot_tuple_getitem
  (wpAny_call_entry PyProof.Rows.slot_tuple_getitem ht.typeIs entry_tuple_getitem ?_ (args_tuple_getitem _ _)))
 show wpAny _ _ (Builtin.Tuple.tupleItemsOf (.ref t) >>= _) _ _ s
 refine wpAny_bind (tupleItemsOf_ ht ?_)
 refine wpAny_bind (wpAny_typeOf hTs ?_)
 rw [if_pos (by decide)]
 refine wpAny_bind (fT hs pl pu ?_)
 have hno:¬((((sIx items.size 0 lo:Nat):Int)==0&&(1:Int)==1&&(sIx items.size items.size hi - sIx items.size 0 lo)==items.size)=true):=by
  intro q
  rw [ER,ER] at q
  have q1:((sIx items.size 0 lo:Nat):Int)=0:=eq_of_beq q.1.1
  have q2:sIx items.size items.size hi - sIx items.size 0 lo=items.size:=eq_of_beq q.2
  exact hw ⟨by omega,by omega⟩
 show wpAny _ _ (if (((sIx items.size 0 lo:Nat):Int)==0&&(1:Int)==1&&(sIx items.size items.size hi - sIx items.size 0 lo)==items.size)=true then _ else _) _ _ s
 rw [if_neg hno,tU]
 first
  | exact wpAny_bind (m:=Builtin.Tuple.tupleExact _) (wpAny_newObj_type (wpAny_pure ⟨_,rfl,wpAny_pure h⟩) htake)
  | exact wpAny_bind (m:=Builtin.Tuple.tupleExact _) (wpAny_newObj_type (wpAny_bind (wpAny_pure (wpAny_pure ⟨_,rfl,wpAny_pure h⟩))) htake)
  | exact wpAny_bind (wpAny_bind (m:=Builtin.Tuple.tupleExact _) (wpAny_newObj_type (wpAny_pure (wpAny_pure ⟨_,rfl,wpAny_pure h⟩)) htake))
  | exact wpAny_bind (wpAny_bind (m:=Builtin.Tuple.tupleExact _) (wpAny_newObj_type (wpAny_pure ⟨_,rfl,wpAny_pure h⟩) htake))
end
end HT
namespace _L
open PySem PySem.Spec PyProof.Rows
noncomputable abbrev TO:=St→Hp→(Option Int→Hp→Prop)→Prop
noncomputable def PO (X:Cx) (e:Option Expr) (t:TO):Prop :=
 ∀ (pins:List (Addr×Obj)) (s:Shared) (σ:St) (H:Hp) (Q:Option Int→Hp→Prop),Inv X pins σ H s→t σ H Q →
  wpAny (model X.prog X.w) X.A (evalPart e X.env) (fun u s'=>∃ o H',Inv X pins σ H' s'∧IsPart u o∧Q o H') X.xe s
noncomputable def wY:TO:=fun _ H Q=>Q none H
noncomputable def BD (t:TE):TO:=fun σ H Q=>t σ H fun x H1=>∃ i,x=.int i∧Q (some i) H1
section
variable {X:Cx}{e:Expr}{te:TE}{lo hi:Option Expr}{tl th:TO}{pos p2:Pos}
theorem xz:PO X none wY:=by
 intro pins s σ H Q I h
 rw [evalPart_none]
 exact wpAny_pure ⟨none,H,I,.none,h⟩
theorem xy (h:PE X e te):PO X (some e) (BD te):=by
 intro pins s σ H Q I hw
 rw [evalPart_some]
 refine thn (h pins s σ H _ I hw) fun u s1 zz1=>?_
 obtain ⟨x,H1,I1,r1,q1⟩:=zz1
 obtain ⟨i,rfl,q⟩:=q1
 obtain ⟨t,rfl⟩:=r1
 exact ⟨some i,H1,I1,.int i t,q⟩
noncomputable def SlR (X:Cx) (r:V→Option Int→Option Int→Hp→VK→Prop):Prop :=
 ∀ (pins:List (Addr×Obj)) (s:Shared) (σ:St) (H:Hp) (x:V) (v vl vu:Value) (lo hi:Option Int) (sl:Addr) (Q:VK),Inv X pins σ H s→bx x v→s.heap.IsSliceOf sl vl vu .none→IsPart vl lo→IsPart vu hi→r x lo hi H Q →
  ∃ T id,typeLookup (.type T) "__getitem__" = pure (some (.builtin id))∧s.TypeIs v T∧wpAny (model X.prog X.w) X.A (getItem v (.ref sl)) (EP X pins σ Q) X.xe s
noncomputable def tSl (r:V→Option Int→Option Int→Hp→VK→Prop) (te:TE) (tl th:TO):TE:=fun σ H Q=>te σ H fun x H1=>tl σ H1 fun l H2=>th σ H2 fun u H3=>r x l u H3 Q
theorem nw {r:V→Option Int→Option Int→Hp→VK→Prop} (hr:SlR X r) (he:PE X e te) (hl:PO X lo tl) (hu:PO X hi th):PE X (.Subscript e (.Slice lo hi none p2) pos) (tSl r te tl th):=by
 intro pins s σ H Q I h
 refine Subscript_ (thn (he pins s σ H _ I h) fun v s1 zz2=>?_)
 obtain ⟨x,H1,I1,r1,q1⟩:=zz2
 refine wpAny_Slice (thn (hl pins s1 σ H1 _ I1 q1) fun vl s2 zz3=>?_)
 obtain ⟨l,H2,I2,pl,q2⟩:=zz3
 refine thn (hu pins s2 σ H2 _ I2 q2) fun vu s3 zz4=>?_
 obtain ⟨u,H3,I3,pu,q3⟩:=zz4
 rw [evalPart_none]
 refine wpAny_pure ?_
 have I4:Inv X pins σ H3 { s3 with heap:=s3.heap.push { cls:=.type "slice",data:=.fields #[vl,vu,.none] } }:=I3.kept (t':=s3.toks) fun b ob q=>Ee _ q
 obtain ⟨T,id,hT,ht,hg⟩:=hr pins { s3 with heap:=s3.heap.push { cls:=.type "slice",data:=.fields #[vl,vu,.none] } } σ H3 x v vl vu l u s3.heap.objs.size Q I4 r1 (Heap.IsSliceOf.new ..) pl pu q3
 show wpAny (model X.prog X.w) X.A (subscriptTail e (.Slice lo hi none p2) v (.ref s3.heap.objs.size)) (EP X pins σ Q) X.xe { s3 with heap:=s3.heap.push { cls:=.type "slice",data:=.fields #[vl,vu,.none] } }
 exact tail_any (ops:=[.ref s3.heap.objs.size,v]) ht hT hg (by with_unfolding_all rfl)
noncomputable def wA (xs:List V) (lo hi:Option Int):List V:=(xs.drop (HT.sIx xs.length 0 lo)).take (HT.sIx xs.length xs.length hi - HT.sIx xs.length 0 lo)
theorem gU (xs:List V) (lo hi:Option Int):(wA xs lo hi).length≤xs.length:=by
 unfold wA
 rw [EV,FH]
 omega
noncomputable def CZ (K:PySem.W.Frag):V→Option Int→Option Int→Hp→VK→Prop:=fun x lo hi H Q=>∃ a xs,x=.ref a∧SqT K H a xs ∧
 ¬ (HT.sIx xs.length 0 lo=0∧HT.sIx xs.length xs.length hi=xs.length)∧∀ p,H p=none→Q (.ref p) (upd H p (.tup (wA xs lo hi)))
theorem zv:SlR X (CZ X.K):=by
 intro pins s σ H x v vl vu lo hi sl Q I rx hs pl pu h
 obtain ⟨a,xs,rfl,hx,hw,q⟩:=h
 cases rx
 obtain ⟨its,r,ht,hz⟩:=I.tuple hx
 have hlen:its.toArray.size=xs.length:=by rw[El];exact r.length.symm
 refine ⟨"tuple",_,PyProof.Rows.slot_tuple_getitem.lookup,ht.typeIs,?_⟩
 refine HT.getItem_tuple_cut ht hs pl pu (by rw[hlen];exact hw) ?_ (by rw[hlen];exact hz)
 rw [hlen]
 refine ⟨.ref s.heap.objs.size,_,I.laid (t':=s.toks) (o:=.tup (wA xs lo hi)) (fun b ob q=>Ee _ q) (Ek _) ?_,rfl,q _ (I.hok.fresh (Ek _))⟩
 exact ⟨Eg (gU xs lo hi) hz,_,(r.drop (HT.sIx xs.length 0 lo)).take (HT.sIx xs.length xs.length hi - HT.sIx xs.length 0 lo),sQ.new _ _⟩
noncomputable def BX (K:PySem.W.Frag):R2:=fun x y H Q=>∃ a b xs ys,x=.ref a∧y=.ref b∧SqT K H a xs∧SqT K H b ys∧xs≠[]∧xs.length+ys.length≤sizeLine ∧
 (ys=[]→Q (.ref a) H)∧(ys≠[]→∀ p,H p=none→Q (.ref p) (upd H p (.tup (xs++ys))))
theorem aO.nil_iff {xs:List V}{us:List Value} (r:aO xs us):us=[]↔xs=[]:=by
 cases r with
 | nil=>simp
 | cons _ _=>simp
theorem xU:OpR X (binaryOp .Add) (BX X.K):=by
 intro pins s σ H x y v u Q I rx ry h
 obtain ⟨a,b,xs,ys,rfl,rfl,ha,hb,hx,hz,q1,q2⟩:=h
 cases rx
 cases ry
 obtain ⟨its,r1,p1,_⟩:=I.tuple ha
 obtain ⟨its2,r2,p2,_⟩:=I.tuple hb
 refine HT.cat_tup p1 p2 (fun z=>hx (r1.nil_iff.mp z)) (fun z=>⟨.ref a,H,I,rfl,q1 (r2.nil_iff.mp z)⟩) (fun z=>?_) (by rw[←r1.length,←r2.length];exact hz)
 refine ⟨.ref s.heap.objs.size,_,I.laid (t':=s.toks) (o:=.tup (xs++ys)) (fun b ob q=>Ee _ q) (Ek _) ?_,rfl,q2 (fun w=>z (r2.nil_iff.mpr w)) _ (I.hok.fresh (Ek _))⟩
 exact ⟨by rw[Ew];exact hz,_,r1.append r2,sQ.new _ _⟩
end
noncomputable def ixN (n:Nat) (i:Int):Option Nat:=if 0≤i then (if i<n then some i.toNat else none) else if -(n:Int)≤i then some (i+n).toNat else none
noncomputable def atI {α:Type} (xs:List α) (i:Int):Option α:=(ixN xs.length i).bind fun j=>xs[j]?
theorem rA {n:Nat}{i:Int}{j:Nat} (h:ixN n i=some j):seqIndex? i n=some j∧j<n∧-(n:Int)≤i∧i<n:=by
 unfold ixN at h
 by_cases h0:0≤i
 ·rw [if_pos h0] at h
  by_cases h1:i<n
  ·rw [if_pos h1] at h
   have e:i.toNat=j:=Option.some.inj h
   exact ⟨by rw[seqIndex_of h0 h1,e],by omega,by omega,h1⟩
  ·rw [if_neg h1] at h;cases h
 ·rw [if_neg h0] at h
  by_cases h1:-(n:Int)≤i
  ·rw [if_pos h1] at h
   have e:(i+n).toNat=j:=Option.some.inj h
   exact ⟨by rw[seqIndex_neg (by omega) h1,e],by omega,h1,by omega⟩
  ·rw [if_neg h1] at h;cases h
theorem sM {α:Type}{xs:List α}{i:Int}{v:α} (h:atI xs i=some v):∃ j,seqIndex? i xs.length=some j∧xs[j]? = some v∧j<xs.length∧-(xs.length:Int)≤i∧i<xs.length:=by
 unfold atI at h
 cases e:ixN xs.length i with
 | none=>rw[e] at h;cases h
 | some j =>
  rw [e] at h
  obtain ⟨h1,h2,h3,h4⟩:=rA e
  exact ⟨j,h1,h,h2,h3,h4⟩
theorem dm {α:Type}{xs:List α}{j:Nat}{v:α} (h:xs[j]? = some v):atI xs (j:Int)=some v:=by
 have hj:j<xs.length:=(Ef.mp h).1
 have e:ixN xs.length (j:Int)=some j:=by
  unfold ixN
  rw [if_pos (by omega),if_pos (by omega)];simp
 unfold atI;rw[e];exact h
noncomputable def fA (b:Expr):Prop:=∀ o i,subscripted b false o i=operate [o,i] (getItem o i)
noncomputable def IxR (X:Cx) (r:R2):Prop :=
 ∀ (value slice:Expr) (pins:List (Addr×Obj)) (s:Shared) (σ:St) (H:Hp) (x y:V) (v u:Value) (Q:VK),Inv X pins σ H s→bx x v→bx y u→r x y H Q →
  subscripted slice false v u=operate [v,u] (getItem v u)→wpAny (model X.prog X.w) X.A (subscriptTail value slice v u) (EP X pins σ Q) X.xe s
noncomputable def MtR (X:Cx) (id:String) (r:V→List V→Hp→VK→Prop):Prop :=
 ∀ (pins:List (Addr×Obj)) (s:Shared) (σ:St) (H:Hp) (x:V) (xs:List V) (v:Value) (us:List Value) (Q:VK),Inv X pins σ H s→bx x v→aO xs us→r x xs H Q →
  wpAny (model X.prog X.w) X.A (call (.builtin id) (v::us)) (EP X pins σ Q) X.xe s
section
variable {X:Cx}{a b:Expr}{ta tb:TE}{pos:Pos}
theorem IxR.or {r r':R2} (h:IxR X r) (h':IxR X r'):IxR X (fun x y H Q=>r x y H Q∨r' x y H Q):=by
 intro value slice pins s σ H x y v u Q I rx ry q hs
 rcases q with q|q
 ·exact h value slice pins s σ H x y v u Q I rx ry q hs
 ·exact h' value slice pins s σ H x y v u Q I rx ry q hs
theorem qF {r:R2} (hr:IxR X r) (ha:PE X a ta) (hb:PE X b tb) (hs:fA b):PE X (.Subscript a b pos) (tOp r ta tb):=by
 intro pins s σ H Q I h
 exact Subscript_ (CN ha hb I h fun v u s2 x y H2 I2 rx ry q=>hr a b pins s2 σ H2 x y v u Q I2 rx ry q (hs _ _))
noncomputable def C2 (K:PySem.W.Frag):R2:=fun x y H Q=>∃ p xs i v,x=.ref p∧y=.int i∧SqL K H p xs∧atI xs i=some v∧Q v H
noncomputable def C1 (K:PySem.W.Frag):R2:=fun x y H Q=>∃ p xs i v,x=.ref p∧y=.int i∧SqT K H p xs∧atI xs i=some v∧Q v H
theorem ye:IxR X (C2 X.K):=by
 intro value slice pins s σ H x y v u Q I rx ry h hs
 obtain ⟨p,xs,i,z,rfl,rfl,hq,he,q⟩:=h
 cases rx
 obtain ⟨t,rfl⟩:=ry
 obtain ⟨its,r,pl,hz⟩:=I.list hq
 obtain ⟨j,h1,h2,h3,h4,h5⟩:=sM he
 obtain ⟨w,ew,rw'⟩:=r.get h2
 have hl:=r.length
 have hn:=ko
 have fin:EP X pins σ Q w s:=⟨z,H,I,rw',q⟩
 by_cases h0:0≤i
 ·have hj:i.toNat=j:=by
   rw [seqIndex_of h0 h5] at h1
   exact Option.some.inj h1
  exact item_listR pl.isList h0 (by omega) (by rw[hj];simpa using ew) fin hs
 ·have hj:(i+(its.toArray.size:Int)).toNat=j:=by
   rw [seqIndex_neg (by omega) h4] at h1
   rw [El,←hl]
   exact Option.some.inj h1
  exact subscriptTail_builtinR (x:=w) pl.isList.typeIs slot_list_getitem.lookup
   (wpAny_getItem_list_neg (Q:=fun r s'=>r=w∧EP X pins σ Q r s') pl.isList (by omega) (by rw[El] <;> omega) (by omega) (by rw[hj];simpa using ew) ⟨rfl,fin⟩) hs
theorem AB:IxR X (C1 X.K):=by
 intro value slice pins s σ H x y v u Q I rx ry h hs
 obtain ⟨p,xs,i,z,rfl,rfl,hq,he,q⟩:=h
 cases rx
 obtain ⟨t,rfl⟩:=ry
 obtain ⟨its,r,pl,hz⟩:=I.tuple hq
 obtain ⟨j,h1,h2,h3,h4,h5⟩:=sM he
 obtain ⟨w,ew,rw'⟩:=r.get h2
 have hl:=r.length
 have hn:=ko
 have fin:EP X pins σ Q w s:=⟨z,H,I,rw',q⟩
 exact subscriptTail_builtinR (x:=w) pl.typeIs slot_tuple_getitem.lookup
  (getItem_tuple (j:=j) (Q:=fun r s'=>r=w∧EP X pins σ Q r s') pl (by omega) (by omega) (by rw[El,←hl];exact h1) (by simpa using ew) ⟨rfl,fin⟩) hs
theorem oU (its:List Value) (n j:Nat) (u:Value):Obj.mapSeq (·.setIfInBounds j u) { cls:=.type "list",data:=.seq its.toArray n }={ cls:=.type "list",data:=.seq (its.set j u).toArray n }:=by
 simp [Obj.mapSeq]
theorem Inv.lst {pins:List (Addr×Obj)}{σ:St}{H:Hp}{s:Shared}{p:Addr}{xs:List V} (I:Inv X pins σ H s) (h:H p=some (.lst xs)) :
  ∃ (its:List Value) (n:Nat),aO xs its∧s.heap.get? p=some { cls:=.type "list",data:=.seq its.toArray n }∧xs.length≤sizeLine:=by
 obtain ⟨z,its,n,r,e⟩:=I.hok p _ h
 exact ⟨its,n,r,e,z⟩
theorem Inv.lstUpd {pins:List (Addr×Obj)}{σ:St}{H:Hp}{s:Shared}{p:Addr}{xs ys:List V}{its its':List Value}{n n':Nat}{f:Obj→Obj} (I:Inv X pins σ H s) (h:H p=some (.lst xs))
  (ho:s.heap.get? p=some { cls:=.type "list",data:=.seq its.toArray n }) (hf:f { cls:=.type "list",data:=.seq its.toArray n }={ cls:=.type "list",data:=.seq its'.toArray n' }) (r:aO ys its') (hz:ys.length≤sizeLine) (t:Nat) :
  Inv X pins σ (upd H p (.lst ys)) { s with heap:=s.heap.update p f,toks:=t }:=by
 have e:(s.heap.update p f).get? p=some { cls:=.type "list",data:=.seq its'.toArray n' }:=by
  rw [Fh f ho (by rw[hf] <;> rfl),hf]
 refine I.write (x:=p) (e:=p) (by rw[h];trivial) (.inl rfl) (fun b u hb q=>(Fo _ _ (Ne.symm hb)).trans q) ⟨_,e⟩ ?_
 exact ⟨hz,its',n',r,e⟩
noncomputable def BP:V→V→V→Hp→(Hp→Prop)→Prop:=fun o i v H Q=>∃ p xs k j,o=.ref p∧i=.int k∧H p=some (.lst xs)∧ixN xs.length k=some j∧Q (upd H p (.lst (xs.set j v)))
theorem tJ:CO X BP:=by
 intro pins s σ H o i v ov iv u Q I ro ri rv h
 obtain ⟨p,xs,k,j,rfl,rfl,hp,hj,q⟩:=h
 cases ro
 obtain ⟨t,rfl⟩:=ri
 obtain ⟨its,n,r,ho,hz⟩:=I.lst hp
 obtain ⟨h1,h2,h3,h4⟩:=rA hj
 have hl:=r.length
 have hn:=ko
 have I':Inv X pins σ (upd H p (.lst (xs.set j v))) { s with heap:=s.heap.update p (Obj.mapSeq (·.setIfInBounds j u)) } :=
  I.lstUpd hp ho (oU its n j u) (r.set rv j) (by rw[FC];exact hz) s.toks
 by_cases h0:0≤k
 ·have hk:k.toNat=j:=by
   rw [seqIndex_of h0 h4] at h1
   exact Option.some.inj h1
  exact PySem.W.ki_setAt ho h0 (by omega) (by rw[El,←hl];exact h4) (by rw[hk];exact⟨_,I',q⟩)
 ·have hk:(k+(its.toArray.size:Int)).toNat=j:=by
   rw [seqIndex_neg (by omega) h3] at h1
   rw [El,←hl]
   exact Option.some.inj h1
  exact PySem.W.ki_setBack ho (by omega) (by rw[El,←hl];exact h3) (by omega) (by rw[hk];exact⟨_,I',q⟩)
theorem jY (lo hi:Option Int) (n:Nat):(sliceBounds lo hi none n).1=((HT.sIx n 0 lo:Nat):Int)∧(sliceBounds lo hi none n).2.1=((HT.sIx n n hi:Nat):Int)∧(sliceBounds lo hi none n).2.2=1:=by
 refine ⟨?_,?_,rfl⟩
 ·cases lo with
  | none=>simp[sliceBounds,HT.sIx]
  | some i =>
   simp only [sliceBounds,HT.sIx,Option.getD_none,show (1:Int)>0 by decide,if_true]
   by_cases h:i<0
   ·simp only [h,if_true] <;> omega
   ·simp only [h,if_false] <;> omega
 ·cases hi with
  | none=>simp[sliceBounds,HT.sIx]
  | some i =>
   simp only [sliceBounds,HT.sIx,Option.getD_none,show (1:Int)>0 by decide,if_true]
   by_cases h:i<0
   ·simp only [h,if_true] <;> omega
   ·simp only [h,if_false] <;> omega
theorem i6 (its:List Value) (lo hi:Option Int):slicePick its.toArray lo hi none=((its.drop (HT.sIx its.length 0 lo)).take (HT.sIx its.length its.length hi - HT.sIx its.length 0 lo)).toArray:=by
 obtain ⟨h1,h2,h3⟩:=jY lo hi its.toArray.size
 unfold slicePick
 rw [h1,h2,h3]
 simp only [sliceRange_one,pick_run,El] <;> rfl
noncomputable def C0 (K:PySem.W.Frag):V→Option Int→Option Int→Hp→VK→Prop:=fun x lo hi H Q=>∃ a xs,x=.ref a∧SqL K H a xs∧∀ p,H p=none→Q (.ref p) (upd H p (.lst (wA xs lo hi)))
theorem w9:SlR X (C0 X.K):=by
 intro pins s σ H x v vl vu lo hi sl Q I rx hs pl pu h
 obtain ⟨a,xs,rfl,hx,q⟩:=h
 cases rx
 obtain ⟨its,r,ht,hz⟩:=I.list hx
 have hlen:=r.length
 refine ⟨"list",_,slot_list_getitem.lookup,ht.isList.typeIs,?_⟩
 refine wpAny_getItem_list_slice ht.isList hs pl pu .none (by simp) ?_ (by rw[El] <;> omega)
 rw [i6,←hlen]
 refine ⟨.ref s.heap.objs.size,_,I.laid (t':=s.toks) (o:=.lst (wA xs lo hi)) (fun b ob q=>Ee _ q) (Ek _) ?_,rfl,q _ (I.hok.fresh (Ek _))⟩
 exact ⟨Eg (gU xs lo hi) hz,_,0,(r.drop (HT.sIx xs.length 0 lo)).take (HT.sIx xs.length xs.length hi - HT.sIx xs.length 0 lo),Er _ rfl⟩
noncomputable def js:V→Bool
 | .non=>true
 | .bl _=>true
 | .int _=>true
 | .str _=>true
 | _=>false
noncomputable def eqV:V→V→Bool
 | .non,.non=>true
 | .bl a,.bl b=>a==b
 | .bl a,.int b=>(if a then 1 else 0)==b
 | .int a,.bl b=>a==(if b then 1 else 0)
 | .int a,.int b=>a==b
 | .str a,.str b=>a==b
 | _,_=>false
theorem AQ {A:Around}{s:Shared}{y x:V}{u v:Value} (ry:bx y u) (rx:bx x v) (fy:js y=true) (fx:js x=true):SeqAt.EqAt A s u v (eqV y x):=by
 cases y with
 | non =>
  cases ry
  cases x with
  | non=>cases rx;exact SeqAt.EqAt.same _
  | bl b=>cases rx;exact SeqAt.EqAt.none_bool b
  | int b=>obtain⟨t,rfl⟩:=rx;exact SeqAt.EqAt.none_int b t
  | str b=>obtain⟨t,rfl⟩:=rx;exact SeqAt.EqAt.none_str b t
  | _=>exact absurd (show false=true from fx) Et
 | bl a =>
  cases ry
  cases x with
  | non=>cases rx;exact SeqAt.EqAt.bool_none a
  | bl b=>cases rx;exact SeqAt.EqAt.bool_bool a b
  | int b=>obtain⟨t,rfl⟩:=rx;exact SeqAt.EqAt.bool_int a b t
  | str b=>obtain⟨t,rfl⟩:=rx;exact SeqAt.EqAt.bool_str a b t
  | _=>exact absurd (show false=true from fx) Et
 | int a =>
  obtain ⟨t',rfl⟩:=ry
  cases x with
  | non=>cases rx;exact SeqAt.EqAt.int_none a t'
  | bl b=>cases rx;exact SeqAt.EqAt.int_bool a t' b
  | int b=>obtain⟨t,rfl⟩:=rx;exact SeqAt.EqAt.int_int a t' b t
  | str b=>obtain⟨t,rfl⟩:=rx;exact SeqAt.EqAt.int_str a t' b t
  | _=>exact absurd (show false=true from fx) Et
 | str a =>
  obtain ⟨t',rfl⟩:=ry
  cases x with
  | non=>cases rx;exact SeqAt.EqAt.str_none a t'
  | bl b=>cases rx;exact SeqAt.EqAt.str_bool a t' b
  | int b=>obtain⟨t,rfl⟩:=rx;exact SeqAt.EqAt.str_int a t' b t
  | str b=>obtain⟨t,rfl⟩:=rx;exact SeqAt.EqAt.str_str a t' b t
  | _=>exact absurd (show false=true from fx) Et
 | _=>exact absurd (show false=true from fy) Et
noncomputable def eqU (x:V) (u:Value):Bool:=match u with
 | .none=>eqV .non x
 | .bool b=>eqV (.bl b) x
 | .int i _=>eqV (.int i) x
 | .str z _=>eqV (.str z) x
 | _=>false
theorem wu {x y:V}{u:Value} (r:bx y u) (f:js y=true):eqU x u=eqV y x:=by
 cases y with
 | non=>cases r;rfl
 | bl b=>cases r;rfl
 | int i=>obtain⟨t,rfl⟩:=r;rfl
 | str z=>obtain⟨t,rfl⟩:=r;rfl
 | _=>exact absurd (show false=true from f) Et
theorem hG {x:V}:∀ {xs:List V}{us:List Value},aO xs us→xs.all js=true→us.any (eqU x)=xs.any fun y=>eqV y x
 | _,_,.nil,_=>rfl
 | y::xs,u::us,.cons r t,f=>by
  rw [List.all_cons,ER] at f
  rw [List.any_cons,List.any_cons,wu r f.1,hG t f.2]
theorem eN {A:Around}{s:Shared}{x:V}{v:Value} (rx:bx x v) (fx:js x=true):∀ {xs:List V}{us:List Value},aO xs us→xs.all js=true→∀ u∈us,SeqAt.EqAt A s u v (eqU x u)
 | _,_,.nil,_=>fun u hu=>by cases hu
 | y::xs,u::us,.cons r t,f=>fun u' hu=>by
  rw [List.all_cons,ER] at f
  rcases En.mp hu with rfl|hu
  ·rw [wu r f.1];exact AQ r rx f.1 fx
  ·exact eN rx fx t f.2 u' hu
noncomputable def inV (x:V) (xs:List V):Bool:=xs.any fun y=>eqV y x
noncomputable def rIn (K:PySem.W.Frag) (neg:Bool):R2:=fun x y H Q=>∃ p xs,y=.ref p∧(SqL K H p xs∨SqT K H p xs)∧js x=true∧xs.all js=true∧Q (.bl (if neg then !inV x xs else inV x xs)) H
theorem qQ:OpR X (compareOp .In) (rIn X.K false):=by
 intro pins s σ H x y v u Q I rx ry h
 obtain ⟨p,xs,rfl,hq,fx,fs,q⟩:=h
 cases ry
 rcases hq with hq|hq
 ·obtain ⟨its,r,pl,hz⟩:=I.list hq
  refine SeqAt.in_listAt (eqU x) pl.isList (fun w hw=>eN rx fx r fs w (by simpa using hw)) ⟨.bl _,H,I,rfl,?_⟩
  rw [show its.toArray.any (eqU x)=its.any (eqU x) by simp,hG r fs]
  exact q
 ·obtain ⟨its,r,pl,hz⟩:=I.tuple hq
  refine SeqAt.in_tupleAt (eqU x) pl (fun w hw=>eN rx fx r fs w (by simpa using hw)) ⟨.bl _,H,I,rfl,?_⟩
  rw [show its.toArray.any (eqU x)=its.any (eqU x) by simp,hG r fs]
  exact q
theorem j9:OpR X (compareOp .NotIn) (rIn X.K true):=by
 intro pins s σ H x y v u Q I rx ry h
 obtain ⟨p,xs,rfl,hq,fx,fs,q⟩:=h
 cases ry
 rcases hq with hq|hq
 ·obtain ⟨its,r,pl,hz⟩:=I.list hq
  refine SeqAt.notIn_listAt (eqU x) pl.isList (fun w hw=>eN rx fx r fs w (by simpa using hw)) ⟨.bl _,H,I,rfl,?_⟩
  rw [show its.toArray.any (eqU x)=its.any (eqU x) by simp,hG r fs]
  exact q
 ·obtain ⟨its,r,pl,hz⟩:=I.tuple hq
  refine SeqAt.notIn_tupleAt (eqU x) pl (fun w hw=>eN rx fx r fs w (by simpa using hw)) ⟨.bl _,H,I,rfl,?_⟩
  rw [show its.toArray.any (eqU x)=its.any (eqU x) by simp,hG r fs]
  exact q
theorem lb:fC X (.builtin "len") (fun xs H Q=>∃ p ys,xs=[.ref p]∧(SqL X.K H p ys∨SqT X.K H p ys)∧Q (.int ys.length) H):=by
 intro pins s σ H xs us Q I r h
 obtain ⟨p,ys,rfl,hq,q⟩:=h
 obtain ⟨u,rfl,rx⟩:=iW r
 cases rx
 have hn:=ko
 rcases hq with hq|hq
 ·obtain ⟨its,r',pl,hz⟩:=I.list hq
  have hlen:=r'.length
  exact Calls.call_len_list pl.isList (by simp only [El] <;> omega) ⟨.int ys.length,H,I.tok _,⟨s.toks+1,by rw[El,hlen]⟩,q⟩
 ·obtain ⟨its,r',pl,hz⟩:=I.tuple hq
  have hlen:=r'.length
  exact len_tuple pl (by simp only [El] <;> omega) ⟨.int ys.length,H,I.tok _,⟨s.toks+1,by rw[El,hlen]⟩,q⟩
theorem jB:fC X (.type "tuple") (fun xs H Q=>∃ p ys,xs=[.ref p]∧((SqL X.K H p ys∧∀ l,H l=none→Q (.ref l) (upd H l (.tup ys)))∨(SqT X.K H p ys∧Q (.ref p) H))):=by
 intro pins s σ H xs us Q I r h
 obtain ⟨p,ys,rfl,h⟩:=h
 obtain ⟨u,rfl,rx⟩:=iW r
 cases rx
 rcases h with ⟨hq,q⟩|⟨hq,q⟩
 ·obtain ⟨its,r',pl,hz⟩:=I.list hq
  have hlen:=r'.length
  refine call_tuple_list pl.isList (fun h' kp=>?_) (by simp only [El] <;> omega)
  have I1:Inv X pins σ H { s with heap:=h' }:=I.kept (t':=s.toks) kp
  have I2:Inv X pins σ (upd H h'.objs.size (.tup ys)) { s with heap:=h'.push { cls:=.type "tuple",data:=.seq its.toArray } } :=
   I1.laid (t':=s.toks) (fun b o e=>Ee _ e) (Ek _) (show eh X.prog X.w _ _ _ (.tup ys) from ⟨hz,its,r',sQ.new _ _⟩)
  exact ⟨.ref h'.objs.size,_,I2,rfl,q _ (I1.hok.fresh (Ek _))⟩
 ·obtain ⟨its,r',pl,hz⟩:=I.tuple hq
  exact call_tuple_same pl ⟨.ref p,H,I,rfl,q⟩
noncomputable def tyV (K:PySem.W.Frag) (T:String) (x:V) (H:Hp):Prop:=match x with
 | .str _=>T = "str"
 | .int _=>T = "int"
 | .ref p=>(T = "list" ∧ ∃ xs,SqL K H p xs)∨(T = "tuple" ∧ ∃ xs,SqT K H p xs) ∨
   (T = "dict" ∧ ((∃ kvs,H p=some (.dK kvs))∨∃ kvs,H p=some (.dT kvs)))∨(T = "set" ∧ ∃ S n,H p=some (.set S n))
 | _=>False
theorem vm {pins:List (Addr×Obj)}{σ:St}{H:Hp}{s:Shared}{T:String}{x:V}{v:Value} (I:Inv X pins σ H s) (r:bx x v) (ty:tyV X.K T x H) :
  s.TypeIs v T∧∀ a,v=.ref a→∃ ob,s.heap.get? a=some ob∧ob.dict=none:=by
 cases x with
 | str z =>
  obtain ⟨t,rfl⟩:=r
  cases (show T = "str" from ty)
  exact ⟨typeIs_str s z t,fun _ e=>nomatch e⟩
 | int i =>
  obtain ⟨t,rfl⟩:=r
  cases (show T = "int" from ty)
  exact ⟨typeIs_int s i t,fun _ e=>nomatch e⟩
 | ref p =>
  cases r
  rcases ty with ⟨rfl,xs,hq⟩|⟨rfl,xs,hq⟩|⟨rfl,hk⟩|⟨rfl,S,n,hk⟩
  ·obtain ⟨its,_,pl,_⟩:=I.list hq
   refine ⟨pl.isList.typeIs,fun a e=>?_⟩
   cases e
   obtain ⟨o,n,e,c,hd,_⟩:=pl
   exact ⟨o,e,hd⟩
  ·obtain ⟨its,_,o,e,hc,_,hd⟩:=I.tupleN hq
   refine ⟨⟨o,e,hc⟩,fun a e'=>?_⟩
   cases e'
   exact ⟨o,e,hd⟩
  ·have z:∃ o,s.heap.get? p=some o∧o.ExactDict:=by
    rcases hk with ⟨kvs,hk⟩|⟨kvs,hk⟩
    ·obtain ⟨_,_,_,_,o,_,_,e,ex,_⟩:=I.hok p _ hk
     exact ⟨o,e,ex⟩
    ·obtain ⟨_,_,_,_,o,_,_,e,ex,_⟩:=I.hok p _ hk
     exact ⟨o,e,ex⟩
   obtain ⟨o,e,ex⟩:=z
   refine ⟨⟨o,e,ex.1⟩,fun a e2=>?_⟩
   cases e2
   exact ⟨o,e,ex.2.1⟩
  ·obtain ⟨o,_,_,_,e,ex,_⟩:=I.hok p _ hk
   refine ⟨⟨o,e,ex.1⟩,fun a e2=>?_⟩
   cases e2
   exact ⟨o,e,ex.2.1⟩
 | _=>exact False.elim ty
noncomputable def CW (K:PySem.W.Frag) (T:String) (r:V→List V→Hp→VK→Prop) (to:TE):TE:=fun σ H Q=>to σ H fun x H1=>tyV K T x H1∧r x [] H1 Q
noncomputable def tBM (K:PySem.W.Frag) (T:String) (r:V→List V→Hp→VK→Prop) (to:TE) (t:TA):TE:=fun σ H Q=>to σ H fun x H1=>tyV K T x H1∧t σ H1 fun xs H2=>r x xs H2 Q
variable {o e:Expr}{es:List Expr}{to:TE}{t:TA}{name:Str}{apos cpos:Pos}{T id:String}{r:V→List V→Hp→VK→Prop}
theorem z9 (pa:PlainAttrs T) (slot:Slot T name id) (hty:typeOf (.builtin id)=pure (.type "method_descriptor")) (hm:MtR X id r) (ho:PE X o to)
  (hbase:attributeBase o name X.env (eval o X.env)=eval o X.env:=by rfl) (hline:(apos.endLine==cpos.line)=true:=by rfl):PE X (.Call (.Attribute o name apos) [] [] cpos) (CW X.K T r to):=by
 intro pins s σ H Q I h
 refine wpAny_Call_method0_late hbase hline (thn (ho pins s σ H _ I h) fun v s1 zz5=>?_)
 obtain ⟨x,H1,I1,r1,ty,q1⟩:=zz5
 obtain ⟨h1,h2⟩:=vm I1 r1 ty
 exact ⟨T,id,pa,slot,hty,h1,h2,Calls.callWith_builtin rfl (PySem.evalArgs_none (hm pins s1 σ H1 x [] v [] Q I1 r1 .nil q1))⟩
theorem B3 (pa:PlainAttrs T) (slot:Slot T name id) (hty:typeOf (.builtin id)=pure (.type "method_descriptor")) (hm:MtR X id r) (ho:PE X o to) (ha:PA X (e::es) t)
  (hbase:attributeBase o name X.env (eval o X.env)=eval o X.env:=by rfl)
  (hfew:((backTo cpos (starEach (e::es) X.env)).all (fun x=>!x.1)&&(backToKw cpos (keywordEach [] X.env)).all (fun x=>x.1.isSome)
   && decide ((e::es).length+([]:List Keyword).length+(if ([]:List Keyword).isEmpty then 0 else 1)<30))=true:=by rfl)
  (hline:(apos.endLine==cpos.line)=true:=by rfl) (hs:starEach (e::es) X.env=(false,eval e X.env)::starEach es X.env:=by rfl) (hplain:(backTo cpos (starEach es X.env)).any (·.1)=false:=by rfl) :
  PE X (.Call (.Attribute o name apos) (e::es) [] cpos) (tBM X.K T r to t):=by
 intro pins s σ H Q I h
 refine wpAny_Call_method_late hbase hfew hline rfl (thn (ho pins s σ H _ I h) fun v s1 zz6=>?_)
 obtain ⟨x,H1,I1,r1,ty,q1⟩:=zz6
 obtain ⟨h1,h2⟩:=vm I1 r1 ty
 refine ⟨T,id,pa,slot,hty,h1,h2,?_⟩
 have hA:=ha cpos pins s1 σ H1 _ I1 q1
 rw [hs] at hA ⊢
 refine Calls.callWith_builtin (by show (false || (backTo cpos (starEach es X.env)).any (·.1))=false;rw[hplain] <;> rfl) (Calls.evalArgs_plain ?_)
 exact thn hA fun us s2 ⟨vs,H2,I2,r2,q2⟩=>hm pins s2 σ H2 x vs v us Q I2 r1 r2 q2
end
noncomputable def MtM (X:Cx) (id:String) (r:V→List V→Hp→VK→Prop):Prop :=
 ∀ (pins:List (Addr×Obj)) (s:Shared) (σ:St) (H:Hp) (x:V) (xs:List V) (v:Value) (us:List Value) (Q:VK),Inv X pins σ H s→bx x v→aO xs us→r x xs H Q →
  wpAny (model X.prog X.w) X.A (call (.builtin id) (v::us)) (EP X pins σ Q) X.xe s
theorem aO.consI {x:V}{xs:List V}{us:List Value} (h:aO (x::xs) us):∃ u vs,us=u::vs∧bx x u∧aO xs vs:=by
 cases h with
 | cons r q=>exact⟨_,_,rfl,r,q⟩
theorem aO.zero {us:List Value} (h:aO [] us):us=[]:=by
 cases h
 rfl
theorem aO.one {x:V}{us:List Value} (h:aO [x] us):∃ u,us=[u]∧bx x u:=by
 obtain ⟨u,vs,rfl,r,q⟩:=h.consI
 rw [aO.zero q]
 exact ⟨u,rfl,r⟩
theorem aO.dropLast {xs:List V}{us:List Value} (h:aO xs us):aO xs.dropLast us.dropLast:=by
 induction h with
 | nil=>exact .nil
 | cons r t ih =>
  cases t with
  | nil=>exact .nil
  | cons q t'=>exact .cons r ih
theorem aO.eraseIdx:∀ {xs:List V}{us:List Value} (i:Nat),aO xs us→aO (xs.eraseIdx i) (us.eraseIdx i)
 | _,_,_,.nil=>.nil
 | _,_,0,.cons _ t=>t
 | _,_,i+1,.cons r t=>.cons r (aO.eraseIdx i t)
theorem o4 {α:Type} (l:List α):l.eraseIdx (l.length - 1)=l.dropLast:=by
 induction l with
 | nil=>rfl
 | cons a r ih =>
  cases r with
  | nil=>rfl
  | cons b r =>
   have e:(a::b::r).length - 1=((b::r).length - 1)+1:=by
    have h1:(a::b::r).length=r.length+2:=rfl
    have h2:(b::r).length=r.length+1:=rfl
    omega
   rw [e,List.eraseIdx_cons_succ,ih]
   all_goals rfl
theorem kr {α:Type}:∀ (l:List α) (i:Nat),(l.eraseIdx i).length≤l.length
 | [],_=>Ek _
 | _::_,0=>Fm _
 | _::r,i+1=>Nat.succ_le_succ (kr r i)
section
variable {X:Cx}{pins:List (Addr×Obj)}{σ:St}{H:Hp}{s:Shared}{l b:Addr}{xs ys zs:List V}
theorem Inv.lset {its its':List Value}{n:Nat}{f:Array Value→Array Value}{t':Nat} (I:Inv X pins σ H s) (hH:H l=some (.lst xs))
  (e : s.heap.get? l=some { cls:=.type "list",data:=.seq its.toArray n }) (hf:f its.toArray=its'.toArray) (hv:aO ys its') (hz:ys.length≤sizeLine) :
  Inv X pins σ (upd H l (.lst ys)) { s with heap:=s.heap.update l (Obj.mapSeq f),toks:=t' }:=by
 have q:=PySem.IsL.update e f
 rw [hf] at q
 refine I.write (x:=l) (e:=l) (by rw[hH];exact trivial) (.inl rfl) (fun b' u hb hu=>(Fo s.heap (Obj.mapSeq f) (Ne.symm hb)).trans hu) ⟨_,q⟩ ?_
 exact ⟨hz,its',_,hv,q⟩
theorem Inv.lnew {its:List Value}{t':Nat} (I:Inv X pins σ H s) (hv:aO ys its) (hz:ys.length≤sizeLine) :
  Inv X pins σ (upd H s.heap.objs.size (.lst ys)) { s with heap:=s.heap.push { cls:=.type "list",data:=.seq its.toArray },toks:=t' } :=
 I.laid (fun _ _ q=>Ee _ q) (Ek _) ⟨hz,its,0,hv,Er _ rfl⟩
theorem Inv.fresh (I:Inv X pins σ H s):H s.heap.objs.size=none:=I.hok.fresh (Ek _)
theorem Inv.lstM (I:Inv X pins σ H s) (hH:H l=some (.lst xs)):xs.length≤sizeLine∧∃ (its:List Value) (n:Nat),aO xs its∧xs.length=its.length∧s.heap.get? l=some { cls:=.type "list",data:=.seq its.toArray n }:=by
 obtain ⟨z,its,n,r,e⟩:=I.hok l _ hH
 exact ⟨z,its,n,r,r.length,e⟩
theorem ua {n:Nat} (h:n≤sizeLine):Builtin.List.listTooLong n=false:=by
 unfold Builtin.List.listTooLong
 exact decide_eq_false (by omega)
end
section
variable {X:Cx}
noncomputable def xh:V→List V→Hp→VK→Prop:=fun x vs H Q=>∃ l xs y,x=.ref l∧vs=[y]∧H l=some (.lst xs)∧xs.length<sizeLine∧Q .non (upd H l (.lst (xs++[y])))
theorem km:MtM X "list.append" xh:=by
 intro pins s σ H x vs v us Q I rx rv h
 obtain ⟨l,xs,y,rfl,rfl,hH,hz,q⟩:=h
 cases rx
 obtain ⟨u,rfl,ru⟩:=rv.one
 obtain ⟨z,its,n,r,hl,e⟩:=I.lstM hH
 refine call_meets F.slot_list_append ⟨_,e,rfl⟩ F.entry_list_append (F.args_list_append_2 _ _) (PySem.list_append l its.toArray n u (by rw[El];omega)) ⟨e,?_⟩
 refine ⟨.non,_,I.lset (its':=its++[u]) hH e (by simp) (r.append (.cons ru .nil)) ?_,rfl,q⟩
 rw [Ew,E3]
 omega
noncomputable def xg:V→List V→Hp→VK→Prop:=fun x vs H Q=>∃ l b xs zs,x=.ref l∧vs=[.ref b]∧H l=some (.lst xs)∧H b=some (.lst zs)∧xs.length+zs.length≤sizeLine∧Q .non (upd H l (.lst (xs++zs)))
theorem qW:MtM X "list.extend" xg:=by
 intro pins s σ H x vs v us Q I rx rv h
 obtain ⟨l,b,xs,zs,rfl,rfl,hH,hB,hz,q⟩:=h
 cases rx
 obtain ⟨u,rfl,ru⟩:=rv.one
 cases ru
 obtain ⟨z,its,n,r,hl,e⟩:=I.lstM hH
 obtain ⟨z2,its2,n2,r2,hl2,e2⟩:=I.lstM hB
 have hsz:its.toArray.size+its2.toArray.size≤sizeLine:=by rw[El,El];omega
 have hlong:¬(!its.toArray.isEmpty&&Builtin.List.listTooLong (its.toArray.size+its2.toArray.size))=true:=by
  rw [ua hsz,Bool.and_false]
  exact Et
 refine call_meets F.slot_list_extend ⟨_,e,rfl⟩ F.entry_list_extend (F.args_list_extend_2 _ _)
  (AutoSeq1.list_extend_list_list_0 l its.toArray n b its2.toArray n2 hlong (by rw[El];omega) (by omega)) ⟨e,e2,?_⟩
 refine ⟨.non,_,I.lset (its':=its++its2) hH e (by simp) (r.append r2) ?_,rfl,q⟩
 rw [Ew]
 omega
noncomputable def Dq:V→List V→Hp→VK→Prop:=fun x vs H Q=>∃ l xs y,x=.ref l∧vs=[]∧H l=some (.lst xs)∧xs[xs.length - 1]? = some y∧Q y (upd H l (.lst xs.dropLast))
theorem vU:MtM X "list.pop" Dq:=by
 intro pins s σ H x vs v us Q I rx rv h
 obtain ⟨l,xs,y,rfl,rfl,hH,hy,q⟩:=h
 cases rx
 have hus:=rv.zero
 subst hus
 obtain ⟨z,its,n,r,hl,e⟩:=I.lstM hH
 obtain ⟨u,hu,ru⟩:=r.get hy
 have hy':its.toArray[its.toArray.size - 1]? = some u:=by
  show its.toArray[its.length - 1]? = some u
  rw [←Array.getElem?_toList,←hl]
  exact hu
 refine call_meets F.slot_list_pop ⟨_,e,rfl⟩ F.entry_list_pop (F.args_list_pop_1 _) (MeetsSeq.list_pop_last l its.toArray n u hy' (by rw[El];omega)) ⟨e,?_⟩
 refine ⟨y,_,I.lset (its':=its.dropLast) hH e ?_ r.dropLast ?_,ru,q⟩
 ·show its.toArray.eraseIdxIfInBounds (its.toArray.size - 1)=its.dropLast.toArray
  rw [El,List.eraseIdxIfInBounds_toArray,o4]
 ·rw [List.length_dropLast]
  omega
noncomputable def zy:V→List V→Hp→VK→Prop:=fun x vs H Q=>∃ l xs i k y,x=.ref l∧vs=[.int i]∧H l=some (.lst xs)∧-(2 ^ 63)≤i∧i<2 ^ 63∧seqIndex? i xs.length=some k∧xs[k]? = some y∧Q y (upd H l (.lst (xs.eraseIdx k)))
theorem ud:MtM X "list.pop" zy:=by
 intro pins s σ H x vs v us Q I rx rv h
 obtain ⟨l,xs,i,k,y,rfl,rfl,hH,h1,h2,hk,hy,q⟩:=h
 cases rx
 obtain ⟨u,rfl,ru⟩:=rv.one
 obtain ⟨t,rfl⟩:=ru
 obtain ⟨z,its,n,r,hl,e⟩:=I.lstM hH
 obtain ⟨w,hw,rw'⟩:=r.get hy
 refine call_meets F.slot_list_pop ⟨_,e,rfl⟩ F.entry_list_pop (F.args_list_pop_2 _ _)
  (MeetsSeq.list_pop_at l its.toArray n i t k w (fitsIndex_both h1 h2) (by rw[El,←hl];exact hk) (by rw[←Array.getElem?_toList];exact hw) (by rw[El];omega)) ⟨e,?_⟩
 refine ⟨y,_,I.lset (its':=its.eraseIdx k) hH e ?_ (r.eraseIdx k) ?_,rw',q⟩
 ·show its.toArray.eraseIdxIfInBounds k=(its.eraseIdx k).toArray
  rw [List.eraseIdxIfInBounds_toArray]
 ·have:=kr xs k
  omega
noncomputable def zz:V→List V→Hp→VK→Prop:=fun x vs H Q=>∃ l xs,x=.ref l∧vs=[]∧H l=some (.lst xs)∧Q .non (upd H l (.lst []))
theorem ue:MtM X "list.clear" zz:=by
 intro pins s σ H x vs v us Q I rx rv h
 obtain ⟨l,xs,rfl,rfl,hH,q⟩:=h
 cases rx
 have hus:=rv.zero
 subst hus
 obtain ⟨z,its,n,r,hl,e⟩:=I.lstM hH
 refine call_meets F.slot_list_clear ⟨_,e,rfl⟩ F.entry_list_clear (F.args_list_clear_1 _) (AutoSeq1.list_clear_list_0 l its.toArray n (by rw[El];omega)) ⟨e,?_⟩
 exact ⟨.non,_,I.lset (its':=[]) (ys:=[]) hH e rfl .nil (Ez _),rfl,q⟩
end
section
variable {prog:Program}{w:World}{A:Around}{E:Value→Shared→Prop}{s:Shared}
end
section
variable {X:Cx}
end
end _L
namespace Att
open PySem PySem.W PySem.Calls PyProof.Rows
theorem gQ {P:Params}{h:Heap}:∀ (ns:List Int) (vs:List Value),WellAll P h vs (ns.map WData.int)→IntsAre vs ns:=by
 intro ns
 induction ns with
 | nil =>
  intro vs w
  rw [FQ] at w
  cases w
  exact .nil
 | cons n ns ih =>
  intro vs w
  rw [Eu] at w
  cases w with
  | cons a b =>
   cases a
   exact .cons _ _ (ih _ b)
theorem qa {l:OpenLaw}{n:Nat} (hn:l.most=some n) {P:Params}{h:Heap}{args:List WData}{vals:List Value}
  (hpre:l.row.toRowW.claim.pre args=true) (hwl:WellAll P h vals args) :
  ∃ a vs ns,vals=[Value.ref a]∧args=[WData.list (ns.map WData.int)]∧h.get? a=some { cls:=.type "list",data:=.seq vs.toArray }∧IntsAre vs ns∧ns.length≤n:=by
 have hsh:WShape.hasAll [] args [.list .int]=true:=(pre_splitW hpre).1
 have hc:l.pre.holds [] { args:=args }=true:=(pre_splitW hpre).2
 obtain ⟨d,r,rfl,h1,h2⟩:=hasAllW_cons hsh
 obtain rfl:=hasAllW_nil h2
 obtain ⟨xs,rfl,h3⟩:=hasW_list h1
 obtain ⟨ns,rfl⟩:=items_int h3
 have hlen:ns.length≤n:=by
  unfold OpenLaw.pre at hc
  have h4:(WTm.not (.lt (.lit (.int (n:Int))) (.len (.arg 0)))).holds [] { args:=[.list (ns.map .int)] }=true:=by
   have h4:=(holds_andW hc).1
   rw [hn] at h4
   exact h4
  have h5:=condW_of h4 (w_not (w_lt w_lit (w_len_list (w_arg rfl))))
  rw [D7] at h5
  refine Nat.le_of_not_lt fun q=>?_
  have q':(n:Int)<((ns.length:Nat):Int):=by omega
  first
   | (rw[decide_eq_true q'] at h5;exact absurd h5 (by decide))
   | (simp at h5;omega)
 cases hwl with
 | cons w1 w2 =>
  cases w2
  cases w1 with
  | list ho hall=>exact⟨_,_,ns,rfl,rfl,ho,gQ ns _ hall,hlen⟩
theorem qy (l:OpenLaw) (args:List WData):l.row.toRowW.claim.post args (.bool true) args=true :=
 postW_of (r:=l.row.toRowW) (X:=(true==true))
  (show WShape.has [] (.bool true) .bool=true by first|rfl|decide|simp[WShape.has,WShape.arms,WShape.armsAll])
  (show (WTm.eq .res (.lit (.bool true))).value [] { args:=args,res:=some (.bool true),after:=args }=some (.bool (true==true)) from w_eq_bool (w_res rfl) w_lit) rfl
theorem attach_call {l:OpenLaw}{n:Nat}{q:Program}{loose:List Str}{XP:(Str→Option Value)→Heap→Prop}{YP:World→Heap→Prop}{d:DefRec}
  (hn:l.most=some n) (hdf:d.params.defaults=[])
  (call:∀ (w:World) (s₀ s₁:Shared) (mg mb:Str→Option Value) (fa:Addr) (o:Obj) (pm cd doc:Value) (a:Addr) (vs:List Value) (ns:List Int),
   Ground q loose [] XP w s₀ mg mb s₁.heap→YP w s₁.heap →
   s₁.heap.get? fa=some o→o.data=.func (docDef d.name d.params d.body d.scope pm cd doc)→s₁.heap.CodeRec cd d.name→mg d.name=some (.ref fa) →
   s₁.heap.get? a=some { cls:=.type "list",data:=.seq vs.toArray }→IntsAre vs ns→ns.length≤n→s₁.gens=#[] →
   codeAny (model l.prog w) callerA (.call (.ref fa) ⟨[.ref a],[]⟩) (fun r s'=>r=.ok (.ret (.bool true))∧OldK s₁.heap s'.heap∧s'.os=s₁.os∧AllBare s'.gens) s₁) :
  WalkO q loose XP YP l.row.toRowW d [] (fun f vs=>PySem.call f vs):=by
 intro w s₀ s₁ mg mb G Y fa o pm cd doc dV kV ho hd hcd hD hmg hg args vals as hpre hlay hrd hwl hlo
 obtain rfl:dV=.none:=Dflts.none hD hdf
 obtain rfl:kV=.none:=Dflts.noKw hD
 obtain ⟨a,vs,ns,rfl,rfl,hobj,hints,hlen⟩:=qa hn hpre hwl
 refine enter_call (codeAny_mono (call w s₀ s₁ mg mb fa o pm cd doc a vs ns G Y ho (fd_plain hd) hcd hmg hobj hints hlen hg) fun r s' hq=>?_)
 obtain ⟨rfl,h2,h3,h4⟩:=hq
 exact ⟨.inl ⟨.bool true,.bool true,[],rfl,fun _=>rfl,.bool true,qy l _,fun _=>⟨List.Pairwise.nil,fun _ hm=>(nomatch hm)⟩⟩,h2,h3,h4⟩
section
variable {prog:Program}{w:World}{A:Around}{E:Value→Shared→Prop}{s:Shared}{K:Frag}
end
end Att
namespace _L
open PySem PySem.Spec PyProof.Rows
theorem jN:∀ {vs:List Value}{ns:List Int},IntsAre vs ns→aO (ns.map V.int) vs
 | _,_,.nil=>.nil
 | _,_,.cons n t h=>.cons ⟨t,rfl⟩ (jN h)
noncomputable def CP (H:Hp):Prop:=∀ b,H b=none∨(∃ o xs,H b=some (.frz o (.lst xs)))∨∃ q,H b=some (.tbl q)
theorem uk {P:Program}{w:World}{K:PySem.W.Frag}{mg mb:Str→Option Value}{CX:CXT}{k:Nat}{fa a:Addr}{fd:FuncData}{x:Str}{sp:Sp}{s₁:Shared}{vs:List Value}{ns:List Int}{tb:List (Addr×Str)}
  (hT:∀ b q,tb.lookup b=some q→s₁.heap.get? b=some { cls:=.none,data:=.fields #[] }∧K.lookup b=none∧∃ c,s₁.heap.TableAt c b #[]) (hLm:∀ T q,hV K T q→tb.lookup T=some q)
  (KX:K.In s₁.heap) (hns:s₁.heap.Ns mainGlobals mg) (hb:s₁.heap.Ns builtinsNs mb) (hbb:∀ x:Str,x ≠ "__name__" → mb x=bootBuiltins x) (hlim:s₁.heap.NoLimit) (hbm:∃ bm ob,mg "__builtins__" = some (.ref bm)∧bm≠builtinsNs∧s₁.heap.get? bm=some ob∧ob.cls=.type "module" ∧ ob.dict=some builtinsNs∧ob.data=.plain) (hg:s₁.gens=#[])
  (ha:s₁.heap.get? a=some { cls:=.type "list",data:=.seq vs.toArray }) (hi:IntsAre vs ns) (hl:ns.length≤sizeLine) (hr:cY k callerA)
  (F : ∀ base:Heap,K.In base→base.Ns mainGlobals mg→cG P w K mg base CX k fa fd [x] sp) (hbind:∀ (s:Shared) (u:Value),BindsTo s fd ⟨[u],[]⟩ [(x,u)])
  (hsp:∀ H:Hp,CP H→SqL K H a (ns.map V.int)→sp [.ref a] H (fun v _=>v=.bl true) fun _ _ _=>False)
  (hCX:∀ H e s',CX [] H s₁ (fun _ _ _=>False) e s'→False) :
  codeAny (model P w) callerA (.call (.ref fa) ⟨[.ref a],[]⟩) (fun r s'=>r=.ok (.ret (.bool true))∧OldK s₁.heap s'.heap∧s'.os=s₁.os∧AllBare s'.gens) s₁:=by
 have rv:=jN hi
 have lenV:=hi.length
 have core:∀ H:Hp,CP H→SqL K H a (ns.map V.int)→HOk P w H s₁.heap→(∀ b u,H b=some u→(b=a∧K.lookup a=none)∨∃ q,tb.lookup b=some q∧u=.tbl q)→(∀ b q,tb.lookup b=some q→H b=some (.tbl q)) →
   codeAny (model P w) callerA (.call (.ref fa) ⟨[.ref a],[]⟩) (fun r s'=>r=.ok (.ret (.bool true))∧OldK s₁.heap s'.heap∧s'.os=s₁.os∧AllBare s'.gens) s₁:=by
  intro H hO hS hok hA hB
  have base_of:∀ {b:Addr}{o:Obj},s₁.heap.get? b=some o→H b=none→(sY s₁.heap H).get? b=some o:=fun e n=>uC e n
  have noA:∀ {b:Addr}{o:Obj}{es:Array DictEntry}{ep:Nat},s₁.heap.get? b=some o→o.data=.dict es ep→H b=none:=fun {b o es ep} e d=>by
   cases q:H b with
   | none=>rfl
   | some u =>
    rcases hA b u q with ⟨e',_⟩|⟨q',e',_⟩
    ·subst e'
     rw [ha] at e;cases e
     have d':Data.seq vs.toArray _=Data.dict es ep:=d
     cases d'
    ·rw [(hT b q' e').1] at e;cases e
     have d':Data.fields _=Data.dict es ep:=d
     cases d'
  have nsK:∀ {b:Addr}{m:Str→Option Value},s₁.heap.Ns b m→(sY s₁.heap H).Ns b m:=fun {b m} ⟨o,es,ep,e,d,r⟩=>⟨o,es,ep,base_of e (noA e d),d,r⟩
  have hKb:K.In (sY s₁.heap H):=fun b o e=>base_of (KX b o e) (by
   cases q:H b with
   | none=>rfl
   | some u =>
    rcases hA b u q with ⟨e',hk⟩|⟨q',e',_⟩
    ·subst e'
     rw [hk] at e;cases e
    ·rw [(hT b q' e').2.1] at e;cases e)
  have hbmK:∃ bm ob,mg "__builtins__" = some (.ref bm)∧bm≠builtinsNs∧(sY s₁.heap H).get? bm=some ob∧ob.cls=.type "module" ∧ ob.dict=some builtinsNs∧ob.data=.plain:=by
   obtain ⟨bm,ob,b1,b2,b3,b4,b5,b6⟩:=hbm
   refine ⟨bm,ob,b1,b2,base_of b3 ?_,b4,b5,b6⟩
   cases q:H bm with
   | none=>rfl
   | some u =>
    rcases hA bm u q with ⟨e',_⟩|⟨q',e',_⟩
    ·subst e'
     rw [ha] at b3;cases b3;cases b6
    ·rw [(hT bm q' e').1] at b3;cases b3;cases b6
  have hM:Mod K mg (sY s₁.heap H):=⟨hKb,nsK hns,⟨mb,nsK hb,hbb⟩,let ⟨mc,h1,h2⟩:=hlim;⟨mc,nsK h1,h2⟩,hbmK⟩
  have e0:pq P w K mg (sY s₁.heap H) callerA [] s₁ H:=⟨rfl,hM,fun b o e=>xW e,Nat.le_of_eq (rE _ _),trivial,fun b hb=>absurd (show b∈([]:List Addr) from hb) (by simp),hok,.of_eq hg,fun T q h=>hB T q (hLm T q h)⟩
  refine codeAny_mono ((F _ hKb (nsK hns)).run callerA [] s₁ H ⟨[.ref a],[]⟩ [.ref a] [.ref a] _ _ hr e0 (hbind s₁ (.ref a)) (.cons rfl .nil) (hsp H hO hS)) fun r s' h=>?_
  cases r with
  | error e=>exact (hCX H e s' h).elim
  | ok fl =>
   cases fl with
   | next=>exact False.elim h
   | brk=>exact False.elim h
   | cont=>exact False.elim h
   | ret u =>
    obtain ⟨v,H',os,bare,un,hok',r',q⟩:=h
    have q':v=.bl true:=q
    subst q'
    obtain rfl:u=Value.bool true:=r'
    refine ⟨rfl,⟨fun b o e=>?_,fun b o e=>un.there b o e (by simp)⟩,os,bare⟩
    cases q:H b with
    | none=>exact .inl (un.keep b o e q (by intro z;exact absurd (show b∈([]:List Addr) from z) (by simp)) (by simp))
    | some u =>
     rcases hO b with z|⟨ob,xs,z⟩|⟨q',z⟩
     ·rw [q] at z;cases z
     ·have z2:=un.frzs b ob _ z
      obtain ⟨e1,_⟩:=hok b _ z
      obtain ⟨e2,_⟩:=hok' b _ z2
      rw [e] at e1;cases e1
      exact .inl e2
     ·obtain ⟨ps,e2,_⟩:=hok' b _ (un.tbls b q' z)
      rcases hA b _ z with ⟨e',_⟩|⟨q2,e',_⟩
      ·obtain ⟨ps0,e0,_⟩:=hok b _ z
       subst e'
       rw [ha] at e0;cases e0
      ·obtain ⟨t1,_,c,t2⟩:=hT b q2 e'
       rw [e] at t1;cases t1
       exact .inr (.inl ⟨t2.isCodeTable,rfl,#[],ps,rfl,by simpa using e2⟩)
 cases hk:K.lookup a with
 | some o =>
  have e:=KX a o hk
  rw [ha] at e
  cases e
  refine core (fun b=>(tb.lookup b).map .tbl) (fun b=>?_) (.inr ⟨_,vs.toArray,_,hk,rfl,rfl,rfl,by rw[El,lenV];exact hl,by simpa using rv⟩) (fun b u z=>?_) (fun b u z=>?_) fun b q z=>by show (tb.lookup b).map HO.tbl=_;rw[z];rfl
  ·cases z:tb.lookup b with
   | none=>exact .inl (by show (tb.lookup b).map HO.tbl=_;rw[z];rfl)
   | some q=>exact .inr (.inr ⟨q,by show (tb.lookup b).map HO.tbl=_;rw[z];rfl⟩)
  ·have z:(tb.lookup b).map HO.tbl=some u:=z
   cases q:tb.lookup b with
   | none=>rw[q] at z;cases z
   | some q' =>
    rw [q] at z;cases z
    exact ⟨#[],(hT b q' q).1,trivial,fun pos cv h=>by cases (show (none:Option Value)=some cv from h)⟩
  ·have z:(tb.lookup b).map HO.tbl=some u:=z
   cases q:tb.lookup b with
   | none=>rw[q] at z;cases z
   | some q'=>rw[q] at z;cases z;exact .inr ⟨q',rfl,rfl⟩
 | none =>
  have hna:tb.lookup a=none:=by
   cases z:tb.lookup a with
   | none=>rfl
   | some q =>
    have e:=(hT a q z).1
    rw [ha] at e
    cases e
  have hne:∀ b,b≠a→(if b=a then some (HO.frz { cls:=.type "list",data:=.seq vs.toArray } (.lst (ns.map V.int))) else (tb.lookup b).map .tbl)=(tb.lookup b).map .tbl:=fun b hb=>if_neg hb
  refine core (fun b=>if b=a then some (.frz { cls:=.type "list",data:=.seq vs.toArray } (.lst (ns.map V.int))) else (tb.lookup b).map .tbl) (fun b=>?_) (.inl (.inr ⟨{ cls:=.type "list",data:=.seq vs.toArray },if_pos rfl⟩)) (fun b u z=>?_) (fun b u z=>?_) fun b q z=>?_
  ·by_cases hb:b=a
   ·exact .inr (.inl ⟨_,_,if_pos hb⟩)
   ·dsimp only
    rw [hne b hb]
    cases z:tb.lookup b with
    | none=>exact .inl rfl
    | some q=>exact .inr (.inr ⟨q,rfl⟩)
  ·by_cases hb:b=a
   ·have z':=(if_pos hb).symm.trans z
    cases z'
    subst hb
    exact ⟨ha,by rw[D7];exact hl,vs,_,rv,ha⟩
   ·have z:(tb.lookup b).map HO.tbl=some u:=(hne b hb).symm.trans z
    cases q:tb.lookup b with
    | none=>rw[q] at z;cases z
    | some q' =>
     rw [q] at z;cases z
     exact ⟨#[],(hT b q' q).1,trivial,fun pos cv h=>by cases (show (none:Option Value)=some cv from h)⟩
  ·by_cases hb:b=a
   ·exact .inl ⟨hb,hk⟩
   ·have z:(tb.lookup b).map HO.tbl=some u:=(hne b hb).symm.trans z
    cases q:tb.lookup b with
    | none=>rw[q] at z;cases z
    | some q'=>rw[q] at z;cases z;exact .inr ⟨q',rfl,rfl⟩
  ·have hb:b≠a:=fun e=>by subst e;rw[hna] at z;cases z
   exact (hne b hb).trans (by rw[z];rfl)
theorem wU {l:PySem.W.OpenLaw}{n k:Nat}{q:Program}{loose:List Str}{XP:(Str→Option Value)→Heap→Prop}{YP:World→Heap→Prop}{d:DefRec}{K:Params→PySem.W.Frag}{CX:World→CXT}{sp:World→Sp}{x:Str}
  (hn:l.most=some n) (hn2:n≤sizeLine) (hdf:d.params.defaults=[]) (hr:cY k callerA)
  (hTb:∀ (w:World) (s₀:Shared) (mg mb:Str→Option Value) (h:Heap),PySem.W.Ground q loose [] XP w s₀ mg mb h→(K w.params).In h→∃ tb:List (Addr×Str),(∀ b q,tb.lookup b=some q→h.get? b=some { cls:=.none,data:=.fields #[] }∧(K w.params).lookup b=none∧∃ c,h.TableAt c b #[])∧∀ T q,hV (K w.params) T q→tb.lookup T=some q)
  (hY:∀ (w:World) (h:Heap),YP w h→(K w.params).In h)
  (F : ∀ (w:World) (mg:Str→Option Value) (fa:Addr) (h:Heap),(K w.params).In h→h.Ns mainGlobals mg→mg d.name=some (.ref fa) →
   ∃ fd:FuncData,(∀ (s:Shared) (u:Value),BindsTo s fd ⟨[u],[]⟩ [(x,u)]) ∧
    ∀ base:Heap,(K w.params).In base→base.Ns mainGlobals mg→cG l.prog w (K w.params) mg base (CX w) k fa fd [x] (sp w))
  (hsp:∀ (w:World) (H:Hp) (a:Addr) (ns:List Int),ns.length≤n→CP H→SqL (K w.params) H a (ns.map V.int)→sp w [.ref a] H (fun v _=>v=.bl true) fun _ _ _=>False)
  (hCX:∀ (w:World) (H:Hp) (s:Shared) (e:Value) (s':Shared),CX w [] H s (fun _ _ _=>False) e s'→False) :
  PySem.W.WalkO q loose XP YP l.row.toRowW d [] (fun f vs=>PySem.call f vs):=by
 refine Att.attach_call hn hdf fun w s₀ s₁ mg mb fa o pm cd doc a vs ns G Y ho hd hcd hmg hobj hints hlen hg=>?_
 have KX:=hY w _ Y
 obtain ⟨fd,hb,hF⟩:=F w mg fa _ KX G.T.g hmg
 obtain ⟨tb,hT,hLm⟩:=hTb w s₀ mg mb _ G KX
 exact uk hT hLm KX G.T.g G.T.b G.T.builtins G.T.nolimit G.T.bmain hg hobj hints (Eg hlen hn2) hr hF hb (fun H hO hS=>hsp w H a ns hlen hO hS) fun H e s'=>hCX w H s₁ e s'
noncomputable def dG (s:Stmt):Arguments:=match s with
 | .FunctionDef _ a _ _ _ _ _ _ _ _=>a
 | _=>{ posonlyargs:=[],args:=[],vararg:=none,kwonlyargs:=[],kw_defaults:=[],kwarg:=none,defaults:=[] }
noncomputable def ce (s:Stmt):List Stmt:=match s with
 | .FunctionDef _ _ b _ _ _ _ _ _ _=>b
 | _=>[]
noncomputable def ad (s:Stmt):Scope:=match s with
 | .FunctionDef _ _ _ _ _ _ sc _ _ _=>sc
 | _=>{ kind:=.function,names:=[],isGenerator:=false,isCoroutine:=false }
noncomputable abbrev CX0:CXT:=fun _ _ _ _ _ _=>False
noncomputable abbrev E0:XK:=fun _ _ _=>False
theorem B5 {X:Cx}:sS CX0 X E0:=fun _ _ _ _ _ _ _ h=>h.elim
structure Fun (K:PySem.W.Frag) (x qual:Str) (st:Stmt) (f:Addr) (fd:FuncData):Prop where
 ex : ∃ (oc:Value) (od:Option Addr) (kV doc pm:Value) (an:Option Addr) (cdv ct:Value) (osl:Array (Option Value)),
  fd = PySem.W.fnOf x qual (dG st) (ce st) (ad st) .none kV doc pm an cdv ct∧K.lookup f=some ⟨oc,od,.func fd,osl⟩∧PySem.W.codeIn K cdv qual=true
 kp : PySem.W.keepIn K (.ref f)=true
section
variable {P:Program}{w:World}{K:PySem.W.Frag}{mg:Str→Option Value}{base:Heap}
theorem Fun.ok {x qual:Str}{st:Stmt}{f:Addr}{fd:FuncData}{N ps:List Str}{k:Nat}{sp:Sp} (F:Fun K x qual st f fd) (S:ar N ps (ad st)) (len:∀ vs H Q E,sp vs H Q E→vs.length=ps.length)
  (hbody:∀ (cdv:Value) (A:Around) (outer:List Env) (s:Shared) (H:Hp) (vs:List V) (Q:VK) (E:XK),cY k (A.deeper (envOfC qual (ad st) s.heap.objs.size f cdv))→sp vs H Q E →
   ∃ t,PSs (oq CX0 P w K mg base N qual (ad st) f cdv A outer s H E).nox (ce st) t∧t { nx:=fun _ H'=>Q .non H',rt:=Q } (start N vs) H):cG P w K mg base CX0 (k+1) f fd ps sp:=by
 obtain ⟨oc,od,kV,doc,pm,an,cdv,ct,osl,rfl,lk,hcd⟩:=F.ex
 refine AH lk hcd S len fun A outer s H vs Q E hr hsp=>?_
 obtain ⟨t,h,q⟩:=hbody cdv A outer s H vs Q E hr hsp
 exact ⟨t,h.nox,q⟩
theorem Fun.binds {x qual:Str}{st:Stmt}{f:Addr}{fd:FuncData}{ps:List Str} (F:Fun K x qual st f fd)
  (h : ∀ (kV doc pm:Value) (an:Option Addr) (cdv ct:Value) (us:List Value),us.length=ps.length→bindArgs (PySem.W.fnOf x qual (dG st) (ce st) (ad st) .none kV doc pm an cdv ct) ⟨us,[]⟩=pure (ps.zip us)):bu K fd ps []:=by
 obtain ⟨oc,od,kV,doc,pm,an,cdv,ct,osl,rfl,lk,hcd⟩:=F.ex
 exact .all (h kV doc pm an cdv ct)
theorem wm {x qual:Str}{st:Stmt}{f:Addr}{oc:Value}{od an:Option Addr}{osl:Array (Option Value)}{kV doc pm cdv ct:Value} (l:K.lookup f=some ⟨oc,od,.func (PySem.W.fnOf x qual (dG st) (ce st) (ad st) .none kV doc pm an cdv ct),osl⟩)
  (c : PySem.W.codeIn K cdv qual=true) (k:PySem.W.keepIn K (.ref f)=true):Fun K x qual st f (PySem.W.fnOf x qual (dG st) (ce st) (ad st) .none kV doc pm an cdv ct):=⟨⟨oc,od,kV,doc,pm,an,cdv,ct,osl,rfl,l,c⟩,k⟩
end
section
variable {X:Cx}
end
theorem dW {c A B:Prop} [Decidable c] (h1:c→A) (h2:¬c→B):if c then A else B:=by
 by_cases h:c
 ·rw [if_pos h]
  exact h1 h
 ·rw [if_neg h]
  exact h2 h
noncomputable def a9 (H H':Hp):Prop:=∀ b o,H b=some o→H' b=some o
theorem a9.refl (H:Hp):a9 H H:=fun _ _ h=>h
theorem a9.trans {H H1 H2:Hp} (a:a9 H H1) (b:a9 H1 H2):a9 H H2:=fun c o h=>b c o (a c o h)
theorem a9.seq {K:PySem.W.Frag}{H H':Hp}{a:Addr}{xs:List V} (e:a9 H H') (h:SqL K H a xs):SqL K H' a xs:=by
 rcases h with (h|⟨o,h⟩)|h
 ·exact .inl (.inl (e _ _ h))
 ·exact .inl (.inr ⟨o,e _ _ h⟩)
 ·exact .inr h
end _L
set_option maxHeartbeats 4000000
namespace _L
open PySem PySem.Spec PyProof.Rows
noncomputable def ci (env:Env):List (Str×NameKind)→List (Str×Addr)→List (Str×Addr)
 | [],acc=>acc
 | (n,k)::r,acc=>if (k==.free)=true then ci env r ((n,(env.cells.lookup n).getD 0)::acc) else ci env r acc
theorem fq {env:Env} (f:Str×NameKind→List (Str×Addr)→Sem (ForInStep (List (Str×Addr))))
  (hf:∀ name kind cs,f (name,kind) cs=if (kind==.free)=true then (do let c ←cellOf env name;pure (.yield ((name,c)::cs))) else pure (.yield cs)) :
  ∀ (names:List (Str×NameKind)) (acc:List (Str×Addr)),(∀ y∈names,y.2=.free→(env.cells.lookup y.1).isSome=true)→forIn names acc f=(pure (ci env names acc):Sem _)
 | [],acc,_=>by rw[FF];rfl
 | (n,k)::r,acc,h=>by
  rw [FK,hf]
  unfold ci
  by_cases hk:(k==NameKind.free)=true
  ·rw [if_pos hk,if_pos hk]
   obtain ⟨c,hc⟩:=FP.mp (h (n,k) Eh (by simpa using hk))
   have e:cellOf env n=pure c:=by unfold cellOf;rw[hc]
   rw [e,hc]
   simp only [pure_bind]
   exact fq f hf r _ fun y hy=>h y (Ej _ hy)
  ·rw [if_neg hk,if_neg hk]
   simp only [pure_bind]
   exact fq f hf r _ fun y hy=>h y (Ej _ hy)
theorem jz {scope:Scope}{env:Env} (h:∀ y∈scope.names,y.2=.free→(env.cells.lookup y.1).isSome=true):closureFor scope env=pure (ci env scope.names []):=by
 simp only [closureFor]
 rw [fq (env:=env) _ (fun name kind cs=>by cases hk:kind==NameKind.free <;> simp[hk]) scope.names [] h]
 rfl
theorem cq (env:Env) (x:Str):∀ (names:List (Str×NameKind)) (acc:List (Str×Addr)),(ci env names acc).lookup x=if (x,NameKind.free)∈names then some ((env.cells.lookup x).getD 0) else acc.lookup x
 | [],acc=>by simp[ci]
 | (n, k)::r,acc=>by
  unfold ci
  by_cases hk:(k==NameKind.free)=true
  ·have ek:k=NameKind.free:=by simpa using hk
   subst ek
   rw [if_pos hk,cq env x r]
   by_cases hr:(x,NameKind.free)∈r
   ·rw [if_pos hr,if_pos (Ej _ hr)]
   ·rw [if_neg hr,ET]
    by_cases hx:x=n
    ·subst hx
     simp
    ·have e1:(x==n)=false:=beq_eq_false_iff_ne.mpr hx
     rw [e1]
     have e2:¬(x,NameKind.free)∈(n,NameKind.free)::r:=by
      intro z
      rcases En.mp z with z|z
      ·exact hx (Prod.mk.inj z).1
      ·exact hr z
     rw [if_neg e2]
  ·rw [if_neg hk,cq env x r]
   have e2:(x,NameKind.free)∈(n,k)::r↔(x,NameKind.free)∈r:=by
    constructor
    ·intro z
     rcases En.mp z with z|z
     ·exact absurd (by rw[(Prod.mk.inj z).2.symm];rfl) hk
     ·exact z
    ·exact Ej _
   by_cases hr:(x,NameKind.free)∈r
   ·rw [if_pos hr,if_pos (e2.mpr hr)]
   ·rw [if_neg hr,if_neg (fun z=>hr (e2.mp z))]
theorem bh:∀ (names:List (Str×NameKind)) (n:Nat) (acc:List (Str×Addr)),cellsFrom n names acc=cellsFrom n names []++acc
 | [],n,acc=>by simp[cellsFrom]
 | (x,k)::r,n,acc=>by
  unfold cellsFrom
  split
  ·rw [bh r (n+1) ((x,n)::acc),bh r (n+1) [(x,n)]]
   simp
  ·exact bh r n acc
theorem bN:∀ (names:List (Str×NameKind)) (n:Nat) (x:Str) (c:Addr),(x,c)∈cellsFrom n names []→(x,NameKind.cell)∈names∧n≤c
 | [],n,x,c,h=>by simp[cellsFrom] at h
 | (y,k)::r,n,x,c,h=>by
  unfold cellsFrom at h
  split at h
  ·rename_i hk
   rw [bh] at h
   rcases Ed.mp h with h|h
   ·have q:=bN r (n+1) x c h
    exact ⟨Ej _ q.1,by omega⟩
   ·have e:(x,c)=(y,n):=by simpa using h
    cases e
    have ek:k=NameKind.cell:=by simpa using hk
    subst ek
    exact ⟨Eh,Ek _⟩
  ·have q:=bN r n x c h
   exact ⟨Ej _ q.1,q.2⟩
theorem aE {α:Type}:∀ {l:List (Str×α)}{x:Str}{k:α},(l.map (·.1)).Nodup→(x,k)∈l→l.lookup x=some k
 | (y,j)::r,x,k,nd,h=>by
  rw [ET]
  rcases En.mp h with e|h
  ·cases e;simp
  ·have nd':=EO.mp nd
   have this:x≠y:=fun z=>nd'.1 (by
    rw [←z]
    exact Em.mpr ⟨(x,k),h,rfl⟩)
   rw [beq_eq_false_iff_ne.mpr this]
   exact aE nd'.2 h
theorem lY {M:Model}{A:Around}{E:Value→Shared→Prop}{s:Shared}{scope:Scope}{globals:Addr}{cl:List (Str×Addr)}{qual:Str}{env:Env}{Q:Env→Shared→Prop}
  (h : Q (newEnv scope s.heap.objs.size globals (cellsFrom (s.heap.objs.size+1) scope.names cl) qual none .none (some env) builtinsNs) { s with heap:=pushCells (s.heap.push { cls:=.type "dict",data:=.dict #[] }) scope.names }) :
  wpAny M A (newFunctionEnv scope globals cl [] qual none .none (some env)) Q E s:=by
 simp only [newFunctionEnv,Option.isSome_some,if_true]
 refine wpAny_bind (wpAny_alloc ?_)
 refine wpAny_bind (wpAny_layCells _ (fun name kind cells=>by cases hkc:kind==NameKind.cell <;> simp[hkc]) _ _ _ _ ?_)
 rw [show ({ s with heap:=s.heap.push { cls:=.type "dict",data:=.dict #[] } }:Shared).heap.objs.size=s.heap.objs.size+1 from E7 ..]
 rw [FF]
 exact wpAny_bind (wpAny_pure (wpAny_pure h))
structure ck (N:List Str) (env:Env) (N':List Str) (ix:List (Option Nat)) (sc:Scope):Prop where
 kind:sc.kind=.function
 ndn:(sc.names.map (·.1)).Nodup
 free:∀ y∈sc.names,y.2=.free→env.kindOf y.1=some .cell∨env.kindOf y.1=some .free
 len:ix.length=N'.length
 cap:∀ (i j:Nat),ix[i]? = some (some j)→∃ x,N'[i]? = some x∧N[j]? = some x∧sc.names.lookup x=some .free
theorem ck.names {N:List Str}{env:Env}{N':List Str}{ix:List (Option Nat)}{sc:Scope} (S:ck N env N' ix sc):∀ y∈sc.names,y.2=.local→sc.names.lookup y.1=some .local:=fun y hy e=>by
 obtain ⟨x,k⟩:=y
 cases e
 exact aE S.ndn hy
noncomputable def dr (σ:St) (ix:List (Option Nat)):St:=ix.map fun o=>o.bind fun j=>(σ[j]?).join
noncomputable def pp (sc:Scope) (C:Addr) (env:Env):Env:=compEnvC sc (cellsFrom (C+1) sc.names (ci env sc.names [])) C env
noncomputable def bCx (X:Cx) (N':List Str) (sc:Scope) (s:Shared) (H:Hp) (C:Addr) (fp:List Addr):Cx where
 prog:=X.prog
 w := X.w
 K := X.K
 mg := X.mg
 base:=X.base
 A := X.A
 N := N'
 s₀ := s
 H₀ := H
 env:=pp sc C X.env
 outer:=X.stack
 stack:=X.stack
 ex := fp
 fn := fun x=>decide (sc.names.lookup x=some .cell)
 calm:=X.calm
 pn := []
 xe := fun _ _=>False
theorem dU {env:Env}:∀ {names:List (Str×NameKind)}{x:Str}{k:NameKind},names.lookup x=some k →
  (names.map fun (n,k)=>if (k==NameKind.free&&env.scope.kind==.function&&env.kindOf n==some .cell) then (n,NameKind.cell) else (n,k)).lookup x=some (if (k==NameKind.free&&env.scope.kind==.function&&env.kindOf x==some .cell)=true then .cell else k)
 | [],_,_,h=>by simp at h
 | (n,j)::r,x,k,h=>by
  have ih:=@dU env r x k
  show List.lookup x ((if (j==NameKind.free&&env.scope.kind==.function&&env.kindOf n==some .cell)=true then (n,NameKind.cell) else (n,j))::_)=_
  cases hx:x==n with
  | true =>
   have e:x=n:=by simpa using hx
   subst e
   simp only [ET,hx] at h
   have ej:j=k:=Option.some.inj h
   subst ej
   by_cases hc:(j==NameKind.free&&env.scope.kind==.function&&env.kindOf x==some .cell)=true
   ·rw [if_pos hc,if_pos hc];simp[ET]
   ·rw [if_neg hc,if_neg hc];simp[ET]
  | false =>
   simp only [ET,hx] at h
   by_cases hc:(j==NameKind.free&&env.scope.kind==.function&&env.kindOf n==some .cell)=true
   ·rw [if_pos hc];simp only [ET,hx];exact ih h
   ·rw [if_neg hc];simp only [ET,hx];exact ih h
theorem cC {env:Env}:∀ {names:List (Str×NameKind)}{x:Str},names.lookup x=none →
  (names.map fun (n,k)=>if (k==NameKind.free&&env.scope.kind==.function&&env.kindOf n==some .cell) then (n,NameKind.cell) else (n,k)).lookup x=none
 | [],_,_=>rfl
 | (n,j)::r,x,h=>by
  have ih:=@cC env r x
  show List.lookup x ((if (j==NameKind.free&&env.scope.kind==.function&&env.kindOf n==some .cell)=true then (n,NameKind.cell) else (n,j))::_)=_
  cases hx:x==n with
  | true=>simp only [ET,hx] at h;cases h
  | false =>
   simp only [ET,hx] at h
   by_cases hc:(j==NameKind.free&&env.scope.kind==.function&&env.kindOf n==some .cell)=true
   ·rw [if_pos hc];simp only [ET,hx];exact ih h
   ·rw [if_neg hc];simp only [ET,hx];exact ih h
theorem gY {sc:Scope}{C:Addr}{env:Env}{x:Str}{k:NameKind} (h:sc.names.lookup x=some k):(pp sc C env).kindOf x=some (if (k==NameKind.free&&env.scope.kind==.function&&env.kindOf x==some .cell)=true then .cell else k):=dU h
theorem sJ {sc:Scope}{C:Addr}{env:Env}{x:Str} (h:sc.names.lookup x=none):(pp sc C env).kindOf x=none:=cC h
section
variable {X:Cx}{N':List Str}{ix:List (Option Nat)}{sc:Scope}
theorem gZ (S:ck X.N X.env N' ix sc) {C:Addr}{x:Str}{c:Addr} (h:(pp sc C X.env).cells.lookup x=some c) :
  (sc.names.lookup x=some .cell∧C+1≤c∧(x,c)∈cellsFrom (C+1) sc.names [])∨(sc.names.lookup x=some .free∧c=(X.env.cells.lookup x).getD 0):=by
 have e:(pp sc C X.env).cells=cellsFrom (C+1) sc.names []++ci X.env sc.names []:=bh _ _ _
 rw [e] at h
 rcases Ed.mp (mem_of_lookup h) with q|q
 ·obtain ⟨a,b⟩:=bN _ _ _ _ q
  exact .inl ⟨aE S.ndn a,b,q⟩
 ·have fr:(x,NameKind.free)∈sc.names:=by
   have z:∀ (names:List (Str×NameKind)) (acc:List (Str×Addr)),(x,c)∈ci X.env names acc→(x,c)∈acc∨(x,NameKind.free)∈names:=by
    intro names
    induction names with
    | nil=>intro acc h;exact .inl h
    | cons y r ih =>
     obtain ⟨n,k⟩:=y
     intro acc h
     unfold ci at h
     split at h
     ·rename_i hk
      have ek:k=NameKind.free:=by simpa using hk
      subst ek
      rcases ih _ h with h|h
      ·rcases En.mp h with h|h
       ·cases h;exact .inr Eh
       ·exact .inl h
      ·exact .inr (Ej _ h)
     ·rcases ih _ h with h|h
      ·exact .inl h
      ·exact .inr (Ej _ h)
   rcases z _ _ q with q|q
   ·simp at q
   ·exact q
  have hf:=aE S.ndn fr
  have hn:(cellsFrom (C+1) sc.names []).lookup x=none:=by
   cases z:(cellsFrom (C+1) sc.names []).lookup x with
   | none=>rfl
   | some d =>
    have q':=bN _ _ _ _ (mem_of_lookup z)
    have:=aE S.ndn q'.1
    rw [hf] at this;cases this
  rw [List.lookup_append,hn,cq,if_pos fr] at h
  exact .inr ⟨hf,(Option.some.inj (by simpa using h)).symm⟩
theorem d9 (S:ck X.N X.env N' ix sc) {C:Addr}{x:Str} (h:sc.names.lookup x=some .free):(pp sc C X.env).cells.lookup x=some ((X.env.cells.lookup x).getD 0):=by
 have e:(pp sc C X.env).cells=cellsFrom (C+1) sc.names []++ci X.env sc.names []:=bh _ _ _
 have hn:(cellsFrom (C+1) sc.names []).lookup x=none:=by
  cases z:(cellsFrom (C+1) sc.names []).lookup x with
  | none=>rfl
  | some d =>
   have q':=bN _ _ _ _ (mem_of_lookup z)
   have:=aE S.ndn q'.1
   rw [h] at this;cases this
 rw [e,List.lookup_append,hn,cq,if_pos (mem_of_lookup h)]
 rfl
theorem pb {C:Addr}{env:Env}{x:Str} (h:sc.names.lookup x=some .cell):∃ c,(pp sc C env).cells.lookup x=some c:=by
 have e:(pp sc C env).cells=cellsFrom (C+1) sc.names []++ci env sc.names []:=bh _ _ _
 obtain ⟨c,hc⟩:=jA (n:=C+1) h
 exact ⟨c,by rw[e,List.lookup_append,hc];rfl⟩
theorem mr {pins:List (Addr×Obj)}{σ:St}{H:Hp}{s:Shared}{fp:List Addr} (S:ck X.N X.env N' ix sc) (I:Inv X pins σ H s) (hf:∀ b∈fp,gn X pins H b) (hlt:∀ b∈fp,b<s.heap.objs.size) :
  Inv (bCx X N' sc s H (s.heap.objs.size+1) fp) [] (dr σ ix) H
   { s with heap:=pushCells ((s.heap.push { cls:=.type "list",data:=.seq #[] }).push { cls:=.type "dict",data:=.dict #[] }) sc.names }:=by
 have sz1:(s.heap.push { cls:=.type "list",data:=.seq #[] }).objs.size=s.heap.objs.size+1:=E7 ..
 have keep:∀ b o,s.heap.get? b=some o→(pushCells ((s.heap.push { cls:=.type "list",data:=.seq #[] }).push { cls:=.type "dict",data:=.dict #[] }) sc.names).get? b=some o:=fun b o e =>
  pushCells_keeps _ _ b o (Ee _ (Ee _ e))
 have ok:=cellsFrom_ok sc.names ((s.heap.push { cls:=.type "list",data:=.seq #[] }).push { cls:=.type "dict",data:=.dict #[] }) (s.heap.objs.size+2) [] ⟨fun _ _ hm=>(nomatch hm),List.Pairwise.nil⟩ (by rw[E7,sz1];exact Ek _)
 rw [E7,sz1] at ok
 have cOld:∀ x c,sc.names.lookup x=some .free→c=(X.env.cells.lookup x).getD 0→X.env.cells.lookup x=some c:=fun x c h1 h2=>by
  obtain ⟨d,hd⟩:=I.ok.has x (S.free (x,.free) (mem_of_lookup h1) rfl)
  rw [hd] at h2 ⊢
  rw [h2];rfl
 have hold:∀ x c,X.env.cells.lookup x=some c→c<s.heap.objs.size:=fun x c e=>by
  obtain ⟨v,q⟩:=I.cell x c e
  exact q.lt
 refine ⟨⟨I.ok.mod,S.kind,I.ok.glob,I.ok.blt,Fm _,fun x y c h1 h2=>?_,fun x hx=>?_,fun x c hx h=>?_,I.ok.hd,I.ok.frames,.inl rfl,fun b hb=>⟨?_,fun x c h=>?_⟩,I.bs,Eg I.ok.bsz I.sz,fun b o e hb=>?_,fun b hb=>?_,I.stack,I.stkFree,fun T q h=>I.base.tbls T q (I.ok.tab T q h)⟩,
  rfl,I.bare,Un.kept keep,⟨fun _=>none,?_,fun i x v e1 e2 e3=>?_⟩,fun x c h=>?_,I.hok.fresh (Fm _),fun x c h=>?_,fun p hp=>absurd (show p∈([]:List (Addr×Obj)) from hp) (by simp),I.hok.kept keep,?_⟩
 ·rcases gZ S h1 with ⟨a1,b1,q1⟩|⟨a1,b1⟩ <;> rcases gZ S h2 with ⟨a2,b2,q2⟩|⟨a2,b2⟩
  ·exact name_of_addr ok.apart q1 q2
  ·exact absurd (hold y c (cOld y c a2 b2)) (Nat.not_lt.mpr (Eg (Fi _ 2) b1))
  ·exact absurd (hold x c (cOld x c a1 b1)) (Nat.not_lt.mpr (Eg (Fi _ 2) b2))
  ·exact I.ok.inj x y c (cOld x c a1 b1) (cOld y c a2 b2)
 ·cases q:sc.names.lookup x with
  | none =>
   have z:=sJ (C:=s.heap.objs.size+1) (env:=X.env) q
   rcases hx with hx|hx
   ·exact absurd (hx.symm.trans z) (by simp)
   ·exact absurd (hx.symm.trans z) (by simp)
  | some k =>
   have z:=gY (C:=s.heap.objs.size+1) (env:=X.env) q
   cases k with
   | free=>exact⟨_,d9 S q⟩
   | cell=>exact pb q
   | _ =>
    rcases hx with hx|hx
    ·have:=hx.symm.trans z
     simp at this
    ·have:=hx.symm.trans z
     simp at this
 ·have hx':sc.names.lookup x=some .cell:=of_decide_eq_true hx
  rcases gZ S h with ⟨_,b1,_⟩|⟨a1,_⟩
  ·exact Eg (by omega:s.heap.objs.size≤s.heap.objs.size+1+1) b1
  ·rw [hx'] at a1;cases a1
 ·exact ED (Fv (hlt b hb))
 ·obtain ⟨f0,f1,f2,f3,f4,f5⟩:=hf b hb
  rcases gZ S h with ⟨_,b1,_⟩|⟨a1,b1⟩
  ·exact Fg (Ep (hlt b hb) (Eg (Fi _ 2) b1))
  ·exact f4 x c (cOld x c a1 b1)
 ·obtain ⟨f0,f1,f2,f3,f4,f5⟩:=hf b hb
  rcases f3 with f3|f3
  ·exact I.ok.noex b o e f3
  ·exact absurd (Ep (Eo e) (Eg I.ok.bsz f3)) (Fc _)
 ·obtain ⟨f0,f1,f2,f3,f4,f5⟩:=hf b hb
  intro z
  rcases En.mp (I.stkSub b z) with z|z
  ·exact f1 z
  ·exact f2 z
 ·have q:=(Heap.Ns.new (s.heap.push { cls:=.type "list",data:=.seq #[] }) (.type "dict")).keeps (pushCells_keeps sc.names _)
  rw [sz1] at q
  exact q
 ·have hi:i<ix.length:=by
   have z:=(Ef.mp e2).1
   simpa [dr] using z
  have e2':(dr σ ix)[i]? = (ix[i]?).map fun o=>o.bind fun j=>(σ[j]?).join:=EM ..
  rw [e2',D8 hi] at e2
  have e2:(ix[i]).bind (fun j=>(σ[j]?).join)=some v:=Option.some.inj e2
  cases q:ix[i] with
  | none=>rw[q] at e2;cases e2
  | some j =>
   rw [q] at e2
   have e2:(σ[j]?).join=some v:=e2
   have e2:σ[j]? = some (some v):=by
    cases z:σ[j]? with
    | none=>rw[z] at e2;cases e2
    | some w'=>rw[z] at e2;have e2:w'=some v:=e2;rw[e2]
   obtain ⟨y,c1,c2,c3⟩:=S.cap i j (by rw[D8 hi,q])
   have exy:x=y:=Option.some.inj (e1.symm.trans c1)
   subst exy
   have kd:=S.free (x,.free) (mem_of_lookup c3) rfl
   obtain ⟨m,hn,hl⟩:=I.loc
   obtain ⟨u,ru,lu⟩:=hl j x v c2 e2 (by rcases kd with k|k;exact .inr (.inl k);exact .inr (.inr k))
   refine ⟨u,ru,.inr ⟨?_,?_⟩⟩
   ·rw [show (bCx X N' sc s H (s.heap.objs.size+1) fp).env.kindOf x=_ from gY (C:=s.heap.objs.size+1) (env:=X.env) c3]
    split
    ·exact .inl rfl
    ·exact .inr rfl
   ·rcases lu with ⟨k,_⟩|⟨_,c,hc,hcell⟩
    ·rcases kd with k'|k' <;> rw[k] at k' <;> cases k'
    ·refine ⟨c,?_,hcell.keeps keep⟩
     have:=d9 S (C:=s.heap.objs.size+1) c3
     rw [hc] at this
     exact this
 ·rcases gZ S h with ⟨_,b1,q⟩|⟨a1,b1⟩
  ·exact ⟨none,(ok.empty x c q).1⟩
  ·obtain ⟨v,q⟩:=I.cell x c (cOld x c a1 b1)
   exact ⟨v,q.keeps keep⟩
 ·rcases gZ S h with ⟨_,b1,q⟩|⟨a1,b1⟩
  ·exact I.hok.fresh (Eg (Fi _ 2) b1)
  ·exact I.freeC x c (cOld x c a1 b1)
 ·show (dr σ ix).length=N'.length
  simp [dr,S.len]
theorem gX {pins pins':List (Addr×Obj)}{σ σ2:St}{H H':Hp}{s s':Shared}{fp:List Addr}{C:Addr} (S:ck X.N X.env N' ix sc) (I:Inv X pins σ H s) (hf:∀ b∈fp,gn X pins H b)
  (I':Inv (bCx X N' sc s H C fp) pins' σ2 H' s'):Inv (bCx X N' sc s H C fp) pins' (dr σ ix) H' s':=by
 refine ⟨I'.ok,I'.os,I'.bare,I'.base,?_,I'.cell,I'.free,I'.freeC,I'.pin,I'.hok,by show (dr σ ix).length=N'.length;simp[dr,S.len]⟩
 obtain ⟨m',hn',_⟩:=I'.loc
 refine ⟨m',hn',fun i x v e1 e2 e3=>?_⟩
 have hi:i<ix.length:=by
  have z:=(Ef.mp e2).1
  simpa [dr] using z
 have e2':(dr σ ix)[i]? = (ix[i]?).map fun o=>o.bind fun j=>(σ[j]?).join:=EM ..
 rw [e2',D8 hi] at e2
 have e2:(ix[i]).bind (fun j=>(σ[j]?).join)=some v:=Option.some.inj e2
 cases q:ix[i] with
 | none=>rw[q] at e2;cases e2
 | some j =>
  rw [q] at e2
  have e2:(σ[j]?).join=some v:=e2
  have e2:σ[j]? = some (some v):=by
   cases z:σ[j]? with
   | none=>rw[z] at e2;cases e2
   | some w'=>rw[z] at e2;have e2:w'=some v:=e2;rw[e2]
  obtain ⟨y,c1,c2,c3⟩:=S.cap i j (by rw[D8 hi,q])
  have exy:x=y:=Option.some.inj (e1.symm.trans c1)
  subst exy
  have kd:=S.free (x,.free) (mem_of_lookup c3) rfl
  obtain ⟨m,hn,hl⟩:=I.loc
  obtain ⟨u,ru,lu⟩:=hl j x v c2 e2 (by rcases kd with k|k;exact .inr (.inl k);exact .inr (.inr k))
  refine ⟨u,ru,.inr ⟨?_,?_⟩⟩
  ·rw [show (bCx X N' sc s H C fp).env.kindOf x=_ from gY (C:=C) (env:=X.env) c3]
   split
   ·exact .inl rfl
   ·exact .inr rfl
  ·rcases lu with ⟨k,_⟩|⟨_,c,hc,o,ho,hd⟩
   ·rcases kd with k'|k' <;> rw[k] at k' <;> cases k'
   ·refine ⟨c,?_,?_⟩
    ·have:=d9 S (C:=C) c3
     rw [hc] at this
     exact this
    ·obtain ⟨sl,e⟩:=I'.base.any ho (I.freeC x c hc) fun z=>(hf c z).2.2.2.2.1 x c hc rfl
     exact ⟨_,e,hd⟩
noncomputable def PIf (X:Cx) (ifs:List Expr) (t:TT):Prop :=
 ∀ (pins:List (Addr×Obj)) (s:Shared) (σ:St) (H:Hp) (Q:Bool→Hp→Prop),Inv X pins σ H s→t σ H Q →
  wpAny (model X.prog X.w) X.A (forIn ifs true fun c r=>if r=true then do let ok ←isTrue c X.env (eval c X.env);pure (ForInStep.yield ok) else pure (ForInStep.yield r)) (TP X pins σ Q) X.xe s
noncomputable def Dg:TT:=fun _ H Q=>Q true H
theorem xC {X:Cx}:PIf X [] Dg:=fun _ _ _ H _ I h=>wpAny_tests_nil ⟨H,I,h⟩
theorem xB {X:Cx}{c:Expr}{t:TT} (h:PT X c t):PIf X [c] t:=fun pins s σ H Q I hw=>wpAny_tests_one (h pins s σ H Q I hw)
theorem kZ {prog:Program}{w:World}{A:Around}{R:Result→Shared→Prop}{s:Shared}{elt target iter:Expr}{ifs:List Expr}{scope:Scope}{pos:Pos}{it acc:Value}{env:Env} (I:Nat→Shared→Prop)
  (turn : ∀ n s,I n s→wpAny (model prog w) A (pyNext it) (fun r s₁=>match r with
   | none=>R (.ok .next) s₁
   | some v=>wpAny (model prog w) A (letOwnedTupleGo target it v) (fun _ s₁'=>wpAny (model prog w) A (assign target env v) (fun _ s₂ =>
     wpAny (model prog w) A (forIn ifs true fun c r=>if r=true then do let ok ←isTrue c env (eval c env);pure (ForInStep.yield ok) else pure (ForInStep.yield r)) (fun ok s₃ =>
      if ok=true then wpAny (model prog w) A (eval elt env) (fun x s₄ =>
       wpAny (model prog w) A (call (.builtin "list.append") [acc,x]) (fun _ s₅=>∃ m,m<n∧I m s₅) (fun _ _=>False) s₄) (fun _ _=>False) s₃
      else ∃ m,m<n∧I m s₃) (fun _ _=>False) s₂) (fun _ _=>False) s₁') (fun _ _=>False) s₁) (fun _ _=>False) s)
  (n : Nat) (h:I n s):codeAny (model prog w) A (.compLoop (.ListComp elt [⟨target,iter,ifs,0⟩] scope pos) 0 it acc env) R s:=by
 refine codeAny_loop rfl I (fun n s hI=>?_) n h
 show wpAny _ A ((compTurn (.ListComp elt [⟨target,iter,ifs,0⟩] scope pos) 0 it acc env).onRaise (fun x=>do noteFrame x env;theTreesLotGoes x)) _ _ s
 refine wpAny_noted ?_
 rw [compTurn_list]
 refine wpAny_bind (wpAny_standAt (wpAny_bind (wpAny_mono (turn n s hI) (fun r s₁ h₁=>?_) fun _ _ h'=>h'.elim)))
 cases r with
 | none=>exact wpAny_pure h₁
 | some v =>
  refine wpAny_bind (wpAny_mono h₁ (fun _ s₁' h₁'=>wpAny_bind (wpAny_mono h₁' (fun _ s₂ h₂=>wpAny_bind (wpAny_mono h₂ (fun ok s₃ h₃=>?_) fun _ _ h'=>h'.elim)) fun _ _ h'=>h'.elim)) fun _ _ h'=>h'.elim)
  cases ok with
  | false=>exact wpAny_pure ⟨rfl,h₃⟩
  | true =>
   exact wpAny_bind (wpAny_bind (wpAny_mono h₃ (fun x s₄ h₄=>wpAny_bind (wpAny_mono h₄ (fun _ s₅ h₅=>wpAny_pure (wpAny_pure ⟨rfl,h₅⟩)) fun _ _ h'=>h'.elim)) fun _ _ h'=>h'.elim))
noncomputable def vn (J:It) (σ0:St) (g:TG) (tt:TT) (te:TE) (H1:Hp) (Qe:List V→Hp→Prop):Prop :=
 ∃ W : Nat→Nat→List V→Hp→Prop,(∃ m,W 0 m [] H1)∧∀ i m ys H,W i m ys H →
  (J.stop i H∧Qe ys H) ∨
  (J.go i H∧ys.length<sizeLine∧∃ N:List V→Hp→Prop,(∀ ys' H',N ys' H'→∃ m',m'<m∧W (i+1) m' ys' H') ∧
   ∀ x H',J.yld i H x H'→g x σ0 H' fun σ2 H2=>tt σ2 H2 fun b H3=>if b=true then te σ2 H3 fun y H4=>N (ys++[y]) H4 else N ys H3)
theorem ou {tg iter elt:Expr}{ifs:List Expr}{pos:Pos}{g:TG}{tt:TT}{te:TE}{pins:List (Addr×Obj)}{σ:St}{H:Hp}{s:Shared}{it:Addr}{fp:List Addr}{tn:Nat→Heap→Prop}{J:It}{Qe:List V→Hp→Prop}
  {RR:Value→Addr→Result→Shared→Prop}{E:Value→Shared→Prop}
  (hc:X.calm=true) (S:ck X.N X.env N' ix sc) (hg:∀ s H C fp,PG (bCx X N' sc s H C fp) tg g) (ht:∀ s H C fp,PIf (bCx X N' sc s H C fp) ifs tt) (he:∀ s H C fp,PE (bCx X N' sc s H C fp) elt te)
  (I : Inv X pins σ H s) (T:yX X.prog X.w X.K tg J fp it tn) (st:tn 0 s.heap) (hf:∀ b∈fp,gn X pins H b) (hw:vn J (dr σ ix) g tt te H Qe)
  (fin:∀ s' H' ys m,s'.heap.Ns (s.heap.objs.size+1) m→H' s.heap.objs.size=none→H' (s.heap.objs.size+1)=none→Qe ys H'→Inv X pins σ (upd H' s.heap.objs.size (.lst ys)) s'→RR (.ref s.heap.objs.size) (s.heap.objs.size+1) (.ok .next) s') :
  wpAny (model X.prog X.w) X.A (newList []) (fun acc s₃=>wpAny (model X.prog X.w) X.A (newFunctionEnv sc X.env.globals (ci X.env sc.names []) [] X.env.qual none .none (some X.env)) (fun cenv s₄ =>
   codeAny (model X.prog X.w) X.A (.compStart (.ListComp elt [⟨tg,iter,ifs,0⟩] sc pos) 0 (.ref it) acc { cenv with scope:=relabel sc X.env }) (RR acc cenv.locals) s₄) E s₃) E s:=by
 have hlt:∀ b∈fp,b<s.heap.objs.size:=fun b hb=>by
  obtain ⟨o,e,_⟩:=T.obj _ _ st b hb
  exact Eo e
 refine wpAny_newObj_type (lY ?_)
 have sz1:(s.heap.push { cls:=.type "list",dict:=none,data:=.seq ([]:List Value).toArray }).objs.size=s.heap.objs.size+1:=E7 ..
 have I0:=mr S I hf hlt
 obtain ⟨W,⟨m0,w0⟩,turn⟩:=hw
 have nD:∀ b∈fp,s.heap.objs.size≠b:=fun b hb=>Fg (hlt b hb)
 have freshD:H s.heap.objs.size=none:=I.hok.fresh (Ek _)
 have cellD:∀ x c,(pp sc (s.heap.objs.size+1) X.env).cells.lookup x=some c→c≠s.heap.objs.size:=fun x c h=>by
  rcases gZ S h with ⟨_,b1,_⟩|⟨a1,b1⟩
  ·exact Fg (Ep (Fv (Fp _)) b1)
  ·obtain ⟨d,hd⟩:=I.ok.has x (S.free (x,.free) (mem_of_lookup a1) rfl)
   rw [hd] at b1
   obtain ⟨v,q⟩:=I.cell x d hd
   have e:c=d:=b1
   rw [e]
   exact ED q.lt
 have fsD:s.heap.objs.size ∉ frs X.stack:=fun z=>by
  rcases En.mp (I.stkSub _ z) with z|z
  ·exact absurd I.lt (by rw[←z];exact Fc _)
  ·exact I.nofs (Ek _) z
 have fpB:∀ {pins':List (Addr×Obj)}{H':Hp},(∀ b∈fp,H' b=none)→(∀ p∈pins',∀ b∈fp,p.1≠b)→∀ b∈fp,gn (bCx X N' sc s H (s.heap.objs.size+1) fp) pins' H' b:=fun {pins' H'} h1 h2 b hb =>
  ⟨h1 b hb,(I0.ok.exf b hb).1,I0.ok.exfs b hb,.inl hb,(I0.ok.exf b hb).2,fun p hp=>h2 p (by simpa [bCx] using hp) b hb⟩
 have getD0:(pushCells ((s.heap.push { cls:=.type "list",data:=.seq #[] }).push { cls:=.type "dict",data:=.dict #[] }) sc.names).get? s.heap.objs.size=some { cls:=.type "list",data:=.seq #[] } :=
  pushCells_keeps _ _ _ _ (Ee _ (Er _ rfl))
 have I0':Inv (bCx X N' sc s H (s.heap.objs.size+1) fp) [(s.heap.objs.size,{ cls:=.type "list",data:=.seq #[] })] (dr σ ix) H _:=I0.pins_of (pins':=[(s.heap.objs.size,{ cls:=.type "list",data:=.seq #[] })]) fun p hp=>by
  have e:p=(s.heap.objs.size,{ cls:=.type "list",data:=.seq #[] }):=by simpa using hp
  subst e
  exact ⟨getD0,freshD,ED (Fp _),fsD,fun v z=>by cases z⟩
 have st0:tn 0 (pushCells ((s.heap.push { cls:=.type "list",data:=.seq #[] }).push { cls:=.type "dict",data:=.dict #[] }) sc.names):=T.keep _ _ _ st fun b hb o e=>pushCells_keeps _ _ _ _ (Ee _ (Ee _ e))
 have loop:∀ s4:Shared,s4={ s with heap:=pushCells ((s.heap.push { cls:=.type "list",data:=.seq #[] }).push { cls:=.type "dict",data:=.dict #[] }) sc.names } →
   codeAny (model X.prog X.w) X.A (.compLoop (.ListComp elt [⟨tg,iter,ifs,0⟩] sc pos) 0 (.ref it) (.ref s.heap.objs.size) (pp sc (s.heap.objs.size+1) X.env)) (RR (.ref s.heap.objs.size) (s.heap.objs.size+1)) s4:=by
  rintro s4 rfl
  refine kZ (fun n s'=>∃ (i:Nat) (ys:List V) (its:List Value) (k:Nat) (H':Hp),Inv (bCx X N' sc s H (s.heap.objs.size+1) fp) [(s.heap.objs.size,{ cls:=.type "list",data:=.seq its.toArray k })] (dr σ ix) H' s' ∧
   tn i s'.heap∧(∀ b∈fp,H' b=none)∧aO ys its∧ys.length≤sizeLine∧W i n ys H') ?_ m0 ⟨0,[],[],0,H,I0',st0,fun b hb=>(hf b hb).1,.nil,Ez _,w0⟩
  rintro n s3 ⟨i,ys,its,k,H3,I3,st3,fr3,rv,hz,w3⟩
  have fp3:=fpB (pins':=[(s.heap.objs.size,{ cls:=.type "list",data:=.seq its.toArray k })]) fr3 (fun p hp b hb=>by
   have e:p=(s.heap.objs.size,{ cls:=.type "list",data:=.seq its.toArray k }):=by simpa using hp
   rw [e];exact nD b hb)
  rcases turn i n ys H3 w3 with ⟨stop,qe⟩|⟨go,hz3,N,hN,step⟩
  ·refine thn (T.done (bCx X N' sc s H (s.heap.objs.size+1) fp) rfl rfl rfl hc i _ s3 _ H3 (fun _ _=>False) I3 fp3 st3 stop) fun r s4 zz7=>?_
   obtain ⟨hr,I4⟩:=zz7
   subst hr
   obtain ⟨pg,pn,_⟩:=I4.pin (s.heap.objs.size,{ cls:=.type "list",data:=.seq its.toArray k }) (D9 _ Eh)
   obtain ⟨m,hm,_⟩:=I4.loc
   refine fin s4 H3 ys m hm pn I4.free qe ?_
   refine I.call' (ch:=fp) I4.os ⟨I4.base.keep,I4.base.slot,fun b o e n hx=>?_,I4.base.there,fun b xs q=>?_,fun b o u q=>?_,fun b ps q=>?_⟩ (fun b o e=>?_) I4.bare fun b hb=>?_
   ·rw [am (ED (Eo e))]
    exact I4.base.free b o e n hx
   ·have q':=I4.base.tups b xs q
    rw [am (au q' pn)]
    exact q'
   ·have q':=I4.base.frzs b o u q
    rw [am (au q' pn)]
    exact q'
   ·have q':=I4.base.tbls b ps q
    rw [am (au q' pn)]
    exact q'
   ·by_cases hb:b=s.heap.objs.size
    ·subst hb
     rw [aB] at e
     cases e
     exact ⟨hz,its,k,rv,pg⟩
    ·rw [am hb] at e
     exact (I4.hok b o e).stay (fun c v _ q=>q) (fun c q=>by rw[am (au q pn)];exact q) fun c xs _ q=>by rw[am (au q pn)];exact q
   ·obtain ⟨f0,f1,f2,f3,f4,f5⟩:=hf b hb
    exact ⟨f3,f1,f4,f5⟩
  ·refine thn (T.item (bCx X N' sc s H (s.heap.objs.size+1) fp) rfl rfl rfl hc i _ s3 _ H3 (fun _ _=>False) I3 fp3 st3 go) fun r s4 zz8=>?_
   obtain ⟨u,hr,h4⟩:=zz8
   subst hr
   refine thn h4 fun _ s5 zz0=>?_
   obtain ⟨x,H5,I5,r5,y5,st5,fr5⟩:=zz0
   have fp5:=fpB (pins':=[(s.heap.objs.size,{ cls:=.type "list",data:=.seq its.toArray k })]) fr5 (fun p hp b hb=>by
    have e:p=(s.heap.objs.size,{ cls:=.type "list",data:=.seq its.toArray k }):=by simpa using hp
    rw [e];exact nD b hb)
   have I5':=I5.pinned fp5 (T.obj _ _ st5)
   refine thn (hg s H _ fp _ s5 _ H5 x u _ I5' r5 (step x H5 y5)) fun _ s6 zz1=>?_
   obtain ⟨σ6,H6,I6,q6⟩:=zz1
   have back:∀ {σ7:St}{H7:Hp}{s7:Shared},Inv (bCx X N' sc s H (s.heap.objs.size+1) fp) ([(s.heap.objs.size,{ cls:=.type "list",data:=.seq its.toArray k })]++fG fp s5.heap) σ7 H7 s7 →
     tn (i+1) s7.heap∧(∀ b∈fp,H7 b=none):=fun {σ7 H7 s7} I7=>by
    refine ⟨T.keep _ _ _ st5 fun b hb o e=>(I7.pin (b,o) (D9 _ (D9 _ (dN hb e)))).1,fun b hb=>?_⟩
    obtain ⟨o,e,d⟩:=T.obj _ _ st5 b hb
    exact (I7.pin (b,o) (D9 _ (D9 _ (dN hb e)))).2.1
   refine thn (ht s H _ fp _ s6 σ6 H6 _ I6 q6) fun ok s7 zz2=>?_
   obtain ⟨H7,I7,q7⟩:=zz2
   cases ok with
   | false =>
    rw [if_neg Et] at q7 ⊢
    obtain ⟨m',hm',w7⟩:=hN _ _ q7
    exact ⟨m',hm',i+1,ys,its,k,H7,gX S I hf I7.unpinned,(back I7).1,(back I7).2,rv,hz,w7⟩
   | true =>
    rw [if_pos rfl] at q7 ⊢
    refine thn (he s H _ fp _ s7 σ6 H7 _ I7 q7) fun xv s8 zz3=>?_
    obtain ⟨y,H8,I8,r8,q8⟩:=zz3
    obtain ⟨m',hm',w8⟩:=hN _ _ q8
    obtain ⟨pg,pn,_⟩:=I8.pin (s.heap.objs.size,{ cls:=.type "list",data:=.seq its.toArray k }) (D9 _ (Ec _ Eh))
    refine wpAny_list_append_plain (l:=s.heap.objs.size) (items:=its.toArray) ⟨k,pg⟩ (fun h9 hl9 hs9=>?_) (by have:=rv.length;simp;omega)
    obtain ⟨k9,g9⟩:=hl9
    have I8':Inv (bCx X N' sc s H (s.heap.objs.size+1) fp) (fG fp s5.heap) σ6 H8 s8:=I8.pins_of fun p hp=>I8.pin p (D9 _ (D9 _ hp))
    have I9:Inv (bCx X N' sc s H (s.heap.objs.size+1) fp) (fG fp s5.heap) σ6 H8 { s8 with heap:=h9 }:=I8'.turned (t':=s8.toks) (it:=s.heap.objs.size) (fun b o hb e=>hs9.extBut b o hb e) pn (ED (Fp _)) (.inr (Ek _)) cellD
     fun p hp=>by
      have hp':p∈fG fp s5.heap:=by simpa [bCx] using hp
      exact (nD _ (kj hp').1).symm
    have I9':Inv (bCx X N' sc s H (s.heap.objs.size+1) fp) [(s.heap.objs.size,{ cls:=.type "list",data:=.seq (its++[xv]).toArray k9 })] σ6 H8 { s8 with heap:=h9 }:=I9.pins_of fun p hp=>by
     have e:p=(s.heap.objs.size,{ cls:=.type "list",data:=.seq (its++[xv]).toArray k9 }):=by simpa using hp
     subst e
     refine ⟨?_,pn,ED (Fp _),fsD,fun v z=>by cases z⟩
     simpa using g9
    refine ⟨m',hm',i+1,ys++[y],its++[xv],k9,H8,gX S I hf I9',?_,(back I8).2,rv.append (.cons r8 .nil),by simp;omega,w8⟩
    exact T.keep _ _ _ (back I8).1 fun b hb o e=>hs9.extBut b o (nD b hb).symm e
 have key:=codeAny_compStart_list (iter:=iter) (loop _ rfl) (T.self X.A 0 { s with heap:=pushCells ((s.heap.push { cls:=.type "list",data:=.seq #[] }).push { cls:=.type "dict",data:=.dict #[] }) sc.names } _ _ st0 (loop _ rfl))
 simpa only [newEnv,sz1,pp,compEnvC] using key
noncomputable def tD (wi:TI) (ix:List (Option Nat)) (g:TG) (tt:TT) (te:TE):TE:=fun σ H Q=>wi σ H fun J H1=>vn J (dr σ ix) g tt te H1 fun ys H2=>∀ p,H2 p=none→Q (.ref p) (upd H2 p (.lst ys))
theorem ck.clos {pins:List (Addr×Obj)}{σ:St}{H:Hp}{s:Shared} (S:ck X.N X.env N' ix sc) (I:Inv X pins σ H s):closureFor sc X.env=pure (ci X.env sc.names []) :=
 jz fun y hy e=>by
  obtain ⟨c,hc⟩:=I.ok.has y.1 (S.free y hy e)
  rw [hc];rfl
theorem xN {tg iter elt:Expr}{ifs:List Expr}{pos:Pos}{wi:TI}{g:TG}{tt:TT}{te:TE} (hc:X.calm=true) (S:ck X.N X.env N' ix sc) (hi:PI X tg iter wi)
  (hg:∀ s H C fp,PG (bCx X N' sc s H C fp) tg g) (ht:∀ s H C fp,PIf (bCx X N' sc s H C fp) ifs tt) (he:∀ s H C fp,PE (bCx X N' sc s H C fp) elt te)
  (hs:∀ x,foldedSetIterable iter X.env x=pure x:=by intro _;rfl):PE X (.ListComp elt [⟨tg,iter,ifs,0⟩] sc pos) (tD wi ix g tt te):=by
 intro pins s σ H Q I h
 rw [eval_ListComp]
 refine wpAny_comprehension_free (use:=none) rfl hs (S.clos I) S.kind S.names (thn (hi pins s σ H _ I h) fun v s1 h1=>thn h1 fun itv s2 zz4=>?_)
 obtain ⟨it,fp,tn,J,H2,e,I2,T,st2,f2,hw⟩:=zz4
 subst e
 refine ou (RR:=fun acc C=>compPost (model X.prog X.w) X.A X.xe none (EP X pins σ Q) acc C) hc S hg ht he I2 T st2 f2 hw fun s' H' ys m hn hD hC q I'=>?_
 refine ⟨m,hn,fun h' hs'=>?_⟩
 have nn:(upd H' s2.heap.objs.size (.lst ys)) (s2.heap.objs.size+1)=none:=by
  rw [am (Fg (Fp _))];exact hC
 obtain ⟨f0,f1,f2,f3,f4,f5⟩:=I2.fpOk (H':=upd H' s2.heap.objs.size (.lst ys)) (b:=s2.heap.objs.size+1) (Fm _) nn
 exact ⟨.ref s2.heap.objs.size,_,I'.turned (t':=s'.toks) (it:=s2.heap.objs.size+1) (fun b o hb e=>hs'.extBut b o hb e) f0 f1 f3 f4 f5,rfl,q _ hD⟩
theorem iK {i:Nat}{y:Str}{tg iter elt:Expr}{ifs:List Expr}{pos spos py:Pos}{wi:TI}{g:TG}{tt:TT}{te:TE} (hN:X.N.Nodup) (hi':X.N[i]? = some y) (hy:X.env.scope.names.lookup y=some .local)
  (hc:X.calm=true) (S:ck X.N X.env N' ix sc) (hi:PI X tg iter wi)
  (hg:∀ s H C fp,PG (bCx X N' sc s H C fp) tg g) (ht:∀ s H C fp,PIf (bCx X N' sc s H C fp) ifs tt) (he:∀ s H C fp,PE (bCx X N' sc s H C fp) elt te)
  (hsw:swapsWith (.ListComp elt [⟨tg,iter,ifs,0⟩] sc pos) (some (.Name y py)) spos.line X.env=pure true:=by rfl)
  (hs:∀ x,foldedSetIterable iter X.env x=pure x:=by intro _;rfl):PS X (.Assign [.Name y py] (.ListComp elt [⟨tg,iter,ifs,0⟩] sc pos) spos) (Bf (tD wi ix g tt te) (uJ i)):=by
 intro pins s σ H D I h
 rw [exec_Assign_Name_used _ _ _ _ hsw]
 refine wpAny_bind (wpAny_standAt (wpAny_bind ?_))
 show wpAny _ X.A (do let _ ←comprehension (.ListComp elt [⟨tg,iter,ifs,0⟩] sc pos) sc X.env _ (newList []) false (eval iter X.env) (some (assign (.Name y py) X.env))) _ _ s
 refine wpAny_bind (wpAny_mono (wpAny_comprehension_free (use:=some (assign (.Name y py) X.env)) (Q:=fun _ s'=>SP X pins D .next s') rfl hs (S.clos I) S.kind S.names
  (thn (hi pins s σ H _ I h) fun v s1 h1=>thn h1 fun itv s2 ⟨it,fp,tn,J,H2,e,I2,T,st2,f2,hw⟩=>?_)) (fun _ s' hq=>wpAny_pure (wpAny_pure hq)) fun _ _ e=>e)
 subst e
 refine ou (RR:=fun acc C=>compPost (model X.prog X.w) X.A X.xe (some (assign (.Name y py) X.env)) (fun _ s'=>SP X pins D .next s') acc C) hc S hg ht he I2 T st2 f2 hw fun s' H' ys m hn hD hC q I'=>?_
 have nn:(upd H' s2.heap.objs.size (.lst ys)) (s2.heap.objs.size+1)=none:=by
  rw [am (Fg (Fp _))];exact hC
 obtain ⟨f0,f1,f2,f3,f4,f5⟩:=I2.fpOk (H':=upd H' s2.heap.objs.size (.lst ys)) (b:=s2.heap.objs.size+1) (Fm _) nn
 show wpAny _ X.A (assign (.Name y py) X.env (.ref s2.heap.objs.size)) _ _ _
 refine wpAny_assign_Name (jV (v:=.ref s2.heap.objs.size) I' hN hi' (.inl hy) rfl (fun s'' I'' zz5=>?_) (.inr hy))
 obtain ⟨a,hsb,ha⟩:=zz5
 have ne:s2.heap.objs.size+1≠a:=by
  rcases ha with rfl|ha
  ·exact f1
  ·exact fun z=>f4 y a ha z.symm
 refine ⟨m,hn.sameBut hsb ne,fun h' hs'=>?_⟩
 exact ⟨_,_,I''.turned (t':=s''.toks) (it:=s2.heap.objs.size+1) (fun b o hb e=>hs'.extBut b o hb e) f0 f1 f3 f4 f5,q _ hD⟩
end
end _L
namespace _L
open PySem
open Sem (wp)
section
variable {prog:Program}{w:World}
noncomputable def cZ (prog:Program) (w:World) (h:Heap) (k:Int×List Int) (a:Addr):Prop :=
 ∃ o t b n,h.get? a=some o∧o.cls=.type "tuple" ∧ o.data=.seq #[.int k.1 t,.ref b] n∧IsTupleKey (intKind prog w) h k.2 b
theorem dQ (i:Int) (t:Tok):(intKind prog w).is i (.int i t)=true:=by simp[intKind,Value.isInt]
theorem cZ.typeIs {s:Shared}{k:Int×List Int}{a:Addr} (x:cZ prog w s.heap k a):s.TypeIs (.ref a) "tuple" := let ⟨o,_,_,_,ho,hc,_⟩:=x;⟨o,ho,hc⟩
theorem cZ.inj {h:Heap}{a:Addr}{x y:Int×List Int} (hx:cZ prog w h x a) (hy:cZ prog w h y a):x=y:=by
 obtain ⟨x1,x2⟩:=x
 obtain ⟨y1,y2⟩:=y
 obtain ⟨o,t,b,n,ho,_,hd,hi⟩:=hx
 obtain ⟨o',t',b',n',ho',_,hd',hi'⟩:=hy
 obtain rfl:o=o':=Option.some.inj (ho.symm.trans ho')
 rw [hd] at hd'
 injection hd' with h1 _
 simp only [Array.mk.injEq,List.cons.injEq,Value.int.injEq,Value.ref.injEq,and_true] at h1
 obtain ⟨⟨e1,_⟩,e2⟩:=h1
 subst e2
 have e3:x2=y2:=hi.inj hi'
 rw [e1,e3]
theorem cZ.keeps {h h':Heap}{k:Int×List Int}{a d:Addr}{o:Obj}{es ep} (x:cZ prog w h k a) (ho:h.get? d=some o) (hd:o.data=.dict es ep) (hs:Heap.SameBut d h h') :
  cZ prog w h' k a:=by
 obtain ⟨o',t,b,n,ho',hc,hd',hi⟩:=x
 have hne:a≠d:=by
  rintro rfl
  obtain rfl:o'=o:=Option.some.inj (ho'.symm.trans ho)
  rw [hd] at hd';exact nomatch hd'
 exact ⟨o',t,b,n,(hs.2 a hne).trans ho',hc,hd',hi.keeps ho hd hs⟩
noncomputable def lG (prog:Program) (w:World) (k:Int×List Int):Int:=reduceHash (Builtin.Tuple.tupleHashOf [hashInt k.1,tupleKeyHash (intKind prog w) k.2])
variable {A:Around}{E:Value→Shared→Prop}{s:Shared}
theorem oF {k:Int×List Int}{a:Addr}{Q:Int→Shared→Prop} (hu:A.units+1<cLine) (hk:cZ prog w s.heap k a) (h:Q (lG prog w k) { s with toks:=s.toks+(k.2.length+3) }) :
  wpAny (model prog w) A (pyHash (.ref a)) Q E s:=by
 have hT:=hk.typeIs
 obtain ⟨k1,k2⟩:=k
 obtain ⟨o,t,b0,n,ho,_,hd,hi⟩:=hk
 unfold pyHash
 first|unfold pyHashByItsType|skip
 first|refine wpAny_bind (wpAny_cRoomFor_or (.inr (by omega)) ?_)|skip
 refine wpAny_bind (wpAny_specialOf hT F.slot_tuple_hash.lookup ?_)
 show wpAny _ _ (if (some (Value.builtin "tuple.__hash__")==some Value.none)=true then _ else _) Q E s
 rw [if_neg (by rw[beq_builtin_none];exact Et)]
 refine wpAny_bind (wpAny_specialOf hT F.slot_tuple_hash.lookup ?_)
 show wpAny _ _ (callSpecialIfBoundUnlessNone? (.ref a) "__hash__" _ >>= _) Q E s
 refine wpAny_bind (wpAny_callSpecialIfBoundUnlessNone?_slot hT F.slot_tuple_hash (wpAny_call_entry F.slot_tuple_hash hT F.entry_tuple_hash ?_ (F.args_tuple_hash_1 _)))
 show wpAny _ _ (Builtin.Tuple.tupleItemsOf (.ref a) >>= _) _ _ s
 refine wpAny_bind (wpAny_tupleItemsOf ho hd ?_)
 refine wpAny_bind ?_
 rw [←Array.forIn_toList]
 refine wpAny_forIn_list _
  (fun dc (b:Array Int) s'=>(dc=[.int k1 t,.ref b0]∧b.toList=[]∧s'=s)∨(dc=[.ref b0]∧b.toList=[hashInt k1]∧s'={ s with toks:=s.toks+1 })∨(dc=[]∧b.toList=[hashInt k1,tupleKeyHash (intKind prog w) k2]∧s'={ s with toks:=s.toks+1+(k2.length+1) }))
  _ ?_ ?_ _ _ (.inl ⟨rfl,rfl,rfl⟩)
 ·rintro x dc b s' (⟨hr,hb,rfl⟩|⟨hr,hb,rfl⟩|⟨hr,hb,rfl⟩)
  ·injection hr with e1 e2
   subst e1 e2
   refine wpAny_bind ((intKind prog w).pyHash (dQ k1 t) ?_)
   first
    | exact wpAny_pure (.inr (.inl ⟨rfl,by simp[hb,intKind],rfl⟩))
    | exact wpAny_bind (wpAny_pure (wpAny_pure (.inr (.inl ⟨rfl,by simp[hb,intKind],rfl⟩))))
  ·injection hr with e1 e2
   subst e1 e2
   refine wpAny_bind (wpAny_pyHash_tuple (knd:=intKind prog w) hu hi ?_)
   first
    | exact wpAny_pure (.inr (.inr ⟨rfl,by simp[hb],rfl⟩))
    | exact wpAny_bind (wpAny_pure (wpAny_pure (.inr (.inr ⟨rfl,by simp[hb],rfl⟩))))
  ·cases hr
 ·rintro b s' (⟨hr,hb,rfl⟩|⟨hr,hb,rfl⟩|⟨hr,hb,rfl⟩)
  ·cases hr
  ·cases hr
  show wpAny _ _ (retInt (Builtin.Tuple.tupleHashOf b.toList)) _ _ _
  rw [hb]
  refine wpAny_ret_mkInt ?_
  show wpAny _ _ (if (decide (-(2:Int) ^ 63≤Builtin.Tuple.tupleHashOf _)&&decide (Builtin.Tuple.tupleHashOf _<2 ^ 63))=true then _ else _) Q E _
  unfold lG reduceHash at h
  generalize Builtin.Tuple.tupleHashOf [hashInt k1,tupleKeyHash (intKind prog w) k2]=z at *
  by_cases hr:(decide (-(2:Int) ^ 63≤z)&&decide (z<2 ^ 63))=true
  ·rw [if_pos hr]
   rw [if_pos hr] at h
   refine wpAny_pure ?_
   have e:s.toks+1+(k2.length+1)+1=s.toks+(k2.length+3):=by omega
   simpa [e] using h
  ·rw [if_neg hr]
   rw [if_neg hr] at h
   refine wpAny_bind (wpAny_rule (wpAny_pure ?_))
   have e:s.toks+1+(k2.length+1)+1=s.toks+(k2.length+3):=by omega
   simpa [e] using h
theorem lF {x y:Int×List Int}{a b:Addr}{P:Fin→Shared→Prop} (hu:A.units<cLine) (hx:cZ prog w s.heap x a) (hy:cZ prog w s.heap y b) (h:P (.done (.ret (.bool (decide (x=y))))) s) :
  wpAny (model prog w) A (Builtin.«tuple.__eq__» ⟨[.ref a,.ref b],[]⟩) P E s:=by
 have hTb:=hy.typeIs
 obtain ⟨x1,x2⟩:=x
 obtain ⟨y1,y2⟩:=y
 obtain ⟨oa,ta,ba,na,hoa,_,hda,hia⟩:=hx
 obtain ⟨ob,tb,bb,nb,hob,_,hdb,hib⟩:=hy
 show wpAny _ _ (isInstance (.ref b) (.type "tuple") >>= _) _ _ s
 refine wpAny_bind (wpAny_isInstance hTb isSubtype_tuple_tuple ?_)
 simp only [Fw,EQ,if_false]
 refine wpAny_bind (wpAny_tupleItemsOf hoa hda ?_)
 refine wpAny_bind (wpAny_tupleItemsOf hob hdb ?_)
 refine wpAny_bind ?_
 refine wpAny_forIn_list _
  (fun dc r s'=>r.1=none∧s'=s∧(dc=[(.int x1 ta,.int y1 tb),(.ref ba,.ref bb)]∨(dc=[(.ref ba,.ref bb)]∧x1=y1)∨(dc=[]∧x1=y1∧x2=y2)))
  _ ?_ ?_ _ _ ⟨rfl,rfl,.inl rfl⟩
 ·rintro ⟨u,v⟩ dc r s' ⟨hr,rfl,(hz|⟨hz,e1⟩|⟨hz,_⟩)⟩
  ·simp only [List.cons.injEq,Prod.mk.injEq] at hz
   obtain ⟨⟨rfl,rfl⟩,rfl⟩:=hz
   refine wpAny_bind ((intKind prog w).eqBool (dQ x1 ta) (dQ y1 tb) ?_)
   by_cases hk:x1=y1
   ·subst hk
    rw [decide_eq_true rfl]
    simp only [Fw,EQ,if_false]
    exact wpAny_pure ⟨rfl,rfl,.inr (.inl (by simp))⟩
   ·rw [decide_eq_false hk]
    simp only [Bool.not_false,if_true]
    have hf:decide ((x1,x2)=(y1,y2))=false:=by simp[hk]
    rw [hf] at h
    exact wpAny_bind (wpAny_pure (wpAny_pure (wpAny_pure h)))
  ·simp only [List.cons.injEq,Prod.mk.injEq] at hz
   obtain ⟨⟨rfl,rfl⟩,rfl⟩:=hz
   refine wpAny_bind (wpAny_eqBool_tuple hu hia hib ?_)
   by_cases hk:x2=y2
   ·rw [decide_eq_true hk]
    simp only [Fw,EQ,if_false]
    exact wpAny_pure ⟨rfl,rfl,.inr (.inr (by simp[e1,hk]))⟩
   ·rw [decide_eq_false hk]
    simp only [Bool.not_false,if_true]
    have hf:decide ((x1,x2)=(y1,y2))=false:=by simp[hk]
    rw [hf] at h
    exact wpAny_bind (wpAny_pure (wpAny_pure (wpAny_pure h)))
  ·cases hz
 ·rintro ⟨r1,r2⟩ s' ⟨hr,rfl,(hz|⟨hz,e1⟩|⟨hz,e1,e2⟩)⟩
  ·cases hz
  ·cases hz
  simp only at hr
  subst hr
  refine wpAny_pure ?_
  rw [decide_eq_true (by rw[e1,e2])] at h
  exact h
theorem oG {x y:Int×List Int}{a b:Addr}{Q:Bool→Shared→Prop} (hu:A.units+1<cLine) (hx:cZ prog w s.heap x a) (hy:cZ prog w s.heap y b) (h:Q (decide (x=y)) s) :
  wpAny (model prog w) A (eqBool (.ref a) (.ref b)) Q E s:=by
 unfold eqBool
 try with_reducible refine wpAny_holding ?_
 show wpAny _ _ (if (Value.ref a==Value.ref b)=true then _ else _) Q E s
 by_cases hab:(Value.ref a==Value.ref b)=true
 ·rw [if_pos hab]
  have e:a=b:=by have:=eq_of_beq hab;injection this
  subst e
  obtain rfl:=hx.inj hy
  exact wpAny_bind (wpAny_rule (wpAny_pure (by simpa using h)))
 ·rw [if_neg hab]
  exact wpAny_bind (wpAny_richCompare_same_room (op:=.Eq) hx.typeIs hy.typeIs F.slot_tuple_eq
   (wpAny_call_entry F.slot_tuple_eq hx.typeIs F.entry_tuple_eq (lF hu hx hy ⟨_,rfl,(fun e=>nomatch e),wpAny_truthy_bool h⟩) (F.args_tuple_eq_2 _ _)) (by omega))
theorem qh {n:Nat}{ks:List Int}{a:Addr}{Q:Bool→Shared→Prop} (hk:IsTupleKey (intKind prog w) s.heap ks a) (h:Q true s):wpAny (model prog w) A (eqIsQuiet (n+1) (.ref a)) Q E s:=by
 have hT:=hk.typeIs
 obtain ⟨o,items,m,ho,_,hd,hi⟩:=hk
 unfold eqIsQuiet
 refine wpAny_bind (wpAny_specialOf hT F.slot_tuple_eq.lookup ?_)
 show wpAny _ _ (isInstance (.ref a) (.type "tuple") >>= _) _ _ s
 refine wpAny_bind (wpAny_isInstance hT isSubtype_tuple_tuple ?_)
 simp only [Fw,EQ,if_false]
 refine wpAny_bind (wpAny_seqItems ho hd ?_)
 refine wpAny_bind ?_
 show wpAny _ _ (forIn items _ _) _ _ s
 rw [←Array.forIn_toList]
 refine wpAny_forIn_list _ (fun dc r s'=>r.1=none∧s'=s∧∀ v∈dc,carriedByValue v=true) _ ?_ ?_ _ _ ⟨rfl,rfl,hi.byValue⟩
 ·rintro v dc r s' ⟨hr,rfl,hall⟩
  rw [eqIsQuiet_byValue _ (hall v Eh)]
  refine wpAny_bind (wpAny_pure ?_)
  simp only [Fw,EQ,if_false]
  exact wpAny_pure ⟨rfl,rfl,fun u hu'=>hall u (Ej _ hu')⟩
 ·rintro ⟨r1,r2⟩ s' ⟨hr,rfl,_⟩
  simp only at hr
  subst hr
  exact wpAny_pure h
theorem pJ {k:Int×List Int}{a:Addr}{Q:Bool→Shared→Prop} (hk:cZ prog w s.heap k a) (h:Q true s):wpAny (model prog w) A (eqIsQuiet 8 (.ref a)) Q E s:=by
 have hT:=hk.typeIs
 obtain ⟨o,t,b,n,ho,_,hd,hi⟩:=hk
 unfold eqIsQuiet
 refine wpAny_bind (wpAny_specialOf hT F.slot_tuple_eq.lookup ?_)
 show wpAny _ _ (isInstance (.ref a) (.type "tuple") >>= _) _ _ s
 refine wpAny_bind (wpAny_isInstance hT isSubtype_tuple_tuple ?_)
 simp only [Fw,EQ,if_false]
 refine wpAny_bind (wpAny_seqItems ho hd ?_)
 refine wpAny_bind ?_
 show wpAny _ _ (forIn _ _ _) _ _ s
 rw [←Array.forIn_toList]
 refine wpAny_forIn_list _ (fun dc r s'=>r.1=none∧s'=s∧∀ v∈dc,carriedByValue v=true∨v=.ref b) _ ?_ ?_ _ _ ⟨rfl,rfl,fun v hv=>?_⟩
 ·rintro v dc r s' ⟨hr,rfl,hall⟩
  rcases hall v Eh with hv|rfl
  ·rw [eqIsQuiet_byValue _ hv]
   refine wpAny_bind (wpAny_pure ?_)
   simp only [Fw,EQ,if_false]
   exact wpAny_pure ⟨rfl,rfl,fun u hu'=>hall u (Ej _ hu')⟩
  ·refine wpAny_bind (qh hi ?_)
   simp only [Fw,EQ,if_false]
   exact wpAny_pure ⟨rfl,rfl,fun u hu'=>hall u (Ej _ hu')⟩
 ·rintro ⟨r1,r2⟩ s' ⟨hr,rfl,_⟩
  simp only at hr
  subst hr
  exact wpAny_pure h
 ·simp at hv
  rcases hv with rfl|rfl
  ·exact .inl rfl
  ·exact .inr rfl
end
noncomputable def bK (prog:Program) (w:World):HeapKind prog w (Int×List Int) where
 is := cZ prog w
 hash:=lG prog w
 draws:=fun k=>k.2.length+3
 room:=fun A=>A.units+1<cLine
 inj:=fun hx hy=>hx.inj hy
 keeps:=fun x ho hd hs=>x.keeps ho hd hs
 pyHash:=fun hu hk h=>oF hu hk h
 eqBool:=fun hu hx hy h=>oG hu hx hy h
 quiet:=fun hk h=>pJ hk h
noncomputable abbrev aM:=Int×List Int
noncomputable def tE (k:aM):Int:=reduceHash (Builtin.Tuple.tupleHashOf [hashInt k.1,reduceHash (Builtin.Tuple.tupleHashOf (k.2.map hashInt))])
noncomputable def nV (x:aM×Addr×Value):DictEntry:=⟨tE x.1,.ref x.2.1,x.2.2⟩
theorem ga {prog:Program}{w:World}{A:Around} (hu:A.units+2<cLine):(bK prog w).room A.in1:=hu
end _L
namespace _L
open PySem
section
variable {prog:Program}{w:World}{A:Around}{E:Value→Shared→Prop}{s:Shared}{d a:Addr}{xs:List (aM×Addr×Value)}{k:aM}{v:Value}
noncomputable def mF (prog:Program) (w:World) (h:Heap) (d:Addr) (xs:List (aM×Addr×Value)):Prop :=
 ∃ o ds ep,h.get? d=some o∧o.ExactDict∧o.data=.dict ds ep∧ds.toList=xs.map nV∧(∀ x∈xs,cZ prog w h x.1 x.2.1)∧(xs.map (·.1)).Nodup∧ep=xs.length
theorem mF.of {h:Heap} (x:mF prog w h d xs):h.DictOfH (bK prog w) d xs:=by
 obtain ⟨o,ds,ep,h1,h2,h3,h4,h5,h6,_⟩:=x
 exact ⟨o,ds,ep,h1,h2,h3,h4,h5,h6⟩
theorem kW {Q:Unit→Shared→Prop} (hu:A.units+1<cLine) (hkey:cZ prog w s.heap k a) (hm:mF prog w s.heap d xs)
  (hQ:∀ h',mF prog w h' d (storedH xs k a v)→Heap.SameBut d s.heap h'→Q () { s with heap:=h',toks:=s.toks+(k.2.length+3) }) (hsz:xs.length≤sizeLine) :
  wpAny (model prog w) A (dictSet d (.ref a) v) Q E s:=by
 obtain ⟨o,es,ep,ho,hc,hd,he,his,hn,hl⟩:=hm
 unfold dictSet
 try with_reducible refine wpAny_holding ?_
 refine wpAny_bind ((bK prog w).pyHash hu hkey ?_)
 unfold dictSetHashed
 try with_reducible refine wpAny_holding ?_
 refine wpAny_bind (wpAny_dictFind_heap (knd:=bK prog w) (s:={ s with toks:=s.toks+(bK prog w).draws k }) hu hkey ho hd he his hn ?_ ?_)
 ·intro hno
  have hnot:k ∉ xs.map (·.1):=not_mem_keys_of_get hno
  refine wpAny_bind (wpAny_rule (wpAny_updateDictKeys (hz:=by have e:=size_of_entries (knd:=bK prog w) he;omega) (s:={ s with toks:=s.toks+(bK prog w).draws k }) ho hd (hQ _ ⟨_,_,ep+1,Fh _ ho (Obj.isFreed_of_dict (Obj.data_mapDictKeys hd _)),
   hc.mapDictKeys _,Obj.data_mapDictKeys hd _,?_,?_,?_,?_⟩ (Heap.SameBut.update ..))))
  all_goals rw[storedH_new (atKey_none_of_get hno)]
  ·simp [he,nV,entryOfKey]
   rfl
  ·intro x hx
   rcases Ed.mp hx with hx|hx
   ·exact (bK prog w).keeps (his x hx) ho hd (Heap.SameBut.update ..)
   ·simp only [Eb] at hx
    subst hx
    exact (bK prog w).keeps hkey ho hd (Heap.SameBut.update ..)
  ·rw [EH,Ei]
   refine ⟨hn,by simp,fun x hx y hy=>?_⟩
   simp only [Eu,FQ,Eb] at hy
   subst hy
   exact fun e=>hnot (e▸hx)
  ·rw [hl];simp
 ·intro j p hj
  refine wpAny_bind (wpAny_rule (wpAny_bind (wpAny_updateDict (s:={ s with toks:=s.toks+(bK prog w).draws k }) ho hd (wpAny_point (hQ _ ⟨_,_,ep,Fh _ ho (Obj.isFreed_of_dict (Obj.data_mapDict hd _)),
   hc.mapDict _,Obj.data_mapDict hd _,?_,?_,?_,?_⟩ (Heap.SameBut.update ..))))))
  all_goals rw[storedH_old (atKey_of_get hn hj)]
  ·have:=modify_map_putAt nV (fun e:DictEntry=>{ e with val:=v }) k v (fun _ _=>rfl) hn hj
   rw [←he] at this
   obtain ⟨l⟩:=es
   simpa using this
  ·intro x hx
   obtain ⟨y,hy,rfl⟩:=Em.mp hx
   unfold putAt
   split <;> exact (bK prog w).keeps (his y hy) ho hd (Heap.SameBut.update ..)
  ·rw [keys_map_putAt];exact hn
  ·rw [hl];simp
theorem p9 {Q:Unit→Shared→Prop} (hu:A.in1.units+1<cLine) (hkey:cZ prog w s.heap k a) (hm:mF prog w s.heap d xs)
  (hQ:∀ h',mF prog w h' d (storedH xs k a v)→Heap.SameBut d s.heap h'→Q () { s with heap:=h',toks:=s.toks+(k.2.length+3) }) (hsz:xs.length≤sizeLine) :
  wpAny (model prog w) A (setItem (.ref d) (.ref a) v) Q E s:=by
 have hT:=hm.of.typeIs
 unfold setItem
 try with_reducible refine wpAny_holding ?_
 refine wpAny_bind (wpAny_sequenceKey hT (by decide) ?_)
 refine wpAny_bind (wpAny_callSpecial?_slot (name:=Str.ofString "__setitem__") hT slot_dict_setitem (wpAny_call_entry slot_dict_setitem hT entry_dict_setitem ?_ (args_dict_setitem _ _ _)))
 show wpAny _ _ (Builtin.Dict.notOrdered "__setitem__" ⟨[.ref d,.ref a,v],[]⟩ >>= _) _ _ s
 refine wpAny_bind (wpAny_notOrdered_dict hT ?_)
 show wpAny _ _ (dictSet d (.ref a) v >>= _) _ _ s
 exact wpAny_bind (kW hu hkey hm (fun h' hm' hs'=>wpAny_pure ⟨.none,rfl,wpAny_pure (hQ h' hm' hs')⟩) hsz)
variable {o od:Obj}{es:Array DictEntry}{ep i n:Nat}{it:Addr}
end
end _L
namespace _L
open PySem PySem.Spec PyProof.Rows
noncomputable def b8 (a:Addr) (es:List (aM×Addr×V)) (h:Heap):Prop :=
 es.length≤sizeLine∧(a==sysModules)=false∧∃ xs:List (aM×Addr×Value),Paired (fun (p:aM×Addr×V) (q:aM×Addr×Value)=>p.1=q.1∧p.2.1=q.2.1∧bx p.2.2 q.2.2) es xs ∧
  ∃ o ds ep,h.get? a=some o∧o.ExactDict∧o.data=.dict ds ep∧ds.toList=xs.map nV∧(xs.map (·.1)).Nodup∧ep=xs.length
noncomputable abbrev c7 (k:aM):PyData:=.tuple [.int k.1,.tuple (k.2.map .int)]
noncomputable abbrev dX (kvs:List (aM×PyData)):PyData:=.dict (kvs.map fun p=>(c7 p.1,p.2))
noncomputable abbrev fzD (ds:List PyData):PyData:=.dict [(.none,.list ds)]
theorem Ca {α:Type}{n:Nat}{l:List α} (h:l.length=n+1):∃ a t,l=a::t:=List.exists_cons_of_length_eq_add_one h
theorem q9 {α:Type}{l:List α} (h:l.length=1):∃ a,l=[a]:=List.length_eq_one_iff.mp h
theorem Cb {α:Type}{l:List α} (h:l.length=2):∃ a b,l=[a,b]:=by
 obtain ⟨a,t,rfl⟩:=Ca h
 obtain ⟨b,rfl⟩:=q9 (l:=t) (Nat.succ.inj h)
 exact ⟨a,b,rfl⟩
theorem Dy {α:Type}{l:List α} (h:l.length=3):∃ a b c,l=[a,b,c]:=by
 obtain ⟨a,t,rfl⟩:=Ca h
 obtain ⟨b,c,rfl⟩:=Cb (l:=t) (Nat.succ.inj h)
 exact ⟨a,b,c,rfl⟩
noncomputable def D1 (e C:Addr) (dx:Option Addr) (h:Heap):Prop:=∃ vs sl,h.get? e=some { cls:=.ref C,dict:=dx,data:=.fields vs,slots:=sl }
mutual
inductive DV (K:PySem.W.Frag) (H:Hp):V→PyData→Prop
 | non:DV K H .non .none
 | bl (b:Bool):DV K H (.bl b) (.bool b)
 | int (i:Int):DV K H (.int i) (.int i)
 | lst {a:Addr}{xs:List V}{ds:List PyData}:SqL K H a xs→DVs K H xs ds→DV K H (.ref a) (.list ds)
 | tup {a:Addr}{xs:List V}{ds:List PyData}:SqT K H a xs→DVs K H xs ds→DV K H (.ref a) (.tuple ds)
 | dct {a:Addr}{es:List (aM×Addr×V)}{kvs:List (aM×PyData)}:H a=some (.ext (b8 a es))→DVs K H (es.map fun p=>V.ref p.2.1) (kvs.map fun p=>c7 p.1)→DVs K H (es.map fun p=>p.2.2) (kvs.map fun p=>p.2)→es.map (fun p=>p.1)=kvs.map (fun p=>p.1)→DV K H (.ref a) (dX kvs)
 | fz {v:V}{ds:List PyData}:DV K H v (.list ds)→DV K H v (fzD ds)
inductive DVs (K:PySem.W.Frag) (H:Hp):List V→List PyData→Prop
 | nil:DVs K H [] []
 | cons {x:V}{xs:List V}{d:PyData}{ds:List PyData}:DV K H x d→DVs K H xs ds→DVs K H (x::xs) (d::ds)
end
theorem DV.tupI {K:PySem.W.Frag}{H:Hp}{v:V}{ds:List PyData} (h:DV K H v (.tuple ds)):∃ a xs,v=.ref a∧SqT K H a xs∧DVs K H xs ds:=by
 cases h with
 | tup h q=>exact⟨_,_,rfl,h,q⟩
theorem DV.lstI {K:PySem.W.Frag}{H:Hp}{v:V}{ds:List PyData} (h:DV K H v (.list ds)):∃ a xs,v=.ref a∧SqL K H a xs∧DVs K H xs ds:=by
 cases h with
 | lst h q=>exact⟨_,_,rfl,h,q⟩
theorem DV.intI {K:PySem.W.Frag}{H:Hp}{v:V}{i:Int} (h:DV K H v (.int i)):v=.int i:=by
 cases h;rfl
theorem DVs.twoI {K:PySem.W.Frag}{H:Hp}{vs:List V}{d e:PyData} (h:DVs K H vs [d,e]):∃ x y,vs=[x,y]∧DV K H x d∧DV K H y e:=by
 cases h with
 | cons h q =>
  cases q with
  | cons h2 q=>cases q;exact⟨_,_,rfl,h,h2⟩
section
variable {X:Cx}{pins:List (Addr×Obj)}{σ:St}{H:Hp}{s:Shared}
theorem DVs.ind {K:PySem.W.Frag}{H:Hp}{C:List V→List PyData→Prop} (n:C [] []) (c:∀ {x:V}{xs:List V}{d:PyData}{ds:List PyData},DV K H x d→DVs K H xs ds→C xs ds→C (x::xs) (d::ds)) {v:List V}{d:List PyData} (h:DVs K H v d):C v d :=
 DVs.rec (motive_1:=fun _ _ _=>True) (motive_2:=fun v d _=>C v d) trivial (fun _=>trivial) (fun _=>trivial)
 (fun _ _ _=>trivial) (fun _ _ _=>trivial)
 (fun _ _ _ _ _ _=>trivial) (fun _ _=>trivial) n (fun h q _ i=>c h q i) h
theorem DV.reads (I:Inv X pins σ H s) {x:V}{d:PyData}{u:Value} (h:DV X.K H x d):bx x u→d.canLay0=true→∃ as,Reads s.heap u d as :=
 DV.rec (motive_1:=fun x d _=>∀ u:Value,bx x u→d.canLay0=true→∃ as,Reads s.heap u d as) (motive_2:=fun xs ds _=>∀ us:List Value,aO xs us→PyData.canLayAll0 ds=true→∃ as,ReadsAll s.heap us ds as)
 (fun u r _=>by cases (show _=Value.none from r);exact⟨_,.none⟩)
 (fun b u r _=>by cases (show _=Value.bool b from r);exact⟨_,.bool b⟩)
 (fun i u r _=>by obtain⟨t,rfl⟩:=r;exact⟨_,.int i t⟩)
 (fun {a xs ds} h q i u r l=>by
  cases (show _=Value.ref a from r)
  obtain ⟨its,rv,⟨o,n,e,c,_,hd⟩,_⟩:=I.list h
  obtain ⟨as,ra⟩:=i _ rv (by simpa only [PyData.canLay0] using l)
  exact ⟨_,.list e c hd (by simpa using ra)⟩)
 (fun {a xs ds} h q i u r l=>by
  cases (show _=Value.ref a from r)
  obtain ⟨its,rv,⟨o,e,c,n,hd⟩,_⟩:=I.tuple h
  obtain ⟨as,ra⟩:=i _ rv (by simpa only [PyData.canLay0] using l)
  exact ⟨_,.tuple e c hd (by simpa using ra)⟩)
 (fun _ _ _ _ _ _ _ _ l=>by simp[PyData.canLay0] at l) (fun _ _ _ _ l=>by simp[PyData.canLay0] at l)
 (fun us r _=>by rw[aO.zero r];exact⟨_,.nil⟩)
 (fun _ _ i j us r l=>by
  simp only [PyData.canLayAll0,ER] at l
  obtain ⟨u,vs,rfl,r1,r2⟩:=aO.consI r
  obtain ⟨as,ra⟩:=i u r1 l.1
  obtain ⟨bs,rb⟩:=j vs r2 l.2
  exact ⟨_,.cons ra rb⟩) h u
theorem kt:∀ ns:List Int,PyData.canLayAll0 (ns.map PyData.int)=true
 | []=>rfl
 | n::ns=>by simp only [Eu,PyData.canLayAll0,PyData.canLay0,Bool.true_and,kt ns]
noncomputable abbrev shp (d:PyData):Prop:=SeqAt.shaped d=true
noncomputable def BW (K:PySem.W.Frag):R2:=fun x y H Q=>∃ d e,DV K H x d∧DV K H y e∧shp d∧shp e∧Q (.bl (PyData.eqv d e)) H
noncomputable def BR (K:PySem.W.Frag):R2:=fun x y H Q=>∃ d e,DV K H x d∧DV K H y e∧shp d∧shp e∧Q (.bl (!PyData.eqv d e)) H
theorem Ag (hu:X.A.units+64<cLine):OpR X (compareOp .Eq) (BW X.K):=by
 intro pins s σ H x y v u Q I r1 r2 h
 obtain ⟨d,e,h1,h2,s1,s2,q⟩:=h
 obtain ⟨as,ra⟩:=h1.reads I r1 (SeqAt.canLay_of_shaped s1)
 obtain ⟨bs,rb⟩:=h2.reads I r2 (SeqAt.canLay_of_shaped s2)
 exact eq_dataH ra rb s1 s2 hu ⟨.bl _,H,I,rfl,q⟩
theorem Ab (hu:X.A.units+64<cLine):OpR X (compareOp .NotEq) (BR X.K):=by
 intro pins s σ H x y v u Q I r1 r2 h
 obtain ⟨d,e,h1,h2,s1,s2,q⟩:=h
 obtain ⟨as,ra⟩:=h1.reads I r1 (SeqAt.canLay_of_shaped s1)
 obtain ⟨bs,rb⟩:=h2.reads I r2 (SeqAt.canLay_of_shaped s2)
 exact ne_dataH ra rb s1 s2 hu ⟨.bl _,H,I,rfl,q⟩
noncomputable def BV (K:PySem.W.Frag):R2:=fun x y H Q=>∃ d ds,DV K H x d∧DV K H y (.list ds)∧shp d∧shp (.list ds)∧Q (.bl (ds.any fun e=>PyData.eqv e d)) H
theorem tI {ds:List PyData} (h:shp (.list ds)):PyData.canLayAll0 ds=true∧PyData.depthAll ds≤63:=by
 have a:=SeqAt.canLay_of_shaped h
 have b:=SeqAt.depth_of_shaped h
 simp only [PyData.depth] at b
 exact ⟨a,by omega⟩
theorem Ae (hu:X.A.units+80<cLine):OpR X (compareOp .In) (BV X.K):=by
 intro pins s σ H x y v u Q I r1 r2 h
 obtain ⟨d,ds,h1,h2,s1,s2,q⟩:=h
 obtain ⟨as,ra⟩:=h1.reads I r1 (SeqAt.canLay_of_shaped s1)
 obtain ⟨bs,rb⟩:=h2.reads I r2 (SeqAt.canLay_of_shaped s2)
 obtain ⟨l1,l2⟩:=tI s2
 have:=Nat.min_le_left (PyData.depthAll ds) d.depth
 exact SeqAt.in_list_reads rb ra l1 (SeqAt.canLay_of_shaped s1) (by omega) ⟨.bl _,H,I,rfl,q⟩
theorem lf:∀ {bs:List Bool}{us:List Value},aO (bs.map V.bl) us→LSm.BoolsAre us bs
 | [],_,.nil=>.nil
 | b::bs,_,.cons r t=>by
  cases (show _=Value.bool b from r)
  exact .cons b (lf t)
theorem u8 (hc:X.calm=true):fC X (.builtin "all") (fun xs H Q=>∃ (a:Addr) (bs:List Bool),xs=[.ref a]∧SqL X.K H a (bs.map V.bl)∧Q (.bl (bs.all id)) H):=by
 intro pins s σ H xs us Q I r h
 obtain ⟨a,bs,rfl,hs,q⟩:=h
 obtain ⟨u,rfl,ru⟩:=iW r
 cases (show u=Value.ref a from ru)
 obtain ⟨its,rv,p,_⟩:=I.list hs
 have hb:=lf rv
 have hl:=p.isList
 have hlt:a<s.heap.objs.size:=by obtain⟨_,e,_⟩:=hl;exact Eo e
 refine call_all_walk (wpAny_pyIter_list hl ?_)
 refine ⟨s.heap.objs.size,[s.heap.objs.size,a],[s.heap.objs.size],its.toArray.size,_,_,fun i=>(bs[i]?).getD true,rfl,Walks.list (A:=X.A.in1) (I.ok.hd hc) _ a (ED hlt) its.toArray,
  ⟨⟨_,Er _ rfl,rfl,rfl⟩,hl.push _⟩,fun i v s' Q' E' hP hQ=>?_,fun h' tk hk=>?_⟩
 ·obtain ⟨b,e,rfl⟩:=hb.get i v (by simpa using hP)
  simp only [e,Option.getD_some] at hQ
  exact wpAny_truthy_bool hQ
 ·have e:((List.range its.toArray.size).all fun i=>(bs[i]?).getD true)=bs.all id:=by
   rw [El,hb.length]
   exact LSm.range_all bs
  rw [e]
  exact ⟨.bl _,H,I.kept (LSm.kept_iter hk),rfl,q⟩
noncomputable def zB (K:PySem.W.Frag):R2:=fun x y H Q=>∃ a b xs ys,x=.ref a∧y=.ref b∧SqT K H a xs∧SqT K H b ys∧xs.length+ys.length≤sizeLine ∧
 (xs=[]→Q (.ref b) H)∧(xs≠[]→ys=[]→Q (.ref a) H)∧(xs≠[]→ys≠[]→∀ p,H p=none→Q (.ref p) (upd H p (.tup (xs++ys))))
theorem xV:OpR X (binaryOp .Add) (zB X.K):=by
 intro pins s σ H x y v u Q I r1 r2 h
 obtain ⟨a,b,xs,ys,rfl,rfl,ha,hb,hz,q0,q1,q2⟩:=h
 by_cases hx:xs=[]
 ·subst hx
  cases (show v=Value.ref a from r1)
  cases (show u=Value.ref b from r2)
  obtain ⟨its,v1,p1,_⟩:=I.tuple ha
  obtain ⟨its2,v2,p2,_⟩:=I.tuple hb
  cases v1
  obtain ⟨⟨cls,dd,data,sl⟩,ho,hc,n,hd⟩:=id p1
  obtain ⟨⟨cls2,dd2,data2,sl2⟩,ho2,hc2,n2,hd2⟩:=id p2
  simp only at hc hd hc2 hd2
  subst hc hd hc2 hd2
  exact concat_meets ⟨_,ho,rfl⟩ ⟨_,ho2,rfl⟩ noFill_tuple_add seq_tuple_add PySem.F.slot_tuple_add PySem.F.entry_tuple_add (PySem.F.args_tuple_add_2 _ _)
   (tuple_addW0 a b #[] its2.toArray n n2 dd dd2 sl sl2 rfl) ⟨ho,ho2,.ref b,H,I,rfl,q0 rfl⟩
 ·exact xU pins s σ H _ _ v u Q I r1 r2 ⟨a,b,xs,ys,rfl,rfl,ha,hb,hx,hz,q1 hx,q2 hx⟩
end
noncomputable def cF:Bool→Heap→Addr→Array Value→Prop
 | false,h,a,xs=>h.IsList a xs
 | true,h,a,xs=>h.IsTuple a xs
noncomputable def cr:Bool→Heap→Addr→Addr→Nat→Prop
 | false,h,it,a,i=>h.IsListIter it a i
 | true,h,it,a,i=>h.IsTupleIter it a i
theorem cF.at {b:Bool}{h h':Heap}{a:Addr}{xs:Array Value} (p:cF b h a xs) (k:∀ o,h.get? a=some o→h'.get? a=some o):cF b h' a xs:=by
 cases b with
 | false=>obtain⟨o,e,r⟩:=p;exact⟨o,k o e,r⟩
 | true=>obtain⟨o,e,r⟩:=p;exact⟨o,k o e,r⟩
theorem cr.at {b:Bool}{h h':Heap}{it a:Addr}{i:Nat} (p:cr b h it a i) (k:∀ o,h.get? it=some o→h'.get? it=some o):cr b h' it a i:=by
 cases b with
 | false=>obtain⟨o,e,r⟩:=p;exact⟨o,k o e,r⟩
 | true=>obtain⟨o,e,r⟩:=p;exact⟨o,k o e,r⟩
theorem cF.obj {b:Bool}{h:Heap}{a:Addr}{xs:Array Value} (p:cF b h a xs):∃ o n,h.get? a=some o∧o.data=.seq xs n:=by
 cases b with
 | false=>obtain⟨o,e,_,n,d⟩:=p;exact⟨o,n,e,d⟩
 | true=>obtain⟨o,e,_,n,d⟩:=p;exact⟨o,n,e,d⟩
theorem cr.obj {b:Bool}{h:Heap}{it a:Addr}{i:Nat} (p:cr b h it a i):∃ o,h.get? it=some o∧o.data=.fields #[.ref a,.int i 0]:=by
 cases b with
 | false=>obtain⟨o,e,_,d⟩:=p;exact⟨o,e,d⟩
 | true=>obtain⟨o,e,_,d⟩:=p;exact⟨o,e,d⟩
section
variable {prog:Program}{w:World}{A:Around}{E:Value→Shared→Prop}{s:Shared}
theorem uc {it t:Addr}{i:Nat}{items:Array Value}{x:Value}{Q:Value→Shared→Prop} (hit:s.heap.IsTupleIter it t i) (ht:s.heap.IsTuple t items) (hx:items[i]? = some x)
  (hQ:∀ h',h'.IsTupleIter it t (i+1)→Heap.SameBut it s.heap h'→Q x { s with heap:=h' }):wpAny (model prog w) A (Builtin.SmallTypes.nextOf (.ref it)) Q E s:=by
 obtain ⟨o,ho,hc,hd⟩:=id hit
 obtain ⟨ol,hol,_,nl,hdl⟩:=ht
 unfold Builtin.SmallTypes.nextOf
 refine wpAny_bind (wpAny_callSpecial?_slot (name:=Str.ofString "__next__") hit.typeIs F.slot_tuple_iterator_next (wpAny_call_entry F.slot_tuple_iterator_next hit.typeIs F.entry_tuple_iterator_next ?_ (F.args_tuple_iterator_next_1 _)))
 show wpAny _ _ (field (.ref it) 0 >>= _) _ _ s
 refine wpAny_bind (wpAny_field ho hd (x:=.ref t) rfl ?_)
 show wpAny _ _ (if (Value.ref t==Value.none)=true then _ else _) _ _ s
 rw [if_neg (show ¬((Value.ref t==Value.none)=true) from Et)]
 show wpAny _ _ (field (.ref it) 1 >>= _) _ _ s
 refine wpAny_bind (wpAny_field ho hd (x:=.int i 0) rfl ?_)
 show wpAny _ _ (seqItems? (.ref t) >>= _) _ _ s
 refine wpAny_bind (wpAny_seqItems hol hdl ?_)
 simp only [EW,hx]
 refine wpAny_bind (wpAny_setField ho hd (by simp) (wpAny_pure ⟨x,rfl,wpAny_pure (hQ _ ?_ (Heap.SameBut.update ..))⟩))
 refine ⟨_,Fh _ ho (Obj.isFreed_of_fields (Obj.data_mapFields hd _)),(Obj.cls_mapFields ..).trans hc,?_⟩
 rw [Obj.data_mapFields hd]
 simp [rawInt]
theorem lX {it t:Addr}{i:Nat}{items:Array Value}{Q:Value→Shared→Prop} (hh:A.handled=none) (hit:s.heap.IsTupleIter it t i) (ht:s.heap.IsTuple t items) (hx:items[i]? = none)
  (hE:∀ h' e,Heap.ExtBut it s.heap h'→(∃ o,h'.get? e=some o∧o.cls=.type "StopIteration")→E (.ref e) { s with heap:=h' }):wpAny (model prog w) A (Builtin.SmallTypes.nextOf (.ref it)) Q E s:=by
 obtain ⟨o,ho,hc,hd⟩:=id hit
 obtain ⟨ol,hol,_,nl,hdl⟩:=ht
 unfold Builtin.SmallTypes.nextOf
 refine wpAny_bind (wpAny_callSpecial?_slot (name:=Str.ofString "__next__") hit.typeIs F.slot_tuple_iterator_next (wpAny_call_entry F.slot_tuple_iterator_next hit.typeIs F.entry_tuple_iterator_next ?_ (F.args_tuple_iterator_next_1 _)))
 show wpAny _ _ (field (.ref it) 0 >>= _) _ _ s
 refine wpAny_bind (wpAny_field ho hd (x:=.ref t) rfl ?_)
 show wpAny _ _ (if (Value.ref t==Value.none)=true then _ else _) _ _ s
 rw [if_neg (show ¬((Value.ref t==Value.none)=true) from Et)]
 show wpAny _ _ (field (.ref it) 1 >>= _) _ _ s
 refine wpAny_bind (wpAny_field ho hd (x:=.int i 0) rfl ?_)
 show wpAny _ _ (seqItems? (.ref t) >>= _) _ _ s
 refine wpAny_bind (wpAny_seqItems hol hdl ?_)
 simp only [EW,hx]
 refine wpAny_bind (wpAny_rule (wpAny_bind (wpAny_setField ho hd (by simp) ?_)))
 show wpAny _ _ (newExc (.type "StopIteration") [] >>= _) _ _ _
 refine wpAny_bind ?_
 simp only [newExc,newTuple]
 refine wpAny_bind (wpAny_newObj_type ?_ (by size_fits))
 refine wpAny_bind (m:=firstArgMember _ _) (wpAny_of_eq (a:=Value.none) (by first|rfl|(simp only [firstArgMember];rfl)) ?_)
 refine wpAny_newObj_type ?_ (by size_fits)
 simp only [raiseNew]
 refine wpAny_bind (wpAny_handled ?_)
 first|rw[show A.in1.handled=none from hh]|rw[hh]
 exact wpAny_bind (wpAny_pure (wpAny_throw (hE _ _ (((Heap.SameBut.update ..).extBut.push _).push _) ⟨_,Er _ rfl,rfl⟩)))
theorem gd {b:Bool}{it a:Addr}{i:Nat}{items:Array Value}{x:Value}{Q:Value→Shared→Prop} (hit:cr b s.heap it a i) (ha:cF b s.heap a items) (hx:items[i]? = some x)
  (hQ:∀ h',cr b h' it a (i+1)→Heap.SameBut it s.heap h'→Q x { s with heap:=h' }):wpAny (model prog w) A (Builtin.SmallTypes.nextOf (.ref it)) Q E s:=by
 cases b with
 | false=>exact wpAny_nextOf_list_item hit ha hx hQ
 | true=>exact uc hit ha hx hQ
theorem d5 {b:Bool}{it a:Addr}{i:Nat}{items:Array Value}{Q:Value→Shared→Prop} (hh:A.handled=none) (hit:cr b s.heap it a i) (ha:cF b s.heap a items) (hx:items[i]? = none)
  (hE:∀ h' e,Heap.ExtBut it s.heap h'→(∃ o,h'.get? e=some o∧o.cls=.type "StopIteration")→E (.ref e) { s with heap:=h' }):wpAny (model prog w) A (Builtin.SmallTypes.nextOf (.ref it)) Q E s:=by
 cases b with
 | false=>exact wpAny_nextOf_list_end hh hit ha hx hE
 | true=>exact lX hh hit ha hx hE
end
theorem kU {prog:Program}{w:World}{A:Around} (b:Bool) (hh:A.handled=none) (it a:Addr) (hne:a≠it) (items:Array Value) :
  Draws prog w A it [it,a] items.size (fun i v=>items[i]? = some v) (fun i h=>cr b h it a i∧cF b h a items) where
 live:=fun _ _ st=>by obtain⟨o,e,_⟩:=st.1.obj;exact⟨o,e⟩
 frame:=fun _ _ _ st hk=>⟨st.1.at fun o e=>hk it (by simp) o e,st.2.at fun o e=>hk a (by simp) o e⟩
 item:=fun i s Q E hi st hQ=>gd st.1 st.2 (x:=items[i]) (by simp[hi]) fun h' st' sb=>hQ _ h' s.toks (by simp[hi]) ⟨st',st.2.at fun o e=>sb.extBut a o hne e⟩ sb
 done:=fun s Q E st hE=>d5 hh st.1 st.2 (by simp) hE
noncomputable def SqB (K:PySem.W.Frag) (H:Hp):Bool→Addr→List V→Prop
 | false,a,xs=>SqL K H a xs
 | true,a,xs=>SqT K H a xs
section
variable {X:Cx}{pins:List (Addr×Obj)}{σ:St}{H:Hp}{s:Shared}
theorem Inv.seq (I:Inv X pins σ H s) {b:Bool}{a:Addr}{xs:List V} (h:SqB X.K H b a xs):∃ its:List Value,aO xs its∧cF b s.heap a its.toArray:=by
 cases b with
 | false=>obtain⟨its,r,p,_⟩:=I.list h;exact⟨its,r,p.isList⟩
 | true=>obtain⟨its,r,p,_⟩:=I.tuple h;exact⟨its,r,p⟩
theorem Inv.seq_inj (I:Inv X pins σ H s) {b:Bool}{a:Addr}{xs ys:List V} (h:SqB X.K H b a xs) (h':SqB X.K H b a ys):xs=ys:=by
 cases b with
 | false=>exact I.list_inj h h'
 | true=>exact I.tuple_inj h h'
theorem Inv.turnedN {fp:List Addr}{h':Heap}{t':Nat} (I:Inv X pins σ H s) (hf:∀ b∈fp,gn X pins H b) (k:∀ b o,b ∉ fp→s.heap.get? b=some o→h'.get? b=some o):Inv X pins σ H { s with heap:=h',toks:=t' }:=by
 have nfp:∀ b u,H b=some u→b ∉ fp:=fun b u e z=>by rw[(hf b z).1] at e;cases e
 refine I.step (g':=s.gens) (d':=s.drawn) (ch:=fp) (fun b hb=>?_) (fun b o _ _ hc e _=>k b o hc e) (fun b o _ _ hc e _=>⟨o.slots,k b o hc e⟩) (fun _ _ _ _ n=>n) (fun b o hc e=>⟨o,k b o hc e⟩) (fun _ _ e=>e) (fun _ _ _ e=>e)
  (fun _ _ e=>e) (fun m hm=>?_) (fun b u e=>?_) I.bare
 ·obtain ⟨f0,f1,f2,f3,f4,f5⟩:=hf b hb
  exact ⟨f3,f1,f4,f5⟩
 ·obtain ⟨o,es,ep,ho,r⟩:=hm
  exact ⟨o,es,ep,k _ o (fun z=>(hf _ z).2.1 rfl) ho,r⟩
 ·refine (I.hok b u e).stay (fun c v hc q=>k c v ?_ q) (fun _ q=>q) fun _ _ _ q=>q
  rcases hc with z|z
  ·rw [z];exact nfp b u e
  ·exact nfp c _ z
theorem Inv.track {T:Addr}{o:HO} (I:Inv X pins σ H s) (hf:gn X pins H T) (new:eh X.prog X.w (upd H T o) s.heap T o):Inv X pins σ (upd H T o) s:=by
 obtain ⟨f0,f1,f2,f3,f4,f5⟩:=hf
 have nT:∀ b u,H b=some u→b≠T:=fun b u e z=>by rw[z,f0] at e;cases e
 have q:=I.step (h':=s.heap) (H':=upd H T o) (g':=s.gens) (d':=s.drawn) (t':=s.toks) (ch:=[T]) (fun b hb=>by
   have e:b=T:=by simpa using hb
   rw [e];exact⟨f3,f1,f4,f5⟩) (fun b o _ _ _ e _=>e) (fun b o _ _ _ e _=>⟨o.slots,e⟩) (fun b o' hc _ n=>by rw[am (fun z=>hc (by simp[z]))];exact n) (fun b o' _ e=>⟨o',e⟩)
  (fun b xs e=>by rw[am (nT b _ e)];exact e) (fun b o' u e=>by rw[am (nT b _ e)];exact e) (fun b ps e=>by rw[am (nT b _ e)];exact e) (fun m hm=>hm) (fun b u e=>?_) I.bare
 ·exact q
 ·by_cases hb:b=T
  ·subst hb;rw[aB] at e;cases e;exact new
  ·rw [am hb] at e
   exact (I.hok b u e).stay (fun _ _ _ q=>q) (fun c q=>by rw[am (nT c _ q)];exact q) fun c xs _ q=>by rw[am (nT c _ q)];exact q
end
noncomputable def Ite (K:PySem.W.Frag) (b:Bool) (a:Addr):It :=
 ⟨fun i H=>∃ xs x,SqB K H b a xs∧xs[i]? = some x,fun i H v H'=>∃ p x,v=.ref p∧H p=none∧H'=upd H p (.tup [.int i,x])∧∀ xs,SqB K H b a xs→xs[i]? = some x,fun i H=>∃ xs,SqB K H b a xs∧xs.length=i⟩
theorem pB {P:Program}{w:World}{K:PySem.W.Frag}{es:List Expr}{kk:Nat}{pos:Pos} (b:Bool) (a it e:Addr) (hei:e≠it) :
  yX P w K (.Tuple es kk pos) (Ite K b a) [e,it] e (fun i h=>(∃ old,IsEnum h e it i old)∧cr b h it a i) where
 mem:=by simp
 obj := fun i h st c hc=>by
  obtain ⟨⟨old,he⟩,st⟩:=st
  rcases En.mp hc with rfl|hc
  ·exact ⟨_,he,fun v z=>by
    have z':Data.fields _=Data.cell v:=z
    cases z'⟩
  ·have e':c=it:=by simpa using hc
   subst e'
   obtain ⟨o,ho,hd⟩:=st.obj
   exact ⟨o,ho,fun v z=>by rw[hd] at z;cases z⟩
 keep:=fun i h h' st k=>by
  obtain ⟨⟨old,he⟩,st⟩:=st
  exact ⟨⟨old,k e (by simp) _ he⟩,st.at fun o q=>k it (by simp) o q⟩
 item := by
  intro X hP hw hK hc i pins s σ H E I hf st hg
  subst hP hw hK
  obtain ⟨xs,x,hq,hx⟩:=hg
  obtain ⟨⟨old,he⟩,st⟩:=st
  obtain ⟨its,rv,ha⟩:=I.seq hq
  obtain ⟨u,hu,ru⟩:=rv.get hx
  obtain ⟨oa,na,ea,da⟩:=ha.obj
  obtain ⟨oi,ei,di⟩:=st.obj
  have hai:a≠it:=fun z=>by rw[z,ei] at ea;cases ea;rw[di] at da;cases da
  have hea:e≠a:=fun z=>by rw[←z,he] at ea;cases ea;cases da
  have hlt:i<its.toArray.size:=by
   have:=(Ef.mp hu).1
   simpa using this
  refine wpAny_pyNext_enum_itemD (kU (A:=X.A.in1) b (I.ok.hd hc) it a hai its.toArray) he ⟨st,ha⟩ hlt hei (by simp[hei,hea]) fun y h1 tk hy hout st1 hT hz hk=>?_
  have ey:y=u:=by
   have:its[i]? = some y:=by simpa using hy
   rw [hu] at this
   exact (Option.some.inj this).symm
  subst ey
  refine ⟨_,rfl,wpAny_letOwnedTupleGo_enum hout fun h2 he2 hs2=>?_⟩
  have elt:e<s.heap.objs.size:=Eo he
  have ilt:it<s.heap.objs.size:=Eo ei
  have I2:Inv X pins σ H { s with heap:=h2,toks:=tk+1 }:=I.turnedN hf fun c o hc q=>hs2.extBut c o (fun z=>hc (by simp[z])) (hk c o (fun z=>hc (by simp[z])) (fun z=>hc (by simp[z])) q)
  have g2:h2.get? s.heap.objs.size=some { cls:=.type "tuple",data:=.seq #[.int i tk,y] }:=hs2.extBut _ _ (Fg elt) hT
  have hn:H s.heap.objs.size=none:=I.hok.fresh (Ek _)
  refine ⟨.ref s.heap.objs.size,upd H s.heap.objs.size (.tup [.int i,x]),I2.track (T:=s.heap.objs.size) (o:=.tup [.int i,x]) (I.fpOk (Ek _) hn) ?_,rfl,?_,⟨⟨y,he2⟩,?_⟩,fun c hc=>?_⟩
  ·exact ⟨by show 2≤sizeLine;decide,[.int i tk,y],.cons ⟨tk,rfl⟩ (.cons ru .nil),_,g2,rfl,⟨_,rfl⟩,rfl⟩
  ·exact ⟨_,x,rfl,hn,rfl,fun ys hy=>by rw[I.seq_inj hy hq];exact hx⟩
  ·exact st1.1.at fun o q=>hs2.extBut it o (Ne.symm hei) q
  ·have:c<s.heap.objs.size:=by
    rcases En.mp hc with rfl|hc
    ·exact elt
    ·have e':c=it:=by simpa using hc
     rw [e'];exact ilt
   rw [am (ED this)]
   exact (hf c hc).1
 done:=by
  intro X hP hw hK hc i pins s σ H E I hf st hg
  subst hP hw hK
  obtain ⟨xs,hq,hx⟩:=hg
  obtain ⟨⟨old,he⟩,st⟩:=st
  obtain ⟨its,rv,ha⟩:=I.seq hq
  obtain ⟨oa,na,ea,da⟩:=ha.obj
  obtain ⟨oi,ei,di⟩:=st.obj
  have hai:a≠it:=fun z=>by rw[z,ei] at ea;cases ea;rw[di] at da;cases da
  have hl:=rv.length
  have ez:its.toArray.size=i:=by simp;omega
  refine wpAny_pyNext_enum_endD (kU (A:=X.A.in1) b (I.ok.hd hc) it a hai its.toArray) he (by rw[ez];exact⟨st,ha⟩) fun h' hx'=>⟨rfl,?_⟩
  exact I.turnedN (t':=s.toks) hf fun c o hc q=>hx' c o (fun z=>hc (by simp[z])) q
 self:=fun A i s Q E st h=>by
  obtain ⟨⟨old,he⟩,st⟩:=st
  exact wpAny_pyIter_enum he h
noncomputable abbrev iq (b:Bool) (a:Addr):Obj:={ cls:=.type (if b then "tuple_iterator" else "list_iterator"),data:=.fields #[.ref a,.int 0 0] }
theorem jp {b:Bool}{h:Heap}{it a:Addr} (e:h.get? it=some (iq b a)):cr b h it a 0:=by
 cases b with
 | false=>exact⟨_,e,rfl,rfl⟩
 | true=>exact⟨_,e,rfl,rfl⟩
theorem eP {prog:Program}{w:World}{A:Around}{E:Value→Shared→Prop}{s:Shared}{b:Bool}{a:Addr}{items:Array Value}{Q:Value→Shared→Prop} (ha:cF b s.heap a items)
  (hQ:Q (.ref s.heap.objs.size) { s with heap:=s.heap.push (iq b a) }):wpAny (model prog w) A (pyIter (.ref a)) Q E s:=by
 cases b with
 | false=>exact wpAny_pyIter_list ha hQ
 | true=>exact wpAny_pyIter_tuple ha hQ
open AutoSeq1 (wpAny_loadPart') in
theorem rK (l:Addr) (items:Array Value) (n:Nat) (dct:Option Addr) (sl:Array (Option Value)) :
  Meets (Builtin.«enumerate.__new__» ⟨[.type "enumerate",.ref l],[]⟩) (fun _ R s=>s.heap.get? l=some { cls:=.type "tuple",dict:=dct,data:=.seq items n,slots:=sl } ∧
   R (.ok (.ret (.ref (s.heap.push (iq true l)).objs.size))) { s with heap:=(s.heap.push (iq true l)).push { cls:=.type "enumerate",data:=.fields #[.none,.bool false,.ref s.heap.objs.size,rawInt 0,.none,.none] } }) :=
 .of_wp fun prog w A R s h=>by
  obtain ⟨hp,g,d,tk,os⟩:=s
  obtain ⟨hl,h⟩:=h
  have hsub:=sub_enumerate
  have hL:cF true (Shared.heap ⟨hp,g,d,tk,os⟩) l items:=⟨_,hl,rfl,n,rfl⟩
  wp_walk using wpAny_loadPart' hl
  refine wpAny_stack_any fun st=>wpAny_pure ?_
  split
  ·rename_i c _ _ _ _ _
   cases (c==Value.type "enumerate") <;> (wp_walk using wpAny_loadPart' hl,eP hL) <;> exact⟨_,rfl,h⟩
  ·wp_walk using wpAny_loadPart' hl,eP hL
   exact ⟨_,rfl,h⟩
section
variable {prog:Program}{w:World}{A:Around}{E:Value→Shared→Prop}{s:Shared}
theorem rL {b:Bool}{l:Addr}{items:Array Value}{Q:Value→Shared→Prop} (hL:cF b s.heap l items)
  (h : ∀ h',IsEnum h' (s.heap.objs.size+1) s.heap.objs.size 0 .none→cr b h' s.heap.objs.size l 0→h'.objs.size=s.heap.objs.size+2→(∀ c o,s.heap.get? c=some o→h'.get? c=some o)→Q (.ref (s.heap.objs.size+1)) { s with heap:=h' }) :
  wpAny (model prog w) A (call (.type "enumerate") [.ref l]) Q E s:=by
 cases b with
 | false=>exact call_enumerate_list hL h
 | true =>
  obtain ⟨⟨c,dct,dt,sl⟩,hl,hc,n,hd⟩:=hL
  replace hc:c=.type "tuple" := hc
  replace hd:dt=.seq items n:=hd
  subst hc hd
  refine callType_new F.called_enumerate (by decide) (F.typeCall_enumerate_1 _) (F.newCall_enumerate_1 _) (fun obj=>F.args_object_init_2 obj _) F.entry_enumerate_new (rK l items n dct sl) ⟨hl,?_⟩
  have hz:(s.heap.push (iq true l)).objs.size=s.heap.objs.size+1:=E7 ..
  show _∧_
  rw [hz]
  have he:IsEnum ((s.heap.push (iq true l)).push { cls:=.type "enumerate",data:=.fields #[.none,.bool false,.ref s.heap.objs.size,rawInt 0,.none,.none] }) (s.heap.objs.size+1) s.heap.objs.size 0 .none:=by
   have q:=Er (s.heap.push (iq true l)) (o:={ cls:=.type "enumerate",data:=.fields #[.none,.bool false,.ref s.heap.objs.size,rawInt 0,.none,.none] }) rfl
   rw [hz] at q
   exact q
  exact ⟨⟨_,he,rfl⟩,h _ he (jp (Ee _ (Er _ rfl))) (by rw[E7,hz]) fun c o x=>Ee _ (Ee _ x)⟩
end
section
variable {X:Cx}
noncomputable def AG (K:PySem.W.Frag) (b:Bool) (ta:TA):TI:=fun σ H R=>ta σ H fun vs H1=>∃ a xs,vs=[.ref a]∧SqB K H1 b a xs∧R (Ite K b a) H1
theorem xE (b:Bool) {es:List Expr}{kk:Nat}{tpos:Pos}{a:Expr}{ta:TA}{p pos:Pos} (hg:Gl X "enumerate") (hm:X.mg "enumerate" = none) (hbt:bootBuiltins "enumerate" = some (.type "enumerate")) (ha:PA X [a] ta) (hs:starEach [a] X.env=[(false,eval a X.env)]:=by rfl) :
  PI X (.Tuple es kk tpos) (.Call (.Name "enumerate" p) [a] [] pos) (AG X.K b ta):=by
 intro pins s σ H R I h
 refine Call_ (fJ I hg hm hbt (PyProof.Rows.callWith_type1 (thn (ha pos pins s σ H _ I h) fun us s1 zz6=>?_) hs rfl))
 obtain ⟨vs,H1,I1,r1,q1⟩:=zz6
 obtain ⟨l,xs,rfl,hq,q⟩:=q1
 obtain ⟨u,rfl,ru⟩:=iW r1
 cases (show u=Value.ref l from ru)
 obtain ⟨its,rv,hL⟩:=I1.seq hq
 refine rL hL fun h' he hit hz hk=>wpAny_pyIter_enum he ?_
 have I2:Inv X pins σ H1 { s1 with heap:=h' }:=I1.kept (t':=s1.toks) hk
 refine ⟨s1.heap.objs.size+1,[s1.heap.objs.size+1,s1.heap.objs.size],_,_,H1,rfl,I2,pB b l s1.heap.objs.size (s1.heap.objs.size+1) (Fg (Fp _)),⟨⟨_,he⟩,hit⟩,fun c hc=>?_,q⟩
 rcases En.mp hc with rfl|hc
 ·exact I1.fpOk (Fm _) (I1.hok.fresh (Fm _))
 ·have e:c=s1.heap.objs.size:=by simpa using hc
  rw [e]
  exact I1.fpOk (Ek _) (I1.hok.fresh (Ek _))
end
noncomputable abbrev zH1 (h:Heap) (b:Bool) (l1:Addr):Heap:=h.push (iq b l1)
noncomputable abbrev zH2 (h:Heap) (b c:Bool) (l1 l2:Addr):Heap:=(zH1 h b l1).push (iq c l2)
noncomputable abbrev zH3 (h:Heap) (b c:Bool) (l1 l2:Addr):Heap:=(zH2 h b c l1 l2).push { cls:=.type "tuple",data:=.seq #[.ref h.objs.size,.ref (zH1 h b l1).objs.size] }
noncomputable abbrev zH4 (h:Heap) (b c:Bool) (l1 l2:Addr):Heap:=(zH3 h b c l1 l2).push { cls:=.type "tuple",data:=.seq #[.none,.none] }
noncomputable abbrev zH5 (h:Heap) (b c:Bool) (l1 l2:Addr):Heap:=(zH4 h b c l1 l2).push { cls:=.type "zip",data:=.fields #[.none,.bool false,.bool false,.ref (zH2 h b c l1 l2).objs.size,.ref (zH3 h b c l1 l2).objs.size] }
theorem tm (b c:Bool) (l1 l2:Addr) (xs ys:Array Value) :
  Meets (Builtin.«zip.__new__» ⟨[.type "zip",.ref l1,.ref l2],[]⟩) (fun _ R s=>cF b s.heap l1 xs∧cF c s.heap l2 ys∧R (.ok (.ret (.ref (zH4 s.heap b c l1 l2).objs.size))) { s with heap:=zH5 s.heap b c l1 l2 }) :=
 .of_wp fun prog w A R s h=>by
  obtain ⟨hp,g,d,tk,os⟩:=s
  obtain ⟨hl1,hl2,h⟩:=h
  have hsub:=sub_zip
  have hL1:cF b (Shared.heap ⟨hp,g,d,tk,os⟩) l1 xs:=hl1
  have hL2:cF c (Shared.heap ⟨hp.push (iq b l1),g,d,tk,os⟩) l2 ys:=cF.at hl2 fun o e=>Ee _ e
  wp_walk using eP hL1,eP hL2
  exact ⟨_,rfl,h⟩
section
variable {prog:Program}{w:World}{A:Around}{E:Value→Shared→Prop}{s:Shared}
theorem tq {b c:Bool}{l1 l2:Addr}{xs ys:Array Value}{Q:Value→Shared→Prop} (hl1:cF b s.heap l1 xs) (hl2:cF c s.heap l2 ys)
  (h : ∀ h',IsZip h' (s.heap.objs.size+4) (s.heap.objs.size+2) (s.heap.objs.size+3) .none→IsPair h' (s.heap.objs.size+2) (.ref s.heap.objs.size) (.ref (s.heap.objs.size+1))→IsPair h' (s.heap.objs.size+3) .none .none →
   cr b h' s.heap.objs.size l1 0→cr c h' (s.heap.objs.size+1) l2 0→(∀ c o,s.heap.get? c=some o→h'.get? c=some o)→Q (.ref (s.heap.objs.size+4)) { s with heap:=h' }) :
  wpAny (model prog w) A (call (.type "zip") [.ref l1,.ref l2]) Q E s:=by
 refine callType_new F.called_zip (by decide) (F.typeCall_zip_2 _ _) (F.newCall_zip_2 _ _) (fun obj=>F.args_object_init_3 obj _ _) F.entry_zip_new (tm b c l1 l2 xs ys) ⟨hl1,hl2,?_⟩
 have z1:(zH1 s.heap b l1).objs.size=s.heap.objs.size+1:=E7 ..
 have z2:(zH2 s.heap b c l1 l2).objs.size=s.heap.objs.size+2:=by rw[E7,z1]
 have z3:(zH3 s.heap b c l1 l2).objs.size=s.heap.objs.size+3:=by rw[E7,z2]
 have z4:(zH4 s.heap b c l1 l2).objs.size=s.heap.objs.size+4:=by rw[E7,z3]
 have g5:(zH5 s.heap b c l1 l2).get? (zH4 s.heap b c l1 l2).objs.size=some _:=Er _ rfl
 have g4:(zH5 s.heap b c l1 l2).get? (zH3 s.heap b c l1 l2).objs.size=some _:=Ee _ (Er _ rfl)
 have g3:(zH5 s.heap b c l1 l2).get? (zH2 s.heap b c l1 l2).objs.size=some _:=Ee _ (Ee _ (Er _ rfl))
 have g2:(zH5 s.heap b c l1 l2).get? (zH1 s.heap b l1).objs.size=some _:=Ee _ (Ee _ (Ee _ (Er _ rfl)))
 have g1:(zH5 s.heap b c l1 l2).get? s.heap.objs.size=some _:=Ee _ (Ee _ (Ee _ (Ee _ (Er _ rfl))))
 show _∧_
 rw [z2,z3,z4] at g5
 rw [z1,z2] at g3
 rw [z3] at g4
 rw [z1] at g2
 rw [z4]
 exact ⟨⟨_,g5,rfl⟩,h _ g5 g3 g4 (jp g1) (jp g2) fun c o x=>Ee _ (Ee _ (Ee _ (Ee _ (Ee _ x))))⟩
noncomputable abbrev yW (z TO i1 i2:Addr) (h h':Heap):Prop:=∀ c o,c≠z→c≠TO→c≠i1→c≠i2→h.get? c=some o→h'.get? c=some o
theorem tp {b c:Bool}{z TI TO i1 i2 l1 l2:Addr}{k:Nat}{xs ys:Array Value}{x y p q:Value}{Q:Option Value→Shared→Prop} (D:ZipApart z TI TO i1 i2 l1 l2)
  (hz:IsZip s.heap z TI TO .none) (hTI:IsPair s.heap TI (.ref i1) (.ref i2)) (hTO:IsPair s.heap TO p q) (h1:cr b s.heap i1 l1 k) (h2:cr c s.heap i2 l2 k) (hl1:cF b s.heap l1 xs) (hl2:cF c s.heap l2 ys) (hx:xs[k]? = some x) (hy:ys[k]? = some y)
  (hQ:∀ h',IsZip h' z TI TO (rawInt s.heap.objs.size)→IsPair h' TO x y→cr b h' i1 l1 (k+1)→cr c h' i2 l2 (k+1)→IsPair h' s.heap.objs.size x y→yW z TO i1 i2 s.heap h'→Q (some (.ref s.heap.objs.size)) { s with heap:=h' }) :
  wpAny (model prog w) A (pyNext (.ref z)) Q E s:=by
 have hT:s.TypeIs (.ref z) "zip" := ⟨_,hz,rfl⟩
 unfold pyNext
 refine wpAny_bind (wpAny_attempt (wpAny_callSpecial?_slot (name:=Str.ofString "__next__") hT F.slot_zip_next (wpAny_call_entry F.slot_zip_next hT F.entry_zip_next ?_ (F.args_zip_next_1 _))))
 show wpAny _ _ (field (.ref z) 2 >>= _) _ _ _
 refine wpAny_bind (wpAny_field hz rfl (x:=.bool false) rfl ?_)
 show wpAny _ _ (field (.ref z) 3 >>= _) _ _ _
 refine wpAny_bind (wpAny_field hz rfl (x:=.ref TI) rfl (wpAny_bind (wpAny_seqItems hTI rfl ?_)))
 show wpAny _ _ (Builtin.SmallTypes.ownedTupleIsFree (.ref z) >>= _) _ _ _
 refine wpAny_bind ?_
 unfold Builtin.SmallTypes.ownedTupleIsFree
 refine wpAny_bind (wpAny_field hz rfl (x:=.none) rfl (wpAny_pure ?_))
 simp only [if_true]
 refine wpAny_bind (wpAny_rule (wpAny_bind (wpAny_field hz rfl (x:=.ref TO) rfl (wpAny_bind (wpAny_setField_rec hz (by simp) fun ha hza sa=>?_)))))
 replace hza:IsZip ha z TI TO .ellipsis:=hza
 refine wpAny_bind ?_
 simp only [List.zipIdx_cons,List.zipIdx_nil,FK,FF]
 refine wpAny_bind (wpAny_bind (wpAny_onRaise ?_))
 show wpAny _ _ (Builtin.SmallTypes.nextOf (.ref i1) >>= _) _ _ _
 refine wpAny_bind (gd (h1.at fun o e=>sa.extBut _ o D.i1z e) (hl1.at fun o e=>sa.extBut _ o D.l1z e) hx fun hb h1b sb=>wpAny_pure ?_)
 have tb:IsPair hb TO p q:=sb.extBut _ _ D.TOi1 (sa.extBut _ _ D.TOz hTO)
 refine wpAny_bind (wpAny_seqItems tb rfl (wpAny_bind (wpAny_updateSeq_pair tb fun hc tc sc=>?_)))
 replace tc:IsPair hc TO x q:=tc
 refine wpAny_bind (wpAny_letGo (wpAny_pure ?_))
 refine wpAny_bind (wpAny_bind (wpAny_onRaise ?_))
 show wpAny _ _ (Builtin.SmallTypes.nextOf (.ref i2) >>= _) _ _ _
 refine wpAny_bind (gd (h2.at fun o e=>sc.extBut _ o D.TOi2.symm (sb.extBut _ o D.i12.symm (sa.extBut _ o D.i2z e))) (hl2.at fun o e=>sc.extBut _ o D.l2TO (sb.extBut _ o D.l2i1 (sa.extBut _ o D.l2z e))) hy fun hd h2d sd=>wpAny_pure ?_)
 have td:IsPair hd TO x q:=sd.extBut _ _ D.TOi2 tc
 refine wpAny_bind (wpAny_seqItems td rfl (wpAny_bind (wpAny_updateSeq_pair td fun he te se=>?_)))
 replace te:IsPair he TO x y:=te
 refine wpAny_bind (wpAny_letGo (wpAny_pure (wpAny_pure ?_)))
 refine wpAny_bind (wpAny_seqItems te rfl (wpAny_bind (wpAny_newTuple ?_)))
 have sz:he.objs.size=s.heap.objs.size:=by rw[se.1,sd.1,sc.1,sb.1,sa.1]
 have ze:IsZip he z TI TO .ellipsis:=se.extBut _ _ D.TOz.symm (sd.extBut _ _ D.i2z.symm (sc.extBut _ _ D.TOz.symm (sb.extBut _ _ D.i1z.symm hza)))
 have ke:yW z TO i1 i2 s.heap he:=fun c o c1 c2 c3 c4 e=>se.extBut _ _ c2 (sd.extBut _ _ c4 (sc.extBut _ _ c2 (sb.extBut _ _ c3 (sa.extBut _ _ c1 e))))
 have h1e:cr b he i1 l1 (k+1):=h1b.at fun o e=>se.extBut _ o D.TOi1.symm (sd.extBut _ o D.i12 (sc.extBut _ o D.TOi1.symm e))
 have h2e:cr c he i2 l2 (k+1):=h2d.at fun o e=>se.extBut _ o D.TOi2.symm e
 have zlt:z<he.objs.size:=Eo ze
 show wpAny _ _ (Builtin.SmallTypes.ownedTupleHandOut (.ref z) (.ref he.objs.size) >>= _) _ _ _
 refine wpAny_bind ?_
 unfold Builtin.SmallTypes.ownedTupleHandOut
 have zf:IsZip (he.push { cls:=.type "tuple",data:=.seq #[x,y] }) z TI TO .ellipsis:=Ee _ ze
 refine wpAny_bind (wpAny_setField_rec zf (by simp) fun hg zg sg=>?_)
 replace zg:IsZip hg z TI TO (rawInt he.objs.size):=zg
 refine wpAny_setField_rec zg (by simp) fun hh zh sh=>?_
 replace zh:IsZip hh z TI TO (rawInt he.objs.size):=zh
 have up:∀ c o,c≠z→he.get? c=some o→hh.get? c=some o:=fun c o c1 e=>sh.extBut _ _ c1 (sg.extBut _ _ c1 (Ee _ e))
 have th:IsPair hh he.objs.size x y:=sh.extBut _ _ (Fg zlt) (sg.extBut _ _ (Fg zlt) (Er _ rfl))
 rw [sz] at zh th
 refine wpAny_pure ⟨_,rfl,wpAny_pure ?_⟩
 show Q (some (.ref he.objs.size)) _
 rw [sz]
 exact hQ hh zh (up _ _ D.TOz te) (h1e.at fun o e=>up _ o D.i1z e) (h2e.at fun o e=>up _ o D.i2z e) th fun c o c1 c2 c3 c4 e=>up c o c1 (ke c o c1 c2 c3 c4 e)
theorem wT {b c:Bool}{z TI TO i1 i2 l1 l2:Addr}{k:Nat}{xs ys:Array Value}{p q:Value}{Q:Option Value→Shared→Prop} (hh:A.handled=none) (D:ZipApart z TI TO i1 i2 l1 l2)
  (hz:IsZip s.heap z TI TO .none) (hTI:IsPair s.heap TI (.ref i1) (.ref i2)) (hTO:IsPair s.heap TO p q) (h1:cr b s.heap i1 l1 k) (h2:cr c s.heap i2 l2 k) (hl1:cF b s.heap l1 xs) (hl2:cF c s.heap l2 ys) (hend:xs[k]? = none∨ys[k]? = none)
  (hQ:∀ h',yW z TO i1 i2 s.heap h'→Q none { s with heap:=h' }):wpAny (model prog w) A (pyNext (.ref z)) Q E s:=by
 have hT:s.TypeIs (.ref z) "zip" := ⟨_,hz,rfl⟩
 unfold pyNext
 refine wpAny_bind (wpAny_attempt (wpAny_callSpecial?_slot (name:=Str.ofString "__next__") hT F.slot_zip_next (wpAny_call_entry F.slot_zip_next hT F.entry_zip_next ?_ (F.args_zip_next_1 _))))
 show wpAny _ _ (field (.ref z) 2 >>= _) _ _ _
 refine wpAny_bind (wpAny_field hz rfl (x:=.bool false) rfl ?_)
 show wpAny _ _ (field (.ref z) 3 >>= _) _ _ _
 refine wpAny_bind (wpAny_field hz rfl (x:=.ref TI) rfl (wpAny_bind (wpAny_seqItems hTI rfl ?_)))
 show wpAny _ _ (Builtin.SmallTypes.ownedTupleIsFree (.ref z) >>= _) _ _ _
 refine wpAny_bind ?_
 unfold Builtin.SmallTypes.ownedTupleIsFree
 refine wpAny_bind (wpAny_field hz rfl (x:=.none) rfl (wpAny_pure ?_))
 simp only [if_true]
 refine wpAny_bind (wpAny_rule (wpAny_bind (wpAny_field hz rfl (x:=.ref TO) rfl (wpAny_bind (wpAny_setField_rec hz (by simp) fun ha hza sa=>?_)))))
 replace hza:IsZip ha z TI TO .ellipsis:=hza
 refine wpAny_bind ?_
 simp only [List.zipIdx_cons,List.zipIdx_nil,FK,FF]
 refine wpAny_bind (wpAny_bind (wpAny_onRaise ?_))
 show wpAny _ _ (Builtin.SmallTypes.nextOf (.ref i1) >>= _) _ _ _
 cases hx:xs[k]? with
 | none =>
  refine wpAny_bind (d5 hh (h1.at fun o e=>sa.extBut _ o D.i1z e) (hl1.at fun o e=>sa.extBut _ o D.l1z e) hx fun hb e sb zz7=>?_)
  obtain ⟨oe,hoe,hce⟩:=zz7
  have zb:IsZip hb z TI TO .ellipsis:=sb _ _ D.i1z.symm hza
  have ez:e≠z:=fun w'=>by subst w';rw[zb] at hoe;cases hoe;simp at hce
  exact wpAny_setField_rec zb (by simp) fun hc _ sc=>wpAny_bind (wpAny_isInstance (T := "StopIteration") (b:=true) ⟨oe,sc.extBut _ _ ez hoe,hce⟩ isSubtype_stop (wpAny_pure (hQ hc fun c o c1 _ c3 _ x=>sc.extBut _ _ c1 (sb _ _ c3 (sa.extBut _ _ c1 x)))))
 | some x =>
  have hy:ys[k]? = none:=by
   rcases hend with h|h
   ·rw [hx] at h;cases h
   ·exact h
  refine wpAny_bind (gd (h1.at fun o e=>sa.extBut _ o D.i1z e) (hl1.at fun o e=>sa.extBut _ o D.l1z e) hx fun hb h1b sb=>wpAny_pure ?_)
  have tb:IsPair hb TO p q:=sb.extBut _ _ D.TOi1 (sa.extBut _ _ D.TOz hTO)
  refine wpAny_bind (wpAny_seqItems tb rfl (wpAny_bind (wpAny_updateSeq_pair tb fun hc tc sc=>?_)))
  refine wpAny_bind (wpAny_letGo (wpAny_pure ?_))
  refine wpAny_bind (wpAny_bind (wpAny_onRaise ?_))
  show wpAny _ _ (Builtin.SmallTypes.nextOf (.ref i2) >>= _) _ _ _
  refine wpAny_bind (d5 hh (h2.at fun o e=>sc.extBut _ o D.TOi2.symm (sb.extBut _ o D.i12.symm (sa.extBut _ o D.i2z e))) (hl2.at fun o e=>sc.extBut _ o D.l2TO (sb.extBut _ o D.l2i1 (sa.extBut _ o D.l2z e))) hy fun hd e sd zz8=>?_)
  obtain ⟨oe,hoe,hce⟩:=zz8
  have zd:IsZip hd z TI TO .ellipsis:=sd _ _ D.i2z.symm (sc.extBut _ _ D.TOz.symm (sb.extBut _ _ D.i1z.symm hza))
  have ez:e≠z:=fun w'=>by subst w';rw[zd] at hoe;cases hoe;simp at hce
  exact wpAny_setField_rec zd (by simp) fun he _ se=>wpAny_bind (wpAny_isInstance (T := "StopIteration") (b:=true) ⟨oe,se.extBut _ _ ez hoe,hce⟩ isSubtype_stop (wpAny_pure (hQ he fun c o c1 c2 c3 c4 x=>se.extBut _ _ c1 (sd _ _ c4 (sc.extBut _ _ c2 (sb.extBut _ _ c3 (sa.extBut _ _ c1 x)))))))
end
theorem aX {X:Cx}{pins:List (Addr×Obj)}{σ:St}{H:Hp}{s:Shared}{b:Bool}{a c:Addr}{xs:List V} (I:Inv X pins σ H s) (h:SqB X.K H b a xs) (f:gn X pins H c):a≠c:=by
 obtain ⟨f0,f1,f2,f3,f4,f5⟩:=f
 have key:(∃ o,H a=some o)∨∃ o,X.K.lookup a=some o:=by
  cases b with
  | false =>
   rcases h with (h|⟨o,h⟩)|⟨o,_,_,hk,_⟩
   ·exact .inl ⟨_,h⟩
   ·exact .inl ⟨_,h⟩
   ·exact .inr ⟨o,hk⟩
  | true =>
   rcases h with (h|⟨o,h⟩)|⟨o,_,_,hk,_⟩
   ·exact .inl ⟨_,h⟩
   ·exact .inl ⟨_,h⟩
   ·exact .inr ⟨o,hk⟩
 rintro rfl
 rcases key with ⟨o,e⟩|⟨o,e⟩
 ·rw [f0] at e;cases e
 ·have q:=I.ok.mod.kin a o e
  rcases f3 with f3|f3
  ·exact I.ok.noex a o q f3
  ·exact absurd (Ep (Eo q) (Eg I.ok.bsz f3)) (Fc _)
noncomputable def Itz (K:PySem.W.Frag) (b c:Bool) (l1 l2:Addr):It :=
  ⟨fun i H=>∃ xs ys x y,SqB K H b l1 xs∧SqB K H c l2 ys∧xs[i]? = some x∧ys[i]? = some y,
   fun i H v H'=>∃ p x y,v=.ref p∧H p=none∧H'=upd H p (.tup [x,y])∧(∀ xs,SqB K H b l1 xs→xs[i]? = some x)∧∀ ys,SqB K H c l2 ys→ys[i]? = some y,
   fun i H=>∃ xs ys,SqB K H b l1 xs∧SqB K H c l2 ys∧(xs.length≤i∨ys.length≤i)⟩
structure ZAp (z TI TO i1 i2:Addr):Prop where
 TIz:TI≠z
 TOz:TO≠z
 i1z:i1≠z
 i2z:i2≠z
 TITO:TI≠TO
 TIi1:TI≠i1
 TIi2:TI≠i2
 TOi1:TO≠i1
 TOi2:TO≠i2
 i12:i1≠i2
theorem tx {P:Program}{w:World}{K:PySem.W.Frag}{es:List Expr}{kk:Nat}{pos:Pos} (b c:Bool) (z TI TO i1 i2 l1 l2:Addr) (ap:ZAp z TI TO i1 i2) :
  yX P w K (.Tuple es kk pos) (Itz K b c l1 l2) [z,TI,TO,i1,i2] z
   (fun i h=>IsZip h z TI TO .none∧IsPair h TI (.ref i1) (.ref i2)∧(∃ p q,IsPair h TO p q)∧cr b h i1 l1 i∧cr c h i2 l2 i) where
 mem:=by simp
 obj := fun i h st d hd=>by
  obtain ⟨hz,hTI,⟨p,q,hTO⟩,h1,h2⟩:=st
  obtain ⟨o1,e1,d1⟩:=h1.obj
  obtain ⟨o2,e2,d2⟩:=h2.obj
  simp only [En,EJ,or_false] at hd
  rcases hd with rfl|rfl|rfl|rfl|rfl
  ·exact ⟨_,hz,fun v e=>by
    have e':Data.fields _=Data.cell v:=e
    cases e'⟩
  ·exact ⟨_,hTI,fun v e=>by
    have e':Data.seq _ _=Data.cell v:=e
    cases e'⟩
  ·exact ⟨_,hTO,fun v e=>by
    have e':Data.seq _ _=Data.cell v:=e
    cases e'⟩
  ·exact ⟨o1,e1,fun v e=>by rw[d1] at e;cases e⟩
  ·exact ⟨o2,e2,fun v e=>by rw[d2] at e;cases e⟩
 keep:=fun i h h' st k=>by
  obtain ⟨hz,hTI,⟨p,q,hTO⟩,h1,h2⟩:=st
  exact ⟨k z (by simp) _ hz,k TI (by simp) _ hTI,⟨p,q,k TO (by simp) _ hTO⟩,h1.at fun o e=>k i1 (by simp) o e,h2.at fun o e=>k i2 (by simp) o e⟩
 item := by
  intro X hP hw hK hc i pins s σ H E I hf st hg
  subst hP hw hK
  obtain ⟨xs,ys,x,y,hq1,hq2,hx,hy⟩:=hg
  obtain ⟨hz,hTI,⟨p,q,hTO⟩,h1,h2⟩:=st
  obtain ⟨its1,rv1,ha1⟩:=I.seq hq1
  obtain ⟨its2,rv2,ha2⟩:=I.seq hq2
  obtain ⟨u,hu,ru⟩:=rv1.get hx
  obtain ⟨v,hv,rv⟩:=rv2.get hy
  have D:ZipApart z TI TO i1 i2 l1 l2:=⟨ap.TIz,ap.TOz,ap.i1z,ap.i2z,ap.TITO,ap.TIi1,ap.TIi2,ap.TOi1,ap.TOi2,ap.i12,
   aX I hq1 (hf z (by simp)),aX I hq1 (hf TO (by simp)),aX I hq1 (hf i1 (by simp)),aX I hq1 (hf i2 (by simp)),aX I hq2 (hf z (by simp)),aX I hq2 (hf TO (by simp)),aX I hq2 (hf i1 (by simp)),aX I hq2 (hf i2 (by simp))⟩
  refine tp D hz hTI hTO h1 h2 ha1 ha2 (x:=u) (y:=v) (by simpa using hu) (by simpa using hv) fun h' a1 a2 a3 a4 a5 hk=>⟨_,rfl,wpAny_letOwnedTupleGo_zip a1 fun h2' hz2 hs2=>?_⟩
  have zlt:z<s.heap.objs.size:=Eo hz
  have I2:Inv X pins σ H { s with heap:=h2' }:=I.turnedN (t':=s.toks) hf fun d o hd e=>hs2.extBut d o (fun w'=>hd (by simp[w'])) (hk d o (fun w'=>hd (by simp[w'])) (fun w'=>hd (by simp[w'])) (fun w'=>hd (by simp[w'])) (fun w'=>hd (by simp[w'])) e)
  have g2:h2'.get? s.heap.objs.size=some { cls:=.type "tuple",data:=.seq #[u,v] }:=hs2.extBut _ _ (Fg zlt) a5
  have hn:H s.heap.objs.size=none:=I.hok.fresh (Ek _)
  refine ⟨.ref s.heap.objs.size,upd H s.heap.objs.size (.tup [x,y]),I2.track (T:=s.heap.objs.size) (o:=.tup [x,y]) (I.fpOk (Ek _) hn) ?_,rfl,?_,⟨hz2,?_,⟨u,v,?_⟩,?_,?_⟩,fun d hd=>?_⟩
  ·exact ⟨by show 2≤sizeLine;decide,[u,v],.cons ru (.cons rv .nil),_,g2,rfl,⟨_,rfl⟩,rfl⟩
  ·exact ⟨_,x,y,rfl,hn,rfl,fun zs hy'=>by rw[I.seq_inj hy' hq1];exact hx,fun zs hy'=>by rw[I.seq_inj hy' hq2];exact hy⟩
  ·exact hs2.extBut _ _ ap.TIz (hk _ _ ap.TIz ap.TITO ap.TIi1 ap.TIi2 hTI)
  ·exact hs2.extBut _ _ ap.TOz a2
  ·exact a3.at fun o e=>hs2.extBut _ o ap.i1z e
  ·exact a4.at fun o e=>hs2.extBut _ o ap.i2z e
  ·have hlt:d<s.heap.objs.size:=by
    obtain ⟨o1,e1,_⟩:=h1.obj
    obtain ⟨o2,e2,_⟩:=h2.obj
    simp only [En,EJ,or_false] at hd
    rcases hd with rfl|rfl|rfl|rfl|rfl
    ·exact zlt
    ·exact Eo hTI
    ·exact Eo hTO
    ·exact Eo e1
    ·exact Eo e2
   rw [am (ED hlt)]
   exact (hf d hd).1
 done:=by
  intro X hP hw hK hc i pins s σ H E I hf st hg
  subst hP hw hK
  obtain ⟨xs,ys,hq1,hq2,hend⟩:=hg
  obtain ⟨hz,hTI,⟨p,q,hTO⟩,h1,h2⟩:=st
  obtain ⟨its1,rv1,ha1⟩:=I.seq hq1
  obtain ⟨its2,rv2,ha2⟩:=I.seq hq2
  have D:ZipApart z TI TO i1 i2 l1 l2:=⟨ap.TIz,ap.TOz,ap.i1z,ap.i2z,ap.TITO,ap.TIi1,ap.TIi2,ap.TOi1,ap.TOi2,ap.i12,
   aX I hq1 (hf z (by simp)),aX I hq1 (hf TO (by simp)),aX I hq1 (hf i1 (by simp)),aX I hq1 (hf i2 (by simp)),aX I hq2 (hf z (by simp)),aX I hq2 (hf TO (by simp)),aX I hq2 (hf i1 (by simp)),aX I hq2 (hf i2 (by simp))⟩
  have l1':=rv1.length
  have l2':=rv2.length
  have hend':its1.toArray[i]? = none∨its2.toArray[i]? = none:=by
   rcases hend with h|h
   ·exact .inl (by simp;omega)
   ·exact .inr (by simp;omega)
  refine wT (I.ok.hd hc) D hz hTI hTO h1 h2 ha1 ha2 hend' fun h' hk=>⟨rfl,?_⟩
  exact I.turnedN (t':=s.toks) hf fun d o hd e=>hk d o (fun w'=>hd (by simp[w'])) (fun w'=>hd (by simp[w'])) (fun w'=>hd (by simp[w'])) (fun w'=>hd (by simp[w'])) e
 self:=fun A i s Q E st h=>wpAny_pyIter_zip st.1 h
section
variable {X:Cx}
noncomputable def C6 (K:PySem.W.Frag) (b c:Bool) (ta:TA):TI:=fun σ H R=>ta σ H fun vs H1=>∃ l1 l2 xs ys,vs=[.ref l1,.ref l2]∧SqB K H1 b l1 xs∧SqB K H1 c l2 ys∧R (Itz K b c l1 l2) H1
theorem zW (b c:Bool) {es:List Expr}{kk:Nat}{tpos:Pos}{e1 e2:Expr}{ta:TA}{p pos:Pos} (hg:Gl X "zip") (hm:X.mg "zip" = none) (hbt:bootBuiltins "zip" = some (.type "zip")) (ha:PA X [e1,e2] ta)
  (hs:starEach [e1,e2] X.env=[(false,eval e1 X.env),(false,eval e2 X.env)]:=by rfl) (hs2:starEach [e2] X.env=[(false,eval e2 X.env)]:=by rfl) :
  PI X (.Tuple es kk tpos) (.Call (.Name "zip" p) [e1,e2] [] pos) (C6 X.K b c ta):=by
 intro pins s σ H R I h
 refine Call_ (fJ I hg hm hbt (PyProof.Rows.callWith_type1 (thn (ha pos pins s σ H _ I h) fun us s1 zz0=>?_) (by rw[hs,hs2]) (by rw[hs2];rfl)))
 obtain ⟨vs,H1,I1,r1,q1⟩:=zz0
 obtain ⟨l1,l2,xs,ys,rfl,hq1,hq2,q⟩:=q1
 obtain ⟨u,v,rfl,ru,rv⟩:=pz r1
 cases (show u=Value.ref l1 from ru)
 cases (show v=Value.ref l2 from rv)
 obtain ⟨its1,rv1,ha1⟩:=I1.seq hq1
 obtain ⟨its2,rv2,ha2⟩:=I1.seq hq2
 refine tq ha1 ha2 fun h' hz hTI hTO h1 h2 hk=>wpAny_pyIter_zip hz ?_
 have I2:Inv X pins σ H1 { s1 with heap:=h' }:=I1.kept (t':=s1.toks) hk
 have ap:ZAp (s1.heap.objs.size+4) (s1.heap.objs.size+2) (s1.heap.objs.size+3) s1.heap.objs.size (s1.heap.objs.size+1):=by
  refine ⟨?_,?_,?_,?_,?_,?_,?_,?_,?_,?_⟩ <;> (intro z;exact absurd (congrArg (fun (n:Nat)=>n - s1.heap.objs.size) z) (by simp))
 refine ⟨s1.heap.objs.size+4,[s1.heap.objs.size+4,s1.heap.objs.size+2,s1.heap.objs.size+3,s1.heap.objs.size,s1.heap.objs.size+1],_,_,H1,rfl,I2,tx b c _ _ _ _ _ l1 l2 ap,⟨hz,hTI,⟨_,_,hTO⟩,h1,h2⟩,fun d hd=>?_,q⟩
 have hle:s1.heap.objs.size≤d:=by
  simp only [En,EJ,or_false] at hd
  rcases hd with rfl|rfl|rfl|rfl|rfl
  ·exact Fi _ _
  ·exact Fi _ _
  ·exact Fi _ _
  ·exact Ek _
  ·exact Fi _ _
 exact I1.fpOk hle (I1.hok.fresh hle)
end
noncomputable def SnL (K:PySem.W.Frag) (N:Addr→Prop) (H:Hp) (a:Addr) (xs:List V):Prop :=
 (Rd H a (.lst xs)∧¬N a)∨∃ (o:Obj) (its:Array Value) (n:Nat),K.lookup a=some o∧o.cls=.type "list" ∧ o.dict=none∧o.data=.seq its n∧its.size≤sizeLine∧aO xs its.toList
noncomputable def SnT (K:PySem.W.Frag) (N:Addr→Prop) (H:Hp) (a:Addr) (xs:List V):Prop :=
 (Rd H a (.tup xs)∧¬N a)∨∃ (o:Obj) (its:Array Value) (n:Nat),K.lookup a=some o∧(o.cls=.type "tuple" ∧ o.dict=none)∧o.data=.seq its n∧its.size≤sizeLine∧aO xs its.toList
noncomputable def aS (N:Addr→Prop) (H H':Hp):Prop:=∀ b o,¬N b→H b=some o→H' b=some o
theorem aS.refl {N:Addr→Prop}{H:Hp}:aS N H H:=fun _ _ _ e=>e
theorem aS.trans {N:Addr→Prop}{H H1 H2:Hp} (a:aS N H H1) (b:aS N H1 H2):aS N H H2:=fun c o n e=>b c o n (a c o n e)
theorem aS.own {N:Addr→Prop}{H:Hp}{p:Addr}{o:HO} (h:N p):aS N H (upd H p o):=fun b u n e=>by
 have q:b≠p:=fun z=>n (by rw[z];exact h)
 rw [am q]
 exact e
theorem aS.mono {N M:Addr→Prop}{H H':Hp} (a:aS N H H') (h:∀ b,N b→M b):aS M H H':=fun b o n e=>a b o (fun z=>n (h b z)) e
theorem aS.same {N:Addr→Prop}{H H':Hp} (a:a9 H H'):aS N H H':=fun b o _ e=>a b o e
noncomputable abbrev N0:Addr→Prop:=fun _=>False
noncomputable abbrev N1 (d:Addr):Addr→Prop:=fun b=>b=d
theorem aS.none {H H':Hp} (a:aS N0 H H'):a9 H H':=fun b o e=>a b o (fun z=>z) e
section
variable {K:PySem.W.Frag}{N M:Addr→Prop}{H H':Hp}{a:Addr}{xs:List V}
theorem SnL.of (h:H a=some (.lst xs)) (n:¬N a):SnL K N H a xs:=.inl ⟨.inl h,n⟩
theorem SnT.of (h:H a=some (.tup xs)) (n:¬N a):SnT K N H a xs:=.inl ⟨.inl h,n⟩
theorem SnL.sq (h:SnL K N H a xs):SqL K H a xs:=by
 rcases h with ⟨h,_⟩|h
 ·exact .inl h
 ·exact .inr h
theorem SnT.sq (h:SnT K N H a xs):SqT K H a xs:=by
 rcases h with ⟨h,_⟩|h
 ·exact .inl h
 ·exact .inr h
theorem SnL.keep (h:SnL K N H a xs) (k:aS N H H'):SnL K N H' a xs:=by
 rcases h with ⟨h|⟨o,h⟩,n⟩|h
 ·exact .inl ⟨.inl (k _ _ n h),n⟩
 ·exact .inl ⟨.inr ⟨o,k _ _ n h⟩,n⟩
 ·exact .inr h
theorem SnT.keep (h:SnT K N H a xs) (k:aS N H H'):SnT K N H' a xs:=by
 rcases h with ⟨h|⟨o,h⟩,n⟩|h
 ·exact .inl ⟨.inl (k _ _ n h),n⟩
 ·exact .inl ⟨.inr ⟨o,k _ _ n h⟩,n⟩
 ·exact .inr h
theorem SnL.to (h:SnL K N H a xs) (m:∀ b o,H b=some o→M b→N b):SnL K M H a xs:=by
 rcases h with ⟨h|⟨o,h⟩,n⟩|h
 ·exact .inl ⟨.inl h,fun z=>n (m _ _ h z)⟩
 ·exact .inl ⟨.inr ⟨o,h⟩,fun z=>n (m _ _ h z)⟩
 ·exact .inr h
theorem SnT.to (h:SnT K N H a xs) (m:∀ b o,H b=some o→M b→N b):SnT K M H a xs:=by
 rcases h with ⟨h|⟨o,h⟩,n⟩|h
 ·exact .inl ⟨.inl h,fun z=>n (m _ _ h z)⟩
 ·exact .inl ⟨.inr ⟨o,h⟩,fun z=>n (m _ _ h z)⟩
 ·exact .inr h
end
mutual
inductive DN (K:PySem.W.Frag) (N:Addr→Prop) (H:Hp):V→PyData→Prop
 | non:DN K N H .non .none
 | bl (b:Bool):DN K N H (.bl b) (.bool b)
 | int (i:Int):DN K N H (.int i) (.int i)
 | lst {a:Addr}{xs:List V}{ds:List PyData}:SnL K N H a xs→DNs K N H xs ds→DN K N H (.ref a) (.list ds)
 | tup {a:Addr}{xs:List V}{ds:List PyData}:SnT K N H a xs→DNs K N H xs ds→DN K N H (.ref a) (.tuple ds)
 | dct {a:Addr}{es:List (aM×Addr×V)}{kvs:List (aM×PyData)}:¬N a→H a=some (.ext (b8 a es))→DNs K N H (es.map fun p=>V.ref p.2.1) (kvs.map fun p=>c7 p.1)→DNs K N H (es.map fun p=>p.2.2) (kvs.map fun p=>p.2)→es.map (fun p=>p.1)=kvs.map (fun p=>p.1)→DN K N H (.ref a) (dX kvs)
 | fz {v:V}{ds:List PyData}:DN K N H v (.list ds)→DN K N H v (fzD ds)
inductive DNs (K:PySem.W.Frag) (N:Addr→Prop) (H:Hp):List V→List PyData→Prop
 | nil:DNs K N H [] []
 | cons {x:V}{xs:List V}{d:PyData}{ds:List PyData}:DN K N H x d→DNs K N H xs ds→DNs K N H (x::xs) (d::ds)
end
section
variable {K:PySem.W.Frag}{N M:Addr→Prop}{H H':Hp}
theorem DN.dv {v:V}{d:PyData} (h:DN K N H v d):DV K H v d :=
 DN.rec (motive_1:=fun v d _=>DV K H v d) (motive_2:=fun v d _=>DVs K H v d)
 .non (fun b=>.bl b) (fun i=>.int i)
 (fun h _ q=>.lst h.sq q) (fun h _ q=>.tup h.sq q)
 (fun _ h _ _ e q r=>.dct h q r e) (fun _ h=>.fz h) .nil (fun _ _ h q=>.cons h q) h
theorem DNs.dv {v:List V}{d:List PyData} (h:DNs K N H v d):DVs K H v d :=
 DNs.rec (motive_1:=fun v d _=>DV K H v d) (motive_2:=fun v d _=>DVs K H v d)
 .non (fun b=>.bl b) (fun i=>.int i)
 (fun h _ q=>.lst h.sq q) (fun h _ q=>.tup h.sq q)
 (fun _ h _ _ e q r=>.dct h q r e) (fun _ h=>.fz h) .nil (fun _ _ h q=>.cons h q) h
theorem DN.keep (k:aS N H H') {v:V}{d:PyData} (h:DN K N H v d):DN K N H' v d :=
 DN.rec (motive_1:=fun v d _=>DN K N H' v d) (motive_2:=fun v d _=>DNs K N H' v d)
 .non (fun b=>.bl b) (fun i=>.int i)
 (fun h _ q=>.lst (h.keep k) q) (fun h _ q=>.tup (h.keep k) q)
 (fun n h _ _ e q r=>.dct n (k _ _ n h) q r e) (fun _ h=>.fz h) .nil (fun _ _ h q=>.cons h q) h
theorem DNs.keep (k:aS N H H') {v:List V}{d:List PyData} (h:DNs K N H v d):DNs K N H' v d :=
 DNs.rec (motive_1:=fun v d _=>DN K N H' v d) (motive_2:=fun v d _=>DNs K N H' v d)
 .non (fun b=>.bl b) (fun i=>.int i)
 (fun h _ q=>.lst (h.keep k) q) (fun h _ q=>.tup (h.keep k) q)
 (fun n h _ _ e q r=>.dct n (k _ _ n h) q r e) (fun _ h=>.fz h) .nil (fun _ _ h q=>.cons h q) h
theorem DN.to (m:∀ b o,H b=some o→M b→N b) {v:V}{d:PyData} (h:DN K N H v d):DN K M H v d :=
 DN.rec (motive_1:=fun v d _=>DN K M H v d) (motive_2:=fun v d _=>DNs K M H v d)
 .non (fun b=>.bl b) (fun i=>.int i)
 (fun h _ q=>.lst (h.to m) q) (fun h _ q=>.tup (h.to m) q)
 (fun n h _ _ e q r=>.dct (fun z=>n (m _ _ h z)) h q r e) (fun _ h=>.fz h) .nil (fun _ _ h q=>.cons h q) h
theorem DNs.to (m:∀ b o,H b=some o→M b→N b) {v:List V}{d:List PyData} (h:DNs K N H v d):DNs K M H v d :=
 DNs.rec (motive_1:=fun v d _=>DN K M H v d) (motive_2:=fun v d _=>DNs K M H v d)
 .non (fun b=>.bl b) (fun i=>.int i)
 (fun h _ q=>.lst (h.to m) q) (fun h _ q=>.tup (h.to m) q)
 (fun n h _ _ e q r=>.dct (fun z=>n (m _ _ h z)) h q r e) (fun _ h=>.fz h) .nil (fun _ _ h q=>.cons h q) h
theorem DNs.ind {C:List V→List PyData→Prop} (n:C [] []) (c:∀ {x:V}{xs:List V}{d:PyData}{ds:List PyData},DN K N H x d→DNs K N H xs ds→C xs ds→C (x::xs) (d::ds)) {v:List V}{d:List PyData} (h:DNs K N H v d):C v d :=
 DNs.rec (motive_1:=fun _ _ _=>True) (motive_2:=fun v d _=>C v d) trivial (fun _=>trivial) (fun _=>trivial)
 (fun _ _ _=>trivial) (fun _ _ _=>trivial)
 (fun _ _ _ _ _ _ _=>trivial) (fun _ _=>trivial) n (fun h q _ i=>c h q i) h
theorem DNs.len {v:List V}{d:List PyData} (h:DNs K N H v d):v.length=d.length:=DNs.ind (C:=fun v d=>v.length=d.length) rfl (fun _ _ i=>by rw[ES,ES,i]) h
theorem DNs.get:∀ {v:List V}{d:List PyData}{i:Nat}{x:V},DNs K N H v d→v[i]? = some x→∃ e,d[i]? = some e∧DN K N H x e
 | _,_,_,_,.nil,e=>by simp at e
 | _,_,0,_,.cons h _,e=>by simp at e;subst e;exact⟨_,rfl,h⟩
 | _,_,i+1,_,.cons _ q,e=>by
  obtain ⟨d,h1,h2⟩:=DNs.get (i:=i) q (by simpa using e)
  exact ⟨d,by simpa using h1,h2⟩
theorem DNs.app {v w:List V}{d e:List PyData} (h:DNs K N H v d) (q:DNs K N H w e):DNs K N H (v++w) (d++e):=DNs.ind (C:=fun v d=>DNs K N H (v++w) (d++e)) q (fun h _ i=>.cons h i) h
noncomputable abbrev pI (ns:List Int):PyData:=.list (ns.map .int)
noncomputable abbrev pT (ns:List Int):PyData:=.tuple (ns.map .int)
theorem jv:∀ ns:List Int,DNs K N H (ns.map V.int) (ns.map .int)
 | []=>.nil
 | n::r=>.cons (.int n) (jv r)
theorem DNs.ints:∀ {ns:List Int}{v:List V},DNs K N H v (ns.map .int)→v=ns.map V.int
 | [],_,.nil=>rfl
 | n::r,_,.cons h q=>by
  cases h
  rw [q.ints];rfl
theorem DN.ofI {a:Addr}{ns:List Int} (h:SnL K N H a (ns.map V.int)):DN K N H (.ref a) (pI ns):=.lst h (jv ns)
theorem DN.list {v:V}{ds:List PyData} (h:DN K N H v (.list ds)):∃ a xs,v=.ref a∧SnL K N H a xs∧DNs K N H xs ds:=by
 cases h with|lst h q=>exact⟨_,_,rfl,h,q⟩
theorem DN.tuple {v:V}{ds:List PyData} (h:DN K N H v (.tuple ds)):∃ a xs,v=.ref a∧SnT K N H a xs∧DNs K N H xs ds:=by
 cases h with|tup h q=>exact⟨_,_,rfl,h,q⟩
theorem DN.of2 {a:Addr}{x y:V}{d e:PyData} (s:SnT K N H a [x,y]) (h1:DN K N H x d) (h2:DN K N H y e):DN K N H (.ref a) (.tuple [d,e]):=.tup s (.cons h1 (.cons h2 .nil))
noncomputable abbrev C3 (S:Int×List Int):PyData:=.tuple [.int S.1,pT S.2]
end
theorem d7:∀ a b:List Int,PyData.eqvAll (a.map .int) (b.map .int)=decide (a=b)
 | [],[]=>by simp[PyData.eqvAll]
 | [],_::_=>by simp[PyData.eqvAll]
 | _::_,[]=>by simp[PyData.eqvAll]
 | x::a,y::b=>by
  rw [Eu,Eu,PyData.eqvAll,d7 a b]
  simp only [PyData.eqv]
  by_cases h:x=y <;> by_cases h':a=b <;> simp[h,h']
theorem yt (a b:List Int):PyData.eqv (pI a) (pI b)=decide (a=b):=by
 show PyData.eqvAll _ _=_
 exact d7 a b
theorem Cu (a b:List Int):PyData.eqv (pT a) (pT b)=decide (a=b):=by
 show PyData.eqvAll _ _=_
 exact d7 a b
theorem yr (S T:Int×List Int):PyData.eqv (C3 S) (C3 T)=decide (S=T):=by
 show PyData.eqvAll [.int S.1,pT S.2] [.int T.1,pT T.2]=_
 have e1:PyData.eqv (.int S.1) (.int T.1)=(S.1==T.1):=rfl
 rw [PyData.eqvAll,PyData.eqvAll,PyData.eqvAll,Cu,e1]
 by_cases h:S.1=T.1 <;> by_cases h':S.2=T.2 <;> simp[h,h',Prod.ext_iff]
theorem jl (a:List Int):PyData.canLayAll0 (a.map .int)=true:=PySem.W.ke_canLayAll0 a
theorem uR (a:List Int):PyData.depthAll (a.map .int)=0:=PySem.W.ke_depthAll a
theorem BM (a:List Int):shp (pI a):=by simp[shp,SeqAt.shaped,PyData.canLay0,PyData.depth,jl,uR]
section
variable {K:PySem.W.Frag}{a:Addr}{xs:List V}{g:TG}{tt:TT}{te:TE}{σ0:St}{H:Hp}{Qe:List V→Hp→Prop}
end
noncomputable def Cal (P:Program) (w:World) (K:PySem.W.Frag) (mg:Str→Option Value) (base:Heap) (x:Str) (k:Nat) (sp:Sp):Prop :=
 ∃ (f:Addr) (fd:FuncData) (ps:List Str),cG P w K mg base CX0 k f fd ps sp∧bu K fd ps []∧PySem.W.keepIn K (.ref f)=true∧mg x=some (.ref f)
section
variable {X:Cx}{x:Str}{p pos:Pos}{e:Expr}{es:List Expr}{t:TA}{k:Nat}{sp:Sp}
theorem qI (C:Cal X.prog X.w X.K X.mg X.base x k sp) (hr:cY k X.A) (hg:Gl X x) (ha:PA X (e::es) t) (hd:(x==("__debug__" : Str))=false:=by decide)
  (he:starEach (e::es) X.env=(false,eval e X.env)::starEach es X.env:=by rfl) (hpl:(backTo pos (starEach es X.env)).any (·.1)=false:=by rfl):PE X (.Call (.Name x p) (e::es) [] pos) (pE sp [] E0 t):=by
 obtain ⟨f,fd,ps,F,b,kp,m⟩:=C
 exact xP F hr hg m kp b .nil B5 ha hd he hpl
end
noncomputable def bOk (N:List Str) (sc0:Scope) (N':List Str) (ix:List (Option Nat)) (sc:Scope):Bool :=
 decide (sc.kind=.function)&&decide ((sc.names.map (·.1)).Nodup)&&sc.names.all (fun y=>!(y.2==.free) || decide (sc0.names.lookup y.1=some .cell) || decide (sc0.names.lookup y.1=some .free))&&decide (ix.length=N'.length) &&
 (ix.zip N').all fun q=>match q.1 with
  | none=>true
  | some j=>decide (N[j]? = some q.2)&&decide (sc.names.lookup q.2=some .free)
theorem bP {X:Cx}{N N':List Str}{ix:List (Option Nat)}{sc sc0:Scope} (hN:X.N=N) (h0:X.env.scope=sc0) (h:bOk N sc0 N' ix sc=true):ck X.N X.env N' ix sc:=by
 rw [←hN] at h
 unfold bOk at h
 simp only [ER,decide_eq_true_eq] at h
 obtain ⟨⟨⟨⟨h1,h2⟩,h3⟩,h4⟩,h5⟩:=h
 refine ⟨h1,h2,fun y hy hf=>?_,h4,fun i j hij=>?_⟩
 ·have q:=Fy.mp h3 y hy
  rw [hf] at q
  have e:∀ z,X.env.kindOf z=sc0.names.lookup z:=fun z=>by
   show X.env.scope.names.lookup z=_
   rw [h0]
  rw [e]
  simpa using q
 ·have hi:i<ix.length:=(Ef.mp hij).1
  have hi':i<N'.length:=by omega
  have hm:(some j,N'[i])∈ix.zip N':=by
   rw [List.mem_iff_getElem?]
   refine ⟨i,?_⟩
   rw [FI]
   exact ⟨hij,D8 hi'⟩
  have q:=Fy.mp h5 _ hm
  simp only [ER,decide_eq_true_eq] at q
  exact ⟨N'[i],D8 hi',q.1,q.2⟩
structure Bn (mg:Str→Option Value):Prop where
 len:mg "len" = none
 range:mg "range" = none
 min:mg "min" = none
 max:mg "max" = none
 enumerate:mg "enumerate" = none
 zip:mg "zip" = none
 all:mg "all" = none
 any:mg "any" = none
 isinstance:mg "isinstance" = none
 bool:mg "bool" = none
 int:mg "int" = none
 list:mg "list" = none
 tuple:mg "tuple" = none
 sorted:mg "sorted" = none
 str:mg "str" = none
 sum:mg "sum" = none
 abs:mg "abs" = none
theorem qP {X:Cx}:OpR X (compareOp .IsNot) (fun x y H Q=>∃ b c,x=.bl b∧y=.bl c∧Q (.bl (b != c)) H):=by
 intro pins s σ H x y v u Q I r1 r2 h
 obtain ⟨b,c,rfl,rfl,q⟩:=h
 cases (show v=Value.bool b from r1)
 cases (show u=Value.bool c from r2)
 exact isnot_bool ⟨.bl _,H,I,rfl,q⟩
noncomputable def SnB (K:PySem.W.Frag) (N:Addr→Prop) (H:Hp):Bool→Addr→List V→Prop
 | false,a,xs=>SnL K N H a xs
 | true,a,xs=>SnT K N H a xs
theorem a9.new {H:Hp}{p:Addr}{o:HO} (h:H p=none):a9 H (upd H p o):=fun b u e=>by rw[am (au e h)];exact e
theorem Cal.mk {P:Program}{w:World}{K:PySem.W.Frag}{mg:Str→Option Value}{base:Heap}{x:Str}{st:Stmt}{f:Addr}{fd:FuncData}{k:Nat}{ps:List Str}{sp:Sp} (F:Fun K x x st f fd) (m:mg x=some (.ref f)) (b:bu K fd ps [])
  (G : cG P w K mg base CX0 k f fd ps sp):Cal P w K mg base x k sp:=⟨f,fd,ps,G,b,F.kp,m⟩
theorem ae:1000000≤sizeLine:=by decide
section
variable {X:Cx}{K:PySem.W.Frag} (hK:X.K=K)
include hK
theorem im:fC X (.builtin "len") (fun xs H Q=>∃ p ys,xs=[.ref p]∧(SqL K H p ys∨SqT K H p ys)∧Q (.int ys.length) H):=by subst hK;exact lb
theorem DF:SlR X (C0 K):=by subst hK;exact w9
theorem DC:SlR X (CZ K):=by subst hK;exact zv
theorem Cf:OpR X (binaryOp .Add) (zB K):=by subst hK;exact xV
theorem za (hu:X.A.units+64<cLine):OpR X (compareOp .Eq) (BW K):=by subst hK;exact Ag hu
theorem Bl (hu:X.A.units+64<cLine):OpR X (compareOp .NotEq) (BR K):=by subst hK;exact Ab hu
theorem DJ (hu:X.A.units+80<cLine):OpR X (compareOp .In) (BV K):=by subst hK;exact Ae hu
theorem kIn:OpR X (compareOp .In) (rIn K false):=by subst hK;exact qQ
theorem AA:OpR X (compareOp .NotIn) (rIn K true):=by subst hK;exact j9
theorem Ch (hc:X.calm=true):fC X (.builtin "all") (fun xs H Q=>∃ (a:Addr) (bs:List Bool),xs=[.ref a]∧SqL K H a (bs.map V.bl)∧Q (.bl (bs.all id)) H):=by subst hK;exact u8 hc
theorem Az:fC X (.type "tuple") (fun xs H Q=>∃ p ys,xs=[.ref p]∧((SqL K H p ys∧∀ l,H l=none→Q (.ref l) (upd H l (.tup ys)))∨(SqT K H p ys∧Q (.ref p) H))):=by subst hK;exact jB
variable {tg:Expr}
theorem Aq {l:Expr}{tl:TE} (hl:PE X l tl):PI X tg l (AF K tl):=by subst hK;exact xD hl
theorem Cd {l:Expr}{tl:TE} (hl:PE X l tl):PI X tg l (C7 K tl):=by subst hK;exact zX hl
theorem Ar (b:Bool) {es:List Expr}{kk:Nat}{tpos:Pos}{a:Expr}{ta:TA}{p pos:Pos} (hg:Gl X "enumerate") (hm:X.mg "enumerate" = none) (ha:PA X [a] ta) (hs:starEach [a] X.env=[(false,eval a X.env)]:=by rfl) :
  PI X (.Tuple es kk tpos) (.Call (.Name "enumerate" p) [a] [] pos) (AG K b ta):=by subst hK;exact xE b hg hm PyProof.Rows.boot_enumerate ha hs
theorem Cc (b c:Bool) {es:List Expr}{kk:Nat}{tpos:Pos}{e1 e2:Expr}{ta:TA}{p pos:Pos} (hg:Gl X "zip") (hm:X.mg "zip" = none) (ha:PA X [e1,e2] ta)
  (hs:starEach [e1,e2] X.env=[(false,eval e1 X.env),(false,eval e2 X.env)]:=by rfl) (hs2:starEach [e2] X.env=[(false,eval e2 X.env)]:=by rfl) :
  PI X (.Tuple es kk tpos) (.Call (.Name "zip" p) [e1,e2] [] pos) (C6 K b c ta):=by subst hK;exact zW b c hg hm PyProof.Rows.boot_zip ha hs hs2
theorem Ce {pos:Pos}{es:List Expr}{k:Nat}{t:TGs}{n:Nat} (hc:X.calm=true) (h:PGs X es t) (hn:(assignEach es X.env).length=n:=by rfl) (hst:(assignEach es X.env).findIdx? (·.1)=none:=by rfl):PG X (.Tuple es k pos) (C8 K n t):=by
 subst hK;exact zY hc h hn hst
theorem vZ {a:Expr}{ta:TE} (ha:PE X a ta) (he:∀ whole,isTrue a X.env whole=(do let v ←whole;standAt a.pos;holding [v] (truthy v))):PT X a (fun σ H Q=>ta σ H fun x H'=>∃ k,Bz K x H' k∧Q k H'):=by
 subst hK;exact tR ha he
variable {o e:Expr}{es:List Expr}{to:TE}{t:TA}{name:Str}{apos cpos:Pos}{T id:String}{r:V→List V→Hp→VK→Prop}
theorem Cg (pa:PlainAttrs T) (slot:Slot T name id) (hty:typeOf (.builtin id)=pure (.type "method_descriptor")) (hm:MtR X id r) (ho:PE X o to)
  (hbase:attributeBase o name X.env (eval o X.env)=eval o X.env:=by rfl) (hline:(apos.endLine==cpos.line)=true:=by rfl):PE X (.Call (.Attribute o name apos) [] [] cpos) (CW K T r to):=by
 subst hK;exact z9 pa slot hty hm ho hbase hline
theorem kBm (pa:PlainAttrs T) (slot:Slot T name id) (hty:typeOf (.builtin id)=pure (.type "method_descriptor")) (hm:MtR X id r) (ho:PE X o to) (ha:PA X (e::es) t)
  (hbase:attributeBase o name X.env (eval o X.env)=eval o X.env:=by rfl)
  (hfew:((backTo cpos (starEach (e::es) X.env)).all (fun x=>!x.1)&&(backToKw cpos (keywordEach [] X.env)).all (fun x=>x.1.isSome)&&decide ((e::es).length+([]:List Keyword).length+(if ([]:List Keyword).isEmpty then 0 else 1)<30))=true:=by rfl)
  (hline:(apos.endLine==cpos.line)=true:=by rfl) (hs:starEach (e::es) X.env=(false,eval e X.env)::starEach es X.env:=by rfl) (hplain:(backTo cpos (starEach es X.env)).any (·.1)=false:=by rfl) :
  PE X (.Call (.Attribute o name apos) (e::es) [] cpos) (tBM K T r to t):=by
 subst hK;exact B3 pa slot hty hm ho ha hbase hfew hline hs hplain
end
end _L
namespace _L
open PySem
theorem vL {A:Around}{k:Nat} (hr:cY k A):A.units+80<cLine:=by have:=hr.un;omega
section
variable {K:PySem.W.Frag}{a:Addr}{xs:List V}{g:TG}{tb:TS}{D:sU}{σ:St}{H:Hp} (Pv:Nat→St→Hp→Prop)
end
theorem yf {n j:Nat} (h:j<n):ixN n (j:Int)=some j:=by
 unfold ixN
 rw [if_pos (by omega),if_pos (by omega),EW]
end _L
namespace _L
open PySem PySem.Spec PyProof.Rows
noncomputable def Do (t u:TS):TS:=fun D σ H=>∃ R:St→Hp→Prop,t { D with nx:=R } σ H∧∀ σ' H',R σ' H'→u D σ' H'
theorem xw {X:Cx}{st:Stmt}{dc:List Stmt}{t u:TS} (h1:PS X st t) (h2:PSs X dc u):PSs X (st::dc) (Do t u):=by
 intro pins s σ H D I h
 obtain ⟨R,h,hR⟩:=h
 refine wpAny_execs_cons (thn (h1 pins s σ H { D with nx:=R } I h) fun f s1 q=>?_)
 cases f with
 | next =>
  obtain ⟨σ',H',I',q⟩:=q
  exact h2 pins s1 σ' H' D I' (hR _ _ q)
 | ret v=>exact q
 | brk=>exact q
 | cont=>exact q
theorem kn {α:Type}{x:α}{l:List α} (h:x∈l.dropLast):x∈l:=by
 rw [List.dropLast_eq_take] at h
 exact List.mem_of_mem_take h
end _L
namespace _L
open PySem
theorem aS.put {N:Addr→Prop}{H H':Hp}{p:Addr}{o:HO} (k:aS N H H') (h:H p=Option.none):aS N H (upd H' p o):=fun b u n e=>by
 rw [am (au e h)]
 exact k b u n e
theorem DN.sqL {K:PySem.W.Frag}{H:Hp}{a:Addr}{ns:List Int} (h:SqL K H a (ns.map V.int)):DN K N0 H (.ref a) (pI ns):=DN.ofI (by
 rcases h with h|h
 ·exact .inl ⟨h,fun z=>z⟩
 ·exact .inr h)
end _L
namespace _L
end _L
namespace _L
open PySem PySem.Spec PyProof.Rows
section
variable {κ β:Type} [DecidableEq κ]
noncomputable def bG (kvs:List (κ×β)) (k:κ):Option β:=(kvs.find? fun p=>decide (p.1=k)).map (·.2)
noncomputable def fU (kvs:List (κ×β)) (k:κ) (v:β):List (κ×β):=if (bG kvs k).isSome=true then kvs.map fun p=>if p.1=k then (p.1,v) else p else kvs++[(k,v)]
theorem uF (k:κ):bG ([]:List (κ×β)) k=none:=rfl
theorem bD (p:κ×β) (kvs:List (κ×β)) (k:κ):bG (p::kvs) k=if p.1=k then some p.2 else bG kvs k:=by
 unfold bG
 rw [FL]
 by_cases h:p.1=k <;> simp[h]
theorem nc (kvs:List (κ×β)) (k:κ) (v:β):(fU kvs k v).length≤kvs.length+1:=by
 unfold fU
 split <;> simp
end
noncomputable def CS (K:PySem.W.Frag) (H:Hp) (v:V) (kvs:List (aM×PyData)):Prop :=
 ∃ a es,v=.ref a∧H a=some (.ext (b8 a es))∧DVs K H (es.map fun p=>V.ref p.2.1) (kvs.map fun p=>c7 p.1)∧DVs K H (es.map fun p=>p.2.2) (kvs.map fun p=>p.2)∧es.map (fun p=>p.1)=kvs.map (fun p=>p.1)
section
variable {X:Cx}{pins:List (Addr×Obj)}{σ:St}{H:Hp}{s:Shared}{a b:Addr}{k:aM}
theorem DVs.map_int:∀ {ns:List Int}{xs:List V},DVs X.K H xs (ns.map .int)→xs=ns.map V.int
 | [],_,h=>by cases h;rfl
 | n :: ns,_,h=>by
  cases h with
  | cons h t =>
   cases h
   rw [DVs.map_int t]
   rfl
theorem mH:∀ {ns:List Int}{us:List Value},aO (ns.map V.int) us→ItemsAre (intKind X.prog X.w) ns us
 | [],us,h=>by cases h;exact .nil
 | n :: ns,us,h=>by
  cases h with
  | cons r t =>
   obtain ⟨tt,rfl⟩:=r
   exact .cons (dQ n tt) (mH t)
theorem iD (I:Inv X pins σ H s) {x:V}{u:Value} (h:DV X.K H x (c7 k)) (r:bx x u):∃ b,x=.ref b∧u=.ref b∧cZ X.prog X.w s.heap k b:=by
 obtain ⟨d,l⟩:=k
 obtain ⟨b,xs,rfl,sq,q⟩:=DV.tupI (h:DV X.K H x (.tuple _))
 obtain ⟨v1,v2,rfl,h1,h2⟩:=q.twoI
 obtain ⟨c,ys,rfl,sq2,q2⟩:=h2.tupI
 obtain ⟨its,rv,⟨o,e,cl,n,hd⟩,_⟩:=I.tuple sq
 obtain ⟨its2,rv2,⟨o2,e2,cl2,n2,hd2⟩,_⟩:=I.tuple sq2
 rw [DVs.map_int (X:=X) q2] at rv2
 obtain ⟨w1,w2,rfl,r1,r2⟩:=pz rv
 rw [h1.intI] at r1
 obtain ⟨t,rfl⟩:=r1
 have e3:w2=Value.ref c:=r2
 have e4:u=Value.ref b:=r
 subst e3 e4
 exact ⟨b,rfl,rfl,o,t,c,n,e,cl,hd,o2,its2.toArray,n2,e2,cl2,hd2,by simpa using mH rv2⟩
theorem nF (I:Inv X pins σ H s):∀ {es:List (aM×Addr×V)}{xs:List (aM×Addr×Value)}{kvs:List (aM×PyData)},
  Paired (fun (p:aM×Addr×V) (q:aM×Addr×Value)=>p.1=q.1∧p.2.1=q.2.1∧bx p.2.2 q.2.2) es xs→DVs X.K H (es.map fun p=>V.ref p.2.1) (kvs.map fun p=>c7 p.1)→es.map (fun p=>p.1)=kvs.map (fun p=>p.1) →
  ∀ x∈xs,cZ X.prog X.w s.heap x.1 x.2.1
 | [],_,_,.nil,_,_=>fun x hx=>by cases hx
 | p :: es,_,kvs,.cons (b:=q) r t,h,e=>by
  cases kvs with
  | nil=>simp at e
  | cons kv kvs =>
   rw [Eu,Eu] at h e
   injection e with e1 e2
   cases h with
   | cons h1 h2 =>
    intro x hx
    rcases En.mp hx with rfl|hx
    ·obtain ⟨b,z,_,st⟩:=iD I h1 (u:=.ref p.2.1) rfl
     cases z
     rw [←r.1,←r.2.1,e1]
     exact st
    ·exact nF I t h2 e2 x hx
theorem dct_of (I:Inv X pins σ H s) {es:List (aM×Addr×V)}{kvs:List (aM×PyData)} (ha:H a=some (.ext (b8 a es))) (hk:DVs X.K H (es.map fun p=>V.ref p.2.1) (kvs.map fun p=>c7 p.1)) (e:es.map (fun p=>p.1)=kvs.map (fun p=>p.1)) :
  es.length≤sizeLine∧(a==sysModules)=false∧∃ xs,Paired (fun (p:aM×Addr×V) (q:aM×Addr×Value)=>p.1=q.1∧p.2.1=q.2.1∧bx p.2.2 q.2.2) es xs∧mF X.prog X.w s.heap a xs:=by
 obtain ⟨⟨z,y,xs,r,o,ds,ep,h1,h2,h3,h4,h5⟩,_⟩:=I.hok a _ ha
 exact ⟨z,y,xs,r,o,ds,ep,h1,h2,h3,h4,nF I r hk e,h5⟩
theorem sK {es:List (aM×Addr×V)}{xs:List (aM×Addr×Value)}{kvs:List (aM×PyData)}{K:PySem.W.Frag} (k:aM)
  (hp:Paired (fun (p:aM×Addr×V) (q:aM×Addr×Value)=>p.1=q.1∧p.2.1=q.2.1∧bx p.2.2 q.2.2) es xs) (e:es.map (fun p=>p.1)=kvs.map (fun p=>p.1)) (h:DVs K H (es.map fun p=>p.2.2) (kvs.map fun p=>p.2)) :
  (bG kvs k=none∧atKey xs k=none)∨∃ (i:Nat) (d:PyData) (v:V) (b:Addr) (u:Value),bG kvs k=some d∧atKey xs k=some (b,u)∧(es.map fun p=>p.2.2)[i]? = some v∧(kvs.map fun p=>p.2)[i]? = some d∧bx v u:=by
 induction hp generalizing kvs with
 | nil =>
  cases kvs with
  | nil=>exact .inl ⟨rfl,rfl⟩
  | cons kv kvs=>simp at e
 | @cons p q es xs r t ih =>
  cases kvs with
  | nil=>simp at e
  | cons kv kvs =>
   rw [Eu,Eu] at e h
   injection e with e1 e2
   cases h with
   | cons h1 h2 =>
    by_cases hk:kv.1=k
    ·have hq:q.1=k:=by rw[←r.1,e1,hk]
     refine .inr ⟨0,kv.2,p.2.2,q.2.1,q.2.2,by rw[bD,if_pos hk],?_,rfl,rfl,r.2.2⟩
     simp [atKey,FL,hq]
    ·have hq:¬q.1=k:=fun z=>hk (by rw[←e1,r.1,z])
     have eg:bG (kv::kvs) k=bG kvs k:=by rw[bD,if_neg hk]
     have ea:atKey (q::xs) k=atKey xs k:=by simp[atKey,FL,hq]
     rw [eg,ea]
     rcases ih e2 h2 with z|⟨i,d,v,b,u,z1,z2,z3,z4,z5⟩
     ·exact .inl z
     ·exact .inr ⟨i+1,d,v,b,u,z1,z2,by simpa using z3,by simpa using z4,z5⟩
end
section
variable {X:Cx}
noncomputable def BU (K:PySem.W.Frag):R2:=fun x y H Q=>∃ (k:aM) (kvs:List (aM×PyData)),DV K H x (c7 k)∧CS K H y kvs∧Q (.bl (bG kvs k).isSome) H
noncomputable def lL (K:PySem.W.Frag):R2:=fun x y H Q=>∃ (k:aM) (kvs:List (aM×PyData)),DV K H x (c7 k)∧CS K H y kvs∧Q (.bl (!(bG kvs k).isSome)) H
theorem Ad (hu:X.A.units+2<cLine):OpR X (compareOp .In) (BU X.K):=by
 intro pins s σ H x y v u Q I rx ry h
 obtain ⟨k,kvs,dk,⟨a,es,rfl,ha,hk,hv,e⟩,q⟩:=h
 cases (show u=Value.ref a from ry)
 obtain ⟨b,rfl,rfl,st⟩:=iD I dk rx
 obtain ⟨z,y,xs,r,dd⟩:=dct_of I ha hk e
 refine wpAny_in_heap (knd:=bK X.prog X.w) (ga hu) st y dd.of ?_
 have:(atKey xs k).isSome=(bG kvs k).isSome:=by
  rcases sK k r e hv with ⟨z1,z2⟩|⟨i,d,v,b,u,z1,z2,_⟩
  ·rw [z1,z2];rfl
  ·rw [z1,z2];rfl
 rw [this]
 exact ⟨.bl _,H,I.tok _,rfl,q⟩
theorem qO (hu:X.A.units+2<cLine):OpR X (compareOp .NotIn) (lL X.K):=by
 intro pins s σ H x y v u Q I rx ry h
 obtain ⟨k,kvs,dk,⟨a,es,rfl,ha,hk,hv,e⟩,q⟩:=h
 cases (show u=Value.ref a from ry)
 obtain ⟨b,rfl,rfl,st⟩:=iD I dk rx
 obtain ⟨z,y,xs,r,dd⟩:=dct_of I ha hk e
 refine wpAny_notIn_heap (knd:=bK X.prog X.w) (ga hu) st y dd.of ?_
 have:(atKey xs k).isSome=(bG kvs k).isSome:=by
  rcases sK k r e hv with ⟨z1,z2⟩|⟨i,d,v,b,u,z1,z2,_⟩
  ·rw [z1,z2];rfl
  ·rw [z1,z2];rfl
 rw [this]
 exact ⟨.bl _,H,I.tok _,rfl,q⟩
noncomputable def BS (K:PySem.W.Frag):R2:=fun x y H Q=>∃ (k:aM) (a:Addr) (es:List (aM×Addr×V)) (kvs:List (aM×PyData)),x=.ref a∧DV K H y (c7 k)∧H a=some (.ext (b8 a es))∧DVs K H (es.map fun p=>V.ref p.2.1) (kvs.map fun p=>c7 p.1)∧DVs K H (es.map fun p=>p.2.2) (kvs.map fun p=>p.2) ∧
 es.map (fun p=>p.1)=kvs.map (fun p=>p.1)∧(bG kvs k).isSome=true∧∀ (i:Nat) v d,bG kvs k=some d→(es.map fun p=>p.2.2)[i]? = some v→(kvs.map fun p=>p.2)[i]? = some d→Q v H
theorem DK (hu:X.A.units+2<cLine):IxR X (BS X.K):=by
 intro value slice pins s σ H x y v u Q I rx ry h hs
 obtain ⟨k,a,es,kvs,rfl,dk,ha,hk,hv,e,hsome,q⟩:=h
 cases (show v=Value.ref a from rx)
 obtain ⟨b,rfl,rfl,st⟩:=iD I dk ry
 obtain ⟨z,y,xs,r,dd⟩:=dct_of I ha hk e
 have hT:=dd.of.typeIs
 unfold subscriptTail
 refine wpAny_bind ?_
 rw [getitemInPython_of_ne hT.not_modules]
 refine wpAny_bind (wpAny_specialOf hT PySem.F.slot_dict_getitem.lookup ?_)
 have fin:wpAny (model X.prog X.w) X.A (subscripted slice false (.ref a) (.ref b)) (fun r s₃=>wpAny (model X.prog X.w) X.A (letTemporaryGo value (.ref a) r >>= fun _=>pure r) (EP X pins σ Q) X.xe s₃) X.xe s:=by
  rw [hs]
  rcases sK k r e hv with ⟨z1,_⟩|⟨i,d,v,b',u,z1,z2,z3,z4,z5⟩
  ·rw [z1] at hsome;cases hsome
  ·refine wpAny_operating (wpAny_getItem_heap (knd:=bK X.prog X.w) (ga hu) st dd.of z2 ?_)
   exact wpAny_bind (wpAny_letTemporaryGo (wpAny_pure ⟨v,H,I.tok _,z5,q i v d z1 z3 z4⟩))
 first
  | exact wpAny_pure (wpAny_bind fin)
  | exact wpAny_bind (wpAny_pure (wpAny_bind fin))
  | exact wpAny_bind fin
noncomputable def qw (es:List (aM×Addr×V)) (k:aM) (b:Addr) (v:V):List (aM×Addr×V) :=
 if (es.any fun p=>decide (p.1=k))=true then es.map (fun p=>if p.1=k then (p.1,p.2.1,v) else p) else es++[(k,b,v)]
theorem lM {es:List (aM×Addr×V)}{xs:List (aM×Addr×Value)} (r:Paired (fun (p:aM×Addr×V) (q:aM×Addr×Value)=>p.1=q.1∧p.2.1=q.2.1∧bx p.2.2 q.2.2) es xs) (k:aM) {b:Addr}{v:V}{u:Value} (rv:bx v u) :
  Paired (fun (p:aM×Addr×V) (q:aM×Addr×Value)=>p.1=q.1∧p.2.1=q.2.1∧bx p.2.2 q.2.2) (qw es k b v) (storedH xs k b u):=by
 have e:(es.any fun p=>decide (p.1=k))=(atKey xs k).isSome:=by
  induction r with
  | nil=>rfl
  | @cons p q ps qs h t ih =>
   rw [List.any_cons,ih]
   by_cases hk:p.1=k
   ·have hq:q.1=k:=by rw[←h.1,hk]
    simp [atKey,FL,hk,hq]
   ·have hq:¬q.1=k:=fun z=>hk (by rw[h.1,z])
    simp [atKey,FL,hk,hq]
 unfold qw storedH
 rw [e]
 by_cases c:(atKey xs k).isSome=true
 ·rw [if_pos c,if_pos c]
  clear e c
  induction r with
  | nil=>exact .nil
  | @cons p q ps qs h t ih =>
   rw [Eu,Eu]
   refine .cons ?_ ih
   unfold putAt
   by_cases hk:p.1=k
   ·rw [if_pos hk,if_pos (show q.1=k by rw[←h.1,hk])]
    exact ⟨h.1,h.2.1,rv⟩
   ·rw [if_neg hk,if_neg (fun z=>hk (by rw[h.1,z]))]
    exact h
 ·rw [if_neg c,if_neg c]
  exact Paired.snoc r ⟨rfl,rfl,rv⟩
theorem tQ (es:List (aM×Addr×V)) (k:aM) (b:Addr) (v:V):(qw es k b v).length≤es.length+1:=by
 unfold qw
 split <;> simp
noncomputable def BQ (K:PySem.W.Frag):BA:=fun x y v H Q=>∃ (k:aM) (a b:Addr) (es:List (aM×Addr×V)) (kvs:List (aM×PyData)),x=.ref a∧y=.ref b∧DV K H y (c7 k)∧H a=some (.ext (b8 a es))∧DVs K H (es.map fun p=>V.ref p.2.1) (kvs.map fun p=>c7 p.1) ∧
 es.map (fun p=>p.1)=kvs.map (fun p=>p.1)∧es.length<sizeLine∧Q (upd H a (.ext (b8 a (qw es k b v))))
theorem BN (hu:X.A.units+2<cLine):CO X (BQ X.K):=by
 intro pins s σ H x y v ov iv u Q I rx ry rv h
 obtain ⟨k,a,b,es,kvs,rfl,rfl,dk,ha,hk,e,hl,q⟩:=h
 cases (show ov=Value.ref a from rx)
 obtain ⟨b',ez,eb,st⟩:=iD I dk ry
 cases ez
 subst eb
 obtain ⟨z,y,xs,r,dd⟩:=dct_of I ha hk e
 have hz:xs.length≤sizeLine:=by rw[←Paired.length r];exact z
 refine p9 (hsz:=hz) (ga (prog:=X.prog) (w:=X.w) hu) st dd fun h' dd' hs=>?_
 obtain ⟨o,es',ep,h1,h2,h3,h4,_,h5⟩:=dd'
 refine ⟨_,?_,q⟩
 refine I.write (x:=a) (e:=a) (by rw[ha];exact True.intro) (.inl rfl) (fun b q hb z=>(hs.2 b hb).trans z) ⟨_,h1⟩ ?_
 have new:b8 a (qw es k b v) h':=⟨by have:=tQ es k b v;omega,y,_,lM r k rv,o,es',ep,h1,h2,h3,h4,h5⟩
 refine ⟨new,⟨_,h1⟩,fun h1' h2' hx hy=>?_⟩
 obtain ⟨a1,a2,xs',a3,o',ds',ep',a4,a5⟩:=hx
 exact ⟨a1,a2,xs',a3,o',ds',ep',hy _ a4,a5⟩
noncomputable def BJ:TE:=fun _ H Q=>∀ p,H p=none→Q (.ref p) (upd H p (.ext (b8 p [])))
theorem kX {P:Program}{w:World}{H:Hp} (h:Heap) (hb:sysModules<h.objs.size):eh P w H (h.push { cls:=.type "dict",data:=.dict #[] }) h.objs.size (.ext (b8 h.objs.size [])):=by
 have e:=Er (o:=({ cls:=.type "dict",data:=.dict #[] }:Obj)) h rfl
 refine ⟨⟨Ez _,beq_eq_false_iff_ne.mpr (Ne.symm (ED hb)),[],.nil,_,#[],0,e,⟨rfl,rfl,rfl⟩,rfl,rfl,Fr,rfl⟩,⟨_,e⟩,fun h1 h2 hx hy=>?_⟩
 obtain ⟨a1,a2,xs',a3,o',ds',ep',a4,a5⟩:=hx
 exact ⟨a1,a2,xs',a3,o',ds',ep',hy _ a4,a5⟩
theorem Inv.big' {pins:List (Addr×Obj)}{σ:St}{H:Hp}{s:Shared} (I:Inv X pins σ H s):sysModules<s.heap.objs.size:=by
 have h:mainGlobals<s.heap.objs.size:=(I.mod.glob.keeps I.bk).lt
 exact Nat.lt_trans (by decide) h
theorem xM {pos:Pos}:PE X (.Dict [] [] pos) BJ:=fun pins s σ H Q I h =>
 wpAny_Dict_empty ⟨.ref s.heap.objs.size,_,I.laid (a:=s.heap.objs.size) (o:=.ext (b8 s.heap.objs.size [])) (t':=s.toks) (fun _ _ q=>Ee _ q) (Ek _) (kX s.heap I.big'),rfl,h _ (I.hok.fresh (Ek _))⟩
noncomputable def BI (K:PySem.W.Frag) (tk tv:TE):TE:=fun σ H Q=>∀ p,H p=none→tk σ (upd H p (.ext (b8 p []))) fun x H1=>tv σ H1 fun y H2=>∃ k b,x=.ref b∧DV K H2 x (c7 k)∧H2 p=some (.ext (b8 p []))∧Q (.ref p) (upd H2 p (.ext (b8 p [(k,b,y)])))
theorem xL {pos:Pos}{e1 e2:Expr}{tk tv:TE} (hu:X.A.units+1<cLine) (hk:PE X e1 tk) (hv:PE X e2 tv):PE X (.Dict [some e1] [e2] pos) (BI X.K tk tv):=by
 intro pins s σ H Q I h
 have I1:=I.laid (a:=s.heap.objs.size) (o:=.ext (b8 s.heap.objs.size [])) (h':=s.heap.push { cls:=.type "dict",data:=.dict #[] }) (t':=s.toks) (fun _ _ q=>Ee _ q) (Ek _) (kX s.heap I.big')
 refine wpAny_Dict_any rfl rfl (by simp) (by simp) (pairTrees_cons_walk (thn (hk pins _ σ _ _ I1 (h _ (I.hok.fresh (Ek _)))) fun u s1 zz1=>?_))
 obtain ⟨x,H1,I2,rx,q1⟩:=zz1
 refine thn (hv pins s1 σ H1 _ I2 q1) fun w s2 zz2=>?_
 obtain ⟨y,H2,I3,ry,k,b,ex,dk,hp,q⟩:=zz2
 refine pairTrees_nil_walk ?_
 subst ex
 obtain ⟨b',ez,rfl,st⟩:=iD I3 dk rx
 cases ez
 generalize s.heap.objs.size=p at *
 obtain ⟨z,hd,xs,r,dd⟩:=dct_of (kvs:=[]) I3 hp .nil rfl
 cases r
 unfold storeAll
 rw [FK]
 refine wpAny_bind (wpAny_bind (kW (hsz:=Ez _) hu st dd fun h' dd' hs=>wpAny_pure ?_))
 dsimp only
 rw [FF]
 refine wpAny_pure ⟨.ref p,_,?_,rfl,q⟩
 obtain ⟨o,es',ep,h1,h2,h3,h4,_,h5⟩:=dd'
 refine I3.write (x:=p) (e:=p) (by rw[hp];exact True.intro) (.inl rfl) (fun b q hb z=>(hs.2 b hb).trans z) ⟨_,h1⟩ ?_
 have new:b8 p [(k,b,y)] h':=⟨by rw[sizeLine_eq];simp,hd,_,.cons ⟨rfl,rfl,ry⟩ .nil,o,es',ep,h1,h2,h3,h4,h5⟩
 refine ⟨new,⟨_,h1⟩,fun h1' h2' hx hy=>?_⟩
 obtain ⟨a1,a2,xs',a3,o',ds',ep',a4,a5⟩:=hx
 exact ⟨a1,a2,xs',a3,o',ds',ep',hy _ a4,a5⟩
end
mutual
inductive OT (K:PySem.W.Frag) (N:Addr→Prop) (H:Hp):V→PyData→List Addr→Prop
 | non:OT K N H .non .none []
 | bl (b:Bool):OT K N H (.bl b) (.bool b) []
 | int (i:Int):OT K N H (.int i) (.int i) []
 | lst {a:Addr}{xs:List V}{ds:List PyData}{S:List Addr}:H a=some (.lst xs)→OTs K N H xs ds S→OT K N H (.ref a) (.list ds) (a::S)
 | tup {a:Addr}{xs:List V}{ds:List PyData}{S:List Addr}:SnT K N H a xs→OTs K N H xs ds S→OT K N H (.ref a) (.tuple ds) S
 | dct {a:Addr}{es:List (aM×Addr×V)}{kvs:List (aM×PyData)}:H a=some (.ext (b8 a es))→DNs K N H (es.map fun p=>V.ref p.2.1) (kvs.map fun p=>c7 p.1)→DNs K N H (es.map fun p=>p.2.2) (kvs.map fun p=>p.2)→es.map (fun p=>p.1)=kvs.map (fun p=>p.1)→OT K N H (.ref a) (dX kvs) [a]
 | fz {v:V}{ds:List PyData}:DN K N H v (.list ds)→OT K N H v (fzD ds) []
inductive OTs (K:PySem.W.Frag) (N:Addr→Prop) (H:Hp):List V→List PyData→List Addr→Prop
 | nil:OTs K N H [] [] []
 | cons {x:V}{xs:List V}{d:PyData}{ds:List PyData}{S S':List Addr}:OT K N H x d S→OTs K N H xs ds S'→OTs K N H (x::xs) (d::ds) (S++S')
end
section
variable {K:PySem.W.Frag}{N M:Addr→Prop}{H H':Hp}
theorem OT.keep (k:aS N H H') {v:V}{d:PyData}{S:List Addr} (h:OT K N H v d S):(∀ a∈S,H' a=H a)→OT K N H' v d S :=
 OT.rec (motive_1:=fun v d S _=>(∀ a∈S,H' a=H a)→OT K N H' v d S) (motive_2:=fun v d S _=>(∀ a∈S,H' a=H a)→OTs K N H' v d S)
 (fun _=>.non) (fun b _=>.bl b) (fun i _=>.int i)
 (fun h _ q s=>.lst ((s _ Eh).trans h) (q fun a ha=>s a (Ej _ ha))) (fun h _ q s=>.tup (h.keep k) (q s))
 (fun h q r e s=>.dct ((s _ Eh).trans h) (q.keep k) (r.keep k) e) (fun h s=>.fz (h.keep k)) (fun _=>.nil) (fun _ _ h q s=>.cons (h fun a ha=>s a (Ec _ ha)) (q fun a ha=>s a (D9 _ ha))) h
theorem OTs.keep (k:aS N H H') {v:List V}{d:List PyData}{S:List Addr} (h:OTs K N H v d S):(∀ a∈S,H' a=H a)→OTs K N H' v d S :=
 OTs.rec (motive_1:=fun v d S _=>(∀ a∈S,H' a=H a)→OT K N H' v d S) (motive_2:=fun v d S _=>(∀ a∈S,H' a=H a)→OTs K N H' v d S)
 (fun _=>.non) (fun b _=>.bl b) (fun i _=>.int i)
 (fun h _ q s=>.lst ((s _ Eh).trans h) (q fun a ha=>s a (Ej _ ha))) (fun h _ q s=>.tup (h.keep k) (q s))
 (fun h q r e s=>.dct ((s _ Eh).trans h) (q.keep k) (r.keep k) e) (fun h s=>.fz (h.keep k)) (fun _=>.nil) (fun _ _ h q s=>.cons (h fun a ha=>s a (Ec _ ha)) (q fun a ha=>s a (D9 _ ha))) h
theorem OT.to (m:∀ b o,H b=some o→M b→N b) {v:V}{d:PyData}{S:List Addr} (h:OT K N H v d S):OT K M H v d S :=
 OT.rec (motive_1:=fun v d S _=>OT K M H v d S) (motive_2:=fun v d S _=>OTs K M H v d S)
 .non (fun b=>.bl b) (fun i=>.int i)
 (fun h _ q=>.lst h q) (fun h _ q=>.tup (h.to m) q)
 (fun h q r e=>.dct h (q.to m) (r.to m) e) (fun h=>.fz (h.to m)) .nil (fun _ _ h q=>.cons h q) h
theorem OTs.to (m:∀ b o,H b=some o→M b→N b) {v:List V}{d:List PyData}{S:List Addr} (h:OTs K N H v d S):OTs K M H v d S :=
 OTs.rec (motive_1:=fun v d S _=>OT K M H v d S) (motive_2:=fun v d S _=>OTs K M H v d S)
 .non (fun b=>.bl b) (fun i=>.int i)
 (fun h _ q=>.lst h q) (fun h _ q=>.tup (h.to m) q)
 (fun h q r e=>.dct h (q.to m) (r.to m) e) (fun h=>.fz (h.to m)) .nil (fun _ _ h q=>.cons h q) h
theorem OT.lives {v:V}{d:PyData}{S:List Addr} (h:OT K N H v d S):∀ a∈S,∃ o,H a=some o :=
 OT.rec (motive_1:=fun v d S _=>∀ a∈S,∃ o,H a=some o) (motive_2:=fun v d S _=>∀ a∈S,∃ o,H a=some o)
 (fun _ h=>nomatch h) (fun _ _ h=>nomatch h) (fun _ _ h=>nomatch h)
 (fun h _ q a ha=>(En.mp ha).elim (fun e=>⟨_,e▸h⟩) (q a)) (fun _ _ q=>q)
 (fun h _ _ _ a ha=>⟨_,(Eb.mp ha)▸h⟩) (fun _ _ h=>nomatch h) (fun _ h=>nomatch h) (fun _ _ h q a ha=>(Ed.mp ha).elim (h a) (q a)) h
theorem OTs.lives {v:List V}{d:List PyData}{S:List Addr} (h:OTs K N H v d S):∀ a∈S,∃ o,H a=some o :=
 OTs.rec (motive_1:=fun v d S _=>∀ a∈S,∃ o,H a=some o) (motive_2:=fun v d S _=>∀ a∈S,∃ o,H a=some o)
 (fun _ h=>nomatch h) (fun _ _ h=>nomatch h) (fun _ _ h=>nomatch h)
 (fun h _ q a ha=>(En.mp ha).elim (fun e=>⟨_,e▸h⟩) (q a)) (fun _ _ q=>q)
 (fun h _ _ _ a ha=>⟨_,(Eb.mp ha)▸h⟩) (fun _ _ h=>nomatch h) (fun _ h=>nomatch h) (fun _ _ h q a ha=>(Ed.mp ha).elim (h a) (q a)) h
theorem OT.dn (n:∀ b,M b→N b) {v:V}{d:PyData}{S:List Addr} (h:OT K N H v d S):(∀ a∈S,¬M a)→DN K M H v d :=
 OT.rec (motive_1:=fun v d S _=>(∀ a∈S,¬M a)→DN K M H v d) (motive_2:=fun v d S _=>(∀ a∈S,¬M a)→DNs K M H v d)
 (fun _=>.non) (fun b _=>.bl b) (fun i _=>.int i)
 (fun h _ q s=>.lst (SnL.of h (s _ Eh)) (q fun a ha=>s a (Ej _ ha))) (fun h _ q s=>.tup (h.to fun b _ _ z=>n b z) (q s))
 (fun h q r e s=>.dct (s _ Eh) h (q.to fun b _ _ z=>n b z) (r.to fun b _ _ z=>n b z) e) (fun h _=>.fz (h.to fun b _ _ z=>n b z)) (fun _=>.nil) (fun _ _ h q s=>.cons (h fun a ha=>s a (Ec _ ha)) (q fun a ha=>s a (D9 _ ha))) h
theorem OTs.ind {C:List V→List PyData→List Addr→Prop} (n:C [] [] []) (c:∀ {x:V}{xs:List V}{d:PyData}{ds:List PyData}{S S':List Addr},OT K N H x d S→OTs K N H xs ds S'→C xs ds S'→C (x::xs) (d::ds) (S++S')) {v:List V}{d:List PyData}{S:List Addr} (h:OTs K N H v d S):C v d S :=
 OTs.rec (motive_1:=fun _ _ _ _=>True) (motive_2:=fun v d S _=>C v d S) trivial (fun _=>trivial) (fun _=>trivial)
 (fun _ _ _=>trivial) (fun _ _ _=>trivial) (fun _ _ _ _=>trivial) (fun _=>trivial) n (fun h q _ i=>c h q i) h
theorem OTs.len {v:List V}{d:List PyData}{S:List Addr} (h:OTs K N H v d S):v.length=d.length:=OTs.ind (C:=fun v d _=>v.length=d.length) rfl (fun _ _ i=>by rw[ES,ES,i]) h
theorem OTs.app {v w:List V}{d e:List PyData}{S T:List Addr} (h:OTs K N H v d S) (q:OTs K N H w e T):OTs K N H (v++w) (d++e) (S++T):=OTs.ind (C:=fun v d S=>OTs K N H (v++w) (d++e) (S++T)) q (fun h _ i=>by rw[Ff];exact .cons h i) h
end
inductive Sl where
 | un|fr (d:PyData)|ow (ds:List PyData)|io (ds:List PyData)|vw (i:Nat)|tr (S:List Addr) (d:PyData)
noncomputable abbrev Ent:=Option V×Sl
noncomputable def cO:Ent→List Addr
 | (some (.ref a),.ow _)=>[a]
 | (some (.ref a),.io _)=>[a]
 | (some _,.tr S _)=>S
 | _=>[]
noncomputable def oas (E:List Ent):List Addr:=E.flatMap cO
noncomputable def Nw (M:Addr→Prop) (E:List Ent):Addr→Prop:=fun a=>M a∨a∈oas E
noncomputable abbrev tmp (ts:List (V×Sl)):List Ent:=ts.map fun t=>(some t.1,t.2)
noncomputable def ay (σ:St) (env:List Sl) (ts:List (V×Sl)):List Ent:=σ.zip env++tmp ts
theorem ah (A B:List Ent):oas (A++B)=oas A++oas B:=List.flatMap_append
theorem ak (e:Ent) (B:List Ent):oas (e::B)=cO e++oas B:=List.flatMap_cons ..
theorem aW {a:Addr}{E:List Ent}:a∈oas E↔∃ e∈E,a∈cO e:=List.mem_flatMap
theorem gL (x:Option V):cO (x,.un)=[]:=by
 cases x with
 | none=>rfl
 | some v=>cases v <;> rfl
theorem gK (x:Option V) (i:Nat):cO (x,.vw i)=[]:=by
 cases x with
 | none=>rfl
 | some v=>cases v <;> rfl
theorem dg (x:Option V) (d:PyData):cO (x,.fr d)=[]:=by
 cases x with
 | none=>rfl
 | some v=>cases v <;> rfl
theorem aL (v:V) (S:List Addr) (d:PyData):cO (some v,.tr S d)=S:=by cases v <;> rfl
theorem j8 {e:Ent}{a:Addr} (h:a∈cO e):(e.1=some (.ref a)∧((∃ ds,e.2=.ow ds)∨∃ ds,e.2=.io ds))∨∃ S d,e.2=.tr S d∧a∈S:=by
 obtain ⟨x,s⟩:=e
 cases s with
 | un=>rw[gL] at h;exact absurd h EJ
 | vw i=>rw[gK] at h;exact absurd h EJ
 | fr d=>rw[dg] at h;exact absurd h EJ
 | tr S d =>
  cases x with
  | none=>exact absurd h EJ
  | some v=>rw[aL] at h;exact .inr ⟨S,d,rfl,h⟩
 | ow ds =>
  cases x with
  | none=>exact absurd h EJ
  | some v=>cases v with
   | ref b=>rw[Eb.mp h];exact .inl ⟨rfl,.inl ⟨ds,rfl⟩⟩
   | _=>exact absurd h EJ
 | io ds =>
  cases x with
  | none=>exact absurd h EJ
  | some v=>cases v with
   | ref b=>rw[Eb.mp h];exact .inl ⟨rfl,.inr ⟨ds,rfl⟩⟩
   | _=>exact absurd h EJ
structure bq (K:PySem.W.Frag) (M P:Addr→Prop) (H0:Hp) (E:List Ent) (H:Hp):Prop where
 keep:aS P H0 H
 live:∀ a,H0 a≠none→H a≠none
 mt : ∀ a,M a→H0 a≠none
 pm : ∀ a,P a→M a
 fr : ∀ x d,(x,Sl.fr d)∈E→∃ v,x=some v∧DN K (Nw M E) H v d
 ow : ∀ x ds,(x,Sl.ow ds)∈E→∃ a vs,x=some (.ref a)∧H a=some (.lst vs)∧DNs K (Nw M E) H vs ds∧H0 a=none
 io : ∀ x ds,(x,Sl.io ds)∈E→∃ a vs,x=some (.ref a)∧H a=some (.lst vs)∧DNs K (Nw M E) H vs ds∧P a
 tr : ∀ x S d,(x,Sl.tr S d)∈E→∃ v,x=some v∧OT K (Nw M E) H v d S∧∀ a∈S,H0 a=none
 nd : (oas E).Nodup
section
variable {K:PySem.W.Frag}{M P:Addr→Prop}{H0 H H':Hp}{E E' A B:List Ent}{e e':Ent}
theorem bq.own (h:bq K M P H0 E H) {a:Addr} (ha:a∈oas E):∃ o,H a=some o∧(H0 a=none∨P a):=by
 obtain ⟨⟨x,s⟩,he,eo⟩:=aW.mp ha
 rcases j8 eo with ⟨e1,e2⟩|⟨S,d,e2,ms⟩
 rotate_left
 ·simp only at e2;subst e2
  obtain ⟨v,_,q,r⟩:=h.tr _ _ _ he
  obtain ⟨vs,z⟩:=q.lives a ms
  exact ⟨vs,z,.inl (r a ms)⟩
 rcases e2 with ⟨ds,e2⟩|⟨ds,e2⟩
 ·simp only at e1 e2;subst e1 e2
  obtain ⟨b,vs,z,q,_,r⟩:=h.ow _ _ he
  cases z
  exact ⟨_,q,.inl r⟩
 ·simp only at e1 e2;subst e1 e2
  obtain ⟨b,vs,z,q,_,r⟩:=h.io _ _ he
  cases z
  exact ⟨_,q,.inr r⟩
theorem Nw.sub (h:∀ a,a∈oas E'→a∈oas E):∀ b,Nw M E' b→Nw M E b:=fun b z=>by
 rcases z with z|z
 ·exact .inl z
 ·exact .inr (h b z)
theorem bq.sub (h:bq K M P H0 E H) (hm:∀ x s,(x,s)∈E'→(x,s)∈E∨s=.un∨∃ i,s=.vw i) (nd:(oas E').Nodup):bq K M P H0 E' H:=by
 have os:∀ a,a∈oas E'→a∈oas E:=fun a ha=>by
  obtain ⟨⟨x,s⟩,he,eo⟩:=aW.mp ha
  rcases hm x s he with q|q|⟨i,q⟩
  ·exact aW.mpr ⟨_,q,eo⟩
  ·subst q;rw[gL] at eo;cases eo
  ·subst q;rw[gK] at eo;cases eo
 have up:=Nw.sub (M:=M) os
 refine ⟨h.keep,h.live,h.mt,h.pm,fun x d m=>?_,fun x d m=>?_,fun x d m=>?_,fun x S d m=>?_,nd⟩
 rotate_right
 ·rcases hm _ _ m with q|q|⟨i,q⟩
  ·obtain ⟨v,e,dn,r⟩:=h.tr x S d q
   exact ⟨v,e,dn.to fun b _ _ z=>up b z,r⟩
  ·cases q
  ·cases q
 ·rcases hm _ _ m with q|q|⟨i,q⟩
  ·obtain ⟨v,e,dn⟩:=h.fr x d q
   exact ⟨v,e,dn.to fun b _ _ z=>up b z⟩
  ·cases q
  ·cases q
 ·rcases hm _ _ m with q|q|⟨i,q⟩
  ·obtain ⟨a,vs,e,e2,dn,r⟩:=h.ow x d q
   exact ⟨a,vs,e,e2,dn.to fun b _ _ z=>up b z,r⟩
  ·cases q
  ·cases q
 ·rcases hm _ _ m with q|q|⟨i,q⟩
  ·obtain ⟨a,vs,e,e2,dn,r⟩:=h.io x d q
   exact ⟨a,vs,e,e2,dn.to fun b _ _ z=>up b z,r⟩
  ·cases q
  ·cases q
theorem bq.drop (h:bq K M P H0 (E++B) H):bq K M P H0 E H:=h.sub (fun x s m=>.inl (Ec _ m)) (by
 have:=h.nd
 rw [ah] at this
 exact (Ei.mp this).1)
theorem bq.same (h:bq K M P H0 E H) (k:a9 H H'):bq K M P H0 E H':=by
 refine ⟨h.keep.trans (aS.same k),fun a q z=>?_,h.mt,h.pm,fun x d m=>?_,fun x d m=>?_,fun x d m=>?_,fun x S d m=>?_,h.nd⟩
 rotate_right
 ·obtain ⟨v,e,dn,r⟩:=h.tr x S d m
  exact ⟨v,e,dn.keep (aS.same k) fun a ha=>by
   obtain ⟨xs,z⟩:=dn.lives a ha
   rw [k a _ z,z],r⟩
 ·have q1:=h.live a q
  cases e:H a with
  | none=>exact q1 e
  | some o=>rw[k a o e] at z;cases z
 ·obtain ⟨v,e,dn⟩:=h.fr x d m
  exact ⟨v,e,dn.keep (aS.same k)⟩
 ·obtain ⟨a,vs,e,e2,dn,r⟩:=h.ow x d m
  exact ⟨a,vs,e,k _ _ e2,dn.keep (aS.same k),r⟩
 ·obtain ⟨a,vs,e,e2,dn,r⟩:=h.io x d m
  exact ⟨a,vs,e,k _ _ e2,dn.keep (aS.same k),r⟩
theorem bq.addFr (h:bq K M P H0 E H) {v:V}{d:PyData} (dn:DN K (Nw M E) H v d):bq K M P H0 (E++[(some v,.fr d)]) H:=by
 have oe:oas (E++[(some v,Sl.fr d)])=oas E:=by
  rw [ah,ak,dg]
  simp [oas]
 have ne:Nw M (E++[(some v,Sl.fr d)])=Nw M E:=by unfold Nw;rw[oe]
 refine ⟨h.keep,h.live,h.mt,h.pm,fun x d' m=>?_,fun x d' m=>?_,fun x d' m=>?_,fun x S d' m=>?_,by rw[oe];exact h.nd⟩
 rotate_right
 ·rw [ne]
  rcases Ed.mp m with m|m
  ·exact h.tr x S d' m
  ·rw [Eb] at m
   cases m
 ·rw [ne]
  rcases Ed.mp m with m|m
  ·exact h.fr x d' m
  ·rw [Eb] at m
   cases m
   exact ⟨v,rfl,dn⟩
 ·rw [ne]
  rcases Ed.mp m with m|m
  ·exact h.ow x d' m
  ·rw [Eb] at m
   cases m
 ·rw [ne]
  rcases Ed.mp m with m|m
  ·exact h.io x d' m
  ·rw [Eb] at m
   cases m
theorem bq.addVw (h:bq K M P H0 E H) {v:V}{i:Nat}:bq K M P H0 (E++[(some v,.vw i)]) H:=by
 refine h.sub (fun x s m=>?_) ?_
 ·rcases Ed.mp m with m|m
  ·exact .inl m
  ·rw [Eb] at m
   cases m
   exact .inr (.inr ⟨i,rfl⟩)
 ·rw [ah,ak,gK]
  simpa [oas] using h.nd
theorem bq.addOw (h:bq K M P H0 E H) {p:Addr}{vs:List V}{ds:List PyData} (hp:H p=none) (dns:DNs K (Nw M E) H vs ds):bq K M P H0 (E++[(some (.ref p),.ow ds)]) (upd H p (.lst vs)):=by
 have oe:oas (E++[(some (.ref p),Sl.ow ds)])=oas E++[p]:=by
  rw [ah]
  rfl
 have np:p ∉ oas E:=fun z=>by
  obtain ⟨vs',q,_⟩:=h.own z
  rw [hp] at q
  cases q
 have h0:H0 p=none:=by
  cases e:H0 p with
  | none=>rfl
  | some o=>exact absurd hp (h.live p (by rw[e];simp))
 have up:∀ b o,H b=some o→Nw M (E++[(some (.ref p),Sl.ow ds)]) b→Nw M E b:=fun b o e z=>by
  rcases z with z|z
  ·exact .inl z
  ·rw [oe] at z
   rcases Ed.mp z with z|z
   ·exact .inr z
   ·rw [Eb.mp z,hp] at e
    cases e
 have h':=h.same (a9.new (o:=.lst vs) hp)
 refine ⟨h'.keep,h'.live,h.mt,h.pm,fun x d' m=>?_,fun x d' m=>?_,fun x d' m=>?_,fun x S d' m=>?_,?_⟩
 rotate_right 2
 ·rcases Ed.mp m with m|m
  ·obtain ⟨v,e,dn,r⟩:=h.tr x S d' m
   exact ⟨v,e,(dn.to up).keep (aS.same (a9.new hp)) fun a ha=>by
    obtain ⟨xs,z⟩:=dn.lives a ha
    rw [a9.new hp _ _ z,z],r⟩
  ·rw [Eb] at m
   cases m
 rotate_left
 ·rcases Ed.mp m with m|m
  ·obtain ⟨v,e,dn⟩:=h.fr x d' m
   exact ⟨v,e,(dn.to up).keep (aS.same (a9.new hp))⟩
  ·rw [Eb] at m
   cases m
 ·rcases Ed.mp m with m|m
  ·obtain ⟨a,ws,e,e2,dn,r⟩:=h.ow x d' m
   exact ⟨a,ws,e,a9.new hp _ _ e2,(dn.to up).keep (aS.same (a9.new hp)),r⟩
  ·rw [Eb] at m
   cases m
   exact ⟨p,vs,rfl,aB,(dns.to up).keep (aS.same (a9.new hp)),h0⟩
 ·rcases Ed.mp m with m|m
  ·obtain ⟨a,ws,e,e2,dn,r⟩:=h.io x d' m
   exact ⟨a,ws,e,a9.new hp _ _ e2,(dn.to up).keep (aS.same (a9.new hp)),r⟩
  ·rw [Eb] at m
   cases m
 ·rw [oe]
  exact Ei.mpr ⟨h.nd,by simp,fun a ha b hb=>by rw[Eb.mp hb];exact fun z=>np (z▸ha)⟩
theorem bq.freeze {a:Addr}{ds:List PyData} (h:bq K M P H0 (A++(some (.ref a),.ow ds)::B) H):bq K M P H0 (A++(some (.ref a),.fr (.list ds))::B) H:=by
 have oe:oas (A++(some (.ref a),Sl.ow ds)::B)=oas A++a::oas B:=by rw[ah,ak];rfl
 have oe':oas (A++(some (.ref a),Sl.fr (.list ds))::B)=oas A++oas B:=by rw[ah,ak];rfl
 have nd:=h.nd
 rw [oe] at nd
 obtain ⟨n1,n2,n3⟩:=Ei.mp nd
 obtain ⟨n4,n5⟩:=EO.mp n2
 have up:∀ b,Nw M (A++(some (.ref a),Sl.fr (.list ds))::B) b→Nw M (A++(some (.ref a),Sl.ow ds)::B) b:=Nw.sub fun b z=>by
  rw [oe'] at z
  rw [oe]
  rcases Ed.mp z with z|z
  ·exact Ec _ z
  ·exact D9 _ (Ej _ z)
 have me:(some (.ref a),Sl.ow ds)∈A++(some (.ref a),Sl.ow ds)::B:=D9 _ Eh
 obtain ⟨a',vs,z,ha,dns,h0⟩:=h.ow _ _ me
 cases z
 have na:¬Nw M (A++(some (.ref a),Sl.fr (.list ds))::B) a:=fun z=>by
  rcases z with z|z
  ·exact h.mt a z h0
  ·rw [oe'] at z
   rcases Ed.mp z with z|z
   ·exact n3 a z a Eh rfl
   ·exact n4 z
 have old:∀ x s,(x,s)∈A++(some (.ref a),Sl.fr (.list ds))::B→(x,s)=(some (.ref a),Sl.fr (.list ds))∨(x,s)∈A++(some (.ref a),Sl.ow ds)::B:=fun x s m=>by
  rcases Ed.mp m with m|m
  ·exact .inr (Ec _ m)
  ·rcases En.mp m with m|m
   ·exact .inl m
   ·exact .inr (D9 _ (Ej _ m))
 refine ⟨h.keep,h.live,h.mt,h.pm,fun x d m=>?_,fun x d m=>?_,fun x d m=>?_,fun x S d m=>?_,?_⟩
 rotate_right 2
 ·rcases old _ _ m with m|m
  ·cases m
  ·obtain ⟨v,e,dn,r⟩:=h.tr x S d m
   exact ⟨v,e,dn.to fun b _ _ z=>up b z,r⟩
 rotate_left
 ·rcases old _ _ m with m|m
  ·cases m
   exact ⟨_,rfl,.lst (SnL.of ha na) (dns.to fun b _ _ z=>up b z)⟩
  ·obtain ⟨v,e,dn⟩:=h.fr x d m
   exact ⟨v,e,dn.to fun b _ _ z=>up b z⟩
 ·rcases old _ _ m with m|m
  ·cases m
  ·obtain ⟨b,ws,e,e2,dn,r⟩:=h.ow x d m
   exact ⟨b,ws,e,e2,dn.to fun b _ _ z=>up b z,r⟩
 ·rcases old _ _ m with m|m
  ·cases m
  ·obtain ⟨b,ws,e,e2,dn,r⟩:=h.io x d m
   exact ⟨b,ws,e,e2,dn.to fun b _ _ z=>up b z,r⟩
 ·rw [oe']
  exact Ei.mpr ⟨n1,n5,fun x hx y hy=>n3 x hx y (Ej _ hy)⟩
theorem bq.freezeT {v:V}{S:List Addr}{d:PyData} (h:bq K M P H0 (A++(some v,.tr S d)::B) H):bq K M P H0 (A++(some v,.fr d)::B) H:=by
 have oe:oas (A++(some v,Sl.tr S d)::B)=oas A++(S++oas B):=by rw[ah,ak,aL]
 have oe':oas (A++(some v,Sl.fr d)::B)=oas A++oas B:=by rw[ah,ak,dg];rfl
 have nd:=h.nd
 rw [oe] at nd
 obtain ⟨n1,n2,n3⟩:=Ei.mp nd
 obtain ⟨n4,n5,n6⟩:=Ei.mp n2
 have up:∀ b,Nw M (A++(some v,Sl.fr d)::B) b→Nw M (A++(some v,Sl.tr S d)::B) b:=Nw.sub fun b z=>by
  rw [oe'] at z
  rw [oe]
  rcases Ed.mp z with z|z
  ·exact Ec _ z
  ·exact D9 _ (D9 _ z)
 have me:(some v,Sl.tr S d)∈A++(some v,Sl.tr S d)::B:=D9 _ Eh
 obtain ⟨v',z,ot,h0⟩:=h.tr _ _ _ me
 cases z
 have na:∀ a∈S,¬Nw M (A++(some v,Sl.fr d)::B) a:=fun a ha z=>by
  rcases z with z|z
  ·exact h.mt a z (h0 a ha)
  ·rw [oe'] at z
   rcases Ed.mp z with z|z
   ·exact n3 a z a (Ec _ ha) rfl
   ·exact n6 a ha a z rfl
 have old:∀ x s,(x,s)∈A++(some v,Sl.fr d)::B→(x,s)=(some v,Sl.fr d)∨(x,s)∈A++(some v,Sl.tr S d)::B:=fun x s m=>by
  rcases Ed.mp m with m|m
  ·exact .inr (Ec _ m)
  ·rcases En.mp m with m|m
   ·exact .inl m
   ·exact .inr (D9 _ (Ej _ m))
 refine ⟨h.keep,h.live,h.mt,h.pm,fun x d' m=>?_,fun x d' m=>?_,fun x d' m=>?_,fun x S' d' m=>?_,?_⟩
 ·rcases old _ _ m with m|m
  ·cases m
   exact ⟨_,rfl,ot.dn up na⟩
  ·obtain ⟨v,e,dn⟩:=h.fr x d' m
   exact ⟨v,e,dn.to fun b _ _ z=>up b z⟩
 ·rcases old _ _ m with m|m
  ·cases m
  ·obtain ⟨b,ws,e,e2,dn,r⟩:=h.ow x d' m
   exact ⟨b,ws,e,e2,dn.to fun b _ _ z=>up b z,r⟩
 ·rcases old _ _ m with m|m
  ·cases m
  ·obtain ⟨b,ws,e,e2,dn,r⟩:=h.io x d' m
   exact ⟨b,ws,e,e2,dn.to fun b _ _ z=>up b z,r⟩
 ·rcases old _ _ m with m|m
  ·cases m
  ·obtain ⟨v,e,dn,r⟩:=h.tr x S' d' m
   exact ⟨v,e,dn.to fun b _ _ z=>up b z,r⟩
 ·rw [oe']
  exact Ei.mpr ⟨n1,n5,fun x hx y hy=>n3 x hx y (D9 _ hy)⟩
noncomputable def yg:Sl→List PyData→Sl→Prop
 | .ow _,ds',s'=>s'=.ow ds'
 | .io _,ds',s'=>s'=.io ds'
 | _,_,_=>False
theorem cP {s s':Sl}{l:List PyData} (h:yg s l s'):(∃ d,s=.ow d∧s'=.ow l)∨∃ d,s=.io d∧s'=.io l:=by
 cases s with
 | ow d=>exact .inl ⟨d,rfl,h⟩
 | io d=>exact .inr ⟨d,rfl,h⟩
 | _=>exact h.elim
theorem eR {s s':Sl}{l:List PyData}{a:Addr} (h:yg s l s'):cO (some (.ref a),s)=[a]∧cO (some (.ref a),s')=[a]:=by
 rcases cP h with ⟨_,rfl,rfl⟩|⟨_,rfl,rfl⟩ <;> exact⟨rfl,rfl⟩
theorem bq.muted {a:Addr}{s s':Sl}{vs':List V}{ds':List PyData} (h:bq K M P H0 (A++(some (.ref a),s)::B) H) (hs:yg s ds' s') (k:aS (fun b=>b=a) H H') (lv:∀ b,H b≠none→H' b≠none)
  (ha:H' a=some (.lst vs')) (dns:DNs K (Nw M (A++(some (.ref a),s)::B)) H' vs' ds'):bq K M P H0 (A++(some (.ref a),s')::B) H':=by
 have oa:cO (some (.ref a),s)=[a]∧cO (some (.ref a),s')=[a]:=eR hs
 have oe:oas (A++(some (.ref a),s)::B)=oas A++a::oas B:=by rw[ah,ak,oa.1];rfl
 have oe':oas (A++(some (.ref a),s')::B)=oas A++a::oas B:=by rw[ah,ak,oa.2];rfl
 have ne:Nw M (A++(some (.ref a),s')::B)=Nw M (A++(some (.ref a),s)::B):=by unfold Nw;rw[oe,oe']
 have na:Nw M (A++(some (.ref a),s)::B) a:=.inr (by rw[oe];simp)
 have nd:=h.nd
 rw [oe] at nd
 obtain ⟨n1,n2,n3⟩:=Ei.mp nd
 obtain ⟨n4,n5⟩:=EO.mp n2
 have kN:aS (Nw M (A++(some (.ref a),s)::B)) H H':=k.mono fun b z=>by rw[z];exact na
 obtain ⟨ws,hw,hP⟩:=h.own (a:=a) (by rw[oe];simp)
 have other:∀ x t b,(x,t)∈A∨(x,t)∈B→b∈cO (x,t)→b≠a:=fun x t b m eo z=>by
  subst z
  rcases m with m|m
  ·exact n3 b (aW.mpr ⟨_,m,eo⟩) b Eh rfl
  ·exact n4 (aW.mpr ⟨_,m,eo⟩)
 have old:∀ x t,(x,t)∈A++(some (.ref a),s')::B→(x,t)=(some (.ref a),s')∨((x,t)∈A∨(x,t)∈B):=fun x t m=>by
  rcases Ed.mp m with m|m
  ·exact .inr (.inl m)
  ·rcases En.mp m with m|m
   ·exact .inl m
   ·exact .inr (.inr m)
 have back:∀ x t,(x,t)∈A∨(x,t)∈B→(x,t)∈A++(some (.ref a),s)::B:=fun x t m=>by
  rcases m with m|m
  ·exact Ec _ m
  ·exact D9 _ (Ej _ m)
 have me:(some (.ref a),s)∈A++(some (.ref a),s)::B:=D9 _ Eh
 refine ⟨?_,fun b q=>lv b (h.live b q),h.mt,h.pm,fun x d m=>?_,fun x d m=>?_,fun x d m=>?_,fun x S d m=>?_,by rw[oe'];exact nd⟩
 rotate_right
 ·rw [ne]
  rcases old _ _ m with m|m
  ·rcases cP hs with ⟨_,_,e⟩|⟨_,_,e⟩ <;> (rw[e] at m;cases m)
  ·obtain ⟨v,e,dn,r⟩:=h.tr x S d (back _ _ m)
   subst e
   refine ⟨v,rfl,dn.keep kN fun b hb=>?_,r⟩
   obtain ⟨xs,z⟩:=dn.lives b hb
   rw [k _ _ (other _ _ b m (by rw[aL];exact hb)) z,z]
 ·intro b o np e
  by_cases hb:b=a
  ·subst hb
   rcases hP with q|q
   ·rw [q] at e;cases e
   ·exact absurd q np
  ·exact k b o hb (h.keep b o np e)
 ·rw [ne]
  rcases old _ _ m with m|m
  ·rcases cP hs with ⟨_,_,e⟩|⟨_,_,e⟩ <;> (rw[e] at m;cases m)
  ·obtain ⟨v,e,dn⟩:=h.fr x d (back _ _ m)
   exact ⟨v,e,dn.keep kN⟩
 ·rw [ne]
  rcases old _ _ m with m|m
  ·rcases cP hs with ⟨d0,e1,e2⟩|⟨_,_,e2⟩ <;> (rw[e2] at m;cases m)
   obtain ⟨b,us,e,_,_,r⟩:=h.ow (some (.ref a)) d0 (D9 _ (by rw[e1];exact Eh))
   cases e
   exact ⟨a,vs',rfl,ha,dns,r⟩
  ·obtain ⟨b,us,e,e2,dn,r⟩:=h.ow x d (back _ _ m)
   subst e
   exact ⟨b,us,rfl,k _ _ (other _ _ b m (Eb.mpr rfl)) e2,dn.keep kN,r⟩
 ·rw [ne]
  rcases old _ _ m with m|m
  ·rcases cP hs with ⟨_,_,e2⟩|⟨d0,e1,e2⟩ <;> (rw[e2] at m;cases m)
   obtain ⟨b,us,e,_,_,r⟩:=h.io (some (.ref a)) d0 (D9 _ (by rw[e1];exact Eh))
   cases e
   exact ⟨a,vs',rfl,ha,dns,r⟩
  ·obtain ⟨b,us,e,e2,dn,r⟩:=h.io x d (back _ _ m)
   subst e
   exact ⟨b,us,rfl,k _ _ (other _ _ b m (Eb.mpr rfl)) e2,dn.keep kN,r⟩
theorem bq.mut {a:Addr}{s s':Sl}{vs':List V}{ds':List PyData} (h:bq K M P H0 (A++(some (.ref a),s)::B) H) (hs:yg s ds' s') (dns:DNs K (Nw M (A++(some (.ref a),s)::B)) H vs' ds') :
  bq K M P H0 (A++(some (.ref a),s')::B) (upd H a (.lst vs')) :=
 have oa:cO (some (.ref a),s)=[a]:=(eR hs).1
 h.muted hs (fun b o hb e=>by rw[am hb];exact e) (fun b q z=>by
  by_cases hb:b=a
  ·rw [hb,aB] at z;cases z
  ·rw [am hb] at z;exact q z) aB (dns.keep (aS.own (.inr (aW.mpr ⟨_,D9 _ Eh,by rw[oa];exact Eb.mpr rfl⟩))))
theorem bq.move {t:Ent} (h:bq K M P H0 (A++e::(B++[t])) H):bq K M P H0 (A++t::B) H:=by
 refine h.sub (fun x s m=>.inl ?_) ?_
 ·rcases Ed.mp m with m|m
  ·exact Ec _ m
  ·rcases En.mp m with m|m
   ·exact D9 _ (Ej _ (D9 _ (by rw[m];simp)))
   ·exact D9 _ (Ej _ (Ec _ m))
 ·have nd:=h.nd
  have eq1:oas (A++e::(B++[t]))=oas A++(oas [e]++(oas B++oas [t])):=by
   rw [ah,show e::(B++[t])=[e]++(B++[t]) from rfl,ah,ah]
  have eq2:oas (A++t::B)=oas A++(oas [t]++oas B):=by
   rw [ah,show t::B=[t]++B from rfl,ah]
  rw [eq1] at nd
  rw [eq2]
  obtain ⟨n1,n2,n3⟩:=Ei.mp nd
  obtain ⟨_,n4,_⟩:=Ei.mp n2
  obtain ⟨n5,n6,n7⟩:=Ei.mp n4
  refine Ei.mpr ⟨n1,Ei.mpr ⟨n6,n5,fun x hx y hy z=>n7 y hy x hx z.symm⟩,fun x hx y hy=>?_⟩
  refine n3 x hx y (D9 _ ?_)
  rcases Ed.mp hy with hy|hy
  ·exact D9 _ hy
  ·exact Ec _ hy
end
structure Rel (K:PySem.W.Frag) (M P:Addr→Prop) (H0:Hp) (σ0 σ:St) (env:List Sl) (ts:List (V×Sl)) (H:Hp):Prop where
 e : bq K M P H0 (ay σ env ts) H
 len:σ.length=env.length
 vw : ∀ (v:V) (i:Nat),(v,Sl.vw i)∈ts→σ[i]? = some (some v)
 ios:∀ (i:Nat) (ds:List PyData),env[i]? = some (Sl.io ds)→σ[i]? = σ0[i]?
inductive Vw (K:PySem.W.Frag) (N:Addr→Prop) (H:Hp):V→PyData→Prop
 | dn {v d}:DN K N H v d→Vw K N H v d
 | ow {a vs ds}:H a=some (.lst vs)→DNs K N H vs ds→Vw K N H (.ref a) (.list ds)
 | dct {a:Addr}{es:List (aM×Addr×V)}{kvs:List (aM×PyData)}:H a=some (.ext (b8 a es))→DNs K N H (es.map fun p=>V.ref p.2.1) (kvs.map fun p=>c7 p.1)→DNs K N H (es.map fun p=>p.2.2) (kvs.map fun p=>p.2)→es.map (fun p=>p.1)=kvs.map (fun p=>p.1)→Vw K N H (.ref a) (dX kvs)
noncomputable def slD:Sl→Option PyData
 | .fr d=>some d
 | .ow ds=>some (.list ds)
 | .io ds=>some (.list ds)
 | .tr _ (.dict kvs)=>some (.dict kvs)
 | _=>none
noncomputable def aG (env:List Sl):Sl→Option PyData
 | .vw i=>(env[i]?).bind slD
 | .fr d=>some d
 | .ow ds=>some (.list ds)
 | .io ds=>some (.list ds)
 | .tr _ (.dict kvs)=>some (.dict kvs)
 | _=>none
noncomputable def slK:Sl→Option PyData
 | .fr d=>some d
 | _=>none
noncomputable def aI (env:List Sl):Sl→Option PyData
 | .vw i=>(env[i]?).bind slK
 | .fr d=>some d
 | .ow ds=>some (.list ds)
 | .tr _ d=>some d
 | _=>none
section
variable {K:PySem.W.Frag}{M P N:Addr→Prop}{H0 H H':Hp}{σ0 σ:St}{env:List Sl}{ts tt:List (V×Sl)}{v:V}{s:Sl}{d:PyData}
theorem aw:ay σ env (ts++tt)=ay σ env ts++tmp tt:=by
 unfold ay
 rw [Ff]
 simp [tmp]
theorem OT.dict_view {S:List Addr}{kvs:List (PyData×PyData)} (h:OT K N H v (.dict kvs) S):Vw K N H v (.dict kvs):=by
 generalize e:PyData.dict kvs=d at h
 cases h with
 | dct h q r e2=>exact .dct h q r e2
 | fz h=>exact .dn (.fz h)
 | _=>cases e
theorem Vw.dv (h:Vw K N H v d):DV K H v d:=by
 cases h with
 | dn h=>exact h.dv
 | ow h q=>exact .lst (SqL.of h) q.dv
 | dct h q r e=>exact .dct h q.dv r.dv e
theorem Vw.list {ds:List PyData} (h:Vw K N H v (.list ds)):∃ a vs,v=.ref a∧SqL K H a vs∧DNs K N H vs ds:=by
 cases h with
 | dn h=>obtain⟨a,vs,e,s,q⟩:=h.list;exact⟨a,vs,e,s.sq,q⟩
 | ow h q=>exact⟨_,_,rfl,SqL.of h,q⟩
theorem Vw.tuple {ds:List PyData} (h:Vw K N H v (.tuple ds)):∃ a vs,v=.ref a∧SqT K H a vs∧DNs K N H vs ds:=by
 cases h with
 | dn h=>obtain⟨a,vs,e,s,q⟩:=h.tuple;exact⟨a,vs,e,s.sq,q⟩
theorem Vw.int {i:Int} (h:Vw K N H v (.int i)):v=.int i:=by
 cases h with
 | dn h=>cases h;rfl
theorem Vw.bool {i:Bool} (h:Vw K N H v (.bool i)):v=.bl i:=by
 cases h with
 | dn h=>cases h;rfl
theorem Vw.none (h:Vw K N H v .none):v=.non:=by
 cases h with
 | dn h=>cases h;rfl
theorem pv (h:σ.length=env.length) {i:Nat} (e:env[i]? = some s):∃ x,σ[i]? = some x∧(x,s)∈σ.zip env:=by
 have hi:i<env.length:=(Ef.mp e).1
 have hj:i<σ.length:=by omega
 refine ⟨σ[i],D8 hj,?_⟩
 have hz:i<(σ.zip env).length:=by rw[E8];omega
 have:=EA hz
 rw [Fj] at this
 rwa [(Ef.mp e).2] at this
theorem d6 (m:(v,s)∈ts):((some v,s):Ent)∈ay σ env ts:=D9 _ (Em.mpr ⟨(v,s),m,rfl⟩)
theorem Rel.slot (h:Rel K M P H0 σ0 σ env ts H) {i:Nat} (e:env[i]? = some s):∃ x,σ[i]? = some x∧(x,s)∈ay σ env ts:=by
 obtain ⟨x,e1,m⟩:=pv h.len e
 exact ⟨x,e1,Ec _ m⟩
theorem bq.viewE {E:List Ent} (h:bq K M P H0 E H) {x:Option V} (m:(x,s)∈E) (e:slD s=some d):∃ v,x=some v∧Vw K (Nw M E) H v d:=by
 cases s with
 | fr d' =>
  cases e
  obtain ⟨v,e1,dn⟩:=h.fr _ _ m
  exact ⟨v,e1,.dn dn⟩
 | ow ds =>
  cases e
  obtain ⟨a,vs,e1,e2,dn,_⟩:=h.ow _ _ m
  exact ⟨_,e1,.ow e2 dn⟩
 | io ds =>
  cases e
  obtain ⟨a,vs,e1,e2,dn,_⟩:=h.io _ _ m
  exact ⟨_,e1,.ow e2 dn⟩
 | un=>cases e
 | vw i=>cases e
 | tr S d' =>
  cases d' with
  | dict kvs =>
   cases e
   obtain ⟨v,e1,ot,_⟩:=h.tr _ _ _ m
   exact ⟨v,e1,ot.dict_view⟩
  | _=>cases e
theorem Rel.there (h:Rel K M P H0 σ0 σ env ts H) {i:Nat} (e:(env[i]?).bind slD=some d):∃ v,σ[i]? = some (some v)∧Vw K (Nw M (ay σ env ts)) H v d:=by
 cases q:env[i]? with
 | none=>rw[q] at e;cases e
 | some s =>
  rw [q] at e
  obtain ⟨x,e1,m⟩:=h.slot q
  obtain ⟨v,e2,w⟩:=h.e.viewE m e
  exact ⟨v,by rw[e1,e2],w⟩
theorem Rel.view (h:Rel K M P H0 σ0 σ env ts H) (m:(v,s)∈ts) (e:aG env s=some d):Vw K (Nw M (ay σ env ts)) H v d:=by
 cases s with
 | vw i =>
  obtain ⟨w,e1,q⟩:=h.there e
  rw [h.vw v i m] at e1
  cases e1
  exact q
 | un=>cases e
 | tr S d' =>
  cases d' with
  | dict kvs=>obtain⟨w,e1,q⟩:=h.e.viewE (s:=.tr S (.dict kvs)) (d6 m) e;cases e1;exact q
  | _=>cases e
 | fr d'=>obtain⟨w,e1,q⟩:=h.e.viewE (d6 m) e;cases e1;exact q
 | ow d'=>obtain⟨w,e1,q⟩:=h.e.viewE (d6 m) e;cases e1;exact q
 | io d'=>obtain⟨w,e1,q⟩:=h.e.viewE (d6 m) e;cases e1;exact q
theorem dS {E B:List Ent}{b:Addr} (h:Nw M E b):Nw M (E++B) b:=by
 rcases h with h|h
 ·exact .inl h
 ·exact .inr (by rw[ah];exact Ec _ h)
theorem Rel.drop (h:Rel K M P H0 σ0 σ env (ts++tt) H):Rel K M P H0 σ0 σ env ts H :=
 ⟨by have:=h.e;rw[aw] at this;exact this.drop,h.len,fun v i m=>h.vw v i (Ec _ m),h.ios⟩
theorem Rel.same (h:Rel K M P H0 σ0 σ env ts H) (k:a9 H H'):Rel K M P H0 σ0 σ env ts H':=⟨h.e.same k,h.len,h.vw,h.ios⟩
theorem Rel.addFr (h:Rel K M P H0 σ0 σ env ts H) (dn:DN K (Nw M (ay σ env ts)) H v d):Rel K M P H0 σ0 σ env (ts++[(v,.fr d)]) H :=
 ⟨by rw[aw];exact h.e.addFr dn,h.len,(fun w i m=>by
  rcases Ed.mp m with m|m
  ·exact h.vw w i m
  ·rw [Eb] at m;cases m),h.ios⟩
theorem Rel.addVw (h:Rel K M P H0 σ0 σ env ts H) {i:Nat} (e:σ[i]? = some (some v)):Rel K M P H0 σ0 σ env (ts++[(v,.vw i)]) H :=
 ⟨by rw[aw];exact h.e.addVw,h.len,(fun w i m=>by
  rcases Ed.mp m with m|m
  ·exact h.vw w i m
  ·rw [Eb] at m;cases m;exact e),h.ios⟩
theorem Rel.addOw (h:Rel K M P H0 σ0 σ env ts H) {p:Addr}{vs:List V}{ds:List PyData} (hp:H p=none) (dns:DNs K (Nw M (ay σ env ts)) H vs ds):Rel K M P H0 σ0 σ env (ts++[(.ref p,.ow ds)]) (upd H p (.lst vs)) :=
 ⟨by rw[aw];exact h.e.addOw hp dns,h.len,(fun w i m=>by
  rcases Ed.mp m with m|m
  ·exact h.vw w i m
  ·rw [Eb] at m;cases m),h.ios⟩
theorem Rel.res (h:Rel K M P H0 σ0 σ env (ts++tt) H) (k:a9 H H') (dn:DN K (Nw M (ay σ env (ts++tt))) H' v d):Rel K M P H0 σ0 σ env (ts++[(v,.fr d)]) H' :=
 (h.drop.same k).addFr (dn.to fun b _ _ z=>by rw[aw];exact dS z)
theorem Rel.resOw (h:Rel K M P H0 σ0 σ env (ts++tt) H) {p:Addr}{vs:List V}{ds:List PyData} (hp:H p=none) (dns:DNs K (Nw M (ay σ env (ts++tt))) H vs ds):Rel K M P H0 σ0 σ env (ts++[(.ref p,.ow ds)]) (upd H p (.lst vs)) :=
 h.drop.addOw hp (dns.to fun b _ _ z=>by rw[aw];exact dS z)
end
noncomputable abbrev DE:=List Sl→(Sl→List Sl→Prop)→Prop
noncomputable abbrev DT:=List Sl→(Bool→List Sl→Prop)→Prop
noncomputable abbrev DA:=List Sl→(List Sl→List Sl→Prop)→Prop
structure Wn {α:Type} (a:α):Type
noncomputable def dK (R:Sl→List Sl→Prop) (_:Wn R):Sl→List Sl→Prop:=R
theorem wz (R:Sl→List Sl→Prop) (w:Wn R) (s:Sl) (env:List Sl):dK R w s env=R s env:=rfl
noncomputable def dI (W:List Sl→Prop) (_:Wn W):List Sl→Prop:=W
theorem A6 (W:List Sl→Prop) (w:Wn W) (env:List Sl):dI W w env=W env:=rfl
noncomputable abbrev Wk (G Q:Prop):Prop:=(G→Q)→(Q→G)→Q→G
theorem zl {c:Bool}{p A A' B B':Prop} [Decidable p] (e:c=decide p) (a:A'→A) (b:B'→B) (h:if p then A' else B'):if c=true then A else B:=by
 subst e
 by_cases q:p
 ·rw [if_pos q] at h
  rw [if_pos (decide_eq_true q)]
  exact a h
 ·rw [if_neg q] at h
  rw [if_neg fun z=>q (of_decide_eq_true z)]
  exact b h
inductive up (K:PySem.W.Frag) (t:DE) (σ:St) (H:Hp) (Q:VK):Prop
 | mk (M P:Addr→Prop) (H0:Hp) (σ0:St) (env:List Sl) (ts:List (V×Sl)) (R:Sl→List Sl→Prop):Rel K M P H0 σ0 σ env ts H→t env R →
 (∀ s env' v H',R s env'→Rel K M P H0 σ0 σ env' (ts++[(v,s)]) H'→Q v H')→up K t σ H Q
inductive upT (K:PySem.W.Frag) (t:DT) (σ:St) (H:Hp) (Q:Bool→Hp→Prop):Prop
 | mk (M P:Addr→Prop) (H0:Hp) (σ0:St) (env:List Sl) (ts:List (V×Sl)) (R:Bool→List Sl→Prop):Rel K M P H0 σ0 σ env ts H→t env R →
 (∀ b env' H',R b env'→Rel K M P H0 σ0 σ env' ts H'→Q b H')→upT K t σ H Q
inductive upA (K:PySem.W.Frag) (t:DA) (σ:St) (H:Hp) (Q:List V→Hp→Prop):Prop
 | mk (M P:Addr→Prop) (H0:Hp) (σ0:St) (env:List Sl) (ts:List (V×Sl)) (R:List Sl→List Sl→Prop):Rel K M P H0 σ0 σ env ts H→t env R →
 (∀ ss env' vs H',R ss env'→vs.length=ss.length→Rel K M P H0 σ0 σ env' (ts++vs.zip ss) H'→Q vs H')→upA K t σ H Q
theorem PE.imp {X:Cx}{e:Expr}{t t':TE} (h:PE X e t) (k:∀ σ H Q,t' σ H Q→t σ H Q):PE X e t':=fun pins s σ H Q I hw=>h pins s σ H Q I (k σ H Q hw)
theorem PT.imp {X:Cx}{e:Expr}{t t':TT} (h:PT X e t) (k:∀ σ H Q,t' σ H Q→t σ H Q):PT X e t':=fun pins s σ H Q I hw=>h pins s σ H Q I (k σ H Q hw)
theorem PW.imp {X:Cx}{e:Expr}{t t':TT} (h:PW X e t) (k:∀ σ H Q,t' σ H Q→t σ H Q):PW X e t':=fun wh pins s σ H Q I hw=>h wh pins s σ H Q I (k σ H Q hw)
theorem PA.imp {X:Cx}{e:List Expr}{t t':TA} (h:PA X e t) (k:∀ σ H Q,t' σ H Q→t σ H Q):PA X e t':=fun pos pins s σ H Q I hw=>h pos pins s σ H Q I (k σ H Q hw)
section
variable {X:Cx}{K:PySem.W.Frag}{pos:Pos}{a b c:Expr}{ta tb tc:DE}{es:List Expr}{tA tB':DT}{tl:DA}
noncomputable def Br (i:Nat):DE:=fun env R=>∃ d,(env[i]?).bind slD=some d∧R (.vw i) env
theorem qv (i:Nat) {x:Str} (hN:X.N[i]? = some x:=by rfl) (hv:Vis X.env.scope x:=by first|exact Or.inl rfl|exact Or.inr (Or.inl rfl)|exact Or.inr (Or.inr rfl)) (hd:(x==("__debug__" : Str))=false:=by decide)
  (hcd:(x==("__classdict__" : Str))=false:=by decide):PE X (.Name x pos) (up K (Br i)):=(cU hN hv hd hcd).imp fun σ H Q h=>by
 obtain ⟨M,P,H0,σ0,env,ts,R,rel,⟨d,e,hR⟩,hq⟩:=h
 obtain ⟨v,e1,_⟩:=rel.there e
 exact ⟨v,e1,hq _ _ _ _ hR (rel.addVw e1)⟩
theorem eM {α:Type}:∀ {l:List α}{i:Nat}{x:α},l[i]? = some x→∃ A B,l=A++x::B∧∀ y,l.set i y=A++y::B
 | [],i,x,h=>by simp at h
 | z::l,0,x,h=>by
  simp at h
  subst h
  exact ⟨[],l,rfl,fun y=>rfl⟩
 | z::l,i+1,x,h=>by
  obtain ⟨A,B,e1,e2⟩:=eM (l:=l) (i:=i) (x:=x) (by simpa using h)
  exact ⟨z::A,B,by rw[e1];rfl,fun y=>by rw[List.set_cons_succ,e2 y];rfl⟩
theorem dw {α β:Type} (l:List α) (m:List β) (j:Nat):(l.zip m)[j]? = (l[j]?).bind fun a=>(m[j]?).map fun b=>(a,b):=by
 rw [List.zip,List.getElem?_zipWith]
 cases l[j]? <;> cases m[j]? <;> rfl
theorem pr {σ:St}{env:List Sl}{i:Nat}{x:Option V}{s':Sl} (h:σ[i]? = some x):σ.zip (env.set i s')=(σ.zip env).set i (x,s'):=by
 apply List.ext_getElem?
 intro j
 by_cases hj:i=j
 ·subst hj
  rw [FA,dw,dw,h]
  by_cases hi:i<env.length
  ·rw [EG hi,D8 hi]
   rfl
  ·rw [List.getElem?_eq_none (by simp;omega),List.getElem?_eq_none (by omega)]
   rfl
 ·rw [EF hj,dw,dw,EF hj]
theorem Rel.split {M P:Addr→Prop}{H0 H:Hp}{σ0 σ:St}{env:List Sl}{ts:List (V×Sl)}{i:Nat}{s:Sl} (h:Rel K M P H0 σ0 σ env ts H) (e:env[i]? = some s) :
  ∃ x A B,σ[i]? = some x∧ay σ env ts=A++(x,s)::B∧∀ s',ay σ (env.set i s') ts=A++(x,s')::B:=by
 obtain ⟨x,e1,m⟩:=pv h.len e
 have ez:(σ.zip env)[i]? = some (x,s):=by rw[List.zip,List.getElem?_zipWith,e1,e]
 obtain ⟨A,B,q1,q2⟩:=eM ez
 refine ⟨x,A,B++tmp ts,e1,by unfold ay;rw[q1];simp,fun s'=>?_⟩
 unfold ay
 rw [pr e1,q2]
 simp
noncomputable def zi (i:Nat):DE:=fun env R=>match env[i]? with
 | some (.fr d)=>R (.fr d) env
 | some (.tr _ d)=>R (.fr d) (env.set i (.fr d))
 | some (.ow ds)=>R (.fr (.list ds)) (env.set i (.fr (.list ds)))
 | _=>False
theorem Rel.frz {M P:Addr→Prop}{H0 H:Hp}{σ0 σ:St}{env:List Sl}{ts:List (V×Sl)}{i:Nat}{ds:List PyData} (h:Rel K M P H0 σ0 σ env ts H) (e:env[i]? = some (.ow ds)):Rel K M P H0 σ0 σ (env.set i (.fr (.list ds))) ts H:=by
 obtain ⟨x,A,B,e1,q1,q2⟩:=h.split e
 have r:=h.e
 rw [q1] at r
 obtain ⟨a,vs,z,_⟩:=r.ow _ _ (D9 _ Eh)
 subst z
 refine ⟨by rw[q2];exact r.freeze,by simp[h.len],h.vw,fun j ds' e'=>?_⟩
 by_cases hj:i=j
 ·subst hj
  have hi:i<env.length:=(Ef.mp e).1
  rw [EG hi] at e'
  cases e'
 ·rw [EF hj] at e'
  exact h.ios j ds' e'
theorem Rel.frzT {M P:Addr→Prop}{H0 H:Hp}{σ0 σ:St}{env:List Sl}{ts:List (V×Sl)}{i:Nat}{S:List Addr}{d:PyData} (h:Rel K M P H0 σ0 σ env ts H) (e:env[i]? = some (.tr S d)):Rel K M P H0 σ0 σ (env.set i (.fr d)) ts H:=by
 obtain ⟨x,A,B,e1,q1,q2⟩:=h.split e
 have r:=h.e
 rw [q1] at r
 obtain ⟨v,z,_⟩:=r.tr _ _ _ (D9 _ Eh)
 subst z
 refine ⟨by rw[q2];exact r.freezeT,by simp[h.len],h.vw,fun j ds' e'=>?_⟩
 by_cases hj:i=j
 ·subst hj
  have hi:i<env.length:=(Ef.mp e).1
  rw [EG hi] at e'
  cases e'
 ·rw [EF hj] at e'
  exact h.ios j ds' e'
theorem qf (i:Nat) {x:Str} (hN:X.N[i]? = some x:=by rfl) (hv:Vis X.env.scope x:=by first|exact Or.inl rfl|exact Or.inr (Or.inl rfl)|exact Or.inr (Or.inr rfl)) (hd:(x==("__debug__" : Str))=false:=by decide)
  (hcd:(x==("__classdict__" : Str))=false:=by decide):PE X (.Name x pos) (up K (zi i)):=(cU hN hv hd hcd).imp fun σ H Q h=>by
 obtain ⟨M,P,H0,σ0,env,ts,R,rel,ht,hq⟩:=h
 have key:∀ env' d,Rel K M P H0 σ0 σ env' ts H→env'[i]? = some (.fr d)→R (.fr d) env'→CU i σ H Q:=fun env' d rel' e' hR=>by
  obtain ⟨x',e1,m⟩:=rel'.slot e'
  obtain ⟨v,e2,dn⟩:=rel'.e.fr _ _ m
  subst e2
  exact ⟨v,e1,hq _ _ _ _ hR (rel'.addFr dn)⟩
 unfold zi at ht
 split at ht
 ·rename_i d e
  exact key env d rel e ht
 ·rename_i S d e
  have hi:i<env.length:=(Ef.mp e).1
  exact key _ _ (rel.frzT e) (EG hi) ht
 ·rename_i ds e
  have hi:i<env.length:=(Ef.mp e).1
  exact key _ _ (rel.frz e) (EG hi) ht
 ·exact ht.elim
noncomputable def dC (d:PyData):DE:=fun env R=>R (.fr d) env
theorem af {i j}:PE X (.Constant (.int i) j pos) (up K (dC (.int i))):=j6.imp fun σ H Q h=>by
 obtain ⟨M,P,H0,σ0,env,ts,R,rel,ht,hq⟩:=h
 exact hq _ _ _ _ ht (rel.addFr (.int i))
theorem j4 {i j}:PE X (.Constant (.bool i) j pos) (up K (dC (.bool i))):=B4.imp fun σ H Q h=>by
 obtain ⟨M,P,H0,σ0,env,ts,R,rel,ht,hq⟩:=h
 exact hq _ _ _ _ ht (rel.addFr (.bl i))
theorem jZ {j}:PE X (.Constant .none j pos) (up K (dC .none)):=z8.imp fun σ H Q h=>by
 obtain ⟨M,P,H0,σ0,env,ts,R,rel,ht,hq⟩:=h
 exact hq _ _ _ _ ht (rel.addFr .non)
noncomputable abbrev G2:=PyData→PyData→(PyData→Prop)→Prop
noncomputable def dOp (g:G2) (ta tb:DE):DE:=fun env R=>ta env fun s1 env1=>tb env1 fun s2 env2=>∃ d1 d2,aG env2 s1=some d1∧aG env2 s2=some d2∧g d1 d2 fun d=>R (.fr d) env2
noncomputable def bQ (K:PySem.W.Frag) (r:R2) (g:G2):Prop:=∀ (N:Addr→Prop) (H:Hp) (x y:V) (d1 d2:PyData) (R:PyData→Prop) (Q:VK),Vw K N H x d1→Vw K N H y d2→g d1 d2 R→(∀ d v,R d→DN K N H v d→Q v H)→r x y H Q
theorem tY {r:R2}{g:G2} (m:bQ K r g):∀ σ H Q,up K (dOp g ta tb) σ H Q→tOp r (up K ta) (up K tb) σ H Q:=fun σ H Q h=>by
 obtain ⟨M,P,H0,σ0,env,ts,R,rel,ht,hq⟩:=h
 refine ⟨M,P,H0,σ0,env,ts,_,rel,ht,fun s1 env1 v1 H1 h1 rel1=>⟨M,P,H0,σ0,env1,ts++[(v1,s1)],_,rel1,h1,fun s2 env2 v2 H2 h2 rel2=>?_⟩⟩
 obtain ⟨d1,d2,e1,e2,g⟩:=h2
 refine m _ H2 v1 v2 d1 d2 _ Q (rel2.view (by simp) e1) (rel2.view (by simp) e2) g fun d v hR dn=>hq _ _ _ _ hR ?_
 have rel2':Rel K M P H0 σ0 σ env2 (ts++[(v1,s1),(v2,s2)]) H2:=by simpa using rel2
 exact rel2'.res (a9.refl _) (by simpa using dn)
theorem bO {op:Operator}{r:R2}{g:G2} (ho:OpR X (binaryOp op) r) (m:bQ K r g) (ha:PE X a (up K ta)) (hb:PE X b (up K tb)):PE X (.BinOp a op b pos) (up K (dOp g ta tb)):=(xJ ho ha hb).imp (tY m)
theorem ii {op:CmpOp}{r:R2}{g:G2} (ho:OpR X (compareOp op) r) (m:bQ K r g) (ha:PE X a (up K ta)) (hb:PE X b (up K tb)) (hm:behindInMarks op b=false):PE X (.Compare a [op] [b] pos) (up K (dOp g ta tb)):=(xO ho ha hb hm).imp (tY m)
noncomputable def o5 (t:DE):DT:=fun env R=>t env fun s env1=>∃ k,aG env1 s=some (.bool k)∧R k env1
theorem pD {t:TE}{td:DE} (h:∀ σ H Q,up K td σ H Q→t σ H Q):∀ σ H Q,upT K (o5 td) σ H Q→zp t σ H Q:=fun σ H Q hh=>by
 obtain ⟨M,P,H0,σ0,env,ts,R,rel,ht,hq⟩:=hh
 refine h σ H _ ⟨M,P,H0,σ0,env,ts,_,rel,ht,fun s1 env1 v1 H1 h1 rel1=>?_⟩
 obtain ⟨k,e,hR⟩:=h1
 exact ⟨k,(rel1.view (by simp) e).bool,hq _ _ _ hR rel1.drop⟩
theorem aF {op:CmpOp}{r:R2}{g:G2} (ho:OpR X (compareOp op) r) (m:bQ K r g) (ha:PE X a (up K ta)) (hb:PE X b (up K tb)) (hm:behindInMarks op b=false):PT X (.Compare a [op] [b] pos) (upT K (o5 (dOp g ta tb))):=(xr ho ha hb hm).imp (pD (tY m))
theorem aR {r:R2}{g:G2} (hr:IxR X r) (m:bQ K r g) (ha:PE X a (up K ta)) (hb:PE X b (up K tb)) (hs:fA b):PE X (.Subscript a b pos) (up K (dOp g ta tb)):=(qF hr ha hb hs).imp (tY m)
theorem cT {e:Expr}{t:DE} (h:PE X e (up K t)) (he:∀ whole,isTrue e X.env whole=(do let v ←whole;standAt e.pos;holding [v] (truthy v)):=by intro _;rfl):PT X e (upT K (o5 t)):=(zQ h he).imp (pD fun _ _ _ h=>h)
noncomputable def CH (t u:DT):DT:=fun env R=>t env fun k env1=>if k=true then u env1 R else R false env1
noncomputable def dOr (t u:DT):DT:=fun env R=>t env fun k env1=>if k=true then R true env1 else u env1 R
noncomputable def CB (t:DT):DT:=fun env R=>t env fun k env1=>R (!k) env1
theorem qg (ha:PT X a (upT K tA)):PW X (.BoolOp .And [a] pos) (upT K tA):=xp ha
theorem fF (ha:PT X a (upT K tA)):PW X (.BoolOp .Or [a] pos) (upT K tA):=zO ha
theorem vM (ha:PT X a (upT K tA)) (hb:PW X (.BoolOp .And (b::es) pos) (upT K tB')):PW X (.BoolOp .And (a::b::es) pos) (upT K (CH tA tB')):=(zP ha hb).imp fun σ H Q h=>by
 obtain ⟨M,P,H0,σ0,env,ts,R,rel,ht,hq⟩:=h
 refine ⟨M,P,H0,σ0,env,ts,_,rel,ht,fun k env1 H1 h1 rel1=>?_⟩
 cases k with
 | true=>exact⟨M,P,H0,σ0,env1,ts,R,rel1,h1,hq⟩
 | false=>exact hq _ _ _ h1 rel1
theorem gC (ha:PT X a (upT K tA)) (hb:PW X (.BoolOp .Or (b::es) pos) (upT K tB')):PW X (.BoolOp .Or (a::b::es) pos) (upT K (dOr tA tB')):=(B0 ha hb).imp fun σ H Q h=>by
 obtain ⟨M,P,H0,σ0,env,ts,R,rel,ht,hq⟩:=h
 refine ⟨M,P,H0,σ0,env,ts,_,rel,ht,fun k env1 H1 h1 rel1=>?_⟩
 cases k with
 | false=>exact⟨M,P,H0,σ0,env1,ts,R,rel1,h1,hq⟩
 | true=>exact hq _ _ _ h1 rel1
theorem dq (ha:PT X a (upT K tA)):PT X (.UnaryOp .Not a pos) (upT K (CB tA)):=(zR ha).imp fun σ H Q h=>by
 obtain ⟨M,P,H0,σ0,env,ts,R,rel,ht,hq⟩:=h
 exact ⟨M,P,H0,σ0,env,ts,_,rel,ht,fun k env1 H1 h1 rel1=>hq _ _ _ h1 rel1⟩
noncomputable def yS (t u:DE):DE:=fun env R=>t env fun s env1=>∃ k,aG env1 s=some (.bool k)∧if k=true then u env1 R else R (.fr (.bool false)) env1
noncomputable def yK (t:DE):DE:=fun env R=>t env fun s env1=>∃ k,aG env1 s=some (.bool k)∧R (.fr (.bool (!k))) env1
theorem tO {op} (h:PE X a (up K ta)):PE X (.BoolOp op [a] pos) (up K ta):=z6 h
theorem qu (ha:PE X a (up K ta)) (hb:PE X (.BoolOp .And (b::es) pos) (up K tb)):PE X (.BoolOp .And (a::b::es) pos) (up K (yS ta tb)):=(Aa ha hb).imp fun σ H Q h=>by
 obtain ⟨M,P,H0,σ0,env,ts,R,rel,ht,hq⟩:=h
 refine ⟨M,P,H0,σ0,env,ts,_,rel,ht,fun s1 env1 v1 H1 h1 rel1=>?_⟩
 obtain ⟨k,e,h1⟩:=h1
 refine ⟨k,(rel1.view (by simp) e).bool,?_⟩
 cases k with
 | true=>exact⟨M,P,H0,σ0,env1,ts,R,rel1.drop,h1,hq⟩
 | false=>exact hq _ _ _ _ h1 (rel1.drop.addFr (.bl false))
theorem BY (ha:PE X a (up K ta)):PE X (.UnaryOp .Not a pos) (up K (yK ta)):=(z7 ha).imp fun σ H Q h=>by
 obtain ⟨M,P,H0,σ0,env,ts,R,rel,ht,hq⟩:=h
 refine ⟨M,P,H0,σ0,env,ts,_,rel,ht,fun s1 env1 v1 H1 h1 rel1=>?_⟩
 obtain ⟨k,e,h1⟩:=h1
 exact ⟨k,(rel1.view (by simp) e).bool,hq _ _ _ _ h1 (rel1.drop.addFr (.bl _))⟩
noncomputable def dIf (t:DT) (ta tb:DE):DE:=fun env R=>t env fun k env1=>if k=true then ta env1 R else tb env1 R
theorem qq (hc:PT X c (upT K tA)) (ha:PE X a (up K ta)) (hb:PE X b (up K tb)):PE X (.IfExp c a b pos) (up K (dIf tA ta tb)):=(tW hc ha hb).imp fun σ H Q h=>by
 obtain ⟨M,P,H0,σ0,env,ts,R,rel,ht,hq⟩:=h
 refine ⟨M,P,H0,σ0,env,ts,_,rel,ht,fun k env1 H1 h1 rel1=>?_⟩
 cases k with
 | true=>exact⟨M,P,H0,σ0,env1,ts,R,rel1,h1,hq⟩
 | false=>exact⟨M,P,H0,σ0,env1,ts,R,rel1,h1,hq⟩
noncomputable def oj (g g':G2) (ta tb tc:DE):DE:=fun env R=>ta env fun s1 env1=>tb env1 fun s2 env2=>∃ d1 d2,aG env2 s1=some d1∧aG env2 s2=some d2∧g d1 d2 fun d=>∃ k,d=.bool k ∧
 if k=true then tc env2 fun s3 env3=>∃ d2' d3,aG env3 s2=some d2'∧aG env3 s3=some d3∧g' d2' d3 fun d'=>R (.fr d') env3 else R (.fr (.bool false)) env2
theorem u4 {r r':R2}{g g':G2} (m:bQ K r g) (m':bQ K r' g'):∀ σ H Q,up K (oj g g' ta tb tc) σ H Q→vo r r' (up K ta) (up K tb) (up K tc) σ H Q:=fun σ H Q h=>by
 obtain ⟨M,P,H0,σ0,env,ts,R,rel,ht,hq⟩:=h
 refine ⟨M,P,H0,σ0,env,ts,_,rel,ht,fun s1 env1 v1 H1 h1 rel1=>⟨M,P,H0,σ0,env1,ts++[(v1,s1)],_,rel1,h1,fun s2 env2 v2 H2 h2 rel2=>?_⟩⟩
 obtain ⟨d1,d2,e1,e2,g⟩:=h2
 have rel2':Rel K M P H0 σ0 σ env2 (ts++[(v1,s1),(v2,s2)]) H2:=by simpa using rel2
 refine m _ H2 v1 v2 d1 d2 _ _ (rel2.view (by simp) e1) (rel2.view (by simp) e2) g fun d v hR dn=>?_
 obtain ⟨k,rfl,hR⟩:=hR
 cases dn
 refine ⟨k,rfl,?_⟩
 cases k with
 | false=>exact hq _ _ _ _ hR (rel2'.drop.addFr (.bl false))
 | true =>
  refine ⟨M,P,H0,σ0,env2,ts++[(v1,s1),(v2,s2)],_,rel2',hR,fun s3 env3 v3 H3 h3 rel3=>?_⟩
  obtain ⟨d2',d3,e2',e3,g'⟩:=h3
  refine m' _ H3 v2 v3 d2' d3 _ Q (rel3.view (by simp) e2') (rel3.view (by simp) e3) g' fun d v hR dn=>hq _ _ _ _ hR ?_
  have rel3':Rel K M P H0 σ0 σ env3 (ts++[(v1,s1),(v2,s2),(v3,s3)]) H3:=by simpa using rel3
  exact rel3'.res (a9.refl _) (by simpa using dn)
theorem qr {op op':CmpOp}{r r':R2}{g g':G2} (ho:OpR X (compareOp op) r) (m:bQ K r g) (ho':OpR X (compareOp op') r') (m':bQ K r' g') (ha:PE X a (up K ta)) (hb:PE X b (up K tb)) (hc:PE X c (up K tc))
  (hm:lastMarks [op,op'] [b,c]=false:=by with_unfolding_all rfl):PE X (.Compare a [op,op'] [b,c] pos) (up K (oj g g' ta tb tc)):=(tX ho ho' ha hb hc hm).imp (u4 m m')
noncomputable abbrev G1:=PyData→(PyData→Prop)→Prop
noncomputable def dUn (g:G1) (ta:DE):DE:=fun env R=>ta env fun s1 env1=>∃ d1,aG env1 s1=some d1∧g d1 fun d=>R (.fr d) env1
theorem Bh {op:UnaryOp}{r:V→Hp→VK→Prop}{g:G1} (ho:UnR X (unaryOp op) r) (m:∀ (N:Addr→Prop) (H:Hp) (x:V) (d1:PyData) (R:PyData→Prop) (Q:VK),Vw K N H x d1→g d1 R→(∀ d v,R d→DN K N H v d→Q v H)→r x H Q)
  (ha:PE X a (up K ta)):PE X (.UnaryOp op a pos) (up K (dUn g ta)):=(zZ ho ha).imp fun σ H Q h=>by
 obtain ⟨M,P,H0,σ0,env,ts,R,rel,ht,hq⟩:=h
 refine ⟨M,P,H0,σ0,env,ts,_,rel,ht,fun s1 env1 v1 H1 h1 rel1=>?_⟩
 obtain ⟨d1,e1,g⟩:=h1
 exact m _ H1 v1 d1 _ Q (rel1.view (by simp) e1) g fun d v hR dn=>hq _ _ _ _ hR (rel1.res (a9.refl _) dn)
noncomputable def Bu:DA:=fun env R=>R [] env
noncomputable def uX (t:DE) (u:DA):DA:=fun env R=>t env fun s env1=>u env1 fun ss env2=>R (s::ss) env2
theorem ac:PA X [] (upA K Bu):=j7.imp fun σ H Q h=>by
 obtain ⟨M,P,H0,σ0,env,ts,R,rel,ht,hq⟩:=h
 exact hq [] env [] H ht rfl (by simpa using rel)
theorem aa (ha:PE X a (up K ta)) (hr:PA X es (upA K tl)) (hs:starEach (a::es) X.env=(false,eval a X.env)::starEach es X.env:=by rfl):PA X (a::es) (upA K (uX ta tl)):=(ff ha hr hs).imp fun σ H Q h=>by
 obtain ⟨M,P,H0,σ0,env,ts,R,rel,ht,hq⟩:=h
 refine ⟨M,P,H0,σ0,env,ts,_,rel,ht,fun s1 env1 v1 H1 h1 rel1=>⟨M,P,H0,σ0,env1,ts++[(v1,s1)],_,rel1,h1,fun ss env2 vs H2 h2 hl rel2=>?_⟩⟩
 exact hq (s1::ss) env2 (v1::vs) H2 h2 (by simp[hl]) (by simpa using rel2)
end
section
variable {K:PySem.W.Frag}{M P N:Addr→Prop}{H0 H H':Hp}{σ0 σ:St}{env:List Sl}{ts tt:List (V×Sl)}{v:V}{s:Sl}{d:PyData}
noncomputable def gI (f:Int→Int→Int):G2:=fun d e R=>∃ i j,d=.int i∧e=.int j∧R (.int (f i j))
noncomputable def gIC (C:Int→Int→Prop) (f:Int→Int→Int):G2:=fun d e R=>∃ i j,d=.int i∧e=.int j∧C i j∧R (.int (f i j))
noncomputable def gB (f:Int→Int→Bool):G2:=fun d e R=>∃ i j,d=.int i∧e=.int j∧R (.bool (f i j))
theorem mI {f:Int→Int→Int}:bQ K (rI0 fun i j=>.int (f i j)) (gI f):=by
 rintro N H x y d e R Q w1 w2 ⟨i,j,rfl,rfl,hR⟩ hq
 exact ⟨i,j,w1.int,w2.int,hq _ _ hR (.int _)⟩
theorem mIC {C:Int→Int→Prop}{f:Int→Int→Int}:bQ K (rI C fun i j=>.int (f i j)) (gIC C f):=by
 rintro N H x y d e R Q w1 w2 ⟨i,j,rfl,rfl,hC,hR⟩ hq
 exact ⟨i,j,w1.int,w2.int,hC,hq _ _ hR (.int _)⟩
theorem mB {f:Int→Int→Bool}:bQ K (rI0 fun i j=>.bl (f i j)) (gB f):=by
 rintro N H x y d e R Q w1 w2 ⟨i,j,rfl,rfl,hR⟩ hq
 exact ⟨i,j,w1.int,w2.int,hq _ _ hR (.bl _)⟩
theorem y7:bQ K rEq (gB fun i j=>decide (i=j)):=by
 rintro N H x y d e R Q w1 w2 ⟨i,j,rfl,rfl,hR⟩ hq
 rw [w1.int,w2.int]
 refine ⟨rfl,?_⟩
 have q:=hq _ _ hR (.bl _)
 rwa [show decide (V.int i=V.int j)=decide (i=j) by simp]
theorem C5:bQ K rNe (gB fun i j=>!decide (i=j)):=by
 rintro N H x y d e R Q w1 w2 ⟨i,j,rfl,rfl,hR⟩ hq
 rw [w1.int,w2.int]
 refine ⟨rfl,?_⟩
 have q:=hq _ _ hR (.bl _)
 rwa [show decide (V.int i=V.int j)=decide (i=j) by simp]
noncomputable def gBB (f:Bool→Bool→Bool):G2:=fun d e R=>∃ i j,d=.bool i∧e=.bool j∧R (.bool (f i j))
theorem Dx:bQ K rEq (gBB fun i j=>decide (i=j)):=by
 rintro N H x y d e R Q w1 w2 ⟨i,j,rfl,rfl,hR⟩ hq
 rw [w1.bool,w2.bool]
 refine ⟨rfl,?_⟩
 have q:=hq _ _ hR (.bl _)
 rwa [show decide (V.bl i=V.bl j)=decide (i=j) by simp]
theorem B8:bQ K (fun x y H Q=>∃ b c,x=.bl b∧y=.bl c∧Q (.bl (b != c)) H) (gBB fun i j=>i != j):=by
 rintro N H x y d e R Q w1 w2 ⟨i,j,rfl,rfl,hR⟩ hq
 exact ⟨i,j,w1.bool,w2.bool,hq _ _ hR (.bl _)⟩
noncomputable def gEq:G2:=fun d e R=>shp d∧shp e∧R (.bool (PyData.eqv d e))
noncomputable def gNe:G2:=fun d e R=>shp d∧shp e∧R (.bool (!PyData.eqv d e))
theorem mEq:bQ K (BW K) gEq:=fun N H x y d e R Q w1 w2 ⟨h1,h2,hR⟩ hq=>⟨d,e,w1.dv,w2.dv,h1,h2,hq _ _ hR (.bl _)⟩
theorem mNe:bQ K (BR K) gNe:=fun N H x y d e R Q w1 w2 ⟨h1,h2,hR⟩ hq=>⟨d,e,w1.dv,w2.dv,h1,h2,hq _ _ hR (.bl _)⟩
noncomputable def lD:PyData→Bool
 | .none=>true
 | _=>false
theorem Vw.isNon (w:Vw K N H v d):decide (v=.non)=lD d:=by
 cases w with
 | dn h =>
  cases h with
  | fz h=>obtain⟨a,xs,e,_⟩:=h.list;subst e;simp[lD]
  | _=>simp[lD]
 | ow h q=>simp[lD]
 | dct h q r e=>simp[lD]
noncomputable def Bp:G2:=fun d e R=>e=.none∧R (.bool (lD d))
noncomputable def uI:G2:=fun d e R=>e=.none∧R (.bool (!lD d))
theorem Bk:bQ K (fun x y H Q=>y=.non∧Q (.bl (decide (x=.non))) H) Bp:=by
 rintro N H x y d e R Q w1 w2 ⟨rfl,hR⟩ hq
 exact ⟨w2.none,by rw[w1.isNon];exact hq _ _ hR (.bl _)⟩
theorem B7:bQ K (fun x y H Q=>y=.non∧Q (.bl (!decide (x=.non))) H) uI:=by
 rintro N H x y d e R Q w1 w2 ⟨rfl,hR⟩ hq
 exact ⟨w2.none,by rw[w1.isNon];exact hq _ _ hR (.bl _)⟩
noncomputable def eG:PyData→Option (List PyData)
 | .list ds=>some ds
 | .tuple ds=>some ds
 | _=>none
noncomputable def AE:PyData→Option Int
 | .int i=>some i
 | _=>none
noncomputable def cg:List PyData→Option (List Int)
 | []=>some []
 | d::ds=>(AE d).bind fun i=>(cg ds).map (i::·)
theorem bU:∀ ns:List Int,cg (ns.map .int)=some ns
 | []=>rfl
 | n::ns=>by rw[Eu,cg,bU ns];rfl
theorem dh:∀ {ds:List PyData}{ns:List Int},cg ds=some ns→ds=ns.map .int
 | [],ns,h=>by cases h;rfl
 | d::ds,ns,h=>by
  unfold cg at h
  cases d <;> simp[AE] at h
  obtain ⟨ms,h1,rfl⟩:=h
  rw [dh h1];rfl
theorem Vw.seq {ds:List PyData} (w:Vw K N H v d) (e:eG d=some ds):∃ a vs,v=.ref a∧(SqL K H a vs∨SqT K H a vs)∧DNs K N H vs ds:=by
 cases d <;> simp[eG] at e
 ·subst e
  obtain ⟨a,vs,e1,s,q⟩:=w.list
  exact ⟨a,vs,e1,.inl s,q⟩
 ·subst e
  obtain ⟨a,vs,e1,s,q⟩:=w.tuple
  exact ⟨a,vs,e1,.inr s,q⟩
theorem nP (i:Int) (ns:List Int):inV (.int i) (ns.map V.int)=decide (i∈ns):=by
 unfold inV
 induction ns with
 | nil=>rfl
 | cons n r ih =>
  rw [Eu,List.any_cons,ih]
  have:eqV (.int n) (.int i)=decide (n=i):=(show eqV (.int n) (.int i)=(n==i) from rfl).trans (by rw[Fu];simp)
  rw [this]
  by_cases h1:n=i
  ·simp [h1]
  ·have:¬i=n:=fun z=>h1 z.symm
   simp [h1,this]
theorem kP (ns:List Int):(ns.map V.int).all js=true:=by
 rw [Fy]
 intro x hx
 obtain ⟨n,_,rfl⟩:=Em.mp hx
 rfl
noncomputable def gIn:G2:=fun d e R=>∃ i ds ns,d=.int i∧eG e=some ds∧cg ds=some ns∧R (.bool (decide (i∈ns)))
noncomputable def rG:G2:=fun d e R=>∃ i ds ns,d=.int i∧eG e=some ds∧cg ds=some ns∧R (.bool (!decide (i∈ns)))
theorem mIn:bQ K (rIn K false) gIn:=by
 rintro N H x y d e R Q w1 w2 ⟨i,ds,ns,rfl,e1,e2,hR⟩ hq
 obtain ⟨a,vs,rfl,s,q⟩:=w2.seq e1
 rw [dh e2] at q
 rw [q.ints] at s
 rw [w1.int]
 refine ⟨a,_,rfl,s,rfl,kP ns,?_⟩
 rw [nP]
 exact hq _ _ hR (.bl _)
theorem Al:bQ K (rIn K true) rG:=by
 rintro N H x y d e R Q w1 w2 ⟨i,ds,ns,rfl,e1,e2,hR⟩ hq
 obtain ⟨a,vs,rfl,s,q⟩:=w2.seq e1
 rw [dh e2] at q
 rw [q.ints] at s
 rw [w1.int]
 refine ⟨a,_,rfl,s,rfl,kP ns,?_⟩
 rw [nP]
 exact hq _ _ hR (.bl _)
noncomputable def Cn:G2:=fun d e R=>∃ ds,e=.list ds∧shp d∧shp e∧R (.bool (ds.any fun x=>PyData.eqv x d))
theorem Dw:bQ K (BV K) Cn:=by
 rintro N H x y d e R Q w1 w2 ⟨ds,rfl,h1,h2,hR⟩ hq
 exact ⟨d,ds,w1.dv,w2.dv,h1,h2,hq _ _ hR (.bl _)⟩
theorem DNs.atI {vs:List V}{ds:List PyData}{i:Int}{e:PyData} (q:DNs K N H vs ds) (h:_L.atI ds i=some e):∃ v,_L.atI vs i=some v∧DN K N H v e:=by
 unfold _L.atI at h ⊢
 rw [q.len]
 cases hj:ixN ds.length i with
 | none=>rw[hj] at h;cases h
 | some j =>
  rw [hj] at h
  have h:ds[j]? = some e:=h
  have hlt:j<vs.length:=by rw[q.len];exact (Ef.mp h).1
  obtain ⟨e',h1,h2⟩:=q.get (D8 hlt)
  rw [h] at h1
  cases h1
  exact ⟨vs[j],D8 hlt,h2⟩
noncomputable def gIx:G2:=fun d e R=>∃ ds i x,eG d=some ds∧e=.int i∧atI ds i=some x∧R x
noncomputable def BT (K:PySem.W.Frag):R2:=fun x y H Q=>C2 K x y H Q∨C1 K x y H Q
theorem ag {X:Cx} (hK:X.K=K):IxR X (BT K):=by subst hK;exact IxR.or ye AB
theorem mIx:bQ K (BT K) gIx:=by
 rintro N H x y d e R Q w1 w2 ⟨ds,i,z,e1,rfl,e2,hR⟩ hq
 obtain ⟨a,vs,rfl,s,q⟩:=w1.seq e1
 obtain ⟨u,e3,dn⟩:=q.atI e2
 rcases s with s|s
 ·exact .inl ⟨a,vs,i,u,rfl,w2.int,s,e3,hq _ _ hR dn⟩
 ·exact .inr ⟨a,vs,i,u,rfl,w2.int,s,e3,hq _ _ hR dn⟩
inductive Vws (K:PySem.W.Frag) (N:Addr→Prop) (H:Hp):List V→List PyData→Prop
 | nil:Vws K N H [] []
 | cons {v d vs ds}:Vw K N H v d→Vws K N H vs ds→Vws K N H (v::vs) (d::ds)
noncomputable def eB (env:List Sl):List Sl→Option (List PyData)
 | []=>some []
 | s::ss=>(aG env s).bind fun d=>(eB env ss).bind fun ds=>some (d::ds)
theorem Rel.views (h:Rel K M P H0 σ0 σ env ts H):∀ {vs:List V}{ss:List Sl}{ds:List PyData},vs.length=ss.length→(∀ p∈vs.zip ss,p∈ts)→eB env ss=some ds→Vws K (Nw M (ay σ env ts)) H vs ds
 | [],[],_,_,_,e=>by cases e;exact .nil
 | v :: vs,s::ss,ds,hl,hm,e=>by
  unfold eB at e
  cases e1:aG env s with
  | none=>rw[e1] at e;cases e
  | some d =>
   rw [e1] at e
   cases e2:eB env ss with
   | none=>rw[e2] at e;cases e
   | some ds' =>
    rw [e2] at e
    cases e
    exact .cons (h.view (hm _ (by simp)) e1) (h.views (by simpa using hl) (fun p hp=>hm p (by simp[hp])) e2)
 | [],_::_,_,hl,_,_=>by simp at hl
 | _::_,[],_,hl,_,_=>by simp at hl
noncomputable abbrev GB:=List PyData→(PyData→Prop)→Prop
noncomputable def dCB (g:GB) (t:DA):DE:=fun env R=>t env fun ss env1=>∃ ds,eB env1 ss=some ds∧g ds fun d=>R (.fr d) env1
noncomputable def lz (K:PySem.W.Frag) (r:List V→Hp→VK→Prop) (g:GB):Prop:=∀ (N:Addr→Prop) (H:Hp) (xs:List V) (ds:List PyData) (R:PyData→Prop) (Q:VK),Vws K N H xs ds→g ds R→(∀ d v,R d→DN K N H v d→Q v H)→r xs H Q
theorem CJ {r:List V→Hp→VK→Prop}{g:GB}{tl:DA} (m:lz K r g):∀ σ H Q,up K (dCB g tl) σ H Q→tCB r (upA K tl) σ H Q:=fun σ H Q h=>by
 obtain ⟨M,P,H0,σ0,env,ts,R,rel,ht,hq⟩:=h
 refine ⟨M,P,H0,σ0,env,ts,_,rel,ht,fun ss env1 vs H1 h1 hl rel1=>?_⟩
 obtain ⟨ds,e,g⟩:=h1
 exact m _ H1 vs ds _ Q (rel1.views hl (fun p hp=>D9 _ hp) e) g fun d v hR dn=>hq _ _ _ _ hR (rel1.res (a9.refl _) dn)
section
variable {X:Cx}{x:Str}{p pos:Pos}{e:Expr}{es:List Expr}{tl:DA}{id T:String}{r:List V→Hp→VK→Prop}{g:GB}
theorem fX (hc:fC X (.builtin id) r) (m:lz K r g) (hg:Gl X x) (hm:X.mg x=none) (hv:bootBuiltins x=some (.builtin id)) (ha:PA X (e::es) (upA K tl)) (hn:x ≠ "__name__" := by decide) (hdb:(x==("__debug__" : Str))=false:=by decide)
  (he:starEach (e::es) X.env=(false,eval e X.env)::starEach es X.env:=by rfl) (hpl:(backTo pos (starEach es X.env)).any (·.1)=false:=by rfl):PE X (.Call (.Name x p) (e::es) [] pos) (up K (dCB g tl)) :=
 (gc hc hg hm hv ha hn hdb he hpl).imp (CJ m)
end
noncomputable def Bo:GB:=fun ds R=>∃ d es,ds=[d]∧eG d=some es∧R (.int es.length)
theorem il:lz K (fun xs H Q=>∃ p ys,xs=[.ref p]∧(SqL K H p ys∨SqT K H p ys)∧Q (.int ys.length) H) Bo:=by
 rintro N H xs ds R Q w ⟨d,es,rfl,e1,hR⟩ hq
 cases w with
 | cons w1 w2 =>
  cases w2
  obtain ⟨a,vs,rfl,s,q⟩:=w1.seq e1
  refine ⟨a,vs,rfl,s,?_⟩
  rw [q.len]
  exact hq _ _ hR (.int _)
noncomputable def Cj:GB:=fun ds R=>∃ i j,ds=[.int i,.int j]∧R (.int (if j<i then j else i))
theorem Dt:lz K (fun xs H Q=>∃ i j,xs=[.int i,.int j]∧Q (.int (if j<i then j else i)) H) Cj:=by
 rintro N H xs ds R Q w ⟨i,j,rfl,hR⟩ hq
 cases w with
 | cons w1 w2 =>
  cases w2 with
  | cons w2 w3 =>
   cases w3
   exact ⟨i,j,by rw[w1.int,w2.int],hq _ _ hR (.int _)⟩
noncomputable def wC:PyData→Option Bool
 | .bool i=>some i
 | _=>none
noncomputable def ft:List PyData→Option (List Bool)
 | []=>some []
 | d::ds=>(wC d).bind fun i=>(ft ds).map (i::·)
theorem d8:∀ ns:List Bool,ft (ns.map .bool)=some ns
 | []=>rfl
 | n::ns=>by rw[Eu,ft,d8 ns];rfl
theorem fQ:∀ {ds:List PyData}{ns:List Bool},ft ds=some ns→ds=ns.map .bool
 | [],ns,h=>by cases h;rfl
 | d::ds,ns,h=>by
  unfold ft at h
  cases d <;> simp[wC] at h
  obtain ⟨ms,h1,rfl⟩:=h
  rw [fQ h1];rfl
theorem DNs.bools:∀ {ns:List Bool}{v:List V},DNs K N H v (ns.map .bool)→v=ns.map V.bl
 | [],_,.nil=>rfl
 | n::r,_,.cons h q=>by
  cases h
  rw [q.bools];rfl
noncomputable def Cp:GB:=fun ds R=>∃ es bs,ds=[.list es]∧ft es=some bs∧R (.bool (bs.all id))
theorem B9:lz K (fun xs H Q=>∃ (a:Addr) (bs:List Bool),xs=[.ref a]∧SqL K H a (bs.map V.bl)∧Q (.bl (bs.all id)) H) Cp:=by
 rintro N H xs ds R Q w ⟨es,bs,rfl,e1,hR⟩ hq
 cases w with
 | cons w1 w2 =>
  cases w2
  obtain ⟨a,vs,rfl,s,q⟩:=w1.list
  rw [fQ e1] at q
  rw [q.bools] at s
  exact ⟨a,bs,rfl,s,hq _ _ hR (.bl _)⟩
noncomputable def aZ (env:List Sl):List Sl→Option (List PyData)
 | []=>some []
 | s::ss=>(aI env s).bind fun d=>(aZ env ss).bind fun ds=>some (d::ds)
theorem Rel.kept (h:Rel K M P H0 σ0 σ env (ts++tt) H) (m:(v,s)∈tt) (e:aI env s=some d):DN K (Nw M (ay σ env ts)) H v d:=by
 have hE:=h.e
 rw [aw] at hE
 have sub:∀ b,Nw M (ay σ env ts) b→Nw M (ay σ env ts++tmp tt) b:=fun b z=>dS z
 have mm:((some v,s):Ent)∈ay σ env ts++tmp tt:=D9 _ (Em.mpr ⟨(v,s),m,rfl⟩)
 cases s with
 | fr d' =>
  cases e
  obtain ⟨v',e1,dn⟩:=hE.fr _ _ mm
  cases e1
  exact dn.to fun b _ _ z=>sub b z
 | ow ds =>
  cases e
  obtain ⟨a,vs,e1,e2,dn,h0⟩:=hE.ow _ _ mm
  cases e1
  refine .lst (SnL.of e2 ?_) (dn.to fun b _ _ z=>sub b z)
  rintro (z|z)
  ·exact hE.mt a z h0
  ·have nd:=hE.nd
   rw [ah] at nd
   exact (Ei.mp nd).2.2 a z a (aW.mpr ⟨_,Em.mpr ⟨_,m,rfl⟩,Eb.mpr rfl⟩) rfl
 | tr S d' =>
  cases e
  obtain ⟨v',e1,ot,h0⟩:=hE.tr _ _ _ mm
  cases e1
  refine ot.dn sub fun a ha=>?_
  rintro (z|z)
  ·exact hE.mt a z (h0 a ha)
  ·have nd:=hE.nd
   rw [ah] at nd
   exact (Ei.mp nd).2.2 a z a (aW.mpr ⟨_,Em.mpr ⟨_,m,rfl⟩,by rw[aL];exact ha⟩) rfl
 | vw i =>
  have e:(env[i]?).bind slK=some d:=e
  cases q:env[i]? with
  | none=>rw[q] at e;cases e
  | some s' =>
   rw [q] at e
   cases s' with
   | fr d' =>
    cases e
    obtain ⟨x,e1,m1⟩:=h.slot q
    rw [aw] at m1
    obtain ⟨v',e2,dn⟩:=hE.fr _ _ m1
    have e3:=h.vw v i (D9 _ m)
    rw [e1,e2] at e3
    cases e3
    exact dn.to fun b _ _ z=>sub b z
   | _=>cases e
 | _=>cases e
theorem Rel.keptAll (h:Rel K M P H0 σ0 σ env (ts++tt) H):∀ {vs:List V}{ss:List Sl}{ds:List PyData},vs.length=ss.length→(∀ p∈vs.zip ss,p∈tt)→aZ env ss=some ds→DNs K (Nw M (ay σ env ts)) H vs ds
 | [],[],_,_,_,e=>by cases e;exact .nil
 | v :: vs,s::ss,ds,hl,hm,e=>by
  unfold aZ at e
  cases e1:aI env s with
  | none=>rw[e1] at e;cases e
  | some d =>
   rw [e1] at e
   cases e2:aZ env ss with
   | none=>rw[e2] at e;cases e
   | some ds' =>
    rw [e2] at e
    cases e
    exact .cons (h.kept (hm _ (by simp)) e1) (h.keptAll (by simpa using hl) (fun p hp=>hm p (by simp[hp])) e2)
 | [],_::_,_,hl,_,_=>by simp at hl
 | _::_,[],_,hl,_,_=>by simp at hl
theorem Rel.newAddr (h:Rel K M P H0 σ0 σ env ts H) {p:Addr} (hp:H p=none):¬Nw M (ay σ env ts) p:=by
 rintro (z|z)
 ·exact h.e.live p (h.e.mt p z) hp
 ·obtain ⟨vs,q,_⟩:=h.e.own z
  rw [hp] at q
  cases q
theorem Rel.resTup (h:Rel K M P H0 σ0 σ env (ts++tt) H) {p:Addr}{vs:List V}{ds:List PyData} (hp:H p=none) (dns:DNs K (Nw M (ay σ env ts)) H vs ds):Rel K M P H0 σ0 σ env (ts++[(.ref p,.fr (.tuple ds))]) (upd H p (.tup vs)) :=
 (h.drop.same (a9.new hp)).addFr (.tup (SnT.of aB (h.drop.newAddr hp)) (dns.keep (aS.same (a9.new hp))))
section
variable {X:Cx}{x:Str}{p pos:Pos}{e:Expr}{es:List Expr}{tl:DA}{id T:String}
noncomputable def Bs (t:DA):DE:=fun env R=>t env fun ss env1=>∃ ds,aZ env1 ss=some ds∧ss.length≤sizeLine∧R (.fr (.tuple ds)) env1
noncomputable def Bv (t:DA):DE:=fun env R=>t env fun ss env1=>∃ ds,aZ env1 ss=some ds∧ss.length≤sizeLine∧R (.ow ds) env1
theorem bW {x1} (h:PA X es (upA K tl)):PE X (.Tuple es x1 pos) (up K (Bs tl)):=(z0 h).imp fun σ H Q h=>by
 obtain ⟨M,P,H0,σ0,env,ts,R,rel,ht,hq⟩:=h
 refine ⟨M,P,H0,σ0,env,ts,_,rel,ht,fun ss env1 vs H1 h1 hl rel1=>?_⟩
 obtain ⟨ds,e,hz,hR⟩:=h1
 exact ⟨by omega,fun p hp=>hq _ _ _ _ hR (rel1.resTup hp (rel1.keptAll hl (fun p hp=>hp) e))⟩
theorem cI (h:PA X es (upA K tl)):PE X (.List es pos) (up K (Bv tl)):=(vS h).imp fun σ H Q h=>by
 obtain ⟨M,P,H0,σ0,env,ts,R,rel,ht,hq⟩:=h
 refine ⟨M,P,H0,σ0,env,ts,_,rel,ht,fun ss env1 vs H1 h1 hl rel1=>?_⟩
 obtain ⟨ds,e,hz,hR⟩:=h1
 exact ⟨by omega,fun p hp=>hq _ _ _ _ hR (rel1.drop.addOw hp (rel1.keptAll hl (fun p hp=>hp) e))⟩
end
end
noncomputable def zA (K:PySem.W.Frag):R2:=fun x y H Q=>∃ l b xs zs,x=.ref l∧y=.ref b∧SqL K H l xs∧SqL K H b zs∧xs.length+zs.length≤sizeLine∧∀ p,H p=none→Q (.ref p) (upd H p (.lst (xs++zs)))
theorem gM {X:Cx}{K:PySem.W.Frag} (hK:X.K=K):OpR X (binaryOp .Add) (zA K):=by
 subst hK
 intro pins s σ H x y v u Q I rx ry h
 obtain ⟨l,b,xs,zs,rfl,rfl,hH,hB,hz,q⟩:=h
 cases rx
 cases ry
 obtain ⟨its,r,⟨⟨cls,dd,data,sl⟩,n,ho,hc,_,hd⟩,z⟩:=I.list hH
 obtain ⟨its2,r2,⟨⟨cls2,dd2,data2,sl2⟩,n2,ho2,hc2,_,hd2⟩,z2⟩:=I.list hB
 simp only at hc hd hc2 hd2
 subst hc hd hc2 hd2
 have hl:=r.length
 have hl2:=r2.length
 refine concat_meets ⟨_,ho,rfl⟩ ⟨_,ho2,rfl⟩ noFill_list_add seq_list_add PySem.F.slot_list_add PySem.F.entry_list_add (PySem.F.args_list_add_2 _ _) (list_addW l b its.toArray its2.toArray n n2 dd dd2 sl sl2 (by rw[El,El];omega)) ⟨ho,ho2,?_⟩
 have ea:its.toArray++its2.toArray=(its++its2).toArray:=by simp
 rw [ea]
 exact ⟨.ref _,_,I.lnew (t':=s.toks) (r.append r2) (by rw[Ew];omega),rfl,q _ I.fresh⟩
section
variable {K:PySem.W.Frag}{M P N:Addr→Prop}{H0 H H':Hp}{σ0 σ:St}{env:List Sl}{ts tt:List (V×Sl)}{v:V}{s:Sl}{d:PyData}
variable {X:Cx}{x:Str}{p pos:Pos}{a b e:Expr}{es:List Expr}{ta tb:DE}{tl:DA}
noncomputable def A5 (g:PyData→PyData→(List PyData→Prop)→Prop) (ta tb:DE):DE:=fun env R=>ta env fun s1 env1=>tb env1 fun s2 env2=>∃ d1 d2,aG env2 s1=some d1∧aG env2 s2=some d2∧g d1 d2 fun ds=>R (.ow ds) env2
noncomputable def sT (K:PySem.W.Frag) (r:R2) (g:PyData→PyData→(List PyData→Prop)→Prop):Prop:=∀ (N:Addr→Prop) (H:Hp) (x y:V) (d1 d2:PyData) (R:List PyData→Prop) (Q:VK),Vw K N H x d1→Vw K N H y d2→g d1 d2 R →
 (∀ ds vs p,R ds→DNs K N H vs ds→H p=none→Q (.ref p) (upd H p (.lst vs)))→r x y H Q
theorem Ah {r:R2}{g:PyData→PyData→(List PyData→Prop)→Prop} (m:sT K r g):∀ σ H Q,up K (A5 g ta tb) σ H Q→tOp r (up K ta) (up K tb) σ H Q:=fun σ H Q h=>by
 obtain ⟨M,P,H0,σ0,env,ts,R,rel,ht,hq⟩:=h
 refine ⟨M,P,H0,σ0,env,ts,_,rel,ht,fun s1 env1 v1 H1 h1 rel1=>⟨M,P,H0,σ0,env1,ts++[(v1,s1)],_,rel1,h1,fun s2 env2 v2 H2 h2 rel2=>?_⟩⟩
 obtain ⟨d1,d2,e1,e2,g⟩:=h2
 refine m _ H2 v1 v2 d1 d2 _ Q (rel2.view (by simp) e1) (rel2.view (by simp) e2) g fun ds vs p hR dns hp=>hq _ _ _ _ hR ?_
 have rel2':Rel K M P H0 σ0 σ env2 (ts++[(v1,s1),(v2,s2)]) H2:=by simpa using rel2
 exact rel2'.resOw hp (by simpa using dns)
theorem qo {op:Operator}{r:R2}{g:PyData→PyData→(List PyData→Prop)→Prop} (ho:OpR X (binaryOp op) r) (m:sT K r g) (ha:PE X a (up K ta)) (hb:PE X b (up K tb)):PE X (.BinOp a op b pos) (up K (A5 g ta tb)):=(xJ ho ha hb).imp (Ah m)
noncomputable def Bq:PyData→PyData→(List PyData→Prop)→Prop:=fun d e R=>∃ xs ys,d=.list xs∧e=.list ys∧xs.length+ys.length≤sizeLine∧R (xs++ys)
theorem Am:sT K (zA K) Bq:=by
 rintro N H x y d e R Q w1 w2 ⟨xs,ys,rfl,rfl,hz,hR⟩ hq
 obtain ⟨a1,v1,rfl,s1,q1⟩:=w1.list
 obtain ⟨a2,v2,rfl,s2,q2⟩:=w2.list
 exact ⟨a1,a2,v1,v2,rfl,rfl,s1,s2,by rw[q1.len,q2.len];exact hz,fun p hp=>hq _ _ p hR (q1.app q2) hp⟩
noncomputable def uY (ta tb:DE):DE:=fun env R=>ta env fun s1 env1=>tb env1 fun s2 env2=>∃ xs ys,aG env2 s1=some (.tuple xs)∧aG env2 s2=some (.tuple ys)∧xs.length+ys.length≤sizeLine∧R (.fr (.tuple (xs++ys))) env2
theorem j0 (hK:X.K=K) (ha:PE X a (up K ta)) (hb:PE X b (up K tb)):PE X (.BinOp a .Add b pos) (up K (uY ta tb)):=(xJ (Cf (K:=K) hK) ha hb).imp fun σ H Q h=>by
 obtain ⟨M,P,H0,σ0,env,ts,R,rel,ht,hq⟩:=h
 refine ⟨M,P,H0,σ0,env,ts,_,rel,ht,fun s1 env1 v1 H1 h1 rel1=>⟨M,P,H0,σ0,env1,ts++[(v1,s1)],_,rel1,h1,fun s2 env2 v2 H2 h2 rel2=>?_⟩⟩
 obtain ⟨xs,ys,e1,e2,hz,hR⟩:=h2
 have w1:=rel2.view (v:=v1) (by simp) e1
 have w2:=rel2.view (v:=v2) (by simp) e2
 have rel2':Rel K M P H0 σ0 σ env2 (ts++[(v1,s1),(v2,s2)]) H2:=by simpa using rel2
 have ee:ts++[(v1,s1)]++[(v2,s2)]=ts++[(v1,s1),(v2,s2)]:=by simp
 rw [ee] at w1 w2
 obtain ⟨a1,u1,rfl,t1,q1⟩:=w1.tuple
 obtain ⟨a2,u2,rfl,t2,q2⟩:=w2.tuple
 refine ⟨a1,a2,u1,u2,rfl,rfl,t1,t2,by rw[q1.len,q2.len];exact hz,fun z=>?_,fun _ z=>?_,fun _ _ p hp=>?_⟩
 ·subst z
  have:xs=[]:=by
   have:=q1.len
   exact List.eq_nil_of_length_eq_zero this.symm
  subst this
  cases w2 with
  | dn dn=>exact hq _ _ _ _ hR (rel2'.res (a9.refl _) dn)
 ·subst z
  have:ys=[]:=by
   have:=q2.len
   exact List.eq_nil_of_length_eq_zero this.symm
  subst this
  rw [EK] at hR
  cases w1 with
  | dn dn=>exact hq _ _ _ _ hR (rel2'.res (a9.refl _) dn)
 ·exact hq _ _ _ _ hR (rel2'.resTup hp ((q1.app q2).to fun b _ _ z=>by rw[aw];exact dS z))
noncomputable abbrev DO:=List Sl→(Option Int→List Sl→Prop)→Prop
inductive upO (K:PySem.W.Frag) (t:DO) (σ:St) (H:Hp) (Q:Option Int→Hp→Prop):Prop
 | mk (M P:Addr→Prop) (H0:Hp) (σ0:St) (env:List Sl) (ts:List (V×Sl)) (R:Option Int→List Sl→Prop):Rel K M P H0 σ0 σ env ts H→t env R →
 (∀ o env' H',R o env'→Rel K M P H0 σ0 σ env' ts H'→Q o H')→upO K t σ H Q
theorem PO.imp {e:Option Expr}{t t':TO} (h:PO X e t) (k:∀ σ H Q,t' σ H Q→t σ H Q):PO X e t':=fun pins s σ H Q I hw=>h pins s σ H Q I (k σ H Q hw)
noncomputable def jx:DO:=fun env R=>R none env
noncomputable def uU (t:DE):DO:=fun env R=>t env fun s env1=>∃ i,aG env1 s=some (.int i)∧R (some i) env1
theorem fe:PO X none (upO K jx):=xz.imp fun σ H Q h=>by
 obtain ⟨M,P,H0,σ0,env,ts,R,rel,ht,hq⟩:=h
 exact hq _ _ _ ht rel
theorem fb (h:PE X e (up K ta)):PO X (some e) (upO K (uU ta)):=(xy h).imp fun σ H Q h=>by
 obtain ⟨M,P,H0,σ0,env,ts,R,rel,ht,hq⟩:=h
 refine ⟨M,P,H0,σ0,env,ts,_,rel,ht,fun s1 env1 v1 H1 h1 rel1=>?_⟩
 obtain ⟨i,e1,hR⟩:=h1
 exact ⟨i,(rel1.view (by simp) e1).int,hq _ _ _ hR rel1.drop⟩
noncomputable def jy {α:Type} (xs:List α) (lo hi:Option Int):List α:=(xs.drop (HT.sIx xs.length 0 lo)).take (HT.sIx xs.length xs.length hi - HT.sIx xs.length 0 lo)
theorem DNs.drop:∀ {vs:List V}{ds:List PyData} (n:Nat),DNs K N H vs ds→DNs K N H (vs.drop n) (ds.drop n)
 | _,_,0,q=>q
 | _,_,_+1,.nil=>.nil
 | _,_,n+1,.cons _ q=>q.drop n
theorem DNs.take:∀ {vs:List V}{ds:List PyData} (n:Nat),DNs K N H vs ds→DNs K N H (vs.take n) (ds.take n)
 | _,_,0,_=>.nil
 | _,_,_+1,.nil=>.nil
 | _,_,n+1,.cons h q=>.cons h (q.take n)
theorem DNs.cut {vs:List V}{ds:List PyData} (q:DNs K N H vs ds) (lo hi:Option Int):DNs K N H (wA vs lo hi) (jy ds lo hi):=by
 unfold wA jy
 rw [q.len]
 exact (q.drop _).take _
noncomputable def Bt (te:DE) (tl th:DO):DE:=fun env R=>te env fun s env1=>tl env1 fun l env2=>th env2 fun h env3=>∃ ds,aG env3 s=some (.list ds)∧R (.ow (jy ds l h)) env3
noncomputable def Cz (te:DE) (tl th:DO):DE:=fun env R=>te env fun s env1=>tl env1 fun l env2=>th env2 fun h env3=>∃ ds,aG env3 s=some (.tuple ds)∧¬(HT.sIx ds.length 0 l=0∧HT.sIx ds.length ds.length h=ds.length)∧R (.fr (.tuple (jy ds l h))) env3
variable {lo hi:Option Expr}{tlo thi:DO}{p2:Pos}
theorem tN (hK:X.K=K) (he:PE X e (up K ta)) (hl:PO X lo (upO K tlo)) (hu:PO X hi (upO K thi)):PE X (.Subscript e (.Slice lo hi none p2) pos) (up K (Bt ta tlo thi)):=(nw (DF (K:=K) hK) he hl hu).imp fun σ H Q h=>by
 obtain ⟨M,P,H0,σ0,env,ts,R,rel,ht,hq⟩:=h
 refine ⟨M,P,H0,σ0,env,ts,_,rel,ht,fun s1 env1 v1 H1 h1 rel1=>⟨M,P,H0,σ0,env1,ts++[(v1,s1)],_,rel1,h1,fun l env2 H2 h2 rel2=>⟨M,P,H0,σ0,env2,ts++[(v1,s1)],_,rel2,h2,fun u env3 H3 h3 rel3=>?_⟩⟩⟩
 obtain ⟨ds,e1,hR⟩:=h3
 obtain ⟨a,vs,rfl,sq,q⟩:=(rel3.view (v:=v1) (by simp) e1).list
 exact ⟨a,vs,rfl,sq,fun p hp=>hq _ _ _ _ hR (rel3.resOw hp (q.cut l u))⟩
theorem zI (hK:X.K=K) (he:PE X e (up K ta)) (hl:PO X lo (upO K tlo)) (hu:PO X hi (upO K thi)):PE X (.Subscript e (.Slice lo hi none p2) pos) (up K (Cz ta tlo thi)):=(nw (DC (K:=K) hK) he hl hu).imp fun σ H Q h=>by
 obtain ⟨M,P,H0,σ0,env,ts,R,rel,ht,hq⟩:=h
 refine ⟨M,P,H0,σ0,env,ts,_,rel,ht,fun s1 env1 v1 H1 h1 rel1=>⟨M,P,H0,σ0,env1,ts++[(v1,s1)],_,rel1,h1,fun l env2 H2 h2 rel2=>⟨M,P,H0,σ0,env2,ts++[(v1,s1)],_,rel2,h2,fun u env3 H3 h3 rel3=>?_⟩⟩⟩
 obtain ⟨ds,e1,hw,hR⟩:=h3
 obtain ⟨a,vs,rfl,sq,q⟩:=(rel3.view (v:=v1) (by simp) e1).tuple
 exact ⟨a,vs,rfl,sq,by rw[q.len];exact hw,fun p hp=>hq _ _ _ _ hR (rel3.resTup hp ((q.cut l u).to fun b _ _ z=>by rw[aw];exact dS z))⟩
noncomputable def rX (t:DA):DE:=fun env R=>t env fun ss env1=>∃ s d ds,ss=[s]∧aG env1 s=some d∧eG d=some ds∧R (.ow ds) env1
noncomputable def rS (t:DA):DE:=fun env R=>t env fun ss env1=>∃ s d ds,ss=[s]∧aG env1 s=some d∧eG d=some ds∧R (.fr (.tuple ds)) env1
theorem qm (hK:X.K=K) (hg:Gl X "tuple") (hm:X.mg "tuple" = none) (ha:PA X [e] (upA K tl)) (he:starEach [e] X.env=[(false,eval e X.env)]:=by rfl):PE X (.Call (.Name "tuple" p) [e] [] pos) (up K (rS tl)) :=
 (qG (Az (K:=K) hK) hg hm PyProof.Rows.boot_tuple ha (by decide) (by decide) he rfl).imp fun σ H Q h=>by
 obtain ⟨M,P,H0,σ0,env,ts,R,rel,ht,hq⟩:=h
 refine ⟨M,P,H0,σ0,env,ts,_,rel,ht,fun ss env1 vs H1 h1 hl rel1=>?_⟩
 obtain ⟨s,d,ds,rfl,e1,e2,hR⟩:=h1
 obtain ⟨v,rfl⟩:=q9 hl
 have w:=rel1.view (v:=v) (by simp) e1
 cases d <;> simp[eG] at e2
 ·subst e2
  obtain ⟨a,us,rfl,sq,q⟩:=w.list
  exact ⟨a,us,rfl,.inl ⟨sq,fun l hl'=>hq _ _ _ _ hR (rel1.resTup hl' (q.to fun b _ _ z=>by rw[aw];exact dS z))⟩⟩
 ·subst e2
  obtain ⟨a,us,rfl,sq,q⟩:=w.tuple
  refine ⟨a,us,rfl,.inr ⟨sq,hq _ _ _ _ hR ?_⟩⟩
  cases w with
  | dn dn=>exact rel1.res (a9.refl _) dn
noncomputable def cH:Sl→List PyData→Option Sl
 | .ow _,ds=>some (.ow ds)
 | .io _,ds=>some (.io ds)
 | _,_=>none
noncomputable def fY:Sl→Option (List PyData)
 | .ow ds=>some ds
 | .io ds=>some ds
 | _=>none
theorem iG {s s':Sl}{l:List PyData} (h:cH s l=some s'):yg s l s'∧fY s'=some l:=by
 cases s with
 | ow _=>cases h;exact⟨rfl,rfl⟩
 | io _=>cases h;exact⟨rfl,rfl⟩
 | _=>cases h
theorem p8 {s:Sl}{l d:List PyData} (h:cH s l=some (.io d)):∃ d0,s=.io d0:=by
 cases s with
 | io d0=>exact⟨d0,rfl⟩
 | _=>cases h
theorem ny {s:Sl}{l:List PyData} (h:fY s=some l):cH s l=some s∧∀ a,a∈cO (some (.ref a),s):=by
 cases s with
 | ow _=>cases h;exact⟨rfl,fun a=>Eb.mpr rfl⟩
 | io _=>cases h;exact⟨rfl,fun a=>Eb.mpr rfl⟩
 | _=>cases h
theorem Rel.mut {i:Nat}{s s':Sl}{ds ds':List PyData} (h:Rel K M P H0 σ0 σ env ts H) (e:env[i]? = some s) (es:cH s ds'=some s') {a:Addr} (ea:σ[i]? = some (some (.ref a))) {vs':List V} (dns:DNs K (Nw M (ay σ env ts)) H vs' ds') :
  Rel K M P H0 σ0 σ (env.set i s') ts (upd H a (.lst vs')):=by
 obtain ⟨x,A,B,e1,q1,q2⟩:=h.split e
 rw [ea] at e1
 cases e1
 have r:=h.e
 rw [q1] at r dns
 refine ⟨by rw[q2];exact r.mut (iG es).1 dns,by simp[h.len],h.vw,fun j ds'' e'=>?_⟩
 by_cases hj:i=j
 ·subst hj
  have hi:i<env.length:=(Ef.mp e).1
  rw [EG hi] at e'
  cases e'
  obtain ⟨ds0,rfl⟩:=p8 es
  exact h.ios i ds0 e
 ·rw [EF hj] at e'
  exact h.ios j ds'' e'
theorem Rel.mine {i:Nat}{s:Sl}{ds:List PyData} (h:Rel K M P H0 σ0 σ env ts H) (e:env[i]? = some s) (eo:fY s=some ds):∃ a vs,σ[i]? = some (some (.ref a))∧H a=some (.lst vs)∧DNs K (Nw M (ay σ env ts)) H vs ds:=by
 obtain ⟨x,e1,m⟩:=h.slot e
 cases s with
 | ow d =>
  cases eo
  obtain ⟨a,vs,z,q1,q2,_⟩:=h.e.ow _ _ m
  subst z
  exact ⟨a,vs,e1,q1,q2⟩
 | io d =>
  cases eo
  obtain ⟨a,vs,z,q1,q2,_⟩:=h.e.io _ _ m
  subst z
  exact ⟨a,vs,e1,q1,q2⟩
 | _=>cases eo
noncomputable def By (i:Nat) (te:DE):DE:=fun env R=>(∃ ds,(env[i]?).bind fY=some ds)∧te env fun s env1=>∃ d s0 ds s',aI env1 s=some d∧env1[i]? = some s0∧fY s0=some ds∧ds.length<sizeLine∧cH s0 (ds++[d])=some s'∧R (.fr .none) (env1.set i s')
theorem jC {i:Nat}{ds:List PyData} (h:(env[i]?).bind fY=some ds):∃ s,env[i]? = some s∧fY s=some ds:=by
 cases e:env[i]? with
 | none=>rw[e] at h;cases h
 | some s=>rw[e] at h;exact⟨s,rfl,h⟩
theorem oN (i:Nat) {y:Str}{apos cpos npos:Pos} (hK:X.K=K) (hN:X.N[i]? = some y) (ha:PE X e (up K ta))
  (hv:Vis X.env.scope y:=by first|exact Or.inl rfl|exact Or.inr (Or.inl rfl)|exact Or.inr (Or.inr rfl)) (hd:(y==("__debug__" : Str))=false:=by decide)
  (hcd:(y==("__classdict__" : Str))=false:=by decide)
  (hs0:starEach [e] X.env=[(false,eval e X.env)]:=by rfl)
  (hbase:attributeBase (.Name y npos) "append" X.env (eval (.Name y npos) X.env)=eval (.Name y npos) X.env:=by rfl)
  (hfew:((backTo cpos (starEach [e] X.env)).all (fun x=>!x.1)&&(backToKw cpos (keywordEach [] X.env)).all (fun x=>x.1.isSome)&&decide ([e].length+([]:List Keyword).length+(if ([]:List Keyword).isEmpty then 0 else 1)<30))=true:=by rfl)
  (hline:(apos.endLine==cpos.line)=true:=by rfl) (hplain:(backTo cpos (starEach [] X.env)).any (·.1)=false:=by rfl) :
  PE X (.Call (.Attribute (.Name y npos) "append" apos) [e] [] cpos) (up K (By i ta)) :=
 (kBm (K:=K) hK PySem.F.plainAttrs_list PySem.F.slot_list_append PySem.F.type_list_append km (cU hN hv hd hcd) (ff ha j7 hs0) hbase hfew hline hs0 hplain).imp fun σ H Q h=>by
 obtain ⟨M,P,H0,σ0,env,ts,R,rel,⟨⟨ds0,h0⟩,ht⟩,hq⟩:=h
 obtain ⟨s0,e0,o0⟩:=jC h0
 obtain ⟨a,vs,ea,hH,_⟩:=rel.mine e0 o0
 refine ⟨.ref a,ea,.inl ⟨rfl,vs,SqL.of hH⟩,M,P,H0,σ0,env,ts,_,rel,ht,fun s1 env1 v1 H1 h1 rel1=>?_⟩
 obtain ⟨d,s2,ds,s',k,e2,o2,hz,es,hR⟩:=h1
 obtain ⟨a',us,ea',hH',q⟩:=rel1.drop.mine e2 o2
 rw [ea] at ea'
 cases ea'
 refine ⟨a,us,v1,rfl,rfl,hH',by rw[q.len];exact hz,?_⟩
 have dn:=rel1.kept (v:=v1) (s:=s1) (by simp) k
 exact hq _ _ _ _ hR ((rel1.drop.mut (ds:=ds) e2 es ea (q.app (.cons dn .nil))).addFr .non)
noncomputable def CA (i:Nat):DE:=fun env R=>∃ s0 ds d s',env[i]? = some s0∧fY s0=some ds∧ds.getLast? = some d∧cH s0 ds.dropLast=some s'∧R (.fr d) (env.set i s')
theorem DNs.dropLast:∀ {vs:List V}{ds:List PyData},DNs K N H vs ds→DNs K N H vs.dropLast ds.dropLast:=fun {vs ds} q=>by
 rw [List.dropLast_eq_take,List.dropLast_eq_take,q.len]
 exact q.take _
theorem xk (i:Nat) {y:Str}{apos cpos npos:Pos} (hK:X.K=K) (hN:X.N[i]? = some y)
  (hv:Vis X.env.scope y:=by first|exact Or.inl rfl|exact Or.inr (Or.inl rfl)|exact Or.inr (Or.inr rfl)) (hd:(y==("__debug__" : Str))=false:=by decide)
  (hcd:(y==("__classdict__" : Str))=false:=by decide)
  (hbase:attributeBase (.Name y npos) "pop" X.env (eval (.Name y npos) X.env)=eval (.Name y npos) X.env:=by rfl) (hline:(apos.endLine==cpos.line)=true:=by rfl) :
  PE X (.Call (.Attribute (.Name y npos) "pop" apos) [] [] cpos) (up K (CA i)) :=
 (Cg (K:=K) hK PySem.F.plainAttrs_list PySem.F.slot_list_pop PySem.F.type_list_pop vU (cU hN hv hd hcd) hbase hline).imp fun σ H Q h=>by
 obtain ⟨M,P,H0,σ0,env,ts,R,rel,⟨s0,ds,d,s',e0,o0,hl,es,hR⟩,hq⟩:=h
 obtain ⟨a,vs,ea,hH,q⟩:=rel.mine e0 o0
 have hn:ds.length - 1<ds.length:=by
  cases ds with
  | nil=>simp at hl
  | cons z r=>simp
 rw [List.getLast?_eq_getElem?] at hl
 have hlt:vs.length - 1<vs.length:=by rw[q.len];exact hn
 obtain ⟨d',h1,dn⟩:=q.get (D8 hlt)
 rw [q.len,hl] at h1
 cases h1
 refine ⟨.ref a,ea,.inl ⟨rfl,vs,SqL.of hH⟩,a,vs,vs[vs.length - 1],rfl,rfl,hH,D8 hlt,?_⟩
 have rel2:=rel.addFr dn
 have m:=rel2.mut (ds:=ds) (vs':=vs.dropLast) (ds':=ds.dropLast) e0 es ea (by
  have : Nw M (ay σ env (ts++[(vs[vs.length - 1],Sl.fr d)]))=Nw M (ay σ env ts):=by
   rw [aw]
   unfold Nw
   have:oas (ay σ env ts++tmp [(vs[vs.length - 1],Sl.fr d)])=oas (ay σ env ts):=by
    rw [ah]
    have:oas (tmp [(vs[vs.length - 1],Sl.fr d)])=[]:=by
     show oas [(some vs[vs.length - 1],Sl.fr d)]=[]
     rw [ak]
     cases vs[vs.length - 1] <;> rfl
    rw [this,EK]
   rw [this]
  rw [this]
  exact q.dropLast)
 exact hq _ _ _ _ hR m
end
section
variable {K:PySem.W.Frag}{M P N:Addr→Prop}{H0 H H':Hp}{E A B:List Ent}{σ0 σ:St}{env:List Sl}{ts tt:List (V×Sl)}{v:V}{s:Sl}{d:PyData}
end
noncomputable abbrev DSp:=List Sl→(Sl→List Sl→Prop)→Prop
noncomputable def kB:Sl→Bool
 | .fr _=>true
 | .ow _=>true
 | .tr _ _=>true
 | _=>false
noncomputable def sX (vs:List V) (ss:List Sl):Addr→Prop:=fun a=>a∈oas (tmp (vs.zip ss))
noncomputable def spD (K:PySem.W.Frag) (sp:DSp):Sp:=fun vs H Q _=>∃ (M:Addr→Prop) (ss:List Sl) (R:Sl→List Sl→Prop),vs.length=ss.length∧bq K M (sX vs ss) H (tmp (vs.zip ss)) H∧sp ss R ∧
 ∀ r ss' v H',R r ss'→kB r=true→bq K M (sX vs ss) H (tmp ((v,r)::vs.zip ss')) H'→Q v H'
section
variable {K:PySem.W.Frag}{M P N:Addr→Prop}{H0 H H':Hp}{E A B:List Ent}{σ0 σ:St}{env:List Sl}{ts tt:List (V×Sl)}{v:V}{s:Sl}{d:PyData}
theorem iM:∀ (vs:List V) (ds:List PyData),oas (tmp (vs.zip (ds.map Sl.fr)))=[]
 | [],_=>by simp[oas,tmp]
 | _::_,[]=>by simp[oas,tmp]
 | v::vs,d::ds=>by
  show oas ((some v,Sl.fr d)::tmp (vs.zip (ds.map Sl.fr)))=[]
  rw [ak,dg,iM vs ds]
  rfl
theorem fi {vs:List V}{ds:List PyData}{x:Option V}{s:Sl} (h:DNs K N H vs ds):(x,s)∈tmp (vs.zip (ds.map Sl.fr))→∃ v d,x=some v∧s=.fr d∧DN K N H v d:=DNs.ind (C:=fun vs ds=>(x,s)∈tmp (vs.zip (ds.map Sl.fr))→∃ v d,x=some v∧s=.fr d∧DN K N H v d) (fun m=>by simp[tmp] at m) (fun {v vs d ds} h _ i m=>by
  have m:(x,s)∈(some v,Sl.fr d)::tmp (vs.zip (ds.map Sl.fr)):=m
  rcases En.mp m with m|m
  ·cases m;exact⟨v,d,rfl,rfl,h⟩
  ·exact i m) h
inductive cS (K:PySem.W.Frag) (N:Addr→Prop) (Hc H':Hp):V→Sl→Prop
 | fr {v:V}{d:PyData}:DN K N H' v d→cS K N Hc H' v (.fr d)
 | ow {a:Addr}{vs:List V}{ds:List PyData}:H' a=some (.lst vs)→DNs K (fun b=>N b∨b=a) H' vs ds→Hc a=none→¬N a→cS K N Hc H' (.ref a) (.ow ds)
 | tr {v:V}{d:PyData}{S:List Addr}:OT K (fun b=>N b∨b∈S) H' v d S→(∀ a∈S,Hc a=none∧¬N a)→S.Nodup→cS K N Hc H' v (.tr S d)
theorem bq.resOk {Hc:Hp}{Pc:Addr→Prop}{r:Sl}{T:List Ent} (hc:bq K N Pc Hc ((some v,r)::T) H') (hr:kB r=true):cS K N Hc H' v r:=by
 cases r with
 | fr d =>
  obtain ⟨w,e,dn⟩:=hc.fr _ _ Eh
  cases e
  exact .fr (dn.to fun b _ _ z=>.inl z)
 | ow ds =>
  obtain ⟨a,vs,e,ha,dns,hn⟩:=hc.ow _ _ Eh
  cases e
  refine .ow ha (dns.to fun b _ _ z=>?_) hn fun z=>hc.mt a z hn
  rcases z with z|z
  ·exact .inl z
  ·rw [z]
   exact .inr (by rw[ak];exact Ec _ (Eb.mpr rfl))
 | tr S d =>
  obtain ⟨w,e,ot,hn⟩:=hc.tr _ _ _ Eh
  cases e
  refine .tr (ot.to fun b _ _ z=>?_) (fun a ha=>⟨hn a ha,fun z=>hc.mt a z (hn a ha)⟩) ?_
  ·rcases z with z|z
   ·exact .inl z
   ·exact .inr (by rw[ak,aL];exact Ec _ z)
  ·have nd:=hc.nd
   rw [ak,aL] at nd
   exact (Ei.mp nd).1
 | _=>cases hr
theorem cS.to {Hc:Hp}{r:Sl}{N2:Addr→Prop} (h:cS K N Hc H' v r) (m:∀ b,N2 b→N b):cS K N2 Hc H' v r:=by
 cases h with
 | fr dn=>exact .fr (dn.to fun b _ _ z=>m b z)
 | ow ha dns hn nn=>exact .ow ha (dns.to fun b _ _ z=>z.elim (fun z=>.inl (m b z)) .inr) hn fun z=>nn (m _ z)
 | tr ot hn nd=>exact .tr (ot.to fun b _ _ z=>z.elim (fun z=>.inl (m b z)) .inr) (fun a ha=>⟨(hn a ha).1,fun z=>(hn a ha).2 (m a z)⟩) nd
theorem cS.own {r:Sl}{Hc:Hp} (h:cS K N Hc H' v r):(∀ b∈cO (some v,r),Hc b=none∧¬N b)∧(cO (some v,r)).Nodup:=by
 cases h with
 | fr dn=>rw[dg];exact⟨fun b hb=>absurd hb EJ,Fr⟩
 | ow ha dns hn nN=>exact⟨fun b hb=>by rw[Eb.mp hb];exact⟨hn,nN⟩,EO.mpr ⟨by simp,Fr⟩⟩
 | tr ot hn nd=>rw[aL];exact⟨hn,nd⟩
theorem cS.frD {d:PyData}{Hc:Hp} (h:cS K N Hc H' v (.fr d)):DN K N H' v d:=by
 cases h with
 | fr dn=>exact dn
theorem cS.owD {ds:List PyData}{Hc:Hp} (h:cS K N Hc H' v (.ow ds)):∃ a vs,v=.ref a∧H' a=some (.lst vs)∧DNs K (fun b=>N b∨b=a) H' vs ds∧Hc a=none:=by
 cases h with
 | ow ha dns hn nN=>exact⟨_,_,rfl,ha,dns,hn⟩
theorem cS.ioD {ds:List PyData}{Hc:Hp} (h:cS K N Hc H' v (.io ds)):False:=by cases h
theorem cS.trD {d:PyData}{S:List Addr}{Hc:Hp} (h:cS K N Hc H' v (.tr S d)):OT K (fun b=>N b∨b∈S) H' v d S∧∀ a∈S,Hc a=none∧¬N a:=by
 cases h with
 | tr ot hn nd=>exact⟨ot,hn⟩
theorem bq.getRes {r:Sl} (h:bq K M P H0 E H') {Hc:Hp} (hlive:∀ b,H0 b≠none→Hc b≠none) (hres:cS K (Nw M E) Hc H' v r)
  (frs:∀ x d,(x,Sl.fr d)∈E→∃ w,x=some w∧DN K (fun b=>Nw M E b∨(b∈cO (some v,r)∧Hc b=none)) H' w d)
  (its:∀ x s ds,(x,s)∈E→fY s=some ds→∃ a vs,x=some (.ref a)∧H' a=some (.lst vs)∧DNs K (fun b=>Nw M E b∨(b∈cO (some v,r)∧Hc b=none)) H' vs ds)
  (ots:∀ x S d,(x,Sl.tr S d)∈E→∃ w,x=some w∧OT K (fun b=>Nw M E b∨(b∈cO (some v,r)∧Hc b=none)) H' w d S):bq K M P H0 (E++[(some v,r)]) H':=by
 obtain ⟨hown,hnod⟩:=hres.own
 have oe:oas (E++[(some v,r)])=oas E++cO (some v,r):=by
  rw [ah,ak]
  simp [oas]
 have up:∀ b,Nw M (E++[(some v,r)]) b→Nw M E b∨b∈cO (some v,r):=fun b z=>by
  rcases z with z|z
  ·exact .inl (.inl z)
  ·rw [oe] at z
   rcases Ed.mp z with z|z
   ·exact .inl (.inr z)
   ·exact .inr z
 have up2:∀ b,Nw M (E++[(some v,r)]) b→Nw M E b∨(b∈cO (some v,r)∧Hc b=none):=fun b z=>(up b z).elim .inl fun z=>.inr ⟨z,(hown b z).1⟩
 have h0:∀ b,Hc b=none→H0 b=none:=fun b hn=>by
  cases e:H0 b with
  | none=>rfl
  | some o=>exact absurd hn (hlive b (by rw[e];simp))
 refine ⟨h.keep,h.live,h.mt,h.pm,fun x d' m=>?_,fun x d' m=>?_,fun x d' m=>?_,fun x S d' m=>?_,?_⟩
 ·rcases Ed.mp m with m|m
  ·obtain ⟨w,e,dn⟩:=frs x d' m
   exact ⟨w,e,dn.to fun b _ _ z=>up2 b z⟩
  ·rw [Eb] at m
   obtain ⟨e1,rfl⟩:=Prod.mk.inj m
   exact ⟨v,e1,hres.frD.to fun b _ _ z=>(up b z).elim id fun z=>by rw[dg] at z;exact absurd z EJ⟩
 ·rcases Ed.mp m with m|m
  ·obtain ⟨b,us,e,e2,dn⟩:=its x _ d' m rfl
   obtain ⟨b',us',e',e2',_,r⟩:=h.ow x d' m
   rw [e] at e'
   cases e'
   exact ⟨b,us,e,e2,dn.to fun b _ _ z=>up2 b z,r⟩
  ·rw [Eb] at m
   obtain ⟨e1,rfl⟩:=Prod.mk.inj m
   obtain ⟨a,us,rfl,ha,dns,hn⟩:=hres.owD
   exact ⟨a,us,e1,ha,dns.to fun b _ _ z=>(up b z).elim .inl fun z=>.inr (Eb.mp z),h0 _ hn⟩
 ·rcases Ed.mp m with m|m
  ·obtain ⟨b,us,e,e2,dn⟩:=its x _ d' m rfl
   obtain ⟨b',us',e',e2',_,r⟩:=h.io x d' m
   rw [e] at e'
   cases e'
   exact ⟨b,us,e,e2,dn.to fun b _ _ z=>up2 b z,r⟩
  ·rw [Eb] at m
   obtain ⟨e1,rfl⟩:=Prod.mk.inj m
   exact hres.ioD.elim
 ·rcases Ed.mp m with m|m
  ·obtain ⟨w,e,dn⟩:=ots x S d' m
   obtain ⟨w',e',_,r⟩:=h.tr x S d' m
   exact ⟨w,e,dn.to fun b _ _ z=>up2 b z,r⟩
  ·rw [Eb] at m
   obtain ⟨e1,rfl⟩:=Prod.mk.inj m
   exact ⟨v,e1,hres.trD.1.to fun b _ _ z=>(up b z).elim .inl fun z=>.inr (by rw[aL] at z;exact z),fun a ha=>h0 _ (hres.trD.2 a ha).1⟩
 ·rw [oe]
  exact Ei.mpr ⟨h.nd,hnod,fun b hb c hc' z=>(hown c hc').2 (.inr (z▸hb))⟩
theorem DN.past {Hc:Hp}{N2:Addr→Prop} (h:DN K N Hc v d) (n2:∀ b,N2 b→N b∨Hc b=none) {Pc:Addr→Prop} (k:aS Pc Hc H') (hp:∀ b,Pc b→N2 b):DN K N2 H' v d :=
 (h.to fun b o e z=>(n2 b z).elim id fun z=>by rw[z] at e;cases e).keep (k.mono hp)
theorem DNs.past {Hc:Hp}{N2:Addr→Prop}{vs:List V}{ds:List PyData} (h:DNs K N Hc vs ds) (n2:∀ b,N2 b→N b∨Hc b=none) {Pc:Addr→Prop} (k:aS Pc Hc H') (hp:∀ b,Pc b→N2 b):DNs K N2 H' vs ds :=
 (h.to fun b o e z=>(n2 b z).elim id fun z=>by rw[z] at e;cases e).keep (k.mono hp)
theorem OT.past {Hc:Hp}{N2:Addr→Prop}{S:List Addr} (h:OT K N Hc v d S) (n2:∀ b,N2 b→N b∨Hc b=none) {Pc:Addr→Prop} (k:aS Pc Hc H') (hp:∀ b,Pc b→N2 b) (hs:∀ b∈S,¬Pc b):OT K N2 H' v d S :=
 (h.to fun b o e z=>(n2 b z).elim id fun z=>by rw[z] at e;cases e).keep (k.mono hp) fun a ha=>by
  obtain ⟨xs,z⟩:=h.lives a ha
  rw [k _ _ (hs a ha) z,z]
theorem bq.called {r:Sl} (h:bq K M P H0 E H) (k:a9 H H') (hres:cS K (Nw M E) H H' v r):bq K M P H0 (E++[(some v,r)]) H':=by
 refine (h.same k).getRes h.live hres (fun x d m=>?_) (fun x s ds m eo=>?_) fun x S d m=>?_
 rotate_right
 ·obtain ⟨w,e,dn,_⟩:=h.tr x S d m
  exact ⟨w,e,dn.past (fun b z=>z.elim .inl fun z=>.inr z.2) (aS.same (N:=N0) k) (fun b z=>z.elim) fun b _ z=>z.elim⟩
 ·obtain ⟨w,e,dn⟩:=h.fr x d m
  exact ⟨w,e,dn.past (fun b z=>z.elim .inl fun z=>.inr z.2) (aS.same (N:=N0) k) fun b z=>z.elim⟩
 ·cases s with
  | ow l =>
   cases eo
   obtain ⟨a,vs,e,e2,dn,_⟩:=h.ow x _ m
   exact ⟨a,vs,e,k _ _ e2,dn.past (fun b z=>z.elim .inl fun z=>.inr z.2) (aS.same (N:=N0) k) fun b z=>z.elim⟩
  | io l =>
   cases eo
   obtain ⟨a,vs,e,e2,dn,_⟩:=h.io x _ m
   exact ⟨a,vs,e,k _ _ e2,dn.past (fun b z=>z.elim .inl fun z=>.inr z.2) (aS.same (N:=N0) k) fun b z=>z.elim⟩
  | _=>cases eo
theorem Rel.withRes {r:Sl} (h:Rel K M P H0 σ0 σ env ts H) (e:bq K M P H0 (ay σ env ts++[(some v,r)]) H') (hr:kB r=true):Rel K M P H0 σ0 σ env (ts++[(v,r)]) H' :=
  ⟨by rw [aw];exact e,h.len,(fun w i m=>by
    rcases Ed.mp m with m|m
    · exact h.vw w i m
    · rw [Eb] at m
      cases m
      cases hr),h.ios⟩
noncomputable def sf (sp:DSp) (t:DA):DE:=fun env R=>t env fun ss env1=>∃ ds,aZ env1 ss=some ds∧sp (ds.map .fr) (dK (fun r _=>R r env1) ⟨⟩)
theorem wN {M':Addr→Prop}{vs:List V}{ds:List PyData} (dns:DNs K M' H vs ds) (hm:∀ a,M' a→H a≠none):bq K M' (sX vs (ds.map .fr)) H (tmp (vs.zip (ds.map .fr))) H:=by
 have oe:=iM vs ds
 have ne:∀ b,Nw M' (tmp (vs.zip (ds.map .fr))) b→M' b:=fun b z=>z.elim id fun z=>by rw[oe] at z;cases z
 refine ⟨aS.refl,fun a q=>q,hm,fun a z=>?_,fun x d m=>?_,fun x l m=>?_,fun x l m=>?_,fun x S l m=>?_,by rw[oe];exact Fr⟩
 rotate_right
 ·obtain ⟨w,d',e1,e2,dn⟩:=fi dns m
  cases e2
 ·have z:a∈oas (tmp (vs.zip (ds.map .fr))):=z
  rw [oe] at z
  cases z
 ·obtain ⟨w,d',e1,e2,dn⟩:=fi dns m
  cases e2
  exact ⟨w,e1,dn.to fun b _ _ z=>ne b z⟩
 ·obtain ⟨w,d',e1,e2,dn⟩:=fi dns m
  cases e2
 ·obtain ⟨w,d',e1,e2,dn⟩:=fi dns m
  cases e2
theorem yT {sp:DSp}{tl:DA}:∀ σ H Q,up K (sf sp tl) σ H Q→pE (spD K sp) [] E0 (upA K tl) σ H Q:=fun σ H Q h=>by
 obtain ⟨M,P,H0,σ0,env,ts,R,rel,ht,hq⟩:=h
 refine ⟨M,P,H0,σ0,env,ts,_,rel,ht,fun ss env1 vs H1 h1 hl rel1=>?_⟩
 obtain ⟨ds,ek,hsp⟩:=h1
 rw [EK]
 have dns:=rel1.keptAll hl (fun p hp=>hp) ek
 have oe:=iM vs ds
 refine ⟨Nw M (ay σ env1 ts),ds.map .fr,fun r _=>R r env1,by simp[dns.len],wN dns fun a z hn=>rel1.drop.newAddr hn z,hsp,fun r ss' v H' hR hr post=>hq _ _ _ _ hR ?_⟩
 have k:a9 H1 H':=(post.keep.mono (M:=N0) fun b z=>by
  have z:b∈oas (tmp (vs.zip (ds.map .fr))):=z
  rw [oe] at z
  cases z).none
 exact (rel1.drop).withRes (rel1.drop.e.called k (post.resOk hr)) hr
end
section
variable {K:PySem.W.Frag}{M P N:Addr→Prop}{H0 H H':Hp}{E A B:List Ent}{σ0 σ:St}{env:List Sl}{ts tt:List (V×Sl)}{v:V}{s:Sl}{d:PyData}
theorem dH (t:V×Sl) (ts:List (V×Sl)):tmp (t::ts)=(some t.1,t.2)::tmp ts:=rfl
theorem lE (ts tt:List (V×Sl)):tmp (ts++tt)=tmp ts++tmp tt:=by simp[tmp]
theorem jM {α β:Type}:∀ {l1:List α}{m1:List β} (x:α) (y:β) (l2:List α) (m2:List β),l1.length=m1.length→(l1++x::l2).zip (m1++y::m2)=l1.zip m1++(x,y)::l2.zip m2
 | [],[],_,_,_,_,_=>rfl
 | a::l1,b::m1,x,y,l2,m2,h=>by
  show (a,b)::(l1++x::l2).zip (m1++y::m2)=_
  rw [jM x y l2 m2 (by simpa using h)]
  rfl
 | [],_::_,_,_,_,_,h=>by simp at h
 | _::_,[],_,_,_,_,h=>by simp at h
theorem wM {M':Addr→Prop}{v1 v2 us:List V}{d1 d2 l:List PyData}{a:Addr} (q1:DNs K M' H v1 d1) (q2:DNs K M' H v2 d2) (hm:∀ a,M' a→H a≠none) (ha:M' a) (hH:H a=some (.lst us)) (ql:DNs K M' H us l) :
  oas (tmp ((v1++.ref a::v2).zip (d1.map .fr++.io l::d2.map .fr)))=[a] ∧
  bq K M' (sX (v1++.ref a::v2) (d1.map .fr++.io l::d2.map .fr)) H (tmp ((v1++.ref a::v2).zip (d1.map .fr++.io l::d2.map .fr))) H:=by
 have ez:(v1++.ref a::v2).zip (d1.map Sl.fr++.io l::d2.map .fr)=v1.zip (d1.map .fr)++(.ref a,.io l)::v2.zip (d2.map .fr):=jM _ _ _ _ (by simp[q1.len])
 have oe:oas (tmp ((v1++.ref a::v2).zip (d1.map .fr++.io l::d2.map .fr)))=[a]:=by
  rw [ez,lE,dH,ah,ak,iM,iM]
  rfl
 have ne:∀ b,Nw M' (tmp ((v1++.ref a::v2).zip (d1.map .fr++.io l::d2.map .fr))) b→M' b:=fun b z=>z.elim id fun z=>by rw[oe,Eb] at z;rw[z];exact ha
 have cs:∀ x s,(x,s)∈tmp ((v1++.ref a::v2).zip (d1.map .fr++.io l::d2.map .fr))→(∃ w d,x=some w∧s=.fr d∧DN K M' H w d)∨(x=some (.ref a)∧s=.io l):=fun x s m=>by
  rw [ez,lE,dH] at m
  rcases Ed.mp m with m|m
  ·exact .inl (fi q1 m)
  ·rcases En.mp m with m|m
   ·cases m;exact .inr ⟨rfl,rfl⟩
   ·exact .inl (fi q2 m)
 refine ⟨oe,aS.refl,fun a q=>q,hm,fun b z=>?_,fun x d m=>?_,fun x l' m=>?_,fun x l' m=>?_,fun x S l' m=>?_,by rw[oe];simp⟩
 rotate_right
 ·rcases cs x _ m with ⟨w,d',e1,e2,dn⟩|⟨_,e2⟩
  ·cases e2
  ·cases e2
 ·have z:b∈oas (tmp ((v1++.ref a::v2).zip (d1.map .fr++.io l::d2.map .fr))):=z
  rw [oe,Eb] at z
  rw [z];exact ha
 ·rcases cs x _ m with ⟨w,d',e1,e2,dn⟩|⟨_,e2⟩
  ·cases e2;exact⟨w,e1,dn.to fun b _ _ z=>ne b z⟩
  ·cases e2
 ·rcases cs x _ m with ⟨w,d',e1,e2,dn⟩|⟨_,e2⟩
  ·cases e2
  ·cases e2
 ·rcases cs x _ m with ⟨w,d',e1,e2,dn⟩|⟨e1,e2⟩
  ·cases e2
  ·cases e2
   exact ⟨a,us,e1,hH,ql.to fun b _ _ z=>ne b z,by show a∈oas _;rw[oe];simp⟩
theorem bq.lost {a:Addr}{l:List PyData} (h:bq K M P H0 (E++[(some (.ref a),.ow l)]) H) (k:aS (fun b=>b=a) H H') (lv:∀ b,H b≠none→H' b≠none):bq K M P H0 E H' ∧
  (∀ x d,(x,Sl.fr d)∈E→∃ w,x=some w∧∀ N2:Addr→Prop,(∀ b,N2 b→Nw M (E++[(some (.ref a),.ow l)]) b∨H b=none)→N2 a→DN K N2 H' w d) ∧
  (∀ x s ds,(x,s)∈E→fY s=some ds→∃ b vs,x=some (.ref b)∧H' b=some (.lst vs)∧∀ N2:Addr→Prop,(∀ b,N2 b→Nw M (E++[(some (.ref a),.ow l)]) b∨H b=none)→N2 a→DNs K N2 H' vs ds) ∧
  (∀ x S d,(x,Sl.tr S d)∈E→∃ w,x=some w∧∀ N2:Addr→Prop,(∀ b,N2 b→Nw M (E++[(some (.ref a),.ow l)]) b∨H b=none)→N2 a→OT K N2 H' w d S):=by
 have oe:oas (E++[(some (.ref a),Sl.ow l)])=oas E++[a]:=by
  rw [ah]
  rfl
 have nd:=h.nd
 rw [oe] at nd
 obtain ⟨n1,_,n3⟩:=Ei.mp nd
 have na:Nw M (E++[(some (.ref a),Sl.ow l)]) a:=.inr (by rw[oe];simp)
 obtain ⟨_,_,z,_,_,h0⟩:=h.ow _ _ (D9 _ Eh)
 cases z
 have sub:∀ b,Nw M E b→Nw M (E++[(some (.ref a),Sl.ow l)]) b:=fun b z=>dS z
 have kk:∀ b,b=a→Nw M (E++[(some (.ref a),Sl.ow l)]) b:=fun b z=>by rw[z];exact na
 have other:∀ b x s,(x,s)∈E→b∈cO (x,s)→b≠a:=fun b x s m eo z=>n3 b (aW.mpr ⟨_,m,eo⟩) a (by simp) z
 refine ⟨⟨?_,fun b q=>lv b (h.live b q),h.mt,h.pm,fun x d m=>?_,fun x d m=>?_,fun x d m=>?_,fun x S d m=>?_,n1⟩,fun x d m=>?_,fun x s ds m eo=>?_,fun x S d m=>?_⟩
 rotate_right
 ·obtain ⟨v,e,dn,r⟩:=h.tr x S d (Ec _ m)
  subst e
  exact ⟨v,rfl,fun N2 n2 n2a=>dn.past n2 k (fun b z=>by rw[z];exact n2a) fun b hb z=>other b _ _ m (by rw[aL];exact hb) z⟩
 rotate_right 3
 ·obtain ⟨v,e,dn,r⟩:=h.tr x S d (Ec _ m)
  subst e
  refine ⟨v,rfl,(dn.keep (k.mono kk) fun b hb=>?_).to fun b _ _ z=>sub b z,r⟩
  obtain ⟨xs,z⟩:=dn.lives b hb
  rw [k _ _ (other b _ _ m (by rw[aL];exact hb)) z,z]
 rotate_left 2
 ·intro b o np e
  refine k b o (fun z=>?_) (h.keep b o np e)
  rw [z,h0] at e
  cases e
 ·obtain ⟨v,e,dn⟩:=h.fr x d (Ec _ m)
  exact ⟨v,e,(dn.keep (k.mono kk)).to fun b _ _ z=>sub b z⟩
 ·obtain ⟨b,us,e,e2,dn,r⟩:=h.ow x d (Ec _ m)
  subst e
  exact ⟨b,us,rfl,k _ _ (other b _ _ m (Eb.mpr rfl)) e2,(dn.keep (k.mono kk)).to fun b _ _ z=>sub b z,r⟩
 ·obtain ⟨b,us,e,e2,dn,r⟩:=h.io x d (Ec _ m)
  subst e
  exact ⟨b,us,rfl,k _ _ (other b _ _ m (Eb.mpr rfl)) e2,(dn.keep (k.mono kk)).to fun b _ _ z=>sub b z,r⟩
 ·obtain ⟨v,e,dn⟩:=h.fr x d (Ec _ m)
  exact ⟨v,e,fun N2 n2 n2a=>dn.past n2 k fun b z=>by rw[z];exact n2a⟩
 ·cases s with
  | ow l' =>
   cases eo
   obtain ⟨b,us,e,e2,dn,r⟩:=h.ow x _ (Ec _ m)
   subst e
   exact ⟨b,us,rfl,k _ _ (other b _ _ m (Eb.mpr rfl)) e2,fun N2 n2 n2a=>dn.past n2 k fun b z=>by rw[z];exact n2a⟩
  | io l' =>
   cases eo
   obtain ⟨b,us,e,e2,dn,r⟩:=h.io x _ (Ec _ m)
   subst e
   exact ⟨b,us,rfl,k _ _ (other b _ _ m (Eb.mpr rfl)) e2,fun N2 n2 n2a=>dn.past n2 k fun b z=>by rw[z];exact n2a⟩
  | _=>cases eo
noncomputable def om (sp:DSp) (t:DA):DE:=fun env R=>t env fun ss env1=>∃ l ss' ds,ss=.ow l::ss'∧aZ env1 ss'=some ds∧sp (.io l::ds.map .fr) (dK (fun r _=>R r env1) ⟨⟩)
theorem u9 {sp:DSp}{tl:DA}:∀ σ H Q,up K (om sp tl) σ H Q→pE (spD K sp) [] E0 (upA K tl) σ H Q:=fun σ H Q h=>by
 obtain ⟨M,P,H0,σ0,env,ts,R,rel,ht,hq⟩:=h
 refine ⟨M,P,H0,σ0,env,ts,_,rel,ht,fun ss env1 vs H1 h1 hl rel1=>?_⟩
 obtain ⟨l,ss',ds,rfl,ek,hsp⟩:=h1
 rw [EK]
 obtain ⟨v1,vs',rfl⟩:=Ca hl
 have rel1':Rel K M P H0 σ0 σ env1 ((ts++[(v1,.ow l)])++vs'.zip ss') H1:=by simpa using rel1
 have dns:=rel1'.keptAll (by simpa using hl) (fun p hp=>hp) ek
 have relT:=rel1'.drop
 have hE:=relT.e
 rw [aw] at hE
 obtain ⟨a,us,ea,hH,ql,h0⟩:=hE.ow (some v1) l (D9 _ (by simp[tmp]))
 cases ea
 have hE:bq K M P H0 (ay σ env1 ts++[(some (.ref a),.ow l)]) H1:=hE
 have eqN:Nw M (ay σ env1 (ts++[(.ref a,.ow l)]))=Nw M (ay σ env1 ts++[(some (.ref a),.ow l)]):=by rw[aw];rfl
 rw [eqN] at dns
 have ma:Nw M (ay σ env1 ts++[(some (.ref a),.ow l)]) a:=.inr (by rw[ah];exact D9 _ (aW.mpr ⟨_,Eb.mpr rfl,Eb.mpr rfl⟩))
 have arg:=wM (v1:=[]) (d1:=[]) (l:=l) (us:=us) (a:=a) (K:=K) (M':=Nw M (ay σ env1 ts++[(some (.ref a),.ow l)])) (H:=H1) .nil dns (fun b z hn=>relT.newAddr hn (by rw[eqN];exact z)) ma hH ql
 refine ⟨_,.io l::ds.map .fr,fun r _=>R r env1,by simp[dns.len],arg.2,hsp,fun r ss2 v H' hR hr post=>hq _ _ _ _ hR ?_⟩
 have k:aS (fun b=>b=a) H1 H':=post.keep.mono fun b z=>by
  have z:b∈oas (tmp ((.ref a::vs').zip (.io l::ds.map .fr))):=z
  have oe:=arg.1
  simp only [List.nil_append,FQ] at oe
  rw [oe,Eb] at z
  exact z
 obtain ⟨rel',f1,f2,f3⟩:=hE.lost k post.live
 have rk:=post.resOk hr
 have rk':cS K (Nw M (ay σ env1 ts)) H1 H' v r:=rk.to fun b z=>dS z
 have n2:∀ b,((Nw M (ay σ env1 ts) b∨(b∈cO (some v,r)∧H1 b=none))∨b=a)→Nw M (ay σ env1 ts++[(some (.ref a),.ow l)]) b∨H1 b=none:=fun b z=>by
  rcases z with (z|z)|z
  ·exact .inl (dS z)
  ·exact .inr z.2
  ·rw [z];exact .inl ma
 refine relT.drop.withRes ?_ hr
 refine rel'.getRes relT.e.live rk' (fun x d m=>?_) (fun x s ds' m eo=>?_) fun x S d m=>?_
 rotate_right
 ·obtain ⟨w,e,f⟩:=f3 x S d m
  exact ⟨w,e,(f (fun b=>(Nw M (ay σ env1 ts) b∨(b∈cO (some v,r)∧H1 b=none))∨b=a) n2 (.inr rfl)).to fun b _ _ z=>.inl z⟩
 ·obtain ⟨w,e,f⟩:=f1 x d m
  exact ⟨w,e,(f (fun b=>(Nw M (ay σ env1 ts) b∨(b∈cO (some v,r)∧H1 b=none))∨b=a) n2 (.inr rfl)).to fun b _ _ z=>.inl z⟩
 ·obtain ⟨b,us',e,e2,f⟩:=f2 x s ds' m eo
  exact ⟨b,us',e,e2,(f (fun b=>(Nw M (ay σ env1 ts) b∨(b∈cO (some v,r)∧H1 b=none))∨b=a) n2 (.inr rfl)).to fun b _ _ z=>.inl z⟩
noncomputable def kY (sp:DSp) (m:Nat) (t:DA):DE:=fun env R=>t env fun ss env1=>∃ i s0 l d1 d2,ss[m]? = some (.vw i)∧env1[i]? = some s0∧fY s0=some l∧aZ env1 (ss.take m)=some d1∧aZ env1 (ss.drop (m+1))=some d2 ∧
 sp (d1.map .fr++.io l::d2.map .fr) (dK (fun r as=>∃ l' s',as[m]? = some (.io l')∧cH s0 l'=some s'∧R r (env1.set i s')) ⟨⟩)
theorem tz {α β:Type} (l:List α) (m:List β) (n:Nat):∀ p∈(l.take n).zip (m.take n),p∈l.zip m:=fun p hp=>by
 rw [List.zip,←List.take_zipWith] at hp
 exact List.mem_of_mem_take hp
theorem uO {α β:Type} (l:List α) (m:List β) (n:Nat):∀ p∈(l.drop n).zip (m.drop n),p∈l.zip m:=fun p hp=>by
 rw [List.zip,←List.drop_zipWith] at hp
 exact List.mem_of_mem_drop hp
theorem A8 {α:Type}{l:List α}{m:Nat}{x:α} (h:l[m]? = some x):l=l.take m++x::l.drop (m+1):=by
 obtain ⟨hm,e⟩:=Ef.mp h
 rw [←e,List.getElem_cons_drop,List.take_append_drop]
theorem vc {sp:DSp}{m:Nat}{tl:DA}:∀ σ H Q,up K (kY sp m tl) σ H Q→pE (spD K sp) [] E0 (upA K tl) σ H Q:=fun σ H Q h=>by
 obtain ⟨M,P,H0,σ0,env,ts,R,rel,ht,hq⟩:=h
 refine ⟨M,P,H0,σ0,env,ts,_,rel,ht,fun ss env1 vs H1 h1 hl rel1=>?_⟩
 obtain ⟨i,s0,l,d1,d2,em,ei,eo,k1,k2,hsp⟩:=h1
 rw [EK]
 have relT:=rel1.drop
 obtain ⟨a,us,ea,hH,ql⟩:=relT.mine ei eo
 have hm:m<ss.length:=(Ef.mp em).1
 have hmv:m<vs.length:=by omega
 have va:vs[m]? = some (.ref a):=by
  have mz:(vs[m],ss[m])∈vs.zip ss:=by
   have hz:m<(vs.zip ss).length:=by rw[E8];omega
   have:=EA hz
   rwa [Fj] at this
  rw [(Ef.mp em).2] at mz
  have q:=rel1.vw _ _ (D9 _ mz)
  rw [ea] at q
  rw [D8 hmv]
  exact congrArg some (Option.some.inj (Option.some.inj q)).symm
 have ev:=A8 va
 have q1:=rel1.keptAll (vs:=vs.take m) (ss:=ss.take m) (by simp;omega) (tz _ _ _) k1
 have q2:=rel1.keptAll (vs:=vs.drop (m+1)) (ss:=ss.drop (m+1)) (by simp;omega) (uO _ _ _) k2
 have hE:=relT.e
 have ma:Nw M (ay σ env1 ts) a:=by
  obtain ⟨x,e1,mm⟩:=relT.slot ei
  rw [ea] at e1
  cases e1
  refine .inr (aW.mpr ⟨_,mm,?_⟩)
  exact (ny eo).2 a
 have arg:=wM (l:=l) (us:=us) (a:=a) q1 q2 (fun b z hn=>relT.newAddr hn z) ma hH ql
 rw [←ev] at arg
 have ld1:=q1.len
 have ld2:=q2.len
 refine ⟨_,d1.map .fr++.io l::d2.map .fr,_,?_,arg.2,hsp,fun r ss2 v H' hR hr post=>?_⟩
 ·rw [ev]
  simp only [Ew,ES,D7]
  omega
 obtain ⟨l',s',e2,es,hR⟩:=hR
 refine hq _ _ _ _ hR ?_
 have k:aS (fun b=>b=a) H1 H':=post.keep.mono fun b z=>by
  have z:b∈oas (tmp (vs.zip (d1.map .fr++.io l::d2.map .fr))):=z
  rw [arg.1,Eb] at z
  exact z
 have mp:((some (.ref a),.io l'):Ent)∈tmp ((v,r)::vs.zip ss2):=by
  rw [dH]
  refine Ej _ (Em.mpr ⟨(.ref a,.io l'),?_,rfl⟩)
  have h2:m<ss2.length:=(Ef.mp e2).1
  have hz:m<(vs.zip ss2).length:=by rw[E8];omega
  have:=EA hz
  rw [Fj,(Ef.mp va).2,(Ef.mp e2).2] at this
  exact this
 obtain ⟨a',us',z,hH',ql',_⟩:=post.io _ _ mp
 cases z
 obtain ⟨x,A,B,e3,sp1,sp2⟩:=relT.split ei
 rw [ea] at e3
 cases e3
 have iso:yg s0 l' s':=(iG es).1
 rw [sp1] at hE
 have dnl:DNs K (Nw M (A++(some (.ref a),s0)::B)) H' us' l':=ql'.to fun b _ _ z=>.inl (by rw[sp1];exact z)
 have hM:=hE.muted iso k post.live hH' dnl
 have neq:Nw M (ay σ (env1.set i s') ts)=Nw M (ay σ env1 ts):=by
  rw [sp1,sp2]
  have oa:cO (some (.ref a),s0)=[a]∧cO (some (.ref a),s')=[a]:=by
   exact eR iso
  unfold Nw
  rw [ah,ah,ak,ak,oa.1,oa.2]
 rw [←sp2] at hM
 have rk:cS K (Nw M (ay σ (env1.set i s') ts)) H1 H' v r:=by rw[neq];exact post.resOk hr
 have relB:Rel K M P H0 σ0 σ (env1.set i s') ts H':=⟨hM,by simp[relT.len],relT.vw,fun j ds'' e'=>by
  by_cases hj:i=j
  ·subst hj
   have hi:i<env1.length:=(Ef.mp ei).1
   rw [EG hi] at e'
   cases e'
   obtain ⟨ds0,rfl⟩:=p8 es
   exact relT.ios i ds0 ei
  ·rw [EF hj] at e'
   exact relT.ios j ds'' e'⟩
 refine relB.withRes ?_ hr
 have old:∀ x t,(x,t)∈ay σ (env1.set i s') ts→(x,t)=(some (.ref a),s')∨((x,t)∈A∨(x,t)∈B):=fun x t m=>by
  rw [sp2] at m
  rcases Ed.mp m with m|m
  ·exact .inr (.inl m)
  ·rcases En.mp m with m|m
   ·exact .inl m
   ·exact .inr (.inr m)
 have back:∀ x t,(x,t)∈A∨(x,t)∈B→(x,t)∈A++(some (.ref a),s0)::B:=fun x t m=>by
  rcases m with m|m
  ·exact Ec _ m
  ·exact D9 _ (Ej _ m)
 have n2:∀ b,(Nw M (ay σ (env1.set i s') ts) b∨(b∈cO (some v,r)∧H1 b=none))→Nw M (A++(some (.ref a),s0)::B) b∨H1 b=none:=fun b z=>by
  rw [neq,sp1] at z
  exact z.elim .inl fun z=>.inr z.2
 have pa:∀ b,b=a→(Nw M (ay σ (env1.set i s') ts) b∨(b∈cO (some v,r)∧H1 b=none)):=fun b z=>by rw[z,neq];exact .inl ma
 have oa0:cO (some (.ref a),s0)=[a]:=(eR iso).1
 have nd:=hE.nd
 rw [ah,ak,oa0] at nd
 obtain ⟨_,nd2,nd3⟩:=Ei.mp nd
 obtain ⟨nd4,_⟩:=EO.mp nd2
 have other:∀ x t b,(x,t)∈A∨(x,t)∈B→b∈cO (x,t)→b≠a:=fun x t b m eo z=>by
  subst z
  rcases m with m|m
  ·exact nd3 b (aW.mpr ⟨_,m,eo⟩) b Eh rfl
  ·exact nd4 (aW.mpr ⟨_,m,eo⟩)
 refine hM.getRes relT.e.live rk (fun x d mm=>?_) (fun x t ds' mm eo'=>?_) fun x S d mm=>?_
 rotate_right
 ·rcases old _ _ mm with mm|mm
  ·rcases cP iso with ⟨_,_,e⟩|⟨_,_,e⟩ <;> (rw[e] at mm;cases mm)
  ·obtain ⟨w,e,dn,_⟩:=hE.tr x S d (back _ _ mm)
   subst e
   exact ⟨w,rfl,dn.past n2 k pa fun b hb z=>other _ _ b mm (by rw[aL];exact hb) z⟩
 ·rcases old _ _ mm with mm|mm
  ·rcases cP iso with ⟨_,_,e⟩|⟨_,_,e⟩ <;> (rw[e] at mm;cases mm)
  ·obtain ⟨w,e,dn⟩:=hE.fr x d (back _ _ mm)
   exact ⟨w,e,dn.past n2 k pa⟩
 ·rcases old _ _ mm with mm|mm
  ·cases mm
   have el:ds'=l':=Option.some.inj (eo'.symm.trans (iG es).2)
   subst el
   refine ⟨a,us',rfl,hH',ql'.to fun b _ _ z=>?_⟩
   rcases z with z|z
   ·exact .inl (by rw[←neq];exact z)
   ·exact .inr (by rw[dH,ak];exact Ec _ z.1)
  ·cases t with
   | ow l2 =>
    cases eo'
    obtain ⟨b,us2,e,e2',dn,_⟩:=hE.ow x _ (back _ _ mm)
    subst e
    exact ⟨b,us2,rfl,k _ _ (other _ _ b mm (Eb.mpr rfl)) e2',dn.past n2 k pa⟩
   | io l2 =>
    cases eo'
    obtain ⟨b,us2,e,e2',dn,_⟩:=hE.io x _ (back _ _ mm)
    subst e
    exact ⟨b,us2,rfl,k _ _ (other _ _ b mm (Eb.mpr rfl)) e2',dn.past n2 k pa⟩
   | _=>cases eo'
end
structure mG where
 nx : List Sl→Prop
 rt : Sl→List Sl→Prop
 bk : List Sl→Prop:=fun _=>False
 ct : List Sl→Prop:=fun _=>False
noncomputable abbrev DS:=mG→List Sl→Prop
noncomputable def vk (ts:List (V×Sl)):Prop:=∀ v i,(v,Sl.vw i) ∉ ts
structure Bb (K:PySem.W.Frag) (M P:Addr→Prop) (H0:Hp) (σ0:St) (ts:List (V×Sl)) (DD:mG) (D:sU):Prop where
 nx : ∀ σ' env' H',DD.nx env'→Rel K M P H0 σ0 σ' env' ts H'→D.nx σ' H'
 rt : ∀ s env' v σ' H',DD.rt s env'→Rel K M P H0 σ0 σ' env' (ts++[(v,s)]) H'→D.rt v H'
 bk : ∀ σ' env' H',DD.bk env'→Rel K M P H0 σ0 σ' env' ts H'→D.bk σ' H'
 ct : ∀ σ' env' H',DD.ct env'→Rel K M P H0 σ0 σ' env' ts H'→D.ct σ' H'
inductive upS (K:PySem.W.Frag) (t:DS) (D:sU) (σ:St) (H:Hp):Prop
 | mk (M P:Addr→Prop) (H0:Hp) (σ0:St) (env:List Sl) (ts:List (V×Sl)) (DD:mG):vk ts→Rel K M P H0 σ0 σ env ts H→t DD env→Bb K M P H0 σ0 ts DD D→upS K t D σ H
theorem PS.imp {X:Cx}{e:Stmt}{t t':TS} (h:PS X e t) (k:∀ D σ H,t' D σ H→t D σ H):PS X e t':=fun pins s σ H D I hw=>h pins s σ H D I (k D σ H hw)
theorem PSs.imp {X:Cx}{e:List Stmt}{t t':TS} (h:PSs X e t) (k:∀ D σ H,t' D σ H→t D σ H):PSs X e t':=fun pins s σ H D I hw=>h pins s σ H D I (k D σ H hw)
section
variable {K:PySem.W.Frag}{M P N:Addr→Prop}{H0 H H':Hp}{σ0 σ:St}{env:List Sl}{ts tt:List (V×Sl)}{v:V}{s:Sl}{d:PyData}
noncomputable def ia (env:List Sl):Sl→Option Sl
 | .fr d=>some (.fr d)
 | .ow ds=>some (.ow ds)
 | .tr S d=>some (.tr S d)
 | .vw i=>((env[i]?).bind slK).map .fr
 | _=>none
theorem Rel.unVw (h:Rel K M P H0 σ0 σ env (ts++[(v,s)]) H) {s':Sl} (e:ia env s=some s'):Rel K M P H0 σ0 σ env (ts++[(v,s')]) H∧kB s'=true:=by
 cases s with
 | fr d=>cases e;exact⟨h,rfl⟩
 | ow ds=>cases e;exact⟨h,rfl⟩
 | tr S d=>cases e;exact⟨h,rfl⟩
 | vw i =>
  have e:((env[i]?).bind slK).map Sl.fr=some s':=e
  cases q:(env[i]?).bind slK with
  | none=>rw[q] at e;cases e
  | some d =>
   rw [q] at e
   cases e
   exact ⟨h.drop.addFr (h.kept (tt:=[(v,.vw i)]) (s:=.vw i) (by simp) q),rfl⟩
 | _=>cases e
theorem s9 {σ:St}{env:List Sl}{i:Nat}{x:Option V}{s':Sl}:(σ.set i x).zip (env.set i s')=(σ.zip env).set i (x,s'):=by
 apply List.ext_getElem?
 intro j
 rw [dw]
 by_cases hj:i=j
 ·subst hj
  rw [FA,FA,FA,dw]
  cases σ[i]? <;> cases env[i]? <;> rfl
 ·rw [EF hj,EF hj,EF hj,dw]
theorem Rel.store (h:Rel K M P H0 σ0 σ env (ts++[(v,s)]) H) (nv:vk ts) {i:Nat} (hi:i<env.length) (hs:kB s=true):Rel K M P H0 σ0 (σ.set i (some v)) (env.set i s) ts H:=by
 have hiz:i<(σ.zip env).length:=by rw[E8,h.len];omega
 obtain ⟨A,B,q1,q2⟩:=eM (D8 hiz)
 refine ⟨?_,by simp[h.len],fun w j m=>absurd m (nv w j),fun j ds e=>?_⟩
 ·have hE:=h.e
  unfold ay at hE ⊢
  rw [q1,lE,Ff] at hE
  rw [s9,q2,Ff]
  have e2:((σ.zip env)[i]::B)++(tmp ts++tmp [(v,s)])=(σ.zip env)[i]::((B++tmp ts)++[(some v,s)]):=by simp[tmp]
  rw [e2] at hE
  have:=hE.move
  simpa using this
 ·by_cases hj:i=j
  ·subst hj
   rw [EG hi] at e
   cases e
   cases hs
  ·rw [EF hj] at e
   rw [EF hj]
   exact h.ios j ds e
end
section
variable {X:Cx}{K:PySem.W.Frag}{pos:Pos}{st:Stmt}{dc a b:List Stmt}{t u:DS}{e c:Expr}{te:DE}{tc:DT}
noncomputable def yL:DS:=fun DD env=>DD.nx env
noncomputable def A3 (t u:DS):DS:=fun DD env=>t { DD with nx:=u DD } env
noncomputable def DW (t u:DS):DS:=fun DD env=>∃ R:List Sl→Prop,t { DD with nx:=dI R ⟨⟩ } env∧∀ env',R env'→u DD env'
theorem bw:PSs X [] (upS K yL):=xu.imp fun D σ H h=>by
 obtain ⟨M,P,H0,σ0,env,ts,DD,nv,rel,ht,ok⟩:=h
 exact ok.nx _ _ _ ht rel
theorem bz (h1:PS X st (upS K t)) (h2:PSs X dc (upS K u)):PSs X (st::dc) (upS K (A3 t u)):=(tS h1 h2).imp fun D σ H h=>by
 obtain ⟨M,P,H0,σ0,env,ts,DD,nv,rel,ht,ok⟩:=h
 exact ⟨M,P,H0,σ0,env,ts,_,nv,rel,ht,⟨fun σ' env' H' q r=>⟨M,P,H0,σ0,env',ts,DD,nv,r,q,ok⟩,ok.rt,ok.bk,ok.ct⟩⟩
theorem vN (h1:PS X st (upS K t)) (h2:PSs X dc (upS K u)):PSs X (st::dc) (upS K (DW t u)):=(xw h1 h2).imp fun D σ H h=>by
 obtain ⟨M,P,H0,σ0,env,ts,DD,nv,rel,⟨R,ht,hR⟩,ok⟩:=h
 exact ⟨fun σ' H'=>∃ env',R env'∧Rel K M P H0 σ0 σ' env' ts H',⟨M,P,H0,σ0,env,ts,_,nv,rel,ht,⟨fun σ' env' H' q r=>⟨env',q,r⟩,ok.rt,ok.bk,ok.ct⟩⟩,
  fun σ' H' ⟨env',q,r⟩=>⟨M,P,H0,σ0,env',ts,DD,nv,r,hR env' q,ok⟩⟩
theorem ai (h1:PS X st (upS K t)):PSs X [st] (upS K t):=xt h1
noncomputable def yQ:DS:=fun DD env=>DD.ct env
theorem oM:PS X (.Continue pos) (upS K yQ):=lN.imp fun D σ H h=>by
 obtain ⟨M,P,H0,σ0,env,ts,DD,nv,rel,ht,ok⟩:=h
 exact ok.ct _ _ _ ht rel
noncomputable def r9 (te:DE):DS:=fun DD env=>te env fun _ env1=>DD.nx env1
theorem dD (he:PE X e (up K te)) (hs:swapsWith e none pos.line X.env=pure false:=by rfl):PS X (.Expr e pos) (upS K (r9 te)):=(xx he hs).imp fun D σ H h=>by
 obtain ⟨M,P,H0,σ0,env,ts,DD,nv,rel,ht,ok⟩:=h
 exact ⟨M,P,H0,σ0,env,ts,_,rel,ht,fun s1 env1 v1 H1 h1 rel1=>ok.nx _ _ _ h1 rel1.drop⟩
noncomputable def A4 (te:DE):DS:=fun DD env=>te env DD.rt
theorem aU (he:PE X e (up K te)):PS X (.Return (some e) pos) (upS K (A4 te)):=(zT he).imp fun D σ H h=>by
 obtain ⟨M,P,H0,σ0,env,ts,DD,nv,rel,ht,ok⟩:=h
 exact ⟨M,P,H0,σ0,env,ts,_,rel,ht,fun s1 env1 v1 H1 h1 rel1=>ok.rt _ _ _ _ _ h1 rel1⟩
noncomputable def Bw (c:DT) (t u:DS):DS:=fun DD env=>c env fun k env1=>if k=true then t DD env1 else u DD env1
theorem fW (hc:PT X c (upT K tc)) (ha:PSs X a (upS K t)) (hb:PSs X b (upS K u)):PS X (.If c a b pos) (upS K (Bw tc t u)):=(B1 hc ha hb).imp fun D σ H h=>by
 obtain ⟨M,P,H0,σ0,env,ts,DD,nv,rel,ht,ok⟩:=h
 refine ⟨M,P,H0,σ0,env,ts,_,rel,ht,fun k env1 H1 h1 rel1=>?_⟩
 cases k with
 | true=>exact⟨M,P,H0,σ0,env1,ts,DD,nv,rel1,h1,ok⟩
 | false=>exact⟨M,P,H0,σ0,env1,ts,DD,nv,rel1,h1,ok⟩
noncomputable def wx (i:Nat) (te:DE):DS:=fun DD env=>te env fun s env1=>∃ s',i<env1.length∧ia env1 s=some s'∧DD.nx (env1.set i s')
theorem aV {i:Nat}{x:Str}{pos':Pos} (hN:X.N.Nodup) (hi:X.N[i]? = some x) (hx:Loc X.env.scope x) (he:PE X e (up K te)) (hs:swapsWith e (some (.Name x pos')) pos.line X.env=pure false:=by rfl) (hf:X.fn x=true∨X.env.scope.names.lookup x=some .local:=by first|exact .inl rfl|exact .inr rfl|assumption):PS X (.Assign [.Name x pos'] e pos) (upS K (wx i te)) :=
 (zS hN hi hx he hs hf).imp fun D σ H h=>by
 obtain ⟨M,P,H0,σ0,env,ts,DD,nv,rel,ht,ok⟩:=h
 refine ⟨M,P,H0,σ0,env,ts,_,rel,ht,fun s1 env1 v1 H1 h1 rel1=>?_⟩
 obtain ⟨s',hl,es,hR⟩:=h1
 obtain ⟨r,cs⟩:=rel1.unVw es
 exact ok.nx _ _ _ hR (r.store nv hl cs)
end
noncomputable abbrev DG:=PyData→List Sl→(List Sl→Prop)→Prop
noncomputable abbrev DGs:=List PyData→List Sl→(List Sl→Prop)→Prop
inductive upG (K:PySem.W.Frag) (g:DG) (v:V) (σ:St) (H:Hp) (Q:St→Hp→Prop):Prop
 | mk (M P:Addr→Prop) (H0:Hp) (σ0:St) (env:List Sl) (ts:List (V×Sl)) (d:PyData) (R:List Sl→Prop):vk ts→Rel K M P H0 σ0 σ env ts H→DN K (Nw M (ay σ env ts)) H v d→g d env R →
 (∀ σ' env' H',R env'→Rel K M P H0 σ0 σ' env' ts H'→Q σ' H')→upG K g v σ H Q
inductive zm (K:PySem.W.Frag) (g:DGs) (vs:List V) (σ:St) (H:Hp) (Q:St→Hp→Prop):Prop
 | mk (M P:Addr→Prop) (H0:Hp) (σ0:St) (env:List Sl) (ts:List (V×Sl)) (ds:List PyData) (R:List Sl→Prop):vk ts→Rel K M P H0 σ0 σ env ts H→DNs K (Nw M (ay σ env ts)) H vs ds→g ds env R →
 (∀ σ' env' H',R env'→Rel K M P H0 σ0 σ' env' ts H'→Q σ' H')→zm K g vs σ H Q
theorem PG.imp {X:Cx}{e:Expr}{t t':TG} (h:PG X e t) (k:∀ v σ H Q,t' v σ H Q→t v σ H Q):PG X e t':=fun pins s σ H v u Q I r hw=>h pins s σ H v u Q I r (k v σ H Q hw)
theorem PGs.imp {X:Cx}{e:List Expr}{t t':TGs} (h:PGs X e t) (k:∀ v σ H Q,t' v σ H Q→t v σ H Q):PGs X e t':=fun pins s σ H v u Q I r hw=>h pins s σ H v u Q I r (k v σ H Q hw)
section
variable {K:PySem.W.Frag}{M P N:Addr→Prop}{H0 H H':Hp}{σ0 σ:St}{env:List Sl}{ts tt kp:List (V×Sl)}{v:V}{s:Sl}{d:PyData}{X:Cx}{pos:Pos}{e:Expr}{es:List Expr}
theorem qS (v:V) (d:PyData):oas (tmp [(v,Sl.fr d)])=[]:=by
 show oas [(some v,Sl.fr d)]=[]
 rw [ak]
 cases v <;> rfl
theorem t9 {E:List Ent}{v:V}{d:PyData}:Nw M (E++tmp [(v,Sl.fr d)])=Nw M E:=by
 unfold Nw
 rw [ah,qS,EK]
noncomputable def nY (i:Nat):DG:=fun d env R=>i<env.length∧R (env.set i (.fr d))
theorem al {i:Nat}{x:Str} (hN:X.N.Nodup) (hi:X.N[i]? = some x) (hx:Loc X.env.scope x) (hf:X.fn x=true∨X.env.scope.names.lookup x=some .local:=by first|exact .inl rfl|exact .inr rfl|assumption):PG X (.Name x pos) (upG K (nY i)) :=
 (xG hN hi hx hf).imp fun v σ H Q h=>by
 obtain ⟨M,P,H0,σ0,env,ts,d,R,nv,rel,dn,⟨hl,hR⟩,hq⟩:=h
 exact hq _ _ _ hR ((rel.addFr dn).store nv hl rfl)
noncomputable def yD:DGs:=fun ds env R=>ds=[]∧R env
noncomputable def rO (g:DG) (gs:DGs):DGs:=fun ds env R=>∃ d r,ds=d::r∧g d env fun env1=>gs r env1 R
theorem dY:PGs X [] (zm K yD):=xF.imp fun v σ H Q h=>by
 obtain ⟨M,P,H0,σ0,env,ts,ds,R,nv,rel,dn,⟨rfl,hR⟩,hq⟩:=h
 cases dn
 exact ⟨rfl,hq _ _ _ hR rel⟩
theorem nI (env:List Sl):∀ ds:List PyData,aZ env (ds.map .fr)=some ds
 | []=>rfl
 | d::ds=>by
  show (aI env (Sl.fr d)).bind _=_
  rw [nI env ds]
  rfl
theorem xY (vs:List V) (ds:List PyData) (nv:vk ts):vk (ts++vs.zip (ds.map .fr)):=fun w i m=>by
 rcases Ed.mp m with m|m
 ·exact nv w i m
 ·obtain ⟨d,_,e⟩:=Em.mp (FJ m).2
  cases e
theorem Rel.addFrs:∀ {vs:List V}{ds:List PyData}{ts:List (V×Sl)},Rel K M P H0 σ0 σ env ts H→DNs K (Nw M (ay σ env ts)) H vs ds→Rel K M P H0 σ0 σ env (ts++vs.zip (ds.map .fr)) H
 | _,_,ts,rel,.nil=>by simpa using rel
 | _,_,ts,rel,@DNs.cons _ _ _ v vs d ds h q=>by
  have r:=rel.addFr h
  have q':DNs K (Nw M (ay σ env (ts++[(v,.fr d)]))) H vs ds:=q.to fun b _ _ z=>by rw[aw,t9] at z;exact z
  have:=Rel.addFrs r q'
  simpa using this
theorem be {g:DG}{gs:DGs} (h1:PG X e (upG K g)) (h2:PGs X es (zm K gs)) (hs:(assignEach (e::es) X.env).map (·.2)=assign e X.env::(assignEach es X.env).map (·.2):=by rfl):PGs X (e::es) (zm K (rO g gs)) :=
 (tV h1 h2 hs).imp fun vs σ H Q h=>by
 obtain ⟨M,P,H0,σ0,env,ts,ds,R,nv,rel,dn,⟨d,r,rfl,hg⟩,hq⟩:=h
 cases dn with
 | @cons v vs _ _ h q =>
  have relA:=rel.addFrs q
  have hN:DN K (Nw M (ay σ env (ts++vs.zip (r.map .fr)))) H v d:=h.to fun b _ _ z=>by
   rw [aw] at z
   rcases z with z|z
   ·exact .inl z
   ·rw [ah,iM,EK] at z
    exact .inr z
  refine ⟨v,vs,rfl,M,P,H0,σ0,env,ts++vs.zip (r.map .fr),d,_,xY _ _ nv,relA,hN,hg,fun σ' env' H' hR' rel'=>?_⟩
  exact ⟨M,P,H0,σ0,env',ts,r,R,nv,rel'.drop,rel'.keptAll (by simp[q.len]) (fun p hp=>hp) (nI _ _),hR',hq⟩
noncomputable def yC (n:Nat) (gs:DGs):DG:=fun d env R=>∃ ds,d=.tuple ds∧ds.length=n∧gs ds env R
theorem gE {k:Nat}{gs:DGs}{n:Nat} (hK:X.K=K) (hc:X.calm=true) (h:PGs X es (zm K gs)) (hn:(assignEach es X.env).length=n:=by rfl) (hst:(assignEach es X.env).findIdx? (·.1)=none:=by rfl):PG X (.Tuple es k pos) (upG K (yC n gs)) :=
 (Ce (K:=K) hK hc h hn hst).imp fun v σ H Q h=>by
 obtain ⟨M,P,H0,σ0,env,ts,d,R,nv,rel,dn,⟨ds,rfl,hl,hg⟩,hq⟩:=h
 obtain ⟨a,xs,rfl,sn,q⟩:=dn.tuple
 exact ⟨a,xs,rfl,sn.sq,by rw[q.len];exact hl,M,P,H0,σ0,env,ts,ds,R,nv,rel,q,hg,hq⟩
noncomputable def C9 (te:DE) (g:DG):DS:=fun DD env=>te env fun s env1=>∃ d,aI env1 s=some d∧g d env1 DD.nx
structure iV (K:PySem.W.Frag) (J:It) (kp:List (V×Sl)) (ds:List PyData):Prop where
 go : ∀ {M P:Addr→Prop}{H0 H:Hp}{σ0 σ:St}{env:List Sl}{ts:List (V×Sl)},Rel K M P H0 σ0 σ env (ts++kp) H→∀ i,i<ds.length→J.go i H
 yld:∀ {M P:Addr→Prop}{H0 H:Hp}{σ0 σ:St}{env:List Sl}{ts:List (V×Sl)},Rel K M P H0 σ0 σ env (ts++kp) H→∀ i x H',(hi:i<ds.length)→J.yld i H x H'→a9 H H'∧DN K (Nw M (ay σ env (ts++kp))) H' x ds[i]
 stop:∀ {M P:Addr→Prop}{H0 H:Hp}{σ0 σ:St}{env:List Sl}{ts:List (V×Sl)},Rel K M P H0 σ0 σ env (ts++kp) H→J.stop ds.length H
 nv : vk kp
noncomputable abbrev DI:=List Sl→(List PyData→List Sl→Prop)→Prop
inductive upI (K:PySem.W.Frag) (t:DI) (σ:St) (H:Hp) (R:It→Hp→Prop):Prop
 | mk (M P:Addr→Prop) (H0:Hp) (σ0:St) (env:List Sl) (ts:List (V×Sl)) (RR:List PyData→List Sl→Prop):Rel K M P H0 σ0 σ env ts H→t env RR →
 (∀ ds env' J H' kp,RR ds env'→Rel K M P H0 σ0 σ env' (ts++kp) H'→iV K J kp ds→R J H')→upI K t σ H R
theorem PI.imp {tg iter:Expr}{t t':TI} (h:PI X tg iter t) (k:∀ σ H R,t' σ H R→t σ H R):PI X tg iter t':=fun pins s σ H R I hw=>h pins s σ H R I (k σ H R hw)
theorem aN {b:Bool}{a:Addr}{ds:List PyData} (rel:Rel K M P H0 σ0 σ env ts H) (m:(.ref a,.fr (if b then .tuple ds else .list ds))∈ts):∃ xs,SqB K H b a xs∧DNs K (Nw M (ay σ env ts)) H xs ds:=by
 obtain ⟨v,e,dn⟩:=rel.e.fr _ _ (d6 m)
 cases e
 cases b with
 | false =>
  obtain ⟨a',xs,e,sn,q⟩:=DN.list dn
  cases e
  exact ⟨xs,sn.sq,q⟩
 | true =>
  obtain ⟨a',xs,e,sn,q⟩:=DN.tuple dn
  cases e
  exact ⟨xs,sn.sq,q⟩
theorem DNs.item {vs:List V}{ds:List PyData} (q:DNs K N H vs ds) {i:Nat} (hi:i<ds.length):∃ x,vs[i]? = some x∧DN K N H x ds[i]:=by
 have hv:i<vs.length:=by rw[q.len];exact hi
 obtain ⟨e,h1,h2⟩:=q.get (D8 hv)
 rw [D8 hi] at h1
 cases h1
 exact ⟨vs[i],D8 hv,h2⟩
theorem xZ {v:V}{d:PyData}:vk [(v,Sl.fr d)]:=fun w i m=>by rw[Eb] at m;cases m
theorem rB {a:Addr}{ds:List PyData}:iV K (Itl K a) [(.ref a,.fr (.list ds))] ds where
 go := fun rel i hi=>by
  obtain ⟨xs,s,q⟩:=aN (b:=false) (a:=a) (ds:=ds) rel (D9 _ (by simp))
  obtain ⟨x,e,_⟩:=q.item hi
  exact ⟨xs,x,s,e⟩
 yld:=fun rel i x H' hi y=>by
  obtain ⟨xs,s,q⟩:=aN (b:=false) (a:=a) (ds:=ds) rel (D9 _ (by simp))
  obtain ⟨e,y⟩:=y
  subst e
  obtain ⟨x',e',dn⟩:=q.item hi
  rw [y xs s] at e'
  cases e'
  exact ⟨a9.refl _,dn⟩
 stop:=fun rel=>by
  obtain ⟨xs,s,q⟩:=aN (b:=false) (a:=a) (ds:=ds) rel (D9 _ (by simp))
  exact ⟨xs,s,by rw[q.len];exact Ek _⟩
 nv := xZ
theorem uz {a:Addr}{ds:List PyData}:iV K (Itt K a) [(.ref a,.fr (.tuple ds))] ds where
 go := fun rel i hi=>by
  obtain ⟨xs,s,q⟩:=aN (b:=true) (a:=a) (ds:=ds) rel (D9 _ (by simp))
  obtain ⟨x,e,_⟩:=q.item hi
  exact ⟨xs,x,s,e⟩
 yld:=fun rel i x H' hi y=>by
  obtain ⟨xs,s,q⟩:=aN (b:=true) (a:=a) (ds:=ds) rel (D9 _ (by simp))
  obtain ⟨e,y⟩:=y
  subst e
  obtain ⟨x',e',dn⟩:=q.item hi
  rw [y xs s] at e'
  cases e'
  exact ⟨a9.refl _,dn⟩
 stop:=fun rel=>by
  obtain ⟨xs,s,q⟩:=aN (b:=true) (a:=a) (ds:=ds) rel (D9 _ (by simp))
  exact ⟨xs,s,by rw[q.len];exact Ek _⟩
 nv := xZ
noncomputable def fE (lo:Int) (n:Nat):List PyData:=(List.range n).map fun (k:Nat)=>PyData.int (lo+k)
theorem ao (lo:Int) (n:Nat):(fE lo n).length=n:=by simp[fE]
theorem bj (lo:Int) (n i:Nat) (h:i<(fE lo n).length):(fE lo n)[i]=.int (lo+i):=by simp[fE]
theorem oW {lo:Int}{n:Nat}:iV K (Itr lo n) [] (fE lo n) where
 go := fun rel i hi=>by rw[ao] at hi;exact hi
 yld:=fun rel i x H' hi y=>by
  obtain ⟨e,y⟩:=y
  subst e
  rw [bj,y]
  exact ⟨a9.refl _,.int _⟩
 stop:=fun rel=>by rw[ao];exact Ek _
 nv := fun w i m=>by cases m
noncomputable def jt (ds:List PyData):List PyData:=ds.zipIdx.map fun (p:PyData×Nat)=>PyData.tuple [.int p.2,p.1]
theorem a8 (ds:List PyData):(jt ds).length=ds.length:=by simp[jt]
theorem dF (ds:List PyData) (i:Nat) (h:i<(jt ds).length):(jt ds)[i]=.tuple [.int i,ds[i]'(by rw[a8] at h;exact h)]:=by simp[jt]
theorem rC {b:Bool}{a:Addr}{ds:List PyData}:iV K (Ite K b a) [(.ref a,.fr (if b then .tuple ds else .list ds))] (jt ds) where
 go := fun rel i hi=>by
  rw [a8] at hi
  obtain ⟨xs,s,q⟩:=aN (b:=b) (a:=a) (ds:=ds) rel (D9 _ (by simp))
  obtain ⟨x,e,_⟩:=q.item hi
  exact ⟨xs,x,s,e⟩
 yld:=fun {M P H0 H σ0 σ env ts} rel i x H' hi y=>by
  rw [dF]
  rw [a8] at hi
  obtain ⟨xs,s,q⟩:=aN (b:=b) (a:=a) (ds:=ds) rel (D9 _ (by simp))
  obtain ⟨p,x1,rfl,hp,rfl,y⟩:=y
  obtain ⟨x',e',dn⟩:=q.item hi
  rw [y xs s] at e'
  cases e'
  exact ⟨a9.new hp,DN.of2 (SnT.of aB (rel.newAddr hp)) (.int _) (dn.keep (aS.same (a9.new hp)))⟩
 stop:=fun rel=>by
  obtain ⟨xs,s,q⟩:=aN (b:=b) (a:=a) (ds:=ds) rel (D9 _ (by simp))
  exact ⟨xs,s,by rw[q.len,a8]⟩
 nv := xZ
noncomputable def tw (ds es:List PyData):List PyData:=List.zipWith (fun d e=>PyData.tuple [d,e]) ds es
theorem c5 (ds es:List PyData):(tw ds es).length=min ds.length es.length:=by simp[tw]
theorem uy {b c:Bool}{a a':Addr}{ds es:List PyData}:iV K (Itz K b c a a') [(.ref a,.fr (if b then .tuple ds else .list ds)),(.ref a',.fr (if c then .tuple es else .list es))] (tw ds es) where
 go := fun rel i hi=>by
  rw [c5] at hi
  obtain ⟨xs,s,q⟩:=aN (b:=b) (a:=a) (ds:=ds) rel (D9 _ (by simp))
  obtain ⟨xs',s',q'⟩:=aN (b:=c) (a:=a') (ds:=es) rel (D9 _ (by simp))
  obtain ⟨x,e,_⟩:=q.item (i:=i) (by omega)
  obtain ⟨x',e',_⟩:=q'.item (i:=i) (by omega)
  exact ⟨xs,xs',x,x',s,s',e,e'⟩
 yld:=fun {M P H0 H σ0 σ env ts} rel i x H' hi y=>by
  have hi':=hi
  rw [c5] at hi'
  obtain ⟨xs,s,q⟩:=aN (b:=b) (a:=a) (ds:=ds) rel (D9 _ (by simp))
  obtain ⟨xs',s',q'⟩:=aN (b:=c) (a:=a') (ds:=es) rel (D9 _ (by simp))
  obtain ⟨p,x1,x2,rfl,hp,rfl,y1,y2⟩:=y
  obtain ⟨u1,e1,dn1⟩:=q.item (i:=i) (by omega)
  obtain ⟨u2,e2,dn2⟩:=q'.item (i:=i) (by omega)
  rw [y1 xs s] at e1
  rw [y2 xs' s'] at e2
  cases e1
  cases e2
  have eg:(tw ds es)[i]=.tuple [ds[i]'(by omega),es[i]'(by omega)]:=by simp[tw]
  rw [eg]
  exact ⟨a9.new hp,DN.of2 (SnT.of aB (rel.newAddr hp)) (dn1.keep (aS.same (a9.new hp))) (dn2.keep (aS.same (a9.new hp)))⟩
 stop:=fun rel=>by
  obtain ⟨xs,s,q⟩:=aN (b:=b) (a:=a) (ds:=ds) rel (D9 _ (by simp))
  obtain ⟨xs',s',q'⟩:=aN (b:=c) (a:=a') (ds:=es) rel (D9 _ (by simp))
  refine ⟨xs,xs',s,s',?_⟩
  rw [q.len,q'.len,c5]
  omega
 nv := fun w i m=>by
  simp only [En,EJ,or_false] at m
  rcases m with m|m <;> cases m
end
section
variable {K:PySem.W.Frag}{M P N:Addr→Prop}{H0 H H':Hp}{σ0 σ:St}{env:List Sl}{ts tt kp:List (V×Sl)}{v:V}{s:Sl}{d:PyData}{X:Cx}{pos p:Pos}{e e1 e2 tg iter:Expr}{es:List Expr}{te:DE}{tl:DA}
noncomputable def n0 (te:DE):DI:=fun env RR=>te env fun s env1=>∃ ds,aI env1 s=some (.list ds)∧RR ds env1
noncomputable def uV (te:DE):DI:=fun env RR=>te env fun s env1=>∃ ds,aI env1 s=some (.tuple ds)∧RR ds env1
theorem aD (hK:X.K=K) (h:PE X e (up K te)):PI X tg e (upI K (n0 te)):=(Aq (K:=K) hK h).imp fun σ H R h=>by
 obtain ⟨M,P,H0,σ0,env,ts,RR,rel,ht,hq⟩:=h
 refine ⟨M,P,H0,σ0,env,ts,_,rel,ht,fun s1 env1 v1 H1 h1 rel1=>?_⟩
 obtain ⟨ds,k,hR⟩:=h1
 have dn:=rel1.kept (v:=v1) (s:=s1) (by simp) k
 obtain ⟨a,xs,rfl,sn,q⟩:=dn.list
 exact ⟨a,rfl,⟨xs,sn.sq⟩,hq _ _ _ _ _ hR (rel1.drop.addFr dn) rB⟩
theorem zE (hK:X.K=K) (h:PE X e (up K te)):PI X tg e (upI K (uV te)):=(Cd (K:=K) hK h).imp fun σ H R h=>by
 obtain ⟨M,P,H0,σ0,env,ts,RR,rel,ht,hq⟩:=h
 refine ⟨M,P,H0,σ0,env,ts,_,rel,ht,fun s1 env1 v1 H1 h1 rel1=>?_⟩
 obtain ⟨ds,k,hR⟩:=h1
 have dn:=rel1.kept (v:=v1) (s:=s1) (by simp) k
 obtain ⟨a,xs,rfl,sn,q⟩:=dn.tuple
 exact ⟨a,rfl,⟨xs,sn.sq⟩,hq _ _ _ _ _ hR (rel1.drop.addFr dn) uz⟩
noncomputable def uT (ta:DA):DI:=fun env RR=>ta env fun ss env1=>∃ s j,ss=[s]∧aG env1 s=some (.int j)∧-4611686018427387904≤j∧j<4611686018427387904∧RR (fE 0 j.toNat) env1
theorem df (hg:Gl X "range") (hm:X.mg "range" = none) (ha:PA X [e] (upA K tl)) (hs:starEach [e] X.env=[(false,eval e X.env)]:=by rfl):PI X tg (.Call (.Name "range" p) [e] [] pos) (upI K (uT tl)):=(qC hg hm ha hs).imp fun σ H R h=>by
 obtain ⟨M,P,H0,σ0,env,ts,RR,rel,ht,hq⟩:=h
 refine ⟨M,P,H0,σ0,env,ts,_,rel,ht,fun ss env1 vs H1 h1 hl rel1=>?_⟩
 obtain ⟨s,j,rfl,e1,b1,b2,hR⟩:=h1
 obtain ⟨v,rfl⟩:=q9 hl
 have w:=(rel1.view (v:=v) (by simp) e1).int
 exact ⟨j,by rw[w],b1,b2,hq _ _ _ _ [] hR (by simpa using rel1.drop) oW⟩
noncomputable def sqD (b:Bool) (ds:List PyData):PyData:=if b then .tuple ds else .list ds
noncomputable def uW (b:Bool) (ta:DA):DI:=fun env RR=>ta env fun ss env1=>∃ s ds,ss=[s]∧aI env1 s=some (sqD b ds)∧RR (jt ds) env1
theorem ja (b:Bool) {es:List Expr}{kk:Nat}{tpos:Pos} (hK:X.K=K) (hg:Gl X "enumerate") (hm:X.mg "enumerate" = none) (ha:PA X [e] (upA K tl)) (hs:starEach [e] X.env=[(false,eval e X.env)]:=by rfl) :
  PI X (.Tuple es kk tpos) (.Call (.Name "enumerate" p) [e] [] pos) (upI K (uW b tl)):=(Ar (K:=K) hK b hg hm ha hs).imp fun σ H R h=>by
 obtain ⟨M,P,H0,σ0,env,ts,RR,rel,ht,hq⟩:=h
 refine ⟨M,P,H0,σ0,env,ts,_,rel,ht,fun ss env1 vs H1 h1 hl rel1=>?_⟩
 obtain ⟨s,ds,rfl,k,hR⟩:=h1
 obtain ⟨v,rfl⟩:=q9 hl
 have dn:=rel1.kept (v:=v) (s:=s) (by simp) k
 have r2:=rel1.drop.addFr dn
 have hv:∃ a,v=.ref a:=by
  cases b with
  | false=>obtain⟨a,_,e,_⟩:=DN.list dn;exact⟨a,e⟩
  | true=>obtain⟨a,_,e,_⟩:=DN.tuple dn;exact⟨a,e⟩
 obtain ⟨a,rfl⟩:=hv
 obtain ⟨xs,sq,_⟩:=aN (b:=b) (a:=a) (ds:=ds) r2 (D9 _ (by simp[sqD]))
 exact ⟨a,xs,rfl,sq,hq _ _ _ _ _ hR r2 rC⟩
noncomputable def Cy (b c:Bool) (ta:DA):DI:=fun env RR=>ta env fun ss env1=>∃ s s' ds es,ss=[s,s']∧aI env1 s=some (sqD b ds)∧aI env1 s'=some (sqD c es)∧RR (tw ds es) env1
theorem zD (b c:Bool) {es:List Expr}{kk:Nat}{tpos:Pos} (hK:X.K=K) (hg:Gl X "zip") (hm:X.mg "zip" = none) (ha:PA X [e1,e2] (upA K tl))
  (hs:starEach [e1,e2] X.env=[(false,eval e1 X.env),(false,eval e2 X.env)]:=by rfl) (hs2:starEach [e2] X.env=[(false,eval e2 X.env)]:=by rfl) :
  PI X (.Tuple es kk tpos) (.Call (.Name "zip" p) [e1,e2] [] pos) (upI K (Cy b c tl)):=(Cc (K:=K) hK b c hg hm ha hs hs2).imp fun σ H R h=>by
 obtain ⟨M,P,H0,σ0,env,ts,RR,rel,ht,hq⟩:=h
 refine ⟨M,P,H0,σ0,env,ts,_,rel,ht,fun ss env1 vs H1 h1 hl rel1=>?_⟩
 obtain ⟨s,s',ds,es',rfl,k1,k2,hR⟩:=h1
 obtain ⟨v,v',rfl⟩:=Cb hl
 have dns:=rel1.keptAll (vs:=[v,v']) (ds:=[sqD b ds,sqD c es']) hl (fun p hp=>hp) (by simp[aZ,k1,k2])
 have r2:=rel1.drop.addFrs dns
 have r2:Rel K M P H0 σ0 σ env1 (ts++[(v,.fr (sqD b ds)),(v',.fr (sqD c es'))]) H1:=by simpa using r2
 cases dns with
 | cons dn q =>
  cases q with
  | cons dn' q =>
   cases q
   have hv:∃ a,v=.ref a:=by
    cases b with
    | false=>obtain⟨a,_,e,_⟩:=DN.list dn;exact⟨a,e⟩
    | true=>obtain⟨a,_,e,_⟩:=DN.tuple dn;exact⟨a,e⟩
   have hv':∃ a,v'=.ref a:=by
    cases c with
    | false=>obtain⟨a,_,e,_⟩:=DN.list dn';exact⟨a,e⟩
    | true=>obtain⟨a,_,e,_⟩:=DN.tuple dn';exact⟨a,e⟩
   obtain ⟨a,rfl⟩:=hv
   obtain ⟨a',rfl⟩:=hv'
   obtain ⟨xs,sq,_⟩:=aN (b:=b) (a:=a) (ds:=ds) r2 (D9 _ (by simp[sqD]))
   obtain ⟨xs',sq',_⟩:=aN (b:=c) (a:=a') (ds:=es') r2 (D9 _ (by simp[sqD]))
   exact ⟨a,a',xs,xs',rfl,sq,sq',hq _ _ _ _ _ hR r2 uy⟩
theorem Rel.dropMid {t:V×Sl} (h:Rel K M P H0 σ0 σ env (ts++kp++[t]) H):Rel K M P H0 σ0 σ env (ts++[t]) H:=by
 refine ⟨?_,h.len,fun w i m=>h.vw w i (by
  rcases Ed.mp m with m|m
  ·exact Ec _ (Ec _ m)
  ·exact D9 _ m),h.ios⟩
 have hE:=h.e
 rw [aw,aw] at hE
 rw [aw]
 refine hE.sub (fun x s m=>.inl ?_) ?_
 ·rcases Ed.mp m with m|m
  ·exact Ec _ (Ec _ m)
  ·exact D9 _ m
 ·have nd:=hE.nd
  rw [ah,ah] at nd
  rw [ah]
  obtain ⟨n1,n2,n3⟩:=Ei.mp nd
  exact Ei.mpr ⟨(Ei.mp n1).1,n2,fun x hx y hy=>n3 x (Ec _ hx) y hy⟩
noncomputable def FD (ds:List PyData) (g:DG) (tb:DS):DS:=fun DD env=>∃ W:Nat→List Sl→Prop,W 0 env ∧
 (∀ i env,(h:i<ds.length)→W i env→g ds[i] env fun env2=>tb { DD with nx:=dI (W (i+1)) ⟨⟩,ct:=dI (W (i+1)) ⟨⟩,bk:=DD.nx } env2)∧∀ env,W ds.length env→DD.nx env
noncomputable def Bx (it:DI) (g:DG) (tb:DS):DS:=fun DD env=>it env fun ds env1=>FD ds g tb DD env1
theorem eK {body:List Stmt}{it:DI}{g:DG}{tb:DS} (hp:PassesOwn (model X.prog X.w) X.A X.env X.xe) (hc:X.calm=true) (hi:PI X tg iter (upI K it)) (hg:PG X tg (upG K g)) (hb:PSs X body (upS K tb)) (hs:∀ x,foldedSetIterable iter X.env x=pure x:=by intro _;rfl) :
  PS X (.For tg iter body [] pos) (upS K (Bx it g tb)):=(zU hp hc hi hg hb hs).imp fun D σ H h=>by
 obtain ⟨M,P,H0,σ0,env,ts,DD,nv,rel,ht,ok⟩:=h
 refine ⟨M,P,H0,σ0,env,ts,_,rel,ht,fun ds env1 J H1 kp hF rel1 io=>?_⟩
 obtain ⟨W,w0,turn,done⟩:=hF
 have nv2:vk (ts++kp):=fun w i m=>by
  rcases Ed.mp m with m|m
  ·exact nv w i m
  ·exact io.nv w i m
 refine ⟨fun i m σ H=>m=ds.length - i∧i≤ds.length∧∃ env,W i env∧Rel K M P H0 σ0 σ env (ts++kp) H,⟨_,rfl,Ez _,env1,w0,rel1⟩,?_⟩
 rintro i m σ2 H2 ⟨rfl,hle,env2,w2,rel2⟩
 by_cases hlt:i<ds.length
 ·refine .inr ⟨io.go rel2 i hlt,fun σ' H'=>∃ env',W (i+1) env'∧Rel K M P H0 σ0 σ' env' (ts++kp) H',fun σ' H' ⟨env',w',r'⟩=>⟨ds.length - (i+1),by omega,rfl,hlt,env',w',r'⟩,fun x H3 y=>?_⟩
  obtain ⟨sm,dn⟩:=io.yld rel2 i x H3 hlt y
  have rel3:=rel2.same sm
  refine ⟨M,P,H0,σ0,env2,ts++kp,ds[i],_,nv2,rel3,dn,turn i env2 hlt w2,fun σ' env' H' hR r=>?_⟩
  refine ⟨M,P,H0,σ0,env',ts++kp,_,nv2,r,hR,⟨fun σ' env' H' q r=>⟨env',q,r⟩,fun s env' v σ' H' q r=>ok.rt s env' v σ' H' q r.dropMid,fun σ' env' H' q r=>ok.nx _ _ _ q r.drop,fun σ' env' H' q r=>⟨env',q,r⟩⟩⟩
 ·have e:i=ds.length:=by omega
  subst e
  exact .inl ⟨io.stop rel2,ok.nx _ _ _ (done _ w2) rel2.drop⟩
noncomputable def A0 (c:DT) (tb:DS):DS:=fun DD env=>∃ W:Nat→List Sl→Prop,(∃ m,W m env)∧∀ m env,W m env →
 c env fun k env1=>if k=true then tb { DD with nx:=dI (fun env'=>∃ m',m'<m∧W m' env') ⟨⟩,ct:=dI (fun env'=>∃ m',m'<m∧W m' env') ⟨⟩,bk:=DD.nx } env1 else DD.nx env1
theorem qk {c:Expr}{body:List Stmt}{tc:DT}{tb:DS} (hp:PassesOwn (model X.prog X.w) X.A X.env X.xe) (hc:PT X c (upT K tc)) (hb:PSs X body (upS K tb)):PS X (.While c body [] pos) (upS K (A0 tc tb)):=(tT hp hc hb).imp fun D σ H h=>by
 obtain ⟨M,P,H0,σ0,env,ts,DD,nv,rel,⟨W,⟨m0,w0⟩,turn⟩,ok⟩:=h
 refine ⟨fun m σ H=>∃ env,W m env∧Rel K M P H0 σ0 σ env ts H,⟨m0,env,w0,rel⟩,?_⟩
 rintro m σ2 H2 ⟨env2,w2,rel2⟩
 refine ⟨M,P,H0,σ0,env2,ts,_,rel2,turn m env2 w2,fun k env3 H3 h3 rel3=>?_⟩
 cases k with
 | false=>exact ok.nx _ _ _ h3 rel3
 | true =>
  refine ⟨fun σ' H'=>∃ env',(∃ m',m'<m∧W m' env')∧Rel K M P H0 σ0 σ' env' ts H',fun σ' H' ⟨env',⟨m',hm,w'⟩,r'⟩=>⟨m',hm,env',w',r'⟩,?_⟩
  exact ⟨M,P,H0,σ0,env3,ts,_,nv,rel3,h3,⟨fun σ' env' H' q r=>⟨env',q,r⟩,ok.rt,fun σ' env' H' q r=>ok.nx _ _ _ q r,fun σ' env' H' q r=>⟨env',q,r⟩⟩⟩
end
noncomputable def k4:Option Sl→Sl
 | some (.fr d)=>.fr d
 | _=>.un
noncomputable def CK (env:List Sl):Option Nat→Sl
 | none=>.un
 | some j=>k4 env[j]?
noncomputable def gl (ix:List (Option Nat)) (env:List Sl):List Sl:=ix.map (CK env)
theorem fH {α β γ:Type}{f:α→β}{g:α→γ}:∀ {l:List α}{x:β}{y:γ},(x,y)∈(l.map f).zip (l.map g)→∃ o∈l,x=f o∧y=g o
 | [],_,_,h=>by simp at h
 | a :: l,x,y,h=>by
  have h:(x,y)∈(f a,g a)::(l.map f).zip (l.map g):=h
  rcases En.mp h with h|h
  ·cases h;exact⟨a,Eh,rfl,rfl⟩
  ·obtain ⟨o,ho,e⟩:=fH h
   exact ⟨o,Ej _ ho,e⟩
noncomputable def AZ:DT:=fun env R=>R true env
theorem PIf.imp {X:Cx}{ifs:List Expr}{t t':TT} (h:PIf X ifs t) (k:∀ σ H Q,t' σ H Q→t σ H Q):PIf X ifs t':=fun pins s σ H Q I hw=>h pins s σ H Q I (k σ H Q hw)
theorem bo {X:Cx}{K:PySem.W.Frag}:PIf X [] (upT K AZ):=xC.imp fun σ H Q h=>by
 obtain ⟨M,P,H0,σ0,env,ts,R,rel,ht,hq⟩:=h
 exact hq _ _ _ ht rel
theorem cQ {X:Cx}{K:PySem.W.Frag}{c:Expr}{t:DT} (h:PT X c (upT K t)):PIf X [c] (upT K t):=xB h
section
variable {K:PySem.W.Frag}{M P N:Addr→Prop}{H0 H H':Hp}{σ0 σ:St}{env:List Sl}{ts tt kp:List (V×Sl)}{v:V}{s:Sl}{d:PyData}
theorem dj {ix:List (Option Nat)}{x:Option V} (rel:Rel K M P H0 σ0 σ env ts H) (m:(x,s)∈(dr σ ix).zip (gl ix env)):s=.un∨∃ d v,s=.fr d∧x=some v∧DN K (Nw M (ay σ env ts)) H v d:=by
 obtain ⟨o,_,e1,e2⟩:=fH m
 cases o with
 | none=>exact .inl e2
 | some j =>
  have e2:s=k4 env[j]?:=e2
  cases q:env[j]? with
  | none=>rw[q] at e2;exact .inl e2
  | some s' =>
   rw [q] at e2
   cases s' with
   | fr d =>
    obtain ⟨x',e3,m3⟩:=rel.slot q
    obtain ⟨v,e4,dn⟩:=rel.e.fr _ _ m3
    refine .inr ⟨d,v,e2,?_,dn⟩
    rw [e1]
    show (σ[j]?).join=_
    rw [e3,e4]
    rfl
   | _=>exact .inl e2
theorem mq {ix:List (Option Nat)} (rel:Rel K M P H0 σ0 σ env ts H):oas ((dr σ ix).zip (gl ix env))=[]:=by
 unfold oas
 rw [List.flatMap_eq_nil_iff]
 rintro ⟨x,s⟩ m
 rcases dj rel m with e|⟨d,v,e,e2,_⟩
 ·subst e
  exact gL _
 ·subst e e2
  exact dg _ _
theorem sB {ix:List (Option Nat)} (rel:Rel K M P H0 σ0 σ env ts H):Rel K (Nw M (ay σ env ts)) (fun _=>False) H (dr σ ix) (dr σ ix) (gl ix env) [] H:=by
 have oe:=mq (ix:=ix) rel
 have ee:ay (dr σ ix) (gl ix env) []=(dr σ ix).zip (gl ix env):=by simp[ay,tmp]
 refine ⟨⟨aS.refl,fun a q=>q,fun a z hn=>rel.newAddr hn z,fun a z=>z.elim,fun x d m=>?_,fun x l m=>?_,fun x l m=>?_,fun x S l m=>?_,by rw[ee,oe];exact Fr⟩,by simp[dr,gl],fun w i m=>(by cases m),fun i l e=>rfl⟩
 rotate_right
 ·rw [ee] at m
  rcases dj rel m with e|⟨d',v,e,e2,dn⟩ <;> cases e
 ·rw [ee] at m
  rcases dj rel m with e|⟨d',v,e,e2,dn⟩
  ·cases e
  ·cases e
   refine ⟨v,e2,dn.to fun b _ _ z=>?_⟩
   rcases z with z|z
   ·exact z
   ·rw [ee,oe] at z;cases z
 ·rw [ee] at m
  rcases dj rel m with e|⟨d',v,e,e2,dn⟩ <;> cases e
 ·rw [ee] at m
  rcases dj rel m with e|⟨d',v,e,e2,dn⟩ <;> cases e
theorem u6 {ix:List (Option Nat)}{k j:Nat}{s0:Sl}{l:List PyData} (rel:Rel K M P H0 σ0 σ env ts H) (hk:ix[k]? = some (some j)) (ej:env[j]? = some s0) (eo:fY s0=some l) {a:Addr} (ea:σ[j]? = some (some (.ref a))) :
  Rel K (Nw M (ay σ env ts)) (fun b=>b=a) H (dr σ ix) (dr σ ix) ((gl ix env).set k (.io l)) [] H:=by
 have oe:=mq (ix:=ix) rel
 have r0:=sB (ix:=ix) rel
 have hkl:k<ix.length:=(Ef.mp hk).1
 have ek:(gl ix env)[k]? = some .un:=by
  unfold gl
  rw [EM,hk]
  show some (k4 env[j]?)=_
  rw [ej]
  cases s0 <;> first|rfl|cases eo
 have es:(dr σ ix)[k]? = some (some (.ref a)):=by
  unfold dr
  rw [EM,hk]
  show some ((σ[j]?).join)=_
  rw [ea];rfl
 obtain ⟨x,A,B,e1,q1,q2⟩:=r0.split ek
 rw [es] at e1
 cases e1
 have ee:ay (dr σ ix) (gl ix env) []=(dr σ ix).zip (gl ix env):=by simp[ay,tmp]
 have oAB:oas A=[]∧oas B=[]:=by
  rw [←ee,q1,ah,ak] at oe
  have oe:oas A++oas B=[]:=oe
  exact List.append_eq_nil_iff.mp oe
 obtain ⟨a',us,ea',hH,ql⟩:=rel.mine ej eo
 rw [ea] at ea'
 cases ea'
 have ma:Nw M (ay σ env ts) a:=by
  obtain ⟨x,e1,mm⟩:=rel.slot ej
  rw [ea] at e1
  cases e1
  refine .inr (aW.mpr ⟨_,mm,?_⟩)
  exact (ny eo).2 a
 have oe2:oas (A++(some (.ref a),Sl.io l)::B)=[a]:=by
  rw [ah,ak,oAB.1,oAB.2]
  rfl
 have ne:∀ b,Nw (Nw M (ay σ env ts)) (A++(some (.ref a),Sl.io l)::B) b→Nw M (ay σ env ts) b:=fun b z=>by
  rcases z with z|z
  ·exact z
  ·rw [oe2,Eb] at z;rw[z];exact ma
 have old:∀ x t,(x,t)∈A++(some (.ref a),Sl.io l)::B→(x,t)=(some (.ref a),Sl.io l)∨(x,t)∈(dr σ ix).zip (gl ix env):=fun x t m=>by
  rw [←ee,q1]
  rcases Ed.mp m with m|m
  ·exact .inr (Ec _ m)
  ·rcases En.mp m with m|m
   ·exact .inl m
   ·exact .inr (D9 _ (Ej _ m))
 refine ⟨⟨aS.refl,fun a q=>q,fun a z hn=>rel.newAddr hn z,fun b z=>by rw[z];exact ma,fun x d m=>?_,fun x l' m=>?_,fun x l' m=>?_,fun x S l' m=>?_,by rw[q2,oe2];simp⟩,by simp[dr,gl],fun w i m=>(by cases m),fun i l' e=>rfl⟩
 rotate_right
 ·rw [q2] at m
  rcases old _ _ m with m|m
  ·cases m
  ·rcases dj rel m with e|⟨d',v,e,e2,dn⟩ <;> cases e
 ·rw [q2] at m ⊢
  rcases old _ _ m with m|m
  ·cases m
  ·rcases dj rel m with e|⟨d',v,e,e2,dn⟩
   ·cases e
   ·cases e
    exact ⟨v,e2,dn.to fun b _ _ z=>ne b z⟩
 ·rw [q2] at m
  rcases old _ _ m with m|m
  ·cases m
  ·rcases dj rel m with e|⟨d',v,e,e2,dn⟩ <;> cases e
 ·rw [q2] at m ⊢
  rcases old _ _ m with m|m
  ·cases m
   exact ⟨a,us,rfl,hH,ql.to fun b _ _ z=>ne b z,rfl⟩
  ·rcases dj rel m with e|⟨d',v,e,e2,dn⟩ <;> cases e
end
noncomputable def CD (ds:List PyData) (ix:List (Option Nat)) (g:DG) (tt:DT) (te:DE) (env:List Sl) (R:Sl→List Sl→Prop):Prop:=∃ W:Nat→List PyData→Prop,W 0 [] ∧
 (∀ i rs,(h:i<ds.length)→W i rs→rs.length<sizeLine∧g ds[i] (gl ix env) fun b1=>tt b1 fun k b2=>if k=true then te b2 fun s b3=>∃ d,aI b3 s=some d∧W (i+1) (rs++[d]) else W (i+1) rs)∧∀ rs,W ds.length rs→R (.ow rs) env
noncomputable def o6 (it:DI) (ix:List (Option Nat)) (g:DG) (tt:DT) (te:DE):DE:=fun env R=>it env fun ds env1=>CD ds ix g tt te env1 (dK R ⟨⟩)
noncomputable def CD1 (k j:Nat) (ds:List PyData) (ix:List (Option Nat)) (g:DG) (tt:DT) (te:DE) (env:List Sl) (R:Sl→List Sl→Prop):Prop:=∃ W:Nat→List PyData→List PyData→Prop,∃ s0 l0,env[j]? = some s0∧fY s0=some l0∧W 0 [] l0 ∧
 (∀ i rs l,(h:i<ds.length)→W i rs l→rs.length<sizeLine∧∃ s,cH s0 l=some s∧g ds[i] ((gl ix (env.set j s)).set k (.io l)) fun b1=>tt b1 fun kk b2=>if kk=true then te b2 fun s b3=>∃ d l',aI b3 s=some d∧b3[k]? = some (.io l')∧W (i+1) (rs++[d]) l' else ∃ l',b2[k]? = some (.io l')∧W (i+1) rs l') ∧
 ∀ rs l,W ds.length rs l→∃ s,cH s0 l=some s∧R (.ow rs) (env.set j s)
noncomputable def og (k j:Nat) (it:DI) (ix:List (Option Nat)) (g:DG) (tt:DT) (te:DE):DE:=fun env R=>it env fun ds env1=>CD1 k j ds ix g tt te env1 (dK R ⟨⟩)
section
variable {K:PySem.W.Frag}
theorem sy {it:DI}{ix:List (Option Nat)}{g:DG}{tt:DT}{te:DE}:∀ σ H Q,up K (o6 it ix g tt te) σ H Q→tD (upI K it) ix (upG K g) (upT K tt) (up K te) σ H Q:=fun σ H Q h=>by
 obtain ⟨M,P,H0,σ0,env,ts,R,rel,ht,hq⟩:=h
 refine ⟨M,P,H0,σ0,env,ts,_,rel,ht,fun ds env1 J H1 kp hF rel1 io=>?_⟩
 obtain ⟨W,w0,turn,done⟩:=hF
 refine ⟨fun i m ys H=>m=ds.length - i∧i≤ds.length∧∃ rs,W i rs∧DNs K (Nw M (ay σ env1 (ts++kp))) H ys rs∧Rel K M P H0 σ0 σ env1 (ts++kp) H,⟨_,rfl,Ez _,[],w0,.nil,rel1⟩,?_⟩
 rintro i m ys H2 ⟨rfl,hle,rs,w2,dns,rel2⟩
 by_cases hlt:i<ds.length
 ·obtain ⟨hz,tr⟩:=turn i rs hlt w2
  refine .inr ⟨io.go rel2 i hlt,by rw[dns.len];exact hz,fun ys' H'=>∃ rs',W (i+1) rs'∧DNs K (Nw M (ay σ env1 (ts++kp))) H' ys' rs'∧Rel K M P H0 σ0 σ env1 (ts++kp) H',fun ys' H' ⟨rs',a,b,c⟩=>⟨ds.length - (i+1),by omega,rfl,hlt,rs',a,b,c⟩,fun x H3 y=>?_⟩
  obtain ⟨sm,dn⟩:=io.yld rel2 i x H3 hlt y
  have rel3:=rel2.same sm
  have rb:=sB (ix:=ix) rel3
  have oe:=mq (ix:=ix) rel3
  have nb:∀ b,Nw (Nw M (ay σ env1 (ts++kp))) (ay (dr σ ix) (gl ix env1) []) b→Nw M (ay σ env1 (ts++kp)) b:=fun b z=>by
   rcases z with z|z
   ·exact z
   ·have ee:ay (dr σ ix) (gl ix env1) []=(dr σ ix).zip (gl ix env1):=by simp[ay,tmp]
    rw [ee,oe] at z;cases z
  refine ⟨_,_,_,_,gl ix env1,[],ds[i],_,fun w i m=>(by cases m),rb,dn.to fun b _ _ z=>nb b z,tr,fun σ2 b1 H4 h4 rel4=>?_⟩
  refine ⟨_,_,_,_,b1,[],_,rel4,h4,fun kk b2 H5 h5 rel5=>?_⟩
  cases kk with
  | false =>
   have k5:a9 H3 H5:=(rel5.e.keep.mono (M:=N0) fun b z=>z).none
   exact ⟨rs,h5,dns.keep (aS.same (sm.trans k5)),rel3.same k5⟩
  | true =>
   refine ⟨_,_,_,_,b2,[],_,rel5,h5,fun s b3 v H6 h6 rel6=>?_⟩
   obtain ⟨d,kd,w6⟩:=h6
   have k6:a9 H3 H6:=(rel6.e.keep.mono (M:=N0) fun b z=>z).none
   have dn6:=rel6.kept (ts:=[]) (tt:=[]++[(v,s)]) (v:=v) (s:=s) (by simp) kd
   exact ⟨rs++[d],w6,(dns.keep (aS.same (sm.trans k6))).app (.cons (dn6.to fun b _ _ z=>.inl z) .nil),rel3.same k6⟩
 ·have e:i=ds.length:=by omega
  subst e
  exact .inl ⟨io.stop rel2,fun p hp=>hq _ _ _ _ (done _ w2) (rel2.resOw hp dns)⟩
theorem u3 {k j:Nat}{it:DI}{ix:List (Option Nat)}{g:DG}{tt:DT}{te:DE} (hk:ix[k]? = some (some j)):∀ σ H Q,up K (og k j it ix g tt te) σ H Q→tD (upI K it) ix (upG K g) (upT K tt) (up K te) σ H Q:=fun σ H Q h=>by
 obtain ⟨M,P,H0,σ0,env,ts,R,rel,ht,hq⟩:=h
 refine ⟨M,P,H0,σ0,env,ts,_,rel,ht,fun ds env1 J H1 kp hF rel1 io=>?_⟩
 obtain ⟨W,s0,l0,ej,eo,w0,turn,done⟩:=hF
 have hjl:j<env1.length:=(Ef.mp ej).1
 have set0:cH s0 l0=some s0:=(ny eo).1
 have env0:env1.set j s0=env1:=by
  rw [←(Ef.mp ej).2]
  exact List.set_getElem_self hjl
 obtain ⟨a,us0,ea,_,_⟩:=rel1.mine ej eo
 have neq:∀ {ls:List PyData}{s:Sl},cH s0 ls=some s→Nw M (ay σ (env1.set j s) (ts++kp))=Nw M (ay σ env1 (ts++kp)):=fun {ls s} es=>by
  obtain ⟨x,A,B,e3,sp1,sp2⟩:=rel1.split ej
  rw [ea] at e3
  cases e3
  rw [sp1,sp2]
  have oa:cO (some (.ref a),s0)=[a]∧cO (some (.ref a),s)=[a]:=by
   exact eR (iG es).1
  unfold Nw
  rw [ah,ah,ak,ak,oa.1,oa.2]
 refine ⟨fun i m ys H=>m=ds.length - i∧i≤ds.length∧∃ rs l s,cH s0 l=some s∧W i rs l∧DNs K (Nw M (ay σ env1 (ts++kp))) H ys rs∧Rel K M P H0 σ0 σ (env1.set j s) (ts++kp) H,⟨_,rfl,Ez _,[],l0,s0,set0,w0,.nil,by rw[env0];exact rel1⟩,?_⟩
 rintro i m ys H2 ⟨rfl,hle,rs,l,s,es,w2,dns,rel2⟩
 by_cases hlt:i<ds.length
 ·obtain ⟨hz,s',es',tr⟩:=turn i rs l hlt w2
  rw [es] at es'
  cases es'
  have eos:fY s=some l:=(iG es).2
  have ejs:(env1.set j s)[j]? = some s:=EG hjl
  refine .inr ⟨io.go rel2 i hlt,by rw[dns.len];exact hz,fun ys' H'=>∃ rs' l' s',cH s0 l'=some s'∧W (i+1) rs' l'∧DNs K (Nw M (ay σ env1 (ts++kp))) H' ys' rs'∧Rel K M P H0 σ0 σ (env1.set j s') (ts++kp) H',
   fun ys' H' ⟨rs',l',s',z,a,b,c⟩=>⟨ds.length - (i+1),by omega,rfl,hlt,rs',l',s',z,a,b,c⟩,fun x H3 y=>?_⟩
  obtain ⟨sm,dn⟩:=io.yld rel2 i x H3 hlt y
  have rel3:=rel2.same sm
  have rb:=u6 (ix:=ix) rel3 hk ejs eos ea
  have ma:Nw M (ay σ (env1.set j s) (ts++kp)) a:=by
   obtain ⟨x,e1,mm⟩:=rel3.slot ejs
   rw [ea] at e1
   cases e1
   refine .inr (aW.mpr ⟨_,mm,?_⟩)
   exact (ny eos).2 a
  have nb:∀ b,Nw (Nw M (ay σ (env1.set j s) (ts++kp))) (ay (dr σ ix) ((gl ix (env1.set j s)).set k (.io l)) []) b→Nw M (ay σ (env1.set j s) (ts++kp)) b:=fun b z=>by
   rcases z with z|z
   ·exact z
   ·obtain ⟨_,_,hP⟩:=rb.e.own z
    rcases hP with q|q
    ·obtain ⟨vs,q2,_⟩:=rb.e.own z
     rw [q] at q2;cases q2
    ·rw [q];exact ma
  have after:∀ {σ2:St}{b3:List Sl}{t3:List (V×Sl)}{H6:Hp}{l':List PyData},Rel K (Nw M (ay σ (env1.set j s) (ts++kp))) (fun b=>b=a) H3 (dr σ ix) σ2 b3 t3 H6→b3[k]? = some (.io l') →
    ∃ s',cH s0 l'=some s'∧Rel K M P H0 σ0 σ (env1.set j s') (ts++kp) H6∧∀ {ys:List V}{rs:List PyData},DNs K (Nw M (ay σ env1 (ts++kp))) H3 ys rs→DNs K (Nw M (ay σ env1 (ts++kp))) H6 ys rs:=fun {σ2 b3 t3 H6 l'} r6 e6=>by
   obtain ⟨x6,e7,m7⟩:=r6.slot e6
   have e8:=r6.ios _ _ e6
   have ecap:(dr σ ix)[k]? = some (some (.ref a)):=by
    unfold dr
    rw [EM,hk]
    show some ((σ[j]?).join)=_
    rw [ea];rfl
   rw [e7,ecap] at e8
   cases e8
   obtain ⟨a',us',z,hH',ql',_⟩:=r6.e.io _ _ m7
   cases z
   obtain ⟨x,A,B,e3,sp1,sp2⟩:=rel3.split ejs
   rw [ea] at e3
   cases e3
   have hs':∃ s',cH s0 l'=some s'∧yg s l' s':=by
    obtain ⟨d0,rfl⟩|⟨d0,rfl⟩:(∃ d0,s0=.ow d0)∨∃ d0,s0=.io d0:=(cP (iG es).1).imp (fun ⟨d,e,_⟩=>⟨d,e⟩) fun ⟨d,e,_⟩=>⟨d,e⟩
    ·cases es;exact⟨_,rfl,rfl⟩
    ·cases es;exact⟨_,rfl,rfl⟩
   obtain ⟨s',es',iso⟩:=hs'
   have hE:=rel3.e
   rw [sp1] at hE
   have dnl:DNs K (Nw M (A++(some (.ref a),s)::B)) H6 us' l':=ql'.to fun b _ _ z=>.inl (by rw[sp1];exact z)
   have hM:=hE.muted iso r6.e.keep r6.e.live hH' dnl
   rw [←sp2] at hM
   have e9:(env1.set j s).set j s'=env1.set j s':=List.set_set ..
   refine ⟨s',es',⟨by rw[←e9];exact hM,by simp[rel1.len],rel3.vw,fun q l2 e'=>?_⟩,fun {ys rs} q=>q.keep (r6.e.keep.mono fun b z=>?_)⟩
   ·by_cases hj:j=q
    ·subst hj
     rw [EG hjl] at e'
     cases e'
     obtain ⟨ds0,rfl⟩:=p8 es'
     exact rel1.ios _ ds0 ej
    ·rw [EF hj] at e'
     exact rel1.ios q l2 e'
   ·rw [z,←neq es];exact ma
  have dn3:=dns.keep (aS.same sm)
  refine ⟨_,_,_,_,_,[],ds[i],_,fun w i m=>(by cases m),rb,dn.to fun b _ _ z=>nb b z,tr,fun σ2 b1 H4 h4 rel4=>?_⟩
  refine ⟨_,_,_,_,b1,[],_,rel4,h4,fun kk b2 H5 h5 rel5=>?_⟩
  cases kk with
  | false =>
   obtain ⟨l',e5,w5⟩:=h5
   obtain ⟨s',es',r',kd⟩:=after rel5 e5
   exact ⟨rs,l',s',es',w5,kd dn3,r'⟩
  | true =>
   refine ⟨_,_,_,_,b2,[],_,rel5,h5,fun s6 b3 v H6 h6 rel6=>?_⟩
   obtain ⟨d,l',kdd,e6,w6⟩:=h6
   obtain ⟨s',es',r',kd⟩:=after rel6 e6
   have dn6:=rel6.kept (ts:=[]) (tt:=[]++[(v,s6)]) (v:=v) (s:=s6) (by simp) kdd
   exact ⟨rs++[d],l',s',es',w6,(kd dn3).app (.cons (dn6.to fun b _ _ z=>.inl (by rw[neq es];exact z)) .nil),r'⟩
 ·have e:i=ds.length:=by omega
  subst e
  refine .inl ⟨io.stop rel2,fun p hp=>?_⟩
  obtain ⟨s',es',hR⟩:=done _ _ w2
  rw [es] at es'
  cases es'
  exact hq _ _ _ _ hR (rel2.resOw hp (by rw[neq es];exact dns))
end
section
variable {K:PySem.W.Frag}{X:Cx}{N':List Str}{ix:List (Option Nat)}{sc:Scope}{tg iter elt:Expr}{ifs:List Expr}{pos:Pos}{it:DI}{g:DG}{tt:DT}{te:DE}
theorem cf (hc:X.calm=true) (S:ck X.N X.env N' ix sc) (hi:PI X tg iter (upI K it))
  (hg:∀ s H C fp,PG (bCx X N' sc s H C fp) tg (upG K g)) (ht:∀ s H C fp,PIf (bCx X N' sc s H C fp) ifs (upT K tt)) (he:∀ s H C fp,PE (bCx X N' sc s H C fp) elt (up K te))
  (hs:∀ x,foldedSetIterable iter X.env x=pure x:=by intro _;rfl):PE X (.ListComp elt [⟨tg,iter,ifs,0⟩] sc pos) (up K (o6 it ix g tt te)):=(xN hc S hi hg ht he hs).imp sy
theorem vK {i:Nat}{t:TE}{td:DE} (h:∀ σ H Q,up K td σ H Q→t σ H Q):∀ D σ H,upS K (wx i td) D σ H→Bf t (uJ i) D σ H:=fun D σ H hh=>by
 obtain ⟨M,P,H0,σ0,env,ts,DD,nv,rel,ht,ok⟩:=hh
 refine h _ _ _ ⟨M,P,H0,σ0,env,ts,_,rel,ht,fun s1 env1 v1 H1 h1 rel1=>?_⟩
 obtain ⟨s',hl,es,hR⟩:=h1
 obtain ⟨r,cs⟩:=rel1.unVw es
 exact ok.nx _ _ _ hR (r.store nv hl cs)
theorem bB {i:Nat}{y:Str}{spos py:Pos} (hN:X.N.Nodup) (hi':X.N[i]? = some y) (hy:X.env.scope.names.lookup y=some .local) (hc:X.calm=true) (S:ck X.N X.env N' ix sc) (hi:PI X tg iter (upI K it))
  (hg:∀ s H C fp,PG (bCx X N' sc s H C fp) tg (upG K g)) (ht:∀ s H C fp,PIf (bCx X N' sc s H C fp) ifs (upT K tt)) (he:∀ s H C fp,PE (bCx X N' sc s H C fp) elt (up K te))
  (hsw:swapsWith (.ListComp elt [⟨tg,iter,ifs,0⟩] sc pos) (some (.Name y py)) spos.line X.env=pure true:=by rfl)
  (hs:∀ x,foldedSetIterable iter X.env x=pure x:=by intro _;rfl):PS X (.Assign [.Name y py] (.ListComp elt [⟨tg,iter,ifs,0⟩] sc pos) spos) (upS K (wx i (o6 it ix g tt te))):=(iK hN hi' hy hc S hi hg ht he hsw hs).imp (vK sy)
theorem iJ {i:Nat}{y:Str}{spos py:Pos} (k j:Nat) (hk:ix[k]? = some (some j)) (hN:X.N.Nodup) (hi':X.N[i]? = some y) (hy:X.env.scope.names.lookup y=some .local) (hc:X.calm=true) (S:ck X.N X.env N' ix sc) (hi:PI X tg iter (upI K it))
  (hg:∀ s H C fp,PG (bCx X N' sc s H C fp) tg (upG K g)) (ht:∀ s H C fp,PIf (bCx X N' sc s H C fp) ifs (upT K tt)) (he:∀ s H C fp,PE (bCx X N' sc s H C fp) elt (up K te))
  (hsw:swapsWith (.ListComp elt [⟨tg,iter,ifs,0⟩] sc pos) (some (.Name y py)) spos.line X.env=pure true:=by rfl)
  (hs:∀ x,foldedSetIterable iter X.env x=pure x:=by intro _;rfl):PS X (.Assign [.Name y py] (.ListComp elt [⟨tg,iter,ifs,0⟩] sc pos) spos) (upS K (wx i (og k j it ix g tt te))):=(iK hN hi' hy hc S hi hg ht he hsw hs).imp (vK (u3 hk))
end
noncomputable def wV:PyData→Option Bool
 | .none=>some false
 | .bool b=>some b
 | .int i=>some (i != 0)
 | .list ds=>some (!ds.isEmpty)
 | .tuple ds=>some (!ds.isEmpty)
 | _=>none
section
variable {K:PySem.W.Frag}{M P N:Addr→Prop}{H0 H H':Hp}{E A B:List Ent}{σ0 σ:St}{env:List Sl}{ts tt kp:List (V×Sl)}{v:V}{s:Sl}{d:PyData}{X:Cx}{pos p:Pos}{e e1 e2 a:Expr}{es:List Expr}{te tj:DE}{tl:DA}
theorem DNs.emp {vs:List V}{ds:List PyData} (q:DNs K N H vs ds):vs.isEmpty=ds.isEmpty:=by cases q <;> rfl
theorem Vw.tru (w:Vw K N H v d) {k:Bool} (e:wV d=some k):Bz K v H k:=by
 cases d with
 | none=>cases e;rw[w.none];rfl
 | bool b=>cases e;rw[w.bool];rfl
 | int b=>cases e;rw[w.int];rfl
 | list ds =>
  cases e
  obtain ⟨a,vs,rfl,s,q⟩:=w.list
  exact .inl ⟨vs,s,by rw[q.emp]⟩
 | tuple ds =>
  cases e
  obtain ⟨a,vs,rfl,s,q⟩:=w.tuple
  exact .inr (.inl ⟨vs,s,by rw[q.emp]⟩)
 | _=>cases e
noncomputable def rT (te:DE):DT:=fun env R=>te env fun s env1=>∃ d k,aG env1 s=some d∧wV d=some k∧R k env1
theorem nt (hK:X.K=K) (ha:PE X a (up K te)) (he:∀ whole,isTrue a X.env whole=(do let v ←whole;standAt a.pos;holding [v] (truthy v)):=by intro _;rfl):PT X a (upT K (rT te)):=(vZ (K:=K) hK ha he).imp fun σ H Q h=>by
 obtain ⟨M,P,H0,σ0,env,ts,R,rel,ht,hq⟩:=h
 refine ⟨M,P,H0,σ0,env,ts,_,rel,ht,fun s1 env1 v1 H1 h1 rel1=>?_⟩
 obtain ⟨d,k,e1,e2,hR⟩:=h1
 exact ⟨k,(rel1.view (v:=v1) (by simp) e1).tru e2,hq _ _ _ hR rel1.drop⟩
noncomputable def jo:PyData→String
 | .none => "NoneType"
 | .bool _ => "bool"
 | .int _ => "int"
 | .str _ => "str"
 | .list _ => "list"
 | .tuple _ => "tuple"
 | .dict _ => "dict"
inductive lC (K:PySem.W.Frag) (H:Hp):V→String→Prop
 | non:lC K H .non "NoneType"
 | bl (b:Bool):lC K H (.bl b) "bool"
 | int (b:Int):lC K H (.int b) "int"
 | str (b:Str):lC K H (.str b) "str"
 | lst {a:Addr}{xs:List V}:SqL K H a xs→lC K H (.ref a) "list"
 | tup {a:Addr}{xs:List V}:SqT K H a xs→lC K H (.ref a) "tuple"
theorem u7 (hK:X.K=K):fC X (.builtin "isinstance") (fun xs H Q=>∃ (x:V) (t n:String) (b:Bool),xs=[x,.ty n]∧lC K H x t∧PySem.W.kitOne K (.type t) (.type n)=some b∧Q (.bl b) H):=by
 subst hK
 intro pins s σ H xs us Q I r h
 obtain ⟨x,t,n,b,rfl,ty,e,q⟩:=h
 obtain ⟨u,w',rfl,ru,rw'⟩:=pz r
 cases (show w'=Value.type n from rw')
 have fin:∀ tk,EP X pins σ Q (.bool b) { s with toks:=tk }:=fun tk=>⟨.bl b,H,I.tok tk,rfl,q⟩
 cases ty with
 | non=>cases (show u=Value.none from ru);exact PySem.W.kia_one PySem.W.kitx_none I.kIn True.intro e (fun z=>nomatch z) fin
 | bl y=>cases (show u=Value.bool y from ru);exact PySem.W.kia_one PySem.W.kitx_bool I.kIn True.intro e (fun z=>nomatch z) fin
 | int i=>obtain⟨t,q⟩:=(show ∃ t,u=Value.int i t from ru);cases q;exact PySem.W.kia_one PySem.W.kitx_int I.kIn True.intro e (fun z=>nomatch z) fin
 | str y=>obtain⟨t,q⟩:=(show ∃ t,u=Value.str y t from ru);cases q;exact PySem.W.kia_one PySem.W.kitx_str I.kIn True.intro e (fun z=>nomatch z) fin
 | @lst a xs hs =>
  cases (show u=Value.ref a from ru)
  obtain ⟨its,_,⟨o,n',h1,h2,_,_⟩,_⟩:=I.list hs
  exact PySem.W.kia_one PySem.W.kitx_list I.kIn ⟨o,h1,h2⟩ e (fun z=>nomatch z) fin
 | @tup a xs hs =>
  cases (show u=Value.ref a from ru)
  obtain ⟨its,_,⟨o,h1,h2,_⟩,_⟩:=I.tuple hs
  exact PySem.W.kia_one PySem.W.kitx_tuple I.kIn ⟨o,h1,h2⟩ e (fun z=>nomatch z) fin
noncomputable def isK (n:String) (d:PyData):Bool:=(jo d==n) || (n == "int" && jo d == "bool")
theorem yc (d:PyData):PySem.W.kitOne K (.type (jo d)) (.type "int")=some (isK "int" d):=by cases d <;> rfl
theorem ur (d:PyData):PySem.W.kitOne K (.type (jo d)) (.type "bool")=some (isK "bool" d):=by cases d <;> rfl
theorem uq (d:PyData):PySem.W.kitOne K (.type (jo d)) (.type "list")=some (isK "list" d):=by cases d <;> rfl
theorem ku (d:PyData):PySem.W.kitOne K (.type (jo d)) (.type "tuple")=some (isK "tuple" d):=by cases d <;> rfl
theorem Vw.kind (w:Vw K N H v d) (hd:∀ kvs,d≠.dict kvs):lC K H v (jo d):=by
 cases d with
 | none=>rw[w.none];exact .non
 | bool b=>rw[w.bool];exact .bl b
 | int b=>rw[w.int];exact .int b
 | str b=>cases w with|dn h=>cases h
 | list ds=>obtain⟨a,vs,rfl,s,q⟩:=w.list;exact .lst s
 | tuple ds=>obtain⟨a,vs,rfl,s,q⟩:=w.tuple;exact .tup s
 | dict kvs=>exact absurd rfl (hd kvs)
noncomputable def yZ:PyData→Bool
 | .dict _=>false
 | _=>true
theorem yZ.no {d:PyData} (h:yZ d=true):∀ kvs,d≠.dict kvs:=fun kvs e=>by subst e;cases h
noncomputable def dIs (n:String) (te:DE):DE:=fun env R=>te env fun s env1=>∃ d,aG env1 s=some d∧yZ d=true∧R (.fr (.bool (isK n d))) env1
theorem qp {n:Str}{T:String}{np:Pos} (hK:X.K=K) (kit:∀ d,PySem.W.kitOne K (.type (jo d)) (.type T)=some (isK T d)) (hg:Gl X "isinstance") (hm:X.mg "isinstance" = none) (hgn:Gl X n) (hmn:X.mg n=none) (hbn:bootBuiltins n=some (.type T)) (ha:PE X a (up K te))
  (he:starEach [a,.Name n np] X.env=(false,eval a X.env)::starEach [.Name n np] X.env:=by rfl) (he2:starEach [.Name n np] X.env=(false,eval (.Name n np) X.env)::starEach [] X.env:=by rfl)
  (hnn:n ≠ "__name__" := by decide) (hnd:(n==("__debug__" : Str))=false:=by decide) (hpl:(backTo pos (starEach [.Name n np] X.env)).any (·.1)=false:=by rfl) :
  PE X (.Call (.Name "isinstance" p) [a,.Name n np] [] pos) (up K (dIs T te)) :=
 (gc (u7 hK) hg hm PyProof.Rows.boot_isinstance (ff ha (ff (xQ (v:=.ty T) hgn hmn hbn rfl hnn hnd) j7 he2) he) (by decide) (by decide) he hpl).imp fun σ H Q h=>by
 obtain ⟨M,P,H0,σ0,env,ts,R,rel,ht,hq⟩:=h
 refine ⟨M,P,H0,σ0,env,ts,_,rel,ht,fun s1 env1 v1 H1 h1 rel1=>?_⟩
 obtain ⟨d,e1,nd,hR⟩:=h1
 have w:=rel1.view (v:=v1) (by simp) e1
 exact ⟨v1,jo d,T,isK T d,rfl,w.kind (yZ.no nd),kit d,hq _ _ _ _ hR (rel1.drop.addFr (.bl _))⟩
noncomputable def rV (i:Nat) (tj te:DE):DS:=fun DD env=>te env fun s env1=>(∃ ds,(env1[i]?).bind fY=some ds)∧tj env1 fun sj env2=>∃ d s0 ds z j s',aI env2 s=some d∧aG env2 sj=some (.int z)∧env2[i]? = some s0∧fY s0=some ds∧ixN ds.length z=some j ∧
 cH s0 (ds.set j d)=some s'∧DD.nx (env2.set i s')
theorem DNs.set:∀ {vs:List V}{ds:List PyData}{x:V}{d:PyData} (j:Nat),DNs K N H vs ds→DN K N H x d→DNs K N H (vs.set j x) (ds.set j d)
 | _,_,_,_,_,.nil,_=>.nil
 | _,_,_,_,0,.cons _ q,h=>.cons h q
 | _,_,_,_,j+1,.cons g q,h=>.cons g (q.set j h)
theorem xi (i:Nat) {y:Str}{npos spos:Pos}{j:Expr} (hN:X.N[i]? = some y) (hj:PE X j (up K tj)) (he:PE X e (up K te))
  (hv:Vis X.env.scope y:=by first|exact Or.inl rfl|exact Or.inr (Or.inl rfl)|exact Or.inr (Or.inr rfl)) (hd:(y==("__debug__" : Str))=false:=by decide)
  (hcd:(y==("__classdict__" : Str))=false:=by decide)
  (ha:∀ v,assign (.Subscript (.Name y npos) j spos) X.env v=(do
   let ov ←holding [v] (eval (.Name y npos) X.env)
   let iv ←holding [v,ov] (eval j X.env)
   standAt spos
   holding [v,ov,iv] (setItem ov iv v)
   release [v,ov,iv] []):=by intro _;rfl)
  (hs:swapsWithSole [.Subscript (.Name y npos) j spos] e pos.line X.env=pure false:=by rfl) (hw:swappedStores [.Subscript (.Name y npos) j spos] e X.env=pure none:=by rfl)
  (h1:(assignEach [.Subscript (.Name y npos) j spos] X.env).map (·.2)=[assign (.Subscript (.Name y npos) j spos) X.env]:=by rfl):PS X (.Assign [.Subscript (.Name y npos) j spos] e pos) (upS K (rV i tj te)) :=
 (vQ he (vR (cU hN hv hd hcd) hj tJ ha) hs hw h1).imp fun D σ H h=>by
 obtain ⟨M,P,H0,σ0,env,ts,DD,nv,rel,ht,ok⟩:=h
 refine ⟨M,P,H0,σ0,env,ts,_,rel,ht,fun s1 env1 v1 H1 h1 rel1=>?_⟩
 obtain ⟨⟨ds0,h0⟩,h1⟩:=h1
 obtain ⟨s0,e0,o0⟩:=jC h0
 obtain ⟨a,vs,ea,hH,_⟩:=rel1.mine e0 o0
 refine ⟨.ref a,ea,M,P,H0,σ0,env1,ts++[(v1,s1)],_,rel1,h1,fun s2 env2 v2 H2 h2 rel2=>?_⟩
 obtain ⟨d,s3,ds,z,jj,s',k,ez,e2,o2,ix,es,hR⟩:=h2
 have rel2':Rel K M P H0 σ0 σ env2 (ts++[(v1,s1),(v2,s2)]) H2:=by simpa using rel2
 obtain ⟨a',us,ea',hH',q⟩:=rel2'.drop.mine e2 o2
 rw [ea] at ea'
 cases ea'
 have dn:=rel2'.kept (v:=v1) (s:=s1) (by simp) k
 refine ⟨a,us,z,jj,rfl,(rel2.view (v:=v2) (by simp) ez).int,hH',by rw[q.len];exact ix,ok.nx _ _ _ hR (rel2'.drop.mut (ds:=ds) e2 es ea (q.set jj dn))⟩
noncomputable def lK (env:List Sl):Sl→Option Sl
 | .fr d=>some (.fr d)
 | .ow l=>some (.ow l)
 | .tr S d=>some (.tr S d)
 | .vw i=>(env[i]?).bind fun s=>match s with
  | .fr d=>some (.fr d)
  | .ow l=>some (.ow l)
  | _=>none
 | _=>none
noncomputable def fL:Sl→Sl
 | .io l=>.io l
 | _=>.un
noncomputable def iu (n:Nat) (env:List Sl):List Sl:=(env.take n).map fL
noncomputable def ml (n:Nat) (R:Sl→List Sl→Prop):mG where
 nx := fun env=>R (.fr .none) (iu n env)
 rt := fun s env=>∃ r,lK env s=some r∧R r (iu n env)
noncomputable def cu (n:Nat) (ss:List Sl):List Sl:=ss++Fd (n - ss.length) .un
theorem gp (m:Nat):∀ {vs:List V}{ss:List Sl},vs.length=ss.length→(vs.map some++Fd m none).zip (ss++Fd m Sl.un)=tmp (vs.zip ss)++Fd m (none,Sl.un)
 | [],[],_=>by simp[tmp]
 | v::vs,s::ss,h=>by
  show (some v,s)::(vs.map some++Fd m none).zip (ss++Fd m Sl.un)=_
  rw [gp m (by simpa using h)]
  rfl
 | [],_::_,h=>by simp at h
 | _::_,[],h=>by simp at h
theorem qT (m:Nat):oas (Fd m ((none,Sl.un):Ent))=[]:=by
 unfold oas
 rw [List.flatMap_eq_nil_iff]
 intro e he
 rw [(List.mem_replicate.mp he).2]
 rfl
theorem rJ:∀ {vs:List V}{σ:St}{env:List Sl},σ.length=env.length→(∀ (j:Nat) (l:List PyData),env[j]? = some (.io l)→j<vs.length→σ[j]? = (vs[j]?).map some)→(oas (tmp (vs.zip (iu vs.length env)))).Sublist (oas (σ.zip env))
 | [],σ,env,_,_=>by simp[tmp,oas]
 | v::vs,[],[],_,_=>by simp[tmp,oas,iu]
 | v :: vs,x::σ,s::env,hl,h=>by
  have ih:=rJ (vs:=vs) (σ:=σ) (env:=env) (by simpa using hl) fun j l e hj=>by
   have:=h (j+1) l (by simpa using e) (by simpa using hj)
   simpa using this
  show (oas ((some v,fL s)::tmp (vs.zip (iu vs.length env)))).Sublist (oas ((x,s)::σ.zip env))
  rw [ak,ak]
  cases s with
  | io l =>
   have e0:=h 0 l rfl (by simp)
   simp at e0
   subst e0
   exact List.Sublist.append (List.Sublist.refl _) ih
  | _ =>
   simp only [fL,gL]
   exact ih.trans (List.sublist_append_right _ _)
 | _::_,[],_::_,hl,_=>by simp at hl
 | _::_,_::_,[],hl,_=>by simp at hl
theorem Rel.fin {vs:List V}{r:Sl}{n:Nat} (rel:Rel K M P H0 (start N' vs) σ env [(v,r)] H) (hn:n=vs.length) (hr:kB r=true):bq K M P H0 (tmp ((v,r)::vs.zip (iu n env))) H:=by
 subst hn
 have hio:∀ (j:Nat) (l:List PyData),env[j]? = some (.io l)→j<vs.length→σ[j]? = (vs[j]?).map some:=fun j l e hj=>by
  rw [rel.ios j l e]
  unfold start
  rw [Es (by simpa using hj),EM]
 have hE:=rel.e
 refine hE.sub (fun x s m=>?_) ?_
 ·rw [dH] at m
  rcases En.mp m with m|m
  ·cases m
   exact .inl (d6 (by simp))
  ·obtain ⟨⟨w,s'⟩,m1,e⟩:=Em.mp m
   cases e
   obtain ⟨j,hj,e⟩:=Ex m1
   rw [Fj] at e
   have hj':=hj
   rw [E8] at hj'
   have e1:vs[j]'(by omega)=w:=(Prod.mk.inj e).1
   have e2:(iu vs.length env)[j]'(by omega)=s':=(Prod.mk.inj e).2
   have hje:j<env.length:=by
    have:(iu vs.length env).length=min vs.length env.length:=by simp[iu]
    omega
   have e3:s'=fL env[j]:=by
    rw [←e2]
    simp [iu]
   cases q:env[j] with
   | io l =>
    rw [q] at e3
    subst e3
    have eq:env[j]? = some (.io l):=by rw[D8 hje,q]
    have e4:=hio j l eq (by omega)
    obtain ⟨x,e5,m5⟩:=rel.slot eq
    rw [e5,D8 (by omega:j<vs.length),e1] at e4
    have e4:x=some w:=Option.some.inj e4
    subst e4
    exact .inl m5
   | _=>rw[q] at e3;subst e3;exact .inr (.inl rfl)
 ·have nd:=hE.nd
  have eE:ay σ env [(v,r)]=σ.zip env++[(some v,r)]:=rfl
  rw [eE,ah] at nd
  obtain ⟨n1,n2,n3⟩:=Ei.mp nd
  have sub:=rJ rel.len hio
  rw [dH,show ((some (v,r).1,(v,r).2):Ent)::tmp (vs.zip (iu vs.length env))=[(some v,r)]++tmp (vs.zip (iu vs.length env)) from rfl,ah]
  exact Ei.mpr ⟨n2,n1.sublist sub,fun x hx y hy z=>n3 y (sub.subset hy) x hx z.symm⟩
end
section
variable {K:PySem.W.Frag}{M P N:Addr→Prop}{H0 H H':Hp}{E A B:List Ent}{σ0 σ:St}{env:List Sl}{ts tt kp:List (V×Sl)}{v:V}{s:Sl}{d:PyData}
theorem Rel.take {i:Nat}{l:List PyData} (h:Rel K M P H0 σ0 σ env [(v,.vw i)] H) (e:env[i]? = some (.ow l)):Rel K M P H0 σ0 σ (env.set i .un) [(v,.ow l)] H:=by
 obtain ⟨x,A,B,e1,q1,q2⟩:=h.split e
 have ev:=h.vw v i (by simp)
 rw [e1] at ev
 have ev:x=some v:=Option.some.inj ev
 subst ev
 have z1:ay σ env [(v,.vw i)]=σ.zip env++[(some v,.vw i)]:=rfl
 obtain ⟨x2,e3,m2⟩:=pv h.len e
 have ez:(σ.zip env)[i]? = some (some v,.ow l):=by rw[dw,e1,e];rfl
 obtain ⟨A2,B2,r1,r2⟩:=eM ez
 have hE:=h.e
 rw [z1,r1] at hE
 have en:ay σ (env.set i .un) [(v,.ow l)]=(A2++(some v,.un)::B2)++[(some v,.ow l)]:=by
  show σ.zip (env.set i .un)++[(some v,.ow l)]=_
  rw [pr e1,r2]
 refine ⟨?_,by simp[h.len],fun w j m=>(by rw[Eb] at m;cases m),fun j l' e'=>?_⟩
 ·rw [en]
  refine hE.sub (fun x s m=>?_) ?_
  ·rcases Ed.mp m with m|m
   ·rcases Ed.mp m with m|m
    ·exact .inl (Ec _ (Ec _ m))
    ·rcases En.mp m with m|m
     ·cases m;exact .inr (.inl rfl)
     ·exact .inl (Ec _ (D9 _ (Ej _ m)))
   ·rw [Eb] at m
    cases m
    exact .inl (Ec _ (D9 _ Eh))
  ·have nd:=hE.nd
   have ov:oas [(some v,Sl.vw i)]=[]:=by rw[ak,gK];rfl
   rw [ah,ah,ak,ov,EK] at nd
   have oo:oas [(some v,Sl.ow l)]=cO (some v,Sl.ow l):=by rw[ak];simp[oas]
   rw [ah,ah,ak,gL,oo]
   obtain ⟨n1,n2,n3⟩:=Ei.mp nd
   obtain ⟨n4,n5,n6⟩:=Ei.mp n2
   refine Ei.mpr ⟨Ei.mpr ⟨n1,n5,fun x hx y hy=>n3 x hx y (D9 _ hy)⟩,n4,fun x hx y hy z=>?_⟩
   subst z
   rcases Ed.mp hx with hx|hx
   ·exact n3 x hx x (Ec _ hy) rfl
   ·exact n6 x hy x hx rfl
 ·by_cases hj:i=j
  ·subst hj
   rw [EG (Ef.mp e).1] at e'
   cases e'
  ·rw [EF hj] at e'
   exact h.ios j l' e'
theorem ym {i n:Nat}{l:List PyData} (e:env[i]? = some (.ow l)):iu n (env.set i .un)=iu n env:=by
 unfold iu
 apply List.ext_getElem?
 intro j
 rw [EM,EM,List.getElem?_take,List.getElem?_take]
 by_cases hj:i=j
 ·subst hj
  rw [EG (Ef.mp e).1,e]
  split <;> rfl
 ·rw [EF hj]
theorem Rel.told {n:Nat}{r:Sl} (h:Rel K M P H0 σ0 σ env [(v,s)] H) (e:lK env s=some r):∃ env',Rel K M P H0 σ0 σ env' [(v,r)] H∧iu n env'=iu n env∧kB r=true:=by
 cases s with
 | fr d=>cases e;exact⟨env,h,rfl,rfl⟩
 | tr S d=>cases e;exact⟨env,h,rfl,rfl⟩
 | ow l=>cases e;exact⟨env,h,rfl,rfl⟩
 | vw i =>
  have e:(env[i]?).bind _=some r:=e
  cases q:env[i]? with
  | none=>rw[q] at e;cases e
  | some s' =>
   rw [q] at e
   cases s' with
   | fr d =>
    cases e
    have hs:ia env (.vw i)=some (.fr d):=by
     show ((env[i]?).bind slK).map Sl.fr=_
     rw [q];rfl
    have:=(Rel.unVw (ts:=[]) (by simpa using h) hs).1
    exact ⟨env,by simpa using this,rfl,rfl⟩
   | ow l=>cases e;exact⟨env.set i .un,h.take q,ym q,rfl⟩
   | _=>cases e
 | _=>cases e
end
section
variable {P:Program}{w:World}{K:PySem.W.Frag}{mg:Str→Option Value}{base:Heap}
theorem okD {x:Str}{st:Stmt}{f:Addr}{fd:FuncData}{N ps:List Str}{k:Nat}{sp:DSp} (F:Fun K x x st f fd) (S:ar N ps (ad st)) (len:∀ ss R,sp ss R→ss.length=ps.length) (hN:ps.length≤N.length)
  (hb:∀ (cdv:Value) (A:Around) (outer:List Env) (s:Shared) (H:Hp) (E:XK),cY k (A.deeper (envOfC x (ad st) s.heap.objs.size f cdv)) →
   ∃ t:DS,PSs (oq CX0 P w K mg base N x (ad st) f cdv A outer s H E).nox (ce st) (upS K t)∧∀ ss R,sp ss R→t (ml ps.length R) (cu N.length ss)):cG P w K mg base CX0 (k+1) f fd ps (spD K sp):=by
 refine F.ok S (fun vs H Q E h=>?_) fun cdv A outer s H vs Q E hr h=>?_
 ·obtain ⟨M,ss,R,hl,_,hsp,_⟩:=h
  rw [hl]
  exact len ss R hsp
 obtain ⟨M,ss,R,hl,hE,hsp,hq⟩:=h
 have hn:=len ss R hsp
 obtain ⟨t,ht,hr'⟩:=hb cdv A outer s H E hr
 have ez:ay (start N vs) (cu N.length ss) []=tmp (vs.zip ss)++Fd (N.length - vs.length) (none,Sl.un):=by
  show (start N vs).zip (cu N.length ss)++[]=_
  unfold start cu
  rw [EK,←hl]
  exact gp _ hl
 refine ⟨_,ht,M,sX vs ss,H,start N vs,cu N.length ss,[],ml ps.length R,fun w i m=>(by cases m),⟨?_,by simp[start,cu,hl],fun w i m=>(by cases m),fun i l e=>rfl⟩,hr' ss R hsp,⟨fun σ' env' H' q r=>?_,fun s env' v σ' H' q r=>?_,fun σ' env' H' q r=>(show False from q),fun σ' env' H' q r=>(show False from q)⟩⟩
 ·rw [ez]
  refine hE.sub (fun x s m=>?_) (by rw[ah,qT,EK];exact hE.nd)
  rcases Ed.mp m with m|m
  ·exact .inl m
  ·have:=(List.mem_replicate.mp m).2
   cases this
   exact .inr (.inl rfl)
 ·have r2:=(Rel.addFr r (v:=.non) (d:=.none) .non)
  have r2:Rel K M (sX vs ss) H (start N vs) σ' env' [(.non,.fr .none)] H':=by simpa using r2
  exact hq _ _ _ _ q rfl (r2.fin (by omega) rfl)
 ·obtain ⟨r0,e0,hR⟩:=q
  have r1:Rel K M (sX vs ss) H (start N vs) σ' env' [(v,s)] H':=by simpa using r
  obtain ⟨env2,r2,ef,hr0⟩:=r1.told (n:=ps.length) e0
  exact hq r0 _ v H' hR hr0 (by rw[←ef];exact r2.fin (by omega) hr0)
theorem Dr {x:Str}{st:Stmt}{f:Addr}{N ps:List Str}{k:Nat}{sp:DSp}{kV doc pm cdv ct oc:Value}{an od:Option Addr}{osl:Array (Option Value)}
  (hb:∀ (A:Around) (outer:List Env) (s:Shared) (H:Hp) (E:XK),cY k (A.deeper (envOfC x (ad st) s.heap.objs.size f cdv)) →
   ∃ t:DS,PSs (oq CX0 P w K mg base N x (ad st) f cdv A outer s H E).nox (ce st) (upS K t)∧∀ ss R,sp ss R→t (ml ps.length R) (cu N.length ss))
  (lk:K.lookup f=some ⟨oc,od,.func (PySem.W.fnOf x x (dG st) (ce st) (ad st) .none kV doc pm an cdv ct),osl⟩) (hcd:PySem.W.codeIn K cdv x=true) (S:ar N ps (ad st)) (len:∀ ss R,sp ss R→ss.length=ps.length) (hN:ps.length≤N.length):cG P w K mg base CX0 (k+1) f (PySem.W.fnOf x x (dG st) (ce st) (ad st) .none kV doc pm an cdv ct) ps (spD K sp):=by
 refine AH lk hcd S (fun vs H Q E h=>?_) fun A outer s H vs Q E hr h=>?_
 ·obtain ⟨M,ss,R,hl,_,hsp,_⟩:=h
  rw [hl]
  exact len ss R hsp
 obtain ⟨M,ss,R,hl,hE,hsp,hq⟩:=h
 have hn:=len ss R hsp
 obtain ⟨t,ht,hr'⟩:=hb A outer s H E hr
 have ez:ay (start N vs) (cu N.length ss) []=tmp (vs.zip ss)++Fd (N.length - vs.length) (none,Sl.un):=by
  show (start N vs).zip (cu N.length ss)++[]=_
  unfold start cu
  rw [EK,←hl]
  exact gp _ hl
 refine ⟨_,ht.nox,M,sX vs ss,H,start N vs,cu N.length ss,[],ml ps.length R,fun w i m=>(by cases m),⟨?_,by simp[start,cu,hl],fun w i m=>(by cases m),fun i l e=>rfl⟩,hr' ss R hsp,⟨fun σ' env' H' q r=>?_,fun s env' v σ' H' q r=>?_,fun σ' env' H' q r=>(show False from q),fun σ' env' H' q r=>(show False from q)⟩⟩
 ·rw [ez]
  refine hE.sub (fun x s m=>?_) (by rw[ah,qT,EK];exact hE.nd)
  rcases Ed.mp m with m|m
  ·exact .inl m
  ·have:=(List.mem_replicate.mp m).2
   cases this
   exact .inr (.inl rfl)
 ·have r2:=(Rel.addFr r (v:=.non) (d:=.none) .non)
  have r2:Rel K M (sX vs ss) H (start N vs) σ' env' [(.non,.fr .none)] H':=by simpa using r2
  exact hq _ _ _ _ q rfl (r2.fin (by omega) rfl)
 ·obtain ⟨r0,e0,hR⟩:=q
  have r1:Rel K M (sX vs ss) H (start N vs) σ' env' [(v,s)] H':=by simpa using r
  obtain ⟨env2,r2,ef,hr0⟩:=r1.told (n:=ps.length) e0
  exact hq r0 _ v H' hR hr0 (by rw[←ef];exact r2.fin (by omega) hr0)
theorem Da {x:Str}{st:Stmt}{f:Addr}{fd:FuncData}{k:Nat}{ps:List Str}{sp:DSp} (F:Fun K x x st f fd) (m:mg x=some (.ref f)) (b:bu K fd ps []) (G:cG P w K mg base CX0 k f fd ps (spD K sp)):Cal P w K mg base x k (spD K sp):=Cal.mk F m b G
end
section
variable {X:Cx}{x:Str}{p pos:Pos}{e:Expr}{es:List Expr}{k:Nat}{sp:DSp}{K:PySem.W.Frag}{tl:DA}
theorem az (C:Cal X.prog X.w X.K X.mg X.base x k (spD K sp)) (hr:cY k X.A) (hg:Gl X x) (ha:PA X (e::es) (upA K tl)) (hd:(x==("__debug__" : Str))=false:=by decide)
  (he:starEach (e::es) X.env=(false,eval e X.env)::starEach es X.env:=by rfl) (hpl:(backTo pos (starEach es X.env)).any (·.1)=false:=by rfl):PE X (.Call (.Name x p) (e::es) [] pos) (up K (sf sp tl)):=(qI C hr hg ha hd he hpl).imp yT
theorem gF (m:Nat) (C:Cal X.prog X.w X.K X.mg X.base x k (spD K sp)) (hr:cY k X.A) (hg:Gl X x) (ha:PA X (e::es) (upA K tl)) (hd:(x==("__debug__" : Str))=false:=by decide)
  (he:starEach (e::es) X.env=(false,eval e X.env)::starEach es X.env:=by rfl) (hpl:(backTo pos (starEach es X.env)).any (·.1)=false:=by rfl):PE X (.Call (.Name x p) (e::es) [] pos) (up K (kY sp m tl)):=(qI C hr hg ha hd he hpl).imp vc
theorem qt (C:Cal X.prog X.w X.K X.mg X.base x k (spD K sp)) (hr:cY k X.A) (hg:Gl X x) (ha:PA X (e::es) (upA K tl)) (hd:(x==("__debug__" : Str))=false:=by decide)
  (he:starEach (e::es) X.env=(false,eval e X.env)::starEach es X.env:=by rfl) (hpl:(backTo pos (starEach es X.env)).any (·.1)=false:=by rfl):PE X (.Call (.Name x p) (e::es) [] pos) (up K (om sp tl)):=(qI C hr hg ha hd he hpl).imp u9
end
noncomputable def Bm:G1:=fun d R=>∃ i,d=.int i∧R (.int (-i))
theorem Bj {K:PySem.W.Frag}:∀ (N:Addr→Prop) (H:Hp) (x:V) (d1:PyData) (R:PyData→Prop) (Q:VK),Vw K N H x d1→Bm d1 R→(∀ d v,R d→DN K N H v d→Q v H)→(rU fun i=>.int (-i)) x H Q:=by
 rintro N H x d R Q w ⟨i,rfl,hR⟩ hq
 exact ⟨i,w.int,hq _ _ hR (.int _)⟩
noncomputable abbrev li (ns:List Int):List PyData:=ns.map .int
theorem bp {ds:List PyData}{g:DG}{tb:DS}{DD:mG}{env:List Sl} (W:Nat→List Sl→Prop) (h0:W 0 env)
  (hs:∀ i env,(h:i<ds.length)→W i env→g ds[i] env fun env2=>tb { DD with nx:=dI (W (i+1)) ⟨⟩,ct:=dI (W (i+1)) ⟨⟩,bk:=DD.nx } env2) (hd:∀ env,W ds.length env→DD.nx env):FD ds g tb DD env:=⟨W,h0,hs,hd⟩
theorem cj {ds:List PyData}{ix:List (Option Nat)}{g:DG}{te:DE}{env:List Sl}{R:Sl→List Sl→Prop} (f:Nat→PyData) (hz:ds.length≤1000000)
  (h : ∀ i,(h:i<ds.length)→∀ Q:PyData→Prop,Q (f i)→g ds[i] (gl ix env) fun b1=>te b1 fun s b3=>∃ d,aI b3 s=some d∧Q d) (hR:R (.ow ((List.range ds.length).map f)) env):CD ds ix g AZ te env R:=by
 refine ⟨fun i rs=>rs=(List.range i).map f∧i≤ds.length,⟨rfl,Ez _⟩,fun i rs hi w=>?_,fun rs w=>by rw[w.1];exact hR⟩
 obtain ⟨rfl,_⟩:=w
 refine ⟨by rw[D7,EE];exact Ep (by omega) ae,?_⟩
 have:=h i hi (fun d=>(List.range i).map f++[d]=(List.range (i+1)).map f∧i+1≤ds.length) ⟨by rw[FM,EH];rfl,hi⟩
 simpa only [AZ,if_true] using this
theorem bE {ds:List PyData}{ix:List (Option Nat)}{g:DG}{tt:DT}{te:DE}{env:List Sl}{R:Sl→List Sl→Prop} (p:Nat→Bool) (f:Nat→PyData) (hz:ds.length≤1000000)
  (h : ∀ i,(h:i<ds.length)→∀ (Q:PyData→Prop) (Q':Prop),(p i=true→Q (f i))→(p i=false→Q')→g ds[i] (gl ix env) fun b1=>tt b1 fun k b2=>if k=true then te b2 fun s b3=>∃ d,aI b3 s=some d∧Q d else Q')
  (hR:R (.ow (((List.range ds.length).filter p).map f)) env):CD ds ix g tt te env R:=by
 refine ⟨fun i rs=>rs=((List.range i).filter p).map f∧i≤ds.length,⟨rfl,Ez _⟩,fun i rs hi w=>?_,fun rs w=>by rw[w.1];exact hR⟩
 obtain ⟨rfl,_⟩:=w
 refine ⟨?_,?_⟩
 ·have:=EU p (List.range i)
  rw [EE] at this
  rw [D7]
  exact Ep (by omega) ae
 ·refine h i hi _ _ (fun e=>⟨?_,hi⟩) (fun e=>⟨?_,hi⟩)
  ·rw [FM,Fk,EH]
   simp [e]
  ·rw [FM,Fk,EH]
   simp [e]
noncomputable def Bg (i:Int):Prop:=i.natAbs<2 ^ 8000
noncomputable def D2 (i j:Int):Prop:=Bg i∧Bg j
section
variable {X:Cx}{K:PySem.W.Frag}
end
end _L
namespace _L
open PySem
end _L
namespace _L
open PySem PySem.Spec PyProof.Rows
section
variable (env:List Sl) (d:PyData) (l:List PyData) (i n:Nat) (s:Sl) (R:Sl→List Sl→Prop)
theorem mN:aG env (.fr d)=some d:=rfl
theorem mL:aG env (.ow l)=some (.list l):=rfl
theorem mM:aG env (.io l)=some (.list l):=rfl
theorem mJ:aG env (.vw i)=(env[i]?).bind slD:=rfl
theorem vG:slD (.fr d)=some d:=rfl
theorem vE:slD (.ow l)=some (.list l):=rfl
theorem vF:slD (.io l)=some (.list l):=rfl
theorem vC:slD .un=none:=rfl
theorem vD {S:List Addr}{kvs:List (PyData×PyData)}:slD (.tr S (.dict kvs))=some (.dict kvs):=rfl
theorem mK {S:List Addr}{kvs:List (PyData×PyData)}:aG env (.tr S (.dict kvs))=some (.dict kvs):=rfl
theorem vB:slK (.fr d)=some d:=rfl
theorem vz:slK (.ow l)=none:=rfl
theorem vA:slK (.io l)=none:=rfl
theorem vy:slK .un=none:=rfl
theorem kA:aI env (.fr d)=some d:=rfl
theorem kz:aI env (.ow l)=some (.list l):=rfl
theorem kx:aI env (.vw i)=(env[i]?).bind slK:=rfl
theorem mU:ia env (.fr d)=some (.fr d):=rfl
theorem mT:ia env (.ow l)=some (.ow l):=rfl
theorem mS {S:List Addr}:ia env (.tr S d)=some (.tr S d):=rfl
theorem nj {S:List Addr}:lK env (.tr S d)=some (.tr S d):=rfl
theorem ky {S:List Addr}:aI env (.tr S d)=some d:=rfl
theorem mR:ia env (.vw i)=((env[i]?).bind slK).map .fr:=rfl
noncomputable def BO:Sl→Option Sl
 | .fr d=>some (.fr d)
 | .ow l=>some (.ow l)
 | _=>none
theorem nr:lK env (.fr d)=some (.fr d):=rfl
theorem nq:lK env (.ow l)=some (.ow l):=rfl
theorem ni:lK env (.vw i)=(env[i]?).bind BO:=by
 show (env[i]?).bind _=_
 congr 1
theorem qd:BO (.fr d)=some (.fr d):=rfl
theorem qc:BO (.ow l)=some (.ow l):=rfl
theorem kJ:fL (.fr d)=.un:=rfl
theorem kH:fL (.ow l)=.un:=rfl
theorem kI:fL (.io l)=.io l:=rfl
theorem kG:fL .un=.un:=rfl
theorem nW:(ml n R).rt s env=∃ r,lK env s=some r∧R r (iu n env):=rfl
theorem nX:(ml n R).nx env=R (.fr .none) (iu n env):=rfl
theorem m6:cH (.ow l) d'=some (.ow d'):=rfl
theorem m8:cH (.io l) d'=some (.io d'):=rfl
theorem qK:fY (.ow l)=some l:=rfl
theorem qL:fY (.io l)=some l:=rfl
theorem qM:fY (.fr d)=none:=rfl
theorem qJ:fY .un=none:=rfl
theorem oB:k4 (some (.fr d))=.fr d:=rfl
theorem oz:k4 (some (.ow l))=.un:=rfl
theorem oA:k4 (some (.io l))=.un:=rfl
theorem oy:k4 (some .un)=.un:=rfl
theorem k8:CK env none=.un:=rfl
theorem k7:CK env (some i)=k4 env[i]?:=rfl
theorem iH:eG (.list l)=some l:=rfl
theorem gw:eG (.tuple l)=some l:=rfl
theorem jP:wV .none=some false:=rfl
theorem jR (b:Bool):wV (.bool b)=some b:=rfl
theorem mO (i:Int):wV (.int i)=some (i != 0):=rfl
theorem jQ:wV (.list l)=some (!l.isEmpty):=rfl
theorem iC:wV (.tuple l)=some (!l.isEmpty):=rfl
theorem kC:lD .none=true:=rfl
theorem nJ (i:Int):lD (.int i)=false:=rfl
theorem kE (i:Bool):lD (.bool i)=false:=rfl
theorem kD:lD (.list l)=false:=rfl
theorem iP:lD (.tuple l)=false:=rfl
theorem rD (i:Int):isK "int" (.int i)=true:=rfl
theorem nL (b:Bool):isK "bool" (.bool b)=true:=rfl
theorem v9 (b:Bool):isK "int" (.bool b)=true:=rfl
theorem wd (i:Int):isK "bool" (.int i)=false:=rfl
theorem nK:isK "list" (.list l)=true:=rfl
theorem kF:isK "tuple" (.tuple l)=true:=rfl
theorem v5:isK "list" (.tuple l)=false:=rfl
theorem v4:isK "tuple" (.list l)=false:=rfl
theorem v7:isK "int" .none=false:=rfl
theorem wb:isK "bool" .none=false:=rfl
theorem gO:aZ env []=some []:=rfl
theorem fK (s:Sl) (ss:List Sl):aZ env (s::ss)=(aI env s).bind fun d=>(aZ env ss).bind fun ds=>some (d::ds):=rfl
theorem iB:eB env []=some []:=rfl
theorem gq (s:Sl) (ss:List Sl):eB env (s::ss)=(aG env s).bind fun d=>(eB env ss).bind fun ds=>some (d::ds):=rfl
theorem nU (i j:Int):PyData.eqv (.int i) (.int j)=decide (i=j):=by
 show (i==j)=_
 by_cases h:i=j <;> simp[h]
end
section
variable {X:Cx}{K:PySem.W.Frag}{ta:DA}{a b:Expr}{pos:Pos}
end
theorem wL {α:Type} (x:α) (l:List α):atI (x::l) 0=some x:=dm (j:=0) rfl
theorem wK {α:Type} (x y:α) (l:List α):atI (x::y::l) 1=some y:=dm (j:=1) rfl
theorem wJ {α:Type} (x y z:α) (l:List α):atI (x::y::z::l) 2=some z:=dm (j:=2) rfl
theorem wH {α:Type} (a b c d x:α) (l:List α):atI (a::b::c::d::x::l) 4=some x:=dm (j:=4) rfl
theorem wG {α:Type} (a b c d e x:α) (l:List α):atI (a::b::c::d::e::x::l) 5=some x:=dm (j:=5) rfl
theorem wF {α:Type} (a b c d e f x:α) (l:List α):atI (a::b::c::d::e::f::x::l) 6=some x:=dm (j:=6) rfl
theorem wE {α:Type} (a b c d e f g x:α) (l:List α):atI (a::b::c::d::e::f::g::x::l) 7=some x:=dm (j:=7) rfl
theorem nS:PyData.eqv .none .none=true:=rfl
theorem wn (i:Int):PyData.eqv .none (.int i)=false:=rfl
theorem wo (i:Int):PyData.eqv (.int i) .none=false:=rfl
theorem pZ (i:Int):shp (.int i)=True:=by simp[shp,SeqAt.shaped,PySem.PyData.canLay0,PySem.PyData.depth]
theorem mZ:shp .none=True:=by simp[shp,SeqAt.shaped,PySem.PyData.canLay0,PySem.PyData.depth]
theorem m4 (b:Bool):shp (.bool b)=True:=by simp[shp,SeqAt.shaped,PySem.PyData.canLay0,PySem.PyData.depth]
theorem wI {α:Type} (x y z u:α) (l:List α):atI (x::y::z::u::l) 3=some u:=dm (j:=3) rfl
theorem Ao {K:PySem.W.Frag}{H:Hp}{a:Addr}{ns:List Int}{E:XK} (hS:SqL K H a (ns.map V.int)) {sp:DSp} (h:sp [.fr (.list (li ns))] (fun r _=>r=.fr (.bool true))):spD K sp [.ref a] H (fun v _=>v=.bl true) E:=by
 have dns:DNs K (fun _=>False) H [.ref a] [.list (li ns)]:=.cons (DN.sqL hS) .nil
 refine ⟨fun _=>False,[.fr (.list (li ns))],_,rfl,wN (ds:=[.list (li ns)]) dns (fun a z=>z.elim),h,fun r ss' v H' hR _ post=>?_⟩
 subst hR
 obtain ⟨w,e,dn⟩:=post.fr _ _ Eh
 cases e
 cases dn
 rfl
theorem BC {l:PySem.W.OpenLaw}{q:Program}{loose:List Str}{XP:(Str→Option Value)→Heap→Prop}{YP:World→Heap→Prop}{d:DefRec}{K:Params→PySem.W.Frag}{sp:DSp}{k:Nat} (hk:k≤40) (hn:l.most=some 63) (hdf:d.params.defaults=[])
  (hsp:∀ ns:List Int,ns.length≤63→sp [.fr (.list (li ns))] (fun r _=>r=.fr (.bool true)))
  (hTb:∀ (w:World) (s₀:Shared) (mg mb:Str→Option Value) (h:Heap),PySem.W.Ground q loose [] XP w s₀ mg mb h→(K w.params).In h→∃ tb:List (Addr×Str),(∀ b q,tb.lookup b=some q→h.get? b=some { cls:=.none,data:=.fields #[] }∧(K w.params).lookup b=none∧∃ c,h.TableAt c b #[])∧∀ T q,hV (K w.params) T q→tb.lookup T=some q)
  (hY:∀ (w:World) (h:Heap),YP w h→(K w.params).In h)
  (F : ∀ (w:World) (mg:Str→Option Value) (fa:Addr) (h:Heap),(K w.params).In h→h.Ns mainGlobals mg→mg d.name=some (.ref fa) →
   ∃ fd:FuncData,(∀ (s:Shared) (u:Value),BindsTo s fd ⟨[u],[]⟩ [("_law_script",u)])∧∀ base:Heap,(K w.params).In base→base.Ns mainGlobals mg→cG l.prog w (K w.params) mg base CX0 k fa fd ["_law_script"] (spD (K w.params) sp)) :
  PySem.W.WalkO q loose XP YP l.row.toRowW d [] (fun f vs=>PySem.call f vs):=by
 refine _L.wU (n:=63) (k:=40) (x := "_law_script") (CX:=fun _=>CX0) (sp:=fun w=>spD (K w.params) sp) hn (by decide) hdf ⟨rfl,by decide,by decide⟩ hTb hY (fun w mg fa h a b c=>?_) (fun w H a ns hl _ hS=>Ao hS (hsp ns hl)) fun _ _ _ _ _ z=>z
 obtain ⟨fd,h1,h2⟩:=F w mg fa h a b c
 exact ⟨fd,h1,fun base x y=>(h2 base x y).mono hk⟩
noncomputable def Sh (n:Nat) (d:PyData):Prop:=d.canLay0=true∧d.depth≤n
theorem Sh.int (n:Nat) (i:Int):Sh n (.int i):=⟨by simp[PyData.canLay0],by simp[PyData.depth]⟩
theorem Sh.all {n:Nat}:∀ {ds:List PyData},(∀ x∈ds,Sh n x)→PyData.canLayAll0 ds=true∧PyData.depthAll ds≤n
 | [],_=>⟨by simp[PyData.canLayAll0],by simp[PyData.depthAll]⟩
 | d::ds,h=>by
  have h1:=h d Eh
  have h2:=Sh.all fun x hx=>h x (Ej _ hx)
  refine ⟨by rw[PyData.canLayAll0,h1.1,h2.1];rfl,?_⟩
  rw [PyData.depthAll]
  have a:=h1.2
  have b:=h2.2
  omega
theorem Sh.list {n:Nat}{ds:List PyData} (h:∀ x∈ds,Sh n x):Sh (n+1) (.list ds):=by
 obtain ⟨a,b⟩:=Sh.all h
 exact ⟨by rw[PyData.canLay0];exact a,by rw[PyData.depth];omega⟩
theorem Sh.tuple {n:Nat}{ds:List PyData} (h:∀ x∈ds,Sh n x):Sh (n+1) (.tuple ds):=by
 obtain ⟨a,b⟩:=Sh.all h
 exact ⟨by rw[PyData.canLay0];exact a,by rw[PyData.depth];omega⟩
theorem Sh.ints (n:Nat) (ns:List Int):Sh (n+1) (.list (li ns)):=Sh.list fun x hx=>by
 obtain ⟨i,_,rfl⟩:=Em.mp hx
 exact Sh.int _ _
theorem Sh.intT (n:Nat) (ns:List Int):Sh (n+1) (.tuple (li ns)):=Sh.tuple fun x hx=>by
 obtain ⟨i,_,rfl⟩:=Em.mp hx
 exact Sh.int _ _
theorem Sh.shp {n:Nat}{d:PyData} (h:Sh n d) (hn:n≤64):shp d:=by
 show SeqAt.shaped d=true
 unfold SeqAt.shaped
 rw [h.1,decide_eq_true (Eg h.2 hn)]
 rfl
theorem b7 {ns:List Int}{k:Nat} (h:k<ns.length):atI (li ns) (k:Int)=some (.int (ns.getD k 0)):=dm (by
 rw [EM,D8 h,Ea,D8 h]
 rfl)
theorem cV {ns:List Int}{i:Nat} (h:i<(li ns).length):(li ns)[i]=.int (ns.getD i 0):=by
 have h':i<ns.length:=by simpa using h
 simp [Ea,D8 h']
theorem An (ns:List Int) (i:Nat) (x:Int):(li ns).set i (.int x)=li (ns.set i x):=by simp[List.map_set]
theorem jk (ns:List Int) (x:Int):li ns++[.int x]=li (ns++[x]):=by simp
theorem uh (n:Nat) (f:Nat→Int):(List.range n).map (fun i=>PyData.int (f i))=li ((List.range n).map f):=by
 show _=List.map _ (List.map _ _)
 rw [EI]
 rfl
theorem ox {i j:Int} (h0:-18446744073709551616<i) (h1:i<18446744073709551616):Bd i j:=.inl ⟨h0,h1⟩
theorem wB {i j:Int} (h0:-18446744073709551616<j) (h1:j<18446744073709551616):Bd i j:=.inr ⟨h0,h1⟩
@[irreducible] def dNx (u:DS):DS:=u
theorem wy (u:DS):dNx u=u:=by unfold dNx;rfl
theorem nx {u:DS}{DD:mG}{env:List Sl} (h:u DD env):dNx u DD env:=by rw[wy];exact h
theorem aj {X:Cx}{K:PySem.W.Frag}{st:Stmt}{dc:List Stmt}{t u:DS} (h1:PS X st (upS K t)) (h2:PSs X dc (upS K u)):PSs X (st::dc) (upS K (A3 t (dNx u))):=by rw[wy];exact bz h1 h2
end _L
namespace _L
theorem place {x:Int}{n:Nat} (h:0<n):∃ a:Nat,x % (n:Int)=(a:Int)∧a<n:=by
 have h0:=Fl x (show (n:Int)≠0 by omega)
 have h1:=E9 x (show (0:Int)<n by omega)
 exact ⟨(x % (n:Int)).toNat,by omega,by omega⟩
end _L
namespace _L
open PySem PySem.Spec PyProof.Rows
section
variable {X:Cx}{K:PySem.W.Frag}
end
noncomputable def Pl:Nat→PyData→Prop
 | 0,d=>∃ i,d=.int i
 | n+1,d=>(∃ i,d=.int i)∨∃ ds:List PyData,(d=.list ds∨d=.tuple ds)∧ds.length≤1000000∧∀ x∈ds,Pl n x
theorem v8 (l:List PyData):isK "int" (.list l)=false:=rfl
theorem v6 (l:List PyData):isK "int" (.tuple l)=false:=rfl
section
variable {K:PySem.W.Frag}{N:Addr→Prop}{H:Hp}
end
mutual
noncomputable def noL:PyData→Bool
 | .none=>true
 | .bool _=>true
 | .int _=>true
 | .str _=>true
 | .tuple ds=>nB ds
 | _=>false
noncomputable def nB:List PyData→Bool
 | []=>true
 | d::ds=>noL d&&nB ds
end
section
variable {K:PySem.W.Frag}{M P N:Addr→Prop}{H0 H H':Hp}{E T A B:List Ent}{σ0 σ:St}{env:List Sl}{ts tt:List (V×Sl)}{v:V}{s:Sl}{d:PyData}
theorem DN.ot {v:V}{d:PyData} (h:DN K N H v d):noL d=true→OT K N H v d [] :=
 DN.rec (motive_1:=fun v d _=>noL d=true→OT K N H v d []) (motive_2:=fun v d _=>nB d=true→OTs K N H v d [])
 (fun _=>.non) (fun b _=>.bl b) (fun i _=>.int i)
 (fun _ _ _ e=>by simp[noL] at e) (fun h _ i e=>.tup h (i (by simpa [noL] using e)))
 (fun _ _ _ _ _ _ _ e=>by simp[noL] at e) (fun _ _ e=>by simp[noL] at e) (fun _=>.nil)
 (fun {_ _ d ds} _ _ i j e=>by
  have e:(noL d&&nB ds)=true:=e
  rw [ER] at e
  exact .cons (S:=[]) (S':=[]) (i e.1) (j e.2)) h
theorem DNs.ots {v:List V}{d:List PyData} (h:DNs K N H v d):nB d=true→OTs K N H v d []:=DNs.ind (C:=fun v d=>nB d=true→OTs K N H v d []) (fun _=>.nil) (fun {_ _ d ds} h _ j e=>by
  have e:(noL d&&nB ds)=true:=e
  rw [ER] at e
  exact .cons (S:=[]) (S':=[]) (h.ot e.1) (j e.2)) h
noncomputable def fzs:List PyData→Option (List PyData)
 | []=>some []
 | .list l::ds=>(fzs ds).map (fzD l::·)
 | _::_=>none
theorem DNs.fzs:∀ {vs:List V}{ds ds':List PyData},DNs K N H vs ds→fzs ds=some ds'→OTs K N H vs ds' []
 | _,_,_,.nil,e=>by cases e;exact .nil
 | _, d::ds,_,.cons h q,e=>by
  cases d with
  | list l =>
   have e:(_L.fzs ds).map (fzD l::·)=some _:=e
   cases e2:_L.fzs ds with
   | none=>rw[e2] at e;cases e
   | some ds2 =>
    rw [e2] at e
    cases e
    exact .cons (S:=[]) (S':=[]) (.fz h) (DNs.fzs q e2)
  | _=>cases e
noncomputable def slF (s:Sl):Option PyData:=match s with
 | .fr d=>if noL d=true then some d else none
 | _=>none
noncomputable def h8 (env:List Sl):Sl→Option PyData
 | .fr d=>if noL d=true then some d else none
 | .ow ds=>if nB ds=true then some (.list ds) else (fzs ds).map .list
 | .tr _ d=>some d
 | .vw i=>(env[i]?).bind slF
 | _=>none
noncomputable def gr (env:List Sl):List Sl→Option (List PyData)
 | []=>some []
 | s::ss=>(h8 env s).bind fun d=>(gr env ss).bind fun ds=>some (d::ds)
theorem Rel.tree (h:Rel K M P H0 σ0 σ env ts H) (m:(v,s)∈ts) (e:h8 env s=some d):OT K (Nw M (ay σ env ts)) H v d (cO (some v,s))∧∀ a∈cO (some v,s),H0 a=none:=by
 have mm:((some v,s):Ent)∈ay σ env ts:=d6 m
 cases s with
 | fr d' =>
  by_cases c:noL d'=true
  ·have e:(if noL d'=true then some d' else none)=some d:=e
   rw [if_pos c] at e
   cases e
   obtain ⟨v',e1,dn⟩:=h.e.fr _ _ mm
   cases e1
   rw [dg]
   exact ⟨dn.ot c,fun a ha=>by cases ha⟩
  ·have e:(if noL d'=true then some d' else none)=some d:=e
   rw [if_neg c] at e
   cases e
 | ow ds =>
  have e:(if nB ds=true then some (PyData.list ds) else (fzs ds).map .list)=some d:=e
  by_cases c:nB ds=true
  ·rw [if_pos c] at e
   cases e
   obtain ⟨a,vs,e1,e2,dn,h0⟩:=h.e.ow _ _ mm
   cases e1
   exact ⟨.lst e2 (dn.ots c),fun b hb=>by rw[Eb.mp hb];exact h0⟩
  ·rw [if_neg c] at e
   cases e3:fzs ds with
   | none=>rw[e3] at e;cases e
   | some ds' =>
    rw [e3] at e
    cases e
    obtain ⟨a,vs,e1,e2,dn,h0⟩:=h.e.ow _ _ mm
    cases e1
    exact ⟨.lst e2 (dn.fzs e3),fun b hb=>by rw[Eb.mp hb];exact h0⟩
 | tr S d' =>
  cases e
  obtain ⟨v',e1,ot,h0⟩:=h.e.tr _ _ _ mm
  cases e1
  rw [aL]
  exact ⟨ot,h0⟩
 | vw i =>
  have e:(env[i]?).bind slF=some d:=e
  cases q:env[i]? with
  | none=>rw[q] at e;cases e
  | some s' =>
   rw [q] at e
   cases s' with
   | fr d' =>
    have e:(if noL d'=true then some d' else none)=some d:=e
    by_cases c:noL d'=true
    ·rw [if_pos c] at e
     cases e
     obtain ⟨x,e1,m1⟩:=h.slot q
     obtain ⟨v',e2,dn⟩:=h.e.fr _ _ m1
     have e3:=h.vw v i m
     rw [e1,e2] at e3
     cases e3
     rw [gK]
     exact ⟨dn.ot c,fun a ha=>by cases ha⟩
    ·rw [if_neg c] at e
     cases e
   | _=>cases e
 | _=>cases e
theorem Rel.trees (h:Rel K M P H0 σ0 σ env ts H):∀ {vs:List V}{ss:List Sl}{ds:List PyData},vs.length=ss.length→(∀ p∈vs.zip ss,p∈ts)→gr env ss=some ds→OTs K (Nw M (ay σ env ts)) H vs ds (oas (tmp (vs.zip ss)))∧∀ a∈oas (tmp (vs.zip ss)),H0 a=none
 | [],[],_,_,_,e=>by cases e;exact⟨.nil,fun a ha=>by cases ha⟩
 | v :: vs,s::ss,ds,hl,hm,e=>by
  unfold gr at e
  cases e1:h8 env s with
  | none=>rw[e1] at e;cases e
  | some d =>
   rw [e1] at e
   cases e2:gr env ss with
   | none=>rw[e2] at e;cases e
   | some ds' =>
    rw [e2] at e
    cases e
    obtain ⟨a1,a2⟩:=h.tree (v:=v) (hm (v,s) (by simp)) e1
    obtain ⟨b1,b2⟩:=h.trees (vs:=vs) (ss:=ss) (by simpa using hl) (fun p hp=>hm p (by simp[hp])) e2
    have oe:oas (tmp ((v::vs).zip (s::ss)))=cO (some v,s)++oas (tmp (vs.zip ss)):=ak _ _
    rw [oe]
    exact ⟨.cons a1 b1,fun a ha=>(Ed.mp ha).elim (a2 a) (b2 a)⟩
 | [],_::_,_,hl,_,_=>by simp at hl
 | _::_,[],_,hl,_,_=>by simp at hl
theorem xR {p:Addr}{o:HO}{vs:List V}{ds:List PyData}{S:List Addr} (q:OTs K N H vs ds S) (hp:H p=none):OTs K N (upd H p o) vs ds S:=q.keep (aS.same (a9.new hp)) fun a ha=>by
 obtain ⟨xs,z⟩:=q.lives a ha
 rw [a9.new hp _ _ z,z]
theorem bq.foldL (h:bq K M P H0 (E++T) H) {p:Addr}{vs:List V}{ds:List PyData} (hp:H p=none) (q:OTs K (Nw M (E++T)) H vs ds (oas T)) (hq:∀ a∈oas T,H0 a=none):bq K M P H0 (E++[(some (.ref p),.tr (p::oas T) (.list ds))]) (upd H p (.lst vs)):=by
 have oe:oas (E++[(some (.ref p),Sl.tr (p::oas T) (.list ds))])=oas E++p::oas T:=by
  rw [ah,ak,aL]
  simp [oas]
 have np:p ∉ oas (E++T):=fun z=>by
  obtain ⟨vs',q,_⟩:=h.own z
  rw [hp] at q
  cases q
 have h0:H0 p=none:=by
  cases e:H0 p with
  | none=>rfl
  | some o=>exact absurd hp (h.live p (by rw[e];simp))
 have up:∀ b o,H b=some o→Nw M (E++[(some (.ref p),Sl.tr (p::oas T) (.list ds))]) b→Nw M (E++T) b:=fun b o e z=>by
  rcases z with z|z
  ·exact .inl z
  ·rw [oe] at z
   rcases Ed.mp z with z|z
   ·exact .inr (by rw[ah];exact Ec _ z)
   ·rcases En.mp z with z|z
    ·rw [z,hp] at e
     cases e
    ·exact .inr (by rw[ah];exact D9 _ z)
 have old:∀ x s,(x,s)∈E++[(some (.ref p),Sl.tr (p::oas T) (.list ds))]→(x,s)∈E++T∨(x,s)=(some (.ref p),Sl.tr (p::oas T) (.list ds)):=fun x s m=>by
  rcases Ed.mp m with m|m
  ·exact .inl (Ec _ m)
  ·exact .inr (Eb.mp m)
 have h':=h.same (a9.new (o:=.lst vs) hp)
 refine ⟨h'.keep,h'.live,h.mt,h.pm,fun x d' m=>?_,fun x d' m=>?_,fun x d' m=>?_,fun x S d' m=>?_,?_⟩
 ·rcases old _ _ m with m|m
  ·obtain ⟨v,e,dn⟩:=h.fr x d' m
   exact ⟨v,e,(dn.to up).keep (aS.same (a9.new hp))⟩
  ·cases m
 ·rcases old _ _ m with m|m
  ·obtain ⟨a,ws,e,e2,dn,r⟩:=h.ow x d' m
   exact ⟨a,ws,e,a9.new hp _ _ e2,(dn.to up).keep (aS.same (a9.new hp)),r⟩
  ·cases m
 ·rcases old _ _ m with m|m
  ·obtain ⟨a,ws,e,e2,dn,r⟩:=h.io x d' m
   exact ⟨a,ws,e,a9.new hp _ _ e2,(dn.to up).keep (aS.same (a9.new hp)),r⟩
  ·cases m
 ·rcases old _ _ m with m|m
  ·obtain ⟨v,e,dn,r⟩:=h.tr x S d' m
   exact ⟨v,e,(dn.to up).keep (aS.same (a9.new hp)) fun a ha=>by
    obtain ⟨xs,z⟩:=dn.lives a ha
    rw [a9.new hp _ _ z,z],r⟩
  ·cases m
   exact ⟨_,rfl,.lst aB (xR (q.to up) hp),fun a ha=>(En.mp ha).elim (fun z=>by rw[z];exact h0) (hq a)⟩
 ·rw [oe]
  have nd:=h.nd
  rw [ah] at nd np
  obtain ⟨n1,n2,n3⟩:=Ei.mp nd
  refine Ei.mpr ⟨n1,EO.mpr ⟨fun z=>np (D9 _ z),n2⟩,fun a ha b hb z=>?_⟩
  rcases En.mp hb with hb|hb
  ·rw [hb] at z
   exact np (Ec _ (z▸ha))
  ·exact n3 a ha b hb z
theorem Rel.resLstT (h:Rel K M P H0 σ0 σ env (ts++tt) H) {p:Addr}{vs:List V}{ds:List PyData} (hp:H p=none) (q:OTs K (Nw M (ay σ env (ts++tt))) H vs ds (oas (tmp tt))) (h0:∀ a∈oas (tmp tt),H0 a=none) :
  Rel K M P H0 σ0 σ env (ts++[(.ref p,.tr (p::oas (tmp tt)) (.list ds))]) (upd H p (.lst vs)):=by
 have hE:=h.e
 rw [aw] at hE q
 exact h.drop.withRes (hE.foldL hp q h0) rfl
end
section
variable {X:Cx}{K:PySem.W.Frag}{pos:Pos}{es:List Expr}{tl:DA}
end
section
variable {K:PySem.W.Frag}{M P N:Addr→Prop}{H0 H H':Hp}{E T A B:List Ent}{σ0 σ:St}{env:List Sl}{ts tt kp:List (V×Sl)}{v:V}{s:Sl}{d:PyData}
theorem pC {env env':List Sl}{s:Sl} (h:kB s=true):h8 env s=h8 env' s:=by
 cases s <;> first|rfl|cases h
end
section
variable {K:PySem.W.Frag}
section
variable {X:Cx}{pos spos:Pos}{N':List Str}{ix:List (Option Nat)}{it:DI}{g:DG}{tt:DT}{te:DE}{tg iter elt:Expr}{ifs:List Expr}
end
end
section
variable {K:PySem.W.Frag}{M P N:Addr→Prop}{H0 H H':Hp}{E T A B:List Ent}{σ0 σ:St}{env:List Sl}{ts tt kp:List (V×Sl)}{v:V}{s:Sl}{d:PyData}
end
section
variable {X:Cx}{K:PySem.W.Frag}{pos p:Pos}{tl:DA}{sp:DSp}{x:Str}{k:Nat}{e:Expr}{es:List Expr}
end
noncomputable def pAt:List Nat→PyData→Option PyData
 | [],d=>some d
 | i::p,.list ds=>(ds[i]?).bind (pAt p)
 | i::p,.tuple ds=>(ds[i]?).bind (pAt p)
 | _::_,_=>none
noncomputable def vT (n:PyData):List Nat→PyData→PyData
 | [],_=>n
 | i::p,.list ds=>.list (match ds[i]? with|some c=>ds.set i (vT n p c)|none=>ds)
 | i::p,.tuple ds=>.tuple (match ds[i]? with|some c=>ds.set i (vT n p c)|none=>ds)
 | _::_,d=>d
inductive sR (K:PySem.W.Frag) (H:Hp):V→List Nat→V→Prop
 | nil {v:V}:sR K H v [] v
 | cons {b:Addr}{xs:List V}{i:Nat}{x u:V}{p:List Nat}:(SqL K H b xs∨SqT K H b xs)→xs[i]? = some x→sR K H x p u→sR K H (.ref b) (i::p) u
section
variable {K:PySem.W.Frag}{N:Addr→Prop}{H H':Hp}
noncomputable def wP (K:PySem.W.Frag) (N:Addr→Prop) (H:Hp) (v:V) (p:List Nat) (d:PyData) (S:List Addr) (ds:List PyData):Prop:=∃ a us,sR K H v p (.ref a)∧H a=some (.lst us)∧a∈S∧us.length=ds.length ∧
  ∀ {N1:Addr→Prop}{H1:Hp}{w:V}{e:PyData}{Se:List Addr},(∀ b o,H b=some o→N1 b→N b)→a9 H H1→N1 a→OT K N1 (upd H1 a (.lst (us++[w]))) w e Se→∃ S',S'.Perm (S++Se)∧OT K N1 (upd H1 a (.lst (us++[w]))) v (vT (.list (ds++[e])) p d) S'
theorem OT.path0 {v:V}{S:List Addr}{ds:List PyData} (o:OT K N H v (.list ds) S) (nd:S.Nodup):wP K N H v [] (.list ds) S ds:=by
 cases o with
 | @lst a us _ Sq hH q =>
  refine ⟨a,us,.nil,hH,Eh,q.len,fun {N1 H1 w e Se} m sm na oe=>?_⟩
  obtain ⟨n1,n2⟩:=EO.mp nd
  have kq:OTs K N1 (upd H1 a (.lst (us++[w]))) us ds Sq:=(q.to m).keep ((aS.same sm).trans (aS.own na)) fun b hb=>by
   obtain ⟨xs,z⟩:=q.lives b hb
   have nb:b≠a:=fun z=>n1 (z▸hb)
   rw [am nb,sm _ _ z,z]
  exact ⟨a::(Sq++(Se++[])),by simp,.lst aB (kq.app (.cons oe .nil))⟩
end
section
variable {K:PySem.W.Frag}{M P N:Addr→Prop}{H0 H H':Hp}{E T A B:List Ent}{σ0 σ:St}{env:List Sl}{ts tt kp:List (V×Sl)}{v:V}{s:Sl}{d:PyData}
theorem bq.appAtU {U:List Ent}{Hh:Hp}{S:List Addr}{p:List Nat}{ds:List PyData} (hh:bq K M P H0 (A++(some v,.tr S d)::(B++U)) Hh) (hp:OT K (Nw M (A++(some v,.tr S d)::(B++U))) Hh v d S→S.Nodup→wP K (Nw M (A++(some v,.tr S d)::(B++U))) Hh v p d S ds):∃ a us,sR K Hh v p (.ref a)∧Hh a=some (.lst us)∧us.length=ds.length ∧
  ∀ {T:List Ent}{H:Hp}{w:V}{e:PyData},a9 Hh H→(∀ a∈oas T,Hh a=none∨a∈oas U)→bq K M P H0 (A++(some v,.tr S d)::(B++T)) H→OT K (Nw M (A++(some v,.tr S d)::(B++T))) H w e (oas T)→(∀ a∈oas T,H0 a=none)→∃ S',bq K M P H0 (A++(some v,.tr S' (vT (.list (ds++[e])) p d))::B) (upd H a (.lst (us++[w]))):=by
 obtain ⟨v',ev,ot,h0⟩:=hh.tr _ _ _ (D9 _ Eh)
 cases ev
 have ndh:=hh.nd
 have oeh:oas (A++(some v,Sl.tr S d)::(B++U))=oas A++(S++(oas B++oas U)):=by rw[ah,ak,aL,ah]
 rw [oeh] at ndh
 obtain ⟨a,us,r,ha,ma,hl,g⟩:=hp ot (Ei.mp (Ei.mp ndh).2.1).1
 refine ⟨a,us,r,ha,hl,fun {T H w e} sm nT h oe' hT=>?_⟩
 have oe:oas (A++(some v,Sl.tr S d)::(B++T))=oas A++(S++(oas B++oas T)):=by rw[ah,ak,aL,ah]
 have nd:=h.nd
 rw [oe] at nd
 obtain ⟨n1,n2,n3⟩:=Ei.mp nd
 obtain ⟨n4,n5,n6⟩:=Ei.mp n2
 obtain ⟨n7,n8,n9⟩:=Ei.mp n5
 have na:Nw M (A++(some v,Sl.tr S d)::(B++T)) a:=.inr (by rw[oe];exact D9 _ (Ec _ ma))
 have mm:∀ b o,Hh b=some o→Nw M (A++(some v,Sl.tr S d)::(B++T)) b→Nw M (A++(some v,Sl.tr S d)::(B++U)) b:=fun b o eb z=>by
  rcases z with z|z
  ·exact .inl z
  ·rw [oe] at z
   refine .inr ?_
   rw [oeh]
   rcases Ed.mp z with z|z
   ·exact Ec _ z
   ·rcases Ed.mp z with z|z
    ·exact D9 _ (Ec _ z)
    ·rcases Ed.mp z with z|z
     ·exact D9 _ (D9 _ (Ec _ z))
     ·rcases nT b z with nb|nb
      ·rw [nb] at eb;cases eb
      ·exact D9 _ (D9 _ (D9 _ nb))
 have kN:aS (Nw M (A++(some v,Sl.tr S d)::(B++T))) H (upd H a (.lst (us++[w]))):=aS.own na
 have ow':=oe'.keep kN fun b hb=>am fun z=>n6 a ma b (D9 _ hb) z.symm
 obtain ⟨S',pm,ot'⟩:=g mm sm na ow'
 refine ⟨S',?_⟩
 have oe2:oas (A++(some v,Sl.tr S' (vT (.list (ds++[e])) p d))::B)=oas A++(S'++oas B):=by rw[ah,ak,aL]
 have pm2:(oas A++(S'++oas B)).Perm (oas A++(S++(oas B++oas T))):=by
  refine List.Perm.append_left _ ((List.Perm.append_right _ pm).trans ?_)
  rw [Ff]
  exact List.Perm.append_left _ List.perm_append_comm
 have ne:Nw M (A++(some v,Sl.tr S' (vT (.list (ds++[e])) p d))::B)=Nw M (A++(some v,Sl.tr S d)::(B++T)):=by
  funext b
  apply propext
  unfold Nw
  rw [oe,oe2,pm2.mem_iff]
 have back:∀ x t,(x,t)∈A∨(x,t)∈B→(x,t)∈A++(some v,Sl.tr S d)::(B++T):=fun x t m=>by
  rcases m with m|m
  ·exact Ec _ m
  ·exact D9 _ (Ej _ (Ec _ m))
 have old:∀ x t,(x,t)∈A++(some v,Sl.tr S' (vT (.list (ds++[e])) p d))::B→(x,t)=(some v,Sl.tr S' (vT (.list (ds++[e])) p d))∨((x,t)∈A∨(x,t)∈B):=fun x t m=>by
  rcases Ed.mp m with m|m
  ·exact .inr (.inl m)
  ·rcases En.mp m with m|m
   ·exact .inl m
   ·exact .inr (.inr m)
 have other:∀ x t b,(x,t)∈A∨(x,t)∈B→b∈cO (x,t)→b≠a:=fun x t b m eo z=>by
  subst z
  rcases m with m|m
  ·exact n3 b (aW.mpr ⟨_,m,eo⟩) b (Ec _ ma) rfl
  ·exact n6 b ma b (Ec _ (aW.mpr ⟨_,m,eo⟩)) rfl
 refine ⟨h.keep.put (h0 a ma),fun b q z=>?_,h.mt,h.pm,fun x d' m=>?_,fun x d' m=>?_,fun x d' m=>?_,fun x S2 d' m=>?_,?_⟩
 ·by_cases hb:b=a
  ·subst hb;rw[aB] at z;cases z
  ·rw [am hb] at z;exact h.live b q z
 ·rw [ne]
  rcases old _ _ m with m|m
  ·cases m
  ·obtain ⟨w',e1,dn⟩:=h.fr x d' (back _ _ m)
   exact ⟨w',e1,dn.keep kN⟩
 ·rw [ne]
  rcases old _ _ m with m|m
  ·cases m
  ·obtain ⟨b,us2,e1,e2,dn,r2⟩:=h.ow x d' (back _ _ m)
   subst e1
   exact ⟨b,us2,rfl,by rw[am (other _ _ b m (Eb.mpr rfl))];exact e2,dn.keep kN,r2⟩
 ·rw [ne]
  rcases old _ _ m with m|m
  ·cases m
  ·obtain ⟨b,us2,e1,e2,dn,r2⟩:=h.io x d' (back _ _ m)
   subst e1
   exact ⟨b,us2,rfl,by rw[am (other _ _ b m (Eb.mpr rfl))];exact e2,dn.keep kN,r2⟩
 ·rw [ne]
  rcases old _ _ m with m|m
  ·cases m
   refine ⟨v,rfl,ot',fun b hb=>?_⟩
   rcases Ed.mp (pm.mem_iff.mp hb) with z|z
   ·exact h0 b z
   ·exact hT b z
  ·obtain ⟨w',e1,dn,r2⟩:=h.tr x S2 d' (back _ _ m)
   subst e1
   exact ⟨w',rfl,dn.keep kN fun b hb=>am (other _ _ b m (by rw[aL];exact hb)),r2⟩
 ·rw [oe2]
  exact pm2.nodup_iff.mpr nd
end
section
variable {X:Cx}{K:PySem.W.Frag}{pos:Pos}{M P N:Addr→Prop}{H0 H H':Hp}{σ0 σ:St}{env:List Sl}{ts:List (V×Sl)}
theorem Rel.setTr {i:Nat}{S S':List Addr}{d d':PyData}{v:V}{A B:List Ent} (h:Rel K M P H0 σ0 σ env ts H) (e:env[i]? = some (.tr S d)) (q2:ay σ (env.set i (.tr S' d')) ts=A++(some v,.tr S' d')::B) (re:bq K M P H0 (A++(some v,.tr S' d')::B) H'):Rel K M P H0 σ0 σ (env.set i (.tr S' d')) ts H':=by
 refine ⟨by rw[q2];exact re,by simp[h.len],h.vw,fun j ds' e'=>?_⟩
 by_cases hj:i=j
 ·subst hj
  have hi:i<env.length:=(Ef.mp e).1
  rw [EG hi] at e'
  cases e'
 ·rw [EF hj] at e'
  exact h.ios j ds' e'
end
section
variable {X:Cx}{K:PySem.W.Frag}{pos:Pos}{M P N:Addr→Prop}{H0 H H':Hp}{σ0 σ:St}{env:List Sl}{ts:List (V×Sl)}
end
section
variable {K:PySem.W.Frag}{H:Hp}
end
section
variable {X:Cx}{K:PySem.W.Frag}{pos:Pos}{M P N:Addr→Prop}{H0 H H':Hp}{σ0 σ:St}{env:List Sl}{ts:List (V×Sl)}
end
section
variable {K:PySem.W.Frag}{M P N:Addr→Prop}{H0 H H':Hp}{E T A B:List Ent}{σ0 σ:St}{env:List Sl}{ts tt kp:List (V×Sl)}{v:V}{s:Sl}{d:PyData}
end
section
variable {K:PySem.W.Frag}{M P N:Addr→Prop}{H0 H H':Hp}{σ0 σ:St}{env:List Sl}{ts tt kp:List (V×Sl)}{v:V}{s:Sl}{d:PyData}
end
section
variable {X:Cx}{K:PySem.W.Frag}{pos:Pos}
end
theorem iI {α:Type} (l:List α) (z:α):(List.range l.length).map (fun i=>l.getD i z)=l:=by
 refine Fa (by simp) fun i h1 h2=>?_
 simp [Ea,D8 h2]
theorem eZ {α β:Type} (l:List α) (z:α) (g:α→β):(List.range l.length).map (fun i=>g (l.getD i z))=l.map g:=by
 conv=>rhs;rw[←iI l z,EI]
 rfl
theorem de {α β:Type} (l:List α) (z:α) (p:α→Bool) (g:α→β):((List.range l.length).filter fun i=>p (l.getD i z)).map (fun i=>g (l.getD i z))=(l.filter p).map g:=by
 conv=>rhs;rw[←iI l z,List.filter_map,EI]
 rfl
noncomputable abbrev lr (rs:List (List Int)):List PyData:=rs.map fun r=>.list (li r)
theorem iN {rs:List (List Int)}{i:Nat}{h:i<(lr rs).length}:(lr rs)[i]=.list (li (rs.getD i [])):=by
 have h':i<rs.length:=by simpa using h
 rw [EN,Ea,D8 h']
 rfl
theorem nR {d:PyData}{n:Nat} (h:Sh n d) (hn:n≤64):PyData.eqv d d=true:=SeqAt.eqv_refl _ (SeqAt.canLay_of_shaped (h.shp hn))
section
variable {X:Cx}{K:PySem.W.Frag}{pos:Pos}{es:List Expr}{tl:DA}{e:Expr}{ta:DE}{M P N:Addr→Prop}{H0 H H':Hp}{σ0 σ:St}{env:List Sl}{ts:List (V×Sl)}
noncomputable def yN (t:DA):DE:=fun env R=>t env fun ss env1=>∃ ds,gr env1 ss=some ds∧ss.length≤sizeLine∧∀ S,R (.tr S (.list ds)) env1
theorem zL (h:PA X es (upA K tl)):PE X (.List es pos) (up K (yN tl)):=(vS h).imp fun σ H Q h=>by
 obtain ⟨M,P,H0,σ0,env,ts,R,rel,ht,hq⟩:=h
 refine ⟨M,P,H0,σ0,env,ts,_,rel,ht,fun ss env1 vs H1 h1 hl rel1=>?_⟩
 obtain ⟨ds,e,hz,hR⟩:=h1
 obtain ⟨q,h0⟩:=rel1.trees hl (fun p hp=>D9 _ hp) e
 exact ⟨by omega,fun p hp=>hq _ _ _ _ (hR _) (rel1.resLstT hp q h0)⟩
noncomputable def yR (i:Nat) (te:DE):DE:=fun env R=>(∃ S ds,env[i]? = some (.tr S (.list ds)))∧te env fun s env1=>∃ S ds s' d,env1[i]? = some (.tr S (.list ds))∧ia env1 s=some s'∧h8 [] s'=some d∧ds.length<sizeLine∧∀ S',R (.fr .none) (env1.set i (.tr S' (.list (ds++[d]))))
theorem zN (i:Nat) {y:Str}{apos cpos npos:Pos} (hK:X.K=K) (hN:X.N[i]? = some y) (ha:PE X e (up K ta))
  (hv:Vis X.env.scope y:=by first|exact Or.inl rfl|exact Or.inr (Or.inl rfl)|exact Or.inr (Or.inr rfl)) (hd:(y==("__debug__" : Str))=false:=by decide)
  (hcd:(y==("__classdict__" : Str))=false:=by decide)
  (hs0:starEach [e] X.env=[(false,eval e X.env)]:=by rfl)
  (hbase:attributeBase (.Name y npos) "append" X.env (eval (.Name y npos) X.env)=eval (.Name y npos) X.env:=by rfl)
  (hfew:((backTo cpos (starEach [e] X.env)).all (fun x=>!x.1)&&(backToKw cpos (keywordEach [] X.env)).all (fun x=>x.1.isSome)&&decide ([e].length+([]:List Keyword).length+(if ([]:List Keyword).isEmpty then 0 else 1)<30))=true:=by rfl)
  (hline:(apos.endLine==cpos.line)=true:=by rfl) (hplain:(backTo cpos (starEach [] X.env)).any (·.1)=false:=by rfl) :
  PE X (.Call (.Attribute (.Name y npos) "append" apos) [e] [] cpos) (up K (yR i ta)) :=
 (kBm (K:=K) hK PySem.F.plainAttrs_list PySem.F.slot_list_append PySem.F.type_list_append km (cU hN hv hd hcd) (ff ha j7 hs0) hbase hfew hline hs0 hplain).imp fun σ H Q h=>by
 obtain ⟨M,P,H0,σ0,env,ts,R,rel,⟨⟨S0,ds0,e0⟩,ht⟩,hq⟩:=h
 obtain ⟨x,ex,m0⟩:=rel.slot e0
 obtain ⟨v,ev,ot0,_⟩:=rel.e.tr _ _ _ m0
 subst ev
 cases ot0 with
 | @lst a vs _ Sq hH qH =>
  refine ⟨.ref a,ex,.inl ⟨rfl,vs,SqL.of hH⟩,M,P,H0,σ0,env,ts,_,rel,ht,fun s1 env1 v1 H1 h1 rel1=>?_⟩
  obtain ⟨S,ds,s',d,e1,es,td,hz,hR⟩:=h1
  obtain ⟨rel2,ir⟩:=rel1.unVw es
  obtain ⟨x',A,B,ex',q1,q2⟩:=rel1.drop.split e1
  rw [ex] at ex'
  cases ex'
  have r2:=rel2.e
  have eA:ay σ env1 (ts++[(v1,s')])=A++(some (.ref a),Sl.tr S (.list ds))::(B++[(some v1,s')]):=by
   rw [aw,q1]
   simp [tmp]
  obtain ⟨ot,hh0⟩:=rel2.tree (v:=v1) (s:=s') (D9 _ Eh) ((pC (env':=[]) ir).trans td)
  have oe:oas [((some v1,s'):Ent)]=cO (some v1,s'):=by
   rw [ak]
   simp [oas]
  rw [eA] at r2 ot
  rw [←oe] at ot hh0
  obtain ⟨b,us,rc,ha',hl,g⟩:=bq.appAtU (p:=[]) (ds:=ds) r2 fun o nd=>o.path0 nd
  cases rc
  obtain ⟨S',re⟩:=g (a9.refl _) (fun c hc=>.inr hc) r2 ot hh0
  refine ⟨a,us,v1,rfl,rfl,ha',by rw[hl];exact hz,?_⟩
  exact hq _ _ _ _ (hR S') ((rel1.drop.setTr e1 (q2 _) re).addFr .non)
end
section
variable {K:PySem.W.Frag}{N:Addr→Prop}{H:Hp}
end
section
variable {K:PySem.W.Frag}{M P N:Addr→Prop}{H0 H H':Hp}{A B:List Ent}{σ0 σ:St}{env:List Sl}{ts:List (V×Sl)}{v v':V}{d d':PyData}{S S':List Addr}{y:Option V}
end
section
variable {X:Cx}{K:PySem.W.Frag}{pos:Pos}{M P N:Addr→Prop}{H0 H H':Hp}{σ0 σ:St}{env:List Sl}{ts:List (V×Sl)}
end
noncomputable def D5:Sl→Bool
 | .ow _=>true
 | .tr _ _=>true
 | .fr _=>true
 | _=>false
section
variable {X:Cx}{K:PySem.W.Frag}{pos:Pos}{M P N:Addr→Prop}{H0 H H':Hp}{σ0 σ:St}{env:List Sl}{ts:List (V×Sl)}{v:V}
end
end _L
namespace _L
open PySem Builtin Builtin.Str StrLaws PySem.NumText PySem.W
noncomputable def num (n:Int):Str:=Str.ofString (toString n)
end _L
namespace _L
open PySem Builtin Builtin.Str StrLaws
end _L
namespace _L
open PySem PySem.Spec PyProof.Rows
section
variable {X:Cx}{K:PySem.W.Frag}
end
section
variable {X:Cx}{K:PySem.W.Frag}{pos:Pos}{e o:Expr}{ta to:DE}{M P N:Addr→Prop}{H0 H H':Hp}{σ0 σ:St}{env:List Sl}{ts:List (V×Sl)}
end
section
variable {X:Cx}{K:PySem.W.Frag}{pos:Pos}{M P N:Addr→Prop}{H0 H H':Hp}{σ0 σ:St}{env:List Sl}{ts:List (V×Sl)}
end
section
variable {X:Cx}{K:PySem.W.Frag}{pos:Pos}{M P N:Addr→Prop}{H0 H H':Hp}{σ0 σ:St}{env:List Sl}{ts:List (V×Sl)}
end
section
variable {X:Cx}{K:PySem.W.Frag}{pos:Pos}{N':List Str}{ix:List (Option Nat)}{it:DI}{g:DG}{tt:DT}{te:DE}{tg iter elt:Expr}{ifs:List Expr}
end
section
variable {prog:Program}{w:World}{A:Around}{E:Value→Shared→Prop}{s:Shared}
end
section
variable {X:Cx}{K:PySem.W.Frag}{pos:Pos}{es:List Expr}
noncomputable def AY (n:Nat) (gs:DGs):DG:=fun d env R=>∃ ds,d=.list ds∧ds.length=n∧gs ds env R
end
section
variable {X:Cx}{K:PySem.W.Frag}{pos:Pos}{N:Addr→Prop}{H:Hp}
end
section
variable {X:Cx}{K:PySem.W.Frag}{pos ip lp p':Pos}{c:Expr}{tc:DT}
noncomputable def dFz (i:Nat) (u:DS):DS:=fun DD env=>∃ ds,env[i]? = some (.ow ds)∧u DD (env.set i (.fr (.list ds)))
theorem zC (i:Nat) {ss:List Stmt}{u:DS} (h:PSs X ss (upS K u)):PSs X ss (upS K (dFz i u)):=h.imp fun D σ H h=>by
 obtain ⟨M,P,H0,σ0,env,ts,DD,nv,rel,⟨ds,e,hu⟩,ok⟩:=h
 exact ⟨M,P,H0,σ0,_,ts,DD,nv,rel.frz e,hu,ok⟩
end
end _L
namespace _L
open PySem PySem.W PyProof.Rows
noncomputable def f9 {α:Type} (n:Nat) (P:α→Prop):KasT α→Prop
 | .ret a=>P a
 | .ask i j k=>i<n∧j<n∧∀ b,f9 n P (k b)
theorem f9.bind {α β:Type}{n:Nat}{P:α→Prop}{R:β→Prop}{f:α→KasT β} (hf:∀ a,P a→f9 n R (f a)):∀ {t:KasT α},f9 n P t→f9 n R (t.bind f)
 | .ret a,h=>hf a h
 | .ask i j k,h=>⟨h.1,h.2.1,fun b=>f9.bind hf (h.2.2 b)⟩
noncomputable def Pn (n:Nat) (p:Array Nat):Prop:=p.Perm (List.range n).toArray
theorem Pn.rev {n i j:Nat}{p:Array Nat} (h:Pn n p):Pn n (kas_rev p i j):=(mirror_perm _ _ _ _).trans h
theorem Pn.bub {n i j:Nat}{p:Array Nat} (h:Pn n p):Pn n (bubble p i j):=(bubble_perm _ _ _).trans h
theorem Pn.list {n:Nat}{p:Array Nat} (h:Pn n p):p.toList.Perm (List.range n):=by
 have:=Array.perm_iff_toList_perm.mp h
 simpa using this
theorem Pn.lt {n:Nat}{p:Array Nat} (h:Pn n p) (h1:1≤n) (k:Nat):p.getD k 0<n:=by
 by_cases hk:k<p.size
 ·have e:p.getD k 0=p[k]:=by simp[Array.getD,hk]
  rw [e]
  have m:p[k]∈p.toList:=by simp
  exact Ey.mp (h.list.mem_iff.mp m)
 ·have e:p.getD k 0=0:=by simp[Array.getD,hk]
  omega
section
variable {n:Nat}{p:Array Nat} (h1:1≤n)
include h1
theorem mD (h:Pn n p):∀ (f k:Nat),f9 n (fun _=>True) (kas_asc p f k)
 | 0,k=>trivial
 | f+1,k=>⟨h.lt h1 _,h.lt h1 _,fun b=>by
  cases b with
  | true=>exact trivial
  | false=>exact mD h f (k+1)⟩
theorem gh:∀ (f:Nat) (p:Array Nat) (k q:Nat),Pn n p→f9 n (fun r=>Pn n r.1) (kas_desc f p k q)
 | 0,p,k,q,h=>h
 | f + 1,p,k,q,h=>⟨h.lt h1 _,h.lt h1 _,fun b=>by
  cases b with
  | true =>
   show f9 n _ (if q>0 then _ else _)
   split
   ·exact gh f _ _ _ h.rev
   ·exact gh f _ _ _ h
  | false =>
   refine ⟨h.lt h1 _,h.lt h1 _,fun d=>?_⟩
   cases d with
   | true=>exact h
   | false=>exact gh f _ _ _ h⟩
theorem jU {k r:Nat} (h:Pn n p):f9 n (fun r=>Pn n r.2) (kas_tail3 k r p):=by
 unfold kas_tail3
 refine f9.bind (P:=fun _=>True) (fun m _=>?_) (mD h1 h.rev _ _)
 exact (h.rev:Pn n (kas_rev p 0 k))
theorem fP {k r:Nat} (h:Pn n p):f9 n (fun r=>Pn n r.2) (kas_descPart k r p):=(gh h1 _ _ _ _ h).bind fun a ha=>by
 show f9 n _ (if a.2.2>0 then _ else _)
 split
 ·exact jU h1 (Pn.rev ha)
 ·exact jU h1 ha
theorem sx {r:Nat} (h:Pn n p):f9 n (fun r=>Pn n r.2) (kas_count r p):=(mD h1 h _ _).bind fun k _=>by
 show f9 n _ (if (k==r)=true then _ else _)
 split
 ·exact h
 ·split
  ·refine ⟨h.lt h1 _,h.lt h1 _,fun b=>?_⟩
   cases b with
   | true=>exact h
   | false=>exact fP h1 h.rev
  ·exact fP h1 h
theorem gJ (h:Pn n p) (k:Nat):∀ f l r,f9 n (fun _=>True) (kas_place p k f l r)
 | 0,l,r=>trivial
 | f + 1,l,r=>by
  show f9 n _ (if l≥r then _ else _)
  split
  ·exact trivial
  ·refine ⟨h.lt h1 _,h.lt h1 _,fun b=>?_⟩
   cases b with
   | true=>exact gJ h k f _ _
   | false=>exact gJ h k f _ _
theorem sH:∀ (f:Nat) (p:Array Nat) (k:Nat),Pn n p→f9 n (Pn n) (kas_bin f p k)
 | 0,p,k,h=>h
 | f+1,p,k,h=>(gJ h1 h _ _ _ _).bind fun l _=>sH f _ _ h.bub
theorem i5:f9 n (Pn n) (kas_sort n):=(sx h1 (p:=(List.range n).toArray) (Array.Perm.refl _)).bind fun r hr=>by
 show f9 n _ (if r.1<n then _ else _)
 split
 ·exact sH h1 _ _ _ hr
 ·exact hr
end
end _L
namespace _L
open PySem PySem.Spec PyProof.Rows PySem.W
open PySem.SeqAt PySem.MeetsSeq PySem.MeetsSeq2 PySem.MeetsSeq3 PySem.SeqRoads2
open PySem.AutoSeq1 (wpAny_loadPart')
section
variable {prog:Program}{w:World}{A:Around}{E:Value→Shared→Prop}{s:Shared}
end
end _L
namespace _L
open PySem PySem.Spec PyProof.Rows PySem.W
noncomputable def De (h:Heap) (v:Value):Prop:=∃ (a:Addr) (o:Obj) (n:Nat) (x:Int) (t:Tok) (l:Addr) (its:Array Value) (ns:List Int) (as:List Addr),v=.ref a∧h.get? a=some o∧o.cls=.type "tuple" ∧ o.data=.seq #[.int x t,.ref l] n∧h.IsList l its∧(∀ j (h:j<its.size),∃ x t,its[j]=Value.int x t)∧Reads h (.ref l) (.list (ns.map PyData.int)) as
noncomputable def oX (d:PyData):Prop:=∃ (n:Int) (ns:List Int),d=.tuple [.int n,.list (ns.map .int)]
section
variable {X:Cx}{pins:List (Addr×Obj)}{σ:St}{H:Hp}{s:Shared}
end
section
variable {prog:Program}{w:World}{A:Around}{s:Shared}
theorem iO {h:Heap}:∀ {us:List Value},(∀ u∈us,De h u)→∃ fs,KatTups h us fs∧fs.length=us.length∧∀ f∈fs,∃ x t,f=Value.int x t
 | [],_=>⟨[],.nil,rfl,fun f hf=>by simp at hf⟩
 | u::us,k=>by
  obtain ⟨fs,h1,h2,h3⟩:=iO (us:=us) fun v hv=>k v (by simp[hv])
  obtain ⟨a,o,n,x,t,l,its,ns,as,rfl,e,c,d,_⟩:=k u (by simp)
  refine ⟨.int x t::fs,.cons e c d (by rfl) h1,by simp[h2],fun f hf=>?_⟩
  rcases En.mp hf with rfl|hf
  ·exact ⟨x,t,rfl⟩
  ·exact h3 f hf
end
theorem qD {α β:Type}{f:α→β}{ws bs:List β} (h:ws.Perm bs):∀ t:List α,bs=t.map f→∃ t':List α,t'.Perm t∧ws=t'.map f:=by
 induction h with
 | nil =>
  intro t e
  cases t with
  | nil=>exact⟨[],.refl _,rfl⟩
  | cons _ _=>cases e
 | cons x _ ih =>
  intro t e
  cases t with
  | nil=>cases e
  | cons y t =>
   injection e with e1 e2
   obtain ⟨t',p,e'⟩:=ih t e2
   exact ⟨y::t',p.cons y,by rw[e1,e'];rfl⟩
 | swap x y l =>
  intro t e
  match t,e with
  | z1::z2::t,e =>
   injection e with e1 e2
   injection e2 with e2 e3
   exact ⟨z2::z1::t,.swap ..,by rw[e1,e2,e3];rfl⟩
 | trans _ _ ih1 ih2 =>
  intro t e
  obtain ⟨t1,p1,e1⟩:=ih2 t e
  obtain ⟨t2,p2,e2⟩:=ih1 t1 e1
  exact ⟨t2,p2.trans p1,e2⟩
theorem yz {K:PySem.W.Frag}{H:Hp}{vs:List V}{ds:List PyData} (h:DVs K H vs ds):vs.length=ds.length:=DVs.ind (C:=fun v d=>v.length=d.length) rfl (fun _ _ i=>by rw[ES,ES,i]) h
theorem mn {K:PySem.W.Frag}{N:Addr→Prop}{H:Hp}{vs:List V}{ds:List PyData} (h:DNs K N H vs ds):∀ z∈vs.zip ds,DN K N H z.1 z.2:=DNs.ind (C:=fun vs ds=>∀ z∈vs.zip ds,DN K N H z.1 z.2) (fun z h=>by simp at h) (fun d _ i z h=>by
  simp only [List.zip_cons_cons] at h
  rcases En.mp h with rfl|h
  ·exact d
  ·exact i z h) h
section
variable {X:Cx}{K:PySem.W.Frag}
variable {e:Expr}{p pos:Pos}{tl:DA}
end
section
variable {X:Cx}{K:PySem.W.Frag}{e o:Expr}{pos p2:Pos}
variable {ta to:DE}{tl:DA}
noncomputable def A1 (te:DE):DE:=fun env R=>te env fun s env1=>∃ ds,aG env1 s=some (.list ds)∧∀ es:List PyData,(∀ x∈es,x∈ds)→es.length≤ds.length→R (.ow es) env1
theorem lP {j p3 p4}:PE X (.UnaryOp .USub (.Constant (.int 1) j p3) p4) (tC (.int (-1))):=(zZ jO j6).imp fun σ H Q h=>⟨1,rfl,h⟩
end
end _L
namespace _L
open PySem PySem.Spec PyProof.Rows PySem.W PySem.Calls
section
variable {prog:Program}{w:World}{A:Around}{R:Result→Shared→Prop}{I:Addr}{fp wr:List Addr}{n:Nat}{P:Nat→Value→Prop}{St:Nat→Heap→Prop}
theorem o7 {E:Value→Shared→Prop}{s:Shared}{id:String}{b:Builtin}{args:List Value}{kw:List (Str×Value)}{Q:Value→Shared→Prop} (hk:builtinKind id=none) (hp:plainId id=true)
  (hb:entryFor table id=some b) (ha:argsOk id ⟨args,kw⟩)
  (hc:wpAny (model prog w) A.in1 (b ⟨args,kw⟩) (fun fin s'=>match fin with
   | .done f=>(match (Except.ok f:Result) with|.ok (.ret v)=>Q v s'|.ok _=>False|.error e=>E e s')
   | .again c'=>c'.quiet=true∧codeAny (model prog w) A c' (fun r s'=>match r with|.ok (.ret v)=>Q v s'|.ok _=>False|.error e=>E e s') s') E s) :
  wpAny (model prog w) A (call (.builtin id) args kw) Q E s:=by
 refine wpAny_call (codeAny_call_builtin hp hb ?_)
 simp only [checkBuiltinCall,hk]
 cases hsig:Manifest.signature? id with
 | none=>exact wpAny_pure hc
 | some sig =>
  simp only [argsOk,hsig] at ha
  have h2:Bind.checkArgs id sig ⟨args,kw⟩=pure ():=ha
  show wpAny _ A.in1 (Bind.checkArgs id sig ⟨args,kw⟩) _ _ s
  rw [h2];exact wpAny_pure hc
end
section
variable {X:Cx}{K:PySem.W.Frag}{e:Expr}{tl:DA}{p pos kpos p3:Pos}
end
end _L
namespace _L
open PySem PySem.Spec PyProof.Rows
section
variable {ds:List PyData}{ix:List (Option Nat)}{g:DG}{tt:DT}{te:DE}{env:List Sl}{R:Sl→List Sl→Prop}
end
end _L
namespace _L
open PySem PySem.Spec PyProof.Rows PySem.W
section
variable {CX:CXT}{P:Program}{w:World}{K:PySem.W.Frag}{mg:Str→Option Value}{base:Heap}{k:Nat}{f c':Addr}{qual:Str}{params:Arguments}{body:Expr}{scope:Scope}{pm ctv:Value}{N ps:List Str}
 {A : Around}{outer:List Env}{s:Shared}{H:Hp}{us:List Value}{vs:List V}{Q:VK}{E:XK}{t:TE}
theorem x9 (S:ar N ps scope) (hr:cY (k+1) A) (e0:pq P w K mg base A outer s H) (ho:s.heap.get? f=some (kla_obj "<lambda>" qual params body scope [] pm c' ctv)) (hcd:s.heap.CodeRec (.ref c') qual)
  (hb:bindArgs (kla_fn "<lambda>" qual params body scope [] pm (.ref c') ctv) ⟨us,[]⟩=pure (ps.zip us)) (r:aO vs us) (hl:vs.length=ps.length)
  (ht:PE (oq CX P w K mg base N qual scope f (.ref c') A outer s H E) body t) (hq:t (start N vs) H Q):codeAny (model P w) A (.call (.ref f) ⟨us,[]⟩) (CR CX outer P w H s Q E) s:=by
 have lim:s.heap.NoLimit:=e0.mod.nolimit.keeps fun b o e=>(e0.bs b o e).1
 have hkind:∀ y∈ps.zip us,scope.names.lookup y.1=some .local∨(scope.names.lookup y.1=some .cell∧((cellsFrom (s.heap.objs.size+1) scope.names []).lookup y.1).isSome=true):=fun ⟨n,v⟩ hy=>by
  rcases S.par n (FJ hy).1 with q|q
  ·exact .inl q
  ·exact .inr ⟨q,PySem.W.cellsFrom_some _ _ _ (.inl q)⟩
 refine kla_callFunE hr.depth ho rfl S.co S.gen rfl hcd ?_
 rw [hb]
 refine wpAny_pure ?_
 refine wpAny_newFunctionEnv_cells S.kind hkind fun env he s1 x=>?_
 subst he
 refine ⟨lim.keeps x.toInCall.keep,kla_codeExpr ?_⟩
 have I:Inv (oq CX P w K mg base N qual scope f (.ref c') A outer s H E) [] (start N vs) H s1:=kK S hr.hd e0 hl r x
 refine wpAny_mono (ht [] s1 (start N vs) H _ I hq) (fun u s' hs=>?_) fun e s' hs=>hs
 obtain ⟨v,H',J,rv,q⟩:=hs
 exact ⟨v,H',J.os,J.bare,J.base,J.hok,rv,q⟩
end
theorem pc {pos:Pos}{a b:Int}{c cv:Value} (l:List Value) (h:TriplesOk l) (hn:codeAmong pos (l++[rawInt a,rawInt b,c])=some cv):codeAmong pos l=some cv∨cv=c:=by
 fun_induction TriplesOk l with
 | case1 =>
  simp only [List.nil_append,codeAmong,rawInt] at hn
  split at hn
  ·cases hn;exact .inr rfl
  ·cases hn
 | case2 a' t b' u x dc ih =>
  simp only [List.cons_append,codeAmong] at hn ⊢
  split at hn
  ·rename_i hc
   rw [if_pos hc]
   exact .inl hn
  ·rename_i hc
   rw [if_neg hc]
   exact ih h hn
 | case3 l h1 h2=>exact h.elim
noncomputable def Bc (H:Hp) (c:Addr) (q:Str):Prop:=∃ oc u vs t,H c=some (.frz oc u)∧oc.data=.fields vs∧vs[1]? = some (.str q t)
noncomputable def pj (X:Cx):Prop:=∃ c T,X.env.code=.ref c∧CodeHd X.base c T∧hV X.K T (X.env.qual ++ "<lambda>")
section
variable {X:Cx}{pins:List (Addr×Obj)}{σ:St}{H:Hp}{s:Shared}
theorem Inv.grow (I:Inv X pins σ H s) {T c':Addr}{q:Str}{h':Heap}{oc:Obj}{vs:Array Value}{t:Tok}{tk:Nat} (hT:H T=some (.tbl q)) (hx:Heap.ExtBut T s.heap h') (hc:s.heap.objs.size≤c') (ho:h'.get? c'=some oc) (hd:oc.data=.fields vs) (hv:vs[1]? = some (.str q t))
  (ht:yY (upd H c' (.frz oc (.own 0))) h' T q):Inv X pins σ (upd H c' (.frz oc (.own 0))) { s with heap:=h',toks:=tk }∧a9 H (upd H c' (.frz oc (.own 0))):=by
 have hn:H c'=none:=I.hok.fresh hc
 have hTs:T<s.heap.objs.size:=I.hok.lt hT
 have hTc:T≠c':=ED (Ep hTs hc)
 obtain ⟨ps',eT,_⟩:=id ht
 refine ⟨I.un (t':=tk) ⟨fun b o e n _ _=>?_,fun b o e n _ _=>⟨o.slots,?_⟩,fun b o e n _=>?_,fun b o e _=>?_,fun b xs e=>?_,fun b o u e=>?_,fun b q e=>?_⟩ (fun b u e=>?_),fun b o e=>by rw[am (au e hn)];exact e⟩
 ·exact hx b o (fun z=>by rw[z,hT] at n;cases n) e
 ·exact hx b o (fun z=>by rw[z,hT] at n;cases n) e
 ·rw [am (ED (Ep (Eo e) hc))];exact n
 ·by_cases z:b=T
  ·subst z;exact⟨_,eT⟩
  ·exact ⟨o,hx b o z e⟩
 ·rw [am (au e hn)];exact e
 ·rw [am (au e hn)];exact e
 ·rw [am (au e hn)];exact e
 ·by_cases hb:b=c'
  ·subst hb
   rw [aB] at e
   cases e
   exact ⟨ho,_,ho⟩
  ·rw [am hb] at e
   by_cases hbT:b=T
   ·subst hbT
    rw [hT] at e
    cases e
    exact ht
   ·refine (I.hok b u e).stay (fun c v hc' q=>hx c v ?_ q) (fun c q=>by rw[am (au q hn)];exact q) fun c o _ q=>by rw[am (au q hn)];exact q
    rcases hc' with z|z
    ·rw [z];exact hbT
    ·exact fun z'=>by rw[z',hT] at z;cases z
variable {params:Arguments}{body:Expr}{scope:Scope}{pos:Pos}{E:Value→Shared→Prop}
end
section
variable {X:Cx}{pins:List (Addr×Obj)}{σ:St}{H:Hp}{s:Shared}{params:Arguments}{scope:Scope}{p1 p2 p3 p4 p5:Pos}{kk:Nat}{f c':Addr}{qual:Str}{pm ctv:Value}{k:Nat}{A:Around}
noncomputable def fR (X:Cx) (pins:List (Addr×Obj)) (σ:St) (H:Hp) (s:Shared) (d:PyData) (u:Value) (s':Shared):Prop :=
 ∃ H' v,Inv X pins σ H' s'∧a9 H H'∧bx v u∧DN X.K N0 H' v d∧∀ b o,gn X pins H b→s.heap.get? b=some o→s'.heap.get? b=some o∧H' b=none
end
section
variable {X:Cx}{pins:List (Addr×Obj)}{σ:St}{H0:Hp}{f:Value}{vs:List Value}{A:Around}{E:Value→Shared→Prop}{a kS:Addr}
theorem rH {H H':Hp}{b:Addr} (h:gn X pins H b) (n:H' b=none):gn X pins H' b:=⟨n,h.2⟩
theorem pw {xs:List V}{us:List Value}{x:V}{u:Value} (h:aO xs us) (q:bx x u):aO (xs++[x]) (us++[u]):=by
 induction h with
 | nil=>exact .cons q .nil
 | cons r _ i=>exact .cons r i
end
section
variable {X:Cx}{pins:List (Addr×Obj)}{σ:St}{H0:Hp}{f:Addr}{vs:List Value}{A:Around}{E:Value→Shared→Prop}{s:Shared}
end
section
variable {X:Cx}{K:PySem.W.Frag}{e:Expr}{t:TA}{p pos kpos lpos p1 p2 p3 p4 p5:Pos}{kk:Nat}{params:Arguments}{scope:Scope}
noncomputable def AC (d:PyData):Prop:=∃ ns:List Int,d=.list (ns.map .int)
variable {tl:DA}
end
section
variable {P:Program}{w:World}{K:PySem.W.Frag}{mg:Str→Option Value}{base:Heap}
noncomputable def pi (K:PySem.W.Frag) (base:Heap) (x:Str) (fd:FuncData):Prop:=∃ c T,fd.code=.ref c∧CodeHd base c T∧hV K T (x ++ ".<locals>.<lambda>")
theorem B6 {x:Str}{st:Stmt}{f:Addr}{fd:FuncData}{N ps:List Str}{k:Nat}{sp:DSp} (F:Fun K x x st f fd) (S:ar N ps (ad st)) (len:∀ ss R,sp ss R→ss.length=ps.length) (hN:ps.length≤N.length)
  (hb:∀ (cdv:Value) (hcd:cdv=fd.code) (A:Around) (outer:List Env) (s:Shared) (H:Hp) (E:XK),cY k (A.deeper (envOfC x (ad st) s.heap.objs.size f cdv)) →
   ∃ t:DS,PSs (oq CX0 P w K mg base N x (ad st) f cdv A outer s H E).nox (ce st) (upS K t)∧∀ ss R,sp ss R→t (ml ps.length R) (cu N.length ss)):cG P w K mg base CX0 (k+1) f fd ps (spD K sp):=by
 obtain ⟨oc,od,kV,doc,pm,an,cdv,ct,osl,rfl,lk,hcd⟩:=F.ex
 exact Dr (fun A outer s H E hr=>hb cdv rfl A outer s H E hr) lk hcd S len hN
noncomputable def sV (vs:Array Value) (c T:Addr):Prop:=vs[11]? = some (.ref T)∧vs.getD 11 .none=.ref T∧(∃ file tf,vs.getD 18 .none=.str file tf)∧(∃ i t,vs.getD 7 .none=.int i t)∧(∃ b,vs.getD 9 .none=.bool b)∧(∃ i t,vs.getD 10 .none=.int i t)∧c≠T
theorem Ap {x:Str}{f c T:Addr}{fd:FuncData}{oc:Value}{od odc:Option Addr}{osl slc:Array (Option Value)}{vs:Array Value} (hx:x∈dO) (a:PySem.W.nsIn K mainGlobals x=some (some (.ref f))) (l:K.lookup f=some ⟨oc,od,.func fd,osl⟩) (hc:fd.code=.ref c)
  (lc:K.lookup c=some ⟨.type "code",odc,.fields vs,slc⟩) (hT:sV vs c T) (Xb:K.In base):pi K base x fd:=by
 obtain ⟨h1,h2,⟨file,tf,h3⟩,⟨i,t,h4⟩,⟨b,h5⟩,⟨j,u,h6⟩,h7⟩:=hT
 exact ⟨c,T,hc,⟨_,vs,file,tf,i,t,b,j,u,Xb _ _ lc,rfl,rfl,h1,h2,h3,h4,h5,h6,h7⟩,x,hx,f,_,fd,c,_,vs,a,l,rfl,hc,lc,rfl,h1,rfl⟩
structure pf (K:PySem.W.Frag) (h:Heap) (x:Str) (c T:Addr):Prop where
 tab:∀ T0,(∃ f o fd c0 oc vs,PySem.W.nsIn K mainGlobals x=some (some (.ref f))∧K.lookup f=some o∧o.data=.func fd∧fd.code=.ref c0∧K.lookup c0=some oc∧oc.data=.fields vs∧vs[11]? = some (.ref T0))→T0=T
 at':h.get? T=some { cls:=.none,data:=.fields #[] }∧K.lookup T=none∧∃ c,h.TableAt c T #[]
theorem jn {q:Program}{loose:List Str}{XP:(Str→Option Value)→Heap→Prop}{s₀:Shared}{mb:Str→Option Value}{h:Heap}{d:DefRec}{x:Str}{f c T:Addr}{fd:FuncData}{oc:Value}{od odc:Option Addr}{osl slc:Array (Option Value)}{vs:Array Value}
  (G : PySem.W.Ground q loose [] XP w s₀ mg mb h) (KX:K.In h) (hr:(recsOf q).find? (fun e=>e.name==x)=some d)
  (a : PySem.W.nsIn K mainGlobals x=some (some (.ref f))) (l:K.lookup f=some ⟨oc,od,.func fd,osl⟩) (hc:fd.code=.ref c) (lc:K.lookup c=some ⟨.type "code",odc,.fields vs,slc⟩) (hT:sV vs c T) (hn:K.lookup T=none):pf K h x c T:=by
 have ht:tabIn K x=some (c,T):=by
  unfold tabIn
  rw [a]
  simp only [l,hc,lc,hT.1]
 obtain ⟨C,g⟩:=tab_of G.T KX hr ht
 refine ⟨fun T0 e=>?_,g,hn,c,C.tab g⟩
 obtain ⟨f0,o0,fd0,c0,oc0,vs0,a1,a2,a3,a4,a5,a6,a7⟩:=e
 rw [a] at a1
 cases a1
 rw [l] at a2
 cases a2
 cases a3
 rw [hc] at a4
 cases a4
 rw [lc] at a5
 cases a5
 cases a6
 rw [hT.1] at a7
 cases a7
 rfl
theorem wW {h:Heap} (ps:List (Str×Addr×Addr)) (hp:∀ p∈ps,pf K h p.1 p.2.1 p.2.2) (nd:(ps.map fun p=>p.2.2).Nodup) (hL:∀ n∈dO,n∈ps.map (·.1)∨PySem.W.nsIn K mainGlobals n=some none) :
  ∃ tb:List (Addr×Str),(∀ b q,tb.lookup b=some q→h.get? b=some { cls:=.none,data:=.fields #[] }∧K.lookup b=none∧∃ c,h.TableAt c b #[])∧∀ T q,hV K T q→tb.lookup T=some q:=by
 refine ⟨ps.map fun p=>(p.2.2,p.1 ++ ".<locals>.<lambda>"),fun b q' e=>?_,fun T0 q' L=>?_⟩
 ·have : ∃ p∈ps,p.2.2=b:=by
   clear hp nd hL
   induction ps with
   | nil=>cases e
   | cons p ps ih =>
    rw [Eu,ET] at e
    by_cases hb:b=p.2.2
    ·exact ⟨p,Eh,hb.symm⟩
    ·have h1:(b==p.2.2)=false:=by simpa using hb
     rw [h1] at e
     obtain ⟨p',m,e'⟩:=ih e
     exact ⟨p',Ej _ m,e'⟩
  obtain ⟨p,m,rfl⟩:=this
  exact (hp p m).at'
 ·obtain ⟨n,hy,f0,o0,fd0,c0,oc0,vs0,a1,a2,a3,a4,a5,a6,a7,rfl⟩:=L
  rcases hL n hy with hm|hm
  ·obtain ⟨p,m,rfl⟩:=Em.mp hm
   have e:=(hp p m).tab T0 ⟨f0,o0,fd0,c0,oc0,vs0,a1,a2,a3,a4,a5,a6,a7⟩
   subst e
   clear hp hL a1 a7 hm
   induction ps with
   | nil=>cases m
   | cons p' ps ih =>
    rw [Eu,ET]
    rw [Eu,EO] at nd
    rcases En.mp m with rfl|m
    ·simp
    ·have h1:(p.2.2==p'.2.2)=false:=by
      simp only [beq_eq_false_iff_ne,ne_eq]
      exact fun z=>nd.1 (z▸Fz m)
     rw [h1]
     exact ih nd.2 m
  ·rw [hm] at a1
   cases a1
theorem ya {h:Heap}:∀ p∈([]:List (Str×Addr×Addr)),pf K h p.1 p.2.1 p.2.2:=fun p hp=>by cases hp
theorem jm {h:Heap}{x:Str}{c T:Addr}{ps:List (Str×Addr×Addr)} (h1:pf K h x c T) (h2:∀ p∈ps,pf K h p.1 p.2.1 p.2.2):∀ p∈(x,c,T)::ps,pf K h p.1 p.2.1 p.2.2:=fun p hp=>by
 rcases En.mp hp with rfl|hp
 ·exact h1
 ·exact h2 p hp
theorem yb {P:Str→Prop} (h1:P "choices") (h2:P "full_rows") (h3:P "chain_plan") (h4:P "least_ranks"):∀ n∈dO,P n:=fun n hn=>by
 simp only [dO,En,EJ,or_false] at hn
 rcases hn with rfl|rfl|rfl|rfl <;> assumption
end
section
variable {X:Cx}{K:PySem.W.Frag}{e1 e2:Expr}{tl:DA}{p pos:Pos}
end
end _L
namespace _L
open PySem PySem.Spec PyProof.Rows PySem.W
open PySem.SeqAt PySem.MeetsSeq PySem.MeetsSeq2 PySem.MeetsSeq3 PySem.SeqRoads2
open PySem.AutoSeq1 (wpAny_loadPart')
noncomputable def At (items:Array Value) (ns:List Int):Prop:=ns.length=items.size∧∀ j (h:j<items.size),∃ t,items[j]=Value.int (ns.getD j 0) t
theorem ui {ns ms:List Int}{i:Nat} (h1:i<ns.length) (h2:i<ms.length):HT.lexLt (ns.drop i) (ms.drop i)=if ns.getD i 0=ms.getD i 0 then HT.lexLt (ns.drop (i+1)) (ms.drop (i+1)) else decide (ns.getD i 0<ms.getD i 0):=by
 have e1:ns.drop i=ns.getD i 0::ns.drop (i+1):=by rw[E6 h1];simp[Ea,h1]
 have e2:ms.drop i=ms.getD i 0::ms.drop (i+1):=by rw[E6 h2];simp[Ea,h2]
 rw [e1,e2,HT.lexLt_cons]
theorem uf (l b:Addr) (items items2:Array Value) (n n2:Nat) (dd dd2:Option Addr) (sl sl2:Array (Option Value)) (ns ms:List Int) (at1:At items ns) (at2:At items2 ms) (k:Nat) :
  ∀ i : Nat,items.size - i=k→i≤items.size→i≤items2.size→Meets (Builtin.«list.__eq__.loop» ⟨[.ref l,.ref b,rawInt i,rawInt 0],[]⟩)
   (fun A R s=>s.heap.get? l=some { cls:=.type "list",dict:=dd,data:=.seq items n,slots:=sl }∧s.heap.get? b=some { cls:=.type "list",dict:=dd2,data:=.seq items2 n2,slots:=sl2 } ∧
    R (.ok (.ret (.bool (HT.lexLt (ns.drop i) (ms.drop i))))) s):=by
 induction k with
 | zero =>
  intro i hk hi1' hi2' prog w A R s h
  obtain ⟨hp,g,d,tk,os⟩:=s;obtain⟨hl,hb,h⟩:=h
  wp_walk using wpAny_loadPart' hl,wpAny_loadPart' hb
  have hi1:items[((i:Nat):Int).toNat]? = none:=by simp;omega
  rw [hi1]
  wp_walk using wpAny_loadPart' hl,wpAny_loadPart' hb
  have hv:HT.lexLt (ns.drop i) (ms.drop i)=decide (items.size<items2.size):=by
   rw [E5 (by rw[at1.1];omega)]
   by_cases hm:i<ms.length
   ·rw [E6 hm,HT.lexLt_nil_cons,decide_eq_true (by rw[at2.1] at hm;omega)]
   ·rw [E5 (by omega),HT.lexLt_nil_nil,decide_eq_false (by rw[at2.1] at hm;omega)]
  rw [hv] at h
  exact h
 | succ k ih =>
  intro i hk hi1' hi2' prog w A R s h
  obtain ⟨hp,g,d,tk,os⟩:=s;obtain⟨hl,hb,h⟩:=h
  wp_walk using wpAny_loadPart' hl,wpAny_loadPart' hb
  have hlt:i<items.size:=by omega
  have hi1:items[((i:Nat):Int).toNat]? = some items[i]:=by simp[hlt]
  have hc:((i:Int)+1)=((i+1:Nat):Int):=by push_cast;rfl
  rw [hi1]
  by_cases hlt2:i<items2.size
  ·have hi2:items2[((i:Nat):Int).toNat]? = some items2[i]:=by simp[hlt2]
   rw [hi2]
   obtain ⟨t,e1⟩:=at1.2 i hlt
   obtain ⟨u,e2⟩:=at2.2 i hlt2
   rw [ui (by rw[at1.1];exact hlt) (by rw[at2.1];exact hlt2)] at h
   rw [e1,e2]
   refine wpAny_bind (wpAny_eqBool_int ?_)
   by_cases hb':ns.getD i 0=ms.getD i 0
   ·rw [if_pos hb'] at h
    rw [show (ns.getD i 0==ms.getD i 0)=true by simpa using hb']
    wp_walk
    rw [hc]
    exact ⟨plainId_quiet plain_eq_loop _,codeAny_builtin entry_eq_loop (by
     rw [Around.under_plainId plain_eq_loop _]
     exact ih (i+1) (by omega) (by omega) (by omega) prog w A R _ ⟨hl,hb,h⟩)⟩
   ·rw [if_neg hb'] at h
    rw [show (ns.getD i 0==ms.getD i 0)=false by simpa using hb']
    wp_walk using wpAny_loadPart' hl,wpAny_loadPart' hb
    rw [hi1,hi2,e1,e2]
    refine wpAny_bind (show wpAny (model prog w) A.in1 (compareOp .Lt (.int (ns.getD i 0) t) (.int (ms.getD i 0) u)) _ _ _ from wpAny_lt_int (wpAny_pure h))
  ·have hi2:items2[((i:Nat):Int).toNat]? = none:=by simp;omega
   rw [hi2]
   wp_walk using wpAny_loadPart' hl,wpAny_loadPart' hb
   have hv:HT.lexLt (ns.drop i) (ms.drop i)=decide (items.size<items2.size):=by
    rw [E5 (l:=ms) (by rw[at2.1];omega),E6 (l:=ns) (by rw[at1.1];exact hlt),HT.lexLt_cons_nil,decide_eq_false (by omega)]
   rw [hv] at h
   exact h
theorem nE (l b:Addr) (items items2:Array Value) (n n2:Nat) (dd dd2:Option Addr) (sl sl2:Array (Option Value)) (ns ms:List Int) (at1:At items ns) (at2:At items2 ms) :
  Meets (Builtin.«list.__lt__» ⟨[.ref l,.ref b],[]⟩)
   (fun A R s=>s.heap.get? l=some { cls:=.type "list",dict:=dd,data:=.seq items n,slots:=sl }∧s.heap.get? b=some { cls:=.type "list",dict:=dd2,data:=.seq items2 n2,slots:=sl2 } ∧
    R (.ok (.ret (.bool (HT.lexLt ns ms)))) s):=by
 intro prog w A R s h
 obtain ⟨hp,g,d,tk,os⟩:=s;obtain⟨hl,hb,h⟩:=h
 have f3:=AutoSeq1.sub_list_list
 wp_walk using wpAny_loadPart' hl,wpAny_loadPart' hb
 exact ⟨plainId_quiet plain_eq_loop _,codeAny_builtin entry_eq_loop (by
  rw [Around.under_plainId plain_eq_loop _]
  exact uf l b items items2 n n2 dd dd2 sl sl2 ns ms at1 at2 _ 0 rfl (Ez _) (Ez _) prog w A R _ ⟨hl,hb,h⟩)⟩
noncomputable def cD (a b:Int×List Int):Bool:=if a.1=b.1 then (if a.2=b.2 then false else HT.lexLt a.2 b.2) else decide (a.1<b.1)
section
variable {prog:Program}{w:World}{A:Around}{E:Value→Shared→Prop}{s:Shared}
theorem qZ {l b:Addr}{items items2:Array Value}{ns ms:List Int}{Q:Value→Shared→Prop} (hl:s.heap.IsList l items) (hb:s.heap.IsList b items2) (at1:At items ns) (at2:At items2 ms)
  (hu:A.units<cLine) (h:Q (.bool (HT.lexLt ns ms)) s):wpAny (model prog w) A (compareOp .Lt (.ref l) (.ref b)) Q E s:=by
 obtain ⟨⟨cls,dd,data,sl⟩,ho,hc,n,hd⟩:=id hl
 obtain ⟨⟨cls2,dd2,data2,sl2⟩,ho2,hc2,n2,hd2⟩:=id hb
 simp only at hc hd hc2 hd2
 subst hc hd hc2 hd2
 exact richCompare_meets_room (op:=.Lt) ⟨_,ho,rfl⟩ ⟨_,ho2,rfl⟩ F.slot_list_lt F.entry_list_lt (F.args_list_lt_2 _ _) (nE l b items items2 n n2 dd dd2 sl sl2 ns ms at1 at2)
  ⟨ho,ho2,show Value.bool (HT.lexLt ns ms)≠Value.notImplemented∧Q (.bool (HT.lexLt ns ms)) s from ⟨(fun x=>nomatch x),h⟩⟩ hu
noncomputable def wR (h:Heap) (v:Value) (k:Int×List Int):Prop:=∃ (a:Addr) (o:Obj) (n:Nat) (t:Tok) (l:Addr) (its:Array Value) (as:List Addr),v=.ref a∧h.get? a=some o∧o.cls=.type "tuple" ∧ o.data=.seq #[.int k.1 t,.ref l] n∧h.IsList l its∧At its k.2∧Reads h (.ref l) (.list (k.2.map PyData.int)) as
theorem wR.v {h:Heap}{v:Value}{k:Int×List Int} (x:wR h v k):De h v:=by
 obtain ⟨a,o,n,t,l,its,as,e1,e2,e3,e4,e5,e6,e7⟩:=x
 exact ⟨a,o,n,k.1,t,l,its,k.2,as,e1,e2,e3,e4,e5,fun j hj=>let ⟨u,e⟩:=e6.2 j hj;⟨_,u,e⟩,e7⟩
theorem yd {u v:Value}{k k':Int×List Int}{C:Bool→Shared→Prop}{E:Value→Shared→Prop} (hu:A.units+64<cLine) (k1:wR s.heap u k) (k2:wR s.heap v k') (h:C (cD k k') s):wpAny (model prog w) A (keyLt' (tuples' true) u v) C E s:=by
 obtain ⟨a,o,n,t,l,its,as,rfl,e,c,d,i1,i2,i3⟩:=k1
 obtain ⟨a',o',n',t',l',its',as',rfl,e',c',d',j1,j2,j3⟩:=k2
 unfold cD at h
 refine kat_lt e d e' d' ?_
 refine kat_cons (wpAny_eqBool_int ?_)
 refine kat_go (fun he=>kat_yes ?_) fun he=>kat_no (oneLt_int ?_)
 rotate_left
 ·rw [if_neg (by simpa using he)] at h
  exact h
 rw [if_pos (by simpa using he)] at h
 refine kat_cons (SeqAt.eqBoolOverData _ _ _ _ _ _ _ _ _ _ _ _ i3 j3 ?_ ?_ ?_ ?_)
 ·simp [PyData.canLay0,jl]
 ·simp [PyData.canLay0,jl]
 ·have:∀ ns:List Int,(PyData.list (ns.map PyData.int)).depth≤64:=fun ns=>by
   have:=BM ns
   exact SeqAt.depth_of_shaped this
  have:=this k.2
  have:=Nat.min_le_left (PyData.list (k.2.map PyData.int)).depth (PyData.list (k'.2.map PyData.int)).depth
  omega
 ·refine kat_go (fun he2=>kat_yes (kat_nil ?_)) fun he2=>kat_no (kat_one _ _ ?_)
  ·rw [yt] at he2
   rw [if_pos (of_decide_eq_true he2)] at h
   exact h
  ·refine qZ i1 j1 i2 j2 (by omega) ?_
   rw [yt] at he2
   rw [if_neg (of_decide_eq_false he2)] at h
   exact h
noncomputable def aq {α:Type} (lt:Nat→Nat→Bool):KasT α→α
 | .ret a=>a
 | .ask i j k=>aq lt (k (lt i j))
theorem f9.run {α:Type}{n:Nat}{P:α→Prop}{lt:Nat→Nat→Bool}:∀ {t:KasT α},f9 n P t→P (aq lt t)
 | .ret a,h=>h
 | .ask i j k,h=>show P (aq lt (k (lt i j))) from f9.run (t:=k (lt i j)) (h.2.2 _)
theorem mh {α:Type}{n:Nat}{cmp:Nat→Nat→(Bool→Shared→Prop)→Shared→Prop}{P:α→Prop}{lt:Nat→Nat→Bool}{Q:α→Shared→Prop} (I:Shared→Prop)
  (hc:∀ i j C s,i<n→j<n→I s→(∀ s',I s'→C (lt i j) s')→cmp i j C s):∀ {t:KasT α}{s:Shared},f9 n P t→(∀ s,I s→Q (aq lt t) s)→I s→t.kasWp cmp Q s
 | .ret a,s,h,hQ,i=>hQ s i
 | .ask x y k,s,h,hQ,i=>hc x y _ s h.1 h.2.1 i fun s' i'=>mh I hc (h.2.2 (lt x y)) hQ i'
noncomputable def ax (ks:List (Int×List Int)):List Nat:=if ks.length<2 then List.range ks.length else (aq (fun i j=>cD (ks.getD i (0,[])) (ks.getD j (0,[]))) (kas_sort ks.length)).toList
theorem aY (ks:List (Int×List Int)):(ax ks).Perm (List.range ks.length):=by
 unfold ax
 split
 ·exact .refl _
 ·exact (f9.run (i5 (n:=ks.length) (by omega))).list
noncomputable def ca {α:Type} (p:List Nat) (xs:List α) (d:α):List α:=p.map fun i=>xs.getD i d
noncomputable def iU (prog:Program) (w:World) (A:Around) (vs:List Value) (ks:List (Int×List Int)) (s:Shared):Prop :=
 wpAny (model prog w) A (keyKind' vs.toArray) (fun κ s'=>s'=s∧∀ i j (C:Bool→Shared→Prop),i<vs.length→j<vs.length→C (cD (ks.getD i (0,[])) (ks.getD j (0,[]))) s→kas_ask prog w A κ vs i j C s) (fun _ _=>False) s
theorem rf {us:List Value}{ks:List (Int×List Int)} (hu:A.units+64<cLine) (h2:2≤us.length) (hl:ks.length=us.length) (k:∀ i (h:i<us.length),wR s.heap us[i] (ks.getD i (0,[]))):iU prog w A us ks s:=by
 obtain ⟨fs,h1,h3,h4⟩:=iO (h:=s.heap) (us:=us) fun u hu=>by
  obtain ⟨i,hi,rfl⟩:=Ex hu
  exact (k i hi).v
 refine kat_kind (T:=.type "int") h1 (by omega) (fun v hv=>?_) (by rfl) ⟨rfl,fun i j C hi hj hc=>?_⟩
 ·obtain ⟨x,t,rfl⟩:=h4 v hv
  exact .now
 ·have e1:us.getD i Value.none=us[i]:=by simp[hi]
  have e2:us.getD j Value.none=us[j]:=by simp[hj]
  show wpAny (model prog w) A (keyLt' _ (us.getD i Value.none) (us.getD j Value.none)) C (fun _ _=>False) s
  rw [e1,e2]
  exact yd hu (k i hi) (k j hj) hc
end
end _L
namespace _L
open PySem PySem.Spec PyProof.Rows PySem.W
noncomputable def cb:PyData→Int×List Int
 | .tuple [.int n,.list es]=>(n,(cg es).getD [])
 | .int n=>(n,[])
 | .list es=>(0,(cg es).getD [])
 | _=>(0,[])
section
variable {X:Cx}{pins:List (Addr×Obj)}{σ:St}{H:Hp}{s:Shared}
theorem yU:∀ {ns:List Int}{vs:List V}{us:List Value},DVs X.K H vs (ns.map .int)→aO vs us→ns.length=us.length∧∀ j (h:j<us.length),∃ t,us[j]=Value.int (ns.getD j 0) t
 | [],_,_,.nil,.nil=>⟨rfl,fun j h=>by simp at h⟩
 | n :: ns,_,_,.cons d q,.cons r t=>by
  obtain ⟨h1,h2⟩:=yU q t
  refine ⟨by simp[h1],fun j h=>?_⟩
  cases j with
  | zero =>
   cases d
   obtain ⟨t,rfl⟩:=r
   exact ⟨t,rfl⟩
  | succ j =>
   obtain ⟨u,e⟩:=h2 j (by simpa using h)
   exact ⟨u,by simpa using e⟩
theorem rh (I:Inv X pins σ H s) {v:V}{d:PyData}{u:Value} (hd:DV X.K H v d) (r:bx v u) (k:oX d):wR s.heap u (cb d):=by
 obtain ⟨n,ns,rfl⟩:=k
 have ek:cb (.tuple [.int n,.list (ns.map .int)])=(n,ns):=by
  show (n,(cg (ns.map .int)).getD [])=_
  rw [bU]
  rfl
 rw [ek]
 obtain ⟨a,xs,rfl,h,q⟩:=hd.tupI
 obtain ⟨x,y,rfl,q1,q2⟩:=q.twoI
 obtain ⟨its,rv,⟨o,e,c,m,hd⟩,_⟩:=I.tuple h
 obtain ⟨w1,w2,rfl,r1,r2⟩:=pz rv
 rw [q1.intI] at r1
 obtain ⟨t,rfl⟩:=r1
 obtain ⟨as,ra⟩:=q2.reads I r2 (by simpa only [PyData.canLay0] using kt _)
 obtain ⟨l,ys,rfl,h2,q2⟩:=q2.lstI
 have e2:w2=Value.ref l:=r2
 have e3:u=Value.ref a:=r
 subst e2 e3
 obtain ⟨jts,rj,pl,_⟩:=I.list h2
 obtain ⟨h1,h2⟩:=yU q2 rj
 exact ⟨a,o,m,t,l,jts.toArray,as,rfl,e,c,hd,pl.isList,⟨by simpa using h1,fun j hj=>h2 j (by simpa using hj)⟩,ra⟩
theorem ut (I:Inv X pins σ H s) {vs:List V}{ds:List PyData}{us:List Value} (h:DVs X.K H vs ds):aO vs us→(∀ d∈ds,oX d)→(ds.map cb).length=us.length∧∀ i (h:i<us.length),wR s.heap us[i] ((ds.map cb).getD i (0,[])) :=
 DVs.ind (C:=fun vs ds=>∀ us,aO vs us→(∀ d∈ds,oX d)→(ds.map cb).length=us.length∧∀ i (h:i<us.length),wR s.heap us[i] ((ds.map cb).getD i (0,[]))) (fun us r _=>by rw[aO.zero r];exact⟨rfl,fun i h=>by simp at h⟩) (fun d _ ih us r k=>by
  obtain ⟨u,us',rfl,r1,r2⟩:=aO.consI r
  obtain ⟨h1,h2⟩:=ih us' r2 fun d hd=>k d (by simp[hd])
  refine ⟨by simpa using h1,fun i h=>?_⟩
  cases i with
  | zero=>simpa using rh I d r1 (k _ (by simp))
  | succ i=>simpa using h2 i (by simpa using h)) h us
end
section
variable {prog:Program}{w:World}{A:Around}{E:Value→Shared→Prop}{s:Shared}
theorem pK {a:Addr}{vs:List Value}{ks:List (Int×List Int)}{n:Nat}{P:PySem.Fin→Shared→Prop} (ho:s.heap.get? a=some (seqObj "list" vs.toArray n)) (h64:vs.length<64) (hkl:ks.length=vs.length)
  (hk:2≤vs.length→∀ h',(∀ b o,b≠a→s.heap.get? b=some o→h'.get? b=some o)→iU prog w A vs ks { s with heap:=h' })
  (h : ∀ h' c,(∀ b o,b≠a→s.heap.get? b=some o→h'.get? b=some o)→h'.get? a=some (seqObj "list" (ca (ax ks) vs Value.none).toArray c)→P (.done (.ret .none)) { s with heap:=h' }) :
  wpAny (model prog w) A (Builtin.«list.sort» ⟨[.ref a],[]⟩) P E s:=by
 have ha:a<s.heap.objs.size:=Eo ho
 have s1:=Heap.SameBut.update s.heap a (Obj.mapSeq fun _=>(#[]:Array Value))
 obtain ⟨e1,ho1⟩:∃ e1,(s.heap.update a (Obj.mapSeq fun _=>(#[]:Array Value))).get? a=some (seqObj "list" #[] e1):=⟨_,get?_update_seq ho fun _=>#[]⟩
 have keep:∀ b o,b≠a→s.heap.get? b=some o→(((s.heap.update a (Obj.mapSeq fun _=>(#[]:Array Value))).push (seqObj "tuple" vs.toArray 0)).push (seqObj "list" #[] 0)).get? b=some o:=fun b o hb e =>
  Ee _ (Ee _ ((s1.2 b hb).trans e))
 have ho3:(((s.heap.update a (Obj.mapSeq fun _=>(#[]:Array Value))).push (seqObj "tuple" vs.toArray 0)).push (seqObj "list" #[] 0)).get? a=some (seqObj "list" #[] e1):=Ee _ (Ee _ ho1)
 have fin:∀ (ws:List Value),∃ c,(((((s.heap.update a (Obj.mapSeq fun _=>(#[]:Array Value))).push (seqObj "tuple" vs.toArray 0)).push (seqObj "list" #[] 0))).update a (Obj.mapSeq fun _=>ws.toArray)).get? a=some (seqObj "list" ws.toArray c):=fun ws=>⟨_,get?_update_seq ho3 fun _=>ws.toArray⟩
 rw [list_sort_plain]
 refine wpAny_bind (listItems_at ho rfl ?_)
 refine wpAny_bind (listUpdate_at ho rfl ?_ (by rw[El,sizeLine_eq];omega) (Ez _))
 refine wpAny_bind (seqEpoch_at ho1 rfl ?_)
 refine wpAny_bind (wpAny_newTuple ?_ (by show vs.length≤_;rw[sizeLine_eq];omega))
 refine wpAny_bind (wpAny_newList ?_ (Ez _))
 refine wpAny_holding ?_
 show wpAny (model prog w) A _ P E { s with heap:=((s.heap.update a (Obj.mapSeq fun _=>(#[]:Array Value))).push (seqObj "tuple" vs.toArray 0)).push (seqObj "list" #[] 0) }
 dsimp only
 by_cases h2:2≤vs.length
 ·have hn2:¬vs.toArray.size<2:=by rw[El];omega
  rw [if_neg hn2,if_neg hn2]
  refine wpAny_bind (wpAny_mono (hk h2 _ keep) (fun κ s0 hk=>?_) fun _ _ x=>x.elim)
  obtain ⟨rfl,hask⟩:=hk
  have hix:ax ks=(aq (fun i j=>cD (ks.getD i (0,[])) (ks.getD j (0,[]))) (kas_sort vs.length)).toList:=by
   unfold ax
   rw [if_neg (by omega),hkl]
  refine wpAny_bind (wpAny_mono (kat_run (κ:=κ) (A:=A) (prog:=prog) (w:=w) (ks:=vs) (vs:=vs) (G:=fun p s'=>p=aq (fun i j=>cD (ks.getD i (0,[])) (ks.getD j (0,[]))) (kas_sort vs.length)∧s'={ s with heap:=((s.heap.update a (Obj.mapSeq fun _=>(#[]:Array Value))).push (seqObj "tuple" vs.toArray 0)).push (seqObj "list" #[] 0) })
   (Q := fun st' s'=>∃ p:Array Nat,p=aq (fun i j=>cD (ks.getD i (0,[])) (ks.getD j (0,[]))) (kas_sort vs.length)∧p.size=vs.length∧arrOf st'=p.map (kas_item (vs.toArray.zip vs.toArray))∧failedOf st'=none∧s'={ s with heap:=((s.heap.update a (Obj.mapSeq fun _=>(#[]:Array Value))).push (seqObj "tuple" vs.toArray 0)).push (seqObj "list" #[] 0) })
   rfl h2 h64 (fun p' st' s' a1 a2 a3 a4=>⟨p',a4.1,a1,a2,a3,a4.2⟩) (mh (fun s'=>s'={ s with heap:=((s.heap.update a (Obj.mapSeq fun _=>(#[]:Array Value))).push (seqObj "tuple" vs.toArray 0)).push (seqObj "list" #[] 0) }) (fun i j C s' hi hj e hc=>by subst e;exact hask i j C hi hj (hc _ rfl)) (i5 (n:=vs.length) (by omega)) (fun s' e=>⟨rfl,e⟩) rfl)) ?_ fun _ _ e=>e)
  rintro ⟨⟨⟩,st'⟩ s' ⟨p,hpn,hp,har,hf,rfl⟩
  dsimp only
  have hout:=kat_snds rfl har
  have hsz:(List.toArray (p.toList.map fun i=>vs.getD i Value.none)).size=vs.length:=by rw[El,D7,Array.length_toList,hp]
  rw [hout]
  obtain ⟨c2,hc2⟩:=fin (p.toList.map fun i=>vs.getD i Value.none)
  refine wpAny_bind (seqEpoch_at ho3 rfl ?_)
  refine wpAny_bind (listUpdate_at ho3 rfl ?_ (Ez _) (Eg (Nat.le_of_eq hsz) (by rw[sizeLine_eq];omega)))
  rw [hf]
  simp only [bne_self_eq_false,EQ,if_false]
  refine wpAny_pure (h _ c2 (fun b o hb e=>?_) ?_)
  ·exact ((Heap.SameBut.update _ a _).2 b hb).trans (keep b o hb e)
  ·rw [hix,←hpn]
   exact hc2
 ·have hn2:vs.toArray.size<2:=by rw[El];omega
  rw [if_pos hn2,if_pos hn2]
  refine wpAny_bind (wpAny_pure ?_)
  refine wpAny_bind (wpAny_pure ?_)
  have hout:(arrOf (SortSt.mk' general' (vs.toArray.zip vs.toArray) #[] 7 none)).map (·.2)=vs.toArray:=by
   show (vs.toArray.zip vs.toArray).map (·.2)=_
   apply Array.toList_inj.mp
   simp
   exact List.map_snd_zip (Ek _)
  dsimp only
  rw [hout]
  obtain ⟨c2,hc2⟩:=fin vs
  have hpk:ca (ax ks) vs Value.none=vs:=by
   unfold ax ca
   rw [if_pos (by omega),hkl]
   apply Fa
   ·simp
   ·intro i h1 h2
    simp at h1
    simp [h1]
  refine wpAny_bind (seqEpoch_at ho3 rfl ?_)
  refine wpAny_bind (listUpdate_at ho3 rfl ?_ (Ez _) (by rw[El,sizeLine_eq];omega))
  simp only [bne_self_eq_false,EQ,if_false]
  refine wpAny_pure (h _ c2 (fun b o hb e=>?_) (by rw[hpk];exact hc2))
  exact ((Heap.SameBut.update _ a _).2 b hb).trans (keep b o hb e)
theorem gu {l:Addr}{vs:List Value}{ks:List (Int×List Int)}{Q:Value→Shared→Prop} (hl:s.heap.IsList l vs.toArray) (h64:vs.length<64) (hkl:ks.length=vs.length)
  (hk:2≤vs.length→∀ h',(∀ b o,s.heap.get? b=some o→h'.get? b=some o)→iU prog w A.in1.in1 vs ks { s with heap:=h' })
  (h : ∀ D h' c,(∀ b o,s.heap.get? b=some o→h'.get? b=some o)→s.heap.objs.size≤D→h'.get? D=some (seqObj "list" (ca (ax ks) vs Value.none).toArray c)→Q (.ref D) { s with heap:=h' }) :
  wpAny (model prog w) A (call (.builtin "sorted") [.ref l]) Q E s:=by
 refine Calls.call_function_entry kind_sorted plain_sorted entry_sorted (args_sorted1 _) ?_
 unfold Builtin.«sorted»
 refine wpAny_bind (m:=checkCount "sorted" 1 1 _) (wpAny_pure ?_)
 refine wpAny_bind (collect_list hl ?_ (by rw[sizeLine_eq];omega))
 refine wpAny_bind (wpAny_newList ?_ (by rw[sizeLine_eq];omega))
 have hsz:((s.heap.push (seqObj "list" #[] 0)).update s.heap.objs.size (Obj.mapSeq (·++vs.toArray))).objs.size=s.heap.objs.size+1:=by
  rw [Heap.size_update,size_push']
 have hoL:(((s.heap.push (seqObj "list" #[] 0)).update s.heap.objs.size (Obj.mapSeq (·++vs.toArray))).push (seqObj "list" vs.toArray 0)).get? (s.heap.objs.size+1)=some (seqObj "list" vs.toArray 0):=by
  rw [←hsz];exact Er _ rfl
 have keep:∀ b o,s.heap.get? b=some o→(((s.heap.push (seqObj "list" #[] 0)).update s.heap.objs.size (Obj.mapSeq (·++vs.toArray))).push (seqObj "list" vs.toArray 0)).get? b=some o:=fun b o q=>by
  have hlt:b<s.heap.objs.size:=Eo q
  rw [Heap.get?_push_ne _ _ _ (by rw[hsz];exact ED (Fv hlt)),Heap.get?_update_ne _ _ _ _ (ED hlt),Heap.get?_push_ne _ _ _ (ED hlt)]
  exact q
 have ne:∀ b o,s.heap.get? b=some o→b≠s.heap.objs.size+1:=fun b o q=>by
  exact ED (Fv (Eo q))
 show wpAny _ _ _ _ _ { s with heap:=((s.heap.push (seqObj "list" #[] 0)).update s.heap.objs.size (Obj.mapSeq (·++vs.toArray))).push (seqObj "list" vs.toArray 0) }
 rw [hsz]
 refine wpAny_bind (wpAny_holding (wpAny_call_entry slot_list_sort ⟨_,hoL,rfl⟩ entry_list_sort ?body (args_list_sort _)))
 case body =>
  refine pK (s:={ s with heap:=((s.heap.push (seqObj "list" #[] 0)).update s.heap.objs.size (Obj.mapSeq (·++vs.toArray))).push (seqObj "list" vs.toArray 0) }) hoL h64 hkl
   (fun h2 h' k=>hk h2 h' fun b o e=>k b o (ne b o e) (keep b o e)) fun h' c k hD=>⟨_,rfl,wpAny_pure ⟨_,rfl,?_⟩⟩
  exact h _ h' c (fun b o e=>k b o (ne b o e) (keep b o e)) (Fm _) hD
end
theorem eu {vs:List V}{us:List Value} (r:aO vs us):∀ {p:List Nat},(∀ i∈p,i<vs.length)→aO (ca p vs .non) (ca p us Value.none)
 | [],_=>.nil
 | i::p,h=>by
  have hi:=h i (by simp)
  obtain ⟨u,e,ru⟩:=r.get (i:=i) (x:=vs[i]) (by simp[hi])
  have e1:vs.getD i .non=vs[i]:=by simp[Ea,hi]
  have e2:us.getD i Value.none=u:=by rw[Ea,e];rfl
  show aO (vs.getD i .non::ca p vs .non) (us.getD i Value.none::ca p us Value.none)
  rw [e1,e2]
  exact .cons ru (eu r fun j hj=>h j (by simp[hj]))
theorem ju {K:PySem.W.Frag}{N:Addr→Prop}{H:Hp}{vs:List V}{ds:List PyData} (q:DNs K N H vs ds):∀ {p:List Nat},(∀ i∈p,i<vs.length)→DNs K N H (ca p vs .non) (ca p ds .none)
 | [],_=>.nil
 | i :: p,h=>by
  have hi:=h i (by simp)
  have hl:=q.len
  have hm:(vs[i],ds[i]'(by omega))∈vs.zip ds:=by
   rw [List.mem_iff_getElem?]
   exact ⟨i,by rw[FI];exact⟨D8 _,D8 _⟩⟩
  have e1:vs.getD i .non=vs[i]:=by simp[Ea,hi]
  have e2:ds.getD i .none=ds[i]'(by omega):=by simp[Ea,show i<ds.length by omega]
  show DNs K N H (vs.getD i .non::ca p vs .non) (ds.getD i .none::ca p ds .none)
  rw [e1,e2]
  exact .cons (mn q _ hm) (ju q fun j hj=>h j (by simp[hj]))
theorem cm {ks:List (Int×List Int)}:∀ i∈ax ks,i<ks.length:=fun i hi=>Ey.mp ((aY ks).mem_iff.mp hi)
section
variable {X:Cx}{K:PySem.W.Frag}
theorem sC (hK:X.K=K) (hu:X.A.units+80<cLine):fC X (.builtin "sorted") (fun xs H Q=>∃ (p:Addr) (vs:List V) (ds:List PyData),xs=[.ref p]∧SqL K H p vs∧DVs K H vs ds∧(∀ d∈ds,oX d)∧vs.length<64 ∧
  ∀ q,H q=none→Q (.ref q) (upd H q (.lst (ca (ax (ds.map cb)) vs .non)))):=by
 subst hK
 intro pins s σ H xs us Q I r h
 obtain ⟨p,vs,ds,rfl,hs,hd,hk,h64,q⟩:=h
 obtain ⟨u,rfl,ru⟩:=iW r
 cases (show u=Value.ref p from ru)
 obtain ⟨its,rv,hp,_⟩:=I.list hs
 have hlen:=rv.length
 have hdl:ds.length=vs.length:=(yz hd).symm
 refine gu (vs:=its) (ks:=ds.map cb) hp.isList (by omega) (by rw[D7];omega) (fun h2 h' k=>?_) fun D h' c k hD hD2=>?_
 ·have I':=I.kept (t':=s.toks) (h':=h') k
  obtain ⟨k1,k2⟩:=ut I' hd rv hk
  exact rf (by show X.A.in1.in1.units+64<cLine;simp[Around.in1] at *;omega) h2 k1 k2
 ·have hlt:∀ i∈ax (ds.map cb),i<vs.length:=fun i hi=>by have:=cm i hi;rw[D7] at this;omega
  refine ⟨.ref D,upd H D (.lst (ca (ax (ds.map cb)) vs .non)),I.laid (t':=s.toks) (o:=.lst (ca (ax (ds.map cb)) vs .non)) k hD ⟨?_,_,c,eu rv hlt,hD2⟩,rfl,q _ (I.hok.fresh hD)⟩
  unfold ca
  rw [D7,(aY _).length_eq,EE,D7,sizeLine_eq]
  omega
noncomputable def yE (t:DA):DE:=fun env R=>t env fun ss env1=>∃ s ds,ss=[s]∧aG env1 s=some (.list ds)∧(∀ d∈ds,oX d)∧ds.length<64∧R (.ow (ca (ax (ds.map cb)) ds .none)) env1
variable {e:Expr}{p pos:Pos}{tl:DA}
theorem zF (hK:X.K=K) (hu:X.A.units+80<cLine) (hg:Gl X "sorted") (hm:X.mg "sorted" = none) (ha:PA X [e] (upA K tl)) (he:starEach [e] X.env=[(false,eval e X.env)]:=by rfl):PE X (.Call (.Name "sorted" p) [e] [] pos) (up K (yE tl)) :=
 (gc (sC (K:=K) hK hu) hg hm boot_sorted ha (by decide) (by decide) he rfl).imp fun σ H Q h=>by
 obtain ⟨M,P,H0,σ0,env,ts,R,rel,ht,hq⟩:=h
 refine ⟨M,P,H0,σ0,env,ts,_,rel,ht,fun ss env1 vs H1 h1 hl rel1=>?_⟩
 obtain ⟨s,ds,rfl,e1,hk,h64,hR⟩:=h1
 obtain ⟨v,rfl⟩:=q9 hl
 obtain ⟨a,us,rfl,sq,q⟩:=(rel1.view (v:=v) (by simp) e1).list
 have hlt:∀ i∈ax (ds.map cb),i<us.length:=fun i hi=>by have:=cm i hi;rw[D7] at this;rw[q.len];exact this
 exact ⟨a,us,ds,rfl,sq,q.dv,hk,by rw[q.len];exact h64,fun p' hp=>hq _ _ _ _ hR (rel1.resOw hp (ju q hlt))⟩
end
section
variable {prog:Program}{w:World}{A:Around}{E:Value→Shared→Prop}{h:Heap}{g:Array GenState}{d:Drawn}{t:Nat}{os:OsState}
variable {nm q:Str}{C N:Addr}{bs bm bmB:List Value}{hdct:Bool}{sn:List Str}{sub:List Value}{ab:Bool}{col:Option Bool}{dd:Option Addr}{k0 k1 k2 k3 k5:Option Value}{B newId initId:String}
end
section
variable {M:Model}{A:Around}{E:Value→Shared→Prop}{env:Env}{nm q:Str}{C N:Addr}{bs bm:List Value}{hdct:Bool}{sn:List Str}{sub:List Value}{ab:Bool}{col:Option Bool}{dd:Option Addr}{k0 k1 k2 k3 k5:Option Value}{newId:String}
end
end _L
namespace _L
open PySem PySem.Spec PyProof.Rows PySem.W
open Builtin Builtin.ObjectAttr
section
variable {prog:Program}{w:World}{A:Around}{E:Value→Shared→Prop}{h:Heap}{g:Array GenState}{d:Drawn}{t:Nat}{os:OsState}
variable {nm q:Str}{C N x:Addr}{bs bm:List Value}{sn:List Str}{sub:List Value}{ab:Bool}{col:Option Bool}{dd:Option Addr}{k0 k1 k2 k3 k5:Option Value}{newId:String}{name:Str}{v:Value}{o:Obj}
end
end _L
namespace _L
open PySem PySem.Spec PyProof.Rows PySem.W
section
variable {M:Model}{A:Around}{E:Value→Shared→Prop}{s:Shared}
end
noncomputable def Df (e C:Addr) (dx:Option Addr) (h:Heap):Prop:=∃ t sl,h.get? e=some { cls:=.ref C,dict:=dx,data:=.fields #[.ref t,.none,.none,.none,.bool false,.none],slots:=sl }
section
variable {X:Cx}{o value:Expr}{ta tv:TE}{pos pos':Pos}
end
section
variable {P:Program}{w:World}{K:PySem.W.Frag}{mg:Str→Option Value}{base:Heap}{N:List Str}{qual:Str}{scope:Scope}{f:Addr}{cd:Value}{A:Around}{outer:List Env}{s:Shared}{H:Hp}{E:XK}
end
section
variable {K:PySem.W.Frag}{P:Program}{w:World}{mg:Str→Option Value}{base:Heap}
end
section
variable {X:Cx}{C fI:Addr}{fd:FuncData}{x:Str}{k:Nat}{e:Expr}{t:TA}{p pos:Pos}
end
section
variable {P:Program}{w:World}{K:PySem.W.Frag}{mg:Str→Option Value}{base:Heap}{N:List Str}{qual:Str}{scope:Scope}{f:Addr}{cd:Value}{A:Around}{outer:List Env}{s:Shared}{H:Hp}{E:XK}
end
section
variable {X:Cx}{pins:List (Addr×Obj)}{σ:St}{H:Hp}{s:Shared}{e:Value}
end
section
variable {P:Program}{w:World}{H H':Hp}{h0 h h2:Heap}{a old C T:Addr}{dx:Option Addr}{oe:Obj}{vs:Array Value}{fl:Value}{outer:List Env}
end
section
variable {X:Cx}{k:Nat}{f C fI:Addr}{fd:FuncData}{ps:List Str}{sp:Sp}{x xn:Str}{p pos pos2 pn ph pt:Pos}{e:Expr}{es:List Expr}{t:TA}{b₀:Stmt}{th:TS}
end
noncomputable abbrev CT:=List Sl→(Sl→List Sl→Prop)→(Int→Prop)→Prop
section
variable {X:Cx}{K:PySem.W.Frag}{Hs:Hp}{pos:Pos}{st:Stmt}{dc a b:List Stmt}{t u:DS}{e c tg iter:Expr}{te:DE}{tc:DT}
end
section
variable {P:Program}{w:World}{K:PySem.W.Frag}{mg:Str→Option Value}{base:Heap}{N:List Str}{qual:Str}{scope:Scope}{f:Addr}{cd:Value}{A:Around}{outer:List Env}{s:Shared}{H:Hp}{E:XK}{C:Addr}{RX:Int→Prop}{tl:DA}{k:Nat}
end
section
variable {X:Cx}{x:Str}{p pos pos2 pn ph pt:Pos}{e:Expr}{es:List Expr}{k:Nat}{sp:CT}{K:PySem.W.Frag}{tl:DA}{C:Addr}{b₀:Stmt}{th:DS}
end
section
variable {K:PySem.W.Frag}{M P N:Addr→Prop}{H0 H H':Hp}{σ0 σ:St}{env:List Sl}{ts tt:List (V×Sl)}{v:V}{s:Sl}{d:PyData}
end
section
variable {X:Cx}{x:Str}{p pos:Pos}{e:Expr}{es:List Expr}{k:Nat}{sp:DSp}{K:PySem.W.Frag}{tl:DA}
end
theorem us1 {Q:List Value→Prop}{us:List Value} (l:us.length=1) (h:∀ a:Value,Q [a]):Q us:=by
 obtain ⟨a,rfl⟩:=q9 l
 exact h a
theorem us2 {Q:List Value→Prop}{us:List Value} (l:us.length=2) (h:∀ a b:Value,Q [a,b]):Q us:=by
 obtain ⟨a,b,rfl⟩:=Cb l
 exact h a b
theorem us3 {Q:List Value→Prop}{us:List Value} (l:us.length=3) (h:∀ a b c:Value,Q [a,b,c]):Q us:=by
 obtain ⟨a,b,c,rfl⟩:=Dy l
 exact h a b c
section
variable {X:Cx}{x:Str}{p pos:Pos}{e:Expr}{es:List Expr}{k:Nat}{sp:CT}{K:PySem.W.Frag}{tl:DA}{C:Addr}
end
section
variable {X:Cx}{pins:List (Addr×Obj)}{σ:St}{H:Hp}{s:Shared}
end
noncomputable def sU.off (D:sU) (i:Nat):sU:=⟨fun σ H=>D.nx (σ.set i none) H,D.rt,fun σ H=>D.bk (σ.set i none) H,fun σ H=>D.ct (σ.set i none) H⟩
section
variable {X:Cx}{k:Nat}{f C fI:Addr}{fd:FuncData}{ps:List Str}{sp:Sp}{x xn xe:Str}{p pos pos2 pn ph pt:Pos}{e tg:Expr}{es:List Expr}{t:TA}{b₀:Stmt}{bs:List Stmt}{th:TS}{g:TG}{i:Nat}{hs':List ExceptHandler}
end
section
variable {X:Cx}{x xe:Str}{p pos pos2 pn ph pt:Pos}{e tg:Expr}{es:List Expr}{k i:Nat}{sp:CT}{K:PySem.W.Frag}{tl:DA}{C:Addr}{b₀:Stmt}{bs:List Stmt}{th:DS}{g:DG}{hs':List ExceptHandler}
end
section
variable {prog:Program}{w:World}{A:Around}{E:Value→Shared→Prop}{h:Heap}{g:Array GenState}{d:Drawn}{t:Nat}{os:OsState}
variable {nm q:Str}{C N x:Addr}{bs bm:List Value}{sn:List Str}{sub:List Value}{ab:Bool}{col:Option Bool}{dd:Option Addr}{k0 k1 k2 k3 k5:Option Value}{newId:String}{name:Str}{v:Value}{o:Obj}
end
section
variable {prog:Program}{w:World}{A:Around}{E:Value→Shared→Prop}{h:Heap}{g:Array GenState}{d:Drawn}{t:Nat}{os:OsState}
variable {nm q:Str}{C N x:Addr}{bs bm:List Value}{sn:List Str}{sub:List Value}{ab:Bool}{col:Option Bool}{dd:Option Addr}{k0 k1 k2 k3 k5:Option Value}{newId:String}{name:Str}{v c:Value}{o:Obj}
end
section
variable {X:Cx}{C fI:Addr}{e:Expr}{te:TE}{pos:Pos}
end
section
variable {X:Cx}{K:PySem.W.Frag}{C Dd fI:Addr}{e:Expr}{te:DE}{pos p:Pos}
end
section
variable {P:Program}{w:World}{K:PySem.W.Frag}{mg:Str→Option Value}{base:Heap}{N:List Str}{qual:Str}{scope:Scope}{f:Addr}{cd:Value}{A:Around}{outer:List Env}{s:Shared}{H:Hp}{E:XK}{C:Addr}{RX:Int→Prop}{tl:DA}{k:Nat}
end
section
variable {X:Cx}{K:PySem.W.Frag}{C Dd:Addr}{e:Expr}{te:DE}{pos p:Pos}
end
end _L
namespace _L
open PySem PySem.Spec PyProof.Rows
theorem qz:∀ {a b:List Int},a.map PyData.int=b.map PyData.int→a=b
 | [],[],_=>rfl
 | [],_::_,e=>by simp at e
 | _::_,[],e=>by simp at e
 | x::xs,y::ys,e=>by
  rw [Eu,Eu] at e
  injection e with e1 e2
  injection e1 with e1
  rw [e1,qz e2]
theorem tG {k k':aM} (e:c7 k=c7 k'):k=k':=by
 obtain ⟨d,l⟩:=k
 obtain ⟨d',l'⟩:=k'
 simp only [c7,PyData.tuple.injEq,List.cons.injEq,PyData.int.injEq,and_true] at e
 rw [e.1,qz e.2]
theorem gj:∀ {kvs kvs':List (aM×PyData)},kvs.map (fun p=>(c7 p.1,p.2))=kvs'.map (fun p=>(c7 p.1,p.2))→kvs=kvs'
 | [],[],_=>rfl
 | [],_::_,e=>by simp at e
 | _::_,[],e=>by simp at e
 | (k,v)::xs,(k',v')::ys,e=>by
  rw [Eu,Eu] at e
  injection e with e1 e2
  injection e1 with e1 e3
  have e1:=tG e1
  simp only at e1 e3
  rw [e1,e3,gj e2]
section
variable {K:PySem.W.Frag}{M P N:Addr→Prop}{H0 H H':Hp}{E T A B:List Ent}{σ0 σ:St}{env:List Sl}{ts tt:List (V×Sl)}{v:V}{s:Sl}{d:PyData}{kvs:List (aM×PyData)}
noncomputable def BB (K:PySem.W.Frag) (N:Addr→Prop) (H:Hp) (v:V) (kvs:List (aM×PyData)):Prop :=
 ∃ a es,v=.ref a∧H a=some (.ext (b8 a es))∧DNs K N H (es.map fun p=>V.ref p.2.1) (kvs.map fun p=>c7 p.1)∧DNs K N H (es.map fun p=>p.2.2) (kvs.map fun p=>p.2)∧es.map (fun p=>p.1)=kvs.map (fun p=>p.1)
theorem BB.dctV (h:BB K N H v kvs):CS K H v kvs:=by
 obtain ⟨a,es,e,ha,hk,hv,ee⟩:=h
 exact ⟨a,es,e,ha,hk.dv,hv.dv,ee⟩
theorem uK {ds:List PyData} (e:fzD ds=dX kvs):False:=by
 cases kvs with
 | nil=>cases e
 | cons p kvs=>simp[fzD,dX,c7] at e
theorem DN.dct_of (h:DN K N H v d) (e:d=dX kvs):BB K N H v kvs:=by
 cases h with
 | fz _=>exact (uK e).elim
 | @dct a es kvs' n ha hk hv ee =>
  injection e with e
  have e:=gj e
  subst e
  exact ⟨a,es,rfl,ha,hk,hv,ee⟩
 | _=>cases e
theorem Vw.dct_of (h:Vw K N H v d) (e:d=dX kvs):BB K N H v kvs:=by
 cases h with
 | dn h=>exact h.dct_of e
 | ow h q=>cases e
 | @dct a es kvs' ha hk hv ee =>
  injection e with e
  have e:=gj e
  subst e
  exact ⟨a,es,rfl,ha,hk,hv,ee⟩
theorem OT.dct_of {S:List Addr} (h:OT K N H v d S) (e:d=dX kvs):∃ a es,v=.ref a∧S=[a]∧H a=some (.ext (b8 a es))∧DNs K N H (es.map fun p=>V.ref p.2.1) (kvs.map fun p=>c7 p.1)∧DNs K N H (es.map fun p=>p.2.2) (kvs.map fun p=>p.2)∧es.map (fun p=>p.1)=kvs.map (fun p=>p.1):=by
 cases h with
 | fz _=>exact (uK e).elim
 | @dct a es kvs' ha hk hv ee =>
  injection e with e
  have e:=gj e
  subst e
  exact ⟨a,es,rfl,rfl,ha,hk,hv,ee⟩
 | _=>cases e
noncomputable def Cm:G2:=fun d e R=>∃ k kvs,d=c7 k∧e=dX kvs∧R (.bool (bG kvs k).isSome)
noncomputable def mj:G2:=fun d e R=>∃ k kvs,d=c7 k∧e=dX kvs∧R (.bool (!(bG kvs k).isSome))
noncomputable def Cl:G2:=fun d e R=>∃ kvs k x,d=dX kvs∧e=c7 k∧bG kvs k=some x∧R x
theorem Dv:bQ K (BU K) Cm:=by
 rintro N H x y d e R Q w1 w2 ⟨k,kvs,rfl,rfl,hR⟩ hq
 exact ⟨k,kvs,w1.dv,(w2.dct_of rfl).dctV,hq _ _ hR (.bl _)⟩
theorem l7:bQ K (lL K) mj:=by
 rintro N H x y d e R Q w1 w2 ⟨k,kvs,rfl,rfl,hR⟩ hq
 exact ⟨k,kvs,w1.dv,(w2.dct_of rfl).dctV,hq _ _ hR (.bl _)⟩
theorem y6:bQ K (BS K) Cl:=by
 rintro N H x y d e R Q w1 w2 ⟨kvs,k,z,rfl,rfl,hg,hR⟩ hq
 obtain ⟨a,es,rfl,ha,hk,hv,ee⟩:=w1.dct_of rfl
 refine ⟨k,a,es,kvs,rfl,w2.dv,ha,hk.dv,hv.dv,ee,by rw[hg];rfl,fun i v d hd h1 h2=>?_⟩
 rw [hg] at hd
 cases hd
 obtain ⟨z',e1,dn⟩:=hv.get h1
 rw [h2] at e1
 cases e1
 exact hq _ _ hR dn
theorem sO:∀ {es:List (aM×Addr×V)}{kvs:List (aM×PyData)} (k:aM),es.map (fun p=>p.1)=kvs.map (fun p=>p.1)→(es.any fun p=>decide (p.1=k))=(bG kvs k).isSome
 | [],[],k,_=>rfl
 | [],_::_,k,e=>by simp at e
 | _::_,[],k,e=>by simp at e
 | p::es,q::kvs,k,e=>by
  rw [Eu,Eu] at e
  injection e with e1 e2
  rw [List.any_cons,sO k e2,bD,e1]
  by_cases h:q.1=k <;> simp[h]
theorem tP {es:List (aM×Addr×V)}{kvs:List (aM×PyData)} (k:aM) (v:V) (d:PyData) (e:es.map (fun p=>p.1)=kvs.map (fun p=>p.1)) (h1:DNs K N H (es.map fun p=>V.ref p.2.1) (kvs.map fun p=>c7 p.1)) (h2:DNs K N H (es.map fun p=>p.2.2) (kvs.map fun p=>p.2)) (dn:DN K N H v d) :
    (es.map fun p=>if p.1=k then (p.1,p.2.1,v) else p).map (fun p=>p.1)=(kvs.map fun p=>if p.1=k then (p.1,d) else p).map (fun p=>p.1) ∧
    DNs K N H ((es.map fun p=>if p.1=k then (p.1,p.2.1,v) else p).map fun p=>V.ref p.2.1) ((kvs.map fun p=>if p.1=k then (p.1,d) else p).map fun p=>c7 p.1) ∧
    DNs K N H ((es.map fun p=>if p.1=k then (p.1,p.2.1,v) else p).map fun p=>p.2.2) ((kvs.map fun p=>if p.1=k then (p.1,d) else p).map fun p=>p.2):=by
  induction es generalizing kvs with
  | nil =>
    cases kvs with
    | nil=>exact⟨rfl,.nil,.nil⟩
    | cons q kvs=>simp at e
  | cons p es ih =>
   cases kvs with
   | nil=>simp at e
   | cons q kvs =>
    rw [Eu,Eu] at e h1 h2
    injection e with e1 e2
    cases h1 with
    | cons a1 a2 =>
      cases h2 with
      | cons b1 b2 =>
        obtain ⟨i1,i2,i3⟩:=ih e2 a2 b2
        simp only [Eu]
        by_cases h:q.1=k
        · have hp:p.1=k:=e1.trans h
          simp only [h,hp,if_true]
          refine ⟨by rw[i1],.cons ?_ i2,.cons dn i3⟩
          rw [←h];exact a1
        · have hp:¬p.1=k:=fun z=>h (e1.symm.trans z)
          simp only [h,hp,if_false]
          exact ⟨by rw[i1,e1],.cons a1 i2,.cons b1 i3⟩
theorem xq {es:List (aM×Addr×V)}{k:aM}{b:Addr} (e:es.map (fun p=>p.1)=kvs.map (fun p=>p.1)) (h1:DNs K N H (es.map fun p=>V.ref p.2.1) (kvs.map fun p=>c7 p.1)) (h2:DNs K N H (es.map fun p=>p.2.2) (kvs.map fun p=>p.2)) (hb:DN K N H (.ref b) (c7 k)) (dn:DN K N H v d) :
  (qw es k b v).map (fun p=>p.1)=(fU kvs k d).map (fun p=>p.1)∧DNs K N H ((qw es k b v).map fun p=>V.ref p.2.1) ((fU kvs k d).map fun p=>c7 p.1)∧DNs K N H ((qw es k b v).map fun p=>p.2.2) ((fU kvs k d).map fun p=>p.2):=by
 unfold qw fU
 rw [sO k e]
 by_cases c:(bG kvs k).isSome=true
 ·rw [if_pos c,if_pos c]
  exact tP k v d e h1 h2 dn
 ·rw [if_neg c,if_neg c]
  simp only [EH,Eu,FQ]
  exact ⟨by rw[e],h1.app (.cons hb .nil),h2.app (.cons dn .nil)⟩
theorem bq.retreeR {S S' R:List Addr}{d':PyData}{a:Addr}{o:HO} (h:bq K M P H0 (A++(some v,.tr S d)::B) H) (ma:a∈S) (pm:S.Perm (S'++R)) (ot':OT K (Nw M (A++(some v,.tr S d)::B)) (upd H a o) v d' S') :
  bq K M P H0 (A++(some v,.tr S' d')::B) (upd H a o):=by
 obtain ⟨v',ev,ot,h0⟩:=h.tr _ _ _ (D9 _ Eh)
 cases ev
 have oe:oas (A++(some v,Sl.tr S d)::B)=oas A++(S++oas B):=by rw[ah,ak,aL]
 have nd:=h.nd
 rw [oe] at nd
 obtain ⟨n1,n2,n3⟩:=Ei.mp nd
 obtain ⟨n4,n5,n6⟩:=Ei.mp n2
 have na:Nw M (A++(some v,Sl.tr S d)::B) a:=.inr (by rw[oe];exact D9 _ (Ec _ ma))
 have kN:aS (Nw M (A++(some v,Sl.tr S d)::B)) H (upd H a o):=aS.own na
 have oe2:oas (A++(some v,Sl.tr S' d')::B)=oas A++(S'++oas B):=by rw[ah,ak,aL]
 have inS:∀ b,b∈S'→b∈S:=fun b z=>pm.mem_iff.mpr (Ec _ z)
 have up:∀ b,Nw M (A++(some v,Sl.tr S' d')::B) b→Nw M (A++(some v,Sl.tr S d)::B) b:=Nw.sub fun b z=>by
  rw [oe2] at z
  rw [oe]
  rcases Ed.mp z with z|z
  ·exact Ec _ z
  ·rcases Ed.mp z with z|z
   ·exact D9 _ (Ec _ (inS b z))
   ·exact D9 _ (D9 _ z)
 have upo:∀ (b:Addr) (u:HO),upd H a o b=some u→Nw M (A++(some v,Sl.tr S' d')::B) b→Nw M (A++(some v,Sl.tr S d)::B) b:=fun b _ _ z=>up b z
 have back:∀ x t,(x,t)∈A∨(x,t)∈B→(x,t)∈A++(some v,Sl.tr S d)::B:=fun x t m=>by
  rcases m with m|m
  ·exact Ec _ m
  ·exact D9 _ (Ej _ m)
 have old:∀ x t,(x,t)∈A++(some v,Sl.tr S' d')::B→(x,t)=(some v,Sl.tr S' d')∨((x,t)∈A∨(x,t)∈B):=fun x t m=>by
  rcases Ed.mp m with m|m
  ·exact .inr (.inl m)
  ·rcases En.mp m with m|m
   ·exact .inl m
   ·exact .inr (.inr m)
 have other:∀ x t b,(x,t)∈A∨(x,t)∈B→b∈cO (x,t)→b≠a:=fun x t b m eo z=>by
  subst z
  rcases m with m|m
  ·exact n3 b (aW.mpr ⟨_,m,eo⟩) b (Ec _ ma) rfl
  ·exact n6 b ma b (aW.mpr ⟨_,m,eo⟩) rfl
 refine ⟨h.keep.put (h0 a ma),fun b q z=>?_,h.mt,h.pm,fun x d' m=>?_,fun x d' m=>?_,fun x d' m=>?_,fun x S2 d' m=>?_,?_⟩
 ·by_cases hb:b=a
  ·subst hb;rw[aB] at z;cases z
  ·rw [am hb] at z;exact h.live b q z
 ·rcases old _ _ m with m|m
  ·cases m
  ·obtain ⟨w',e1,dn⟩:=h.fr x d' (back _ _ m)
   exact ⟨w',e1,(dn.keep kN).to upo⟩
 ·rcases old _ _ m with m|m
  ·cases m
  ·obtain ⟨b,us2,e1,e2,dn,r2⟩:=h.ow x d' (back _ _ m)
   subst e1
   exact ⟨b,us2,rfl,by rw[am (other _ _ b m (Eb.mpr rfl))];exact e2,(dn.keep kN).to upo,r2⟩
 ·rcases old _ _ m with m|m
  ·cases m
  ·obtain ⟨b,us2,e1,e2,dn,r2⟩:=h.io x d' (back _ _ m)
   subst e1
   exact ⟨b,us2,rfl,by rw[am (other _ _ b m (Eb.mpr rfl))];exact e2,(dn.keep kN).to upo,r2⟩
 ·rcases old _ _ m with m|m
  ·cases m
   exact ⟨v,rfl,ot'.to upo,fun b hb=>h0 b (inS b hb)⟩
  ·obtain ⟨w',e1,dn,r2⟩:=h.tr x S2 d' (back _ _ m)
   subst e1
   exact ⟨w',rfl,(dn.keep kN fun b hb=>am (other _ _ b m (by rw[aL];exact hb))).to upo,r2⟩
 ·rw [oe2]
  have nd':(oas A++((S'++R)++oas B)).Nodup:=(List.Perm.append_left _ (List.Perm.append_right _ pm)).nodup_iff.mp nd
  refine nd'.sublist (List.Sublist.append_left (List.Sublist.append_right ?_ _) _)
  exact List.sublist_append_left _ _
theorem Rel.retreeT {i:Nat}{S S' R:List Addr}{d':PyData}{a:Addr}{o:HO} (h:Rel K M P H0 σ0 σ env ts H) (e:env[i]? = some (.tr S d)) (ev:σ[i]? = some (some v)) (ma:a∈S) (pm:S.Perm (S'++R)) (ot':OT K (Nw M (ay σ env ts)) (upd H a o) v d' S') :
  Rel K M P H0 σ0 σ (env.set i (.tr S' d')) ts (upd H a o):=by
 obtain ⟨x,A,B,e1,q1,q2⟩:=h.split e
 rw [ev] at e1
 cases e1
 have r:=h.e
 rw [q1] at r ot'
 refine ⟨by rw[q2];exact r.retreeR ma pm ot',by simp[h.len],h.vw,fun j ds'' e'=>?_⟩
 by_cases hj:i=j
 ·subst hj
  have hi:i<env.length:=(Ef.mp e).1
  rw [EG hi] at e'
  cases e'
 ·rw [EF hj] at e'
  exact h.ios j ds'' e'
theorem Rel.dct {i:Nat}{S:List Addr} (h:Rel K M P H0 σ0 σ env ts H) (e:env[i]? = some (.tr S (dX kvs))):∃ a es,σ[i]? = some (some (.ref a))∧S=[a]∧H a=some (.ext (b8 a es))∧DNs K (Nw M (ay σ env ts)) H (es.map fun p=>V.ref p.2.1) (kvs.map fun p=>c7 p.1) ∧
  DNs K (Nw M (ay σ env ts)) H (es.map fun p=>p.2.2) (kvs.map fun p=>p.2)∧es.map (fun p=>p.1)=kvs.map (fun p=>p.1):=by
 obtain ⟨x,e1,m⟩:=h.slot e
 obtain ⟨v,ev,ot,_⟩:=h.e.tr _ _ _ m
 obtain ⟨a,es,rfl,eS,ha,hk,hv,ee⟩:=ot.dct_of rfl
 exact ⟨a,es,by rw[e1,ev],eS,ha,hk,hv,ee⟩
end
section
variable {X:Cx}{K:PySem.W.Frag}{pos:Pos}{e:Expr}{te tj:DE}
theorem DH (hK:X.K=K) (hu:X.A.units+2<cLine):OpR X (compareOp .In) (BU K):=by subst hK;exact Ad hu
theorem mi (hK:X.K=K) (hu:X.A.units+2<cLine):OpR X (compareOp .NotIn) (lL K):=by subst hK;exact qO hu
theorem y9 (hK:X.K=K) (hu:X.A.units+2<cLine):IxR X (BS K):=by subst hK;exact DK hu
theorem hu2 {k:Nat}{A:Around} (hr:cY k A):A.units+2<cLine:=FB (Nat.add_le_add_left (by decide:2≤64) _) hr.units
noncomputable def yI (i:Nat) (tj te:DE):DS:=fun DD env=>te env fun s1 env1=>(∃ S kvs,env1[i]? = some (.tr S (dX kvs)))∧tj env1 fun s2 env2=>∃ (S:List Addr) (kvs:List (aM×PyData)) (k:aM) (d:PyData),
 env2[i]? = some (.tr S (dX kvs))∧aI env2 s2=some (c7 k)∧aI env2 s1=some d∧kvs.length<sizeLine∧DD.nx (env2.set i (.tr S (dX (fU kvs k d))))
theorem nu (i:Nat) {y:Str}{npos spos:Pos}{j:Expr} (hK:X.K=K) (hu:X.A.units+2<cLine) (hN:X.N[i]? = some y) (hj:PE X j (up K tj)) (he:PE X e (up K te))
  (hv:Vis X.env.scope y:=by first|exact Or.inl rfl|exact Or.inr (Or.inl rfl)|exact Or.inr (Or.inr rfl)) (hd:(y==("__debug__" : Str))=false:=by decide)
  (hcd:(y==("__classdict__" : Str))=false:=by decide)
  (ha:∀ v,assign (.Subscript (.Name y npos) j spos) X.env v=(do
   let ov ←holding [v] (eval (.Name y npos) X.env)
   let iv ←holding [v,ov] (eval j X.env)
   standAt spos
   holding [v,ov,iv] (setItem ov iv v)
   release [v,ov,iv] []):=by intro _;rfl)
  (hs:swapsWithSole [.Subscript (.Name y npos) j spos] e pos.line X.env=pure false:=by rfl) (hw:swappedStores [.Subscript (.Name y npos) j spos] e X.env=pure none:=by rfl)
  (h1:(assignEach [.Subscript (.Name y npos) j spos] X.env).map (·.2)=[assign (.Subscript (.Name y npos) j spos) X.env]:=by rfl):PS X (.Assign [.Subscript (.Name y npos) j spos] e pos) (upS K (yI i tj te)):=by
 subst hK
 refine (vQ he (vR (cU hN hv hd hcd) hj (BN hu) ha) hs hw h1).imp fun D σ H h=>?_
 obtain ⟨M,P,H0,σ0,env,ts,DD,nv,rel,ht,ok⟩:=h
 refine ⟨M,P,H0,σ0,env,ts,_,rel,ht,fun s1 env1 v1 H1 h1 rel1=>?_⟩
 obtain ⟨⟨S0,kvs0,e0⟩,h1⟩:=h1
 obtain ⟨a,_,ea,_⟩:=rel1.dct e0
 refine ⟨.ref a,ea,M,P,H0,σ0,env1,ts++[(v1,s1)],_,rel1,h1,fun s2 env2 v2 H2 h2 rel2=>?_⟩
 obtain ⟨S,kvs,k,d,e2,ek,ed,hl,hR⟩:=h2
 have rel2':Rel X.K M P H0 σ0 σ env2 (ts++[(v1,s1),(v2,s2)]) H2:=by simpa using rel2
 have dn1:=rel2'.kept (v:=v1) (s:=s1) (by simp) ed
 have dn2:=rel2'.kept (v:=v2) (s:=s2) (by simp) ek
 obtain ⟨a',es,ea',eS,hH,hk,hv,ee⟩:=rel2'.drop.dct e2
 rw [ea] at ea'
 cases ea'
 obtain ⟨b,xs,rfl,_,_⟩:=dn2.tuple
 have hlen:es.length=kvs.length:=by have:=congrArg List.length ee;simpa using this
 refine ⟨k,a,b,es,kvs,rfl,rfl,dn2.dv,hH,hk.dv,ee,by omega,ok.nx _ _ _ hR ?_⟩
 obtain ⟨p1,p2,p3⟩:=xq (b:=b) (k:=k) ee hk hv dn2 dn1
 have na:Nw M (ay σ env2 ts) a:=by
  obtain ⟨x,A,B,e1,q1,q2⟩:=rel2'.drop.split e2
  refine .inr ?_
  rw [q1,ah,ak]
  rw [ea] at e1
  cases e1
  rw [aL,eS]
  simp
 have kN:aS (Nw M (ay σ env2 ts)) H2 (upd H2 a (.ext (b8 a (qw es k b v1)))):=aS.own na
 refine rel2'.drop.retreeT (R:=[]) e2 ea (by rw[eS];simp) (by simp) ?_
 rw [eS]
 exact .dct aB (p2.keep kN) (p3.keep kN) p1
end
section
variable {K:PySem.W.Frag}{M P N:Addr→Prop}{H0 H H':Hp}{E T A B:List Ent}{σ0 σ:St}{env:List Sl}{ts tt:List (V×Sl)}{v:V}{s:Sl}{d:PyData}{kvs:List (aM×PyData)}
theorem bq.addD (h:bq K M P H0 E H) {p:Addr} (hp:H p=none):bq K M P H0 (E++[(some (.ref p),.tr [p] (dX []))]) (upd H p (.ext (b8 p []))):=by
 have oe:oas (E++[(some (.ref p),Sl.tr [p] (dX []))])=oas E++[p]:=by
  rw [ah]
  rfl
 have np:p ∉ oas E:=fun z=>by
  obtain ⟨vs',q,_⟩:=h.own z
  rw [hp] at q
  cases q
 have h0:H0 p=none:=by
  cases e:H0 p with
  | none=>rfl
  | some o=>exact absurd hp (h.live p (by rw[e];simp))
 have up:∀ b o,H b=some o→Nw M (E++[(some (.ref p),Sl.tr [p] (dX []))]) b→Nw M E b:=fun b o e z=>by
  rcases z with z|z
  ·exact .inl z
  ·rw [oe] at z
   rcases Ed.mp z with z|z
   ·exact .inr z
   ·rw [Eb.mp z,hp] at e
    cases e
 have h':=h.same (a9.new (o:=.ext (b8 p [])) hp)
 refine ⟨h'.keep,h'.live,h.mt,h.pm,fun x d' m=>?_,fun x d' m=>?_,fun x d' m=>?_,fun x S d' m=>?_,?_⟩
 ·rcases Ed.mp m with m|m
  ·obtain ⟨v,e,dn⟩:=h.fr x d' m
   exact ⟨v,e,(dn.to up).keep (aS.same (a9.new hp))⟩
  ·rw [Eb] at m
   cases m
 ·rcases Ed.mp m with m|m
  ·obtain ⟨a,ws,e,e2,dn,r⟩:=h.ow x d' m
   exact ⟨a,ws,e,a9.new hp _ _ e2,(dn.to up).keep (aS.same (a9.new hp)),r⟩
  ·rw [Eb] at m
   cases m
 ·rcases Ed.mp m with m|m
  ·obtain ⟨a,ws,e,e2,dn,r⟩:=h.io x d' m
   exact ⟨a,ws,e,a9.new hp _ _ e2,(dn.to up).keep (aS.same (a9.new hp)),r⟩
  ·rw [Eb] at m
   cases m
 ·rcases Ed.mp m with m|m
  ·obtain ⟨v,e,dn,r⟩:=h.tr x S d' m
   exact ⟨v,e,(dn.to up).keep (aS.same (a9.new hp)) fun a ha=>by
    obtain ⟨xs,z⟩:=dn.lives a ha
    rw [a9.new hp _ _ z,z],r⟩
  ·rw [Eb] at m
   cases m
   exact ⟨_,rfl,.dct (es:=[]) (kvs:=[]) aB .nil .nil rfl,fun a ha=>by rw[Eb.mp ha];exact h0⟩
 ·rw [oe]
  exact Ei.mpr ⟨h.nd,by simp,fun a ha b hb=>by rw[Eb.mp hb];exact fun z=>np (z▸ha)⟩
theorem Rel.addD (h:Rel K M P H0 σ0 σ env ts H) {p:Addr} (hp:H p=none):Rel K M P H0 σ0 σ env (ts++[(.ref p,.tr [p] (dX []))]) (upd H p (.ext (b8 p []))):=h.withRes (h.e.addD hp) rfl
end
section
variable {X:Cx}{K:PySem.W.Frag}{pos:Pos}{e1 e2:Expr}{tk tv:DE}
noncomputable def yP:DE:=fun env R=>∀ S,R (.tr S (dX [])) env
theorem vP:PE X (.Dict [] [] pos) (up K yP):=xM.imp fun σ H Q h=>by
 obtain ⟨M,P,H0,σ0,env,ts,R,rel,ht,hq⟩:=h
 exact fun p hp=>hq _ _ _ _ (ht _) (rel.addD hp)
noncomputable def yO (tk tv:DE):DE:=fun env R=>tk env fun s1 env1=>tv env1 fun s2 env2=>∃ (k:aM) (d:PyData),aI env2 s1=some (c7 k)∧aI env2 s2=some d∧∀ S,R (.tr S (dX [(k,d)])) env2
theorem zM (hK:X.K=K) (hu:X.A.units+2<cLine) (hk:PE X e1 (up K tk)) (hv:PE X e2 (up K tv)):PE X (.Dict [some e1] [e2] pos) (up K (yO tk tv)):=by
 subst hK
 refine (xL (FB (Fm _) hu) hk hv).imp fun σ H Q h=>?_
 obtain ⟨M,P,H0,σ0,env,ts,R,rel,ht,hq⟩:=h
 intro p hp
 refine ⟨M,P,H0,σ0,env,_,_,rel.addD hp,ht,fun s1 env1 v1 H1 h1 rel1=>⟨M,P,H0,σ0,env1,_,_,rel1,h1,fun s2 env2 v2 H2 h2 rel2=>?_⟩⟩
 obtain ⟨k,d,ek,ed,hR⟩:=h2
 have rel2':Rel X.K M P H0 σ0 σ env2 ((ts++[(.ref p,.tr [p] (dX []))])++[(v1,s1),(v2,s2)]) H2:=by simpa using rel2
 have dn1:=rel2'.kept (v:=v1) (s:=s1) (by simp) ek
 have dn2:=rel2'.kept (v:=v2) (s:=s2) (by simp) ed
 have rel3:=rel2'.drop
 have hE:=rel3.e
 rw [aw] at hE dn1 dn2
 obtain ⟨v',ev,ot,h0⟩:=hE.tr _ _ _ (D9 _ Eh)
 obtain ⟨a,es,ev2,eS,hH,hk2,hv2,ee⟩:=ot.dct_of (kvs:=[]) rfl
 rw [ev2] at ev
 cases ev
 have ees:es=[]:=by simpa using ee
 subst ees
 obtain ⟨b,xs,rfl,_,_⟩:=dn1.tuple
 refine ⟨k,b,rfl,dn1.dv,hH,hq _ _ _ _ (hR [p]) ?_⟩
 have na:Nw M (ay σ env2 ts++tmp [(V.ref p,Sl.tr [p] (dX []))]) p:=.inr (by rw[ah];exact D9 _ (aW.mpr ⟨_,Eb.mpr rfl,Eb.mpr rfl⟩))
 have kN:aS (Nw M (ay σ env2 ts++tmp [(V.ref p,Sl.tr [p] (dX []))])) H2 (upd H2 p (.ext (b8 p [(k,b,v2)]))):=aS.own na
 refine rel3.drop.withRes ?_ rfl
 refine bq.retreeR (B:=[]) (R:=[]) (S:=[p]) hE (by simp) (by simp) ?_
 exact .dct (es:=[(k,b,v2)]) (kvs:=[(k,d)]) aB ((DNs.cons dn1 .nil).keep kN) ((DNs.cons dn2 .nil).keep kN) rfl
end
noncomputable abbrev wD (w:List (List Int)):PyData:=.list (w.map fun r=>fzD (r.map .int))
noncomputable abbrev fS (W:List (List (List Int))):PyData:=.list (W.map wD)
section
variable {K:PySem.W.Frag}{M P N:Addr→Prop}{H0 H H':Hp}{E T A B:List Ent}{σ0 σ:St}{env:List Sl}{ts tt:List (V×Sl)}{v:V}{s:Sl}{d:PyData}
theorem OT.unfz {S:List Addr}{ds:List PyData} (h:OT K N H v d S) (e:d=fzD ds):DN K N H v (.list ds)∧S=[]:=by
 cases h with
 | @fz _ ds' h =>
  simp only [fzD,PyData.dict.injEq,List.cons.injEq,Prod.mk.injEq,PyData.list.injEq,and_true,true_and] at e
  subst e
  exact ⟨h,rfl⟩
 | dct _ _ _ _=>exact (uK e.symm).elim
 | _=>cases e
theorem DN.unfz {ds:List PyData} (h:DN K N H v d) (e:d=fzD ds):DN K N H v (.list ds):=by
 cases h with
 | @fz _ ds' h =>
  simp only [fzD,PyData.dict.injEq,List.cons.injEq,Prod.mk.injEq,PyData.list.injEq,and_true,true_and] at e
  subst e
  exact h
 | dct _ _ _ _ _=>exact (uK e.symm).elim
 | _=>cases e
theorem wl:∀ w:List (List Int),fzs (w.map fun r=>PyData.list (r.map .int))=some (w.map fun r=>fzD (r.map .int))
 | []=>rfl
 | r::w=>by
  show (fzs (w.map fun r=>PyData.list (r.map .int))).map (fzD (r.map .int)::·)=_
  rw [wl w]
  rfl
theorem mP (w:List (List Int)):h8 env (.ow (w.map fun r=>PyData.list (r.map .int)))=some (wD w):=by
 show (if nB _=true then _ else _)=_
 rw [wl]
 cases w with
 | nil=>rfl
 | cons r w =>
  rw [if_neg (by simp[nB,noL])]
  rfl
theorem OTs.row:∀ {w:List (List Int)}{us:List V}{S:List Addr},OTs K N H us (w.map fun r=>fzD (r.map .int)) S→S=[]∧DNs K N H us (w.map fun r=>PyData.list (r.map .int))
 | [],_,_,h=>by cases h;exact⟨rfl,.nil⟩
 | r :: w,_,_,h=>by
  rw [Eu] at h
  cases h with
  | cons h q =>
   obtain ⟨e1,e2⟩:=OTs.row q
   obtain ⟨d1,d2⟩:=h.unfz rfl
   subst e1 d2
   exact ⟨rfl,.cons d1 e2⟩
theorem DNs.row:∀ {w:List (List Int)}{us:List V},DNs K N H us (w.map fun r=>PyData.list (r.map .int))→OTs K N H us (w.map fun r=>fzD (r.map .int)) []
 | [],_,h=>by cases h;exact .nil
 | r::w,_,h=>by
  rw [Eu] at h
  cases h with
  | cons h q=>exact .cons (S:=[]) (S':=[]) (.fz h) (DNs.row q)
theorem OTs.last {W:List (List (List Int))}{w:List (List Int)}{vs:List V}{S:List Addr} (h:OTs K N H vs ((W++[w]).map wD) S) :
  ∃ vs' S' b us,vs=vs'++[.ref b]∧S=S'++[b]∧OTs K N H vs' (W.map wD) S'∧H b=some (.lst us)∧DNs K N H us (w.map fun r=>PyData.list (r.map .int)):=by
 induction W generalizing vs S with
 | nil =>
  rw [List.nil_append,Eu,FQ] at h
  cases h with
  | cons h q =>
   cases q
   cases h with
   | @lst b us _ S hb qb =>
    obtain ⟨e1,e2⟩:=qb.row
    subst e1
    exact ⟨[],[],b,us,rfl,by simp,.nil,hb,e2⟩
 | cons w0 W ih =>
  rw [List.cons_append,Eu] at h
  cases h with
  | @cons x xs _ _ S1 S2 h q =>
   obtain ⟨vs',S',b,us,e1,e2,q',hb,dn⟩:=ih q
   subst e1 e2
   exact ⟨x::vs',S1++S',b,us,rfl,by simp,.cons h q',hb,dn⟩
theorem OTs.snoc {W:List (List (List Int))}{w:List (List Int)}{vs:List V}{S:List Addr}{b:Addr}{us:List V} (q:OTs K N H vs (W.map wD) S) (hb:H b=some (.lst us)) (dn:DNs K N H us (w.map fun r=>PyData.list (r.map .int))) :
  OTs K N H (vs++[.ref b]) ((W++[w]).map wD) (S++[b]):=by
 rw [EH]
 refine q.app ?_
 have:=OTs.cons (OT.lst hb dn.row) (OTs.nil (K:=K) (N:=N) (H:=H))
 simpa using this
theorem Rel.ways {i:Nat}{S:List Addr}{W:List (List (List Int))}{w:List (List Int)} (h:Rel K M P H0 σ0 σ env ts H) (e:env[i]? = some (.tr S (fS (W++[w])))) :
  ∃ a vs S' b us,σ[i]? = some (some (.ref a))∧S=a::(S'++[b])∧S.Nodup∧(∀ c∈S,Nw M (ay σ env ts) c)∧H a=some (.lst (vs++[.ref b]))∧OTs K (Nw M (ay σ env ts)) H vs (W.map wD) S'∧H b=some (.lst us)∧DNs K (Nw M (ay σ env ts)) H us (w.map fun r=>PyData.list (r.map .int)):=by
 obtain ⟨x,A,B,e1,q1,q2⟩:=h.split e
 obtain ⟨x',e1',m⟩:=h.slot e
 obtain ⟨v,ev,ot,_⟩:=h.e.tr _ _ _ m
 rw [e1] at e1'
 cases e1'
 subst ev
 cases ot with
 | @lst a us0 _ S0 ha q =>
  obtain ⟨vs',S',b,us,rfl,rfl,q',hb,dn⟩:=OTs.last q
  have oe:oas (ay σ env ts)=oas A++((a::(S'++[b]))++oas B):=by rw[q1,ah,ak,aL]
  have nd:=h.e.nd
  rw [oe] at nd
  refine ⟨a,vs',S',b,us,e1,rfl,(Ei.mp (Ei.mp nd).2.1).1,fun c hc=>.inr ?_,ha,q',hb,dn⟩
  rw [oe]
  exact D9 _ (Ec _ hc)
noncomputable def Ck:G2:=fun d e R=>∃ ds i x,eG d=some ds∧e=.int i∧atI ds i=some (fzD x)∧R (.list x)
theorem Du:bQ K (BT K) Ck:=by
 rintro N H x y d e R Q w1 w2 ⟨ds,i,z,e1,rfl,e2,hR⟩ hq
 obtain ⟨a,vs,rfl,s,q⟩:=w1.seq e1
 obtain ⟨u,e3,dn⟩:=q.atI e2
 rcases s with s|s
 ·exact .inl ⟨a,vs,i,u,rfl,w2.int,s,e3,hq _ _ hR (dn.unfz rfl)⟩
 ·exact .inr ⟨a,vs,i,u,rfl,w2.int,s,e3,hq _ _ hR (dn.unfz rfl)⟩
theorem cX {α:Type} (xs:List α) (v:α):atI (xs++[v]) (-1)=some v:=by
 unfold atI ixN
 rw [if_neg (by decide),if_pos (by rw[Ew];simp;omega)]
 show (xs++[v])[(-1+((xs++[v]).length:Int)).toNat]? = some v
 rw [show (-1+((xs++[v]).length:Int)).toNat=xs.length by rw[Ew];simp;omega]
 simp
end
section
variable {X:Cx}{K:PySem.W.Frag}{pos npos:Pos}{y:Str}{j j2:Nat}{p3 p4 p5 p6 p7 apos cpos:Pos}
noncomputable def mo (i:Nat):DT:=fun env R=>∃ (S:List Addr) (W:List (List (List Int))) (w:List (List Int)),env[i]? = some (.tr S (fS (W++[w])))∧R (!w.isEmpty) env
theorem qi (i:Nat) (hK:X.K=K) (hN:X.N[i]? = some y) (hv:Vis X.env.scope y:=by first|exact Or.inl rfl|exact Or.inr (Or.inl rfl)|exact Or.inr (Or.inr rfl)) (hd:(y==("__debug__" : Str))=false:=by decide)
  (hcd:(y==("__classdict__" : Str))=false:=by decide) (hp:fA (.UnaryOp .USub (.Constant (.int 1) j p3) p4):=by intro _ _;rfl)
  (he:∀ whole,isTrue (.Subscript (.Name y npos) (.UnaryOp .USub (.Constant (.int 1) j p3) p4) pos) X.env whole=(do let v ←whole;standAt (Expr.pos (.Subscript (.Name y npos) (.UnaryOp .USub (.Constant (.int 1) j p3) p4) pos));holding [v] (truthy v)):=by intro _;rfl) :
  PT X (.Subscript (.Name y npos) (.UnaryOp .USub (.Constant (.int 1) j p3) p4) pos) (upT K (mo i)) :=
 (vZ (K:=K) hK (qF (ag hK) (cU hN hv hd hcd) lP hp) he).imp fun σ H Q h=>by
 obtain ⟨M,P,H0,σ0,env,ts,R,rel,⟨S,W,w,e,hR⟩,hq⟩:=h
 obtain ⟨a,vs,S',b,us,ea,_,_,_,ha,_,hb,dn⟩:=rel.ways e
 refine ⟨.ref a,ea,.inl ⟨a,_,-1,.ref b,rfl,rfl,SqL.of ha,cX _ _,_,.inl ⟨us,SqL.of hb,?_⟩,hq _ _ _ hR rel⟩⟩
 have:=dn.len
 cases us with
 | nil=>cases w with
  | nil=>rfl
  | cons r w=>simp at this
 | cons u us=>cases w with
  | nil=>simp at this
  | cons r w=>rfl
noncomputable def rZ (i:Nat):DE:=fun env R=>∃ (S:List Addr) (W:List (List (List Int))) (r:List Int) (w:List (List Int)),env[i]? = some (.tr S (fS (W++[r::w])))∧R (.fr (.list (r.map .int))) env
theorem xm (i:Nat) (hK:X.K=K) (hN:X.N[i]? = some y) (hv:Vis X.env.scope y:=by first|exact Or.inl rfl|exact Or.inr (Or.inl rfl)|exact Or.inr (Or.inr rfl)) (hd:(y==("__debug__" : Str))=false:=by decide)
  (hcd:(y==("__classdict__" : Str))=false:=by decide) (hp:fA (.UnaryOp .USub (.Constant (.int 1) j p3) p4):=by intro _ _;rfl) (hp0:fA (.Constant (.int 0) j2 p5):=by intro _ _;rfl) :
  PE X (.Subscript (.Subscript (.Name y npos) (.UnaryOp .USub (.Constant (.int 1) j p3) p4) pos) (.Constant (.int 0) j2 p5) p6) (up K (rZ i)) :=
 (qF (ag hK) (qF (ag hK) (cU hN hv hd hcd) lP hp) j6 hp0).imp fun σ H Q h=>by
 obtain ⟨M,P,H0,σ0,env,ts,R,rel,⟨S,W,r,w,e,hR⟩,hq⟩:=h
 obtain ⟨a,vs,S',b,us,ea,_,_,_,ha,_,hb,dn⟩:=rel.ways e
 rw [Eu] at dn
 cases dn with
 | @cons u us _ _ dn1 dn2 =>
  exact ⟨.ref a,ea,.inl ⟨a,_,-1,.ref b,rfl,rfl,SqL.of ha,cX _ _,.inl ⟨b,_,0,u,rfl,rfl,SqL.of hb,by simp[atI,ixN],hq _ _ _ _ hR (rel.addFr dn1)⟩⟩⟩
noncomputable def rW (i:Nat):DE:=fun env R=>∃ (S:List Addr) (W:List (List (List Int))) (r:List Int) (w:List (List Int)),env[i]? = some (.tr S (fS (W++[r::w])))∧R (.fr (.list (r.map .int))) (env.set i (.tr S (fS (W++[w]))))
theorem xj (i:Nat) (hK:X.K=K) (hN:X.N[i]? = some y) (hv:Vis X.env.scope y:=by first|exact Or.inl rfl|exact Or.inr (Or.inl rfl)|exact Or.inr (Or.inr rfl)) (hd:(y==("__debug__" : Str))=false:=by decide)
  (hcd:(y==("__classdict__" : Str))=false:=by decide) (hp:fA (.UnaryOp .USub (.Constant (.int 1) j p3) p4):=by intro _ _;rfl)
  (hs0:starEach [.Constant (.int 0) j2 p5] X.env=[(false,eval (.Constant (.int 0) j2 p5) X.env)]:=by rfl)
  (hbase:attributeBase (.Subscript (.Name y npos) (.UnaryOp .USub (.Constant (.int 1) j p3) p4) pos) "pop" X.env (eval (.Subscript (.Name y npos) (.UnaryOp .USub (.Constant (.int 1) j p3) p4) pos) X.env)=eval (.Subscript (.Name y npos) (.UnaryOp .USub (.Constant (.int 1) j p3) p4) pos) X.env:=by rfl)
  (hfew:((backTo cpos (starEach [.Constant (.int 0) j2 p5] X.env)).all (fun x=>!x.1)&&(backToKw cpos (keywordEach [] X.env)).all (fun x=>x.1.isSome)&&decide ([Expr.Constant (.int 0) j2 p5].length+([]:List Keyword).length+(if ([]:List Keyword).isEmpty then 0 else 1)<30))=true:=by rfl)
  (hline:(apos.endLine==cpos.line)=true:=by rfl) (hplain:(backTo cpos (starEach [] X.env)).any (·.1)=false:=by rfl) :
  PE X (.Call (.Attribute (.Subscript (.Name y npos) (.UnaryOp .USub (.Constant (.int 1) j p3) p4) pos) "pop" apos) [.Constant (.int 0) j2 p5] [] cpos) (up K (rW i)) :=
 (kBm (K:=K) hK PySem.F.plainAttrs_list PySem.F.slot_list_pop PySem.F.type_list_pop ud (qF (ag hK) (cU hN hv hd hcd) lP hp) (ff j6 j7 hs0) hbase hfew hline hs0 hplain).imp fun σ H Q h=>by
 obtain ⟨M,P,H0,σ0,env,ts,R,rel,⟨S,W,r,w,e,hR⟩,hq⟩:=h
 obtain ⟨a,vs,S',b,us,ea,eS,ndS,hNw,ha,q,hb,dn⟩:=rel.ways e
 rw [Eu] at dn
 cases dn with
 | @cons u us _ _ dn1 dn2 =>
  refine ⟨.ref a,ea,.inl ⟨a,_,-1,.ref b,rfl,rfl,SqL.of ha,cX _ _,.inl ⟨rfl,_,SqL.of hb⟩,b,_,0,0,u,rfl,rfl,hb,by decide,by decide,by simp[seqIndex?],rfl,hq _ _ _ _ hR ?_⟩⟩
  have mb:b∈S:=by rw[eS];simp
  have kN:aS (Nw M (ay σ env ts)) H (upd H b (.lst us)):=aS.own (hNw b mb)
  subst eS
  obtain ⟨n1,n2⟩:=EO.mp ndS
  obtain ⟨n3,n4,n5⟩:=Ei.mp n2
  have nab:a≠b:=fun z=>n1 (by rw[z];simp)
  refine Rel.addFr (rel.retreeT (R:=[]) e ea mb (by simp) ?_) ?_
  ·refine .lst (by rw[am nab];exact ha) ?_
   refine OTs.snoc (q.keep kN fun c hc=>am fun z=>n5 c hc b (by simp) z) aB (dn2.keep kN)
  ·have oe:ay σ (env.set i (.tr (a::(S'++[b])) (fS (W++[w])))) ts=ay σ (env.set i (.tr (a::(S'++[b])) (fS (W++[w])))) ts:=rfl
   obtain ⟨x,A,B,e1,q1,q2⟩:=rel.split e
   refine (dn1.keep kN).to fun c o _ z=>?_
   rw [q2] at z
   rw [q1]
   rcases z with z|z
   ·exact .inl z
   ·refine .inr ?_
    rw [ea] at e1
    cases e1
    rw [ah,ak,aL] at z ⊢
    exact z
noncomputable def yJ (i:Nat):DE:=fun env R=>∃ (S:List Addr) (W:List (List (List Int))) (w:List (List Int)),env[i]? = some (.tr S (fS (W++[w])))∧∀ S',R .un (env.set i (.tr S' (fS W)))
theorem zJ (i:Nat) (hK:X.K=K) (hN:X.N[i]? = some y) (hv:Vis X.env.scope y:=by first|exact Or.inl rfl|exact Or.inr (Or.inl rfl)|exact Or.inr (Or.inr rfl)) (hd:(y==("__debug__" : Str))=false:=by decide)
  (hcd:(y==("__classdict__" : Str))=false:=by decide)
  (hbase:attributeBase (.Name y npos) "pop" X.env (eval (.Name y npos) X.env)=eval (.Name y npos) X.env:=by rfl) (hline:(apos.endLine==cpos.line)=true:=by rfl) :
  PE X (.Call (.Attribute (.Name y npos) "pop" apos) [] [] cpos) (up K (yJ i)) :=
 (Cg (K:=K) hK PySem.F.plainAttrs_list PySem.F.slot_list_pop PySem.F.type_list_pop vU (cU hN hv hd hcd) hbase hline).imp fun σ H Q h=>by
 obtain ⟨M,P,H0,σ0,env,ts,R,rel,⟨S,W,w,e,hR⟩,hq⟩:=h
 obtain ⟨a,vs,S',b,us,ea,eS,ndS,hNw,ha,q,hb,dn⟩:=rel.ways e
 subst eS
 refine ⟨.ref a,ea,.inl ⟨rfl,_,SqL.of ha⟩,a,_,.ref b,rfl,rfl,ha,by simp,hq _ _ _ _ (hR (a::S')) ?_⟩
 have ma:a∈a::(S'++[b]):=Eh
 have kN:aS (Nw M (ay σ env ts)) H (upd H a (.lst vs)):=aS.own (hNw a ma)
 obtain ⟨n1,n2⟩:=EO.mp ndS
 rw [List.dropLast_concat]
 have r2:=rel.retreeT (o:=.lst vs) (S':=a::S') (R:=[b]) (d':=fS W) e ea ma (by simp) (.lst aB (q.keep kN fun c hc=>am fun z=>n1 (by rw[←z];simp[hc])))
 have re:bq K M P H0 (ay σ (env.set i (.tr (a::S') (fS W))) ts++tmp [(V.ref b,Sl.un)]) (upd H a (.lst vs)):=by
  refine r2.e.sub (fun x t m=>?_) ?_
  ·rcases Ed.mp m with m|m
   ·exact .inl m
   ·have m:=Eb.mp m
    injection m with m1 m2
    exact .inr (.inl m2)
  ·rw [ah]
   show (oas _++oas [(some (.ref b),Sl.un)]).Nodup
   rw [show oas [((some (.ref b),Sl.un):Ent)]=[] from rfl,EK]
   exact r2.e.nd
 refine ⟨by rw[aw];exact re,r2.len,fun w i m=>?_,r2.ios⟩
 rcases Ed.mp m with m|m
 ·exact r2.vw w i m
 ·rw [Eb] at m
  cases m
end
end _L
namespace _L
open PySem PySem.Spec PyProof.Rows PySem.W
theorem bT {α β:Type}{lt:Nat→Nat→Bool}{f:α→KasT β}:∀ t:KasT α,aq lt (t.bind f)=aq lt (f (aq lt t))
 | .ret a=>rfl
 | .ask i j k=>bT (k (lt i j))
theorem oV {α:Type}{lt:Nat→Nat→Bool}{i j:Nat}{k:Bool→KasT α}:aq lt (.ask i j k)=aq lt (k (lt i j)):=rfl
noncomputable def gA (p:Array Nat) (k:Nat):Nat:=p.getD k 0
theorem fM {p:Array Nat}{i j:Nat} (hj:j≤p.size) (k:Nat):gA (kas_rev p i j) k=if i≤k∧k<j then gA p (i+j - 1 - k) else gA p k:=by
 unfold gA kas_rev
 rw [Array.getD_eq_getD_getElem?,getElem?_mirror_all hj]
 split <;> rw[Array.getD_eq_getD_getElem?]
theorem wj {p:Array Nat}{src d:Nat} (hs:src<p.size) (hd:d≤src) (k:Nat):gA (bubble p src d) k=if k=src - d then gA p src else if src - d<k∧k≤src then gA p (k - 1) else gA p k:=by
 unfold gA
 rw [Array.getD_eq_getD_getElem?,getElem?_bubble hs d hd]
 by_cases c1:k=src - d
 ·rw [if_pos c1,if_pos c1,←Array.getD_eq_getD_getElem?]
 ·rw [if_neg c1,if_neg c1]
  by_cases c2:src - d<k∧k≤src
  ·rw [if_pos c2,if_pos c2,←Array.getD_eq_getD_getElem?]
  ·rw [if_neg c2,if_neg c2,←Array.getD_eq_getD_getElem?]
theorem db (p:Array Nat) (i j:Nat):(kas_rev p i j).size=p.size:=mirror_size _ _ _ _
section
variable {lt:Nat→Nat→Bool} (as:∀ a b,lt a b=true→lt b a=false) (tr:∀ a b c,lt a b=false→lt b c=false→lt a c=false)
noncomputable def iA (lt:Nat→Nat→Bool) (p:Array Nat) (n:Nat):Prop:=∀ i,1≤i→i<n→lt (gA p i) (gA p (i - 1))=false
noncomputable def eY (lt:Nat→Nat→Bool) (p:Array Nat) (n:Nat):Prop:=∀ i,1≤i→i<n→lt (gA p (i - 1)) (gA p i)=false
include as tr
theorem vV (a:Nat):lt a a=false:=by
 cases e:lt a a with
 | false=>rfl
 | true=>have:=as a a e;rw[e] at this;cases this
theorem iA.far {p:Array Nat}{n:Nat} (h:iA lt p n):∀ d a,a+d<n→lt (gA p (a+d)) (gA p a)=false
 | 0,a,_=>vV as tr _
 | d+1,a,hd=>by
  have h1:=h (a+(d+1)) (by omega) hd
  rw [show a+(d+1) - 1=a+d by omega] at h1
  exact tr _ _ _ h1 (iA.far h d a (by omega))
theorem iA.le {p:Array Nat}{n:Nat} (h:iA lt p n) {a b:Nat} (hab:a≤b) (hb:b<n):lt (gA p b) (gA p a)=false:=by
 have:=iA.far as tr h (b - a) a (by omega)
 rwa [show a+(b - a)=b by omega] at this
theorem eY.far {p:Array Nat}{n:Nat} (h:eY lt p n):∀ d a,a+d<n→lt (gA p a) (gA p (a+d))=false
 | 0,a,_=>vV as tr _
 | d+1,a,hd=>by
  have h1:=h (a+(d+1)) (by omega) hd
  rw [show a+(d+1) - 1=a+d by omega] at h1
  exact tr _ _ _ (eY.far h d a (by omega)) h1
theorem eY.le {p:Array Nat}{n:Nat} (h:eY lt p n) {a b:Nat} (hab:a≤b) (hb:b<n):lt (gA p a) (gA p b)=false:=by
 have:=eY.far as tr h (b - a) a (by omega)
 rwa [show a+(b - a)=b by omega] at this
omit as tr in
theorem mC {p:Array Nat}:∀ (f n:Nat),1≤n→iA lt p n→n≤aq lt (kas_asc p f n)∧aq lt (kas_asc p f n)≤n+f∧iA lt p (aq lt (kas_asc p f n))∧(aq lt (kas_asc p f n)<n+f→lt (gA p (aq lt (kas_asc p f n))) (gA p (aq lt (kas_asc p f n) - 1))=true)
 | 0,n,_,h=>⟨Ek _,Ek _,h,fun z=>absurd z (Fc _)⟩
 | f + 1,n,hn,h=>by
  have e:aq lt (kas_asc p (f+1) n)=aq lt (if lt (gA p n) (gA p (n - 1))=true then KasT.ret n else kas_asc p f (n+1)):=rfl
  rw [e]
  cases c:lt (gA p n) (gA p (n - 1)) with
  | true=>exact⟨Ek _,by show n≤_;omega,h,fun _=>c⟩
  | false =>
   rw [if_neg (by decide)]
   obtain ⟨a1,a2,a3,a4⟩:=mC (p:=p) f (n+1) (by omega) fun i hi hi2=>by
    by_cases hin:i=n
    ·rw [hin];exact c
    ·exact h i hi (by omega)
   exact ⟨by omega,by omega,a3,fun z=>a4 (by omega)⟩
theorem nZ {p:Array Nat}{n q:Nat} (hz:n≤p.size) (hq:q+1≤n) (h:eY lt p n) (he:∀ i,n - (q+1)≤i→i+1<n→lt (gA p (i+1)) (gA p i)=false):eY lt (kas_rev p (n - (q+1)) n) n:=by
 intro i h1 h2
 rw [fM hz,fM hz]
 by_cases hi:n - (q+1)≤i
 ·rw [if_pos (show n - (q+1)≤i∧i<n from ⟨hi,h2⟩)]
  by_cases hi2:n - (q+1)≤i - 1
  ·rw [if_pos (show n - (q+1)≤i - 1∧i - 1<n from ⟨hi2,by omega⟩)]
   have:=he (n - (q+1)+n - 1 - i) (by omega) (by omega)
   rwa [show n - (q+1)+n - 1 - i+1=n - (q+1)+n - 1 - (i - 1) by omega] at this
  ·rw [if_neg (by omega)]
   exact eY.le as tr h (by omega) (by omega)
 ·rw [if_neg (by omega),if_neg (by omega)]
  exact h i h1 h2
theorem gg:∀ (f:Nat) (p:Array Nat) (n q:Nat),n+f≤p.size→q+1≤n→eY lt p n→(∀ i,n - (q+1)≤i→i+1<n→lt (gA p (i+1)) (gA p i)=false) →
  ∃ p' n' q',aq lt (kas_desc f p n q)=(p',n',q')∧p'.size=p.size∧n≤n'∧n'≤n+f∧q'+1≤n'∧eY lt p' n'∧∀ i,n' - (q'+1)≤i→i+1<n'→lt (gA p' (i+1)) (gA p' i)=false
 | 0,p,n,q,_,hq,h,he=>⟨p,n,q,rfl,rfl,Ek _,Ek _,hq,h,he⟩
 | f + 1,p,n,q,hz,hq,h,he=>by
  have e:aq lt (kas_desc (f+1) p n q)=aq lt (if lt (gA p n) (gA p (n - 1))=true then (if q>0 then kas_desc f (kas_rev p (n - (q+1)) n) (n+1) 0 else kas_desc f p (n+1) 0)
   else .ask (p.getD (n - 1) 0) (p.getD n 0) fun d=>if d=true then .ret (p,n,q) else kas_desc f p (n+1) (q+1)):=rfl
  rw [e]
  cases c:lt (gA p n) (gA p (n - 1)) with
  | true =>
   rw [if_pos rfl]
   have c':=as _ _ c
   by_cases hq0:q>0
   ·rw [if_pos hq0]
    have hd:=nZ as tr (p:=p) (n:=n) (q:=q) (by omega) hq h he
    obtain ⟨p',n',q',a1,a2,a3,a4,a5,a6,a7⟩:=gg f (kas_rev p (n - (q+1)) n) (n+1) 0 (by rw[db];omega) (by omega) (fun i h1 h2=>by
     by_cases hin:i=n
     ·subst hin
      rw [fM (by omega),fM (by omega),if_neg (show ¬(i - (q+1)≤i∧i<i) by omega),if_pos (show i - (q+1)≤i - 1∧i - 1<i by omega)]
      refine tr _ _ _ ?_ c'
      exact eY.le as tr h (by omega) (by omega)
     ·exact hd i h1 (by omega)) (fun i h1 h2=>by omega)
    exact ⟨p',n',q',a1,by rw[a2,db],by omega,by omega,a5,a6,a7⟩
   ·rw [if_neg hq0]
    obtain ⟨p',n',q',a1,a2,a3,a4,a5,a6,a7⟩:=gg f p (n+1) 0 (by omega) (by omega) (fun i h1 h2=>by
     by_cases hin:i=n
     ·subst hin;exact c'
     ·exact h i h1 (by omega)) (fun i h1 h2=>by omega)
    exact ⟨p',n',q',a1,a2,by omega,by omega,a5,a6,a7⟩
  | false =>
   rw [if_neg (by decide)]
   have e2:aq lt (KasT.ask (p.getD (n - 1) 0) (p.getD n 0) fun d=>if d=true then .ret (p,n,q) else kas_desc f p (n+1) (q+1))=aq lt (if lt (gA p (n - 1)) (gA p n)=true then .ret (p,n,q) else kas_desc f p (n+1) (q+1)):=rfl
   rw [e2]
   cases c2:lt (gA p (n - 1)) (gA p n) with
   | true=>exact⟨p,n,q,rfl,rfl,Ek _,by omega,hq,h,he⟩
   | false =>
    rw [if_neg (by decide)]
    obtain ⟨p',n',q',a1,a2,a3,a4,a5,a6,a7⟩:=gg f p (n+1) (q+1) (by omega) (by omega) (fun i h1 h2=>by
     by_cases hin:i=n
     ·subst hin;exact c2
     ·exact h i h1 (by omega)) (fun i h1 h2=>by
     by_cases hin:i+1=n
     ·rw [hin]
      have:i=n - 1:=by omega
      rw [this];exact c
     ·exact he i (by omega) (by omega))
    exact ⟨p',n',q',a1,a2,by omega,by omega,a5,a6,a7⟩
omit as tr in
theorem jT {p:Array Nat}{n nrem:Nat} (h1:1≤n) (hn:n≤nrem) (hz:nrem≤p.size) (h:eY lt p n) :
  ∃ m p',aq lt (kas_tail3 n nrem p)=(m,p')∧p'.size=p.size∧1≤m∧m≤nrem∧iA lt p' m:=by
 unfold kas_tail3
 rw [bT]
 have ha:iA lt (kas_rev p 0 n) n:=fun i i1 i2=>by
  rw [fM (by omega),fM (by omega),if_pos (by omega),if_pos (by omega)]
  have:=h (n - i) (by omega) (by omega)
  rwa [show n - i - 1=0+n - 1 - i by omega,show n - i=0+n - 1 - (i - 1) by omega] at this
 obtain ⟨a1,a2,a3,_⟩:=mC (lt:=lt) (p:=kas_rev p 0 n) (nrem - n) n h1 ha
 exact ⟨_,_,rfl,db _ _ _,by omega,by omega,a3⟩
theorem fO {p:Array Nat}{n nrem:Nat} (hn:n+1≤nrem) (hz:nrem≤p.size) (h:eY lt p (n+1)) :
  ∃ m p',aq lt (kas_descPart n nrem p)=(m,p')∧p'.size=p.size∧1≤m∧m≤nrem∧iA lt p' m:=by
 unfold kas_descPart
 rw [bT]
 obtain ⟨p',n',q',a1,a2,a3,a4,a5,a6,a7⟩:=gg as tr (nrem - (n+1)) p (n+1) 0 (by omega) (by omega) h fun i h1 h2=>by omega
 rw [a1]
 dsimp only
 split
 ·obtain ⟨m,p2,b1,b2,b3⟩:=jT (p:=kas_rev p' (n' - (q'+1)) n') (n:=n') (nrem:=nrem) (by omega) (by omega) (by rw[db];omega) (nZ as tr (by omega) a5 a6 a7)
  exact ⟨m,p2,b1,by rw[b2,db,a2],b3⟩
 ·obtain ⟨m,p2,b1,b2,b3⟩:=jT (p:=p') (n:=n') (nrem:=nrem) (by omega) (by omega) (by omega) a6
  exact ⟨m,p2,b1,by rw[b2,a2],b3⟩
theorem sw {p:Array Nat}{nrem:Nat} (h1:1≤nrem) (hz:nrem≤p.size):∃ m p',aq lt (kas_count nrem p)=(m,p')∧p'.size=p.size∧1≤m∧m≤nrem∧iA lt p' m:=by
 unfold kas_count
 rw [bT]
 obtain ⟨a1,a2,a3,a4⟩:=mC (lt:=lt) (p:=p) (nrem - 1) 1 (Ek _) fun i i1 i2=>by omega
 generalize aq lt (kas_asc p (nrem - 1) 1)=n at *
 split
 ·exact ⟨n,p,rfl,rfl,a1,by omega,a3⟩
 ·rename_i hne
  have hne:n≠nrem:=fun z=>hne (by rw[z];simp)
  have hst:=a4 (by omega)
  have hst':=as _ _ hst
  split
  ·rename_i hn1
   rw [oV]
   have e:lt (p.getD 0 0) (p.getD (n - 1) 0)=lt (gA p 0) (gA p (n - 1)):=rfl
   rw [e]
   cases c:lt (gA p 0) (gA p (n - 1)) with
   | true=>exact⟨n,p,rfl,rfl,a1,by omega,a3⟩
   | false =>
    rw [if_neg (by decide)]
    obtain ⟨m,p2,b1,b2,b3⟩:=fO as tr (p:=kas_rev p 0 n) (n:=n) (nrem:=nrem) (by omega) (by rw[db];omega) fun i i1 i2=>by
     rw [fM (by omega),fM (by omega),if_pos (show 0≤i - 1∧i - 1<n by omega)]
     by_cases hin:i<n
     ·rw [if_pos (show 0≤i∧i<n by omega)]
      exact iA.le as tr a3 (by omega) (by omega)
     ·rw [if_neg (show ¬(0≤i∧i<n) by omega)]
      have hin2:i=n:=by omega
      subst hin2
      rw [show 0+i - 1 - (i - 1)=0 by omega]
      exact tr _ _ _ c hst'
    exact ⟨m,p2,b1,by rw[b2,db],b3⟩
  ·rename_i hn1
   have hn2:n=1:=by omega
   subst hn2
   exact fO as tr (by omega) hz fun i i1 i2=>by
    have:i=1:=by omega
    subst this
    exact hst'
theorem gH {p:Array Nat}{k:Nat} (h:iA lt p k):∀ f l r,l≤r→r≤k→r - l≤f→(∀ i,i<l→lt (gA p k) (gA p i)=false)→(∀ i,r≤i→i<k→lt (gA p k) (gA p i)=true) →
  ∃ m,aq lt (kas_place p k f l r)=m∧m≤k∧(∀ i,i<m→lt (gA p k) (gA p i)=false)∧∀ i,m≤i→i<k→lt (gA p k) (gA p i)=true
 | 0,l,r,h1,h2,h3,hl,hr=>⟨l,rfl,by omega,hl,fun i i1 i2=>hr i (by omega) i2⟩
 | f + 1,l,r,h1,h2,h3,hl,hr=>by
  by_cases hlr:l≥r
  ·have e:aq lt (kas_place p k (f+1) l r)=l:=by show aq lt (if l≥r then KasT.ret l else _)=_;rw[if_pos hlr];rfl
   exact ⟨l,e,by omega,hl,fun i i1 i2=>hr i (by omega) i2⟩
  ·have e:aq lt (kas_place p k (f+1) l r)=aq lt (if lt (gA p k) (gA p ((l+r) / 2))=true then kas_place p k f l ((l+r) / 2) else kas_place p k f ((l+r) / 2+1) r):=by
    show aq lt (if l≥r then KasT.ret l else _)=_
    rw [if_neg hlr]
    rfl
   rw [e]
   cases c:lt (gA p k) (gA p ((l+r) / 2)) with
   | true =>
    rw [if_pos rfl]
    refine gH h f l ((l+r) / 2) (by omega) (by omega) (by omega) hl fun i i1 i2=>?_
    cases c2:lt (gA p k) (gA p i) with
    | true=>rfl
    | false =>
     have:=tr _ _ _ c2 (iA.le as tr h i1 i2)
     rw [c] at this
     cases this
   | false =>
    rw [if_neg (by decide)]
    refine gH h f ((l+r) / 2+1) r (by omega) h2 (by omega) (fun i i1=>?_) hr
    exact tr _ _ _ c (iA.le as tr h (by omega) (by omega))
theorem sG:∀ (f:Nat) (p:Array Nat) (k:Nat),k+f=p.size→iA lt p k→iA lt (aq lt (kas_bin f p k)) p.size
 | 0,p,k,e,h=>by
  rw [←e,Nat.add_zero]
  exact h
 | f + 1,p,k,e,h=>by
  have e1:aq lt (kas_bin (f+1) p k)=aq lt (kas_bin f (bubble p k (k - aq lt (kas_place p k k 0 k))) (k+1)):=by
   show aq lt ((kas_place p k k 0 k).bind _)=_
   rw [bT]
  rw [e1]
  obtain ⟨m,em,hm,hl,hr⟩:=gH as tr h k 0 k (Ez _) (Ek _) (by omega) (fun i hi=>by omega) fun i i1 i2=>by omega
  rw [em]
  have hsz:(bubble p k (k - m)).size=p.size:=bubble_size _ _ _
  rw [←hsz]
  refine sG f _ (k+1) (by rw[hsz];omega) fun i i1 i2=>?_
  rw [wj (by omega) (by omega),wj (by omega) (by omega),show k - (k - m)=m by omega]
  by_cases c1:i=m
  ·rw [if_pos c1,if_neg (by omega),if_neg (by omega)]
   exact hl (i - 1) (by omega)
  ·rw [if_neg c1]
   by_cases c2:m<i
   ·rw [if_pos (show m<i∧i≤k by omega)]
    by_cases c3:i - 1=m
    ·rw [if_pos c3,c3]
     exact as _ _ (hr m (Ek _) (by omega))
    ·rw [if_neg c3,if_pos (show m<i - 1∧i - 1≤k by omega)]
     exact h (i - 1) (by omega) (by omega)
   ·rw [if_neg (by omega),if_neg (by omega),if_neg (by omega)]
    exact h i i1 (by omega)
theorem mY {n:Nat} (h1:1≤n):iA lt (aq lt (kas_sort n)) n:=by
 unfold kas_sort
 rw [bT]
 have hz:(List.toArray (List.range n)).size=n:=by simp
 obtain ⟨m,p,a1,a2,a3,a4,a5⟩:=sw as tr (p:=List.toArray (List.range n)) (nrem:=n) h1 (by rw[hz];exact Ek _)
 rw [a1]
 dsimp only
 rw [hz] at a2
 split
 ·rw [show max m 1=m by omega]
  have:=sG as tr (n - m) p m (by omega) a5
  rwa [a2] at this
 ·have hmn:n=m:=by omega
  rw [hmn]
  exact a5
end
section
variable {prog:Program}{w:World}{A:Around}{E:Value→Shared→Prop}{s:Shared}
end
noncomputable def AD (d:PyData):Prop:=∃ n:Int,d=.int n
section
variable {X:Cx}{pins:List (Addr×Obj)}{σ:St}{H:Hp}{s:Shared}
end
section
variable {X:Cx}{pins:List (Addr×Obj)}{σ:St}{H0:Hp}{f:Value}{vs:List Value}{A:Around}{E:Value→Shared→Prop}{a kS:Addr}
end
section
variable {X:Cx}{pins:List (Addr×Obj)}{σ:St}{H0:Hp}{f:Addr}{vs:List Value}{A:Around}{E:Value→Shared→Prop}{s:Shared}
end
section
variable {X:Cx}{K:PySem.W.Frag}
variable {e:Expr}{p pos:Pos}{tl:DA}
end
noncomputable def sZ (CX:CXT) (P:Program) (w:World) (K:PySem.W.Frag) (mg:Str→Option Value) (base:Heap) (N:List Str) (qual:Str) (scope:Scope) (f:Addr) (cd:Value) (cl:List (Str×Addr)) (A:Around) (outer:List Env) (s:Shared) (H:Hp) (E:XK):Cx where
 prog:=P
 w := w
 K := K
 mg := mg
 base:=base
 A := A.deeper (envX qual scope s.heap.objs.size f cd cl)
 N := N
 s₀ := s
 H₀ := H
 env:=envX qual scope s.heap.objs.size f cd cl
 outer:=outer
 stack:=envX qual scope s.heap.objs.size f cd cl::outer
 ex := []
 calm:=true
 fn := fun _=>false
 pn := []
 xe := fun e s'=>wpAny (model P w) (A.deeper (envX qual scope s.heap.objs.size f cd cl)) (leaving (envX qual scope s.heap.objs.size f cd cl) e) (fun _ s''=>CX outer H s E e s'') (fun e' s''=>CX outer H s E e' s'') s'
structure eX (p x:Str) (sc:Scope):Prop where
 kind:sc.kind=.function
 co : sc.isCoroutine=false
 gen:sc.isGenerator=false
 par:sc.names.lookup p=some .local
 fre:sc.names.lookup x=some .free
 nocell:∀ y∈sc.names,y.2≠.cell
 one:∀ y∈sc.names,y.2=.free→y.1=x
 ne : p≠x
section
variable {CX:CXT}{P:Program}{w:World}{K:PySem.W.Frag}{mg:Str→Option Value}{base:Heap}{qual p x:Str}{scope:Scope}{f c:Addr}{cd:Value}{A:Around}{outer:List Env}{s:Shared}{H:Hp}{E:XK}{u u0:Value}{v v0:V}{h₁:Heap}{tk:Nat}
theorem oZ (S:eX p x scope) (hd:A.handled=none) (e0:pq P w K mg base A outer s H) (hcell:s.heap.IsCell c (some u0)) (r0:bx v0 u0) (hc0:H c=none) (r:bx v u)
  (hns:h₁.Ns s.heap.objs.size (fun y=>[(p,u)].reverse.lookup y)) (hk:∀ b o,s.heap.get? b=some o→h₁.get? b=some o) :
  Inv (sZ CX P w K mg base [p,x] qual scope f cd [(x,c)] A outer s H E) [] [some v,some v0] H { s with heap:=h₁,toks:=tk }:=by
 have noA:∀ b:Addr,b ∉ (sZ CX P w K mg base [p,x] qual scope f cd [(x,c)] A outer s H E).ex:=fun b z=>absurd (show b∈([]:List Addr) from z) (by simp)
 have look:∀ y d,List.lookup y [(x,c)]=some d→y=x∧d=c:=fun y d h=>by
  have:=PySem.mem_of_lookup h
  rw [Eb] at this
  cases this
  exact ⟨rfl,rfl⟩
 have lx:List.lookup x [(x,c)]=some c:=by simp
 refine ⟨⟨e0.mod,S.kind,rfl,rfl,Ek _,fun y z d h1 h2=>?_,fun y hy=>?_,fun y d h=>absurd h (by show ¬false=true;decide),fun _=>hd,Around.frames_deeper e0.frames,.inr ⟨rfl,rfl⟩,fun b z=>absurd z (noA b),e0.bs,e0.bsz,fun b _ _=>noA b,fun b z=>absurd z (noA b),e0.funs,e0.frf,e0.tab⟩,
  rfl,e0.bare,Un.kept hk,⟨_,hns,fun i y z h1 h2 h3=>?_⟩,fun y d h=>?_,e0.hok.fresh (Ek _),fun y d h=>?_,fun q hq=>absurd (show q∈([]:List (Addr×Obj)) from hq) (by simp),e0.hok.kept hk,rfl⟩
 ·rw [(look y d h1).1,(look z d h2).1]
 ·have hy:scope.names.lookup y=some .cell∨scope.names.lookup y=some .free:=hy
  rcases hy with hy|hy
  ·exact absurd rfl (S.nocell _ (PySem.mem_of_lookup hy))
  ·have:=S.one _ (PySem.mem_of_lookup hy) rfl
   simp only at this
   rw [this]
   exact ⟨c,lx⟩
 ·match i,h1,h2 with
  | 0,h1,h2 =>
   have h1:p=y:=by simpa [sZ] using h1
   have h2:v=z:=by simpa using h2
   subst h1 h2
   refine ⟨u,r,.inl ⟨S.par,?_⟩⟩
   simp
  | 1,h1,h2 =>
   have h1:x=y:=by simpa [sZ] using h1
   have h2:v0=z:=by simpa using h2
   subst h1 h2
   exact ⟨u0,r0,.inr ⟨.inr S.fre,c,lx,hcell.keeps hk⟩⟩
  | i+2,h1,h2=>simp at h2
 ·obtain ⟨_,rfl⟩:=look y d h
  exact ⟨_,hcell.keeps hk⟩
 ·obtain ⟨_,rfl⟩:=look y d h
  exact hc0
theorem ul {params:Arguments}{body:Expr}{pm ctv:Value}{c':Addr}{t:TE}{Q:VK}{k:Nat} (S:eX p x scope) (hr:cY (k+1) A) (e0:pq P w K mg base A outer s H) (ho:s.heap.get? f=some (kla_obj "<lambda>" qual params body scope [(x,c)] pm c' ctv)) (hcd:s.heap.CodeRec (.ref c') qual)
  (hb:bindArgs (kla_fn "<lambda>" qual params body scope [(x,c)] pm (.ref c') ctv) ⟨[u],[]⟩=pure [(p,u)]) (hcell:s.heap.IsCell c (some u0)) (r0:bx v0 u0) (hc0:H c=none) (r:bx v u)
  (ht:PE (sZ CX P w K mg base [p,x] qual scope f (.ref c') [(x,c)] A outer s H E) body t) (hq:t [some v,some v0] H Q):codeAny (model P w) A (.call (.ref f) ⟨[u],[]⟩) (CR CX outer P w H s Q E) s:=by
 have lim:s.heap.NoLimit:=e0.mod.nolimit.keeps fun b o e=>(e0.bs b o e).1
 refine kla_callFunE hr.depth ho rfl S.co S.gen rfl hcd ?_
 rw [hb]
 refine wpAny_pure (wpAny_newFunctionEnv S.nocell (fun y hy=>by rw[Eb.mp hy];exact S.par) (fun h₁ hns hsb=>⟨lim.fresh _ hsb,?_⟩) S.kind)
 have hk₁:∀ b o,s.heap.get? b=some o→h₁.get? b=some o:=fun b o e=>hsb.extBut b o (ED (Eo e)) (Ee _ e)
 show codeAny _ _ (.expr body (envX qual scope s.heap.objs.size f (.ref c') [(x,c)])) _ _
 refine kla_codeExpr ?_
 have I:=oZ (CX:=CX) (E:=E) (qual:=qual) (f:=f) (cd:=.ref c') (tk:=s.toks+[(p,u)].length) S hr.hd e0 hcell r0 hc0 r hns hk₁
 refine wpAny_mono (ht [] _ _ H _ I hq) (fun u' s' hs=>?_) fun e s' hs=>hs
 obtain ⟨z,H',J,rv,q⟩:=hs
 exact ⟨z,H',J.os,J.bare,J.base,J.hok,rv,q⟩
end
section
variable {X:Cx}{pins:List (Addr×Obj)}{σ:St}{H:Hp}{s:Shared}{params:Arguments}{body:Expr}{scope:Scope}{pos:Pos}{E:Value→Shared→Prop}{clos:List (Str×Addr)}
theorem rd (I:Inv X pins σ H s) (L:pj X) (hcl:closureFor scope X.env=pure clos) (hdef:defaultsOf params X.env=([],[])) {Q:Value→Shared→Prop}
  (h : ∀ f c' pm ctv s' H',Inv X pins σ H' s'→a9 H H'→s'.heap.get? f=some (kla_obj "<lambda>" (X.env.qual ++ "<lambda>") params body scope clos pm c' ctv)→gn X pins H' f→Bc H' c' (X.env.qual ++ "<lambda>")→Q (.ref f) s') :
  wpAny (model X.prog X.w) X.A (eval (.Lambda params body scope pos) X.env) Q E s:=by
 obtain ⟨c,T,hcode,C,hL⟩:=L
 have hT:H T=some (.tbl (X.env.qual ++ "<lambda>")):=I.base.tbls T _ (I.ok.tab T _ hL)
 obtain ⟨ps,e,htr,hgood⟩:=I.hok T _ hT
 obtain ⟨bm,ob,b1,b2,b3,b4,b5,b6⟩:=I.mod.bmain
 have hg:=I.mod.glob.keeps I.bk
 have hgP:mainGlobals≠T:=fun q=>by
  obtain ⟨o,es,ep,e',hd,_⟩:=hg
  rw [q,e] at e';cases e';cases hd
 have hbP:bm≠T:=fun q=>by
  have e':=I.bk _ _ b3
  rw [q,e] at e';cases e';cases b4
 have hbG:bm≠mainGlobals:=fun q=>by
  obtain ⟨o,es,ep,e',hd,_⟩:=hg
  have e2:=I.bk _ _ b3
  rw [q,e'] at e2;cases e2;rw[hd] at b6;cases b6
 have hB:s.heap.BuiltinsAt X.mg T:=⟨bm,ob,b1,b2,hbG,hbP,I.bk _ _ b3,b4,b5,b6⟩
 refine kla_eval hdef ?_
 cases hc:codeAmong pos ps.toList with
 | none =>
  refine kla_makeFunction hcl I.ok.glob hg hcode (C.keeps I.bk) e htr hc hgP hB fun c' ctv h' tk hx hge hlt hrec htb=>?_
  obtain ⟨c2,oc,vs,t,e2,hoc,hd,hv⟩:=hrec
  cases e2
  have ht2:yY (upd H c' (.frz oc (.own 0))) h' T (X.env.qual ++ "<lambda>"):=by
   refine ⟨_,htb,by rw[Array.toList_append];exact TriplesOk_snoc _ _ _ _ htr,fun p cv hcv=>?_⟩
   rw [Array.toList_append] at hcv
   rcases pc _ htr hcv with hcv|rfl
   ·obtain ⟨c2,oc2,u2,vs2,t2,e1,e2,e3⟩:=hgood _ _ hcv
    exact ⟨c2,oc2,u2,vs2,t2,e1,by rw[am (au e2 (I.hok.fresh hge))];exact e2,e3⟩
   ·exact ⟨c',oc,_,vs,t,rfl,aB,hd,hv⟩
  obtain ⟨I2,sm⟩:=I.grow (tk:=tk) hT hx hge hoc hd hv ht2
  have I3:=I2.kept (t':=tk) (h':=h'.push (kla_obj "<lambda>" (X.env.qual ++ "<lambda>") params body scope clos ((X.mg "__name__").getD .none) c' ctv)) fun b o e=>Ee _ e
  exact h _ c' _ ctv _ _ I3 sm (Er _ rfl) (I2.fpOk (Ek _) (I2.hok.fresh (Ek _))) ⟨_,_,_,_,aB,hd,hv⟩
 | some cv =>
  obtain ⟨c',oc,u,vs,t,rfl,e1,hd,hv⟩:=hgood _ _ hc
  obtain ⟨hoc,_⟩:=I.hok c' _ e1
  refine kla_makeFunctionHit hcl I.ok.glob hg hcode (C.keeps I.bk) e htr hc hB fun ctv h' tk hk hsz=>?_
  have I2:=I.kept (t':=tk) hk
  have I3:=I2.kept (t':=tk) (h':=h'.push (kla_obj "<lambda>" (X.env.qual ++ "<lambda>") params body scope clos ((X.mg "__name__").getD .none) c' ctv)) fun b o e=>Ee _ e
  exact h _ c' _ ctv _ _ I3 (a9.refl _) (Er _ rfl) (I2.fpOk (Ek _) (I2.hok.fresh (Ek _))) ⟨_,_,_,_,e1,hd,hv⟩
end
theorem fj:∀ a:List Int,HT.lexLt a a=false
 | []=>HT.lexLt_nil_nil
 | x::a=>by rw[HT.lexLt_cons,if_pos rfl];exact fj a
theorem vX:∀ a b:List Int,HT.lexLt a b=true→HT.lexLt b a=false
 | [],[],h=>by rw[HT.lexLt_nil_nil] at h;cases h
 | [],y::b,_=>HT.lexLt_cons_nil ..
 | x::a,[],h=>by rw[HT.lexLt_cons_nil] at h;cases h
 | x :: a,y::b,h=>by
  rw [HT.lexLt_cons] at h ⊢
  by_cases e:x=y
  ·rw [if_pos e] at h
   rw [if_pos e.symm]
   exact vX a b h
  ·rw [if_neg e] at h
   rw [if_neg fun z=>e z.symm]
   have:=of_decide_eq_true h
   exact decide_eq_false (by omega)
theorem vW:∀ a b c:List Int,HT.lexLt a b=false→HT.lexLt b c=false→HT.lexLt a c=false
 | [],[],c,_,h=>h
 | [],y::b,c,h,_=>by rw[HT.lexLt_nil_cons] at h;cases h
 | x::a,b,[],_,_=>HT.lexLt_cons_nil ..
 | x::a,[],z::c,_,h=>by rw[HT.lexLt_nil_cons] at h;cases h
 | x :: a,y::b,z::c,h1,h2=>by
  rw [HT.lexLt_cons] at h1 h2 ⊢
  by_cases e1:x=y
  ·rw [if_pos e1] at h1
   by_cases e2:y=z
   ·rw [if_pos e2] at h2
    rw [if_pos (e1.trans e2)]
    exact vW a b c h1 h2
   ·rw [if_neg e2] at h2
    rw [if_neg fun q=>e2 (e1.symm.trans q),e1]
    exact h2
  ·rw [if_neg e1] at h1
   have h1:=of_decide_eq_false h1
   by_cases e2:y=z
   ·rw [if_neg fun q=>e1 (q.trans e2.symm)]
    exact decide_eq_false (by omega)
   ·rw [if_neg e2] at h2
    have h2:=of_decide_eq_false h2
    rw [if_neg (by omega)]
    exact decide_eq_false (by omega)
theorem dP (a b:Int×List Int):cD a b=if a.1=b.1 then HT.lexLt a.2 b.2 else decide (a.1<b.1):=by
 unfold cD
 by_cases e:a.1=b.1
 ·rw [if_pos e,if_pos e]
  by_cases e2:a.2=b.2
  ·rw [if_pos e2,e2,fj]
  ·rw [if_neg e2]
 ·rw [if_neg e,if_neg e]
theorem nH (a b:Int×List Int) (h:cD a b=true):cD b a=false:=by
 rw [dP] at h ⊢
 by_cases e:a.1=b.1
 ·rw [if_pos e] at h
  rw [if_pos e.symm]
  exact vX _ _ h
 ·rw [if_neg e] at h
  rw [if_neg fun z=>e z.symm]
  have:=of_decide_eq_true h
  exact decide_eq_false (by omega)
theorem nG (a b c:Int×List Int) (h1:cD a b=false) (h2:cD b c=false):cD a c=false:=by
 rw [dP] at h1 h2 ⊢
 by_cases e1:a.1=b.1
 ·rw [if_pos e1] at h1
  by_cases e2:b.1=c.1
  ·rw [if_pos e2] at h2
   rw [if_pos (e1.trans e2)]
   exact vW _ _ _ h1 h2
  ·rw [if_neg e2] at h2
   rw [if_neg fun q=>e2 (e1.symm.trans q),e1]
   exact h2
 ·rw [if_neg e1] at h1
  have h1:=of_decide_eq_false h1
  by_cases e2:b.1=c.1
  ·rw [if_neg fun q=>e1 (q.trans e2.symm)]
   exact decide_eq_false (by omega)
  ·rw [if_neg e2] at h2
   have h2:=of_decide_eq_false h2
   rw [if_neg (by omega)]
   exact decide_eq_false (by omega)
theorem oJ {ks:List (Int×List Int)} (h1:1≤ks.length):∃ j,(ax ks).getLast? = some j∧j<ks.length∧∀ i,i<ks.length→(ks.getD i (0,[])).1≤(ks.getD j (0,[])).1:=by
 have hp:=aY ks
 have hl:(ax ks).length=ks.length:=by rw[hp.length_eq,EE]
 have hlt0:ks.length - 1<(ax ks).length:=by omega
 have hlast:(ax ks).getLast? = some (ax ks)[ks.length - 1]:=by
  rw [List.getLast?_eq_getElem?,←D8 hlt0]
  congr 1
  omega
 refine ⟨_,hlast,cm _ (EA _),fun i hi=>?_⟩
 have hi2:i∈ax ks:=hp.mem_iff.mpr (Ey.mpr hi)
 obtain ⟨a,ha,e⟩:=Ex hi2
 rw [hl] at ha
 have key:cD (ks.getD (ax ks)[ks.length - 1] (0,[])) (ks.getD i (0,[]))=false:=by
  by_cases h2:ks.length<2
  ·have e1:ks.length=1:=by omega
   have:(ax ks)[ks.length - 1]=i:=by
    rw [←e]
    congr 1
    omega
   rw [this,dP,if_pos rfl,fj]
  ·obtain ⟨lt,hlt⟩:∃ lt:Nat→Nat→Bool,lt=fun i j=>cD (ks.getD i (0,[])) (ks.getD j (0,[])):=⟨_,rfl⟩
   have ex:ax ks=(aq lt (kas_sort ks.length)).toList:=by
    unfold ax
    rw [if_neg h2,hlt]
   have as:∀ a b,lt a b=true→lt b a=false:=fun a b h=>by rw[hlt] at h ⊢;exact nH _ _ h
   have tr:∀ a b c,lt a b=false→lt b c=false→lt a c=false:=fun a b c h1 h2=>by rw[hlt] at h1 h2 ⊢;exact nG _ _ _ h1 h2
   have asc:=mY as tr (n:=ks.length) h1
   have far:=iA.le as tr asc (a:=a) (b:=ks.length - 1) (by omega) (by omega)
   have g:∀ k,(hk:k<ks.length)→gA (aq lt (kas_sort ks.length)) k=(ax ks)[k]'(by omega):=fun k hk=>by
    unfold gA
    have hz:k<(aq lt (kas_sort ks.length)).size:=by
     have:(aq lt (kas_sort ks.length)).toList.length=ks.length:=by rw[←ex];exact hl
     rw [←Array.length_toList,this];exact hk
    rw [Array.getD_eq_getD_getElem?,Array.getElem?_eq_getElem hz]
    show _=_
    simp only [ex,Option.getD_some,Array.getElem_toList]
   rw [g _ (by omega),g a ha,e,hlt] at far
   exact far
 rw [dP] at key
 by_cases e3:(ks.getD (ax ks)[ks.length - 1] (0,[])).1=(ks.getD i (0,[])).1
 ·omega
 ·rw [if_neg e3] at key
  have:=of_decide_eq_false key
  omega
theorem dE {α:Type}{p:List Nat}{xs:List α}{d:α} (h:p.Perm (List.range xs.length)):(ca p xs d).Perm xs:=by
 have h1:=h.map fun i=>xs.getD i d
 refine h1.trans (List.Perm.of_eq ?_)
 apply Fa
 ·simp
 ·intro i a b
  simp at a
  simp [a]
theorem CM {CX:CXT}{P:Program}{w:World}{K:PySem.W.Frag}{mg:Str→Option Value}{base:Heap}{N N':List Str}{qual:Str}{scope sc:Scope}{f:Addr}{cd:Value}{cl:List (Str×Addr)}{A:Around}{outer:List Env}{s:Shared}{H:Hp}{E:XK}{ix:List (Option Nat)}
  (h : bOk N scope N' ix sc=true):ck (sZ CX P w K mg base N qual scope f cd cl A outer s H E).N (sZ CX P w K mg base N qual scope f cd cl A outer s H E).env N' ix sc:=bP rfl rfl h
section
variable {X:Cx}{K:PySem.W.Frag}
end
section
variable {prog:Program}{w:World}{A:Around}{s:Shared}
theorem nM {us:List Value}{ns:List Int} (h2:2≤us.length) (k:∀ i (h:i<us.length),∃ t,us[i]=Value.int (ns.getD i 0) t) (hl:ns.length=us.length):iU prog w A us (ns.map fun n=>(n,[])) s:=by
 refine kas_kind (T:=.type "int") h2 (fun v hv=>?_) (by decide) (by rfl) ⟨rfl,fun i j C hi hj hc=>?_⟩
 ·obtain ⟨i,hi,rfl⟩:=Ex hv
  obtain ⟨t,e⟩:=k i hi
  rw [e]
  exact .now
 ·have e1:us.getD i Value.none=us[i]:=by simp[hi]
  have e2:us.getD j Value.none=us[j]:=by simp[hj]
  show wpAny (model prog w) A (keyLt' _ (us.getD i Value.none) (us.getD j Value.none)) C (fun _ _=>False) s
  rw [e1,e2]
  obtain ⟨t,ex⟩:=k i hi
  obtain ⟨u,ey⟩:=k j hj
  rw [ex,ey]
  have g:∀ m,m<us.length→(ns.map fun n=>(n,([]:List Int))).getD m (0,[])=(ns.getD m 0,[]):=fun m hm=>by
   rw [Ea,EM,Ea,D8 (by omega)]
   rfl
  rw [g i hi,g j hj,dP] at hc
  refine kat_lt_int ?_
  have e:(if (ns.getD i 0,([]:List Int)).1=(ns.getD j 0,([]:List Int)).1 then HT.lexLt (ns.getD i 0,([]:List Int)).2 (ns.getD j 0,([]:List Int)).2 else decide ((ns.getD i 0,([]:List Int)).1<(ns.getD j 0,([]:List Int)).1))=decide (ns.getD i 0<ns.getD j 0):=by
   by_cases z:ns.getD i 0=ns.getD j 0
   ·rw [if_pos z,fj]
    exact (decide_eq_false (by omega)).symm
   ·rw [if_neg z]
  rw [e] at hc
  exact hc
end
theorem pL {ks:List (Int×List Int)}{a b:Nat} (hab:a≤b) (hb:b<ks.length):cD (ks.getD ((ax ks).getD b 0) (0,[])) (ks.getD ((ax ks).getD a 0) (0,[]))=false:=by
 have hl:(ax ks).length=ks.length:=by rw[(aY ks).length_eq,EE]
 by_cases h2:ks.length<2
 ·rw [show a=b by omega,dP,if_pos rfl,fj]
 ·obtain ⟨lt,hlt⟩:∃ lt:Nat→Nat→Bool,lt=fun i j=>cD (ks.getD i (0,[])) (ks.getD j (0,[])):=⟨_,rfl⟩
  have ex:ax ks=(aq lt (kas_sort ks.length)).toList:=by
   unfold ax
   rw [if_neg h2,hlt]
  have as:∀ a b,lt a b=true→lt b a=false:=fun a b h=>by rw[hlt] at h ⊢;exact nH _ _ h
  have tr:∀ a b c,lt a b=false→lt b c=false→lt a c=false:=fun a b c h1 h2=>by rw[hlt] at h1 h2 ⊢;exact nG _ _ _ h1 h2
  have far:=iA.le as tr (mY as tr (n:=ks.length) (by omega)) hab hb
  have g:∀ k,gA (aq lt (kas_sort ks.length)) k=(ax ks).getD k 0:=fun k=>by
   unfold gA
   rw [ex,Array.getD_eq_getD_getElem?,Ea,Array.getElem?_toList]
  rw [g,g,hlt] at far
  exact far
noncomputable def ib (ns:List Int):List Int:=ca (ax (ns.map fun n=>(n,[]))) ns 0
theorem oH (ns:List Int):(ib ns).Perm ns:=dE (by have:=aY (ns.map fun n=>(n,([]:List Int)));rwa [D7] at this)
section
variable {X:Cx}{K:PySem.W.Frag}
theorem sD (hK:X.K=K):fC X (.builtin "sorted") (fun xs H Q=>∃ (p:Addr) (ns:List Int),xs=[.ref p]∧SqL K H p (ns.map V.int)∧ns.length<64 ∧
  ∀ q,H q=none→Q (.ref q) (upd H q (.lst ((ib ns).map V.int)))):=by
 subst hK
 intro pins s σ H xs us Q I r h
 obtain ⟨p,ns,rfl,hs,h64,q⟩:=h
 obtain ⟨u,rfl,ru⟩:=iW r
 cases (show u=Value.ref p from ru)
 obtain ⟨its,rv,hp,_⟩:=I.list hs
 have hlen:=rv.length
 rw [D7] at hlen
 have hval:∀ i (h:i<its.length),∃ t,its[i]=Value.int (ns.getD i 0) t:=fun i hi=>by
  have hi2:i<ns.length:=by omega
  obtain ⟨u,e1,⟨t,e2⟩⟩:=rv.get (i:=i) (x:=.int ns[i]) (by rw[EM,D8 hi2];rfl)
  rw [D8 hi] at e1
  cases e1
  refine ⟨t,?_⟩
  rw [e2,Ea,D8 hi2]
  rfl
 refine gu (vs:=its) (ks:=ns.map fun n=>(n,[])) hp.isList (by omega) (by rw[D7];omega) (fun h2 h' k=>nM h2 hval (by omega)) fun D h' c k hD hD2=>?_
 have hlt:∀ i∈ax (ns.map fun n=>(n,([]:List Int))),i<ns.length:=fun i hi=>by have:=cm i hi;rwa [D7] at this
 have ep:ca (ax (ns.map fun n=>(n,([]:List Int)))) (ns.map V.int) .non=(ib ns).map V.int:=by
  unfold ib ca
  rw [EI]
  refine EZ fun i hi=>?_
  have:=hlt i hi
  rw [Ea,EM,D8 this]
  show _=V.int (ns.getD i 0)
  rw [Ea,D8 this]
  rfl
 refine ⟨.ref D,upd H D (.lst ((ib ns).map V.int)),I.laid (t':=s.toks) (o:=.lst ((ib ns).map V.int)) k hD ⟨?_,_,c,ep▸eu rv (fun i hi=>by rw[D7];exact hlt i hi),hD2⟩,rfl,q _ (I.hok.fresh hD)⟩
 rw [D7,(oH ns).length_eq,sizeLine_eq]
 omega
noncomputable def yF (t:DA):DE:=fun env R=>t env fun ss env1=>∃ s ns,ss=[s]∧aG env1 s=some (.list (li ns))∧ns.length<64∧R (.ow (li (ib ns))) env1
variable {e:Expr}{p pos:Pos}{tl:DA}
theorem zG (hK:X.K=K) (hg:Gl X "sorted") (hm:X.mg "sorted" = none) (ha:PA X [e] (upA K tl)) (he:starEach [e] X.env=[(false,eval e X.env)]:=by rfl):PE X (.Call (.Name "sorted" p) [e] [] pos) (up K (yF tl)) :=
 (gc (sD (K:=K) hK) hg hm boot_sorted ha (by decide) (by decide) he rfl).imp fun σ H Q h=>by
 obtain ⟨M,P,H0,σ0,env,ts,R,rel,ht,hq⟩:=h
 refine ⟨M,P,H0,σ0,env,ts,_,rel,ht,fun ss env1 vs H1 h1 hl rel1=>?_⟩
 obtain ⟨s,ns,rfl,e1,h64,hR⟩:=h1
 obtain ⟨v,rfl⟩:=q9 hl
 obtain ⟨a,us,rfl,sq,q⟩:=(rel1.view (v:=v) (by simp) e1).list
 rw [q.ints] at sq
 exact ⟨a,ns,rfl,sq,h64,fun p' hp=>hq _ _ _ _ hR (rel1.resOw hp (jv _))⟩
end
noncomputable def uB:Sl→Sl
 | .fr d=>.fr d
 | _=>.un
theorem yh {s:Sl}{d:PyData} (h:uB s=.fr d):s=.fr d:=by
 cases s <;> first|exact h|cases h
theorem uA {s:Sl}{a:Addr}{x:Option V}:a ∉ cO (x,uB s):=fun z=>by
 rcases j8 z with ⟨_,⟨ds,e⟩|⟨ds,e⟩⟩|⟨S,d,e,_⟩ <;> cases s <;> cases e
section
variable {prog:Program}{w:World}{A:Around}{E:Value→Shared→Prop}{s:Shared}
theorem rq (a b:List Int):cD (0,a) (0,b)=HT.lexLt a b:=by
 unfold cD
 rw [if_pos rfl]
 split
 ·rename_i h
  simp only at h
  rw [h,fj]
 ·rfl
noncomputable def DZ (h:Heap) (v:Value) (ns:List Int):Prop:=∃ (l:Addr) (its:Array Value),v=.ref l∧h.IsList l its∧At its ns
theorem lS {l b:Addr}{items items2:Array Value}{ns ms:List Int}{Q:Bool→Shared→Prop} (hl:s.heap.IsList l items) (hb:s.heap.IsList b items2) (at1:At items ns) (at2:At items2 ms)
  (hu:A.units<cLine) (h:Q (HT.lexLt ns ms) s):wpAny (model prog w) A (oneLt' true (.ref l) (.ref b)) Q E s:=by
 obtain ⟨⟨cls,dd,data,sl⟩,ho,hc,n,hd⟩:=id hl
 obtain ⟨⟨cls2,dd2,data2,sl2⟩,ho2,hc2,n2,hd2⟩:=id hb
 simp only at hc hd hc2 hd2
 subst hc hd hc2 hd2
 rw [oneLt'_eq]
 simp only [if_true]
 refine wpAny_bind (wpAny_cRoomFor hu ?_)
 refine wpAny_bind (wpAny_callSpecialIfBound?_slot ⟨_,ho,rfl⟩ F.slot_list_lt (call_meets F.slot_list_lt ⟨_,ho,rfl⟩ F.entry_list_lt (F.args_list_lt_2 _ _) (nE l b items items2 n n2 dd dd2 sl sl2 ns ms at1 at2) ⟨ho,ho2,?_⟩))
 exact wpAny_truthy_bool h
theorem tL {us:List Value}{ks:List (Int×List Int)} (hu:A.units<cLine) (h2:2≤us.length) (k:∀ i (h:i<us.length),∃ ns,ks.getD i (0,[])=(0,ns)∧DZ s.heap us[i] ns):iU prog w A us ks s:=by
 refine kas_kind (T:=.type "list") h2 (fun v hv=>?_) (by decide) (by rfl) ⟨rfl,fun i j C hi hj hc=>?_⟩
 ·obtain ⟨i,hi,rfl⟩:=Ex hv
  obtain ⟨ns,_,l,its,e,⟨o,ho,hc,_⟩,_⟩:=k i hi
  rw [e]
  exact hc▸(Looks.ld ho).andThen .now
 ·have e1:us.getD i Value.none=us[i]:=by simp[hi]
  have e2:us.getD j Value.none=us[j]:=by simp[hj]
  show wpAny (model prog w) A (keyLt' _ (us.getD i Value.none) (us.getD j Value.none)) C (fun _ _=>False) s
  rw [e1,e2]
  obtain ⟨ns,en,l,its,el,i1,i2⟩:=k i hi
  obtain ⟨ms,em,b,its2,eb,j1,j2⟩:=k j hj
  rw [en,em,rq] at hc
  rw [el,eb,keyLt'_oneType]
  exact lS i1 j1 i2 j2 hu hc
end
noncomputable def zk (kds:List PyData):Prop:=(∀ d∈kds,oX d)∨(∀ d∈kds,AD d)∨∀ d∈kds,AC d
section
variable {K:PySem.W.Frag}
theorem uQ {N:Addr→Prop}{H:Hp}{vs:List V}{ds:List PyData}{us:List Value} (q:DNs K N H vs ds) (r:aO vs us) (i:Nat) (h:i<us.length):∃ v,bx v us[i]∧DN K N H v (ds.getD i .none)∧ds.getD i .none∈ds:=by
 have hl:=q.len
 have hl2:=r.length
 obtain ⟨u,e,ru⟩:=r.get (i:=i) (x:=vs[i]) (by simp)
 rw [D8 h] at e
 cases e
 have hm:(vs[i],ds[i])∈vs.zip ds:=by
  rw [List.mem_iff_getElem?]
  exact ⟨i,by rw[FI];exact⟨D8 _,D8 _⟩⟩
 have e2:ds.getD i .none=ds[i]:=by simp[Ea,show i<ds.length by omega]
 rw [e2]
 exact ⟨_,ru,mn q _ hm,EA _⟩
end
theorem kM {α β:Type} (f:α→β) (l:List α) (i:Nat) (d:α):(l.map f).getD i (f d)=f (l.getD i d):=by
 simp only [Ea,EM]
 cases l[i]? <;> rfl
theorem kO (kds:List PyData) (i:Nat):(kds.map cb).getD i (0,[])=cb (kds.getD i .none):=kM cb kds i .none
section
variable {X:Cx}{pins:List (Addr×Obj)}{σ:St}{H:Hp}{s:Shared}{A:Around}
theorem uu {kds:List PyData}{kv:List V}{ks:List Value} (hk:zk kds) (hu:A.units+64<cLine) (I:Inv X pins σ H s) (dn:DNs X.K N0 H kv kds) (rv:aO kv ks) (h2:2≤ks.length):iU X.prog X.w A ks (kds.map cb) s:=by
 have hl:kds.length=ks.length:=by rw[←dn.len,rv.length]
 rcases hk with hk|hk|hk
 ·refine rf hu h2 (by rw[D7];exact hl) fun i hi=>?_
  obtain ⟨v,rx,dx,md⟩:=uQ dn rv i hi
  rw [kO]
  exact rh I dx.dv rx (hk _ md)
 ·have em:kds.map cb=(kds.map fun d=>(cb d).1).map fun n=>(n,[]):=by
   rw [EI]
   refine EZ fun d hd=>?_
   obtain ⟨n,rfl⟩:=hk d hd
   rfl
  rw [em]
  refine nM h2 (fun i hi=>?_) (by rw[D7];exact hl)
  obtain ⟨v,rx,dx,md⟩:=uQ dn rv i hi
  have eg:(kds.map fun d=>(cb d).1).getD i 0=(cb (kds.getD i .none)).1:=kM (fun d=>(cb d).1) kds i .none
  rw [eg]
  obtain ⟨n,e⟩:=hk _ md
  rw [e] at dx ⊢
  rw [dx.dv.intI] at rx
  exact rx
 ·refine tL (by omega) h2 fun i hi=>?_
  obtain ⟨v,rx,dx,md⟩:=uQ dn rv i hi
  rw [kO]
  obtain ⟨ns,e⟩:=hk _ md
  rw [e] at dx ⊢
  obtain ⟨l,ys,rfl,sq,q⟩:=dx.dv.lstI
  obtain ⟨jts,rj,pl,_⟩:=I.list sq
  obtain ⟨h1,h2⟩:=yU q rj
  refine ⟨ns,?_,l,jts.toArray,rx,pl.isList,⟨by simpa using h1,fun j hj=>h2 j (by simpa using hj)⟩⟩
  show ((0:Int),(cg (ns.map PyData.int)).getD [])=_
  rw [bU]
  rfl
end
section
variable {X:Cx}{pins:List (Addr×Obj)}{σ:St}{H0:Hp}{f:Value}{vs:List Value}{A:Around}{E:Value→Shared→Prop}{a kS:Addr}
structure wS (X:Cx) (pins:List (Addr×Obj)) (σ:St) (H0:Hp) (a kS:Addr) (e1:Nat) (kds:List PyData) (ks:List Value) (s:Shared):Prop where
 ex : ∃ H kv c,Inv X pins σ H s∧a9 H0 H∧aO kv ks∧DNs X.K N0 H kv (kds.take ks.length)∧gn X pins H a∧gn X pins H kS∧s.heap.get? kS=some (seqObj "list" ks.toArray c)
 la : s.heap.get? a=some (seqObj "list" #[] e1)
theorem iE {e1 n:Nat}{kds:List PyData} (ne:a≠kS) (hn:n<64) {body:Value→PUnit→Sem (ForInStep PUnit)}
  (hb:∀ x ks e (s:Shared) (C:Value→Shared→Prop),List.length ks<64→wpAny (model X.prog X.w) A (call f [x]) (fun k s1=>s1.heap.get? kS=some (seqObj "list" (List.toArray ks) e)∧C k s1) (fun _ _=>False) s →
   wpAny (model X.prog X.w) A (body x ⟨⟩) (fun r s'=>r=.yield ⟨⟩∧∃ k s1 c,C k s1∧s'={ s1 with heap:=s1.heap.update kS (Obj.mapSeq (·.push k)) }∧s'.heap.get? kS=some (seqObj "list" (List.toArray (ks++[k])) c)) E s)
  (hkn:kds.length=vs.length) (call:∀ i (h:i<vs.length),∀ H s,Inv X pins σ H s→a9 H0 H→wpAny (model X.prog X.w) A (call f [vs[i]]) (fR X pins σ H s (kds.getD i .none)) (fun _ _=>False) s) :
  ∀ (r ks:List Value) (s:Shared),r=vs.drop ks.length→ks.length+r.length=n→wS X pins σ H0 a kS e1 kds ks s →
   wpAny (model X.prog X.w) A (forIn r PUnit.unit body) (fun _ s'=>∃ ks,ks.length=n∧wS X pins σ H0 a kS e1 kds ks s') E s
 | [],ks,s,_,hl,h=>by
  rw [FF]
  exact wpAny_pure ⟨ks,by simpa using hl,h⟩
 | x :: r,ks,s,hr,hl,h=>by
  rw [ES] at hl
  rw [FK]
  obtain ⟨⟨H,kv,c,I,sm,rv,dn,fa,fk,gk⟩,la⟩:=h
  have hix:ks.length<vs.length:=by
   have:=congrArg List.length hr
   rw [FH,ES] at this
   omega
  have hx:vs[ks.length]=x∧r=vs.drop (ks.length+1):=by
   rw [E6 hix] at hr
   injection hr with h1 h2
   exact ⟨h1.symm,h2⟩
  have hc:=call ks.length hix H s I sm
  rw [hx.1] at hc
  refine wpAny_bind (wpAny_mono (hb x ks c s (fun k s1=>fR X pins σ H s (kds.getD ks.length .none) k s1) (by omega) (wpAny_mono hc (fun k s1 hk1=>?_) fun _ _ z=>z)) (fun q s' hq=>?_) fun _ _ z=>z)
  ·obtain ⟨H',v,I',sm',rv',dn',kp⟩:=id hk1
   exact ⟨(kp kS _ fk gk).1,hk1⟩
  ·obtain ⟨rfl,k,s1,c2,⟨H',v,I',sm',rv',dn',kp⟩,es,gk'⟩:=hq
   subst es
   have fk':=rH fk (kp kS _ fk gk).2
   have fa':=rH fa (kp a _ fa la).2
   have su:=Heap.SameBut.update s1.heap kS (Obj.mapSeq (·.push k))
   have I2:=I'.turnedN (t':=s1.toks) (fp:=[kS]) (h':=s1.heap.update kS (Obj.mapSeq (·.push k))) (fun b hb'=>by rw[Eb.mp hb'];exact fk') fun b o hb' e=>(su.2 b (fun z=>hb' (by simp[z]))).trans e
   show wpAny (model X.prog X.w) A (forIn r PUnit.unit body) _ E _
   refine iE ne hn hb hkn call r (ks++[k]) _ (by rw[Ew,E3];exact hx.2) (by rw[Ew,E3];omega) ⟨⟨H',kv++[v],c2,I2,sm.trans sm',pw rv rv',?_,fa',fk',gk'⟩,?_⟩
   ·have e:kds.take (ks++[k]).length=kds.take ks.length++[kds.getD ks.length .none]:=by
     rw [Ew,E3,FE,D8 (by omega),Ea,D8 (by omega)]
     rfl
    rw [e]
    exact (dn.keep (aS.same sm')).app (.cons dn' .nil)
   ·exact (su.2 a ne).trans (kp a _ fa la).1
theorem oI {kds:List PyData}{s:Shared}{n:Nat}{P:PySem.Fin→Shared→Prop} (I:Inv X pins σ H0 s) (fa:gn X pins H0 a) (ho:s.heap.get? a=some (seqObj "list" vs.toArray n)) (h64:vs.length<64) (hu:A.units+64<cLine)
  (hkn:kds.length=vs.length) (hkk:zk kds) (call:∀ i (h:i<vs.length),∀ H s',Inv X pins σ H s'→a9 H0 H→wpAny (model X.prog X.w) A (call f [vs[i]]) (fR X pins σ H s' (kds.getD i .none)) (fun _ _=>False) s')
  (h : ∀ H s' c,Inv X pins σ H s'→a9 H0 H→gn X pins H a→s'.heap.get? a=some (seqObj "list" (ca (ax (kds.map cb)) vs Value.none).toArray c)→P (.done (.ret .none)) s') :
  wpAny (model X.prog X.w) A (ksk_tree a f false) P E s:=by
 have ha:a<s.heap.objs.size:=Eo ho
 have s1:=Heap.SameBut.update s.heap a (Obj.mapSeq fun _=>(#[]:Array Value))
 obtain ⟨e1,ho1⟩:∃ e1,(s.heap.update a (Obj.mapSeq fun _=>(#[]:Array Value))).get? a=some (seqObj "list" #[] e1):=⟨_,get?_update_seq ho fun _=>#[]⟩
 have keep:∀ b o,b≠a→s.heap.get? b=some o→(((s.heap.update a (Obj.mapSeq fun _=>(#[]:Array Value))).push (seqObj "tuple" vs.toArray 0)).push (seqObj "list" #[] 0)).get? b=some o:=fun b o hb e =>
  Ee _ (Ee _ ((s1.2 b hb).trans e))
 have ho3:(((s.heap.update a (Obj.mapSeq fun _=>(#[]:Array Value))).push (seqObj "tuple" vs.toArray 0)).push (seqObj "list" #[] 0)).get? a=some (seqObj "list" #[] e1):=Ee _ (Ee _ ho1)
 have hsz:((s.heap.update a (Obj.mapSeq fun _=>(#[]:Array Value))).push (seqObj "tuple" vs.toArray 0)).objs.size=s.heap.objs.size+1:=by rw[size_push',Heap.size_update]
 unfold ksk_tree
 refine wpAny_bind (listItems_at ho rfl ?_)
 refine wpAny_bind (listUpdate_at ho rfl ?_ (by rw[El,sizeLine_eq];omega) (Ez _))
 refine wpAny_bind (seqEpoch_at ho1 rfl ?_)
 refine wpAny_bind (wpAny_newTuple ?_ (by show vs.length≤_;rw[sizeLine_eq];omega))
 refine wpAny_bind (wpAny_newList ?_ (Ez _))
 refine wpAny_holding ?_
 obtain ⟨kS,ekS⟩:∃ kS,kS=((s.heap.update a (Obj.mapSeq fun _=>(#[]:Array Value))).push (seqObj "tuple" vs.toArray 0)).objs.size:=⟨_,rfl⟩
 have gk:(((s.heap.update a (Obj.mapSeq fun _=>(#[]:Array Value))).push (seqObj "tuple" vs.toArray 0)).push (seqObj "list" #[] 0)).get? kS=some (seqObj "list" (List.toArray []) 0):=by rw[ekS];exact Er _ rfl
 have hne:a≠kS:=by rw[ekS,hsz];exact ED (Fv ha)
 have fk:gn X pins H0 kS:=I.fpOk (by rw[ekS,hsz];omega) (I.hok.fresh (by rw[ekS,hsz];omega))
 have I1:=I.turnedN (t':=s.toks) (fp:=[a]) (h':=((s.heap.update a (Obj.mapSeq fun _=>(#[]:Array Value))).push (seqObj "tuple" vs.toArray 0)).push (seqObj "list" #[] 0)) (fun b hb=>by rw[Eb.mp hb];exact fa) fun b o hb e=>keep b o (fun z=>hb (by simp[z])) e
 rw [←ekS]
 show wpAny (model X.prog X.w) A (ksk_rest a f false vs.toArray e1 (.ref kS)) P E { s with heap:=((s.heap.update a (Obj.mapSeq fun _=>(#[]:Array Value))).push (seqObj "tuple" vs.toArray 0)).push (seqObj "list" #[] 0) }
 unfold ksk_rest
 refine wpAny_bind (wpAny_rule ?_)
 first
  | rw[List.forIn_toArray]
  | (rw[←Array.forIn_toList];simp only [List.toList_toArray])
  | rw[←Array.forIn_toList]
 refine wpAny_bind (wpAny_mono (iE (f:=f) (A:=A) (e1:=e1) (n:=vs.length) (kds:=kds) hne h64 (fun x ks e s' C hz hx=>?_) hkn call vs [] _ rfl (by simp) ⟨⟨H0,[],0,I1,a9.refl _,.nil,.nil,fa,fk,gk⟩,ho3⟩) (fun _ s' hd=>?_) fun _ _ x=>x)
 ·refine wpAny_bind (wpAny_attempt (wpAny_mono hx (fun k s'' hk=>?_) fun _ _ hF=>hF.elim))
  obtain ⟨nk,hC⟩:=hk
  have ea:(List.toArray ks).push k=List.toArray (ks++[k]):=by simp
  obtain ⟨c2,hc2⟩:∃ c2,(s''.heap.update kS (Obj.mapSeq (·.push k))).get? kS=some (seqObj "list" (List.toArray (ks++[k])) c2):=⟨_,by rw[←ea];exact get?_update_seq nk (·.push k)⟩
  try dsimp only
  refine wpAny_bind (listUpdate_at nk rfl ?_ (by rw[El,sizeLine_eq];omega) (Eg (Nat.le_of_eq (Array.size_push ..)) (by rw[El,sizeLine_eq];omega)))
  exact wpAny_pure ⟨rfl,k,s'',c2,hC,rfl,hc2⟩
 ·obtain ⟨ks,hl,⟨⟨H,kv,c,I2,sm,rv,dn,fa2,fk2,gk2⟩,la⟩⟩:=hd
  rw [EY (by omega)] at dn
  refine wpAny_bind (listItems_at gk2 rfl ?_)
  have fin:∀ (ws:List Value) (st:SortSt),ws.length=vs.length→ws=ca (ax (kds.map cb)) vs Value.none→(arrOf st).map (·.2)=ws.toArray→failedOf st=none→wpAny (model X.prog X.w) A (ksk_tail a false e1 (.ref kS) st) P E s':=fun ws st hwl hp hout hf=>by
   have t1:=Heap.SameBut.update s'.heap kS (Obj.mapSeq fun _=>(#[]:Array Value))
   have la1:(s'.heap.update kS (Obj.mapSeq fun _=>(#[]:Array Value))).get? a=some (seqObj "list" #[] e1):=(t1.2 a hne).trans la
   have t2:=Heap.SameBut.update (s'.heap.update kS (Obj.mapSeq fun _=>(#[]:Array Value))) a (Obj.mapSeq fun _=>ws.toArray)
   obtain ⟨c2,hc2⟩:∃ c2,((s'.heap.update kS (Obj.mapSeq fun _=>(#[]:Array Value))).update a (Obj.mapSeq fun _=>ws.toArray)).get? a=some (seqObj "list" ws.toArray c2):=⟨_,get?_update_seq la1 fun _=>ws.toArray⟩
   unfold ksk_tail
   try dsimp only
   rw [hout]
   refine wpAny_bind (listUpdate_at gk2 rfl ?_ (by rw[El,sizeLine_eq];omega) (Ez _))
   refine wpAny_bind (wpAny_letGo ?_)
   refine wpAny_bind (seqEpoch_at la1 rfl ?_)
   simp only [EQ,if_false]
   refine wpAny_bind (listUpdate_at la1 rfl ?_ (Ez _) (by rw[El,sizeLine_eq];omega))
   rw [hf]
   simp only [bne_self_eq_false,EQ,if_false]
   refine wpAny_pure (h H _ c2 (I2.turnedN (t':=s'.toks) (fp:=[kS,a]) (fun b hb=>?_) fun b o hb e=>?_) sm fa2 (by rw[←hp];exact hc2))
   ·rcases En.mp hb with rfl|hb
    ·exact fk2
    ·rw [Eb.mp hb];exact fa2
   ·simp only [En,EJ,or_false,not_or] at hb
    exact (t2.2 b hb.2).trans ((t1.2 b hb.1).trans e)
  unfold ksk_end
  try dsimp only
  simp only [EQ,if_false]
  by_cases h2:2≤vs.length
  ·have hn2:¬vs.toArray.size<2:=by rw[El];omega
   rw [if_neg hn2,if_neg hn2]
   refine wpAny_bind (wpAny_mono (uu hkk hu I2 dn rv (by omega)) (fun κ s0 hk'=>?_) fun _ _ x=>x.elim)
   obtain ⟨rfl,hask⟩:=hk'
   refine wpAny_bind (wpAny_mono (kat_run (κ:=κ) (A:=A) (prog:=X.prog) (w:=X.w) (ks:=ks) (vs:=vs) (G:=fun p s2=>p=aq (fun i j=>cD ((kds.map cb).getD i (0,[])) ((kds.map cb).getD j (0,[]))) (kas_sort vs.length)∧s2=s0)
    (Q := fun st' s2=>∃ p:Array Nat,p=aq (fun i j=>cD ((kds.map cb).getD i (0,[])) ((kds.map cb).getD j (0,[]))) (kas_sort vs.length)∧p.size=vs.length∧arrOf st'=p.map (kas_item (ks.toArray.zip vs.toArray))∧failedOf st'=none∧s2=s0)
    hl h2 h64 (fun p' st' s2 a1 a2 a3 a4=>⟨p',a4.1,a1,a2,a3,a4.2⟩) (mh (fun s2=>s2=s0) (fun i j C s2 hi hj e hc=>by subst e;exact hask i j C (by omega) (by omega) (hc _ rfl)) (i5 (n:=vs.length) (by omega)) (fun s2 e=>⟨rfl,e⟩) rfl)) ?_ fun _ _ e=>e)
   rintro ⟨⟨⟩,st'⟩ s2 ⟨p,hpn,hp,har,hf,rfl⟩
   dsimp only
   refine fin (p.toList.map fun i=>vs.getD i Value.none) st' (by rw[D7,Array.length_toList,hp]) ?_ (kat_snds hl har) hf
   unfold ax ca
   rw [if_neg (by rw[D7];omega),hpn,D7,hkn]
  ·have hn2:vs.toArray.size<2:=by rw[El];omega
   rw [if_pos hn2,if_pos hn2]
   refine wpAny_bind (wpAny_pure ?_)
   refine wpAny_bind (wpAny_pure ?_)
   dsimp only
   refine fin vs _ rfl ?_ ?_ rfl
   ·unfold ax ca
    rw [if_pos (by rw[D7];omega),D7,hkn]
    apply Fa
    ·simp
    ·intro i h1 h2
     simp at h2
     simp [h2]
   show (ks.toArray.zip vs.toArray).map (·.2)=_
   apply Array.toList_inj.mp
   simp
   exact List.map_snd_zip (by omega)
end
section
variable {X:Cx}{pins:List (Addr×Obj)}{σ:St}{H0:Hp}{f:Addr}{vs:List Value}{A:Around}{E:Value→Shared→Prop}{s:Shared}
theorem jW {kds:List PyData}{l:Addr}{Q:Value→Shared→Prop} (I:Inv X pins σ H0 s) (hl:s.heap.IsList l vs.toArray) (h64:vs.length<64) (hu:A.in1.in1.units+64<cLine)
  (hkn:kds.length=vs.length) (hkk:zk kds) (call:∀ i (h:i<vs.length),∀ H s',Inv X pins σ H s'→a9 H0 H→wpAny (model X.prog X.w) A.in1.in1 (call (.ref f) [vs[i]]) (fR X pins σ H s' (kds.getD i .none)) (fun _ _=>False) s')
  (h : ∀ H s' D c,Inv X pins σ H s'→a9 H0 H→gn X pins H D→s'.heap.get? D=some (seqObj "list" (ca (ax (kds.map cb)) vs Value.none).toArray c)→Q (.ref D) s') :
  wpAny (model X.prog X.w) A (PySem.call (.builtin "sorted") [.ref l] [(Str.ofString "key",.ref f)]) Q E s:=by
 refine call_function_entry_kw kind_sorted plain_sorted entry_sorted (ksk_s1 _ _) ?_
 unfold Builtin.«sorted»
 refine wpAny_bind (m:=checkCount "sorted" 1 1 _) (wpAny_pure ?_)
 refine wpAny_bind (collect_list hl ?_ (by rw[sizeLine_eq];omega))
 refine wpAny_bind (wpAny_newList ?_ (by rw[sizeLine_eq];omega))
 have hsz:((s.heap.push (seqObj "list" #[] 0)).update s.heap.objs.size (Obj.mapSeq (·++vs.toArray))).objs.size=s.heap.objs.size+1:=by
  rw [Heap.size_update,size_push']
 have hoL:(((s.heap.push (seqObj "list" #[] 0)).update s.heap.objs.size (Obj.mapSeq (·++vs.toArray))).push (seqObj "list" vs.toArray 0)).get? (s.heap.objs.size+1)=some (seqObj "list" vs.toArray 0):=by
  rw [←hsz];exact Er _ rfl
 have keep:∀ b o,s.heap.get? b=some o→(((s.heap.push (seqObj "list" #[] 0)).update s.heap.objs.size (Obj.mapSeq (·++vs.toArray))).push (seqObj "list" vs.toArray 0)).get? b=some o:=fun b o q=>by
  have hlt:b<s.heap.objs.size:=Eo q
  rw [Heap.get?_push_ne _ _ _ (by rw[hsz];exact ED (Fv hlt)),Heap.get?_update_ne _ _ _ _ (ED hlt),Heap.get?_push_ne _ _ _ (ED hlt)]
  exact q
 show wpAny _ _ _ _ _ { s with heap:=((s.heap.push (seqObj "list" #[] 0)).update s.heap.objs.size (Obj.mapSeq (·++vs.toArray))).push (seqObj "list" vs.toArray 0) }
 rw [hsz]
 refine wpAny_bind (wpAny_holding (wpAny_call_entry_kw slot_list_sort ⟨_,hoL,rfl⟩ entry_list_sort ?body (ksk_l1 _ _)))
 case body =>
  show wpAny (model X.prog X.w) A.in1.in1 (Builtin.«list.sort» ⟨[.ref (s.heap.objs.size+1)],[(Str.ofString "key",.ref f)]⟩) _ _ _
  rw [ksk_t1]
  refine oI (kds:=kds) (I.kept (t':=s.toks) keep) (I.fpOk (Fm _) (I.hok.fresh (Fm _))) hoL h64 hu hkn hkk call fun H s' c I' sm fp g=>⟨_,rfl,wpAny_pure ⟨_,rfl,?_⟩⟩
  exact h H s' _ c I' sm fp g
end
theorem xf {K:PySem.W.Frag}{H:Hp}{vs:List V}{ds:List PyData} (q:DNs K N0 H vs ds):Rel K N0 N0 H (vs.map some) (vs.map some) (ds.map Sl.fr) [] H:=by
 have mm:∀ x s,(x,s)∈ay (vs.map some) (ds.map Sl.fr) []→∃ v d,x=some v∧s=.fr d∧(v,d)∈vs.zip ds:=fun x s m=>by
  have m:(x,s)∈(vs.map some).zip (ds.map Sl.fr)++[]:=m
  rw [EK,List.zip_map] at m
  obtain ⟨⟨v,d⟩,hm,e⟩:=Em.mp m
  cases e
  exact ⟨v,d,rfl,rfl,hm⟩
 have oe:oas (ay (vs.map some) (ds.map Sl.fr) [])=[]:=List.flatMap_eq_nil_iff.mpr fun ⟨x,s⟩ m=>by
  obtain ⟨v,d,rfl,rfl,_⟩:=mm x s m
  exact dg _ _
 have ne:∀ b,Nw N0 (ay (vs.map some) (ds.map Sl.fr) []) b→N0 b:=fun b z=>by
  rcases z with z|z
  ·exact z
  ·rw [oe] at z;cases z
 refine ⟨⟨aS.refl,fun a h=>h,fun a z=>z.elim,fun a z=>z,fun x e m=>?_,fun x e m=>?_,fun x e m=>?_,fun x S e m=>?_,by rw[oe];exact Fr⟩,by rw[D7,D7,q.len],fun w i m=>(by cases m),fun i ds' e=>rfl⟩
 ·obtain ⟨v,d,rfl,e1,hm⟩:=mm _ _ m
  cases e1
  exact ⟨v,rfl,(mn q _ hm).to fun b _ _ z=>ne b z⟩
 ·obtain ⟨v,d,_,e1,_⟩:=mm _ _ m;cases e1
 ·obtain ⟨v,d,_,e1,_⟩:=mm _ _ m;cases e1
 ·obtain ⟨v,d,_,e1,_⟩:=mm _ _ m;cases e1
noncomputable def l8 (tb:DE) (es:List PyData) (kd:PyData):Prop:=tb (es.map .fr) fun s env=>aI env s=some kd
section
variable {X:Cx}{pins:List (Addr×Obj)}{σ:St}{H:Hp}{s:Shared}{params:Arguments}{scope:Scope}{body:Expr}{f c c':Addr}{qual p x:Str}{pm ctv:Value}{k:Nat}{A:Around}{tb:DE}{kd:PyData}
theorem rm {fl:Except Value Flow}{s':Shared} (I:Inv X pins σ H s) (hq:CR CX0 X.stack X.prog X.w H s (fun v H'=>a9 H H'∧DN X.K N0 H' v kd) E0 fl s'):∃ r,fl=.ok (.ret r)∧fR X pins σ H s kd r s':=by
 cases fl with
 | error e=>exact hq.elim
 | ok fl =>
  cases fl with
  | ret z =>
   obtain ⟨v1,H',os,bare,un,hok,rv,sm,dn⟩:=hq
   refine ⟨_,rfl,H',v1,I.call' (ch:=[]) os un hok bare (fun b z=>nomatch z),sm,rv,dn,fun b o hfp e=>⟨un.keep b o e hfp.1 (fun z=>?_) (by simp),un.free b o e hfp.1 (by simp)⟩⟩
   rcases En.mp (I.stkSub b z) with z|z
   ·exact hfp.2.1 z
   ·exact hfp.2.2.1 z
  | next=>exact False.elim hq
  | brk=>exact False.elim hq
  | cont=>exact False.elim hq
theorem vY {vs:List V}{ds:List PyData} (q:DNs X.K N0 H vs ds) (hk:l8 tb ds kd):up X.K tb (vs.map some) H fun v H'=>a9 H H'∧DN X.K N0 H' v kd:=by
 refine ⟨N0,N0,H,_,_,[],_,xf q,hk,fun s1 env' v' H' hR rel'=>⟨(rel'.e.keep).none,?_⟩⟩
 have:=rel'.kept (ts:=[]) (v:=v') (s:=s1) (by simp) hR
 exact this.to fun b _ _ z=>z.elim
theorem um {d:PyData}{v:V}{u:Value} (I:Inv X pins σ H s) (hA:pq X.prog X.w X.K X.mg X.base A X.stack s H) (hr:cY (k+1) A) (S:ar [p] [p] scope)
  (hb:bindArgs (kla_fn "<lambda>" qual params body scope [] pm (.ref c') ctv) ⟨[u],[]⟩=pure [(p,u)])
  (hbody:PE (oq CX0 X.prog X.w X.K X.mg X.base [p] qual scope f (.ref c') A X.stack s H E0) body (up X.K tb))
  (ho:s.heap.get? f=some (kla_obj "<lambda>" qual params body scope [] pm c' ctv)) (hcd:s.heap.CodeRec (.ref c') qual) (r:bx v u) (hd:DN X.K N0 H v d) (hk:l8 tb [d] kd) :
  wpAny (model X.prog X.w) A (call (.ref f) [u]) (fR X pins σ H s kd) (fun _ _=>False) s :=
 wpAny_call (codeAny_mono (x9 (CX:=CX0) (E:=E0) (ps:=[p]) (us:=[u]) (vs:=[v]) S hr hA ho hcd hb (.cons r .nil) rfl hbody (vY (.cons hd .nil) hk)) fun res s' hq=>by
  obtain ⟨z,rfl,h⟩:=rm I hq
  exact h)
theorem uo {d d0:PyData}{v v0:V}{u u0:Value} (I:Inv X pins σ H s) (hA:pq X.prog X.w X.K X.mg X.base A X.stack s H) (hr:cY (k+1) A) (S:eX p x scope)
  (hb:bindArgs (kla_fn "<lambda>" qual params body scope [(x,c)] pm (.ref c') ctv) ⟨[u],[]⟩=pure [(p,u)])
  (hbody:PE (sZ CX0 X.prog X.w X.K X.mg X.base [p,x] qual scope f (.ref c') [(x,c)] A X.stack s H E0) body (up X.K tb))
  (ho:s.heap.get? f=some (kla_obj "<lambda>" qual params body scope [(x,c)] pm c' ctv)) (hcd:s.heap.CodeRec (.ref c') qual) (hcell:s.heap.IsCell c (some u0)) (r0:bx v0 u0) (hc0:H c=none)
  (r : bx v u) (hd:DN X.K N0 H v d) (hd0:DN X.K N0 H v0 d0) (hk:l8 tb [d,d0] kd) :
  wpAny (model X.prog X.w) A (call (.ref f) [u]) (fR X pins σ H s kd) (fun _ _=>False) s :=
 wpAny_call (codeAny_mono (ul (CX:=CX0) (E:=E0) S hr hA ho hcd hb hcell r0 hc0 r hbody (vY (.cons hd (.cons hd0 .nil)) hk)) fun res s' hq=>by
  obtain ⟨z,rfl,h⟩:=rm I hq
  exact h)
end
section
variable {X:Cx}{K:PySem.W.Frag}{e:Expr}{t:TA}{q0 pos kpos lpos:Pos}{params:Arguments}{scope:Scope}{body:Expr}{p x:Str}{i:Nat}{tb:DE}{KR:St→Hp→PyData→PyData→Prop}
noncomputable def wX (K:PySem.W.Frag) (KR:St→Hp→PyData→PyData→Prop) (t:TA):TE:=fun σ H Q=>t σ H fun xs H1=>∃ (q:Addr) (vs:List V) (N:Addr→Prop) (ds kds:List PyData),xs=[.ref q]∧SqL K H1 q vs∧DNs K N H1 vs ds∧kds.length=ds.length∧zk kds∧(∀ i,i<ds.length→KR σ H1 (ds.getD i .none) (kds.getD i .none))∧vs.length<64 ∧
 ∀ H2,a9 H1 H2→∀ q,H2 q=none→Q (.ref q) (upd H2 q (.lst (ca (ax (kds.map cb)) vs .non)))
theorem qE (hK:X.K=K) (L:pj X) (hr:cY 4 X.A) (hg:Gl X "sorted") (hm:X.mg "sorted" = none) (ha:PA X [e] t) (hdef:defaultsOf params X.env=([],[]))
  (hcl:∀ {pins:List (Addr×Obj)}{s:Shared}{σ:St}{H:Hp},Inv X pins σ H s→∃ clos,closureFor scope X.env=pure clos)
  (hkr:∀ {σ:St}{H H':Hp}{d kd:PyData},KR σ H d kd→a9 H H'→KR σ H' d kd)
  (hcall:∀ {pins:List (Addr×Obj)}{s:Shared}{σ:St}{H:Hp}{clos:List (Str×Addr)}{f c':Addr}{pm ctv u:Value}{v:V}{d kd:PyData},Inv X pins σ H s→closureFor scope X.env=pure clos→s.heap.get? f=some (kla_obj "<lambda>" (X.env.qual ++ "<lambda>") params body scope clos pm c' ctv)→s.heap.CodeRec (.ref c') (X.env.qual ++ "<lambda>") →
   bx v u→DN X.K N0 H v d→KR σ H d kd→wpAny (model X.prog X.w) X.A.in1.in1 (call (.ref f) [u]) (fR X pins σ H s kd) (fun _ _=>False) s)
  (he2:backTo pos (starEach [e] X.env)=(false,eval e X.env)::backTo pos (starEach [] X.env)) :
  PE X (.Call (.Name "sorted" q0) [e] [⟨some "key",.Lambda params body scope lpos,kpos⟩] pos) (wX K KR t):=by
 subst hK
 intro pins s σ H Q I h
 obtain ⟨clos,hc⟩:=hcl I
 refine wpAny_Call_Name_kw (fJ I hg hm boot_sorted ?_ (by decide) (by decide))
 refine callWith_kw (thn (ha pos pins s σ H _ I h) fun us s1 zz3=>?_) he2 (by rw[he2];rfl) rfl rfl
 obtain ⟨xs,H1,I1,r,q⟩:=zz3
 show wpAny _ _ (evalAll [(do let v ←eval (.Lambda params body scope lpos) X.env;standAt pos;pure v)]) _ _ s1
 refine wpAny_evalAll_cons (wpAny_bind (rd I1 L hc hdef fun f c' pm ctv s2 H2 I2 sm hfo fpf cz=>wpAny_bind (wpAny_standAt (wpAny_pure (wpAny_evalAll_nil ?_)))))
 obtain ⟨p0,vs,N,ds,kds,rfl,sq,dn,hkl,hkk,hkey,h64,q⟩:=q
 obtain ⟨u,rfl,ru⟩:=iW r
 cases (show u=Value.ref p0 from ru)
 obtain ⟨its,rv,hp,_⟩:=I2.list (sm.seq sq)
 have hlen:=rv.length
 obtain ⟨fo,hfo'⟩:∃ fo,fo=kla_obj "<lambda>" (X.env.qual ++ "<lambda>") params body scope clos pm c' ctv:=⟨_,rfl⟩
 rw [←hfo'] at hfo
 have I3:Inv X ((f,fo)::pins) σ H2 s2:=I2.pins_of fun z hz=>by
  rcases En.mp hz with rfl|hz
  ·exact ⟨hfo,fpf.1,fpf.2.1,fpf.2.2.1,fun v=>by rw[hfo'];exact fun z=>by cases z⟩
  ·exact I2.pin z (D9 _ hz)
 have dn2:DNs X.K N0 H2 vs ds:=(dn.keep (aS.same sm)).to fun b _ _ z=>z.elim
 show wpAny _ _ (PySem.call (.builtin "sorted") [.ref p0] [(Str.ofString "key",.ref f)]) _ _ _
 have hdl:ds.length=vs.length:=dn.len.symm
 refine jW (kds:=kds) I3 hp.isList (by omega) ?_ (by omega) hkk (fun i hi H' s' I' sm'=>?_) fun H' s' D c I' sm' fpD gD=>?_
 ·have:=hr.un
  show X.A.units+1+1+64<cLine
  omega
 ·obtain ⟨v,rx,dx,md⟩:=uQ dn2 rv i hi
  have gf:=(I'.pin (f,fo) (D9 _ Eh)).1
  rw [hfo'] at gf
  obtain ⟨oc,u,ws,t,e1,e2,e3⟩:=cz
  obtain ⟨goc,_⟩:=I'.hok c' _ (sm' _ _ e1)
  exact hcall I' hc gf ⟨_,_,_,_,rfl,goc,e2,e3⟩ rx (dx.keep (aS.same sm')) (hkr (hkey i (by omega)) (sm.trans sm'))
 ·have I4:Inv X pins σ H' s':=I'.pins_of fun z hz=>I'.pin z (D9 _ (Ej _ hz))
  have fpD':gn X pins H' D:=⟨fpD.1,fpD.2.1,fpD.2.2.1,fpD.2.2.2.1,fpD.2.2.2.2.1,fun z hz=>fpD.2.2.2.2.2 z (by
   rcases Ed.mp hz with hz|hz
   ·exact Ec _ hz
   ·exact D9 _ (Ej _ hz))⟩
  have hlt:∀ i∈ax (kds.map cb),i<vs.length:=fun i hi=>by have:=cm i hi;rw[D7] at this;omega
  refine ⟨.ref D,upd H' D (.lst (ca (ax (kds.map cb)) vs .non)),I4.track fpD' ⟨?_,_,c,eu rv hlt,gD⟩,rfl,q _ (sm.trans sm') _ fpD.1⟩
  unfold ca
  rw [D7,(aY _).length_eq,EE,D7,sizeLine_eq]
  omega
theorem xH (hK:X.K=K) (L:pj X) (hr:cY 4 X.A) (hg:Gl X "sorted") (hm:X.mg "sorted" = none) (ha:PA X [e] t) (S:ar [p] [p] scope)
  (hb:∀ (qual:Str) (pm c ctv u:Value),bindArgs (kla_fn "<lambda>" qual params body scope [] pm c ctv) ⟨[u],[]⟩=pure [(p,u)])
  (hcl:closureFor scope X.env=pure []) (hdef:defaultsOf params X.env=([],[]))
  (hbody:∀ (A:Around) (s:Shared) (H:Hp) (f:Addr) (cd:Value),PE (oq CX0 X.prog X.w X.K X.mg X.base [p] (X.env.qual ++ "<lambda>") scope f cd A X.stack s H E0) body (up X.K tb))
  (he2:backTo pos (starEach [e] X.env)=(false,eval e X.env)::backTo pos (starEach [] X.env)) :
  PE X (.Call (.Name "sorted" q0) [e] [⟨some "key",.Lambda params body scope lpos,kpos⟩] pos) (wX K (fun _ _ d kd=>l8 tb [d] kd) t) :=
 qE hK L hr hg hm ha hdef (fun _=>⟨[],hcl⟩) (fun h _=>h) (fun I hc ho hcd r hd hk=>by
  rw [hcl] at hc
  cases hc
  exact um (k:=1) I I.env0.in1.in1 hr.in1.in1 S (hb _ _ _ _ _) (hbody _ _ _ _ _) ho hcd r hd hk) he2
theorem xI (hK:X.K=K) (L:pj X) (hr:cY 4 X.A) (hg:Gl X "sorted") (hm:X.mg "sorted" = none) (ha:PA X [e] t) (S:eX p x scope)
  (hN:X.N[i]? = some x) (hv:Vis X.env.scope x) (hcel:X.env.kindOf x=some .cell∨X.env.kindOf x=some .free) (hnl:X.env.kindOf x≠some .local)
  (hb:∀ (qual:Str) (cl:List (Str×Addr)) (pm c ctv u:Value),bindArgs (kla_fn "<lambda>" qual params body scope cl pm c ctv) ⟨[u],[]⟩=pure [(p,u)])
  (hcl:∀ c,X.env.cells.lookup x=some c→closureFor scope X.env=pure [(x,c)]) (hdef:defaultsOf params X.env=([],[]))
  (hbody:∀ (A:Around) (s:Shared) (H:Hp) (f:Addr) (cd:Value) (c:Addr),cY 1 (A.deeper (envX (X.env.qual ++ "<lambda>") scope s.heap.objs.size f cd [(x,c)]))→PE (sZ CX0 X.prog X.w X.K X.mg X.base [p,x] (X.env.qual ++ "<lambda>") scope f cd [(x,c)] A X.stack s H E0) body (up X.K tb))
  (he2:backTo pos (starEach [e] X.env)=(false,eval e X.env)::backTo pos (starEach [] X.env)) :
  PE X (.Call (.Name "sorted" q0) [e] [⟨some "key",.Lambda params body scope lpos,kpos⟩] pos) (wX K (fun σ H d kd=>∃ v0 d0,σ[i]? = some (some v0)∧DN K N0 H v0 d0∧l8 tb [d,d0] kd) t):=by
 subst hK
 refine qE rfl L hr hg hm ha hdef (fun I=>?_) (fun h sm=>?_) (fun {pins s σ H clos f c' pm ctv u v d kd} I hc ho hcd r hd hk=>?_) he2
 ·obtain ⟨c,hc⟩:=I.ok.has x hcel
  exact ⟨_,hcl c hc⟩
 ·obtain ⟨v0,d0,e0,dn,hk⟩:=h
  exact ⟨v0,d0,e0,dn.keep (aS.same sm),hk⟩
 ·obtain ⟨c,hc'⟩:=I.ok.has x hcel
  rw [hcl c hc'] at hc
  cases hc
  obtain ⟨v0,d0,hv0,dn0,hk⟩:=hk
  obtain ⟨m,hns,hloc⟩:=I.loc
  obtain ⟨u0,ru0,hlook⟩:=hloc i x v0 hN hv0 hv
  have hcellX:s.heap.IsCell c (some u0):=by
   rcases hlook with ⟨z,_⟩|⟨_,c2,ec2,ic⟩
   ·exact absurd z hnl
   ·rw [hc'] at ec2
    cases ec2
    exact ic
  have hrr:cY 2 X.A.in1.in1:=hr.in1.in1
  exact uo (k:=1) I I.env0.in1.in1 hrr S (hb _ _ _ _ _ _) (hbody _ _ _ _ _ _ (hrr.deeper _)) ho hcd hcellX ru0 (I.freeC x c hc') r hd dn0 hk
noncomputable def l9:PyData→PyData
 | .list es=>.tuple [.int es.length,.list es]
 | d=>d
noncomputable def rp (tb:DE) (d kd:PyData):Prop:=tb [.fr d] fun s env=>aI env s=some kd
noncomputable def rn (tb:DE) (d d0 kd:PyData):Prop:=tb [.fr d,.fr d0] fun s env=>aI env s=some kd
noncomputable def yG (tb:DE) (t:DA):DE:=fun env R=>t env fun ss env1=>∃ s ds kf,ss=[s]∧aG env1 s=some (.list ds)∧ds.length<64∧zk (ds.map kf)∧(∀ d∈ds,rp tb d (kf d))∧R (.ow (ca (ax ((ds.map kf).map cb)) ds .none)) env1
noncomputable def yH (tb:DE) (i:Nat) (t:DA):DE:=fun env R=>t env fun ss env1=>∃ s ds d0 kf,ss=[s]∧aG env1 s=some (.list ds)∧env1[i]? = some (.fr d0)∧ds.length<64∧zk (ds.map kf)∧(∀ d∈ds,rn tb d d0 (kf d))∧R (.ow (ca (ax ((ds.map kf).map cb)) ds .none)) env1
variable {tl:DA}
theorem rF {ds:List PyData}{kf:PyData→PyData}{P:PyData→PyData→Prop} (h:∀ d∈ds,P d (kf d)) {i:Nat} (hi:i<ds.length):P (ds.getD i .none) ((ds.map kf).getD i .none):=by
 have e1:ds.getD i .none=ds[i]:=by simp[Ea,hi]
 have e2:(ds.map kf).getD i .none=kf ds[i]:=by simp[Ea,hi]
 rw [e1,e2]
 exact h _ (EA hi)
theorem qB {K:PySem.W.Frag}{N:Addr→Prop}{H:Hp}{us:List V}{ds:List PyData}{kf:PyData→PyData} (q:DNs K N H us ds):DNs K N H (ca (ax ((ds.map kf).map cb)) us .non) (ca (ax ((ds.map kf).map cb)) ds .none) :=
 ju q fun i hi=>by have:=cm i hi;rw[D7,D7] at this;rw[q.len];exact this
theorem vO (hK:X.K=K) (L:pj X) (hr:cY 4 X.A) (hg:Gl X "sorted") (hm:X.mg "sorted" = none) (ha:PA X [e] (upA K tl)) (S:ar [p] [p] scope)
  (hb:∀ (qual:Str) (pm c ctv u:Value),bindArgs (kla_fn "<lambda>" qual params body scope [] pm c ctv) ⟨[u],[]⟩=pure [(p,u)])
  (hcl:closureFor scope X.env=pure []) (hdef:defaultsOf params X.env=([],[]))
  (hbody:∀ (A:Around) (s:Shared) (H:Hp) (f:Addr) (cd:Value),PE (oq CX0 X.prog X.w X.K X.mg X.base [p] (X.env.qual ++ "<lambda>") scope f cd A X.stack s H E0) body (up X.K tb))
  (he2:backTo pos (starEach [e] X.env)=(false,eval e X.env)::backTo pos (starEach [] X.env):=by rfl) :
  PE X (.Call (.Name "sorted" q0) [e] [⟨some "key",.Lambda params body scope lpos,kpos⟩] pos) (up K (yG tb tl)) :=
 (xH (K:=K) (tb:=tb) hK L hr hg hm ha S hb hcl hdef hbody he2).imp fun σ H Q h=>by
 obtain ⟨M,P,H0,σ0,env,ts,R,rel,ht,hq⟩:=h
 refine ⟨M,P,H0,σ0,env,ts,_,rel,ht,fun ss env1 vs H1 h1 hl rel1=>?_⟩
 obtain ⟨s,ds,kf,rfl,e1,h64,hkk,hk,hR⟩:=h1
 obtain ⟨v,rfl⟩:=q9 hl
 obtain ⟨a,us,rfl,sq,q⟩:=(rel1.view (v:=v) (by simp) e1).list
 exact ⟨a,us,_,ds,ds.map kf,rfl,sq,q,D7 ..,hkk,fun i hi=>rF (P:=fun d kd=>l8 tb [d] kd) hk hi,by rw[q.len];exact h64,fun H2 sm p' hp=>hq _ _ _ _ hR ((rel1.same sm).resOw hp (qB (q.keep (aS.same sm))))⟩
theorem zH (i:Nat) (hK:X.K=K) (L:pj X) (hr:cY 4 X.A) (hg:Gl X "sorted") (hm:X.mg "sorted" = none) (ha:PA X [e] (upA K tl)) (S:eX p x scope)
  (hN:X.N[i]? = some x) (hv:Vis X.env.scope x) (hcel:X.env.kindOf x=some .cell∨X.env.kindOf x=some .free) (hnl:X.env.kindOf x≠some .local)
  (hb:∀ (qual:Str) (cl:List (Str×Addr)) (pm c ctv u:Value),bindArgs (kla_fn "<lambda>" qual params body scope cl pm c ctv) ⟨[u],[]⟩=pure [(p,u)])
  (hcl:∀ c,X.env.cells.lookup x=some c→closureFor scope X.env=pure [(x,c)]) (hdef:defaultsOf params X.env=([],[]))
  (hbody:∀ (A:Around) (s:Shared) (H:Hp) (f:Addr) (cd:Value) (c:Addr),cY 1 (A.deeper (envX (X.env.qual ++ "<lambda>") scope s.heap.objs.size f cd [(x,c)]))→PE (sZ CX0 X.prog X.w X.K X.mg X.base [p,x] (X.env.qual ++ "<lambda>") scope f cd [(x,c)] A X.stack s H E0) body (up X.K tb))
  (he2:backTo pos (starEach [e] X.env)=(false,eval e X.env)::backTo pos (starEach [] X.env):=by rfl) :
  PE X (.Call (.Name "sorted" q0) [e] [⟨some "key",.Lambda params body scope lpos,kpos⟩] pos) (up K (yH tb i tl)) :=
 (xI (K:=K) (tb:=tb) hK L hr hg hm ha S hN hv hcel hnl hb hcl hdef hbody he2).imp fun σ H Q h=>by
 obtain ⟨M,P,H0,σ0,env,ts,R,rel,ht,hq⟩:=h
 refine ⟨M,P,H0,σ0,env,ts,_,rel,ht,fun ss env1 vs H1 h1 hl rel1=>?_⟩
 obtain ⟨s,ds,d0,kf,rfl,e1,e0,h64,hkk,hk,hR⟩:=h1
 obtain ⟨v,rfl⟩:=q9 hl
 obtain ⟨a,us,rfl,sq,q⟩:=(rel1.view (v:=v) (by simp) e1).list
 obtain ⟨x0,ex,m0⟩:=rel1.slot e0
 obtain ⟨v0,ev0,dn0⟩:=rel1.e.fr _ _ m0
 exact ⟨a,us,_,ds,ds.map kf,rfl,sq,q,D7 ..,hkk,fun i hi=>⟨v0,d0,by rw[ex,ev0],dn0.to fun b _ _ z=>z.elim,rF (P:=fun d kd=>l8 tb [d,d0] kd) hk hi⟩,by rw[q.len];exact h64,fun H2 sm p' hp=>hq _ _ _ _ hR ((rel1.same sm).resOw hp (qB (q.keep (aS.same sm))))⟩
end
end _L
namespace _L
open PySem PySem.Spec PyProof.Rows
noncomputable def Ev (t:DE) (env:List Sl) (s:Sl):Prop:=∀ R:Sl→List Sl→Prop,R s env→t env R
noncomputable def EvA (t:DA) (env:List Sl) (ss:List Sl):Prop:=∀ R:List Sl→List Sl→Prop,R ss env→t env R
noncomputable def EvT (t:DT) (env:List Sl) (k:Bool):Prop:=∀ R:Bool→List Sl→Prop,R k env→t env R
noncomputable def EvO (t:DO) (env:List Sl) (k:Option Int):Prop:=∀ R:Option Int→List Sl→Prop,R k env→t env R
noncomputable def EvI (t:DI) (env:List Sl) (ds:List PyData):Prop:=∀ R:List PyData→List Sl→Prop,R ds env→t env R
noncomputable def E2 (g:G2) (d e x:PyData):Prop:=∀ R:PyData→Prop,R x→g d e R
noncomputable def E1 (g:G1) (d x:PyData):Prop:=∀ R:PyData→Prop,R x→g d R
noncomputable def EB (g:GB) (ds:List PyData) (x:PyData):Prop:=∀ R:PyData→Prop,R x→g ds R
noncomputable def EL (g:PyData→PyData→(List PyData→Prop)→Prop) (d e:PyData) (x:List PyData):Prop:=∀ R:List PyData→Prop,R x→g d e R
section
variable {env:List Sl}{s s1 s2 s':Sl}{d d1 d2 x e:PyData}{ds es xs ys:List PyData}{i j:Nat}{m n:Int}{ta tb te:DE}{tl:DA}{ss:List Sl}{g:G2}{k:Bool}{DD:mG}
theorem AI (h:(env[i]?).bind slD=some d):Ev (Br i) env (.vw i):=fun _ r=>⟨d,h,r⟩
theorem DP:Ev (dC d) env (.fr d):=fun _ r=>r
theorem AO (h:env[i]? = some (.fr d)):Ev (zi i) env (.fr d):=fun R r=>by unfold zi;rw[h];exact r
theorem Cr (h1:Ev ta env s1) (h2:Ev tb env s2) (e1:aG env s1=some d1) (e2:aG env s2=some d2) (h:E2 g d1 d2 x):Ev (dOp g ta tb) env (.fr x):=fun _ r=>h1 _ (h2 _ ⟨d1,d2,e1,e2,h _ r⟩)
theorem AL {g:PyData→PyData→(List PyData→Prop)→Prop} (h1:Ev ta env s1) (h2:Ev tb env s2) (e1:aG env s1=some d1) (e2:aG env s2=some d2) (h:EL g d1 d2 xs):Ev (A5 g ta tb) env (.ow xs):=fun _ r=>h1 _ (h2 _ ⟨d1,d2,e1,e2,h _ r⟩)
theorem Cq {g:G1} (h1:Ev ta env s1) (e1:aG env s1=some d1) (h:E1 g d1 x):Ev (dUn g ta) env (.fr x):=fun _ r=>h1 _ ⟨d1,e1,h _ r⟩
theorem Ct {g:GB} (h1:EvA tl env ss) (e1:eB env ss=some ds) (h:EB g ds x):Ev (dCB g tl) env (.fr x):=fun _ r=>h1 _ ⟨ds,e1,h _ r⟩
theorem AJ (h1:EvA tl env ss) (e1:aZ env ss=some ds) (z:ss.length≤sizeLine):Ev (Bs tl) env (.fr (.tuple ds)):=fun _ r=>h1 _ ⟨ds,e1,z,r⟩
theorem AN (h1:EvA tl env ss) (e1:aZ env ss=some ds) (z:ss.length≤sizeLine):Ev (Bv tl) env (.ow ds):=fun _ r=>h1 _ ⟨ds,e1,z,r⟩
theorem yq (h1:Ev ta env s1) (h2:Ev tb env s2) (e1:aG env s1=some (.tuple xs)) (e2:aG env s2=some (.tuple ys)) (z:xs.length+ys.length≤sizeLine):Ev (uY ta tb) env (.fr (.tuple (xs++ys))):=fun _ r=>h1 _ (h2 _ ⟨xs,ys,e1,e2,z,r⟩)
theorem AK {l h:Option Int}{t1 t2:DO} (h1:Ev te env s) (h2:EvO t1 env l) (h3:EvO t2 env h) (e1:aG env s=some (.list ds)):Ev (Bt te t1 t2) env (.ow (jy ds l h)):=fun _ r=>h1 _ (h2 _ (h3 _ ⟨ds,e1,r⟩))
theorem Cs:EvO jx env none:=fun _ r=>r
theorem yo (h1:Ev te env s) (e1:aG env s=some (.int n)):EvO (uU te) env (some n):=fun _ r=>h1 _ ⟨n,e1,r⟩
theorem AM:EvA Bu env []:=fun _ r=>r
theorem yp (h1:Ev te env s) (h2:EvA tl env ss):EvA (uX te tl) env (s::ss):=fun _ r=>h1 _ (h2 _ r)
theorem yn (h1:Ev te env s) (e1:aG env s=some (.bool k)):EvT (o5 te) env k:=fun _ r=>h1 _ ⟨k,e1,r⟩
theorem DR {f:Int→Int→Int}:E2 (gI f) (.int m) (.int n) (.int (f m n)):=fun _ r=>⟨m,n,rfl,rfl,r⟩
theorem Cw {C:Int→Int→Prop}{f:Int→Int→Int} (c:C m n):E2 (gIC C f) (.int m) (.int n) (.int (f m n)):=fun _ r=>⟨m,n,rfl,rfl,c,r⟩
theorem DU {f:Int→Int→Bool}:E2 (gB f) (.int m) (.int n) (.bool (f m n)):=fun _ r=>⟨m,n,rfl,rfl,r⟩
theorem AV:E2 Bp d .none (.bool (lD d)):=fun _ r=>⟨rfl,r⟩
theorem yy:E2 uI d .none (.bool (!lD d)):=fun _ r=>⟨rfl,r⟩
theorem Cv (h1:eG d=some ds) (h2:atI ds n=some x):E2 gIx d (.int n) x:=fun _ r=>⟨ds,n,x,h1,rfl,h2,r⟩
theorem AW:E1 Bm (.int n) (.int (-n)):=fun _ r=>⟨n,rfl,r⟩
theorem AU (h:eG d=some es):EB Bo [d] (.int es.length):=fun _ r=>⟨d,es,rfl,h,r⟩
theorem AT (z:xs.length+ys.length≤sizeLine):EL Bq (.list xs) (.list ys) (xs++ys):=fun _ r=>⟨xs,ys,rfl,rfl,z,r⟩
theorem yw (h1:Ev te env s) (e1:aI env s=some (.list ds)):EvI (n0 te) env ds:=fun _ r=>h1 _ ⟨ds,e1,r⟩
theorem AS (h1:Ev te env s) (e1:aI env s=some (.tuple ds)):EvI (uV te) env ds:=fun _ r=>h1 _ ⟨ds,e1,r⟩
theorem yv (h1:EvA tl env [s]) (e1:aG env s=some (.int n)) (z1:-4611686018427387904≤n) (z2:n<4611686018427387904):EvI (uT tl) env (fE 0 n.toNat):=fun _ r=>h1 _ ⟨s,n,rfl,e1,z1,z2,r⟩
theorem yx {b:Bool} (h1:EvA tl env [s]) (e1:aI env s=some (sqD b ds)):EvI (uW b tl) env (jt ds):=fun _ r=>h1 _ ⟨s,ds,rfl,e1,r⟩
theorem x4 {n:Nat} (h:decide (n≤100)=true):n≤sizeLine:=Eg (of_decide_eq_true h) (Eg (by decide) ae)
theorem ws_seq {t u:DS} (h:t { DD with nx:=u DD } env):A3 t u DD env:=h
theorem ws_set (h1:Ev te env s) (z:i<env.length) (e1:ia env s=some s') (h:DD.nx (env.set i s')):wx i te DD env:=h1 _ ⟨s',z,e1,h⟩
theorem ws_ret (h1:Ev te env s) (h:DD.rt s env):A4 te DD env:=h1 _ h
theorem ws_ifs {c:DT}{t u:DS} (h1:EvT c env k) (h:if k=true then t DD env else u DD env):Bw c t u DD env:=h1 _ h
theorem ws_for {it:DI}{g:DG}{tb:DS} (h1:EvI it env ds) (h:FD ds g tb DD env):Bx it g tb DD env:=h1 _ h
theorem ws_app {s0:Sl} (h1:Ev te env s) (e1:aI env s=some d) (e2:env[i]? = some s0) (e3:fY s0=some ds) (z:ds.length<sizeLine) (e4:cH s0 (ds++[d])=some s') (h:DD.nx (env.set i s')):r9 (By i te) DD env:=⟨⟨ds,by rw[e2];exact e3⟩,h1 _ ⟨d,s0,ds,s',e1,e2,e3,z,e4,h⟩⟩
theorem w_callS {sp:DSp}{q:Nat}{s0:Sl}{l ds1 ds2:List PyData}{R:Sl→List Sl→Prop} (h1:EvA tl env ss) (a1:ss[q]? = some (.vw i)) (a2:env[i]? = some s0) (a3:fY s0=some l) (a4:aZ env (ss.take q)=some ds1) (a5:aZ env (ss.drop (q+1))=some ds2)
  (h : sp (ds1.map .fr++.io l::ds2.map .fr) (dK (fun r as=>∃ l' s',as[q]? = some (.io l')∧cH s0 l'=some s'∧R r (env.set i s')) ⟨⟩)):kY sp q tl env R:=h1 _ ⟨i,s0,l,ds1,ds2,a1,a2,a3,a4,a5,h⟩
theorem w_call {sp:DSp}{R:Sl→List Sl→Prop} (h1:EvA tl env ss) (e1:aZ env ss=some ds) (h:sp (ds.map .fr) (dK (fun r _=>R r env) ⟨⟩)):sf sp tl env R:=h1 _ ⟨ds,e1,h⟩
theorem w_comp {it:DI}{ix:List (Option Nat)}{g:DG}{tt:DT}{R:Sl→List Sl→Prop} (h1:EvI it env ds) (h:CD ds ix g tt te env (dK R ⟨⟩)):o6 it ix g tt te env R:=h1 _ h
theorem wg_name {R:List Sl→Prop} (z:i<env.length) (h:R (env.set i (.fr d))):nY i d env R:=⟨z,h⟩
theorem wk_K {R:Sl→List Sl→Prop}{w:Wn R} (h:R s env):dK R w s env:=h
theorem wx_set (h:te env fun s env1=>∃ s',i<env1.length∧ia env1 s=some s'∧DD.nx (env1.set i s')):wx i te DD env:=h
theorem wx_ret (h:te env DD.rt):A4 te DD env:=h
theorem wx_drop (h:te env fun _ env1=>DD.nx env1):r9 te DD env:=h
end
end _L
namespace _L
open PySem PySem.Spec PyProof.Rows PySem.W
section
variable {X:Cx}{K:PySem.W.Frag}
end
section
variable {X:Cx}{tg:Expr}
end
section
variable {X:Cx}{K:PySem.W.Frag}{tg e:Expr}{p pos:Pos}{tl:DA}
end
end _L
namespace _L
open PySem PySem.Spec PyProof.Rows PySem.W PySem.Calls
section
variable {prog:Program}{w:World}{A:Around}{R:Result→Shared→Prop}{I:Addr}{fp wr:List Addr}{P:Nat→Value→Prop}{St:Nat→Heap→Prop}
noncomputable def lA (ns:List Int) (d x:Int):Prop:=ns=[]∧x=d∨x∈ns∧∀ y∈ns,y≤x
theorem jS {ns:List Int}{j:Nat} (h:j<ns.length):ns.take (j+1)=ns.take j++[ns.getD j 0]:=by
 rw [FE,D8 h,Ea,D8 h]
 rfl
theorem qY {ns:List Int} (W:Walks prog w A.in1 I fp wr ns.length P St) (hP:∀ i v,P i v→∃ t,v=Value.int (ns.getD i 0) t) (S:Addr) (hSf:S ∉ fp) (d:Int) (td:Tok) :
  ∀ (k j:Nat) (s:Shared) (vb:List Value) (c:Nat),ns.length - j=k→j≤ns.length→St j s.heap→(vb=[]∧j=0∨∃ x t,vb=[Value.int x t,Value.int x t]∧x∈ns.take j∧∀ y∈ns.take j,y≤x) →
  s.heap.get? S=some { cls:=.type "list",dict:=none,data:=.seq vb.toArray c,slots:=#[] } →
  (∀ x t h' tk,lA ns d x→(∀ b o,b ∉ wr→b≠S→s.heap.get? b=some o→h'.get? b=some o)→R (.ok (.ret (.int x t))) { s with heap:=h',toks:=tk }) →
  codeAny (model prog w) A (.builtin "max.loop" ⟨[.ref I,.none,.ref S],[(("default" : Str),.int d td)]⟩) R s:=by
 have hSw:S ∉ wr:=fun h=>hSf (W.sub _ h)
 have hname:(toString "max" ++ toString ".loop" : String) = "max.loop" := by decide
 intro k
 induction k with
 | zero =>
  intro j s vb c hk hj hst hb hS hR
  have hin:j=ns.length:=by omega
  refine codeAny_builtin F.entry_max_loop ?_
  rw [Around.under_plainId F.plain_max_loop _]
  show wpAny _ A.in1 (seqItems? (.ref S) >>= _) _ _ s
  refine wpAny_bind (wpAny_seqItems hS rfl ?_)
  show wpAny _ A.in1 (tryCatch (pyNext (.ref I)) _ >>= _) _ _ s
  refine wpAny_bind (wpAny_tryCatch (W.done s _ _ (hin▸hst) fun h' tk hk'=>?_))
  have hS':=hk' S _ hSw hS
  rcases hb with ⟨rfl,h0⟩|⟨x,t,rfl,hx1,hx2⟩
  ·exact wpAny_bind (wpAny_rule (wpAny_pure (hR d td h' tk (.inl ⟨List.length_eq_zero_iff.mp (by omega),rfl⟩) fun b o hbw hbS e=>hk' b o hbw e)))
  ·show wpAny _ A.in1 (updateSeq S (fun _=>#[]) >>= _) _ _ _
   refine wpAny_bind ?_
   refine wpAny_updateSeq hS' rfl (wpAny_bind (wpAny_letGo (wpAny_pure ?_)))
   rw [hin,List.take_length] at hx1 hx2
   exact hR x t _ tk (.inr ⟨hx1,hx2⟩) fun b o hbw hbS e=>(Fo _ _ (Ne.symm hbS)).trans (hk' b o hbw e)
 | succ k ih =>
  intro j s vb c hk hj hst hb hS hR
  have hlt:j<ns.length:=by omega
  refine codeAny_builtin F.entry_max_loop ?_
  rw [Around.under_plainId F.plain_max_loop _]
  show wpAny _ A.in1 (seqItems? (.ref S) >>= _) _ _ s
  refine wpAny_bind (wpAny_seqItems hS rfl ?_)
  show wpAny _ A.in1 (tryCatch (pyNext (.ref I)) _ >>= _) _ _ s
  refine wpAny_bind (wpAny_tryCatch (W.item j s _ _ hlt hst fun v h' tk hPv hst' hk'=>?_))
  have hS':=hk' S _ hSw hS
  obtain ⟨u,rfl⟩:=hP _ _ hPv
  have et:=jS hlt
  generalize ns.getD j 0=y at *
  have go:∀ (h2:Heap) (c2:Nat),(∀ z∈ns.take j,z≤y)→(∀ b o,b≠S→h'.get? b=some o→h2.get? b=some o)→h2.get? S=some { cls:=.type "list",dict:=none,data:=.seq #[.int y u,.int y u] c2,slots:=#[] } →
    codeAny (model prog w) A (.builtin "max.loop" ⟨[.ref I,.none,.ref S],[(("default" : Str),.int d td)]⟩) R { s with heap:=h2,toks:=tk }:=fun h2 c2 hy k2 hS2 =>
   ih (j+1) _ [.int y u,.int y u] c2 (by omega) hlt (W.frame _ _ _ hst' fun b hbf o e=>k2 b o (fun h:b=S=>hSf (by rw[←h];exact hbf)) e) (.inr ⟨y,u,rfl,by rw[et];simp,fun z hz=>by
    rw [et] at hz
    rcases Ed.mp hz with hz|hz
    ·exact hy z hz
    ·rw [Eb.mp hz];exact Fe _⟩) hS2
    fun x t h'' tk'' hm hk''=>hR x t h'' tk'' hm fun b o hbw hbS e=>hk'' b o hbw hbS (k2 b o hbS (hk' b o hbw e))
  rcases hb with ⟨rfl,h0⟩|⟨x,t,rfl,hx1,hx2⟩
  ·show wpAny _ A.in1 (updateSeq S (fun _=>#[.int y u,.int y u]) >>= _) _ _ _
   refine wpAny_bind ?_
   refine wpAny_updateSeq hS' rfl ?_
   rw [hname]
   exact wpAny_pure ⟨plainId_quiet F.plain_max_loop _,go _ _ (fun z hz=>by rw[h0] at hz;simp at hz) (fun b o hbS e=>(Fo _ _ (Ne.symm hbS)).trans e) (Fh _ hS' rfl)⟩
  ·show wpAny _ A.in1 (tryCatch (holding [.int y u,.int y u] (richCompare .Gt (.int y u) (.int x t) >>= _)) _ >>= _) _ _ _
   refine wpAny_bind (wpAny_tryCatch (wpAny_holding (wpAny_bind (show wpAny _ _ (compareOp .Gt (.int y u) (.int x t)) _ _ _ from gt_int ?_))))
   refine wpAny_bind (wpAny_holding (wpAny_truthy_bool ?_))
   refine wpAny_bind (wpAny_letGo (wpAny_pure ?_))
   cases hb:decide (x<y) with
   | true =>
    have hb:=of_decide_eq_true hb
    simp only [if_true]
    refine wpAny_bind ?_
    refine wpAny_updateSeq hS' rfl (wpAny_bind (wpAny_letGo ?_))
    rw [hname]
    exact wpAny_pure ⟨plainId_quiet F.plain_max_loop _,go _ _ (fun z hz=>by have:=hx2 z hz;omega) (fun b o hbS e=>(Fo _ _ (Ne.symm hbS)).trans e) (Fh _ hS' rfl)⟩
   | false =>
    have hb:=of_decide_eq_false hb
    simp only [EQ,if_false]
    refine wpAny_bind (wpAny_letGo ?_)
    rw [hname]
    exact wpAny_pure ⟨plainId_quiet F.plain_max_loop _,ih (j+1) _ [.int x t,.int x t] c (by omega) hlt hst' (.inr ⟨x,t,rfl,by rw[et];simp[hx1],fun z hz=>by
     rw [et] at hz
     rcases Ed.mp hz with hz|hz
     ·exact hx2 z hz
     ·rw [Eb.mp hz];omega⟩) hS' fun x t h'' tk'' hm hk''=>hR x t h'' tk'' hm fun b o hbw hbS e=>hk'' b o hbw hbS (hk' b o hbw e)⟩
theorem sN (a v:Value):argsOk "max" ⟨[a],[(("default" : Str),v)]⟩:=by unfold argsOk;kernel_rfl
theorem sF {E:Value→Shared→Prop}{s:Shared}{x:Value}{ns:List Int}{d:Int}{td:Tok}{Q:Value→Shared→Prop}
  (h : wpAny (model prog w) A.in1 (pyIter x) (fun it s₂=>∃ I fp wr P St,it=.ref I∧Walks prog w A.in1 I fp wr ns.length P St∧St 0 s₂.heap∧(∀ b∈fp,b<s₂.heap.objs.size)∧(∀ i v,P i v→∃ t,v=Value.int (ns.getD i 0) t) ∧
   ∀ x t h' tk,lA ns d x→(∀ b o,b ∉ wr→s₂.heap.get? b=some o→h'.get? b=some o)→Q (.int x t) { s₂ with heap:=h',toks:=tk }) E s) :
  wpAny (model prog w) A (call (.builtin "max") [x] [(("default" : Str),.int d td)]) Q E s:=by
 have hname:(toString "max" ++ toString ".loop" : String) = "max.loop" := by decide
 refine o7 F.kind_max F.plain_max F.entry_max (sN _ _) ?_
 show wpAny _ A.in1 (Builtin.Builtins.bindParams "max" ["key", "default"] 0 ⟨[],[(("default" : Str),.int d td)]⟩ >>= _) _ _ s
 refine wpAny_bind (wpAny_of_eq (show Builtin.Builtins.bindParams "max" ["key", "default"] 0 ⟨[],[(("default" : Str),.int d td)]⟩=pure [none,some (.int d td)] from rfl) ?_)
 refine wpAny_bind (wpAny_pure ?_)
 refine wpAny_bind (wpAny_mono h (fun it s₂ h₂=>?_) fun _ _ e=>e)
 obtain ⟨I,fp,wr,P,St,rfl,W,hst,hfp,hP,hQ⟩:=h₂
 refine wpAny_bind (wpAny_newObj_type ?_)
 have hSf:s₂.heap.objs.size ∉ fp:=fun hm=>Fc _ (hfp _ hm)
 rw [hname]
 refine wpAny_pure ⟨plainId_quiet F.plain_max_loop _,qY W hP s₂.heap.objs.size hSf d td _ 0 _ [] 0 rfl (Ez _) (W.frame _ _ _ hst fun b _ o e=>Ee _ e) (.inl ⟨rfl,rfl⟩) (Er _ rfl) fun x t h' tk hm hk=>?_⟩
 exact hQ x t h' tk hm fun b o hbw e=>hk b o hbw (ED (Eo e)) (Ee _ e)
end
section
variable {X:Cx}{K:PySem.W.Frag}{e:Expr}{tl:DA}{p pos kpos p3:Pos}
noncomputable def BG (K:PySem.W.Frag) (d:Int) (t:TA):TE:=fun σ H Q=>t σ H fun xs H1=>∃ (p:Addr) (ns:List Int),xs=[.ref p]∧SqL K H1 p (ns.map V.int)∧∀ m:Int,lA ns d m→Q (.int m) H1
theorem xK {t:TA}{d:Int}{j} (hK:X.K=K) (hc:X.calm=true) (hg:Gl X "max") (hm:X.mg "max" = none) (ha:PA X [e] t)
  (he:starEach [e] X.env=[(false,eval e X.env)]:=by rfl)
  (he2:backTo pos (starEach [e] X.env)=(false,eval e X.env)::backTo pos (starEach [] X.env):=by rfl):PE X (.Call (.Name "max" p) [e] [⟨some "default",.Constant (.int d) j p3,kpos⟩] pos) (BG K d t):=by
 subst hK
 intro pins s σ H Q I h
 refine wpAny_Call_Name_kw (fJ I hg hm PyProof.Rows.boot_max ?_ (by decide) (by decide))
 refine callWith_kw (thn (ha pos pins s σ H _ I h) fun us s1 zz4=>?_) he2 (by rw[he2];rfl) rfl rfl
 obtain ⟨vs,H1,I1,r,q⟩:=zz4
 refine thn ((xA j6 zV:PK X [⟨some "default",.Constant (.int d) j p3,kpos⟩] _) pos pins s1 σ H1 (fun zs H2=>zs=[.int d]∧H2=H1) I1 ⟨rfl,rfl⟩) fun ws s2 zz5=>?_
 obtain ⟨zs,H2,I2,rz,ez,eH⟩:=zz5
 subst ez eH
 obtain ⟨u,rfl,⟨td,rfl⟩⟩:=iW rz
 obtain ⟨q0,ns,rfl,hs,q⟩:=q
 obtain ⟨u,rfl,ru⟩:=iW r
 cases (show u=Value.ref q0 from ru)
 obtain ⟨its,rv,hp,_⟩:=I2.list hs
 have hl:=hp.isList
 have hlt:q0<s2.heap.objs.size:=by obtain⟨_,e,_⟩:=hl;exact Eo e
 have hsz:its.toArray.size=ns.length:=by
  have:=rv.length
  simp at this ⊢
  omega
 have W:=(Walks.list (prog:=X.prog) (w:=X.w) (A:=X.A.in1) (I2.ok.hd hc) s2.heap.objs.size q0 (ED hlt) its.toArray)
 rw [hsz] at W
 show wpAny _ _ (call (.builtin "max") [.ref q0] [(("default" : Str),.int d td)]) _ _ _
 refine sF (ns:=ns) (wpAny_pyIter_list hl ?_)
 refine ⟨s2.heap.objs.size,_,_,_,_,rfl,W,⟨⟨_,Er _ rfl,rfl,rfl⟩,hl.push _⟩,fun b hb=>?_,fun i v hP=>?_,fun x t h' tk hm hk=>?_⟩
 ·rcases En.mp hb with rfl|hb
  ·exact Eo (Er _ rfl)
  ·obtain rfl:=Eb.mp hb
   exact Eo (Ee _ (id hl).choose_spec.1)
 ·have hP:its[i]? = some v:=by simpa using hP
  have hi:i<its.length:=(Ef.mp hP).1
  have hi2:i<ns.length:=by simp at hsz;omega
  obtain ⟨u,e1,⟨t,e2⟩⟩:=rv.get (i:=i) (x:=.int ns[i]) (by rw[EM,D8 hi2];rfl)
  rw [hP] at e1
  cases e1
  refine ⟨t,?_⟩
  rw [e2,Ea,D8 hi2]
  rfl
 ·exact ⟨.int x,H2,I2.kept fun b o e=>hk b o (fun hb=>absurd (Eo e) ((Eb.mp hb)▸Fc _)) (Ee _ e),⟨_,rfl⟩,q _ hm⟩
noncomputable def yM (d:Int) (t:DA):DE:=fun env R=>t env fun ss env1=>∃ s es ns,ss=[s]∧aG env1 s=some (.list es)∧cg es=some ns∧∀ m:Int,lA ns d m→R (.fr (.int m)) env1
theorem zK {d:Int}{j} (hK:X.K=K) (hc:X.calm=true) (hg:Gl X "max") (hm:X.mg "max" = none) (ha:PA X [e] (upA K tl))
  (he:starEach [e] X.env=[(false,eval e X.env)]:=by rfl)
  (he2:backTo pos (starEach [e] X.env)=(false,eval e X.env)::backTo pos (starEach [] X.env):=by rfl):PE X (.Call (.Name "max" p) [e] [⟨some "default",.Constant (.int d) j p3,kpos⟩] pos) (up K (yM d tl)) :=
 (xK (K:=K) hK hc hg hm ha he he2).imp fun σ H Q h=>by
 obtain ⟨M,P,H0,σ0,env,ts,R,rel,ht,hq⟩:=h
 refine ⟨M,P,H0,σ0,env,ts,_,rel,ht,fun ss env1 vs H1 h1 hl rel1=>?_⟩
 obtain ⟨s,es,ns,rfl,e1,e2,hR⟩:=h1
 obtain ⟨v,rfl⟩:=q9 hl
 obtain ⟨a,us,rfl,sq,q⟩:=(rel1.view (v:=v) (by simp) e1).list
 rw [dh e2] at q
 rw [q.ints] at sq
 exact ⟨a,ns,rfl,sq,fun m h1=>hq _ _ _ _ (hR m h1) (rel1.drop.addFr (.int m))⟩
end
end _L
namespace _L
open PySem PySem.Spec PyProof.Rows PySem.W
noncomputable def rY (i:Nat) (t:DE):DE:=fun env R=>∃ S d,env[i]? = some (.tr S d)∧t ((env.map uB).set i (.fr d)) fun s env1=>∃ m:Int,aG env1 s=some (.int m)∧R (.fr (.int m)) env
theorem xl (i:Nat) {X:Cx}{K:PySem.W.Frag}{e:Expr}{t:DE} (h:PE X e (up K t)):PE X e (up K (rY i t)):=h.imp fun σ H Q h=>by
 obtain ⟨M,P,H0,σ0,env,ts,R,rel,⟨S,d,e,ht⟩,hq⟩:=h
 have rel2:=rel.frzT e
 have hil:i<env.length:=(Ef.mp e).1
 have en:∀ (x:Option V) (s:Sl),(x,s)∈ay σ ((env.map uB).set i (.fr d)) []→(∃ s',s=uB s')∧∀ d',s=.fr d'→(x,Sl.fr d')∈ay σ (env.set i (.fr d)) ts:=fun x s m=>by
  have m:(x,s)∈σ.zip ((env.map uB).set i (.fr d)):=by simpa [ay] using m
  obtain ⟨j,hj,ej⟩:=Ex m
  rw [E8,FC,D7] at hj
  rw [Fj] at ej
  obtain ⟨e1,e2⟩:=Prod.mk.inj ej
  rw [List.getElem_set] at e2
  by_cases hij:i=j
  ·rw [if_pos hij] at e2
   refine ⟨⟨.fr d,e2.symm⟩,fun d' hd=>Ec _ ?_⟩
   rw [List.mem_iff_getElem]
   refine ⟨j,by rw[E8,FC];omega,?_⟩
   rw [Fj,List.getElem_set,if_pos hij,e1,e2,hd]
  ·rw [if_neg hij,EN] at e2
   refine ⟨⟨_,e2.symm⟩,fun d' hd=>Ec _ ?_⟩
   rw [List.mem_iff_getElem]
   refine ⟨j,by rw[E8,FC];omega,?_⟩
   rw [Fj,List.getElem_set,if_neg hij,e1,yh (e2.trans hd)]
 have no:∀ a,a ∉ oas (ay σ ((env.map uB).set i (.fr d)) []):=fun a z=>by
  obtain ⟨⟨x,s⟩,he,eo⟩:=aW.mp z
  obtain ⟨⟨s',rfl⟩,_⟩:=en x s he
  exact uA eo
 refine ⟨N0,N0,H,σ,_,[],_,⟨⟨aS.refl,fun a z=>z,fun a z=>z.elim,fun a z=>z.elim,fun x d m=>?_,fun x ds m=>?_,fun x ds m=>?_,fun x S d m=>?_,?_⟩,?_,(fun v j m=>by cases m),fun j ds' m=>?_⟩,ht,fun s env1 v H1 h1 rel1=>?_⟩
 ·obtain ⟨v,e1,dn⟩:=rel2.e.fr x d ((en x _ m).2 d rfl)
  exact ⟨v,e1,dn.to fun b _ _ z=>z.elim (fun z=>z.elim) fun z=>absurd z (no b)⟩
 ·obtain ⟨⟨s',e1⟩,_⟩:=en _ _ m
  cases s' <;> cases e1
 ·obtain ⟨⟨s',e1⟩,_⟩:=en _ _ m
  cases s' <;> cases e1
 ·obtain ⟨⟨s',e1⟩,_⟩:=en _ _ m
  cases s' <;> cases e1
 ·rw [List.eq_nil_iff_forall_not_mem.mpr no]
  exact Fr
 ·rw [FC,D7]
  exact rel.len
 ·have m2:=Fb m
  rcases List.mem_or_eq_of_mem_set m2 with h|h
  ·obtain ⟨s,_,e1⟩:=Em.mp h
   cases s <;> cases e1
  ·cases h
 ·obtain ⟨m,e1,hR⟩:=h1
  have ev:=(rel1.view (v:=v) (s:=s) (by simp) e1).int
  subst ev
  exact hq _ _ _ _ hR ((rel.same rel1.e.keep.none).addFr (.int m))
section
variable {K:PySem.W.Frag}{M P N:Addr→Prop}{H0 H H':Hp}{σ0 σ:St}{env:List Sl}{ts tt:List (V×Sl)}{v:V}{s:Sl}{d:PyData}
end
section
variable {X:Cx}{x:Str}{p pos:Pos}{e:Expr}{es:List Expr}{k:Nat}{sp:DSp}{K:PySem.W.Frag}{tl:DA}
end
section
variable {X:Cx}{K:PySem.W.Frag}
noncomputable def CC (i:Nat) (u:DS):DS:=fun DD env=>∃ S d,env[i]? = some (.tr S d)∧u DD (env.set i (.fr d))
theorem qj (i:Nat) {ss:List Stmt}{u:DS} (h:PSs X ss (upS K u)):PSs X ss (upS K (CC i u)):=h.imp fun D σ H h=>by
 obtain ⟨M,P,H0,σ0,env,ts,DD,nv,rel,⟨S,d,e,hu⟩,ok⟩:=h
 exact ⟨M,P,H0,σ0,_,ts,DD,nv,rel.frzT e,hu,ok⟩
end
section
variable {X:Cx}{K:PySem.W.Frag}
noncomputable def CF (i:Nat) (tl:DA):DE:=fun env R=>(∃ ds,(env[i]?).bind fY=some ds)∧tl env fun ss env1=>∃ l s0 ds s',ss=[.ow l]∧env1[i]? = some s0∧fY s0=some ds∧ds.length+l.length≤sizeLine∧cH s0 (ds++l)=some s'∧R (.fr .none) (env1.set i s')
theorem BZ (i:Nat) {y:Str}{e1:Expr}{tl:DA}{apos cpos npos:Pos} (hK:X.K=K) (hN:X.N[i]? = some y) (ha:PA X [e1] (upA K tl))
  (hv:Vis X.env.scope y:=by first|exact Or.inl rfl|exact Or.inr (Or.inl rfl)|exact Or.inr (Or.inr rfl)) (hd:(y==("__debug__" : Str))=false:=by decide)
  (hcd:(y==("__classdict__" : Str))=false:=by decide)
  (hs0:starEach [e1] X.env=(false,eval e1 X.env)::starEach [] X.env:=by rfl)
  (hbase:attributeBase (.Name y npos) "extend" X.env (eval (.Name y npos) X.env)=eval (.Name y npos) X.env:=by rfl)
  (hfew:((backTo cpos (starEach [e1] X.env)).all (fun x=>!x.1)&&(backToKw cpos (keywordEach [] X.env)).all (fun x=>x.1.isSome)&&decide ([e1].length+([]:List Keyword).length+(if ([]:List Keyword).isEmpty then 0 else 1)<30))=true:=by rfl)
  (hline:(apos.endLine==cpos.line)=true:=by rfl) (hplain:(backTo cpos (starEach [] X.env)).any (·.1)=false:=by rfl) :
  PE X (.Call (.Attribute (.Name y npos) "extend" apos) [e1] [] cpos) (up K (CF i tl)) :=
 (kBm (K:=K) hK PySem.F.plainAttrs_list PySem.F.slot_list_extend PySem.F.type_list_extend qW (cU hN hv hd hcd) ha hbase hfew hline hs0 hplain).imp fun σ H Q h=>by
 obtain ⟨M,P,H0,σ0,env,ts,R,rel,⟨⟨ds0,h0⟩,ht⟩,hq⟩:=h
 obtain ⟨s0,e0,o0⟩:=jC h0
 obtain ⟨a,vs,ea,hH,_⟩:=rel.mine e0 o0
 refine ⟨.ref a,ea,.inl ⟨rfl,vs,SqL.of hH⟩,M,P,H0,σ0,env,ts,_,rel,ht,fun ss env1 vs1 H1 h1 hl rel1=>?_⟩
 obtain ⟨l,t0,ds,s',rfl,z2,o2,hz,es,hR⟩:=h1
 obtain ⟨v1,rfl⟩:=q9 hl
 obtain ⟨a',us,ea',hH',q⟩:=rel1.drop.mine z2 o2
 rw [ea] at ea'
 cases ea'
 have hE:=rel1.e
 obtain ⟨b,ws,eb,hB,ql,_⟩:=hE.ow (some v1) l (by rw[aw];exact D9 _ (by simp[tmp]))
 cases eb
 have ql2:DNs K (Nw M (ay σ env1 ts)) H1 ws l:=ql.to fun b _ _ z=>by rw[aw];exact dS z
 exact ⟨a,b,us,ws,rfl,rfl,hH',hB,by rw[q.len,ql2.len];exact hz,hq _ _ _ _ hR ((rel1.drop.mut (ds:=ds) z2 es ea (q.app ql2)).addFr .non)⟩
end
theorem qA (ds:List PyData):(ca (ax (ds.map cb)) ds .none).Perm ds:=dE (by have:=aY (ds.map cb);rwa [D7] at this)
noncomputable def FnI (K:PySem.W.Frag) (x:Str) (st:Stmt):Prop:=∃ f fd,PySem.W.nsIn K mainGlobals x=some (some (.ref f))∧Fun K x x st f fd
noncomputable def FnL (K:PySem.W.Frag) (x:Str) (st:Stmt):Prop:=∃ f fd,PySem.W.nsIn K mainGlobals x=some (some (.ref f))∧Fun K x x st f fd∧∀ base:Heap,K.In base→pi K base x fd
structure BnI (K:PySem.W.Frag):Prop where
 len:PySem.W.nsIn K mainGlobals "len" = some none
 range:PySem.W.nsIn K mainGlobals "range" = some none
 min:PySem.W.nsIn K mainGlobals "min" = some none
 max:PySem.W.nsIn K mainGlobals "max" = some none
 enumerate:PySem.W.nsIn K mainGlobals "enumerate" = some none
 zip:PySem.W.nsIn K mainGlobals "zip" = some none
 all:PySem.W.nsIn K mainGlobals "all" = some none
 any:PySem.W.nsIn K mainGlobals "any" = some none
 isinstance:PySem.W.nsIn K mainGlobals "isinstance" = some none
 bool:PySem.W.nsIn K mainGlobals "bool" = some none
 int:PySem.W.nsIn K mainGlobals "int" = some none
 list:PySem.W.nsIn K mainGlobals "list" = some none
 tuple:PySem.W.nsIn K mainGlobals "tuple" = some none
 sorted:PySem.W.nsIn K mainGlobals "sorted" = some none
 str:PySem.W.nsIn K mainGlobals "str" = some none
 sum:PySem.W.nsIn K mainGlobals "sum" = some none
 abs:PySem.W.nsIn K mainGlobals "abs" = some none
section
variable {P:Program}{w:World}{K:PySem.W.Frag}{mg:Str→Option Value}{base h:Heap}{x:Str}{st:Stmt}{f:Addr}{oc:Value}{od an:Option Addr}{osl:Array (Option Value)}{kV doc pm cdv ct:Value}{k:Nat}{ps:List Str}{sp:DSp}
theorem BnI.bn (X:K.In h) (G:h.Ns mainGlobals mg) (z:BnI K):Bn mg :=
 have m:∀ {y:Str},PySem.W.nsIn K mainGlobals y=some none→mg y=none:=fun e=>PySem.W.mg_none_of X G e
 ⟨m z.len,m z.range,m z.min,m z.max,m z.enumerate,m z.zip,m z.all,m z.any,m z.isinstance,m z.bool,m z.int,m z.list,m z.tuple,m z.sorted,m z.str,m z.sum,m z.abs⟩
theorem fnI (a:PySem.W.nsIn K mainGlobals x=some (some (.ref f))) (l:K.lookup f=some ⟨oc,od,.func (PySem.W.fnOf x x (dG st) (ce st) (ad st) .none kV doc pm an cdv ct),osl⟩) (c:PySem.W.codeIn K cdv x=true) (k:PySem.W.keepIn K (.ref f)=true):FnI K x st:=⟨f,_,a,wm l c k⟩
theorem fnL {cc T:Addr}{odc:Option Addr}{slc:Array (Option Value)}{vs:Array Value} (hx:x∈dO) (a:PySem.W.nsIn K mainGlobals x=some (some (.ref f))) (l:K.lookup f=some ⟨oc,od,.func (PySem.W.fnOf x x (dG st) (ce st) (ad st) .none kV doc pm an cdv ct),osl⟩) (c:PySem.W.codeIn K cdv x=true) (k:PySem.W.keepIn K (.ref f)=true)
  (hc:cdv=.ref cc) (lc:K.lookup cc=some ⟨.type "code",odc,.fields vs,slc⟩) (hT:sV vs cc T):FnL K x st:=⟨f,_,a,wm l c k,fun base Xb=>Ap hx a l hc lc hT Xb⟩
theorem hZ (X:K.In h) (G:h.Ns mainGlobals mg) (g:FnI K x st) (b:∀ {f:Addr}{fd:FuncData},Fun K x x st f fd→bu K fd ps []) (ok:∀ {f:Addr}{fd:FuncData},Fun K x x st f fd→cG P w K mg base CX0 k f fd ps (spD K sp)):Cal P w K mg base x k (spD K sp):=by
 obtain ⟨f,fd,a,F⟩:=g
 exact Da F (PySem.W.mg_of X G a) (b F) (ok F)
theorem CL (X:K.In h) (G:h.Ns mainGlobals mg) (Xb:K.In base) (g:FnL K x st) (b:∀ {f:Addr}{fd:FuncData},Fun K x x st f fd→bu K fd ps []) (ok:∀ {f:Addr}{fd:FuncData},Fun K x x st f fd→pi K base x fd→cG P w K mg base CX0 k f fd ps (spD K sp)):Cal P w K mg base x k (spD K sp):=by
 obtain ⟨f,fd,a,F,L⟩:=g
 exact Da F (PySem.W.mg_of X G a) (b F) (ok F (L base Xb))
theorem Dz {l:PySem.W.OpenLaw}{fa:Addr} (X:K.In h) (G:h.Ns mainGlobals mg) (hfa:mg "law" = some (.ref fa)) (g:FnI K "law" st) (hb:∀ {fd:FuncData},Fun K "law" "law" st fa fd→∀ (s:Shared) (v:Value),BindsTo s fd ⟨[v],[]⟩ [("_law_script",v)])
  (ok:∀ {fd:FuncData}{base:Heap},Fun K "law" "law" st fa fd→K.In base→cG l.prog w K mg base CX0 k fa fd ["_law_script"] (spD K sp)):∃ fd:FuncData,(∀ (s:Shared) (v:Value),BindsTo s fd ⟨[v],[]⟩ [("_law_script",v)])∧∀ base:Heap,K.In base→base.Ns mainGlobals mg→cG l.prog w K mg base CX0 k fa fd ["_law_script"] (spD K sp):=by
 obtain ⟨f,fd,a,F⟩:=g
 have e:=hfa.symm.trans (PySem.W.mg_of X G a)
 cases e
 exact ⟨fd,hb F,fun base Xb _=>ok F Xb⟩
end
section
variable {X:Cx}{K:PySem.W.Frag}
noncomputable def CG (i:Nat):DE:=fun env R=>∃ s0 ds s',env[i]? = some s0∧fY s0=some ds∧cH s0 []=some s'∧R (.fr .none) (env.set i s')
theorem xo (i:Nat) {y:Str}{apos cpos npos:Pos} (hK:X.K=K) (hN:X.N[i]? = some y)
  (hv:Vis X.env.scope y:=by first|exact Or.inl rfl|exact Or.inr (Or.inl rfl)|exact Or.inr (Or.inr rfl)) (hd:(y==("__debug__" : Str))=false:=by decide)
  (hcd:(y==("__classdict__" : Str))=false:=by decide)
  (hbase:attributeBase (.Name y npos) "clear" X.env (eval (.Name y npos) X.env)=eval (.Name y npos) X.env:=by rfl) (hline:(apos.endLine==cpos.line)=true:=by rfl) :
  PE X (.Call (.Attribute (.Name y npos) "clear" apos) [] [] cpos) (up K (CG i)) :=
 (Cg (K:=K) hK PySem.F.plainAttrs_list PySem.F.slot_list_clear PySem.F.type_list_clear ue (cU hN hv hd hcd) hbase hline).imp fun σ H Q h=>by
 obtain ⟨M,P,H0,σ0,env,ts,R,rel,⟨s0,ds,s',e0,o0,es,hR⟩,hq⟩:=h
 obtain ⟨a,vs,ea,hH,q⟩:=rel.mine e0 o0
 exact ⟨.ref a,ea,.inl ⟨rfl,vs,SqL.of hH⟩,a,vs,rfl,rfl,hH,hq _ _ _ _ hR ((rel.mut (ds:=ds) e0 es ea .nil).addFr .non)⟩
end
section
variable {prog:Program}{w:World}{A:Around}{E:Value→Shared→Prop}{s:Shared}{d:Addr}{o:Obj}{es:Array DictEntry}{ep:Nat}
end
section
variable {X:Cx}{K:PySem.W.Frag}{tg e:Expr}
end
section
variable {X:Cx}{K:PySem.W.Frag}{tg e:Expr}{te:DE}{kvs:List (aM×PyData)}
end
section
variable {K:PySem.W.Frag}{M P N:Addr→Prop}{H0 H H':Hp}{E T A B:List Ent}{σ0 σ:St}{env:List Sl}{ts tt:List (V×Sl)}{v:V}{s:Sl}{d:PyData}
noncomputable abbrev D4 (rr:List (List Int)):List PyData:=rr.map fun r=>PyData.list (r.map PyData.int)
end
section
variable {X:Cx}{K:PySem.W.Frag}{pos:Pos}{a b e:Expr}{ta tb:DE}{tl:DA}
end
section
variable {X:Cx}{K:PySem.W.Frag}{e:Expr}{tl:DA}{q0 pos kpos lpos:Pos}{params:Arguments}{scope:Scope}{body:Expr}{p x:Str}{i:Nat}{tb:DE}
end
section
variable {K:PySem.W.Frag}{M P N:Addr→Prop}{H0 H H':Hp}
end
section
variable {X:Cx}{K:PySem.W.Frag}{pos:Pos}
end
section
variable {X:Cx}{K:PySem.W.Frag}{to ta:DE}{e o:Expr}
end
end _L
namespace _W
open PySem _L
local macro_rules | `(tactic| walk_at "d2") => do
 let l ← (("A6,wz,yG,CG,CF,yM,rY,CC,yF,uB,yH,rn,yP,yO,yI,Cm,mj,Cl,Ck,mo,rZ,rW,yJ,vD,mK,yZ,yE,A1,A3,wx,C9,nY,yC,AY,dFz,rO,yD,A4,r9,yL,Bw,yQ,rV,Bx,dOp,A5,uY,dUn,Br,zi,dC,o5,CH,dOr,CB,yS,yK,dIf,oj,Bs,Bv,uX,Bu,sf,kY,om,dCB,dIs,rT,Bt,Cz,uU,jx,rX,rS,By,CA,n0,uV,uT,uW,Cy,o6,og,AZ,sqD,gI,gIC,gB,gBB,gEq,gNe,Bp,uI,gIn,rG,Cn,gIx,Bq,Bo,Cj,Cp,Bm,yN,yR,Sl.tr.injEq,h8,gr,slF,noL,nB,mS,nj,ky,mN,mL,mM,mJ,iB,gq,kA,kz,kx,gO,fK,vG,vE,vF,vC,vB,vz,vA,vy,mU,mT,mR,nr,nq,ni,qd,qc,iu,kJ,kH,kI,kG,nW,nX,cu,m6,m8,qK,qL,qM,qJ,gl,k8,k7,oB,oz,oA,oy,iH,gw,jP,jR,mO,jQ,iC,kC,nJ,kE,kD,iP,rD,nL,v9,wd,nK,kF,v5,v4,v7,wb,v8,v6,bU,d8,nU,wL,wK,wJ,wI,wH,wG,wF,wE,nS,wn,wo,pZ,mZ,m4,List.map_cons,List.map_nil,List.length_cons,List.length_nil,List.cons_append,List.nil_append,List.append_nil,List.replicate_succ,List.replicate_zero,List.set_cons_succ,List.set_cons_zero,List.getElem?_cons_zero,List.getElem?_cons_succ,List.getElem?_nil,List.take_succ_cons,List.take_zero,List.take_nil,List.drop_succ_cons,List.drop_zero,List.drop_nil,Option.some.injEq,Option.bind_some,Option.bind_none,Option.map_some,Option.map_none,Sl.fr.injEq,Sl.ow.injEq,Sl.io.injEq,Sl.vw.injEq,PyData.int.injEq,PyData.bool.injEq,PyData.list.injEq,PyData.tuple.injEq,PyData.str.injEq,List.cons.injEq,reduceCtorEq,and_true,true_and,and_false,false_and,and_assoc,exists_eq_left',exists_eq_left,exists_and_left,exists_eq',exists_eq,exists_false,exists_const,Nat.reduceSub,Nat.reduceAdd,Nat.reduceLT,Nat.zero_add,Nat.lt_add_left_iff_pos,decide_eq_true_eq,ite_true,ite_false,Bool.false_eq_true,if_true,if_false,Bool.not_eq_true',Bool.not_eq_true,decide_eq_false_iff_not,Int.zero_add,String.reduceBEq,Bool.true_and,Bool.and_true,Bool.or_false,Bool.false_or,Bool.or_true,Bool.true_or,Bool.and_false,Bool.false_and,Bool.not_true,Bool.not_false,id_eq,Sl.ctorIdx,Nat.succ_eq_add_one".splitOn ",").toArray.mapM fun s => `(Lean.Parser.Tactic.simpLemma| $(Lean.mkIdent s.toName):ident))
 `(tactic| simp only [$l,*])
local macro_rules | `(tactic| walk_at "d1") => do
 let l ← (("wz,yG,CG,CF,yM,rY,CC,yF,uB,yH,rn,yP,yO,yI,Cm,mj,Cl,Ck,mo,rZ,rW,yJ,vD,mK,yZ,yE,A1,A3,wx,C9,nY,yC,AY,dFz,rO,yD,A4,r9,yL,Bw,yQ,rV,Bx,dOp,A5,uY,dUn,Br,zi,dC,o5,CH,dOr,CB,yS,yK,dIf,oj,Bs,Bv,uX,Bu,sf,kY,om,dCB,dIs,rT,Bt,Cz,uU,jx,rX,rS,By,CA,n0,uV,uT,uW,Cy,o6,og,AZ,sqD,gI,gIC,gB,gBB,gEq,gNe,Bp,uI,gIn,rG,Cn,gIx,Bq,Bo,Cj,Cp,Bm,yN,yR,Sl.tr.injEq,h8,gr,slF,noL,nB,mS,nj,ky,mN,mL,mM,mJ,iB,gq,kA,kz,kx,gO,fK,vG,vE,vF,vC,vB,vz,vA,vy,mU,mT,mR,nr,nq,ni,qd,qc,iu,kJ,kH,kI,kG,nW,nX,cu,m6,m8,qK,qL,qM,qJ,gl,k8,k7,oB,oz,oA,oy,iH,gw,jP,jR,mO,jQ,iC,kC,nJ,kE,kD,iP,rD,nL,v9,wd,nK,kF,v5,v4,v7,wb,v8,v6,bU,d8,nU,wL,wK,wJ,wI,wH,wG,wF,wE,nS,wn,wo,pZ,mZ,m4,List.map_cons,List.map_nil,List.length_cons,List.length_nil,List.cons_append,List.nil_append,List.append_nil,List.replicate_succ,List.replicate_zero,List.set_cons_succ,List.set_cons_zero,List.getElem?_cons_zero,List.getElem?_cons_succ,List.getElem?_nil,List.take_succ_cons,List.take_zero,List.take_nil,List.drop_succ_cons,List.drop_zero,List.drop_nil,Option.some.injEq,Option.bind_some,Option.bind_none,Option.map_some,Option.map_none,Sl.fr.injEq,Sl.ow.injEq,Sl.io.injEq,Sl.vw.injEq,PyData.int.injEq,PyData.bool.injEq,PyData.list.injEq,PyData.tuple.injEq,PyData.str.injEq,List.cons.injEq,reduceCtorEq,and_true,true_and,and_false,false_and,and_assoc,exists_eq_left',exists_eq_left,exists_and_left,exists_eq',exists_eq,exists_false,exists_const,Nat.reduceSub,Nat.reduceAdd,Nat.reduceLT,Nat.zero_add,Nat.lt_add_left_iff_pos,decide_eq_true_eq,ite_true,ite_false,Bool.false_eq_true,if_true,if_false,Bool.not_eq_true',Bool.not_eq_true,decide_eq_false_iff_not,Int.zero_add,String.reduceBEq,Bool.true_and,Bool.and_true,Bool.or_false,Bool.false_or,Bool.or_true,Bool.true_or,Bool.and_false,Bool.false_and,Bool.not_true,Bool.not_false,id_eq,Sl.ctorIdx,Nat.succ_eq_add_one".splitOn ",").toArray.mapM fun s => `(Lean.Parser.Tactic.simpLemma| $(Lean.mkIdent s.toName):ident))
 let h:=Lean.mkIdent `hW
 `(tactic| (refine' (?wf : Wk _ _) ?we ?wk ?wq; (case we => (intro $h:ident; simp only [$l,*] at $h:ident; exact $h)); (case wf => exact fun _ k q => k q); (case wk => (intro $h:ident; walk_at "wa"))))
local macro_rules | `(tactic| walk_at "wh") => do
 let h:=Lean.mkIdent `hW
 `(tactic| repeat (first | (with_reducible refine Exists.elim $h fun _ $h => ?_) | ((with_reducible refine And.elim (fun e $h => ?_) $h); try subst e)))
local macro_rules | `(tactic| walk_at "ev") => do
 let l ← ("Cr,AI,DP,DR,Cw,DU,Ct,yp,AM,AJ,AN,AO,AL,Cq,yq,AK,Cs,yo,yn,AV,yy,Cv,AW,AU,AT,yw,AS,yv,yx".splitOn ",").toArray.mapM fun s => `(Lean.Parser.Tactic.tacticSeq| with_reducible apply $(Lean.mkIdent s.toName))
 `(tactic| ((repeat' (first $[| $l]* | walk_at "wc")); done))
local macro_rules | `(tactic| walk_at "wc") => `(tactic| first | exact rfl | with_reducible assumption | exact of_decide_eq_true rfl | exact x4 rfl | ((first | (with_reducible show _ ≤ sizeLine) | (with_reducible show _ < sizeLine) | (with_reducible show _ = _) | (with_reducible show shp _)); assumption))
local macro_rules | `(tactic| walk_at "wa") => do
 let h:=Lean.mkIdent `hW
 let l ← ("ws_app,ws_set,ws_ret,ws_ifs,ws_for,w_call,w_callS,w_comp".splitOn ",").toArray.mapM fun s => `(Lean.Parser.Tactic.tacticSeq| (with_reducible apply $(Lean.mkIdent s.toName)); focus walk_at "ev")
 let m ← ("ws_seq,wg_name,wk_K,wx_set,wx_ret,wx_drop".splitOn ",").toArray.mapM fun s => `(Lean.Parser.Tactic.tacticSeq| with_reducible apply $(Lean.mkIdent s.toName))
 `(tactic| (walk_at "wh"; repeat' (first | exact $h $[| $l]* $[| $m]* | walk_at "wc" | apply Exists.intro | refine And.intro rfl ?_ | (refine And.intro ?_ ?_; focus walk_at "wc") | refine And.intro ⟨_, rfl⟩ ?_ | refine And.intro ⟨_, _, rfl⟩ ?_ | (intro x; replace $h:ident := $h x; walk_at "wh") | (refine zl rfl (fun $h => ?_) (fun $h => ?_) $h <;> walk_at "wh"))))
local macro_rules | `(tactic| walk_at "dd") => `(tactic| first | (walk_at "d1"; try walk_at "d2") | (simp only [Int.zero_add]; walk_at "d1"; try walk_at "d2") | (walk_at "d2"))
local macro_rules | `(tactic| walk_at "dx") => `(tactic| (first | ((with_reducible refine nx ?_); try walk_at "dd") | walk_at "dd"); repeat ((with_reducible refine nx ?_); try walk_at "dd"))
noncomputable def top (i:Nat):Stmt:=PySem.Challenge.pw_windround_k12_whole_a_plan_or_a_paper.main.body.getD i (.Pass ⟨0,0,0,0⟩)
section
variable {P:Program}{w:World}{K:PySem.W.Frag}{mg:Str→Option Value}{base:Heap}
noncomputable abbrev dL:Stmt:=top 19
theorem lI:ar ["_law_draws_here"] ["_law_draws_here"] (ad dL):=⟨rfl,rfl,rfl,by decide +kernel,rfl,by decide +kernel,by decide +kernel⟩
noncomputable def dZ (ds:List Int):Int:=ds.getLastD 0
noncomputable def zr:DSp:=fun ss R=>∃ ds:List Int,ss=[.io (li ds)]∧R (.fr (.int (dZ ds))) [.io (li ds.dropLast)]
theorem kR (a b:List Int):PyData.eqv (.list (li a)) (.list (li b))=decide (a=b):=yt a b
theorem x8 {ds:List Int} (h:ds≠[]):(li ds).getLast? = some (.int (dZ ds)):=by
 unfold dZ
 rw [List.getLast?_map,Fx]
 cases e:ds.getLast? with
 | none=>exact absurd (List.getLast?_eq_none_iff.mp e) h
 | some x=>rfl
theorem yB (ds:List Int):(li ds).dropLast=li ds.dropLast:=by simp[List.map_dropLast]
theorem mx {f:Addr}{fd:FuncData} (F:Fun K "_law_pop" "_law_pop" dL f fd):bu K fd ["_law_draws_here"] []:=F.binds (ps:=["_law_draws_here"]) fun _ _ _ _ _ _ us hl=>us1 (Q:=fun us=>bindArgs _ ⟨us,[]⟩=pure (List.zip _ us)) hl fun _=>rfl
theorem lV {f:Addr}{fd:FuncData} (F:Fun K "_law_pop" "_law_pop" dL f fd) (B:Bn mg):cG P w K mg base CX0 1 f fd ["_law_draws_here"] (spD K zr):=by
 refine okD (k:=0) F lI (fun ss R h=>?_) (by decide) (fun cdv A outer s H E hr=>⟨_,(bz (fW (aF (za (K:=K) rfl hr.units) mEq (qv 0) (cI ac) (aA _)) (ai (aU af)) bw)
   (ai (aU (xk 0 (K:=K) rfl rfl)))),fun ss R h=>?_⟩)
 ·obtain ⟨ds,rfl,_⟩:=h
  rfl
 obtain ⟨ds,rfl,q⟩:=h
 walk_at "dd"
 refine ⟨Ez _,(Sh.ints 0 ds).shp (by decide),(Sh.ints 0 []).shp (by decide),?_⟩
 rw [show PyData.list []=PyData.list (li []) from rfl,kR]
 by_cases e:ds=[]
 ·subst e
  rw [if_pos (by simp)]
  exact q
 ·rw [if_neg (by simp[e])]
  exact ⟨_,x8 e,by rw[yB];exact q⟩
theorem A7 (ns:List Int) (a b:Option Int):jy (li ns) a b=li ((ns.drop (HT.sIx ns.length 0 a)).take (HT.sIx ns.length ns.length b - HT.sIx ns.length 0 a)):=by
 unfold jy
 show (List.drop _ (List.map PyData.int ns)).take _=List.map PyData.int _
 rw [D7,List.map_take,List.map_drop]
theorem uZ (ns:List Int) (c:Nat):jy (li ns) (some (c:Int)) none=li (ns.drop c):=by
 rw [A7,HT.sIx_none,HT.sIx_nat]
 by_cases h:c≤ns.length
 ·rw [FN h,EY (by simp)]
 ·rw [Nat.min_eq_right (by omega),E5 (Ek _),E5 (by omega)]
  simp
noncomputable def RB (rs:List (List Int)):Prop:=rs.length≤1000∧∀ r∈rs,r.length≤1000
theorem eV {l:List (List Int)}{k:Nat} (h:k<l.length):l.getD k []∈l:=by
 rw [Ea,D8 h]
 exact EA h
noncomputable abbrev dM:Stmt:=top 17
theorem gz:ar ["_law_cell", "_law_turn", "_law_number"] ["_law_cell", "_law_turn"] (ad dM):=⟨rfl,rfl,rfl,by decide +kernel,rfl,by decide +kernel,by decide +kernel⟩
noncomputable def y4 (c t:Int):Int:=(c % 2147483647+t*t*7919+104729)*48271 % 2147483647
noncomputable def pk (c t:Int):Int:=(y4 c t*y4 c t+69621*t) % 2147483629
theorem Ak (c t:Int):0≤pk c t∧pk c t<2147483648:=by
 have b1:=Fl (y4 c t*y4 c t+69621*t) (show (2147483629:Int)≠0 by decide)
 have b2:=E9 (y4 c t*y4 c t+69621*t) (show (0:Int)<2147483629 by decide)
 unfold pk
 omega
noncomputable def zu:DSp:=fun ss R=>∃ c t:Int,ss=[.fr (.int c),.fr (.int t)]∧0≤t∧t<100000∧R (.fr (.int (pk c t))) [.un,.un]
theorem my {f:Addr}{fd:FuncData} (F:Fun K "_law_mix" "_law_mix" dM f fd):bu K fd ["_law_cell", "_law_turn"] []:=F.binds (ps:=["_law_cell", "_law_turn"]) fun _ _ _ _ _ _ us hl=>us2 (Q:=fun us=>bindArgs _ ⟨us,[]⟩=pure (List.zip _ us)) hl fun _ _=>rfl
theorem lW {f:Addr}{fd:FuncData} (F:Fun K "_law_mix" "_law_mix" dM f fd) (B:Bn mg):cG P w K mg base CX0 1 f fd ["_law_cell", "_law_turn"] (spD K zu):=by
 refine okD (k:=0) F gz (fun ss R h=>?_) (by decide) (fun cdv A outer s H E hr=>⟨_,(bz (aV (i:=2) gz.nd rfl (Or.inl rfl) (bO bC mIC (bO iL mIC (bO bX mI (bO bX mI (bO bC mIC (qv 0) af) (bO iL mIC (bO iL mIC (qv 1) (qv 1)) af)) af) af) af))
   (ai (aU (bO bC mIC (bO bX mI (bO iL mIC (qv 2) (qv 2)) (bO iL mIC af (qv 1))) af)))),fun ss R h=>?_⟩)
 ·obtain ⟨c,t,rfl,_⟩:=h
  rfl
 obtain ⟨c,t,rfl,h0,h1,q⟩:=h
 walk_at "dd"
 have a1:=Fl ((c % 2147483647+t*t*7919+104729)*48271) (show (2147483647:Int)≠0 by decide)
 have a2:=E9 ((c % 2147483647+t*t*7919+104729)*48271) (show (0:Int)<2147483647 by decide)
 refine ⟨by decide,ox (by omega) (by omega),wB (by decide) (by decide),wB (by decide) (by decide),by decide,?_⟩
 exact ⟨ox (by omega) (by omega),ox (by decide) (by decide),by decide,q⟩
noncomputable abbrev bV:Stmt:=top 18
theorem aH:ar ["_law_script", "_law_turn", "_law_many", "_law_cells", "_law_found", "_law_k", "_law_at", "_law_number", "_law_cell"] ["_law_script", "_law_turn", "_law_many"] (ad bV):=⟨rfl,rfl,rfl,by decide +kernel,rfl,by decide +kernel,by decide +kernel⟩
noncomputable def Ds (l:List Int):Prop:=∀ x∈l,0≤x∧x<2147483648
theorem Ds.app {l:List Int}{x:Int} (h:Ds l) (h0:0≤x) (h1:x<2147483648):Ds (l++[x]):=fun y hy=>by
 rcases Ed.mp hy with hy|hy
 ·exact h y hy
 ·rw [Eb.mp hy];exact⟨h0,h1⟩
theorem Ds.drop {l:List Int} (h:Ds l):Ds l.dropLast:=fun x hx=>h x (kn hx)
theorem Ds.pop {l:List Int} (h:Ds l):0≤dZ l∧dZ l<2147483648:=by
 unfold dZ
 rw [Fx]
 cases e:l.getLast? with
 | none=>exact⟨Fe 0,by decide⟩
 | some x=>exact h x (List.mem_of_getLast? e)
noncomputable def drG (cs:List Int):Nat→List Int×List Int
 | 0=>([],cs)
 | i+1=>((drG cs i).1++[(drG cs i).2.getD (i % (drG cs i).2.length) 0 % 1000003],(drG cs i).2.set (i % (drG cs i).2.length) ((drG cs i).2.getD (i % (drG cs i).2.length) 0 / 1000003))
noncomputable def drN (cs:List Int) (t:Nat):Nat→Int
 | 0=>t
 | i+1=>(drN cs t i*31+pk (cs.getD i 0) ((i:Int)+t)) % 2147483629
noncomputable def drF (ns:List Int) (t m:Nat):List Int :=
 if (ns++[(t:Int)]).getD 0 0 / 50000 % 2=1 then (drG (ns++[(t:Int)]) (t / 4+m)).1.drop (t / 4)
 else (List.range m).map fun k=>pk ((ns++[(t:Int)]).getD (k % (ns++[(t:Int)]).length) 0) (drN (ns++[(t:Int)]) t (ns++[(t:Int)]).length % 1009+(k:Int)+t)
theorem rM (cs:List Int):∀ i,(drG cs i).1.length=i∧(drG cs i).2.length=cs.length
 | 0=>⟨rfl,rfl⟩
 | i+1=>by
  obtain ⟨a,b⟩:=rM cs i
  exact ⟨by show (_++[_]).length=_;rw[Ew,a];rfl,by show (List.set _ _ _).length=_;rw[FC,b]⟩
theorem wv (cs:List Int):∀ i,Ds (drG cs i).1
 | 0=>fun x hx=>by cases hx
 | i+1=>by
  have b1:=Fl ((drG cs i).2.getD (i % (drG cs i).2.length) 0) (show (1000003:Int)≠0 by decide)
  have b2:=E9 ((drG cs i).2.getD (i % (drG cs i).2.length) 0) (show (0:Int)<1000003 by decide)
  exact (wv cs i).app b1 (by omega)
theorem AX (cs:List Int) (t:Nat) (ht:t≤5000):∀ i,0≤drN cs t i∧drN cs t i<2147483648
 | 0=>by show 0≤(t:Int)∧(t:Int)<2147483648;omega
 | i+1=>by
  have b1:=Fl (drN cs t i*31+pk (cs.getD i 0) ((i:Int)+t)) (show (2147483629:Int)≠0 by decide)
  have b2:=E9 (drN cs t i*31+pk (cs.getD i 0) ((i:Int)+t)) (show (0:Int)<2147483629 by decide)
  show 0≤(_ % _:Int)∧(_ % _:Int)<2147483648
  omega
theorem rN (ns:List Int) (t m:Nat):Ds (drF ns t m):=by
 unfold drF
 split
 ·exact fun x hx=>wv _ _ x (List.mem_of_mem_drop hx)
 ·intro x hx
  obtain ⟨k,_,rfl⟩:=Em.mp hx
  exact Ak _ _
noncomputable def pX:DSp:=fun ss R=>∃ (ns:List Int) (t m:Nat),ss=[.fr (.list (li ns)),.fr (.int t),.fr (.int m)]∧ns.length≤63∧t≤5000∧m≤5000∧R (.ow (li (drF ns t m))) [.un,.un,.un]
theorem CI (ns:List Int) (h:ns.length≤63):jy (li ns) none (some 63)=li ns:=by
 unfold jy
 have e:HT.sIx (li ns).length (li ns).length (some 63)=min 63 (li ns).length:=HT.sIx_nat _ _ 63
 rw [e,HT.sIx_none,D7,List.drop_zero,Nat.sub_zero,Nat.min_eq_right h]
 exact EY (by simp)
theorem jG {f:Addr}{fd:FuncData} (F:Fun K "_law_draws" "_law_draws" bV f fd):bu K fd ["_law_script", "_law_turn", "_law_many"] []:=F.binds (ps:=["_law_script", "_law_turn", "_law_many"]) fun _ _ _ _ _ _ us hl=>us3 (Q:=fun us=>bindArgs _ ⟨us,[]⟩=pure (List.zip _ us)) hl fun _ _ _=>rfl
theorem je {f:Addr}{fd:FuncData} (F:Fun K "_law_draws" "_law_draws" bV f fd) (B:Bn mg) (G__law_mix:Cal P w K mg base "_law_mix" 1 (spD K zu)):cG P w K mg base CX0 2 f fd ["_law_script", "_law_turn", "_law_many"] (spD K pX):=by
 refine okD (k:=1) F aH (fun ss R h=>?_) (by decide) (fun cdv A outer s H E hr=>⟨_,(aj (aV (i:=3) aH.nd rfl (Or.inr rfl) (qo (gM (K:=K) rfl) Am (tN (K:=K) rfl (qv 0) fe (fb af)) (cI (aa (qf 1) ac))))
   (aj (fW (aF lR y7 (bO bC mIC (bO cR mIC (aR (ag (K:=K) rfl) mIx (qv 3) af (fun _ _=>rfl)) af) af) af (aA _)) (aj (aV (i:=4) aH.nd rfl (Or.inl rfl) (cI ac))
   (aj (eK PassesOwn.never rfl (df rfl B.range (aa (bO bX mI (bO cR mIC (qv 1) af) (qv 2)) ac)) (al (i:=5) aH.nd rfl (Or.inl rfl)) (aj (aV (i:=6) aH.nd rfl (Or.inl rfl) (bO bC mIC (qv 5) (fX (im (K:=K) rfl) il rfl B.len PySem.boot_len (aa (qv 3) ac))))
   (aj (dD (oN 4 (K:=K) rfl rfl (bO bC mIC (aR (ag (K:=K) rfl) mIx (qv 3) (qv 6) (fun _ _=>rfl)) af)))
   (ai (xi 3 rfl (qv 6) (bO cR mIC (aR (ag (K:=K) rfl) mIx (qv 3) (qv 6) (fun _ _=>rfl)) af))))))
   (ai (aU (tN (K:=K) rfl (qv 4) (fb (bO cR mIC (qv 1) af)) fe))))) bw)
   (aj (aV (i:=7) aH.nd rfl (Or.inr rfl) (qf 1))
   (aj (eK PassesOwn.never rfl (ja false (K:=K) rfl rfl B.enumerate (aa (qf 3) ac)) (gE (K:=K) (n:=2) rfl rfl (be (al (i:=5) aH.nd rfl (Or.inl rfl)) (be (al (i:=8) aH.nd rfl (Or.inl rfl)) dY))) (ai (aV (i:=7) aH.nd rfl (Or.inr rfl) (bO bC mIC (bO bX mI (bO iL mIC (qv 7) af) (az G__law_mix (hr.mono (by decide)) rfl (aa (qf 8) (aa (bO bX mI (qv 5) (qv 1)) ac)))) af))))
   (ai (aU (cf (N':=["_law_k", "_law_turn", "_law_cells", "_law_number"]) (ix:=[none,some 1,some 3,some 7]) rfl (bP (N:=["_law_script", "_law_turn", "_law_many", "_law_cells", "_law_found", "_law_k", "_law_at", "_law_number", "_law_cell"]) (sc0:=ad bV) rfl rfl (by decide +kernel)) (df rfl B.range (aa (qv 2) ac)) (fun _ _ _ _=>(al (i:=0) (show List.Nodup (["_law_k", "_law_turn", "_law_cells", "_law_number"]:List Str) by decide +kernel) rfl (Or.inl rfl))) (fun _ _ _ _=>bo) (fun _ _ _ _=>(az G__law_mix (hr.mono (by decide)) rfl (aa (aR (ag (K:=K) rfl) mIx (qv 2) (bO bC mIC (qv 0) (fX (im (K:=K) rfl) il rfl B.len PySem.boot_len (aa (qv 2) ac))) (fun _ _=>rfl)) (aa (bO bX mI (bO bX mI (bO bC mIC (qv 3) af) (qv 0)) (qv 1)) ac))))))))))),fun ss R h=>?_⟩)
 ·obtain ⟨ns,t,m,rfl,_⟩:=h
  rfl
 obtain ⟨ns,t,m,rfl,h63,ht,hm,q⟩:=h
 walk_at "dx"
 rw [CI ns h63]
 have ec:li ns++[PyData.int (t:Int)]=li (ns++[(t:Int)]):=by simp
 rw [ec]
 obtain ⟨cs,hcs⟩:∃ cs:List Int,cs=ns++[(t:Int)]:=⟨_,rfl⟩
 have hlen:cs.length=ns.length+1:=by rw[hcs];simp
 rw [←hcs]
 have qe:drF ns t m=if cs.getD 0 0 / 50000 % 2=1 then (drG cs (t / 4+m)).1.drop (t / 4) else (List.range m).map fun k=>pk (cs.getD (k % cs.length) 0) (drN cs t cs.length % 1009+(k:Int)+t):=by unfold drF;rw[←hcs]
 rw [qe] at q
 refine ⟨Eg (by decide) ae,?_,?_⟩
 ·rw [D7]
  exact Eg (by omega) ae
 walk_at "dx"
 refine ⟨_,b7 (k:=0) (by omega),?_⟩
 walk_at "dx"
 refine ⟨⟨by decide,by decide⟩,by decide,dW (fun h5=>?_) (fun h5=>?_)⟩
 ·rw [if_pos h5] at q
  have e4:(t:Int) / 4=((t / 4:Nat):Int):=rfl
  refine ⟨Ez _,?_⟩
  walk_at "dx"
  refine ⟨⟨by decide,by decide⟩,by omega,by omega,bp (fun i env=>∃ (kv av:Sl),env=[.fr (.list (li ns)),.fr (.int t),.fr (.int m),.ow (li (drG cs i).2),.ow (li (drG cs i).1),kv,av,.un,.un]) ⟨_,_,rfl⟩ ?_ ?_⟩
  ·rintro i env hi ⟨kv,av,rfl⟩
   rw [ao] at hi
   rw [bj]
   obtain ⟨g1,g2⟩:=rM cs i
   have eS:drG cs (i+1)=((drG cs i).1++[(drG cs i).2.getD (i % (drG cs i).2.length) 0 % 1000003],(drG cs i).2.set (i % (drG cs i).2.length) ((drG cs i).2.getD (i % (drG cs i).2.length) 0 / 1000003)):=rfl
   rw [eS]
   generalize (drG cs i).1=fs at *
   generalize (drG cs i).2=ls at *
   have hmod:i % ls.length<ls.length:=Nat.mod_lt _ (by omega)
   walk_at "dx"
   rw [D7]
   have ei:((i:Nat):Int) % ((ls.length:Nat):Int)=((i % ls.length:Nat):Int):=rfl
   rw [ei]
   refine ⟨by omega,?_⟩
   walk_at "dx"
   refine ⟨_,b7 hmod,?_⟩
   walk_at "dx"
   refine ⟨by decide,by rw[D7,g1];exact Ep (by omega) ae,?_⟩
   walk_at "dx"
   refine ⟨_,b7 hmod,?_⟩
   walk_at "dx"
   exact ⟨⟨by decide,by decide⟩,_,yf (by rw[D7];exact hmod),An _ _ _,by simp⟩
  ·rintro env ⟨kv,av,rfl⟩
   rw [ao,show ((t:Int) / 4+m).toNat=t / 4+m by omega]
   walk_at "dx"
   rw [e4,uZ]
   exact ⟨⟨by decide,by decide⟩,q⟩
 ·rw [if_neg h5] at q
  walk_at "dx"
  refine bp (fun i env=>∃ (kv cv:Sl),env=[.fr (.list (li ns)),.fr (.int t),.fr (.int m),.fr (.list (li cs)),.un,kv,.un,.fr (.int (drN cs t i)),cv]) ⟨_,_,rfl⟩ ?_ ?_
  ·rintro i env hi ⟨kv,cv,rfl⟩
   rw [dF,cV]
   rw [a8,D7] at hi
   have hb:=AX cs t ht i
   walk_at "dx"
   refine ⟨ox (by omega +splitDisjunctions) (by omega +splitDisjunctions),_,_,rfl,by omega +splitDisjunctions,by omega +splitDisjunctions,?_⟩
   walk_at "dx"
   exact ⟨by decide,rfl⟩
  ·rintro env ⟨kv,cv,rfl⟩
   rw [a8,D7]
   have hb:=AX cs t ht cs.length
   walk_at "dx"
   refine ⟨by omega +splitDisjunctions,by omega +splitDisjunctions,cj (fun k=>.int (pk (cs.getD (k % cs.length) 0) (drN cs t cs.length % 1009+(k:Int)+t))) (by rw[ao];omega) (fun i hi Q hQ=>?_) ?_⟩
   ·rw [ao] at hi
    rw [bj]
    walk_at "dx"
    rw [D7]
    have hmod:i % cs.length<cs.length:=Nat.mod_lt _ (by omega)
    rw [show ((i:Nat):Int) % ((cs.length:Nat):Int)=((i % cs.length:Nat):Int) from rfl]
    have b1:=Fl (drN cs t cs.length) (show (1009:Int)≠0 by decide)
    have b2:=E9 (drN cs t cs.length) (show (0:Int)<1009 by decide)
    refine ⟨by omega,_,b7 hmod,by decide,_,_,rfl,by omega,by omega,?_⟩
    walk_at "dx"
    exact hQ
   ·rw [ao,EW]
    walk_at "dx"
    have e:(List.range m).map (fun k:Nat=>PyData.int (pk (cs.getD (k % cs.length) 0) (drN cs t cs.length % 1009+(k:Int)+t)))=li ((List.range m).map fun k:Nat=>pk (cs.getD (k % cs.length) 0) (drN cs t cs.length % 1009+(k:Int)+t)):=by
     show _=List.map _ (List.map _ _)
     rw [EI]
     rfl
    rw [e]
    exact q
noncomputable abbrev bF:Stmt:=top 21
theorem aT:ar ["_law_draws_here", "_law_most", "_law_number", "_law_hands", "_law_left", "_law_spans", "_law_k"] ["_law_draws_here", "_law_most"] (ad bF):=⟨rfl,rfl,rfl,by decide +kernel,rfl,by decide +kernel,by decide +kernel⟩
noncomputable def TB (s o:List Int):Prop:=1≤s.length∧s.length≤6∧1≤o.length∧o.length≤6∧(∀ x∈s,1≤x∧x≤12)∧(∀ x∈o,0≤x∧x≤6)∧(s.length≤4∨∀ x∈o,x≤2)
noncomputable def gG:List Int→Nat
 | []=>1
 | x::s=>x.toNat*gG s
theorem oO (s:List Int) (x:Int):gG (s++[x])=gG s*x.toNat:=by
 induction s with
 | nil=>show x.toNat*1=1*x.toNat;omega
 | cons y s ih=>show y.toNat*gG (s++[x])=y.toNat*gG s*x.toNat;rw[ih,Nat.mul_assoc]
theorem uj {L l q p:Nat} (h:L*p≤q) (hl:l≤L) (y:Nat) (e:L / y*y≤L):L / y*(p*y)≤q:=by
 rw [←Nat.mul_assoc,Nat.mul_right_comm]
 exact Eg (Nat.mul_le_mul_right _ e) h
noncomputable def oP (f:Int→Int) (l:List Int):Nat→List Int×List Int
 | 0=>([],l)
 | i+1=>((oP f l i).1++[f (dZ (oP f l i).2)],(oP f l i).2.dropLast)
noncomputable def sW (l:List Int):List Int×List Int:=oP (· % 3) l.dropLast (1+dZ l % 3).toNat
noncomputable def Be (l:List Int):List Int:=if 0<dZ l / 3 % 3 then (sW l).1.map (fun x=>1+x % 2) else (sW l).1
noncomputable def twH (l:List Int):List Int×List Int:=if dZ l / 9 % 9=4 then oP (· % 7) (sW l).2 (1+dZ l / 81 % 6).toNat else (Be l,(sW l).2)
noncomputable def twC (l:List Int):Int:=if dZ l / 27 % 3=0 then 3 else if dZ l / 27 % 3=1 then 4 else 6
noncomputable def twG (m:Nat) (h:List Int×List Int):Nat→List Int×Int×List Int
 | 0=>([],(m:Int) / (h.1.length:Int),h.2.dropLast)
 | i+1=>let g:=twG m h i;let y:=1+dZ g.2.2 % (if g.2.1<12 then g.2.1 else 12);(g.1++[y],g.2.1 / y,g.2.2.dropLast)
noncomputable def twF (l:List Int) (m:Nat):List Int×Int×List Int:=twG m (twH l) (1+dZ (twH l).2 % twC l).toNat
noncomputable def vq:DSp:=fun ss R=>∃ (l:List Int) (m:Nat),ss=[.io (li l),.fr (.int m)]∧Ds l∧6≤m∧m≤100000∧(Ds (twF l m).2.2→TB (twF l m).1 (twH l).1→(twH l).1.length*gG (twF l m).1≤m→R (.fr (.tuple [.list (li (twF l m).1),.list (li (twH l).1)])) [.io (li (twF l m).2.2),.un])
theorem ve {α:Type} (xs:List α) (v:α):atI (xs++[v]) (-1)=some v:=by
 unfold atI ixN
 rw [if_neg (by decide),if_pos (by rw[Ew];simp;omega)]
 show (xs++[v])[(-1+((xs++[v]).length:Int)).toNat]? = some v
 rw [show (-1+((xs++[v]).length:Int)).toNat=xs.length by rw[Ew];simp;omega]
 simp
theorem lw {f:Addr}{fd:FuncData} (F:Fun K "_law_town" "_law_town" bF f fd):bu K fd ["_law_draws_here", "_law_most"] []:=F.binds (ps:=["_law_draws_here", "_law_most"]) fun _ _ _ _ _ _ us hl=>us2 (Q:=fun us=>bindArgs _ ⟨us,[]⟩=pure (List.zip _ us)) hl fun _ _=>rfl
theorem kh {f:Addr}{fd:FuncData} (F:Fun K "_law_town" "_law_town" bF f fd) (B:Bn mg) (G__law_pop:Cal P w K mg base "_law_pop" 1 (spD K zr)):cG P w K mg base CX0 2 f fd ["_law_draws_here", "_law_most"] (spD K vq):=by
 refine okD (k:=1) F aT (fun ss R h=>?_) (by decide) (fun cdv A outer s H E hr=>⟨_,(aj (aV (i:=2) aT.nd rfl (Or.inl rfl) (gF 0 G__law_pop (hr.mono (by decide)) rfl (aa (qv 0) ac)))
   (aj (iJ (i:=3) 1 0 rfl aT.nd rfl rfl (N':=["_law_k", "_law_draws_here"]) (ix:=[none,some 0]) rfl (bP (N:=["_law_draws_here", "_law_most", "_law_number", "_law_hands", "_law_left", "_law_spans", "_law_k"]) (sc0:=ad bF) rfl rfl (by decide +kernel)) (df rfl B.range (aa (bO bX mI af (bO bC mIC (qv 2) af)) ac)) (fun _ _ _ _=>(al (i:=0) (show List.Nodup (["_law_k", "_law_draws_here"]:List Str) by decide +kernel) rfl (Or.inl rfl))) (fun _ _ _ _=>bo) (fun _ _ _ _=>(bO bC mIC (gF 0 G__law_pop (hr.mono (by decide)) rfl (aa (qv 1) ac)) af)))
   (vN (fW (aF xT mB (bO bC mIC (bO cR mIC (qv 2) af) af) af (aA _)) (ai (bB (i:=3)  aT.nd rfl rfl (N':=["_law_one"]) (ix:=[none]) rfl (bP (N:=["_law_draws_here", "_law_most", "_law_number", "_law_hands", "_law_left", "_law_spans", "_law_k"]) (sc0:=ad bF) rfl rfl (by decide +kernel)) (aD (K:=K) rfl (qf 3)) (fun _ _ _ _=>(al (i:=0) (show List.Nodup (["_law_one"]:List Str) by decide +kernel) rfl (Or.inl rfl))) (fun _ _ _ _=>bo) (fun _ _ _ _=>(bO bX mI af (bO bC mIC (qv 0) af))))) bw)
   (vN (fW (aF lR y7 (bO bC mIC (bO cR mIC (qv 2) af) af) af (aA _)) (ai (iJ (i:=3) 1 0 rfl aT.nd rfl rfl (N':=["_law_k", "_law_draws_here"]) (ix:=[none,some 0]) rfl (bP (N:=["_law_draws_here", "_law_most", "_law_number", "_law_hands", "_law_left", "_law_spans", "_law_k"]) (sc0:=ad bF) rfl rfl (by decide +kernel)) (df rfl B.range (aa (bO bX mI af (bO bC mIC (bO cR mIC (qv 2) af) af)) ac)) (fun _ _ _ _=>(al (i:=0) (show List.Nodup (["_law_k", "_law_draws_here"]:List Str) by decide +kernel) rfl (Or.inl rfl))) (fun _ _ _ _=>bo) (fun _ _ _ _=>(bO bC mIC (gF 0 G__law_pop (hr.mono (by decide)) rfl (aa (qv 1) ac)) af)))) bw)
   (aj (aV (i:=4) aT.nd rfl (Or.inl rfl) (bO cR mIC (qv 1) (fX (im (K:=K) rfl) il rfl B.len PySem.boot_len (aa (qv 3) ac))))
   (aj (aV (i:=5) aT.nd rfl (Or.inl rfl) (cI ac))
   (aj (eK PassesOwn.never rfl (df rfl B.range (aa (bO bX mI af (bO bC mIC (gF 0 G__law_pop (hr.mono (by decide)) rfl (aa (qv 0) ac)) (aR (ag (K:=K) rfl) mIx (cI (aa af (aa af (aa af ac)))) (bO bC mIC (bO cR mIC (qv 2) af) af) (fun _ _=>rfl)))) ac)) (al (i:=6) aT.nd rfl (Or.inl rfl)) (aj (dD (oN 5 (K:=K) rfl rfl (bO bX mI af (bO bC mIC (gF 0 G__law_pop (hr.mono (by decide)) rfl (aa (qv 0) ac)) (fX (sE rfl) Dt rfl B.min PyProof.Rows.boot_min (aa af (aa (qv 4) ac)))))))
   (ai (aV (i:=4) aT.nd rfl (Or.inl rfl) (bO cR mIC (qv 4) (aR (ag (K:=K) rfl) mIx (qv 5) (Bh jO Bj af) (fun _ _=>rfl)))))))
   (ai (aU (bW (aa (qf 5) (aa (qf 3) ac)))))))))))),fun ss R h=>?_⟩)
 ·obtain ⟨l,m,rfl,_⟩:=h
  rfl
 obtain ⟨l,m,rfl,dl,hm0,hm,q⟩:=h
 walk_at "dx"
 refine ⟨l,rfl,?_⟩
 walk_at "dx"
 have p0:=dl.pop
 have dl1:=dl.drop
 have eF:twF l m=twG m (twH l) (1+dZ (twH l).2 % twC l).toNat:=rfl
 have eH:twH l=if dZ l / 9 % 9=4 then oP (· % 7) (sW l).2 (1+dZ l / 81 % 6).toNat else (Be l,(sW l).2):=rfl
 have eC:twC l=if dZ l / 27 % 3=0 then 3 else if dZ l / 27 % 3=1 then 4 else 6:=rfl
 have eH2:Be l=if 0<dZ l / 3 % 3 then (sW l).1.map (fun x=>1+x % 2) else (sW l).1:=rfl
 have eH1:sW l=oP (· % 3) l.dropLast (1+dZ l % 3).toNat:=rfl
 generalize twF l m=tF at *
 generalize twH l=tH at *
 generalize twC l=tC at *
 generalize Be l=tH2 at *
 generalize sW l=tH1 at *
 generalize dZ l=num at *
 generalize l.dropLast=l1 at *
 refine ⟨by decide,by omega,by omega,fun i rs l=>∃ (hds l':List Int),rs=li hds∧l=li l'∧hds.length=i∧Ds l'∧(∀ x∈hds,0≤x∧x≤2)∧(hds,l')=oP (· % 3) l1 i,_,_,rfl,rfl,⟨[],l1,rfl,rfl,rfl,dl1,by simp,rfl⟩,?_,?_⟩
 ·rintro i rs l hi ⟨hds,l',rfl,rfl,hl,dl',hh,ep⟩
  rw [ao] at hi
  rw [bj]
  refine ⟨by rw[D7,hl];exact Ep (by omega) ae,_,rfl,?_⟩
  walk_at "dx"
  refine ⟨l',rfl,?_⟩
  walk_at "dx"
  refine ⟨by decide,hds++[dZ l' % 3],by simp,l'.dropLast,rfl,by simp[hl],dl'.drop,fun x hx=>?_,by show _=((oP _ _ i).1++[_],(oP _ _ i).2.dropLast);rw[←ep]⟩
  rcases Ed.mp hx with hx|hx
  ·exact hh x hx
  ·rw [Eb.mp hx];omega
 rintro rs l ⟨hds,l2,rfl,rfl,hl,dl2,hh,ep⟩
 rw [ao] at hl ep
 rw [←eH1] at ep
 refine ⟨_,rfl,?_⟩
 walk_at "dx"
 refine ⟨fun env=>∃ hs:List Int,env=[.io (li l2),.fr (.int m),.fr (.int num),.ow (li hs),.un,.un,.un]∧1≤hs.length∧hs.length≤6∧(∀ x∈hs,0≤x∧x≤2)∧hs=tH2,?_,?_⟩
 ·walk_at "dx"
  refine ⟨⟨by decide,by decide⟩,by decide,dW (fun hp=>?_) (fun hp=>⟨hds,rfl,by omega,by omega,hh,by rw[eH2,if_neg hp,←ep]⟩)⟩
  refine cj (fun i=>.int (1+hds.getD i 0 % 2)) (by rw[D7];omega) (fun i hi Q hQ=>?_) ?_
  ·rw [cV]
   walk_at "dx"
   exact ⟨by decide,hQ⟩
  ·rw [D7,eZ hds 0 (fun x=>PyData.int (1+x % 2))]
   walk_at "dx"
   refine ⟨hds.map (fun x=>1+x % 2),by simp,by simp;omega,by simp;omega,fun x hx=>?_,by rw[eH2,if_pos hp,←ep]⟩
   obtain ⟨y,_,rfl⟩:=Em.mp hx
   omega
 rintro env ⟨hs,rfl,h1,h6,hhs,ehs⟩
 refine ⟨fun env=>∃ (hs l3:List Int),env=[.io (li l3),.fr (.int m),.fr (.int num),.ow (li hs),.un,.un,.un]∧Ds l3∧1≤hs.length∧hs.length≤6∧(∀ x∈hs,0≤x∧x≤6)∧(num / 27 % 3=1∨∀ x∈hs,x≤2)∧(hs,l3)=tH,?_,?_⟩
 ·walk_at "dx"
  refine ⟨⟨by decide,by decide⟩,by decide,dW (fun c4=>?_) (fun c4=>⟨hs,l2,rfl,rfl,dl2,h1,h6,fun x hx=>by have:=hhs x hx;omega,.inr fun x hx=>(hhs x hx).2,by rw[eH,if_neg c4,ehs,←ep]⟩)⟩
  refine ⟨⟨by decide,by decide⟩,by decide,by omega,by omega,fun i rs l=>∃ (hds l':List Int),rs=li hds∧l=li l'∧hds.length=i∧Ds l'∧(∀ x∈hds,0≤x∧x≤6)∧(hds,l')=oP (· % 7) l2 i,_,_,rfl,rfl,⟨[],l2,rfl,rfl,rfl,dl2,by simp,rfl⟩,?_,?_⟩
  ·rintro i rs l hi ⟨hds,l',rfl,rfl,hl,dl',hh,ep7⟩
   rw [ao] at hi
   rw [bj]
   refine ⟨by rw[D7,hl];exact Ep (by omega) ae,_,rfl,?_⟩
   walk_at "dx"
   refine ⟨l',rfl,?_⟩
   walk_at "dx"
   refine ⟨by decide,hds++[dZ l' % 7],by simp,l'.dropLast,rfl,by simp[hl],dl'.drop,fun x hx=>?_,by show _=((oP _ _ i).1++[_],(oP _ _ i).2.dropLast);rw[←ep7]⟩
   rcases Ed.mp hx with hx|hx
   ·exact hh x hx
   ·rw [Eb.mp hx];omega
  rintro rs l ⟨hd2,l3,rfl,rfl,hl,dl3,hh,ep7⟩
  rw [ao] at hl ep7
  refine ⟨_,rfl,?_⟩
  walk_at "dx"
  exact ⟨hd2,l3,rfl,rfl,dl3,by omega,by omega,hh,.inl (by omega),by rw[eH,if_pos c4,←ep];exact ep7⟩
 rintro env ⟨hs,l3,rfl,dl3,h1,h6,hh6,h27,etH⟩
 walk_at "dx"
 rw [D7]
 obtain ⟨c,ec,c3,c6,c4,etC⟩:∃ c:Int,atI [PyData.int 3,PyData.int 4,PyData.int 6] (num / 27 % 3)=some (.int c)∧3≤c∧c≤6∧(num / 27 % 3=1→c=4)∧c=tC:=by
  have:num / 27 % 3=0∨num / 27 % 3=1∨num / 27 % 3=2:=by omega
  rcases this with e|e|e
  ·rw [e] at eC ⊢;exact⟨3,rfl,by decide,by decide,by decide,by rw[eC];rfl⟩
  ·rw [e] at eC ⊢;exact⟨4,rfl,by decide,by decide,fun _=>rfl,by rw[eC];rfl⟩
  ·rw [e] at eC ⊢;exact⟨6,rfl,by decide,by decide,by decide,by rw[eC];rfl⟩
 have hp:=dl3.pop
 have hd4:=dl3.drop
 refine ⟨⟨by omega +splitDisjunctions,by omega +splitDisjunctions⟩,?_⟩
 walk_at "dx"
 refine ⟨Ez _,?_⟩
 walk_at "dx"
 refine ⟨l3,rfl,?_⟩
 walk_at "dx"
 refine ⟨Eg (by decide) ae,⟨by decide,by decide⟩,by decide,_,ec,_,rfl,by omega +splitDisjunctions,?_⟩
 have eG0:twG m tH 0=([],(m:Int) / (hs.length:Int),l3.dropLast):=by rw[←etH];rfl
 have ecn:1+dZ tH.2 % tC=1+dZ l3 % c:=by rw[←etH,etC]
 rw [ecn] at eF
 generalize dZ l3=p3 at *
 generalize l3.dropLast=l4 at *
 have u0:=Fl p3 (show c≠0 by omega)
 have u1:=E9 p3 (show 0<c by omega)
 have m1:1≤(m:Int) / (hs.length:Int):=by
  rw [Int.le_ediv_iff_mul_le (by omega)]
  omega
 have m2:hs.length*(((m:Int) / (hs.length:Int)).toNat*gG [])≤m:=by
  show hs.length*(((m / hs.length:Nat):Int).toNat*1)≤m
  rw [EW,Nat.mul_one]
  exact Nat.mul_div_le _ _
 refine ⟨by omega,by omega,bp (fun i env=>∃ (l sp:List Int) (left:Int) (kv:Sl),env=[.io (li l),.fr (.int m),.fr (.int num),.ow (li hs),.fr (.int left),.ow (li sp),kv]∧Ds l∧sp.length=i∧1≤left∧hs.length*(left.toNat*gG sp)≤m∧(∀ x∈sp,1≤x∧x≤12)∧twG m tH i=(sp,left,l)) ⟨l4,[],_,_,rfl,hd4,rfl,m1,m2,by simp,eG0⟩ ?_ ?_⟩
 ·rintro i env hi ⟨l,sp,left,kv,rfl,dl,hl,l1,hpr,hsp,eg⟩
  rw [ao] at hi
  rw [bj]
  walk_at "dx"
  refine ⟨l,rfl,?_⟩
  walk_at "dx"
  have dl':=dl.drop
  have eg1:twG m tH (i+1)=(sp++[1+dZ l % (if left<12 then left else 12)],left / (1+dZ l % (if left<12 then left else 12)),l.dropLast):=by
   show ((twG m tH i).1++[_],_,_)=_
   rw [eg]
  generalize dZ l=p at *
  generalize l.dropLast=l5 at *
  obtain ⟨w,hw⟩:∃ w:Int,w=if left<12 then left else 12:=⟨_,rfl⟩
  rw [←hw]
  rw [←hw] at eg1
  have w1:1≤w∧w≤12∧w≤left:=by
   rw [hw]
   split <;> omega
  have y0:=Fl p (show w≠0 by omega)
  have y1:=E9 p (show 0<w by omega)
  generalize p % w=y at *
  refine ⟨by omega,by rw[D7,hl];exact Ep (by omega) ae,?_⟩
  walk_at "dx"
  refine ⟨_,ve _ _,_,rfl,⟨by omega,by omega⟩,l5,rfl,sp++[1+y],by simp,dl',by simp[hl],?_,?_,fun x hx=>?_,eg1⟩
  ·rw [Int.le_ediv_iff_mul_le (by omega)]
   omega
  ·rw [oO]
   refine Eg (Nat.mul_le_mul_left _ ?_) hpr
   obtain ⟨L,rfl⟩:∃ L:Nat,left=(L:Int):=⟨left.toNat,by omega⟩
   obtain ⟨Y,hY⟩:∃ Y:Nat,1+y=(Y:Int):=⟨(1+y).toNat,by omega⟩
   rw [hY,show ((L:Int) / (Y:Int)).toNat=L / Y from rfl,EW,EW]
   exact uj (l:=0) (Ek _) (Ez _) Y (Nat.div_mul_le_self L Y)
  ·rcases Ed.mp hx with hx|hx
   ·exact hsp x hx
   ·rw [Eb.mp hx];omega
 ·rintro env ⟨l,sp,left,kv,rfl,dl,hl,l1,hpr,hsp,eg⟩
  rw [ao] at hl eg
  rw [←eF] at eg
  rw [eg,←etH] at q
  dsimp only at q
  walk_at "dx"
  refine ⟨Eg (by decide) ae,q dl ⟨by omega,by omega,h1,h6,hsp,hh6,?_⟩ (Eg (Nat.mul_le_mul_left _ (Nat.le_mul_of_pos_left _ (by omega))) hpr)⟩
  rcases h27 with h|h
  ·have:=c4 h
   exact .inl (by omega)
  ·exact .inr h
noncomputable def cJ:Nat→List (List Int)
 | 0=>[[]]
 | k+1=>cJ k++(cJ k).map (·++[(k:Int)])
noncomputable def cW (l:List Int) (n:Nat):List Int:=((List.range n).filter fun i=>decide (l.getD i 0=1)).map (Nat.cast:Nat→Int)
noncomputable def bY (h:Int) (due r:List Int):Bool:=decide ((r.length:Int)≤h)&&decide ((due.filter fun c=>decide (c ∉ r))=[])
noncomputable def bZ (n:Nat) (h:Int) (l:List Int):List (List Int):=(cJ n).filter (bY h (cW l n))
noncomputable def Ax (r:List Int):PyData:=.tuple [.int r.length,.list (li r)]
theorem eD:∀ n,(cJ n).length=2 ^ n
 | 0=>rfl
 | n+1=>by
  show (cJ n++(cJ n).map _).length=_
  rw [Ew,D7,eD n,Nat.pow_succ]
  omega
theorem bv:∀ n,∀ r∈cJ n,r.length≤n∧r.Pairwise (·<·)∧∀ x∈r,0≤x∧x<n
 | 0,r,h=>by
  rw [Eb.mp h]
  simp
 | n + 1,r,h=>by
  rcases Ed.mp h with h|h
  ·obtain ⟨a,b,c⟩:=bv n r h
   exact ⟨by omega,b,fun x hx=>by have:=c x hx;omega⟩
  ·obtain ⟨r',h',rfl⟩:=Em.mp h
   obtain ⟨a,b,c⟩:=bv n r' h'
   refine ⟨by simp;omega,List.pairwise_append.mpr ⟨b,by simp,fun x hx y hy=>?_⟩,fun x hx=>?_⟩
   ·rw [Eb.mp hy]
    have:=c x hx
    omega
   ·rcases Ed.mp hx with hx|hx
    ·have:=c x hx;omega
    ·rw [Eb.mp hx];omega
theorem fN {α:Type}{p q:α→Bool} (h:∀ x,p x=true→q x=true):∀ l:List α,(l.filter p).length≤(l.filter q).length
 | []=>Ek _
 | x :: l=>by
  have ih:=fN h l
  by_cases hp:p x=true
  ·rw [E4 hp,E4 (h x hp)]
   simpa using ih
  ·rw [Fn hp]
   by_cases hq:q x=true
   ·rw [E4 hq];simp;omega
   ·rw [Fn hq];exact ih
theorem fm {n:Nat}{h:Int}{l:List Int} (hn:n≤6) (hh:n≤4∨h≤3):(bZ n h l).length<64:=by
 rcases hh with h4|h2
 ·have a:=EU (bY h (cW l n)) (cJ n)
  rw [eD] at a
  have:2 ^ n≤2 ^ 4:=FG (by decide) h4
  unfold bZ
  omega
 ·have a:(bZ n h l).length≤((cJ n).filter fun r=>decide (r.length≤3)).length:=fN (fun r hr=>by
   unfold bY at hr
   rw [ER,decide_eq_true_eq] at hr
   rw [decide_eq_true_eq]
   omega) _
  have b:∀ n:Nat,n≤6→((cJ n).filter fun r=>decide (r.length≤3)).length≤42:=by
   intro n hn
   match n,hn with
   | 0,_=>decide
   | 1,_=>decide
   | 2,_=>decide
   | 3,_=>decide
   | 4,_=>decide
   | 5,_=>decide +kernel
   | 6,_=>decide +kernel
  have:=b n hn
  omega
theorem a0 {l:List Int}{k:Nat} (h:k<l.length):l.getD k 0∈l:=by
 rw [Ea,D8 h]
 exact EA h
noncomputable def StB (s o:List Int) (d:Nat) (l:List Int):Prop:=d<o.length∧l.length=s.length
noncomputable abbrev bd:Stmt:=top 23
theorem bc:ar ["_law_town_here", "_law_standing_here", "_law_found", "_law_clocks", "_law_due", "_law_rows_here", "_law_clock", "_law_row"] ["_law_town_here", "_law_standing_here"] (ad bd):=⟨rfl,rfl,rfl,by decide +kernel,rfl,by decide +kernel,by decide +kernel⟩
noncomputable def vt:DSp:=fun ss R=>∃ (s o l:List Int) (d:Nat),ss=[.fr (.tuple [.list (li s),.list (li o)]),.fr (.tuple [.int d,.tuple (li l)])]∧TB s o∧StB s o d l ∧
 ∀ rr:List (List Int),rr.Perm (bZ s.length (o.getD d 0) l)→R (.ow (lr rr)) [.un,.un]
theorem ly {f:Addr}{fd:FuncData} (F:Fun K "_law_rows" "_law_rows" bd f fd):bu K fd ["_law_town_here", "_law_standing_here"] []:=F.binds (ps:=["_law_town_here", "_law_standing_here"]) fun _ _ _ _ _ _ us hl=>us2 (Q:=fun us=>bindArgs _ ⟨us,[]⟩=pure (List.zip _ us)) hl fun _ _=>rfl
theorem ki {f:Addr}{fd:FuncData} (F:Fun K "_law_rows" "_law_rows" bd f fd) (B:Bn mg):cG P w K mg base CX0 1 f fd ["_law_town_here", "_law_standing_here"] (spD K vt):=by
 refine okD (k:=0) F bc (fun ss R h=>?_) (by decide) (fun cdv A outer s H E hr=>⟨_,(aj (aV (i:=2) bc.nd rfl (Or.inl rfl) (cI ac))
   (aj (bB (i:=3)  bc.nd rfl rfl (N':=["_law_clock"]) (ix:=[none]) rfl (bP (N:=["_law_town_here", "_law_standing_here", "_law_found", "_law_clocks", "_law_due", "_law_rows_here", "_law_clock", "_law_row"]) (sc0:=ad bd) rfl rfl (by decide +kernel)) (df rfl B.range (aa (fX (im (K:=K) rfl) il rfl B.len PySem.boot_len (aa (aR (ag (K:=K) rfl) mIx (qv 0) af (fun _ _=>rfl)) ac)) ac)) (fun _ _ _ _=>(al (i:=0) (show List.Nodup (["_law_clock"]:List Str) by decide +kernel) rfl (Or.inl rfl))) (fun _ _ _ _=>bo) (fun _ _ _ _=>(qf 0)))
   (aj (bB (i:=4)  bc.nd rfl rfl (N':=["_law_clock", "_law_standing_here"]) (ix:=[none,some 1]) rfl (bP (N:=["_law_town_here", "_law_standing_here", "_law_found", "_law_clocks", "_law_due", "_law_rows_here", "_law_clock", "_law_row"]) (sc0:=ad bd) rfl rfl (by decide +kernel)) (aD (K:=K) rfl (qf 3)) (fun _ _ _ _=>(al (i:=0) (show List.Nodup (["_law_clock", "_law_standing_here"]:List Str) by decide +kernel) rfl (Or.inl rfl))) (fun _ _ _ _=>(cQ (aF lR y7 (aR (ag (K:=K) rfl) mIx (aR (ag (K:=K) rfl) mIx (qv 1) af (fun _ _=>rfl)) (qv 0) (fun _ _=>rfl)) af (aA _)))) (fun _ _ _ _=>(qf 0)))
   (aj (aV (i:=5) bc.nd rfl (Or.inl rfl) (cI (aa (cI ac) ac)))
   (aj (eK PassesOwn.never rfl (aD (K:=K) rfl (qf 3)) (al (i:=6) bc.nd rfl (Or.inr rfl)) (ai (aV (i:=5) bc.nd rfl (Or.inl rfl) (qo (gM (K:=K) rfl) Am (qv 5) (cf (N':=["_law_row", "_law_clock"]) (ix:=[none,some 6]) rfl (bP (N:=["_law_town_here", "_law_standing_here", "_law_found", "_law_clocks", "_law_due", "_law_rows_here", "_law_clock", "_law_row"]) (sc0:=ad bd) rfl rfl (by decide +kernel)) (aD (K:=K) rfl (qf 5)) (fun _ _ _ _=>(al (i:=0) (show List.Nodup (["_law_row", "_law_clock"]:List Str) by decide +kernel) rfl (Or.inl rfl))) (fun _ _ _ _=>bo) (fun _ _ _ _=>(qo (gM (K:=K) rfl) Am (qv 0) (cI (aa (qf 1) ac)))))))))
   (aj (eK PassesOwn.never rfl (aD (K:=K) rfl (qf 5)) (al (i:=7) bc.nd rfl (Or.inr rfl)) (ai (fW (PW.pt (vM (aF tZ mB (fX (im (K:=K) rfl) il rfl B.len PySem.boot_len (aa (qv 7) ac)) (aR (ag (K:=K) rfl) mIx (aR (ag (K:=K) rfl) mIx (qv 0) af (fun _ _=>rfl)) (aR (ag (K:=K) rfl) mIx (qv 1) af (fun _ _=>rfl)) (fun _ _=>rfl)) (aA _)) (qg (aF (za (K:=K) rfl hr.units) mEq (cf (N':=["_law_clock", "_law_row"]) (ix:=[none,some 7]) rfl (bP (N:=["_law_town_here", "_law_standing_here", "_law_found", "_law_clocks", "_law_due", "_law_rows_here", "_law_clock", "_law_row"]) (sc0:=ad bd) rfl rfl (by decide +kernel)) (aD (K:=K) rfl (qf 4)) (fun _ _ _ _=>(al (i:=0) (show List.Nodup (["_law_clock", "_law_row"]:List Str) by decide +kernel) rfl (Or.inl rfl))) (fun _ _ _ _=>(cQ (aF (AA (K:=K) rfl) Al (qv 0) (qv 1) (by with_unfolding_all rfl)))) (fun _ _ _ _=>(qf 0))) (cI ac) (aA _))))) (ai (dD (oN 2 (K:=K) rfl rfl (bW (aa (fX (im (K:=K) rfl) il rfl B.len PySem.boot_len (aa (qv 7) ac)) (aa (qf 7) ac)))))) bw)))
   (ai (aU (cf (N':=["_law_many", "_law_row"]) (ix:=[none,none]) rfl (bP (N:=["_law_town_here", "_law_standing_here", "_law_found", "_law_clocks", "_law_due", "_law_rows_here", "_law_clock", "_law_row"]) (sc0:=ad bd) rfl rfl (by decide +kernel)) (aD (K:=K) rfl (zF (K:=K) rfl (vL hr) rfl B.sorted (aa (qv 2) ac))) (fun _ _ _ _=>(gE (K:=K) (n:=2) rfl rfl (be (al (i:=0) (show List.Nodup (["_law_many", "_law_row"]:List Str) by decide +kernel) rfl (Or.inl rfl)) (be (al (i:=1) (show List.Nodup (["_law_many", "_law_row"]:List Str) by decide +kernel) rfl (Or.inl rfl)) dY)))) (fun _ _ _ _=>bo) (fun _ _ _ _=>(qf 1))))))))))),fun ss R h=>?_⟩)
 ·obtain ⟨s,o,l,d,rfl,_⟩:=h
  rfl
 obtain ⟨s,o,l,d,rfl,tb,sb,q⟩:=h
 obtain ⟨t1,t2,t3,t4,t5,t6,t7⟩:=tb
 obtain ⟨s1,s2⟩:=sb
 walk_at "dx"
 refine ⟨Ez _,?_⟩
 walk_at "dx"
 rw [D7]
 refine ⟨by omega,by omega,cj (fun i=>.int (i:Int)) (by rw[ao];omega) (fun i hi Q hQ=>?_) ?_⟩
 ·rw [bj]
  walk_at "dx"
  exact hQ
 rw [ao,EW,uh]
 walk_at "dx"
 refine bE (fun i=>decide (l.getD i 0=1)) (fun i=>.int (i:Int)) (by simp;omega) (fun i hi Q Q' h1 h2=>?_) ?_
 ·rw [D7,D7,EE] at hi
  rw [cV]
  have ei:(List.map (Nat.cast:Nat→Int) (List.range s.length)).getD i 0=(i:Int):=by simp[Ea,hi]
  rw [ei]
  walk_at "dx"
  refine ⟨_,b7 (k:=i) (by omega),?_⟩
  walk_at "dx"
  exact dW (fun h=>h1 (by simpa using h)) (fun h=>h2 (by simpa using h))
 walk_at "dx"
 have ed:List.map (fun (i:Nat)=>PyData.int (i:Int)) (List.filter (fun (i:Nat)=>decide (l.getD i 0=1)) (List.range (li (List.map (Nat.cast:Nat→Int) (List.range s.length))).length))=li (cW l s.length):=by
  rw [D7,D7,EE]
  unfold cW
  show _=List.map _ (List.map _ _)
  rw [EI]
  rfl
 rw [ed]
 refine ⟨Ez _,Eg (by decide) ae,?_⟩
 walk_at "dx"
 refine bp (fun i env=>∃ cv:Sl,env=[.fr (.tuple [.list (li s),.list (li o)]),.fr (.tuple [.int d,.tuple (li l)]),.ow [],.fr (.list (li (List.map (Nat.cast:Nat→Int) (List.range s.length)))),.ow (li (cW l s.length)),.ow (lr (cJ i)),cv,.un]) ⟨_,rfl⟩ ?_ ?_
 ·rintro i env hi ⟨cv,rfl⟩
  rw [D7,D7,EE] at hi
  rw [cV]
  have ei:(List.map (Nat.cast:Nat→Int) (List.range s.length)).getD i 0=(i:Int):=by simp[Ea,hi]
  rw [ei]
  have hz:(cJ i).length≤32:=by
   rw [eD]
   have:2 ^ i≤2 ^ 5:=FG (by decide) (by omega)
   omega
  walk_at "dx"
  refine cj (fun j=>.list (li ((cJ i).getD j []++[(i:Int)]))) (by rw[D7];omega) (fun j hj Q hQ=>?_) ?_
  ·rw [D7] at hj
   rw [iN]
   have hr:=(bv i _ (eV (l:=cJ i) hj)).1
   walk_at "dx"
   refine ⟨Eg (by decide) ae,by rw[D7];exact Eg (by omega) ae,?_⟩
   rw [jk]
   exact hQ
  ·rw [D7,eZ (cJ i) [] (fun r=>PyData.list (li (r++[(i:Int)])))]
   have e:lr (cJ i)++(cJ i).map (fun r=>PyData.list (li (r++[(i:Int)])))=lr (cJ (i+1)):=by
    show _=List.map _ (cJ i++_)
    rw [EH,EI]
    rfl
   walk_at "dx"
   rw [e]
   refine ⟨?_,rfl⟩
   rw [D7,D7]
   exact Eg (by omega) ae
 rintro env ⟨cv,rfl⟩
 rw [D7,D7,EE]
 walk_at "dx"
 refine bp (fun i env=>∃ rv dv:Sl,env=[.fr (.tuple [.list (li s),.list (li o)]),.fr (.tuple [.int d,.tuple (li l)]),.ow ((((cJ s.length).take i).filter (bY (o.getD d 0) (cW l s.length))).map Ax),.fr (.list (li (List.map (Nat.cast:Nat→Int) (List.range s.length)))),dv,.fr (.list (lr (cJ s.length))),cv,rv]∧(dv=.ow (li (cW l s.length))∨dv=.fr (.list (li (cW l s.length))))) ⟨_,_,rfl,.inl rfl⟩ ?_ ?_
 ·rintro i env hi ⟨rv,dv,rfl,hdv⟩
  rw [D7] at hi
  rw [iN]
  have hm:=eV (l:=cJ s.length) hi
  obtain ⟨r1,r2,r3⟩:=bv _ _ hm
  have et:((cJ s.length).take (i+1)).filter (bY (o.getD d 0) (cW l s.length))=((cJ s.length).take i).filter (bY (o.getD d 0) (cW l s.length))++(if bY (o.getD d 0) (cW l s.length) ((cJ s.length).getD i [])=true then [(cJ s.length).getD i []] else []):=by
   have eg:(cJ s.length).getD i []=(cJ s.length)[i]:=by simp[Ea,hi]
   rw [FE,D8 hi,eg,Fk]
   show _++List.filter _ [_]=_
   generalize o.getD d 0=oh
   cases hg:bY oh (cW l s.length) (cJ s.length)[i] <;> simp[hg]
  rw [et]
  have hz:(((cJ s.length).take i).filter (bY (o.getD d 0) (cW l s.length))).length≤64:=by
   refine Eg (EU _ _) ?_
   rw [EV,eD]
   have:2 ^ s.length≤2 ^ 6:=FG (by decide) t2
   omega
  generalize ((cJ s.length).take i).filter (bY (o.getD d 0) (cW l s.length))=fs at *
  generalize (cJ s.length).getD i []=r at *
  have hdz:(cW l s.length).length≤6:=by
   unfold cW
   rw [D7]
   refine Eg (EU _ _) ?_
   rw [EE]
   exact t2
  rcases hdv with rfl|rfl
  all_goals
   walk_at "dx"
   refine ⟨_,b7 s1,?_⟩
   walk_at "dx"
   rw [D7]
   refine dW (fun hlen=>?_) (fun hlen=>?_)
   rotate_left
   ·have eg:bY (o.getD d 0) (cW l s.length) r=false:=by
     unfold bY
     rw [decide_eq_false hlen,Bool.false_and]
    rw [eg,if_neg (by decide),EK]
    exact ⟨rfl,by simp⟩
   refine bE (fun j=>decide ((cW l s.length).getD j 0 ∉ r)) (fun j=>.int ((cW l s.length).getD j 0)) (by rw[D7];omega) (fun j hj Q Q' h1 h2=>?_) ?_
   ·rw [cV]
    walk_at "dx"
    generalize (cW l s.length).getD j 0=c at *
    exact dW (fun h=>h1 (decide_eq_true h)) (fun h=>h2 (decide_eq_false h))
   rw [D7,de (cW l s.length) 0 (fun c=>decide (c ∉ r)) (fun c=>PyData.int c)]
   walk_at "dx"
   rw [show PyData.list []=PyData.list (li []) from rfl,kR]
   refine ⟨Ez _,(Sh.ints 0 _).shp (by decide),(Sh.ints 0 []).shp (by decide),?_⟩
   have eg:bY (o.getD d 0) (cW l s.length) r=decide (((cW l s.length).filter fun c=>decide (c ∉ r))=[]):=by
    unfold bY
    rw [decide_eq_true hlen,Bool.true_and]
   rw [eg]
   refine dW (fun hm=>?_) (fun hm=>?_)
   ·rw [if_pos hm,EH]
    refine ⟨Eg (by decide) ae,by rw[D7];exact Ep (by omega) ae,?_⟩
    refine ⟨?_,by simp⟩
    rw [D7]
    rfl
   ·rw [if_neg hm,EK]
    exact ⟨rfl,by simp⟩
 ·rintro env ⟨rv,dv,rfl,_⟩
  rw [D7,EY (Ek _)]
  walk_at "dx"
  have hs:∀ r∈(cJ s.length).filter (bY (o.getD d 0) (cW l s.length)),r.length≤1000:=fun r hr=>by
   have:=(bv _ r (EC.mp hr).1).1
   omega
  have hes:=qA (List.map Ax ((cJ s.length).filter (bY (o.getD d 0) (cW l s.length))))
  generalize ca (ax _) _ _=es at hes ⊢
  refine ⟨fun x hx=>?_,?_,?_⟩
  ·obtain ⟨r,_,rfl⟩:=Em.mp hx
   exact ⟨r.length,r,rfl⟩
  ·rw [D7]
   refine fm t2 (t7.imp (fun h=>h) fun h=>by have:=h _ (a0 s1);omega)
  ·obtain ⟨rr,hp,rfl⟩:=qD hes _ rfl
   have hl:=hp.length_eq
   have hf:((cJ s.length).filter (bY (o.getD d 0) (cW l s.length))).length<64:=fm t2 (t7.imp (fun h=>h) fun h=>by have:=h _ (a0 s1);omega)
   refine cj (fun j=>.list (li (rr.getD j []))) (by rw[D7];omega) (fun j hj Q hQ=>?_) ?_
   ·rw [D7] at hj
    have ek:(List.map Ax rr)[j]'(by simpa using hj)=Ax (rr.getD j []):=by simp[Ea,hj]
    rw [ek]
    unfold Ax
    walk_at "dx"
    exact hQ
   ·rw [D7,eZ rr [] (fun r=>PyData.list (li r))]
    walk_at "dx"
    exact q rr hp
noncomputable def jL (s l r:List Int) (n:Nat):List Int:=(List.range n).map fun (i:Nat)=>if (i:Int)∈r then s.getD i 0 else l.getD i 0 - 1
theorem gm (s l r:List Int) (n:Nat):(jL s l r n).length=n:=by simp[jL]
theorem sP (s l r:List Int) (n:Nat):jL s l r (n+1)=jL s l r n++[if (n:Int)∈r then s.getD n 0 else l.getD n 0 - 1]:=by
 unfold jL
 rw [FM,EH]
 rfl
noncomputable abbrev cN:Stmt:=top 24
theorem bL:ar ["_law_town_here", "_law_standing_here", "_law_row", "_law_lefts", "_law_clock"] ["_law_town_here", "_law_standing_here", "_law_row"] (ad cN):=⟨rfl,rfl,rfl,by decide +kernel,rfl,by decide +kernel,by decide +kernel⟩
noncomputable def pY:DSp:=fun ss R=>∃ (s o l r:List Int) (d:Nat),ss=[.fr (.tuple [.list (li s),.list (li o)]),.fr (.tuple [.int d,.tuple (li l)]),.fr (.list (li r))]∧s.length≤1000∧1≤o.length∧l.length=s.length∧R (.fr (.tuple [.int (((d+1) % o.length:Nat):Int),.tuple (li (jL s l r s.length))])) [.un,.un,.un]
theorem jI {f:Addr}{fd:FuncData} (F:Fun K "_law_after" "_law_after" cN f fd):bu K fd ["_law_town_here", "_law_standing_here", "_law_row"] []:=F.binds (ps:=["_law_town_here", "_law_standing_here", "_law_row"]) fun _ _ _ _ _ _ us hl=>us3 (Q:=fun us=>bindArgs _ ⟨us,[]⟩=pure (List.zip _ us)) hl fun _ _ _=>rfl
theorem jg {f:Addr}{fd:FuncData} (F:Fun K "_law_after" "_law_after" cN f fd) (B:Bn mg):cG P w K mg base CX0 1 f fd ["_law_town_here", "_law_standing_here", "_law_row"] (spD K pY):=by
 refine okD (k:=0) F bL (fun ss R h=>?_) (by decide) (fun cdv A outer s H E hr=>⟨_,(bz (aV (i:=3) bL.nd rfl (Or.inl rfl) (bW ac))
   (bz (eK PassesOwn.never rfl (df rfl B.range (aa (fX (im (K:=K) rfl) il rfl B.len PySem.boot_len (aa (aR (ag (K:=K) rfl) mIx (qv 0) af (fun _ _=>rfl)) ac)) ac)) (al (i:=4) bL.nd rfl (Or.inl rfl)) (ai (fW (aF (kIn (K:=K) rfl) mIn (qv 4) (qv 2) (by with_unfolding_all rfl)) (ai (aV (i:=3) bL.nd rfl (Or.inl rfl) (j0 (K:=K) rfl (qv 3) (bW (aa (aR (ag (K:=K) rfl) mIx (aR (ag (K:=K) rfl) mIx (qv 0) af (fun _ _=>rfl)) (qv 4) (fun _ _=>rfl)) ac))))) (ai (aV (i:=3) bL.nd rfl (Or.inl rfl) (j0 (K:=K) rfl (qv 3) (bW (aa (bO qN mI (aR (ag (K:=K) rfl) mIx (aR (ag (K:=K) rfl) mIx (qv 1) af (fun _ _=>rfl)) (qv 4) (fun _ _=>rfl)) af) ac))))))))
   (ai (aU (bW (aa (bO bC mIC (bO bX mI (aR (ag (K:=K) rfl) mIx (qv 1) af (fun _ _=>rfl)) af) (fX (im (K:=K) rfl) il rfl B.len PySem.boot_len (aa (aR (ag (K:=K) rfl) mIx (qv 0) af (fun _ _=>rfl)) ac))) (aa (qf 3) ac))))))),fun ss R h=>?_⟩)
 ·obtain ⟨s,o,l,r,d,rfl,_⟩:=h
  rfl
 obtain ⟨s,o,l,r,d,rfl,h1,h2,h3,q⟩:=h
 walk_at "dx"
 rw [D7]
 refine ⟨Ez _,by omega,by omega,bp (fun i env=>∃ cv:Sl,env=[.fr (.tuple [.list (li s),.list (li o)]),.fr (.tuple [.int d,.tuple (li l)]),.fr (.list (li r)),.fr (.tuple (li (jL s l r i))),cv]) ⟨_,rfl⟩ ?_ ?_⟩
 ·rintro i env hi ⟨cv,rfl⟩
  rw [ao,EW] at hi
  rw [bj]
  walk_at "dx"
  have hz:(li (jL s l r i)).length+1≤sizeLine:=by
   rw [D7,gm]
   exact Eg (by omega) ae
  rw [sP]
  refine dW (fun hm=>?_) (fun hm=>?_)
  ·refine ⟨_,b7 hi,Eg (by decide) ae,hz,?_⟩
   rw [if_pos hm]
   exact jk _ _
  ·refine ⟨_,b7 (by omega),_,rfl,Eg (by decide) ae,hz,?_⟩
   rw [if_neg hm]
   exact jk _ _
 ·rintro env ⟨cv,rfl⟩
  rw [ao,EW]
  walk_at "dx"
  rw [D7]
  exact ⟨by omega,Eg (by decide) ae,q⟩
noncomputable abbrev dJ:Stmt:=top 2
theorem lH:ar ["town", "standing"] ["town", "standing"] (ad dJ):=⟨rfl,rfl,rfl,by decide +kernel,rfl,by decide +kernel,by decide +kernel⟩
noncomputable def jX:DSp:=fun ss R=>∃ (s o l:List Int) (d:Nat),ss=[.fr (.tuple [.list (li s),.list (li o)]),.fr (.tuple [.int d,.tuple (li l)])]∧d<o.length∧R (.fr (.int (o.getD d 0))) [.un,.un]
theorem mw {f:Addr}{fd:FuncData} (F:Fun K "hands_on" "hands_on" dJ f fd):bu K fd ["town", "standing"] []:=F.binds (ps:=["town", "standing"]) fun _ _ _ _ _ _ us hl=>us2 (Q:=fun us=>bindArgs _ ⟨us,[]⟩=pure (List.zip _ us)) hl fun _ _=>rfl
theorem lU {f:Addr}{fd:FuncData} (F:Fun K "hands_on" "hands_on" dJ f fd) (B:Bn mg):cG P w K mg base CX0 1 f fd ["town", "standing"] (spD K jX):=by
 refine okD (k:=0) F lH (fun ss R h=>?_) (by decide) (fun cdv A outer s H E hr=>⟨_,(ai (aU (aR (ag (K:=K) rfl) mIx (aR (ag (K:=K) rfl) mIx (qv 0) af (fun _ _=>rfl)) (aR (ag (K:=K) rfl) mIx (qv 1) af (fun _ _=>rfl)) (fun _ _=>rfl)))),fun ss R h=>?_⟩)
 ·obtain ⟨s,o,l,d,rfl,_⟩:=h
  rfl
 obtain ⟨s,o,l,d,rfl,hd,q⟩:=h
 walk_at "dd"
 exact ⟨_,b7 hd,q⟩
noncomputable abbrev eJ:Stmt:=top 4
theorem gy:ar ["town", "standing", "row", "spans", "lefts"] ["town", "standing", "row"] (ad eJ):=⟨rfl,rfl,rfl,by decide +kernel,rfl,by decide +kernel,by decide +kernel⟩
noncomputable def gb:DSp:=fun ss R=>∃ (s o l r:List Int) (d:Nat),ss=[.fr (.tuple [.list (li s),.list (li o)]),.fr (.tuple [.int d,.tuple (li l)]),.fr (.list (li r))]∧1≤o.length∧l.length=s.length∧s.length≤1000∧R (.fr (.tuple [.int (((d+1) % o.length:Nat):Int),.tuple (li (jL s l r s.length))])) [.un,.un,.un]
theorem sI {f:Addr}{fd:FuncData} (F:Fun K "behind" "behind" eJ f fd):bu K fd ["town", "standing", "row"] []:=F.binds (ps:=["town", "standing", "row"]) fun _ _ _ _ _ _ us hl=>us3 (Q:=fun us=>bindArgs _ ⟨us,[]⟩=pure (List.zip _ us)) hl fun _ _ _=>rfl
theorem qR {f:Addr}{fd:FuncData} (F:Fun K "behind" "behind" eJ f fd) (B:Bn mg):cG P w K mg base CX0 1 f fd ["town", "standing", "row"] (spD K gb):=by
 refine okD (k:=0) F gy (fun ss R h=>?_) (by decide) (fun cdv A outer s H E hr=>⟨_,(aj (aV (i:=3) gy.nd rfl (Or.inr rfl) (aR (ag (K:=K) rfl) mIx (qv 0) af (fun _ _=>rfl)))
   (aj (bB (i:=4)  gy.nd rfl rfl (N':=["clock", "left", "row", "spans"]) (ix:=[none,none,some 2,some 3]) rfl (bP (N:=["town", "standing", "row", "spans", "lefts"]) (sc0:=ad eJ) rfl rfl (by decide +kernel)) (ja true (K:=K) rfl rfl B.enumerate (aa (aR (ag (K:=K) rfl) mIx (qv 1) af (fun _ _=>rfl)) ac)) (fun _ _ _ _=>(gE (K:=K) (n:=2) rfl rfl (be (al (i:=0) (show List.Nodup (["clock", "left", "row", "spans"]:List Str) by decide +kernel) rfl (Or.inl rfl)) (be (al (i:=1) (show List.Nodup (["clock", "left", "row", "spans"]:List Str) by decide +kernel) rfl (Or.inl rfl)) dY)))) (fun _ _ _ _=>bo) (fun _ _ _ _=>(qq (aF (kIn (K:=K) rfl) mIn (qv 0) (qv 2) (by with_unfolding_all rfl)) (aR (ag (K:=K) rfl) mIx (qv 3) (qv 0) (fun _ _=>rfl)) (bO qN mI (qv 1) af))))
   (ai (aU (bW (aa (bO bC mIC (bO bX mI (aR (ag (K:=K) rfl) mIx (qv 1) af (fun _ _=>rfl)) af) (fX (im (K:=K) rfl) il rfl B.len PySem.boot_len (aa (aR (ag (K:=K) rfl) mIx (qv 0) af (fun _ _=>rfl)) ac))) (aa (qm (K:=K) rfl rfl B.tuple (aa (qv 4) ac)) ac))))))),fun ss R h=>?_⟩)
 ·obtain ⟨s,o,l,r,d,rfl,_⟩:=h
  rfl
 obtain ⟨s,o,l,r,d,rfl,ho,hl,hs,q⟩:=h
 walk_at "dx"
 refine cj (fun i=>.int (if (i:Int)∈r then s.getD i 0 else l.getD i 0 - 1)) (by rw[a8,D7];omega) (fun i hi Q hQ=>?_) ?_
 ·rw [a8,D7] at hi
  rw [dF,cV]
  walk_at "dx"
  refine dW (fun h=>?_) (fun h=>?_)
  ·rw [if_pos h] at hQ
   exact ⟨_,b7 (by omega),hQ⟩
  ·rw [if_neg h] at hQ
   exact hQ
 have e:(List.range (jt (li l)).length).map (fun i:Nat=>PyData.int (if (i:Int)∈r then s.getD i 0 else l.getD i 0 - 1))=li (jL s l r s.length):=by
  rw [a8,D7,hl]
  show _=List.map _ (List.map _ _)
  rw [EI]
  rfl
 rw [e]
 walk_at "dx"
 rw [D7]
 exact ⟨by omega,Eg (by decide) ae,q⟩
noncomputable abbrev i8:Stmt:=top 1
theorem tK:ar ["town"] ["town"] (ad i8):=⟨rfl,rfl,rfl,by decide +kernel,rfl,by decide +kernel,by decide +kernel⟩
noncomputable def iZ:DSp:=fun ss R=>∃ (s o:List Int),ss=[.fr (.tuple [.list (li s),.list (li o)])]∧R (.fr (.tuple [.int 0,.tuple (li s)])) [.un]
theorem vd {f:Addr}{fd:FuncData} (F:Fun K "begun" "begun" i8 f fd):bu K fd ["town"] []:=F.binds (ps:=["town"]) fun _ _ _ _ _ _ us hl=>us1 (Q:=fun us=>bindArgs _ ⟨us,[]⟩=pure (List.zip _ us)) hl fun _=>rfl
theorem t8 {f:Addr}{fd:FuncData} (F:Fun K "begun" "begun" i8 f fd) (B:Bn mg):cG P w K mg base CX0 1 f fd ["town"] (spD K iZ):=by
 refine okD (k:=0) F tK (fun ss R h=>?_) (by decide) (fun cdv A outer s H E hr=>⟨_,(ai (aU (bW (aa af (aa (qm (K:=K) rfl rfl B.tuple (aa (aR (ag (K:=K) rfl) mIx (qv 0) af (fun _ _=>rfl)) ac)) ac))))),fun ss R h=>?_⟩)
 ·obtain ⟨s,o,rfl,_⟩:=h
  rfl
 obtain ⟨s,o,rfl,q⟩:=h
 walk_at "dd"
 exact ⟨Eg (by decide) ae,q⟩
section
variable {κ β:Type} [DecidableEq κ]
theorem uH (a b:List (κ×β)) (k:κ):bG (a++b) k=match bG a k with|some v=>some v|none=>bG b k:=by
 induction a with
 | nil=>rfl
 | cons p a ih =>
  rw [List.cons_append,bD,bD,ih]
  by_cases h:p.1=k <;> simp[h]
theorem uE (kvs:List (κ×β)) (k:κ) (v:β) (x:κ):bG (kvs.map fun p=>if p.1=k then (p.1,v) else p) x=if x=k then (bG kvs x).map fun _=>v else bG kvs x:=by
 induction kvs with
 | nil=>simp[bG]
 | cons p kvs ih =>
  rw [Eu,bD,bD,ih]
  by_cases h1:p.1=k
  ·by_cases h2:x=k
   ·simp [h1,h2]
   ·have:¬k=x:=fun z=>h2 z.symm
    simp [h1,h2,this]
  ·by_cases h2:p.1=x
   ·subst h2;simp[h1]
   ·simp [h1,h2]
theorem eU (kvs:List (κ×β)) (k:κ) (v:β) (x:κ):bG (fU kvs k v) x=if x=k then some v else bG kvs x:=by
 unfold fU
 cases e:bG kvs k with
 | some w =>
  rw [if_pos (show (some w).isSome=true from rfl),uE]
  by_cases h:x=k
  ·subst h;simp[e]
  ·simp [h]
 | none =>
  rw [if_neg (by simp),uH,bD,uF]
  by_cases h:x=k
  ·subst h;simp[e]
  ·have:¬k=x:=fun z=>h z.symm
   simp only [this,h,if_false]
   cases bG kvs x <;> rfl
end
theorem cB {α:Type} [DecidableEq α]:∀ {l U:List α},l.Nodup→(∀ x∈l,x∈U)→l.length≤U.length
 | [],_,_,_=>Ez _
 | x::l,U,hn,h=>by
  obtain ⟨h1,h2⟩:=EO.mp hn
  have hx:=h x (by simp)
  have:=cB (l:=l) (U:=U.erase x) h2 fun y hy=>(List.mem_erase_of_ne (fun (z:y=x)=>h1 (by rw[←z];exact hy))).mpr (h y (by simp[hy]))
  rw [List.length_erase_of_mem hx] at this
  have hp:0<U.length:=List.length_pos_of_mem hx
  simp;omega
section
variable {σ ρ:Type} [DecidableEq σ] (Full:σ→List ρ→Prop) (nxt:σ→ρ→σ) (start₀:σ)
structure hJ (path:List σ) (ways:List (List ρ)) (places:σ→Option (Option Nat)) (lost:List σ):Prop where
 len:ways.length=path.length
 hd : path.head? = some start₀∨path=[]∧start₀∈lost
 way:∀ (i:Nat) x w,path[i]? = some x→ways[i]? = some w→∃ fr pre,Full x fr∧fr=pre++w∧∀ r∈pre,nxt x r∈lost
 lnk:∀ (i:Nat) x y w,path[i]? = some x→path[i+1]? = some y→ways[i]? = some w→∃ r t,w=r::t∧nxt x r=y
 on : ∀ x (i:Nat),places x=some (some i)↔path[i]? = some x
 off:∀ x,places x=some none↔x∈lost
 down:∀ (j:Nat) x,lost[j]? = some x→∃ fr,Full x fr∧∀ r∈fr,∃ i:Nat,i<j∧lost[i]? = some (nxt x r)
 nd : (path++lost).Nodup
variable {Full nxt start₀}{path:List σ}{ways:List (List ρ)}{places:σ→Option (Option Nat)}{lost:List σ}
theorem hJ.init {fr:List ρ} (h:Full start₀ fr) (hp:∀ x,places x=if x=start₀ then some (some 0) else none):hJ Full nxt start₀ [start₀] [fr] places []:=by
 refine ⟨rfl,.inl rfl,fun i x w h1 h2=>?_,fun i x y w h1 h2=>?_,fun x i=>?_,fun x=>?_,fun j x h1=>by simp at h1,by simp⟩
 ·cases i with
  | zero=>simp at h1 h2;subst h1 h2;exact⟨fr,[],h,rfl,by simp⟩
  | succ i=>simp at h1
 ·simp at h2
 ·rw [hp]
  by_cases e:x=start₀
  ·subst e
   cases i <;> simp
  ·rw [if_neg e]
   cases i <;> simp[Ne.symm e]
 ·rw [hp]
  split <;> simp
theorem hJ.lose {x:σ}{places':σ→Option (Option Nat)} (h:hJ Full nxt start₀ (path++[x]) (ways++[[]]) places lost) (hp:∀ y,places' y=if y=x then some none else places y) :
  hJ Full nxt start₀ path ways places' (lost++[x]):=by
 have hl:ways.length=path.length:=by have:=h.len;simpa using this
 have nd:=h.nd
 have nd2:(path++(lost++[x])).Nodup:=by
  rw [Ff] at nd
  exact (List.Perm.append_left path (List.perm_append_comm)).nodup_iff.mp nd
 have px:x ∉ path:=fun hx=>by
  have:=Ei.mp (Ei.mp nd).1
  exact this.2.2 x hx x (by simp) rfl
 refine ⟨hl,?_,fun i y w h1 h2=>?_,fun i y z w h1 h2 h3=>?_,fun y i=>?_,fun y=>?_,fun j y h1=>?_,nd2⟩
 ·rcases h.hd with e|⟨e,_⟩
  ·cases path with
   | nil =>
    simp at e
    exact .inr ⟨rfl,by simp[e]⟩
   | cons a b=>exact .inl (by simpa using e)
  ·simp at e
 ·have hi:i<path.length:=(Ef.mp h1).1
  obtain ⟨fr,pre,a,b,c⟩:=h.way i y w (by rw[Es hi];exact h1) (by rw[Es (by omega)];exact h2)
  exact ⟨fr,pre,a,b,fun r hr=>Ec _ (c r hr)⟩
 ·have hi:i+1<path.length:=(Ef.mp h2).1
  exact h.lnk i y z w (by rw[Es (by omega)];exact h1) (by rw[Es hi];exact h2) (by rw[Es (by omega)];exact h3)
 ·rw [hp]
  by_cases e:y=x
  ·subst e
   rw [if_pos rfl]
   constructor
   ·intro z;cases z
   ·intro z;exact absurd (Fb z) px
  ·rw [if_neg e,h.on]
   by_cases hi:i<path.length
   ·rw [Es hi]
   ·rw [EX (by omega),List.getElem?_eq_none (show path.length≤i by omega)]
    constructor
    ·intro z
     cases hk:i - path.length with
     | zero=>rw[hk] at z;simp at z;exact absurd z.symm e
     | succ k=>rw[hk] at z;simp at z
    ·intro z;cases z
 ·rw [hp]
  by_cases e:y=x
  ·subst e;simp
  ·rw [if_neg e,h.off];simp[e]
 ·by_cases hj:j<lost.length
  ·rw [Es hj] at h1
   obtain ⟨fr,a,b⟩:=h.down j y h1
   refine ⟨fr,a,fun r hr=>?_⟩
   obtain ⟨i,i1,i2⟩:=b r hr
   exact ⟨i,i1,by rw[Es (by omega)];exact i2⟩
  ·have hjl:j<(lost++[x]).length:=(Ef.mp h1).1
   have hj2:j=lost.length:=by simp at hjl;omega
   subst hj2
   rw [EX (Ek _)] at h1
   simp at h1
   subst h1
   obtain ⟨fr,pre,a,b,c⟩:=h.way path.length x [] (by simp) (by rw[←hl];simp)
   rw [EK] at b
   subst b
   refine ⟨fr,a,fun r hr=>?_⟩
   obtain ⟨i,hi,e⟩:=Ex (c r hr)
   exact ⟨i,hi,by rw[Es hi,D8 hi,e]⟩
theorem hJ.go {x:σ}{r:ρ}{w fr:List ρ}{places':σ→Option (Option Nat)} (h:hJ Full nxt start₀ (path++[x]) (ways++[r::w]) places lost) (hn:places (nxt x r)=none) (hf:Full (nxt x r) fr)
  (hp:∀ y,places' y=if y=nxt x r then some (some (path.length+1)) else places y):hJ Full nxt start₀ (path++[x]++[nxt x r]) (ways++[r::w]++[fr]) places' lost:=by
 have hl:ways.length=path.length:=by have:=h.len;simpa using this
 have n1:nxt x r ∉ path++[x]:=fun z=>by
  obtain ⟨i,hi,e⟩:=Ex z
  have:=(h.on (nxt x r) i).mpr (by rw[D8 hi,e])
  rw [hn] at this;cases this
 have n2:nxt x r ∉ lost:=fun z=>by
  have:=(h.off (nxt x r)).mpr z
  rw [hn] at this;cases this
 have cut:∀ {α:Type} (l:List α) (a:α) (i:Nat) (y:α),(l++[a])[i]? = some y→(i<l.length∧l[i]? = some y)∨(i=l.length∧y=a):=fun l a i y e=>by
  by_cases hi:i<l.length
  ·rw [Es hi] at e;exact .inl ⟨hi,e⟩
  ·rw [EX (by omega)] at e
   cases hk:i - l.length with
   | zero=>rw[hk] at e;simp at e;exact .inr ⟨by omega,e.symm⟩
   | succ k=>rw[hk] at e;simp at e
 refine ⟨by simp[hl],?_,fun i y v h1 h2=>?_,fun i y z v h1 h2 h3=>?_,fun y i=>?_,fun y=>?_,h.down,?_⟩
 ·rcases h.hd with e|⟨e,_⟩
  ·exact .inl (by rw[List.head?_append,e];rfl)
  ·simp at e
 ·rcases cut _ _ _ _ h1 with ⟨a1,a2⟩|⟨a1,a2⟩
  ·rcases cut _ _ _ _ h2 with ⟨b1,b2⟩|⟨b1,b2⟩
   ·exact h.way i y v a2 b2
   ·simp at a1 b1;omega
  ·rcases cut _ _ _ _ h2 with ⟨b1,b2⟩|⟨b1,b2⟩
   ·simp at a1 b1;omega
   ·subst a2 b2;exact⟨_,[],hf,rfl,by simp⟩
 ·rcases cut _ _ _ _ h2 with ⟨a1,a2⟩|⟨a1,a2⟩
  ·rcases cut _ _ _ _ h1 with ⟨c1,c2⟩|⟨c1,c2⟩
   ·rcases cut _ _ _ _ h3 with ⟨b1,b2⟩|⟨b1,b2⟩
    ·exact h.lnk i y z v c2 a2 b2
    ·simp at a1 b1;omega
   ·simp at a1 c1;omega
  ·have hi:i=path.length:=by simp at a1;omega
   subst hi
   rcases cut _ _ _ _ h1 with ⟨c1,c2⟩|⟨c1,c2⟩
   ·rcases cut _ _ _ _ h3 with ⟨b1,b2⟩|⟨b1,b2⟩
    ·simp at c2
     rw [←hl] at b2
     simp at b2
     subst a2 c2 b2
     exact ⟨r,w,rfl,rfl⟩
    ·simp at b1;omega
   ·simp at c1
 ·rw [hp]
  by_cases e:y=nxt x r
  ·subst e
   rw [if_pos rfl]
   constructor
   ·intro z
    cases z
    rw [EX (by simp)]
    simp
   ·intro z
    rcases cut _ _ _ _ z with ⟨_,a2⟩|⟨a1,_⟩
    ·exact absurd (Fb a2) n1
    ·rw [a1];simp
  ·rw [if_neg e,h.on]
   constructor
   ·intro z
    rw [Es (Ef.mp z).1];exact z
   ·intro z
    rcases cut _ _ _ _ z with ⟨_,a2⟩|⟨_,a2⟩
    ·exact a2
    ·exact absurd a2 e
 ·rw [hp]
  by_cases e:y=nxt x r
  ·subst e
   rw [if_pos rfl]
   constructor
   ·intro z;cases z
   ·intro z;exact absurd z n2
  ·rw [if_neg e,h.off]
 ·have nd:=h.nd
  have:(nxt x r::(path++[x]++lost)).Nodup:=EO.mpr ⟨fun z=>(Ed.mp z).elim n1 n2,nd⟩
  refine List.Perm.nodup_iff ?_ |>.mp this
  rw [Ff (path++[x]) [nxt x r] lost]
  exact List.perm_middle.symm
theorem hJ.skip {x:σ}{r:ρ}{w:List ρ} (h:hJ Full nxt start₀ (path++[x]) (ways++[r::w]) places lost) (hn:places (nxt x r)=some none) :
  hJ Full nxt start₀ (path++[x]) (ways++[w]) places lost:=by
 have hl:ways.length=path.length:=by have:=h.len;simpa using this
 have hx:=(h.off _).mp hn
 refine ⟨by simpa using hl,h.hd,fun i y v h1 h2=>?_,fun i y z v h1 h2 h3=>?_,h.on,h.off,h.down,h.nd⟩
 ·by_cases hi:i<ways.length
  ·rw [Es hi] at h2
   exact h.way i y v h1 (by rw[Es hi];exact h2)
  ·have hi2:i<(path++[x]).length:=(Ef.mp h1).1
   have hi3:i=ways.length:=by simp at hi2;omega
   subst hi3
   simp at h2
   subst h2
   obtain ⟨fr,pre,a,b,c⟩:=h.way ways.length y (r::w) h1 (by simp)
   have e:y=x:=by
    rw [hl] at h1
    simpa using h1.symm
   subst e
   refine ⟨fr,pre++[r],a,by simp[b],fun q hq=>?_⟩
   rcases Ed.mp hq with hq|hq
   ·exact c q hq
   ·rw [Eb.mp hq];exact hx
 ·have hi:i+1<(path++[x]).length:=(Ef.mp h2).1
  have hi2:i<ways.length:=by simp at hi;omega
  rw [Es hi2] at h3
  exact h.lnk i y z v h1 h2 (by rw[Es hi2];exact h3)
noncomputable def ie (N C:Nat) (path lost:List σ) (ways:List (List ρ)):Nat:=(N - (path.length+lost.length))*C+(ways.map fun w=>w.length+1).sum
theorem hJ.few (h:hJ Full nxt start₀ path ways places lost) {U:List σ} (hU:∀ x∈path++lost,x∈U):path.length+lost.length≤U.length:=by
 have:=cB h.nd hU
 simpa using this
end
section
variable {σ ρ:Type} [DecidableEq σ] {Full:σ→List ρ→Prop}{nxt:σ→ρ→σ}{start₀:σ}{path:List σ}{ways:List (List ρ)}{places:σ→Option (Option Nat)}{lost:List σ}
theorem hJ.lt_lose {x:σ}{N C:Nat} (hl:(path++[x]).length+lost.length≤N):ie N C path (lost++[x]) ways<ie N C (path++[x]) lost (ways++[([]:List ρ)]):=by
 unfold ie
 have:path.length+(lost++[x]).length=(path++[x]).length+lost.length:=by simp;omega
 rw [this,EH,FO]
 simp
theorem hJ.lt_skip {x:σ}{r:ρ}{w:List ρ}{N C:Nat}:ie N C (path++[x]) lost (ways++[w])<ie N C (path++[x]) lost (ways++[r::w]):=by
 unfold ie
 rw [EH,FO,EH,FO]
 simp
theorem hJ.lt_go {x:σ}{fr:List ρ}{N C:Nat} (hl:path.length+1+lost.length≤N) (hf:fr.length+1<C):ie N C (path++[x]) lost (ways++[fr])<ie N C path lost ways:=by
 unfold ie
 rw [EH,FO]
 have e:N - (path.length+lost.length)=N - ((path++[x]).length+lost.length)+1:=by simp;omega
 rw [e,Nat.succ_mul]
 simp
 omega
end
theorem jJ {s l r:List Int}{n c:Nat} (h:c<n):(jL s l r n).getD c 0=if (c:Int)∈r then s.getD c 0 else l.getD c 0 - 1:=by
 unfold jL
 simp [Ea,h]
theorem iX:∀ (n:Nat) (r:List Int),r.Pairwise (·<·)→(∀ x∈r,0≤x∧x<n)→r∈cJ n
 | 0,r,_,h=>by
  cases r with
  | nil=>simp[cJ]
  | cons x l=>have:=h x (by simp);omega
 | n + 1,r,hp,h=>by
  show r∈cJ n++(cJ n).map (·++[(n:Int)])
  by_cases hn:(n:Int)∈r
  ·refine D9 _ ?_
   rcases Fs r with rfl|⟨l,x,rfl⟩
   ·cases hn
   ·rw [Ft] at *
    obtain ⟨p1,_,p3⟩:=List.pairwise_append.mp hp
    have hx:=h x (by simp)
    have hxn:x=(n:Int):=by
     rcases Ed.mp hn with z|z
     ·have:=p3 _ z x (by simp);omega
     ·exact (Eb.mp z).symm
    refine Em.mpr ⟨l,iX n l p1 fun y hy=>?_,by rw[hxn]⟩
    have a:=h y (by simp[hy])
    have b:=p3 y hy x (by simp)
    omega
  ·refine Ec _ (iX n r hp fun x hx=>?_)
   have a:=h x hx
   have b:x≠(n:Int):=fun z=>hn (z▸hx)
   omega
theorem l6 {n:Nat}{h:Int}{l r:List Int}:r∈bZ n h l↔r∈cJ n∧(r.length:Int)≤h∧∀ c,c<n→l.getD c 0=1→(c:Int)∈r:=by
 unfold bZ bY
 rw [EC,ER,decide_eq_true_eq,decide_eq_true_eq]
 have du:(List.filter (fun c=>decide (c ∉ r)) (cW l n))=[]↔∀ c,c<n→l.getD c 0=1→(c:Int)∈r:=by
  rw [Fq]
  constructor
  ·intro h c hc e
   have:=h (c:Int) (by
    unfold cW
    exact Em.mpr ⟨c,EC.mpr ⟨Ey.mpr hc,decide_eq_true e⟩,rfl⟩)
   simpa using this
  ·intro h x hx
   unfold cW at hx
   obtain ⟨c,hc,rfl⟩:=Em.mp hx
   obtain ⟨h1,h2⟩:=EC.mp hc
   have:=h c (Ey.mp h1) (of_decide_eq_true h2)
   simpa using this
 rw [du]
noncomputable abbrev Std:=Nat×List Int
noncomputable def bJ (s o:List Int) (x:Std) (r:List Int):Std:=((x.1+1) % o.length,jL s x.2 r s.length)
noncomputable def fB (s o:List Int) (x:Std) (fr:List (List Int)):Prop:=(∀ r∈fr,r∈bZ s.length (o.getD x.1 0) x.2)∧(∀ r∈bZ s.length (o.getD x.1 0) x.2,∃ r'∈fr,∀ c∈r,c∈r') ∧
 (∀ r∈fr,∀ r'∈bZ s.length (o.getD x.1 0) x.2,r'.length≤r.length)∧∀ r∈bZ s.length (o.getD x.1 0) x.2,(∀ r'∈bZ s.length (o.getD x.1 0) x.2,r'.length≤r.length)→r∈fr
theorem fB.same {s o:List Int}{x:Std}{fr fr':List (List Int)} (h:fB s o x fr) (h':fB s o x fr') {r:List Int} (hr:r∈fr):r∈fr':=h'.2.2.2 r (h.1 r hr) (h.2.2.1 r hr)
noncomputable def IsS (s o:List Int) (x:Std):Prop:=x.1<o.length∧x.2.length=s.length∧∀ c,c<s.length→1≤x.2.getD c 0∧x.2.getD c 0≤s.getD c 0
theorem qU {s o:List Int} (hs:∀ x∈s,1≤x) {x:Std}{r:List Int} (h:IsS s o x) (hr:r∈bZ s.length (o.getD x.1 0) x.2):IsS s o (bJ s o x r):=by
 obtain ⟨h1,h2,h3⟩:=h
 refine ⟨Nat.mod_lt _ (by omega),gm _ _ _ _,fun c hc=>?_⟩
 have hm:=(l6.mp hr).2.2
 show 1≤(jL s x.2 r s.length).getD c 0∧(jL s x.2 r s.length).getD c 0≤_
 rw [jJ hc]
 have h4:=h3 c hc
 have h5:=hs _ (a0 hc)
 split
 ·omega
 ·rename_i hn
  by_cases e:x.2.getD c 0=1
  ·exact absurd (hm c hc e) hn
  ·omega
noncomputable def vg:List Int→List (List Int)
 | []=>[[]]
 | x::s=>((List.range x.toNat).map fun (i:Nat)=>(vg s).map fun l=>((i:Int)+1)::l).flatten
theorem nC:∀ {s l:List Int},l.length=s.length→(∀ c,c<s.length→1≤l.getD c 0∧l.getD c 0≤s.getD c 0)→l∈vg s
 | [],l,h,_=>by
  rw [List.length_eq_zero_iff.mp h]
  simp [vg]
 | x::s,[],h,_=>by simp at h
 | x::s,y::l,h,hb=>by
  have h0:=hb 0 (by simp)
  have hy:1≤y∧y≤x:=by simpa using h0
  have ih:=nC (s:=s) (l:=l) (by simpa using h) fun c hc=>by simpa using hb (c+1) (by simpa using hc)
  unfold vg
  refine List.mem_flatten.mpr ⟨_,Em.mpr ⟨(y - 1).toNat,Ey.mpr (by omega),rfl⟩,Em.mpr ⟨l,ih,?_⟩⟩
  rw [show (((y - 1).toNat:Nat):Int)+1=y by omega]
noncomputable def j5:List Int→Nat
 | []=>1
 | x::s=>x.toNat*j5 s
theorem oC:∀ s:List Int,(vg s).length=j5 s
 | []=>rfl
 | x :: s=>by
  unfold vg j5
  rw [List.length_flatten,EI]
  have:(List.length ∘ fun (i:Nat)=>(vg s).map fun l=>((i:Int)+1)::l)=fun _=>j5 s:=by
   funext i
   simp [oC s]
  rw [this,List.map_const',List.sum_replicate_nat,EE]
noncomputable def jK (s o:List Int):List Std:=((List.range o.length).map fun d=>(vg s).map fun l=>(d,l)).flatten
theorem eO {s o:List Int}{x:Std} (h:IsS s o x):x∈jK s o :=
 List.mem_flatten.mpr ⟨_,Em.mpr ⟨x.1,Ey.mpr h.1,rfl⟩,Em.mpr ⟨x.2,nC h.2.1 h.2.2,rfl⟩⟩
theorem vf (s o:List Int):(jK s o).length=o.length*j5 s:=by
 unfold jK
 rw [List.length_flatten,EI]
 have:(List.length ∘ fun d=>(vg s).map fun l=>((d,l):Std))=fun _=>j5 s:=by
  funext i
  simp [oC s]
 rw [this,List.map_const',List.sum_replicate_nat,EE]
noncomputable def noB (s o:List Int) (x y:Std):Prop:=IsS s o y∧x.1=y.1∧x.2.length=s.length∧∀ c,c<s.length→y.2.getD c 0≤x.2.getD c 0
noncomputable def goS (s o:List Int) (y z:Std):Prop:=∃ r∈bZ s.length (o.getD y.1 0) y.2,z=bJ s o y r
theorem uM {s o l l' r:List Int}{d:Nat} (hb:∀ c,c<s.length→1≤l.getD c 0∧l.getD c 0≤l'.getD c 0) (hr:r∈bZ s.length (o.getD d 0) l):r∈bZ s.length (o.getD d 0) l':=by
 rw [l6] at hr ⊢
 refine ⟨hr.1,hr.2.1,fun c hc e=>hr.2.2 c hc ?_⟩
 have:=hb c hc
 omega
theorem uP {s o:List Int} (hs:∀ x∈s,1≤x) {x y z:Std}{fr:List (List Int)} (hf:fB s o x fr) (hl:noB s o x y) (hg:goS s o y z):∃ r∈fr,noB s o (bJ s o x r) z:=by
 obtain ⟨iy,e1,l1,hb⟩:=hl
 obtain ⟨r0,hr0,rfl⟩:=hg
 have hr1:r0∈bZ s.length (o.getD x.1 0) x.2:=by
  rw [e1]
  exact uM (fun c hc=>⟨(iy.2.2 c hc).1,hb c hc⟩) hr0
 obtain ⟨r,hr,hsub⟩:=hf.2.1 r0 hr1
 refine ⟨r,hr,qU hs iy hr0,?_,gm _ _ _ _,fun c hc=>?_⟩
 ·show (x.1+1) % o.length=(y.1+1) % o.length
  rw [e1]
 ·show (jL s y.2 r0 s.length).getD c 0≤(jL s x.2 r s.length).getD c 0
  rw [jJ hc,jJ hc]
  have h1:=hb c hc
  have h2:=(iy.2.2 c hc).2
  by_cases h0:(c:Int)∈r0
  ·rw [if_pos h0,if_pos (hsub _ h0)]
   exact Fe _
  ·rw [if_neg h0]
   split <;> omega
noncomputable def wg (c:Int) (r:List Int):List Int:=r.filter (fun x=>decide (x<c))++c::r.filter (fun x=>decide (c<x))
theorem ji {c x:Int}{r:List Int}:x∈wg c r↔x=c∨x∈r:=by
 unfold wg
 rw [Ed,En,EC,EC,decide_eq_true_eq,decide_eq_true_eq]
 constructor
 ·rintro (h|h|h)
  ·exact .inr h.1
  ·exact .inl h
  ·exact .inr h.1
 ·rintro (h|h)
  ·exact .inr (.inl h)
  ·by_cases h1:x<c
   ·exact .inl ⟨h,h1⟩
   ·by_cases h2:x=c
    ·exact .inr (.inl h2)
    ·exact .inr (.inr ⟨h,by omega⟩)
theorem nO {c:Int}{r:List Int} (h:c ∉ r):(wg c r).length=r.length+1:=by
 unfold wg
 rw [Ew,ES]
 have : ∀ r:List Int,c ∉ r→(r.filter fun x=>decide (x<c)).length+(r.filter fun x=>decide (c<x)).length=r.length:=fun r=>by
  induction r with
  | nil=>exact fun _=>rfl
  | cons x r ih =>
   intro h
   have h1:c≠x:=fun z=>h (by simp[z])
   have:=ih fun z=>h (Ej _ z)
   by_cases h2:x<c
   ·have h3:¬c<x:=by omega
    rw [E4 (by simpa using h2),Fn (by simpa using h3),ES,ES]
    omega
   ·have h3:c<x:=by omega
    rw [Fn (by simpa using h2),E4 (by simpa using h3),ES,ES]
    omega
 have:=this r h
 omega
theorem o3 {c:Int}{r:List Int} (h:r.Pairwise (·<·)):(wg c r).Pairwise (·<·):=by
 unfold wg
 refine List.pairwise_append.mpr ⟨h.filter _,List.pairwise_cons.mpr ⟨fun x hx=>?_,h.filter _⟩,fun x hx y hy=>?_⟩
 ·simpa using (EC.mp hx).2
 ·have h1:x<c:=by simpa using (EC.mp hx).2
  rcases En.mp hy with hy|hy
  ·rw [hy];exact h1
  ·have h2:c<y:=by simpa using (EC.mp hy).2
   omega
theorem yk {s o l r:List Int}{d:Nat}{c:Int} (hr:r∈bZ s.length (o.getD d 0) l) (hc:0≤c∧c<s.length) (hn:c ∉ r) (hh:(r.length:Int)+1≤o.getD d 0):wg c r∈bZ s.length (o.getD d 0) l:=by
 rw [l6] at hr ⊢
 obtain ⟨h1,h3,h4⟩:=hr
 obtain ⟨_,p1,b1⟩:=bv _ _ h1
 refine ⟨iX _ _ (o3 p1) fun x hx=>?_,?_,fun k hk e=>ji.mpr (.inr (h4 k hk e))⟩
 ·rcases ji.mp hx with rfl|hx
  ·exact hc
  ·exact b1 x hx
 ·rw [nO hn]
  omega
theorem lJ {r:List Int} (h:r.Pairwise (·<·)):r.Nodup:=h.imp fun {a b} (z:a<b) (e:a=b)=>by omega
theorem nQ {s o l:List Int}{d:Nat}{r1:List Int} (h1:r1∈bZ s.length (o.getD d 0) l):∀ n (r:List Int),r∈bZ s.length (o.getD d 0) l→r.length+n=r1.length→∃ r'∈bZ s.length (o.getD d 0) l,r'.length=r1.length∧∀ x∈r,x∈r'
 | 0,r,hr,e=>⟨r,hr,by omega,fun x hx=>hx⟩
 | n + 1,r,hr,e=>by
  obtain ⟨_,p1,b1⟩:=bv _ _ (EC.mp h1).1
  have hh:(r1.length:Int)≤o.getD d 0:=by
   have:=(EC.mp h1).2
   unfold bY at this
   rw [ER,decide_eq_true_eq] at this
   exact this.1
  have : ∃ c∈r1,c ∉ r:=by
   by_cases hc:∃ c∈r1,c ∉ r
   ·exact hc
   ·have:=cB (lJ p1) (U:=r) fun x hx=>by
     by_cases hx2:x∈r
     ·exact hx2
     ·exact absurd ⟨x,hx,hx2⟩ hc
    omega
  obtain ⟨c,c1,c2⟩:=this
  obtain ⟨r',a1,a2,a3⟩:=nQ h1 n (wg c r) (yk hr (b1 c c1) c2 (by omega)) (by rw[nO c2];omega)
  exact ⟨r',a1,a2,fun x hx=>a3 x (ji.mpr (.inr hx))⟩
theorem yj {s o:List Int}{x:Std}{fr:List (List Int)}{r1:List Int} (h1:r1∈bZ s.length (o.getD x.1 0) x.2) (hmax:∀ r∈bZ s.length (o.getD x.1 0) x.2,r.length≤r1.length)
  (hf:∀ r,r∈fr↔r∈bZ s.length (o.getD x.1 0) x.2∧r.length=r1.length):fB s o x fr:=by
 refine ⟨fun r hr=>((hf r).mp hr).1,fun r hr=>?_,fun r hr r' hr'=>?_,fun r hr h=>(hf r).mpr ⟨hr,Nat.le_antisymm (hmax r hr) (h r1 h1)⟩⟩
 ·obtain ⟨r',a1,a2,a3⟩:=nQ h1 (r1.length - r.length) r hr (by have:=hmax r hr;omega)
  exact ⟨r',(hf r').mpr ⟨a1,a2⟩,a3⟩
 ·have a:=((hf r).mp hr).2
  have b:=hmax r' hr'
  omega
theorem uL {s o:List Int}{x:Std} (h:bZ s.length (o.getD x.1 0) x.2=[]):fB s o x []:=by
 refine ⟨fun r hr=>(by cases hr),fun r hr=>?_,fun r hr=>(by cases hr),fun r hr=>?_⟩
 all_goals
  rw [h] at hr
  cases hr
structure lB (s o:List Int) (lost:List Std):Prop where
 bg : ((0,s):Std)∈lost
 is : ∀ x∈lost,IsS s o x
 nd : lost.Nodup
 few:lost.length≤(jK s o).length
 down:∀ (j:Nat) x,lost[j]? = some x→∃ fr,fB s o x fr∧∀ r∈fr,∃ i:Nat,i<j∧lost[i]? = some (bJ s o x r)
theorem hJ.lostOk {s o:List Int}{places:Std→Option (Option Nat)}{lost:List Std} (h:hJ (fB s o) (bJ s o) (0,s) [] [] places lost) (his:∀ x∈lost,IsS s o x):lB s o lost:=by
 have nd:lost.Nodup:=by simpa using h.nd
 refine ⟨?_,his,nd,cB nd fun x hx=>eO (his x hx),h.down⟩
 rcases h.hd with e|⟨_,e⟩
 ·cases e
 ·exact e
structure pe (s o:List Int) (P:List (Std×Int)):Prop where
 bg : ∃ e∈P,e.1=((0,s):Std)
 is : ∀ e∈P,IsS s o e.1∧0≤e.2∧e.2<100000
 down:∀ e∈P,∃ fr,fB s o e.1 fr∧∀ r∈fr,∃ e'∈P,e'.1=bJ s o e.1 r∧e'.2<e.2
theorem pe.step {s o:List Int}{P:List (Std×Int)} (h:pe s o P) (hs:∀ x∈s,1≤x) {e:Std×Int}{y z:Std} (he:e∈P) (hn:noB s o e.1 y) (hg:goS s o y z):∃ e'∈P,noB s o e'.1 z∧e'.2<e.2:=by
 obtain ⟨fr,f1,f2⟩:=h.down e he
 obtain ⟨r,hr,hz⟩:=uP hs f1 hn hg
 obtain ⟨e',m,q1,q2⟩:=f2 r hr
 exact ⟨e',m,by rw[q1];exact hz,q2⟩
section
variable {σ ρ:Type} [DecidableEq σ] (F:σ→List ρ) (nxt:σ→ρ→σ)
noncomputable abbrev SrS (σ ρ:Type):=List σ×List (List ρ)×List σ
noncomputable def dy (z:SrS σ ρ):SrS σ ρ:=match z.1.getLast?,z.2.1.getLast? with
 | some x,some []=>(z.1.dropLast,z.2.1.dropLast,z.2.2++[x])
 | some x,some (r::t)=>if nxt x r∈z.1 then z else if nxt x r∈z.2.2 then (z.1,z.2.1.dropLast++[t],z.2.2) else (z.1++[nxt x r],z.2.1++[F (nxt x r)],z.2.2)
 | _,_=>z
noncomputable def xc (z:SrS σ ρ):Nat→SrS σ ρ
 | 0=>z
 | n+1=>dy F nxt (xc z n)
noncomputable def Rch (x:σ) (z:SrS σ ρ):Prop:=∃ n,xc F nxt ([x],[F x],[]) n=z
variable {F nxt}{x y:σ}{P lost:List σ}{V:List (List ρ)}{r:ρ}{t:List ρ}
theorem pH:dy F nxt (P++[x],V++[[]],lost)=(P,V,lost++[x]):=by simp[dy]
theorem pF (h1:nxt x r ∉ P++[x]) (h2:nxt x r∈lost):dy F nxt (P++[x],V++[r::t],lost)=(P++[x],V++[t],lost):=by
 unfold dy
 simp only [List.getLast?_concat]
 rw [if_neg h1,if_pos h2,List.dropLast_concat]
theorem wZ (h1:nxt x r ∉ P++[x]) (h2:nxt x r ∉ lost):dy F nxt (P++[x],V++[r::t],lost)=(P++[x]++[nxt x r],V++[r::t]++[F (nxt x r)],lost):=by
 unfold dy
 simp only [List.getLast?_concat]
 rw [if_neg h1,if_neg h2]
theorem pG (h1:nxt x r∈P++[x]):dy F nxt (P++[x],V++[r::t],lost)=(P++[x],V++[r::t],lost):=by
 unfold dy
 simp only [List.getLast?_concat]
 rw [if_pos h1]
theorem iY:dy F nxt (([],V,lost):SrS σ ρ)=([],V,lost):=by simp[dy]
theorem Rch.next {z z':SrS σ ρ} (h:Rch F nxt y z) (e:dy F nxt z=z'):Rch F nxt y z':=by
 obtain ⟨n,rfl⟩:=h
 exact ⟨n+1,e⟩
theorem i9 {z:SrS σ ρ}{n:Nat} (e:dy F nxt (xc F nxt z n)=xc F nxt z n):∀ m,xc F nxt z (n+m)=xc F nxt z n
 | 0=>rfl
 | m+1=>by
  show dy F nxt (xc F nxt z (n+m))=_
  rw [i9 e m,e]
theorem Rch.same {z z':SrS σ ρ} (h:Rch F nxt y z) (e:dy F nxt z=z) (h':Rch F nxt y z') (e':dy F nxt z'=z'):z=z':=by
 obtain ⟨n,rfl⟩:=h
 obtain ⟨m,rfl⟩:=h'
 rw [←i9 e m,←i9 e' n,Nat.add_comm]
end
noncomputable abbrev dA:Stmt:=top 3
theorem bR:ar ["town", "standing", "most", "rows", "clock", "left", "with_it"] ["town", "standing"] (ad dA):=⟨rfl,rfl,rfl,by decide +kernel,rfl,by decide +kernel,by decide +kernel⟩
noncomputable def chs (h:Int) (l:List Int):Nat→List (List Int)
 | 0=>[[]]
 | k+1=>if l.getD k 0=1 then ((chs h l k).filter fun r=>decide ((r.length:Int)<h)).map (·++[(k:Int)]) else chs h l k++((chs h l k).filter fun r=>decide ((r.length:Int)<h)).map (·++[(k:Int)])
theorem gT (l:List Int) (k:Nat):cW l (k+1)=cW l k++(if l.getD k 0=1 then [(k:Int)] else []):=by
 unfold cW
 rw [FM,Fk,EH]
 congr 1
 by_cases h:l.getD k 0=1
 ·rw [if_pos h,E4 (by simpa using h)]
  rfl
 ·rw [if_neg h,Fn (by simpa using h)]
  rfl
theorem yA {l:List Int}{k:Nat}{x:Int} (h:x∈cW l k):0≤x∧x<k:=by
 unfold cW at h
 obtain ⟨i,hi,rfl⟩:=Em.mp h
 have:=Ey.mp (EC.mp hi).1
 omega
theorem gW (h:Int) (hh:0≤h) (l:List Int):∀ k,chs h l k=bZ k h l
 | 0 => by
  show [[]]=List.filter _ [[]]
  rw [E4]
  ·rfl
  ·show bY h (cW l 0) []=true
   unfold bY cW
   simp [hh]
 | k + 1=>by
  have ih:=gW h hh l k
  have e1:((cJ k).map (·++[(k:Int)])).filter (bY h (cW l (k+1)))=((bZ k h l).filter fun r=>decide ((r.length:Int)<h)).map (·++[(k:Int)]):=by
   unfold bZ
   rw [List.filter_map,List.filter_filter]
   congr 1
   refine List.filter_congr fun r hr=>?_
   have hr':=bv k r hr
   show bY h (cW l (k+1)) (r++[(k:Int)])=_
   unfold bY
   rw [gT]
   have e2:(List.filter (fun c=>decide (c ∉ r++[(k:Int)])) (cW l k++if l.getD k 0=1 then [(k:Int)] else []))=List.filter (fun c=>decide (c ∉ r)) (cW l k):=by
    rw [Fk]
    have e3:List.filter (fun c=>decide (c ∉ r++[(k:Int)])) (if l.getD k 0=1 then [(k:Int)] else [])=[]:=by split <;> simp
    rw [e3,EK]
    refine List.filter_congr fun c hc=>?_
    have:=yA hc
    have hne:c≠(k:Int):=by omega
    simp [hne]
   rw [e2]
   have e4:decide (((r++[(k:Int)]).length:Int)≤h)=(decide ((r.length:Int)<h)&&decide ((r.length:Int)≤h)):=by
    rw [Ew,E3]
    by_cases c:(r.length:Int)<h
    ·have c2:(r.length:Int)≤h:=by omega
     have c3:((r.length+1:Nat):Int)≤h:=by omega
     rw [decide_eq_true c,decide_eq_true c2,decide_eq_true c3];rfl
    ·have c3:¬((r.length+1:Nat):Int)≤h:=by omega
     rw [decide_eq_false c,decide_eq_false c3];rfl
   rw [e4,Bool.and_assoc]
  have e2:(cJ k).filter (bY h (cW l (k+1)))=if l.getD k 0=1 then [] else bZ k h l:=by
   split
   ·rename_i h1
    refine Fq.mpr fun r hr=>?_
    have hr':=bv k r hr
    unfold bY
    rw [gT,if_pos h1,Fk]
    have hn:(k:Int) ∉ r:=fun z=>by have:=hr'.2.2 _ z;omega
    simp [hn]
   ·rename_i h1
    unfold bZ
    rw [gT,if_neg h1,EK]
  show (if l.getD k 0=1 then _ else _)=List.filter _ (cJ k++(cJ k).map (·++[(k:Int)]))
  rw [Fk,e1,e2,ih]
  split
  ·rw [List.nil_append]
  ·rfl
noncomputable def uw (r:List Int):Int×List Int:=((r.length:Int),r)
noncomputable def chX (n:Nat) (h:Int) (l:List Int):List (List Int):=ca (ax ((bZ n h l).map uw)) (bZ n h l) []
theorem eW (n:Nat) (h:Int) (l:List Int):(chX n h l).Perm (bZ n h l):=dE (by have:=aY ((bZ n h l).map uw);rwa [D7] at this)
theorem u5 {n:Nat}{h:Int}{l:List Int} (hne:chX n h l≠[]):∃ rl r,chX n h l=rl++[r]∧r∈bZ n h l∧∀ r'∈bZ n h l,r'.length≤r.length:=by
 have hp:=eW n h l
 have hpos:1≤((bZ n h l).map uw).length:=by
  rw [D7,←hp.length_eq]
  exact List.length_pos_iff.mpr hne
 obtain ⟨j,h1,h2,h3⟩:=oJ hpos
 rw [D7] at h2 h3
 have e:(chX n h l).getLast? = some ((bZ n h l).getD j []):=by
  unfold chX ca
  rw [List.getLast?_map,h1]
  rfl
 obtain ⟨rl,r,erl⟩:∃ rl r,chX n h l=rl++[r]:=⟨(chX n h l).dropLast,(chX n h l).getLast hne,(List.dropLast_concat_getLast hne).symm⟩
 have er:r=(bZ n h l).getD j []:=by
  rw [erl,List.getLast?_append] at e
  simpa using e
 refine ⟨rl,r,erl,by rw[er];exact eV h2,fun r' hr'=>?_⟩
 obtain ⟨i,hi,e2⟩:=Ex hr'
 have:=h3 i hi
 have g:∀ k,k<(bZ n h l).length→((bZ n h l).map uw).getD k (0,[])=uw ((bZ n h l).getD k []):=fun k hk=>by
  simp [Ea,hk]
 rw [g i hi,g j h2] at this
 unfold uw at this
 simp only at this
 rw [←er,show (bZ n h l).getD i []=r' by simp[Ea,hi,e2]] at this
 omega
theorem uv (rr:List (List Int)):(lr rr).map (fun d=>cb (l9 d))=rr.map uw:=by
 show (List.map _ (List.map _ rr))=_
 rw [EI]
 refine EZ fun r _=>?_
 show cb (l9 (.list (li r)))=uw r
 unfold l9 cb uw
 simp only [bU,Option.getD_some,D7]
theorem q5 {rr:List (List Int)}{p:List Nat} (h:∀ i∈p,i<rr.length):ca p (lr rr) .none=lr (ca p rr []):=by
 unfold ca
 show _=List.map _ (List.map _ p)
 rw [EI]
 refine EZ fun i hi=>?_
 have:=h i hi
 simp [Ea,this]
noncomputable def gv:DSp:=fun ss R=>∃ (s o l:List Int) (d:Nat),ss=[.fr (.tuple [.list (li s),.list (li o)]),.fr (.tuple [.int d,.tuple (li l)])]∧s.length≤6∧0≤o.getD d 0∧(s.length≤4∨o.getD d 0≤3)∧StB s o d l ∧
 R (.ow (lr (chX s.length (o.getD d 0) l))) [.un,.un]
theorem o9 {f:Addr}{fd:FuncData} (F:Fun K "choices" "choices" dA f fd):bu K fd ["town", "standing"] []:=F.binds (ps:=["town", "standing"]) fun _ _ _ _ _ _ us hl=>us2 (Q:=fun us=>bindArgs _ ⟨us,[]⟩=pure (List.zip _ us)) hl fun _ _=>rfl
theorem oT {f:Addr}{fd:FuncData} (F:Fun K "choices" "choices" dA f fd) (B:Bn mg) (L:pi K base "choices" fd) (G_hands_on:Cal P w K mg base "hands_on" 1 (spD K jX)):cG P w K mg base CX0 6 f fd ["town", "standing"] (spD K gv):=by
 refine B6 (k:=5) F bR (fun ss R h=>?_) (by decide) (fun cdv hcd A outer s H E hr=>⟨_,(aj (aV (i:=2) bR.nd rfl (Or.inr rfl) (az G_hands_on (hr.mono (by decide)) rfl (aa (qf 0) (aa (qf 1) ac))))
   (aj (aV (i:=3) bR.nd rfl (Or.inl rfl) (cI (aa (cI ac) ac)))
   (aj (eK PassesOwn.never rfl (ja true (K:=K) rfl rfl B.enumerate (aa (aR (ag (K:=K) rfl) mIx (qv 1) af (fun _ _=>rfl)) ac)) (gE (K:=K) (n:=2) rfl rfl (be (al (i:=4) bR.nd rfl (Or.inr rfl)) (be (al (i:=5) bR.nd rfl (Or.inl rfl)) dY))) (aj (bB (i:=6)  bR.nd rfl rfl (N':=["row", "most", "clock"]) (ix:=[none,some 2,some 4]) rfl (bP (N:=["town", "standing", "most", "rows", "clock", "left", "with_it"]) (sc0:=ad dA) rfl rfl (by decide +kernel)) (aD (K:=K) rfl (qf 3)) (fun _ _ _ _=>(al (i:=0) (show List.Nodup (["row", "most", "clock"]:List Str) by decide +kernel) rfl (Or.inl rfl))) (fun _ _ _ _=>(cQ (aF ka mB (fX (im (K:=K) rfl) il rfl B.len PySem.boot_len (aa (qv 0) ac)) (qv 1) (aA _)))) (fun _ _ _ _=>(qo (gM (K:=K) rfl) Am (qv 0) (cI (aa (qf 2) ac)))))
   (ai (aV (i:=3) bR.nd rfl (Or.inl rfl) (qq (aF lR y7 (qv 5) af (aA _)) (qf 6) (qo (gM (K:=K) rfl) Am (qv 3) (qv 6)))))))
   (ai (aU (vO (p := "row") (K:=K) rfl (let ⟨c,T,a,b,d⟩:=L;⟨c,T,hcd.trans a,b,d⟩) (hr.mono (by decide)) rfl B.sorted (aa (qv 3) ac) ⟨rfl,rfl,rfl,by decide,rfl,fun x hx=>by rw[Eb.mp hx];exact .inl rfl,by decide⟩ (fun _ _ _ _ _=>rfl) rfl rfl (fun _ _ _ _ _=>(bW (aa (fX (im (K:=K) rfl) il rfl B.len PySem.boot_len (aa (qv 0) ac)) (aa (qf 0) ac)))))))))),fun ss R h=>?_⟩)
 ·obtain ⟨s,o,l,d,rfl,_⟩:=h
  rfl
 obtain ⟨s,o,l,d,rfl,t2,t0,t7,sb,q⟩:=h
 obtain ⟨s1,s2⟩:=sb
 walk_at "dx"
 refine ⟨s,o,l,d,rfl,s1,?_⟩
 walk_at "dx"
 refine ⟨Ez _,Eg (by decide) ae,?_⟩
 walk_at "dx"
 refine bp (fun i env=>∃ (rv a b c:Sl),env=[.fr (.tuple [.list (li s),.list (li o)]),.fr (.tuple [.int d,.tuple (li l)]),.fr (.int (o.getD d 0)),rv,a,b,c]∧(rv=.ow (lr (chs (o.getD d 0) l i))∨rv=.fr (.list (lr (chs (o.getD d 0) l i))))) ⟨_,_,_,_,rfl,.inl rfl⟩ ?_ ?_
 ·rintro i env hi ⟨rv,a,b,c,rfl,hrv⟩
  rw [dF,cV]
  rw [a8,D7] at hi
  have hz:(chs (o.getD d 0) l i).length≤64:=by
   rw [gW _ t0]
   refine Eg (EU _ _) ?_
   rw [eD]
   exact FG (by decide) (show i≤6 by omega)
  have hrow:∀ r∈chs (o.getD d 0) l i,r.length≤6:=fun r hr=>by
   rw [gW _ t0] at hr
   have:=(bv i r (EC.mp hr).1).1
   omega
  have eC:chs (o.getD d 0) l (i+1)=if l.getD i 0=1 then ((chs (o.getD d 0) l i).filter fun r=>decide ((r.length:Int)<o.getD d 0)).map (·++[(i:Int)]) else chs (o.getD d 0) l i++((chs (o.getD d 0) l i).filter fun r=>decide ((r.length:Int)<o.getD d 0)).map (·++[(i:Int)]):=rfl
  rw [eC]
  generalize chs (o.getD d 0) l i=cs at *
  generalize o.getD d 0=hd at *
  rcases hrv with rfl|rfl
  all_goals
   walk_at "dx"
   refine bE (fun j=>decide (((cs.getD j []).length:Int)<hd)) (fun j=>.list (li (cs.getD j []++[(i:Int)]))) (by rw[D7];omega) (fun j hj Q Q' h1 h2=>?_) ?_
   ·rw [D7] at hj
    rw [iN]
    have hm:=hrow _ (eV (l:=cs) hj)
    walk_at "dx"
    rw [D7]
    refine dW (fun h=>?_) (fun h=>h2 (by simpa using h))
    rw [jk]
    exact ⟨Eg (by decide) ae,Eg (by omega) ae,h1 (by simpa using h)⟩
   rw [D7,de cs [] (fun r=>decide ((r.length:Int)<hd)) (fun r=>PyData.list (li (r++[(i:Int)])))]
   walk_at "dx"
   refine dW (fun h1=>?_) (fun h1=>?_)
   ·rw [if_pos h1]
    exact .inr (by simp)
   ·rw [if_neg h1]
    have hf:=EU (fun r:List Int=>decide ((r.length:Int)<hd)) cs
    refine ⟨?_,.inl (by simp)⟩
    rw [D7,D7]
    exact Eg (by omega) ae
 ·rintro env ⟨rv,a,b,c,rfl,hrv⟩
  rw [a8,D7,s2] at hrv
  have hz:(chs (o.getD d 0) l s.length).length<64:=by
   rw [gW _ t0]
   exact fm t2 t7
  have hr:∀ x∈lr (chs (o.getD d 0) l s.length),AC x:=fun x hx=>by
   obtain ⟨r,_,rfl⟩:=Em.mp hx
   exact ⟨r,rfl⟩
  have e:ca (ax (((lr (chs (o.getD d 0) l s.length)).map l9).map cb)) (lr (chs (o.getD d 0) l s.length)) .none=lr (chX s.length (o.getD d 0) l):=by
   rw [EI,show (cb ∘ l9)=fun d=>cb (l9 d) from rfl,uv,gW _ t0]
   exact q5 fun i hi=>by have:=cm i hi;rwa [D7] at this
  rcases hrv with rfl|rfl
  all_goals
   walk_at "dx"
   refine ⟨by rw[D7];exact hz,l9,.inl fun x hx=>?_,fun x hx=>?_,?_⟩
   ·obtain ⟨y,hy,rfl⟩:=Em.mp hx
    obtain ⟨r,rfl⟩:=hr y hy
    exact ⟨_,r,rfl⟩
   ·obtain ⟨r,rfl⟩:=hr x hx
    unfold rp
    walk_at "dd"
    exact ⟨Eg (by decide) ae,rfl⟩
   ·rw [e]
    exact q
theorem sL (rl:List (List Int)) (x:List Int):atI (lr (rl++[x])) (-1)=some (.list (li x)):=by
 show atI (List.map _ (rl++[x])) (-1)=_
 rw [EH]
 exact cX _ _
noncomputable def y8 (l:List Int):PyData→PyData
 | .list es=>.list (li (ib ((List.range ((cg es).getD []).length).map fun i=>l.getD (((cg es).getD []).getD i 0).toNat 0)))
 | d=>d
theorem ux (l r:List Int):y8 l (.list (li r))=.list (li (ib ((List.range r.length).map fun i=>l.getD (r.getD i 0).toNat 0))):=by
 show PyData.list (li (ib ((List.range ((cg (r.map .int)).getD []).length).map fun i=>l.getD (((cg (r.map .int)).getD []).getD i 0).toNat 0)))=_
 rw [bU]
 rfl
noncomputable def jr (s o:List Int) (x:Std):List (List Int):=(chX s.length (o.getD x.1 0) x.2).filter fun r=>decide (r.length=((chX s.length (o.getD x.1 0) x.2).getLastD []).length)
noncomputable def cE (s o:List Int) (x:Std):List (List Int):=ca (ax (((lr (jr s o x)).map (y8 x.2)).map cb)) (jr s o x) []
theorem iS (s o:List Int) (x:Std):(cE s o x).Perm (jr s o x):=dE (by have:=aY (((lr (jr s o x)).map (y8 x.2)).map cb);rwa [D7,D7,D7] at this)
theorem jq (s o:List Int) (x:Std):fB s o x (cE s o x):=by
 have hp:=eW s.length (o.getD x.1 0) x.2
 have hf:=iS s o x
 by_cases hne:chX s.length (o.getD x.1 0) x.2=[]
 ·unfold jr at hf
  rw [hne] at hf hp
  rw [show cE s o x=[] from List.Perm.eq_nil hf]
  exact uL (show bZ s.length (o.getD x.1 0) x.2=[] from List.Perm.eq_nil hp.symm)
 ·obtain ⟨rl,r,e1,e2,e3⟩:=u5 hne
  refine yj (x:=x) e2 e3 fun r'=>?_
  rw [hf.mem_iff]
  unfold jr
  rw [EC,hp.mem_iff]
  have:(chX s.length (o.getD x.1 0) x.2).getLastD []=r:=by rw[e1,Fx];simp
  rw [this]
  simp
theorem gS {s o:List Int}{x:Std} (t2:s.length≤6) (t7:s.length≤4∨o.getD x.1 0≤3):(cE s o x).length<64∧∀ r∈cE s o x,r.length≤6:=by
 have hp:=eW s.length (o.getD x.1 0) x.2
 have hf:=iS s o x
 refine ⟨?_,fun r hr=>?_⟩
 ·rw [hf.length_eq]
  refine FB (EU _ _) ?_
  rw [hp.length_eq]
  exact fm t2 t7
 ·have:=(bv _ r (EC.mp (hp.mem_iff.mp (EC.mp (hf.mem_iff.mp hr)).1)).1).1
  omega
noncomputable abbrev cA:Stmt:=top 6
theorem cK:ar ["town", "standing", "lefts", "rows", "full"] ["town", "standing"] (ad cA):=⟨rfl,rfl,rfl,by decide +kernel,rfl,by decide +kernel,by decide +kernel⟩
noncomputable def pW:DSp:=fun ss R=>∃ (s o l:List Int) (d:Nat),ss=[.fr (.tuple [.list (li s),.list (li o)]),.fr (.tuple [.int d,.tuple (li l)])]∧s.length≤6∧0≤o.getD d 0∧(s.length≤4∨o.getD d 0≤3)∧StB s o d l ∧
 R (.ow (lr (cE s o (d,l)))) [.un,.un]
theorem lq {f:Addr}{fd:FuncData} (F:Fun K "full_rows" "full_rows" cA f fd):bu K fd ["town", "standing"] []:=F.binds (ps:=["town", "standing"]) fun _ _ _ _ _ _ us hl=>us2 (Q:=fun us=>bindArgs _ ⟨us,[]⟩=pure (List.zip _ us)) hl fun _ _=>rfl
theorem kg {f:Addr}{fd:FuncData} (F:Fun K "full_rows" "full_rows" cA f fd) (B:Bn mg) (L:pi K base "full_rows" fd) (G_choices:Cal P w K mg base "choices" 6 (spD K gv)):cG P w K mg base CX0 7 f fd ["town", "standing"] (spD K pW):=by
 refine B6 (k:=6) F cK (fun ss R h=>?_) (by decide) (fun cdv hcd A outer s H E hr=>⟨_,(bz (aV (i:=2) cK.nd rfl (Or.inr rfl) (aR (ag (K:=K) rfl) mIx (qv 1) af (fun _ _=>rfl)))
   (bz (aV (i:=3) cK.nd rfl (Or.inr rfl) (az G_choices (hr.mono (by decide)) rfl (aa (qf 0) (aa (qf 1) ac))))
   (bz (bB (i:=4)  cK.nd rfl rfl (N':=["row", "rows"]) (ix:=[none,some 3]) rfl (bP (N:=["town", "standing", "lefts", "rows", "full"]) (sc0:=ad cA) rfl rfl (by decide +kernel)) (aD (K:=K) rfl (qf 3)) (fun _ _ _ _=>(al (i:=0) (show List.Nodup (["row", "rows"]:List Str) by decide +kernel) rfl (Or.inl rfl))) (fun _ _ _ _=>(cQ (aF lR y7 (fX (im (K:=K) rfl) il rfl B.len PySem.boot_len (aa (qv 0) ac)) (fX (im (K:=K) rfl) il rfl B.len PySem.boot_len (aa (aR (ag (K:=K) rfl) mIx (qv 1) (Bh jO Bj af) (fun _ _=>rfl)) ac)) (aA _)))) (fun _ _ _ _=>(qf 0)))
   (ai (aU (zH 2 (p := "row") (x := "lefts") (K:=K) rfl (let ⟨c,T,a,b,d⟩:=L;⟨c,T,hcd.trans a,b,d⟩) (hr.mono (by decide)) rfl B.sorted (aa (qv 4) ac) ⟨rfl,rfl,rfl,rfl,rfl,by decide,by decide,by decide⟩ rfl (Or.inr (Or.inl rfl)) (Or.inl rfl) (fun z=>nomatch (show (some NameKind.cell:Option NameKind)=some .local from z)) (fun _ _ _ _ _ _=>rfl) (fun c hc=>by cases hc;rfl) rfl (fun _ _ _ _ _ _ _=>(zG (K:=K) rfl rfl B.sorted (aa (cf (N':=["clock", "lefts"]) (ix:=[none,some 1]) rfl (CM (by decide +kernel)) (aD (K:=K) rfl (qf 0)) (fun _ _ _ _=>(al (i:=0) (show List.Nodup (["clock", "lefts"]:List Str) by decide +kernel) rfl (Or.inl rfl))) (fun _ _ _ _=>bo) (fun _ _ _ _=>(aR (ag (K:=K) rfl) mIx (qv 1) (qv 0) (fun _ _=>rfl)))) ac))))))))),fun ss R h=>?_⟩)
 ·obtain ⟨s,o,l,d,rfl,_⟩:=h
  rfl
 obtain ⟨s,o,l,d,rfl,t2,t0,t7,sb,q⟩:=h
 obtain ⟨s1,s2⟩:=id sb
 walk_at "dd"
 refine ⟨s,o,l,d,rfl,t2,t0,t7,sb,?_⟩
 walk_at "dd"
 have hp:=eW s.length (o.getD d 0) l
 have hl64:(chX s.length (o.getD d 0) l).length<64:=by rw[hp.length_eq];exact fm t2 t7
 have hrl:∀ r∈chX s.length (o.getD d 0) l,r.length≤6:=fun r hr=>by
  have:=(bv _ r (EC.mp (hp.mem_iff.mp hr)).1).1
  omega
 have hin:∀ r∈chX s.length (o.getD d 0) l,∀ x∈r,0≤x∧x<s.length:=fun r hr=>(bv _ r (EC.mp (hp.mem_iff.mp hr)).1).2.2
 have hf:∀ m:Nat,((chX s.length (o.getD d 0) l).filter fun r=>decide (r.length=m)).length<64:=fun m=>FB (EU _ _) hl64
 have hfM:jr s o (d,l)=(chX s.length (o.getD d 0) l).filter fun r=>decide (r.length=((chX s.length (o.getD d 0) l).getLastD []).length):=rfl
 have hX:cE s o (d,l)=ca (ax (((lr (jr s o (d,l))).map (y8 l)).map cb)) (jr s o (d,l)) []:=rfl
 obtain ⟨m,em⟩:∃ m,m=((chX s.length (o.getD d 0) l).getLastD []).length:=⟨_,rfl⟩
 rw [←em] at hfM
 have hm:∀ j,j<(chX s.length (o.getD d 0) l).length→∃ z:List Int,atI (lr (chX s.length (o.getD d 0) l)) (-1)=some (.list (li z))∧z.length=m:=fun j hj=>by
  rcases Fs (chX s.length (o.getD d 0) l) with e|⟨rl,r,e⟩
  ·rw [e] at hj;simp at hj
  ·rw [Ft] at e
   rw [e] at em ⊢
   exact ⟨r,sL _ _,by rw[em,Fx];simp⟩
 generalize chX s.length (o.getD d 0) l=cs at *
 refine bE (fun j=>decide ((cs.getD j []).length=m)) (fun j=>.list (li (cs.getD j []))) (by rw[D7];omega) (fun j hj Q Q' h1 h2=>?_) ?_
 ·rw [D7] at hj
  rw [iN]
  obtain ⟨z,z1,z2⟩:=hm j hj
  walk_at "dd"
  refine ⟨_,z1,_,rfl,?_⟩
  rw [D7,D7]
  refine dW (fun h=>h1 (decide_eq_true (by omega))) (fun h=>h2 (decide_eq_false (by omega)))
 rw [D7,de cs [] (fun r=>decide (r.length=m)) (fun r=>PyData.list (li r))]
 walk_at "dd"
 have hfm:∀ r∈List.filter (fun r=>decide (r.length=m)) cs,r∈cs:=fun r hr=>(EC.mp hr).1
 refine ⟨by rw[D7];exact hf m,y8 l,.inr (.inr fun x hx=>?_),fun x hx=>?_,?_⟩
 ·obtain ⟨y,hy,rfl⟩:=Em.mp hx
  obtain ⟨r,_,rfl⟩:=Em.mp hy
  exact ⟨_,rfl⟩
 ·obtain ⟨r,hr,rfl⟩:=Em.mp hx
  refine ⟨_,rfl,cj (fun i=>.int (l.getD (r.getD i 0).toNat 0)) (by rw[D7];have:=hrl r (hfm r hr);omega) (fun i hi Q hQ=>?_) ?_⟩
  ·rw [D7] at hi
   rw [cV]
   have h9:=hin r (hfm r hr) _ (show r.getD i 0∈r by rw[Ea,D8 hi];exact EA hi)
   walk_at "dd"
   rw [show r.getD i 0=((r.getD i 0).toNat:Int) by omega]
   exact ⟨_,b7 (by omega),hQ⟩
  ·have e:(List.range (li r).length).map (fun i:Nat=>PyData.int (l.getD (r.getD i 0).toNat 0))=li ((List.range r.length).map fun i=>l.getD (r.getD i 0).toNat 0):=by
    rw [D7]
    show _=List.map _ (List.map _ _)
    rw [EI]
    rfl
   rw [e]
   walk_at "dx"
   refine ⟨_,rfl,?_,(ux l r).symm⟩
   have:=hrl r (hfm r hr)
   simp;omega
 ·have e:ca (ax (((lr (List.filter (fun r=>decide (r.length=m)) cs)).map (y8 l)).map cb)) (lr (List.filter (fun r=>decide (r.length=m)) cs)) .none=lr (cE s o (d,l)):=by
   rw [hX,hfM]
   exact q5 fun i hi=>by have:=cm i hi;rwa [D7,D7,D7] at this
  rw [show List.map (fun r=>PyData.list (li r)) (List.filter (fun r=>decide (r.length=m)) cs)=lr (List.filter (fun r=>decide (r.length=m)) cs) from rfl,e]
  exact q
noncomputable abbrev stS (x:Std):PyData:=c7 ((x.1:Int),x.2)
noncomputable def plV:PyData→Option Nat
 | .int i=>some i.toNat
 | _=>none
noncomputable def kOf (x:Std):aM:=((x.1:Int),x.2)
theorem gP {x y:Std} (h:kOf x=kOf y):x=y:=by
 obtain ⟨a,b⟩:=x
 obtain ⟨c,d⟩:=y
 unfold kOf at h
 simp only [Prod.mk.injEq] at h ⊢
 exact ⟨by omega,h.2⟩
noncomputable def plc (kvs:List (aM×PyData)) (x:Std):Option (Option Nat):=(bG kvs (kOf x)).map plV
theorem lO (kvs:List (aM×PyData)) (x:Std) (d:PyData) (y:Std):plc (fU kvs (kOf x) d) y=if y=x then some (plV d) else plc kvs y:=by
 unfold plc
 rw [eU]
 by_cases h:y=x
 ·rw [if_pos h,if_pos (by rw[h])]
  rfl
 ·rw [if_neg h,if_neg fun z=>h (gP z)]
theorem xa {κ β:Type} [DecidableEq κ] {kvs:List (κ×β)}{k:κ}{v:β} (h:(bG kvs k).isSome=true):(fU kvs k v).length=kvs.length:=by
 unfold fU
 rw [if_pos h,D7]
theorem m9 {κ β:Type} [DecidableEq κ] {kvs:List (κ×β)}{k:κ}{v:β}:∀ p∈fU kvs k v,p.2=v∨p∈kvs:=by
 intro p hp
 unfold fU at hp
 split at hp
 ·obtain ⟨q,hq,rfl⟩:=Em.mp hp
  split
  ·exact .inl rfl
  ·exact .inr hq
 ·rcases Ed.mp hp with h|h
  ·exact .inr h
  ·rw [Eb.mp h]
   exact .inl rfl
theorem uG {κ β:Type} [DecidableEq κ] {kvs:List (κ×β)}{k:κ}{v:β} (h:bG kvs k=some v):(k,v)∈kvs:=by
 induction kvs with
 | nil=>cases h
 | cons p kvs ih =>
  rw [bD] at h
  split at h
  ·rename_i e
   cases h
   subst e
   exact Eh
  ·exact Ej _ (ih h)
theorem uD (W:List (List (List Int))):(List.range (List.map wD W).length).map (fun i:Nat=>PyData.list (li ((W.getD i []).getD 0 [])))=lr (W.map fun w=>w.getD 0 []):=by
 show _=List.map _ (List.map _ _)
 rw [D7,EI]
 refine Fa (by simp) fun i h1 h2=>?_
 rw [D7] at h2
 simp [Ea,h2]
theorem sr (ns:List (List Int)) (a b:Option Int):jy (lr ns) a b=lr ((ns.drop (HT.sIx ns.length 0 a)).take (HT.sIx ns.length ns.length b - HT.sIx ns.length 0 a)):=by
 unfold jy
 show (List.drop _ (List.map (fun r=>PyData.list (li r)) ns)).take _=List.map _ _
 rw [D7,List.map_take,List.map_drop]
theorem so (ns:List (List Int)) (c:Nat):jy (lr ns) none (some (c:Int))=lr (ns.take c):=by
 rw [sr,HT.sIx_none,HT.sIx_nat,List.drop_zero,Nat.sub_zero]
 by_cases h:c≤ns.length
 ·rw [FN h]
 ·rw [Nat.min_eq_right (by omega),EY (Ek _),EY (by omega)]
theorem sv (ns:List (List Int)) (c:Nat):jy (lr ns) (some (c:Int)) none=lr (ns.drop c):=by
 rw [sr,HT.sIx_none,HT.sIx_nat]
 by_cases h:c≤ns.length
 ·rw [FN h,EY (by simp)]
 ·rw [Nat.min_eq_right (by omega),E5 (Ek _),E5 (by omega)]
  simp
noncomputable abbrev bi:Stmt:=top 7
theorem aC:ar ["town", "standing", "path", "ways", "places", "lost", "ahead", "rows"] ["town", "standing"] (ad bi):=⟨rfl,rfl,rfl,by decide +kernel,rfl,by decide +kernel,by decide +kernel⟩
noncomputable def TbL (s o:List Int):Prop:=s.length≤6∧1≤o.length∧(∀ x∈s,1≤x)∧(∀ h∈o,0≤h)∧(s.length≤4∨∀ h∈o,h≤3)∧(jK s o).length<100000
noncomputable def vj (s o:List Int) (x:Std):Prop:=∃ z:SrS Std (List Int),Rch (cE s o) (bJ s o) x z∧z.1≠[]∧dy (cE s o) (bJ s o) z=z
noncomputable def mE (s o:List Int) (x:Std) (lost:List Std):Prop:=Rch (cE s o) (bJ s o) x ([],[],lost)
theorem dB {s o:List Int}{x:Std}{lost:List Std} (h:vj s o x) (h':mE s o x lost):False:=by
 obtain ⟨z,h1,h2,h3⟩:=h
 have:=h1.same h3 h' iY
 rw [this] at h2
 exact h2 rfl
theorem ug {s o:List Int}{x:Std}{lost lost':List Std} (h:mE s o x lost) (h':mE s o x lost'):lost=lost':=by
 have:=h.same iY h' iY
 exact congrArg (fun z:SrS Std (List Int)=>z.2.2) this
noncomputable def pR:DSp:=fun ss R=>∃ (s o:List Int),ss=[.fr (.tuple [.list (li s),.list (li o)]),.fr (.tuple [.int 0,.tuple (li s)])]∧TbL s o ∧
 (vj s o (0,s)→∀ (A B:List (List Int)) (x:PyData),R (.fr (.tuple [.tuple [.list (lr A),.list (lr B)],x])) [.un,.un]) ∧
 ∀ lost:List Std,lB s o lost→mE s o (0,s) lost→R (.fr (.tuple [.none,.list (lost.map stS)])) [.un,.un]
theorem fu {f:Addr}{fd:FuncData} (F:Fun K "looked_through" "looked_through" bi f fd):bu K fd ["town", "standing"] []:=F.binds (ps:=["town", "standing"]) fun _ _ _ _ _ _ us hl=>us2 (Q:=fun us=>bindArgs _ ⟨us,[]⟩=pure (List.zip _ us)) hl fun _ _=>rfl
theorem fg {f:Addr}{fd:FuncData} (F:Fun K "looked_through" "looked_through" bi f fd) (B:Bn mg) (G_full_rows:Cal P w K mg base "full_rows" 7 (spD K pW)) (G_behind:Cal P w K mg base "behind" 1 (spD K gb)):cG P w K mg base CX0 9 f fd ["town", "standing"] (spD K pR):=by
 refine okD (k:=8) F aC (fun ss R h=>?_) (by decide) (fun cdv A outer s H E hr=>⟨_,(aj (aV (i:=2) aC.nd rfl (Or.inl rfl) (cI (aa (qf 1) ac)))
   (aj (aV (i:=3) aC.nd rfl (Or.inl rfl) (zL (aa (az G_full_rows (hr.mono (by decide)) rfl (aa (qf 0) (aa (qf 1) ac))) ac)))
   (aj (aV (i:=4) aC.nd rfl (Or.inl rfl) (zM (K:=K) rfl (hu2 hr) (qf 1) af))
   (aj (aV (i:=5) aC.nd rfl (Or.inl rfl) (cI ac))
   (aj (qk PassesOwn.never (nt (K:=K) rfl (qv 2)) (aj (fW (dq (qi 3 (K:=K) rfl rfl)) (aj (dD (oN 5 (K:=K) rfl rfl (xk 2 (K:=K) rfl rfl)))
   (aj (nu 4 (K:=K) rfl (hu2 hr) rfl (aR (ag (K:=K) rfl) mIx (qv 5) (Bh jO Bj af) (fun _ _=>rfl)) jZ)
   (aj (dD (zJ 3 (K:=K) rfl rfl))
   (ai oM)))) bw)
   (aj (aV (i:=6) aC.nd rfl (Or.inl rfl) (az G_behind (hr.mono (by decide)) rfl (aa (qf 0) (aa (aR (ag (K:=K) rfl) mIx (qv 2) (Bh jO Bj af) (fun _ _=>rfl)) (aa (xm 3 (K:=K) rfl rfl) ac)))))
   (ai (fW (aF (mi (K:=K) rfl (hu2 hr)) l7 (qv 6) (qv 4) (by with_unfolding_all rfl)) (aj (nu 4 (K:=K) rfl (hu2 hr) rfl (qf 6) (fX (im (K:=K) rfl) il rfl B.len PySem.boot_len (aa (qv 2) ac)))
   (aj (dD (oN 2 (K:=K) rfl rfl (qf 6)))
   (ai (dD (zN 3 (K:=K) rfl rfl (az G_full_rows (hr.mono (by decide)) rfl (aa (qf 0) (aa (qf 6) ac)))))))) (ai (fW (aF nz Bk (aR (y9 (K:=K) rfl (hu2 hr)) y6 (qv 4) (qv 6) (fun _ _=>rfl)) jZ (aA _)) (ai (dD (xj 3 (K:=K) rfl rfl))) (aj (bB (i:=7)  aC.nd rfl rfl (N':=["way"]) (ix:=[none]) rfl (bP (N:=["town", "standing", "path", "ways", "places", "lost", "ahead", "rows"]) (sc0:=ad bi) rfl rfl (by decide +kernel)) (aD (K:=K) rfl (qf 3)) (fun _ _ _ _=>(al (i:=0) (show List.Nodup (["way"]:List Str) by decide +kernel) rfl (Or.inl rfl))) (fun _ _ _ _=>bo) (fun _ _ _ _=>(aR (ag (K:=K) rfl) Du (qv 0) af (fun _ _=>rfl))))
   (ai (aU (bW (aa (bW (aa (tN (K:=K) rfl (qv 7) fe (fb (aR (y9 (K:=K) rfl (hu2 hr)) y6 (qv 4) (qv 6) (fun _ _=>rfl)))) (aa (tN (K:=K) rfl (qv 7) (fb (aR (y9 (K:=K) rfl (hu2 hr)) y6 (qv 4) (qv 6) (fun _ _=>rfl))) fe) ac))) (aa (qf 5) ac)))))))))))))
   (ai (aU (bW (aa jZ (aa (qf 5) ac)))))))))),fun ss R h=>?_⟩)
 ·obtain ⟨s,o,rfl,_⟩:=h
  rfl
 obtain ⟨s,o,rfl,⟨t1,t2,t3,t4,t5,t6⟩,q1,q2⟩:=h
 walk_at "dx"
 have hh:∀ d,d<o.length→0≤o.getD d 0∧(s.length≤4∨o.getD d 0≤3):=fun d hd=>⟨t4 _ (a0 hd),t5.imp id fun h=>h _ (a0 hd)⟩
 have i0:IsS s o (0,s):=⟨t2,rfl,fun c hc=>⟨t3 _ (a0 hc),Fe _⟩⟩
 refine ⟨Eg (by decide) ae,?_⟩
 walk_at "dx"
 refine ⟨s,o,s,0,rfl,t1,(hh 0 t2).1,(hh 0 t2).2,⟨t2,rfl⟩,?_⟩
 have hfr:=jq s o (0,s)
 obtain ⟨hfl,hrl⟩:=gS (x:=((0,s):Std)) t1 (hh 0 t2).2
 obtain ⟨fr,efr⟩:∃ fr,fr=cE s o (0,s):=⟨_,rfl⟩
 rw [←efr] at hfr hfl hrl ⊢
 refine ⟨[wD fr],?_,Eg (by decide) ae,fun S=>?_⟩
 ·show (h8 [] (Sl.ow (lr fr))).bind _=_
  rw [mP]
  rfl
 walk_at "dx"
 refine ⟨((0:Int),s),rfl,rfl,fun S1=>?_⟩
 walk_at "dx"
 refine ⟨Ez _,?_⟩
 walk_at "dx"
 refine ⟨fun m env=>∃ (path:List Std) (Wy:List (List (List Int))) (kvs:List (aM×PyData)) (lost:List Std) (S1 S2:List Addr) (a b:Sl),
  env=[.fr (.tuple [.list (li s),.list (li o)]),.fr (.tuple [.int 0,.tuple (li s)]),.ow (path.map stS),.tr S1 (fS Wy),.tr S2 (dX kvs),.ow (lost.map stS),a,b] ∧
  hJ (fB s o) (bJ s o) (0,s) path Wy (plc kvs) lost∧Rch (cE s o) (bJ s o) (0,s) (path,Wy,lost)∧(∀ x∈path++lost,IsS s o x)∧(∀ w∈Wy,w.length<64∧∀ r∈w,r.length≤6)∧(∀ p∈kvs,p.2=.none∨∃ i:Nat,p.2=.int i)∧kvs.length≤path.length+lost.length∧m=ie (jK s o).length 66 path lost Wy,⟨_,[(0,s)],[fr],[(((0:Int),s),.int 0)],[],S,S1,.un,.un,rfl,?_,⟨0,by rw[efr];rfl⟩,?_,?_,?_,?_,rfl⟩,?_⟩
 ·refine hJ.init hfr fun x=>?_
  show plc (fU [] (kOf (0,s)) (.int 0)) x=_
  rw [lO]
  rfl
 ·intro x hx
  simp at hx
  rw [hx]
  exact i0
 ·intro w hw
  simp at hw
  rw [hw]
  exact ⟨hfl,hrl⟩
 ·intro p hp
  simp at hp
  rw [hp]
  exact .inr ⟨0,rfl⟩
 ·simp
 rintro m env ⟨path,Wy,kvs,lost,S1,S2,a,b,rfl,hs,hrc,his,hw,hkv,hkl,rfl⟩
 have hfew:=hs.few fun x hx=>eO (his x hx)
 have big:∀ n:Nat,n≤100000→n<sizeLine:=fun n h=>Ep (by omega) ae
 walk_at "dx"
 rcases Fs path with rfl|⟨P,x,rfl⟩
 ·have e:Wy=[]:=List.length_eq_zero_iff.mp hs.len
  subst e
  rw [if_neg (by simp)]
  walk_at "dx"
  exact ⟨Eg (by decide) ae,q2 _ (hs.lostOk fun x hx=>his x (by simpa using hx)) hrc⟩
 rw [Ft] at hs hrc his hkl hfew ⊢
 obtain ⟨V,w,rfl⟩:∃ V w,Wy=V++[w]:=by
  rcases Fs Wy with rfl|⟨V,w,rfl⟩
  ·have:=hs.len
   simp at this
  ·exact ⟨V,w,Ft ..⟩
 have isx:IsS s o x:=his x (by simp)
 have hl:V.length=P.length:=by have:=hs.len;simpa using this
 rw [EH,if_pos (by simp)]
 cases w with
 | nil =>
  refine ⟨V,[],rfl,?_⟩
  rw [if_pos (show (!([]:List (List Int)).isEmpty)=false from rfl)]
  have gx:(bG kvs (kOf x)).isSome=true:=by
   have:=(hs.on x P.length).mpr (by simp)
   unfold plc at this
   cases e:bG kvs (kOf x) with
   | none=>rw[e] at this;cases this
   | some v=>rfl
  refine ⟨stS x,by simp,big _ (by simp at hfew ⊢;omega),?_⟩
  walk_at "dx"
  refine ⟨⟨kvs,rfl⟩,stS x,cX _ _,kvs,rfl,kOf x,rfl,big _ (by omega),?_⟩
  walk_at "dx"
  refine ⟨V,[],rfl,fun S'=>?_⟩
  walk_at "dx"
  refine ⟨_,hJ.lt_lose hfew,P,by simp,V,rfl,fU kvs (kOf x) .none,rfl,lost++[x],by simp,hs.lose fun y=>lO kvs x .none y,hrc.next pH,fun y hy=>his y (by simp at hy ⊢;rcases hy with h|h|h <;> simp[h]),fun v hv=>hw v (by simp[hv]),fun p hp=>?_,?_,rfl⟩
  ·rcases m9 p hp with e|e
   ·exact .inl e
   ·exact hkv p e
  ·rw [xa gx]
   simp at hkl ⊢
   omega
 | cons r w =>
  refine ⟨V,r::w,rfl,?_⟩
  rw [if_neg (show ¬(!(r::w).isEmpty)=false from by simp)]
  have hr:r∈bZ s.length (o.getD x.1 0) x.2:=by
   obtain ⟨fr,pre,a1,a2,_⟩:=hs.way P.length x (r::w) (by simp) (by rw[←hl];simp)
   exact a1.1 r (by rw[a2];simp)
  have isn:=qU t3 isx hr
  walk_at "dx"
  refine ⟨stS x,cX _ _,V,r,w,rfl,s,o,x.2,r,x.1,rfl,t2,isx.2.1,by omega,?_⟩
  walk_at "dx"
  refine ⟨kOf (bJ s o x r),rfl,rfl,kvs,rfl,dW (fun h=>?_) (fun h=>?_)⟩
  ·have hnone:plc kvs (bJ s o x r)=none:=by
    unfold plc
    cases e:bG kvs (kOf (bJ s o x r)) with
    | none=>rfl
    | some v=>rw[e] at h;cases h
   have n1:bJ s o x r ∉ P++[x]:=fun z=>by
    obtain ⟨i,hi,e⟩:=Ex z
    have:=(hs.on (bJ s o x r) i).mpr (by rw[D8 hi,e])
    rw [hnone] at this;cases this
   have n2:bJ s o x r ∉ lost:=fun z=>by
    have:=(hs.off (bJ s o x r)).mpr z
    rw [hnone] at this;cases this
   have nin:(P++[x]++[bJ s o x r]++lost).Nodup:=by
    have hz:=hs.nd
    have:(bJ s o x r::(P++[x]++lost)).Nodup:=EO.mpr ⟨fun z=>(Ed.mp z).elim n1 n2,hz⟩
    refine List.Perm.nodup_iff ?_ |>.mp this
    rw [Ff (P++[x]) [bJ s o x r] lost]
    exact List.perm_middle.symm
   have hmem:∀ y∈P++[x]++[bJ s o x r]++lost,IsS s o y:=fun y hy=>by
    simp only [Ed,Eb] at hy
    rcases hy with ((h|h)|h)|h
    ·exact his y (by simp[h])
    ·rw [h];exact isx
    ·rw [h];exact isn
    ·exact his y (by simp[h])
   have hfew2:=cB nin fun y hy=>eO (hmem y hy)
   refine ⟨⟨kvs,rfl⟩,kvs,rfl,kOf (bJ s o x r),rfl,rfl,big _ (by omega),?_⟩
   walk_at "dx"
   refine ⟨big _ (by simp at hfew ⊢;omega),?_⟩
   walk_at "dx"
   refine ⟨s,o,(bJ s o x r).2,(bJ s o x r).1,rfl,t1,(hh _ isn.1).1,(hh _ isn.1).2,⟨isn.1,isn.2.1⟩,?_⟩
   have hfr:=jq s o (bJ s o x r)
   obtain ⟨hfl,hrl⟩:=gS (o:=o) (x:=bJ s o x r) t1 (hh _ isn.1).2
   obtain ⟨fr,efr⟩:∃ fr,fr=cE s o (bJ s o x r):=⟨_,rfl⟩
   rw [show (((bJ s o x r).1,(bJ s o x r).2):Std)=bJ s o x r from rfl,←efr]
   rw [←efr] at hfr hfl hrl
   walk_at "dx"
   refine ⟨wD fr,mP (env:=[]) fr,big _ (by simp at hfew ⊢;omega),fun S'=>⟨_,hJ.lt_go (x:=bJ s o x r) (fr:=fr) (by simp at hfew2 ⊢;omega) (by omega),P++[x]++[bJ s o x r],by rw[EH,EH];rfl,V++[r::w]++[fr],by simp,_,rfl,lost,rfl,hs.go hnone hfr (fun y=>?_),by rw[efr];exact hrc.next (wZ n1 n2),hmem,fun v hv=>?_,fun p hp=>?_,?_,rfl⟩⟩
   ·rw [lO]
    simp [plV]
   ·rcases Ed.mp hv with h|h
    ·exact hw v h
    ·rw [Eb.mp h]
     exact ⟨hfl,hrl⟩
   ·rcases m9 p hp with e|e
    ·exact .inr ⟨_,e⟩
    ·exact hkv p e
   ·refine Eg (nc _ _ _) ?_
    simp at hkl ⊢
    omega
  ·cases hv:bG kvs (kOf (bJ s o x r)) with
   | none=>rw[hv] at h;exact absurd rfl h
   | some v =>
    refine ⟨kvs,rfl,kOf (bJ s o x r),rfl,rfl,v,hv,?_⟩
    rcases hkv _ (uG hv) with e|⟨k,e⟩
    ·simp only at e
     subst e
     rw [if_pos (show lD .none=true from rfl)]
     have hl2:bJ s o x r∈lost:=(hs.off _).mp (by unfold plc;rw[hv];rfl)
     have hl1:bJ s o x r ∉ P++[x]:=fun z=>(Ei.mp hs.nd).2.2 _ z _ hl2 rfl
     refine ⟨V,r,w,rfl,_,hJ.lt_skip,P++[x],by simp,V++[w],rfl,kvs,rfl,lost,rfl,hs.skip (by unfold plc;rw[hv];rfl),hrc.next (pF hl1 hl2),his,fun u hu=>?_,hkv,hkl,rfl⟩
     rcases Ed.mp hu with h|h
     ·exact hw u (by simp[h])
     ·rw [Eb.mp h]
      have:=hw (r::w) (by simp)
      exact ⟨by have:=this.1;simp at this;omega,fun r' hr'=>this.2 r' (by simp[hr'])⟩
    ·simp only at e
     subst e
     rw [if_neg (show ¬lD (.int (k:Int))=true from fun z=>Bool.noConfusion z)]
     have hk:(P++[x])[k]? = some (bJ s o x r):=(hs.on _ k).mp (by unfold plc;rw[hv];simp[plV])
     have hW:∀ i,i<(V++[r::w]).length→∃ q t,(V++[r::w]).getD i []=q::t:=fun i hi=>by
      have hiP:i<(P++[x]).length:=by rw[←hs.len];exact hi
      by_cases hin:i=V.length
      ·subst hin
       exact ⟨r,w,by simp⟩
      ·have h2:i+1<(P++[x]).length:=by simp at hi ⊢;omega
       obtain ⟨q,t,e1,_⟩:=hs.lnk i _ _ _ (D8 hiP) (D8 h2) (D8 hi)
       exact ⟨q,t,by rw[Ea,D8 hi,e1];rfl⟩
     refine cj (fun i=>.list (li (((V++[r::w]).getD i []).getD 0 []))) (by simp at hfew ⊢;omega) (fun i hi Q hQ=>?_) ?_
     ·rw [D7] at hi
      obtain ⟨q,t,e1⟩:=hW i hi
      have e2:(V++[r::w])[i]=q::t:=by
       rw [←e1,Ea,D8 hi]
       rfl
      rw [EN,e2]
      rw [e1] at hQ
      walk_at "dx"
      exact ⟨_,rfl,hQ⟩
     rw [uD]
     walk_at "dx"
     refine ⟨kvs,rfl,kOf (bJ s o x r),rfl,rfl,_,hv,_,rfl,kvs,rfl,kOf (bJ s o x r),rfl,rfl,_,hv,_,rfl,?_⟩
     rw [so,sv]
     exact ⟨Eg (by decide) ae,Eg (by decide) ae,q1 ⟨_,hrc,by simp,pG (Fb hk)⟩ _ _ _⟩
noncomputable abbrev bS:Stmt:=top 10
theorem cw:ar ["town", "found", "ranks", "standing", "ahead"] ["town"] (ad bS):=⟨rfl,rfl,rfl,by decide +kernel,rfl,by decide +kernel,by decide +kernel⟩
noncomputable abbrev AR (e:Std×Int):PyData:=.tuple [.int (e.1.1:Int),.tuple (li e.1.2),.int e.2]
noncomputable abbrev d4 (P:List (Std×Int)):List PyData:=P.map AR
noncomputable def Db (s o:List Int) (lost:List Std) (rk:List Int) (i:Nat) (x:Std):Prop:=∃ g:Nat→Nat,(∀ q,q<(cE s o x).length→g q<i∧lost[g q]? = some (bJ s o x ((cE s o x).getD q [])))∧lA ((List.range (cE s o x).length).map fun q=>rk.getD (g q) 0+1) 0 (rk.getD i 0)
structure zj (s o:List Int) (lost:List Std) (kvs:List (aM×PyData)) (rk:List Int) (j:Nat):Prop where
 len:rk.length=j
 kl : kvs.length≤j
 val:∀ (i:Nat) x,i<j→lost[i]? = some x→bG kvs (kOf x)=some (.int (rk.getD i 0))∧0≤rk.getD i 0∧rk.getD i 0≤i ∧
  (∃ fr,fB s o x fr∧∀ r∈fr,∃ k:Nat,k<i∧lost[k]? = some (bJ s o x r)∧rk.getD k 0<rk.getD i 0)∧Db s o lost rk i x
noncomputable def wQ (s o:List Int) (P:List (Std×Int)):Prop:=∃ lost rk,P=lost.zip rk∧rk.length=lost.length∧lB s o lost∧mE s o (0,s) lost∧∀ (i:Nat) x,i<lost.length→lost[i]? = some x→Db s o lost rk i x
theorem x3 {l:List Int}{d a b:Int} (h:lA l d a) (h':lA l d b):a=b:=by
 rcases h with ⟨h1,h2⟩|⟨h1,h2⟩ <;> rcases h' with ⟨h3,h4⟩|⟨h3,h4⟩
 ·omega
 ·rw [h1] at h3;cases h3
 ·rw [h3] at h1;cases h1
 ·exact Int.le_antisymm (h4 _ h1) (h2 _ h3)
theorem wQ.one {s o:List Int}{P P':List (Std×Int)} (h:wQ s o P) (h':wQ s o P'):P=P':=by
 obtain ⟨lost,rk,rfl,hl,hk,he,hr⟩:=h
 obtain ⟨lost',rk',rfl,hl',hk',he',hr'⟩:=h'
 obtain rfl:=ug he he'
 have key:∀ n (i:Nat),i<n→i<lost.length→rk.getD i 0=rk'.getD i 0:=fun n=>by
  induction n with
  | zero=>intro i hi;omega
  | succ n ih =>
   intro i hi hil
   obtain ⟨g,g1,g2⟩:=hr i _ hil (D8 hil)
   obtain ⟨g',g3,g4⟩:=hr' i _ hil (D8 hil)
   have e:(List.range (cE s o lost[i]).length).map (fun q=>rk.getD (g q) 0+1)=(List.range (cE s o lost[i]).length).map (fun q=>rk'.getD (g' q) 0+1):=EZ fun q hq=>by
    obtain ⟨a1,a2⟩:=g1 q (Ey.mp hq)
    obtain ⟨b1,b2⟩:=g3 q (Ey.mp hq)
    have hgl:g q<lost.length:=by omega
    have:g q=g' q:=(List.getElem?_inj hgl hk.nd).mp (a2.trans b2.symm)
    rw [←this,ih (g q) (by omega) hgl]
   rw [e] at g2
   exact x3 g2 g4
 have:rk=rk':=Fa (by omega) fun i h1 h2=>by
  have:=key (i+1) i (by omega) (by omega)
  simpa [Ea,h1,h2] using this
 rw [this]
noncomputable def pO:DSp:=fun ss R=>∃ (s o:List Int),ss=[.fr (.tuple [.list (li s),.list (li o)])]∧TbL s o∧(vj s o (0,s)→R (.fr .none) [.un])∧∀ P:List (Std×Int),wQ s o P→pe s o P→P.length≤(jK s o).length→R (.ow (d4 P)) [.un]
theorem zj.pap {s o:List Int}{lost:List Std}{kvs:List (aM×PyData)}{rk:List Int} (hl:lB s o lost) (hf:lost.length<100000) (h:zj s o lost kvs rk lost.length):pe s o (lost.zip rk):=by
 have hz:(lost.zip rk).length=lost.length:=by rw[E8,h.len,Nat.min_self]
 have get:∀ (i:Nat) (hi:i<lost.length),(lost.zip rk)[i]? = some (lost[i],rk.getD i 0):=fun i hi=>by
  have hr:i<rk.length:=by rw[h.len];exact hi
  rw [D8 (by omega),Fj,Ea,D8 hr]
  rfl
 have mem:∀ e∈lost.zip rk,∃ (i:Nat) (hi:i<lost.length),e=(lost[i],rk.getD i 0):=fun e he=>by
  obtain ⟨i,hi,rfl⟩:=Ex he
  refine ⟨i,by omega,?_⟩
  have:=get i (by omega)
  rw [D8 hi] at this
  exact Option.some.inj this
 refine ⟨?_,fun e he=>?_,fun e he=>?_⟩
 ·obtain ⟨i,hi,e⟩:=Ex hl.bg
  exact ⟨_,Fb (get i hi),e⟩
 ·obtain ⟨i,hi,rfl⟩:=mem e he
  obtain ⟨_,a1,a2,_⟩:=h.val i _ hi (D8 hi)
  exact ⟨hl.is _ (EA hi),a1,by show rk.getD i 0<100000;omega⟩
 ·obtain ⟨i,hi,rfl⟩:=mem e he
  obtain ⟨_,_,_,⟨fr,f1,f2⟩,_⟩:=h.val i _ hi (D8 hi)
  refine ⟨fr,f1,fun r hr=>?_⟩
  obtain ⟨k,k1,k2,k3⟩:=f2 r hr
  have hk:k<lost.length:=(Ef.mp k2).1
  refine ⟨_,Fb (get k hk),?_,k3⟩
  rw [D8 hk] at k2
  exact Option.some.inj k2
theorem zj.next {s o:List Int}{lost:List Std}{kvs:List (aM×PyData)}{rk:List Int}{j:Nat}{x:Std}{fr:List (List Int)}{g:Nat→Nat}{m:Int} (efr:fr=cE s o x) (hk:zj s o lost kvs rk j) (hl:lB s o lost) (hj:j<lost.length) (hx:x=lost[j]) (hfr:fB s o x fr)
  (hg:∀ i,i<fr.length→g i<j∧lost[g i]? = some (bJ s o x (fr.getD i []))) (hm:lA ((List.range fr.length).map fun i=>rk.getD (g i) 0+1) 0 m):zj s o lost (fU kvs (kOf x) (.int m)) (rk++[m]) (j+1):=by
 have old:∀ i,i<j→(rk++[m]).getD i 0=rk.getD i 0:=fun i hi=>by
  rw [Ea,Ea,Es (by rw[hk.len];exact hi)]
 have new:(rk++[m]).getD j 0=m:=by
  rw [Ea,EX (by rw[hk.len];exact Ek _),hk.len,Nat.sub_self]
  rfl
 have rg:∀ i,i<fr.length→0≤rk.getD (g i) 0∧rk.getD (g i) 0<j:=fun i hi=>by
  obtain ⟨g1,g2⟩:=hg i hi
  obtain ⟨_,a1,a2,_⟩:=hk.val _ _ g1 g2
  exact ⟨a1,by omega⟩
 have mb:0≤m∧m≤j∧∀ i,i<fr.length→rk.getD (g i) 0<m:=by
  rcases hm with ⟨h1,h2⟩|⟨h1,h2⟩
  ·have e:fr.length=0:=by have:=congrArg List.length h1;simpa using this
   exact ⟨by omega,by omega,fun i hi=>by omega⟩
  ·obtain ⟨i,hi,e⟩:=Em.mp h1
   have:=rg i (Ey.mp hi)
   refine ⟨by omega,by omega,fun i' hi'=>?_⟩
   have:=h2 _ (Em.mpr ⟨i',Ey.mpr hi',rfl⟩)
   omega
 refine ⟨by rw[Ew,hk.len];rfl,Eg (nc _ _ _) (by have:=hk.kl;omega),fun i y hi hy=>?_⟩
 by_cases e:i=j
 ·subst e
  rw [D8 hj] at hy
  have hy:y=x:=by rw[hx];exact (Option.some.inj hy).symm
  subst hy
  rw [new]
  refine ⟨by rw[eU,if_pos rfl],mb.1,mb.2.1,⟨fr,hfr,fun r hr=>?_⟩,g,by rw[←efr];exact hg,?_⟩
  rotate_left
  ·rw [new,←efr,show (List.range fr.length).map (fun q=>(rk++[m]).getD (g q) 0+1)=(List.range fr.length).map fun q=>rk.getD (g q) 0+1 from EZ fun q hq=>by rw[old _ (hg q (Ey.mp hq)).1]]
   exact hm
  obtain ⟨q,hq,e⟩:=Ex hr
  have eq:fr.getD q []=r:=by rw[Ea,D8 hq,e];rfl
  obtain ⟨g1,g2⟩:=hg q hq
  rw [eq] at g2
  exact ⟨g q,g1,g2,by rw[old _ g1];exact mb.2.2 q hq⟩
 ·have hi':i<j:=by omega
  obtain ⟨a1,a2,a3,⟨fr',b1,b2⟩,g',c1,c2⟩:=hk.val i y hi' hy
  rw [old i hi']
  have hne:¬kOf y=kOf x:=fun z=>by
   have z:=gP z
   have hil:i<lost.length:=by omega
   have:=(List.getElem?_inj hil hl.nd).mp (show lost[i]? = lost[j]? by rw[hy,D8 hj,z,hx])
   omega
  refine ⟨by rw[eU,if_neg hne];exact a1,a2,a3,⟨fr',b1,fun r hr=>?_⟩,g',c1,?_⟩
  rotate_left
  ·rw [old i hi',show (List.range (cE s o y).length).map (fun q=>(rk++[m]).getD (g' q) 0+1)=(List.range (cE s o y).length).map fun q=>rk.getD (g' q) 0+1 from EZ fun q hq=>by rw[old _ (by have:=(c1 q (Ey.mp hq)).1;omega)]]
   exact c2
  obtain ⟨k,k1,k2,k3⟩:=b2 r hr
  exact ⟨k,k1,k2,by rw[old k (by omega)];exact k3⟩
theorem mv {f:Addr}{fd:FuncData} (F:Fun K "paper_of" "paper_of" bS f fd):bu K fd ["town"] []:=F.binds (ps:=["town"]) fun _ _ _ _ _ _ us hl=>us1 (Q:=fun us=>bindArgs _ ⟨us,[]⟩=pure (List.zip _ us)) hl fun _=>rfl
theorem lT {f:Addr}{fd:FuncData} (F:Fun K "paper_of" "paper_of" bS f fd) (B:Bn mg) (G_looked_through:Cal P w K mg base "looked_through" 9 (spD K pR)) (G_begun:Cal P w K mg base "begun" 1 (spD K iZ)) (G_full_rows:Cal P w K mg base "full_rows" 7 (spD K pW)) (G_behind:Cal P w K mg base "behind" 1 (spD K gb)):cG P w K mg base CX0 10 f fd ["town"] (spD K pO):=by
 refine okD (k:=9) F cw (fun ss R h=>?_) (by decide) (fun cdv A outer s H E hr=>⟨_,(aj (aV (i:=1) cw.nd rfl (Or.inl rfl) (az G_looked_through (hr.mono (by decide)) rfl (aa (qf 0) (aa (az G_begun (hr.mono (by decide)) rfl (aa (qf 0) ac)) ac))))
   (aj (fW (aF xS B7 (aR (ag (K:=K) rfl) mIx (qv 1) af (fun _ _=>rfl)) jZ (aA _)) (ai (aU jZ)) bw)
   (aj (aV (i:=2) cw.nd rfl (Or.inr rfl) vP)
   (aj (eK PassesOwn.never rfl (aD (K:=K) rfl (aR (ag (K:=K) rfl) mIx (qv 1) af (fun _ _=>rfl))) (al (i:=3) cw.nd rfl (Or.inr rfl)) (aj (bB (i:=4)  cw.nd rfl rfl (N':=["row", "town", "standing"]) (ix:=[none,some 0,some 3]) rfl (bP (N:=["town", "found", "ranks", "standing", "ahead"]) (sc0:=ad bS) rfl rfl (by decide +kernel)) (aD (K:=K) rfl (az G_full_rows (hr.mono (by decide)) rfl (aa (qf 0) (aa (qf 3) ac)))) (fun _ _ _ _=>(al (i:=0) (show List.Nodup (["row", "town", "standing"]:List Str) by decide +kernel) rfl (Or.inl rfl))) (fun _ _ _ _=>bo) (fun _ _ _ _=>(az G_behind (hr.mono (by decide)) rfl (aa (qf 1) (aa (qf 2) (aa (qf 0) ac))))))
   (zC 4 (ai (nu 2 (K:=K) rfl (hu2 hr) rfl (qf 3) (xl 2 (zK (K:=K) rfl rfl rfl B.max (aa (cf (N':=["other", "ranks"]) (ix:=[none,some 2]) rfl (bP (N:=["town", "found", "ranks", "standing", "ahead"]) (sc0:=ad bS) rfl rfl (by decide +kernel)) (aD (K:=K) rfl (qf 4)) (fun _ _ _ _=>(al (i:=0) (show List.Nodup (["other", "ranks"]:List Str) by decide +kernel) rfl (Or.inl rfl))) (fun _ _ _ _=>bo) (fun _ _ _ _=>(bO bX mI (aR (y9 (K:=K) rfl (hu2 hr)) y6 (qv 1) (qv 0) (fun _ _=>rfl)) af))) ac))))))))
   (qj 2 (ai (aU (cf (N':=["standing", "ranks"]) (ix:=[none,some 2]) rfl (bP (N:=["town", "found", "ranks", "standing", "ahead"]) (sc0:=ad bS) rfl rfl (by decide +kernel)) (aD (K:=K) rfl (aR (ag (K:=K) rfl) mIx (qv 1) af (fun _ _=>rfl))) (fun _ _ _ _=>(al (i:=0) (show List.Nodup (["standing", "ranks"]:List Str) by decide +kernel) rfl (Or.inl rfl))) (fun _ _ _ _=>bo) (fun _ _ _ _=>(bW (aa (aR (ag (K:=K) rfl) mIx (qv 0) af (fun _ _=>rfl)) (aa (aR (ag (K:=K) rfl) mIx (qv 0) af (fun _ _=>rfl)) (aa (aR (y9 (K:=K) rfl (hu2 hr)) y6 (qv 1) (qv 0) (fun _ _=>rfl)) ac))))))))))))),fun ss R h=>?_⟩)
 ·obtain ⟨s,o,rfl,_⟩:=h
  rfl
 obtain ⟨s,o,rfl,t,qn,q⟩:=h
 obtain ⟨t1,t2,t3,t4,t5,t6⟩:=id t
 walk_at "dx"
 refine ⟨s,o,rfl,?_⟩
 walk_at "dx"
 refine ⟨s,o,rfl,t,fun hR A B x=>?_,fun lost hl hE=>?_⟩
 ·walk_at "dx"
  exact qn hR
 have hfew:lost.length<100000:=FB hl.few t6
 have hh:∀ d,d<o.length→0≤o.getD d 0∧(s.length≤4∨o.getD d 0≤3):=fun d hd=>⟨t4 _ (a0 hd),t5.imp id fun h=>h _ (a0 hd)⟩
 have big:∀ n:Nat,n≤100000→n<sizeLine:=fun n h=>Ep (by omega) ae
 walk_at "dx"
 intro S
 walk_at "dx"
 refine bp (fun j env=>∃ (kvs:List (aM×PyData)) (rk:List Int) (a b:Sl),env=[.fr (.tuple [.list (li s),.list (li o)]),.fr (.tuple [.none,.list (lost.map stS)]),.tr S (dX kvs),a,b]∧zj s o lost kvs rk j) ⟨[],[],_,_,rfl,⟨rfl,Ek _,fun i x hi=>absurd hi (Nat.not_lt_zero _)⟩⟩ ?_ ?_
 ·rintro j env hj ⟨kvs,rk,a,b,rfl,hk⟩
  rw [D7] at hj
  rw [EN]
  have isx:=hl.is _ (EA hj)
  obtain ⟨fr0,f1,f2⟩:=hl.down j _ (D8 hj)
  obtain ⟨x,hx⟩:∃ x,x=lost[j]:=⟨_,rfl⟩
  rw [←hx] at isx f1 f2 ⊢
  walk_at "dx"
  refine ⟨s,o,x.2,x.1,rfl,t1,(hh _ isx.1).1,(hh _ isx.1).2,⟨isx.1,isx.2.1⟩,?_⟩
  have hfr:=jq s o x
  obtain ⟨hfl,hrl⟩:=gS (o:=o) (x:=x) t1 (hh _ isx.1).2
  obtain ⟨fr,efr⟩:∃ fr,fr=cE s o x:=⟨_,rfl⟩
  rw [show ((x.1,x.2):Std)=x from rfl,←efr]
  rw [←efr] at hfr hfl hrl
  walk_at "dx"
  refine cj (fun i=>stS (bJ s o x (fr.getD i []))) (by rw[D7];omega) (fun i hi Q hQ=>?_) ?_
  ·rw [iN]
   walk_at "dx"
   refine ⟨s,o,x.2,fr.getD i [],x.1,rfl,t2,isx.2.1,by omega,?_⟩
   walk_at "dx"
   exact hQ
  rw [show (lr fr).length=fr.length from D7 ..]
  have toR:∀ i,i<fr.length→∃ k:Nat,k<j∧lost[k]? = some (bJ s o x (fr.getD i [])):=fun i hi=>by
   have hm:fr.getD i []∈fr:=by rw[Ea,D8 hi];exact EA hi
   exact f2 _ (hfr.same f1 hm)
  obtain ⟨g,hg⟩:=Classical.axiomOfChoice (r:=fun (i:Nat) (k:Nat)=>i<fr.length→k<j∧lost[k]? = some (bJ s o x (fr.getD i []))) fun i=>by
   by_cases hi:i<fr.length
   ·obtain ⟨k,h1,h2⟩:=toR i hi
    exact ⟨k,fun _=>⟨h1,h2⟩⟩
   ·exact ⟨0,fun z=>absurd z hi⟩
  walk_at "dx"
  refine cj (fun i=>.int (rk.getD (g i) 0+1)) (by rw[D7,EE];omega) (fun i hi Q hQ=>?_) ?_
  ·rw [D7,EE] at hi
   rw [EN,List.getElem_range]
   obtain ⟨g1,g2⟩:=hg i hi
   have v:=(hk.val _ _ g1 g2).1
   walk_at "dx"
   exact ⟨kvs,rfl,kOf (bJ s o x (fr.getD i [])),rfl,rfl,_,v,_,rfl,hQ⟩
  rw [D7,EE,show (List.range fr.length).map (fun i=>PyData.int (rk.getD (g i) 0+1))=li ((List.range fr.length).map fun i=>rk.getD (g i) 0+1) by
   show _=List.map _ (List.map _ _)
   rw [EI];rfl]
  walk_at "dx"
  intro m hm
  refine ⟨⟨kvs,rfl⟩,kvs,rfl,kOf x,rfl,rfl,big _ (by have:=hk.kl;omega),fU kvs (kOf x) (.int m),rfl,rk++[m],?_⟩
  exact hk.next efr hl hj hx hfr hg hm
 ·rintro env ⟨kvs,rk,a,b,rfl,hk⟩
  rw [D7] at hk
  walk_at "dx"
  have vi:∀ i (hi:i<lost.length),bG kvs (kOf lost[i])=some (.int (rk.getD i 0)):=fun i hi=>(hk.val i _ hi (D8 hi)).1
  refine cj (fun i=>AR (lost.getD i (0,[]),rk.getD i 0)) (by rw[D7];omega) (fun i hi Q hQ=>?_) ?_
  ·rw [D7] at hi
   rw [EN]
   have e:lost.getD i (0,[])=lost[i]:=by rw[Ea,D8 hi];rfl
   rw [e] at hQ
   walk_at "dx"
   exact ⟨kvs,rfl,kOf lost[i],rfl,rfl,_,vi i hi,Eg (by decide) ae,hQ⟩
  rw [show (List.range (lost.map stS).length).map (fun i=>AR (lost.getD i (0,[]),rk.getD i 0))=d4 (lost.zip rk) by
   apply Fa
   ·simp [hk.len]
   ·intro i h1 h2
    have h1':i<lost.length:=by simpa using h1
    have h2':i<rk.length:=by rw[hk.len];exact h1'
    simp [Ea,h1',h2']]
  walk_at "dx"
  exact q _ ⟨lost,rk,rfl,hk.len,hl,hE,fun i x hi hx=>(hk.val i x hi hx).2.2.2.2⟩ (hk.pap hl hfew) (by rw[E8,hk.len,Nat.min_self];exact hl.few)
noncomputable def iT (l:List Int) (c:Nat):List Int:=l.take c++(l.getD c 0 - 1)::l.drop (c+1)
noncomputable def nwL (l:List Int):List (List Int):=((List.range l.length).filter fun c=>decide (1<l.getD c 0)).map (iT l)
theorem gi {l:List Int}{c:Nat} (h:c<l.length):(iT l c).length=l.length:=by
 unfold iT
 rw [Ew,ES,EV,FH]
 omega
theorem jw {l:List Int}{c:Nat} (h:c<l.length) (k:Nat):(iT l c).getD k 0=if k=c then l.getD c 0 - 1 else l.getD k 0:=by
 unfold iT
 have ht:(l.take c).length=c:=by rw[EV];omega
 by_cases h1:k<c
 ·rw [if_neg (by omega),Ea,Es (by omega),List.getElem?_take,if_pos h1,←Ea]
 ·rw [Ea,EX (by omega),ht]
  by_cases h2:k=c
  ·rw [if_pos h2,h2,Nat.sub_self]
   rfl
  ·rw [if_neg h2,show k - c=(k - c - 1)+1 by omega,List.getElem?_cons_succ,List.getElem?_drop,show c+1+(k - c - 1)=k by omega,←Ea]
theorem uS {l:List Int}{c:Nat} (h:c<l.length):(iT l c).sum=l.sum - 1:=by
 have e:l=l.take c++l.getD c 0::l.drop (c+1):=by
  rw [Ea,D8 h]
  show l=l.take c++l[c]::l.drop (c+1)
  rw [←E6 h,List.take_append_drop]
 have e2:=congrArg List.sum e
 unfold iT
 rw [FO,List.sum_cons] at e2 ⊢
 omega
theorem vp:∀ {a b:List Int},a.length=b.length→(∀ c,c<b.length→a.getD c 0≤b.getD c 0)→a.sum≤b.sum
 | [],[],_,_=>Fe _
 | x::a,y::b,hl,h=>by
  have h0:=h 0 (by simp)
  have ih:=vp (a:=a) (b:=b) (by simpa using hl) fun c hc=>by simpa using h (c+1) (by simpa using hc)
  have h0:x≤y:=by simpa using h0
  rw [List.sum_cons,List.sum_cons]
  omega
theorem qX {l l':List Int}:l'∈nwL l↔∃ c,c<l.length∧1<l.getD c 0∧l'=iT l c:=by
 unfold nwL
 rw [Em]
 constructor
 ·rintro ⟨c,hc,rfl⟩
  obtain ⟨h1,h2⟩:=EC.mp hc
  exact ⟨c,Ey.mp h1,of_decide_eq_true h2,rfl⟩
 ·rintro ⟨c,h1,h2,rfl⟩
  exact ⟨c,EC.mpr ⟨Ey.mpr h1,decide_eq_true h2⟩,rfl⟩
theorem xX (l:List Int):(nwL l).length≤l.length:=by
 unfold nwL
 rw [D7]
 exact Eg (EU _ _) (by rw[EE];exact Ek _)
theorem Aj {s o:List Int}{x y:Std}{l':List Int} (h:noB s o x y) (hl:l'∈nwL y.2):noB s o x (y.1,l'):=by
 obtain ⟨c,h1,h2,rfl⟩:=qX.mp hl
 obtain ⟨i1,i2,i3,i4⟩:=h
 have hc:c<s.length:=by rw[←i1.2.1];exact h1
 refine ⟨⟨i1.1,by rw[gi h1];exact i1.2.1,fun k hk=>?_⟩,i2,i3,fun k hk=>?_⟩
 ·show 1≤(iT y.2 c).getD k 0∧_
  have:=i1.2.2 k hk
  rw [jw h1]
  split
  ·rename_i e
   subst e
   omega
  ·exact this
 ·show (iT y.2 c).getD k 0≤_
  have:=i4 k hk
  rw [jw h1]
  split
  ·rename_i e
   subst e
   omega
  ·exact this
theorem A9 {s o:List Int}{g:Std→Option Int} (cl:∀ z v,g z=some v→∀ l'∈nwL z.2,∃ v',g (z.1,l')=some v'∧v'≤v):∀ (n:Nat) (x z:Std) (v:Int),x.2.sum - z.2.sum≤n→noB s o x z→g x=some v→∃ v',g z=some v'∧v'≤v
 | n, x,z,v,hn,hb,hg=>by
  obtain ⟨i1,i2,i3,i4⟩:=id hb
  have hlen:z.2.length=x.2.length:=by rw[i1.2.1,i3]
  by_cases h:∃ c,c<s.length∧z.2.getD c 0<x.2.getD c 0
  ·obtain ⟨c,hc,hlt⟩:=h
   have hcx:c<x.2.length:=by rw[i3];exact hc
   have z1:=(i1.2.2 c hc).1
   obtain ⟨v1,g1,l1⟩:=cl x v hg (iT x.2 c) (qX.mpr ⟨c,hcx,by omega,rfl⟩)
   have hb':noB s o (x.1,iT x.2 c) z:=by
    refine ⟨i1,i2,by rw[gi hcx];exact i3,fun k hk=>?_⟩
    show z.2.getD k 0≤(iT x.2 c).getD k 0
    have:=i4 k hk
    rw [jw hcx]
    split
    ·rename_i e
     subst e
     omega
    ·exact this
   have hs:=vp (a:=z.2) (b:=iT x.2 c) (by rw[gi hcx];exact hlen) fun k hk=>hb'.2.2.2 k (by rw[gi hcx,i3] at hk;exact hk)
   have e:=uS hcx
   cases n with
   | zero=>omega
   | succ n =>
    obtain ⟨v2,g2,l2⟩:=A9 cl n (x.1,iT x.2 c) z v1 (by show (iT x.2 c).sum - z.2.sum≤n;omega) hb' g1
    exact ⟨v2,g2,Int.le_trans l2 l1⟩
  ·have e:x=z:=by
    refine Prod.ext i2 (Fa hlen.symm fun c h1 h2=>?_)
    have hc:c<s.length:=by rw[←i3];exact h1
    have a:=i4 c hc
    have b:¬z.2.getD c 0<x.2.getD c 0:=fun q=>h ⟨c,hc,q⟩
    rw [Ea,D8 h2,Ea,D8 h1] at a b
    simp only [Option.getD_some] at a b
    omega
   exact ⟨v,e▸hg,Fe _⟩
noncomputable def rkv:PyData→Option Int
 | .int v=>some v
 | _=>none
noncomputable def gR (kvs:List (aM×PyData)) (z:Std):Option Int:=(bG kvs (kOf z)).bind rkv
theorem iR (kvs:List (aM×PyData)) (z:Std) (v:Int) (y:Std):gR (fU kvs (kOf z) (.int v)) y=if y=z then some v else gR kvs y:=by
 unfold gR
 rw [eU]
 by_cases h:y=z
 ·rw [if_pos h,if_pos (by rw[h])]
  rfl
 ·rw [if_neg h,if_neg fun q=>h (gP q)]
theorem kL {kvs:List (aM×PyData)}{k:aM} (h:k∈kvs.map (·.1)):(bG kvs k).isSome=true:=by
 induction kvs with
 | nil=>cases h
 | cons p kvs ih =>
  rw [bD]
  by_cases e:p.1=k
  ·rw [if_pos e];rfl
  ·rw [if_neg e]
   rw [Eu,En] at h
   rcases h with h|h
   ·exact absurd h.symm e
   ·exact ih h
structure LrI (s o:List Int) (D:List (Std×Int)) (e:Std×Int) (kvs:List (aM×PyData)) (ks W:List Std):Prop where
 keys:kvs.map (·.1)=ks.map kOf
 nd : ks.Nodup
 is : ∀ z∈ks,IsS s o z
 snd:∀ z d,bG kvs (kOf z)=some d→∃ f∈D++[e],noB s o f.1 z∧d=.int f.2
 cl : ∀ z v,gR kvs z=some v→∀ l'∈nwL z.2,(∃ v',gR kvs (z.1,l')=some v'∧v'≤v)∨((z.1,l')∈W∧v=e.2)
 wt : ∀ z∈W,noB s o e.1 z
 cov:e.1∈W∨∃ v,gR kvs e.1=some v∧v≤e.2
 cov0:∀ f∈D,∃ v,gR kvs f.1=some v∧v≤f.2
structure LrO (s o:List Int) (D:List (Std×Int)) (kvs:List (aM×PyData)) (ks:List Std):Prop where
 keys:kvs.map (·.1)=ks.map kOf
 nd : ks.Nodup
 is : ∀ z∈ks,IsS s o z
 snd:∀ z d,bG kvs (kOf z)=some d→∃ f∈D,noB s o f.1 z∧d=.int f.2
 cl : ∀ z v,gR kvs z=some v→∀ l'∈nwL z.2,∃ v',gR kvs (z.1,l')=some v'∧v'≤v
 cov:∀ f∈D,∃ v,gR kvs f.1=some v∧v≤f.2
section
variable {s o:List Int}{D:List (Std×Int)}{e:Std×Int}{kvs:List (aM×PyData)}{ks W:List Std}
theorem LrI.few (h:LrI s o D e kvs ks W):kvs.length≤(jK s o).length:=by
 have e1:=congrArg List.length h.keys
 rw [D7,D7] at e1
 rw [e1]
 exact cB h.nd fun x hx=>eO (h.is x hx)
theorem LrO.start:LrO s o [] [] []:=⟨rfl,Fr,fun z hz=>(by cases hz),fun z d h=>(by cases h),fun z v h=>(by cases h),fun f hf=>(by cases hf)⟩
theorem LrO.enter (h:LrO s o D kvs ks) (he:IsS s o e.1):LrI s o D e kvs ks [e.1] :=
 ⟨h.keys,h.nd,h.is,fun z d q=>by obtain⟨f,m,a⟩:=h.snd z d q;exact⟨f,Ec _ m,a⟩,fun z v q l' m=>.inl (h.cl z v q l' m),fun z hz=>by rw[Eb.mp hz];exact⟨he,rfl,he.2.1,fun _ _=>Fe _⟩,.inl Eh,h.cov⟩
theorem LrI.leave (h:LrI s o D e kvs ks []):LrO s o (D++[e]) kvs ks:=by
 refine ⟨h.keys,h.nd,h.is,h.snd,fun z v q l' m=>?_,fun f hf=>?_⟩
 ·rcases h.cl z v q l' m with a|⟨a,_⟩
  ·exact a
  ·cases a
 ·rcases Ed.mp hf with hf|hf
  ·exact h.cov0 f hf
  ·rw [Eb.mp hf]
   rcases h.cov with a|a
   ·cases a
   ·exact a
theorem LrI.low (h:LrI s o D e kvs ks W) (hD:∀ f∈D,f.2≤e.2) {z:Std}{d:PyData} (q:bG kvs (kOf z)=some d):∃ v,gR kvs z=some v∧v≤e.2:=by
 obtain ⟨f,m,_,rfl⟩:=h.snd z d q
 refine ⟨f.2,by unfold gR;rw[q];rfl,?_⟩
 rcases Ed.mp m with m|m
 ·exact hD f m
 ·rw [Eb.mp m]
  exact Fe _
theorem LrI.skip {z:Std} (h:LrI s o D e kvs ks (W++[z])) (hD:∀ f∈D,f.2≤e.2) (q:(bG kvs (kOf z)).isSome=true):LrI s o D e kvs ks W:=by
 obtain ⟨d,q⟩:=FP.mp q
 obtain ⟨v0,g0,l0⟩:=h.low hD q
 have out:∀ y,y∈W++[z]→y∈W∨y=z:=fun y hy=>(Ed.mp hy).imp id Eb.mp
 refine ⟨h.keys,h.nd,h.is,h.snd,fun y v g l' m=>?_,fun y hy=>h.wt y (Ec _ hy),?_,h.cov0⟩
 ·rcases h.cl y v g l' m with a|⟨a,rfl⟩
  ·exact .inl a
  ·rcases out _ a with a|a
   ·exact .inr ⟨a,rfl⟩
   ·exact .inl ⟨v0,by rw[a];exact g0,l0⟩
 ·rcases h.cov with a|a
  ·rcases out _ a with a|a
   ·exact .inl a
   ·exact .inr ⟨v0,by rw[a];exact g0,l0⟩
  ·exact .inr a
theorem LrI.add {z:Std} (h:LrI s o D e kvs ks (W++[z])) (q:(bG kvs (kOf z)).isSome=false):LrI s o D e (fU kvs (kOf z) (.int e.2)) (ks++[z]) (W++(nwL z.2).map fun l=>(z.1,l)):=by
 have hz:=h.wt z (by simp)
 have g0:gR kvs z=none:=by
  unfold gR
  cases e1:bG kvs (kOf z) with
  | none=>rfl
  | some d=>rw[e1] at q;cases q
 have nin:z ∉ ks:=fun m=>by
  have:=kL (kvs:=kvs) (k:=kOf z) (by rw[h.keys];exact Fz m)
  rw [q] at this
  cases this
 have out:∀ y,y∈W++[z]→y∈W∨y=z:=fun y hy=>(Ed.mp hy).imp id Eb.mp
 refine ⟨?_,?_,fun y hy=>?_,fun y d g=>?_,fun y v g l' m=>?_,fun y hy=>?_,?_,fun f hf=>?_⟩
 ·unfold fU
  rw [if_neg (by rw[q];exact Et),EH,EH,h.keys]
  rfl
 ·exact Ei.mpr ⟨h.nd,by simp,fun a ha b hb=>by
   rw [Eb.mp hb]
   exact fun e=>nin (e▸ha)⟩
 ·rcases Ed.mp hy with hy|hy
  ·exact h.is y hy
  ·rw [Eb.mp hy];exact hz.1
 ·rw [eU] at g
  by_cases ey:kOf y=kOf z
  ·rw [if_pos ey] at g
   cases g
   rw [gP ey]
   exact ⟨e,by simp,hz,rfl⟩
  ·rw [if_neg ey] at g
   exact h.snd y d g
 ·rw [iR] at g
  by_cases ey:y=z
  ·rw [if_pos ey] at g
   cases g
   subst ey
   exact .inr ⟨D9 _ (Em.mpr ⟨l',m,rfl⟩),rfl⟩
  ·rw [if_neg ey] at g
   rcases h.cl y v g l' m with ⟨v',a,b⟩|⟨a,rfl⟩
   ·refine .inl ⟨v',?_,b⟩
    rw [iR,if_neg]
    ·exact a
    ·intro ez
     rw [ez,g0] at a
     cases a
   ·rcases out _ a with a|a
    ·exact .inr ⟨Ec _ a,rfl⟩
    ·exact .inl ⟨e.2,by rw[iR,if_pos a],Fe _⟩
 ·rcases Ed.mp hy with hy|hy
  ·exact h.wt y (Ec _ hy)
  ·obtain ⟨l',m,rfl⟩:=Em.mp hy
   exact Aj hz m
 ·rcases h.cov with a|⟨v,a,b⟩
  ·rcases out _ a with a|a
   ·exact .inl (Ec _ a)
   ·exact .inr ⟨e.2,by rw[iR,if_pos a],Fe _⟩
  ·refine .inr ⟨v,?_,b⟩
   rw [iR,if_neg]
   ·exact a
   ·intro ez
    rw [ez,g0] at a
    cases a
 ·obtain ⟨v,a,b⟩:=h.cov0 f hf
  refine ⟨v,?_,b⟩
  rw [iR,if_neg]
  ·exact a
  ·intro ez
   rw [ez,g0] at a
   cases a
noncomputable def lrM (N:Nat) (kvs:List (aM×PyData)) (W:List Std):Nat:=(N - kvs.length)*8+W.length
end
theorem si (l:List Int) {c:Nat} (h:c≤l.length):jy (li l) none (some (c:Int))=li (l.take c):=by
 unfold jy
 have e:HT.sIx (li l).length (li l).length (some (c:Int))=min c (li l).length:=HT.sIx_nat _ _ c
 rw [e,HT.sIx_none,D7,List.drop_zero,Nat.sub_zero,FN h]
 simp [List.map_take]
theorem sk (l:List Int) {c:Nat} (h:c≤l.length):jy (li l) (some (c:Int)) none=li (l.drop c):=by
 unfold jy
 have e:HT.sIx (li l).length 0 (some (c:Int))=min c (li l).length:=HT.sIx_nat _ _ c
 rw [e,HT.sIx_none,D7,FN h,EY (by simp)]
 simp [List.map_drop]
noncomputable abbrev bH:Stmt:=top 12
theorem c8:ar ["standing", "lefts", "places"] ["standing"] (ad bH):=⟨rfl,rfl,rfl,by decide +kernel,rfl,by decide +kernel,by decide +kernel⟩
noncomputable def pP:DSp:=fun ss R=>∃ z:Std,ss=[.fr (stS z)]∧z.2.length≤1000∧R (.ow ((nwL z.2).map fun l=>stS (z.1,l))) [.un]
theorem jD {f:Addr}{fd:FuncData} (F:Fun K "next_worse" "next_worse" bH f fd):bu K fd ["standing"] []:=F.binds (ps:=["standing"]) fun _ _ _ _ _ _ us hl=>us1 (Q:=fun us=>bindArgs _ ⟨us,[]⟩=pure (List.zip _ us)) hl fun _=>rfl
theorem jb {f:Addr}{fd:FuncData} (F:Fun K "next_worse" "next_worse" bH f fd) (B:Bn mg):cG P w K mg base CX0 1 f fd ["standing"] (spD K pP):=by
 refine okD (k:=0) F c8 (fun ss R h=>?_) (by decide) (fun cdv A outer s H E hr=>⟨_,(bz (aV (i:=1) c8.nd rfl (Or.inr rfl) (aR (ag (K:=K) rfl) mIx (qv 0) af (fun _ _=>rfl)))
   (bz (bB (i:=2)  c8.nd rfl rfl (N':=["place", "left"]) (ix:=[none,none]) rfl (bP (N:=["standing", "lefts", "places"]) (sc0:=ad bH) rfl rfl (by decide +kernel)) (ja true (K:=K) rfl rfl B.enumerate (aa (qf 1) ac)) (fun _ _ _ _=>(gE (K:=K) (n:=2) rfl rfl (be (al (i:=0) (show List.Nodup (["place", "left"]:List Str) by decide +kernel) rfl (Or.inl rfl)) (be (al (i:=1) (show List.Nodup (["place", "left"]:List Str) by decide +kernel) rfl (Or.inl rfl)) dY)))) (fun _ _ _ _=>(cQ (aF xT mB (qv 1) af (aA _)))) (fun _ _ _ _=>(qf 0)))
   (ai (aU (cf (N':=["place", "standing", "lefts"]) (ix:=[none,some 0,some 1]) rfl (bP (N:=["standing", "lefts", "places"]) (sc0:=ad bH) rfl rfl (by decide +kernel)) (aD (K:=K) rfl (qf 2)) (fun _ _ _ _=>(al (i:=0) (show List.Nodup (["place", "standing", "lefts"]:List Str) by decide +kernel) rfl (Or.inl rfl))) (fun _ _ _ _=>bo) (fun _ _ _ _=>(bW (aa (aR (ag (K:=K) rfl) mIx (qv 1) af (fun _ _=>rfl)) (aa (j0 (K:=K) rfl (j0 (K:=K) rfl (zI (K:=K) rfl (qv 2) fe (fb (qv 0))) (bW (aa (bO qN mI (aR (ag (K:=K) rfl) mIx (qv 2) (qv 0) (fun _ _=>rfl)) af) ac))) (zI (K:=K) rfl (qv 2) (fb (bO bX mI (qv 0) af)) fe)) ac))))))))),fun ss R h=>?_⟩)
 ·obtain ⟨z,rfl,_⟩:=h
  rfl
 obtain ⟨z,rfl,hl,q⟩:=h
 walk_at "dd"
 refine bE (fun i=>decide (1<z.2.getD i 0)) (fun i=>.int (i:Int)) (by rw[a8,D7];omega) (fun i hi Q Q' h1 h2=>?_) ?_
 ·rw [dF,cV]
  walk_at "dd"
  exact dW (fun c=>h1 (decide_eq_true c)) fun c=>h2 (decide_eq_false c)
 rw [a8,D7]
 obtain ⟨cs,hcs⟩:∃ cs,cs=(List.range z.2.length).filter fun i=>decide (1<z.2.getD i 0):=⟨_,rfl⟩
 rw [←hcs]
 have hc:∀ j,j<cs.length→cs.getD j 0<z.2.length:=fun j hj=>by
  have:cs.getD j 0∈cs:=by rw[Ea,D8 hj];exact EA hj
  have hall:∀ x∈cs,x<z.2.length:=fun x hx=>by
   rw [hcs] at hx
   exact Ey.mp (EC.mp hx).1
  exact hall _ this
 have hcl:cs.length≤z.2.length:=by
  rw [hcs]
  exact Eg (EU _ _) (by rw[EE];exact Ek _)
 walk_at "dd"
 refine cj (fun j=>stS (z.1,iT z.2 (cs.getD j 0))) (by rw[D7];omega) (fun j hj Q hQ=>?_) ?_
 ·rw [D7] at hj
  have hcj:=hc j hj
  have e:cs[j]=cs.getD j 0:=by rw[Ea,D8 hj];rfl
  rw [EN,e]
  generalize cs.getD j 0=c at *
  walk_at "dd"
  have x1:HT.sIx (li z.2).length (li z.2).length (some (c:Int))=min c (li z.2).length:=HT.sIx_nat _ _ c
  have x2:HT.sIx (li z.2).length 0 (some ((c:Int)+1))=min (c+1) (li z.2).length:=HT.sIx_nat _ _ (c+1)
  have hll:(li z.2).length=z.2.length:=D7 ..
  have k1:=si z.2 (Nat.le_of_lt hcj)
  have k2:jy (li z.2) (some ((c:Int)+1)) none=li (z.2.drop (c+1)):=sk z.2 (c:=c+1) hcj
  refine ⟨fun q=>?_,_,b7 (ns:=z.2) hcj,_,rfl,Eg (by decide) ae,?_,fun q=>?_,?_,Eg (by decide) ae,?_⟩
  ·rw [x1,hll] at q
   omega
  ·rw [k1,D7,EV]
   exact Eg (by omega) ae
  ·rw [x2,hll] at q
   omega
  ·rw [k1,k2,Ew,D7,D7,EV,FH,E3]
   exact Eg (by omega) ae
  ·rw [k1,k2]
   rw [show li (z.2.take c)++[PyData.int (z.2.getD c 0 - 1)]++li (z.2.drop (c+1))=li (iT z.2 c) by unfold iT;simp]
   exact hQ
 rw [D7,show (List.range cs.length).map (fun j=>stS (z.1,iT z.2 (cs.getD j 0)))=(nwL z.2).map fun l=>stS (z.1,l) by
  unfold nwL
  rw [←hcs,EI]
  apply Fa
  ·simp
  ·intro i h1 h2
   have hi:i<cs.length:=by simpa using h1
   simp [Ea,hi]]
 walk_at "dd"
 exact q
noncomputable def DQ:PyData→Int
 | .tuple [_,_,.int n]=>n
 | _=>0
noncomputable def uN (d:PyData):PyData:=.int (DQ d)
noncomputable def dR (ds:List PyData):List (Int×List Int):=(ds.map uN).map cb
theorem oR (P:List (Std×Int)):∃ Q:List (Std×Int),ca (ax (dR (d4 P))) (d4 P) .none=d4 Q∧Q.Perm P∧Q.Pairwise fun a b=>a.2≤b.2:=by
 have hkl:(dR (d4 P)).length=P.length:=by unfold dR;rw[D7,D7,D7]
 have hlt:∀ i∈ax (dR (d4 P)),i<P.length:=fun i hi=>by rw[←hkl];exact cm i hi
 refine ⟨ca (ax (dR (d4 P))) P ((0,[]),0),?_,dE (by have:=aY (dR (d4 P));rwa [hkl] at this),?_⟩
 ·unfold ca
  show _=List.map _ (List.map _ _)
  rw [EI]
  refine EZ fun i hi=>?_
  have:=hlt i hi
  simp [Ea,this]
 ·rw [List.pairwise_iff_getElem]
  intro a b ha hb hab
  have hl:(ax (dR (d4 P))).length=P.length:=by rw[(aY _).length_eq,EE,hkl]
  have hb':b<P.length:=by
   unfold ca at hb
   rw [D7,hl] at hb
   exact hb
  have q:=pL (ks:=dR (d4 P)) (Nat.le_of_lt hab) (by rw[hkl];exact hb')
  have mem:∀ c,c<P.length→(ax (dR (d4 P))).getD c 0<P.length:=fun c hc=>by
   rw [Ea,D8 (by rw[hl];exact hc)]
   exact hlt _ (EA _)
  have key:∀ c,c<P.length→(dR (d4 P)).getD c (0,[])=((P.getD c ((0,[]),0)).2,[]):=fun c hc=>by
   have e:dR (d4 P)=P.map fun e=>(e.2,[]):=by
    show ((P.map _).map uN).map cb=_
    rw [EI,EI]
    rfl
   rw [e]
   simp [Ea,hc]
  have val:∀ c (hc:c<(ca (ax (dR (d4 P))) P ((0,[]),0)).length),c<P.length→(ca (ax (dR (d4 P))) P ((0,[]),0))[c]=P.getD ((ax (dR (d4 P))).getD c 0) ((0,[]),0):=fun c hc hcn=>by
   simp only [ca,EN]
   rw [Ea (l:=ax (dR (d4 P))),D8 (by rw[hl];exact hcn)]
   rfl
  rw [key _ (mem b hb'),key _ (mem a (by omega))] at q
  rw [val a ha (by omega),val b hb hb']
  unfold cD at q
  split at q
  ·rename_i h
   exact Int.le_of_eq h.symm
  ·have:=of_decide_eq_false q
   omega
structure CQ (s o:List Int) (P:List (Std×Int)) (kvs:List (aM×PyData)):Prop where
 few:kvs.length≤(jK s o).length
 snd:∀ z d,bG kvs (kOf z)=some d→∃ f∈P,noB s o f.1 z∧d=.int f.2
 cov:∀ f∈P,∀ z,noB s o f.1 z→∃ v,bG kvs (kOf z)=some (.int v)∧v≤f.2
noncomputable abbrev cp:Stmt:=top 13
theorem bA:ar ["paper", "ranks", "entry", "waiting", "standing"] ["paper"] (ad cp):=⟨rfl,rfl,rfl,by decide +kernel,rfl,by decide +kernel,by decide +kernel⟩
noncomputable def pS:DSp:=fun ss R=>∃ (s o:List Int) (P:List (Std×Int)),ss=[.fr (.list (d4 P))]∧P.length<64∧s.length≤6∧(jK s o).length<100000∧(∀ e∈P,IsS s o e.1)∧∀ kvs,CQ s o P kvs→R (.fr (dX kvs)) [.un]
theorem iw {f:Addr}{fd:FuncData} (F:Fun K "least_ranks" "least_ranks" cp f fd):bu K fd ["paper"] []:=F.binds (ps:=["paper"]) fun _ _ _ _ _ _ us hl=>us1 (Q:=fun us=>bindArgs _ ⟨us,[]⟩=pure (List.zip _ us)) hl fun _=>rfl
theorem ij {f:Addr}{fd:FuncData} (F:Fun K "least_ranks" "least_ranks" cp f fd) (B:Bn mg) (L:pi K base "least_ranks" fd) (G_next_worse:Cal P w K mg base "next_worse" 1 (spD K pP)):cG P w K mg base CX0 7 f fd ["paper"] (spD K pS):=by
 refine B6 (k:=6) F bA (fun ss R h=>?_) (by decide) (fun cdv hcd A outer s H E hr=>⟨_,(aj (aV (i:=1) bA.nd rfl (Or.inl rfl) vP)
   (aj (eK PassesOwn.never rfl (aD (K:=K) rfl (vO (p := "one") (K:=K) rfl (let ⟨c,T,a,b,d⟩:=L;⟨c,T,hcd.trans a,b,d⟩) (hr.mono (by decide)) rfl B.sorted (aa (qv 0) ac) ⟨rfl,rfl,rfl,by decide,rfl,fun x hx=>by rw[Eb.mp hx];exact .inl rfl,by decide⟩ (fun _ _ _ _ _=>rfl) rfl rfl (fun _ _ _ _ _=>(aR (ag (K:=K) rfl) mIx (qv 0) af (fun _ _=>rfl))))) (al (i:=2) bA.nd rfl (Or.inl rfl)) (aj (aV (i:=3) bA.nd rfl (Or.inl rfl) (cI (aa (bW (aa (aR (ag (K:=K) rfl) mIx (qv 2) af (fun _ _=>rfl)) (aa (aR (ag (K:=K) rfl) mIx (qv 2) af (fun _ _=>rfl)) ac))) ac)))
   (ai (qk PassesOwn.never (nt (K:=K) rfl (qv 3)) (aj (aV (i:=4) bA.nd rfl (Or.inl rfl) (xk 3 (K:=K) rfl rfl))
   (ai (fW (aF (mi (K:=K) rfl (hu2 hr)) l7 (qv 4) (qv 1) (by with_unfolding_all rfl)) (aj (nu 1 (K:=K) rfl (hu2 hr) rfl (qf 4) (aR (ag (K:=K) rfl) mIx (qv 2) af (fun _ _=>rfl)))
   (ai (dD (BZ 3 (K:=K) rfl rfl (aa (az G_next_worse (hr.mono (by decide)) rfl (aa (qf 4) ac)) ac))))) bw)))))))
   (qj 1 (ai (aU (qv 1)))))),fun ss R h=>?_⟩)
 ·obtain ⟨s,o,P,rfl,_⟩:=h
  rfl
 obtain ⟨s,o,P,rfl,hP,hs,hN,his,q⟩:=h
 walk_at "dx"
 intro S
 walk_at "dx"
 obtain ⟨Q,eQ,pQ,aQ⟩:=oR P
 refine ⟨by rw[D7];exact hP,uN,.inr (.inl fun d hd=>?_),fun d hd=>?_,?_⟩
 ·obtain ⟨e,_,rfl⟩:=Em.mp hd
  exact ⟨_,rfl⟩
 ·obtain ⟨e,_,rfl⟩:=Em.mp hd
  unfold rp
  walk_at "dd"
  rfl
 rw [show List.map cb (List.map uN (d4 P))=dR (d4 P) from rfl,eQ]
 have big:∀ n:Nat,n≤1000000→n≤sizeLine:=fun n h=>Eg h ae
 have hQl:Q.length<64:=by rw[pQ.length_eq];exact hP
 refine bp (fun i env=>∃ (kvs:List (aM×PyData)) (ks:List Std) (a b c:Sl),env=[.fr (.list (d4 P)),.tr S (dX kvs),a,b,c]∧LrO s o (Q.take i) kvs ks) ⟨[],[],_,_,_,rfl,LrO.start⟩ ?_ ?_
 ·rintro i env hi ⟨kvs,ks,a,b,c,rfl,hk⟩
  rw [D7] at hi
  rw [EN]
  have hD:∀ f∈Q.take i,f.2≤Q[i].2:=fun f hf=>by
   obtain ⟨j,hj,rfl⟩:=Ex hf
   rw [EV] at hj
   rw [List.getElem_take]
   exact List.pairwise_iff_getElem.mp aQ j i (by omega) hi (by omega)
  have et:Q.take (i+1)=Q.take i++[Q[i]]:=by rw[FE,D8 hi];rfl
  rw [et]
  have ise:=his _ (pQ.mem_iff.mp (EA hi))
  generalize Q[i]=e at *
  generalize Q.take i=D at *
  walk_at "dx"
  refine ⟨Eg (by decide) ae,Eg (by decide) ae,?_⟩
  walk_at "dx"
  refine ⟨fun m env=>∃ (kvs:List (aM×PyData)) (ks W:List Std) (c:Sl),env=[.fr (.list (d4 P)),.tr S (dX kvs),.fr (AR e),.ow (W.map stS),c]∧LrI s o D e kvs ks W∧W.length+6*((jK s o).length - kvs.length)≤1000000∧m=lrM (jK s o).length kvs W,⟨_,kvs,ks,[e.1],_,rfl,hk.enter ise,by simp;omega,rfl⟩,?_⟩
  rintro m env ⟨kvs,ks,W,c,rfl,hI,hW,rfl⟩
  have few:=hI.few
  walk_at "dx"
  rcases Fs W with rfl|⟨V,z,rfl⟩
  ·rw [if_neg (by simp)]
   exact ⟨kvs,rfl,ks,hI.leave⟩
  rw [Ft] at hI hW ⊢
  have hz:=hI.wt z (by simp)
  rw [EH,if_pos (by simp)]
  refine ⟨stS z,by simp,?_⟩
  walk_at "dx"
  refine ⟨kOf z,rfl,rfl,kvs,rfl,dW (fun hc=>?_) fun hc=>?_⟩
  ·have hno:(bG kvs (kOf z)).isSome=false:=by
    cases e1:bG kvs (kOf z) with
    | none=>rfl
    | some d=>rw[e1] at hc;exact absurd hc (by simp)
   have hA:=hI.add hno
   have few2:=hA.few
   have el:(fU kvs (kOf z) (.int e.2)).length=kvs.length+1:=by
    unfold fU
    rw [if_neg (by rw[hno];exact Et),Ew]
    rfl
   have nf:=xX z.2
   have hz6:z.2.length≤6:=by rw[hz.1.2.1];exact hs
   refine ⟨⟨kvs,rfl⟩,kvs,rfl,kOf z,rfl,rfl,Ep (by omega) ae,?_⟩
   walk_at "dx"
   refine ⟨z,rfl,by omega,?_⟩
   walk_at "dx"
   have hW':V.length+1+6*((jK s o).length - kvs.length)≤1000000:=by simpa using hW
   have hlen:(V++(nwL z.2).map fun l=>(z.1,l)).length=V.length+(nwL z.2).length:=by rw[Ew,D7]
   rw [List.dropLast_concat,D7,D7]
   refine ⟨Eg (by omega) ae,lrM (jK s o).length (fU kvs (kOf z) (.int e.2)) (V++(nwL z.2).map fun l=>(z.1,l)),?_,fU kvs (kOf z) (.int e.2),rfl,ks++[z],_,by rw[EH,EI];rfl,hA,by rw[hlen];omega,rfl⟩
   unfold lrM
   rw [hlen,el,Ew,E3]
   omega
  ·have hyes:(bG kvs (kOf z)).isSome=true:=by
    cases e1:bG kvs (kOf z) with
    | none=>rw[e1] at hc;exact absurd rfl hc
    | some d=>rfl
   refine ⟨lrM (jK s o).length kvs V,?_,kvs,rfl,ks,V,by simp,hI.skip hD hyes,by simp at hW ⊢;omega,rfl⟩
   unfold lrM
   rw [Ew,E3]
   omega
 ·rintro env ⟨kvs,ks,a,b,c,rfl,hk⟩
  rw [D7,List.take_length] at hk
  walk_at "dx"
  have fw:kvs.length≤(jK s o).length:=by
   have e1:=congrArg List.length hk.keys
   rw [D7,D7] at e1
   rw [e1]
   exact cB hk.nd fun x hx=>eO (hk.is x hx)
  refine q kvs ⟨fw,fun z d g=>?_,fun f hf z hz=>?_⟩
  ·obtain ⟨f,m,a,b⟩:=hk.snd z d g
   exact ⟨f,pQ.mem_iff.mp m,a,b⟩
  ·obtain ⟨v,g,l⟩:=hk.cov f (pQ.mem_iff.mpr hf)
   obtain ⟨v',g',l'⟩:=A9 hk.cl (f.1.2.sum - z.2.sum).toNat f.1 z v (by omega) hz g
   unfold gR at g'
   cases e1:bG kvs (kOf z) with
   | none=>rw[e1] at g';cases g'
   | some d =>
    obtain ⟨f',m',_,rfl⟩:=hk.snd z d e1
    rw [e1] at g'
    have g':some f'.2=some v':=g'
    cases g'
    exact ⟨_,rfl,Int.le_trans l' l⟩
noncomputable abbrev Ent:=Int×List Int×Int
noncomputable abbrev enD (e:Ent):PyData:=.tuple [.int e.1,.tuple (li e.2.1),.int e.2.2]
noncomputable abbrev enL (P:List Ent):List PyData:=P.map enD
noncomputable def RkP (s o:List Int) (e:Ent):Prop:=(∀ c,c<s.length→1≤e.2.1.getD c 0∧e.2.1.getD c 0≤s.getD c 0)∧0≤e.1∧e.1<o.length∧0≤e.2.2
noncomputable def toE (e:Ent):Std×Int:=((e.1.toNat,e.2.1),e.2.2)
theorem yu {P:List Ent} (h:∀ e∈P,0≤e.1):enL P=d4 (P.map toE):=by
 show List.map _ _=List.map _ (List.map _ _)
 rw [EI]
 refine EZ fun e he=>?_
 have:=h e he
 show PyData.tuple [.int e.1,_,_]=PyData.tuple [.int ((e.1.toNat:Nat):Int),_,_]
 rw [Int.toNat_of_nonneg this]
 rfl
theorem RkP.isS {s o:List Int}{e:Ent} (h:RkP s o e) (hl:e.2.1.length=s.length):IsS s o (toE e).1:=by
 refine ⟨?_,hl,h.1⟩
 show e.1.toNat<o.length
 have:=h.2.1
 have:=h.2.2.1
 omega
noncomputable def ShP (s o:List Int) (P:List (Std×Int)):Prop:=(∃ e∈P,noB s o e.1 (0,s))∧∀ e∈P,∀ r∈bZ s.length (o.getD e.1.1 0) e.1.2,∃ e'∈P,e'.2<e.2∧noB s o e'.1 (bJ s o e.1 r)
noncomputable def vh (s o:List Int) (P:List Ent):Prop:=(∀ e∈P,RkP s o e)∧ShP s o (P.map toE)
theorem tu {xs ys:List PyData}{i:Nat} (h:i<(tw xs ys).length):(tw xs ys)[i]=.tuple [xs[i]'(by rw[c5] at h;omega),ys[i]'(by rw[c5] at h;omega)]:=by
 simp [tw]
theorem gN (g:Nat→Bool) (L:List Nat):L.map (fun i=>PyData.bool (g i))=(L.map g).map PyData.bool:=by rw[EI];rfl
noncomputable abbrev cy:Stmt:=top 11
theorem fD:ar ["town", "entry", "fits"] ["town", "entry"] (ad cy):=⟨rfl,rfl,rfl,by decide +kernel,rfl,by decide +kernel,by decide +kernel⟩
noncomputable def vx:DSp:=fun ss R=>∃ (s o:List Int) (e:Ent),ss=[.fr (.tuple [.list (li s),.list (li o)]),.fr (enD e)]∧e.2.1.length=s.length∧s.length≤1000∧∀ b:Bool,(b=true↔RkP s o e)→R (.fr (.bool b)) [.un,.un]
theorem ln {f:Addr}{fd:FuncData} (F:Fun K "is_ranked" "is_ranked" cy f fd):bu K fd ["town", "entry"] []:=F.binds (ps:=["town", "entry"]) fun _ _ _ _ _ _ us hl=>us2 (Q:=fun us=>bindArgs _ ⟨us,[]⟩=pure (List.zip _ us)) hl fun _ _=>rfl
theorem kc {f:Addr}{fd:FuncData} (F:Fun K "is_ranked" "is_ranked" cy f fd) (B:Bn mg):cG P w K mg base CX0 1 f fd ["town", "entry"] (spD K vx):=by
 refine okD (k:=0) F fD (fun ss R h=>?_) (by decide) (fun cdv A outer s H E hr=>⟨_,(bz (aV (i:=2) fD.nd rfl (Or.inl rfl) (fX (Ch (K:=K) rfl rfl) B9 rfl B.all PyProof.Rows.boot_all (aa (cf (N':=["left", "span"]) (ix:=[none,none]) rfl (bP (N:=["town", "entry", "fits"]) (sc0:=ad cy) rfl rfl (by decide +kernel)) (zD true false (K:=K) rfl rfl B.zip (aa (aR (ag (K:=K) rfl) mIx (qv 1) af (fun _ _=>rfl)) (aa (aR (ag (K:=K) rfl) mIx (qv 0) af (fun _ _=>rfl)) ac))) (fun _ _ _ _=>(gE (K:=K) (n:=2) rfl rfl (be (al (i:=0) (show List.Nodup (["left", "span"]:List Str) by decide +kernel) rfl (Or.inl rfl)) (be (al (i:=1) (show List.Nodup (["left", "span"]:List Str) by decide +kernel) rfl (Or.inl rfl)) dY)))) (fun _ _ _ _=>bo) (fun _ _ _ _=>(qr tZ mB tZ mB af (qv 0) (qv 1)))) ac)))
   (ai (aU (qu (qv 2) (qu (qr tZ mB ka mB af (aR (ag (K:=K) rfl) mIx (qv 1) af (fun _ _=>rfl)) (fX (im (K:=K) rfl) il rfl B.len PySem.boot_len (aa (aR (ag (K:=K) rfl) mIx (qv 0) af (fun _ _=>rfl)) ac))) (tO (ii Af mB (aR (ag (K:=K) rfl) mIx (qv 1) af (fun _ _=>rfl)) af (aA _)))))))),fun ss R h=>?_⟩)
 ·obtain ⟨s,o,e,rfl,_⟩:=h
  rfl
 obtain ⟨s,o,e,rfl,hl,hs,q⟩:=h
 walk_at "dd"
 refine cj (fun i=>.bool (decide (1≤e.2.1.getD i 0)&&decide (e.2.1.getD i 0≤s.getD i 0))) (by rw[c5,D7];omega) (fun i hi Q hQ=>?_) ?_
 ·rw [tu,cV,cV]
  walk_at "dd"
  refine dW (fun c=>?_) fun c=>?_
  ·rw [decide_eq_true c,Bool.true_and] at hQ
   exact hQ
  ·rw [decide_eq_false c,Bool.false_and] at hQ
   exact hQ
 rw [c5,D7,D7,hl,Nat.min_self,gN]
 walk_at "dd"
 have hol:(li o).length=o.length:=D7 ..
 rw [hol]
 have hall:((List.range s.length).map fun i=>decide (1≤e.2.1.getD i 0)&&decide (e.2.1.getD i 0≤s.getD i 0)).all id=true↔∀ c,c<s.length→1≤e.2.1.getD c 0∧e.2.1.getD c 0≤s.getD c 0:=by
  rw [Fy]
  constructor
  ·intro h c hc
   have:=h _ (Em.mpr ⟨c,Ey.mpr hc,rfl⟩)
   rw [id_eq,ER,decide_eq_true_eq,decide_eq_true_eq] at this
   exact this
  ·intro h b hb
   obtain ⟨c,hc,rfl⟩:=Em.mp hb
   rw [id_eq,ER,decide_eq_true_eq,decide_eq_true_eq]
   exact h c (Ey.mp hc)
 refine dW (fun c1=>dW (fun c2=>dW (fun c3=>q _ ?_) fun c3=>q false ?_) fun c2=>q false ?_) fun c1=>q false ?_
 ·rw [decide_eq_true_eq]
  exact ⟨fun h=>⟨hall.mp c1,c2,c3,h⟩,fun h=>h.2.2.2⟩
 ·exact ⟨fun z=>(nomatch z),fun h=>absurd h.2.2.1 c3⟩
 ·exact ⟨fun z=>(nomatch z),fun h=>absurd h.2.1 c2⟩
 ·exact ⟨fun z=>(nomatch z),fun h=>absurd (hall.mpr h.1) c1⟩
noncomputable abbrev bI:Stmt:=top 14
theorem c9:ar ["town", "entry", "ranks", "standing", "ahead"] ["town", "entry", "ranks"] (ad bI):=⟨rfl,rfl,rfl,by decide +kernel,rfl,by decide +kernel,by decide +kernel⟩
noncomputable def pU:DSp:=fun ss R=>∃ (s o:List Int) (e:Std×Int) (kvs:List (aM×PyData)),ss=[.fr (.tuple [.list (li s),.list (li o)]),.fr (AR e),.fr (dX kvs)]∧TbL s o∧IsS s o e.1∧(∀ z d,bG kvs (kOf z)=some d→∃ v:Int,d=.int v) ∧
 ∀ b:Bool,(b=true↔∀ r∈bZ s.length (o.getD e.1.1 0) e.1.2,∃ v,bG kvs (kOf (bJ s o e.1 r))=some (.int v)∧v<e.2)→R (.fr (.bool b)) [.un,.un,.un]
theorem jE {f:Addr}{fd:FuncData} (F:Fun K "leads_down" "leads_down" bI f fd):bu K fd ["town", "entry", "ranks"] []:=F.binds (ps:=["town", "entry", "ranks"]) fun _ _ _ _ _ _ us hl=>us3 (Q:=fun us=>bindArgs _ ⟨us,[]⟩=pure (List.zip _ us)) hl fun _ _ _=>rfl
theorem jc {f:Addr}{fd:FuncData} (F:Fun K "leads_down" "leads_down" bI f fd) (B:Bn mg) (G_choices:Cal P w K mg base "choices" 6 (spD K gv)) (G_behind:Cal P w K mg base "behind" 1 (spD K gb)):cG P w K mg base CX0 7 f fd ["town", "entry", "ranks"] (spD K pU):=by
 refine okD (k:=6) F c9 (fun ss R h=>?_) (by decide) (fun cdv A outer s H E hr=>⟨_,(aj (aV (i:=3) c9.nd rfl (Or.inr rfl) (bW (aa (aR (ag (K:=K) rfl) mIx (qv 1) af (fun _ _=>rfl)) (aa (aR (ag (K:=K) rfl) mIx (qv 1) af (fun _ _=>rfl)) ac))))
   (aj (bB (i:=4)  c9.nd rfl rfl (N':=["row", "town", "standing"]) (ix:=[none,some 0,some 3]) rfl (bP (N:=["town", "entry", "ranks", "standing", "ahead"]) (sc0:=ad bI) rfl rfl (by decide +kernel)) (aD (K:=K) rfl (az G_choices (hr.mono (by decide)) rfl (aa (qf 0) (aa (qf 3) ac)))) (fun _ _ _ _=>(al (i:=0) (show List.Nodup (["row", "town", "standing"]:List Str) by decide +kernel) rfl (Or.inl rfl))) (fun _ _ _ _=>bo) (fun _ _ _ _=>(az G_behind (hr.mono (by decide)) rfl (aa (qf 1) (aa (qf 2) (aa (qf 0) ac))))))
   (ai (aU (fX (Ch (K:=K) rfl rfl) B9 rfl B.all PyProof.Rows.boot_all (aa (cf (N':=["other", "entry", "ranks"]) (ix:=[none,some 1,some 2]) rfl (bP (N:=["town", "entry", "ranks", "standing", "ahead"]) (sc0:=ad bI) rfl rfl (by decide +kernel)) (aD (K:=K) rfl (qf 4)) (fun _ _ _ _=>(al (i:=0) (show List.Nodup (["other", "entry", "ranks"]:List Str) by decide +kernel) rfl (Or.inl rfl))) (fun _ _ _ _=>bo) (fun _ _ _ _=>(qu (ii (DH (K:=K) rfl (hu2 hr)) Dv (qv 0) (qv 2) (by with_unfolding_all rfl)) (tO (ii ka mB (aR (y9 (K:=K) rfl (hu2 hr)) y6 (qv 2) (qv 0) (fun _ _=>rfl)) (aR (ag (K:=K) rfl) mIx (qv 1) af (fun _ _=>rfl)) (aA _)))))) ac)))))),fun ss R h=>?_⟩)
 ·obtain ⟨s,o,e,kvs,rfl,_⟩:=h
  rfl
 obtain ⟨s,o,e,kvs,rfl,t,ise,hk,q⟩:=h
 obtain ⟨t1,t2,t3,t4,t5,t6⟩:=id t
 walk_at "dx"
 refine ⟨Eg (by decide) ae,?_⟩
 walk_at "dx"
 refine ⟨s,o,e.1.2,e.1.1,rfl,t1,t4 _ (a0 ise.1),t5.imp id fun h=>h _ (a0 ise.1),⟨ise.1,ise.2.1⟩,?_⟩
 have hp:=eW s.length (o.getD e.1.1 0) e.1.2
 generalize chX s.length (o.getD e.1.1 0) e.1.2=cs at *
 have hcl:cs.length<64:=by rw[hp.length_eq];exact fm t1 (t5.imp id fun h=>h _ (a0 ise.1))
 walk_at "dx"
 refine cj (fun i=>stS (bJ s o e.1 (cs.getD i []))) (by rw[D7];omega) (fun i hi Q hQ=>?_) ?_
 ·rw [iN]
  walk_at "dx"
  refine ⟨s,o,e.1.2,cs.getD i [],e.1.1,rfl,t2,ise.2.1,by omega,?_⟩
  walk_at "dx"
  exact hQ
 rw [show (lr cs).length=cs.length from D7 ..]
 walk_at "dx"
 refine cj (fun i=>.bool (match gR kvs (bJ s o e.1 (cs.getD i [])) with|some v=>decide (v<e.2)|none=>false)) (by rw[D7,EE];omega) (fun i hi Q hQ=>?_) ?_
 ·rw [D7,EE] at hi
  rw [EN,List.getElem_range]
  generalize bJ s o e.1 (cs.getD i [])=y at *
  walk_at "dx"
  refine ⟨kOf y,rfl,rfl,kvs,rfl,?_⟩
  unfold gR at hQ
  cases e1:bG kvs (kOf y) with
  | none =>
   rw [e1] at hQ
   rw [if_neg (by simp)]
   exact hQ
  | some d =>
   obtain ⟨v,rfl⟩:=hk y d e1
   rw [e1] at hQ
   rw [if_pos (show (some (PyData.int v)).isSome=true from rfl)]
   exact ⟨kvs,rfl,kOf y,rfl,rfl,_,e1,v,rfl,hQ⟩
 rw [D7,EE,gN]
 walk_at "dx"
 refine q _ ?_
 rw [Fy]
 have hv:∀ y:Std,(match gR kvs y with|some v=>decide (v<e.2)|none=>false)=true↔∃ v,bG kvs (kOf y)=some (.int v)∧v<e.2:=fun y=>by
  unfold gR
  cases e1:bG kvs (kOf y) with
  | none=>exact⟨fun z=>(nomatch z),fun ⟨v,z,_⟩=>(nomatch z)⟩
  | some d =>
   obtain ⟨v,rfl⟩:=hk y d e1
   show decide (v<e.2)=true↔_
   rw [decide_eq_true_eq]
   exact ⟨fun h=>⟨v,rfl,h⟩,fun ⟨v',z,h⟩=>by cases z;exact h⟩
 constructor
 ·intro h r hr
  obtain ⟨i,hi,rfl⟩:=Ex (hp.mem_iff.mpr hr)
  have:=h _ (Em.mpr ⟨i,Ey.mpr hi,rfl⟩)
  rw [id_eq,hv] at this
  rwa [show cs.getD i []=cs[i] by rw[Ea,D8 hi];rfl] at this
 ·intro h b hb
  obtain ⟨i,hi,rfl⟩:=Em.mp hb
  have hi:=Ey.mp hi
  rw [id_eq,hv]
  refine h _ (hp.mem_iff.mp ?_)
  rw [Ea,D8 hi]
  exact EA hi
noncomputable abbrev cx:Stmt:=top 15
theorem dz:ar ["town", "paper", "ranks", "entry"] ["town", "paper"] (ad cx):=⟨rfl,rfl,rfl,by decide +kernel,rfl,by decide +kernel,by decide +kernel⟩
noncomputable def pN:DSp:=fun ss R=>∃ (s o:List Int) (P:List Ent),ss=[.fr (.tuple [.list (li s),.list (li o)]),.fr (.list (enL P))]∧TbL s o∧(∀ e∈P,e.2.1.length=s.length)∧P.length<64∧∀ b:Bool,(b=true↔vh s o P)→R (.fr (.bool b)) [.un,.un]
theorem lm {f:Addr}{fd:FuncData} (F:Fun K "shuts_out" "shuts_out" cx f fd):bu K fd ["town", "paper"] []:=F.binds (ps:=["town", "paper"]) fun _ _ _ _ _ _ us hl=>us2 (Q:=fun us=>bindArgs _ ⟨us,[]⟩=pure (List.zip _ us)) hl fun _ _=>rfl
theorem kb {f:Addr}{fd:FuncData} (F:Fun K "shuts_out" "shuts_out" cx f fd) (B:Bn mg) (G_is_ranked:Cal P w K mg base "is_ranked" 1 (spD K vx)) (G_least_ranks:Cal P w K mg base "least_ranks" 7 (spD K pS)) (G_begun:Cal P w K mg base "begun" 1 (spD K iZ)) (G_leads_down:Cal P w K mg base "leads_down" 7 (spD K pU)):cG P w K mg base CX0 9 f fd ["town", "paper"] (spD K pN):=by
 refine okD (k:=8) F dz (fun ss R h=>?_) (by decide) (fun cdv A outer s H E hr=>⟨_,(aj (fW (dq (cT (fX (Ch (K:=K) rfl rfl) B9 rfl B.all PyProof.Rows.boot_all (aa (cf (N':=["entry", "town"]) (ix:=[none,some 0]) rfl (bP (N:=["town", "paper", "ranks", "entry"]) (sc0:=ad cx) rfl rfl (by decide +kernel)) (aD (K:=K) rfl (qf 1)) (fun _ _ _ _=>(al (i:=0) (show List.Nodup (["entry", "town"]:List Str) by decide +kernel) rfl (Or.inl rfl))) (fun _ _ _ _=>bo) (fun _ _ _ _=>(az G_is_ranked (hr.mono (by decide)) rfl (aa (qf 1) (aa (qf 0) ac))))) ac)))) (ai (aU j4)) bw)
   (aj (aV (i:=2) dz.nd rfl (Or.inl rfl) (az G_least_ranks (hr.mono (by decide)) rfl (aa (qf 1) ac)))
   (aj (fW (aF (mi (K:=K) rfl (hu2 hr)) l7 (az G_begun (hr.mono (by decide)) rfl (aa (qf 0) ac)) (qv 2) (by with_unfolding_all rfl)) (ai (aU j4)) bw)
   (aj (eK PassesOwn.never rfl (aD (K:=K) rfl (qf 1)) (al (i:=3) dz.nd rfl (Or.inl rfl)) (ai (fW (dq (cT (az G_leads_down (hr.mono (by decide)) rfl (aa (qf 0) (aa (qf 3) (aa (qf 2) ac)))))) (ai (aU j4)) bw)))
   (ai (aU j4)))))),fun ss R h=>?_⟩)
 ·obtain ⟨s,o,P,rfl,_⟩:=h
  rfl
 obtain ⟨s,o,P,rfl,t,hl,hP,q⟩:=h
 obtain ⟨t1,t2,t3,t4,t5,t6⟩:=id t
 walk_at "dx"
 refine cj (fun i=>.bool (@decide (RkP s o (P.getD i (0,[],0))) (Classical.propDecidable _))) (by rw[D7];omega) (fun i hi Q hQ=>?_) ?_
 ·rw [D7] at hi
  have e1:P[i]=P.getD i (0,[],0):=by rw[Ea,D8 hi];rfl
  have hm:P.getD i (0,[],0)∈P:=e1▸EA hi
  rw [EN,e1]
  generalize P.getD i (0,[],0)=e at *
  walk_at "dx"
  refine ⟨s,o,e,rfl,hl e hm,by omega,fun b hb=>?_⟩
  walk_at "dx"
  rw [show b=@decide (RkP s o e) (Classical.propDecidable _) from Fu.mpr (hb.trans (@decide_eq_true_iff _ (Classical.propDecidable _)).symm)]
  exact hQ
 rw [D7,gN]
 walk_at "dx"
 have hall:((List.range P.length).map fun i=>@decide (RkP s o (P.getD i (0,[],0))) (Classical.propDecidable _)).all id=true↔∀ e∈P,RkP s o e:=by
  rw [Fy]
  constructor
  ·intro h e he
   obtain ⟨i,hi,rfl⟩:=Ex he
   have:=h _ (Em.mpr ⟨i,Ey.mpr hi,rfl⟩)
   rw [id_eq] at this
   have:=(@decide_eq_true_iff _ (Classical.propDecidable _)).mp this
   rwa [show P.getD i (0,[],0)=P[i] by rw[Ea,D8 hi];rfl] at this
  ·intro h b hb
   obtain ⟨i,hi,rfl⟩:=Em.mp hb
   have hi:=Ey.mp hi
   rw [id_eq]
   refine (@decide_eq_true_iff _ (Classical.propDecidable _)).mpr (h _ ?_)
   rw [Ea,D8 hi]
   exact EA hi
 refine dW (fun c=>q false ⟨fun z=>(nomatch z),fun z=>?_⟩) fun c=>?_
 ·rw [hall.mpr z.1] at c
  cases c
 have hR:=hall.mp (by simpa using c)
 have ep:=yu (P:=P) fun e he=>(hR e he).2.1
 have hS:∀ f∈P.map toE,IsS s o f.1:=fun f hf=>by
  obtain ⟨e,he,rfl⟩:=Em.mp hf
  exact (hR e he).isS (hl e he)
 have q2:∀ b:Bool,(b=true↔ShP s o (P.map toE))→R (.fr (.bool b)) [.un,.un]:=fun b hb=>q b (hb.trans ⟨fun h=>⟨hR,h⟩,fun h=>h.2⟩)
 have hP2:(P.map toE).length<64:=by rw[D7];exact hP
 rw [ep]
 generalize P.map toE=P' at *
 clear ep hall c
 walk_at "dx"
 refine ⟨s,o,P',rfl,hP2,t1,t6,hS,fun kvs hk=>?_⟩
 have i0:IsS s o (0,s):=⟨t2,rfl,fun c hc=>⟨t3 _ (a0 hc),Fe _⟩⟩
 walk_at "dx"
 refine ⟨s,o,rfl,?_⟩
 walk_at "dx"
 have eqv:∀ (y:Std) (m:Int),(∃ v,bG kvs (kOf y)=some (.int v)∧v<m)↔∃ e'∈P',e'.2<m∧noB s o e'.1 y:=fun y m=>by
  constructor
  ·rintro ⟨v,g,l⟩
   obtain ⟨f,mf,nf,ef⟩:=hk.snd y _ g
   cases ef
   exact ⟨f,mf,l,nf⟩
  ·rintro ⟨f,mf,l,nf⟩
   obtain ⟨v,g,lv⟩:=hk.cov f mf y nf
   exact ⟨v,g,by omega⟩
 refine ⟨kOf (0,s),rfl,rfl,kvs,rfl,dW (fun c=>q2 false ⟨fun z=>(nomatch z),fun z=>?_⟩) fun c=>?_⟩
 ·obtain ⟨⟨e,he,hn⟩,_⟩:=z
  obtain ⟨v,g,_⟩:=hk.cov e he _ hn
  rw [g] at c
  cases c
 have hbg:∃ e∈P',noB s o e.1 (0,s):=by
  cases e1:bG kvs (kOf (0,s)) with
  | none=>rw[e1] at c;exact absurd rfl c
  | some d =>
   obtain ⟨f,mf,nf,_⟩:=hk.snd _ _ e1
   exact ⟨f,mf,nf⟩
 clear c
 walk_at "dx"
 refine bp (fun i env=>∃ a:Sl,env=[.fr (.tuple [.list (li s),.list (li o)]),.fr (.list (d4 P')),.fr (dX kvs),a]∧∀ (j:Nat) (hj:j<P'.length),j<i→∀ r∈bZ s.length (o.getD P'[j].1.1 0) P'[j].1.2,∃ v,bG kvs (kOf (bJ s o P'[j].1 r))=some (.int v)∧v<P'[j].2) ⟨_,rfl,fun j _ hj=>absurd hj (Nat.not_lt_zero _)⟩ ?_ ?_
 ·rintro i env hi ⟨a,rfl,hj⟩
  rw [D7] at hi
  rw [EN]
  walk_at "dx"
  refine ⟨s,o,P'[i],kvs,rfl,t,hS _ (EA hi),fun z d g=>?_,fun b hb=>?_⟩
  ·obtain ⟨f,_,_,rfl⟩:=hk.snd z d g
   exact ⟨_,rfl⟩
  walk_at "dx"
  cases b with
  | false =>
   walk_at "dx"
   refine q2 false ⟨fun z=>(nomatch z),fun z=>?_⟩
   have:=hb.mpr fun r hr=>(eqv _ _).mpr (z.2 _ (EA hi) r hr)
   cases this
  | true =>
   walk_at "dx"
   intro j hjl hji
   by_cases e:j=i
   ·subst e
    exact hb.mp rfl
   ·exact hj j hjl (by omega)
 ·rintro env ⟨a,rfl,hj⟩
  rw [D7] at hj
  walk_at "dx"
  refine q2 true ⟨fun _=>⟨hbg,fun e he r hr=>?_⟩,fun _=>rfl⟩
  obtain ⟨j,hjl,rfl⟩:=Ex he
  exact (eqv _ _).mp (hj j hjl hjl r hr)
noncomputable abbrev cM:Stmt:=top 25
theorem cn:ar ["_law_town_here", "_law_lefts", "_law_span"] ["_law_town_here"] (ad cM):=⟨rfl,rfl,rfl,by decide +kernel,rfl,by decide +kernel,by decide +kernel⟩
noncomputable def mX:DSp:=fun ss R=>∃ (s o:List Int),ss=[.fr (.tuple [.list (li s),.list (li o)])]∧s.length≤1000∧R (.fr (.tuple [.int 0,.tuple (li s)])) [.un]
theorem jH {f:Addr}{fd:FuncData} (F:Fun K "_law_begun" "_law_begun" cM f fd):bu K fd ["_law_town_here"] []:=F.binds (ps:=["_law_town_here"]) fun _ _ _ _ _ _ us hl=>us1 (Q:=fun us=>bindArgs _ ⟨us,[]⟩=pure (List.zip _ us)) hl fun _=>rfl
theorem jf {f:Addr}{fd:FuncData} (F:Fun K "_law_begun" "_law_begun" cM f fd) (B:Bn mg):cG P w K mg base CX0 1 f fd ["_law_town_here"] (spD K mX):=by
 refine okD (k:=0) F cn (fun ss R h=>?_) (by decide) (fun cdv A outer s H E hr=>⟨_,(bz (aV (i:=1) cn.nd rfl (Or.inl rfl) (bW ac))
   (bz (eK PassesOwn.never rfl (aD (K:=K) rfl (aR (ag (K:=K) rfl) mIx (qv 0) af (fun _ _=>rfl))) (al (i:=2) cn.nd rfl (Or.inl rfl)) (ai (aV (i:=1) cn.nd rfl (Or.inl rfl) (j0 (K:=K) rfl (qv 1) (bW (aa (qf 2) ac))))))
   (ai (aU (bW (aa af (aa (qf 1) ac))))))),fun ss R h=>?_⟩)
 ·obtain ⟨s,o,rfl,_⟩:=h
  rfl
 obtain ⟨s,o,rfl,hs,q⟩:=h
 walk_at "dd"
 refine ⟨Ez _,?_⟩
 refine bp (fun i env=>∃ a:Sl,env=[.fr (.tuple [.list (li s),.list (li o)]),.fr (.tuple (li (s.take i))),a]) ⟨_,rfl⟩ ?_ ?_
 ·rintro i env hi ⟨a,rfl⟩
  have hi':i<s.length:=by simpa using hi
  rw [cV,jS hi']
  walk_at "dd"
  exact ⟨Eg (by decide) ae,by rw[D7,EV];exact Eg (by omega) ae,by simp⟩
 ·rintro env ⟨a,rfl⟩
  rw [D7,List.take_length]
  walk_at "dd"
  exact ⟨Eg (by decide) ae,q⟩
noncomputable def noG (x y:Int×List Int):Prop:=x.1=y.1∧∀ c,c<x.2.length→y.2.getD c 0≤x.2.getD c 0
noncomputable def ub (x y:Int×List Int):Bool:=@decide (noG x y) (Classical.propDecidable _)
theorem eL {x y:Int×List Int}:ub x y=true↔noG x y:=by
 unfold ub
 exact @decide_eq_true_iff _ (Classical.propDecidable _)
theorem qV {x y:Int×List Int}{b:Bool} (h:b=true↔noG x y):b=ub x y:=Fu.mpr (h.trans eL.symm)
noncomputable abbrev br:Stmt:=top 26
theorem fV:ar ["_law_one", "_law_other"] ["_law_one", "_law_other"] (ad br):=⟨rfl,rfl,rfl,by decide +kernel,rfl,by decide +kernel,by decide +kernel⟩
noncomputable def zt:DSp:=fun ss R=>∃ (x y:Int×List Int),ss=[.fr (c7 x),.fr (c7 y)]∧x.2.length=y.2.length∧x.2.length≤1000∧∀ b:Bool,(b=true↔noG x y)→R (.fr (.bool b)) [.un,.un]
theorem f7 {f:Addr}{fd:FuncData} (F:Fun K "_law_no_worse" "_law_no_worse" br f fd):bu K fd ["_law_one", "_law_other"] []:=F.binds (ps:=["_law_one", "_law_other"]) fun _ _ _ _ _ _ us hl=>us2 (Q:=fun us=>bindArgs _ ⟨us,[]⟩=pure (List.zip _ us)) hl fun _ _=>rfl
theorem fZ {f:Addr}{fd:FuncData} (F:Fun K "_law_no_worse" "_law_no_worse" br f fd) (B:Bn mg):cG P w K mg base CX0 1 f fd ["_law_one", "_law_other"] (spD K zt):=by
 refine okD (k:=0) F fV (fun ss R h=>?_) (by decide) (fun cdv A outer s H E hr=>⟨_,(ai (aU (qu (ii lR y7 (aR (ag (K:=K) rfl) mIx (qv 0) af (fun _ _=>rfl)) (aR (ag (K:=K) rfl) mIx (qv 1) af (fun _ _=>rfl)) (aA _)) (tO (ii (za (K:=K) rfl hr.units) mEq (cf (N':=["_law_k", "_law_one", "_law_other"]) (ix:=[none,some 0,some 1]) rfl (bP (N:=["_law_one", "_law_other"]) (sc0:=ad br) rfl rfl (by decide +kernel)) (df rfl B.range (aa (fX (im (K:=K) rfl) il rfl B.len PySem.boot_len (aa (aR (ag (K:=K) rfl) mIx (qv 0) af (fun _ _=>rfl)) ac)) ac)) (fun _ _ _ _=>(al (i:=0) (show List.Nodup (["_law_k", "_law_one", "_law_other"]:List Str) by decide +kernel) rfl (Or.inl rfl))) (fun _ _ _ _=>(cQ (aF ka mB (aR (ag (K:=K) rfl) mIx (aR (ag (K:=K) rfl) mIx (qv 1) af (fun _ _=>rfl)) (qv 0) (fun _ _=>rfl)) (aR (ag (K:=K) rfl) mIx (aR (ag (K:=K) rfl) mIx (qv 2) af (fun _ _=>rfl)) (qv 0) (fun _ _=>rfl)) (aA _)))) (fun _ _ _ _=>(qf 0))) (cI ac) (aA _)))))),fun ss R h=>?_⟩)
 ·obtain ⟨x,y,rfl,_⟩:=h
  rfl
 obtain ⟨x,y,rfl,hl,hb,q⟩:=h
 walk_at "dd"
 rw [D7]
 refine dW (fun hd=>?_) fun hd=>q false ⟨fun z=>(nomatch z),fun z=>absurd z.1 hd⟩
 refine ⟨by omega,by omega,bE (fun i=>decide (x.2.getD i 0<y.2.getD i 0)) (fun i=>.int (i:Int)) (by rw[ao];omega) (fun i hi Q Q' h1 h2=>?_) ?_⟩
 ·rw [ao] at hi
  rw [bj]
  have hi:i<x.2.length:=by omega
  walk_at "dd"
  refine ⟨_,b7 (ns:=x.2) hi,_,b7 (ns:=y.2) (by omega),?_⟩
  walk_at "dd"
  exact dW (fun c=>h1 (decide_eq_true c)) fun c=>h2 (decide_eq_false c)
 rw [ao,show (((List.range ((x.2.length:Nat):Int).toNat).filter fun i=>decide (x.2.getD i 0<y.2.getD i 0)).map fun i=>PyData.int ((i:Nat):Int))=li (((List.range x.2.length).filter fun i=>decide (x.2.getD i 0<y.2.getD i 0)).map (Nat.cast:Nat→Int)) by
  show _=List.map _ (List.map _ _)
  rw [EI];rfl]
 walk_at "dd"
 refine ⟨Ez _,(Sh.ints 0 _).shp (by decide),(Sh.ints 0 []).shp (by decide),?_⟩
 rw [show PyData.list []=PyData.list (li []) from rfl,kR]
 refine q _ ?_
 rw [decide_eq_true_eq,List.map_eq_nil_iff,Fq]
 constructor
 ·intro h
  refine ⟨hd,fun c hc=>?_⟩
  have:=h c (Ey.mpr hc)
  simp only [decide_eq_true_eq] at this
  omega
 ·rintro ⟨_,h⟩ c hc
  have:=h c (Ey.mp hc)
  simp only [decide_eq_true_eq]
  omega
theorem kT (ds:List PyData):PyData.eqv (.list ds) (.list [])=ds.isEmpty:=by cases ds <;> rfl
theorem vJ (P:List Ent):Sh 3 (.list (enL P)):=Sh.list fun x hx=>by
 obtain ⟨e,_,rfl⟩:=Em.mp hx
 refine Sh.tuple fun y hy=>?_
 simp only [En,EJ,or_false] at hy
 rcases hy with rfl|rfl|rfl
 ·exact Sh.int _ _
 ·exact Sh.intT 0 _
 ·exact Sh.int _ _
theorem vI {α:Type} (L:List α) (g:α→Ent):Sh 3 (.list (L.map fun i=>enD (g i))):=by
 have:=vJ (L.map g)
 rw [show enL (L.map g)=L.map fun i=>enD (g i) from EI ..] at this
 exact this
theorem jh {s o:List Int}{f:Ent}{y:Std} (hf:RkP s o f) (hl:f.2.1.length=s.length) (iy:IsS s o y):noG (f.1,f.2.1) ((y.1:Int),y.2)↔noB s o (toE f).1 y:=by
 have h0:=hf.2.1
 constructor
 ·rintro ⟨a,b⟩
  have a:f.1=(y.1:Int):=a
  refine ⟨iy,?_,hl,fun c hc=>b c (by show c<f.2.1.length;omega)⟩
  show f.1.toNat=y.1
  omega
 ·rintro ⟨_,a,_,b⟩
  have a:f.1.toNat=y.1:=a
  refine ⟨?_,fun c hc=>b c (by rw[←hl];exact hc)⟩
  show f.1=(y.1:Int)
  omega
theorem kQ {P:List Ent}{p:Ent→Bool}:(((List.range P.length).filter fun i=>p (P.getD i (0,[],0))).map fun i=>enD (P.getD i (0,[],0))).isEmpty=false↔∃ f∈P,p f=true:=by
 have key:∀ L:List Nat,(L.map fun i=>enD (P.getD i (0,[],0))).isEmpty=L.isEmpty:=fun L=>by cases L <;> rfl
 rw [key]
 constructor
 ·intro h
  cases e:(List.range P.length).filter fun i=>p (P.getD i (0,[],0)) with
  | nil=>rw[e] at h;cases h
  | cons i L =>
   have m:i∈(List.range P.length).filter fun i=>p (P.getD i (0,[],0)):=by rw[e];exact Eh
   obtain ⟨m1,m2⟩:=EC.mp m
   have m1:=Ey.mp m1
   refine ⟨_,?_,m2⟩
   rw [Ea,D8 m1]
   exact EA m1
 ·rintro ⟨f,hf,hp⟩
  obtain ⟨i,hi,rfl⟩:=Ex hf
  have m:i∈(List.range P.length).filter fun i=>p (P.getD i (0,[],0)):=EC.mpr ⟨Ey.mpr hi,by rw[Ea,D8 hi];exact hp⟩
  cases e:(List.range P.length).filter fun i=>p (P.getD i (0,[],0)) with
  | nil=>rw[e] at m;cases m
  | cons i L=>rfl
noncomputable abbrev bM:Stmt:=top 27
theorem ig:ar ["_law_town_here", "_law_day", "_law_lefts"] ["_law_town_here", "_law_day", "_law_lefts"] (ad bM):=⟨rfl,rfl,rfl,by decide +kernel,rfl,by decide +kernel,by decide +kernel⟩
noncomputable def StP (s o:List Int) (d:Int) (l:List Int):Prop:=0≤d∧d<o.length∧∀ c,c<s.length→1≤l.getD c 0∧l.getD c 0≤s.getD c 0
noncomputable def mV:DSp:=fun ss R=>∃ (s o l:List Int) (d:Int),ss=[.fr (.tuple [.list (li s),.list (li o)]),.fr (.int d),.fr (.tuple (li l))]∧l.length=s.length∧s.length≤1000∧∀ b:Bool,(b=true↔StP s o d l)→R (.fr (.bool b)) [.un,.un,.un]
theorem iz {f:Addr}{fd:FuncData} (F:Fun K "_law_stands" "_law_stands" bM f fd):bu K fd ["_law_town_here", "_law_day", "_law_lefts"] []:=F.binds (ps:=["_law_town_here", "_law_day", "_law_lefts"]) fun _ _ _ _ _ _ us hl=>us3 (Q:=fun us=>bindArgs _ ⟨us,[]⟩=pure (List.zip _ us)) hl fun _ _ _=>rfl
theorem ik {f:Addr}{fd:FuncData} (F:Fun K "_law_stands" "_law_stands" bM f fd) (B:Bn mg):cG P w K mg base CX0 1 f fd ["_law_town_here", "_law_day", "_law_lefts"] (spD K mV):=by
 refine okD (k:=0) F ig (fun ss R h=>?_) (by decide) (fun cdv A outer s H E hr=>⟨_,(bz (fW (PW.pt (gC (aF ka mB (qv 1) af (aA _)) (fF (aF Af mB (qv 1) (fX (im (K:=K) rfl) il rfl B.len PySem.boot_len (aa (aR (ag (K:=K) rfl) mIx (qv 0) af (fun _ _=>rfl)) ac)) (aA _))))) (ai (aU j4)) bw)
   (ai (aU (ii (za (K:=K) rfl hr.units) mEq (cf (N':=["_law_k", "_law_town_here", "_law_lefts"]) (ix:=[none,some 0,some 2]) rfl (bP (N:=["_law_town_here", "_law_day", "_law_lefts"]) (sc0:=ad bM) rfl rfl (by decide +kernel)) (df rfl B.range (aa (fX (im (K:=K) rfl) il rfl B.len PySem.boot_len (aa (qv 2) ac)) ac)) (fun _ _ _ _=>(al (i:=0) (show List.Nodup (["_law_k", "_law_town_here", "_law_lefts"]:List Str) by decide +kernel) rfl (Or.inl rfl))) (fun _ _ _ _=>(cQ (PW.pt (gC (aF ka mB (aR (ag (K:=K) rfl) mIx (qv 2) (qv 0) (fun _ _=>rfl)) af (aA _)) (fF (aF xT mB (aR (ag (K:=K) rfl) mIx (qv 2) (qv 0) (fun _ _=>rfl)) (aR (ag (K:=K) rfl) mIx (aR (ag (K:=K) rfl) mIx (qv 1) af (fun _ _=>rfl)) (qv 0) (fun _ _=>rfl)) (aA _))))))) (fun _ _ _ _=>(qf 0))) (cI ac) (aA _))))),fun ss R h=>?_⟩)
 ·obtain ⟨s,o,l,d,rfl,_⟩:=h
  rfl
 obtain ⟨s,o,l,d,rfl,hl,hs,q⟩:=h
 walk_at "dd"
 have hol:(li o).length=o.length:=D7 ..
 have hll:(li l).length=l.length:=D7 ..
 rw [hol,hll]
 refine dW (fun c=>q false ⟨fun z=>(nomatch z),fun z=>?_⟩) fun c1=>dW (fun c=>q false ⟨fun z=>(nomatch z),fun z=>?_⟩) fun c2=>?_
 ·have:=z.1;omega
 ·have:=z.2.1;omega
 refine ⟨by omega,by omega,bE (fun i=>decide (l.getD i 0<1) || decide (s.getD i 0<l.getD i 0)) (fun i=>.int (i:Int)) (by rw[ao];omega) (fun i hi Q Q' h1 h2=>?_) ?_⟩
 ·rw [ao] at hi
  rw [bj]
  have hi:i<l.length:=by omega
  walk_at "dd"
  refine ⟨_,b7 hi,_,rfl,dW (fun c=>h1 (by rw[decide_eq_true c];rfl)) fun c=>⟨_,b7 hi,_,b7 (by omega),_,rfl,_,rfl,dW (fun c2=>h1 (by rw[decide_eq_true c2,Bool.or_true])) fun c2=>h2 (by rw[decide_eq_false c,decide_eq_false c2];rfl)⟩⟩
 rw [ao,show (((List.range ((l.length:Nat):Int).toNat).filter fun i=>decide (l.getD i 0<1) || decide (s.getD i 0<l.getD i 0)).map fun i=>PyData.int ((i:Nat):Int))=li (((List.range l.length).filter fun i=>decide (l.getD i 0<1) || decide (s.getD i 0<l.getD i 0)).map (Nat.cast:Nat→Int)) by
  show _=List.map _ (List.map _ _)
  rw [EI];rfl]
 walk_at "dd"
 refine ⟨Ez _,(Sh.ints 0 _).shp (by decide),(Sh.ints 0 []).shp (by decide),?_⟩
 rw [show PyData.list []=PyData.list (li []) from rfl,kR]
 refine q _ ?_
 rw [decide_eq_true_eq,List.map_eq_nil_iff,Fq]
 constructor
 ·intro h
  refine ⟨by omega,by omega,fun c hc=>?_⟩
  have:=h c (Ey.mpr (by omega))
  simp only [Bool.or_eq_true,decide_eq_true_eq] at this
  omega
 ·rintro ⟨_,_,h⟩ c hc
  have:=h c (by have:=Ey.mp hc;omega)
  simp only [Bool.or_eq_true,decide_eq_true_eq]
  omega
noncomputable abbrev aP:Stmt:=top 28
theorem aK:ar ["_law_town_here", "_law_paper", "_law_day", "_law_lefts", "_law_rank", "_law_row", "_law_there"] ["_law_town_here", "_law_paper"] (ad aP):=⟨rfl,rfl,rfl,by decide +kernel,rfl,by decide +kernel,by decide +kernel⟩
noncomputable def mW:DSp:=fun ss R=>∃ (s o:List Int) (P:List Ent),ss=[.fr (.tuple [.list (li s),.list (li o)]),.fr (.list (enL P))]∧TB s o∧(∀ e∈P,e.2.1.length=s.length)∧P.length<1000∧∀ b:Bool,(b=true↔vh s o P)→R (.fr (.bool b)) [.un,.un]
theorem fv {f:Addr}{fd:FuncData} (F:Fun K "_law_shuts_out" "_law_shuts_out" aP f fd):bu K fd ["_law_town_here", "_law_paper"] []:=F.binds (ps:=["_law_town_here", "_law_paper"]) fun _ _ _ _ _ _ us hl=>us2 (Q:=fun us=>bindArgs _ ⟨us,[]⟩=pure (List.zip _ us)) hl fun _ _=>rfl
theorem fh {f:Addr}{fd:FuncData} (F:Fun K "_law_shuts_out" "_law_shuts_out" aP f fd) (B:Bn mg) (G__law_stands:Cal P w K mg base "_law_stands" 1 (spD K mV)) (G__law_rows:Cal P w K mg base "_law_rows" 1 (spD K vt)) (G__law_after:Cal P w K mg base "_law_after" 1 (spD K pY)) (G__law_no_worse:Cal P w K mg base "_law_no_worse" 1 (spD K zt)) (G__law_begun:Cal P w K mg base "_law_begun" 1 (spD K mX)):cG P w K mg base CX0 3 f fd ["_law_town_here", "_law_paper"] (spD K mW):=by
 refine okD (k:=2) F aK (fun ss R h=>?_) (by decide) (fun cdv A outer s H E hr=>⟨_,(aj (eK PassesOwn.never rfl (aD (K:=K) rfl (qf 1)) (gE (K:=K) (n:=3) rfl rfl (be (al (i:=2) aK.nd rfl (Or.inl rfl)) (be (al (i:=3) aK.nd rfl (Or.inl rfl)) (be (al (i:=4) aK.nd rfl (Or.inr rfl)) dY)))) (aj (fW (PW.pt (gC (aF ka mB (qv 4) af (aA _)) (fF (dq (cT (az G__law_stands (hr.mono (by decide)) rfl (aa (qf 0) (aa (qf 2) (aa (qf 3) ac))))))))) (ai (aU j4)) bw)
   (ai (eK PassesOwn.never rfl (aD (K:=K) rfl (az G__law_rows (hr.mono (by decide)) rfl (aa (qf 0) (aa (bW (aa (qf 2) (aa (qf 3) ac))) ac)))) (al (i:=5) aK.nd rfl (Or.inl rfl)) (aj (aV (i:=6) aK.nd rfl (Or.inr rfl) (az G__law_after (hr.mono (by decide)) rfl (aa (qf 0) (aa (bW (aa (qf 2) (aa (qf 3) ac))) (aa (qf 5) ac)))))
   (ai (fW (aF (za (K:=K) rfl hr.units) mEq (cf (N':=["_law_one", "_law_rank", "_law_there"]) (ix:=[none,some 4,some 6]) rfl (bP (N:=["_law_town_here", "_law_paper", "_law_day", "_law_lefts", "_law_rank", "_law_row", "_law_there"]) (sc0:=ad aP) rfl rfl (by decide +kernel)) (aD (K:=K) rfl (qf 1)) (fun _ _ _ _=>(al (i:=0) (show List.Nodup (["_law_one", "_law_rank", "_law_there"]:List Str) by decide +kernel) rfl (Or.inl rfl))) (fun _ _ _ _=>(cQ (PW.pt (vM (aF ka mB (aR (ag (K:=K) rfl) mIx (qv 0) af (fun _ _=>rfl)) (qv 1) (aA _)) (qg (cT (az G__law_no_worse (hr.mono (by decide)) rfl (aa (bW (aa (aR (ag (K:=K) rfl) mIx (qv 0) af (fun _ _=>rfl)) (aa (aR (ag (K:=K) rfl) mIx (qv 0) af (fun _ _=>rfl)) ac))) (aa (qf 2) ac))))))))) (fun _ _ _ _=>(qf 0))) (cI ac) (aA _)) (ai (aU j4)) bw)))))))
   (ai (aU (ii (Bl (K:=K) rfl hr.units) mNe (cf (N':=["_law_one", "_law_town_here"]) (ix:=[none,some 0]) rfl (bP (N:=["_law_town_here", "_law_paper", "_law_day", "_law_lefts", "_law_rank", "_law_row", "_law_there"]) (sc0:=ad aP) rfl rfl (by decide +kernel)) (aD (K:=K) rfl (qf 1)) (fun _ _ _ _=>(al (i:=0) (show List.Nodup (["_law_one", "_law_town_here"]:List Str) by decide +kernel) rfl (Or.inl rfl))) (fun _ _ _ _=>(cQ (cT (az G__law_no_worse (hr.mono (by decide)) rfl (aa (bW (aa (aR (ag (K:=K) rfl) mIx (qv 0) af (fun _ _=>rfl)) (aa (aR (ag (K:=K) rfl) mIx (qv 0) af (fun _ _=>rfl)) ac))) (aa (az G__law_begun (hr.mono (by decide)) rfl (aa (qf 1) ac)) ac)))))) (fun _ _ _ _=>(qf 0))) (cI ac) (aA _))))),fun ss R h=>?_⟩)
 ·obtain ⟨s,o,P,rfl,_⟩:=h
  rfl
 obtain ⟨s,o,P,rfl,tb,hl,hP,q⟩:=h
 walk_at "dx"
 have hs6:s.length≤6:=tb.2.1
 have getP:∀ i (hi:i<P.length),P.getD i (0,[],0)=P[i]:=fun i hi=>by rw[Ea,D8 hi];rfl
 refine bp (fun i env=>∃ a b c d e:Sl,env=[.fr (.tuple [.list (li s),.list (li o)]),.fr (.list (enL P)),a,b,c,d,e]∧∀ (j:Nat) (hj:j<P.length),j<i→RkP s o P[j]∧∀ r∈bZ s.length (o.getD P[j].1.toNat 0) P[j].2.1,∃ f∈P,f.2.2<P[j].2.2∧noG (f.1,f.2.1) (((bJ s o (toE P[j]).1 r).1:Int),(bJ s o (toE P[j]).1 r).2)) ⟨_,_,_,_,_,rfl,fun j _ hj=>absurd hj (Nat.not_lt_zero _)⟩ ?_ ?_
 ·rintro i env hi ⟨a,b,c,d,e0,rfl,hj⟩
  rw [D7] at hi
  rw [EN]
  have hm:=EA hi
  have hle:=hl _ hm
  have hjj:∀ e:Ent,e=P[i]→(RkP s o e∧∀ r∈bZ s.length (o.getD e.1.toNat 0) e.2.1,∃ f∈P,f.2.2<e.2.2∧noG (f.1,f.2.1) (((bJ s o (toE e).1 r).1:Int),(bJ s o (toE e).1 r).2))→∀ (j:Nat) (hj:j<P.length),j<i+1→RkP s o P[j]∧∀ r∈bZ s.length (o.getD P[j].1.toNat 0) P[j].2.1,∃ f∈P,f.2.2<P[j].2.2∧noG (f.1,f.2.1) (((bJ s o (toE P[j]).1 r).1:Int),(bJ s o (toE P[j]).1 r).2):=fun e ee h j hjl hji=>by
   by_cases e1:j=i
   ·subst e1
    rw [←ee]
    exact h
   ·exact hj j hjl (by omega)
  obtain ⟨e,ee⟩:∃ e,e=P[i]:=⟨_,rfl⟩
  have hjj:=hjj e ee
  rw [←ee] at hm hle ⊢
  have bad:¬vh s o P→R (.fr (.bool false)) [.un,.un]:=fun h=>q false ⟨fun z=>(nomatch z),fun z=>absurd z h⟩
  walk_at "dx"
  refine dW (fun c=>bad fun z=>?_) fun c=>⟨s,o,e.2.1,e.1,rfl,hle,by omega,fun b hb=>?_⟩
  ·have:=(z.1 e hm).2.2.2
   omega
  cases b with
  | false =>
   walk_at "dx"
   refine bad fun z=>?_
   have:=hb.mpr ⟨(z.1 e hm).2.1,(z.1 e hm).2.2.1,(z.1 e hm).1⟩
   cases this
  | true =>
   obtain ⟨d0,d1,d2⟩:=hb.mp rfl
   have hrk:RkP s o e:=⟨d2,d0,d1,by omega⟩
   have ise:=hrk.isS hle
   obtain ⟨dn,edn⟩:∃ dn:Nat,e.1=dn:=⟨e.1.toNat,by omega⟩
   have hdn:e.1.toNat=dn:=by omega
   walk_at "dx"
   refine ⟨Eg (by decide) ae,s,o,e.2.1,dn,by rw[edn],tb,⟨by omega,hle⟩,fun rr hrr=>?_⟩
   walk_at "dx"
   refine bp (fun k env=>∃ a b:Sl,env=[.fr (.tuple [.list (li s),.list (li o)]),.fr (.list (enL P)),.fr (.int e.1),.fr (.tuple (li e.2.1)),.fr (.int e.2.2),a,b]∧∀ m (hm:m<rr.length),m<k→∃ f∈P,f.2.2<e.2.2∧noG (f.1,f.2.1) (((bJ s o (toE e).1 rr[m]).1:Int),(bJ s o (toE e).1 rr[m]).2)) ⟨_,_,rfl,fun m _ h=>absurd h (Nat.not_lt_zero _)⟩ ?_ ?_
   ·rintro k env hk ⟨a1,b1,rfl,hok⟩
    rw [D7] at hk
    rw [EN]
    obtain ⟨r,er⟩:∃ r,r=rr[k]:=⟨_,rfl⟩
    have hrm:r∈bZ s.length (o.getD dn 0) e.2.1:=hrr.mem_iff.mp (er▸EA hk)
    rw [←er]
    walk_at "dx"
    refine ⟨Eg (by decide) ae,s,o,e.2.1,r,dn,by rw[edn],by omega,tb.2.2.1,hle,?_⟩
    obtain ⟨y,ey⟩:∃ y:Std,y=bJ s o (toE e).1 r:=⟨_,rfl⟩
    have ed:PyData.tuple [.int (((dn+1) % o.length:Nat):Int),.tuple (li (jL s e.2.1 r s.length))]=c7 ((y.1:Int),y.2):=by
     rw [ey,←hdn]
     rfl
    rw [ed]
    have yl:y.2.length=s.length:=by rw[ey];exact gm _ _ _ _
    walk_at "dx"
    refine bE (fun i=>decide ((P.getD i (0,[],0)).2.2<e.2.2)&&ub ((P.getD i (0,[],0)).1,(P.getD i (0,[],0)).2.1) ((y.1:Int),y.2)) (fun i=>enD (P.getD i (0,[],0))) (by rw[D7];omega) (fun i hi Q Q' h1 h2=>?_) ?_
    ·rw [D7] at hi
     rw [EN,←getP i hi]
     have hfl:=hl _ (getP i hi▸EA hi:P.getD i (0,[],0)∈P)
     generalize P.getD i (0,[],0)=f at *
     walk_at "dx"
     refine dW (fun c1=>?_) fun c1=>h2 (by rw[decide_eq_false c1];rfl)
     refine ⟨Eg (by decide) ae,(f.1,f.2.1),((y.1:Int),y.2),rfl,by rw[hfl,yl],by rw[hfl];omega,fun b hb=>?_⟩
     rw [qV hb]
     walk_at "dx"
     refine dW (fun c2=>h1 (by rw[decide_eq_true c1,c2];rfl)) fun c2=>h2 (by rw[Bool.eq_false_iff.mpr c2,Bool.and_false])
    rw [D7]
    walk_at "dx"
    refine ⟨Ez _,(vI _ _).shp (by decide),(Sh.ints 0 []).shp (by decide),?_⟩
    rw [kT]
    have fs:=kQ (P:=P) (p:=fun f=>decide (f.2.2<e.2.2)&&ub (f.1,f.2.1) ((y.1:Int),y.2))
    refine dW (fun c1=>bad fun z=>?_) fun c1=>?_
    ·obtain ⟨f',hf',lt,nb⟩:=z.2.2 (toE e) (Fz hm) r (by show r∈bZ s.length (o.getD e.1.toNat 0) e.2.1;rw[hdn];exact hrm)
     obtain ⟨f,hf,rfl⟩:=Em.mp hf'
     rw [←ey] at nb
     have:=fs.mpr ⟨f,hf,by
      have h1:f.2.2<e.2.2:=lt
      have h2:ub (f.1,f.2.1) ((y.1:Int),y.2)=true:=eL.mpr ((jh (z.1 f hf) (hl f hf) nb.1).mpr nb)
      show (decide (f.2.2<e.2.2)&&ub (f.1,f.2.1) ((y.1:Int),y.2))=true
      rw [decide_eq_true h1,h2]
      rfl⟩
     rw [this] at c1
     cases c1
    ·obtain ⟨f,hf,hp⟩:=fs.mp (Bool.eq_false_iff.mpr c1)
     rw [ER,decide_eq_true_eq,eL] at hp
     intro m hml hmk
     by_cases e1:m=k
     ·subst e1
      rw [←er,←ey]
      exact ⟨f,hf,hp.1,hp.2⟩
     ·exact hok m hml (by omega)
   ·rintro env ⟨a1,b1,rfl,hok⟩
    rw [D7] at hok
    walk_at "dx"
    refine hjj ⟨hrk,fun r hr=>?_⟩
    obtain ⟨m,hml,rfl⟩:=Ex (hrr.mem_iff.mpr (by rw[←hdn];exact hr))
    exact hok m hml hml
 ·rintro env ⟨a,b,c,d,e0,rfl,hj⟩
  rw [D7] at hj
  walk_at "dx"
  have hall:∀ e∈P,RkP s o e:=fun e he=>by
   obtain ⟨j,hjl,rfl⟩:=Ex he
   exact (hj j hjl hjl).1
  refine bE (fun i=>ub ((P.getD i (0,[],0)).1,(P.getD i (0,[],0)).2.1) (0,s)) (fun i=>enD (P.getD i (0,[],0))) (by rw[D7];omega) (fun i hi Q Q' h1 h2=>?_) ?_
  ·rw [D7] at hi
   rw [EN,←getP i hi]
   have hfl:=hl _ (getP i hi▸EA hi:P.getD i (0,[],0)∈P)
   generalize P.getD i (0,[],0)=f at *
   walk_at "dx"
   refine ⟨Eg (by decide) ae,s,o,rfl,by omega,?_⟩
   walk_at "dx"
   refine ⟨(f.1,f.2.1),(0,s),rfl,hfl,by rw[hfl];omega,fun b hb=>?_⟩
   rw [qV hb]
   walk_at "dx"
   exact dW (fun c2=>h1 c2) fun c2=>h2 (Bool.eq_false_iff.mpr c2)
  rw [D7]
  walk_at "dx"
  refine ⟨Ez _,(vI _ _).shp (by decide),(Sh.ints 0 []).shp (by decide),?_⟩
  rw [kT]
  have fs:=kQ (P:=P) (p:=fun f=>ub (f.1,f.2.1) (0,s))
  have hs1:∀ x∈s,1≤x:=fun x hx=>(tb.2.2.2.2.1 x hx).1
  have i0:IsS s o (0,s):=⟨tb.2.2.1,rfl,fun c hc=>⟨hs1 _ (a0 hc),Fe _⟩⟩
  refine q _ ?_
  rw [Bool.not_eq_true',fs]
  constructor
  ·rintro ⟨f,hf,hn⟩
   refine ⟨hall,⟨toE f,Fz hf,(jh (hall f hf) (hl f hf) i0).mp (eL.mp hn)⟩,fun e' he' r hr=>?_⟩
   obtain ⟨e,he,rfl⟩:=Em.mp he'
   obtain ⟨j,hjl,rfl⟩:=Ex he
   obtain ⟨g,hg,lt,ng⟩:=(hj j hjl hjl).2 r hr
   have isn:=qU hs1 ((hall _ he).isS (hl _ he)) hr
   exact ⟨toE g,Fz hg,lt,(jh (hall g hg) (hl g hg) isn).mp ng⟩
  ·rintro ⟨_,⟨f',hf',nb⟩,_⟩
   obtain ⟨f,hf,rfl⟩:=Em.mp hf'
   exact ⟨f,hf,eL.mpr ((jh (hall f hf) (hl f hf) i0).mpr nb)⟩
noncomputable abbrev eI:Stmt:=top 8
theorem oK:ar ["town"] ["town"] (ad eI):=⟨rfl,rfl,rfl,by decide +kernel,rfl,by decide +kernel,by decide +kernel⟩
noncomputable def vv:DSp:=fun ss R=>∃ (s o:List Int),ss=[.fr (.tuple [.list (li s),.list (li o)])]∧TbL s o∧(vj s o (0,s)→∀ A B:List (List Int),R (.fr (.tuple [.list (lr A),.list (lr B)])) [.un])∧∀ lost,mE s o (0,s) lost→R (.fr .none) [.un]
theorem o8 {f:Addr}{fd:FuncData} (F:Fun K "plan_of" "plan_of" eI f fd):bu K fd ["town"] []:=F.binds (ps:=["town"]) fun _ _ _ _ _ _ us hl=>us1 (Q:=fun us=>bindArgs _ ⟨us,[]⟩=pure (List.zip _ us)) hl fun _=>rfl
theorem oS {f:Addr}{fd:FuncData} (F:Fun K "plan_of" "plan_of" eI f fd) (B:Bn mg) (G_looked_through:Cal P w K mg base "looked_through" 9 (spD K pR)) (G_begun:Cal P w K mg base "begun" 1 (spD K iZ)):cG P w K mg base CX0 10 f fd ["town"] (spD K vv):=by
 refine okD (k:=9) F oK (fun ss R h=>?_) (by decide) (fun cdv A outer s H E hr=>⟨_,(ai (aU (aR (ag (K:=K) rfl) mIx (az G_looked_through (hr.mono (by decide)) rfl (aa (qf 0) (aa (az G_begun (hr.mono (by decide)) rfl (aa (qf 0) ac)) ac))) af (fun _ _=>rfl)))),fun ss R h=>?_⟩)
 ·obtain ⟨s,o,rfl,_⟩:=h
  rfl
 obtain ⟨s,o,rfl,t,q1,q2⟩:=h
 walk_at "dx"
 refine ⟨s,o,rfl,?_⟩
 walk_at "dx"
 refine ⟨s,o,rfl,t,fun hR A B x=>?_,fun lost _ hE=>?_⟩
 ·walk_at "dx"
  exact q1 hR A B
 ·walk_at "dx"
  exact q2 lost hE
noncomputable abbrev cL:Stmt:=top 20
theorem i7:ar ["_law_found"] ["_law_found"] (ad cL):=⟨rfl,rfl,rfl,by decide +kernel,rfl,by decide +kernel,by decide +kernel⟩
noncomputable def pM:DSp:=fun ss R=>∃ i:Int,ss=[.fr (.int i)]∧R (.fr (.bool true)) [.un]
theorem jF {f:Addr}{fd:FuncData} (F:Fun K "_law_whole" "_law_whole" cL f fd):bu K fd ["_law_found"] []:=F.binds (ps:=["_law_found"]) fun _ _ _ _ _ _ us hl=>us1 (Q:=fun us=>bindArgs _ ⟨us,[]⟩=pure (List.zip _ us)) hl fun _=>rfl
theorem jd {f:Addr}{fd:FuncData} (F:Fun K "_law_whole" "_law_whole" cL f fd) (B:Bn mg):cG P w K mg base CX0 1 f fd ["_law_found"] (spD K pM):=by
 refine okD (k:=0) F i7 (fun ss R h=>?_) (by decide) (fun cdv A outer s H E hr=>⟨_,(ai (aU (qu (qp (K:=K) rfl yc rfl B.isinstance rfl B.int PyProof.Rows.boot_int (qv 0)) (tO (BY (qp (K:=K) rfl ur rfl B.isinstance rfl B.bool PyProof.Rows.boot_bool (qv 0))))))),fun ss R h=>?_⟩)
 ·obtain ⟨i,rfl,_⟩:=h
  rfl
 obtain ⟨i,rfl,q⟩:=h
 walk_at "dd"
 exact q
theorem vH (x:Std):Sh 2 (stS x):=Sh.tuple fun y hy=>by
 simp only [En,EJ,or_false] at hy
 rcases hy with rfl|rfl
 ·exact Sh.int 1 _
 ·exact Sh.tuple fun z hz=>by
   obtain ⟨i,_,rfl⟩:=Em.mp hz
   exact Sh.int 0 i
noncomputable abbrev bt:Stmt:=top 29
theorem b9:ar ["_law_town_here", "_law_paper", "_law_met", "_law_one"] ["_law_town_here", "_law_paper"] (ad bt):=⟨rfl,rfl,rfl,by decide +kernel,rfl,by decide +kernel,by decide +kernel⟩
noncomputable def pV:DSp:=fun ss R=>∃ (s o:List Int) (P:List (Std×Int)),ss=[.fr (.tuple [.list (li s),.list (li o)]),.fr (.list (d4 P))]∧(∀ e∈P,e.1.2.length=s.length)∧s.length≤6∧(P.map fun e=>e.1).Nodup∧P.length<1000∧R (.fr (.bool true)) [.un,.un]
theorem f8 {f:Addr}{fd:FuncData} (F:Fun K "_law_is_paper" "_law_is_paper" bt f fd):bu K fd ["_law_town_here", "_law_paper"] []:=F.binds (ps:=["_law_town_here", "_law_paper"]) fun _ _ _ _ _ _ us hl=>us2 (Q:=fun us=>bindArgs _ ⟨us,[]⟩=pure (List.zip _ us)) hl fun _ _=>rfl
theorem f6 {f:Addr}{fd:FuncData} (F:Fun K "_law_is_paper" "_law_is_paper" bt f fd) (B:Bn mg) (G__law_whole:Cal P w K mg base "_law_whole" 1 (spD K pM)):cG P w K mg base CX0 2 f fd ["_law_town_here", "_law_paper"] (spD K pV):=by
 refine okD (k:=1) F b9 (fun ss R h=>?_) (by decide) (fun cdv A outer s H E hr=>⟨_,(aj (fW (dq (cT (qp (K:=K) rfl uq rfl B.isinstance rfl B.list PyProof.Rows.boot_list (qv 1)))) (ai (aU j4)) bw)
   (aj (aV (i:=2) b9.nd rfl (Or.inl rfl) (cI ac))
   (aj (eK PassesOwn.never rfl (aD (K:=K) rfl (qf 1)) (al (i:=3) b9.nd rfl (Or.inl rfl)) (aj (fW (PW.pt (gC (dq (cT (qp (K:=K) rfl ku rfl B.isinstance rfl B.tuple PyProof.Rows.boot_tuple (qv 3)))) (gC (aF Ac C5 (fX (im (K:=K) rfl) il rfl B.len PySem.boot_len (aa (qv 3) ac)) af (aA _)) (gC (dq (cT (az G__law_whole (hr.mono (by decide)) rfl (aa (aR (ag (K:=K) rfl) mIx (qv 3) af (fun _ _=>rfl)) ac)))) (fF (dq (cT (qp (K:=K) rfl ku rfl B.isinstance rfl B.tuple PyProof.Rows.boot_tuple (aR (ag (K:=K) rfl) mIx (qv 3) af (fun _ _=>rfl)))))))))) (ai (aU j4)) bw)
   (aj (fW (PW.pt (gC (aF Ac C5 (fX (im (K:=K) rfl) il rfl B.len PySem.boot_len (aa (aR (ag (K:=K) rfl) mIx (qv 3) af (fun _ _=>rfl)) ac)) (fX (im (K:=K) rfl) il rfl B.len PySem.boot_len (aa (aR (ag (K:=K) rfl) mIx (qv 0) af (fun _ _=>rfl)) ac)) (aA _)) (fF (aF (Bl (K:=K) rfl hr.units) mNe (cf (N':=["_law_left"]) (ix:=[none]) rfl (bP (N:=["_law_town_here", "_law_paper", "_law_met", "_law_one"]) (sc0:=ad bt) rfl rfl (by decide +kernel)) (zE (K:=K) rfl (aR (ag (K:=K) rfl) mIx (qv 3) af (fun _ _=>rfl))) (fun _ _ _ _=>(al (i:=0) (show List.Nodup (["_law_left"]:List Str) by decide +kernel) rfl (Or.inl rfl))) (fun _ _ _ _=>(cQ (dq (cT (az G__law_whole (hr.mono (by decide)) rfl (aa (qf 0) ac)))))) (fun _ _ _ _=>(qf 0))) (cI ac) (aA _))))) (ai (aU j4)) bw)
   (aj (fW (PW.pt (gC (dq (cT (az G__law_whole (hr.mono (by decide)) rfl (aa (aR (ag (K:=K) rfl) mIx (qv 3) af (fun _ _=>rfl)) ac)))) (fF (aF (DJ (K:=K) rfl (vL hr)) Dw (bW (aa (aR (ag (K:=K) rfl) mIx (qv 3) af (fun _ _=>rfl)) (aa (aR (ag (K:=K) rfl) mIx (qv 3) af (fun _ _=>rfl)) ac))) (qv 2) (by with_unfolding_all rfl))))) (ai (aU j4)) bw)
   (ai (dD (oN 2 (K:=K) rfl rfl (bW (aa (aR (ag (K:=K) rfl) mIx (qv 3) af (fun _ _=>rfl)) (aa (aR (ag (K:=K) rfl) mIx (qv 3) af (fun _ _=>rfl)) ac))))))))))
   (ai (aU j4))))),fun ss R h=>?_⟩)
 ·obtain ⟨s,o,P,rfl,_⟩:=h
  rfl
 obtain ⟨s,o,P,rfl,hl,h6,hnd,hP,q⟩:=h
 walk_at "dx"
 refine ⟨Ez _,?_⟩
 walk_at "dx"
 refine bp (fun i env=>∃ v:Sl,env=[.fr (.tuple [.list (li s),.list (li o)]),.fr (.list (d4 P)),.ow ((P.take i).map fun e=>stS e.1),v]) ⟨_,rfl⟩ ?_ ?_
 ·rintro i env hi ⟨v,rfl⟩
  rw [D7] at hi
  rw [EN]
  have hle:=hl _ (EA hi)
  have et:P.take (i+1)=P.take i++[P[i]]:=by rw[FE,D8 hi];rfl
  have hnot:P[i].1 ∉ (P.take i).map fun e=>e.1:=fun hm=>by
   rw [List.map_take] at hm
   obtain ⟨j,hj,e⟩:=Ex hm
   rw [EV,D7] at hj
   rw [List.getElem_take,EN] at e
   have:=(List.getElem?_inj (i:=j) (j:=i) (by rw[D7];omega) hnd).mp (by rw[EM,EM,D8 (by omega),D8 hi];simp[e])
   omega
  rw [et,EH]
  have hl2:(P.take i).length≤1000:=by rw[EV];omega
  generalize P[i]=e at *
  generalize P.take i=D at *
  walk_at "dx"
  rw [if_neg (by decide)]
  refine ⟨_,rfl,?_⟩
  walk_at "dx"
  rw [D7,D7,hle,if_neg (by simp)]
  refine bE (fun _=>false) (fun i=>.int (e.1.2.getD i 0)) (by rw[D7];omega) (fun j hj Q Q' h1 h2=>?_) ?_
  ·rw [cV]
   walk_at "dx"
   refine ⟨_,rfl,?_⟩
   walk_at "dx"
   exact h2 rfl
  rw [Fq.mpr (fun _ _=>by simp),FQ]
  walk_at "dx"
  refine ⟨Ez _,(Sh.ints 0 []).shp (by decide),(Sh.ints 0 []).shp (by decide),?_⟩
  rw [show PyData.eqv (.list []) (.list [])=true from by rw[show PyData.list []=PyData.list (li []) from rfl,kR];rfl]
  walk_at "dx"
  refine ⟨_,rfl,?_⟩
  walk_at "dx"
  have hany:((D.map fun e=>stS e.1).any fun x=>PyData.eqv x (.tuple [.int (e.1.1:Int),.tuple (li e.1.2)]))=false:=List.any_eq_false.mpr fun x hx=>by
   obtain ⟨f,hf,rfl⟩:=Em.mp hx
   rw [show PyData.eqv (stS f.1) (.tuple [.int (e.1.1:Int),.tuple (li e.1.2)])=decide (kOf f.1=kOf e.1) from yr (kOf f.1) (kOf e.1)]
   intro z
   exact hnot (Em.mpr ⟨f,hf,gP (of_decide_eq_true z)⟩)
  refine ⟨Eg (by decide) ae,(vH e.1).shp (by decide),(Sh.list fun x hx=>?_:Sh 3 _).shp (by decide),?_⟩
  ·obtain ⟨f,_,rfl⟩:=Em.mp hx
   exact vH f.1
  rw [hany,if_neg (by decide)]
  walk_at "dx"
  have hlD:(D.map fun e=>stS e.1).length<1000000:=by rw[D7];omega
  exact ⟨Eg (by decide) ae,Ep hlD ae⟩
 ·rintro env ⟨v,rfl⟩
  walk_at "dx"
  exact q
noncomputable abbrev xb:Stmt:=top 30
theorem nh:ar ["_law_script", "_law_town_here", "_law_paper", "_law_again"] ["_law_script"] (ad xb):=⟨rfl,rfl,rfl,by decide +kernel,rfl,by decide +kernel,by decide +kernel⟩
theorem qx:∀ s:List Int,gG s=j5 s
 | []=>rfl
 | x::s=>by
  show x.toNat*gG s=x.toNat*j5 s
  rw [qx s]
theorem TB.tbl {s o:List Int} (h:TB s o) (hp:o.length*gG s≤60):TbL s o∧(jK s o).length≤60:=by
 obtain ⟨h1,h2,h3,h4,h5,h6,h7⟩:=h
 have e:(jK s o).length≤60:=by rw[vf,←qx];exact hp
 exact ⟨⟨h2,h3,fun x hx=>(h5 x hx).1,fun x hx=>(h6 x hx).1,h7.imp id fun h x hx=>Int.le_trans (h x hx) (by decide),by omega⟩,e⟩
noncomputable def w4:DSp:=fun ss R=>∃ ns:List Int,ss=[.fr (.list (li ns))]∧ns.length≤63∧R (.fr (.bool true)) [.un]
noncomputable def zc (e:Std×Int):Ent:=((e.1.1:Int),e.1.2,e.2)
theorem lQ (P:List (Std×Int)):d4 P=enL (P.map zc):=by
 show List.map _ _=List.map _ (List.map _ _)
 rw [EI]
 rfl
theorem pe.out {s o:List Int}{P:List (Std×Int)} (h:pe s o P) (hs:∀ x∈s,1≤x):vh s o (P.map zc):=by
 have e:(P.map zc).map toE=P:=by
  rw [EI]
  exact List.map_id' P
 refine ⟨fun e he=>?_,?_⟩
 ·obtain ⟨f,hf,rfl⟩:=Em.mp he
  obtain ⟨i1,i2,_⟩:=h.is f hf
  exact ⟨i1.2.2,Int.natCast_nonneg _,Int.ofNat_lt.mpr i1.1,i2⟩
 ·rw [e]
  have self:∀ {x:Std},IsS s o x→noB s o x x:=fun hx=>⟨hx,rfl,hx.2.1,fun c _=>Fe _⟩
  refine ⟨?_,fun e he r hr=>?_⟩
  ·obtain ⟨e,he,e1⟩:=h.bg
   exact ⟨e,he,by have:=self (h.is e he).1;rwa [e1] at this ⊢⟩
  ·obtain ⟨e',m,q1,q2⟩:=h.step hs he (self (h.is e he).1) ⟨r,hr,rfl⟩
   exact ⟨e',m,q2,q1⟩
theorem wQ.nd {s o:List Int}{P:List (Std×Int)} (h:wQ s o P):(P.map fun e=>e.1).Nodup:=by
 obtain ⟨lost,rk,rfl,hl,hk,_⟩:=h
 rw [show (lost.zip rk).map (fun e=>e.1)=lost from List.map_fst_zip (by omega)]
 exact hk.nd
theorem wQ.lost {s o:List Int}{P:List (Std×Int)} (h:wQ s o P):∃ lost,mE s o (0,s) lost:=by
 obtain ⟨lost,_,_,_,_,he,_⟩:=h
 exact ⟨lost,he⟩
theorem Ai {f:Addr}{fd:FuncData} (F:Fun K "law" "law" xb f fd) (B:Bn mg) (G__law_draws:Cal P w K mg base "_law_draws" 2 (spD K pX)) (G__law_town:Cal P w K mg base "_law_town" 2 (spD K vq)) (G_paper_of:Cal P w K mg base "paper_of" 10 (spD K pO)) (G_plan_of:Cal P w K mg base "plan_of" 10 (spD K vv)) (G__law_is_paper:Cal P w K mg base "_law_is_paper" 2 (spD K pV)) (G__law_shuts_out:Cal P w K mg base "_law_shuts_out" 3 (spD K mW)) (G_shuts_out:Cal P w K mg base "shuts_out" 9 (spD K pN)):cG P w K mg base CX0 12 f fd ["_law_script"] (spD K w4):=by
 refine okD (k:=11) F nh (fun ss R h=>?_) (by decide) (fun cdv A outer s H E hr=>⟨_,(aj (aV (i:=1) nh.nd rfl (Or.inl rfl) (qt G__law_town (hr.mono (by decide)) rfl (aa (az G__law_draws (hr.mono (by decide)) rfl (aa (qf 0) (aa af (aa af ac)))) (aa af ac))))
   (aj (aV (i:=2) nh.nd rfl (Or.inl rfl) (az G_paper_of (hr.mono (by decide)) rfl (aa (qf 1) ac)))
   (aj (aV (i:=3) nh.nd rfl (Or.inl rfl) (az G_paper_of (hr.mono (by decide)) rfl (aa (qf 1) ac)))
   (aj (fW (PW.pt (gC (aF (Bl (K:=K) rfl hr.units) mNe (qv 1) (qt G__law_town (hr.mono (by decide)) rfl (aa (az G__law_draws (hr.mono (by decide)) rfl (aa (qf 0) (aa af (aa af ac)))) (aa af ac))) (aA _)) (fF (aF (Bl (K:=K) rfl hr.units) mNe (qv 2) (qv 3) (aA _))))) (ai (aU j4)) bw)
   (aj (fW (aF lR Dx (ii nz Bk (qv 2) jZ (aA _)) (ii nz Bk (az G_plan_of (hr.mono (by decide)) rfl (aa (qf 1) ac)) jZ (aA _)) (aA _)) (ai (aU j4)) bw)
   (bz (fW (aF nz Bk (qv 2) jZ (aA _)) (ai (aU j4)) bw)
   (aj (fW (PW.pt (gC (dq (cT (az G__law_is_paper (hr.mono (by decide)) rfl (aa (qf 1) (aa (qf 2) ac))))) (gC (dq (cT (az G__law_shuts_out (hr.mono (by decide)) rfl (aa (qf 1) (aa (qf 2) ac))))) (fF (aF qP B8 (az G_shuts_out (hr.mono (by decide)) rfl (aa (qf 1) (aa (qf 2) ac))) j4 (aA _)))))) (ai (aU j4)) bw)
   (bz (dD (xo 3 (K:=K) rfl rfl))
   (ai (aU (ii (za (K:=K) rfl hr.units) mEq (az G_paper_of (hr.mono (by decide)) rfl (aa (qf 1) ac)) (qv 2) (aA _)))))))))))),fun ss R h=>?_⟩)
 ·obtain ⟨ns,rfl,_⟩:=h
  rfl
 obtain ⟨ns,rfl,h63,q⟩:=h
 walk_at "dx"
 refine ⟨ns,1,30,rfl,h63,by decide,by decide,?_⟩
 walk_at "dx"
 refine ⟨drF ns 1 30,60,rfl,rN _ _ _,by decide,by decide,fun hd tb hp=>?_⟩
 obtain ⟨s,es⟩:∃ s,s=(twF (drF ns 1 30) 60).1:=⟨_,rfl⟩
 obtain ⟨o,eo⟩:∃ o,o=(twH (drF ns 1 30)).1:=⟨_,rfl⟩
 rw [←es,←eo] at tb hp ⊢
 walk_at "dx"
 obtain ⟨ht,hN⟩:=tb.tbl hp
 have hs1:∀ x∈s,1≤x:=fun x hx=>(tb.2.2.2.2.1 x hx).1
 have shT:Sh 2 (.tuple [.list (li s),.list (li o)]):=Sh.tuple fun y hy=>by
  simp only [En,EJ,or_false] at hy
  rcases hy with rfl|rfl
  ·exact Sh.ints 0 s
  ·exact Sh.ints 0 o
 refine ⟨s,o,rfl,ht,fun hR=>?_,fun P hE hP hPl=>?_⟩
 ·walk_at "dx"
  refine ⟨s,o,rfl,ht,fun _=>?_,fun P hE _ _=>by obtain⟨l,hl⟩:=hE.lost;exact (dB hR hl).elim⟩
  walk_at "dx"
  refine ⟨ns,1,30,rfl,h63,by decide,by decide,?_⟩
  walk_at "dx"
  refine ⟨drF ns 1 30,60,rfl,rN _ _ _,by decide,by decide,fun _ _ _=>?_⟩
  rw [←es,←eo]
  walk_at "dx"
  refine ⟨shT.shp (by decide),?_⟩
  rw [nR shT (by decide)]
  walk_at "dx"
  refine ⟨shT.shp (by decide),?_⟩
  walk_at "dx"
  refine ⟨s,o,rfl,ht,fun _ A B=>?_,fun lost hl=>(dB hR hl).elim⟩
  walk_at "dx"
  exact q
 ·walk_at "dx"
  refine ⟨s,o,rfl,ht,fun hR=>by obtain⟨l,hl⟩:=hE.lost;exact (dB hR hl).elim,fun P' hE' _ _=>?_⟩
  obtain rfl:=hE'.one hE
  walk_at "dx"
  refine ⟨ns,1,30,rfl,h63,by decide,by decide,?_⟩
  walk_at "dx"
  refine ⟨drF ns 1 30,60,rfl,rN _ _ _,by decide,by decide,fun _ _ _=>?_⟩
  rw [←es,←eo]
  walk_at "dx"
  refine ⟨shT.shp (by decide),?_⟩
  rw [nR shT (by decide)]
  walk_at "dx"
  have shP:shp (.list (d4 P')):=by rw[lQ];exact (vJ _).shp (by decide)
  have eqP:PyData.eqv (.list (d4 P')) (.list (d4 P'))=true:=SeqAt.eqv_refl _ (SeqAt.canLay_of_shaped shP)
  have hl6:∀ e∈P',e.1.2.length=s.length:=fun e he=>(hP.is e he).1.2.1
  refine ⟨shT.shp (by decide),shP,shP,?_⟩
  rw [eqP,if_neg (by decide)]
  walk_at "dx"
  refine ⟨s,o,rfl,ht,fun hR=>by obtain⟨l,hl⟩:=hE.lost;exact (dB hR hl).elim,fun lost _=>?_⟩
  walk_at "dx"
  refine ⟨s,o,P',rfl,hl6,ht.1,hE.nd,by omega,?_⟩
  walk_at "dx"
  have hout:=hP.out hs1
  have hlE:∀ e∈P'.map zc,e.2.1.length=s.length:=fun e he=>by
   obtain ⟨f,hf,rfl⟩:=Em.mp he
   exact hl6 f hf
  refine ⟨s,o,P'.map zc,by rw[lQ],tb,hlE,by rw[D7];omega,fun b1 hb1=>?_⟩
  obtain rfl:b1=true:=hb1.mpr hout
  walk_at "dx"
  refine ⟨s,o,P'.map zc,by rw[lQ],ht,hlE,by rw[D7];omega,fun b2 hb2=>?_⟩
  obtain rfl:b2=true:=hb2.mpr hout
  walk_at "dx"
  refine nx ?_
  walk_at "d1"
  refine ⟨s,o,rfl,ht,fun hR=>by obtain⟨l,hl⟩:=hE.lost;exact (dB hR hl).elim,fun P3 hE3 _ _=>?_⟩
  obtain rfl:=hE3.one hE
  walk_at "dx"
  refine ⟨shP,shP,?_⟩
  rw [eqP]
  exact q
end
theorem Ba {l:PySem.W.OpenLaw}{w:World}{K:PySem.W.Frag}{h:Heap}{mg:Str→Option Value}{fa:Addr} (X:K.In h) (G:h.Ns mainGlobals mg) (hfa:mg "law" = some (.ref fa))
  (g0:FnI K "_law_pop" dL)
  (g1:FnI K "_law_mix" dM)
  (g2:FnI K "_law_draws" bV)
  (g3:FnI K "_law_town" bF)
  (g4:FnI K "_law_rows" bd)
  (g5:FnI K "_law_after" cN)
  (g6:FnI K "hands_on" dJ)
  (g7:FnI K "behind" eJ)
  (g8:FnI K "begun" i8)
  (g9:FnL K "choices" dA)
  (g10:FnL K "full_rows" cA)
  (g11:FnI K "looked_through" bi)
  (g12:FnI K "paper_of" bS)
  (g13:FnI K "next_worse" bH)
  (g14:FnL K "least_ranks" cp)
  (g15:FnI K "is_ranked" cy)
  (g16:FnI K "leads_down" bI)
  (g17:FnI K "shuts_out" cx)
  (g18:FnI K "_law_begun" cM)
  (g19:FnI K "_law_no_worse" br)
  (g20:FnI K "_law_stands" bM)
  (g21:FnI K "_law_shuts_out" aP)
  (g22:FnI K "plan_of" eI)
  (g23:FnI K "_law_whole" cL)
  (g24:FnI K "_law_is_paper" bt)
  (g25:FnI K "law" xb)
  (z : BnI K)
  : ∃ fd:FuncData,(∀ (s:Shared) (v:Value),BindsTo s fd ⟨[v],[]⟩ [("_law_script",v)])∧∀ base:Heap,K.In base→base.Ns mainGlobals mg→cG l.prog w K mg base CX0 12 fa fd ["_law_script"] (spD K w4):=by
 have B:Bn mg:=z.bn X G
 refine Dz X G hfa g25 (fun F s v=>?_) fun {fd base} F_law Xb=>?_
 ·obtain ⟨_,_,_,_,_,_,_,_,_,rfl,_,_⟩:=F.ex
  exact .of_eq rfl
 have G__law_pop:=hZ X G g0 mx fun F=>lV (P:=l.prog) (w:=w) (base:=base) F B
 have G__law_mix:=hZ X G g1 my fun F=>lW (P:=l.prog) (w:=w) (base:=base) F B
 have G__law_draws:=hZ X G g2 jG fun F=>je (P:=l.prog) (w:=w) (base:=base) F B G__law_mix
 have G__law_town:=hZ X G g3 lw fun F=>kh (P:=l.prog) (w:=w) (base:=base) F B G__law_pop
 have G__law_rows:=hZ X G g4 ly fun F=>ki (P:=l.prog) (w:=w) (base:=base) F B
 have G__law_after:=hZ X G g5 jI fun F=>jg (P:=l.prog) (w:=w) (base:=base) F B
 have G_hands_on:=hZ X G g6 mw fun F=>lU (P:=l.prog) (w:=w) (base:=base) F B
 have G_behind:=hZ X G g7 sI fun F=>qR (P:=l.prog) (w:=w) (base:=base) F B
 have G_begun:=hZ X G g8 vd fun F=>t8 (P:=l.prog) (w:=w) (base:=base) F B
 have G_choices:=CL X G Xb g9 o9 fun F L=>oT (P:=l.prog) (w:=w) F B L G_hands_on
 have G_full_rows:=CL X G Xb g10 lq fun F L=>kg (P:=l.prog) (w:=w) F B L G_choices
 have G_looked_through:=hZ X G g11 fu fun F=>fg (P:=l.prog) (w:=w) (base:=base) F B G_full_rows G_behind
 have G_paper_of:=hZ X G g12 mv fun F=>lT (P:=l.prog) (w:=w) (base:=base) F B G_looked_through G_begun G_full_rows G_behind
 have G_next_worse:=hZ X G g13 jD fun F=>jb (P:=l.prog) (w:=w) (base:=base) F B
 have G_least_ranks:=CL X G Xb g14 iw fun F L=>ij (P:=l.prog) (w:=w) F B L G_next_worse
 have G_is_ranked:=hZ X G g15 ln fun F=>kc (P:=l.prog) (w:=w) (base:=base) F B
 have G_leads_down:=hZ X G g16 jE fun F=>jc (P:=l.prog) (w:=w) (base:=base) F B G_choices G_behind
 have G_shuts_out:=hZ X G g17 lm fun F=>kb (P:=l.prog) (w:=w) (base:=base) F B G_is_ranked G_least_ranks G_begun G_leads_down
 have G__law_begun:=hZ X G g18 jH fun F=>jf (P:=l.prog) (w:=w) (base:=base) F B
 have G__law_no_worse:=hZ X G g19 f7 fun F=>fZ (P:=l.prog) (w:=w) (base:=base) F B
 have G__law_stands:=hZ X G g20 iz fun F=>ik (P:=l.prog) (w:=w) (base:=base) F B
 have G__law_shuts_out:=hZ X G g21 fv fun F=>fh (P:=l.prog) (w:=w) (base:=base) F B G__law_stands G__law_rows G__law_after G__law_no_worse G__law_begun
 have G_plan_of:=hZ X G g22 o8 fun F=>oS (P:=l.prog) (w:=w) (base:=base) F B G_looked_through G_begun
 have G__law_whole:=hZ X G g23 jF fun F=>jd (P:=l.prog) (w:=w) (base:=base) F B
 have G__law_is_paper:=hZ X G g24 f8 fun F=>f6 (P:=l.prog) (w:=w) (base:=base) F B G__law_whole
 exact Ai F_law B G__law_draws G__law_town G_paper_of G_plan_of G__law_is_paper G__law_shuts_out G_shuts_out
end _W
open PySem PySem.W PyProof.Rows
set_option maxRecDepth 100000 in
set_option maxHeartbeats 0 in
theorem PySem.Challenge.cw_windround_k12_whole_a_plan_or_a_paper_holds : PySem.Challenge.rw_windround_k12_whole_a_plan_or_a_paper.Holds := by
 w_on;o_law;k_head;(case hw=>w_witness2)
 k_fill
 refine _L.BC (l:=PySem.Challenge.rw_windround_k12_whole_a_plan_or_a_paper) (sp:=_W.w4) (k:=12) (by decide) rfl rfl (fun ns h=>⟨ns,rfl,h,rfl⟩) ?TB (fun w h Y=>PySem.W.km_in_of Y) ?F
 case TB =>
  intro w s₀ mg mb h G KX
  refine' _L.wW _ (_L.jm (x := "choices") (_L.jn G KX rfl ?a1 ?l1 ?c1 ?lc1 ?hT1 ?hn1) (_L.jm (x := "full_rows") (_L.jn G KX rfl ?a2 ?l2 ?c2 ?lc2 ?hT2 ?hn2) (_L.jm (x := "least_ranks") (_L.jn G KX rfl ?a3 ?l3 ?c3 ?lc3 ?hT3 ?hn3) _L.ya))) ?nd (_L.yb (.inl ?y0) (.inl ?y1) (.inr ?z2) (.inl ?y3))
  (case a1=>k_is);(case l1=>k_is);(case c1=>exact rfl);(case lc1=>k_is);(case hT1=>exact⟨rfl,rfl,⟨_,_,rfl⟩,⟨_,_,rfl⟩,⟨_,rfl⟩,⟨_,_,rfl⟩,by decide⟩);(case hn1=>kernel_rfl)
  (case a2=>k_is);(case l2=>k_is);(case c2=>exact rfl);(case lc2=>k_is);(case hT2=>exact⟨rfl,rfl,⟨_,_,rfl⟩,⟨_,_,rfl⟩,⟨_,rfl⟩,⟨_,_,rfl⟩,by decide⟩);(case hn2=>kernel_rfl)
  (case a3=>k_is);(case l3=>k_is);(case c3=>exact rfl);(case lc3=>k_is);(case hT3=>exact⟨rfl,rfl,⟨_,_,rfl⟩,⟨_,_,rfl⟩,⟨_,rfl⟩,⟨_,_,rfl⟩,by decide⟩);(case hn3=>kernel_rfl)
  (case nd=>decide);(case y0=>simp);(case y1=>simp);(case z2=>k_is);(case y3=>simp)
 case F =>
  intro w mg fa h KX G hmg
  refine' _W.Ba KX G hmg ?fn0 ?fn1 ?fn2 ?fn3 ?fn4 ?fn5 ?fn6 ?fn7 ?fn8 ?fn9 ?fn10 ?fn11 ?fn12 ?fn13 ?fn14 ?fn15 ?fn16 ?fn17 ?fn18 ?fn19 ?fn20 ?fn21 ?fn22 ?fn23 ?fn24 ?fn25 ?fz
  case fn0|fn1|fn2|fn3|fn4|fn5|fn6|fn7|fn8|fn11|fn12|fn13|fn15|fn16|fn17|fn18|fn19|fn20|fn21|fn22|fn23|fn24|fn25=>(refine' _L.fnI ?fa ?fl ?fc ?fk;(case fa=>k_is);(case fl=>k_is);(case fc=>k_is);(case fk=>k_is))
  case fn9|fn10|fn14=>(refine' _L.fnL (by decide) ?fa ?fl ?fc ?fk ?fhc ?flc ?fhT;(case fa=>k_is);(case fl=>k_is);(case fc=>k_is);(case fk=>k_is);(case fhc=>exact rfl);(case flc=>k_is);(case fhT=>exact⟨rfl,rfl,⟨_,_,rfl⟩,⟨_,_,rfl⟩,⟨_,rfl⟩,⟨_,_,rfl⟩,by decide⟩))
  case fz=>refine' ⟨?_,?_,?_,?_,?_,?_,?_,?_,?_,?_,?_,?_,?_,?_,?_,?_,?_⟩ <;> k_is
