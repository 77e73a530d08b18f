import PyProof.Rows.All
import Wide.All
import OpenK.AllK
import Wide.FinOn
import Lean
import PyProof.EqAt
import PyProof.EqKinds
import PyProof.TupleCall
import PyProof.DictRoadsH
import PyProof.DictKinds
import PyProof.DictIter
import PyProof.ListMulAny
import PyProof.StrLawsTight
import KE.KIntText
import PyProof.Rows.StrItems
import PyProof.StrWalks
import KE.KSortTup
import KE.KLam
import PyProof.ExcInit
import PyProof.ExcClass3
import PyProof.InstStoreFacts
import PyProof.ExcBaseAll.ValueError
import PyProof.ExcArgsOwn
import PyProof.ExcAttrAll.ValueError
import PyProof.Rows.RuleN_isinstance
import PyProof.AutoSeq1
import KE.KRevIter
import PyProof.Rows.FactsT2
import PyProof.DictTruth
import PyProof.DictWalks
import PySem.Challenge.RW_windround_k39_keeping_goes_on
set_option compiler.extract_closed false
set_option bootstrap.genMatcherCode false
local macro_rules | `(tactic| omega) => `(tactic| first | assumption | lia)
set_option Elab.async false
set_option linter.all false
set_option maxRecDepth 100000
open List renaming length_map → DK, mem_append_right → DL, mem_singleton → DM, mem_append_left → DP, mem_append → DQ, getElem?_eq_getElem → DR, getD_eq_getElem?_getD → DW, getElem?_eq_some_iff → DX, mem_cons_self → DY, nodup_append → DZ, mem_cons_of_mem → D0, mem_cons → D3, mem_map → D4, size_toArray → D5, mem_filter → D9, getElem?_append_left → Eb, map_cons → Ec, getElem?_set_ne → Ef, getElem?_set_self → Eg, append_nil → Eh, map_append → Ei, nodup_cons → Ej, append_assoc → Ek, length_append → El, not_mem_nil → En, getElem_of_mem → Eo, getElem?_map → Ep, lookup_cons → Er, length_cons → Et, map_map → Ew, length_filter_le → Ey, mem_range → Ez, length_range → EA, replicate → EC, getElem_mem → EE, filter_cons_of_pos → EI, getElem?_append_right → EJ, drop_of_length_le → EK, take_of_length_le → EM, filter_append → EN, perm_append_comm → ES, drop_eq_getElem_cons → ET, find?_cons → EW, filter_cons_of_neg → EX, ext_getElem → E3, length_singleton → E4, all_eq_true → E7, getElem?_set_self' → E9, eq_nil_or_concat → Fb, concat_eq_append → Fc, forIn_nil → Fe, nodup_nil → Ff, mem_of_getElem? → Fh, pairwise_append → Fi, length_take → Fj, getElem_map → Fk, getElem?_zip_eq_some → Fn, map_congr_left → Fp, of_mem_zip → Fq, forIn_cons → Fs, length_zip → Ft, range_succ → Fu, mem_replicate → Fv, pairwise_cons → Fx, map_nil → Fy
open Nat renaming le_trans → D1, le_refl → D2, lt_of_lt_of_le → D6, ne_of_lt → Ed, zero_le → Ee, ne_of_gt → EH, le_succ → EO, le_add_right → ER, pow_le_pow_right → EU, lt_irrefl → EY, lt_succ_self → EZ, lt_succ_of_lt → E5, min_eq_right → Fl, lt_of_le_of_lt → Fw
open Int renaming toNat_natCast → Eu, emod_lt_of_pos → Ex, emod_nonneg → EF
open Option renaming bind_eq_some_iff → Fa
open Bool renaming false_ne_true → Ea, false_eq_true → Em, and_eq_true → Es, eq_iff_iff → EV, not_true → E6, false_and → Fd, true_and → Fm
open PySem.Heap renaming get?_push_of_some → DU, lt_size → D7, get?_push_size → D8, size_push → ED, get?_update_self → EG, get?_update_other → EQ, size_update → E8, get?_none_of_le → Fg, get?_update_ne → Fo
namespace L2
open PySem PySem.Spec PyProof.Rows
noncomputable abbrev Key:=Sum Int Str
noncomputable def Af:Key→Value→Bool
 | .inl k,v=>Value.isInt k v
 | .inr x,v=>Value.isStrOf x v
noncomputable def Dl (w:World):Key→Int
 | .inl k=>hashInt k
 | .inr x=>hashStr w x
theorem bc:∀ {k:Key}{v:Value},Af k v=true→(∃ i t,k=Sum.inl i∧v=Value.int i t)∨(∃ x t,k=Sum.inr x∧v=Value.str x t)
 | .inl i,v,h=>by
  obtain ⟨t,e⟩:=Value.isInt_shape (k:=i) (v:=v) h
  exact .inl ⟨i,t,rfl,e⟩
 | .inr x,v,h=>by
  obtain ⟨t,e⟩:=Value.isStrOf_shape (x:=x) (v:=v) h
  exact .inr ⟨x,t,rfl,e⟩
theorem Ad (a b:Int):decide ((Sum.inl a:Key)=Sum.inl b)=(a==b):=by
 by_cases e:a=b
 ·subst e;simp
 ·have h:¬(Sum.inl a:Key)=Sum.inl b:=fun q=>e (Sum.inl.inj q)
  rw [decide_eq_false h]
  exact (beq_eq_false_iff_ne.mpr e).symm
theorem Aa (a b:Str):decide ((Sum.inr a:Key)=Sum.inr b)=decide (a=b):=by
 by_cases e:a=b
 ·subst e;simp
 ·have h:¬(Sum.inr a:Key)=Sum.inr b:=fun q=>e (Sum.inr.inj q)
  rw [decide_eq_false h,decide_eq_false e]
theorem Ac (a:Int) (b:Str):decide ((Sum.inl a:Key)=Sum.inr b)=false:=decide_eq_false (fun q=>nomatch q)
theorem Ab (a:Str) (b:Int):decide ((Sum.inr a:Key)=Sum.inl b)=false:=decide_eq_false (fun q=>nomatch q)
noncomputable def lq (prog:Program) (w:World):PySem.KeyKind prog w Key where
 is := Af
 hash:=Dl w
 inj := fun v a b ha hb=>by
  rcases bc ha with ⟨i,t,rfl,rfl⟩|⟨x,t,rfl,rfl⟩
  ·rcases bc hb with ⟨j,u,rfl,e⟩|⟨y,u,rfl,e⟩
   ·injection e with e1 _;rw[e1]
   ·exact nomatch e
  ·rcases bc hb with ⟨j,u,rfl,e⟩|⟨y,u,rfl,e⟩
   ·exact nomatch e
   ·injection e with e1 _;rw[e1]
 byValue:=fun k v h=>by
  rcases bc h with ⟨i,t,rfl,rfl⟩|⟨x,t,rfl,rfl⟩ <;> rfl
 pyHash:=fun hv h=>by
  rcases bc hv with ⟨i,t,rfl,rfl⟩|⟨x,t,rfl,rfl⟩
  ·exact wpAny_pyHash_int h
  ·exact wpAny_pyHash_str h
 eqBool:=fun hu hv h=>by
  rcases bc hu with ⟨i,t,rfl,rfl⟩|⟨x,t,rfl,rfl⟩
  ·rcases bc hv with ⟨j,u,rfl,rfl⟩|⟨y,u,rfl,rfl⟩
   ·rw [Ad] at h;exact wpAny_eqBool_int h
   ·rw [Ac] at h;exact SeqAt.EqAt.int_str i t y u _ _ _ _ h
  ·rcases bc hv with ⟨j,u,rfl,rfl⟩|⟨y,u,rfl,rfl⟩
   ·rw [Ab] at h;exact SeqAt.EqAt.str_int x t j u _ _ _ _ h
   ·rw [Aa] at h;exact wpAny_eqBool_str h
 «strs»:=fun k x t v h=>by
  rcases bc h with ⟨i,u,rfl,e⟩|⟨y,u,rfl,e⟩
  ·exact nomatch e
  ·injection e with e1 _
   subst e1
   cases v <;> rfl
inductive V where
 | non|bl (b:Bool)|int (i:Int)|str (x:Str)|byt (b:Array UInt8)|flt (b:UInt64)|ref (a:Addr)|ty (n:String)
 deriving DecidableEq
noncomputable def bz:V→Value→Prop
 | .non,u=>u=Value.none
 | .bl b,u=>u=Value.bool b
 | .int i,u=>∃ t,u=Value.int i t
 | .str x,u=>∃ t,u=Value.str x t
 | .byt b,u=>∃ t,u=Value.bytes b t
 | .flt b,u=>∃ t,u=Value.float b t
 | .ref a,u=>u=Value.ref a
 | .ty n,u=>u=Value.type n
noncomputable abbrev aK:List V→List Value→Prop:=Paired bz
theorem aK.length {xs:List V}{us:List Value} (r:aK xs us):xs.length=us.length:=Paired.length r
theorem aK.get:∀ {xs:List V}{us:List Value}{i:Nat}{x:V},aK xs us→xs[i]? = some x→∃ u,us[i]? = some u∧bz x u
 | _,_,_,_,.nil,e=>by simp at e
 | _,_,0,_,.cons r _,e=>by simp at e;subst e;exact⟨_,rfl,r⟩
 | _,_,i+1,x,.cons _ t,e=>by
  obtain ⟨u,h1,h2⟩:=aK.get (i:=i) (x:=x) t (by simpa using e)
  exact ⟨u,by simpa using h1,h2⟩
theorem aK.set {x:V}{u:Value} (r:bz x u):∀ {xs:List V}{us:List Value} (i:Nat),aK xs us→aK (xs.set i x) (us.set i u)
 | _,_,_,.nil=>.nil
 | _,_,0,.cons _ t=>.cons r t
 | _,_,i+1,.cons q t=>.cons q (aK.set r i t)
theorem aK.append:∀ {xs ys:List V}{us ws:List Value},aK xs us→aK ys ws→aK (xs++ys) (us++ws)
 | _,_,_,_,.nil,s=>s
 | _,_,_,_,.cons r t,s=>.cons r (aK.append t s)
theorem aK.take:∀ {xs:List V}{us:List Value} (n:Nat),aK xs us→aK (xs.take n) (us.take n)
 | _,_,0,_=>.nil
 | _,_,_+1,.nil=>.nil
 | _,_,n+1,.cons r t=>.cons r (aK.take n t)
theorem aK.drop:∀ {xs:List V}{us:List Value} (n:Nat),aK xs us→aK (xs.drop n) (us.drop n)
 | _,_,0,r=>r
 | _,_,_+1,.nil=>.nil
 | _,_,n+1,.cons _ t=>aK.drop n t
noncomputable def CT:Option V→Option Value→Prop
 | some v,some u=>bz v u
 | none,none=>True
 | _,_=>False
noncomputable def KV {κ:Type}:List (κ×V)→List (κ×Value)→Prop:=Paired fun (p:κ×V) (q:κ×Value)=>p.1=q.1∧bz p.2 q.2
noncomputable def kV:Key→V
 | .inl i=>.int i
 | .inr x=>.str x
inductive HO where
 | lst (xs:List V)
 | tup (xs:List V)
 | dK (kvs:List (Key×V))|dT (kvs:List (List Key×V))
 | set (S:Int→Bool) (n:Nat)
 | ins (C dx:Addr) (fs:List (Str×V))
 | own (x:Addr)
 | xd (fs:List (Str×V))
 | met (f x:Addr)
 | rng (lo hi:Int)
 | frz (o:Obj) (u:HO)
 | tbl (q:Str)
 | ext (φ:Heap→Prop)
noncomputable abbrev Hp:=Addr→Option HO
noncomputable def Fix:HO→Prop
 | .tup _=>True
 | .frz _ _=>True
 | _=>False
noncomputable def yA (H:Hp) (h:Heap) (a:Addr) (q:Str):Prop:=∃ ps:Array Value,h.get? a=some { cls:=.none,data:=.fields ps }∧TriplesOk ps.toList ∧
 ∀ pos cv,codeAmong pos ps.toList=some cv→∃ c oc u vs t,cv=.ref c∧H c=some (.frz oc u)∧oc.data=.fields vs∧vs[1]? = some (.str q t)
noncomputable def upd (H:Hp) (a:Addr) (o:HO):Hp:=fun b=>if b=a then some o else H b
theorem ar {H:Hp}{a:Addr}{o:HO}:upd H a o a=some o:=by unfold upd;rw[if_pos rfl]
theorem ai {H:Hp}{a b:Addr}{o:HO} (h:b≠a):upd H a o b=H b:=by unfold upd;rw[if_neg h]
theorem wn {H:Hp}{a:Addr}{o u:HO}:upd (upd H a o) a u=upd H a u:=by
 funext b;unfold upd;split <;> rfl
theorem ao {H:Hp}{a b:Addr}{o:HO} (h:H a=some o) (h':H b=none):a≠b:=by
 intro e;subst e;rw[h] at h';cases h'
section
variable (P:Program) (w:World)
noncomputable def c7 (H:Hp) (h:Heap) (a:Addr):HO→Prop
 | .lst xs=>xs.length≤sizeLine∧∃ (its:List Value) (n:Nat),aK xs its∧h.get? a=some { cls:=.type "list",data:=.seq its.toArray n }
 | .tup xs=>xs.length≤sizeLine∧∃ its:List Value,aK xs its∧IsTup h a its.toArray
 | .dK kvs=>kvs.length≤sizeLine∧(a==sysModules)=false∧∃ vs,KV kvs vs∧h.DictOf (lq P w) a vs
 | .dT kvs=>kvs.length≤sizeLine∧(a==sysModules)=false∧∃ xs:List (List Key×Addr×Value),
   Paired (fun (p:List Key×V) (q:List Key×Addr×Value)=>p.1=q.1∧H q.2.1=some (.tup (p.1.map kV))∧bz p.2 q.2.2) kvs xs ∧
   ∃ o es ep,h.get? a=some o∧o.ExactDict∧o.data=.dict es ep∧es.toList=xs.map (entryOfKey (tupleKind (lq P w)))∧(xs.map (·.1)).Nodup
 | .set S n=>h.SetOf (intKind P w) a S n
 | .ins C dx fs=>H dx=some (.own a)∧fs.length≤1000∧dx≠a∧h.get? a=some (PySem.W.instObj C dx) ∧
   ∃ mA,h.Ns1 dx mA∧(∀ f,CT (fs.lookup f) (mA f))∧PySem.Within mA (fs.map (·.1))
 | .own _=>∃ o,h.get? a=some o
 | .xd fs=>∃ mA,h.Ns1 a mA∧∀ f,CT (fs.lookup f) (mA f)
 | .rng lo hi=>∃ t u v,h.get? a=some { cls:=.type "range",data:=.fields #[.int lo t,.int hi u,.int 1 v] }
 | .frz o u=>h.get? a=some o∧c7 H h a u
 | .tbl q=>yA H h a q
 | .met f x=>h.get? a=some (PySem.W.methodObj (.ref f) (.ref x))
 | .ext φ=>φ h∧(∃ o,h.get? a=some o)∧∀ h1 h2:Heap,φ h1→(∀ o,h1.get? a=some o→h2.get? a=some o)→φ h2
noncomputable def HOk (H:Hp) (h:Heap):Prop:=∀ a o,H a=some o→c7 P w H h a o
end
section
variable {P:Program}{w:World}{H H':Hp}{h h':Heap}{a:Addr}{o:HO}
theorem c7.lt (x:c7 P w H h a o):a<h.objs.size:=by
 cases o with
 | lst xs=>obtain⟨_,_,_,_,e⟩:=x;exact D7 e
 | tup xs=>obtain⟨_,_,_,p⟩:=x;exact p.lt
 | dK kvs=>obtain⟨_,_,_,_,o,_,_,e,_⟩:=x;exact D7 e
 | dT kvs=>obtain⟨_,_,_,_,o,_,_,e,_⟩:=x;exact D7 e
 | set S n=>obtain⟨o,_,_,_,e,_⟩:=x;exact D7 e
 | ins C dx fs=>obtain⟨_,_,_,e,_⟩:=x;exact D7 e
 | own y=>obtain⟨_,e⟩:=x;exact D7 e
 | xd fs=>obtain⟨_,⟨_,_,_,e,_⟩,_⟩:=x;exact D7 e
 | rng lo hi=>obtain⟨_,_,_,e⟩:=x;exact D7 e
 | frz ob u=>obtain⟨e,_⟩:=x;exact D7 e
 | tbl q=>obtain⟨_,e,_⟩:=x;exact D7 e
 | met f y=>exact D7 (show h.get? a=some _ from x)
 | ext φ=>obtain⟨_,⟨_,e⟩,_⟩:=x;exact D7 e
theorem Paired.mapP {α β:Type}{F G:α→β→Prop}:∀ {l₁:List α}{l₂:List β},Paired F l₁ l₂→(∀ a b,F a b→G a b)→Paired G l₁ l₂
 | _,_,.nil,_=>.nil
 | _,_,.cons r t,f=>.cons (f _ _ r) (Paired.mapP t f)
theorem c7.stay (x:c7 P w H h a o) (k:∀ b u,(b=a∨H b=some (.own a))→h.get? b=some u→h'.get? b=some u)
  (ho:∀ b,H b=some (.own a)→H' b=some (.own a)) (ht:∀ b o,Fix o→H b=some o→H' b=some o):c7 P w H' h' a o:=by
 induction o with
 | lst xs=>obtain⟨z,its,n,r,e⟩:=x;exact⟨z,its,n,r,k _ _ (.inl rfl) e⟩
 | tup xs=>obtain⟨z,its,r,ob,e,c⟩:=x;exact⟨z,its,r,ob,k _ _ (.inl rfl) e,c⟩
 | dK kvs=>obtain⟨z,y,vs,r,ob,es,ep,e,c⟩:=x;exact⟨z,y,vs,r,ob,es,ep,k _ _ (.inl rfl) e,c⟩
 | dT kvs =>
  obtain ⟨z,y,xs,r,ob,es,ep,e,c⟩:=x
  exact ⟨z,y,xs,Paired.mapP r fun p q z=>⟨z.1,ht _ _ trivial z.2.1,z.2.2⟩,ob,es,ep,k _ _ (.inl rfl) e,c⟩
 | set S n=>obtain⟨ob,es,ep,t,e,c⟩:=x;exact⟨ob,es,ep,t,k _ _ (.inl rfl) e,c⟩
 | ins C dx fs =>
  obtain ⟨d,z,ne,e,mA,⟨od,es,ep,e2,c⟩,r⟩:=x
  exact ⟨ho _ d,z,ne,k _ _ (.inl rfl) e,mA,⟨od,es,ep,k _ _ (.inr d) e2,c⟩,r⟩
 | own y=>obtain⟨ob,e⟩:=x;exact⟨ob,k _ _ (.inl rfl) e⟩
 | xd fs=>obtain⟨mA,⟨od,es,ep,e,c⟩,r⟩:=x;exact⟨mA,⟨od,es,ep,k _ _ (.inl rfl) e,c⟩,r⟩
 | rng lo hi=>obtain⟨t,u,v,e⟩:=x;exact⟨t,u,v,k _ _ (.inl rfl) e⟩
 | frz ob u ih=>obtain⟨e,q⟩:=x;exact⟨k _ _ (.inl rfl) e,ih q⟩
 | tbl q =>
  obtain ⟨ps,e,t,c⟩:=x
  exact ⟨ps,k a _ (.inl rfl) e,t,fun pos cv hcv=>let ⟨b,oc,u,vs,t,e1,e2,e3⟩:=c pos cv hcv;⟨b,oc,u,vs,t,e1,ht _ _ trivial e2,e3⟩⟩
 | met f y =>
  have e:h.get? a=some (PySem.W.methodObj (.ref f) (.ref y)):=x
  show h'.get? a=some (PySem.W.methodObj (.ref f) (.ref y))
  exact k a _ (.inl rfl) e
 | ext φ=>obtain⟨p,⟨o,e⟩,st⟩:=x;exact⟨st _ _ p fun o q=>k _ _ (.inl rfl) q,⟨o,k _ _ (.inl rfl) e⟩,st⟩
theorem HOk.lt (x:HOk P w H h) (e:H a=some o):a<h.objs.size:=(x a o e).lt
theorem HOk.fresh (x:HOk P w H h) (e:h.objs.size≤a):H a=none:=by
 cases q:H a with
 | none=>rfl
 | some u=>exact absurd (D6 (x.lt q) e) (EY _)
theorem HOk.kept (x:HOk P w H h) (k:∀ b u,h.get? b=some u→h'.get? b=some u):HOk P w H h':=fun a o e =>
 (x a o e).stay (fun b u _ q=>k b u q) (fun _ q=>q) fun _ _ _ q=>q
theorem HOk.laid (x:HOk P w H h) (k:∀ b u,h.get? b=some u→h'.get? b=some u) (hp:h.objs.size≤a) (new:c7 P w (upd H a o) h' a o):HOk P w (upd H a o) h':=fun b u e=>by
 have hn:=x.fresh hp
 by_cases hb:b=a
 ·subst hb;rw[ar] at e;cases e;exact new
 ·rw [ai hb] at e
  exact (x b u e).stay (fun c v _ q=>k c v q) (fun c q=>by rw[ai (ao q hn)];exact q) fun c xs _ q=>by rw[ai (ao q hn)];exact q
end
noncomputable def Rd (H:Hp) (a:Addr) (u:HO):Prop:=H a=some u∨∃ o,H a=some (.frz o u)
theorem Rd.of {H:Hp}{a:Addr}{u:HO} (h:H a=some u):Rd H a u:=.inl h
theorem Rd.ok {P:Program}{w:World}{H:Hp}{h:Heap}{a:Addr}{u:HO} (r:Rd H a u) (x:HOk P w H h):c7 P w H h a u:=by
 rcases r with r|⟨o,r⟩
 ·exact x a u r
 ·obtain ⟨_,q⟩:=x a _ r
  exact q
noncomputable def Mut:Option HO→Prop
 | some (.lst _)=>True
 | some (.dK _)=>True
 | some (.dT _)=>True
 | some (.set _ _)=>True
 | some (.ins _ _ _)=>True
 | some (.ext _)=>True
 | _=>False
section
variable {P:Program}{w:World}{H:Hp}{h h':Heap}{x e:Addr}{o':HO}
theorem HOk.write (ok:HOk P w H h) (mu:Mut (H x)) (he:e=x∨H e=some (.own x)) (k:∀ b u,b≠e→h.get? b=some u→h'.get? b=some u) (heo:∃ u,h'.get? e=some u)
  (new:c7 P w (upd H x o') h' x o'):HOk P w (upd H x o') h':=fun b u q=>by
 have nown:∀ c y,H c=some (.own y)→c≠x:=fun c y r z=>by subst z;rw[r] at mu;exact mu
 have ntup:∀ c o,Fix o→H c=some o→c≠x:=fun c o f r z=>by subst z;rw[r] at mu;cases o <;> first|exact mu|exact f
 by_cases hb:b=x
 ·subst hb;rw[ar] at q;cases q;exact new
 ·rw [ai hb] at q
  by_cases hbe:b=e
  ·have q':H b=some (.own x):=by
    rcases he with z|z
    ·exact absurd (hbe.trans z) hb
    ·rw [hbe];exact z
   rw [q] at q';cases q'
   obtain ⟨v,hv⟩:=heo
   exact ⟨v,by rw[hbe];exact hv⟩
  ·refine (ok b u q).stay (fun c v hc r=>k c v ?_ r) (fun c r=>by rw[ai (nown c b r)];exact r) fun c xs f r=>by rw[ai (ntup c xs f r)];exact r
   rcases hc with rfl|hc
   ·exact hbe
   ·rintro rfl
    rcases he with z|z
    ·exact nown c b hc z
    ·rw [hc] at z;cases z;exact hb rfl
end
structure Un (fs ex:List Addr) (H H':Hp) (h h':Heap):Prop where
 keep:∀ b o,h.get? b=some o→H b=none→b ∉ fs→b ∉ ex→h'.get? b=some o
 slot:∀ b o,h.get? b=some o→H b=none→b∈fs→b ∉ ex→∃ sl,h'.get? b=some { o with slots:=sl }
 free:∀ b o,h.get? b=some o→H b=none→b ∉ ex→H' b=none
 there:∀ b o,h.get? b=some o→b ∉ ex→∃ o',h'.get? b=some o'
 tups:∀ b xs,H b=some (.tup xs)→H' b=some (.tup xs)
 frzs:∀ b o u,H b=some (.frz o u)→H' b=some (.frz o u)
 tbls:∀ b q,H b=some (.tbl q)→H' b=some (.tbl q)
section
variable {fs fs' ex ex':List Addr}{H H1 H2:Hp}{h h1 h2 h':Heap}{a x e:Addr}{o:HO}
theorem Un.any (u:Un fs ex H H1 h h1) {b:Addr}{ob:Obj} (q:h.get? b=some ob) (n:H b=none) (hx:b ∉ ex):∃ sl,h1.get? b=some { ob with slots:=sl }:=by
 by_cases hb:b∈fs
 ·exact u.slot b ob q n hb hx
 ·exact ⟨ob.slots,u.keep b ob q n hb hx⟩
theorem Un.trans (a:Un fs ex H H1 h h1) (b:Un fs ex H1 H2 h1 h2):Un fs ex H H2 h h2 where
 keep:=fun c ob q n hc hx=>b.keep c ob (a.keep c ob q n hc hx) (a.free c ob q n hx) hc hx
 slot:=fun c ob q n hc hx=>by
  obtain ⟨sl,e1⟩:=a.slot c ob q n hc hx
  obtain ⟨sl',e2⟩:=b.slot c _ e1 (a.free c ob q n hx) hc hx
  exact ⟨sl',e2⟩
 free:=fun c ob q n hx=>by
  obtain ⟨o',e1⟩:=a.there c ob q hx
  exact b.free c o' e1 (a.free c ob q n hx) hx
 there:=fun c ob q hx=>by
  obtain ⟨o',e1⟩:=a.there c ob q hx
  exact b.there c o' e1 hx
 tups:=fun c xs q=>b.tups c xs (a.tups c xs q)
 frzs:=fun c ob xs q=>b.frzs c ob xs (a.frzs c ob xs q)
 tbls:=fun c ps q=>b.tbls c ps (a.tbls c ps q)
theorem Un.kept (k:∀ b u,h.get? b=some u→h'.get? b=some u):Un fs ex H H h h' :=
 ⟨fun b ob q _ _ _=>k b ob q,fun b ob q _ _ _=>⟨ob.slots,k b ob q⟩,fun _ _ _ n _=>n,fun b ob q _=>⟨ob,k b ob q⟩,fun _ _ q=>q,fun _ _ _ q=>q,fun _ _ q=>q⟩
theorem Un.refl:Un fs ex H H h h:=Un.kept fun _ _ q=>q
theorem Un.laid (k:∀ b u,h.get? b=some u→h'.get? b=some u) (hp:h.objs.size≤a) (hn:H a=none):Un fs ex H (upd H a o) h h' where
 keep:=fun b u q _ _ _=>k b u q
 slot:=fun b u q _ _ _=>⟨u.slots,k b u q⟩
 free:=fun b u q n _=>by rw[ai (Ed (D6 (D7 q) hp))];exact n
 there:=fun b u q _=>⟨u,k b u q⟩
 tups:=fun b xs q=>by rw[ai (ao q hn)];exact q
 frzs:=fun b u xs q=>by rw[ai (ao q hn)];exact q
 tbls:=fun b ps q=>by rw[ai (ao q hn)];exact q
theorem Un.write (mu:Mut (H x)) (he:e=x∨H e=some (.own x)) (k:∀ b u,b≠e→h.get? b=some u→h'.get? b=some u) (heo:∃ u,h'.get? e=some u):Un fs ex H (upd H x o) h h':=by
 have hx:∀ b,H b=none→b≠x:=fun b n z=>by subst z;rw[n] at mu;exact mu
 have hb:∀ b,H b=none→b≠e:=fun b n z=>by
  subst z
  rcases he with r|r
  ·exact hx b n r
  ·rw [n] at r;cases r
 have hm:∀ b u,H b=some u→¬Mut (some u)→b≠x:=fun b u q nm z=>by subst z;rw[q] at mu;exact nm mu
 refine ⟨fun b u q n _ _=>k b u (hb b n) q,fun b u q n _ _=>⟨u.slots,k b u (hb b n) q⟩,fun b u q n _=>by rw[ai (hx b n)];exact n,fun b u q _=>?_,
  fun b xs q=>by rw[ai (hm b _ q fun z=>z)];exact q,fun b u xs q=>by rw[ai (hm b _ q fun z=>z)];exact q,fun b ps q=>by rw[ai (hm b _ q fun z=>z)];exact q⟩
 by_cases hbe:b=e
 ·subst hbe;exact heo
 ·exact ⟨u,k b u hbe q⟩
theorem Un.mono (u:Un fs ex H H1 h h1) (hs:∀ b∈fs,b∈fs') (hx:∀ b∈ex,b∈ex'):Un fs' ex' H H1 h h1 :=
 ⟨fun b ob q n hb he=>u.keep b ob q n (fun z=>hb (hs b z)) fun z=>he (hx b z),fun _ _ q n _ he=>u.any q n fun z=>he (hx _ z),fun b ob q n he=>u.free b ob q n fun z=>he (hx b z),fun b ob q he=>u.there b ob q fun z=>he (hx b z),u.tups,u.frzs,u.tbls⟩
end
noncomputable def trk (h:Heap) (H:Hp):List Addr:=(List.range h.objs.size).filter fun a=>(H a).isSome
noncomputable def sv (h:Heap) (H:Hp):Heap:=PySem.W.hideAll h (trk h H)
theorem qU (h:Heap) (H:Hp):(sv h H).objs.size=h.objs.size:=PySem.W.hideAll_size _ _
theorem ua {h:Heap}{H:Hp}{b:Addr}{o:Obj} (e:h.get? b=some o) (n:H b=none):(sv h H).get? b=some o :=
 PySem.W.hideAll_get _ e fun hm=>by
  have q:(H b).isSome=true:=(D9.mp hm).2
  rw [n] at q;simp at q
theorem xp {h:Heap}{H:Hp}{b:Addr}{o:Obj} (e:(sv h H).get? b=some o):h.get? b=some o∧H b=none:=by
 have e':h.get? b=some o:=PySem.W.of_hideAll (trk h H) e
 refine ⟨e',?_⟩
 cases q:H b with
 | none=>rfl
 | some x =>
  have hm:b∈trk h H:=D9.mpr ⟨Ez.mpr (D7 e'),by simp[q]⟩
  have z:(sv h H).get? b=none:=PySem.W.hideAll_none (trk h H) hm
  rw [z] at e;cases e
noncomputable def yx (g h:Heap) (L:Addr):List (Addr×Obj):=(List.range h.objs.size).filterMap fun a=>if a=L∨(g.get? a).isSome=true then none else (h.get? a).map fun o=>(a,o)
noncomputable def bI (g h:Heap) (L d:Addr):List (Addr×Obj):=(yx g h L).filter fun p=>decide (p.1≠d)
structure Mod (K:PySem.W.Frag) (mg:Str→Option Value) (base:Heap):Prop where
 kin:K.In base
 glob:base.Ns mainGlobals mg
 blt:∃ mb,base.Ns builtinsNs mb∧∀ x:Str,x ≠ "__name__" → mb x=bootBuiltins x
 nolimit:base.NoLimit
 bmain:∃ bm ob,mg "__builtins__" = some (.ref bm)∧bm≠builtinsNs∧base.get? bm=some ob∧ob.cls=.type "module" ∧ ob.dict=some builtinsNs∧ob.data=.plain
noncomputable def dF:List Str:=["choices", "full_rows", "chain_plan", "least_ranks"]
noncomputable def gL (K:PySem.W.Frag) (T:Addr) (q:Str):Prop:=∃ x∈dF,∃ f o fd c oc vs,PySem.W.nsIn K mainGlobals x=some (some (.ref f))∧K.lookup f=some o∧o.data=.func fd∧fd.code=.ref c ∧
 K.lookup c=some oc∧oc.data=.fields vs∧vs[11]? = some (.ref T)∧q=x ++ ".<locals>.<lambda>"
noncomputable def v7 (K:PySem.W.Frag) (H:Hp):Prop:=∀ T q,gL K T q→H T=some (.tbl q)
structure Cx where
 prog:Program
 w : World
 K : PySem.W.Frag
 mg : Str→Option Value
 base:Heap
 A : Around
 N : List Str
 s₀ : Shared
 H₀ : Hp
 env:Env
 outer:List Env
 stack:List Env
 ex : List Addr
 fn : Str→Bool
 calm:Bool
 pn : List (Addr×Obj)
 xe : Value→Shared→Prop
noncomputable def frs (l:List Env):List Addr:=l.filterMap (·.frame)
noncomputable abbrev Cx.fs (X:Cx):List Addr:=frs X.outer
noncomputable def Vis (sc:Scope) (x:Str):Prop:=sc.names.lookup x=some .local∨sc.names.lookup x=some .cell∨sc.names.lookup x=some .free
noncomputable def Loc (sc:Scope) (x:Str):Prop:=sc.names.lookup x=some .local∨sc.names.lookup x=some .cell
noncomputable def DH (env:Env) (h:Heap) (m:Str→Option Value) (x:Str) (u:Value):Prop :=
 (env.kindOf x=some .local∧m x=some u)∨((env.kindOf x=some .cell∨env.kindOf x=some .free)∧∃ c,env.cells.lookup x=some c∧h.IsCell c (some u))
structure Cx.Ok (X:Cx):Prop where
 mod:Mod X.K X.mg X.base
 kind:X.env.scope.kind=.function
 glob:X.env.globals=mainGlobals
 blt:X.env.builtins=builtinsNs
 above:X.s₀.heap.objs.size≤X.env.locals
 inj:∀ x y c,X.env.cells.lookup x=some c→X.env.cells.lookup y=some c→x=y
 has:∀ x,(X.env.kindOf x=some .cell∨X.env.kindOf x=some .free)→∃ c,X.env.cells.lookup x=some c
 cab:∀ x c,X.fn x=true→X.env.cells.lookup x=some c→X.s₀.heap.objs.size≤c
 hd : X.calm=true→X.A.handled=none
 frames:X.A.frames=some X.stack
 stk:X.stack=X.outer∨(X.stack=X.env::X.outer∧X.env.frame=some X.env.locals)
 exf:∀ b∈X.ex,b≠X.env.locals∧∀ x c,X.env.cells.lookup x=some c→c≠b
 bs : ∀ b o,X.base.get? b=some o→X.s₀.heap.get? b=some o∧X.H₀ b=none
 bsz:X.base.objs.size≤X.s₀.heap.objs.size
 noex:∀ b o,X.base.get? b=some o→b ∉ X.ex
 exfs:∀ b∈X.ex,b ∉ X.fs
 funs:X.s₀.heap.FunFrames X.base X.outer
 frf:∀ b∈X.fs,X.H₀ b=none
 tab:v7 X.K X.H₀
structure Inv (X:Cx) (pins:List (Addr×Obj)) (σ:List (Option V)) (H:Hp) (s:Shared):Prop where
 ok : X.Ok
 os : s.os=X.s₀.os
 bare:AllBare s.gens
 base:Un X.fs X.ex X.H₀ H X.s₀.heap s.heap
 loc:∃ m,s.heap.Ns X.env.locals m∧∀ (i:Nat) (x:Str) (v:V),X.N[i]? = some x→σ[i]? = some (some v)→Vis X.env.scope x→∃ u,bz v u∧DH X.env s.heap m x u
 cell:∀ x c,X.env.cells.lookup x=some c→∃ v,s.heap.IsCell c v
 free:H X.env.locals=none
 freeC:∀ x c,X.env.cells.lookup x=some c→H c=none
 pin:∀ p∈X.pn++pins,s.heap.get? p.1=some p.2∧H p.1=none∧p.1≠X.env.locals∧p.1 ∉ X.fs∧∀ v,p.2.data≠.cell v
 hok:HOk X.prog X.w H s.heap
 len:σ.length=X.N.length
section
variable {X:Cx}{pins:List (Addr×Obj)}{σ:List (Option V)}{H H':Hp}{s:Shared}{h':Heap}
theorem Cx.Ok.nofr (ok:X.Ok) {b:Addr}{o:Obj} (e:X.base.get? b=some o):b ∉ X.fs:=fun hb=>by
 have:=(ok.funs.mem hb).1
 rw [e] at this;cases this
theorem Inv.bs (I:Inv X pins σ H s):∀ b o,X.base.get? b=some o→s.heap.get? b=some o∧H b=none:=fun b o e =>
 ⟨I.base.keep b o (I.ok.bs b o e).1 (I.ok.bs b o e).2 (I.ok.nofr e) (I.ok.noex b o e),I.base.free b o (I.ok.bs b o e).1 (I.ok.bs b o e).2 (I.ok.noex b o e)⟩
theorem Inv.bk (I:Inv X pins σ H s):∀ b o,X.base.get? b=some o→s.heap.get? b=some o:=fun b o e=>(I.bs b o e).1
theorem Inv.mod (I:Inv X pins σ H s):Mod X.K X.mg X.base:=I.ok.mod
theorem Inv.kIn (I:Inv X pins σ H s):X.K.In s.heap:=I.ok.mod.kin.keeps I.bk
theorem Inv.nolimit (I:Inv X pins σ H s):s.heap.NoLimit:=I.ok.mod.nolimit.keeps I.bk
theorem Inv.fr (I:Inv X pins σ H s):∃ m,Fr X.base X.env.locals s.heap m :=
 let ⟨m,hn,_⟩:=I.loc
 ⟨m,hn,I.bk,D1 I.ok.bsz I.ok.above⟩
theorem Inv.lt (I:Inv X pins σ H s):X.env.locals<s.heap.objs.size:=let ⟨_,hn,_⟩:=I.loc;hn.lt
theorem Inv.sz (I:Inv X pins σ H s):X.s₀.heap.objs.size≤s.heap.objs.size:=D1 I.ok.above (Nat.le_of_lt I.lt)
theorem Inv.nofs (I:Inv X pins σ H s) {a:Addr} (h:s.heap.objs.size≤a):a ∉ X.fs:=fun hb=>by
 obtain ⟨_,o,ho,_⟩:=I.ok.funs.mem hb
 exact absurd (D6 (D7 ho) (D1 I.sz h)) (EY _)
theorem Inv.cne (I:Inv X pins σ H s):∀ x c,X.env.cells.lookup x=some c→c≠X.env.locals:=fun x c e z=>by
 obtain ⟨v,o,ho,hd⟩:=I.cell x c e
 obtain ⟨m,⟨o',es,ep,ho',hd',_⟩,_⟩:=I.loc
 rw [z,ho'] at ho;cases ho;rw[hd'] at hd;cases hd
theorem Inv.funs (I:Inv X pins σ H s):s.heap.FunFrames X.base X.outer:=by
 have all:∀ (l:List Env),(∀ b∈frs l,b∈X.fs)→X.s₀.heap.FunFrames X.base l→s.heap.FunFrames X.base l:=by
  intro l
  induction l with
  | nil=>intro _ _;trivial
  | cons env r ih =>
   intro hs hl
   obtain ⟨hk,⟨L,o,hf,hn,ho,hd⟩,hr⟩:=hl
   have hL:L∈X.fs:=hs L (by unfold frs;rw[List.filterMap_cons,hf];exact DY)
   obtain ⟨sl,e⟩:=I.base.slot L o ho (I.ok.frf L hL) hL fun z=>I.ok.exfs L z hL
   exact ⟨hk,⟨L,_,hf,hn,e,hd⟩,ih (fun b hb=>hs b (by unfold frs;rw[List.filterMap_cons,hf];exact D0 _ hb)) hr⟩
 exact all X.outer (fun _ hb=>hb) I.ok.funs
theorem Inv.stack (I:Inv X pins σ H s):s.heap.FunFrames X.base X.stack:=by
 rcases I.ok.stk with e|⟨e,hf⟩
 ·rw [e];exact I.funs
 ·rw [e]
  obtain ⟨m,hn,_⟩:=I.loc
  refine .cons (by rw[I.ok.kind];decide) hf hn ?_ I.funs
  exact Fg (D1 I.ok.bsz I.ok.above)
theorem Inv.stkSub (I:Inv X pins σ H s):∀ b∈frs X.stack,b∈X.env.locals::X.fs:=fun b hb=>by
 rcases I.ok.stk with e|⟨e,hf⟩
 ·rw [e] at hb;exact D0 _ hb
 ·rw [e] at hb
  unfold frs at hb
  rw [List.filterMap_cons,hf] at hb
  exact hb
theorem Inv.stkFree (I:Inv X pins σ H s):∀ b∈frs X.stack,H b=none:=fun b hb=>by
 rcases D3.mp (I.stkSub b hb) with e|hb
 ·rw [e];exact I.free
 ·obtain ⟨_,o,ho,_⟩:=I.ok.funs.mem hb
  exact I.base.free b o ho (I.ok.frf b hb) fun z=>I.ok.exfs b z hb
theorem Inv.step {g':Array GenState}{t':Nat}{d':Drawn}{ch:List Addr} (I:Inv X pins σ H s)
  (hch:∀ b∈ch,(b∈X.ex∨X.s₀.heap.objs.size≤b)∧b≠X.env.locals∧(∀ x c,X.env.cells.lookup x=some c→c≠b)∧∀ p∈X.pn++pins,p.1≠b)
  (keep:∀ b o,b≠X.env.locals→b ∉ X.fs→b ∉ ch→s.heap.get? b=some o→H b=none→h'.get? b=some o)
  (slot:∀ b o,b≠X.env.locals→b∈X.fs→b ∉ ch→s.heap.get? b=some o→H b=none→∃ sl,h'.get? b=some { o with slots:=sl }) (free:∀ b o,b ∉ ch→s.heap.get? b=some o→H b=none→H' b=none)
  (there:∀ b o,b ∉ ch→s.heap.get? b=some o→∃ o',h'.get? b=some o')
  (tups:∀ b xs,H b=some (.tup xs)→H' b=some (.tup xs)) (frzs:∀ b o u,H b=some (.frz o u)→H' b=some (.frz o u)) (tbls:∀ b ps,H b=some (.tbl ps)→H' b=some (.tbl ps))
  (ns:∀ m,s.heap.Ns X.env.locals m→h'.Ns X.env.locals m) (hok:HOk X.prog X.w H' h') (hg:AllBare g') :
  Inv X pins σ H' { s with heap:=h',gens:=g',drawn:=d',toks:=t' }:=by
 have neL:∀ b o,X.s₀.heap.get? b=some o→b≠X.env.locals:=fun b o e=>Ed (D6 (D7 e) I.ok.above)
 have neC:∀ b o,X.s₀.heap.get? b=some o→b ∉ X.ex→b ∉ ch:=fun b o e hx hb=>by
  rcases (hch b hb).1 with z|z
  ·exact hx z
  ·exact absurd (D6 (D7 e) z) (EY _)
 have cellK:∀ x c,X.env.cells.lookup x=some c→∀ v,s.heap.IsCell c v→h'.IsCell c v:=fun x c e v ⟨o,ho,hd⟩=>by
  have nch:c ∉ ch:=fun z=>(hch c z).2.2.1 x c e rfl
  by_cases hc:c∈X.fs
  ·obtain ⟨sl,q⟩:=slot c o (I.cne x c e) hc nch ho (I.freeC x c e)
   exact ⟨_,q,hd⟩
  ·exact ⟨o,keep c o (I.cne x c e) hc nch ho (I.freeC x c e),hd⟩
 refine ⟨I.ok,I.os,hg,⟨fun b o e n hb hx=>?_,fun b o e n hb hx=>?_,fun b o e n hx=>?_,fun b o e hx=>?_,fun b xs e=>tups b xs (I.base.tups b xs e),fun b o xs e=>frzs b o xs (I.base.frzs b o xs e),fun b ps e=>?_⟩,?_,fun x c e=>?_,?_,fun x c e=>?_,fun p hp=>?_,hok,I.len⟩
 ·exact keep b o (neL b o e) hb (neC b o e hx) (I.base.keep b o e n hb hx) (I.base.free b o e n hx)
 ·obtain ⟨sl,e1⟩:=I.base.slot b o e n hb hx
  obtain ⟨sl',e2⟩:=slot b _ (neL b o e) hb (neC b o e hx) e1 (I.base.free b o e n hx)
  exact ⟨sl',e2⟩
 ·obtain ⟨o',e1⟩:=I.base.there b o e hx
  exact free b o' (neC b o e hx) e1 (I.base.free b o e n hx)
 ·obtain ⟨o',e1⟩:=I.base.there b o e hx
  exact there b o' (neC b o e hx) e1
 ·exact tbls b ps (I.base.tbls b ps e)
 ·obtain ⟨m,hn,hl⟩:=I.loc
  refine ⟨m,ns m hn,fun i x v e1 e2 e3=>?_⟩
  obtain ⟨u,r,l⟩:=hl i x v e1 e2 e3
  refine ⟨u,r,?_⟩
  rcases l with l|⟨k,c,e,z⟩
  ·exact .inl l
  ·exact .inr ⟨k,c,e,cellK x c e _ z⟩
 ·obtain ⟨v,z⟩:=I.cell x c e
  exact ⟨v,cellK x c e v z⟩
 ·obtain ⟨m,⟨o,_,_,ho,_⟩,_⟩:=I.loc
  exact free _ o (fun z=>(hch _ z).2.1 rfl) ho I.free
 ·obtain ⟨v,o,ho,hd⟩:=I.cell x c e
  exact free c o (fun z=>(hch c z).2.2.1 x c e rfl) ho (I.freeC x c e)
 ·obtain ⟨e,n,ne,nf,d⟩:=I.pin p hp
  have nch:p.1 ∉ ch:=fun z=>(hch p.1 z).2.2.2 p hp rfl
  exact ⟨keep p.1 p.2 ne nf nch e n,free p.1 p.2 nch e n,ne,nf,d⟩
theorem Inv.un {t':Nat} (I:Inv X pins σ H s) (u:Un X.fs [] H H' s.heap h') (hok:HOk X.prog X.w H' h'):Inv X pins σ H' { s with heap:=h',toks:=t' }:=by
 obtain ⟨m,⟨o,es,ep,ho,r⟩,_⟩:=id I.loc
 obtain ⟨sl,hL⟩:=u.any ho I.free (by simp)
 exact I.step (g':=s.gens) (d':=s.drawn) (ch:=[]) (fun _ z=>nomatch z) (fun b o _ hb _ e n=>u.keep b o e n hb (by simp)) (fun b o _ hb _ e n=>u.slot b o e n hb (by simp)) (fun b o _ e n=>u.free b o e n (by simp)) (fun b o _ e=>u.there b o e (by simp)) u.tups u.frzs u.tbls (fun m' hm=>by
  obtain ⟨o',es',ep',ho',r'⟩:=hm
  rw [ho] at ho';cases ho'
  exact ⟨_,es',ep',hL,r'⟩) hok I.bare
theorem Inv.call {g':Array GenState}{t':Nat}{d':Drawn}{ch:List Addr} (I:Inv X pins σ H s) (u:Un (frs X.stack) ch H H' s.heap h') (hok:HOk X.prog X.w H' h') (hg:AllBare g')
  (hch:∀ b∈ch,(b∈X.ex∨X.s₀.heap.objs.size≤b)∧b≠X.env.locals∧(∀ x c,X.env.cells.lookup x=some c→c≠b)∧∀ p∈X.pn++pins,p.1≠b) :
  Inv X pins σ H' { s with heap:=h',gens:=g',drawn:=d',toks:=t' }:=by
 obtain ⟨m,⟨o,es,ep,ho,r⟩,_⟩:=id I.loc
 obtain ⟨sl,hL⟩:=u.any ho I.free fun z=>(hch _ z).2.1 rfl
 exact I.step (ch:=ch) hch (fun b o hL hb hc e n=>u.keep b o e n (fun z=>(D3.mp (I.stkSub b z)).elim hL hb) hc) (fun b o _ _ hc e n=>u.any e n hc) (fun b o hc e n=>u.free b o e n hc) (fun b o hc e=>u.there b o e hc) u.tups u.frzs u.tbls (fun m' hm=>by
  obtain ⟨o',es',ep',ho',r'⟩:=hm
  rw [ho] at ho';cases ho'
  exact ⟨_,es',ep',hL,r'⟩) hok hg
theorem Inv.turned {t':Nat}{it:Addr} (I:Inv X pins σ H s) (k:∀ b o,b≠it→s.heap.get? b=some o→h'.get? b=some o) (hn:H it=none) (hL:it≠X.env.locals)
  (h1:it∈X.ex∨X.s₀.heap.objs.size≤it) (h2:∀ x c,X.env.cells.lookup x=some c→c≠it) (h3:∀ p∈X.pn++pins,p.1≠it):Inv X pins σ H { s with heap:=h',toks:=t' }:=by
 have nit:∀ b u,H b=some u→b≠it:=fun b u e z=>by rw[z,hn] at e;cases e
 refine I.step (g':=s.gens) (d':=s.drawn) (ch:=[it]) (fun b hb=>?_) (fun b o _ _ hc e _=>k b o (fun z=>hc (by simp[z])) e) (fun b o _ _ hc e _=>⟨o.slots,k b o (fun z=>hc (by simp[z])) e⟩) (fun _ _ _ _ n=>n)
  (fun b o hc e=>⟨o,k b o (fun z=>hc (by simp[z])) e⟩) (fun _ _ e=>e) (fun _ _ _ e=>e) (fun _ _ e=>e) (fun m hm=>?_) (fun b u e=>?_) I.bare
 ·have e:b=it:=by simpa using hb
  subst e
  exact ⟨h1,hL,h2,h3⟩
 ·obtain ⟨o,es,ep,ho,r⟩:=hm
  exact ⟨o,es,ep,k _ o (Ne.symm hL) ho,r⟩
 ·refine (I.hok b u e).stay (fun c v hc q=>k c v ?_ q) (fun _ q=>q) fun _ _ _ q=>q
  rcases hc with z|z
  ·rw [z];exact nit b u e
  ·exact nit c _ z
theorem Inv.tok (I:Inv X pins σ H s) (t:Nat):Inv X pins σ H { s with toks:=t }:=I.un (h':=s.heap) (t':=t) Un.refl I.hok
theorem Inv.kept {t':Nat} (I:Inv X pins σ H s) (k:∀ b u,s.heap.get? b=some u→h'.get? b=some u):Inv X pins σ H { s with heap:=h',toks:=t' }:=I.un (Un.kept k) (I.hok.kept k)
theorem Inv.laid {a:Addr}{o:HO}{t':Nat} (I:Inv X pins σ H s) (k:∀ b u,s.heap.get? b=some u→h'.get? b=some u) (hp:s.heap.objs.size≤a) (new:c7 X.prog X.w (upd H a o) h' a o) :
  Inv X pins σ (upd H a o) { s with heap:=h',toks:=t' }:=I.un (Un.laid k hp (I.hok.fresh hp)) (I.hok.laid k hp new)
theorem Inv.write {x e:Addr}{o:HO}{t':Nat} (I:Inv X pins σ H s) (mu:Mut (H x)) (he:e=x∨H e=some (.own x)) (k:∀ b u,b≠e→s.heap.get? b=some u→h'.get? b=some u) (heo:∃ u,h'.get? e=some u)
  (new:c7 X.prog X.w (upd H x o) h' x o):Inv X pins σ (upd H x o) { s with heap:=h',toks:=t' }:=I.un (Un.write mu he k heo) (I.hok.write mu he k heo new)
theorem Inv.pins_of {pins':List (Addr×Obj)} (I:Inv X pins σ H s) (h:∀ p∈pins',s.heap.get? p.1=some p.2∧H p.1=none∧p.1≠X.env.locals∧p.1 ∉ X.fs∧∀ v,p.2.data≠.cell v):Inv X pins' σ H s :=
 ⟨I.ok,I.os,I.bare,I.base,I.loc,I.cell,I.free,I.freeC,fun p hp=>(DQ.mp hp).elim (fun z=>I.pin p (DP _ z)) (h p),I.hok,I.len⟩
theorem mM {N:List Str} (hN:N.Nodup) {i j:Nat}{x:Str} (a:N[i]? = some x) (b:N[j]? = some x):i=j:=by
 obtain ⟨h1,e1⟩:=DX.mp a
 obtain ⟨h2,e2⟩:=DX.mp b
 exact (List.getElem_inj hN).mp (e1.trans e2.symm)
theorem jq {M:Model}{A:Around}{E:Value→Shared→Prop}{i:Nat}{x:Str}{v:V}{u:Value}{Q:Unit→Shared→Prop} (I:Inv X pins σ H s) (hN:X.N.Nodup) (hi:X.N[i]? = some x) (hx:Loc X.env.scope x) (r:bz v u)
  (h : ∀ s',Inv X pins (σ.set i (some v)) H s'→(∃ a,Heap.SameBut a s.heap s'.heap∧(a=X.env.locals∨X.env.cells.lookup x=some a))→Q () s') (hf:X.fn x=true∨X.env.scope.names.lookup x=some .local:=by first|exact .inl rfl|exact .inr rfl|assumption):wpAny M A (storeName X.env x u) Q E s:=by
 obtain ⟨m,hn,hl⟩:=id I.loc
 have hcls:(X.env.scope.kind==.class || (X.env.scope.kind==.module&&X.env.locals != X.env.globals))=false:=by rw[I.ok.kind];rfl
 have hiσ:i<σ.length:=by rw[I.len];exact (DX.mp hi).1
 have cne:=I.cne
 have tracked:∀ {a:Addr}{h':Heap},(∃ o,s.heap.get? a=some o∧H a=none)→Heap.SameBut a s.heap h'→HOk X.prog X.w H h':=fun {a h'} ha hs b ob e=>by
  obtain ⟨_,_,hfree⟩:=ha
  refine (I.hok b ob e).stay (fun c w' hc q=>(hs.2 c ?_).trans q) (fun _ q=>q) fun _ _ _ q=>q
  rintro rfl
  rcases hc with rfl|hc
  ·rw [hfree] at e;cases e
  ·rw [hfree] at hc;cases hc
 rcases hx with hk|hk
 ·refine wpAny_storeName_local hk hn (fun h' hn' hs=>?_) hcls
  obtain ⟨oL,_,_,hoL,_⟩:=id hn
  refine h _ ⟨I.ok,I.os,I.bare,⟨fun b o e n hb hx=>?_,fun b o e n hb hx=>?_,I.base.free,fun b o e hx=>?_,I.base.tups,I.base.frzs,I.base.tbls⟩,⟨_,hn',fun j y v' e1 e2 e3=>?_⟩,fun y c e=>?_,I.free,I.freeC,fun p hp=>?_,tracked ⟨oL,hoL,I.free⟩ hs,by simpa using I.len⟩ ⟨_,hs,.inl rfl⟩
  ·exact (hs.2 b (Ed (D6 (D7 e) I.ok.above))).trans (I.base.keep b o e n hb hx)
  ·obtain ⟨sl,e1⟩:=I.base.slot b o e n hb hx
   exact ⟨sl,(hs.2 b (Ed (D6 (D7 e) I.ok.above))).trans e1⟩
  ·obtain ⟨o',e1⟩:=I.base.there b o e hx
   exact ⟨o',(hs.2 b (Ed (D6 (D7 e) I.ok.above))).trans e1⟩
  ·by_cases hj:j=i
   ·subst hj
    rw [hi] at e1;cases e1
    rw [Eg hiσ] at e2
    cases e2
    exact ⟨u,r,.inl ⟨hk,by simp⟩⟩
   ·rw [Ef (Ne.symm hj)] at e2
    obtain ⟨u',r',q⟩:=hl j y v' e1 e2 e3
    refine ⟨u',r',?_⟩
    rcases q with ⟨k,e⟩|⟨k,c,e,z⟩
    ·refine .inl ⟨k,?_⟩
     have:y≠x:=fun e=>hj (mM hN e1 (e▸hi))
     simp [this,e]
    ·exact .inr ⟨k,c,e,z.sameBut hs (cne y c e)⟩
  ·obtain ⟨w',z⟩:=I.cell y c e
   exact ⟨w',z.sameBut hs (cne y c e)⟩
  ·obtain ⟨e,n,ne,nf,d⟩:=I.pin p hp
   exact ⟨(hs.2 p.1 ne).trans e,n,ne,nf,d⟩
 ·have hfn:X.fn x=true:=by
   rcases hf with z|z
   ·exact z
   ·rw [z] at hk;cases hk
  obtain ⟨c,hc⟩:=I.ok.has x (.inl hk)
  obtain ⟨w',z⟩:=I.cell x c hc
  refine wpAny_storeName_cell I.ok.kind hk hc z (fun h' hc' hs=>?_)
  obtain ⟨oc,hoc,hocd⟩:=id z
  refine h { s with heap:=h' } ⟨I.ok,I.os,I.bare,⟨fun b o e n hb hx=>?_,fun b o e n hb hx=>?_,I.base.free,fun b o e hx=>?_,I.base.tups,I.base.frzs,I.base.tbls⟩,⟨m,hn.sameBut hs (Ne.symm (cne x c hc)),fun j y v' e1 e2 e3=>?_⟩,fun y c' e=>?_,I.free,I.freeC,fun p hp=>?_,tracked ⟨oc,hoc,I.freeC x c hc⟩ hs,by simpa using I.len⟩ ⟨c,hs,.inr hc⟩
  ·exact (hs.2 b (Ed (D6 (D7 e) (I.ok.cab x c hfn hc)))).trans (I.base.keep b o e n hb hx)
  ·obtain ⟨sl,e1⟩:=I.base.slot b o e n hb hx
   exact ⟨sl,(hs.2 b (Ed (D6 (D7 e) (I.ok.cab x c hfn hc)))).trans e1⟩
  ·obtain ⟨o',e1⟩:=I.base.there b o e hx
   exact ⟨o',(hs.2 b (Ed (D6 (D7 e) (I.ok.cab x c hfn hc)))).trans e1⟩
  ·by_cases hj:j=i
   ·subst hj
    rw [hi] at e1;cases e1
    rw [Eg hiσ] at e2
    cases e2
    exact ⟨u,r,.inr ⟨.inl hk,c,hc,hc'⟩⟩
   ·rw [Ef (Ne.symm hj)] at e2
    obtain ⟨u',r',q⟩:=hl j y v' e1 e2 e3
    refine ⟨u',r',?_⟩
    rcases q with q|⟨k,c',e,z'⟩
    ·exact .inl q
    ·refine .inr ⟨k,c',e,z'.sameBut hs ?_⟩
     rintro rfl
     exact hj (mM hN e1 (I.ok.inj _ _ _ e hc▸hi))
  ·by_cases hcc:c'=c
   ·subst hcc;exact⟨_,hc'⟩
   ·obtain ⟨w2,z2⟩:=I.cell y c' e
    exact ⟨w2,z2.sameBut hs hcc⟩
  ·obtain ⟨e,n,ne,nf,d⟩:=I.pin p hp
   refine ⟨(hs.2 p.1 ?_).trans e,n,ne,nf,d⟩
   intro q
   rw [q,hoc] at e
   have q':oc=p.2:=Option.some.inj e
   exact d w' (by rw[←q'];exact hocd)
theorem l6 {M:Model}{A:Around}{E:Value→Shared→Prop}{i:Nat}{x:Str}{v:V}{u:Value}{Q:Unit→Shared→Prop} (I:Inv X pins σ H s) (hN:X.N.Nodup) (hi:X.N[i]? = some x) (hx:Loc X.env.scope x) (r:bz v u)
  (h : ∀ s',Inv X pins (σ.set i (some v)) H s'→Q () s') (hf:X.fn x=true∨X.env.scope.names.lookup x=some .local:=by first|exact .inl rfl|exact .inr rfl|assumption):wpAny M A (storeName X.env x u) Q E s :=
 jq I hN hi hx r (fun s' I' _=>h s' I') hf
theorem Inv.call' {s':Shared}{ch:List Addr} (I:Inv X pins σ H s) (ho:s'.os=s.os) (u:Un (frs X.stack) ch H H' s.heap s'.heap) (hok:HOk X.prog X.w H' s'.heap) (hg:AllBare s'.gens)
  (hch:∀ b∈ch,(b∈X.ex∨X.s₀.heap.objs.size≤b)∧b≠X.env.locals∧(∀ x c,X.env.cells.lookup x=some c→c≠b)∧∀ p∈X.pn++pins,p.1≠b):Inv X pins σ H' s':=by
 obtain ⟨h',g',d',t',o'⟩:=s'
 have e:o'=s.os:=ho
 subst e
 exact I.call (g':=g') (t':=t') (d':=d') u hok hg hch
end
noncomputable abbrev XK:=Value→Option Addr→Hp→Prop
noncomputable abbrev St:=List (Option V)
noncomputable abbrev VK:=V→Hp→Prop
noncomputable abbrev TE:=St→Hp→VK→Prop
noncomputable abbrev TT:=St→Hp→(Bool→Hp→Prop)→Prop
noncomputable abbrev TA:=St→Hp→(List V→Hp→Prop)→Prop
structure o9 where
 nx : St→Hp→Prop
 rt : VK
 bk : St→Hp→Prop:=fun _ _=>False
 ct : St→Hp→Prop:=fun _ _=>False
noncomputable abbrev TS:=o9→St→Hp→Prop
noncomputable def EP (X:Cx) (pins:List (Addr×Obj)) (σ:St) (Q:VK) (u:Value) (s':Shared):Prop:=∃ v H',Inv X pins σ H' s'∧bz v u∧Q v H'
noncomputable def TP (X:Cx) (pins:List (Addr×Obj)) (σ:St) (Q:Bool→Hp→Prop) (b:Bool) (s':Shared):Prop:=∃ H',Inv X pins σ H' s'∧Q b H'
noncomputable def AP (X:Cx) (pins:List (Addr×Obj)) (σ:St) (Q:List V→Hp→Prop) (us:List Value) (s':Shared):Prop:=∃ vs H',Inv X pins σ H' s'∧aK vs us∧Q vs H'
noncomputable def SP (X:Cx) (pins:List (Addr×Obj)) (D:o9) (f:Flow) (s':Shared):Prop :=
 match f with
 | .next=>∃ σ' H',Inv X pins σ' H' s'∧D.nx σ' H'
 | .brk=>∃ σ' H',Inv X pins σ' H' s'∧D.bk σ' H'
 | .cont=>∃ σ' H',Inv X pins σ' H' s'∧D.ct σ' H'
 | .ret u=>∃ v σ' H',Inv X pins σ' H' s'∧bz v u∧D.rt v H'
noncomputable def PE (X:Cx) (e:Expr) (t:TE):Prop :=
 ∀ (pins:List (Addr×Obj)) (s:Shared) (σ:St) (H:Hp) (Q:VK),Inv X pins σ H s→t σ H Q→wpAny (model X.prog X.w) X.A (eval e X.env) (EP X pins σ Q) X.xe s
noncomputable def PT (X:Cx) (e:Expr) (t:TT):Prop :=
 ∀ (pins:List (Addr×Obj)) (s:Shared) (σ:St) (H:Hp) (Q:Bool→Hp→Prop),Inv X pins σ H s→t σ H Q→wpAny (model X.prog X.w) X.A (isTrue e X.env (eval e X.env)) (TP X pins σ Q) X.xe s
noncomputable def PW (X:Cx) (e:Expr) (t:TT):Prop :=
 ∀ (whole:Sem Value) (pins:List (Addr×Obj)) (s:Shared) (σ:St) (H:Hp) (Q:Bool→Hp→Prop),Inv X pins σ H s→t σ H Q→wpAny (model X.prog X.w) X.A (isTrue e X.env whole) (TP X pins σ Q) X.xe s
theorem PW.pt {X:Cx}{e:Expr}{t:TT} (h:PW X e t):PT X e t:=h _
noncomputable def PA (X:Cx) (es:List Expr) (t:TA):Prop :=
 ∀ (pos:Pos) (pins:List (Addr×Obj)) (s:Shared) (σ:St) (H:Hp) (Q:List V→Hp→Prop),Inv X pins σ H s→t σ H Q→wpAny (model X.prog X.w) X.A (spliced (backTo pos (starEach es X.env))) (AP X pins σ Q) X.xe s
noncomputable def PS (X:Cx) (st:Stmt) (t:TS):Prop :=
 ∀ (pins:List (Addr×Obj)) (s:Shared) (σ:St) (H:Hp) (D:o9),Inv X pins σ H s→t D σ H→wpAny (model X.prog X.w) X.A (exec st X.env) (SP X pins D) X.xe s
noncomputable def PSs (X:Cx) (st:List Stmt) (t:TS):Prop :=
 ∀ (pins:List (Addr×Obj)) (s:Shared) (σ:St) (H:Hp) (D:o9),Inv X pins σ H s→t D σ H→wpAny (model X.prog X.w) X.A (execs st X.env) (SP X pins D) X.xe s
theorem thn {α:Type}{t:Sem α}{Q Q':α→Shared→Prop}{M:Model}{A:Around}{E:Value→Shared→Prop}{s:Shared} (h:wpAny M A t Q E s) (hQ:∀ a s,Q a s→Q' a s):wpAny M A t Q' E s:=wpAny_mono h hQ fun _ _ x=>x
section
variable {X:Cx}
noncomputable def Bl (i:Nat):TE:=fun σ H Q=>∃ v,σ[i]? = some (some v)∧Q v H
noncomputable def tC (v:V):TE:=fun _ H Q=>Q v H
theorem c8 {i:Nat}{x:Str}{pos:Pos} (hN:X.N[i]? = some x) (hv:Vis X.env.scope x) (hd:(x==("__debug__" : Str))=false:=by decide) (hcd:(x==("__classdict__" : Str))=false:=by decide):PE X (.Name x pos) (Bl i):=by
 intro pins s σ H Q I h
 obtain ⟨v,e,h⟩:=h
 obtain ⟨m,hn,hl⟩:=I.loc
 obtain ⟨u,r,l⟩:=hl i x v hN e hv
 have fin:EP X pins σ Q u s:=⟨v,H,I,r,h⟩
 rcases l with ⟨hk,hm⟩|⟨hk,c,hc,hcell⟩
 ·exact wpAny_Name (wpAny_loadName_local I.ok.kind hk hn hm fin) hd
 ·rcases hk with hk|hk
  ·exact wpAny_Name (wpAny_loadName_cell I.ok.kind hk hc hcell fin) hd
  ·exact wpAny_Name (wpAny_loadName_free I.ok.kind hk hc hcell fin hcd) hd
theorem mJ {i j pos}:PE X (.Constant (.int i) j pos) (tC (.int i)):=fun _ _ _ H _ I h=>wpAny_Constant_int ⟨.int i,H,I.tok _,⟨_,rfl⟩,h⟩
theorem BO {b j pos}:PE X (.Constant (.bool b) j pos) (tC (.bl b)):=fun _ _ _ H _ I h=>Constant_bool ⟨.bl b,H,I,rfl,h⟩
theorem zI {j pos}:PE X (.Constant .none j pos) (tC .non):=fun _ _ _ H _ I h=>Constant_none ⟨.non,H,I,rfl,h⟩
noncomputable def Gl (X:Cx) (x:Str):Prop:=X.env.kindOf x=some .globalImplicit
theorem qB {E:Value→Shared→Prop}{pins:List (Addr×Obj)}{s:Shared}{σ:St}{H:Hp}{x:Str}{u:Value}{pos:Pos}{Q:Value→Shared→Prop} (I:Inv X pins σ H s) (hg:Gl X x) (hm:X.mg x=some u) (h:Q u s)
  (hd:(x==("__debug__" : Str))=false:=by decide):wpAny (model X.prog X.w) X.A (eval (.Name x pos) X.env) Q E s :=
 Calls.Name_function_global I.ok.kind hg (Calls.loadGlobal_global (by rw[I.ok.glob];exact I.mod.glob.keeps I.bk) hm h) hd
theorem gq {E:Value→Shared→Prop}{pins:List (Addr×Obj)}{s:Shared}{σ:St}{H:Hp}{x:Str}{u:Value}{pos:Pos}{Q:Value→Shared→Prop} (I:Inv X pins σ H s) (hg:Gl X x) (hm:X.mg x=none) (hv:bootBuiltins x=some u) (h:Q u s)
  (hn:x ≠ "__name__" := by decide) (hd:(x==("__debug__" : Str))=false:=by decide):wpAny (model X.prog X.w) X.A (eval (.Name x pos) X.env) Q E s:=by
 obtain ⟨mb,h1,h2⟩:=I.mod.blt
 exact Calls.Name_function_global I.ok.kind hg (Calls.loadGlobal_builtin (by rw[I.ok.glob];exact I.mod.glob.keeps I.bk) hm (by rw[I.ok.blt];exact h1.keeps I.bk) ((h2 x hn).trans hv) h) hd
theorem xi {x:Str}{v:V}{u:Value}{pos:Pos} (hg:Gl X x) (hm:X.mg x=none) (hv:bootBuiltins x=some u) (r:bz v u) (hn:x ≠ "__name__" := by decide) (hd:(x==("__debug__" : Str))=false:=by decide):PE X (.Name x pos) (tC v) :=
 fun _ _ _ H _ I h=>gq I hg hm hv ⟨v,H,I,r,h⟩ hn hd
variable {a b:Expr}{ta tb:TE}{pos:Pos}
noncomputable def tB (t:TE):TT:=fun σ H Q=>t σ H fun x H1=>∃ c,x=.bl c∧Q c H1
theorem zw {e:Expr}{t:TE} (h:PE X e t) (he:∀ whole,isTrue e X.env whole=(do let v ←whole;standAt e.pos;holding [v] (truthy v)):=by intro _;rfl):PT X e (tB t):=by
 intro pins s σ H Q I hw
 refine isTrue_plain (thn (h pins s σ H _ I hw) fun v s1 ⟨x,H1,I1,r1,q1⟩=>?_) (he _)
 obtain ⟨d,rfl,q⟩:=q1
 cases r1
 exact wpAny_truthy_bool ⟨H1,I1,q⟩
variable {tA tB':TT}{bI:List Expr}
noncomputable def C9 (t u:TT):TT:=fun σ H Q=>t σ H fun c H1=>if c=true then u σ H1 Q else Q false H1
noncomputable def tOr (t u:TT):TT:=fun σ H Q=>t σ H fun c H1=>if c=true then Q true H1 else u σ H1 Q
noncomputable def C3 (t:TT):TT:=fun σ H Q=>t σ H fun c H1=>Q (!c) H1
theorem wN (ha:PT X a tA):PW X (.BoolOp .And [a] pos) tA:=by
 intro wh pins s σ H Q I h
 refine isTrue_and (thn (ha pins s σ H Q I h) fun c s1 e=>?_)
 cases c with
 | true=>exact isTrue_and_nil e
 | false=>exact e
theorem zu (ha:PT X a tA):PW X (.BoolOp .Or [a] pos) tA:=by
 intro wh pins s σ H Q I h
 refine isTrue_or (thn (ha pins s σ H Q I h) fun c s1 e=>?_)
 cases c with
 | false=>exact isTrue_or_nil e
 | true=>exact e
theorem zv (ha:PT X a tA) (hb:PW X (.BoolOp .And (b::bI) pos) tB'):PW X (.BoolOp .And (a::b::bI) pos) (C9 tA tB'):=by
 intro wh pins s σ H Q I h
 refine isTrue_and (thn (ha pins s σ H _ I h) fun c s1 ⟨H1,I1,q1⟩=>?_)
 cases c with
 | true=>exact hb wh pins s1 σ H1 Q I1 q1
 | false=>exact⟨H1,I1,q1⟩
theorem BL (ha:PT X a tA) (hb:PW X (.BoolOp .Or (b::bI) pos) tB'):PW X (.BoolOp .Or (a::b::bI) pos) (tOr tA tB'):=by
 intro wh pins s σ H Q I h
 refine isTrue_or (thn (ha pins s σ H _ I h) fun c s1 ⟨H1,I1,q1⟩=>?_)
 cases c with
 | true=>exact⟨H1,I1,q1⟩
 | false=>exact hb wh pins s1 σ H1 Q I1 q1
theorem zx (ha:PT X a tA):PT X (.UnaryOp .Not a pos) (C3 tA):=by
 intro pins s σ H Q I h
 exact isTrue_not (ha pins s σ H (fun c H1=>Q (!c) H1) I h)
noncomputable def Bv (ta tb:TE):TE:=fun σ H Q=>ta σ H fun x H1=>∃ c,x=.bl c∧if c=true then tb σ H1 Q else Q (.bl false) H1
noncomputable def C2 (ta tb:TE):TE:=fun σ H Q=>ta σ H fun x H1=>∃ c,x=.bl c∧if c=true then Q (.bl true) H1 else tb σ H1 Q
noncomputable def Bo (ta:TE):TE:=fun σ H Q=>ta σ H fun x H1=>∃ c,x=.bl c∧Q (.bl (!c)) H1
theorem zG {op}{t:TE} (h:PE X a t):PE X (.BoolOp op [a] pos) t:=fun pins s σ H Q I hw=>BoolOp_one (h pins s σ H Q I hw)
theorem zL (ha:PE X a ta) (hb:PE X (.BoolOp .And (b::bI) pos) tb):PE X (.BoolOp .And (a::b::bI) pos) (Bv ta tb):=by
 intro pins s σ H Q I h
 refine BoolOp_and (thn (ha pins s σ H _ I h) fun v s1 ⟨x,H1,I1,r1,q1⟩=>?_)
 obtain ⟨c,rfl,q1⟩:=q1
 cases r1
 refine wpAny_truthy_bool ?_
 cases c with
 | true=>exact hb pins s1 σ H1 Q I1 q1
 | false=>exact⟨.bl false,H1,I1,rfl,q1⟩
theorem BM (ha:PE X a ta) (hb:PE X (.BoolOp .Or (b::bI) pos) tb):PE X (.BoolOp .Or (a::b::bI) pos) (C2 ta tb):=by
 intro pins s σ H Q I h
 refine BoolOp_or (thn (ha pins s σ H _ I h) fun v s1 ⟨x,H1,I1,r1,q1⟩=>?_)
 obtain ⟨c,rfl,q1⟩:=q1
 cases r1
 refine wpAny_truthy_bool ?_
 cases c with
 | false=>exact hb pins s1 σ H1 Q I1 q1
 | true=>exact⟨.bl true,H1,I1,rfl,q1⟩
theorem zH (ha:PE X a ta):PE X (.UnaryOp .Not a pos) (Bo ta):=by
 intro pins s σ H Q I h
 refine UnaryOp_ (thn (ha pins s σ H _ I h) fun v s1 ⟨x,H1,I1,r1,q1⟩=>?_)
 obtain ⟨c,rfl,q1⟩:=q1
 cases r1
 exact not_of (wpAny_truthy_bool ⟨.bl (!c),H1,I1,rfl,q1⟩)
noncomputable def tIf (t:TT) (ta tb:TE):TE:=fun σ H Q=>t σ H fun c H1=>if c=true then ta σ H1 Q else tb σ H1 Q
theorem tm {c:Expr} (hc:PT X c tA) (ha:PE X a ta) (hb:PE X b tb):PE X (.IfExp c a b pos) (tIf tA ta tb):=by
 intro pins s σ H Q I h
 refine wpAny_IfExp (thn (hc pins s σ H _ I h) fun d s1 ⟨H1,I1,q1⟩=>?_)
 cases d with
 | true=>exact ha pins s1 σ H1 Q I1 q1
 | false=>exact hb pins s1 σ H1 Q I1 q1
end
noncomputable def SqL (K:PySem.W.Frag) (H:Hp) (a:Addr) (xs:List V):Prop :=
 Rd H a (.lst xs) ∨
  ∃ (o:Obj) (its:Array Value) (n:Nat),K.lookup a=some o∧o.cls=.type "list" ∧ o.dict=none∧o.data=.seq its n∧its.size≤sizeLine∧aK xs its.toList
noncomputable def SqT (K:PySem.W.Frag) (H:Hp) (a:Addr) (xs:List V):Prop :=
 Rd H a (.tup xs) ∨
  ∃ (o:Obj) (its:Array Value) (n:Nat),K.lookup a=some o∧o.cls=.type "tuple" ∧ o.data=.seq its n∧its.size≤sizeLine∧aK xs its.toList
noncomputable def DB:Value→Option V
 | .none=>some .non
 | .bool b=>some (.bl b)
 | .int i _=>some (.int i)
 | .str x _=>some (.str x)
 | .bytes b _=>some (.byt b)
 | .float b _=>some (.flt b)
 | .ref a=>some (.ref a)
 | .type n=>some (.ty n)
 | _=>none
theorem bz.abs {x:V}{u:Value} (r:bz x u):DB u=some x:=by
 cases x with
 | non=>cases r;rfl
 | bl _=>cases r;rfl
 | int _=>obtain⟨t,rfl⟩:=r;rfl
 | str _=>obtain⟨t,rfl⟩:=r;rfl
 | byt _=>obtain⟨t,rfl⟩:=r;rfl
 | flt _=>obtain⟨t,rfl⟩:=r;rfl
 | ref _=>cases r;rfl
 | ty _=>cases r;rfl
theorem bz.inj {x y:V}{u:Value} (r:bz x u) (q:bz y u):x=y:=Option.some.inj (r.abs.symm.trans q.abs)
theorem aK.inj {xs ys:List V}{us:List Value} (h:aK xs us):aK ys us→xs=ys:=by
 induction h generalizing ys with
 | nil =>
  intro q
  cases q
  rfl
 | cons r t ih =>
  intro q
  cases q with
  | cons r' t'=>rw[r.inj r',ih t']
section
variable {X:Cx}{pins:List (Addr×Obj)}{σ:St}{H:Hp}{s:Shared}{a:Addr}{xs ys:List V}
theorem SqL.of {K:PySem.W.Frag} (h:H a=some (.lst xs)):SqL K H a xs:=.inl (.inl h)
theorem SqT.of {K:PySem.W.Frag} (h:H a=some (.tup xs)):SqT K H a xs:=.inl (.inl h)
theorem Inv.list (I:Inv X pins σ H s) (h:SqL X.K H a xs):∃ its:List Value,aK xs its∧PlainL s.heap a its.toArray∧xs.length≤sizeLine:=by
 rcases h with h|⟨o,its,n,hk,hc,hd,hs,hz,r⟩
 ·obtain ⟨z,its,n,r,e⟩:=h.ok I.hok
  exact ⟨its,r,⟨_,n,e,rfl,rfl,rfl⟩,z⟩
 ·refine ⟨its.toList,r,⟨o,n,I.kIn a o hk,hc,hd,by simpa using hs⟩,?_⟩
  have e:=r.length
  simp only [Array.length_toList] at e
  omega
theorem Inv.tuple (I:Inv X pins σ H s) (h:SqT X.K H a xs):∃ its:List Value,aK xs its∧IsTup s.heap a its.toArray∧xs.length≤sizeLine:=by
 rcases h with h|⟨o,its,n,hk,hc,hs,hz,r⟩
 ·obtain ⟨z,its,r,p⟩:=h.ok I.hok
  exact ⟨its,r,p,z⟩
 ·refine ⟨its.toList,r,⟨o,I.kIn a o hk,hc,n,by simpa using hs⟩,?_⟩
  have e:=r.length
  simp only [Array.length_toList] at e
  omega
theorem Inv.list_inj (I:Inv X pins σ H s) (h:SqL X.K H a xs) (h':SqL X.K H a ys):xs=ys:=by
 obtain ⟨its,r,⟨o,n,e,_,_,d⟩,_⟩:=I.list h
 obtain ⟨its',r',⟨o',n',e',_,_,d'⟩,_⟩:=I.list h'
 rw [e] at e';cases e'
 rw [d] at d'
 injection d' with d1 _
 have:its=its':=by simpa using congrArg Array.toList d1
 subst this
 exact r.inj r'
theorem Inv.tuple_inj (I:Inv X pins σ H s) (h:SqT X.K H a xs) (h':SqT X.K H a ys):xs=ys:=by
 obtain ⟨its,r,⟨o,e,_,n,d⟩,_⟩:=I.tuple h
 obtain ⟨its',r',⟨o',e',_,n',d'⟩,_⟩:=I.tuple h'
 rw [e] at e';cases e'
 rw [d] at d'
 injection d' with d1 _
 have:its=its':=by simpa using congrArg Array.toList d1
 subst this
 exact r.inj r'
end
noncomputable abbrev Cx.wish (X:Cx) (E:Value→Shared→Prop):Cx:={ X with xe:=E }
noncomputable abbrev Cx.nox (X:Cx):Cx:=X.wish fun _ _=>False
theorem Cx.Ok.wish {X:Cx} (ok:X.Ok) (E:Value→Shared→Prop):(X.wish E).Ok :=
 ⟨ok.mod,ok.kind,ok.glob,ok.blt,ok.above,ok.inj,ok.has,ok.cab,ok.hd,ok.frames,ok.stk,ok.exf,ok.bs,ok.bsz,ok.noex,ok.exfs,ok.funs,ok.frf,ok.tab⟩
theorem Cx.Ok.unwish {X:Cx}{E:Value→Shared→Prop} (ok:(X.wish E).Ok):X.Ok :=
 ⟨ok.mod,ok.kind,ok.glob,ok.blt,ok.above,ok.inj,ok.has,ok.cab,ok.hd,ok.frames,ok.stk,ok.exf,ok.bs,ok.bsz,ok.noex,ok.exfs,ok.funs,ok.frf,ok.tab⟩
section
variable {X:Cx}{pins:List (Addr×Obj)}{σ:St}{H:Hp}{s:Shared}{E:Value→Shared→Prop}
theorem Inv.wish (I:Inv X pins σ H s) (E:Value→Shared→Prop):Inv (X.wish E) pins σ H s:=⟨I.ok.wish E,I.os,I.bare,I.base,I.loc,I.cell,I.free,I.freeC,I.pin,I.hok,I.len⟩
theorem Inv.unwish (I:Inv (X.wish E) pins σ H s):Inv X pins σ H s:=⟨I.ok.unwish,I.os,I.bare,I.base,I.loc,I.cell,I.free,I.freeC,I.pin,I.hok,I.len⟩
theorem SP.unwish {D:o9}{f:Flow}{s':Shared} (h:SP (X.wish E) pins D f s'):SP X pins D f s':=by
 cases f with
 | next=>obtain⟨σ',H',I,q⟩:=h;exact⟨σ',H',I.unwish,q⟩
 | brk=>obtain⟨σ',H',I,q⟩:=h;exact⟨σ',H',I.unwish,q⟩
 | cont=>obtain⟨σ',H',I,q⟩:=h;exact⟨σ',H',I.unwish,q⟩
 | ret u=>obtain⟨v,σ',H',I,r,q⟩:=h;exact⟨v,σ',H',I.unwish,r,q⟩
theorem PE.nox {e:Expr}{t:TE} (h:PE X.nox e t):PE X e t:=fun pins s σ H Q I hw =>
 wpAny_mono (h pins s σ H Q (I.wish _) hw) (fun _ _ ⟨v,H',I',r,q⟩=>⟨v,H',I'.unwish,r,q⟩) fun _ _ z=>False.elim z
theorem PT.nox {e:Expr}{t:TT} (h:PT X.nox e t):PT X e t:=fun pins s σ H Q I hw =>
 wpAny_mono (h pins s σ H Q (I.wish _) hw) (fun _ _ ⟨H',I',q⟩=>⟨H',I'.unwish,q⟩) fun _ _ z=>False.elim z
theorem PSs.nox {st:List Stmt}{t:TS} (h:PSs X.nox st t):PSs X st t:=fun pins s σ H D I hw =>
 wpAny_mono (h pins s σ H D (I.wish _) hw) (fun _ _ q=>q.unwish) fun _ _ z=>False.elim z
end
section
variable {X:Cx}{st:Stmt}{bI:List Stmt}{t u:TS}{e:Expr}{te:TE}{pos:Pos}
noncomputable def Bp:TS:=fun D σ H=>D.nx σ H
noncomputable def C0 (t u:TS):TS:=fun D σ H=>t { D with nx:=u D } σ H
theorem wQ:PSs X [] Bp:=fun _ _ σ H _ I h=>wpAny_execs_nil ⟨σ,H,I,h⟩
theorem mH (h1:PS X st t) (h2:PSs X bI u):PSs X (st::bI) (C0 t u):=by
 intro pins s σ H D I h
 refine wpAny_execs_cons (thn (h1 pins s σ H { D with nx:=u D } I h) fun f s1 q=>?_)
 cases f with
 | next =>
  obtain ⟨σ',H',I',q⟩:=q
  exact h2 pins s1 σ' H' D I' q
 | ret v=>exact q
 | brk=>exact q
 | cont=>exact q
theorem kT (h1:PS X st t):PSs X [st] t:=by
 intro pins s σ H D I h
 refine wpAny_execs_cons (thn (h1 pins s σ H D I h) fun f s1 q=>?_)
 cases f with
 | next=>exact wpAny_execs_nil q
 | ret v=>exact q
 | brk=>exact q
 | cont=>exact q
noncomputable def Bt:TS:=fun D σ H=>D.ct σ H
theorem kU:PS X (.Continue pos) Bt:=fun _ _ σ H _ I h=>wpAny_Continue ⟨σ,H,I,h⟩
theorem Inv.quiet {pins:List (Addr×Obj)}{σ:St}{H:Hp}{s:Shared} (I:Inv X pins σ H s):interactive X.env=false:=by simp[interactive,I.ok.kind]
noncomputable def Bq (te:TE):TS:=fun D σ H=>te σ H fun _ H1=>D.nx σ H1
theorem wS (he:PE X e te) (hs:swapsWith e none pos.line X.env=pure false:=by rfl):PS X (.Expr e pos) (Bq te):=by
 intro pins s σ H D I h
 exact wpAny_Expr_any (thn (he pins s σ H _ I h) fun v s1 ⟨x,H1,I1,r1,q1⟩=>⟨σ,H1,I1,q1⟩) I.quiet hs
noncomputable def C1 (te:TE):TS:=fun D σ H=>te σ H D.rt
theorem vf (he:PE X e te):PS X (.Return (some e) pos) (C1 te):=by
 intro pins s σ H D I h
 exact wpAny_Return_some (thn (he pins s σ H _ I h) fun v s1 ⟨x,H1,I1,r1,q1⟩=>⟨x,σ,H1,I1,r1,q1⟩)
noncomputable def C6 (c:TT) (t u:TS):TS:=fun D σ H=>c σ H fun b H1=>if b=true then t D σ H1 else u D σ H1
theorem zz {c:Expr}{a b:List Stmt}{tc:TT} (hc:PT X c tc) (ha:PSs X a t) (hb:PSs X b u):PS X (.If c a b pos) (C6 tc t u):=by
 intro pins s σ H D I h
 refine wpAny_If (thn (hc pins s σ H _ I h) fun d s1 ⟨H1,I1,q1⟩=>?_)
 cases d with
 | true=>exact ha pins s1 σ H1 D I1 q1
 | false=>exact hb pins s1 σ H1 D I1 q1
end
noncomputable abbrev TG:=V→St→Hp→(St→Hp→Prop)→Prop
noncomputable abbrev TGs:=List V→St→Hp→(St→Hp→Prop)→Prop
noncomputable def PG (X:Cx) (target:Expr) (t:TG):Prop :=
 ∀ (pins:List (Addr×Obj)) (s:Shared) (σ:St) (H:Hp) (v:V) (u:Value) (Q:St→Hp→Prop),Inv X pins σ H s→bz v u→t v σ H Q →
  wpAny (model X.prog X.w) X.A (assign target X.env u) (fun _ s'=>∃ σ' H',Inv X pins σ' H' s'∧Q σ' H') X.xe s
noncomputable def PGs (X:Cx) (ts:List Expr) (t:TGs):Prop :=
 ∀ (pins:List (Addr×Obj)) (s:Shared) (σ:St) (H:Hp) (vs:List V) (us:List Value) (Q:St→Hp→Prop),Inv X pins σ H s→aK vs us→t vs σ H Q →
  wpAny (model X.prog X.w) X.A (assignInOrder ((assignEach ts X.env).map (·.2)) us) (fun _ s'=>∃ σ' H',Inv X pins σ' H' s'∧Q σ' H') X.xe s
noncomputable abbrev Bi:=V→V→V→Hp→(Hp→Prop)→Prop
noncomputable def Cv (X:Cx) (t:Bi):Prop :=
 ∀ (pins:List (Addr×Obj)) (s:Shared) (σ:St) (H:Hp) (o i v:V) (ov iv u:Value) (Q:Hp→Prop),Inv X pins σ H s→bz o ov→bz i iv→bz v u→t o i v H Q →
  wpAny (model X.prog X.w) X.A (setItem ov iv u) (fun _ s'=>∃ H',Inv X pins σ H' s'∧Q H') X.xe s
section
variable {X:Cx}{pos:Pos}
noncomputable def ui (i:Nat):TG:=fun v σ H Q=>Q (σ.set i (some v)) H
theorem w4 {i:Nat}{x:Str} (hN:X.N.Nodup) (hi:X.N[i]? = some x) (hx:Loc X.env.scope x) (hf:X.fn x=true∨X.env.scope.names.lookup x=some .local:=by first|exact .inl rfl|exact .inr rfl|assumption):PG X (.Name x pos) (ui i):=by
 intro pins s σ H v u Q I r h
 exact wpAny_assign_Name (l6 I hN hi hx r (fun s' I'=>⟨_,H,I',h⟩) hf)
noncomputable def Dr:TGs:=fun vs σ H Q=>vs=[]∧Q σ H
noncomputable def Ca (t:TG) (u:TGs):TGs:=fun vs σ H Q=>∃ v r,vs=v::r∧t v σ H fun σ' H'=>u r σ' H' Q
theorem wZ:PGs X [] Dr:=by
 intro pins s σ H vs us Q I r h
 obtain ⟨e,h⟩:=h
 subst e
 cases r
 exact assignInOrder_nil ⟨σ,H,I,h⟩
theorem sZ {e:Expr}{es:List Expr}{t:TG}{u:TGs} (h1:PG X e t) (h2:PGs X es u)
  (hs:(assignEach (e::es) X.env).map (·.2)=assign e X.env::(assignEach es X.env).map (·.2):=by rfl):PGs X (e::es) (Ca t u):=by
 intro pins s σ H vs us Q I r h
 obtain ⟨v,vr,e1,h⟩:=h
 subst e1
 cases r with
 | cons r rr =>
  rw [hs]
  refine assignInOrder_cons (thn (h1 pins s σ H _ _ _ I r h) fun _ s1 ⟨σ1,H1,I1,q1⟩=>?_)
  exact h2 pins s1 σ1 H1 _ _ Q I1 rr q1
noncomputable def CP (K:PySem.W.Frag) (n:Nat) (t:TGs):TG:=fun v σ H Q=>∃ a xs,v=.ref a∧SqT K H a xs∧xs.length=n∧t xs σ H Q
theorem zD {es:List Expr}{k:Nat}{t:TGs}{n:Nat} (hc:X.calm=true) (h:PGs X es t)
  (hn:(assignEach es X.env).length=n:=by rfl) (hst:(assignEach es X.env).findIdx? (·.1)=none:=by rfl):PG X (.Tuple es k pos) (CP X.K n t):=by
 intro pins s σ H v u Q I r hw
 obtain ⟨a,xs,e1,hq,hl,hw⟩:=hw
 subst e1
 cases r
 obtain ⟨its,rv,ht,hz⟩:=I.tuple hq
 refine assign_Tuple_tuple (I.ok.hd hc) ht (by simp[hn,←hl,rv.length]) hst fun h' hx=>?_
 have I1:Inv X pins σ H { s with heap:=h' }:=I.kept (t':=s.toks) fun b o e=>hx b o (Ed (D7 e)) e
 exact h pins _ σ H xs _ Q I1 (by simpa using rv) hw
noncomputable def Dq (to ti:TE) (t:Bi):TG:=fun v σ H Q=>to σ H fun o H1=>ti σ H1 fun i H2=>t o i v H2 fun H3=>Q σ H3
theorem vi {o i:Expr}{to ti:TE}{t:Bi} (ho:PE X o to) (hi:PE X i ti) (hs:Cv X t)
  (ha:∀ v,assign (.Subscript o i pos) X.env v=(do
   let ov ←holding [v] (eval o X.env)
   let iv ←holding [v,ov] (eval i X.env)
   standAt pos
   holding [v,ov,iv] (setItem ov iv v)
   release [v,ov,iv] []):=by intro _;rfl):PG X (.Subscript o i pos) (Dq to ti t):=by
 intro pins s σ H v u Q I r h
 rw [ha]
 refine wpAny_bind (wpAny_holding (thn (ho pins s σ H _ I h) fun ov s1 ⟨x,H1,I1,r1,q1⟩=>?_))
 refine wpAny_bind (wpAny_holding (thn (hi pins s1 σ H1 _ I1 q1) fun iv s2 ⟨y,H2,I2,r2,q2⟩=>?_))
 refine wpAny_bind (wpAny_standAt (wpAny_bind (wpAny_holding (thn (hs pins s2 σ H2 x y v ov iv u _ I2 r1 r2 r q2) fun _ s3 ⟨H3,I3,q3⟩=>?_))))
 exact wpAny_release ⟨σ,H3,I3,q3⟩
noncomputable def AX (te:TE) (g:TG):TS:=fun D σ H=>te σ H fun x H1=>g x σ H1 D.nx
theorem vh {tg e:Expr}{te:TE}{g:TG} (he:PE X e te) (hg:PG X tg g) (hs:swapsWithSole [tg] e pos.line X.env=pure false:=by rfl) (hw:swappedStores [tg] e X.env=pure none:=by rfl)
  (h1:(assignEach [tg] X.env).map (·.2)=[assign tg X.env]:=by rfl):PS X (.Assign [tg] e pos) (AX te g):=by
 intro pins s σ H D I h
 refine wpAny_Assign_stores (thn (he pins s σ H _ I h) fun v s1 ⟨x,H1,I1,r1,q1⟩=>?_) hs hw
 rw [h1]
 exact thn (hg pins s1 σ H1 x v _ I1 r1 q1) fun _ s2 q=>q
theorem zy {i:Nat}{x:Str}{e:Expr}{te:TE}{pos':Pos} (hN:X.N.Nodup) (hi:X.N[i]? = some x) (hx:Loc X.env.scope x) (he:PE X e te) (hs:swapsWith e (some (.Name x pos')) pos.line X.env=pure false:=by rfl) (hf:X.fn x=true∨X.env.scope.names.lookup x=some .local:=by first|exact .inl rfl|exact .inr rfl|assumption) :
  PS X (.Assign [.Name x pos'] e pos) (AX te (ui i)):=by
 intro pins s σ H D I h
 refine wpAny_Assign_Name (thn (he pins s σ H _ I h) fun v s1 ⟨y,H1,I1,r1,q1⟩=>?_) hs
 exact l6 I1 hN hi hx r1 (fun s2 I2=>⟨_,H1,I2,q1⟩) hf
end
section
variable {X:Cx}{pos:Pos}
noncomputable def yS (c:TT) (tb:TS):TS:=fun D σ H=>∃ W:Nat→St→Hp→Prop,(∃ m,W m σ H)∧∀ m σ H,W m σ H →
 c σ H fun b H1=>if b=true then ∃ N:St→Hp→Prop,(∀ σ' H',N σ' H'→∃ m',m'<m∧W m' σ' H')∧tb { D with nx:=N,ct:=N,bk:=D.nx } σ H1 else D.nx σ H1
theorem sX {c:Expr}{body:List Stmt}{tc:TT}{tb:TS} (hp:PassesOwn (model X.prog X.w) X.A X.env X.xe) (hc:PT X c tc) (hb:PSs X body tb):PS X (.While c body [] pos) (yS tc tb):=by
 intro pins s σ H D I h
 obtain ⟨W,⟨m0,w0⟩,turn⟩:=h
 refine wpAny_While (codeAny_whileLoop (fun n s'=>∃ σ' H',Inv X pins σ' H' s'∧W n σ' H') ?_ m0 ⟨σ,H,I,w0⟩)
 rintro n s1 ⟨σ1,H1,I1,w1⟩
 refine wpAny_passesOwn hp (thn (hc pins s1 σ1 H1 _ I1 (turn n σ1 H1 w1)) fun b s2 ⟨H2,I2,q2⟩=>?_)
 cases b with
 | true =>
  obtain ⟨N,hN,q2⟩:=q2
  rw [if_pos rfl]
  refine wpAny_passesOwn hp (thn (hb pins s2 σ1 H2 _ I2 q2) fun f s3 q3=>?_)
  cases f with
  | next =>
   obtain ⟨σ3,H3,I3,n3⟩:=q3
   obtain ⟨m',hm,w3⟩:=hN σ3 H3 n3
   exact ⟨m',hm,σ3,H3,I3,w3⟩
  | cont =>
   obtain ⟨σ3,H3,I3,n3⟩:=q3
   obtain ⟨m',hm,w3⟩:=hN σ3 H3 n3
   exact ⟨m',hm,σ3,H3,I3,w3⟩
  | brk=>exact q3
  | ret v=>exact q3
 | false =>
  rw [if_neg Ea]
  exact wpAny_execs_nil ⟨σ1,H2,I2,q2⟩
end
structure It where
 go : Nat→Hp→Prop
 yld:Nat→Hp→V→Hp→Prop
 stop:Nat→Hp→Prop
noncomputable def fE (X:Cx) (pins:List (Addr×Obj)) (H:Hp) (b:Addr):Prop :=
 H b=none∧b≠X.env.locals∧b ∉ X.fs∧(b∈X.ex∨X.s₀.heap.objs.size≤b)∧(∀ x c,X.env.cells.lookup x=some c→c≠b)∧∀ p∈X.pn++pins,p.1≠b
theorem Inv.fpOk {X:Cx}{pins:List (Addr×Obj)}{σ:St}{H H':Hp}{s:Shared}{b:Addr} (I:Inv X pins σ H s) (hb:s.heap.objs.size≤b) (hn:H' b=none):fE X pins H' b:=by
 refine ⟨hn,EH (D6 I.lt hb),I.nofs hb,.inr (D1 I.sz hb),fun x c e z=>?_,fun p hp z=>?_⟩
 ·obtain ⟨v,q⟩:=I.cell x c e
  exact absurd (D6 q.lt (by rw[z];exact hb)) (EY _)
 ·exact absurd (D6 (D7 (I.pin p hp).1) (by rw[z];exact hb)) (EY _)
structure yz (P:Program) (w:World) (K:PySem.W.Frag) (tg:Expr) (J:It) (fp:List Addr) (it:Addr) (tn:Nat→Heap→Prop):Prop where
 mem:it∈fp
 obj:∀ i h,tn i h→∀ b∈fp,∃ o,h.get? b=some o∧∀ v,o.data≠.cell v
 keep:∀ i h h',tn i h→(∀ b∈fp,∀ o,h.get? b=some o→h'.get? b=some o)→tn i h'
 item:∀ (X:Cx),X.prog=P→X.w=w→X.K=K→X.calm=true→∀ (i:Nat) (pins:List (Addr×Obj)) (s:Shared) (σ:St) (H:Hp) (E:Value→Shared→Prop),Inv X pins σ H s→(∀ b∈fp,fE X pins H b)→tn i s.heap→J.go i H →
  wpAny (model P w) X.A (pyNext (.ref it)) (fun r s1=>∃ u,r=some u ∧
   wpAny (model P w) X.A (letOwnedTupleGo tg (.ref it) u) (fun _ s2=>∃ x H',Inv X pins σ H' s2∧bz x u∧J.yld i H x H'∧tn (i+1) s2.heap∧∀ b∈fp,H' b=none) E s1) E s
 done:∀ (X:Cx),X.prog=P→X.w=w→X.K=K→X.calm=true→∀ (i:Nat) (pins:List (Addr×Obj)) (s:Shared) (σ:St) (H:Hp) (E:Value→Shared→Prop),Inv X pins σ H s→(∀ b∈fp,fE X pins H b)→tn i s.heap→J.stop i H →
  wpAny (model P w) X.A (pyNext (.ref it)) (fun r s1=>r=none∧Inv X pins σ H s1) E s
 self:∀ (A:Around) (i:Nat) (s:Shared) (Q:Value→Shared→Prop) (E:Value→Shared→Prop),tn i s.heap→Q (.ref it) s→wpAny (model P w) A (pyIter (.ref it)) Q E s
noncomputable abbrev TI:=St→Hp→(It→Hp→Prop)→Prop
noncomputable def PIE (X:Cx) (pins:List (Addr×Obj)) (σ:St) (tg:Expr) (R:It→Hp→Prop) (itv:Value) (s2:Shared):Prop :=
 ∃ (it:Addr) (fp:List Addr) (tn:Nat→Heap→Prop) (J:It) (H':Hp),itv=.ref it∧Inv X pins σ H' s2∧yz X.prog X.w X.K tg J fp it tn∧tn 0 s2.heap∧(∀ b∈fp,fE X pins H' b)∧R J H'
noncomputable def PI (X:Cx) (tg iter:Expr) (wi:TI):Prop :=
 ∀ (pins:List (Addr×Obj)) (s:Shared) (σ:St) (H:Hp) (R:It→Hp→Prop),Inv X pins σ H s→wi σ H R →
  wpAny (model X.prog X.w) X.A (eval iter X.env) (fun v s1=>wpAny (model X.prog X.w) X.A (pyIter v) (PIE X pins σ tg R) X.xe s1) X.xe s
theorem xL {M:Model}{A:Around}{E:Value→Shared→Prop}{s:Shared}{tg:Expr}{it:Addr}{u:Value}{o:Obj}{n:String}{vs:Array Value}{Q:Unit→Shared→Prop} (ho:s.heap.get? it=some o) (hc:o.cls=.type n) (hd:o.data=.fields vs)
    (hn:["enumerate", "zip", "dict_itemiterator", "dict_reverseitemiterator", "odict_iterator", "itertools.zip_longest", "itertools.pairwise"].contains n=false) (hQ:Q () s):wpAny M A (letOwnedTupleGo tg (.ref it) u) Q E s:=by
  unfold letOwnedTupleGo
  cases tg <;> first
    | exact wpAny_pure hQ
    | (cases u <;> first
        | exact wpAny_pure hQ
        | (refine wpAny_bind (wpAny_load ho ?_)
           rw [hc,hd]
           show wpAny M A (if (["enumerate", "zip", "dict_itemiterator", "dict_reverseitemiterator", "odict_iterator", "itertools.zip_longest", "itertools.pairwise"].contains n&&vs[0]?==some (rawInt _))=true then _ else _) Q E s
           rw [if_neg (by intro h;rw[hn,Fd] at h;cases h)]
           exact wpAny_pure hQ))
noncomputable def Itl (K:PySem.W.Frag) (a:Addr):It :=
 ⟨fun i H=>∃ xs x,SqL K H a xs∧xs[i]? = some x,fun i H x H'=>H'=H∧∀ xs,SqL K H a xs→xs[i]? = some x,fun i H=>∃ xs,SqL K H a xs∧xs.length≤i⟩
noncomputable def Itr (lo:Int) (n:Nat):It:=⟨fun i _=>i<n,fun i H x H'=>H'=H∧x=.int (lo+i),fun i _=>n≤i⟩
theorem pf {P:Program}{w:World}{K:PySem.W.Frag}{tg:Expr} (a it:Addr):yz P w K tg (Itl K a) [it] it (fun i h=>h.IsListIter it a i) where
 mem:=by simp
 obj:=fun i h st b hb=>by
  have e:b=it:=by simpa using hb
  subst e
  obtain ⟨o,e,c,d⟩:=st
  exact ⟨o,e,fun v z=>by rw[d] at z;cases z⟩
 keep:=fun i h h' st k=>st.at fun o e=>k it (by simp) o e
 item:=by
  intro X hP hw hK hc i pins s σ H E I hf st hg
  subst hP hw hK
  obtain ⟨xs,x,hq,hx⟩:=hg
  obtain ⟨its,rv,p,hz⟩:=I.list hq
  obtain ⟨u,hu,ru⟩:=rv.get hx
  obtain ⟨f0,f1,f2,f3,f4,f5⟩:=hf it (by simp)
  refine wpAny_pyNext_list_item st p.isList (x:=u) (by simpa using hu) fun h' st' sb=>?_
  have I1:Inv X pins σ H { s with heap:=h' }:=I.turned (t':=s.toks) (fun b o hb e=>(sb.2 b hb).trans e) f0 f1 f3 f4 f5
  obtain ⟨o,e,c,d⟩:=id st'
  exact ⟨u,rfl,xL (s:={ s with heap:=h' }) e c d (by decide) ⟨x,H,I1,ru,⟨rfl,fun ys hy=>by rw[I.list_inj hy hq];exact hx⟩,st',fun b hb=>(hf b hb).1⟩⟩
 done:=by
  intro X hP hw hK hc i pins s σ H E I hf st hg
  subst hP hw hK
  obtain ⟨xs,hq,hx⟩:=hg
  obtain ⟨its,rv,p,hz⟩:=I.list hq
  obtain ⟨f0,f1,f2,f3,f4,f5⟩:=hf it (by simp)
  have hl:=rv.length
  exact wpAny_pyNext_list_end (I.ok.hd hc) st p.isList (by simp;omega) fun h' eb=>⟨rfl,I.turned (t':=s.toks) (fun b o hb e=>eb b o hb e) f0 f1 f3 f4 f5⟩
 self:=fun _ _ _ _ _ st h=>wpAny_pyIter_listiter st h
theorem nQ {P:Program}{w:World}{K:PySem.W.Frag}{tg:Expr} (it:Addr) (lo:Int) (n:Nat):yz P w K tg (Itr lo n) [it] it (fun i h=>IsRangeIter h it (lo+(i:Nat)*1) ((n:Int) - (i:Nat)) 1) where
 mem:=by simp
 obj := fun i h st b hb=>by
  have e:b=it:=by simpa using hb
  subst e
  exact ⟨_,st,fun v z=>by
   have z':Data.fields _=Data.cell v:=z
   cases z'⟩
 keep:=fun i h h' st k=>k it (by simp) _ st
 item:=by
  intro X hP hw hK hc i pins s σ H E I hf st hg
  subst hP hw hK
  obtain ⟨f0,f1,f2,f3,f4,f5⟩:=hf it (by simp)
  have W:=Walks.range (prog:=X.prog) (w:=X.w) (I.ok.hd hc) it lo 1 n
  refine W.item i s _ _ hg st fun v h' tk hv st' kk=>?_
  obtain ⟨t,rfl⟩:=hv
  have I1:Inv X pins σ H { s with heap:=h',toks:=tk }:=I.turned (fun b o hb e=>kk b o (by simpa using hb) e) f0 f1 f3 f4 f5
  refine ⟨_,rfl,xL (s:={ s with heap:=h',toks:=tk }) (n := "range_iterator") st' rfl rfl (by decide) ⟨.int (lo+i),H,I1,⟨t,?_⟩,⟨rfl,rfl⟩,st',fun b hb=>(hf b hb).1⟩⟩
  rw [Int.mul_one]
 done:=by
  intro X hP hw hK hc i pins s σ H E I hf st hg
  subst hP hw hK
  obtain ⟨f0,f1,f2,f3,f4,f5⟩:=hf it (by simp)
  exact wpAny_pyNext_range_end (I.ok.hd hc) st (by have:n≤i:=hg;omega) fun h' eb=>⟨rfl,I.turned (t':=s.toks) (fun b o hb e=>eb b o hb e) f0 f1 f3 f4 f5⟩
 self:=fun _ _ _ _ _ st h=>wpAny_pyIter_rangeiter st h
section
variable {X:Cx}{tg:Expr}
noncomputable def An (K:PySem.W.Frag) (tl:TE):TI:=fun σ H R=>tl σ H fun x H1=>∃ a,x=.ref a∧(∃ xs,SqL K H1 a xs)∧R (Itl K a) H1
theorem wX {l:Expr}{tl:TE} (hl:PE X l tl):PI X tg l (An X.K tl):=by
 intro pins s σ H R I h
 refine thn (hl pins s σ H _ I h) fun v s1 ⟨x,H1,I1,r1,q1⟩=>?_
 obtain ⟨a,e,⟨xs,hq⟩,q⟩:=q1
 subst e
 cases r1
 obtain ⟨its,rv,p,hz⟩:=I1.list hq
 refine wpAny_pyIter_list p.isList ?_
 refine ⟨s1.heap.objs.size,[s1.heap.objs.size],_,_,H1,rfl,I1.kept (t':=s1.toks) fun b o e=>DU _ e,pf a _,⟨_,D8 _ rfl,rfl,rfl⟩,fun b hb=>?_,q⟩
 have e:b=s1.heap.objs.size:=by simpa using hb
 subst e
 exact I1.fpOk (D2 _) (I1.hok.fresh (D2 _))
theorem sT {pins:List (Addr×Obj)}{σ:St}{H:Hp}{s:Shared}{R:It→Hp→Prop}{E:Value→Shared→Prop}{lo hi:Int}{t u v:Tok}{tk:Nat} (I:Inv X pins σ H s) (h1:-(2 ^ 62)≤lo) (h2:lo<2 ^ 62) (h3:-(2 ^ 62)≤hi) (h4:hi<2 ^ 62)
  (q : R (Itr lo (hi - lo).toNat) H):wpAny (model X.prog X.w) X.A (pyIter (.ref s.heap.objs.size)) (PIE X pins σ tg R) E { s with heap:=s.heap.push { cls:=.type "range",data:=.fields #[.int lo t,.int hi u,.int 1 v] },toks:=tk }:=by
 refine wpAny_pyIter_range (IsRange.new ..) (small_one h1 h2 h3 h4) ?_
 have I1:Inv X pins σ H { s with heap:=s.heap.push { cls:=.type "range",data:=.fields #[.int lo t,.int hi u,.int 1 v] },toks:=tk }:=I.kept fun b o e=>DU _ e
 refine ⟨(s.heap.push { cls:=.type "range",data:=.fields #[.int lo t,.int hi u,.int 1 v] }).objs.size,[(s.heap.push { cls:=.type "range",data:=.fields #[.int lo t,.int hi u,.int 1 v] }).objs.size],_,_,H,rfl,
  I1.kept (t':=tk) fun b o e=>DU _ e,nQ _ lo (hi - lo).toNat,?_,fun b hb=>?_,q⟩
 ·have e1:lo+((0:Nat):Int)*1=lo:=by simp
  have e2:(((hi - lo).toNat:Nat):Int) - ((0:Nat):Int)=Builtin.Range.rangeSize lo hi 1:=by rw[rangeSize_one];split <;> omega
  show IsRangeIter _ _ (lo+((0:Nat):Int)*1) ((((hi - lo).toNat:Nat):Int) - ((0:Nat):Int)) 1
  rw [e1,e2]
  exact D8 _ rfl
 ·have e:b=(s.heap.push { cls:=.type "range",data:=.fields #[.int lo t,.int hi u,.int 1 v] }).objs.size:=by simpa using hb
  subst e
  exact I1.fpOk (D2 _) (I1.hok.fresh (D2 _))
noncomputable def B6 (ta:TA):TI:=fun σ H R=>ta σ H fun vs H1=>∃ j:Int,vs=[.int j]∧-(2 ^ 62)≤j∧j<2 ^ 62∧R (Itr 0 j.toNat) H1
theorem p9 {a:Expr}{ta:TA}{p pos:Pos} (hg:Gl X "range") (hm:X.mg "range" = none) (ha:PA X [a] ta) (hs:starEach [a] X.env=[(false,eval a X.env)]:=by rfl):PI X tg (.Call (.Name "range" p) [a] [] pos) (B6 ta):=by
 intro pins s σ H R I h
 refine Call_ (gq I hg hm boot_range (PyProof.Rows.callWith_type1 (thn (ha pos pins s σ H _ I h) fun us s1 ⟨vs,H1,I1,r1,q1⟩=>?_) hs rfl))
 obtain ⟨j,e,q1,q2,q⟩:=q1
 subst e
 cases r1 with
 | cons r rr =>
  cases rr
  obtain ⟨t,rfl⟩:=r
  exact call_range_1 (sT I1 (by omega) (by omega) q1 q2 (by simpa using q))
noncomputable def C7 (wi:TI) (g:TG) (tb:TS):TS:=fun D σ H=>wi σ H fun J H1=>∃ W:Nat→Nat→St→Hp→Prop,(∃ m,W 0 m σ H1)∧∀ i m σ H,W i m σ H →
 (J.stop i H∧D.nx σ H)∨(J.go i H∧∃ N:St→Hp→Prop,(∀ σ' H',N σ' H'→∃ m',m'<m∧W (i+1) m' σ' H')∧∀ x H',J.yld i H x H'→g x σ H' fun σ2 H2=>tb { D with nx:=N,ct:=N,bk:=D.nx } σ2 H2)
noncomputable def eZ (fp:List Addr) (h:Heap):List (Addr×Obj):=fp.filterMap fun b=>(h.get? b).map fun o=>(b,o)
theorem dE {fp:List Addr}{h:Heap}{b:Addr}{o:Obj} (hb:b∈fp) (e:h.get? b=some o):(b,o)∈eZ fp h:=List.mem_filterMap.mpr ⟨b,hb,by rw[e];rfl⟩
theorem jE {fp:List Addr}{h:Heap}{p:Addr×Obj} (hp:p∈eZ fp h):p.1∈fp∧h.get? p.1=some p.2:=by
 obtain ⟨b,hb,e⟩:=List.mem_filterMap.mp hp
 cases q:h.get? b with
 | none=>rw[q] at e;cases e
 | some o =>
  rw [q] at e
  have e':(b,o)=p:=Option.some.inj e
  subst e'
  exact ⟨hb,q⟩
theorem Inv.pinned {pins:List (Addr×Obj)}{σ:St}{H:Hp}{s:Shared}{fp:List Addr} (I:Inv X pins σ H s) (hf:∀ b∈fp,fE X pins H b) (ho:∀ b∈fp,∃ o,s.heap.get? b=some o∧∀ v,o.data≠.cell v):Inv X (pins++eZ fp s.heap) σ H s :=
 I.pins_of fun p hp=>(DQ.mp hp).elim (fun z=>I.pin p (DL _ z)) fun z=>by
  obtain ⟨hb,e⟩:=jE z
  obtain ⟨f0,f1,f2,_⟩:=hf p.1 hb
  obtain ⟨o,e',d⟩:=ho p.1 hb
  rw [e] at e';cases e'
  exact ⟨e,f0,f1,f2,d⟩
theorem Inv.unpinned {pins pl:List (Addr×Obj)}{σ:St}{H:Hp}{s:Shared} (I:Inv X (pins++pl) σ H s):Inv X pins σ H s:=I.pins_of fun p hp=>I.pin p (DL _ (DP _ hp))
theorem vg {iter:Expr}{body:List Stmt}{wi:TI}{g:TG}{tb:TS}{pos:Pos} (hp:PassesOwn (model X.prog X.w) X.A X.env X.xe) (hc:X.calm=true) (hi:PI X tg iter wi) (hg:PG X tg g) (hb:PSs X body tb)
  (hs:∀ x,foldedSetIterable iter X.env x=pure x:=by intro _;rfl):PS X (.For tg iter body [] pos) (C7 wi g tb):=by
 intro pins s σ H D I h
 refine wpAny_For (thn (hi pins s σ H _ I h) fun v s1 h1=>thn h1 fun itv s2 h2=>?_) hs
 obtain ⟨it,fp,tn,J,H2,e,I2,T,st2,f2,W,⟨m0,w0⟩,turn⟩:=h2
 subst e
 have stat:∀ {H':Hp},(∀ b∈fp,H' b=none)→∀ b∈fp,fE X pins H' b:=fun hn b hb=>⟨hn b hb,(f2 b hb).2⟩
 refine codeAny_forLoop_any (fun n s'=>∃ i σ' H',Inv X pins σ' H' s'∧tn i s'.heap∧(∀ b∈fp,H' b=none)∧W i n σ' H') ?_ m0 ⟨0,σ,H2,I2,st2,fun b hb=>(f2 b hb).1,w0⟩
 rintro n s3 ⟨i,σ3,H3,I3,st3,fr3,w3⟩
 rcases turn i n σ3 H3 w3 with ⟨stop,qn⟩|⟨go,N,hN,step⟩
 ·refine wpAny_passesOwn hp (thn (T.done X rfl rfl rfl hc i pins s3 σ3 H3 X.xe I3 (stat fr3) st3 stop) fun r s4 ⟨hr,I4⟩=>?_)
  subst hr
  exact wpAny_execs_nil ⟨σ3,H3,I4,qn⟩
 ·refine wpAny_passesOwn hp (thn (T.item X rfl rfl rfl hc i pins s3 σ3 H3 X.xe I3 (stat fr3) st3 go) fun r s4 ⟨u,hr,h4⟩=>?_)
  subst hr
  refine wpAny_passesOwn hp (thn h4 fun _ s5 ⟨x,H5,I5,r5,y5,st5,fr5⟩=>?_)
  have I5':=I5.pinned (stat fr5) (T.obj _ _ st5)
  refine wpAny_passesOwn hp (thn (hg _ s5 σ3 H5 x u _ I5' r5 (step x H5 y5)) fun _ s6 ⟨σ6,H6,I6,q6⟩=>?_)
  refine wpAny_passesOwn hp (thn (hb _ s6 σ6 H6 _ I6 q6) fun f s7 q7=>?_)
  have again:∀ {σ7:St}{H7:Hp},Inv X (pins++eZ fp s5.heap) σ7 H7 s7→N σ7 H7→∃ m,m<n∧∃ i σ' H',Inv X pins σ' H' s7∧tn i s7.heap∧(∀ b∈fp,H' b=none)∧W i m σ' H':=fun {σ7 H7} I7 n7=>by
   obtain ⟨m',hm,w7⟩:=hN σ7 H7 n7
   refine ⟨m',hm,i+1,σ7,H7,I7.unpinned,T.keep _ _ _ st5 fun b hb o e=>(I7.pin (b,o) (DL _ (DL _ (dE hb e)))).1,fun b hb=>?_,w7⟩
   obtain ⟨o,e,d⟩:=T.obj _ _ st5 b hb
   exact (I7.pin (b,o) (DL _ (DL _ (dE hb e)))).2.1
  cases f with
  | next=>obtain⟨σ7,H7,I7,n7⟩:=q7;exact again I7 n7
  | cont=>obtain⟨σ7,H7,I7,n7⟩:=q7;exact again I7 n7
  | brk=>obtain⟨σ7,H7,I7,q7⟩:=q7;exact⟨σ7,H7,I7.unpinned,q7⟩
  | ret v=>obtain⟨x7,σ7,H7,I7,r7,q7⟩:=q7;exact⟨x7,σ7,H7,I7.unpinned,r7,q7⟩
end
noncomputable abbrev R2:=V→V→Hp→VK→Prop
noncomputable def OpR (X:Cx) (f:Value→Value→Sem Value) (r:R2):Prop :=
 ∀ (pins:List (Addr×Obj)) (s:Shared) (σ:St) (H:Hp) (x y:V) (v u:Value) (Q:VK),Inv X pins σ H s→bz x v→bz y u→r x y H Q →
  wpAny (model X.prog X.w) X.A (f v u) (EP X pins σ Q) X.xe s
noncomputable def UnR (X:Cx) (f:Value→Sem Value) (r:V→Hp→VK→Prop):Prop :=
 ∀ (pins:List (Addr×Obj)) (s:Shared) (σ:St) (H:Hp) (x:V) (v:Value) (Q:VK),Inv X pins σ H s→bz x v→r x H Q →
  wpAny (model X.prog X.w) X.A (f v) (EP X pins σ Q) X.xe s
noncomputable def c9 (X:Cx) (f:Value) (r:List V→Hp→VK→Prop):Prop :=
 ∀ (pins:List (Addr×Obj)) (s:Shared) (σ:St) (H:Hp) (xs:List V) (us:List Value) (Q:VK),Inv X pins σ H s→aK xs us→r xs H Q →
  wpAny (model X.prog X.w) X.A (call f us) (EP X pins σ Q) X.xe s
noncomputable def DC (X:Cx) (r:V→Hp→(Bool→Hp→Prop)→Prop):Prop :=
 ∀ (pins:List (Addr×Obj)) (s:Shared) (σ:St) (H:Hp) (x:V) (v:Value) (Q:Bool→Hp→Prop),Inv X pins σ H s→bz x v→r x H Q →
  wpAny (model X.prog X.w) X.A (truthy v) (TP X pins σ Q) X.xe s
noncomputable def tOp (r:R2) (ta tb:TE):TE:=fun σ H Q=>ta σ H fun x H1=>tb σ H1 fun y H2=>r x y H2 Q
noncomputable def tUn (r:V→Hp→VK→Prop) (ta:TE):TE:=fun σ H Q=>ta σ H fun x H1=>r x H1 Q
noncomputable def rI (C:Int→Int→Prop) (g:Int→Int→V):R2:=fun x y H Q=>∃ i j,x=.int i∧y=.int j∧C i j∧Q (g i j) H
noncomputable def rI0 (g:Int→Int→V):R2:=fun x y H Q=>∃ i j,x=.int i∧y=.int j∧Q (g i j) H
noncomputable def rU (g:Int→V):V→Hp→VK→Prop:=fun x H Q=>∃ i,x=.int i∧Q (g i) H
section
variable {X:Cx}{a b c:Expr}{ta tb tc:TE}{pos:Pos}
theorem Cu (ha:PE X a ta) (hb:PE X b tb) {pins:List (Addr×Obj)}{s:Shared}{σ:St}{H:Hp}{R:V→V→Hp→Prop} (I:Inv X pins σ H s)
  (h : ta σ H fun x H1=>tb σ H1 fun y H2=>R x y H2) {Q:Value→Shared→Prop}{f:Value→Value→Sem Value}
  (hf:∀ v u s2 x y H2,Inv X pins σ H2 s2→bz x v→bz y u→R x y H2→wpAny (model X.prog X.w) X.A (f v u) Q X.xe s2) :
  wpAny (model X.prog X.w) X.A (eval a X.env) (fun v s₁=>wpAny (model X.prog X.w) X.A (eval b X.env) (fun u s₂=>wpAny (model X.prog X.w) X.A (f v u) Q X.xe s₂) X.xe s₁) X.xe s:=by
 refine thn (ha pins s σ H _ I h) fun v s1 ⟨x,H1,I1,r1,q1⟩=>?_
 refine thn (hb pins s1 σ H1 _ I1 q1) fun u s2 ⟨y,H2,I2,r2,q2⟩=>?_
 exact hf v u s2 x y H2 I2 r1 r2 q2
theorem xb {op:Operator}{r:R2} (ho:OpR X (binaryOp op) r) (ha:PE X a ta) (hb:PE X b tb):PE X (.BinOp a op b pos) (tOp r ta tb):=by
 intro pins s σ H Q I h
 exact wpAny_BinOp (Cu ha hb I h fun v u s2 x y H2 I2 rx ry q=>ho pins s2 σ H2 x y v u Q I2 rx ry q)
theorem zE {op:UnaryOp}{r:V→Hp→VK→Prop} (ho:UnR X (unaryOp op) r) (ha:PE X a ta):PE X (.UnaryOp op a pos) (tUn r ta):=by
 intro pins s σ H Q I h
 exact UnaryOp_ (thn (ha pins s σ H _ I h) fun v s1 ⟨x,H1,I1,r1,q1⟩=>ho pins s1 σ H1 x v Q I1 r1 q1)
theorem opI {f:Value→Value→Sem Value}{C:Int→Int→Prop}{g:Int→Int→Int}
  (rule:∀ (i j:Int) (t u:Tok) (s:Shared) (Q:Value→Shared→Prop) (E:Value→Shared→Prop),C i j→Q (.int (g i j) s.toks) { s with toks:=s.toks+1 }→wpAny (model X.prog X.w) X.A (f (.int i t) (.int j u)) Q E s) :
  OpR X f (rI C fun i j=>.int (g i j)):=by
 intro pins s σ H x y v u Q I rx ry h
 obtain ⟨i,j,rfl,rfl,hc,q⟩:=h
 obtain ⟨t,rfl⟩:=rx
 obtain ⟨t',rfl⟩:=ry
 exact rule i j t t' s _ _ hc ⟨.int (g i j),H,I.tok _,⟨_,rfl⟩,q⟩
theorem CH {f:Value→Value→Sem Value}{g:Int→Int→Int}
  (rule:∀ (i j:Int) (t u:Tok) (s:Shared) (Q:Value→Shared→Prop) (E:Value→Shared→Prop),Q (.int (g i j) s.toks) { s with toks:=s.toks+1 }→wpAny (model X.prog X.w) X.A (f (.int i t) (.int j u)) Q E s) :
  OpR X f (rI0 fun i j=>.int (g i j)):=by
 intro pins s σ H x y v u Q I rx ry h
 obtain ⟨i,j,rfl,rfl,q⟩:=h
 obtain ⟨t,rfl⟩:=rx
 obtain ⟨t',rfl⟩:=ry
 exact rule i j t t' s _ _ ⟨.int (g i j),H,I.tok _,⟨_,rfl⟩,q⟩
theorem BS {f:Value→Value→Sem Value}{g:Int→Int→Bool}
  (rule:∀ (i j:Int) (t u:Tok) (s:Shared) (Q:Value→Shared→Prop) (E:Value→Shared→Prop),Q (.bool (g i j)) s→wpAny (model X.prog X.w) X.A (f (.int i t) (.int j u)) Q E s) :
  OpR X f (rI0 fun i j=>.bl (g i j)):=by
 intro pins s σ H x y v u Q I rx ry h
 obtain ⟨i,j,rfl,rfl,q⟩:=h
 obtain ⟨t,rfl⟩:=rx
 obtain ⟨t',rfl⟩:=ry
 exact rule i j t t' s _ _ ⟨.bl (g i j),H,I,rfl,q⟩
noncomputable def DJ (i j:Int):Prop:=0<j∧j<1073741824
noncomputable def AW (i j:Int):Prop:=(-(2 ^ 64)<i∧i<2 ^ 64)∨(-(2 ^ 64)<j∧j<2 ^ 64)
theorem AW.ok {i j:Int} (h:AW i j):IntMulOk i j:=by
 rcases h with ⟨h1,h2⟩|⟨h1,h2⟩
 ·exact .of_left (intBits_le_64 h1 h2)
 ·exact .of_right (intBits_le_64 h1 h2)
theorem bH:OpR X (binaryOp .Add) (rI0 fun i j=>.int (i+j)):=CH fun _ _ _ _ _ _ _ q=>add_int q
theorem mL:OpR X (binaryOp .Sub) (rI0 fun i j=>.int (i - j)):=CH fun _ _ _ _ _ _ _ q=>sub_int q
theorem ie:OpR X (binaryOp .Mult) (rI AW fun i j=>.int (i*j)):=opI fun _ _ _ _ _ _ _ hc q=>mul_int q hc.ok
theorem cG:OpR X (binaryOp .FloorDiv) (rI DJ fun i j=>.int (i / j)):=opI fun i j _ _ _ _ _ hc q=>by
 have h1:(0:Int)<j:=hc.1
 have h2:j<1073741824:=hc.2
 exact floordiv_int (by omega) (by rw[Int.fdiv_eq_ediv_of_nonneg i (by omega)];exact q) (.inl (PyProof.noPylong_small (by omega)))
theorem aV:OpR X (binaryOp .Mod) (rI (fun _ j=>0<j) fun i j=>.int (i % j)):=opI fun i j _ _ _ _ _ hc q=>by
 have h1:(0:Int)<j:=hc
 exact mod_int' (by omega) (by rw[Int.fmod_eq_emod_of_nonneg i (by omega)];exact q)
theorem unI {f:Value→Sem Value}{g:Int→Int}
  (rule:∀ (i:Int) (t:Tok) (s:Shared) (Q:Value→Shared→Prop) (E:Value→Shared→Prop),Q (.int (g i) s.toks) { s with toks:=s.toks+1 }→wpAny (model X.prog X.w) X.A (f (.int i t)) Q E s) :
  UnR X f (rU fun i=>.int (g i)):=by
 intro pins s σ H x v Q I rx h
 obtain ⟨i,rfl,q⟩:=h
 obtain ⟨t,rfl⟩:=rx
 exact rule i t s _ _ ⟨.int (g i),H,I.tok _,⟨_,rfl⟩,q⟩
theorem jk:UnR X (unaryOp .USub) (rU fun i=>.int (-i)):=unI fun _ _ _ _ _ q=>neg_int q
end
noncomputable def CB:V→V→Bool
 | .non,.non=>true|.non,.int _=>true|.int _,.non=>true|.non,.bl _=>true|.bl _,.non=>true|.non,.str _=>true|.str _,.non=>true
 | .int _,.int _=>true|.bl _,.bl _=>true|.str _,.str _=>true|.byt _,.byt _=>true
 | .int _,.str _=>true|.str _,.int _=>true|.bl _,.str _=>true|.str _,.bl _=>true
 | _,_=>false
noncomputable def rEq:R2:=fun x y H Q=>CB x y=true∧Q (.bl (decide (x=y))) H
noncomputable def rNe:R2:=fun x y H Q=>CB x y=true∧Q (.bl (!decide (x=y))) H
theorem rm {i j:Int}:decide (V.int i=V.int j)=(i==j):=by
 rw [EV]
 simp
theorem vN {i j:Bool}:decide (V.bl i=V.bl j)=(i==j):=by
 rw [EV]
 simp
theorem rh {i j:Str}:decide (V.str i=V.str j)=(i==j):=by
 rw [EV]
 simp
theorem rn {i j:Array UInt8}:decide (V.byt i=V.byt j)=(i.toList==j.toList):=by
 rw [EV]
 cases i
 cases j
 simp
section
variable {X:Cx}{a b c:Expr}{ta tb tc:TE}{pos:Pos}
theorem aJ {pins:List (Addr×Obj)}{σ:St}{H:Hp}{s:Shared}{Q:VK}{k k':Bool} (I:Inv X pins σ H s) (q:Q (.bl k) H) (e:k=k'):EP X pins σ Q (.bool k') s:=by
 subst e
 exact ⟨.bl k,H,I,rfl,q⟩
theorem ou:OpR X (compareOp .Eq) rEq:=by
 intro pins s σ H x y v u Q I rx ry h
 obtain ⟨hs,q⟩:=h
 cases x with
 | non =>
  cases rx
  cases y with
  | non=>cases ry;exact PySem.EqNone.eq_none_none (aJ I q (by simp))
  | bl j=>cases ry;exact PySem.EqNone.eq_none_bool (aJ I q (by simp))
  | int j=>obtain⟨t',rfl⟩:=ry;exact PySem.EqNone.eq_none_int (aJ I q (by simp))
  | str j=>obtain⟨t',rfl⟩:=ry;exact PySem.EqNone.eq_none_str (aJ I q (by simp))
  | _=>exact absurd (show false=true from hs) Ea
 | bl i =>
  cases rx
  cases y with
  | non=>cases ry;exact PySem.EqNone.eq_bool_none (aJ I q (by simp))
  | bl j=>cases ry;exact eq_bool (aJ I q vN)
  | str j=>obtain⟨t',rfl⟩:=ry;exact PySem.EqMixed.eq_bool_str (aJ I q (by simp))
  | _=>exact absurd (show false=true from hs) Ea
 | int i =>
  obtain ⟨t,rfl⟩:=rx
  cases y with
  | non=>cases ry;exact PySem.EqNone.eq_int_none (aJ I q (by simp))
  | int j=>obtain⟨t',rfl⟩:=ry;exact eq_int (aJ I q rm)
  | str j=>obtain⟨t',rfl⟩:=ry;exact PySem.EqMixed.eq_int_str (aJ I q (by simp))
  | _=>exact absurd (show false=true from hs) Ea
 | str i =>
  obtain ⟨t,rfl⟩:=rx
  cases y with
  | non=>cases ry;exact PySem.EqNone.eq_str_none (aJ I q (by simp))
  | bl j=>cases ry;exact PySem.EqMixed.eq_str_bool (aJ I q (by simp))
  | int j=>obtain⟨t',rfl⟩:=ry;exact PySem.EqMixed.eq_str_int (aJ I q (by simp))
  | str j=>obtain⟨t',rfl⟩:=ry;exact eq_str (aJ I q rh)
  | _=>exact absurd (show false=true from hs) Ea
 | byt i =>
  obtain ⟨t,rfl⟩:=rx
  cases y with
  | byt j=>obtain⟨t',rfl⟩:=ry;exact PySem.W.eq_bytes (aJ I q rn)
  | _=>exact absurd (show false=true from hs) Ea
 | _=>cases y <;> exact absurd (show false=true from hs) Ea
theorem xk:OpR X (compareOp .NotEq) rNe:=by
 intro pins s σ H x y v u Q I rx ry h
 obtain ⟨hs,q⟩:=h
 cases x with
 | non =>
  cases rx
  cases y with
  | non=>cases ry;exact PySem.EqNone.ne_none_none (aJ I q (by simp))
  | bl j=>cases ry;exact PySem.EqNone.ne_none_bool (aJ I q (by simp))
  | int j=>obtain⟨t',rfl⟩:=ry;exact PySem.EqNone.ne_none_int (aJ I q (by simp))
  | str j=>obtain⟨t',rfl⟩:=ry;exact PySem.EqNone.ne_none_str (aJ I q (by simp))
  | _=>exact absurd (show false=true from hs) Ea
 | bl i =>
  cases rx
  cases y with
  | non=>cases ry;exact PySem.EqNone.ne_bool_none (aJ I q (by simp))
  | bl j=>cases ry;exact ne_bool (aJ I q (congrArg not vN))
  | str j=>obtain⟨t',rfl⟩:=ry;exact PySem.EqMixed.ne_bool_str (aJ I q (by simp))
  | _=>exact absurd (show false=true from hs) Ea
 | int i =>
  obtain ⟨t,rfl⟩:=rx
  cases y with
  | non=>cases ry;exact PySem.EqNone.ne_int_none (aJ I q (by simp))
  | int j=>obtain⟨t',rfl⟩:=ry;exact ne_int (aJ I q (congrArg not rm))
  | str j=>obtain⟨t',rfl⟩:=ry;exact PySem.EqMixed.ne_int_str (aJ I q (by simp))
  | _=>exact absurd (show false=true from hs) Ea
 | str i =>
  obtain ⟨t,rfl⟩:=rx
  cases y with
  | non=>cases ry;exact PySem.EqNone.ne_str_none (aJ I q (by simp))
  | bl j=>cases ry;exact PySem.EqMixed.ne_str_bool (aJ I q (by simp))
  | int j=>obtain⟨t',rfl⟩:=ry;exact PySem.EqMixed.ne_str_int (aJ I q (by simp))
  | str j=>obtain⟨t',rfl⟩:=ry;exact ne_str (aJ I q (congrArg not rh))
  | _=>exact absurd (show false=true from hs) Ea
 | byt i =>
  obtain ⟨t,rfl⟩:=rx
  cases y with
  | byt j=>obtain⟨t',rfl⟩:=ry;exact PySem.W.ne_bytes (aJ I q (congrArg not rn))
  | _=>exact absurd (show false=true from hs) Ea
 | _=>cases y <;> exact absurd (show false=true from hs) Ea
theorem tu:OpR X (compareOp .Lt) (rI0 fun i j=>.bl (decide (i<j))):=BS fun _ _ _ _ _ _ _ q=>lt_int q
theorem zN:OpR X (compareOp .LtE) (rI0 fun i j=>.bl (decide (i≤j))):=BS fun _ _ _ _ _ _ _ q=>le_int q
theorem zR:OpR X (compareOp .Gt) (rI0 fun i j=>.bl (decide (j<i))):=BS fun _ _ _ _ _ _ _ q=>gt_int q
theorem zO:OpR X (compareOp .Is) (fun x y H Q=>y=.non∧Q (.bl (decide (x=.non))) H):=by
 intro pins s σ H x y v u Q I rx ry h
 obtain ⟨rfl,q⟩:=h
 cases ry
 refine is_none_gen (aJ I q ?_)
 cases x <;> first
  | (cases rx;rfl)
  | (obtain⟨t,rfl⟩:=rx;rfl)
theorem qo:OpR X (compareOp .IsNot) (fun x y H Q=>y=.non∧Q (.bl (!decide (x=.non))) H):=by
 intro pins s σ H x y v u Q I rx ry h
 obtain ⟨rfl,q⟩:=h
 cases ry
 refine isnot_none_gen (aJ I q ?_)
 cases x <;> first
  | (cases rx;rfl)
  | (obtain⟨t,rfl⟩:=rx;rfl)
theorem OpR.or {f:Value→Value→Sem Value}{r r':R2} (h:OpR X f r) (h':OpR X f r'):OpR X f (fun x y H Q=>r x y H Q∨r' x y H Q):=by
 intro pins s σ H x y v u Q I rx ry q
 rcases q with q|q
 ·exact h pins s σ H x y v u Q I rx ry q
 ·exact h' pins s σ H x y v u Q I rx ry q
theorem bh (b:Expr) {op:CmpOp} (h:op≠.In:=by decide) (h2:op≠.NotIn:=by decide):behindInMarks op b=false:=by
 have e1:(op==CmpOp.In)=false:=by cases op <;> first|rfl|exact absurd rfl h
 have e2:(op==CmpOp.NotIn)=false:=by cases op <;> first|rfl|exact absurd rfl h2
 cases b <;> simp[behindInMarks,e1,e2]
theorem xh {op:CmpOp}{r:R2} (ho:OpR X (compareOp op) r) (ha:PE X a ta) (hb:PE X b tb) (hm:behindInMarks op b=false):PE X (.Compare a [op] [b] pos) (tOp r ta tb):=by
 intro pins s σ H Q I h
 exact wpAny_Compare1 (Cu ha hb I h fun v u s2 x y H2 I2 rx ry q=>ho pins s2 σ H2 x y v u Q I2 rx ry q) hm
noncomputable def yT (t:TE):TT:=fun σ H Q=>t σ H fun x H'=>∃ k,x=.bl k∧Q k H'
theorem wP {op:CmpOp}{r:R2} (ho:OpR X (compareOp op) r) (ha:PE X a ta) (hb:PE X b tb) (hm:behindInMarks op b=false):PT X (.Compare a [op] [b] pos) (yT (tOp r ta tb)):=by
 intro pins s σ H Q I h
 refine wpAny_isTrue_Compare1 (thn (ha pins s σ H _ I h) fun v s1 ⟨x,H1,I1,r1,q1⟩=>thn (hb pins s1 σ H1 _ I1 q1) fun u s2 ⟨y,H2,I2,r2,q2⟩ =>
  thn (ho pins s2 σ H2 x y v u _ I2 r1 r2 q2) fun c s3 ⟨z,H3,I3,r3,k,e,q3⟩=>?_) hm
 subst e
 cases r3
 exact wpAny_truthy_bool ⟨H3,I3,q3⟩
noncomputable def uR (r r':R2) (ta tb tc:TE):TE:=fun σ H Q=>ta σ H fun x H1=>tb σ H1 fun y H2=>r x y H2 fun z H3=>∃ k,z=.bl k ∧
 (if k=true then tc σ H3 fun w' H4=>r' y w' H4 Q else Q (.bl false) H3)
theorem tp {op op':CmpOp}{r r':R2} (ho:OpR X (compareOp op) r) (ho':OpR X (compareOp op') r') (ha:PE X a ta) (hb:PE X b tb) (hc:PE X c tc)
  (hm:lastMarks [op,op'] [b,c]=false:=by with_unfolding_all rfl):PE X (.Compare a [op,op'] [b,c] pos) (uR r r' ta tb tc):=by
 intro pins s σ H Q I h
 refine Compare_chain (thn (ha pins s σ H _ I h) fun v s1 ⟨x,H1,I1,r1,q1⟩=>chain_link (thn (hb pins s1 σ H1 _ I1 q1) fun u s2 ⟨y,H2,I2,r2,q2⟩ =>
  thn (ho pins s2 σ H2 x y v u _ I2 r1 r2 q2) fun d s3 ⟨z,H3,I3,r3,k,e,q3⟩=>?_)) hm
 subst e
 cases r3
 refine wpAny_truthy_bool ?_
 cases k with
 | false=>exact ite_ff ⟨.bl false,H3,I3,rfl,q3⟩
 | true=>exact ite_tt (chain_last (thn (hc pins s3 σ H3 _ I3 q3) fun w' s4 ⟨z',H4,I4,r4,q4⟩=>ho' pins s4 σ H4 y z' u w' Q I4 r2 r4 q4))
noncomputable def Bh (K:PySem.W.Frag) (x:V) (H:Hp) (k:Bool):Prop :=
 match x with
 | .non=>k=false
 | .bl b=>k=b
 | .int i=>k=(i != 0)
 | .str y=>y.length≤sizeLine∧k=((y.length:Int) != 0)
 | .byt y=>y.size≤sizeLine∧k=((y.size:Int) != 0)
 | .ref p=>(∃ xs,SqL K H p xs∧k=!xs.isEmpty)∨(∃ xs,SqT K H p xs∧k=!xs.isEmpty)∨∃ kvs,H p=some (.dK kvs)∧k=!kvs.isEmpty
 | _=>False
theorem oK {κ:Type}{kvs:List (κ×V)}{vs:List (κ×Value)} (r:KV kvs vs):(!vs.isEmpty)=!kvs.isEmpty:=by
 cases r <;> rfl
theorem ik {xs:List V}{its:List Value} (r:aK xs its):(!its.toArray.isEmpty)=!xs.isEmpty:=by
 cases r <;> simp
theorem ig:(sizeLine:Nat)<2 ^ 63:=by rw[sizeLine_eq];decide
theorem yR:DC X (fun x H Q=>∃ k,Bh X.K x H k∧Q k H):=by
 intro pins s σ H x v Q I rx h
 obtain ⟨k,e,q⟩:=h
 have hl:=ig
 have hs:sizeLine=16777216:=sizeLine_eq
 cases x with
 | non =>
  cases rx
  have e':k=false:=e
  subst e'
  exact truthy_none ⟨H,I,q⟩
 | bl b =>
  cases rx
  have e':k=b:=e
  subst e'
  exact wpAny_truthy_bool ⟨H,I,q⟩
 | int i =>
  obtain ⟨t,rfl⟩:=rx
  have e':k=(i != 0):=e
  subst e'
  exact PySem.P.truthy_int ⟨H,I,q⟩
 | str y =>
  obtain ⟨t,rfl⟩:=rx
  obtain ⟨hy,e'⟩:y.length≤sizeLine∧k=((y.length:Int) != 0):=e
  subst e'
  exact PySem.P.truthy_str (by omega) ⟨H,I.tok _,q⟩
 | byt y =>
  obtain ⟨t,rfl⟩:=rx
  obtain ⟨hy,e'⟩:y.size≤sizeLine∧k=((y.size:Int) != 0):=e
  subst e'
  exact PySem.W.truthy_bytes (by omega) ⟨H,I.tok _,q⟩
 | ref p =>
  cases rx
  have e':(∃ xs,SqL X.K H p xs∧k=!xs.isEmpty)∨(∃ xs,SqT X.K H p xs∧k=!xs.isEmpty)∨∃ kvs,H p=some (.dK kvs)∧k=!kvs.isEmpty:=e
  rcases e' with ⟨xs,hx,e'⟩|⟨xs,hx,e'⟩|⟨kvs,hx,e'⟩
  ·subst e'
   obtain ⟨its,r,pl,hz⟩:=I.list hx
   have hlen:=r.length
   exact wpAny_truthy_list pl.isList (by simp only [D5];omega) ⟨H,I.tok _,by rw[ik r];exact q⟩
  ·subst e'
   obtain ⟨its,r,pl,hz⟩:=I.tuple hx
   have hlen:=r.length
   exact truthy_tuple pl (by simp only [D5];omega) ⟨H,I.tok _,by rw[ik r];exact q⟩
  ·subst e'
   obtain ⟨hz,hS,vs,r,m⟩:kvs.length≤sizeLine∧(p==sysModules)=false∧∃ vs,KV kvs vs∧s.heap.DictOf (lq X.prog X.w) p vs:=I.hok p _ hx
   have hlen:kvs.length=vs.length:=Paired.length r
   exact wpAny_truthy_dict hS m (by omega) ⟨H,I.tok _,by rw[oK r];exact q⟩
 | _=>exact (show False from e).elim
theorem sW (ha:PE X a ta) (he:∀ whole,isTrue a X.env whole=(do let v ←whole;standAt a.pos;holding [v] (truthy v))) :
  PT X a (fun σ H Q=>ta σ H fun x H'=>∃ k,Bh X.K x H' k∧Q k H'):=by
 intro pins s σ H Q I h
 exact isTrue_plain (thn (ha pins s σ H _ I h) fun v s1 ⟨x,H1,I1,r1,q1⟩=>yR pins s1 σ H1 x v Q I1 r1 q1) (he _)
theorem ji {x:V}{us:List Value} (r:aK [x] us):∃ u,us=[u]∧bz x u:=by
 cases r with
 | cons r1 r2=>cases r2;exact⟨_,rfl,r1⟩
theorem pe {x y:V}{us:List Value} (r:aK [x,y] us):∃ u w',us=[u,w']∧bz x u∧bz y w':=by
 cases r with
 | cons r1 r2 =>
  cases r2 with
  | cons r3 r4=>cases r4;exact⟨_,_,rfl,r1,r3⟩
theorem gF (hc:X.calm=true):c9 X (.builtin "min") (fun xs H Q=>∃ i j,xs=[.int i,.int j]∧Q (.int (if j<i then j else i)) H):=by
 intro pins s σ H xs us Q I r h
 obtain ⟨i,j,rfl,q⟩:=h
 obtain ⟨u,w',rfl,⟨t,rfl⟩,⟨t',rfl⟩⟩:=pe r
 refine min_two_ints (I.ok.hd hc) fun h' tk k=>⟨_,H,I.kept k,?_,q⟩
 by_cases hj:j<i
 ·rw [if_pos hj,if_pos hj];exact⟨_,rfl⟩
 ·rw [if_neg hj,if_neg hj];exact⟨_,rfl⟩
end
structure CU (h:Heap) (x dx C:Addr) (mA:Str→Option Value):Prop where
 obj:h.get? x=some (PySem.W.instObj C dx)
 ns : h.Ns1 dx mA
 ne : dx≠x
theorem qA {h:Heap}{dx:Addr}{mA:Str→Option Value} (n:h.Ns1 dx mA):∃ od,h.get? dx=some od∧∀ name,PySem.W.lookIn name od=some (mA name):=by
 obtain ⟨o,es,ep,ho,hd,hk,_,hm⟩:=n
 refine ⟨o,ho,fun name=>?_⟩
 have e:=hm name
 unfold nsFind findBy at e
 rw [←Array.find?_toList] at e
 unfold PySem.W.lookIn
 rw [hd]
 dsimp only
 split
 ·rename_i y q
  rw [q] at e
  exact congrArg some e
 ·rename_i q
  rw [q] at e
  have a:es.toList.any (·.refKey)=false:=by
   rw [List.any_eq_false]
   intro y hy
   obtain ⟨z,t,hkey⟩:=hk y (Array.mem_toList_iff.mp hy)
   simp [DictEntry.refKey,hkey]
  have a':¬es.toList.any (·.refKey)=true:=by rw[a];exact Ea
  rw [if_neg a']
  exact congrArg some e
theorem CU.look {h:Heap}{x dx C:Addr}{mA:Str→Option Value} (I:CU h x dx C mA):∃ od,PySem.W.InstAt h x (PySem.W.instObj C dx) C (some od)∧∀ name,PySem.W.lookIn name od=some (mA name) :=
 let ⟨od,ho,hl⟩:=qA I.ns
 ⟨od,⟨I.obj,rfl,rfl,ho⟩,hl⟩
section
variable {prog:Program}{w:World}{A:Around}{E:Value→Shared→Prop}{s:Shared}{K:PySem.W.Frag}{x dx C f:Addr}{mA:Str→Option Value}{name:Str}{v:Value}
end
section
variable {P:Program}{w:World}{H H':Hp}{h h':Heap}{a C dx:Addr}{fs fs':List (Str×V)}
end
structure Cls (K:PySem.W.Frag) (C:Addr):Prop where
 pg : PySem.W.plainGet K C Str.empty=true
 hd : PySem.W.hasDictIn K C=true
 po : PySem.W.plainOver K C=true
 sa : PySem.W.findIn K (.ref C) "__setattr__" = some (some (.builtin "object.__setattr__"))
theorem Cls.get {K:PySem.W.Frag}{C:Addr} (c:Cls K C) (f:Str):PySem.W.plainGet K C f=true:=c.pg
section
variable {X:Cx}{pins:List (Addr×Obj)}{σ:St}{H:Hp}{s:Shared}{a C dx:Addr}{fs:List (Str×V)}{f:Str}{v:V}{A:Around}{E:Value→Shared→Prop}
end
section
variable {X:Cx}{o e value:Expr}{f:Str}{pos pos' tpos:Pos}{ta tv:TE}
end
section
variable {X:Cx}{pins:List (Addr×Obj)}{σ:St}{H:Hp}{s:Shared}{A:Around}{E:Value→Shared→Prop}{Q:Value→Shared→Prop}{c:Value}{b:Bool}
end
structure ca (k:Nat) (A:Around):Prop where
 hd : A.handled=none
 dp : A.depth+3*k+5<recursionLimit
 un : A.units+16*k+200<cLine
theorem ca.mono {j k:Nat}{A:Around} (r:ca k A) (h:j≤k):ca j A:=⟨r.hd,by have:=r.dp;omega,by have:=r.un;omega⟩
theorem ca.deeper {k:Nat}{A:Around} (r:ca (k+1) A) (env:Env):ca k (A.deeper env) :=
 ⟨r.hd,by have:=r.dp;show A.depth+1+3*k+5<_;omega,by have:=r.un;show A.units+3+16*k+200<_;omega⟩
theorem ca.in1 {k:Nat}{A:Around} (r:ca (k+1) A):ca k A.in1 :=
 ⟨r.hd,by have:=r.dp;show A.depth+3*k+5<_;omega,by have:=r.un;show A.units+1+16*k+200<_;omega⟩
theorem oE {A:Around}{C:Addr}{us:List Value}{kw:List (Str×Value)}:(A.under (.builtin "type.__call__" ⟨.ref C::us,kw⟩)).depth=A.depth+1:=by
 first|rfl|simp[Around.under,Code.weight,Code.isCreation,Code.isGuard,Code.isCaller,Code.frames,Code.isFrame,guardIds]
theorem oC {A:Around}{C:Addr}{us:List Value}{kw:List (Str×Value)}:(A.under (.builtin "type.__call__" ⟨.ref C::us,kw⟩)).units=A.units+1:=by
 first|rfl|simp[Around.under,Code.cUnits,Code.frames,Code.isFrame]
theorem ca.make {k:Nat}{A:Around} (r:ca (k+1) A) (C:Addr) (us:List Value) (kw:List (Str×Value)):ca k (A.under (.builtin "type.__call__" ⟨.ref C::us,kw⟩)) :=
 ⟨r.hd,by have:=r.dp;rw[oE];omega,by have:=r.un;rw[oC];omega⟩
theorem ca.depth {k:Nat}{A:Around} (r:ca k A):A.depth<recursionLimit:=by have:=r.dp;omega
theorem ca.units {k:Nat}{A:Around} (r:ca k A):A.units+64<cLine:=by have:=r.un;omega
noncomputable def C4:TA:=fun _ H Q=>Q [] H
noncomputable def Bu (ta:TE) (tr:TA):TA:=fun σ H Q=>ta σ H fun x H1=>tr σ H1 fun xs H2=>Q (x::xs) H2
section
variable {X:Cx}{e:Expr}{es:List Expr}{te:TE}{t:TA}{pos:Pos}
theorem jy:PA X [] C4:=fun _ _ _ _ H Q I h=>Calls.spliced_nil ⟨[],H,I,.nil,h⟩
theorem eJ (ha:PE X e te) (hr:PA X es t) (hs:starEach (e::es) X.env=(false,eval e X.env)::starEach es X.env:=by rfl):PA X (e::es) (Bu te t):=by
 intro pos pins s σ H Q I h
 rw [hs]
 show wpAny _ _ (spliced ((false,eval e X.env)::backTo pos (starEach es X.env))) _ _ s
 refine Calls.spliced_cons (thn (ha pins s σ H _ I h) fun u s1 ⟨x,H1,I1,r1,q1⟩=>?_)
 exact thn (hr pos pins s1 σ H1 _ I1 q1) fun us s2 ⟨xs,H2,I2,r2,q2⟩=>⟨x::xs,H2,I2,.cons r1 r2,q2⟩
noncomputable def CZ (t:TA):TE:=fun σ H Q=>t σ H fun xs H1=>xs.length≤sizeLine∧∀ p,H1 p=none→Q (.ref p) (upd H1 p (.tup xs))
noncomputable def C5 (t:TA):TE:=fun σ H Q=>t σ H fun xs H1=>xs.length≤sizeLine∧∀ p,H1 p=none→Q (.ref p) (upd H1 p (.lst xs))
theorem zF {x1} (h:PA X es t):PE X (.Tuple es x1 pos) (CZ t):=by
 intro pins s σ H Q I hq
 refine wpAny_Tuple_spliced (thn (h pos pins s σ H _ I hq) fun us s1 ⟨xs,H1,I1,r,z,q⟩=>⟨by rw[←r.length];exact z,?_⟩)
 have hf:H1 s1.heap.objs.size=none:=I1.hok.fresh (D2 _)
 refine ⟨.ref s1.heap.objs.size,upd H1 s1.heap.objs.size (.tup xs),I1.laid (t':=s1.toks) (fun b u e=>DU _ e) (D2 _) ?_,rfl,q _ hf⟩
 exact ⟨z,us,r,⟨_,D8 _ rfl,rfl,_,rfl⟩⟩
theorem vj (h:PA X es t):PE X (.List es pos) (C5 t):=by
 intro pins s σ H Q I hq
 refine wpAny_List_spliced (thn (h pos pins s σ H _ I hq) fun us s1 ⟨xs,H1,I1,r,z,q⟩=>⟨by rw[←r.length];exact z,?_⟩)
 have hf:H1 s1.heap.objs.size=none:=I1.hok.fresh (D2 _)
 refine ⟨.ref s1.heap.objs.size,upd H1 s1.heap.objs.size (.lst xs),I1.laid (t':=s1.toks) (fun b u e=>DU _ e) (D2 _) ?_,rfl,q _ hf⟩
 exact ⟨z,us,0,r,D8 _ rfl⟩
end
noncomputable abbrev Sp:=List V→Hp→VK→XK→Prop
noncomputable abbrev CXT:=List Env→Hp→Shared→XK→Value→Shared→Prop
structure lQ (P:Program) (w:World) (K:PySem.W.Frag) (mg:Str→Option Value) (base:Heap) (A:Around) (outer:List Env) (s:Shared) (H:Hp):Prop where
 frames:A.frames=some outer
 mod:Mod K mg base
 bs : ∀ b o,base.get? b=some o→s.heap.get? b=some o∧H b=none
 bsz:base.objs.size≤s.heap.objs.size
 funs:s.heap.FunFrames base outer
 frf:∀ b∈frs outer,H b=none
 hok:HOk P w H s.heap
 bare:AllBare s.gens
 tab:v7 K H
noncomputable def CE (outer:List Env) (P:Program) (w:World) (H:Hp) (s:Shared) (Q:VK) (u:Value) (s':Shared):Prop :=
 ∃ v H',s'.os=s.os∧AllBare s'.gens∧Un (frs outer) [] H H' s.heap s'.heap∧HOk P w H' s'.heap∧bz v u∧Q v H'
noncomputable def CR (CX:CXT) (outer:List Env) (P:Program) (w:World) (H:Hp) (s:Shared) (Q:VK) (E:XK) (r:Result) (s':Shared):Prop :=
 match r with
 | .ok (.ret u)=>CE outer P w H s Q u s'
 | .ok _=>False
 | .error e=>CX outer H s E e s'
structure b7 (P:Program) (w:World) (K:PySem.W.Frag) (mg:Str→Option Value) (base:Heap) (CX:CXT) (k:Nat) (f:Addr) (fd:FuncData) (ps:List Str) (sp:Sp):Prop where
 len:∀ vs H Q E,sp vs H Q E→vs.length=ps.length
 run:∀ (A:Around) (outer:List Env) (s:Shared) (H:Hp) (args:Args) (us:List Value) (vs:List V) (Q:VK) (E:XK),ca k A→lQ P w K mg base A outer s H→BindsTo s fd args (ps.zip us)→aK vs us→sp vs H Q E →
  codeAny (model P w) A (.call (.ref f) args) (CR CX outer P w H s Q E) s
theorem b7.mono {P:Program}{w:World}{K:PySem.W.Frag}{mg:Str→Option Value}{base:Heap}{CX:CXT}{j k:Nat}{f:Addr}{fd:FuncData}{ps:List Str}{sp:Sp} (F:b7 P w K mg base CX j f fd ps sp) (h:j≤k) :
  b7 P w K mg base CX k f fd ps sp:=⟨F.len,fun A outer s H args us vs Q E hr=>F.run A outer s H args us vs Q E (hr.mono h)⟩
theorem b7.imp {P:Program}{w:World}{K:PySem.W.Frag}{mg:Str→Option Value}{base:Heap}{CX:CXT}{k:Nat}{f:Addr}{fd:FuncData}{ps:List Str}{sp sp':Sp} (F:b7 P w K mg base CX k f fd ps sp)
  (h : ∀ vs H Q E,sp' vs H Q E→sp vs H Q E):b7 P w K mg base CX k f fd ps sp' :=
 ⟨fun vs H Q E q=>F.len vs H Q E (h _ _ _ _ q),fun A outer s H args us vs Q E hr he hb hv hs=>F.run A outer s H args us vs Q E hr he hb hv (h _ _ _ _ hs)⟩
theorem lQ.make {P:Program}{w:World}{K:PySem.W.Frag}{mg:Str→Option Value}{base:Heap}{A:Around}{outer:List Env}{s:Shared}{H:Hp} (e:lQ P w K mg base A outer s H) (C:Addr) (us:List Value) (kw:List (Str×Value)) :
  lQ P w K mg base (A.under (.builtin "type.__call__" ⟨.ref C::us,kw⟩)) outer s H:=⟨by first|exact e.frames|(simpa [Around.under,Code.envs,Code.isFrame,pushEnvs] using e.frames),e.mod,e.bs,e.bsz,e.funs,e.frf,e.hok,e.bare,e.tab⟩
theorem lQ.in1 {P:Program}{w:World}{K:PySem.W.Frag}{mg:Str→Option Value}{base:Heap}{A:Around}{outer:List Env}{s:Shared}{H:Hp} (e:lQ P w K mg base A outer s H) :
  lQ P w K mg base A.in1 outer s H:=⟨e.frames,e.mod,e.bs,e.bsz,e.funs,e.frf,e.hok,e.bare,e.tab⟩
section
variable {X:Cx}{pins:List (Addr×Obj)}{σ:St}{H:Hp}{s s':Shared}
theorem Inv.env0 (I:Inv X pins σ H s):lQ X.prog X.w X.K X.mg X.base X.A X.stack s H :=
 ⟨I.ok.frames,I.ok.mod,I.bs,D1 I.ok.bsz I.sz,I.stack,I.stkFree,I.hok,I.bare,fun T q h=>I.base.tbls T q (I.ok.tab T q h)⟩
theorem Inv.after {Q:VK}{u:Value} (I:Inv X pins σ H s) (h:CE X.stack X.prog X.w H s Q u s'):EP X pins σ Q u s':=by
 obtain ⟨v,H',os,bare,un,hok,r,q⟩:=h
 obtain ⟨hh,g,d,t,os'⟩:=s'
 obtain rfl:os'=s.os:=os
 exact ⟨v,H',I.call (h':=hh) (g':=g) (d':=d) (t':=t) (ch:=[]) un hok bare (fun b z=>absurd z (by simp)),r,q⟩
end
noncomputable def nR (sp:Sp) (dvs:List V) (E:XK) (t:TA):TE:=fun σ H Q=>t σ H fun vs H1=>sp (vs++dvs) H1 Q E
noncomputable def br (K:PySem.W.Frag) (fd:FuncData) (ps:List Str) (ds:List Value):Prop :=
 ∀ (s:Shared) (us:List Value),K.In s.heap→(us++ds).length=ps.length→BindsTo s fd ⟨us,[]⟩ (ps.zip (us++ds))
theorem br.all {K:PySem.W.Frag}{fd:FuncData}{ps:List Str} (h:∀ us:List Value,us.length=ps.length→bindArgs fd ⟨us,[]⟩=pure (ps.zip us)):br K fd ps []:=fun s us _ hl=>by
 rw [Eh] at hl ⊢
 exact .of_eq (h us hl)
noncomputable def kx (CX:CXT) (X:Cx) (E:XK):Prop:=∀ (pins:List (Addr×Obj)) (σ:St) (H:Hp) (s:Shared) (e:Value) (s':Shared),Inv X pins σ H s→CX X.stack H s E e s'→X.xe e s'
section
variable {X:Cx}{CX:CXT}{k:Nat}{f C:Addr}{fd:FuncData}{ps:List Str}{sp:Sp}{dvs:List V}{ds:List Value}{E:XK}{x m:Str}{p pos apos:Pos}{e o:Expr}{es:List Expr}{ta:TE}{t:TA}
theorem yY {pins:List (Addr×Obj)}{σ:St}{H:Hp}{s:Shared}{Q:VK}{us:List Value}{vs:List V} (F:b7 X.prog X.w X.K X.mg X.base CX k f fd ps sp) (hr:ca k X.A) (hb:br X.K fd ps ds) (hd:aK dvs ds) (hx:kx CX X E)
  (I : Inv X pins σ H s) (r:aK vs us) (h:sp (vs++dvs) H Q E):wpAny (model X.prog X.w) X.A (call (.ref f) us) (EP X pins σ Q) X.xe s:=by
 have r2:aK (vs++dvs) (us++ds):=r.append hd
 have hl:(us++ds).length=ps.length:=by rw[←r2.length];exact F.len _ _ _ _ h
 refine wpAny_call (codeAny_mono (F.run X.A X.stack s H ⟨us,[]⟩ (us++ds) (vs++dvs) Q E hr I.env0 (hb s us I.kIn hl) r2 h) fun r s' hq=>?_)
 cases r with
 | error e=>exact hx pins σ H s e s' I hq
 | ok fl =>
  cases fl with
  | ret u=>exact I.after hq
  | next=>exact False.elim hq
  | brk=>exact False.elim hq
  | cont=>exact False.elim hq
theorem kZ (F:b7 X.prog X.w X.K X.mg X.base CX k f fd ps sp) (hr:ca k X.A) (hg:Gl X x) (hm:X.mg x=some (.ref f)) (hk:PySem.W.keepIn X.K (.ref f)=true) (hb:br X.K fd ps ds) (hd:aK dvs ds) (hx:kx CX X E)
  (ha:PA X (e::es) t) (hdb:(x==("__debug__" : Str))=false:=by decide) (he:starEach (e::es) X.env=(false,eval e X.env)::starEach es X.env:=by rfl) (hpl:(backTo pos (starEach es X.env)).any (·.1)=false:=by rfl) :
  PE X (.Call (.Name x p) (e::es) [] pos) (nR sp dvs E t):=by
 intro pins s σ H Q I h
 refine wpAny_Call_Name_kw (qB I hg hm ?_ hdb)
 refine PySem.W.callWith_K (h₀:=X.base) I.ok.mod.kin hk (thn (ha pos pins s σ H _ I h) fun us s1 ⟨vs,H1,I1,r,q⟩=>⟨I1.kIn,?_⟩) he hpl
 exact yY F hr hb hd hx I1 r q
end
section
variable {X:Cx}{CX:CXT}{k:Nat}{f C:Addr}{fd:FuncData}{ps ks:List Str}{sp:Sp}{E:XK}{x m:Str}{p pos apos kpos:Pos}{e o:Expr}{es:List Expr}{kws:List Keyword}{te ta:TE}{t tk:TA}{nm:Option Str}
variable {g:List Value→List Value→List Value}{gV:List V→List V→List V}
end
structure au (N P:List Str) (sc:Scope):Prop where
 kind:sc.kind=.function
 co : sc.isCoroutine=false
 gen:sc.isGenerator=false
 nd : N.Nodup
 pre:N.take P.length=P
 par:∀ x∈P,sc.names.lookup x=some .local∨sc.names.lookup x=some .cell
 nofree:∀ y∈sc.names,y.2≠.free
theorem kj {kindOf:Str→Option NameKind}{x:Str}:∀ {binds:List (Str×Value)}{m:Str→Option Value},(∀ v,(x,v) ∉ binds)→bindL kindOf binds m x=m x
 | [],_,_=>rfl
 | (n,v)::r,m,h=>by
  unfold bindL
  rw [kj fun w hw=>h w (D0 _ hw)]
  split
  ·have:x≠n:=by rintro rfl;exact h v DY
   simp [this]
  ·rfl
theorem km {kindOf:Str→Option NameKind}{x:Str}:∀ {binds:List (Str×Value)}{m:Str→Option Value},(∀ v,(x,v) ∉ binds)→bindC kindOf binds m x=m x
 | [],_,_=>rfl
 | (n,v)::r,m,h=>by
  unfold bindC
  rw [km fun w hw=>h w (D0 _ hw)]
  split
  ·rfl
  ·have:x≠n:=by rintro rfl;exact h v DY
   simp [this]
theorem kl {kindOf:Str→Option NameKind}{x:Str}{v:Value}:∀ {P:List Str}{vs:List Value}{i:Nat}{m:Str→Option Value},P.Nodup→P[i]? = some x→vs[i]? = some v→kindOf x=some .local →
  bindL kindOf (P.zip vs) m x=some v
 | [],_,_,_,_,h,_,_=>by simp at h
 | _::_,[],_,_,_,_,h,_=>by simp at h
 | p::P,w::vs,0,m,nd,h1,h2,hk=>by
  simp at h1 h2;subst h1;subst h2
  show bindL kindOf ((p,w)::P.zip vs) m p=_
  unfold bindL
  rw [kj fun v hv=>(Ej.mp nd).1 (Fq hv).1,if_pos hk]
  simp
 | p::P,w::vs,i+1,m,nd,h1,h2,hk=>by
  show bindL kindOf ((p,w)::P.zip vs) m x=_
  unfold bindL
  exact kl (i:=i) (Ej.mp nd).2 (by simpa using h1) (by simpa using h2) hk
theorem kn {kindOf:Str→Option NameKind}{x:Str}{v:Value}:∀ {P:List Str}{vs:List Value}{i:Nat}{m:Str→Option Value},P.Nodup→P[i]? = some x→vs[i]? = some v→kindOf x≠some .local →
  bindC kindOf (P.zip vs) m x=some v
 | [],_,_,_,_,h,_,_=>by simp at h
 | _::_,[],_,_,_,_,h,_=>by simp at h
 | p::P,w::vs,0,m,nd,h1,h2,hk=>by
  simp at h1 h2;subst h1;subst h2
  show bindC kindOf ((p,w)::P.zip vs) m p=_
  unfold bindC
  rw [km fun v hv=>(Ej.mp nd).1 (Fq hv).1,if_neg hk]
  simp
 | p::P,w::vs,i+1,m,nd,h1,h2,hk=>by
  show bindC kindOf ((p,w)::P.zip vs) m x=_
  unfold bindC
  exact kn (i:=i) (Ej.mp nd).2 (by simpa using h1) (by simpa using h2) hk
noncomputable def bu (N:List Str) (vs:List V):St:=vs.map some++EC (N.length - vs.length) none
noncomputable def dH (CX:CXT) (P:Program) (w:World) (K:PySem.W.Frag) (mg:Str→Option Value) (base:Heap) (N:List Str) (qual:Str) (scope:Scope) (f:Addr) (cd:Value) (A:Around) (outer:List Env) (s:Shared) (H:Hp) (E:XK):Cx where
 prog:=P
 w := w
 K := K
 mg := mg
 base:=base
 A := A.deeper (envOfC qual scope s.heap.objs.size f cd)
 N := N
 s₀ := s
 H₀ := H
 env:=envOfC qual scope s.heap.objs.size f cd
 outer:=outer
 stack:=envOfC qual scope s.heap.objs.size f cd::outer
 ex := []
 calm:=true
 fn := fun _=>true
 pn := []
 xe := fun e s'=>wpAny (model P w) (A.deeper (envOfC qual scope s.heap.objs.size f cd)) (leaving (envOfC qual scope s.heap.objs.size f cd) e) (fun _ s''=>CX outer H s E e s'') (fun e' s''=>CX outer H s E e' s'') s'
theorem i6 {sc:Scope}{n:Nat}{x:Str} (h:sc.names.lookup x=some .cell):∃ c,(cellsFrom n sc.names []).lookup x=some c:=by
 have q:=PySem.W.cellsFrom_some sc.names n [] (.inl h)
 exact Option.isSome_iff_exists.mp q
theorem jY {CX:CXT}{P:Program}{w:World}{K:PySem.W.Frag}{mg:Str→Option Value}{base:Heap}{N ps:List Str}{qual:Str}{scope:Scope}{f:Addr}{cd:Value}{A:Around}{outer:List Env}{s s1:Shared}{H:Hp}{E:XK}{us:List Value}{vs:List V}
  (S : au N ps scope) (hd:A.handled=none) (e0:lQ P w K mg base A outer s H) (hl:vs.length=ps.length) (r:aK vs us)
  (x : InCallC s s.heap.objs.size (bindL (envOfC qual scope s.heap.objs.size f cd).kindOf (ps.zip us) fun _=>none) (cellsFrom (s.heap.objs.size+1) scope.names []) (bindC (envOfC qual scope s.heap.objs.size f cd).kindOf (ps.zip us) fun _=>none) s1) :
  Inv (dH CX P w K mg base N qual scope f cd A outer s H E) [] (bu N vs) H s1:=by
 have hpl:ps.length≤N.length:=by have:=congrArg List.length S.pre;rw[Fj] at this;omega
 obtain ⟨h1,tk,rfl,hk⟩:=x.done
 have noA:∀ b:Addr,b ∉ (dH CX P w K mg base N qual scope f cd A outer s H E).ex:=fun b z=>absurd (show b∈([]:List Addr) from z) (by simp)
 refine ⟨⟨e0.mod,S.kind,rfl,rfl,D2 _,fun y z c h1 h2=>?_,fun y hy=>?_,fun y c _ h=>?_,fun _=>hd,Around.frames_deeper e0.frames,.inr ⟨rfl,rfl⟩,fun b z=>absurd z (noA b),e0.bs,e0.bsz,fun b _ _=>noA b,fun b z=>absurd z (noA b),e0.funs,e0.frf,e0.tab⟩,
  rfl,e0.bare,Un.kept hk,⟨_,x.toInCall.ns,fun i y v h1 h2 h3=>?_⟩,fun y c h=>⟨_,x.cell y c h⟩,e0.hok.fresh (D2 _),fun y c h=>?_,fun p hp=>absurd (show p∈([]:List (Addr×Obj)) from hp) (by simp),e0.hok.kept hk,?_⟩
 ·exact name_of_addr x.apart (PySem.mem_of_lookup h1) (PySem.mem_of_lookup h2)
 ·have hy:scope.names.lookup y=some .cell∨scope.names.lookup y=some .free:=hy
  rcases hy with hy|hy
  ·exact i6 hy
  ·exact absurd rfl (S.nofree _ (PySem.mem_of_lookup hy))
 ·exact Nat.le_of_lt (x.above y c (PySem.mem_of_lookup h))
 ·have hi:i<vs.length:=by
   unfold bu at h2
   by_cases hi:i<vs.length
   ·exact hi
   ·rw [EJ (by simpa using hi)] at h2
    rw [List.getElem?_replicate] at h2
    split at h2 <;> cases h2
  have ha:vs[i]? = some v:=by
   unfold bu at h2
   rw [Eb (by simpa using hi),Ep] at h2
   cases e:vs[i]? with
   | none=>rw[e] at h2;cases h2
   | some a=>rw[e] at h2;cases h2;rfl
  obtain ⟨u,hu,rv⟩:=r.get ha
  have hp:ps[i]? = some y:=by
   rw [←S.pre,List.getElem?_take_of_lt (by omega)];exact h1
  have ndP:ps.Nodup:=by rw[←S.pre];exact S.nd.sublist (List.take_sublist _ _)
  refine ⟨u,rv,?_⟩
  rcases S.par y (Fh hp) with k|k
  ·exact .inl ⟨k,kl ndP hp hu k⟩
  ·obtain ⟨c,e⟩:=i6 (n:=s.heap.objs.size+1) k
   refine .inr ⟨.inl k,c,e,?_⟩
   have q:=x.cell y c e
   rw [kn ndP hp hu (by show scope.names.lookup y≠_;rw[k];decide)] at q
   exact q
 ·exact e0.hok.fresh (Nat.le_of_lt (x.above y c (PySem.mem_of_lookup h)))
 ·unfold bu
  show _=N.length
  rw [El,DK,List.length_replicate]
  omega
theorem xO {CX:CXT}{P:Program}{w:World}{K:PySem.W.Frag}{mg:Str→Option Value}{base:Heap}{k:Nat}{f:Addr}{name qual:Str}{params:Arguments}{body:List Stmt}{scope:Scope}{dV kV doc pm cdv ct oc:Value}{an od:Option Addr}
  {osl:Array (Option Value)}{N ps:List Str}{sp:Sp} (lk:K.lookup f=some ⟨oc,od,.func (PySem.W.fnOf name qual params body scope dV kV doc pm an cdv ct),osl⟩) (hcd:PySem.W.codeIn K cdv qual=true) (S:au N ps scope)
  (len:∀ vs H Q E,sp vs H Q E→vs.length=ps.length)
  (hbody:∀ (A:Around) (outer:List Env) (s:Shared) (H:Hp) (vs:List V) (Q:VK) (E:XK),ca k (A.deeper (envOfC qual scope s.heap.objs.size f cdv))→sp vs H Q E →
   ∃ t,PSs (dH CX P w K mg base N qual scope f cdv A outer s H E) body t∧t { nx:=fun _ H'=>Q .non H',rt:=Q } (bu N vs) H) :
  b7 P w K mg base CX (k+1) f (PySem.W.fnOf name qual params body scope dV kV doc pm an cdv ct) ps sp:=by
 refine ⟨len,fun A outer s H args us vs Q E hr e0 hb r hsp=>?_⟩
 have hl:=len _ _ _ _ hsp
 have KX:K.In s.heap:=e0.mod.kin.keeps fun b o e=>(e0.bs b o e).1
 have lim:s.heap.NoLimit:=e0.mod.nolimit.keeps fun b o e=>(e0.bs b o e).1
 have hkind:∀ y∈ps.zip us,scope.names.lookup y.1=some .local∨(scope.names.lookup y.1=some .cell∧((cellsFrom (s.heap.objs.size+1) scope.names []).lookup y.1).isSome=true):=fun ⟨n,v⟩ hy=>by
  rcases S.par n (Fq hy).1 with q|q
  ·exact .inl q
  ·exact .inr ⟨q,PySem.W.cellsFrom_some _ _ _ (.inl q)⟩
 refine codeAny_call_function hr.depth (KX _ _ lk) rfl S.co S.gen rfl (PySem.W.codeRec_of KX hcd) (hb _ _ _ _ ?_)
 refine wpAny_newFunctionEnv_cells S.kind hkind fun env he s1 x=>?_
 subst he
 refine ⟨lim.keeps x.toInCall.keep,codeAny_func ?_⟩
 obtain ⟨t,ht,hq⟩:=hbody A outer s H vs Q E (hr.deeper _) hsp
 have I:Inv (dH CX P w K mg base N qual scope f cdv A outer s H E) [] (bu N vs) H s1:=jY S hr.hd e0 hl r x
 refine wpAny_mono (ht [] s1 (bu N vs) H _ I hq) (fun fl s' hs=>?_) fun e s' hs=>hs
 have fin:∀ {σ':St}{H':Hp}{v:V}{u:Value},Inv (dH CX P w K mg base N qual scope f cdv A outer s H E) [] σ' H' s'→bz v u→Q v H'→CE outer P w H s Q u s' :=
  fun {σ' H' v u} J rv q=>⟨v,H',J.os,J.bare,J.base,J.hok,rv,q⟩
 cases fl with
 | ret u =>
  obtain ⟨v,σ',H',J,rv,q⟩:=hs
  exact fin J rv q
 | next =>
  obtain ⟨σ',H',J,q⟩:=hs
  exact fin (v:=V.non) (u:=Value.none) J rfl q
 | brk =>
  obtain ⟨_,_,_,q⟩:=hs
  exact False.elim q
 | cont =>
  obtain ⟨_,_,_,q⟩:=hs
  exact False.elim q
section
variable {X:Cx}{x:Str}{p pos:Pos}{e:Expr}{es:List Expr}{t:TA}{id T:String}{r:List V→Hp→VK→Prop}
noncomputable def tCB (r:List V→Hp→VK→Prop) (t:TA):TE:=fun σ H Q=>t σ H fun vs H1=>r vs H1 Q
theorem fJ (hc:c9 X (.builtin id) r) (hg:Gl X x) (hm:X.mg x=none) (hv:bootBuiltins x=some (.builtin id)) (ha:PA X (e::es) t) (hn:x ≠ "__name__" := by decide) (hdb:(x==("__debug__" : Str))=false:=by decide)
  (he:starEach (e::es) X.env=(false,eval e X.env)::starEach es X.env:=by rfl) (hpl:(backTo pos (starEach es X.env)).any (·.1)=false:=by rfl):PE X (.Call (.Name x p) (e::es) [] pos) (tCB r t):=by
 intro pins s σ H Q I h
 refine wpAny_Call_Name_kw (gq I hg hm hv ?_ hn hdb)
 exact PyProof.Rows.callWith_builtin1 (thn (ha pos pins s σ H _ I h) fun us s1 ⟨vs,H1,I1,r1,q1⟩=>hc pins s1 σ H1 vs us Q I1 r1 q1) he hpl
theorem qd (hc:c9 X (.type T) r) (hg:Gl X x) (hm:X.mg x=none) (hv:bootBuiltins x=some (.type T)) (ha:PA X (e::es) t) (hn:x ≠ "__name__" := by decide) (hdb:(x==("__debug__" : Str))=false:=by decide)
  (he:starEach (e::es) X.env=(false,eval e X.env)::starEach es X.env:=by rfl) (hpl:(backTo pos (starEach es X.env)).any (·.1)=false:=by rfl):PE X (.Call (.Name x p) (e::es) [] pos) (tCB r t):=by
 intro pins s σ H Q I h
 refine wpAny_Call_Name_kw (gq I hg hm hv ?_ hn hdb)
 exact PyProof.Rows.callWith_type1 (thn (ha pos pins s σ H _ I h) fun us s1 ⟨vs,H1,I1,r1,q1⟩=>hc pins s1 σ H1 vs us Q I1 r1 q1) he hpl
end
end L2
namespace HT
open PySem PyProof.Rows
noncomputable def lexLt:List Int→List Int→Bool
 | [],[]=>false
 | [],_::_=>true
 | _::_,[]=>false
 | x::xs,y::ys=>if x=y then lexLt xs ys else decide (x<y)
theorem lexLt_cons (x y:Int) (xs ys:List Int):lexLt (x::xs) (y::ys)=if x=y then lexLt xs ys else decide (x<y):=rfl
theorem lexLt_nil_nil:lexLt [] []=false:=rfl
theorem lexLt_nil_cons (y:Int) (ys:List Int):lexLt [] (y::ys)=true:=rfl
theorem lexLt_cons_nil (x:Int) (xs:List Int):lexLt (x::xs) []=false:=rfl
section
open PySem.SeqAt
open PySem.AutoSeq1 (wpAny_loadPart')
open PySem.MeetsSeq PySem.MeetsSeq2 PySem.MeetsSeq3
end
section
variable {prog:Program}{w:World}{A:Around}{E:Value→Shared→Prop}{s:Shared}
theorem cat_tup {t b:Addr}{vs ws:List Value}{Q:Value→Shared→Prop} (ht:IsTup s.heap t vs.toArray) (hb:IsTup s.heap b ws.toArray) (hv:vs≠[])
  (h1:ws=[]→Q (.ref t) s) (h2:ws≠[]→Q (.ref s.heap.objs.size) { s with heap:=s.heap.push { cls:=.type "tuple",data:=.seq (vs++ws).toArray } })
  (hsz:vs.length+ws.length≤sizeLine):wpAny (model prog w) A (binaryOp .Add (.ref t) (.ref b)) Q E s:=by
 obtain ⟨⟨cls,dd,data,sl⟩,ho,hc,n,hd⟩:=id ht
 obtain ⟨⟨cls2,dd2,data2,sl2⟩,ho2,hc2,n2,hd2⟩:=id hb
 simp only at hc hd hc2 hd2
 subst hc hd hc2 hd2
 have e:vs.toArray++ws.toArray=(vs++ws).toArray:=by simp
 by_cases hw:ws=[]
 ·exact concat_meets ⟨_,ho,rfl⟩ ⟨_,ho2,rfl⟩ noFill_tuple_add seq_tuple_add PySem.F.slot_tuple_add PySem.F.entry_tuple_add (PySem.F.args_tuple_add_2 _ _)
   (tuple_addW1 t b vs.toArray ws.toArray n n2 dd dd2 sl sl2 (by simpa using hv) (by simp[hw])) ⟨ho,ho2,h1 hw⟩
 ·refine concat_meets ⟨_,ho,rfl⟩ ⟨_,ho2,rfl⟩ noFill_tuple_add seq_tuple_add PySem.F.slot_tuple_add PySem.F.entry_tuple_add (PySem.F.args_tuple_add_2 _ _)
   (tuple_addW2 t b vs.toArray ws.toArray n n2 dd dd2 sl sl2 (by simpa using hv) (by simpa using hw) (by rw[D5,D5];exact hsz)) ⟨ho,ho2,?_⟩
  rw [e]
  exact h2 hw
noncomputable def sIx (n d:Nat):Option Int→Nat
 | none=>d
 | some v=>if v<0 then (v+(n:Int)).toNat else min v.toNat n
theorem sIx_none (n d:Nat):sIx n d none=d:=rfl
theorem sIx_nat (n d k:Nat):sIx n d (some (k:Int))=min k n:=by
 show (if (k:Int)<0 then ((k:Int)+(n:Int)).toNat else min (k:Int).toNat n)=min k n
 rw [if_neg (by omega),Eu]
end
end HT
namespace L2
open PySem PySem.Spec PyProof.Rows
noncomputable abbrev TO:=St→Hp→(Option Int→Hp→Prop)→Prop
noncomputable def PO (X:Cx) (e:Option Expr) (t:TO):Prop :=
 ∀ (pins:List (Addr×Obj)) (s:Shared) (σ:St) (H:Hp) (Q:Option Int→Hp→Prop),Inv X pins σ H s→t σ H Q →
  wpAny (model X.prog X.w) X.A (evalPart e X.env) (fun u s'=>∃ o H',Inv X pins σ H' s'∧IsPart u o∧Q o H') X.xe s
noncomputable def wu:TO:=fun _ H Q=>Q none H
noncomputable def Bm (t:TE):TO:=fun σ H Q=>t σ H fun x H1=>∃ i,x=.int i∧Q (some i) H1
section
variable {X:Cx}{e:Expr}{te:TE}{lo hi:Option Expr}{tl th:TO}{pos p2:Pos}
theorem wU:PO X none wu:=by
 intro pins s σ H Q I h
 rw [evalPart_none]
 exact wpAny_pure ⟨none,H,I,.none,h⟩
theorem wT (h:PE X e te):PO X (some e) (Bm te):=by
 intro pins s σ H Q I hw
 rw [evalPart_some]
 refine thn (h pins s σ H _ I hw) fun u s1 ⟨x,H1,I1,r1,q1⟩=>?_
 obtain ⟨i,rfl,q⟩:=q1
 obtain ⟨t,rfl⟩:=r1
 exact ⟨some i,H1,I1,.int i t,q⟩
noncomputable def SlR (X:Cx) (r:V→Option Int→Option Int→Hp→VK→Prop):Prop :=
 ∀ (pins:List (Addr×Obj)) (s:Shared) (σ:St) (H:Hp) (x:V) (v vl vu:Value) (lo hi:Option Int) (sl:Addr) (Q:VK),Inv X pins σ H s→bz x v→s.heap.IsSliceOf sl vl vu .none→IsPart vl lo→IsPart vu hi→r x lo hi H Q →
  ∃ T id,typeLookup (.type T) "__getitem__" = pure (some (.builtin id))∧s.TypeIs v T∧wpAny (model X.prog X.w) X.A (getItem v (.ref sl)) (EP X pins σ Q) X.xe s
theorem SlR.or {r r':V→Option Int→Option Int→Hp→VK→Prop} (h:SlR X r) (h':SlR X r'):SlR X (fun x lo hi H Q=>r x lo hi H Q∨r' x lo hi H Q):=by
 intro pins s σ H x v vl vu lo hi sl Q I rx hs pl pu q
 rcases q with q|q
 ·exact h pins s σ H x v vl vu lo hi sl Q I rx hs pl pu q
 ·exact h' pins s σ H x v vl vu lo hi sl Q I rx hs pl pu q
noncomputable def tSl (r:V→Option Int→Option Int→Hp→VK→Prop) (te:TE) (tl th:TO):TE:=fun σ H Q=>te σ H fun x H1=>tl σ H1 fun l H2=>th σ H2 fun u H3=>r x l u H3 Q
theorem s9 {r:V→Option Int→Option Int→Hp→VK→Prop} (hr:SlR X r) (he:PE X e te) (hl:PO X lo tl) (hu:PO X hi th):PE X (.Subscript e (.Slice lo hi none p2) pos) (tSl r te tl th):=by
 intro pins s σ H Q I h
 refine Subscript_ (thn (he pins s σ H _ I h) fun v s1 ⟨x,H1,I1,r1,q1⟩=>?_)
 refine wpAny_Slice (thn (hl pins s1 σ H1 _ I1 q1) fun vl s2 ⟨l,H2,I2,pl,q2⟩=>thn (hu pins s2 σ H2 _ I2 q2) fun vu s3 ⟨u,H3,I3,pu,q3⟩=>?_)
 rw [evalPart_none]
 refine wpAny_pure ?_
 have I4:Inv X pins σ H3 { s3 with heap:=s3.heap.push { cls:=.type "slice",data:=.fields #[vl,vu,.none] } }:=I3.kept (t':=s3.toks) fun b ob q=>DU _ q
 obtain ⟨T,id,hT,ht,hg⟩:=hr pins { s3 with heap:=s3.heap.push { cls:=.type "slice",data:=.fields #[vl,vu,.none] } } σ H3 x v vl vu l u s3.heap.objs.size Q I4 r1 (Heap.IsSliceOf.new ..) pl pu q3
 show wpAny (model X.prog X.w) X.A (subscriptTail e (.Slice lo hi none p2) v (.ref s3.heap.objs.size)) (EP X pins σ Q) X.xe { s3 with heap:=s3.heap.push { cls:=.type "slice",data:=.fields #[vl,vu,.none] } }
 exact tail_any (ops:=[.ref s3.heap.objs.size,v]) ht hT hg (by with_unfolding_all rfl)
noncomputable def yF (xs:List V) (lo hi:Option Int):List V:=(xs.drop (HT.sIx xs.length 0 lo)).take (HT.sIx xs.length xs.length hi - HT.sIx xs.length 0 lo)
theorem lE (xs:List V) (lo hi:Option Int):(yF xs lo hi).length≤xs.length:=by
 unfold yF
 rw [Fj,List.length_drop]
 omega
noncomputable def BG (K:PySem.W.Frag):R2:=fun x y H Q=>∃ a b xs ys,x=.ref a∧y=.ref b∧SqT K H a xs∧SqT K H b ys∧xs≠[]∧xs.length+ys.length≤sizeLine ∧
 (ys=[]→Q (.ref a) H)∧(ys≠[]→∀ p,H p=none→Q (.ref p) (upd H p (.tup (xs++ys))))
theorem aK.nil_iff {xs:List V}{us:List Value} (r:aK xs us):us=[]↔xs=[]:=by
 cases r with
 | nil=>simp
 | cons _ _=>simp
theorem xl:OpR X (binaryOp .Add) (BG X.K):=by
 intro pins s σ H x y v u Q I rx ry h
 obtain ⟨a,b,xs,ys,rfl,rfl,ha,hb,hx,hz,q1,q2⟩:=h
 cases rx
 cases ry
 obtain ⟨its,r1,p1,_⟩:=I.tuple ha
 obtain ⟨its2,r2,p2,_⟩:=I.tuple hb
 refine HT.cat_tup p1 p2 (fun z=>hx (r1.nil_iff.mp z)) (fun z=>⟨.ref a,H,I,rfl,q1 (r2.nil_iff.mp z)⟩) (fun z=>?_) (by rw[←r1.length,←r2.length];exact hz)
 refine ⟨.ref s.heap.objs.size,_,I.laid (t':=s.toks) (o:=.tup (xs++ys)) (fun b ob q=>DU _ q) (D2 _) ?_,rfl,q2 (fun w=>z (r2.nil_iff.mpr w)) _ (I.hok.fresh (D2 _))⟩
 exact ⟨by rw[El];exact hz,_,r1.append r2,IsTup.new _ _⟩
end
noncomputable def ixN (n:Nat) (i:Int):Option Nat:=if 0≤i then (if i<n then some i.toNat else none) else if -(n:Int)≤i then some (i+n).toNat else none
noncomputable def atI {α:Type} (xs:List α) (i:Int):Option α:=(ixN xs.length i).bind fun j=>xs[j]?
theorem qP {n:Nat}{i:Int}{j:Nat} (h:ixN n i=some j):seqIndex? i n=some j∧j<n∧-(n:Int)≤i∧i<n:=by
 unfold ixN at h
 by_cases h0:0≤i
 ·rw [if_pos h0] at h
  by_cases h1:i<n
  ·rw [if_pos h1] at h
   have e:i.toNat=j:=Option.some.inj h
   exact ⟨by rw[seqIndex_of h0 h1,e],by omega,by omega,h1⟩
  ·rw [if_neg h1] at h;cases h
 ·rw [if_neg h0] at h
  by_cases h1:-(n:Int)≤i
  ·rw [if_pos h1] at h
   have e:(i+n).toNat=j:=Option.some.inj h
   exact ⟨by rw[seqIndex_neg (by omega) h1,e],by omega,h1,by omega⟩
  ·rw [if_neg h1] at h;cases h
theorem rV {α:Type}{xs:List α}{i:Int}{v:α} (h:atI xs i=some v):∃ j,seqIndex? i xs.length=some j∧xs[j]? = some v∧j<xs.length∧-(xs.length:Int)≤i∧i<xs.length:=by
 unfold atI at h
 cases e:ixN xs.length i with
 | none=>rw[e] at h;cases h
 | some j =>
  rw [e] at h
  obtain ⟨h1,h2,h3,h4⟩:=qP e
  exact ⟨j,h1,h,h2,h3,h4⟩
theorem c5 {α:Type}{xs:List α}{j:Nat}{v:α} (h:xs[j]? = some v):atI xs (j:Int)=some v:=by
 have hj:j<xs.length:=(DX.mp h).1
 have e:ixN xs.length (j:Int)=some j:=by
  unfold ixN
  rw [if_pos (by omega),if_pos (by omega)];simp
 unfold atI;rw[e];exact h
noncomputable def eV (b:Expr):Prop:=∀ o i,subscripted b false o i=operate [o,i] (getItem o i)
noncomputable def IxR (X:Cx) (r:R2):Prop :=
 ∀ (value slice:Expr) (pins:List (Addr×Obj)) (s:Shared) (σ:St) (H:Hp) (x y:V) (v u:Value) (Q:VK),Inv X pins σ H s→bz x v→bz y u→r x y H Q →
  subscripted slice false v u=operate [v,u] (getItem v u)→wpAny (model X.prog X.w) X.A (subscriptTail value slice v u) (EP X pins σ Q) X.xe s
noncomputable def MtR (X:Cx) (id:String) (r:V→List V→Hp→VK→Prop):Prop :=
 ∀ (pins:List (Addr×Obj)) (s:Shared) (σ:St) (H:Hp) (x:V) (xs:List V) (v:Value) (us:List Value) (Q:VK),Inv X pins σ H s→bz x v→aK xs us→r x xs H Q →
  wpAny (model X.prog X.w) X.A (call (.builtin id) (v::us)) (EP X pins σ Q) X.xe s
section
variable {X:Cx}{a b:Expr}{ta tb:TE}{pos:Pos}
theorem IxR.or {r r':R2} (h:IxR X r) (h':IxR X r'):IxR X (fun x y H Q=>r x y H Q∨r' x y H Q):=by
 intro value slice pins s σ H x y v u Q I rx ry q hs
 rcases q with q|q
 ·exact h value slice pins s σ H x y v u Q I rx ry q hs
 ·exact h' value slice pins s σ H x y v u Q I rx ry q hs
theorem MtR.or {id:String}{r r':V→List V→Hp→VK→Prop} (h:MtR X id r) (h':MtR X id r'):MtR X id (fun x xs H Q=>r x xs H Q∨r' x xs H Q):=by
 intro pins s σ H x xs v us Q I rx rs q
 rcases q with q|q
 ·exact h pins s σ H x xs v us Q I rx rs q
 ·exact h' pins s σ H x xs v us Q I rx rs q
theorem qc {r:R2} (hr:IxR X r) (ha:PE X a ta) (hb:PE X b tb) (hs:eV b):PE X (.Subscript a b pos) (tOp r ta tb):=by
 intro pins s σ H Q I h
 exact Subscript_ (Cu ha hb I h fun v u s2 x y H2 I2 rx ry q=>hr a b pins s2 σ H2 x y v u Q I2 rx ry q (hs _ _))
noncomputable def CG (K:PySem.W.Frag):R2:=fun x y H Q=>∃ p xs i v,x=.ref p∧y=.int i∧SqL K H p xs∧atI xs i=some v∧Q v H
noncomputable def CF (K:PySem.W.Frag):R2:=fun x y H Q=>∃ p xs i v,x=.ref p∧y=.int i∧SqT K H p xs∧atI xs i=some v∧Q v H
theorem xF:IxR X (CG X.K):=by
 intro value slice pins s σ H x y v u Q I rx ry h hs
 obtain ⟨p,xs,i,z,rfl,rfl,hq,he,q⟩:=h
 cases rx
 obtain ⟨t,rfl⟩:=ry
 obtain ⟨its,r,pl,hz⟩:=I.list hq
 obtain ⟨j,h1,h2,h3,h4,h5⟩:=rV he
 obtain ⟨w,ew,rw'⟩:=r.get h2
 have hl:=r.length
 have hn:=ig
 have fin:EP X pins σ Q w s:=⟨z,H,I,rw',q⟩
 by_cases h0:0≤i
 ·have hj:i.toNat=j:=by
   rw [seqIndex_of h0 h5] at h1
   exact Option.some.inj h1
  exact item_listR pl.isList h0 (by omega) (by rw[hj];simpa using ew) fin hs
 ·have hj:(i+(its.toArray.size:Int)).toNat=j:=by
   rw [seqIndex_neg (by omega) h4] at h1
   rw [D5,←hl]
   exact Option.some.inj h1
  exact subscriptTail_builtinR (x:=w) pl.isList.typeIs slot_list_getitem.lookup
   (wpAny_getItem_list_neg (Q:=fun r s'=>r=w∧EP X pins σ Q r s') pl.isList (by omega) (by rw[D5] <;> omega) (by omega) (by rw[hj];simpa using ew) ⟨rfl,fin⟩) hs
theorem Aj:IxR X (CF X.K):=by
 intro value slice pins s σ H x y v u Q I rx ry h hs
 obtain ⟨p,xs,i,z,rfl,rfl,hq,he,q⟩:=h
 cases rx
 obtain ⟨t,rfl⟩:=ry
 obtain ⟨its,r,pl,hz⟩:=I.tuple hq
 obtain ⟨j,h1,h2,h3,h4,h5⟩:=rV he
 obtain ⟨w,ew,rw'⟩:=r.get h2
 have hl:=r.length
 have hn:=ig
 have fin:EP X pins σ Q w s:=⟨z,H,I,rw',q⟩
 exact subscriptTail_builtinR (x:=w) pl.typeIs slot_tuple_getitem.lookup
  (getItem_tuple (j:=j) (Q:=fun r s'=>r=w∧EP X pins σ Q r s') pl (by omega) (by omega) (by rw[D5,←hl];exact h1) (by simpa using ew) ⟨rfl,fin⟩) hs
theorem oB (its:List Value) (n j:Nat) (u:Value):Obj.mapSeq (·.setIfInBounds j u) { cls:=.type "list",data:=.seq its.toArray n }={ cls:=.type "list",data:=.seq (its.set j u).toArray n }:=by
 simp [Obj.mapSeq]
theorem Inv.lst {pins:List (Addr×Obj)}{σ:St}{H:Hp}{s:Shared}{p:Addr}{xs:List V} (I:Inv X pins σ H s) (h:H p=some (.lst xs)) :
  ∃ (its:List Value) (n:Nat),aK xs its∧s.heap.get? p=some { cls:=.type "list",data:=.seq its.toArray n }∧xs.length≤sizeLine:=by
 obtain ⟨z,its,n,r,e⟩:=I.hok p _ h
 exact ⟨its,n,r,e,z⟩
theorem Inv.lstUpd {pins:List (Addr×Obj)}{σ:St}{H:Hp}{s:Shared}{p:Addr}{xs ys:List V}{its its':List Value}{n n':Nat}{f:Obj→Obj} (I:Inv X pins σ H s) (h:H p=some (.lst xs))
  (ho:s.heap.get? p=some { cls:=.type "list",data:=.seq its.toArray n }) (hf:f { cls:=.type "list",data:=.seq its.toArray n }={ cls:=.type "list",data:=.seq its'.toArray n' }) (r:aK ys its') (hz:ys.length≤sizeLine) (t:Nat) :
  Inv X pins σ (upd H p (.lst ys)) { s with heap:=s.heap.update p f,toks:=t }:=by
 have e:(s.heap.update p f).get? p=some { cls:=.type "list",data:=.seq its'.toArray n' }:=by
  rw [EG f ho (by rw[hf] <;> rfl),hf]
 refine I.write (x:=p) (e:=p) (by rw[h];trivial) (.inl rfl) (fun b u hb q=>(EQ _ _ (Ne.symm hb)).trans q) ⟨_,e⟩ ?_
 exact ⟨hz,its',n',r,e⟩
noncomputable def Bz:V→V→V→Hp→(Hp→Prop)→Prop:=fun o i v H Q=>∃ p xs k j,o=.ref p∧i=.int k∧H p=some (.lst xs)∧ixN xs.length k=some j∧Q (upd H p (.lst (xs.set j v)))
theorem sN:Cv X Bz:=by
 intro pins s σ H o i v ov iv u Q I ro ri rv h
 obtain ⟨p,xs,k,j,rfl,rfl,hp,hj,q⟩:=h
 cases ro
 obtain ⟨t,rfl⟩:=ri
 obtain ⟨its,n,r,ho,hz⟩:=I.lst hp
 obtain ⟨h1,h2,h3,h4⟩:=qP hj
 have hl:=r.length
 have hn:=ig
 have I':Inv X pins σ (upd H p (.lst (xs.set j v))) { s with heap:=s.heap.update p (Obj.mapSeq (·.setIfInBounds j u)) } :=
  I.lstUpd hp ho (oB its n j u) (r.set rv j) (by rw[List.length_set];exact hz) s.toks
 by_cases h0:0≤k
 ·have hk:k.toNat=j:=by
   rw [seqIndex_of h0 h4] at h1
   exact Option.some.inj h1
  exact PySem.W.ki_setAt ho h0 (by omega) (by rw[D5,←hl];exact h4) (by rw[hk];exact⟨_,I',q⟩)
 ·have hk:(k+(its.toArray.size:Int)).toNat=j:=by
   rw [seqIndex_neg (by omega) h3] at h1
   rw [D5,←hl]
   exact Option.some.inj h1
  exact PySem.W.ki_setBack ho (by omega) (by rw[D5,←hl];exact h3) (by omega) (by rw[hk];exact⟨_,I',q⟩)
theorem jt (lo hi:Option Int) (n:Nat):(sliceBounds lo hi none n).1=((HT.sIx n 0 lo:Nat):Int)∧(sliceBounds lo hi none n).2.1=((HT.sIx n n hi:Nat):Int)∧(sliceBounds lo hi none n).2.2=1:=by
 refine ⟨?_,?_,rfl⟩
 ·cases lo with
  | none=>simp[sliceBounds,HT.sIx]
  | some i =>
   simp only [sliceBounds,HT.sIx,Option.getD_none,show (1:Int)>0 by decide,if_true]
   by_cases h:i<0
   ·simp only [h,if_true] <;> omega
   ·simp only [h,if_false] <;> omega
 ·cases hi with
  | none=>simp[sliceBounds,HT.sIx]
  | some i =>
   simp only [sliceBounds,HT.sIx,Option.getD_none,show (1:Int)>0 by decide,if_true]
   by_cases h:i<0
   ·simp only [h,if_true] <;> omega
   ·simp only [h,if_false] <;> omega
theorem iD (its:List Value) (lo hi:Option Int):slicePick its.toArray lo hi none=((its.drop (HT.sIx its.length 0 lo)).take (HT.sIx its.length its.length hi - HT.sIx its.length 0 lo)).toArray:=by
 obtain ⟨h1,h2,h3⟩:=jt lo hi its.toArray.size
 unfold slicePick
 rw [h1,h2,h3]
 simp only [sliceRange_one,pick_run,D5] <;> rfl
noncomputable def CC (K:PySem.W.Frag):V→Option Int→Option Int→Hp→VK→Prop:=fun x lo hi H Q=>∃ a xs,x=.ref a∧SqL K H a xs∧∀ p,H p=none→Q (.ref p) (upd H p (.lst (yF xs lo hi)))
theorem wx:SlR X (CC X.K):=by
 intro pins s σ H x v vl vu lo hi sl Q I rx hs pl pu h
 obtain ⟨a,xs,rfl,hx,q⟩:=h
 cases rx
 obtain ⟨its,r,ht,hz⟩:=I.list hx
 have hlen:=r.length
 refine ⟨"list",_,slot_list_getitem.lookup,ht.isList.typeIs,?_⟩
 refine wpAny_getItem_list_slice ht.isList hs pl pu .none (by simp) ?_ (by rw[D5] <;> omega)
 rw [iD,←hlen]
 refine ⟨.ref s.heap.objs.size,_,I.laid (t':=s.toks) (o:=.lst (yF xs lo hi)) (fun b ob q=>DU _ q) (D2 _) ?_,rfl,q _ (I.hok.fresh (D2 _))⟩
 exact ⟨D1 (lE xs lo hi) hz,_,0,(r.drop (HT.sIx xs.length 0 lo)).take (HT.sIx xs.length xs.length hi - HT.sIx xs.length 0 lo),D8 _ rfl⟩
noncomputable def iT:V→Bool
 | .non=>true
 | .bl _=>true
 | .int _=>true
 | .str _=>true
 | _=>false
noncomputable def eqV:V→V→Bool
 | .non,.non=>true
 | .bl a,.bl b=>a==b
 | .bl a,.int b=>(if a then 1 else 0)==b
 | .int a,.bl b=>a==(if b then 1 else 0)
 | .int a,.int b=>a==b
 | .str a,.str b=>a==b
 | _,_=>false
theorem Ay {A:Around}{s:Shared}{y x:V}{u v:Value} (ry:bz y u) (rx:bz x v) (fy:iT y=true) (fx:iT x=true):SeqAt.EqAt A s u v (eqV y x):=by
 cases y with
 | non =>
  cases ry
  cases x with
  | non=>cases rx;exact SeqAt.EqAt.same _
  | bl b=>cases rx;exact SeqAt.EqAt.none_bool b
  | int b=>obtain⟨t,rfl⟩:=rx;exact SeqAt.EqAt.none_int b t
  | str b=>obtain⟨t,rfl⟩:=rx;exact SeqAt.EqAt.none_str b t
  | _=>exact absurd (show false=true from fx) Ea
 | bl a =>
  cases ry
  cases x with
  | non=>cases rx;exact SeqAt.EqAt.bool_none a
  | bl b=>cases rx;exact SeqAt.EqAt.bool_bool a b
  | int b=>obtain⟨t,rfl⟩:=rx;exact SeqAt.EqAt.bool_int a b t
  | str b=>obtain⟨t,rfl⟩:=rx;exact SeqAt.EqAt.bool_str a b t
  | _=>exact absurd (show false=true from fx) Ea
 | int a =>
  obtain ⟨t',rfl⟩:=ry
  cases x with
  | non=>cases rx;exact SeqAt.EqAt.int_none a t'
  | bl b=>cases rx;exact SeqAt.EqAt.int_bool a t' b
  | int b=>obtain⟨t,rfl⟩:=rx;exact SeqAt.EqAt.int_int a t' b t
  | str b=>obtain⟨t,rfl⟩:=rx;exact SeqAt.EqAt.int_str a t' b t
  | _=>exact absurd (show false=true from fx) Ea
 | str a =>
  obtain ⟨t',rfl⟩:=ry
  cases x with
  | non=>cases rx;exact SeqAt.EqAt.str_none a t'
  | bl b=>cases rx;exact SeqAt.EqAt.str_bool a t' b
  | int b=>obtain⟨t,rfl⟩:=rx;exact SeqAt.EqAt.str_int a t' b t
  | str b=>obtain⟨t,rfl⟩:=rx;exact SeqAt.EqAt.str_str a t' b t
  | _=>exact absurd (show false=true from fx) Ea
 | _=>exact absurd (show false=true from fy) Ea
noncomputable def eqU (x:V) (u:Value):Bool:=match u with
 | .none=>eqV .non x
 | .bool b=>eqV (.bl b) x
 | .int i _=>eqV (.int i) x
 | .str z _=>eqV (.str z) x
 | _=>false
theorem vM {x y:V}{u:Value} (r:bz y u) (f:iT y=true):eqU x u=eqV y x:=by
 cases y with
 | non=>cases r;rfl
 | bl b=>cases r;rfl
 | int i=>obtain⟨t,rfl⟩:=r;rfl
 | str z=>obtain⟨t,rfl⟩:=r;rfl
 | _=>exact absurd (show false=true from f) Ea
theorem gK {x:V}:∀ {xs:List V}{us:List Value},aK xs us→xs.all iT=true→us.any (eqU x)=xs.any fun y=>eqV y x
 | _,_,.nil,_=>rfl
 | y::xs,u::us,.cons r t,f=>by
  rw [List.all_cons,Es] at f
  rw [List.any_cons,List.any_cons,vM r f.1,gK t f.2]
theorem d7 {A:Around}{s:Shared}{x:V}{v:Value} (rx:bz x v) (fx:iT x=true):∀ {xs:List V}{us:List Value},aK xs us→xs.all iT=true→∀ u∈us,SeqAt.EqAt A s u v (eqU x u)
 | _,_,.nil,_=>fun u hu=>by cases hu
 | y::xs,u::us,.cons r t,f=>fun u' hu=>by
  rw [List.all_cons,Es] at f
  rcases D3.mp hu with rfl|hu
  ·rw [vM r f.1];exact Ay r rx f.1 fx
  ·exact d7 rx fx t f.2 u' hu
noncomputable def inV (x:V) (xs:List V):Bool:=xs.any fun y=>eqV y x
noncomputable def rIn (K:PySem.W.Frag) (neg:Bool):R2:=fun x y H Q=>∃ p xs,y=.ref p∧(SqL K H p xs∨SqT K H p xs)∧iT x=true∧xs.all iT=true∧Q (.bl (if neg then !inV x xs else inV x xs)) H
theorem qr:OpR X (compareOp .In) (rIn X.K false):=by
 intro pins s σ H x y v u Q I rx ry h
 obtain ⟨p,xs,rfl,hq,fx,fs,q⟩:=h
 cases ry
 rcases hq with hq|hq
 ·obtain ⟨its,r,pl,hz⟩:=I.list hq
  refine SeqAt.in_listAt (eqU x) pl.isList (fun w hw=>d7 rx fx r fs w (by simpa using hw)) ⟨.bl _,H,I,rfl,?_⟩
  rw [show its.toArray.any (eqU x)=its.any (eqU x) by simp,gK r fs]
  exact q
 ·obtain ⟨its,r,pl,hz⟩:=I.tuple hq
  refine SeqAt.in_tupleAt (eqU x) pl (fun w hw=>d7 rx fx r fs w (by simpa using hw)) ⟨.bl _,H,I,rfl,?_⟩
  rw [show its.toArray.any (eqU x)=its.any (eqU x) by simp,gK r fs]
  exact q
theorem jz:OpR X (compareOp .NotIn) (rIn X.K true):=by
 intro pins s σ H x y v u Q I rx ry h
 obtain ⟨p,xs,rfl,hq,fx,fs,q⟩:=h
 cases ry
 rcases hq with hq|hq
 ·obtain ⟨its,r,pl,hz⟩:=I.list hq
  refine SeqAt.notIn_listAt (eqU x) pl.isList (fun w hw=>d7 rx fx r fs w (by simpa using hw)) ⟨.bl _,H,I,rfl,?_⟩
  rw [show its.toArray.any (eqU x)=its.any (eqU x) by simp,gK r fs]
  exact q
 ·obtain ⟨its,r,pl,hz⟩:=I.tuple hq
  refine SeqAt.notIn_tupleAt (eqU x) pl (fun w hw=>d7 rx fx r fs w (by simpa using hw)) ⟨.bl _,H,I,rfl,?_⟩
  rw [show its.toArray.any (eqU x)=its.any (eqU x) by simp,gK r fs]
  exact q
theorem kh:c9 X (.builtin "len") (fun xs H Q=>∃ p ys,xs=[.ref p]∧(SqL X.K H p ys∨SqT X.K H p ys)∧Q (.int ys.length) H):=by
 intro pins s σ H xs us Q I r h
 obtain ⟨p,ys,rfl,hq,q⟩:=h
 obtain ⟨u,rfl,rx⟩:=ji r
 cases rx
 have hn:=ig
 rcases hq with hq|hq
 ·obtain ⟨its,r',pl,hz⟩:=I.list hq
  have hlen:=r'.length
  exact Calls.call_len_list pl.isList (by simp only [D5] <;> omega) ⟨.int ys.length,H,I.tok _,⟨s.toks+1,by rw[D5,hlen]⟩,q⟩
 ·obtain ⟨its,r',pl,hz⟩:=I.tuple hq
  have hlen:=r'.length
  exact len_tuple pl (by simp only [D5] <;> omega) ⟨.int ys.length,H,I.tok _,⟨s.toks+1,by rw[D5,hlen]⟩,q⟩
theorem c9.or {f:Value}{r r':List V→Hp→VK→Prop} (h:c9 X f r) (h':c9 X f r'):c9 X f (fun xs H Q=>r xs H Q∨r' xs H Q):=by
 intro pins s σ H xs us Q I rs q
 rcases q with q|q
 ·exact h pins s σ H xs us Q I rs q
 ·exact h' pins s σ H xs us Q I rs q
theorem i7:c9 X (.type "tuple") (fun xs H Q=>∃ p ys,xs=[.ref p]∧((SqL X.K H p ys∧∀ l,H l=none→Q (.ref l) (upd H l (.tup ys)))∨(SqT X.K H p ys∧Q (.ref p) H))):=by
 intro pins s σ H xs us Q I r h
 obtain ⟨p,ys,rfl,h⟩:=h
 obtain ⟨u,rfl,rx⟩:=ji r
 cases rx
 rcases h with ⟨hq,q⟩|⟨hq,q⟩
 ·obtain ⟨its,r',pl,hz⟩:=I.list hq
  have hlen:=r'.length
  refine call_tuple_list pl.isList (fun h' kp=>?_) (by simp only [D5] <;> omega)
  have I1:Inv X pins σ H { s with heap:=h' }:=I.kept (t':=s.toks) kp
  have I2:Inv X pins σ (upd H h'.objs.size (.tup ys)) { s with heap:=h'.push { cls:=.type "tuple",data:=.seq its.toArray } } :=
   I1.laid (t':=s.toks) (fun b o e=>DU _ e) (D2 _) (show c7 X.prog X.w _ _ _ (.tup ys) from ⟨hz,its,r',IsTup.new _ _⟩)
  exact ⟨.ref h'.objs.size,_,I2,rfl,q _ (I1.hok.fresh (D2 _))⟩
 ·obtain ⟨its,r',pl,hz⟩:=I.tuple hq
  exact call_tuple_same pl ⟨.ref p,H,I,rfl,q⟩
noncomputable def tyV (K:PySem.W.Frag) (T:String) (x:V) (H:Hp):Prop:=match x with
 | .str _=>T = "str"
 | .int _=>T = "int"
 | .ref p=>(T = "list" ∧ ∃ xs,SqL K H p xs)∨(T = "tuple" ∧ ∃ o,K.lookup p=some o∧o.cls=.type "tuple" ∧ o.dict=none) ∨
   (T = "dict" ∧ ((∃ kvs,H p=some (.dK kvs))∨∃ kvs,H p=some (.dT kvs)))∨(T = "set" ∧ ∃ S n,H p=some (.set S n))
 | _=>False
theorem uO {pins:List (Addr×Obj)}{σ:St}{H:Hp}{s:Shared}{T:String}{x:V}{v:Value} (I:Inv X pins σ H s) (r:bz x v) (ty:tyV X.K T x H) :
  s.TypeIs v T∧∀ a,v=.ref a→∃ ob,s.heap.get? a=some ob∧ob.dict=none:=by
 cases x with
 | str z =>
  obtain ⟨t,rfl⟩:=r
  cases (show T = "str" from ty)
  exact ⟨typeIs_str s z t,fun _ e=>nomatch e⟩
 | int i =>
  obtain ⟨t,rfl⟩:=r
  cases (show T = "int" from ty)
  exact ⟨typeIs_int s i t,fun _ e=>nomatch e⟩
 | ref p =>
  cases r
  rcases ty with ⟨rfl,xs,hq⟩|⟨rfl,o,hk,hc,hd⟩|⟨rfl,hk⟩|⟨rfl,S,n,hk⟩
  ·obtain ⟨its,_,pl,_⟩:=I.list hq
   refine ⟨pl.isList.typeIs,fun a e=>?_⟩
   cases e
   obtain ⟨o,n,e,c,hd,_⟩:=pl
   exact ⟨o,e,hd⟩
  ·refine ⟨⟨o,I.kIn p o hk,hc⟩,fun a e=>?_⟩
   cases e
   exact ⟨o,I.kIn _ o hk,hd⟩
  ·have z:∃ o,s.heap.get? p=some o∧o.ExactDict:=by
    rcases hk with ⟨kvs,hk⟩|⟨kvs,hk⟩
    ·obtain ⟨_,_,_,_,o,_,_,e,ex,_⟩:=I.hok p _ hk
     exact ⟨o,e,ex⟩
    ·obtain ⟨_,_,_,_,o,_,_,e,ex,_⟩:=I.hok p _ hk
     exact ⟨o,e,ex⟩
   obtain ⟨o,e,ex⟩:=z
   refine ⟨⟨o,e,ex.1⟩,fun a e2=>?_⟩
   cases e2
   exact ⟨o,e,ex.2.1⟩
  ·obtain ⟨o,_,_,_,e,ex,_⟩:=I.hok p _ hk
   refine ⟨⟨o,e,ex.1⟩,fun a e2=>?_⟩
   cases e2
   exact ⟨o,e,ex.2.1⟩
 | _=>exact False.elim ty
noncomputable def CA (K:PySem.W.Frag) (T:String) (r:V→List V→Hp→VK→Prop) (to:TE):TE:=fun σ H Q=>to σ H fun x H1=>tyV K T x H1∧r x [] H1 Q
noncomputable def tBM (K:PySem.W.Frag) (T:String) (r:V→List V→Hp→VK→Prop) (to:TE) (t:TA):TE:=fun σ H Q=>to σ H fun x H1=>tyV K T x H1∧t σ H1 fun xs H2=>r x xs H2 Q
variable {o e:Expr}{es:List Expr}{to:TE}{t:TA}{name:Str}{apos cpos:Pos}{T id:String}{r:V→List V→Hp→VK→Prop}
theorem zK (pa:PlainAttrs T) (slot:Slot T name id) (hty:typeOf (.builtin id)=pure (.type "method_descriptor")) (hm:MtR X id r) (ho:PE X o to)
  (hbase:attributeBase o name X.env (eval o X.env)=eval o X.env:=by rfl) (hline:(apos.endLine==cpos.line)=true:=by rfl):PE X (.Call (.Attribute o name apos) [] [] cpos) (CA X.K T r to):=by
 intro pins s σ H Q I h
 refine wpAny_Call_method0_late hbase hline (thn (ho pins s σ H _ I h) fun v s1 ⟨x,H1,I1,r1,ty,q1⟩=>?_)
 obtain ⟨h1,h2⟩:=uO I1 r1 ty
 exact ⟨T,id,pa,slot,hty,h1,h2,Calls.callWith_builtin rfl (PySem.evalArgs_none (hm pins s1 σ H1 x [] v [] Q I1 r1 .nil q1))⟩
theorem BN (pa:PlainAttrs T) (slot:Slot T name id) (hty:typeOf (.builtin id)=pure (.type "method_descriptor")) (hm:MtR X id r) (ho:PE X o to) (ha:PA X (e::es) t)
  (hbase:attributeBase o name X.env (eval o X.env)=eval o X.env:=by rfl)
  (hfew:((backTo cpos (starEach (e::es) X.env)).all (fun x=>!x.1)&&(backToKw cpos (keywordEach [] X.env)).all (fun x=>x.1.isSome)
   && decide ((e::es).length+([]:List Keyword).length+(if ([]:List Keyword).isEmpty then 0 else 1)<30))=true:=by rfl)
  (hline:(apos.endLine==cpos.line)=true:=by rfl) (hs:starEach (e::es) X.env=(false,eval e X.env)::starEach es X.env:=by rfl) (hplain:(backTo cpos (starEach es X.env)).any (·.1)=false:=by rfl) :
  PE X (.Call (.Attribute o name apos) (e::es) [] cpos) (tBM X.K T r to t):=by
 intro pins s σ H Q I h
 refine wpAny_Call_method_late hbase hfew hline rfl (thn (ho pins s σ H _ I h) fun v s1 ⟨x,H1,I1,r1,ty,q1⟩=>?_)
 obtain ⟨h1,h2⟩:=uO I1 r1 ty
 refine ⟨T,id,pa,slot,hty,h1,h2,?_⟩
 have hA:=ha cpos pins s1 σ H1 _ I1 q1
 rw [hs] at hA ⊢
 refine Calls.callWith_builtin (by show (false || (backTo cpos (starEach es X.env)).any (·.1))=false;rw[hplain] <;> rfl) (Calls.evalArgs_plain ?_)
 exact thn hA fun us s2 ⟨vs,H2,I2,r2,q2⟩=>hm pins s2 σ H2 x vs v us Q I2 r1 r2 q2
end
noncomputable def MtM (X:Cx) (id:String) (r:V→List V→Hp→VK→Prop):Prop :=
 ∀ (pins:List (Addr×Obj)) (s:Shared) (σ:St) (H:Hp) (x:V) (xs:List V) (v:Value) (us:List Value) (Q:VK),Inv X pins σ H s→bz x v→aK xs us→r x xs H Q →
  wpAny (model X.prog X.w) X.A (call (.builtin id) (v::us)) (EP X pins σ Q) X.xe s
theorem aK.consI {x:V}{xs:List V}{us:List Value} (h:aK (x::xs) us):∃ u vs,us=u::vs∧bz x u∧aK xs vs:=by
 cases h with
 | cons r q=>exact⟨_,_,rfl,r,q⟩
theorem aK.zero {us:List Value} (h:aK [] us):us=[]:=by
 cases h
 rfl
theorem aK.one {x:V}{us:List Value} (h:aK [x] us):∃ u,us=[u]∧bz x u:=by
 obtain ⟨u,vs,rfl,r,q⟩:=h.consI
 rw [aK.zero q]
 exact ⟨u,rfl,r⟩
theorem aK.dropLast {xs:List V}{us:List Value} (h:aK xs us):aK xs.dropLast us.dropLast:=by
 induction h with
 | nil=>exact .nil
 | cons r t ih =>
  cases t with
  | nil=>exact .nil
  | cons q t'=>exact .cons r ih
theorem aK.eraseIdx:∀ {xs:List V}{us:List Value} (i:Nat),aK xs us→aK (xs.eraseIdx i) (us.eraseIdx i)
 | _,_,_,.nil=>.nil
 | _,_,0,.cons _ t=>t
 | _,_,i+1,.cons r t=>.cons r (aK.eraseIdx i t)
theorem aK.reverse {xs:List V}{us:List Value} (h:aK xs us):aK xs.reverse us.reverse:=by
 induction h with
 | nil=>exact .nil
 | cons r t ih=>rw[List.reverse_cons,List.reverse_cons];exact aK.append ih (.cons r .nil)
theorem oQ {α:Type} (l:List α):l.eraseIdx (l.length - 1)=l.dropLast:=by
 induction l with
 | nil=>rfl
 | cons a r ih =>
  cases r with
  | nil=>rfl
  | cons b r =>
   have e:(a::b::r).length - 1=((b::r).length - 1)+1:=by
    have h1:(a::b::r).length=r.length+2:=rfl
    have h2:(b::r).length=r.length+1:=rfl
    omega
   rw [e,List.eraseIdx_cons_succ,ih]
   all_goals rfl
theorem jJ {α:Type}:∀ (l:List α) (i:Nat),(l.eraseIdx i).length≤l.length
 | [],_=>D2 _
 | _::_,0=>EO _
 | _::r,i+1=>Nat.succ_le_succ (jJ r i)
section
variable {X:Cx}{pins:List (Addr×Obj)}{σ:St}{H:Hp}{s:Shared}{l b:Addr}{xs ys zs:List V}
theorem Inv.lset {its its':List Value}{n:Nat}{f:Array Value→Array Value}{t':Nat} (I:Inv X pins σ H s) (hH:H l=some (.lst xs))
  (e : s.heap.get? l=some { cls:=.type "list",data:=.seq its.toArray n }) (hf:f its.toArray=its'.toArray) (hv:aK ys its') (hz:ys.length≤sizeLine) :
  Inv X pins σ (upd H l (.lst ys)) { s with heap:=s.heap.update l (Obj.mapSeq f),toks:=t' }:=by
 have q:=PySem.IsL.update e f
 rw [hf] at q
 refine I.write (x:=l) (e:=l) (by rw[hH];exact trivial) (.inl rfl) (fun b' u hb hu=>(EQ s.heap (Obj.mapSeq f) (Ne.symm hb)).trans hu) ⟨_,q⟩ ?_
 exact ⟨hz,its',_,hv,q⟩
theorem Inv.lnew {its:List Value}{t':Nat} (I:Inv X pins σ H s) (hv:aK ys its) (hz:ys.length≤sizeLine) :
  Inv X pins σ (upd H s.heap.objs.size (.lst ys)) { s with heap:=s.heap.push { cls:=.type "list",data:=.seq its.toArray },toks:=t' } :=
 I.laid (fun _ _ q=>DU _ q) (D2 _) ⟨hz,its,0,hv,D8 _ rfl⟩
theorem Inv.fresh (I:Inv X pins σ H s):H s.heap.objs.size=none:=I.hok.fresh (D2 _)
theorem Inv.lstM (I:Inv X pins σ H s) (hH:H l=some (.lst xs)):xs.length≤sizeLine∧∃ (its:List Value) (n:Nat),aK xs its∧xs.length=its.length∧s.heap.get? l=some { cls:=.type "list",data:=.seq its.toArray n }:=by
 obtain ⟨z,its,n,r,e⟩:=I.hok l _ hH
 exact ⟨z,its,n,r,r.length,e⟩
end
section
variable {X:Cx}
noncomputable def wB:V→List V→Hp→VK→Prop:=fun x vs H Q=>∃ l xs y,x=.ref l∧vs=[y]∧H l=some (.lst xs)∧xs.length<sizeLine∧Q .non (upd H l (.lst (xs++[y])))
theorem jH:MtM X "list.append" wB:=by
 intro pins s σ H x vs v us Q I rx rv h
 obtain ⟨l,xs,y,rfl,rfl,hH,hz,q⟩:=h
 cases rx
 obtain ⟨u,rfl,ru⟩:=rv.one
 obtain ⟨z,its,n,r,hl,e⟩:=I.lstM hH
 refine call_meets F.slot_list_append ⟨_,e,rfl⟩ F.entry_list_append (F.args_list_append_2 _ _) (PySem.list_append l its.toArray n u (by rw[D5];omega)) ⟨e,?_⟩
 refine ⟨.non,_,I.lset (its':=its++[u]) hH e (by simp) (r.append (.cons ru .nil)) ?_,rfl,q⟩
 rw [El,E4]
 omega
noncomputable def Db:V→List V→Hp→VK→Prop:=fun x vs H Q=>∃ l xs y,x=.ref l∧vs=[]∧H l=some (.lst xs)∧xs[xs.length - 1]? = some y∧Q y (upd H l (.lst xs.dropLast))
theorem vk:MtM X "list.pop" Db:=by
 intro pins s σ H x vs v us Q I rx rv h
 obtain ⟨l,xs,y,rfl,rfl,hH,hy,q⟩:=h
 cases rx
 have hus:=rv.zero
 subst hus
 obtain ⟨z,its,n,r,hl,e⟩:=I.lstM hH
 obtain ⟨u,hu,ru⟩:=r.get hy
 have hy':its.toArray[its.toArray.size - 1]? = some u:=by
  show its.toArray[its.length - 1]? = some u
  rw [←Array.getElem?_toList,←hl]
  exact hu
 refine call_meets F.slot_list_pop ⟨_,e,rfl⟩ F.entry_list_pop (F.args_list_pop_1 _) (MeetsSeq.list_pop_last l its.toArray n u hy' (by rw[D5];omega)) ⟨e,?_⟩
 refine ⟨y,_,I.lset (its':=its.dropLast) hH e ?_ r.dropLast ?_,ru,q⟩
 ·show its.toArray.eraseIdxIfInBounds (its.toArray.size - 1)=its.dropLast.toArray
  rw [D5,List.eraseIdxIfInBounds_toArray,oQ]
 ·rw [List.length_dropLast]
  omega
noncomputable def y3:V→List V→Hp→VK→Prop:=fun x vs H Q=>∃ l xs i k y,x=.ref l∧vs=[.int i]∧H l=some (.lst xs)∧-(2 ^ 63)≤i∧i<2 ^ 63∧seqIndex? i xs.length=some k∧xs[k]? = some y∧Q y (upd H l (.lst (xs.eraseIdx k)))
theorem tG:MtM X "list.pop" y3:=by
 intro pins s σ H x vs v us Q I rx rv h
 obtain ⟨l,xs,i,k,y,rfl,rfl,hH,h1,h2,hk,hy,q⟩:=h
 cases rx
 obtain ⟨u,rfl,ru⟩:=rv.one
 obtain ⟨t,rfl⟩:=ru
 obtain ⟨z,its,n,r,hl,e⟩:=I.lstM hH
 obtain ⟨w,hw,rw'⟩:=r.get hy
 refine call_meets F.slot_list_pop ⟨_,e,rfl⟩ F.entry_list_pop (F.args_list_pop_2 _ _)
  (MeetsSeq.list_pop_at l its.toArray n i t k w (fitsIndex_both h1 h2) (by rw[D5,←hl];exact hk) (by rw[←Array.getElem?_toList];exact hw) (by rw[D5];omega)) ⟨e,?_⟩
 refine ⟨y,_,I.lset (its':=its.eraseIdx k) hH e ?_ (r.eraseIdx k) ?_,rw',q⟩
 ·show its.toArray.eraseIdxIfInBounds k=(its.eraseIdx k).toArray
  rw [List.eraseIdxIfInBounds_toArray]
 ·have:=jJ xs k
  omega
end
section
variable {prog:Program}{w:World}{A:Around}{E:Value→Shared→Prop}{s:Shared}
end
section
variable {X:Cx}
end
end L2
namespace Att
open PySem PySem.W PySem.Calls PyProof.Rows
theorem gw {P:Params}{h:Heap}:∀ (ns:List Int) (vs:List Value),WellAll P h vs (ns.map WData.int)→IntsAre vs ns:=by
 intro ns
 induction ns with
 | nil =>
  intro vs w
  rw [Fy] at w
  cases w
  exact .nil
 | cons n ns ih =>
  intro vs w
  rw [Ec] at w
  cases w with
  | cons a b =>
   cases a
   exact .cons _ _ (ih _ b)
theorem pG {l:OpenLaw}{n:Nat} (hn:l.most=some n) {P:Params}{h:Heap}{args:List WData}{vals:List Value}
  (hpre:l.row.toRowW.claim.pre args=true) (hwl:WellAll P h vals args) :
  ∃ a vs ns,vals=[Value.ref a]∧args=[WData.list (ns.map WData.int)]∧h.get? a=some { cls:=.type "list",data:=.seq vs.toArray }∧IntsAre vs ns∧ns.length≤n:=by
 have hsh:WShape.hasAll [] args [.list .int]=true:=(pre_splitW hpre).1
 have hc:l.pre.holds [] { args:=args }=true:=(pre_splitW hpre).2
 obtain ⟨d,r,rfl,h1,h2⟩:=hasAllW_cons hsh
 obtain rfl:=hasAllW_nil h2
 obtain ⟨xs,rfl,h3⟩:=hasW_list h1
 obtain ⟨ns,rfl⟩:=items_int h3
 have hlen:ns.length≤n:=by
  unfold OpenLaw.pre at hc
  have h4:(WTm.not (.lt (.lit (.int (n:Int))) (.len (.arg 0)))).holds [] { args:=[.list (ns.map .int)] }=true:=by
   have h4:=(holds_andW hc).1
   rw [hn] at h4
   exact h4
  have h5:=condW_of h4 (w_not (w_lt w_lit (w_len_list (w_arg rfl))))
  rw [DK] at h5
  refine Nat.le_of_not_lt fun q=>?_
  have q':(n:Int)<((ns.length:Nat):Int):=by omega
  first
   | (rw[decide_eq_true q'] at h5;exact absurd h5 (by decide))
   | (simp at h5;omega)
 cases hwl with
 | cons w1 w2 =>
  cases w2
  cases w1 with
  | list ho hall=>exact⟨_,_,ns,rfl,rfl,ho,gw ns _ hall,hlen⟩
theorem pW (l:OpenLaw) (args:List WData):l.row.toRowW.claim.post args (.bool true) args=true :=
 postW_of (r:=l.row.toRowW) (X:=(true==true))
  (show WShape.has [] (.bool true) .bool=true by first|rfl|decide|simp[WShape.has,WShape.arms,WShape.armsAll])
  (show (WTm.eq .res (.lit (.bool true))).value [] { args:=args,res:=some (.bool true),after:=args }=some (.bool (true==true)) from w_eq_bool (w_res rfl) w_lit) rfl
theorem attach_call {l:OpenLaw}{n:Nat}{q:Program}{loose:List Str}{XP:(Str→Option Value)→Heap→Prop}{YP:World→Heap→Prop}{d:DefRec}
  (hn:l.most=some n) (hdf:d.params.defaults=[])
  (call:∀ (w:World) (s₀ s₁:Shared) (mg mb:Str→Option Value) (fa:Addr) (o:Obj) (pm cd doc:Value) (a:Addr) (vs:List Value) (ns:List Int),
   Ground q loose [] XP w s₀ mg mb s₁.heap→YP w s₁.heap →
   s₁.heap.get? fa=some o→o.data=.func (docDef d.name d.params d.body d.scope pm cd doc)→s₁.heap.CodeRec cd d.name→mg d.name=some (.ref fa) →
   s₁.heap.get? a=some { cls:=.type "list",data:=.seq vs.toArray }→IntsAre vs ns→ns.length≤n→s₁.gens=#[] →
   codeAny (model l.prog w) callerA (.call (.ref fa) ⟨[.ref a],[]⟩) (fun r s'=>r=.ok (.ret (.bool true))∧OldK s₁.heap s'.heap∧s'.os=s₁.os∧AllBare s'.gens) s₁) :
  WalkO q loose XP YP l.row.toRowW d [] (fun f vs=>PySem.call f vs):=by
 intro w s₀ s₁ mg mb G Y fa o pm cd doc dV kV ho hd hcd hD hmg hg args vals as hpre hlay hrd hwl hlo
 obtain rfl:dV=.none:=Dflts.none hD hdf
 obtain rfl:kV=.none:=Dflts.noKw hD
 obtain ⟨a,vs,ns,rfl,rfl,hobj,hints,hlen⟩:=pG hn hpre hwl
 refine enter_call (codeAny_mono (call w s₀ s₁ mg mb fa o pm cd doc a vs ns G Y ho (fd_plain hd) hcd hmg hobj hints hlen hg) fun r s' hq=>?_)
 obtain ⟨rfl,h2,h3,h4⟩:=hq
 exact ⟨.inl ⟨.bool true,.bool true,[],rfl,fun _=>rfl,.bool true,pW l _,fun _=>⟨List.Pairwise.nil,fun _ hm=>(nomatch hm)⟩⟩,h2,h3,h4⟩
section
variable {prog:Program}{w:World}{A:Around}{E:Value→Shared→Prop}{s:Shared}{K:Frag}
end
end Att
namespace L2
open PySem PySem.Spec PyProof.Rows
theorem jh:∀ {vs:List Value}{ns:List Int},IntsAre vs ns→aK (ns.map V.int) vs
 | _,_,.nil=>.nil
 | _,_,.cons n t h=>.cons ⟨t,rfl⟩ (jh h)
noncomputable def Cw (H:Hp):Prop:=∀ b,H b=none∨(∃ o xs,H b=some (.frz o (.lst xs)))∨∃ q,H b=some (.tbl q)
theorem tO {P:Program}{w:World}{K:PySem.W.Frag}{mg mb:Str→Option Value}{CX:CXT}{k:Nat}{fa a:Addr}{fd:FuncData}{x:Str}{sp:Sp}{s₁:Shared}{vs:List Value}{ns:List Int}{tb:List (Addr×Str)}
  (hT:∀ b q,tb.lookup b=some q→s₁.heap.get? b=some { cls:=.none,data:=.fields #[] }∧K.lookup b=none∧∃ c,s₁.heap.TableAt c b #[]) (hLm:∀ T q,gL K T q→tb.lookup T=some q)
  (KX:K.In s₁.heap) (hns:s₁.heap.Ns mainGlobals mg) (hb:s₁.heap.Ns builtinsNs mb) (hbb:∀ x:Str,x ≠ "__name__" → mb x=bootBuiltins x) (hlim:s₁.heap.NoLimit) (hbm:∃ bm ob,mg "__builtins__" = some (.ref bm)∧bm≠builtinsNs∧s₁.heap.get? bm=some ob∧ob.cls=.type "module" ∧ ob.dict=some builtinsNs∧ob.data=.plain) (hg:s₁.gens=#[])
  (ha:s₁.heap.get? a=some { cls:=.type "list",data:=.seq vs.toArray }) (hi:IntsAre vs ns) (hl:ns.length≤sizeLine) (hr:ca k callerA)
  (F : ∀ base:Heap,K.In base→base.Ns mainGlobals mg→b7 P w K mg base CX k fa fd [x] sp) (hbind:∀ (s:Shared) (u:Value),BindsTo s fd ⟨[u],[]⟩ [(x,u)])
  (hsp:∀ H:Hp,Cw H→SqL K H a (ns.map V.int)→sp [.ref a] H (fun v _=>v=.bl true) fun _ _ _=>False)
  (hCX:∀ H e s',CX [] H s₁ (fun _ _ _=>False) e s'→False) :
  codeAny (model P w) callerA (.call (.ref fa) ⟨[.ref a],[]⟩) (fun r s'=>r=.ok (.ret (.bool true))∧OldK s₁.heap s'.heap∧s'.os=s₁.os∧AllBare s'.gens) s₁:=by
 have rv:=jh hi
 have lenV:=hi.length
 have core:∀ H:Hp,Cw H→SqL K H a (ns.map V.int)→HOk P w H s₁.heap→(∀ b u,H b=some u→(b=a∧K.lookup a=none)∨∃ q,tb.lookup b=some q∧u=.tbl q)→(∀ b q,tb.lookup b=some q→H b=some (.tbl q)) →
   codeAny (model P w) callerA (.call (.ref fa) ⟨[.ref a],[]⟩) (fun r s'=>r=.ok (.ret (.bool true))∧OldK s₁.heap s'.heap∧s'.os=s₁.os∧AllBare s'.gens) s₁:=by
  intro H hO hS hok hA hB
  have base_of:∀ {b:Addr}{o:Obj},s₁.heap.get? b=some o→H b=none→(sv s₁.heap H).get? b=some o:=fun e n=>ua e n
  have noA:∀ {b:Addr}{o:Obj}{es:Array DictEntry}{ep:Nat},s₁.heap.get? b=some o→o.data=.dict es ep→H b=none:=fun {b o es ep} e d=>by
   cases q:H b with
   | none=>rfl
   | some u =>
    rcases hA b u q with ⟨e',_⟩|⟨q',e',_⟩
    ·subst e'
     rw [ha] at e;cases e
     have d':Data.seq vs.toArray _=Data.dict es ep:=d
     cases d'
    ·rw [(hT b q' e').1] at e;cases e
     have d':Data.fields _=Data.dict es ep:=d
     cases d'
  have nsK:∀ {b:Addr}{m:Str→Option Value},s₁.heap.Ns b m→(sv s₁.heap H).Ns b m:=fun {b m} ⟨o,es,ep,e,d,r⟩=>⟨o,es,ep,base_of e (noA e d),d,r⟩
  have hKb:K.In (sv s₁.heap H):=fun b o e=>base_of (KX b o e) (by
   cases q:H b with
   | none=>rfl
   | some u =>
    rcases hA b u q with ⟨e',hk⟩|⟨q',e',_⟩
    ·subst e'
     rw [hk] at e;cases e
    ·rw [(hT b q' e').2.1] at e;cases e)
  have hbmK:∃ bm ob,mg "__builtins__" = some (.ref bm)∧bm≠builtinsNs∧(sv s₁.heap H).get? bm=some ob∧ob.cls=.type "module" ∧ ob.dict=some builtinsNs∧ob.data=.plain:=by
   obtain ⟨bm,ob,b1,b2,b3,b4,b5,b6⟩:=hbm
   refine ⟨bm,ob,b1,b2,base_of b3 ?_,b4,b5,b6⟩
   cases q:H bm with
   | none=>rfl
   | some u =>
    rcases hA bm u q with ⟨e',_⟩|⟨q',e',_⟩
    ·subst e'
     rw [ha] at b3;cases b3;cases b6
    ·rw [(hT bm q' e').1] at b3;cases b3;cases b6
  have hM:Mod K mg (sv s₁.heap H):=⟨hKb,nsK hns,⟨mb,nsK hb,hbb⟩,let ⟨mc,h1,h2⟩:=hlim;⟨mc,nsK h1,h2⟩,hbmK⟩
  have e0:lQ P w K mg (sv s₁.heap H) callerA [] s₁ H:=⟨rfl,hM,fun b o e=>xp e,Nat.le_of_eq (qU _ _),trivial,fun b hb=>absurd (show b∈([]:List Addr) from hb) (by simp),hok,.of_eq hg,fun T q h=>hB T q (hLm T q h)⟩
  refine codeAny_mono ((F _ hKb (nsK hns)).run callerA [] s₁ H ⟨[.ref a],[]⟩ [.ref a] [.ref a] _ _ hr e0 (hbind s₁ (.ref a)) (.cons rfl .nil) (hsp H hO hS)) fun r s' h=>?_
  cases r with
  | error e=>exact (hCX H e s' h).elim
  | ok fl =>
   cases fl with
   | next=>exact False.elim h
   | brk=>exact False.elim h
   | cont=>exact False.elim h
   | ret u =>
    obtain ⟨v,H',os,bare,un,hok',r',q⟩:=h
    have q':v=.bl true:=q
    subst q'
    obtain rfl:u=Value.bool true:=r'
    refine ⟨rfl,⟨fun b o e=>?_,fun b o e=>un.there b o e (by simp)⟩,os,bare⟩
    cases q:H b with
    | none=>exact .inl (un.keep b o e q (by intro z;exact absurd (show b∈([]:List Addr) from z) (by simp)) (by simp))
    | some u =>
     rcases hO b with z|⟨ob,xs,z⟩|⟨q',z⟩
     ·rw [q] at z;cases z
     ·have z2:=un.frzs b ob _ z
      obtain ⟨e1,_⟩:=hok b _ z
      obtain ⟨e2,_⟩:=hok' b _ z2
      rw [e] at e1;cases e1
      exact .inl e2
     ·obtain ⟨ps,e2,_⟩:=hok' b _ (un.tbls b q' z)
      rcases hA b _ z with ⟨e',_⟩|⟨q2,e',_⟩
      ·obtain ⟨ps0,e0,_⟩:=hok b _ z
       subst e'
       rw [ha] at e0;cases e0
      ·obtain ⟨t1,_,c,t2⟩:=hT b q2 e'
       rw [e] at t1;cases t1
       exact .inr (.inl ⟨t2.isCodeTable,rfl,#[],ps,rfl,by simpa using e2⟩)
 cases hk:K.lookup a with
 | some o =>
  have e:=KX a o hk
  rw [ha] at e
  cases e
  refine core (fun b=>(tb.lookup b).map .tbl) (fun b=>?_) (.inr ⟨_,vs.toArray,_,hk,rfl,rfl,rfl,by rw[D5,lenV];exact hl,by simpa using rv⟩) (fun b u z=>?_) (fun b u z=>?_) fun b q z=>by show (tb.lookup b).map HO.tbl=_;rw[z];rfl
  ·cases z:tb.lookup b with
   | none=>exact .inl (by show (tb.lookup b).map HO.tbl=_;rw[z];rfl)
   | some q=>exact .inr (.inr ⟨q,by show (tb.lookup b).map HO.tbl=_;rw[z];rfl⟩)
  ·have z:(tb.lookup b).map HO.tbl=some u:=z
   cases q:tb.lookup b with
   | none=>rw[q] at z;cases z
   | some q' =>
    rw [q] at z;cases z
    exact ⟨#[],(hT b q' q).1,trivial,fun pos cv h=>by cases (show (none:Option Value)=some cv from h)⟩
  ·have z:(tb.lookup b).map HO.tbl=some u:=z
   cases q:tb.lookup b with
   | none=>rw[q] at z;cases z
   | some q'=>rw[q] at z;cases z;exact .inr ⟨q',rfl,rfl⟩
 | none =>
  have hna:tb.lookup a=none:=by
   cases z:tb.lookup a with
   | none=>rfl
   | some q =>
    have e:=(hT a q z).1
    rw [ha] at e
    cases e
  have hne:∀ b,b≠a→(if b=a then some (HO.frz { cls:=.type "list",data:=.seq vs.toArray } (.lst (ns.map V.int))) else (tb.lookup b).map .tbl)=(tb.lookup b).map .tbl:=fun b hb=>if_neg hb
  refine core (fun b=>if b=a then some (.frz { cls:=.type "list",data:=.seq vs.toArray } (.lst (ns.map V.int))) else (tb.lookup b).map .tbl) (fun b=>?_) (.inl (.inr ⟨{ cls:=.type "list",data:=.seq vs.toArray },if_pos rfl⟩)) (fun b u z=>?_) (fun b u z=>?_) fun b q z=>?_
  ·by_cases hb:b=a
   ·exact .inr (.inl ⟨_,_,if_pos hb⟩)
   ·dsimp only
    rw [hne b hb]
    cases z:tb.lookup b with
    | none=>exact .inl rfl
    | some q=>exact .inr (.inr ⟨q,rfl⟩)
  ·by_cases hb:b=a
   ·have z':=(if_pos hb).symm.trans z
    cases z'
    subst hb
    exact ⟨ha,by rw[DK];exact hl,vs,_,rv,ha⟩
   ·have z:(tb.lookup b).map HO.tbl=some u:=(hne b hb).symm.trans z
    cases q:tb.lookup b with
    | none=>rw[q] at z;cases z
    | some q' =>
     rw [q] at z;cases z
     exact ⟨#[],(hT b q' q).1,trivial,fun pos cv h=>by cases (show (none:Option Value)=some cv from h)⟩
  ·by_cases hb:b=a
   ·exact .inl ⟨hb,hk⟩
   ·have z:(tb.lookup b).map HO.tbl=some u:=(hne b hb).symm.trans z
    cases q:tb.lookup b with
    | none=>rw[q] at z;cases z
    | some q'=>rw[q] at z;cases z;exact .inr ⟨q',rfl,rfl⟩
  ·have hb:b≠a:=fun e=>by subst e;rw[hna] at z;cases z
   exact (hne b hb).trans (by rw[z];rfl)
theorem wl {l:PySem.W.OpenLaw}{n k:Nat}{q:Program}{loose:List Str}{XP:(Str→Option Value)→Heap→Prop}{YP:World→Heap→Prop}{d:DefRec}{K:Params→PySem.W.Frag}{CX:World→CXT}{sp:World→Sp}{x:Str}
  (hn:l.most=some n) (hn2:n≤sizeLine) (hdf:d.params.defaults=[]) (hr:ca k callerA)
  (hTb:∀ (w:World) (s₀:Shared) (mg mb:Str→Option Value) (h:Heap),PySem.W.Ground q loose [] XP w s₀ mg mb h→(K w.params).In h→∃ tb:List (Addr×Str),(∀ b q,tb.lookup b=some q→h.get? b=some { cls:=.none,data:=.fields #[] }∧(K w.params).lookup b=none∧∃ c,h.TableAt c b #[])∧∀ T q,gL (K w.params) T q→tb.lookup T=some q)
  (hY:∀ (w:World) (h:Heap),YP w h→(K w.params).In h)
  (F : ∀ (w:World) (mg:Str→Option Value) (fa:Addr) (h:Heap),(K w.params).In h→h.Ns mainGlobals mg→mg d.name=some (.ref fa) →
   ∃ fd:FuncData,(∀ (s:Shared) (u:Value),BindsTo s fd ⟨[u],[]⟩ [(x,u)]) ∧
    ∀ base:Heap,(K w.params).In base→base.Ns mainGlobals mg→b7 l.prog w (K w.params) mg base (CX w) k fa fd [x] (sp w))
  (hsp:∀ (w:World) (H:Hp) (a:Addr) (ns:List Int),ns.length≤n→Cw H→SqL (K w.params) H a (ns.map V.int)→sp w [.ref a] H (fun v _=>v=.bl true) fun _ _ _=>False)
  (hCX:∀ (w:World) (H:Hp) (s:Shared) (e:Value) (s':Shared),CX w [] H s (fun _ _ _=>False) e s'→False) :
  PySem.W.WalkO q loose XP YP l.row.toRowW d [] (fun f vs=>PySem.call f vs):=by
 refine Att.attach_call hn hdf fun w s₀ s₁ mg mb fa o pm cd doc a vs ns G Y ho hd hcd hmg hobj hints hlen hg=>?_
 have KX:=hY w _ Y
 obtain ⟨fd,hb,hF⟩:=F w mg fa _ KX G.T.g hmg
 obtain ⟨tb,hT,hLm⟩:=hTb w s₀ mg mb _ G KX
 exact tO hT hLm KX G.T.g G.T.b G.T.builtins G.T.nolimit G.T.bmain hg hobj hints (D1 hlen hn2) hr hF hb (fun H hO hS=>hsp w H a ns hlen hO hS) fun H e s'=>hCX w H s₁ e s'
noncomputable def xK (s:Stmt) (j:Nat):Stmt:=match s with
 | .ClassDef _ _ _ body _ _ _ _ _ _ _=>body.getD j (.Pass ⟨0,0,0,0⟩)
 | _=>.Pass ⟨0,0,0,0⟩
noncomputable def cH (s:Stmt):Arguments:=match s with
 | .FunctionDef _ a _ _ _ _ _ _ _ _=>a
 | _=>{ posonlyargs:=[],args:=[],vararg:=none,kwonlyargs:=[],kw_defaults:=[],kwarg:=none,defaults:=[] }
noncomputable def bB (s:Stmt):List Stmt:=match s with
 | .FunctionDef _ _ b _ _ _ _ _ _ _=>b
 | _=>[]
noncomputable def ad (s:Stmt):Scope:=match s with
 | .FunctionDef _ _ _ _ _ _ sc _ _ _=>sc
 | _=>{ kind:=.function,names:=[],isGenerator:=false,isCoroutine:=false }
noncomputable abbrev CX0:CXT:=fun _ _ _ _ _ _=>False
noncomputable abbrev E0:XK:=fun _ _ _=>False
theorem BR {X:Cx}:kx CX0 X E0:=fun _ _ _ _ _ _ _ h=>h.elim
structure Fun (K:PySem.W.Frag) (x qual:Str) (st:Stmt) (f:Addr) (fd:FuncData):Prop where
 ex : ∃ (oc:Value) (od:Option Addr) (kV doc pm:Value) (an:Option Addr) (cdv ct:Value) (osl:Array (Option Value)),
  fd = PySem.W.fnOf x qual (cH st) (bB st) (ad st) .none kV doc pm an cdv ct∧K.lookup f=some ⟨oc,od,.func fd,osl⟩∧PySem.W.codeIn K cdv qual=true
 kp : PySem.W.keepIn K (.ref f)=true
section
variable {P:Program}{w:World}{K:PySem.W.Frag}{mg:Str→Option Value}{base:Heap}
theorem Fun.ok {x qual:Str}{st:Stmt}{f:Addr}{fd:FuncData}{N ps:List Str}{k:Nat}{sp:Sp} (F:Fun K x qual st f fd) (S:au N ps (ad st)) (len:∀ vs H Q E,sp vs H Q E→vs.length=ps.length)
  (hbody:∀ (cdv:Value) (A:Around) (outer:List Env) (s:Shared) (H:Hp) (vs:List V) (Q:VK) (E:XK),ca k (A.deeper (envOfC qual (ad st) s.heap.objs.size f cdv))→sp vs H Q E →
   ∃ t,PSs (dH CX0 P w K mg base N qual (ad st) f cdv A outer s H E).nox (bB st) t∧t { nx:=fun _ H'=>Q .non H',rt:=Q } (bu N vs) H):b7 P w K mg base CX0 (k+1) f fd ps sp:=by
 obtain ⟨oc,od,kV,doc,pm,an,cdv,ct,osl,rfl,lk,hcd⟩:=F.ex
 refine xO lk hcd S len fun A outer s H vs Q E hr hsp=>?_
 obtain ⟨t,h,q⟩:=hbody cdv A outer s H vs Q E hr hsp
 exact ⟨t,h.nox,q⟩
theorem Fun.binds {x qual:Str}{st:Stmt}{f:Addr}{fd:FuncData}{ps:List Str} (F:Fun K x qual st f fd)
  (h : ∀ (kV doc pm:Value) (an:Option Addr) (cdv ct:Value) (us:List Value),us.length=ps.length→bindArgs (PySem.W.fnOf x qual (cH st) (bB st) (ad st) .none kV doc pm an cdv ct) ⟨us,[]⟩=pure (ps.zip us)):br K fd ps []:=by
 obtain ⟨oc,od,kV,doc,pm,an,cdv,ct,osl,rfl,lk,hcd⟩:=F.ex
 exact .all (h kV doc pm an cdv ct)
theorem qW {x qual:Str}{st:Stmt}{f:Addr}{oc:Value}{od an:Option Addr}{osl:Array (Option Value)}{kV doc pm cdv ct:Value} (l:K.lookup f=some ⟨oc,od,.func (PySem.W.fnOf x qual (cH st) (bB st) (ad st) .none kV doc pm an cdv ct),osl⟩)
  (c : PySem.W.codeIn K cdv qual=true) (k:PySem.W.keepIn K (.ref f)=true):Fun K x qual st f (PySem.W.fnOf x qual (cH st) (bB st) (ad st) .none kV doc pm an cdv ct):=⟨⟨oc,od,kV,doc,pm,an,cdv,ct,osl,rfl,l,c⟩,k⟩
end
section
variable {X:Cx}
theorem pv (i:Nat) {x:Str}{pos:Pos} (hN:X.N[i]? = some x:=by rfl) (hv:Vis X.env.scope x:=by first|exact Or.inl rfl|exact Or.inr (Or.inl rfl)|exact Or.inr (Or.inr rfl)) (hd:(x==("__debug__" : Str))=false:=by decide)
  (hcd:(x==("__classdict__" : Str))=false:=by decide):PE X (.Name x pos) (Bl i):=c8 hN hv hd hcd
end
theorem fM {c A B:Prop} [Decidable c] (h1:c→A) (h2:¬c→B):if c then A else B:=by
 by_cases h:c
 ·rw [if_pos h]
  exact h1 h
 ·rw [if_neg h]
  exact h2 h
noncomputable def aO (H H':Hp):Prop:=∀ b o,H b=some o→H' b=some o
theorem aO.refl (H:Hp):aO H H:=fun _ _ h=>h
theorem aO.trans {H H1 H2:Hp} (a:aO H H1) (b:aO H1 H2):aO H H2:=fun c o h=>b c o (a c o h)
theorem aO.free {H H':Hp} (e:aO H H') {l:Addr} (h:H' l=Option.none):H l=Option.none:=by
 cases q:H l with
 | none=>rfl
 | some o =>
  rw [e l o q] at h
  cases h
theorem aO.seq {K:PySem.W.Frag}{H H':Hp}{a:Addr}{xs:List V} (e:aO H H') (h:SqL K H a xs):SqL K H' a xs:=by
 rcases h with (h|⟨o,h⟩)|h
 ·exact .inl (.inl (e _ _ h))
 ·exact .inl (.inr ⟨o,e _ _ h⟩)
 ·exact .inr h
end L2
set_option maxHeartbeats 4000000
namespace L2
open PySem PySem.Spec PyProof.Rows
noncomputable def b9 (env:Env):List (Str×NameKind)→List (Str×Addr)→List (Str×Addr)
 | [],acc=>acc
 | (n,k)::r,acc=>if (k==.free)=true then b9 env r ((n,(env.cells.lookup n).getD 0)::acc) else b9 env r acc
theorem eP {env:Env} (f:Str×NameKind→List (Str×Addr)→Sem (ForInStep (List (Str×Addr))))
  (hf:∀ name kind cs,f (name,kind) cs=if (kind==.free)=true then (do let c ←cellOf env name;pure (.yield ((name,c)::cs))) else pure (.yield cs)) :
  ∀ (names:List (Str×NameKind)) (acc:List (Str×Addr)),(∀ y∈names,y.2=.free→(env.cells.lookup y.1).isSome=true)→forIn names acc f=(pure (b9 env names acc):Sem _)
 | [],acc,_=>by rw[Fe];rfl
 | (n,k)::r,acc,h=>by
  rw [Fs,hf]
  unfold b9
  by_cases hk:(k==NameKind.free)=true
  ·rw [if_pos hk,if_pos hk]
   obtain ⟨c,hc⟩:=Option.isSome_iff_exists.mp (h (n,k) DY (by simpa using hk))
   have e:cellOf env n=pure c:=by unfold cellOf;rw[hc]
   rw [e,hc]
   simp only [pure_bind]
   exact eP f hf r _ fun y hy=>h y (D0 _ hy)
  ·rw [if_neg hk,if_neg hk]
   simp only [pure_bind]
   exact eP f hf r _ fun y hy=>h y (D0 _ hy)
theorem i4 {scope:Scope}{env:Env} (h:∀ y∈scope.names,y.2=.free→(env.cells.lookup y.1).isSome=true):closureFor scope env=pure (b9 env scope.names []):=by
 simp only [closureFor]
 rw [eP (env:=env) _ (fun name kind cs=>by cases hk:kind==NameKind.free <;> simp[hk]) scope.names [] h]
 rfl
theorem cf (env:Env) (x:Str):∀ (names:List (Str×NameKind)) (acc:List (Str×Addr)),(b9 env names acc).lookup x=if (x,NameKind.free)∈names then some ((env.cells.lookup x).getD 0) else acc.lookup x
 | [],acc=>by simp[b9]
 | (n, k)::r,acc=>by
  unfold b9
  by_cases hk:(k==NameKind.free)=true
  ·have ek:k=NameKind.free:=by simpa using hk
   subst ek
   rw [if_pos hk,cf env x r]
   by_cases hr:(x,NameKind.free)∈r
   ·rw [if_pos hr,if_pos (D0 _ hr)]
   ·rw [if_neg hr,Er]
    by_cases hx:x=n
    ·subst hx
     simp
    ·have e1:(x==n)=false:=beq_eq_false_iff_ne.mpr hx
     rw [e1]
     have e2:¬(x,NameKind.free)∈(n,NameKind.free)::r:=by
      intro z
      rcases D3.mp z with z|z
      ·exact hx (Prod.mk.inj z).1
      ·exact hr z
     rw [if_neg e2]
  ·rw [if_neg hk,cf env x r]
   have e2:(x,NameKind.free)∈(n,k)::r↔(x,NameKind.free)∈r:=by
    constructor
    ·intro z
     rcases D3.mp z with z|z
     ·exact absurd (by rw[(Prod.mk.inj z).2.symm];rfl) hk
     ·exact z
    ·exact D0 _
   by_cases hr:(x,NameKind.free)∈r
   ·rw [if_pos hr,if_pos (e2.mpr hr)]
   ·rw [if_neg hr,if_neg (fun z=>hr (e2.mp z))]
theorem bd:∀ (names:List (Str×NameKind)) (n:Nat) (acc:List (Str×Addr)),cellsFrom n names acc=cellsFrom n names []++acc
 | [],n,acc=>by simp[cellsFrom]
 | (x,k)::r,n,acc=>by
  unfold cellsFrom
  split
  ·rw [bd r (n+1) ((x,n)::acc),bd r (n+1) [(x,n)]]
   simp
  ·exact bd r n acc
theorem bO:∀ (names:List (Str×NameKind)) (n:Nat) (x:Str) (c:Addr),(x,c)∈cellsFrom n names []→(x,NameKind.cell)∈names∧n≤c
 | [],n,x,c,h=>by simp[cellsFrom] at h
 | (y,k)::r,n,x,c,h=>by
  unfold cellsFrom at h
  split at h
  ·rename_i hk
   rw [bd] at h
   rcases DQ.mp h with h|h
   ·have q:=bO r (n+1) x c h
    exact ⟨D0 _ q.1,by omega⟩
   ·have e:(x,c)=(y,n):=by simpa using h
    cases e
    have ek:k=NameKind.cell:=by simpa using hk
    subst ek
    exact ⟨DY,D2 _⟩
  ·have q:=bO r n x c h
   exact ⟨D0 _ q.1,q.2⟩
theorem aA {α:Type}:∀ {l:List (Str×α)}{x:Str}{k:α},(l.map (·.1)).Nodup→(x,k)∈l→l.lookup x=some k
 | (y,j)::r,x,k,nd,h=>by
  rw [Er]
  rcases D3.mp h with e|h
  ·cases e;simp
  ·have nd':=Ej.mp nd
   have this:x≠y:=fun z=>nd'.1 (by
    rw [←z]
    exact D4.mpr ⟨(x,k),h,rfl⟩)
   rw [beq_eq_false_iff_ne.mpr this]
   exact aA nd'.2 h
theorem ln {M:Model}{A:Around}{E:Value→Shared→Prop}{s:Shared}{scope:Scope}{globals:Addr}{cl:List (Str×Addr)}{qual:Str}{env:Env}{Q:Env→Shared→Prop}
  (h : Q (newEnv scope s.heap.objs.size globals (cellsFrom (s.heap.objs.size+1) scope.names cl) qual none .none (some env) builtinsNs) { s with heap:=pushCells (s.heap.push { cls:=.type "dict",data:=.dict #[] }) scope.names }) :
  wpAny M A (newFunctionEnv scope globals cl [] qual none .none (some env)) Q E s:=by
 simp only [newFunctionEnv,Option.isSome_some,if_true]
 refine wpAny_bind (wpAny_alloc ?_)
 refine wpAny_bind (wpAny_layCells _ (fun name kind cells=>by cases hkc:kind==NameKind.cell <;> simp[hkc]) _ _ _ _ ?_)
 rw [show ({ s with heap:=s.heap.push { cls:=.type "dict",data:=.dict #[] } }:Shared).heap.objs.size=s.heap.objs.size+1 from ED ..]
 rw [Fe]
 exact wpAny_bind (wpAny_pure (wpAny_pure h))
structure cb (N:List Str) (env:Env) (N':List Str) (ix:List (Option Nat)) (sc:Scope):Prop where
 kind:sc.kind=.function
 ndn:(sc.names.map (·.1)).Nodup
 free:∀ y∈sc.names,y.2=.free→env.kindOf y.1=some .cell∨env.kindOf y.1=some .free
 len:ix.length=N'.length
 cap:∀ (i j:Nat),ix[i]? = some (some j)→∃ x,N'[i]? = some x∧N[j]? = some x∧sc.names.lookup x=some .free
theorem cb.names {N:List Str}{env:Env}{N':List Str}{ix:List (Option Nat)}{sc:Scope} (S:cb N env N' ix sc):∀ y∈sc.names,y.2=.local→sc.names.lookup y.1=some .local:=fun y hy e=>by
 obtain ⟨x,k⟩:=y
 cases e
 exact aA S.ndn hy
noncomputable def db (σ:St) (ix:List (Option Nat)):St:=ix.map fun o=>o.bind fun j=>(σ[j]?).join
noncomputable def o8 (sc:Scope) (C:Addr) (env:Env):Env:=compEnvC sc (cellsFrom (C+1) sc.names (b9 env sc.names [])) C env
noncomputable def bCx (X:Cx) (N':List Str) (sc:Scope) (s:Shared) (H:Hp) (C:Addr) (fp:List Addr):Cx where
 prog:=X.prog
 w := X.w
 K := X.K
 mg := X.mg
 base:=X.base
 A := X.A
 N := N'
 s₀ := s
 H₀ := H
 env:=o8 sc C X.env
 outer:=X.stack
 stack:=X.stack
 ex := fp
 fn := fun x=>decide (sc.names.lookup x=some .cell)
 calm:=X.calm
 pn := []
 xe := fun _ _=>False
theorem dJ {env:Env}:∀ {names:List (Str×NameKind)}{x:Str}{k:NameKind},names.lookup x=some k →
  (names.map fun (n,k)=>if (k==NameKind.free&&env.scope.kind==.function&&env.kindOf n==some .cell) then (n,NameKind.cell) else (n,k)).lookup x=some (if (k==NameKind.free&&env.scope.kind==.function&&env.kindOf x==some .cell)=true then .cell else k)
 | [],_,_,h=>by simp at h
 | (n,j)::r,x,k,h=>by
  have ih:=@dJ env r x k
  show List.lookup x ((if (j==NameKind.free&&env.scope.kind==.function&&env.kindOf n==some .cell)=true then (n,NameKind.cell) else (n,j))::_)=_
  cases hx:x==n with
  | true =>
   have e:x=n:=by simpa using hx
   subst e
   simp only [Er,hx] at h
   have ej:j=k:=Option.some.inj h
   subst ej
   by_cases hc:(j==NameKind.free&&env.scope.kind==.function&&env.kindOf x==some .cell)=true
   ·rw [if_pos hc,if_pos hc];simp[Er]
   ·rw [if_neg hc,if_neg hc];simp[Er]
  | false =>
   simp only [Er,hx] at h
   by_cases hc:(j==NameKind.free&&env.scope.kind==.function&&env.kindOf n==some .cell)=true
   ·rw [if_pos hc];simp only [Er,hx];exact ih h
   ·rw [if_neg hc];simp only [Er,hx];exact ih h
theorem ck {env:Env}:∀ {names:List (Str×NameKind)}{x:Str},names.lookup x=none →
  (names.map fun (n,k)=>if (k==NameKind.free&&env.scope.kind==.function&&env.kindOf n==some .cell) then (n,NameKind.cell) else (n,k)).lookup x=none
 | [],_,_=>rfl
 | (n,j)::r,x,h=>by
  have ih:=@ck env r x
  show List.lookup x ((if (j==NameKind.free&&env.scope.kind==.function&&env.kindOf n==some .cell)=true then (n,NameKind.cell) else (n,j))::_)=_
  cases hx:x==n with
  | true=>simp only [Er,hx] at h;cases h
  | false =>
   simp only [Er,hx] at h
   by_cases hc:(j==NameKind.free&&env.scope.kind==.function&&env.kindOf n==some .cell)=true
   ·rw [if_pos hc];simp only [Er,hx];exact ih h
   ·rw [if_neg hc];simp only [Er,hx];exact ih h
theorem gH {sc:Scope}{C:Addr}{env:Env}{x:Str}{k:NameKind} (h:sc.names.lookup x=some k):(o8 sc C env).kindOf x=some (if (k==NameKind.free&&env.scope.kind==.function&&env.kindOf x==some .cell)=true then .cell else k):=dJ h
theorem rS {sc:Scope}{C:Addr}{env:Env}{x:Str} (h:sc.names.lookup x=none):(o8 sc C env).kindOf x=none:=ck h
section
variable {X:Cx}{N':List Str}{ix:List (Option Nat)}{sc:Scope}
theorem gJ (S:cb X.N X.env N' ix sc) {C:Addr}{x:Str}{c:Addr} (h:(o8 sc C X.env).cells.lookup x=some c) :
  (sc.names.lookup x=some .cell∧C+1≤c∧(x,c)∈cellsFrom (C+1) sc.names [])∨(sc.names.lookup x=some .free∧c=(X.env.cells.lookup x).getD 0):=by
 have e:(o8 sc C X.env).cells=cellsFrom (C+1) sc.names []++b9 X.env sc.names []:=bd _ _ _
 rw [e] at h
 rcases DQ.mp (mem_of_lookup h) with q|q
 ·obtain ⟨a,b⟩:=bO _ _ _ _ q
  exact .inl ⟨aA S.ndn a,b,q⟩
 ·have fr:(x,NameKind.free)∈sc.names:=by
   have z:∀ (names:List (Str×NameKind)) (acc:List (Str×Addr)),(x,c)∈b9 X.env names acc→(x,c)∈acc∨(x,NameKind.free)∈names:=by
    intro names
    induction names with
    | nil=>intro acc h;exact .inl h
    | cons y r ih =>
     obtain ⟨n,k⟩:=y
     intro acc h
     unfold b9 at h
     split at h
     ·rename_i hk
      have ek:k=NameKind.free:=by simpa using hk
      subst ek
      rcases ih _ h with h|h
      ·rcases D3.mp h with h|h
       ·cases h;exact .inr DY
       ·exact .inl h
      ·exact .inr (D0 _ h)
     ·rcases ih _ h with h|h
      ·exact .inl h
      ·exact .inr (D0 _ h)
   rcases z _ _ q with q|q
   ·simp at q
   ·exact q
  have hf:=aA S.ndn fr
  have hn:(cellsFrom (C+1) sc.names []).lookup x=none:=by
   cases z:(cellsFrom (C+1) sc.names []).lookup x with
   | none=>rfl
   | some d =>
    have q':=bO _ _ _ _ (mem_of_lookup z)
    have:=aA S.ndn q'.1
    rw [hf] at this;cases this
  rw [List.lookup_append,hn,cf,if_pos fr] at h
  exact .inr ⟨hf,(Option.some.inj (by simpa using h)).symm⟩
theorem dR (S:cb X.N X.env N' ix sc) {C:Addr}{x:Str} (h:sc.names.lookup x=some .free):(o8 sc C X.env).cells.lookup x=some ((X.env.cells.lookup x).getD 0):=by
 have e:(o8 sc C X.env).cells=cellsFrom (C+1) sc.names []++b9 X.env sc.names []:=bd _ _ _
 have hn:(cellsFrom (C+1) sc.names []).lookup x=none:=by
  cases z:(cellsFrom (C+1) sc.names []).lookup x with
  | none=>rfl
  | some d =>
   have q':=bO _ _ _ _ (mem_of_lookup z)
   have:=aA S.ndn q'.1
   rw [h] at this;cases this
 rw [e,List.lookup_append,hn,cf,if_pos (mem_of_lookup h)]
 rfl
theorem oY {C:Addr}{env:Env}{x:Str} (h:sc.names.lookup x=some .cell):∃ c,(o8 sc C env).cells.lookup x=some c:=by
 have e:(o8 sc C env).cells=cellsFrom (C+1) sc.names []++b9 env sc.names []:=bd _ _ _
 obtain ⟨c,hc⟩:=i6 (n:=C+1) h
 exact ⟨c,by rw[e,List.lookup_append,hc];rfl⟩
theorem lG {pins:List (Addr×Obj)}{σ:St}{H:Hp}{s:Shared}{fp:List Addr} (S:cb X.N X.env N' ix sc) (I:Inv X pins σ H s) (hf:∀ b∈fp,fE X pins H b) (hlt:∀ b∈fp,b<s.heap.objs.size) :
  Inv (bCx X N' sc s H (s.heap.objs.size+1) fp) [] (db σ ix) H
   { s with heap:=pushCells ((s.heap.push { cls:=.type "list",data:=.seq #[] }).push { cls:=.type "dict",data:=.dict #[] }) sc.names }:=by
 have sz1:(s.heap.push { cls:=.type "list",data:=.seq #[] }).objs.size=s.heap.objs.size+1:=ED ..
 have keep:∀ b o,s.heap.get? b=some o→(pushCells ((s.heap.push { cls:=.type "list",data:=.seq #[] }).push { cls:=.type "dict",data:=.dict #[] }) sc.names).get? b=some o:=fun b o e =>
  pushCells_keeps _ _ b o (DU _ (DU _ e))
 have ok:=cellsFrom_ok sc.names ((s.heap.push { cls:=.type "list",data:=.seq #[] }).push { cls:=.type "dict",data:=.dict #[] }) (s.heap.objs.size+2) [] ⟨fun _ _ hm=>(nomatch hm),List.Pairwise.nil⟩ (by rw[ED,sz1];exact D2 _)
 rw [ED,sz1] at ok
 have cOld:∀ x c,sc.names.lookup x=some .free→c=(X.env.cells.lookup x).getD 0→X.env.cells.lookup x=some c:=fun x c h1 h2=>by
  obtain ⟨d,hd⟩:=I.ok.has x (S.free (x,.free) (mem_of_lookup h1) rfl)
  rw [hd] at h2 ⊢
  rw [h2];rfl
 have hold:∀ x c,X.env.cells.lookup x=some c→c<s.heap.objs.size:=fun x c e=>by
  obtain ⟨v,q⟩:=I.cell x c e
  exact q.lt
 refine ⟨⟨I.ok.mod,S.kind,I.ok.glob,I.ok.blt,EO _,fun x y c h1 h2=>?_,fun x hx=>?_,fun x c hx h=>?_,I.ok.hd,I.ok.frames,.inl rfl,fun b hb=>⟨?_,fun x c h=>?_⟩,I.bs,D1 I.ok.bsz I.sz,fun b o e hb=>?_,fun b hb=>?_,I.stack,I.stkFree,fun T q h=>I.base.tbls T q (I.ok.tab T q h)⟩,
  rfl,I.bare,Un.kept keep,⟨fun _=>none,?_,fun i x v e1 e2 e3=>?_⟩,fun x c h=>?_,I.hok.fresh (EO _),fun x c h=>?_,fun p hp=>absurd (show p∈([]:List (Addr×Obj)) from hp) (by simp),I.hok.kept keep,?_⟩
 ·rcases gJ S h1 with ⟨a1,b1,q1⟩|⟨a1,b1⟩ <;> rcases gJ S h2 with ⟨a2,b2,q2⟩|⟨a2,b2⟩
  ·exact name_of_addr ok.apart q1 q2
  ·exact absurd (hold y c (cOld y c a2 b2)) (Nat.not_lt.mpr (D1 (ER _ 2) b1))
  ·exact absurd (hold x c (cOld x c a1 b1)) (Nat.not_lt.mpr (D1 (ER _ 2) b2))
  ·exact I.ok.inj x y c (cOld x c a1 b1) (cOld y c a2 b2)
 ·cases q:sc.names.lookup x with
  | none =>
   have z:=rS (C:=s.heap.objs.size+1) (env:=X.env) q
   rcases hx with hx|hx
   ·exact absurd (hx.symm.trans z) (by simp)
   ·exact absurd (hx.symm.trans z) (by simp)
  | some k =>
   have z:=gH (C:=s.heap.objs.size+1) (env:=X.env) q
   cases k with
   | free=>exact⟨_,dR S q⟩
   | cell=>exact oY q
   | _ =>
    rcases hx with hx|hx
    ·have:=hx.symm.trans z
     simp at this
    ·have:=hx.symm.trans z
     simp at this
 ·have hx':sc.names.lookup x=some .cell:=of_decide_eq_true hx
  rcases gJ S h with ⟨_,b1,_⟩|⟨a1,_⟩
  ·exact D1 (by omega:s.heap.objs.size≤s.heap.objs.size+1+1) b1
  ·rw [hx'] at a1;cases a1
 ·exact Ed (E5 (hlt b hb))
 ·obtain ⟨f0,f1,f2,f3,f4,f5⟩:=hf b hb
  rcases gJ S h with ⟨_,b1,_⟩|⟨a1,b1⟩
  ·exact EH (D6 (hlt b hb) (D1 (ER _ 2) b1))
  ·exact f4 x c (cOld x c a1 b1)
 ·obtain ⟨f0,f1,f2,f3,f4,f5⟩:=hf b hb
  rcases f3 with f3|f3
  ·exact I.ok.noex b o e f3
  ·exact absurd (D6 (D7 e) (D1 I.ok.bsz f3)) (EY _)
 ·obtain ⟨f0,f1,f2,f3,f4,f5⟩:=hf b hb
  intro z
  rcases D3.mp (I.stkSub b z) with z|z
  ·exact f1 z
  ·exact f2 z
 ·have q:=(Heap.Ns.new (s.heap.push { cls:=.type "list",data:=.seq #[] }) (.type "dict")).keeps (pushCells_keeps sc.names _)
  rw [sz1] at q
  exact q
 ·have hi:i<ix.length:=by
   have z:=(DX.mp e2).1
   simpa [db] using z
  have e2':(db σ ix)[i]? = (ix[i]?).map fun o=>o.bind fun j=>(σ[j]?).join:=Ep ..
  rw [e2',DR hi] at e2
  have e2:(ix[i]).bind (fun j=>(σ[j]?).join)=some v:=Option.some.inj e2
  cases q:ix[i] with
  | none=>rw[q] at e2;cases e2
  | some j =>
   rw [q] at e2
   have e2:(σ[j]?).join=some v:=e2
   have e2:σ[j]? = some (some v):=by
    cases z:σ[j]? with
    | none=>rw[z] at e2;cases e2
    | some w'=>rw[z] at e2;have e2:w'=some v:=e2;rw[e2]
   obtain ⟨y,c1,c2,c3⟩:=S.cap i j (by rw[DR hi,q])
   have exy:x=y:=Option.some.inj (e1.symm.trans c1)
   subst exy
   have kd:=S.free (x,.free) (mem_of_lookup c3) rfl
   obtain ⟨m,hn,hl⟩:=I.loc
   obtain ⟨u,ru,lu⟩:=hl j x v c2 e2 (by rcases kd with k|k;exact .inr (.inl k);exact .inr (.inr k))
   refine ⟨u,ru,.inr ⟨?_,?_⟩⟩
   ·rw [show (bCx X N' sc s H (s.heap.objs.size+1) fp).env.kindOf x=_ from gH (C:=s.heap.objs.size+1) (env:=X.env) c3]
    split
    ·exact .inl rfl
    ·exact .inr rfl
   ·rcases lu with ⟨k,_⟩|⟨_,c,hc,hcell⟩
    ·rcases kd with k'|k' <;> rw[k] at k' <;> cases k'
    ·refine ⟨c,?_,hcell.keeps keep⟩
     have:=dR S (C:=s.heap.objs.size+1) c3
     rw [hc] at this
     exact this
 ·rcases gJ S h with ⟨_,b1,q⟩|⟨a1,b1⟩
  ·exact ⟨none,(ok.empty x c q).1⟩
  ·obtain ⟨v,q⟩:=I.cell x c (cOld x c a1 b1)
   exact ⟨v,q.keeps keep⟩
 ·rcases gJ S h with ⟨_,b1,q⟩|⟨a1,b1⟩
  ·exact I.hok.fresh (D1 (ER _ 2) b1)
  ·exact I.freeC x c (cOld x c a1 b1)
 ·show (db σ ix).length=N'.length
  simp [db,S.len]
theorem gG {pins pins':List (Addr×Obj)}{σ σ2:St}{H H':Hp}{s s':Shared}{fp:List Addr}{C:Addr} (S:cb X.N X.env N' ix sc) (I:Inv X pins σ H s) (hf:∀ b∈fp,fE X pins H b)
  (I':Inv (bCx X N' sc s H C fp) pins' σ2 H' s'):Inv (bCx X N' sc s H C fp) pins' (db σ ix) H' s':=by
 refine ⟨I'.ok,I'.os,I'.bare,I'.base,?_,I'.cell,I'.free,I'.freeC,I'.pin,I'.hok,by show (db σ ix).length=N'.length;simp[db,S.len]⟩
 obtain ⟨m',hn',_⟩:=I'.loc
 refine ⟨m',hn',fun i x v e1 e2 e3=>?_⟩
 have hi:i<ix.length:=by
  have z:=(DX.mp e2).1
  simpa [db] using z
 have e2':(db σ ix)[i]? = (ix[i]?).map fun o=>o.bind fun j=>(σ[j]?).join:=Ep ..
 rw [e2',DR hi] at e2
 have e2:(ix[i]).bind (fun j=>(σ[j]?).join)=some v:=Option.some.inj e2
 cases q:ix[i] with
 | none=>rw[q] at e2;cases e2
 | some j =>
  rw [q] at e2
  have e2:(σ[j]?).join=some v:=e2
  have e2:σ[j]? = some (some v):=by
   cases z:σ[j]? with
   | none=>rw[z] at e2;cases e2
   | some w'=>rw[z] at e2;have e2:w'=some v:=e2;rw[e2]
  obtain ⟨y,c1,c2,c3⟩:=S.cap i j (by rw[DR hi,q])
  have exy:x=y:=Option.some.inj (e1.symm.trans c1)
  subst exy
  have kd:=S.free (x,.free) (mem_of_lookup c3) rfl
  obtain ⟨m,hn,hl⟩:=I.loc
  obtain ⟨u,ru,lu⟩:=hl j x v c2 e2 (by rcases kd with k|k;exact .inr (.inl k);exact .inr (.inr k))
  refine ⟨u,ru,.inr ⟨?_,?_⟩⟩
  ·rw [show (bCx X N' sc s H C fp).env.kindOf x=_ from gH (C:=C) (env:=X.env) c3]
   split
   ·exact .inl rfl
   ·exact .inr rfl
  ·rcases lu with ⟨k,_⟩|⟨_,c,hc,o,ho,hd⟩
   ·rcases kd with k'|k' <;> rw[k] at k' <;> cases k'
   ·refine ⟨c,?_,?_⟩
    ·have:=dR S (C:=C) c3
     rw [hc] at this
     exact this
    ·obtain ⟨sl,e⟩:=I'.base.any ho (I.freeC x c hc) fun z=>(hf c z).2.2.2.2.1 x c hc rfl
     exact ⟨_,e,hd⟩
noncomputable def PIf (X:Cx) (ifs:List Expr) (t:TT):Prop :=
 ∀ (pins:List (Addr×Obj)) (s:Shared) (σ:St) (H:Hp) (Q:Bool→Hp→Prop),Inv X pins σ H s→t σ H Q →
  wpAny (model X.prog X.w) X.A (forIn ifs true fun c r=>if r=true then do let ok ←isTrue c X.env (eval c X.env);pure (ForInStep.yield ok) else pure (ForInStep.yield r)) (TP X pins σ Q) X.xe s
noncomputable def CY:TT:=fun _ H Q=>Q true H
theorem wW {X:Cx}:PIf X [] CY:=fun _ _ _ H _ I h=>wpAny_tests_nil ⟨H,I,h⟩
theorem wV {X:Cx}{c:Expr}{t:TT} (h:PT X c t):PIf X [c] t:=fun pins s σ H Q I hw=>wpAny_tests_one (h pins s σ H Q I hw)
theorem ka {prog:Program}{w:World}{A:Around}{R:Result→Shared→Prop}{s:Shared}{elt target iter:Expr}{ifs:List Expr}{scope:Scope}{pos:Pos}{it acc:Value}{env:Env} (I:Nat→Shared→Prop)
  (turn : ∀ n s,I n s→wpAny (model prog w) A (pyNext it) (fun r s₁=>match r with
   | none=>R (.ok .next) s₁
   | some v=>wpAny (model prog w) A (letOwnedTupleGo target it v) (fun _ s₁'=>wpAny (model prog w) A (assign target env v) (fun _ s₂ =>
     wpAny (model prog w) A (forIn ifs true fun c r=>if r=true then do let ok ←isTrue c env (eval c env);pure (ForInStep.yield ok) else pure (ForInStep.yield r)) (fun ok s₃ =>
      if ok=true then wpAny (model prog w) A (eval elt env) (fun x s₄ =>
       wpAny (model prog w) A (call (.builtin "list.append") [acc,x]) (fun _ s₅=>∃ m,m<n∧I m s₅) (fun _ _=>False) s₄) (fun _ _=>False) s₃
      else ∃ m,m<n∧I m s₃) (fun _ _=>False) s₂) (fun _ _=>False) s₁') (fun _ _=>False) s₁) (fun _ _=>False) s)
  (n : Nat) (h:I n s):codeAny (model prog w) A (.compLoop (.ListComp elt [⟨target,iter,ifs,0⟩] scope pos) 0 it acc env) R s:=by
 refine codeAny_loop rfl I (fun n s hI=>?_) n h
 show wpAny _ A ((compTurn (.ListComp elt [⟨target,iter,ifs,0⟩] scope pos) 0 it acc env).onRaise (fun x=>do noteFrame x env;theTreesLotGoes x)) _ _ s
 refine wpAny_noted ?_
 rw [compTurn_list]
 refine wpAny_bind (wpAny_standAt (wpAny_bind (wpAny_mono (turn n s hI) (fun r s₁ h₁=>?_) fun _ _ h'=>h'.elim)))
 cases r with
 | none=>exact wpAny_pure h₁
 | some v =>
  refine wpAny_bind (wpAny_mono h₁ (fun _ s₁' h₁'=>wpAny_bind (wpAny_mono h₁' (fun _ s₂ h₂=>wpAny_bind (wpAny_mono h₂ (fun ok s₃ h₃=>?_) fun _ _ h'=>h'.elim)) fun _ _ h'=>h'.elim)) fun _ _ h'=>h'.elim)
  cases ok with
  | false=>exact wpAny_pure ⟨rfl,h₃⟩
  | true =>
   exact wpAny_bind (wpAny_bind (wpAny_mono h₃ (fun x s₄ h₄=>wpAny_bind (wpAny_mono h₄ (fun _ s₅ h₅=>wpAny_pure (wpAny_pure ⟨rfl,h₅⟩)) fun _ _ h'=>h'.elim)) fun _ _ h'=>h'.elim))
noncomputable def uQ (J:It) (σ0:St) (g:TG) (tt:TT) (te:TE) (H1:Hp) (Qe:List V→Hp→Prop):Prop :=
 ∃ W : Nat→Nat→List V→Hp→Prop,(∃ m,W 0 m [] H1)∧∀ i m ys H,W i m ys H →
  (J.stop i H∧Qe ys H) ∨
  (J.go i H∧ys.length<sizeLine∧∃ N:List V→Hp→Prop,(∀ ys' H',N ys' H'→∃ m',m'<m∧W (i+1) m' ys' H') ∧
   ∀ x H',J.yld i H x H'→g x σ0 H' fun σ2 H2=>tt σ2 H2 fun b H3=>if b=true then te σ2 H3 fun y H4=>N (ys++[y]) H4 else N ys H3)
theorem nF {tg iter elt:Expr}{ifs:List Expr}{pos:Pos}{g:TG}{tt:TT}{te:TE}{pins:List (Addr×Obj)}{σ:St}{H:Hp}{s:Shared}{it:Addr}{fp:List Addr}{tn:Nat→Heap→Prop}{J:It}{Qe:List V→Hp→Prop}
  {RR:Value→Addr→Result→Shared→Prop}{E:Value→Shared→Prop}
  (hc:X.calm=true) (S:cb X.N X.env N' ix sc) (hg:∀ s H C fp,PG (bCx X N' sc s H C fp) tg g) (ht:∀ s H C fp,PIf (bCx X N' sc s H C fp) ifs tt) (he:∀ s H C fp,PE (bCx X N' sc s H C fp) elt te)
  (I : Inv X pins σ H s) (T:yz X.prog X.w X.K tg J fp it tn) (st:tn 0 s.heap) (hf:∀ b∈fp,fE X pins H b) (hw:uQ J (db σ ix) g tt te H Qe)
  (fin:∀ s' H' ys m,s'.heap.Ns (s.heap.objs.size+1) m→H' s.heap.objs.size=none→H' (s.heap.objs.size+1)=none→Qe ys H'→Inv X pins σ (upd H' s.heap.objs.size (.lst ys)) s'→RR (.ref s.heap.objs.size) (s.heap.objs.size+1) (.ok .next) s') :
  wpAny (model X.prog X.w) X.A (newList []) (fun acc s₃=>wpAny (model X.prog X.w) X.A (newFunctionEnv sc X.env.globals (b9 X.env sc.names []) [] X.env.qual none .none (some X.env)) (fun cenv s₄ =>
   codeAny (model X.prog X.w) X.A (.compStart (.ListComp elt [⟨tg,iter,ifs,0⟩] sc pos) 0 (.ref it) acc { cenv with scope:=relabel sc X.env }) (RR acc cenv.locals) s₄) E s₃) E s:=by
 have hlt:∀ b∈fp,b<s.heap.objs.size:=fun b hb=>by
  obtain ⟨o,e,_⟩:=T.obj _ _ st b hb
  exact D7 e
 refine wpAny_newObj_type (ln ?_)
 have sz1:(s.heap.push { cls:=.type "list",dict:=none,data:=.seq ([]:List Value).toArray }).objs.size=s.heap.objs.size+1:=ED ..
 have I0:=lG S I hf hlt
 obtain ⟨W,⟨m0,w0⟩,turn⟩:=hw
 have nD:∀ b∈fp,s.heap.objs.size≠b:=fun b hb=>EH (hlt b hb)
 have freshD:H s.heap.objs.size=none:=I.hok.fresh (D2 _)
 have cellD:∀ x c,(o8 sc (s.heap.objs.size+1) X.env).cells.lookup x=some c→c≠s.heap.objs.size:=fun x c h=>by
  rcases gJ S h with ⟨_,b1,_⟩|⟨a1,b1⟩
  ·exact EH (D6 (E5 (EZ _)) b1)
  ·obtain ⟨d,hd⟩:=I.ok.has x (S.free (x,.free) (mem_of_lookup a1) rfl)
   rw [hd] at b1
   obtain ⟨v,q⟩:=I.cell x d hd
   have e:c=d:=b1
   rw [e]
   exact Ed q.lt
 have fsD:s.heap.objs.size ∉ frs X.stack:=fun z=>by
  rcases D3.mp (I.stkSub _ z) with z|z
  ·exact absurd I.lt (by rw[←z];exact EY _)
  ·exact I.nofs (D2 _) z
 have fpB:∀ {pins':List (Addr×Obj)}{H':Hp},(∀ b∈fp,H' b=none)→(∀ p∈pins',∀ b∈fp,p.1≠b)→∀ b∈fp,fE (bCx X N' sc s H (s.heap.objs.size+1) fp) pins' H' b:=fun {pins' H'} h1 h2 b hb =>
  ⟨h1 b hb,(I0.ok.exf b hb).1,I0.ok.exfs b hb,.inl hb,(I0.ok.exf b hb).2,fun p hp=>h2 p (by simpa [bCx] using hp) b hb⟩
 have getD0:(pushCells ((s.heap.push { cls:=.type "list",data:=.seq #[] }).push { cls:=.type "dict",data:=.dict #[] }) sc.names).get? s.heap.objs.size=some { cls:=.type "list",data:=.seq #[] } :=
  pushCells_keeps _ _ _ _ (DU _ (D8 _ rfl))
 have I0':Inv (bCx X N' sc s H (s.heap.objs.size+1) fp) [(s.heap.objs.size,{ cls:=.type "list",data:=.seq #[] })] (db σ ix) H _:=I0.pins_of (pins':=[(s.heap.objs.size,{ cls:=.type "list",data:=.seq #[] })]) fun p hp=>by
  have e:p=(s.heap.objs.size,{ cls:=.type "list",data:=.seq #[] }):=by simpa using hp
  subst e
  exact ⟨getD0,freshD,Ed (EZ _),fsD,fun v z=>by cases z⟩
 have st0:tn 0 (pushCells ((s.heap.push { cls:=.type "list",data:=.seq #[] }).push { cls:=.type "dict",data:=.dict #[] }) sc.names):=T.keep _ _ _ st fun b hb o e=>pushCells_keeps _ _ _ _ (DU _ (DU _ e))
 have loop:∀ s4:Shared,s4={ s with heap:=pushCells ((s.heap.push { cls:=.type "list",data:=.seq #[] }).push { cls:=.type "dict",data:=.dict #[] }) sc.names } →
   codeAny (model X.prog X.w) X.A (.compLoop (.ListComp elt [⟨tg,iter,ifs,0⟩] sc pos) 0 (.ref it) (.ref s.heap.objs.size) (o8 sc (s.heap.objs.size+1) X.env)) (RR (.ref s.heap.objs.size) (s.heap.objs.size+1)) s4:=by
  rintro s4 rfl
  refine ka (fun n s'=>∃ (i:Nat) (ys:List V) (its:List Value) (k:Nat) (H':Hp),Inv (bCx X N' sc s H (s.heap.objs.size+1) fp) [(s.heap.objs.size,{ cls:=.type "list",data:=.seq its.toArray k })] (db σ ix) H' s' ∧
   tn i s'.heap∧(∀ b∈fp,H' b=none)∧aK ys its∧ys.length≤sizeLine∧W i n ys H') ?_ m0 ⟨0,[],[],0,H,I0',st0,fun b hb=>(hf b hb).1,.nil,Ee _,w0⟩
  rintro n s3 ⟨i,ys,its,k,H3,I3,st3,fr3,rv,hz,w3⟩
  have fp3:=fpB (pins':=[(s.heap.objs.size,{ cls:=.type "list",data:=.seq its.toArray k })]) fr3 (fun p hp b hb=>by
   have e:p=(s.heap.objs.size,{ cls:=.type "list",data:=.seq its.toArray k }):=by simpa using hp
   rw [e];exact nD b hb)
  rcases turn i n ys H3 w3 with ⟨stop,qe⟩|⟨go,hz3,N,hN,step⟩
  ·refine thn (T.done (bCx X N' sc s H (s.heap.objs.size+1) fp) rfl rfl rfl hc i _ s3 _ H3 (fun _ _=>False) I3 fp3 st3 stop) fun r s4 ⟨hr,I4⟩=>?_
   subst hr
   obtain ⟨pg,pn,_⟩:=I4.pin (s.heap.objs.size,{ cls:=.type "list",data:=.seq its.toArray k }) (DL _ DY)
   obtain ⟨m,hm,_⟩:=I4.loc
   refine fin s4 H3 ys m hm pn I4.free qe ?_
   refine I.call' (ch:=fp) I4.os ⟨I4.base.keep,I4.base.slot,fun b o e n hx=>?_,I4.base.there,fun b xs q=>?_,fun b o u q=>?_,fun b ps q=>?_⟩ (fun b o e=>?_) I4.bare fun b hb=>?_
   ·rw [ai (Ed (D7 e))]
    exact I4.base.free b o e n hx
   ·have q':=I4.base.tups b xs q
    rw [ai (ao q' pn)]
    exact q'
   ·have q':=I4.base.frzs b o u q
    rw [ai (ao q' pn)]
    exact q'
   ·have q':=I4.base.tbls b ps q
    rw [ai (ao q' pn)]
    exact q'
   ·by_cases hb:b=s.heap.objs.size
    ·subst hb
     rw [ar] at e
     cases e
     exact ⟨hz,its,k,rv,pg⟩
    ·rw [ai hb] at e
     exact (I4.hok b o e).stay (fun c v _ q=>q) (fun c q=>by rw[ai (ao q pn)];exact q) fun c xs _ q=>by rw[ai (ao q pn)];exact q
   ·obtain ⟨f0,f1,f2,f3,f4,f5⟩:=hf b hb
    exact ⟨f3,f1,f4,f5⟩
  ·refine thn (T.item (bCx X N' sc s H (s.heap.objs.size+1) fp) rfl rfl rfl hc i _ s3 _ H3 (fun _ _=>False) I3 fp3 st3 go) fun r s4 ⟨u,hr,h4⟩=>?_
   subst hr
   refine thn h4 fun _ s5 ⟨x,H5,I5,r5,y5,st5,fr5⟩=>?_
   have fp5:=fpB (pins':=[(s.heap.objs.size,{ cls:=.type "list",data:=.seq its.toArray k })]) fr5 (fun p hp b hb=>by
    have e:p=(s.heap.objs.size,{ cls:=.type "list",data:=.seq its.toArray k }):=by simpa using hp
    rw [e];exact nD b hb)
   have I5':=I5.pinned fp5 (T.obj _ _ st5)
   refine thn (hg s H _ fp _ s5 _ H5 x u _ I5' r5 (step x H5 y5)) fun _ s6 ⟨σ6,H6,I6,q6⟩=>?_
   have back:∀ {σ7:St}{H7:Hp}{s7:Shared},Inv (bCx X N' sc s H (s.heap.objs.size+1) fp) ([(s.heap.objs.size,{ cls:=.type "list",data:=.seq its.toArray k })]++eZ fp s5.heap) σ7 H7 s7 →
     tn (i+1) s7.heap∧(∀ b∈fp,H7 b=none):=fun {σ7 H7 s7} I7=>by
    refine ⟨T.keep _ _ _ st5 fun b hb o e=>(I7.pin (b,o) (DL _ (DL _ (dE hb e)))).1,fun b hb=>?_⟩
    obtain ⟨o,e,d⟩:=T.obj _ _ st5 b hb
    exact (I7.pin (b,o) (DL _ (DL _ (dE hb e)))).2.1
   refine thn (ht s H _ fp _ s6 σ6 H6 _ I6 q6) fun ok s7 ⟨H7,I7,q7⟩=>?_
   cases ok with
   | false =>
    rw [if_neg Ea] at q7 ⊢
    obtain ⟨m',hm',w7⟩:=hN _ _ q7
    exact ⟨m',hm',i+1,ys,its,k,H7,gG S I hf I7.unpinned,(back I7).1,(back I7).2,rv,hz,w7⟩
   | true =>
    rw [if_pos rfl] at q7 ⊢
    refine thn (he s H _ fp _ s7 σ6 H7 _ I7 q7) fun xv s8 ⟨y,H8,I8,r8,q8⟩=>?_
    obtain ⟨m',hm',w8⟩:=hN _ _ q8
    obtain ⟨pg,pn,_⟩:=I8.pin (s.heap.objs.size,{ cls:=.type "list",data:=.seq its.toArray k }) (DL _ (DP _ DY))
    refine wpAny_list_append_plain (l:=s.heap.objs.size) (items:=its.toArray) ⟨k,pg⟩ (fun h9 hl9 hs9=>?_) (by have:=rv.length;simp;omega)
    obtain ⟨k9,g9⟩:=hl9
    have I8':Inv (bCx X N' sc s H (s.heap.objs.size+1) fp) (eZ fp s5.heap) σ6 H8 s8:=I8.pins_of fun p hp=>I8.pin p (DL _ (DL _ hp))
    have I9:Inv (bCx X N' sc s H (s.heap.objs.size+1) fp) (eZ fp s5.heap) σ6 H8 { s8 with heap:=h9 }:=I8'.turned (t':=s8.toks) (it:=s.heap.objs.size) (fun b o hb e=>hs9.extBut b o hb e) pn (Ed (EZ _)) (.inr (D2 _)) cellD
     fun p hp=>by
      have hp':p∈eZ fp s5.heap:=by simpa [bCx] using hp
      exact (nD _ (jE hp').1).symm
    have I9':Inv (bCx X N' sc s H (s.heap.objs.size+1) fp) [(s.heap.objs.size,{ cls:=.type "list",data:=.seq (its++[xv]).toArray k9 })] σ6 H8 { s8 with heap:=h9 }:=I9.pins_of fun p hp=>by
     have e:p=(s.heap.objs.size,{ cls:=.type "list",data:=.seq (its++[xv]).toArray k9 }):=by simpa using hp
     subst e
     refine ⟨?_,pn,Ed (EZ _),fsD,fun v z=>by cases z⟩
     simpa using g9
    refine ⟨m',hm',i+1,ys++[y],its++[xv],k9,H8,gG S I hf I9',?_,(back I8).2,rv.append (.cons r8 .nil),by simp;omega,w8⟩
    exact T.keep _ _ _ (back I8).1 fun b hb o e=>hs9.extBut b o (nD b hb).symm e
 have key:=codeAny_compStart_list (iter:=iter) (loop _ rfl) (T.self X.A 0 { s with heap:=pushCells ((s.heap.push { cls:=.type "list",data:=.seq #[] }).push { cls:=.type "dict",data:=.dict #[] }) sc.names } _ _ st0 (loop _ rfl))
 simpa only [newEnv,sz1,o8,compEnvC] using key
noncomputable def sH (wi:TI) (ix:List (Option Nat)) (g:TG) (tt:TT) (te:TE):TE:=fun σ H Q=>wi σ H fun J H1=>uQ J (db σ ix) g tt te H1 fun ys H2=>∀ p,H2 p=none→Q (.ref p) (upd H2 p (.lst ys))
theorem cb.clos {pins:List (Addr×Obj)}{σ:St}{H:Hp}{s:Shared} (S:cb X.N X.env N' ix sc) (I:Inv X pins σ H s):closureFor sc X.env=pure (b9 X.env sc.names []) :=
 i4 fun y hy e=>by
  obtain ⟨c,hc⟩:=I.ok.has y.1 (S.free y hy e)
  rw [hc];rfl
theorem xg {tg iter elt:Expr}{ifs:List Expr}{pos:Pos}{wi:TI}{g:TG}{tt:TT}{te:TE} (hc:X.calm=true) (S:cb X.N X.env N' ix sc) (hi:PI X tg iter wi)
  (hg:∀ s H C fp,PG (bCx X N' sc s H C fp) tg g) (ht:∀ s H C fp,PIf (bCx X N' sc s H C fp) ifs tt) (he:∀ s H C fp,PE (bCx X N' sc s H C fp) elt te)
  (hs:∀ x,foldedSetIterable iter X.env x=pure x:=by intro _;rfl):PE X (.ListComp elt [⟨tg,iter,ifs,0⟩] sc pos) (sH wi ix g tt te):=by
 intro pins s σ H Q I h
 rw [eval_ListComp]
 refine wpAny_comprehension_free (use:=none) rfl hs (S.clos I) S.kind S.names (thn (hi pins s σ H _ I h) fun v s1 h1=>thn h1 fun itv s2 ⟨it,fp,tn,J,H2,e,I2,T,st2,f2,hw⟩=>?_)
 subst e
 refine nF (RR:=fun acc C=>compPost (model X.prog X.w) X.A X.xe none (EP X pins σ Q) acc C) hc S hg ht he I2 T st2 f2 hw fun s' H' ys m hn hD hC q I'=>?_
 refine ⟨m,hn,fun h' hs'=>?_⟩
 have nn:(upd H' s2.heap.objs.size (.lst ys)) (s2.heap.objs.size+1)=none:=by
  rw [ai (EH (EZ _))];exact hC
 obtain ⟨f0,f1,f2,f3,f4,f5⟩:=I2.fpOk (H':=upd H' s2.heap.objs.size (.lst ys)) (b:=s2.heap.objs.size+1) (EO _) nn
 exact ⟨.ref s2.heap.objs.size,_,I'.turned (t':=s'.toks) (it:=s2.heap.objs.size+1) (fun b o hb e=>hs'.extBut b o hb e) f0 f1 f3 f4 f5,rfl,q _ hD⟩
theorem ia {i:Nat}{y:Str}{tg iter elt:Expr}{ifs:List Expr}{pos spos py:Pos}{wi:TI}{g:TG}{tt:TT}{te:TE} (hN:X.N.Nodup) (hi':X.N[i]? = some y) (hy:X.env.scope.names.lookup y=some .local)
  (hc:X.calm=true) (S:cb X.N X.env N' ix sc) (hi:PI X tg iter wi)
  (hg:∀ s H C fp,PG (bCx X N' sc s H C fp) tg g) (ht:∀ s H C fp,PIf (bCx X N' sc s H C fp) ifs tt) (he:∀ s H C fp,PE (bCx X N' sc s H C fp) elt te)
  (hsw:swapsWith (.ListComp elt [⟨tg,iter,ifs,0⟩] sc pos) (some (.Name y py)) spos.line X.env=pure true:=by rfl)
  (hs:∀ x,foldedSetIterable iter X.env x=pure x:=by intro _;rfl):PS X (.Assign [.Name y py] (.ListComp elt [⟨tg,iter,ifs,0⟩] sc pos) spos) (AX (sH wi ix g tt te) (ui i)):=by
 intro pins s σ H D I h
 rw [exec_Assign_Name_used _ _ _ _ hsw]
 refine wpAny_bind (wpAny_standAt (wpAny_bind ?_))
 show wpAny _ X.A (do let _ ←comprehension (.ListComp elt [⟨tg,iter,ifs,0⟩] sc pos) sc X.env _ (newList []) false (eval iter X.env) (some (assign (.Name y py) X.env))) _ _ s
 refine wpAny_bind (wpAny_mono (wpAny_comprehension_free (use:=some (assign (.Name y py) X.env)) (Q:=fun _ s'=>SP X pins D .next s') rfl hs (S.clos I) S.kind S.names
  (thn (hi pins s σ H _ I h) fun v s1 h1=>thn h1 fun itv s2 ⟨it,fp,tn,J,H2,e,I2,T,st2,f2,hw⟩=>?_)) (fun _ s' hq=>wpAny_pure (wpAny_pure hq)) fun _ _ e=>e)
 subst e
 refine nF (RR:=fun acc C=>compPost (model X.prog X.w) X.A X.xe (some (assign (.Name y py) X.env)) (fun _ s'=>SP X pins D .next s') acc C) hc S hg ht he I2 T st2 f2 hw fun s' H' ys m hn hD hC q I'=>?_
 have nn:(upd H' s2.heap.objs.size (.lst ys)) (s2.heap.objs.size+1)=none:=by
  rw [ai (EH (EZ _))];exact hC
 obtain ⟨f0,f1,f2,f3,f4,f5⟩:=I2.fpOk (H':=upd H' s2.heap.objs.size (.lst ys)) (b:=s2.heap.objs.size+1) (EO _) nn
 show wpAny _ X.A (assign (.Name y py) X.env (.ref s2.heap.objs.size)) _ _ _
 refine wpAny_assign_Name (jq (v:=.ref s2.heap.objs.size) I' hN hi' (.inl hy) rfl (fun s'' I'' ⟨a,hsb,ha⟩=>?_) (.inr hy))
 have ne:s2.heap.objs.size+1≠a:=by
  rcases ha with rfl|ha
  ·exact f1
  ·exact fun z=>f4 y a ha z.symm
 refine ⟨m,hn.sameBut hsb ne,fun h' hs'=>?_⟩
 exact ⟨_,_,I''.turned (t':=s''.toks) (it:=s2.heap.objs.size+1) (fun b o hb e=>hs'.extBut b o hb e) f0 f1 f3 f4 f5,q _ hD⟩
end
end L2
namespace L2
open PySem
open Sem (wp)
section
variable {prog:Program}{w:World}
noncomputable def cU (prog:Program) (w:World) (h:Heap) (k:Int×List Int) (a:Addr):Prop :=
 ∃ o t b n,h.get? a=some o∧o.cls=.type "tuple" ∧ o.data=.seq #[.int k.1 t,.ref b] n∧IsTupleKey (intKind prog w) h k.2 b
theorem dG (i:Int) (t:Tok):(intKind prog w).is i (.int i t)=true:=by simp[intKind,Value.isInt]
theorem cU.typeIs {s:Shared}{k:Int×List Int}{a:Addr} (x:cU prog w s.heap k a):s.TypeIs (.ref a) "tuple" := let ⟨o,_,_,_,ho,hc,_⟩:=x;⟨o,ho,hc⟩
theorem cU.inj {h:Heap}{a:Addr}{x y:Int×List Int} (hx:cU prog w h x a) (hy:cU prog w h y a):x=y:=by
 obtain ⟨x1,x2⟩:=x
 obtain ⟨y1,y2⟩:=y
 obtain ⟨o,t,b,n,ho,_,hd,hi⟩:=hx
 obtain ⟨o',t',b',n',ho',_,hd',hi'⟩:=hy
 obtain rfl:o=o':=Option.some.inj (ho.symm.trans ho')
 rw [hd] at hd'
 injection hd' with h1 _
 simp only [Array.mk.injEq,List.cons.injEq,Value.int.injEq,Value.ref.injEq,and_true] at h1
 obtain ⟨⟨e1,_⟩,e2⟩:=h1
 subst e2
 have e3:x2=y2:=hi.inj hi'
 rw [e1,e3]
theorem cU.keeps {h h':Heap}{k:Int×List Int}{a d:Addr}{o:Obj}{es ep} (x:cU prog w h k a) (ho:h.get? d=some o) (hd:o.data=.dict es ep) (hs:Heap.SameBut d h h') :
  cU prog w h' k a:=by
 obtain ⟨o',t,b,n,ho',hc,hd',hi⟩:=x
 have hne:a≠d:=by
  rintro rfl
  obtain rfl:o'=o:=Option.some.inj (ho'.symm.trans ho)
  rw [hd] at hd';exact nomatch hd'
 exact ⟨o',t,b,n,(hs.2 a hne).trans ho',hc,hd',hi.keeps ho hd hs⟩
noncomputable def kF (prog:Program) (w:World) (k:Int×List Int):Int:=reduceHash (Builtin.Tuple.tupleHashOf [hashInt k.1,tupleKeyHash (intKind prog w) k.2])
variable {A:Around}{E:Value→Shared→Prop}{s:Shared}
theorem nS {k:Int×List Int}{a:Addr}{Q:Int→Shared→Prop} (hu:A.units+1<cLine) (hk:cU prog w s.heap k a) (h:Q (kF prog w k) { s with toks:=s.toks+(k.2.length+3) }) :
  wpAny (model prog w) A (pyHash (.ref a)) Q E s:=by
 have hT:=hk.typeIs
 obtain ⟨k1,k2⟩:=k
 obtain ⟨o,t,b0,n,ho,_,hd,hi⟩:=hk
 unfold pyHash
 first|unfold pyHashByItsType|skip
 first|refine wpAny_bind (wpAny_cRoomFor_or (.inr (by omega)) ?_)|skip
 refine wpAny_bind (wpAny_specialOf hT F.slot_tuple_hash.lookup ?_)
 show wpAny _ _ (if (some (Value.builtin "tuple.__hash__")==some Value.none)=true then _ else _) Q E s
 rw [if_neg (by rw[beq_builtin_none];exact Ea)]
 refine wpAny_bind (wpAny_specialOf hT F.slot_tuple_hash.lookup ?_)
 show wpAny _ _ (callSpecialIfBoundUnlessNone? (.ref a) "__hash__" _ >>= _) Q E s
 refine wpAny_bind (wpAny_callSpecialIfBoundUnlessNone?_slot hT F.slot_tuple_hash (wpAny_call_entry F.slot_tuple_hash hT F.entry_tuple_hash ?_ (F.args_tuple_hash_1 _)))
 show wpAny _ _ (Builtin.Tuple.tupleItemsOf (.ref a) >>= _) _ _ s
 refine wpAny_bind (wpAny_tupleItemsOf ho hd ?_)
 refine wpAny_bind ?_
 rw [←Array.forIn_toList]
 refine wpAny_forIn_list _
  (fun bI (b:Array Int) s'=>(bI=[.int k1 t,.ref b0]∧b.toList=[]∧s'=s)∨(bI=[.ref b0]∧b.toList=[hashInt k1]∧s'={ s with toks:=s.toks+1 })∨(bI=[]∧b.toList=[hashInt k1,tupleKeyHash (intKind prog w) k2]∧s'={ s with toks:=s.toks+1+(k2.length+1) }))
  _ ?_ ?_ _ _ (.inl ⟨rfl,rfl,rfl⟩)
 ·rintro x bI b s' (⟨hr,hb,rfl⟩|⟨hr,hb,rfl⟩|⟨hr,hb,rfl⟩)
  ·injection hr with e1 e2
   subst e1 e2
   refine wpAny_bind ((intKind prog w).pyHash (dG k1 t) ?_)
   first
    | exact wpAny_pure (.inr (.inl ⟨rfl,by simp[hb,intKind],rfl⟩))
    | exact wpAny_bind (wpAny_pure (wpAny_pure (.inr (.inl ⟨rfl,by simp[hb,intKind],rfl⟩))))
  ·injection hr with e1 e2
   subst e1 e2
   refine wpAny_bind (wpAny_pyHash_tuple (knd:=intKind prog w) hu hi ?_)
   first
    | exact wpAny_pure (.inr (.inr ⟨rfl,by simp[hb],rfl⟩))
    | exact wpAny_bind (wpAny_pure (wpAny_pure (.inr (.inr ⟨rfl,by simp[hb],rfl⟩))))
  ·cases hr
 ·rintro b s' (⟨hr,hb,rfl⟩|⟨hr,hb,rfl⟩|⟨hr,hb,rfl⟩)
  ·cases hr
  ·cases hr
  show wpAny _ _ (retInt (Builtin.Tuple.tupleHashOf b.toList)) _ _ _
  rw [hb]
  refine wpAny_ret_mkInt ?_
  show wpAny _ _ (if (decide (-(2:Int) ^ 63≤Builtin.Tuple.tupleHashOf _)&&decide (Builtin.Tuple.tupleHashOf _<2 ^ 63))=true then _ else _) Q E _
  unfold kF reduceHash at h
  generalize Builtin.Tuple.tupleHashOf [hashInt k1,tupleKeyHash (intKind prog w) k2]=z at *
  by_cases hr:(decide (-(2:Int) ^ 63≤z)&&decide (z<2 ^ 63))=true
  ·rw [if_pos hr]
   rw [if_pos hr] at h
   refine wpAny_pure ?_
   have e:s.toks+1+(k2.length+1)+1=s.toks+(k2.length+3):=by omega
   simpa [e] using h
  ·rw [if_neg hr]
   rw [if_neg hr] at h
   refine wpAny_bind (wpAny_rule (wpAny_pure ?_))
   have e:s.toks+1+(k2.length+1)+1=s.toks+(k2.length+3):=by omega
   simpa [e] using h
theorem kE {x y:Int×List Int}{a b:Addr}{P:Fin→Shared→Prop} (hu:A.units<cLine) (hx:cU prog w s.heap x a) (hy:cU prog w s.heap y b) (h:P (.done (.ret (.bool (decide (x=y))))) s) :
  wpAny (model prog w) A (Builtin.«tuple.__eq__» ⟨[.ref a,.ref b],[]⟩) P E s:=by
 have hTb:=hy.typeIs
 obtain ⟨x1,x2⟩:=x
 obtain ⟨y1,y2⟩:=y
 obtain ⟨oa,ta,ba,na,hoa,_,hda,hia⟩:=hx
 obtain ⟨ob,tb,bb,nb,hob,_,hdb,hib⟩:=hy
 show wpAny _ _ (isInstance (.ref b) (.type "tuple") >>= _) _ _ s
 refine wpAny_bind (wpAny_isInstance hTb isSubtype_tuple_tuple ?_)
 simp only [E6,Em,if_false]
 refine wpAny_bind (wpAny_tupleItemsOf hoa hda ?_)
 refine wpAny_bind (wpAny_tupleItemsOf hob hdb ?_)
 refine wpAny_bind ?_
 refine wpAny_forIn_list _
  (fun bI r s'=>r.1=none∧s'=s∧(bI=[(.int x1 ta,.int y1 tb),(.ref ba,.ref bb)]∨(bI=[(.ref ba,.ref bb)]∧x1=y1)∨(bI=[]∧x1=y1∧x2=y2)))
  _ ?_ ?_ _ _ ⟨rfl,rfl,.inl rfl⟩
 ·rintro ⟨u,v⟩ bI r s' ⟨hr,rfl,(hz|⟨hz,e1⟩|⟨hz,_⟩)⟩
  ·simp only [List.cons.injEq,Prod.mk.injEq] at hz
   obtain ⟨⟨rfl,rfl⟩,rfl⟩:=hz
   refine wpAny_bind ((intKind prog w).eqBool (dG x1 ta) (dG y1 tb) ?_)
   by_cases hk:x1=y1
   ·subst hk
    rw [decide_eq_true rfl]
    simp only [E6,Em,if_false]
    exact wpAny_pure ⟨rfl,rfl,.inr (.inl (by simp))⟩
   ·rw [decide_eq_false hk]
    simp only [Bool.not_false,if_true]
    have hf:decide ((x1,x2)=(y1,y2))=false:=by simp[hk]
    rw [hf] at h
    exact wpAny_bind (wpAny_pure (wpAny_pure (wpAny_pure h)))
  ·simp only [List.cons.injEq,Prod.mk.injEq] at hz
   obtain ⟨⟨rfl,rfl⟩,rfl⟩:=hz
   refine wpAny_bind (wpAny_eqBool_tuple hu hia hib ?_)
   by_cases hk:x2=y2
   ·rw [decide_eq_true hk]
    simp only [E6,Em,if_false]
    exact wpAny_pure ⟨rfl,rfl,.inr (.inr (by simp[e1,hk]))⟩
   ·rw [decide_eq_false hk]
    simp only [Bool.not_false,if_true]
    have hf:decide ((x1,x2)=(y1,y2))=false:=by simp[hk]
    rw [hf] at h
    exact wpAny_bind (wpAny_pure (wpAny_pure (wpAny_pure h)))
  ·cases hz
 ·rintro ⟨r1,r2⟩ s' ⟨hr,rfl,(hz|⟨hz,e1⟩|⟨hz,e1,e2⟩)⟩
  ·cases hz
  ·cases hz
  simp only at hr
  subst hr
  refine wpAny_pure ?_
  rw [decide_eq_true (by rw[e1,e2])] at h
  exact h
theorem nU {x y:Int×List Int}{a b:Addr}{Q:Bool→Shared→Prop} (hu:A.units+1<cLine) (hx:cU prog w s.heap x a) (hy:cU prog w s.heap y b) (h:Q (decide (x=y)) s) :
  wpAny (model prog w) A (eqBool (.ref a) (.ref b)) Q E s:=by
 unfold eqBool
 try with_reducible refine wpAny_holding ?_
 show wpAny _ _ (if (Value.ref a==Value.ref b)=true then _ else _) Q E s
 by_cases hab:(Value.ref a==Value.ref b)=true
 ·rw [if_pos hab]
  have e:a=b:=by have:=eq_of_beq hab;injection this
  subst e
  obtain rfl:=hx.inj hy
  exact wpAny_bind (wpAny_rule (wpAny_pure (by simpa using h)))
 ·rw [if_neg hab]
  exact wpAny_bind (wpAny_richCompare_same_room (op:=.Eq) hx.typeIs hy.typeIs F.slot_tuple_eq
   (wpAny_call_entry F.slot_tuple_eq hx.typeIs F.entry_tuple_eq (kE hu hx hy ⟨_,rfl,(fun e=>nomatch e),wpAny_truthy_bool h⟩) (F.args_tuple_eq_2 _ _)) (by omega))
theorem pL {n:Nat}{ks:List Int}{a:Addr}{Q:Bool→Shared→Prop} (hk:IsTupleKey (intKind prog w) s.heap ks a) (h:Q true s):wpAny (model prog w) A (eqIsQuiet (n+1) (.ref a)) Q E s:=by
 have hT:=hk.typeIs
 obtain ⟨o,items,m,ho,_,hd,hi⟩:=hk
 unfold eqIsQuiet
 refine wpAny_bind (wpAny_specialOf hT F.slot_tuple_eq.lookup ?_)
 show wpAny _ _ (isInstance (.ref a) (.type "tuple") >>= _) _ _ s
 refine wpAny_bind (wpAny_isInstance hT isSubtype_tuple_tuple ?_)
 simp only [E6,Em,if_false]
 refine wpAny_bind (wpAny_seqItems ho hd ?_)
 refine wpAny_bind ?_
 show wpAny _ _ (forIn items _ _) _ _ s
 rw [←Array.forIn_toList]
 refine wpAny_forIn_list _ (fun bI r s'=>r.1=none∧s'=s∧∀ v∈bI,carriedByValue v=true) _ ?_ ?_ _ _ ⟨rfl,rfl,hi.byValue⟩
 ·rintro v bI r s' ⟨hr,rfl,hall⟩
  rw [eqIsQuiet_byValue _ (hall v DY)]
  refine wpAny_bind (wpAny_pure ?_)
  simp only [E6,Em,if_false]
  exact wpAny_pure ⟨rfl,rfl,fun u hu'=>hall u (D0 _ hu')⟩
 ·rintro ⟨r1,r2⟩ s' ⟨hr,rfl,_⟩
  simp only at hr
  subst hr
  exact wpAny_pure h
theorem pp {k:Int×List Int}{a:Addr}{Q:Bool→Shared→Prop} (hk:cU prog w s.heap k a) (h:Q true s):wpAny (model prog w) A (eqIsQuiet 8 (.ref a)) Q E s:=by
 have hT:=hk.typeIs
 obtain ⟨o,t,b,n,ho,_,hd,hi⟩:=hk
 unfold eqIsQuiet
 refine wpAny_bind (wpAny_specialOf hT F.slot_tuple_eq.lookup ?_)
 show wpAny _ _ (isInstance (.ref a) (.type "tuple") >>= _) _ _ s
 refine wpAny_bind (wpAny_isInstance hT isSubtype_tuple_tuple ?_)
 simp only [E6,Em,if_false]
 refine wpAny_bind (wpAny_seqItems ho hd ?_)
 refine wpAny_bind ?_
 show wpAny _ _ (forIn _ _ _) _ _ s
 rw [←Array.forIn_toList]
 refine wpAny_forIn_list _ (fun bI r s'=>r.1=none∧s'=s∧∀ v∈bI,carriedByValue v=true∨v=.ref b) _ ?_ ?_ _ _ ⟨rfl,rfl,fun v hv=>?_⟩
 ·rintro v bI r s' ⟨hr,rfl,hall⟩
  rcases hall v DY with hv|rfl
  ·rw [eqIsQuiet_byValue _ hv]
   refine wpAny_bind (wpAny_pure ?_)
   simp only [E6,Em,if_false]
   exact wpAny_pure ⟨rfl,rfl,fun u hu'=>hall u (D0 _ hu')⟩
  ·refine wpAny_bind (pL hi ?_)
   simp only [E6,Em,if_false]
   exact wpAny_pure ⟨rfl,rfl,fun u hu'=>hall u (D0 _ hu')⟩
 ·rintro ⟨r1,r2⟩ s' ⟨hr,rfl,_⟩
  simp only at hr
  subst hr
  exact wpAny_pure h
 ·simp at hv
  rcases hv with rfl|rfl
  ·exact .inl rfl
  ·exact .inr rfl
end
noncomputable def bJ (prog:Program) (w:World):HeapKind prog w (Int×List Int) where
 is := cU prog w
 hash:=kF prog w
 draws:=fun k=>k.2.length+3
 room:=fun A=>A.units+1<cLine
 inj:=fun hx hy=>hx.inj hy
 keeps:=fun x ho hd hs=>x.keeps ho hd hs
 pyHash:=fun hu hk h=>nS hu hk h
 eqBool:=fun hu hx hy h=>nU hu hx hy h
 quiet:=fun hk h=>pp hk h
noncomputable abbrev aS:=Int×List Int
noncomputable def sI (k:aS):Int:=reduceHash (Builtin.Tuple.tupleHashOf [hashInt k.1,reduceHash (Builtin.Tuple.tupleHashOf (k.2.map hashInt))])
noncomputable def il (x:aS×Addr×Value):DictEntry:=⟨sI x.1,.ref x.2.1,x.2.2⟩
theorem fF {prog:Program}{w:World}{A:Around} (hu:A.units+2<cLine):(bJ prog w).room A.in1:=hu
end L2
namespace L2
open PySem
section
variable {prog:Program}{w:World}{A:Around}{E:Value→Shared→Prop}{s:Shared}{d a:Addr}{xs:List (aS×Addr×Value)}{k:aS}{v:Value}
noncomputable def lR (prog:Program) (w:World) (h:Heap) (d:Addr) (xs:List (aS×Addr×Value)):Prop :=
 ∃ o ds ep,h.get? d=some o∧o.ExactDict∧o.data=.dict ds ep∧ds.toList=xs.map il∧(∀ x∈xs,cU prog w h x.1 x.2.1)∧(xs.map (·.1)).Nodup∧ep=xs.length
theorem lR.of {h:Heap} (x:lR prog w h d xs):h.DictOfH (bJ prog w) d xs:=by
 obtain ⟨o,ds,ep,h1,h2,h3,h4,h5,h6,_⟩:=x
 exact ⟨o,ds,ep,h1,h2,h3,h4,h5,h6⟩
theorem j7 {Q:Unit→Shared→Prop} (hu:A.units+1<cLine) (hkey:cU prog w s.heap k a) (hm:lR prog w s.heap d xs)
  (hQ:∀ h',lR prog w h' d (storedH xs k a v)→Heap.SameBut d s.heap h'→Q () { s with heap:=h',toks:=s.toks+(k.2.length+3) }) (hsz:xs.length≤sizeLine) :
  wpAny (model prog w) A (dictSet d (.ref a) v) Q E s:=by
 obtain ⟨o,es,ep,ho,hc,hd,he,his,hn,hl⟩:=hm
 unfold dictSet
 try with_reducible refine wpAny_holding ?_
 refine wpAny_bind ((bJ prog w).pyHash hu hkey ?_)
 unfold dictSetHashed
 try with_reducible refine wpAny_holding ?_
 refine wpAny_bind (wpAny_dictFind_heap (knd:=bJ prog w) (s:={ s with toks:=s.toks+(bJ prog w).draws k }) hu hkey ho hd he his hn ?_ ?_)
 ·intro hno
  have hnot:k ∉ xs.map (·.1):=not_mem_keys_of_get hno
  refine wpAny_bind (wpAny_rule (wpAny_updateDictKeys (hz:=by have e:=size_of_entries (knd:=bJ prog w) he;omega) (s:={ s with toks:=s.toks+(bJ prog w).draws k }) ho hd (hQ _ ⟨_,_,ep+1,EG _ ho (Obj.isFreed_of_dict (Obj.data_mapDictKeys hd _)),
   hc.mapDictKeys _,Obj.data_mapDictKeys hd _,?_,?_,?_,?_⟩ (Heap.SameBut.update ..))))
  all_goals rw[storedH_new (atKey_none_of_get hno)]
  ·simp [he,il,entryOfKey]
   rfl
  ·intro x hx
   rcases DQ.mp hx with hx|hx
   ·exact (bJ prog w).keeps (his x hx) ho hd (Heap.SameBut.update ..)
   ·simp only [DM] at hx
    subst hx
    exact (bJ prog w).keeps hkey ho hd (Heap.SameBut.update ..)
  ·rw [Ei,DZ]
   refine ⟨hn,by simp,fun x hx y hy=>?_⟩
   simp only [Ec,Fy,DM] at hy
   subst hy
   exact fun e=>hnot (e▸hx)
  ·rw [hl];simp
 ·intro j p hj
  refine wpAny_bind (wpAny_rule (wpAny_bind (wpAny_updateDict (s:={ s with toks:=s.toks+(bJ prog w).draws k }) ho hd (wpAny_point (hQ _ ⟨_,_,ep,EG _ ho (Obj.isFreed_of_dict (Obj.data_mapDict hd _)),
   hc.mapDict _,Obj.data_mapDict hd _,?_,?_,?_,?_⟩ (Heap.SameBut.update ..))))))
  all_goals rw[storedH_old (atKey_of_get hn hj)]
  ·have:=modify_map_putAt il (fun e:DictEntry=>{ e with val:=v }) k v (fun _ _=>rfl) hn hj
   rw [←he] at this
   obtain ⟨l⟩:=es
   simpa using this
  ·intro x hx
   obtain ⟨y,hy,rfl⟩:=D4.mp hx
   unfold putAt
   split <;> exact (bJ prog w).keeps (his y hy) ho hd (Heap.SameBut.update ..)
  ·rw [keys_map_putAt];exact hn
  ·rw [hl];simp
theorem pF {Q:Unit→Shared→Prop} (hu:A.in1.units+1<cLine) (hkey:cU prog w s.heap k a) (hm:lR prog w s.heap d xs)
  (hQ:∀ h',lR prog w h' d (storedH xs k a v)→Heap.SameBut d s.heap h'→Q () { s with heap:=h',toks:=s.toks+(k.2.length+3) }) (hsz:xs.length≤sizeLine) :
  wpAny (model prog w) A (setItem (.ref d) (.ref a) v) Q E s:=by
 have hT:=hm.of.typeIs
 unfold setItem
 try with_reducible refine wpAny_holding ?_
 refine wpAny_bind (wpAny_sequenceKey hT (by decide) ?_)
 refine wpAny_bind (wpAny_callSpecial?_slot (name:=Str.ofString "__setitem__") hT slot_dict_setitem (wpAny_call_entry slot_dict_setitem hT entry_dict_setitem ?_ (args_dict_setitem _ _ _)))
 show wpAny _ _ (Builtin.Dict.notOrdered "__setitem__" ⟨[.ref d,.ref a,v],[]⟩ >>= _) _ _ s
 refine wpAny_bind (wpAny_notOrdered_dict hT ?_)
 show wpAny _ _ (dictSet d (.ref a) v >>= _) _ _ s
 exact wpAny_bind (j7 hu hkey hm (fun h' hm' hs'=>wpAny_pure ⟨.none,rfl,wpAny_pure (hQ h' hm' hs')⟩) hsz)
variable {o od:Obj}{es:Array DictEntry}{ep i n:Nat}{it:Addr}
theorem qR {Q:Value→Shared→Prop} (hne:(d==sysModules)=false) (ho:s.heap.get? d=some o) (hc:o.ExactDict) (hdat:o.data=.dict es ep)
  (hQ:Q (.ref s.heap.objs.size) { s with heap:=s.heap.push { cls:=.type "dict_keyiterator",data:=.fields #[.ref d,.int 0 0,.int es.size 0,.int ep 0] } }) :
  wpAny (model prog w) A (pyIter (.ref d)) Q E s:=by
 have hT:s.TypeIs (.ref d) "dict" := ⟨o,ho,hc.1⟩
 refine wpAny_pyIter_slot hT F.slot_dict_iter (wpAny_call_entry F.slot_dict_iter hT F.entry_dict_iter ?_ (F.args_dict_iter_1 _))
 unfold Builtin.«dict.__iter__»
 refine wpAny_bind ?_
 unfold Builtin.Dict.dictSlotNone
 refine wpAny_bind (wpAny_notOrdered_dict hT ?_)
 show wpAny _ _ (pure (Value.ref d)) _ _ s
 refine wpAny_pure ?_
 show wpAny _ _ (Builtin.Dict.showsAll d >>= _) _ _ s
 unfold Builtin.Dict.showsAll
 rw [if_neg (by rw[hne];exact Ea)]
 refine wpAny_bind (wpAny_pure ?_)
 refine wpAny_bind (wpAny_dictEntries ho hdat ?_)
 refine wpAny_bind (wpAny_dictEpoch ho hdat ?_)
 refine wpAny_bind (wpAny_newObj_type (wpAny_pure ⟨_,rfl, "dict_keyiterator",_,⟨_,D8 _ rfl,rfl⟩,F.slot_dict_keyiterator_next.lookup,?_⟩))
 simpa [rawInt] using hQ
theorem tF {Q:Option Value→Shared→Prop} (hit:s.heap.IsKeyIter it d i es.size ep) (hod:s.heap.get? d=some od) (hdd:od.data=.dict es ep) (hlt:i<es.size)
  (hQ:∀ h',h'.IsKeyIter it d (i+1) es.size ep→Heap.SameBut it s.heap h'→Q (some es[i].key) { s with heap:=h' }) :
  wpAny (model prog w) A (pyNext (.ref it)) Q E s:=by
 obtain ⟨o,ho,hc,hd⟩:=id hit
 unfold pyNext
 refine wpAny_bind (wpAny_attempt (wpAny_callSpecial?_slot (name:=Str.ofString "__next__") hit.typeIs F.slot_dict_keyiterator_next
  (wpAny_call_entry F.slot_dict_keyiterator_next hit.typeIs F.entry_dict_keyiterator_next ?_ (F.args_dict_keyiterator_next_1 _))))
 refine wpAny_bind (wpAny_pure ?_)
 refine wpAny_bind ?_
 refine wpAny_bind ?_
 first|refine wpAny_bind (wpAny_typeNameOfWhole_keyiter hit.typeIs (wpAny_pure ?_))|refine wpAny_bind (wpAny_typeNameOf_keyiter hit.typeIs (wpAny_pure ?_))
 refine wpAny_bind (wpAny_fieldsOf ho hd ?_)
 have hown:Builtin.Dict_items.ownsTuple "dict_keyiterator" = false:=by decide
 simp only [hown,Em,if_false]
 show wpAny _ _ (if (Value.ref d==Value.none)=true then _ else _) _ _ s
 rw [if_neg (show ¬((Value.ref d==Value.none)=true) from Ea)]
 refine wpAny_bind (wpAny_pure ?_)
 refine wpAny_bind (wpAny_dictEntries hod hdd ?_)
 rw [if_neg (by simp)]
 refine wpAny_bind (wpAny_pure ?_)
 refine wpAny_bind (wpAny_dictEpoch hod hdd ?_)
 rw [if_neg (by simp)]
 refine wpAny_pure ?_
 simp only [show ¬((i:Int)<0) from by omega,if_false,Eu,Array.getElem?_eq_getElem hlt]
 refine wpAny_bind ?_
 first|refine wpAny_bind (wpAny_typeNameOfWhole_keyiter hit.typeIs (wpAny_pure ?_))|refine wpAny_bind (wpAny_typeNameOf_keyiter hit.typeIs (wpAny_pure ?_))
 refine wpAny_bind (wpAny_isOneOf_keyiter hit.typeIs ?_)
 show wpAny _ _ (setField (.ref it) 1 (rawInt ((i:Int)+1)) >>= _) _ _ s
 refine wpAny_bind (wpAny_setField ho hd (by simp) ?_)
 have hit':(s.heap.update it (Obj.mapFields (·.setIfInBounds 1 (rawInt ((i:Int)+1))))).IsKeyIter it d (i+1) es.size ep :=
  ⟨_,EG _ ho (Obj.isFreed_of_fields (Obj.data_mapFields hd _)),(Obj.cls_mapFields ..).trans hc,by rw[Obj.data_mapFields hd];simp[rawInt]⟩
 refine wpAny_bind (wpAny_holding ?_)
 refine wpAny_bind (wpAny_isOneOf_keyiter (s:={ s with heap:=s.heap.update it (Obj.mapFields (·.setIfInBounds 1 (rawInt ((i:Int)+1)))) }) hit'.typeIs ?_)
 show wpAny _ _ (pure es[i].key) _ _ _
 exact wpAny_pure (wpAny_pure ⟨_,rfl,wpAny_pure (hQ _ hit' (Heap.SameBut.update ..))⟩)
theorem um {Q:Option Value→Shared→Prop} (hh:A.handled=none) (hit:s.heap.IsKeyIter it d i es.size ep) (hod:s.heap.get? d=some od) (hdd:od.data=.dict es ep) (hge:es.size≤i)
  (hQ:∀ h',Heap.ExtBut it s.heap h'→Q none { s with heap:=h' }):wpAny (model prog w) A (pyNext (.ref it)) Q E s:=by
 obtain ⟨o,ho,hc,hd⟩:=id hit
 unfold pyNext
 refine wpAny_bind (wpAny_attempt (wpAny_callSpecial?_slot (name:=Str.ofString "__next__") hit.typeIs F.slot_dict_keyiterator_next
  (wpAny_call_entry F.slot_dict_keyiterator_next hit.typeIs F.entry_dict_keyiterator_next ?_ (F.args_dict_keyiterator_next_1 _))))
 refine wpAny_bind (wpAny_pure ?_)
 refine wpAny_bind ?_
 refine wpAny_bind ?_
 first|refine wpAny_bind (wpAny_typeNameOfWhole_keyiter hit.typeIs (wpAny_pure ?_))|refine wpAny_bind (wpAny_typeNameOf_keyiter hit.typeIs (wpAny_pure ?_))
 refine wpAny_bind (wpAny_fieldsOf ho hd ?_)
 have hown:Builtin.Dict_items.ownsTuple "dict_keyiterator" = false:=by decide
 simp only [hown,Em,if_false]
 show wpAny _ _ (if (Value.ref d==Value.none)=true then _ else _) _ _ s
 rw [if_neg (show ¬((Value.ref d==Value.none)=true) from Ea)]
 refine wpAny_bind (wpAny_pure ?_)
 refine wpAny_bind (wpAny_dictEntries hod hdd ?_)
 rw [if_neg (by simp)]
 refine wpAny_bind (wpAny_pure ?_)
 refine wpAny_bind (wpAny_dictEpoch hod hdd ?_)
 rw [if_neg (by simp)]
 refine wpAny_pure ?_
 simp only [show ¬((i:Int)<0) from by omega,if_false,Eu,Array.getElem?_eq_none hge]
 refine wpAny_bind ?_
 first|refine wpAny_bind (wpAny_typeNameOfWhole_keyiter hit.typeIs (wpAny_pure ?_))|refine wpAny_bind (wpAny_typeNameOf_keyiter hit.typeIs (wpAny_pure ?_))
 show wpAny _ _ (setField (.ref it) 0 .none >>= _) _ _ s
 refine wpAny_bind (wpAny_setField ho hd (by simp) ?_)
 show wpAny _ _ (newExc (.type "StopIteration") [] >>= _) _ _ _
 refine wpAny_bind ?_
 simp only [newExc,newTuple]
 refine wpAny_bind (wpAny_newObj_type ?_ (by size_fits))
 refine wpAny_bind (m:=firstArgMember _ _) (wpAny_of_eq (a:=Value.none) (by first|rfl|(simp only [firstArgMember];rfl)) ?_)
 refine wpAny_newObj_type ?_ (by size_fits)
 simp only [raiseNew]
 refine wpAny_bind (wpAny_handled ?_)
 rw [show A.in1.handled=none from hh]
 refine wpAny_bind (wpAny_pure (wpAny_throw ?_))
 refine wpAny_bind (wpAny_isInstance (T := "StopIteration") (b:=true) ⟨_,D8 _ rfl,rfl⟩ isSubtype_stop ?_)
 exact wpAny_pure (hQ _ (((Heap.SameBut.update ..).extBut.push _).push _))
end
end L2
namespace L2
open PySem PySem.Spec PyProof.Rows
noncomputable def bx (a:Addr) (es:List (aS×Addr×V)) (h:Heap):Prop :=
 es.length≤sizeLine∧(a==sysModules)=false∧∃ xs:List (aS×Addr×Value),Paired (fun (p:aS×Addr×V) (q:aS×Addr×Value)=>p.1=q.1∧p.2.1=q.2.1∧bz p.2.2 q.2.2) es xs ∧
  ∃ o ds ep,h.get? a=some o∧o.ExactDict∧o.data=.dict ds ep∧ds.toList=xs.map il∧(xs.map (·.1)).Nodup∧ep=xs.length
noncomputable abbrev cV (k:aS):PyData:=.tuple [.int k.1,.tuple (k.2.map .int)]
noncomputable abbrev dm (kvs:List (aS×PyData)):PyData:=.dict (kvs.map fun p=>(cV p.1,p.2))
noncomputable abbrev fzD (ds:List PyData):PyData:=.dict [(.none,.list ds)]
theorem BX {α:Type}{n:Nat}{l:List α} (h:l.length=n+1):∃ a t,l=a::t:=List.exists_cons_of_length_eq_add_one h
theorem sr {α:Type}{l:List α} (h:l.length=1):∃ a,l=[a]:=List.length_eq_one_iff.mp h
theorem BY {α:Type}{l:List α} (h:l.length=2):∃ a b,l=[a,b]:=by
 obtain ⟨a,t,rfl⟩:=BX h
 obtain ⟨b,rfl⟩:=sr (l:=t) (Nat.succ.inj h)
 exact ⟨a,b,rfl⟩
theorem Dj {α:Type}{l:List α} (h:l.length=3):∃ a b c,l=[a,b,c]:=by
 obtain ⟨a,t,rfl⟩:=BX h
 obtain ⟨b,c,rfl⟩:=BY (l:=t) (Nat.succ.inj h)
 exact ⟨a,b,c,rfl⟩
noncomputable def jb (e C:Addr) (dx:Option Addr) (h:Heap):Prop:=∃ vs sl,h.get? e=some { cls:=.ref C,dict:=dx,data:=.fields vs,slots:=sl }
mutual
inductive DV (K:PySem.W.Frag) (H:Hp):V→PyData→Prop
 | non:DV K H .non .none
 | bl (b:Bool):DV K H (.bl b) (.bool b)
 | int (i:Int):DV K H (.int i) (.int i)
 | lst {a:Addr}{xs:List V}{ds:List PyData}:SqL K H a xs→DVs K H xs ds→DV K H (.ref a) (.list ds)
 | tup {a:Addr}{xs:List V}{ds:List PyData}:SqT K H a xs→DVs K H xs ds→DV K H (.ref a) (.tuple ds)
 | dct {a:Addr}{es:List (aS×Addr×V)}{kvs:List (aS×PyData)}:H a=some (.ext (bx a es))→DVs K H (es.map fun p=>V.ref p.2.1) (kvs.map fun p=>cV p.1)→DVs K H (es.map fun p=>p.2.2) (kvs.map fun p=>p.2)→es.map (fun p=>p.1)=kvs.map (fun p=>p.1)→DV K H (.ref a) (dm kvs)
 | fz {v:V}{ds:List PyData}:DV K H v (.list ds)→DV K H v (fzD ds)
inductive DVs (K:PySem.W.Frag) (H:Hp):List V→List PyData→Prop
 | nil:DVs K H [] []
 | cons {x:V}{xs:List V}{d:PyData}{ds:List PyData}:DV K H x d→DVs K H xs ds→DVs K H (x::xs) (d::ds)
end
theorem DV.tupI {K:PySem.W.Frag}{H:Hp}{v:V}{ds:List PyData} (h:DV K H v (.tuple ds)):∃ a xs,v=.ref a∧SqT K H a xs∧DVs K H xs ds:=by
 cases h with
 | tup h q=>exact⟨_,_,rfl,h,q⟩
theorem DV.lstI {K:PySem.W.Frag}{H:Hp}{v:V}{ds:List PyData} (h:DV K H v (.list ds)):∃ a xs,v=.ref a∧SqL K H a xs∧DVs K H xs ds:=by
 cases h with
 | lst h q=>exact⟨_,_,rfl,h,q⟩
theorem DV.intI {K:PySem.W.Frag}{H:Hp}{v:V}{i:Int} (h:DV K H v (.int i)):v=.int i:=by
 cases h;rfl
theorem DVs.twoI {K:PySem.W.Frag}{H:Hp}{vs:List V}{d e:PyData} (h:DVs K H vs [d,e]):∃ x y,vs=[x,y]∧DV K H x d∧DV K H y e:=by
 cases h with
 | cons h q =>
  cases q with
  | cons h2 q=>cases q;exact⟨_,_,rfl,h,h2⟩
section
variable {X:Cx}{pins:List (Addr×Obj)}{σ:St}{H:Hp}{s:Shared}
theorem DVs.ind {K:PySem.W.Frag}{H:Hp}{C:List V→List PyData→Prop} (n:C [] []) (c:∀ {x:V}{xs:List V}{d:PyData}{ds:List PyData},DV K H x d→DVs K H xs ds→C xs ds→C (x::xs) (d::ds)) {v:List V}{d:List PyData} (h:DVs K H v d):C v d :=
 DVs.rec (motive_1:=fun _ _ _=>True) (motive_2:=fun v d _=>C v d) trivial (fun _=>trivial) (fun _=>trivial)
 (fun _ _ _=>trivial) (fun _ _ _=>trivial)
 (fun _ _ _ _ _ _=>trivial) (fun _ _=>trivial) n (fun h q _ i=>c h q i) h
theorem DV.reads (I:Inv X pins σ H s) {x:V}{d:PyData}{u:Value} (h:DV X.K H x d):bz x u→d.canLay0=true→∃ as,Reads s.heap u d as :=
 DV.rec (motive_1:=fun x d _=>∀ u:Value,bz x u→d.canLay0=true→∃ as,Reads s.heap u d as) (motive_2:=fun xs ds _=>∀ us:List Value,aK xs us→PyData.canLayAll0 ds=true→∃ as,ReadsAll s.heap us ds as)
 (fun u r _=>by cases (show _=Value.none from r);exact⟨_,.none⟩)
 (fun b u r _=>by cases (show _=Value.bool b from r);exact⟨_,.bool b⟩)
 (fun i u r _=>by obtain⟨t,rfl⟩:=r;exact⟨_,.int i t⟩)
 (fun {a xs ds} h q i u r l=>by
  cases (show _=Value.ref a from r)
  obtain ⟨its,rv,⟨o,n,e,c,_,hd⟩,_⟩:=I.list h
  obtain ⟨as,ra⟩:=i _ rv (by simpa only [PyData.canLay0] using l)
  exact ⟨_,.list e c hd (by simpa using ra)⟩)
 (fun {a xs ds} h q i u r l=>by
  cases (show _=Value.ref a from r)
  obtain ⟨its,rv,⟨o,e,c,n,hd⟩,_⟩:=I.tuple h
  obtain ⟨as,ra⟩:=i _ rv (by simpa only [PyData.canLay0] using l)
  exact ⟨_,.tuple e c hd (by simpa using ra)⟩)
 (fun _ _ _ _ _ _ _ _ l=>by simp[PyData.canLay0] at l) (fun _ _ _ _ l=>by simp[PyData.canLay0] at l)
 (fun us r _=>by rw[aK.zero r];exact⟨_,.nil⟩)
 (fun _ _ i j us r l=>by
  simp only [PyData.canLayAll0,Es] at l
  obtain ⟨u,vs,rfl,r1,r2⟩:=aK.consI r
  obtain ⟨as,ra⟩:=i u r1 l.1
  obtain ⟨bs,rb⟩:=j vs r2 l.2
  exact ⟨_,.cons ra rb⟩) h u
theorem jL:∀ ns:List Int,PyData.canLayAll0 (ns.map PyData.int)=true
 | []=>rfl
 | n::ns=>by simp only [Ec,PyData.canLayAll0,PyData.canLay0,Fm,jL ns]
noncomputable abbrev shp (d:PyData):Prop:=SeqAt.shaped d=true
noncomputable def BF (K:PySem.W.Frag):R2:=fun x y H Q=>∃ d e,DV K H x d∧DV K H y e∧shp d∧shp e∧Q (.bl (PyData.eqv d e)) H
noncomputable def BB (K:PySem.W.Frag):R2:=fun x y H Q=>∃ d e,DV K H x d∧DV K H y e∧shp d∧shp e∧Q (.bl (!PyData.eqv d e)) H
theorem zS (hu:X.A.units+64<cLine):OpR X (compareOp .Eq) (BF X.K):=by
 intro pins s σ H x y v u Q I r1 r2 h
 obtain ⟨d,e,h1,h2,s1,s2,q⟩:=h
 obtain ⟨as,ra⟩:=h1.reads I r1 (SeqAt.canLay_of_shaped s1)
 obtain ⟨bs,rb⟩:=h2.reads I r2 (SeqAt.canLay_of_shaped s2)
 exact eq_dataH ra rb s1 s2 hu ⟨.bl _,H,I,rfl,q⟩
theorem zM (hu:X.A.units+64<cLine):OpR X (compareOp .NotEq) (BB X.K):=by
 intro pins s σ H x y v u Q I r1 r2 h
 obtain ⟨d,e,h1,h2,s1,s2,q⟩:=h
 obtain ⟨as,ra⟩:=h1.reads I r1 (SeqAt.canLay_of_shaped s1)
 obtain ⟨bs,rb⟩:=h2.reads I r2 (SeqAt.canLay_of_shaped s2)
 exact ne_dataH ra rb s1 s2 hu ⟨.bl _,H,I,rfl,q⟩
theorem ki:∀ {bs:List Bool}{us:List Value},aK (bs.map V.bl) us→LSm.BoolsAre us bs
 | [],_,.nil=>.nil
 | b::bs,_,.cons r t=>by
  cases (show _=Value.bool b from r)
  exact .cons b (ki t)
theorem uF (hc:X.calm=true):c9 X (.builtin "all") (fun xs H Q=>∃ (a:Addr) (bs:List Bool),xs=[.ref a]∧SqL X.K H a (bs.map V.bl)∧Q (.bl (bs.all id)) H):=by
 intro pins s σ H xs us Q I r h
 obtain ⟨a,bs,rfl,hs,q⟩:=h
 obtain ⟨u,rfl,ru⟩:=ji r
 cases (show u=Value.ref a from ru)
 obtain ⟨its,rv,p,_⟩:=I.list hs
 have hb:=ki rv
 have hl:=p.isList
 have hlt:a<s.heap.objs.size:=by obtain⟨_,e,_⟩:=hl;exact D7 e
 refine call_all_walk (wpAny_pyIter_list hl ?_)
 refine ⟨s.heap.objs.size,[s.heap.objs.size,a],[s.heap.objs.size],its.toArray.size,_,_,fun i=>(bs[i]?).getD true,rfl,Walks.list (A:=X.A.in1) (I.ok.hd hc) _ a (Ed hlt) its.toArray,
  ⟨⟨_,D8 _ rfl,rfl,rfl⟩,hl.push _⟩,fun i v s' Q' E' hP hQ=>?_,fun h' tk hk=>?_⟩
 ·obtain ⟨b,e,rfl⟩:=hb.get i v (by simpa using hP)
  simp only [e,Option.getD_some] at hQ
  exact wpAny_truthy_bool hQ
 ·have e:((List.range its.toArray.size).all fun i=>(bs[i]?).getD true)=bs.all id:=by
   rw [D5,hb.length]
   exact LSm.range_all bs
  rw [e]
  exact ⟨.bl _,H,I.kept (LSm.kept_iter hk),rfl,q⟩
noncomputable def y6 (K:PySem.W.Frag):R2:=fun x y H Q=>∃ a b xs ys,x=.ref a∧y=.ref b∧SqT K H a xs∧SqT K H b ys∧xs.length+ys.length≤sizeLine ∧
 (xs=[]→Q (.ref b) H)∧(xs≠[]→ys=[]→Q (.ref a) H)∧(xs≠[]→ys≠[]→∀ p,H p=none→Q (.ref p) (upd H p (.tup (xs++ys))))
theorem xm:OpR X (binaryOp .Add) (y6 X.K):=by
 intro pins s σ H x y v u Q I r1 r2 h
 obtain ⟨a,b,xs,ys,rfl,rfl,ha,hb,hz,q0,q1,q2⟩:=h
 by_cases hx:xs=[]
 ·subst hx
  cases (show v=Value.ref a from r1)
  cases (show u=Value.ref b from r2)
  obtain ⟨its,v1,p1,_⟩:=I.tuple ha
  obtain ⟨its2,v2,p2,_⟩:=I.tuple hb
  cases v1
  obtain ⟨⟨cls,dd,data,sl⟩,ho,hc,n,hd⟩:=id p1
  obtain ⟨⟨cls2,dd2,data2,sl2⟩,ho2,hc2,n2,hd2⟩:=id p2
  simp only at hc hd hc2 hd2
  subst hc hd hc2 hd2
  exact concat_meets ⟨_,ho,rfl⟩ ⟨_,ho2,rfl⟩ noFill_tuple_add seq_tuple_add PySem.F.slot_tuple_add PySem.F.entry_tuple_add (PySem.F.args_tuple_add_2 _ _)
   (tuple_addW0 a b #[] its2.toArray n n2 dd dd2 sl sl2 rfl) ⟨ho,ho2,.ref b,H,I,rfl,q0 rfl⟩
 ·exact xl pins s σ H _ _ v u Q I r1 r2 ⟨a,b,xs,ys,rfl,rfl,ha,hb,hx,hz,q1 hx,q2 hx⟩
end
noncomputable def cn:Bool→Heap→Addr→Array Value→Prop
 | false,h,a,xs=>h.IsList a xs
 | true,h,a,xs=>h.IsTuple a xs
noncomputable def cg:Bool→Heap→Addr→Addr→Nat→Prop
 | false,h,it,a,i=>h.IsListIter it a i
 | true,h,it,a,i=>h.IsTupleIter it a i
theorem cn.at {b:Bool}{h h':Heap}{a:Addr}{xs:Array Value} (p:cn b h a xs) (k:∀ o,h.get? a=some o→h'.get? a=some o):cn b h' a xs:=by
 cases b with
 | false=>obtain⟨o,e,r⟩:=p;exact⟨o,k o e,r⟩
 | true=>obtain⟨o,e,r⟩:=p;exact⟨o,k o e,r⟩
theorem cg.at {b:Bool}{h h':Heap}{it a:Addr}{i:Nat} (p:cg b h it a i) (k:∀ o,h.get? it=some o→h'.get? it=some o):cg b h' it a i:=by
 cases b with
 | false=>obtain⟨o,e,r⟩:=p;exact⟨o,k o e,r⟩
 | true=>obtain⟨o,e,r⟩:=p;exact⟨o,k o e,r⟩
theorem cn.obj {b:Bool}{h:Heap}{a:Addr}{xs:Array Value} (p:cn b h a xs):∃ o n,h.get? a=some o∧o.data=.seq xs n:=by
 cases b with
 | false=>obtain⟨o,e,_,n,d⟩:=p;exact⟨o,n,e,d⟩
 | true=>obtain⟨o,e,_,n,d⟩:=p;exact⟨o,n,e,d⟩
theorem cg.obj {b:Bool}{h:Heap}{it a:Addr}{i:Nat} (p:cg b h it a i):∃ o,h.get? it=some o∧o.data=.fields #[.ref a,.int i 0]:=by
 cases b with
 | false=>obtain⟨o,e,_,d⟩:=p;exact⟨o,e,d⟩
 | true=>obtain⟨o,e,_,d⟩:=p;exact⟨o,e,d⟩
section
variable {prog:Program}{w:World}{A:Around}{E:Value→Shared→Prop}{s:Shared}
theorem tE {it t:Addr}{i:Nat}{items:Array Value}{x:Value}{Q:Value→Shared→Prop} (hit:s.heap.IsTupleIter it t i) (ht:s.heap.IsTuple t items) (hx:items[i]? = some x)
  (hQ:∀ h',h'.IsTupleIter it t (i+1)→Heap.SameBut it s.heap h'→Q x { s with heap:=h' }):wpAny (model prog w) A (Builtin.SmallTypes.nextOf (.ref it)) Q E s:=by
 obtain ⟨o,ho,hc,hd⟩:=id hit
 obtain ⟨ol,hol,_,nl,hdl⟩:=ht
 unfold Builtin.SmallTypes.nextOf
 refine wpAny_bind (wpAny_callSpecial?_slot (name:=Str.ofString "__next__") hit.typeIs F.slot_tuple_iterator_next (wpAny_call_entry F.slot_tuple_iterator_next hit.typeIs F.entry_tuple_iterator_next ?_ (F.args_tuple_iterator_next_1 _)))
 show wpAny _ _ (field (.ref it) 0 >>= _) _ _ s
 refine wpAny_bind (wpAny_field ho hd (x:=.ref t) rfl ?_)
 show wpAny _ _ (if (Value.ref t==Value.none)=true then _ else _) _ _ s
 rw [if_neg (show ¬((Value.ref t==Value.none)=true) from Ea)]
 show wpAny _ _ (field (.ref it) 1 >>= _) _ _ s
 refine wpAny_bind (wpAny_field ho hd (x:=.int i 0) rfl ?_)
 show wpAny _ _ (seqItems? (.ref t) >>= _) _ _ s
 refine wpAny_bind (wpAny_seqItems hol hdl ?_)
 simp only [Eu,hx]
 refine wpAny_bind (wpAny_setField ho hd (by simp) (wpAny_pure ⟨x,rfl,wpAny_pure (hQ _ ?_ (Heap.SameBut.update ..))⟩))
 refine ⟨_,EG _ ho (Obj.isFreed_of_fields (Obj.data_mapFields hd _)),(Obj.cls_mapFields ..).trans hc,?_⟩
 rw [Obj.data_mapFields hd]
 simp [rawInt]
theorem lm {it t:Addr}{i:Nat}{items:Array Value}{Q:Value→Shared→Prop} (hh:A.handled=none) (hit:s.heap.IsTupleIter it t i) (ht:s.heap.IsTuple t items) (hx:items[i]? = none)
  (hE:∀ h' e,Heap.ExtBut it s.heap h'→(∃ o,h'.get? e=some o∧o.cls=.type "StopIteration")→E (.ref e) { s with heap:=h' }):wpAny (model prog w) A (Builtin.SmallTypes.nextOf (.ref it)) Q E s:=by
 obtain ⟨o,ho,hc,hd⟩:=id hit
 obtain ⟨ol,hol,_,nl,hdl⟩:=ht
 unfold Builtin.SmallTypes.nextOf
 refine wpAny_bind (wpAny_callSpecial?_slot (name:=Str.ofString "__next__") hit.typeIs F.slot_tuple_iterator_next (wpAny_call_entry F.slot_tuple_iterator_next hit.typeIs F.entry_tuple_iterator_next ?_ (F.args_tuple_iterator_next_1 _)))
 show wpAny _ _ (field (.ref it) 0 >>= _) _ _ s
 refine wpAny_bind (wpAny_field ho hd (x:=.ref t) rfl ?_)
 show wpAny _ _ (if (Value.ref t==Value.none)=true then _ else _) _ _ s
 rw [if_neg (show ¬((Value.ref t==Value.none)=true) from Ea)]
 show wpAny _ _ (field (.ref it) 1 >>= _) _ _ s
 refine wpAny_bind (wpAny_field ho hd (x:=.int i 0) rfl ?_)
 show wpAny _ _ (seqItems? (.ref t) >>= _) _ _ s
 refine wpAny_bind (wpAny_seqItems hol hdl ?_)
 simp only [Eu,hx]
 refine wpAny_bind (wpAny_rule (wpAny_bind (wpAny_setField ho hd (by simp) ?_)))
 show wpAny _ _ (newExc (.type "StopIteration") [] >>= _) _ _ _
 refine wpAny_bind ?_
 simp only [newExc,newTuple]
 refine wpAny_bind (wpAny_newObj_type ?_ (by size_fits))
 refine wpAny_bind (m:=firstArgMember _ _) (wpAny_of_eq (a:=Value.none) (by first|rfl|(simp only [firstArgMember];rfl)) ?_)
 refine wpAny_newObj_type ?_ (by size_fits)
 simp only [raiseNew]
 refine wpAny_bind (wpAny_handled ?_)
 first|rw[show A.in1.handled=none from hh]|rw[hh]
 exact wpAny_bind (wpAny_pure (wpAny_throw (hE _ _ (((Heap.SameBut.update ..).extBut.push _).push _) ⟨_,D8 _ rfl,rfl⟩)))
theorem fK {b:Bool}{it a:Addr}{i:Nat}{items:Array Value}{x:Value}{Q:Value→Shared→Prop} (hit:cg b s.heap it a i) (ha:cn b s.heap a items) (hx:items[i]? = some x)
  (hQ:∀ h',cg b h' it a (i+1)→Heap.SameBut it s.heap h'→Q x { s with heap:=h' }):wpAny (model prog w) A (Builtin.SmallTypes.nextOf (.ref it)) Q E s:=by
 cases b with
 | false=>exact wpAny_nextOf_list_item hit ha hx hQ
 | true=>exact tE hit ha hx hQ
theorem dO {b:Bool}{it a:Addr}{i:Nat}{items:Array Value}{Q:Value→Shared→Prop} (hh:A.handled=none) (hit:cg b s.heap it a i) (ha:cn b s.heap a items) (hx:items[i]? = none)
  (hE:∀ h' e,Heap.ExtBut it s.heap h'→(∃ o,h'.get? e=some o∧o.cls=.type "StopIteration")→E (.ref e) { s with heap:=h' }):wpAny (model prog w) A (Builtin.SmallTypes.nextOf (.ref it)) Q E s:=by
 cases b with
 | false=>exact wpAny_nextOf_list_end hh hit ha hx hE
 | true=>exact lm hh hit ha hx hE
end
theorem j6 {prog:Program}{w:World}{A:Around} (b:Bool) (hh:A.handled=none) (it a:Addr) (hne:a≠it) (items:Array Value) :
  Draws prog w A it [it,a] items.size (fun i v=>items[i]? = some v) (fun i h=>cg b h it a i∧cn b h a items) where
 live:=fun _ _ st=>by obtain⟨o,e,_⟩:=st.1.obj;exact⟨o,e⟩
 frame:=fun _ _ _ st hk=>⟨st.1.at fun o e=>hk it (by simp) o e,st.2.at fun o e=>hk a (by simp) o e⟩
 item:=fun i s Q E hi st hQ=>fK st.1 st.2 (x:=items[i]) (by simp[hi]) fun h' st' sb=>hQ _ h' s.toks (by simp[hi]) ⟨st',st.2.at fun o e=>sb.extBut a o hne e⟩ sb
 done:=fun s Q E st hE=>dO hh st.1 st.2 (by simp) hE
noncomputable def SqB (K:PySem.W.Frag) (H:Hp):Bool→Addr→List V→Prop
 | false,a,xs=>SqL K H a xs
 | true,a,xs=>SqT K H a xs
section
variable {X:Cx}{pins:List (Addr×Obj)}{σ:St}{H:Hp}{s:Shared}
theorem Inv.seq (I:Inv X pins σ H s) {b:Bool}{a:Addr}{xs:List V} (h:SqB X.K H b a xs):∃ its:List Value,aK xs its∧cn b s.heap a its.toArray:=by
 cases b with
 | false=>obtain⟨its,r,p,_⟩:=I.list h;exact⟨its,r,p.isList⟩
 | true=>obtain⟨its,r,p,_⟩:=I.tuple h;exact⟨its,r,p⟩
theorem Inv.seq_inj (I:Inv X pins σ H s) {b:Bool}{a:Addr}{xs ys:List V} (h:SqB X.K H b a xs) (h':SqB X.K H b a ys):xs=ys:=by
 cases b with
 | false=>exact I.list_inj h h'
 | true=>exact I.tuple_inj h h'
theorem Inv.turnedN {fp:List Addr}{h':Heap}{t':Nat} (I:Inv X pins σ H s) (hf:∀ b∈fp,fE X pins H b) (k:∀ b o,b ∉ fp→s.heap.get? b=some o→h'.get? b=some o):Inv X pins σ H { s with heap:=h',toks:=t' }:=by
 have nfp:∀ b u,H b=some u→b ∉ fp:=fun b u e z=>by rw[(hf b z).1] at e;cases e
 refine I.step (g':=s.gens) (d':=s.drawn) (ch:=fp) (fun b hb=>?_) (fun b o _ _ hc e _=>k b o hc e) (fun b o _ _ hc e _=>⟨o.slots,k b o hc e⟩) (fun _ _ _ _ n=>n) (fun b o hc e=>⟨o,k b o hc e⟩) (fun _ _ e=>e) (fun _ _ _ e=>e)
  (fun _ _ e=>e) (fun m hm=>?_) (fun b u e=>?_) I.bare
 ·obtain ⟨f0,f1,f2,f3,f4,f5⟩:=hf b hb
  exact ⟨f3,f1,f4,f5⟩
 ·obtain ⟨o,es,ep,ho,r⟩:=hm
  exact ⟨o,es,ep,k _ o (fun z=>(hf _ z).2.1 rfl) ho,r⟩
 ·refine (I.hok b u e).stay (fun c v hc q=>k c v ?_ q) (fun _ q=>q) fun _ _ _ q=>q
  rcases hc with z|z
  ·rw [z];exact nfp b u e
  ·exact nfp c _ z
theorem Inv.track {T:Addr}{o:HO} (I:Inv X pins σ H s) (hf:fE X pins H T) (new:c7 X.prog X.w (upd H T o) s.heap T o):Inv X pins σ (upd H T o) s:=by
 obtain ⟨f0,f1,f2,f3,f4,f5⟩:=hf
 have nT:∀ b u,H b=some u→b≠T:=fun b u e z=>by rw[z,f0] at e;cases e
 have q:=I.step (h':=s.heap) (H':=upd H T o) (g':=s.gens) (d':=s.drawn) (t':=s.toks) (ch:=[T]) (fun b hb=>by
   have e:b=T:=by simpa using hb
   rw [e];exact⟨f3,f1,f4,f5⟩) (fun b o _ _ _ e _=>e) (fun b o _ _ _ e _=>⟨o.slots,e⟩) (fun b o' hc _ n=>by rw[ai (fun z=>hc (by simp[z]))];exact n) (fun b o' _ e=>⟨o',e⟩)
  (fun b xs e=>by rw[ai (nT b _ e)];exact e) (fun b o' u e=>by rw[ai (nT b _ e)];exact e) (fun b ps e=>by rw[ai (nT b _ e)];exact e) (fun m hm=>hm) (fun b u e=>?_) I.bare
 ·exact q
 ·by_cases hb:b=T
  ·subst hb;rw[ar] at e;cases e;exact new
  ·rw [ai hb] at e
   exact (I.hok b u e).stay (fun _ _ _ q=>q) (fun c q=>by rw[ai (nT c _ q)];exact q) fun c xs _ q=>by rw[ai (nT c _ q)];exact q
end
noncomputable def Ite (K:PySem.W.Frag) (b:Bool) (a:Addr):It :=
 ⟨fun i H=>∃ xs x,SqB K H b a xs∧xs[i]? = some x,fun i H v H'=>∃ p x,v=.ref p∧H p=none∧H'=upd H p (.tup [.int i,x])∧∀ xs,SqB K H b a xs→xs[i]? = some x,fun i H=>∃ xs,SqB K H b a xs∧xs.length=i⟩
theorem pi {P:Program}{w:World}{K:PySem.W.Frag}{es:List Expr}{kk:Nat}{pos:Pos} (b:Bool) (a it e:Addr) (hei:e≠it) :
  yz P w K (.Tuple es kk pos) (Ite K b a) [e,it] e (fun i h=>(∃ old,IsEnum h e it i old)∧cg b h it a i) where
 mem:=by simp
 obj := fun i h st c hc=>by
  obtain ⟨⟨old,he⟩,st⟩:=st
  rcases D3.mp hc with rfl|hc
  ·exact ⟨_,he,fun v z=>by
    have z':Data.fields _=Data.cell v:=z
    cases z'⟩
  ·have e':c=it:=by simpa using hc
   subst e'
   obtain ⟨o,ho,hd⟩:=st.obj
   exact ⟨o,ho,fun v z=>by rw[hd] at z;cases z⟩
 keep:=fun i h h' st k=>by
  obtain ⟨⟨old,he⟩,st⟩:=st
  exact ⟨⟨old,k e (by simp) _ he⟩,st.at fun o q=>k it (by simp) o q⟩
 item := by
  intro X hP hw hK hc i pins s σ H E I hf st hg
  subst hP hw hK
  obtain ⟨xs,x,hq,hx⟩:=hg
  obtain ⟨⟨old,he⟩,st⟩:=st
  obtain ⟨its,rv,ha⟩:=I.seq hq
  obtain ⟨u,hu,ru⟩:=rv.get hx
  obtain ⟨oa,na,ea,da⟩:=ha.obj
  obtain ⟨oi,ei,di⟩:=st.obj
  have hai:a≠it:=fun z=>by rw[z,ei] at ea;cases ea;rw[di] at da;cases da
  have hea:e≠a:=fun z=>by rw[←z,he] at ea;cases ea;cases da
  have hlt:i<its.toArray.size:=by
   have:=(DX.mp hu).1
   simpa using this
  refine wpAny_pyNext_enum_itemD (j6 (A:=X.A.in1) b (I.ok.hd hc) it a hai its.toArray) he ⟨st,ha⟩ hlt hei (by simp[hei,hea]) fun y h1 tk hy hout st1 hT hz hk=>?_
  have ey:y=u:=by
   have:its[i]? = some y:=by simpa using hy
   rw [hu] at this
   exact (Option.some.inj this).symm
  subst ey
  refine ⟨_,rfl,wpAny_letOwnedTupleGo_enum hout fun h2 he2 hs2=>?_⟩
  have elt:e<s.heap.objs.size:=D7 he
  have ilt:it<s.heap.objs.size:=D7 ei
  have I2:Inv X pins σ H { s with heap:=h2,toks:=tk+1 }:=I.turnedN hf fun c o hc q=>hs2.extBut c o (fun z=>hc (by simp[z])) (hk c o (fun z=>hc (by simp[z])) (fun z=>hc (by simp[z])) q)
  have g2:h2.get? s.heap.objs.size=some { cls:=.type "tuple",data:=.seq #[.int i tk,y] }:=hs2.extBut _ _ (EH elt) hT
  have hn:H s.heap.objs.size=none:=I.hok.fresh (D2 _)
  refine ⟨.ref s.heap.objs.size,upd H s.heap.objs.size (.tup [.int i,x]),I2.track (T:=s.heap.objs.size) (o:=.tup [.int i,x]) (I.fpOk (D2 _) hn) ?_,rfl,?_,⟨⟨y,he2⟩,?_⟩,fun c hc=>?_⟩
  ·exact ⟨by show 2≤sizeLine;decide,[.int i tk,y],.cons ⟨tk,rfl⟩ (.cons ru .nil),_,g2,rfl,_,rfl⟩
  ·exact ⟨_,x,rfl,hn,rfl,fun ys hy=>by rw[I.seq_inj hy hq];exact hx⟩
  ·exact st1.1.at fun o q=>hs2.extBut it o (Ne.symm hei) q
  ·have:c<s.heap.objs.size:=by
    rcases D3.mp hc with rfl|hc
    ·exact elt
    ·have e':c=it:=by simpa using hc
     rw [e'];exact ilt
   rw [ai (Ed this)]
   exact (hf c hc).1
 done:=by
  intro X hP hw hK hc i pins s σ H E I hf st hg
  subst hP hw hK
  obtain ⟨xs,hq,hx⟩:=hg
  obtain ⟨⟨old,he⟩,st⟩:=st
  obtain ⟨its,rv,ha⟩:=I.seq hq
  obtain ⟨oa,na,ea,da⟩:=ha.obj
  obtain ⟨oi,ei,di⟩:=st.obj
  have hai:a≠it:=fun z=>by rw[z,ei] at ea;cases ea;rw[di] at da;cases da
  have hl:=rv.length
  have ez:its.toArray.size=i:=by simp;omega
  refine wpAny_pyNext_enum_endD (j6 (A:=X.A.in1) b (I.ok.hd hc) it a hai its.toArray) he (by rw[ez];exact⟨st,ha⟩) fun h' hx'=>⟨rfl,?_⟩
  exact I.turnedN (t':=s.toks) hf fun c o hc q=>hx' c o (fun z=>hc (by simp[z])) q
 self:=fun A i s Q E st h=>by
  obtain ⟨⟨old,he⟩,st⟩:=st
  exact wpAny_pyIter_enum he h
noncomputable abbrev gS (b:Bool) (a:Addr):Obj:={ cls:=.type (if b then "tuple_iterator" else "list_iterator"),data:=.fields #[.ref a,.int 0 0] }
theorem iR {b:Bool}{h:Heap}{it a:Addr} (e:h.get? it=some (gS b a)):cg b h it a 0:=by
 cases b with
 | false=>exact⟨_,e,rfl,rfl⟩
 | true=>exact⟨_,e,rfl,rfl⟩
theorem d9 {prog:Program}{w:World}{A:Around}{E:Value→Shared→Prop}{s:Shared}{b:Bool}{a:Addr}{items:Array Value}{Q:Value→Shared→Prop} (ha:cn b s.heap a items)
  (hQ:Q (.ref s.heap.objs.size) { s with heap:=s.heap.push (gS b a) }):wpAny (model prog w) A (pyIter (.ref a)) Q E s:=by
 cases b with
 | false=>exact wpAny_pyIter_list ha hQ
 | true=>exact wpAny_pyIter_tuple ha hQ
open AutoSeq1 (wpAny_loadPart') in
theorem rd (l:Addr) (items:Array Value) (n:Nat) (dct:Option Addr) (sl:Array (Option Value)) :
  Meets (Builtin.«enumerate.__new__» ⟨[.type "enumerate",.ref l],[]⟩) (fun _ R s=>s.heap.get? l=some { cls:=.type "tuple",dict:=dct,data:=.seq items n,slots:=sl } ∧
   R (.ok (.ret (.ref (s.heap.push (gS true l)).objs.size))) { s with heap:=(s.heap.push (gS true l)).push { cls:=.type "enumerate",data:=.fields #[.none,.bool false,.ref s.heap.objs.size,rawInt 0,.none,.none] } }) :=
 .of_wp fun prog w A R s h=>by
  obtain ⟨hp,g,d,tk,os⟩:=s
  obtain ⟨hl,h⟩:=h
  have hsub:=sub_enumerate
  have hL:cn true (Shared.heap ⟨hp,g,d,tk,os⟩) l items:=⟨_,hl,rfl,n,rfl⟩
  wp_walk using wpAny_loadPart' hl
  refine wpAny_stack_any fun st=>wpAny_pure ?_
  split
  ·rename_i c _ _ _ _ _
   cases (c==Value.type "enumerate") <;> (wp_walk using wpAny_loadPart' hl,d9 hL) <;> exact⟨_,rfl,h⟩
  ·wp_walk using wpAny_loadPart' hl,d9 hL
   exact ⟨_,rfl,h⟩
section
variable {prog:Program}{w:World}{A:Around}{E:Value→Shared→Prop}{s:Shared}
theorem rf {b:Bool}{l:Addr}{items:Array Value}{Q:Value→Shared→Prop} (hL:cn b s.heap l items)
  (h : ∀ h',IsEnum h' (s.heap.objs.size+1) s.heap.objs.size 0 .none→cg b h' s.heap.objs.size l 0→h'.objs.size=s.heap.objs.size+2→(∀ c o,s.heap.get? c=some o→h'.get? c=some o)→Q (.ref (s.heap.objs.size+1)) { s with heap:=h' }) :
  wpAny (model prog w) A (call (.type "enumerate") [.ref l]) Q E s:=by
 cases b with
 | false=>exact call_enumerate_list hL h
 | true =>
  obtain ⟨⟨c,dct,dt,sl⟩,hl,hc,n,hd⟩:=hL
  replace hc:c=.type "tuple" := hc
  replace hd:dt=.seq items n:=hd
  subst hc hd
  refine callType_new F.called_enumerate (by decide) (F.typeCall_enumerate_1 _) (F.newCall_enumerate_1 _) (fun obj=>F.args_object_init_2 obj _) F.entry_enumerate_new (rd l items n dct sl) ⟨hl,?_⟩
  have hz:(s.heap.push (gS true l)).objs.size=s.heap.objs.size+1:=ED ..
  show _∧_
  rw [hz]
  have he:IsEnum ((s.heap.push (gS true l)).push { cls:=.type "enumerate",data:=.fields #[.none,.bool false,.ref s.heap.objs.size,rawInt 0,.none,.none] }) (s.heap.objs.size+1) s.heap.objs.size 0 .none:=by
   have q:=D8 (s.heap.push (gS true l)) (o:={ cls:=.type "enumerate",data:=.fields #[.none,.bool false,.ref s.heap.objs.size,rawInt 0,.none,.none] }) rfl
   rw [hz] at q
   exact q
  exact ⟨⟨_,he,rfl⟩,h _ he (iR (DU _ (D8 _ rfl))) (by rw[ED,hz]) fun c o x=>DU _ (DU _ x)⟩
end
section
variable {X:Cx}
noncomputable def Ao (K:PySem.W.Frag) (b:Bool) (ta:TA):TI:=fun σ H R=>ta σ H fun vs H1=>∃ a xs,vs=[.ref a]∧SqB K H1 b a xs∧R (Ite K b a) H1
theorem wY (b:Bool) {es:List Expr}{kk:Nat}{tpos:Pos}{a:Expr}{ta:TA}{p pos:Pos} (hg:Gl X "enumerate") (hm:X.mg "enumerate" = none) (hbt:bootBuiltins "enumerate" = some (.type "enumerate")) (ha:PA X [a] ta) (hs:starEach [a] X.env=[(false,eval a X.env)]:=by rfl) :
  PI X (.Tuple es kk tpos) (.Call (.Name "enumerate" p) [a] [] pos) (Ao X.K b ta):=by
 intro pins s σ H R I h
 refine Call_ (gq I hg hm hbt (PyProof.Rows.callWith_type1 (thn (ha pos pins s σ H _ I h) fun us s1 ⟨vs,H1,I1,r1,q1⟩=>?_) hs rfl))
 obtain ⟨l,xs,rfl,hq,q⟩:=q1
 obtain ⟨u,rfl,ru⟩:=ji r1
 cases (show u=Value.ref l from ru)
 obtain ⟨its,rv,hL⟩:=I1.seq hq
 refine rf hL fun h' he hit hz hk=>wpAny_pyIter_enum he ?_
 have I2:Inv X pins σ H1 { s1 with heap:=h' }:=I1.kept (t':=s1.toks) hk
 refine ⟨s1.heap.objs.size+1,[s1.heap.objs.size+1,s1.heap.objs.size],_,_,H1,rfl,I2,pi b l s1.heap.objs.size (s1.heap.objs.size+1) (EH (EZ _)),⟨⟨_,he⟩,hit⟩,fun c hc=>?_,q⟩
 rcases D3.mp hc with rfl|hc
 ·exact I1.fpOk (EO _) (I1.hok.fresh (EO _))
 ·have e:c=s1.heap.objs.size:=by simpa using hc
  rw [e]
  exact I1.fpOk (D2 _) (I1.hok.fresh (D2 _))
end
noncomputable abbrev zH1 (h:Heap) (b:Bool) (l1:Addr):Heap:=h.push (gS b l1)
noncomputable abbrev zH2 (h:Heap) (b c:Bool) (l1 l2:Addr):Heap:=(zH1 h b l1).push (gS c l2)
noncomputable abbrev zH3 (h:Heap) (b c:Bool) (l1 l2:Addr):Heap:=(zH2 h b c l1 l2).push { cls:=.type "tuple",data:=.seq #[.ref h.objs.size,.ref (zH1 h b l1).objs.size] }
noncomputable abbrev zH4 (h:Heap) (b c:Bool) (l1 l2:Addr):Heap:=(zH3 h b c l1 l2).push { cls:=.type "tuple",data:=.seq #[.none,.none] }
noncomputable abbrev zH5 (h:Heap) (b c:Bool) (l1 l2:Addr):Heap:=(zH4 h b c l1 l2).push { cls:=.type "zip",data:=.fields #[.none,.bool false,.bool false,.ref (zH2 h b c l1 l2).objs.size,.ref (zH3 h b c l1 l2).objs.size] }
theorem sA (b c:Bool) (l1 l2:Addr) (xs ys:Array Value) :
  Meets (Builtin.«zip.__new__» ⟨[.type "zip",.ref l1,.ref l2],[]⟩) (fun _ R s=>cn b s.heap l1 xs∧cn c s.heap l2 ys∧R (.ok (.ret (.ref (zH4 s.heap b c l1 l2).objs.size))) { s with heap:=zH5 s.heap b c l1 l2 }) :=
 .of_wp fun prog w A R s h=>by
  obtain ⟨hp,g,d,tk,os⟩:=s
  obtain ⟨hl1,hl2,h⟩:=h
  have hsub:=sub_zip
  have hL1:cn b (Shared.heap ⟨hp,g,d,tk,os⟩) l1 xs:=hl1
  have hL2:cn c (Shared.heap ⟨hp.push (gS b l1),g,d,tk,os⟩) l2 ys:=cn.at hl2 fun o e=>DU _ e
  wp_walk using d9 hL1,d9 hL2
  exact ⟨_,rfl,h⟩
section
variable {prog:Program}{w:World}{A:Around}{E:Value→Shared→Prop}{s:Shared}
theorem sC {b c:Bool}{l1 l2:Addr}{xs ys:Array Value}{Q:Value→Shared→Prop} (hl1:cn b s.heap l1 xs) (hl2:cn c s.heap l2 ys)
  (h : ∀ h',IsZip h' (s.heap.objs.size+4) (s.heap.objs.size+2) (s.heap.objs.size+3) .none→IsPair h' (s.heap.objs.size+2) (.ref s.heap.objs.size) (.ref (s.heap.objs.size+1))→IsPair h' (s.heap.objs.size+3) .none .none →
   cg b h' s.heap.objs.size l1 0→cg c h' (s.heap.objs.size+1) l2 0→(∀ c o,s.heap.get? c=some o→h'.get? c=some o)→Q (.ref (s.heap.objs.size+4)) { s with heap:=h' }) :
  wpAny (model prog w) A (call (.type "zip") [.ref l1,.ref l2]) Q E s:=by
 refine callType_new F.called_zip (by decide) (F.typeCall_zip_2 _ _) (F.newCall_zip_2 _ _) (fun obj=>F.args_object_init_3 obj _ _) F.entry_zip_new (sA b c l1 l2 xs ys) ⟨hl1,hl2,?_⟩
 have z1:(zH1 s.heap b l1).objs.size=s.heap.objs.size+1:=ED ..
 have z2:(zH2 s.heap b c l1 l2).objs.size=s.heap.objs.size+2:=by rw[ED,z1]
 have z3:(zH3 s.heap b c l1 l2).objs.size=s.heap.objs.size+3:=by rw[ED,z2]
 have z4:(zH4 s.heap b c l1 l2).objs.size=s.heap.objs.size+4:=by rw[ED,z3]
 have g5:(zH5 s.heap b c l1 l2).get? (zH4 s.heap b c l1 l2).objs.size=some _:=D8 _ rfl
 have g4:(zH5 s.heap b c l1 l2).get? (zH3 s.heap b c l1 l2).objs.size=some _:=DU _ (D8 _ rfl)
 have g3:(zH5 s.heap b c l1 l2).get? (zH2 s.heap b c l1 l2).objs.size=some _:=DU _ (DU _ (D8 _ rfl))
 have g2:(zH5 s.heap b c l1 l2).get? (zH1 s.heap b l1).objs.size=some _:=DU _ (DU _ (DU _ (D8 _ rfl)))
 have g1:(zH5 s.heap b c l1 l2).get? s.heap.objs.size=some _:=DU _ (DU _ (DU _ (DU _ (D8 _ rfl))))
 show _∧_
 rw [z2,z3,z4] at g5
 rw [z1,z2] at g3
 rw [z3] at g4
 rw [z1] at g2
 rw [z4]
 exact ⟨⟨_,g5,rfl⟩,h _ g5 g3 g4 (iR g1) (iR g2) fun c o x=>DU _ (DU _ (DU _ (DU _ (DU _ x))))⟩
noncomputable abbrev yy (z TO i1 i2:Addr) (h h':Heap):Prop:=∀ c o,c≠z→c≠TO→c≠i1→c≠i2→h.get? c=some o→h'.get? c=some o
theorem sB {b c:Bool}{z TI TO i1 i2 l1 l2:Addr}{k:Nat}{xs ys:Array Value}{x y p q:Value}{Q:Option Value→Shared→Prop} (D:ZipApart z TI TO i1 i2 l1 l2)
  (hz:IsZip s.heap z TI TO .none) (hTI:IsPair s.heap TI (.ref i1) (.ref i2)) (hTO:IsPair s.heap TO p q) (h1:cg b s.heap i1 l1 k) (h2:cg c s.heap i2 l2 k) (hl1:cn b s.heap l1 xs) (hl2:cn c s.heap l2 ys) (hx:xs[k]? = some x) (hy:ys[k]? = some y)
  (hQ:∀ h',IsZip h' z TI TO (rawInt s.heap.objs.size)→IsPair h' TO x y→cg b h' i1 l1 (k+1)→cg c h' i2 l2 (k+1)→IsPair h' s.heap.objs.size x y→yy z TO i1 i2 s.heap h'→Q (some (.ref s.heap.objs.size)) { s with heap:=h' }) :
  wpAny (model prog w) A (pyNext (.ref z)) Q E s:=by
 have hT:s.TypeIs (.ref z) "zip" := ⟨_,hz,rfl⟩
 unfold pyNext
 refine wpAny_bind (wpAny_attempt (wpAny_callSpecial?_slot (name:=Str.ofString "__next__") hT F.slot_zip_next (wpAny_call_entry F.slot_zip_next hT F.entry_zip_next ?_ (F.args_zip_next_1 _))))
 show wpAny _ _ (field (.ref z) 2 >>= _) _ _ _
 refine wpAny_bind (wpAny_field hz rfl (x:=.bool false) rfl ?_)
 show wpAny _ _ (field (.ref z) 3 >>= _) _ _ _
 refine wpAny_bind (wpAny_field hz rfl (x:=.ref TI) rfl (wpAny_bind (wpAny_seqItems hTI rfl ?_)))
 show wpAny _ _ (Builtin.SmallTypes.ownedTupleIsFree (.ref z) >>= _) _ _ _
 refine wpAny_bind ?_
 unfold Builtin.SmallTypes.ownedTupleIsFree
 refine wpAny_bind (wpAny_field hz rfl (x:=.none) rfl (wpAny_pure ?_))
 simp only [if_true]
 refine wpAny_bind (wpAny_rule (wpAny_bind (wpAny_field hz rfl (x:=.ref TO) rfl (wpAny_bind (wpAny_setField_rec hz (by simp) fun ha hza sa=>?_)))))
 replace hza:IsZip ha z TI TO .ellipsis:=hza
 refine wpAny_bind ?_
 simp only [List.zipIdx_cons,List.zipIdx_nil,Fs,Fe]
 refine wpAny_bind (wpAny_bind (wpAny_onRaise ?_))
 show wpAny _ _ (Builtin.SmallTypes.nextOf (.ref i1) >>= _) _ _ _
 refine wpAny_bind (fK (h1.at fun o e=>sa.extBut _ o D.i1z e) (hl1.at fun o e=>sa.extBut _ o D.l1z e) hx fun hb h1b sb=>wpAny_pure ?_)
 have tb:IsPair hb TO p q:=sb.extBut _ _ D.TOi1 (sa.extBut _ _ D.TOz hTO)
 refine wpAny_bind (wpAny_seqItems tb rfl (wpAny_bind (wpAny_updateSeq_pair tb fun hc tc sc=>?_)))
 replace tc:IsPair hc TO x q:=tc
 refine wpAny_bind (wpAny_letGo (wpAny_pure ?_))
 refine wpAny_bind (wpAny_bind (wpAny_onRaise ?_))
 show wpAny _ _ (Builtin.SmallTypes.nextOf (.ref i2) >>= _) _ _ _
 refine wpAny_bind (fK (h2.at fun o e=>sc.extBut _ o D.TOi2.symm (sb.extBut _ o D.i12.symm (sa.extBut _ o D.i2z e))) (hl2.at fun o e=>sc.extBut _ o D.l2TO (sb.extBut _ o D.l2i1 (sa.extBut _ o D.l2z e))) hy fun hd h2d sd=>wpAny_pure ?_)
 have td:IsPair hd TO x q:=sd.extBut _ _ D.TOi2 tc
 refine wpAny_bind (wpAny_seqItems td rfl (wpAny_bind (wpAny_updateSeq_pair td fun he te se=>?_)))
 replace te:IsPair he TO x y:=te
 refine wpAny_bind (wpAny_letGo (wpAny_pure (wpAny_pure ?_)))
 refine wpAny_bind (wpAny_seqItems te rfl (wpAny_bind (wpAny_newTuple ?_)))
 have sz:he.objs.size=s.heap.objs.size:=by rw[se.1,sd.1,sc.1,sb.1,sa.1]
 have ze:IsZip he z TI TO .ellipsis:=se.extBut _ _ D.TOz.symm (sd.extBut _ _ D.i2z.symm (sc.extBut _ _ D.TOz.symm (sb.extBut _ _ D.i1z.symm hza)))
 have ke:yy z TO i1 i2 s.heap he:=fun c o c1 c2 c3 c4 e=>se.extBut _ _ c2 (sd.extBut _ _ c4 (sc.extBut _ _ c2 (sb.extBut _ _ c3 (sa.extBut _ _ c1 e))))
 have h1e:cg b he i1 l1 (k+1):=h1b.at fun o e=>se.extBut _ o D.TOi1.symm (sd.extBut _ o D.i12 (sc.extBut _ o D.TOi1.symm e))
 have h2e:cg c he i2 l2 (k+1):=h2d.at fun o e=>se.extBut _ o D.TOi2.symm e
 have zlt:z<he.objs.size:=D7 ze
 show wpAny _ _ (Builtin.SmallTypes.ownedTupleHandOut (.ref z) (.ref he.objs.size) >>= _) _ _ _
 refine wpAny_bind ?_
 unfold Builtin.SmallTypes.ownedTupleHandOut
 have zf:IsZip (he.push { cls:=.type "tuple",data:=.seq #[x,y] }) z TI TO .ellipsis:=DU _ ze
 refine wpAny_bind (wpAny_setField_rec zf (by simp) fun hg zg sg=>?_)
 replace zg:IsZip hg z TI TO (rawInt he.objs.size):=zg
 refine wpAny_setField_rec zg (by simp) fun hh zh sh=>?_
 replace zh:IsZip hh z TI TO (rawInt he.objs.size):=zh
 have up:∀ c o,c≠z→he.get? c=some o→hh.get? c=some o:=fun c o c1 e=>sh.extBut _ _ c1 (sg.extBut _ _ c1 (DU _ e))
 have th:IsPair hh he.objs.size x y:=sh.extBut _ _ (EH zlt) (sg.extBut _ _ (EH zlt) (D8 _ rfl))
 rw [sz] at zh th
 refine wpAny_pure ⟨_,rfl,wpAny_pure ?_⟩
 show Q (some (.ref he.objs.size)) _
 rw [sz]
 exact hQ hh zh (up _ _ D.TOz te) (h1e.at fun o e=>up _ o D.i1z e) (h2e.at fun o e=>up _ o D.i2z e) th fun c o c1 c2 c3 c4 e=>up c o c1 (ke c o c1 c2 c3 c4 e)
theorem wg {b c:Bool}{z TI TO i1 i2 l1 l2:Addr}{k:Nat}{xs ys:Array Value}{p q:Value}{Q:Option Value→Shared→Prop} (hh:A.handled=none) (D:ZipApart z TI TO i1 i2 l1 l2)
  (hz:IsZip s.heap z TI TO .none) (hTI:IsPair s.heap TI (.ref i1) (.ref i2)) (hTO:IsPair s.heap TO p q) (h1:cg b s.heap i1 l1 k) (h2:cg c s.heap i2 l2 k) (hl1:cn b s.heap l1 xs) (hl2:cn c s.heap l2 ys) (hend:xs[k]? = none∨ys[k]? = none)
  (hQ:∀ h',yy z TO i1 i2 s.heap h'→Q none { s with heap:=h' }):wpAny (model prog w) A (pyNext (.ref z)) Q E s:=by
 have hT:s.TypeIs (.ref z) "zip" := ⟨_,hz,rfl⟩
 unfold pyNext
 refine wpAny_bind (wpAny_attempt (wpAny_callSpecial?_slot (name:=Str.ofString "__next__") hT F.slot_zip_next (wpAny_call_entry F.slot_zip_next hT F.entry_zip_next ?_ (F.args_zip_next_1 _))))
 show wpAny _ _ (field (.ref z) 2 >>= _) _ _ _
 refine wpAny_bind (wpAny_field hz rfl (x:=.bool false) rfl ?_)
 show wpAny _ _ (field (.ref z) 3 >>= _) _ _ _
 refine wpAny_bind (wpAny_field hz rfl (x:=.ref TI) rfl (wpAny_bind (wpAny_seqItems hTI rfl ?_)))
 show wpAny _ _ (Builtin.SmallTypes.ownedTupleIsFree (.ref z) >>= _) _ _ _
 refine wpAny_bind ?_
 unfold Builtin.SmallTypes.ownedTupleIsFree
 refine wpAny_bind (wpAny_field hz rfl (x:=.none) rfl (wpAny_pure ?_))
 simp only [if_true]
 refine wpAny_bind (wpAny_rule (wpAny_bind (wpAny_field hz rfl (x:=.ref TO) rfl (wpAny_bind (wpAny_setField_rec hz (by simp) fun ha hza sa=>?_)))))
 replace hza:IsZip ha z TI TO .ellipsis:=hza
 refine wpAny_bind ?_
 simp only [List.zipIdx_cons,List.zipIdx_nil,Fs,Fe]
 refine wpAny_bind (wpAny_bind (wpAny_onRaise ?_))
 show wpAny _ _ (Builtin.SmallTypes.nextOf (.ref i1) >>= _) _ _ _
 cases hx:xs[k]? with
 | none =>
  refine wpAny_bind (dO hh (h1.at fun o e=>sa.extBut _ o D.i1z e) (hl1.at fun o e=>sa.extBut _ o D.l1z e) hx fun hb e sb ⟨oe,hoe,hce⟩=>?_)
  have zb:IsZip hb z TI TO .ellipsis:=sb _ _ D.i1z.symm hza
  have ez:e≠z:=fun w'=>by subst w';rw[zb] at hoe;cases hoe;simp at hce
  exact wpAny_setField_rec zb (by simp) fun hc _ sc=>wpAny_bind (wpAny_isInstance (T := "StopIteration") (b:=true) ⟨oe,sc.extBut _ _ ez hoe,hce⟩ isSubtype_stop (wpAny_pure (hQ hc fun c o c1 _ c3 _ x=>sc.extBut _ _ c1 (sb _ _ c3 (sa.extBut _ _ c1 x)))))
 | some x =>
  have hy:ys[k]? = none:=by
   rcases hend with h|h
   ·rw [hx] at h;cases h
   ·exact h
  refine wpAny_bind (fK (h1.at fun o e=>sa.extBut _ o D.i1z e) (hl1.at fun o e=>sa.extBut _ o D.l1z e) hx fun hb h1b sb=>wpAny_pure ?_)
  have tb:IsPair hb TO p q:=sb.extBut _ _ D.TOi1 (sa.extBut _ _ D.TOz hTO)
  refine wpAny_bind (wpAny_seqItems tb rfl (wpAny_bind (wpAny_updateSeq_pair tb fun hc tc sc=>?_)))
  refine wpAny_bind (wpAny_letGo (wpAny_pure ?_))
  refine wpAny_bind (wpAny_bind (wpAny_onRaise ?_))
  show wpAny _ _ (Builtin.SmallTypes.nextOf (.ref i2) >>= _) _ _ _
  refine wpAny_bind (dO hh (h2.at fun o e=>sc.extBut _ o D.TOi2.symm (sb.extBut _ o D.i12.symm (sa.extBut _ o D.i2z e))) (hl2.at fun o e=>sc.extBut _ o D.l2TO (sb.extBut _ o D.l2i1 (sa.extBut _ o D.l2z e))) hy fun hd e sd ⟨oe,hoe,hce⟩=>?_)
  have zd:IsZip hd z TI TO .ellipsis:=sd _ _ D.i2z.symm (sc.extBut _ _ D.TOz.symm (sb.extBut _ _ D.i1z.symm hza))
  have ez:e≠z:=fun w'=>by subst w';rw[zd] at hoe;cases hoe;simp at hce
  exact wpAny_setField_rec zd (by simp) fun he _ se=>wpAny_bind (wpAny_isInstance (T := "StopIteration") (b:=true) ⟨oe,se.extBut _ _ ez hoe,hce⟩ isSubtype_stop (wpAny_pure (hQ he fun c o c1 c2 c3 c4 x=>se.extBut _ _ c1 (sd _ _ c4 (sc.extBut _ _ c2 (sb.extBut _ _ c3 (sa.extBut _ _ c1 x)))))))
end
theorem aT {X:Cx}{pins:List (Addr×Obj)}{σ:St}{H:Hp}{s:Shared}{b:Bool}{a c:Addr}{xs:List V} (I:Inv X pins σ H s) (h:SqB X.K H b a xs) (f:fE X pins H c):a≠c:=by
 obtain ⟨f0,f1,f2,f3,f4,f5⟩:=f
 have key:(∃ o,H a=some o)∨∃ o,X.K.lookup a=some o:=by
  cases b with
  | false =>
   rcases h with (h|⟨o,h⟩)|⟨o,_,_,hk,_⟩
   ·exact .inl ⟨_,h⟩
   ·exact .inl ⟨_,h⟩
   ·exact .inr ⟨o,hk⟩
  | true =>
   rcases h with (h|⟨o,h⟩)|⟨o,_,_,hk,_⟩
   ·exact .inl ⟨_,h⟩
   ·exact .inl ⟨_,h⟩
   ·exact .inr ⟨o,hk⟩
 rintro rfl
 rcases key with ⟨o,e⟩|⟨o,e⟩
 ·rw [f0] at e;cases e
 ·have q:=I.ok.mod.kin a o e
  rcases f3 with f3|f3
  ·exact I.ok.noex a o q f3
  ·exact absurd (D6 (D7 q) (D1 I.ok.bsz f3)) (EY _)
noncomputable def Itz (K:PySem.W.Frag) (b c:Bool) (l1 l2:Addr):It :=
  ⟨fun i H=>∃ xs ys x y,SqB K H b l1 xs∧SqB K H c l2 ys∧xs[i]? = some x∧ys[i]? = some y,
   fun i H v H'=>∃ p x y,v=.ref p∧H p=none∧H'=upd H p (.tup [x,y])∧(∀ xs,SqB K H b l1 xs→xs[i]? = some x)∧∀ ys,SqB K H c l2 ys→ys[i]? = some y,
   fun i H=>∃ xs ys,SqB K H b l1 xs∧SqB K H c l2 ys∧(xs.length≤i∨ys.length≤i)⟩
structure ZAp (z TI TO i1 i2:Addr):Prop where
 TIz:TI≠z
 TOz:TO≠z
 i1z:i1≠z
 i2z:i2≠z
 TITO:TI≠TO
 TIi1:TI≠i1
 TIi2:TI≠i2
 TOi1:TO≠i1
 TOi2:TO≠i2
 i12:i1≠i2
theorem sE {P:Program}{w:World}{K:PySem.W.Frag}{es:List Expr}{kk:Nat}{pos:Pos} (b c:Bool) (z TI TO i1 i2 l1 l2:Addr) (ap:ZAp z TI TO i1 i2) :
  yz P w K (.Tuple es kk pos) (Itz K b c l1 l2) [z,TI,TO,i1,i2] z
   (fun i h=>IsZip h z TI TO .none∧IsPair h TI (.ref i1) (.ref i2)∧(∃ p q,IsPair h TO p q)∧cg b h i1 l1 i∧cg c h i2 l2 i) where
 mem:=by simp
 obj := fun i h st d hd=>by
  obtain ⟨hz,hTI,⟨p,q,hTO⟩,h1,h2⟩:=st
  obtain ⟨o1,e1,d1⟩:=h1.obj
  obtain ⟨o2,e2,d2⟩:=h2.obj
  simp only [D3,En,or_false] at hd
  rcases hd with rfl|rfl|rfl|rfl|rfl
  ·exact ⟨_,hz,fun v e=>by
    have e':Data.fields _=Data.cell v:=e
    cases e'⟩
  ·exact ⟨_,hTI,fun v e=>by
    have e':Data.seq _ _=Data.cell v:=e
    cases e'⟩
  ·exact ⟨_,hTO,fun v e=>by
    have e':Data.seq _ _=Data.cell v:=e
    cases e'⟩
  ·exact ⟨o1,e1,fun v e=>by rw[d1] at e;cases e⟩
  ·exact ⟨o2,e2,fun v e=>by rw[d2] at e;cases e⟩
 keep:=fun i h h' st k=>by
  obtain ⟨hz,hTI,⟨p,q,hTO⟩,h1,h2⟩:=st
  exact ⟨k z (by simp) _ hz,k TI (by simp) _ hTI,⟨p,q,k TO (by simp) _ hTO⟩,h1.at fun o e=>k i1 (by simp) o e,h2.at fun o e=>k i2 (by simp) o e⟩
 item := by
  intro X hP hw hK hc i pins s σ H E I hf st hg
  subst hP hw hK
  obtain ⟨xs,ys,x,y,hq1,hq2,hx,hy⟩:=hg
  obtain ⟨hz,hTI,⟨p,q,hTO⟩,h1,h2⟩:=st
  obtain ⟨its1,rv1,ha1⟩:=I.seq hq1
  obtain ⟨its2,rv2,ha2⟩:=I.seq hq2
  obtain ⟨u,hu,ru⟩:=rv1.get hx
  obtain ⟨v,hv,rv⟩:=rv2.get hy
  have D:ZipApart z TI TO i1 i2 l1 l2:=⟨ap.TIz,ap.TOz,ap.i1z,ap.i2z,ap.TITO,ap.TIi1,ap.TIi2,ap.TOi1,ap.TOi2,ap.i12,
   aT I hq1 (hf z (by simp)),aT I hq1 (hf TO (by simp)),aT I hq1 (hf i1 (by simp)),aT I hq1 (hf i2 (by simp)),aT I hq2 (hf z (by simp)),aT I hq2 (hf TO (by simp)),aT I hq2 (hf i1 (by simp)),aT I hq2 (hf i2 (by simp))⟩
  refine sB D hz hTI hTO h1 h2 ha1 ha2 (x:=u) (y:=v) (by simpa using hu) (by simpa using hv) fun h' a1 a2 a3 a4 a5 hk=>⟨_,rfl,wpAny_letOwnedTupleGo_zip a1 fun h2' hz2 hs2=>?_⟩
  have zlt:z<s.heap.objs.size:=D7 hz
  have I2:Inv X pins σ H { s with heap:=h2' }:=I.turnedN (t':=s.toks) hf fun d o hd e=>hs2.extBut d o (fun w'=>hd (by simp[w'])) (hk d o (fun w'=>hd (by simp[w'])) (fun w'=>hd (by simp[w'])) (fun w'=>hd (by simp[w'])) (fun w'=>hd (by simp[w'])) e)
  have g2:h2'.get? s.heap.objs.size=some { cls:=.type "tuple",data:=.seq #[u,v] }:=hs2.extBut _ _ (EH zlt) a5
  have hn:H s.heap.objs.size=none:=I.hok.fresh (D2 _)
  refine ⟨.ref s.heap.objs.size,upd H s.heap.objs.size (.tup [x,y]),I2.track (T:=s.heap.objs.size) (o:=.tup [x,y]) (I.fpOk (D2 _) hn) ?_,rfl,?_,⟨hz2,?_,⟨u,v,?_⟩,?_,?_⟩,fun d hd=>?_⟩
  ·exact ⟨by show 2≤sizeLine;decide,[u,v],.cons ru (.cons rv .nil),_,g2,rfl,_,rfl⟩
  ·exact ⟨_,x,y,rfl,hn,rfl,fun zs hy'=>by rw[I.seq_inj hy' hq1];exact hx,fun zs hy'=>by rw[I.seq_inj hy' hq2];exact hy⟩
  ·exact hs2.extBut _ _ ap.TIz (hk _ _ ap.TIz ap.TITO ap.TIi1 ap.TIi2 hTI)
  ·exact hs2.extBut _ _ ap.TOz a2
  ·exact a3.at fun o e=>hs2.extBut _ o ap.i1z e
  ·exact a4.at fun o e=>hs2.extBut _ o ap.i2z e
  ·have hlt:d<s.heap.objs.size:=by
    obtain ⟨o1,e1,_⟩:=h1.obj
    obtain ⟨o2,e2,_⟩:=h2.obj
    simp only [D3,En,or_false] at hd
    rcases hd with rfl|rfl|rfl|rfl|rfl
    ·exact zlt
    ·exact D7 hTI
    ·exact D7 hTO
    ·exact D7 e1
    ·exact D7 e2
   rw [ai (Ed hlt)]
   exact (hf d hd).1
 done:=by
  intro X hP hw hK hc i pins s σ H E I hf st hg
  subst hP hw hK
  obtain ⟨xs,ys,hq1,hq2,hend⟩:=hg
  obtain ⟨hz,hTI,⟨p,q,hTO⟩,h1,h2⟩:=st
  obtain ⟨its1,rv1,ha1⟩:=I.seq hq1
  obtain ⟨its2,rv2,ha2⟩:=I.seq hq2
  have D:ZipApart z TI TO i1 i2 l1 l2:=⟨ap.TIz,ap.TOz,ap.i1z,ap.i2z,ap.TITO,ap.TIi1,ap.TIi2,ap.TOi1,ap.TOi2,ap.i12,
   aT I hq1 (hf z (by simp)),aT I hq1 (hf TO (by simp)),aT I hq1 (hf i1 (by simp)),aT I hq1 (hf i2 (by simp)),aT I hq2 (hf z (by simp)),aT I hq2 (hf TO (by simp)),aT I hq2 (hf i1 (by simp)),aT I hq2 (hf i2 (by simp))⟩
  have l1':=rv1.length
  have l2':=rv2.length
  have hend':its1.toArray[i]? = none∨its2.toArray[i]? = none:=by
   rcases hend with h|h
   ·exact .inl (by simp;omega)
   ·exact .inr (by simp;omega)
  refine wg (I.ok.hd hc) D hz hTI hTO h1 h2 ha1 ha2 hend' fun h' hk=>⟨rfl,?_⟩
  exact I.turnedN (t':=s.toks) hf fun d o hd e=>hk d o (fun w'=>hd (by simp[w'])) (fun w'=>hd (by simp[w'])) (fun w'=>hd (by simp[w'])) (fun w'=>hd (by simp[w'])) e
 self:=fun A i s Q E st h=>wpAny_pyIter_zip st.1 h
section
variable {X:Cx}
noncomputable def CO (K:PySem.W.Frag) (b c:Bool) (ta:TA):TI:=fun σ H R=>ta σ H fun vs H1=>∃ l1 l2 xs ys,vs=[.ref l1,.ref l2]∧SqB K H1 b l1 xs∧SqB K H1 c l2 ys∧R (Itz K b c l1 l2) H1
theorem zB (b c:Bool) {es:List Expr}{kk:Nat}{tpos:Pos}{e1 e2:Expr}{ta:TA}{p pos:Pos} (hg:Gl X "zip") (hm:X.mg "zip" = none) (hbt:bootBuiltins "zip" = some (.type "zip")) (ha:PA X [e1,e2] ta)
  (hs:starEach [e1,e2] X.env=[(false,eval e1 X.env),(false,eval e2 X.env)]:=by rfl) (hs2:starEach [e2] X.env=[(false,eval e2 X.env)]:=by rfl) :
  PI X (.Tuple es kk tpos) (.Call (.Name "zip" p) [e1,e2] [] pos) (CO X.K b c ta):=by
 intro pins s σ H R I h
 refine Call_ (gq I hg hm hbt (PyProof.Rows.callWith_type1 (thn (ha pos pins s σ H _ I h) fun us s1 ⟨vs,H1,I1,r1,q1⟩=>?_) (by rw[hs,hs2]) (by rw[hs2];rfl)))
 obtain ⟨l1,l2,xs,ys,rfl,hq1,hq2,q⟩:=q1
 obtain ⟨u,v,rfl,ru,rv⟩:=pe r1
 cases (show u=Value.ref l1 from ru)
 cases (show v=Value.ref l2 from rv)
 obtain ⟨its1,rv1,ha1⟩:=I1.seq hq1
 obtain ⟨its2,rv2,ha2⟩:=I1.seq hq2
 refine sC ha1 ha2 fun h' hz hTI hTO h1 h2 hk=>wpAny_pyIter_zip hz ?_
 have I2:Inv X pins σ H1 { s1 with heap:=h' }:=I1.kept (t':=s1.toks) hk
 have ap:ZAp (s1.heap.objs.size+4) (s1.heap.objs.size+2) (s1.heap.objs.size+3) s1.heap.objs.size (s1.heap.objs.size+1):=by
  refine ⟨?_,?_,?_,?_,?_,?_,?_,?_,?_,?_⟩ <;> (intro z;exact absurd (congrArg (fun (n:Nat)=>n - s1.heap.objs.size) z) (by simp))
 refine ⟨s1.heap.objs.size+4,[s1.heap.objs.size+4,s1.heap.objs.size+2,s1.heap.objs.size+3,s1.heap.objs.size,s1.heap.objs.size+1],_,_,H1,rfl,I2,sE b c _ _ _ _ _ l1 l2 ap,⟨hz,hTI,⟨_,_,hTO⟩,h1,h2⟩,fun d hd=>?_,q⟩
 have hle:s1.heap.objs.size≤d:=by
  simp only [D3,En,or_false] at hd
  rcases hd with rfl|rfl|rfl|rfl|rfl
  ·exact ER _ _
  ·exact ER _ _
  ·exact ER _ _
  ·exact D2 _
  ·exact ER _ _
 exact I1.fpOk hle (I1.hok.fresh hle)
end
noncomputable def SnL (K:PySem.W.Frag) (N:Addr→Prop) (H:Hp) (a:Addr) (xs:List V):Prop :=
 (Rd H a (.lst xs)∧¬N a)∨∃ (o:Obj) (its:Array Value) (n:Nat),K.lookup a=some o∧o.cls=.type "list" ∧ o.dict=none∧o.data=.seq its n∧its.size≤sizeLine∧aK xs its.toList
noncomputable def SnT (K:PySem.W.Frag) (N:Addr→Prop) (H:Hp) (a:Addr) (xs:List V):Prop :=
 (Rd H a (.tup xs)∧¬N a)∨∃ (o:Obj) (its:Array Value) (n:Nat),K.lookup a=some o∧o.cls=.type "tuple" ∧ o.data=.seq its n∧its.size≤sizeLine∧aK xs its.toList
noncomputable def aE (N:Addr→Prop) (H H':Hp):Prop:=∀ b o,¬N b→H b=some o→H' b=some o
theorem aE.refl {N:Addr→Prop}{H:Hp}:aE N H H:=fun _ _ _ e=>e
theorem aE.trans {N:Addr→Prop}{H H1 H2:Hp} (a:aE N H H1) (b:aE N H1 H2):aE N H H2:=fun c o n e=>b c o n (a c o n e)
theorem aE.new {N:Addr→Prop}{H:Hp}{p:Addr}{o:HO} (h:H p=none):aE N H (upd H p o):=fun b u _ e=>by rw[ai (ao e h)];exact e
theorem aE.own {N:Addr→Prop}{H:Hp}{p:Addr}{o:HO} (h:N p):aE N H (upd H p o):=fun b u n e=>by
 have q:b≠p:=fun z=>n (by rw[z];exact h)
 rw [ai q]
 exact e
theorem aE.mono {N M:Addr→Prop}{H H':Hp} (a:aE N H H') (h:∀ b,N b→M b):aE M H H':=fun b o n e=>a b o (fun z=>n (h b z)) e
theorem aE.same {N:Addr→Prop}{H H':Hp} (a:aO H H'):aE N H H':=fun b o _ e=>a b o e
noncomputable abbrev N0:Addr→Prop:=fun _=>False
noncomputable abbrev N1 (d:Addr):Addr→Prop:=fun b=>b=d
theorem aE.none {H H':Hp} (a:aE N0 H H'):aO H H':=fun b o e=>a b o (fun z=>z) e
section
variable {K:PySem.W.Frag}{N M:Addr→Prop}{H H':Hp}{a:Addr}{xs:List V}
theorem SnL.of (h:H a=some (.lst xs)) (n:¬N a):SnL K N H a xs:=.inl ⟨.inl h,n⟩
theorem SnT.of (h:H a=some (.tup xs)) (n:¬N a):SnT K N H a xs:=.inl ⟨.inl h,n⟩
theorem SnL.sq (h:SnL K N H a xs):SqL K H a xs:=by
 rcases h with ⟨h,_⟩|h
 ·exact .inl h
 ·exact .inr h
theorem SnT.sq (h:SnT K N H a xs):SqT K H a xs:=by
 rcases h with ⟨h,_⟩|h
 ·exact .inl h
 ·exact .inr h
theorem SnL.keep (h:SnL K N H a xs) (k:aE N H H'):SnL K N H' a xs:=by
 rcases h with ⟨h|⟨o,h⟩,n⟩|h
 ·exact .inl ⟨.inl (k _ _ n h),n⟩
 ·exact .inl ⟨.inr ⟨o,k _ _ n h⟩,n⟩
 ·exact .inr h
theorem SnT.keep (h:SnT K N H a xs) (k:aE N H H'):SnT K N H' a xs:=by
 rcases h with ⟨h|⟨o,h⟩,n⟩|h
 ·exact .inl ⟨.inl (k _ _ n h),n⟩
 ·exact .inl ⟨.inr ⟨o,k _ _ n h⟩,n⟩
 ·exact .inr h
theorem SnL.to (h:SnL K N H a xs) (m:∀ b o,H b=some o→M b→N b):SnL K M H a xs:=by
 rcases h with ⟨h|⟨o,h⟩,n⟩|h
 ·exact .inl ⟨.inl h,fun z=>n (m _ _ h z)⟩
 ·exact .inl ⟨.inr ⟨o,h⟩,fun z=>n (m _ _ h z)⟩
 ·exact .inr h
theorem SnT.to (h:SnT K N H a xs) (m:∀ b o,H b=some o→M b→N b):SnT K M H a xs:=by
 rcases h with ⟨h|⟨o,h⟩,n⟩|h
 ·exact .inl ⟨.inl h,fun z=>n (m _ _ h z)⟩
 ·exact .inl ⟨.inr ⟨o,h⟩,fun z=>n (m _ _ h z)⟩
 ·exact .inr h
end
mutual
inductive DN (K:PySem.W.Frag) (N:Addr→Prop) (H:Hp):V→PyData→Prop
 | non:DN K N H .non .none
 | bl (b:Bool):DN K N H (.bl b) (.bool b)
 | int (i:Int):DN K N H (.int i) (.int i)
 | lst {a:Addr}{xs:List V}{ds:List PyData}:SnL K N H a xs→DNs K N H xs ds→DN K N H (.ref a) (.list ds)
 | tup {a:Addr}{xs:List V}{ds:List PyData}:SnT K N H a xs→DNs K N H xs ds→DN K N H (.ref a) (.tuple ds)
 | dct {a:Addr}{es:List (aS×Addr×V)}{kvs:List (aS×PyData)}:¬N a→H a=some (.ext (bx a es))→DNs K N H (es.map fun p=>V.ref p.2.1) (kvs.map fun p=>cV p.1)→DNs K N H (es.map fun p=>p.2.2) (kvs.map fun p=>p.2)→es.map (fun p=>p.1)=kvs.map (fun p=>p.1)→DN K N H (.ref a) (dm kvs)
 | fz {v:V}{ds:List PyData}:DN K N H v (.list ds)→DN K N H v (fzD ds)
inductive DNs (K:PySem.W.Frag) (N:Addr→Prop) (H:Hp):List V→List PyData→Prop
 | nil:DNs K N H [] []
 | cons {x:V}{xs:List V}{d:PyData}{ds:List PyData}:DN K N H x d→DNs K N H xs ds→DNs K N H (x::xs) (d::ds)
end
section
variable {K:PySem.W.Frag}{N M:Addr→Prop}{H H':Hp}
theorem DN.dv {v:V}{d:PyData} (h:DN K N H v d):DV K H v d :=
 DN.rec (motive_1:=fun v d _=>DV K H v d) (motive_2:=fun v d _=>DVs K H v d)
 .non (fun b=>.bl b) (fun i=>.int i)
 (fun h _ q=>.lst h.sq q) (fun h _ q=>.tup h.sq q)
 (fun _ h _ _ e q r=>.dct h q r e) (fun _ h=>.fz h) .nil (fun _ _ h q=>.cons h q) h
theorem DNs.dv {v:List V}{d:List PyData} (h:DNs K N H v d):DVs K H v d :=
 DNs.rec (motive_1:=fun v d _=>DV K H v d) (motive_2:=fun v d _=>DVs K H v d)
 .non (fun b=>.bl b) (fun i=>.int i)
 (fun h _ q=>.lst h.sq q) (fun h _ q=>.tup h.sq q)
 (fun _ h _ _ e q r=>.dct h q r e) (fun _ h=>.fz h) .nil (fun _ _ h q=>.cons h q) h
theorem DN.keep (k:aE N H H') {v:V}{d:PyData} (h:DN K N H v d):DN K N H' v d :=
 DN.rec (motive_1:=fun v d _=>DN K N H' v d) (motive_2:=fun v d _=>DNs K N H' v d)
 .non (fun b=>.bl b) (fun i=>.int i)
 (fun h _ q=>.lst (h.keep k) q) (fun h _ q=>.tup (h.keep k) q)
 (fun n h _ _ e q r=>.dct n (k _ _ n h) q r e) (fun _ h=>.fz h) .nil (fun _ _ h q=>.cons h q) h
theorem DNs.keep (k:aE N H H') {v:List V}{d:List PyData} (h:DNs K N H v d):DNs K N H' v d :=
 DNs.rec (motive_1:=fun v d _=>DN K N H' v d) (motive_2:=fun v d _=>DNs K N H' v d)
 .non (fun b=>.bl b) (fun i=>.int i)
 (fun h _ q=>.lst (h.keep k) q) (fun h _ q=>.tup (h.keep k) q)
 (fun n h _ _ e q r=>.dct n (k _ _ n h) q r e) (fun _ h=>.fz h) .nil (fun _ _ h q=>.cons h q) h
theorem DN.to (m:∀ b o,H b=some o→M b→N b) {v:V}{d:PyData} (h:DN K N H v d):DN K M H v d :=
 DN.rec (motive_1:=fun v d _=>DN K M H v d) (motive_2:=fun v d _=>DNs K M H v d)
 .non (fun b=>.bl b) (fun i=>.int i)
 (fun h _ q=>.lst (h.to m) q) (fun h _ q=>.tup (h.to m) q)
 (fun n h _ _ e q r=>.dct (fun z=>n (m _ _ h z)) h q r e) (fun _ h=>.fz h) .nil (fun _ _ h q=>.cons h q) h
theorem DNs.to (m:∀ b o,H b=some o→M b→N b) {v:List V}{d:List PyData} (h:DNs K N H v d):DNs K M H v d :=
 DNs.rec (motive_1:=fun v d _=>DN K M H v d) (motive_2:=fun v d _=>DNs K M H v d)
 .non (fun b=>.bl b) (fun i=>.int i)
 (fun h _ q=>.lst (h.to m) q) (fun h _ q=>.tup (h.to m) q)
 (fun n h _ _ e q r=>.dct (fun z=>n (m _ _ h z)) h q r e) (fun _ h=>.fz h) .nil (fun _ _ h q=>.cons h q) h
theorem DNs.ind {C:List V→List PyData→Prop} (n:C [] []) (c:∀ {x:V}{xs:List V}{d:PyData}{ds:List PyData},DN K N H x d→DNs K N H xs ds→C xs ds→C (x::xs) (d::ds)) {v:List V}{d:List PyData} (h:DNs K N H v d):C v d :=
 DNs.rec (motive_1:=fun _ _ _=>True) (motive_2:=fun v d _=>C v d) trivial (fun _=>trivial) (fun _=>trivial)
 (fun _ _ _=>trivial) (fun _ _ _=>trivial)
 (fun _ _ _ _ _ _ _=>trivial) (fun _ _=>trivial) n (fun h q _ i=>c h q i) h
theorem DNs.len {v:List V}{d:List PyData} (h:DNs K N H v d):v.length=d.length:=DNs.ind (C:=fun v d=>v.length=d.length) rfl (fun _ _ i=>by rw[Et,Et,i]) h
theorem DNs.get:∀ {v:List V}{d:List PyData}{i:Nat}{x:V},DNs K N H v d→v[i]? = some x→∃ e,d[i]? = some e∧DN K N H x e
 | _,_,_,_,.nil,e=>by simp at e
 | _,_,0,_,.cons h _,e=>by simp at e;subst e;exact⟨_,rfl,h⟩
 | _,_,i+1,_,.cons _ q,e=>by
  obtain ⟨d,h1,h2⟩:=DNs.get (i:=i) q (by simpa using e)
  exact ⟨d,by simpa using h1,h2⟩
theorem DNs.app {v w:List V}{d e:List PyData} (h:DNs K N H v d) (q:DNs K N H w e):DNs K N H (v++w) (d++e):=DNs.ind (C:=fun v d=>DNs K N H (v++w) (d++e)) q (fun h _ i=>.cons h i) h
noncomputable abbrev pI (ns:List Int):PyData:=.list (ns.map .int)
noncomputable abbrev pT (ns:List Int):PyData:=.tuple (ns.map .int)
theorem iX:∀ ns:List Int,DNs K N H (ns.map V.int) (ns.map .int)
 | []=>.nil
 | n::r=>.cons (.int n) (iX r)
theorem DNs.ints:∀ {ns:List Int}{v:List V},DNs K N H v (ns.map .int)→v=ns.map V.int
 | [],_,.nil=>rfl
 | n::r,_,.cons h q=>by
  cases h
  rw [q.ints];rfl
theorem DN.ofI {a:Addr}{ns:List Int} (h:SnL K N H a (ns.map V.int)):DN K N H (.ref a) (pI ns):=.lst h (iX ns)
theorem DN.list {v:V}{ds:List PyData} (h:DN K N H v (.list ds)):∃ a xs,v=.ref a∧SnL K N H a xs∧DNs K N H xs ds:=by
 cases h with|lst h q=>exact⟨_,_,rfl,h,q⟩
theorem DN.tuple {v:V}{ds:List PyData} (h:DN K N H v (.tuple ds)):∃ a xs,v=.ref a∧SnT K N H a xs∧DNs K N H xs ds:=by
 cases h with|tup h q=>exact⟨_,_,rfl,h,q⟩
theorem DN.I {v:V}{ns:List Int} (h:DN K N H v (pI ns)):∃ a,v=.ref a∧SnL K N H a (ns.map V.int):=by
 obtain ⟨a,xs,e,s,q⟩:=h.list
 rw [q.ints] at s
 exact ⟨a,e,s⟩
theorem DN.T {v:V}{ns:List Int} (h:DN K N H v (pT ns)):∃ a,v=.ref a∧SnT K N H a (ns.map V.int):=by
 obtain ⟨a,xs,e,s,q⟩:=h.tuple
 rw [q.ints] at s
 exact ⟨a,e,s⟩
theorem DN.of2 {a:Addr}{x y:V}{d e:PyData} (s:SnT K N H a [x,y]) (h1:DN K N H x d) (h2:DN K N H y e):DN K N H (.ref a) (.tuple [d,e]):=.tup s (.cons h1 (.cons h2 .nil))
end
theorem gy:∀ a b:List Int,PyData.eqvAll (a.map .int) (b.map .int)=decide (a=b)
 | [],[]=>by simp[PyData.eqvAll]
 | [],_::_=>by simp[PyData.eqvAll]
 | _::_,[]=>by simp[PyData.eqvAll]
 | x::a,y::b=>by
  rw [Ec,Ec,PyData.eqvAll,gy a b]
  simp only [PyData.eqv]
  by_cases h:x=y <;> by_cases h':a=b <;> simp[h,h']
theorem xW (a b:List Int):PyData.eqv (pI a) (pI b)=decide (a=b):=by
 show PyData.eqvAll _ _=_
 exact gy a b
theorem iQ (a:List Int):PyData.canLayAll0 (a.map .int)=true:=PySem.W.ke_canLayAll0 a
theorem uu (a:List Int):PyData.depthAll (a.map .int)=0:=PySem.W.ke_depthAll a
theorem Bw (a:List Int):shp (pI a):=by simp[shp,SeqAt.shaped,PyData.canLay0,PyData.depth,iQ,uu]
section
variable {K:PySem.W.Frag}{a:Addr}{xs:List V}{g:TG}{tt:TT}{te:TE}{σ0:St}{H:Hp}{Qe:List V→Hp→Prop}
end
noncomputable def Cal (P:Program) (w:World) (K:PySem.W.Frag) (mg:Str→Option Value) (base:Heap) (x:Str) (k:Nat) (sp:Sp):Prop :=
 ∃ (f:Addr) (fd:FuncData) (ps:List Str),b7 P w K mg base CX0 k f fd ps sp∧br K fd ps []∧PySem.W.keepIn K (.ref f)=true∧mg x=some (.ref f)
theorem Cal.mono {P:Program}{w:World}{K:PySem.W.Frag}{mg:Str→Option Value}{base:Heap}{x:Str}{j k:Nat}{sp:Sp} (C:Cal P w K mg base x j sp) (h:j≤k):Cal P w K mg base x k sp:=by
 obtain ⟨f,fd,ps,F,b,kp,m⟩:=C
 exact ⟨f,fd,ps,F.mono h,b,kp,m⟩
section
variable {X:Cx}{x:Str}{p pos:Pos}{e:Expr}{es:List Expr}{t:TA}{k:Nat}{sp:Sp}
theorem qg (C:Cal X.prog X.w X.K X.mg X.base x k sp) (hr:ca k X.A) (hg:Gl X x) (ha:PA X (e::es) t) (hd:(x==("__debug__" : Str))=false:=by decide)
  (he:starEach (e::es) X.env=(false,eval e X.env)::starEach es X.env:=by rfl) (hpl:(backTo pos (starEach es X.env)).any (·.1)=false:=by rfl):PE X (.Call (.Name x p) (e::es) [] pos) (nR sp [] E0 t):=by
 obtain ⟨f,fd,ps,F,b,kp,m⟩:=C
 exact kZ F hr hg m kp b .nil BR ha hd he hpl
end
noncomputable def bOk (N:List Str) (sc0:Scope) (N':List Str) (ix:List (Option Nat)) (sc:Scope):Bool :=
 decide (sc.kind=.function)&&decide ((sc.names.map (·.1)).Nodup)&&sc.names.all (fun y=>!(y.2==.free) || decide (sc0.names.lookup y.1=some .cell) || decide (sc0.names.lookup y.1=some .free))&&decide (ix.length=N'.length) &&
 (ix.zip N').all fun q=>match q.1 with
  | none=>true
  | some j=>decide (N[j]? = some q.2)&&decide (sc.names.lookup q.2=some .free)
theorem cS {X:Cx}{N N':List Str}{ix:List (Option Nat)}{sc sc0:Scope} (hN:X.N=N) (h0:X.env.scope=sc0) (h:bOk N sc0 N' ix sc=true):cb X.N X.env N' ix sc:=by
 rw [←hN] at h
 unfold bOk at h
 simp only [Es,decide_eq_true_eq] at h
 obtain ⟨⟨⟨⟨h1,h2⟩,h3⟩,h4⟩,h5⟩:=h
 refine ⟨h1,h2,fun y hy hf=>?_,h4,fun i j hij=>?_⟩
 ·have q:=E7.mp h3 y hy
  rw [hf] at q
  have e:∀ z,X.env.kindOf z=sc0.names.lookup z:=fun z=>by
   show X.env.scope.names.lookup z=_
   rw [h0]
  rw [e]
  simpa using q
 ·have hi:i<ix.length:=(DX.mp hij).1
  have hi':i<N'.length:=by omega
  have hm:(some j,N'[i])∈ix.zip N':=by
   rw [List.mem_iff_getElem?]
   refine ⟨i,?_⟩
   rw [Fn]
   exact ⟨hij,DR hi'⟩
  have q:=E7.mp h5 _ hm
  simp only [Es,decide_eq_true_eq] at q
  exact ⟨N'[i],DR hi',q.1,q.2⟩
structure Bn (mg:Str→Option Value):Prop where
 len:mg "len" = none
 range:mg "range" = none
 min:mg "min" = none
 max:mg "max" = none
 enumerate:mg "enumerate" = none
 zip:mg "zip" = none
 all:mg "all" = none
 any:mg "any" = none
 isinstance:mg "isinstance" = none
 bool:mg "bool" = none
 int:mg "int" = none
 list:mg "list" = none
 tuple:mg "tuple" = none
 sorted:mg "sorted" = none
 str:mg "str" = none
 sum:mg "sum" = none
 abs:mg "abs" = none
theorem zP {X:Cx}:OpR X (compareOp .Is) (fun x y H Q=>∃ b c,x=.bl b∧y=.bl c∧Q (.bl (b==c)) H):=by
 intro pins s σ H x y v u Q I r1 r2 h
 obtain ⟨b,c,rfl,rfl,q⟩:=h
 cases (show v=Value.bool b from r1)
 cases (show u=Value.bool c from r2)
 exact is_bool ⟨.bl _,H,I,rfl,q⟩
theorem qq {X:Cx}:OpR X (compareOp .IsNot) (fun x y H Q=>∃ b c,x=.bl b∧y=.bl c∧Q (.bl (b != c)) H):=by
 intro pins s σ H x y v u Q I r1 r2 h
 obtain ⟨b,c,rfl,rfl,q⟩:=h
 cases (show v=Value.bool b from r1)
 cases (show u=Value.bool c from r2)
 exact isnot_bool ⟨.bl _,H,I,rfl,q⟩
theorem SqB.of {K:PySem.W.Frag}{N:Addr→Prop}{H:Hp}{a:Addr}{xs:List V} (h:SnL K N H a xs):SqB K H false a xs:=h.sq
noncomputable def SnB (K:PySem.W.Frag) (N:Addr→Prop) (H:Hp):Bool→Addr→List V→Prop
 | false,a,xs=>SnL K N H a xs
 | true,a,xs=>SnT K N H a xs
theorem SnB.sq {K:PySem.W.Frag}{N:Addr→Prop}{H:Hp}{b:Bool}{a:Addr}{xs:List V} (h:SnB K N H b a xs):SqB K H b a xs:=by
 cases b with
 | false=>exact SnL.sq h
 | true=>exact SnT.sq h
theorem SqB.len {K:PySem.W.Frag}{H:Hp}{b:Bool}{a:Addr}{xs:List V} (h:SqB K H b a xs):SqL K H a xs∨SqT K H a xs:=by
 cases b with
 | false=>exact .inl h
 | true=>exact .inr h
theorem SqB.keep {K:PySem.W.Frag}{H H':Hp}{b:Bool}{a:Addr}{xs:List V} (h:SqB K H b a xs) (k:aO H H'):SqB K H' b a xs:=by
 cases b with
 | false=>exact (show SnL K N0 H a xs from by rcases h with h|h;exact .inl ⟨h,fun z=>z⟩;exact .inr h).keep (aE.same k) |>.sq
 | true=>exact (show SnT K N0 H a xs from by rcases h with h|h;exact .inl ⟨h,fun z=>z⟩;exact .inr h).keep (aE.same k) |>.sq
theorem SqL.keep {K:PySem.W.Frag}{H H':Hp}{a:Addr}{xs:List V} (h:SqL K H a xs) (k:aO H H'):SqL K H' a xs:=SqB.keep (b:=false) h k
theorem SqT.keep {K:PySem.W.Frag}{H H':Hp}{a:Addr}{xs:List V} (h:SqT K H a xs) (k:aO H H'):SqT K H' a xs:=SqB.keep (b:=true) h k
theorem aO.new {H:Hp}{p:Addr}{o:HO} (h:H p=none):aO H (upd H p o):=fun b u e=>by rw[ai (ao e h)];exact e
theorem Cal.mk {P:Program}{w:World}{K:PySem.W.Frag}{mg:Str→Option Value}{base:Heap}{x:Str}{st:Stmt}{f:Addr}{fd:FuncData}{k:Nat}{ps:List Str}{sp:Sp} (F:Fun K x x st f fd) (m:mg x=some (.ref f)) (b:br K fd ps [])
  (G : b7 P w K mg base CX0 k f fd ps sp):Cal P w K mg base x k sp:=⟨f,fd,ps,G,b,F.kp,m⟩
theorem af:1000000≤sizeLine:=by decide
section
variable {X:Cx}{K:PySem.W.Frag} (hK:X.K=K)
include hK
theorem je:c9 X (.builtin "len") (fun xs H Q=>∃ p ys,xs=[.ref p]∧(SqL K H p ys∨SqT K H p ys)∧Q (.int ys.length) H):=by subst hK;exact kh
theorem Dm:SlR X (CC K):=by subst hK;exact wx
theorem B3:OpR X (binaryOp .Add) (y6 K):=by subst hK;exact xm
theorem CL (hu:X.A.units+64<cLine):OpR X (compareOp .Eq) (BF K):=by subst hK;exact zS hu
theorem B1 (hu:X.A.units+64<cLine):OpR X (compareOp .NotEq) (BB K):=by subst hK;exact zM hu
theorem kIn:OpR X (compareOp .In) (rIn K false):=by subst hK;exact qr
theorem Ah:OpR X (compareOp .NotIn) (rIn K true):=by subst hK;exact jz
theorem B4 (hc:X.calm=true):c9 X (.builtin "all") (fun xs H Q=>∃ (a:Addr) (bs:List Bool),xs=[.ref a]∧SqL K H a (bs.map V.bl)∧Q (.bl (bs.all id)) H):=by subst hK;exact uF hc
theorem Ag:c9 X (.type "tuple") (fun xs H Q=>∃ p ys,xs=[.ref p]∧((SqL K H p ys∧∀ l,H l=none→Q (.ref l) (upd H l (.tup ys)))∨(SqT K H p ys∧Q (.ref p) H))):=by subst hK;exact i7
variable {tg:Expr}
theorem z8 {l:Expr}{tl:TE} (hl:PE X l tl):PI X tg l (An K tl):=by subst hK;exact wX hl
theorem z9 (b:Bool) {es:List Expr}{kk:Nat}{tpos:Pos}{a:Expr}{ta:TA}{p pos:Pos} (hg:Gl X "enumerate") (hm:X.mg "enumerate" = none) (ha:PA X [a] ta) (hs:starEach [a] X.env=[(false,eval a X.env)]:=by rfl) :
  PI X (.Tuple es kk tpos) (.Call (.Name "enumerate" p) [a] [] pos) (Ao K b ta):=by subst hK;exact wY b hg hm PyProof.Rows.boot_enumerate ha hs
theorem BZ (b c:Bool) {es:List Expr}{kk:Nat}{tpos:Pos}{e1 e2:Expr}{ta:TA}{p pos:Pos} (hg:Gl X "zip") (hm:X.mg "zip" = none) (ha:PA X [e1,e2] ta)
  (hs:starEach [e1,e2] X.env=[(false,eval e1 X.env),(false,eval e2 X.env)]:=by rfl) (hs2:starEach [e2] X.env=[(false,eval e2 X.env)]:=by rfl) :
  PI X (.Tuple es kk tpos) (.Call (.Name "zip" p) [e1,e2] [] pos) (CO K b c ta):=by subst hK;exact zB b c hg hm PyProof.Rows.boot_zip ha hs hs2
theorem B0 {pos:Pos}{es:List Expr}{k:Nat}{t:TGs}{n:Nat} (hc:X.calm=true) (h:PGs X es t) (hn:(assignEach es X.env).length=n:=by rfl) (hst:(assignEach es X.env).findIdx? (·.1)=none:=by rfl):PG X (.Tuple es k pos) (CP K n t):=by
 subst hK;exact zD hc h hn hst
theorem vx {a:Expr}{ta:TE} (ha:PE X a ta) (he:∀ whole,isTrue a X.env whole=(do let v ←whole;standAt a.pos;holding [v] (truthy v))):PT X a (fun σ H Q=>ta σ H fun x H'=>∃ k,Bh K x H' k∧Q k H'):=by
 subst hK;exact sW ha he
variable {o e:Expr}{es:List Expr}{to:TE}{t:TA}{name:Str}{apos cpos:Pos}{T id:String}{r:V→List V→Hp→VK→Prop}
theorem CM (pa:PlainAttrs T) (slot:Slot T name id) (hty:typeOf (.builtin id)=pure (.type "method_descriptor")) (hm:MtR X id r) (ho:PE X o to)
  (hbase:attributeBase o name X.env (eval o X.env)=eval o X.env:=by rfl) (hline:(apos.endLine==cpos.line)=true:=by rfl):PE X (.Call (.Attribute o name apos) [] [] cpos) (CA K T r to):=by
 subst hK;exact zK pa slot hty hm ho hbase hline
theorem kBm (pa:PlainAttrs T) (slot:Slot T name id) (hty:typeOf (.builtin id)=pure (.type "method_descriptor")) (hm:MtR X id r) (ho:PE X o to) (ha:PA X (e::es) t)
  (hbase:attributeBase o name X.env (eval o X.env)=eval o X.env:=by rfl)
  (hfew:((backTo cpos (starEach (e::es) X.env)).all (fun x=>!x.1)&&(backToKw cpos (keywordEach [] X.env)).all (fun x=>x.1.isSome)&&decide ((e::es).length+([]:List Keyword).length+(if ([]:List Keyword).isEmpty then 0 else 1)<30))=true:=by rfl)
  (hline:(apos.endLine==cpos.line)=true:=by rfl) (hs:starEach (e::es) X.env=(false,eval e X.env)::starEach es X.env:=by rfl) (hplain:(backTo cpos (starEach es X.env)).any (·.1)=false:=by rfl) :
  PE X (.Call (.Attribute o name apos) (e::es) [] cpos) (tBM K T r to t):=by
 subst hK;exact BN pa slot hty hm ho ha hbase hfew hline hs hplain
end
end L2
namespace L2
open PySem
theorem yZ {A:Around}{k:Nat} (hr:ca k A):A.units+80<cLine:=by have:=hr.un;omega
section
variable {K:PySem.W.Frag}{a:Addr}{xs:List V}{g:TG}{tb:TS}{D:o9}{σ:St}{H:Hp} (Pv:Nat→St→Hp→Prop)
end
theorem xG {n j:Nat} (h:j<n):ixN n (j:Int)=some j:=by
 unfold ixN
 rw [if_pos (by omega),if_pos (by omega),Eu]
end L2
namespace L2
open PySem PySem.Spec PyProof.Rows
noncomputable def C8 (t u:TS):TS:=fun D σ H=>∃ R:St→Hp→Prop,t { D with nx:=R } σ H∧∀ σ' H',R σ' H'→u D σ' H'
theorem wR {X:Cx}{st:Stmt}{bI:List Stmt}{t u:TS} (h1:PS X st t) (h2:PSs X bI u):PSs X (st::bI) (C8 t u):=by
 intro pins s σ H D I h
 obtain ⟨R,h,hR⟩:=h
 refine wpAny_execs_cons (thn (h1 pins s σ H { D with nx:=R } I h) fun f s1 q=>?_)
 cases f with
 | next =>
  obtain ⟨σ',H',I',q⟩:=q
  exact h2 pins s1 σ' H' D I' (hR _ _ q)
 | ret v=>exact q
 | brk=>exact q
 | cont=>exact q
theorem jI {α:Type}{x:α}{l:List α} (h:x∈l.dropLast):x∈l:=by
 rw [List.dropLast_eq_take] at h
 exact List.mem_of_mem_take h
end L2
namespace L2
open PySem
theorem aE.free {N:Addr→Prop}{H H':Hp} (k:aE N H H') {p:Addr} (n:¬N p) (h:H' p=Option.none):H p=Option.none:=by
 cases e:H p with
 | none=>rfl
 | some o=>rw[k p o n e] at h;cases h
theorem aE.put {N:Addr→Prop}{H H':Hp}{p:Addr}{o:HO} (k:aE N H H') (h:H p=Option.none):aE N H (upd H' p o):=fun b u n e=>by
 rw [ai (ao e h)]
 exact k b u n e
theorem DN.own {K:PySem.W.Frag}{N:Addr→Prop}{H H':Hp}{d:Addr}{v:V}{D:PyData} (h:DN K N H v D) (hd:H d=none) (k:aO H H'):DN K (N1 d) H' v D :=
 (h.to fun b o e (z:b=d)=>by rw[z,hd] at e;cases e).keep (aE.same k)
theorem DN.sqL {K:PySem.W.Frag}{H:Hp}{a:Addr}{ns:List Int} (h:SqL K H a (ns.map V.int)):DN K N0 H (.ref a) (pI ns):=DN.ofI (by
 rcases h with h|h
 ·exact .inl ⟨h,fun z=>z⟩
 ·exact .inr h)
end L2
namespace L2
end L2
namespace L2
open PySem PySem.Spec PyProof.Rows
section
variable {κ β:Type} [DecidableEq κ]
noncomputable def cK (kvs:List (κ×β)) (k:κ):Option β:=(kvs.find? fun p=>decide (p.1=k)).map (·.2)
noncomputable def jc (kvs:List (κ×β)) (k:κ) (v:β):List (κ×β):=if (cK kvs k).isSome=true then kvs.map fun p=>if p.1=k then (p.1,v) else p else kvs++[(k,v)]
theorem ue (k:κ):cK ([]:List (κ×β)) k=none:=rfl
theorem bD (p:κ×β) (kvs:List (κ×β)) (k:κ):cK (p::kvs) k=if p.1=k then some p.2 else cK kvs k:=by
 unfold cK
 rw [EW]
 by_cases h:p.1=k <;> simp[h]
theorem sO (kvs:List (κ×β)) (k:κ) (v:β):(jc kvs k v).length≤kvs.length+1:=by
 unfold jc
 split <;> simp
end
noncomputable def Cy (K:PySem.W.Frag) (H:Hp) (v:V) (kvs:List (aS×PyData)):Prop :=
 ∃ a es,v=.ref a∧H a=some (.ext (bx a es))∧DVs K H (es.map fun p=>V.ref p.2.1) (kvs.map fun p=>cV p.1)∧DVs K H (es.map fun p=>p.2.2) (kvs.map fun p=>p.2)∧es.map (fun p=>p.1)=kvs.map (fun p=>p.1)
section
variable {X:Cx}{pins:List (Addr×Obj)}{σ:St}{H:Hp}{s:Shared}{a b:Addr}{k:aS}
theorem DVs.map_int:∀ {ns:List Int}{xs:List V},DVs X.K H xs (ns.map .int)→xs=ns.map V.int
 | [],_,h=>by cases h;rfl
 | n :: ns,_,h=>by
  cases h with
  | cons h t =>
   cases h
   rw [DVs.map_int t]
   rfl
theorem lS:∀ {ns:List Int}{us:List Value},aK (ns.map V.int) us→ItemsAre (intKind X.prog X.w) ns us
 | [],us,h=>by cases h;exact .nil
 | n :: ns,us,h=>by
  cases h with
  | cons r t =>
   obtain ⟨tt,rfl⟩:=r
   exact .cons (dG n tt) (lS t)
theorem gY (I:Inv X pins σ H s) {x:V}{u:Value} (h:DV X.K H x (cV k)) (r:bz x u):∃ b,x=.ref b∧u=.ref b∧cU X.prog X.w s.heap k b:=by
 obtain ⟨d,l⟩:=k
 obtain ⟨b,xs,rfl,sq,q⟩:=DV.tupI (h:DV X.K H x (.tuple _))
 obtain ⟨v1,v2,rfl,h1,h2⟩:=q.twoI
 obtain ⟨c,ys,rfl,sq2,q2⟩:=h2.tupI
 obtain ⟨its,rv,⟨o,e,cl,n,hd⟩,_⟩:=I.tuple sq
 obtain ⟨its2,rv2,⟨o2,e2,cl2,n2,hd2⟩,_⟩:=I.tuple sq2
 rw [DVs.map_int (X:=X) q2] at rv2
 obtain ⟨w1,w2,rfl,r1,r2⟩:=pe rv
 rw [h1.intI] at r1
 obtain ⟨t,rfl⟩:=r1
 have e3:w2=Value.ref c:=r2
 have e4:u=Value.ref b:=r
 subst e3 e4
 exact ⟨b,rfl,rfl,o,t,c,n,e,cl,hd,o2,its2.toArray,n2,e2,cl2,hd2,by simpa using lS rv2⟩
theorem mS (I:Inv X pins σ H s):∀ {es:List (aS×Addr×V)}{xs:List (aS×Addr×Value)}{kvs:List (aS×PyData)},
  Paired (fun (p:aS×Addr×V) (q:aS×Addr×Value)=>p.1=q.1∧p.2.1=q.2.1∧bz p.2.2 q.2.2) es xs→DVs X.K H (es.map fun p=>V.ref p.2.1) (kvs.map fun p=>cV p.1)→es.map (fun p=>p.1)=kvs.map (fun p=>p.1) →
  ∀ x∈xs,cU X.prog X.w s.heap x.1 x.2.1
 | [],_,_,.nil,_,_=>fun x hx=>by cases hx
 | p :: es,_,kvs,.cons (b:=q) r t,h,e=>by
  cases kvs with
  | nil=>simp at e
  | cons kv kvs =>
   rw [Ec,Ec] at h e
   injection e with e1 e2
   cases h with
   | cons h1 h2 =>
    intro x hx
    rcases D3.mp hx with rfl|hx
    ·obtain ⟨b,z,_,st⟩:=gY I h1 (u:=.ref p.2.1) rfl
     cases z
     rw [←r.1,←r.2.1,e1]
     exact st
    ·exact mS I t h2 e2 x hx
theorem dct_of (I:Inv X pins σ H s) {es:List (aS×Addr×V)}{kvs:List (aS×PyData)} (ha:H a=some (.ext (bx a es))) (hk:DVs X.K H (es.map fun p=>V.ref p.2.1) (kvs.map fun p=>cV p.1)) (e:es.map (fun p=>p.1)=kvs.map (fun p=>p.1)) :
  es.length≤sizeLine∧(a==sysModules)=false∧∃ xs,Paired (fun (p:aS×Addr×V) (q:aS×Addr×Value)=>p.1=q.1∧p.2.1=q.2.1∧bz p.2.2 q.2.2) es xs∧lR X.prog X.w s.heap a xs:=by
 obtain ⟨⟨z,y,xs,r,o,ds,ep,h1,h2,h3,h4,h5⟩,_⟩:=I.hok a _ ha
 exact ⟨z,y,xs,r,o,ds,ep,h1,h2,h3,h4,mS I r hk e,h5⟩
theorem nM:∀ {es:List (aS×Addr×V)}{xs:List (aS×Addr×Value)}{kvs:List (aS×PyData)}{K:PySem.W.Frag} (k:aS),
  Paired (fun (p:aS×Addr×V) (q:aS×Addr×Value)=>p.1=q.1∧p.2.1=q.2.1∧bz p.2.2 q.2.2) es xs→es.map (fun p=>p.1)=kvs.map (fun p=>p.1)→DVs K H (es.map fun p=>p.2.2) (kvs.map fun p=>p.2) →
  (cK kvs k=none∧atKey xs k=none)∨∃ (i:Nat) (d:PyData) (v:V) (b:Addr) (u:Value),cK kvs k=some d∧atKey xs k=some (b,u)∧(es.map fun p=>p.2.2)[i]? = some v∧(kvs.map fun p=>p.2)[i]? = some d∧bz v u
 | [],_,kvs,K,k,.nil,e,_=>by
  cases kvs with
  | nil=>exact .inl ⟨rfl,rfl⟩
  | cons kv kvs=>simp at e
 | p :: es,_,kvs,K,k,.cons (b:=q) (l₂:=xs) r t,e,h=>by
  cases kvs with
  | nil=>simp at e
  | cons kv kvs =>
   rw [Ec,Ec] at e h
   injection e with e1 e2
   cases h with
   | cons h1 h2 =>
    by_cases hk:kv.1=k
    ·have hq:q.1=k:=by rw[←r.1,e1,hk]
     refine .inr ⟨0,kv.2,p.2.2,q.2.1,q.2.2,by rw[bD,if_pos hk],?_,rfl,rfl,r.2.2⟩
     simp [atKey,EW,hq]
    ·have hq:¬q.1=k:=fun z=>hk (by rw[←e1,r.1,z])
     have eg:cK (kv::kvs) k=cK kvs k:=by rw[bD,if_neg hk]
     have ea:atKey (q::xs) k=atKey xs k:=by simp[atKey,EW,hq]
     rw [eg,ea]
     rcases nM k t e2 h2 with z|⟨i,d,v,b,u,z1,z2,z3,z4,z5⟩
     ·exact .inl z
     ·exact .inr ⟨i+1,d,v,b,u,z1,z2,by simpa using z3,by simpa using z4,z5⟩
end
section
variable {X:Cx}
noncomputable def BE (K:PySem.W.Frag):R2:=fun x y H Q=>∃ (k:aS) (kvs:List (aS×PyData)),DV K H x (cV k)∧Cy K H y kvs∧Q (.bl (cK kvs k).isSome) H
noncomputable def kO (K:PySem.W.Frag):R2:=fun x y H Q=>∃ (k:aS) (kvs:List (aS×PyData)),DV K H x (cV k)∧Cy K H y kvs∧Q (.bl (!(cK kvs k).isSome)) H
theorem zQ (hu:X.A.units+2<cLine):OpR X (compareOp .In) (BE X.K):=by
 intro pins s σ H x y v u Q I rx ry h
 obtain ⟨k,kvs,dk,⟨a,es,rfl,ha,hk,hv,e⟩,q⟩:=h
 cases (show u=Value.ref a from ry)
 obtain ⟨b,rfl,rfl,st⟩:=gY I dk rx
 obtain ⟨z,y,xs,r,dd⟩:=dct_of I ha hk e
 refine wpAny_in_heap (knd:=bJ X.prog X.w) (fF hu) st y dd.of ?_
 have:(atKey xs k).isSome=(cK kvs k).isSome:=by
  rcases nM k r e hv with ⟨z1,z2⟩|⟨i,d,v,b,u,z1,z2,_⟩
  ·rw [z1,z2];rfl
  ·rw [z1,z2];rfl
 rw [this]
 exact ⟨.bl _,H,I.tok _,rfl,q⟩
theorem qp (hu:X.A.units+2<cLine):OpR X (compareOp .NotIn) (kO X.K):=by
 intro pins s σ H x y v u Q I rx ry h
 obtain ⟨k,kvs,dk,⟨a,es,rfl,ha,hk,hv,e⟩,q⟩:=h
 cases (show u=Value.ref a from ry)
 obtain ⟨b,rfl,rfl,st⟩:=gY I dk rx
 obtain ⟨z,y,xs,r,dd⟩:=dct_of I ha hk e
 refine wpAny_notIn_heap (knd:=bJ X.prog X.w) (fF hu) st y dd.of ?_
 have:(atKey xs k).isSome=(cK kvs k).isSome:=by
  rcases nM k r e hv with ⟨z1,z2⟩|⟨i,d,v,b,u,z1,z2,_⟩
  ·rw [z1,z2];rfl
  ·rw [z1,z2];rfl
 rw [this]
 exact ⟨.bl _,H,I.tok _,rfl,q⟩
noncomputable def BC (K:PySem.W.Frag):R2:=fun x y H Q=>∃ (k:aS) (a:Addr) (es:List (aS×Addr×V)) (kvs:List (aS×PyData)),x=.ref a∧DV K H y (cV k)∧H a=some (.ext (bx a es))∧DVs K H (es.map fun p=>V.ref p.2.1) (kvs.map fun p=>cV p.1)∧DVs K H (es.map fun p=>p.2.2) (kvs.map fun p=>p.2) ∧
 es.map (fun p=>p.1)=kvs.map (fun p=>p.1)∧(cK kvs k).isSome=true∧∀ (i:Nat) v d,cK kvs k=some d→(es.map fun p=>p.2.2)[i]? = some v→(kvs.map fun p=>p.2)[i]? = some d→Q v H
theorem Dn (hu:X.A.units+2<cLine):IxR X (BC X.K):=by
 intro value slice pins s σ H x y v u Q I rx ry h hs
 obtain ⟨k,a,es,kvs,rfl,dk,ha,hk,hv,e,hsome,q⟩:=h
 cases (show v=Value.ref a from rx)
 obtain ⟨b,rfl,rfl,st⟩:=gY I dk ry
 obtain ⟨z,y,xs,r,dd⟩:=dct_of I ha hk e
 have hT:=dd.of.typeIs
 unfold subscriptTail
 refine wpAny_bind ?_
 rw [getitemInPython_of_ne hT.not_modules]
 refine wpAny_bind (wpAny_specialOf hT PySem.F.slot_dict_getitem.lookup ?_)
 have fin:wpAny (model X.prog X.w) X.A (subscripted slice false (.ref a) (.ref b)) (fun r s₃=>wpAny (model X.prog X.w) X.A (letTemporaryGo value (.ref a) r >>= fun _=>pure r) (EP X pins σ Q) X.xe s₃) X.xe s:=by
  rw [hs]
  rcases nM k r e hv with ⟨z1,_⟩|⟨i,d,v,b',u,z1,z2,z3,z4,z5⟩
  ·rw [z1] at hsome;cases hsome
  ·refine wpAny_operating (wpAny_getItem_heap (knd:=bJ X.prog X.w) (fF hu) st dd.of z2 ?_)
   exact wpAny_bind (wpAny_letTemporaryGo (wpAny_pure ⟨v,H,I.tok _,z5,q i v d z1 z3 z4⟩))
 first
  | exact wpAny_pure (wpAny_bind fin)
  | exact wpAny_bind (wpAny_pure (wpAny_bind fin))
  | exact wpAny_bind fin
noncomputable def pU (es:List (aS×Addr×V)) (k:aS) (b:Addr) (v:V):List (aS×Addr×V) :=
 if (es.any fun p=>decide (p.1=k))=true then es.map (fun p=>if p.1=k then (p.1,p.2.1,v) else p) else es++[(k,b,v)]
theorem kR {es:List (aS×Addr×V)}{xs:List (aS×Addr×Value)} (r:Paired (fun (p:aS×Addr×V) (q:aS×Addr×Value)=>p.1=q.1∧p.2.1=q.2.1∧bz p.2.2 q.2.2) es xs) (k:aS) {b:Addr}{v:V}{u:Value} (rv:bz v u) :
  Paired (fun (p:aS×Addr×V) (q:aS×Addr×Value)=>p.1=q.1∧p.2.1=q.2.1∧bz p.2.2 q.2.2) (pU es k b v) (storedH xs k b u):=by
 have e:(es.any fun p=>decide (p.1=k))=(atKey xs k).isSome:=by
  induction r with
  | nil=>rfl
  | @cons p q ps qs h t ih =>
   rw [List.any_cons,ih]
   by_cases hk:p.1=k
   ·have hq:q.1=k:=by rw[←h.1,hk]
    simp [atKey,EW,hk,hq]
   ·have hq:¬q.1=k:=fun z=>hk (by rw[h.1,z])
    simp [atKey,EW,hk,hq]
 unfold pU storedH
 rw [e]
 by_cases c:(atKey xs k).isSome=true
 ·rw [if_pos c,if_pos c]
  clear e c
  induction r with
  | nil=>exact .nil
  | @cons p q ps qs h t ih =>
   rw [Ec,Ec]
   refine .cons ?_ ih
   unfold putAt
   by_cases hk:p.1=k
   ·rw [if_pos hk,if_pos (show q.1=k by rw[←h.1,hk])]
    exact ⟨h.1,h.2.1,rv⟩
   ·rw [if_neg hk,if_neg (fun z=>hk (by rw[h.1,z]))]
    exact h
 ·rw [if_neg c,if_neg c]
  exact Paired.snoc r ⟨rfl,rfl,rv⟩
theorem sV (es:List (aS×Addr×V)) (k:aS) (b:Addr) (v:V):(pU es k b v).length≤es.length+1:=by
 unfold pU
 split <;> simp
noncomputable def BA (K:PySem.W.Frag):Bi:=fun x y v H Q=>∃ (k:aS) (a b:Addr) (es:List (aS×Addr×V)) (kvs:List (aS×PyData)),x=.ref a∧y=.ref b∧DV K H y (cV k)∧H a=some (.ext (bx a es))∧DVs K H (es.map fun p=>V.ref p.2.1) (kvs.map fun p=>cV p.1) ∧
 es.map (fun p=>p.1)=kvs.map (fun p=>p.1)∧es.length<sizeLine∧Q (upd H a (.ext (bx a (pU es k b v))))
theorem Bx (hu:X.A.units+2<cLine):Cv X (BA X.K):=by
 intro pins s σ H x y v ov iv u Q I rx ry rv h
 obtain ⟨k,a,b,es,kvs,rfl,rfl,dk,ha,hk,e,hl,q⟩:=h
 cases (show ov=Value.ref a from rx)
 obtain ⟨b',ez,eb,st⟩:=gY I dk ry
 cases ez
 subst eb
 obtain ⟨z,y,xs,r,dd⟩:=dct_of I ha hk e
 have hz:xs.length≤sizeLine:=by rw[←Paired.length r];exact z
 refine pF (hsz:=hz) (fF (prog:=X.prog) (w:=X.w) hu) st dd fun h' dd' hs=>?_
 obtain ⟨o,es',ep,h1,h2,h3,h4,_,h5⟩:=dd'
 refine ⟨_,?_,q⟩
 refine I.write (x:=a) (e:=a) (by rw[ha];exact True.intro) (.inl rfl) (fun b q hb z=>(hs.2 b hb).trans z) ⟨_,h1⟩ ?_
 have new:bx a (pU es k b v) h':=⟨by have:=sV es k b v;omega,y,_,kR r k rv,o,es',ep,h1,h2,h3,h4,h5⟩
 refine ⟨new,⟨_,h1⟩,fun h1' h2' hx hy=>?_⟩
 obtain ⟨a1,a2,xs',a3,o',ds',ep',a4,a5⟩:=hx
 exact ⟨a1,a2,xs',a3,o',ds',ep',hy _ a4,a5⟩
noncomputable def Bs:TE:=fun _ H Q=>∀ p,H p=none→Q (.ref p) (upd H p (.ext (bx p [])))
theorem j8 {P:Program}{w:World}{H:Hp} (h:Heap) (hb:sysModules<h.objs.size):c7 P w H (h.push { cls:=.type "dict",data:=.dict #[] }) h.objs.size (.ext (bx h.objs.size [])):=by
 have e:=D8 (o:=({ cls:=.type "dict",data:=.dict #[] }:Obj)) h rfl
 refine ⟨⟨Ee _,beq_eq_false_iff_ne.mpr (Ne.symm (Ed hb)),[],.nil,_,#[],0,e,⟨rfl,rfl,rfl⟩,rfl,rfl,Ff,rfl⟩,⟨_,e⟩,fun h1 h2 hx hy=>?_⟩
 obtain ⟨a1,a2,xs',a3,o',ds',ep',a4,a5⟩:=hx
 exact ⟨a1,a2,xs',a3,o',ds',ep',hy _ a4,a5⟩
theorem Inv.big' {pins:List (Addr×Obj)}{σ:St}{H:Hp}{s:Shared} (I:Inv X pins σ H s):sysModules<s.heap.objs.size:=by
 have h:mainGlobals<s.heap.objs.size:=(I.mod.glob.keeps I.bk).lt
 exact Nat.lt_trans (by decide) h
theorem xf {pos:Pos}:PE X (.Dict [] [] pos) Bs:=fun pins s σ H Q I h =>
 wpAny_Dict_empty ⟨.ref s.heap.objs.size,_,I.laid (a:=s.heap.objs.size) (o:=.ext (bx s.heap.objs.size [])) (t':=s.toks) (fun _ _ q=>DU _ q) (D2 _) (j8 s.heap I.big'),rfl,h _ (I.hok.fresh (D2 _))⟩
noncomputable def Br (K:PySem.W.Frag) (tk tv:TE):TE:=fun σ H Q=>∀ p,H p=none→tk σ (upd H p (.ext (bx p []))) fun x H1=>tv σ H1 fun y H2=>∃ k b,x=.ref b∧DV K H2 x (cV k)∧H2 p=some (.ext (bx p []))∧Q (.ref p) (upd H2 p (.ext (bx p [(k,b,y)])))
theorem xc {pos:Pos}{e1 e2:Expr}{tk tv:TE} (hu:X.A.units+1<cLine) (hk:PE X e1 tk) (hv:PE X e2 tv):PE X (.Dict [some e1] [e2] pos) (Br X.K tk tv):=by
 intro pins s σ H Q I h
 have I1:=I.laid (a:=s.heap.objs.size) (o:=.ext (bx s.heap.objs.size [])) (h':=s.heap.push { cls:=.type "dict",data:=.dict #[] }) (t':=s.toks) (fun _ _ q=>DU _ q) (D2 _) (j8 s.heap I.big')
 refine wpAny_Dict_any rfl rfl (by simp) (by simp) (pairTrees_cons_walk (thn (hk pins _ σ _ _ I1 (h _ (I.hok.fresh (D2 _)))) fun u s1 ⟨x,H1,I2,rx,q1⟩=>thn (hv pins s1 σ H1 _ I2 q1) fun w s2 ⟨y,H2,I3,ry,k,b,ex,dk,hp,q⟩=>pairTrees_nil_walk ?_))
 subst ex
 obtain ⟨b',ez,rfl,st⟩:=gY I3 dk rx
 cases ez
 generalize s.heap.objs.size=p at *
 obtain ⟨z,hd,xs,r,dd⟩:=dct_of (kvs:=[]) I3 hp .nil rfl
 cases r
 unfold storeAll
 rw [Fs]
 refine wpAny_bind (wpAny_bind (j7 (hsz:=Ee _) hu st dd fun h' dd' hs=>wpAny_pure ?_))
 dsimp only
 rw [Fe]
 refine wpAny_pure ⟨.ref p,_,?_,rfl,q⟩
 obtain ⟨o,es',ep,h1,h2,h3,h4,_,h5⟩:=dd'
 refine I3.write (x:=p) (e:=p) (by rw[hp];exact True.intro) (.inl rfl) (fun b q hb z=>(hs.2 b hb).trans z) ⟨_,h1⟩ ?_
 have new:bx p [(k,b,y)] h':=⟨by rw[sizeLine_eq];simp,hd,_,.cons ⟨rfl,rfl,ry⟩ .nil,o,es',ep,h1,h2,h3,h4,h5⟩
 refine ⟨new,⟨_,h1⟩,fun h1' h2' hx hy=>?_⟩
 obtain ⟨a1,a2,xs',a3,o',ds',ep',a4,a5⟩:=hx
 exact ⟨a1,a2,xs',a3,o',ds',ep',hy _ a4,a5⟩
end
mutual
inductive OT (K:PySem.W.Frag) (N:Addr→Prop) (H:Hp):V→PyData→List Addr→Prop
 | non:OT K N H .non .none []
 | bl (b:Bool):OT K N H (.bl b) (.bool b) []
 | int (i:Int):OT K N H (.int i) (.int i) []
 | lst {a:Addr}{xs:List V}{ds:List PyData}{S:List Addr}:H a=some (.lst xs)→OTs K N H xs ds S→OT K N H (.ref a) (.list ds) (a::S)
 | tup {a:Addr}{xs:List V}{ds:List PyData}{S:List Addr}:SnT K N H a xs→OTs K N H xs ds S→OT K N H (.ref a) (.tuple ds) S
 | dct {a:Addr}{es:List (aS×Addr×V)}{kvs:List (aS×PyData)}:H a=some (.ext (bx a es))→DNs K N H (es.map fun p=>V.ref p.2.1) (kvs.map fun p=>cV p.1)→DNs K N H (es.map fun p=>p.2.2) (kvs.map fun p=>p.2)→es.map (fun p=>p.1)=kvs.map (fun p=>p.1)→OT K N H (.ref a) (dm kvs) [a]
 | fz {v:V}{ds:List PyData}:DN K N H v (.list ds)→OT K N H v (fzD ds) []
inductive OTs (K:PySem.W.Frag) (N:Addr→Prop) (H:Hp):List V→List PyData→List Addr→Prop
 | nil:OTs K N H [] [] []
 | cons {x:V}{xs:List V}{d:PyData}{ds:List PyData}{S S':List Addr}:OT K N H x d S→OTs K N H xs ds S'→OTs K N H (x::xs) (d::ds) (S++S')
end
section
variable {K:PySem.W.Frag}{N M:Addr→Prop}{H H':Hp}
theorem OT.keep (k:aE N H H') {v:V}{d:PyData}{S:List Addr} (h:OT K N H v d S):(∀ a∈S,H' a=H a)→OT K N H' v d S :=
 OT.rec (motive_1:=fun v d S _=>(∀ a∈S,H' a=H a)→OT K N H' v d S) (motive_2:=fun v d S _=>(∀ a∈S,H' a=H a)→OTs K N H' v d S)
 (fun _=>.non) (fun b _=>.bl b) (fun i _=>.int i)
 (fun h _ q s=>.lst ((s _ DY).trans h) (q fun a ha=>s a (D0 _ ha))) (fun h _ q s=>.tup (h.keep k) (q s))
 (fun h q r e s=>.dct ((s _ DY).trans h) (q.keep k) (r.keep k) e) (fun h s=>.fz (h.keep k)) (fun _=>.nil) (fun _ _ h q s=>.cons (h fun a ha=>s a (DP _ ha)) (q fun a ha=>s a (DL _ ha))) h
theorem OTs.keep (k:aE N H H') {v:List V}{d:List PyData}{S:List Addr} (h:OTs K N H v d S):(∀ a∈S,H' a=H a)→OTs K N H' v d S :=
 OTs.rec (motive_1:=fun v d S _=>(∀ a∈S,H' a=H a)→OT K N H' v d S) (motive_2:=fun v d S _=>(∀ a∈S,H' a=H a)→OTs K N H' v d S)
 (fun _=>.non) (fun b _=>.bl b) (fun i _=>.int i)
 (fun h _ q s=>.lst ((s _ DY).trans h) (q fun a ha=>s a (D0 _ ha))) (fun h _ q s=>.tup (h.keep k) (q s))
 (fun h q r e s=>.dct ((s _ DY).trans h) (q.keep k) (r.keep k) e) (fun h s=>.fz (h.keep k)) (fun _=>.nil) (fun _ _ h q s=>.cons (h fun a ha=>s a (DP _ ha)) (q fun a ha=>s a (DL _ ha))) h
theorem OT.to (m:∀ b o,H b=some o→M b→N b) {v:V}{d:PyData}{S:List Addr} (h:OT K N H v d S):OT K M H v d S :=
 OT.rec (motive_1:=fun v d S _=>OT K M H v d S) (motive_2:=fun v d S _=>OTs K M H v d S)
 .non (fun b=>.bl b) (fun i=>.int i)
 (fun h _ q=>.lst h q) (fun h _ q=>.tup (h.to m) q)
 (fun h q r e=>.dct h (q.to m) (r.to m) e) (fun h=>.fz (h.to m)) .nil (fun _ _ h q=>.cons h q) h
theorem OTs.to (m:∀ b o,H b=some o→M b→N b) {v:List V}{d:List PyData}{S:List Addr} (h:OTs K N H v d S):OTs K M H v d S :=
 OTs.rec (motive_1:=fun v d S _=>OT K M H v d S) (motive_2:=fun v d S _=>OTs K M H v d S)
 .non (fun b=>.bl b) (fun i=>.int i)
 (fun h _ q=>.lst h q) (fun h _ q=>.tup (h.to m) q)
 (fun h q r e=>.dct h (q.to m) (r.to m) e) (fun h=>.fz (h.to m)) .nil (fun _ _ h q=>.cons h q) h
theorem OT.lives {v:V}{d:PyData}{S:List Addr} (h:OT K N H v d S):∀ a∈S,∃ o,H a=some o :=
 OT.rec (motive_1:=fun v d S _=>∀ a∈S,∃ o,H a=some o) (motive_2:=fun v d S _=>∀ a∈S,∃ o,H a=some o)
 (fun _ h=>nomatch h) (fun _ _ h=>nomatch h) (fun _ _ h=>nomatch h)
 (fun h _ q a ha=>(D3.mp ha).elim (fun e=>⟨_,e▸h⟩) (q a)) (fun _ _ q=>q)
 (fun h _ _ _ a ha=>⟨_,(DM.mp ha)▸h⟩) (fun _ _ h=>nomatch h) (fun _ h=>nomatch h) (fun _ _ h q a ha=>(DQ.mp ha).elim (h a) (q a)) h
theorem OTs.lives {v:List V}{d:List PyData}{S:List Addr} (h:OTs K N H v d S):∀ a∈S,∃ o,H a=some o :=
 OTs.rec (motive_1:=fun v d S _=>∀ a∈S,∃ o,H a=some o) (motive_2:=fun v d S _=>∀ a∈S,∃ o,H a=some o)
 (fun _ h=>nomatch h) (fun _ _ h=>nomatch h) (fun _ _ h=>nomatch h)
 (fun h _ q a ha=>(D3.mp ha).elim (fun e=>⟨_,e▸h⟩) (q a)) (fun _ _ q=>q)
 (fun h _ _ _ a ha=>⟨_,(DM.mp ha)▸h⟩) (fun _ _ h=>nomatch h) (fun _ h=>nomatch h) (fun _ _ h q a ha=>(DQ.mp ha).elim (h a) (q a)) h
theorem OT.dn (n:∀ b,M b→N b) {v:V}{d:PyData}{S:List Addr} (h:OT K N H v d S):(∀ a∈S,¬M a)→DN K M H v d :=
 OT.rec (motive_1:=fun v d S _=>(∀ a∈S,¬M a)→DN K M H v d) (motive_2:=fun v d S _=>(∀ a∈S,¬M a)→DNs K M H v d)
 (fun _=>.non) (fun b _=>.bl b) (fun i _=>.int i)
 (fun h _ q s=>.lst (SnL.of h (s _ DY)) (q fun a ha=>s a (D0 _ ha))) (fun h _ q s=>.tup (h.to fun b _ _ z=>n b z) (q s))
 (fun h q r e s=>.dct (s _ DY) h (q.to fun b _ _ z=>n b z) (r.to fun b _ _ z=>n b z) e) (fun h _=>.fz (h.to fun b _ _ z=>n b z)) (fun _=>.nil) (fun _ _ h q s=>.cons (h fun a ha=>s a (DP _ ha)) (q fun a ha=>s a (DL _ ha))) h
theorem OTs.dn (n:∀ b,M b→N b) {v:List V}{d:List PyData}{S:List Addr} (h:OTs K N H v d S):(∀ a∈S,¬M a)→DNs K M H v d :=
 OTs.rec (motive_1:=fun v d S _=>(∀ a∈S,¬M a)→DN K M H v d) (motive_2:=fun v d S _=>(∀ a∈S,¬M a)→DNs K M H v d)
 (fun _=>.non) (fun b _=>.bl b) (fun i _=>.int i)
 (fun h _ q s=>.lst (SnL.of h (s _ DY)) (q fun a ha=>s a (D0 _ ha))) (fun h _ q s=>.tup (h.to fun b _ _ z=>n b z) (q s))
 (fun h q r e s=>.dct (s _ DY) h (q.to fun b _ _ z=>n b z) (r.to fun b _ _ z=>n b z) e) (fun h _=>.fz (h.to fun b _ _ z=>n b z)) (fun _=>.nil) (fun _ _ h q s=>.cons (h fun a ha=>s a (DP _ ha)) (q fun a ha=>s a (DL _ ha))) h
theorem OTs.ind {C:List V→List PyData→List Addr→Prop} (n:C [] [] []) (c:∀ {x:V}{xs:List V}{d:PyData}{ds:List PyData}{S S':List Addr},OT K N H x d S→OTs K N H xs ds S'→C xs ds S'→C (x::xs) (d::ds) (S++S')) {v:List V}{d:List PyData}{S:List Addr} (h:OTs K N H v d S):C v d S :=
 OTs.rec (motive_1:=fun _ _ _ _=>True) (motive_2:=fun v d S _=>C v d S) trivial (fun _=>trivial) (fun _=>trivial)
 (fun _ _ _=>trivial) (fun _ _ _=>trivial) (fun _ _ _ _=>trivial) (fun _=>trivial) n (fun h q _ i=>c h q i) h
theorem OTs.len {v:List V}{d:List PyData}{S:List Addr} (h:OTs K N H v d S):v.length=d.length:=OTs.ind (C:=fun v d _=>v.length=d.length) rfl (fun _ _ i=>by rw[Et,Et,i]) h
theorem OTs.app {v w:List V}{d e:List PyData}{S T:List Addr} (h:OTs K N H v d S) (q:OTs K N H w e T):OTs K N H (v++w) (d++e) (S++T):=OTs.ind (C:=fun v d S=>OTs K N H (v++w) (d++e) (S++T)) q (fun h _ i=>by rw[Ek];exact .cons h i) h
end
inductive Sl where
 | un|fr (d:PyData)|ow (ds:List PyData)|io (ds:List PyData)|vw (i:Nat)|tr (S:List Addr) (d:PyData)
noncomputable abbrev Ent:=Option V×Sl
noncomputable def cr:Ent→List Addr
 | (some (.ref a),.ow _)=>[a]
 | (some (.ref a),.io _)=>[a]
 | (some _,.tr S _)=>S
 | _=>[]
noncomputable def oas (E:List Ent):List Addr:=E.flatMap cr
noncomputable def Nw (M:Addr→Prop) (E:List Ent):Addr→Prop:=fun a=>M a∨a∈oas E
noncomputable abbrev tmp (ts:List (V×Sl)):List Ent:=ts.map fun t=>(some t.1,t.2)
noncomputable def ay (σ:St) (env:List Sl) (ts:List (V×Sl)):List Ent:=σ.zip env++tmp ts
theorem ae (A B:List Ent):oas (A++B)=oas A++oas B:=List.flatMap_append
theorem ag (e:Ent) (B:List Ent):oas (e::B)=cr e++oas B:=List.flatMap_cons ..
theorem aP {a:Addr}{E:List Ent}:a∈oas E↔∃ e∈E,a∈cr e:=List.mem_flatMap
theorem eK (x:Option V):cr (x,.un)=[]:=by
 cases x with
 | none=>rfl
 | some v=>cases v <;> rfl
theorem gl (x:Option V) (i:Nat):cr (x,.vw i)=[]:=by
 cases x with
 | none=>rfl
 | some v=>cases v <;> rfl
theorem cY (x:Option V) (d:PyData):cr (x,.fr d)=[]:=by
 cases x with
 | none=>rfl
 | some v=>cases v <;> rfl
theorem aC (v:V) (S:List Addr) (d:PyData):cr (some v,.tr S d)=S:=by cases v <;> rfl
theorem qm {e:Ent}{a:Addr} (h:a∈cr e):(e.1=some (.ref a)∧((∃ ds,e.2=.ow ds)∨∃ ds,e.2=.io ds))∨∃ S d,e.2=.tr S d∧a∈S:=by
 obtain ⟨x,s⟩:=e
 cases s with
 | un=>rw[eK] at h;exact absurd h En
 | vw i=>rw[gl] at h;exact absurd h En
 | fr d=>rw[cY] at h;exact absurd h En
 | tr S d =>
  cases x with
  | none=>exact absurd h En
  | some v=>rw[aC] at h;exact .inr ⟨S,d,rfl,h⟩
 | ow ds =>
  cases x with
  | none=>exact absurd h En
  | some v=>cases v with
   | ref b=>rw[DM.mp h];exact .inl ⟨rfl,.inl ⟨ds,rfl⟩⟩
   | _=>exact absurd h En
 | io ds =>
  cases x with
  | none=>exact absurd h En
  | some v=>cases v with
   | ref b=>rw[DM.mp h];exact .inl ⟨rfl,.inr ⟨ds,rfl⟩⟩
   | _=>exact absurd h En
structure be (K:PySem.W.Frag) (M P:Addr→Prop) (H0:Hp) (E:List Ent) (H:Hp):Prop where
 keep:aE P H0 H
 live:∀ a,H0 a≠none→H a≠none
 mt : ∀ a,M a→H0 a≠none
 pm : ∀ a,P a→M a
 fr : ∀ x d,(x,Sl.fr d)∈E→∃ v,x=some v∧DN K (Nw M E) H v d
 ow : ∀ x ds,(x,Sl.ow ds)∈E→∃ a vs,x=some (.ref a)∧H a=some (.lst vs)∧DNs K (Nw M E) H vs ds∧H0 a=none
 io : ∀ x ds,(x,Sl.io ds)∈E→∃ a vs,x=some (.ref a)∧H a=some (.lst vs)∧DNs K (Nw M E) H vs ds∧P a
 tr : ∀ x S d,(x,Sl.tr S d)∈E→∃ v,x=some v∧OT K (Nw M E) H v d S∧∀ a∈S,H0 a=none
 nd : (oas E).Nodup
section
variable {K:PySem.W.Frag}{M P:Addr→Prop}{H0 H H':Hp}{E E' A B:List Ent}{e e':Ent}
theorem be.own (h:be K M P H0 E H) {a:Addr} (ha:a∈oas E):∃ o,H a=some o∧(H0 a=none∨P a):=by
 obtain ⟨⟨x,s⟩,he,eo⟩:=aP.mp ha
 rcases qm eo with ⟨e1,e2⟩|⟨S,d,e2,ms⟩
 rotate_left
 ·simp only at e2;subst e2
  obtain ⟨v,_,q,r⟩:=h.tr _ _ _ he
  obtain ⟨vs,z⟩:=q.lives a ms
  exact ⟨vs,z,.inl (r a ms)⟩
 rcases e2 with ⟨ds,e2⟩|⟨ds,e2⟩
 ·simp only at e1 e2;subst e1 e2
  obtain ⟨b,vs,z,q,_,r⟩:=h.ow _ _ he
  cases z
  exact ⟨_,q,.inl r⟩
 ·simp only at e1 e2;subst e1 e2
  obtain ⟨b,vs,z,q,_,r⟩:=h.io _ _ he
  cases z
  exact ⟨_,q,.inr r⟩
theorem Nw.sub (h:∀ a,a∈oas E'→a∈oas E):∀ b,Nw M E' b→Nw M E b:=fun b z=>by
 rcases z with z|z
 ·exact .inl z
 ·exact .inr (h b z)
theorem be.sub (h:be K M P H0 E H) (hm:∀ x s,(x,s)∈E'→(x,s)∈E∨s=.un∨∃ i,s=.vw i) (nd:(oas E').Nodup):be K M P H0 E' H:=by
 have os:∀ a,a∈oas E'→a∈oas E:=fun a ha=>by
  obtain ⟨⟨x,s⟩,he,eo⟩:=aP.mp ha
  rcases hm x s he with q|q|⟨i,q⟩
  ·exact aP.mpr ⟨_,q,eo⟩
  ·subst q;rw[eK] at eo;cases eo
  ·subst q;rw[gl] at eo;cases eo
 have up:=Nw.sub (M:=M) os
 refine ⟨h.keep,h.live,h.mt,h.pm,fun x d m=>?_,fun x d m=>?_,fun x d m=>?_,fun x S d m=>?_,nd⟩
 rotate_right
 ·rcases hm _ _ m with q|q|⟨i,q⟩
  ·obtain ⟨v,e,dn,r⟩:=h.tr x S d q
   exact ⟨v,e,dn.to fun b _ _ z=>up b z,r⟩
  ·cases q
  ·cases q
 ·rcases hm _ _ m with q|q|⟨i,q⟩
  ·obtain ⟨v,e,dn⟩:=h.fr x d q
   exact ⟨v,e,dn.to fun b _ _ z=>up b z⟩
  ·cases q
  ·cases q
 ·rcases hm _ _ m with q|q|⟨i,q⟩
  ·obtain ⟨a,vs,e,e2,dn,r⟩:=h.ow x d q
   exact ⟨a,vs,e,e2,dn.to fun b _ _ z=>up b z,r⟩
  ·cases q
  ·cases q
 ·rcases hm _ _ m with q|q|⟨i,q⟩
  ·obtain ⟨a,vs,e,e2,dn,r⟩:=h.io x d q
   exact ⟨a,vs,e,e2,dn.to fun b _ _ z=>up b z,r⟩
  ·cases q
  ·cases q
theorem be.drop (h:be K M P H0 (E++B) H):be K M P H0 E H:=h.sub (fun x s m=>.inl (DP _ m)) (by
 have:=h.nd
 rw [ae] at this
 exact (DZ.mp this).1)
theorem be.same (h:be K M P H0 E H) (k:aO H H'):be K M P H0 E H':=by
 refine ⟨h.keep.trans (aE.same k),fun a q z=>?_,h.mt,h.pm,fun x d m=>?_,fun x d m=>?_,fun x d m=>?_,fun x S d m=>?_,h.nd⟩
 rotate_right
 ·obtain ⟨v,e,dn,r⟩:=h.tr x S d m
  exact ⟨v,e,dn.keep (aE.same k) fun a ha=>by
   obtain ⟨xs,z⟩:=dn.lives a ha
   rw [k a _ z,z],r⟩
 ·have q1:=h.live a q
  cases e:H a with
  | none=>exact q1 e
  | some o=>rw[k a o e] at z;cases z
 ·obtain ⟨v,e,dn⟩:=h.fr x d m
  exact ⟨v,e,dn.keep (aE.same k)⟩
 ·obtain ⟨a,vs,e,e2,dn,r⟩:=h.ow x d m
  exact ⟨a,vs,e,k _ _ e2,dn.keep (aE.same k),r⟩
 ·obtain ⟨a,vs,e,e2,dn,r⟩:=h.io x d m
  exact ⟨a,vs,e,k _ _ e2,dn.keep (aE.same k),r⟩
theorem be.addFr (h:be K M P H0 E H) {v:V}{d:PyData} (dn:DN K (Nw M E) H v d):be K M P H0 (E++[(some v,.fr d)]) H:=by
 have oe:oas (E++[(some v,Sl.fr d)])=oas E:=by
  rw [ae,ag,cY]
  simp [oas]
 have ne:Nw M (E++[(some v,Sl.fr d)])=Nw M E:=by unfold Nw;rw[oe]
 refine ⟨h.keep,h.live,h.mt,h.pm,fun x d' m=>?_,fun x d' m=>?_,fun x d' m=>?_,fun x S d' m=>?_,by rw[oe];exact h.nd⟩
 rotate_right
 ·rw [ne]
  rcases DQ.mp m with m|m
  ·exact h.tr x S d' m
  ·rw [DM] at m
   cases m
 ·rw [ne]
  rcases DQ.mp m with m|m
  ·exact h.fr x d' m
  ·rw [DM] at m
   cases m
   exact ⟨v,rfl,dn⟩
 ·rw [ne]
  rcases DQ.mp m with m|m
  ·exact h.ow x d' m
  ·rw [DM] at m
   cases m
 ·rw [ne]
  rcases DQ.mp m with m|m
  ·exact h.io x d' m
  ·rw [DM] at m
   cases m
theorem be.addVw (h:be K M P H0 E H) {v:V}{i:Nat}:be K M P H0 (E++[(some v,.vw i)]) H:=by
 refine h.sub (fun x s m=>?_) ?_
 ·rcases DQ.mp m with m|m
  ·exact .inl m
  ·rw [DM] at m
   cases m
   exact .inr (.inr ⟨i,rfl⟩)
 ·rw [ae,ag,gl]
  simpa [oas] using h.nd
theorem be.addOw (h:be K M P H0 E H) {p:Addr}{vs:List V}{ds:List PyData} (hp:H p=none) (dns:DNs K (Nw M E) H vs ds):be K M P H0 (E++[(some (.ref p),.ow ds)]) (upd H p (.lst vs)):=by
 have oe:oas (E++[(some (.ref p),Sl.ow ds)])=oas E++[p]:=by
  rw [ae]
  rfl
 have np:p ∉ oas E:=fun z=>by
  obtain ⟨vs',q,_⟩:=h.own z
  rw [hp] at q
  cases q
 have h0:H0 p=none:=by
  cases e:H0 p with
  | none=>rfl
  | some o=>exact absurd hp (h.live p (by rw[e];simp))
 have up:∀ b o,H b=some o→Nw M (E++[(some (.ref p),Sl.ow ds)]) b→Nw M E b:=fun b o e z=>by
  rcases z with z|z
  ·exact .inl z
  ·rw [oe] at z
   rcases DQ.mp z with z|z
   ·exact .inr z
   ·rw [DM.mp z,hp] at e
    cases e
 have h':=h.same (aO.new (o:=.lst vs) hp)
 refine ⟨h'.keep,h'.live,h.mt,h.pm,fun x d' m=>?_,fun x d' m=>?_,fun x d' m=>?_,fun x S d' m=>?_,?_⟩
 rotate_right 2
 ·rcases DQ.mp m with m|m
  ·obtain ⟨v,e,dn,r⟩:=h.tr x S d' m
   exact ⟨v,e,(dn.to up).keep (aE.same (aO.new hp)) fun a ha=>by
    obtain ⟨xs,z⟩:=dn.lives a ha
    rw [aO.new hp _ _ z,z],r⟩
  ·rw [DM] at m
   cases m
 rotate_left
 ·rcases DQ.mp m with m|m
  ·obtain ⟨v,e,dn⟩:=h.fr x d' m
   exact ⟨v,e,(dn.to up).keep (aE.same (aO.new hp))⟩
  ·rw [DM] at m
   cases m
 ·rcases DQ.mp m with m|m
  ·obtain ⟨a,ws,e,e2,dn,r⟩:=h.ow x d' m
   exact ⟨a,ws,e,aO.new hp _ _ e2,(dn.to up).keep (aE.same (aO.new hp)),r⟩
  ·rw [DM] at m
   cases m
   exact ⟨p,vs,rfl,ar,(dns.to up).keep (aE.same (aO.new hp)),h0⟩
 ·rcases DQ.mp m with m|m
  ·obtain ⟨a,ws,e,e2,dn,r⟩:=h.io x d' m
   exact ⟨a,ws,e,aO.new hp _ _ e2,(dn.to up).keep (aE.same (aO.new hp)),r⟩
  ·rw [DM] at m
   cases m
 ·rw [oe]
  exact DZ.mpr ⟨h.nd,by simp,fun a ha b hb=>by rw[DM.mp hb];exact fun z=>np (z▸ha)⟩
theorem be.freeze {a:Addr}{ds:List PyData} (h:be K M P H0 (A++(some (.ref a),.ow ds)::B) H):be K M P H0 (A++(some (.ref a),.fr (.list ds))::B) H:=by
 have oe:oas (A++(some (.ref a),Sl.ow ds)::B)=oas A++a::oas B:=by rw[ae,ag];rfl
 have oe':oas (A++(some (.ref a),Sl.fr (.list ds))::B)=oas A++oas B:=by rw[ae,ag];rfl
 have nd:=h.nd
 rw [oe] at nd
 obtain ⟨n1,n2,n3⟩:=DZ.mp nd
 obtain ⟨n4,n5⟩:=Ej.mp n2
 have up:∀ b,Nw M (A++(some (.ref a),Sl.fr (.list ds))::B) b→Nw M (A++(some (.ref a),Sl.ow ds)::B) b:=Nw.sub fun b z=>by
  rw [oe'] at z
  rw [oe]
  rcases DQ.mp z with z|z
  ·exact DP _ z
  ·exact DL _ (D0 _ z)
 have me:(some (.ref a),Sl.ow ds)∈A++(some (.ref a),Sl.ow ds)::B:=DL _ DY
 obtain ⟨a',vs,z,ha,dns,h0⟩:=h.ow _ _ me
 cases z
 have na:¬Nw M (A++(some (.ref a),Sl.fr (.list ds))::B) a:=fun z=>by
  rcases z with z|z
  ·exact h.mt a z h0
  ·rw [oe'] at z
   rcases DQ.mp z with z|z
   ·exact n3 a z a DY rfl
   ·exact n4 z
 have old:∀ x s,(x,s)∈A++(some (.ref a),Sl.fr (.list ds))::B→(x,s)=(some (.ref a),Sl.fr (.list ds))∨(x,s)∈A++(some (.ref a),Sl.ow ds)::B:=fun x s m=>by
  rcases DQ.mp m with m|m
  ·exact .inr (DP _ m)
  ·rcases D3.mp m with m|m
   ·exact .inl m
   ·exact .inr (DL _ (D0 _ m))
 refine ⟨h.keep,h.live,h.mt,h.pm,fun x d m=>?_,fun x d m=>?_,fun x d m=>?_,fun x S d m=>?_,?_⟩
 rotate_right 2
 ·rcases old _ _ m with m|m
  ·cases m
  ·obtain ⟨v,e,dn,r⟩:=h.tr x S d m
   exact ⟨v,e,dn.to fun b _ _ z=>up b z,r⟩
 rotate_left
 ·rcases old _ _ m with m|m
  ·cases m
   exact ⟨_,rfl,.lst (SnL.of ha na) (dns.to fun b _ _ z=>up b z)⟩
  ·obtain ⟨v,e,dn⟩:=h.fr x d m
   exact ⟨v,e,dn.to fun b _ _ z=>up b z⟩
 ·rcases old _ _ m with m|m
  ·cases m
  ·obtain ⟨b,ws,e,e2,dn,r⟩:=h.ow x d m
   exact ⟨b,ws,e,e2,dn.to fun b _ _ z=>up b z,r⟩
 ·rcases old _ _ m with m|m
  ·cases m
  ·obtain ⟨b,ws,e,e2,dn,r⟩:=h.io x d m
   exact ⟨b,ws,e,e2,dn.to fun b _ _ z=>up b z,r⟩
 ·rw [oe']
  exact DZ.mpr ⟨n1,n5,fun x hx y hy=>n3 x hx y (D0 _ hy)⟩
theorem be.freezeT {v:V}{S:List Addr}{d:PyData} (h:be K M P H0 (A++(some v,.tr S d)::B) H):be K M P H0 (A++(some v,.fr d)::B) H:=by
 have oe:oas (A++(some v,Sl.tr S d)::B)=oas A++(S++oas B):=by rw[ae,ag,aC]
 have oe':oas (A++(some v,Sl.fr d)::B)=oas A++oas B:=by rw[ae,ag,cY];rfl
 have nd:=h.nd
 rw [oe] at nd
 obtain ⟨n1,n2,n3⟩:=DZ.mp nd
 obtain ⟨n4,n5,n6⟩:=DZ.mp n2
 have up:∀ b,Nw M (A++(some v,Sl.fr d)::B) b→Nw M (A++(some v,Sl.tr S d)::B) b:=Nw.sub fun b z=>by
  rw [oe'] at z
  rw [oe]
  rcases DQ.mp z with z|z
  ·exact DP _ z
  ·exact DL _ (DL _ z)
 have me:(some v,Sl.tr S d)∈A++(some v,Sl.tr S d)::B:=DL _ DY
 obtain ⟨v',z,ot,h0⟩:=h.tr _ _ _ me
 cases z
 have na:∀ a∈S,¬Nw M (A++(some v,Sl.fr d)::B) a:=fun a ha z=>by
  rcases z with z|z
  ·exact h.mt a z (h0 a ha)
  ·rw [oe'] at z
   rcases DQ.mp z with z|z
   ·exact n3 a z a (DP _ ha) rfl
   ·exact n6 a ha a z rfl
 have old:∀ x s,(x,s)∈A++(some v,Sl.fr d)::B→(x,s)=(some v,Sl.fr d)∨(x,s)∈A++(some v,Sl.tr S d)::B:=fun x s m=>by
  rcases DQ.mp m with m|m
  ·exact .inr (DP _ m)
  ·rcases D3.mp m with m|m
   ·exact .inl m
   ·exact .inr (DL _ (D0 _ m))
 refine ⟨h.keep,h.live,h.mt,h.pm,fun x d' m=>?_,fun x d' m=>?_,fun x d' m=>?_,fun x S' d' m=>?_,?_⟩
 ·rcases old _ _ m with m|m
  ·cases m
   exact ⟨_,rfl,ot.dn up na⟩
  ·obtain ⟨v,e,dn⟩:=h.fr x d' m
   exact ⟨v,e,dn.to fun b _ _ z=>up b z⟩
 ·rcases old _ _ m with m|m
  ·cases m
  ·obtain ⟨b,ws,e,e2,dn,r⟩:=h.ow x d' m
   exact ⟨b,ws,e,e2,dn.to fun b _ _ z=>up b z,r⟩
 ·rcases old _ _ m with m|m
  ·cases m
  ·obtain ⟨b,ws,e,e2,dn,r⟩:=h.io x d' m
   exact ⟨b,ws,e,e2,dn.to fun b _ _ z=>up b z,r⟩
 ·rcases old _ _ m with m|m
  ·cases m
  ·obtain ⟨v,e,dn,r⟩:=h.tr x S' d' m
   exact ⟨v,e,dn.to fun b _ _ z=>up b z,r⟩
 ·rw [oe']
  exact DZ.mpr ⟨n1,n5,fun x hx y hy=>n3 x hx y (DL _ hy)⟩
noncomputable def xH:Sl→List PyData→Sl→Prop
 | .ow _,ds',s'=>s'=.ow ds'
 | .io _,ds',s'=>s'=.io ds'
 | _,_,_=>False
theorem cA {s s':Sl}{l:List PyData} (h:xH s l s'):(∃ d,s=.ow d∧s'=.ow l)∨∃ d,s=.io d∧s'=.io l:=by
 cases s with
 | ow d=>exact .inl ⟨d,rfl,h⟩
 | io d=>exact .inr ⟨d,rfl,h⟩
 | _=>exact h.elim
theorem eh {s s':Sl}{l:List PyData}{a:Addr} (h:xH s l s'):cr (some (.ref a),s)=[a]∧cr (some (.ref a),s')=[a]:=by
 rcases cA h with ⟨_,rfl,rfl⟩|⟨_,rfl,rfl⟩ <;> exact⟨rfl,rfl⟩
theorem be.muted {a:Addr}{s s':Sl}{vs':List V}{ds':List PyData} (h:be K M P H0 (A++(some (.ref a),s)::B) H) (hs:xH s ds' s') (k:aE (fun b=>b=a) H H') (lv:∀ b,H b≠none→H' b≠none)
  (ha:H' a=some (.lst vs')) (dns:DNs K (Nw M (A++(some (.ref a),s)::B)) H' vs' ds'):be K M P H0 (A++(some (.ref a),s')::B) H':=by
 have oa:cr (some (.ref a),s)=[a]∧cr (some (.ref a),s')=[a]:=eh hs
 have oe:oas (A++(some (.ref a),s)::B)=oas A++a::oas B:=by rw[ae,ag,oa.1];rfl
 have oe':oas (A++(some (.ref a),s')::B)=oas A++a::oas B:=by rw[ae,ag,oa.2];rfl
 have ne:Nw M (A++(some (.ref a),s')::B)=Nw M (A++(some (.ref a),s)::B):=by unfold Nw;rw[oe,oe']
 have na:Nw M (A++(some (.ref a),s)::B) a:=.inr (by rw[oe];simp)
 have nd:=h.nd
 rw [oe] at nd
 obtain ⟨n1,n2,n3⟩:=DZ.mp nd
 obtain ⟨n4,n5⟩:=Ej.mp n2
 have kN:aE (Nw M (A++(some (.ref a),s)::B)) H H':=k.mono fun b z=>by rw[z];exact na
 obtain ⟨ws,hw,hP⟩:=h.own (a:=a) (by rw[oe];simp)
 have other:∀ x t b,(x,t)∈A∨(x,t)∈B→b∈cr (x,t)→b≠a:=fun x t b m eo z=>by
  subst z
  rcases m with m|m
  ·exact n3 b (aP.mpr ⟨_,m,eo⟩) b DY rfl
  ·exact n4 (aP.mpr ⟨_,m,eo⟩)
 have old:∀ x t,(x,t)∈A++(some (.ref a),s')::B→(x,t)=(some (.ref a),s')∨((x,t)∈A∨(x,t)∈B):=fun x t m=>by
  rcases DQ.mp m with m|m
  ·exact .inr (.inl m)
  ·rcases D3.mp m with m|m
   ·exact .inl m
   ·exact .inr (.inr m)
 have back:∀ x t,(x,t)∈A∨(x,t)∈B→(x,t)∈A++(some (.ref a),s)::B:=fun x t m=>by
  rcases m with m|m
  ·exact DP _ m
  ·exact DL _ (D0 _ m)
 have me:(some (.ref a),s)∈A++(some (.ref a),s)::B:=DL _ DY
 refine ⟨?_,fun b q=>lv b (h.live b q),h.mt,h.pm,fun x d m=>?_,fun x d m=>?_,fun x d m=>?_,fun x S d m=>?_,by rw[oe'];exact nd⟩
 rotate_right
 ·rw [ne]
  rcases old _ _ m with m|m
  ·rcases cA hs with ⟨_,_,e⟩|⟨_,_,e⟩ <;> (rw[e] at m;cases m)
  ·obtain ⟨v,e,dn,r⟩:=h.tr x S d (back _ _ m)
   subst e
   refine ⟨v,rfl,dn.keep kN fun b hb=>?_,r⟩
   obtain ⟨xs,z⟩:=dn.lives b hb
   rw [k _ _ (other _ _ b m (by rw[aC];exact hb)) z,z]
 ·intro b o np e
  by_cases hb:b=a
  ·subst hb
   rcases hP with q|q
   ·rw [q] at e;cases e
   ·exact absurd q np
  ·exact k b o hb (h.keep b o np e)
 ·rw [ne]
  rcases old _ _ m with m|m
  ·rcases cA hs with ⟨_,_,e⟩|⟨_,_,e⟩ <;> (rw[e] at m;cases m)
  ·obtain ⟨v,e,dn⟩:=h.fr x d (back _ _ m)
   exact ⟨v,e,dn.keep kN⟩
 ·rw [ne]
  rcases old _ _ m with m|m
  ·rcases cA hs with ⟨d0,e1,e2⟩|⟨_,_,e2⟩ <;> (rw[e2] at m;cases m)
   obtain ⟨b,us,e,_,_,r⟩:=h.ow (some (.ref a)) d0 (DL _ (by rw[e1];exact DY))
   cases e
   exact ⟨a,vs',rfl,ha,dns,r⟩
  ·obtain ⟨b,us,e,e2,dn,r⟩:=h.ow x d (back _ _ m)
   subst e
   exact ⟨b,us,rfl,k _ _ (other _ _ b m (DM.mpr rfl)) e2,dn.keep kN,r⟩
 ·rw [ne]
  rcases old _ _ m with m|m
  ·rcases cA hs with ⟨_,_,e2⟩|⟨d0,e1,e2⟩ <;> (rw[e2] at m;cases m)
   obtain ⟨b,us,e,_,_,r⟩:=h.io (some (.ref a)) d0 (DL _ (by rw[e1];exact DY))
   cases e
   exact ⟨a,vs',rfl,ha,dns,r⟩
  ·obtain ⟨b,us,e,e2,dn,r⟩:=h.io x d (back _ _ m)
   subst e
   exact ⟨b,us,rfl,k _ _ (other _ _ b m (DM.mpr rfl)) e2,dn.keep kN,r⟩
theorem be.mut {a:Addr}{s s':Sl}{vs':List V}{ds':List PyData} (h:be K M P H0 (A++(some (.ref a),s)::B) H) (hs:xH s ds' s') (dns:DNs K (Nw M (A++(some (.ref a),s)::B)) H vs' ds') :
  be K M P H0 (A++(some (.ref a),s')::B) (upd H a (.lst vs')) :=
 have oa:cr (some (.ref a),s)=[a]:=(eh hs).1
 h.muted hs (fun b o hb e=>by rw[ai hb];exact e) (fun b q z=>by
  by_cases hb:b=a
  ·rw [hb,ar] at z;cases z
  ·rw [ai hb] at z;exact q z) ar (dns.keep (aE.own (.inr (aP.mpr ⟨_,DL _ DY,by rw[oa];exact DM.mpr rfl⟩))))
theorem be.move {t:Ent} (h:be K M P H0 (A++e::(B++[t])) H):be K M P H0 (A++t::B) H:=by
 refine h.sub (fun x s m=>.inl ?_) ?_
 ·rcases DQ.mp m with m|m
  ·exact DP _ m
  ·rcases D3.mp m with m|m
   ·exact DL _ (D0 _ (DL _ (by rw[m];simp)))
   ·exact DL _ (D0 _ (DP _ m))
 ·have nd:=h.nd
  have eq1:oas (A++e::(B++[t]))=oas A++(oas [e]++(oas B++oas [t])):=by
   rw [ae,show e::(B++[t])=[e]++(B++[t]) from rfl,ae,ae]
  have eq2:oas (A++t::B)=oas A++(oas [t]++oas B):=by
   rw [ae,show t::B=[t]++B from rfl,ae]
  rw [eq1] at nd
  rw [eq2]
  obtain ⟨n1,n2,n3⟩:=DZ.mp nd
  obtain ⟨_,n4,_⟩:=DZ.mp n2
  obtain ⟨n5,n6,n7⟩:=DZ.mp n4
  refine DZ.mpr ⟨n1,DZ.mpr ⟨n6,n5,fun x hx y hy z=>n7 y hy x hx z.symm⟩,fun x hx y hy=>?_⟩
  refine n3 x hx y (DL _ ?_)
  rcases DQ.mp hy with hy|hy
  ·exact DL _ hy
  ·exact DP _ hy
end
structure Rel (K:PySem.W.Frag) (M P:Addr→Prop) (H0:Hp) (σ0 σ:St) (env:List Sl) (ts:List (V×Sl)) (H:Hp):Prop where
 e : be K M P H0 (ay σ env ts) H
 len:σ.length=env.length
 vw : ∀ (v:V) (i:Nat),(v,Sl.vw i)∈ts→σ[i]? = some (some v)
 ios:∀ (i:Nat) (ds:List PyData),env[i]? = some (Sl.io ds)→σ[i]? = σ0[i]?
inductive Vw (K:PySem.W.Frag) (N:Addr→Prop) (H:Hp):V→PyData→Prop
 | dn {v d}:DN K N H v d→Vw K N H v d
 | ow {a vs ds}:H a=some (.lst vs)→DNs K N H vs ds→Vw K N H (.ref a) (.list ds)
 | dct {a:Addr}{es:List (aS×Addr×V)}{kvs:List (aS×PyData)}:H a=some (.ext (bx a es))→DNs K N H (es.map fun p=>V.ref p.2.1) (kvs.map fun p=>cV p.1)→DNs K N H (es.map fun p=>p.2.2) (kvs.map fun p=>p.2)→es.map (fun p=>p.1)=kvs.map (fun p=>p.1)→Vw K N H (.ref a) (dm kvs)
noncomputable def slD:Sl→Option PyData
 | .fr d=>some d
 | .ow ds=>some (.list ds)
 | .io ds=>some (.list ds)
 | .tr _ (.dict kvs)=>some (.dict kvs)
 | _=>none
noncomputable def aH (env:List Sl):Sl→Option PyData
 | .vw i=>(env[i]?).bind slD
 | .fr d=>some d
 | .ow ds=>some (.list ds)
 | .io ds=>some (.list ds)
 | .tr _ (.dict kvs)=>some (.dict kvs)
 | _=>none
noncomputable def slK:Sl→Option PyData
 | .fr d=>some d
 | _=>none
noncomputable def aD (env:List Sl):Sl→Option PyData
 | .vw i=>(env[i]?).bind slK
 | .fr d=>some d
 | .ow ds=>some (.list ds)
 | .tr _ d=>some d
 | _=>none
section
variable {K:PySem.W.Frag}{M P N:Addr→Prop}{H0 H H':Hp}{σ0 σ:St}{env:List Sl}{ts tt:List (V×Sl)}{v:V}{s:Sl}{d:PyData}
theorem ax:ay σ env (ts++tt)=ay σ env ts++tmp tt:=by
 unfold ay
 rw [Ek]
 simp [tmp]
theorem OT.dict_view {S:List Addr}{kvs:List (PyData×PyData)} (h:OT K N H v (.dict kvs) S):Vw K N H v (.dict kvs):=by
 generalize e:PyData.dict kvs=d at h
 cases h with
 | dct h q r e2=>exact .dct h q r e2
 | fz h=>exact .dn (.fz h)
 | _=>cases e
theorem Vw.dv (h:Vw K N H v d):DV K H v d:=by
 cases h with
 | dn h=>exact h.dv
 | ow h q=>exact .lst (SqL.of h) q.dv
 | dct h q r e=>exact .dct h q.dv r.dv e
theorem Vw.list {ds:List PyData} (h:Vw K N H v (.list ds)):∃ a vs,v=.ref a∧SqL K H a vs∧DNs K N H vs ds:=by
 cases h with
 | dn h=>obtain⟨a,vs,e,s,q⟩:=h.list;exact⟨a,vs,e,s.sq,q⟩
 | ow h q=>exact⟨_,_,rfl,SqL.of h,q⟩
theorem Vw.tuple {ds:List PyData} (h:Vw K N H v (.tuple ds)):∃ a vs,v=.ref a∧SqT K H a vs∧DNs K N H vs ds:=by
 cases h with
 | dn h=>obtain⟨a,vs,e,s,q⟩:=h.tuple;exact⟨a,vs,e,s.sq,q⟩
theorem Vw.int {i:Int} (h:Vw K N H v (.int i)):v=.int i:=by
 cases h with
 | dn h=>cases h;rfl
theorem Vw.bool {i:Bool} (h:Vw K N H v (.bool i)):v=.bl i:=by
 cases h with
 | dn h=>cases h;rfl
theorem Vw.none (h:Vw K N H v .none):v=.non:=by
 cases h with
 | dn h=>cases h;rfl
theorem pc (h:σ.length=env.length) {i:Nat} (e:env[i]? = some s):∃ x,σ[i]? = some x∧(x,s)∈σ.zip env:=by
 have hi:i<env.length:=(DX.mp e).1
 have hj:i<σ.length:=by omega
 refine ⟨σ[i],DR hj,?_⟩
 have hz:i<(σ.zip env).length:=by rw[Ft];omega
 have:=EE hz
 rw [List.getElem_zip] at this
 rwa [(DX.mp e).2] at this
theorem dj (m:(v,s)∈ts):((some v,s):Ent)∈ay σ env ts:=DL _ (D4.mpr ⟨(v,s),m,rfl⟩)
theorem Rel.slot (h:Rel K M P H0 σ0 σ env ts H) {i:Nat} (e:env[i]? = some s):∃ x,σ[i]? = some x∧(x,s)∈ay σ env ts:=by
 obtain ⟨x,e1,m⟩:=pc h.len e
 exact ⟨x,e1,DP _ m⟩
theorem be.viewE {E:List Ent} (h:be K M P H0 E H) {x:Option V} (m:(x,s)∈E) (e:slD s=some d):∃ v,x=some v∧Vw K (Nw M E) H v d:=by
 cases s with
 | fr d' =>
  cases e
  obtain ⟨v,e1,dn⟩:=h.fr _ _ m
  exact ⟨v,e1,.dn dn⟩
 | ow ds =>
  cases e
  obtain ⟨a,vs,e1,e2,dn,_⟩:=h.ow _ _ m
  exact ⟨_,e1,.ow e2 dn⟩
 | io ds =>
  cases e
  obtain ⟨a,vs,e1,e2,dn,_⟩:=h.io _ _ m
  exact ⟨_,e1,.ow e2 dn⟩
 | un=>cases e
 | vw i=>cases e
 | tr S d' =>
  cases d' with
  | dict kvs =>
   cases e
   obtain ⟨v,e1,ot,_⟩:=h.tr _ _ _ m
   exact ⟨v,e1,ot.dict_view⟩
  | _=>cases e
theorem Rel.there (h:Rel K M P H0 σ0 σ env ts H) {i:Nat} (e:(env[i]?).bind slD=some d):∃ v,σ[i]? = some (some v)∧Vw K (Nw M (ay σ env ts)) H v d:=by
 cases q:env[i]? with
 | none=>rw[q] at e;cases e
 | some s =>
  rw [q] at e
  obtain ⟨x,e1,m⟩:=h.slot q
  obtain ⟨v,e2,w⟩:=h.e.viewE m e
  exact ⟨v,by rw[e1,e2],w⟩
theorem Rel.view (h:Rel K M P H0 σ0 σ env ts H) (m:(v,s)∈ts) (e:aH env s=some d):Vw K (Nw M (ay σ env ts)) H v d:=by
 cases s with
 | vw i =>
  obtain ⟨w,e1,q⟩:=h.there e
  rw [h.vw v i m] at e1
  cases e1
  exact q
 | un=>cases e
 | tr S d' =>
  cases d' with
  | dict kvs=>obtain⟨w,e1,q⟩:=h.e.viewE (s:=.tr S (.dict kvs)) (dj m) e;cases e1;exact q
  | _=>cases e
 | fr d'=>obtain⟨w,e1,q⟩:=h.e.viewE (dj m) e;cases e1;exact q
 | ow d'=>obtain⟨w,e1,q⟩:=h.e.viewE (dj m) e;cases e1;exact q
 | io d'=>obtain⟨w,e1,q⟩:=h.e.viewE (dj m) e;cases e1;exact q
theorem fe {E B:List Ent}{b:Addr} (h:Nw M E b):Nw M (E++B) b:=by
 rcases h with h|h
 ·exact .inl h
 ·exact .inr (by rw[ae];exact DP _ h)
theorem Rel.drop (h:Rel K M P H0 σ0 σ env (ts++tt) H):Rel K M P H0 σ0 σ env ts H :=
 ⟨by have:=h.e;rw[ax] at this;exact this.drop,h.len,fun v i m=>h.vw v i (DP _ m),h.ios⟩
theorem Rel.same (h:Rel K M P H0 σ0 σ env ts H) (k:aO H H'):Rel K M P H0 σ0 σ env ts H':=⟨h.e.same k,h.len,h.vw,h.ios⟩
theorem Rel.addFr (h:Rel K M P H0 σ0 σ env ts H) (dn:DN K (Nw M (ay σ env ts)) H v d):Rel K M P H0 σ0 σ env (ts++[(v,.fr d)]) H :=
 ⟨by rw[ax];exact h.e.addFr dn,h.len,(fun w i m=>by
  rcases DQ.mp m with m|m
  ·exact h.vw w i m
  ·rw [DM] at m;cases m),h.ios⟩
theorem Rel.addVw (h:Rel K M P H0 σ0 σ env ts H) {i:Nat} (e:σ[i]? = some (some v)):Rel K M P H0 σ0 σ env (ts++[(v,.vw i)]) H :=
 ⟨by rw[ax];exact h.e.addVw,h.len,(fun w i m=>by
  rcases DQ.mp m with m|m
  ·exact h.vw w i m
  ·rw [DM] at m;cases m;exact e),h.ios⟩
theorem Rel.addOw (h:Rel K M P H0 σ0 σ env ts H) {p:Addr}{vs:List V}{ds:List PyData} (hp:H p=none) (dns:DNs K (Nw M (ay σ env ts)) H vs ds):Rel K M P H0 σ0 σ env (ts++[(.ref p,.ow ds)]) (upd H p (.lst vs)) :=
 ⟨by rw[ax];exact h.e.addOw hp dns,h.len,(fun w i m=>by
  rcases DQ.mp m with m|m
  ·exact h.vw w i m
  ·rw [DM] at m;cases m),h.ios⟩
theorem Rel.res (h:Rel K M P H0 σ0 σ env (ts++tt) H) (k:aO H H') (dn:DN K (Nw M (ay σ env (ts++tt))) H' v d):Rel K M P H0 σ0 σ env (ts++[(v,.fr d)]) H' :=
 (h.drop.same k).addFr (dn.to fun b _ _ z=>by rw[ax];exact fe z)
theorem Rel.resOw (h:Rel K M P H0 σ0 σ env (ts++tt) H) {p:Addr}{vs:List V}{ds:List PyData} (hp:H p=none) (dns:DNs K (Nw M (ay σ env (ts++tt))) H vs ds):Rel K M P H0 σ0 σ env (ts++[(.ref p,.ow ds)]) (upd H p (.lst vs)) :=
 h.drop.addOw hp (dns.to fun b _ _ z=>by rw[ax];exact fe z)
end
noncomputable abbrev DE:=List Sl→(Sl→List Sl→Prop)→Prop
noncomputable abbrev DT:=List Sl→(Bool→List Sl→Prop)→Prop
noncomputable abbrev DA:=List Sl→(List Sl→List Sl→Prop)→Prop
structure Wn {α:Type} (a:α):Type
noncomputable def dK (R:Sl→List Sl→Prop) (_:Wn R):Sl→List Sl→Prop:=R
theorem vQ (R:Sl→List Sl→Prop) (w:Wn R) (s:Sl) (env:List Sl):dK R w s env=R s env:=rfl
noncomputable def dI (W:List Sl→Prop) (_:Wn W):List Sl→Prop:=W
theorem AM (W:List Sl→Prop) (w:Wn W) (env:List Sl):dI W w env=W env:=rfl
noncomputable abbrev Wk (G Q:Prop):Prop:=(G→Q)→(Q→G)→Q→G
theorem yN {c:Bool}{p A A' B B':Prop} [Decidable p] (e:c=decide p) (a:A'→A) (b:B'→B) (h:if p then A' else B'):if c=true then A else B:=by
 subst e
 by_cases q:p
 ·rw [if_pos q] at h
  rw [if_pos (decide_eq_true q)]
  exact a h
 ·rw [if_neg q] at h
  rw [if_neg fun z=>q (of_decide_eq_true z)]
  exact b h
inductive up (K:PySem.W.Frag) (t:DE) (σ:St) (H:Hp) (Q:VK):Prop
 | mk (M P:Addr→Prop) (H0:Hp) (σ0:St) (env:List Sl) (ts:List (V×Sl)) (R:Sl→List Sl→Prop):Rel K M P H0 σ0 σ env ts H→t env R →
 (∀ s env' v H',R s env'→Rel K M P H0 σ0 σ env' (ts++[(v,s)]) H'→Q v H')→up K t σ H Q
inductive upT (K:PySem.W.Frag) (t:DT) (σ:St) (H:Hp) (Q:Bool→Hp→Prop):Prop
 | mk (M P:Addr→Prop) (H0:Hp) (σ0:St) (env:List Sl) (ts:List (V×Sl)) (R:Bool→List Sl→Prop):Rel K M P H0 σ0 σ env ts H→t env R →
 (∀ b env' H',R b env'→Rel K M P H0 σ0 σ env' ts H'→Q b H')→upT K t σ H Q
inductive upA (K:PySem.W.Frag) (t:DA) (σ:St) (H:Hp) (Q:List V→Hp→Prop):Prop
 | mk (M P:Addr→Prop) (H0:Hp) (σ0:St) (env:List Sl) (ts:List (V×Sl)) (R:List Sl→List Sl→Prop):Rel K M P H0 σ0 σ env ts H→t env R →
 (∀ ss env' vs H',R ss env'→vs.length=ss.length→Rel K M P H0 σ0 σ env' (ts++vs.zip ss) H'→Q vs H')→upA K t σ H Q
theorem PE.imp {X:Cx}{e:Expr}{t t':TE} (h:PE X e t) (k:∀ σ H Q,t' σ H Q→t σ H Q):PE X e t':=fun pins s σ H Q I hw=>h pins s σ H Q I (k σ H Q hw)
theorem PT.imp {X:Cx}{e:Expr}{t t':TT} (h:PT X e t) (k:∀ σ H Q,t' σ H Q→t σ H Q):PT X e t':=fun pins s σ H Q I hw=>h pins s σ H Q I (k σ H Q hw)
theorem PW.imp {X:Cx}{e:Expr}{t t':TT} (h:PW X e t) (k:∀ σ H Q,t' σ H Q→t σ H Q):PW X e t':=fun wh pins s σ H Q I hw=>h wh pins s σ H Q I (k σ H Q hw)
theorem PA.imp {X:Cx}{e:List Expr}{t t':TA} (h:PA X e t) (k:∀ σ H Q,t' σ H Q→t σ H Q):PA X e t':=fun pos pins s σ H Q I hw=>h pos pins s σ H Q I (k σ H Q hw)
section
variable {X:Cx}{K:PySem.W.Frag}{pos:Pos}{a b c:Expr}{ta tb tc:DE}{es:List Expr}{tA tB':DT}{tl:DA}
noncomputable def A8 (i:Nat):DE:=fun env R=>∃ d,(env[i]?).bind slD=some d∧R (.vw i) env
theorem qv (i:Nat) {x:Str} (hN:X.N[i]? = some x:=by rfl) (hv:Vis X.env.scope x:=by first|exact Or.inl rfl|exact Or.inr (Or.inl rfl)|exact Or.inr (Or.inr rfl)) (hd:(x==("__debug__" : Str))=false:=by decide)
  (hcd:(x==("__classdict__" : Str))=false:=by decide):PE X (.Name x pos) (up K (A8 i)):=(c8 hN hv hd hcd).imp fun σ H Q h=>by
 obtain ⟨M,P,H0,σ0,env,ts,R,rel,⟨d,e,hR⟩,hq⟩:=h
 obtain ⟨v,e1,_⟩:=rel.there e
 exact ⟨v,e1,hq _ _ _ _ hR (rel.addVw e1)⟩
theorem d6 {α:Type}:∀ {l:List α}{i:Nat}{x:α},l[i]? = some x→∃ A B,l=A++x::B∧∀ y,l.set i y=A++y::B
 | [],i,x,h=>by simp at h
 | z::l,0,x,h=>by
  simp at h
  subst h
  exact ⟨[],l,rfl,fun y=>rfl⟩
 | z::l,i+1,x,h=>by
  obtain ⟨A,B,e1,e2⟩:=d6 (l:=l) (i:=i) (x:=x) (by simpa using h)
  exact ⟨z::A,B,by rw[e1];rfl,fun y=>by rw[List.set_cons_succ,e2 y];rfl⟩
theorem dc {α β:Type} (l:List α) (m:List β) (j:Nat):(l.zip m)[j]? = (l[j]?).bind fun a=>(m[j]?).map fun b=>(a,b):=by
 rw [List.zip,List.getElem?_zipWith]
 cases l[j]? <;> cases m[j]? <;> rfl
theorem pb {σ:St}{env:List Sl}{i:Nat}{x:Option V}{s':Sl} (h:σ[i]? = some x):σ.zip (env.set i s')=(σ.zip env).set i (x,s'):=by
 apply List.ext_getElem?
 intro j
 by_cases hj:i=j
 ·subst hj
  rw [E9,dc,dc,h]
  by_cases hi:i<env.length
  ·rw [Eg hi,DR hi]
   rfl
  ·rw [List.getElem?_eq_none (by simp;omega),List.getElem?_eq_none (by omega)]
   rfl
 ·rw [Ef hj,dc,dc,Ef hj]
theorem Rel.split {M P:Addr→Prop}{H0 H:Hp}{σ0 σ:St}{env:List Sl}{ts:List (V×Sl)}{i:Nat}{s:Sl} (h:Rel K M P H0 σ0 σ env ts H) (e:env[i]? = some s) :
  ∃ x A B,σ[i]? = some x∧ay σ env ts=A++(x,s)::B∧∀ s',ay σ (env.set i s') ts=A++(x,s')::B:=by
 obtain ⟨x,e1,m⟩:=pc h.len e
 have ez:(σ.zip env)[i]? = some (x,s):=by rw[List.zip,List.getElem?_zipWith,e1,e]
 obtain ⟨A,B,q1,q2⟩:=d6 ez
 refine ⟨x,A,B++tmp ts,e1,by unfold ay;rw[q1];simp,fun s'=>?_⟩
 unfold ay
 rw [pb e1,q2]
 simp
noncomputable def yE (i:Nat):DE:=fun env R=>match env[i]? with
 | some (.fr d)=>R (.fr d) env
 | some (.tr _ d)=>R (.fr d) (env.set i (.fr d))
 | some (.ow ds)=>R (.fr (.list ds)) (env.set i (.fr (.list ds)))
 | _=>False
theorem Rel.frz {M P:Addr→Prop}{H0 H:Hp}{σ0 σ:St}{env:List Sl}{ts:List (V×Sl)}{i:Nat}{ds:List PyData} (h:Rel K M P H0 σ0 σ env ts H) (e:env[i]? = some (.ow ds)):Rel K M P H0 σ0 σ (env.set i (.fr (.list ds))) ts H:=by
 obtain ⟨x,A,B,e1,q1,q2⟩:=h.split e
 have r:=h.e
 rw [q1] at r
 obtain ⟨a,vs,z,_⟩:=r.ow _ _ (DL _ DY)
 subst z
 refine ⟨by rw[q2];exact r.freeze,by simp[h.len],h.vw,fun j ds' e'=>?_⟩
 by_cases hj:i=j
 ·subst hj
  have hi:i<env.length:=(DX.mp e).1
  rw [Eg hi] at e'
  cases e'
 ·rw [Ef hj] at e'
  exact h.ios j ds' e'
theorem Rel.frzT {M P:Addr→Prop}{H0 H:Hp}{σ0 σ:St}{env:List Sl}{ts:List (V×Sl)}{i:Nat}{S:List Addr}{d:PyData} (h:Rel K M P H0 σ0 σ env ts H) (e:env[i]? = some (.tr S d)):Rel K M P H0 σ0 σ (env.set i (.fr d)) ts H:=by
 obtain ⟨x,A,B,e1,q1,q2⟩:=h.split e
 have r:=h.e
 rw [q1] at r
 obtain ⟨v,z,_⟩:=r.tr _ _ _ (DL _ DY)
 subst z
 refine ⟨by rw[q2];exact r.freezeT,by simp[h.len],h.vw,fun j ds' e'=>?_⟩
 by_cases hj:i=j
 ·subst hj
  have hi:i<env.length:=(DX.mp e).1
  rw [Eg hi] at e'
  cases e'
 ·rw [Ef hj] at e'
  exact h.ios j ds' e'
theorem qf (i:Nat) {x:Str} (hN:X.N[i]? = some x:=by rfl) (hv:Vis X.env.scope x:=by first|exact Or.inl rfl|exact Or.inr (Or.inl rfl)|exact Or.inr (Or.inr rfl)) (hd:(x==("__debug__" : Str))=false:=by decide)
  (hcd:(x==("__classdict__" : Str))=false:=by decide):PE X (.Name x pos) (up K (yE i)):=(c8 hN hv hd hcd).imp fun σ H Q h=>by
 obtain ⟨M,P,H0,σ0,env,ts,R,rel,ht,hq⟩:=h
 have key:∀ env' d,Rel K M P H0 σ0 σ env' ts H→env'[i]? = some (.fr d)→R (.fr d) env'→Bl i σ H Q:=fun env' d rel' e' hR=>by
  obtain ⟨x',e1,m⟩:=rel'.slot e'
  obtain ⟨v,e2,dn⟩:=rel'.e.fr _ _ m
  subst e2
  exact ⟨v,e1,hq _ _ _ _ hR (rel'.addFr dn)⟩
 unfold yE at ht
 split at ht
 ·rename_i d e
  exact key env d rel e ht
 ·rename_i S d e
  have hi:i<env.length:=(DX.mp e).1
  exact key _ _ (rel.frzT e) (Eg hi) ht
 ·rename_i ds e
  have hi:i<env.length:=(DX.mp e).1
  exact key _ _ (rel.frz e) (Eg hi) ht
 ·exact ht.elim
noncomputable def dC (d:PyData):DE:=fun env R=>R (.fr d) env
theorem ah {i j}:PE X (.Constant (.int i) j pos) (up K (dC (.int i))):=mJ.imp fun σ H Q h=>by
 obtain ⟨M,P,H0,σ0,env,ts,R,rel,ht,hq⟩:=h
 exact hq _ _ _ _ ht (rel.addFr (.int i))
theorem wM {i j}:PE X (.Constant (.bool i) j pos) (up K (dC (.bool i))):=BO.imp fun σ H Q h=>by
 obtain ⟨M,P,H0,σ0,env,ts,R,rel,ht,hq⟩:=h
 exact hq _ _ _ _ ht (rel.addFr (.bl i))
theorem pQ {j}:PE X (.Constant .none j pos) (up K (dC .none)):=zI.imp fun σ H Q h=>by
 obtain ⟨M,P,H0,σ0,env,ts,R,rel,ht,hq⟩:=h
 exact hq _ _ _ _ ht (rel.addFr .non)
noncomputable abbrev G2:=PyData→PyData→(PyData→Prop)→Prop
noncomputable def dOp (g:G2) (ta tb:DE):DE:=fun env R=>ta env fun s1 env1=>tb env1 fun s2 env2=>∃ d1 d2,aH env2 s1=some d1∧aH env2 s2=some d2∧g d1 d2 fun d=>R (.fr d) env2
noncomputable def bX (K:PySem.W.Frag) (r:R2) (g:G2):Prop:=∀ (N:Addr→Prop) (H:Hp) (x y:V) (d1 d2:PyData) (R:PyData→Prop) (Q:VK),Vw K N H x d1→Vw K N H y d2→g d1 d2 R→(∀ d v,R d→DN K N H v d→Q v H)→r x y H Q
theorem tq {r:R2}{g:G2} (m:bX K r g):∀ σ H Q,up K (dOp g ta tb) σ H Q→tOp r (up K ta) (up K tb) σ H Q:=fun σ H Q h=>by
 obtain ⟨M,P,H0,σ0,env,ts,R,rel,ht,hq⟩:=h
 refine ⟨M,P,H0,σ0,env,ts,_,rel,ht,fun s1 env1 v1 H1 h1 rel1=>⟨M,P,H0,σ0,env1,ts++[(v1,s1)],_,rel1,h1,fun s2 env2 v2 H2 h2 rel2=>?_⟩⟩
 obtain ⟨d1,d2,e1,e2,g⟩:=h2
 refine m _ H2 v1 v2 d1 d2 _ Q (rel2.view (by simp) e1) (rel2.view (by simp) e2) g fun d v hR dn=>hq _ _ _ _ hR ?_
 have rel2':Rel K M P H0 σ0 σ env2 (ts++[(v1,s1),(v2,s2)]) H2:=by simpa using rel2
 exact rel2'.res (aO.refl _) (by simpa using dn)
theorem bA {op:Operator}{r:R2}{g:G2} (ho:OpR X (binaryOp op) r) (m:bX K r g) (ha:PE X a (up K ta)) (hb:PE X b (up K tb)):PE X (.BinOp a op b pos) (up K (dOp g ta tb)):=(xb ho ha hb).imp (tq m)
theorem kQ {op:CmpOp}{r:R2}{g:G2} (ho:OpR X (compareOp op) r) (m:bX K r g) (ha:PE X a (up K ta)) (hb:PE X b (up K tb)) (hm:behindInMarks op b=false):PE X (.Compare a [op] [b] pos) (up K (dOp g ta tb)):=(xh ho ha hb hm).imp (tq m)
noncomputable def oR (t:DE):DT:=fun env R=>t env fun s env1=>∃ k,aH env1 s=some (.bool k)∧R k env1
theorem pk {t:TE}{td:DE} (h:∀ σ H Q,up K td σ H Q→t σ H Q):∀ σ H Q,upT K (oR td) σ H Q→yT t σ H Q:=fun σ H Q hh=>by
 obtain ⟨M,P,H0,σ0,env,ts,R,rel,ht,hq⟩:=hh
 refine h σ H _ ⟨M,P,H0,σ0,env,ts,_,rel,ht,fun s1 env1 v1 H1 h1 rel1=>?_⟩
 obtain ⟨k,e,hR⟩:=h1
 exact ⟨k,(rel1.view (by simp) e).bool,hq _ _ _ hR rel1.drop⟩
theorem aZ {op:CmpOp}{r:R2}{g:G2} (ho:OpR X (compareOp op) r) (m:bX K r g) (ha:PE X a (up K ta)) (hb:PE X b (up K tb)) (hm:behindInMarks op b=false):PT X (.Compare a [op] [b] pos) (upT K (oR (dOp g ta tb))):=(wP ho ha hb hm).imp (pk (tq m))
theorem bT {r:R2}{g:G2} (hr:IxR X r) (m:bX K r g) (ha:PE X a (up K ta)) (hb:PE X b (up K tb)) (hs:eV b):PE X (.Subscript a b pos) (up K (dOp g ta tb)):=(qc hr ha hb hs).imp (tq m)
theorem mC {e:Expr}{t:DE} (h:PE X e (up K t)) (he:∀ whole,isTrue e X.env whole=(do let v ←whole;standAt e.pos;holding [v] (truthy v)):=by intro _;rfl):PT X e (upT K (oR t)):=(zw h he).imp (pk fun _ _ _ h=>h)
noncomputable def Cp (t u:DT):DT:=fun env R=>t env fun k env1=>if k=true then u env1 R else R false env1
noncomputable def dOr (t u:DT):DT:=fun env R=>t env fun k env1=>if k=true then R true env1 else u env1 R
noncomputable def Bc (t:DT):DT:=fun env R=>t env fun k env1=>R (!k) env1
theorem wC (ha:PT X a (upT K tA)):PW X (.BoolOp .And [a] pos) (upT K tA):=wN ha
theorem vc (ha:PT X a (upT K tA)):PW X (.BoolOp .Or [a] pos) (upT K tA):=zu ha
theorem y8 (ha:PT X a (upT K tA)) (hb:PW X (.BoolOp .And (b::es) pos) (upT K tB')):PW X (.BoolOp .And (a::b::es) pos) (upT K (Cp tA tB')):=(zv ha hb).imp fun σ H Q h=>by
 obtain ⟨M,P,H0,σ0,env,ts,R,rel,ht,hq⟩:=h
 refine ⟨M,P,H0,σ0,env,ts,_,rel,ht,fun k env1 H1 h1 rel1=>?_⟩
 cases k with
 | true=>exact⟨M,P,H0,σ0,env1,ts,R,rel1,h1,hq⟩
 | false=>exact hq _ _ _ h1 rel1
theorem y7 (ha:PT X a (upT K tA)) (hb:PW X (.BoolOp .Or (b::es) pos) (upT K tB')):PW X (.BoolOp .Or (a::b::es) pos) (upT K (dOr tA tB')):=(BL ha hb).imp fun σ H Q h=>by
 obtain ⟨M,P,H0,σ0,env,ts,R,rel,ht,hq⟩:=h
 refine ⟨M,P,H0,σ0,env,ts,_,rel,ht,fun k env1 H1 h1 rel1=>?_⟩
 cases k with
 | false=>exact⟨M,P,H0,σ0,env1,ts,R,rel1,h1,hq⟩
 | true=>exact hq _ _ _ h1 rel1
theorem mD (ha:PT X a (upT K tA)):PT X (.UnaryOp .Not a pos) (upT K (Bc tA)):=(zx ha).imp fun σ H Q h=>by
 obtain ⟨M,P,H0,σ0,env,ts,R,rel,ht,hq⟩:=h
 exact ⟨M,P,H0,σ0,env,ts,_,rel,ht,fun k env1 H1 h1 rel1=>hq _ _ _ h1 rel1⟩
noncomputable def yt (t u:DE):DE:=fun env R=>t env fun s env1=>∃ k,aH env1 s=some (.bool k)∧if k=true then u env1 R else R (.fr (.bool false)) env1
noncomputable def Cm (t u:DE):DE:=fun env R=>t env fun s env1=>∃ k,aH env1 s=some (.bool k)∧if k=true then R (.fr (.bool true)) env1 else u env1 R
noncomputable def yk (t:DE):DE:=fun env R=>t env fun s env1=>∃ k,aH env1 s=some (.bool k)∧R (.fr (.bool (!k))) env1
theorem zo {op} (h:PE X a (up K ta)):PE X (.BoolOp op [a] pos) (up K ta):=zG h
theorem BK (ha:PE X a (up K ta)) (hb:PE X (.BoolOp .And (b::es) pos) (up K tb)):PE X (.BoolOp .And (a::b::es) pos) (up K (yt ta tb)):=(zL ha hb).imp fun σ H Q h=>by
 obtain ⟨M,P,H0,σ0,env,ts,R,rel,ht,hq⟩:=h
 refine ⟨M,P,H0,σ0,env,ts,_,rel,ht,fun s1 env1 v1 H1 h1 rel1=>?_⟩
 obtain ⟨k,e,h1⟩:=h1
 refine ⟨k,(rel1.view (by simp) e).bool,?_⟩
 cases k with
 | true=>exact⟨M,P,H0,σ0,env1,ts,R,rel1.drop,h1,hq⟩
 | false=>exact hq _ _ _ _ h1 (rel1.drop.addFr (.bl false))
theorem Dc (ha:PE X a (up K ta)) (hb:PE X (.BoolOp .Or (b::es) pos) (up K tb)):PE X (.BoolOp .Or (a::b::es) pos) (up K (Cm ta tb)):=(BM ha hb).imp fun σ H Q h=>by
 obtain ⟨M,P,H0,σ0,env,ts,R,rel,ht,hq⟩:=h
 refine ⟨M,P,H0,σ0,env,ts,_,rel,ht,fun s1 env1 v1 H1 h1 rel1=>?_⟩
 obtain ⟨k,e,h1⟩:=h1
 refine ⟨k,(rel1.view (by simp) e).bool,?_⟩
 cases k with
 | false=>exact⟨M,P,H0,σ0,env1,ts,R,rel1.drop,h1,hq⟩
 | true=>exact hq _ _ _ _ h1 (rel1.drop.addFr (.bl true))
theorem BH (ha:PE X a (up K ta)):PE X (.UnaryOp .Not a pos) (up K (yk ta)):=(zH ha).imp fun σ H Q h=>by
 obtain ⟨M,P,H0,σ0,env,ts,R,rel,ht,hq⟩:=h
 refine ⟨M,P,H0,σ0,env,ts,_,rel,ht,fun s1 env1 v1 H1 h1 rel1=>?_⟩
 obtain ⟨k,e,h1⟩:=h1
 exact ⟨k,(rel1.view (by simp) e).bool,hq _ _ _ _ h1 (rel1.drop.addFr (.bl _))⟩
noncomputable def dIf (t:DT) (ta tb:DE):DE:=fun env R=>t env fun k env1=>if k=true then ta env1 R else tb env1 R
theorem pR (hc:PT X c (upT K tA)) (ha:PE X a (up K ta)) (hb:PE X b (up K tb)):PE X (.IfExp c a b pos) (up K (dIf tA ta tb)):=(tm hc ha hb).imp fun σ H Q h=>by
 obtain ⟨M,P,H0,σ0,env,ts,R,rel,ht,hq⟩:=h
 refine ⟨M,P,H0,σ0,env,ts,_,rel,ht,fun k env1 H1 h1 rel1=>?_⟩
 cases k with
 | true=>exact⟨M,P,H0,σ0,env1,ts,R,rel1,h1,hq⟩
 | false=>exact⟨M,P,H0,σ0,env1,ts,R,rel1,h1,hq⟩
noncomputable def nA (g g':G2) (ta tb tc:DE):DE:=fun env R=>ta env fun s1 env1=>tb env1 fun s2 env2=>∃ d1 d2,aH env2 s1=some d1∧aH env2 s2=some d2∧g d1 d2 fun d=>∃ k,d=.bool k ∧
 if k=true then tc env2 fun s3 env3=>∃ d2' d3,aH env3 s2=some d2'∧aH env3 s3=some d3∧g' d2' d3 fun d'=>R (.fr d') env3 else R (.fr (.bool false)) env2
theorem uB {r r':R2}{g g':G2} (m:bX K r g) (m':bX K r' g'):∀ σ H Q,up K (nA g g' ta tb tc) σ H Q→uR r r' (up K ta) (up K tb) (up K tc) σ H Q:=fun σ H Q h=>by
 obtain ⟨M,P,H0,σ0,env,ts,R,rel,ht,hq⟩:=h
 refine ⟨M,P,H0,σ0,env,ts,_,rel,ht,fun s1 env1 v1 H1 h1 rel1=>⟨M,P,H0,σ0,env1,ts++[(v1,s1)],_,rel1,h1,fun s2 env2 v2 H2 h2 rel2=>?_⟩⟩
 obtain ⟨d1,d2,e1,e2,g⟩:=h2
 have rel2':Rel K M P H0 σ0 σ env2 (ts++[(v1,s1),(v2,s2)]) H2:=by simpa using rel2
 refine m _ H2 v1 v2 d1 d2 _ _ (rel2.view (by simp) e1) (rel2.view (by simp) e2) g fun d v hR dn=>?_
 obtain ⟨k,rfl,hR⟩:=hR
 cases dn
 refine ⟨k,rfl,?_⟩
 cases k with
 | false=>exact hq _ _ _ _ hR (rel2'.drop.addFr (.bl false))
 | true =>
  refine ⟨M,P,H0,σ0,env2,ts++[(v1,s1),(v2,s2)],_,rel2',hR,fun s3 env3 v3 H3 h3 rel3=>?_⟩
  obtain ⟨d2',d3,e2',e3,g'⟩:=h3
  refine m' _ H3 v2 v3 d2' d3 _ Q (rel3.view (by simp) e2') (rel3.view (by simp) e3) g' fun d v hR dn=>hq _ _ _ _ hR ?_
  have rel3':Rel K M P H0 σ0 σ env3 (ts++[(v1,s1),(v2,s2),(v3,s3)]) H3:=by simpa using rel3
  exact rel3'.res (aO.refl _) (by simpa using dn)
theorem wJ {op op':CmpOp}{r r':R2}{g g':G2} (ho:OpR X (compareOp op) r) (m:bX K r g) (ho':OpR X (compareOp op') r') (m':bX K r' g') (ha:PE X a (up K ta)) (hb:PE X b (up K tb)) (hc:PE X c (up K tc))
  (hm:lastMarks [op,op'] [b,c]=false:=by with_unfolding_all rfl):PE X (.Compare a [op,op'] [b,c] pos) (up K (nA g g' ta tb tc)):=(tp ho ho' ha hb hc hm).imp (uB m m')
noncomputable abbrev G1:=PyData→(PyData→Prop)→Prop
noncomputable def dUn (g:G1) (ta:DE):DE:=fun env R=>ta env fun s1 env1=>∃ d1,aH env1 s1=some d1∧g d1 fun d=>R (.fr d) env1
theorem AY {op:UnaryOp}{r:V→Hp→VK→Prop}{g:G1} (ho:UnR X (unaryOp op) r) (m:∀ (N:Addr→Prop) (H:Hp) (x:V) (d1:PyData) (R:PyData→Prop) (Q:VK),Vw K N H x d1→g d1 R→(∀ d v,R d→DN K N H v d→Q v H)→r x H Q)
  (ha:PE X a (up K ta)):PE X (.UnaryOp op a pos) (up K (dUn g ta)):=(zE ho ha).imp fun σ H Q h=>by
 obtain ⟨M,P,H0,σ0,env,ts,R,rel,ht,hq⟩:=h
 refine ⟨M,P,H0,σ0,env,ts,_,rel,ht,fun s1 env1 v1 H1 h1 rel1=>?_⟩
 obtain ⟨d1,e1,g⟩:=h1
 exact m _ H1 v1 d1 _ Q (rel1.view (by simp) e1) g fun d v hR dn=>hq _ _ _ _ hR (rel1.res (aO.refl _) dn)
noncomputable def Bd:DA:=fun env R=>R [] env
noncomputable def uy (t:DE) (u:DA):DA:=fun env R=>t env fun s env1=>u env1 fun ss env2=>R (s::ss) env2
theorem ac:PA X [] (upA K Bd):=jy.imp fun σ H Q h=>by
 obtain ⟨M,P,H0,σ0,env,ts,R,rel,ht,hq⟩:=h
 exact hq [] env [] H ht rfl (by simpa using rel)
theorem aa (ha:PE X a (up K ta)) (hr:PA X es (upA K tl)) (hs:starEach (a::es) X.env=(false,eval a X.env)::starEach es X.env:=by rfl):PA X (a::es) (upA K (uy ta tl)):=(eJ ha hr hs).imp fun σ H Q h=>by
 obtain ⟨M,P,H0,σ0,env,ts,R,rel,ht,hq⟩:=h
 refine ⟨M,P,H0,σ0,env,ts,_,rel,ht,fun s1 env1 v1 H1 h1 rel1=>⟨M,P,H0,σ0,env1,ts++[(v1,s1)],_,rel1,h1,fun ss env2 vs H2 h2 hl rel2=>?_⟩⟩
 exact hq (s1::ss) env2 (v1::vs) H2 h2 (by simp[hl]) (by simpa using rel2)
end
section
variable {K:PySem.W.Frag}{M P N:Addr→Prop}{H0 H H':Hp}{σ0 σ:St}{env:List Sl}{ts tt:List (V×Sl)}{v:V}{s:Sl}{d:PyData}
noncomputable def gI (f:Int→Int→Int):G2:=fun d e R=>∃ i j,d=.int i∧e=.int j∧R (.int (f i j))
noncomputable def gIC (C:Int→Int→Prop) (f:Int→Int→Int):G2:=fun d e R=>∃ i j,d=.int i∧e=.int j∧C i j∧R (.int (f i j))
noncomputable def gB (f:Int→Int→Bool):G2:=fun d e R=>∃ i j,d=.int i∧e=.int j∧R (.bool (f i j))
theorem mI {f:Int→Int→Int}:bX K (rI0 fun i j=>.int (f i j)) (gI f):=by
 rintro N H x y d e R Q w1 w2 ⟨i,j,rfl,rfl,hR⟩ hq
 exact ⟨i,j,w1.int,w2.int,hq _ _ hR (.int _)⟩
theorem mIC {C:Int→Int→Prop}{f:Int→Int→Int}:bX K (rI C fun i j=>.int (f i j)) (gIC C f):=by
 rintro N H x y d e R Q w1 w2 ⟨i,j,rfl,rfl,hC,hR⟩ hq
 exact ⟨i,j,w1.int,w2.int,hC,hq _ _ hR (.int _)⟩
theorem mB {f:Int→Int→Bool}:bX K (rI0 fun i j=>.bl (f i j)) (gB f):=by
 rintro N H x y d e R Q w1 w2 ⟨i,j,rfl,rfl,hR⟩ hq
 exact ⟨i,j,w1.int,w2.int,hq _ _ hR (.bl _)⟩
theorem yB:bX K rEq (gB fun i j=>decide (i=j)):=by
 rintro N H x y d e R Q w1 w2 ⟨i,j,rfl,rfl,hR⟩ hq
 rw [w1.int,w2.int]
 refine ⟨rfl,?_⟩
 have q:=hq _ _ hR (.bl _)
 rwa [show decide (V.int i=V.int j)=decide (i=j) by simp]
noncomputable def gBB (f:Bool→Bool→Bool):G2:=fun d e R=>∃ i j,d=.bool i∧e=.bool j∧R (.bool (f i j))
theorem BT:bX K rNe (gBB fun i j=>!decide (i=j)):=by
 rintro N H x y d e R Q w1 w2 ⟨i,j,rfl,rfl,hR⟩ hq
 rw [w1.bool,w2.bool]
 refine ⟨rfl,?_⟩
 have q:=hq _ _ hR (.bl _)
 rwa [show decide (V.bl i=V.bl j)=decide (i=j) by simp]
theorem Di:bX K (fun x y H Q=>∃ b c,x=.bl b∧y=.bl c∧Q (.bl (b==c)) H) (gBB fun i j=>i==j):=by
 rintro N H x y d e R Q w1 w2 ⟨i,j,rfl,rfl,hR⟩ hq
 exact ⟨i,j,w1.bool,w2.bool,hq _ _ hR (.bl _)⟩
theorem BV:bX K (fun x y H Q=>∃ b c,x=.bl b∧y=.bl c∧Q (.bl (b != c)) H) (gBB fun i j=>i != j):=by
 rintro N H x y d e R Q w1 w2 ⟨i,j,rfl,rfl,hR⟩ hq
 exact ⟨i,j,w1.bool,w2.bool,hq _ _ hR (.bl _)⟩
noncomputable def gEq:G2:=fun d e R=>shp d∧shp e∧R (.bool (PyData.eqv d e))
noncomputable def gNe:G2:=fun d e R=>shp d∧shp e∧R (.bool (!PyData.eqv d e))
theorem mEq:bX K (BF K) gEq:=fun N H x y d e R Q w1 w2 ⟨h1,h2,hR⟩ hq=>⟨d,e,w1.dv,w2.dv,h1,h2,hq _ _ hR (.bl _)⟩
theorem mNe:bX K (BB K) gNe:=fun N H x y d e R Q w1 w2 ⟨h1,h2,hR⟩ hq=>⟨d,e,w1.dv,w2.dv,h1,h2,hq _ _ hR (.bl _)⟩
noncomputable def gv:PyData→Bool
 | .none=>true
 | _=>false
theorem Vw.isNon (w:Vw K N H v d):decide (v=.non)=gv d:=by
 cases w with
 | dn h =>
  cases h with
  | fz h=>obtain⟨a,xs,e,_⟩:=h.list;subst e;simp[gv]
  | _=>simp[gv]
 | ow h q=>simp[gv]
 | dct h q r e=>simp[gv]
noncomputable def A5:G2:=fun d e R=>e=.none∧R (.bool (gv d))
noncomputable def uh:G2:=fun d e R=>e=.none∧R (.bool (!gv d))
theorem Dh:bX K (fun x y H Q=>y=.non∧Q (.bl (decide (x=.non))) H) A5:=by
 rintro N H x y d e R Q w1 w2 ⟨rfl,hR⟩ hq
 exact ⟨w2.none,by rw[w1.isNon];exact hq _ _ hR (.bl _)⟩
theorem zV:bX K (fun x y H Q=>y=.non∧Q (.bl (!decide (x=.non))) H) uh:=by
 rintro N H x y d e R Q w1 w2 ⟨rfl,hR⟩ hq
 exact ⟨w2.none,by rw[w1.isNon];exact hq _ _ hR (.bl _)⟩
noncomputable def dL:PyData→Option (List PyData)
 | .list ds=>some ds
 | .tuple ds=>some ds
 | _=>none
noncomputable def Am:PyData→Option Int
 | .int i=>some i
 | _=>none
noncomputable def bN:List PyData→Option (List Int)
 | []=>some []
 | d::ds=>(Am d).bind fun i=>(bN ds).map (i::·)
theorem bV:∀ ns:List Int,bN (ns.map .int)=some ns
 | []=>rfl
 | n::ns=>by rw[Ec,bN,bV ns];rfl
theorem dP:∀ {ds:List PyData}{ns:List Int},bN ds=some ns→ds=ns.map .int
 | [],ns,h=>by cases h;rfl
 | d::ds,ns,h=>by
  unfold bN at h
  cases d <;> simp[Am] at h
  obtain ⟨ms,h1,rfl⟩:=h
  rw [dP h1];rfl
theorem Vw.seq {ds:List PyData} (w:Vw K N H v d) (e:dL d=some ds):∃ a vs,v=.ref a∧(SqL K H a vs∨SqT K H a vs)∧DNs K N H vs ds:=by
 cases d <;> simp[dL] at e
 ·subst e
  obtain ⟨a,vs,e1,s,q⟩:=w.list
  exact ⟨a,vs,e1,.inl s,q⟩
 ·subst e
  obtain ⟨a,vs,e1,s,q⟩:=w.tuple
  exact ⟨a,vs,e1,.inr s,q⟩
theorem mZ (i:Int) (ns:List Int):inV (.int i) (ns.map V.int)=decide (i∈ns):=by
 unfold inV
 induction ns with
 | nil=>rfl
 | cons n r ih =>
  rw [Ec,List.any_cons,ih]
  have:eqV (.int n) (.int i)=decide (n=i):=(show eqV (.int n) (.int i)=(n==i) from rfl).trans (by rw[EV];simp)
  rw [this]
  by_cases h1:n=i
  ·simp [h1]
  ·have:¬i=n:=fun z=>h1 z.symm
   simp [h1,this]
theorem j4 (ns:List Int):(ns.map V.int).all iT=true:=by
 rw [E7]
 intro x hx
 obtain ⟨n,_,rfl⟩:=D4.mp hx
 rfl
noncomputable def gIn:G2:=fun d e R=>∃ i ds ns,d=.int i∧dL e=some ds∧bN ds=some ns∧R (.bool (decide (i∈ns)))
noncomputable def m8:G2:=fun d e R=>∃ i ds ns,d=.int i∧dL e=some ds∧bN ds=some ns∧R (.bool (!decide (i∈ns)))
theorem mIn:bX K (rIn K false) gIn:=by
 rintro N H x y d e R Q w1 w2 ⟨i,ds,ns,rfl,e1,e2,hR⟩ hq
 obtain ⟨a,vs,rfl,s,q⟩:=w2.seq e1
 rw [dP e2] at q
 rw [q.ints] at s
 rw [w1.int]
 refine ⟨a,_,rfl,s,rfl,j4 ns,?_⟩
 rw [mZ]
 exact hq _ _ hR (.bl _)
theorem zW:bX K (rIn K true) m8:=by
 rintro N H x y d e R Q w1 w2 ⟨i,ds,ns,rfl,e1,e2,hR⟩ hq
 obtain ⟨a,vs,rfl,s,q⟩:=w2.seq e1
 rw [dP e2] at q
 rw [q.ints] at s
 rw [w1.int]
 refine ⟨a,_,rfl,s,rfl,j4 ns,?_⟩
 rw [mZ]
 exact hq _ _ hR (.bl _)
theorem DNs.atI {vs:List V}{ds:List PyData}{i:Int}{e:PyData} (q:DNs K N H vs ds) (h:L2.atI ds i=some e):∃ v,L2.atI vs i=some v∧DN K N H v e:=by
 unfold L2.atI at h ⊢
 rw [q.len]
 cases hj:ixN ds.length i with
 | none=>rw[hj] at h;cases h
 | some j =>
  rw [hj] at h
  have h:ds[j]? = some e:=h
  have hlt:j<vs.length:=by rw[q.len];exact (DX.mp h).1
  obtain ⟨e',h1,h2⟩:=q.get (DR hlt)
  rw [h] at h1
  cases h1
  exact ⟨vs[j],DR hlt,h2⟩
noncomputable def gIx:G2:=fun d e R=>∃ ds i x,dL d=some ds∧e=.int i∧atI ds i=some x∧R x
noncomputable def BD (K:PySem.W.Frag):R2:=fun x y H Q=>CG K x y H Q∨CF K x y H Q
theorem ak {X:Cx} (hK:X.K=K):IxR X (BD K):=by subst hK;exact IxR.or xF Aj
theorem mIx:bX K (BD K) gIx:=by
 rintro N H x y d e R Q w1 w2 ⟨ds,i,z,e1,rfl,e2,hR⟩ hq
 obtain ⟨a,vs,rfl,s,q⟩:=w1.seq e1
 obtain ⟨u,e3,dn⟩:=q.atI e2
 rcases s with s|s
 ·exact .inl ⟨a,vs,i,u,rfl,w2.int,s,e3,hq _ _ hR dn⟩
 ·exact .inr ⟨a,vs,i,u,rfl,w2.int,s,e3,hq _ _ hR dn⟩
inductive Vws (K:PySem.W.Frag) (N:Addr→Prop) (H:Hp):List V→List PyData→Prop
 | nil:Vws K N H [] []
 | cons {v d vs ds}:Vw K N H v d→Vws K N H vs ds→Vws K N H (v::vs) (d::ds)
noncomputable def dW (env:List Sl):List Sl→Option (List PyData)
 | []=>some []
 | s::ss=>(aH env s).bind fun d=>(dW env ss).bind fun ds=>some (d::ds)
theorem Rel.views (h:Rel K M P H0 σ0 σ env ts H):∀ {vs:List V}{ss:List Sl}{ds:List PyData},vs.length=ss.length→(∀ p∈vs.zip ss,p∈ts)→dW env ss=some ds→Vws K (Nw M (ay σ env ts)) H vs ds
 | [],[],_,_,_,e=>by cases e;exact .nil
 | v :: vs,s::ss,ds,hl,hm,e=>by
  unfold dW at e
  cases e1:aH env s with
  | none=>rw[e1] at e;cases e
  | some d =>
   rw [e1] at e
   cases e2:dW env ss with
   | none=>rw[e2] at e;cases e
   | some ds' =>
    rw [e2] at e
    cases e
    exact .cons (h.view (hm _ (by simp)) e1) (h.views (by simpa using hl) (fun p hp=>hm p (by simp[hp])) e2)
 | [],_::_,_,hl,_,_=>by simp at hl
 | _::_,[],_,hl,_,_=>by simp at hl
noncomputable abbrev GB:=List PyData→(PyData→Prop)→Prop
noncomputable def dCB (g:GB) (t:DA):DE:=fun env R=>t env fun ss env1=>∃ ds,dW env1 ss=some ds∧g ds fun d=>R (.fr d) env1
noncomputable def im (K:PySem.W.Frag) (r:List V→Hp→VK→Prop) (g:GB):Prop:=∀ (N:Addr→Prop) (H:Hp) (xs:List V) (ds:List PyData) (R:PyData→Prop) (Q:VK),Vws K N H xs ds→g ds R→(∀ d v,R d→DN K N H v d→Q v H)→r xs H Q
theorem Cr {r:List V→Hp→VK→Prop}{g:GB}{tl:DA} (m:im K r g):∀ σ H Q,up K (dCB g tl) σ H Q→tCB r (upA K tl) σ H Q:=fun σ H Q h=>by
 obtain ⟨M,P,H0,σ0,env,ts,R,rel,ht,hq⟩:=h
 refine ⟨M,P,H0,σ0,env,ts,_,rel,ht,fun ss env1 vs H1 h1 hl rel1=>?_⟩
 obtain ⟨ds,e,g⟩:=h1
 exact m _ H1 vs ds _ Q (rel1.views hl (fun p hp=>DL _ hp) e) g fun d v hR dn=>hq _ _ _ _ hR (rel1.res (aO.refl _) dn)
section
variable {X:Cx}{x:Str}{p pos:Pos}{e:Expr}{es:List Expr}{tl:DA}{id T:String}{r:List V→Hp→VK→Prop}{g:GB}
theorem eI (hc:c9 X (.builtin id) r) (m:im K r g) (hg:Gl X x) (hm:X.mg x=none) (hv:bootBuiltins x=some (.builtin id)) (ha:PA X (e::es) (upA K tl)) (hn:x ≠ "__name__" := by decide) (hdb:(x==("__debug__" : Str))=false:=by decide)
  (he:starEach (e::es) X.env=(false,eval e X.env)::starEach es X.env:=by rfl) (hpl:(backTo pos (starEach es X.env)).any (·.1)=false:=by rfl):PE X (.Call (.Name x p) (e::es) [] pos) (up K (dCB g tl)) :=
 (fJ hc hg hm hv ha hn hdb he hpl).imp (Cr m)
end
noncomputable def A4:GB:=fun ds R=>∃ d es,ds=[d]∧dL d=some es∧R (.int es.length)
theorem jd:im K (fun xs H Q=>∃ p ys,xs=[.ref p]∧(SqL K H p ys∨SqT K H p ys)∧Q (.int ys.length) H) A4:=by
 rintro N H xs ds R Q w ⟨d,es,rfl,e1,hR⟩ hq
 cases w with
 | cons w1 w2 =>
  cases w2
  obtain ⟨a,vs,rfl,s,q⟩:=w1.seq e1
  refine ⟨a,vs,rfl,s,?_⟩
  rw [q.len]
  exact hq _ _ hR (.int _)
noncomputable def A3:GB:=fun ds R=>∃ i j,ds=[.int i,.int j]∧R (.int (if j<i then j else i))
noncomputable def Dt:GB:=fun ds R=>∃ i j,ds=[.int i,.int j]∧R (.int (if j>i then j else i))
theorem BU:im K (fun xs H Q=>∃ i j,xs=[.int i,.int j]∧Q (.int (if j<i then j else i)) H) A3:=by
 rintro N H xs ds R Q w ⟨i,j,rfl,hR⟩ hq
 cases w with
 | cons w1 w2 =>
  cases w2 with
  | cons w2 w3 =>
   cases w3
   exact ⟨i,j,by rw[w1.int,w2.int],hq _ _ hR (.int _)⟩
noncomputable def vT:PyData→Option Bool
 | .bool i=>some i
 | _=>none
noncomputable def eQ:List PyData→Option (List Bool)
 | []=>some []
 | d::ds=>(vT d).bind fun i=>(eQ ds).map (i::·)
theorem dQ:∀ ns:List Bool,eQ (ns.map .bool)=some ns
 | []=>rfl
 | n::ns=>by rw[Ec,eQ,dQ ns];rfl
theorem fu:∀ {ds:List PyData}{ns:List Bool},eQ ds=some ns→ds=ns.map .bool
 | [],ns,h=>by cases h;rfl
 | d::ds,ns,h=>by
  unfold eQ at h
  cases d <;> simp[vT] at h
  obtain ⟨ms,h1,rfl⟩:=h
  rw [fu h1];rfl
theorem DNs.bools:∀ {ns:List Bool}{v:List V},DNs K N H v (ns.map .bool)→v=ns.map V.bl
 | [],_,.nil=>rfl
 | n::r,_,.cons h q=>by
  cases h
  rw [q.bools];rfl
noncomputable def Cb:GB:=fun ds R=>∃ es bs,ds=[.list es]∧eQ es=some bs∧R (.bool (bs.all id))
theorem BW:im K (fun xs H Q=>∃ (a:Addr) (bs:List Bool),xs=[.ref a]∧SqL K H a (bs.map V.bl)∧Q (.bl (bs.all id)) H) Cb:=by
 rintro N H xs ds R Q w ⟨es,bs,rfl,e1,hR⟩ hq
 cases w with
 | cons w1 w2 =>
  cases w2
  obtain ⟨a,vs,rfl,s,q⟩:=w1.list
  rw [fu e1] at q
  rw [q.bools] at s
  exact ⟨a,bs,rfl,s,hq _ _ hR (.bl _)⟩
noncomputable def aQ (env:List Sl):List Sl→Option (List PyData)
 | []=>some []
 | s::ss=>(aD env s).bind fun d=>(aQ env ss).bind fun ds=>some (d::ds)
theorem Rel.kept (h:Rel K M P H0 σ0 σ env (ts++tt) H) (m:(v,s)∈tt) (e:aD env s=some d):DN K (Nw M (ay σ env ts)) H v d:=by
 have hE:=h.e
 rw [ax] at hE
 have sub:∀ b,Nw M (ay σ env ts) b→Nw M (ay σ env ts++tmp tt) b:=fun b z=>fe z
 have mm:((some v,s):Ent)∈ay σ env ts++tmp tt:=DL _ (D4.mpr ⟨(v,s),m,rfl⟩)
 cases s with
 | fr d' =>
  cases e
  obtain ⟨v',e1,dn⟩:=hE.fr _ _ mm
  cases e1
  exact dn.to fun b _ _ z=>sub b z
 | ow ds =>
  cases e
  obtain ⟨a,vs,e1,e2,dn,h0⟩:=hE.ow _ _ mm
  cases e1
  refine .lst (SnL.of e2 ?_) (dn.to fun b _ _ z=>sub b z)
  rintro (z|z)
  ·exact hE.mt a z h0
  ·have nd:=hE.nd
   rw [ae] at nd
   exact (DZ.mp nd).2.2 a z a (aP.mpr ⟨_,D4.mpr ⟨_,m,rfl⟩,DM.mpr rfl⟩) rfl
 | tr S d' =>
  cases e
  obtain ⟨v',e1,ot,h0⟩:=hE.tr _ _ _ mm
  cases e1
  refine ot.dn sub fun a ha=>?_
  rintro (z|z)
  ·exact hE.mt a z (h0 a ha)
  ·have nd:=hE.nd
   rw [ae] at nd
   exact (DZ.mp nd).2.2 a z a (aP.mpr ⟨_,D4.mpr ⟨_,m,rfl⟩,by rw[aC];exact ha⟩) rfl
 | vw i =>
  have e:(env[i]?).bind slK=some d:=e
  cases q:env[i]? with
  | none=>rw[q] at e;cases e
  | some s' =>
   rw [q] at e
   cases s' with
   | fr d' =>
    cases e
    obtain ⟨x,e1,m1⟩:=h.slot q
    rw [ax] at m1
    obtain ⟨v',e2,dn⟩:=hE.fr _ _ m1
    have e3:=h.vw v i (DL _ m)
    rw [e1,e2] at e3
    cases e3
    exact dn.to fun b _ _ z=>sub b z
   | _=>cases e
 | _=>cases e
theorem Rel.keptAll (h:Rel K M P H0 σ0 σ env (ts++tt) H):∀ {vs:List V}{ss:List Sl}{ds:List PyData},vs.length=ss.length→(∀ p∈vs.zip ss,p∈tt)→aQ env ss=some ds→DNs K (Nw M (ay σ env ts)) H vs ds
 | [],[],_,_,_,e=>by cases e;exact .nil
 | v :: vs,s::ss,ds,hl,hm,e=>by
  unfold aQ at e
  cases e1:aD env s with
  | none=>rw[e1] at e;cases e
  | some d =>
   rw [e1] at e
   cases e2:aQ env ss with
   | none=>rw[e2] at e;cases e
   | some ds' =>
    rw [e2] at e
    cases e
    exact .cons (h.kept (hm _ (by simp)) e1) (h.keptAll (by simpa using hl) (fun p hp=>hm p (by simp[hp])) e2)
 | [],_::_,_,hl,_,_=>by simp at hl
 | _::_,[],_,hl,_,_=>by simp at hl
theorem Rel.newAddr (h:Rel K M P H0 σ0 σ env ts H) {p:Addr} (hp:H p=none):¬Nw M (ay σ env ts) p:=by
 rintro (z|z)
 ·exact h.e.live p (h.e.mt p z) hp
 ·obtain ⟨vs,q,_⟩:=h.e.own z
  rw [hp] at q
  cases q
theorem Rel.resTup (h:Rel K M P H0 σ0 σ env (ts++tt) H) {p:Addr}{vs:List V}{ds:List PyData} (hp:H p=none) (dns:DNs K (Nw M (ay σ env ts)) H vs ds):Rel K M P H0 σ0 σ env (ts++[(.ref p,.fr (.tuple ds))]) (upd H p (.tup vs)) :=
 (h.drop.same (aO.new hp)).addFr (.tup (SnT.of ar (h.drop.newAddr hp)) (dns.keep (aE.same (aO.new hp))))
section
variable {X:Cx}{x:Str}{p pos:Pos}{e:Expr}{es:List Expr}{tl:DA}{id T:String}
noncomputable def A9 (t:DA):DE:=fun env R=>t env fun ss env1=>∃ ds,aQ env1 ss=some ds∧ss.length≤sizeLine∧R (.fr (.tuple ds)) env1
noncomputable def Be (t:DA):DE:=fun env R=>t env fun ss env1=>∃ ds,aQ env1 ss=some ds∧ss.length≤sizeLine∧R (.ow ds) env1
theorem cj {x1} (h:PA X es (upA K tl)):PE X (.Tuple es x1 pos) (up K (A9 tl)):=(zF h).imp fun σ H Q h=>by
 obtain ⟨M,P,H0,σ0,env,ts,R,rel,ht,hq⟩:=h
 refine ⟨M,P,H0,σ0,env,ts,_,rel,ht,fun ss env1 vs H1 h1 hl rel1=>?_⟩
 obtain ⟨ds,e,hz,hR⟩:=h1
 exact ⟨by omega,fun p hp=>hq _ _ _ _ hR (rel1.resTup hp (rel1.keptAll hl (fun p hp=>hp) e))⟩
theorem ce (h:PA X es (upA K tl)):PE X (.List es pos) (up K (Be tl)):=(vj h).imp fun σ H Q h=>by
 obtain ⟨M,P,H0,σ0,env,ts,R,rel,ht,hq⟩:=h
 refine ⟨M,P,H0,σ0,env,ts,_,rel,ht,fun ss env1 vs H1 h1 hl rel1=>?_⟩
 obtain ⟨ds,e,hz,hR⟩:=h1
 exact ⟨by omega,fun p hp=>hq _ _ _ _ hR (rel1.drop.addOw hp (rel1.keptAll hl (fun p hp=>hp) e))⟩
end
end
noncomputable def y4 (K:PySem.W.Frag):R2:=fun x y H Q=>∃ l b xs zs,x=.ref l∧y=.ref b∧SqL K H l xs∧SqL K H b zs∧xs.length+zs.length≤sizeLine∧∀ p,H p=none→Q (.ref p) (upd H p (.lst (xs++zs)))
theorem eL {X:Cx}{K:PySem.W.Frag} (hK:X.K=K):OpR X (binaryOp .Add) (y4 K):=by
 subst hK
 intro pins s σ H x y v u Q I rx ry h
 obtain ⟨l,b,xs,zs,rfl,rfl,hH,hB,hz,q⟩:=h
 cases rx
 cases ry
 obtain ⟨its,r,⟨⟨cls,dd,data,sl⟩,n,ho,hc,_,hd⟩,z⟩:=I.list hH
 obtain ⟨its2,r2,⟨⟨cls2,dd2,data2,sl2⟩,n2,ho2,hc2,_,hd2⟩,z2⟩:=I.list hB
 simp only at hc hd hc2 hd2
 subst hc hd hc2 hd2
 have hl:=r.length
 have hl2:=r2.length
 refine concat_meets ⟨_,ho,rfl⟩ ⟨_,ho2,rfl⟩ noFill_list_add seq_list_add PySem.F.slot_list_add PySem.F.entry_list_add (PySem.F.args_list_add_2 _ _) (list_addW l b its.toArray its2.toArray n n2 dd dd2 sl sl2 (by rw[D5,D5];omega)) ⟨ho,ho2,?_⟩
 have ea:its.toArray++its2.toArray=(its++its2).toArray:=by simp
 rw [ea]
 exact ⟨.ref _,_,I.lnew (t':=s.toks) (r.append r2) (by rw[El];omega),rfl,q _ I.fresh⟩
section
variable {K:PySem.W.Frag}{M P N:Addr→Prop}{H0 H H':Hp}{σ0 σ:St}{env:List Sl}{ts tt:List (V×Sl)}{v:V}{s:Sl}{d:PyData}
variable {X:Cx}{x:Str}{p pos:Pos}{a b e:Expr}{es:List Expr}{ta tb:DE}{tl:DA}
noncomputable def AK (g:PyData→PyData→(List PyData→Prop)→Prop) (ta tb:DE):DE:=fun env R=>ta env fun s1 env1=>tb env1 fun s2 env2=>∃ d1 d2,aH env2 s1=some d1∧aH env2 s2=some d2∧g d1 d2 fun ds=>R (.ow ds) env2
noncomputable def rZ (K:PySem.W.Frag) (r:R2) (g:PyData→PyData→(List PyData→Prop)→Prop):Prop:=∀ (N:Addr→Prop) (H:Hp) (x y:V) (d1 d2:PyData) (R:List PyData→Prop) (Q:VK),Vw K N H x d1→Vw K N H y d2→g d1 d2 R →
 (∀ ds vs p,R ds→DNs K N H vs ds→H p=none→Q (.ref p) (upd H p (.lst vs)))→r x y H Q
theorem zT {r:R2}{g:PyData→PyData→(List PyData→Prop)→Prop} (m:rZ K r g):∀ σ H Q,up K (AK g ta tb) σ H Q→tOp r (up K ta) (up K tb) σ H Q:=fun σ H Q h=>by
 obtain ⟨M,P,H0,σ0,env,ts,R,rel,ht,hq⟩:=h
 refine ⟨M,P,H0,σ0,env,ts,_,rel,ht,fun s1 env1 v1 H1 h1 rel1=>⟨M,P,H0,σ0,env1,ts++[(v1,s1)],_,rel1,h1,fun s2 env2 v2 H2 h2 rel2=>?_⟩⟩
 obtain ⟨d1,d2,e1,e2,g⟩:=h2
 refine m _ H2 v1 v2 d1 d2 _ Q (rel2.view (by simp) e1) (rel2.view (by simp) e2) g fun ds vs p hR dns hp=>hq _ _ _ _ hR ?_
 have rel2':Rel K M P H0 σ0 σ env2 (ts++[(v1,s1),(v2,s2)]) H2:=by simpa using rel2
 exact rel2'.resOw hp (by simpa using dns)
theorem oj {op:Operator}{r:R2}{g:PyData→PyData→(List PyData→Prop)→Prop} (ho:OpR X (binaryOp op) r) (m:rZ K r g) (ha:PE X a (up K ta)) (hb:PE X b (up K tb)):PE X (.BinOp a op b pos) (up K (AK g ta tb)):=(xb ho ha hb).imp (zT m)
noncomputable def A6:PyData→PyData→(List PyData→Prop)→Prop:=fun d e R=>∃ xs ys,d=.list xs∧e=.list ys∧xs.length+ys.length≤sizeLine∧R (xs++ys)
theorem yC:rZ K (y4 K) A6:=by
 rintro N H x y d e R Q w1 w2 ⟨xs,ys,rfl,rfl,hz,hR⟩ hq
 obtain ⟨a1,v1,rfl,s1,q1⟩:=w1.list
 obtain ⟨a2,v2,rfl,s2,q2⟩:=w2.list
 exact ⟨a1,a2,v1,v2,rfl,rfl,s1,s2,by rw[q1.len,q2.len];exact hz,fun p hp=>hq _ _ p hR (q1.app q2) hp⟩
noncomputable def uz (ta tb:DE):DE:=fun env R=>ta env fun s1 env1=>tb env1 fun s2 env2=>∃ xs ys,aH env2 s1=some (.tuple xs)∧aH env2 s2=some (.tuple ys)∧xs.length+ys.length≤sizeLine∧R (.fr (.tuple (xs++ys))) env2
theorem mF (hK:X.K=K) (ha:PE X a (up K ta)) (hb:PE X b (up K tb)):PE X (.BinOp a .Add b pos) (up K (uz ta tb)):=(xb (B3 (K:=K) hK) ha hb).imp fun σ H Q h=>by
 obtain ⟨M,P,H0,σ0,env,ts,R,rel,ht,hq⟩:=h
 refine ⟨M,P,H0,σ0,env,ts,_,rel,ht,fun s1 env1 v1 H1 h1 rel1=>⟨M,P,H0,σ0,env1,ts++[(v1,s1)],_,rel1,h1,fun s2 env2 v2 H2 h2 rel2=>?_⟩⟩
 obtain ⟨xs,ys,e1,e2,hz,hR⟩:=h2
 have w1:=rel2.view (v:=v1) (by simp) e1
 have w2:=rel2.view (v:=v2) (by simp) e2
 have rel2':Rel K M P H0 σ0 σ env2 (ts++[(v1,s1),(v2,s2)]) H2:=by simpa using rel2
 have ee:ts++[(v1,s1)]++[(v2,s2)]=ts++[(v1,s1),(v2,s2)]:=by simp
 rw [ee] at w1 w2
 obtain ⟨a1,u1,rfl,t1,q1⟩:=w1.tuple
 obtain ⟨a2,u2,rfl,t2,q2⟩:=w2.tuple
 refine ⟨a1,a2,u1,u2,rfl,rfl,t1,t2,by rw[q1.len,q2.len];exact hz,fun z=>?_,fun _ z=>?_,fun _ _ p hp=>?_⟩
 ·subst z
  have:xs=[]:=by
   have:=q1.len
   exact List.eq_nil_of_length_eq_zero this.symm
  subst this
  cases w2 with
  | dn dn=>exact hq _ _ _ _ hR (rel2'.res (aO.refl _) dn)
 ·subst z
  have:ys=[]:=by
   have:=q2.len
   exact List.eq_nil_of_length_eq_zero this.symm
  subst this
  rw [Eh] at hR
  cases w1 with
  | dn dn=>exact hq _ _ _ _ hR (rel2'.res (aO.refl _) dn)
 ·exact hq _ _ _ _ hR (rel2'.resTup hp ((q1.app q2).to fun b _ _ z=>by rw[ax];exact fe z))
noncomputable abbrev DO:=List Sl→(Option Int→List Sl→Prop)→Prop
inductive upO (K:PySem.W.Frag) (t:DO) (σ:St) (H:Hp) (Q:Option Int→Hp→Prop):Prop
 | mk (M P:Addr→Prop) (H0:Hp) (σ0:St) (env:List Sl) (ts:List (V×Sl)) (R:Option Int→List Sl→Prop):Rel K M P H0 σ0 σ env ts H→t env R →
 (∀ o env' H',R o env'→Rel K M P H0 σ0 σ env' ts H'→Q o H')→upO K t σ H Q
theorem PO.imp {e:Option Expr}{t t':TO} (h:PO X e t) (k:∀ σ H Q,t' σ H Q→t σ H Q):PO X e t':=fun pins s σ H Q I hw=>h pins s σ H Q I (k σ H Q hw)
noncomputable def iZ:DO:=fun env R=>R none env
noncomputable def uw (t:DE):DO:=fun env R=>t env fun s env1=>∃ i,aH env1 s=some (.int i)∧R (some i) env1
theorem f9:PO X none (upO K iZ):=wU.imp fun σ H Q h=>by
 obtain ⟨M,P,H0,σ0,env,ts,R,rel,ht,hq⟩:=h
 exact hq _ _ _ ht rel
theorem f8 (h:PE X e (up K ta)):PO X (some e) (upO K (uw ta)):=(wT h).imp fun σ H Q h=>by
 obtain ⟨M,P,H0,σ0,env,ts,R,rel,ht,hq⟩:=h
 refine ⟨M,P,H0,σ0,env,ts,_,rel,ht,fun s1 env1 v1 H1 h1 rel1=>?_⟩
 obtain ⟨i,e1,hR⟩:=h1
 exact ⟨i,(rel1.view (by simp) e1).int,hq _ _ _ hR rel1.drop⟩
noncomputable def oV {α:Type} (xs:List α) (lo hi:Option Int):List α:=(xs.drop (HT.sIx xs.length 0 lo)).take (HT.sIx xs.length xs.length hi - HT.sIx xs.length 0 lo)
theorem DNs.drop:∀ {vs:List V}{ds:List PyData} (n:Nat),DNs K N H vs ds→DNs K N H (vs.drop n) (ds.drop n)
 | _,_,0,q=>q
 | _,_,_+1,.nil=>.nil
 | _,_,n+1,.cons _ q=>q.drop n
theorem DNs.take:∀ {vs:List V}{ds:List PyData} (n:Nat),DNs K N H vs ds→DNs K N H (vs.take n) (ds.take n)
 | _,_,0,_=>.nil
 | _,_,_+1,.nil=>.nil
 | _,_,n+1,.cons h q=>.cons h (q.take n)
theorem DNs.cut {vs:List V}{ds:List PyData} (q:DNs K N H vs ds) (lo hi:Option Int):DNs K N H (yF vs lo hi) (oV ds lo hi):=by
 unfold yF oV
 rw [q.len]
 exact (q.drop _).take _
noncomputable def Ba (te:DE) (tl th:DO):DE:=fun env R=>te env fun s env1=>tl env1 fun l env2=>th env2 fun h env3=>∃ ds,aH env3 s=some (.list ds)∧R (.ow (oV ds l h)) env3
variable {lo hi:Option Expr}{tlo thi:DO}{p2:Pos}
theorem pP (hK:X.K=K) (he:PE X e (up K ta)) (hl:PO X lo (upO K tlo)) (hu:PO X hi (upO K thi)):PE X (.Subscript e (.Slice lo hi none p2) pos) (up K (Ba ta tlo thi)):=(s9 (Dm (K:=K) hK) he hl hu).imp fun σ H Q h=>by
 obtain ⟨M,P,H0,σ0,env,ts,R,rel,ht,hq⟩:=h
 refine ⟨M,P,H0,σ0,env,ts,_,rel,ht,fun s1 env1 v1 H1 h1 rel1=>⟨M,P,H0,σ0,env1,ts++[(v1,s1)],_,rel1,h1,fun l env2 H2 h2 rel2=>⟨M,P,H0,σ0,env2,ts++[(v1,s1)],_,rel2,h2,fun u env3 H3 h3 rel3=>?_⟩⟩⟩
 obtain ⟨ds,e1,hR⟩:=h3
 obtain ⟨a,vs,rfl,sq,q⟩:=(rel3.view (v:=v1) (by simp) e1).list
 exact ⟨a,vs,rfl,sq,fun p hp=>hq _ _ _ _ hR (rel3.resOw hp (q.cut l u))⟩
noncomputable def rp (t:DA):DE:=fun env R=>t env fun ss env1=>∃ s d ds,ss=[s]∧aH env1 s=some d∧dL d=some ds∧R (.fr (.tuple ds)) env1
theorem pO (hK:X.K=K) (hg:Gl X "tuple") (hm:X.mg "tuple" = none) (ha:PA X [e] (upA K tl)) (he:starEach [e] X.env=[(false,eval e X.env)]:=by rfl):PE X (.Call (.Name "tuple" p) [e] [] pos) (up K (rp tl)) :=
 (qd (Ag (K:=K) hK) hg hm PyProof.Rows.boot_tuple ha (by decide) (by decide) he rfl).imp fun σ H Q h=>by
 obtain ⟨M,P,H0,σ0,env,ts,R,rel,ht,hq⟩:=h
 refine ⟨M,P,H0,σ0,env,ts,_,rel,ht,fun ss env1 vs H1 h1 hl rel1=>?_⟩
 obtain ⟨s,d,ds,rfl,e1,e2,hR⟩:=h1
 obtain ⟨v,rfl⟩:=sr hl
 have w:=rel1.view (v:=v) (by simp) e1
 cases d <;> simp[dL] at e2
 ·subst e2
  obtain ⟨a,us,rfl,sq,q⟩:=w.list
  exact ⟨a,us,rfl,.inl ⟨sq,fun l hl'=>hq _ _ _ _ hR (rel1.resTup hl' (q.to fun b _ _ z=>by rw[ax];exact fe z))⟩⟩
 ·subst e2
  obtain ⟨a,us,rfl,sq,q⟩:=w.tuple
  refine ⟨a,us,rfl,.inr ⟨sq,hq _ _ _ _ hR ?_⟩⟩
  cases w with
  | dn dn=>exact rel1.res (aO.refl _) dn
noncomputable def cD:Sl→List PyData→Option Sl
 | .ow _,ds=>some (.ow ds)
 | .io _,ds=>some (.io ds)
 | _,_=>none
noncomputable def gj:Sl→Option (List PyData)
 | .ow ds=>some ds
 | .io ds=>some ds
 | _=>none
theorem hJ {s s':Sl}{l:List PyData} (h:cD s l=some s'):xH s l s'∧gj s'=some l:=by
 cases s with
 | ow _=>cases h;exact⟨rfl,rfl⟩
 | io _=>cases h;exact⟨rfl,rfl⟩
 | _=>cases h
theorem pE {s:Sl}{l d:List PyData} (h:cD s l=some (.io d)):∃ d0,s=.io d0:=by
 cases s with
 | io d0=>exact⟨d0,rfl⟩
 | _=>cases h
theorem mK {s:Sl}{l:List PyData} (h:gj s=some l):cD s l=some s∧∀ a,a∈cr (some (.ref a),s):=by
 cases s with
 | ow _=>cases h;exact⟨rfl,fun a=>DM.mpr rfl⟩
 | io _=>cases h;exact⟨rfl,fun a=>DM.mpr rfl⟩
 | _=>cases h
theorem Rel.mut {i:Nat}{s s':Sl}{ds ds':List PyData} (h:Rel K M P H0 σ0 σ env ts H) (e:env[i]? = some s) (es:cD s ds'=some s') {a:Addr} (ea:σ[i]? = some (some (.ref a))) {vs':List V} (dns:DNs K (Nw M (ay σ env ts)) H vs' ds') :
  Rel K M P H0 σ0 σ (env.set i s') ts (upd H a (.lst vs')):=by
 obtain ⟨x,A,B,e1,q1,q2⟩:=h.split e
 rw [ea] at e1
 cases e1
 have r:=h.e
 rw [q1] at r dns
 refine ⟨by rw[q2];exact r.mut (hJ es).1 dns,by simp[h.len],h.vw,fun j ds'' e'=>?_⟩
 by_cases hj:i=j
 ·subst hj
  have hi:i<env.length:=(DX.mp e).1
  rw [Eg hi] at e'
  cases e'
  obtain ⟨ds0,rfl⟩:=pE es
  exact h.ios i ds0 e
 ·rw [Ef hj] at e'
  exact h.ios j ds'' e'
theorem Rel.mine {i:Nat}{s:Sl}{ds:List PyData} (h:Rel K M P H0 σ0 σ env ts H) (e:env[i]? = some s) (eo:gj s=some ds):∃ a vs,σ[i]? = some (some (.ref a))∧H a=some (.lst vs)∧DNs K (Nw M (ay σ env ts)) H vs ds:=by
 obtain ⟨x,e1,m⟩:=h.slot e
 cases s with
 | ow d =>
  cases eo
  obtain ⟨a,vs,z,q1,q2,_⟩:=h.e.ow _ _ m
  subst z
  exact ⟨a,vs,e1,q1,q2⟩
 | io d =>
  cases eo
  obtain ⟨a,vs,z,q1,q2,_⟩:=h.e.io _ _ m
  subst z
  exact ⟨a,vs,e1,q1,q2⟩
 | _=>cases eo
noncomputable def Bf (i:Nat) (te:DE):DE:=fun env R=>(∃ ds,(env[i]?).bind gj=some ds)∧te env fun s env1=>∃ d s0 ds s',aD env1 s=some d∧env1[i]? = some s0∧gj s0=some ds∧ds.length<sizeLine∧cD s0 (ds++[d])=some s'∧R (.fr .none) (env1.set i s')
theorem nL {i:Nat}{ds:List PyData} (h:(env[i]?).bind gj=some ds):∃ s,env[i]? = some s∧gj s=some ds:=by
 cases e:env[i]? with
 | none=>rw[e] at h;cases h
 | some s=>rw[e] at h;exact⟨s,rfl,h⟩
theorem pS (i:Nat) {y:Str}{apos cpos npos:Pos} (hK:X.K=K) (hN:X.N[i]? = some y) (ha:PE X e (up K ta))
  (hv:Vis X.env.scope y:=by first|exact Or.inl rfl|exact Or.inr (Or.inl rfl)|exact Or.inr (Or.inr rfl)) (hd:(y==("__debug__" : Str))=false:=by decide)
  (hcd:(y==("__classdict__" : Str))=false:=by decide)
  (hs0:starEach [e] X.env=[(false,eval e X.env)]:=by rfl)
  (hbase:attributeBase (.Name y npos) "append" X.env (eval (.Name y npos) X.env)=eval (.Name y npos) X.env:=by rfl)
  (hfew:((backTo cpos (starEach [e] X.env)).all (fun x=>!x.1)&&(backToKw cpos (keywordEach [] X.env)).all (fun x=>x.1.isSome)&&decide ([e].length+([]:List Keyword).length+(if ([]:List Keyword).isEmpty then 0 else 1)<30))=true:=by rfl)
  (hline:(apos.endLine==cpos.line)=true:=by rfl) (hplain:(backTo cpos (starEach [] X.env)).any (·.1)=false:=by rfl) :
  PE X (.Call (.Attribute (.Name y npos) "append" apos) [e] [] cpos) (up K (Bf i ta)) :=
 (kBm (K:=K) hK PySem.F.plainAttrs_list PySem.F.slot_list_append PySem.F.type_list_append jH (c8 hN hv hd hcd) (eJ ha jy hs0) hbase hfew hline hs0 hplain).imp fun σ H Q h=>by
 obtain ⟨M,P,H0,σ0,env,ts,R,rel,⟨⟨ds0,h0⟩,ht⟩,hq⟩:=h
 obtain ⟨s0,e0,o0⟩:=nL h0
 obtain ⟨a,vs,ea,hH,_⟩:=rel.mine e0 o0
 refine ⟨.ref a,ea,.inl ⟨rfl,vs,SqL.of hH⟩,M,P,H0,σ0,env,ts,_,rel,ht,fun s1 env1 v1 H1 h1 rel1=>?_⟩
 obtain ⟨d,s2,ds,s',k,e2,o2,hz,es,hR⟩:=h1
 obtain ⟨a',us,ea',hH',q⟩:=rel1.drop.mine e2 o2
 rw [ea] at ea'
 cases ea'
 refine ⟨a,us,v1,rfl,rfl,hH',by rw[q.len];exact hz,?_⟩
 have dn:=rel1.kept (v:=v1) (s:=s1) (by simp) k
 exact hq _ _ _ _ hR ((rel1.drop.mut (ds:=ds) e2 es ea (q.app (.cons dn .nil))).addFr .non)
noncomputable def Bb (i:Nat):DE:=fun env R=>∃ s0 ds d s',env[i]? = some s0∧gj s0=some ds∧ds.getLast? = some d∧cD s0 ds.dropLast=some s'∧R (.fr d) (env.set i s')
theorem DNs.dropLast:∀ {vs:List V}{ds:List PyData},DNs K N H vs ds→DNs K N H vs.dropLast ds.dropLast:=fun {vs ds} q=>by
 rw [List.dropLast_eq_take,List.dropLast_eq_take,q.len]
 exact q.take _
theorem wH (i:Nat) {y:Str}{apos cpos npos:Pos} (hK:X.K=K) (hN:X.N[i]? = some y)
  (hv:Vis X.env.scope y:=by first|exact Or.inl rfl|exact Or.inr (Or.inl rfl)|exact Or.inr (Or.inr rfl)) (hd:(y==("__debug__" : Str))=false:=by decide)
  (hcd:(y==("__classdict__" : Str))=false:=by decide)
  (hbase:attributeBase (.Name y npos) "pop" X.env (eval (.Name y npos) X.env)=eval (.Name y npos) X.env:=by rfl) (hline:(apos.endLine==cpos.line)=true:=by rfl) :
  PE X (.Call (.Attribute (.Name y npos) "pop" apos) [] [] cpos) (up K (Bb i)) :=
 (CM (K:=K) hK PySem.F.plainAttrs_list PySem.F.slot_list_pop PySem.F.type_list_pop vk (c8 hN hv hd hcd) hbase hline).imp fun σ H Q h=>by
 obtain ⟨M,P,H0,σ0,env,ts,R,rel,⟨s0,ds,d,s',e0,o0,hl,es,hR⟩,hq⟩:=h
 obtain ⟨a,vs,ea,hH,q⟩:=rel.mine e0 o0
 have hn:ds.length - 1<ds.length:=by
  cases ds with
  | nil=>simp at hl
  | cons z r=>simp
 rw [List.getLast?_eq_getElem?] at hl
 have hlt:vs.length - 1<vs.length:=by rw[q.len];exact hn
 obtain ⟨d',h1,dn⟩:=q.get (DR hlt)
 rw [q.len,hl] at h1
 cases h1
 refine ⟨.ref a,ea,.inl ⟨rfl,vs,SqL.of hH⟩,a,vs,vs[vs.length - 1],rfl,rfl,hH,DR hlt,?_⟩
 have rel2:=rel.addFr dn
 have m:=rel2.mut (ds:=ds) (vs':=vs.dropLast) (ds':=ds.dropLast) e0 es ea (by
  have : Nw M (ay σ env (ts++[(vs[vs.length - 1],Sl.fr d)]))=Nw M (ay σ env ts):=by
   rw [ax]
   unfold Nw
   have:oas (ay σ env ts++tmp [(vs[vs.length - 1],Sl.fr d)])=oas (ay σ env ts):=by
    rw [ae]
    have:oas (tmp [(vs[vs.length - 1],Sl.fr d)])=[]:=by
     show oas [(some vs[vs.length - 1],Sl.fr d)]=[]
     rw [ag]
     cases vs[vs.length - 1] <;> rfl
    rw [this,Eh]
   rw [this]
  rw [this]
  exact q.dropLast)
 exact hq _ _ _ _ hR m
end
section
variable {K:PySem.W.Frag}{M P N:Addr→Prop}{H0 H H':Hp}{E A B:List Ent}{σ0 σ:St}{env:List Sl}{ts tt:List (V×Sl)}{v:V}{s:Sl}{d:PyData}
end
noncomputable abbrev DSp:=List Sl→(Sl→List Sl→Prop)→Prop
noncomputable def iS:Sl→Bool
 | .fr _=>true
 | .ow _=>true
 | .tr _ _=>true
 | _=>false
noncomputable def jf (vs:List V) (ss:List Sl):Addr→Prop:=fun a=>a∈oas (tmp (vs.zip ss))
noncomputable def spD (K:PySem.W.Frag) (sp:DSp):Sp:=fun vs H Q _=>∃ (M:Addr→Prop) (ss:List Sl) (R:Sl→List Sl→Prop),vs.length=ss.length∧be K M (jf vs ss) H (tmp (vs.zip ss)) H∧sp ss R ∧
 ∀ r ss' v H',R r ss'→iS r=true→be K M (jf vs ss) H (tmp ((v,r)::vs.zip ss')) H'→Q v H'
section
variable {K:PySem.W.Frag}{M P N:Addr→Prop}{H0 H H':Hp}{E A B:List Ent}{σ0 σ:St}{env:List Sl}{ts tt:List (V×Sl)}{v:V}{s:Sl}{d:PyData}
theorem fb:∀ (vs:List V) (ds:List PyData),oas (tmp (vs.zip (ds.map Sl.fr)))=[]
 | [],_=>by simp[oas,tmp]
 | _::_,[]=>by simp[oas,tmp]
 | v::vs,d::ds=>by
  show oas ((some v,Sl.fr d)::tmp (vs.zip (ds.map Sl.fr)))=[]
  rw [ag,cY,fb vs ds]
  rfl
theorem eN {vs:List V}{ds:List PyData}{x:Option V}{s:Sl} (h:DNs K N H vs ds):(x,s)∈tmp (vs.zip (ds.map Sl.fr))→∃ v d,x=some v∧s=.fr d∧DN K N H v d:=DNs.ind (C:=fun vs ds=>(x,s)∈tmp (vs.zip (ds.map Sl.fr))→∃ v d,x=some v∧s=.fr d∧DN K N H v d) (fun m=>by simp[tmp] at m) (fun {v vs d ds} h _ i m=>by
  have m:(x,s)∈(some v,Sl.fr d)::tmp (vs.zip (ds.map Sl.fr)):=m
  rcases D3.mp m with m|m
  ·cases m;exact⟨v,d,rfl,rfl,h⟩
  ·exact i m) h
inductive cJ (K:PySem.W.Frag) (N:Addr→Prop) (Hc H':Hp):V→Sl→Prop
 | fr {v:V}{d:PyData}:DN K N H' v d→cJ K N Hc H' v (.fr d)
 | ow {a:Addr}{vs:List V}{ds:List PyData}:H' a=some (.lst vs)→DNs K (fun b=>N b∨b=a) H' vs ds→Hc a=none→¬N a→cJ K N Hc H' (.ref a) (.ow ds)
 | tr {v:V}{d:PyData}{S:List Addr}:OT K (fun b=>N b∨b∈S) H' v d S→(∀ a∈S,Hc a=none∧¬N a)→S.Nodup→cJ K N Hc H' v (.tr S d)
theorem be.resOk {Hc:Hp}{Pc:Addr→Prop}{r:Sl}{T:List Ent} (hc:be K N Pc Hc ((some v,r)::T) H') (hr:iS r=true):cJ K N Hc H' v r:=by
 cases r with
 | fr d =>
  obtain ⟨w,e,dn⟩:=hc.fr _ _ DY
  cases e
  exact .fr (dn.to fun b _ _ z=>.inl z)
 | ow ds =>
  obtain ⟨a,vs,e,ha,dns,hn⟩:=hc.ow _ _ DY
  cases e
  refine .ow ha (dns.to fun b _ _ z=>?_) hn fun z=>hc.mt a z hn
  rcases z with z|z
  ·exact .inl z
  ·rw [z]
   exact .inr (by rw[ag];exact DP _ (DM.mpr rfl))
 | tr S d =>
  obtain ⟨w,e,ot,hn⟩:=hc.tr _ _ _ DY
  cases e
  refine .tr (ot.to fun b _ _ z=>?_) (fun a ha=>⟨hn a ha,fun z=>hc.mt a z (hn a ha)⟩) ?_
  ·rcases z with z|z
   ·exact .inl z
   ·exact .inr (by rw[ag,aC];exact DP _ z)
  ·have nd:=hc.nd
   rw [ag,aC] at nd
   exact (DZ.mp nd).1
 | _=>cases hr
theorem cJ.to {Hc:Hp}{r:Sl}{N2:Addr→Prop} (h:cJ K N Hc H' v r) (m:∀ b,N2 b→N b):cJ K N2 Hc H' v r:=by
 cases h with
 | fr dn=>exact .fr (dn.to fun b _ _ z=>m b z)
 | ow ha dns hn nn=>exact .ow ha (dns.to fun b _ _ z=>z.elim (fun z=>.inl (m b z)) .inr) hn fun z=>nn (m _ z)
 | tr ot hn nd=>exact .tr (ot.to fun b _ _ z=>z.elim (fun z=>.inl (m b z)) .inr) (fun a ha=>⟨(hn a ha).1,fun z=>(hn a ha).2 (m a z)⟩) nd
theorem cJ.own {r:Sl}{Hc:Hp} (h:cJ K N Hc H' v r):(∀ b∈cr (some v,r),Hc b=none∧¬N b)∧(cr (some v,r)).Nodup:=by
 cases h with
 | fr dn=>rw[cY];exact⟨fun b hb=>absurd hb En,Ff⟩
 | ow ha dns hn nN=>exact⟨fun b hb=>by rw[DM.mp hb];exact⟨hn,nN⟩,Ej.mpr ⟨by simp,Ff⟩⟩
 | tr ot hn nd=>rw[aC];exact⟨hn,nd⟩
theorem cJ.frD {d:PyData}{Hc:Hp} (h:cJ K N Hc H' v (.fr d)):DN K N H' v d:=by
 cases h with
 | fr dn=>exact dn
theorem cJ.owD {ds:List PyData}{Hc:Hp} (h:cJ K N Hc H' v (.ow ds)):∃ a vs,v=.ref a∧H' a=some (.lst vs)∧DNs K (fun b=>N b∨b=a) H' vs ds∧Hc a=none:=by
 cases h with
 | ow ha dns hn nN=>exact⟨_,_,rfl,ha,dns,hn⟩
theorem cJ.ioD {ds:List PyData}{Hc:Hp} (h:cJ K N Hc H' v (.io ds)):False:=by cases h
theorem cJ.trD {d:PyData}{S:List Addr}{Hc:Hp} (h:cJ K N Hc H' v (.tr S d)):OT K (fun b=>N b∨b∈S) H' v d S∧∀ a∈S,Hc a=none∧¬N a:=by
 cases h with
 | tr ot hn nd=>exact⟨ot,hn⟩
theorem be.getRes {r:Sl} (h:be K M P H0 E H') {Hc:Hp} (hlive:∀ b,H0 b≠none→Hc b≠none) (hres:cJ K (Nw M E) Hc H' v r)
  (frs:∀ x d,(x,Sl.fr d)∈E→∃ w,x=some w∧DN K (fun b=>Nw M E b∨(b∈cr (some v,r)∧Hc b=none)) H' w d)
  (its:∀ x s ds,(x,s)∈E→gj s=some ds→∃ a vs,x=some (.ref a)∧H' a=some (.lst vs)∧DNs K (fun b=>Nw M E b∨(b∈cr (some v,r)∧Hc b=none)) H' vs ds)
  (ots:∀ x S d,(x,Sl.tr S d)∈E→∃ w,x=some w∧OT K (fun b=>Nw M E b∨(b∈cr (some v,r)∧Hc b=none)) H' w d S):be K M P H0 (E++[(some v,r)]) H':=by
 obtain ⟨hown,hnod⟩:=hres.own
 have oe:oas (E++[(some v,r)])=oas E++cr (some v,r):=by
  rw [ae,ag]
  simp [oas]
 have up:∀ b,Nw M (E++[(some v,r)]) b→Nw M E b∨b∈cr (some v,r):=fun b z=>by
  rcases z with z|z
  ·exact .inl (.inl z)
  ·rw [oe] at z
   rcases DQ.mp z with z|z
   ·exact .inl (.inr z)
   ·exact .inr z
 have up2:∀ b,Nw M (E++[(some v,r)]) b→Nw M E b∨(b∈cr (some v,r)∧Hc b=none):=fun b z=>(up b z).elim .inl fun z=>.inr ⟨z,(hown b z).1⟩
 have h0:∀ b,Hc b=none→H0 b=none:=fun b hn=>by
  cases e:H0 b with
  | none=>rfl
  | some o=>exact absurd hn (hlive b (by rw[e];simp))
 refine ⟨h.keep,h.live,h.mt,h.pm,fun x d' m=>?_,fun x d' m=>?_,fun x d' m=>?_,fun x S d' m=>?_,?_⟩
 ·rcases DQ.mp m with m|m
  ·obtain ⟨w,e,dn⟩:=frs x d' m
   exact ⟨w,e,dn.to fun b _ _ z=>up2 b z⟩
  ·rw [DM] at m
   obtain ⟨e1,rfl⟩:=Prod.mk.inj m
   exact ⟨v,e1,hres.frD.to fun b _ _ z=>(up b z).elim id fun z=>by rw[cY] at z;exact absurd z En⟩
 ·rcases DQ.mp m with m|m
  ·obtain ⟨b,us,e,e2,dn⟩:=its x _ d' m rfl
   obtain ⟨b',us',e',e2',_,r⟩:=h.ow x d' m
   rw [e] at e'
   cases e'
   exact ⟨b,us,e,e2,dn.to fun b _ _ z=>up2 b z,r⟩
  ·rw [DM] at m
   obtain ⟨e1,rfl⟩:=Prod.mk.inj m
   obtain ⟨a,us,rfl,ha,dns,hn⟩:=hres.owD
   exact ⟨a,us,e1,ha,dns.to fun b _ _ z=>(up b z).elim .inl fun z=>.inr (DM.mp z),h0 _ hn⟩
 ·rcases DQ.mp m with m|m
  ·obtain ⟨b,us,e,e2,dn⟩:=its x _ d' m rfl
   obtain ⟨b',us',e',e2',_,r⟩:=h.io x d' m
   rw [e] at e'
   cases e'
   exact ⟨b,us,e,e2,dn.to fun b _ _ z=>up2 b z,r⟩
  ·rw [DM] at m
   obtain ⟨e1,rfl⟩:=Prod.mk.inj m
   exact hres.ioD.elim
 ·rcases DQ.mp m with m|m
  ·obtain ⟨w,e,dn⟩:=ots x S d' m
   obtain ⟨w',e',_,r⟩:=h.tr x S d' m
   exact ⟨w,e,dn.to fun b _ _ z=>up2 b z,r⟩
  ·rw [DM] at m
   obtain ⟨e1,rfl⟩:=Prod.mk.inj m
   exact ⟨v,e1,hres.trD.1.to fun b _ _ z=>(up b z).elim .inl fun z=>.inr (by rw[aC] at z;exact z),fun a ha=>h0 _ (hres.trD.2 a ha).1⟩
 ·rw [oe]
  exact DZ.mpr ⟨h.nd,hnod,fun b hb c hc' z=>(hown c hc').2 (.inr (z▸hb))⟩
theorem DN.past {Hc:Hp}{N2:Addr→Prop} (h:DN K N Hc v d) (n2:∀ b,N2 b→N b∨Hc b=none) {Pc:Addr→Prop} (k:aE Pc Hc H') (hp:∀ b,Pc b→N2 b):DN K N2 H' v d :=
 (h.to fun b o e z=>(n2 b z).elim id fun z=>by rw[z] at e;cases e).keep (k.mono hp)
theorem DNs.past {Hc:Hp}{N2:Addr→Prop}{vs:List V}{ds:List PyData} (h:DNs K N Hc vs ds) (n2:∀ b,N2 b→N b∨Hc b=none) {Pc:Addr→Prop} (k:aE Pc Hc H') (hp:∀ b,Pc b→N2 b):DNs K N2 H' vs ds :=
 (h.to fun b o e z=>(n2 b z).elim id fun z=>by rw[z] at e;cases e).keep (k.mono hp)
theorem OT.past {Hc:Hp}{N2:Addr→Prop}{S:List Addr} (h:OT K N Hc v d S) (n2:∀ b,N2 b→N b∨Hc b=none) {Pc:Addr→Prop} (k:aE Pc Hc H') (hp:∀ b,Pc b→N2 b) (hs:∀ b∈S,¬Pc b):OT K N2 H' v d S :=
 (h.to fun b o e z=>(n2 b z).elim id fun z=>by rw[z] at e;cases e).keep (k.mono hp) fun a ha=>by
  obtain ⟨xs,z⟩:=h.lives a ha
  rw [k _ _ (hs a ha) z,z]
theorem be.called {r:Sl} (h:be K M P H0 E H) (k:aO H H') (hres:cJ K (Nw M E) H H' v r):be K M P H0 (E++[(some v,r)]) H':=by
 refine (h.same k).getRes h.live hres (fun x d m=>?_) (fun x s ds m eo=>?_) fun x S d m=>?_
 rotate_right
 ·obtain ⟨w,e,dn,_⟩:=h.tr x S d m
  exact ⟨w,e,dn.past (fun b z=>z.elim .inl fun z=>.inr z.2) (aE.same (N:=N0) k) (fun b z=>z.elim) fun b _ z=>z.elim⟩
 ·obtain ⟨w,e,dn⟩:=h.fr x d m
  exact ⟨w,e,dn.past (fun b z=>z.elim .inl fun z=>.inr z.2) (aE.same (N:=N0) k) fun b z=>z.elim⟩
 ·cases s with
  | ow l =>
   cases eo
   obtain ⟨a,vs,e,e2,dn,_⟩:=h.ow x _ m
   exact ⟨a,vs,e,k _ _ e2,dn.past (fun b z=>z.elim .inl fun z=>.inr z.2) (aE.same (N:=N0) k) fun b z=>z.elim⟩
  | io l =>
   cases eo
   obtain ⟨a,vs,e,e2,dn,_⟩:=h.io x _ m
   exact ⟨a,vs,e,k _ _ e2,dn.past (fun b z=>z.elim .inl fun z=>.inr z.2) (aE.same (N:=N0) k) fun b z=>z.elim⟩
  | _=>cases eo
theorem Rel.withRes {r:Sl} (h:Rel K M P H0 σ0 σ env ts H) (e:be K M P H0 (ay σ env ts++[(some v,r)]) H') (hr:iS r=true):Rel K M P H0 σ0 σ env (ts++[(v,r)]) H' :=
  ⟨by rw [ax];exact e,h.len,(fun w i m=>by
    rcases DQ.mp m with m|m
    · exact h.vw w i m
    · rw [DM] at m
      cases m
      cases hr),h.ios⟩
noncomputable def rC (sp:DSp) (t:DA):DE:=fun env R=>t env fun ss env1=>∃ ds,aQ env1 ss=some ds∧sp (ds.map .fr) (dK (fun r _=>R r env1) ⟨⟩)
theorem nO {M':Addr→Prop}{vs:List V}{ds:List PyData} (dns:DNs K M' H vs ds) (hm:∀ a,M' a→H a≠none):be K M' (jf vs (ds.map .fr)) H (tmp (vs.zip (ds.map .fr))) H:=by
 have oe:=fb vs ds
 have ne:∀ b,Nw M' (tmp (vs.zip (ds.map .fr))) b→M' b:=fun b z=>z.elim id fun z=>by rw[oe] at z;cases z
 refine ⟨aE.refl,fun a q=>q,hm,fun a z=>?_,fun x d m=>?_,fun x l m=>?_,fun x l m=>?_,fun x S l m=>?_,by rw[oe];exact Ff⟩
 rotate_right
 ·obtain ⟨w,d',e1,e2,dn⟩:=eN dns m
  cases e2
 ·have z:a∈oas (tmp (vs.zip (ds.map .fr))):=z
  rw [oe] at z
  cases z
 ·obtain ⟨w,d',e1,e2,dn⟩:=eN dns m
  cases e2
  exact ⟨w,e1,dn.to fun b _ _ z=>ne b z⟩
 ·obtain ⟨w,d',e1,e2,dn⟩:=eN dns m
  cases e2
 ·obtain ⟨w,d',e1,e2,dn⟩:=eN dns m
  cases e2
theorem yu {sp:DSp}{tl:DA}:∀ σ H Q,up K (rC sp tl) σ H Q→nR (spD K sp) [] E0 (upA K tl) σ H Q:=fun σ H Q h=>by
 obtain ⟨M,P,H0,σ0,env,ts,R,rel,ht,hq⟩:=h
 refine ⟨M,P,H0,σ0,env,ts,_,rel,ht,fun ss env1 vs H1 h1 hl rel1=>?_⟩
 obtain ⟨ds,ek,hsp⟩:=h1
 rw [Eh]
 have dns:=rel1.keptAll hl (fun p hp=>hp) ek
 have oe:=fb vs ds
 refine ⟨Nw M (ay σ env1 ts),ds.map .fr,fun r _=>R r env1,by simp[dns.len],nO dns fun a z hn=>rel1.drop.newAddr hn z,hsp,fun r ss' v H' hR hr post=>hq _ _ _ _ hR ?_⟩
 have k:aO H1 H':=(post.keep.mono (M:=N0) fun b z=>by
  have z:b∈oas (tmp (vs.zip (ds.map .fr))):=z
  rw [oe] at z
  cases z).none
 exact (rel1.drop).withRes (rel1.drop.e.called k (post.resOk hr)) hr
end
section
variable {K:PySem.W.Frag}{M P N:Addr→Prop}{H0 H H':Hp}{E A B:List Ent}{σ0 σ:St}{env:List Sl}{ts tt:List (V×Sl)}{v:V}{s:Sl}{d:PyData}
theorem dw (t:V×Sl) (ts:List (V×Sl)):tmp (t::ts)=(some t.1,t.2)::tmp ts:=rfl
theorem kD (ts tt:List (V×Sl)):tmp (ts++tt)=tmp ts++tmp tt:=by simp[tmp]
theorem jg {α β:Type}:∀ {l1:List α}{m1:List β} (x:α) (y:β) (l2:List α) (m2:List β),l1.length=m1.length→(l1++x::l2).zip (m1++y::m2)=l1.zip m1++(x,y)::l2.zip m2
 | [],[],_,_,_,_,_=>rfl
 | a::l1,b::m1,x,y,l2,m2,h=>by
  show (a,b)::(l1++x::l2).zip (m1++y::m2)=_
  rw [jg x y l2 m2 (by simpa using h)]
  rfl
 | [],_::_,_,_,_,_,h=>by simp at h
 | _::_,[],_,_,_,_,h=>by simp at h
theorem v6 {M':Addr→Prop}{v1 v2 us:List V}{d1 d2 l:List PyData}{a:Addr} (q1:DNs K M' H v1 d1) (q2:DNs K M' H v2 d2) (hm:∀ a,M' a→H a≠none) (ha:M' a) (hH:H a=some (.lst us)) (ql:DNs K M' H us l) :
  oas (tmp ((v1++.ref a::v2).zip (d1.map .fr++.io l::d2.map .fr)))=[a] ∧
  be K M' (jf (v1++.ref a::v2) (d1.map .fr++.io l::d2.map .fr)) H (tmp ((v1++.ref a::v2).zip (d1.map .fr++.io l::d2.map .fr))) H:=by
 have ez:(v1++.ref a::v2).zip (d1.map Sl.fr++.io l::d2.map .fr)=v1.zip (d1.map .fr)++(.ref a,.io l)::v2.zip (d2.map .fr):=jg _ _ _ _ (by simp[q1.len])
 have oe:oas (tmp ((v1++.ref a::v2).zip (d1.map .fr++.io l::d2.map .fr)))=[a]:=by
  rw [ez,kD,dw,ae,ag,fb,fb]
  rfl
 have ne:∀ b,Nw M' (tmp ((v1++.ref a::v2).zip (d1.map .fr++.io l::d2.map .fr))) b→M' b:=fun b z=>z.elim id fun z=>by rw[oe,DM] at z;rw[z];exact ha
 have cs:∀ x s,(x,s)∈tmp ((v1++.ref a::v2).zip (d1.map .fr++.io l::d2.map .fr))→(∃ w d,x=some w∧s=.fr d∧DN K M' H w d)∨(x=some (.ref a)∧s=.io l):=fun x s m=>by
  rw [ez,kD,dw] at m
  rcases DQ.mp m with m|m
  ·exact .inl (eN q1 m)
  ·rcases D3.mp m with m|m
   ·cases m;exact .inr ⟨rfl,rfl⟩
   ·exact .inl (eN q2 m)
 refine ⟨oe,aE.refl,fun a q=>q,hm,fun b z=>?_,fun x d m=>?_,fun x l' m=>?_,fun x l' m=>?_,fun x S l' m=>?_,by rw[oe];simp⟩
 rotate_right
 ·rcases cs x _ m with ⟨w,d',e1,e2,dn⟩|⟨_,e2⟩
  ·cases e2
  ·cases e2
 ·have z:b∈oas (tmp ((v1++.ref a::v2).zip (d1.map .fr++.io l::d2.map .fr))):=z
  rw [oe,DM] at z
  rw [z];exact ha
 ·rcases cs x _ m with ⟨w,d',e1,e2,dn⟩|⟨_,e2⟩
  ·cases e2;exact⟨w,e1,dn.to fun b _ _ z=>ne b z⟩
  ·cases e2
 ·rcases cs x _ m with ⟨w,d',e1,e2,dn⟩|⟨_,e2⟩
  ·cases e2
  ·cases e2
 ·rcases cs x _ m with ⟨w,d',e1,e2,dn⟩|⟨e1,e2⟩
  ·cases e2
  ·cases e2
   exact ⟨a,us,e1,hH,ql.to fun b _ _ z=>ne b z,by show a∈oas _;rw[oe];simp⟩
theorem be.lost {a:Addr}{l:List PyData} (h:be K M P H0 (E++[(some (.ref a),.ow l)]) H) (k:aE (fun b=>b=a) H H') (lv:∀ b,H b≠none→H' b≠none):be K M P H0 E H' ∧
  (∀ x d,(x,Sl.fr d)∈E→∃ w,x=some w∧∀ N2:Addr→Prop,(∀ b,N2 b→Nw M (E++[(some (.ref a),.ow l)]) b∨H b=none)→N2 a→DN K N2 H' w d) ∧
  (∀ x s ds,(x,s)∈E→gj s=some ds→∃ b vs,x=some (.ref b)∧H' b=some (.lst vs)∧∀ N2:Addr→Prop,(∀ b,N2 b→Nw M (E++[(some (.ref a),.ow l)]) b∨H b=none)→N2 a→DNs K N2 H' vs ds) ∧
  (∀ x S d,(x,Sl.tr S d)∈E→∃ w,x=some w∧∀ N2:Addr→Prop,(∀ b,N2 b→Nw M (E++[(some (.ref a),.ow l)]) b∨H b=none)→N2 a→OT K N2 H' w d S):=by
 have oe:oas (E++[(some (.ref a),Sl.ow l)])=oas E++[a]:=by
  rw [ae]
  rfl
 have nd:=h.nd
 rw [oe] at nd
 obtain ⟨n1,_,n3⟩:=DZ.mp nd
 have na:Nw M (E++[(some (.ref a),Sl.ow l)]) a:=.inr (by rw[oe];simp)
 obtain ⟨_,_,z,_,_,h0⟩:=h.ow _ _ (DL _ DY)
 cases z
 have sub:∀ b,Nw M E b→Nw M (E++[(some (.ref a),Sl.ow l)]) b:=fun b z=>fe z
 have kk:∀ b,b=a→Nw M (E++[(some (.ref a),Sl.ow l)]) b:=fun b z=>by rw[z];exact na
 have other:∀ b x s,(x,s)∈E→b∈cr (x,s)→b≠a:=fun b x s m eo z=>n3 b (aP.mpr ⟨_,m,eo⟩) a (by simp) z
 refine ⟨⟨?_,fun b q=>lv b (h.live b q),h.mt,h.pm,fun x d m=>?_,fun x d m=>?_,fun x d m=>?_,fun x S d m=>?_,n1⟩,fun x d m=>?_,fun x s ds m eo=>?_,fun x S d m=>?_⟩
 rotate_right
 ·obtain ⟨v,e,dn,r⟩:=h.tr x S d (DP _ m)
  subst e
  exact ⟨v,rfl,fun N2 n2 n2a=>dn.past n2 k (fun b z=>by rw[z];exact n2a) fun b hb z=>other b _ _ m (by rw[aC];exact hb) z⟩
 rotate_right 3
 ·obtain ⟨v,e,dn,r⟩:=h.tr x S d (DP _ m)
  subst e
  refine ⟨v,rfl,(dn.keep (k.mono kk) fun b hb=>?_).to fun b _ _ z=>sub b z,r⟩
  obtain ⟨xs,z⟩:=dn.lives b hb
  rw [k _ _ (other b _ _ m (by rw[aC];exact hb)) z,z]
 rotate_left 2
 ·intro b o np e
  refine k b o (fun z=>?_) (h.keep b o np e)
  rw [z,h0] at e
  cases e
 ·obtain ⟨v,e,dn⟩:=h.fr x d (DP _ m)
  exact ⟨v,e,(dn.keep (k.mono kk)).to fun b _ _ z=>sub b z⟩
 ·obtain ⟨b,us,e,e2,dn,r⟩:=h.ow x d (DP _ m)
  subst e
  exact ⟨b,us,rfl,k _ _ (other b _ _ m (DM.mpr rfl)) e2,(dn.keep (k.mono kk)).to fun b _ _ z=>sub b z,r⟩
 ·obtain ⟨b,us,e,e2,dn,r⟩:=h.io x d (DP _ m)
  subst e
  exact ⟨b,us,rfl,k _ _ (other b _ _ m (DM.mpr rfl)) e2,(dn.keep (k.mono kk)).to fun b _ _ z=>sub b z,r⟩
 ·obtain ⟨v,e,dn⟩:=h.fr x d (DP _ m)
  exact ⟨v,e,fun N2 n2 n2a=>dn.past n2 k fun b z=>by rw[z];exact n2a⟩
 ·cases s with
  | ow l' =>
   cases eo
   obtain ⟨b,us,e,e2,dn,r⟩:=h.ow x _ (DP _ m)
   subst e
   exact ⟨b,us,rfl,k _ _ (other b _ _ m (DM.mpr rfl)) e2,fun N2 n2 n2a=>dn.past n2 k fun b z=>by rw[z];exact n2a⟩
  | io l' =>
   cases eo
   obtain ⟨b,us,e,e2,dn,r⟩:=h.io x _ (DP _ m)
   subst e
   exact ⟨b,us,rfl,k _ _ (other b _ _ m (DM.mpr rfl)) e2,fun N2 n2 n2a=>dn.past n2 k fun b z=>by rw[z];exact n2a⟩
  | _=>cases eo
noncomputable def nB (sp:DSp) (t:DA):DE:=fun env R=>t env fun ss env1=>∃ l ss' ds,ss=.ow l::ss'∧aQ env1 ss'=some ds∧sp (.io l::ds.map .fr) (dK (fun r _=>R r env1) ⟨⟩)
theorem uG {sp:DSp}{tl:DA}:∀ σ H Q,up K (nB sp tl) σ H Q→nR (spD K sp) [] E0 (upA K tl) σ H Q:=fun σ H Q h=>by
 obtain ⟨M,P,H0,σ0,env,ts,R,rel,ht,hq⟩:=h
 refine ⟨M,P,H0,σ0,env,ts,_,rel,ht,fun ss env1 vs H1 h1 hl rel1=>?_⟩
 obtain ⟨l,ss',ds,rfl,ek,hsp⟩:=h1
 rw [Eh]
 obtain ⟨v1,vs',rfl⟩:=BX hl
 have rel1':Rel K M P H0 σ0 σ env1 ((ts++[(v1,.ow l)])++vs'.zip ss') H1:=by simpa using rel1
 have dns:=rel1'.keptAll (by simpa using hl) (fun p hp=>hp) ek
 have relT:=rel1'.drop
 have hE:=relT.e
 rw [ax] at hE
 obtain ⟨a,us,ea,hH,ql,h0⟩:=hE.ow (some v1) l (DL _ (by simp[tmp]))
 cases ea
 have hE:be K M P H0 (ay σ env1 ts++[(some (.ref a),.ow l)]) H1:=hE
 have eqN:Nw M (ay σ env1 (ts++[(.ref a,.ow l)]))=Nw M (ay σ env1 ts++[(some (.ref a),.ow l)]):=by rw[ax];rfl
 rw [eqN] at dns
 have ma:Nw M (ay σ env1 ts++[(some (.ref a),.ow l)]) a:=.inr (by rw[ae];exact DL _ (aP.mpr ⟨_,DM.mpr rfl,DM.mpr rfl⟩))
 have arg:=v6 (v1:=[]) (d1:=[]) (l:=l) (us:=us) (a:=a) (K:=K) (M':=Nw M (ay σ env1 ts++[(some (.ref a),.ow l)])) (H:=H1) .nil dns (fun b z hn=>relT.newAddr hn (by rw[eqN];exact z)) ma hH ql
 refine ⟨_,.io l::ds.map .fr,fun r _=>R r env1,by simp[dns.len],arg.2,hsp,fun r ss2 v H' hR hr post=>hq _ _ _ _ hR ?_⟩
 have k:aE (fun b=>b=a) H1 H':=post.keep.mono fun b z=>by
  have z:b∈oas (tmp ((.ref a::vs').zip (.io l::ds.map .fr))):=z
  have oe:=arg.1
  simp only [List.nil_append,Fy] at oe
  rw [oe,DM] at z
  exact z
 obtain ⟨rel',f1,f2,f3⟩:=hE.lost k post.live
 have rk:=post.resOk hr
 have rk':cJ K (Nw M (ay σ env1 ts)) H1 H' v r:=rk.to fun b z=>fe z
 have n2:∀ b,((Nw M (ay σ env1 ts) b∨(b∈cr (some v,r)∧H1 b=none))∨b=a)→Nw M (ay σ env1 ts++[(some (.ref a),.ow l)]) b∨H1 b=none:=fun b z=>by
  rcases z with (z|z)|z
  ·exact .inl (fe z)
  ·exact .inr z.2
  ·rw [z];exact .inl ma
 refine relT.drop.withRes ?_ hr
 refine rel'.getRes relT.e.live rk' (fun x d m=>?_) (fun x s ds' m eo=>?_) fun x S d m=>?_
 rotate_right
 ·obtain ⟨w,e,f⟩:=f3 x S d m
  exact ⟨w,e,(f (fun b=>(Nw M (ay σ env1 ts) b∨(b∈cr (some v,r)∧H1 b=none))∨b=a) n2 (.inr rfl)).to fun b _ _ z=>.inl z⟩
 ·obtain ⟨w,e,f⟩:=f1 x d m
  exact ⟨w,e,(f (fun b=>(Nw M (ay σ env1 ts) b∨(b∈cr (some v,r)∧H1 b=none))∨b=a) n2 (.inr rfl)).to fun b _ _ z=>.inl z⟩
 ·obtain ⟨b,us',e,e2,f⟩:=f2 x s ds' m eo
  exact ⟨b,us',e,e2,(f (fun b=>(Nw M (ay σ env1 ts) b∨(b∈cr (some v,r)∧H1 b=none))∨b=a) n2 (.inr rfl)).to fun b _ _ z=>.inl z⟩
noncomputable def j9 (sp:DSp) (m:Nat) (t:DA):DE:=fun env R=>t env fun ss env1=>∃ i s0 l d1 d2,ss[m]? = some (.vw i)∧env1[i]? = some s0∧gj s0=some l∧aQ env1 (ss.take m)=some d1∧aQ env1 (ss.drop (m+1))=some d2 ∧
 sp (d1.map .fr++.io l::d2.map .fr) (dK (fun r as=>∃ l' s',as[m]? = some (.io l')∧cD s0 l'=some s'∧R r (env1.set i s')) ⟨⟩)
theorem sG {α β:Type} (l:List α) (m:List β) (n:Nat):∀ p∈(l.take n).zip (m.take n),p∈l.zip m:=fun p hp=>by
 rw [List.zip,←List.take_zipWith] at hp
 exact List.mem_of_mem_take hp
theorem ur {α β:Type} (l:List α) (m:List β) (n:Nat):∀ p∈(l.drop n).zip (m.drop n),p∈l.zip m:=fun p hp=>by
 rw [List.zip,←List.drop_zipWith] at hp
 exact List.mem_of_mem_drop hp
theorem AQ {α:Type}{l:List α}{m:Nat}{x:α} (h:l[m]? = some x):l=l.take m++x::l.drop (m+1):=by
 obtain ⟨hm,e⟩:=DX.mp h
 rw [←e,List.getElem_cons_drop,List.take_append_drop]
theorem uH {sp:DSp}{m:Nat}{tl:DA}:∀ σ H Q,up K (j9 sp m tl) σ H Q→nR (spD K sp) [] E0 (upA K tl) σ H Q:=fun σ H Q h=>by
 obtain ⟨M,P,H0,σ0,env,ts,R,rel,ht,hq⟩:=h
 refine ⟨M,P,H0,σ0,env,ts,_,rel,ht,fun ss env1 vs H1 h1 hl rel1=>?_⟩
 obtain ⟨i,s0,l,d1,d2,em,ei,eo,k1,k2,hsp⟩:=h1
 rw [Eh]
 have relT:=rel1.drop
 obtain ⟨a,us,ea,hH,ql⟩:=relT.mine ei eo
 have hm:m<ss.length:=(DX.mp em).1
 have hmv:m<vs.length:=by omega
 have va:vs[m]? = some (.ref a):=by
  have mz:(vs[m],ss[m])∈vs.zip ss:=by
   have hz:m<(vs.zip ss).length:=by rw[Ft];omega
   have:=EE hz
   rwa [List.getElem_zip] at this
  rw [(DX.mp em).2] at mz
  have q:=rel1.vw _ _ (DL _ mz)
  rw [ea] at q
  rw [DR hmv]
  exact congrArg some (Option.some.inj (Option.some.inj q)).symm
 have ev:=AQ va
 have q1:=rel1.keptAll (vs:=vs.take m) (ss:=ss.take m) (by simp;omega) (sG _ _ _) k1
 have q2:=rel1.keptAll (vs:=vs.drop (m+1)) (ss:=ss.drop (m+1)) (by simp;omega) (ur _ _ _) k2
 have hE:=relT.e
 have ma:Nw M (ay σ env1 ts) a:=by
  obtain ⟨x,e1,mm⟩:=relT.slot ei
  rw [ea] at e1
  cases e1
  refine .inr (aP.mpr ⟨_,mm,?_⟩)
  exact (mK eo).2 a
 have arg:=v6 (l:=l) (us:=us) (a:=a) q1 q2 (fun b z hn=>relT.newAddr hn z) ma hH ql
 rw [←ev] at arg
 have ld1:=q1.len
 have ld2:=q2.len
 refine ⟨_,d1.map .fr++.io l::d2.map .fr,_,?_,arg.2,hsp,fun r ss2 v H' hR hr post=>?_⟩
 ·rw [ev]
  simp only [El,Et,DK]
  omega
 obtain ⟨l',s',e2,es,hR⟩:=hR
 refine hq _ _ _ _ hR ?_
 have k:aE (fun b=>b=a) H1 H':=post.keep.mono fun b z=>by
  have z:b∈oas (tmp (vs.zip (d1.map .fr++.io l::d2.map .fr))):=z
  rw [arg.1,DM] at z
  exact z
 have mp:((some (.ref a),.io l'):Ent)∈tmp ((v,r)::vs.zip ss2):=by
  rw [dw]
  refine D0 _ (D4.mpr ⟨(.ref a,.io l'),?_,rfl⟩)
  have h2:m<ss2.length:=(DX.mp e2).1
  have hz:m<(vs.zip ss2).length:=by rw[Ft];omega
  have:=EE hz
  rw [List.getElem_zip,(DX.mp va).2,(DX.mp e2).2] at this
  exact this
 obtain ⟨a',us',z,hH',ql',_⟩:=post.io _ _ mp
 cases z
 obtain ⟨x,A,B,e3,sp1,sp2⟩:=relT.split ei
 rw [ea] at e3
 cases e3
 have iso:xH s0 l' s':=(hJ es).1
 rw [sp1] at hE
 have dnl:DNs K (Nw M (A++(some (.ref a),s0)::B)) H' us' l':=ql'.to fun b _ _ z=>.inl (by rw[sp1];exact z)
 have hM:=hE.muted iso k post.live hH' dnl
 have neq:Nw M (ay σ (env1.set i s') ts)=Nw M (ay σ env1 ts):=by
  rw [sp1,sp2]
  have oa:cr (some (.ref a),s0)=[a]∧cr (some (.ref a),s')=[a]:=by
   exact eh iso
  unfold Nw
  rw [ae,ae,ag,ag,oa.1,oa.2]
 rw [←sp2] at hM
 have rk:cJ K (Nw M (ay σ (env1.set i s') ts)) H1 H' v r:=by rw[neq];exact post.resOk hr
 have relB:Rel K M P H0 σ0 σ (env1.set i s') ts H':=⟨hM,by simp[relT.len],relT.vw,fun j ds'' e'=>by
  by_cases hj:i=j
  ·subst hj
   have hi:i<env1.length:=(DX.mp ei).1
   rw [Eg hi] at e'
   cases e'
   obtain ⟨ds0,rfl⟩:=pE es
   exact relT.ios i ds0 ei
  ·rw [Ef hj] at e'
   exact relT.ios j ds'' e'⟩
 refine relB.withRes ?_ hr
 have old:∀ x t,(x,t)∈ay σ (env1.set i s') ts→(x,t)=(some (.ref a),s')∨((x,t)∈A∨(x,t)∈B):=fun x t m=>by
  rw [sp2] at m
  rcases DQ.mp m with m|m
  ·exact .inr (.inl m)
  ·rcases D3.mp m with m|m
   ·exact .inl m
   ·exact .inr (.inr m)
 have back:∀ x t,(x,t)∈A∨(x,t)∈B→(x,t)∈A++(some (.ref a),s0)::B:=fun x t m=>by
  rcases m with m|m
  ·exact DP _ m
  ·exact DL _ (D0 _ m)
 have n2:∀ b,(Nw M (ay σ (env1.set i s') ts) b∨(b∈cr (some v,r)∧H1 b=none))→Nw M (A++(some (.ref a),s0)::B) b∨H1 b=none:=fun b z=>by
  rw [neq,sp1] at z
  exact z.elim .inl fun z=>.inr z.2
 have pa:∀ b,b=a→(Nw M (ay σ (env1.set i s') ts) b∨(b∈cr (some v,r)∧H1 b=none)):=fun b z=>by rw[z,neq];exact .inl ma
 have oa0:cr (some (.ref a),s0)=[a]:=(eh iso).1
 have nd:=hE.nd
 rw [ae,ag,oa0] at nd
 obtain ⟨_,nd2,nd3⟩:=DZ.mp nd
 obtain ⟨nd4,_⟩:=Ej.mp nd2
 have other:∀ x t b,(x,t)∈A∨(x,t)∈B→b∈cr (x,t)→b≠a:=fun x t b m eo z=>by
  subst z
  rcases m with m|m
  ·exact nd3 b (aP.mpr ⟨_,m,eo⟩) b DY rfl
  ·exact nd4 (aP.mpr ⟨_,m,eo⟩)
 refine hM.getRes relT.e.live rk (fun x d mm=>?_) (fun x t ds' mm eo'=>?_) fun x S d mm=>?_
 rotate_right
 ·rcases old _ _ mm with mm|mm
  ·rcases cA iso with ⟨_,_,e⟩|⟨_,_,e⟩ <;> (rw[e] at mm;cases mm)
  ·obtain ⟨w,e,dn,_⟩:=hE.tr x S d (back _ _ mm)
   subst e
   exact ⟨w,rfl,dn.past n2 k pa fun b hb z=>other _ _ b mm (by rw[aC];exact hb) z⟩
 ·rcases old _ _ mm with mm|mm
  ·rcases cA iso with ⟨_,_,e⟩|⟨_,_,e⟩ <;> (rw[e] at mm;cases mm)
  ·obtain ⟨w,e,dn⟩:=hE.fr x d (back _ _ mm)
   exact ⟨w,e,dn.past n2 k pa⟩
 ·rcases old _ _ mm with mm|mm
  ·cases mm
   have el:ds'=l':=Option.some.inj (eo'.symm.trans (hJ es).2)
   subst el
   refine ⟨a,us',rfl,hH',ql'.to fun b _ _ z=>?_⟩
   rcases z with z|z
   ·exact .inl (by rw[←neq];exact z)
   ·exact .inr (by rw[dw,ag];exact DP _ z.1)
  ·cases t with
   | ow l2 =>
    cases eo'
    obtain ⟨b,us2,e,e2',dn,_⟩:=hE.ow x _ (back _ _ mm)
    subst e
    exact ⟨b,us2,rfl,k _ _ (other _ _ b mm (DM.mpr rfl)) e2',dn.past n2 k pa⟩
   | io l2 =>
    cases eo'
    obtain ⟨b,us2,e,e2',dn,_⟩:=hE.io x _ (back _ _ mm)
    subst e
    exact ⟨b,us2,rfl,k _ _ (other _ _ b mm (DM.mpr rfl)) e2',dn.past n2 k pa⟩
   | _=>cases eo'
end
structure kz where
 nx : List Sl→Prop
 rt : Sl→List Sl→Prop
 bk : List Sl→Prop:=fun _=>False
 ct : List Sl→Prop:=fun _=>False
noncomputable abbrev DS:=kz→List Sl→Prop
noncomputable def rY (ts:List (V×Sl)):Prop:=∀ v i,(v,Sl.vw i) ∉ ts
structure wd (K:PySem.W.Frag) (M P:Addr→Prop) (H0:Hp) (σ0:St) (ts:List (V×Sl)) (DD:kz) (D:o9):Prop where
 nx : ∀ σ' env' H',DD.nx env'→Rel K M P H0 σ0 σ' env' ts H'→D.nx σ' H'
 rt : ∀ s env' v σ' H',DD.rt s env'→Rel K M P H0 σ0 σ' env' (ts++[(v,s)]) H'→D.rt v H'
 bk : ∀ σ' env' H',DD.bk env'→Rel K M P H0 σ0 σ' env' ts H'→D.bk σ' H'
 ct : ∀ σ' env' H',DD.ct env'→Rel K M P H0 σ0 σ' env' ts H'→D.ct σ' H'
inductive upS (K:PySem.W.Frag) (t:DS) (D:o9) (σ:St) (H:Hp):Prop
 | mk (M P:Addr→Prop) (H0:Hp) (σ0:St) (env:List Sl) (ts:List (V×Sl)) (DD:kz):rY ts→Rel K M P H0 σ0 σ env ts H→t DD env→wd K M P H0 σ0 ts DD D→upS K t D σ H
theorem PS.imp {X:Cx}{e:Stmt}{t t':TS} (h:PS X e t) (k:∀ D σ H,t' D σ H→t D σ H):PS X e t':=fun pins s σ H D I hw=>h pins s σ H D I (k D σ H hw)
theorem PSs.imp {X:Cx}{e:List Stmt}{t t':TS} (h:PSs X e t) (k:∀ D σ H,t' D σ H→t D σ H):PSs X e t':=fun pins s σ H D I hw=>h pins s σ H D I (k D σ H hw)
section
variable {K:PySem.W.Frag}{M P N:Addr→Prop}{H0 H H':Hp}{σ0 σ:St}{env:List Sl}{ts tt:List (V×Sl)}{v:V}{s:Sl}{d:PyData}
noncomputable def gO (env:List Sl):Sl→Option Sl
 | .fr d=>some (.fr d)
 | .ow ds=>some (.ow ds)
 | .tr S d=>some (.tr S d)
 | .vw i=>((env[i]?).bind slK).map .fr
 | _=>none
theorem Rel.unVw (h:Rel K M P H0 σ0 σ env (ts++[(v,s)]) H) {s':Sl} (e:gO env s=some s'):Rel K M P H0 σ0 σ env (ts++[(v,s')]) H∧iS s'=true:=by
 cases s with
 | fr d=>cases e;exact⟨h,rfl⟩
 | ow ds=>cases e;exact⟨h,rfl⟩
 | tr S d=>cases e;exact⟨h,rfl⟩
 | vw i =>
  have e:((env[i]?).bind slK).map Sl.fr=some s':=e
  cases q:(env[i]?).bind slK with
  | none=>rw[q] at e;cases e
  | some d =>
   rw [q] at e
   cases e
   exact ⟨h.drop.addFr (h.kept (tt:=[(v,.vw i)]) (s:=.vw i) (by simp) q),rfl⟩
 | _=>cases e
theorem sy {σ:St}{env:List Sl}{i:Nat}{x:Option V}{s':Sl}:(σ.set i x).zip (env.set i s')=(σ.zip env).set i (x,s'):=by
 apply List.ext_getElem?
 intro j
 rw [dc]
 by_cases hj:i=j
 ·subst hj
  rw [E9,E9,E9,dc]
  cases σ[i]? <;> cases env[i]? <;> rfl
 ·rw [Ef hj,Ef hj,Ef hj,dc]
theorem Rel.store (h:Rel K M P H0 σ0 σ env (ts++[(v,s)]) H) (nv:rY ts) {i:Nat} (hi:i<env.length) (hs:iS s=true):Rel K M P H0 σ0 (σ.set i (some v)) (env.set i s) ts H:=by
 have hiz:i<(σ.zip env).length:=by rw[Ft,h.len];omega
 obtain ⟨A,B,q1,q2⟩:=d6 (DR hiz)
 refine ⟨?_,by simp[h.len],fun w j m=>absurd m (nv w j),fun j ds e=>?_⟩
 ·have hE:=h.e
  unfold ay at hE ⊢
  rw [q1,kD,Ek] at hE
  rw [sy,q2,Ek]
  have e2:((σ.zip env)[i]::B)++(tmp ts++tmp [(v,s)])=(σ.zip env)[i]::((B++tmp ts)++[(some v,s)]):=by simp[tmp]
  rw [e2] at hE
  have:=hE.move
  simpa using this
 ·by_cases hj:i=j
  ·subst hj
   rw [Eg hi] at e
   cases e
   cases hs
  ·rw [Ef hj] at e
   rw [Ef hj]
   exact h.ios j ds e
end
section
variable {X:Cx}{K:PySem.W.Frag}{pos:Pos}{st:Stmt}{bI a b:List Stmt}{t u:DS}{e c:Expr}{te:DE}{tc:DT}
noncomputable def yl:DS:=fun DD env=>DD.nx env
noncomputable def yD (t u:DS):DS:=fun DD env=>t { DD with nx:=u DD } env
noncomputable def Dx (t u:DS):DS:=fun DD env=>∃ R:List Sl→Prop,t { DD with nx:=dI R ⟨⟩ } env∧∀ env',R env'→u DD env'
theorem cy:PSs X [] (upS K yl):=wQ.imp fun D σ H h=>by
 obtain ⟨M,P,H0,σ0,env,ts,DD,nv,rel,ht,ok⟩:=h
 exact ok.nx _ _ _ ht rel
theorem bp (h1:PS X st (upS K t)) (h2:PSs X bI (upS K u)):PSs X (st::bI) (upS K (yD t u)):=(mH h1 h2).imp fun D σ H h=>by
 obtain ⟨M,P,H0,σ0,env,ts,DD,nv,rel,ht,ok⟩:=h
 exact ⟨M,P,H0,σ0,env,ts,_,nv,rel,ht,⟨fun σ' env' H' q r=>⟨M,P,H0,σ0,env',ts,DD,nv,r,q,ok⟩,ok.rt,ok.bk,ok.ct⟩⟩
theorem vd (h1:PS X st (upS K t)) (h2:PSs X bI (upS K u)):PSs X (st::bI) (upS K (Dx t u)):=(wR h1 h2).imp fun D σ H h=>by
 obtain ⟨M,P,H0,σ0,env,ts,DD,nv,rel,⟨R,ht,hR⟩,ok⟩:=h
 exact ⟨fun σ' H'=>∃ env',R env'∧Rel K M P H0 σ0 σ' env' ts H',⟨M,P,H0,σ0,env,ts,_,nv,rel,ht,⟨fun σ' env' H' q r=>⟨env',q,r⟩,ok.rt,ok.bk,ok.ct⟩⟩,
  fun σ' H' ⟨env',q,r⟩=>⟨M,P,H0,σ0,env',ts,DD,nv,r,hR env' q,ok⟩⟩
theorem am (h1:PS X st (upS K t)):PSs X [st] (upS K t):=kT h1
noncomputable def yq:DS:=fun DD env=>DD.ct env
theorem om:PS X (.Continue pos) (upS K yq):=kU.imp fun D σ H h=>by
 obtain ⟨M,P,H0,σ0,env,ts,DD,nv,rel,ht,ok⟩:=h
 exact ok.ct _ _ _ ht rel
noncomputable def oS (te:DE):DS:=fun DD env=>te env fun _ env1=>DD.nx env1
theorem eY (he:PE X e (up K te)) (hs:swapsWith e none pos.line X.env=pure false:=by rfl):PS X (.Expr e pos) (upS K (oS te)):=(wS he hs).imp fun D σ H h=>by
 obtain ⟨M,P,H0,σ0,env,ts,DD,nv,rel,ht,ok⟩:=h
 exact ⟨M,P,H0,σ0,env,ts,_,rel,ht,fun s1 env1 v1 H1 h1 rel1=>ok.nx _ _ _ h1 rel1.drop⟩
noncomputable def AJ (te:DE):DS:=fun DD env=>te env DD.rt
theorem bP (he:PE X e (up K te)):PS X (.Return (some e) pos) (upS K (AJ te)):=(vf he).imp fun D σ H h=>by
 obtain ⟨M,P,H0,σ0,env,ts,DD,nv,rel,ht,ok⟩:=h
 exact ⟨M,P,H0,σ0,env,ts,_,rel,ht,fun s1 env1 v1 H1 h1 rel1=>ok.rt _ _ _ _ _ h1 rel1⟩
noncomputable def AL (c:DT) (t u:DS):DS:=fun DD env=>c env fun k env1=>if k=true then t DD env1 else u DD env1
theorem kA (hc:PT X c (upT K tc)) (ha:PSs X a (upS K t)) (hb:PSs X b (upS K u)):PS X (.If c a b pos) (upS K (AL tc t u)):=(zz hc ha hb).imp fun D σ H h=>by
 obtain ⟨M,P,H0,σ0,env,ts,DD,nv,rel,ht,ok⟩:=h
 refine ⟨M,P,H0,σ0,env,ts,_,rel,ht,fun k env1 H1 h1 rel1=>?_⟩
 cases k with
 | true=>exact⟨M,P,H0,σ0,env1,ts,DD,nv,rel1,h1,ok⟩
 | false=>exact⟨M,P,H0,σ0,env1,ts,DD,nv,rel1,h1,ok⟩
noncomputable def vO (i:Nat) (te:DE):DS:=fun DD env=>te env fun s env1=>∃ s',i<env1.length∧gO env1 s=some s'∧DD.nx (env1.set i s')
theorem aG {i:Nat}{x:Str}{pos':Pos} (hN:X.N.Nodup) (hi:X.N[i]? = some x) (hx:Loc X.env.scope x) (he:PE X e (up K te)) (hs:swapsWith e (some (.Name x pos')) pos.line X.env=pure false:=by rfl) (hf:X.fn x=true∨X.env.scope.names.lookup x=some .local:=by first|exact .inl rfl|exact .inr rfl|assumption):PS X (.Assign [.Name x pos'] e pos) (upS K (vO i te)) :=
 (zy hN hi hx he hs hf).imp fun D σ H h=>by
 obtain ⟨M,P,H0,σ0,env,ts,DD,nv,rel,ht,ok⟩:=h
 refine ⟨M,P,H0,σ0,env,ts,_,rel,ht,fun s1 env1 v1 H1 h1 rel1=>?_⟩
 obtain ⟨s',hl,es,hR⟩:=h1
 obtain ⟨r,cs⟩:=rel1.unVw es
 exact ok.nx _ _ _ hR (r.store nv hl cs)
end
noncomputable abbrev DG:=PyData→List Sl→(List Sl→Prop)→Prop
noncomputable abbrev DGs:=List PyData→List Sl→(List Sl→Prop)→Prop
inductive upG (K:PySem.W.Frag) (g:DG) (v:V) (σ:St) (H:Hp) (Q:St→Hp→Prop):Prop
 | mk (M P:Addr→Prop) (H0:Hp) (σ0:St) (env:List Sl) (ts:List (V×Sl)) (d:PyData) (R:List Sl→Prop):rY ts→Rel K M P H0 σ0 σ env ts H→DN K (Nw M (ay σ env ts)) H v d→g d env R →
 (∀ σ' env' H',R env'→Rel K M P H0 σ0 σ' env' ts H'→Q σ' H')→upG K g v σ H Q
inductive yQ (K:PySem.W.Frag) (g:DGs) (vs:List V) (σ:St) (H:Hp) (Q:St→Hp→Prop):Prop
 | mk (M P:Addr→Prop) (H0:Hp) (σ0:St) (env:List Sl) (ts:List (V×Sl)) (ds:List PyData) (R:List Sl→Prop):rY ts→Rel K M P H0 σ0 σ env ts H→DNs K (Nw M (ay σ env ts)) H vs ds→g ds env R →
 (∀ σ' env' H',R env'→Rel K M P H0 σ0 σ' env' ts H'→Q σ' H')→yQ K g vs σ H Q
theorem PG.imp {X:Cx}{e:Expr}{t t':TG} (h:PG X e t) (k:∀ v σ H Q,t' v σ H Q→t v σ H Q):PG X e t':=fun pins s σ H v u Q I r hw=>h pins s σ H v u Q I r (k v σ H Q hw)
theorem PGs.imp {X:Cx}{e:List Expr}{t t':TGs} (h:PGs X e t) (k:∀ v σ H Q,t' v σ H Q→t v σ H Q):PGs X e t':=fun pins s σ H v u Q I r hw=>h pins s σ H v u Q I r (k v σ H Q hw)
section
variable {K:PySem.W.Frag}{M P N:Addr→Prop}{H0 H H':Hp}{σ0 σ:St}{env:List Sl}{ts tt kp:List (V×Sl)}{v:V}{s:Sl}{d:PyData}{X:Cx}{pos:Pos}{e:Expr}{es:List Expr}
theorem qw (v:V) (d:PyData):oas (tmp [(v,Sl.fr d)])=[]:=by
 show oas [(some v,Sl.fr d)]=[]
 rw [ag]
 cases v <;> rfl
theorem tz {E:List Ent}{v:V}{d:PyData}:Nw M (E++tmp [(v,Sl.fr d)])=Nw M E:=by
 unfold Nw
 rw [ae,qw,Eh]
noncomputable def nt (i:Nat):DG:=fun d env R=>i<env.length∧R (env.set i (.fr d))
theorem al {i:Nat}{x:Str} (hN:X.N.Nodup) (hi:X.N[i]? = some x) (hx:Loc X.env.scope x) (hf:X.fn x=true∨X.env.scope.names.lookup x=some .local:=by first|exact .inl rfl|exact .inr rfl|assumption):PG X (.Name x pos) (upG K (nt i)) :=
 (w4 hN hi hx hf).imp fun v σ H Q h=>by
 obtain ⟨M,P,H0,σ0,env,ts,d,R,nv,rel,dn,⟨hl,hR⟩,hq⟩:=h
 exact hq _ _ _ hR ((rel.addFr dn).store nv hl rfl)
noncomputable def yb:DGs:=fun ds env R=>ds=[]∧R env
noncomputable def rg (g:DG) (gs:DGs):DGs:=fun ds env R=>∃ d r,ds=d::r∧g d env fun env1=>gs r env1 R
theorem dN:PGs X [] (yQ K yb):=wZ.imp fun v σ H Q h=>by
 obtain ⟨M,P,H0,σ0,env,ts,ds,R,nv,rel,dn,⟨rfl,hR⟩,hq⟩:=h
 cases dn
 exact ⟨rfl,hq _ _ _ hR rel⟩
theorem mT (env:List Sl):∀ ds:List PyData,aQ env (ds.map .fr)=some ds
 | []=>rfl
 | d::ds=>by
  show (aD env (Sl.fr d)).bind _=_
  rw [mT env ds]
  rfl
theorem xr (vs:List V) (ds:List PyData) (nv:rY ts):rY (ts++vs.zip (ds.map .fr)):=fun w i m=>by
 rcases DQ.mp m with m|m
 ·exact nv w i m
 ·obtain ⟨d,_,e⟩:=D4.mp (Fq m).2
  cases e
theorem Rel.addFrs:∀ {vs:List V}{ds:List PyData}{ts:List (V×Sl)},Rel K M P H0 σ0 σ env ts H→DNs K (Nw M (ay σ env ts)) H vs ds→Rel K M P H0 σ0 σ env (ts++vs.zip (ds.map .fr)) H
 | _,_,ts,rel,.nil=>by simpa using rel
 | _,_,ts,rel,@DNs.cons _ _ _ v vs d ds h q=>by
  have r:=rel.addFr h
  have q':DNs K (Nw M (ay σ env (ts++[(v,.fr d)]))) H vs ds:=q.to fun b _ _ z=>by rw[ax,tz] at z;exact z
  have:=Rel.addFrs r q'
  simpa using this
theorem bj {g:DG}{gs:DGs} (h1:PG X e (upG K g)) (h2:PGs X es (yQ K gs)) (hs:(assignEach (e::es) X.env).map (·.2)=assign e X.env::(assignEach es X.env).map (·.2):=by rfl):PGs X (e::es) (yQ K (rg g gs)) :=
 (sZ h1 h2 hs).imp fun vs σ H Q h=>by
 obtain ⟨M,P,H0,σ0,env,ts,ds,R,nv,rel,dn,⟨d,r,rfl,hg⟩,hq⟩:=h
 cases dn with
 | @cons v vs _ _ h q =>
  have relA:=rel.addFrs q
  have hN:DN K (Nw M (ay σ env (ts++vs.zip (r.map .fr)))) H v d:=h.to fun b _ _ z=>by
   rw [ax] at z
   rcases z with z|z
   ·exact .inl z
   ·rw [ae,fb,Eh] at z
    exact .inr z
  refine ⟨v,vs,rfl,M,P,H0,σ0,env,ts++vs.zip (r.map .fr),d,_,xr _ _ nv,relA,hN,hg,fun σ' env' H' hR' rel'=>?_⟩
  exact ⟨M,P,H0,σ0,env',ts,r,R,nv,rel'.drop,rel'.keptAll (by simp[q.len]) (fun p hp=>hp) (mT _ _),hR',hq⟩
noncomputable def ya (n:Nat) (gs:DGs):DG:=fun d env R=>∃ ds,d=.tuple ds∧ds.length=n∧gs ds env R
theorem gc {k:Nat}{gs:DGs}{n:Nat} (hK:X.K=K) (hc:X.calm=true) (h:PGs X es (yQ K gs)) (hn:(assignEach es X.env).length=n:=by rfl) (hst:(assignEach es X.env).findIdx? (·.1)=none:=by rfl):PG X (.Tuple es k pos) (upG K (ya n gs)) :=
 (B0 (K:=K) hK hc h hn hst).imp fun v σ H Q h=>by
 obtain ⟨M,P,H0,σ0,env,ts,d,R,nv,rel,dn,⟨ds,rfl,hl,hg⟩,hq⟩:=h
 obtain ⟨a,xs,rfl,sn,q⟩:=dn.tuple
 exact ⟨a,xs,rfl,sn.sq,by rw[q.len];exact hl,M,P,H0,σ0,env,ts,ds,R,nv,rel,q,hg,hq⟩
structure iu (K:PySem.W.Frag) (J:It) (kp:List (V×Sl)) (ds:List PyData):Prop where
 go : ∀ {M P:Addr→Prop}{H0 H:Hp}{σ0 σ:St}{env:List Sl}{ts:List (V×Sl)},Rel K M P H0 σ0 σ env (ts++kp) H→∀ i,i<ds.length→J.go i H
 yld:∀ {M P:Addr→Prop}{H0 H:Hp}{σ0 σ:St}{env:List Sl}{ts:List (V×Sl)},Rel K M P H0 σ0 σ env (ts++kp) H→∀ i x H',(hi:i<ds.length)→J.yld i H x H'→aO H H'∧DN K (Nw M (ay σ env (ts++kp))) H' x ds[i]
 stop:∀ {M P:Addr→Prop}{H0 H:Hp}{σ0 σ:St}{env:List Sl}{ts:List (V×Sl)},Rel K M P H0 σ0 σ env (ts++kp) H→J.stop ds.length H
 nv : rY kp
noncomputable abbrev DI:=List Sl→(List PyData→List Sl→Prop)→Prop
inductive upI (K:PySem.W.Frag) (t:DI) (σ:St) (H:Hp) (R:It→Hp→Prop):Prop
 | mk (M P:Addr→Prop) (H0:Hp) (σ0:St) (env:List Sl) (ts:List (V×Sl)) (RR:List PyData→List Sl→Prop):Rel K M P H0 σ0 σ env ts H→t env RR →
 (∀ ds env' J H' kp,RR ds env'→Rel K M P H0 σ0 σ env' (ts++kp) H'→iu K J kp ds→R J H')→upI K t σ H R
theorem PI.imp {tg iter:Expr}{t t':TI} (h:PI X tg iter t) (k:∀ σ H R,t' σ H R→t σ H R):PI X tg iter t':=fun pins s σ H R I hw=>h pins s σ H R I (k σ H R hw)
theorem a8 {b:Bool}{a:Addr}{ds:List PyData} (rel:Rel K M P H0 σ0 σ env ts H) (m:(.ref a,.fr (if b then .tuple ds else .list ds))∈ts):∃ xs,SqB K H b a xs∧DNs K (Nw M (ay σ env ts)) H xs ds:=by
 obtain ⟨v,e,dn⟩:=rel.e.fr _ _ (dj m)
 cases e
 cases b with
 | false =>
  obtain ⟨a',xs,e,sn,q⟩:=DN.list dn
  cases e
  exact ⟨xs,sn.sq,q⟩
 | true =>
  obtain ⟨a',xs,e,sn,q⟩:=DN.tuple dn
  cases e
  exact ⟨xs,sn.sq,q⟩
theorem DNs.item {vs:List V}{ds:List PyData} (q:DNs K N H vs ds) {i:Nat} (hi:i<ds.length):∃ x,vs[i]? = some x∧DN K N H x ds[i]:=by
 have hv:i<vs.length:=by rw[q.len];exact hi
 obtain ⟨e,h1,h2⟩:=q.get (DR hv)
 rw [DR hi] at h1
 cases h1
 exact ⟨vs[i],DR hv,h2⟩
theorem xt {v:V}{d:PyData}:rY [(v,Sl.fr d)]:=fun w i m=>by rw[DM] at m;cases m
theorem qQ {a:Addr}{ds:List PyData}:iu K (Itl K a) [(.ref a,.fr (.list ds))] ds where
 go := fun rel i hi=>by
  obtain ⟨xs,s,q⟩:=a8 (b:=false) (a:=a) (ds:=ds) rel (DL _ (by simp))
  obtain ⟨x,e,_⟩:=q.item hi
  exact ⟨xs,x,s,e⟩
 yld:=fun rel i x H' hi y=>by
  obtain ⟨xs,s,q⟩:=a8 (b:=false) (a:=a) (ds:=ds) rel (DL _ (by simp))
  obtain ⟨e,y⟩:=y
  subst e
  obtain ⟨x',e',dn⟩:=q.item hi
  rw [y xs s] at e'
  cases e'
  exact ⟨aO.refl _,dn⟩
 stop:=fun rel=>by
  obtain ⟨xs,s,q⟩:=a8 (b:=false) (a:=a) (ds:=ds) rel (DL _ (by simp))
  exact ⟨xs,s,by rw[q.len];exact D2 _⟩
 nv := xt
noncomputable def eW (lo:Int) (n:Nat):List PyData:=(List.range n).map fun (k:Nat)=>PyData.int (lo+k)
theorem aw (lo:Int) (n:Nat):(eW lo n).length=n:=by simp[eW]
theorem bw (lo:Int) (n i:Nat) (h:i<(eW lo n).length):(eW lo n)[i]=.int (lo+i):=by simp[eW]
theorem oH {lo:Int}{n:Nat}:iu K (Itr lo n) [] (eW lo n) where
 go := fun rel i hi=>by rw[aw] at hi;exact hi
 yld:=fun rel i x H' hi y=>by
  obtain ⟨e,y⟩:=y
  subst e
  rw [bw,y]
  exact ⟨aO.refl _,.int _⟩
 stop:=fun rel=>by rw[aw];exact D2 _
 nv := fun w i m=>by cases m
noncomputable def iU (ds:List PyData):List PyData:=ds.zipIdx.map fun (p:PyData×Nat)=>PyData.tuple [.int p.2,p.1]
theorem aM (ds:List PyData):(iU ds).length=ds.length:=by simp[iU]
theorem cR (ds:List PyData) (i:Nat) (h:i<(iU ds).length):(iU ds)[i]=.tuple [.int i,ds[i]'(by rw[aM] at h;exact h)]:=by simp[iU]
theorem qS {b:Bool}{a:Addr}{ds:List PyData}:iu K (Ite K b a) [(.ref a,.fr (if b then .tuple ds else .list ds))] (iU ds) where
 go := fun rel i hi=>by
  rw [aM] at hi
  obtain ⟨xs,s,q⟩:=a8 (b:=b) (a:=a) (ds:=ds) rel (DL _ (by simp))
  obtain ⟨x,e,_⟩:=q.item hi
  exact ⟨xs,x,s,e⟩
 yld:=fun {M P H0 H σ0 σ env ts} rel i x H' hi y=>by
  rw [cR]
  rw [aM] at hi
  obtain ⟨xs,s,q⟩:=a8 (b:=b) (a:=a) (ds:=ds) rel (DL _ (by simp))
  obtain ⟨p,x1,rfl,hp,rfl,y⟩:=y
  obtain ⟨x',e',dn⟩:=q.item hi
  rw [y xs s] at e'
  cases e'
  exact ⟨aO.new hp,DN.of2 (SnT.of ar (rel.newAddr hp)) (.int _) (dn.keep (aE.same (aO.new hp)))⟩
 stop:=fun rel=>by
  obtain ⟨xs,s,q⟩:=a8 (b:=b) (a:=a) (ds:=ds) rel (DL _ (by simp))
  exact ⟨xs,s,by rw[q.len,aM]⟩
 nv := xt
noncomputable def sk (ds es:List PyData):List PyData:=List.zipWith (fun d e=>PyData.tuple [d,e]) ds es
theorem cu (ds es:List PyData):(sk ds es).length=min ds.length es.length:=by simp[sk]
theorem t8 {b c:Bool}{a a':Addr}{ds es:List PyData}:iu K (Itz K b c a a') [(.ref a,.fr (if b then .tuple ds else .list ds)),(.ref a',.fr (if c then .tuple es else .list es))] (sk ds es) where
 go := fun rel i hi=>by
  rw [cu] at hi
  obtain ⟨xs,s,q⟩:=a8 (b:=b) (a:=a) (ds:=ds) rel (DL _ (by simp))
  obtain ⟨xs',s',q'⟩:=a8 (b:=c) (a:=a') (ds:=es) rel (DL _ (by simp))
  obtain ⟨x,e,_⟩:=q.item (i:=i) (by omega)
  obtain ⟨x',e',_⟩:=q'.item (i:=i) (by omega)
  exact ⟨xs,xs',x,x',s,s',e,e'⟩
 yld:=fun {M P H0 H σ0 σ env ts} rel i x H' hi y=>by
  have hi':=hi
  rw [cu] at hi'
  obtain ⟨xs,s,q⟩:=a8 (b:=b) (a:=a) (ds:=ds) rel (DL _ (by simp))
  obtain ⟨xs',s',q'⟩:=a8 (b:=c) (a:=a') (ds:=es) rel (DL _ (by simp))
  obtain ⟨p,x1,x2,rfl,hp,rfl,y1,y2⟩:=y
  obtain ⟨u1,e1,dn1⟩:=q.item (i:=i) (by omega)
  obtain ⟨u2,e2,dn2⟩:=q'.item (i:=i) (by omega)
  rw [y1 xs s] at e1
  rw [y2 xs' s'] at e2
  cases e1
  cases e2
  have eg:(sk ds es)[i]=.tuple [ds[i]'(by omega),es[i]'(by omega)]:=by simp[sk]
  rw [eg]
  exact ⟨aO.new hp,DN.of2 (SnT.of ar (rel.newAddr hp)) (dn1.keep (aE.same (aO.new hp))) (dn2.keep (aE.same (aO.new hp)))⟩
 stop:=fun rel=>by
  obtain ⟨xs,s,q⟩:=a8 (b:=b) (a:=a) (ds:=ds) rel (DL _ (by simp))
  obtain ⟨xs',s',q'⟩:=a8 (b:=c) (a:=a') (ds:=es) rel (DL _ (by simp))
  refine ⟨xs,xs',s,s',?_⟩
  rw [q.len,q'.len,cu]
  omega
 nv := fun w i m=>by
  simp only [D3,En,or_false] at m
  rcases m with m|m <;> cases m
end
section
variable {K:PySem.W.Frag}{M P N:Addr→Prop}{H0 H H':Hp}{σ0 σ:St}{env:List Sl}{ts tt kp:List (V×Sl)}{v:V}{s:Sl}{d:PyData}{X:Cx}{pos p:Pos}{e e1 e2 tg iter:Expr}{es:List Expr}{te:DE}{tl:DA}
noncomputable def ny (te:DE):DI:=fun env RR=>te env fun s env1=>∃ ds,aD env1 s=some (.list ds)∧RR ds env1
noncomputable def Cn (te:DE):DI:=fun env RR=>te env fun s env1=>∃ ds,aD env1 s=some (.tuple ds)∧RR ds env1
theorem bq (hK:X.K=K) (h:PE X e (up K te)):PI X tg e (upI K (ny te)):=(z8 (K:=K) hK h).imp fun σ H R h=>by
 obtain ⟨M,P,H0,σ0,env,ts,RR,rel,ht,hq⟩:=h
 refine ⟨M,P,H0,σ0,env,ts,_,rel,ht,fun s1 env1 v1 H1 h1 rel1=>?_⟩
 obtain ⟨ds,k,hR⟩:=h1
 have dn:=rel1.kept (v:=v1) (s:=s1) (by simp) k
 obtain ⟨a,xs,rfl,sn,q⟩:=dn.list
 exact ⟨a,rfl,⟨xs,sn.sq⟩,hq _ _ _ _ _ hR (rel1.drop.addFr dn) qQ⟩
noncomputable def uv (ta:DA):DI:=fun env RR=>ta env fun ss env1=>∃ s j,ss=[s]∧aH env1 s=some (.int j)∧-4611686018427387904≤j∧j<4611686018427387904∧RR (eW 0 j.toNat) env1
theorem dg (hg:Gl X "range") (hm:X.mg "range" = none) (ha:PA X [e] (upA K tl)) (hs:starEach [e] X.env=[(false,eval e X.env)]:=by rfl):PI X tg (.Call (.Name "range" p) [e] [] pos) (upI K (uv tl)):=(p9 hg hm ha hs).imp fun σ H R h=>by
 obtain ⟨M,P,H0,σ0,env,ts,RR,rel,ht,hq⟩:=h
 refine ⟨M,P,H0,σ0,env,ts,_,rel,ht,fun ss env1 vs H1 h1 hl rel1=>?_⟩
 obtain ⟨s,j,rfl,e1,b1,b2,hR⟩:=h1
 obtain ⟨v,rfl⟩:=sr hl
 have w:=(rel1.view (v:=v) (by simp) e1).int
 exact ⟨j,by rw[w],b1,b2,hq _ _ _ _ [] hR (by simpa using rel1.drop) oH⟩
noncomputable def sqD (b:Bool) (ds:List PyData):PyData:=if b then .tuple ds else .list ds
noncomputable def ux (b:Bool) (ta:DA):DI:=fun env RR=>ta env fun ss env1=>∃ s ds,ss=[s]∧aD env1 s=some (sqD b ds)∧RR (iU ds) env1
theorem gb (b:Bool) {es:List Expr}{kk:Nat}{tpos:Pos} (hK:X.K=K) (hg:Gl X "enumerate") (hm:X.mg "enumerate" = none) (ha:PA X [e] (upA K tl)) (hs:starEach [e] X.env=[(false,eval e X.env)]:=by rfl) :
  PI X (.Tuple es kk tpos) (.Call (.Name "enumerate" p) [e] [] pos) (upI K (ux b tl)):=(z9 (K:=K) hK b hg hm ha hs).imp fun σ H R h=>by
 obtain ⟨M,P,H0,σ0,env,ts,RR,rel,ht,hq⟩:=h
 refine ⟨M,P,H0,σ0,env,ts,_,rel,ht,fun ss env1 vs H1 h1 hl rel1=>?_⟩
 obtain ⟨s,ds,rfl,k,hR⟩:=h1
 obtain ⟨v,rfl⟩:=sr hl
 have dn:=rel1.kept (v:=v) (s:=s) (by simp) k
 have r2:=rel1.drop.addFr dn
 have hv:∃ a,v=.ref a:=by
  cases b with
  | false=>obtain⟨a,_,e,_⟩:=DN.list dn;exact⟨a,e⟩
  | true=>obtain⟨a,_,e,_⟩:=DN.tuple dn;exact⟨a,e⟩
 obtain ⟨a,rfl⟩:=hv
 obtain ⟨xs,sq,_⟩:=a8 (b:=b) (a:=a) (ds:=ds) r2 (DL _ (by simp[sqD]))
 exact ⟨a,xs,rfl,sq,hq _ _ _ _ _ hR r2 qS⟩
noncomputable def A7 (b c:Bool) (ta:DA):DI:=fun env RR=>ta env fun ss env1=>∃ s s' ds es,ss=[s,s']∧aD env1 s=some (sqD b ds)∧aD env1 s'=some (sqD c es)∧RR (sk ds es) env1
theorem za (b c:Bool) {es:List Expr}{kk:Nat}{tpos:Pos} (hK:X.K=K) (hg:Gl X "zip") (hm:X.mg "zip" = none) (ha:PA X [e1,e2] (upA K tl))
  (hs:starEach [e1,e2] X.env=[(false,eval e1 X.env),(false,eval e2 X.env)]:=by rfl) (hs2:starEach [e2] X.env=[(false,eval e2 X.env)]:=by rfl) :
  PI X (.Tuple es kk tpos) (.Call (.Name "zip" p) [e1,e2] [] pos) (upI K (A7 b c tl)):=(BZ (K:=K) hK b c hg hm ha hs hs2).imp fun σ H R h=>by
 obtain ⟨M,P,H0,σ0,env,ts,RR,rel,ht,hq⟩:=h
 refine ⟨M,P,H0,σ0,env,ts,_,rel,ht,fun ss env1 vs H1 h1 hl rel1=>?_⟩
 obtain ⟨s,s',ds,es',rfl,k1,k2,hR⟩:=h1
 obtain ⟨v,v',rfl⟩:=BY hl
 have dns:=rel1.keptAll (vs:=[v,v']) (ds:=[sqD b ds,sqD c es']) hl (fun p hp=>hp) (by simp[aQ,k1,k2])
 have r2:=rel1.drop.addFrs dns
 have r2:Rel K M P H0 σ0 σ env1 (ts++[(v,.fr (sqD b ds)),(v',.fr (sqD c es'))]) H1:=by simpa using r2
 cases dns with
 | cons dn q =>
  cases q with
  | cons dn' q =>
   cases q
   have hv:∃ a,v=.ref a:=by
    cases b with
    | false=>obtain⟨a,_,e,_⟩:=DN.list dn;exact⟨a,e⟩
    | true=>obtain⟨a,_,e,_⟩:=DN.tuple dn;exact⟨a,e⟩
   have hv':∃ a,v'=.ref a:=by
    cases c with
    | false=>obtain⟨a,_,e,_⟩:=DN.list dn';exact⟨a,e⟩
    | true=>obtain⟨a,_,e,_⟩:=DN.tuple dn';exact⟨a,e⟩
   obtain ⟨a,rfl⟩:=hv
   obtain ⟨a',rfl⟩:=hv'
   obtain ⟨xs,sq,_⟩:=a8 (b:=b) (a:=a) (ds:=ds) r2 (DL _ (by simp[sqD]))
   obtain ⟨xs',sq',_⟩:=a8 (b:=c) (a:=a') (ds:=es') r2 (DL _ (by simp[sqD]))
   exact ⟨a,a',xs,xs',rfl,sq,sq',hq _ _ _ _ _ hR r2 t8⟩
theorem Rel.dropMid {t:V×Sl} (h:Rel K M P H0 σ0 σ env (ts++kp++[t]) H):Rel K M P H0 σ0 σ env (ts++[t]) H:=by
 refine ⟨?_,h.len,fun w i m=>h.vw w i (by
  rcases DQ.mp m with m|m
  ·exact DP _ (DP _ m)
  ·exact DL _ m),h.ios⟩
 have hE:=h.e
 rw [ax,ax] at hE
 rw [ax]
 refine hE.sub (fun x s m=>.inl ?_) ?_
 ·rcases DQ.mp m with m|m
  ·exact DP _ (DP _ m)
  ·exact DL _ m
 ·have nd:=hE.nd
  rw [ae,ae] at nd
  rw [ae]
  obtain ⟨n1,n2,n3⟩:=DZ.mp nd
  exact DZ.mpr ⟨(DZ.mp n1).1,n2,fun x hx y hy=>n3 x (DP _ hx) y hy⟩
noncomputable def FD (ds:List PyData) (g:DG) (tb:DS):DS:=fun DD env=>∃ W:Nat→List Sl→Prop,W 0 env ∧
 (∀ i env,(h:i<ds.length)→W i env→g ds[i] env fun env2=>tb { DD with nx:=dI (W (i+1)) ⟨⟩,ct:=dI (W (i+1)) ⟨⟩,bk:=DD.nx } env2)∧∀ env,W ds.length env→DD.nx env
noncomputable def AN (it:DI) (g:DG) (tb:DS):DS:=fun DD env=>it env fun ds env1=>FD ds g tb DD env1
theorem gd {body:List Stmt}{it:DI}{g:DG}{tb:DS} (hp:PassesOwn (model X.prog X.w) X.A X.env X.xe) (hc:X.calm=true) (hi:PI X tg iter (upI K it)) (hg:PG X tg (upG K g)) (hb:PSs X body (upS K tb)) (hs:∀ x,foldedSetIterable iter X.env x=pure x:=by intro _;rfl) :
  PS X (.For tg iter body [] pos) (upS K (AN it g tb)):=(vg hp hc hi hg hb hs).imp fun D σ H h=>by
 obtain ⟨M,P,H0,σ0,env,ts,DD,nv,rel,ht,ok⟩:=h
 refine ⟨M,P,H0,σ0,env,ts,_,rel,ht,fun ds env1 J H1 kp hF rel1 io=>?_⟩
 obtain ⟨W,w0,turn,done⟩:=hF
 have nv2:rY (ts++kp):=fun w i m=>by
  rcases DQ.mp m with m|m
  ·exact nv w i m
  ·exact io.nv w i m
 refine ⟨fun i m σ H=>m=ds.length - i∧i≤ds.length∧∃ env,W i env∧Rel K M P H0 σ0 σ env (ts++kp) H,⟨_,rfl,Ee _,env1,w0,rel1⟩,?_⟩
 rintro i m σ2 H2 ⟨rfl,hle,env2,w2,rel2⟩
 by_cases hlt:i<ds.length
 ·refine .inr ⟨io.go rel2 i hlt,fun σ' H'=>∃ env',W (i+1) env'∧Rel K M P H0 σ0 σ' env' (ts++kp) H',fun σ' H' ⟨env',w',r'⟩=>⟨ds.length - (i+1),by omega,rfl,hlt,env',w',r'⟩,fun x H3 y=>?_⟩
  obtain ⟨sm,dn⟩:=io.yld rel2 i x H3 hlt y
  have rel3:=rel2.same sm
  refine ⟨M,P,H0,σ0,env2,ts++kp,ds[i],_,nv2,rel3,dn,turn i env2 hlt w2,fun σ' env' H' hR r=>?_⟩
  refine ⟨M,P,H0,σ0,env',ts++kp,_,nv2,r,hR,⟨fun σ' env' H' q r=>⟨env',q,r⟩,fun s env' v σ' H' q r=>ok.rt s env' v σ' H' q r.dropMid,fun σ' env' H' q r=>ok.nx _ _ _ q r.drop,fun σ' env' H' q r=>⟨env',q,r⟩⟩⟩
 ·have e:i=ds.length:=by omega
  subst e
  exact .inl ⟨io.stop rel2,ok.nx _ _ _ (done _ w2) rel2.drop⟩
noncomputable def AI (c:DT) (tb:DS):DS:=fun DD env=>∃ W:Nat→List Sl→Prop,(∃ m,W m env)∧∀ m env,W m env →
 c env fun k env1=>if k=true then tb { DD with nx:=dI (fun env'=>∃ m',m'<m∧W m' env') ⟨⟩,ct:=dI (fun env'=>∃ m',m'<m∧W m' env') ⟨⟩,bk:=DD.nx } env1 else DD.nx env1
theorem kP {c:Expr}{body:List Stmt}{tc:DT}{tb:DS} (hp:PassesOwn (model X.prog X.w) X.A X.env X.xe) (hc:PT X c (upT K tc)) (hb:PSs X body (upS K tb)):PS X (.While c body [] pos) (upS K (AI tc tb)):=(sX hp hc hb).imp fun D σ H h=>by
 obtain ⟨M,P,H0,σ0,env,ts,DD,nv,rel,⟨W,⟨m0,w0⟩,turn⟩,ok⟩:=h
 refine ⟨fun m σ H=>∃ env,W m env∧Rel K M P H0 σ0 σ env ts H,⟨m0,env,w0,rel⟩,?_⟩
 rintro m σ2 H2 ⟨env2,w2,rel2⟩
 refine ⟨M,P,H0,σ0,env2,ts,_,rel2,turn m env2 w2,fun k env3 H3 h3 rel3=>?_⟩
 cases k with
 | false=>exact ok.nx _ _ _ h3 rel3
 | true =>
  refine ⟨fun σ' H'=>∃ env',(∃ m',m'<m∧W m' env')∧Rel K M P H0 σ0 σ' env' ts H',fun σ' H' ⟨env',⟨m',hm,w'⟩,r'⟩=>⟨m',hm,env',w',r'⟩,?_⟩
  exact ⟨M,P,H0,σ0,env3,ts,_,nv,rel3,h3,⟨fun σ' env' H' q r=>⟨env',q,r⟩,ok.rt,fun σ' env' H' q r=>ok.nx _ _ _ q r,fun σ' env' H' q r=>⟨env',q,r⟩⟩⟩
end
noncomputable def kb:Option Sl→Sl
 | some (.fr d)=>.fr d
 | _=>.un
noncomputable def Cs (env:List Sl):Option Nat→Sl
 | none=>.un
 | some j=>kb env[j]?
noncomputable def fB (ix:List (Option Nat)) (env:List Sl):List Sl:=ix.map (Cs env)
theorem ff {α β γ:Type}{f:α→β}{g:α→γ}:∀ {l:List α}{x:β}{y:γ},(x,y)∈(l.map f).zip (l.map g)→∃ o∈l,x=f o∧y=g o
 | [],_,_,h=>by simp at h
 | a :: l,x,y,h=>by
  have h:(x,y)∈(f a,g a)::(l.map f).zip (l.map g):=h
  rcases D3.mp h with h|h
  ·cases h;exact⟨a,DY,rfl,rfl⟩
  ·obtain ⟨o,ho,e⟩:=ff h
   exact ⟨o,D0 _ ho,e⟩
noncomputable def yc:DT:=fun env R=>R true env
theorem PIf.imp {X:Cx}{ifs:List Expr}{t t':TT} (h:PIf X ifs t) (k:∀ σ H Q,t' σ H Q→t σ H Q):PIf X ifs t':=fun pins s σ H Q I hw=>h pins s σ H Q I (k σ H Q hw)
theorem bS {X:Cx}{K:PySem.W.Frag}:PIf X [] (upT K yc):=wW.imp fun σ H Q h=>by
 obtain ⟨M,P,H0,σ0,env,ts,R,rel,ht,hq⟩:=h
 exact hq _ _ _ ht rel
theorem dM {X:Cx}{K:PySem.W.Frag}{c:Expr}{t:DT} (h:PT X c (upT K t)):PIf X [c] (upT K t):=wV h
section
variable {K:PySem.W.Frag}{M P N:Addr→Prop}{H0 H H':Hp}{σ0 σ:St}{env:List Sl}{ts tt kp:List (V×Sl)}{v:V}{s:Sl}{d:PyData}
theorem cZ {ix:List (Option Nat)}{x:Option V} (rel:Rel K M P H0 σ0 σ env ts H) (m:(x,s)∈(db σ ix).zip (fB ix env)):s=.un∨∃ d v,s=.fr d∧x=some v∧DN K (Nw M (ay σ env ts)) H v d:=by
 obtain ⟨o,_,e1,e2⟩:=ff m
 cases o with
 | none=>exact .inl e2
 | some j =>
  have e2:s=kb env[j]?:=e2
  cases q:env[j]? with
  | none=>rw[q] at e2;exact .inl e2
  | some s' =>
   rw [q] at e2
   cases s' with
   | fr d =>
    obtain ⟨x',e3,m3⟩:=rel.slot q
    obtain ⟨v,e4,dn⟩:=rel.e.fr _ _ m3
    refine .inr ⟨d,v,e2,?_,dn⟩
    rw [e1]
    show (σ[j]?).join=_
    rw [e3,e4]
    rfl
   | _=>exact .inl e2
theorem lF {ix:List (Option Nat)} (rel:Rel K M P H0 σ0 σ env ts H):oas ((db σ ix).zip (fB ix env))=[]:=by
 unfold oas
 rw [List.flatMap_eq_nil_iff]
 rintro ⟨x,s⟩ m
 rcases cZ rel m with e|⟨d,v,e,e2,_⟩
 ·subst e
  exact eK _
 ·subst e e2
  exact cY _ _
theorem rK {ix:List (Option Nat)} (rel:Rel K M P H0 σ0 σ env ts H):Rel K (Nw M (ay σ env ts)) (fun _=>False) H (db σ ix) (db σ ix) (fB ix env) [] H:=by
 have oe:=lF (ix:=ix) rel
 have ee:ay (db σ ix) (fB ix env) []=(db σ ix).zip (fB ix env):=by simp[ay,tmp]
 refine ⟨⟨aE.refl,fun a q=>q,fun a z hn=>rel.newAddr hn z,fun a z=>z.elim,fun x d m=>?_,fun x l m=>?_,fun x l m=>?_,fun x S l m=>?_,by rw[ee,oe];exact Ff⟩,by simp[db,fB],fun w i m=>(by cases m),fun i l e=>rfl⟩
 rotate_right
 ·rw [ee] at m
  rcases cZ rel m with e|⟨d',v,e,e2,dn⟩ <;> cases e
 ·rw [ee] at m
  rcases cZ rel m with e|⟨d',v,e,e2,dn⟩
  ·cases e
  ·cases e
   refine ⟨v,e2,dn.to fun b _ _ z=>?_⟩
   rcases z with z|z
   ·exact z
   ·rw [ee,oe] at z;cases z
 ·rw [ee] at m
  rcases cZ rel m with e|⟨d',v,e,e2,dn⟩ <;> cases e
 ·rw [ee] at m
  rcases cZ rel m with e|⟨d',v,e,e2,dn⟩ <;> cases e
theorem uD {ix:List (Option Nat)}{k j:Nat}{s0:Sl}{l:List PyData} (rel:Rel K M P H0 σ0 σ env ts H) (hk:ix[k]? = some (some j)) (ej:env[j]? = some s0) (eo:gj s0=some l) {a:Addr} (ea:σ[j]? = some (some (.ref a))) :
  Rel K (Nw M (ay σ env ts)) (fun b=>b=a) H (db σ ix) (db σ ix) ((fB ix env).set k (.io l)) [] H:=by
 have oe:=lF (ix:=ix) rel
 have r0:=rK (ix:=ix) rel
 have hkl:k<ix.length:=(DX.mp hk).1
 have ek:(fB ix env)[k]? = some .un:=by
  unfold fB
  rw [Ep,hk]
  show some (kb env[j]?)=_
  rw [ej]
  cases s0 <;> first|rfl|cases eo
 have es:(db σ ix)[k]? = some (some (.ref a)):=by
  unfold db
  rw [Ep,hk]
  show some ((σ[j]?).join)=_
  rw [ea];rfl
 obtain ⟨x,A,B,e1,q1,q2⟩:=r0.split ek
 rw [es] at e1
 cases e1
 have ee:ay (db σ ix) (fB ix env) []=(db σ ix).zip (fB ix env):=by simp[ay,tmp]
 have oAB:oas A=[]∧oas B=[]:=by
  rw [←ee,q1,ae,ag] at oe
  have oe:oas A++oas B=[]:=oe
  exact List.append_eq_nil_iff.mp oe
 obtain ⟨a',us,ea',hH,ql⟩:=rel.mine ej eo
 rw [ea] at ea'
 cases ea'
 have ma:Nw M (ay σ env ts) a:=by
  obtain ⟨x,e1,mm⟩:=rel.slot ej
  rw [ea] at e1
  cases e1
  refine .inr (aP.mpr ⟨_,mm,?_⟩)
  exact (mK eo).2 a
 have oe2:oas (A++(some (.ref a),Sl.io l)::B)=[a]:=by
  rw [ae,ag,oAB.1,oAB.2]
  rfl
 have ne:∀ b,Nw (Nw M (ay σ env ts)) (A++(some (.ref a),Sl.io l)::B) b→Nw M (ay σ env ts) b:=fun b z=>by
  rcases z with z|z
  ·exact z
  ·rw [oe2,DM] at z;rw[z];exact ma
 have old:∀ x t,(x,t)∈A++(some (.ref a),Sl.io l)::B→(x,t)=(some (.ref a),Sl.io l)∨(x,t)∈(db σ ix).zip (fB ix env):=fun x t m=>by
  rw [←ee,q1]
  rcases DQ.mp m with m|m
  ·exact .inr (DP _ m)
  ·rcases D3.mp m with m|m
   ·exact .inl m
   ·exact .inr (DL _ (D0 _ m))
 refine ⟨⟨aE.refl,fun a q=>q,fun a z hn=>rel.newAddr hn z,fun b z=>by rw[z];exact ma,fun x d m=>?_,fun x l' m=>?_,fun x l' m=>?_,fun x S l' m=>?_,by rw[q2,oe2];simp⟩,by simp[db,fB],fun w i m=>(by cases m),fun i l' e=>rfl⟩
 rotate_right
 ·rw [q2] at m
  rcases old _ _ m with m|m
  ·cases m
  ·rcases cZ rel m with e|⟨d',v,e,e2,dn⟩ <;> cases e
 ·rw [q2] at m ⊢
  rcases old _ _ m with m|m
  ·cases m
  ·rcases cZ rel m with e|⟨d',v,e,e2,dn⟩
   ·cases e
   ·cases e
    exact ⟨v,e2,dn.to fun b _ _ z=>ne b z⟩
 ·rw [q2] at m
  rcases old _ _ m with m|m
  ·cases m
  ·rcases cZ rel m with e|⟨d',v,e,e2,dn⟩ <;> cases e
 ·rw [q2] at m ⊢
  rcases old _ _ m with m|m
  ·cases m
   exact ⟨a,us,rfl,hH,ql.to fun b _ _ z=>ne b z,rfl⟩
  ·rcases cZ rel m with e|⟨d',v,e,e2,dn⟩ <;> cases e
end
noncomputable def CD (ds:List PyData) (ix:List (Option Nat)) (g:DG) (tt:DT) (te:DE) (env:List Sl) (R:Sl→List Sl→Prop):Prop:=∃ W:Nat→List PyData→Prop,W 0 [] ∧
 (∀ i rs,(h:i<ds.length)→W i rs→rs.length<sizeLine∧g ds[i] (fB ix env) fun b1=>tt b1 fun k b2=>if k=true then te b2 fun s b3=>∃ d,aD b3 s=some d∧W (i+1) (rs++[d]) else W (i+1) rs)∧∀ rs,W ds.length rs→R (.ow rs) env
noncomputable def oU (it:DI) (ix:List (Option Nat)) (g:DG) (tt:DT) (te:DE):DE:=fun env R=>it env fun ds env1=>CD ds ix g tt te env1 (dK R ⟨⟩)
noncomputable def CD1 (k j:Nat) (ds:List PyData) (ix:List (Option Nat)) (g:DG) (tt:DT) (te:DE) (env:List Sl) (R:Sl→List Sl→Prop):Prop:=∃ W:Nat→List PyData→List PyData→Prop,∃ s0 l0,env[j]? = some s0∧gj s0=some l0∧W 0 [] l0 ∧
 (∀ i rs l,(h:i<ds.length)→W i rs l→rs.length<sizeLine∧∃ s,cD s0 l=some s∧g ds[i] ((fB ix (env.set j s)).set k (.io l)) fun b1=>tt b1 fun kk b2=>if kk=true then te b2 fun s b3=>∃ d l',aD b3 s=some d∧b3[k]? = some (.io l')∧W (i+1) (rs++[d]) l' else ∃ l',b2[k]? = some (.io l')∧W (i+1) rs l') ∧
 ∀ rs l,W ds.length rs l→∃ s,cD s0 l=some s∧R (.ow rs) (env.set j s)
noncomputable def nz (k j:Nat) (it:DI) (ix:List (Option Nat)) (g:DG) (tt:DT) (te:DE):DE:=fun env R=>it env fun ds env1=>CD1 k j ds ix g tt te env1 (dK R ⟨⟩)
section
variable {K:PySem.W.Frag}
theorem rJ {it:DI}{ix:List (Option Nat)}{g:DG}{tt:DT}{te:DE}:∀ σ H Q,up K (oU it ix g tt te) σ H Q→sH (upI K it) ix (upG K g) (upT K tt) (up K te) σ H Q:=fun σ H Q h=>by
 obtain ⟨M,P,H0,σ0,env,ts,R,rel,ht,hq⟩:=h
 refine ⟨M,P,H0,σ0,env,ts,_,rel,ht,fun ds env1 J H1 kp hF rel1 io=>?_⟩
 obtain ⟨W,w0,turn,done⟩:=hF
 refine ⟨fun i m ys H=>m=ds.length - i∧i≤ds.length∧∃ rs,W i rs∧DNs K (Nw M (ay σ env1 (ts++kp))) H ys rs∧Rel K M P H0 σ0 σ env1 (ts++kp) H,⟨_,rfl,Ee _,[],w0,.nil,rel1⟩,?_⟩
 rintro i m ys H2 ⟨rfl,hle,rs,w2,dns,rel2⟩
 by_cases hlt:i<ds.length
 ·obtain ⟨hz,tr⟩:=turn i rs hlt w2
  refine .inr ⟨io.go rel2 i hlt,by rw[dns.len];exact hz,fun ys' H'=>∃ rs',W (i+1) rs'∧DNs K (Nw M (ay σ env1 (ts++kp))) H' ys' rs'∧Rel K M P H0 σ0 σ env1 (ts++kp) H',fun ys' H' ⟨rs',a,b,c⟩=>⟨ds.length - (i+1),by omega,rfl,hlt,rs',a,b,c⟩,fun x H3 y=>?_⟩
  obtain ⟨sm,dn⟩:=io.yld rel2 i x H3 hlt y
  have rel3:=rel2.same sm
  have rb:=rK (ix:=ix) rel3
  have oe:=lF (ix:=ix) rel3
  have nb:∀ b,Nw (Nw M (ay σ env1 (ts++kp))) (ay (db σ ix) (fB ix env1) []) b→Nw M (ay σ env1 (ts++kp)) b:=fun b z=>by
   rcases z with z|z
   ·exact z
   ·have ee:ay (db σ ix) (fB ix env1) []=(db σ ix).zip (fB ix env1):=by simp[ay,tmp]
    rw [ee,oe] at z;cases z
  refine ⟨_,_,_,_,fB ix env1,[],ds[i],_,fun w i m=>(by cases m),rb,dn.to fun b _ _ z=>nb b z,tr,fun σ2 b1 H4 h4 rel4=>?_⟩
  refine ⟨_,_,_,_,b1,[],_,rel4,h4,fun kk b2 H5 h5 rel5=>?_⟩
  cases kk with
  | false =>
   have k5:aO H3 H5:=(rel5.e.keep.mono (M:=N0) fun b z=>z).none
   exact ⟨rs,h5,dns.keep (aE.same (sm.trans k5)),rel3.same k5⟩
  | true =>
   refine ⟨_,_,_,_,b2,[],_,rel5,h5,fun s b3 v H6 h6 rel6=>?_⟩
   obtain ⟨d,kd,w6⟩:=h6
   have k6:aO H3 H6:=(rel6.e.keep.mono (M:=N0) fun b z=>z).none
   have dn6:=rel6.kept (ts:=[]) (tt:=[]++[(v,s)]) (v:=v) (s:=s) (by simp) kd
   exact ⟨rs++[d],w6,(dns.keep (aE.same (sm.trans k6))).app (.cons (dn6.to fun b _ _ z=>.inl z) .nil),rel3.same k6⟩
 ·have e:i=ds.length:=by omega
  subst e
  exact .inl ⟨io.stop rel2,fun p hp=>hq _ _ _ _ (done _ w2) (rel2.resOw hp dns)⟩
theorem uA {k j:Nat}{it:DI}{ix:List (Option Nat)}{g:DG}{tt:DT}{te:DE} (hk:ix[k]? = some (some j)):∀ σ H Q,up K (nz k j it ix g tt te) σ H Q→sH (upI K it) ix (upG K g) (upT K tt) (up K te) σ H Q:=fun σ H Q h=>by
 obtain ⟨M,P,H0,σ0,env,ts,R,rel,ht,hq⟩:=h
 refine ⟨M,P,H0,σ0,env,ts,_,rel,ht,fun ds env1 J H1 kp hF rel1 io=>?_⟩
 obtain ⟨W,s0,l0,ej,eo,w0,turn,done⟩:=hF
 have hjl:j<env1.length:=(DX.mp ej).1
 have set0:cD s0 l0=some s0:=(mK eo).1
 have env0:env1.set j s0=env1:=by
  rw [←(DX.mp ej).2]
  exact List.set_getElem_self hjl
 obtain ⟨a,us0,ea,_,_⟩:=rel1.mine ej eo
 have neq:∀ {ls:List PyData}{s:Sl},cD s0 ls=some s→Nw M (ay σ (env1.set j s) (ts++kp))=Nw M (ay σ env1 (ts++kp)):=fun {ls s} es=>by
  obtain ⟨x,A,B,e3,sp1,sp2⟩:=rel1.split ej
  rw [ea] at e3
  cases e3
  rw [sp1,sp2]
  have oa:cr (some (.ref a),s0)=[a]∧cr (some (.ref a),s)=[a]:=by
   exact eh (hJ es).1
  unfold Nw
  rw [ae,ae,ag,ag,oa.1,oa.2]
 refine ⟨fun i m ys H=>m=ds.length - i∧i≤ds.length∧∃ rs l s,cD s0 l=some s∧W i rs l∧DNs K (Nw M (ay σ env1 (ts++kp))) H ys rs∧Rel K M P H0 σ0 σ (env1.set j s) (ts++kp) H,⟨_,rfl,Ee _,[],l0,s0,set0,w0,.nil,by rw[env0];exact rel1⟩,?_⟩
 rintro i m ys H2 ⟨rfl,hle,rs,l,s,es,w2,dns,rel2⟩
 by_cases hlt:i<ds.length
 ·obtain ⟨hz,s',es',tr⟩:=turn i rs l hlt w2
  rw [es] at es'
  cases es'
  have eos:gj s=some l:=(hJ es).2
  have ejs:(env1.set j s)[j]? = some s:=Eg hjl
  refine .inr ⟨io.go rel2 i hlt,by rw[dns.len];exact hz,fun ys' H'=>∃ rs' l' s',cD s0 l'=some s'∧W (i+1) rs' l'∧DNs K (Nw M (ay σ env1 (ts++kp))) H' ys' rs'∧Rel K M P H0 σ0 σ (env1.set j s') (ts++kp) H',
   fun ys' H' ⟨rs',l',s',z,a,b,c⟩=>⟨ds.length - (i+1),by omega,rfl,hlt,rs',l',s',z,a,b,c⟩,fun x H3 y=>?_⟩
  obtain ⟨sm,dn⟩:=io.yld rel2 i x H3 hlt y
  have rel3:=rel2.same sm
  have rb:=uD (ix:=ix) rel3 hk ejs eos ea
  have ma:Nw M (ay σ (env1.set j s) (ts++kp)) a:=by
   obtain ⟨x,e1,mm⟩:=rel3.slot ejs
   rw [ea] at e1
   cases e1
   refine .inr (aP.mpr ⟨_,mm,?_⟩)
   exact (mK eos).2 a
  have nb:∀ b,Nw (Nw M (ay σ (env1.set j s) (ts++kp))) (ay (db σ ix) ((fB ix (env1.set j s)).set k (.io l)) []) b→Nw M (ay σ (env1.set j s) (ts++kp)) b:=fun b z=>by
   rcases z with z|z
   ·exact z
   ·obtain ⟨_,_,hP⟩:=rb.e.own z
    rcases hP with q|q
    ·obtain ⟨vs,q2,_⟩:=rb.e.own z
     rw [q] at q2;cases q2
    ·rw [q];exact ma
  have after:∀ {σ2:St}{b3:List Sl}{t3:List (V×Sl)}{H6:Hp}{l':List PyData},Rel K (Nw M (ay σ (env1.set j s) (ts++kp))) (fun b=>b=a) H3 (db σ ix) σ2 b3 t3 H6→b3[k]? = some (.io l') →
    ∃ s',cD s0 l'=some s'∧Rel K M P H0 σ0 σ (env1.set j s') (ts++kp) H6∧∀ {ys:List V}{rs:List PyData},DNs K (Nw M (ay σ env1 (ts++kp))) H3 ys rs→DNs K (Nw M (ay σ env1 (ts++kp))) H6 ys rs:=fun {σ2 b3 t3 H6 l'} r6 e6=>by
   obtain ⟨x6,e7,m7⟩:=r6.slot e6
   have e8:=r6.ios _ _ e6
   have ecap:(db σ ix)[k]? = some (some (.ref a)):=by
    unfold db
    rw [Ep,hk]
    show some ((σ[j]?).join)=_
    rw [ea];rfl
   rw [e7,ecap] at e8
   cases e8
   obtain ⟨a',us',z,hH',ql',_⟩:=r6.e.io _ _ m7
   cases z
   obtain ⟨x,A,B,e3,sp1,sp2⟩:=rel3.split ejs
   rw [ea] at e3
   cases e3
   have hs':∃ s',cD s0 l'=some s'∧xH s l' s':=by
    obtain ⟨d0,rfl⟩|⟨d0,rfl⟩:(∃ d0,s0=.ow d0)∨∃ d0,s0=.io d0:=(cA (hJ es).1).imp (fun ⟨d,e,_⟩=>⟨d,e⟩) fun ⟨d,e,_⟩=>⟨d,e⟩
    ·cases es;exact⟨_,rfl,rfl⟩
    ·cases es;exact⟨_,rfl,rfl⟩
   obtain ⟨s',es',iso⟩:=hs'
   have hE:=rel3.e
   rw [sp1] at hE
   have dnl:DNs K (Nw M (A++(some (.ref a),s)::B)) H6 us' l':=ql'.to fun b _ _ z=>.inl (by rw[sp1];exact z)
   have hM:=hE.muted iso r6.e.keep r6.e.live hH' dnl
   rw [←sp2] at hM
   have e9:(env1.set j s).set j s'=env1.set j s':=List.set_set ..
   refine ⟨s',es',⟨by rw[←e9];exact hM,by simp[rel1.len],rel3.vw,fun q l2 e'=>?_⟩,fun {ys rs} q=>q.keep (r6.e.keep.mono fun b z=>?_)⟩
   ·by_cases hj:j=q
    ·subst hj
     rw [Eg hjl] at e'
     cases e'
     obtain ⟨ds0,rfl⟩:=pE es'
     exact rel1.ios _ ds0 ej
    ·rw [Ef hj] at e'
     exact rel1.ios q l2 e'
   ·rw [z,←neq es];exact ma
  have dn3:=dns.keep (aE.same sm)
  refine ⟨_,_,_,_,_,[],ds[i],_,fun w i m=>(by cases m),rb,dn.to fun b _ _ z=>nb b z,tr,fun σ2 b1 H4 h4 rel4=>?_⟩
  refine ⟨_,_,_,_,b1,[],_,rel4,h4,fun kk b2 H5 h5 rel5=>?_⟩
  cases kk with
  | false =>
   obtain ⟨l',e5,w5⟩:=h5
   obtain ⟨s',es',r',kd⟩:=after rel5 e5
   exact ⟨rs,l',s',es',w5,kd dn3,r'⟩
  | true =>
   refine ⟨_,_,_,_,b2,[],_,rel5,h5,fun s6 b3 v H6 h6 rel6=>?_⟩
   obtain ⟨d,l',kdd,e6,w6⟩:=h6
   obtain ⟨s',es',r',kd⟩:=after rel6 e6
   have dn6:=rel6.kept (ts:=[]) (tt:=[]++[(v,s6)]) (v:=v) (s:=s6) (by simp) kdd
   exact ⟨rs++[d],l',s',es',w6,(kd dn3).app (.cons (dn6.to fun b _ _ z=>.inl (by rw[neq es];exact z)) .nil),r'⟩
 ·have e:i=ds.length:=by omega
  subst e
  refine .inl ⟨io.stop rel2,fun p hp=>?_⟩
  obtain ⟨s',es',hR⟩:=done _ _ w2
  rw [es] at es'
  cases es'
  exact hq _ _ _ _ hR (rel2.resOw hp (by rw[neq es];exact dns))
end
section
variable {K:PySem.W.Frag}{X:Cx}{N':List Str}{ix:List (Option Nat)}{sc:Scope}{tg iter elt:Expr}{ifs:List Expr}{pos:Pos}{it:DI}{g:DG}{tt:DT}{te:DE}
theorem d4 (hc:X.calm=true) (S:cb X.N X.env N' ix sc) (hi:PI X tg iter (upI K it))
  (hg:∀ s H C fp,PG (bCx X N' sc s H C fp) tg (upG K g)) (ht:∀ s H C fp,PIf (bCx X N' sc s H C fp) ifs (upT K tt)) (he:∀ s H C fp,PE (bCx X N' sc s H C fp) elt (up K te))
  (hs:∀ x,foldedSetIterable iter X.env x=pure x:=by intro _;rfl):PE X (.ListComp elt [⟨tg,iter,ifs,0⟩] sc pos) (up K (oU it ix g tt te)):=(xg hc S hi hg ht he hs).imp rJ
theorem vb {i:Nat}{t:TE}{td:DE} (h:∀ σ H Q,up K td σ H Q→t σ H Q):∀ D σ H,upS K (vO i td) D σ H→AX t (ui i) D σ H:=fun D σ H hh=>by
 obtain ⟨M,P,H0,σ0,env,ts,DD,nv,rel,ht,ok⟩:=hh
 refine h _ _ _ ⟨M,P,H0,σ0,env,ts,_,rel,ht,fun s1 env1 v1 H1 h1 rel1=>?_⟩
 obtain ⟨s',hl,es,hR⟩:=h1
 obtain ⟨r,cs⟩:=rel1.unVw es
 exact ok.nx _ _ _ hR (r.store nv hl cs)
theorem bM {i:Nat}{y:Str}{spos py:Pos} (hN:X.N.Nodup) (hi':X.N[i]? = some y) (hy:X.env.scope.names.lookup y=some .local) (hc:X.calm=true) (S:cb X.N X.env N' ix sc) (hi:PI X tg iter (upI K it))
  (hg:∀ s H C fp,PG (bCx X N' sc s H C fp) tg (upG K g)) (ht:∀ s H C fp,PIf (bCx X N' sc s H C fp) ifs (upT K tt)) (he:∀ s H C fp,PE (bCx X N' sc s H C fp) elt (up K te))
  (hsw:swapsWith (.ListComp elt [⟨tg,iter,ifs,0⟩] sc pos) (some (.Name y py)) spos.line X.env=pure true:=by rfl)
  (hs:∀ x,foldedSetIterable iter X.env x=pure x:=by intro _;rfl):PS X (.Assign [.Name y py] (.ListComp elt [⟨tg,iter,ifs,0⟩] sc pos) spos) (upS K (vO i (oU it ix g tt te))):=(ia hN hi' hy hc S hi hg ht he hsw hs).imp (vb rJ)
theorem h8 {i:Nat}{y:Str}{spos py:Pos} (k j:Nat) (hk:ix[k]? = some (some j)) (hN:X.N.Nodup) (hi':X.N[i]? = some y) (hy:X.env.scope.names.lookup y=some .local) (hc:X.calm=true) (S:cb X.N X.env N' ix sc) (hi:PI X tg iter (upI K it))
  (hg:∀ s H C fp,PG (bCx X N' sc s H C fp) tg (upG K g)) (ht:∀ s H C fp,PIf (bCx X N' sc s H C fp) ifs (upT K tt)) (he:∀ s H C fp,PE (bCx X N' sc s H C fp) elt (up K te))
  (hsw:swapsWith (.ListComp elt [⟨tg,iter,ifs,0⟩] sc pos) (some (.Name y py)) spos.line X.env=pure true:=by rfl)
  (hs:∀ x,foldedSetIterable iter X.env x=pure x:=by intro _;rfl):PS X (.Assign [.Name y py] (.ListComp elt [⟨tg,iter,ifs,0⟩] sc pos) spos) (upS K (vO i (nz k j it ix g tt te))):=(ia hN hi' hy hc S hi hg ht he hsw hs).imp (vb (uA hk))
end
noncomputable def uP:PyData→Option Bool
 | .none=>some false
 | .bool b=>some b
 | .int i=>some (i != 0)
 | .list ds=>some (!ds.isEmpty)
 | .tuple ds=>some (!ds.isEmpty)
 | _=>none
section
variable {K:PySem.W.Frag}{M P N:Addr→Prop}{H0 H H':Hp}{E A B:List Ent}{σ0 σ:St}{env:List Sl}{ts tt kp:List (V×Sl)}{v:V}{s:Sl}{d:PyData}{X:Cx}{pos p:Pos}{e e1 e2 a:Expr}{es:List Expr}{te tj:DE}{tl:DA}
theorem DNs.emp {vs:List V}{ds:List PyData} (q:DNs K N H vs ds):vs.isEmpty=ds.isEmpty:=by cases q <;> rfl
theorem Vw.tru (w:Vw K N H v d) {k:Bool} (e:uP d=some k):Bh K v H k:=by
 cases d with
 | none=>cases e;rw[w.none];rfl
 | bool b=>cases e;rw[w.bool];rfl
 | int b=>cases e;rw[w.int];rfl
 | list ds =>
  cases e
  obtain ⟨a,vs,rfl,s,q⟩:=w.list
  exact .inl ⟨vs,s,by rw[q.emp]⟩
 | tuple ds =>
  cases e
  obtain ⟨a,vs,rfl,s,q⟩:=w.tuple
  exact .inr (.inl ⟨vs,s,by rw[q.emp]⟩)
 | _=>cases e
noncomputable def nw (te:DE):DT:=fun env R=>te env fun s env1=>∃ d k,aH env1 s=some d∧uP d=some k∧R k env1
theorem sU (hK:X.K=K) (ha:PE X a (up K te)) (he:∀ whole,isTrue a X.env whole=(do let v ←whole;standAt a.pos;holding [v] (truthy v)):=by intro _;rfl):PT X a (upT K (nw te)):=(vx (K:=K) hK ha he).imp fun σ H Q h=>by
 obtain ⟨M,P,H0,σ0,env,ts,R,rel,ht,hq⟩:=h
 refine ⟨M,P,H0,σ0,env,ts,_,rel,ht,fun s1 env1 v1 H1 h1 rel1=>?_⟩
 obtain ⟨d,k,e1,e2,hR⟩:=h1
 exact ⟨k,(rel1.view (v:=v1) (by simp) e1).tru e2,hq _ _ _ hR rel1.drop⟩
noncomputable def oF:PyData→String
 | .none => "NoneType"
 | .bool _ => "bool"
 | .int _ => "int"
 | .str _ => "str"
 | .list _ => "list"
 | .tuple _ => "tuple"
 | .dict _ => "dict"
inductive ky (K:PySem.W.Frag) (H:Hp):V→String→Prop
 | non:ky K H .non "NoneType"
 | bl (b:Bool):ky K H (.bl b) "bool"
 | int (b:Int):ky K H (.int b) "int"
 | str (b:Str):ky K H (.str b) "str"
 | lst {a:Addr}{xs:List V}:SqL K H a xs→ky K H (.ref a) "list"
 | tup {a:Addr}{xs:List V}:SqT K H a xs→ky K H (.ref a) "tuple"
theorem uE (hK:X.K=K):c9 X (.builtin "isinstance") (fun xs H Q=>∃ (x:V) (t n:String) (b:Bool),xs=[x,.ty n]∧ky K H x t∧PySem.W.kitOne K (.type t) (.type n)=some b∧Q (.bl b) H):=by
 subst hK
 intro pins s σ H xs us Q I r h
 obtain ⟨x,t,n,b,rfl,ty,e,q⟩:=h
 obtain ⟨u,w',rfl,ru,rw'⟩:=pe r
 cases (show w'=Value.type n from rw')
 have fin:∀ tk,EP X pins σ Q (.bool b) { s with toks:=tk }:=fun tk=>⟨.bl b,H,I.tok tk,rfl,q⟩
 cases ty with
 | non=>cases (show u=Value.none from ru);exact PySem.W.kia_one PySem.W.kitx_none I.kIn True.intro e (fun z=>nomatch z) fin
 | bl y=>cases (show u=Value.bool y from ru);exact PySem.W.kia_one PySem.W.kitx_bool I.kIn True.intro e (fun z=>nomatch z) fin
 | int i=>obtain⟨t,q⟩:=(show ∃ t,u=Value.int i t from ru);cases q;exact PySem.W.kia_one PySem.W.kitx_int I.kIn True.intro e (fun z=>nomatch z) fin
 | str y=>obtain⟨t,q⟩:=(show ∃ t,u=Value.str y t from ru);cases q;exact PySem.W.kia_one PySem.W.kitx_str I.kIn True.intro e (fun z=>nomatch z) fin
 | @lst a xs hs =>
  cases (show u=Value.ref a from ru)
  obtain ⟨its,_,⟨o,n',h1,h2,_,_⟩,_⟩:=I.list hs
  exact PySem.W.kia_one PySem.W.kitx_list I.kIn ⟨o,h1,h2⟩ e (fun z=>nomatch z) fin
 | @tup a xs hs =>
  cases (show u=Value.ref a from ru)
  obtain ⟨its,_,⟨o,h1,h2,_⟩,_⟩:=I.tuple hs
  exact PySem.W.kia_one PySem.W.kitx_tuple I.kIn ⟨o,h1,h2⟩ e (fun z=>nomatch z) fin
noncomputable def isK (n:String) (d:PyData):Bool:=(oF d==n) || (n == "int" && oF d == "bool")
theorem tS (d:PyData):PySem.W.kitOne K (.type (oF d)) (.type "bool")=some (isK "bool" d):=by cases d <;> rfl
theorem Vw.kind (w:Vw K N H v d) (hd:∀ kvs,d≠.dict kvs):ky K H v (oF d):=by
 cases d with
 | none=>rw[w.none];exact .non
 | bool b=>rw[w.bool];exact .bl b
 | int b=>rw[w.int];exact .int b
 | str b=>cases w with|dn h=>cases h
 | list ds=>obtain⟨a,vs,rfl,s,q⟩:=w.list;exact .lst s
 | tuple ds=>obtain⟨a,vs,rfl,s,q⟩:=w.tuple;exact .tup s
 | dict kvs=>exact absurd rfl (hd kvs)
noncomputable def xq:PyData→Bool
 | .dict _=>false
 | _=>true
theorem xq.no {d:PyData} (h:xq d=true):∀ kvs,d≠.dict kvs:=fun kvs e=>by subst e;cases h
noncomputable def dIs (n:String) (te:DE):DE:=fun env R=>te env fun s env1=>∃ d,aH env1 s=some d∧xq d=true∧R (.fr (.bool (isK n d))) env1
theorem BI {n:Str}{T:String}{np:Pos} (hK:X.K=K) (kit:∀ d,PySem.W.kitOne K (.type (oF d)) (.type T)=some (isK T d)) (hg:Gl X "isinstance") (hm:X.mg "isinstance" = none) (hgn:Gl X n) (hmn:X.mg n=none) (hbn:bootBuiltins n=some (.type T)) (ha:PE X a (up K te))
  (he:starEach [a,.Name n np] X.env=(false,eval a X.env)::starEach [.Name n np] X.env:=by rfl) (he2:starEach [.Name n np] X.env=(false,eval (.Name n np) X.env)::starEach [] X.env:=by rfl)
  (hnn:n ≠ "__name__" := by decide) (hnd:(n==("__debug__" : Str))=false:=by decide) (hpl:(backTo pos (starEach [.Name n np] X.env)).any (·.1)=false:=by rfl) :
  PE X (.Call (.Name "isinstance" p) [a,.Name n np] [] pos) (up K (dIs T te)) :=
 (fJ (uE hK) hg hm PyProof.Rows.boot_isinstance (eJ ha (eJ (xi (v:=.ty T) hgn hmn hbn rfl hnn hnd) jy he2) he) (by decide) (by decide) he hpl).imp fun σ H Q h=>by
 obtain ⟨M,P,H0,σ0,env,ts,R,rel,ht,hq⟩:=h
 refine ⟨M,P,H0,σ0,env,ts,_,rel,ht,fun s1 env1 v1 H1 h1 rel1=>?_⟩
 obtain ⟨d,e1,nd,hR⟩:=h1
 have w:=rel1.view (v:=v1) (by simp) e1
 exact ⟨v1,oF d,T,isK T d,rfl,w.kind (xq.no nd),kit d,hq _ _ _ _ hR (rel1.drop.addFr (.bl _))⟩
noncomputable def rq (i:Nat) (tj te:DE):DS:=fun DD env=>te env fun s env1=>(∃ ds,(env1[i]?).bind gj=some ds)∧tj env1 fun sj env2=>∃ d s0 ds z j s',aD env2 s=some d∧aH env2 sj=some (.int z)∧env2[i]? = some s0∧gj s0=some ds∧ixN ds.length z=some j ∧
 cD s0 (ds.set j d)=some s'∧DD.nx (env2.set i s')
theorem DNs.set:∀ {vs:List V}{ds:List PyData}{x:V}{d:PyData} (j:Nat),DNs K N H vs ds→DN K N H x d→DNs K N H (vs.set j x) (ds.set j d)
 | _,_,_,_,_,.nil,_=>.nil
 | _,_,_,_,0,.cons _ q,h=>.cons h q
 | _,_,_,_,j+1,.cons g q,h=>.cons g (q.set j h)
theorem wE (i:Nat) {y:Str}{npos spos:Pos}{j:Expr} (hN:X.N[i]? = some y) (hj:PE X j (up K tj)) (he:PE X e (up K te))
  (hv:Vis X.env.scope y:=by first|exact Or.inl rfl|exact Or.inr (Or.inl rfl)|exact Or.inr (Or.inr rfl)) (hd:(y==("__debug__" : Str))=false:=by decide)
  (hcd:(y==("__classdict__" : Str))=false:=by decide)
  (ha:∀ v,assign (.Subscript (.Name y npos) j spos) X.env v=(do
   let ov ←holding [v] (eval (.Name y npos) X.env)
   let iv ←holding [v,ov] (eval j X.env)
   standAt spos
   holding [v,ov,iv] (setItem ov iv v)
   release [v,ov,iv] []):=by intro _;rfl)
  (hs:swapsWithSole [.Subscript (.Name y npos) j spos] e pos.line X.env=pure false:=by rfl) (hw:swappedStores [.Subscript (.Name y npos) j spos] e X.env=pure none:=by rfl)
  (h1:(assignEach [.Subscript (.Name y npos) j spos] X.env).map (·.2)=[assign (.Subscript (.Name y npos) j spos) X.env]:=by rfl):PS X (.Assign [.Subscript (.Name y npos) j spos] e pos) (upS K (rq i tj te)) :=
 (vh he (vi (c8 hN hv hd hcd) hj sN ha) hs hw h1).imp fun D σ H h=>by
 obtain ⟨M,P,H0,σ0,env,ts,DD,nv,rel,ht,ok⟩:=h
 refine ⟨M,P,H0,σ0,env,ts,_,rel,ht,fun s1 env1 v1 H1 h1 rel1=>?_⟩
 obtain ⟨⟨ds0,h0⟩,h1⟩:=h1
 obtain ⟨s0,e0,o0⟩:=nL h0
 obtain ⟨a,vs,ea,hH,_⟩:=rel1.mine e0 o0
 refine ⟨.ref a,ea,M,P,H0,σ0,env1,ts++[(v1,s1)],_,rel1,h1,fun s2 env2 v2 H2 h2 rel2=>?_⟩
 obtain ⟨d,s3,ds,z,jj,s',k,ez,e2,o2,ix,es,hR⟩:=h2
 have rel2':Rel K M P H0 σ0 σ env2 (ts++[(v1,s1),(v2,s2)]) H2:=by simpa using rel2
 obtain ⟨a',us,ea',hH',q⟩:=rel2'.drop.mine e2 o2
 rw [ea] at ea'
 cases ea'
 have dn:=rel2'.kept (v:=v1) (s:=s1) (by simp) k
 refine ⟨a,us,z,jj,rfl,(rel2.view (v:=v2) (by simp) ez).int,hH',by rw[q.len];exact ix,ok.nx _ _ _ hR (rel2'.drop.mut (ds:=ds) e2 es ea (q.set jj dn))⟩
noncomputable def kM (env:List Sl):Sl→Option Sl
 | .fr d=>some (.fr d)
 | .ow l=>some (.ow l)
 | .tr S d=>some (.tr S d)
 | .vw i=>(env[i]?).bind fun s=>match s with
  | .fr d=>some (.fr d)
  | .ow l=>some (.ow l)
  | _=>none
 | _=>none
noncomputable def fi:Sl→Sl
 | .io l=>.io l
 | _=>.un
noncomputable def gT (n:Nat) (env:List Sl):List Sl:=(env.take n).map fi
noncomputable def iV (n:Nat) (R:Sl→List Sl→Prop):kz where
 nx := fun env=>R (.fr .none) (gT n env)
 rt := fun s env=>∃ r,kM env s=some r∧R r (gT n env)
noncomputable def bC (n:Nat) (ss:List Sl):List Sl:=ss++EC (n - ss.length) .un
theorem dS (m:Nat):∀ {vs:List V}{ss:List Sl},vs.length=ss.length→(vs.map some++EC m none).zip (ss++EC m Sl.un)=tmp (vs.zip ss)++EC m (none,Sl.un)
 | [],[],_=>by simp[tmp]
 | v::vs,s::ss,h=>by
  show (some v,s)::(vs.map some++EC m none).zip (ss++EC m Sl.un)=_
  rw [dS m (by simpa using h)]
  rfl
 | [],_::_,h=>by simp at h
 | _::_,[],h=>by simp at h
theorem lj (m:Nat):oas (EC m ((none,Sl.un):Ent))=[]:=by
 unfold oas
 rw [List.flatMap_eq_nil_iff]
 intro e he
 rw [(Fv.mp he).2]
 rfl
theorem qY:∀ {vs:List V}{σ:St}{env:List Sl},σ.length=env.length→(∀ (j:Nat) (l:List PyData),env[j]? = some (.io l)→j<vs.length→σ[j]? = (vs[j]?).map some)→(oas (tmp (vs.zip (gT vs.length env)))).Sublist (oas (σ.zip env))
 | [],σ,env,_,_=>by simp[tmp,oas]
 | v::vs,[],[],_,_=>by simp[tmp,oas,gT]
 | v :: vs,x::σ,s::env,hl,h=>by
  have ih:=qY (vs:=vs) (σ:=σ) (env:=env) (by simpa using hl) fun j l e hj=>by
   have:=h (j+1) l (by simpa using e) (by simpa using hj)
   simpa using this
  show (oas ((some v,fi s)::tmp (vs.zip (gT vs.length env)))).Sublist (oas ((x,s)::σ.zip env))
  rw [ag,ag]
  cases s with
  | io l =>
   have e0:=h 0 l rfl (by simp)
   simp at e0
   subst e0
   exact List.Sublist.append (List.Sublist.refl _) ih
  | _ =>
   simp only [fi,eK]
   exact ih.trans (List.sublist_append_right _ _)
 | _::_,[],_::_,hl,_=>by simp at hl
 | _::_,_::_,[],hl,_=>by simp at hl
theorem Rel.fin {vs:List V}{r:Sl}{n:Nat} (rel:Rel K M P H0 (bu N' vs) σ env [(v,r)] H) (hn:n=vs.length) (hr:iS r=true):be K M P H0 (tmp ((v,r)::vs.zip (gT n env))) H:=by
 subst hn
 have hio:∀ (j:Nat) (l:List PyData),env[j]? = some (.io l)→j<vs.length→σ[j]? = (vs[j]?).map some:=fun j l e hj=>by
  rw [rel.ios j l e]
  unfold bu
  rw [Eb (by simpa using hj),Ep]
 have hE:=rel.e
 refine hE.sub (fun x s m=>?_) ?_
 ·rw [dw] at m
  rcases D3.mp m with m|m
  ·cases m
   exact .inl (dj (by simp))
  ·obtain ⟨⟨w,s'⟩,m1,e⟩:=D4.mp m
   cases e
   obtain ⟨j,hj,e⟩:=Eo m1
   rw [List.getElem_zip] at e
   have hj':=hj
   rw [Ft] at hj'
   have e1:vs[j]'(by omega)=w:=(Prod.mk.inj e).1
   have e2:(gT vs.length env)[j]'(by omega)=s':=(Prod.mk.inj e).2
   have hje:j<env.length:=by
    have:(gT vs.length env).length=min vs.length env.length:=by simp[gT]
    omega
   have e3:s'=fi env[j]:=by
    rw [←e2]
    simp [gT]
   cases q:env[j] with
   | io l =>
    rw [q] at e3
    subst e3
    have eq:env[j]? = some (.io l):=by rw[DR hje,q]
    have e4:=hio j l eq (by omega)
    obtain ⟨x,e5,m5⟩:=rel.slot eq
    rw [e5,DR (by omega:j<vs.length),e1] at e4
    have e4:x=some w:=Option.some.inj e4
    subst e4
    exact .inl m5
   | _=>rw[q] at e3;subst e3;exact .inr (.inl rfl)
 ·have nd:=hE.nd
  have eE:ay σ env [(v,r)]=σ.zip env++[(some v,r)]:=rfl
  rw [eE,ae] at nd
  obtain ⟨n1,n2,n3⟩:=DZ.mp nd
  have sub:=qY rel.len hio
  rw [dw,show ((some (v,r).1,(v,r).2):Ent)::tmp (vs.zip (gT vs.length env))=[(some v,r)]++tmp (vs.zip (gT vs.length env)) from rfl,ae]
  exact DZ.mpr ⟨n2,n1.sublist sub,fun x hx y hy z=>n3 y (sub.subset hy) x hx z.symm⟩
end
section
variable {K:PySem.W.Frag}{M P N:Addr→Prop}{H0 H H':Hp}{E A B:List Ent}{σ0 σ:St}{env:List Sl}{ts tt kp:List (V×Sl)}{v:V}{s:Sl}{d:PyData}
theorem Rel.take {i:Nat}{l:List PyData} (h:Rel K M P H0 σ0 σ env [(v,.vw i)] H) (e:env[i]? = some (.ow l)):Rel K M P H0 σ0 σ (env.set i .un) [(v,.ow l)] H:=by
 obtain ⟨x,A,B,e1,q1,q2⟩:=h.split e
 have ev:=h.vw v i (by simp)
 rw [e1] at ev
 have ev:x=some v:=Option.some.inj ev
 subst ev
 have z1:ay σ env [(v,.vw i)]=σ.zip env++[(some v,.vw i)]:=rfl
 obtain ⟨x2,e3,m2⟩:=pc h.len e
 have ez:(σ.zip env)[i]? = some (some v,.ow l):=by rw[dc,e1,e];rfl
 obtain ⟨A2,B2,r1,r2⟩:=d6 ez
 have hE:=h.e
 rw [z1,r1] at hE
 have en:ay σ (env.set i .un) [(v,.ow l)]=(A2++(some v,.un)::B2)++[(some v,.ow l)]:=by
  show σ.zip (env.set i .un)++[(some v,.ow l)]=_
  rw [pb e1,r2]
 refine ⟨?_,by simp[h.len],fun w j m=>(by rw[DM] at m;cases m),fun j l' e'=>?_⟩
 ·rw [en]
  refine hE.sub (fun x s m=>?_) ?_
  ·rcases DQ.mp m with m|m
   ·rcases DQ.mp m with m|m
    ·exact .inl (DP _ (DP _ m))
    ·rcases D3.mp m with m|m
     ·cases m;exact .inr (.inl rfl)
     ·exact .inl (DP _ (DL _ (D0 _ m)))
   ·rw [DM] at m
    cases m
    exact .inl (DP _ (DL _ DY))
  ·have nd:=hE.nd
   have ov:oas [(some v,Sl.vw i)]=[]:=by rw[ag,gl];rfl
   rw [ae,ae,ag,ov,Eh] at nd
   have oo:oas [(some v,Sl.ow l)]=cr (some v,Sl.ow l):=by rw[ag];simp[oas]
   rw [ae,ae,ag,eK,oo]
   obtain ⟨n1,n2,n3⟩:=DZ.mp nd
   obtain ⟨n4,n5,n6⟩:=DZ.mp n2
   refine DZ.mpr ⟨DZ.mpr ⟨n1,n5,fun x hx y hy=>n3 x hx y (DL _ hy)⟩,n4,fun x hx y hy z=>?_⟩
   subst z
   rcases DQ.mp hx with hx|hx
   ·exact n3 x hx x (DP _ hy) rfl
   ·exact n6 x hy x hx rfl
 ·by_cases hj:i=j
  ·subst hj
   rw [Eg (DX.mp e).1] at e'
   cases e'
  ·rw [Ef hj] at e'
   exact h.ios j l' e'
theorem xR {i n:Nat}{l:List PyData} (e:env[i]? = some (.ow l)):gT n (env.set i .un)=gT n env:=by
 unfold gT
 apply List.ext_getElem?
 intro j
 rw [Ep,Ep,List.getElem?_take,List.getElem?_take]
 by_cases hj:i=j
 ·subst hj
  rw [Eg (DX.mp e).1,e]
  split <;> rfl
 ·rw [Ef hj]
theorem Rel.told {n:Nat}{r:Sl} (h:Rel K M P H0 σ0 σ env [(v,s)] H) (e:kM env s=some r):∃ env',Rel K M P H0 σ0 σ env' [(v,r)] H∧gT n env'=gT n env∧iS r=true:=by
 cases s with
 | fr d=>cases e;exact⟨env,h,rfl,rfl⟩
 | tr S d=>cases e;exact⟨env,h,rfl,rfl⟩
 | ow l=>cases e;exact⟨env,h,rfl,rfl⟩
 | vw i =>
  have e:(env[i]?).bind _=some r:=e
  cases q:env[i]? with
  | none=>rw[q] at e;cases e
  | some s' =>
   rw [q] at e
   cases s' with
   | fr d =>
    cases e
    have hs:gO env (.vw i)=some (.fr d):=by
     show ((env[i]?).bind slK).map Sl.fr=_
     rw [q];rfl
    have:=(Rel.unVw (ts:=[]) (by simpa using h) hs).1
    exact ⟨env,by simpa using this,rfl,rfl⟩
   | ow l=>cases e;exact⟨env.set i .un,h.take q,xR q,rfl⟩
   | _=>cases e
 | _=>cases e
end
section
variable {P:Program}{w:World}{K:PySem.W.Frag}{mg:Str→Option Value}{base:Heap}
theorem okD {x:Str}{st:Stmt}{f:Addr}{fd:FuncData}{N ps:List Str}{k:Nat}{sp:DSp} (F:Fun K x x st f fd) (S:au N ps (ad st)) (len:∀ ss R,sp ss R→ss.length=ps.length) (hN:ps.length≤N.length)
  (hb:∀ (cdv:Value) (A:Around) (outer:List Env) (s:Shared) (H:Hp) (E:XK),ca k (A.deeper (envOfC x (ad st) s.heap.objs.size f cdv)) →
   ∃ t:DS,PSs (dH CX0 P w K mg base N x (ad st) f cdv A outer s H E).nox (bB st) (upS K t)∧∀ ss R,sp ss R→t (iV ps.length R) (bC N.length ss)):b7 P w K mg base CX0 (k+1) f fd ps (spD K sp):=by
 refine F.ok S (fun vs H Q E h=>?_) fun cdv A outer s H vs Q E hr h=>?_
 ·obtain ⟨M,ss,R,hl,_,hsp,_⟩:=h
  rw [hl]
  exact len ss R hsp
 obtain ⟨M,ss,R,hl,hE,hsp,hq⟩:=h
 have hn:=len ss R hsp
 obtain ⟨t,ht,hr'⟩:=hb cdv A outer s H E hr
 have ez:ay (bu N vs) (bC N.length ss) []=tmp (vs.zip ss)++EC (N.length - vs.length) (none,Sl.un):=by
  show (bu N vs).zip (bC N.length ss)++[]=_
  unfold bu bC
  rw [Eh,←hl]
  exact dS _ hl
 refine ⟨_,ht,M,jf vs ss,H,bu N vs,bC N.length ss,[],iV ps.length R,fun w i m=>(by cases m),⟨?_,by simp[bu,bC,hl],fun w i m=>(by cases m),fun i l e=>rfl⟩,hr' ss R hsp,⟨fun σ' env' H' q r=>?_,fun s env' v σ' H' q r=>?_,fun σ' env' H' q r=>(show False from q),fun σ' env' H' q r=>(show False from q)⟩⟩
 ·rw [ez]
  refine hE.sub (fun x s m=>?_) (by rw[ae,lj,Eh];exact hE.nd)
  rcases DQ.mp m with m|m
  ·exact .inl m
  ·have:=(Fv.mp m).2
   cases this
   exact .inr (.inl rfl)
 ·have r2:=(Rel.addFr r (v:=.non) (d:=.none) .non)
  have r2:Rel K M (jf vs ss) H (bu N vs) σ' env' [(.non,.fr .none)] H':=by simpa using r2
  exact hq _ _ _ _ q rfl (r2.fin (by omega) rfl)
 ·obtain ⟨r0,e0,hR⟩:=q
  have r1:Rel K M (jf vs ss) H (bu N vs) σ' env' [(v,s)] H':=by simpa using r
  obtain ⟨env2,r2,ef,hr0⟩:=r1.told (n:=ps.length) e0
  exact hq r0 _ v H' hR hr0 (by rw[←ef];exact r2.fin (by omega) hr0)
theorem De {x:Str}{st:Stmt}{f:Addr}{N ps:List Str}{k:Nat}{sp:DSp}{kV doc pm cdv ct oc:Value}{an od:Option Addr}{osl:Array (Option Value)}
  (hb:∀ (A:Around) (outer:List Env) (s:Shared) (H:Hp) (E:XK),ca k (A.deeper (envOfC x (ad st) s.heap.objs.size f cdv)) →
   ∃ t:DS,PSs (dH CX0 P w K mg base N x (ad st) f cdv A outer s H E).nox (bB st) (upS K t)∧∀ ss R,sp ss R→t (iV ps.length R) (bC N.length ss))
  (lk:K.lookup f=some ⟨oc,od,.func (PySem.W.fnOf x x (cH st) (bB st) (ad st) .none kV doc pm an cdv ct),osl⟩) (hcd:PySem.W.codeIn K cdv x=true) (S:au N ps (ad st)) (len:∀ ss R,sp ss R→ss.length=ps.length) (hN:ps.length≤N.length):b7 P w K mg base CX0 (k+1) f (PySem.W.fnOf x x (cH st) (bB st) (ad st) .none kV doc pm an cdv ct) ps (spD K sp):=by
 refine xO lk hcd S (fun vs H Q E h=>?_) fun A outer s H vs Q E hr h=>?_
 ·obtain ⟨M,ss,R,hl,_,hsp,_⟩:=h
  rw [hl]
  exact len ss R hsp
 obtain ⟨M,ss,R,hl,hE,hsp,hq⟩:=h
 have hn:=len ss R hsp
 obtain ⟨t,ht,hr'⟩:=hb A outer s H E hr
 have ez:ay (bu N vs) (bC N.length ss) []=tmp (vs.zip ss)++EC (N.length - vs.length) (none,Sl.un):=by
  show (bu N vs).zip (bC N.length ss)++[]=_
  unfold bu bC
  rw [Eh,←hl]
  exact dS _ hl
 refine ⟨_,ht.nox,M,jf vs ss,H,bu N vs,bC N.length ss,[],iV ps.length R,fun w i m=>(by cases m),⟨?_,by simp[bu,bC,hl],fun w i m=>(by cases m),fun i l e=>rfl⟩,hr' ss R hsp,⟨fun σ' env' H' q r=>?_,fun s env' v σ' H' q r=>?_,fun σ' env' H' q r=>(show False from q),fun σ' env' H' q r=>(show False from q)⟩⟩
 ·rw [ez]
  refine hE.sub (fun x s m=>?_) (by rw[ae,lj,Eh];exact hE.nd)
  rcases DQ.mp m with m|m
  ·exact .inl m
  ·have:=(Fv.mp m).2
   cases this
   exact .inr (.inl rfl)
 ·have r2:=(Rel.addFr r (v:=.non) (d:=.none) .non)
  have r2:Rel K M (jf vs ss) H (bu N vs) σ' env' [(.non,.fr .none)] H':=by simpa using r2
  exact hq _ _ _ _ q rfl (r2.fin (by omega) rfl)
 ·obtain ⟨r0,e0,hR⟩:=q
  have r1:Rel K M (jf vs ss) H (bu N vs) σ' env' [(v,s)] H':=by simpa using r
  obtain ⟨env2,r2,ef,hr0⟩:=r1.told (n:=ps.length) e0
  exact hq r0 _ v H' hR hr0 (by rw[←ef];exact r2.fin (by omega) hr0)
theorem CS {x:Str}{st:Stmt}{f:Addr}{fd:FuncData}{k:Nat}{ps:List Str}{sp:DSp} (F:Fun K x x st f fd) (m:mg x=some (.ref f)) (b:br K fd ps []) (G:b7 P w K mg base CX0 k f fd ps (spD K sp)):Cal P w K mg base x k (spD K sp):=Cal.mk F m b G
end
section
variable {X:Cx}{x:Str}{p pos:Pos}{e:Expr}{es:List Expr}{k:Nat}{sp:DSp}{K:PySem.W.Frag}{tl:DA}
theorem aU (C:Cal X.prog X.w X.K X.mg X.base x k (spD K sp)) (hr:ca k X.A) (hg:Gl X x) (ha:PA X (e::es) (upA K tl)) (hd:(x==("__debug__" : Str))=false:=by decide)
  (he:starEach (e::es) X.env=(false,eval e X.env)::starEach es X.env:=by rfl) (hpl:(backTo pos (starEach es X.env)).any (·.1)=false:=by rfl):PE X (.Call (.Name x p) (e::es) [] pos) (up K (rC sp tl)):=(qg C hr hg ha hd he hpl).imp yu
theorem cE (m:Nat) (C:Cal X.prog X.w X.K X.mg X.base x k (spD K sp)) (hr:ca k X.A) (hg:Gl X x) (ha:PA X (e::es) (upA K tl)) (hd:(x==("__debug__" : Str))=false:=by decide)
  (he:starEach (e::es) X.env=(false,eval e X.env)::starEach es X.env:=by rfl) (hpl:(backTo pos (starEach es X.env)).any (·.1)=false:=by rfl):PE X (.Call (.Name x p) (e::es) [] pos) (up K (j9 sp m tl)):=(qg C hr hg ha hd he hpl).imp uH
theorem wK (C:Cal X.prog X.w X.K X.mg X.base x k (spD K sp)) (hr:ca k X.A) (hg:Gl X x) (ha:PA X (e::es) (upA K tl)) (hd:(x==("__debug__" : Str))=false:=by decide)
  (he:starEach (e::es) X.env=(false,eval e X.env)::starEach es X.env:=by rfl) (hpl:(backTo pos (starEach es X.env)).any (·.1)=false:=by rfl):PE X (.Call (.Name x p) (e::es) [] pos) (up K (nB sp tl)):=(qg C hr hg ha hd he hpl).imp uG
end
noncomputable def A1:G1:=fun d R=>∃ i,d=.int i∧R (.int (-i))
theorem AZ {K:PySem.W.Frag}:∀ (N:Addr→Prop) (H:Hp) (x:V) (d1:PyData) (R:PyData→Prop) (Q:VK),Vw K N H x d1→A1 d1 R→(∀ d v,R d→DN K N H v d→Q v H)→(rU fun i=>.int (-i)) x H Q:=by
 rintro N H x d R Q w ⟨i,rfl,hR⟩ hq
 exact ⟨i,w.int,hq _ _ hR (.int _)⟩
noncomputable abbrev li (ns:List Int):List PyData:=ns.map .int
theorem bE {ds:List PyData}{g:DG}{tb:DS}{DD:kz}{env:List Sl} (W:Nat→List Sl→Prop) (h0:W 0 env)
  (hs:∀ i env,(h:i<ds.length)→W i env→g ds[i] env fun env2=>tb { DD with nx:=dI (W (i+1)) ⟨⟩,ct:=dI (W (i+1)) ⟨⟩,bk:=DD.nx } env2) (hd:∀ env,W ds.length env→DD.nx env):FD ds g tb DD env:=⟨W,h0,hs,hd⟩
theorem eu {ds:List PyData}{ix:List (Option Nat)}{g:DG}{te:DE}{env:List Sl}{R:Sl→List Sl→Prop} (f:Nat→PyData) (hz:ds.length≤1000000)
  (h : ∀ i,(h:i<ds.length)→∀ Q:PyData→Prop,Q (f i)→g ds[i] (fB ix env) fun b1=>te b1 fun s b3=>∃ d,aD b3 s=some d∧Q d) (hR:R (.ow ((List.range ds.length).map f)) env):CD ds ix g yc te env R:=by
 refine ⟨fun i rs=>rs=(List.range i).map f∧i≤ds.length,⟨rfl,Ee _⟩,fun i rs hi w=>?_,fun rs w=>by rw[w.1];exact hR⟩
 obtain ⟨rfl,_⟩:=w
 refine ⟨by rw[DK,EA];exact D6 (by omega) af,?_⟩
 have:=h i hi (fun d=>(List.range i).map f++[d]=(List.range (i+1)).map f∧i+1≤ds.length) ⟨by rw[Fu,Ei];rfl,hi⟩
 simpa only [yc,if_true] using this
theorem cm {ds:List PyData}{ix:List (Option Nat)}{g:DG}{tt:DT}{te:DE}{env:List Sl}{R:Sl→List Sl→Prop} (p:Nat→Bool) (f:Nat→PyData) (hz:ds.length≤1000000)
  (h : ∀ i,(h:i<ds.length)→∀ (Q:PyData→Prop) (Q':Prop),(p i=true→Q (f i))→(p i=false→Q')→g ds[i] (fB ix env) fun b1=>tt b1 fun k b2=>if k=true then te b2 fun s b3=>∃ d,aD b3 s=some d∧Q d else Q')
  (hR:R (.ow (((List.range ds.length).filter p).map f)) env):CD ds ix g tt te env R:=by
 refine ⟨fun i rs=>rs=((List.range i).filter p).map f∧i≤ds.length,⟨rfl,Ee _⟩,fun i rs hi w=>?_,fun rs w=>by rw[w.1];exact hR⟩
 obtain ⟨rfl,_⟩:=w
 refine ⟨?_,?_⟩
 ·have:=Ey p (List.range i)
  rw [EA] at this
  rw [DK]
  exact D6 (by omega) af
 ·refine h i hi _ _ (fun e=>⟨?_,hi⟩) (fun e=>⟨?_,hi⟩)
  ·rw [Fu,EN,Ei]
   simp [e]
  ·rw [Fu,EN,Ei]
   simp [e]
noncomputable def Bg (i:Int):Prop:=i.natAbs<2 ^ 8000
noncomputable def AV (i j:Int):Prop:=Bg i∧Bg j
theorem AV.ok {i j:Int} (h:AV i j):IntMulOk i j:=by
 have up:∀ x:Int,Bg x→Builtin.Int.intBits x≤2 ^ 20:=fun x hx=>by
  refine PySem.intBits_le_iff.mpr (D6 hx (EU (by decide) (by decide)))
 exact IntMulOk.of_bits (up _ h.1) (up _ h.2)
section
variable {X:Cx}{K:PySem.W.Frag}
noncomputable def Dp:GB:=fun ds R=>∃ es ns,ds=[.list es]∧bN es=some ns∧R (.int ns.sum)
end
end L2
namespace L2
open PySem
theorem Bg.of {i:Int} (h1:-1000000000000000000000000000000000000000000000≤i) (h2:i≤1000000000000000000000000000000000000000000000):Bg i:=by
 have h:i.natAbs<2 ^ 200:=by
  have:(2:Nat) ^ 200=1606938044258990275541962092341162602522202993782792835301376:=by decide
  rw [this]
  omega
 exact D6 h (EU (by decide) (by decide))
end L2
namespace L2
open PySem PySem.Spec PyProof.Rows
section
variable (env:List Sl) (d:PyData) (l:List PyData) (i n:Nat) (s:Sl) (R:Sl→List Sl→Prop)
theorem lX:aH env (.fr d)=some d:=rfl
theorem lV:aH env (.ow l)=some (.list l):=rfl
theorem lW:aH env (.io l)=some (.list l):=rfl
theorem lT:aH env (.vw i)=(env[i]?).bind slD:=rfl
theorem u9:slD (.fr d)=some d:=rfl
theorem u7:slD (.ow l)=some (.list l):=rfl
theorem u8:slD (.io l)=some (.list l):=rfl
theorem u5:slD .un=none:=rfl
theorem u6 {S:List Addr}{kvs:List (PyData×PyData)}:slD (.tr S (.dict kvs))=some (.dict kvs):=rfl
theorem lU {S:List Addr}{kvs:List (PyData×PyData)}:aH env (.tr S (.dict kvs))=some (.dict kvs):=rfl
theorem u4:slK (.fr d)=some d:=rfl
theorem uZ:slK (.ow l)=none:=rfl
theorem u3:slK (.io l)=none:=rfl
theorem uY:slK .un=none:=rfl
theorem jP:aD env (.fr d)=some d:=rfl
theorem jO:aD env (.ow l)=some (.list l):=rfl
theorem jM:aD env (.vw i)=(env[i]?).bind slK:=rfl
theorem mf:gO env (.fr d)=some (.fr d):=rfl
theorem l9:gO env (.ow l)=some (.ow l):=rfl
theorem l8 {S:List Addr}:gO env (.tr S d)=some (.tr S d):=rfl
theorem mw {S:List Addr}:kM env (.tr S d)=some (.tr S d):=rfl
theorem jN {S:List Addr}:aD env (.tr S d)=some d:=rfl
theorem l7:gO env (.vw i)=((env[i]?).bind slK).map .fr:=rfl
noncomputable def By:Sl→Option Sl
 | .fr d=>some (.fr d)
 | .ow l=>some (.ow l)
 | _=>none
theorem my:kM env (.fr d)=some (.fr d):=rfl
theorem mx:kM env (.ow l)=some (.ow l):=rfl
theorem mv:kM env (.vw i)=(env[i]?).bind By:=by
 show (env[i]?).bind _=_
 congr 1
theorem pK:By (.fr d)=some (.fr d):=rfl
theorem pJ:By (.ow l)=some (.ow l):=rfl
theorem jX:fi (.fr d)=.un:=rfl
theorem jV:fi (.ow l)=.un:=rfl
theorem jW:fi (.io l)=.io l:=rfl
theorem jU:fi .un=.un:=rfl
theorem nj:(iV n R).rt s env=∃ r,kM env s=some r∧R r (gT n env):=rfl
theorem nq:(iV n R).nx env=R (.fr .none) (gT n env):=rfl
theorem mn:cD (.ow l) d'=some (.ow d'):=rfl
theorem mo:cD (.io l) d'=some (.io d'):=rfl
theorem qi:gj (.ow l)=some l:=rfl
theorem qj:gj (.io l)=some l:=rfl
theorem qk:gj (.fr d)=none:=rfl
theorem qh:gj .un=none:=rfl
theorem nK:kb (some (.fr d))=.fr d:=rfl
theorem nI:kb (some (.ow l))=.un:=rfl
theorem nJ:kb (some (.io l))=.un:=rfl
theorem nH:kb (some .un)=.un:=rfl
theorem kg:Cs env none=.un:=rfl
theorem kc:Cs env (some i)=kb env[i]?:=rfl
theorem hV:dL (.list l)=some l:=rfl
theorem fX:dL (.tuple l)=some l:=rfl
theorem jl:uP .none=some false:=rfl
theorem jn (b:Bool):uP (.bool b)=some b:=rfl
theorem lY (i:Int):uP (.int i)=some (i != 0):=rfl
theorem jm:uP (.list l)=some (!l.isEmpty):=rfl
theorem gX:uP (.tuple l)=some (!l.isEmpty):=rfl
theorem jQ:gv .none=true:=rfl
theorem mU (i:Int):gv (.int i)=false:=rfl
theorem jS (i:Bool):gv (.bool i)=false:=rfl
theorem jR:gv (.list l)=false:=rfl
theorem ij:gv (.tuple l)=false:=rfl
theorem qT (i:Int):isK "int" (.int i)=true:=rfl
theorem mW (b:Bool):isK "bool" (.bool b)=true:=rfl
theorem vD (b:Bool):isK "int" (.bool b)=true:=rfl
theorem vF (i:Int):isK "bool" (.int i)=false:=rfl
theorem mV:isK "list" (.list l)=true:=rfl
theorem jT:isK "tuple" (.tuple l)=true:=rfl
theorem vz:isK "list" (.tuple l)=false:=rfl
theorem vy:isK "tuple" (.list l)=false:=rfl
theorem vB:isK "int" .none=false:=rfl
theorem vE:isK "bool" .none=false:=rfl
theorem gr:aQ env []=some []:=rfl
theorem fh (s:Sl) (ss:List Sl):aQ env (s::ss)=(aD env s).bind fun d=>(aQ env ss).bind fun ds=>some (d::ds):=rfl
theorem gW:dW env []=some []:=rfl
theorem fS (s:Sl) (ss:List Sl):dW env (s::ss)=(aH env s).bind fun d=>(dW env ss).bind fun ds=>some (d::ds):=rfl
theorem ni (i j:Int):PyData.eqv (.int i) (.int j)=decide (i=j):=by
 show (i==j)=_
 by_cases h:i=j <;> simp[h]
end
section
variable {X:Cx}{K:PySem.W.Frag}{ta:DA}{a b:Expr}{pos:Pos}
end
theorem v5 {α:Type} (x:α) (l:List α):atI (x::l) 0=some x:=c5 (j:=0) rfl
theorem v4 {α:Type} (x y:α) (l:List α):atI (x::y::l) 1=some y:=c5 (j:=1) rfl
theorem vZ {α:Type} (x y z:α) (l:List α):atI (x::y::z::l) 2=some z:=c5 (j:=2) rfl
theorem vX {α:Type} (a b c d x:α) (l:List α):atI (a::b::c::d::x::l) 4=some x:=c5 (j:=4) rfl
theorem vW {α:Type} (a b c d e x:α) (l:List α):atI (a::b::c::d::e::x::l) 5=some x:=c5 (j:=5) rfl
theorem vV {α:Type} (a b c d e f x:α) (l:List α):atI (a::b::c::d::e::f::x::l) 6=some x:=c5 (j:=6) rfl
theorem vU {α:Type} (a b c d e f g x:α) (l:List α):atI (a::b::c::d::e::f::g::x::l) 7=some x:=c5 (j:=7) rfl
theorem nh:PyData.eqv .none .none=true:=rfl
theorem vJ (i:Int):PyData.eqv .none (.int i)=false:=rfl
theorem vL (i:Int):PyData.eqv (.int i) .none=false:=rfl
theorem pC (i:Int):shp (.int i)=True:=by simp[shp,SeqAt.shaped,PySem.PyData.canLay0,PySem.PyData.depth]
theorem mj:shp .none=True:=by simp[shp,SeqAt.shaped,PySem.PyData.canLay0,PySem.PyData.depth]
theorem ml (b:Bool):shp (.bool b)=True:=by simp[shp,SeqAt.shaped,PySem.PyData.canLay0,PySem.PyData.depth]
theorem vY {α:Type} (x y z u:α) (l:List α):atI (x::y::z::u::l) 3=some u:=c5 (j:=3) rfl
theorem z6 {K:PySem.W.Frag}{H:Hp}{a:Addr}{ns:List Int}{E:XK} (hS:SqL K H a (ns.map V.int)) {sp:DSp} (h:sp [.fr (.list (li ns))] (fun r _=>r=.fr (.bool true))):spD K sp [.ref a] H (fun v _=>v=.bl true) E:=by
 have dns:DNs K (fun _=>False) H [.ref a] [.list (li ns)]:=.cons (DN.sqL hS) .nil
 refine ⟨fun _=>False,[.fr (.list (li ns))],_,rfl,nO (ds:=[.list (li ns)]) dns (fun a z=>z.elim),h,fun r ss' v H' hR _ post=>?_⟩
 subst hR
 obtain ⟨w,e,dn⟩:=post.fr _ _ DY
 cases e
 cases dn
 rfl
theorem Bk {l:PySem.W.OpenLaw}{q:Program}{loose:List Str}{XP:(Str→Option Value)→Heap→Prop}{YP:World→Heap→Prop}{d:DefRec}{K:Params→PySem.W.Frag}{sp:DSp}{k:Nat} (hk:k≤40) (hn:l.most=some 63) (hdf:d.params.defaults=[])
  (hsp:∀ ns:List Int,ns.length≤63→sp [.fr (.list (li ns))] (fun r _=>r=.fr (.bool true)))
  (hTb:∀ (w:World) (s₀:Shared) (mg mb:Str→Option Value) (h:Heap),PySem.W.Ground q loose [] XP w s₀ mg mb h→(K w.params).In h→∃ tb:List (Addr×Str),(∀ b q,tb.lookup b=some q→h.get? b=some { cls:=.none,data:=.fields #[] }∧(K w.params).lookup b=none∧∃ c,h.TableAt c b #[])∧∀ T q,gL (K w.params) T q→tb.lookup T=some q)
  (hY:∀ (w:World) (h:Heap),YP w h→(K w.params).In h)
  (F : ∀ (w:World) (mg:Str→Option Value) (fa:Addr) (h:Heap),(K w.params).In h→h.Ns mainGlobals mg→mg d.name=some (.ref fa) →
   ∃ fd:FuncData,(∀ (s:Shared) (u:Value),BindsTo s fd ⟨[u],[]⟩ [("_law_script",u)])∧∀ base:Heap,(K w.params).In base→base.Ns mainGlobals mg→b7 l.prog w (K w.params) mg base CX0 k fa fd ["_law_script"] (spD (K w.params) sp)) :
  PySem.W.WalkO q loose XP YP l.row.toRowW d [] (fun f vs=>PySem.call f vs):=by
 refine L2.wl (n:=63) (k:=40) (x := "_law_script") (CX:=fun _=>CX0) (sp:=fun w=>spD (K w.params) sp) hn (by decide) hdf ⟨rfl,by decide,by decide⟩ hTb hY (fun w mg fa h a b c=>?_) (fun w H a ns hl _ hS=>z6 hS (hsp ns hl)) fun _ _ _ _ _ z=>z
 obtain ⟨fd,h1,h2⟩:=F w mg fa h a b c
 exact ⟨fd,h1,fun base x y=>(h2 base x y).mono hk⟩
noncomputable def Sh (n:Nat) (d:PyData):Prop:=d.canLay0=true∧d.depth≤n
theorem Sh.int (n:Nat) (i:Int):Sh n (.int i):=⟨by simp[PyData.canLay0],by simp[PyData.depth]⟩
theorem Sh.bool (n:Nat) (i:Bool):Sh n (.bool i):=⟨by simp[PyData.canLay0],by simp[PyData.depth]⟩
theorem Sh.none (n:Nat):Sh n .none:=⟨by simp[PyData.canLay0],by simp[PyData.depth]⟩
theorem Sh.all {n:Nat}:∀ {ds:List PyData},(∀ x∈ds,Sh n x)→PyData.canLayAll0 ds=true∧PyData.depthAll ds≤n
 | [],_=>⟨by simp[PyData.canLayAll0],by simp[PyData.depthAll]⟩
 | d::ds,h=>by
  have h1:=h d DY
  have h2:=Sh.all fun x hx=>h x (D0 _ hx)
  refine ⟨by rw[PyData.canLayAll0,h1.1,h2.1];rfl,?_⟩
  rw [PyData.depthAll]
  have a:=h1.2
  have b:=h2.2
  omega
theorem Sh.list {n:Nat}{ds:List PyData} (h:∀ x∈ds,Sh n x):Sh (n+1) (.list ds):=by
 obtain ⟨a,b⟩:=Sh.all h
 exact ⟨by rw[PyData.canLay0];exact a,by rw[PyData.depth];omega⟩
theorem Sh.tuple {n:Nat}{ds:List PyData} (h:∀ x∈ds,Sh n x):Sh (n+1) (.tuple ds):=by
 obtain ⟨a,b⟩:=Sh.all h
 exact ⟨by rw[PyData.canLay0];exact a,by rw[PyData.depth];omega⟩
theorem Sh.mono {n m:Nat}{d:PyData} (h:Sh n d) (hm:n≤m):Sh m d:=⟨h.1,D1 h.2 hm⟩
theorem Sh.ints (n:Nat) (ns:List Int):Sh (n+1) (.list (li ns)):=Sh.list fun x hx=>by
 obtain ⟨i,_,rfl⟩:=D4.mp hx
 exact Sh.int _ _
theorem Sh.shp {n:Nat}{d:PyData} (h:Sh n d) (hn:n≤64):shp d:=by
 show SeqAt.shaped d=true
 unfold SeqAt.shaped
 rw [h.1,decide_eq_true (D1 h.2 hn)]
 rfl
theorem cB {ns:List Int}{k:Nat} (h:k<ns.length):atI (li ns) (k:Int)=some (.int (ns.getD k 0)):=c5 (by
 rw [Ep,DR h,DW,DR h]
 rfl)
theorem cO {ns:List Int}{i:Nat} (h:i<(li ns).length):(li ns)[i]=.int (ns.getD i 0):=by
 have h':i<ns.length:=by simpa using h
 simp [DW,DR h']
theorem zZ (ns:List Int) (i:Nat) (x:Int):(li ns).set i (.int x)=li (ns.set i x):=by simp[List.map_set]
theorem gn (ns:List Int) (x:Int):li ns++[.int x]=li (ns++[x]):=by simp
theorem tJ (n:Nat) (f:Nat→Int):(List.range n).map (fun i=>PyData.int (f i))=li ((List.range n).map f):=by
 show _=List.map _ (List.map _ _)
 rw [Ew]
 rfl
theorem nG {i j:Int} (h0:-18446744073709551616<i) (h1:i<18446744073709551616):AW i j:=.inl ⟨h0,h1⟩
theorem vR {i j:Int} (h0:-18446744073709551616<j) (h1:j<18446744073709551616):AW i j:=.inr ⟨h0,h1⟩
@[irreducible] def dNx (u:DS):DS:=u
theorem vP (u:DS):dNx u=u:=by unfold dNx;rfl
theorem nx {u:DS}{DD:kz}{env:List Sl} (h:u DD env):dNx u DD env:=by rw[vP];exact h
theorem aj {X:Cx}{K:PySem.W.Frag}{st:Stmt}{bI:List Stmt}{t u:DS} (h1:PS X st (upS K t)) (h2:PSs X bI (upS K u)):PSs X (st::bI) (upS K (yD t (dNx u))):=by rw[vP];exact bp h1 h2
end L2
namespace L2
end L2
namespace L2
open PySem PySem.Spec PyProof.Rows
section
variable {X:Cx}{K:PySem.W.Frag}
end
noncomputable def Pl:Nat→PyData→Prop
 | 0,d=>∃ i,d=.int i
 | n+1,d=>(∃ i,d=.int i)∨∃ ds:List PyData,(d=.list ds∨d=.tuple ds)∧ds.length≤1000000∧∀ x∈ds,Pl n x
theorem Pl.int (n:Nat) (i:Int):Pl n (.int i):=by
 cases n with
 | zero=>exact⟨i,rfl⟩
 | succ n=>exact .inl ⟨i,rfl⟩
theorem Pl.list {n:Nat}{ds:List PyData} (hl:ds.length≤1000000) (h:∀ x∈ds,Pl n x):Pl (n+1) (.list ds):=.inr ⟨ds,.inl rfl,hl,h⟩
theorem Pl.tuple {n:Nat}{ds:List PyData} (hl:ds.length≤1000000) (h:∀ x∈ds,Pl n x):Pl (n+1) (.tuple ds):=.inr ⟨ds,.inr rfl,hl,h⟩
theorem Pl.ints (n:Nat) {ns:List Int} (h:ns.length≤1000000):Pl (n+1) (.list (li ns)):=Pl.list (by rw[DK];exact h) fun x hx=>by
 obtain ⟨i,_,rfl⟩:=D4.mp hx
 exact Pl.int _ _
theorem vC (l:List PyData):isK "int" (.list l)=false:=rfl
theorem vA (l:List PyData):isK "int" (.tuple l)=false:=rfl
section
variable {K:PySem.W.Frag}{N:Addr→Prop}{H:Hp}
end
mutual
noncomputable def noL:PyData→Bool
 | .none=>true
 | .bool _=>true
 | .int _=>true
 | .str _=>true
 | .tuple ds=>ll ds
 | _=>false
noncomputable def ll:List PyData→Bool
 | []=>true
 | d::ds=>noL d&&ll ds
end
section
variable {K:PySem.W.Frag}{M P N:Addr→Prop}{H0 H H':Hp}{E T A B:List Ent}{σ0 σ:St}{env:List Sl}{ts tt:List (V×Sl)}{v:V}{s:Sl}{d:PyData}
theorem DN.ot {v:V}{d:PyData} (h:DN K N H v d):noL d=true→OT K N H v d [] :=
 DN.rec (motive_1:=fun v d _=>noL d=true→OT K N H v d []) (motive_2:=fun v d _=>ll d=true→OTs K N H v d [])
 (fun _=>.non) (fun b _=>.bl b) (fun i _=>.int i)
 (fun _ _ _ e=>by simp[noL] at e) (fun h _ i e=>.tup h (i (by simpa [noL] using e)))
 (fun _ _ _ _ _ _ _ e=>by simp[noL] at e) (fun _ _ e=>by simp[noL] at e) (fun _=>.nil)
 (fun {_ _ d ds} _ _ i j e=>by
  have e:(noL d&&ll ds)=true:=e
  rw [Es] at e
  exact .cons (S:=[]) (S':=[]) (i e.1) (j e.2)) h
theorem DNs.ots {v:List V}{d:List PyData} (h:DNs K N H v d):ll d=true→OTs K N H v d []:=DNs.ind (C:=fun v d=>ll d=true→OTs K N H v d []) (fun _=>.nil) (fun {_ _ d ds} h _ j e=>by
  have e:(noL d&&ll ds)=true:=e
  rw [Es] at e
  exact .cons (S:=[]) (S':=[]) (h.ot e.1) (j e.2)) h
noncomputable def fzs:List PyData→Option (List PyData)
 | []=>some []
 | .list l::ds=>(fzs ds).map (fzD l::·)
 | _::_=>none
theorem DNs.fzs:∀ {vs:List V}{ds ds':List PyData},DNs K N H vs ds→fzs ds=some ds'→OTs K N H vs ds' []
 | _,_,_,.nil,e=>by cases e;exact .nil
 | _, d::ds,_,.cons h q,e=>by
  cases d with
  | list l =>
   have e:(L2.fzs ds).map (fzD l::·)=some _:=e
   cases e2:L2.fzs ds with
   | none=>rw[e2] at e;cases e
   | some ds2 =>
    rw [e2] at e
    cases e
    exact .cons (S:=[]) (S':=[]) (.fz h) (DNs.fzs q e2)
  | _=>cases e
noncomputable def slF (s:Sl):Option PyData:=match s with
 | .fr d=>if noL d=true then some d else none
 | _=>none
noncomputable def gN (env:List Sl):Sl→Option PyData
 | .fr d=>if noL d=true then some d else none
 | .ow ds=>if ll ds=true then some (.list ds) else (fzs ds).map .list
 | .tr _ d=>some d
 | .vw i=>(env[i]?).bind slF
 | _=>none
noncomputable def fT (env:List Sl):List Sl→Option (List PyData)
 | []=>some []
 | s::ss=>(gN env s).bind fun d=>(fT env ss).bind fun ds=>some (d::ds)
theorem Rel.tree (h:Rel K M P H0 σ0 σ env ts H) (m:(v,s)∈ts) (e:gN env s=some d):OT K (Nw M (ay σ env ts)) H v d (cr (some v,s))∧∀ a∈cr (some v,s),H0 a=none:=by
 have mm:((some v,s):Ent)∈ay σ env ts:=dj m
 cases s with
 | fr d' =>
  by_cases c:noL d'=true
  ·have e:(if noL d'=true then some d' else none)=some d:=e
   rw [if_pos c] at e
   cases e
   obtain ⟨v',e1,dn⟩:=h.e.fr _ _ mm
   cases e1
   rw [cY]
   exact ⟨dn.ot c,fun a ha=>by cases ha⟩
  ·have e:(if noL d'=true then some d' else none)=some d:=e
   rw [if_neg c] at e
   cases e
 | ow ds =>
  have e:(if ll ds=true then some (PyData.list ds) else (fzs ds).map .list)=some d:=e
  by_cases c:ll ds=true
  ·rw [if_pos c] at e
   cases e
   obtain ⟨a,vs,e1,e2,dn,h0⟩:=h.e.ow _ _ mm
   cases e1
   exact ⟨.lst e2 (dn.ots c),fun b hb=>by rw[DM.mp hb];exact h0⟩
  ·rw [if_neg c] at e
   cases e3:fzs ds with
   | none=>rw[e3] at e;cases e
   | some ds' =>
    rw [e3] at e
    cases e
    obtain ⟨a,vs,e1,e2,dn,h0⟩:=h.e.ow _ _ mm
    cases e1
    exact ⟨.lst e2 (dn.fzs e3),fun b hb=>by rw[DM.mp hb];exact h0⟩
 | tr S d' =>
  cases e
  obtain ⟨v',e1,ot,h0⟩:=h.e.tr _ _ _ mm
  cases e1
  rw [aC]
  exact ⟨ot,h0⟩
 | vw i =>
  have e:(env[i]?).bind slF=some d:=e
  cases q:env[i]? with
  | none=>rw[q] at e;cases e
  | some s' =>
   rw [q] at e
   cases s' with
   | fr d' =>
    have e:(if noL d'=true then some d' else none)=some d:=e
    by_cases c:noL d'=true
    ·rw [if_pos c] at e
     cases e
     obtain ⟨x,e1,m1⟩:=h.slot q
     obtain ⟨v',e2,dn⟩:=h.e.fr _ _ m1
     have e3:=h.vw v i m
     rw [e1,e2] at e3
     cases e3
     rw [gl]
     exact ⟨dn.ot c,fun a ha=>by cases ha⟩
    ·rw [if_neg c] at e
     cases e
   | _=>cases e
 | _=>cases e
theorem Rel.trees (h:Rel K M P H0 σ0 σ env ts H):∀ {vs:List V}{ss:List Sl}{ds:List PyData},vs.length=ss.length→(∀ p∈vs.zip ss,p∈ts)→fT env ss=some ds→OTs K (Nw M (ay σ env ts)) H vs ds (oas (tmp (vs.zip ss)))∧∀ a∈oas (tmp (vs.zip ss)),H0 a=none
 | [],[],_,_,_,e=>by cases e;exact⟨.nil,fun a ha=>by cases ha⟩
 | v :: vs,s::ss,ds,hl,hm,e=>by
  unfold fT at e
  cases e1:gN env s with
  | none=>rw[e1] at e;cases e
  | some d =>
   rw [e1] at e
   cases e2:fT env ss with
   | none=>rw[e2] at e;cases e
   | some ds' =>
    rw [e2] at e
    cases e
    obtain ⟨a1,a2⟩:=h.tree (v:=v) (hm (v,s) (by simp)) e1
    obtain ⟨b1,b2⟩:=h.trees (vs:=vs) (ss:=ss) (by simpa using hl) (fun p hp=>hm p (by simp[hp])) e2
    have oe:oas (tmp ((v::vs).zip (s::ss)))=cr (some v,s)++oas (tmp (vs.zip ss)):=ag _ _
    rw [oe]
    exact ⟨.cons a1 b1,fun a ha=>(DQ.mp ha).elim (a2 a) (b2 a)⟩
 | [],_::_,_,hl,_,_=>by simp at hl
 | _::_,[],_,hl,_,_=>by simp at hl
theorem xj {p:Addr}{o:HO}{vs:List V}{ds:List PyData}{S:List Addr} (q:OTs K N H vs ds S) (hp:H p=none):OTs K N (upd H p o) vs ds S:=q.keep (aE.same (aO.new hp)) fun a ha=>by
 obtain ⟨xs,z⟩:=q.lives a ha
 rw [aO.new hp _ _ z,z]
theorem be.foldL (h:be K M P H0 (E++T) H) {p:Addr}{vs:List V}{ds:List PyData} (hp:H p=none) (q:OTs K (Nw M (E++T)) H vs ds (oas T)) (hq:∀ a∈oas T,H0 a=none):be K M P H0 (E++[(some (.ref p),.tr (p::oas T) (.list ds))]) (upd H p (.lst vs)):=by
 have oe:oas (E++[(some (.ref p),Sl.tr (p::oas T) (.list ds))])=oas E++p::oas T:=by
  rw [ae,ag,aC]
  simp [oas]
 have np:p ∉ oas (E++T):=fun z=>by
  obtain ⟨vs',q,_⟩:=h.own z
  rw [hp] at q
  cases q
 have h0:H0 p=none:=by
  cases e:H0 p with
  | none=>rfl
  | some o=>exact absurd hp (h.live p (by rw[e];simp))
 have up:∀ b o,H b=some o→Nw M (E++[(some (.ref p),Sl.tr (p::oas T) (.list ds))]) b→Nw M (E++T) b:=fun b o e z=>by
  rcases z with z|z
  ·exact .inl z
  ·rw [oe] at z
   rcases DQ.mp z with z|z
   ·exact .inr (by rw[ae];exact DP _ z)
   ·rcases D3.mp z with z|z
    ·rw [z,hp] at e
     cases e
    ·exact .inr (by rw[ae];exact DL _ z)
 have old:∀ x s,(x,s)∈E++[(some (.ref p),Sl.tr (p::oas T) (.list ds))]→(x,s)∈E++T∨(x,s)=(some (.ref p),Sl.tr (p::oas T) (.list ds)):=fun x s m=>by
  rcases DQ.mp m with m|m
  ·exact .inl (DP _ m)
  ·exact .inr (DM.mp m)
 have h':=h.same (aO.new (o:=.lst vs) hp)
 refine ⟨h'.keep,h'.live,h.mt,h.pm,fun x d' m=>?_,fun x d' m=>?_,fun x d' m=>?_,fun x S d' m=>?_,?_⟩
 ·rcases old _ _ m with m|m
  ·obtain ⟨v,e,dn⟩:=h.fr x d' m
   exact ⟨v,e,(dn.to up).keep (aE.same (aO.new hp))⟩
  ·cases m
 ·rcases old _ _ m with m|m
  ·obtain ⟨a,ws,e,e2,dn,r⟩:=h.ow x d' m
   exact ⟨a,ws,e,aO.new hp _ _ e2,(dn.to up).keep (aE.same (aO.new hp)),r⟩
  ·cases m
 ·rcases old _ _ m with m|m
  ·obtain ⟨a,ws,e,e2,dn,r⟩:=h.io x d' m
   exact ⟨a,ws,e,aO.new hp _ _ e2,(dn.to up).keep (aE.same (aO.new hp)),r⟩
  ·cases m
 ·rcases old _ _ m with m|m
  ·obtain ⟨v,e,dn,r⟩:=h.tr x S d' m
   exact ⟨v,e,(dn.to up).keep (aE.same (aO.new hp)) fun a ha=>by
    obtain ⟨xs,z⟩:=dn.lives a ha
    rw [aO.new hp _ _ z,z],r⟩
  ·cases m
   exact ⟨_,rfl,.lst ar (xj (q.to up) hp),fun a ha=>(D3.mp ha).elim (fun z=>by rw[z];exact h0) (hq a)⟩
 ·rw [oe]
  have nd:=h.nd
  rw [ae] at nd np
  obtain ⟨n1,n2,n3⟩:=DZ.mp nd
  refine DZ.mpr ⟨n1,Ej.mpr ⟨fun z=>np (DL _ z),n2⟩,fun a ha b hb z=>?_⟩
  rcases D3.mp hb with hb|hb
  ·rw [hb] at z
   exact np (DP _ (z▸ha))
  ·exact n3 a ha b hb z
theorem Rel.resLstT (h:Rel K M P H0 σ0 σ env (ts++tt) H) {p:Addr}{vs:List V}{ds:List PyData} (hp:H p=none) (q:OTs K (Nw M (ay σ env (ts++tt))) H vs ds (oas (tmp tt))) (h0:∀ a∈oas (tmp tt),H0 a=none) :
  Rel K M P H0 σ0 σ env (ts++[(.ref p,.tr (p::oas (tmp tt)) (.list ds))]) (upd H p (.lst vs)):=by
 have hE:=h.e
 rw [ax] at hE q
 exact h.drop.withRes (hE.foldL hp q h0) rfl
end
section
variable {X:Cx}{K:PySem.W.Frag}{pos:Pos}{es:List Expr}{tl:DA}
end
section
variable {K:PySem.W.Frag}{M P N:Addr→Prop}{H0 H H':Hp}{E T A B:List Ent}{σ0 σ:St}{env:List Sl}{ts tt kp:List (V×Sl)}{v:V}{s:Sl}{d:PyData}
theorem pj {env env':List Sl}{s:Sl} (h:iS s=true):gN env s=gN env' s:=by
 cases s <;> first|rfl|cases h
end
section
variable {K:PySem.W.Frag}
section
variable {X:Cx}{pos spos:Pos}{N':List Str}{ix:List (Option Nat)}{it:DI}{g:DG}{tt:DT}{te:DE}{tg iter elt:Expr}{ifs:List Expr}
end
end
section
variable {K:PySem.W.Frag}{M P N:Addr→Prop}{H0 H H':Hp}{E T A B:List Ent}{σ0 σ:St}{env:List Sl}{ts tt kp:List (V×Sl)}{v:V}{s:Sl}{d:PyData}
end
section
variable {X:Cx}{K:PySem.W.Frag}{pos p:Pos}{tl:DA}{sp:DSp}{x:Str}{k:Nat}{e:Expr}{es:List Expr}
end
noncomputable def pAt:List Nat→PyData→Option PyData
 | [],d=>some d
 | i::p,.list ds=>(ds[i]?).bind (pAt p)
 | i::p,.tuple ds=>(ds[i]?).bind (pAt p)
 | _::_,_=>none
noncomputable def so (n:PyData):List Nat→PyData→PyData
 | [],_=>n
 | i::p,.list ds=>.list (match ds[i]? with|some c=>ds.set i (so n p c)|none=>ds)
 | i::p,.tuple ds=>.tuple (match ds[i]? with|some c=>ds.set i (so n p c)|none=>ds)
 | _::_,d=>d
inductive o4 (K:PySem.W.Frag) (H:Hp):V→List Nat→V→Prop
 | nil {v:V}:o4 K H v [] v
 | cons {b:Addr}{xs:List V}{i:Nat}{x u:V}{p:List Nat}:(SqL K H b xs∨SqT K H b xs)→xs[i]? = some x→o4 K H x p u→o4 K H (.ref b) (i::p) u
section
variable {K:PySem.W.Frag}{N:Addr→Prop}{H H':Hp}
theorem OTs.split:∀ {xs:List V}{cs:List PyData}{S:List Addr}{i:Nat}{c:PyData},OTs K N H xs cs S→cs[i]? = some c→∃ x S1 Sx S2,xs[i]? = some x∧S=S1++(Sx++S2)∧OT K N H x c Sx ∧
  ∀ {N1:Addr→Prop}{H':Hp}{c':PyData}{Sx':List Addr},(∀ b o,H b=some o→N1 b→N b)→aE N1 H H'→(∀ b∈S1,H' b=H b)→(∀ b∈S2,H' b=H b)→OT K N1 H' x c' Sx'→OTs K N1 H' xs (cs.set i c') (S1++(Sx'++S2))
 | _,_,_,_,_,.nil,h=>by simp at h
 | _,_,_,0,c,@OTs.cons _ _ _ x xs d ds S S' h q,e=>by
  have e:d=c:=by simpa using e
  subst e
  exact ⟨x,[],S,S',rfl,rfl,h,fun {N1 H' c' Sx'} m k _ k2 o=>(show OTs K N1 H' (x::xs) (c'::ds) (Sx'++S') from .cons o ((q.to m).keep k k2))⟩
 | _,_,_,i+1,c,@OTs.cons _ _ _ x xs d ds S S' h q,e=>by
  obtain ⟨y,S1,Sx,S2,e1,e2,o,f⟩:=OTs.split (i:=i) (c:=c) q (by simpa using e)
  refine ⟨y,S++S1,Sx,S2,by simpa using e1,by rw[e2];simp,o,fun {N1 H' c' Sx'} m k k1 k2 o'=>?_⟩
  have:=OTs.cons ((h.to m).keep k fun b hb=>k1 b (DP _ hb)) (f m k (fun b hb=>k1 b (DL _ hb)) k2 o')
  rw [Ek]
  exact this
theorem OT.path:∀ (p:List Nat) {v:V}{d:PyData}{S:List Addr}{ds:List PyData},OT K N H v d S→S.Nodup→pAt p d=some (.list ds)→∃ a us,o4 K H v p (.ref a)∧H a=some (.lst us)∧a∈S∧us.length=ds.length ∧
  ∀ {N1:Addr→Prop}{H1:Hp}{w:V}{e:PyData}{Se:List Addr},(∀ b o,H b=some o→N1 b→N b)→aO H H1→N1 a→OT K N1 (upd H1 a (.lst (us++[w]))) w e Se→∃ S',S'.Perm (S++Se)∧OT K N1 (upd H1 a (.lst (us++[w]))) v (so (.list (ds++[e])) p d) S'
 | [],v,d,S,ds,o,nd,h=>by
  have h:d=.list ds:=by simpa [pAt] using h
  subst h
  cases o with
  | @lst a us _ Sq hH q =>
   refine ⟨a,us,.nil,hH,DY,q.len,fun {N1 H1 w e Se} m sm na oe=>?_⟩
   obtain ⟨n1,n2⟩:=Ej.mp nd
   have kq:OTs K N1 (upd H1 a (.lst (us++[w]))) us ds Sq:=(q.to m).keep ((aE.same sm).trans (aE.own na)) fun b hb=>by
    obtain ⟨xs,z⟩:=q.lives b hb
    have nb:b≠a:=fun z=>n1 (z▸hb)
    rw [ai nb,sm _ _ z,z]
   exact ⟨a::(Sq++(Se++[])),by simp,.lst ar (kq.app (.cons oe .nil))⟩
 | i :: p,v,d,S,ds,o,nd,h=>by
  cases o with
  | @lst b xs cs Sq hH q =>
   obtain ⟨c,ec,hc⟩:=Fa.mp (show (cs[i]?).bind (pAt p)=some (.list ds) from h)
   obtain ⟨x,S1,Sx,S2,e1,e2,ox,f⟩:=q.split ec
   obtain ⟨n1,n2⟩:=Ej.mp nd
   rw [e2] at n1 n2
   obtain ⟨m1,m2,m3⟩:=DZ.mp n2
   obtain ⟨m4,m5,m6⟩:=DZ.mp m2
   obtain ⟨a,us,r,ha,ma,hl,g⟩:=OT.path p ox m4 hc
   have nb:b≠a:=fun z=>n1 (DL _ (DP _ (z▸ma)))
   refine ⟨a,us,.cons (.inl (SqL.of hH)) e1 r,ha,?_,hl,fun {N1 H1 w e Se} m sm na oe=>?_⟩
   ·rw [e2]
    exact D0 _ (DL _ (DP _ ma))
   ·obtain ⟨Sx',pm,ox'⟩:=g m sm na oe
    have lv:∀ b∈S1++(Sx++S2),b≠a→upd H1 a (.lst (us++[w])) b=H b:=fun b hb nb=>by
     obtain ⟨xs,z⟩:=q.lives b (by rw[e2];exact hb)
     rw [ai nb,sm _ _ z,z]
    have q':=f (H':=upd H1 a (.lst (us++[w]))) m ((aE.same sm).trans (aE.own na)) (fun b hb=>lv b (DP _ hb) fun z=>m3 b hb a (DP _ ma) z) (fun b hb=>lv b (DL _ (DL _ hb)) fun z=>m6 a ma b hb z.symm) ox'
    refine ⟨b::(S1++(Sx'++S2)),?_,?_⟩
    ·rw [e2,List.cons_append]
     refine List.Perm.cons _ ?_
     rw [Ek,Ek]
     refine List.Perm.append_left _ ?_
     refine (List.Perm.append_right S2 pm).trans ?_
     rw [Ek]
     exact List.Perm.append_left _ ES
    ·show OT K N1 _ (.ref b) (.list (match cs[i]? with|some c=>cs.set i (so _ p c)|none=>cs)) _
     rw [ec]
     exact .lst (by rw[ai nb];exact sm _ _ hH) q'
  | @tup b xs cs Sq hT q =>
   obtain ⟨c,ec,hc⟩:=Fa.mp (show (cs[i]?).bind (pAt p)=some (.list ds) from h)
   obtain ⟨x,S1,Sx,S2,e1,e2,ox,f⟩:=q.split ec
   have n2:=nd
   rw [e2] at n2
   obtain ⟨m1,m2,m3⟩:=DZ.mp n2
   obtain ⟨m4,m5,m6⟩:=DZ.mp m2
   obtain ⟨a,us,r,ha,ma,hl,g⟩:=OT.path p ox m4 hc
   refine ⟨a,us,.cons (.inr hT.sq) e1 r,ha,?_,hl,fun {N1 H1 w e Se} m sm na oe=>?_⟩
   ·rw [e2]
    exact DL _ (DP _ ma)
   ·obtain ⟨Sx',pm,ox'⟩:=g m sm na oe
    have lv:∀ b∈S1++(Sx++S2),b≠a→upd H1 a (.lst (us++[w])) b=H b:=fun b hb nb=>by
     obtain ⟨xs,z⟩:=q.lives b (by rw[e2];exact hb)
     rw [ai nb,sm _ _ z,z]
    have q':=f (H':=upd H1 a (.lst (us++[w]))) m ((aE.same sm).trans (aE.own na)) (fun b hb=>lv b (DP _ hb) fun z=>m3 b hb a (DP _ ma) z) (fun b hb=>lv b (DL _ (DL _ hb)) fun z=>m6 a ma b hb z.symm) ox'
    refine ⟨S1++(Sx'++S2),?_,?_⟩
    ·rw [e2]
     rw [Ek,Ek]
     refine List.Perm.append_left _ ?_
     refine (List.Perm.append_right S2 pm).trans ?_
     rw [Ek]
     exact List.Perm.append_left _ ES
    ·show OT K N1 _ (.ref b) (.tuple (match cs[i]? with|some c=>cs.set i (so _ p c)|none=>cs)) _
     rw [ec]
     exact .tup ((hT.to m).keep ((aE.same sm).trans (aE.own na))) q'
  | _=>simp[pAt] at h
end
section
variable {K:PySem.W.Frag}{M P N:Addr→Prop}{H0 H H':Hp}{E T A B:List Ent}{σ0 σ:St}{env:List Sl}{ts tt kp:List (V×Sl)}{v:V}{s:Sl}{d:PyData}
theorem be.appAtU {U:List Ent}{Hh:Hp}{S:List Addr}{p:List Nat}{ds:List PyData} (hh:be K M P H0 (A++(some v,.tr S d)::(B++U)) Hh) (hp:pAt p d=some (.list ds)):∃ a us,o4 K Hh v p (.ref a)∧Hh a=some (.lst us)∧us.length=ds.length ∧
  ∀ {T:List Ent}{H:Hp}{w:V}{e:PyData},aO Hh H→(∀ a∈oas T,Hh a=none∨a∈oas U)→be K M P H0 (A++(some v,.tr S d)::(B++T)) H→OT K (Nw M (A++(some v,.tr S d)::(B++T))) H w e (oas T)→(∀ a∈oas T,H0 a=none)→∃ S',be K M P H0 (A++(some v,.tr S' (so (.list (ds++[e])) p d))::B) (upd H a (.lst (us++[w]))):=by
 obtain ⟨v',ev,ot,h0⟩:=hh.tr _ _ _ (DL _ DY)
 cases ev
 have ndh:=hh.nd
 have oeh:oas (A++(some v,Sl.tr S d)::(B++U))=oas A++(S++(oas B++oas U)):=by rw[ae,ag,aC,ae]
 rw [oeh] at ndh
 obtain ⟨a,us,r,ha,ma,hl,g⟩:=OT.path p ot (DZ.mp (DZ.mp ndh).2.1).1 hp
 refine ⟨a,us,r,ha,hl,fun {T H w e} sm nT h oe' hT=>?_⟩
 have oe:oas (A++(some v,Sl.tr S d)::(B++T))=oas A++(S++(oas B++oas T)):=by rw[ae,ag,aC,ae]
 have nd:=h.nd
 rw [oe] at nd
 obtain ⟨n1,n2,n3⟩:=DZ.mp nd
 obtain ⟨n4,n5,n6⟩:=DZ.mp n2
 obtain ⟨n7,n8,n9⟩:=DZ.mp n5
 have na:Nw M (A++(some v,Sl.tr S d)::(B++T)) a:=.inr (by rw[oe];exact DL _ (DP _ ma))
 have mm:∀ b o,Hh b=some o→Nw M (A++(some v,Sl.tr S d)::(B++T)) b→Nw M (A++(some v,Sl.tr S d)::(B++U)) b:=fun b o eb z=>by
  rcases z with z|z
  ·exact .inl z
  ·rw [oe] at z
   refine .inr ?_
   rw [oeh]
   rcases DQ.mp z with z|z
   ·exact DP _ z
   ·rcases DQ.mp z with z|z
    ·exact DL _ (DP _ z)
    ·rcases DQ.mp z with z|z
     ·exact DL _ (DL _ (DP _ z))
     ·rcases nT b z with nb|nb
      ·rw [nb] at eb;cases eb
      ·exact DL _ (DL _ (DL _ nb))
 have kN:aE (Nw M (A++(some v,Sl.tr S d)::(B++T))) H (upd H a (.lst (us++[w]))):=aE.own na
 have ow':=oe'.keep kN fun b hb=>ai fun z=>n6 a ma b (DL _ hb) z.symm
 obtain ⟨S',pm,ot'⟩:=g mm sm na ow'
 refine ⟨S',?_⟩
 have oe2:oas (A++(some v,Sl.tr S' (so (.list (ds++[e])) p d))::B)=oas A++(S'++oas B):=by rw[ae,ag,aC]
 have pm2:(oas A++(S'++oas B)).Perm (oas A++(S++(oas B++oas T))):=by
  refine List.Perm.append_left _ ((List.Perm.append_right _ pm).trans ?_)
  rw [Ek]
  exact List.Perm.append_left _ ES
 have ne:Nw M (A++(some v,Sl.tr S' (so (.list (ds++[e])) p d))::B)=Nw M (A++(some v,Sl.tr S d)::(B++T)):=by
  funext b
  apply propext
  unfold Nw
  rw [oe,oe2,pm2.mem_iff]
 have back:∀ x t,(x,t)∈A∨(x,t)∈B→(x,t)∈A++(some v,Sl.tr S d)::(B++T):=fun x t m=>by
  rcases m with m|m
  ·exact DP _ m
  ·exact DL _ (D0 _ (DP _ m))
 have old:∀ x t,(x,t)∈A++(some v,Sl.tr S' (so (.list (ds++[e])) p d))::B→(x,t)=(some v,Sl.tr S' (so (.list (ds++[e])) p d))∨((x,t)∈A∨(x,t)∈B):=fun x t m=>by
  rcases DQ.mp m with m|m
  ·exact .inr (.inl m)
  ·rcases D3.mp m with m|m
   ·exact .inl m
   ·exact .inr (.inr m)
 have other:∀ x t b,(x,t)∈A∨(x,t)∈B→b∈cr (x,t)→b≠a:=fun x t b m eo z=>by
  subst z
  rcases m with m|m
  ·exact n3 b (aP.mpr ⟨_,m,eo⟩) b (DP _ ma) rfl
  ·exact n6 b ma b (DP _ (aP.mpr ⟨_,m,eo⟩)) rfl
 refine ⟨h.keep.put (h0 a ma),fun b q z=>?_,h.mt,h.pm,fun x d' m=>?_,fun x d' m=>?_,fun x d' m=>?_,fun x S2 d' m=>?_,?_⟩
 ·by_cases hb:b=a
  ·subst hb;rw[ar] at z;cases z
  ·rw [ai hb] at z;exact h.live b q z
 ·rw [ne]
  rcases old _ _ m with m|m
  ·cases m
  ·obtain ⟨w',e1,dn⟩:=h.fr x d' (back _ _ m)
   exact ⟨w',e1,dn.keep kN⟩
 ·rw [ne]
  rcases old _ _ m with m|m
  ·cases m
  ·obtain ⟨b,us2,e1,e2,dn,r2⟩:=h.ow x d' (back _ _ m)
   subst e1
   exact ⟨b,us2,rfl,by rw[ai (other _ _ b m (DM.mpr rfl))];exact e2,dn.keep kN,r2⟩
 ·rw [ne]
  rcases old _ _ m with m|m
  ·cases m
  ·obtain ⟨b,us2,e1,e2,dn,r2⟩:=h.io x d' (back _ _ m)
   subst e1
   exact ⟨b,us2,rfl,by rw[ai (other _ _ b m (DM.mpr rfl))];exact e2,dn.keep kN,r2⟩
 ·rw [ne]
  rcases old _ _ m with m|m
  ·cases m
   refine ⟨v,rfl,ot',fun b hb=>?_⟩
   rcases DQ.mp (pm.mem_iff.mp hb) with z|z
   ·exact h0 b z
   ·exact hT b z
  ·obtain ⟨w',e1,dn,r2⟩:=h.tr x S2 d' (back _ _ m)
   subst e1
   exact ⟨w',rfl,dn.keep kN fun b hb=>ai (other _ _ b m (by rw[aC];exact hb)),r2⟩
 ·rw [oe2]
  exact pm2.nodup_iff.mpr nd
end
section
variable {X:Cx}{K:PySem.W.Frag}{pos:Pos}{M P N:Addr→Prop}{H0 H H':Hp}{σ0 σ:St}{env:List Sl}{ts:List (V×Sl)}
theorem Rel.setTr {i:Nat}{S S':List Addr}{d d':PyData}{v:V}{A B:List Ent} (h:Rel K M P H0 σ0 σ env ts H) (e:env[i]? = some (.tr S d)) (q2:ay σ (env.set i (.tr S' d')) ts=A++(some v,.tr S' d')::B) (re:be K M P H0 (A++(some v,.tr S' d')::B) H'):Rel K M P H0 σ0 σ (env.set i (.tr S' d')) ts H':=by
 refine ⟨by rw[q2];exact re,by simp[h.len],h.vw,fun j ds' e'=>?_⟩
 by_cases hj:i=j
 ·subst hj
  have hi:i<env.length:=(DX.mp e).1
  rw [Eg hi] at e'
  cases e'
 ·rw [Ef hj] at e'
  exact h.ios j ds' e'
end
section
variable {X:Cx}{K:PySem.W.Frag}{pos:Pos}{M P N:Addr→Prop}{H0 H H':Hp}{σ0 σ:St}{env:List Sl}{ts:List (V×Sl)}
end
section
variable {K:PySem.W.Frag}{H:Hp}
theorem DVs.item:∀ {vs:List V}{ds:List PyData}{i:Nat}{c:PyData},DVs K H vs ds→ds[i]? = some c→∃ x,vs[i]? = some x∧DV K H x c
 | _,_,_,_,.nil,h=>by simp at h
 | _,_,0,_,.cons h _,e=>by simp at e;subst e;exact⟨_,rfl,h⟩
 | _,_,i+1,c,.cons _ q,e=>by
  obtain ⟨x,h1,h2⟩:=DVs.item (i:=i) (c:=c) q (by simpa using e)
  exact ⟨x,by simpa using h1,h2⟩
theorem DV.path:∀ (p:List Nat) {v:V}{d c:PyData},DV K H v d→pAt p d=some c→∃ u,o4 K H v p u∧DV K H u c
 | [],v,d,c,h,e=>by
  have e:d=c:=by simpa [pAt] using e
  subst e
  exact ⟨v,.nil,h⟩
 | i :: p,v,d,c,h,e=>by
  cases h with
  | lst sq q =>
   obtain ⟨c1,e1,e2⟩:=Fa.mp (show (_:Option PyData).bind (pAt p)=some c from e)
   obtain ⟨x,hx,dx⟩:=q.item e1
   obtain ⟨u,r,du⟩:=DV.path p dx e2
   exact ⟨u,.cons (.inl sq) hx r,du⟩
  | tup sq q =>
   obtain ⟨c1,e1,e2⟩:=Fa.mp (show (_:Option PyData).bind (pAt p)=some c from e)
   obtain ⟨x,hx,dx⟩:=q.item e1
   obtain ⟨u,r,du⟩:=DV.path p dx e2
   exact ⟨u,.cons (.inr sq) hx r,du⟩
  | _=>simp[pAt] at e
end
section
variable {X:Cx}{K:PySem.W.Frag}{pos:Pos}{M P N:Addr→Prop}{H0 H H':Hp}{σ0 σ:St}{env:List Sl}{ts:List (V×Sl)}
end
section
variable {K:PySem.W.Frag}{M P N:Addr→Prop}{H0 H H':Hp}{E T A B:List Ent}{σ0 σ:St}{env:List Sl}{ts tt kp:List (V×Sl)}{v:V}{s:Sl}{d:PyData}
end
section
variable {K:PySem.W.Frag}{M P N:Addr→Prop}{H0 H H':Hp}{σ0 σ:St}{env:List Sl}{ts tt kp:List (V×Sl)}{v:V}{s:Sl}{d:PyData}
end
section
variable {X:Cx}{K:PySem.W.Frag}{pos:Pos}
end
theorem jG (ns:List Int):ll (ns.map PyData.int)=true:=by
 induction ns with
 | nil=>rfl
 | cons n ns ih=>exact ih
theorem hZ {α:Type} (l:List α) (z:α):(List.range l.length).map (fun i=>l.getD i z)=l:=by
 refine E3 (by simp) fun i h1 h2=>?_
 simp [DW,DR h2]
theorem hX {α β:Type} (l:List α) (z:α) (g:α→β):(List.range l.length).map (fun i=>g (l.getD i z))=l.map g:=by
 conv=>rhs;rw[←hZ l z,Ew]
 rfl
theorem bv {α β:Type} (l:List α) (z:α) (p:α→Bool) (g:α→β):((List.range l.length).filter fun i=>p (l.getD i z)).map (fun i=>g (l.getD i z))=(l.filter p).map g:=by
 conv=>rhs;rw[←hZ l z,List.filter_map,Ew]
 rfl
noncomputable abbrev lr (rs:List (List Int)):List PyData:=rs.map fun r=>.list (li r)
theorem gm {rs:List (List Int)}{i:Nat}{h:i<(lr rs).length}:(lr rs)[i]=.list (li (rs.getD i [])):=by
 have h':i<rs.length:=by simpa using h
 rw [Fk,DW,DR h']
 rfl
theorem Sh.lr (n:Nat) (rs:List (List Int)):Sh (n+2) (.list (lr rs)):=Sh.list fun x hx=>by
 obtain ⟨r,_,rfl⟩:=D4.mp hx
 exact Sh.ints n r
theorem Pl.lr (n:Nat) {rs:List (List Int)} (h1:rs.length≤1000000) (h2:∀ r∈rs,r.length≤1000000):Pl (n+2) (.list (lr rs)):=Pl.list (by rw[DK];exact h1) fun x hx=>by
 obtain ⟨r,hr,rfl⟩:=D4.mp hx
 exact Pl.ints n (h2 r hr)
section
variable {X:Cx}{K:PySem.W.Frag}{pos:Pos}{es:List Expr}{tl:DA}{e:Expr}{ta:DE}{M P N:Addr→Prop}{H0 H H':Hp}{σ0 σ:St}{env:List Sl}{ts:List (V×Sl)}
noncomputable def ym (t:DA):DE:=fun env R=>t env fun ss env1=>∃ ds,fT env1 ss=some ds∧ss.length≤sizeLine∧∀ S,R (.tr S (.list ds)) env1
theorem zp (h:PA X es (upA K tl)):PE X (.List es pos) (up K (ym tl)):=(vj h).imp fun σ H Q h=>by
 obtain ⟨M,P,H0,σ0,env,ts,R,rel,ht,hq⟩:=h
 refine ⟨M,P,H0,σ0,env,ts,_,rel,ht,fun ss env1 vs H1 h1 hl rel1=>?_⟩
 obtain ⟨ds,e,hz,hR⟩:=h1
 obtain ⟨q,h0⟩:=rel1.trees hl (fun p hp=>DL _ hp) e
 exact ⟨by omega,fun p hp=>hq _ _ _ _ (hR _) (rel1.resLstT hp q h0)⟩
noncomputable def yr (i:Nat) (te:DE):DE:=fun env R=>(∃ S ds,env[i]? = some (.tr S (.list ds)))∧te env fun s env1=>∃ S ds s' d,env1[i]? = some (.tr S (.list ds))∧gO env1 s=some s'∧gN [] s'=some d∧ds.length<sizeLine∧∀ S',R (.fr .none) (env1.set i (.tr S' (.list (ds++[d]))))
theorem zt (i:Nat) {y:Str}{apos cpos npos:Pos} (hK:X.K=K) (hN:X.N[i]? = some y) (ha:PE X e (up K ta))
  (hv:Vis X.env.scope y:=by first|exact Or.inl rfl|exact Or.inr (Or.inl rfl)|exact Or.inr (Or.inr rfl)) (hd:(y==("__debug__" : Str))=false:=by decide)
  (hcd:(y==("__classdict__" : Str))=false:=by decide)
  (hs0:starEach [e] X.env=[(false,eval e X.env)]:=by rfl)
  (hbase:attributeBase (.Name y npos) "append" X.env (eval (.Name y npos) X.env)=eval (.Name y npos) X.env:=by rfl)
  (hfew:((backTo cpos (starEach [e] X.env)).all (fun x=>!x.1)&&(backToKw cpos (keywordEach [] X.env)).all (fun x=>x.1.isSome)&&decide ([e].length+([]:List Keyword).length+(if ([]:List Keyword).isEmpty then 0 else 1)<30))=true:=by rfl)
  (hline:(apos.endLine==cpos.line)=true:=by rfl) (hplain:(backTo cpos (starEach [] X.env)).any (·.1)=false:=by rfl) :
  PE X (.Call (.Attribute (.Name y npos) "append" apos) [e] [] cpos) (up K (yr i ta)) :=
 (kBm (K:=K) hK PySem.F.plainAttrs_list PySem.F.slot_list_append PySem.F.type_list_append jH (c8 hN hv hd hcd) (eJ ha jy hs0) hbase hfew hline hs0 hplain).imp fun σ H Q h=>by
 obtain ⟨M,P,H0,σ0,env,ts,R,rel,⟨⟨S0,ds0,e0⟩,ht⟩,hq⟩:=h
 obtain ⟨x,ex,m0⟩:=rel.slot e0
 obtain ⟨v,ev,ot0,_⟩:=rel.e.tr _ _ _ m0
 subst ev
 cases ot0 with
 | @lst a vs _ Sq hH qH =>
  refine ⟨.ref a,ex,.inl ⟨rfl,vs,SqL.of hH⟩,M,P,H0,σ0,env,ts,_,rel,ht,fun s1 env1 v1 H1 h1 rel1=>?_⟩
  obtain ⟨S,ds,s',d,e1,es,td,hz,hR⟩:=h1
  obtain ⟨rel2,ir⟩:=rel1.unVw es
  obtain ⟨x',A,B,ex',q1,q2⟩:=rel1.drop.split e1
  rw [ex] at ex'
  cases ex'
  have r2:=rel2.e
  have eA:ay σ env1 (ts++[(v1,s')])=A++(some (.ref a),Sl.tr S (.list ds))::(B++[(some v1,s')]):=by
   rw [ax,q1]
   simp [tmp]
  obtain ⟨ot,hh0⟩:=rel2.tree (v:=v1) (s:=s') (DL _ DY) ((pj (env':=[]) ir).trans td)
  have oe:oas [((some v1,s'):Ent)]=cr (some v1,s'):=by
   rw [ag]
   simp [oas]
  rw [eA] at r2 ot
  rw [←oe] at ot hh0
  obtain ⟨b,us,rc,ha',hl,g⟩:=be.appAtU (p:=[]) (ds:=ds) r2 rfl
  cases rc
  obtain ⟨S',re⟩:=g (aO.refl _) (fun c hc=>.inr hc) r2 ot hh0
  refine ⟨a,us,v1,rfl,rfl,ha',by rw[hl];exact hz,?_⟩
  exact hq _ _ _ _ (hR S') ((rel1.drop.setTr e1 (q2 _) re).addFr .non)
end
section
variable {K:PySem.W.Frag}{N:Addr→Prop}{H:Hp}
end
section
variable {K:PySem.W.Frag}{M P N:Addr→Prop}{H0 H H':Hp}{A B:List Ent}{σ0 σ:St}{env:List Sl}{ts:List (V×Sl)}{v v':V}{d d':PyData}{S S':List Addr}{y:Option V}
end
section
variable {X:Cx}{K:PySem.W.Frag}{pos:Pos}{M P N:Addr→Prop}{H0 H H':Hp}{σ0 σ:St}{env:List Sl}{ts:List (V×Sl)}
end
noncomputable def Df:Sl→Bool
 | .ow _=>true
 | .tr _ _=>true
 | .fr _=>true
 | _=>false
section
variable {X:Cx}{K:PySem.W.Frag}{pos:Pos}{M P N:Addr→Prop}{H0 H H':Hp}{σ0 σ:St}{env:List Sl}{ts:List (V×Sl)}{v:V}
theorem Rel.move {i:Nat}{s:Sl} (h:Rel K M P H0 σ0 σ env ts H) (e:env[i]? = some s) (hs:Df s=true):∃ v,σ[i]? = some (some v)∧Rel K M P H0 σ0 σ (env.set i .un) (ts++[(v,s)]) H:=by
 obtain ⟨x,A,B,e1,q1,q2⟩:=h.split e
 have hE:=h.e
 rw [q1] at hE
 obtain ⟨v,ev⟩:∃ v,x=some v:=by
  cases s with
  | fr d=>obtain⟨v,ev,_⟩:=hE.fr _ _ (DL _ DY);exact⟨v,ev⟩
  | ow ds=>obtain⟨a,vs,ev,_⟩:=hE.ow _ _ (DL _ DY);exact⟨_,ev⟩
  | tr S d=>obtain⟨v,ev,_⟩:=hE.tr _ _ _ (DL _ DY);exact⟨v,ev⟩
  | _=>cases hs
 subst ev
 refine ⟨v,e1,?_⟩
 have en:ay σ (env.set i .un) (ts++[(v,s)])=(A++(some v,Sl.un)::B)++[(some v,s)]:=by rw[ax,q2];rfl
 have oe:oas ((A++(some v,Sl.un)::B)++[(some v,s)])=oas A++(oas B++cr (some v,s)):=by
  rw [ae,ae,ag,eK,ag]
  simp [oas]
 refine ⟨?_,by simp[h.len],fun w j m=>?_,fun j l' e'=>?_⟩
 ·rw [en]
  refine hE.sub (fun x t m=>?_) ?_
  ·rcases DQ.mp m with m|m
   ·rcases DQ.mp m with m|m
    ·exact .inl (DP _ m)
    ·rcases D3.mp m with m|m
     ·cases m;exact .inr (.inl rfl)
     ·exact .inl (DL _ (D0 _ m))
   ·rw [DM] at m
    cases m
    exact .inl (DL _ DY)
  ·have nd:=hE.nd
   rw [ae,ag] at nd
   rw [oe]
   exact (List.Perm.append_left _ ES).nodup_iff.mpr nd
 ·rcases DQ.mp m with m|m
  ·exact h.vw w j m
  ·rw [DM] at m
   cases m
   cases hs
 ·by_cases hj:i=j
  ·subst hj
   rw [Eg (DX.mp e).1] at e'
   cases e'
  ·rw [Ef hj] at e'
   exact h.ios j l' e'
end
end L2
namespace L2
open PySem Builtin Builtin.Str StrLaws PySem.NumText PySem.W
noncomputable def num (n:Int):Str:=Str.ofString (toString n)
end L2
namespace L2
open PySem Builtin Builtin.Str StrLaws
noncomputable def nZ (x:Nat):Prop:=x=44∨x=45∨(48≤x∧x≤57)
end L2
namespace L2
open PySem PySem.Spec PyProof.Rows
section
variable {X:Cx}{K:PySem.W.Frag}
end
section
variable {X:Cx}{K:PySem.W.Frag}{pos:Pos}{e o:Expr}{ta to:DE}{M P N:Addr→Prop}{H0 H H':Hp}{σ0 σ:St}{env:List Sl}{ts:List (V×Sl)}
end
section
variable {X:Cx}{K:PySem.W.Frag}{pos:Pos}{M P N:Addr→Prop}{H0 H H':Hp}{σ0 σ:St}{env:List Sl}{ts:List (V×Sl)}
mutual
theorem DV.same (k:aO H H'):∀ {v:V}{d:PyData},DV K H v d→DV K H' v d
 | _,_,.non=>.non
 | _,_,.bl b=>.bl b
 | _,_,.int i=>.int i
 | _,_,.lst h q=>.lst (h.keep k) (DVs.same k q)
 | _,_,.tup h q=>.tup (h.keep k) (DVs.same k q)
 | _,_,.dct h q r e=>.dct (k _ _ h) (DVs.same k q) (DVs.same k r) e
 | _,_,.fz h=>.fz (DV.same k h)
theorem DVs.same (k:aO H H'):∀ {v:List V}{d:List PyData},DVs K H v d→DVs K H' v d
 | _,_,.nil=>.nil
 | _,_,.cons h q=>.cons (DV.same k h) (DVs.same k q)
end
theorem DVs.drop:∀ {vs:List V}{ds:List PyData} (n:Nat),DVs K H vs ds→DVs K H (vs.drop n) (ds.drop n)
 | _,_,0,q=>q
 | _,_,_+1,.nil=>.nil
 | _,_,n+1,.cons _ q=>DVs.drop n q
end
section
variable {X:Cx}{K:PySem.W.Frag}{pos:Pos}{M P N:Addr→Prop}{H0 H H':Hp}{σ0 σ:St}{env:List Sl}{ts:List (V×Sl)}
theorem be.grow {A B T:List Ent}{v:V}{S S':List Addr}{d d':PyData}{a:Addr}{us:List V} (h:be K M P H0 (A++(some v,.tr S d)::(B++T)) H) (ma:a∈S) (pm:S'.Perm (S++oas T)) (hT:∀ a∈oas T,H0 a=none)
  (ot':OT K (Nw M (A++(some v,.tr S d)::(B++T))) (upd H a (.lst us)) v d' S'):be K M P H0 (A++(some v,.tr S' d')::B) (upd H a (.lst us)):=by
 obtain ⟨v',ev,ot,h0⟩:=h.tr _ _ _ (DL _ DY)
 cases ev
 have oe:oas (A++(some v,Sl.tr S d)::(B++T))=oas A++(S++(oas B++oas T)):=by rw[ae,ag,aC,ae]
 have nd:=h.nd
 rw [oe] at nd
 obtain ⟨n1,n2,n3⟩:=DZ.mp nd
 obtain ⟨n4,n5,n6⟩:=DZ.mp n2
 obtain ⟨n7,n8,n9⟩:=DZ.mp n5
 have na:Nw M (A++(some v,Sl.tr S d)::(B++T)) a:=.inr (by rw[oe];exact DL _ (DP _ ma))
 have kN:aE (Nw M (A++(some v,Sl.tr S d)::(B++T))) H (upd H a (.lst us)):=aE.own na
 have oe2:oas (A++(some v,Sl.tr S' d')::B)=oas A++(S'++oas B):=by rw[ae,ag,aC]
 have pm2:(oas A++(S'++oas B)).Perm (oas A++(S++(oas B++oas T))):=by
  refine List.Perm.append_left _ ((List.Perm.append_right _ pm).trans ?_)
  rw [Ek]
  exact List.Perm.append_left _ ES
 have ne:Nw M (A++(some v,Sl.tr S' d')::B)=Nw M (A++(some v,Sl.tr S d)::(B++T)):=by
  funext b
  apply propext
  unfold Nw
  rw [oe,oe2,pm2.mem_iff]
 have back:∀ x t,(x,t)∈A∨(x,t)∈B→(x,t)∈A++(some v,Sl.tr S d)::(B++T):=fun x t m=>by
  rcases m with m|m
  ·exact DP _ m
  ·exact DL _ (D0 _ (DP _ m))
 have old:∀ x t,(x,t)∈A++(some v,Sl.tr S' d')::B→(x,t)=(some v,Sl.tr S' d')∨((x,t)∈A∨(x,t)∈B):=fun x t m=>by
  rcases DQ.mp m with m|m
  ·exact .inr (.inl m)
  ·rcases D3.mp m with m|m
   ·exact .inl m
   ·exact .inr (.inr m)
 have other:∀ x t b,(x,t)∈A∨(x,t)∈B→b∈cr (x,t)→b≠a:=fun x t b m eo z=>by
  subst z
  rcases m with m|m
  ·exact n3 b (aP.mpr ⟨_,m,eo⟩) b (DP _ ma) rfl
  ·exact n6 b ma b (DP _ (aP.mpr ⟨_,m,eo⟩)) rfl
 refine ⟨h.keep.put (h0 a ma),fun b q z=>?_,h.mt,h.pm,fun x d' m=>?_,fun x d' m=>?_,fun x d' m=>?_,fun x S2 d' m=>?_,?_⟩
 ·by_cases hb:b=a
  ·subst hb;rw[ar] at z;cases z
  ·rw [ai hb] at z;exact h.live b q z
 ·rw [ne]
  rcases old _ _ m with m|m
  ·cases m
  ·obtain ⟨w',e1,dn⟩:=h.fr x d' (back _ _ m)
   exact ⟨w',e1,dn.keep kN⟩
 ·rw [ne]
  rcases old _ _ m with m|m
  ·cases m
  ·obtain ⟨b,us2,e1,e2,dn,r2⟩:=h.ow x d' (back _ _ m)
   subst e1
   exact ⟨b,us2,rfl,by rw[ai (other _ _ b m (DM.mpr rfl))];exact e2,dn.keep kN,r2⟩
 ·rw [ne]
  rcases old _ _ m with m|m
  ·cases m
  ·obtain ⟨b,us2,e1,e2,dn,r2⟩:=h.io x d' (back _ _ m)
   subst e1
   exact ⟨b,us2,rfl,by rw[ai (other _ _ b m (DM.mpr rfl))];exact e2,dn.keep kN,r2⟩
 ·rw [ne]
  rcases old _ _ m with m|m
  ·cases m
   refine ⟨v,rfl,ot',fun b hb=>?_⟩
   rcases DQ.mp (pm.mem_iff.mp hb) with z|z
   ·exact h0 b z
   ·exact hT b z
  ·obtain ⟨w',e1,dn,r2⟩:=h.tr x S2 d' (back _ _ m)
   subst e1
   exact ⟨w',rfl,dn.keep kN fun b hb=>ai (other _ _ b m (by rw[aC];exact hb)),r2⟩
 ·rw [oe2]
  exact pm2.nodup_iff.mpr nd
end
section
variable {X:Cx}{K:PySem.W.Frag}{pos:Pos}{N':List Str}{ix:List (Option Nat)}{it:DI}{g:DG}{tt:DT}{te:DE}{tg iter elt:Expr}{ifs:List Expr}
end
section
variable {prog:Program}{w:World}{A:Around}{E:Value→Shared→Prop}{s:Shared}
end
section
variable {X:Cx}{K:PySem.W.Frag}{pos:Pos}{es:List Expr}
end
section
variable {X:Cx}{K:PySem.W.Frag}{pos:Pos}{N:Addr→Prop}{H:Hp}
end
section
variable {X:Cx}{K:PySem.W.Frag}{pos ip lp p':Pos}{c:Expr}{tc:DT}
noncomputable def dFz (i:Nat) (u:DS):DS:=fun DD env=>∃ ds,env[i]? = some (.ow ds)∧u DD (env.set i (.fr (.list ds)))
theorem y9 (i:Nat) {ss:List Stmt}{u:DS} (h:PSs X ss (upS K u)):PSs X ss (upS K (dFz i u)):=h.imp fun D σ H h=>by
 obtain ⟨M,P,H0,σ0,env,ts,DD,nv,rel,⟨ds,e,hu⟩,ok⟩:=h
 exact ⟨M,P,H0,σ0,_,ts,DD,nv,rel.frz e,hu,ok⟩
end
end L2
namespace L2
open PySem PySem.W PyProof.Rows
noncomputable def eG {α:Type} (n:Nat) (P:α→Prop):KasT α→Prop
 | .ret a=>P a
 | .ask i j k=>i<n∧j<n∧∀ b,eG n P (k b)
theorem eG.bind {α β:Type}{n:Nat}{P:α→Prop}{R:β→Prop}{f:α→KasT β} (hf:∀ a,P a→eG n R (f a)):∀ {t:KasT α},eG n P t→eG n R (t.bind f)
 | .ret a,h=>hf a h
 | .ask i j k,h=>⟨h.1,h.2.1,fun b=>eG.bind hf (h.2.2 b)⟩
theorem eG.mono {α:Type}{n:Nat}{P R:α→Prop} (hf:∀ a,P a→R a):∀ {t:KasT α},eG n P t→eG n R t
 | .ret a,h=>hf a h
 | .ask i j k,h=>⟨h.1,h.2.1,fun b=>eG.mono hf (h.2.2 b)⟩
noncomputable def Pn (n:Nat) (p:Array Nat):Prop:=p.Perm (List.range n).toArray
theorem Pn.rev {n i j:Nat}{p:Array Nat} (h:Pn n p):Pn n (kas_rev p i j):=(mirror_perm _ _ _ _).trans h
theorem Pn.bub {n i j:Nat}{p:Array Nat} (h:Pn n p):Pn n (bubble p i j):=(bubble_perm _ _ _).trans h
theorem Pn.list {n:Nat}{p:Array Nat} (h:Pn n p):p.toList.Perm (List.range n):=by
 have:=Array.perm_iff_toList_perm.mp h
 simpa using this
theorem Pn.lt {n:Nat}{p:Array Nat} (h:Pn n p) (h1:1≤n) (k:Nat):p.getD k 0<n:=by
 by_cases hk:k<p.size
 ·have e:p.getD k 0=p[k]:=by simp[Array.getD,hk]
  rw [e]
  have m:p[k]∈p.toList:=by simp
  exact Ez.mp (h.list.mem_iff.mp m)
 ·have e:p.getD k 0=0:=by simp[Array.getD,hk]
  omega
section
variable {n:Nat}{p:Array Nat} (h1:1≤n)
include h1
theorem lP (h:Pn n p):∀ (f k:Nat),eG n (fun _=>True) (kas_asc p f k)
 | 0,k=>trivial
 | f+1,k=>⟨h.lt h1 _,h.lt h1 _,fun b=>by
  cases b with
  | true=>exact trivial
  | false=>exact lP h f (k+1)⟩
theorem fP:∀ (f:Nat) (p:Array Nat) (k q:Nat),Pn n p→eG n (fun r=>Pn n r.1) (kas_desc f p k q)
 | 0,p,k,q,h=>h
 | f + 1,p,k,q,h=>⟨h.lt h1 _,h.lt h1 _,fun b=>by
  cases b with
  | true =>
   show eG n _ (if q>0 then _ else _)
   split
   ·exact fP f _ _ _ h.rev
   ·exact fP f _ _ _ h
  | false =>
   refine ⟨h.lt h1 _,h.lt h1 _,fun d=>?_⟩
   cases d with
   | true=>exact h
   | false=>exact fP f _ _ _ h⟩
theorem jp {k r:Nat} (h:Pn n p):eG n (fun r=>Pn n r.2) (kas_tail3 k r p):=by
 unfold kas_tail3
 refine eG.bind (P:=fun _=>True) (fun m _=>?_) (lP h1 h.rev _ _)
 exact (h.rev:Pn n (kas_rev p 0 k))
theorem ft {k r:Nat} (h:Pn n p):eG n (fun r=>Pn n r.2) (kas_descPart k r p):=(fP h1 _ _ _ _ h).bind fun a ha=>by
 show eG n _ (if a.2.2>0 then _ else _)
 split
 ·exact jp h1 (Pn.rev ha)
 ·exact jp h1 ha
theorem rH {r:Nat} (h:Pn n p):eG n (fun r=>Pn n r.2) (kas_count r p):=(lP h1 h _ _).bind fun k _=>by
 show eG n _ (if (k==r)=true then _ else _)
 split
 ·exact h
 ·split
  ·refine ⟨h.lt h1 _,h.lt h1 _,fun b=>?_⟩
   cases b with
   | true=>exact h
   | false=>exact ft h1 h.rev
  ·exact ft h1 h
theorem gi (h:Pn n p) (k:Nat):∀ f l r,eG n (fun _=>True) (kas_place p k f l r)
 | 0,l,r=>trivial
 | f + 1,l,r=>by
  show eG n _ (if l≥r then _ else _)
  split
  ·exact trivial
  ·refine ⟨h.lt h1 _,h.lt h1 _,fun b=>?_⟩
   cases b with
   | true=>exact gi h k f _ _
   | false=>exact gi h k f _ _
theorem rP:∀ (f:Nat) (p:Array Nat) (k:Nat),Pn n p→eG n (Pn n) (kas_bin f p k)
 | 0,p,k,h=>h
 | f+1,p,k,h=>(gi h1 h _ _ _ _).bind fun l _=>rP f _ _ h.bub
theorem iC:eG n (Pn n) (kas_sort n):=(rH h1 (p:=(List.range n).toArray) (Array.Perm.refl _)).bind fun r hr=>by
 show eG n _ (if r.1<n then _ else _)
 split
 ·exact rP h1 _ _ _ hr
 ·exact hr
end
end L2
namespace L2
open PySem PySem.Spec PyProof.Rows PySem.W
open PySem.SeqAt PySem.MeetsSeq PySem.MeetsSeq2 PySem.MeetsSeq3 PySem.SeqRoads2
open PySem.AutoSeq1 (wpAny_loadPart')
section
variable {prog:Program}{w:World}{A:Around}{E:Value→Shared→Prop}{s:Shared}
end
end L2
namespace L2
open PySem PySem.Spec PyProof.Rows PySem.W
noncomputable def CV (h:Heap) (v:Value):Prop:=∃ (a:Addr) (o:Obj) (n:Nat) (x:Int) (t:Tok) (l:Addr) (its:Array Value) (ns:List Int) (as:List Addr),v=.ref a∧h.get? a=some o∧o.cls=.type "tuple" ∧ o.data=.seq #[.int x t,.ref l] n∧h.IsList l its∧(∀ j (h:j<its.size),∃ x t,its[j]=Value.int x t)∧Reads h (.ref l) (.list (ns.map PyData.int)) as
noncomputable def oJ (d:PyData):Prop:=∃ (n:Int) (ns:List Int),d=.tuple [.int n,.list (ns.map .int)]
section
variable {X:Cx}{pins:List (Addr×Obj)}{σ:St}{H:Hp}{s:Shared}
end
section
variable {prog:Program}{w:World}{A:Around}{s:Shared}
theorem ii {h:Heap}:∀ {us:List Value},(∀ u∈us,CV h u)→∃ fs,KatTups h us fs∧fs.length=us.length∧∀ f∈fs,∃ x t,f=Value.int x t
 | [],_=>⟨[],.nil,rfl,fun f hf=>by simp at hf⟩
 | u::us,k=>by
  obtain ⟨fs,h1,h2,h3⟩:=ii (us:=us) fun v hv=>k v (by simp[hv])
  obtain ⟨a,o,n,x,t,l,its,ns,as,rfl,e,c,d,_⟩:=k u (by simp)
  refine ⟨.int x t::fs,.cons e c d (by rfl) h1,by simp[h2],fun f hf=>?_⟩
  rcases D3.mp hf with rfl|hf
  ·exact ⟨x,t,rfl⟩
  ·exact h3 f hf
end
theorem jx {α β:Type}{f:α→β}{ws bs:List β} (h:ws.Perm bs):∀ t:List α,bs=t.map f→∃ t':List α,t'.Perm t∧ws=t'.map f:=by
 induction h with
 | nil =>
  intro t e
  cases t with
  | nil=>exact⟨[],.refl _,rfl⟩
  | cons _ _=>cases e
 | cons x _ ih =>
  intro t e
  cases t with
  | nil=>cases e
  | cons y t =>
   injection e with e1 e2
   obtain ⟨t',p,e'⟩:=ih t e2
   exact ⟨y::t',p.cons y,by rw[e1,e'];rfl⟩
 | swap x y l =>
  intro t e
  match t,e with
  | z1::z2::t,e =>
   injection e with e1 e2
   injection e2 with e2 e3
   exact ⟨z2::z1::t,.swap ..,by rw[e1,e2,e3];rfl⟩
 | trans _ _ ih1 ih2 =>
  intro t e
  obtain ⟨t1,p1,e1⟩:=ih2 t e
  obtain ⟨t2,p2,e2⟩:=ih1 t1 e1
  exact ⟨t2,p2.trans p1,e2⟩
theorem x4 {K:PySem.W.Frag}{H:Hp}{vs:List V}{ds:List PyData} (h:DVs K H vs ds):vs.length=ds.length:=DVs.ind (C:=fun v d=>v.length=d.length) rfl (fun _ _ i=>by rw[Et,Et,i]) h
theorem lC {K:PySem.W.Frag}{N:Addr→Prop}{H:Hp}{vs:List V}{ds:List PyData} (h:DNs K N H vs ds):∀ z∈vs.zip ds,DN K N H z.1 z.2:=DNs.ind (C:=fun vs ds=>∀ z∈vs.zip ds,DN K N H z.1 z.2) (fun z h=>by simp at h) (fun d _ i z h=>by
  simp only [List.zip_cons_cons] at h
  rcases D3.mp h with rfl|h
  ·exact d
  ·exact i z h) h
section
variable {X:Cx}{K:PySem.W.Frag}
variable {e:Expr}{p pos:Pos}{tl:DA}
end
section
variable {X:Cx}{K:PySem.W.Frag}{e o:Expr}{pos p2:Pos}
variable {ta to:DE}{tl:DA}
theorem kY {j p3 p4}:PE X (.UnaryOp .USub (.Constant (.int 1) j p3) p4) (tC (.int (-1))):=(zE jk mJ).imp fun σ H Q h=>⟨1,rfl,h⟩
end
end L2
namespace L2
open PySem PySem.Spec PyProof.Rows PySem.W PySem.Calls
section
variable {prog:Program}{w:World}{A:Around}{R:Result→Shared→Prop}{I:Addr}{fp wr:List Addr}{n:Nat}{P:Nat→Value→Prop}{St:Nat→Heap→Prop}
end
section
variable {X:Cx}{K:PySem.W.Frag}{e:Expr}{tl:DA}{p pos kpos p3:Pos}
end
end L2
namespace L2
open PySem PySem.Spec PyProof.Rows
section
variable {ds:List PyData}{ix:List (Option Nat)}{g:DG}{tt:DT}{te:DE}{env:List Sl}{R:Sl→List Sl→Prop}
theorem vS (P:PyData→Prop) (hz:ds.length≤1000000) (h:∀ i,(h:i<ds.length)→∀ Q:PyData→Prop,(∀ d,P d→Q d)→g ds[i] (fB ix env) fun b1=>te b1 fun s b3=>∃ d,aD b3 s=some d∧Q d)
  (hR:∀ rs:List PyData,rs.length=ds.length→(∀ d∈rs,P d)→R (.ow rs) env):CD ds ix g yc te env R:=by
 refine ⟨fun i rs=>rs.length=i∧i≤ds.length∧∀ d∈rs,P d,⟨rfl,Ee _,by simp⟩,fun i rs hi w=>?_,fun rs w=>hR rs w.1 w.2.2⟩
 obtain ⟨w1,w2,w3⟩:=w
 refine ⟨by rw[w1];exact D6 (by omega) af,?_⟩
 have:=h i hi (fun d=>(rs++[d]).length=i+1∧i+1≤ds.length∧∀ x∈rs++[d],P x) fun d hd=>⟨by simp[w1],hi,fun x hx=>by
  rcases DQ.mp hx with hx|hx
  ·exact w3 x hx
  ·rw [DM.mp hx];exact hd⟩
 simpa only [yc,if_true] using this
end
theorem ja {p:Int→Prop}:∀ {rs:List PyData},(∀ d∈rs,∃ x:Int,d=.int x∧p x)→∃ ns:List Int,rs=li ns∧∀ x∈ns,p x
 | [],_=>⟨[],rfl,by simp⟩
 | d :: rs,h=>by
  obtain ⟨ns,rfl,h2⟩:=ja (rs:=rs) fun e he=>h e (by simp[he])
  obtain ⟨x,rfl,hx⟩:=h d (by simp)
  exact ⟨x::ns,rfl,fun y hy=>by
   rcases D3.mp hy with rfl|hy
   ·exact hx
   ·exact h2 y hy⟩
end L2
namespace L2
open PySem PySem.Spec PyProof.Rows PySem.W
section
variable {CX:CXT}{P:Program}{w:World}{K:PySem.W.Frag}{mg:Str→Option Value}{base:Heap}{k:Nat}{f c':Addr}{qual:Str}{params:Arguments}{body:Expr}{scope:Scope}{pm ctv:Value}{N ps:List Str}
 {A : Around}{outer:List Env}{s:Shared}{H:Hp}{us:List Value}{vs:List V}{Q:VK}{E:XK}{t:TE}
theorem xB (S:au N ps scope) (hr:ca (k+1) A) (e0:lQ P w K mg base A outer s H) (ho:s.heap.get? f=some (kla_obj "<lambda>" qual params body scope [] pm c' ctv)) (hcd:s.heap.CodeRec (.ref c') qual)
  (hb:bindArgs (kla_fn "<lambda>" qual params body scope [] pm (.ref c') ctv) ⟨us,[]⟩=pure (ps.zip us)) (r:aK vs us) (hl:vs.length=ps.length)
  (ht:PE (dH CX P w K mg base N qual scope f (.ref c') A outer s H E) body t) (hq:t (bu N vs) H Q):codeAny (model P w) A (.call (.ref f) ⟨us,[]⟩) (CR CX outer P w H s Q E) s:=by
 have lim:s.heap.NoLimit:=e0.mod.nolimit.keeps fun b o e=>(e0.bs b o e).1
 have hkind:∀ y∈ps.zip us,scope.names.lookup y.1=some .local∨(scope.names.lookup y.1=some .cell∧((cellsFrom (s.heap.objs.size+1) scope.names []).lookup y.1).isSome=true):=fun ⟨n,v⟩ hy=>by
  rcases S.par n (Fq hy).1 with q|q
  ·exact .inl q
  ·exact .inr ⟨q,PySem.W.cellsFrom_some _ _ _ (.inl q)⟩
 refine kla_callFunE hr.depth ho rfl S.co S.gen rfl hcd ?_
 rw [hb]
 refine wpAny_pure ?_
 refine wpAny_newFunctionEnv_cells S.kind hkind fun env he s1 x=>?_
 subst he
 refine ⟨lim.keeps x.toInCall.keep,kla_codeExpr ?_⟩
 have I:Inv (dH CX P w K mg base N qual scope f (.ref c') A outer s H E) [] (bu N vs) H s1:=jY S hr.hd e0 hl r x
 refine wpAny_mono (ht [] s1 (bu N vs) H _ I hq) (fun u s' hs=>?_) fun e s' hs=>hs
 obtain ⟨v,H',J,rv,q⟩:=hs
 exact ⟨v,H',J.os,J.bare,J.base,J.hok,rv,q⟩
end
theorem oZ {pos:Pos}{a b:Int}{c cv:Value} (l:List Value) (h:TriplesOk l) (hn:codeAmong pos (l++[rawInt a,rawInt b,c])=some cv):codeAmong pos l=some cv∨cv=c:=by
 fun_induction TriplesOk l with
 | case1 =>
  simp only [List.nil_append,codeAmong,rawInt] at hn
  split at hn
  ·cases hn;exact .inr rfl
  ·cases hn
 | case2 a' t b' u x bI ih =>
  simp only [List.cons_append,codeAmong] at hn ⊢
  split at hn
  ·rename_i hc
   rw [if_pos hc]
   exact .inl hn
  ·rename_i hc
   rw [if_neg hc]
   exact ih h hn
 | case3 l h1 h2=>exact h.elim
noncomputable def AU (H:Hp) (c:Addr) (q:Str):Prop:=∃ oc u vs t,H c=some (.frz oc u)∧oc.data=.fields vs∧vs[1]? = some (.str q t)
noncomputable def o6 (X:Cx):Prop:=∃ c T,X.env.code=.ref c∧CodeHd X.base c T∧gL X.K T (X.env.qual ++ "<lambda>")
section
variable {X:Cx}{pins:List (Addr×Obj)}{σ:St}{H:Hp}{s:Shared}
theorem Inv.grow (I:Inv X pins σ H s) {T c':Addr}{q:Str}{h':Heap}{oc:Obj}{vs:Array Value}{t:Tok}{tk:Nat} (hT:H T=some (.tbl q)) (hx:Heap.ExtBut T s.heap h') (hc:s.heap.objs.size≤c') (ho:h'.get? c'=some oc) (hd:oc.data=.fields vs) (hv:vs[1]? = some (.str q t))
  (ht:yA (upd H c' (.frz oc (.own 0))) h' T q):Inv X pins σ (upd H c' (.frz oc (.own 0))) { s with heap:=h',toks:=tk }∧aO H (upd H c' (.frz oc (.own 0))):=by
 have hn:H c'=none:=I.hok.fresh hc
 have hTs:T<s.heap.objs.size:=I.hok.lt hT
 have hTc:T≠c':=Ed (D6 hTs hc)
 obtain ⟨ps',eT,_⟩:=id ht
 refine ⟨I.un (t':=tk) ⟨fun b o e n _ _=>?_,fun b o e n _ _=>⟨o.slots,?_⟩,fun b o e n _=>?_,fun b o e _=>?_,fun b xs e=>?_,fun b o u e=>?_,fun b q e=>?_⟩ (fun b u e=>?_),fun b o e=>by rw[ai (ao e hn)];exact e⟩
 ·exact hx b o (fun z=>by rw[z,hT] at n;cases n) e
 ·exact hx b o (fun z=>by rw[z,hT] at n;cases n) e
 ·rw [ai (Ed (D6 (D7 e) hc))];exact n
 ·by_cases z:b=T
  ·subst z;exact⟨_,eT⟩
  ·exact ⟨o,hx b o z e⟩
 ·rw [ai (ao e hn)];exact e
 ·rw [ai (ao e hn)];exact e
 ·rw [ai (ao e hn)];exact e
 ·by_cases hb:b=c'
  ·subst hb
   rw [ar] at e
   cases e
   exact ⟨ho,_,ho⟩
  ·rw [ai hb] at e
   by_cases hbT:b=T
   ·subst hbT
    rw [hT] at e
    cases e
    exact ht
   ·refine (I.hok b u e).stay (fun c v hc' q=>hx c v ?_ q) (fun c q=>by rw[ai (ao q hn)];exact q) fun c o _ q=>by rw[ai (ao q hn)];exact q
    rcases hc' with z|z
    ·rw [z];exact hbT
    ·exact fun z'=>by rw[z',hT] at z;cases z
variable {params:Arguments}{body:Expr}{scope:Scope}{pos:Pos}{E:Value→Shared→Prop}
end
section
variable {X:Cx}{pins:List (Addr×Obj)}{σ:St}{H:Hp}{s:Shared}{params:Arguments}{scope:Scope}{p1 p2 p3 p4 p5:Pos}{kk:Nat}{f c':Addr}{qual:Str}{pm ctv:Value}{k:Nat}{A:Around}
noncomputable def fv (X:Cx) (pins:List (Addr×Obj)) (σ:St) (H:Hp) (s:Shared) (d:PyData) (u:Value) (s':Shared):Prop :=
 ∃ H' v,Inv X pins σ H' s'∧aO H H'∧bz v u∧DN X.K N0 H' v d∧∀ b o,fE X pins H b→s.heap.get? b=some o→s'.heap.get? b=some o∧H' b=none
end
section
variable {X:Cx}{pins:List (Addr×Obj)}{σ:St}{H0:Hp}{f:Value}{vs:List Value}{A:Around}{E:Value→Shared→Prop}{a kS:Addr}
theorem qX {H H':Hp}{b:Addr} (h:fE X pins H b) (n:H' b=none):fE X pins H' b:=⟨n,h.2⟩
theorem pd {xs:List V}{us:List Value}{x:V}{u:Value} (h:aK xs us) (q:bz x u):aK (xs++[x]) (us++[u]):=by
 induction h with
 | nil=>exact .cons q .nil
 | cons r _ i=>exact .cons r i
end
section
variable {X:Cx}{pins:List (Addr×Obj)}{σ:St}{H0:Hp}{f:Addr}{vs:List Value}{A:Around}{E:Value→Shared→Prop}{s:Shared}
end
section
variable {X:Cx}{K:PySem.W.Frag}{e:Expr}{t:TA}{p pos kpos lpos p1 p2 p3 p4 p5:Pos}{kk:Nat}{params:Arguments}{scope:Scope}
noncomputable def Ak (d:PyData):Prop:=∃ ns:List Int,d=.list (ns.map .int)
variable {tl:DA}
end
section
variable {P:Program}{w:World}{K:PySem.W.Frag}{mg:Str→Option Value}{base:Heap}
noncomputable def sf (K:PySem.W.Frag) (base:Heap) (x:Str) (fd:FuncData):Prop:=∃ c T,fd.code=.ref c∧CodeHd base c T∧gL K T (x ++ ".<locals>.<lambda>")
theorem CI {x:Str}{st:Stmt}{f:Addr}{fd:FuncData}{N ps:List Str}{k:Nat}{sp:DSp} (F:Fun K x x st f fd) (S:au N ps (ad st)) (len:∀ ss R,sp ss R→ss.length=ps.length) (hN:ps.length≤N.length)
  (hb:∀ (cdv:Value) (hcd:cdv=fd.code) (A:Around) (outer:List Env) (s:Shared) (H:Hp) (E:XK),ca k (A.deeper (envOfC x (ad st) s.heap.objs.size f cdv)) →
   ∃ t:DS,PSs (dH CX0 P w K mg base N x (ad st) f cdv A outer s H E).nox (bB st) (upS K t)∧∀ ss R,sp ss R→t (iV ps.length R) (bC N.length ss)):b7 P w K mg base CX0 (k+1) f fd ps (spD K sp):=by
 obtain ⟨oc,od,kV,doc,pm,an,cdv,ct,osl,rfl,lk,hcd⟩:=F.ex
 exact De (fun A outer s H E hr=>hb cdv rfl A outer s H E hr) lk hcd S len hN
noncomputable def si (vs:Array Value) (c T:Addr):Prop:=vs[11]? = some (.ref T)∧vs.getD 11 .none=.ref T∧(∃ file tf,vs.getD 18 .none=.str file tf)∧(∃ i t,vs.getD 7 .none=.int i t)∧(∃ b,vs.getD 9 .none=.bool b)∧(∃ i t,vs.getD 10 .none=.int i t)∧c≠T
theorem z7 {x:Str}{f c T:Addr}{fd:FuncData}{oc:Value}{od odc:Option Addr}{osl slc:Array (Option Value)}{vs:Array Value} (hx:x∈dF) (a:PySem.W.nsIn K mainGlobals x=some (some (.ref f))) (l:K.lookup f=some ⟨oc,od,.func fd,osl⟩) (hc:fd.code=.ref c)
  (lc:K.lookup c=some ⟨.type "code",odc,.fields vs,slc⟩) (hT:si vs c T) (Xb:K.In base):sf K base x fd:=by
 obtain ⟨h1,h2,⟨file,tf,h3⟩,⟨i,t,h4⟩,⟨b,h5⟩,⟨j,u,h6⟩,h7⟩:=hT
 exact ⟨c,T,hc,⟨_,vs,file,tf,i,t,b,j,u,Xb _ _ lc,rfl,rfl,h1,h2,h3,h4,h5,h6,h7⟩,x,hx,f,_,fd,c,_,vs,a,l,rfl,hc,lc,rfl,h1,rfl⟩
structure o5 (K:PySem.W.Frag) (h:Heap) (x:Str) (c T:Addr):Prop where
 tab:∀ T0,(∃ f o fd c0 oc vs,PySem.W.nsIn K mainGlobals x=some (some (.ref f))∧K.lookup f=some o∧o.data=.func fd∧fd.code=.ref c0∧K.lookup c0=some oc∧oc.data=.fields vs∧vs[11]? = some (.ref T0))→T0=T
 at':h.get? T=some { cls:=.none,data:=.fields #[] }∧K.lookup T=none∧∃ c,h.TableAt c T #[]
theorem mR {q:Program}{loose:List Str}{XP:(Str→Option Value)→Heap→Prop}{s₀:Shared}{mb:Str→Option Value}{h:Heap}{d:DefRec}{x:Str}{f c T:Addr}{fd:FuncData}{oc:Value}{od odc:Option Addr}{osl slc:Array (Option Value)}{vs:Array Value}
  (G : PySem.W.Ground q loose [] XP w s₀ mg mb h) (KX:K.In h) (hr:(recsOf q).find? (fun e=>e.name==x)=some d)
  (a : PySem.W.nsIn K mainGlobals x=some (some (.ref f))) (l:K.lookup f=some ⟨oc,od,.func fd,osl⟩) (hc:fd.code=.ref c) (lc:K.lookup c=some ⟨.type "code",odc,.fields vs,slc⟩) (hT:si vs c T) (hn:K.lookup T=none):o5 K h x c T:=by
 have ht:tabIn K x=some (c,T):=by
  unfold tabIn
  rw [a]
  simp only [l,hc,lc,hT.1]
 obtain ⟨C,g⟩:=tab_of G.T KX hr ht
 refine ⟨fun T0 e=>?_,g,hn,c,C.tab g⟩
 obtain ⟨f0,o0,fd0,c0,oc0,vs0,a1,a2,a3,a4,a5,a6,a7⟩:=e
 rw [a] at a1
 cases a1
 rw [l] at a2
 cases a2
 cases a3
 rw [hc] at a4
 cases a4
 rw [lc] at a5
 cases a5
 cases a6
 rw [hT.1] at a7
 cases a7
 rfl
theorem wo {h:Heap} (ps:List (Str×Addr×Addr)) (hp:∀ p∈ps,o5 K h p.1 p.2.1 p.2.2) (nd:(ps.map fun p=>p.2.2).Nodup) (hL:∀ n∈dF,n∈ps.map (·.1)∨PySem.W.nsIn K mainGlobals n=some none) :
  ∃ tb:List (Addr×Str),(∀ b q,tb.lookup b=some q→h.get? b=some { cls:=.none,data:=.fields #[] }∧K.lookup b=none∧∃ c,h.TableAt c b #[])∧∀ T q,gL K T q→tb.lookup T=some q:=by
 refine ⟨ps.map fun p=>(p.2.2,p.1 ++ ".<locals>.<lambda>"),fun b q' e=>?_,fun T0 q' L=>?_⟩
 ·have : ∃ p∈ps,p.2.2=b:=by
   clear hp nd hL
   induction ps with
   | nil=>cases e
   | cons p ps ih =>
    rw [Ec,Er] at e
    by_cases hb:b=p.2.2
    ·exact ⟨p,DY,hb.symm⟩
    ·have h1:(b==p.2.2)=false:=by simpa using hb
     rw [h1] at e
     obtain ⟨p',m,e'⟩:=ih e
     exact ⟨p',D0 _ m,e'⟩
  obtain ⟨p,m,rfl⟩:=this
  exact (hp p m).at'
 ·obtain ⟨n,hy,f0,o0,fd0,c0,oc0,vs0,a1,a2,a3,a4,a5,a6,a7,rfl⟩:=L
  rcases hL n hy with hm|hm
  ·obtain ⟨p,m,rfl⟩:=D4.mp hm
   have e:=(hp p m).tab T0 ⟨f0,o0,fd0,c0,oc0,vs0,a1,a2,a3,a4,a5,a6,a7⟩
   subst e
   clear hp hL a1 a7 hm
   induction ps with
   | nil=>cases m
   | cons p' ps ih =>
    rw [Ec,Er]
    rw [Ec,Ej] at nd
    rcases D3.mp m with rfl|m
    ·simp
    ·have h1:(p.2.2==p'.2.2)=false:=by
      simp only [beq_eq_false_iff_ne,ne_eq]
      exact fun z=>nd.1 (z▸List.mem_map_of_mem m)
     rw [h1]
     exact ih nd.2 m
  ·rw [hm] at a1
   cases a1
theorem xC {h:Heap}:∀ p∈([]:List (Str×Addr×Addr)),o5 K h p.1 p.2.1 p.2.2:=fun p hp=>by cases hp
theorem mQ {h:Heap}{x:Str}{c T:Addr}{ps:List (Str×Addr×Addr)} (h1:o5 K h x c T) (h2:∀ p∈ps,o5 K h p.1 p.2.1 p.2.2):∀ p∈(x,c,T)::ps,o5 K h p.1 p.2.1 p.2.2:=fun p hp=>by
 rcases D3.mp hp with rfl|hp
 ·exact h1
 ·exact h2 p hp
theorem xD {P:Str→Prop} (h1:P "choices") (h2:P "full_rows") (h3:P "chain_plan") (h4:P "least_ranks"):∀ n∈dF,P n:=fun n hn=>by
 simp only [dF,D3,En,or_false] at hn
 rcases hn with rfl|rfl|rfl|rfl <;> assumption
end
section
variable {X:Cx}{K:PySem.W.Frag}{e1 e2:Expr}{tl:DA}{p pos:Pos}
end
end L2
namespace L2
open PySem PySem.Spec PyProof.Rows PySem.W
open PySem.SeqAt PySem.MeetsSeq PySem.MeetsSeq2 PySem.MeetsSeq3 PySem.SeqRoads2
open PySem.AutoSeq1 (wpAny_loadPart')
noncomputable def At (items:Array Value) (ns:List Int):Prop:=ns.length=items.size∧∀ j (h:j<items.size),∃ t,items[j]=Value.int (ns.getD j 0) t
theorem tL {ns ms:List Int}{i:Nat} (h1:i<ns.length) (h2:i<ms.length):HT.lexLt (ns.drop i) (ms.drop i)=if ns.getD i 0=ms.getD i 0 then HT.lexLt (ns.drop (i+1)) (ms.drop (i+1)) else decide (ns.getD i 0<ms.getD i 0):=by
 have e1:ns.drop i=ns.getD i 0::ns.drop (i+1):=by rw[ET h1];simp[DW,h1]
 have e2:ms.drop i=ms.getD i 0::ms.drop (i+1):=by rw[ET h2];simp[DW,h2]
 rw [e1,e2,HT.lexLt_cons]
theorem tI (l b:Addr) (items items2:Array Value) (n n2:Nat) (dd dd2:Option Addr) (sl sl2:Array (Option Value)) (ns ms:List Int) (at1:At items ns) (at2:At items2 ms) (k:Nat) :
  ∀ i : Nat,items.size - i=k→i≤items.size→i≤items2.size→Meets (Builtin.«list.__eq__.loop» ⟨[.ref l,.ref b,rawInt i,rawInt 0],[]⟩)
   (fun A R s=>s.heap.get? l=some { cls:=.type "list",dict:=dd,data:=.seq items n,slots:=sl }∧s.heap.get? b=some { cls:=.type "list",dict:=dd2,data:=.seq items2 n2,slots:=sl2 } ∧
    R (.ok (.ret (.bool (HT.lexLt (ns.drop i) (ms.drop i))))) s):=by
 induction k with
 | zero =>
  intro i hk hi1' hi2' prog w A R s h
  obtain ⟨hp,g,d,tk,os⟩:=s;obtain⟨hl,hb,h⟩:=h
  wp_walk using wpAny_loadPart' hl,wpAny_loadPart' hb
  have hi1:items[((i:Nat):Int).toNat]? = none:=by simp;omega
  rw [hi1]
  wp_walk using wpAny_loadPart' hl,wpAny_loadPart' hb
  have hv:HT.lexLt (ns.drop i) (ms.drop i)=decide (items.size<items2.size):=by
   rw [EK (by rw[at1.1];omega)]
   by_cases hm:i<ms.length
   ·rw [ET hm,HT.lexLt_nil_cons,decide_eq_true (by rw[at2.1] at hm;omega)]
   ·rw [EK (by omega),HT.lexLt_nil_nil,decide_eq_false (by rw[at2.1] at hm;omega)]
  rw [hv] at h
  exact h
 | succ k ih =>
  intro i hk hi1' hi2' prog w A R s h
  obtain ⟨hp,g,d,tk,os⟩:=s;obtain⟨hl,hb,h⟩:=h
  wp_walk using wpAny_loadPart' hl,wpAny_loadPart' hb
  have hlt:i<items.size:=by omega
  have hi1:items[((i:Nat):Int).toNat]? = some items[i]:=by simp[hlt]
  have hc:((i:Int)+1)=((i+1:Nat):Int):=by push_cast;rfl
  rw [hi1]
  by_cases hlt2:i<items2.size
  ·have hi2:items2[((i:Nat):Int).toNat]? = some items2[i]:=by simp[hlt2]
   rw [hi2]
   obtain ⟨t,e1⟩:=at1.2 i hlt
   obtain ⟨u,e2⟩:=at2.2 i hlt2
   rw [tL (by rw[at1.1];exact hlt) (by rw[at2.1];exact hlt2)] at h
   rw [e1,e2]
   refine wpAny_bind (wpAny_eqBool_int ?_)
   by_cases hb':ns.getD i 0=ms.getD i 0
   ·rw [if_pos hb'] at h
    rw [show (ns.getD i 0==ms.getD i 0)=true by simpa using hb']
    wp_walk
    rw [hc]
    exact ⟨plainId_quiet plain_eq_loop _,codeAny_builtin entry_eq_loop (by
     rw [Around.under_plainId plain_eq_loop _]
     exact ih (i+1) (by omega) (by omega) (by omega) prog w A R _ ⟨hl,hb,h⟩)⟩
   ·rw [if_neg hb'] at h
    rw [show (ns.getD i 0==ms.getD i 0)=false by simpa using hb']
    wp_walk using wpAny_loadPart' hl,wpAny_loadPart' hb
    rw [hi1,hi2,e1,e2]
    refine wpAny_bind (show wpAny (model prog w) A.in1 (compareOp .Lt (.int (ns.getD i 0) t) (.int (ms.getD i 0) u)) _ _ _ from wpAny_lt_int (wpAny_pure h))
  ·have hi2:items2[((i:Nat):Int).toNat]? = none:=by simp;omega
   rw [hi2]
   wp_walk using wpAny_loadPart' hl,wpAny_loadPart' hb
   have hv:HT.lexLt (ns.drop i) (ms.drop i)=decide (items.size<items2.size):=by
    rw [EK (l:=ms) (by rw[at2.1];omega),ET (l:=ns) (by rw[at1.1];exact hlt),HT.lexLt_cons_nil,decide_eq_false (by omega)]
   rw [hv] at h
   exact h
theorem mO (l b:Addr) (items items2:Array Value) (n n2:Nat) (dd dd2:Option Addr) (sl sl2:Array (Option Value)) (ns ms:List Int) (at1:At items ns) (at2:At items2 ms) :
  Meets (Builtin.«list.__lt__» ⟨[.ref l,.ref b],[]⟩)
   (fun A R s=>s.heap.get? l=some { cls:=.type "list",dict:=dd,data:=.seq items n,slots:=sl }∧s.heap.get? b=some { cls:=.type "list",dict:=dd2,data:=.seq items2 n2,slots:=sl2 } ∧
    R (.ok (.ret (.bool (HT.lexLt ns ms)))) s):=by
 intro prog w A R s h
 obtain ⟨hp,g,d,tk,os⟩:=s;obtain⟨hl,hb,h⟩:=h
 have f3:=AutoSeq1.sub_list_list
 wp_walk using wpAny_loadPart' hl,wpAny_loadPart' hb
 exact ⟨plainId_quiet plain_eq_loop _,codeAny_builtin entry_eq_loop (by
  rw [Around.under_plainId plain_eq_loop _]
  exact tI l b items items2 n n2 dd dd2 sl sl2 ns ms at1 at2 _ 0 rfl (Ee _) (Ee _) prog w A R _ ⟨hl,hb,h⟩)⟩
noncomputable def cP (a b:Int×List Int):Bool:=if a.1=b.1 then (if a.2=b.2 then false else HT.lexLt a.2 b.2) else decide (a.1<b.1)
section
variable {prog:Program}{w:World}{A:Around}{E:Value→Shared→Prop}{s:Shared}
theorem qz {l b:Addr}{items items2:Array Value}{ns ms:List Int}{Q:Value→Shared→Prop} (hl:s.heap.IsList l items) (hb:s.heap.IsList b items2) (at1:At items ns) (at2:At items2 ms)
  (hu:A.units<cLine) (h:Q (.bool (HT.lexLt ns ms)) s):wpAny (model prog w) A (compareOp .Lt (.ref l) (.ref b)) Q E s:=by
 obtain ⟨⟨cls,dd,data,sl⟩,ho,hc,n,hd⟩:=id hl
 obtain ⟨⟨cls2,dd2,data2,sl2⟩,ho2,hc2,n2,hd2⟩:=id hb
 simp only at hc hd hc2 hd2
 subst hc hd hc2 hd2
 exact richCompare_meets_room (op:=.Lt) ⟨_,ho,rfl⟩ ⟨_,ho2,rfl⟩ F.slot_list_lt F.entry_list_lt (F.args_list_lt_2 _ _) (mO l b items items2 n n2 dd dd2 sl sl2 ns ms at1 at2)
  ⟨ho,ho2,show Value.bool (HT.lexLt ns ms)≠Value.notImplemented∧Q (.bool (HT.lexLt ns ms)) s from ⟨(fun x=>nomatch x),h⟩⟩ hu
noncomputable def v9 (h:Heap) (v:Value) (k:Int×List Int):Prop:=∃ (a:Addr) (o:Obj) (n:Nat) (t:Tok) (l:Addr) (its:Array Value) (as:List Addr),v=.ref a∧h.get? a=some o∧o.cls=.type "tuple" ∧ o.data=.seq #[.int k.1 t,.ref l] n∧h.IsList l its∧At its k.2∧Reads h (.ref l) (.list (k.2.map PyData.int)) as
theorem v9.v {h:Heap}{v:Value}{k:Int×List Int} (x:v9 h v k):CV h v:=by
 obtain ⟨a,o,n,t,l,its,as,e1,e2,e3,e4,e5,e6,e7⟩:=x
 exact ⟨a,o,n,k.1,t,l,its,k.2,as,e1,e2,e3,e4,e5,fun j hj=>let ⟨u,e⟩:=e6.2 j hj;⟨_,u,e⟩,e7⟩
theorem xE {u v:Value}{k k':Int×List Int}{C:Bool→Shared→Prop}{E:Value→Shared→Prop} (hu:A.units+64<cLine) (k1:v9 s.heap u k) (k2:v9 s.heap v k') (h:C (cP k k') s):wpAny (model prog w) A (keyLt' (tuples' true) u v) C E s:=by
 obtain ⟨a,o,n,t,l,its,as,rfl,e,c,d,i1,i2,i3⟩:=k1
 obtain ⟨a',o',n',t',l',its',as',rfl,e',c',d',j1,j2,j3⟩:=k2
 unfold cP at h
 refine kat_lt e d e' d' ?_
 refine kat_cons (wpAny_eqBool_int ?_)
 refine kat_go (fun he=>kat_yes ?_) fun he=>kat_no (oneLt_int ?_)
 rotate_left
 ·rw [if_neg (by simpa using he)] at h
  exact h
 rw [if_pos (by simpa using he)] at h
 refine kat_cons (SeqAt.eqBoolOverData _ _ _ _ _ _ _ _ _ _ _ _ i3 j3 ?_ ?_ ?_ ?_)
 ·simp [PyData.canLay0,iQ]
 ·simp [PyData.canLay0,iQ]
 ·have:∀ ns:List Int,(PyData.list (ns.map PyData.int)).depth≤64:=fun ns=>by
   have:=Bw ns
   exact SeqAt.depth_of_shaped this
  have:=this k.2
  have:=Nat.min_le_left (PyData.list (k.2.map PyData.int)).depth (PyData.list (k'.2.map PyData.int)).depth
  omega
 ·refine kat_go (fun he2=>kat_yes (kat_nil ?_)) fun he2=>kat_no (kat_one _ _ ?_)
  ·rw [xW] at he2
   rw [if_pos (of_decide_eq_true he2)] at h
   exact h
  ·refine qz i1 j1 i2 j2 (by omega) ?_
   rw [xW] at he2
   rw [if_neg (of_decide_eq_false he2)] at h
   exact h
noncomputable def aq {α:Type} (lt:Nat→Nat→Bool):KasT α→α
 | .ret a=>a
 | .ask i j k=>aq lt (k (lt i j))
theorem eG.run {α:Type}{n:Nat}{P:α→Prop}{lt:Nat→Nat→Bool}:∀ {t:KasT α},eG n P t→P (aq lt t)
 | .ret a,h=>h
 | .ask i j k,h=>show P (aq lt (k (lt i j))) from eG.run (t:=k (lt i j)) (h.2.2 _)
theorem lA {α:Type}{n:Nat}{cmp:Nat→Nat→(Bool→Shared→Prop)→Shared→Prop}{P:α→Prop}{lt:Nat→Nat→Bool}{Q:α→Shared→Prop} (I:Shared→Prop)
  (hc:∀ i j C s,i<n→j<n→I s→(∀ s',I s'→C (lt i j) s')→cmp i j C s):∀ {t:KasT α}{s:Shared},eG n P t→(∀ s,I s→Q (aq lt t) s)→I s→t.kasWp cmp Q s
 | .ret a,s,h,hQ,i=>hQ s i
 | .ask x y k,s,h,hQ,i=>hc x y _ s h.1 h.2.1 i fun s' i'=>lA I hc (h.2.2 (lt x y)) hQ i'
noncomputable def aL (ks:List (Int×List Int)):List Nat:=if ks.length<2 then List.range ks.length else (aq (fun i j=>cP (ks.getD i (0,[])) (ks.getD j (0,[]))) (kas_sort ks.length)).toList
theorem bG (ks:List (Int×List Int)):(aL ks).Perm (List.range ks.length):=by
 unfold aL
 split
 ·exact .refl _
 ·exact (eG.run (iC (n:=ks.length) (by omega))).list
noncomputable def cF {α:Type} (p:List Nat) (xs:List α) (d:α):List α:=p.map fun i=>xs.getD i d
noncomputable def iq (prog:Program) (w:World) (A:Around) (vs:List Value) (ks:List (Int×List Int)) (s:Shared):Prop :=
 wpAny (model prog w) A (keyKind' vs.toArray) (fun κ s'=>s'=s∧∀ i j (C:Bool→Shared→Prop),i<vs.length→j<vs.length→C (cP (ks.getD i (0,[])) (ks.getD j (0,[]))) s→kas_ask prog w A κ vs i j C s) (fun _ _=>False) s
theorem qG {us:List Value}{ks:List (Int×List Int)} (hu:A.units+64<cLine) (h2:2≤us.length) (hl:ks.length=us.length) (k:∀ i (h:i<us.length),v9 s.heap us[i] (ks.getD i (0,[]))):iq prog w A us ks s:=by
 obtain ⟨fs,h1,h3,h4⟩:=ii (h:=s.heap) (us:=us) fun u hu=>by
  obtain ⟨i,hi,rfl⟩:=Eo hu
  exact (k i hi).v
 refine kat_kind (T:=.type "int") h1 (by omega) (fun v hv=>?_) (by rfl) ⟨rfl,fun i j C hi hj hc=>?_⟩
 ·obtain ⟨x,t,rfl⟩:=h4 v hv
  exact .now
 ·have e1:us.getD i Value.none=us[i]:=by simp[hi]
  have e2:us.getD j Value.none=us[j]:=by simp[hj]
  show wpAny (model prog w) A (keyLt' _ (us.getD i Value.none) (us.getD j Value.none)) C (fun _ _=>False) s
  rw [e1,e2]
  exact xE hu (k i hi) (k j hj) hc
end
end L2
namespace L2
open PySem PySem.Spec PyProof.Rows PySem.W
noncomputable def cq:PyData→Int×List Int
 | .tuple [.int n,.list es]=>(n,(bN es).getD [])
 | .int n=>(n,[])
 | .list es=>(0,(bN es).getD [])
 | _=>(0,[])
section
variable {X:Cx}{pins:List (Addr×Obj)}{σ:St}{H:Hp}{s:Shared}
theorem yw:∀ {ns:List Int}{vs:List V}{us:List Value},DVs X.K H vs (ns.map .int)→aK vs us→ns.length=us.length∧∀ j (h:j<us.length),∃ t,us[j]=Value.int (ns.getD j 0) t
 | [],_,_,.nil,.nil=>⟨rfl,fun j h=>by simp at h⟩
 | n :: ns,_,_,.cons d q,.cons r t=>by
  obtain ⟨h1,h2⟩:=yw q t
  refine ⟨by simp[h1],fun j h=>?_⟩
  cases j with
  | zero =>
   cases d
   obtain ⟨t,rfl⟩:=r
   exact ⟨t,rfl⟩
  | succ j =>
   obtain ⟨u,e⟩:=h2 j (by simpa using h)
   exact ⟨u,by simpa using e⟩
theorem qI (I:Inv X pins σ H s) {v:V}{d:PyData}{u:Value} (hd:DV X.K H v d) (r:bz v u) (k:oJ d):v9 s.heap u (cq d):=by
 obtain ⟨n,ns,rfl⟩:=k
 have ek:cq (.tuple [.int n,.list (ns.map .int)])=(n,ns):=by
  show (n,(bN (ns.map .int)).getD [])=_
  rw [bV]
  rfl
 rw [ek]
 obtain ⟨a,xs,rfl,h,q⟩:=hd.tupI
 obtain ⟨x,y,rfl,q1,q2⟩:=q.twoI
 obtain ⟨its,rv,⟨o,e,c,m,hd⟩,_⟩:=I.tuple h
 obtain ⟨w1,w2,rfl,r1,r2⟩:=pe rv
 rw [q1.intI] at r1
 obtain ⟨t,rfl⟩:=r1
 obtain ⟨as,ra⟩:=q2.reads I r2 (by simpa only [PyData.canLay0] using jL _)
 obtain ⟨l,ys,rfl,h2,q2⟩:=q2.lstI
 have e2:w2=Value.ref l:=r2
 have e3:u=Value.ref a:=r
 subst e2 e3
 obtain ⟨jts,rj,pl,_⟩:=I.list h2
 obtain ⟨h1,h2⟩:=yw q2 rj
 exact ⟨a,o,m,t,l,jts.toArray,as,rfl,e,c,hd,pl.isList,⟨by simpa using h1,fun j hj=>h2 j (by simpa using hj)⟩,ra⟩
theorem tT (I:Inv X pins σ H s) {vs:List V}{ds:List PyData}{us:List Value} (h:DVs X.K H vs ds):aK vs us→(∀ d∈ds,oJ d)→(ds.map cq).length=us.length∧∀ i (h:i<us.length),v9 s.heap us[i] ((ds.map cq).getD i (0,[])) :=
 DVs.ind (C:=fun vs ds=>∀ us,aK vs us→(∀ d∈ds,oJ d)→(ds.map cq).length=us.length∧∀ i (h:i<us.length),v9 s.heap us[i] ((ds.map cq).getD i (0,[]))) (fun us r _=>by rw[aK.zero r];exact⟨rfl,fun i h=>by simp at h⟩) (fun d _ ih us r k=>by
  obtain ⟨u,us',rfl,r1,r2⟩:=aK.consI r
  obtain ⟨h1,h2⟩:=ih us' r2 fun d hd=>k d (by simp[hd])
  refine ⟨by simpa using h1,fun i h=>?_⟩
  cases i with
  | zero=>simpa using qI I d r1 (k _ (by simp))
  | succ i=>simpa using h2 i (by simpa using h)) h us
end
section
variable {prog:Program}{w:World}{A:Around}{E:Value→Shared→Prop}{s:Shared}
theorem pq {a:Addr}{vs:List Value}{ks:List (Int×List Int)}{n:Nat}{P:PySem.Fin→Shared→Prop} (ho:s.heap.get? a=some (seqObj "list" vs.toArray n)) (h64:vs.length<64) (hkl:ks.length=vs.length)
  (hk:2≤vs.length→∀ h',(∀ b o,b≠a→s.heap.get? b=some o→h'.get? b=some o)→iq prog w A vs ks { s with heap:=h' })
  (h : ∀ h' c,(∀ b o,b≠a→s.heap.get? b=some o→h'.get? b=some o)→h'.get? a=some (seqObj "list" (cF (aL ks) vs Value.none).toArray c)→P (.done (.ret .none)) { s with heap:=h' }) :
  wpAny (model prog w) A (Builtin.«list.sort» ⟨[.ref a],[]⟩) P E s:=by
 have ha:a<s.heap.objs.size:=D7 ho
 have s1:=Heap.SameBut.update s.heap a (Obj.mapSeq fun _=>(#[]:Array Value))
 obtain ⟨e1,ho1⟩:∃ e1,(s.heap.update a (Obj.mapSeq fun _=>(#[]:Array Value))).get? a=some (seqObj "list" #[] e1):=⟨_,get?_update_seq ho fun _=>#[]⟩
 have keep:∀ b o,b≠a→s.heap.get? b=some o→(((s.heap.update a (Obj.mapSeq fun _=>(#[]:Array Value))).push (seqObj "tuple" vs.toArray 0)).push (seqObj "list" #[] 0)).get? b=some o:=fun b o hb e =>
  DU _ (DU _ ((s1.2 b hb).trans e))
 have ho3:(((s.heap.update a (Obj.mapSeq fun _=>(#[]:Array Value))).push (seqObj "tuple" vs.toArray 0)).push (seqObj "list" #[] 0)).get? a=some (seqObj "list" #[] e1):=DU _ (DU _ ho1)
 have fin:∀ (ws:List Value),∃ c,(((((s.heap.update a (Obj.mapSeq fun _=>(#[]:Array Value))).push (seqObj "tuple" vs.toArray 0)).push (seqObj "list" #[] 0))).update a (Obj.mapSeq fun _=>ws.toArray)).get? a=some (seqObj "list" ws.toArray c):=fun ws=>⟨_,get?_update_seq ho3 fun _=>ws.toArray⟩
 rw [list_sort_plain]
 refine wpAny_bind (listItems_at ho rfl ?_)
 refine wpAny_bind (listUpdate_at ho rfl ?_ (by rw[D5,sizeLine_eq];omega) (Ee _))
 refine wpAny_bind (seqEpoch_at ho1 rfl ?_)
 refine wpAny_bind (wpAny_newTuple ?_ (by show vs.length≤_;rw[sizeLine_eq];omega))
 refine wpAny_bind (wpAny_newList ?_ (Ee _))
 refine wpAny_holding ?_
 show wpAny (model prog w) A _ P E { s with heap:=((s.heap.update a (Obj.mapSeq fun _=>(#[]:Array Value))).push (seqObj "tuple" vs.toArray 0)).push (seqObj "list" #[] 0) }
 dsimp only
 by_cases h2:2≤vs.length
 ·have hn2:¬vs.toArray.size<2:=by rw[D5];omega
  rw [if_neg hn2,if_neg hn2]
  refine wpAny_bind (wpAny_mono (hk h2 _ keep) (fun κ s0 hk=>?_) fun _ _ x=>x.elim)
  obtain ⟨rfl,hask⟩:=hk
  have hix:aL ks=(aq (fun i j=>cP (ks.getD i (0,[])) (ks.getD j (0,[]))) (kas_sort vs.length)).toList:=by
   unfold aL
   rw [if_neg (by omega),hkl]
  refine wpAny_bind (wpAny_mono (kat_run (κ:=κ) (A:=A) (prog:=prog) (w:=w) (ks:=vs) (vs:=vs) (G:=fun p s'=>p=aq (fun i j=>cP (ks.getD i (0,[])) (ks.getD j (0,[]))) (kas_sort vs.length)∧s'={ s with heap:=((s.heap.update a (Obj.mapSeq fun _=>(#[]:Array Value))).push (seqObj "tuple" vs.toArray 0)).push (seqObj "list" #[] 0) })
   (Q := fun st' s'=>∃ p:Array Nat,p=aq (fun i j=>cP (ks.getD i (0,[])) (ks.getD j (0,[]))) (kas_sort vs.length)∧p.size=vs.length∧arrOf st'=p.map (kas_item (vs.toArray.zip vs.toArray))∧failedOf st'=none∧s'={ s with heap:=((s.heap.update a (Obj.mapSeq fun _=>(#[]:Array Value))).push (seqObj "tuple" vs.toArray 0)).push (seqObj "list" #[] 0) })
   rfl h2 h64 (fun p' st' s' a1 a2 a3 a4=>⟨p',a4.1,a1,a2,a3,a4.2⟩) (lA (fun s'=>s'={ s with heap:=((s.heap.update a (Obj.mapSeq fun _=>(#[]:Array Value))).push (seqObj "tuple" vs.toArray 0)).push (seqObj "list" #[] 0) }) (fun i j C s' hi hj e hc=>by subst e;exact hask i j C hi hj (hc _ rfl)) (iC (n:=vs.length) (by omega)) (fun s' e=>⟨rfl,e⟩) rfl)) ?_ fun _ _ e=>e)
  rintro ⟨⟨⟩,st'⟩ s' ⟨p,hpn,hp,har,hf,rfl⟩
  dsimp only
  have hout:=kat_snds rfl har
  have hsz:(List.toArray (p.toList.map fun i=>vs.getD i Value.none)).size=vs.length:=by rw[D5,DK,Array.length_toList,hp]
  rw [hout]
  obtain ⟨c2,hc2⟩:=fin (p.toList.map fun i=>vs.getD i Value.none)
  refine wpAny_bind (seqEpoch_at ho3 rfl ?_)
  refine wpAny_bind (listUpdate_at ho3 rfl ?_ (Ee _) (D1 (Nat.le_of_eq hsz) (by rw[sizeLine_eq];omega)))
  rw [hf]
  simp only [bne_self_eq_false,Em,if_false]
  refine wpAny_pure (h _ c2 (fun b o hb e=>?_) ?_)
  ·exact ((Heap.SameBut.update _ a _).2 b hb).trans (keep b o hb e)
  ·rw [hix,←hpn]
   exact hc2
 ·have hn2:vs.toArray.size<2:=by rw[D5];omega
  rw [if_pos hn2,if_pos hn2]
  refine wpAny_bind (wpAny_pure ?_)
  refine wpAny_bind (wpAny_pure ?_)
  have hout:(arrOf (SortSt.mk' general' (vs.toArray.zip vs.toArray) #[] 7 none)).map (·.2)=vs.toArray:=by
   show (vs.toArray.zip vs.toArray).map (·.2)=_
   apply Array.toList_inj.mp
   simp
   exact List.map_snd_zip (D2 _)
  dsimp only
  rw [hout]
  obtain ⟨c2,hc2⟩:=fin vs
  have hpk:cF (aL ks) vs Value.none=vs:=by
   unfold aL cF
   rw [if_pos (by omega),hkl]
   apply E3
   ·simp
   ·intro i h1 h2
    simp at h1
    simp [h1]
  refine wpAny_bind (seqEpoch_at ho3 rfl ?_)
  refine wpAny_bind (listUpdate_at ho3 rfl ?_ (Ee _) (by rw[D5,sizeLine_eq];omega))
  simp only [bne_self_eq_false,Em,if_false]
  refine wpAny_pure (h _ c2 (fun b o hb e=>?_) (by rw[hpk];exact hc2))
  exact ((Heap.SameBut.update _ a _).2 b hb).trans (keep b o hb e)
theorem fU {l:Addr}{vs:List Value}{ks:List (Int×List Int)}{Q:Value→Shared→Prop} (hl:s.heap.IsList l vs.toArray) (h64:vs.length<64) (hkl:ks.length=vs.length)
  (hk:2≤vs.length→∀ h',(∀ b o,s.heap.get? b=some o→h'.get? b=some o)→iq prog w A.in1.in1 vs ks { s with heap:=h' })
  (h : ∀ D h' c,(∀ b o,s.heap.get? b=some o→h'.get? b=some o)→s.heap.objs.size≤D→h'.get? D=some (seqObj "list" (cF (aL ks) vs Value.none).toArray c)→Q (.ref D) { s with heap:=h' }) :
  wpAny (model prog w) A (call (.builtin "sorted") [.ref l]) Q E s:=by
 refine Calls.call_function_entry kind_sorted plain_sorted entry_sorted (args_sorted1 _) ?_
 unfold Builtin.«sorted»
 refine wpAny_bind (m:=checkCount "sorted" 1 1 _) (wpAny_pure ?_)
 refine wpAny_bind (collect_list hl ?_ (by rw[sizeLine_eq];omega))
 refine wpAny_bind (wpAny_newList ?_ (by rw[sizeLine_eq];omega))
 have hsz:((s.heap.push (seqObj "list" #[] 0)).update s.heap.objs.size (Obj.mapSeq (·++vs.toArray))).objs.size=s.heap.objs.size+1:=by
  rw [E8,size_push']
 have hoL:(((s.heap.push (seqObj "list" #[] 0)).update s.heap.objs.size (Obj.mapSeq (·++vs.toArray))).push (seqObj "list" vs.toArray 0)).get? (s.heap.objs.size+1)=some (seqObj "list" vs.toArray 0):=by
  rw [←hsz];exact D8 _ rfl
 have keep:∀ b o,s.heap.get? b=some o→(((s.heap.push (seqObj "list" #[] 0)).update s.heap.objs.size (Obj.mapSeq (·++vs.toArray))).push (seqObj "list" vs.toArray 0)).get? b=some o:=fun b o q=>by
  have hlt:b<s.heap.objs.size:=D7 q
  rw [Heap.get?_push_ne _ _ _ (by rw[hsz];exact Ed (E5 hlt)),Fo _ _ _ _ (Ed hlt),Heap.get?_push_ne _ _ _ (Ed hlt)]
  exact q
 have ne:∀ b o,s.heap.get? b=some o→b≠s.heap.objs.size+1:=fun b o q=>by
  exact Ed (E5 (D7 q))
 show wpAny _ _ _ _ _ { s with heap:=((s.heap.push (seqObj "list" #[] 0)).update s.heap.objs.size (Obj.mapSeq (·++vs.toArray))).push (seqObj "list" vs.toArray 0) }
 rw [hsz]
 refine wpAny_bind (wpAny_holding (wpAny_call_entry slot_list_sort ⟨_,hoL,rfl⟩ entry_list_sort ?body (args_list_sort _)))
 case body =>
  refine pq (s:={ s with heap:=((s.heap.push (seqObj "list" #[] 0)).update s.heap.objs.size (Obj.mapSeq (·++vs.toArray))).push (seqObj "list" vs.toArray 0) }) hoL h64 hkl
   (fun h2 h' k=>hk h2 h' fun b o e=>k b o (ne b o e) (keep b o e)) fun h' c k hD=>⟨_,rfl,wpAny_pure ⟨_,rfl,?_⟩⟩
  exact h _ h' c (fun b o e=>k b o (ne b o e) (keep b o e)) (EO _) hD
end
theorem dU {vs:List V}{us:List Value} (r:aK vs us):∀ {p:List Nat},(∀ i∈p,i<vs.length)→aK (cF p vs .non) (cF p us Value.none)
 | [],_=>.nil
 | i::p,h=>by
  have hi:=h i (by simp)
  obtain ⟨u,e,ru⟩:=r.get (i:=i) (x:=vs[i]) (by simp[hi])
  have e1:vs.getD i .non=vs[i]:=by simp[DW,hi]
  have e2:us.getD i Value.none=u:=by rw[DW,e];rfl
  show aK (vs.getD i .non::cF p vs .non) (us.getD i Value.none::cF p us Value.none)
  rw [e1,e2]
  exact .cons ru (dU r fun j hj=>h j (by simp[hj]))
theorem iW {K:PySem.W.Frag}{N:Addr→Prop}{H:Hp}{vs:List V}{ds:List PyData} (q:DNs K N H vs ds):∀ {p:List Nat},(∀ i∈p,i<vs.length)→DNs K N H (cF p vs .non) (cF p ds .none)
 | [],_=>.nil
 | i :: p,h=>by
  have hi:=h i (by simp)
  have hl:=q.len
  have hm:(vs[i],ds[i]'(by omega))∈vs.zip ds:=by
   rw [List.mem_iff_getElem?]
   exact ⟨i,by rw[Fn];exact⟨DR _,DR _⟩⟩
  have e1:vs.getD i .non=vs[i]:=by simp[DW,hi]
  have e2:ds.getD i .none=ds[i]'(by omega):=by simp[DW,show i<ds.length by omega]
  show DNs K N H (vs.getD i .non::cF p vs .non) (ds.getD i .none::cF p ds .none)
  rw [e1,e2]
  exact .cons (lC q _ hm) (iW q fun j hj=>h j (by simp[hj]))
theorem cW {ks:List (Int×List Int)}:∀ i∈aL ks,i<ks.length:=fun i hi=>Ez.mp ((bG ks).mem_iff.mp hi)
section
variable {X:Cx}{K:PySem.W.Frag}
theorem rL (hK:X.K=K) (hu:X.A.units+80<cLine):c9 X (.builtin "sorted") (fun xs H Q=>∃ (p:Addr) (vs:List V) (ds:List PyData),xs=[.ref p]∧SqL K H p vs∧DVs K H vs ds∧(∀ d∈ds,oJ d)∧vs.length<64 ∧
  ∀ q,H q=none→Q (.ref q) (upd H q (.lst (cF (aL (ds.map cq)) vs .non)))):=by
 subst hK
 intro pins s σ H xs us Q I r h
 obtain ⟨p,vs,ds,rfl,hs,hd,hk,h64,q⟩:=h
 obtain ⟨u,rfl,ru⟩:=ji r
 cases (show u=Value.ref p from ru)
 obtain ⟨its,rv,hp,_⟩:=I.list hs
 have hlen:=rv.length
 have hdl:ds.length=vs.length:=(x4 hd).symm
 refine fU (vs:=its) (ks:=ds.map cq) hp.isList (by omega) (by rw[DK];omega) (fun h2 h' k=>?_) fun D h' c k hD hD2=>?_
 ·have I':=I.kept (t':=s.toks) (h':=h') k
  obtain ⟨k1,k2⟩:=tT I' hd rv hk
  exact qG (by show X.A.in1.in1.units+64<cLine;simp[Around.in1] at *;omega) h2 k1 k2
 ·have hlt:∀ i∈aL (ds.map cq),i<vs.length:=fun i hi=>by have:=cW i hi;rw[DK] at this;omega
  refine ⟨.ref D,upd H D (.lst (cF (aL (ds.map cq)) vs .non)),I.laid (t':=s.toks) (o:=.lst (cF (aL (ds.map cq)) vs .non)) k hD ⟨?_,_,c,dU rv hlt,hD2⟩,rfl,q _ (I.hok.fresh hD)⟩
  unfold cF
  rw [DK,(bG _).length_eq,EA,DK,sizeLine_eq]
  omega
noncomputable def yd (t:DA):DE:=fun env R=>t env fun ss env1=>∃ s ds,ss=[s]∧aH env1 s=some (.list ds)∧(∀ d∈ds,oJ d)∧ds.length<64∧R (.ow (cF (aL (ds.map cq)) ds .none)) env1
variable {e:Expr}{p pos:Pos}{tl:DA}
theorem zi (hK:X.K=K) (hu:X.A.units+80<cLine) (hg:Gl X "sorted") (hm:X.mg "sorted" = none) (ha:PA X [e] (upA K tl)) (he:starEach [e] X.env=[(false,eval e X.env)]:=by rfl):PE X (.Call (.Name "sorted" p) [e] [] pos) (up K (yd tl)) :=
 (fJ (rL (K:=K) hK hu) hg hm boot_sorted ha (by decide) (by decide) he rfl).imp fun σ H Q h=>by
 obtain ⟨M,P,H0,σ0,env,ts,R,rel,ht,hq⟩:=h
 refine ⟨M,P,H0,σ0,env,ts,_,rel,ht,fun ss env1 vs H1 h1 hl rel1=>?_⟩
 obtain ⟨s,ds,rfl,e1,hk,h64,hR⟩:=h1
 obtain ⟨v,rfl⟩:=sr hl
 obtain ⟨a,us,rfl,sq,q⟩:=(rel1.view (v:=v) (by simp) e1).list
 have hlt:∀ i∈aL (ds.map cq),i<us.length:=fun i hi=>by have:=cW i hi;rw[DK] at this;rw[q.len];exact this
 exact ⟨a,us,ds,rfl,sq,q.dv,hk,by rw[q.len];exact h64,fun p' hp=>hq _ _ _ _ hR (rel1.resOw hp (iW q hlt))⟩
end
section
variable {prog:Program}{w:World}{A:Around}{E:Value→Shared→Prop}{h:Heap}{g:Array GenState}{d:Drawn}{t:Nat}{os:OsState}
variable {nm q:Str}{C N:Addr}{bs bm bmB:List Value}{hdct:Bool}{sn:List Str}{sub:List Value}{ab:Bool}{col:Option Bool}{dd:Option Addr}{k0 k1 k2 k3 k5:Option Value}{B newId initId:String}
theorem gM (F:ExcBaseFacts B newId initId bmB) (T:OwnTail h bmB bm) {bI:List Value}{fI:Addr}{oI:Obj}{Q:Fin→Shared→Prop}
  (hC:h.get? C=some (excClassObj nm q C N bs bm hdct sn sub ab col dd k0 k1 k2 k3 k5 newId)) (hi:Looks (model prog w) h (typeLookup (.ref C) "__init__") (some (.ref fI)))
  (hfI:h.get? fI=some oI) (hfc:oI.cls=.type "function")
  (hq:∀ h' e,Heap.MadeExcOf h h' e (.ref C) bI→h.objs.size≤e→h'.objs.size=h.objs.size+2 →
   wpAny (model prog w) A (call (.ref fI) (.ref e::bI)) (fun r s'=>r=.none∧Q (.done (.ret (.ref e))) s') E ⟨h',g,d,t,os⟩) (hrest:bI.length≤sizeLine:=by size_fits) :
  wpAny (model prog w) A (Builtin.«type.__call__» ⟨.ref C::bI,[]⟩) Q E ⟨h,g,d,t,os⟩:=by
 repeat (first|with_reducible refine wpAny_loadPart_at hC ?_|with_reducible refine wpAny_madeBy_exc hC ?_|wp_step)
 refine codeAny_call_builtin_code (Code.quiet_builtin _ F.quiet) (wpAny_check_new_subU F F.hasB T hC ?_)
 refine codeAny_exc_new_subU F F.hasB F T hC ?_ hrest
 show wpAny _ _ _ _ _ _
 have hC₁:=DU { cls:=.ref C,data:=.fields #[.ref h.objs.size,.none,.none,.none,.bool false,.none] }
  (DU { cls:=.type "tuple",data:=.seq bI.toArray } hC)
 have hfI₁:=DU { cls:=.ref C,data:=.fields #[.ref h.objs.size,.none,.none,.none,.bool false,.none] }
  (DU { cls:=.type "tuple",data:=.seq bI.toArray } hfI)
 have hget:((h.push { cls:=.type "tuple",data:=.seq bI.toArray }).push
   { cls:=.ref C,data:=.fields #[.ref h.objs.size,.none,.none,.none,.bool false,.none] }).get? (h.objs.size+1)=some
   { cls:=.ref C,data:=.fields #[.ref h.objs.size,.none,.none,.none,.bool false,.none] }:=by heap_get
 have hcC:(Value.ref C::bm).contains (.ref C)=true:=by simp
 unfold isInstance
 repeat (first|with_reducible refine wpAny_loadPart_at hget ?_|(with_reducible refine wpAny_isSubtype_exc hC₁ ?_;rw[hcC])|wp_step)
 show wpAny _ _ (typeLookup (.ref C) _) _ _ _
 refine (hi.keeps (h':=(h.push { cls:=.type "tuple",data:=.seq bI.toArray }).push { cls:=.ref C,data:=.fields #[.ref h.objs.size,.none,.none,.none,.bool false,.none] }) fun b o e=>DU _ (DU _ e)).at ?_
 dsimp only
 refine wpAny_holding (wpAny_bind ?_)
 unfold bindSpecial
 refine wpAny_bind (wpAny_typeOf (T := "function") ⟨_,hfI₁,hfc⟩ ?_)
 rw [if_pos (by decide)]
 refine wpAny_pure (wpAny_bind (wpAny_mono (hq _ (h.objs.size+1) ⟨fun b o hb=>DU _ (DU _ hb),Fg (EO _),h.objs.size,hget,Fg (D2 _),?_⟩ (EO _) (by rw[ED,ED])) (fun r s' hr=>?_) fun _ _ x=>x))
 ·exact DU _ (Heap.get?_push_at rfl rfl)
 ·obtain ⟨rfl,hQ⟩:=hr
  wp_walk
  exact hQ
theorem rN (F:ExcBaseFacts B newId initId bmB) (T:OwnTail h bmB bm) {bI:List Value}{fI:Addr}{oI:Obj}{Q:Value→Shared→Prop}
  (hC:h.get? C=some (excClassObj nm q C N bs bm hdct sn sub ab col dd k0 k1 k2 k3 k5 newId)) (hi:Looks (model prog w) h (typeLookup (.ref C) "__init__") (some (.ref fI)))
  (hfI:h.get? fI=some oI) (hfc:oI.cls=.type "function")
  (hq:∀ h' e,Heap.MadeExcOf h h' e (.ref C) bI→h.objs.size≤e→h'.objs.size=h.objs.size+2 →
   wpAny (model prog w) (A.under (.builtin "type.__call__" ⟨.ref C::bI,[]⟩)) (call (.ref fI) (.ref e::bI)) (fun r s'=>r=.none∧Q (.ref e) s') E ⟨h',g,d,t,os⟩) (hrest:bI.length≤sizeLine:=by size_fits) :
  wpAny (model prog w) A (call (.ref C) bI) Q E ⟨h,g,d,t,os⟩:=by
 have f1:=tc_lookup
 have f2:=tc_bind (.ref C)
 have hT:(⟨h,g,d,t,os⟩:Shared).TypeIs (.ref C) "type" := ⟨_,hC,rfl⟩
 refine wpAny_call (codeAny_of_tree ?_)
 show wpAny _ _ (callAny (.ref C) _) _ _ _
 repeat (any_goals (first|assumption|with_reducible refine wpAny_loadPart_at hC ?_|wp_step))
 refine ⟨rfl,?_⟩
 refine codeAny_call_builtin_at (Code.quiet_builtin _ (by decide +kernel)) entry_typeCall (wpAny_check_type_call_sub hC (gM (hrest:=hrest) F T hC hi hfI hfc fun h' e hm h1 h2=>?_))
 exact hq h' e hm h1 h2
end
section
variable {M:Model}{A:Around}{E:Value→Shared→Prop}{env:Env}{nm q:Str}{C N:Addr}{bs bm:List Value}{hdct:Bool}{sn:List Str}{sub:List Value}{ab:Bool}{col:Option Bool}{dd:Option Addr}{k0 k1 k2 k3 k5:Option Value}{newId:String}
theorem og {s:Shared}{x:Sem Value}{Q:Flow→Shared→Prop} (hbase:bm.contains (.type "BaseException")=true) (hh:A.handled=none)
  (h : wpAny M A x (fun v s₁=>∃ e t dx sl,v=.ref e∧s₁.heap.get? C=some (excClassObj nm q C N bs bm hdct sn sub ab col dd k0 k1 k2 k3 k5 newId) ∧
   s₁.heap.get? e=some { cls:=.ref C,dict:=dx,data:=.fields #[.ref t,.none,.none,.none,.bool false,.none],slots:=sl }∧E (.ref e) s₁) E s) :
  wpAny M A (raiseStmt env (some x) none) Q E s:=by
 have hcB:(Value.ref C::bm).contains (.type "BaseException")=true:=by rw[List.contains_cons,hbase,Bool.or_true]
 unfold raiseStmt
 refine wpAny_bind (wpAny_mono h (fun v s₁ h₁=>?_) fun _ _ x=>x)
 obtain ⟨e,t,dx,sl,rfl,hC,he,hE⟩:=h₁
 obtain ⟨hp,g,d,tk,os⟩:=s₁
 repeat (first|with_reducible refine wpAny_loadPart_at he ?_|with_reducible refine wpAny_loadPart_at hC ?_|(with_reducible refine wpAny_isSubtype_exc hC ?_;rw[hcB])|wp_step)
 exact wpAny_raiseNew_none hh hE
end
end L2
namespace L2
open PySem PySem.Spec PyProof.Rows PySem.W
open Builtin Builtin.ObjectAttr
section
variable {prog:Program}{w:World}{A:Around}{E:Value→Shared→Prop}{h:Heap}{g:Array GenState}{d:Drawn}{t:Nat}{os:OsState}
variable {nm q:Str}{C N x:Addr}{bs bm:List Value}{sn:List Str}{sub:List Value}{ab:Bool}{col:Option Bool}{dd:Option Addr}{k0 k1 k2 k3 k5:Option Value}{newId:String}{name:Str}{v:Value}{o:Obj}
noncomputable def v8 (h:Heap) (x:Addr) (o:Obj) (name:Str) (v:Value) (h':Heap):Prop :=
 h'.get? x=some { cls:=o.cls,dict:=some h.objs.size,data:=o.data,slots:=o.slots }∧h'.Ns1 h.objs.size (fun y=>if y=name then some v else none)∧(∀ b ob,b≠x→h.get? b=some ob→h'.get? b=some ob)
theorem q5 {tk:Tok}{Q:Fin→Shared→Prop} (hpass:refuseLoop (.ref x) "__setattr__" bm=pure ()) (hC:h.get? C=some (excClassObj nm q C N bs bm true sn sub ab col dd k0 k1 k2 k3 k5 newId))
  (hn:Looks (model prog w) h (typeLookup (.ref C) name) none) (hx:h.get? x=some o) (hc:o.cls=.ref C) (hnc:∀ c,o.data≠.cls c) (hdn:o.dict=none)
  (hq:∀ h' tk',v8 h x o name v h'→Q (.done (.ret .none)) ⟨h',g,d,tk',os⟩) :
  wpAny (model prog w) A (Builtin.«object.__setattr__» ⟨[.ref x,.str name tk,v],[]⟩) Q E ⟨h,g,d,t,os⟩:=by
 unfold Builtin.«object.__setattr__»
 repeat (first|rw[refuse_eq]|(rw[refuseLoop_ref,hpass])|(with_reducible refine wpAny_loadPart_at hx ?_;rw[hc])|with_reducible refine wpAny_mroOf_exc hC ?_|with_reducible refine hn.at ?_|wp_step)
 rw [hdn,if_neg (by simp[typeHasDict])]
 split
 ·rename_i hcd
  cases hcd
 split
 ·rename_i c hcd
  exact absurd hcd (hnc c)
 ·have hx₁:(h.push { cls:=.type "dict",data:=.dict #[] }).get? x=some o:=DU _ hx
  have hxs:x≠h.objs.size:=Ed (D7 hx)
  refine wpAny_bind (wpAny_alloc' ?_)
  refine wpAny_bind (wpAny_update' hx₁ ?_)
  refine wpAny_pure ?_
  have hgd:((h.push { cls:=.type "dict",data:=.dict #[] }).update x fun o=>{ cls:=o.cls,dict:=some h.objs.size,data:=o.data,slots:=o.slots }).get? h.objs.size
    = some { cls:=.type "dict",data:=.dict #[] } :=
   (Fo _ _ _ _ hxs.symm).trans (Heap.get?_push_at rfl rfl)
  have hnd:((h.push { cls:=.type "dict",data:=.dict #[] }).update x fun o=>{ cls:=o.cls,dict:=some h.objs.size,data:=o.data,slots:=o.slots }).Ns h.objs.size (fun _=>none) :=
   ⟨_,#[],_,hgd,rfl,fun e he=>absurd he (by simp),fun _=>rfl⟩
  show wpAny _ _ (storeInDict h.objs.size (.str name tk) name v) _ _ _
  unfold storeInDict newKeyGuard
  refine wpAny_bind (wpAny_pure (wpAny_bind (wpAny_nsSet1 (Heap.Ns1.of_empty hnd) fun h' hn' hs=>?_)))
  obtain ⟨oD,esD,epD,hoD,hdD,hcD⟩:=hn'.count (Within.cons name v Within.nil)
  refine wpAny_bind (wpAny_lookBehind hoD (by rw[hdD];exact pastItsLine_dict (D1 hcD (by rw[Et,List.length_nil,sizeLine_eq];omega))) ?_)
  wp_walk
  refine hq h' _ ⟨?_,hn',fun b ob hbx hb=>?_⟩
  ·refine (hs.2 x hxs).trans (EG _ hx₁ ?_)
   have hfr:=(Heap.get?_some_iff.mp hx).2
   obtain ⟨oc,od,odt,osl⟩:=o
   cases odt <;> first|rfl|exact hfr
  ·exact (hs.2 b (Ed (D7 hb))).trans ((Fo _ _ _ _ hbx).trans (DU _ hb))
theorem q9 {M:Model}{nameV:Value}{Q:Unit→Shared→Prop} (hob:bm.contains (.type "object")=true)
  (hC:h.get? C=some (excClassObj nm q C N bs bm true sn sub ab col dd k0 k1 k2 k3 k5 newId)) (hx:h.get? x=some o) (hc:o.cls=.ref C) (hq:Q () ⟨h,g,d,t,os⟩) :
  wpAny M A (checkBuiltinCall "object.__setattr__" ⟨[.ref x,nameV,v],[]⟩) Q E ⟨h,g,d,t,os⟩:=by
 have SF:=PySem.F.store_object
 have hcB:(Value.ref C::bm).contains (.type "object")=true:=by rw[List.contains_cons,hob,Bool.or_true]
 have ha:=SF.args (.ref x) nameV v
 simp only [checkBuiltinCall,SF.kind,SF.split]
 refine wpAny_bind ?_
 ·unfold isInstance
  repeat (first|(with_reducible refine wpAny_loadPart_at hx ?_;rw[hc])|(with_reducible refine wpAny_isSubtype_exc hC ?_;rw[hcB])|wp_step)
  exact hq
theorem qZ {Q:Unit→Shared→Prop} (hpass:refuseLoop (.ref x) "__setattr__" bm=pure ()) (hob:bm.contains (.type "object")=true) (hC:h.get? C=some (excClassObj nm q C N bs bm true sn sub ab col dd k0 k1 k2 k3 k5 newId))
  (hsa:Looks (model prog w) h (typeLookup (.ref C) "__setattr__") (some (.builtin "object.__setattr__"))) (hn:Looks (model prog w) h (typeLookup (.ref C) name) none) (hx:h.get? x=some o) (hc:o.cls=.ref C) (hnc:∀ c,o.data≠.cls c) (hdn:o.dict=none)
  (hq:∀ h' tk',v8 h x o name v h'→Q () ⟨h',g,d,tk',os⟩):wpAny (model prog w) A (setAttr (.ref x) name v) Q E ⟨h,g,d,t,os⟩:=by
 have SF:=PySem.F.store_object
 have f3:=SF.slot.bind (.ref x)
 unfold setAttr callSpecial? specialOf
 repeat (any_goals (first|assumption|(with_reducible refine wpAny_loadPart_at hx ?_;rw[hc])|with_reducible refine hsa.at ?_|wp_step))
 refine codeAny_call_builtin SF.slot.plain SF.entry (q9 hob hC hx hc (q5 hpass hC hn hx hc hnc hdn fun h' tk' hst=>?_))
 repeat (any_goals (first|assumption|wp_step))
 exact hq h' tk' hst
end
end L2
namespace L2
open PySem PySem.Spec PyProof.Rows PySem.W
structure r9 (l:List Env) (e old:Addr) (oe:Obj) (vs:Array Value) (fl:Value) (h h':Heap) (T:Addr):Prop where
 self:h'.get? e=some { cls:=oe.cls,dict:=oe.dict,data:=.fields (vs.setIfInBounds 1 (.ref T)),slots:=oe.slots }
 new:h.objs.size≤T
 ent:∃ oT ts,h'.get? T=some oT∧oT.data=.fields ts∧ts[3]? = some fl
 keep:∀ b o,b≠e→b≠old→b ∉ frs l→h.get? b=some o→h'.get? b=some o
 slot:∀ b o,b≠e→b≠old→h.get? b=some o→∃ sl,h'.get? b=some { o with slots:=sl }
 sz : h.objs.size≤h'.objs.size
section
variable {M:Model}{A:Around}{E:Value→Shared→Prop}{s:Shared}
theorem j5 {base:Heap}{env:Env}{outer:List Env}{L e:Addr}{oe:Obj}{vs:Array Value}{head:Value}{hadNext:Bool}{Q:Unit→Shared→Prop}
  (hfr:A.frames=some (env::outer)) (hl:s.heap.FunFrames base (env::outer)) (hf:env.frame=some L) (he:s.heap.get? e=some oe) (hd:oe.data=.fields vs) (hsz:1<vs.size)
  (h : ∀ h' T,r9 (env::outer) e e oe vs (rawInt L) s.heap h' T→Q () { s with heap:=h' }) :
  wpAny M A (do let a ←frameOf env;let pl ←entryPlaceOf L hadNext;let b ←EntryCells.newEntry head a .none (rawInt L) .none pl;setField (.ref e) 1 b) Q E s:=by
 have hene:e ∉ (env::outer).filterMap (·.frame):=fun hm=>by
  obtain ⟨_,o,ho,hnf⟩:=hl.mem hm
  rw [he] at ho;injection ho with ho;subst ho;exact hnf vs hd
 refine wpAny_bind (wpAny_frameOf_fun hfr hl hf fun h₁ hs₁=>?_)
 refine wpAny_bind (wpAny_entryPlaceOf fun pl hpl=>?_)
 unfold EntryCells.newEntry newFields
 refine wpAny_bind (wpAny_newObj_type ?_ (hpl.sizeOk5 _ _ _ _ _))
 have he₁:h₁.get? e=some oe:=(hs₁.2.1 e hene).trans he
 have he₂:=DU (h:=h₁) { cls:=.type "traceback",dict:=none,data:=.fields ([head,.ref L,.none,rawInt L,.none]++(if pl.isEmpty then EC 6 Value.none else pl)).toArray } he₁
 refine wpAny_setField he₂ hd hsz (h _ h₁.objs.size ?_)
 have hTe:h₁.objs.size≠e:=EH (D7 he₁)
 have hd₃:=Obj.data_mapFields hd (·.setIfInBounds 1 (Value.ref h₁.objs.size))
 have he₃:=EG (Obj.mapFields (·.setIfInBounds 1 (Value.ref h₁.objs.size))) he₂ (Obj.isFreed_of_fields hd₃)
 have hT₃:=(EQ (h₁.push { cls:=.type "traceback",dict:=none,data:=.fields ([head,.ref L,.none,rawInt L,.none]++(if pl.isEmpty then EC 6 Value.none else pl)).toArray })
  (Obj.mapFields (·.setIfInBounds 1 (Value.ref h₁.objs.size))) (Ne.symm hTe)).trans (D8 h₁ rfl)
 have keep:∀ b o,b≠e→h₁.get? b=some o →
   ((h₁.push { cls:=.type "traceback",dict:=none,data:=.fields ([head,.ref L,.none,rawInt L,.none]++(if pl.isEmpty then EC 6 Value.none else pl)).toArray }).update e (Obj.mapFields (·.setIfInBounds 1 (Value.ref h₁.objs.size)))).get? b=some o :=
  fun b o hbe hb=>by
   rw [EQ _ _ (Ne.symm hbe)]
   exact DU _ hb
 have hszs:s.heap.objs.size≤h₁.objs.size:=Nat.le_of_eq hs₁.1.symm
 refine ⟨?_,hszs,⟨_,_,hT₃,rfl,by first|(simp;done)|(rcases hpl with rfl|⟨_,_,_,_,_,_,_,rfl⟩ <;> simp)⟩,fun b o hbe _ hb ho=>?_,fun b o hbe _ ho=>?_,?_⟩
 ·rw [he₃]
  obtain ⟨oc,od,oda,osl⟩:=oe
  dsimp only at hd
  subst hd
  rfl
 ·exact keep b o hbe ((hs₁.2.1 b hb).trans ho)
 ·obtain ⟨sl,hs⟩:=hs₁.2.2 b o ho
  exact ⟨sl,keep b _ hbe hs⟩
 ·rw [E8,ED]
  exact Nat.le_succ_of_le hszs
noncomputable def Trc (h:Heap) (e:Addr) (oe:Obj) (vs:Array Value) (T:Addr) (fl:Value):Prop :=
 h.get? e=some oe∧oe.data=.fields vs∧vs[1]? = some (.ref T)∧T≠e∧∃ oT ts,h.get? T=some oT∧oT.data=.fields ts∧ts[3]? = some fl
theorem r9.trc {l:List Env}{e old:Addr}{oe:Obj}{vs:Array Value}{fl:Value}{h h':Heap}{T:Addr} (x:r9 l e old oe vs fl h h' T) (he:h.get? e=some oe) (hsz:1<vs.size) :
  Trc h' e { cls:=oe.cls,dict:=oe.dict,data:=.fields (vs.setIfInBounds 1 (.ref T)),slots:=oe.slots } (vs.setIfInBounds 1 (.ref T)) T fl :=
 ⟨x.self,rfl,by simp[hsz],EH (D6 (D7 he) x.new),x.ent⟩
theorem oP {e T:Addr}{oe:Obj}{vs:Array Value}{fl:Value}{Q:Unit→Shared→Prop} (x:Trc s.heap e oe vs T fl)
  (h : ∀ h',Trc h' e oe vs T .none→(∀ b o,b≠T→s.heap.get? b=some o→h'.get? b=some o)→h'.objs.size=s.heap.objs.size→Q () { s with heap:=h' }):wpAny M A (setFlight (.ref e) none) Q E s:=by
 obtain ⟨he,hd,h1,hTe,oT,ts,hT,hdT,h3⟩:=x
 have hsz3:3<ts.size:=(Array.getElem?_eq_some_iff.mp h3).1
 have other:∀ b,b≠T→(s.heap.update T (Obj.mapFields (·.setIfInBounds 3 ((none:Option Addr).elim Value.none fun f=>rawInt f)))).get? b=s.heap.get? b :=
  fun b hb=>EQ _ _ (Ne.symm hb)
 unfold setFlight
 refine wpAny_bind (wpAny_field he hd h1 ?_)
 rw [if_pos (show (Value.ref T != Value.none)=true from by simp)]
 refine wpAny_setField hT hdT hsz3 (h _ ⟨(other e (Ne.symm hTe)).trans he,hd,h1,hTe,_,_,EG _ hT (Obj.isFreed_of_fields (Obj.data_mapFields hdT _)),Obj.data_mapFields hdT _,by simp[hsz3]⟩ (fun b o hb ho=>(other b hb).trans ho) (E8 _ _ _))
inductive Fly (h:Heap) (e:Addr) (oe:Obj) (vs:Array Value):Addr→Prop
 | new:h.get? e=some oe→oe.data=.fields vs→vs[1]? = some .none→Fly h e oe vs e
 | on {T:Addr}:Trc h e oe vs T .none→Fly h e oe vs T
theorem oA {base:Heap}{env:Env}{outer:List Env}{L e old:Addr}{oe:Obj}{vs:Array Value}{Q:Unit→Shared→Prop}
  (hfr:A.frames=some (env::outer)) (hl:s.heap.FunFrames base (env::outer)) (hf:env.frame=some L) (x:Fly s.heap e oe vs old)
  (h : ∀ h' T,r9 (env::outer) e old oe vs (rawInt L) s.heap h' T→Q () { s with heap:=h' }):wpAny M A (noteFrame (.ref e) env) Q E s:=by
 unfold noteFrame
 simp only [hf]
 cases x with
 | new he hd h1 =>
  refine wpAny_bind (wpAny_field he hd h1 ?_)
  rw [if_neg (by decide)]
  exact j5 hfr hl hf he hd (Array.getElem?_eq_some_iff.mp h1).1 h
 | on x =>
  obtain ⟨he,hd,h1,hTe,oT,ts,hT,hdT,h3⟩:=x
  refine wpAny_bind (wpAny_field he hd h1 ?_)
  rw [if_pos (show (Value.ref old != Value.none)=true from by simp)]
  refine wpAny_bind (wpAny_field hT hdT h3 ?_)
  rw [if_neg (show ¬((Value.none==rawInt L)=true) from by simp[rawInt])]
  refine wpAny_bind (wpAny_setField hT hdT (Array.getElem?_eq_some_iff.mp h3).1 ?_)
  have other:∀ b,b≠old→(s.heap.update old (Obj.mapFields (·.setIfInBounds 3 Value.none))).get? b=s.heap.get? b:=fun b hb=>EQ _ _ (Ne.symm hb)
  have noRecord:∀ b o,s.heap.get? b=some o→(∀ vs,o.data≠.fields vs)→b≠old:=fun b o hb hnf q=>by
   rw [q,hT] at hb;injection hb with hb;subst hb;exact hnf ts hdT
  refine j5 (s:={ s with heap:=s.heap.update old (Obj.mapFields (·.setIfInBounds 3 Value.none)) }) hfr (hl.of_keeps fun b o hb hnf=>⟨o,(other b (noRecord b o hb hnf)).trans hb,rfl⟩) hf ((other e (Ne.symm hTe)).trans he) hd (Array.getElem?_eq_some_iff.mp h1).1 fun h' T y=>h h' T ?_
  have hsz:(s.heap.update old (Obj.mapFields (·.setIfInBounds 3 Value.none))).objs.size=s.heap.objs.size:=E8 _ _ _
  exact ⟨y.self,by have:=y.new;rw[←hsz];exact this,y.ent,fun b o h1 h2 h3 ho=>y.keep b o h1 h1 h3 ((other b h2).trans ho),fun b o h1 h2 ho=>y.slot b o h1 h1 ((other b h2).trans ho),by have:=y.sz;rw[←hsz];exact this⟩
theorem lw {base:Heap}{env:Env}{outer:List Env}{L e old:Addr}{oe:Obj}{vs:Array Value}{Q:Unit→Shared→Prop}
  (hfr:A.frames=some (env::outer)) (hl:s.heap.FunFrames base (env::outer)) (hf:env.frame=some L) (x:Fly s.heap e oe vs old)
  (h : ∀ h' T,r9 (env::outer) e old oe vs .none s.heap h' T→Q () { s with heap:=h' }):wpAny M A (leaving env (.ref e)) Q E s:=by
 have hx:s.heap.get? e=some oe∧1<vs.size:=by
  cases x with
  | new he hd h1=>exact⟨he,(Array.getElem?_eq_some_iff.mp h1).1⟩
  | on x=>exact⟨x.1,(Array.getElem?_eq_some_iff.mp x.2.2.1).1⟩
 unfold leaving
 refine wpAny_bind (oA hfr hl hf x fun h1 T y=>?_)
 refine oP (y.trc hx.1 hx.2) fun h2 z k hsz=>?_
 have hT:∀ b o,s.heap.get? b=some o→b≠T:=fun b o ho=>Ed (D6 (D7 ho) y.new)
 refine h h2 T ⟨z.1,y.new,z.2.2.2.2,fun b o h1 h2 h3 ho=>k b o (hT b o ho) (y.keep b o h1 h2 h3 ho),fun b o h1 h2 ho=>?_,D1 y.sz (Nat.le_of_eq hsz.symm)⟩
 obtain ⟨sl,q⟩:=y.slot b o h1 h2 ho
 exact ⟨sl,k b _ (hT b o ho) q⟩
end
noncomputable abbrev bmV:List Value:=[.type "ValueError",.type "Exception",.type "BaseException",.type "object"]
noncomputable def cC (e C:Addr) (dx:Option Addr) (h:Heap):Prop:=∃ t sl,h.get? e=some { cls:=.ref C,dict:=dx,data:=.fields #[.ref t,.none,.none,.none,.bool false,.none],slots:=sl }
theorem cC.ok {P:Program}{w:World}{H:Hp}{h:Heap}{e C:Addr}{dx:Option Addr} (x:cC e C dx h):c7 P w H h e (.ext (cC e C dx)):=by
 obtain ⟨t,sl,q⟩:=id x
 exact ⟨x,⟨_,q⟩,fun h1 h2 ⟨t,sl,q⟩ k=>⟨t,sl,k _ q⟩⟩
theorem jb.ok {P:Program}{w:World}{H:Hp}{h:Heap}{e C:Addr}{dx:Option Addr} (x:jb e C dx h):c7 P w H h e (.ext (jb e C dx)):=by
 obtain ⟨t,sl,q⟩:=id x
 exact ⟨x,⟨_,q⟩,fun h1 h2 ⟨t,sl,q⟩ k=>⟨t,sl,k _ q⟩⟩
structure iw (K:PySem.W.Frag) (C fI:Addr):Prop where
 obj:∃ nm q N bs D sn sub ab col dd k0 k1 k2 k3 k5,K.lookup C=some (excClassObj nm q C N bs (.ref D::bmV) true sn sub ab col dd k0 k1 k2 k3 k5 "ValueError.__new__")∧tailIn K bmV (.ref D::bmV)=true
 init:PySem.W.findIn K (.ref C) "__init__" = some (some (.ref fI))
 fn : ∃ oI,K.lookup fI=some oI∧oI.cls=.type "function"
 kp : PySem.W.keepIn K (.ref C)=true
 sa : PySem.W.findIn K (.ref C) "__setattr__" = some (some (.builtin "object.__setattr__"))
 da : PySem.W.findIn K (.ref C) "day" = some none
section
variable {X:Cx}{o value:Expr}{ta tv:TE}{pos pos':Pos}
noncomputable def Da (K:PySem.W.Frag) (ta tv:TE):TS:=fun D σ H=>tv σ H fun y H1=>ta σ H1 fun x H2=>∃ a C fI,x=.ref a∧iw K C fI∧H2 a=some (.ext (cC a C none)) ∧
 ∀ dx,H2 dx=none→dx≠a→D.nx σ (upd (upd H2 a (.ext (cC a C (some dx)))) dx (.xd [("day",y)]))
theorem zA (ha:PE X o ta) (hv:PE X value tv) (hs:swapsWith value (some (.Attribute o "day" pos')) pos.line X.env=pure false):PS X (.Assign [.Attribute o "day" pos'] value pos) (Da X.K ta tv):=by
 intro pins s σ H D I h
 refine plainObj_wpAny_Assign_Attribute (thn (hv pins s σ H _ I h) fun u s1 ⟨y,H1,I1,ry,q⟩=>thn (ha pins s1 σ H1 _ I1 q) fun ov s2 ⟨x,H2,I2,rx,a,C,fI,ex,cls,ea,q2⟩=>?_) hs
 subst ex
 obtain rfl:ov=Value.ref a:=rx
 obtain ⟨nm,qn,N,bs,Dd,sn,sub,ab,col,dd,k0,k1,k2,k3,k5,lk,tl⟩:=cls.obj
 have KX:=I2.kIn
 obtain ⟨⟨t,sl,go⟩,_⟩:=I2.hok a _ ea
 obtain ⟨h2,g2,d2,t2,os2⟩:=s2
 have hpass:∀ x:Addr,refuseLoop (.ref x) "__setattr__" (.ref Dd::bmV)=pure ():=fun x=>by rw[refuseLoop_ref];exact PySem.F.store_ValueError.passes _
 refine qZ (hpass a) (by rfl) (KX _ _ lk) (looks_findIn KX cls.sa) (looks_findIn KX cls.da) go rfl (fun c z=>by cases z) rfl fun h' tk' hst=>?_
 obtain ⟨z1,z2,z3⟩:=hst
 have hn:H2 h2.objs.size=none:=I2.hok.fresh (D2 _)
 have hne:h2.objs.size≠a:=EH (D7 go)
 have I3:=I2.write (x:=a) (e:=a) (t':=tk') (o:=.ext (cC a C (some h2.objs.size))) (h':=h') (by rw[ea];trivial) (.inl rfl) z3 ⟨_,z1⟩ (cC.ok ⟨_,_,z1⟩)
 have fp:fE X pins (upd H2 a (.ext (cC a C (some h2.objs.size)))) h2.objs.size:=I2.fpOk (D2 _) (by rw[ai hne];exact hn)
 have I4:=I3.track (o:=.xd [("day",y)]) fp ⟨_,z2,fun f=>?_⟩
 ·exact ⟨σ,_,I4,q2 _ hn hne⟩
 ·by_cases hf:f = "day"
  ·subst hf
   simp [Er];exact ry
  ·have:(f==("day" : Str))=false:=by simpa using hf
   simp [Er,this,hf]
   trivial
end
noncomputable def CXE (P:Program) (w:World):CXT:=fun outer H s E e s'=>∃ a C dx T H',e=.ref a∧s'.os=s.os∧AllBare s'.gens∧Un (frs outer) [] H H' s.heap s'.heap∧HOk P w H' s'.heap ∧
 s.heap.get? a=none∧s.heap.get? T=none∧H' T=none∧H' a=some (.ext (jb a C dx))∧(∃ oe vs,Trc s'.heap a oe vs T .none)∧E (.ref C) dx H'
section
variable {P:Program}{w:World}{K:PySem.W.Frag}{mg:Str→Option Value}{base:Heap}{N:List Str}{qual:Str}{scope:Scope}{f:Addr}{cd:Value}{A:Around}{outer:List Env}{s:Shared}{H:Hp}{E:XK}
theorem mP {pins:List (Addr×Obj)}{σ:St}{H1:Hp}{s1:Shared}{a C old:Addr}{dx:Option Addr}{oe:Obj}{vs:Array Value} (I:Inv (dH (CXE P w) P w K mg base N qual scope f cd A outer s H E) pins σ H1 s1)
  (ea:H1 a=some (.ext (jb a C dx))) (na:s.heap.get? a=none) (fl:Fly s1.heap a oe vs old) (ho:old=a∨H1 old=none∧s.heap.get? old=none) (q:E (.ref C) dx H1) :
  (dH (CXE P w) P w K mg base N qual scope f cd A outer s H E).xe (.ref a) s1:=by
 obtain ⟨X,eX⟩:∃ X,X=dH (CXE P w) P w K mg base N qual scope f cd A outer s H E:=⟨_,rfl⟩
 have nold:s.heap.get? old=none:=by
  rcases ho with rfl|ho
  ·exact na
  ·exact ho.2
 have hx:s1.heap.get? a=some oe∧oe.data=.fields vs∧1<vs.size:=by
  cases fl with
  | new he hd h1=>exact⟨he,hd,(Array.getElem?_eq_some_iff.mp h1).1⟩
  | on x=>exact⟨x.1,x.2.1,(Array.getElem?_eq_some_iff.mp x.2.2.1).1⟩
 obtain ⟨⟨vs',sl,g⟩,_⟩:=I.hok a _ ea
 have eo:oe={ cls:=.ref C,dict:=dx,data:=.fields vs',slots:=sl }:=by
  have:=hx.1
  rw [g] at this
  exact (Option.some.inj this).symm
 subst eo
 show wpAny (model P w) (A.deeper (envOfC qual scope s.heap.objs.size f cd)) (leaving (envOfC qual scope s.heap.objs.size f cd) (.ref a)) _ _ s1
 refine lw (base:=base) (L:=s.heap.objs.size) I.ok.frames I.stack rfl fl fun h2 T y=>?_
 have hlt:∀ b o,s.heap.get? b=some o→b≠a∧b≠old∧b≠s.heap.objs.size:=fun b o e=>by
  have:=D7 e
  exact ⟨(fun z=>by rw[z,na] at e;cases e),(fun z=>by rw[z,nold] at e;cases e),Ed this⟩
 have efr:frs (envOfC qual scope s.heap.objs.size f cd::outer)=s.heap.objs.size::frs outer:=rfl
 have tr:∀ b o,H1 b=some o→b ∉ frs (envOfC qual scope s.heap.objs.size f cd::outer):=fun b o e z=>by
  have:=I.stkFree b z
  rw [e] at this
  cases this
 have nT:H1 T=none:=I.hok.fresh y.new
 refine ⟨a,C,dx,T,H1,rfl,I.os,I.bare,⟨fun b o e n hb hx=>?_,fun b o e n hb hx=>?_,I.base.free,fun b o e hx=>?_,I.base.tups,I.base.frzs,I.base.tbls⟩,fun b o e=>?_,na,Fg (D1 I.sz y.new),nT,ea,⟨_,_,y.trc hx.1 hx.2.2⟩,q⟩
 ·obtain ⟨z1,z2,z3⟩:=hlt b o e
  refine y.keep b o z1 z2 ?_ (I.base.keep b o e n hb hx)
  rw [efr]
  exact fun z=>(D3.mp z).elim z3 hb
 ·obtain ⟨z1,z2,z3⟩:=hlt b o e
  obtain ⟨sl1,e1⟩:=I.base.slot b o e n hb hx
  obtain ⟨sl2,e2⟩:=y.slot b _ z1 z2 e1
  exact ⟨sl2,e2⟩
 ·obtain ⟨z1,z2,z3⟩:=hlt b o e
  obtain ⟨o1,e1⟩:=I.base.there b o e hx
  obtain ⟨sl2,e2⟩:=y.slot b _ z1 z2 e1
  exact ⟨_,e2⟩
 ·by_cases hb:b=a
  ·subst hb
   rw [ea] at e
   cases e
   exact jb.ok ⟨_,_,y.self⟩
  ·refine (I.hok b o e).stay (fun c u hc gu=>?_) (fun c hc=>hc) fun c u _ hc=>hc
   have hc':∃ u,H1 c=some u:=by
    rcases hc with rfl|hc
    ·exact ⟨_,e⟩
    ·exact ⟨_,hc⟩
   obtain ⟨u',hu'⟩:=hc'
   refine y.keep c u ?_ ?_ (tr c u' hu') gu
   ·rcases hc with rfl|hc
    ·exact hb
    ·intro z
     rw [z,ea] at hc
     cases hc
   ·intro z
    rcases ho with ho|ho
    ·rcases hc with rfl|hc
     ·exact hb (z.trans ho)
     ·rw [z,ho,ea] at hc
      cases hc
    ·rw [z,ho.1] at hu'
     cases hu'
theorem BQ:kx (CXE P w) (dH (CXE P w) P w K mg base N qual scope f cd A outer s H E) E:=by
 intro pins σ H1 s1 e s' I ⟨a,C,dx,T,H',ee,os,bare,un,hok,na,nT,hT,ea,⟨oe,vs,tr⟩,q⟩
 subst ee
 have up:∀ b,s1.heap.get? b=none→s.heap.get? b=none:=fun b z=>by
  cases e:s.heap.get? b with
  | none=>rfl
  | some o =>
   obtain ⟨o',e'⟩:=I.base.there b o e (fun z=>nomatch z)
   rw [z] at e'
   cases e'
 exact mP (I.call' (ch:=[]) os un hok bare (fun b z=>nomatch z)) ea (up a na) (.on tr) (.inr ⟨hT,up T nT⟩) q
end
section
variable {K:PySem.W.Frag}{P:Program}{w:World}{mg:Str→Option Value}{base:Heap}
noncomputable def pz (K:PySem.W.Frag) (fI:Addr):Sp:=fun vs H Q E=>∃ a C y,vs=[.ref a,y]∧iw K C fI∧H a=some (.ext (cC a C none)) ∧
 ∀ dx,H dx=none→dx≠a→Q .non (upd (upd H a (.ext (cC a C (some dx)))) dx (.xd [("day",y)]))
theorem xJ {x qual:Str}{st:Stmt}{f:Addr}{fd:FuncData}{k:Nat}{p1 p2 p3 p4:Pos} (F:Fun K x qual st f fd) (S:au ["self", "day"] ["self", "day"] (ad st)) (hb:bB st=[.Assign [.Attribute (.Name "self" p1) "day" p2] (.Name "day" p3) p4])
  (hs:∀ L f cdv,swapsWith (.Name "day" p3) (some (.Attribute (.Name "self" p1) "day" p2)) p4.line (envOfC qual (ad st) L f cdv)=pure false) :
  b7 P w K mg base CX0 (k+1) f fd ["self", "day"] (pz K f):=by
 have v0:Vis (ad st) "self" := (S.par "self" (by simp)).elim .inl fun h=>.inr (.inl h)
 have v1:Vis (ad st) "day" := (S.par "day" (by simp)).elim .inl fun h=>.inr (.inl h)
 refine Fun.ok F S (fun vs H Q E ⟨a,C,y,e,_⟩=>by rw[e];rfl) fun cdv A outer s H vs Q E hr ⟨a,C,y,e,cls,ea,q⟩=>?_
 subst e
 rw [hb]
 refine ⟨_,kT (zA (pv 0 rfl v0) (pv 1 rfl v1) (hs _ _ _)),?_⟩
 exact ⟨y,rfl,.ref a,rfl,a,C,f,rfl,cls,ea,q⟩
end
section
variable {X:Cx}{C fI:Addr}{fd:FuncData}{x:Str}{k:Nat}{e:Expr}{t:TA}{p pos:Pos}
noncomputable def Cz (C:Addr) (t:TA):TE:=fun σ H Q=>t σ H fun vs H1=>∃ y,vs=[y]∧∀ a dx,H1 a=none→H1 dx=none→dx≠a→Q (.ref a) (upd (upd H1 a (.ext (cC a C (some dx)))) dx (.xd [("day",y)]))
theorem zJ (cls:iw X.K C fI) (F:b7 X.prog X.w X.K X.mg X.base CX0 k fI fd ["self", "day"] (pz X.K fI)) (hb:br X.K fd ["self", "day"] []) (hr:ca (k+1) X.A) (hg:Gl X x) (hm:X.mg x=some (.ref C)) (ha:PA X [e] t)
  (hdb:(x==("__debug__" : Str))=false:=by decide) (he:starEach [e] X.env=(false,eval e X.env)::starEach [] X.env:=by rfl) (hpl:(backTo pos (starEach [] X.env)).any (·.1)=false:=by rfl) :
  PE X (.Call (.Name x p) [e] [] pos) (Cz C t):=by
 intro pins s σ H Q I h
 refine wpAny_Call_Name_kw (qB I hg hm ?_ hdb)
 refine PySem.W.callWith_K (h₀:=X.base) I.ok.mod.kin cls.kp (thn (ha pos pins s σ H _ I h) fun us s1 ⟨vs,H1,I1,r,y,ev,q⟩=>⟨I1.kIn,?_⟩) he hpl
 subst ev
 obtain ⟨u,rfl,ry⟩:=aK.one r
 obtain ⟨nm,qn,N,bs,Dd,sn,sub,ab,col,dd,k0,k1,k2,k3,k5,lk,tl⟩:=cls.obj
 obtain ⟨oI,lI,cI⟩:=cls.fn
 obtain ⟨h1,g1,d1,t1,os1⟩:=s1
 refine rN (F:=PySem.F.excBase_ValueError) (bmB:=bmV) (tail_of_in I1.kIn tl) (I1.kIn _ _ lk) (looks_findIn I1.kIn cls.init) (I1.kIn _ _ lI) cI fun h' a hm1 hle hsz=>?_
 obtain ⟨ta,ga,_,_⟩:=hm1.there
 have ha1:H1 a=none:=I1.hok.fresh hle
 have I2:=I1.laid (t':=t1) (a:=a) (o:=.ext (cC a C none)) (h':=h') hm1.keeps hle (cC.ok ⟨_,_,ga⟩)
 refine wpAny_call (codeAny_mono (F.run _ X.stack _ _ ⟨[.ref a,u],[]⟩ [.ref a,u] [.ref a,y] (fun v H2=>v=.non∧Q (.ref a) H2) E0 (hr.make C [u] []) (I2.env0.make C [u] []) (hb _ [.ref a,u] I2.kIn rfl) (.cons rfl (.cons ry .nil)) ?_) fun r s' hq=>?_)
 ·refine ⟨a,C,y,rfl,cls,ar,fun dx hdx hne=>⟨rfl,?_⟩⟩
  rw [ai hne] at hdx
  rw [wn]
  exact q a dx ha1 hdx hne
 ·cases r with
  | error e=>exact False.elim hq
  | ok fl =>
   cases fl with
   | ret u2 =>
    obtain ⟨v,H',I3,rv,ev,q3⟩:=I2.after hq
    subst ev
    exact ⟨rv,⟨V.ref a,H',I3,rfl,q3⟩⟩
   | next=>exact False.elim hq
   | brk=>exact False.elim hq
   | cont=>exact False.elim hq
end
section
variable {P:Program}{w:World}{K:PySem.W.Frag}{mg:Str→Option Value}{base:Heap}{N:List Str}{qual:Str}{scope:Scope}{f:Addr}{cd:Value}{A:Around}{outer:List Env}{s:Shared}{H:Hp}{E:XK}
noncomputable def yX (C:Addr) (E:XK) (Hs:Hp) (te:TE):TS:=fun _ σ H=>te σ H fun v H1=>∃ a dx,v=.ref a∧Hs a=none∧H1 a=some (.ext (cC a C (some dx)))∧E (.ref C) (some dx) (upd H1 a (.ext (jb a C (some dx))))
theorem sY {e:Expr}{te:TE}{pos:Pos}{C fI:Addr} (hh:A.handled=none) (cls:iw K C fI) (he:PE (dH (CXE P w) P w K mg base N qual scope f cd A outer s H E) e te) :
  PS (dH (CXE P w) P w K mg base N qual scope f cd A outer s H E) (.Raise (some e) none pos) (yX C E H te):=by
 intro pins s0 σ H0 D I h
 rw [arm_exec_Raise]
 refine wpAny_bind (wpAny_standAt ?_)
 obtain ⟨nm,qn,NN,bs,Dd,sn,sub,ab,col,dd,k0,k1,k2,k3,k5,lk,tl⟩:=cls.obj
 show wpAny _ _ (raiseStmt _ (some (do let v ←eval e _;standAt pos;pure v)) none) _ _ _
 refine og (bm:=.ref Dd::bmV) (C:=C) (nm:=nm) (q:=qn) (N:=NN) (bs:=bs) (hdct:=true) (sn:=sn) (sub:=sub) (ab:=ab) (col:=col) (dd:=dd) (k0:=k0) (k1:=k1) (k2:=k2) (k3:=k3) (k5:=k5) (newId := "ValueError.__new__") rfl hh ?_
 refine wpAny_bind (thn (he pins s0 σ H0 _ I h) fun u s1 ⟨v,H1,I1,rv,a,dx,ev,nHa,ea,qE⟩=>?_)
 refine wpAny_bind (wpAny_standAt (wpAny_pure ?_))
 subst ev
 obtain rfl:u=Value.ref a:=rv
 obtain ⟨⟨t,sl,g⟩,_⟩:=I1.hok a _ ea
 refine ⟨a,t,some dx,sl,rfl,I1.kIn _ _ lk,g,?_⟩
 have I2:=I1.write (x:=a) (e:=a) (t':=s1.toks) (o:=.ext (jb a C (some dx))) (h':=s1.heap) (by rw[ea];trivial) (.inl rfl) (fun b u _ e=>e) ⟨_,g⟩ (jb.ok ⟨_,_,g⟩)
 have na:s.heap.get? a=none:=by
  cases e:s.heap.get? a with
  | none=>rfl
  | some o =>
   have:=I1.base.free a o e nHa (fun z=>nomatch z)
   rw [ea] at this
   cases this
 exact mP I2 ar na (.new g rfl rfl) (.inl rfl) qE
end
section
variable {X:Cx}{pins:List (Addr×Obj)}{σ:St}{H:Hp}{s:Shared}{e:Value}
end
section
variable {P:Program}{w:World}{H H':Hp}{h0 h h2:Heap}{a old C T:Addr}{dx:Option Addr}{oe:Obj}{vs:Array Value}{fl:Value}{outer:List Env}
end
section
variable {X:Cx}{k:Nat}{f C fI:Addr}{fd:FuncData}{ps:List Str}{sp:Sp}{x xn:Str}{p pos pos2 pn ph pt:Pos}{e:Expr}{es:List Expr}{t:TA}{b₀:Stmt}{th:TS}
end
noncomputable abbrev o7:=List Sl→(Sl→List Sl→Prop)→(Int→Prop)→Prop
noncomputable def XOk (C:Addr) (H:Hp) (RX:Int→Prop) (E:XK):Prop:=∀ n,RX n→∀ dx H',aO H H'→H dx=none→H' dx=some (.xd [("day",.int n)])→E (.ref C) (some dx) H'
noncomputable def spX (K:PySem.W.Frag) (C:Addr) (sp:o7):Sp:=fun vs H Q E=>∃ (M:Addr→Prop) (ss:List Sl) (R:Sl→List Sl→Prop) (RX:Int→Prop),vs.length=ss.length∧be K M (jf vs ss) H (tmp (vs.zip ss)) H∧sp ss R RX∧(∀ b,¬jf vs ss b) ∧
 (∀ r ss' v H',R r ss'→iS r=true→be K M (jf vs ss) H (tmp ((v,r)::vs.zip ss')) H'→Q v H')∧XOk C H RX E
noncomputable def fR (P:Program) (w:World) (K:PySem.W.Frag) (mg:Str→Option Value) (base:Heap) (C:Addr):Prop :=
 ∃ fI fd,iw K C fI∧b7 P w K mg base CX0 1 fI fd ["self", "day"] (pz K fI)∧br K fd ["self", "day"] []∧mg "NoDay" = some (.ref C)
noncomputable def yH (P:Program) (w:World) (K:PySem.W.Frag) (mg:Str→Option Value) (base:Heap) (C:Addr) (x:Str) (k:Nat) (sp:o7):Prop :=
 ∃ (f:Addr) (fd:FuncData) (ps:List Str),b7 P w K mg base (CXE P w) k f fd ps (spX K C sp)∧br K fd ps []∧PySem.W.keepIn K (.ref f)=true∧mg x=some (.ref f)
inductive upL (K:PySem.W.Frag) (Hs:Hp) (t:DS) (D:o9) (σ:St) (H:Hp):Prop
 | mk (M P:Addr→Prop) (H0:Hp) (σ0:St) (env:List Sl) (ts:List (V×Sl)) (DD:kz):(H0=Hs∧∀ b,¬P b)→rY ts→Rel K M P H0 σ0 σ env ts H→t DD env→wd K M P H0 σ0 ts DD D→upL K Hs t D σ H
section
variable {X:Cx}{K:PySem.W.Frag}{Hs:Hp}{pos:Pos}{st:Stmt}{bI a b:List Stmt}{t u:DS}{e c tg iter:Expr}{te:DE}{tc:DT}
theorem xx (h:PS X st (upS K t)):PS X st (upL K Hs t):=h.imp fun D σ H ⟨M,P,H0,σ0,env,ts,DD,_,nv,r,ht,ok⟩=>⟨M,P,H0,σ0,env,ts,DD,nv,r,ht,ok⟩
theorem zY (h:PSs X bI (upS K t)):PSs X bI (upL K Hs t):=h.imp fun D σ H ⟨M,P,H0,σ0,env,ts,DD,_,nv,r,ht,ok⟩=>⟨M,P,H0,σ0,env,ts,DD,nv,r,ht,ok⟩
theorem iI (h1:PS X st (upL K Hs t)) (h2:PSs X bI (upL K Hs u)):PSs X (st::bI) (upL K Hs (yD t u)):=(mH h1 h2).imp fun D σ H h=>by
 obtain ⟨M,P,H0,σ0,env,ts,DD,j,nv,rel,ht,ok⟩:=h
 exact ⟨M,P,H0,σ0,env,ts,_,j,nv,rel,ht,⟨fun σ' env' H' q r=>⟨M,P,H0,σ0,env',ts,DD,j,nv,r,q,ok⟩,ok.rt,ok.bk,ok.ct⟩⟩
theorem iH (h1:PS X st (upL K Hs t)):PSs X [st] (upL K Hs t):=kT h1
theorem BJ (hc:PT X c (upT K tc)) (ha:PSs X a (upL K Hs t)) (hb:PSs X b (upL K Hs u)):PS X (.If c a b pos) (upL K Hs (AL tc t u)):=(zz hc ha hb).imp fun D σ H h=>by
 obtain ⟨M,P,H0,σ0,env,ts,DD,j,nv,rel,ht,ok⟩:=h
 refine ⟨M,P,H0,σ0,env,ts,_,rel,ht,fun k env1 H1 h1 rel1=>?_⟩
 cases k with
 | true=>exact⟨M,P,H0,σ0,env1,ts,DD,j,nv,rel1,h1,ok⟩
 | false=>exact⟨M,P,H0,σ0,env1,ts,DD,j,nv,rel1,h1,ok⟩
theorem zq {body:List Stmt}{it:DI}{g:DG}{tb:DS} (hp:PassesOwn (model X.prog X.w) X.A X.env X.xe) (hc:X.calm=true) (hi:PI X tg iter (upI K it)) (hg:PG X tg (upG K g)) (hb:PSs X body (upL K Hs tb)) (hs:∀ x,foldedSetIterable iter X.env x=pure x:=by intro _;rfl) :
  PS X (.For tg iter body [] pos) (upL K Hs (AN it g tb)):=(vg hp hc hi hg hb hs).imp fun D σ H h=>by
 obtain ⟨M,P,H0,σ0,env,ts,DD,j,nv,rel,ht,ok⟩:=h
 refine ⟨M,P,H0,σ0,env,ts,_,rel,ht,fun ds env1 J H1 kp hF rel1 io=>?_⟩
 obtain ⟨W,w0,turn,done⟩:=hF
 have nv2:rY (ts++kp):=fun w i m=>by
  rcases DQ.mp m with m|m
  ·exact nv w i m
  ·exact io.nv w i m
 refine ⟨fun i m σ H=>m=ds.length - i∧i≤ds.length∧∃ env,W i env∧Rel K M P H0 σ0 σ env (ts++kp) H,⟨_,rfl,Ee _,env1,w0,rel1⟩,?_⟩
 rintro i m σ2 H2 ⟨rfl,hle,env2,w2,rel2⟩
 by_cases hlt:i<ds.length
 ·refine .inr ⟨io.go rel2 i hlt,fun σ' H'=>∃ env',W (i+1) env'∧Rel K M P H0 σ0 σ' env' (ts++kp) H',fun σ' H' ⟨env',w',r'⟩=>⟨ds.length - (i+1),by omega,rfl,hlt,env',w',r'⟩,fun x H3 y=>?_⟩
  obtain ⟨sm,dn⟩:=io.yld rel2 i x H3 hlt y
  have rel3:=rel2.same sm
  refine ⟨M,P,H0,σ0,env2,ts++kp,ds[i],_,nv2,rel3,dn,turn i env2 hlt w2,fun σ' env' H' hR r=>?_⟩
  refine ⟨M,P,H0,σ0,env',ts++kp,_,j,nv2,r,hR,⟨fun σ' env' H' q r=>⟨env',q,r⟩,fun s env' v σ' H' q r=>ok.rt s env' v σ' H' q r.dropMid,fun σ' env' H' q r=>ok.nx _ _ _ q r.drop,fun σ' env' H' q r=>⟨env',q,r⟩⟩⟩
 ·have e:i=ds.length:=by omega
  subst e
  exact .inl ⟨io.stop rel2,ok.nx _ _ _ (done _ w2) rel2.drop⟩
end
section
variable {P:Program}{w:World}{K:PySem.W.Frag}{mg:Str→Option Value}{base:Heap}{N:List Str}{qual:Str}{scope:Scope}{f:Addr}{cd:Value}{A:Around}{outer:List Env}{s:Shared}{H:Hp}{E:XK}{C:Addr}{RX:Int→Prop}{tl:DA}{k:Nat}
noncomputable def rz (RX:Int→Prop) (tl:DA):DS:=fun _ env=>tl env fun ss env1=>∃ s n,ss=[s]∧aH env1 s=some (.int n)∧RX n
theorem wF {e:Expr}{pos p pos':Pos} (hE:XOk C H RX E) (cl:fR P w K mg base C) (hr:ca (k+2) (A.deeper (envOfC qual scope s.heap.objs.size f cd))) (hg:Gl (dH (CXE P w) P w K mg base N qual scope f cd A outer s H E) "NoDay")
  (ha:PA (dH (CXE P w) P w K mg base N qual scope f cd A outer s H E) [e] (upA K tl))
  (he:starEach [e] (dH (CXE P w) P w K mg base N qual scope f cd A outer s H E).env=(false,eval e (dH (CXE P w) P w K mg base N qual scope f cd A outer s H E).env)::starEach [] (dH (CXE P w) P w K mg base N qual scope f cd A outer s H E).env:=by rfl) :
  PS (dH (CXE P w) P w K mg base N qual scope f cd A outer s H E) (.Raise (some (.Call (.Name "NoDay" p) [e] [] pos)) none pos') (upL K H (rz RX tl)):=by
 obtain ⟨fI,fd,cls,F,b,m⟩:=cl
 refine (sY (A:=A) (te:=Cz C (upA K tl)) (show A.handled=none from hr.hd) cls (zJ (k:=1) cls F b (ca.mono (j:=2) hr (by omega)) hg m ha (by decide) he)).imp fun D σ H1 h=>?_
 obtain ⟨M,PP,H0,σ0,env,ts,DD,⟨rfl,np⟩,nv,rel,ht,ok⟩:=h
 refine ⟨M,PP,H0,σ0,env,ts,_,rel,ht,fun ss env1 vs H2 h1 hl rel1=>?_⟩
 obtain ⟨s1,n,rfl,ev,hR⟩:=h1
 obtain ⟨y,rfl⟩:=sr hl
 have wv:=(rel1.view (v:=y) (by simp) ev).int
 subst wv
 have sm:aO H0 H2:=fun b o e=>rel1.e.keep b o (np b) e
 refine ⟨_,rfl,fun a dx ha hdx hne=>⟨a,dx,rfl,?_,?_,?_⟩⟩
 ·exact sm.free ha
 ·rw [ai (Ne.symm hne),ar]
 ·refine hE n hR dx _ (fun b o e=>?_) (sm.free hdx) ?_
  ·have e2:=sm b o e
   have z1:b≠a:=fun z=>by rw[z,ha] at e2;cases e2
   have z2:b≠dx:=fun z=>by rw[z,hdx] at e2;cases e2
   rw [ai z1,ai z2,ai z1]
   exact e2
  ·rw [ai hne,ar]
theorem okX {x:Str}{st:Stmt}{f:Addr}{fd:FuncData}{N ps:List Str}{k:Nat}{sp:o7} (F:Fun K x x st f fd) (S:au N ps (ad st)) (len:∀ ss R RX,sp ss R RX→ss.length=ps.length) (hN:ps.length≤N.length)
  (hb:∀ (cdv:Value) (A:Around) (outer:List Env) (s:Shared) (H:Hp) (E:XK) (RX:Int→Prop),ca k (A.deeper (envOfC x (ad st) s.heap.objs.size f cdv))→XOk C H RX E →
   ∃ t:DS,PSs (dH (CXE P w) P w K mg base N x (ad st) f cdv A outer s H E) (bB st) (upL K H t)∧∀ ss R,sp ss R RX→t (iV ps.length R) (bC N.length ss)):b7 P w K mg base (CXE P w) (k+1) f fd ps (spX K C sp):=by
 obtain ⟨oc,od,kV,doc,pm,an,cdv,ct,osl,rfl,lk,hcd⟩:=F.ex
 refine xO lk hcd S (fun vs H Q E h=>?_) fun A outer s H vs Q E hr h=>?_
 ·obtain ⟨M,ss,R,RX,hl,_,hsp,_⟩:=h
  rw [hl]
  exact len ss R RX hsp
 obtain ⟨M,ss,R,RX,hl,hE,hsp,np,hq,hx⟩:=h
 have hn:=len ss R RX hsp
 obtain ⟨t,ht,hr'⟩:=hb cdv A outer s H E RX hr hx
 have ez:ay (bu N vs) (bC N.length ss) []=tmp (vs.zip ss)++EC (N.length - vs.length) (none,Sl.un):=by
  show (bu N vs).zip (bC N.length ss)++[]=_
  unfold bu bC
  rw [Eh,←hl]
  exact dS _ hl
 refine ⟨_,ht,M,jf vs ss,H,bu N vs,bC N.length ss,[],iV ps.length R,⟨rfl,np⟩,fun w i m=>(by cases m),⟨?_,by simp[bu,bC,hl],fun w i m=>(by cases m),fun i l e=>rfl⟩,hr' ss R hsp,⟨fun σ' env' H' q r=>?_,fun s env' v σ' H' q r=>?_,fun σ' env' H' q r=>(show False from q),fun σ' env' H' q r=>(show False from q)⟩⟩
 ·rw [ez]
  refine hE.sub (fun x s m=>?_) (by rw[ae,lj,Eh];exact hE.nd)
  rcases DQ.mp m with m|m
  ·exact .inl m
  ·have:=(Fv.mp m).2
   cases this
   exact .inr (.inl rfl)
 ·have r2:=(Rel.addFr r (v:=.non) (d:=.none) .non)
  have r2:Rel K M (jf vs ss) H (bu N vs) σ' env' [(.non,.fr .none)] H':=by simpa using r2
  exact hq _ _ _ _ q rfl (r2.fin (by omega) rfl)
 ·obtain ⟨r0,e0,hR⟩:=q
  have r1:Rel K M (jf vs ss) H (bu N vs) σ' env' [(v,s)] H':=by simpa using r
  obtain ⟨env2,r2,ef,hr0⟩:=r1.told (n:=ps.length) e0
  exact hq r0 _ v H' hR hr0 (by rw[←ef];exact r2.fin (by omega) hr0)
theorem Dz {x:Str}{st:Stmt}{f:Addr}{fd:FuncData}{k:Nat}{ps:List Str}{sp:o7} (F:Fun K x x st f fd) (m:mg x=some (.ref f)) (b:br K fd ps []) (G:b7 P w K mg base (CXE P w) k f fd ps (spX K C sp)):yH P w K mg base C x k sp:=⟨f,fd,ps,G,b,F.kp,m⟩
end
section
variable {X:Cx}{x:Str}{p pos pos2 pn ph pt:Pos}{e:Expr}{es:List Expr}{k:Nat}{sp:o7}{K:PySem.W.Frag}{tl:DA}{C:Addr}{b₀:Stmt}{th:DS}
end
section
variable {K:PySem.W.Frag}{M P N:Addr→Prop}{H0 H H':Hp}{σ0 σ:St}{env:List Sl}{ts tt:List (V×Sl)}{v:V}{s:Sl}{d:PyData}
end
section
variable {X:Cx}{x:Str}{p pos:Pos}{e:Expr}{es:List Expr}{k:Nat}{sp:DSp}{K:PySem.W.Frag}{tl:DA}
end
theorem us1 {Q:List Value→Prop}{us:List Value} (l:us.length=1) (h:∀ a:Value,Q [a]):Q us:=by
 obtain ⟨a,rfl⟩:=sr l
 exact h a
theorem us2 {Q:List Value→Prop}{us:List Value} (l:us.length=2) (h:∀ a b:Value,Q [a,b]):Q us:=by
 obtain ⟨a,b,rfl⟩:=BY l
 exact h a b
theorem us3 {Q:List Value→Prop}{us:List Value} (l:us.length=3) (h:∀ a b c:Value,Q [a,b,c]):Q us:=by
 obtain ⟨a,b,c,rfl⟩:=Dj l
 exact h a b c
section
variable {X:Cx}{x:Str}{p pos:Pos}{e:Expr}{es:List Expr}{k:Nat}{sp:o7}{K:PySem.W.Frag}{tl:DA}{C:Addr}
theorem BP {P:Program}{w:World}:kx (CXE P w) X E0:=fun _ _ _ _ _ _ _ h=>by
 obtain ⟨a,C,dx,T,H',_,_,_,_,_,_,_,_,_,_,q⟩:=h
 exact q.elim
noncomputable def nC (sp:o7) (t:DA):DE:=fun env R=>t env fun ss env1=>∃ ds,aQ env1 ss=some ds∧sp (ds.map .fr) (dK (fun r _=>R r env1) ⟨⟩) fun _=>False
theorem uI:∀ σ H Q,up K (nC sp tl) σ H Q→nR (spX K C sp) [] E0 (upA K tl) σ H Q:=fun σ H Q h=>by
 obtain ⟨M,P,H0,σ0,env,ts,R,rel,ht,hq⟩:=h
 refine ⟨M,P,H0,σ0,env,ts,_,rel,ht,fun ss env1 vs H1 h1 hl rel1=>?_⟩
 obtain ⟨ds,ek,hsp⟩:=h1
 rw [Eh]
 have dns:=rel1.keptAll hl (fun p hp=>hp) ek
 have oe:=fb vs ds
 have no:∀ b,¬jf vs (ds.map .fr) b:=fun b z=>by
  have z:b∈oas (tmp (vs.zip (ds.map .fr))):=z
  rw [oe] at z
  cases z
 refine ⟨Nw M (ay σ env1 ts),ds.map .fr,fun r _=>R r env1,fun _=>False,by simp[dns.len],nO dns fun a z hn=>rel1.drop.newAddr hn z,hsp,no,fun r ss' v H' hR hr post=>hq _ _ _ _ hR ?_,fun n hn=>hn.elim⟩
 have k:aO H1 H':=(post.keep.mono (M:=N0) fun b z=>(no b z).elim).none
 exact (rel1.drop).withRes (rel1.drop.e.called k (post.resOk hr)) hr
theorem wL (G:yH X.prog X.w X.K X.mg X.base C x k sp) (hr:ca k X.A) (hg:Gl X x) (hK:X.K=K) (ha:PA X (e::es) (upA K tl)) (hd:(x==("__debug__" : Str))=false:=by decide)
  (he:starEach (e::es) X.env=(false,eval e X.env)::starEach es X.env:=by rfl) (hpl:(backTo pos (starEach es X.env)).any (·.1)=false:=by rfl):PE X (.Call (.Name x p) (e::es) [] pos) (up K (nC sp tl)):=by
 subst hK
 obtain ⟨f,fd,ps,F,b,kp,m⟩:=G
 exact (kZ F hr hg m kp b .nil BP ha hd he hpl).imp uI
end
theorem c7.here {P:Program}{w:World}{H:Hp}{h:Heap}{a:Addr}{o:HO} (x:c7 P w H h a o):∃ u,h.get? a=some u:=by
 cases o with
 | lst xs=>obtain⟨_,_,_,_,e⟩:=x;exact⟨_,e⟩
 | tup xs=>obtain⟨_,_,_,⟨_,e,_⟩⟩:=x;exact⟨_,e⟩
 | dK kvs=>obtain⟨_,_,_,_,o,_,_,e,_⟩:=x;exact⟨_,e⟩
 | dT kvs=>obtain⟨_,_,_,_,o,_,_,e,_⟩:=x;exact⟨_,e⟩
 | set S n=>obtain⟨o,_,_,_,e,_⟩:=x;exact⟨_,e⟩
 | ins C dx fs=>obtain⟨_,_,_,e,_⟩:=x;exact⟨_,e⟩
 | own y=>obtain⟨_,e⟩:=x;exact⟨_,e⟩
 | xd fs=>obtain⟨_,⟨_,_,_,e,_⟩,_⟩:=x;exact⟨_,e⟩
 | rng lo hi=>obtain⟨_,_,_,e⟩:=x;exact⟨_,e⟩
 | frz ob u=>obtain⟨e,_⟩:=x;exact⟨_,e⟩
 | tbl q=>obtain⟨_,e,_⟩:=x;exact⟨_,e⟩
 | met f y=>exact⟨_,(show h.get? a=some _ from x)⟩
 | ext φ=>obtain⟨_,⟨_,e⟩,_⟩:=x;exact⟨_,e⟩
section
variable {X:Cx}{pins:List (Addr×Obj)}{σ:St}{H:Hp}{s:Shared}
end
noncomputable def o9.off (D:o9) (i:Nat):o9:=⟨fun σ H=>D.nx (σ.set i none) H,D.rt,fun σ H=>D.bk (σ.set i none) H,fun σ H=>D.ct (σ.set i none) H⟩
section
variable {X:Cx}{k:Nat}{f C fI:Addr}{fd:FuncData}{ps:List Str}{sp:Sp}{x xn xe:Str}{p pos pos2 pn ph pt:Pos}{e tg:Expr}{es:List Expr}{t:TA}{b₀:Stmt}{bs:List Stmt}{th:TS}{g:TG}{i:Nat}{hs':List ExceptHandler}
end
section
variable {X:Cx}{x xe:Str}{p pos pos2 pn ph pt:Pos}{e tg:Expr}{es:List Expr}{k i:Nat}{sp:o7}{K:PySem.W.Frag}{tl:DA}{C:Addr}{b₀:Stmt}{bs:List Stmt}{th:DS}{g:DG}{hs':List ExceptHandler}
end
section
variable {prog:Program}{w:World}{A:Around}{E:Value→Shared→Prop}{h:Heap}{g:Array GenState}{d:Drawn}{t:Nat}{os:OsState}
variable {nm q:Str}{C N x:Addr}{bs bm:List Value}{sn:List Str}{sub:List Value}{ab:Bool}{col:Option Bool}{dd:Option Addr}{k0 k1 k2 k3 k5:Option Value}{newId:String}{name:Str}{v:Value}{o:Obj}
end
section
variable {prog:Program}{w:World}{A:Around}{E:Value→Shared→Prop}{h:Heap}{g:Array GenState}{d:Drawn}{t:Nat}{os:OsState}
variable {nm q:Str}{C N x:Addr}{bs bm:List Value}{sn:List Str}{sub:List Value}{ab:Bool}{col:Option Bool}{dd:Option Addr}{k0 k1 k2 k3 k5:Option Value}{newId:String}{name:Str}{v c:Value}{o:Obj}
end
section
variable {X:Cx}{C fI:Addr}{e:Expr}{te:TE}{pos:Pos}
end
section
variable {X:Cx}{K:PySem.W.Frag}{C Dd fI:Addr}{e:Expr}{te:DE}{pos p:Pos}
end
section
variable {P:Program}{w:World}{K:PySem.W.Frag}{mg:Str→Option Value}{base:Heap}{N:List Str}{qual:Str}{scope:Scope}{f:Addr}{cd:Value}{A:Around}{outer:List Env}{s:Shared}{H:Hp}{E:XK}{C:Addr}{RX:Int→Prop}{tl:DA}{k:Nat}
noncomputable def yi (RX:Int→Prop) (sp:o7) (tl:DA):DS:=fun DD env=>tl env fun ss env1=>∃ ds,aQ env1 ss=some ds∧sp (ds.map .fr) (fun r _=>DD.rt r env1) RX
theorem zm {x:Str}{sp:o7}{e:Expr}{es:List Expr}{p pos pos':Pos} (hE:XOk C H RX E) (G:yH P w K mg base C x k sp) (hr:ca k (A.deeper (envOfC qual scope s.heap.objs.size f cd))) (hg:Gl (dH (CXE P w) P w K mg base N qual scope f cd A outer s H E) x)
  (ha:PA (dH (CXE P w) P w K mg base N qual scope f cd A outer s H E) (e::es) (upA K tl)) (hd:(x==("__debug__" : Str))=false:=by decide)
  (he:starEach (e::es) (dH (CXE P w) P w K mg base N qual scope f cd A outer s H E).env=(false,eval e (dH (CXE P w) P w K mg base N qual scope f cd A outer s H E).env)::starEach es (dH (CXE P w) P w K mg base N qual scope f cd A outer s H E).env:=by rfl)
  (hpl:(backTo pos (starEach es (dH (CXE P w) P w K mg base N qual scope f cd A outer s H E).env)).any (·.1)=false:=by rfl) :
  PS (dH (CXE P w) P w K mg base N qual scope f cd A outer s H E) (.Return (some (.Call (.Name x p) (e::es) [] pos)) pos') (upL K H (yi RX sp tl)):=by
 obtain ⟨f1,fd,ps,F,b,kp,m⟩:=G
 refine (vf (kZ F hr hg m kp b .nil BQ ha hd he hpl)).imp fun D σ H1 h=>?_
 obtain ⟨M,PP,H0,σ0,env,ts,DD,⟨rfl,np⟩,nv,rel,ht,ok⟩:=h
 refine ⟨M,PP,H0,σ0,env,ts,_,rel,ht,fun ss env1 vs H2 h1 hl rel1=>?_⟩
 obtain ⟨ds,ek,hsp⟩:=h1
 rw [Eh]
 have dns:=rel1.keptAll hl (fun p hp=>hp) ek
 have oe:=fb vs ds
 have no:∀ b,¬jf vs (ds.map .fr) b:=fun b z=>by
  have z:b∈oas (tmp (vs.zip (ds.map .fr))):=z
  rw [oe] at z
  cases z
 have sm:aO H0 H2:=fun b o e=>rel1.e.keep b o (np b) e
 refine ⟨Nw M (ay σ env1 ts),ds.map .fr,fun r _=>DD.rt r env1,RX,by simp[dns.len],nO dns fun a z hn=>rel1.drop.newAddr hn z,hsp,no,fun r ss' v H' hR hr post=>?_,fun n hn dx H' s2 hdx hd=>hE n hn dx H' (fun b o e=>s2 _ _ (sm _ _ e)) (sm.free hdx) hd⟩
 have k:aO H2 H':=(post.keep.mono (M:=N0) fun b z=>(no b z).elim).none
 exact ok.rt _ _ _ _ _ hR ((rel1.drop).withRes (rel1.drop.e.called k (post.resOk hr)) hr)
end
section
variable {X:Cx}{K:PySem.W.Frag}{C Dd:Addr}{e:Expr}{te:DE}{pos p:Pos}
end
end L2
namespace L2
open PySem PySem.Spec PyProof.Rows
theorem pX:∀ {a b:List Int},a.map PyData.int=b.map PyData.int→a=b
 | [],[],_=>rfl
 | [],_::_,e=>by simp at e
 | _::_,[],e=>by simp at e
 | x::xs,y::ys,e=>by
  rw [Ec,Ec] at e
  injection e with e1 e2
  injection e1 with e1
  rw [e1,pX e2]
theorem sJ {k k':aS} (e:cV k=cV k'):k=k':=by
 obtain ⟨d,l⟩:=k
 obtain ⟨d',l'⟩:=k'
 simp only [cV,PyData.tuple.injEq,List.cons.injEq,PyData.int.injEq,and_true] at e
 rw [e.1,pX e.2]
theorem fQ:∀ {kvs kvs':List (aS×PyData)},kvs.map (fun p=>(cV p.1,p.2))=kvs'.map (fun p=>(cV p.1,p.2))→kvs=kvs'
 | [],[],_=>rfl
 | [],_::_,e=>by simp at e
 | _::_,[],e=>by simp at e
 | (k,v)::xs,(k',v')::ys,e=>by
  rw [Ec,Ec] at e
  injection e with e1 e2
  injection e1 with e1 e3
  have e1:=sJ e1
  simp only at e1 e3
  rw [e1,e3,fQ e2]
section
variable {K:PySem.W.Frag}{M P N:Addr→Prop}{H0 H H':Hp}{E T A B:List Ent}{σ0 σ:St}{env:List Sl}{ts tt:List (V×Sl)}{v:V}{s:Sl}{d:PyData}{kvs:List (aS×PyData)}
noncomputable def Bj (K:PySem.W.Frag) (N:Addr→Prop) (H:Hp) (v:V) (kvs:List (aS×PyData)):Prop :=
 ∃ a es,v=.ref a∧H a=some (.ext (bx a es))∧DNs K N H (es.map fun p=>V.ref p.2.1) (kvs.map fun p=>cV p.1)∧DNs K N H (es.map fun p=>p.2.2) (kvs.map fun p=>p.2)∧es.map (fun p=>p.1)=kvs.map (fun p=>p.1)
theorem Bj.dctV (h:Bj K N H v kvs):Cy K H v kvs:=by
 obtain ⟨a,es,e,ha,hk,hv,ee⟩:=h
 exact ⟨a,es,e,ha,hk.dv,hv.dv,ee⟩
theorem uj {ds:List PyData} (e:fzD ds=dm kvs):False:=by
 cases kvs with
 | nil=>cases e
 | cons p kvs=>simp[fzD,dm,cV] at e
theorem DN.dct_of (h:DN K N H v d) (e:d=dm kvs):Bj K N H v kvs:=by
 cases h with
 | fz _=>exact (uj e).elim
 | @dct a es kvs' n ha hk hv ee =>
  injection e with e
  have e:=fQ e
  subst e
  exact ⟨a,es,rfl,ha,hk,hv,ee⟩
 | _=>cases e
theorem Vw.dct_of (h:Vw K N H v d) (e:d=dm kvs):Bj K N H v kvs:=by
 cases h with
 | dn h=>exact h.dct_of e
 | ow h q=>cases e
 | @dct a es kvs' ha hk hv ee =>
  injection e with e
  have e:=fQ e
  subst e
  exact ⟨a,es,rfl,ha,hk,hv,ee⟩
theorem OT.dct_of {S:List Addr} (h:OT K N H v d S) (e:d=dm kvs):∃ a es,v=.ref a∧S=[a]∧H a=some (.ext (bx a es))∧DNs K N H (es.map fun p=>V.ref p.2.1) (kvs.map fun p=>cV p.1)∧DNs K N H (es.map fun p=>p.2.2) (kvs.map fun p=>p.2)∧es.map (fun p=>p.1)=kvs.map (fun p=>p.1):=by
 cases h with
 | fz _=>exact (uj e).elim
 | @dct a es kvs' ha hk hv ee =>
  injection e with e
  have e:=fQ e
  subst e
  exact ⟨a,es,rfl,rfl,ha,hk,hv,ee⟩
 | _=>cases e
noncomputable def B9:G2:=fun d e R=>∃ k kvs,d=cV k∧e=dm kvs∧R (.bool (cK kvs k).isSome)
noncomputable def lB:G2:=fun d e R=>∃ k kvs,d=cV k∧e=dm kvs∧R (.bool (!(cK kvs k).isSome))
noncomputable def B8:G2:=fun d e R=>∃ kvs k x,d=dm kvs∧e=cV k∧cK kvs k=some x∧R x
theorem CJ:bX K (BE K) B9:=by
 rintro N H x y d e R Q w1 w2 ⟨k,kvs,rfl,rfl,hR⟩ hq
 exact ⟨k,kvs,w1.dv,(w2.dct_of rfl).dctV,hq _ _ hR (.bl _)⟩
theorem qy:bX K (kO K) lB:=by
 rintro N H x y d e R Q w1 w2 ⟨k,kvs,rfl,rfl,hR⟩ hq
 exact ⟨k,kvs,w1.dv,(w2.dct_of rfl).dctV,hq _ _ hR (.bl _)⟩
theorem zX:bX K (BC K) B8:=by
 rintro N H x y d e R Q w1 w2 ⟨kvs,k,z,rfl,rfl,hg,hR⟩ hq
 obtain ⟨a,es,rfl,ha,hk,hv,ee⟩:=w1.dct_of rfl
 refine ⟨k,a,es,kvs,rfl,w2.dv,ha,hk.dv,hv.dv,ee,by rw[hg];rfl,fun i v d hd h1 h2=>?_⟩
 rw [hg] at hd
 cases hd
 obtain ⟨z',e1,dn⟩:=hv.get h1
 rw [h2] at e1
 cases e1
 exact hq _ _ hR dn
theorem rW:∀ {es:List (aS×Addr×V)}{kvs:List (aS×PyData)} (k:aS),es.map (fun p=>p.1)=kvs.map (fun p=>p.1)→(es.any fun p=>decide (p.1=k))=(cK kvs k).isSome
 | [],[],k,_=>rfl
 | [],_::_,k,e=>by simp at e
 | _::_,[],k,e=>by simp at e
 | p::es,q::kvs,k,e=>by
  rw [Ec,Ec] at e
  injection e with e1 e2
  rw [List.any_cons,rW k e2,bD,e1]
  by_cases h:q.1=k <;> simp[h]
theorem mG:∀ {es:List (aS×Addr×V)}{kvs:List (aS×PyData)} (k:aS) (v:V) (d:PyData),es.map (fun p=>p.1)=kvs.map (fun p=>p.1)→DNs K N H (es.map fun p=>V.ref p.2.1) (kvs.map fun p=>cV p.1)→DNs K N H (es.map fun p=>p.2.2) (kvs.map fun p=>p.2)→DN K N H v d →
  (es.map fun p=>if p.1=k then (p.1,p.2.1,v) else p).map (fun p=>p.1)=(kvs.map fun p=>if p.1=k then (p.1,d) else p).map (fun p=>p.1) ∧
  DNs K N H ((es.map fun p=>if p.1=k then (p.1,p.2.1,v) else p).map fun p=>V.ref p.2.1) ((kvs.map fun p=>if p.1=k then (p.1,d) else p).map fun p=>cV p.1) ∧
  DNs K N H ((es.map fun p=>if p.1=k then (p.1,p.2.1,v) else p).map fun p=>p.2.2) ((kvs.map fun p=>if p.1=k then (p.1,d) else p).map fun p=>p.2)
 | [],[],k,v,d,_,h1,h2,_=>⟨rfl,.nil,.nil⟩
 | [],_::_,k,v,d,e,_,_,_=>by simp at e
 | _::_,[],k,v,d,e,_,_,_=>by simp at e
 | p :: es,q::kvs,k,v,d,e,h1,h2,dn=>by
  rw [Ec,Ec] at e h1 h2
  injection e with e1 e2
  cases h1 with
  | cons a1 a2 =>
   cases h2 with
   | cons b1 b2 =>
    obtain ⟨i1,i2,i3⟩:=mG k v d e2 a2 b2 dn
    simp only [Ec]
    by_cases h:q.1=k
    ·have hp:p.1=k:=e1.trans h
     simp only [h,hp,if_true]
     refine ⟨by rw[i1],.cons ?_ i2,.cons dn i3⟩
     rw [←h];exact a1
    ·have hp:¬p.1=k:=fun z=>h (e1.symm.trans z)
     simp only [h,hp,if_false]
     exact ⟨by rw[i1,e1],.cons a1 i2,.cons b1 i3⟩
theorem wO {es:List (aS×Addr×V)}{k:aS}{b:Addr} (e:es.map (fun p=>p.1)=kvs.map (fun p=>p.1)) (h1:DNs K N H (es.map fun p=>V.ref p.2.1) (kvs.map fun p=>cV p.1)) (h2:DNs K N H (es.map fun p=>p.2.2) (kvs.map fun p=>p.2)) (hb:DN K N H (.ref b) (cV k)) (dn:DN K N H v d) :
  (pU es k b v).map (fun p=>p.1)=(jc kvs k d).map (fun p=>p.1)∧DNs K N H ((pU es k b v).map fun p=>V.ref p.2.1) ((jc kvs k d).map fun p=>cV p.1)∧DNs K N H ((pU es k b v).map fun p=>p.2.2) ((jc kvs k d).map fun p=>p.2):=by
 unfold pU jc
 rw [rW k e]
 by_cases c:(cK kvs k).isSome=true
 ·rw [if_pos c,if_pos c]
  exact mG k v d e h1 h2 dn
 ·rw [if_neg c,if_neg c]
  simp only [Ei,Ec,Fy]
  exact ⟨by rw[e],h1.app (.cons hb .nil),h2.app (.cons dn .nil)⟩
theorem be.retreeR {S S' R:List Addr}{d':PyData}{a:Addr}{o:HO} (h:be K M P H0 (A++(some v,.tr S d)::B) H) (ma:a∈S) (pm:S.Perm (S'++R)) (ot':OT K (Nw M (A++(some v,.tr S d)::B)) (upd H a o) v d' S') :
  be K M P H0 (A++(some v,.tr S' d')::B) (upd H a o):=by
 obtain ⟨v',ev,ot,h0⟩:=h.tr _ _ _ (DL _ DY)
 cases ev
 have oe:oas (A++(some v,Sl.tr S d)::B)=oas A++(S++oas B):=by rw[ae,ag,aC]
 have nd:=h.nd
 rw [oe] at nd
 obtain ⟨n1,n2,n3⟩:=DZ.mp nd
 obtain ⟨n4,n5,n6⟩:=DZ.mp n2
 have na:Nw M (A++(some v,Sl.tr S d)::B) a:=.inr (by rw[oe];exact DL _ (DP _ ma))
 have kN:aE (Nw M (A++(some v,Sl.tr S d)::B)) H (upd H a o):=aE.own na
 have oe2:oas (A++(some v,Sl.tr S' d')::B)=oas A++(S'++oas B):=by rw[ae,ag,aC]
 have inS:∀ b,b∈S'→b∈S:=fun b z=>pm.mem_iff.mpr (DP _ z)
 have up:∀ b,Nw M (A++(some v,Sl.tr S' d')::B) b→Nw M (A++(some v,Sl.tr S d)::B) b:=Nw.sub fun b z=>by
  rw [oe2] at z
  rw [oe]
  rcases DQ.mp z with z|z
  ·exact DP _ z
  ·rcases DQ.mp z with z|z
   ·exact DL _ (DP _ (inS b z))
   ·exact DL _ (DL _ z)
 have upo:∀ (b:Addr) (u:HO),upd H a o b=some u→Nw M (A++(some v,Sl.tr S' d')::B) b→Nw M (A++(some v,Sl.tr S d)::B) b:=fun b _ _ z=>up b z
 have back:∀ x t,(x,t)∈A∨(x,t)∈B→(x,t)∈A++(some v,Sl.tr S d)::B:=fun x t m=>by
  rcases m with m|m
  ·exact DP _ m
  ·exact DL _ (D0 _ m)
 have old:∀ x t,(x,t)∈A++(some v,Sl.tr S' d')::B→(x,t)=(some v,Sl.tr S' d')∨((x,t)∈A∨(x,t)∈B):=fun x t m=>by
  rcases DQ.mp m with m|m
  ·exact .inr (.inl m)
  ·rcases D3.mp m with m|m
   ·exact .inl m
   ·exact .inr (.inr m)
 have other:∀ x t b,(x,t)∈A∨(x,t)∈B→b∈cr (x,t)→b≠a:=fun x t b m eo z=>by
  subst z
  rcases m with m|m
  ·exact n3 b (aP.mpr ⟨_,m,eo⟩) b (DP _ ma) rfl
  ·exact n6 b ma b (aP.mpr ⟨_,m,eo⟩) rfl
 refine ⟨h.keep.put (h0 a ma),fun b q z=>?_,h.mt,h.pm,fun x d' m=>?_,fun x d' m=>?_,fun x d' m=>?_,fun x S2 d' m=>?_,?_⟩
 ·by_cases hb:b=a
  ·subst hb;rw[ar] at z;cases z
  ·rw [ai hb] at z;exact h.live b q z
 ·rcases old _ _ m with m|m
  ·cases m
  ·obtain ⟨w',e1,dn⟩:=h.fr x d' (back _ _ m)
   exact ⟨w',e1,(dn.keep kN).to upo⟩
 ·rcases old _ _ m with m|m
  ·cases m
  ·obtain ⟨b,us2,e1,e2,dn,r2⟩:=h.ow x d' (back _ _ m)
   subst e1
   exact ⟨b,us2,rfl,by rw[ai (other _ _ b m (DM.mpr rfl))];exact e2,(dn.keep kN).to upo,r2⟩
 ·rcases old _ _ m with m|m
  ·cases m
  ·obtain ⟨b,us2,e1,e2,dn,r2⟩:=h.io x d' (back _ _ m)
   subst e1
   exact ⟨b,us2,rfl,by rw[ai (other _ _ b m (DM.mpr rfl))];exact e2,(dn.keep kN).to upo,r2⟩
 ·rcases old _ _ m with m|m
  ·cases m
   exact ⟨v,rfl,ot'.to upo,fun b hb=>h0 b (inS b hb)⟩
  ·obtain ⟨w',e1,dn,r2⟩:=h.tr x S2 d' (back _ _ m)
   subst e1
   exact ⟨w',rfl,(dn.keep kN fun b hb=>ai (other _ _ b m (by rw[aC];exact hb))).to upo,r2⟩
 ·rw [oe2]
  have nd':(oas A++((S'++R)++oas B)).Nodup:=(List.Perm.append_left _ (List.Perm.append_right _ pm)).nodup_iff.mp nd
  refine nd'.sublist (List.Sublist.append_left (List.Sublist.append_right ?_ _) _)
  exact List.sublist_append_left _ _
theorem Rel.retreeT {i:Nat}{S S' R:List Addr}{d':PyData}{a:Addr}{o:HO} (h:Rel K M P H0 σ0 σ env ts H) (e:env[i]? = some (.tr S d)) (ev:σ[i]? = some (some v)) (ma:a∈S) (pm:S.Perm (S'++R)) (ot':OT K (Nw M (ay σ env ts)) (upd H a o) v d' S') :
  Rel K M P H0 σ0 σ (env.set i (.tr S' d')) ts (upd H a o):=by
 obtain ⟨x,A,B,e1,q1,q2⟩:=h.split e
 rw [ev] at e1
 cases e1
 have r:=h.e
 rw [q1] at r ot'
 refine ⟨by rw[q2];exact r.retreeR ma pm ot',by simp[h.len],h.vw,fun j ds'' e'=>?_⟩
 by_cases hj:i=j
 ·subst hj
  have hi:i<env.length:=(DX.mp e).1
  rw [Eg hi] at e'
  cases e'
 ·rw [Ef hj] at e'
  exact h.ios j ds'' e'
theorem Rel.dct {i:Nat}{S:List Addr} (h:Rel K M P H0 σ0 σ env ts H) (e:env[i]? = some (.tr S (dm kvs))):∃ a es,σ[i]? = some (some (.ref a))∧S=[a]∧H a=some (.ext (bx a es))∧DNs K (Nw M (ay σ env ts)) H (es.map fun p=>V.ref p.2.1) (kvs.map fun p=>cV p.1) ∧
  DNs K (Nw M (ay σ env ts)) H (es.map fun p=>p.2.2) (kvs.map fun p=>p.2)∧es.map (fun p=>p.1)=kvs.map (fun p=>p.1):=by
 obtain ⟨x,e1,m⟩:=h.slot e
 obtain ⟨v,ev,ot,_⟩:=h.e.tr _ _ _ m
 obtain ⟨a,es,rfl,eS,ha,hk,hv,ee⟩:=ot.dct_of rfl
 exact ⟨a,es,by rw[e1,ev],eS,ha,hk,hv,ee⟩
end
section
variable {X:Cx}{K:PySem.W.Frag}{pos:Pos}{e:Expr}{te tj:DE}
theorem CK (hK:X.K=K) (hu:X.A.units+2<cLine):OpR X (compareOp .In) (BE K):=by subst hK;exact zQ hu
theorem qO (hK:X.K=K) (hu:X.A.units+2<cLine):OpR X (compareOp .NotIn) (kO K):=by subst hK;exact qp hu
theorem Ai (hK:X.K=K) (hu:X.A.units+2<cLine):IxR X (BC K):=by subst hK;exact Dn hu
theorem hu2 {k:Nat}{A:Around} (hr:ca k A):A.units+2<cLine:=Fw (Nat.add_le_add_left (by decide:2≤64) _) hr.units
noncomputable def yh (i:Nat) (tj te:DE):DS:=fun DD env=>te env fun s1 env1=>(∃ S kvs,env1[i]? = some (.tr S (dm kvs)))∧tj env1 fun s2 env2=>∃ (S:List Addr) (kvs:List (aS×PyData)) (k:aS) (d:PyData),
 env2[i]? = some (.tr S (dm kvs))∧aD env2 s2=some (cV k)∧aD env2 s1=some d∧kvs.length<sizeLine∧DD.nx (env2.set i (.tr S (dm (jc kvs k d))))
theorem mE (i:Nat) {y:Str}{npos spos:Pos}{j:Expr} (hK:X.K=K) (hu:X.A.units+2<cLine) (hN:X.N[i]? = some y) (hj:PE X j (up K tj)) (he:PE X e (up K te))
  (hv:Vis X.env.scope y:=by first|exact Or.inl rfl|exact Or.inr (Or.inl rfl)|exact Or.inr (Or.inr rfl)) (hd:(y==("__debug__" : Str))=false:=by decide)
  (hcd:(y==("__classdict__" : Str))=false:=by decide)
  (ha:∀ v,assign (.Subscript (.Name y npos) j spos) X.env v=(do
   let ov ←holding [v] (eval (.Name y npos) X.env)
   let iv ←holding [v,ov] (eval j X.env)
   standAt spos
   holding [v,ov,iv] (setItem ov iv v)
   release [v,ov,iv] []):=by intro _;rfl)
  (hs:swapsWithSole [.Subscript (.Name y npos) j spos] e pos.line X.env=pure false:=by rfl) (hw:swappedStores [.Subscript (.Name y npos) j spos] e X.env=pure none:=by rfl)
  (h1:(assignEach [.Subscript (.Name y npos) j spos] X.env).map (·.2)=[assign (.Subscript (.Name y npos) j spos) X.env]:=by rfl):PS X (.Assign [.Subscript (.Name y npos) j spos] e pos) (upS K (yh i tj te)):=by
 subst hK
 refine (vh he (vi (c8 hN hv hd hcd) hj (Bx hu) ha) hs hw h1).imp fun D σ H h=>?_
 obtain ⟨M,P,H0,σ0,env,ts,DD,nv,rel,ht,ok⟩:=h
 refine ⟨M,P,H0,σ0,env,ts,_,rel,ht,fun s1 env1 v1 H1 h1 rel1=>?_⟩
 obtain ⟨⟨S0,kvs0,e0⟩,h1⟩:=h1
 obtain ⟨a,_,ea,_⟩:=rel1.dct e0
 refine ⟨.ref a,ea,M,P,H0,σ0,env1,ts++[(v1,s1)],_,rel1,h1,fun s2 env2 v2 H2 h2 rel2=>?_⟩
 obtain ⟨S,kvs,k,d,e2,ek,ed,hl,hR⟩:=h2
 have rel2':Rel X.K M P H0 σ0 σ env2 (ts++[(v1,s1),(v2,s2)]) H2:=by simpa using rel2
 have dn1:=rel2'.kept (v:=v1) (s:=s1) (by simp) ed
 have dn2:=rel2'.kept (v:=v2) (s:=s2) (by simp) ek
 obtain ⟨a',es,ea',eS,hH,hk,hv,ee⟩:=rel2'.drop.dct e2
 rw [ea] at ea'
 cases ea'
 obtain ⟨b,xs,rfl,_,_⟩:=dn2.tuple
 have hlen:es.length=kvs.length:=by have:=congrArg List.length ee;simpa using this
 refine ⟨k,a,b,es,kvs,rfl,rfl,dn2.dv,hH,hk.dv,ee,by omega,ok.nx _ _ _ hR ?_⟩
 obtain ⟨p1,p2,p3⟩:=wO (b:=b) (k:=k) ee hk hv dn2 dn1
 have na:Nw M (ay σ env2 ts) a:=by
  obtain ⟨x,A,B,e1,q1,q2⟩:=rel2'.drop.split e2
  refine .inr ?_
  rw [q1,ae,ag]
  rw [ea] at e1
  cases e1
  rw [aC,eS]
  simp
 have kN:aE (Nw M (ay σ env2 ts)) H2 (upd H2 a (.ext (bx a (pU es k b v1)))):=aE.own na
 refine rel2'.drop.retreeT (R:=[]) e2 ea (by rw[eS];simp) (by simp) ?_
 rw [eS]
 exact .dct ar (p2.keep kN) (p3.keep kN) p1
end
section
variable {K:PySem.W.Frag}{M P N:Addr→Prop}{H0 H H':Hp}{E T A B:List Ent}{σ0 σ:St}{env:List Sl}{ts tt:List (V×Sl)}{v:V}{s:Sl}{d:PyData}{kvs:List (aS×PyData)}
theorem be.addD (h:be K M P H0 E H) {p:Addr} (hp:H p=none):be K M P H0 (E++[(some (.ref p),.tr [p] (dm []))]) (upd H p (.ext (bx p []))):=by
 have oe:oas (E++[(some (.ref p),Sl.tr [p] (dm []))])=oas E++[p]:=by
  rw [ae]
  rfl
 have np:p ∉ oas E:=fun z=>by
  obtain ⟨vs',q,_⟩:=h.own z
  rw [hp] at q
  cases q
 have h0:H0 p=none:=by
  cases e:H0 p with
  | none=>rfl
  | some o=>exact absurd hp (h.live p (by rw[e];simp))
 have up:∀ b o,H b=some o→Nw M (E++[(some (.ref p),Sl.tr [p] (dm []))]) b→Nw M E b:=fun b o e z=>by
  rcases z with z|z
  ·exact .inl z
  ·rw [oe] at z
   rcases DQ.mp z with z|z
   ·exact .inr z
   ·rw [DM.mp z,hp] at e
    cases e
 have h':=h.same (aO.new (o:=.ext (bx p [])) hp)
 refine ⟨h'.keep,h'.live,h.mt,h.pm,fun x d' m=>?_,fun x d' m=>?_,fun x d' m=>?_,fun x S d' m=>?_,?_⟩
 ·rcases DQ.mp m with m|m
  ·obtain ⟨v,e,dn⟩:=h.fr x d' m
   exact ⟨v,e,(dn.to up).keep (aE.same (aO.new hp))⟩
  ·rw [DM] at m
   cases m
 ·rcases DQ.mp m with m|m
  ·obtain ⟨a,ws,e,e2,dn,r⟩:=h.ow x d' m
   exact ⟨a,ws,e,aO.new hp _ _ e2,(dn.to up).keep (aE.same (aO.new hp)),r⟩
  ·rw [DM] at m
   cases m
 ·rcases DQ.mp m with m|m
  ·obtain ⟨a,ws,e,e2,dn,r⟩:=h.io x d' m
   exact ⟨a,ws,e,aO.new hp _ _ e2,(dn.to up).keep (aE.same (aO.new hp)),r⟩
  ·rw [DM] at m
   cases m
 ·rcases DQ.mp m with m|m
  ·obtain ⟨v,e,dn,r⟩:=h.tr x S d' m
   exact ⟨v,e,(dn.to up).keep (aE.same (aO.new hp)) fun a ha=>by
    obtain ⟨xs,z⟩:=dn.lives a ha
    rw [aO.new hp _ _ z,z],r⟩
  ·rw [DM] at m
   cases m
   exact ⟨_,rfl,.dct (es:=[]) (kvs:=[]) ar .nil .nil rfl,fun a ha=>by rw[DM.mp ha];exact h0⟩
 ·rw [oe]
  exact DZ.mpr ⟨h.nd,by simp,fun a ha b hb=>by rw[DM.mp hb];exact fun z=>np (z▸ha)⟩
theorem Rel.addD (h:Rel K M P H0 σ0 σ env ts H) {p:Addr} (hp:H p=none):Rel K M P H0 σ0 σ env (ts++[(.ref p,.tr [p] (dm []))]) (upd H p (.ext (bx p []))):=h.withRes (h.e.addD hp) rfl
end
section
variable {X:Cx}{K:PySem.W.Frag}{pos:Pos}{e1 e2:Expr}{tk tv:DE}
noncomputable def yp:DE:=fun env R=>∀ S,R (.tr S (dm [])) env
theorem ve:PE X (.Dict [] [] pos) (up K yp):=xf.imp fun σ H Q h=>by
 obtain ⟨M,P,H0,σ0,env,ts,R,rel,ht,hq⟩:=h
 exact fun p hp=>hq _ _ _ _ (ht _) (rel.addD hp)
noncomputable def yo (tk tv:DE):DE:=fun env R=>tk env fun s1 env1=>tv env1 fun s2 env2=>∃ (k:aS) (d:PyData),aD env2 s1=some (cV k)∧aD env2 s2=some d∧∀ S,R (.tr S (dm [(k,d)])) env2
theorem zr (hK:X.K=K) (hu:X.A.units+2<cLine) (hk:PE X e1 (up K tk)) (hv:PE X e2 (up K tv)):PE X (.Dict [some e1] [e2] pos) (up K (yo tk tv)):=by
 subst hK
 refine (xc (Fw (EO _) hu) hk hv).imp fun σ H Q h=>?_
 obtain ⟨M,P,H0,σ0,env,ts,R,rel,ht,hq⟩:=h
 intro p hp
 refine ⟨M,P,H0,σ0,env,_,_,rel.addD hp,ht,fun s1 env1 v1 H1 h1 rel1=>⟨M,P,H0,σ0,env1,_,_,rel1,h1,fun s2 env2 v2 H2 h2 rel2=>?_⟩⟩
 obtain ⟨k,d,ek,ed,hR⟩:=h2
 have rel2':Rel X.K M P H0 σ0 σ env2 ((ts++[(.ref p,.tr [p] (dm []))])++[(v1,s1),(v2,s2)]) H2:=by simpa using rel2
 have dn1:=rel2'.kept (v:=v1) (s:=s1) (by simp) ek
 have dn2:=rel2'.kept (v:=v2) (s:=s2) (by simp) ed
 have rel3:=rel2'.drop
 have hE:=rel3.e
 rw [ax] at hE dn1 dn2
 obtain ⟨v',ev,ot,h0⟩:=hE.tr _ _ _ (DL _ DY)
 obtain ⟨a,es,ev2,eS,hH,hk2,hv2,ee⟩:=ot.dct_of (kvs:=[]) rfl
 rw [ev2] at ev
 cases ev
 have ees:es=[]:=by simpa using ee
 subst ees
 obtain ⟨b,xs,rfl,_,_⟩:=dn1.tuple
 refine ⟨k,b,rfl,dn1.dv,hH,hq _ _ _ _ (hR [p]) ?_⟩
 have na:Nw M (ay σ env2 ts++tmp [(V.ref p,Sl.tr [p] (dm []))]) p:=.inr (by rw[ae];exact DL _ (aP.mpr ⟨_,DM.mpr rfl,DM.mpr rfl⟩))
 have kN:aE (Nw M (ay σ env2 ts++tmp [(V.ref p,Sl.tr [p] (dm []))])) H2 (upd H2 p (.ext (bx p [(k,b,v2)]))):=aE.own na
 refine rel3.drop.withRes ?_ rfl
 refine be.retreeR (B:=[]) (R:=[]) (S:=[p]) hE (by simp) (by simp) ?_
 exact .dct (es:=[(k,b,v2)]) (kvs:=[(k,d)]) ar ((DNs.cons dn1 .nil).keep kN) ((DNs.cons dn2 .nil).keep kN) rfl
end
noncomputable abbrev wD (w:List (List Int)):PyData:=.list (w.map fun r=>fzD (r.map .int))
noncomputable abbrev fw (W:List (List (List Int))):PyData:=.list (W.map wD)
section
variable {K:PySem.W.Frag}{M P N:Addr→Prop}{H0 H H':Hp}{E T A B:List Ent}{σ0 σ:St}{env:List Sl}{ts tt:List (V×Sl)}{v:V}{s:Sl}{d:PyData}
theorem OT.unfz {S:List Addr}{ds:List PyData} (h:OT K N H v d S) (e:d=fzD ds):DN K N H v (.list ds)∧S=[]:=by
 cases h with
 | @fz _ ds' h =>
  simp only [fzD,PyData.dict.injEq,List.cons.injEq,Prod.mk.injEq,PyData.list.injEq,and_true,true_and] at e
  subst e
  exact ⟨h,rfl⟩
 | dct _ _ _ _=>exact (uj e.symm).elim
 | _=>cases e
theorem DN.unfz {ds:List PyData} (h:DN K N H v d) (e:d=fzD ds):DN K N H v (.list ds):=by
 cases h with
 | @fz _ ds' h =>
  simp only [fzD,PyData.dict.injEq,List.cons.injEq,Prod.mk.injEq,PyData.list.injEq,and_true,true_and] at e
  subst e
  exact h
 | dct _ _ _ _ _=>exact (uj e.symm).elim
 | _=>cases e
theorem vI:∀ w:List (List Int),fzs (w.map fun r=>PyData.list (r.map .int))=some (w.map fun r=>fzD (r.map .int))
 | []=>rfl
 | r::w=>by
  show (fzs (w.map fun r=>PyData.list (r.map .int))).map (fzD (r.map .int)::·)=_
  rw [vI w]
  rfl
theorem lZ (w:List (List Int)):gN env (.ow (w.map fun r=>PyData.list (r.map .int)))=some (wD w):=by
 show (if ll _=true then _ else _)=_
 rw [vI]
 cases w with
 | nil=>rfl
 | cons r w =>
  rw [if_neg (by simp[ll,noL])]
  rfl
theorem OTs.row:∀ {w:List (List Int)}{us:List V}{S:List Addr},OTs K N H us (w.map fun r=>fzD (r.map .int)) S→S=[]∧DNs K N H us (w.map fun r=>PyData.list (r.map .int))
 | [],_,_,h=>by cases h;exact⟨rfl,.nil⟩
 | r :: w,_,_,h=>by
  rw [Ec] at h
  cases h with
  | cons h q =>
   obtain ⟨e1,e2⟩:=OTs.row q
   obtain ⟨d1,d2⟩:=h.unfz rfl
   subst e1 d2
   exact ⟨rfl,.cons d1 e2⟩
theorem DNs.row:∀ {w:List (List Int)}{us:List V},DNs K N H us (w.map fun r=>PyData.list (r.map .int))→OTs K N H us (w.map fun r=>fzD (r.map .int)) []
 | [],_,h=>by cases h;exact .nil
 | r::w,_,h=>by
  rw [Ec] at h
  cases h with
  | cons h q=>exact .cons (S:=[]) (S':=[]) (.fz h) (DNs.row q)
theorem OTs.last:∀ {W:List (List (List Int))}{w:List (List Int)}{vs:List V}{S:List Addr},OTs K N H vs ((W++[w]).map wD) S →
  ∃ vs' S' b us,vs=vs'++[.ref b]∧S=S'++[b]∧OTs K N H vs' (W.map wD) S'∧H b=some (.lst us)∧DNs K N H us (w.map fun r=>PyData.list (r.map .int))
 | [],w,_,_,h=>by
  rw [List.nil_append,Ec,Fy] at h
  cases h with
  | cons h q =>
   cases q
   cases h with
   | @lst b us _ S hb qb =>
    obtain ⟨e1,e2⟩:=qb.row
    subst e1
    exact ⟨[],[],b,us,rfl,by simp,.nil,hb,e2⟩
 | w0::W,w,_,_,h=>by
  rw [List.cons_append,Ec] at h
  cases h with
  | @cons x xs _ _ S1 S2 h q =>
   obtain ⟨vs',S',b,us,e1,e2,q',hb,dn⟩:=OTs.last q
   subst e1 e2
   exact ⟨x::vs',S1++S',b,us,rfl,by simp,.cons h q',hb,dn⟩
theorem OTs.snoc {W:List (List (List Int))}{w:List (List Int)}{vs:List V}{S:List Addr}{b:Addr}{us:List V} (q:OTs K N H vs (W.map wD) S) (hb:H b=some (.lst us)) (dn:DNs K N H us (w.map fun r=>PyData.list (r.map .int))) :
  OTs K N H (vs++[.ref b]) ((W++[w]).map wD) (S++[b]):=by
 rw [Ei]
 refine q.app ?_
 have:=OTs.cons (OT.lst hb dn.row) (OTs.nil (K:=K) (N:=N) (H:=H))
 simpa using this
theorem Rel.ways {i:Nat}{S:List Addr}{W:List (List (List Int))}{w:List (List Int)} (h:Rel K M P H0 σ0 σ env ts H) (e:env[i]? = some (.tr S (fw (W++[w])))) :
  ∃ a vs S' b us,σ[i]? = some (some (.ref a))∧S=a::(S'++[b])∧S.Nodup∧(∀ c∈S,Nw M (ay σ env ts) c)∧H a=some (.lst (vs++[.ref b]))∧OTs K (Nw M (ay σ env ts)) H vs (W.map wD) S'∧H b=some (.lst us)∧DNs K (Nw M (ay σ env ts)) H us (w.map fun r=>PyData.list (r.map .int)):=by
 obtain ⟨x,A,B,e1,q1,q2⟩:=h.split e
 obtain ⟨x',e1',m⟩:=h.slot e
 obtain ⟨v,ev,ot,_⟩:=h.e.tr _ _ _ m
 rw [e1] at e1'
 cases e1'
 subst ev
 cases ot with
 | @lst a us0 _ S0 ha q =>
  obtain ⟨vs',S',b,us,rfl,rfl,q',hb,dn⟩:=OTs.last q
  have oe:oas (ay σ env ts)=oas A++((a::(S'++[b]))++oas B):=by rw[q1,ae,ag,aC]
  have nd:=h.e.nd
  rw [oe] at nd
  refine ⟨a,vs',S',b,us,e1,rfl,(DZ.mp (DZ.mp nd).2.1).1,fun c hc=>.inr ?_,ha,q',hb,dn⟩
  rw [oe]
  exact DL _ (DP _ hc)
noncomputable def B7:G2:=fun d e R=>∃ ds i x,dL d=some ds∧e=.int i∧atI ds i=some (fzD x)∧R (.list x)
theorem Dg:bX K (BD K) B7:=by
 rintro N H x y d e R Q w1 w2 ⟨ds,i,z,e1,rfl,e2,hR⟩ hq
 obtain ⟨a,vs,rfl,s,q⟩:=w1.seq e1
 obtain ⟨u,e3,dn⟩:=q.atI e2
 rcases s with s|s
 ·exact .inl ⟨a,vs,i,u,rfl,w2.int,s,e3,hq _ _ hR (dn.unfz rfl)⟩
 ·exact .inr ⟨a,vs,i,u,rfl,w2.int,s,e3,hq _ _ hR (dn.unfz rfl)⟩
theorem cT {α:Type} (xs:List α) (v:α):atI (xs++[v]) (-1)=some v:=by
 unfold atI ixN
 rw [if_neg (by decide),if_pos (by rw[El];simp;omega)]
 show (xs++[v])[(-1+((xs++[v]).length:Int)).toNat]? = some v
 rw [show (-1+((xs++[v]).length:Int)).toNat=xs.length by rw[El];simp;omega]
 simp
end
section
variable {X:Cx}{K:PySem.W.Frag}{pos npos:Pos}{y:Str}{j j2:Nat}{p3 p4 p5 p6 p7 apos cpos:Pos}
noncomputable def lD (i:Nat):DT:=fun env R=>∃ (S:List Addr) (W:List (List (List Int))) (w:List (List Int)),env[i]? = some (.tr S (fw (W++[w])))∧R (!w.isEmpty) env
theorem pM (i:Nat) (hK:X.K=K) (hN:X.N[i]? = some y) (hv:Vis X.env.scope y:=by first|exact Or.inl rfl|exact Or.inr (Or.inl rfl)|exact Or.inr (Or.inr rfl)) (hd:(y==("__debug__" : Str))=false:=by decide)
  (hcd:(y==("__classdict__" : Str))=false:=by decide) (hp:eV (.UnaryOp .USub (.Constant (.int 1) j p3) p4):=by intro _ _;rfl)
  (he:∀ whole,isTrue (.Subscript (.Name y npos) (.UnaryOp .USub (.Constant (.int 1) j p3) p4) pos) X.env whole=(do let v ←whole;standAt (Expr.pos (.Subscript (.Name y npos) (.UnaryOp .USub (.Constant (.int 1) j p3) p4) pos));holding [v] (truthy v)):=by intro _;rfl) :
  PT X (.Subscript (.Name y npos) (.UnaryOp .USub (.Constant (.int 1) j p3) p4) pos) (upT K (lD i)) :=
 (vx (K:=K) hK (qc (ak hK) (c8 hN hv hd hcd) kY hp) he).imp fun σ H Q h=>by
 obtain ⟨M,P,H0,σ0,env,ts,R,rel,⟨S,W,w,e,hR⟩,hq⟩:=h
 obtain ⟨a,vs,S',b,us,ea,_,_,_,ha,_,hb,dn⟩:=rel.ways e
 refine ⟨.ref a,ea,.inl ⟨a,_,-1,.ref b,rfl,rfl,SqL.of ha,cT _ _,_,.inl ⟨us,SqL.of hb,?_⟩,hq _ _ _ hR rel⟩⟩
 have:=dn.len
 cases us with
 | nil=>cases w with
  | nil=>rfl
  | cons r w=>simp at this
 | cons u us=>cases w with
  | nil=>simp at this
  | cons r w=>rfl
noncomputable def rB (i:Nat):DE:=fun env R=>∃ (S:List Addr) (W:List (List (List Int))) (r:List Int) (w:List (List Int)),env[i]? = some (.tr S (fw (W++[r::w])))∧R (.fr (.list (r.map .int))) env
theorem wI (i:Nat) (hK:X.K=K) (hN:X.N[i]? = some y) (hv:Vis X.env.scope y:=by first|exact Or.inl rfl|exact Or.inr (Or.inl rfl)|exact Or.inr (Or.inr rfl)) (hd:(y==("__debug__" : Str))=false:=by decide)
  (hcd:(y==("__classdict__" : Str))=false:=by decide) (hp:eV (.UnaryOp .USub (.Constant (.int 1) j p3) p4):=by intro _ _;rfl) (hp0:eV (.Constant (.int 0) j2 p5):=by intro _ _;rfl) :
  PE X (.Subscript (.Subscript (.Name y npos) (.UnaryOp .USub (.Constant (.int 1) j p3) p4) pos) (.Constant (.int 0) j2 p5) p6) (up K (rB i)) :=
 (qc (ak hK) (qc (ak hK) (c8 hN hv hd hcd) kY hp) mJ hp0).imp fun σ H Q h=>by
 obtain ⟨M,P,H0,σ0,env,ts,R,rel,⟨S,W,r,w,e,hR⟩,hq⟩:=h
 obtain ⟨a,vs,S',b,us,ea,_,_,_,ha,_,hb,dn⟩:=rel.ways e
 rw [Ec] at dn
 cases dn with
 | @cons u us _ _ dn1 dn2 =>
  exact ⟨.ref a,ea,.inl ⟨a,_,-1,.ref b,rfl,rfl,SqL.of ha,cT _ _,.inl ⟨b,_,0,u,rfl,rfl,SqL.of hb,by simp[atI,ixN],hq _ _ _ _ hR (rel.addFr dn1)⟩⟩⟩
noncomputable def rA (i:Nat):DE:=fun env R=>∃ (S:List Addr) (W:List (List (List Int))) (r:List Int) (w:List (List Int)),env[i]? = some (.tr S (fw (W++[r::w])))∧R (.fr (.list (r.map .int))) (env.set i (.tr S (fw (W++[w]))))
theorem wG (i:Nat) (hK:X.K=K) (hN:X.N[i]? = some y) (hv:Vis X.env.scope y:=by first|exact Or.inl rfl|exact Or.inr (Or.inl rfl)|exact Or.inr (Or.inr rfl)) (hd:(y==("__debug__" : Str))=false:=by decide)
  (hcd:(y==("__classdict__" : Str))=false:=by decide) (hp:eV (.UnaryOp .USub (.Constant (.int 1) j p3) p4):=by intro _ _;rfl)
  (hs0:starEach [.Constant (.int 0) j2 p5] X.env=[(false,eval (.Constant (.int 0) j2 p5) X.env)]:=by rfl)
  (hbase:attributeBase (.Subscript (.Name y npos) (.UnaryOp .USub (.Constant (.int 1) j p3) p4) pos) "pop" X.env (eval (.Subscript (.Name y npos) (.UnaryOp .USub (.Constant (.int 1) j p3) p4) pos) X.env)=eval (.Subscript (.Name y npos) (.UnaryOp .USub (.Constant (.int 1) j p3) p4) pos) X.env:=by rfl)
  (hfew:((backTo cpos (starEach [.Constant (.int 0) j2 p5] X.env)).all (fun x=>!x.1)&&(backToKw cpos (keywordEach [] X.env)).all (fun x=>x.1.isSome)&&decide ([Expr.Constant (.int 0) j2 p5].length+([]:List Keyword).length+(if ([]:List Keyword).isEmpty then 0 else 1)<30))=true:=by rfl)
  (hline:(apos.endLine==cpos.line)=true:=by rfl) (hplain:(backTo cpos (starEach [] X.env)).any (·.1)=false:=by rfl) :
  PE X (.Call (.Attribute (.Subscript (.Name y npos) (.UnaryOp .USub (.Constant (.int 1) j p3) p4) pos) "pop" apos) [.Constant (.int 0) j2 p5] [] cpos) (up K (rA i)) :=
 (kBm (K:=K) hK PySem.F.plainAttrs_list PySem.F.slot_list_pop PySem.F.type_list_pop tG (qc (ak hK) (c8 hN hv hd hcd) kY hp) (eJ mJ jy hs0) hbase hfew hline hs0 hplain).imp fun σ H Q h=>by
 obtain ⟨M,P,H0,σ0,env,ts,R,rel,⟨S,W,r,w,e,hR⟩,hq⟩:=h
 obtain ⟨a,vs,S',b,us,ea,eS,ndS,hNw,ha,q,hb,dn⟩:=rel.ways e
 rw [Ec] at dn
 cases dn with
 | @cons u us _ _ dn1 dn2 =>
  refine ⟨.ref a,ea,.inl ⟨a,_,-1,.ref b,rfl,rfl,SqL.of ha,cT _ _,.inl ⟨rfl,_,SqL.of hb⟩,b,_,0,0,u,rfl,rfl,hb,by decide,by decide,by simp[seqIndex?],rfl,hq _ _ _ _ hR ?_⟩⟩
  have mb:b∈S:=by rw[eS];simp
  have kN:aE (Nw M (ay σ env ts)) H (upd H b (.lst us)):=aE.own (hNw b mb)
  subst eS
  obtain ⟨n1,n2⟩:=Ej.mp ndS
  obtain ⟨n3,n4,n5⟩:=DZ.mp n2
  have nab:a≠b:=fun z=>n1 (by rw[z];simp)
  refine Rel.addFr (rel.retreeT (R:=[]) e ea mb (by simp) ?_) ?_
  ·refine .lst (by rw[ai nab];exact ha) ?_
   refine OTs.snoc (q.keep kN fun c hc=>ai fun z=>n5 c hc b (by simp) z) ar (dn2.keep kN)
  ·have oe:ay σ (env.set i (.tr (a::(S'++[b])) (fw (W++[w])))) ts=ay σ (env.set i (.tr (a::(S'++[b])) (fw (W++[w])))) ts:=rfl
   obtain ⟨x,A,B,e1,q1,q2⟩:=rel.split e
   refine (dn1.keep kN).to fun c o _ z=>?_
   rw [q2] at z
   rw [q1]
   rcases z with z|z
   ·exact .inl z
   ·refine .inr ?_
    rw [ea] at e1
    cases e1
    rw [ae,ag,aC] at z ⊢
    exact z
noncomputable def yj (i:Nat):DE:=fun env R=>∃ (S:List Addr) (W:List (List (List Int))) (w:List (List Int)),env[i]? = some (.tr S (fw (W++[w])))∧∀ S',R .un (env.set i (.tr S' (fw W)))
theorem zn (i:Nat) (hK:X.K=K) (hN:X.N[i]? = some y) (hv:Vis X.env.scope y:=by first|exact Or.inl rfl|exact Or.inr (Or.inl rfl)|exact Or.inr (Or.inr rfl)) (hd:(y==("__debug__" : Str))=false:=by decide)
  (hcd:(y==("__classdict__" : Str))=false:=by decide)
  (hbase:attributeBase (.Name y npos) "pop" X.env (eval (.Name y npos) X.env)=eval (.Name y npos) X.env:=by rfl) (hline:(apos.endLine==cpos.line)=true:=by rfl) :
  PE X (.Call (.Attribute (.Name y npos) "pop" apos) [] [] cpos) (up K (yj i)) :=
 (CM (K:=K) hK PySem.F.plainAttrs_list PySem.F.slot_list_pop PySem.F.type_list_pop vk (c8 hN hv hd hcd) hbase hline).imp fun σ H Q h=>by
 obtain ⟨M,P,H0,σ0,env,ts,R,rel,⟨S,W,w,e,hR⟩,hq⟩:=h
 obtain ⟨a,vs,S',b,us,ea,eS,ndS,hNw,ha,q,hb,dn⟩:=rel.ways e
 subst eS
 refine ⟨.ref a,ea,.inl ⟨rfl,_,SqL.of ha⟩,a,_,.ref b,rfl,rfl,ha,by simp,hq _ _ _ _ (hR (a::S')) ?_⟩
 have ma:a∈a::(S'++[b]):=DY
 have kN:aE (Nw M (ay σ env ts)) H (upd H a (.lst vs)):=aE.own (hNw a ma)
 obtain ⟨n1,n2⟩:=Ej.mp ndS
 rw [List.dropLast_concat]
 have r2:=rel.retreeT (o:=.lst vs) (S':=a::S') (R:=[b]) (d':=fw W) e ea ma (by simp) (.lst ar (q.keep kN fun c hc=>ai fun z=>n1 (by rw[←z];simp[hc])))
 have re:be K M P H0 (ay σ (env.set i (.tr (a::S') (fw W))) ts++tmp [(V.ref b,Sl.un)]) (upd H a (.lst vs)):=by
  refine r2.e.sub (fun x t m=>?_) ?_
  ·rcases DQ.mp m with m|m
   ·exact .inl m
   ·have m:=DM.mp m
    injection m with m1 m2
    exact .inr (.inl m2)
  ·rw [ae]
   show (oas _++oas [(some (.ref b),Sl.un)]).Nodup
   rw [show oas [((some (.ref b),Sl.un):Ent)]=[] from rfl,Eh]
   exact r2.e.nd
 refine ⟨by rw[ax];exact re,r2.len,fun w i m=>?_,r2.ios⟩
 rcases DQ.mp m with m|m
 ·exact r2.vw w i m
 ·rw [DM] at m
  cases m
end
end L2
namespace L2
open PySem PySem.Spec PyProof.Rows PySem.W
theorem bU {α β:Type}{lt:Nat→Nat→Bool}{f:α→KasT β}:∀ t:KasT α,aq lt (t.bind f)=aq lt (f (aq lt t))
 | .ret a=>rfl
 | .ask i j k=>bU (k (lt i j))
theorem oG {α:Type}{lt:Nat→Nat→Bool}{i j:Nat}{k:Bool→KasT α}:aq lt (.ask i j k)=aq lt (k (lt i j)):=rfl
noncomputable def gA (p:Array Nat) (k:Nat):Nat:=p.getD k 0
theorem fj {p:Array Nat}{i j:Nat} (hj:j≤p.size) (k:Nat):gA (kas_rev p i j) k=if i≤k∧k<j then gA p (i+j - 1 - k) else gA p k:=by
 unfold gA kas_rev
 rw [Array.getD_eq_getD_getElem?,getElem?_mirror_all hj]
 split <;> rw[Array.getD_eq_getD_getElem?]
theorem vH {p:Array Nat}{src d:Nat} (hs:src<p.size) (hd:d≤src) (k:Nat):gA (bubble p src d) k=if k=src - d then gA p src else if src - d<k∧k≤src then gA p (k - 1) else gA p k:=by
 unfold gA
 rw [Array.getD_eq_getD_getElem?,getElem?_bubble hs d hd]
 by_cases c1:k=src - d
 ·rw [if_pos c1,if_pos c1,←Array.getD_eq_getD_getElem?]
 ·rw [if_neg c1,if_neg c1]
  by_cases c2:src - d<k∧k≤src
  ·rw [if_pos c2,if_pos c2,←Array.getD_eq_getD_getElem?]
  ·rw [if_neg c2,if_neg c2,←Array.getD_eq_getD_getElem?]
theorem cX (p:Array Nat) (i j:Nat):(kas_rev p i j).size=p.size:=mirror_size _ _ _ _
section
variable {lt:Nat→Nat→Bool} (as:∀ a b,lt a b=true→lt b a=false) (tr:∀ a b c,lt a b=false→lt b c=false→lt a c=false)
noncomputable def iz (lt:Nat→Nat→Bool) (p:Array Nat) (n:Nat):Prop:=∀ i,1≤i→i<n→lt (gA p i) (gA p (i - 1))=false
noncomputable def eH (lt:Nat→Nat→Bool) (p:Array Nat) (n:Nat):Prop:=∀ i,1≤i→i<n→lt (gA p (i - 1)) (gA p i)=false
include as tr
theorem vm (a:Nat):lt a a=false:=by
 cases e:lt a a with
 | false=>rfl
 | true=>have:=as a a e;rw[e] at this;cases this
theorem iz.far {p:Array Nat}{n:Nat} (h:iz lt p n):∀ d a,a+d<n→lt (gA p (a+d)) (gA p a)=false
 | 0,a,_=>vm as tr _
 | d+1,a,hd=>by
  have h1:=h (a+(d+1)) (by omega) hd
  rw [show a+(d+1) - 1=a+d by omega] at h1
  exact tr _ _ _ h1 (iz.far h d a (by omega))
theorem iz.le {p:Array Nat}{n:Nat} (h:iz lt p n) {a b:Nat} (hab:a≤b) (hb:b<n):lt (gA p b) (gA p a)=false:=by
 have:=iz.far as tr h (b - a) a (by omega)
 rwa [show a+(b - a)=b by omega] at this
theorem eH.far {p:Array Nat}{n:Nat} (h:eH lt p n):∀ d a,a+d<n→lt (gA p a) (gA p (a+d))=false
 | 0,a,_=>vm as tr _
 | d+1,a,hd=>by
  have h1:=h (a+(d+1)) (by omega) hd
  rw [show a+(d+1) - 1=a+d by omega] at h1
  exact tr _ _ _ (eH.far h d a (by omega)) h1
theorem eH.le {p:Array Nat}{n:Nat} (h:eH lt p n) {a b:Nat} (hab:a≤b) (hb:b<n):lt (gA p a) (gA p b)=false:=by
 have:=eH.far as tr h (b - a) a (by omega)
 rwa [show a+(b - a)=b by omega] at this
omit as tr in
theorem lO {p:Array Nat}:∀ (f n:Nat),1≤n→iz lt p n→n≤aq lt (kas_asc p f n)∧aq lt (kas_asc p f n)≤n+f∧iz lt p (aq lt (kas_asc p f n))∧(aq lt (kas_asc p f n)<n+f→lt (gA p (aq lt (kas_asc p f n))) (gA p (aq lt (kas_asc p f n) - 1))=true)
 | 0,n,_,h=>⟨D2 _,D2 _,h,fun z=>absurd z (EY _)⟩
 | f + 1,n,hn,h=>by
  have e:aq lt (kas_asc p (f+1) n)=aq lt (if lt (gA p n) (gA p (n - 1))=true then KasT.ret n else kas_asc p f (n+1)):=rfl
  rw [e]
  cases c:lt (gA p n) (gA p (n - 1)) with
  | true=>exact⟨D2 _,by show n≤_;omega,h,fun _=>c⟩
  | false =>
   rw [if_neg (by decide)]
   obtain ⟨a1,a2,a3,a4⟩:=lO (p:=p) f (n+1) (by omega) fun i hi hi2=>by
    by_cases hin:i=n
    ·rw [hin];exact c
    ·exact h i hi (by omega)
   exact ⟨by omega,by omega,a3,fun z=>a4 (by omega)⟩
theorem nu {p:Array Nat}{n q:Nat} (hz:n≤p.size) (hq:q+1≤n) (h:eH lt p n) (he:∀ i,n - (q+1)≤i→i+1<n→lt (gA p (i+1)) (gA p i)=false):eH lt (kas_rev p (n - (q+1)) n) n:=by
 intro i h1 h2
 rw [fj hz,fj hz]
 by_cases hi:n - (q+1)≤i
 ·rw [if_pos (show n - (q+1)≤i∧i<n from ⟨hi,h2⟩)]
  by_cases hi2:n - (q+1)≤i - 1
  ·rw [if_pos (show n - (q+1)≤i - 1∧i - 1<n from ⟨hi2,by omega⟩)]
   have:=he (n - (q+1)+n - 1 - i) (by omega) (by omega)
   rwa [show n - (q+1)+n - 1 - i+1=n - (q+1)+n - 1 - (i - 1) by omega] at this
  ·rw [if_neg (by omega)]
   exact eH.le as tr h (by omega) (by omega)
 ·rw [if_neg (by omega),if_neg (by omega)]
  exact h i h1 h2
theorem fO:∀ (f:Nat) (p:Array Nat) (n q:Nat),n+f≤p.size→q+1≤n→eH lt p n→(∀ i,n - (q+1)≤i→i+1<n→lt (gA p (i+1)) (gA p i)=false) →
  ∃ p' n' q',aq lt (kas_desc f p n q)=(p',n',q')∧p'.size=p.size∧n≤n'∧n'≤n+f∧q'+1≤n'∧eH lt p' n'∧∀ i,n' - (q'+1)≤i→i+1<n'→lt (gA p' (i+1)) (gA p' i)=false
 | 0,p,n,q,_,hq,h,he=>⟨p,n,q,rfl,rfl,D2 _,D2 _,hq,h,he⟩
 | f + 1,p,n,q,hz,hq,h,he=>by
  have e:aq lt (kas_desc (f+1) p n q)=aq lt (if lt (gA p n) (gA p (n - 1))=true then (if q>0 then kas_desc f (kas_rev p (n - (q+1)) n) (n+1) 0 else kas_desc f p (n+1) 0)
   else .ask (p.getD (n - 1) 0) (p.getD n 0) fun d=>if d=true then .ret (p,n,q) else kas_desc f p (n+1) (q+1)):=rfl
  rw [e]
  cases c:lt (gA p n) (gA p (n - 1)) with
  | true =>
   rw [if_pos rfl]
   have c':=as _ _ c
   by_cases hq0:q>0
   ·rw [if_pos hq0]
    have hd:=nu as tr (p:=p) (n:=n) (q:=q) (by omega) hq h he
    obtain ⟨p',n',q',a1,a2,a3,a4,a5,a6,a7⟩:=fO f (kas_rev p (n - (q+1)) n) (n+1) 0 (by rw[cX];omega) (by omega) (fun i h1 h2=>by
     by_cases hin:i=n
     ·subst hin
      rw [fj (by omega),fj (by omega),if_neg (show ¬(i - (q+1)≤i∧i<i) by omega),if_pos (show i - (q+1)≤i - 1∧i - 1<i by omega)]
      refine tr _ _ _ ?_ c'
      exact eH.le as tr h (by omega) (by omega)
     ·exact hd i h1 (by omega)) (fun i h1 h2=>by omega)
    exact ⟨p',n',q',a1,by rw[a2,cX],by omega,by omega,a5,a6,a7⟩
   ·rw [if_neg hq0]
    obtain ⟨p',n',q',a1,a2,a3,a4,a5,a6,a7⟩:=fO f p (n+1) 0 (by omega) (by omega) (fun i h1 h2=>by
     by_cases hin:i=n
     ·subst hin;exact c'
     ·exact h i h1 (by omega)) (fun i h1 h2=>by omega)
    exact ⟨p',n',q',a1,a2,by omega,by omega,a5,a6,a7⟩
  | false =>
   rw [if_neg (by decide)]
   have e2:aq lt (KasT.ask (p.getD (n - 1) 0) (p.getD n 0) fun d=>if d=true then .ret (p,n,q) else kas_desc f p (n+1) (q+1))=aq lt (if lt (gA p (n - 1)) (gA p n)=true then .ret (p,n,q) else kas_desc f p (n+1) (q+1)):=rfl
   rw [e2]
   cases c2:lt (gA p (n - 1)) (gA p n) with
   | true=>exact⟨p,n,q,rfl,rfl,D2 _,by omega,hq,h,he⟩
   | false =>
    rw [if_neg (by decide)]
    obtain ⟨p',n',q',a1,a2,a3,a4,a5,a6,a7⟩:=fO f p (n+1) (q+1) (by omega) (by omega) (fun i h1 h2=>by
     by_cases hin:i=n
     ·subst hin;exact c2
     ·exact h i h1 (by omega)) (fun i h1 h2=>by
     by_cases hin:i+1=n
     ·rw [hin]
      have:i=n - 1:=by omega
      rw [this];exact c
     ·exact he i (by omega) (by omega))
    exact ⟨p',n',q',a1,a2,by omega,by omega,a5,a6,a7⟩
omit as tr in
theorem jo {p:Array Nat}{n nrem:Nat} (h1:1≤n) (hn:n≤nrem) (hz:nrem≤p.size) (h:eH lt p n) :
  ∃ m p',aq lt (kas_tail3 n nrem p)=(m,p')∧p'.size=p.size∧1≤m∧m≤nrem∧iz lt p' m:=by
 unfold kas_tail3
 rw [bU]
 have ha:iz lt (kas_rev p 0 n) n:=fun i i1 i2=>by
  rw [fj (by omega),fj (by omega),if_pos (by omega),if_pos (by omega)]
  have:=h (n - i) (by omega) (by omega)
  rwa [show n - i - 1=0+n - 1 - i by omega,show n - i=0+n - 1 - (i - 1) by omega] at this
 obtain ⟨a1,a2,a3,_⟩:=lO (lt:=lt) (p:=kas_rev p 0 n) (nrem - n) n h1 ha
 exact ⟨_,_,rfl,cX _ _ _,by omega,by omega,a3⟩
theorem fq {p:Array Nat}{n nrem:Nat} (hn:n+1≤nrem) (hz:nrem≤p.size) (h:eH lt p (n+1)) :
  ∃ m p',aq lt (kas_descPart n nrem p)=(m,p')∧p'.size=p.size∧1≤m∧m≤nrem∧iz lt p' m:=by
 unfold kas_descPart
 rw [bU]
 obtain ⟨p',n',q',a1,a2,a3,a4,a5,a6,a7⟩:=fO as tr (nrem - (n+1)) p (n+1) 0 (by omega) (by omega) h fun i h1 h2=>by omega
 rw [a1]
 dsimp only
 split
 ·obtain ⟨m,p2,b1,b2,b3⟩:=jo (p:=kas_rev p' (n' - (q'+1)) n') (n:=n') (nrem:=nrem) (by omega) (by omega) (by rw[cX];omega) (nu as tr (by omega) a5 a6 a7)
  exact ⟨m,p2,b1,by rw[b2,cX,a2],b3⟩
 ·obtain ⟨m,p2,b1,b2,b3⟩:=jo (p:=p') (n:=n') (nrem:=nrem) (by omega) (by omega) (by omega) a6
  exact ⟨m,p2,b1,by rw[b2,a2],b3⟩
theorem rG {p:Array Nat}{nrem:Nat} (h1:1≤nrem) (hz:nrem≤p.size):∃ m p',aq lt (kas_count nrem p)=(m,p')∧p'.size=p.size∧1≤m∧m≤nrem∧iz lt p' m:=by
 unfold kas_count
 rw [bU]
 obtain ⟨a1,a2,a3,a4⟩:=lO (lt:=lt) (p:=p) (nrem - 1) 1 (D2 _) fun i i1 i2=>by omega
 generalize aq lt (kas_asc p (nrem - 1) 1)=n at *
 split
 ·exact ⟨n,p,rfl,rfl,a1,by omega,a3⟩
 ·rename_i hne
  have hne:n≠nrem:=fun z=>hne (by rw[z];simp)
  have hst:=a4 (by omega)
  have hst':=as _ _ hst
  split
  ·rename_i hn1
   rw [oG]
   have e:lt (p.getD 0 0) (p.getD (n - 1) 0)=lt (gA p 0) (gA p (n - 1)):=rfl
   rw [e]
   cases c:lt (gA p 0) (gA p (n - 1)) with
   | true=>exact⟨n,p,rfl,rfl,a1,by omega,a3⟩
   | false =>
    rw [if_neg (by decide)]
    obtain ⟨m,p2,b1,b2,b3⟩:=fq as tr (p:=kas_rev p 0 n) (n:=n) (nrem:=nrem) (by omega) (by rw[cX];omega) fun i i1 i2=>by
     rw [fj (by omega),fj (by omega),if_pos (show 0≤i - 1∧i - 1<n by omega)]
     by_cases hin:i<n
     ·rw [if_pos (show 0≤i∧i<n by omega)]
      exact iz.le as tr a3 (by omega) (by omega)
     ·rw [if_neg (show ¬(0≤i∧i<n) by omega)]
      have hin2:i=n:=by omega
      subst hin2
      rw [show 0+i - 1 - (i - 1)=0 by omega]
      exact tr _ _ _ c hst'
    exact ⟨m,p2,b1,by rw[b2,cX],b3⟩
  ·rename_i hn1
   have hn2:n=1:=by omega
   subst hn2
   exact fq as tr (by omega) hz fun i i1 i2=>by
    have:i=1:=by omega
    subst this
    exact hst'
theorem gh {p:Array Nat}{k:Nat} (h:iz lt p k):∀ f l r,l≤r→r≤k→r - l≤f→(∀ i,i<l→lt (gA p k) (gA p i)=false)→(∀ i,r≤i→i<k→lt (gA p k) (gA p i)=true) →
  ∃ m,aq lt (kas_place p k f l r)=m∧m≤k∧(∀ i,i<m→lt (gA p k) (gA p i)=false)∧∀ i,m≤i→i<k→lt (gA p k) (gA p i)=true
 | 0,l,r,h1,h2,h3,hl,hr=>⟨l,rfl,by omega,hl,fun i i1 i2=>hr i (by omega) i2⟩
 | f + 1,l,r,h1,h2,h3,hl,hr=>by
  by_cases hlr:l≥r
  ·have e:aq lt (kas_place p k (f+1) l r)=l:=by show aq lt (if l≥r then KasT.ret l else _)=_;rw[if_pos hlr];rfl
   exact ⟨l,e,by omega,hl,fun i i1 i2=>hr i (by omega) i2⟩
  ·have e:aq lt (kas_place p k (f+1) l r)=aq lt (if lt (gA p k) (gA p ((l+r) / 2))=true then kas_place p k f l ((l+r) / 2) else kas_place p k f ((l+r) / 2+1) r):=by
    show aq lt (if l≥r then KasT.ret l else _)=_
    rw [if_neg hlr]
    rfl
   rw [e]
   cases c:lt (gA p k) (gA p ((l+r) / 2)) with
   | true =>
    rw [if_pos rfl]
    refine gh h f l ((l+r) / 2) (by omega) (by omega) (by omega) hl fun i i1 i2=>?_
    cases c2:lt (gA p k) (gA p i) with
    | true=>rfl
    | false =>
     have:=tr _ _ _ c2 (iz.le as tr h i1 i2)
     rw [c] at this
     cases this
   | false =>
    rw [if_neg (by decide)]
    refine gh h f ((l+r) / 2+1) r (by omega) h2 (by omega) (fun i i1=>?_) hr
    exact tr _ _ _ c (iz.le as tr h (by omega) (by omega))
theorem rO:∀ (f:Nat) (p:Array Nat) (k:Nat),k+f=p.size→iz lt p k→iz lt (aq lt (kas_bin f p k)) p.size
 | 0,p,k,e,h=>by
  rw [←e,Nat.add_zero]
  exact h
 | f + 1,p,k,e,h=>by
  have e1:aq lt (kas_bin (f+1) p k)=aq lt (kas_bin f (bubble p k (k - aq lt (kas_place p k k 0 k))) (k+1)):=by
   show aq lt ((kas_place p k k 0 k).bind _)=_
   rw [bU]
  rw [e1]
  obtain ⟨m,em,hm,hl,hr⟩:=gh as tr h k 0 k (Ee _) (D2 _) (by omega) (fun i hi=>by omega) fun i i1 i2=>by omega
  rw [em]
  have hsz:(bubble p k (k - m)).size=p.size:=bubble_size _ _ _
  rw [←hsz]
  refine rO f _ (k+1) (by rw[hsz];omega) fun i i1 i2=>?_
  rw [vH (by omega) (by omega),vH (by omega) (by omega),show k - (k - m)=m by omega]
  by_cases c1:i=m
  ·rw [if_pos c1,if_neg (by omega),if_neg (by omega)]
   exact hl (i - 1) (by omega)
  ·rw [if_neg c1]
   by_cases c2:m<i
   ·rw [if_pos (show m<i∧i≤k by omega)]
    by_cases c3:i - 1=m
    ·rw [if_pos c3,c3]
     exact as _ _ (hr m (D2 _) (by omega))
    ·rw [if_neg c3,if_pos (show m<i - 1∧i - 1≤k by omega)]
     exact h (i - 1) (by omega) (by omega)
   ·rw [if_neg (by omega),if_neg (by omega),if_neg (by omega)]
    exact h i i1 (by omega)
theorem sL {n:Nat} (h1:1≤n):iz lt (aq lt (kas_sort n)) n:=by
 unfold kas_sort
 rw [bU]
 have hz:(List.toArray (List.range n)).size=n:=by simp
 obtain ⟨m,p,a1,a2,a3,a4,a5⟩:=rG as tr (p:=List.toArray (List.range n)) (nrem:=n) h1 (by rw[hz];exact D2 _)
 rw [a1]
 dsimp only
 rw [hz] at a2
 split
 ·rw [show max m 1=m by omega]
  have:=rO as tr (n - m) p m (by omega) a5
  rwa [a2] at this
 ·have hmn:n=m:=by omega
  rw [hmn]
  exact a5
end
section
variable {prog:Program}{w:World}{A:Around}{E:Value→Shared→Prop}{s:Shared}
end
noncomputable def Al (d:PyData):Prop:=∃ n:Int,d=.int n
section
variable {X:Cx}{pins:List (Addr×Obj)}{σ:St}{H:Hp}{s:Shared}
end
section
variable {X:Cx}{pins:List (Addr×Obj)}{σ:St}{H0:Hp}{f:Value}{vs:List Value}{A:Around}{E:Value→Shared→Prop}{a kS:Addr}
end
section
variable {X:Cx}{pins:List (Addr×Obj)}{σ:St}{H0:Hp}{f:Addr}{vs:List Value}{A:Around}{E:Value→Shared→Prop}{s:Shared}
end
section
variable {X:Cx}{K:PySem.W.Frag}
variable {e:Expr}{p pos:Pos}{tl:DA}
end
noncomputable def sx (CX:CXT) (P:Program) (w:World) (K:PySem.W.Frag) (mg:Str→Option Value) (base:Heap) (N:List Str) (qual:Str) (scope:Scope) (f:Addr) (cd:Value) (cl:List (Str×Addr)) (A:Around) (outer:List Env) (s:Shared) (H:Hp) (E:XK):Cx where
 prog:=P
 w := w
 K := K
 mg := mg
 base:=base
 A := A.deeper (envX qual scope s.heap.objs.size f cd cl)
 N := N
 s₀ := s
 H₀ := H
 env:=envX qual scope s.heap.objs.size f cd cl
 outer:=outer
 stack:=envX qual scope s.heap.objs.size f cd cl::outer
 ex := []
 calm:=true
 fn := fun _=>false
 pn := []
 xe := fun e s'=>wpAny (model P w) (A.deeper (envX qual scope s.heap.objs.size f cd cl)) (leaving (envX qual scope s.heap.objs.size f cd cl) e) (fun _ s''=>CX outer H s E e s'') (fun e' s''=>CX outer H s E e' s'') s'
structure eF (p x:Str) (sc:Scope):Prop where
 kind:sc.kind=.function
 co : sc.isCoroutine=false
 gen:sc.isGenerator=false
 par:sc.names.lookup p=some .local
 fre:sc.names.lookup x=some .free
 nocell:∀ y∈sc.names,y.2≠.cell
 one:∀ y∈sc.names,y.2=.free→y.1=x
 ne : p≠x
section
variable {CX:CXT}{P:Program}{w:World}{K:PySem.W.Frag}{mg:Str→Option Value}{base:Heap}{qual p x:Str}{scope:Scope}{f c:Addr}{cd:Value}{A:Around}{outer:List Env}{s:Shared}{H:Hp}{E:XK}{u u0:Value}{v v0:V}{h₁:Heap}{tk:Nat}
theorem oM (S:eF p x scope) (hd:A.handled=none) (e0:lQ P w K mg base A outer s H) (hcell:s.heap.IsCell c (some u0)) (r0:bz v0 u0) (hc0:H c=none) (r:bz v u)
  (hns:h₁.Ns s.heap.objs.size (fun y=>[(p,u)].reverse.lookup y)) (hk:∀ b o,s.heap.get? b=some o→h₁.get? b=some o) :
  Inv (sx CX P w K mg base [p,x] qual scope f cd [(x,c)] A outer s H E) [] [some v,some v0] H { s with heap:=h₁,toks:=tk }:=by
 have noA:∀ b:Addr,b ∉ (sx CX P w K mg base [p,x] qual scope f cd [(x,c)] A outer s H E).ex:=fun b z=>absurd (show b∈([]:List Addr) from z) (by simp)
 have look:∀ y d,List.lookup y [(x,c)]=some d→y=x∧d=c:=fun y d h=>by
  have:=PySem.mem_of_lookup h
  rw [DM] at this
  cases this
  exact ⟨rfl,rfl⟩
 have lx:List.lookup x [(x,c)]=some c:=by simp
 refine ⟨⟨e0.mod,S.kind,rfl,rfl,D2 _,fun y z d h1 h2=>?_,fun y hy=>?_,fun y d h=>absurd h (by show ¬false=true;decide),fun _=>hd,Around.frames_deeper e0.frames,.inr ⟨rfl,rfl⟩,fun b z=>absurd z (noA b),e0.bs,e0.bsz,fun b _ _=>noA b,fun b z=>absurd z (noA b),e0.funs,e0.frf,e0.tab⟩,
  rfl,e0.bare,Un.kept hk,⟨_,hns,fun i y z h1 h2 h3=>?_⟩,fun y d h=>?_,e0.hok.fresh (D2 _),fun y d h=>?_,fun q hq=>absurd (show q∈([]:List (Addr×Obj)) from hq) (by simp),e0.hok.kept hk,rfl⟩
 ·rw [(look y d h1).1,(look z d h2).1]
 ·have hy:scope.names.lookup y=some .cell∨scope.names.lookup y=some .free:=hy
  rcases hy with hy|hy
  ·exact absurd rfl (S.nocell _ (PySem.mem_of_lookup hy))
  ·have:=S.one _ (PySem.mem_of_lookup hy) rfl
   simp only at this
   rw [this]
   exact ⟨c,lx⟩
 ·match i,h1,h2 with
  | 0,h1,h2 =>
   have h1:p=y:=by simpa [sx] using h1
   have h2:v=z:=by simpa using h2
   subst h1 h2
   refine ⟨u,r,.inl ⟨S.par,?_⟩⟩
   simp
  | 1,h1,h2 =>
   have h1:x=y:=by simpa [sx] using h1
   have h2:v0=z:=by simpa using h2
   subst h1 h2
   exact ⟨u0,r0,.inr ⟨.inr S.fre,c,lx,hcell.keeps hk⟩⟩
  | i+2,h1,h2=>simp at h2
 ·obtain ⟨_,rfl⟩:=look y d h
  exact ⟨_,hcell.keeps hk⟩
 ·obtain ⟨_,rfl⟩:=look y d h
  exact hc0
theorem tP {params:Arguments}{body:Expr}{pm ctv:Value}{c':Addr}{t:TE}{Q:VK}{k:Nat} (S:eF p x scope) (hr:ca (k+1) A) (e0:lQ P w K mg base A outer s H) (ho:s.heap.get? f=some (kla_obj "<lambda>" qual params body scope [(x,c)] pm c' ctv)) (hcd:s.heap.CodeRec (.ref c') qual)
  (hb:bindArgs (kla_fn "<lambda>" qual params body scope [(x,c)] pm (.ref c') ctv) ⟨[u],[]⟩=pure [(p,u)]) (hcell:s.heap.IsCell c (some u0)) (r0:bz v0 u0) (hc0:H c=none) (r:bz v u)
  (ht:PE (sx CX P w K mg base [p,x] qual scope f (.ref c') [(x,c)] A outer s H E) body t) (hq:t [some v,some v0] H Q):codeAny (model P w) A (.call (.ref f) ⟨[u],[]⟩) (CR CX outer P w H s Q E) s:=by
 have lim:s.heap.NoLimit:=e0.mod.nolimit.keeps fun b o e=>(e0.bs b o e).1
 refine kla_callFunE hr.depth ho rfl S.co S.gen rfl hcd ?_
 rw [hb]
 refine wpAny_pure (wpAny_newFunctionEnv S.nocell (fun y hy=>by rw[DM.mp hy];exact S.par) (fun h₁ hns hsb=>⟨lim.fresh _ hsb,?_⟩) S.kind)
 have hk₁:∀ b o,s.heap.get? b=some o→h₁.get? b=some o:=fun b o e=>hsb.extBut b o (Ed (D7 e)) (DU _ e)
 show codeAny _ _ (.expr body (envX qual scope s.heap.objs.size f (.ref c') [(x,c)])) _ _
 refine kla_codeExpr ?_
 have I:=oM (CX:=CX) (E:=E) (qual:=qual) (f:=f) (cd:=.ref c') (tk:=s.toks+[(p,u)].length) S hr.hd e0 hcell r0 hc0 r hns hk₁
 refine wpAny_mono (ht [] _ _ H _ I hq) (fun u' s' hs=>?_) fun e s' hs=>hs
 obtain ⟨z,H',J,rv,q⟩:=hs
 exact ⟨z,H',J.os,J.bare,J.base,J.hok,rv,q⟩
end
section
variable {X:Cx}{pins:List (Addr×Obj)}{σ:St}{H:Hp}{s:Shared}{params:Arguments}{body:Expr}{scope:Scope}{pos:Pos}{E:Value→Shared→Prop}{clos:List (Str×Addr)}
theorem qF (I:Inv X pins σ H s) (L:o6 X) (hcl:closureFor scope X.env=pure clos) (hdef:defaultsOf params X.env=([],[])) {Q:Value→Shared→Prop}
  (h : ∀ f c' pm ctv s' H',Inv X pins σ H' s'→aO H H'→s'.heap.get? f=some (kla_obj "<lambda>" (X.env.qual ++ "<lambda>") params body scope clos pm c' ctv)→fE X pins H' f→AU H' c' (X.env.qual ++ "<lambda>")→Q (.ref f) s') :
  wpAny (model X.prog X.w) X.A (eval (.Lambda params body scope pos) X.env) Q E s:=by
 obtain ⟨c,T,hcode,C,hL⟩:=L
 have hT:H T=some (.tbl (X.env.qual ++ "<lambda>")):=I.base.tbls T _ (I.ok.tab T _ hL)
 obtain ⟨ps,e,htr,hgood⟩:=I.hok T _ hT
 obtain ⟨bm,ob,b1,b2,b3,b4,b5,b6⟩:=I.mod.bmain
 have hg:=I.mod.glob.keeps I.bk
 have hgP:mainGlobals≠T:=fun q=>by
  obtain ⟨o,es,ep,e',hd,_⟩:=hg
  rw [q,e] at e';cases e';cases hd
 have hbP:bm≠T:=fun q=>by
  have e':=I.bk _ _ b3
  rw [q,e] at e';cases e';cases b4
 have hbG:bm≠mainGlobals:=fun q=>by
  obtain ⟨o,es,ep,e',hd,_⟩:=hg
  have e2:=I.bk _ _ b3
  rw [q,e'] at e2;cases e2;rw[hd] at b6;cases b6
 have hB:s.heap.BuiltinsAt X.mg T:=⟨bm,ob,b1,b2,hbG,hbP,I.bk _ _ b3,b4,b5,b6⟩
 refine kla_eval hdef ?_
 cases hc:codeAmong pos ps.toList with
 | none =>
  refine kla_makeFunction hcl I.ok.glob hg hcode (C.keeps I.bk) e htr hc hgP hB fun c' ctv h' tk hx hge hlt hrec htb=>?_
  obtain ⟨c2,oc,vs,t,e2,hoc,hd,hv⟩:=hrec
  cases e2
  have ht2:yA (upd H c' (.frz oc (.own 0))) h' T (X.env.qual ++ "<lambda>"):=by
   refine ⟨_,htb,by rw[Array.toList_append];exact TriplesOk_snoc _ _ _ _ htr,fun p cv hcv=>?_⟩
   rw [Array.toList_append] at hcv
   rcases oZ _ htr hcv with hcv|rfl
   ·obtain ⟨c2,oc2,u2,vs2,t2,e1,e2,e3⟩:=hgood _ _ hcv
    exact ⟨c2,oc2,u2,vs2,t2,e1,by rw[ai (ao e2 (I.hok.fresh hge))];exact e2,e3⟩
   ·exact ⟨c',oc,_,vs,t,rfl,ar,hd,hv⟩
  obtain ⟨I2,sm⟩:=I.grow (tk:=tk) hT hx hge hoc hd hv ht2
  have I3:=I2.kept (t':=tk) (h':=h'.push (kla_obj "<lambda>" (X.env.qual ++ "<lambda>") params body scope clos ((X.mg "__name__").getD .none) c' ctv)) fun b o e=>DU _ e
  exact h _ c' _ ctv _ _ I3 sm (D8 _ rfl) (I2.fpOk (D2 _) (I2.hok.fresh (D2 _))) ⟨_,_,_,_,ar,hd,hv⟩
 | some cv =>
  obtain ⟨c',oc,u,vs,t,rfl,e1,hd,hv⟩:=hgood _ _ hc
  obtain ⟨hoc,_⟩:=I.hok c' _ e1
  refine kla_makeFunctionHit hcl I.ok.glob hg hcode (C.keeps I.bk) e htr hc hB fun ctv h' tk hk hsz=>?_
  have I2:=I.kept (t':=tk) hk
  have I3:=I2.kept (t':=tk) (h':=h'.push (kla_obj "<lambda>" (X.env.qual ++ "<lambda>") params body scope clos ((X.mg "__name__").getD .none) c' ctv)) fun b o e=>DU _ e
  exact h _ c' _ ctv _ _ I3 (aO.refl _) (D8 _ rfl) (I2.fpOk (D2 _) (I2.hok.fresh (D2 _))) ⟨_,_,_,_,e1,hd,hv⟩
end
theorem gp:∀ a:List Int,HT.lexLt a a=false
 | []=>HT.lexLt_nil_nil
 | x::a=>by rw[HT.lexLt_cons,if_pos rfl];exact gp a
theorem vp:∀ a b:List Int,HT.lexLt a b=true→HT.lexLt b a=false
 | [],[],h=>by rw[HT.lexLt_nil_nil] at h;cases h
 | [],y::b,_=>HT.lexLt_cons_nil ..
 | x::a,[],h=>by rw[HT.lexLt_cons_nil] at h;cases h
 | x :: a,y::b,h=>by
  rw [HT.lexLt_cons] at h ⊢
  by_cases e:x=y
  ·rw [if_pos e] at h
   rw [if_pos e.symm]
   exact vp a b h
  ·rw [if_neg e] at h
   rw [if_neg fun z=>e z.symm]
   have:=of_decide_eq_true h
   exact decide_eq_false (by omega)
theorem vo:∀ a b c:List Int,HT.lexLt a b=false→HT.lexLt b c=false→HT.lexLt a c=false
 | [],[],c,_,h=>h
 | [],y::b,c,h,_=>by rw[HT.lexLt_nil_cons] at h;cases h
 | x::a,b,[],_,_=>HT.lexLt_cons_nil ..
 | x::a,[],z::c,_,h=>by rw[HT.lexLt_nil_cons] at h;cases h
 | x :: a,y::b,z::c,h1,h2=>by
  rw [HT.lexLt_cons] at h1 h2 ⊢
  by_cases e1:x=y
  ·rw [if_pos e1] at h1
   by_cases e2:y=z
   ·rw [if_pos e2] at h2
    rw [if_pos (e1.trans e2)]
    exact vo a b c h1 h2
   ·rw [if_neg e2] at h2
    rw [if_neg fun q=>e2 (e1.symm.trans q),e1]
    exact h2
  ·rw [if_neg e1] at h1
   have h1:=of_decide_eq_false h1
   by_cases e2:y=z
   ·rw [if_neg fun q=>e1 (q.trans e2.symm)]
    exact decide_eq_false (by omega)
   ·rw [if_neg e2] at h2
    have h2:=of_decide_eq_false h2
    rw [if_neg (by omega)]
    exact decide_eq_false (by omega)
theorem d8 (a b:Int×List Int):cP a b=if a.1=b.1 then HT.lexLt a.2 b.2 else decide (a.1<b.1):=by
 unfold cP
 by_cases e:a.1=b.1
 ·rw [if_pos e,if_pos e]
  by_cases e2:a.2=b.2
  ·rw [if_pos e2,e2,gp]
  ·rw [if_neg e2]
 ·rw [if_neg e,if_neg e]
theorem tY (a b:Int×List Int) (h:cP a b=true):cP b a=false:=by
 rw [d8] at h ⊢
 by_cases e:a.1=b.1
 ·rw [if_pos e] at h
  rw [if_pos e.symm]
  exact vp _ _ h
 ·rw [if_neg e] at h
  rw [if_neg fun z=>e z.symm]
  have:=of_decide_eq_true h
  exact decide_eq_false (by omega)
theorem tX (a b c:Int×List Int) (h1:cP a b=false) (h2:cP b c=false):cP a c=false:=by
 rw [d8] at h1 h2 ⊢
 by_cases e1:a.1=b.1
 ·rw [if_pos e1] at h1
  by_cases e2:b.1=c.1
  ·rw [if_pos e2] at h2
   rw [if_pos (e1.trans e2)]
   exact vo _ _ _ h1 h2
  ·rw [if_neg e2] at h2
   rw [if_neg fun q=>e2 (e1.symm.trans q),e1]
   exact h2
 ·rw [if_neg e1] at h1
  have h1:=of_decide_eq_false h1
  by_cases e2:b.1=c.1
  ·rw [if_neg fun q=>e1 (q.trans e2.symm)]
   exact decide_eq_false (by omega)
  ·rw [if_neg e2] at h2
   have h2:=of_decide_eq_false h2
   rw [if_neg (by omega)]
   exact decide_eq_false (by omega)
theorem nX {ks:List (Int×List Int)} (h1:1≤ks.length):∃ j,(aL ks).getLast? = some j∧j<ks.length∧∀ i,i<ks.length→(ks.getD i (0,[])).1≤(ks.getD j (0,[])).1:=by
 have hp:=bG ks
 have hl:(aL ks).length=ks.length:=by rw[hp.length_eq,EA]
 have hlt0:ks.length - 1<(aL ks).length:=by omega
 have hlast:(aL ks).getLast? = some (aL ks)[ks.length - 1]:=by
  rw [List.getLast?_eq_getElem?,←DR hlt0]
  congr 1
  omega
 refine ⟨_,hlast,cW _ (EE _),fun i hi=>?_⟩
 have hi2:i∈aL ks:=hp.mem_iff.mpr (Ez.mpr hi)
 obtain ⟨a,ha,e⟩:=Eo hi2
 rw [hl] at ha
 have key:cP (ks.getD (aL ks)[ks.length - 1] (0,[])) (ks.getD i (0,[]))=false:=by
  by_cases h2:ks.length<2
  ·have e1:ks.length=1:=by omega
   have:(aL ks)[ks.length - 1]=i:=by
    rw [←e]
    congr 1
    omega
   rw [this,d8,if_pos rfl,gp]
  ·obtain ⟨lt,hlt⟩:∃ lt:Nat→Nat→Bool,lt=fun i j=>cP (ks.getD i (0,[])) (ks.getD j (0,[])):=⟨_,rfl⟩
   have ex:aL ks=(aq lt (kas_sort ks.length)).toList:=by
    unfold aL
    rw [if_neg h2,hlt]
   have as:∀ a b,lt a b=true→lt b a=false:=fun a b h=>by rw[hlt] at h ⊢;exact tY _ _ h
   have tr:∀ a b c,lt a b=false→lt b c=false→lt a c=false:=fun a b c h1 h2=>by rw[hlt] at h1 h2 ⊢;exact tX _ _ _ h1 h2
   have asc:=sL as tr (n:=ks.length) h1
   have far:=iz.le as tr asc (a:=a) (b:=ks.length - 1) (by omega) (by omega)
   have g:∀ k,(hk:k<ks.length)→gA (aq lt (kas_sort ks.length)) k=(aL ks)[k]'(by omega):=fun k hk=>by
    unfold gA
    have hz:k<(aq lt (kas_sort ks.length)).size:=by
     have:(aq lt (kas_sort ks.length)).toList.length=ks.length:=by rw[←ex];exact hl
     rw [←Array.length_toList,this];exact hk
    rw [Array.getD_eq_getD_getElem?,Array.getElem?_eq_getElem hz]
    show _=_
    simp only [ex,Option.getD_some,Array.getElem_toList]
   rw [g _ (by omega),g a ha,e,hlt] at far
   exact far
 rw [d8] at key
 by_cases e3:(ks.getD (aL ks)[ks.length - 1] (0,[])).1=(ks.getD i (0,[])).1
 ·omega
 ·rw [if_neg e3] at key
  have:=of_decide_eq_false key
  omega
theorem d5 {α:Type}{p:List Nat}{xs:List α}{d:α} (h:p.Perm (List.range xs.length)):(cF p xs d).Perm xs:=by
 have h1:=h.map fun i=>xs.getD i d
 refine h1.trans (List.Perm.of_eq ?_)
 apply E3
 ·simp
 ·intro i a b
  simp at a
  simp [a]
theorem Ct {CX:CXT}{P:Program}{w:World}{K:PySem.W.Frag}{mg:Str→Option Value}{base:Heap}{N N':List Str}{qual:Str}{scope sc:Scope}{f:Addr}{cd:Value}{cl:List (Str×Addr)}{A:Around}{outer:List Env}{s:Shared}{H:Hp}{E:XK}{ix:List (Option Nat)}
  (h : bOk N scope N' ix sc=true):cb (sx CX P w K mg base N qual scope f cd cl A outer s H E).N (sx CX P w K mg base N qual scope f cd cl A outer s H E).env N' ix sc:=cS rfl rfl h
section
variable {X:Cx}{K:PySem.W.Frag}
end
section
variable {prog:Program}{w:World}{A:Around}{s:Shared}
theorem mX {us:List Value}{ns:List Int} (h2:2≤us.length) (k:∀ i (h:i<us.length),∃ t,us[i]=Value.int (ns.getD i 0) t) (hl:ns.length=us.length):iq prog w A us (ns.map fun n=>(n,[])) s:=by
 refine kas_kind (T:=.type "int") h2 (fun v hv=>?_) (by decide) (by rfl) ⟨rfl,fun i j C hi hj hc=>?_⟩
 ·obtain ⟨i,hi,rfl⟩:=Eo hv
  obtain ⟨t,e⟩:=k i hi
  rw [e]
  exact .now
 ·have e1:us.getD i Value.none=us[i]:=by simp[hi]
  have e2:us.getD j Value.none=us[j]:=by simp[hj]
  show wpAny (model prog w) A (keyLt' _ (us.getD i Value.none) (us.getD j Value.none)) C (fun _ _=>False) s
  rw [e1,e2]
  obtain ⟨t,ex⟩:=k i hi
  obtain ⟨u,ey⟩:=k j hj
  rw [ex,ey]
  have g:∀ m,m<us.length→(ns.map fun n=>(n,([]:List Int))).getD m (0,[])=(ns.getD m 0,[]):=fun m hm=>by
   rw [DW,Ep,DW,DR (by omega)]
   rfl
  rw [g i hi,g j hj,d8] at hc
  refine kat_lt_int ?_
  have e:(if (ns.getD i 0,([]:List Int)).1=(ns.getD j 0,([]:List Int)).1 then HT.lexLt (ns.getD i 0,([]:List Int)).2 (ns.getD j 0,([]:List Int)).2 else decide ((ns.getD i 0,([]:List Int)).1<(ns.getD j 0,([]:List Int)).1))=decide (ns.getD i 0<ns.getD j 0):=by
   by_cases z:ns.getD i 0=ns.getD j 0
   ·rw [if_pos z,gp]
    exact (decide_eq_false (by omega)).symm
   ·rw [if_neg z]
  rw [e] at hc
  exact hc
end
noncomputable def gP (ns:List Int):List Int:=cF (aL (ns.map fun n=>(n,[]))) ns 0
theorem nV (ns:List Int):(gP ns).Perm ns:=d5 (by have:=bG (ns.map fun n=>(n,([]:List Int)));rwa [DK] at this)
section
variable {X:Cx}{K:PySem.W.Frag}
theorem rM (hK:X.K=K):c9 X (.builtin "sorted") (fun xs H Q=>∃ (p:Addr) (ns:List Int),xs=[.ref p]∧SqL K H p (ns.map V.int)∧ns.length<64 ∧
  ∀ q,H q=none→Q (.ref q) (upd H q (.lst ((gP ns).map V.int)))):=by
 subst hK
 intro pins s σ H xs us Q I r h
 obtain ⟨p,ns,rfl,hs,h64,q⟩:=h
 obtain ⟨u,rfl,ru⟩:=ji r
 cases (show u=Value.ref p from ru)
 obtain ⟨its,rv,hp,_⟩:=I.list hs
 have hlen:=rv.length
 rw [DK] at hlen
 have hval:∀ i (h:i<its.length),∃ t,its[i]=Value.int (ns.getD i 0) t:=fun i hi=>by
  have hi2:i<ns.length:=by omega
  obtain ⟨u,e1,⟨t,e2⟩⟩:=rv.get (i:=i) (x:=.int ns[i]) (by rw[Ep,DR hi2];rfl)
  rw [DR hi] at e1
  cases e1
  refine ⟨t,?_⟩
  rw [e2,DW,DR hi2]
  rfl
 refine fU (vs:=its) (ks:=ns.map fun n=>(n,[])) hp.isList (by omega) (by rw[DK];omega) (fun h2 h' k=>mX h2 hval (by omega)) fun D h' c k hD hD2=>?_
 have hlt:∀ i∈aL (ns.map fun n=>(n,([]:List Int))),i<ns.length:=fun i hi=>by have:=cW i hi;rwa [DK] at this
 have ep:cF (aL (ns.map fun n=>(n,([]:List Int)))) (ns.map V.int) .non=(gP ns).map V.int:=by
  unfold gP cF
  rw [Ew]
  refine Fp fun i hi=>?_
  have:=hlt i hi
  rw [DW,Ep,DR this]
  show _=V.int (ns.getD i 0)
  rw [DW,DR this]
  rfl
 refine ⟨.ref D,upd H D (.lst ((gP ns).map V.int)),I.laid (t':=s.toks) (o:=.lst ((gP ns).map V.int)) k hD ⟨?_,_,c,ep▸dU rv (fun i hi=>by rw[DK];exact hlt i hi),hD2⟩,rfl,q _ (I.hok.fresh hD)⟩
 rw [DK,(nV ns).length_eq,sizeLine_eq]
 omega
noncomputable def ye (t:DA):DE:=fun env R=>t env fun ss env1=>∃ s ns,ss=[s]∧aH env1 s=some (.list (li ns))∧ns.length<64∧R (.ow (li (gP ns))) env1
variable {e:Expr}{p pos:Pos}{tl:DA}
theorem zj (hK:X.K=K) (hg:Gl X "sorted") (hm:X.mg "sorted" = none) (ha:PA X [e] (upA K tl)) (he:starEach [e] X.env=[(false,eval e X.env)]:=by rfl):PE X (.Call (.Name "sorted" p) [e] [] pos) (up K (ye tl)) :=
 (fJ (rM (K:=K) hK) hg hm boot_sorted ha (by decide) (by decide) he rfl).imp fun σ H Q h=>by
 obtain ⟨M,P,H0,σ0,env,ts,R,rel,ht,hq⟩:=h
 refine ⟨M,P,H0,σ0,env,ts,_,rel,ht,fun ss env1 vs H1 h1 hl rel1=>?_⟩
 obtain ⟨s,ns,rfl,e1,h64,hR⟩:=h1
 obtain ⟨v,rfl⟩:=sr hl
 obtain ⟨a,us,rfl,sq,q⟩:=(rel1.view (v:=v) (by simp) e1).list
 rw [q.ints] at sq
 exact ⟨a,ns,rfl,sq,h64,fun p' hp=>hq _ _ _ _ hR (rel1.resOw hp (iX _))⟩
end
section
variable {prog:Program}{w:World}{A:Around}{E:Value→Shared→Prop}{s:Shared}
theorem qL (a b:List Int):cP (0,a) (0,b)=HT.lexLt a b:=by
 unfold cP
 rw [if_pos rfl]
 split
 ·rename_i h
  simp only at h
  rw [h,gp]
 ·rfl
noncomputable def DF (h:Heap) (v:Value) (ns:List Int):Prop:=∃ (l:Addr) (its:Array Value),v=.ref l∧h.IsList l its∧At its ns
theorem k4 {l b:Addr}{items items2:Array Value}{ns ms:List Int}{Q:Bool→Shared→Prop} (hl:s.heap.IsList l items) (hb:s.heap.IsList b items2) (at1:At items ns) (at2:At items2 ms)
  (hu:A.units<cLine) (h:Q (HT.lexLt ns ms) s):wpAny (model prog w) A (oneLt' true (.ref l) (.ref b)) Q E s:=by
 obtain ⟨⟨cls,dd,data,sl⟩,ho,hc,n,hd⟩:=id hl
 obtain ⟨⟨cls2,dd2,data2,sl2⟩,ho2,hc2,n2,hd2⟩:=id hb
 simp only at hc hd hc2 hd2
 subst hc hd hc2 hd2
 rw [oneLt'_eq]
 simp only [if_true]
 refine wpAny_bind (wpAny_cRoomFor hu ?_)
 refine wpAny_bind (wpAny_callSpecialIfBound?_slot ⟨_,ho,rfl⟩ F.slot_list_lt (call_meets F.slot_list_lt ⟨_,ho,rfl⟩ F.entry_list_lt (F.args_list_lt_2 _ _) (mO l b items items2 n n2 dd dd2 sl sl2 ns ms at1 at2) ⟨ho,ho2,?_⟩))
 exact wpAny_truthy_bool h
theorem sS {us:List Value}{ks:List (Int×List Int)} (hu:A.units<cLine) (h2:2≤us.length) (k:∀ i (h:i<us.length),∃ ns,ks.getD i (0,[])=(0,ns)∧DF s.heap us[i] ns):iq prog w A us ks s:=by
 refine kas_kind (T:=.type "list") h2 (fun v hv=>?_) (by decide) (by rfl) ⟨rfl,fun i j C hi hj hc=>?_⟩
 ·obtain ⟨i,hi,rfl⟩:=Eo hv
  obtain ⟨ns,_,l,its,e,⟨o,ho,hc,_⟩,_⟩:=k i hi
  rw [e]
  exact hc▸(Looks.ld ho).andThen .now
 ·have e1:us.getD i Value.none=us[i]:=by simp[hi]
  have e2:us.getD j Value.none=us[j]:=by simp[hj]
  show wpAny (model prog w) A (keyLt' _ (us.getD i Value.none) (us.getD j Value.none)) C (fun _ _=>False) s
  rw [e1,e2]
  obtain ⟨ns,en,l,its,el,i1,i2⟩:=k i hi
  obtain ⟨ms,em,b,its2,eb,j1,j2⟩:=k j hj
  rw [en,em,qL] at hc
  rw [el,eb,keyLt'_oneType]
  exact k4 i1 j1 i2 j2 hu hc
end
noncomputable def yG (kds:List PyData):Prop:=(∀ d∈kds,oJ d)∨(∀ d∈kds,Al d)∨∀ d∈kds,Ak d
section
variable {K:PySem.W.Frag}
theorem ut {N:Addr→Prop}{H:Hp}{vs:List V}{ds:List PyData}{us:List Value} (q:DNs K N H vs ds) (r:aK vs us) (i:Nat) (h:i<us.length):∃ v,bz v us[i]∧DN K N H v (ds.getD i .none)∧ds.getD i .none∈ds:=by
 have hl:=q.len
 have hl2:=r.length
 obtain ⟨u,e,ru⟩:=r.get (i:=i) (x:=vs[i]) (by simp)
 rw [DR h] at e
 cases e
 have hm:(vs[i],ds[i])∈vs.zip ds:=by
  rw [List.mem_iff_getElem?]
  exact ⟨i,by rw[Fn];exact⟨DR _,DR _⟩⟩
 have e2:ds.getD i .none=ds[i]:=by simp[DW,show i<ds.length by omega]
 rw [e2]
 exact ⟨_,ru,lC q _ hm,EE _⟩
end
theorem jZ {α β:Type} (f:α→β) (l:List α) (i:Nat) (d:α):(l.map f).getD i (f d)=f (l.getD i d):=by
 simp only [DW,Ep]
 cases l[i]? <;> rfl
theorem j0 (kds:List PyData) (i:Nat):(kds.map cq).getD i (0,[])=cq (kds.getD i .none):=jZ cq kds i .none
section
variable {X:Cx}{pins:List (Addr×Obj)}{σ:St}{H:Hp}{s:Shared}{A:Around}
theorem tU {kds:List PyData}{kv:List V}{ks:List Value} (hk:yG kds) (hu:A.units+64<cLine) (I:Inv X pins σ H s) (dn:DNs X.K N0 H kv kds) (rv:aK kv ks) (h2:2≤ks.length):iq X.prog X.w A ks (kds.map cq) s:=by
 have hl:kds.length=ks.length:=by rw[←dn.len,rv.length]
 rcases hk with hk|hk|hk
 ·refine qG hu h2 (by rw[DK];exact hl) fun i hi=>?_
  obtain ⟨v,rx,dx,md⟩:=ut dn rv i hi
  rw [j0]
  exact qI I dx.dv rx (hk _ md)
 ·have em:kds.map cq=(kds.map fun d=>(cq d).1).map fun n=>(n,[]):=by
   rw [Ew]
   refine Fp fun d hd=>?_
   obtain ⟨n,rfl⟩:=hk d hd
   rfl
  rw [em]
  refine mX h2 (fun i hi=>?_) (by rw[DK];exact hl)
  obtain ⟨v,rx,dx,md⟩:=ut dn rv i hi
  have eg:(kds.map fun d=>(cq d).1).getD i 0=(cq (kds.getD i .none)).1:=jZ (fun d=>(cq d).1) kds i .none
  rw [eg]
  obtain ⟨n,e⟩:=hk _ md
  rw [e] at dx ⊢
  rw [dx.dv.intI] at rx
  exact rx
 ·refine sS (by omega) h2 fun i hi=>?_
  obtain ⟨v,rx,dx,md⟩:=ut dn rv i hi
  rw [j0]
  obtain ⟨ns,e⟩:=hk _ md
  rw [e] at dx ⊢
  obtain ⟨l,ys,rfl,sq,q⟩:=dx.dv.lstI
  obtain ⟨jts,rj,pl,_⟩:=I.list sq
  obtain ⟨h1,h2⟩:=yw q rj
  refine ⟨ns,?_,l,jts.toArray,rx,pl.isList,⟨by simpa using h1,fun j hj=>h2 j (by simpa using hj)⟩⟩
  show ((0:Int),(bN (ns.map PyData.int)).getD [])=_
  rw [bV]
  rfl
end
section
variable {X:Cx}{pins:List (Addr×Obj)}{σ:St}{H0:Hp}{f:Value}{vs:List Value}{A:Around}{E:Value→Shared→Prop}{a kS:Addr}
structure wb (X:Cx) (pins:List (Addr×Obj)) (σ:St) (H0:Hp) (a kS:Addr) (e1:Nat) (kds:List PyData) (ks:List Value) (s:Shared):Prop where
 ex : ∃ H kv c,Inv X pins σ H s∧aO H0 H∧aK kv ks∧DNs X.K N0 H kv (kds.take ks.length)∧fE X pins H a∧fE X pins H kS∧s.heap.get? kS=some (seqObj "list" ks.toArray c)
 la : s.heap.get? a=some (seqObj "list" #[] e1)
theorem gZ {e1 n:Nat}{kds:List PyData} (ne:a≠kS) (hn:n<64) {body:Value→PUnit→Sem (ForInStep PUnit)}
  (hb:∀ x ks e (s:Shared) (C:Value→Shared→Prop),List.length ks<64→wpAny (model X.prog X.w) A (call f [x]) (fun k s1=>s1.heap.get? kS=some (seqObj "list" (List.toArray ks) e)∧C k s1) (fun _ _=>False) s →
   wpAny (model X.prog X.w) A (body x ⟨⟩) (fun r s'=>r=.yield ⟨⟩∧∃ k s1 c,C k s1∧s'={ s1 with heap:=s1.heap.update kS (Obj.mapSeq (·.push k)) }∧s'.heap.get? kS=some (seqObj "list" (List.toArray (ks++[k])) c)) E s)
  (hkn:kds.length=vs.length) (call:∀ i (h:i<vs.length),∀ H s,Inv X pins σ H s→aO H0 H→wpAny (model X.prog X.w) A (call f [vs[i]]) (fv X pins σ H s (kds.getD i .none)) (fun _ _=>False) s) :
  ∀ (r ks:List Value) (s:Shared),r=vs.drop ks.length→ks.length+r.length=n→wb X pins σ H0 a kS e1 kds ks s →
   wpAny (model X.prog X.w) A (forIn r PUnit.unit body) (fun _ s'=>∃ ks,ks.length=n∧wb X pins σ H0 a kS e1 kds ks s') E s
 | [],ks,s,_,hl,h=>by
  rw [Fe]
  exact wpAny_pure ⟨ks,by simpa using hl,h⟩
 | x :: r,ks,s,hr,hl,h=>by
  rw [Et] at hl
  rw [Fs]
  obtain ⟨⟨H,kv,c,I,sm,rv,dn,fa,fk,gk⟩,la⟩:=h
  have hix:ks.length<vs.length:=by
   have:=congrArg List.length hr
   rw [List.length_drop,Et] at this
   omega
  have hx:vs[ks.length]=x∧r=vs.drop (ks.length+1):=by
   rw [ET hix] at hr
   injection hr with h1 h2
   exact ⟨h1.symm,h2⟩
  have hc:=call ks.length hix H s I sm
  rw [hx.1] at hc
  refine wpAny_bind (wpAny_mono (hb x ks c s (fun k s1=>fv X pins σ H s (kds.getD ks.length .none) k s1) (by omega) (wpAny_mono hc (fun k s1 hk1=>?_) fun _ _ z=>z)) (fun q s' hq=>?_) fun _ _ z=>z)
  ·obtain ⟨H',v,I',sm',rv',dn',kp⟩:=id hk1
   exact ⟨(kp kS _ fk gk).1,hk1⟩
  ·obtain ⟨rfl,k,s1,c2,⟨H',v,I',sm',rv',dn',kp⟩,es,gk'⟩:=hq
   subst es
   have fk':=qX fk (kp kS _ fk gk).2
   have fa':=qX fa (kp a _ fa la).2
   have su:=Heap.SameBut.update s1.heap kS (Obj.mapSeq (·.push k))
   have I2:=I'.turnedN (t':=s1.toks) (fp:=[kS]) (h':=s1.heap.update kS (Obj.mapSeq (·.push k))) (fun b hb'=>by rw[DM.mp hb'];exact fk') fun b o hb' e=>(su.2 b (fun z=>hb' (by simp[z]))).trans e
   show wpAny (model X.prog X.w) A (forIn r PUnit.unit body) _ E _
   refine gZ ne hn hb hkn call r (ks++[k]) _ (by rw[El,E4];exact hx.2) (by rw[El,E4];omega) ⟨⟨H',kv++[v],c2,I2,sm.trans sm',pd rv rv',?_,fa',fk',gk'⟩,?_⟩
   ·have e:kds.take (ks++[k]).length=kds.take ks.length++[kds.getD ks.length .none]:=by
     rw [El,E4,List.take_add_one,DR (by omega),DW,DR (by omega)]
     rfl
    rw [e]
    exact (dn.keep (aE.same sm')).app (.cons dn' .nil)
   ·exact (su.2 a ne).trans (kp a _ fa la).1
theorem nW {kds:List PyData}{s:Shared}{n:Nat}{P:PySem.Fin→Shared→Prop} (I:Inv X pins σ H0 s) (fa:fE X pins H0 a) (ho:s.heap.get? a=some (seqObj "list" vs.toArray n)) (h64:vs.length<64) (hu:A.units+64<cLine)
  (hkn:kds.length=vs.length) (hkk:yG kds) (call:∀ i (h:i<vs.length),∀ H s',Inv X pins σ H s'→aO H0 H→wpAny (model X.prog X.w) A (call f [vs[i]]) (fv X pins σ H s' (kds.getD i .none)) (fun _ _=>False) s')
  (h : ∀ H s' c,Inv X pins σ H s'→aO H0 H→fE X pins H a→s'.heap.get? a=some (seqObj "list" (cF (aL (kds.map cq)) vs Value.none).toArray c)→P (.done (.ret .none)) s') :
  wpAny (model X.prog X.w) A (ksk_tree a f false) P E s:=by
 have ha:a<s.heap.objs.size:=D7 ho
 have s1:=Heap.SameBut.update s.heap a (Obj.mapSeq fun _=>(#[]:Array Value))
 obtain ⟨e1,ho1⟩:∃ e1,(s.heap.update a (Obj.mapSeq fun _=>(#[]:Array Value))).get? a=some (seqObj "list" #[] e1):=⟨_,get?_update_seq ho fun _=>#[]⟩
 have keep:∀ b o,b≠a→s.heap.get? b=some o→(((s.heap.update a (Obj.mapSeq fun _=>(#[]:Array Value))).push (seqObj "tuple" vs.toArray 0)).push (seqObj "list" #[] 0)).get? b=some o:=fun b o hb e =>
  DU _ (DU _ ((s1.2 b hb).trans e))
 have ho3:(((s.heap.update a (Obj.mapSeq fun _=>(#[]:Array Value))).push (seqObj "tuple" vs.toArray 0)).push (seqObj "list" #[] 0)).get? a=some (seqObj "list" #[] e1):=DU _ (DU _ ho1)
 have hsz:((s.heap.update a (Obj.mapSeq fun _=>(#[]:Array Value))).push (seqObj "tuple" vs.toArray 0)).objs.size=s.heap.objs.size+1:=by rw[size_push',E8]
 unfold ksk_tree
 refine wpAny_bind (listItems_at ho rfl ?_)
 refine wpAny_bind (listUpdate_at ho rfl ?_ (by rw[D5,sizeLine_eq];omega) (Ee _))
 refine wpAny_bind (seqEpoch_at ho1 rfl ?_)
 refine wpAny_bind (wpAny_newTuple ?_ (by show vs.length≤_;rw[sizeLine_eq];omega))
 refine wpAny_bind (wpAny_newList ?_ (Ee _))
 refine wpAny_holding ?_
 obtain ⟨kS,ekS⟩:∃ kS,kS=((s.heap.update a (Obj.mapSeq fun _=>(#[]:Array Value))).push (seqObj "tuple" vs.toArray 0)).objs.size:=⟨_,rfl⟩
 have gk:(((s.heap.update a (Obj.mapSeq fun _=>(#[]:Array Value))).push (seqObj "tuple" vs.toArray 0)).push (seqObj "list" #[] 0)).get? kS=some (seqObj "list" (List.toArray []) 0):=by rw[ekS];exact D8 _ rfl
 have hne:a≠kS:=by rw[ekS,hsz];exact Ed (E5 ha)
 have fk:fE X pins H0 kS:=I.fpOk (by rw[ekS,hsz];omega) (I.hok.fresh (by rw[ekS,hsz];omega))
 have I1:=I.turnedN (t':=s.toks) (fp:=[a]) (h':=((s.heap.update a (Obj.mapSeq fun _=>(#[]:Array Value))).push (seqObj "tuple" vs.toArray 0)).push (seqObj "list" #[] 0)) (fun b hb=>by rw[DM.mp hb];exact fa) fun b o hb e=>keep b o (fun z=>hb (by simp[z])) e
 rw [←ekS]
 show wpAny (model X.prog X.w) A (ksk_rest a f false vs.toArray e1 (.ref kS)) P E { s with heap:=((s.heap.update a (Obj.mapSeq fun _=>(#[]:Array Value))).push (seqObj "tuple" vs.toArray 0)).push (seqObj "list" #[] 0) }
 unfold ksk_rest
 refine wpAny_bind (wpAny_rule ?_)
 first
  | rw[List.forIn_toArray]
  | (rw[←Array.forIn_toList];simp only [List.toList_toArray])
  | rw[←Array.forIn_toList]
 refine wpAny_bind (wpAny_mono (gZ (f:=f) (A:=A) (e1:=e1) (n:=vs.length) (kds:=kds) hne h64 (fun x ks e s' C hz hx=>?_) hkn call vs [] _ rfl (by simp) ⟨⟨H0,[],0,I1,aO.refl _,.nil,.nil,fa,fk,gk⟩,ho3⟩) (fun _ s' hd=>?_) fun _ _ x=>x)
 ·refine wpAny_bind (wpAny_attempt (wpAny_mono hx (fun k s'' hk=>?_) fun _ _ hF=>hF.elim))
  obtain ⟨nk,hC⟩:=hk
  have ea:(List.toArray ks).push k=List.toArray (ks++[k]):=by simp
  obtain ⟨c2,hc2⟩:∃ c2,(s''.heap.update kS (Obj.mapSeq (·.push k))).get? kS=some (seqObj "list" (List.toArray (ks++[k])) c2):=⟨_,by rw[←ea];exact get?_update_seq nk (·.push k)⟩
  try dsimp only
  refine wpAny_bind (listUpdate_at nk rfl ?_ (by rw[D5,sizeLine_eq];omega) (D1 (Nat.le_of_eq (Array.size_push ..)) (by rw[D5,sizeLine_eq];omega)))
  exact wpAny_pure ⟨rfl,k,s'',c2,hC,rfl,hc2⟩
 ·obtain ⟨ks,hl,⟨⟨H,kv,c,I2,sm,rv,dn,fa2,fk2,gk2⟩,la⟩⟩:=hd
  rw [EM (by omega)] at dn
  refine wpAny_bind (listItems_at gk2 rfl ?_)
  have fin:∀ (ws:List Value) (st:SortSt),ws.length=vs.length→ws=cF (aL (kds.map cq)) vs Value.none→(arrOf st).map (·.2)=ws.toArray→failedOf st=none→wpAny (model X.prog X.w) A (ksk_tail a false e1 (.ref kS) st) P E s':=fun ws st hwl hp hout hf=>by
   have t1:=Heap.SameBut.update s'.heap kS (Obj.mapSeq fun _=>(#[]:Array Value))
   have la1:(s'.heap.update kS (Obj.mapSeq fun _=>(#[]:Array Value))).get? a=some (seqObj "list" #[] e1):=(t1.2 a hne).trans la
   have t2:=Heap.SameBut.update (s'.heap.update kS (Obj.mapSeq fun _=>(#[]:Array Value))) a (Obj.mapSeq fun _=>ws.toArray)
   obtain ⟨c2,hc2⟩:∃ c2,((s'.heap.update kS (Obj.mapSeq fun _=>(#[]:Array Value))).update a (Obj.mapSeq fun _=>ws.toArray)).get? a=some (seqObj "list" ws.toArray c2):=⟨_,get?_update_seq la1 fun _=>ws.toArray⟩
   unfold ksk_tail
   try dsimp only
   rw [hout]
   refine wpAny_bind (listUpdate_at gk2 rfl ?_ (by rw[D5,sizeLine_eq];omega) (Ee _))
   refine wpAny_bind (wpAny_letGo ?_)
   refine wpAny_bind (seqEpoch_at la1 rfl ?_)
   simp only [Em,if_false]
   refine wpAny_bind (listUpdate_at la1 rfl ?_ (Ee _) (by rw[D5,sizeLine_eq];omega))
   rw [hf]
   simp only [bne_self_eq_false,Em,if_false]
   refine wpAny_pure (h H _ c2 (I2.turnedN (t':=s'.toks) (fp:=[kS,a]) (fun b hb=>?_) fun b o hb e=>?_) sm fa2 (by rw[←hp];exact hc2))
   ·rcases D3.mp hb with rfl|hb
    ·exact fk2
    ·rw [DM.mp hb];exact fa2
   ·simp only [D3,En,or_false,not_or] at hb
    exact (t2.2 b hb.2).trans ((t1.2 b hb.1).trans e)
  unfold ksk_end
  try dsimp only
  simp only [Em,if_false]
  by_cases h2:2≤vs.length
  ·have hn2:¬vs.toArray.size<2:=by rw[D5];omega
   rw [if_neg hn2,if_neg hn2]
   refine wpAny_bind (wpAny_mono (tU hkk hu I2 dn rv (by omega)) (fun κ s0 hk'=>?_) fun _ _ x=>x.elim)
   obtain ⟨rfl,hask⟩:=hk'
   refine wpAny_bind (wpAny_mono (kat_run (κ:=κ) (A:=A) (prog:=X.prog) (w:=X.w) (ks:=ks) (vs:=vs) (G:=fun p s2=>p=aq (fun i j=>cP ((kds.map cq).getD i (0,[])) ((kds.map cq).getD j (0,[]))) (kas_sort vs.length)∧s2=s0)
    (Q := fun st' s2=>∃ p:Array Nat,p=aq (fun i j=>cP ((kds.map cq).getD i (0,[])) ((kds.map cq).getD j (0,[]))) (kas_sort vs.length)∧p.size=vs.length∧arrOf st'=p.map (kas_item (ks.toArray.zip vs.toArray))∧failedOf st'=none∧s2=s0)
    hl h2 h64 (fun p' st' s2 a1 a2 a3 a4=>⟨p',a4.1,a1,a2,a3,a4.2⟩) (lA (fun s2=>s2=s0) (fun i j C s2 hi hj e hc=>by subst e;exact hask i j C (by omega) (by omega) (hc _ rfl)) (iC (n:=vs.length) (by omega)) (fun s2 e=>⟨rfl,e⟩) rfl)) ?_ fun _ _ e=>e)
   rintro ⟨⟨⟩,st'⟩ s2 ⟨p,hpn,hp,har,hf,rfl⟩
   dsimp only
   refine fin (p.toList.map fun i=>vs.getD i Value.none) st' (by rw[DK,Array.length_toList,hp]) ?_ (kat_snds hl har) hf
   unfold aL cF
   rw [if_neg (by rw[DK];omega),hpn,DK,hkn]
  ·have hn2:vs.toArray.size<2:=by rw[D5];omega
   rw [if_pos hn2,if_pos hn2]
   refine wpAny_bind (wpAny_pure ?_)
   refine wpAny_bind (wpAny_pure ?_)
   dsimp only
   refine fin vs _ rfl ?_ ?_ rfl
   ·unfold aL cF
    rw [if_pos (by rw[DK];omega),DK,hkn]
    apply E3
    ·simp
    ·intro i h1 h2
     simp at h2
     simp [h2]
   show (ks.toArray.zip vs.toArray).map (·.2)=_
   apply Array.toList_inj.mp
   simp
   exact List.map_snd_zip (by omega)
end
section
variable {X:Cx}{pins:List (Addr×Obj)}{σ:St}{H0:Hp}{f:Addr}{vs:List Value}{A:Around}{E:Value→Shared→Prop}{s:Shared}
theorem jr {kds:List PyData}{l:Addr}{Q:Value→Shared→Prop} (I:Inv X pins σ H0 s) (hl:s.heap.IsList l vs.toArray) (h64:vs.length<64) (hu:A.in1.in1.units+64<cLine)
  (hkn:kds.length=vs.length) (hkk:yG kds) (call:∀ i (h:i<vs.length),∀ H s',Inv X pins σ H s'→aO H0 H→wpAny (model X.prog X.w) A.in1.in1 (call (.ref f) [vs[i]]) (fv X pins σ H s' (kds.getD i .none)) (fun _ _=>False) s')
  (h : ∀ H s' D c,Inv X pins σ H s'→aO H0 H→fE X pins H D→s'.heap.get? D=some (seqObj "list" (cF (aL (kds.map cq)) vs Value.none).toArray c)→Q (.ref D) s') :
  wpAny (model X.prog X.w) A (PySem.call (.builtin "sorted") [.ref l] [(Str.ofString "key",.ref f)]) Q E s:=by
 refine call_function_entry_kw kind_sorted plain_sorted entry_sorted (ksk_s1 _ _) ?_
 unfold Builtin.«sorted»
 refine wpAny_bind (m:=checkCount "sorted" 1 1 _) (wpAny_pure ?_)
 refine wpAny_bind (collect_list hl ?_ (by rw[sizeLine_eq];omega))
 refine wpAny_bind (wpAny_newList ?_ (by rw[sizeLine_eq];omega))
 have hsz:((s.heap.push (seqObj "list" #[] 0)).update s.heap.objs.size (Obj.mapSeq (·++vs.toArray))).objs.size=s.heap.objs.size+1:=by
  rw [E8,size_push']
 have hoL:(((s.heap.push (seqObj "list" #[] 0)).update s.heap.objs.size (Obj.mapSeq (·++vs.toArray))).push (seqObj "list" vs.toArray 0)).get? (s.heap.objs.size+1)=some (seqObj "list" vs.toArray 0):=by
  rw [←hsz];exact D8 _ rfl
 have keep:∀ b o,s.heap.get? b=some o→(((s.heap.push (seqObj "list" #[] 0)).update s.heap.objs.size (Obj.mapSeq (·++vs.toArray))).push (seqObj "list" vs.toArray 0)).get? b=some o:=fun b o q=>by
  have hlt:b<s.heap.objs.size:=D7 q
  rw [Heap.get?_push_ne _ _ _ (by rw[hsz];exact Ed (E5 hlt)),Fo _ _ _ _ (Ed hlt),Heap.get?_push_ne _ _ _ (Ed hlt)]
  exact q
 show wpAny _ _ _ _ _ { s with heap:=((s.heap.push (seqObj "list" #[] 0)).update s.heap.objs.size (Obj.mapSeq (·++vs.toArray))).push (seqObj "list" vs.toArray 0) }
 rw [hsz]
 refine wpAny_bind (wpAny_holding (wpAny_call_entry_kw slot_list_sort ⟨_,hoL,rfl⟩ entry_list_sort ?body (ksk_l1 _ _)))
 case body =>
  show wpAny (model X.prog X.w) A.in1.in1 (Builtin.«list.sort» ⟨[.ref (s.heap.objs.size+1)],[(Str.ofString "key",.ref f)]⟩) _ _ _
  rw [ksk_t1]
  refine nW (kds:=kds) (I.kept (t':=s.toks) keep) (I.fpOk (EO _) (I.hok.fresh (EO _))) hoL h64 hu hkn hkk call fun H s' c I' sm fp g=>⟨_,rfl,wpAny_pure ⟨_,rfl,?_⟩⟩
  exact h H s' _ c I' sm fp g
end
theorem wA {K:PySem.W.Frag}{H:Hp}{vs:List V}{ds:List PyData} (q:DNs K N0 H vs ds):Rel K N0 N0 H (vs.map some) (vs.map some) (ds.map Sl.fr) [] H:=by
 have mm:∀ x s,(x,s)∈ay (vs.map some) (ds.map Sl.fr) []→∃ v d,x=some v∧s=.fr d∧(v,d)∈vs.zip ds:=fun x s m=>by
  have m:(x,s)∈(vs.map some).zip (ds.map Sl.fr)++[]:=m
  rw [Eh,List.zip_map] at m
  obtain ⟨⟨v,d⟩,hm,e⟩:=D4.mp m
  cases e
  exact ⟨v,d,rfl,rfl,hm⟩
 have oe:oas (ay (vs.map some) (ds.map Sl.fr) [])=[]:=List.flatMap_eq_nil_iff.mpr fun ⟨x,s⟩ m=>by
  obtain ⟨v,d,rfl,rfl,_⟩:=mm x s m
  exact cY _ _
 have ne:∀ b,Nw N0 (ay (vs.map some) (ds.map Sl.fr) []) b→N0 b:=fun b z=>by
  rcases z with z|z
  ·exact z
  ·rw [oe] at z;cases z
 refine ⟨⟨aE.refl,fun a h=>h,fun a z=>z.elim,fun a z=>z,fun x e m=>?_,fun x e m=>?_,fun x e m=>?_,fun x S e m=>?_,by rw[oe];exact Ff⟩,by rw[DK,DK,q.len],fun w i m=>(by cases m),fun i ds' e=>rfl⟩
 ·obtain ⟨v,d,rfl,e1,hm⟩:=mm _ _ m
  cases e1
  exact ⟨v,rfl,(lC q _ hm).to fun b _ _ z=>ne b z⟩
 ·obtain ⟨v,d,_,e1,_⟩:=mm _ _ m;cases e1
 ·obtain ⟨v,d,_,e1,_⟩:=mm _ _ m;cases e1
 ·obtain ⟨v,d,_,e1,_⟩:=mm _ _ m;cases e1
noncomputable def ly (tb:DE) (es:List PyData) (kd:PyData):Prop:=tb (es.map .fr) fun s env=>aD env s=some kd
section
variable {X:Cx}{pins:List (Addr×Obj)}{σ:St}{H:Hp}{s:Shared}{params:Arguments}{scope:Scope}{body:Expr}{f c c':Addr}{qual p x:Str}{pm ctv:Value}{k:Nat}{A:Around}{tb:DE}{kd:PyData}
theorem qJ {fl:Except Value Flow}{s':Shared} (I:Inv X pins σ H s) (hq:CR CX0 X.stack X.prog X.w H s (fun v H'=>aO H H'∧DN X.K N0 H' v kd) E0 fl s'):∃ r,fl=.ok (.ret r)∧fv X pins σ H s kd r s':=by
 cases fl with
 | error e=>exact hq.elim
 | ok fl =>
  cases fl with
  | ret z =>
   obtain ⟨v1,H',os,bare,un,hok,rv,sm,dn⟩:=hq
   refine ⟨_,rfl,H',v1,I.call' (ch:=[]) os un hok bare (fun b z=>nomatch z),sm,rv,dn,fun b o hfp e=>⟨un.keep b o e hfp.1 (fun z=>?_) (by simp),un.free b o e hfp.1 (by simp)⟩⟩
   rcases D3.mp (I.stkSub b z) with z|z
   ·exact hfp.2.1 z
   ·exact hfp.2.2.1 z
  | next=>exact False.elim hq
  | brk=>exact False.elim hq
  | cont=>exact False.elim hq
theorem vt {vs:List V}{ds:List PyData} (q:DNs X.K N0 H vs ds) (hk:ly tb ds kd):up X.K tb (vs.map some) H fun v H'=>aO H H'∧DN X.K N0 H' v kd:=by
 refine ⟨N0,N0,H,_,_,[],_,wA q,hk,fun s1 env' v' H' hR rel'=>⟨(rel'.e.keep).none,?_⟩⟩
 have:=rel'.kept (ts:=[]) (v:=v') (s:=s1) (by simp) hR
 exact this.to fun b _ _ z=>z.elim
theorem tQ {d:PyData}{v:V}{u:Value} (I:Inv X pins σ H s) (hA:lQ X.prog X.w X.K X.mg X.base A X.stack s H) (hr:ca (k+1) A) (S:au [p] [p] scope)
  (hb:bindArgs (kla_fn "<lambda>" qual params body scope [] pm (.ref c') ctv) ⟨[u],[]⟩=pure [(p,u)])
  (hbody:PE (dH CX0 X.prog X.w X.K X.mg X.base [p] qual scope f (.ref c') A X.stack s H E0) body (up X.K tb))
  (ho:s.heap.get? f=some (kla_obj "<lambda>" qual params body scope [] pm c' ctv)) (hcd:s.heap.CodeRec (.ref c') qual) (r:bz v u) (hd:DN X.K N0 H v d) (hk:ly tb [d] kd) :
  wpAny (model X.prog X.w) A (call (.ref f) [u]) (fv X pins σ H s kd) (fun _ _=>False) s :=
 wpAny_call (codeAny_mono (xB (CX:=CX0) (E:=E0) (ps:=[p]) (us:=[u]) (vs:=[v]) S hr hA ho hcd hb (.cons r .nil) rfl hbody (vt (.cons hd .nil) hk)) fun res s' hq=>by
  obtain ⟨z,rfl,h⟩:=qJ I hq
  exact h)
theorem tR {d d0:PyData}{v v0:V}{u u0:Value} (I:Inv X pins σ H s) (hA:lQ X.prog X.w X.K X.mg X.base A X.stack s H) (hr:ca (k+1) A) (S:eF p x scope)
  (hb:bindArgs (kla_fn "<lambda>" qual params body scope [(x,c)] pm (.ref c') ctv) ⟨[u],[]⟩=pure [(p,u)])
  (hbody:PE (sx CX0 X.prog X.w X.K X.mg X.base [p,x] qual scope f (.ref c') [(x,c)] A X.stack s H E0) body (up X.K tb))
  (ho:s.heap.get? f=some (kla_obj "<lambda>" qual params body scope [(x,c)] pm c' ctv)) (hcd:s.heap.CodeRec (.ref c') qual) (hcell:s.heap.IsCell c (some u0)) (r0:bz v0 u0) (hc0:H c=none)
  (r : bz v u) (hd:DN X.K N0 H v d) (hd0:DN X.K N0 H v0 d0) (hk:ly tb [d,d0] kd) :
  wpAny (model X.prog X.w) A (call (.ref f) [u]) (fv X pins σ H s kd) (fun _ _=>False) s :=
 wpAny_call (codeAny_mono (tP (CX:=CX0) (E:=E0) S hr hA ho hcd hb hcell r0 hc0 r hbody (vt (.cons hd (.cons hd0 .nil)) hk)) fun res s' hq=>by
  obtain ⟨z,rfl,h⟩:=qJ I hq
  exact h)
end
section
variable {X:Cx}{K:PySem.W.Frag}{e:Expr}{t:TA}{q0 pos kpos lpos:Pos}{params:Arguments}{scope:Scope}{body:Expr}{p x:Str}{i:Nat}{tb:DE}{KR:St→Hp→PyData→PyData→Prop}
noncomputable def wt (K:PySem.W.Frag) (KR:St→Hp→PyData→PyData→Prop) (t:TA):TE:=fun σ H Q=>t σ H fun xs H1=>∃ (q:Addr) (vs:List V) (N:Addr→Prop) (ds kds:List PyData),xs=[.ref q]∧SqL K H1 q vs∧DNs K N H1 vs ds∧kds.length=ds.length∧yG kds∧(∀ i,i<ds.length→KR σ H1 (ds.getD i .none) (kds.getD i .none))∧vs.length<64 ∧
 ∀ H2,aO H1 H2→∀ q,H2 q=none→Q (.ref q) (upd H2 q (.lst (cF (aL (kds.map cq)) vs .non)))
theorem qa (hK:X.K=K) (L:o6 X) (hr:ca 4 X.A) (hg:Gl X "sorted") (hm:X.mg "sorted" = none) (ha:PA X [e] t) (hdef:defaultsOf params X.env=([],[]))
  (hcl:∀ {pins:List (Addr×Obj)}{s:Shared}{σ:St}{H:Hp},Inv X pins σ H s→∃ clos,closureFor scope X.env=pure clos)
  (hkr:∀ {σ:St}{H H':Hp}{d kd:PyData},KR σ H d kd→aO H H'→KR σ H' d kd)
  (hcall:∀ {pins:List (Addr×Obj)}{s:Shared}{σ:St}{H:Hp}{clos:List (Str×Addr)}{f c':Addr}{pm ctv u:Value}{v:V}{d kd:PyData},Inv X pins σ H s→closureFor scope X.env=pure clos→s.heap.get? f=some (kla_obj "<lambda>" (X.env.qual ++ "<lambda>") params body scope clos pm c' ctv)→s.heap.CodeRec (.ref c') (X.env.qual ++ "<lambda>") →
   bz v u→DN X.K N0 H v d→KR σ H d kd→wpAny (model X.prog X.w) X.A.in1.in1 (call (.ref f) [u]) (fv X pins σ H s kd) (fun _ _=>False) s)
  (he2:backTo pos (starEach [e] X.env)=(false,eval e X.env)::backTo pos (starEach [] X.env)) :
  PE X (.Call (.Name "sorted" q0) [e] [⟨some "key",.Lambda params body scope lpos,kpos⟩] pos) (wt K KR t):=by
 subst hK
 intro pins s σ H Q I h
 obtain ⟨clos,hc⟩:=hcl I
 refine wpAny_Call_Name_kw (gq I hg hm boot_sorted ?_ (by decide) (by decide))
 refine callWith_kw (thn (ha pos pins s σ H _ I h) fun us s1 ⟨xs,H1,I1,r,q⟩=>?_) he2 (by rw[he2];rfl) rfl rfl
 show wpAny _ _ (evalAll [(do let v ←eval (.Lambda params body scope lpos) X.env;standAt pos;pure v)]) _ _ s1
 refine wpAny_evalAll_cons (wpAny_bind (qF I1 L hc hdef fun f c' pm ctv s2 H2 I2 sm hfo fpf cz=>wpAny_bind (wpAny_standAt (wpAny_pure (wpAny_evalAll_nil ?_)))))
 obtain ⟨p0,vs,N,ds,kds,rfl,sq,dn,hkl,hkk,hkey,h64,q⟩:=q
 obtain ⟨u,rfl,ru⟩:=ji r
 cases (show u=Value.ref p0 from ru)
 obtain ⟨its,rv,hp,_⟩:=I2.list (sm.seq sq)
 have hlen:=rv.length
 obtain ⟨fo,hfo'⟩:∃ fo,fo=kla_obj "<lambda>" (X.env.qual ++ "<lambda>") params body scope clos pm c' ctv:=⟨_,rfl⟩
 rw [←hfo'] at hfo
 have I3:Inv X ((f,fo)::pins) σ H2 s2:=I2.pins_of fun z hz=>by
  rcases D3.mp hz with rfl|hz
  ·exact ⟨hfo,fpf.1,fpf.2.1,fpf.2.2.1,fun v=>by rw[hfo'];exact fun z=>by cases z⟩
  ·exact I2.pin z (DL _ hz)
 have dn2:DNs X.K N0 H2 vs ds:=(dn.keep (aE.same sm)).to fun b _ _ z=>z.elim
 show wpAny _ _ (PySem.call (.builtin "sorted") [.ref p0] [(Str.ofString "key",.ref f)]) _ _ _
 have hdl:ds.length=vs.length:=dn.len.symm
 refine jr (kds:=kds) I3 hp.isList (by omega) ?_ (by omega) hkk (fun i hi H' s' I' sm'=>?_) fun H' s' D c I' sm' fpD gD=>?_
 ·have:=hr.un
  show X.A.units+1+1+64<cLine
  omega
 ·obtain ⟨v,rx,dx,md⟩:=ut dn2 rv i hi
  have gf:=(I'.pin (f,fo) (DL _ DY)).1
  rw [hfo'] at gf
  obtain ⟨oc,u,ws,t,e1,e2,e3⟩:=cz
  obtain ⟨goc,_⟩:=I'.hok c' _ (sm' _ _ e1)
  exact hcall I' hc gf ⟨_,_,_,_,rfl,goc,e2,e3⟩ rx (dx.keep (aE.same sm')) (hkr (hkey i (by omega)) (sm.trans sm'))
 ·have I4:Inv X pins σ H' s':=I'.pins_of fun z hz=>I'.pin z (DL _ (D0 _ hz))
  have fpD':fE X pins H' D:=⟨fpD.1,fpD.2.1,fpD.2.2.1,fpD.2.2.2.1,fpD.2.2.2.2.1,fun z hz=>fpD.2.2.2.2.2 z (by
   rcases DQ.mp hz with hz|hz
   ·exact DP _ hz
   ·exact DL _ (D0 _ hz))⟩
  have hlt:∀ i∈aL (kds.map cq),i<vs.length:=fun i hi=>by have:=cW i hi;rw[DK] at this;omega
  refine ⟨.ref D,upd H' D (.lst (cF (aL (kds.map cq)) vs .non)),I4.track fpD' ⟨?_,_,c,dU rv hlt,gD⟩,rfl,q _ (sm.trans sm') _ fpD.1⟩
  unfold cF
  rw [DK,(bG _).length_eq,EA,DK,sizeLine_eq]
  omega
theorem w9 (hK:X.K=K) (L:o6 X) (hr:ca 4 X.A) (hg:Gl X "sorted") (hm:X.mg "sorted" = none) (ha:PA X [e] t) (S:au [p] [p] scope)
  (hb:∀ (qual:Str) (pm c ctv u:Value),bindArgs (kla_fn "<lambda>" qual params body scope [] pm c ctv) ⟨[u],[]⟩=pure [(p,u)])
  (hcl:closureFor scope X.env=pure []) (hdef:defaultsOf params X.env=([],[]))
  (hbody:∀ (A:Around) (s:Shared) (H:Hp) (f:Addr) (cd:Value),PE (dH CX0 X.prog X.w X.K X.mg X.base [p] (X.env.qual ++ "<lambda>") scope f cd A X.stack s H E0) body (up X.K tb))
  (he2:backTo pos (starEach [e] X.env)=(false,eval e X.env)::backTo pos (starEach [] X.env)) :
  PE X (.Call (.Name "sorted" q0) [e] [⟨some "key",.Lambda params body scope lpos,kpos⟩] pos) (wt K (fun _ _ d kd=>ly tb [d] kd) t) :=
 qa hK L hr hg hm ha hdef (fun _=>⟨[],hcl⟩) (fun h _=>h) (fun I hc ho hcd r hd hk=>by
  rw [hcl] at hc
  cases hc
  exact tQ (k:=1) I I.env0.in1.in1 hr.in1.in1 S (hb _ _ _ _ _) (hbody _ _ _ _ _) ho hcd r hd hk) he2
theorem xa (hK:X.K=K) (L:o6 X) (hr:ca 4 X.A) (hg:Gl X "sorted") (hm:X.mg "sorted" = none) (ha:PA X [e] t) (S:eF p x scope)
  (hN:X.N[i]? = some x) (hv:Vis X.env.scope x) (hcel:X.env.kindOf x=some .cell∨X.env.kindOf x=some .free) (hnl:X.env.kindOf x≠some .local)
  (hb:∀ (qual:Str) (cl:List (Str×Addr)) (pm c ctv u:Value),bindArgs (kla_fn "<lambda>" qual params body scope cl pm c ctv) ⟨[u],[]⟩=pure [(p,u)])
  (hcl:∀ c,X.env.cells.lookup x=some c→closureFor scope X.env=pure [(x,c)]) (hdef:defaultsOf params X.env=([],[]))
  (hbody:∀ (A:Around) (s:Shared) (H:Hp) (f:Addr) (cd:Value) (c:Addr),ca 1 (A.deeper (envX (X.env.qual ++ "<lambda>") scope s.heap.objs.size f cd [(x,c)]))→PE (sx CX0 X.prog X.w X.K X.mg X.base [p,x] (X.env.qual ++ "<lambda>") scope f cd [(x,c)] A X.stack s H E0) body (up X.K tb))
  (he2:backTo pos (starEach [e] X.env)=(false,eval e X.env)::backTo pos (starEach [] X.env)) :
  PE X (.Call (.Name "sorted" q0) [e] [⟨some "key",.Lambda params body scope lpos,kpos⟩] pos) (wt K (fun σ H d kd=>∃ v0 d0,σ[i]? = some (some v0)∧DN K N0 H v0 d0∧ly tb [d,d0] kd) t):=by
 subst hK
 refine qa rfl L hr hg hm ha hdef (fun I=>?_) (fun h sm=>?_) (fun {pins s σ H clos f c' pm ctv u v d kd} I hc ho hcd r hd hk=>?_) he2
 ·obtain ⟨c,hc⟩:=I.ok.has x hcel
  exact ⟨_,hcl c hc⟩
 ·obtain ⟨v0,d0,e0,dn,hk⟩:=h
  exact ⟨v0,d0,e0,dn.keep (aE.same sm),hk⟩
 ·obtain ⟨c,hc'⟩:=I.ok.has x hcel
  rw [hcl c hc'] at hc
  cases hc
  obtain ⟨v0,d0,hv0,dn0,hk⟩:=hk
  obtain ⟨m,hns,hloc⟩:=I.loc
  obtain ⟨u0,ru0,hlook⟩:=hloc i x v0 hN hv0 hv
  have hcellX:s.heap.IsCell c (some u0):=by
   rcases hlook with ⟨z,_⟩|⟨_,c2,ec2,ic⟩
   ·exact absurd z hnl
   ·rw [hc'] at ec2
    cases ec2
    exact ic
  have hrr:ca 2 X.A.in1.in1:=hr.in1.in1
  exact tR (k:=1) I I.env0.in1.in1 hrr S (hb _ _ _ _ _ _) (hbody _ _ _ _ _ _ (hrr.deeper _)) ho hcd hcellX ru0 (I.freeC x c hc') r hd dn0 hk
noncomputable def lz:PyData→PyData
 | .list es=>.tuple [.int es.length,.list es]
 | d=>d
noncomputable def vv (tb:DE) (d kd:PyData):Prop:=tb [.fr d] fun s env=>aD env s=some kd
noncomputable def qK (tb:DE) (d d0 kd:PyData):Prop:=tb [.fr d,.fr d0] fun s env=>aD env s=some kd
noncomputable def yf (tb:DE) (t:DA):DE:=fun env R=>t env fun ss env1=>∃ s ds kf,ss=[s]∧aH env1 s=some (.list ds)∧ds.length<64∧yG (ds.map kf)∧(∀ d∈ds,vv tb d (kf d))∧R (.ow (cF (aL ((ds.map kf).map cq)) ds .none)) env1
noncomputable def yg (tb:DE) (i:Nat) (t:DA):DE:=fun env R=>t env fun ss env1=>∃ s ds d0 kf,ss=[s]∧aH env1 s=some (.list ds)∧env1[i]? = some (.fr d0)∧ds.length<64∧yG (ds.map kf)∧(∀ d∈ds,qK tb d d0 (kf d))∧R (.ow (cF (aL ((ds.map kf).map cq)) ds .none)) env1
variable {tl:DA}
theorem qV {ds:List PyData}{kf:PyData→PyData}{P:PyData→PyData→Prop} (h:∀ d∈ds,P d (kf d)) {i:Nat} (hi:i<ds.length):P (ds.getD i .none) ((ds.map kf).getD i .none):=by
 have e1:ds.getD i .none=ds[i]:=by simp[DW,hi]
 have e2:(ds.map kf).getD i .none=kf ds[i]:=by simp[DW,hi]
 rw [e1,e2]
 exact h _ (EE hi)
theorem p8 {K:PySem.W.Frag}{N:Addr→Prop}{H:Hp}{us:List V}{ds:List PyData}{kf:PyData→PyData} (q:DNs K N H us ds):DNs K N H (cF (aL ((ds.map kf).map cq)) us .non) (cF (aL ((ds.map kf).map cq)) ds .none) :=
 iW q fun i hi=>by have:=cW i hi;rw[DK,DK] at this;rw[q.len];exact this
theorem zk (hK:X.K=K) (L:o6 X) (hr:ca 4 X.A) (hg:Gl X "sorted") (hm:X.mg "sorted" = none) (ha:PA X [e] (upA K tl)) (S:au [p] [p] scope)
  (hb:∀ (qual:Str) (pm c ctv u:Value),bindArgs (kla_fn "<lambda>" qual params body scope [] pm c ctv) ⟨[u],[]⟩=pure [(p,u)])
  (hcl:closureFor scope X.env=pure []) (hdef:defaultsOf params X.env=([],[]))
  (hbody:∀ (A:Around) (s:Shared) (H:Hp) (f:Addr) (cd:Value),PE (dH CX0 X.prog X.w X.K X.mg X.base [p] (X.env.qual ++ "<lambda>") scope f cd A X.stack s H E0) body (up X.K tb))
  (he2:backTo pos (starEach [e] X.env)=(false,eval e X.env)::backTo pos (starEach [] X.env):=by rfl) :
  PE X (.Call (.Name "sorted" q0) [e] [⟨some "key",.Lambda params body scope lpos,kpos⟩] pos) (up K (yf tb tl)) :=
 (w9 (K:=K) (tb:=tb) hK L hr hg hm ha S hb hcl hdef hbody he2).imp fun σ H Q h=>by
 obtain ⟨M,P,H0,σ0,env,ts,R,rel,ht,hq⟩:=h
 refine ⟨M,P,H0,σ0,env,ts,_,rel,ht,fun ss env1 vs H1 h1 hl rel1=>?_⟩
 obtain ⟨s,ds,kf,rfl,e1,h64,hkk,hk,hR⟩:=h1
 obtain ⟨v,rfl⟩:=sr hl
 obtain ⟨a,us,rfl,sq,q⟩:=(rel1.view (v:=v) (by simp) e1).list
 exact ⟨a,us,_,ds,ds.map kf,rfl,sq,q,DK ..,hkk,fun i hi=>qV (P:=fun d kd=>ly tb [d] kd) hk hi,by rw[q.len];exact h64,fun H2 sm p' hp=>hq _ _ _ _ hR ((rel1.same sm).resOw hp (p8 (q.keep (aE.same sm))))⟩
theorem zl (i:Nat) (hK:X.K=K) (L:o6 X) (hr:ca 4 X.A) (hg:Gl X "sorted") (hm:X.mg "sorted" = none) (ha:PA X [e] (upA K tl)) (S:eF p x scope)
  (hN:X.N[i]? = some x) (hv:Vis X.env.scope x) (hcel:X.env.kindOf x=some .cell∨X.env.kindOf x=some .free) (hnl:X.env.kindOf x≠some .local)
  (hb:∀ (qual:Str) (cl:List (Str×Addr)) (pm c ctv u:Value),bindArgs (kla_fn "<lambda>" qual params body scope cl pm c ctv) ⟨[u],[]⟩=pure [(p,u)])
  (hcl:∀ c,X.env.cells.lookup x=some c→closureFor scope X.env=pure [(x,c)]) (hdef:defaultsOf params X.env=([],[]))
  (hbody:∀ (A:Around) (s:Shared) (H:Hp) (f:Addr) (cd:Value) (c:Addr),ca 1 (A.deeper (envX (X.env.qual ++ "<lambda>") scope s.heap.objs.size f cd [(x,c)]))→PE (sx CX0 X.prog X.w X.K X.mg X.base [p,x] (X.env.qual ++ "<lambda>") scope f cd [(x,c)] A X.stack s H E0) body (up X.K tb))
  (he2:backTo pos (starEach [e] X.env)=(false,eval e X.env)::backTo pos (starEach [] X.env):=by rfl) :
  PE X (.Call (.Name "sorted" q0) [e] [⟨some "key",.Lambda params body scope lpos,kpos⟩] pos) (up K (yg tb i tl)) :=
 (xa (K:=K) (tb:=tb) hK L hr hg hm ha S hN hv hcel hnl hb hcl hdef hbody he2).imp fun σ H Q h=>by
 obtain ⟨M,P,H0,σ0,env,ts,R,rel,ht,hq⟩:=h
 refine ⟨M,P,H0,σ0,env,ts,_,rel,ht,fun ss env1 vs H1 h1 hl rel1=>?_⟩
 obtain ⟨s,ds,d0,kf,rfl,e1,e0,h64,hkk,hk,hR⟩:=h1
 obtain ⟨v,rfl⟩:=sr hl
 obtain ⟨a,us,rfl,sq,q⟩:=(rel1.view (v:=v) (by simp) e1).list
 obtain ⟨x0,ex,m0⟩:=rel1.slot e0
 obtain ⟨v0,ev0,dn0⟩:=rel1.e.fr _ _ m0
 exact ⟨a,us,_,ds,ds.map kf,rfl,sq,q,DK ..,hkk,fun i hi=>⟨v0,d0,by rw[ex,ev0],dn0.to fun b _ _ z=>z.elim,qV (P:=fun d kd=>ly tb [d,d0] kd) hk hi⟩,by rw[q.len];exact h64,fun H2 sm p' hp=>hq _ _ _ _ hR ((rel1.same sm).resOw hp (p8 (q.keep (aE.same sm))))⟩
end
end L2
namespace L2
open PySem PySem.Spec PyProof.Rows
noncomputable def Ev (t:DE) (env:List Sl) (s:Sl):Prop:=∀ R:Sl→List Sl→Prop,R s env→t env R
noncomputable def EvA (t:DA) (env:List Sl) (ss:List Sl):Prop:=∀ R:List Sl→List Sl→Prop,R ss env→t env R
noncomputable def EvT (t:DT) (env:List Sl) (k:Bool):Prop:=∀ R:Bool→List Sl→Prop,R k env→t env R
noncomputable def EvO (t:DO) (env:List Sl) (k:Option Int):Prop:=∀ R:Option Int→List Sl→Prop,R k env→t env R
noncomputable def EvI (t:DI) (env:List Sl) (ds:List PyData):Prop:=∀ R:List PyData→List Sl→Prop,R ds env→t env R
noncomputable def E2 (g:G2) (d e x:PyData):Prop:=∀ R:PyData→Prop,R x→g d e R
noncomputable def E1 (g:G1) (d x:PyData):Prop:=∀ R:PyData→Prop,R x→g d R
noncomputable def EB (g:GB) (ds:List PyData) (x:PyData):Prop:=∀ R:PyData→Prop,R x→g ds R
noncomputable def EL (g:PyData→PyData→(List PyData→Prop)→Prop) (d e:PyData) (x:List PyData):Prop:=∀ R:List PyData→Prop,R x→g d e R
section
variable {env:List Sl}{s s1 s2 s':Sl}{d d1 d2 x e:PyData}{ds es xs ys:List PyData}{i j:Nat}{m n:Int}{ta tb te:DE}{tl:DA}{ss:List Sl}{g:G2}{k:Bool}{DD:kz}
theorem Ap (h:(env[i]?).bind slD=some d):Ev (A8 i) env (.vw i):=fun _ r=>⟨d,h,r⟩
theorem Du:Ev (dC d) env (.fr d):=fun _ r=>r
theorem Ax (h:env[i]? = some (.fr d)):Ev (yE i) env (.fr d):=fun R r=>by unfold yE;rw[h];exact r
theorem Cd (h1:Ev ta env s1) (h2:Ev tb env s2) (e1:aH env s1=some d1) (e2:aH env s2=some d2) (h:E2 g d1 d2 x):Ev (dOp g ta tb) env (.fr x):=fun _ r=>h1 _ (h2 _ ⟨d1,d2,e1,e2,h _ r⟩)
theorem As {g:PyData→PyData→(List PyData→Prop)→Prop} (h1:Ev ta env s1) (h2:Ev tb env s2) (e1:aH env s1=some d1) (e2:aH env s2=some d2) (h:EL g d1 d2 xs):Ev (AK g ta tb) env (.ow xs):=fun _ r=>h1 _ (h2 _ ⟨d1,d2,e1,e2,h _ r⟩)
theorem Cc {g:G1} (h1:Ev ta env s1) (e1:aH env s1=some d1) (h:E1 g d1 x):Ev (dUn g ta) env (.fr x):=fun _ r=>h1 _ ⟨d1,e1,h _ r⟩
theorem Cg {g:GB} (h1:EvA tl env ss) (e1:dW env ss=some ds) (h:EB g ds x):Ev (dCB g tl) env (.fr x):=fun _ r=>h1 _ ⟨ds,e1,h _ r⟩
theorem Aq (h1:EvA tl env ss) (e1:aQ env ss=some ds) (z:ss.length≤sizeLine):Ev (A9 tl) env (.fr (.tuple ds)):=fun _ r=>h1 _ ⟨ds,e1,z,r⟩
theorem Aw (h1:EvA tl env ss) (e1:aQ env ss=some ds) (z:ss.length≤sizeLine):Ev (Be tl) env (.ow ds):=fun _ r=>h1 _ ⟨ds,e1,z,r⟩
theorem xV (h1:Ev ta env s1) (h2:Ev tb env s2) (e1:aH env s1=some (.tuple xs)) (e2:aH env s2=some (.tuple ys)) (z:xs.length+ys.length≤sizeLine):Ev (uz ta tb) env (.fr (.tuple (xs++ys))):=fun _ r=>h1 _ (h2 _ ⟨xs,ys,e1,e2,z,r⟩)
theorem Ar {l h:Option Int}{t1 t2:DO} (h1:Ev te env s) (h2:EvO t1 env l) (h3:EvO t2 env h) (e1:aH env s=some (.list ds)):Ev (Ba te t1 t2) env (.ow (oV ds l h)):=fun _ r=>h1 _ (h2 _ (h3 _ ⟨ds,e1,r⟩))
theorem Ce:EvO iZ env none:=fun _ r=>r
theorem xT (h1:Ev te env s) (e1:aH env s=some (.int n)):EvO (uw te) env (some n):=fun _ r=>h1 _ ⟨n,e1,r⟩
theorem Av:EvA Bd env []:=fun _ r=>r
theorem xU (h1:Ev te env s) (h2:EvA tl env ss):EvA (uy te tl) env (s::ss):=fun _ r=>h1 _ (h2 _ r)
theorem xS (h1:Ev te env s) (e1:aH env s=some (.bool k)):EvT (oR te) env k:=fun _ r=>h1 _ ⟨k,e1,r⟩
theorem Au {t:DT} (h1:EvT t env k):EvT (Bc t) env (!k):=fun _ r=>h1 _ r
theorem ul (h1:Ev te env s) (e1:aH env s=some d) (e2:uP d=some k):EvT (nw te) env k:=fun _ r=>h1 _ ⟨d,k,e1,e2,r⟩
theorem Cf {n:String} (h1:Ev te env s) (e1:aH env s=some d) (e2:xq d=true):Ev (dIs n te) env (.fr (.bool (isK n d))):=fun _ r=>h1 _ ⟨d,e1,e2,r⟩
theorem Dv {f:Int→Int→Int}:E2 (gI f) (.int m) (.int n) (.int (f m n)):=fun _ r=>⟨m,n,rfl,rfl,r⟩
theorem Cl {C:Int→Int→Prop}{f:Int→Int→Int} (c:C m n):E2 (gIC C f) (.int m) (.int n) (.int (f m n)):=fun _ r=>⟨m,n,rfl,rfl,c,r⟩
theorem Dw {f:Int→Int→Bool}:E2 (gB f) (.int m) (.int n) (.bool (f m n)):=fun _ r=>⟨m,n,rfl,rfl,r⟩
theorem Ck (h1:shp d) (h2:shp e):E2 gEq d e (.bool (PyData.eqv d e)):=fun _ r=>⟨h1,h2,r⟩
theorem Ch (h1:shp d) (h2:shp e):E2 gNe d e (.bool (!PyData.eqv d e)):=fun _ r=>⟨h1,h2,r⟩
theorem AG:E2 A5 d .none (.bool (gv d)):=fun _ r=>⟨rfl,r⟩
theorem x3:E2 uh d .none (.bool (!gv d)):=fun _ r=>⟨rfl,r⟩
theorem Ci (h1:dL d=some ds) (h2:atI ds n=some x):E2 gIx d (.int n) x:=fun _ r=>⟨ds,n,x,h1,rfl,h2,r⟩
theorem Cj {ns:List Int} (h1:dL e=some ds) (h2:bN ds=some ns):E2 gIn (.int n) e (.bool (decide (n∈ns))):=fun _ r=>⟨n,ds,ns,rfl,h1,h2,r⟩
theorem uo {ns:List Int} (h1:dL e=some ds) (h2:bN ds=some ns):E2 m8 (.int n) e (.bool (!decide (n∈ns))):=fun _ r=>⟨n,ds,ns,rfl,h1,h2,r⟩
theorem AH:E1 A1 (.int n) (.int (-n)):=fun _ r=>⟨n,rfl,r⟩
theorem AF (h:dL d=some es):EB A4 [d] (.int es.length):=fun _ r=>⟨d,es,rfl,h,r⟩
theorem AD:EB A3 [.int m,.int n] (.int (if n<m then n else m)):=fun _ r=>⟨m,n,rfl,r⟩
theorem AE:EB Dt [.int m,.int n] (.int (if n>m then n else m)):=fun _ r=>⟨m,n,rfl,r⟩
theorem AC {ns:List Int} (h:bN es=some ns):EB Dp [.list es] (.int ns.sum):=fun _ r=>⟨es,ns,rfl,h,r⟩
theorem AB (z:xs.length+ys.length≤sizeLine):EL A6 (.list xs) (.list ys) (xs++ys):=fun _ r=>⟨xs,ys,rfl,rfl,z,r⟩
theorem xY (h1:Ev te env s) (e1:aD env s=some (.list ds)):EvI (ny te) env ds:=fun _ r=>h1 _ ⟨ds,e1,r⟩
theorem AA (h1:Ev te env s) (e1:aD env s=some (.tuple ds)):EvI (Cn te) env ds:=fun _ r=>h1 _ ⟨ds,e1,r⟩
theorem xX (h1:EvA tl env [s]) (e1:aH env s=some (.int n)) (z1:-4611686018427387904≤n) (z2:n<4611686018427387904):EvI (uv tl) env (eW 0 n.toNat):=fun _ r=>h1 _ ⟨s,n,rfl,e1,z1,z2,r⟩
theorem xZ {b:Bool} (h1:EvA tl env [s]) (e1:aD env s=some (sqD b ds)):EvI (ux b tl) env (iU ds):=fun _ r=>h1 _ ⟨s,ds,rfl,e1,r⟩
theorem Az {b c:Bool} (h1:EvA tl env [s,s']) (e1:aD env s=some (sqD b ds)) (e2:aD env s'=some (sqD c es)):EvI (A7 b c tl) env (sk ds es):=fun _ r=>h1 _ ⟨s,s',ds,es,rfl,e1,e2,r⟩
theorem xz {n:Nat} (h:decide (n≤100)=true):n≤sizeLine:=D1 (of_decide_eq_true h) (D1 (by decide) af)
theorem ws_seq {t u:DS} (h:t { DD with nx:=u DD } env):yD t u DD env:=h
theorem yI (h1:Ev te env s) (z:i<env.length) (e1:gO env s=some s') (h:DD.nx (env.set i s')):vO i te DD env:=h1 _ ⟨s',z,e1,h⟩
theorem wj (h1:Ev te env s) (h:DD.nx env):oS te DD env:=h1 _ h
theorem yJ (h1:Ev te env s) (h:DD.rt s env):AJ te DD env:=h1 _ h
theorem yK {c:DT}{t u:DS} (h1:EvT c env k) (h:if k=true then t DD env else u DD env):AL c t u DD env:=h1 _ h
theorem yL {it:DI}{g:DG}{tb:DS} (h1:EvI it env ds) (h:FD ds g tb DD env):AN it g tb DD env:=h1 _ h
theorem yM {s0:Sl} (h1:Ev te env s) (e1:aD env s=some d) (e2:env[i]? = some s0) (e3:gj s0=some ds) (z:ds.length<sizeLine) (e4:cD s0 (ds++[d])=some s') (h:DD.nx (env.set i s')):oS (Bf i te) DD env:=⟨⟨ds,by rw[e2];exact e3⟩,h1 _ ⟨d,s0,ds,s',e1,e2,e3,z,e4,h⟩⟩
theorem wm {sp:DSp}{q:Nat}{s0:Sl}{l ds1 ds2:List PyData}{R:Sl→List Sl→Prop} (h1:EvA tl env ss) (a1:ss[q]? = some (.vw i)) (a2:env[i]? = some s0) (a3:gj s0=some l) (a4:aQ env (ss.take q)=some ds1) (a5:aQ env (ss.drop (q+1))=some ds2)
  (h : sp (ds1.map .fr++.io l::ds2.map .fr) (dK (fun r as=>∃ l' s',as[q]? = some (.io l')∧cD s0 l'=some s'∧R r (env.set i s')) ⟨⟩)):j9 sp q tl env R:=h1 _ ⟨i,s0,l,ds1,ds2,a1,a2,a3,a4,a5,h⟩
theorem yP {sp:DSp}{R:Sl→List Sl→Prop} (h1:EvA tl env ss) (e1:aQ env ss=some ds) (h:sp (ds.map .fr) (dK (fun r _=>R r env) ⟨⟩)):rC sp tl env R:=h1 _ ⟨ds,e1,h⟩
theorem yO {it:DI}{ix:List (Option Nat)}{g:DG}{tt:DT}{R:Sl→List Sl→Prop} (h1:EvI it env ds) (h:CD ds ix g tt te env (dK R ⟨⟩)):oU it ix g tt te env R:=h1 _ h
theorem w_pop {s0:Sl}{R:Sl→List Sl→Prop} (a1:env[i]? = some s0) (a2:gj s0=some ds) (a3:ds.getLast? = some d) (a4:cD s0 ds.dropLast=some s') (h:R (.fr d) (env.set i s')):Bb i env R:=⟨s0,ds,d,s',a1,a2,a3,a4,h⟩
theorem wg_name {R:List Sl→Prop} (z:i<env.length) (h:R (env.set i (.fr d))):nt i d env R:=⟨z,h⟩
theorem wk_K {R:Sl→List Sl→Prop}{w:Wn R} (h:R s env):dK R w s env:=h
theorem wx_set (h:te env fun s env1=>∃ s',i<env1.length∧gO env1 s=some s'∧DD.nx (env1.set i s')):vO i te DD env:=h
theorem wx_ret (h:te env DD.rt):AJ te DD env:=h
theorem wx_drop (h:te env fun _ env1=>DD.nx env1):oS te DD env:=h
end
end L2
namespace L2
open PySem PySem.Spec PyProof.Rows PySem.W
section
variable {X:Cx}{K:PySem.W.Frag}
end
section
variable {X:Cx}{tg:Expr}
end
section
variable {X:Cx}{K:PySem.W.Frag}{tg e:Expr}{p pos:Pos}{tl:DA}
end
end L2
namespace L2
open PySem PySem.Spec PyProof.Rows PySem.W PySem.Calls
section
variable {prog:Program}{w:World}{A:Around}{R:Result→Shared→Prop}{I:Addr}{fp wr:List Addr}{P:Nat→Value→Prop}{St:Nat→Heap→Prop}
end
section
variable {X:Cx}{K:PySem.W.Frag}{e:Expr}{tl:DA}{p pos kpos p3:Pos}
end
end L2
namespace L2
open PySem PySem.Spec PyProof.Rows PySem.W
section
variable {K:PySem.W.Frag}{M P N:Addr→Prop}{H0 H H':Hp}{σ0 σ:St}{env:List Sl}{ts tt:List (V×Sl)}{v:V}{s:Sl}{d:PyData}
end
section
variable {X:Cx}{x:Str}{p pos:Pos}{e:Expr}{es:List Expr}{k:Nat}{sp:DSp}{K:PySem.W.Frag}{tl:DA}
end
section
variable {X:Cx}{K:PySem.W.Frag}
noncomputable def Co (i:Nat) (u:DS):DS:=fun DD env=>∃ S d,env[i]? = some (.tr S d)∧u DD (env.set i (.fr d))
theorem pN (i:Nat) {ss:List Stmt}{u:DS} (h:PSs X ss (upS K u)):PSs X ss (upS K (Co i u)):=h.imp fun D σ H h=>by
 obtain ⟨M,P,H0,σ0,env,ts,DD,nv,rel,⟨S,d,e,hu⟩,ok⟩:=h
 exact ⟨M,P,H0,σ0,_,ts,DD,nv,rel.frzT e,hu,ok⟩
end
section
variable {X:Cx}{K:PySem.W.Frag}
end
theorem pY (ds:List PyData):(cF (aL (ds.map cq)) ds .none).Perm ds:=d5 (by have:=bG (ds.map cq);rwa [DK] at this)
noncomputable def FnI (K:PySem.W.Frag) (x:Str) (st:Stmt):Prop:=∃ f fd,PySem.W.nsIn K mainGlobals x=some (some (.ref f))∧Fun K x x st f fd
noncomputable def FnL (K:PySem.W.Frag) (x:Str) (st:Stmt):Prop:=∃ f fd,PySem.W.nsIn K mainGlobals x=some (some (.ref f))∧Fun K x x st f fd∧∀ base:Heap,K.In base→sf K base x fd
structure BnI (K:PySem.W.Frag):Prop where
 len:PySem.W.nsIn K mainGlobals "len" = some none
 range:PySem.W.nsIn K mainGlobals "range" = some none
 min:PySem.W.nsIn K mainGlobals "min" = some none
 max:PySem.W.nsIn K mainGlobals "max" = some none
 enumerate:PySem.W.nsIn K mainGlobals "enumerate" = some none
 zip:PySem.W.nsIn K mainGlobals "zip" = some none
 all:PySem.W.nsIn K mainGlobals "all" = some none
 any:PySem.W.nsIn K mainGlobals "any" = some none
 isinstance:PySem.W.nsIn K mainGlobals "isinstance" = some none
 bool:PySem.W.nsIn K mainGlobals "bool" = some none
 int:PySem.W.nsIn K mainGlobals "int" = some none
 list:PySem.W.nsIn K mainGlobals "list" = some none
 tuple:PySem.W.nsIn K mainGlobals "tuple" = some none
 sorted:PySem.W.nsIn K mainGlobals "sorted" = some none
 str:PySem.W.nsIn K mainGlobals "str" = some none
 sum:PySem.W.nsIn K mainGlobals "sum" = some none
 abs:PySem.W.nsIn K mainGlobals "abs" = some none
section
variable {P:Program}{w:World}{K:PySem.W.Frag}{mg:Str→Option Value}{base h:Heap}{x:Str}{st:Stmt}{f:Addr}{oc:Value}{od an:Option Addr}{osl:Array (Option Value)}{kV doc pm cdv ct:Value}{k:Nat}{ps:List Str}{sp:DSp}
theorem BnI.bn (X:K.In h) (G:h.Ns mainGlobals mg) (z:BnI K):Bn mg :=
 have m:∀ {y:Str},PySem.W.nsIn K mainGlobals y=some none→mg y=none:=fun e=>PySem.W.mg_none_of X G e
 ⟨m z.len,m z.range,m z.min,m z.max,m z.enumerate,m z.zip,m z.all,m z.any,m z.isinstance,m z.bool,m z.int,m z.list,m z.tuple,m z.sorted,m z.str,m z.sum,m z.abs⟩
theorem fnI (a:PySem.W.nsIn K mainGlobals x=some (some (.ref f))) (l:K.lookup f=some ⟨oc,od,.func (PySem.W.fnOf x x (cH st) (bB st) (ad st) .none kV doc pm an cdv ct),osl⟩) (c:PySem.W.codeIn K cdv x=true) (k:PySem.W.keepIn K (.ref f)=true):FnI K x st:=⟨f,_,a,qW l c k⟩
theorem fnL {cc T:Addr}{odc:Option Addr}{slc:Array (Option Value)}{vs:Array Value} (hx:x∈dF) (a:PySem.W.nsIn K mainGlobals x=some (some (.ref f))) (l:K.lookup f=some ⟨oc,od,.func (PySem.W.fnOf x x (cH st) (bB st) (ad st) .none kV doc pm an cdv ct),osl⟩) (c:PySem.W.codeIn K cdv x=true) (k:PySem.W.keepIn K (.ref f)=true)
  (hc:cdv=.ref cc) (lc:K.lookup cc=some ⟨.type "code",odc,.fields vs,slc⟩) (hT:si vs cc T):FnL K x st:=⟨f,_,a,qW l c k,fun base Xb=>z7 hx a l hc lc hT Xb⟩
theorem kB (X:K.In h) (G:h.Ns mainGlobals mg) (g:FnI K x st) (b:∀ {f:Addr}{fd:FuncData},Fun K x x st f fd→br K fd ps []) (ok:∀ {f:Addr}{fd:FuncData},Fun K x x st f fd→b7 P w K mg base CX0 k f fd ps (spD K sp)):Cal P w K mg base x k (spD K sp):=by
 obtain ⟨f,fd,a,F⟩:=g
 exact CS F (PySem.W.mg_of X G a) (b F) (ok F)
theorem CQ (X:K.In h) (G:h.Ns mainGlobals mg) (Xb:K.In base) (g:FnL K x st) (b:∀ {f:Addr}{fd:FuncData},Fun K x x st f fd→br K fd ps []) (ok:∀ {f:Addr}{fd:FuncData},Fun K x x st f fd→sf K base x fd→b7 P w K mg base CX0 k f fd ps (spD K sp)):Cal P w K mg base x k (spD K sp):=by
 obtain ⟨f,fd,a,F,L⟩:=g
 exact CS F (PySem.W.mg_of X G a) (b F) (ok F (L base Xb))
theorem AR {C:Addr}{sp:o7} (X:K.In h) (G:h.Ns mainGlobals mg) (g:FnI K x st) (b:∀ {f:Addr}{fd:FuncData},Fun K x x st f fd→br K fd ps []) (ok:∀ {f:Addr}{fd:FuncData},Fun K x x st f fd→b7 P w K mg base (CXE P w) k f fd ps (spX K C sp)):yH P w K mg base C x k sp:=by
 obtain ⟨f,fd,a,F⟩:=g
 exact Dz F (PySem.W.mg_of X G a) (b F) (ok F)
theorem Dk {l:PySem.W.OpenLaw}{fa:Addr} (X:K.In h) (G:h.Ns mainGlobals mg) (hfa:mg "law" = some (.ref fa)) (g:FnI K "law" st) (hb:∀ {fd:FuncData},Fun K "law" "law" st fa fd→∀ (s:Shared) (v:Value),BindsTo s fd ⟨[v],[]⟩ [("_law_script",v)])
  (ok:∀ {fd:FuncData}{base:Heap},Fun K "law" "law" st fa fd→K.In base→b7 l.prog w K mg base CX0 k fa fd ["_law_script"] (spD K sp)):∃ fd:FuncData,(∀ (s:Shared) (v:Value),BindsTo s fd ⟨[v],[]⟩ [("_law_script",v)])∧∀ base:Heap,K.In base→base.Ns mainGlobals mg→b7 l.prog w K mg base CX0 k fa fd ["_law_script"] (spD K sp):=by
 obtain ⟨f,fd,a,F⟩:=g
 have e:=hfa.symm.trans (PySem.W.mg_of X G a)
 cases e
 exact ⟨fd,hb F,fun base Xb _=>ok F Xb⟩
end
section
variable {X:Cx}{K:PySem.W.Frag}
end
section
variable {prog:Program}{w:World}{A:Around}{E:Value→Shared→Prop}{s:Shared}{d:Addr}{o:Obj}{es:Array DictEntry}{ep:Nat}
theorem xy {Q:Value→Shared→Prop} (hne:(d==sysModules)=false) (ho:s.heap.get? d=some o) (hc:o.ExactDict) (hdat:o.data=.dict es ep) (hfit:(es.size:Int)<2 ^ 63)
  (h : Q (.int es.size (s.toks+1)) { s with toks:=s.toks+1+1 }):wpAny (model prog w) A (call (.builtin "len") [.ref d]) Q E s:=by
 have hT:s.TypeIs (.ref d) "dict" := ⟨o,ho,hc.1⟩
 have g:MeetsIn prog w (Builtin.«dict.__len__» ⟨[.ref d],[]⟩) (fun _ R s=>∃ o ep,s.heap.get? d=some o∧o.data=.dict es ep∧R (.ok (.ret (.int es.size s.toks))) { s with toks:=s.toks+1 }) :=
  .of_wp fun A R s ⟨o,ep,ho,hdat,h⟩=>by
   show wpAny _ _ (dictSize d >>= _) _ _ s
   unfold dictSize
   refine wpAny_bind (wpAny_bind (wpAny_dictEntries ho hdat (wpAny_pure ?_)))
   show wpAny _ _ (Builtin.Dict.pendingCount d >>= _) _ _ s
   refine wpAny_bind (wpAny_pendingCount_other hne ?_)
   refine wpAny_ret_mkInt ?_
   rw [Nat.add_zero]
   exact h
 refine Calls.call_function_entry kind_len plain_len entry_len (args_len1 _) ?_
 unfold Builtin.«len»
 refine wpAny_bind (m:=oneArg "len" _) (wpAny_pure ?_)
 refine wpAny_bind (m:=callSpecial? (.ref d) (Str.ofString "__len__")) (wpAny_callSpecial?_slot (name:=Str.ofString "__len__") hT F.slot_dict_len
  (call_meetsIn F.slot_dict_len hT F.entry_dict_len (F.args_dict_len_1 _) g ⟨o,ep,ho,hdat,?_⟩))
 show wpAny _ _ _ _ _ { s with toks:=s.toks+1 }
 refine wpAny_bind (wpAny_holding (wpAny_pure ?_))
 refine wpAny_bind (wpAny_letGo ?_)
 show wpAny _ _ (if ((es.size:Nat):Int)<0 then _ else _) _ _ _
 rw [if_neg (by omega)]
 show wpAny _ _ (if ((es.size:Nat):Int)≥2 ^ 63 then _ else _) _ _ _
 rw [if_neg (by omega)]
 exact wpAny_bind (wpAny_mkInt (wpAny_pure ⟨_,rfl,h⟩))
end
theorem Paired.at {α β:Type}{F:α→β→Prop}:∀ {l₁:List α}{l₂:List β},Paired F l₁ l₂→∀ i (h1:i<l₁.length) (h2:i<l₂.length),F l₁[i] l₂[i]
 | _,_,.nil,i,h1,_=>absurd h1 (Nat.not_lt_zero _)
 | _,_,.cons r t,0,_,_=>r
 | _,_,.cons r t,i+1,h1,h2=>Paired.at t i (Nat.lt_of_succ_lt_succ h1) (Nat.lt_of_succ_lt_succ h2)
section
variable {X:Cx}{K:PySem.W.Frag}{tg e:Expr}
theorem gC {pins:List (Addr×Obj)}{σ:St}{H:Hp}{s:Shared}{a:Addr}{es:List (aS×Addr×V)} (I:Inv X pins σ H s) (ha:H a=some (.ext (bx a es))) :
  es.length≤sizeLine∧(a==sysModules)=false∧∃ o ds,s.heap.get? a=some o∧o.ExactDict∧o.data=.dict ds es.length∧ds.size=es.length∧∀ i (hi:i<ds.size) (h2:i<es.length),ds[i].key=.ref es[i].2.1:=by
 obtain ⟨⟨z,y,xs,r,o,ds,ep,h1,h2,h3,h4,_,h6⟩,_⟩:=I.hok a _ ha
 have hl:=Paired.length r
 have hs:ds.size=xs.length:=by rw[←Array.length_toList,h4,DK]
 refine ⟨z,y,o,ds,h1,h2,by rw[h3,h6,hl],by rw[hs,hl],fun i hi hj=>?_⟩
 have hx:i<xs.length:=by omega
 have e1:ds[i]=il xs[i]:=by
  have:ds.toList[i]'(by simpa using hi)=(xs.map il)[i]'(by simpa using hx):=by simp only [h4]
  simpa using this
 have e2:es[i].2.1=xs[i].2.1:=(Paired.at r i hj hx).2.1
 rw [e1,e2]
 rfl
theorem dq:c9 X (.builtin "len") (fun xs H Q=>∃ p es,xs=[.ref p]∧H p=some (.ext (bx p es))∧Q (.int es.length) H):=by
 intro pins s σ H xs us Q I r h
 obtain ⟨p,es,rfl,hq,q⟩:=h
 obtain ⟨u,rfl,rx⟩:=ji r
 cases rx
 have hn:=ig
 obtain ⟨z,y,o,ds,h1,h2,h3,h4,_⟩:=gC I hq
 exact xy y h1 h2 h3 (by omega) ⟨.int es.length,H,I.tok _,⟨s.toks+1,by rw[h4]⟩,q⟩
noncomputable def Itd (a:Addr) (n:Nat):It :=
  ⟨fun i H=>i<n∧∃ es:List (aS×Addr×V),H a=some (.ext (bx a es))∧es.length=n,
   fun i H x H'=>H'=H∧∀ es:List (aS×Addr×V),H a=some (.ext (bx a es))→(es.map fun p=>V.ref p.2.1)[i]? = some x,
   fun i H=>i=n∧∃ es:List (aS×Addr×V),H a=some (.ext (bx a es))∧es.length=n⟩
theorem sF {P:Program}{w:World} (a it:Addr) (n:Nat):yz P w K tg (Itd a n) [it] it (fun i h=>h.IsKeyIter it a i n n) where
 mem:=by simp
 obj:=fun i h st b hb=>by
  have e:b=it:=by simpa using hb
  subst e
  obtain ⟨o,e,c,d⟩:=st
  exact ⟨o,e,fun v z=>by rw[d] at z;cases z⟩
 keep:=fun i h h' st k=>by
  obtain ⟨o,e,c⟩:=st
  exact ⟨o,k it (by simp) o e,c⟩
 item:=by
  intro X hP hw hK hc i pins s σ H E I hf st hg
  subst hP hw hK
  obtain ⟨hi,es,ha,hn⟩:=hg
  obtain ⟨z,y,o,ds,h1,h2,h3,h4,h5⟩:=gC I ha
  obtain ⟨f0,f1,f2,f3,f4,f5⟩:=hf it (by simp)
  have st:s.heap.IsKeyIter it a i ds.size es.length:=by rw[h4,hn];exact st
  refine tF st h1 h3 (by omega) fun h' st' sb=>?_
  have I1:Inv X pins σ H { s with heap:=h' }:=I.turned (t':=s.toks) (fun b o hb e=>(sb.2 b hb).trans e) f0 f1 f3 f4 f5
  rw [h4,hn] at st'
  obtain ⟨o',e,c,d⟩:=id st'
  refine ⟨_,rfl,xL (s:={ s with heap:=h' }) e c d (by decide) ⟨.ref (es[i]'(by omega)).2.1,H,I1,h5 i (by omega) (by omega),⟨rfl,fun es' ha'=>?_⟩,st',fun b hb=>(hf b hb).1⟩⟩
  obtain ⟨z',y',o',ds',g1,g2,g3,g4,g5⟩:=gC I ha'
  rw [h1] at g1
  cases g1
  rw [h3] at g3
  injection g3 with g3 g6
  subst g3
  have:=g5 i (by omega) (by omega)
  rw [h5 i (by omega) (by omega)] at this
  injection this with this
  rw [Ep,DR (by omega:i<es'.length),Option.map_some,this]
 done:=by
  intro X hP hw hK hc i pins s σ H E I hf st hg
  subst hP hw hK
  obtain ⟨hi,es,ha,hn⟩:=hg
  obtain ⟨z,y,o,ds,h1,h2,h3,h4,h5⟩:=gC I ha
  obtain ⟨f0,f1,f2,f3,f4,f5⟩:=hf it (by simp)
  have st:s.heap.IsKeyIter it a i ds.size es.length:=by rw[h4,hn];exact st
  exact um (I.ok.hd hc) st h1 h3 (by omega) fun h' eb=>⟨rfl,I.turned (t':=s.toks) (fun b o hb e=>eb b o hb e) f0 f1 f3 f4 f5⟩
 self:=fun _ _ _ _ _ st h=>wpAny_pyIter_keyiter st h
noncomputable def Do (tl:TE):TI:=fun σ H R=>tl σ H fun x H1=>∃ (a:Addr) (es:List (aS×Addr×V)),x=.ref a∧H1 a=some (.ext (bx a es))∧R (Itd a es.length) H1
theorem zC {l:Expr}{tl:TE} (hl:PE X l tl):PI X tg l (Do tl):=by
 intro pins s σ H R I h
 refine thn (hl pins s σ H _ I h) fun v s1 ⟨x,H1,I1,r1,q1⟩=>?_
 obtain ⟨a,es,e,ha,q⟩:=q1
 subst e
 cases r1
 obtain ⟨z,y,o,ds,h1,h2,h3,h4,h5⟩:=gC I1 ha
 refine qR y h1 h2 h3 ?_
 rw [h4]
 refine ⟨s1.heap.objs.size,[s1.heap.objs.size],_,_,H1,rfl,I1.kept (t':=s1.toks) fun b o e=>DU _ e,sF a _ es.length,⟨_,D8 _ rfl,rfl,rfl⟩,fun b hb=>?_,q⟩
 have e:b=s1.heap.objs.size:=by simpa using hb
 subst e
 exact I1.fpOk (D2 _) (I1.hok.fresh (D2 _))
end
section
variable {X:Cx}{K:PySem.W.Frag}{tg e:Expr}{te:DE}{kvs:List (aS×PyData)}
theorem iY {M P:Addr→Prop}{H0 H:Hp}{σ0 σ:St}{env:List Sl}{ts:List (V×Sl)}{a:Addr} (rel:Rel K M P H0 σ0 σ env (ts++[(.ref a,.fr (dm kvs))]) H) :
  ∃ es:List (aS×Addr×V),H a=some (.ext (bx a es))∧DNs K (Nw M (ay σ env (ts++[(.ref a,.fr (dm kvs))]))) H (es.map fun p=>V.ref p.2.1) (kvs.map fun p=>cV p.1)∧es.length=kvs.length:=by
 obtain ⟨v,e,dn⟩:=rel.e.fr _ _ (dj (DL _ (DM.mpr rfl)))
 cases e
 obtain ⟨a',es,e,ha,hk,_,ee⟩:=dn.dct_of rfl
 cases e
 exact ⟨es,ha,hk,by simpa using congrArg List.length ee⟩
theorem t9 {a:Addr}:iu K (Itd a kvs.length) [(.ref a,.fr (dm kvs))] (kvs.map fun p=>cV p.1) where
 go := fun rel i hi=>by
  obtain ⟨es,ha,hk,hl⟩:=iY rel
  rw [DK] at hi
  exact ⟨hi,es,ha,hl⟩
 yld:=fun rel i x H' hi y=>by
  obtain ⟨es,ha,hk,hl⟩:=iY rel
  obtain ⟨e,y⟩:=y
  subst e
  obtain ⟨x',e',dn⟩:=hk.item hi
  rw [y es ha] at e'
  cases e'
  exact ⟨aO.refl _,dn⟩
 stop:=fun rel=>by
  obtain ⟨es,ha,hk,hl⟩:=iY rel
  exact ⟨DK ..,es,ha,hl⟩
 nv := xt
noncomputable def yn (te:DE):DI:=fun env RR=>te env fun s env1=>∃ kvs,aD env1 s=some (dm kvs)∧RR (kvs.map fun p=>cV p.1) env1
theorem zc (hK:X.K=K) (h:PE X e (up K te)):PI X tg e (upI K (yn te)):=(zC h).imp fun σ H R h=>by
 obtain ⟨M,P,H0,σ0,env,ts,RR,rel,ht,hq⟩:=h
 refine ⟨M,P,H0,σ0,env,ts,_,rel,ht,fun s1 env1 v1 H1 h1 rel1=>?_⟩
 obtain ⟨kvs,k,hR⟩:=h1
 have dn:=rel1.kept (v:=v1) (s:=s1) (by simp) k
 obtain ⟨a,es,rfl,ha,hk,_,ee⟩:=dn.dct_of rfl
 refine ⟨a,es,rfl,ha,?_⟩
 rw [show es.length=kvs.length by simpa using congrArg List.length ee]
 exact hq _ _ _ _ _ hR (rel1.drop.addFr dn) t9
noncomputable def xM:GB:=fun ds R=>∃ kvs:List (aS×PyData),ds=[dm kvs]∧R (.int kvs.length)
theorem xu:im K (fun xs H Q=>∃ p es,xs=[.ref p]∧H p=some (.ext (bx p es))∧Q (.int es.length) H) xM:=by
 rintro N H xs ds R Q w ⟨kvs,rfl,hR⟩ hq
 cases w with
 | cons w1 w2 =>
  cases w2
  obtain ⟨a,es,rfl,ha,_,_,ee⟩:=w1.dct_of rfl
  refine ⟨a,es,rfl,ha,?_⟩
  rw [show es.length=kvs.length by simpa using congrArg List.length ee]
  exact hq _ _ hR (.int _)
end
end L2
namespace W
open PySem L2
local macro_rules | `(tactic| walk_at "d2") => do
 let l ← (("AM,vQ,yn,xM,yf,Co,ye,yg,qK,yp,yo,yh,B9,lB,B8,B7,lD,rB,rA,yj,u6,lU,yi,xq,nC,rz,yd,yD,vO,nt,ya,dFz,rg,yb,AJ,oS,yl,AL,yq,rq,AN,dOp,AK,uz,dUn,A8,yE,dC,oR,Cp,dOr,Bc,yt,Cm,yk,dIf,nA,A9,Be,uy,Bd,rC,j9,nB,dCB,dIs,nw,Ba,uw,iZ,rp,Bf,Bb,ny,uv,ux,A7,oU,nz,yc,sqD,gI,gIC,gB,gBB,gEq,gNe,A5,uh,gIn,m8,gIx,A6,A4,A3,Cb,A1,ym,yr,Sl.tr.injEq,gN,fT,slF,noL,ll,jG,l8,mw,jN,lX,lV,lW,lT,gW,fS,jP,jO,jM,gr,fh,u9,u7,u8,u5,u4,uZ,u3,uY,mf,l9,l7,my,mx,mv,pK,pJ,gT,jX,jV,jW,jU,nj,nq,bC,mn,mo,qi,qj,qk,qh,fB,kg,kc,nK,nI,nJ,nH,hV,fX,jl,jn,lY,jm,gX,jQ,mU,jS,jR,ij,qT,mW,vD,vF,mV,jT,vz,vy,vB,vE,vC,vA,bV,dQ,ni,v5,v4,vZ,vY,vX,vW,vV,vU,nh,vJ,vL,pC,mj,ml,List.map_cons,List.map_nil,List.length_cons,List.length_nil,List.cons_append,List.nil_append,List.append_nil,List.replicate_succ,List.replicate_zero,List.set_cons_succ,List.set_cons_zero,List.getElem?_cons_zero,List.getElem?_cons_succ,List.getElem?_nil,List.take_succ_cons,List.take_zero,List.take_nil,List.drop_succ_cons,List.drop_zero,List.drop_nil,Option.some.injEq,Option.bind_some,Option.bind_none,Option.map_some,Option.map_none,Sl.fr.injEq,Sl.ow.injEq,Sl.io.injEq,Sl.vw.injEq,PyData.int.injEq,PyData.bool.injEq,PyData.list.injEq,PyData.tuple.injEq,PyData.str.injEq,List.cons.injEq,reduceCtorEq,and_true,true_and,and_false,false_and,and_assoc,exists_eq_left',exists_eq_left,exists_and_left,exists_eq',exists_eq,exists_false,exists_const,Nat.reduceSub,Nat.reduceAdd,Nat.reduceLT,Nat.zero_add,Nat.lt_add_left_iff_pos,decide_eq_true_eq,ite_true,ite_false,Bool.false_eq_true,if_true,if_false,Bool.not_eq_true',Bool.not_eq_true,decide_eq_false_iff_not,Int.zero_add,String.reduceBEq,Bool.true_and,Bool.and_true,Bool.or_false,Bool.false_or,Bool.or_true,Bool.true_or,Bool.and_false,Bool.false_and,Bool.not_true,Bool.not_false,id_eq,Sl.ctorIdx,Nat.succ_eq_add_one".splitOn ",").toArray.mapM fun s => `(Lean.Parser.Tactic.simpLemma| $(Lean.mkIdent s.toName):ident))
 `(tactic| simp only [$l,*])
local macro_rules | `(tactic| walk_at "d1") => do
 let l ← (("vQ,yn,xM,yf,Co,ye,yg,qK,yp,yo,yh,B9,lB,B8,B7,lD,rB,rA,yj,u6,lU,yi,xq,nC,rz,yd,yD,vO,nt,ya,dFz,rg,yb,AJ,oS,yl,AL,yq,rq,AN,dOp,AK,uz,dUn,A8,yE,dC,oR,Cp,dOr,Bc,yt,Cm,yk,dIf,nA,A9,Be,uy,Bd,rC,j9,nB,dCB,dIs,nw,Ba,uw,iZ,rp,Bf,Bb,ny,uv,ux,A7,oU,nz,yc,sqD,gI,gIC,gB,gBB,gEq,gNe,A5,uh,gIn,m8,gIx,A6,A4,A3,Cb,A1,ym,yr,Sl.tr.injEq,gN,fT,slF,noL,ll,jG,l8,mw,jN,lX,lV,lW,lT,gW,fS,jP,jO,jM,gr,fh,u9,u7,u8,u5,u4,uZ,u3,uY,mf,l9,l7,my,mx,mv,pK,pJ,gT,jX,jV,jW,jU,nj,nq,bC,mn,mo,qi,qj,qk,qh,fB,kg,kc,nK,nI,nJ,nH,hV,fX,jl,jn,lY,jm,gX,jQ,mU,jS,jR,ij,qT,mW,vD,vF,mV,jT,vz,vy,vB,vE,vC,vA,bV,dQ,ni,v5,v4,vZ,vY,vX,vW,vV,vU,nh,vJ,vL,pC,mj,ml,List.map_cons,List.map_nil,List.length_cons,List.length_nil,List.cons_append,List.nil_append,List.append_nil,List.replicate_succ,List.replicate_zero,List.set_cons_succ,List.set_cons_zero,List.getElem?_cons_zero,List.getElem?_cons_succ,List.getElem?_nil,List.take_succ_cons,List.take_zero,List.take_nil,List.drop_succ_cons,List.drop_zero,List.drop_nil,Option.some.injEq,Option.bind_some,Option.bind_none,Option.map_some,Option.map_none,Sl.fr.injEq,Sl.ow.injEq,Sl.io.injEq,Sl.vw.injEq,PyData.int.injEq,PyData.bool.injEq,PyData.list.injEq,PyData.tuple.injEq,PyData.str.injEq,List.cons.injEq,reduceCtorEq,and_true,true_and,and_false,false_and,and_assoc,exists_eq_left',exists_eq_left,exists_and_left,exists_eq',exists_eq,exists_false,exists_const,Nat.reduceSub,Nat.reduceAdd,Nat.reduceLT,Nat.zero_add,Nat.lt_add_left_iff_pos,decide_eq_true_eq,ite_true,ite_false,Bool.false_eq_true,if_true,if_false,Bool.not_eq_true',Bool.not_eq_true,decide_eq_false_iff_not,Int.zero_add,String.reduceBEq,Bool.true_and,Bool.and_true,Bool.or_false,Bool.false_or,Bool.or_true,Bool.true_or,Bool.and_false,Bool.false_and,Bool.not_true,Bool.not_false,id_eq,Sl.ctorIdx,Nat.succ_eq_add_one".splitOn ",").toArray.mapM fun s => `(Lean.Parser.Tactic.simpLemma| $(Lean.mkIdent s.toName):ident))
 let h:=Lean.mkIdent `hW
 `(tactic| (refine' (?wf : Wk _ _) ?we ?wk ?wq; (case we => (intro $h:ident; simp only [$l,*] at $h:ident; exact $h)); (case wf => exact fun _ k q => k q); (case wk => (intro $h:ident; walk_at "wa"))))
local macro_rules | `(tactic| walk_at "wh") => do
 let h:=Lean.mkIdent `hW
 `(tactic| repeat (first | (with_reducible refine Exists.elim $h fun _ $h => ?_) | ((with_reducible refine And.elim (fun e $h => ?_) $h); try subst e)))
local macro_rules | `(tactic| walk_at "ev") => do
 let l ← ("Cd,Ap,Du,Dv,Cl,Dw,Cg,xU,Av,Aq,Aw,Ax,As,Cc,xV,Ar,Ce,xT,xS,Au,ul,Cf,Ck,Ch,AG,x3,Ci,Cj,uo,AH,AF,AD,AE,AC,AB,xY,AA,xX,xZ,Az".splitOn ",").toArray.mapM fun s => `(Lean.Parser.Tactic.tacticSeq| with_reducible apply $(Lean.mkIdent s.toName))
 `(tactic| ((repeat' (first $[| $l]* | walk_at "wc")); done))
local macro_rules | `(tactic| walk_at "wc") => `(tactic| first | exact rfl | with_reducible assumption | exact of_decide_eq_true rfl | exact xz rfl | ((first | (with_reducible show _ ≤ sizeLine) | (with_reducible show _ < sizeLine) | (with_reducible show _ = _) | (with_reducible show shp _)); assumption))
local macro_rules | `(tactic| walk_at "wa") => do
 let h:=Lean.mkIdent `hW
 let l ← ("yM,yI,yJ,wj,yK,yL,yP,wm,yO".splitOn ",").toArray.mapM fun s => `(Lean.Parser.Tactic.tacticSeq| (with_reducible apply $(Lean.mkIdent s.toName)); focus walk_at "ev")
 let m ← ("ws_seq,wg_name,wk_K,w_pop,wx_set,wx_ret,wx_drop".splitOn ",").toArray.mapM fun s => `(Lean.Parser.Tactic.tacticSeq| with_reducible apply $(Lean.mkIdent s.toName))
 `(tactic| (walk_at "wh"; repeat' (first | exact $h $[| $l]* $[| $m]* | walk_at "wc" | apply Exists.intro | refine And.intro rfl ?_ | (refine And.intro ?_ ?_; focus walk_at "wc") | refine And.intro ⟨_, rfl⟩ ?_ | refine And.intro ⟨_, _, rfl⟩ ?_ | (intro x; replace $h:ident := $h x; walk_at "wh") | (refine yN rfl (fun $h => ?_) (fun $h => ?_) $h <;> walk_at "wh"))))
local macro_rules | `(tactic| walk_at "dd") => `(tactic| first | (walk_at "d1"; try walk_at "d2") | (simp only [Int.zero_add]; walk_at "d1"; try walk_at "d2") | (walk_at "d2"))
local macro_rules | `(tactic| walk_at "dx") => `(tactic| (first | ((with_reducible refine nx ?_); try walk_at "dd") | walk_at "dd"); repeat ((with_reducible refine nx ?_); try walk_at "dd"))
noncomputable def top (i:Nat):Stmt:=PySem.Challenge.pw_windround_k39_keeping_goes_on.main.body.getD i (.Pass ⟨0,0,0,0⟩)
section
variable {P:Program}{w:World}{K:PySem.W.Frag}{mg:Str→Option Value}{base:Heap}
noncomputable abbrev dB:Stmt:=top 20
theorem kK:au ["_law_draws_here"] ["_law_draws_here"] (ad dB):=⟨rfl,rfl,rfl,by decide +kernel,rfl,by decide +kernel,by decide +kernel⟩
noncomputable def kW (ds:List Int):Int:=ds.getLastD 0
noncomputable def sK:DSp:=fun ss R=>∃ ds:List Int,ss=[.io (li ds)]∧R (.fr (.int (kW ds))) [.io (li ds.dropLast)]
theorem vK (a b:List Int):PyData.eqv (.list (li a)) (.list (li b))=decide (a=b):=xW a b
theorem xA {ds:List Int} (h:ds≠[]):(li ds).getLast? = some (.int (kW ds)):=by
 unfold kW
 rw [List.getLast?_map,List.getLastD_eq_getLast?]
 cases e:ds.getLast? with
 | none=>exact absurd (List.getLast?_eq_none_iff.mp e) h
 | some x=>rfl
theorem x9 (ds:List Int):(li ds).dropLast=li ds.dropLast:=by simp[List.map_dropLast]
theorem lL {f:Addr}{fd:FuncData} (F:Fun K "_law_pop" "_law_pop" dB f fd):br K fd ["_law_draws_here"] []:=F.binds (ps:=["_law_draws_here"]) fun _ _ _ _ _ _ us hl=>us1 (Q:=fun us=>bindArgs _ ⟨us,[]⟩=pure (List.zip _ us)) hl fun _=>rfl
theorem lg {f:Addr}{fd:FuncData} (F:Fun K "_law_pop" "_law_pop" dB f fd) (B:Bn mg):b7 P w K mg base CX0 1 f fd ["_law_draws_here"] (spD K sK):=by
 refine okD (k:=0) F kK (fun ss R h=>?_) (by decide) (fun cdv A outer s H E hr=>⟨_,(bp (kA (aZ (CL (K:=K) rfl hr.units) mEq (qv 0) (ce ac) (bh _)) (am (bP ah)) cy)
   (am (bP (wH 0 (K:=K) rfl rfl)))),fun ss R h=>?_⟩)
 ·obtain ⟨ds,rfl,_⟩:=h
  rfl
 obtain ⟨ds,rfl,q⟩:=h
 walk_at "dd"
 refine ⟨Ee _,(Sh.ints 0 ds).shp (by decide),(Sh.ints 0 []).shp (by decide),?_⟩
 rw [show PyData.list []=PyData.list (li []) from rfl,vK]
 by_cases e:ds=[]
 ·subst e
  rw [if_pos (by simp)]
  exact q
 ·rw [if_neg (by simp[e])]
  exact ⟨_,xA e,by rw[x9];exact q⟩
theorem AO (ns:List Int) (a b:Option Int):oV (li ns) a b=li ((ns.drop (HT.sIx ns.length 0 a)).take (HT.sIx ns.length ns.length b - HT.sIx ns.length 0 a)):=by
 unfold oV
 show (List.drop _ (List.map PyData.int ns)).take _=List.map PyData.int _
 rw [DK,List.map_take,List.map_drop]
theorem nE (ns:List Int) (c:Nat):oV (li ns) (some (c:Int)) none=li (ns.drop c):=by
 rw [AO,HT.sIx_none,HT.sIx_nat]
 by_cases h:c≤ns.length
 ·rw [Nat.min_eq_left h,EM (by simp)]
 ·rw [Fl (by omega),EK (D2 _),EK (by omega)]
  simp
noncomputable def RB (rs:List (List Int)):Prop:=rs.length≤1000∧∀ r∈rs,r.length≤1000
theorem cQ {l:List (List Int)}{k:Nat} (h:k<l.length):l.getD k []∈l:=by
 rw [DW,DR h]
 exact EE h
theorem RB.pl {rs:List (List Int)} (h:RB rs) (n:Nat):Pl (n+2) (.list (lr rs)):=Pl.lr n (by have:=h.1;omega) fun r hr=>by have:=h.2 r hr;omega
noncomputable abbrev dD:Stmt:=top 18
theorem f6:au ["_law_cell", "_law_turn", "_law_number"] ["_law_cell", "_law_turn"] (ad dD):=⟨rfl,rfl,rfl,by decide +kernel,rfl,by decide +kernel,by decide +kernel⟩
noncomputable def yU:DSp:=fun ss R=>∃ c t:Int,ss=[.fr (.int c),.fr (.int t)]∧0≤t∧t<100000∧∀ x:Int,0≤x→x<2147483648→R (.fr (.int x)) [.un,.un]
theorem lM {f:Addr}{fd:FuncData} (F:Fun K "_law_mix" "_law_mix" dD f fd):br K fd ["_law_cell", "_law_turn"] []:=F.binds (ps:=["_law_cell", "_law_turn"]) fun _ _ _ _ _ _ us hl=>us2 (Q:=fun us=>bindArgs _ ⟨us,[]⟩=pure (List.zip _ us)) hl fun _ _=>rfl
theorem lh {f:Addr}{fd:FuncData} (F:Fun K "_law_mix" "_law_mix" dD f fd) (B:Bn mg):b7 P w K mg base CX0 1 f fd ["_law_cell", "_law_turn"] (spD K yU):=by
 refine okD (k:=0) F f6 (fun ss R h=>?_) (by decide) (fun cdv A outer s H E hr=>⟨_,(bp (aG (i:=2) f6.nd rfl (Or.inl rfl) (bA aV mIC (bA ie mIC (bA bH mI (bA bH mI (bA aV mIC (qv 0) ah) (bA ie mIC (bA ie mIC (qv 1) (qv 1)) ah)) ah) ah) ah))
   (am (bP (bA aV mIC (bA bH mI (bA ie mIC (qv 2) (qv 2)) (bA ie mIC ah (qv 1))) ah)))),fun ss R h=>?_⟩)
 ·obtain ⟨c,t,rfl,_⟩:=h
  rfl
 obtain ⟨c,t,rfl,h0,h1,q⟩:=h
 walk_at "dx"
 have a1:=EF ((c % 2147483647+t*t*7919+104729)*48271) (show (2147483647:Int)≠0 by decide)
 have a2:=Ex ((c % 2147483647+t*t*7919+104729)*48271) (show (0:Int)<2147483647 by decide)
 refine ⟨by decide,nG (by omega) (by omega),vR (by decide) (by decide),vR (by decide) (by decide),by decide,?_⟩
 have b1:=EF ((c % 2147483647+t*t*7919+104729)*48271 % 2147483647*((c % 2147483647+t*t*7919+104729)*48271 % 2147483647)+69621*t) (show (2147483629:Int)≠0 by decide)
 have b2:=Ex ((c % 2147483647+t*t*7919+104729)*48271 % 2147483647*((c % 2147483647+t*t*7919+104729)*48271 % 2147483647)+69621*t) (show (0:Int)<2147483629 by decide)
 exact ⟨nG (by omega) (by omega),nG (by decide) (by decide),by decide,q _ b1 (by omega)⟩
noncomputable abbrev bY:Stmt:=top 19
theorem aI:au ["_law_script", "_law_turn", "_law_many", "_law_cells", "_law_found", "_law_k", "_law_at", "_law_number", "_law_cell"] ["_law_script", "_law_turn", "_law_many"] (ad bY):=⟨rfl,rfl,rfl,by decide +kernel,rfl,by decide +kernel,by decide +kernel⟩
noncomputable def Ds (l:List Int):Prop:=∀ x∈l,0≤x∧x<2147483648
theorem Ds.app {l:List Int}{x:Int} (h:Ds l) (h0:0≤x) (h1:x<2147483648):Ds (l++[x]):=fun y hy=>by
 rcases DQ.mp hy with hy|hy
 ·exact h y hy
 ·rw [DM.mp hy];exact⟨h0,h1⟩
theorem Ds.drop {l:List Int} (h:Ds l):Ds l.dropLast:=fun x hx=>h x (jI hx)
theorem Ds.pop {l:List Int} (h:Ds l):0≤kW l∧kW l<2147483648:=by
 unfold kW
 rw [List.getLastD_eq_getLast?]
 cases e:l.getLast? with
 | none=>exact⟨Int.le_refl 0,by decide⟩
 | some x=>exact h x (List.mem_of_getLast? e)
noncomputable def pA:DSp:=fun ss R=>∃ (ns:List Int) (t m:Nat),ss=[.fr (.list (li ns)),.fr (.int t),.fr (.int m)]∧ns.length≤63∧t≤5000∧m≤5000∧∀ l,Ds l→R (.ow (li l)) [.un,.un,.un]
theorem Cq (ns:List Int) (h:ns.length≤63):oV (li ns) none (some 63)=li ns:=by
 unfold oV
 have e:HT.sIx (li ns).length (li ns).length (some 63)=min 63 (li ns).length:=HT.sIx_nat _ _ 63
 rw [e,HT.sIx_none,DK,List.drop_zero,Nat.sub_zero,Fl h]
 exact EM (by simp)
theorem i8 {f:Addr}{fd:FuncData} (F:Fun K "_law_draws" "_law_draws" bY f fd):br K fd ["_law_script", "_law_turn", "_law_many"] []:=F.binds (ps:=["_law_script", "_law_turn", "_law_many"]) fun _ _ _ _ _ _ us hl=>us3 (Q:=fun us=>bindArgs _ ⟨us,[]⟩=pure (List.zip _ us)) hl fun _ _ _=>rfl
theorem iJ {f:Addr}{fd:FuncData} (F:Fun K "_law_draws" "_law_draws" bY f fd) (B:Bn mg) (G__law_mix:Cal P w K mg base "_law_mix" 1 (spD K yU)):b7 P w K mg base CX0 2 f fd ["_law_script", "_law_turn", "_law_many"] (spD K pA):=by
 refine okD (k:=1) F aI (fun ss R h=>?_) (by decide) (fun cdv A outer s H E hr=>⟨_,(aj (aG (i:=3) aI.nd rfl (Or.inr rfl) (oj (eL (K:=K) rfl) yC (pP (K:=K) rfl (qv 0) f9 (f8 ah)) (ce (aa (qf 1) ac))))
   (aj (kA (aZ ou yB (bA aV mIC (bA cG mIC (bT (ak (K:=K) rfl) mIx (qv 3) ah (fun _ _=>rfl)) ah) ah) ah (bh _)) (aj (aG (i:=4) aI.nd rfl (Or.inl rfl) (ce ac))
   (aj (gd PassesOwn.never rfl (dg rfl B.range (aa (bA bH mI (bA cG mIC (qv 1) ah) (qv 2)) ac)) (al (i:=5) aI.nd rfl (Or.inl rfl)) (aj (aG (i:=6) aI.nd rfl (Or.inl rfl) (bA aV mIC (qv 5) (eI (je (K:=K) rfl) jd rfl B.len PySem.boot_len (aa (qv 3) ac))))
   (aj (eY (pS 4 (K:=K) rfl rfl (bA aV mIC (bT (ak (K:=K) rfl) mIx (qv 3) (qv 6) (fun _ _=>rfl)) ah)))
   (am (wE 3 rfl (qv 6) (bA cG mIC (bT (ak (K:=K) rfl) mIx (qv 3) (qv 6) (fun _ _=>rfl)) ah))))))
   (am (bP (pP (K:=K) rfl (qv 4) (f8 (bA cG mIC (qv 1) ah)) f9))))) cy)
   (aj (aG (i:=7) aI.nd rfl (Or.inr rfl) (qf 1))
   (aj (gd PassesOwn.never rfl (gb false (K:=K) rfl rfl B.enumerate (aa (qf 3) ac)) (gc (K:=K) (n:=2) rfl rfl (bj (al (i:=5) aI.nd rfl (Or.inl rfl)) (bj (al (i:=8) aI.nd rfl (Or.inl rfl)) dN))) (am (aG (i:=7) aI.nd rfl (Or.inr rfl) (bA aV mIC (bA bH mI (bA ie mIC (qv 7) ah) (aU G__law_mix (hr.mono (by decide)) rfl (aa (qf 8) (aa (bA bH mI (qv 5) (qv 1)) ac)))) ah))))
   (am (bP (d4 (N':=["_law_k", "_law_turn", "_law_cells", "_law_number"]) (ix:=[none,some 1,some 3,some 7]) rfl (cS (N:=["_law_script", "_law_turn", "_law_many", "_law_cells", "_law_found", "_law_k", "_law_at", "_law_number", "_law_cell"]) (sc0:=ad bY) rfl rfl (by decide +kernel)) (dg rfl B.range (aa (qv 2) ac)) (fun _ _ _ _=>(al (i:=0) (show List.Nodup (["_law_k", "_law_turn", "_law_cells", "_law_number"]:List Str) by decide +kernel) rfl (Or.inl rfl))) (fun _ _ _ _=>bS) (fun _ _ _ _=>(aU G__law_mix (hr.mono (by decide)) rfl (aa (bT (ak (K:=K) rfl) mIx (qv 2) (bA aV mIC (qv 0) (eI (je (K:=K) rfl) jd rfl B.len PySem.boot_len (aa (qv 2) ac))) (fun _ _=>rfl)) (aa (bA bH mI (bA bH mI (bA aV mIC (qv 3) ah) (qv 0)) (qv 1)) ac))))))))))),fun ss R h=>?_⟩)
 ·obtain ⟨ns,t,m,rfl,_⟩:=h
  rfl
 obtain ⟨ns,t,m,rfl,h63,ht,hm,q⟩:=h
 walk_at "dx"
 rw [Cq ns h63]
 have ec:li ns++[PyData.int (t:Int)]=li (ns++[(t:Int)]):=by simp
 rw [ec]
 obtain ⟨cs,hcs⟩:∃ cs:List Int,cs=ns++[(t:Int)]:=⟨_,rfl⟩
 have hlen:cs.length=ns.length+1:=by rw[hcs];simp
 rw [←hcs]
 refine ⟨D1 (by decide) af,?_,?_⟩
 ·rw [DK]
  exact D1 (by omega) af
 walk_at "dx"
 refine ⟨_,cB (k:=0) (by omega),?_⟩
 walk_at "dx"
 refine ⟨⟨by decide,by decide⟩,by decide,fM (fun _=>?_) (fun _=>?_)⟩
 ·have e4:(t:Int) / 4=((t / 4:Nat):Int):=rfl
  refine ⟨Ee _,?_⟩
  walk_at "dx"
  refine ⟨⟨by decide,by decide⟩,by omega,by omega,bE (fun i env=>∃ (fs ls:List Int) (kv av:Sl),env=[.fr (.list (li ns)),.fr (.int t),.fr (.int m),.ow (li ls),.ow (li fs),kv,av,.un,.un]∧ls.length=cs.length∧fs.length=i∧Ds fs) ⟨[],cs,_,_,rfl,rfl,rfl,fun x hx=>by cases hx⟩ ?_ ?_⟩
  ·rintro i env hi ⟨fs,ls,kv,av,rfl,hl,hf,hd⟩
   rw [aw] at hi
   rw [bw]
   have hmod:i % ls.length<ls.length:=Nat.mod_lt _ (by omega)
   walk_at "dx"
   rw [DK]
   have ei:((i:Nat):Int) % ((ls.length:Nat):Int)=((i % ls.length:Nat):Int):=rfl
   rw [ei]
   refine ⟨by omega,?_⟩
   walk_at "dx"
   refine ⟨_,cB hmod,?_⟩
   walk_at "dx"
   refine ⟨by decide,by rw[DK,hf];exact D6 (by omega) af,?_⟩
   walk_at "dx"
   refine ⟨_,cB hmod,?_⟩
   walk_at "dx"
   have b1:=EF (ls.getD (i % ls.length) 0) (show (1000003:Int)≠0 by decide)
   have b2:=Ex (ls.getD (i % ls.length) 0) (show (0:Int)<1000003 by decide)
   exact ⟨⟨by decide,by decide⟩,_,xG (by rw[DK];exact hmod),fs++[ls.getD (i % ls.length) 0 % 1000003],ls.set (i % ls.length) (ls.getD (i % ls.length) 0 / 1000003),zZ _ _ _,by simp,by rw[List.length_set];exact hl,by simp[hf],hd.app b1 (by omega)⟩
  ·rintro env ⟨fs,ls,kv,av,rfl,hl,hf,hd⟩
   walk_at "dx"
   rw [e4,nE]
   exact ⟨⟨by decide,by decide⟩,q _ fun x hx=>hd x (List.mem_of_mem_drop hx)⟩
 ·walk_at "dx"
  refine bE (fun i env=>∃ (n:Int) (kv cv:Sl),env=[.fr (.list (li ns)),.fr (.int t),.fr (.int m),.fr (.list (li cs)),.un,kv,.un,.fr (.int n),cv]∧0≤n∧n<2147483648) ⟨t,_,_,rfl,by omega,by omega⟩ ?_ ?_
  ·rintro i env hi ⟨n,kv,cv,rfl,n0,n1⟩
   rw [cR,cO]
   rw [aM,DK] at hi
   walk_at "dx"
   refine ⟨nG (by omega +splitDisjunctions) (by omega +splitDisjunctions),_,_,rfl,by omega +splitDisjunctions,by omega +splitDisjunctions,fun x x0 x1=>?_⟩
   walk_at "dx"
   have b1:=EF (n*31+x) (show (2147483629:Int)≠0 by decide)
   have b2:=Ex (n*31+x) (show (0:Int)<2147483629 by decide)
   exact ⟨by decide,b1,by omega⟩
  ·rintro env ⟨n,kv,cv,rfl,n0,n1⟩
   walk_at "dx"
   refine ⟨by omega +splitDisjunctions,by omega +splitDisjunctions,vS (fun d=>∃ x:Int,d=.int x∧0≤x∧x<2147483648) (by rw[aw];omega) (fun i hi Q hQ=>?_) fun rs _ hrs=>?_⟩
   ·rw [aw] at hi
    rw [bw]
    walk_at "dx"
    rw [DK]
    have hmod:i % cs.length<cs.length:=Nat.mod_lt _ (by omega)
    rw [show ((i:Nat):Int) % ((cs.length:Nat):Int)=((i % cs.length:Nat):Int) from rfl]
    have b1:=EF n (show (1009:Int)≠0 by decide)
    have b2:=Ex n (show (0:Int)<1009 by decide)
    refine ⟨by omega,_,cB hmod,by decide,_,_,rfl,by omega,by omega,fun x x0 x1=>?_⟩
    walk_at "dx"
    exact hQ _ ⟨x,rfl,x0,x1⟩
   ·obtain ⟨l,rfl,hl⟩:=ja hrs
    walk_at "dx"
    exact q l hl
noncomputable abbrev bF:Stmt:=top 21
theorem aR:au ["_law_draws_here", "_law_most", "_law_number", "_law_hands", "_law_left", "_law_spans", "_law_k"] ["_law_draws_here", "_law_most"] (ad bF):=⟨rfl,rfl,rfl,by decide +kernel,rfl,by decide +kernel,by decide +kernel⟩
noncomputable def TB (s o:List Int):Prop:=1≤s.length∧s.length≤6∧1≤o.length∧o.length≤6∧(∀ x∈s,1≤x∧x≤12)∧(∀ x∈o,0≤x∧x≤6)∧(s.length≤4∨∀ x∈o,x≤2)
noncomputable def gg:List Int→Nat
 | []=>1
 | x::s=>x.toNat*gg s
theorem oq (s:List Int) (x:Int):gg (s++[x])=gg s*x.toNat:=by
 induction s with
 | nil=>show x.toNat*1=1*x.toNat;omega
 | cons y s ih=>show y.toNat*gg (s++[x])=y.toNat*gg s*x.toNat;rw[ih,Nat.mul_assoc]
theorem tM {L l q p:Nat} (h:L*p≤q) (hl:l≤L) (y:Nat) (e:L / y*y≤L):L / y*(p*y)≤q:=by
 rw [←Nat.mul_assoc,Nat.mul_right_comm]
 exact D1 (Nat.mul_le_mul_right _ e) h
noncomputable def uT:DSp:=fun ss R=>∃ (l:List Int) (m:Nat),ss=[.io (li l),.fr (.int m)]∧Ds l∧6≤m∧m≤100000∧∀ s o l':List Int,Ds l'→TB s o→o.length*gg s≤m→R (.fr (.tuple [.list (li s),.list (li o)])) [.io (li l'),.un]
theorem uL {α:Type} (xs:List α) (v:α):atI (xs++[v]) (-1)=some v:=by
 unfold atI ixN
 rw [if_neg (by decide),if_pos (by rw[El];simp;omega)]
 show (xs++[v])[(-1+((xs++[v]).length:Int)).toNat]? = some v
 rw [show (-1+((xs++[v]).length:Int)).toNat=xs.length by rw[El];simp;omega]
 simp
theorem kr {f:Addr}{fd:FuncData} (F:Fun K "_law_town" "_law_town" bF f fd):br K fd ["_law_draws_here", "_law_most"] []:=F.binds (ps:=["_law_draws_here", "_law_most"]) fun _ _ _ _ _ _ us hl=>us2 (Q:=fun us=>bindArgs _ ⟨us,[]⟩=pure (List.zip _ us)) hl fun _ _=>rfl
theorem jB {f:Addr}{fd:FuncData} (F:Fun K "_law_town" "_law_town" bF f fd) (B:Bn mg) (G__law_pop:Cal P w K mg base "_law_pop" 1 (spD K sK)):b7 P w K mg base CX0 2 f fd ["_law_draws_here", "_law_most"] (spD K uT):=by
 refine okD (k:=1) F aR (fun ss R h=>?_) (by decide) (fun cdv A outer s H E hr=>⟨_,(aj (aG (i:=2) aR.nd rfl (Or.inl rfl) (cE 0 G__law_pop (hr.mono (by decide)) rfl (aa (qv 0) ac)))
   (aj (h8 (i:=3) 1 0 rfl aR.nd rfl rfl (N':=["_law_k", "_law_draws_here"]) (ix:=[none,some 0]) rfl (cS (N:=["_law_draws_here", "_law_most", "_law_number", "_law_hands", "_law_left", "_law_spans", "_law_k"]) (sc0:=ad bF) rfl rfl (by decide +kernel)) (dg rfl B.range (aa (bA bH mI ah (bA aV mIC (qv 2) ah)) ac)) (fun _ _ _ _=>(al (i:=0) (show List.Nodup (["_law_k", "_law_draws_here"]:List Str) by decide +kernel) rfl (Or.inl rfl))) (fun _ _ _ _=>bS) (fun _ _ _ _=>(bA aV mIC (cE 0 G__law_pop (hr.mono (by decide)) rfl (aa (qv 1) ac)) ah)))
   (vd (kA (aZ zR mB (bA aV mIC (bA cG mIC (qv 2) ah) ah) ah (bh _)) (am (bM (i:=3)  aR.nd rfl rfl (N':=["_law_one"]) (ix:=[none]) rfl (cS (N:=["_law_draws_here", "_law_most", "_law_number", "_law_hands", "_law_left", "_law_spans", "_law_k"]) (sc0:=ad bF) rfl rfl (by decide +kernel)) (bq (K:=K) rfl (qf 3)) (fun _ _ _ _=>(al (i:=0) (show List.Nodup (["_law_one"]:List Str) by decide +kernel) rfl (Or.inl rfl))) (fun _ _ _ _=>bS) (fun _ _ _ _=>(bA bH mI ah (bA aV mIC (qv 0) ah))))) cy)
   (vd (kA (aZ ou yB (bA aV mIC (bA cG mIC (qv 2) ah) ah) ah (bh _)) (am (h8 (i:=3) 1 0 rfl aR.nd rfl rfl (N':=["_law_k", "_law_draws_here"]) (ix:=[none,some 0]) rfl (cS (N:=["_law_draws_here", "_law_most", "_law_number", "_law_hands", "_law_left", "_law_spans", "_law_k"]) (sc0:=ad bF) rfl rfl (by decide +kernel)) (dg rfl B.range (aa (bA bH mI ah (bA aV mIC (bA cG mIC (qv 2) ah) ah)) ac)) (fun _ _ _ _=>(al (i:=0) (show List.Nodup (["_law_k", "_law_draws_here"]:List Str) by decide +kernel) rfl (Or.inl rfl))) (fun _ _ _ _=>bS) (fun _ _ _ _=>(bA aV mIC (cE 0 G__law_pop (hr.mono (by decide)) rfl (aa (qv 1) ac)) ah)))) cy)
   (aj (aG (i:=4) aR.nd rfl (Or.inl rfl) (bA cG mIC (qv 1) (eI (je (K:=K) rfl) jd rfl B.len PySem.boot_len (aa (qv 3) ac))))
   (aj (aG (i:=5) aR.nd rfl (Or.inl rfl) (ce ac))
   (aj (gd PassesOwn.never rfl (dg rfl B.range (aa (bA bH mI ah (bA aV mIC (cE 0 G__law_pop (hr.mono (by decide)) rfl (aa (qv 0) ac)) (bT (ak (K:=K) rfl) mIx (ce (aa ah (aa ah (aa ah ac)))) (bA aV mIC (bA cG mIC (qv 2) ah) ah) (fun _ _=>rfl)))) ac)) (al (i:=6) aR.nd rfl (Or.inl rfl)) (aj (eY (pS 5 (K:=K) rfl rfl (bA bH mI ah (bA aV mIC (cE 0 G__law_pop (hr.mono (by decide)) rfl (aa (qv 0) ac)) (eI (gF rfl) BU rfl B.min PyProof.Rows.boot_min (aa ah (aa (qv 4) ac)))))))
   (am (aG (i:=4) aR.nd rfl (Or.inl rfl) (bA cG mIC (qv 4) (bT (ak (K:=K) rfl) mIx (qv 5) (AY jk AZ ah) (fun _ _=>rfl)))))))
   (am (bP (cj (aa (qf 5) (aa (qf 3) ac)))))))))))),fun ss R h=>?_⟩)
 ·obtain ⟨l,m,rfl,_⟩:=h
  rfl
 obtain ⟨l,m,rfl,dl,hm0,hm,q⟩:=h
 walk_at "dx"
 refine ⟨l,rfl,?_⟩
 walk_at "dx"
 have p0:=dl.pop
 have dl1:=dl.drop
 generalize kW l=num at *
 generalize l.dropLast=l1 at *
 refine ⟨by decide,by omega,by omega,fun i rs l=>∃ (hds l':List Int),rs=li hds∧l=li l'∧hds.length=i∧Ds l'∧∀ x∈hds,0≤x∧x≤2,_,_,rfl,rfl,⟨[],l1,rfl,rfl,rfl,dl1,by simp⟩,?_,?_⟩
 ·rintro i rs l hi ⟨hds,l',rfl,rfl,hl,dl',hh⟩
  rw [aw] at hi
  rw [bw]
  refine ⟨by rw[DK,hl];exact D6 (by omega) af,_,rfl,?_⟩
  walk_at "dx"
  refine ⟨l',rfl,?_⟩
  walk_at "dx"
  refine ⟨by decide,hds++[kW l' % 3],by simp,l'.dropLast,rfl,by simp[hl],dl'.drop,fun x hx=>?_⟩
  rcases DQ.mp hx with hx|hx
  ·exact hh x hx
  ·rw [DM.mp hx];omega
 rintro rs l ⟨hds,l2,rfl,rfl,hl,dl2,hh⟩
 rw [aw] at hl
 refine ⟨_,rfl,?_⟩
 walk_at "dx"
 refine ⟨fun env=>∃ hs:List Int,env=[.io (li l2),.fr (.int m),.fr (.int num),.ow (li hs),.un,.un,.un]∧1≤hs.length∧hs.length≤6∧∀ x∈hs,0≤x∧x≤2,?_,?_⟩
 ·walk_at "dx"
  refine ⟨⟨by decide,by decide⟩,by decide,fM (fun _=>?_) (fun _=>⟨hds,rfl,by omega,by omega,hh⟩)⟩
  refine vS (fun d=>∃ x:Int,d=.int x∧0≤x∧x≤2) (by rw[DK];omega) (fun i hi Q hQ=>?_) fun rs hl2 hrs=>?_
  ·rw [cO]
   walk_at "dx"
   exact ⟨by decide,hQ _ ⟨_,rfl,by omega,by omega⟩⟩
  ·obtain ⟨hs,rfl,hhs⟩:=ja hrs
   walk_at "dx"
   rw [DK,DK] at hl2
   exact ⟨hs,rfl,by omega,by omega,hhs⟩
 rintro env ⟨hs,rfl,h1,h6,hhs⟩
 refine ⟨fun env=>∃ (hs l3:List Int),env=[.io (li l3),.fr (.int m),.fr (.int num),.ow (li hs),.un,.un,.un]∧Ds l3∧1≤hs.length∧hs.length≤6∧(∀ x∈hs,0≤x∧x≤6)∧(num / 27 % 3=1∨∀ x∈hs,x≤2),?_,?_⟩
 ·walk_at "dx"
  refine ⟨⟨by decide,by decide⟩,by decide,fM (fun c4=>?_) (fun _=>⟨hs,l2,rfl,rfl,dl2,h1,h6,fun x hx=>by have:=hhs x hx;omega,.inr fun x hx=>(hhs x hx).2⟩)⟩
  refine ⟨⟨by decide,by decide⟩,by decide,by omega,by omega,fun i rs l=>∃ (hds l':List Int),rs=li hds∧l=li l'∧hds.length=i∧Ds l'∧∀ x∈hds,0≤x∧x≤6,_,_,rfl,rfl,⟨[],l2,rfl,rfl,rfl,dl2,by simp⟩,?_,?_⟩
  ·rintro i rs l hi ⟨hds,l',rfl,rfl,hl,dl',hh⟩
   rw [aw] at hi
   rw [bw]
   refine ⟨by rw[DK,hl];exact D6 (by omega) af,_,rfl,?_⟩
   walk_at "dx"
   refine ⟨l',rfl,?_⟩
   walk_at "dx"
   refine ⟨by decide,hds++[kW l' % 7],by simp,l'.dropLast,rfl,by simp[hl],dl'.drop,fun x hx=>?_⟩
   rcases DQ.mp hx with hx|hx
   ·exact hh x hx
   ·rw [DM.mp hx];omega
  rintro rs l ⟨hd2,l3,rfl,rfl,hl,dl3,hh⟩
  rw [aw] at hl
  refine ⟨_,rfl,?_⟩
  walk_at "dx"
  exact ⟨hd2,l3,rfl,rfl,dl3,by omega,by omega,hh,.inl (by omega)⟩
 rintro env ⟨hs,l3,rfl,dl3,h1,h6,hh6,h27⟩
 walk_at "dx"
 rw [DK]
 obtain ⟨c,ec,c3,c6,c4⟩:∃ c:Int,atI [PyData.int 3,PyData.int 4,PyData.int 6] (num / 27 % 3)=some (.int c)∧3≤c∧c≤6∧(num / 27 % 3=1→c=4):=by
  have:num / 27 % 3=0∨num / 27 % 3=1∨num / 27 % 3=2:=by omega
  rcases this with e|e|e
  ·rw [e];exact⟨3,rfl,by decide,by decide,by decide⟩
  ·rw [e];exact⟨4,rfl,by decide,by decide,fun _=>rfl⟩
  ·rw [e];exact⟨6,rfl,by decide,by decide,by decide⟩
 have hp:=dl3.pop
 have hd4:=dl3.drop
 refine ⟨⟨by omega +splitDisjunctions,by omega +splitDisjunctions⟩,?_⟩
 walk_at "dx"
 refine ⟨Ee _,?_⟩
 walk_at "dx"
 refine ⟨l3,rfl,?_⟩
 walk_at "dx"
 refine ⟨D1 (by decide) af,⟨by decide,by decide⟩,by decide,_,ec,_,rfl,by omega +splitDisjunctions,?_⟩
 generalize kW l3=p3 at *
 generalize l3.dropLast=l4 at *
 have u0:=EF p3 (show c≠0 by omega)
 have u1:=Ex p3 (show 0<c by omega)
 have m1:1≤(m:Int) / (hs.length:Int):=by
  rw [Int.le_ediv_iff_mul_le (by omega)]
  omega
 have m2:hs.length*(((m:Int) / (hs.length:Int)).toNat*gg [])≤m:=by
  show hs.length*(((m / hs.length:Nat):Int).toNat*1)≤m
  rw [Eu,Nat.mul_one]
  exact Nat.mul_div_le _ _
 refine ⟨by omega,by omega,bE (fun i env=>∃ (l sp:List Int) (left:Int) (kv:Sl),env=[.io (li l),.fr (.int m),.fr (.int num),.ow (li hs),.fr (.int left),.ow (li sp),kv]∧Ds l∧sp.length=i∧1≤left∧hs.length*(left.toNat*gg sp)≤m∧∀ x∈sp,1≤x∧x≤12) ⟨l4,[],_,_,rfl,hd4,rfl,m1,m2,by simp⟩ ?_ ?_⟩
 ·rintro i env hi ⟨l,sp,left,kv,rfl,dl,hl,l1,hpr,hsp⟩
  rw [aw] at hi
  rw [bw]
  walk_at "dx"
  refine ⟨l,rfl,?_⟩
  walk_at "dx"
  have dl':=dl.drop
  generalize kW l=p at *
  generalize l.dropLast=l5 at *
  obtain ⟨w,hw⟩:∃ w:Int,w=if left<12 then left else 12:=⟨_,rfl⟩
  rw [←hw]
  have w1:1≤w∧w≤12∧w≤left:=by
   rw [hw]
   split <;> omega
  have y0:=EF p (show w≠0 by omega)
  have y1:=Ex p (show 0<w by omega)
  generalize p % w=y at *
  refine ⟨by omega,by rw[DK,hl];exact D6 (by omega) af,?_⟩
  walk_at "dx"
  refine ⟨_,uL _ _,_,rfl,⟨by omega,by omega⟩,l5,rfl,sp++[1+y],by simp,dl',by simp[hl],?_,?_,fun x hx=>?_⟩
  ·rw [Int.le_ediv_iff_mul_le (by omega)]
   omega
  ·rw [oq]
   refine D1 (Nat.mul_le_mul_left _ ?_) hpr
   obtain ⟨L,rfl⟩:∃ L:Nat,left=(L:Int):=⟨left.toNat,by omega⟩
   obtain ⟨Y,hY⟩:∃ Y:Nat,1+y=(Y:Int):=⟨(1+y).toNat,by omega⟩
   rw [hY,show ((L:Int) / (Y:Int)).toNat=L / Y from rfl,Eu,Eu]
   exact tM (l:=0) (D2 _) (Ee _) Y (Nat.div_mul_le_self L Y)
  ·rcases DQ.mp hx with hx|hx
   ·exact hsp x hx
   ·rw [DM.mp hx];omega
 ·rintro env ⟨l,sp,left,kv,rfl,dl,hl,l1,hpr,hsp⟩
  rw [aw] at hl
  walk_at "dx"
  refine ⟨D1 (by decide) af,q sp hs l dl ⟨by omega,by omega,h1,h6,hsp,hh6,?_⟩ (D1 (Nat.mul_le_mul_left _ (Nat.le_mul_of_pos_left _ (by omega))) hpr)⟩
  rcases h27 with h|h
  ·have:=c4 h
   exact .inl (by omega)
  ·exact .inr h
noncomputable def cp:Nat→List (List Int)
 | 0=>[[]]
 | k+1=>cp k++(cp k).map (·++[(k:Int)])
noncomputable def cL (l:List Int) (n:Nat):List Int:=((List.range n).filter fun i=>decide (l.getD i 0=1)).map (Nat.cast:Nat→Int)
noncomputable def bW (h:Int) (due r:List Int):Bool:=decide ((r.length:Int)≤h)&&decide ((due.filter fun c=>decide (c ∉ r))=[])
noncomputable def b8 (n:Nat) (h:Int) (l:List Int):List (List Int):=(cp n).filter (bW h (cL l n))
noncomputable def Ae (r:List Int):PyData:=.tuple [.int r.length,.list (li r)]
theorem dX:∀ n,(cp n).length=2 ^ n
 | 0=>rfl
 | n+1=>by
  show (cp n++(cp n).map _).length=_
  rw [El,DK,dX n,Nat.pow_succ]
  omega
theorem bi:∀ n,∀ r∈cp n,r.length≤n∧r.Pairwise (·<·)∧∀ x∈r,0≤x∧x<n
 | 0,r,h=>by
  rw [DM.mp h]
  simp
 | n + 1,r,h=>by
  rcases DQ.mp h with h|h
  ·obtain ⟨a,b,c⟩:=bi n r h
   exact ⟨by omega,b,fun x hx=>by have:=c x hx;omega⟩
  ·obtain ⟨r',h',rfl⟩:=D4.mp h
   obtain ⟨a,b,c⟩:=bi n r' h'
   refine ⟨by simp;omega,Fi.mpr ⟨b,by simp,fun x hx y hy=>?_⟩,fun x hx=>?_⟩
   ·rw [DM.mp hy]
    have:=c x hx
    omega
   ·rcases DQ.mp hx with hx|hx
    ·have:=c x hx;omega
    ·rw [DM.mp hx];omega
theorem fm {α:Type}{p q:α→Bool} (h:∀ x,p x=true→q x=true):∀ l:List α,(l.filter p).length≤(l.filter q).length
 | []=>D2 _
 | x :: l=>by
  have ih:=fm h l
  by_cases hp:p x=true
  ·rw [EI hp,EI (h x hp)]
   simpa using ih
  ·rw [EX hp]
   by_cases hq:q x=true
   ·rw [EI hq];simp;omega
   ·rw [EX hq];exact ih
theorem eO {n:Nat}{h:Int}{l:List Int} (hn:n≤6) (hh:n≤4∨h≤3):(b8 n h l).length<64:=by
 rcases hh with h4|h2
 ·have a:=Ey (bW h (cL l n)) (cp n)
  rw [dX] at a
  have:2 ^ n≤2 ^ 4:=EU (by decide) h4
  unfold b8
  omega
 ·have a:(b8 n h l).length≤((cp n).filter fun r=>decide (r.length≤3)).length:=fm (fun r hr=>by
   unfold bW at hr
   rw [Es,decide_eq_true_eq] at hr
   rw [decide_eq_true_eq]
   omega) _
  have b:∀ n:Nat,n≤6→((cp n).filter fun r=>decide (r.length≤3)).length≤42:=by
   intro n hn
   match n,hn with
   | 0,_=>decide
   | 1,_=>decide
   | 2,_=>decide
   | 3,_=>decide
   | 4,_=>decide
   | 5,_=>decide +kernel
   | 6,_=>decide +kernel
  have:=b n hn
  omega
theorem aW {l:List Int}{k:Nat} (h:k<l.length):l.getD k 0∈l:=by
 rw [DW,DR h]
 exact EE h
noncomputable def StB (s o:List Int) (d:Nat) (l:List Int):Prop:=d<o.length∧l.length=s.length
noncomputable abbrev a9:Stmt:=top 23
theorem aX:au ["_law_town_here", "_law_standing_here", "_law_found", "_law_clocks", "_law_due", "_law_rows_here", "_law_clock", "_law_row"] ["_law_town_here", "_law_standing_here"] (ad a9):=⟨rfl,rfl,rfl,by decide +kernel,rfl,by decide +kernel,by decide +kernel⟩
noncomputable def uU:DSp:=fun ss R=>∃ (s o l:List Int) (d:Nat),ss=[.fr (.tuple [.list (li s),.list (li o)]),.fr (.tuple [.int d,.tuple (li l)])]∧TB s o∧StB s o d l ∧
 ∀ rr:List (List Int),rr.Perm (b8 s.length (o.getD d 0) l)→R (.ow (lr rr)) [.un,.un]
theorem kt {f:Addr}{fd:FuncData} (F:Fun K "_law_rows" "_law_rows" a9 f fd):br K fd ["_law_town_here", "_law_standing_here"] []:=F.binds (ps:=["_law_town_here", "_law_standing_here"]) fun _ _ _ _ _ _ us hl=>us2 (Q:=fun us=>bindArgs _ ⟨us,[]⟩=pure (List.zip _ us)) hl fun _ _=>rfl
theorem jC {f:Addr}{fd:FuncData} (F:Fun K "_law_rows" "_law_rows" a9 f fd) (B:Bn mg):b7 P w K mg base CX0 1 f fd ["_law_town_here", "_law_standing_here"] (spD K uU):=by
 refine okD (k:=0) F aX (fun ss R h=>?_) (by decide) (fun cdv A outer s H E hr=>⟨_,(aj (aG (i:=2) aX.nd rfl (Or.inl rfl) (ce ac))
   (aj (bM (i:=3)  aX.nd rfl rfl (N':=["_law_clock"]) (ix:=[none]) rfl (cS (N:=["_law_town_here", "_law_standing_here", "_law_found", "_law_clocks", "_law_due", "_law_rows_here", "_law_clock", "_law_row"]) (sc0:=ad a9) rfl rfl (by decide +kernel)) (dg rfl B.range (aa (eI (je (K:=K) rfl) jd rfl B.len PySem.boot_len (aa (bT (ak (K:=K) rfl) mIx (qv 0) ah (fun _ _=>rfl)) ac)) ac)) (fun _ _ _ _=>(al (i:=0) (show List.Nodup (["_law_clock"]:List Str) by decide +kernel) rfl (Or.inl rfl))) (fun _ _ _ _=>bS) (fun _ _ _ _=>(qf 0)))
   (aj (bM (i:=4)  aX.nd rfl rfl (N':=["_law_clock", "_law_standing_here"]) (ix:=[none,some 1]) rfl (cS (N:=["_law_town_here", "_law_standing_here", "_law_found", "_law_clocks", "_law_due", "_law_rows_here", "_law_clock", "_law_row"]) (sc0:=ad a9) rfl rfl (by decide +kernel)) (bq (K:=K) rfl (qf 3)) (fun _ _ _ _=>(al (i:=0) (show List.Nodup (["_law_clock", "_law_standing_here"]:List Str) by decide +kernel) rfl (Or.inl rfl))) (fun _ _ _ _=>(dM (aZ ou yB (bT (ak (K:=K) rfl) mIx (bT (ak (K:=K) rfl) mIx (qv 1) ah (fun _ _=>rfl)) (qv 0) (fun _ _=>rfl)) ah (bh _)))) (fun _ _ _ _=>(qf 0)))
   (aj (aG (i:=5) aX.nd rfl (Or.inl rfl) (ce (aa (ce ac) ac)))
   (aj (gd PassesOwn.never rfl (bq (K:=K) rfl (qf 3)) (al (i:=6) aX.nd rfl (Or.inr rfl)) (am (aG (i:=5) aX.nd rfl (Or.inl rfl) (oj (eL (K:=K) rfl) yC (qv 5) (d4 (N':=["_law_row", "_law_clock"]) (ix:=[none,some 6]) rfl (cS (N:=["_law_town_here", "_law_standing_here", "_law_found", "_law_clocks", "_law_due", "_law_rows_here", "_law_clock", "_law_row"]) (sc0:=ad a9) rfl rfl (by decide +kernel)) (bq (K:=K) rfl (qf 5)) (fun _ _ _ _=>(al (i:=0) (show List.Nodup (["_law_row", "_law_clock"]:List Str) by decide +kernel) rfl (Or.inl rfl))) (fun _ _ _ _=>bS) (fun _ _ _ _=>(oj (eL (K:=K) rfl) yC (qv 0) (ce (aa (qf 1) ac)))))))))
   (aj (gd PassesOwn.never rfl (bq (K:=K) rfl (qf 5)) (al (i:=7) aX.nd rfl (Or.inr rfl)) (am (kA (PW.pt (y8 (aZ zN mB (eI (je (K:=K) rfl) jd rfl B.len PySem.boot_len (aa (qv 7) ac)) (bT (ak (K:=K) rfl) mIx (bT (ak (K:=K) rfl) mIx (qv 0) ah (fun _ _=>rfl)) (bT (ak (K:=K) rfl) mIx (qv 1) ah (fun _ _=>rfl)) (fun _ _=>rfl)) (bh _)) (wC (aZ (CL (K:=K) rfl hr.units) mEq (d4 (N':=["_law_clock", "_law_row"]) (ix:=[none,some 7]) rfl (cS (N:=["_law_town_here", "_law_standing_here", "_law_found", "_law_clocks", "_law_due", "_law_rows_here", "_law_clock", "_law_row"]) (sc0:=ad a9) rfl rfl (by decide +kernel)) (bq (K:=K) rfl (qf 4)) (fun _ _ _ _=>(al (i:=0) (show List.Nodup (["_law_clock", "_law_row"]:List Str) by decide +kernel) rfl (Or.inl rfl))) (fun _ _ _ _=>(dM (aZ (Ah (K:=K) rfl) zW (qv 0) (qv 1) (by with_unfolding_all rfl)))) (fun _ _ _ _=>(qf 0))) (ce ac) (bh _))))) (am (eY (pS 2 (K:=K) rfl rfl (cj (aa (eI (je (K:=K) rfl) jd rfl B.len PySem.boot_len (aa (qv 7) ac)) (aa (qf 7) ac)))))) cy)))
   (am (bP (d4 (N':=["_law_many", "_law_row"]) (ix:=[none,none]) rfl (cS (N:=["_law_town_here", "_law_standing_here", "_law_found", "_law_clocks", "_law_due", "_law_rows_here", "_law_clock", "_law_row"]) (sc0:=ad a9) rfl rfl (by decide +kernel)) (bq (K:=K) rfl (zi (K:=K) rfl (yZ hr) rfl B.sorted (aa (qv 2) ac))) (fun _ _ _ _=>(gc (K:=K) (n:=2) rfl rfl (bj (al (i:=0) (show List.Nodup (["_law_many", "_law_row"]:List Str) by decide +kernel) rfl (Or.inl rfl)) (bj (al (i:=1) (show List.Nodup (["_law_many", "_law_row"]:List Str) by decide +kernel) rfl (Or.inl rfl)) dN)))) (fun _ _ _ _=>bS) (fun _ _ _ _=>(qf 1))))))))))),fun ss R h=>?_⟩)
 ·obtain ⟨s,o,l,d,rfl,_⟩:=h
  rfl
 obtain ⟨s,o,l,d,rfl,tb,sb,q⟩:=h
 obtain ⟨t1,t2,t3,t4,t5,t6,t7⟩:=tb
 obtain ⟨s1,s2⟩:=sb
 walk_at "dx"
 refine ⟨Ee _,?_⟩
 walk_at "dx"
 rw [DK]
 refine ⟨by omega,by omega,eu (fun i=>.int (i:Int)) (by rw[aw];omega) (fun i hi Q hQ=>?_) ?_⟩
 ·rw [bw]
  walk_at "dx"
  exact hQ
 rw [aw,Eu,tJ]
 walk_at "dx"
 refine cm (fun i=>decide (l.getD i 0=1)) (fun i=>.int (i:Int)) (by simp;omega) (fun i hi Q Q' h1 h2=>?_) ?_
 ·rw [DK,DK,EA] at hi
  rw [cO]
  have ei:(List.map (Nat.cast:Nat→Int) (List.range s.length)).getD i 0=(i:Int):=by simp[DW,hi]
  rw [ei]
  walk_at "dx"
  refine ⟨_,cB (k:=i) (by omega),?_⟩
  walk_at "dx"
  exact fM (fun h=>h1 (by simpa using h)) (fun h=>h2 (by simpa using h))
 walk_at "dx"
 have ed:List.map (fun (i:Nat)=>PyData.int (i:Int)) (List.filter (fun (i:Nat)=>decide (l.getD i 0=1)) (List.range (li (List.map (Nat.cast:Nat→Int) (List.range s.length))).length))=li (cL l s.length):=by
  rw [DK,DK,EA]
  unfold cL
  show _=List.map _ (List.map _ _)
  rw [Ew]
  rfl
 rw [ed]
 refine ⟨Ee _,D1 (by decide) af,?_⟩
 walk_at "dx"
 refine bE (fun i env=>∃ cv:Sl,env=[.fr (.tuple [.list (li s),.list (li o)]),.fr (.tuple [.int d,.tuple (li l)]),.ow [],.fr (.list (li (List.map (Nat.cast:Nat→Int) (List.range s.length)))),.ow (li (cL l s.length)),.ow (lr (cp i)),cv,.un]) ⟨_,rfl⟩ ?_ ?_
 ·rintro i env hi ⟨cv,rfl⟩
  rw [DK,DK,EA] at hi
  rw [cO]
  have ei:(List.map (Nat.cast:Nat→Int) (List.range s.length)).getD i 0=(i:Int):=by simp[DW,hi]
  rw [ei]
  have hz:(cp i).length≤32:=by
   rw [dX]
   have:2 ^ i≤2 ^ 5:=EU (by decide) (by omega)
   omega
  walk_at "dx"
  refine eu (fun j=>.list (li ((cp i).getD j []++[(i:Int)]))) (by rw[DK];omega) (fun j hj Q hQ=>?_) ?_
  ·rw [DK] at hj
   rw [gm]
   have hr:=(bi i _ (cQ (l:=cp i) hj)).1
   walk_at "dx"
   refine ⟨D1 (by decide) af,by rw[DK];exact D1 (by omega) af,?_⟩
   rw [gn]
   exact hQ
  ·rw [DK,hX (cp i) [] (fun r=>PyData.list (li (r++[(i:Int)])))]
   have e:lr (cp i)++(cp i).map (fun r=>PyData.list (li (r++[(i:Int)])))=lr (cp (i+1)):=by
    show _=List.map _ (cp i++_)
    rw [Ei,Ew]
    rfl
   walk_at "dx"
   rw [e]
   refine ⟨?_,rfl⟩
   rw [DK,DK]
   exact D1 (by omega) af
 rintro env ⟨cv,rfl⟩
 rw [DK,DK,EA]
 walk_at "dx"
 refine bE (fun i env=>∃ rv dv:Sl,env=[.fr (.tuple [.list (li s),.list (li o)]),.fr (.tuple [.int d,.tuple (li l)]),.ow ((((cp s.length).take i).filter (bW (o.getD d 0) (cL l s.length))).map Ae),.fr (.list (li (List.map (Nat.cast:Nat→Int) (List.range s.length)))),dv,.fr (.list (lr (cp s.length))),cv,rv]∧(dv=.ow (li (cL l s.length))∨dv=.fr (.list (li (cL l s.length))))) ⟨_,_,rfl,.inl rfl⟩ ?_ ?_
 ·rintro i env hi ⟨rv,dv,rfl,hdv⟩
  rw [DK] at hi
  rw [gm]
  have hm:=cQ (l:=cp s.length) hi
  obtain ⟨r1,r2,r3⟩:=bi _ _ hm
  have et:((cp s.length).take (i+1)).filter (bW (o.getD d 0) (cL l s.length))=((cp s.length).take i).filter (bW (o.getD d 0) (cL l s.length))++(if bW (o.getD d 0) (cL l s.length) ((cp s.length).getD i [])=true then [(cp s.length).getD i []] else []):=by
   have eg:(cp s.length).getD i []=(cp s.length)[i]:=by simp[DW,hi]
   rw [List.take_add_one,DR hi,eg,EN]
   show _++List.filter _ [_]=_
   generalize o.getD d 0=oh
   cases hg:bW oh (cL l s.length) (cp s.length)[i] <;> simp[hg]
  rw [et]
  have hz:(((cp s.length).take i).filter (bW (o.getD d 0) (cL l s.length))).length≤64:=by
   refine D1 (Ey _ _) ?_
   rw [Fj,dX]
   have:2 ^ s.length≤2 ^ 6:=EU (by decide) t2
   omega
  generalize ((cp s.length).take i).filter (bW (o.getD d 0) (cL l s.length))=fs at *
  generalize (cp s.length).getD i []=r at *
  have hdz:(cL l s.length).length≤6:=by
   unfold cL
   rw [DK]
   refine D1 (Ey _ _) ?_
   rw [EA]
   exact t2
  rcases hdv with rfl|rfl
  all_goals
   walk_at "dx"
   refine ⟨_,cB s1,?_⟩
   walk_at "dx"
   rw [DK]
   refine fM (fun hlen=>?_) (fun hlen=>?_)
   rotate_left
   ·have eg:bW (o.getD d 0) (cL l s.length) r=false:=by
     unfold bW
     rw [decide_eq_false hlen,Fd]
    rw [eg,if_neg (by decide),Eh]
    exact ⟨rfl,by simp⟩
   refine cm (fun j=>decide ((cL l s.length).getD j 0 ∉ r)) (fun j=>.int ((cL l s.length).getD j 0)) (by rw[DK];omega) (fun j hj Q Q' h1 h2=>?_) ?_
   ·rw [cO]
    walk_at "dx"
    generalize (cL l s.length).getD j 0=c at *
    exact fM (fun h=>h1 (decide_eq_true h)) (fun h=>h2 (decide_eq_false h))
   rw [DK,bv (cL l s.length) 0 (fun c=>decide (c ∉ r)) (fun c=>PyData.int c)]
   walk_at "dx"
   rw [show PyData.list []=PyData.list (li []) from rfl,vK]
   refine ⟨Ee _,(Sh.ints 0 _).shp (by decide),(Sh.ints 0 []).shp (by decide),?_⟩
   have eg:bW (o.getD d 0) (cL l s.length) r=decide (((cL l s.length).filter fun c=>decide (c ∉ r))=[]):=by
    unfold bW
    rw [decide_eq_true hlen,Fm]
   rw [eg]
   refine fM (fun hm=>?_) (fun hm=>?_)
   ·rw [if_pos hm,Ei]
    refine ⟨D1 (by decide) af,by rw[DK];exact D6 (by omega) af,?_⟩
    refine ⟨?_,by simp⟩
    rw [DK]
    rfl
   ·rw [if_neg hm,Eh]
    exact ⟨rfl,by simp⟩
 ·rintro env ⟨rv,dv,rfl,_⟩
  rw [DK,EM (D2 _)]
  walk_at "dx"
  have hs:∀ r∈(cp s.length).filter (bW (o.getD d 0) (cL l s.length)),r.length≤1000:=fun r hr=>by
   have:=(bi _ r (D9.mp hr).1).1
   omega
  have hes:=pY (List.map Ae ((cp s.length).filter (bW (o.getD d 0) (cL l s.length))))
  generalize cF (aL _) _ _=es at hes ⊢
  refine ⟨fun x hx=>?_,?_,?_⟩
  ·obtain ⟨r,_,rfl⟩:=D4.mp hx
   exact ⟨r.length,r,rfl⟩
  ·rw [DK]
   refine eO t2 (t7.imp (fun h=>h) fun h=>by have:=h _ (aW s1);omega)
  ·obtain ⟨rr,hp,rfl⟩:=jx hes _ rfl
   have hl:=hp.length_eq
   have hf:((cp s.length).filter (bW (o.getD d 0) (cL l s.length))).length<64:=eO t2 (t7.imp (fun h=>h) fun h=>by have:=h _ (aW s1);omega)
   refine eu (fun j=>.list (li (rr.getD j []))) (by rw[DK];omega) (fun j hj Q hQ=>?_) ?_
   ·rw [DK] at hj
    have ek:(List.map Ae rr)[j]'(by simpa using hj)=Ae (rr.getD j []):=by simp[DW,hj]
    rw [ek]
    unfold Ae
    walk_at "dx"
    exact hQ
   ·rw [DK,hX rr [] (fun r=>PyData.list (li r))]
    walk_at "dx"
    exact q rr hp
noncomputable def gU (s l r:List Int) (n:Nat):List Int:=(List.range n).map fun (i:Nat)=>if (i:Int)∈r then s.getD i 0 else l.getD i 0 - 1
theorem eB (s l r:List Int) (n:Nat):(gU s l r n).length=n:=by simp[gU]
theorem rX (s l r:List Int) (n:Nat):gU s l r (n+1)=gU s l r n++[if (n:Int)∈r then s.getD n 0 else l.getD n 0 - 1]:=by
 unfold gU
 rw [Fu,Ei]
 rfl
noncomputable abbrev cx:Stmt:=top 24
theorem bK:au ["_law_town_here", "_law_standing_here", "_law_row", "_law_lefts", "_law_clock"] ["_law_town_here", "_law_standing_here", "_law_row"] (ad cx):=⟨rfl,rfl,rfl,by decide +kernel,rfl,by decide +kernel,by decide +kernel⟩
noncomputable def pB:DSp:=fun ss R=>∃ (s o l r:List Int) (d:Nat),ss=[.fr (.tuple [.list (li s),.list (li o)]),.fr (.tuple [.int d,.tuple (li l)]),.fr (.list (li r))]∧s.length≤1000∧1≤o.length∧l.length=s.length∧R (.fr (.tuple [.int (((d+1) % o.length:Nat):Int),.tuple (li (gU s l r s.length))])) [.un,.un,.un]
theorem i9 {f:Addr}{fd:FuncData} (F:Fun K "_law_after" "_law_after" cx f fd):br K fd ["_law_town_here", "_law_standing_here", "_law_row"] []:=F.binds (ps:=["_law_town_here", "_law_standing_here", "_law_row"]) fun _ _ _ _ _ _ us hl=>us3 (Q:=fun us=>bindArgs _ ⟨us,[]⟩=pure (List.zip _ us)) hl fun _ _ _=>rfl
theorem iK {f:Addr}{fd:FuncData} (F:Fun K "_law_after" "_law_after" cx f fd) (B:Bn mg):b7 P w K mg base CX0 1 f fd ["_law_town_here", "_law_standing_here", "_law_row"] (spD K pB):=by
 refine okD (k:=0) F bK (fun ss R h=>?_) (by decide) (fun cdv A outer s H E hr=>⟨_,(bp (aG (i:=3) bK.nd rfl (Or.inl rfl) (cj ac))
   (bp (gd PassesOwn.never rfl (dg rfl B.range (aa (eI (je (K:=K) rfl) jd rfl B.len PySem.boot_len (aa (bT (ak (K:=K) rfl) mIx (qv 0) ah (fun _ _=>rfl)) ac)) ac)) (al (i:=4) bK.nd rfl (Or.inl rfl)) (am (kA (aZ (kIn (K:=K) rfl) mIn (qv 4) (qv 2) (by with_unfolding_all rfl)) (am (aG (i:=3) bK.nd rfl (Or.inl rfl) (mF (K:=K) rfl (qv 3) (cj (aa (bT (ak (K:=K) rfl) mIx (bT (ak (K:=K) rfl) mIx (qv 0) ah (fun _ _=>rfl)) (qv 4) (fun _ _=>rfl)) ac))))) (am (aG (i:=3) bK.nd rfl (Or.inl rfl) (mF (K:=K) rfl (qv 3) (cj (aa (bA mL mI (bT (ak (K:=K) rfl) mIx (bT (ak (K:=K) rfl) mIx (qv 1) ah (fun _ _=>rfl)) (qv 4) (fun _ _=>rfl)) ah) ac))))))))
   (am (bP (cj (aa (bA aV mIC (bA bH mI (bT (ak (K:=K) rfl) mIx (qv 1) ah (fun _ _=>rfl)) ah) (eI (je (K:=K) rfl) jd rfl B.len PySem.boot_len (aa (bT (ak (K:=K) rfl) mIx (qv 0) ah (fun _ _=>rfl)) ac))) (aa (qf 3) ac))))))),fun ss R h=>?_⟩)
 ·obtain ⟨s,o,l,r,d,rfl,_⟩:=h
  rfl
 obtain ⟨s,o,l,r,d,rfl,h1,h2,h3,q⟩:=h
 walk_at "dx"
 rw [DK]
 refine ⟨Ee _,by omega,by omega,bE (fun i env=>∃ cv:Sl,env=[.fr (.tuple [.list (li s),.list (li o)]),.fr (.tuple [.int d,.tuple (li l)]),.fr (.list (li r)),.fr (.tuple (li (gU s l r i))),cv]) ⟨_,rfl⟩ ?_ ?_⟩
 ·rintro i env hi ⟨cv,rfl⟩
  rw [aw,Eu] at hi
  rw [bw]
  walk_at "dx"
  have hz:(li (gU s l r i)).length+1≤sizeLine:=by
   rw [DK,eB]
   exact D1 (by omega) af
  rw [rX]
  refine fM (fun hm=>?_) (fun hm=>?_)
  ·refine ⟨_,cB hi,D1 (by decide) af,hz,?_⟩
   rw [if_pos hm]
   exact gn _ _
  ·refine ⟨_,cB (by omega),_,rfl,D1 (by decide) af,hz,?_⟩
   rw [if_neg hm]
   exact gn _ _
 ·rintro env ⟨cv,rfl⟩
  rw [aw,Eu]
  walk_at "dx"
  rw [DK]
  exact ⟨by omega,D1 (by decide) af,q⟩
noncomputable abbrev bL:Stmt:=top 22
theorem aF:au ["_law_town_here", "_law_draws_here", "_law_lefts", "_law_lean", "_law_span", "_law_number", "_law_some"] ["_law_town_here", "_law_draws_here"] (ad bL):=⟨rfl,rfl,rfl,by decide +kernel,rfl,by decide +kernel,by decide +kernel⟩
noncomputable def LfB (s l:List Int):Prop:=l.length=s.length∧∀ i,i<s.length→1≤l.getD i 0∧l.getD i 0≤s.getD i 0
noncomputable def hG:DSp:=fun ss R=>∃ (s o l:List Int),ss=[.fr (.tuple [.list (li s),.list (li o)]),.io (li l)]∧Ds l∧TB s o∧∀ (d:Nat) (lf l':List Int),Ds l'→d<o.length→LfB s lf→R (.fr (.tuple [.int d,.tuple (li lf)])) [.un,.io (li l')]
theorem fC {f:Addr}{fd:FuncData} (F:Fun K "_law_standing" "_law_standing" bL f fd):br K fd ["_law_town_here", "_law_draws_here"] []:=F.binds (ps:=["_law_town_here", "_law_draws_here"]) fun _ _ _ _ _ _ us hl=>us2 (Q:=fun us=>bindArgs _ ⟨us,[]⟩=pure (List.zip _ us)) hl fun _ _=>rfl
theorem fA {f:Addr}{fd:FuncData} (F:Fun K "_law_standing" "_law_standing" bL f fd) (B:Bn mg) (G__law_pop:Cal P w K mg base "_law_pop" 1 (spD K sK)):b7 P w K mg base CX0 2 f fd ["_law_town_here", "_law_draws_here"] (spD K hG):=by
 refine okD (k:=1) F aF (fun ss R h=>?_) (by decide) (fun cdv A outer s H E hr=>⟨_,(bp (aG (i:=2) aF.nd rfl (Or.inl rfl) (cj ac))
   (bp (aG (i:=3) aF.nd rfl (Or.inl rfl) (bA aV mIC (cE 0 G__law_pop (hr.mono (by decide)) rfl (aa (qv 1) ac)) ah))
   (bp (gd PassesOwn.never rfl (bq (K:=K) rfl (bT (ak (K:=K) rfl) mIx (qv 0) ah (fun _ _=>rfl))) (al (i:=4) aF.nd rfl (Or.inl rfl)) (bp (aG (i:=5) aF.nd rfl (Or.inl rfl) (cE 0 G__law_pop (hr.mono (by decide)) rfl (aa (qv 1) ac)))
   (bp (aG (i:=6) aF.nd rfl (Or.inl rfl) (ce (aa (bA bH mI ah (bA aV mIC (qv 5) (qv 4))) (aa (bA bH mI ah (bA aV mIC (qv 5) (eI (gF rfl) BU rfl B.min PyProof.Rows.boot_min (aa (qv 4) (aa ah ac))))) (aa (bA mL mI (qv 4) (bA aV mIC (qv 5) (eI (gF rfl) BU rfl B.min PyProof.Rows.boot_min (aa (qv 4) (aa ah ac))))) ac)))))
   (am (aG (i:=2) aF.nd rfl (Or.inl rfl) (mF (K:=K) rfl (qv 2) (cj (aa (bT (ak (K:=K) rfl) mIx (qv 6) (qv 3) (fun _ _=>rfl)) ac))))))))
   (am (bP (cj (aa (bA aV mIC (cE 0 G__law_pop (hr.mono (by decide)) rfl (aa (qv 1) ac)) (eI (je (K:=K) rfl) jd rfl B.len PySem.boot_len (aa (bT (ak (K:=K) rfl) mIx (qv 0) ah (fun _ _=>rfl)) ac))) (aa (qf 2) ac)))))))),fun ss R h=>?_⟩)
 ·obtain ⟨s,o,l,rfl,_⟩:=h
  rfl
 obtain ⟨s,o,l,rfl,dl,tb,q⟩:=h
 obtain ⟨t1,t2,t3,t4,t5,t6,t7⟩:=tb
 walk_at "dd"
 refine ⟨Ee _,l,rfl,?_⟩
 walk_at "dd"
 have dl1:=dl.drop
 generalize kW l=p0 at *
 generalize l.dropLast=l1 at *
 refine ⟨by decide,bE (fun i env=>∃ (ld lf:List Int) (a b c:Sl),env=[.fr (.tuple [.list (li s),.list (li o)]),.io (li ld),.fr (.tuple (li lf)),.fr (.int (p0 % 3)),a,b,c]∧Ds ld∧lf.length=i∧∀ j,j<i→1≤lf.getD j 0∧lf.getD j 0≤s.getD j 0) ⟨l1,[],_,_,_,rfl,dl1,rfl,by omega⟩ ?_ ?_⟩
 ·rintro i env hi ⟨ld,lf,a,b,c,rfl,dld,hlf,hb⟩
  rw [cO]
  rw [DK] at hi
  walk_at "dd"
  refine ⟨ld,rfl,?_⟩
  walk_at "dd"
  have dl2:=dld.drop
  generalize kW ld=num at *
  generalize ld.dropLast=l2 at *
  obtain ⟨sp,hsp⟩:∃ sp,sp=s.getD i 0:=⟨_,rfl⟩
  have hs1:=t5 _ (aW hi)
  rw [←hsp] at hs1 ⊢
  obtain ⟨w3,hw3⟩:∃ w:Int,w=if 3<sp then 3 else sp:=⟨_,rfl⟩
  obtain ⟨w2,hw2⟩:∃ w:Int,w=if 2<sp then 2 else sp:=⟨_,rfl⟩
  rw [←hw3,←hw2]
  have b3:1≤w3∧w3≤sp:=by rw[hw3];split <;> omega
  have b2:1≤w2∧w2≤sp:=by rw[hw2];split <;> omega
  have x0:=EF num (show sp≠0 by omega)
  have x1:=Ex num (show 0<sp by omega)
  have y0:=EF num (show w3≠0 by omega)
  have y1:=Ex num (show 0<w3 by omega)
  have z0:=EF num (show w2≠0 by omega)
  have z1:=Ex num (show 0<w2 by omega)
  obtain ⟨v,ev,v1,v2⟩:∃ v:Int,atI [PyData.int (1+num % sp),PyData.int (1+num % w3),PyData.int (sp - num % w2)] (p0 % 3)=some (.int v)∧1≤v∧v≤sp:=by
   have:p0 % 3=0∨p0 % 3=1∨p0 % 3=2:=by omega
   rcases this with e|e|e
   ·rw [e];exact⟨_,rfl,by omega,by omega⟩
   ·rw [e];exact⟨_,rfl,by omega,by omega⟩
   ·rw [e];exact⟨_,rfl,by omega,by omega⟩
  refine ⟨by omega,by omega,by omega,D1 (by decide) af,_,ev,D1 (by decide) af,by rw[DK,hlf];exact D1 (by omega) af,l2,rfl,lf++[v],gn _ _,dl2,by simp[hlf],fun j hj=>?_⟩
  by_cases hji:j<i
  ·have:=hb j hji
   rw [show (lf++[v]).getD j 0=lf.getD j 0 by simp[DW,Eb (show j<lf.length by omega)]]
   exact this
  ·have:j=i:=by omega
   subst this
   rw [show (lf++[v]).getD j 0=v by rw[←hlf];simp[DW],←hsp]
   exact ⟨v1,v2⟩
 ·rintro env ⟨ld,lf,a,b,c,rfl,dld,hlf,hb⟩
  rw [DK] at hlf hb
  walk_at "dd"
  refine ⟨ld,rfl,?_⟩
  walk_at "dd"
  have dl2:=dld.drop
  generalize kW ld=num at *
  generalize ld.dropLast=l2 at *
  rw [DK]
  have x0:=EF num (show (o.length:Int)≠0 by omega)
  have x1:=Ex num (show 0<(o.length:Int) by omega)
  refine ⟨by omega,D1 (by decide) af,?_⟩
  have e:num % (o.length:Int)=(((num % (o.length:Int)).toNat:Nat):Int):=by omega
  rw [e]
  exact q _ lf l2 dl2 (by omega) ⟨hlf,hb⟩
noncomputable abbrev aY:Stmt:=xK (top 2) 0
theorem iE:au ["self", "day"] ["self", "day"] (ad aY):=⟨rfl,rfl,rfl,by decide +kernel,rfl,by decide +kernel,by decide +kernel⟩
theorem tD {CN fN DN NN:Addr}{nmN qN:Str}{bsN:List Value}{snN:List Str}{subN:List Value}{abN:Bool}{colN:Option Bool}{ddN odN anN:Option Addr}{k0N k1N k2N k3N k5N:Option Value}{slN:Array (Option Value)}{kVN dcN pmN cdN ctN:Value}
  (oN:K.lookup CN=some (excClassObj nmN qN CN NN bsN (.ref DN::bmV) true snN subN abN colN ddN k0N k1N k2N k3N k5N "ValueError.__new__")) (tN:PySem.W.tailIn K bmV (.ref DN::bmV)=true)
  (iN:PySem.W.findIn K (.ref CN) "__init__" = some (some (.ref fN))) (lN:K.lookup fN=some ⟨.type "function",odN,.func (PySem.W.fnOf "__init__" "NoDay.__init__" (cH aY) (bB aY) (ad aY) .none kVN dcN pmN anN cdN ctN),slN⟩)
  (cN:PySem.W.codeIn K cdN "NoDay.__init__" = true) (kN:PySem.W.keepIn K (.ref fN)=true) (kC:PySem.W.keepIn K (.ref CN)=true) (saN:PySem.W.findIn K (.ref CN) "__setattr__" = some (some (.builtin "object.__setattr__"))) (daN:PySem.W.findIn K (.ref CN) "day" = some none)
  (m : mg "NoDay" = some (.ref CN)):fR P w K mg base CN:=by
 have F:=qW (st:=aY) lN cN kN
 have cls:iw K CN fN:=⟨⟨_,_,_,_,_,_,_,_,_,_,_,_,_,_,_,oN,tN⟩,iN,⟨_,lN,rfl⟩,kC,saN,daN⟩
 exact ⟨fN,_,cls,xJ (k:=0) F iE rfl (fun _ _ _=>rfl),F.binds (ps:=["self", "day"]) fun _ _ _ _ _ _ us hl=>us2 (Q:=fun us=>bindArgs _ ⟨us,[]⟩=pure (List.zip _ us)) hl fun _ _=>rfl,m⟩
theorem sD {xs ys:List PyData}{i:Nat} (h:i<(sk xs ys).length):(sk xs ys)[i]=.tuple [xs[i]'(by rw[cu] at h;omega),ys[i]'(by rw[cu] at h;omega)]:=by
 simp [sk]
theorem iP (g:Nat→Bool) (L:List Nat):L.map (fun i=>PyData.bool (g i))=(L.map g).map PyData.bool:=by rw[Ew];rfl
noncomputable def f7 (r:List Int):Bool:=((List.range (r.length - 1)).map fun i=>decide (r.getD i 0<r.getD (i+1) 0)).all id
noncomputable def B5 (n:Nat) (r:List Int):Bool:=((List.range r.length).map fun i=>decide (0≤r.getD i 0)&&decide (r.getD i 0<n)).all id
noncomputable def nZ (n:Nat) (r:List Int):Bool:=f7 r&&B5 n r
noncomputable abbrev dy:Stmt:=top 7
theorem ju:au ["row", "clocks", "rising"] ["row", "clocks"] (ad dy):=⟨rfl,rfl,rfl,by decide +kernel,rfl,by decide +kernel,by decide +kernel⟩
noncomputable def pw:DSp:=fun ss R=>∃ (r:List Int) (n:Nat),ss=[.fr (.list (li r)),.fr (.int n)]∧r.length≤1000∧R (.fr (.bool (nZ n r))) [.un,.un]
theorem rQ {f:Addr}{fd:FuncData} (F:Fun K "is_row" "is_row" dy f fd):br K fd ["row", "clocks"] []:=F.binds (ps:=["row", "clocks"]) fun _ _ _ _ _ _ us hl=>us2 (Q:=fun us=>bindArgs _ ⟨us,[]⟩=pure (List.zip _ us)) hl fun _ _=>rfl
theorem qt {f:Addr}{fd:FuncData} (F:Fun K "is_row" "is_row" dy f fd) (B:Bn mg):b7 P w K mg base CX0 1 f fd ["row", "clocks"] (spD K pw):=by
 refine okD (k:=0) F ju (fun ss R h=>?_) (by decide) (fun cdv A outer s H E hr=>⟨_,(bp (aG (i:=2) ju.nd rfl (Or.inl rfl) (eI (B4 (K:=K) rfl rfl) BW rfl B.all PyProof.Rows.boot_all (aa (d4 (N':=["one", "other"]) (ix:=[none,none]) rfl (cS (N:=["row", "clocks", "rising"]) (sc0:=ad dy) rfl rfl (by decide +kernel)) (za false false (K:=K) rfl rfl B.zip (aa (qf 0) (aa (pP (K:=K) rfl (qv 0) (f8 ah) f9) ac))) (fun _ _ _ _=>(gc (K:=K) (n:=2) rfl rfl (bj (al (i:=0) (show List.Nodup (["one", "other"]:List Str) by decide +kernel) rfl (Or.inl rfl)) (bj (al (i:=1) (show List.Nodup (["one", "other"]:List Str) by decide +kernel) rfl (Or.inl rfl)) dN)))) (fun _ _ _ _=>bS) (fun _ _ _ _=>(kQ tu mB (qv 0) (qv 1) (bh _)))) ac)))
   (am (bP (BK (qv 2) (zo (eI (B4 (K:=K) rfl rfl) BW rfl B.all PyProof.Rows.boot_all (aa (d4 (N':=["clock", "clocks"]) (ix:=[none,some 1]) rfl (cS (N:=["row", "clocks", "rising"]) (sc0:=ad dy) rfl rfl (by decide +kernel)) (bq (K:=K) rfl (qf 0)) (fun _ _ _ _=>(al (i:=0) (show List.Nodup (["clock", "clocks"]:List Str) by decide +kernel) rfl (Or.inl rfl))) (fun _ _ _ _=>bS) (fun _ _ _ _=>(wJ zN mB tu mB ah (qv 0) (qv 1)))) ac))))))),fun ss R h=>?_⟩)
 ·obtain ⟨r,n,rfl,_⟩:=h
  rfl
 obtain ⟨r,n,rfl,h1,q⟩:=h
 walk_at "dd"
 rw [show (some (1:Int))=some ((1:Nat):Int) from rfl,nE]
 refine eu (fun i=>.bool (decide (r.getD i 0<r.getD (i+1) 0))) (by rw[cu,DK];omega) (fun i hi Q hQ=>?_) ?_
 ·rw [sD,cO,cO]
  rw [cu,DK,DK,List.length_drop] at hi
  have e:(r.drop 1).getD i 0=r.getD (i+1) 0:=by simp[DW,List.getElem?_drop,Nat.add_comm]
  rw [e]
  walk_at "dd"
  exact hQ
 rw [iP,cu,DK,DK,List.length_drop,Fl (Nat.sub_le _ _)]
 walk_at "dd"
 have e:((List.range (r.length - 1)).map fun i=>decide (r.getD i 0<r.getD (i+1) 0)).all id=f7 r:=rfl
 simp only [e]
 unfold nZ at q
 generalize f7 r=b at *
 refine fM (fun hb=>?_) (fun hb=>?_)
 ·refine eu (fun i=>.bool (decide (0≤r.getD i 0)&&decide (r.getD i 0<n))) (by rw[DK];omega) (fun i hi Q hQ=>?_) ?_
  ·rw [cO]
   walk_at "dd"
   refine fM (fun h0=>?_) (fun h0=>?_)
   ·rw [decide_eq_true h0,Fm] at hQ
    exact hQ
   ·rw [decide_eq_false h0,Fd] at hQ
    exact hQ
  rw [iP,DK]
  walk_at "dd"
  rw [hb,Fm] at q
  exact q
 ·rw [Bool.not_eq_true] at hb
  rw [hb,Fd] at q
  exact q
noncomputable def x8 (l r:List Int):Bool:=(((List.range l.length).filter fun i=>decide (l.getD i 0=1)).map fun (i:Nat)=>decide ((i:Int)∈r)).all id
noncomputable def tH (s o l r:List Int) (d:Nat):Bool:=nZ s.length r&&(decide ((r.length:Int)≤o.getD d 0)&&x8 l r)
noncomputable abbrev dz:Stmt:=top 5
theorem kI:au ["town", "standing"] ["town", "standing"] (ad dz):=⟨rfl,rfl,rfl,by decide +kernel,rfl,by decide +kernel,by decide +kernel⟩
noncomputable def fV:DSp:=fun ss R=>∃ (s o l:List Int) (d:Nat),ss=[.fr (.tuple [.list (li s),.list (li o)]),.fr (.tuple [.int d,.tuple (li l)])]∧d<o.length∧R (.fr (.int (o.getD d 0))) [.un,.un]
theorem lJ {f:Addr}{fd:FuncData} (F:Fun K "hands_on" "hands_on" dz f fd):br K fd ["town", "standing"] []:=F.binds (ps:=["town", "standing"]) fun _ _ _ _ _ _ us hl=>us2 (Q:=fun us=>bindArgs _ ⟨us,[]⟩=pure (List.zip _ us)) hl fun _ _=>rfl
theorem k8 {f:Addr}{fd:FuncData} (F:Fun K "hands_on" "hands_on" dz f fd) (B:Bn mg):b7 P w K mg base CX0 1 f fd ["town", "standing"] (spD K fV):=by
 refine okD (k:=0) F kI (fun ss R h=>?_) (by decide) (fun cdv A outer s H E hr=>⟨_,(am (bP (bT (ak (K:=K) rfl) mIx (bT (ak (K:=K) rfl) mIx (qv 0) ah (fun _ _=>rfl)) (bT (ak (K:=K) rfl) mIx (qv 1) ah (fun _ _=>rfl)) (fun _ _=>rfl)))),fun ss R h=>?_⟩)
 ·obtain ⟨s,o,l,d,rfl,_⟩:=h
  rfl
 obtain ⟨s,o,l,d,rfl,hd,q⟩:=h
 walk_at "dd"
 exact ⟨_,cB hd,q⟩
noncomputable abbrev cM:Stmt:=top 8
theorem kH:au ["town", "standing", "row"] ["town", "standing", "row"] (ad cM):=⟨rfl,rfl,rfl,by decide +kernel,rfl,by decide +kernel,by decide +kernel⟩
noncomputable def js:DSp:=fun ss R=>∃ (s o l r:List Int) (d:Nat),ss=[.fr (.tuple [.list (li s),.list (li o)]),.fr (.tuple [.int d,.tuple (li l)]),.fr (.list (li r))]∧d<o.length∧l.length≤1000∧r.length≤1000∧R (.fr (.bool (tH s o l r d))) [.un,.un,.un]
theorem lH {f:Addr}{fd:FuncData} (F:Fun K "may_wind" "may_wind" cM f fd):br K fd ["town", "standing", "row"] []:=F.binds (ps:=["town", "standing", "row"]) fun _ _ _ _ _ _ us hl=>us3 (Q:=fun us=>bindArgs _ ⟨us,[]⟩=pure (List.zip _ us)) hl fun _ _ _=>rfl
theorem k7 {f:Addr}{fd:FuncData} (F:Fun K "may_wind" "may_wind" cM f fd) (B:Bn mg) (G_is_row:Cal P w K mg base "is_row" 1 (spD K pw)) (G_hands_on:Cal P w K mg base "hands_on" 1 (spD K fV)):b7 P w K mg base CX0 2 f fd ["town", "standing", "row"] (spD K js):=by
 refine okD (k:=1) F kH (fun ss R h=>?_) (by decide) (fun cdv A outer s H E hr=>⟨_,(bp (kA (PW.pt (y7 (mD (mC (aU G_is_row (hr.mono (by decide)) rfl (aa (qf 2) (aa (eI (je (K:=K) rfl) jd rfl B.len PySem.boot_len (aa (bT (ak (K:=K) rfl) mIx (qv 0) ah (fun _ _=>rfl)) ac)) ac))))) (vc (aZ zR mB (eI (je (K:=K) rfl) jd rfl B.len PySem.boot_len (aa (qv 2) ac)) (aU G_hands_on (hr.mono (by decide)) rfl (aa (qf 0) (aa (qf 1) ac))) (bh _))))) (am (bP wM)) cy)
   (am (bP (eI (B4 (K:=K) rfl rfl) BW rfl B.all PyProof.Rows.boot_all (aa (d4 (N':=["clock", "left", "row"]) (ix:=[none,none,some 2]) rfl (cS (N:=["town", "standing", "row"]) (sc0:=ad cM) rfl rfl (by decide +kernel)) (gb true (K:=K) rfl rfl B.enumerate (aa (bT (ak (K:=K) rfl) mIx (qv 1) ah (fun _ _=>rfl)) ac)) (fun _ _ _ _=>(gc (K:=K) (n:=2) rfl rfl (bj (al (i:=0) (show List.Nodup (["clock", "left", "row"]:List Str) by decide +kernel) rfl (Or.inl rfl)) (bj (al (i:=1) (show List.Nodup (["clock", "left", "row"]:List Str) by decide +kernel) rfl (Or.inl rfl)) dN)))) (fun _ _ _ _=>(dM (aZ ou yB (qv 1) ah (bh _)))) (fun _ _ _ _=>(kQ (kIn (K:=K) rfl) mIn (qv 0) (qv 2) (by with_unfolding_all rfl)))) ac))))),fun ss R h=>?_⟩)
 ·obtain ⟨s,o,l,r,d,rfl,_⟩:=h
  rfl
 obtain ⟨s,o,l,r,d,rfl,hd,hl,hr1,q⟩:=h
 walk_at "dd"
 rw [DK]
 refine ⟨r,s.length,rfl,by omega,?_⟩
 walk_at "dd"
 unfold tH at q
 generalize nZ s.length r=b at *
 refine fM (fun hb=>?_) (fun hb=>?_)
 ·have hb:b=false:=by simpa using hb
  rw [hb,Fd] at q
  exact q
 have hb:b=true:=by simpa using hb
 rw [hb,Fm] at q
 refine ⟨s,o,l,d,rfl,hd,?_⟩
 walk_at "dd"
 rw [DK]
 refine fM (fun hg=>?_) (fun hg=>?_)
 ·rw [decide_eq_false (by omega),Fd] at q
  exact q
 rw [decide_eq_true (by omega),Fm] at q
 refine cm (fun i=>decide (l.getD i 0=1)) (fun i=>.bool (decide ((i:Int)∈r))) (by rw[aM,DK];omega) (fun i hi Q Q' h1 h2=>?_) ?_
 ·rw [aM,DK] at hi
  rw [cR,cO]
  walk_at "dd"
  exact fM (fun h=>h1 (by simpa using h)) (fun h=>h2 (by simpa using h))
 rw [iP,aM,DK]
 walk_at "dd"
 exact q
noncomputable abbrev dZ:Stmt:=top 9
theorem fZ:au ["town", "standing", "row", "spans", "lefts"] ["town", "standing", "row"] (ad dZ):=⟨rfl,rfl,rfl,by decide +kernel,rfl,by decide +kernel,by decide +kernel⟩
noncomputable def iB:DSp:=fun ss R=>∃ (s o l r:List Int) (d:Nat),ss=[.fr (.tuple [.list (li s),.list (li o)]),.fr (.tuple [.int d,.tuple (li l)]),.fr (.list (li r))]∧1≤o.length∧l.length=s.length∧s.length≤1000∧R (.fr (.tuple [.int (((d+1) % o.length:Nat):Int),.tuple (li (gU s l r s.length))])) [.un,.un,.un]
theorem rR {f:Addr}{fd:FuncData} (F:Fun K "behind" "behind" dZ f fd):br K fd ["town", "standing", "row"] []:=F.binds (ps:=["town", "standing", "row"]) fun _ _ _ _ _ _ us hl=>us3 (Q:=fun us=>bindArgs _ ⟨us,[]⟩=pure (List.zip _ us)) hl fun _ _ _=>rfl
theorem qu {f:Addr}{fd:FuncData} (F:Fun K "behind" "behind" dZ f fd) (B:Bn mg):b7 P w K mg base CX0 1 f fd ["town", "standing", "row"] (spD K iB):=by
 refine okD (k:=0) F fZ (fun ss R h=>?_) (by decide) (fun cdv A outer s H E hr=>⟨_,(aj (aG (i:=3) fZ.nd rfl (Or.inr rfl) (bT (ak (K:=K) rfl) mIx (qv 0) ah (fun _ _=>rfl)))
   (aj (bM (i:=4)  fZ.nd rfl rfl (N':=["clock", "left", "row", "spans"]) (ix:=[none,none,some 2,some 3]) rfl (cS (N:=["town", "standing", "row", "spans", "lefts"]) (sc0:=ad dZ) rfl rfl (by decide +kernel)) (gb true (K:=K) rfl rfl B.enumerate (aa (bT (ak (K:=K) rfl) mIx (qv 1) ah (fun _ _=>rfl)) ac)) (fun _ _ _ _=>(gc (K:=K) (n:=2) rfl rfl (bj (al (i:=0) (show List.Nodup (["clock", "left", "row", "spans"]:List Str) by decide +kernel) rfl (Or.inl rfl)) (bj (al (i:=1) (show List.Nodup (["clock", "left", "row", "spans"]:List Str) by decide +kernel) rfl (Or.inl rfl)) dN)))) (fun _ _ _ _=>bS) (fun _ _ _ _=>(pR (aZ (kIn (K:=K) rfl) mIn (qv 0) (qv 2) (by with_unfolding_all rfl)) (bT (ak (K:=K) rfl) mIx (qv 3) (qv 0) (fun _ _=>rfl)) (bA mL mI (qv 1) ah))))
   (am (bP (cj (aa (bA aV mIC (bA bH mI (bT (ak (K:=K) rfl) mIx (qv 1) ah (fun _ _=>rfl)) ah) (eI (je (K:=K) rfl) jd rfl B.len PySem.boot_len (aa (bT (ak (K:=K) rfl) mIx (qv 0) ah (fun _ _=>rfl)) ac))) (aa (pO (K:=K) rfl rfl B.tuple (aa (qv 4) ac)) ac))))))),fun ss R h=>?_⟩)
 ·obtain ⟨s,o,l,r,d,rfl,_⟩:=h
  rfl
 obtain ⟨s,o,l,r,d,rfl,ho,hl,hs,q⟩:=h
 walk_at "dx"
 refine eu (fun i=>.int (if (i:Int)∈r then s.getD i 0 else l.getD i 0 - 1)) (by rw[aM,DK];omega) (fun i hi Q hQ=>?_) ?_
 ·rw [aM,DK] at hi
  rw [cR,cO]
  walk_at "dx"
  refine fM (fun h=>?_) (fun h=>?_)
  ·rw [if_pos h] at hQ
   exact ⟨_,cB (by omega),hQ⟩
  ·rw [if_neg h] at hQ
   exact hQ
 have e:(List.range (iU (li l)).length).map (fun i:Nat=>PyData.int (if (i:Int)∈r then s.getD i 0 else l.getD i 0 - 1))=li (gU s l r s.length):=by
  rw [aM,DK,hl]
  show _=List.map _ (List.map _ _)
  rw [Ew]
  rfl
 rw [e]
 walk_at "dx"
 rw [DK]
 exact ⟨by omega,D1 (by decide) af,q⟩
noncomputable abbrev iG:Stmt:=top 4
theorem sQ:au ["town"] ["town"] (ad iG):=⟨rfl,rfl,rfl,by decide +kernel,rfl,by decide +kernel,by decide +kernel⟩
noncomputable def kG:DSp:=fun ss R=>∃ (s o:List Int),ss=[.fr (.tuple [.list (li s),.list (li o)])]∧R (.fr (.tuple [.int 0,.tuple (li s)])) [.un]
theorem uK {f:Addr}{fd:FuncData} (F:Fun K "begun" "begun" iG f fd):br K fd ["town"] []:=F.binds (ps:=["town"]) fun _ _ _ _ _ _ us hl=>us1 (Q:=fun us=>bindArgs _ ⟨us,[]⟩=pure (List.zip _ us)) hl fun _=>rfl
theorem tx {f:Addr}{fd:FuncData} (F:Fun K "begun" "begun" iG f fd) (B:Bn mg):b7 P w K mg base CX0 1 f fd ["town"] (spD K kG):=by
 refine okD (k:=0) F sQ (fun ss R h=>?_) (by decide) (fun cdv A outer s H E hr=>⟨_,(am (bP (cj (aa ah (aa (pO (K:=K) rfl rfl B.tuple (aa (bT (ak (K:=K) rfl) mIx (qv 0) ah (fun _ _=>rfl)) ac)) ac))))),fun ss R h=>?_⟩)
 ·obtain ⟨s,o,rfl,_⟩:=h
  rfl
 obtain ⟨s,o,rfl,q⟩:=h
 walk_at "dd"
 exact ⟨D1 (by decide) af,q⟩
noncomputable def vn (s l:List Int) (rows:List (List Int)):Nat→List Int
 | 0=>l
 | i+1=>gU s (vn s l rows i) (rows.getD i []) s.length
theorem tK {s l:List Int} (h:l.length=s.length) (rows:List (List Int)):∀ i,(vn s l rows i).length=s.length
 | 0=>h
 | i+1=>eB _ _ _ _
noncomputable def fg (s o l:List Int) (rows:List (List Int)) (d i:Nat):Bool:=tH s o (vn s l rows i) (rows.getD i []) ((d+i) % o.length)
noncomputable abbrev mr:Stmt:=top 11
theorem fY:au ["town", "standing", "rows", "here", "number", "row"] ["town", "standing", "rows"] (ad mr):=⟨rfl,rfl,rfl,by decide +kernel,rfl,by decide +kernel,by decide +kernel⟩
noncomputable def uW:o7:=fun ss R RX=>∃ (s o l:List Int) (rows:List (List Int)) (d:Nat),ss=[.fr (.tuple [.list (li s),.list (li o)]),.fr (.tuple [.int d,.tuple (li l)]),.fr (.list (lr rows))]∧d<o.length∧l.length=s.length∧s.length≤1000∧(∀ r∈rows,r.length≤1000) ∧
 ((∀ i,i<rows.length→fg s o l rows d i=true)→R (.fr (.tuple [.int (((d+rows.length) % o.length:Nat):Int),.tuple (li (vn s l rows rows.length))])) [.un,.un,.un]) ∧
 ∀ i:Nat,i<rows.length→(∀ j,j<i→fg s o l rows d j=true)→fg s o l rows d i=false→RX i
theorem yv {f:Addr}{fd:FuncData} (F:Fun K "gone" "gone" mr f fd):br K fd ["town", "standing", "rows"] []:=F.binds (ps:=["town", "standing", "rows"]) fun _ _ _ _ _ _ us hl=>us3 (Q:=fun us=>bindArgs _ ⟨us,[]⟩=pure (List.zip _ us)) hl fun _ _ _=>rfl
theorem xo {f:Addr}{fd:FuncData} (F:Fun K "gone" "gone" mr f fd) (B:Bn mg) {C:Addr} (cl:fR P w K mg base C) (G_may_wind:Cal P w K mg base "may_wind" 2 (spD K js)) (G_behind:Cal P w K mg base "behind" 1 (spD K iB)):b7 P w K mg base (CXE P w) 4 f fd ["town", "standing", "rows"] (spX K C uW):=by
 refine okX (k:=3) F fY (fun ss R RX h=>?_) (by decide) (fun cdv A outer s H E RX hr hx=>⟨_,(iI (xx (aG (i:=3) fY.nd rfl (Or.inl rfl) (qf 1)))
   (iI (zq PassesOwn.leaving rfl (gb false (K:=K) rfl rfl B.enumerate (aa (qf 2) ac)) (gc (K:=K) (n:=2) rfl rfl (bj (al (i:=4) fY.nd rfl (Or.inl rfl)) (bj (al (i:=5) fY.nd rfl (Or.inl rfl)) dN))) (iI (BJ (mD (mC (aU G_may_wind (hr.mono (by decide)) rfl (aa (qf 0) (aa (qf 3) (aa (qf 5) ac)))))) (iH (wF (k:=0) hx cl (hr.mono (by decide)) rfl (aa (qv 4) ac))) (zY cy))
   (iH (xx (aG (i:=3) fY.nd rfl (Or.inl rfl) (aU G_behind (hr.mono (by decide)) rfl (aa (qf 0) (aa (qf 3) (aa (qf 5) ac)))))))))
   (iH (xx (bP (qv 3)))))),fun ss R h=>?_⟩)
 ·obtain ⟨s,o,l,rows,d,rfl,_⟩:=h
  rfl
 obtain ⟨s,o,l,rows,d,rfl,hd,hl,hs,hrw,q,qx⟩:=h
 walk_at "dd"
 refine bE (fun i env=>i≤rows.length∧(∀ j,j<i→fg s o l rows d j=true)∧∃ (a b:Sl),env=[.fr (.tuple [.list (li s),.list (li o)]),.fr (.tuple [.int d,.tuple (li l)]),.fr (.list (lr rows)),.fr (.tuple [.int (((d+i) % o.length:Nat):Int),.tuple (li (vn s l rows i))]),a,b]) ⟨by omega,fun j hj=>by omega,_,_,by rw[Nat.add_zero,Nat.mod_eq_of_lt hd];rfl⟩ ?_ ?_
 ·rintro i env hi ⟨hle,hj,a,b,rfl⟩
  rw [aM,DK] at hi
  rw [cR,gm]
  have hm:=hrw _ (cQ (l:=rows) hi)
  have hlf:=tK hl rows i
  walk_at "dd"
  refine ⟨s,o,vn s l rows i,rows.getD i [],(d+i) % o.length,rfl,Nat.mod_lt _ (by omega),by omega,hm,?_⟩
  walk_at "dd"
  have e:tH s o (vn s l rows i) (rows.getD i []) ((d+i) % o.length)=fg s o l rows d i:=rfl
  rw [e]
  refine fM (fun hf=>?_) (fun hf=>?_)
  ·exact qx i hi hj (by simpa using hf)
  ·have hf:fg s o l rows d i=true:=by simpa using hf
   refine ⟨s,o,vn s l rows i,rows.getD i [],(d+i) % o.length,rfl,by omega,hlf,hs,?_⟩
   walk_at "dd"
   refine ⟨by omega,fun j hj2=>?_,?_⟩
   ·by_cases hji:j<i
    ·exact hj j hji
    ·have:j=i:=by omega
     rw [this];exact hf
   ·rw [Nat.mod_add_mod]
    exact ⟨rfl,rfl⟩
 ·rintro env ⟨hle,hj,a,b,rfl⟩
  rw [aM,DK] at hj ⊢
  walk_at "dd"
  exact q hj
noncomputable abbrev iF:Stmt:=top 10
theorem sP:au ["town", "standing", "row"] ["town", "standing", "row"] (ad iF):=⟨rfl,rfl,rfl,by decide +kernel,rfl,by decide +kernel,by decide +kernel⟩
noncomputable def mh:o7:=fun ss R RX=>∃ (s o l r:List Int) (d:Nat),ss=[.fr (.tuple [.list (li s),.list (li o)]),.fr (.tuple [.int d,.tuple (li l)]),.fr (.list (li r))]∧d<o.length∧l.length=s.length∧s.length≤1000∧r.length≤1000 ∧
 (tH s o l r d=true→R (.fr (.tuple [.int (((d+1) % o.length:Nat):Int),.tuple (li (gU s l r s.length))])) [.un,.un,.un])∧(tH s o l r d=false→RX 0)
theorem uJ {f:Addr}{fd:FuncData} (F:Fun K "wound" "wound" iF f fd):br K fd ["town", "standing", "row"] []:=F.binds (ps:=["town", "standing", "row"]) fun _ _ _ _ _ _ us hl=>us3 (Q:=fun us=>bindArgs _ ⟨us,[]⟩=pure (List.zip _ us)) hl fun _ _ _=>rfl
theorem tw {f:Addr}{fd:FuncData} (F:Fun K "wound" "wound" iF f fd) (B:Bn mg) {C:Addr} (cl:fR P w K mg base C) (G_gone:yH P w K mg base C "gone" 4 uW):b7 P w K mg base (CXE P w) 5 f fd ["town", "standing", "row"] (spX K C mh):=by
 refine okX (k:=4) F sP (fun ss R RX h=>?_) (by decide) (fun cdv A outer s H E RX hr hx=>⟨_,(iH (zm hx G_gone (hr.mono (by decide)) rfl (aa (qf 0) (aa (qf 1) (aa (ce (aa (qf 2) ac)) ac))))),fun ss R h=>?_⟩)
 ·obtain ⟨s,o,l,r,d,rfl,_⟩:=h
  rfl
 obtain ⟨s,o,l,r,d,rfl,hd,hl,hs,hr1,q,qx⟩:=h
 walk_at "dd"
 have e0:fg s o l [r] d 0=tH s o l r d:=by
  unfold fg
  rw [Nat.add_zero,Nat.mod_eq_of_lt hd]
  rfl
 refine ⟨D1 (by decide) af,s,o,l,[r],d,rfl,hd,hl,hs,fun x hx=>by rw[DM.mp hx];exact hr1,fun ha=>?_,fun i hi _ hn=>?_⟩
 ·exact ⟨_,rfl,q (by rw[←e0];exact ha 0 (by simp))⟩
 ·have:i=0:=by simpa using hi
  subst this
  rw [e0] at hn
  exact qx hn
section
variable {κ β:Type} [DecidableEq κ]
theorem ug (a b:List (κ×β)) (k:κ):cK (a++b) k=match cK a k with|some v=>some v|none=>cK b k:=by
 induction a with
 | nil=>rfl
 | cons p a ih =>
  rw [List.cons_append,bD,bD,ih]
  by_cases h:p.1=k <;> simp[h]
theorem ud (kvs:List (κ×β)) (k:κ) (v:β) (x:κ):cK (kvs.map fun p=>if p.1=k then (p.1,v) else p) x=if x=k then (cK kvs x).map fun _=>v else cK kvs x:=by
 induction kvs with
 | nil=>simp[cK]
 | cons p kvs ih =>
  rw [Ec,bD,bD,ih]
  by_cases h1:p.1=k
  ·by_cases h2:x=k
   ·simp [h1,h2]
   ·have:¬k=x:=fun z=>h2 z.symm
    simp [h1,h2,this]
  ·by_cases h2:p.1=x
   ·subst h2;simp[h1]
   ·simp [h1,h2]
theorem uc (kvs:List (κ×β)) (k:κ) (v:β) (x:κ):cK (jc kvs k v) x=if x=k then some v else cK kvs x:=by
 unfold jc
 cases e:cK kvs k with
 | some w =>
  rw [if_pos (show (some w).isSome=true from rfl),ud]
  by_cases h:x=k
  ·subst h;simp[e]
  ·simp [h]
 | none =>
  rw [if_neg (by simp),ug,bD,ue]
  by_cases h:x=k
  ·subst h;simp[e]
  ·have:¬k=x:=fun z=>h z.symm
   simp only [this,h,if_false]
   cases cK kvs x <;> rfl
end
theorem dh {α:Type} [DecidableEq α]:∀ {l U:List α},l.Nodup→(∀ x∈l,x∈U)→l.length≤U.length
 | [],_,_,_=>Ee _
 | x::l,U,hn,h=>by
  obtain ⟨h1,h2⟩:=Ej.mp hn
  have hx:=h x (by simp)
  have:=dh (l:=l) (U:=U.erase x) h2 fun y hy=>(List.mem_erase_of_ne (fun (z:y=x)=>h1 (by rw[←z];exact hy))).mpr (h y (by simp[hy]))
  rw [List.length_erase_of_mem hx] at this
  have hp:0<U.length:=List.length_pos_of_mem hx
  simp;omega
section
variable {σ ρ:Type} [DecidableEq σ] (Full:σ→List ρ→Prop) (nxt:σ→ρ→σ) (start₀:σ)
structure eU (path:List σ) (ways:List (List ρ)) (places:σ→Option (Option Nat)) (lost:List σ):Prop where
 len:ways.length=path.length
 hd : path.head? = some start₀∨path=[]∧start₀∈lost
 way:∀ (i:Nat) x w,path[i]? = some x→ways[i]? = some w→∃ fr pre,Full x fr∧fr=pre++w∧∀ r∈pre,nxt x r∈lost
 lnk:∀ (i:Nat) x y w,path[i]? = some x→path[i+1]? = some y→ways[i]? = some w→∃ r t,w=r::t∧nxt x r=y
 on : ∀ x (i:Nat),places x=some (some i)↔path[i]? = some x
 off:∀ x,places x=some none↔x∈lost
 down:∀ (j:Nat) x,lost[j]? = some x→∃ fr,Full x fr∧∀ r∈fr,∃ i:Nat,i<j∧lost[i]? = some (nxt x r)
 nd : (path++lost).Nodup
variable {Full nxt start₀}{path:List σ}{ways:List (List ρ)}{places:σ→Option (Option Nat)}{lost:List σ}
theorem eU.init {fr:List ρ} (h:Full start₀ fr) (hp:∀ x,places x=if x=start₀ then some (some 0) else none):eU Full nxt start₀ [start₀] [fr] places []:=by
 refine ⟨rfl,.inl rfl,fun i x w h1 h2=>?_,fun i x y w h1 h2=>?_,fun x i=>?_,fun x=>?_,fun j x h1=>by simp at h1,by simp⟩
 ·cases i with
  | zero=>simp at h1 h2;subst h1 h2;exact⟨fr,[],h,rfl,by simp⟩
  | succ i=>simp at h1
 ·simp at h2
 ·rw [hp]
  by_cases e:x=start₀
  ·subst e
   cases i <;> simp
  ·rw [if_neg e]
   cases i <;> simp[Ne.symm e]
 ·rw [hp]
  split <;> simp
theorem eU.lose {x:σ}{places':σ→Option (Option Nat)} (h:eU Full nxt start₀ (path++[x]) (ways++[[]]) places lost) (hp:∀ y,places' y=if y=x then some none else places y) :
  eU Full nxt start₀ path ways places' (lost++[x]):=by
 have hl:ways.length=path.length:=by have:=h.len;simpa using this
 have nd:=h.nd
 have nd2:(path++(lost++[x])).Nodup:=by
  rw [Ek] at nd
  exact (List.Perm.append_left path (ES)).nodup_iff.mp nd
 have px:x ∉ path:=fun hx=>by
  have:=DZ.mp (DZ.mp nd).1
  exact this.2.2 x hx x (by simp) rfl
 refine ⟨hl,?_,fun i y w h1 h2=>?_,fun i y z w h1 h2 h3=>?_,fun y i=>?_,fun y=>?_,fun j y h1=>?_,nd2⟩
 ·rcases h.hd with e|⟨e,_⟩
  ·cases path with
   | nil =>
    simp at e
    exact .inr ⟨rfl,by simp[e]⟩
   | cons a b=>exact .inl (by simpa using e)
  ·simp at e
 ·have hi:i<path.length:=(DX.mp h1).1
  obtain ⟨fr,pre,a,b,c⟩:=h.way i y w (by rw[Eb hi];exact h1) (by rw[Eb (by omega)];exact h2)
  exact ⟨fr,pre,a,b,fun r hr=>DP _ (c r hr)⟩
 ·have hi:i+1<path.length:=(DX.mp h2).1
  exact h.lnk i y z w (by rw[Eb (by omega)];exact h1) (by rw[Eb hi];exact h2) (by rw[Eb (by omega)];exact h3)
 ·rw [hp]
  by_cases e:y=x
  ·subst e
   rw [if_pos rfl]
   constructor
   ·intro z;cases z
   ·intro z;exact absurd (Fh z) px
  ·rw [if_neg e,h.on]
   by_cases hi:i<path.length
   ·rw [Eb hi]
   ·rw [EJ (by omega),List.getElem?_eq_none (show path.length≤i by omega)]
    constructor
    ·intro z
     cases hk:i - path.length with
     | zero=>rw[hk] at z;simp at z;exact absurd z.symm e
     | succ k=>rw[hk] at z;simp at z
    ·intro z;cases z
 ·rw [hp]
  by_cases e:y=x
  ·subst e;simp
  ·rw [if_neg e,h.off];simp[e]
 ·by_cases hj:j<lost.length
  ·rw [Eb hj] at h1
   obtain ⟨fr,a,b⟩:=h.down j y h1
   refine ⟨fr,a,fun r hr=>?_⟩
   obtain ⟨i,i1,i2⟩:=b r hr
   exact ⟨i,i1,by rw[Eb (by omega)];exact i2⟩
  ·have hjl:j<(lost++[x]).length:=(DX.mp h1).1
   have hj2:j=lost.length:=by simp at hjl;omega
   subst hj2
   rw [EJ (D2 _)] at h1
   simp at h1
   subst h1
   obtain ⟨fr,pre,a,b,c⟩:=h.way path.length x [] (by simp) (by rw[←hl];simp)
   rw [Eh] at b
   subst b
   refine ⟨fr,a,fun r hr=>?_⟩
   obtain ⟨i,hi,e⟩:=Eo (c r hr)
   exact ⟨i,hi,by rw[Eb hi,DR hi,e]⟩
theorem eU.go {x:σ}{r:ρ}{w fr:List ρ}{places':σ→Option (Option Nat)} (h:eU Full nxt start₀ (path++[x]) (ways++[r::w]) places lost) (hn:places (nxt x r)=none) (hf:Full (nxt x r) fr)
  (hp:∀ y,places' y=if y=nxt x r then some (some (path.length+1)) else places y):eU Full nxt start₀ (path++[x]++[nxt x r]) (ways++[r::w]++[fr]) places' lost:=by
 have hl:ways.length=path.length:=by have:=h.len;simpa using this
 have n1:nxt x r ∉ path++[x]:=fun z=>by
  obtain ⟨i,hi,e⟩:=Eo z
  have:=(h.on (nxt x r) i).mpr (by rw[DR hi,e])
  rw [hn] at this;cases this
 have n2:nxt x r ∉ lost:=fun z=>by
  have:=(h.off (nxt x r)).mpr z
  rw [hn] at this;cases this
 have cut:∀ {α:Type} (l:List α) (a:α) (i:Nat) (y:α),(l++[a])[i]? = some y→(i<l.length∧l[i]? = some y)∨(i=l.length∧y=a):=fun l a i y e=>by
  by_cases hi:i<l.length
  ·rw [Eb hi] at e;exact .inl ⟨hi,e⟩
  ·rw [EJ (by omega)] at e
   cases hk:i - l.length with
   | zero=>rw[hk] at e;simp at e;exact .inr ⟨by omega,e.symm⟩
   | succ k=>rw[hk] at e;simp at e
 refine ⟨by simp[hl],?_,fun i y v h1 h2=>?_,fun i y z v h1 h2 h3=>?_,fun y i=>?_,fun y=>?_,h.down,?_⟩
 ·rcases h.hd with e|⟨e,_⟩
  ·exact .inl (by rw[List.head?_append,e];rfl)
  ·simp at e
 ·rcases cut _ _ _ _ h1 with ⟨a1,a2⟩|⟨a1,a2⟩
  ·rcases cut _ _ _ _ h2 with ⟨b1,b2⟩|⟨b1,b2⟩
   ·exact h.way i y v a2 b2
   ·simp at a1 b1;omega
  ·rcases cut _ _ _ _ h2 with ⟨b1,b2⟩|⟨b1,b2⟩
   ·simp at a1 b1;omega
   ·subst a2 b2;exact⟨_,[],hf,rfl,by simp⟩
 ·rcases cut _ _ _ _ h2 with ⟨a1,a2⟩|⟨a1,a2⟩
  ·rcases cut _ _ _ _ h1 with ⟨c1,c2⟩|⟨c1,c2⟩
   ·rcases cut _ _ _ _ h3 with ⟨b1,b2⟩|⟨b1,b2⟩
    ·exact h.lnk i y z v c2 a2 b2
    ·simp at a1 b1;omega
   ·simp at a1 c1;omega
  ·have hi:i=path.length:=by simp at a1;omega
   subst hi
   rcases cut _ _ _ _ h1 with ⟨c1,c2⟩|⟨c1,c2⟩
   ·rcases cut _ _ _ _ h3 with ⟨b1,b2⟩|⟨b1,b2⟩
    ·simp at c2
     rw [←hl] at b2
     simp at b2
     subst a2 c2 b2
     exact ⟨r,w,rfl,rfl⟩
    ·simp at b1;omega
   ·simp at c1
 ·rw [hp]
  by_cases e:y=nxt x r
  ·subst e
   rw [if_pos rfl]
   constructor
   ·intro z
    cases z
    rw [EJ (by simp)]
    simp
   ·intro z
    rcases cut _ _ _ _ z with ⟨_,a2⟩|⟨a1,_⟩
    ·exact absurd (Fh a2) n1
    ·rw [a1];simp
  ·rw [if_neg e,h.on]
   constructor
   ·intro z
    rw [Eb (DX.mp z).1];exact z
   ·intro z
    rcases cut _ _ _ _ z with ⟨_,a2⟩|⟨_,a2⟩
    ·exact a2
    ·exact absurd a2 e
 ·rw [hp]
  by_cases e:y=nxt x r
  ·subst e
   rw [if_pos rfl]
   constructor
   ·intro z;cases z
   ·intro z;exact absurd z n2
  ·rw [if_neg e,h.off]
 ·have nd:=h.nd
  have:(nxt x r::(path++[x]++lost)).Nodup:=Ej.mpr ⟨fun z=>(DQ.mp z).elim n1 n2,nd⟩
  refine List.Perm.nodup_iff ?_ |>.mp this
  rw [Ek (path++[x]) [nxt x r] lost]
  exact List.perm_middle.symm
theorem eU.skip {x:σ}{r:ρ}{w:List ρ} (h:eU Full nxt start₀ (path++[x]) (ways++[r::w]) places lost) (hn:places (nxt x r)=some none) :
  eU Full nxt start₀ (path++[x]) (ways++[w]) places lost:=by
 have hl:ways.length=path.length:=by have:=h.len;simpa using this
 have hx:=(h.off _).mp hn
 refine ⟨by simpa using hl,h.hd,fun i y v h1 h2=>?_,fun i y z v h1 h2 h3=>?_,h.on,h.off,h.down,h.nd⟩
 ·by_cases hi:i<ways.length
  ·rw [Eb hi] at h2
   exact h.way i y v h1 (by rw[Eb hi];exact h2)
  ·have hi2:i<(path++[x]).length:=(DX.mp h1).1
   have hi3:i=ways.length:=by simp at hi2;omega
   subst hi3
   simp at h2
   subst h2
   obtain ⟨fr,pre,a,b,c⟩:=h.way ways.length y (r::w) h1 (by simp)
   have e:y=x:=by
    rw [hl] at h1
    simpa using h1.symm
   subst e
   refine ⟨fr,pre++[r],a,by simp[b],fun q hq=>?_⟩
   rcases DQ.mp hq with hq|hq
   ·exact c q hq
   ·rw [DM.mp hq];exact hx
 ·have hi:i+1<(path++[x]).length:=(DX.mp h2).1
  have hi2:i<ways.length:=by simp at hi;omega
  rw [Eb hi2] at h3
  exact h.lnk i y z v h1 h2 (by rw[Eb hi2];exact h3)
noncomputable def gQ (N C:Nat) (path lost:List σ) (ways:List (List ρ)):Nat:=(N - (path.length+lost.length))*C+(ways.map fun w=>w.length+1).sum
theorem eU.few (h:eU Full nxt start₀ path ways places lost) {U:List σ} (hU:∀ x∈path++lost,x∈U):path.length+lost.length≤U.length:=by
 have:=dh h.nd hU
 simpa using this
end
section
variable {σ ρ:Type} [DecidableEq σ] {Full:σ→List ρ→Prop}{nxt:σ→ρ→σ}{start₀:σ}{path:List σ}{ways:List (List ρ)}{places:σ→Option (Option Nat)}{lost:List σ}
theorem eU.end (h:eU Full nxt start₀ [] [] places lost) (L:σ→σ→Prop) (go:σ→σ→Prop) (hL:L start₀ start₀) (dom:∀ x fr y z,Full x fr→L x y→go y z→∃ r∈fr,L (nxt x r) z):¬ ∃ w:Nat→σ,w 0=start₀∧∀ i,go (w i) (w (i+1)):=by
 rintro ⟨w,w0,hw⟩
 have key:∀ (j:Nat) x i,lost[j]? = some x→L x (w i)→False:=by
  intro j
  induction j using Nat.strongRecOn with
  | _ j ih =>
   intro x i hx hl
   obtain ⟨fr,hf,hd⟩:=h.down j x hx
   obtain ⟨r,hr,hl2⟩:=dom x fr _ _ hf hl (hw i)
   obtain ⟨k,hk,e⟩:=hd r hr
   exact ih k hk _ (i+1) e hl2
 rcases h.hd with e|⟨_,e⟩
 ·cases e
 ·obtain ⟨j,hj,e⟩:=Eo e
  exact key j start₀ 0 (by rw[DR hj,e]) (by rw[w0];exact hL)
theorem eU.lt_lose {x:σ}{N C:Nat} (hl:(path++[x]).length+lost.length≤N):gQ N C path (lost++[x]) ways<gQ N C (path++[x]) lost (ways++[([]:List ρ)]):=by
 unfold gQ
 have:path.length+(lost++[x]).length=(path++[x]).length+lost.length:=by simp;omega
 rw [this,Ei,List.sum_append]
 simp
theorem eU.lt_skip {x:σ}{r:ρ}{w:List ρ}{N C:Nat}:gQ N C (path++[x]) lost (ways++[w])<gQ N C (path++[x]) lost (ways++[r::w]):=by
 unfold gQ
 rw [Ei,List.sum_append,Ei,List.sum_append]
 simp
theorem eU.lt_go {x:σ}{fr:List ρ}{N C:Nat} (hl:path.length+1+lost.length≤N) (hf:fr.length+1<C):gQ N C (path++[x]) lost (ways++[fr])<gQ N C path lost ways:=by
 unfold gQ
 rw [Ei,List.sum_append]
 have e:N - (path.length+lost.length)=N - ((path++[x]).length+lost.length)+1:=by simp;omega
 rw [e,Nat.succ_mul]
 simp
 omega
end
theorem eD {s l r:List Int}{n c:Nat} (h:c<n):(gU s l r n).getD c 0=if (c:Int)∈r then s.getD c 0 else l.getD c 0 - 1:=by
 unfold gU
 simp [DW,h]
theorem iA:∀ (n:Nat) (r:List Int),r.Pairwise (·<·)→(∀ x∈r,0≤x∧x<n)→r∈cp n
 | 0,r,_,h=>by
  cases r with
  | nil=>simp[cp]
  | cons x l=>have:=h x (by simp);omega
 | n + 1,r,hp,h=>by
  show r∈cp n++(cp n).map (·++[(n:Int)])
  by_cases hn:(n:Int)∈r
  ·refine DL _ ?_
   rcases Fb r with rfl|⟨l,x,rfl⟩
   ·cases hn
   ·rw [Fc] at *
    obtain ⟨p1,_,p3⟩:=Fi.mp hp
    have hx:=h x (by simp)
    have hxn:x=(n:Int):=by
     rcases DQ.mp hn with z|z
     ·have:=p3 _ z x (by simp);omega
     ·exact (DM.mp z).symm
    refine D4.mpr ⟨l,iA n l p1 fun y hy=>?_,by rw[hxn]⟩
    have a:=h y (by simp[hy])
    have b:=p3 y hy x (by simp)
    omega
  ·refine DP _ (iA n r hp fun x hx=>?_)
   have a:=h x hx
   have b:x≠(n:Int):=fun z=>hn (z▸hx)
   omega
theorem iM {n:Nat}{h:Int}{l r:List Int}:r∈b8 n h l↔r∈cp n∧(r.length:Int)≤h∧∀ c,c<n→l.getD c 0=1→(c:Int)∈r:=by
 unfold b8 bW
 rw [D9,Es,decide_eq_true_eq,decide_eq_true_eq]
 have du:(List.filter (fun c=>decide (c ∉ r)) (cL l n))=[]↔∀ c,c<n→l.getD c 0=1→(c:Int)∈r:=by
  rw [List.filter_eq_nil_iff]
  constructor
  ·intro h c hc e
   have:=h (c:Int) (by
    unfold cL
    exact D4.mpr ⟨c,D9.mpr ⟨Ez.mpr hc,decide_eq_true e⟩,rfl⟩)
   simpa using this
  ·intro h x hx
   unfold cL at hx
   obtain ⟨c,hc,rfl⟩:=D4.mp hx
   obtain ⟨h1,h2⟩:=D9.mp hc
   have:=h c (Ez.mp h1) (of_decide_eq_true h2)
   simpa using this
 rw [du]
noncomputable abbrev Std:=Nat×List Int
noncomputable def bZ (s o:List Int) (x:Std) (r:List Int):Std:=((x.1+1) % o.length,gU s x.2 r s.length)
noncomputable def fD (s o:List Int) (x:Std) (fr:List (List Int)):Prop:=(∀ r∈fr,r∈b8 s.length (o.getD x.1 0) x.2)∧(∀ r∈b8 s.length (o.getD x.1 0) x.2,∃ r'∈fr,∀ c∈r,c∈r') ∧
 (∀ r∈fr,∀ r'∈b8 s.length (o.getD x.1 0) x.2,r'.length≤r.length)∧∀ r∈b8 s.length (o.getD x.1 0) x.2,(∀ r'∈b8 s.length (o.getD x.1 0) x.2,r'.length≤r.length)→r∈fr
theorem fD.same {s o:List Int}{x:Std}{fr fr':List (List Int)} (h:fD s o x fr) (h':fD s o x fr') {r:List Int} (hr:r∈fr):r∈fr':=h'.2.2.2 r (h.1 r hr) (h.2.2.1 r hr)
noncomputable def IsS (s o:List Int) (x:Std):Prop:=x.1<o.length∧x.2.length=s.length∧∀ c,c<s.length→1≤x.2.getD c 0∧x.2.getD c 0≤s.getD c 0
theorem jF {s o:List Int} (hs:∀ x∈s,1≤x) {x:Std}{r:List Int} (h:IsS s o x) (hr:r∈b8 s.length (o.getD x.1 0) x.2):IsS s o (bZ s o x r):=by
 obtain ⟨h1,h2,h3⟩:=h
 refine ⟨Nat.mod_lt _ (by omega),eB _ _ _ _,fun c hc=>?_⟩
 have hm:=(iM.mp hr).2.2
 show 1≤(gU s x.2 r s.length).getD c 0∧(gU s x.2 r s.length).getD c 0≤_
 rw [eD hc]
 have h4:=h3 c hc
 have h5:=hs _ (aW hc)
 split
 ·omega
 ·rename_i hn
  by_cases e:x.2.getD c 0=1
  ·exact absurd (hm c hc e) hn
  ·omega
noncomputable def uN:List Int→List (List Int)
 | []=>[[]]
 | x::s=>((List.range x.toNat).map fun (i:Nat)=>(uN s).map fun l=>((i:Int)+1)::l).flatten
theorem mN:∀ {s l:List Int},l.length=s.length→(∀ c,c<s.length→1≤l.getD c 0∧l.getD c 0≤s.getD c 0)→l∈uN s
 | [],l,h,_=>by
  rw [List.length_eq_zero_iff.mp h]
  simp [uN]
 | x::s,[],h,_=>by simp at h
 | x::s,y::l,h,hb=>by
  have h0:=hb 0 (by simp)
  have hy:1≤y∧y≤x:=by simpa using h0
  have ih:=mN (s:=s) (l:=l) (by simpa using h) fun c hc=>by simpa using hb (c+1) (by simpa using hc)
  unfold uN
  refine List.mem_flatten.mpr ⟨_,D4.mpr ⟨(y - 1).toNat,Ez.mpr (by omega),rfl⟩,D4.mpr ⟨l,ih,?_⟩⟩
  rw [show (((y - 1).toNat:Nat):Int)+1=y by omega]
noncomputable def jw:List Int→Nat
 | []=>1
 | x::s=>x.toNat*jw s
theorem nP:∀ s:List Int,(uN s).length=jw s
 | []=>rfl
 | x :: s=>by
  unfold uN jw
  rw [List.length_flatten,Ew]
  have:(List.length ∘ fun (i:Nat)=>(uN s).map fun l=>((i:Int)+1)::l)=fun _=>jw s:=by
   funext i
   simp [nP s]
  rw [this,List.map_const',List.sum_replicate_nat,EA]
noncomputable def o3 (s o:List Int):List Std:=((List.range o.length).map fun d=>(uN s).map fun l=>(d,l)).flatten
theorem iO {s o:List Int}{x:Std} (h:IsS s o x):x∈o3 s o :=
 List.mem_flatten.mpr ⟨_,D4.mpr ⟨x.1,Ez.mpr h.1,rfl⟩,D4.mpr ⟨x.2,mN h.2.1 h.2.2,rfl⟩⟩
theorem uM (s o:List Int):(o3 s o).length=o.length*jw s:=by
 unfold o3
 rw [List.length_flatten,Ew]
 have:(List.length ∘ fun d=>(uN s).map fun l=>((d,l):Std))=fun _=>jw s:=by
  funext i
  simp [nP s]
 rw [this,List.map_const',List.sum_replicate_nat,EA]
noncomputable def noB (s o:List Int) (x y:Std):Prop:=IsS s o y∧x.1=y.1∧x.2.length=s.length∧∀ c,c<s.length→y.2.getD c 0≤x.2.getD c 0
noncomputable def goS (s o:List Int) (y z:Std):Prop:=∃ r∈b8 s.length (o.getD y.1 0) y.2,z=bZ s o y r
theorem m9 {s o l l' r:List Int}{d:Nat} (hb:∀ c,c<s.length→1≤l.getD c 0∧l.getD c 0≤l'.getD c 0) (hr:r∈b8 s.length (o.getD d 0) l):r∈b8 s.length (o.getD d 0) l':=by
 rw [iM] at hr ⊢
 refine ⟨hr.1,hr.2.1,fun c hc e=>hr.2.2 c hc ?_⟩
 have:=hb c hc
 omega
theorem nr {s o:List Int} (hs:∀ x∈s,1≤x) {x y z:Std}{fr:List (List Int)} (hf:fD s o x fr) (hl:noB s o x y) (hg:goS s o y z):∃ r∈fr,noB s o (bZ s o x r) z:=by
 obtain ⟨iy,e1,l1,hb⟩:=hl
 obtain ⟨r0,hr0,rfl⟩:=hg
 have hr1:r0∈b8 s.length (o.getD x.1 0) x.2:=by
  rw [e1]
  exact m9 (fun c hc=>⟨(iy.2.2 c hc).1,hb c hc⟩) hr0
 obtain ⟨r,hr,hsub⟩:=hf.2.1 r0 hr1
 refine ⟨r,hr,jF hs iy hr0,?_,eB _ _ _ _,fun c hc=>?_⟩
 ·show (x.1+1) % o.length=(y.1+1) % o.length
  rw [e1]
 ·show (gU s y.2 r0 s.length).getD c 0≤(gU s x.2 r s.length).getD c 0
  rw [eD hc,eD hc]
  have h1:=hb c hc
  have h2:=(iy.2.2 c hc).2
  by_cases h0:(c:Int)∈r0
  ·rw [if_pos h0,if_pos (hsub _ h0)]
   exact Int.le_refl _
  ·rw [if_neg h0]
   split <;> omega
noncomputable def vG (c:Int) (r:List Int):List Int:=r.filter (fun x=>decide (x<c))++c::r.filter (fun x=>decide (c<x))
theorem iL {c x:Int}{r:List Int}:x∈vG c r↔x=c∨x∈r:=by
 unfold vG
 rw [DQ,D3,D9,D9,decide_eq_true_eq,decide_eq_true_eq]
 constructor
 ·rintro (h|h|h)
  ·exact .inr h.1
  ·exact .inl h
  ·exact .inr h.1
 ·rintro (h|h)
  ·exact .inr (.inl h)
  ·by_cases h1:x<c
   ·exact .inl ⟨h,h1⟩
   ·by_cases h2:x=c
    ·exact .inr (.inl h2)
    ·exact .inr (.inr ⟨h,by omega⟩)
theorem mY {c:Int}{r:List Int} (h:c ∉ r):(vG c r).length=r.length+1:=by
 unfold vG
 rw [El,Et]
 have : ∀ r:List Int,c ∉ r→(r.filter fun x=>decide (x<c)).length+(r.filter fun x=>decide (c<x)).length=r.length:=fun r=>by
  induction r with
  | nil=>exact fun _=>rfl
  | cons x r ih =>
   intro h
   have h1:c≠x:=fun z=>h (by simp[z])
   have:=ih fun z=>h (D0 _ z)
   by_cases h2:x<c
   ·have h3:¬c<x:=by omega
    rw [EI (by simpa using h2),EX (by simpa using h3),Et,Et]
    omega
   ·have h3:c<x:=by omega
    rw [EX (by simpa using h2),EI (by simpa using h3),Et,Et]
    omega
 have:=this r h
 omega
theorem oO {c:Int}{r:List Int} (h:r.Pairwise (·<·)):(vG c r).Pairwise (·<·):=by
 unfold vG
 refine Fi.mpr ⟨h.filter _,Fx.mpr ⟨fun x hx=>?_,h.filter _⟩,fun x hx y hy=>?_⟩
 ·simpa using (D9.mp hx).2
 ·have h1:x<c:=by simpa using (D9.mp hx).2
  rcases D3.mp hy with hy|hy
  ·rw [hy];exact h1
  ·have h2:c<y:=by simpa using (D9.mp hy).2
   omega
theorem xP {s o l r:List Int}{d:Nat}{c:Int} (hr:r∈b8 s.length (o.getD d 0) l) (hc:0≤c∧c<s.length) (hn:c ∉ r) (hh:(r.length:Int)+1≤o.getD d 0):vG c r∈b8 s.length (o.getD d 0) l:=by
 rw [iM] at hr ⊢
 obtain ⟨h1,h3,h4⟩:=hr
 obtain ⟨_,p1,b1⟩:=bi _ _ h1
 refine ⟨iA _ _ (oO p1) fun x hx=>?_,?_,fun k hk e=>iL.mpr (.inr (h4 k hk e))⟩
 ·rcases iL.mp hx with rfl|hx
  ·exact hc
  ·exact b1 x hx
 ·rw [mY hn]
  omega
theorem kL {r:List Int} (h:r.Pairwise (·<·)):r.Nodup:=h.imp fun {a b} (z:a<b) (e:a=b)=>by omega
theorem nc {s o l:List Int}{d:Nat}{r1:List Int} (h1:r1∈b8 s.length (o.getD d 0) l):∀ n (r:List Int),r∈b8 s.length (o.getD d 0) l→r.length+n=r1.length→∃ r'∈b8 s.length (o.getD d 0) l,r'.length=r1.length∧∀ x∈r,x∈r'
 | 0,r,hr,e=>⟨r,hr,by omega,fun x hx=>hx⟩
 | n + 1,r,hr,e=>by
  obtain ⟨_,p1,b1⟩:=bi _ _ (D9.mp h1).1
  have hh:(r1.length:Int)≤o.getD d 0:=by
   have:=(D9.mp h1).2
   unfold bW at this
   rw [Es,decide_eq_true_eq] at this
   exact this.1
  have : ∃ c∈r1,c ∉ r:=by
   by_cases hc:∃ c∈r1,c ∉ r
   ·exact hc
   ·have:=dh (kL p1) (U:=r) fun x hx=>by
     by_cases hx2:x∈r
     ·exact hx2
     ·exact absurd ⟨x,hx,hx2⟩ hc
    omega
  obtain ⟨c,c1,c2⟩:=this
  obtain ⟨r',a1,a2,a3⟩:=nc h1 n (vG c r) (xP hr (b1 c c1) c2 (by omega)) (by rw[mY c2];omega)
  exact ⟨r',a1,a2,fun x hx=>a3 x (iL.mpr (.inr hx))⟩
theorem xN {s o:List Int}{x:Std}{fr:List (List Int)}{r1:List Int} (h1:r1∈b8 s.length (o.getD x.1 0) x.2) (hmax:∀ r∈b8 s.length (o.getD x.1 0) x.2,r.length≤r1.length)
  (hf:∀ r,r∈fr↔r∈b8 s.length (o.getD x.1 0) x.2∧r.length=r1.length):fD s o x fr:=by
 refine ⟨fun r hr=>((hf r).mp hr).1,fun r hr=>?_,fun r hr r' hr'=>?_,fun r hr h=>(hf r).mpr ⟨hr,Nat.le_antisymm (hmax r hr) (h r1 h1)⟩⟩
 ·obtain ⟨r',a1,a2,a3⟩:=nc h1 (r1.length - r.length) r hr (by have:=hmax r hr;omega)
  exact ⟨r',(hf r').mpr ⟨a1,a2⟩,a3⟩
 ·have a:=((hf r).mp hr).2
  have b:=hmax r' hr'
  omega
theorem uk {s o:List Int}{x:Std} (h:b8 s.length (o.getD x.1 0) x.2=[]):fD s o x []:=by
 refine ⟨fun r hr=>(by cases hr),fun r hr=>?_,fun r hr=>(by cases hr),fun r hr=>?_⟩
 all_goals
  rw [h] at hr
  cases hr
structure AT (s o:List Int) (P:List (Std×Int)):Prop where
 bg : ∃ e∈P,e.1=((0,s):Std)
 is : ∀ e∈P,IsS s o e.1∧0≤e.2∧e.2<100000
 down:∀ e∈P,∃ fr,fD s o e.1 fr∧∀ r∈fr,∃ e'∈P,e'.1=bZ s o e.1 r∧e'.2<e.2
theorem AT.step {s o:List Int}{P:List (Std×Int)} (h:AT s o P) (hs:∀ x∈s,1≤x) {e:Std×Int}{y z:Std} (he:e∈P) (hn:noB s o e.1 y) (hg:goS s o y z):∃ e'∈P,noB s o e'.1 z∧e'.2<e.2:=by
 obtain ⟨fr,f1,f2⟩:=h.down e he
 obtain ⟨r,hr,hz⟩:=nr hs f1 hn hg
 obtain ⟨e',m,q1,q2⟩:=f2 r hr
 exact ⟨e',m,by rw[q1];exact hz,q2⟩
noncomputable abbrev df:Stmt:=top 6
theorem bQ:au ["town", "standing", "most", "rows", "clock", "left", "with_it"] ["town", "standing"] (ad df):=⟨rfl,rfl,rfl,by decide +kernel,rfl,by decide +kernel,by decide +kernel⟩
noncomputable def chs (h:Int) (l:List Int):Nat→List (List Int)
 | 0=>[[]]
 | k+1=>if l.getD k 0=1 then ((chs h l k).filter fun r=>decide ((r.length:Int)<h)).map (·++[(k:Int)]) else chs h l k++((chs h l k).filter fun r=>decide ((r.length:Int)<h)).map (·++[(k:Int)])
theorem gz (l:List Int) (k:Nat):cL l (k+1)=cL l k++(if l.getD k 0=1 then [(k:Int)] else []):=by
 unfold cL
 rw [Fu,EN,Ei]
 congr 1
 by_cases h:l.getD k 0=1
 ·rw [if_pos h,EI (by simpa using h)]
  rfl
 ·rw [if_neg h,EX (by simpa using h)]
  rfl
theorem x5 {l:List Int}{k:Nat}{x:Int} (h:x∈cL l k):0≤x∧x<k:=by
 unfold cL at h
 obtain ⟨i,hi,rfl⟩:=D4.mp h
 have:=Ez.mp (D9.mp hi).1
 omega
theorem gE (h:Int) (hh:0≤h) (l:List Int):∀ k,chs h l k=b8 k h l
 | 0 => by
  show [[]]=List.filter _ [[]]
  rw [EI]
  ·rfl
  ·show bW h (cL l 0) []=true
   unfold bW cL
   simp [hh]
 | k + 1=>by
  have ih:=gE h hh l k
  have e1:((cp k).map (·++[(k:Int)])).filter (bW h (cL l (k+1)))=((b8 k h l).filter fun r=>decide ((r.length:Int)<h)).map (·++[(k:Int)]):=by
   unfold b8
   rw [List.filter_map,List.filter_filter]
   congr 1
   refine List.filter_congr fun r hr=>?_
   have hr':=bi k r hr
   show bW h (cL l (k+1)) (r++[(k:Int)])=_
   unfold bW
   rw [gz]
   have e2:(List.filter (fun c=>decide (c ∉ r++[(k:Int)])) (cL l k++if l.getD k 0=1 then [(k:Int)] else []))=List.filter (fun c=>decide (c ∉ r)) (cL l k):=by
    rw [EN]
    have e3:List.filter (fun c=>decide (c ∉ r++[(k:Int)])) (if l.getD k 0=1 then [(k:Int)] else [])=[]:=by split <;> simp
    rw [e3,Eh]
    refine List.filter_congr fun c hc=>?_
    have:=x5 hc
    have hne:c≠(k:Int):=by omega
    simp [hne]
   rw [e2]
   have e4:decide (((r++[(k:Int)]).length:Int)≤h)=(decide ((r.length:Int)<h)&&decide ((r.length:Int)≤h)):=by
    rw [El,E4]
    by_cases c:(r.length:Int)<h
    ·have c2:(r.length:Int)≤h:=by omega
     have c3:((r.length+1:Nat):Int)≤h:=by omega
     rw [decide_eq_true c,decide_eq_true c2,decide_eq_true c3];rfl
    ·have c3:¬((r.length+1:Nat):Int)≤h:=by omega
     rw [decide_eq_false c,decide_eq_false c3];rfl
   rw [e4,Bool.and_assoc]
  have e2:(cp k).filter (bW h (cL l (k+1)))=if l.getD k 0=1 then [] else b8 k h l:=by
   split
   ·rename_i h1
    refine List.filter_eq_nil_iff.mpr fun r hr=>?_
    have hr':=bi k r hr
    unfold bW
    rw [gz,if_pos h1,EN]
    have hn:(k:Int) ∉ r:=fun z=>by have:=hr'.2.2 _ z;omega
    simp [hn]
   ·rename_i h1
    unfold b8
    rw [gz,if_neg h1,Eh]
  show (if l.getD k 0=1 then _ else _)=List.filter _ (cp k++(cp k).map (·++[(k:Int)]))
  rw [EN,e1,e2,ih]
  split
  ·rw [List.nil_append]
  ·rfl
noncomputable def tW (r:List Int):Int×List Int:=((r.length:Int),r)
noncomputable def chX (n:Nat) (h:Int) (l:List Int):List (List Int):=cF (aL ((b8 n h l).map tW)) (b8 n h l) []
theorem i5 (n:Nat) (h:Int) (l:List Int):(chX n h l).Perm (b8 n h l):=d5 (by have:=bG ((b8 n h l).map tW);rwa [DK] at this)
theorem uC {n:Nat}{h:Int}{l:List Int} (hne:chX n h l≠[]):∃ rl r,chX n h l=rl++[r]∧r∈b8 n h l∧∀ r'∈b8 n h l,r'.length≤r.length:=by
 have hp:=i5 n h l
 have hpos:1≤((b8 n h l).map tW).length:=by
  rw [DK,←hp.length_eq]
  exact List.length_pos_iff.mpr hne
 obtain ⟨j,h1,h2,h3⟩:=nX hpos
 rw [DK] at h2 h3
 have e:(chX n h l).getLast? = some ((b8 n h l).getD j []):=by
  unfold chX cF
  rw [List.getLast?_map,h1]
  rfl
 obtain ⟨rl,r,erl⟩:∃ rl r,chX n h l=rl++[r]:=⟨(chX n h l).dropLast,(chX n h l).getLast hne,(List.dropLast_concat_getLast hne).symm⟩
 have er:r=(b8 n h l).getD j []:=by
  rw [erl,List.getLast?_append] at e
  simpa using e
 refine ⟨rl,r,erl,by rw[er];exact cQ h2,fun r' hr'=>?_⟩
 obtain ⟨i,hi,e2⟩:=Eo hr'
 have:=h3 i hi
 have g:∀ k,k<(b8 n h l).length→((b8 n h l).map tW).getD k (0,[])=tW ((b8 n h l).getD k []):=fun k hk=>by
  simp [DW,hk]
 rw [g i hi,g j h2] at this
 unfold tW at this
 simp only at this
 rw [←er,show (b8 n h l).getD i []=r' by simp[DW,hi,e2]] at this
 omega
theorem tV (rr:List (List Int)):(lr rr).map (fun d=>cq (lz d))=rr.map tW:=by
 show (List.map _ (List.map _ rr))=_
 rw [Ew]
 refine Fp fun r _=>?_
 show cq (lz (.list (li r)))=tW r
 unfold lz cq tW
 simp only [bV,Option.getD_some,DK]
theorem xw {rr:List (List Int)}{p:List Nat} (h:∀ i∈p,i<rr.length):cF p (lr rr) .none=lr (cF p rr []):=by
 unfold cF
 show _=List.map _ (List.map _ p)
 rw [Ew]
 refine Fp fun i hi=>?_
 have:=h i hi
 simp [DW,this]
noncomputable def fW:DSp:=fun ss R=>∃ (s o l:List Int) (d:Nat),ss=[.fr (.tuple [.list (li s),.list (li o)]),.fr (.tuple [.int d,.tuple (li l)])]∧s.length≤6∧0≤o.getD d 0∧(s.length≤4∨o.getD d 0≤3)∧StB s o d l ∧
 R (.ow (lr (chX s.length (o.getD d 0) l))) [.un,.un]
theorem oX {f:Addr}{fd:FuncData} (F:Fun K "choices" "choices" df f fd):br K fd ["town", "standing"] []:=F.binds (ps:=["town", "standing"]) fun _ _ _ _ _ _ us hl=>us2 (Q:=fun us=>bindArgs _ ⟨us,[]⟩=pure (List.zip _ us)) hl fun _ _=>rfl
theorem oz {f:Addr}{fd:FuncData} (F:Fun K "choices" "choices" df f fd) (B:Bn mg) (L:sf K base "choices" fd) (G_hands_on:Cal P w K mg base "hands_on" 1 (spD K fV)):b7 P w K mg base CX0 6 f fd ["town", "standing"] (spD K fW):=by
 refine CI (k:=5) F bQ (fun ss R h=>?_) (by decide) (fun cdv hcd A outer s H E hr=>⟨_,(aj (aG (i:=2) bQ.nd rfl (Or.inr rfl) (aU G_hands_on (hr.mono (by decide)) rfl (aa (qf 0) (aa (qf 1) ac))))
   (aj (aG (i:=3) bQ.nd rfl (Or.inl rfl) (ce (aa (ce ac) ac)))
   (aj (gd PassesOwn.never rfl (gb true (K:=K) rfl rfl B.enumerate (aa (bT (ak (K:=K) rfl) mIx (qv 1) ah (fun _ _=>rfl)) ac)) (gc (K:=K) (n:=2) rfl rfl (bj (al (i:=4) bQ.nd rfl (Or.inr rfl)) (bj (al (i:=5) bQ.nd rfl (Or.inl rfl)) dN))) (aj (bM (i:=6)  bQ.nd rfl rfl (N':=["row", "most", "clock"]) (ix:=[none,some 2,some 4]) rfl (cS (N:=["town", "standing", "most", "rows", "clock", "left", "with_it"]) (sc0:=ad df) rfl rfl (by decide +kernel)) (bq (K:=K) rfl (qf 3)) (fun _ _ _ _=>(al (i:=0) (show List.Nodup (["row", "most", "clock"]:List Str) by decide +kernel) rfl (Or.inl rfl))) (fun _ _ _ _=>(dM (aZ tu mB (eI (je (K:=K) rfl) jd rfl B.len PySem.boot_len (aa (qv 0) ac)) (qv 1) (bh _)))) (fun _ _ _ _=>(oj (eL (K:=K) rfl) yC (qv 0) (ce (aa (qf 2) ac)))))
   (am (aG (i:=3) bQ.nd rfl (Or.inl rfl) (pR (aZ ou yB (qv 5) ah (bh _)) (qf 6) (oj (eL (K:=K) rfl) yC (qv 3) (qv 6)))))))
   (am (bP (zk (p := "row") (K:=K) rfl (let ⟨c,T,a,b,d⟩:=L;⟨c,T,hcd.trans a,b,d⟩) (hr.mono (by decide)) rfl B.sorted (aa (qv 3) ac) ⟨rfl,rfl,rfl,by decide,rfl,fun x hx=>by rw[DM.mp hx];exact .inl rfl,by decide⟩ (fun _ _ _ _ _=>rfl) rfl rfl (fun _ _ _ _ _=>(cj (aa (eI (je (K:=K) rfl) jd rfl B.len PySem.boot_len (aa (qv 0) ac)) (aa (qf 0) ac)))))))))),fun ss R h=>?_⟩)
 ·obtain ⟨s,o,l,d,rfl,_⟩:=h
  rfl
 obtain ⟨s,o,l,d,rfl,t2,t0,t7,sb,q⟩:=h
 obtain ⟨s1,s2⟩:=sb
 walk_at "dx"
 refine ⟨s,o,l,d,rfl,s1,?_⟩
 walk_at "dx"
 refine ⟨Ee _,D1 (by decide) af,?_⟩
 walk_at "dx"
 refine bE (fun i env=>∃ (rv a b c:Sl),env=[.fr (.tuple [.list (li s),.list (li o)]),.fr (.tuple [.int d,.tuple (li l)]),.fr (.int (o.getD d 0)),rv,a,b,c]∧(rv=.ow (lr (chs (o.getD d 0) l i))∨rv=.fr (.list (lr (chs (o.getD d 0) l i))))) ⟨_,_,_,_,rfl,.inl rfl⟩ ?_ ?_
 ·rintro i env hi ⟨rv,a,b,c,rfl,hrv⟩
  rw [cR,cO]
  rw [aM,DK] at hi
  have hz:(chs (o.getD d 0) l i).length≤64:=by
   rw [gE _ t0]
   refine D1 (Ey _ _) ?_
   rw [dX]
   exact EU (by decide) (show i≤6 by omega)
  have hrow:∀ r∈chs (o.getD d 0) l i,r.length≤6:=fun r hr=>by
   rw [gE _ t0] at hr
   have:=(bi i r (D9.mp hr).1).1
   omega
  have eC:chs (o.getD d 0) l (i+1)=if l.getD i 0=1 then ((chs (o.getD d 0) l i).filter fun r=>decide ((r.length:Int)<o.getD d 0)).map (·++[(i:Int)]) else chs (o.getD d 0) l i++((chs (o.getD d 0) l i).filter fun r=>decide ((r.length:Int)<o.getD d 0)).map (·++[(i:Int)]):=rfl
  rw [eC]
  generalize chs (o.getD d 0) l i=cs at *
  generalize o.getD d 0=hd at *
  rcases hrv with rfl|rfl
  all_goals
   walk_at "dx"
   refine cm (fun j=>decide (((cs.getD j []).length:Int)<hd)) (fun j=>.list (li (cs.getD j []++[(i:Int)]))) (by rw[DK];omega) (fun j hj Q Q' h1 h2=>?_) ?_
   ·rw [DK] at hj
    rw [gm]
    have hm:=hrow _ (cQ (l:=cs) hj)
    walk_at "dx"
    rw [DK]
    refine fM (fun h=>?_) (fun h=>h2 (by simpa using h))
    rw [gn]
    exact ⟨D1 (by decide) af,D1 (by omega) af,h1 (by simpa using h)⟩
   rw [DK,bv cs [] (fun r=>decide ((r.length:Int)<hd)) (fun r=>PyData.list (li (r++[(i:Int)])))]
   walk_at "dx"
   refine fM (fun h1=>?_) (fun h1=>?_)
   ·rw [if_pos h1]
    exact .inr (by simp)
   ·rw [if_neg h1]
    have hf:=Ey (fun r:List Int=>decide ((r.length:Int)<hd)) cs
    refine ⟨?_,.inl (by simp)⟩
    rw [DK,DK]
    exact D1 (by omega) af
 ·rintro env ⟨rv,a,b,c,rfl,hrv⟩
  rw [aM,DK,s2] at hrv
  have hz:(chs (o.getD d 0) l s.length).length<64:=by
   rw [gE _ t0]
   exact eO t2 t7
  have hr:∀ x∈lr (chs (o.getD d 0) l s.length),Ak x:=fun x hx=>by
   obtain ⟨r,_,rfl⟩:=D4.mp hx
   exact ⟨r,rfl⟩
  have e:cF (aL (((lr (chs (o.getD d 0) l s.length)).map lz).map cq)) (lr (chs (o.getD d 0) l s.length)) .none=lr (chX s.length (o.getD d 0) l):=by
   rw [Ew,show (cq ∘ lz)=fun d=>cq (lz d) from rfl,tV,gE _ t0]
   exact xw fun i hi=>by have:=cW i hi;rwa [DK] at this
  rcases hrv with rfl|rfl
  all_goals
   walk_at "dx"
   refine ⟨by rw[DK];exact hz,lz,.inl fun x hx=>?_,fun x hx=>?_,?_⟩
   ·obtain ⟨y,hy,rfl⟩:=D4.mp hx
    obtain ⟨r,rfl⟩:=hr y hy
    exact ⟨_,r,rfl⟩
   ·obtain ⟨r,rfl⟩:=hr x hx
    unfold vv
    walk_at "dd"
    exact ⟨D1 (by decide) af,rfl⟩
   ·rw [e]
    exact q
theorem rT (rl:List (List Int)) (x:List Int):atI (lr (rl++[x])) (-1)=some (.list (li x)):=by
 show atI (List.map _ (rl++[x])) (-1)=_
 rw [Ei]
 exact cT _ _
noncomputable def A0 (l:List Int):PyData→PyData
 | .list es=>.list (li (gP ((List.range ((bN es).getD []).length).map fun i=>l.getD (((bN es).getD []).getD i 0).toNat 0)))
 | d=>d
theorem tZ (l r:List Int):A0 l (.list (li r))=.list (li (gP ((List.range r.length).map fun i=>l.getD (r.getD i 0).toNat 0))):=by
 show PyData.list (li (gP ((List.range ((bN (r.map .int)).getD []).length).map fun i=>l.getD (((bN (r.map .int)).getD []).getD i 0).toNat 0)))=_
 rw [bV]
 rfl
theorem pZ (l:List Int) (ds:List PyData):(cF (aL ((ds.map (A0 l)).map cq)) ds .none).Perm ds:=d5 (by have:=bG ((ds.map (A0 l)).map cq);rwa [DK,DK] at this)
noncomputable abbrev ci:Stmt:=top 13
theorem cw:au ["town", "standing", "lefts", "rows", "full"] ["town", "standing"] (ad ci):=⟨rfl,rfl,rfl,by decide +kernel,rfl,by decide +kernel,by decide +kernel⟩
noncomputable def uX:DSp:=fun ss R=>∃ (s o l:List Int) (d:Nat),ss=[.fr (.tuple [.list (li s),.list (li o)]),.fr (.tuple [.int d,.tuple (li l)])]∧s.length≤6∧0≤o.getD d 0∧(s.length≤4∨o.getD d 0≤3)∧StB s o d l ∧
 ∀ fr:List (List Int),fD s o (d,l) fr→fr.length<64→(∀ r∈fr,r.length≤6)→R (.ow (lr fr)) [.un,.un]
theorem ko {f:Addr}{fd:FuncData} (F:Fun K "full_rows" "full_rows" ci f fd):br K fd ["town", "standing"] []:=F.binds (ps:=["town", "standing"]) fun _ _ _ _ _ _ us hl=>us2 (Q:=fun us=>bindArgs _ ⟨us,[]⟩=pure (List.zip _ us)) hl fun _ _=>rfl
theorem jA {f:Addr}{fd:FuncData} (F:Fun K "full_rows" "full_rows" ci f fd) (B:Bn mg) (L:sf K base "full_rows" fd) (G_choices:Cal P w K mg base "choices" 6 (spD K fW)):b7 P w K mg base CX0 7 f fd ["town", "standing"] (spD K uX):=by
 refine CI (k:=6) F cw (fun ss R h=>?_) (by decide) (fun cdv hcd A outer s H E hr=>⟨_,(bp (aG (i:=2) cw.nd rfl (Or.inr rfl) (bT (ak (K:=K) rfl) mIx (qv 1) ah (fun _ _=>rfl)))
   (bp (aG (i:=3) cw.nd rfl (Or.inr rfl) (aU G_choices (hr.mono (by decide)) rfl (aa (qf 0) (aa (qf 1) ac))))
   (bp (bM (i:=4)  cw.nd rfl rfl (N':=["row", "rows"]) (ix:=[none,some 3]) rfl (cS (N:=["town", "standing", "lefts", "rows", "full"]) (sc0:=ad ci) rfl rfl (by decide +kernel)) (bq (K:=K) rfl (qf 3)) (fun _ _ _ _=>(al (i:=0) (show List.Nodup (["row", "rows"]:List Str) by decide +kernel) rfl (Or.inl rfl))) (fun _ _ _ _=>(dM (aZ ou yB (eI (je (K:=K) rfl) jd rfl B.len PySem.boot_len (aa (qv 0) ac)) (eI (je (K:=K) rfl) jd rfl B.len PySem.boot_len (aa (bT (ak (K:=K) rfl) mIx (qv 1) (AY jk AZ ah) (fun _ _=>rfl)) ac)) (bh _)))) (fun _ _ _ _=>(qf 0)))
   (am (bP (zl 2 (p := "row") (x := "lefts") (K:=K) rfl (let ⟨c,T,a,b,d⟩:=L;⟨c,T,hcd.trans a,b,d⟩) (hr.mono (by decide)) rfl B.sorted (aa (qv 4) ac) ⟨rfl,rfl,rfl,rfl,rfl,by decide,by decide,by decide⟩ rfl (Or.inr (Or.inl rfl)) (Or.inl rfl) (fun z=>nomatch (show (some NameKind.cell:Option NameKind)=some .local from z)) (fun _ _ _ _ _ _=>rfl) (fun c hc=>by cases hc;rfl) rfl (fun _ _ _ _ _ _ _=>(zj (K:=K) rfl rfl B.sorted (aa (d4 (N':=["clock", "lefts"]) (ix:=[none,some 1]) rfl (Ct (by decide +kernel)) (bq (K:=K) rfl (qf 0)) (fun _ _ _ _=>(al (i:=0) (show List.Nodup (["clock", "lefts"]:List Str) by decide +kernel) rfl (Or.inl rfl))) (fun _ _ _ _=>bS) (fun _ _ _ _=>(bT (ak (K:=K) rfl) mIx (qv 1) (qv 0) (fun _ _=>rfl)))) ac))))))))),fun ss R h=>?_⟩)
 ·obtain ⟨s,o,l,d,rfl,_⟩:=h
  rfl
 obtain ⟨s,o,l,d,rfl,t2,t0,t7,sb,q⟩:=h
 obtain ⟨s1,s2⟩:=id sb
 walk_at "dd"
 refine ⟨s,o,l,d,rfl,t2,t0,t7,sb,?_⟩
 walk_at "dd"
 have hp:=i5 s.length (o.getD d 0) l
 have hl64:(chX s.length (o.getD d 0) l).length<64:=by rw[hp.length_eq];exact eO t2 t7
 have hrl:∀ r∈chX s.length (o.getD d 0) l,r.length≤6:=fun r hr=>by
  have:=(bi _ r (D9.mp (hp.mem_iff.mp hr)).1).1
  omega
 have hin:∀ r∈chX s.length (o.getD d 0) l,∀ x∈r,0≤x∧x<s.length:=fun r hr=>(bi _ r (D9.mp (hp.mem_iff.mp hr)).1).2.2
 have hf:∀ m:Nat,((chX s.length (o.getD d 0) l).filter fun r=>decide (r.length=m)).length<64:=fun m=>Fw (Ey _ _) hl64
 obtain ⟨m,hm,hF⟩:∃ m:Nat,(∀ j,j<(chX s.length (o.getD d 0) l).length→∃ z:List Int,atI (lr (chX s.length (o.getD d 0) l)) (-1)=some (.list (li z))∧z.length=m) ∧
   ∀ fr:List (List Int),fr.Perm ((chX s.length (o.getD d 0) l).filter fun r=>decide (r.length=m))→fD s o (d,l) fr:=by
  by_cases hne:chX s.length (o.getD d 0) l=[]
  ·refine ⟨0,fun j hj=>by rw[hne] at hj;simp at hj,fun fr hfr=>?_⟩
   rw [hne] at hfr hp
   rw [show fr=[] from List.Perm.eq_nil hfr]
   exact uk (show b8 s.length (o.getD d 0) l=[] from List.Perm.eq_nil hp.symm)
  ·obtain ⟨rl,r,e1,e2,e3⟩:=uC hne
   refine ⟨r.length,fun j hj=>⟨r,by rw[e1];exact rT _ _,rfl⟩,fun fr hfr=>xN (x:=(d,l)) e2 e3 fun r'=>?_⟩
   rw [hfr.mem_iff,D9,hp.mem_iff]
   simp
 generalize chX s.length (o.getD d 0) l=cs at *
 refine cm (fun j=>decide ((cs.getD j []).length=m)) (fun j=>.list (li (cs.getD j []))) (by rw[DK];omega) (fun j hj Q Q' h1 h2=>?_) ?_
 ·rw [DK] at hj
  rw [gm]
  obtain ⟨z,z1,z2⟩:=hm j hj
  walk_at "dd"
  refine ⟨_,z1,_,rfl,?_⟩
  rw [DK,DK]
  refine fM (fun h=>h1 (decide_eq_true (by omega))) (fun h=>h2 (decide_eq_false (by omega)))
 rw [DK,bv cs [] (fun r=>decide (r.length=m)) (fun r=>PyData.list (li r))]
 walk_at "dd"
 have hfm:∀ r∈List.filter (fun r=>decide (r.length=m)) cs,r∈cs:=fun r hr=>(D9.mp hr).1
 refine ⟨by rw[DK];exact hf m,A0 l,.inr (.inr fun x hx=>?_),fun x hx=>?_,?_⟩
 ·obtain ⟨y,hy,rfl⟩:=D4.mp hx
  obtain ⟨r,_,rfl⟩:=D4.mp hy
  exact ⟨_,rfl⟩
 ·obtain ⟨r,hr,rfl⟩:=D4.mp hx
  refine ⟨_,rfl,eu (fun i=>.int (l.getD (r.getD i 0).toNat 0)) (by rw[DK];have:=hrl r (hfm r hr);omega) (fun i hi Q hQ=>?_) ?_⟩
  ·rw [DK] at hi
   rw [cO]
   have h9:=hin r (hfm r hr) _ (show r.getD i 0∈r by rw[DW,DR hi];exact EE hi)
   walk_at "dd"
   rw [show r.getD i 0=((r.getD i 0).toNat:Int) by omega]
   exact ⟨_,cB (by omega),hQ⟩
  ·have e:(List.range (li r).length).map (fun i:Nat=>PyData.int (l.getD (r.getD i 0).toNat 0))=li ((List.range r.length).map fun i=>l.getD (r.getD i 0).toNat 0):=by
    rw [DK]
    show _=List.map _ (List.map _ _)
    rw [Ew]
    rfl
   rw [e]
   walk_at "dx"
   refine ⟨_,rfl,?_,(tZ l r).symm⟩
   have:=hrl r (hfm r hr)
   simp;omega
 ·have hes:=pZ l (List.map (fun r=>PyData.list (li r)) (List.filter (fun r=>decide (r.length=m)) cs))
  generalize cF (aL _) _ _=es at hes ⊢
  obtain ⟨rr,hpr,rfl⟩:=jx hes _ rfl
  exact q rr (hF rr hpr) (by rw[hpr.length_eq];exact hf m) fun r hr=>hrl r (hfm r (hpr.mem_iff.mp hr))
noncomputable abbrev stS (x:Std):PyData:=cV ((x.1:Int),x.2)
noncomputable def plV:PyData→Option Nat
 | .int i=>some i.toNat
 | _=>none
noncomputable def kOf (x:Std):aS:=((x.1:Int),x.2)
theorem qM {x y:Std} (h:kOf x=kOf y):x=y:=by
 obtain ⟨a,b⟩:=x
 obtain ⟨c,d⟩:=y
 unfold kOf at h
 simp only [Prod.mk.injEq] at h ⊢
 exact ⟨by omega,h.2⟩
noncomputable def plc (kvs:List (aS×PyData)) (x:Std):Option (Option Nat):=(cK kvs (kOf x)).map plV
theorem kX (kvs:List (aS×PyData)) (x:Std) (d:PyData) (y:Std):plc (jc kvs (kOf x) d) y=if y=x then some (plV d) else plc kvs y:=by
 unfold plc
 rw [uc]
 by_cases h:y=x
 ·rw [if_pos h,if_pos (by rw[h])]
  rfl
 ·rw [if_neg h,if_neg fun z=>h (qM z)]
theorem wz {κ β:Type} [DecidableEq κ] {kvs:List (κ×β)}{k:κ}{v:β} (h:(cK kvs k).isSome=true):(jc kvs k v).length=kvs.length:=by
 unfold jc
 rw [if_pos h,DK]
theorem mq {κ β:Type} [DecidableEq κ] {kvs:List (κ×β)}{k:κ}{v:β}:∀ p∈jc kvs k v,p.2=v∨p∈kvs:=by
 intro p hp
 unfold jc at hp
 split at hp
 ·obtain ⟨q,hq,rfl⟩:=D4.mp hp
  split
  ·exact .inl rfl
  ·exact .inr hq
 ·rcases DQ.mp hp with h|h
  ·exact .inr h
  ·rw [DM.mp h]
   exact .inl rfl
theorem uf {κ β:Type} [DecidableEq κ] {kvs:List (κ×β)}{k:κ}{v:β} (h:cK kvs k=some v):(k,v)∈kvs:=by
 induction kvs with
 | nil=>cases h
 | cons p kvs ih =>
  rw [bD] at h
  split at h
  ·rename_i e
   cases h
   subst e
   exact DY
  ·exact D0 _ (ih h)
theorem ub (W:List (List (List Int))):(List.range (List.map wD W).length).map (fun i:Nat=>PyData.list (li ((W.getD i []).getD 0 [])))=lr (W.map fun w=>w.getD 0 []):=by
 show _=List.map _ (List.map _ _)
 rw [DK,Ew]
 refine E3 (by simp) fun i h1 h2=>?_
 rw [DK] at h2
 simp [DW,h2]
theorem rE (ns:List (List Int)) (a b:Option Int):oV (lr ns) a b=lr ((ns.drop (HT.sIx ns.length 0 a)).take (HT.sIx ns.length ns.length b - HT.sIx ns.length 0 a)):=by
 unfold oV
 show (List.drop _ (List.map (fun r=>PyData.list (li r)) ns)).take _=List.map _ _
 rw [DK,List.map_take,List.map_drop]
theorem rD (ns:List (List Int)) (c:Nat):oV (lr ns) none (some (c:Int))=lr (ns.take c):=by
 rw [rE,HT.sIx_none,HT.sIx_nat,List.drop_zero,Nat.sub_zero]
 by_cases h:c≤ns.length
 ·rw [Nat.min_eq_left h]
 ·rw [Fl (by omega),EM (D2 _),EM (by omega)]
theorem rF (ns:List (List Int)) (c:Nat):oV (lr ns) (some (c:Int)) none=lr (ns.drop c):=by
 rw [rE,HT.sIx_none,HT.sIx_nat]
 by_cases h:c≤ns.length
 ·rw [Nat.min_eq_left h,EM (by simp)]
 ·rw [Fl (by omega),EK (D2 _),EK (by omega)]
  simp
noncomputable def uS (s o:List Int) (x:Std):List Std:=(b8 s.length (o.getD x.1 0) x.2).map (bZ s o x)
noncomputable def bo (s o:List Int) (x:Std):Prop:=∃ S:Std→Prop,S x∧∀ y,S y→∃ z∈uS s o y,S z
theorem bo.step {s o:List Int}{x:Std} (h:bo s o x):∃ z∈uS s o x,bo s o z:=by
 obtain ⟨S,hx,hS⟩:=h
 obtain ⟨z,hz,sz⟩:=hS x hx
 exact ⟨z,hz,S,sz,hS⟩
theorem bo.back {s o:List Int}{x z:Std} (hz:z∈uS s o x) (h:bo s o z):bo s o x:=by
 obtain ⟨S,sz,hS⟩:=h
 refine ⟨fun y=>y=x∨S y,.inl rfl,fun y hy=>?_⟩
 rcases hy with rfl|hy
 ·exact ⟨z,hz,.inr sz⟩
 ·obtain ⟨w,hw,sw⟩:=hS y hy
  exact ⟨w,hw,.inr sw⟩
noncomputable abbrev Lds:=List (Std×List Std)
noncomputable abbrev kys (L:Lds):List Std:=L.map (·.1)
structure Fil (s o:List Int) (x0:Std) (L:Lds) (pile:List Std):Prop where
 nd : (kys L).Nodup
 is : ∀ p∈L,IsS s o p.1
 suc:∀ p∈L,p.2.Perm (uS s o p.1)
 pis:∀ x∈pile,IsS s o x
 st : x0∈pile∨x0∈kys L
 cl : ∀ p∈L,∀ y∈p.2,y∈pile∨y∈kys L
 pl : pile.length≤64*L.length+1
section
variable {s o:List Int}{x0 x:Std}{L:Lds}{pile v:List Std}
theorem Fil.init (h:IsS s o x0):Fil s o x0 [] [x0]:=⟨by simp,by simp,by simp,by simpa using h,by simp,by simp,by simp⟩
theorem Fil.few (h:Fil s o x0 L pile):L.length≤(o3 s o).length:=by
 have:=dh (U:=o3 s o) h.nd fun x hx=>by
  obtain ⟨p,hp,rfl⟩:=D4.mp hx
  exact iO (h.is p hp)
 simpa using this
theorem Fil.skip (h:Fil s o x0 L (pile++[x])) (hx:x∈kys L):Fil s o x0 L pile:=by
 refine ⟨h.nd,h.is,h.suc,fun y hy=>h.pis y (by simp[hy]),?_,fun p hp y hy=>?_,by have:=h.pl;simp at this;omega⟩
 ·rcases h.st with e|e
  ·rcases DQ.mp e with e|e
   ·exact .inl e
   ·rw [DM.mp e];exact .inr hx
  ·exact .inr e
 ·rcases h.cl p hp y hy with e|e
  ·rcases DQ.mp e with e|e
   ·exact .inl e
   ·rw [DM.mp e];exact .inr hx
  ·exact .inr e
theorem Fil.add (hs:∀ c∈s,1≤c) (h:Fil s o x0 L (pile++[x])) (hx:x ∉ kys L) (hv:v.Perm (uS s o x)) (hl:v.length<64):Fil s o x0 (L++[(x,v)]) (pile++v):=by
 have ix:IsS s o x:=h.pis x (by simp)
 have key:∀ y,y∈pile++[x]∨y∈kys L→y∈pile++v∨y∈kys (L++[(x,v)]):=by
  intro y hy
  rcases hy with e|e
  ·rcases DQ.mp e with e|e
   ·exact .inl (by simp[e])
   ·exact .inr (by simp[DM.mp e])
  ·exact .inr (by simp only [kys,Ei,DQ];exact .inl e)
 refine ⟨?_,fun p hp=>?_,fun p hp=>?_,fun y hy=>?_,key _ h.st,fun p hp y hy=>?_,?_⟩
 ·simp only [kys,Ei,Ec,Fy]
  refine DZ.mpr ⟨h.nd,by simp,fun a ha b hb e=>?_⟩
  rw [DM.mp hb] at e
  exact hx (e▸ha)
 ·rcases DQ.mp hp with e|e
  ·exact h.is p e
  ·rw [DM.mp e];exact ix
 ·rcases DQ.mp hp with e|e
  ·exact h.suc p e
  ·rw [DM.mp e];exact hv
 ·rcases DQ.mp hy with e|e
  ·exact h.pis y (by simp[e])
  ·obtain ⟨r,hr,rfl⟩:=D4.mp (hv.mem_iff.mp e)
   exact jF hs ix hr
 ·rcases DQ.mp hp with e|e
  ·exact key y (h.cl p e y hy)
  ·rw [DM.mp e] at hy
   exact .inl (by simp[hy])
 ·have:=h.pl
  simp at this ⊢
  omega
structure Sft (s o:List Int) (x0:Std) (L:Lds):Prop where
 nd : (kys L).Nodup
 sub:∀ p∈L,∀ y∈p.2,y∈uS s o p.1
 can:bo s o x0→x0∈kys L
 go : ∀ p∈L,∀ y∈uS s o p.1,bo s o y→y∈p.2∧y∈kys L
 few:L.length≤(o3 s o).length
 sh : ∀ p∈L,p.2.length<64
theorem Fil.sft (h:Fil s o x0 L []) (h64:∀ p∈L,p.2.length<64):Sft s o x0 L:=by
 refine ⟨h.nd,fun p hp y hy=>(h.suc p hp).mem_iff.mp hy,fun _=>?_,fun p hp y hy _=>?_,h.few,h64⟩
 ·rcases h.st with e|e
  ·cases e
  ·exact e
 ·have:=(h.suc p hp).mem_iff.mpr hy
  refine ⟨this,?_⟩
  rcases h.cl p hp y this with e|e
  ·cases e
  ·exact e
noncomputable def stp (L:Lds) (p:Std×List Std):List Std:=p.2.filter fun y=>decide (y∈kys L)
noncomputable def gR (L A:Lds):Lds:=(A.filter fun p=>decide (stp L p≠[])).map fun p=>(p.1,stp L p)
theorem fH (L A:Lds):kys (gR L A)=kys (A.filter fun p=>decide (stp L p≠[])):=by simp[kys,gR,Function.comp_def]
theorem wy {y:Std}{q:Std×List Std} (hq:q∈L) (e:q.1=y) (h:stp L q≠[]):y∈kys (gR L L):=by
 rw [fH]
 exact D4.mpr ⟨q,D9.mpr ⟨hq,by simpa using h⟩,e⟩
theorem Sft.keep (h:Sft s o x0 L) {y:Std} (hy:y∈kys L) (hc:bo s o y):y∈kys (gR L L):=by
 obtain ⟨q,hq,e⟩:=D4.mp hy
 obtain ⟨z,hz,cz⟩:=hc.step
 obtain ⟨z1,z2⟩:=h.go q hq z (by rw[show q.1=y from e];exact hz) cz
 refine wy hq e fun hn=>?_
 have:z∈stp L q:=D9.mpr ⟨z1,by simpa using z2⟩
 rw [hn] at this
 cases this
theorem Sft.next (h:Sft s o x0 L):Sft s o x0 (gR L L):=by
 have hm:∀ p∈gR L L,∃ q∈L,stp L q≠[]∧p=(q.1,stp L q):=fun p hp=>by
  obtain ⟨q,hq,rfl⟩:=D4.mp hp
  obtain ⟨h1,h2⟩:=D9.mp hq
  exact ⟨q,h1,by simpa using h2,rfl⟩
 refine ⟨?_,fun p hp y hy=>?_,fun hc=>h.keep (h.can hc) hc,fun p hp y hy hc=>?_,?_,fun p hp=>?_⟩
 ·rw [fH]
  exact h.nd.sublist (List.filter_sublist.map _)
 ·obtain ⟨q,hq,_,rfl⟩:=hm p hp
  exact h.sub q hq y (D9.mp hy).1
 ·obtain ⟨q,hq,_,rfl⟩:=hm p hp
  obtain ⟨h1,h2⟩:=h.go q hq y hy hc
  exact ⟨D9.mpr ⟨h1,by simpa using h2⟩,h.keep h2 hc⟩
 ·refine D1 ?_ h.few
  unfold gR
  rw [DK]
  exact Ey _ _
 ·obtain ⟨q,hq,_,rfl⟩:=hm p hp
  exact Fw (Ey _ _) (h.sh q hq)
theorem Sft.done (h:Sft s o x0 L) (hl:L.length≤(gR L L).length):x0∈kys (gR L L)↔bo s o x0:=by
 have ef:(L.filter fun p=>decide (stp L p≠[]))=L:=by
  unfold gR at hl
  rw [DK] at hl
  exact List.filter_sublist.eq_of_length_le hl
 have ek:kys (gR L L)=kys L:=by rw[fH,ef]
 refine ⟨fun hx=>⟨fun y=>y∈kys L,by rw[←ek];exact hx,fun y hy=>?_⟩,fun hc=>h.keep (h.can hc) hc⟩
 obtain ⟨q,hq,e⟩:=D4.mp hy
 have hn:stp L q≠[]:=by
  rw [←ef] at hq
  simpa using (D9.mp hq).2
 obtain ⟨z,hz⟩:=List.exists_mem_of_ne_nil _ hn
 obtain ⟨z1,z2⟩:=D9.mp hz
 exact ⟨z,by rw[←show q.1=y from e];exact h.sub q hq z z1,by simpa using z2⟩
end
noncomputable def ldK (L:Lds):List (aS×PyData):=L.map fun p=>(kOf p.1,.list (p.2.map stS))
theorem qD (L:Lds) (x:Std):cK (ldK L) (kOf x)=(L.find? fun p=>decide (p.1=x)).map fun p=>.list (p.2.map stS):=by
 induction L with
 | nil=>rfl
 | cons p L ih =>
  show cK ((kOf p.1,_)::ldK L) _=_
  rw [bD,ih,EW]
  by_cases h:p.1=x
  ·rw [if_pos (by rw[h])]
   simp [h]
  ·rw [if_neg fun z=>h (qM z)]
   simp [h]
theorem jK (L:Lds) (x:Std):(cK (ldK L) (kOf x)).isSome=decide (x∈kys L):=by
 rw [qD]
 induction L with
 | nil=>rfl
 | cons p L ih =>
  rw [EW]
  by_cases h:p.1=x
  ·simp [h]
  ·have h':¬x=p.1:=fun z=>h z.symm
   simp only [h,decide_false,ih]
   simp [h']
theorem vq {L:Lds} (nd:(kys L).Nodup) {p:Std×List Std} (hp:p∈L):cK (ldK L) (kOf p.1)=some (.list (p.2.map stS)):=by
 rw [qD]
 induction L with
 | nil=>cases hp
 | cons q L ih =>
  obtain ⟨n1,n2⟩:=Ej.mp nd
  rw [EW]
  rcases D3.mp hp with e|e
  ·subst e;simp
  ·have:¬q.1=p.1:=fun z=>n1 (D4.mpr ⟨p,e,z.symm⟩)
   simp only [this,decide_false]
   exact ih n2 e
theorem qC {L:Lds}{x:Std}{v:List Std} (h:x ∉ kys L):jc (ldK L) (kOf x) (.list (v.map stS))=ldK (L++[(x,v)]):=by
 unfold jc
 rw [if_neg (by rw[jK];simpa using h)]
 simp [ldK]
theorem eU.ringGo {s o:List Int}{x0 x:Std}{P:List Std}{V:List (List (List Int))}{r:List Int}{w:List (List Int)}{pl:Std→Option (Option Nat)}{lost:List Std}{k:Nat}
  (hs:eU (fD s o) (bZ s o) x0 (P++[x]) (V++[r::w]) pl lost) (hr:r∈b8 s.length (o.getD x.1 0) x.2) (hk:(P++[x])[k]? = some (bZ s o x r)):bo s o x0:=by
 have hl:=hs.len
 refine ⟨fun y=>y∈P++[x],?_,fun y hy=>?_⟩
 ·rcases hs.hd with e|⟨e,_⟩
  ·exact List.mem_of_mem_head? e
  ·simp at e
 obtain ⟨i,hi,e⟩:=Eo hy
 by_cases h2:i+1<(P++[x]).length
 ·have hi':i<(V++[r::w]).length:=by omega
  obtain ⟨q,t,e1,e2⟩:=hs.lnk i _ _ _ (DR hi) (DR h2) (DR hi')
  obtain ⟨fr,pre,a1,a2,_⟩:=hs.way i _ _ (DR hi) (DR hi')
  rw [e] at e2 a1
  refine ⟨bZ s o y q,D4.mpr ⟨q,a1.1 q (by rw[a2,e1];simp),rfl⟩,?_⟩
  show _∈P++[x]
  rw [e2]
  exact EE h2
 ·have ei:i=P.length:=by simp at hi h2;omega
  have ex:y=x:=by
   rw [←e]
   subst ei
   simp
  subst ex
  exact ⟨bZ s o y r,D4.mpr ⟨r,hr,rfl⟩,Fh hk⟩
theorem eU.lostNo {s o:List Int}{x0:Std}{pl:Std→Option (Option Nat)}{lost:List Std} (t3:∀ x∈s,1≤x) (hs:eU (fD s o) (bZ s o) x0 [] [] pl lost) (his:∀ x∈lost,IsS s o x):¬bo s o x0:=by
 have key:∀ n (j:Nat) x,j<n→lost[j]? = some x→∀ y,noB s o x y→¬bo s o y:=by
  intro n
  induction n with
  | zero=>intro j x hj;omega
  | succ n ih =>
   intro j x hj hx y hn hc
   obtain ⟨z,hz,cz⟩:=hc.step
   obtain ⟨fr,hf,hd⟩:=hs.down j x hx
   obtain ⟨q,hq,rfl⟩:=D4.mp hz
   obtain ⟨r,hr,hn2⟩:=nr t3 hf hn ⟨q,hq,rfl⟩
   obtain ⟨i,hi,e⟩:=hd r hr
   exact ih i _ (by omega) e _ hn2 cz
 rcases hs.hd with e|⟨_,e⟩
 ·simp at e
 obtain ⟨j,hj,e⟩:=Eo e
 have hx:=his x0 (by rw[←e];exact EE hj)
 exact key (j+1) j x0 (by omega) (by rw[DR hj,e]) x0 ⟨hx,rfl,hx.2.1,fun c hc=>Int.le_refl _⟩
noncomputable abbrev bf:Stmt:=top 14
theorem az:au ["town", "standing", "path", "ways", "places", "lost", "ahead", "rows"] ["town", "standing"] (ad bf):=⟨rfl,rfl,rfl,by decide +kernel,rfl,by decide +kernel,by decide +kernel⟩
noncomputable def TbL (s o:List Int):Prop:=s.length≤6∧1≤o.length∧(∀ x∈s,1≤x)∧(∀ h∈o,0≤h)∧(s.length≤4∨∀ h∈o,h≤3)∧(o3 s o).length<100000
noncomputable def pr:DSp:=fun ss R=>∃ (s o:List Int) (x0:Std),ss=[.fr (.tuple [.list (li s),.list (li o)]),.fr (stS x0)]∧TbL s o∧IsS s o x0 ∧
 (bo s o x0→∀ (A B:List (List Int)) (x:PyData),R (.fr (.tuple [.tuple [.list (lr A),.list (lr B)],x])) [.un,.un]) ∧
 (¬ bo s o x0→∀ lost:List Std,R (.fr (.tuple [.none,.list (lost.map stS)])) [.un,.un])
theorem eR {f:Addr}{fd:FuncData} (F:Fun K "looked_through" "looked_through" bf f fd):br K fd ["town", "standing"] []:=F.binds (ps:=["town", "standing"]) fun _ _ _ _ _ _ us hl=>us2 (Q:=fun us=>bindArgs _ ⟨us,[]⟩=pure (List.zip _ us)) hl fun _ _=>rfl
theorem eM {f:Addr}{fd:FuncData} (F:Fun K "looked_through" "looked_through" bf f fd) (B:Bn mg) (G_full_rows:Cal P w K mg base "full_rows" 7 (spD K uX)) (G_behind:Cal P w K mg base "behind" 1 (spD K iB)):b7 P w K mg base CX0 9 f fd ["town", "standing"] (spD K pr):=by
 refine okD (k:=8) F az (fun ss R h=>?_) (by decide) (fun cdv A outer s H E hr=>⟨_,(aj (aG (i:=2) az.nd rfl (Or.inl rfl) (ce (aa (qf 1) ac)))
   (aj (aG (i:=3) az.nd rfl (Or.inl rfl) (zp (aa (aU G_full_rows (hr.mono (by decide)) rfl (aa (qf 0) (aa (qf 1) ac))) ac)))
   (aj (aG (i:=4) az.nd rfl (Or.inl rfl) (zr (K:=K) rfl (hu2 hr) (qf 1) ah))
   (aj (aG (i:=5) az.nd rfl (Or.inl rfl) (ce ac))
   (aj (kP PassesOwn.never (sU (K:=K) rfl (qv 2)) (aj (kA (mD (pM 3 (K:=K) rfl rfl)) (aj (eY (pS 5 (K:=K) rfl rfl (wH 2 (K:=K) rfl rfl)))
   (aj (mE 4 (K:=K) rfl (hu2 hr) rfl (bT (ak (K:=K) rfl) mIx (qv 5) (AY jk AZ ah) (fun _ _=>rfl)) pQ)
   (aj (eY (zn 3 (K:=K) rfl rfl))
   (am om)))) cy)
   (aj (aG (i:=6) az.nd rfl (Or.inl rfl) (aU G_behind (hr.mono (by decide)) rfl (aa (qf 0) (aa (bT (ak (K:=K) rfl) mIx (qv 2) (AY jk AZ ah) (fun _ _=>rfl)) (aa (wI 3 (K:=K) rfl rfl) ac)))))
   (am (kA (aZ (qO (K:=K) rfl (hu2 hr)) qy (qv 6) (qv 4) (by with_unfolding_all rfl)) (aj (mE 4 (K:=K) rfl (hu2 hr) rfl (qf 6) (eI (je (K:=K) rfl) jd rfl B.len PySem.boot_len (aa (qv 2) ac)))
   (aj (eY (pS 2 (K:=K) rfl rfl (qf 6)))
   (am (eY (zt 3 (K:=K) rfl rfl (aU G_full_rows (hr.mono (by decide)) rfl (aa (qf 0) (aa (qf 6) ac)))))))) (am (kA (aZ zO Dh (bT (Ai (K:=K) rfl (hu2 hr)) zX (qv 4) (qv 6) (fun _ _=>rfl)) pQ (bh _)) (am (eY (wG 3 (K:=K) rfl rfl))) (aj (bM (i:=7)  az.nd rfl rfl (N':=["way"]) (ix:=[none]) rfl (cS (N:=["town", "standing", "path", "ways", "places", "lost", "ahead", "rows"]) (sc0:=ad bf) rfl rfl (by decide +kernel)) (bq (K:=K) rfl (qf 3)) (fun _ _ _ _=>(al (i:=0) (show List.Nodup (["way"]:List Str) by decide +kernel) rfl (Or.inl rfl))) (fun _ _ _ _=>bS) (fun _ _ _ _=>(bT (ak (K:=K) rfl) Dg (qv 0) ah (fun _ _=>rfl))))
   (am (bP (cj (aa (cj (aa (pP (K:=K) rfl (qv 7) f9 (f8 (bT (Ai (K:=K) rfl (hu2 hr)) zX (qv 4) (qv 6) (fun _ _=>rfl)))) (aa (pP (K:=K) rfl (qv 7) (f8 (bT (Ai (K:=K) rfl (hu2 hr)) zX (qv 4) (qv 6) (fun _ _=>rfl))) f9) ac))) (aa (qf 5) ac)))))))))))))
   (am (bP (cj (aa pQ (aa (qf 5) ac)))))))))),fun ss R h=>?_⟩)
 ·obtain ⟨s,o,x0,rfl,_⟩:=h
  rfl
 obtain ⟨s,o,x0,rfl,⟨t1,t2,t3,t4,t5,t6⟩,i0,q1,q2⟩:=h
 walk_at "dx"
 have hh:∀ d,d<o.length→0≤o.getD d 0∧(s.length≤4∨o.getD d 0≤3):=fun d hd=>⟨t4 _ (aW hd),t5.imp id fun h=>h _ (aW hd)⟩
 refine ⟨D1 (by decide) af,?_⟩
 walk_at "dx"
 refine ⟨s,o,x0.2,x0.1,rfl,t1,(hh _ i0.1).1,(hh _ i0.1).2,⟨i0.1,i0.2.1⟩,fun fr hfr hfl hrl=>?_⟩
 refine ⟨[wD fr],?_,D1 (by decide) af,fun S=>?_⟩
 ·show (gN [] (Sl.ow (lr fr))).bind _=_
  rw [lZ]
  rfl
 walk_at "dx"
 refine ⟨kOf x0,rfl,rfl,fun S1=>?_⟩
 walk_at "dx"
 refine ⟨Ee _,?_⟩
 walk_at "dx"
 refine ⟨fun m env=>∃ (path:List Std) (Wy:List (List (List Int))) (kvs:List (aS×PyData)) (lost:List Std) (S1 S2:List Addr) (a b:Sl),
  env=[.fr (.tuple [.list (li s),.list (li o)]),.fr (stS x0),.ow (path.map stS),.tr S1 (fw Wy),.tr S2 (dm kvs),.ow (lost.map stS),a,b] ∧
  eU (fD s o) (bZ s o) x0 path Wy (plc kvs) lost∧(∀ x∈path++lost,IsS s o x)∧(∀ w∈Wy,w.length<64∧∀ r∈w,r.length≤6)∧(∀ p∈kvs,p.2=.none∨∃ i:Nat,p.2=.int i)∧kvs.length≤path.length+lost.length∧m=gQ (o3 s o).length 66 path lost Wy,⟨_,[x0],[fr],[(kOf x0,.int 0)],[],S,S1,.un,.un,rfl,?_,?_,?_,?_,?_,rfl⟩,?_⟩
 ·refine eU.init hfr fun x=>?_
  show plc (jc [] (kOf x0) (.int 0)) x=_
  rw [kX]
  rfl
 ·intro x hx
  simp at hx
  rw [hx]
  exact i0
 ·intro w hw
  simp at hw
  rw [hw]
  exact ⟨hfl,hrl⟩
 ·intro p hp
  simp at hp
  rw [hp]
  exact .inr ⟨0,rfl⟩
 ·simp
 rintro m env ⟨path,Wy,kvs,lost,S1,S2,a,b,rfl,hs,his,hw,hkv,hkl,rfl⟩
 have hfew:=hs.few fun x hx=>iO (his x hx)
 have big:∀ n:Nat,n≤100000→n<sizeLine:=fun n h=>D6 (by omega) af
 walk_at "dx"
 rcases Fb path with rfl|⟨P,x,rfl⟩
 ·have e:Wy=[]:=List.length_eq_zero_iff.mp hs.len
  subst e
  rw [if_neg (by simp)]
  walk_at "dx"
  exact ⟨D1 (by decide) af,q2 (hs.lostNo t3 fun x hx=>his x (by simpa using hx)) _⟩
 rw [Fc] at hs his hkl hfew ⊢
 obtain ⟨V,w,rfl⟩:∃ V w,Wy=V++[w]:=by
  rcases Fb Wy with rfl|⟨V,w,rfl⟩
  ·have:=hs.len
   simp at this
  ·exact ⟨V,w,Fc ..⟩
 have isx:IsS s o x:=his x (by simp)
 have hl:V.length=P.length:=by have:=hs.len;simpa using this
 rw [Ei,if_pos (by simp)]
 cases w with
 | nil =>
  refine ⟨V,[],rfl,?_⟩
  rw [if_pos (show (!([]:List (List Int)).isEmpty)=false from rfl)]
  have gx:(cK kvs (kOf x)).isSome=true:=by
   have:=(hs.on x P.length).mpr (by simp)
   unfold plc at this
   cases e:cK kvs (kOf x) with
   | none=>rw[e] at this;cases this
   | some v=>rfl
  refine ⟨stS x,by simp,big _ (by simp at hfew ⊢;omega),?_⟩
  walk_at "dx"
  refine ⟨⟨kvs,rfl⟩,stS x,cT _ _,kvs,rfl,kOf x,rfl,big _ (by omega),?_⟩
  walk_at "dx"
  refine ⟨V,[],rfl,fun S'=>?_⟩
  walk_at "dx"
  refine ⟨_,eU.lt_lose hfew,P,by simp,V,rfl,jc kvs (kOf x) .none,rfl,lost++[x],by simp,hs.lose fun y=>kX kvs x .none y,fun y hy=>his y (by simp at hy ⊢;rcases hy with h|h|h <;> simp[h]),fun v hv=>hw v (by simp[hv]),fun p hp=>?_,?_,rfl⟩
  ·rcases mq p hp with e|e
   ·exact .inl e
   ·exact hkv p e
  ·rw [wz gx]
   simp at hkl ⊢
   omega
 | cons r w =>
  refine ⟨V,r::w,rfl,?_⟩
  rw [if_neg (show ¬(!(r::w).isEmpty)=false from by simp)]
  have hr:r∈b8 s.length (o.getD x.1 0) x.2:=by
   obtain ⟨fr,pre,a1,a2,_⟩:=hs.way P.length x (r::w) (by simp) (by rw[←hl];simp)
   exact a1.1 r (by rw[a2];simp)
  have isn:=jF t3 isx hr
  walk_at "dx"
  refine ⟨stS x,cT _ _,V,r,w,rfl,s,o,x.2,r,x.1,rfl,t2,isx.2.1,by omega,?_⟩
  walk_at "dx"
  refine ⟨kOf (bZ s o x r),rfl,rfl,kvs,rfl,fM (fun h=>?_) (fun h=>?_)⟩
  ·have hnone:plc kvs (bZ s o x r)=none:=by
    unfold plc
    cases e:cK kvs (kOf (bZ s o x r)) with
    | none=>rfl
    | some v=>rw[e] at h;cases h
   have nin:(P++[x]++[bZ s o x r]++lost).Nodup:=by
    have hz:=hs.nd
    have n1:bZ s o x r ∉ P++[x]:=fun z=>by
     obtain ⟨i,hi,e⟩:=Eo z
     have:=(hs.on (bZ s o x r) i).mpr (by rw[DR hi,e])
     rw [hnone] at this;cases this
    have n2:bZ s o x r ∉ lost:=fun z=>by
     have:=(hs.off (bZ s o x r)).mpr z
     rw [hnone] at this;cases this
    have:(bZ s o x r::(P++[x]++lost)).Nodup:=Ej.mpr ⟨fun z=>(DQ.mp z).elim n1 n2,hz⟩
    refine List.Perm.nodup_iff ?_ |>.mp this
    rw [Ek (P++[x]) [bZ s o x r] lost]
    exact List.perm_middle.symm
   have hmem:∀ y∈P++[x]++[bZ s o x r]++lost,IsS s o y:=fun y hy=>by
    simp only [DQ,DM] at hy
    rcases hy with ((h|h)|h)|h
    ·exact his y (by simp[h])
    ·rw [h];exact isx
    ·rw [h];exact isn
    ·exact his y (by simp[h])
   have hfew2:=dh nin fun y hy=>iO (hmem y hy)
   refine ⟨⟨kvs,rfl⟩,kvs,rfl,kOf (bZ s o x r),rfl,rfl,big _ (by omega),?_⟩
   walk_at "dx"
   refine ⟨big _ (by simp at hfew ⊢;omega),?_⟩
   walk_at "dx"
   refine ⟨s,o,(bZ s o x r).2,(bZ s o x r).1,rfl,t1,(hh _ isn.1).1,(hh _ isn.1).2,⟨isn.1,isn.2.1⟩,fun fr hfr hfl hrl=>?_⟩
   walk_at "dx"
   refine ⟨wD fr,lZ (env:=[]) fr,big _ (by simp at hfew ⊢;omega),fun S'=>⟨_,eU.lt_go (x:=bZ s o x r) (fr:=fr) (by simp at hfew2 ⊢;omega) (by omega),P++[x]++[bZ s o x r],by rw[Ei,Ei];rfl,V++[r::w]++[fr],by simp,_,rfl,lost,rfl,hs.go hnone hfr (fun y=>?_),hmem,fun v hv=>?_,fun p hp=>?_,?_,rfl⟩⟩
   ·rw [kX]
    simp [plV]
   ·rcases DQ.mp hv with h|h
    ·exact hw v h
    ·rw [DM.mp h]
     exact ⟨hfl,hrl⟩
   ·rcases mq p hp with e|e
    ·exact .inr ⟨_,e⟩
    ·exact hkv p e
   ·refine D1 (sO _ _ _) ?_
    simp at hkl ⊢
    omega
  ·cases hv:cK kvs (kOf (bZ s o x r)) with
   | none=>rw[hv] at h;exact absurd rfl h
   | some v =>
    refine ⟨kvs,rfl,kOf (bZ s o x r),rfl,rfl,v,hv,?_⟩
    rcases hkv _ (uf hv) with e|⟨k,e⟩
    ·simp only at e
     subst e
     rw [if_pos (show gv .none=true from rfl)]
     refine ⟨V,r,w,rfl,_,eU.lt_skip,P++[x],by simp,V++[w],rfl,kvs,rfl,lost,rfl,hs.skip (by unfold plc;rw[hv];rfl),his,fun u hu=>?_,hkv,hkl,rfl⟩
     rcases DQ.mp hu with h|h
     ·exact hw u (by simp[h])
     ·rw [DM.mp h]
      have:=hw (r::w) (by simp)
      exact ⟨by have:=this.1;simp at this;omega,fun r' hr'=>this.2 r' (by simp[hr'])⟩
    ·simp only at e
     subst e
     rw [if_neg (show ¬gv (.int (k:Int))=true from fun z=>Bool.noConfusion z)]
     have hk:(P++[x])[k]? = some (bZ s o x r):=(hs.on _ k).mp (by unfold plc;rw[hv];simp[plV])
     have hW:∀ i,i<(V++[r::w]).length→∃ q t,(V++[r::w]).getD i []=q::t:=fun i hi=>by
      have hiP:i<(P++[x]).length:=by rw[←hs.len];exact hi
      by_cases hin:i=V.length
      ·subst hin
       exact ⟨r,w,by simp⟩
      ·have h2:i+1<(P++[x]).length:=by simp at hi ⊢;omega
       obtain ⟨q,t,e1,_⟩:=hs.lnk i _ _ _ (DR hiP) (DR h2) (DR hi)
       exact ⟨q,t,by rw[DW,DR hi,e1];rfl⟩
     refine eu (fun i=>.list (li (((V++[r::w]).getD i []).getD 0 []))) (by simp at hfew ⊢;omega) (fun i hi Q hQ=>?_) ?_
     ·rw [DK] at hi
      obtain ⟨q,t,e1⟩:=hW i hi
      have e2:(V++[r::w])[i]=q::t:=by
       rw [←e1,DW,DR hi]
       rfl
      rw [Fk,e2]
      rw [e1] at hQ
      walk_at "dx"
      exact ⟨_,rfl,hQ⟩
     rw [ub]
     walk_at "dx"
     refine ⟨kvs,rfl,kOf (bZ s o x r),rfl,rfl,_,hv,_,rfl,kvs,rfl,kOf (bZ s o x r),rfl,rfl,_,hv,_,rfl,?_⟩
     rw [rD,rF]
     exact ⟨D1 (by decide) af,D1 (by decide) af,q1 (hs.ringGo hr hk) _ _ _⟩
theorem uq (l r:List Int):x8 l r=true↔∀ c,c<l.length→l.getD c 0=1→(c:Int)∈r:=by
 unfold x8
 rw [E7]
 constructor
 ·intro h c hc e
  have:=h (decide ((c:Int)∈r)) (D4.mpr ⟨c,D9.mpr ⟨Ez.mpr hc,decide_eq_true e⟩,rfl⟩)
  exact of_decide_eq_true this
 ·intro h x hx
  obtain ⟨c,hc,rfl⟩:=D4.mp hx
  obtain ⟨h1,h2⟩:=D9.mp hc
  exact decide_eq_true (h c (Ez.mp h1) (of_decide_eq_true h2))
theorem xI (n:Nat) (r:List Int):B5 n r=true↔∀ x∈r,0≤x∧x<n:=by
 unfold B5
 rw [E7]
 constructor
 ·intro h x hx
  obtain ⟨i,hi,rfl⟩:=Eo hx
  have:=h _ (D4.mpr ⟨i,Ez.mpr hi,rfl⟩)
  rw [DW,DR hi] at this
  simpa using this
 ·intro h y hy
  obtain ⟨i,hi,rfl⟩:=D4.mp hy
  have:=h _ (aW (Ez.mp hi))
  simpa using this
theorem jv:∀ r:List Int,f7 r=true↔r.Pairwise (·<·)
 | []=>⟨fun _=>.nil,fun _=>rfl⟩
 | [x]=>⟨fun _=>by simp,fun _=>rfl⟩
 | x :: y::r=>by
  have ih:=jv (y::r)
  have e:f7 (x::y::r)=(decide (x<y)&&f7 (y::r)):=by
   unfold f7
   show ((List.range (r.length+1)).map _).all id=_
   rw [List.range_succ_eq_map,Ec,List.all_cons,Ew]
   rfl
  rw [e,Es,decide_eq_true_eq,ih]
  constructor
  ·rintro ⟨h1,h2⟩
   refine Fx.mpr ⟨fun z hz=>?_,h2⟩
   rcases D3.mp hz with hz|hz
   ·rw [hz];exact h1
   ·exact Int.lt_trans h1 ((Fx.mp h2).1 z hz)
  ·intro h
   have:=Fx.mp h
   exact ⟨this.1 y (by simp),this.2⟩
theorem fL:∀ (n:Nat) (r:List Int),r.Pairwise (·<·)→(∀ x∈r,0≤x∧x<n)→r∈cp n
 | 0,r,_,h=>by
  cases r with
  | nil=>simp[cp]
  | cons x r=>have:=h x (by simp);omega
 | n + 1,r,hp,h=>by
  refine DQ.mpr ?_
  by_cases hr:r=[]
  ·subst hr
   exact .inl (fL n [] .nil (by simp))
  obtain ⟨r',x,rfl⟩:∃ r' x,r=r'++[x]:=⟨r.dropLast,r.getLast hr,(List.dropLast_concat_getLast hr).symm⟩
  obtain ⟨p1,_,p3⟩:=Fi.mp hp
  have hx:=h x (by simp)
  have hlt:∀ y∈r',0≤y∧y<x:=fun y hy=>⟨(h y (by simp[hy])).1,p3 y hy x (by simp)⟩
  by_cases hxn:x=(n:Int)
  ·refine .inr (D4.mpr ⟨r',fL n r' p1 fun y hy=>by have:=hlt y hy;omega,by rw[hxn]⟩)
  ·refine .inl (fL n _ hp fun y hy=>?_)
   rcases DQ.mp hy with hy|hy
   ·have:=hlt y hy;omega
   ·rw [DM.mp hy];omega
theorem xQ {s o l r:List Int}{d:Nat} (hl:l.length=s.length):r∈b8 s.length (o.getD d 0) l↔tH s o l r d=true:=by
 unfold b8 tH nZ bW
 rw [D9,Es,Es,Es,Es,jv,xI,uq,hl]
 simp only [decide_eq_true_eq,List.filter_eq_nil_iff]
 unfold cL
 constructor
 ·rintro ⟨h1,h2,h3⟩
  obtain ⟨_,a,b⟩:=bi _ _ h1
  refine ⟨⟨a,b⟩,h2,fun c hc e=>?_⟩
  have:=h3 (c:Int) (D4.mpr ⟨c,D9.mpr ⟨Ez.mpr hc,decide_eq_true e⟩,rfl⟩)
  simpa using this
 ·rintro ⟨⟨a,b⟩,h2,h3⟩
  refine ⟨fL _ _ a b,h2,fun x hx=>?_⟩
  obtain ⟨c,hc,rfl⟩:=D4.mp hx
  obtain ⟨h4,h5⟩:=D9.mp hc
  have:=h3 c (Ez.mp h4) (of_decide_eq_true h5)
  simpa using this
noncomputable abbrev dA:Stmt:=top 16
theorem kJ:au ["town", "standing"] ["town", "standing"] (ad dA):=⟨rfl,rfl,rfl,by decide +kernel,rfl,by decide +kernel,by decide +kernel⟩
noncomputable def yV:DSp:=fun ss R=>∃ (s o:List Int) (x0:Std),ss=[.fr (.tuple [.list (li s),.list (li o)]),.fr (stS x0)]∧TbL s o∧IsS s o x0∧∀ b:Bool,(b=true↔bo s o x0)→R (.fr (.bool b)) [.un,.un]
theorem lK {f:Addr}{fd:FuncData} (F:Fun K "can_keep" "can_keep" dA f fd):br K fd ["town", "standing"] []:=F.binds (ps:=["town", "standing"]) fun _ _ _ _ _ _ us hl=>us2 (Q:=fun us=>bindArgs _ ⟨us,[]⟩=pure (List.zip _ us)) hl fun _ _=>rfl
theorem lb {f:Addr}{fd:FuncData} (F:Fun K "can_keep" "can_keep" dA f fd) (B:Bn mg) (G_looked_through:Cal P w K mg base "looked_through" 9 (spD K pr)):b7 P w K mg base CX0 10 f fd ["town", "standing"] (spD K yV):=by
 refine okD (k:=9) F kJ (fun ss R h=>?_) (by decide) (fun cdv A outer s H E hr=>⟨_,(am (bP (kQ qo zV (bT (ak (K:=K) rfl) mIx (aU G_looked_through (hr.mono (by decide)) rfl (aa (qf 0) (aa (qf 1) ac))) ah (fun _ _=>rfl)) pQ (bh _)))),fun ss R h=>?_⟩)
 ·obtain ⟨s,o,x0,rfl,_⟩:=h
  rfl
 obtain ⟨s,o,x0,rfl,t,i0,q⟩:=h
 walk_at "dd"
 refine ⟨s,o,x0,rfl,t,i0,fun hc A B x=>?_,fun hc lost=>?_⟩
 ·walk_at "dx"
  exact q _ (by simpa [gv] using hc)
 ·walk_at "dx"
  exact q _ (by simpa [gv] using hc)
noncomputable abbrev dY:Stmt:=top 15
theorem nY:au ["town"] ["town"] (ad dY):=⟨rfl,rfl,rfl,by decide +kernel,rfl,by decide +kernel,by decide +kernel⟩
noncomputable def mi:DSp:=fun ss R=>∃ (s o:List Int),ss=[.fr (.tuple [.list (li s),.list (li o)])]∧TbL s o∧∀ v:PyData,(gv v=false↔bo s o (0,s))→R (.fr v) [.un]
theorem oW {f:Addr}{fd:FuncData} (F:Fun K "plan_of" "plan_of" dY f fd):br K fd ["town"] []:=F.binds (ps:=["town"]) fun _ _ _ _ _ _ us hl=>us1 (Q:=fun us=>bindArgs _ ⟨us,[]⟩=pure (List.zip _ us)) hl fun _=>rfl
theorem oy {f:Addr}{fd:FuncData} (F:Fun K "plan_of" "plan_of" dY f fd) (B:Bn mg) (G_looked_through:Cal P w K mg base "looked_through" 9 (spD K pr)) (G_begun:Cal P w K mg base "begun" 1 (spD K kG)):b7 P w K mg base CX0 10 f fd ["town"] (spD K mi):=by
 refine okD (k:=9) F nY (fun ss R h=>?_) (by decide) (fun cdv A outer s H E hr=>⟨_,(am (bP (bT (ak (K:=K) rfl) mIx (aU G_looked_through (hr.mono (by decide)) rfl (aa (qf 0) (aa (aU G_begun (hr.mono (by decide)) rfl (aa (qf 0) ac)) ac))) ah (fun _ _=>rfl)))),fun ss R h=>?_⟩)
 ·obtain ⟨s,o,rfl,_⟩:=h
  rfl
 obtain ⟨s,o,rfl,t,q⟩:=h
 obtain ⟨t1,t2,t3,t4,t5,t6⟩:=id t
 walk_at "dd"
 refine ⟨s,o,rfl,?_⟩
 walk_at "dd"
 refine ⟨s,o,(0,s),rfl,t,⟨t2,rfl,fun c hc=>⟨t3 _ (aW hc),Int.le_refl _⟩⟩,fun hc A B x=>?_,fun hc lost=>?_⟩
 ·walk_at "dx"
  exact q _ (by simpa [gv] using hc)
 ·walk_at "dx"
  exact q _ (by simpa [gv] using hc)
theorem bo.better {s o:List Int} (t3:∀ x∈s,1≤x) {x y:Std} (hn:noB s o y x) (hc:bo s o x):bo s o y:=by
 refine ⟨fun y=>∃ x,noB s o y x∧bo s o x,⟨x,hn,hc⟩,?_⟩
 rintro y ⟨x,⟨ix,e1,el,hb⟩,hc⟩
 obtain ⟨z,hz,cz⟩:=hc.step
 obtain ⟨r,hr,rfl⟩:=D4.mp hz
 have hr2:r∈b8 s.length (o.getD y.1 0) y.2:=by
  rw [e1]
  exact m9 (s:=s) (o:=o) (d:=x.1) (fun c hc=>⟨(ix.2.2 c hc).1,hb c hc⟩) hr
 refine ⟨bZ s o y r,D4.mpr ⟨r,hr2,rfl⟩,_,⟨jF t3 ix hr,by unfold bZ;rw[e1],eB _ _ _ _,fun c hc=>?_⟩,cz⟩
 show (gU s x.2 r s.length).getD c 0≤(gU s y.2 r s.length).getD c 0
 rw [eD hc,eD hc]
 have:=hb c hc
 split <;> omega
theorem yW (x:Std):Sh 2 (stS x):=Sh.tuple (n:=1) fun y hy=>by
 simp only [D3,List.mem_nil_iff,or_false,En] at hy
 rcases hy with rfl|rfl
 ·exact Sh.int _ _
 ·exact Sh.tuple (n:=0) fun z hz=>by
   obtain ⟨i,_,rfl⟩:=D4.mp hz
   exact Sh.int _ _
theorem fG (l:List Std):shp (.list (l.map stS)):=(Sh.list (n:=2) (fun x hx=>by obtain⟨y,_,rfl⟩:=D4.mp hx;exact yW y)).shp (by decide)
theorem ng (l:List Std):PyData.eqv (.list (l.map stS)) (.list [])=l.isEmpty:=by
 cases l <;> rfl
theorem bv {α β:Type} (l:List α) (d:α) (P:α→Bool) (f:α→β):((List.range l.length).filter (fun j=>P (l.getD j d))).map (fun j=>f (l.getD j d))=(l.filter P).map f:=by
 have e:(List.range l.length).map (fun j=>l.getD j d)=l:=by
  refine E3 (by simp) fun i h1 h2=>?_
  simp [DW,h2]
 have:(l.filter P)=((List.range l.length).filter (fun j=>P (l.getD j d))).map (fun j=>l.getD j d):=by
  conv=>lhs;rw[←e]
  rw [List.filter_map]
  rfl
 rw [this,Ew]
 rfl
theorem pD (L:Lds) {i:Nat} (hi:i<L.length):gR L (L.take (i+1))=if stp L L[i]=[] then gR L (L.take i) else gR L (L.take i)++[(L[i].1,stp L L[i])]:=by
 unfold gR
 rw [List.take_succ,DR hi,EN,Ei]
 by_cases h:stp L L[i]=[] <;> simp[h]
theorem sM {L:Lds} (nd:(kys L).Nodup) {i:Nat} (hi:i<L.length):L[i].1 ∉ kys (gR L (L.take i)):=by
 intro h
 rw [fH] at h
 obtain ⟨q,hq,e⟩:=D4.mp h
 obtain ⟨j,hj,e2⟩:=Eo (D9.mp hq).1
 rw [List.getElem_take] at e2
 rw [Fj] at hj
 have h1:(kys L)[j]'(by simp;omega)=(kys L)[i]'(by simp;omega):=by simp[e2,e]
 have:=(List.getElem_inj nd).mp h1
 omega
noncomputable abbrev bR:Stmt:=top 25
theorem aB:au ["_law_town_here", "_law_start", "_law_leads", "_law_pile", "_law_here", "_law_many", "_law_kept_here", "_law_good"] ["_law_town_here", "_law_start"] (ad bR):=⟨rfl,rfl,rfl,by decide +kernel,rfl,by decide +kernel,by decide +kernel⟩
noncomputable def uV:DSp:=fun ss R=>∃ (s o:List Int) (x0:Std),ss=[.fr (.tuple [.list (li s),.list (li o)]),.fr (stS x0)]∧TB s o∧TbL s o∧(o3 s o).length<10000∧IsS s o x0∧∀ b:Bool,(b=true↔bo s o x0)→R (.fr (.bool b)) [.un,.un]
theorem ku {f:Addr}{fd:FuncData} (F:Fun K "_law_kept" "_law_kept" bR f fd):br K fd ["_law_town_here", "_law_start"] []:=F.binds (ps:=["_law_town_here", "_law_start"]) fun _ _ _ _ _ _ us hl=>us2 (Q:=fun us=>bindArgs _ ⟨us,[]⟩=pure (List.zip _ us)) hl fun _ _=>rfl
theorem jD {f:Addr}{fd:FuncData} (F:Fun K "_law_kept" "_law_kept" bR f fd) (B:Bn mg) (G__law_rows:Cal P w K mg base "_law_rows" 1 (spD K uU)) (G__law_after:Cal P w K mg base "_law_after" 1 (spD K pB)):b7 P w K mg base CX0 8 f fd ["_law_town_here", "_law_start"] (spD K uV):=by
 refine okD (k:=7) F aB (fun ss R h=>?_) (by decide) (fun cdv A outer s H E hr=>⟨_,(aj (aG (i:=2) aB.nd rfl (Or.inr rfl) ve)
   (aj (aG (i:=3) aB.nd rfl (Or.inl rfl) (ce (aa (qf 1) ac)))
   (aj (kP PassesOwn.never (aZ (B1 (K:=K) rfl hr.units) mNe (qv 3) (ce ac) (bh _)) (aj (aG (i:=4) aB.nd rfl (Or.inr rfl) (wH 3 (K:=K) rfl rfl))
   (am (kA (aZ (qO (K:=K) rfl (hu2 hr)) qy (qv 4) (qv 2) (by with_unfolding_all rfl)) (aj (mE 2 (K:=K) rfl (hu2 hr) rfl (qf 4) (d4 (N':=["_law_row", "_law_town_here", "_law_here"]) (ix:=[none,some 0,some 4]) rfl (cS (N:=["_law_town_here", "_law_start", "_law_leads", "_law_pile", "_law_here", "_law_many", "_law_kept_here", "_law_good"]) (sc0:=ad bR) rfl rfl (by decide +kernel)) (bq (K:=K) rfl (aU G__law_rows (hr.mono (by decide)) rfl (aa (qf 0) (aa (qf 4) ac)))) (fun _ _ _ _=>(al (i:=0) (show List.Nodup (["_law_row", "_law_town_here", "_law_here"]:List Str) by decide +kernel) rfl (Or.inl rfl))) (fun _ _ _ _=>bS) (fun _ _ _ _=>(aU G__law_after (hr.mono (by decide)) rfl (aa (qf 1) (aa (qf 2) (aa (qf 0) ac)))))))
   (am (aG (i:=3) aB.nd rfl (Or.inl rfl) (oj (eL (K:=K) rfl) yC (qv 3) (bT (Ai (K:=K) rfl (hu2 hr)) zX (qv 2) (qv 4) (fun _ _=>rfl)))))) cy))))
   (pN 2 (aj (aG (i:=5) aB.nd rfl (Or.inl rfl) (bA bH mI (eI dq xu rfl B.len PySem.boot_len (aa (qv 2) ac)) ah))
   (aj (kP PassesOwn.never (aZ tu mB (eI dq xu rfl B.len PySem.boot_len (aa (qv 2) ac)) (qv 5) (bh _)) (aj (aG (i:=5) aB.nd rfl (Or.inl rfl) (eI dq xu rfl B.len PySem.boot_len (aa (qv 2) ac)))
   (aj (aG (i:=6) aB.nd rfl (Or.inl rfl) ve)
   (aj (gd PassesOwn.never rfl (zc (K:=K) rfl (qf 2)) (al (i:=4) aB.nd rfl (Or.inr rfl)) (aj (bM (i:=7)  aB.nd rfl rfl (N':=["_law_there", "_law_leads"]) (ix:=[none,some 2]) rfl (cS (N:=["_law_town_here", "_law_start", "_law_leads", "_law_pile", "_law_here", "_law_many", "_law_kept_here", "_law_good"]) (sc0:=ad bR) rfl rfl (by decide +kernel)) (bq (K:=K) rfl (bT (Ai (K:=K) rfl (hu2 hr)) zX (qv 2) (qv 4) (fun _ _=>rfl))) (fun _ _ _ _=>(al (i:=0) (show List.Nodup (["_law_there", "_law_leads"]:List Str) by decide +kernel) rfl (Or.inl rfl))) (fun _ _ _ _=>(dM (aZ (CK (K:=K) rfl (hu2 hr)) CJ (qv 0) (qv 1) (by with_unfolding_all rfl)))) (fun _ _ _ _=>(qf 0)))
   (y9 7 (am (kA (aZ (B1 (K:=K) rfl hr.units) mNe (qv 7) (ce ac) (bh _)) (am (mE 6 (K:=K) rfl (hu2 hr) rfl (qf 4) (qf 7))) cy)))))
   (pN 6 (am (aG (i:=2) aB.nd rfl (Or.inr rfl) (qf 6))))))))
   (am (bP (kQ (CK (K:=K) rfl (hu2 hr)) CJ (qv 1) (qv 2) (by with_unfolding_all rfl)))))))))),fun ss R h=>?_⟩)
 ·obtain ⟨s,o,x0,rfl,_⟩:=h
  rfl
 obtain ⟨s,o,x0,rfl,tb,⟨t1,t2,t3,t4,t5,_⟩,t6,i0,q⟩:=h
 have big:∀ n:Nat,n<1000000→n<sizeLine:=fun n h=>D6 (by omega) af
 have hh:∀ d,d<o.length→0≤o.getD d 0∧(s.length≤4∨o.getD d 0≤3):=fun d hd=>⟨t4 _ (aW hd),t5.imp id fun h=>h _ (aW hd)⟩
 walk_at "dx"
 intro S0
 walk_at "dx"
 refine ⟨D1 (by decide) af,?_⟩
 walk_at "dx"
 refine ⟨fun m env=>∃ (L:Lds) (pile:List Std) (S:List Addr) (c:Sl),env=[.fr (.tuple [.list (li s),.list (li o)]),.fr (stS x0),.tr S (dm (ldK L)),.ow (pile.map stS),c,.un,.un,.un]∧Fil s o x0 L pile∧(∀ p∈L,p.2.length<64)∧m=((o3 s o).length - L.length)*64+pile.length,⟨_,[],[x0],S0,.un,rfl,Fil.init i0,by simp,rfl⟩,?_⟩
 rintro m env ⟨L,pile,S,c,rfl,hf,h64,rfl⟩
 have hfew:=hf.few
 have hpl:=hf.pl
 walk_at "dx"
 refine ⟨Ee _,fG pile,fG [],?_⟩
 rw [ng]
 rcases Fb pile with rfl|⟨P,x,rfl⟩
 ·rw [if_neg (by simp)]
  walk_at "dx"
  refine ⟨ldK L,rfl,?_⟩
  walk_at "dx"
  refine ⟨fun m env=>∃ (L:Lds) (a b c e:Sl),env=[.fr (.tuple [.list (li s),.list (li o)]),.fr (stS x0),.fr (dm (ldK L)),a,b,.fr (.int m),c,e]∧Sft s o x0 L∧(m=L.length+1∨∃ L0,Sft s o x0 L0∧L=gR L0 L0∧m=L0.length),⟨L.length+1,L,_,_,_,_,by rw[show (ldK L).length=L.length from DK ..];rfl,hf.sft h64,.inl rfl⟩,?_⟩
  clear hf h64 hfew hpl
  rintro m env ⟨L,a,b,c,e,rfl,hf,hm⟩
  walk_at "dx"
  refine ⟨ldK L,rfl,?_⟩
  have hLl:(ldK L).length=L.length:=DK ..
  rw [hLl]
  refine fM (fun hlt=>?_) (fun hlt=>?_)
  ·refine ⟨ldK L,rfl,?_⟩
   walk_at "dx"
   intro S1
   walk_at "dx"
   refine ⟨ldK L,rfl,?_⟩
   have hfl:=hf.few
   have ek:(ldK L).map (fun p=>cV p.1)=(kys L).map stS:=by simp[ldK,kOf]
   rw [ek]
   refine bE (fun i env=>∃ (S:List Addr) (b e:Sl),env=[.fr (.tuple [.list (li s),.list (li o)]),.fr (stS x0),.fr (dm (ldK L)),a,b,.fr (.int (ldK L).length),.tr S (dm (ldK (gR L (L.take i)))),e]) ⟨S1,b,e,rfl⟩ ?_ ?_
   ·rintro i env hi ⟨S,b,e,rfl⟩
    rw [DK,DK] at hi
    have hp:L[i]∈L:=EE hi
    rw [Fk,Fk]
    walk_at "dx"
    refine ⟨ldK L,rfl,kOf L[i].1,rfl,rfl,_,vq hf.nd hp,_,rfl,?_⟩
    have h64:=hf.sh _ hp
    refine cm (fun j=>decide (L[i].2.getD j (0,[])∈kys L)) (fun j=>stS (L[i].2.getD j (0,[]))) (by rw[DK];omega) (fun j hj Q Q' h1 h2=>?_) ?_
    ·rw [DK] at hj
     rw [Fk]
     have ej:L[i].2.getD j (0,[])=L[i].2[j]:=by simp[DW,hj]
     rw [ej] at h1 h2
     walk_at "dx"
     refine ⟨kOf L[i].2[j],rfl,rfl,ldK L,rfl,?_⟩
     rw [jK]
     exact fM (fun h=>h1 h) (fun h=>h2 (by simpa using h))
    have ev:((List.range (L[i].2.map stS).length).filter fun j=>decide (L[i].2.getD j (0,[])∈kys L)).map (fun j=>stS (L[i].2.getD j (0,[])))=(stp L L[i]).map stS:=by
     rw [DK]
     exact bv L[i].2 (0,[]) (fun y=>decide (y∈kys L)) stS
    rw [ev]
    walk_at "dx"
    refine ⟨Ee _,fG _,fG [],?_⟩
    rw [ng,pD L hi]
    by_cases hn:stp L L[i]=[]
    ·rw [hn,if_neg (by simp),if_pos rfl]
    ·rw [if_pos (by simpa using hn),if_neg hn]
     refine ⟨⟨_,rfl⟩,ldK (gR L (L.take i)),rfl,kOf L[i].1,rfl,rfl,big _ ?_,by rw[qC (sM hf.nd hi)]⟩
     unfold ldK gR
     rw [DK,DK]
     have h1:=Ey (fun p=>decide (stp L p≠[])) (L.take i)
     rw [Fj] at h1
     omega
   ·rintro env ⟨S,b,e,rfl⟩
    rw [DK,DK,List.take_length]
    walk_at "dx"
    exact ⟨L.length,by omega,gR L L,rfl,by rw[hLl],hf.next,.inr ⟨L,hf,rfl,rfl⟩⟩
  ·walk_at "dx"
   refine ⟨kOf x0,rfl,rfl,ldK L,rfl,q _ ?_⟩
   rw [jK,decide_eq_true_iff]
   rcases hm with rfl|⟨L0,h0,rfl,rfl⟩
   ·exact absurd (by omega) hlt
   ·exact h0.done (by omega)
 rw [Fc] at hf hpl ⊢
 rw [if_pos (by simp)]
 have isx:IsS s o x:=hf.pis x (by simp)
 refine ⟨stS x,by simp,?_⟩
 walk_at "dx"
 refine ⟨kOf x,rfl,rfl,ldK L,rfl,fM (fun h=>?_) (fun h=>?_)⟩
 ·rw [jK] at h
  have hx:x ∉ kys L:=by simpa using h
  have hl64:∀ rr:List (List Int),rr.Perm (b8 s.length (o.getD x.1 0) x.2)→rr.length<64:=fun rr hrr=>by
   rw [hrr.length_eq]
   exact eO t1 (hh _ isx.1).2
  refine ⟨s,o,x.2,x.1,rfl,tb,⟨isx.1,isx.2.1⟩,fun rr hrr=>?_⟩
  walk_at "dx"
  have hrl:=hl64 rr hrr
  have hP:P.length<640000:=by simp at hpl;omega
  refine eu (fun i=>stS (bZ s o x (rr.getD i []))) (by rw[DK];omega) (fun i hi Q hQ=>?_) ?_
  ·rw [DK] at hi
   rw [gm]
   walk_at "dx"
   exact ⟨s,o,x.2,_,x.1,rfl,by omega,t2,isx.2.1,_,rfl,hQ⟩
  have ev:(List.range (lr rr).length).map (fun i=>stS (bZ s o x (rr.getD i [])))=(rr.map (bZ s o x)).map stS:=by
   rw [DK,Ew]
   refine E3 (by simp) fun i h1 h2=>?_
   rw [DK] at h2
   simp [DW,h2]
  rw [ev]
  walk_at "dx"
  have hLl:(ldK L).length=L.length:=DK ..
  have hf2:=hf.add t3 hx (hrr.map (bZ s o x)) (by rw[DK];exact hrl)
  have hfew2:=hf2.few
  refine ⟨⟨ldK L,rfl⟩,ldK L,rfl,kOf x,rfl,rfl,big (ldK L).length (by omega),?_⟩
  rw [qC hx]
  walk_at "dx"
  have hg:=vq hf2.nd (p:=(x,rr.map (bZ s o x))) (by simp)
  refine ⟨ldK (L++[(x,rr.map (bZ s o x))]),rfl,kOf x,rfl,rfl,_,hg,_,rfl,?_,((o3 s o).length - (L.length+1))*64+(P.length+rr.length),?_,L++[(x,rr.map (bZ s o x))],rfl,P++rr.map (bZ s o x),by simp,hf2,fun p hp=>?_,by simp⟩
  ·simp
   exact Nat.le_of_lt (big _ (by omega))
  ·simp at hfew2 ⊢
   omega
  ·rcases DQ.mp hp with e|e
   ·exact h64 p e
   ·rw [DM.mp e]
    simpa using hrl
 ·rw [jK] at h
  have hx:x∈kys L:=by simpa using h
  exact ⟨_,by simp,L,rfl,P,by simp,hf.skip hx,h64,rfl⟩
noncomputable abbrev sR:Stmt:=top 26
theorem de:au ["_law_script", "_law_town_here", "_law_draws_here", "_law_standing_here", "_law_found", "_law_lefts", "_law_goes", "_law_better", "_law_k", "_law_more"] ["_law_script"] (ad sR):=⟨rfl,rfl,rfl,by decide +kernel,rfl,by decide +kernel,by decide +kernel⟩
theorem pV:∀ s:List Int,gg s=jw s
 | []=>rfl
 | x::s=>by
  show x.toNat*gg s=x.toNat*jw s
  rw [pV s]
theorem TB.tbl {s o:List Int} (h:TB s o) (hp:o.length*gg s≤60):TbL s o∧(o3 s o).length≤60:=by
 obtain ⟨h1,h2,h3,h4,h5,h6,h7⟩:=h
 have e:(o3 s o).length≤60:=by rw[uM,←pV];exact hp
 exact ⟨⟨h2,h3,fun x hx=>(h5 x hx).1,fun x hx=>(h6 x hx).1,h7.imp id fun h x hx=>Int.le_trans (h x hx) (by decide),by omega⟩,e⟩
theorem CW:TbL [3,3,3] [1]:=⟨by decide,by decide,by decide,by decide,by decide,by decide⟩
theorem is3 {a b c:Int} (ha:1≤a∧a≤3) (hb:1≤b∧b≤3) (hc:1≤c∧c≤3):IsS [3,3,3] [1] (0,[a,b,c]):=⟨Nat.zero_lt_one,rfl,fun i hi=>by
 match i,hi with
 | 0,_=>exact ha
 | 1,_=>exact hb
 | 2,_=>exact hc⟩
noncomputable def pH:List Std:=[(0,[3,2,1]),(0,[2,1,3]),(0,[1,3,2]),(0,[3,1,2]),(0,[2,3,1]),(0,[1,2,3])]
theorem Dy {x:Std} (h:x∈pH):bo [3,3,3] [1] x:=by
 have key:(pH.all fun y=>(uS [3,3,3] [1] y).any fun z=>decide (z∈pH))=true:=by decide +kernel
 refine ⟨fun y=>y∈pH,h,fun y hy=>?_⟩
 have:=E7.mp key y hy
 obtain ⟨z,hz,hm⟩:=List.any_eq_true.mp this
 exact ⟨z,hz,of_decide_eq_true hm⟩
noncomputable def ww:DSp:=fun ss R=>∃ ns:List Int,ss=[.fr (.list (li ns))]∧ns.length≤63∧R (.fr (.bool true)) [.un]
theorem zU {f:Addr}{fd:FuncData} (F:Fun K "law" "law" sR f fd) (B:Bn mg) (G__law_draws:Cal P w K mg base "_law_draws" 2 (spD K pA)) (G__law_town:Cal P w K mg base "_law_town" 2 (spD K uT)) (G__law_pop:Cal P w K mg base "_law_pop" 1 (spD K sK)) (G__law_standing:Cal P w K mg base "_law_standing" 2 (spD K hG)) (G_can_keep:Cal P w K mg base "can_keep" 10 (spD K yV)) (G_plan_of:Cal P w K mg base "plan_of" 10 (spD K mi)) (G_begun:Cal P w K mg base "begun" 1 (spD K kG)) (G__law_kept:Cal P w K mg base "_law_kept" 8 (spD K uV)) (G_choices:Cal P w K mg base "choices" 6 (spD K fW)) (G_wound:yH P w K mg base C "wound" 5 mh):b7 P w K mg base CX0 12 f fd ["_law_script"] (spD K ww):=by
 refine okD (k:=11) F de (fun ss R h=>?_) (by decide) (fun cdv A outer s H E hr=>⟨_,(aj (aG (i:=1) de.nd rfl (Or.inr rfl) (wK G__law_town (hr.mono (by decide)) rfl (aa (aU G__law_draws (hr.mono (by decide)) rfl (aa (qf 0) (aa ah (aa ah ac)))) (aa ah ac))))
   (aj (aG (i:=2) de.nd rfl (Or.inl rfl) (aU G__law_draws (hr.mono (by decide)) rfl (aa (qf 0) (aa ah (aa ah ac)))))
   (aj (aG (i:=3) de.nd rfl (Or.inr rfl) (cE 1 G__law_standing (hr.mono (by decide)) rfl (aa (qf 1) (aa (qv 2) ac))))
   (aj (aG (i:=4) de.nd rfl (Or.inl rfl) (aU G_can_keep (hr.mono (by decide)) rfl (aa (qf 1) (aa (qf 3) ac))))
   (aj (kA (PW.pt (y7 (mD (mC (BI (K:=K) rfl tS rfl B.isinstance rfl B.bool PyProof.Rows.boot_bool (qv 4)))) (vc (aZ xk BT (aU G_can_keep (hr.mono (by decide)) rfl (aa (qf 1) (aa (aU G_begun (hr.mono (by decide)) rfl (aa (qf 1) ac)) ac))) (kQ qo zV (aU G_plan_of (hr.mono (by decide)) rfl (aa (qf 1) ac)) pQ (bh _)) (bh _))))) (am (bP wM)) cy)
   (aj (kA (aZ xk BT (qv 4) (aU G__law_kept (hr.mono (by decide)) rfl (aa (qf 1) (aa (qf 3) ac))) (bh _)) (am (bP wM)) cy)
   (aj (gd PassesOwn.never rfl (bq (K:=K) rfl (ce (aa (cj (aa ah (aa ah (aa ah ac)))) (aa (cj (aa ah (aa ah (aa ah ac)))) (aa (cj (aa ah (aa ah (aa ah ac)))) ac))))) (al (i:=5) de.nd rfl (Or.inl rfl)) (am (kA (aZ qq BV (aU G_can_keep (hr.mono (by decide)) rfl (aa (cj (aa (ce (aa ah (aa ah (aa ah ac)))) (aa (ce (aa ah ac)) ac))) (aa (cj (aa ah (aa (qf 5) ac))) ac))) wM (bh _)) (am (bP wM)) cy)))
   (aj (bM (i:=6)  de.nd rfl rfl (N':=["_law_row", "_law_town_here", "_law_standing_here"]) (ix:=[none,some 1,some 3]) rfl (cS (N:=["_law_script", "_law_town_here", "_law_draws_here", "_law_standing_here", "_law_found", "_law_lefts", "_law_goes", "_law_better", "_law_k", "_law_more"]) (sc0:=ad sR) rfl rfl (by decide +kernel)) (bq (K:=K) rfl (aU G_choices (hr.mono (by decide)) rfl (aa (qf 1) (aa (qf 3) ac)))) (fun _ _ _ _=>(al (i:=0) (show List.Nodup (["_law_row", "_law_town_here", "_law_standing_here"]:List Str) by decide +kernel) rfl (Or.inl rfl))) (fun _ _ _ _=>(dM (mC (aU G_can_keep (hr.mono (by decide)) rfl (aa (qf 1) (aa (wL G_wound (hr.mono (by decide)) rfl rfl (aa (qf 1) (aa (qf 2) (aa (qf 0) ac)))) ac)))))) (fun _ _ _ _=>(qf 0)))
   (bp (kA (aZ xk BT (qv 4) (kQ (B1 (K:=K) rfl hr.units) mNe (qv 6) (ce ac) (bh _)) (bh _)) (am (bP wM)) cy)
   (bp (aG (i:=7) de.nd rfl (Or.inl rfl) (cj ac))
   (aj (gd PassesOwn.never rfl (dg rfl B.range (aa (eI (je (K:=K) rfl) jd rfl B.len PySem.boot_len (aa (bT (ak (K:=K) rfl) mIx (qv 1) ah (fun _ _=>rfl)) ac)) ac)) (al (i:=8) de.nd rfl (Or.inl rfl)) (aj (aG (i:=9) de.nd rfl (Or.inl rfl) (bA aV mIC (cE 0 G__law_pop (hr.mono (by decide)) rfl (aa (qv 2) ac)) (bA mL mI (bA bH mI (bT (ak (K:=K) rfl) mIx (bT (ak (K:=K) rfl) mIx (qv 1) ah (fun _ _=>rfl)) (qv 8) (fun _ _=>rfl)) ah) (bT (ak (K:=K) rfl) mIx (bT (ak (K:=K) rfl) mIx (qv 3) ah (fun _ _=>rfl)) (qv 8) (fun _ _=>rfl)))))
   (am (aG (i:=7) de.nd rfl (Or.inl rfl) (mF (K:=K) rfl (qv 7) (cj (aa (bA bH mI (bT (ak (K:=K) rfl) mIx (bT (ak (K:=K) rfl) mIx (qv 3) ah (fun _ _=>rfl)) (qv 8) (fun _ _=>rfl)) (qv 9)) ac)))))))
   (am (bP (Dc (BH (qv 4)) (zo (kQ zP Di (aU G_can_keep (hr.mono (by decide)) rfl (aa (qf 1) (aa (cj (aa (bT (ak (K:=K) rfl) mIx (qv 3) ah (fun _ _=>rfl)) (aa (qf 7) ac))) ac))) wM (bh _))))))))))))))))),fun ss R h=>?_⟩)
 ·obtain ⟨ns,rfl,_⟩:=h
  rfl
 obtain ⟨ns,rfl,h63,q⟩:=h
 walk_at "dx"
 refine ⟨ns,1,30,rfl,h63,by decide,by decide,fun l hl=>?_⟩
 walk_at "dx"
 refine ⟨l,60,rfl,hl,by decide,by decide,fun s o l' hl' tb hp=>?_⟩
 walk_at "dx"
 obtain ⟨ht,hN⟩:=tb.tbl hp
 refine ⟨ns,200,40,rfl,h63,by decide,by decide,fun dr hdr=>?_⟩
 walk_at "dx"
 refine ⟨s,o,dr,rfl,hdr,tb,fun d lf l2 hd2 hdo hlf=>?_⟩
 walk_at "dx"
 have i0:IsS s o (d,lf):=⟨hdo,hlf.1,hlf.2⟩
 refine ⟨s,o,(d,lf),rfl,ht,i0,fun b hb=>?_⟩
 walk_at "dx"
 refine ⟨s,o,rfl,?_⟩
 walk_at "dx"
 have ib:IsS s o (0,s):=⟨ht.2.1,rfl,fun c hc=>⟨ht.2.2.1 _ (aW hc),Int.le_refl _⟩⟩
 refine ⟨s,o,(0,s),rfl,ht,ib,fun b1 hb1=>?_⟩
 walk_at "dx"
 refine ⟨s,o,rfl,ht,fun v hv=>?_⟩
 walk_at "dx"
 have e1:b1=!gv v:=by rw[EV,hb1,←hv];cases gv v <;> simp
 rw [if_neg (by rw[e1];simp)]
 walk_at "dx"
 refine ⟨s,o,(d,lf),rfl,tb,ht,by omega,i0,fun b2 hb2=>?_⟩
 have eb:b2=b:=EV.mpr (hb2.trans hb.symm)
 subst eb
 walk_at "dx"
 rw [if_neg (fun h=>h trivial)]
 walk_at "dx"
 have hz:(3:Nat)≤sizeLine:=D1 (by decide) af
 simp only [hz,true_and]
 have hh:∀ d,d<o.length→0≤o.getD d 0∧(s.length≤4∨o.getD d 0≤3):=fun d hd=>⟨ht.2.2.2.1 _ (aW hd),ht.2.2.2.2.1.imp id fun h=>h _ (aW hd)⟩
 refine bE (fun i env=>∃ a:Sl,env=[.fr (.list (li ns)),.fr (.tuple [.list (li s),.list (li o)]),.ow (li l2),.fr (.tuple [.int d,.tuple (li lf)]),.fr (.bool b2),a,.un,.un,.un,.un]) ⟨_,rfl⟩ ?_ ?_
 ·rintro i env hi ⟨a0,rfl⟩
  obtain ⟨a,b,c,e,hr,h1,h2,h3⟩:∃ a b c:Int,[PyData.tuple [.int 3,.int 2,.int 1],.tuple [.int 3,.int 1,.int 2],.tuple [.int 1,.int 2,.int 3]][i]=.tuple [.int a,.int b,.int c]∧((0,[a,b,c]):Std)∈pH∧(1≤a∧a≤3)∧(1≤b∧b≤3)∧(1≤c∧c≤3):=by
   match i,hi with
   | 0,_=>exact⟨3,2,1,rfl,by decide,by decide,by decide,by decide⟩
   | 1,_=>exact⟨3,1,2,rfl,by decide,by decide,by decide,by decide⟩
   | 2,_=>exact⟨1,2,3,rfl,by decide,by decide,by decide,by decide⟩
  rw [e]
  walk_at "dx"
  have hz1:(1:Nat)≤sizeLine:=D1 (by decide) af
  have hz2:(2:Nat)≤sizeLine:=D1 (by decide) af
  simp only [hz,hz1,hz2,true_and]
  refine ⟨[3,3,3],[1],(0,[a,b,c]),rfl,CW,is3 h1 h2 h3,fun b5 hb5=>?_⟩
  have:b5=true:=hb5.mpr (Dy hr)
  subst this
  walk_at "dx"
  simp
 ·rintro env ⟨a0,rfl⟩
  walk_at "dx"
  refine ⟨s,o,lf,d,rfl,ht.1,(hh d hdo).1,(hh d hdo).2,⟨hdo,hlf.1⟩,?_⟩
  walk_at "dx"
  have hpm:=i5 s.length (o.getD d 0) lf
  have hl64:(chX s.length (o.getD d 0) lf).length<64:=by rw[hpm.length_eq];exact eO ht.1 (hh d hdo).2
  generalize chX s.length (o.getD d 0) lf=rr at hpm hl64 ⊢
  open Classical in
  refine cm (fun i=>decide (bo s o (bZ s o (d,lf) (rr.getD i [])))) (fun i=>.list (li (rr.getD i []))) (by rw[DK];omega) (fun i hi Q Q' h1 h2=>?_) ?_
  ·rw [DK] at hi
   rw [gm]
   have hfit:=hpm.mem_iff.mp (cQ (l:=rr) hi)
   generalize rr.getD i []=r at hfit h1 h2 ⊢
   walk_at "dx"
   have hrl:=(bi _ r (iM.mp hfit).1).1
   have h6:=ht.1
   refine ⟨s,o,lf,r,d,rfl,hdo,hlf.1,by omega,by omega,fun _=>?_,fun hm=>?_⟩
   ·walk_at "dx"
    refine ⟨s,o,bZ s o (d,lf) r,rfl,ht,jF ht.2.2.1 i0 hfit,fun b5 hb5=>?_⟩
    walk_at "dx"
    exact fM (fun h=>h1 (decide_eq_true (hb5.mp h))) (fun h=>h2 (decide_eq_false fun hc=>h (hb5.mpr hc)))
   ·have:=(xQ (s:=s) (o:=o) (d:=d) hlf.1).mp hfit
    rw [hm] at this
    cases this
  ·open Classical in
   have eg:((List.range (lr rr).length).filter fun i=>decide (bo s o (bZ s o (d,lf) (rr.getD i [])))).map (fun i=>PyData.list (li (rr.getD i [])))=lr (rr.filter fun r=>decide (bo s o (bZ s o (d,lf) r))):=by
    rw [DK]
    exact bv rr [] (fun r=>decide (bo s o (bZ s o (d,lf) r))) fun r=>PyData.list (li r)
   rw [eg]
   have eb:b2=!(rr.filter fun r=>decide (bo s o (bZ s o (d,lf) r))).isEmpty:=by
    rw [EV,hb]
    constructor
    ·intro hc
     obtain ⟨z,hz,cz⟩:=hc.step
     obtain ⟨r,hr,rfl⟩:=D4.mp hz
     have:r∈rr.filter fun r=>decide (bo s o (bZ s o (d,lf) r)):=D9.mpr ⟨hpm.mem_iff.mpr hr,decide_eq_true cz⟩
     cases e:rr.filter fun r=>decide (bo s o (bZ s o (d,lf) r)) with
     | nil=>rw[e] at this;cases this
     | cons _ _=>rfl
    ·intro h
     cases e:rr.filter fun r=>decide (bo s o (bZ s o (d,lf) r)) with
     | nil=>rw[e] at h;cases h
     | cons r _ =>
      have:r∈rr.filter fun r=>decide (bo s o (bZ s o (d,lf) r)):=by rw[e];simp
      obtain ⟨h1,h2⟩:=D9.mp this
      exact bo.back (D4.mpr ⟨r,hpm.mem_iff.mp h1,rfl⟩) (of_decide_eq_true h2)
   generalize (rr.filter fun r=>decide (bo s o (bZ s o (d,lf) r)))=G at eb ⊢
   walk_at "dx"
   refine ⟨Ee _,(Sh.lr 0 G).shp (by decide),(Sh.ints 0 []).shp (by decide),?_⟩
   rw [show PyData.eqv (.list (lr G)) (.list [])=G.isEmpty by cases G <;> rfl,if_neg (fun h=>h eb)]
   rw [DK]
   have h6:=ht.1
   refine ⟨Ee _,by omega,by omega,bE (fun i env=>∃ (l3 bt:List Int) (a b:Sl),env=[.fr (.list (li ns)),.fr (.tuple [.list (li s),.list (li o)]),.ow (li l3),.fr (.tuple [.int d,.tuple (li lf)]),.fr (.bool b2),a0,.ow (lr G),.fr (.tuple (li bt)),a,b]∧Ds l3∧bt.length=i∧∀ c,c<i→lf.getD c 0≤bt.getD c 0∧bt.getD c 0≤s.getD c 0) ⟨l2,[],_,_,rfl,hd2,rfl,by omega⟩ ?_ ?_⟩
   ·rintro i env hi ⟨l3,bt,a,b,rfl,hd3,hbl,hbt⟩
    rw [aw,Eu] at hi
    rw [bw,Int.zero_add]
    walk_at "dx"
    refine ⟨l3,rfl,?_⟩
    have hd4:=hd3.drop
    generalize kW l3=n3
    generalize l3.dropLast=l4 at *
    walk_at "dx"
    obtain ⟨g1,g2⟩:=hlf.2 i hi
    have hll:=hlf.1
    refine ⟨_,cB (k:=i) hi,_,rfl,_,cB (k:=i) (by omega),_,rfl,by omega,?_⟩
    have m0:=EF n3 (show s.getD i 0+1 - lf.getD i 0≠0 by omega)
    have m1:=Ex n3 (show 0<s.getD i 0+1 - lf.getD i 0 by omega)
    generalize n3 % (s.getD i 0+1 - lf.getD i 0)=e3 at m0 m1 ⊢
    walk_at "dx"
    refine ⟨_,cB (k:=i) (by omega),_,rfl,D1 (by decide) af,?_,l4,rfl,bt++[lf.getD i 0+e3],by simp,hd4,by simp[hbl],fun c hc=>?_⟩
    ·rw [DK]
     exact D1 (by omega) af
    by_cases hci:c<i
    ·rw [DW (l:=bt++_),Eb (by omega),←DW]
     exact hbt c hci
    ·have ec:c=i:=by omega
     subst ec
     have e:(bt++[lf.getD c 0+e3]).getD c 0=lf.getD c 0+e3:=by
      rw [DW,EJ (by omega)]
      simp [hbl]
     rw [e]
     constructor <;> omega
   ·rintro env ⟨l3,bt,a,b,rfl,hd3,hbl,hbt⟩
    rw [aw,Eu] at hbl hbt
    walk_at "dx"
    refine fM (fun _=>q) (fun h=>?_)
    have hc:bo s o (d,lf):=hb.mp (by simpa using h)
    have hnb:noB s o (d,bt) (d,lf):=⟨i0,rfl,hbl,fun c hc=>(hbt c hc).1⟩
    refine ⟨D1 (by decide) af,s,o,(d,bt),rfl,ht,⟨hdo,hbl,fun c hc=>⟨Int.le_trans (hlf.2 c hc).1 (hbt c hc).1,(hbt c hc).2⟩⟩,fun b5 hb5=>?_⟩
    have:b5=true:=hb5.mpr (bo.better ht.2.2.1 hnb hc)
    subst this
    walk_at "dx"
    exact q
end
theorem AS {l:PySem.W.OpenLaw}{w:World}{K:PySem.W.Frag}{h:Heap}{mg:Str→Option Value}{fa:Addr} (X:K.In h) (G:h.Ns mainGlobals mg) (hfa:mg "law" = some (.ref fa))
  (g0:FnI K "_law_pop" dB)
  (g1:FnI K "_law_mix" dD)
  (g2:FnI K "_law_draws" bY)
  (g3:FnI K "_law_town" bF)
  (g4:FnI K "_law_rows" a9)
  (g5:FnI K "_law_after" cx)
  (g6:FnI K "_law_standing" bL)
  (g7:FnI K "is_row" dy)
  (g8:FnI K "hands_on" dz)
  (g9:FnI K "may_wind" cM)
  (g10:FnI K "behind" dZ)
  (g11:FnI K "begun" iG)
  (g12:FnI K "gone" mr)
  (g13:FnI K "wound" iF)
  (g14:FnL K "choices" df)
  (g15:FnL K "full_rows" ci)
  (g16:FnI K "looked_through" bf)
  (g17:FnI K "can_keep" dA)
  (g18:FnI K "plan_of" dY)
  (g19:FnI K "_law_kept" bR)
  (g20:FnI K "law" sR)
  {CN fN DN NN:Addr}{nmN qN:Str}{bsN:List Value}{snN:List Str}{subN:List Value}{abN:Bool}{colN:Option Bool}{ddN odN anN:Option Addr}{k0N k1N k2N k3N k5N:Option Value}{slN:Array (Option Value)}{kVN dcN pmN cdN ctN:Value}
  (aN:PySem.W.nsIn K mainGlobals "NoDay" = some (some (.ref CN))) (oN:K.lookup CN=some (excClassObj nmN qN CN NN bsN (.ref DN::bmV) true snN subN abN colN ddN k0N k1N k2N k3N k5N "ValueError.__new__")) (tN:PySem.W.tailIn K bmV (.ref DN::bmV)=true)
  (iN:PySem.W.findIn K (.ref CN) "__init__" = some (some (.ref fN))) (lN:K.lookup fN=some ⟨.type "function",odN,.func (PySem.W.fnOf "__init__" "NoDay.__init__" (cH aY) (bB aY) (ad aY) .none kVN dcN pmN anN cdN ctN),slN⟩)
  (cN:PySem.W.codeIn K cdN "NoDay.__init__" = true) (kN:PySem.W.keepIn K (.ref fN)=true) (kC:PySem.W.keepIn K (.ref CN)=true) (saN:PySem.W.findIn K (.ref CN) "__setattr__" = some (some (.builtin "object.__setattr__"))) (daN:PySem.W.findIn K (.ref CN) "day" = some none)
  (z : BnI K)
  : ∃ fd:FuncData,(∀ (s:Shared) (v:Value),BindsTo s fd ⟨[v],[]⟩ [("_law_script",v)])∧∀ base:Heap,K.In base→base.Ns mainGlobals mg→b7 l.prog w K mg base CX0 12 fa fd ["_law_script"] (spD K ww):=by
 have B:Bn mg:=z.bn X G
 refine Dk X G hfa g20 (fun F s v=>?_) fun {fd base} F_law Xb=>?_
 ·obtain ⟨_,_,_,_,_,_,_,_,_,rfl,_,_⟩:=F.ex
  exact .of_eq rfl
 have cl:=tD (P:=l.prog) (w:=w) (base:=base) oN tN iN lN cN kN kC saN daN (PySem.W.mg_of X G aN)
 have G__law_pop:=kB X G g0 lL fun F=>lg (P:=l.prog) (w:=w) (base:=base) F B
 have G__law_mix:=kB X G g1 lM fun F=>lh (P:=l.prog) (w:=w) (base:=base) F B
 have G__law_draws:=kB X G g2 i8 fun F=>iJ (P:=l.prog) (w:=w) (base:=base) F B G__law_mix
 have G__law_town:=kB X G g3 kr fun F=>jB (P:=l.prog) (w:=w) (base:=base) F B G__law_pop
 have G__law_rows:=kB X G g4 kt fun F=>jC (P:=l.prog) (w:=w) (base:=base) F B
 have G__law_after:=kB X G g5 i9 fun F=>iK (P:=l.prog) (w:=w) (base:=base) F B
 have G__law_standing:=kB X G g6 fC fun F=>fA (P:=l.prog) (w:=w) (base:=base) F B G__law_pop
 have G_is_row:=kB X G g7 rQ fun F=>qt (P:=l.prog) (w:=w) (base:=base) F B
 have G_hands_on:=kB X G g8 lJ fun F=>k8 (P:=l.prog) (w:=w) (base:=base) F B
 have G_may_wind:=kB X G g9 lH fun F=>k7 (P:=l.prog) (w:=w) (base:=base) F B G_is_row G_hands_on
 have G_behind:=kB X G g10 rR fun F=>qu (P:=l.prog) (w:=w) (base:=base) F B
 have G_begun:=kB X G g11 uK fun F=>tx (P:=l.prog) (w:=w) (base:=base) F B
 have G_gone:=AR X G g12 yv fun F=>xo (P:=l.prog) (w:=w) (base:=base) F B cl G_may_wind G_behind
 have G_wound:=AR X G g13 uJ fun F=>tw (P:=l.prog) (w:=w) (base:=base) F B cl G_gone
 have G_choices:=CQ X G Xb g14 oX fun F L=>oz (P:=l.prog) (w:=w) F B L G_hands_on
 have G_full_rows:=CQ X G Xb g15 ko fun F L=>jA (P:=l.prog) (w:=w) F B L G_choices
 have G_looked_through:=kB X G g16 eR fun F=>eM (P:=l.prog) (w:=w) (base:=base) F B G_full_rows G_behind
 have G_can_keep:=kB X G g17 lK fun F=>lb (P:=l.prog) (w:=w) (base:=base) F B G_looked_through
 have G_plan_of:=kB X G g18 oW fun F=>oy (P:=l.prog) (w:=w) (base:=base) F B G_looked_through G_begun
 have G__law_kept:=kB X G g19 ku fun F=>jD (P:=l.prog) (w:=w) (base:=base) F B G__law_rows G__law_after
 exact zU F_law B G__law_draws G__law_town G__law_pop G__law_standing G_can_keep G_plan_of G_begun G__law_kept G_choices G_wound
end W
open PySem PySem.W PyProof.Rows
set_option maxRecDepth 100000 in
set_option maxHeartbeats 0 in
theorem PySem.Challenge.cw_windround_k39_keeping_goes_on_holds : PySem.Challenge.rw_windround_k39_keeping_goes_on.Holds := by
 w_on;o_law;k_head;(case hw=>w_witness2)
 k_fill
 refine L2.Bk (l:=PySem.Challenge.rw_windround_k39_keeping_goes_on) (sp:=W.ww) (k:=12) (by decide) rfl rfl (fun ns h=>⟨ns,rfl,h,rfl⟩) ?TB (fun w h Y=>PySem.W.km_in_of Y) ?F
 case TB =>
  intro w s₀ mg mb h G KX
  refine' L2.wo _ (L2.mQ (x := "choices") (L2.mR G KX rfl ?a1 ?l1 ?c1 ?lc1 ?hT1 ?hn1) (L2.mQ (x := "full_rows") (L2.mR G KX rfl ?a2 ?l2 ?c2 ?lc2 ?hT2 ?hn2) L2.xC)) ?nd (L2.xD (.inl ?y0) (.inl ?y1) (.inr ?z2) (.inr ?z3))
  (case a1=>k_is);(case l1=>k_is);(case c1=>exact rfl);(case lc1=>k_is);(case hT1=>exact⟨rfl,rfl,⟨_,_,rfl⟩,⟨_,_,rfl⟩,⟨_,rfl⟩,⟨_,_,rfl⟩,by decide⟩);(case hn1=>kernel_rfl)
  (case a2=>k_is);(case l2=>k_is);(case c2=>exact rfl);(case lc2=>k_is);(case hT2=>exact⟨rfl,rfl,⟨_,_,rfl⟩,⟨_,_,rfl⟩,⟨_,rfl⟩,⟨_,_,rfl⟩,by decide⟩);(case hn2=>kernel_rfl)
  (case nd=>decide);(case y0=>simp);(case y1=>simp);(case z2=>k_is);(case z3=>k_is)
 case F =>
  intro w mg fa h KX G hmg
  refine' W.AS KX G hmg ?fn0 ?fn1 ?fn2 ?fn3 ?fn4 ?fn5 ?fn6 ?fn7 ?fn8 ?fn9 ?fn10 ?fn11 ?fn12 ?fn13 ?fn14 ?fn15 ?fn16 ?fn17 ?fn18 ?fn19 ?fn20 ?aN ?oN ?tN ?iN ?lN ?cN ?kN ?kC ?saN ?daN ?fz
  case fn0|fn1|fn2|fn3|fn4|fn5|fn6|fn7|fn8|fn9|fn10|fn11|fn12|fn13|fn16|fn17|fn18|fn19|fn20=>(refine' L2.fnI ?fa ?fl ?fc ?fk;(case fa=>k_is);(case fl=>k_is);(case fc=>k_is);(case fk=>k_is))
  case fn14|fn15=>(refine' L2.fnL (by decide) ?fa ?fl ?fc ?fk ?fhc ?flc ?fhT;(case fa=>k_is);(case fl=>k_is);(case fc=>k_is);(case fk=>k_is);(case fhc=>exact rfl);(case flc=>k_is);(case fhT=>exact⟨rfl,rfl,⟨_,_,rfl⟩,⟨_,_,rfl⟩,⟨_,rfl⟩,⟨_,_,rfl⟩,by decide⟩))
  (case aN=>k_is);(case oN=>k_is);(case tN=>kernel_rfl);(case iN=>k_is);(case lN=>k_is);(case cN=>k_is);(case kN=>k_is);(case kC=>k_is);(case saN=>k_is);(case daN=>k_is)
  case fz=>refine' ⟨?_,?_,?_,?_,?_,?_,?_,?_,?_,?_,?_,?_,?_,?_,?_,?_,?_⟩ <;> k_is
