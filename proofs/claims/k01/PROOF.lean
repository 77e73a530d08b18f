import PyProof.Rows.All
import Wide.All
import OpenK.AllK
import Wide.FinOn
import Lean
import PyProof.EqAt
import PyProof.EqKinds
import PyProof.TupleCall
import PyProof.DictRoadsH
import PyProof.DictKinds
import PyProof.DictIter
import PyProof.ListMulAny
import PyProof.StrLawsTight
import KE.KIntText
import PyProof.Rows.StrItems
import PyProof.StrWalks
import KE.KSortTup
import KE.KLam
import PyProof.ExcInit
import PyProof.ExcClass3
import PyProof.InstStoreFacts
import PyProof.ExcBaseAll.ValueError
import PyProof.ExcArgsOwn
import PyProof.ExcAttrAll.ValueError
import PyProof.Rows.RuleN_isinstance
import PyProof.AutoSeq1
import KE.KRevIter
import PyProof.Rows.FactsT2
import PyProof.DictTruth
import PyProof.DictWalks
import PySem.Challenge.RW_windround_k01_beginnings_and_choices
set_option compiler.extract_closed false
set_option bootstrap.genMatcherCode false
local macro_rules | `(tactic| omega) => `(tactic| first | assumption | lia)
set_option Elab.async false
set_option linter.all false
set_option maxRecDepth 100000
open List renaming mem_append_right → xY, length_map → xZ, mem_append_left → x3, mem_singleton → x4, getElem?_eq_getElem → x5, mem_append → x8, mem_cons_of_mem → x9, mem_cons_self → ya, nodup_append → yb, getElem?_eq_some_iff → yc, getD_eq_getElem?_getD → yd, mem_cons → ye, size_toArray → yh, getElem?_set_ne → yj, getElem?_set_self → yk, mem_map → yr, not_mem_nil → yt, append_nil → yu, nodup_cons → yv, length_append → yw, map_cons → yx, lookup_cons → yz, getElem?_map → yA, length_range → yC, map_map → yD, filter_append → yF, length_filter_le → yJ, length_cons → yK, replicate → yL, length_zip → yM, map_append → yN, getElem_mem → yO, drop_eq_getElem_cons → yP, append_assoc → yR, filter_cons_of_pos → yS, getElem_zip → yU, drop_of_length_le → yV, take_of_length_le → yW, length_singleton → yX, mem_filter → yY, getElem?_zip_eq_some → y4, nodup_nil → y7, getElem_of_mem → y9, map_congr_left → za, getElem?_set_self' → zc, length_set → ze, range_succ → zf, filter_eq_nil_iff → zg, mem_iff_getElem? → zh, perm_append_comm → zi, take_add_one → zj, all_eq_true → zk, getElem?_append_left → zl, of_mem_zip → zn
open Nat renaming le_trans → yg, lt_of_lt_of_le → yi, le_refl → yl, zero_le → yo, ne_of_lt → yq, lt_of_succ_lt_succ → yH, pow_le_pow_right → yQ, lt_succ_self → yT, lt_succ_of_lt → yZ, le_succ → y8, ne_of_gt → zb, lt_irrefl → zd
open Int renaming emod_lt_of_pos → yB, emod_nonneg → yE, toNat_natCast → yI
open Bool renaming false_ne_true → yn, false_eq_true → yy, and_eq_true → yG, not_true → y3, eq_iff_iff → zm
open PySem.Heap renaming get?_push_of_some → yf, lt_size → ym, get?_push_size → yp, size_push → y6
namespace L2
open PySem PySem.Spec PyProof.Rows
noncomputable abbrev Key:=Sum Int Str
noncomputable def uB:Key→Value→Bool
 | .inl k,v=>Value.isInt k v
 | .inr x,v=>Value.isStrOf x v
noncomputable def xH (w:World):Key→Int
 | .inl k=>hashInt k
 | .inr x=>hashStr w x
theorem aM:∀ {k:Key}{v:Value},uB k v=true→(∃ i t,k=Sum.inl i∧v=Value.int i t)∨(∃ x t,k=Sum.inr x∧v=Value.str x t)
 | .inl i,v,h=>by
  obtain ⟨t,e⟩:=Value.isInt_shape (k:=i) (v:=v) h
  exact .inl ⟨i,t,rfl,e⟩
 | .inr x,v,h=>by
  obtain ⟨t,e⟩:=Value.isStrOf_shape (x:=x) (v:=v) h
  exact .inr ⟨x,t,rfl,e⟩
theorem uA (a b:Int):decide ((Sum.inl a:Key)=Sum.inl b)=(a==b):=by
 by_cases e:a=b
 ·subst e;simp
 ·have h:¬(Sum.inl a:Key)=Sum.inl b:=fun q=>e (Sum.inl.inj q)
  rw [decide_eq_false h]
  exact (beq_eq_false_iff_ne.mpr e).symm
theorem ux (a b:Str):decide ((Sum.inr a:Key)=Sum.inr b)=decide (a=b):=by
 by_cases e:a=b
 ·subst e;simp
 ·have h:¬(Sum.inr a:Key)=Sum.inr b:=fun q=>e (Sum.inr.inj q)
  rw [decide_eq_false h,decide_eq_false e]
theorem uz (a:Int) (b:Str):decide ((Sum.inl a:Key)=Sum.inr b)=false:=decide_eq_false (fun q=>nomatch q)
theorem uy (a:Str) (b:Int):decide ((Sum.inr a:Key)=Sum.inl b)=false:=decide_eq_false (fun q=>nomatch q)
noncomputable def lO (prog:Program) (w:World):PySem.KeyKind prog w Key where
 is := uB
 hash:=xH w
 inj := fun v a b ha hb=>by
  rcases aM ha with ⟨i,t,rfl,rfl⟩|⟨x,t,rfl,rfl⟩
  ·rcases aM hb with ⟨j,u,rfl,e⟩|⟨y,u,rfl,e⟩
   ·injection e with e1 _;rw[e1]
   ·exact nomatch e
  ·rcases aM hb with ⟨j,u,rfl,e⟩|⟨y,u,rfl,e⟩
   ·exact nomatch e
   ·injection e with e1 _;rw[e1]
 byValue:=fun k v h=>by
  rcases aM h with ⟨i,t,rfl,rfl⟩|⟨x,t,rfl,rfl⟩ <;> rfl
 pyHash:=fun hv h=>by
  rcases aM hv with ⟨i,t,rfl,rfl⟩|⟨x,t,rfl,rfl⟩
  ·exact wpAny_pyHash_int h
  ·exact wpAny_pyHash_str h
 eqBool:=fun hu hv h=>by
  rcases aM hu with ⟨i,t,rfl,rfl⟩|⟨x,t,rfl,rfl⟩
  ·rcases aM hv with ⟨j,u,rfl,rfl⟩|⟨y,u,rfl,rfl⟩
   ·rw [uA] at h;exact wpAny_eqBool_int h
   ·rw [uz] at h;exact SeqAt.EqAt.int_str i t y u _ _ _ _ h
  ·rcases aM hv with ⟨j,u,rfl,rfl⟩|⟨y,u,rfl,rfl⟩
   ·rw [uy] at h;exact SeqAt.EqAt.str_int x t j u _ _ _ _ h
   ·rw [ux] at h;exact wpAny_eqBool_str h
 «strs»:=fun k x t v h=>by
  rcases aM h with ⟨i,u,rfl,e⟩|⟨y,u,rfl,e⟩
  ·exact nomatch e
  ·injection e with e1 _
   subst e1
   cases v <;> rfl
inductive V where
 | non|bl (b:Bool)|int (i:Int)|str (x:Str)|byt (b:Array UInt8)|flt (b:UInt64)|ref (a:Addr)|ty (n:String)
 deriving DecidableEq
noncomputable def aY:V→Value→Prop
 | .non,u=>u=Value.none
 | .bl b,u=>u=Value.bool b
 | .int i,u=>∃ t,u=Value.int i t
 | .str x,u=>∃ t,u=Value.str x t
 | .byt b,u=>∃ t,u=Value.bytes b t
 | .flt b,u=>∃ t,u=Value.float b t
 | .ref a,u=>u=Value.ref a
 | .ty n,u=>u=Value.type n
noncomputable abbrev aA:List V→List Value→Prop:=Paired aY
theorem aA.length {xs:List V}{us:List Value} (r:aA xs us):xs.length=us.length:=Paired.length r
theorem aA.get:∀ {xs:List V}{us:List Value}{i:Nat}{x:V},aA xs us→xs[i]? = some x→∃ u,us[i]? = some u∧aY x u
 | _,_,_,_,.nil,e=>by simp at e
 | _,_,0,_,.cons r _,e=>by simp at e;subst e;exact⟨_,rfl,r⟩
 | _,_,i+1,x,.cons _ t,e=>by
  obtain ⟨u,h1,h2⟩:=aA.get (i:=i) (x:=x) t (by simpa using e)
  exact ⟨u,by simpa using h1,h2⟩
theorem aA.set {x:V}{u:Value} (r:aY x u):∀ {xs:List V}{us:List Value} (i:Nat),aA xs us→aA (xs.set i x) (us.set i u)
 | _,_,_,.nil=>.nil
 | _,_,0,.cons _ t=>.cons r t
 | _,_,i+1,.cons q t=>.cons q (aA.set r i t)
theorem aA.append:∀ {xs ys:List V}{us ws:List Value},aA xs us→aA ys ws→aA (xs++ys) (us++ws)
 | _,_,_,_,.nil,s=>s
 | _,_,_,_,.cons r t,s=>.cons r (aA.append t s)
theorem aA.take:∀ {xs:List V}{us:List Value} (n:Nat),aA xs us→aA (xs.take n) (us.take n)
 | _,_,0,_=>.nil
 | _,_,_+1,.nil=>.nil
 | _,_,n+1,.cons r t=>.cons r (aA.take n t)
theorem aA.drop:∀ {xs:List V}{us:List Value} (n:Nat),aA xs us→aA (xs.drop n) (us.drop n)
 | _,_,0,r=>r
 | _,_,_+1,.nil=>.nil
 | _,_,n+1,.cons _ t=>aA.drop n t
noncomputable def xi:Option V→Option Value→Prop
 | some v,some u=>aY v u
 | none,none=>True
 | _,_=>False
noncomputable def KV {κ:Type}:List (κ×V)→List (κ×Value)→Prop:=Paired fun (p:κ×V) (q:κ×Value)=>p.1=q.1∧aY p.2 q.2
noncomputable def kV:Key→V
 | .inl i=>.int i
 | .inr x=>.str x
inductive HO where
 | lst (xs:List V)
 | tup (xs:List V)
 | dK (kvs:List (Key×V))|dT (kvs:List (List Key×V))
 | set (S:Int→Bool) (n:Nat)
 | ins (C dx:Addr) (fs:List (Str×V))
 | own (x:Addr)
 | xd (fs:List (Str×V))
 | met (f x:Addr)
 | rng (lo hi:Int)
 | frz (o:Obj) (u:HO)
 | tbl (q:Str)
 | ext (φ:Heap→Prop)
noncomputable abbrev Hp:=Addr→Option HO
noncomputable def Fix:HO→Prop
 | .tup _=>True
 | .frz _ _=>True
 | _=>False
noncomputable def sK (H:Hp) (h:Heap) (a:Addr) (q:Str):Prop:=∃ ps:Array Value,h.get? a=some { cls:=.none,data:=.fields ps }∧TriplesOk ps.toList ∧
 ∀ pos cv,codeAmong pos ps.toList=some cv→∃ c oc u vs t,cv=.ref c∧H c=some (.frz oc u)∧oc.data=.fields vs∧vs[1]? = some (.str q t)
noncomputable def upd (H:Hp) (a:Addr) (o:HO):Hp:=fun b=>if b=a then some o else H b
theorem aC {H:Hp}{a:Addr}{o:HO}:upd H a o a=some o:=by unfold upd;rw[if_pos rfl]
theorem ag {H:Hp}{a b:Addr}{o:HO} (h:b≠a):upd H a o b=H b:=by unfold upd;rw[if_neg h]
theorem ak {H:Hp}{a b:Addr}{o:HO} (h:H a=some o) (h':H b=none):a≠b:=by
 intro e;subst e;rw[h] at h';cases h'
noncomputable def mZ (h:Heap) (a:Addr) (its:Array Value):Prop:=∃ o,h.get? a=some o∧o.cls=.type "tuple" ∧ (∃ n,o.data=.seq its n)∧o.dict=none
theorem mZ.is {h:Heap}{a:Addr}{its:Array Value} (p:mZ h a its):IsTup h a its:=let ⟨o,e,c,n,_⟩:=p;⟨o,e,c,n⟩
theorem mZ.lt {h:Heap}{a:Addr}{its:Array Value} (p:mZ h a its):a<h.objs.size:=p.is.lt
theorem mZ.new (h:Heap) (items:Array Value):mZ (h.push { cls:=.type "tuple",data:=.seq items }) h.objs.size items:=⟨_,yp _ rfl,rfl,⟨_,rfl⟩,rfl⟩
section
variable (P:Program) (w:World)
noncomputable def cB (H:Hp) (h:Heap) (a:Addr):HO→Prop
 | .lst xs=>xs.length≤sizeLine∧∃ (its:List Value) (n:Nat),aA xs its∧h.get? a=some { cls:=.type "list",data:=.seq its.toArray n }
 | .tup xs=>xs.length≤sizeLine∧∃ its:List Value,aA xs its∧mZ h a its.toArray
 | .dK kvs=>kvs.length≤sizeLine∧(a==sysModules)=false∧∃ vs,KV kvs vs∧h.DictOf (lO P w) a vs
 | .dT kvs=>kvs.length≤sizeLine∧(a==sysModules)=false∧∃ xs:List (List Key×Addr×Value),
   Paired (fun (p:List Key×V) (q:List Key×Addr×Value)=>p.1=q.1∧H q.2.1=some (.tup (p.1.map kV))∧aY p.2 q.2.2) kvs xs ∧
   ∃ o es ep,h.get? a=some o∧o.ExactDict∧o.data=.dict es ep∧es.toList=xs.map (entryOfKey (tupleKind (lO P w)))∧(xs.map (·.1)).Nodup
 | .set S n=>h.SetOf (intKind P w) a S n
 | .ins C dx fs=>H dx=some (.own a)∧fs.length≤1000∧dx≠a∧h.get? a=some (PySem.W.instObj C dx) ∧
   ∃ mA,h.Ns1 dx mA∧(∀ f,xi (fs.lookup f) (mA f))∧PySem.Within mA (fs.map (·.1))
 | .own _=>∃ o,h.get? a=some o
 | .xd fs=>∃ mA,h.Ns1 a mA∧∀ f,xi (fs.lookup f) (mA f)
 | .rng lo hi=>∃ t u v,h.get? a=some { cls:=.type "range",data:=.fields #[.int lo t,.int hi u,.int 1 v] }
 | .frz o u=>h.get? a=some o∧cB H h a u
 | .tbl q=>sK H h a q
 | .met f x=>h.get? a=some (PySem.W.methodObj (.ref f) (.ref x))
 | .ext φ=>φ h∧(∃ o,h.get? a=some o)∧∀ h1 h2:Heap,φ h1→(∀ o,h1.get? a=some o→h2.get? a=some o)→φ h2
noncomputable def HOk (H:Hp) (h:Heap):Prop:=∀ a o,H a=some o→cB P w H h a o
end
section
variable {P:Program}{w:World}{H H':Hp}{h h':Heap}{a:Addr}{o:HO}
theorem cB.lt (x:cB P w H h a o):a<h.objs.size:=by
 cases o with
 | lst xs=>obtain⟨_,_,_,_,e⟩:=x;exact ym e
 | tup xs=>obtain⟨_,_,_,p⟩:=x;exact p.lt
 | dK kvs=>obtain⟨_,_,_,_,o,_,_,e,_⟩:=x;exact ym e
 | dT kvs=>obtain⟨_,_,_,_,o,_,_,e,_⟩:=x;exact ym e
 | set S n=>obtain⟨o,_,_,_,e,_⟩:=x;exact ym e
 | ins C dx fs=>obtain⟨_,_,_,e,_⟩:=x;exact ym e
 | own y=>obtain⟨_,e⟩:=x;exact ym e
 | xd fs=>obtain⟨_,⟨_,_,_,e,_⟩,_⟩:=x;exact ym e
 | rng lo hi=>obtain⟨_,_,_,e⟩:=x;exact ym e
 | frz ob u=>obtain⟨e,_⟩:=x;exact ym e
 | tbl q=>obtain⟨_,e,_⟩:=x;exact ym e
 | met f y=>exact ym (show h.get? a=some _ from x)
 | ext φ=>obtain⟨_,⟨_,e⟩,_⟩:=x;exact ym e
theorem Paired.mapP {α β:Type}{F G:α→β→Prop}:∀ {l₁:List α}{l₂:List β},Paired F l₁ l₂→(∀ a b,F a b→G a b)→Paired G l₁ l₂
 | _,_,.nil,_=>.nil
 | _,_,.cons r t,f=>.cons (f _ _ r) (Paired.mapP t f)
theorem cB.stay (x:cB P w H h a o) (k:∀ b u,(b=a∨H b=some (.own a))→h.get? b=some u→h'.get? b=some u)
  (ho:∀ b,H b=some (.own a)→H' b=some (.own a)) (ht:∀ b o,Fix o→H b=some o→H' b=some o):cB P w H' h' a o:=by
 induction o with
 | lst xs=>obtain⟨z,its,n,r,e⟩:=x;exact⟨z,its,n,r,k _ _ (.inl rfl) e⟩
 | tup xs=>obtain⟨z,its,r,ob,e,c⟩:=x;exact⟨z,its,r,ob,k _ _ (.inl rfl) e,c⟩
 | dK kvs=>obtain⟨z,y,vs,r,ob,es,ep,e,c⟩:=x;exact⟨z,y,vs,r,ob,es,ep,k _ _ (.inl rfl) e,c⟩
 | dT kvs =>
  obtain ⟨z,y,xs,r,ob,es,ep,e,c⟩:=x
  exact ⟨z,y,xs,Paired.mapP r fun p q z=>⟨z.1,ht _ _ trivial z.2.1,z.2.2⟩,ob,es,ep,k _ _ (.inl rfl) e,c⟩
 | set S n=>obtain⟨ob,es,ep,t,e,c⟩:=x;exact⟨ob,es,ep,t,k _ _ (.inl rfl) e,c⟩
 | ins C dx fs =>
  obtain ⟨d,z,ne,e,mA,⟨od,es,ep,e2,c⟩,r⟩:=x
  exact ⟨ho _ d,z,ne,k _ _ (.inl rfl) e,mA,⟨od,es,ep,k _ _ (.inr d) e2,c⟩,r⟩
 | own y=>obtain⟨ob,e⟩:=x;exact⟨ob,k _ _ (.inl rfl) e⟩
 | xd fs=>obtain⟨mA,⟨od,es,ep,e,c⟩,r⟩:=x;exact⟨mA,⟨od,es,ep,k _ _ (.inl rfl) e,c⟩,r⟩
 | rng lo hi=>obtain⟨t,u,v,e⟩:=x;exact⟨t,u,v,k _ _ (.inl rfl) e⟩
 | frz ob u ih=>obtain⟨e,q⟩:=x;exact⟨k _ _ (.inl rfl) e,ih q⟩
 | tbl q =>
  obtain ⟨ps,e,t,c⟩:=x
  exact ⟨ps,k a _ (.inl rfl) e,t,fun pos cv hcv=>let ⟨b,oc,u,vs,t,e1,e2,e3⟩:=c pos cv hcv;⟨b,oc,u,vs,t,e1,ht _ _ trivial e2,e3⟩⟩
 | met f y =>
  have e:h.get? a=some (PySem.W.methodObj (.ref f) (.ref y)):=x
  show h'.get? a=some (PySem.W.methodObj (.ref f) (.ref y))
  exact k a _ (.inl rfl) e
 | ext φ=>obtain⟨p,⟨o,e⟩,st⟩:=x;exact⟨st _ _ p fun o q=>k _ _ (.inl rfl) q,⟨o,k _ _ (.inl rfl) e⟩,st⟩
theorem HOk.lt (x:HOk P w H h) (e:H a=some o):a<h.objs.size:=(x a o e).lt
theorem HOk.fresh (x:HOk P w H h) (e:h.objs.size≤a):H a=none:=by
 cases q:H a with
 | none=>rfl
 | some u=>exact absurd (yi (x.lt q) e) (zd _)
theorem HOk.kept (x:HOk P w H h) (k:∀ b u,h.get? b=some u→h'.get? b=some u):HOk P w H h':=fun a o e =>
 (x a o e).stay (fun b u _ q=>k b u q) (fun _ q=>q) fun _ _ _ q=>q
theorem HOk.laid (x:HOk P w H h) (k:∀ b u,h.get? b=some u→h'.get? b=some u) (hp:h.objs.size≤a) (new:cB P w (upd H a o) h' a o):HOk P w (upd H a o) h':=fun b u e=>by
 have hn:=x.fresh hp
 by_cases hb:b=a
 ·subst hb;rw[aC] at e;cases e;exact new
 ·rw [ag hb] at e
  exact (x b u e).stay (fun c v _ q=>k c v q) (fun c q=>by rw[ag (ak q hn)];exact q) fun c xs _ q=>by rw[ag (ak q hn)];exact q
end
noncomputable def Rd (H:Hp) (a:Addr) (u:HO):Prop:=H a=some u∨∃ o,H a=some (.frz o u)
theorem Rd.of {H:Hp}{a:Addr}{u:HO} (h:H a=some u):Rd H a u:=.inl h
theorem Rd.ok {P:Program}{w:World}{H:Hp}{h:Heap}{a:Addr}{u:HO} (r:Rd H a u) (x:HOk P w H h):cB P w H h a u:=by
 rcases r with r|⟨o,r⟩
 ·exact x a u r
 ·obtain ⟨_,q⟩:=x a _ r
  exact q
noncomputable def Mut:Option HO→Prop
 | some (.lst _)=>True
 | some (.dK _)=>True
 | some (.dT _)=>True
 | some (.set _ _)=>True
 | some (.ins _ _ _)=>True
 | some (.ext _)=>True
 | _=>False
section
variable {P:Program}{w:World}{H:Hp}{h h':Heap}{x e:Addr}{o':HO}
theorem HOk.write (ok:HOk P w H h) (mu:Mut (H x)) (he:e=x∨H e=some (.own x)) (k:∀ b u,b≠e→h.get? b=some u→h'.get? b=some u) (heo:∃ u,h'.get? e=some u)
  (new:cB P w (upd H x o') h' x o'):HOk P w (upd H x o') h':=fun b u q=>by
 have nown:∀ c y,H c=some (.own y)→c≠x:=fun c y r z=>by subst z;rw[r] at mu;exact mu
 have ntup:∀ c o,Fix o→H c=some o→c≠x:=fun c o f r z=>by subst z;rw[r] at mu;cases o <;> first|exact mu|exact f
 by_cases hb:b=x
 ·subst hb;rw[aC] at q;cases q;exact new
 ·rw [ag hb] at q
  by_cases hbe:b=e
  ·have q':H b=some (.own x):=by
    rcases he with z|z
    ·exact absurd (hbe.trans z) hb
    ·rw [hbe];exact z
   rw [q] at q';cases q'
   obtain ⟨v,hv⟩:=heo
   exact ⟨v,by rw[hbe];exact hv⟩
  ·refine (ok b u q).stay (fun c v hc r=>k c v ?_ r) (fun c r=>by rw[ag (nown c b r)];exact r) fun c xs f r=>by rw[ag (ntup c xs f r)];exact r
   rcases hc with rfl|hc
   ·exact hbe
   ·rintro rfl
    rcases he with z|z
    ·exact nown c b hc z
    ·rw [hc] at z;cases z;exact hb rfl
end
structure Un (fs ex:List Addr) (H H':Hp) (h h':Heap):Prop where
 keep:∀ b o,h.get? b=some o→H b=none→b ∉ fs→b ∉ ex→h'.get? b=some o
 slot:∀ b o,h.get? b=some o→H b=none→b∈fs→b ∉ ex→∃ sl,h'.get? b=some { o with slots:=sl }
 free:∀ b o,h.get? b=some o→H b=none→b ∉ ex→H' b=none
 there:∀ b o,h.get? b=some o→b ∉ ex→∃ o',h'.get? b=some o'
 tups:∀ b xs,H b=some (.tup xs)→H' b=some (.tup xs)
 frzs:∀ b o u,H b=some (.frz o u)→H' b=some (.frz o u)
 tbls:∀ b q,H b=some (.tbl q)→H' b=some (.tbl q)
section
variable {fs fs' ex ex':List Addr}{H H1 H2:Hp}{h h1 h2 h':Heap}{a x e:Addr}{o:HO}
theorem Un.any (u:Un fs ex H H1 h h1) {b:Addr}{ob:Obj} (q:h.get? b=some ob) (n:H b=none) (hx:b ∉ ex):∃ sl,h1.get? b=some { ob with slots:=sl }:=by
 by_cases hb:b∈fs
 ·exact u.slot b ob q n hb hx
 ·exact ⟨ob.slots,u.keep b ob q n hb hx⟩
theorem Un.trans (a:Un fs ex H H1 h h1) (b:Un fs ex H1 H2 h1 h2):Un fs ex H H2 h h2 where
 keep:=fun c ob q n hc hx=>b.keep c ob (a.keep c ob q n hc hx) (a.free c ob q n hx) hc hx
 slot:=fun c ob q n hc hx=>by
  obtain ⟨sl,e1⟩:=a.slot c ob q n hc hx
  obtain ⟨sl',e2⟩:=b.slot c _ e1 (a.free c ob q n hx) hc hx
  exact ⟨sl',e2⟩
 free:=fun c ob q n hx=>by
  obtain ⟨o',e1⟩:=a.there c ob q hx
  exact b.free c o' e1 (a.free c ob q n hx) hx
 there:=fun c ob q hx=>by
  obtain ⟨o',e1⟩:=a.there c ob q hx
  exact b.there c o' e1 hx
 tups:=fun c xs q=>b.tups c xs (a.tups c xs q)
 frzs:=fun c ob xs q=>b.frzs c ob xs (a.frzs c ob xs q)
 tbls:=fun c ps q=>b.tbls c ps (a.tbls c ps q)
theorem Un.kept (k:∀ b u,h.get? b=some u→h'.get? b=some u):Un fs ex H H h h' :=
 ⟨fun b ob q _ _ _=>k b ob q,fun b ob q _ _ _=>⟨ob.slots,k b ob q⟩,fun _ _ _ n _=>n,fun b ob q _=>⟨ob,k b ob q⟩,fun _ _ q=>q,fun _ _ _ q=>q,fun _ _ q=>q⟩
theorem Un.refl:Un fs ex H H h h:=Un.kept fun _ _ q=>q
theorem Un.laid (k:∀ b u,h.get? b=some u→h'.get? b=some u) (hp:h.objs.size≤a) (hn:H a=none):Un fs ex H (upd H a o) h h' where
 keep:=fun b u q _ _ _=>k b u q
 slot:=fun b u q _ _ _=>⟨u.slots,k b u q⟩
 free:=fun b u q n _=>by rw[ag (yq (yi (ym q) hp))];exact n
 there:=fun b u q _=>⟨u,k b u q⟩
 tups:=fun b xs q=>by rw[ag (ak q hn)];exact q
 frzs:=fun b u xs q=>by rw[ag (ak q hn)];exact q
 tbls:=fun b ps q=>by rw[ag (ak q hn)];exact q
theorem Un.write (mu:Mut (H x)) (he:e=x∨H e=some (.own x)) (k:∀ b u,b≠e→h.get? b=some u→h'.get? b=some u) (heo:∃ u,h'.get? e=some u):Un fs ex H (upd H x o) h h':=by
 have hx:∀ b,H b=none→b≠x:=fun b n z=>by subst z;rw[n] at mu;exact mu
 have hb:∀ b,H b=none→b≠e:=fun b n z=>by
  subst z
  rcases he with r|r
  ·exact hx b n r
  ·rw [n] at r;cases r
 have hm:∀ b u,H b=some u→¬Mut (some u)→b≠x:=fun b u q nm z=>by subst z;rw[q] at mu;exact nm mu
 refine ⟨fun b u q n _ _=>k b u (hb b n) q,fun b u q n _ _=>⟨u.slots,k b u (hb b n) q⟩,fun b u q n _=>by rw[ag (hx b n)];exact n,fun b u q _=>?_,
  fun b xs q=>by rw[ag (hm b _ q fun z=>z)];exact q,fun b u xs q=>by rw[ag (hm b _ q fun z=>z)];exact q,fun b ps q=>by rw[ag (hm b _ q fun z=>z)];exact q⟩
 by_cases hbe:b=e
 ·subst hbe;exact heo
 ·exact ⟨u,k b u hbe q⟩
theorem Un.mono (u:Un fs ex H H1 h h1) (hs:∀ b∈fs,b∈fs') (hx:∀ b∈ex,b∈ex'):Un fs' ex' H H1 h h1 :=
 ⟨fun b ob q n hb he=>u.keep b ob q n (fun z=>hb (hs b z)) fun z=>he (hx b z),fun _ _ q n _ he=>u.any q n fun z=>he (hx _ z),fun b ob q n he=>u.free b ob q n fun z=>he (hx b z),fun b ob q he=>u.there b ob q fun z=>he (hx b z),u.tups,u.frzs,u.tbls⟩
end
noncomputable def trk (h:Heap) (H:Hp):List Addr:=(List.range h.objs.size).filter fun a=>(H a).isSome
noncomputable def mX (h:Heap) (H:Hp):Heap:=PySem.W.hideAll h (trk h H)
theorem lY (h:Heap) (H:Hp):(mX h H).objs.size=h.objs.size:=PySem.W.hideAll_size _ _
theorem oC {h:Heap}{H:Hp}{b:Addr}{o:Obj} (e:h.get? b=some o) (n:H b=none):(mX h H).get? b=some o :=
 PySem.W.hideAll_get _ e fun hm=>by
  have q:(H b).isSome=true:=(yY.mp hm).2
  rw [n] at q;simp at q
theorem rz {h:Heap}{H:Hp}{b:Addr}{o:Obj} (e:(mX h H).get? b=some o):h.get? b=some o∧H b=none:=by
 have e':h.get? b=some o:=PySem.W.of_hideAll (trk h H) e
 refine ⟨e',?_⟩
 cases q:H b with
 | none=>rfl
 | some x =>
  have hm:b∈trk h H:=yY.mpr ⟨List.mem_range.mpr (ym e'),by simp[q]⟩
  have z:(mX h H).get? b=none:=PySem.W.hideAll_none (trk h H) hm
  rw [z] at e;cases e
noncomputable def sJ (g h:Heap) (L:Addr):List (Addr×Obj):=(List.range h.objs.size).filterMap fun a=>if a=L∨(g.get? a).isSome=true then none else (h.get? a).map fun o=>(a,o)
noncomputable def bR (g h:Heap) (L d:Addr):List (Addr×Obj):=(sJ g h L).filter fun p=>decide (p.1≠d)
structure Mod (K:PySem.W.Frag) (mg:Str→Option Value) (base:Heap):Prop where
 kin:K.In base
 glob:base.Ns mainGlobals mg
 blt:∃ mb,base.Ns builtinsNs mb∧∀ x:Str,x ≠ "__name__" → mb x=bootBuiltins x
 nolimit:base.NoLimit
 bmain:∃ bm ob,mg "__builtins__" = some (.ref bm)∧bm≠builtinsNs∧base.get? bm=some ob∧ob.cls=.type "module" ∧ ob.dict=some builtinsNs∧ob.data=.plain
noncomputable def cy:List Str:=["choices", "full_rows", "chain_plan", "least_ranks"]
noncomputable def eL (K:PySem.W.Frag) (T:Addr) (q:Str):Prop:=∃ x∈cy,∃ f o fd c oc vs,PySem.W.nsIn K mainGlobals x=some (some (.ref f))∧K.lookup f=some o∧o.data=.func fd∧fd.code=.ref c ∧
 K.lookup c=some oc∧oc.data=.fields vs∧vs[11]? = some (.ref T)∧q=x ++ ".<locals>.<lambda>"
noncomputable def qo (K:PySem.W.Frag) (H:Hp):Prop:=∀ T q,eL K T q→H T=some (.tbl q)
structure Cx where
 prog:Program
 w : World
 K : PySem.W.Frag
 mg : Str→Option Value
 base:Heap
 A : Around
 N : List Str
 s₀ : Shared
 H₀ : Hp
 env:Env
 outer:List Env
 stack:List Env
 ex : List Addr
 fn : Str→Bool
 calm:Bool
 pn : List (Addr×Obj)
 xe : Value→Shared→Prop
noncomputable def frs (l:List Env):List Addr:=l.filterMap (·.frame)
noncomputable abbrev Cx.fs (X:Cx):List Addr:=frs X.outer
noncomputable def Vis (sc:Scope) (x:Str):Prop:=sc.names.lookup x=some .local∨sc.names.lookup x=some .cell∨sc.names.lookup x=some .free
noncomputable def Loc (sc:Scope) (x:Str):Prop:=sc.names.lookup x=some .local∨sc.names.lookup x=some .cell
noncomputable def xW (env:Env) (h:Heap) (m:Str→Option Value) (x:Str) (u:Value):Prop :=
 (env.kindOf x=some .local∧m x=some u)∨((env.kindOf x=some .cell∨env.kindOf x=some .free)∧∃ c,env.cells.lookup x=some c∧h.IsCell c (some u))
structure Cx.Ok (X:Cx):Prop where
 mod:Mod X.K X.mg X.base
 kind:X.env.scope.kind=.function
 glob:X.env.globals=mainGlobals
 blt:X.env.builtins=builtinsNs
 above:X.s₀.heap.objs.size≤X.env.locals
 inj:∀ x y c,X.env.cells.lookup x=some c→X.env.cells.lookup y=some c→x=y
 has:∀ x,(X.env.kindOf x=some .cell∨X.env.kindOf x=some .free)→∃ c,X.env.cells.lookup x=some c
 cab:∀ x c,X.fn x=true→X.env.cells.lookup x=some c→X.s₀.heap.objs.size≤c
 hd : X.calm=true→X.A.handled=none
 frames:X.A.frames=some X.stack
 stk:X.stack=X.outer∨(X.stack=X.env::X.outer∧X.env.frame=some X.env.locals)
 exf:∀ b∈X.ex,b≠X.env.locals∧∀ x c,X.env.cells.lookup x=some c→c≠b
 bs : ∀ b o,X.base.get? b=some o→X.s₀.heap.get? b=some o∧X.H₀ b=none
 bsz:X.base.objs.size≤X.s₀.heap.objs.size
 noex:∀ b o,X.base.get? b=some o→b ∉ X.ex
 exfs:∀ b∈X.ex,b ∉ X.fs
 funs:X.s₀.heap.FunFrames X.base X.outer
 frf:∀ b∈X.fs,X.H₀ b=none
 tab:qo X.K X.H₀
structure Inv (X:Cx) (pins:List (Addr×Obj)) (σ:List (Option V)) (H:Hp) (s:Shared):Prop where
 ok : X.Ok
 os : s.os=X.s₀.os
 bare:AllBare s.gens
 base:Un X.fs X.ex X.H₀ H X.s₀.heap s.heap
 loc:∃ m,s.heap.Ns X.env.locals m∧∀ (i:Nat) (x:Str) (v:V),X.N[i]? = some x→σ[i]? = some (some v)→Vis X.env.scope x→∃ u,aY v u∧xW X.env s.heap m x u
 cell:∀ x c,X.env.cells.lookup x=some c→∃ v,s.heap.IsCell c v
 free:H X.env.locals=none
 freeC:∀ x c,X.env.cells.lookup x=some c→H c=none
 pin:∀ p∈X.pn++pins,s.heap.get? p.1=some p.2∧H p.1=none∧p.1≠X.env.locals∧p.1 ∉ X.fs∧∀ v,p.2.data≠.cell v
 hok:HOk X.prog X.w H s.heap
 len:σ.length=X.N.length
section
variable {X:Cx}{pins:List (Addr×Obj)}{σ:List (Option V)}{H H':Hp}{s:Shared}{h':Heap}
theorem Cx.Ok.nofr (ok:X.Ok) {b:Addr}{o:Obj} (e:X.base.get? b=some o):b ∉ X.fs:=fun hb=>by
 have:=(ok.funs.mem hb).1
 rw [e] at this;cases this
theorem Inv.bs (I:Inv X pins σ H s):∀ b o,X.base.get? b=some o→s.heap.get? b=some o∧H b=none:=fun b o e =>
 ⟨I.base.keep b o (I.ok.bs b o e).1 (I.ok.bs b o e).2 (I.ok.nofr e) (I.ok.noex b o e),I.base.free b o (I.ok.bs b o e).1 (I.ok.bs b o e).2 (I.ok.noex b o e)⟩
theorem Inv.bk (I:Inv X pins σ H s):∀ b o,X.base.get? b=some o→s.heap.get? b=some o:=fun b o e=>(I.bs b o e).1
theorem Inv.mod (I:Inv X pins σ H s):Mod X.K X.mg X.base:=I.ok.mod
theorem Inv.kIn (I:Inv X pins σ H s):X.K.In s.heap:=I.ok.mod.kin.keeps I.bk
theorem Inv.nolimit (I:Inv X pins σ H s):s.heap.NoLimit:=I.ok.mod.nolimit.keeps I.bk
theorem Inv.fr (I:Inv X pins σ H s):∃ m,Fr X.base X.env.locals s.heap m :=
 let ⟨m,hn,_⟩:=I.loc
 ⟨m,hn,I.bk,yg I.ok.bsz I.ok.above⟩
theorem Inv.lt (I:Inv X pins σ H s):X.env.locals<s.heap.objs.size:=let ⟨_,hn,_⟩:=I.loc;hn.lt
theorem Inv.sz (I:Inv X pins σ H s):X.s₀.heap.objs.size≤s.heap.objs.size:=yg I.ok.above (Nat.le_of_lt I.lt)
theorem Inv.nofs (I:Inv X pins σ H s) {a:Addr} (h:s.heap.objs.size≤a):a ∉ X.fs:=fun hb=>by
 obtain ⟨_,o,ho,_⟩:=I.ok.funs.mem hb
 exact absurd (yi (ym ho) (yg I.sz h)) (zd _)
theorem Inv.cne (I:Inv X pins σ H s):∀ x c,X.env.cells.lookup x=some c→c≠X.env.locals:=fun x c e z=>by
 obtain ⟨v,o,ho,hd⟩:=I.cell x c e
 obtain ⟨m,⟨o',es,ep,ho',hd',_⟩,_⟩:=I.loc
 rw [z,ho'] at ho;cases ho;rw[hd'] at hd;cases hd
theorem Inv.funs (I:Inv X pins σ H s):s.heap.FunFrames X.base X.outer:=by
 have all:∀ (l:List Env),(∀ b∈frs l,b∈X.fs)→X.s₀.heap.FunFrames X.base l→s.heap.FunFrames X.base l:=by
  intro l
  induction l with
  | nil=>intro _ _;trivial
  | cons env r ih =>
   intro hs hl
   obtain ⟨hk,⟨L,o,hf,hn,ho,hd⟩,hr⟩:=hl
   have hL:L∈X.fs:=hs L (by unfold frs;rw[List.filterMap_cons,hf];exact ya)
   obtain ⟨sl,e⟩:=I.base.slot L o ho (I.ok.frf L hL) hL fun z=>I.ok.exfs L z hL
   exact ⟨hk,⟨L,_,hf,hn,e,hd⟩,ih (fun b hb=>hs b (by unfold frs;rw[List.filterMap_cons,hf];exact x9 _ hb)) hr⟩
 exact all X.outer (fun _ hb=>hb) I.ok.funs
theorem Inv.stack (I:Inv X pins σ H s):s.heap.FunFrames X.base X.stack:=by
 rcases I.ok.stk with e|⟨e,hf⟩
 ·rw [e];exact I.funs
 ·rw [e]
  obtain ⟨m,hn,_⟩:=I.loc
  refine .cons (by rw[I.ok.kind];decide) hf hn ?_ I.funs
  exact Heap.get?_none_of_le (yg I.ok.bsz I.ok.above)
theorem Inv.stkSub (I:Inv X pins σ H s):∀ b∈frs X.stack,b∈X.env.locals::X.fs:=fun b hb=>by
 rcases I.ok.stk with e|⟨e,hf⟩
 ·rw [e] at hb;exact x9 _ hb
 ·rw [e] at hb
  unfold frs at hb
  rw [List.filterMap_cons,hf] at hb
  exact hb
theorem Inv.stkFree (I:Inv X pins σ H s):∀ b∈frs X.stack,H b=none:=fun b hb=>by
 rcases ye.mp (I.stkSub b hb) with e|hb
 ·rw [e];exact I.free
 ·obtain ⟨_,o,ho,_⟩:=I.ok.funs.mem hb
  exact I.base.free b o ho (I.ok.frf b hb) fun z=>I.ok.exfs b z hb
theorem Inv.step {g':Array GenState}{t':Nat}{d':Drawn}{ch:List Addr} (I:Inv X pins σ H s)
  (hch:∀ b∈ch,(b∈X.ex∨X.s₀.heap.objs.size≤b)∧b≠X.env.locals∧(∀ x c,X.env.cells.lookup x=some c→c≠b)∧∀ p∈X.pn++pins,p.1≠b)
  (keep:∀ b o,b≠X.env.locals→b ∉ X.fs→b ∉ ch→s.heap.get? b=some o→H b=none→h'.get? b=some o)
  (slot:∀ b o,b≠X.env.locals→b∈X.fs→b ∉ ch→s.heap.get? b=some o→H b=none→∃ sl,h'.get? b=some { o with slots:=sl }) (free:∀ b o,b ∉ ch→s.heap.get? b=some o→H b=none→H' b=none)
  (there:∀ b o,b ∉ ch→s.heap.get? b=some o→∃ o',h'.get? b=some o')
  (tups:∀ b xs,H b=some (.tup xs)→H' b=some (.tup xs)) (frzs:∀ b o u,H b=some (.frz o u)→H' b=some (.frz o u)) (tbls:∀ b ps,H b=some (.tbl ps)→H' b=some (.tbl ps))
  (ns:∀ m,s.heap.Ns X.env.locals m→h'.Ns X.env.locals m) (hok:HOk X.prog X.w H' h') (hg:AllBare g') :
  Inv X pins σ H' { s with heap:=h',gens:=g',drawn:=d',toks:=t' }:=by
 have neL:∀ b o,X.s₀.heap.get? b=some o→b≠X.env.locals:=fun b o e=>yq (yi (ym e) I.ok.above)
 have neC:∀ b o,X.s₀.heap.get? b=some o→b ∉ X.ex→b ∉ ch:=fun b o e hx hb=>by
  rcases (hch b hb).1 with z|z
  ·exact hx z
  ·exact absurd (yi (ym e) z) (zd _)
 have cellK:∀ x c,X.env.cells.lookup x=some c→∀ v,s.heap.IsCell c v→h'.IsCell c v:=fun x c e v ⟨o,ho,hd⟩=>by
  have nch:c ∉ ch:=fun z=>(hch c z).2.2.1 x c e rfl
  by_cases hc:c∈X.fs
  ·obtain ⟨sl,q⟩:=slot c o (I.cne x c e) hc nch ho (I.freeC x c e)
   exact ⟨_,q,hd⟩
  ·exact ⟨o,keep c o (I.cne x c e) hc nch ho (I.freeC x c e),hd⟩
 refine ⟨I.ok,I.os,hg,⟨fun b o e n hb hx=>?_,fun b o e n hb hx=>?_,fun b o e n hx=>?_,fun b o e hx=>?_,fun b xs e=>tups b xs (I.base.tups b xs e),fun b o xs e=>frzs b o xs (I.base.frzs b o xs e),fun b ps e=>?_⟩,?_,fun x c e=>?_,?_,fun x c e=>?_,fun p hp=>?_,hok,I.len⟩
 ·exact keep b o (neL b o e) hb (neC b o e hx) (I.base.keep b o e n hb hx) (I.base.free b o e n hx)
 ·obtain ⟨sl,e1⟩:=I.base.slot b o e n hb hx
  obtain ⟨sl',e2⟩:=slot b _ (neL b o e) hb (neC b o e hx) e1 (I.base.free b o e n hx)
  exact ⟨sl',e2⟩
 ·obtain ⟨o',e1⟩:=I.base.there b o e hx
  exact free b o' (neC b o e hx) e1 (I.base.free b o e n hx)
 ·obtain ⟨o',e1⟩:=I.base.there b o e hx
  exact there b o' (neC b o e hx) e1
 ·exact tbls b ps (I.base.tbls b ps e)
 ·obtain ⟨m,hn,hl⟩:=I.loc
  refine ⟨m,ns m hn,fun i x v e1 e2 e3=>?_⟩
  obtain ⟨u,r,l⟩:=hl i x v e1 e2 e3
  refine ⟨u,r,?_⟩
  rcases l with l|⟨k,c,e,z⟩
  ·exact .inl l
  ·exact .inr ⟨k,c,e,cellK x c e _ z⟩
 ·obtain ⟨v,z⟩:=I.cell x c e
  exact ⟨v,cellK x c e v z⟩
 ·obtain ⟨m,⟨o,_,_,ho,_⟩,_⟩:=I.loc
  exact free _ o (fun z=>(hch _ z).2.1 rfl) ho I.free
 ·obtain ⟨v,o,ho,hd⟩:=I.cell x c e
  exact free c o (fun z=>(hch c z).2.2.1 x c e rfl) ho (I.freeC x c e)
 ·obtain ⟨e,n,ne,nf,d⟩:=I.pin p hp
  have nch:p.1 ∉ ch:=fun z=>(hch p.1 z).2.2.2 p hp rfl
  exact ⟨keep p.1 p.2 ne nf nch e n,free p.1 p.2 nch e n,ne,nf,d⟩
theorem Inv.un {t':Nat} (I:Inv X pins σ H s) (u:Un X.fs [] H H' s.heap h') (hok:HOk X.prog X.w H' h'):Inv X pins σ H' { s with heap:=h',toks:=t' }:=by
 obtain ⟨m,⟨o,es,ep,ho,r⟩,_⟩:=id I.loc
 obtain ⟨sl,hL⟩:=u.any ho I.free (by simp)
 exact I.step (g':=s.gens) (d':=s.drawn) (ch:=[]) (fun _ z=>nomatch z) (fun b o _ hb _ e n=>u.keep b o e n hb (by simp)) (fun b o _ hb _ e n=>u.slot b o e n hb (by simp)) (fun b o _ e n=>u.free b o e n (by simp)) (fun b o _ e=>u.there b o e (by simp)) u.tups u.frzs u.tbls (fun m' hm=>by
  obtain ⟨o',es',ep',ho',r'⟩:=hm
  rw [ho] at ho';cases ho'
  exact ⟨_,es',ep',hL,r'⟩) hok I.bare
theorem Inv.call {g':Array GenState}{t':Nat}{d':Drawn}{ch:List Addr} (I:Inv X pins σ H s) (u:Un (frs X.stack) ch H H' s.heap h') (hok:HOk X.prog X.w H' h') (hg:AllBare g')
  (hch:∀ b∈ch,(b∈X.ex∨X.s₀.heap.objs.size≤b)∧b≠X.env.locals∧(∀ x c,X.env.cells.lookup x=some c→c≠b)∧∀ p∈X.pn++pins,p.1≠b) :
  Inv X pins σ H' { s with heap:=h',gens:=g',drawn:=d',toks:=t' }:=by
 obtain ⟨m,⟨o,es,ep,ho,r⟩,_⟩:=id I.loc
 obtain ⟨sl,hL⟩:=u.any ho I.free fun z=>(hch _ z).2.1 rfl
 exact I.step (ch:=ch) hch (fun b o hL hb hc e n=>u.keep b o e n (fun z=>(ye.mp (I.stkSub b z)).elim hL hb) hc) (fun b o _ _ hc e n=>u.any e n hc) (fun b o hc e n=>u.free b o e n hc) (fun b o hc e=>u.there b o e hc) u.tups u.frzs u.tbls (fun m' hm=>by
  obtain ⟨o',es',ep',ho',r'⟩:=hm
  rw [ho] at ho';cases ho'
  exact ⟨_,es',ep',hL,r'⟩) hok hg
theorem Inv.turned {t':Nat}{it:Addr} (I:Inv X pins σ H s) (k:∀ b o,b≠it→s.heap.get? b=some o→h'.get? b=some o) (hn:H it=none) (hL:it≠X.env.locals)
  (h1:it∈X.ex∨X.s₀.heap.objs.size≤it) (h2:∀ x c,X.env.cells.lookup x=some c→c≠it) (h3:∀ p∈X.pn++pins,p.1≠it):Inv X pins σ H { s with heap:=h',toks:=t' }:=by
 have nit:∀ b u,H b=some u→b≠it:=fun b u e z=>by rw[z,hn] at e;cases e
 refine I.step (g':=s.gens) (d':=s.drawn) (ch:=[it]) (fun b hb=>?_) (fun b o _ _ hc e _=>k b o (fun z=>hc (by simp[z])) e) (fun b o _ _ hc e _=>⟨o.slots,k b o (fun z=>hc (by simp[z])) e⟩) (fun _ _ _ _ n=>n)
  (fun b o hc e=>⟨o,k b o (fun z=>hc (by simp[z])) e⟩) (fun _ _ e=>e) (fun _ _ _ e=>e) (fun _ _ e=>e) (fun m hm=>?_) (fun b u e=>?_) I.bare
 ·have e:b=it:=by simpa using hb
  subst e
  exact ⟨h1,hL,h2,h3⟩
 ·obtain ⟨o,es,ep,ho,r⟩:=hm
  exact ⟨o,es,ep,k _ o (Ne.symm hL) ho,r⟩
 ·refine (I.hok b u e).stay (fun c v hc q=>k c v ?_ q) (fun _ q=>q) fun _ _ _ q=>q
  rcases hc with z|z
  ·rw [z];exact nit b u e
  ·exact nit c _ z
theorem Inv.tok (I:Inv X pins σ H s) (t:Nat):Inv X pins σ H { s with toks:=t }:=I.un (h':=s.heap) (t':=t) Un.refl I.hok
theorem Inv.kept {t':Nat} (I:Inv X pins σ H s) (k:∀ b u,s.heap.get? b=some u→h'.get? b=some u):Inv X pins σ H { s with heap:=h',toks:=t' }:=I.un (Un.kept k) (I.hok.kept k)
theorem Inv.laid {a:Addr}{o:HO}{t':Nat} (I:Inv X pins σ H s) (k:∀ b u,s.heap.get? b=some u→h'.get? b=some u) (hp:s.heap.objs.size≤a) (new:cB X.prog X.w (upd H a o) h' a o) :
  Inv X pins σ (upd H a o) { s with heap:=h',toks:=t' }:=I.un (Un.laid k hp (I.hok.fresh hp)) (I.hok.laid k hp new)
theorem Inv.write {x e:Addr}{o:HO}{t':Nat} (I:Inv X pins σ H s) (mu:Mut (H x)) (he:e=x∨H e=some (.own x)) (k:∀ b u,b≠e→s.heap.get? b=some u→h'.get? b=some u) (heo:∃ u,h'.get? e=some u)
  (new:cB X.prog X.w (upd H x o) h' x o):Inv X pins σ (upd H x o) { s with heap:=h',toks:=t' }:=I.un (Un.write mu he k heo) (I.hok.write mu he k heo new)
theorem Inv.pins_of {pins':List (Addr×Obj)} (I:Inv X pins σ H s) (h:∀ p∈pins',s.heap.get? p.1=some p.2∧H p.1=none∧p.1≠X.env.locals∧p.1 ∉ X.fs∧∀ v,p.2.data≠.cell v):Inv X pins' σ H s :=
 ⟨I.ok,I.os,I.bare,I.base,I.loc,I.cell,I.free,I.freeC,fun p hp=>(x8.mp hp).elim (fun z=>I.pin p (x3 _ z)) (h p),I.hok,I.len⟩
theorem jv {N:List Str} (hN:N.Nodup) {i j:Nat}{x:Str} (a:N[i]? = some x) (b:N[j]? = some x):i=j:=by
 obtain ⟨h1,e1⟩:=yc.mp a
 obtain ⟨h2,e2⟩:=yc.mp b
 exact (List.getElem_inj hN).mp (e1.trans e2.symm)
theorem f7 {M:Model}{A:Around}{E:Value→Shared→Prop}{i:Nat}{x:Str}{v:V}{u:Value}{Q:Unit→Shared→Prop} (I:Inv X pins σ H s) (hN:X.N.Nodup) (hi:X.N[i]? = some x) (hx:Loc X.env.scope x) (r:aY v u)
  (h : ∀ s',Inv X pins (σ.set i (some v)) H s'→(∃ a,Heap.SameBut a s.heap s'.heap∧(a=X.env.locals∨X.env.cells.lookup x=some a))→Q () s') (hf:X.fn x=true∨X.env.scope.names.lookup x=some .local:=by first|exact .inl rfl|exact .inr rfl|assumption):wpAny M A (storeName X.env x u) Q E s:=by
 obtain ⟨m,hn,hl⟩:=id I.loc
 have hcls:(X.env.scope.kind==.class || (X.env.scope.kind==.module&&X.env.locals != X.env.globals))=false:=by rw[I.ok.kind];rfl
 have hiσ:i<σ.length:=by rw[I.len];exact (yc.mp hi).1
 have cne:=I.cne
 have tracked:∀ {a:Addr}{h':Heap},(∃ o,s.heap.get? a=some o∧H a=none)→Heap.SameBut a s.heap h'→HOk X.prog X.w H h':=fun {a h'} ha hs b ob e=>by
  obtain ⟨_,_,hfree⟩:=ha
  refine (I.hok b ob e).stay (fun c w' hc q=>(hs.2 c ?_).trans q) (fun _ q=>q) fun _ _ _ q=>q
  rintro rfl
  rcases hc with rfl|hc
  ·rw [hfree] at e;cases e
  ·rw [hfree] at hc;cases hc
 rcases hx with hk|hk
 ·refine wpAny_storeName_local hk hn (fun h' hn' hs=>?_) hcls
  obtain ⟨oL,_,_,hoL,_⟩:=id hn
  refine h _ ⟨I.ok,I.os,I.bare,⟨fun b o e n hb hx=>?_,fun b o e n hb hx=>?_,I.base.free,fun b o e hx=>?_,I.base.tups,I.base.frzs,I.base.tbls⟩,⟨_,hn',fun j y v' e1 e2 e3=>?_⟩,fun y c e=>?_,I.free,I.freeC,fun p hp=>?_,tracked ⟨oL,hoL,I.free⟩ hs,by simpa using I.len⟩ ⟨_,hs,.inl rfl⟩
  ·exact (hs.2 b (yq (yi (ym e) I.ok.above))).trans (I.base.keep b o e n hb hx)
  ·obtain ⟨sl,e1⟩:=I.base.slot b o e n hb hx
   exact ⟨sl,(hs.2 b (yq (yi (ym e) I.ok.above))).trans e1⟩
  ·obtain ⟨o',e1⟩:=I.base.there b o e hx
   exact ⟨o',(hs.2 b (yq (yi (ym e) I.ok.above))).trans e1⟩
  ·by_cases hj:j=i
   ·subst hj
    rw [hi] at e1;cases e1
    rw [yk hiσ] at e2
    cases e2
    exact ⟨u,r,.inl ⟨hk,by simp⟩⟩
   ·rw [yj (Ne.symm hj)] at e2
    obtain ⟨u',r',q⟩:=hl j y v' e1 e2 e3
    refine ⟨u',r',?_⟩
    rcases q with ⟨k,e⟩|⟨k,c,e,z⟩
    ·refine .inl ⟨k,?_⟩
     have:y≠x:=fun e=>hj (jv hN e1 (e▸hi))
     simp [this,e]
    ·exact .inr ⟨k,c,e,z.sameBut hs (cne y c e)⟩
  ·obtain ⟨w',z⟩:=I.cell y c e
   exact ⟨w',z.sameBut hs (cne y c e)⟩
  ·obtain ⟨e,n,ne,nf,d⟩:=I.pin p hp
   exact ⟨(hs.2 p.1 ne).trans e,n,ne,nf,d⟩
 ·have hfn:X.fn x=true:=by
   rcases hf with z|z
   ·exact z
   ·rw [z] at hk;cases hk
  obtain ⟨c,hc⟩:=I.ok.has x (.inl hk)
  obtain ⟨w',z⟩:=I.cell x c hc
  refine wpAny_storeName_cell I.ok.kind hk hc z (fun h' hc' hs=>?_)
  obtain ⟨oc,hoc,hocd⟩:=id z
  refine h { s with heap:=h' } ⟨I.ok,I.os,I.bare,⟨fun b o e n hb hx=>?_,fun b o e n hb hx=>?_,I.base.free,fun b o e hx=>?_,I.base.tups,I.base.frzs,I.base.tbls⟩,⟨m,hn.sameBut hs (Ne.symm (cne x c hc)),fun j y v' e1 e2 e3=>?_⟩,fun y c' e=>?_,I.free,I.freeC,fun p hp=>?_,tracked ⟨oc,hoc,I.freeC x c hc⟩ hs,by simpa using I.len⟩ ⟨c,hs,.inr hc⟩
  ·exact (hs.2 b (yq (yi (ym e) (I.ok.cab x c hfn hc)))).trans (I.base.keep b o e n hb hx)
  ·obtain ⟨sl,e1⟩:=I.base.slot b o e n hb hx
   exact ⟨sl,(hs.2 b (yq (yi (ym e) (I.ok.cab x c hfn hc)))).trans e1⟩
  ·obtain ⟨o',e1⟩:=I.base.there b o e hx
   exact ⟨o',(hs.2 b (yq (yi (ym e) (I.ok.cab x c hfn hc)))).trans e1⟩
  ·by_cases hj:j=i
   ·subst hj
    rw [hi] at e1;cases e1
    rw [yk hiσ] at e2
    cases e2
    exact ⟨u,r,.inr ⟨.inl hk,c,hc,hc'⟩⟩
   ·rw [yj (Ne.symm hj)] at e2
    obtain ⟨u',r',q⟩:=hl j y v' e1 e2 e3
    refine ⟨u',r',?_⟩
    rcases q with q|⟨k,c',e,z'⟩
    ·exact .inl q
    ·refine .inr ⟨k,c',e,z'.sameBut hs ?_⟩
     rintro rfl
     exact hj (jv hN e1 (I.ok.inj _ _ _ e hc▸hi))
  ·by_cases hcc:c'=c
   ·subst hcc;exact⟨_,hc'⟩
   ·obtain ⟨w2,z2⟩:=I.cell y c' e
    exact ⟨w2,z2.sameBut hs hcc⟩
  ·obtain ⟨e,n,ne,nf,d⟩:=I.pin p hp
   refine ⟨(hs.2 p.1 ?_).trans e,n,ne,nf,d⟩
   intro q
   rw [q,hoc] at e
   have q':oc=p.2:=Option.some.inj e
   exact d w' (by rw[←q'];exact hocd)
theorem jf {M:Model}{A:Around}{E:Value→Shared→Prop}{i:Nat}{x:Str}{v:V}{u:Value}{Q:Unit→Shared→Prop} (I:Inv X pins σ H s) (hN:X.N.Nodup) (hi:X.N[i]? = some x) (hx:Loc X.env.scope x) (r:aY v u)
  (h : ∀ s',Inv X pins (σ.set i (some v)) H s'→Q () s') (hf:X.fn x=true∨X.env.scope.names.lookup x=some .local:=by first|exact .inl rfl|exact .inr rfl|assumption):wpAny M A (storeName X.env x u) Q E s :=
 f7 I hN hi hx r (fun s' I' _=>h s' I') hf
theorem Inv.call' {s':Shared}{ch:List Addr} (I:Inv X pins σ H s) (ho:s'.os=s.os) (u:Un (frs X.stack) ch H H' s.heap s'.heap) (hok:HOk X.prog X.w H' s'.heap) (hg:AllBare s'.gens)
  (hch:∀ b∈ch,(b∈X.ex∨X.s₀.heap.objs.size≤b)∧b≠X.env.locals∧(∀ x c,X.env.cells.lookup x=some c→c≠b)∧∀ p∈X.pn++pins,p.1≠b):Inv X pins σ H' s':=by
 obtain ⟨h',g',d',t',o'⟩:=s'
 have e:o'=s.os:=ho
 subst e
 exact I.call (g':=g') (t':=t') (d':=d') u hok hg hch
end
noncomputable abbrev XK:=Value→Option Addr→Hp→Prop
noncomputable abbrev St:=List (Option V)
noncomputable abbrev VK:=V→Hp→Prop
noncomputable abbrev TE:=St→Hp→VK→Prop
noncomputable abbrev TT:=St→Hp→(Bool→Hp→Prop)→Prop
noncomputable abbrev TA:=St→Hp→(List V→Hp→Prop)→Prop
structure qs where
 nx : St→Hp→Prop
 rt : VK
 bk : St→Hp→Prop:=fun _ _=>False
 ct : St→Hp→Prop:=fun _ _=>False
noncomputable abbrev TS:=qs→St→Hp→Prop
noncomputable def EP (X:Cx) (pins:List (Addr×Obj)) (σ:St) (Q:VK) (u:Value) (s':Shared):Prop:=∃ v H',Inv X pins σ H' s'∧aY v u∧Q v H'
noncomputable def TP (X:Cx) (pins:List (Addr×Obj)) (σ:St) (Q:Bool→Hp→Prop) (b:Bool) (s':Shared):Prop:=∃ H',Inv X pins σ H' s'∧Q b H'
noncomputable def AP (X:Cx) (pins:List (Addr×Obj)) (σ:St) (Q:List V→Hp→Prop) (us:List Value) (s':Shared):Prop:=∃ vs H',Inv X pins σ H' s'∧aA vs us∧Q vs H'
noncomputable def SP (X:Cx) (pins:List (Addr×Obj)) (D:qs) (f:Flow) (s':Shared):Prop :=
 match f with
 | .next=>∃ σ' H',Inv X pins σ' H' s'∧D.nx σ' H'
 | .brk=>∃ σ' H',Inv X pins σ' H' s'∧D.bk σ' H'
 | .cont=>∃ σ' H',Inv X pins σ' H' s'∧D.ct σ' H'
 | .ret u=>∃ v σ' H',Inv X pins σ' H' s'∧aY v u∧D.rt v H'
noncomputable def PE (X:Cx) (e:Expr) (t:TE):Prop :=
 ∀ (pins:List (Addr×Obj)) (s:Shared) (σ:St) (H:Hp) (Q:VK),Inv X pins σ H s→t σ H Q→wpAny (model X.prog X.w) X.A (eval e X.env) (EP X pins σ Q) X.xe s
noncomputable def PT (X:Cx) (e:Expr) (t:TT):Prop :=
 ∀ (pins:List (Addr×Obj)) (s:Shared) (σ:St) (H:Hp) (Q:Bool→Hp→Prop),Inv X pins σ H s→t σ H Q→wpAny (model X.prog X.w) X.A (isTrue e X.env (eval e X.env)) (TP X pins σ Q) X.xe s
noncomputable def PW (X:Cx) (e:Expr) (t:TT):Prop :=
 ∀ (whole:Sem Value) (pins:List (Addr×Obj)) (s:Shared) (σ:St) (H:Hp) (Q:Bool→Hp→Prop),Inv X pins σ H s→t σ H Q→wpAny (model X.prog X.w) X.A (isTrue e X.env whole) (TP X pins σ Q) X.xe s
theorem PW.pt {X:Cx}{e:Expr}{t:TT} (h:PW X e t):PT X e t:=h _
noncomputable def PA (X:Cx) (es:List Expr) (t:TA):Prop :=
 ∀ (pos:Pos) (pins:List (Addr×Obj)) (s:Shared) (σ:St) (H:Hp) (Q:List V→Hp→Prop),Inv X pins σ H s→t σ H Q→wpAny (model X.prog X.w) X.A (spliced (backTo pos (starEach es X.env))) (AP X pins σ Q) X.xe s
noncomputable def PS (X:Cx) (st:Stmt) (t:TS):Prop :=
 ∀ (pins:List (Addr×Obj)) (s:Shared) (σ:St) (H:Hp) (D:qs),Inv X pins σ H s→t D σ H→wpAny (model X.prog X.w) X.A (exec st X.env) (SP X pins D) X.xe s
noncomputable def PSs (X:Cx) (st:List Stmt) (t:TS):Prop :=
 ∀ (pins:List (Addr×Obj)) (s:Shared) (σ:St) (H:Hp) (D:qs),Inv X pins σ H s→t D σ H→wpAny (model X.prog X.w) X.A (execs st X.env) (SP X pins D) X.xe s
theorem thn {α:Type}{t:Sem α}{Q Q':α→Shared→Prop}{M:Model}{A:Around}{E:Value→Shared→Prop}{s:Shared} (h:wpAny M A t Q E s) (hQ:∀ a s,Q a s→Q' a s):wpAny M A t Q' E s:=wpAny_mono h hQ fun _ _ x=>x
section
variable {X:Cx}
noncomputable def vp (i:Nat):TE:=fun σ H Q=>∃ v,σ[i]? = some (some v)∧Q v H
noncomputable def tC (v:V):TE:=fun _ H Q=>Q v H
theorem cE {i:Nat}{x:Str}{pos:Pos} (hN:X.N[i]? = some x) (hv:Vis X.env.scope x) (hd:(x==("__debug__" : Str))=false:=by decide) (hcd:(x==("__classdict__" : Str))=false:=by decide):PE X (.Name x pos) (vp i):=by
 intro pins s σ H Q I h
 obtain ⟨v,e,h⟩:=h
 obtain ⟨m,hn,hl⟩:=I.loc
 obtain ⟨u,r,l⟩:=hl i x v hN e hv
 have fin:EP X pins σ Q u s:=⟨v,H,I,r,h⟩
 rcases l with ⟨hk,hm⟩|⟨hk,c,hc,hcell⟩
 ·exact wpAny_Name (wpAny_loadName_local I.ok.kind hk hn hm fin) hd
 ·rcases hk with hk|hk
  ·exact wpAny_Name (wpAny_loadName_cell I.ok.kind hk hc hcell fin) hd
  ·exact wpAny_Name (wpAny_loadName_free I.ok.kind hk hc hcell fin hcd) hd
theorem pD {i j pos}:PE X (.Constant (.int i) j pos) (tC (.int i)):=fun _ _ _ H _ I h=>wpAny_Constant_int ⟨.int i,H,I.tok _,⟨_,rfl⟩,h⟩
theorem v8 {b j pos}:PE X (.Constant (.bool b) j pos) (tC (.bl b)):=fun _ _ _ H _ I h=>Constant_bool ⟨.bl b,H,I,rfl,h⟩
noncomputable def Gl (X:Cx) (x:Str):Prop:=X.env.kindOf x=some .globalImplicit
theorem rG {E:Value→Shared→Prop}{pins:List (Addr×Obj)}{s:Shared}{σ:St}{H:Hp}{x:Str}{u:Value}{pos:Pos}{Q:Value→Shared→Prop} (I:Inv X pins σ H s) (hg:Gl X x) (hm:X.mg x=some u) (h:Q u s)
  (hd:(x==("__debug__" : Str))=false:=by decide):wpAny (model X.prog X.w) X.A (eval (.Name x pos) X.env) Q E s :=
 Calls.Name_function_global I.ok.kind hg (Calls.loadGlobal_global (by rw[I.ok.glob];exact I.mod.glob.keeps I.bk) hm h) hd
theorem fg {E:Value→Shared→Prop}{pins:List (Addr×Obj)}{s:Shared}{σ:St}{H:Hp}{x:Str}{u:Value}{pos:Pos}{Q:Value→Shared→Prop} (I:Inv X pins σ H s) (hg:Gl X x) (hm:X.mg x=none) (hv:bootBuiltins x=some u) (h:Q u s)
  (hn:x ≠ "__name__" := by decide) (hd:(x==("__debug__" : Str))=false:=by decide):wpAny (model X.prog X.w) X.A (eval (.Name x pos) X.env) Q E s:=by
 obtain ⟨mb,h1,h2⟩:=I.mod.blt
 exact Calls.Name_function_global I.ok.kind hg (Calls.loadGlobal_builtin (by rw[I.ok.glob];exact I.mod.glob.keeps I.bk) hm (by rw[I.ok.blt];exact h1.keeps I.bk) ((h2 x hn).trans hv) h) hd
theorem rm {x:Str}{v:V}{u:Value}{pos:Pos} (hg:Gl X x) (hm:X.mg x=none) (hv:bootBuiltins x=some u) (r:aY v u) (hn:x ≠ "__name__" := by decide) (hd:(x==("__debug__" : Str))=false:=by decide):PE X (.Name x pos) (tC v) :=
 fun _ _ _ H _ I h=>fg I hg hm hv ⟨v,H,I,r,h⟩ hn hd
variable {a b:Expr}{ta tb:TE}{pos:Pos}
noncomputable def tB (t:TE):TT:=fun σ H Q=>t σ H fun x H1=>∃ c,x=.bl c∧Q c H1
theorem tT {e:Expr}{t:TE} (h:PE X e t) (he:∀ whole,isTrue e X.env whole=(do let v ←whole;standAt e.pos;holding [v] (truthy v)):=by intro _;rfl):PT X e (tB t):=by
 intro pins s σ H Q I hw
 refine isTrue_plain (thn (h pins s σ H _ I hw) fun v s1 ⟨x,H1,I1,r1,q1⟩=>?_) (he _)
 obtain ⟨d,rfl,q⟩:=q1
 cases r1
 exact wpAny_truthy_bool ⟨H1,I1,q⟩
variable {tA tB':TT}{bR:List Expr}
noncomputable def xx (t u:TT):TT:=fun σ H Q=>t σ H fun c H1=>if c=true then u σ H1 Q else Q false H1
noncomputable def tOr (t u:TT):TT:=fun σ H Q=>t σ H fun c H1=>if c=true then Q true H1 else u σ H1 Q
noncomputable def xr (t:TT):TT:=fun σ H Q=>t σ H fun c H1=>Q (!c) H1
theorem qR (ha:PT X a tA):PW X (.BoolOp .And [a] pos) tA:=by
 intro wh pins s σ H Q I h
 refine isTrue_and (thn (ha pins s σ H Q I h) fun c s1 e=>?_)
 cases c with
 | true=>exact isTrue_and_nil e
 | false=>exact e
theorem tR (ha:PT X a tA):PW X (.BoolOp .Or [a] pos) tA:=by
 intro wh pins s σ H Q I h
 refine isTrue_or (thn (ha pins s σ H Q I h) fun c s1 e=>?_)
 cases c with
 | false=>exact isTrue_or_nil e
 | true=>exact e
theorem tS (ha:PT X a tA) (hb:PW X (.BoolOp .And (b::bR) pos) tB'):PW X (.BoolOp .And (a::b::bR) pos) (xx tA tB'):=by
 intro wh pins s σ H Q I h
 refine isTrue_and (thn (ha pins s σ H _ I h) fun c s1 ⟨H1,I1,q1⟩=>?_)
 cases c with
 | true=>exact hb wh pins s1 σ H1 Q I1 q1
 | false=>exact⟨H1,I1,q1⟩
theorem v3 (ha:PT X a tA) (hb:PW X (.BoolOp .Or (b::bR) pos) tB'):PW X (.BoolOp .Or (a::b::bR) pos) (tOr tA tB'):=by
 intro wh pins s σ H Q I h
 refine isTrue_or (thn (ha pins s σ H _ I h) fun c s1 ⟨H1,I1,q1⟩=>?_)
 cases c with
 | true=>exact⟨H1,I1,q1⟩
 | false=>exact hb wh pins s1 σ H1 Q I1 q1
theorem tU (ha:PT X a tA):PT X (.UnaryOp .Not a pos) (xr tA):=by
 intro pins s σ H Q I h
 exact isTrue_not (ha pins s σ H (fun c H1=>Q (!c) H1) I h)
noncomputable def vR (ta tb:TE):TE:=fun σ H Q=>ta σ H fun x H1=>∃ c,x=.bl c∧if c=true then tb σ H1 Q else Q (.bl false) H1
noncomputable def vP (ta:TE):TE:=fun σ H Q=>ta σ H fun x H1=>∃ c,x=.bl c∧Q (.bl (!c)) H1
theorem ub {op}{t:TE} (h:PE X a t):PE X (.BoolOp op [a] pos) t:=fun pins s σ H Q I hw=>BoolOp_one (h pins s σ H Q I hw)
theorem ue (ha:PE X a ta) (hb:PE X (.BoolOp .And (b::bR) pos) tb):PE X (.BoolOp .And (a::b::bR) pos) (vR ta tb):=by
 intro pins s σ H Q I h
 refine BoolOp_and (thn (ha pins s σ H _ I h) fun v s1 ⟨x,H1,I1,r1,q1⟩=>?_)
 obtain ⟨c,rfl,q1⟩:=q1
 cases r1
 refine wpAny_truthy_bool ?_
 cases c with
 | true=>exact hb pins s1 σ H1 Q I1 q1
 | false=>exact⟨.bl false,H1,I1,rfl,q1⟩
theorem uc (ha:PE X a ta):PE X (.UnaryOp .Not a pos) (vP ta):=by
 intro pins s σ H Q I h
 refine UnaryOp_ (thn (ha pins s σ H _ I h) fun v s1 ⟨x,H1,I1,r1,q1⟩=>?_)
 obtain ⟨c,rfl,q1⟩:=q1
 cases r1
 exact not_of (wpAny_truthy_bool ⟨.bl (!c),H1,I1,rfl,q1⟩)
noncomputable def tIf (t:TT) (ta tb:TE):TE:=fun σ H Q=>t σ H fun c H1=>if c=true then ta σ H1 Q else tb σ H1 Q
theorem nC {c:Expr} (hc:PT X c tA) (ha:PE X a ta) (hb:PE X b tb):PE X (.IfExp c a b pos) (tIf tA ta tb):=by
 intro pins s σ H Q I h
 refine wpAny_IfExp (thn (hc pins s σ H _ I h) fun d s1 ⟨H1,I1,q1⟩=>?_)
 cases d with
 | true=>exact ha pins s1 σ H1 Q I1 q1
 | false=>exact hb pins s1 σ H1 Q I1 q1
end
noncomputable def SqL (K:PySem.W.Frag) (H:Hp) (a:Addr) (xs:List V):Prop :=
 Rd H a (.lst xs) ∨
  ∃ (o:Obj) (its:Array Value) (n:Nat),K.lookup a=some o∧o.cls=.type "list" ∧ o.dict=none∧o.data=.seq its n∧its.size≤sizeLine∧aA xs its.toList
noncomputable def SqT (K:PySem.W.Frag) (H:Hp) (a:Addr) (xs:List V):Prop :=
 Rd H a (.tup xs) ∨
  ∃ (o:Obj) (its:Array Value) (n:Nat),K.lookup a=some o∧(o.cls=.type "tuple" ∧ o.dict=none)∧o.data=.seq its n∧its.size≤sizeLine∧aA xs its.toList
noncomputable def xU:Value→Option V
 | .none=>some .non
 | .bool b=>some (.bl b)
 | .int i _=>some (.int i)
 | .str x _=>some (.str x)
 | .bytes b _=>some (.byt b)
 | .float b _=>some (.flt b)
 | .ref a=>some (.ref a)
 | .type n=>some (.ty n)
 | _=>none
theorem aY.abs {x:V}{u:Value} (r:aY x u):xU u=some x:=by
 cases x with
 | non=>cases r;rfl
 | bl _=>cases r;rfl
 | int _=>obtain⟨t,rfl⟩:=r;rfl
 | str _=>obtain⟨t,rfl⟩:=r;rfl
 | byt _=>obtain⟨t,rfl⟩:=r;rfl
 | flt _=>obtain⟨t,rfl⟩:=r;rfl
 | ref _=>cases r;rfl
 | ty _=>cases r;rfl
theorem aY.inj {x y:V}{u:Value} (r:aY x u) (q:aY y u):x=y:=Option.some.inj (r.abs.symm.trans q.abs)
theorem aA.inj {xs ys:List V}{us:List Value} (h:aA xs us):aA ys us→xs=ys:=by
 induction h generalizing ys with
 | nil =>
  intro q
  cases q
  rfl
 | cons r t ih =>
  intro q
  cases q with
  | cons r' t'=>rw[r.inj r',ih t']
section
variable {X:Cx}{pins:List (Addr×Obj)}{σ:St}{H:Hp}{s:Shared}{a:Addr}{xs ys:List V}
theorem SqL.of {K:PySem.W.Frag} (h:H a=some (.lst xs)):SqL K H a xs:=.inl (.inl h)
theorem SqT.of {K:PySem.W.Frag} (h:H a=some (.tup xs)):SqT K H a xs:=.inl (.inl h)
theorem Inv.list (I:Inv X pins σ H s) (h:SqL X.K H a xs):∃ its:List Value,aA xs its∧PlainL s.heap a its.toArray∧xs.length≤sizeLine:=by
 rcases h with h|⟨o,its,n,hk,hc,hd,hs,hz,r⟩
 ·obtain ⟨z,its,n,r,e⟩:=h.ok I.hok
  exact ⟨its,r,⟨_,n,e,rfl,rfl,rfl⟩,z⟩
 ·refine ⟨its.toList,r,⟨o,n,I.kIn a o hk,hc,hd,by simpa using hs⟩,?_⟩
  have e:=r.length
  simp only [Array.length_toList] at e
  omega
theorem Inv.tuple (I:Inv X pins σ H s) (h:SqT X.K H a xs):∃ its:List Value,aA xs its∧IsTup s.heap a its.toArray∧xs.length≤sizeLine:=by
 rcases h with h|⟨o,its,n,hk,hc,hs,hz,r⟩
 ·obtain ⟨z,its,r,p⟩:=h.ok I.hok
  exact ⟨its,r,p.is,z⟩
 ·refine ⟨its.toList,r,⟨o,I.kIn a o hk,hc.1,n,by simpa using hs⟩,?_⟩
  have e:=r.length
  simp only [Array.length_toList] at e
  omega
theorem Inv.tupleN (I:Inv X pins σ H s) (h:SqT X.K H a xs):∃ its:List Value,aA xs its∧mZ s.heap a its.toArray:=by
 rcases h with h|⟨o,its,n,hk,hc,hs,hz,r⟩
 ·obtain ⟨z,its,r,p⟩:=h.ok I.hok
  exact ⟨its,r,p⟩
 ·exact ⟨its.toList,r,⟨o,I.kIn a o hk,hc.1,⟨n,by simpa using hs⟩,hc.2⟩⟩
theorem Inv.list_inj (I:Inv X pins σ H s) (h:SqL X.K H a xs) (h':SqL X.K H a ys):xs=ys:=by
 obtain ⟨its,r,⟨o,n,e,_,_,d⟩,_⟩:=I.list h
 obtain ⟨its',r',⟨o',n',e',_,_,d'⟩,_⟩:=I.list h'
 rw [e] at e';cases e'
 rw [d] at d'
 injection d' with d1 _
 have:its=its':=by simpa using congrArg Array.toList d1
 subst this
 exact r.inj r'
theorem Inv.tuple_inj (I:Inv X pins σ H s) (h:SqT X.K H a xs) (h':SqT X.K H a ys):xs=ys:=by
 obtain ⟨its,r,⟨o,e,_,n,d⟩,_⟩:=I.tuple h
 obtain ⟨its',r',⟨o',e',_,n',d'⟩,_⟩:=I.tuple h'
 rw [e] at e';cases e'
 rw [d] at d'
 injection d' with d1 _
 have:its=its':=by simpa using congrArg Array.toList d1
 subst this
 exact r.inj r'
end
noncomputable abbrev Cx.wish (X:Cx) (E:Value→Shared→Prop):Cx:={ X with xe:=E }
noncomputable abbrev Cx.nox (X:Cx):Cx:=X.wish fun _ _=>False
theorem Cx.Ok.wish {X:Cx} (ok:X.Ok) (E:Value→Shared→Prop):(X.wish E).Ok :=
 ⟨ok.mod,ok.kind,ok.glob,ok.blt,ok.above,ok.inj,ok.has,ok.cab,ok.hd,ok.frames,ok.stk,ok.exf,ok.bs,ok.bsz,ok.noex,ok.exfs,ok.funs,ok.frf,ok.tab⟩
theorem Cx.Ok.unwish {X:Cx}{E:Value→Shared→Prop} (ok:(X.wish E).Ok):X.Ok :=
 ⟨ok.mod,ok.kind,ok.glob,ok.blt,ok.above,ok.inj,ok.has,ok.cab,ok.hd,ok.frames,ok.stk,ok.exf,ok.bs,ok.bsz,ok.noex,ok.exfs,ok.funs,ok.frf,ok.tab⟩
section
variable {X:Cx}{pins:List (Addr×Obj)}{σ:St}{H:Hp}{s:Shared}{E:Value→Shared→Prop}
theorem Inv.wish (I:Inv X pins σ H s) (E:Value→Shared→Prop):Inv (X.wish E) pins σ H s:=⟨I.ok.wish E,I.os,I.bare,I.base,I.loc,I.cell,I.free,I.freeC,I.pin,I.hok,I.len⟩
theorem Inv.unwish (I:Inv (X.wish E) pins σ H s):Inv X pins σ H s:=⟨I.ok.unwish,I.os,I.bare,I.base,I.loc,I.cell,I.free,I.freeC,I.pin,I.hok,I.len⟩
theorem SP.unwish {D:qs}{f:Flow}{s':Shared} (h:SP (X.wish E) pins D f s'):SP X pins D f s':=by
 cases f with
 | next=>obtain⟨σ',H',I,q⟩:=h;exact⟨σ',H',I.unwish,q⟩
 | brk=>obtain⟨σ',H',I,q⟩:=h;exact⟨σ',H',I.unwish,q⟩
 | cont=>obtain⟨σ',H',I,q⟩:=h;exact⟨σ',H',I.unwish,q⟩
 | ret u=>obtain⟨v,σ',H',I,r,q⟩:=h;exact⟨v,σ',H',I.unwish,r,q⟩
theorem PE.nox {e:Expr}{t:TE} (h:PE X.nox e t):PE X e t:=fun pins s σ H Q I hw =>
 wpAny_mono (h pins s σ H Q (I.wish _) hw) (fun _ _ ⟨v,H',I',r,q⟩=>⟨v,H',I'.unwish,r,q⟩) fun _ _ z=>False.elim z
theorem PT.nox {e:Expr}{t:TT} (h:PT X.nox e t):PT X e t:=fun pins s σ H Q I hw =>
 wpAny_mono (h pins s σ H Q (I.wish _) hw) (fun _ _ ⟨H',I',q⟩=>⟨H',I'.unwish,q⟩) fun _ _ z=>False.elim z
theorem PSs.nox {st:List Stmt}{t:TS} (h:PSs X.nox st t):PSs X st t:=fun pins s σ H D I hw =>
 wpAny_mono (h pins s σ H D (I.wish _) hw) (fun _ _ q=>q.unwish) fun _ _ z=>False.elim z
end
section
variable {X:Cx}{st:Stmt}{bR:List Stmt}{t u:TS}{e:Expr}{te:TE}{pos:Pos}
noncomputable def vQ:TS:=fun D σ H=>D.nx σ H
noncomputable def xp (t u:TS):TS:=fun D σ H=>t { D with nx:=u D } σ H
theorem qT:PSs X [] vQ:=fun _ _ σ H _ I h=>wpAny_execs_nil ⟨σ,H,I,h⟩
theorem ny (h1:PS X st t) (h2:PSs X bR u):PSs X (st::bR) (xp t u):=by
 intro pins s σ H D I h
 refine wpAny_execs_cons (thn (h1 pins s σ H { D with nx:=u D } I h) fun f s1 q=>?_)
 cases f with
 | next =>
  obtain ⟨σ',H',I',q⟩:=q
  exact h2 pins s1 σ' H' D I' q
 | ret v=>exact q
 | brk=>exact q
 | cont=>exact q
theorem ly (h1:PS X st t):PSs X [st] t:=by
 intro pins s σ H D I h
 refine wpAny_execs_cons (thn (h1 pins s σ H D I h) fun f s1 q=>?_)
 cases f with
 | next=>exact wpAny_execs_nil q
 | ret v=>exact q
 | brk=>exact q
 | cont=>exact q
theorem Inv.quiet {pins:List (Addr×Obj)}{σ:St}{H:Hp}{s:Shared} (I:Inv X pins σ H s):interactive X.env=false:=by simp[interactive,I.ok.kind]
noncomputable def tu (te:TE):TS:=fun D σ H=>te σ H fun _ H1=>D.nx σ H1
theorem lz (he:PE X e te) (hs:swapsWith e none pos.line X.env=pure false:=by rfl):PS X (.Expr e pos) (tu te):=by
 intro pins s σ H D I h
 exact wpAny_Expr_any (thn (he pins s σ H _ I h) fun v s1 ⟨x,H1,I1,r1,q1⟩=>⟨σ,H1,I1,q1⟩) I.quiet hs
noncomputable def xq (te:TE):TS:=fun D σ H=>te σ H D.rt
theorem tW (he:PE X e te):PS X (.Return (some e) pos) (xq te):=by
 intro pins s σ H D I h
 exact wpAny_Return_some (thn (he pins s σ H _ I h) fun v s1 ⟨x,H1,I1,r1,q1⟩=>⟨x,σ,H1,I1,r1,q1⟩)
noncomputable def xu (c:TT) (t u:TS):TS:=fun D σ H=>c σ H fun b H1=>if b=true then t D σ H1 else u D σ H1
theorem v4 {c:Expr}{a b:List Stmt}{tc:TT} (hc:PT X c tc) (ha:PSs X a t) (hb:PSs X b u):PS X (.If c a b pos) (xu tc t u):=by
 intro pins s σ H D I h
 refine wpAny_If (thn (hc pins s σ H _ I h) fun d s1 ⟨H1,I1,q1⟩=>?_)
 cases d with
 | true=>exact ha pins s1 σ H1 D I1 q1
 | false=>exact hb pins s1 σ H1 D I1 q1
end
noncomputable abbrev TG:=V→St→Hp→(St→Hp→Prop)→Prop
noncomputable abbrev TGs:=List V→St→Hp→(St→Hp→Prop)→Prop
noncomputable def PG (X:Cx) (target:Expr) (t:TG):Prop :=
 ∀ (pins:List (Addr×Obj)) (s:Shared) (σ:St) (H:Hp) (v:V) (u:Value) (Q:St→Hp→Prop),Inv X pins σ H s→aY v u→t v σ H Q →
  wpAny (model X.prog X.w) X.A (assign target X.env u) (fun _ s'=>∃ σ' H',Inv X pins σ' H' s'∧Q σ' H') X.xe s
noncomputable def PGs (X:Cx) (ts:List Expr) (t:TGs):Prop :=
 ∀ (pins:List (Addr×Obj)) (s:Shared) (σ:St) (H:Hp) (vs:List V) (us:List Value) (Q:St→Hp→Prop),Inv X pins σ H s→aA vs us→t vs σ H Q →
  wpAny (model X.prog X.w) X.A (assignInOrder ((assignEach ts X.env).map (·.2)) us) (fun _ s'=>∃ σ' H',Inv X pins σ' H' s'∧Q σ' H') X.xe s
noncomputable abbrev wR:=V→V→V→Hp→(Hp→Prop)→Prop
noncomputable def xj (X:Cx) (t:wR):Prop :=
 ∀ (pins:List (Addr×Obj)) (s:Shared) (σ:St) (H:Hp) (o i v:V) (ov iv u:Value) (Q:Hp→Prop),Inv X pins σ H s→aY o ov→aY i iv→aY v u→t o i v H Q →
  wpAny (model X.prog X.w) X.A (setItem ov iv u) (fun _ s'=>∃ H',Inv X pins σ H' s'∧Q H') X.xe s
section
variable {X:Cx}{pos:Pos}
noncomputable def lZ (i:Nat):TG:=fun v σ H Q=>Q (σ.set i (some v)) H
theorem lE {i:Nat}{x:Str} (hN:X.N.Nodup) (hi:X.N[i]? = some x) (hx:Loc X.env.scope x) (hf:X.fn x=true∨X.env.scope.names.lookup x=some .local:=by first|exact .inl rfl|exact .inr rfl|assumption):PG X (.Name x pos) (lZ i):=by
 intro pins s σ H v u Q I r h
 exact wpAny_assign_Name (jf I hN hi hx r (fun s' I'=>⟨_,H,I',h⟩) hf)
noncomputable def xL:TGs:=fun vs σ H Q=>vs=[]∧Q σ H
noncomputable def wx (t:TG) (u:TGs):TGs:=fun vs σ H Q=>∃ v r,vs=v::r∧t v σ H fun σ' H'=>u r σ' H' Q
theorem q9:PGs X [] xL:=by
 intro pins s σ H vs us Q I r h
 obtain ⟨e,h⟩:=h
 subst e
 cases r
 exact assignInOrder_nil ⟨σ,H,I,h⟩
theorem nz {e:Expr}{es:List Expr}{t:TG}{u:TGs} (h1:PG X e t) (h2:PGs X es u)
  (hs:(assignEach (e::es) X.env).map (·.2)=assign e X.env::(assignEach es X.env).map (·.2):=by rfl):PGs X (e::es) (wx t u):=by
 intro pins s σ H vs us Q I r h
 obtain ⟨v,vr,e1,h⟩:=h
 subst e1
 cases r with
 | cons r rr =>
  rw [hs]
  refine assignInOrder_cons (thn (h1 pins s σ H _ _ _ I r h) fun _ s1 ⟨σ1,H1,I1,q1⟩=>?_)
  exact h2 pins s1 σ1 H1 _ _ Q I1 rr q1
noncomputable def xg (K:PySem.W.Frag) (n:Nat) (t:TGs):TG:=fun v σ H Q=>∃ a xs,v=.ref a∧SqT K H a xs∧xs.length=n∧t xs σ H Q
theorem tZ {es:List Expr}{k:Nat}{t:TGs}{n:Nat} (hc:X.calm=true) (h:PGs X es t)
  (hn:(assignEach es X.env).length=n:=by rfl) (hst:(assignEach es X.env).findIdx? (·.1)=none:=by rfl):PG X (.Tuple es k pos) (xg X.K n t):=by
 intro pins s σ H v u Q I r hw
 obtain ⟨a,xs,e1,hq,hl,hw⟩:=hw
 subst e1
 cases r
 obtain ⟨its,rv,ht,hz⟩:=I.tuple hq
 refine assign_Tuple_tuple (I.ok.hd hc) ht (by simp[hn,←hl,rv.length]) hst fun h' hx=>?_
 have I1:Inv X pins σ H { s with heap:=h' }:=I.kept (t':=s.toks) fun b o e=>hx b o (yq (ym e)) e
 exact h pins _ σ H xs _ Q I1 (by simpa using rv) hw
noncomputable def xK (to ti:TE) (t:wR):TG:=fun v σ H Q=>to σ H fun o H1=>ti σ H1 fun i H2=>t o i v H2 fun H3=>Q σ H3
theorem t9 {o i:Expr}{to ti:TE}{t:wR} (ho:PE X o to) (hi:PE X i ti) (hs:xj X t)
  (ha:∀ v,assign (.Subscript o i pos) X.env v=(do
   let ov ←holding [v] (eval o X.env)
   let iv ←holding [v,ov] (eval i X.env)
   standAt pos
   holding [v,ov,iv] (setItem ov iv v)
   release [v,ov,iv] []):=by intro _;rfl):PG X (.Subscript o i pos) (xK to ti t):=by
 intro pins s σ H v u Q I r h
 rw [ha]
 refine wpAny_bind (wpAny_holding (thn (ho pins s σ H _ I h) fun ov s1 ⟨x,H1,I1,r1,q1⟩=>?_))
 refine wpAny_bind (wpAny_holding (thn (hi pins s1 σ H1 _ I1 q1) fun iv s2 ⟨y,H2,I2,r2,q2⟩=>?_))
 refine wpAny_bind (wpAny_standAt (wpAny_bind (wpAny_holding (thn (hs pins s2 σ H2 x y v ov iv u _ I2 r1 r2 r q2) fun _ s3 ⟨H3,I3,q3⟩=>?_))))
 exact wpAny_release ⟨σ,H3,I3,q3⟩
noncomputable def vq (te:TE) (g:TG):TS:=fun D σ H=>te σ H fun x H1=>g x σ H1 D.nx
theorem tX {tg e:Expr}{te:TE}{g:TG} (he:PE X e te) (hg:PG X tg g) (hs:swapsWithSole [tg] e pos.line X.env=pure false:=by rfl) (hw:swappedStores [tg] e X.env=pure none:=by rfl)
  (h1:(assignEach [tg] X.env).map (·.2)=[assign tg X.env]:=by rfl):PS X (.Assign [tg] e pos) (vq te g):=by
 intro pins s σ H D I h
 refine wpAny_Assign_stores (thn (he pins s σ H _ I h) fun v s1 ⟨x,H1,I1,r1,q1⟩=>?_) hs hw
 rw [h1]
 exact thn (hg pins s1 σ H1 x v _ I1 r1 q1) fun _ s2 q=>q
theorem tV {i:Nat}{x:Str}{e:Expr}{te:TE}{pos':Pos} (hN:X.N.Nodup) (hi:X.N[i]? = some x) (hx:Loc X.env.scope x) (he:PE X e te) (hs:swapsWith e (some (.Name x pos')) pos.line X.env=pure false:=by rfl) (hf:X.fn x=true∨X.env.scope.names.lookup x=some .local:=by first|exact .inl rfl|exact .inr rfl|assumption) :
  PS X (.Assign [.Name x pos'] e pos) (vq te (lZ i)):=by
 intro pins s σ H D I h
 refine wpAny_Assign_Name (thn (he pins s σ H _ I h) fun v s1 ⟨y,H1,I1,r1,q1⟩=>?_) hs
 exact jf I1 hN hi hx r1 (fun s2 I2=>⟨_,H1,I2,q1⟩) hf
end
section
variable {X:Cx}{pos:Pos}
end
structure It where
 go : Nat→Hp→Prop
 yld:Nat→Hp→V→Hp→Prop
 stop:Nat→Hp→Prop
noncomputable def eN (X:Cx) (pins:List (Addr×Obj)) (H:Hp) (b:Addr):Prop :=
 H b=none∧b≠X.env.locals∧b ∉ X.fs∧(b∈X.ex∨X.s₀.heap.objs.size≤b)∧(∀ x c,X.env.cells.lookup x=some c→c≠b)∧∀ p∈X.pn++pins,p.1≠b
theorem Inv.fpOk {X:Cx}{pins:List (Addr×Obj)}{σ:St}{H H':Hp}{s:Shared}{b:Addr} (I:Inv X pins σ H s) (hb:s.heap.objs.size≤b) (hn:H' b=none):eN X pins H' b:=by
 refine ⟨hn,zb (yi I.lt hb),I.nofs hb,.inr (yg I.sz hb),fun x c e z=>?_,fun p hp z=>?_⟩
 ·obtain ⟨v,q⟩:=I.cell x c e
  exact absurd (yi q.lt (by rw[z];exact hb)) (zd _)
 ·exact absurd (yi (ym (I.pin p hp).1) (by rw[z];exact hb)) (zd _)
structure sR (P:Program) (w:World) (K:PySem.W.Frag) (tg:Expr) (J:It) (fp:List Addr) (it:Addr) (tn:Nat→Heap→Prop):Prop where
 mem:it∈fp
 obj:∀ i h,tn i h→∀ b∈fp,∃ o,h.get? b=some o∧∀ v,o.data≠.cell v
 keep:∀ i h h',tn i h→(∀ b∈fp,∀ o,h.get? b=some o→h'.get? b=some o)→tn i h'
 item:∀ (X:Cx),X.prog=P→X.w=w→X.K=K→X.calm=true→∀ (i:Nat) (pins:List (Addr×Obj)) (s:Shared) (σ:St) (H:Hp) (E:Value→Shared→Prop),Inv X pins σ H s→(∀ b∈fp,eN X pins H b)→tn i s.heap→J.go i H →
  wpAny (model P w) X.A (pyNext (.ref it)) (fun r s1=>∃ u,r=some u ∧
   wpAny (model P w) X.A (letOwnedTupleGo tg (.ref it) u) (fun _ s2=>∃ x H',Inv X pins σ H' s2∧aY x u∧J.yld i H x H'∧tn (i+1) s2.heap∧∀ b∈fp,H' b=none) E s1) E s
 done:∀ (X:Cx),X.prog=P→X.w=w→X.K=K→X.calm=true→∀ (i:Nat) (pins:List (Addr×Obj)) (s:Shared) (σ:St) (H:Hp) (E:Value→Shared→Prop),Inv X pins σ H s→(∀ b∈fp,eN X pins H b)→tn i s.heap→J.stop i H →
  wpAny (model P w) X.A (pyNext (.ref it)) (fun r s1=>r=none∧Inv X pins σ H s1) E s
 self:∀ (A:Around) (i:Nat) (s:Shared) (Q:Value→Shared→Prop) (E:Value→Shared→Prop),tn i s.heap→Q (.ref it) s→wpAny (model P w) A (pyIter (.ref it)) Q E s
noncomputable abbrev TI:=St→Hp→(It→Hp→Prop)→Prop
noncomputable def PIE (X:Cx) (pins:List (Addr×Obj)) (σ:St) (tg:Expr) (R:It→Hp→Prop) (itv:Value) (s2:Shared):Prop :=
 ∃ (it:Addr) (fp:List Addr) (tn:Nat→Heap→Prop) (J:It) (H':Hp),itv=.ref it∧Inv X pins σ H' s2∧sR X.prog X.w X.K tg J fp it tn∧tn 0 s2.heap∧(∀ b∈fp,eN X pins H' b)∧R J H'
noncomputable def PI (X:Cx) (tg iter:Expr) (wi:TI):Prop :=
 ∀ (pins:List (Addr×Obj)) (s:Shared) (σ:St) (H:Hp) (R:It→Hp→Prop),Inv X pins σ H s→wi σ H R →
  wpAny (model X.prog X.w) X.A (eval iter X.env) (fun v s1=>wpAny (model X.prog X.w) X.A (pyIter v) (PIE X pins σ tg R) X.xe s1) X.xe s
theorem rW {M:Model}{A:Around}{E:Value→Shared→Prop}{s:Shared}{tg:Expr}{it:Addr}{u:Value}{o:Obj}{n:String}{vs:Array Value}{Q:Unit→Shared→Prop} (ho:s.heap.get? it=some o) (hc:o.cls=.type n) (hd:o.data=.fields vs)
    (hn:["enumerate", "zip", "dict_itemiterator", "dict_reverseitemiterator", "odict_iterator", "itertools.zip_longest", "itertools.pairwise"].contains n=false) (hQ:Q () s):wpAny M A (letOwnedTupleGo tg (.ref it) u) Q E s:=by
  unfold letOwnedTupleGo
  cases tg <;> first
    | exact wpAny_pure hQ
    | (cases u <;> first
        | exact wpAny_pure hQ
        | (refine wpAny_bind (wpAny_load ho ?_)
           rw [hc,hd]
           show wpAny M A (if (["enumerate", "zip", "dict_itemiterator", "dict_reverseitemiterator", "odict_iterator", "itertools.zip_longest", "itertools.pairwise"].contains n&&vs[0]?==some (rawInt _))=true then _ else _) Q E s
           rw [if_neg (by intro h;rw[hn,Bool.false_and] at h;cases h)]
           exact wpAny_pure hQ))
noncomputable def Itl (K:PySem.W.Frag) (a:Addr):It :=
 ⟨fun i H=>∃ xs x,SqL K H a xs∧xs[i]? = some x,fun i H x H'=>H'=H∧∀ xs,SqL K H a xs→xs[i]? = some x,fun i H=>∃ xs,SqL K H a xs∧xs.length≤i⟩
noncomputable def Itt (K:PySem.W.Frag) (a:Addr):It :=
 ⟨fun i H=>∃ xs x,SqT K H a xs∧xs[i]? = some x,fun i H x H'=>H'=H∧∀ xs,SqT K H a xs→xs[i]? = some x,fun i H=>∃ xs,SqT K H a xs∧xs.length≤i⟩
noncomputable def Itr (lo:Int) (n:Nat):It:=⟨fun i _=>i<n,fun i H x H'=>H'=H∧x=.int (lo+i),fun i _=>n≤i⟩
theorem kJ {P:Program}{w:World}{K:PySem.W.Frag}{tg:Expr} (a it:Addr):sR P w K tg (Itl K a) [it] it (fun i h=>h.IsListIter it a i) where
 mem:=by simp
 obj:=fun i h st b hb=>by
  have e:b=it:=by simpa using hb
  subst e
  obtain ⟨o,e,c,d⟩:=st
  exact ⟨o,e,fun v z=>by rw[d] at z;cases z⟩
 keep:=fun i h h' st k=>st.at fun o e=>k it (by simp) o e
 item:=by
  intro X hP hw hK hc i pins s σ H E I hf st hg
  subst hP hw hK
  obtain ⟨xs,x,hq,hx⟩:=hg
  obtain ⟨its,rv,p,hz⟩:=I.list hq
  obtain ⟨u,hu,ru⟩:=rv.get hx
  obtain ⟨f0,f1,f2,f3,f4,f5⟩:=hf it (by simp)
  refine wpAny_pyNext_list_item st p.isList (x:=u) (by simpa using hu) fun h' st' sb=>?_
  have I1:Inv X pins σ H { s with heap:=h' }:=I.turned (t':=s.toks) (fun b o hb e=>(sb.2 b hb).trans e) f0 f1 f3 f4 f5
  obtain ⟨o,e,c,d⟩:=id st'
  exact ⟨u,rfl,rW (s:={ s with heap:=h' }) e c d (by decide) ⟨x,H,I1,ru,⟨rfl,fun ys hy=>by rw[I.list_inj hy hq];exact hx⟩,st',fun b hb=>(hf b hb).1⟩⟩
 done:=by
  intro X hP hw hK hc i pins s σ H E I hf st hg
  subst hP hw hK
  obtain ⟨xs,hq,hx⟩:=hg
  obtain ⟨its,rv,p,hz⟩:=I.list hq
  obtain ⟨f0,f1,f2,f3,f4,f5⟩:=hf it (by simp)
  have hl:=rv.length
  exact wpAny_pyNext_list_end (I.ok.hd hc) st p.isList (by simp;omega) fun h' eb=>⟨rfl,I.turned (t':=s.toks) (fun b o hb e=>eb b o hb e) f0 f1 f3 f4 f5⟩
 self:=fun _ _ _ _ _ st h=>wpAny_pyIter_listiter st h
theorem j5 {P:Program}{w:World}{K:PySem.W.Frag}{tg:Expr} (a it:Addr):sR P w K tg (Itt K a) [it] it (fun i h=>h.IsTupleIter it a i) where
 mem:=by simp
 obj:=fun i h st b hb=>by
  have e:b=it:=by simpa using hb
  subst e
  obtain ⟨o,e,c,d⟩:=st
  exact ⟨o,e,fun v z=>by rw[d] at z;cases z⟩
 keep:=fun i h h' st k=>st.at fun o e=>k it (by simp) o e
 item:=by
  intro X hP hw hK hc i pins s σ H E I hf st hg
  subst hP hw hK
  obtain ⟨xs,x,hq,hx⟩:=hg
  obtain ⟨its,rv,p,hz⟩:=I.tuple hq
  obtain ⟨u,hu,ru⟩:=rv.get hx
  obtain ⟨f0,f1,f2,f3,f4,f5⟩:=hf it (by simp)
  refine wpAny_pyNext_tuple_item st (show s.heap.IsTuple a its.toArray from p) (x:=u) (by simpa using hu) fun h' st' sb=>?_
  have I1:Inv X pins σ H { s with heap:=h' }:=I.turned (t':=s.toks) (fun b o hb e=>(sb.2 b hb).trans e) f0 f1 f3 f4 f5
  obtain ⟨o,e,c,d⟩:=id st'
  exact ⟨u,rfl,rW (s:={ s with heap:=h' }) e c d (by decide) ⟨x,H,I1,ru,⟨rfl,fun ys hy=>by rw[I.tuple_inj hy hq];exact hx⟩,st',fun b hb=>(hf b hb).1⟩⟩
 done:=by
  intro X hP hw hK hc i pins s σ H E I hf st hg
  subst hP hw hK
  obtain ⟨xs,hq,hx⟩:=hg
  obtain ⟨its,rv,p,hz⟩:=I.tuple hq
  obtain ⟨f0,f1,f2,f3,f4,f5⟩:=hf it (by simp)
  have hl:=rv.length
  exact wpAny_pyNext_tuple_end (I.ok.hd hc) st (show s.heap.IsTuple a its.toArray from p) (by simp;omega) fun h' eb=>⟨rfl,I.turned (t':=s.toks) (fun b o hb e=>eb b o hb e) f0 f1 f3 f4 f5⟩
 self:=fun _ _ _ _ _ st h=>wpAny_pyIter_tupleiter st h
theorem j6 {P:Program}{w:World}{K:PySem.W.Frag}{tg:Expr} (it:Addr) (lo:Int) (n:Nat):sR P w K tg (Itr lo n) [it] it (fun i h=>IsRangeIter h it (lo+(i:Nat)*1) ((n:Int) - (i:Nat)) 1) where
 mem:=by simp
 obj := fun i h st b hb=>by
  have e:b=it:=by simpa using hb
  subst e
  exact ⟨_,st,fun v z=>by
   have z':Data.fields _=Data.cell v:=z
   cases z'⟩
 keep:=fun i h h' st k=>k it (by simp) _ st
 item:=by
  intro X hP hw hK hc i pins s σ H E I hf st hg
  subst hP hw hK
  obtain ⟨f0,f1,f2,f3,f4,f5⟩:=hf it (by simp)
  have W:=Walks.range (prog:=X.prog) (w:=X.w) (I.ok.hd hc) it lo 1 n
  refine W.item i s _ _ hg st fun v h' tk hv st' kk=>?_
  obtain ⟨t,rfl⟩:=hv
  have I1:Inv X pins σ H { s with heap:=h',toks:=tk }:=I.turned (fun b o hb e=>kk b o (by simpa using hb) e) f0 f1 f3 f4 f5
  refine ⟨_,rfl,rW (s:={ s with heap:=h',toks:=tk }) (n := "range_iterator") st' rfl rfl (by decide) ⟨.int (lo+i),H,I1,⟨t,?_⟩,⟨rfl,rfl⟩,st',fun b hb=>(hf b hb).1⟩⟩
  rw [Int.mul_one]
 done:=by
  intro X hP hw hK hc i pins s σ H E I hf st hg
  subst hP hw hK
  obtain ⟨f0,f1,f2,f3,f4,f5⟩:=hf it (by simp)
  exact wpAny_pyNext_range_end (I.ok.hd hc) st (by have:n≤i:=hg;omega) fun h' eb=>⟨rfl,I.turned (t':=s.toks) (fun b o hb e=>eb b o hb e) f0 f1 f3 f4 f5⟩
 self:=fun _ _ _ _ _ st h=>wpAny_pyIter_rangeiter st h
section
variable {X:Cx}{tg:Expr}
noncomputable def rT (K:PySem.W.Frag) (tl:TE):TI:=fun σ H R=>tl σ H fun x H1=>∃ a,x=.ref a∧(∃ xs,SqL K H1 a xs)∧R (Itl K a) H1
noncomputable def xf (K:PySem.W.Frag) (tl:TE):TI:=fun σ H R=>tl σ H fun x H1=>∃ a,x=.ref a∧(∃ xs,SqT K H1 a xs)∧R (Itt K a) H1
theorem qZ {l:Expr}{tl:TE} (hl:PE X l tl):PI X tg l (rT X.K tl):=by
 intro pins s σ H R I h
 refine thn (hl pins s σ H _ I h) fun v s1 ⟨x,H1,I1,r1,q1⟩=>?_
 obtain ⟨a,e,⟨xs,hq⟩,q⟩:=q1
 subst e
 cases r1
 obtain ⟨its,rv,p,hz⟩:=I1.list hq
 refine wpAny_pyIter_list p.isList ?_
 refine ⟨s1.heap.objs.size,[s1.heap.objs.size],_,_,H1,rfl,I1.kept (t':=s1.toks) fun b o e=>yf _ e,kJ a _,⟨_,yp _ rfl,rfl,rfl⟩,fun b hb=>?_,q⟩
 have e:b=s1.heap.objs.size:=by simpa using hb
 subst e
 exact I1.fpOk (yl _) (I1.hok.fresh (yl _))
theorem tY {l:Expr}{tl:TE} (hl:PE X l tl):PI X tg l (xf X.K tl):=by
 intro pins s σ H R I h
 refine thn (hl pins s σ H _ I h) fun v s1 ⟨x,H1,I1,r1,q1⟩=>?_
 obtain ⟨a,e,⟨xs,hq⟩,q⟩:=q1
 subst e
 cases r1
 obtain ⟨its,rv,p,hz⟩:=I1.tuple hq
 refine wpAny_pyIter_tuple (show s1.heap.IsTuple a its.toArray from p) ?_
 refine ⟨s1.heap.objs.size,[s1.heap.objs.size],_,_,H1,rfl,I1.kept (t':=s1.toks) fun b o e=>yf _ e,j5 a _,⟨_,yp _ rfl,rfl,rfl⟩,fun b hb=>?_,q⟩
 have e:b=s1.heap.objs.size:=by simpa using hb
 subst e
 exact I1.fpOk (yl _) (I1.hok.fresh (yl _))
theorem nq {pins:List (Addr×Obj)}{σ:St}{H:Hp}{s:Shared}{R:It→Hp→Prop}{E:Value→Shared→Prop}{lo hi:Int}{t u v:Tok}{tk:Nat} (I:Inv X pins σ H s) (h1:-(2 ^ 62)≤lo) (h2:lo<2 ^ 62) (h3:-(2 ^ 62)≤hi) (h4:hi<2 ^ 62)
  (q : R (Itr lo (hi - lo).toNat) H):wpAny (model X.prog X.w) X.A (pyIter (.ref s.heap.objs.size)) (PIE X pins σ tg R) E { s with heap:=s.heap.push { cls:=.type "range",data:=.fields #[.int lo t,.int hi u,.int 1 v] },toks:=tk }:=by
 refine wpAny_pyIter_range (IsRange.new ..) (small_one h1 h2 h3 h4) ?_
 have I1:Inv X pins σ H { s with heap:=s.heap.push { cls:=.type "range",data:=.fields #[.int lo t,.int hi u,.int 1 v] },toks:=tk }:=I.kept fun b o e=>yf _ e
 refine ⟨(s.heap.push { cls:=.type "range",data:=.fields #[.int lo t,.int hi u,.int 1 v] }).objs.size,[(s.heap.push { cls:=.type "range",data:=.fields #[.int lo t,.int hi u,.int 1 v] }).objs.size],_,_,H,rfl,
  I1.kept (t':=tk) fun b o e=>yf _ e,j6 _ lo (hi - lo).toNat,?_,fun b hb=>?_,q⟩
 ·have e1:lo+((0:Nat):Int)*1=lo:=by simp
  have e2:(((hi - lo).toNat:Nat):Int) - ((0:Nat):Int)=Builtin.Range.rangeSize lo hi 1:=by rw[rangeSize_one];split <;> omega
  show IsRangeIter _ _ (lo+((0:Nat):Int)*1) ((((hi - lo).toNat:Nat):Int) - ((0:Nat):Int)) 1
  rw [e1,e2]
  exact yp _ rfl
 ·have e:b=(s.heap.push { cls:=.type "range",data:=.fields #[.int lo t,.int hi u,.int 1 v] }).objs.size:=by simpa using hb
  subst e
  exact I1.fpOk (yl _) (I1.hok.fresh (yl _))
noncomputable def wv (ta:TA):TI:=fun σ H R=>ta σ H fun vs H1=>∃ j:Int,vs=[.int j]∧-(2 ^ 62)≤j∧j<2 ^ 62∧R (Itr 0 j.toNat) H1
theorem lD {a:Expr}{ta:TA}{p pos:Pos} (hg:Gl X "range") (hm:X.mg "range" = none) (ha:PA X [a] ta) (hs:starEach [a] X.env=[(false,eval a X.env)]:=by rfl):PI X tg (.Call (.Name "range" p) [a] [] pos) (wv ta):=by
 intro pins s σ H R I h
 refine Call_ (fg I hg hm boot_range (PyProof.Rows.callWith_type1 (thn (ha pos pins s σ H _ I h) fun us s1 ⟨vs,H1,I1,r1,q1⟩=>?_) hs rfl))
 obtain ⟨j,e,q1,q2,q⟩:=q1
 subst e
 cases r1 with
 | cons r rr =>
  cases rr
  obtain ⟨t,rfl⟩:=r
  exact call_range_1 (nq I1 (by omega) (by omega) q1 q2 (by simpa using q))
noncomputable def wW (wi:TI) (g:TG) (tb:TS):TS:=fun D σ H=>wi σ H fun J H1=>∃ W:Nat→Nat→St→Hp→Prop,(∃ m,W 0 m σ H1)∧∀ i m σ H,W i m σ H →
 (J.stop i H∧D.nx σ H)∨(J.go i H∧∃ N:St→Hp→Prop,(∀ σ' H',N σ' H'→∃ m',m'<m∧W (i+1) m' σ' H')∧∀ x H',J.yld i H x H'→g x σ H' fun σ2 H2=>tb { D with nx:=N,ct:=N,bk:=D.nx } σ2 H2)
noncomputable def dr (fp:List Addr) (h:Heap):List (Addr×Obj):=fp.filterMap fun b=>(h.get? b).map fun o=>(b,o)
theorem cx {fp:List Addr}{h:Heap}{b:Addr}{o:Obj} (hb:b∈fp) (e:h.get? b=some o):(b,o)∈dr fp h:=List.mem_filterMap.mpr ⟨b,hb,by rw[e];rfl⟩
theorem gu {fp:List Addr}{h:Heap}{p:Addr×Obj} (hp:p∈dr fp h):p.1∈fp∧h.get? p.1=some p.2:=by
 obtain ⟨b,hb,e⟩:=List.mem_filterMap.mp hp
 cases q:h.get? b with
 | none=>rw[q] at e;cases e
 | some o =>
  rw [q] at e
  have e':(b,o)=p:=Option.some.inj e
  subst e'
  exact ⟨hb,q⟩
theorem Inv.pinned {pins:List (Addr×Obj)}{σ:St}{H:Hp}{s:Shared}{fp:List Addr} (I:Inv X pins σ H s) (hf:∀ b∈fp,eN X pins H b) (ho:∀ b∈fp,∃ o,s.heap.get? b=some o∧∀ v,o.data≠.cell v):Inv X (pins++dr fp s.heap) σ H s :=
 I.pins_of fun p hp=>(x8.mp hp).elim (fun z=>I.pin p (xY _ z)) fun z=>by
  obtain ⟨hb,e⟩:=gu z
  obtain ⟨f0,f1,f2,_⟩:=hf p.1 hb
  obtain ⟨o,e',d⟩:=ho p.1 hb
  rw [e] at e';cases e'
  exact ⟨e,f0,f1,f2,d⟩
theorem Inv.unpinned {pins pl:List (Addr×Obj)}{σ:St}{H:Hp}{s:Shared} (I:Inv X (pins++pl) σ H s):Inv X pins σ H s:=I.pins_of fun p hp=>I.pin p (xY _ (x3 _ hp))
theorem pB {iter:Expr}{body:List Stmt}{wi:TI}{g:TG}{tb:TS}{pos:Pos} (hp:PassesOwn (model X.prog X.w) X.A X.env X.xe) (hc:X.calm=true) (hi:PI X tg iter wi) (hg:PG X tg g) (hb:PSs X body tb)
  (hs:∀ x,foldedSetIterable iter X.env x=pure x:=by intro _;rfl):PS X (.For tg iter body [] pos) (wW wi g tb):=by
 intro pins s σ H D I h
 refine wpAny_For (thn (hi pins s σ H _ I h) fun v s1 h1=>thn h1 fun itv s2 h2=>?_) hs
 obtain ⟨it,fp,tn,J,H2,e,I2,T,st2,f2,W,⟨m0,w0⟩,turn⟩:=h2
 subst e
 have stat:∀ {H':Hp},(∀ b∈fp,H' b=none)→∀ b∈fp,eN X pins H' b:=fun hn b hb=>⟨hn b hb,(f2 b hb).2⟩
 refine codeAny_forLoop_any (fun n s'=>∃ i σ' H',Inv X pins σ' H' s'∧tn i s'.heap∧(∀ b∈fp,H' b=none)∧W i n σ' H') ?_ m0 ⟨0,σ,H2,I2,st2,fun b hb=>(f2 b hb).1,w0⟩
 rintro n s3 ⟨i,σ3,H3,I3,st3,fr3,w3⟩
 rcases turn i n σ3 H3 w3 with ⟨stop,qn⟩|⟨go,N,hN,step⟩
 ·refine wpAny_passesOwn hp (thn (T.done X rfl rfl rfl hc i pins s3 σ3 H3 X.xe I3 (stat fr3) st3 stop) fun r s4 ⟨hr,I4⟩=>?_)
  subst hr
  exact wpAny_execs_nil ⟨σ3,H3,I4,qn⟩
 ·refine wpAny_passesOwn hp (thn (T.item X rfl rfl rfl hc i pins s3 σ3 H3 X.xe I3 (stat fr3) st3 go) fun r s4 ⟨u,hr,h4⟩=>?_)
  subst hr
  refine wpAny_passesOwn hp (thn h4 fun _ s5 ⟨x,H5,I5,r5,y5,st5,fr5⟩=>?_)
  have I5':=I5.pinned (stat fr5) (T.obj _ _ st5)
  refine wpAny_passesOwn hp (thn (hg _ s5 σ3 H5 x u _ I5' r5 (step x H5 y5)) fun _ s6 ⟨σ6,H6,I6,q6⟩=>?_)
  refine wpAny_passesOwn hp (thn (hb _ s6 σ6 H6 _ I6 q6) fun f s7 q7=>?_)
  have again:∀ {σ7:St}{H7:Hp},Inv X (pins++dr fp s5.heap) σ7 H7 s7→N σ7 H7→∃ m,m<n∧∃ i σ' H',Inv X pins σ' H' s7∧tn i s7.heap∧(∀ b∈fp,H' b=none)∧W i m σ' H':=fun {σ7 H7} I7 n7=>by
   obtain ⟨m',hm,w7⟩:=hN σ7 H7 n7
   refine ⟨m',hm,i+1,σ7,H7,I7.unpinned,T.keep _ _ _ st5 fun b hb o e=>(I7.pin (b,o) (xY _ (xY _ (cx hb e)))).1,fun b hb=>?_,w7⟩
   obtain ⟨o,e,d⟩:=T.obj _ _ st5 b hb
   exact (I7.pin (b,o) (xY _ (xY _ (cx hb e)))).2.1
  cases f with
  | next=>obtain⟨σ7,H7,I7,n7⟩:=q7;exact again I7 n7
  | cont=>obtain⟨σ7,H7,I7,n7⟩:=q7;exact again I7 n7
  | brk=>obtain⟨σ7,H7,I7,q7⟩:=q7;exact⟨σ7,H7,I7.unpinned,q7⟩
  | ret v=>obtain⟨x7,σ7,H7,I7,r7,q7⟩:=q7;exact⟨x7,σ7,H7,I7.unpinned,r7,q7⟩
end
noncomputable abbrev R2:=V→V→Hp→VK→Prop
noncomputable def OpR (X:Cx) (f:Value→Value→Sem Value) (r:R2):Prop :=
 ∀ (pins:List (Addr×Obj)) (s:Shared) (σ:St) (H:Hp) (x y:V) (v u:Value) (Q:VK),Inv X pins σ H s→aY x v→aY y u→r x y H Q →
  wpAny (model X.prog X.w) X.A (f v u) (EP X pins σ Q) X.xe s
noncomputable def UnR (X:Cx) (f:Value→Sem Value) (r:V→Hp→VK→Prop):Prop :=
 ∀ (pins:List (Addr×Obj)) (s:Shared) (σ:St) (H:Hp) (x:V) (v:Value) (Q:VK),Inv X pins σ H s→aY x v→r x H Q →
  wpAny (model X.prog X.w) X.A (f v) (EP X pins σ Q) X.xe s
noncomputable def c7 (X:Cx) (f:Value) (r:List V→Hp→VK→Prop):Prop :=
 ∀ (pins:List (Addr×Obj)) (s:Shared) (σ:St) (H:Hp) (xs:List V) (us:List Value) (Q:VK),Inv X pins σ H s→aA xs us→r xs H Q →
  wpAny (model X.prog X.w) X.A (call f us) (EP X pins σ Q) X.xe s
noncomputable def tOp (r:R2) (ta tb:TE):TE:=fun σ H Q=>ta σ H fun x H1=>tb σ H1 fun y H2=>r x y H2 Q
noncomputable def tUn (r:V→Hp→VK→Prop) (ta:TE):TE:=fun σ H Q=>ta σ H fun x H1=>r x H1 Q
noncomputable def rI (C:Int→Int→Prop) (g:Int→Int→V):R2:=fun x y H Q=>∃ i j,x=.int i∧y=.int j∧C i j∧Q (g i j) H
noncomputable def rI0 (g:Int→Int→V):R2:=fun x y H Q=>∃ i j,x=.int i∧y=.int j∧Q (g i j) H
noncomputable def rU (g:Int→V):V→Hp→VK→Prop:=fun x H Q=>∃ i,x=.int i∧Q (g i) H
section
variable {X:Cx}{a b c:Expr}{ta tb tc:TE}{pos:Pos}
theorem wQ (ha:PE X a ta) (hb:PE X b tb) {pins:List (Addr×Obj)}{s:Shared}{σ:St}{H:Hp}{R:V→V→Hp→Prop} (I:Inv X pins σ H s)
  (h : ta σ H fun x H1=>tb σ H1 fun y H2=>R x y H2) {Q:Value→Shared→Prop}{f:Value→Value→Sem Value}
  (hf:∀ v u s2 x y H2,Inv X pins σ H2 s2→aY x v→aY y u→R x y H2→wpAny (model X.prog X.w) X.A (f v u) Q X.xe s2) :
  wpAny (model X.prog X.w) X.A (eval a X.env) (fun v s₁=>wpAny (model X.prog X.w) X.A (eval b X.env) (fun u s₂=>wpAny (model X.prog X.w) X.A (f v u) Q X.xe s₂) X.xe s₁) X.xe s:=by
 refine thn (ha pins s σ H _ I h) fun v s1 ⟨x,H1,I1,r1,q1⟩=>?_
 refine thn (hb pins s1 σ H1 _ I1 q1) fun u s2 ⟨y,H2,I2,r2,q2⟩=>?_
 exact hf v u s2 x y H2 I2 r1 r2 q2
theorem nB {op:Operator}{r:R2} (ho:OpR X (binaryOp op) r) (ha:PE X a ta) (hb:PE X b tb):PE X (.BinOp a op b pos) (tOp r ta tb):=by
 intro pins s σ H Q I h
 exact wpAny_BinOp (wQ ha hb I h fun v u s2 x y H2 I2 rx ry q=>ho pins s2 σ H2 x y v u Q I2 rx ry q)
theorem v5 {op:UnaryOp}{r:V→Hp→VK→Prop} (ho:UnR X (unaryOp op) r) (ha:PE X a ta):PE X (.UnaryOp op a pos) (tUn r ta):=by
 intro pins s σ H Q I h
 exact UnaryOp_ (thn (ha pins s σ H _ I h) fun v s1 ⟨x,H1,I1,r1,q1⟩=>ho pins s1 σ H1 x v Q I1 r1 q1)
theorem opI {f:Value→Value→Sem Value}{C:Int→Int→Prop}{g:Int→Int→Int}
  (rule:∀ (i j:Int) (t u:Tok) (s:Shared) (Q:Value→Shared→Prop) (E:Value→Shared→Prop),C i j→Q (.int (g i j) s.toks) { s with toks:=s.toks+1 }→wpAny (model X.prog X.w) X.A (f (.int i t) (.int j u)) Q E s) :
  OpR X f (rI C fun i j=>.int (g i j)):=by
 intro pins s σ H x y v u Q I rx ry h
 obtain ⟨i,j,rfl,rfl,hc,q⟩:=h
 obtain ⟨t,rfl⟩:=rx
 obtain ⟨t',rfl⟩:=ry
 exact rule i j t t' s _ _ hc ⟨.int (g i j),H,I.tok _,⟨_,rfl⟩,q⟩
theorem xb {f:Value→Value→Sem Value}{g:Int→Int→Int}
  (rule:∀ (i j:Int) (t u:Tok) (s:Shared) (Q:Value→Shared→Prop) (E:Value→Shared→Prop),Q (.int (g i j) s.toks) { s with toks:=s.toks+1 }→wpAny (model X.prog X.w) X.A (f (.int i t) (.int j u)) Q E s) :
  OpR X f (rI0 fun i j=>.int (g i j)):=by
 intro pins s σ H x y v u Q I rx ry h
 obtain ⟨i,j,rfl,rfl,q⟩:=h
 obtain ⟨t,rfl⟩:=rx
 obtain ⟨t',rfl⟩:=ry
 exact rule i j t t' s _ _ ⟨.int (g i j),H,I.tok _,⟨_,rfl⟩,q⟩
theorem wg {f:Value→Value→Sem Value}{g:Int→Int→Bool}
  (rule:∀ (i j:Int) (t u:Tok) (s:Shared) (Q:Value→Shared→Prop) (E:Value→Shared→Prop),Q (.bool (g i j)) s→wpAny (model X.prog X.w) X.A (f (.int i t) (.int j u)) Q E s) :
  OpR X f (rI0 fun i j=>.bl (g i j)):=by
 intro pins s σ H x y v u Q I rx ry h
 obtain ⟨i,j,rfl,rfl,q⟩:=h
 obtain ⟨t,rfl⟩:=rx
 obtain ⟨t',rfl⟩:=ry
 exact rule i j t t' s _ _ ⟨.bl (g i j),H,I,rfl,q⟩
noncomputable def xX (i j:Int):Prop:=0<j∧j<1073741824
noncomputable def vn (i j:Int):Prop:=(-(2 ^ 64)<i∧i<2 ^ 64)∨(-(2 ^ 64)<j∧j<2 ^ 64)
theorem vn.ok {i j:Int} (h:vn i j):IntMulOk i j:=by
 rcases h with ⟨h1,h2⟩|⟨h1,h2⟩
 ·exact .of_left (intBits_le_64 h1 h2)
 ·exact .of_right (intBits_le_64 h1 h2)
theorem bB:OpR X (binaryOp .Add) (rI0 fun i j=>.int (i+j)):=xb fun _ _ _ _ _ _ _ q=>add_int q
theorem uf:OpR X (binaryOp .Sub) (rI0 fun i j=>.int (i - j)):=xb fun _ _ _ _ _ _ _ q=>sub_int q
theorem ff:OpR X (binaryOp .Mult) (rI vn fun i j=>.int (i*j)):=opI fun _ _ _ _ _ _ _ hc q=>mul_int q hc.ok
theorem bN:OpR X (binaryOp .FloorDiv) (rI xX fun i j=>.int (i / j)):=opI fun i j _ _ _ _ _ hc q=>by
 have h1:(0:Int)<j:=hc.1
 have h2:j<1073741824:=hc.2
 exact floordiv_int (by omega) (by rw[Int.fdiv_eq_ediv_of_nonneg i (by omega)];exact q) (.inl (PyProof.noPylong_small (by omega)))
theorem aQ:OpR X (binaryOp .Mod) (rI (fun _ j=>0<j) fun i j=>.int (i % j)):=opI fun i j _ _ _ _ _ hc q=>by
 have h1:(0:Int)<j:=hc
 exact mod_int' (by omega) (by rw[Int.fmod_eq_emod_of_nonneg i (by omega)];exact q)
theorem unI {f:Value→Sem Value}{g:Int→Int}
  (rule:∀ (i:Int) (t:Tok) (s:Shared) (Q:Value→Shared→Prop) (E:Value→Shared→Prop),Q (.int (g i) s.toks) { s with toks:=s.toks+1 }→wpAny (model X.prog X.w) X.A (f (.int i t)) Q E s) :
  UnR X f (rU fun i=>.int (g i)):=by
 intro pins s σ H x v Q I rx h
 obtain ⟨i,rfl,q⟩:=h
 obtain ⟨t,rfl⟩:=rx
 exact rule i t s _ _ ⟨.int (g i),H,I.tok _,⟨_,rfl⟩,q⟩
theorem tm:UnR X (unaryOp .USub) (rU fun i=>.int (-i)):=unI fun _ _ _ _ _ q=>neg_int q
end
noncomputable def wY:V→V→Bool
 | .non,.non=>true|.non,.int _=>true|.int _,.non=>true|.non,.bl _=>true|.bl _,.non=>true|.non,.str _=>true|.str _,.non=>true
 | .int _,.int _=>true|.bl _,.bl _=>true|.str _,.str _=>true|.byt _,.byt _=>true
 | .int _,.str _=>true|.str _,.int _=>true|.bl _,.str _=>true|.str _,.bl _=>true
 | _,_=>false
noncomputable def rEq:R2:=fun x y H Q=>wY x y=true∧Q (.bl (decide (x=y))) H
noncomputable def rNe:R2:=fun x y H Q=>wY x y=true∧Q (.bl (!decide (x=y))) H
theorem mo {i j:Int}:decide (V.int i=V.int j)=(i==j):=by
 rw [zm]
 simp
theorem pY {i j:Bool}:decide (V.bl i=V.bl j)=(i==j):=by
 rw [zm]
 simp
theorem mn {i j:Str}:decide (V.str i=V.str j)=(i==j):=by
 rw [zm]
 simp
theorem mq {i j:Array UInt8}:decide (V.byt i=V.byt j)=(i.toList==j.toList):=by
 rw [zm]
 cases i
 cases j
 simp
section
variable {X:Cx}{a b c:Expr}{ta tb tc:TE}{pos:Pos}
theorem aB {pins:List (Addr×Obj)}{σ:St}{H:Hp}{s:Shared}{Q:VK}{k k':Bool} (I:Inv X pins σ H s) (q:Q (.bl k) H) (e:k=k'):EP X pins σ Q (.bool k') s:=by
 subst e
 exact ⟨.bl k,H,I,rfl,q⟩
theorem nF:OpR X (compareOp .Eq) rEq:=by
 intro pins s σ H x y v u Q I rx ry h
 obtain ⟨hs,q⟩:=h
 cases x with
 | non =>
  cases rx
  cases y with
  | non=>cases ry;exact PySem.EqNone.eq_none_none (aB I q (by simp))
  | bl j=>cases ry;exact PySem.EqNone.eq_none_bool (aB I q (by simp))
  | int j=>obtain⟨t',rfl⟩:=ry;exact PySem.EqNone.eq_none_int (aB I q (by simp))
  | str j=>obtain⟨t',rfl⟩:=ry;exact PySem.EqNone.eq_none_str (aB I q (by simp))
  | _=>exact absurd (show false=true from hs) yn
 | bl i =>
  cases rx
  cases y with
  | non=>cases ry;exact PySem.EqNone.eq_bool_none (aB I q (by simp))
  | bl j=>cases ry;exact eq_bool (aB I q pY)
  | str j=>obtain⟨t',rfl⟩:=ry;exact PySem.EqMixed.eq_bool_str (aB I q (by simp))
  | _=>exact absurd (show false=true from hs) yn
 | int i =>
  obtain ⟨t,rfl⟩:=rx
  cases y with
  | non=>cases ry;exact PySem.EqNone.eq_int_none (aB I q (by simp))
  | int j=>obtain⟨t',rfl⟩:=ry;exact eq_int (aB I q mo)
  | str j=>obtain⟨t',rfl⟩:=ry;exact PySem.EqMixed.eq_int_str (aB I q (by simp))
  | _=>exact absurd (show false=true from hs) yn
 | str i =>
  obtain ⟨t,rfl⟩:=rx
  cases y with
  | non=>cases ry;exact PySem.EqNone.eq_str_none (aB I q (by simp))
  | bl j=>cases ry;exact PySem.EqMixed.eq_str_bool (aB I q (by simp))
  | int j=>obtain⟨t',rfl⟩:=ry;exact PySem.EqMixed.eq_str_int (aB I q (by simp))
  | str j=>obtain⟨t',rfl⟩:=ry;exact eq_str (aB I q mn)
  | _=>exact absurd (show false=true from hs) yn
 | byt i =>
  obtain ⟨t,rfl⟩:=rx
  cases y with
  | byt j=>obtain⟨t',rfl⟩:=ry;exact PySem.W.eq_bytes (aB I q mq)
  | _=>exact absurd (show false=true from hs) yn
 | _=>cases y <;> exact absurd (show false=true from hs) yn
theorem uh:OpR X (compareOp .NotEq) rNe:=by
 intro pins s σ H x y v u Q I rx ry h
 obtain ⟨hs,q⟩:=h
 cases x with
 | non =>
  cases rx
  cases y with
  | non=>cases ry;exact PySem.EqNone.ne_none_none (aB I q (by simp))
  | bl j=>cases ry;exact PySem.EqNone.ne_none_bool (aB I q (by simp))
  | int j=>obtain⟨t',rfl⟩:=ry;exact PySem.EqNone.ne_none_int (aB I q (by simp))
  | str j=>obtain⟨t',rfl⟩:=ry;exact PySem.EqNone.ne_none_str (aB I q (by simp))
  | _=>exact absurd (show false=true from hs) yn
 | bl i =>
  cases rx
  cases y with
  | non=>cases ry;exact PySem.EqNone.ne_bool_none (aB I q (by simp))
  | bl j=>cases ry;exact ne_bool (aB I q (congrArg not pY))
  | str j=>obtain⟨t',rfl⟩:=ry;exact PySem.EqMixed.ne_bool_str (aB I q (by simp))
  | _=>exact absurd (show false=true from hs) yn
 | int i =>
  obtain ⟨t,rfl⟩:=rx
  cases y with
  | non=>cases ry;exact PySem.EqNone.ne_int_none (aB I q (by simp))
  | int j=>obtain⟨t',rfl⟩:=ry;exact ne_int (aB I q (congrArg not mo))
  | str j=>obtain⟨t',rfl⟩:=ry;exact PySem.EqMixed.ne_int_str (aB I q (by simp))
  | _=>exact absurd (show false=true from hs) yn
 | str i =>
  obtain ⟨t,rfl⟩:=rx
  cases y with
  | non=>cases ry;exact PySem.EqNone.ne_str_none (aB I q (by simp))
  | bl j=>cases ry;exact PySem.EqMixed.ne_str_bool (aB I q (by simp))
  | int j=>obtain⟨t',rfl⟩:=ry;exact PySem.EqMixed.ne_str_int (aB I q (by simp))
  | str j=>obtain⟨t',rfl⟩:=ry;exact ne_str (aB I q (congrArg not mn))
  | _=>exact absurd (show false=true from hs) yn
 | byt i =>
  obtain ⟨t,rfl⟩:=rx
  cases y with
  | byt j=>obtain⟨t',rfl⟩:=ry;exact PySem.W.ne_bytes (aB I q (congrArg not mq))
  | _=>exact absurd (show false=true from hs) yn
 | _=>cases y <;> exact absurd (show false=true from hs) yn
theorem wb:OpR X (compareOp .Lt) (rI0 fun i j=>.bl (decide (i<j))):=wg fun _ _ _ _ _ _ _ q=>lt_int q
theorem wd:OpR X (compareOp .LtE) (rI0 fun i j=>.bl (decide (i≤j))):=wg fun _ _ _ _ _ _ _ q=>le_int q
theorem ui:OpR X (compareOp .Gt) (rI0 fun i j=>.bl (decide (j<i))):=wg fun _ _ _ _ _ _ _ q=>gt_int q
theorem OpR.or {f:Value→Value→Sem Value}{r r':R2} (h:OpR X f r) (h':OpR X f r'):OpR X f (fun x y H Q=>r x y H Q∨r' x y H Q):=by
 intro pins s σ H x y v u Q I rx ry q
 rcases q with q|q
 ·exact h pins s σ H x y v u Q I rx ry q
 ·exact h' pins s σ H x y v u Q I rx ry q
theorem aT (b:Expr) {op:CmpOp} (h:op≠.In:=by decide) (h2:op≠.NotIn:=by decide):behindInMarks op b=false:=by
 have e1:(op==CmpOp.In)=false:=by cases op <;> first|rfl|exact absurd rfl h
 have e2:(op==CmpOp.NotIn)=false:=by cases op <;> first|rfl|exact absurd rfl h2
 cases b <;> simp[behindInMarks,e1,e2]
theorem rg {op:CmpOp}{r:R2} (ho:OpR X (compareOp op) r) (ha:PE X a ta) (hb:PE X b tb) (hm:behindInMarks op b=false):PE X (.Compare a [op] [b] pos) (tOp r ta tb):=by
 intro pins s σ H Q I h
 exact wpAny_Compare1 (wQ ha hb I h fun v u s2 x y H2 I2 rx ry q=>ho pins s2 σ H2 x y v u Q I2 rx ry q) hm
noncomputable def tp (t:TE):TT:=fun σ H Q=>t σ H fun x H'=>∃ k,x=.bl k∧Q k H'
theorem qS {op:CmpOp}{r:R2} (ho:OpR X (compareOp op) r) (ha:PE X a ta) (hb:PE X b tb) (hm:behindInMarks op b=false):PT X (.Compare a [op] [b] pos) (tp (tOp r ta tb)):=by
 intro pins s σ H Q I h
 refine wpAny_isTrue_Compare1 (thn (ha pins s σ H _ I h) fun v s1 ⟨x,H1,I1,r1,q1⟩=>thn (hb pins s1 σ H1 _ I1 q1) fun u s2 ⟨y,H2,I2,r2,q2⟩ =>
  thn (ho pins s2 σ H2 x y v u _ I2 r1 r2 q2) fun c s3 ⟨z,H3,I3,r3,k,e,q3⟩=>?_) hm
 subst e
 cases r3
 exact wpAny_truthy_bool ⟨H3,I3,q3⟩
theorem jx:(sizeLine:Nat)<2 ^ 63:=by rw[sizeLine_eq];decide
theorem kI {x:V}{us:List Value} (r:aA [x] us):∃ u,us=[u]∧aY x u:=by
 cases r with
 | cons r1 r2=>cases r2;exact⟨_,rfl,r1⟩
theorem m6 {x y:V}{us:List Value} (r:aA [x,y] us):∃ u w',us=[u,w']∧aY x u∧aY y w':=by
 cases r with
 | cons r1 r2 =>
  cases r2 with
  | cons r3 r4=>cases r4;exact⟨_,_,rfl,r1,r3⟩
theorem eB (hc:X.calm=true):c7 X (.builtin "min") (fun xs H Q=>∃ i j,xs=[.int i,.int j]∧Q (.int (if j<i then j else i)) H):=by
 intro pins s σ H xs us Q I r h
 obtain ⟨i,j,rfl,q⟩:=h
 obtain ⟨u,w',rfl,⟨t,rfl⟩,⟨t',rfl⟩⟩:=m6 r
 refine min_two_ints (I.ok.hd hc) fun h' tk k=>⟨_,H,I.kept k,?_,q⟩
 by_cases hj:j<i
 ·rw [if_pos hj,if_pos hj];exact⟨_,rfl⟩
 ·rw [if_neg hj,if_neg hj];exact⟨_,rfl⟩
end
section
variable {prog:Program}{w:World}{A:Around}{E:Value→Shared→Prop}{s:Shared}{K:PySem.W.Frag}{x dx C f:Addr}{mA:Str→Option Value}{name:Str}{v:Value}
end
section
variable {P:Program}{w:World}{H H':Hp}{h h':Heap}{a C dx:Addr}{fs fs':List (Str×V)}
end
structure Cls (K:PySem.W.Frag) (C:Addr):Prop where
 pg : PySem.W.plainGet K C Str.empty=true
 hd : PySem.W.hasDictIn K C=true
 po : PySem.W.plainOver K C=true
 sa : PySem.W.findIn K (.ref C) "__setattr__" = some (some (.builtin "object.__setattr__"))
theorem Cls.get {K:PySem.W.Frag}{C:Addr} (c:Cls K C) (f:Str):PySem.W.plainGet K C f=true:=c.pg
section
variable {X:Cx}{pins:List (Addr×Obj)}{σ:St}{H:Hp}{s:Shared}{a C dx:Addr}{fs:List (Str×V)}{f:Str}{v:V}{A:Around}{E:Value→Shared→Prop}
end
section
variable {X:Cx}{o e value:Expr}{f:Str}{pos pos' tpos:Pos}{ta tv:TE}
end
section
variable {X:Cx}{pins:List (Addr×Obj)}{σ:St}{H:Hp}{s:Shared}{A:Around}{E:Value→Shared→Prop}{Q:Value→Shared→Prop}{c:Value}{b:Bool}
end
structure ci (k:Nat) (A:Around):Prop where
 hd : A.handled=none
 dp : A.depth+3*k+5<recursionLimit
 un : A.units+16*k+200<cLine
theorem ci.mono {j k:Nat}{A:Around} (r:ci k A) (h:j≤k):ci j A:=⟨r.hd,by have:=r.dp;omega,by have:=r.un;omega⟩
theorem ci.deeper {k:Nat}{A:Around} (r:ci (k+1) A) (env:Env):ci k (A.deeper env) :=
 ⟨r.hd,by have:=r.dp;show A.depth+1+3*k+5<_;omega,by have:=r.un;show A.units+3+16*k+200<_;omega⟩
theorem ci.in1 {k:Nat}{A:Around} (r:ci (k+1) A):ci k A.in1 :=
 ⟨r.hd,by have:=r.dp;show A.depth+3*k+5<_;omega,by have:=r.un;show A.units+1+16*k+200<_;omega⟩
theorem ci.depth {k:Nat}{A:Around} (r:ci k A):A.depth<recursionLimit:=by have:=r.dp;omega
theorem ci.units {k:Nat}{A:Around} (r:ci k A):A.units+64<cLine:=by have:=r.un;omega
noncomputable def wV:TA:=fun _ H Q=>Q [] H
noncomputable def tw (ta:TE) (tr:TA):TA:=fun σ H Q=>ta σ H fun x H1=>tr σ H1 fun xs H2=>Q (x::xs) H2
section
variable {X:Cx}{e:Expr}{es:List Expr}{te:TE}{t:TA}{pos:Pos}
theorem gl:PA X [] wV:=fun _ _ _ _ H Q I h=>Calls.spliced_nil ⟨[],H,I,.nil,h⟩
theorem df (ha:PE X e te) (hr:PA X es t) (hs:starEach (e::es) X.env=(false,eval e X.env)::starEach es X.env:=by rfl):PA X (e::es) (tw te t):=by
 intro pos pins s σ H Q I h
 rw [hs]
 show wpAny _ _ (spliced ((false,eval e X.env)::backTo pos (starEach es X.env))) _ _ s
 refine Calls.spliced_cons (thn (ha pins s σ H _ I h) fun u s1 ⟨x,H1,I1,r1,q1⟩=>?_)
 exact thn (hr pos pins s1 σ H1 _ I1 q1) fun us s2 ⟨xs,H2,I2,r2,q2⟩=>⟨x::xs,H2,I2,.cons r1 r2,q2⟩
noncomputable def xo (t:TA):TE:=fun σ H Q=>t σ H fun xs H1=>xs.length≤sizeLine∧∀ p,H1 p=none→Q (.ref p) (upd H1 p (.tup xs))
noncomputable def xt (t:TA):TE:=fun σ H Q=>t σ H fun xs H1=>xs.length≤sizeLine∧∀ p,H1 p=none→Q (.ref p) (upd H1 p (.lst xs))
theorem ua {x1} (h:PA X es t):PE X (.Tuple es x1 pos) (xo t):=by
 intro pins s σ H Q I hq
 refine wpAny_Tuple_spliced (thn (h pos pins s σ H _ I hq) fun us s1 ⟨xs,H1,I1,r,z,q⟩=>⟨by rw[←r.length];exact z,?_⟩)
 have hf:H1 s1.heap.objs.size=none:=I1.hok.fresh (yl _)
 refine ⟨.ref s1.heap.objs.size,upd H1 s1.heap.objs.size (.tup xs),I1.laid (t':=s1.toks) (fun b u e=>yf _ e) (yl _) ?_,rfl,q _ hf⟩
 exact ⟨z,us,r,⟨_,yp _ rfl,rfl,⟨_,rfl⟩,rfl⟩⟩
theorem pC (h:PA X es t):PE X (.List es pos) (xt t):=by
 intro pins s σ H Q I hq
 refine wpAny_List_spliced (thn (h pos pins s σ H _ I hq) fun us s1 ⟨xs,H1,I1,r,z,q⟩=>⟨by rw[←r.length];exact z,?_⟩)
 have hf:H1 s1.heap.objs.size=none:=I1.hok.fresh (yl _)
 refine ⟨.ref s1.heap.objs.size,upd H1 s1.heap.objs.size (.lst xs),I1.laid (t':=s1.toks) (fun b u e=>yf _ e) (yl _) ?_,rfl,q _ hf⟩
 exact ⟨z,us,0,r,yp _ rfl⟩
end
noncomputable abbrev Sp:=List V→Hp→VK→XK→Prop
noncomputable abbrev CXT:=List Env→Hp→Shared→XK→Value→Shared→Prop
structure o8 (P:Program) (w:World) (K:PySem.W.Frag) (mg:Str→Option Value) (base:Heap) (A:Around) (outer:List Env) (s:Shared) (H:Hp):Prop where
 frames:A.frames=some outer
 mod:Mod K mg base
 bs : ∀ b o,base.get? b=some o→s.heap.get? b=some o∧H b=none
 bsz:base.objs.size≤s.heap.objs.size
 funs:s.heap.FunFrames base outer
 frf:∀ b∈frs outer,H b=none
 hok:HOk P w H s.heap
 bare:AllBare s.gens
 tab:qo K H
noncomputable def CE (outer:List Env) (P:Program) (w:World) (H:Hp) (s:Shared) (Q:VK) (u:Value) (s':Shared):Prop :=
 ∃ v H',s'.os=s.os∧AllBare s'.gens∧Un (frs outer) [] H H' s.heap s'.heap∧HOk P w H' s'.heap∧aY v u∧Q v H'
noncomputable def CR (CX:CXT) (outer:List Env) (P:Program) (w:World) (H:Hp) (s:Shared) (Q:VK) (E:XK) (r:Result) (s':Shared):Prop :=
 match r with
 | .ok (.ret u)=>CE outer P w H s Q u s'
 | .ok _=>False
 | .error e=>CX outer H s E e s'
structure bW (P:Program) (w:World) (K:PySem.W.Frag) (mg:Str→Option Value) (base:Heap) (CX:CXT) (k:Nat) (f:Addr) (fd:FuncData) (ps:List Str) (sp:Sp):Prop where
 len:∀ vs H Q E,sp vs H Q E→vs.length=ps.length
 run:∀ (A:Around) (outer:List Env) (s:Shared) (H:Hp) (args:Args) (us:List Value) (vs:List V) (Q:VK) (E:XK),ci k A→o8 P w K mg base A outer s H→BindsTo s fd args (ps.zip us)→aA vs us→sp vs H Q E →
  codeAny (model P w) A (.call (.ref f) args) (CR CX outer P w H s Q E) s
theorem bW.mono {P:Program}{w:World}{K:PySem.W.Frag}{mg:Str→Option Value}{base:Heap}{CX:CXT}{j k:Nat}{f:Addr}{fd:FuncData}{ps:List Str}{sp:Sp} (F:bW P w K mg base CX j f fd ps sp) (h:j≤k) :
  bW P w K mg base CX k f fd ps sp:=⟨F.len,fun A outer s H args us vs Q E hr=>F.run A outer s H args us vs Q E (hr.mono h)⟩
theorem bW.imp {P:Program}{w:World}{K:PySem.W.Frag}{mg:Str→Option Value}{base:Heap}{CX:CXT}{k:Nat}{f:Addr}{fd:FuncData}{ps:List Str}{sp sp':Sp} (F:bW P w K mg base CX k f fd ps sp)
  (h : ∀ vs H Q E,sp' vs H Q E→sp vs H Q E):bW P w K mg base CX k f fd ps sp' :=
 ⟨fun vs H Q E q=>F.len vs H Q E (h _ _ _ _ q),fun A outer s H args us vs Q E hr he hb hv hs=>F.run A outer s H args us vs Q E hr he hb hv (h _ _ _ _ hs)⟩
theorem o8.in1 {P:Program}{w:World}{K:PySem.W.Frag}{mg:Str→Option Value}{base:Heap}{A:Around}{outer:List Env}{s:Shared}{H:Hp} (e:o8 P w K mg base A outer s H) :
  o8 P w K mg base A.in1 outer s H:=⟨e.frames,e.mod,e.bs,e.bsz,e.funs,e.frf,e.hok,e.bare,e.tab⟩
section
variable {X:Cx}{pins:List (Addr×Obj)}{σ:St}{H:Hp}{s s':Shared}
theorem Inv.env0 (I:Inv X pins σ H s):o8 X.prog X.w X.K X.mg X.base X.A X.stack s H :=
 ⟨I.ok.frames,I.ok.mod,I.bs,yg I.ok.bsz I.sz,I.stack,I.stkFree,I.hok,I.bare,fun T q h=>I.base.tbls T q (I.ok.tab T q h)⟩
theorem Inv.after {Q:VK}{u:Value} (I:Inv X pins σ H s) (h:CE X.stack X.prog X.w H s Q u s'):EP X pins σ Q u s':=by
 obtain ⟨v,H',os,bare,un,hok,r,q⟩:=h
 obtain ⟨hh,g,d,t,os'⟩:=s'
 obtain rfl:os'=s.os:=os
 exact ⟨v,H',I.call (h':=hh) (g':=g) (d':=d) (t':=t) (ch:=[]) un hok bare (fun b z=>absurd z (by simp)),r,q⟩
end
noncomputable def il (sp:Sp) (dvs:List V) (E:XK) (t:TA):TE:=fun σ H Q=>t σ H fun vs H1=>sp (vs++dvs) H1 Q E
noncomputable def bF (K:PySem.W.Frag) (fd:FuncData) (ps:List Str) (ds:List Value):Prop :=
 ∀ (s:Shared) (us:List Value),K.In s.heap→(us++ds).length=ps.length→BindsTo s fd ⟨us,[]⟩ (ps.zip (us++ds))
theorem bF.all {K:PySem.W.Frag}{fd:FuncData}{ps:List Str} (h:∀ us:List Value,us.length=ps.length→bindArgs fd ⟨us,[]⟩=pure (ps.zip us)):bF K fd ps []:=fun s us _ hl=>by
 rw [yu] at hl ⊢
 exact .of_eq (h us hl)
noncomputable def mO (CX:CXT) (X:Cx) (E:XK):Prop:=∀ (pins:List (Addr×Obj)) (σ:St) (H:Hp) (s:Shared) (e:Value) (s':Shared),Inv X pins σ H s→CX X.stack H s E e s'→X.xe e s'
section
variable {X:Cx}{CX:CXT}{k:Nat}{f C:Addr}{fd:FuncData}{ps:List Str}{sp:Sp}{dvs:List V}{ds:List Value}{E:XK}{x m:Str}{p pos apos:Pos}{e o:Expr}{es:List Expr}{ta:TE}{t:TA}
theorem tD {pins:List (Addr×Obj)}{σ:St}{H:Hp}{s:Shared}{Q:VK}{us:List Value}{vs:List V} (F:bW X.prog X.w X.K X.mg X.base CX k f fd ps sp) (hr:ci k X.A) (hb:bF X.K fd ps ds) (hd:aA dvs ds) (hx:mO CX X E)
  (I : Inv X pins σ H s) (r:aA vs us) (h:sp (vs++dvs) H Q E):wpAny (model X.prog X.w) X.A (call (.ref f) us) (EP X pins σ Q) X.xe s:=by
 have r2:aA (vs++dvs) (us++ds):=r.append hd
 have hl:(us++ds).length=ps.length:=by rw[←r2.length];exact F.len _ _ _ _ h
 refine wpAny_call (codeAny_mono (F.run X.A X.stack s H ⟨us,[]⟩ (us++ds) (vs++dvs) Q E hr I.env0 (hb s us I.kIn hl) r2 h) fun r s' hq=>?_)
 cases r with
 | error e=>exact hx pins σ H s e s' I hq
 | ok fl =>
  cases fl with
  | ret u=>exact I.after hq
  | next=>exact False.elim hq
  | brk=>exact False.elim hq
  | cont=>exact False.elim hq
theorem rh (F:bW X.prog X.w X.K X.mg X.base CX k f fd ps sp) (hr:ci k X.A) (hg:Gl X x) (hm:X.mg x=some (.ref f)) (hk:PySem.W.keepIn X.K (.ref f)=true) (hb:bF X.K fd ps ds) (hd:aA dvs ds) (hx:mO CX X E)
  (ha:PA X (e::es) t) (hdb:(x==("__debug__" : Str))=false:=by decide) (he:starEach (e::es) X.env=(false,eval e X.env)::starEach es X.env:=by rfl) (hpl:(backTo pos (starEach es X.env)).any (·.1)=false:=by rfl) :
  PE X (.Call (.Name x p) (e::es) [] pos) (il sp dvs E t):=by
 intro pins s σ H Q I h
 refine wpAny_Call_Name_kw (rG I hg hm ?_ hdb)
 refine PySem.W.callWith_K (h₀:=X.base) I.ok.mod.kin hk (thn (ha pos pins s σ H _ I h) fun us s1 ⟨vs,H1,I1,r,q⟩=>⟨I1.kIn,?_⟩) he hpl
 exact tD F hr hb hd hx I1 r q
end
section
variable {X:Cx}{CX:CXT}{k:Nat}{f C:Addr}{fd:FuncData}{ps ks:List Str}{sp:Sp}{E:XK}{x m:Str}{p pos apos kpos:Pos}{e o:Expr}{es:List Expr}{kws:List Keyword}{te ta:TE}{t tk:TA}{nm:Option Str}
variable {g:List Value→List Value→List Value}{gV:List V→List V→List V}
end
structure ay (N P:List Str) (sc:Scope):Prop where
 kind:sc.kind=.function
 co : sc.isCoroutine=false
 gen:sc.isGenerator=false
 nd : N.Nodup
 pre:N.take P.length=P
 par:∀ x∈P,sc.names.lookup x=some .local∨sc.names.lookup x=some .cell
 nofree:∀ y∈sc.names,y.2≠.free
theorem hX {kindOf:Str→Option NameKind}{x:Str}:∀ {binds:List (Str×Value)}{m:Str→Option Value},(∀ v,(x,v) ∉ binds)→bindL kindOf binds m x=m x
 | [],_,_=>rfl
 | (n,v)::r,m,h=>by
  unfold bindL
  rw [hX fun w hw=>h w (x9 _ hw)]
  split
  ·have:x≠n:=by rintro rfl;exact h v ya
   simp [this]
  ·rfl
theorem h8 {kindOf:Str→Option NameKind}{x:Str}:∀ {binds:List (Str×Value)}{m:Str→Option Value},(∀ v,(x,v) ∉ binds)→bindC kindOf binds m x=m x
 | [],_,_=>rfl
 | (n,v)::r,m,h=>by
  unfold bindC
  rw [h8 fun w hw=>h w (x9 _ hw)]
  split
  ·rfl
  ·have:x≠n:=by rintro rfl;exact h v ya
   simp [this]
theorem hZ {kindOf:Str→Option NameKind}{x:Str}{v:Value}:∀ {P:List Str}{vs:List Value}{i:Nat}{m:Str→Option Value},P.Nodup→P[i]? = some x→vs[i]? = some v→kindOf x=some .local →
  bindL kindOf (P.zip vs) m x=some v
 | [],_,_,_,_,h,_,_=>by simp at h
 | _::_,[],_,_,_,_,h,_=>by simp at h
 | p::P,w::vs,0,m,nd,h1,h2,hk=>by
  simp at h1 h2;subst h1;subst h2
  show bindL kindOf ((p,w)::P.zip vs) m p=_
  unfold bindL
  rw [hX fun v hv=>(yv.mp nd).1 (zn hv).1,if_pos hk]
  simp
 | p::P,w::vs,i+1,m,nd,h1,h2,hk=>by
  show bindL kindOf ((p,w)::P.zip vs) m x=_
  unfold bindL
  exact hZ (i:=i) (yv.mp nd).2 (by simpa using h1) (by simpa using h2) hk
theorem ia {kindOf:Str→Option NameKind}{x:Str}{v:Value}:∀ {P:List Str}{vs:List Value}{i:Nat}{m:Str→Option Value},P.Nodup→P[i]? = some x→vs[i]? = some v→kindOf x≠some .local →
  bindC kindOf (P.zip vs) m x=some v
 | [],_,_,_,_,h,_,_=>by simp at h
 | _::_,[],_,_,_,_,h,_=>by simp at h
 | p::P,w::vs,0,m,nd,h1,h2,hk=>by
  simp at h1 h2;subst h1;subst h2
  show bindC kindOf ((p,w)::P.zip vs) m p=_
  unfold bindC
  rw [h8 fun v hv=>(yv.mp nd).1 (zn hv).1,if_neg hk]
  simp
 | p::P,w::vs,i+1,m,nd,h1,h2,hk=>by
  show bindC kindOf ((p,w)::P.zip vs) m x=_
  unfold bindC
  exact ia (i:=i) (yv.mp nd).2 (by simpa using h1) (by simpa using h2) hk
noncomputable def a8 (N:List Str) (vs:List V):St:=vs.map some++yL (N.length - vs.length) none
noncomputable def jT (CX:CXT) (P:Program) (w:World) (K:PySem.W.Frag) (mg:Str→Option Value) (base:Heap) (N:List Str) (qual:Str) (scope:Scope) (f:Addr) (cd:Value) (A:Around) (outer:List Env) (s:Shared) (H:Hp) (E:XK):Cx where
 prog:=P
 w := w
 K := K
 mg := mg
 base:=base
 A := A.deeper (envOfC qual scope s.heap.objs.size f cd)
 N := N
 s₀ := s
 H₀ := H
 env:=envOfC qual scope s.heap.objs.size f cd
 outer:=outer
 stack:=envOfC qual scope s.heap.objs.size f cd::outer
 ex := []
 calm:=true
 fn := fun _=>true
 pn := []
 xe := fun e s'=>wpAny (model P w) (A.deeper (envOfC qual scope s.heap.objs.size f cd)) (leaving (envOfC qual scope s.heap.objs.size f cd) e) (fun _ s''=>CX outer H s E e s'') (fun e' s''=>CX outer H s E e' s'') s'
theorem fO {sc:Scope}{n:Nat}{x:Str} (h:sc.names.lookup x=some .cell):∃ c,(cellsFrom n sc.names []).lookup x=some c:=by
 have q:=PySem.W.cellsFrom_some sc.names n [] (.inl h)
 exact Option.isSome_iff_exists.mp q
theorem gQ {CX:CXT}{P:Program}{w:World}{K:PySem.W.Frag}{mg:Str→Option Value}{base:Heap}{N ps:List Str}{qual:Str}{scope:Scope}{f:Addr}{cd:Value}{A:Around}{outer:List Env}{s s1:Shared}{H:Hp}{E:XK}{us:List Value}{vs:List V}
  (S : ay N ps scope) (hd:A.handled=none) (e0:o8 P w K mg base A outer s H) (hl:vs.length=ps.length) (r:aA vs us)
  (x : InCallC s s.heap.objs.size (bindL (envOfC qual scope s.heap.objs.size f cd).kindOf (ps.zip us) fun _=>none) (cellsFrom (s.heap.objs.size+1) scope.names []) (bindC (envOfC qual scope s.heap.objs.size f cd).kindOf (ps.zip us) fun _=>none) s1) :
  Inv (jT CX P w K mg base N qual scope f cd A outer s H E) [] (a8 N vs) H s1:=by
 have hpl:ps.length≤N.length:=by have:=congrArg List.length S.pre;rw[List.length_take] at this;omega
 obtain ⟨h1,tk,rfl,hk⟩:=x.done
 have noA:∀ b:Addr,b ∉ (jT CX P w K mg base N qual scope f cd A outer s H E).ex:=fun b z=>absurd (show b∈([]:List Addr) from z) (by simp)
 refine ⟨⟨e0.mod,S.kind,rfl,rfl,yl _,fun y z c h1 h2=>?_,fun y hy=>?_,fun y c _ h=>?_,fun _=>hd,Around.frames_deeper e0.frames,.inr ⟨rfl,rfl⟩,fun b z=>absurd z (noA b),e0.bs,e0.bsz,fun b _ _=>noA b,fun b z=>absurd z (noA b),e0.funs,e0.frf,e0.tab⟩,
  rfl,e0.bare,Un.kept hk,⟨_,x.toInCall.ns,fun i y v h1 h2 h3=>?_⟩,fun y c h=>⟨_,x.cell y c h⟩,e0.hok.fresh (yl _),fun y c h=>?_,fun p hp=>absurd (show p∈([]:List (Addr×Obj)) from hp) (by simp),e0.hok.kept hk,?_⟩
 ·exact name_of_addr x.apart (PySem.mem_of_lookup h1) (PySem.mem_of_lookup h2)
 ·have hy:scope.names.lookup y=some .cell∨scope.names.lookup y=some .free:=hy
  rcases hy with hy|hy
  ·exact fO hy
  ·exact absurd rfl (S.nofree _ (PySem.mem_of_lookup hy))
 ·exact Nat.le_of_lt (x.above y c (PySem.mem_of_lookup h))
 ·have hi:i<vs.length:=by
   unfold a8 at h2
   by_cases hi:i<vs.length
   ·exact hi
   ·rw [List.getElem?_append_right (by simpa using hi)] at h2
    rw [List.getElem?_replicate] at h2
    split at h2 <;> cases h2
  have ha:vs[i]? = some v:=by
   unfold a8 at h2
   rw [zl (by simpa using hi),yA] at h2
   cases e:vs[i]? with
   | none=>rw[e] at h2;cases h2
   | some a=>rw[e] at h2;cases h2;rfl
  obtain ⟨u,hu,rv⟩:=r.get ha
  have hp:ps[i]? = some y:=by
   rw [←S.pre,List.getElem?_take_of_lt (by omega)];exact h1
  have ndP:ps.Nodup:=by rw[←S.pre];exact S.nd.sublist (List.take_sublist _ _)
  refine ⟨u,rv,?_⟩
  rcases S.par y (List.mem_of_getElem? hp) with k|k
  ·exact .inl ⟨k,hZ ndP hp hu k⟩
  ·obtain ⟨c,e⟩:=fO (n:=s.heap.objs.size+1) k
   refine .inr ⟨.inl k,c,e,?_⟩
   have q:=x.cell y c e
   rw [ia ndP hp hu (by show scope.names.lookup y≠_;rw[k];decide)] at q
   exact q
 ·exact e0.hok.fresh (Nat.le_of_lt (x.above y c (PySem.mem_of_lookup h)))
 ·unfold a8
  show _=N.length
  rw [yw,xZ,List.length_replicate]
  omega
theorem uK {CX:CXT}{P:Program}{w:World}{K:PySem.W.Frag}{mg:Str→Option Value}{base:Heap}{k:Nat}{f:Addr}{name qual:Str}{params:Arguments}{body:List Stmt}{scope:Scope}{dV kV doc pm cdv ct oc:Value}{an od:Option Addr}
  {osl:Array (Option Value)}{N ps:List Str}{sp:Sp} (lk:K.lookup f=some ⟨oc,od,.func (PySem.W.fnOf name qual params body scope dV kV doc pm an cdv ct),osl⟩) (hcd:PySem.W.codeIn K cdv qual=true) (S:ay N ps scope)
  (len:∀ vs H Q E,sp vs H Q E→vs.length=ps.length)
  (hbody:∀ (A:Around) (outer:List Env) (s:Shared) (H:Hp) (vs:List V) (Q:VK) (E:XK),ci k (A.deeper (envOfC qual scope s.heap.objs.size f cdv))→sp vs H Q E →
   ∃ t,PSs (jT CX P w K mg base N qual scope f cdv A outer s H E) body t∧t { nx:=fun _ H'=>Q .non H',rt:=Q } (a8 N vs) H) :
  bW P w K mg base CX (k+1) f (PySem.W.fnOf name qual params body scope dV kV doc pm an cdv ct) ps sp:=by
 refine ⟨len,fun A outer s H args us vs Q E hr e0 hb r hsp=>?_⟩
 have hl:=len _ _ _ _ hsp
 have KX:K.In s.heap:=e0.mod.kin.keeps fun b o e=>(e0.bs b o e).1
 have lim:s.heap.NoLimit:=e0.mod.nolimit.keeps fun b o e=>(e0.bs b o e).1
 have hkind:∀ y∈ps.zip us,scope.names.lookup y.1=some .local∨(scope.names.lookup y.1=some .cell∧((cellsFrom (s.heap.objs.size+1) scope.names []).lookup y.1).isSome=true):=fun ⟨n,v⟩ hy=>by
  rcases S.par n (zn hy).1 with q|q
  ·exact .inl q
  ·exact .inr ⟨q,PySem.W.cellsFrom_some _ _ _ (.inl q)⟩
 refine codeAny_call_function hr.depth (KX _ _ lk) rfl S.co S.gen rfl (PySem.W.codeRec_of KX hcd) (hb _ _ _ _ ?_)
 refine wpAny_newFunctionEnv_cells S.kind hkind fun env he s1 x=>?_
 subst he
 refine ⟨lim.keeps x.toInCall.keep,codeAny_func ?_⟩
 obtain ⟨t,ht,hq⟩:=hbody A outer s H vs Q E (hr.deeper _) hsp
 have I:Inv (jT CX P w K mg base N qual scope f cdv A outer s H E) [] (a8 N vs) H s1:=gQ S hr.hd e0 hl r x
 refine wpAny_mono (ht [] s1 (a8 N vs) H _ I hq) (fun fl s' hs=>?_) fun e s' hs=>hs
 have fin:∀ {σ':St}{H':Hp}{v:V}{u:Value},Inv (jT CX P w K mg base N qual scope f cdv A outer s H E) [] σ' H' s'→aY v u→Q v H'→CE outer P w H s Q u s' :=
  fun {σ' H' v u} J rv q=>⟨v,H',J.os,J.bare,J.base,J.hok,rv,q⟩
 cases fl with
 | ret u =>
  obtain ⟨v,σ',H',J,rv,q⟩:=hs
  exact fin J rv q
 | next =>
  obtain ⟨σ',H',J,q⟩:=hs
  exact fin (v:=V.non) (u:=Value.none) J rfl q
 | brk =>
  obtain ⟨_,_,_,q⟩:=hs
  exact False.elim q
 | cont =>
  obtain ⟨_,_,_,q⟩:=hs
  exact False.elim q
section
variable {X:Cx}{x:Str}{p pos:Pos}{e:Expr}{es:List Expr}{t:TA}{id T:String}{r:List V→Hp→VK→Prop}
noncomputable def tCB (r:List V→Hp→VK→Prop) (t:TA):TE:=fun σ H Q=>t σ H fun vs H1=>r vs H1 Q
theorem fw (hc:c7 X (.builtin id) r) (hg:Gl X x) (hm:X.mg x=none) (hv:bootBuiltins x=some (.builtin id)) (ha:PA X (e::es) t) (hn:x ≠ "__name__" := by decide) (hdb:(x==("__debug__" : Str))=false:=by decide)
  (he:starEach (e::es) X.env=(false,eval e X.env)::starEach es X.env:=by rfl) (hpl:(backTo pos (starEach es X.env)).any (·.1)=false:=by rfl):PE X (.Call (.Name x p) (e::es) [] pos) (tCB r t):=by
 intro pins s σ H Q I h
 refine wpAny_Call_Name_kw (fg I hg hm hv ?_ hn hdb)
 exact PyProof.Rows.callWith_builtin1 (thn (ha pos pins s σ H _ I h) fun us s1 ⟨vs,H1,I1,r1,q1⟩=>hc pins s1 σ H1 vs us Q I1 r1 q1) he hpl
theorem lF (hc:c7 X (.type T) r) (hg:Gl X x) (hm:X.mg x=none) (hv:bootBuiltins x=some (.type T)) (ha:PA X (e::es) t) (hn:x ≠ "__name__" := by decide) (hdb:(x==("__debug__" : Str))=false:=by decide)
  (he:starEach (e::es) X.env=(false,eval e X.env)::starEach es X.env:=by rfl) (hpl:(backTo pos (starEach es X.env)).any (·.1)=false:=by rfl):PE X (.Call (.Name x p) (e::es) [] pos) (tCB r t):=by
 intro pins s σ H Q I h
 refine wpAny_Call_Name_kw (fg I hg hm hv ?_ hn hdb)
 exact PyProof.Rows.callWith_type1 (thn (ha pos pins s σ H _ I h) fun us s1 ⟨vs,H1,I1,r1,q1⟩=>hc pins s1 σ H1 vs us Q I1 r1 q1) he hpl
end
end L2
namespace HT
open PySem PyProof.Rows
noncomputable def lexLt:List Int→List Int→Bool
 | [],[]=>false
 | [],_::_=>true
 | _::_,[]=>false
 | x::xs,y::ys=>if x=y then lexLt xs ys else decide (x<y)
theorem lexLt_cons (x y:Int) (xs ys:List Int):lexLt (x::xs) (y::ys)=if x=y then lexLt xs ys else decide (x<y):=rfl
theorem lexLt_nil_nil:lexLt [] []=false:=rfl
theorem lexLt_nil_cons (y:Int) (ys:List Int):lexLt [] (y::ys)=true:=rfl
theorem lexLt_cons_nil (x:Int) (xs:List Int):lexLt (x::xs) []=false:=rfl
section
open PySem.SeqAt
open PySem.AutoSeq1 (wpAny_loadPart')
open PySem.MeetsSeq PySem.MeetsSeq2 PySem.MeetsSeq3
end
section
variable {prog:Program}{w:World}{A:Around}{E:Value→Shared→Prop}{s:Shared}
theorem cat_tup {t b:Addr}{vs ws:List Value}{Q:Value→Shared→Prop} (ht:IsTup s.heap t vs.toArray) (hb:IsTup s.heap b ws.toArray) (hv:vs≠[])
  (h1:ws=[]→Q (.ref t) s) (h2:ws≠[]→Q (.ref s.heap.objs.size) { s with heap:=s.heap.push { cls:=.type "tuple",data:=.seq (vs++ws).toArray } })
  (hsz:vs.length+ws.length≤sizeLine):wpAny (model prog w) A (binaryOp .Add (.ref t) (.ref b)) Q E s:=by
 obtain ⟨⟨cls,dd,data,sl⟩,ho,hc,n,hd⟩:=id ht
 obtain ⟨⟨cls2,dd2,data2,sl2⟩,ho2,hc2,n2,hd2⟩:=id hb
 simp only at hc hd hc2 hd2
 subst hc hd hc2 hd2
 have e:vs.toArray++ws.toArray=(vs++ws).toArray:=by simp
 by_cases hw:ws=[]
 ·exact concat_meets ⟨_,ho,rfl⟩ ⟨_,ho2,rfl⟩ noFill_tuple_add seq_tuple_add PySem.F.slot_tuple_add PySem.F.entry_tuple_add (PySem.F.args_tuple_add_2 _ _)
   (tuple_addW1 t b vs.toArray ws.toArray n n2 dd dd2 sl sl2 (by simpa using hv) (by simp[hw])) ⟨ho,ho2,h1 hw⟩
 ·refine concat_meets ⟨_,ho,rfl⟩ ⟨_,ho2,rfl⟩ noFill_tuple_add seq_tuple_add PySem.F.slot_tuple_add PySem.F.entry_tuple_add (PySem.F.args_tuple_add_2 _ _)
   (tuple_addW2 t b vs.toArray ws.toArray n n2 dd dd2 sl sl2 (by simpa using hv) (by simpa using hw) (by rw[yh,yh];exact hsz)) ⟨ho,ho2,?_⟩
  rw [e]
  exact h2 hw
noncomputable def sIx (n d:Nat):Option Int→Nat
 | none=>d
 | some v=>if v<0 then (v+(n:Int)).toNat else min v.toNat n
theorem sIx_none (n d:Nat):sIx n d none=d:=rfl
theorem sIx_nat (n d k:Nat):sIx n d (some (k:Int))=min k n:=by
 show (if (k:Int)<0 then ((k:Int)+(n:Int)).toNat else min (k:Int).toNat n)=min k n
 rw [if_neg (by omega),yI]
end
end HT
namespace L2
open PySem PySem.Spec PyProof.Rows
noncomputable abbrev TO:=St→Hp→(Option Int→Hp→Prop)→Prop
noncomputable def PO (X:Cx) (e:Option Expr) (t:TO):Prop :=
 ∀ (pins:List (Addr×Obj)) (s:Shared) (σ:St) (H:Hp) (Q:Option Int→Hp→Prop),Inv X pins σ H s→t σ H Q →
  wpAny (model X.prog X.w) X.A (evalPart e X.env) (fun u s'=>∃ o H',Inv X pins σ H' s'∧IsPart u o∧Q o H') X.xe s
noncomputable def qz:TO:=fun _ H Q=>Q none H
noncomputable def vO (t:TE):TO:=fun σ H Q=>t σ H fun x H1=>∃ i,x=.int i∧Q (some i) H1
section
variable {X:Cx}{e:Expr}{te:TE}{lo hi:Option Expr}{tl th:TO}{pos p2:Pos}
theorem qW:PO X none qz:=by
 intro pins s σ H Q I h
 rw [evalPart_none]
 exact wpAny_pure ⟨none,H,I,.none,h⟩
theorem qV (h:PE X e te):PO X (some e) (vO te):=by
 intro pins s σ H Q I hw
 rw [evalPart_some]
 refine thn (h pins s σ H _ I hw) fun u s1 ⟨x,H1,I1,r1,q1⟩=>?_
 obtain ⟨i,rfl,q⟩:=q1
 obtain ⟨t,rfl⟩:=r1
 exact ⟨some i,H1,I1,.int i t,q⟩
noncomputable def SlR (X:Cx) (r:V→Option Int→Option Int→Hp→VK→Prop):Prop :=
 ∀ (pins:List (Addr×Obj)) (s:Shared) (σ:St) (H:Hp) (x:V) (v vl vu:Value) (lo hi:Option Int) (sl:Addr) (Q:VK),Inv X pins σ H s→aY x v→s.heap.IsSliceOf sl vl vu .none→IsPart vl lo→IsPart vu hi→r x lo hi H Q →
  ∃ T id,typeLookup (.type T) "__getitem__" = pure (some (.builtin id))∧s.TypeIs v T∧wpAny (model X.prog X.w) X.A (getItem v (.ref sl)) (EP X pins σ Q) X.xe s
theorem SlR.or {r r':V→Option Int→Option Int→Hp→VK→Prop} (h:SlR X r) (h':SlR X r'):SlR X (fun x lo hi H Q=>r x lo hi H Q∨r' x lo hi H Q):=by
 intro pins s σ H x v vl vu lo hi sl Q I rx hs pl pu q
 rcases q with q|q
 ·exact h pins s σ H x v vl vu lo hi sl Q I rx hs pl pu q
 ·exact h' pins s σ H x v vl vu lo hi sl Q I rx hs pl pu q
noncomputable def tSl (r:V→Option Int→Option Int→Hp→VK→Prop) (te:TE) (tl th:TO):TE:=fun σ H Q=>te σ H fun x H1=>tl σ H1 fun l H2=>th σ H2 fun u H3=>r x l u H3 Q
theorem nA {r:V→Option Int→Option Int→Hp→VK→Prop} (hr:SlR X r) (he:PE X e te) (hl:PO X lo tl) (hu:PO X hi th):PE X (.Subscript e (.Slice lo hi none p2) pos) (tSl r te tl th):=by
 intro pins s σ H Q I h
 refine Subscript_ (thn (he pins s σ H _ I h) fun v s1 ⟨x,H1,I1,r1,q1⟩=>?_)
 refine wpAny_Slice (thn (hl pins s1 σ H1 _ I1 q1) fun vl s2 ⟨l,H2,I2,pl,q2⟩=>thn (hu pins s2 σ H2 _ I2 q2) fun vu s3 ⟨u,H3,I3,pu,q3⟩=>?_)
 rw [evalPart_none]
 refine wpAny_pure ?_
 have I4:Inv X pins σ H3 { s3 with heap:=s3.heap.push { cls:=.type "slice",data:=.fields #[vl,vu,.none] } }:=I3.kept (t':=s3.toks) fun b ob q=>yf _ q
 obtain ⟨T,id,hT,ht,hg⟩:=hr pins { s3 with heap:=s3.heap.push { cls:=.type "slice",data:=.fields #[vl,vu,.none] } } σ H3 x v vl vu l u s3.heap.objs.size Q I4 r1 (Heap.IsSliceOf.new ..) pl pu q3
 show wpAny (model X.prog X.w) X.A (subscriptTail e (.Slice lo hi none p2) v (.ref s3.heap.objs.size)) (EP X pins σ Q) X.xe { s3 with heap:=s3.heap.push { cls:=.type "slice",data:=.fields #[vl,vu,.none] } }
 exact tail_any (ops:=[.ref s3.heap.objs.size,v]) ht hT hg (by with_unfolding_all rfl)
noncomputable def sP (xs:List V) (lo hi:Option Int):List V:=(xs.drop (HT.sIx xs.length 0 lo)).take (HT.sIx xs.length xs.length hi - HT.sIx xs.length 0 lo)
theorem iT (xs:List V) (lo hi:Option Int):(sP xs lo hi).length≤xs.length:=by
 unfold sP
 rw [List.length_take,List.length_drop]
 omega
noncomputable def vX (K:PySem.W.Frag):R2:=fun x y H Q=>∃ a b xs ys,x=.ref a∧y=.ref b∧SqT K H a xs∧SqT K H b ys∧xs≠[]∧xs.length+ys.length≤sizeLine ∧
 (ys=[]→Q (.ref a) H)∧(ys≠[]→∀ p,H p=none→Q (.ref p) (upd H p (.tup (xs++ys))))
theorem aA.nil_iff {xs:List V}{us:List Value} (r:aA xs us):us=[]↔xs=[]:=by
 cases r with
 | nil=>simp
 | cons _ _=>simp
theorem rn:OpR X (binaryOp .Add) (vX X.K):=by
 intro pins s σ H x y v u Q I rx ry h
 obtain ⟨a,b,xs,ys,rfl,rfl,ha,hb,hx,hz,q1,q2⟩:=h
 cases rx
 cases ry
 obtain ⟨its,r1,p1,_⟩:=I.tuple ha
 obtain ⟨its2,r2,p2,_⟩:=I.tuple hb
 refine HT.cat_tup p1 p2 (fun z=>hx (r1.nil_iff.mp z)) (fun z=>⟨.ref a,H,I,rfl,q1 (r2.nil_iff.mp z)⟩) (fun z=>?_) (by rw[←r1.length,←r2.length];exact hz)
 refine ⟨.ref s.heap.objs.size,_,I.laid (t':=s.toks) (o:=.tup (xs++ys)) (fun b ob q=>yf _ q) (yl _) ?_,rfl,q2 (fun w=>z (r2.nil_iff.mpr w)) _ (I.hok.fresh (yl _))⟩
 exact ⟨by rw[yw];exact hz,_,r1.append r2,mZ.new _ _⟩
end
noncomputable def ixN (n:Nat) (i:Int):Option Nat:=if 0≤i then (if i<n then some i.toNat else none) else if -(n:Int)≤i then some (i+n).toNat else none
noncomputable def atI {α:Type} (xs:List α) (i:Int):Option α:=(ixN xs.length i).bind fun j=>xs[j]?
theorem lU {n:Nat}{i:Int}{j:Nat} (h:ixN n i=some j):seqIndex? i n=some j∧j<n∧-(n:Int)≤i∧i<n:=by
 unfold ixN at h
 by_cases h0:0≤i
 ·rw [if_pos h0] at h
  by_cases h1:i<n
  ·rw [if_pos h1] at h
   have e:i.toNat=j:=Option.some.inj h
   exact ⟨by rw[seqIndex_of h0 h1,e],by omega,by omega,h1⟩
  ·rw [if_neg h1] at h;cases h
 ·rw [if_neg h0] at h
  by_cases h1:-(n:Int)≤i
  ·rw [if_pos h1] at h
   have e:(i+n).toNat=j:=Option.some.inj h
   exact ⟨by rw[seqIndex_neg (by omega) h1,e],by omega,h1,by omega⟩
  ·rw [if_neg h1] at h;cases h
theorem mK {α:Type}{xs:List α}{i:Int}{v:α} (h:atI xs i=some v):∃ j,seqIndex? i xs.length=some j∧xs[j]? = some v∧j<xs.length∧-(xs.length:Int)≤i∧i<xs.length:=by
 unfold atI at h
 cases e:ixN xs.length i with
 | none=>rw[e] at h;cases h
 | some j =>
  rw [e] at h
  obtain ⟨h1,h2,h3,h4⟩:=lU e
  exact ⟨j,h1,h,h2,h3,h4⟩
theorem bV {α:Type}{xs:List α}{j:Nat}{v:α} (h:xs[j]? = some v):atI xs (j:Int)=some v:=by
 have hj:j<xs.length:=(yc.mp h).1
 have e:ixN xs.length (j:Int)=some j:=by
  unfold ixN
  rw [if_pos (by omega),if_pos (by omega)];simp
 unfold atI;rw[e];exact h
noncomputable def mN (b:Expr):Prop:=∀ o i,subscripted b false o i=operate [o,i] (getItem o i)
noncomputable def IxR (X:Cx) (r:R2):Prop :=
 ∀ (value slice:Expr) (pins:List (Addr×Obj)) (s:Shared) (σ:St) (H:Hp) (x y:V) (v u:Value) (Q:VK),Inv X pins σ H s→aY x v→aY y u→r x y H Q →
  subscripted slice false v u=operate [v,u] (getItem v u)→wpAny (model X.prog X.w) X.A (subscriptTail value slice v u) (EP X pins σ Q) X.xe s
noncomputable def MtR (X:Cx) (id:String) (r:V→List V→Hp→VK→Prop):Prop :=
 ∀ (pins:List (Addr×Obj)) (s:Shared) (σ:St) (H:Hp) (x:V) (xs:List V) (v:Value) (us:List Value) (Q:VK),Inv X pins σ H s→aY x v→aA xs us→r x xs H Q →
  wpAny (model X.prog X.w) X.A (call (.builtin id) (v::us)) (EP X pins σ Q) X.xe s
section
variable {X:Cx}{a b:Expr}{ta tb:TE}{pos:Pos}
theorem IxR.or {r r':R2} (h:IxR X r) (h':IxR X r'):IxR X (fun x y H Q=>r x y H Q∨r' x y H Q):=by
 intro value slice pins s σ H x y v u Q I rx ry q hs
 rcases q with q|q
 ·exact h value slice pins s σ H x y v u Q I rx ry q hs
 ·exact h' value slice pins s σ H x y v u Q I rx ry q hs
theorem MtR.or {id:String}{r r':V→List V→Hp→VK→Prop} (h:MtR X id r) (h':MtR X id r'):MtR X id (fun x xs H Q=>r x xs H Q∨r' x xs H Q):=by
 intro pins s σ H x xs v us Q I rx rs q
 rcases q with q|q
 ·exact h pins s σ H x xs v us Q I rx rs q
 ·exact h' pins s σ H x xs v us Q I rx rs q
theorem v6 {r:R2} (hr:IxR X r) (ha:PE X a ta) (hb:PE X b tb) (hs:mN b):PE X (.Subscript a b pos) (tOp r ta tb):=by
 intro pins s σ H Q I h
 exact Subscript_ (wQ ha hb I h fun v u s2 x y H2 I2 rx ry q=>hr a b pins s2 σ H2 x y v u Q I2 rx ry q (hs _ _))
noncomputable def w9 (K:PySem.W.Frag):R2:=fun x y H Q=>∃ p xs i v,x=.ref p∧y=.int i∧SqL K H p xs∧atI xs i=some v∧Q v H
noncomputable def w4 (K:PySem.W.Frag):R2:=fun x y H Q=>∃ p xs i v,x=.ref p∧y=.int i∧SqT K H p xs∧atI xs i=some v∧Q v H
theorem rQ:IxR X (w9 X.K):=by
 intro value slice pins s σ H x y v u Q I rx ry h hs
 obtain ⟨p,xs,i,z,rfl,rfl,hq,he,q⟩:=h
 cases rx
 obtain ⟨t,rfl⟩:=ry
 obtain ⟨its,r,pl,hz⟩:=I.list hq
 obtain ⟨j,h1,h2,h3,h4,h5⟩:=mK he
 obtain ⟨w,ew,rw'⟩:=r.get h2
 have hl:=r.length
 have hn:=jx
 have fin:EP X pins σ Q w s:=⟨z,H,I,rw',q⟩
 by_cases h0:0≤i
 ·have hj:i.toNat=j:=by
   rw [seqIndex_of h0 h5] at h1
   exact Option.some.inj h1
  exact item_listR pl.isList h0 (by omega) (by rw[hj];simpa using ew) fin hs
 ·have hj:(i+(its.toArray.size:Int)).toNat=j:=by
   rw [seqIndex_neg (by omega) h4] at h1
   rw [yh,←hl]
   exact Option.some.inj h1
  exact subscriptTail_builtinR (x:=w) pl.isList.typeIs slot_list_getitem.lookup
   (wpAny_getItem_list_neg (Q:=fun r s'=>r=w∧EP X pins σ Q r s') pl.isList (by omega) (by rw[yh] <;> omega) (by omega) (by rw[hj];simpa using ew) ⟨rfl,fin⟩) hs
theorem uF:IxR X (w4 X.K):=by
 intro value slice pins s σ H x y v u Q I rx ry h hs
 obtain ⟨p,xs,i,z,rfl,rfl,hq,he,q⟩:=h
 cases rx
 obtain ⟨t,rfl⟩:=ry
 obtain ⟨its,r,pl,hz⟩:=I.tuple hq
 obtain ⟨j,h1,h2,h3,h4,h5⟩:=mK he
 obtain ⟨w,ew,rw'⟩:=r.get h2
 have hl:=r.length
 have hn:=jx
 have fin:EP X pins σ Q w s:=⟨z,H,I,rw',q⟩
 exact subscriptTail_builtinR (x:=w) pl.typeIs slot_tuple_getitem.lookup
  (getItem_tuple (j:=j) (Q:=fun r s'=>r=w∧EP X pins σ Q r s') pl (by omega) (by omega) (by rw[yh,←hl];exact h1) (by simpa using ew) ⟨rfl,fin⟩) hs
theorem kj (its:List Value) (n j:Nat) (u:Value):Obj.mapSeq (·.setIfInBounds j u) { cls:=.type "list",data:=.seq its.toArray n }={ cls:=.type "list",data:=.seq (its.set j u).toArray n }:=by
 simp [Obj.mapSeq]
theorem Inv.lst {pins:List (Addr×Obj)}{σ:St}{H:Hp}{s:Shared}{p:Addr}{xs:List V} (I:Inv X pins σ H s) (h:H p=some (.lst xs)) :
  ∃ (its:List Value) (n:Nat),aA xs its∧s.heap.get? p=some { cls:=.type "list",data:=.seq its.toArray n }∧xs.length≤sizeLine:=by
 obtain ⟨z,its,n,r,e⟩:=I.hok p _ h
 exact ⟨its,n,r,e,z⟩
theorem Inv.lstUpd {pins:List (Addr×Obj)}{σ:St}{H:Hp}{s:Shared}{p:Addr}{xs ys:List V}{its its':List Value}{n n':Nat}{f:Obj→Obj} (I:Inv X pins σ H s) (h:H p=some (.lst xs))
  (ho:s.heap.get? p=some { cls:=.type "list",data:=.seq its.toArray n }) (hf:f { cls:=.type "list",data:=.seq its.toArray n }={ cls:=.type "list",data:=.seq its'.toArray n' }) (r:aA ys its') (hz:ys.length≤sizeLine) (t:Nat) :
  Inv X pins σ (upd H p (.lst ys)) { s with heap:=s.heap.update p f,toks:=t }:=by
 have e:(s.heap.update p f).get? p=some { cls:=.type "list",data:=.seq its'.toArray n' }:=by
  rw [Heap.get?_update_self f ho (by rw[hf] <;> rfl),hf]
 refine I.write (x:=p) (e:=p) (by rw[h];trivial) (.inl rfl) (fun b u hb q=>(Heap.get?_update_other _ _ (Ne.symm hb)).trans q) ⟨_,e⟩ ?_
 exact ⟨hz,its',n',r,e⟩
noncomputable def vU:V→V→V→Hp→(Hp→Prop)→Prop:=fun o i v H Q=>∃ p xs k j,o=.ref p∧i=.int k∧H p=some (.lst xs)∧ixN xs.length k=some j∧Q (upd H p (.lst (xs.set j v)))
theorem nh:xj X vU:=by
 intro pins s σ H o i v ov iv u Q I ro ri rv h
 obtain ⟨p,xs,k,j,rfl,rfl,hp,hj,q⟩:=h
 cases ro
 obtain ⟨t,rfl⟩:=ri
 obtain ⟨its,n,r,ho,hz⟩:=I.lst hp
 obtain ⟨h1,h2,h3,h4⟩:=lU hj
 have hl:=r.length
 have hn:=jx
 have I':Inv X pins σ (upd H p (.lst (xs.set j v))) { s with heap:=s.heap.update p (Obj.mapSeq (·.setIfInBounds j u)) } :=
  I.lstUpd hp ho (kj its n j u) (r.set rv j) (by rw[ze];exact hz) s.toks
 by_cases h0:0≤k
 ·have hk:k.toNat=j:=by
   rw [seqIndex_of h0 h4] at h1
   exact Option.some.inj h1
  exact PySem.W.ki_setAt ho h0 (by omega) (by rw[yh,←hl];exact h4) (by rw[hk];exact⟨_,I',q⟩)
 ·have hk:(k+(its.toArray.size:Int)).toNat=j:=by
   rw [seqIndex_neg (by omega) h3] at h1
   rw [yh,←hl]
   exact Option.some.inj h1
  exact PySem.W.ki_setBack ho (by omega) (by rw[yh,←hl];exact h3) (by omega) (by rw[hk];exact⟨_,I',q⟩)
theorem gd (lo hi:Option Int) (n:Nat):(sliceBounds lo hi none n).1=((HT.sIx n 0 lo:Nat):Int)∧(sliceBounds lo hi none n).2.1=((HT.sIx n n hi:Nat):Int)∧(sliceBounds lo hi none n).2.2=1:=by
 refine ⟨?_,?_,rfl⟩
 ·cases lo with
  | none=>simp[sliceBounds,HT.sIx]
  | some i =>
   simp only [sliceBounds,HT.sIx,Option.getD_none,show (1:Int)>0 by decide,if_true]
   by_cases h:i<0
   ·simp only [h,if_true] <;> omega
   ·simp only [h,if_false] <;> omega
 ·cases hi with
  | none=>simp[sliceBounds,HT.sIx]
  | some i =>
   simp only [sliceBounds,HT.sIx,Option.getD_none,show (1:Int)>0 by decide,if_true]
   by_cases h:i<0
   ·simp only [h,if_true] <;> omega
   ·simp only [h,if_false] <;> omega
theorem fq (its:List Value) (lo hi:Option Int):slicePick its.toArray lo hi none=((its.drop (HT.sIx its.length 0 lo)).take (HT.sIx its.length its.length hi - HT.sIx its.length 0 lo)).toArray:=by
 obtain ⟨h1,h2,h3⟩:=gd lo hi its.toArray.size
 unfold slicePick
 rw [h1,h2,h3]
 simp only [sliceRange_one,pick_run,yh] <;> rfl
noncomputable def wZ (K:PySem.W.Frag):V→Option Int→Option Int→Hp→VK→Prop:=fun x lo hi H Q=>∃ a xs,x=.ref a∧SqL K H a xs∧∀ p,H p=none→Q (.ref p) (upd H p (.lst (sP xs lo hi)))
theorem qD:SlR X (wZ X.K):=by
 intro pins s σ H x v vl vu lo hi sl Q I rx hs pl pu h
 obtain ⟨a,xs,rfl,hx,q⟩:=h
 cases rx
 obtain ⟨its,r,ht,hz⟩:=I.list hx
 have hlen:=r.length
 refine ⟨"list",_,slot_list_getitem.lookup,ht.isList.typeIs,?_⟩
 refine wpAny_getItem_list_slice ht.isList hs pl pu .none (by simp) ?_ (by rw[yh] <;> omega)
 rw [fq,←hlen]
 refine ⟨.ref s.heap.objs.size,_,I.laid (t':=s.toks) (o:=.lst (sP xs lo hi)) (fun b ob q=>yf _ q) (yl _) ?_,rfl,q _ (I.hok.fresh (yl _))⟩
 exact ⟨yg (iT xs lo hi) hz,_,0,(r.drop (HT.sIx xs.length 0 lo)).take (HT.sIx xs.length xs.length hi - HT.sIx xs.length 0 lo),yp _ rfl⟩
noncomputable def fG:V→Bool
 | .non=>true
 | .bl _=>true
 | .int _=>true
 | .str _=>true
 | _=>false
noncomputable def eqV:V→V→Bool
 | .non,.non=>true
 | .bl a,.bl b=>a==b
 | .bl a,.int b=>(if a then 1 else 0)==b
 | .int a,.bl b=>a==(if b then 1 else 0)
 | .int a,.int b=>a==b
 | .str a,.str b=>a==b
 | _,_=>false
theorem uT {A:Around}{s:Shared}{y x:V}{u v:Value} (ry:aY y u) (rx:aY x v) (fy:fG y=true) (fx:fG x=true):SeqAt.EqAt A s u v (eqV y x):=by
 cases y with
 | non =>
  cases ry
  cases x with
  | non=>cases rx;exact SeqAt.EqAt.same _
  | bl b=>cases rx;exact SeqAt.EqAt.none_bool b
  | int b=>obtain⟨t,rfl⟩:=rx;exact SeqAt.EqAt.none_int b t
  | str b=>obtain⟨t,rfl⟩:=rx;exact SeqAt.EqAt.none_str b t
  | _=>exact absurd (show false=true from fx) yn
 | bl a =>
  cases ry
  cases x with
  | non=>cases rx;exact SeqAt.EqAt.bool_none a
  | bl b=>cases rx;exact SeqAt.EqAt.bool_bool a b
  | int b=>obtain⟨t,rfl⟩:=rx;exact SeqAt.EqAt.bool_int a b t
  | str b=>obtain⟨t,rfl⟩:=rx;exact SeqAt.EqAt.bool_str a b t
  | _=>exact absurd (show false=true from fx) yn
 | int a =>
  obtain ⟨t',rfl⟩:=ry
  cases x with
  | non=>cases rx;exact SeqAt.EqAt.int_none a t'
  | bl b=>cases rx;exact SeqAt.EqAt.int_bool a t' b
  | int b=>obtain⟨t,rfl⟩:=rx;exact SeqAt.EqAt.int_int a t' b t
  | str b=>obtain⟨t,rfl⟩:=rx;exact SeqAt.EqAt.int_str a t' b t
  | _=>exact absurd (show false=true from fx) yn
 | str a =>
  obtain ⟨t',rfl⟩:=ry
  cases x with
  | non=>cases rx;exact SeqAt.EqAt.str_none a t'
  | bl b=>cases rx;exact SeqAt.EqAt.str_bool a t' b
  | int b=>obtain⟨t,rfl⟩:=rx;exact SeqAt.EqAt.str_int a t' b t
  | str b=>obtain⟨t,rfl⟩:=rx;exact SeqAt.EqAt.str_str a t' b t
  | _=>exact absurd (show false=true from fx) yn
 | _=>exact absurd (show false=true from fy) yn
noncomputable def eqU (x:V) (u:Value):Bool:=match u with
 | .none=>eqV .non x
 | .bool b=>eqV (.bl b) x
 | .int i _=>eqV (.int i) x
 | .str z _=>eqV (.str z) x
 | _=>false
theorem pU {x y:V}{u:Value} (r:aY y u) (f:fG y=true):eqU x u=eqV y x:=by
 cases y with
 | non=>cases r;rfl
 | bl b=>cases r;rfl
 | int i=>obtain⟨t,rfl⟩:=r;rfl
 | str z=>obtain⟨t,rfl⟩:=r;rfl
 | _=>exact absurd (show false=true from f) yn
theorem eK {x:V}:∀ {xs:List V}{us:List Value},aA xs us→xs.all fG=true→us.any (eqU x)=xs.any fun y=>eqV y x
 | _,_,.nil,_=>rfl
 | y::xs,u::us,.cons r t,f=>by
  rw [List.all_cons,yG] at f
  rw [List.any_cons,List.any_cons,pU r f.1,eK t f.2]
theorem cW {A:Around}{s:Shared}{x:V}{v:Value} (rx:aY x v) (fx:fG x=true):∀ {xs:List V}{us:List Value},aA xs us→xs.all fG=true→∀ u∈us,SeqAt.EqAt A s u v (eqU x u)
 | _,_,.nil,_=>fun u hu=>by cases hu
 | y::xs,u::us,.cons r t,f=>fun u' hu=>by
  rw [List.all_cons,yG] at f
  rcases ye.mp hu with rfl|hu
  ·rw [pU r f.1];exact uT r rx f.1 fx
  ·exact cW rx fx t f.2 u' hu
noncomputable def inV (x:V) (xs:List V):Bool:=xs.any fun y=>eqV y x
noncomputable def rIn (K:PySem.W.Frag) (neg:Bool):R2:=fun x y H Q=>∃ p xs,y=.ref p∧(SqL K H p xs∨SqT K H p xs)∧fG x=true∧xs.all fG=true∧Q (.bl (if neg then !inV x xs else inV x xs)) H
theorem lL:OpR X (compareOp .In) (rIn X.K false):=by
 intro pins s σ H x y v u Q I rx ry h
 obtain ⟨p,xs,rfl,hq,fx,fs,q⟩:=h
 cases ry
 rcases hq with hq|hq
 ·obtain ⟨its,r,pl,hz⟩:=I.list hq
  refine SeqAt.in_listAt (eqU x) pl.isList (fun w hw=>cW rx fx r fs w (by simpa using hw)) ⟨.bl _,H,I,rfl,?_⟩
  rw [show its.toArray.any (eqU x)=its.any (eqU x) by simp,eK r fs]
  exact q
 ·obtain ⟨its,r,pl,hz⟩:=I.tuple hq
  refine SeqAt.in_tupleAt (eqU x) pl (fun w hw=>cW rx fx r fs w (by simpa using hw)) ⟨.bl _,H,I,rfl,?_⟩
  rw [show its.toArray.any (eqU x)=its.any (eqU x) by simp,eK r fs]
  exact q
theorem gn:OpR X (compareOp .NotIn) (rIn X.K true):=by
 intro pins s σ H x y v u Q I rx ry h
 obtain ⟨p,xs,rfl,hq,fx,fs,q⟩:=h
 cases ry
 rcases hq with hq|hq
 ·obtain ⟨its,r,pl,hz⟩:=I.list hq
  refine SeqAt.notIn_listAt (eqU x) pl.isList (fun w hw=>cW rx fx r fs w (by simpa using hw)) ⟨.bl _,H,I,rfl,?_⟩
  rw [show its.toArray.any (eqU x)=its.any (eqU x) by simp,eK r fs]
  exact q
 ·obtain ⟨its,r,pl,hz⟩:=I.tuple hq
  refine SeqAt.notIn_tupleAt (eqU x) pl (fun w hw=>cW rx fx r fs w (by simpa using hw)) ⟨.bl _,H,I,rfl,?_⟩
  rw [show its.toArray.any (eqU x)=its.any (eqU x) by simp,eK r fs]
  exact q
theorem hV:c7 X (.builtin "len") (fun xs H Q=>∃ p ys,xs=[.ref p]∧(SqL X.K H p ys∨SqT X.K H p ys)∧Q (.int ys.length) H):=by
 intro pins s σ H xs us Q I r h
 obtain ⟨p,ys,rfl,hq,q⟩:=h
 obtain ⟨u,rfl,rx⟩:=kI r
 cases rx
 have hn:=jx
 rcases hq with hq|hq
 ·obtain ⟨its,r',pl,hz⟩:=I.list hq
  have hlen:=r'.length
  exact Calls.call_len_list pl.isList (by simp only [yh] <;> omega) ⟨.int ys.length,H,I.tok _,⟨s.toks+1,by rw[yh,hlen]⟩,q⟩
 ·obtain ⟨its,r',pl,hz⟩:=I.tuple hq
  have hlen:=r'.length
  exact len_tuple pl (by simp only [yh] <;> omega) ⟨.int ys.length,H,I.tok _,⟨s.toks+1,by rw[yh,hlen]⟩,q⟩
theorem c7.or {f:Value}{r r':List V→Hp→VK→Prop} (h:c7 X f r) (h':c7 X f r'):c7 X f (fun xs H Q=>r xs H Q∨r' xs H Q):=by
 intro pins s σ H xs us Q I rs q
 rcases q with q|q
 ·exact h pins s σ H xs us Q I rs q
 ·exact h' pins s σ H xs us Q I rs q
theorem fQ:c7 X (.type "tuple") (fun xs H Q=>∃ p ys,xs=[.ref p]∧((SqL X.K H p ys∧∀ l,H l=none→Q (.ref l) (upd H l (.tup ys)))∨(SqT X.K H p ys∧Q (.ref p) H))):=by
 intro pins s σ H xs us Q I r h
 obtain ⟨p,ys,rfl,h⟩:=h
 obtain ⟨u,rfl,rx⟩:=kI r
 cases rx
 rcases h with ⟨hq,q⟩|⟨hq,q⟩
 ·obtain ⟨its,r',pl,hz⟩:=I.list hq
  have hlen:=r'.length
  refine call_tuple_list pl.isList (fun h' kp=>?_) (by simp only [yh] <;> omega)
  have I1:Inv X pins σ H { s with heap:=h' }:=I.kept (t':=s.toks) kp
  have I2:Inv X pins σ (upd H h'.objs.size (.tup ys)) { s with heap:=h'.push { cls:=.type "tuple",data:=.seq its.toArray } } :=
   I1.laid (t':=s.toks) (fun b o e=>yf _ e) (yl _) (show cB X.prog X.w _ _ _ (.tup ys) from ⟨hz,its,r',mZ.new _ _⟩)
  exact ⟨.ref h'.objs.size,_,I2,rfl,q _ (I1.hok.fresh (yl _))⟩
 ·obtain ⟨its,r',pl,hz⟩:=I.tuple hq
  exact call_tuple_same pl ⟨.ref p,H,I,rfl,q⟩
noncomputable def tyV (K:PySem.W.Frag) (T:String) (x:V) (H:Hp):Prop:=match x with
 | .str _=>T = "str"
 | .int _=>T = "int"
 | .ref p=>(T = "list" ∧ ∃ xs,SqL K H p xs)∨(T = "tuple" ∧ ∃ xs,SqT K H p xs) ∨
   (T = "dict" ∧ ((∃ kvs,H p=some (.dK kvs))∨∃ kvs,H p=some (.dT kvs)))∨(T = "set" ∧ ∃ S n,H p=some (.set S n))
 | _=>False
theorem o9 {pins:List (Addr×Obj)}{σ:St}{H:Hp}{s:Shared}{T:String}{x:V}{v:Value} (I:Inv X pins σ H s) (r:aY x v) (ty:tyV X.K T x H) :
  s.TypeIs v T∧∀ a,v=.ref a→∃ ob,s.heap.get? a=some ob∧ob.dict=none:=by
 cases x with
 | str z =>
  obtain ⟨t,rfl⟩:=r
  cases (show T = "str" from ty)
  exact ⟨typeIs_str s z t,fun _ e=>nomatch e⟩
 | int i =>
  obtain ⟨t,rfl⟩:=r
  cases (show T = "int" from ty)
  exact ⟨typeIs_int s i t,fun _ e=>nomatch e⟩
 | ref p =>
  cases r
  rcases ty with ⟨rfl,xs,hq⟩|⟨rfl,xs,hq⟩|⟨rfl,hk⟩|⟨rfl,S,n,hk⟩
  ·obtain ⟨its,_,pl,_⟩:=I.list hq
   refine ⟨pl.isList.typeIs,fun a e=>?_⟩
   cases e
   obtain ⟨o,n,e,c,hd,_⟩:=pl
   exact ⟨o,e,hd⟩
  ·obtain ⟨its,_,o,e,hc,_,hd⟩:=I.tupleN hq
   refine ⟨⟨o,e,hc⟩,fun a e'=>?_⟩
   cases e'
   exact ⟨o,e,hd⟩
  ·have z:∃ o,s.heap.get? p=some o∧o.ExactDict:=by
    rcases hk with ⟨kvs,hk⟩|⟨kvs,hk⟩
    ·obtain ⟨_,_,_,_,o,_,_,e,ex,_⟩:=I.hok p _ hk
     exact ⟨o,e,ex⟩
    ·obtain ⟨_,_,_,_,o,_,_,e,ex,_⟩:=I.hok p _ hk
     exact ⟨o,e,ex⟩
   obtain ⟨o,e,ex⟩:=z
   refine ⟨⟨o,e,ex.1⟩,fun a e2=>?_⟩
   cases e2
   exact ⟨o,e,ex.2.1⟩
  ·obtain ⟨o,_,_,_,e,ex,_⟩:=I.hok p _ hk
   refine ⟨⟨o,e,ex.1⟩,fun a e2=>?_⟩
   cases e2
   exact ⟨o,e,ex.2.1⟩
 | _=>exact False.elim ty
noncomputable def wX (K:PySem.W.Frag) (T:String) (r:V→List V→Hp→VK→Prop) (to:TE):TE:=fun σ H Q=>to σ H fun x H1=>tyV K T x H1∧r x [] H1 Q
noncomputable def tBM (K:PySem.W.Frag) (T:String) (r:V→List V→Hp→VK→Prop) (to:TE) (t:TA):TE:=fun σ H Q=>to σ H fun x H1=>tyV K T x H1∧t σ H1 fun xs H2=>r x xs H2 Q
variable {o e:Expr}{es:List Expr}{to:TE}{t:TA}{name:Str}{apos cpos:Pos}{T id:String}{r:V→List V→Hp→VK→Prop}
theorem ud (pa:PlainAttrs T) (slot:Slot T name id) (hty:typeOf (.builtin id)=pure (.type "method_descriptor")) (hm:MtR X id r) (ho:PE X o to)
  (hbase:attributeBase o name X.env (eval o X.env)=eval o X.env:=by rfl) (hline:(apos.endLine==cpos.line)=true:=by rfl):PE X (.Call (.Attribute o name apos) [] [] cpos) (wX X.K T r to):=by
 intro pins s σ H Q I h
 refine wpAny_Call_method0_late hbase hline (thn (ho pins s σ H _ I h) fun v s1 ⟨x,H1,I1,r1,ty,q1⟩=>?_)
 obtain ⟨h1,h2⟩:=o9 I1 r1 ty
 exact ⟨T,id,pa,slot,hty,h1,h2,Calls.callWith_builtin rfl (PySem.evalArgs_none (hm pins s1 σ H1 x [] v [] Q I1 r1 .nil q1))⟩
theorem v7 (pa:PlainAttrs T) (slot:Slot T name id) (hty:typeOf (.builtin id)=pure (.type "method_descriptor")) (hm:MtR X id r) (ho:PE X o to) (ha:PA X (e::es) t)
  (hbase:attributeBase o name X.env (eval o X.env)=eval o X.env:=by rfl)
  (hfew:((backTo cpos (starEach (e::es) X.env)).all (fun x=>!x.1)&&(backToKw cpos (keywordEach [] X.env)).all (fun x=>x.1.isSome)
   && decide ((e::es).length+([]:List Keyword).length+(if ([]:List Keyword).isEmpty then 0 else 1)<30))=true:=by rfl)
  (hline:(apos.endLine==cpos.line)=true:=by rfl) (hs:starEach (e::es) X.env=(false,eval e X.env)::starEach es X.env:=by rfl) (hplain:(backTo cpos (starEach es X.env)).any (·.1)=false:=by rfl) :
  PE X (.Call (.Attribute o name apos) (e::es) [] cpos) (tBM X.K T r to t):=by
 intro pins s σ H Q I h
 refine wpAny_Call_method_late hbase hfew hline rfl (thn (ho pins s σ H _ I h) fun v s1 ⟨x,H1,I1,r1,ty,q1⟩=>?_)
 obtain ⟨h1,h2⟩:=o9 I1 r1 ty
 refine ⟨T,id,pa,slot,hty,h1,h2,?_⟩
 have hA:=ha cpos pins s1 σ H1 _ I1 q1
 rw [hs] at hA ⊢
 refine Calls.callWith_builtin (by show (false || (backTo cpos (starEach es X.env)).any (·.1))=false;rw[hplain] <;> rfl) (Calls.evalArgs_plain ?_)
 exact thn hA fun us s2 ⟨vs,H2,I2,r2,q2⟩=>hm pins s2 σ H2 x vs v us Q I2 r1 r2 q2
end
noncomputable def MtM (X:Cx) (id:String) (r:V→List V→Hp→VK→Prop):Prop :=
 ∀ (pins:List (Addr×Obj)) (s:Shared) (σ:St) (H:Hp) (x:V) (xs:List V) (v:Value) (us:List Value) (Q:VK),Inv X pins σ H s→aY x v→aA xs us→r x xs H Q →
  wpAny (model X.prog X.w) X.A (call (.builtin id) (v::us)) (EP X pins σ Q) X.xe s
theorem aA.consI {x:V}{xs:List V}{us:List Value} (h:aA (x::xs) us):∃ u vs,us=u::vs∧aY x u∧aA xs vs:=by
 cases h with
 | cons r q=>exact⟨_,_,rfl,r,q⟩
theorem aA.zero {us:List Value} (h:aA [] us):us=[]:=by
 cases h
 rfl
theorem aA.one {x:V}{us:List Value} (h:aA [x] us):∃ u,us=[u]∧aY x u:=by
 obtain ⟨u,vs,rfl,r,q⟩:=h.consI
 rw [aA.zero q]
 exact ⟨u,rfl,r⟩
theorem aA.two {x y:V}{us:List Value} (h:aA [x,y] us):∃ u v,us=[u,v]∧aY x u∧aY y v:=by
 obtain ⟨u,vs,rfl,r,q⟩:=h.consI
 obtain ⟨v,rfl,r'⟩:=q.one
 exact ⟨u,v,rfl,r,r'⟩
theorem aA.dropLast {xs:List V}{us:List Value} (h:aA xs us):aA xs.dropLast us.dropLast:=by
 induction h with
 | nil=>exact .nil
 | cons r t ih =>
  cases t with
  | nil=>exact .nil
  | cons q t'=>exact .cons r ih
theorem aA.eraseIdx:∀ {xs:List V}{us:List Value} (i:Nat),aA xs us→aA (xs.eraseIdx i) (us.eraseIdx i)
 | _,_,_,.nil=>.nil
 | _,_,0,.cons _ t=>t
 | _,_,i+1,.cons r t=>.cons r (aA.eraseIdx i t)
theorem ko {α:Type} (l:List α):l.eraseIdx (l.length - 1)=l.dropLast:=by
 induction l with
 | nil=>rfl
 | cons a r ih =>
  cases r with
  | nil=>rfl
  | cons b r =>
   have e:(a::b::r).length - 1=((b::r).length - 1)+1:=by
    have h1:(a::b::r).length=r.length+2:=rfl
    have h2:(b::r).length=r.length+1:=rfl
    omega
   rw [e,List.eraseIdx_cons_succ,ih]
   all_goals rfl
section
variable {X:Cx}{pins:List (Addr×Obj)}{σ:St}{H:Hp}{s:Shared}{l b:Addr}{xs ys zs:List V}
theorem Inv.lset {its its':List Value}{n:Nat}{f:Array Value→Array Value}{t':Nat} (I:Inv X pins σ H s) (hH:H l=some (.lst xs))
  (e : s.heap.get? l=some { cls:=.type "list",data:=.seq its.toArray n }) (hf:f its.toArray=its'.toArray) (hv:aA ys its') (hz:ys.length≤sizeLine) :
  Inv X pins σ (upd H l (.lst ys)) { s with heap:=s.heap.update l (Obj.mapSeq f),toks:=t' }:=by
 have q:=PySem.IsL.update e f
 rw [hf] at q
 refine I.write (x:=l) (e:=l) (by rw[hH];exact trivial) (.inl rfl) (fun b' u hb hu=>(Heap.get?_update_other s.heap (Obj.mapSeq f) (Ne.symm hb)).trans hu) ⟨_,q⟩ ?_
 exact ⟨hz,its',_,hv,q⟩
theorem Inv.lnew {its:List Value}{t':Nat} (I:Inv X pins σ H s) (hv:aA ys its) (hz:ys.length≤sizeLine) :
  Inv X pins σ (upd H s.heap.objs.size (.lst ys)) { s with heap:=s.heap.push { cls:=.type "list",data:=.seq its.toArray },toks:=t' } :=
 I.laid (fun _ _ q=>yf _ q) (yl _) ⟨hz,its,0,hv,yp _ rfl⟩
theorem Inv.fresh (I:Inv X pins σ H s):H s.heap.objs.size=none:=I.hok.fresh (yl _)
theorem Inv.lstM (I:Inv X pins σ H s) (hH:H l=some (.lst xs)):xs.length≤sizeLine∧∃ (its:List Value) (n:Nat),aA xs its∧xs.length=its.length∧s.heap.get? l=some { cls:=.type "list",data:=.seq its.toArray n }:=by
 obtain ⟨z,its,n,r,e⟩:=I.hok l _ hH
 exact ⟨z,its,n,r,r.length,e⟩
end
section
variable {X:Cx}
noncomputable def lb:V→List V→Hp→VK→Prop:=fun x vs H Q=>∃ l xs y,x=.ref l∧vs=[y]∧H l=some (.lst xs)∧xs.length<sizeLine∧Q .non (upd H l (.lst (xs++[y])))
theorem gv:MtM X "list.append" lb:=by
 intro pins s σ H x vs v us Q I rx rv h
 obtain ⟨l,xs,y,rfl,rfl,hH,hz,q⟩:=h
 cases rx
 obtain ⟨u,rfl,ru⟩:=rv.one
 obtain ⟨z,its,n,r,hl,e⟩:=I.lstM hH
 refine call_meets F.slot_list_append ⟨_,e,rfl⟩ F.entry_list_append (F.args_list_append_2 _ _) (PySem.list_append l its.toArray n u (by rw[yh];omega)) ⟨e,?_⟩
 refine ⟨.non,_,I.lset (its':=its++[u]) hH e (by simp) (r.append (.cons ru .nil)) ?_,rfl,q⟩
 rw [yw,yX]
 omega
noncomputable def xy:V→List V→Hp→VK→Prop:=fun x vs H Q=>∃ l xs y,x=.ref l∧vs=[]∧H l=some (.lst xs)∧xs[xs.length - 1]? = some y∧Q y (upd H l (.lst xs.dropLast))
theorem um:MtM X "list.pop" xy:=by
 intro pins s σ H x vs v us Q I rx rv h
 obtain ⟨l,xs,y,rfl,rfl,hH,hy,q⟩:=h
 cases rx
 have hus:=rv.zero
 subst hus
 obtain ⟨z,its,n,r,hl,e⟩:=I.lstM hH
 obtain ⟨u,hu,ru⟩:=r.get hy
 have hy':its.toArray[its.toArray.size - 1]? = some u:=by
  show its.toArray[its.length - 1]? = some u
  rw [←Array.getElem?_toList,←hl]
  exact hu
 refine call_meets F.slot_list_pop ⟨_,e,rfl⟩ F.entry_list_pop (F.args_list_pop_1 _) (MeetsSeq.list_pop_last l its.toArray n u hy' (by rw[yh];omega)) ⟨e,?_⟩
 refine ⟨y,_,I.lset (its':=its.dropLast) hH e ?_ r.dropLast ?_,ru,q⟩
 ·show its.toArray.eraseIdxIfInBounds (its.toArray.size - 1)=its.dropLast.toArray
  rw [yh,List.eraseIdxIfInBounds_toArray,ko]
 ·rw [List.length_dropLast]
  omega
noncomputable def tG:V→List V→Hp→VK→Prop:=fun x vs H Q=>∃ l xs,x=.ref l∧vs=[]∧H l=some (.lst xs)∧Q .non (upd H l (.lst []))
theorem nM:MtM X "list.clear" tG:=by
 intro pins s σ H x vs v us Q I rx rv h
 obtain ⟨l,xs,rfl,rfl,hH,q⟩:=h
 cases rx
 have hus:=rv.zero
 subst hus
 obtain ⟨z,its,n,r,hl,e⟩:=I.lstM hH
 refine call_meets F.slot_list_clear ⟨_,e,rfl⟩ F.entry_list_clear (F.args_list_clear_1 _) (AutoSeq1.list_clear_list_0 l its.toArray n (by rw[yh];omega)) ⟨e,?_⟩
 exact ⟨.non,_,I.lset (its':=[]) (ys:=[]) hH e rfl .nil (yo _),rfl,q⟩
end
section
variable {prog:Program}{w:World}{A:Around}{E:Value→Shared→Prop}{s:Shared}
end
section
variable {X:Cx}
end
end L2
namespace Att
open PySem PySem.W PySem.Calls PyProof.Rows
theorem d8 {P:Params}{h:Heap}:∀ (ns:List Int) (vs:List Value),WellAll P h vs (ns.map WData.int)→IntsAre vs ns:=by
 intro ns
 induction ns with
 | nil =>
  intro vs w
  rw [List.map_nil] at w
  cases w
  exact .nil
 | cons n ns ih =>
  intro vs w
  rw [yx] at w
  cases w with
  | cons a b =>
   cases a
   exact .cons _ _ (ih _ b)
theorem k4 {l:OpenLaw}{n:Nat} (hn:l.most=some n) {P:Params}{h:Heap}{args:List WData}{vals:List Value}
  (hpre:l.row.toRowW.claim.pre args=true) (hwl:WellAll P h vals args) :
  ∃ a vs ns,vals=[Value.ref a]∧args=[WData.list (ns.map WData.int)]∧h.get? a=some { cls:=.type "list",data:=.seq vs.toArray }∧IntsAre vs ns∧ns.length≤n:=by
 have hsh:WShape.hasAll [] args [.list .int]=true:=(pre_splitW hpre).1
 have hc:l.pre.holds [] { args:=args }=true:=(pre_splitW hpre).2
 obtain ⟨d,r,rfl,h1,h2⟩:=hasAllW_cons hsh
 obtain rfl:=hasAllW_nil h2
 obtain ⟨xs,rfl,h3⟩:=hasW_list h1
 obtain ⟨ns,rfl⟩:=items_int h3
 have hlen:ns.length≤n:=by
  unfold OpenLaw.pre at hc
  have h4:(WTm.not (.lt (.lit (.int (n:Int))) (.len (.arg 0)))).holds [] { args:=[.list (ns.map .int)] }=true:=by
   have h4:=(holds_andW hc).1
   rw [hn] at h4
   exact h4
  have h5:=condW_of h4 (w_not (w_lt w_lit (w_len_list (w_arg rfl))))
  rw [xZ] at h5
  refine Nat.le_of_not_lt fun q=>?_
  have q':(n:Int)<((ns.length:Nat):Int):=by omega
  first
   | (rw[decide_eq_true q'] at h5;exact absurd h5 (by decide))
   | (simp at h5;omega)
 cases hwl with
 | cons w1 w2 =>
  cases w2
  cases w1 with
  | list ho hall=>exact⟨_,_,ns,rfl,rfl,ho,d8 ns _ hall,hlen⟩
theorem lA (l:OpenLaw) (args:List WData):l.row.toRowW.claim.post args (.bool true) args=true :=
 postW_of (r:=l.row.toRowW) (X:=(true==true))
  (show WShape.has [] (.bool true) .bool=true by first|rfl|decide|simp[WShape.has,WShape.arms,WShape.armsAll])
  (show (WTm.eq .res (.lit (.bool true))).value [] { args:=args,res:=some (.bool true),after:=args }=some (.bool (true==true)) from w_eq_bool (w_res rfl) w_lit) rfl
theorem attach_call {l:OpenLaw}{n:Nat}{q:Program}{loose:List Str}{XP:(Str→Option Value)→Heap→Prop}{YP:World→Heap→Prop}{d:DefRec}
  (hn:l.most=some n) (hdf:d.params.defaults=[])
  (call:∀ (w:World) (s₀ s₁:Shared) (mg mb:Str→Option Value) (fa:Addr) (o:Obj) (pm cd doc:Value) (a:Addr) (vs:List Value) (ns:List Int),
   Ground q loose [] XP w s₀ mg mb s₁.heap→YP w s₁.heap →
   s₁.heap.get? fa=some o→o.data=.func (docDef d.name d.params d.body d.scope pm cd doc)→s₁.heap.CodeRec cd d.name→mg d.name=some (.ref fa) →
   s₁.heap.get? a=some { cls:=.type "list",data:=.seq vs.toArray }→IntsAre vs ns→ns.length≤n→s₁.gens=#[] →
   codeAny (model l.prog w) callerA (.call (.ref fa) ⟨[.ref a],[]⟩) (fun r s'=>r=.ok (.ret (.bool true))∧OldK s₁.heap s'.heap∧s'.os=s₁.os∧AllBare s'.gens) s₁) :
  WalkO q loose XP YP l.row.toRowW d [] (fun f vs=>PySem.call f vs):=by
 intro w s₀ s₁ mg mb G Y fa o pm cd doc dV kV ho hd hcd hD hmg hg args vals as hpre hlay hrd hwl hlo
 obtain rfl:dV=.none:=Dflts.none hD hdf
 obtain rfl:kV=.none:=Dflts.noKw hD
 obtain ⟨a,vs,ns,rfl,rfl,hobj,hints,hlen⟩:=k4 hn hpre hwl
 refine enter_call (codeAny_mono (call w s₀ s₁ mg mb fa o pm cd doc a vs ns G Y ho (fd_plain hd) hcd hmg hobj hints hlen hg) fun r s' hq=>?_)
 obtain ⟨rfl,h2,h3,h4⟩:=hq
 exact ⟨.inl ⟨.bool true,.bool true,[],rfl,fun _=>rfl,.bool true,lA l _,fun _=>⟨List.Pairwise.nil,fun _ hm=>(nomatch hm)⟩⟩,h2,h3,h4⟩
section
variable {prog:Program}{w:World}{A:Around}{E:Value→Shared→Prop}{s:Shared}{K:Frag}
end
end Att
namespace L2
open PySem PySem.Spec PyProof.Rows
theorem fV:∀ {vs:List Value}{ns:List Int},IntsAre vs ns→aA (ns.map V.int) vs
 | _,_,.nil=>.nil
 | _,_,.cons n t h=>.cons ⟨t,rfl⟩ (fV h)
noncomputable def wS (H:Hp):Prop:=∀ b,H b=none∨(∃ o xs,H b=some (.frz o (.lst xs)))∨∃ q,H b=some (.tbl q)
theorem nU {P:Program}{w:World}{K:PySem.W.Frag}{mg mb:Str→Option Value}{CX:CXT}{k:Nat}{fa a:Addr}{fd:FuncData}{x:Str}{sp:Sp}{s₁:Shared}{vs:List Value}{ns:List Int}{tb:List (Addr×Str)}
  (hT:∀ b q,tb.lookup b=some q→s₁.heap.get? b=some { cls:=.none,data:=.fields #[] }∧K.lookup b=none∧∃ c,s₁.heap.TableAt c b #[]) (hLm:∀ T q,eL K T q→tb.lookup T=some q)
  (KX:K.In s₁.heap) (hns:s₁.heap.Ns mainGlobals mg) (hb:s₁.heap.Ns builtinsNs mb) (hbb:∀ x:Str,x ≠ "__name__" → mb x=bootBuiltins x) (hlim:s₁.heap.NoLimit) (hbm:∃ bm ob,mg "__builtins__" = some (.ref bm)∧bm≠builtinsNs∧s₁.heap.get? bm=some ob∧ob.cls=.type "module" ∧ ob.dict=some builtinsNs∧ob.data=.plain) (hg:s₁.gens=#[])
  (ha:s₁.heap.get? a=some { cls:=.type "list",data:=.seq vs.toArray }) (hi:IntsAre vs ns) (hl:ns.length≤sizeLine) (hr:ci k callerA)
  (F : ∀ base:Heap,K.In base→base.Ns mainGlobals mg→bW P w K mg base CX k fa fd [x] sp) (hbind:∀ (s:Shared) (u:Value),BindsTo s fd ⟨[u],[]⟩ [(x,u)])
  (hsp:∀ H:Hp,wS H→SqL K H a (ns.map V.int)→sp [.ref a] H (fun v _=>v=.bl true) fun _ _ _=>False)
  (hCX:∀ H e s',CX [] H s₁ (fun _ _ _=>False) e s'→False) :
  codeAny (model P w) callerA (.call (.ref fa) ⟨[.ref a],[]⟩) (fun r s'=>r=.ok (.ret (.bool true))∧OldK s₁.heap s'.heap∧s'.os=s₁.os∧AllBare s'.gens) s₁:=by
 have rv:=fV hi
 have lenV:=hi.length
 have core:∀ H:Hp,wS H→SqL K H a (ns.map V.int)→HOk P w H s₁.heap→(∀ b u,H b=some u→(b=a∧K.lookup a=none)∨∃ q,tb.lookup b=some q∧u=.tbl q)→(∀ b q,tb.lookup b=some q→H b=some (.tbl q)) →
   codeAny (model P w) callerA (.call (.ref fa) ⟨[.ref a],[]⟩) (fun r s'=>r=.ok (.ret (.bool true))∧OldK s₁.heap s'.heap∧s'.os=s₁.os∧AllBare s'.gens) s₁:=by
  intro H hO hS hok hA hB
  have base_of:∀ {b:Addr}{o:Obj},s₁.heap.get? b=some o→H b=none→(mX s₁.heap H).get? b=some o:=fun e n=>oC e n
  have noA:∀ {b:Addr}{o:Obj}{es:Array DictEntry}{ep:Nat},s₁.heap.get? b=some o→o.data=.dict es ep→H b=none:=fun {b o es ep} e d=>by
   cases q:H b with
   | none=>rfl
   | some u =>
    rcases hA b u q with ⟨e',_⟩|⟨q',e',_⟩
    ·subst e'
     rw [ha] at e;cases e
     have d':Data.seq vs.toArray _=Data.dict es ep:=d
     cases d'
    ·rw [(hT b q' e').1] at e;cases e
     have d':Data.fields _=Data.dict es ep:=d
     cases d'
  have nsK:∀ {b:Addr}{m:Str→Option Value},s₁.heap.Ns b m→(mX s₁.heap H).Ns b m:=fun {b m} ⟨o,es,ep,e,d,r⟩=>⟨o,es,ep,base_of e (noA e d),d,r⟩
  have hKb:K.In (mX s₁.heap H):=fun b o e=>base_of (KX b o e) (by
   cases q:H b with
   | none=>rfl
   | some u =>
    rcases hA b u q with ⟨e',hk⟩|⟨q',e',_⟩
    ·subst e'
     rw [hk] at e;cases e
    ·rw [(hT b q' e').2.1] at e;cases e)
  have hbmK:∃ bm ob,mg "__builtins__" = some (.ref bm)∧bm≠builtinsNs∧(mX s₁.heap H).get? bm=some ob∧ob.cls=.type "module" ∧ ob.dict=some builtinsNs∧ob.data=.plain:=by
   obtain ⟨bm,ob,b1,b2,b3,b4,b5,b6⟩:=hbm
   refine ⟨bm,ob,b1,b2,base_of b3 ?_,b4,b5,b6⟩
   cases q:H bm with
   | none=>rfl
   | some u =>
    rcases hA bm u q with ⟨e',_⟩|⟨q',e',_⟩
    ·subst e'
     rw [ha] at b3;cases b3;cases b6
    ·rw [(hT bm q' e').1] at b3;cases b3;cases b6
  have hM:Mod K mg (mX s₁.heap H):=⟨hKb,nsK hns,⟨mb,nsK hb,hbb⟩,let ⟨mc,h1,h2⟩:=hlim;⟨mc,nsK h1,h2⟩,hbmK⟩
  have e0:o8 P w K mg (mX s₁.heap H) callerA [] s₁ H:=⟨rfl,hM,fun b o e=>rz e,Nat.le_of_eq (lY _ _),trivial,fun b hb=>absurd (show b∈([]:List Addr) from hb) (by simp),hok,.of_eq hg,fun T q h=>hB T q (hLm T q h)⟩
  refine codeAny_mono ((F _ hKb (nsK hns)).run callerA [] s₁ H ⟨[.ref a],[]⟩ [.ref a] [.ref a] _ _ hr e0 (hbind s₁ (.ref a)) (.cons rfl .nil) (hsp H hO hS)) fun r s' h=>?_
  cases r with
  | error e=>exact (hCX H e s' h).elim
  | ok fl =>
   cases fl with
   | next=>exact False.elim h
   | brk=>exact False.elim h
   | cont=>exact False.elim h
   | ret u =>
    obtain ⟨v,H',os,bare,un,hok',r',q⟩:=h
    have q':v=.bl true:=q
    subst q'
    obtain rfl:u=Value.bool true:=r'
    refine ⟨rfl,⟨fun b o e=>?_,fun b o e=>un.there b o e (by simp)⟩,os,bare⟩
    cases q:H b with
    | none=>exact .inl (un.keep b o e q (by intro z;exact absurd (show b∈([]:List Addr) from z) (by simp)) (by simp))
    | some u =>
     rcases hO b with z|⟨ob,xs,z⟩|⟨q',z⟩
     ·rw [q] at z;cases z
     ·have z2:=un.frzs b ob _ z
      obtain ⟨e1,_⟩:=hok b _ z
      obtain ⟨e2,_⟩:=hok' b _ z2
      rw [e] at e1;cases e1
      exact .inl e2
     ·obtain ⟨ps,e2,_⟩:=hok' b _ (un.tbls b q' z)
      rcases hA b _ z with ⟨e',_⟩|⟨q2,e',_⟩
      ·obtain ⟨ps0,e0,_⟩:=hok b _ z
       subst e'
       rw [ha] at e0;cases e0
      ·obtain ⟨t1,_,c,t2⟩:=hT b q2 e'
       rw [e] at t1;cases t1
       exact .inr (.inl ⟨t2.isCodeTable,rfl,#[],ps,rfl,by simpa using e2⟩)
 cases hk:K.lookup a with
 | some o =>
  have e:=KX a o hk
  rw [ha] at e
  cases e
  refine core (fun b=>(tb.lookup b).map .tbl) (fun b=>?_) (.inr ⟨_,vs.toArray,_,hk,rfl,rfl,rfl,by rw[yh,lenV];exact hl,by simpa using rv⟩) (fun b u z=>?_) (fun b u z=>?_) fun b q z=>by show (tb.lookup b).map HO.tbl=_;rw[z];rfl
  ·cases z:tb.lookup b with
   | none=>exact .inl (by show (tb.lookup b).map HO.tbl=_;rw[z];rfl)
   | some q=>exact .inr (.inr ⟨q,by show (tb.lookup b).map HO.tbl=_;rw[z];rfl⟩)
  ·have z:(tb.lookup b).map HO.tbl=some u:=z
   cases q:tb.lookup b with
   | none=>rw[q] at z;cases z
   | some q' =>
    rw [q] at z;cases z
    exact ⟨#[],(hT b q' q).1,trivial,fun pos cv h=>by cases (show (none:Option Value)=some cv from h)⟩
  ·have z:(tb.lookup b).map HO.tbl=some u:=z
   cases q:tb.lookup b with
   | none=>rw[q] at z;cases z
   | some q'=>rw[q] at z;cases z;exact .inr ⟨q',rfl,rfl⟩
 | none =>
  have hna:tb.lookup a=none:=by
   cases z:tb.lookup a with
   | none=>rfl
   | some q =>
    have e:=(hT a q z).1
    rw [ha] at e
    cases e
  have hne:∀ b,b≠a→(if b=a then some (HO.frz { cls:=.type "list",data:=.seq vs.toArray } (.lst (ns.map V.int))) else (tb.lookup b).map .tbl)=(tb.lookup b).map .tbl:=fun b hb=>if_neg hb
  refine core (fun b=>if b=a then some (.frz { cls:=.type "list",data:=.seq vs.toArray } (.lst (ns.map V.int))) else (tb.lookup b).map .tbl) (fun b=>?_) (.inl (.inr ⟨{ cls:=.type "list",data:=.seq vs.toArray },if_pos rfl⟩)) (fun b u z=>?_) (fun b u z=>?_) fun b q z=>?_
  ·by_cases hb:b=a
   ·exact .inr (.inl ⟨_,_,if_pos hb⟩)
   ·dsimp only
    rw [hne b hb]
    cases z:tb.lookup b with
    | none=>exact .inl rfl
    | some q=>exact .inr (.inr ⟨q,rfl⟩)
  ·by_cases hb:b=a
   ·have z':=(if_pos hb).symm.trans z
    cases z'
    subst hb
    exact ⟨ha,by rw[xZ];exact hl,vs,_,rv,ha⟩
   ·have z:(tb.lookup b).map HO.tbl=some u:=(hne b hb).symm.trans z
    cases q:tb.lookup b with
    | none=>rw[q] at z;cases z
    | some q' =>
     rw [q] at z;cases z
     exact ⟨#[],(hT b q' q).1,trivial,fun pos cv h=>by cases (show (none:Option Value)=some cv from h)⟩
  ·by_cases hb:b=a
   ·exact .inl ⟨hb,hk⟩
   ·have z:(tb.lookup b).map HO.tbl=some u:=(hne b hb).symm.trans z
    cases q:tb.lookup b with
    | none=>rw[q] at z;cases z
    | some q'=>rw[q] at z;cases z;exact .inr ⟨q',rfl,rfl⟩
  ·have hb:b≠a:=fun e=>by subst e;rw[hna] at z;cases z
   exact (hne b hb).trans (by rw[z];rfl)
theorem qu {l:PySem.W.OpenLaw}{n k:Nat}{q:Program}{loose:List Str}{XP:(Str→Option Value)→Heap→Prop}{YP:World→Heap→Prop}{d:DefRec}{K:Params→PySem.W.Frag}{CX:World→CXT}{sp:World→Sp}{x:Str}
  (hn:l.most=some n) (hn2:n≤sizeLine) (hdf:d.params.defaults=[]) (hr:ci k callerA)
  (hTb:∀ (w:World) (s₀:Shared) (mg mb:Str→Option Value) (h:Heap),PySem.W.Ground q loose [] XP w s₀ mg mb h→(K w.params).In h→∃ tb:List (Addr×Str),(∀ b q,tb.lookup b=some q→h.get? b=some { cls:=.none,data:=.fields #[] }∧(K w.params).lookup b=none∧∃ c,h.TableAt c b #[])∧∀ T q,eL (K w.params) T q→tb.lookup T=some q)
  (hY:∀ (w:World) (h:Heap),YP w h→(K w.params).In h)
  (F : ∀ (w:World) (mg:Str→Option Value) (fa:Addr) (h:Heap),(K w.params).In h→h.Ns mainGlobals mg→mg d.name=some (.ref fa) →
   ∃ fd:FuncData,(∀ (s:Shared) (u:Value),BindsTo s fd ⟨[u],[]⟩ [(x,u)]) ∧
    ∀ base:Heap,(K w.params).In base→base.Ns mainGlobals mg→bW l.prog w (K w.params) mg base (CX w) k fa fd [x] (sp w))
  (hsp:∀ (w:World) (H:Hp) (a:Addr) (ns:List Int),ns.length≤n→wS H→SqL (K w.params) H a (ns.map V.int)→sp w [.ref a] H (fun v _=>v=.bl true) fun _ _ _=>False)
  (hCX:∀ (w:World) (H:Hp) (s:Shared) (e:Value) (s':Shared),CX w [] H s (fun _ _ _=>False) e s'→False) :
  PySem.W.WalkO q loose XP YP l.row.toRowW d [] (fun f vs=>PySem.call f vs):=by
 refine Att.attach_call hn hdf fun w s₀ s₁ mg mb fa o pm cd doc a vs ns G Y ho hd hcd hmg hobj hints hlen hg=>?_
 have KX:=hY w _ Y
 obtain ⟨fd,hb,hF⟩:=F w mg fa _ KX G.T.g hmg
 obtain ⟨tb,hT,hLm⟩:=hTb w s₀ mg mb _ G KX
 exact nU hT hLm KX G.T.g G.T.b G.T.builtins G.T.nolimit G.T.bmain hg hobj hints (yg hlen hn2) hr hF hb (fun H hO hS=>hsp w H a ns hlen hO hS) fun H e s'=>hCX w H s₁ e s'
noncomputable def ce (s:Stmt):Arguments:=match s with
 | .FunctionDef _ a _ _ _ _ _ _ _ _=>a
 | _=>{ posonlyargs:=[],args:=[],vararg:=none,kwonlyargs:=[],kw_defaults:=[],kwarg:=none,defaults:=[] }
noncomputable def bj (s:Stmt):List Stmt:=match s with
 | .FunctionDef _ _ b _ _ _ _ _ _ _=>b
 | _=>[]
noncomputable def af (s:Stmt):Scope:=match s with
 | .FunctionDef _ _ _ _ _ _ sc _ _ _=>sc
 | _=>{ kind:=.function,names:=[],isGenerator:=false,isCoroutine:=false }
noncomputable abbrev CX0:CXT:=fun _ _ _ _ _ _=>False
noncomputable abbrev E0:XK:=fun _ _ _=>False
theorem v9 {X:Cx}:mO CX0 X E0:=fun _ _ _ _ _ _ _ h=>h.elim
structure Fun (K:PySem.W.Frag) (x qual:Str) (st:Stmt) (f:Addr) (fd:FuncData):Prop where
 ex : ∃ (oc:Value) (od:Option Addr) (kV doc pm:Value) (an:Option Addr) (cdv ct:Value) (osl:Array (Option Value)),
  fd = PySem.W.fnOf x qual (ce st) (bj st) (af st) .none kV doc pm an cdv ct∧K.lookup f=some ⟨oc,od,.func fd,osl⟩∧PySem.W.codeIn K cdv qual=true
 kp : PySem.W.keepIn K (.ref f)=true
section
variable {P:Program}{w:World}{K:PySem.W.Frag}{mg:Str→Option Value}{base:Heap}
theorem Fun.ok {x qual:Str}{st:Stmt}{f:Addr}{fd:FuncData}{N ps:List Str}{k:Nat}{sp:Sp} (F:Fun K x qual st f fd) (S:ay N ps (af st)) (len:∀ vs H Q E,sp vs H Q E→vs.length=ps.length)
  (hbody:∀ (cdv:Value) (A:Around) (outer:List Env) (s:Shared) (H:Hp) (vs:List V) (Q:VK) (E:XK),ci k (A.deeper (envOfC qual (af st) s.heap.objs.size f cdv))→sp vs H Q E →
   ∃ t,PSs (jT CX0 P w K mg base N qual (af st) f cdv A outer s H E).nox (bj st) t∧t { nx:=fun _ H'=>Q .non H',rt:=Q } (a8 N vs) H):bW P w K mg base CX0 (k+1) f fd ps sp:=by
 obtain ⟨oc,od,kV,doc,pm,an,cdv,ct,osl,rfl,lk,hcd⟩:=F.ex
 refine uK lk hcd S len fun A outer s H vs Q E hr hsp=>?_
 obtain ⟨t,h,q⟩:=hbody cdv A outer s H vs Q E hr hsp
 exact ⟨t,h.nox,q⟩
theorem Fun.binds {x qual:Str}{st:Stmt}{f:Addr}{fd:FuncData}{ps:List Str} (F:Fun K x qual st f fd)
  (h : ∀ (kV doc pm:Value) (an:Option Addr) (cdv ct:Value) (us:List Value),us.length=ps.length→bindArgs (PySem.W.fnOf x qual (ce st) (bj st) (af st) .none kV doc pm an cdv ct) ⟨us,[]⟩=pure (ps.zip us)):bF K fd ps []:=by
 obtain ⟨oc,od,kV,doc,pm,an,cdv,ct,osl,rfl,lk,hcd⟩:=F.ex
 exact .all (h kV doc pm an cdv ct)
theorem pP {x qual:Str}{st:Stmt}{f:Addr}{oc:Value}{od an:Option Addr}{osl:Array (Option Value)}{kV doc pm cdv ct:Value} (l:K.lookup f=some ⟨oc,od,.func (PySem.W.fnOf x qual (ce st) (bj st) (af st) .none kV doc pm an cdv ct),osl⟩)
  (c : PySem.W.codeIn K cdv qual=true) (k:PySem.W.keepIn K (.ref f)=true):Fun K x qual st f (PySem.W.fnOf x qual (ce st) (bj st) (af st) .none kV doc pm an cdv ct):=⟨⟨oc,od,kV,doc,pm,an,cdv,ct,osl,rfl,l,c⟩,k⟩
end
section
variable {X:Cx}
end
theorem on {c A B:Prop} [Decidable c] (h1:c→A) (h2:¬c→B):if c then A else B:=by
 by_cases h:c
 ·rw [if_pos h]
  exact h1 h
 ·rw [if_neg h]
  exact h2 h
noncomputable def aH (H H':Hp):Prop:=∀ b o,H b=some o→H' b=some o
theorem aH.refl (H:Hp):aH H H:=fun _ _ h=>h
theorem aH.trans {H H1 H2:Hp} (a:aH H H1) (b:aH H1 H2):aH H H2:=fun c o h=>b c o (a c o h)
theorem aH.free {H H':Hp} (e:aH H H') {l:Addr} (h:H' l=Option.none):H l=Option.none:=by
 cases q:H l with
 | none=>rfl
 | some o =>
  rw [e l o q] at h
  cases h
theorem aH.seq {K:PySem.W.Frag}{H H':Hp}{a:Addr}{xs:List V} (e:aH H H') (h:SqL K H a xs):SqL K H' a xs:=by
 rcases h with (h|⟨o,h⟩)|h
 ·exact .inl (.inl (e _ _ h))
 ·exact .inl (.inr ⟨o,e _ _ h⟩)
 ·exact .inr h
end L2
set_option maxHeartbeats 4000000
namespace L2
open PySem PySem.Spec PyProof.Rows
noncomputable def br (env:Env):List (Str×NameKind)→List (Str×Addr)→List (Str×Addr)
 | [],acc=>acc
 | (n,k)::r,acc=>if (k==.free)=true then br env r ((n,(env.cells.lookup n).getD 0)::acc) else br env r acc
theorem dj {env:Env} (f:Str×NameKind→List (Str×Addr)→Sem (ForInStep (List (Str×Addr))))
  (hf:∀ name kind cs,f (name,kind) cs=if (kind==.free)=true then (do let c ←cellOf env name;pure (.yield ((name,c)::cs))) else pure (.yield cs)) :
  ∀ (names:List (Str×NameKind)) (acc:List (Str×Addr)),(∀ y∈names,y.2=.free→(env.cells.lookup y.1).isSome=true)→forIn names acc f=(pure (br env names acc):Sem _)
 | [],acc,_=>by rw[List.forIn_nil];rfl
 | (n,k)::r,acc,h=>by
  rw [List.forIn_cons,hf]
  unfold br
  by_cases hk:(k==NameKind.free)=true
  ·rw [if_pos hk,if_pos hk]
   obtain ⟨c,hc⟩:=Option.isSome_iff_exists.mp (h (n,k) ya (by simpa using hk))
   have e:cellOf env n=pure c:=by unfold cellOf;rw[hc]
   rw [e,hc]
   simp only [pure_bind]
   exact dj f hf r _ fun y hy=>h y (x9 _ hy)
  ·rw [if_neg hk,if_neg hk]
   simp only [pure_bind]
   exact dj f hf r _ fun y hy=>h y (x9 _ hy)
theorem fN {scope:Scope}{env:Env} (h:∀ y∈scope.names,y.2=.free→(env.cells.lookup y.1).isSome=true):closureFor scope env=pure (br env scope.names []):=by
 simp only [closureFor]
 rw [dj (env:=env) _ (fun name kind cs=>by cases hk:kind==NameKind.free <;> simp[hk]) scope.names [] h]
 rfl
theorem bu (env:Env) (x:Str):∀ (names:List (Str×NameKind)) (acc:List (Str×Addr)),(br env names acc).lookup x=if (x,NameKind.free)∈names then some ((env.cells.lookup x).getD 0) else acc.lookup x
 | [],acc=>by simp[br]
 | (n, k)::r,acc=>by
  unfold br
  by_cases hk:(k==NameKind.free)=true
  ·have ek:k=NameKind.free:=by simpa using hk
   subst ek
   rw [if_pos hk,bu env x r]
   by_cases hr:(x,NameKind.free)∈r
   ·rw [if_pos hr,if_pos (x9 _ hr)]
   ·rw [if_neg hr,yz]
    by_cases hx:x=n
    ·subst hx
     simp
    ·have e1:(x==n)=false:=beq_eq_false_iff_ne.mpr hx
     rw [e1]
     have e2:¬(x,NameKind.free)∈(n,NameKind.free)::r:=by
      intro z
      rcases ye.mp z with z|z
      ·exact hx (Prod.mk.inj z).1
      ·exact hr z
     rw [if_neg e2]
  ·rw [if_neg hk,bu env x r]
   have e2:(x,NameKind.free)∈(n,k)::r↔(x,NameKind.free)∈r:=by
    constructor
    ·intro z
     rcases ye.mp z with z|z
     ·exact absurd (by rw[(Prod.mk.inj z).2.symm];rfl) hk
     ·exact z
    ·exact x9 _
   by_cases hr:(x,NameKind.free)∈r
   ·rw [if_pos hr,if_pos (e2.mpr hr)]
   ·rw [if_neg hr,if_neg (fun z=>hr (e2.mp z))]
theorem aO:∀ (names:List (Str×NameKind)) (n:Nat) (acc:List (Str×Addr)),cellsFrom n names acc=cellsFrom n names []++acc
 | [],n,acc=>by simp[cellsFrom]
 | (x,k)::r,n,acc=>by
  unfold cellsFrom
  split
  ·rw [aO r (n+1) ((x,n)::acc),aO r (n+1) [(x,n)]]
   simp
  ·exact aO r n acc
theorem aX:∀ (names:List (Str×NameKind)) (n:Nat) (x:Str) (c:Addr),(x,c)∈cellsFrom n names []→(x,NameKind.cell)∈names∧n≤c
 | [],n,x,c,h=>by simp[cellsFrom] at h
 | (y,k)::r,n,x,c,h=>by
  unfold cellsFrom at h
  split at h
  ·rename_i hk
   rw [aO] at h
   rcases x8.mp h with h|h
   ·have q:=aX r (n+1) x c h
    exact ⟨x9 _ q.1,by omega⟩
   ·have e:(x,c)=(y,n):=by simpa using h
    cases e
    have ek:k=NameKind.cell:=by simpa using hk
    subst ek
    exact ⟨ya,yl _⟩
  ·have q:=aX r n x c h
   exact ⟨x9 _ q.1,q.2⟩
theorem aq {α:Type}:∀ {l:List (Str×α)}{x:Str}{k:α},(l.map (·.1)).Nodup→(x,k)∈l→l.lookup x=some k
 | (y,j)::r,x,k,nd,h=>by
  rw [yz]
  rcases ye.mp h with e|h
  ·cases e;simp
  ·have nd':=yv.mp nd
   have this:x≠y:=fun z=>nd'.1 (by
    rw [←z]
    exact yr.mpr ⟨(x,k),h,rfl⟩)
   rw [beq_eq_false_iff_ne.mpr this]
   exact aq nd'.2 h
theorem iM {M:Model}{A:Around}{E:Value→Shared→Prop}{s:Shared}{scope:Scope}{globals:Addr}{cl:List (Str×Addr)}{qual:Str}{env:Env}{Q:Env→Shared→Prop}
  (h : Q (newEnv scope s.heap.objs.size globals (cellsFrom (s.heap.objs.size+1) scope.names cl) qual none .none (some env) builtinsNs) { s with heap:=pushCells (s.heap.push { cls:=.type "dict",data:=.dict #[] }) scope.names }) :
  wpAny M A (newFunctionEnv scope globals cl [] qual none .none (some env)) Q E s:=by
 simp only [newFunctionEnv,Option.isSome_some,if_true]
 refine wpAny_bind (wpAny_alloc ?_)
 refine wpAny_bind (wpAny_layCells _ (fun name kind cells=>by cases hkc:kind==NameKind.cell <;> simp[hkc]) _ _ _ _ ?_)
 rw [show ({ s with heap:=s.heap.push { cls:=.type "dict",data:=.dict #[] } }:Shared).heap.objs.size=s.heap.objs.size+1 from y6 ..]
 rw [List.forIn_nil]
 exact wpAny_bind (wpAny_pure (wpAny_pure h))
structure bi (N:List Str) (env:Env) (N':List Str) (ix:List (Option Nat)) (sc:Scope):Prop where
 kind:sc.kind=.function
 ndn:(sc.names.map (·.1)).Nodup
 free:∀ y∈sc.names,y.2=.free→env.kindOf y.1=some .cell∨env.kindOf y.1=some .free
 len:ix.length=N'.length
 cap:∀ (i j:Nat),ix[i]? = some (some j)→∃ x,N'[i]? = some x∧N[j]? = some x∧sc.names.lookup x=some .free
theorem bi.names {N:List Str}{env:Env}{N':List Str}{ix:List (Option Nat)}{sc:Scope} (S:bi N env N' ix sc):∀ y∈sc.names,y.2=.local→sc.names.lookup y.1=some .local:=fun y hy e=>by
 obtain ⟨x,k⟩:=y
 cases e
 exact aq S.ndn hy
noncomputable def bU (σ:St) (ix:List (Option Nat)):St:=ix.map fun o=>o.bind fun j=>(σ[j]?).join
noncomputable def kE (sc:Scope) (C:Addr) (env:Env):Env:=compEnvC sc (cellsFrom (C+1) sc.names (br env sc.names [])) C env
noncomputable def bCx (X:Cx) (N':List Str) (sc:Scope) (s:Shared) (H:Hp) (C:Addr) (fp:List Addr):Cx where
 prog:=X.prog
 w := X.w
 K := X.K
 mg := X.mg
 base:=X.base
 A := X.A
 N := N'
 s₀ := s
 H₀ := H
 env:=kE sc C X.env
 outer:=X.stack
 stack:=X.stack
 ex := fp
 fn := fun x=>decide (sc.names.lookup x=some .cell)
 calm:=X.calm
 pn := []
 xe := fun _ _=>False
theorem cG {env:Env}:∀ {names:List (Str×NameKind)}{x:Str}{k:NameKind},names.lookup x=some k →
  (names.map fun (n,k)=>if (k==NameKind.free&&env.scope.kind==.function&&env.kindOf n==some .cell) then (n,NameKind.cell) else (n,k)).lookup x=some (if (k==NameKind.free&&env.scope.kind==.function&&env.kindOf x==some .cell)=true then .cell else k)
 | [],_,_,h=>by simp at h
 | (n,j)::r,x,k,h=>by
  have ih:=@cG env r x k
  show List.lookup x ((if (j==NameKind.free&&env.scope.kind==.function&&env.kindOf n==some .cell)=true then (n,NameKind.cell) else (n,j))::_)=_
  cases hx:x==n with
  | true =>
   have e:x=n:=by simpa using hx
   subst e
   simp only [yz,hx] at h
   have ej:j=k:=Option.some.inj h
   subst ej
   by_cases hc:(j==NameKind.free&&env.scope.kind==.function&&env.kindOf x==some .cell)=true
   ·rw [if_pos hc,if_pos hc];simp[yz]
   ·rw [if_neg hc,if_neg hc];simp[yz]
  | false =>
   simp only [yz,hx] at h
   by_cases hc:(j==NameKind.free&&env.scope.kind==.function&&env.kindOf n==some .cell)=true
   ·rw [if_pos hc];simp only [yz,hx];exact ih h
   ·rw [if_neg hc];simp only [yz,hx];exact ih h
theorem bD {env:Env}:∀ {names:List (Str×NameKind)}{x:Str},names.lookup x=none →
  (names.map fun (n,k)=>if (k==NameKind.free&&env.scope.kind==.function&&env.kindOf n==some .cell) then (n,NameKind.cell) else (n,k)).lookup x=none
 | [],_,_=>rfl
 | (n,j)::r,x,h=>by
  have ih:=@bD env r x
  show List.lookup x ((if (j==NameKind.free&&env.scope.kind==.function&&env.kindOf n==some .cell)=true then (n,NameKind.cell) else (n,j))::_)=_
  cases hx:x==n with
  | true=>simp only [yz,hx] at h;cases h
  | false =>
   simp only [yz,hx] at h
   by_cases hc:(j==NameKind.free&&env.scope.kind==.function&&env.kindOf n==some .cell)=true
   ·rw [if_pos hc];simp only [yz,hx];exact ih h
   ·rw [if_neg hc];simp only [yz,hx];exact ih h
theorem cf {sc:Scope}{C:Addr}{env:Env}{x:Str}{k:NameKind} (h:sc.names.lookup x=some k):(kE sc C env).kindOf x=some (if (k==NameKind.free&&env.scope.kind==.function&&env.kindOf x==some .cell)=true then .cell else k):=cG h
theorem mJ {sc:Scope}{C:Addr}{env:Env}{x:Str} (h:sc.names.lookup x=none):(kE sc C env).kindOf x=none:=bD h
section
variable {X:Cx}{N':List Str}{ix:List (Option Nat)}{sc:Scope}
theorem eI (S:bi X.N X.env N' ix sc) {C:Addr}{x:Str}{c:Addr} (h:(kE sc C X.env).cells.lookup x=some c) :
  (sc.names.lookup x=some .cell∧C+1≤c∧(x,c)∈cellsFrom (C+1) sc.names [])∨(sc.names.lookup x=some .free∧c=(X.env.cells.lookup x).getD 0):=by
 have e:(kE sc C X.env).cells=cellsFrom (C+1) sc.names []++br X.env sc.names []:=aO _ _ _
 rw [e] at h
 rcases x8.mp (mem_of_lookup h) with q|q
 ·obtain ⟨a,b⟩:=aX _ _ _ _ q
  exact .inl ⟨aq S.ndn a,b,q⟩
 ·have fr:(x,NameKind.free)∈sc.names:=by
   have z:∀ (names:List (Str×NameKind)) (acc:List (Str×Addr)),(x,c)∈br X.env names acc→(x,c)∈acc∨(x,NameKind.free)∈names:=by
    intro names
    induction names with
    | nil=>intro acc h;exact .inl h
    | cons y r ih =>
     obtain ⟨n,k⟩:=y
     intro acc h
     unfold br at h
     split at h
     ·rename_i hk
      have ek:k=NameKind.free:=by simpa using hk
      subst ek
      rcases ih _ h with h|h
      ·rcases ye.mp h with h|h
       ·cases h;exact .inr ya
       ·exact .inl h
      ·exact .inr (x9 _ h)
     ·rcases ih _ h with h|h
      ·exact .inl h
      ·exact .inr (x9 _ h)
   rcases z _ _ q with q|q
   ·simp at q
   ·exact q
  have hf:=aq S.ndn fr
  have hn:(cellsFrom (C+1) sc.names []).lookup x=none:=by
   cases z:(cellsFrom (C+1) sc.names []).lookup x with
   | none=>rfl
   | some d =>
    have q':=aX _ _ _ _ (mem_of_lookup z)
    have:=aq S.ndn q'.1
    rw [hf] at this;cases this
  rw [List.lookup_append,hn,bu,if_pos fr] at h
  exact .inr ⟨hf,(Option.some.inj (by simpa using h)).symm⟩
theorem cO (S:bi X.N X.env N' ix sc) {C:Addr}{x:Str} (h:sc.names.lookup x=some .free):(kE sc C X.env).cells.lookup x=some ((X.env.cells.lookup x).getD 0):=by
 have e:(kE sc C X.env).cells=cellsFrom (C+1) sc.names []++br X.env sc.names []:=aO _ _ _
 have hn:(cellsFrom (C+1) sc.names []).lookup x=none:=by
  cases z:(cellsFrom (C+1) sc.names []).lookup x with
  | none=>rfl
  | some d =>
   have q':=aX _ _ _ _ (mem_of_lookup z)
   have:=aq S.ndn q'.1
   rw [h] at this;cases this
 rw [e,List.lookup_append,hn,bu,if_pos (mem_of_lookup h)]
 rfl
theorem kx {C:Addr}{env:Env}{x:Str} (h:sc.names.lookup x=some .cell):∃ c,(kE sc C env).cells.lookup x=some c:=by
 have e:(kE sc C env).cells=cellsFrom (C+1) sc.names []++br env sc.names []:=aO _ _ _
 obtain ⟨c,hc⟩:=fO (n:=C+1) h
 exact ⟨c,by rw[e,List.lookup_append,hc];rfl⟩
theorem iW {pins:List (Addr×Obj)}{σ:St}{H:Hp}{s:Shared}{fp:List Addr} (S:bi X.N X.env N' ix sc) (I:Inv X pins σ H s) (hf:∀ b∈fp,eN X pins H b) (hlt:∀ b∈fp,b<s.heap.objs.size) :
  Inv (bCx X N' sc s H (s.heap.objs.size+1) fp) [] (bU σ ix) H
   { s with heap:=pushCells ((s.heap.push { cls:=.type "list",data:=.seq #[] }).push { cls:=.type "dict",data:=.dict #[] }) sc.names }:=by
 have sz1:(s.heap.push { cls:=.type "list",data:=.seq #[] }).objs.size=s.heap.objs.size+1:=y6 ..
 have keep:∀ b o,s.heap.get? b=some o→(pushCells ((s.heap.push { cls:=.type "list",data:=.seq #[] }).push { cls:=.type "dict",data:=.dict #[] }) sc.names).get? b=some o:=fun b o e =>
  pushCells_keeps _ _ b o (yf _ (yf _ e))
 have ok:=cellsFrom_ok sc.names ((s.heap.push { cls:=.type "list",data:=.seq #[] }).push { cls:=.type "dict",data:=.dict #[] }) (s.heap.objs.size+2) [] ⟨fun _ _ hm=>(nomatch hm),List.Pairwise.nil⟩ (by rw[y6,sz1];exact yl _)
 rw [y6,sz1] at ok
 have cOld:∀ x c,sc.names.lookup x=some .free→c=(X.env.cells.lookup x).getD 0→X.env.cells.lookup x=some c:=fun x c h1 h2=>by
  obtain ⟨d,hd⟩:=I.ok.has x (S.free (x,.free) (mem_of_lookup h1) rfl)
  rw [hd] at h2 ⊢
  rw [h2];rfl
 have hold:∀ x c,X.env.cells.lookup x=some c→c<s.heap.objs.size:=fun x c e=>by
  obtain ⟨v,q⟩:=I.cell x c e
  exact q.lt
 refine ⟨⟨I.ok.mod,S.kind,I.ok.glob,I.ok.blt,y8 _,fun x y c h1 h2=>?_,fun x hx=>?_,fun x c hx h=>?_,I.ok.hd,I.ok.frames,.inl rfl,fun b hb=>⟨?_,fun x c h=>?_⟩,I.bs,yg I.ok.bsz I.sz,fun b o e hb=>?_,fun b hb=>?_,I.stack,I.stkFree,fun T q h=>I.base.tbls T q (I.ok.tab T q h)⟩,
  rfl,I.bare,Un.kept keep,⟨fun _=>none,?_,fun i x v e1 e2 e3=>?_⟩,fun x c h=>?_,I.hok.fresh (y8 _),fun x c h=>?_,fun p hp=>absurd (show p∈([]:List (Addr×Obj)) from hp) (by simp),I.hok.kept keep,?_⟩
 ·rcases eI S h1 with ⟨a1,b1,q1⟩|⟨a1,b1⟩ <;> rcases eI S h2 with ⟨a2,b2,q2⟩|⟨a2,b2⟩
  ·exact name_of_addr ok.apart q1 q2
  ·exact absurd (hold y c (cOld y c a2 b2)) (Nat.not_lt.mpr (yg (Nat.le_add_right _ 2) b1))
  ·exact absurd (hold x c (cOld x c a1 b1)) (Nat.not_lt.mpr (yg (Nat.le_add_right _ 2) b2))
  ·exact I.ok.inj x y c (cOld x c a1 b1) (cOld y c a2 b2)
 ·cases q:sc.names.lookup x with
  | none =>
   have z:=mJ (C:=s.heap.objs.size+1) (env:=X.env) q
   rcases hx with hx|hx
   ·exact absurd (hx.symm.trans z) (by simp)
   ·exact absurd (hx.symm.trans z) (by simp)
  | some k =>
   have z:=cf (C:=s.heap.objs.size+1) (env:=X.env) q
   cases k with
   | free=>exact⟨_,cO S q⟩
   | cell=>exact kx q
   | _ =>
    rcases hx with hx|hx
    ·have:=hx.symm.trans z
     simp at this
    ·have:=hx.symm.trans z
     simp at this
 ·have hx':sc.names.lookup x=some .cell:=of_decide_eq_true hx
  rcases eI S h with ⟨_,b1,_⟩|⟨a1,_⟩
  ·exact yg (by omega:s.heap.objs.size≤s.heap.objs.size+1+1) b1
  ·rw [hx'] at a1;cases a1
 ·exact yq (yZ (hlt b hb))
 ·obtain ⟨f0,f1,f2,f3,f4,f5⟩:=hf b hb
  rcases eI S h with ⟨_,b1,_⟩|⟨a1,b1⟩
  ·exact zb (yi (hlt b hb) (yg (Nat.le_add_right _ 2) b1))
  ·exact f4 x c (cOld x c a1 b1)
 ·obtain ⟨f0,f1,f2,f3,f4,f5⟩:=hf b hb
  rcases f3 with f3|f3
  ·exact I.ok.noex b o e f3
  ·exact absurd (yi (ym e) (yg I.ok.bsz f3)) (zd _)
 ·obtain ⟨f0,f1,f2,f3,f4,f5⟩:=hf b hb
  intro z
  rcases ye.mp (I.stkSub b z) with z|z
  ·exact f1 z
  ·exact f2 z
 ·have q:=(Heap.Ns.new (s.heap.push { cls:=.type "list",data:=.seq #[] }) (.type "dict")).keeps (pushCells_keeps sc.names _)
  rw [sz1] at q
  exact q
 ·have hi:i<ix.length:=by
   have z:=(yc.mp e2).1
   simpa [bU] using z
  have e2':(bU σ ix)[i]? = (ix[i]?).map fun o=>o.bind fun j=>(σ[j]?).join:=yA ..
  rw [e2',x5 hi] at e2
  have e2:(ix[i]).bind (fun j=>(σ[j]?).join)=some v:=Option.some.inj e2
  cases q:ix[i] with
  | none=>rw[q] at e2;cases e2
  | some j =>
   rw [q] at e2
   have e2:(σ[j]?).join=some v:=e2
   have e2:σ[j]? = some (some v):=by
    cases z:σ[j]? with
    | none=>rw[z] at e2;cases e2
    | some w'=>rw[z] at e2;have e2:w'=some v:=e2;rw[e2]
   obtain ⟨y,c1,c2,c3⟩:=S.cap i j (by rw[x5 hi,q])
   have exy:x=y:=Option.some.inj (e1.symm.trans c1)
   subst exy
   have kd:=S.free (x,.free) (mem_of_lookup c3) rfl
   obtain ⟨m,hn,hl⟩:=I.loc
   obtain ⟨u,ru,lu⟩:=hl j x v c2 e2 (by rcases kd with k|k;exact .inr (.inl k);exact .inr (.inr k))
   refine ⟨u,ru,.inr ⟨?_,?_⟩⟩
   ·rw [show (bCx X N' sc s H (s.heap.objs.size+1) fp).env.kindOf x=_ from cf (C:=s.heap.objs.size+1) (env:=X.env) c3]
    split
    ·exact .inl rfl
    ·exact .inr rfl
   ·rcases lu with ⟨k,_⟩|⟨_,c,hc,hcell⟩
    ·rcases kd with k'|k' <;> rw[k] at k' <;> cases k'
    ·refine ⟨c,?_,hcell.keeps keep⟩
     have:=cO S (C:=s.heap.objs.size+1) c3
     rw [hc] at this
     exact this
 ·rcases eI S h with ⟨_,b1,q⟩|⟨a1,b1⟩
  ·exact ⟨none,(ok.empty x c q).1⟩
  ·obtain ⟨v,q⟩:=I.cell x c (cOld x c a1 b1)
   exact ⟨v,q.keeps keep⟩
 ·rcases eI S h with ⟨_,b1,q⟩|⟨a1,b1⟩
  ·exact I.hok.fresh (yg (Nat.le_add_right _ 2) b1)
  ·exact I.freeC x c (cOld x c a1 b1)
 ·show (bU σ ix).length=N'.length
  simp [bU,S.len]
theorem eG {pins pins':List (Addr×Obj)}{σ σ2:St}{H H':Hp}{s s':Shared}{fp:List Addr}{C:Addr} (S:bi X.N X.env N' ix sc) (I:Inv X pins σ H s) (hf:∀ b∈fp,eN X pins H b)
  (I':Inv (bCx X N' sc s H C fp) pins' σ2 H' s'):Inv (bCx X N' sc s H C fp) pins' (bU σ ix) H' s':=by
 refine ⟨I'.ok,I'.os,I'.bare,I'.base,?_,I'.cell,I'.free,I'.freeC,I'.pin,I'.hok,by show (bU σ ix).length=N'.length;simp[bU,S.len]⟩
 obtain ⟨m',hn',_⟩:=I'.loc
 refine ⟨m',hn',fun i x v e1 e2 e3=>?_⟩
 have hi:i<ix.length:=by
  have z:=(yc.mp e2).1
  simpa [bU] using z
 have e2':(bU σ ix)[i]? = (ix[i]?).map fun o=>o.bind fun j=>(σ[j]?).join:=yA ..
 rw [e2',x5 hi] at e2
 have e2:(ix[i]).bind (fun j=>(σ[j]?).join)=some v:=Option.some.inj e2
 cases q:ix[i] with
 | none=>rw[q] at e2;cases e2
 | some j =>
  rw [q] at e2
  have e2:(σ[j]?).join=some v:=e2
  have e2:σ[j]? = some (some v):=by
   cases z:σ[j]? with
   | none=>rw[z] at e2;cases e2
   | some w'=>rw[z] at e2;have e2:w'=some v:=e2;rw[e2]
  obtain ⟨y,c1,c2,c3⟩:=S.cap i j (by rw[x5 hi,q])
  have exy:x=y:=Option.some.inj (e1.symm.trans c1)
  subst exy
  have kd:=S.free (x,.free) (mem_of_lookup c3) rfl
  obtain ⟨m,hn,hl⟩:=I.loc
  obtain ⟨u,ru,lu⟩:=hl j x v c2 e2 (by rcases kd with k|k;exact .inr (.inl k);exact .inr (.inr k))
  refine ⟨u,ru,.inr ⟨?_,?_⟩⟩
  ·rw [show (bCx X N' sc s H C fp).env.kindOf x=_ from cf (C:=C) (env:=X.env) c3]
   split
   ·exact .inl rfl
   ·exact .inr rfl
  ·rcases lu with ⟨k,_⟩|⟨_,c,hc,o,ho,hd⟩
   ·rcases kd with k'|k' <;> rw[k] at k' <;> cases k'
   ·refine ⟨c,?_,?_⟩
    ·have:=cO S (C:=C) c3
     rw [hc] at this
     exact this
    ·obtain ⟨sl,e⟩:=I'.base.any ho (I.freeC x c hc) fun z=>(hf c z).2.2.2.2.1 x c hc rfl
     exact ⟨_,e,hd⟩
noncomputable def PIf (X:Cx) (ifs:List Expr) (t:TT):Prop :=
 ∀ (pins:List (Addr×Obj)) (s:Shared) (σ:St) (H:Hp) (Q:Bool→Hp→Prop),Inv X pins σ H s→t σ H Q →
  wpAny (model X.prog X.w) X.A (forIn ifs true fun c r=>if r=true then do let ok ←isTrue c X.env (eval c X.env);pure (ForInStep.yield ok) else pure (ForInStep.yield r)) (TP X pins σ Q) X.xe s
noncomputable def xm:TT:=fun _ H Q=>Q true H
theorem qY {X:Cx}:PIf X [] xm:=fun _ _ _ H _ I h=>wpAny_tests_nil ⟨H,I,h⟩
theorem qX {X:Cx}{c:Expr}{t:TT} (h:PT X c t):PIf X [c] t:=fun pins s σ H Q I hw=>wpAny_tests_one (h pins s σ H Q I hw)
theorem gY {prog:Program}{w:World}{A:Around}{R:Result→Shared→Prop}{s:Shared}{elt target iter:Expr}{ifs:List Expr}{scope:Scope}{pos:Pos}{it acc:Value}{env:Env} (I:Nat→Shared→Prop)
  (turn : ∀ n s,I n s→wpAny (model prog w) A (pyNext it) (fun r s₁=>match r with
   | none=>R (.ok .next) s₁
   | some v=>wpAny (model prog w) A (letOwnedTupleGo target it v) (fun _ s₁'=>wpAny (model prog w) A (assign target env v) (fun _ s₂ =>
     wpAny (model prog w) A (forIn ifs true fun c r=>if r=true then do let ok ←isTrue c env (eval c env);pure (ForInStep.yield ok) else pure (ForInStep.yield r)) (fun ok s₃ =>
      if ok=true then wpAny (model prog w) A (eval elt env) (fun x s₄ =>
       wpAny (model prog w) A (call (.builtin "list.append") [acc,x]) (fun _ s₅=>∃ m,m<n∧I m s₅) (fun _ _=>False) s₄) (fun _ _=>False) s₃
      else ∃ m,m<n∧I m s₃) (fun _ _=>False) s₂) (fun _ _=>False) s₁') (fun _ _=>False) s₁) (fun _ _=>False) s)
  (n : Nat) (h:I n s):codeAny (model prog w) A (.compLoop (.ListComp elt [⟨target,iter,ifs,0⟩] scope pos) 0 it acc env) R s:=by
 refine codeAny_loop rfl I (fun n s hI=>?_) n h
 show wpAny _ A ((compTurn (.ListComp elt [⟨target,iter,ifs,0⟩] scope pos) 0 it acc env).onRaise (fun x=>do noteFrame x env;theTreesLotGoes x)) _ _ s
 refine wpAny_noted ?_
 rw [compTurn_list]
 refine wpAny_bind (wpAny_standAt (wpAny_bind (wpAny_mono (turn n s hI) (fun r s₁ h₁=>?_) fun _ _ h'=>h'.elim)))
 cases r with
 | none=>exact wpAny_pure h₁
 | some v =>
  refine wpAny_bind (wpAny_mono h₁ (fun _ s₁' h₁'=>wpAny_bind (wpAny_mono h₁' (fun _ s₂ h₂=>wpAny_bind (wpAny_mono h₂ (fun ok s₃ h₃=>?_) fun _ _ h'=>h'.elim)) fun _ _ h'=>h'.elim)) fun _ _ h'=>h'.elim)
  cases ok with
  | false=>exact wpAny_pure ⟨rfl,h₃⟩
  | true =>
   exact wpAny_bind (wpAny_bind (wpAny_mono h₃ (fun x s₄ h₄=>wpAny_bind (wpAny_mono h₄ (fun _ s₅ h₅=>wpAny_pure (wpAny_pure ⟨rfl,h₅⟩)) fun _ _ h'=>h'.elim)) fun _ _ h'=>h'.elim))
noncomputable def pb (J:It) (σ0:St) (g:TG) (tt:TT) (te:TE) (H1:Hp) (Qe:List V→Hp→Prop):Prop :=
 ∃ W : Nat→Nat→List V→Hp→Prop,(∃ m,W 0 m [] H1)∧∀ i m ys H,W i m ys H →
  (J.stop i H∧Qe ys H) ∨
  (J.go i H∧ys.length<sizeLine∧∃ N:List V→Hp→Prop,(∀ ys' H',N ys' H'→∃ m',m'<m∧W (i+1) m' ys' H') ∧
   ∀ x H',J.yld i H x H'→g x σ0 H' fun σ2 H2=>tt σ2 H2 fun b H3=>if b=true then te σ2 H3 fun y H4=>N (ys++[y]) H4 else N ys H3)
theorem jU {tg iter elt:Expr}{ifs:List Expr}{pos:Pos}{g:TG}{tt:TT}{te:TE}{pins:List (Addr×Obj)}{σ:St}{H:Hp}{s:Shared}{it:Addr}{fp:List Addr}{tn:Nat→Heap→Prop}{J:It}{Qe:List V→Hp→Prop}
  {RR:Value→Addr→Result→Shared→Prop}{E:Value→Shared→Prop}
  (hc:X.calm=true) (S:bi X.N X.env N' ix sc) (hg:∀ s H C fp,PG (bCx X N' sc s H C fp) tg g) (ht:∀ s H C fp,PIf (bCx X N' sc s H C fp) ifs tt) (he:∀ s H C fp,PE (bCx X N' sc s H C fp) elt te)
  (I : Inv X pins σ H s) (T:sR X.prog X.w X.K tg J fp it tn) (st:tn 0 s.heap) (hf:∀ b∈fp,eN X pins H b) (hw:pb J (bU σ ix) g tt te H Qe)
  (fin:∀ s' H' ys m,s'.heap.Ns (s.heap.objs.size+1) m→H' s.heap.objs.size=none→H' (s.heap.objs.size+1)=none→Qe ys H'→Inv X pins σ (upd H' s.heap.objs.size (.lst ys)) s'→RR (.ref s.heap.objs.size) (s.heap.objs.size+1) (.ok .next) s') :
  wpAny (model X.prog X.w) X.A (newList []) (fun acc s₃=>wpAny (model X.prog X.w) X.A (newFunctionEnv sc X.env.globals (br X.env sc.names []) [] X.env.qual none .none (some X.env)) (fun cenv s₄ =>
   codeAny (model X.prog X.w) X.A (.compStart (.ListComp elt [⟨tg,iter,ifs,0⟩] sc pos) 0 (.ref it) acc { cenv with scope:=relabel sc X.env }) (RR acc cenv.locals) s₄) E s₃) E s:=by
 have hlt:∀ b∈fp,b<s.heap.objs.size:=fun b hb=>by
  obtain ⟨o,e,_⟩:=T.obj _ _ st b hb
  exact ym e
 refine wpAny_newObj_type (iM ?_)
 have sz1:(s.heap.push { cls:=.type "list",dict:=none,data:=.seq ([]:List Value).toArray }).objs.size=s.heap.objs.size+1:=y6 ..
 have I0:=iW S I hf hlt
 obtain ⟨W,⟨m0,w0⟩,turn⟩:=hw
 have nD:∀ b∈fp,s.heap.objs.size≠b:=fun b hb=>zb (hlt b hb)
 have freshD:H s.heap.objs.size=none:=I.hok.fresh (yl _)
 have cellD:∀ x c,(kE sc (s.heap.objs.size+1) X.env).cells.lookup x=some c→c≠s.heap.objs.size:=fun x c h=>by
  rcases eI S h with ⟨_,b1,_⟩|⟨a1,b1⟩
  ·exact zb (yi (yZ (yT _)) b1)
  ·obtain ⟨d,hd⟩:=I.ok.has x (S.free (x,.free) (mem_of_lookup a1) rfl)
   rw [hd] at b1
   obtain ⟨v,q⟩:=I.cell x d hd
   have e:c=d:=b1
   rw [e]
   exact yq q.lt
 have fsD:s.heap.objs.size ∉ frs X.stack:=fun z=>by
  rcases ye.mp (I.stkSub _ z) with z|z
  ·exact absurd I.lt (by rw[←z];exact zd _)
  ·exact I.nofs (yl _) z
 have fpB:∀ {pins':List (Addr×Obj)}{H':Hp},(∀ b∈fp,H' b=none)→(∀ p∈pins',∀ b∈fp,p.1≠b)→∀ b∈fp,eN (bCx X N' sc s H (s.heap.objs.size+1) fp) pins' H' b:=fun {pins' H'} h1 h2 b hb =>
  ⟨h1 b hb,(I0.ok.exf b hb).1,I0.ok.exfs b hb,.inl hb,(I0.ok.exf b hb).2,fun p hp=>h2 p (by simpa [bCx] using hp) b hb⟩
 have getD0:(pushCells ((s.heap.push { cls:=.type "list",data:=.seq #[] }).push { cls:=.type "dict",data:=.dict #[] }) sc.names).get? s.heap.objs.size=some { cls:=.type "list",data:=.seq #[] } :=
  pushCells_keeps _ _ _ _ (yf _ (yp _ rfl))
 have I0':Inv (bCx X N' sc s H (s.heap.objs.size+1) fp) [(s.heap.objs.size,{ cls:=.type "list",data:=.seq #[] })] (bU σ ix) H _:=I0.pins_of (pins':=[(s.heap.objs.size,{ cls:=.type "list",data:=.seq #[] })]) fun p hp=>by
  have e:p=(s.heap.objs.size,{ cls:=.type "list",data:=.seq #[] }):=by simpa using hp
  subst e
  exact ⟨getD0,freshD,yq (yT _),fsD,fun v z=>by cases z⟩
 have st0:tn 0 (pushCells ((s.heap.push { cls:=.type "list",data:=.seq #[] }).push { cls:=.type "dict",data:=.dict #[] }) sc.names):=T.keep _ _ _ st fun b hb o e=>pushCells_keeps _ _ _ _ (yf _ (yf _ e))
 have loop:∀ s4:Shared,s4={ s with heap:=pushCells ((s.heap.push { cls:=.type "list",data:=.seq #[] }).push { cls:=.type "dict",data:=.dict #[] }) sc.names } →
   codeAny (model X.prog X.w) X.A (.compLoop (.ListComp elt [⟨tg,iter,ifs,0⟩] sc pos) 0 (.ref it) (.ref s.heap.objs.size) (kE sc (s.heap.objs.size+1) X.env)) (RR (.ref s.heap.objs.size) (s.heap.objs.size+1)) s4:=by
  rintro s4 rfl
  refine gY (fun n s'=>∃ (i:Nat) (ys:List V) (its:List Value) (k:Nat) (H':Hp),Inv (bCx X N' sc s H (s.heap.objs.size+1) fp) [(s.heap.objs.size,{ cls:=.type "list",data:=.seq its.toArray k })] (bU σ ix) H' s' ∧
   tn i s'.heap∧(∀ b∈fp,H' b=none)∧aA ys its∧ys.length≤sizeLine∧W i n ys H') ?_ m0 ⟨0,[],[],0,H,I0',st0,fun b hb=>(hf b hb).1,.nil,yo _,w0⟩
  rintro n s3 ⟨i,ys,its,k,H3,I3,st3,fr3,rv,hz,w3⟩
  have fp3:=fpB (pins':=[(s.heap.objs.size,{ cls:=.type "list",data:=.seq its.toArray k })]) fr3 (fun p hp b hb=>by
   have e:p=(s.heap.objs.size,{ cls:=.type "list",data:=.seq its.toArray k }):=by simpa using hp
   rw [e];exact nD b hb)
  rcases turn i n ys H3 w3 with ⟨stop,qe⟩|⟨go,hz3,N,hN,step⟩
  ·refine thn (T.done (bCx X N' sc s H (s.heap.objs.size+1) fp) rfl rfl rfl hc i _ s3 _ H3 (fun _ _=>False) I3 fp3 st3 stop) fun r s4 ⟨hr,I4⟩=>?_
   subst hr
   obtain ⟨pg,pn,_⟩:=I4.pin (s.heap.objs.size,{ cls:=.type "list",data:=.seq its.toArray k }) (xY _ ya)
   obtain ⟨m,hm,_⟩:=I4.loc
   refine fin s4 H3 ys m hm pn I4.free qe ?_
   refine I.call' (ch:=fp) I4.os ⟨I4.base.keep,I4.base.slot,fun b o e n hx=>?_,I4.base.there,fun b xs q=>?_,fun b o u q=>?_,fun b ps q=>?_⟩ (fun b o e=>?_) I4.bare fun b hb=>?_
   ·rw [ag (yq (ym e))]
    exact I4.base.free b o e n hx
   ·have q':=I4.base.tups b xs q
    rw [ag (ak q' pn)]
    exact q'
   ·have q':=I4.base.frzs b o u q
    rw [ag (ak q' pn)]
    exact q'
   ·have q':=I4.base.tbls b ps q
    rw [ag (ak q' pn)]
    exact q'
   ·by_cases hb:b=s.heap.objs.size
    ·subst hb
     rw [aC] at e
     cases e
     exact ⟨hz,its,k,rv,pg⟩
    ·rw [ag hb] at e
     exact (I4.hok b o e).stay (fun c v _ q=>q) (fun c q=>by rw[ag (ak q pn)];exact q) fun c xs _ q=>by rw[ag (ak q pn)];exact q
   ·obtain ⟨f0,f1,f2,f3,f4,f5⟩:=hf b hb
    exact ⟨f3,f1,f4,f5⟩
  ·refine thn (T.item (bCx X N' sc s H (s.heap.objs.size+1) fp) rfl rfl rfl hc i _ s3 _ H3 (fun _ _=>False) I3 fp3 st3 go) fun r s4 ⟨u,hr,h4⟩=>?_
   subst hr
   refine thn h4 fun _ s5 ⟨x,H5,I5,r5,y5,st5,fr5⟩=>?_
   have fp5:=fpB (pins':=[(s.heap.objs.size,{ cls:=.type "list",data:=.seq its.toArray k })]) fr5 (fun p hp b hb=>by
    have e:p=(s.heap.objs.size,{ cls:=.type "list",data:=.seq its.toArray k }):=by simpa using hp
    rw [e];exact nD b hb)
   have I5':=I5.pinned fp5 (T.obj _ _ st5)
   refine thn (hg s H _ fp _ s5 _ H5 x u _ I5' r5 (step x H5 y5)) fun _ s6 ⟨σ6,H6,I6,q6⟩=>?_
   have back:∀ {σ7:St}{H7:Hp}{s7:Shared},Inv (bCx X N' sc s H (s.heap.objs.size+1) fp) ([(s.heap.objs.size,{ cls:=.type "list",data:=.seq its.toArray k })]++dr fp s5.heap) σ7 H7 s7 →
     tn (i+1) s7.heap∧(∀ b∈fp,H7 b=none):=fun {σ7 H7 s7} I7=>by
    refine ⟨T.keep _ _ _ st5 fun b hb o e=>(I7.pin (b,o) (xY _ (xY _ (cx hb e)))).1,fun b hb=>?_⟩
    obtain ⟨o,e,d⟩:=T.obj _ _ st5 b hb
    exact (I7.pin (b,o) (xY _ (xY _ (cx hb e)))).2.1
   refine thn (ht s H _ fp _ s6 σ6 H6 _ I6 q6) fun ok s7 ⟨H7,I7,q7⟩=>?_
   cases ok with
   | false =>
    rw [if_neg yn] at q7 ⊢
    obtain ⟨m',hm',w7⟩:=hN _ _ q7
    exact ⟨m',hm',i+1,ys,its,k,H7,eG S I hf I7.unpinned,(back I7).1,(back I7).2,rv,hz,w7⟩
   | true =>
    rw [if_pos rfl] at q7 ⊢
    refine thn (he s H _ fp _ s7 σ6 H7 _ I7 q7) fun xv s8 ⟨y,H8,I8,r8,q8⟩=>?_
    obtain ⟨m',hm',w8⟩:=hN _ _ q8
    obtain ⟨pg,pn,_⟩:=I8.pin (s.heap.objs.size,{ cls:=.type "list",data:=.seq its.toArray k }) (xY _ (x3 _ ya))
    refine wpAny_list_append_plain (l:=s.heap.objs.size) (items:=its.toArray) ⟨k,pg⟩ (fun h9 hl9 hs9=>?_) (by have:=rv.length;simp;omega)
    obtain ⟨k9,g9⟩:=hl9
    have I8':Inv (bCx X N' sc s H (s.heap.objs.size+1) fp) (dr fp s5.heap) σ6 H8 s8:=I8.pins_of fun p hp=>I8.pin p (xY _ (xY _ hp))
    have I9:Inv (bCx X N' sc s H (s.heap.objs.size+1) fp) (dr fp s5.heap) σ6 H8 { s8 with heap:=h9 }:=I8'.turned (t':=s8.toks) (it:=s.heap.objs.size) (fun b o hb e=>hs9.extBut b o hb e) pn (yq (yT _)) (.inr (yl _)) cellD
     fun p hp=>by
      have hp':p∈dr fp s5.heap:=by simpa [bCx] using hp
      exact (nD _ (gu hp').1).symm
    have I9':Inv (bCx X N' sc s H (s.heap.objs.size+1) fp) [(s.heap.objs.size,{ cls:=.type "list",data:=.seq (its++[xv]).toArray k9 })] σ6 H8 { s8 with heap:=h9 }:=I9.pins_of fun p hp=>by
     have e:p=(s.heap.objs.size,{ cls:=.type "list",data:=.seq (its++[xv]).toArray k9 }):=by simpa using hp
     subst e
     refine ⟨?_,pn,yq (yT _),fsD,fun v z=>by cases z⟩
     simpa using g9
    refine ⟨m',hm',i+1,ys++[y],its++[xv],k9,H8,eG S I hf I9',?_,(back I8).2,rv.append (.cons r8 .nil),by simp;omega,w8⟩
    exact T.keep _ _ _ (back I8).1 fun b hb o e=>hs9.extBut b o (nD b hb).symm e
 have key:=codeAny_compStart_list (iter:=iter) (loop _ rfl) (T.self X.A 0 { s with heap:=pushCells ((s.heap.push { cls:=.type "list",data:=.seq #[] }).push { cls:=.type "dict",data:=.dict #[] }) sc.names } _ _ st0 (loop _ rfl))
 simpa only [newEnv,sz1,kE,compEnvC] using key
noncomputable def kO (wi:TI) (ix:List (Option Nat)) (g:TG) (tt:TT) (te:TE):TE:=fun σ H Q=>wi σ H fun J H1=>pb J (bU σ ix) g tt te H1 fun ys H2=>∀ p,H2 p=none→Q (.ref p) (upd H2 p (.lst ys))
theorem bi.clos {pins:List (Addr×Obj)}{σ:St}{H:Hp}{s:Shared} (S:bi X.N X.env N' ix sc) (I:Inv X pins σ H s):closureFor sc X.env=pure (br X.env sc.names []) :=
 fN fun y hy e=>by
  obtain ⟨c,hc⟩:=I.ok.has y.1 (S.free y hy e)
  rw [hc];rfl
theorem rf {tg iter elt:Expr}{ifs:List Expr}{pos:Pos}{wi:TI}{g:TG}{tt:TT}{te:TE} (hc:X.calm=true) (S:bi X.N X.env N' ix sc) (hi:PI X tg iter wi)
  (hg:∀ s H C fp,PG (bCx X N' sc s H C fp) tg g) (ht:∀ s H C fp,PIf (bCx X N' sc s H C fp) ifs tt) (he:∀ s H C fp,PE (bCx X N' sc s H C fp) elt te)
  (hs:∀ x,foldedSetIterable iter X.env x=pure x:=by intro _;rfl):PE X (.ListComp elt [⟨tg,iter,ifs,0⟩] sc pos) (kO wi ix g tt te):=by
 intro pins s σ H Q I h
 rw [eval_ListComp]
 refine wpAny_comprehension_free (use:=none) rfl hs (S.clos I) S.kind S.names (thn (hi pins s σ H _ I h) fun v s1 h1=>thn h1 fun itv s2 ⟨it,fp,tn,J,H2,e,I2,T,st2,f2,hw⟩=>?_)
 subst e
 refine jU (RR:=fun acc C=>compPost (model X.prog X.w) X.A X.xe none (EP X pins σ Q) acc C) hc S hg ht he I2 T st2 f2 hw fun s' H' ys m hn hD hC q I'=>?_
 refine ⟨m,hn,fun h' hs'=>?_⟩
 have nn:(upd H' s2.heap.objs.size (.lst ys)) (s2.heap.objs.size+1)=none:=by
  rw [ag (zb (yT _))];exact hC
 obtain ⟨f0,f1,f2,f3,f4,f5⟩:=I2.fpOk (H':=upd H' s2.heap.objs.size (.lst ys)) (b:=s2.heap.objs.size+1) (y8 _) nn
 exact ⟨.ref s2.heap.objs.size,_,I'.turned (t':=s'.toks) (it:=s2.heap.objs.size+1) (fun b o hb e=>hs'.extBut b o hb e) f0 f1 f3 f4 f5,rfl,q _ hD⟩
theorem de {i:Nat}{y:Str}{tg iter elt:Expr}{ifs:List Expr}{pos spos py:Pos}{wi:TI}{g:TG}{tt:TT}{te:TE} (hN:X.N.Nodup) (hi':X.N[i]? = some y) (hy:X.env.scope.names.lookup y=some .local)
  (hc:X.calm=true) (S:bi X.N X.env N' ix sc) (hi:PI X tg iter wi)
  (hg:∀ s H C fp,PG (bCx X N' sc s H C fp) tg g) (ht:∀ s H C fp,PIf (bCx X N' sc s H C fp) ifs tt) (he:∀ s H C fp,PE (bCx X N' sc s H C fp) elt te)
  (hsw:swapsWith (.ListComp elt [⟨tg,iter,ifs,0⟩] sc pos) (some (.Name y py)) spos.line X.env=pure true:=by rfl)
  (hs:∀ x,foldedSetIterable iter X.env x=pure x:=by intro _;rfl):PS X (.Assign [.Name y py] (.ListComp elt [⟨tg,iter,ifs,0⟩] sc pos) spos) (vq (kO wi ix g tt te) (lZ i)):=by
 intro pins s σ H D I h
 rw [exec_Assign_Name_used _ _ _ _ hsw]
 refine wpAny_bind (wpAny_standAt (wpAny_bind ?_))
 show wpAny _ X.A (do let _ ←comprehension (.ListComp elt [⟨tg,iter,ifs,0⟩] sc pos) sc X.env _ (newList []) false (eval iter X.env) (some (assign (.Name y py) X.env))) _ _ s
 refine wpAny_bind (wpAny_mono (wpAny_comprehension_free (use:=some (assign (.Name y py) X.env)) (Q:=fun _ s'=>SP X pins D .next s') rfl hs (S.clos I) S.kind S.names
  (thn (hi pins s σ H _ I h) fun v s1 h1=>thn h1 fun itv s2 ⟨it,fp,tn,J,H2,e,I2,T,st2,f2,hw⟩=>?_)) (fun _ s' hq=>wpAny_pure (wpAny_pure hq)) fun _ _ e=>e)
 subst e
 refine jU (RR:=fun acc C=>compPost (model X.prog X.w) X.A X.xe (some (assign (.Name y py) X.env)) (fun _ s'=>SP X pins D .next s') acc C) hc S hg ht he I2 T st2 f2 hw fun s' H' ys m hn hD hC q I'=>?_
 have nn:(upd H' s2.heap.objs.size (.lst ys)) (s2.heap.objs.size+1)=none:=by
  rw [ag (zb (yT _))];exact hC
 obtain ⟨f0,f1,f2,f3,f4,f5⟩:=I2.fpOk (H':=upd H' s2.heap.objs.size (.lst ys)) (b:=s2.heap.objs.size+1) (y8 _) nn
 show wpAny _ X.A (assign (.Name y py) X.env (.ref s2.heap.objs.size)) _ _ _
 refine wpAny_assign_Name (f7 (v:=.ref s2.heap.objs.size) I' hN hi' (.inl hy) rfl (fun s'' I'' ⟨a,hsb,ha⟩=>?_) (.inr hy))
 have ne:s2.heap.objs.size+1≠a:=by
  rcases ha with rfl|ha
  ·exact f1
  ·exact fun z=>f4 y a ha z.symm
 refine ⟨m,hn.sameBut hsb ne,fun h' hs'=>?_⟩
 exact ⟨_,_,I''.turned (t':=s''.toks) (it:=s2.heap.objs.size+1) (fun b o hb e=>hs'.extBut b o hb e) f0 f1 f3 f4 f5,q _ hD⟩
end
end L2
namespace L2
open PySem
open Sem (wp)
section
variable {prog:Program}{w:World}
noncomputable def bY (prog:Program) (w:World) (h:Heap) (k:Int×List Int) (a:Addr):Prop :=
 ∃ o t b n,h.get? a=some o∧o.cls=.type "tuple" ∧ o.data=.seq #[.int k.1 t,.ref b] n∧IsTupleKey (intKind prog w) h k.2 b
theorem cA (i:Int) (t:Tok):(intKind prog w).is i (.int i t)=true:=by simp[intKind,Value.isInt]
theorem bY.typeIs {s:Shared}{k:Int×List Int}{a:Addr} (x:bY prog w s.heap k a):s.TypeIs (.ref a) "tuple" := let ⟨o,_,_,_,ho,hc,_⟩:=x;⟨o,ho,hc⟩
theorem bY.inj {h:Heap}{a:Addr}{x y:Int×List Int} (hx:bY prog w h x a) (hy:bY prog w h y a):x=y:=by
 obtain ⟨x1,x2⟩:=x
 obtain ⟨y1,y2⟩:=y
 obtain ⟨o,t,b,n,ho,_,hd,hi⟩:=hx
 obtain ⟨o',t',b',n',ho',_,hd',hi'⟩:=hy
 obtain rfl:o=o':=Option.some.inj (ho.symm.trans ho')
 rw [hd] at hd'
 injection hd' with h1 _
 simp only [Array.mk.injEq,List.cons.injEq,Value.int.injEq,Value.ref.injEq,and_true] at h1
 obtain ⟨⟨e1,_⟩,e2⟩:=h1
 subst e2
 have e3:x2=y2:=hi.inj hi'
 rw [e1,e3]
theorem bY.keeps {h h':Heap}{k:Int×List Int}{a d:Addr}{o:Obj}{es ep} (x:bY prog w h k a) (ho:h.get? d=some o) (hd:o.data=.dict es ep) (hs:Heap.SameBut d h h') :
  bY prog w h' k a:=by
 obtain ⟨o',t,b,n,ho',hc,hd',hi⟩:=x
 have hne:a≠d:=by
  rintro rfl
  obtain rfl:o'=o:=Option.some.inj (ho'.symm.trans ho)
  rw [hd] at hd';exact nomatch hd'
 exact ⟨o',t,b,n,(hs.2 a hne).trans ho',hc,hd',hi.keeps ho hd hs⟩
noncomputable def iq (prog:Program) (w:World) (k:Int×List Int):Int:=reduceHash (Builtin.Tuple.tupleHashOf [hashInt k.1,tupleKeyHash (intKind prog w) k.2])
variable {A:Around}{E:Value→Shared→Prop}{s:Shared}
theorem j7 {k:Int×List Int}{a:Addr}{Q:Int→Shared→Prop} (hu:A.units+1<cLine) (hk:bY prog w s.heap k a) (h:Q (iq prog w k) { s with toks:=s.toks+(k.2.length+3) }) :
  wpAny (model prog w) A (pyHash (.ref a)) Q E s:=by
 have hT:=hk.typeIs
 obtain ⟨k1,k2⟩:=k
 obtain ⟨o,t,b0,n,ho,_,hd,hi⟩:=hk
 unfold pyHash
 first|unfold pyHashByItsType|skip
 first|refine wpAny_bind (wpAny_cRoomFor_or (.inr (by omega)) ?_)|skip
 refine wpAny_bind (wpAny_specialOf hT F.slot_tuple_hash.lookup ?_)
 show wpAny _ _ (if (some (Value.builtin "tuple.__hash__")==some Value.none)=true then _ else _) Q E s
 rw [if_neg (by rw[beq_builtin_none];exact yn)]
 refine wpAny_bind (wpAny_specialOf hT F.slot_tuple_hash.lookup ?_)
 show wpAny _ _ (callSpecialIfBoundUnlessNone? (.ref a) "__hash__" _ >>= _) Q E s
 refine wpAny_bind (wpAny_callSpecialIfBoundUnlessNone?_slot hT F.slot_tuple_hash (wpAny_call_entry F.slot_tuple_hash hT F.entry_tuple_hash ?_ (F.args_tuple_hash_1 _)))
 show wpAny _ _ (Builtin.Tuple.tupleItemsOf (.ref a) >>= _) _ _ s
 refine wpAny_bind (wpAny_tupleItemsOf ho hd ?_)
 refine wpAny_bind ?_
 rw [←Array.forIn_toList]
 refine wpAny_forIn_list _
  (fun bR (b:Array Int) s'=>(bR=[.int k1 t,.ref b0]∧b.toList=[]∧s'=s)∨(bR=[.ref b0]∧b.toList=[hashInt k1]∧s'={ s with toks:=s.toks+1 })∨(bR=[]∧b.toList=[hashInt k1,tupleKeyHash (intKind prog w) k2]∧s'={ s with toks:=s.toks+1+(k2.length+1) }))
  _ ?_ ?_ _ _ (.inl ⟨rfl,rfl,rfl⟩)
 ·rintro x bR b s' (⟨hr,hb,rfl⟩|⟨hr,hb,rfl⟩|⟨hr,hb,rfl⟩)
  ·injection hr with e1 e2
   subst e1 e2
   refine wpAny_bind ((intKind prog w).pyHash (cA k1 t) ?_)
   first
    | exact wpAny_pure (.inr (.inl ⟨rfl,by simp[hb,intKind],rfl⟩))
    | exact wpAny_bind (wpAny_pure (wpAny_pure (.inr (.inl ⟨rfl,by simp[hb,intKind],rfl⟩))))
  ·injection hr with e1 e2
   subst e1 e2
   refine wpAny_bind (wpAny_pyHash_tuple (knd:=intKind prog w) hu hi ?_)
   first
    | exact wpAny_pure (.inr (.inr ⟨rfl,by simp[hb],rfl⟩))
    | exact wpAny_bind (wpAny_pure (wpAny_pure (.inr (.inr ⟨rfl,by simp[hb],rfl⟩))))
  ·cases hr
 ·rintro b s' (⟨hr,hb,rfl⟩|⟨hr,hb,rfl⟩|⟨hr,hb,rfl⟩)
  ·cases hr
  ·cases hr
  show wpAny _ _ (retInt (Builtin.Tuple.tupleHashOf b.toList)) _ _ _
  rw [hb]
  refine wpAny_ret_mkInt ?_
  show wpAny _ _ (if (decide (-(2:Int) ^ 63≤Builtin.Tuple.tupleHashOf _)&&decide (Builtin.Tuple.tupleHashOf _<2 ^ 63))=true then _ else _) Q E _
  unfold iq reduceHash at h
  generalize Builtin.Tuple.tupleHashOf [hashInt k1,tupleKeyHash (intKind prog w) k2]=z at *
  by_cases hr:(decide (-(2:Int) ^ 63≤z)&&decide (z<2 ^ 63))=true
  ·rw [if_pos hr]
   rw [if_pos hr] at h
   refine wpAny_pure ?_
   have e:s.toks+1+(k2.length+1)+1=s.toks+(k2.length+3):=by omega
   simpa [e] using h
  ·rw [if_neg hr]
   rw [if_neg hr] at h
   refine wpAny_bind (wpAny_rule (wpAny_pure ?_))
   have e:s.toks+1+(k2.length+1)+1=s.toks+(k2.length+3):=by omega
   simpa [e] using h
theorem im {x y:Int×List Int}{a b:Addr}{P:Fin→Shared→Prop} (hu:A.units<cLine) (hx:bY prog w s.heap x a) (hy:bY prog w s.heap y b) (h:P (.done (.ret (.bool (decide (x=y))))) s) :
  wpAny (model prog w) A (Builtin.«tuple.__eq__» ⟨[.ref a,.ref b],[]⟩) P E s:=by
 have hTb:=hy.typeIs
 obtain ⟨x1,x2⟩:=x
 obtain ⟨y1,y2⟩:=y
 obtain ⟨oa,ta,ba,na,hoa,_,hda,hia⟩:=hx
 obtain ⟨ob,tb,bb,nb,hob,_,hdb,hib⟩:=hy
 show wpAny _ _ (isInstance (.ref b) (.type "tuple") >>= _) _ _ s
 refine wpAny_bind (wpAny_isInstance hTb isSubtype_tuple_tuple ?_)
 simp only [y3,yy,if_false]
 refine wpAny_bind (wpAny_tupleItemsOf hoa hda ?_)
 refine wpAny_bind (wpAny_tupleItemsOf hob hdb ?_)
 refine wpAny_bind ?_
 refine wpAny_forIn_list _
  (fun bR r s'=>r.1=none∧s'=s∧(bR=[(.int x1 ta,.int y1 tb),(.ref ba,.ref bb)]∨(bR=[(.ref ba,.ref bb)]∧x1=y1)∨(bR=[]∧x1=y1∧x2=y2)))
  _ ?_ ?_ _ _ ⟨rfl,rfl,.inl rfl⟩
 ·rintro ⟨u,v⟩ bR r s' ⟨hr,rfl,(hz|⟨hz,e1⟩|⟨hz,_⟩)⟩
  ·simp only [List.cons.injEq,Prod.mk.injEq] at hz
   obtain ⟨⟨rfl,rfl⟩,rfl⟩:=hz
   refine wpAny_bind ((intKind prog w).eqBool (cA x1 ta) (cA y1 tb) ?_)
   by_cases hk:x1=y1
   ·subst hk
    rw [decide_eq_true rfl]
    simp only [y3,yy,if_false]
    exact wpAny_pure ⟨rfl,rfl,.inr (.inl (by simp))⟩
   ·rw [decide_eq_false hk]
    simp only [Bool.not_false,if_true]
    have hf:decide ((x1,x2)=(y1,y2))=false:=by simp[hk]
    rw [hf] at h
    exact wpAny_bind (wpAny_pure (wpAny_pure (wpAny_pure h)))
  ·simp only [List.cons.injEq,Prod.mk.injEq] at hz
   obtain ⟨⟨rfl,rfl⟩,rfl⟩:=hz
   refine wpAny_bind (wpAny_eqBool_tuple hu hia hib ?_)
   by_cases hk:x2=y2
   ·rw [decide_eq_true hk]
    simp only [y3,yy,if_false]
    exact wpAny_pure ⟨rfl,rfl,.inr (.inr (by simp[e1,hk]))⟩
   ·rw [decide_eq_false hk]
    simp only [Bool.not_false,if_true]
    have hf:decide ((x1,x2)=(y1,y2))=false:=by simp[hk]
    rw [hf] at h
    exact wpAny_bind (wpAny_pure (wpAny_pure (wpAny_pure h)))
  ·cases hz
 ·rintro ⟨r1,r2⟩ s' ⟨hr,rfl,(hz|⟨hz,e1⟩|⟨hz,e1,e2⟩)⟩
  ·cases hz
  ·cases hz
  simp only at hr
  subst hr
  refine wpAny_pure ?_
  rw [decide_eq_true (by rw[e1,e2])] at h
  exact h
theorem j8 {x y:Int×List Int}{a b:Addr}{Q:Bool→Shared→Prop} (hu:A.units+1<cLine) (hx:bY prog w s.heap x a) (hy:bY prog w s.heap y b) (h:Q (decide (x=y)) s) :
  wpAny (model prog w) A (eqBool (.ref a) (.ref b)) Q E s:=by
 unfold eqBool
 try with_reducible refine wpAny_holding ?_
 show wpAny _ _ (if (Value.ref a==Value.ref b)=true then _ else _) Q E s
 by_cases hab:(Value.ref a==Value.ref b)=true
 ·rw [if_pos hab]
  have e:a=b:=by have:=eq_of_beq hab;injection this
  subst e
  obtain rfl:=hx.inj hy
  exact wpAny_bind (wpAny_rule (wpAny_pure (by simpa using h)))
 ·rw [if_neg hab]
  exact wpAny_bind (wpAny_richCompare_same_room (op:=.Eq) hx.typeIs hy.typeIs F.slot_tuple_eq
   (wpAny_call_entry F.slot_tuple_eq hx.typeIs F.entry_tuple_eq (im hu hx hy ⟨_,rfl,(fun e=>nomatch e),wpAny_truthy_bool h⟩) (F.args_tuple_eq_2 _ _)) (by omega))
theorem lh {n:Nat}{ks:List Int}{a:Addr}{Q:Bool→Shared→Prop} (hk:IsTupleKey (intKind prog w) s.heap ks a) (h:Q true s):wpAny (model prog w) A (eqIsQuiet (n+1) (.ref a)) Q E s:=by
 have hT:=hk.typeIs
 obtain ⟨o,items,m,ho,_,hd,hi⟩:=hk
 unfold eqIsQuiet
 refine wpAny_bind (wpAny_specialOf hT F.slot_tuple_eq.lookup ?_)
 show wpAny _ _ (isInstance (.ref a) (.type "tuple") >>= _) _ _ s
 refine wpAny_bind (wpAny_isInstance hT isSubtype_tuple_tuple ?_)
 simp only [y3,yy,if_false]
 refine wpAny_bind (wpAny_seqItems ho hd ?_)
 refine wpAny_bind ?_
 show wpAny _ _ (forIn items _ _) _ _ s
 rw [←Array.forIn_toList]
 refine wpAny_forIn_list _ (fun bR r s'=>r.1=none∧s'=s∧∀ v∈bR,carriedByValue v=true) _ ?_ ?_ _ _ ⟨rfl,rfl,hi.byValue⟩
 ·rintro v bR r s' ⟨hr,rfl,hall⟩
  rw [eqIsQuiet_byValue _ (hall v ya)]
  refine wpAny_bind (wpAny_pure ?_)
  simp only [y3,yy,if_false]
  exact wpAny_pure ⟨rfl,rfl,fun u hu'=>hall u (x9 _ hu')⟩
 ·rintro ⟨r1,r2⟩ s' ⟨hr,rfl,_⟩
  simp only at hr
  subst hr
  exact wpAny_pure h
theorem kQ {k:Int×List Int}{a:Addr}{Q:Bool→Shared→Prop} (hk:bY prog w s.heap k a) (h:Q true s):wpAny (model prog w) A (eqIsQuiet 8 (.ref a)) Q E s:=by
 have hT:=hk.typeIs
 obtain ⟨o,t,b,n,ho,_,hd,hi⟩:=hk
 unfold eqIsQuiet
 refine wpAny_bind (wpAny_specialOf hT F.slot_tuple_eq.lookup ?_)
 show wpAny _ _ (isInstance (.ref a) (.type "tuple") >>= _) _ _ s
 refine wpAny_bind (wpAny_isInstance hT isSubtype_tuple_tuple ?_)
 simp only [y3,yy,if_false]
 refine wpAny_bind (wpAny_seqItems ho hd ?_)
 refine wpAny_bind ?_
 show wpAny _ _ (forIn _ _ _) _ _ s
 rw [←Array.forIn_toList]
 refine wpAny_forIn_list _ (fun bR r s'=>r.1=none∧s'=s∧∀ v∈bR,carriedByValue v=true∨v=.ref b) _ ?_ ?_ _ _ ⟨rfl,rfl,fun v hv=>?_⟩
 ·rintro v bR r s' ⟨hr,rfl,hall⟩
  rcases hall v ya with hv|rfl
  ·rw [eqIsQuiet_byValue _ hv]
   refine wpAny_bind (wpAny_pure ?_)
   simp only [y3,yy,if_false]
   exact wpAny_pure ⟨rfl,rfl,fun u hu'=>hall u (x9 _ hu')⟩
  ·refine wpAny_bind (lh hi ?_)
   simp only [y3,yy,if_false]
   exact wpAny_pure ⟨rfl,rfl,fun u hu'=>hall u (x9 _ hu')⟩
 ·rintro ⟨r1,r2⟩ s' ⟨hr,rfl,_⟩
  simp only at hr
  subst hr
  exact wpAny_pure h
 ·simp at hv
  rcases hv with rfl|rfl
  ·exact .inl rfl
  ·exact .inr rfl
end
noncomputable def qA (prog:Program) (w:World):HeapKind prog w (Int×List Int) where
 is := bY prog w
 hash:=iq prog w
 draws:=fun k=>k.2.length+3
 room:=fun A=>A.units+1<cLine
 inj:=fun hx hy=>hx.inj hy
 keeps:=fun x ho hd hs=>x.keeps ho hd hs
 pyHash:=fun hu hk h=>j7 hu hk h
 eqBool:=fun hu hx hy h=>j8 hu hx hy h
 quiet:=fun hk h=>kQ hk h
noncomputable abbrev cg:=Int×List Int
noncomputable def nc (k:cg):Int:=reduceHash (Builtin.Tuple.tupleHashOf [hashInt k.1,reduceHash (Builtin.Tuple.tupleHashOf (k.2.map hashInt))])
noncomputable def pV (x:cg×Addr×Value):DictEntry:=⟨nc x.1,.ref x.2.1,x.2.2⟩
end L2
namespace L2
open PySem
section
variable {prog:Program}{w:World}{A:Around}{E:Value→Shared→Prop}{s:Shared}{d a:Addr}{xs:List (cg×Addr×Value)}{k:cg}{v:Value}
noncomputable def sM (prog:Program) (w:World) (h:Heap) (d:Addr) (xs:List (cg×Addr×Value)):Prop :=
 ∃ o ds ep,h.get? d=some o∧o.ExactDict∧o.data=.dict ds ep∧ds.toList=xs.map pV∧(∀ x∈xs,bY prog w h x.1 x.2.1)∧(xs.map (·.1)).Nodup∧ep=xs.length
theorem sM.of {h:Heap} (x:sM prog w h d xs):h.DictOfH (qA prog w) d xs:=by
 obtain ⟨o,ds,ep,h1,h2,h3,h4,h5,h6,_⟩:=x
 exact ⟨o,ds,ep,h1,h2,h3,h4,h5,h6⟩
variable {o od:Obj}{es:Array DictEntry}{ep i n:Nat}{it:Addr}
end
end L2
namespace L2
open PySem PySem.Spec PyProof.Rows
noncomputable def ij (a:Addr) (es:List (cg×Addr×V)) (h:Heap):Prop :=
 es.length≤sizeLine∧(a==sysModules)=false∧∃ xs:List (cg×Addr×Value),Paired (fun (p:cg×Addr×V) (q:cg×Addr×Value)=>p.1=q.1∧p.2.1=q.2.1∧aY p.2.2 q.2.2) es xs ∧
  ∃ o ds ep,h.get? a=some o∧o.ExactDict∧o.data=.dict ds ep∧ds.toList=xs.map pV∧(xs.map (·.1)).Nodup∧ep=xs.length
noncomputable abbrev f8 (k:cg):PyData:=.tuple [.int k.1,.tuple (k.2.map .int)]
noncomputable abbrev mY (kvs:List (cg×PyData)):PyData:=.dict (kvs.map fun p=>(f8 p.1,p.2))
noncomputable abbrev fzD (ds:List PyData):PyData:=.dict [(.none,.list ds)]
theorem wl {α:Type}{n:Nat}{l:List α} (h:l.length=n+1):∃ a t,l=a::t:=List.exists_cons_of_length_eq_add_one h
theorem rE {α:Type}{l:List α} (h:l.length=1):∃ a,l=[a]:=List.length_eq_one_iff.mp h
theorem wm {α:Type}{l:List α} (h:l.length=2):∃ a b,l=[a,b]:=by
 obtain ⟨a,t,rfl⟩:=wl h
 obtain ⟨b,rfl⟩:=rE (l:=t) (Nat.succ.inj h)
 exact ⟨a,b,rfl⟩
theorem xF {α:Type}{l:List α} (h:l.length=3):∃ a b c,l=[a,b,c]:=by
 obtain ⟨a,t,rfl⟩:=wl h
 obtain ⟨b,c,rfl⟩:=wm (l:=t) (Nat.succ.inj h)
 exact ⟨a,b,c,rfl⟩
noncomputable def sL (e C:Addr) (dx:Option Addr) (h:Heap):Prop:=∃ vs sl,h.get? e=some { cls:=.ref C,dict:=dx,data:=.fields vs,slots:=sl }
mutual
inductive DV (K:PySem.W.Frag) (H:Hp):V→PyData→Prop
 | non:DV K H .non .none
 | bl (b:Bool):DV K H (.bl b) (.bool b)
 | int (i:Int):DV K H (.int i) (.int i)
 | lst {a:Addr}{xs:List V}{ds:List PyData}:SqL K H a xs→DVs K H xs ds→DV K H (.ref a) (.list ds)
 | tup {a:Addr}{xs:List V}{ds:List PyData}:SqT K H a xs→DVs K H xs ds→DV K H (.ref a) (.tuple ds)
 | dct {a:Addr}{es:List (cg×Addr×V)}{kvs:List (cg×PyData)}:H a=some (.ext (ij a es))→DVs K H (es.map fun p=>V.ref p.2.1) (kvs.map fun p=>f8 p.1)→DVs K H (es.map fun p=>p.2.2) (kvs.map fun p=>p.2)→es.map (fun p=>p.1)=kvs.map (fun p=>p.1)→DV K H (.ref a) (mY kvs)
 | fz {v:V}{ds:List PyData}:DV K H v (.list ds)→DV K H v (fzD ds)
inductive DVs (K:PySem.W.Frag) (H:Hp):List V→List PyData→Prop
 | nil:DVs K H [] []
 | cons {x:V}{xs:List V}{d:PyData}{ds:List PyData}:DV K H x d→DVs K H xs ds→DVs K H (x::xs) (d::ds)
end
theorem DV.tupI {K:PySem.W.Frag}{H:Hp}{v:V}{ds:List PyData} (h:DV K H v (.tuple ds)):∃ a xs,v=.ref a∧SqT K H a xs∧DVs K H xs ds:=by
 cases h with
 | tup h q=>exact⟨_,_,rfl,h,q⟩
theorem DV.lstI {K:PySem.W.Frag}{H:Hp}{v:V}{ds:List PyData} (h:DV K H v (.list ds)):∃ a xs,v=.ref a∧SqL K H a xs∧DVs K H xs ds:=by
 cases h with
 | lst h q=>exact⟨_,_,rfl,h,q⟩
theorem DV.intI {K:PySem.W.Frag}{H:Hp}{v:V}{i:Int} (h:DV K H v (.int i)):v=.int i:=by
 cases h;rfl
theorem DVs.twoI {K:PySem.W.Frag}{H:Hp}{vs:List V}{d e:PyData} (h:DVs K H vs [d,e]):∃ x y,vs=[x,y]∧DV K H x d∧DV K H y e:=by
 cases h with
 | cons h q =>
  cases q with
  | cons h2 q=>cases q;exact⟨_,_,rfl,h,h2⟩
section
variable {X:Cx}{pins:List (Addr×Obj)}{σ:St}{H:Hp}{s:Shared}
theorem DVs.ind {K:PySem.W.Frag}{H:Hp}{C:List V→List PyData→Prop} (n:C [] []) (c:∀ {x:V}{xs:List V}{d:PyData}{ds:List PyData},DV K H x d→DVs K H xs ds→C xs ds→C (x::xs) (d::ds)) {v:List V}{d:List PyData} (h:DVs K H v d):C v d :=
 DVs.rec (motive_1:=fun _ _ _=>True) (motive_2:=fun v d _=>C v d) trivial (fun _=>trivial) (fun _=>trivial)
 (fun _ _ _=>trivial) (fun _ _ _=>trivial)
 (fun _ _ _ _ _ _=>trivial) (fun _ _=>trivial) n (fun h q _ i=>c h q i) h
theorem DV.reads (I:Inv X pins σ H s) {x:V}{d:PyData}{u:Value} (h:DV X.K H x d):aY x u→d.canLay0=true→∃ as,Reads s.heap u d as :=
 DV.rec (motive_1:=fun x d _=>∀ u:Value,aY x u→d.canLay0=true→∃ as,Reads s.heap u d as) (motive_2:=fun xs ds _=>∀ us:List Value,aA xs us→PyData.canLayAll0 ds=true→∃ as,ReadsAll s.heap us ds as)
 (fun u r _=>by cases (show _=Value.none from r);exact⟨_,.none⟩)
 (fun b u r _=>by cases (show _=Value.bool b from r);exact⟨_,.bool b⟩)
 (fun i u r _=>by obtain⟨t,rfl⟩:=r;exact⟨_,.int i t⟩)
 (fun {a xs ds} h q i u r l=>by
  cases (show _=Value.ref a from r)
  obtain ⟨its,rv,⟨o,n,e,c,_,hd⟩,_⟩:=I.list h
  obtain ⟨as,ra⟩:=i _ rv (by simpa only [PyData.canLay0] using l)
  exact ⟨_,.list e c hd (by simpa using ra)⟩)
 (fun {a xs ds} h q i u r l=>by
  cases (show _=Value.ref a from r)
  obtain ⟨its,rv,⟨o,e,c,n,hd⟩,_⟩:=I.tuple h
  obtain ⟨as,ra⟩:=i _ rv (by simpa only [PyData.canLay0] using l)
  exact ⟨_,.tuple e c hd (by simpa using ra)⟩)
 (fun _ _ _ _ _ _ _ _ l=>by simp[PyData.canLay0] at l) (fun _ _ _ _ l=>by simp[PyData.canLay0] at l)
 (fun us r _=>by rw[aA.zero r];exact⟨_,.nil⟩)
 (fun _ _ i j us r l=>by
  simp only [PyData.canLayAll0,yG] at l
  obtain ⟨u,vs,rfl,r1,r2⟩:=aA.consI r
  obtain ⟨as,ra⟩:=i u r1 l.1
  obtain ⟨bs,rb⟩:=j vs r2 l.2
  exact ⟨_,.cons ra rb⟩) h u
theorem gy:∀ ns:List Int,PyData.canLayAll0 (ns.map PyData.int)=true
 | []=>rfl
 | n::ns=>by simp only [yx,PyData.canLayAll0,PyData.canLay0,Bool.true_and,gy ns]
noncomputable abbrev shp (d:PyData):Prop:=SeqAt.shaped d=true
noncomputable def vW (K:PySem.W.Frag):R2:=fun x y H Q=>∃ d e,DV K H x d∧DV K H y e∧shp d∧shp e∧Q (.bl (PyData.eqv d e)) H
noncomputable def vV (K:PySem.W.Frag):R2:=fun x y H Q=>∃ d e,DV K H x d∧DV K H y e∧shp d∧shp e∧Q (.bl (!PyData.eqv d e)) H
theorem uj (hu:X.A.units+64<cLine):OpR X (compareOp .Eq) (vW X.K):=by
 intro pins s σ H x y v u Q I r1 r2 h
 obtain ⟨d,e,h1,h2,s1,s2,q⟩:=h
 obtain ⟨as,ra⟩:=h1.reads I r1 (SeqAt.canLay_of_shaped s1)
 obtain ⟨bs,rb⟩:=h2.reads I r2 (SeqAt.canLay_of_shaped s2)
 exact eq_dataH ra rb s1 s2 hu ⟨.bl _,H,I,rfl,q⟩
theorem ug (hu:X.A.units+64<cLine):OpR X (compareOp .NotEq) (vV X.K):=by
 intro pins s σ H x y v u Q I r1 r2 h
 obtain ⟨d,e,h1,h2,s1,s2,q⟩:=h
 obtain ⟨as,ra⟩:=h1.reads I r1 (SeqAt.canLay_of_shaped s1)
 obtain ⟨bs,rb⟩:=h2.reads I r2 (SeqAt.canLay_of_shaped s2)
 exact ne_dataH ra rb s1 s2 hu ⟨.bl _,H,I,rfl,q⟩
noncomputable def tJ (K:PySem.W.Frag):R2:=fun x y H Q=>∃ a b xs ys,x=.ref a∧y=.ref b∧SqT K H a xs∧SqT K H b ys∧xs.length+ys.length≤sizeLine ∧
 (xs=[]→Q (.ref b) H)∧(xs≠[]→ys=[]→Q (.ref a) H)∧(xs≠[]→ys≠[]→∀ p,H p=none→Q (.ref p) (upd H p (.tup (xs++ys))))
theorem rq:OpR X (binaryOp .Add) (tJ X.K):=by
 intro pins s σ H x y v u Q I r1 r2 h
 obtain ⟨a,b,xs,ys,rfl,rfl,ha,hb,hz,q0,q1,q2⟩:=h
 by_cases hx:xs=[]
 ·subst hx
  cases (show v=Value.ref a from r1)
  cases (show u=Value.ref b from r2)
  obtain ⟨its,v1,p1,_⟩:=I.tuple ha
  obtain ⟨its2,v2,p2,_⟩:=I.tuple hb
  cases v1
  obtain ⟨⟨cls,dd,data,sl⟩,ho,hc,n,hd⟩:=id p1
  obtain ⟨⟨cls2,dd2,data2,sl2⟩,ho2,hc2,n2,hd2⟩:=id p2
  simp only at hc hd hc2 hd2
  subst hc hd hc2 hd2
  exact concat_meets ⟨_,ho,rfl⟩ ⟨_,ho2,rfl⟩ noFill_tuple_add seq_tuple_add PySem.F.slot_tuple_add PySem.F.entry_tuple_add (PySem.F.args_tuple_add_2 _ _)
   (tuple_addW0 a b #[] its2.toArray n n2 dd dd2 sl sl2 rfl) ⟨ho,ho2,.ref b,H,I,rfl,q0 rfl⟩
 ·exact rn pins s σ H _ _ v u Q I r1 r2 ⟨a,b,xs,ys,rfl,rfl,ha,hb,hx,hz,q1 hx,q2 hx⟩
end
noncomputable def dF:Bool→Heap→Addr→Array Value→Prop
 | false,h,a,xs=>h.IsList a xs
 | true,h,a,xs=>h.IsTuple a xs
noncomputable def dG:Bool→Heap→Addr→Addr→Nat→Prop
 | false,h,it,a,i=>h.IsListIter it a i
 | true,h,it,a,i=>h.IsTupleIter it a i
theorem dF.at {b:Bool}{h h':Heap}{a:Addr}{xs:Array Value} (p:dF b h a xs) (k:∀ o,h.get? a=some o→h'.get? a=some o):dF b h' a xs:=by
 cases b with
 | false=>obtain⟨o,e,r⟩:=p;exact⟨o,k o e,r⟩
 | true=>obtain⟨o,e,r⟩:=p;exact⟨o,k o e,r⟩
theorem dG.at {b:Bool}{h h':Heap}{it a:Addr}{i:Nat} (p:dG b h it a i) (k:∀ o,h.get? it=some o→h'.get? it=some o):dG b h' it a i:=by
 cases b with
 | false=>obtain⟨o,e,r⟩:=p;exact⟨o,k o e,r⟩
 | true=>obtain⟨o,e,r⟩:=p;exact⟨o,k o e,r⟩
theorem dF.obj {b:Bool}{h:Heap}{a:Addr}{xs:Array Value} (p:dF b h a xs):∃ o n,h.get? a=some o∧o.data=.seq xs n:=by
 cases b with
 | false=>obtain⟨o,e,_,n,d⟩:=p;exact⟨o,n,e,d⟩
 | true=>obtain⟨o,e,_,n,d⟩:=p;exact⟨o,n,e,d⟩
theorem dG.obj {b:Bool}{h:Heap}{it a:Addr}{i:Nat} (p:dG b h it a i):∃ o,h.get? it=some o∧o.data=.fields #[.ref a,.int i 0]:=by
 cases b with
 | false=>obtain⟨o,e,_,d⟩:=p;exact⟨o,e,d⟩
 | true=>obtain⟨o,e,_,d⟩:=p;exact⟨o,e,d⟩
section
variable {prog:Program}{w:World}{A:Around}{E:Value→Shared→Prop}{s:Shared}
theorem nJ {it t:Addr}{i:Nat}{items:Array Value}{x:Value}{Q:Value→Shared→Prop} (hit:s.heap.IsTupleIter it t i) (ht:s.heap.IsTuple t items) (hx:items[i]? = some x)
  (hQ:∀ h',h'.IsTupleIter it t (i+1)→Heap.SameBut it s.heap h'→Q x { s with heap:=h' }):wpAny (model prog w) A (Builtin.SmallTypes.nextOf (.ref it)) Q E s:=by
 obtain ⟨o,ho,hc,hd⟩:=id hit
 obtain ⟨ol,hol,_,nl,hdl⟩:=ht
 unfold Builtin.SmallTypes.nextOf
 refine wpAny_bind (wpAny_callSpecial?_slot (name:=Str.ofString "__next__") hit.typeIs F.slot_tuple_iterator_next (wpAny_call_entry F.slot_tuple_iterator_next hit.typeIs F.entry_tuple_iterator_next ?_ (F.args_tuple_iterator_next_1 _)))
 show wpAny _ _ (field (.ref it) 0 >>= _) _ _ s
 refine wpAny_bind (wpAny_field ho hd (x:=.ref t) rfl ?_)
 show wpAny _ _ (if (Value.ref t==Value.none)=true then _ else _) _ _ s
 rw [if_neg (show ¬((Value.ref t==Value.none)=true) from yn)]
 show wpAny _ _ (field (.ref it) 1 >>= _) _ _ s
 refine wpAny_bind (wpAny_field ho hd (x:=.int i 0) rfl ?_)
 show wpAny _ _ (seqItems? (.ref t) >>= _) _ _ s
 refine wpAny_bind (wpAny_seqItems hol hdl ?_)
 simp only [yI,hx]
 refine wpAny_bind (wpAny_setField ho hd (by simp) (wpAny_pure ⟨x,rfl,wpAny_pure (hQ _ ?_ (Heap.SameBut.update ..))⟩))
 refine ⟨_,Heap.get?_update_self _ ho (Obj.isFreed_of_fields (Obj.data_mapFields hd _)),(Obj.cls_mapFields ..).trans hc,?_⟩
 rw [Obj.data_mapFields hd]
 simp [rawInt]
theorem iK {it t:Addr}{i:Nat}{items:Array Value}{Q:Value→Shared→Prop} (hh:A.handled=none) (hit:s.heap.IsTupleIter it t i) (ht:s.heap.IsTuple t items) (hx:items[i]? = none)
  (hE:∀ h' e,Heap.ExtBut it s.heap h'→(∃ o,h'.get? e=some o∧o.cls=.type "StopIteration")→E (.ref e) { s with heap:=h' }):wpAny (model prog w) A (Builtin.SmallTypes.nextOf (.ref it)) Q E s:=by
 obtain ⟨o,ho,hc,hd⟩:=id hit
 obtain ⟨ol,hol,_,nl,hdl⟩:=ht
 unfold Builtin.SmallTypes.nextOf
 refine wpAny_bind (wpAny_callSpecial?_slot (name:=Str.ofString "__next__") hit.typeIs F.slot_tuple_iterator_next (wpAny_call_entry F.slot_tuple_iterator_next hit.typeIs F.entry_tuple_iterator_next ?_ (F.args_tuple_iterator_next_1 _)))
 show wpAny _ _ (field (.ref it) 0 >>= _) _ _ s
 refine wpAny_bind (wpAny_field ho hd (x:=.ref t) rfl ?_)
 show wpAny _ _ (if (Value.ref t==Value.none)=true then _ else _) _ _ s
 rw [if_neg (show ¬((Value.ref t==Value.none)=true) from yn)]
 show wpAny _ _ (field (.ref it) 1 >>= _) _ _ s
 refine wpAny_bind (wpAny_field ho hd (x:=.int i 0) rfl ?_)
 show wpAny _ _ (seqItems? (.ref t) >>= _) _ _ s
 refine wpAny_bind (wpAny_seqItems hol hdl ?_)
 simp only [yI,hx]
 refine wpAny_bind (wpAny_rule (wpAny_bind (wpAny_setField ho hd (by simp) ?_)))
 show wpAny _ _ (newExc (.type "StopIteration") [] >>= _) _ _ _
 refine wpAny_bind ?_
 simp only [newExc,newTuple]
 refine wpAny_bind (wpAny_newObj_type ?_ (by size_fits))
 refine wpAny_bind (m:=firstArgMember _ _) (wpAny_of_eq (a:=Value.none) (by first|rfl|(simp only [firstArgMember];rfl)) ?_)
 refine wpAny_newObj_type ?_ (by size_fits)
 simp only [raiseNew]
 refine wpAny_bind (wpAny_handled ?_)
 first|rw[show A.in1.handled=none from hh]|rw[hh]
 exact wpAny_bind (wpAny_pure (wpAny_throw (hE _ _ (((Heap.SameBut.update ..).extBut.push _).push _) ⟨_,yp _ rfl,rfl⟩)))
theorem nK {b:Bool}{it a:Addr}{i:Nat}{items:Array Value}{x:Value}{Q:Value→Shared→Prop} (hit:dG b s.heap it a i) (ha:dF b s.heap a items) (hx:items[i]? = some x)
  (hQ:∀ h',dG b h' it a (i+1)→Heap.SameBut it s.heap h'→Q x { s with heap:=h' }):wpAny (model prog w) A (Builtin.SmallTypes.nextOf (.ref it)) Q E s:=by
 cases b with
 | false=>exact wpAny_nextOf_list_item hit ha hx hQ
 | true=>exact nJ hit ha hx hQ
theorem iL {b:Bool}{it a:Addr}{i:Nat}{items:Array Value}{Q:Value→Shared→Prop} (hh:A.handled=none) (hit:dG b s.heap it a i) (ha:dF b s.heap a items) (hx:items[i]? = none)
  (hE:∀ h' e,Heap.ExtBut it s.heap h'→(∃ o,h'.get? e=some o∧o.cls=.type "StopIteration")→E (.ref e) { s with heap:=h' }):wpAny (model prog w) A (Builtin.SmallTypes.nextOf (.ref it)) Q E s:=by
 cases b with
 | false=>exact wpAny_nextOf_list_end hh hit ha hx hE
 | true=>exact iK hh hit ha hx hE
end
theorem gW {prog:Program}{w:World}{A:Around} (b:Bool) (hh:A.handled=none) (it a:Addr) (hne:a≠it) (items:Array Value) :
  Draws prog w A it [it,a] items.size (fun i v=>items[i]? = some v) (fun i h=>dG b h it a i∧dF b h a items) where
 live:=fun _ _ st=>by obtain⟨o,e,_⟩:=st.1.obj;exact⟨o,e⟩
 frame:=fun _ _ _ st hk=>⟨st.1.at fun o e=>hk it (by simp) o e,st.2.at fun o e=>hk a (by simp) o e⟩
 item:=fun i s Q E hi st hQ=>nK st.1 st.2 (x:=items[i]) (by simp[hi]) fun h' st' sb=>hQ _ h' s.toks (by simp[hi]) ⟨st',st.2.at fun o e=>sb.extBut a o hne e⟩ sb
 done:=fun s Q E st hE=>iL hh st.1 st.2 (by simp) hE
noncomputable def SqB (K:PySem.W.Frag) (H:Hp):Bool→Addr→List V→Prop
 | false,a,xs=>SqL K H a xs
 | true,a,xs=>SqT K H a xs
section
variable {X:Cx}{pins:List (Addr×Obj)}{σ:St}{H:Hp}{s:Shared}
theorem Inv.seq (I:Inv X pins σ H s) {b:Bool}{a:Addr}{xs:List V} (h:SqB X.K H b a xs):∃ its:List Value,aA xs its∧dF b s.heap a its.toArray:=by
 cases b with
 | false=>obtain⟨its,r,p,_⟩:=I.list h;exact⟨its,r,p.isList⟩
 | true=>obtain⟨its,r,p,_⟩:=I.tuple h;exact⟨its,r,p⟩
theorem Inv.seq_inj (I:Inv X pins σ H s) {b:Bool}{a:Addr}{xs ys:List V} (h:SqB X.K H b a xs) (h':SqB X.K H b a ys):xs=ys:=by
 cases b with
 | false=>exact I.list_inj h h'
 | true=>exact I.tuple_inj h h'
theorem Inv.turnedN {fp:List Addr}{h':Heap}{t':Nat} (I:Inv X pins σ H s) (hf:∀ b∈fp,eN X pins H b) (k:∀ b o,b ∉ fp→s.heap.get? b=some o→h'.get? b=some o):Inv X pins σ H { s with heap:=h',toks:=t' }:=by
 have nfp:∀ b u,H b=some u→b ∉ fp:=fun b u e z=>by rw[(hf b z).1] at e;cases e
 refine I.step (g':=s.gens) (d':=s.drawn) (ch:=fp) (fun b hb=>?_) (fun b o _ _ hc e _=>k b o hc e) (fun b o _ _ hc e _=>⟨o.slots,k b o hc e⟩) (fun _ _ _ _ n=>n) (fun b o hc e=>⟨o,k b o hc e⟩) (fun _ _ e=>e) (fun _ _ _ e=>e)
  (fun _ _ e=>e) (fun m hm=>?_) (fun b u e=>?_) I.bare
 ·obtain ⟨f0,f1,f2,f3,f4,f5⟩:=hf b hb
  exact ⟨f3,f1,f4,f5⟩
 ·obtain ⟨o,es,ep,ho,r⟩:=hm
  exact ⟨o,es,ep,k _ o (fun z=>(hf _ z).2.1 rfl) ho,r⟩
 ·refine (I.hok b u e).stay (fun c v hc q=>k c v ?_ q) (fun _ q=>q) fun _ _ _ q=>q
  rcases hc with z|z
  ·rw [z];exact nfp b u e
  ·exact nfp c _ z
theorem Inv.track {T:Addr}{o:HO} (I:Inv X pins σ H s) (hf:eN X pins H T) (new:cB X.prog X.w (upd H T o) s.heap T o):Inv X pins σ (upd H T o) s:=by
 obtain ⟨f0,f1,f2,f3,f4,f5⟩:=hf
 have nT:∀ b u,H b=some u→b≠T:=fun b u e z=>by rw[z,f0] at e;cases e
 have q:=I.step (h':=s.heap) (H':=upd H T o) (g':=s.gens) (d':=s.drawn) (t':=s.toks) (ch:=[T]) (fun b hb=>by
   have e:b=T:=by simpa using hb
   rw [e];exact⟨f3,f1,f4,f5⟩) (fun b o _ _ _ e _=>e) (fun b o _ _ _ e _=>⟨o.slots,e⟩) (fun b o' hc _ n=>by rw[ag (fun z=>hc (by simp[z]))];exact n) (fun b o' _ e=>⟨o',e⟩)
  (fun b xs e=>by rw[ag (nT b _ e)];exact e) (fun b o' u e=>by rw[ag (nT b _ e)];exact e) (fun b ps e=>by rw[ag (nT b _ e)];exact e) (fun m hm=>hm) (fun b u e=>?_) I.bare
 ·exact q
 ·by_cases hb:b=T
  ·subst hb;rw[aC] at e;cases e;exact new
  ·rw [ag hb] at e
   exact (I.hok b u e).stay (fun _ _ _ q=>q) (fun c q=>by rw[ag (nT c _ q)];exact q) fun c xs _ q=>by rw[ag (nT c _ q)];exact q
end
noncomputable def Ite (K:PySem.W.Frag) (b:Bool) (a:Addr):It :=
 ⟨fun i H=>∃ xs x,SqB K H b a xs∧xs[i]? = some x,fun i H v H'=>∃ p x,v=.ref p∧H p=none∧H'=upd H p (.tup [.int i,x])∧∀ xs,SqB K H b a xs→xs[i]? = some x,fun i H=>∃ xs,SqB K H b a xs∧xs.length=i⟩
theorem kK {P:Program}{w:World}{K:PySem.W.Frag}{es:List Expr}{kk:Nat}{pos:Pos} (b:Bool) (a it e:Addr) (hei:e≠it) :
  sR P w K (.Tuple es kk pos) (Ite K b a) [e,it] e (fun i h=>(∃ old,IsEnum h e it i old)∧dG b h it a i) where
 mem:=by simp
 obj := fun i h st c hc=>by
  obtain ⟨⟨old,he⟩,st⟩:=st
  rcases ye.mp hc with rfl|hc
  ·exact ⟨_,he,fun v z=>by
    have z':Data.fields _=Data.cell v:=z
    cases z'⟩
  ·have e':c=it:=by simpa using hc
   subst e'
   obtain ⟨o,ho,hd⟩:=st.obj
   exact ⟨o,ho,fun v z=>by rw[hd] at z;cases z⟩
 keep:=fun i h h' st k=>by
  obtain ⟨⟨old,he⟩,st⟩:=st
  exact ⟨⟨old,k e (by simp) _ he⟩,st.at fun o q=>k it (by simp) o q⟩
 item := by
  intro X hP hw hK hc i pins s σ H E I hf st hg
  subst hP hw hK
  obtain ⟨xs,x,hq,hx⟩:=hg
  obtain ⟨⟨old,he⟩,st⟩:=st
  obtain ⟨its,rv,ha⟩:=I.seq hq
  obtain ⟨u,hu,ru⟩:=rv.get hx
  obtain ⟨oa,na,ea,da⟩:=ha.obj
  obtain ⟨oi,ei,di⟩:=st.obj
  have hai:a≠it:=fun z=>by rw[z,ei] at ea;cases ea;rw[di] at da;cases da
  have hea:e≠a:=fun z=>by rw[←z,he] at ea;cases ea;cases da
  have hlt:i<its.toArray.size:=by
   have:=(yc.mp hu).1
   simpa using this
  refine wpAny_pyNext_enum_itemD (gW (A:=X.A.in1) b (I.ok.hd hc) it a hai its.toArray) he ⟨st,ha⟩ hlt hei (by simp[hei,hea]) fun y h1 tk hy hout st1 hT hz hk=>?_
  have ey:y=u:=by
   have:its[i]? = some y:=by simpa using hy
   rw [hu] at this
   exact (Option.some.inj this).symm
  subst ey
  refine ⟨_,rfl,wpAny_letOwnedTupleGo_enum hout fun h2 he2 hs2=>?_⟩
  have elt:e<s.heap.objs.size:=ym he
  have ilt:it<s.heap.objs.size:=ym ei
  have I2:Inv X pins σ H { s with heap:=h2,toks:=tk+1 }:=I.turnedN hf fun c o hc q=>hs2.extBut c o (fun z=>hc (by simp[z])) (hk c o (fun z=>hc (by simp[z])) (fun z=>hc (by simp[z])) q)
  have g2:h2.get? s.heap.objs.size=some { cls:=.type "tuple",data:=.seq #[.int i tk,y] }:=hs2.extBut _ _ (zb elt) hT
  have hn:H s.heap.objs.size=none:=I.hok.fresh (yl _)
  refine ⟨.ref s.heap.objs.size,upd H s.heap.objs.size (.tup [.int i,x]),I2.track (T:=s.heap.objs.size) (o:=.tup [.int i,x]) (I.fpOk (yl _) hn) ?_,rfl,?_,⟨⟨y,he2⟩,?_⟩,fun c hc=>?_⟩
  ·exact ⟨by show 2≤sizeLine;decide,[.int i tk,y],.cons ⟨tk,rfl⟩ (.cons ru .nil),_,g2,rfl,⟨_,rfl⟩,rfl⟩
  ·exact ⟨_,x,rfl,hn,rfl,fun ys hy=>by rw[I.seq_inj hy hq];exact hx⟩
  ·exact st1.1.at fun o q=>hs2.extBut it o (Ne.symm hei) q
  ·have:c<s.heap.objs.size:=by
    rcases ye.mp hc with rfl|hc
    ·exact elt
    ·have e':c=it:=by simpa using hc
     rw [e'];exact ilt
   rw [ag (yq this)]
   exact (hf c hc).1
 done:=by
  intro X hP hw hK hc i pins s σ H E I hf st hg
  subst hP hw hK
  obtain ⟨xs,hq,hx⟩:=hg
  obtain ⟨⟨old,he⟩,st⟩:=st
  obtain ⟨its,rv,ha⟩:=I.seq hq
  obtain ⟨oa,na,ea,da⟩:=ha.obj
  obtain ⟨oi,ei,di⟩:=st.obj
  have hai:a≠it:=fun z=>by rw[z,ei] at ea;cases ea;rw[di] at da;cases da
  have hl:=rv.length
  have ez:its.toArray.size=i:=by simp;omega
  refine wpAny_pyNext_enum_endD (gW (A:=X.A.in1) b (I.ok.hd hc) it a hai its.toArray) he (by rw[ez];exact⟨st,ha⟩) fun h' hx'=>⟨rfl,?_⟩
  exact I.turnedN (t':=s.toks) hf fun c o hc q=>hx' c o (fun z=>hc (by simp[z])) q
 self:=fun A i s Q E st h=>by
  obtain ⟨⟨old,he⟩,st⟩:=st
  exact wpAny_pyIter_enum he h
noncomputable abbrev iQ (b:Bool) (a:Addr):Obj:={ cls:=.type (if b then "tuple_iterator" else "list_iterator"),data:=.fields #[.ref a,.int 0 0] }
theorem oq {b:Bool}{h:Heap}{it a:Addr} (e:h.get? it=some (iQ b a)):dG b h it a 0:=by
 cases b with
 | false=>exact⟨_,e,rfl,rfl⟩
 | true=>exact⟨_,e,rfl,rfl⟩
theorem gG {prog:Program}{w:World}{A:Around}{E:Value→Shared→Prop}{s:Shared}{b:Bool}{a:Addr}{items:Array Value}{Q:Value→Shared→Prop} (ha:dF b s.heap a items)
  (hQ:Q (.ref s.heap.objs.size) { s with heap:=s.heap.push (iQ b a) }):wpAny (model prog w) A (pyIter (.ref a)) Q E s:=by
 cases b with
 | false=>exact wpAny_pyIter_list ha hQ
 | true=>exact wpAny_pyIter_tuple ha hQ
open AutoSeq1 (wpAny_loadPart') in
theorem l9 (l:Addr) (items:Array Value) (n:Nat) (dct:Option Addr) (sl:Array (Option Value)) :
  Meets (Builtin.«enumerate.__new__» ⟨[.type "enumerate",.ref l],[]⟩) (fun _ R s=>s.heap.get? l=some { cls:=.type "tuple",dict:=dct,data:=.seq items n,slots:=sl } ∧
   R (.ok (.ret (.ref (s.heap.push (iQ true l)).objs.size))) { s with heap:=(s.heap.push (iQ true l)).push { cls:=.type "enumerate",data:=.fields #[.none,.bool false,.ref s.heap.objs.size,rawInt 0,.none,.none] } }) :=
 .of_wp fun prog w A R s h=>by
  obtain ⟨hp,g,d,tk,os⟩:=s
  obtain ⟨hl,h⟩:=h
  have hsub:=sub_enumerate
  have hL:dF true (Shared.heap ⟨hp,g,d,tk,os⟩) l items:=⟨_,hl,rfl,n,rfl⟩
  wp_walk using wpAny_loadPart' hl
  refine wpAny_stack_any fun st=>wpAny_pure ?_
  split
  ·rename_i c _ _ _ _ _
   cases (c==Value.type "enumerate") <;> (wp_walk using wpAny_loadPart' hl,gG hL) <;> exact⟨_,rfl,h⟩
  ·wp_walk using wpAny_loadPart' hl,gG hL
   exact ⟨_,rfl,h⟩
section
variable {prog:Program}{w:World}{A:Around}{E:Value→Shared→Prop}{s:Shared}
theorem mf {b:Bool}{l:Addr}{items:Array Value}{Q:Value→Shared→Prop} (hL:dF b s.heap l items)
  (h : ∀ h',IsEnum h' (s.heap.objs.size+1) s.heap.objs.size 0 .none→dG b h' s.heap.objs.size l 0→h'.objs.size=s.heap.objs.size+2→(∀ c o,s.heap.get? c=some o→h'.get? c=some o)→Q (.ref (s.heap.objs.size+1)) { s with heap:=h' }) :
  wpAny (model prog w) A (call (.type "enumerate") [.ref l]) Q E s:=by
 cases b with
 | false=>exact call_enumerate_list hL h
 | true =>
  obtain ⟨⟨c,dct,dt,sl⟩,hl,hc,n,hd⟩:=hL
  replace hc:c=.type "tuple" := hc
  replace hd:dt=.seq items n:=hd
  subst hc hd
  refine callType_new F.called_enumerate (by decide) (F.typeCall_enumerate_1 _) (F.newCall_enumerate_1 _) (fun obj=>F.args_object_init_2 obj _) F.entry_enumerate_new (l9 l items n dct sl) ⟨hl,?_⟩
  have hz:(s.heap.push (iQ true l)).objs.size=s.heap.objs.size+1:=y6 ..
  show _∧_
  rw [hz]
  have he:IsEnum ((s.heap.push (iQ true l)).push { cls:=.type "enumerate",data:=.fields #[.none,.bool false,.ref s.heap.objs.size,rawInt 0,.none,.none] }) (s.heap.objs.size+1) s.heap.objs.size 0 .none:=by
   have q:=yp (s.heap.push (iQ true l)) (o:={ cls:=.type "enumerate",data:=.fields #[.none,.bool false,.ref s.heap.objs.size,rawInt 0,.none,.none] }) rfl
   rw [hz] at q
   exact q
  exact ⟨⟨_,he,rfl⟩,h _ he (oq (yf _ (yp _ rfl))) (by rw[y6,hz]) fun c o x=>yf _ (yf _ x)⟩
end
section
variable {X:Cx}
noncomputable def uJ (K:PySem.W.Frag) (b:Bool) (ta:TA):TI:=fun σ H R=>ta σ H fun vs H1=>∃ a xs,vs=[.ref a]∧SqB K H1 b a xs∧R (Ite K b a) H1
theorem q5 (b:Bool) {es:List Expr}{kk:Nat}{tpos:Pos}{a:Expr}{ta:TA}{p pos:Pos} (hg:Gl X "enumerate") (hm:X.mg "enumerate" = none) (hbt:bootBuiltins "enumerate" = some (.type "enumerate")) (ha:PA X [a] ta) (hs:starEach [a] X.env=[(false,eval a X.env)]:=by rfl) :
  PI X (.Tuple es kk tpos) (.Call (.Name "enumerate" p) [a] [] pos) (uJ X.K b ta):=by
 intro pins s σ H R I h
 refine Call_ (fg I hg hm hbt (PyProof.Rows.callWith_type1 (thn (ha pos pins s σ H _ I h) fun us s1 ⟨vs,H1,I1,r1,q1⟩=>?_) hs rfl))
 obtain ⟨l,xs,rfl,hq,q⟩:=q1
 obtain ⟨u,rfl,ru⟩:=kI r1
 cases (show u=Value.ref l from ru)
 obtain ⟨its,rv,hL⟩:=I1.seq hq
 refine mf hL fun h' he hit hz hk=>wpAny_pyIter_enum he ?_
 have I2:Inv X pins σ H1 { s1 with heap:=h' }:=I1.kept (t':=s1.toks) hk
 refine ⟨s1.heap.objs.size+1,[s1.heap.objs.size+1,s1.heap.objs.size],_,_,H1,rfl,I2,kK b l s1.heap.objs.size (s1.heap.objs.size+1) (zb (yT _)),⟨⟨_,he⟩,hit⟩,fun c hc=>?_,q⟩
 rcases ye.mp hc with rfl|hc
 ·exact I1.fpOk (y8 _) (I1.hok.fresh (y8 _))
 ·have e:c=s1.heap.objs.size:=by simpa using hc
  rw [e]
  exact I1.fpOk (yl _) (I1.hok.fresh (yl _))
end
section
variable {prog:Program}{w:World}{A:Around}{E:Value→Shared→Prop}{s:Shared}
end
section
variable {X:Cx}
end
noncomputable def SnL (K:PySem.W.Frag) (N:Addr→Prop) (H:Hp) (a:Addr) (xs:List V):Prop :=
 (Rd H a (.lst xs)∧¬N a)∨∃ (o:Obj) (its:Array Value) (n:Nat),K.lookup a=some o∧o.cls=.type "list" ∧ o.dict=none∧o.data=.seq its n∧its.size≤sizeLine∧aA xs its.toList
noncomputable def SnT (K:PySem.W.Frag) (N:Addr→Prop) (H:Hp) (a:Addr) (xs:List V):Prop :=
 (Rd H a (.tup xs)∧¬N a)∨∃ (o:Obj) (its:Array Value) (n:Nat),K.lookup a=some o∧(o.cls=.type "tuple" ∧ o.dict=none)∧o.data=.seq its n∧its.size≤sizeLine∧aA xs its.toList
noncomputable def aI (N:Addr→Prop) (H H':Hp):Prop:=∀ b o,¬N b→H b=some o→H' b=some o
theorem aI.refl {N:Addr→Prop}{H:Hp}:aI N H H:=fun _ _ _ e=>e
theorem aI.trans {N:Addr→Prop}{H H1 H2:Hp} (a:aI N H H1) (b:aI N H1 H2):aI N H H2:=fun c o n e=>b c o n (a c o n e)
theorem aI.new {N:Addr→Prop}{H:Hp}{p:Addr}{o:HO} (h:H p=none):aI N H (upd H p o):=fun b u _ e=>by rw[ag (ak e h)];exact e
theorem aI.own {N:Addr→Prop}{H:Hp}{p:Addr}{o:HO} (h:N p):aI N H (upd H p o):=fun b u n e=>by
 have q:b≠p:=fun z=>n (by rw[z];exact h)
 rw [ag q]
 exact e
theorem aI.mono {N M:Addr→Prop}{H H':Hp} (a:aI N H H') (h:∀ b,N b→M b):aI M H H':=fun b o n e=>a b o (fun z=>n (h b z)) e
theorem aI.same {N:Addr→Prop}{H H':Hp} (a:aH H H'):aI N H H':=fun b o _ e=>a b o e
noncomputable abbrev N0:Addr→Prop:=fun _=>False
noncomputable abbrev N1 (d:Addr):Addr→Prop:=fun b=>b=d
theorem aI.none {H H':Hp} (a:aI N0 H H'):aH H H':=fun b o e=>a b o (fun z=>z) e
section
variable {K:PySem.W.Frag}{N M:Addr→Prop}{H H':Hp}{a:Addr}{xs:List V}
theorem SnL.of (h:H a=some (.lst xs)) (n:¬N a):SnL K N H a xs:=.inl ⟨.inl h,n⟩
theorem SnT.of (h:H a=some (.tup xs)) (n:¬N a):SnT K N H a xs:=.inl ⟨.inl h,n⟩
theorem SnL.sq (h:SnL K N H a xs):SqL K H a xs:=by
 rcases h with ⟨h,_⟩|h
 ·exact .inl h
 ·exact .inr h
theorem SnT.sq (h:SnT K N H a xs):SqT K H a xs:=by
 rcases h with ⟨h,_⟩|h
 ·exact .inl h
 ·exact .inr h
theorem SnL.keep (h:SnL K N H a xs) (k:aI N H H'):SnL K N H' a xs:=by
 rcases h with ⟨h|⟨o,h⟩,n⟩|h
 ·exact .inl ⟨.inl (k _ _ n h),n⟩
 ·exact .inl ⟨.inr ⟨o,k _ _ n h⟩,n⟩
 ·exact .inr h
theorem SnT.keep (h:SnT K N H a xs) (k:aI N H H'):SnT K N H' a xs:=by
 rcases h with ⟨h|⟨o,h⟩,n⟩|h
 ·exact .inl ⟨.inl (k _ _ n h),n⟩
 ·exact .inl ⟨.inr ⟨o,k _ _ n h⟩,n⟩
 ·exact .inr h
theorem SnL.to (h:SnL K N H a xs) (m:∀ b o,H b=some o→M b→N b):SnL K M H a xs:=by
 rcases h with ⟨h|⟨o,h⟩,n⟩|h
 ·exact .inl ⟨.inl h,fun z=>n (m _ _ h z)⟩
 ·exact .inl ⟨.inr ⟨o,h⟩,fun z=>n (m _ _ h z)⟩
 ·exact .inr h
theorem SnT.to (h:SnT K N H a xs) (m:∀ b o,H b=some o→M b→N b):SnT K M H a xs:=by
 rcases h with ⟨h|⟨o,h⟩,n⟩|h
 ·exact .inl ⟨.inl h,fun z=>n (m _ _ h z)⟩
 ·exact .inl ⟨.inr ⟨o,h⟩,fun z=>n (m _ _ h z)⟩
 ·exact .inr h
end
mutual
inductive DN (K:PySem.W.Frag) (N:Addr→Prop) (H:Hp):V→PyData→Prop
 | non:DN K N H .non .none
 | bl (b:Bool):DN K N H (.bl b) (.bool b)
 | int (i:Int):DN K N H (.int i) (.int i)
 | lst {a:Addr}{xs:List V}{ds:List PyData}:SnL K N H a xs→DNs K N H xs ds→DN K N H (.ref a) (.list ds)
 | tup {a:Addr}{xs:List V}{ds:List PyData}:SnT K N H a xs→DNs K N H xs ds→DN K N H (.ref a) (.tuple ds)
 | dct {a:Addr}{es:List (cg×Addr×V)}{kvs:List (cg×PyData)}:¬N a→H a=some (.ext (ij a es))→DNs K N H (es.map fun p=>V.ref p.2.1) (kvs.map fun p=>f8 p.1)→DNs K N H (es.map fun p=>p.2.2) (kvs.map fun p=>p.2)→es.map (fun p=>p.1)=kvs.map (fun p=>p.1)→DN K N H (.ref a) (mY kvs)
 | fz {v:V}{ds:List PyData}:DN K N H v (.list ds)→DN K N H v (fzD ds)
inductive DNs (K:PySem.W.Frag) (N:Addr→Prop) (H:Hp):List V→List PyData→Prop
 | nil:DNs K N H [] []
 | cons {x:V}{xs:List V}{d:PyData}{ds:List PyData}:DN K N H x d→DNs K N H xs ds→DNs K N H (x::xs) (d::ds)
end
section
variable {K:PySem.W.Frag}{N M:Addr→Prop}{H H':Hp}
theorem DN.dv {v:V}{d:PyData} (h:DN K N H v d):DV K H v d :=
 DN.rec (motive_1:=fun v d _=>DV K H v d) (motive_2:=fun v d _=>DVs K H v d)
 .non (fun b=>.bl b) (fun i=>.int i)
 (fun h _ q=>.lst h.sq q) (fun h _ q=>.tup h.sq q)
 (fun _ h _ _ e q r=>.dct h q r e) (fun _ h=>.fz h) .nil (fun _ _ h q=>.cons h q) h
theorem DNs.dv {v:List V}{d:List PyData} (h:DNs K N H v d):DVs K H v d :=
 DNs.rec (motive_1:=fun v d _=>DV K H v d) (motive_2:=fun v d _=>DVs K H v d)
 .non (fun b=>.bl b) (fun i=>.int i)
 (fun h _ q=>.lst h.sq q) (fun h _ q=>.tup h.sq q)
 (fun _ h _ _ e q r=>.dct h q r e) (fun _ h=>.fz h) .nil (fun _ _ h q=>.cons h q) h
theorem DN.keep (k:aI N H H') {v:V}{d:PyData} (h:DN K N H v d):DN K N H' v d :=
 DN.rec (motive_1:=fun v d _=>DN K N H' v d) (motive_2:=fun v d _=>DNs K N H' v d)
 .non (fun b=>.bl b) (fun i=>.int i)
 (fun h _ q=>.lst (h.keep k) q) (fun h _ q=>.tup (h.keep k) q)
 (fun n h _ _ e q r=>.dct n (k _ _ n h) q r e) (fun _ h=>.fz h) .nil (fun _ _ h q=>.cons h q) h
theorem DNs.keep (k:aI N H H') {v:List V}{d:List PyData} (h:DNs K N H v d):DNs K N H' v d :=
 DNs.rec (motive_1:=fun v d _=>DN K N H' v d) (motive_2:=fun v d _=>DNs K N H' v d)
 .non (fun b=>.bl b) (fun i=>.int i)
 (fun h _ q=>.lst (h.keep k) q) (fun h _ q=>.tup (h.keep k) q)
 (fun n h _ _ e q r=>.dct n (k _ _ n h) q r e) (fun _ h=>.fz h) .nil (fun _ _ h q=>.cons h q) h
theorem DN.to (m:∀ b o,H b=some o→M b→N b) {v:V}{d:PyData} (h:DN K N H v d):DN K M H v d :=
 DN.rec (motive_1:=fun v d _=>DN K M H v d) (motive_2:=fun v d _=>DNs K M H v d)
 .non (fun b=>.bl b) (fun i=>.int i)
 (fun h _ q=>.lst (h.to m) q) (fun h _ q=>.tup (h.to m) q)
 (fun n h _ _ e q r=>.dct (fun z=>n (m _ _ h z)) h q r e) (fun _ h=>.fz h) .nil (fun _ _ h q=>.cons h q) h
theorem DNs.to (m:∀ b o,H b=some o→M b→N b) {v:List V}{d:List PyData} (h:DNs K N H v d):DNs K M H v d :=
 DNs.rec (motive_1:=fun v d _=>DN K M H v d) (motive_2:=fun v d _=>DNs K M H v d)
 .non (fun b=>.bl b) (fun i=>.int i)
 (fun h _ q=>.lst (h.to m) q) (fun h _ q=>.tup (h.to m) q)
 (fun n h _ _ e q r=>.dct (fun z=>n (m _ _ h z)) h q r e) (fun _ h=>.fz h) .nil (fun _ _ h q=>.cons h q) h
theorem DNs.ind {C:List V→List PyData→Prop} (n:C [] []) (c:∀ {x:V}{xs:List V}{d:PyData}{ds:List PyData},DN K N H x d→DNs K N H xs ds→C xs ds→C (x::xs) (d::ds)) {v:List V}{d:List PyData} (h:DNs K N H v d):C v d :=
 DNs.rec (motive_1:=fun _ _ _=>True) (motive_2:=fun v d _=>C v d) trivial (fun _=>trivial) (fun _=>trivial)
 (fun _ _ _=>trivial) (fun _ _ _=>trivial)
 (fun _ _ _ _ _ _ _=>trivial) (fun _ _=>trivial) n (fun h q _ i=>c h q i) h
theorem DNs.len {v:List V}{d:List PyData} (h:DNs K N H v d):v.length=d.length:=DNs.ind (C:=fun v d=>v.length=d.length) rfl (fun _ _ i=>by rw[yK,yK,i]) h
theorem DNs.get:∀ {v:List V}{d:List PyData}{i:Nat}{x:V},DNs K N H v d→v[i]? = some x→∃ e,d[i]? = some e∧DN K N H x e
 | _,_,_,_,.nil,e=>by simp at e
 | _,_,0,_,.cons h _,e=>by simp at e;subst e;exact⟨_,rfl,h⟩
 | _,_,i+1,_,.cons _ q,e=>by
  obtain ⟨d,h1,h2⟩:=DNs.get (i:=i) q (by simpa using e)
  exact ⟨d,by simpa using h1,h2⟩
theorem DNs.app {v w:List V}{d e:List PyData} (h:DNs K N H v d) (q:DNs K N H w e):DNs K N H (v++w) (d++e):=DNs.ind (C:=fun v d=>DNs K N H (v++w) (d++e)) q (fun h _ i=>.cons h i) h
noncomputable abbrev pI (ns:List Int):PyData:=.list (ns.map .int)
noncomputable abbrev pT (ns:List Int):PyData:=.tuple (ns.map .int)
theorem jL:∀ ns:List Int,DNs K N H (ns.map V.int) (ns.map .int)
 | []=>.nil
 | n::r=>.cons (.int n) (jL r)
theorem DNs.ints:∀ {ns:List Int}{v:List V},DNs K N H v (ns.map .int)→v=ns.map V.int
 | [],_,.nil=>rfl
 | n::r,_,.cons h q=>by
  cases h
  rw [q.ints];rfl
theorem DN.ofI {a:Addr}{ns:List Int} (h:SnL K N H a (ns.map V.int)):DN K N H (.ref a) (pI ns):=.lst h (jL ns)
theorem DN.list {v:V}{ds:List PyData} (h:DN K N H v (.list ds)):∃ a xs,v=.ref a∧SnL K N H a xs∧DNs K N H xs ds:=by
 cases h with|lst h q=>exact⟨_,_,rfl,h,q⟩
theorem DN.tuple {v:V}{ds:List PyData} (h:DN K N H v (.tuple ds)):∃ a xs,v=.ref a∧SnT K N H a xs∧DNs K N H xs ds:=by
 cases h with|tup h q=>exact⟨_,_,rfl,h,q⟩
theorem DN.I {v:V}{ns:List Int} (h:DN K N H v (pI ns)):∃ a,v=.ref a∧SnL K N H a (ns.map V.int):=by
 obtain ⟨a,xs,e,s,q⟩:=h.list
 rw [q.ints] at s
 exact ⟨a,e,s⟩
theorem DN.T {v:V}{ns:List Int} (h:DN K N H v (pT ns)):∃ a,v=.ref a∧SnT K N H a (ns.map V.int):=by
 obtain ⟨a,xs,e,s,q⟩:=h.tuple
 rw [q.ints] at s
 exact ⟨a,e,s⟩
theorem DN.two {v:V}{d e:PyData} (h:DN K N H v (.tuple [d,e])):∃ a x y,v=.ref a∧SnT K N H a [x,y]∧DN K N H x d∧DN K N H y e:=by
 obtain ⟨a,xs,e,s,q⟩:=h.tuple
 cases q with
 | cons h1 q =>
  cases q with
  | cons h2 q=>cases q;exact⟨a,_,_,e,s,h1,h2⟩
theorem DN.of2 {a:Addr}{x y:V}{d e:PyData} (s:SnT K N H a [x,y]) (h1:DN K N H x d) (h2:DN K N H y e):DN K N H (.ref a) (.tuple [d,e]):=.tup s (.cons h1 (.cons h2 .nil))
end
theorem d9:∀ a b:List Int,PyData.eqvAll (a.map .int) (b.map .int)=decide (a=b)
 | [],[]=>by simp[PyData.eqvAll]
 | [],_::_=>by simp[PyData.eqvAll]
 | _::_,[]=>by simp[PyData.eqvAll]
 | x::a,y::b=>by
  rw [yx,yx,PyData.eqvAll,d9 a b]
  simp only [PyData.eqv]
  by_cases h:x=y <;> by_cases h':a=b <;> simp[h,h']
theorem sf (a b:List Int):PyData.eqv (pI a) (pI b)=decide (a=b):=by
 show PyData.eqvAll _ _=_
 exact d9 a b
theorem fE (a:List Int):PyData.canLayAll0 (a.map .int)=true:=PySem.W.ke_canLayAll0 a
theorem oI (a:List Int):PyData.depthAll (a.map .int)=0:=PySem.W.ke_depthAll a
theorem vS (a:List Int):shp (pI a):=by simp[shp,SeqAt.shaped,PyData.canLay0,PyData.depth,fE,oI]
section
variable {K:PySem.W.Frag}{a:Addr}{xs:List V}{g:TG}{tt:TT}{te:TE}{σ0:St}{H:Hp}{Qe:List V→Hp→Prop}
end
noncomputable def Cal (P:Program) (w:World) (K:PySem.W.Frag) (mg:Str→Option Value) (base:Heap) (x:Str) (k:Nat) (sp:Sp):Prop :=
 ∃ (f:Addr) (fd:FuncData) (ps:List Str),bW P w K mg base CX0 k f fd ps sp∧bF K fd ps []∧PySem.W.keepIn K (.ref f)=true∧mg x=some (.ref f)
theorem Cal.mono {P:Program}{w:World}{K:PySem.W.Frag}{mg:Str→Option Value}{base:Heap}{x:Str}{j k:Nat}{sp:Sp} (C:Cal P w K mg base x j sp) (h:j≤k):Cal P w K mg base x k sp:=by
 obtain ⟨f,fd,ps,F,b,kp,m⟩:=C
 exact ⟨f,fd,ps,F.mono h,b,kp,m⟩
section
variable {X:Cx}{x:Str}{p pos:Pos}{e:Expr}{es:List Expr}{t:TA}{k:Nat}{sp:Sp}
theorem gj (C:Cal X.prog X.w X.K X.mg X.base x k sp) (hr:ci k X.A) (hg:Gl X x) (ha:PA X (e::es) t) (hd:(x==("__debug__" : Str))=false:=by decide)
  (he:starEach (e::es) X.env=(false,eval e X.env)::starEach es X.env:=by rfl) (hpl:(backTo pos (starEach es X.env)).any (·.1)=false:=by rfl):PE X (.Call (.Name x p) (e::es) [] pos) (il sp [] E0 t):=by
 obtain ⟨f,fd,ps,F,b,kp,m⟩:=C
 exact rh F hr hg m kp b .nil v9 ha hd he hpl
end
noncomputable def bOk (N:List Str) (sc0:Scope) (N':List Str) (ix:List (Option Nat)) (sc:Scope):Bool :=
 decide (sc.kind=.function)&&decide ((sc.names.map (·.1)).Nodup)&&sc.names.all (fun y=>!(y.2==.free) || decide (sc0.names.lookup y.1=some .cell) || decide (sc0.names.lookup y.1=some .free))&&decide (ix.length=N'.length) &&
 (ix.zip N').all fun q=>match q.1 with
  | none=>true
  | some j=>decide (N[j]? = some q.2)&&decide (sc.names.lookup q.2=some .free)
theorem dk {X:Cx}{N N':List Str}{ix:List (Option Nat)}{sc sc0:Scope} (hN:X.N=N) (h0:X.env.scope=sc0) (h:bOk N sc0 N' ix sc=true):bi X.N X.env N' ix sc:=by
 rw [←hN] at h
 unfold bOk at h
 simp only [yG,decide_eq_true_eq] at h
 obtain ⟨⟨⟨⟨h1,h2⟩,h3⟩,h4⟩,h5⟩:=h
 refine ⟨h1,h2,fun y hy hf=>?_,h4,fun i j hij=>?_⟩
 ·have q:=zk.mp h3 y hy
  rw [hf] at q
  have e:∀ z,X.env.kindOf z=sc0.names.lookup z:=fun z=>by
   show X.env.scope.names.lookup z=_
   rw [h0]
  rw [e]
  simpa using q
 ·have hi:i<ix.length:=(yc.mp hij).1
  have hi':i<N'.length:=by omega
  have hm:(some j,N'[i])∈ix.zip N':=by
   rw [zh]
   refine ⟨i,?_⟩
   rw [y4]
   exact ⟨hij,x5 hi'⟩
  have q:=zk.mp h5 _ hm
  simp only [yG,decide_eq_true_eq] at q
  exact ⟨N'[i],x5 hi',q.1,q.2⟩
theorem wP {X:Cx}{N1 N':List Str}{ix:List (Option Nat)}{sc1 sc:Scope}{s:Shared}{H:Hp}{C:Addr}{fp:List Addr} (h:bOk N1 sc1 N' ix sc=true):bi (bCx X N1 sc1 s H C fp).N (bCx X N1 sc1 s H C fp).env N' ix sc:=by
 unfold bOk at h
 simp only [yG,decide_eq_true_eq] at h
 obtain ⟨⟨⟨⟨h1,h2⟩,h3⟩,h4⟩,h5⟩:=h
 refine ⟨h1,h2,fun y hy hf=>?_,h4,fun i j hij=>?_⟩
 ·have q:=zk.mp h3 y hy
  rw [hf] at q
  have q':sc1.names.lookup y.1=some .cell∨sc1.names.lookup y.1=some .free:=by simpa using q
  rcases q' with q'|q'
  ·exact .inl (by rw[show (bCx X N1 sc1 s H C fp).env.kindOf y.1=_ from cf (C:=C) (env:=X.env) q'];rfl)
  ·rw [show (bCx X N1 sc1 s H C fp).env.kindOf y.1=_ from cf (C:=C) (env:=X.env) q']
   split
   ·exact .inl rfl
   ·exact .inr rfl
 ·have hi:i<ix.length:=(yc.mp hij).1
  have hi':i<N'.length:=by omega
  have hm:(some j,N'[i])∈ix.zip N':=by
   rw [zh]
   refine ⟨i,?_⟩
   rw [y4]
   exact ⟨hij,x5 hi'⟩
  have q:=zk.mp h5 _ hm
  simp only [yG,decide_eq_true_eq] at q
  exact ⟨N'[i],x5 hi',q.1,q.2⟩
structure Bn (mg:Str→Option Value):Prop where
 len:mg "len" = none
 range:mg "range" = none
 min:mg "min" = none
 max:mg "max" = none
 enumerate:mg "enumerate" = none
 zip:mg "zip" = none
 all:mg "all" = none
 any:mg "any" = none
 isinstance:mg "isinstance" = none
 bool:mg "bool" = none
 int:mg "int" = none
 list:mg "list" = none
 tuple:mg "tuple" = none
 sorted:mg "sorted" = none
 str:mg "str" = none
 sum:mg "sum" = none
 abs:mg "abs" = none
theorem SqB.of {K:PySem.W.Frag}{N:Addr→Prop}{H:Hp}{a:Addr}{xs:List V} (h:SnL K N H a xs):SqB K H false a xs:=h.sq
noncomputable def SnB (K:PySem.W.Frag) (N:Addr→Prop) (H:Hp):Bool→Addr→List V→Prop
 | false,a,xs=>SnL K N H a xs
 | true,a,xs=>SnT K N H a xs
theorem SnB.sq {K:PySem.W.Frag}{N:Addr→Prop}{H:Hp}{b:Bool}{a:Addr}{xs:List V} (h:SnB K N H b a xs):SqB K H b a xs:=by
 cases b with
 | false=>exact SnL.sq h
 | true=>exact SnT.sq h
theorem SqB.len {K:PySem.W.Frag}{H:Hp}{b:Bool}{a:Addr}{xs:List V} (h:SqB K H b a xs):SqL K H a xs∨SqT K H a xs:=by
 cases b with
 | false=>exact .inl h
 | true=>exact .inr h
theorem SqB.keep {K:PySem.W.Frag}{H H':Hp}{b:Bool}{a:Addr}{xs:List V} (h:SqB K H b a xs) (k:aH H H'):SqB K H' b a xs:=by
 cases b with
 | false=>exact (show SnL K N0 H a xs from by rcases h with h|h;exact .inl ⟨h,fun z=>z⟩;exact .inr h).keep (aI.same k) |>.sq
 | true=>exact (show SnT K N0 H a xs from by rcases h with h|h;exact .inl ⟨h,fun z=>z⟩;exact .inr h).keep (aI.same k) |>.sq
theorem SqL.keep {K:PySem.W.Frag}{H H':Hp}{a:Addr}{xs:List V} (h:SqL K H a xs) (k:aH H H'):SqL K H' a xs:=SqB.keep (b:=false) h k
theorem SqT.keep {K:PySem.W.Frag}{H H':Hp}{a:Addr}{xs:List V} (h:SqT K H a xs) (k:aH H H'):SqT K H' a xs:=SqB.keep (b:=true) h k
theorem aH.new {H:Hp}{p:Addr}{o:HO} (h:H p=none):aH H (upd H p o):=fun b u e=>by rw[ag (ak e h)];exact e
theorem Cal.mk {P:Program}{w:World}{K:PySem.W.Frag}{mg:Str→Option Value}{base:Heap}{x:Str}{st:Stmt}{f:Addr}{fd:FuncData}{k:Nat}{ps:List Str}{sp:Sp} (F:Fun K x x st f fd) (m:mg x=some (.ref f)) (b:bF K fd ps [])
  (G : bW P w K mg base CX0 k f fd ps sp):Cal P w K mg base x k sp:=⟨f,fd,ps,G,b,F.kp,m⟩
theorem ah:1000000≤sizeLine:=by decide
section
variable {X:Cx}{K:PySem.W.Frag} (hK:X.K=K)
include hK
theorem mV:c7 X (.builtin "len") (fun xs H Q=>∃ p ys,xs=[.ref p]∧(SqL K H p ys∨SqT K H p ys)∧Q (.int ys.length) H):=by subst hK;exact hV
theorem xI:SlR X (wZ K):=by subst hK;exact qD
theorem wu:OpR X (binaryOp .Add) (tJ K):=by subst hK;exact rq
theorem rP (hu:X.A.units+64<cLine):OpR X (compareOp .Eq) (vW K):=by subst hK;exact uj hu
theorem wt (hu:X.A.units+64<cLine):OpR X (compareOp .NotEq) (vV K):=by subst hK;exact ug hu
theorem kIn:OpR X (compareOp .In) (rIn K false):=by subst hK;exact lL
theorem uD:OpR X (compareOp .NotIn) (rIn K true):=by subst hK;exact gn
theorem uC:c7 X (.type "tuple") (fun xs H Q=>∃ p ys,xs=[.ref p]∧((SqL K H p ys∧∀ l,H l=none→Q (.ref l) (upd H l (.tup ys)))∨(SqT K H p ys∧Q (.ref p) H))):=by subst hK;exact fQ
variable {tg:Expr}
theorem pE {l:Expr}{tl:TE} (hl:PE X l tl):PI X tg l (rT K tl):=by subst hK;exact qZ hl
theorem wn {l:Expr}{tl:TE} (hl:PE X l tl):PI X tg l (xf K tl):=by subst hK;exact tY hl
theorem uv (b:Bool) {es:List Expr}{kk:Nat}{tpos:Pos}{a:Expr}{ta:TA}{p pos:Pos} (hg:Gl X "enumerate") (hm:X.mg "enumerate" = none) (ha:PA X [a] ta) (hs:starEach [a] X.env=[(false,eval a X.env)]:=by rfl) :
  PI X (.Tuple es kk tpos) (.Call (.Name "enumerate" p) [a] [] pos) (uJ K b ta):=by subst hK;exact q5 b hg hm PyProof.Rows.boot_enumerate ha hs
theorem wo {pos:Pos}{es:List Expr}{k:Nat}{t:TGs}{n:Nat} (hc:X.calm=true) (h:PGs X es t) (hn:(assignEach es X.env).length=n:=by rfl) (hst:(assignEach es X.env).findIdx? (·.1)=none:=by rfl):PG X (.Tuple es k pos) (xg K n t):=by
 subst hK;exact tZ hc h hn hst
variable {o e:Expr}{es:List Expr}{to:TE}{t:TA}{name:Str}{apos cpos:Pos}{T id:String}{r:V→List V→Hp→VK→Prop}
theorem xc (pa:PlainAttrs T) (slot:Slot T name id) (hty:typeOf (.builtin id)=pure (.type "method_descriptor")) (hm:MtR X id r) (ho:PE X o to)
  (hbase:attributeBase o name X.env (eval o X.env)=eval o X.env:=by rfl) (hline:(apos.endLine==cpos.line)=true:=by rfl):PE X (.Call (.Attribute o name apos) [] [] cpos) (wX K T r to):=by
 subst hK;exact ud pa slot hty hm ho hbase hline
theorem kBm (pa:PlainAttrs T) (slot:Slot T name id) (hty:typeOf (.builtin id)=pure (.type "method_descriptor")) (hm:MtR X id r) (ho:PE X o to) (ha:PA X (e::es) t)
  (hbase:attributeBase o name X.env (eval o X.env)=eval o X.env:=by rfl)
  (hfew:((backTo cpos (starEach (e::es) X.env)).all (fun x=>!x.1)&&(backToKw cpos (keywordEach [] X.env)).all (fun x=>x.1.isSome)&&decide ((e::es).length+([]:List Keyword).length+(if ([]:List Keyword).isEmpty then 0 else 1)<30))=true:=by rfl)
  (hline:(apos.endLine==cpos.line)=true:=by rfl) (hs:starEach (e::es) X.env=(false,eval e X.env)::starEach es X.env:=by rfl) (hplain:(backTo cpos (starEach es X.env)).any (·.1)=false:=by rfl) :
  PE X (.Call (.Attribute o name apos) (e::es) [] cpos) (tBM K T r to t):=by
 subst hK;exact v7 pa slot hty hm ho ha hbase hfew hline hs hplain
end
end L2
namespace L2
open PySem
theorem tE {A:Around}{k:Nat} (hr:ci k A):A.units+80<cLine:=by have:=hr.un;omega
section
variable {K:PySem.W.Frag}{a:Addr}{xs:List V}{g:TG}{tb:TS}{D:qs}{σ:St}{H:Hp} (Pv:Nat→St→Hp→Prop)
end
theorem rR {n j:Nat} (h:j<n):ixN n (j:Int)=some j:=by
 unfold ixN
 rw [if_pos (by omega),if_pos (by omega),yI]
end L2
namespace L2
open PySem PySem.Spec PyProof.Rows
noncomputable def xw (t u:TS):TS:=fun D σ H=>∃ R:St→Hp→Prop,t { D with nx:=R } σ H∧∀ σ' H',R σ' H'→u D σ' H'
theorem qU {X:Cx}{st:Stmt}{bR:List Stmt}{t u:TS} (h1:PS X st t) (h2:PSs X bR u):PSs X (st::bR) (xw t u):=by
 intro pins s σ H D I h
 obtain ⟨R,h,hR⟩:=h
 refine wpAny_execs_cons (thn (h1 pins s σ H { D with nx:=R } I h) fun f s1 q=>?_)
 cases f with
 | next =>
  obtain ⟨σ',H',I',q⟩:=q
  exact h2 pins s1 σ' H' D I' (hR _ _ q)
 | ret v=>exact q
 | brk=>exact q
 | cont=>exact q
theorem gw {α:Type}{x:α}{l:List α} (h:x∈l.dropLast):x∈l:=by
 rw [List.dropLast_eq_take] at h
 exact List.mem_of_mem_take h
end L2
namespace L2
open PySem
theorem aI.free {N:Addr→Prop}{H H':Hp} (k:aI N H H') {p:Addr} (n:¬N p) (h:H' p=Option.none):H p=Option.none:=by
 cases e:H p with
 | none=>rfl
 | some o=>rw[k p o n e] at h;cases h
theorem aI.put {N:Addr→Prop}{H H':Hp}{p:Addr}{o:HO} (k:aI N H H') (h:H p=Option.none):aI N H (upd H' p o):=fun b u n e=>by
 rw [ag (ak e h)]
 exact k b u n e
theorem DN.own {K:PySem.W.Frag}{N:Addr→Prop}{H H':Hp}{d:Addr}{v:V}{D:PyData} (h:DN K N H v D) (hd:H d=none) (k:aH H H'):DN K (N1 d) H' v D :=
 (h.to fun b o e (z:b=d)=>by rw[z,hd] at e;cases e).keep (aI.same k)
theorem DN.sqL {K:PySem.W.Frag}{H:Hp}{a:Addr}{ns:List Int} (h:SqL K H a (ns.map V.int)):DN K N0 H (.ref a) (pI ns):=DN.ofI (by
 rcases h with h|h
 ·exact .inl ⟨h,fun z=>z⟩
 ·exact .inr h)
end L2
namespace L2
end L2
namespace L2
open PySem PySem.Spec PyProof.Rows
section
variable {κ β:Type} [DecidableEq κ]
end
section
variable {X:Cx}{pins:List (Addr×Obj)}{σ:St}{H:Hp}{s:Shared}{a b:Addr}{k:cg}
theorem DVs.map_int:∀ {ns:List Int}{xs:List V},DVs X.K H xs (ns.map .int)→xs=ns.map V.int
 | [],_,h=>by cases h;rfl
 | n :: ns,_,h=>by
  cases h with
  | cons h t =>
   cases h
   rw [DVs.map_int t]
   rfl
theorem i7:∀ {ns:List Int}{us:List Value},aA (ns.map V.int) us→ItemsAre (intKind X.prog X.w) ns us
 | [],us,h=>by cases h;exact .nil
 | n :: ns,us,h=>by
  cases h with
  | cons r t =>
   obtain ⟨tt,rfl⟩:=r
   exact .cons (cA n tt) (i7 t)
theorem tx (I:Inv X pins σ H s) {x:V}{u:Value} (h:DV X.K H x (f8 k)) (r:aY x u):∃ b,x=.ref b∧u=.ref b∧bY X.prog X.w s.heap k b:=by
 obtain ⟨d,l⟩:=k
 obtain ⟨b,xs,rfl,sq,q⟩:=DV.tupI (h:DV X.K H x (.tuple _))
 obtain ⟨v1,v2,rfl,h1,h2⟩:=q.twoI
 obtain ⟨c,ys,rfl,sq2,q2⟩:=h2.tupI
 obtain ⟨its,rv,⟨o,e,cl,n,hd⟩,_⟩:=I.tuple sq
 obtain ⟨its2,rv2,⟨o2,e2,cl2,n2,hd2⟩,_⟩:=I.tuple sq2
 rw [DVs.map_int (X:=X) q2] at rv2
 obtain ⟨w1,w2,rfl,r1,r2⟩:=m6 rv
 rw [h1.intI] at r1
 obtain ⟨t,rfl⟩:=r1
 have e3:w2=Value.ref c:=r2
 have e4:u=Value.ref b:=r
 subst e3 e4
 exact ⟨b,rfl,rfl,o,t,c,n,e,cl,hd,o2,its2.toArray,n2,e2,cl2,hd2,by simpa using i7 rv2⟩
theorem jA (I:Inv X pins σ H s):∀ {es:List (cg×Addr×V)}{xs:List (cg×Addr×Value)}{kvs:List (cg×PyData)},
  Paired (fun (p:cg×Addr×V) (q:cg×Addr×Value)=>p.1=q.1∧p.2.1=q.2.1∧aY p.2.2 q.2.2) es xs→DVs X.K H (es.map fun p=>V.ref p.2.1) (kvs.map fun p=>f8 p.1)→es.map (fun p=>p.1)=kvs.map (fun p=>p.1) →
  ∀ x∈xs,bY X.prog X.w s.heap x.1 x.2.1
 | [],_,_,.nil,_,_=>fun x hx=>by cases hx
 | p :: es,_,kvs,.cons (b:=q) r t,h,e=>by
  cases kvs with
  | nil=>simp at e
  | cons kv kvs =>
   rw [yx,yx] at h e
   injection e with e1 e2
   cases h with
   | cons h1 h2 =>
    intro x hx
    rcases ye.mp hx with rfl|hx
    ·obtain ⟨b,z,_,st⟩:=tx I h1 (u:=.ref p.2.1) rfl
     cases z
     rw [←r.1,←r.2.1,e1]
     exact st
    ·exact jA I t h2 e2 x hx
theorem dct_of (I:Inv X pins σ H s) {es:List (cg×Addr×V)}{kvs:List (cg×PyData)} (ha:H a=some (.ext (ij a es))) (hk:DVs X.K H (es.map fun p=>V.ref p.2.1) (kvs.map fun p=>f8 p.1)) (e:es.map (fun p=>p.1)=kvs.map (fun p=>p.1)) :
  es.length≤sizeLine∧(a==sysModules)=false∧∃ xs,Paired (fun (p:cg×Addr×V) (q:cg×Addr×Value)=>p.1=q.1∧p.2.1=q.2.1∧aY p.2.2 q.2.2) es xs∧sM X.prog X.w s.heap a xs:=by
 obtain ⟨⟨z,y,xs,r,o,ds,ep,h1,h2,h3,h4,h5⟩,_⟩:=I.hok a _ ha
 exact ⟨z,y,xs,r,o,ds,ep,h1,h2,h3,h4,jA I r hk e,h5⟩
end
section
variable {X:Cx}
end
mutual
inductive OT (K:PySem.W.Frag) (N:Addr→Prop) (H:Hp):V→PyData→List Addr→Prop
 | non:OT K N H .non .none []
 | bl (b:Bool):OT K N H (.bl b) (.bool b) []
 | int (i:Int):OT K N H (.int i) (.int i) []
 | lst {a:Addr}{xs:List V}{ds:List PyData}{S:List Addr}:H a=some (.lst xs)→OTs K N H xs ds S→OT K N H (.ref a) (.list ds) (a::S)
 | tup {a:Addr}{xs:List V}{ds:List PyData}{S:List Addr}:SnT K N H a xs→OTs K N H xs ds S→OT K N H (.ref a) (.tuple ds) S
 | dct {a:Addr}{es:List (cg×Addr×V)}{kvs:List (cg×PyData)}:H a=some (.ext (ij a es))→DNs K N H (es.map fun p=>V.ref p.2.1) (kvs.map fun p=>f8 p.1)→DNs K N H (es.map fun p=>p.2.2) (kvs.map fun p=>p.2)→es.map (fun p=>p.1)=kvs.map (fun p=>p.1)→OT K N H (.ref a) (mY kvs) [a]
 | fz {v:V}{ds:List PyData}:DN K N H v (.list ds)→OT K N H v (fzD ds) []
inductive OTs (K:PySem.W.Frag) (N:Addr→Prop) (H:Hp):List V→List PyData→List Addr→Prop
 | nil:OTs K N H [] [] []
 | cons {x:V}{xs:List V}{d:PyData}{ds:List PyData}{S S':List Addr}:OT K N H x d S→OTs K N H xs ds S'→OTs K N H (x::xs) (d::ds) (S++S')
end
section
variable {K:PySem.W.Frag}{N M:Addr→Prop}{H H':Hp}
theorem OT.keep (k:aI N H H') {v:V}{d:PyData}{S:List Addr} (h:OT K N H v d S):(∀ a∈S,H' a=H a)→OT K N H' v d S :=
 OT.rec (motive_1:=fun v d S _=>(∀ a∈S,H' a=H a)→OT K N H' v d S) (motive_2:=fun v d S _=>(∀ a∈S,H' a=H a)→OTs K N H' v d S)
 (fun _=>.non) (fun b _=>.bl b) (fun i _=>.int i)
 (fun h _ q s=>.lst ((s _ ya).trans h) (q fun a ha=>s a (x9 _ ha))) (fun h _ q s=>.tup (h.keep k) (q s))
 (fun h q r e s=>.dct ((s _ ya).trans h) (q.keep k) (r.keep k) e) (fun h s=>.fz (h.keep k)) (fun _=>.nil) (fun _ _ h q s=>.cons (h fun a ha=>s a (x3 _ ha)) (q fun a ha=>s a (xY _ ha))) h
theorem OTs.keep (k:aI N H H') {v:List V}{d:List PyData}{S:List Addr} (h:OTs K N H v d S):(∀ a∈S,H' a=H a)→OTs K N H' v d S :=
 OTs.rec (motive_1:=fun v d S _=>(∀ a∈S,H' a=H a)→OT K N H' v d S) (motive_2:=fun v d S _=>(∀ a∈S,H' a=H a)→OTs K N H' v d S)
 (fun _=>.non) (fun b _=>.bl b) (fun i _=>.int i)
 (fun h _ q s=>.lst ((s _ ya).trans h) (q fun a ha=>s a (x9 _ ha))) (fun h _ q s=>.tup (h.keep k) (q s))
 (fun h q r e s=>.dct ((s _ ya).trans h) (q.keep k) (r.keep k) e) (fun h s=>.fz (h.keep k)) (fun _=>.nil) (fun _ _ h q s=>.cons (h fun a ha=>s a (x3 _ ha)) (q fun a ha=>s a (xY _ ha))) h
theorem OT.to (m:∀ b o,H b=some o→M b→N b) {v:V}{d:PyData}{S:List Addr} (h:OT K N H v d S):OT K M H v d S :=
 OT.rec (motive_1:=fun v d S _=>OT K M H v d S) (motive_2:=fun v d S _=>OTs K M H v d S)
 .non (fun b=>.bl b) (fun i=>.int i)
 (fun h _ q=>.lst h q) (fun h _ q=>.tup (h.to m) q)
 (fun h q r e=>.dct h (q.to m) (r.to m) e) (fun h=>.fz (h.to m)) .nil (fun _ _ h q=>.cons h q) h
theorem OTs.to (m:∀ b o,H b=some o→M b→N b) {v:List V}{d:List PyData}{S:List Addr} (h:OTs K N H v d S):OTs K M H v d S :=
 OTs.rec (motive_1:=fun v d S _=>OT K M H v d S) (motive_2:=fun v d S _=>OTs K M H v d S)
 .non (fun b=>.bl b) (fun i=>.int i)
 (fun h _ q=>.lst h q) (fun h _ q=>.tup (h.to m) q)
 (fun h q r e=>.dct h (q.to m) (r.to m) e) (fun h=>.fz (h.to m)) .nil (fun _ _ h q=>.cons h q) h
theorem OT.lives {v:V}{d:PyData}{S:List Addr} (h:OT K N H v d S):∀ a∈S,∃ o,H a=some o :=
 OT.rec (motive_1:=fun v d S _=>∀ a∈S,∃ o,H a=some o) (motive_2:=fun v d S _=>∀ a∈S,∃ o,H a=some o)
 (fun _ h=>nomatch h) (fun _ _ h=>nomatch h) (fun _ _ h=>nomatch h)
 (fun h _ q a ha=>(ye.mp ha).elim (fun e=>⟨_,e▸h⟩) (q a)) (fun _ _ q=>q)
 (fun h _ _ _ a ha=>⟨_,(x4.mp ha)▸h⟩) (fun _ _ h=>nomatch h) (fun _ h=>nomatch h) (fun _ _ h q a ha=>(x8.mp ha).elim (h a) (q a)) h
theorem OTs.lives {v:List V}{d:List PyData}{S:List Addr} (h:OTs K N H v d S):∀ a∈S,∃ o,H a=some o :=
 OTs.rec (motive_1:=fun v d S _=>∀ a∈S,∃ o,H a=some o) (motive_2:=fun v d S _=>∀ a∈S,∃ o,H a=some o)
 (fun _ h=>nomatch h) (fun _ _ h=>nomatch h) (fun _ _ h=>nomatch h)
 (fun h _ q a ha=>(ye.mp ha).elim (fun e=>⟨_,e▸h⟩) (q a)) (fun _ _ q=>q)
 (fun h _ _ _ a ha=>⟨_,(x4.mp ha)▸h⟩) (fun _ _ h=>nomatch h) (fun _ h=>nomatch h) (fun _ _ h q a ha=>(x8.mp ha).elim (h a) (q a)) h
theorem OT.dn (n:∀ b,M b→N b) {v:V}{d:PyData}{S:List Addr} (h:OT K N H v d S):(∀ a∈S,¬M a)→DN K M H v d :=
 OT.rec (motive_1:=fun v d S _=>(∀ a∈S,¬M a)→DN K M H v d) (motive_2:=fun v d S _=>(∀ a∈S,¬M a)→DNs K M H v d)
 (fun _=>.non) (fun b _=>.bl b) (fun i _=>.int i)
 (fun h _ q s=>.lst (SnL.of h (s _ ya)) (q fun a ha=>s a (x9 _ ha))) (fun h _ q s=>.tup (h.to fun b _ _ z=>n b z) (q s))
 (fun h q r e s=>.dct (s _ ya) h (q.to fun b _ _ z=>n b z) (r.to fun b _ _ z=>n b z) e) (fun h _=>.fz (h.to fun b _ _ z=>n b z)) (fun _=>.nil) (fun _ _ h q s=>.cons (h fun a ha=>s a (x3 _ ha)) (q fun a ha=>s a (xY _ ha))) h
theorem OTs.dn (n:∀ b,M b→N b) {v:List V}{d:List PyData}{S:List Addr} (h:OTs K N H v d S):(∀ a∈S,¬M a)→DNs K M H v d :=
 OTs.rec (motive_1:=fun v d S _=>(∀ a∈S,¬M a)→DN K M H v d) (motive_2:=fun v d S _=>(∀ a∈S,¬M a)→DNs K M H v d)
 (fun _=>.non) (fun b _=>.bl b) (fun i _=>.int i)
 (fun h _ q s=>.lst (SnL.of h (s _ ya)) (q fun a ha=>s a (x9 _ ha))) (fun h _ q s=>.tup (h.to fun b _ _ z=>n b z) (q s))
 (fun h q r e s=>.dct (s _ ya) h (q.to fun b _ _ z=>n b z) (r.to fun b _ _ z=>n b z) e) (fun h _=>.fz (h.to fun b _ _ z=>n b z)) (fun _=>.nil) (fun _ _ h q s=>.cons (h fun a ha=>s a (x3 _ ha)) (q fun a ha=>s a (xY _ ha))) h
theorem OTs.ind {C:List V→List PyData→List Addr→Prop} (n:C [] [] []) (c:∀ {x:V}{xs:List V}{d:PyData}{ds:List PyData}{S S':List Addr},OT K N H x d S→OTs K N H xs ds S'→C xs ds S'→C (x::xs) (d::ds) (S++S')) {v:List V}{d:List PyData}{S:List Addr} (h:OTs K N H v d S):C v d S :=
 OTs.rec (motive_1:=fun _ _ _ _=>True) (motive_2:=fun v d S _=>C v d S) trivial (fun _=>trivial) (fun _=>trivial)
 (fun _ _ _=>trivial) (fun _ _ _=>trivial) (fun _ _ _ _=>trivial) (fun _=>trivial) n (fun h q _ i=>c h q i) h
theorem OTs.len {v:List V}{d:List PyData}{S:List Addr} (h:OTs K N H v d S):v.length=d.length:=OTs.ind (C:=fun v d _=>v.length=d.length) rfl (fun _ _ i=>by rw[yK,yK,i]) h
theorem OTs.app {v w:List V}{d e:List PyData}{S T:List Addr} (h:OTs K N H v d S) (q:OTs K N H w e T):OTs K N H (v++w) (d++e) (S++T):=OTs.ind (C:=fun v d S=>OTs K N H (v++w) (d++e) (S++T)) q (fun h _ i=>by rw[yR];exact .cons h i) h
end
inductive Sl where
 | un|fr (d:PyData)|ow (ds:List PyData)|io (ds:List PyData)|vw (i:Nat)|tr (S:List Addr) (d:PyData)
noncomputable abbrev Ent:=Option V×Sl
noncomputable def bw:Ent→List Addr
 | (some (.ref a),.ow _)=>[a]
 | (some (.ref a),.io _)=>[a]
 | (some _,.tr S _)=>S
 | _=>[]
noncomputable def oas (E:List Ent):List Addr:=E.flatMap bw
noncomputable def Nw (M:Addr→Prop) (E:List Ent):Addr→Prop:=fun a=>M a∨a∈oas E
noncomputable abbrev tmp (ts:List (V×Sl)):List Ent:=ts.map fun t=>(some t.1,t.2)
noncomputable def al (σ:St) (env:List Sl) (ts:List (V×Sl)):List Ent:=σ.zip env++tmp ts
theorem ac (A B:List Ent):oas (A++B)=oas A++oas B:=List.flatMap_append
theorem ad (e:Ent) (B:List Ent):oas (e::B)=bw e++oas B:=List.flatMap_cons ..
theorem aG {a:Addr}{E:List Ent}:a∈oas E↔∃ e∈E,a∈bw e:=List.mem_flatMap
theorem cL (x:Option V):bw (x,.un)=[]:=by
 cases x with
 | none=>rfl
 | some v=>cases v <;> rfl
theorem d3 (x:Option V) (i:Nat):bw (x,.vw i)=[]:=by
 cases x with
 | none=>rfl
 | some v=>cases v <;> rfl
theorem bS (x:Option V) (d:PyData):bw (x,.fr d)=[]:=by
 cases x with
 | none=>rfl
 | some v=>cases v <;> rfl
theorem ao (v:V) (S:List Addr) (d:PyData):bw (some v,.tr S d)=S:=by cases v <;> rfl
theorem gm {e:Ent}{a:Addr} (h:a∈bw e):(e.1=some (.ref a)∧((∃ ds,e.2=.ow ds)∨∃ ds,e.2=.io ds))∨∃ S d,e.2=.tr S d∧a∈S:=by
 obtain ⟨x,s⟩:=e
 cases s with
 | un=>rw[cL] at h;exact absurd h yt
 | vw i=>rw[d3] at h;exact absurd h yt
 | fr d=>rw[bS] at h;exact absurd h yt
 | tr S d =>
  cases x with
  | none=>exact absurd h yt
  | some v=>rw[ao] at h;exact .inr ⟨S,d,rfl,h⟩
 | ow ds =>
  cases x with
  | none=>exact absurd h yt
  | some v=>cases v with
   | ref b=>rw[x4.mp h];exact .inl ⟨rfl,.inl ⟨ds,rfl⟩⟩
   | _=>exact absurd h yt
 | io ds =>
  cases x with
  | none=>exact absurd h yt
  | some v=>cases v with
   | ref b=>rw[x4.mp h];exact .inl ⟨rfl,.inr ⟨ds,rfl⟩⟩
   | _=>exact absurd h yt
structure aJ (K:PySem.W.Frag) (M P:Addr→Prop) (H0:Hp) (E:List Ent) (H:Hp):Prop where
 keep:aI P H0 H
 live:∀ a,H0 a≠none→H a≠none
 mt : ∀ a,M a→H0 a≠none
 pm : ∀ a,P a→M a
 fr : ∀ x d,(x,Sl.fr d)∈E→∃ v,x=some v∧DN K (Nw M E) H v d
 ow : ∀ x ds,(x,Sl.ow ds)∈E→∃ a vs,x=some (.ref a)∧H a=some (.lst vs)∧DNs K (Nw M E) H vs ds∧H0 a=none
 io : ∀ x ds,(x,Sl.io ds)∈E→∃ a vs,x=some (.ref a)∧H a=some (.lst vs)∧DNs K (Nw M E) H vs ds∧P a
 tr : ∀ x S d,(x,Sl.tr S d)∈E→∃ v,x=some v∧OT K (Nw M E) H v d S∧∀ a∈S,H0 a=none
 nd : (oas E).Nodup
section
variable {K:PySem.W.Frag}{M P:Addr→Prop}{H0 H H':Hp}{E E' A B:List Ent}{e e':Ent}
theorem aJ.own (h:aJ K M P H0 E H) {a:Addr} (ha:a∈oas E):∃ o,H a=some o∧(H0 a=none∨P a):=by
 obtain ⟨⟨x,s⟩,he,eo⟩:=aG.mp ha
 rcases gm eo with ⟨e1,e2⟩|⟨S,d,e2,ms⟩
 rotate_left
 ·simp only at e2;subst e2
  obtain ⟨v,_,q,r⟩:=h.tr _ _ _ he
  obtain ⟨vs,z⟩:=q.lives a ms
  exact ⟨vs,z,.inl (r a ms)⟩
 rcases e2 with ⟨ds,e2⟩|⟨ds,e2⟩
 ·simp only at e1 e2;subst e1 e2
  obtain ⟨b,vs,z,q,_,r⟩:=h.ow _ _ he
  cases z
  exact ⟨_,q,.inl r⟩
 ·simp only at e1 e2;subst e1 e2
  obtain ⟨b,vs,z,q,_,r⟩:=h.io _ _ he
  cases z
  exact ⟨_,q,.inr r⟩
theorem Nw.sub (h:∀ a,a∈oas E'→a∈oas E):∀ b,Nw M E' b→Nw M E b:=fun b z=>by
 rcases z with z|z
 ·exact .inl z
 ·exact .inr (h b z)
theorem aJ.sub (h:aJ K M P H0 E H) (hm:∀ x s,(x,s)∈E'→(x,s)∈E∨s=.un∨∃ i,s=.vw i) (nd:(oas E').Nodup):aJ K M P H0 E' H:=by
 have os:∀ a,a∈oas E'→a∈oas E:=fun a ha=>by
  obtain ⟨⟨x,s⟩,he,eo⟩:=aG.mp ha
  rcases hm x s he with q|q|⟨i,q⟩
  ·exact aG.mpr ⟨_,q,eo⟩
  ·subst q;rw[cL] at eo;cases eo
  ·subst q;rw[d3] at eo;cases eo
 have up:=Nw.sub (M:=M) os
 refine ⟨h.keep,h.live,h.mt,h.pm,fun x d m=>?_,fun x d m=>?_,fun x d m=>?_,fun x S d m=>?_,nd⟩
 rotate_right
 ·rcases hm _ _ m with q|q|⟨i,q⟩
  ·obtain ⟨v,e,dn,r⟩:=h.tr x S d q
   exact ⟨v,e,dn.to fun b _ _ z=>up b z,r⟩
  ·cases q
  ·cases q
 ·rcases hm _ _ m with q|q|⟨i,q⟩
  ·obtain ⟨v,e,dn⟩:=h.fr x d q
   exact ⟨v,e,dn.to fun b _ _ z=>up b z⟩
  ·cases q
  ·cases q
 ·rcases hm _ _ m with q|q|⟨i,q⟩
  ·obtain ⟨a,vs,e,e2,dn,r⟩:=h.ow x d q
   exact ⟨a,vs,e,e2,dn.to fun b _ _ z=>up b z,r⟩
  ·cases q
  ·cases q
 ·rcases hm _ _ m with q|q|⟨i,q⟩
  ·obtain ⟨a,vs,e,e2,dn,r⟩:=h.io x d q
   exact ⟨a,vs,e,e2,dn.to fun b _ _ z=>up b z,r⟩
  ·cases q
  ·cases q
theorem aJ.drop (h:aJ K M P H0 (E++B) H):aJ K M P H0 E H:=h.sub (fun x s m=>.inl (x3 _ m)) (by
 have:=h.nd
 rw [ac] at this
 exact (yb.mp this).1)
theorem aJ.same (h:aJ K M P H0 E H) (k:aH H H'):aJ K M P H0 E H':=by
 refine ⟨h.keep.trans (aI.same k),fun a q z=>?_,h.mt,h.pm,fun x d m=>?_,fun x d m=>?_,fun x d m=>?_,fun x S d m=>?_,h.nd⟩
 rotate_right
 ·obtain ⟨v,e,dn,r⟩:=h.tr x S d m
  exact ⟨v,e,dn.keep (aI.same k) fun a ha=>by
   obtain ⟨xs,z⟩:=dn.lives a ha
   rw [k a _ z,z],r⟩
 ·have q1:=h.live a q
  cases e:H a with
  | none=>exact q1 e
  | some o=>rw[k a o e] at z;cases z
 ·obtain ⟨v,e,dn⟩:=h.fr x d m
  exact ⟨v,e,dn.keep (aI.same k)⟩
 ·obtain ⟨a,vs,e,e2,dn,r⟩:=h.ow x d m
  exact ⟨a,vs,e,k _ _ e2,dn.keep (aI.same k),r⟩
 ·obtain ⟨a,vs,e,e2,dn,r⟩:=h.io x d m
  exact ⟨a,vs,e,k _ _ e2,dn.keep (aI.same k),r⟩
theorem aJ.addFr (h:aJ K M P H0 E H) {v:V}{d:PyData} (dn:DN K (Nw M E) H v d):aJ K M P H0 (E++[(some v,.fr d)]) H:=by
 have oe:oas (E++[(some v,Sl.fr d)])=oas E:=by
  rw [ac,ad,bS]
  simp [oas]
 have ne:Nw M (E++[(some v,Sl.fr d)])=Nw M E:=by unfold Nw;rw[oe]
 refine ⟨h.keep,h.live,h.mt,h.pm,fun x d' m=>?_,fun x d' m=>?_,fun x d' m=>?_,fun x S d' m=>?_,by rw[oe];exact h.nd⟩
 rotate_right
 ·rw [ne]
  rcases x8.mp m with m|m
  ·exact h.tr x S d' m
  ·rw [x4] at m
   cases m
 ·rw [ne]
  rcases x8.mp m with m|m
  ·exact h.fr x d' m
  ·rw [x4] at m
   cases m
   exact ⟨v,rfl,dn⟩
 ·rw [ne]
  rcases x8.mp m with m|m
  ·exact h.ow x d' m
  ·rw [x4] at m
   cases m
 ·rw [ne]
  rcases x8.mp m with m|m
  ·exact h.io x d' m
  ·rw [x4] at m
   cases m
theorem aJ.addVw (h:aJ K M P H0 E H) {v:V}{i:Nat}:aJ K M P H0 (E++[(some v,.vw i)]) H:=by
 refine h.sub (fun x s m=>?_) ?_
 ·rcases x8.mp m with m|m
  ·exact .inl m
  ·rw [x4] at m
   cases m
   exact .inr (.inr ⟨i,rfl⟩)
 ·rw [ac,ad,d3]
  simpa [oas] using h.nd
theorem aJ.addOw (h:aJ K M P H0 E H) {p:Addr}{vs:List V}{ds:List PyData} (hp:H p=none) (dns:DNs K (Nw M E) H vs ds):aJ K M P H0 (E++[(some (.ref p),.ow ds)]) (upd H p (.lst vs)):=by
 have oe:oas (E++[(some (.ref p),Sl.ow ds)])=oas E++[p]:=by
  rw [ac]
  rfl
 have np:p ∉ oas E:=fun z=>by
  obtain ⟨vs',q,_⟩:=h.own z
  rw [hp] at q
  cases q
 have h0:H0 p=none:=by
  cases e:H0 p with
  | none=>rfl
  | some o=>exact absurd hp (h.live p (by rw[e];simp))
 have up:∀ b o,H b=some o→Nw M (E++[(some (.ref p),Sl.ow ds)]) b→Nw M E b:=fun b o e z=>by
  rcases z with z|z
  ·exact .inl z
  ·rw [oe] at z
   rcases x8.mp z with z|z
   ·exact .inr z
   ·rw [x4.mp z,hp] at e
    cases e
 have h':=h.same (aH.new (o:=.lst vs) hp)
 refine ⟨h'.keep,h'.live,h.mt,h.pm,fun x d' m=>?_,fun x d' m=>?_,fun x d' m=>?_,fun x S d' m=>?_,?_⟩
 rotate_right 2
 ·rcases x8.mp m with m|m
  ·obtain ⟨v,e,dn,r⟩:=h.tr x S d' m
   exact ⟨v,e,(dn.to up).keep (aI.same (aH.new hp)) fun a ha=>by
    obtain ⟨xs,z⟩:=dn.lives a ha
    rw [aH.new hp _ _ z,z],r⟩
  ·rw [x4] at m
   cases m
 rotate_left
 ·rcases x8.mp m with m|m
  ·obtain ⟨v,e,dn⟩:=h.fr x d' m
   exact ⟨v,e,(dn.to up).keep (aI.same (aH.new hp))⟩
  ·rw [x4] at m
   cases m
 ·rcases x8.mp m with m|m
  ·obtain ⟨a,ws,e,e2,dn,r⟩:=h.ow x d' m
   exact ⟨a,ws,e,aH.new hp _ _ e2,(dn.to up).keep (aI.same (aH.new hp)),r⟩
  ·rw [x4] at m
   cases m
   exact ⟨p,vs,rfl,aC,(dns.to up).keep (aI.same (aH.new hp)),h0⟩
 ·rcases x8.mp m with m|m
  ·obtain ⟨a,ws,e,e2,dn,r⟩:=h.io x d' m
   exact ⟨a,ws,e,aH.new hp _ _ e2,(dn.to up).keep (aI.same (aH.new hp)),r⟩
  ·rw [x4] at m
   cases m
 ·rw [oe]
  exact yb.mpr ⟨h.nd,by simp,fun a ha b hb=>by rw[x4.mp hb];exact fun z=>np (z▸ha)⟩
theorem aJ.freeze {a:Addr}{ds:List PyData} (h:aJ K M P H0 (A++(some (.ref a),.ow ds)::B) H):aJ K M P H0 (A++(some (.ref a),.fr (.list ds))::B) H:=by
 have oe:oas (A++(some (.ref a),Sl.ow ds)::B)=oas A++a::oas B:=by rw[ac,ad];rfl
 have oe':oas (A++(some (.ref a),Sl.fr (.list ds))::B)=oas A++oas B:=by rw[ac,ad];rfl
 have nd:=h.nd
 rw [oe] at nd
 obtain ⟨n1,n2,n3⟩:=yb.mp nd
 obtain ⟨n4,n5⟩:=yv.mp n2
 have up:∀ b,Nw M (A++(some (.ref a),Sl.fr (.list ds))::B) b→Nw M (A++(some (.ref a),Sl.ow ds)::B) b:=Nw.sub fun b z=>by
  rw [oe'] at z
  rw [oe]
  rcases x8.mp z with z|z
  ·exact x3 _ z
  ·exact xY _ (x9 _ z)
 have me:(some (.ref a),Sl.ow ds)∈A++(some (.ref a),Sl.ow ds)::B:=xY _ ya
 obtain ⟨a',vs,z,ha,dns,h0⟩:=h.ow _ _ me
 cases z
 have na:¬Nw M (A++(some (.ref a),Sl.fr (.list ds))::B) a:=fun z=>by
  rcases z with z|z
  ·exact h.mt a z h0
  ·rw [oe'] at z
   rcases x8.mp z with z|z
   ·exact n3 a z a ya rfl
   ·exact n4 z
 have old:∀ x s,(x,s)∈A++(some (.ref a),Sl.fr (.list ds))::B→(x,s)=(some (.ref a),Sl.fr (.list ds))∨(x,s)∈A++(some (.ref a),Sl.ow ds)::B:=fun x s m=>by
  rcases x8.mp m with m|m
  ·exact .inr (x3 _ m)
  ·rcases ye.mp m with m|m
   ·exact .inl m
   ·exact .inr (xY _ (x9 _ m))
 refine ⟨h.keep,h.live,h.mt,h.pm,fun x d m=>?_,fun x d m=>?_,fun x d m=>?_,fun x S d m=>?_,?_⟩
 rotate_right 2
 ·rcases old _ _ m with m|m
  ·cases m
  ·obtain ⟨v,e,dn,r⟩:=h.tr x S d m
   exact ⟨v,e,dn.to fun b _ _ z=>up b z,r⟩
 rotate_left
 ·rcases old _ _ m with m|m
  ·cases m
   exact ⟨_,rfl,.lst (SnL.of ha na) (dns.to fun b _ _ z=>up b z)⟩
  ·obtain ⟨v,e,dn⟩:=h.fr x d m
   exact ⟨v,e,dn.to fun b _ _ z=>up b z⟩
 ·rcases old _ _ m with m|m
  ·cases m
  ·obtain ⟨b,ws,e,e2,dn,r⟩:=h.ow x d m
   exact ⟨b,ws,e,e2,dn.to fun b _ _ z=>up b z,r⟩
 ·rcases old _ _ m with m|m
  ·cases m
  ·obtain ⟨b,ws,e,e2,dn,r⟩:=h.io x d m
   exact ⟨b,ws,e,e2,dn.to fun b _ _ z=>up b z,r⟩
 ·rw [oe']
  exact yb.mpr ⟨n1,n5,fun x hx y hy=>n3 x hx y (x9 _ hy)⟩
theorem aJ.freezeT {v:V}{S:List Addr}{d:PyData} (h:aJ K M P H0 (A++(some v,.tr S d)::B) H):aJ K M P H0 (A++(some v,.fr d)::B) H:=by
 have oe:oas (A++(some v,Sl.tr S d)::B)=oas A++(S++oas B):=by rw[ac,ad,ao]
 have oe':oas (A++(some v,Sl.fr d)::B)=oas A++oas B:=by rw[ac,ad,bS];rfl
 have nd:=h.nd
 rw [oe] at nd
 obtain ⟨n1,n2,n3⟩:=yb.mp nd
 obtain ⟨n4,n5,n6⟩:=yb.mp n2
 have up:∀ b,Nw M (A++(some v,Sl.fr d)::B) b→Nw M (A++(some v,Sl.tr S d)::B) b:=Nw.sub fun b z=>by
  rw [oe'] at z
  rw [oe]
  rcases x8.mp z with z|z
  ·exact x3 _ z
  ·exact xY _ (xY _ z)
 have me:(some v,Sl.tr S d)∈A++(some v,Sl.tr S d)::B:=xY _ ya
 obtain ⟨v',z,ot,h0⟩:=h.tr _ _ _ me
 cases z
 have na:∀ a∈S,¬Nw M (A++(some v,Sl.fr d)::B) a:=fun a ha z=>by
  rcases z with z|z
  ·exact h.mt a z (h0 a ha)
  ·rw [oe'] at z
   rcases x8.mp z with z|z
   ·exact n3 a z a (x3 _ ha) rfl
   ·exact n6 a ha a z rfl
 have old:∀ x s,(x,s)∈A++(some v,Sl.fr d)::B→(x,s)=(some v,Sl.fr d)∨(x,s)∈A++(some v,Sl.tr S d)::B:=fun x s m=>by
  rcases x8.mp m with m|m
  ·exact .inr (x3 _ m)
  ·rcases ye.mp m with m|m
   ·exact .inl m
   ·exact .inr (xY _ (x9 _ m))
 refine ⟨h.keep,h.live,h.mt,h.pm,fun x d' m=>?_,fun x d' m=>?_,fun x d' m=>?_,fun x S' d' m=>?_,?_⟩
 ·rcases old _ _ m with m|m
  ·cases m
   exact ⟨_,rfl,ot.dn up na⟩
  ·obtain ⟨v,e,dn⟩:=h.fr x d' m
   exact ⟨v,e,dn.to fun b _ _ z=>up b z⟩
 ·rcases old _ _ m with m|m
  ·cases m
  ·obtain ⟨b,ws,e,e2,dn,r⟩:=h.ow x d' m
   exact ⟨b,ws,e,e2,dn.to fun b _ _ z=>up b z,r⟩
 ·rcases old _ _ m with m|m
  ·cases m
  ·obtain ⟨b,ws,e,e2,dn,r⟩:=h.io x d' m
   exact ⟨b,ws,e,e2,dn.to fun b _ _ z=>up b z,r⟩
 ·rcases old _ _ m with m|m
  ·cases m
  ·obtain ⟨v,e,dn,r⟩:=h.tr x S' d' m
   exact ⟨v,e,dn.to fun b _ _ z=>up b z,r⟩
 ·rw [oe']
  exact yb.mpr ⟨n1,n5,fun x hx y hy=>n3 x hx y (xY _ hy)⟩
noncomputable def rS:Sl→List PyData→Sl→Prop
 | .ow _,ds',s'=>s'=.ow ds'
 | .io _,ds',s'=>s'=.io ds'
 | _,_,_=>False
theorem bJ {s s':Sl}{l:List PyData} (h:rS s l s'):(∃ d,s=.ow d∧s'=.ow l)∨∃ d,s=.io d∧s'=.io l:=by
 cases s with
 | ow d=>exact .inl ⟨d,rfl,h⟩
 | io d=>exact .inr ⟨d,rfl,h⟩
 | _=>exact h.elim
theorem cX {s s':Sl}{l:List PyData}{a:Addr} (h:rS s l s'):bw (some (.ref a),s)=[a]∧bw (some (.ref a),s')=[a]:=by
 rcases bJ h with ⟨_,rfl,rfl⟩|⟨_,rfl,rfl⟩ <;> exact⟨rfl,rfl⟩
theorem aJ.muted {a:Addr}{s s':Sl}{vs':List V}{ds':List PyData} (h:aJ K M P H0 (A++(some (.ref a),s)::B) H) (hs:rS s ds' s') (k:aI (fun b=>b=a) H H') (lv:∀ b,H b≠none→H' b≠none)
  (ha:H' a=some (.lst vs')) (dns:DNs K (Nw M (A++(some (.ref a),s)::B)) H' vs' ds'):aJ K M P H0 (A++(some (.ref a),s')::B) H':=by
 have oa:bw (some (.ref a),s)=[a]∧bw (some (.ref a),s')=[a]:=cX hs
 have oe:oas (A++(some (.ref a),s)::B)=oas A++a::oas B:=by rw[ac,ad,oa.1];rfl
 have oe':oas (A++(some (.ref a),s')::B)=oas A++a::oas B:=by rw[ac,ad,oa.2];rfl
 have ne:Nw M (A++(some (.ref a),s')::B)=Nw M (A++(some (.ref a),s)::B):=by unfold Nw;rw[oe,oe']
 have na:Nw M (A++(some (.ref a),s)::B) a:=.inr (by rw[oe];simp)
 have nd:=h.nd
 rw [oe] at nd
 obtain ⟨n1,n2,n3⟩:=yb.mp nd
 obtain ⟨n4,n5⟩:=yv.mp n2
 have kN:aI (Nw M (A++(some (.ref a),s)::B)) H H':=k.mono fun b z=>by rw[z];exact na
 obtain ⟨ws,hw,hP⟩:=h.own (a:=a) (by rw[oe];simp)
 have other:∀ x t b,(x,t)∈A∨(x,t)∈B→b∈bw (x,t)→b≠a:=fun x t b m eo z=>by
  subst z
  rcases m with m|m
  ·exact n3 b (aG.mpr ⟨_,m,eo⟩) b ya rfl
  ·exact n4 (aG.mpr ⟨_,m,eo⟩)
 have old:∀ x t,(x,t)∈A++(some (.ref a),s')::B→(x,t)=(some (.ref a),s')∨((x,t)∈A∨(x,t)∈B):=fun x t m=>by
  rcases x8.mp m with m|m
  ·exact .inr (.inl m)
  ·rcases ye.mp m with m|m
   ·exact .inl m
   ·exact .inr (.inr m)
 have back:∀ x t,(x,t)∈A∨(x,t)∈B→(x,t)∈A++(some (.ref a),s)::B:=fun x t m=>by
  rcases m with m|m
  ·exact x3 _ m
  ·exact xY _ (x9 _ m)
 have me:(some (.ref a),s)∈A++(some (.ref a),s)::B:=xY _ ya
 refine ⟨?_,fun b q=>lv b (h.live b q),h.mt,h.pm,fun x d m=>?_,fun x d m=>?_,fun x d m=>?_,fun x S d m=>?_,by rw[oe'];exact nd⟩
 rotate_right
 ·rw [ne]
  rcases old _ _ m with m|m
  ·rcases bJ hs with ⟨_,_,e⟩|⟨_,_,e⟩ <;> (rw[e] at m;cases m)
  ·obtain ⟨v,e,dn,r⟩:=h.tr x S d (back _ _ m)
   subst e
   refine ⟨v,rfl,dn.keep kN fun b hb=>?_,r⟩
   obtain ⟨xs,z⟩:=dn.lives b hb
   rw [k _ _ (other _ _ b m (by rw[ao];exact hb)) z,z]
 ·intro b o np e
  by_cases hb:b=a
  ·subst hb
   rcases hP with q|q
   ·rw [q] at e;cases e
   ·exact absurd q np
  ·exact k b o hb (h.keep b o np e)
 ·rw [ne]
  rcases old _ _ m with m|m
  ·rcases bJ hs with ⟨_,_,e⟩|⟨_,_,e⟩ <;> (rw[e] at m;cases m)
  ·obtain ⟨v,e,dn⟩:=h.fr x d (back _ _ m)
   exact ⟨v,e,dn.keep kN⟩
 ·rw [ne]
  rcases old _ _ m with m|m
  ·rcases bJ hs with ⟨d0,e1,e2⟩|⟨_,_,e2⟩ <;> (rw[e2] at m;cases m)
   obtain ⟨b,us,e,_,_,r⟩:=h.ow (some (.ref a)) d0 (xY _ (by rw[e1];exact ya))
   cases e
   exact ⟨a,vs',rfl,ha,dns,r⟩
  ·obtain ⟨b,us,e,e2,dn,r⟩:=h.ow x d (back _ _ m)
   subst e
   exact ⟨b,us,rfl,k _ _ (other _ _ b m (x4.mpr rfl)) e2,dn.keep kN,r⟩
 ·rw [ne]
  rcases old _ _ m with m|m
  ·rcases bJ hs with ⟨_,_,e2⟩|⟨d0,e1,e2⟩ <;> (rw[e2] at m;cases m)
   obtain ⟨b,us,e,_,_,r⟩:=h.io (some (.ref a)) d0 (xY _ (by rw[e1];exact ya))
   cases e
   exact ⟨a,vs',rfl,ha,dns,r⟩
  ·obtain ⟨b,us,e,e2,dn,r⟩:=h.io x d (back _ _ m)
   subst e
   exact ⟨b,us,rfl,k _ _ (other _ _ b m (x4.mpr rfl)) e2,dn.keep kN,r⟩
theorem aJ.mut {a:Addr}{s s':Sl}{vs':List V}{ds':List PyData} (h:aJ K M P H0 (A++(some (.ref a),s)::B) H) (hs:rS s ds' s') (dns:DNs K (Nw M (A++(some (.ref a),s)::B)) H vs' ds') :
  aJ K M P H0 (A++(some (.ref a),s')::B) (upd H a (.lst vs')) :=
 have oa:bw (some (.ref a),s)=[a]:=(cX hs).1
 h.muted hs (fun b o hb e=>by rw[ag hb];exact e) (fun b q z=>by
  by_cases hb:b=a
  ·rw [hb,aC] at z;cases z
  ·rw [ag hb] at z;exact q z) aC (dns.keep (aI.own (.inr (aG.mpr ⟨_,xY _ ya,by rw[oa];exact x4.mpr rfl⟩))))
theorem aJ.move {t:Ent} (h:aJ K M P H0 (A++e::(B++[t])) H):aJ K M P H0 (A++t::B) H:=by
 refine h.sub (fun x s m=>.inl ?_) ?_
 ·rcases x8.mp m with m|m
  ·exact x3 _ m
  ·rcases ye.mp m with m|m
   ·exact xY _ (x9 _ (xY _ (by rw[m];simp)))
   ·exact xY _ (x9 _ (x3 _ m))
 ·have nd:=h.nd
  have eq1:oas (A++e::(B++[t]))=oas A++(oas [e]++(oas B++oas [t])):=by
   rw [ac,show e::(B++[t])=[e]++(B++[t]) from rfl,ac,ac]
  have eq2:oas (A++t::B)=oas A++(oas [t]++oas B):=by
   rw [ac,show t::B=[t]++B from rfl,ac]
  rw [eq1] at nd
  rw [eq2]
  obtain ⟨n1,n2,n3⟩:=yb.mp nd
  obtain ⟨_,n4,_⟩:=yb.mp n2
  obtain ⟨n5,n6,n7⟩:=yb.mp n4
  refine yb.mpr ⟨n1,yb.mpr ⟨n6,n5,fun x hx y hy z=>n7 y hy x hx z.symm⟩,fun x hx y hy=>?_⟩
  refine n3 x hx y (xY _ ?_)
  rcases x8.mp hy with hy|hy
  ·exact xY _ hy
  ·exact x3 _ hy
theorem aJ.kill {x:Option V}{s:Sl} (h:aJ K M P H0 (A++(x,s)::B) H) {y:Option V}:aJ K M P H0 (A++(y,.un)::B) H:=by
 refine h.sub (fun x' s' m=>?_) ?_
 ·rcases x8.mp m with m|m
  ·exact .inl (x3 _ m)
  ·rcases ye.mp m with m|m
   ·cases m;exact .inr (.inl rfl)
   ·exact .inl (xY _ (x9 _ m))
 ·have nd:=h.nd
  have eq1:oas (A++(x,s)::B)=oas A++(oas [(x,s)]++oas B):=by
   rw [ac,show (x,s)::B=[(x,s)]++B from rfl,ac]
  have eq2:oas (A++(y,.un)::B)=oas A++oas B:=by
   rw [ac,ad]
   cases y with
   | none=>rfl
   | some v=>cases v <;> rfl
  rw [eq1] at nd
  rw [eq2]
  obtain ⟨n1,n2,n3⟩:=yb.mp nd
  obtain ⟨_,n4,_⟩:=yb.mp n2
  exact yb.mpr ⟨n1,n4,fun a ha b hb=>n3 a ha b (xY _ hb)⟩
end
structure Rel (K:PySem.W.Frag) (M P:Addr→Prop) (H0:Hp) (σ0 σ:St) (env:List Sl) (ts:List (V×Sl)) (H:Hp):Prop where
 e : aJ K M P H0 (al σ env ts) H
 len:σ.length=env.length
 vw : ∀ (v:V) (i:Nat),(v,Sl.vw i)∈ts→σ[i]? = some (some v)
 ios:∀ (i:Nat) (ds:List PyData),env[i]? = some (Sl.io ds)→σ[i]? = σ0[i]?
inductive Vw (K:PySem.W.Frag) (N:Addr→Prop) (H:Hp):V→PyData→Prop
 | dn {v d}:DN K N H v d→Vw K N H v d
 | ow {a vs ds}:H a=some (.lst vs)→DNs K N H vs ds→Vw K N H (.ref a) (.list ds)
 | dct {a:Addr}{es:List (cg×Addr×V)}{kvs:List (cg×PyData)}:H a=some (.ext (ij a es))→DNs K N H (es.map fun p=>V.ref p.2.1) (kvs.map fun p=>f8 p.1)→DNs K N H (es.map fun p=>p.2.2) (kvs.map fun p=>p.2)→es.map (fun p=>p.1)=kvs.map (fun p=>p.1)→Vw K N H (.ref a) (mY kvs)
noncomputable def slD:Sl→Option PyData
 | .fr d=>some d
 | .ow ds=>some (.list ds)
 | .io ds=>some (.list ds)
 | .tr _ (.dict kvs)=>some (.dict kvs)
 | _=>none
noncomputable def aF (env:List Sl):Sl→Option PyData
 | .vw i=>(env[i]?).bind slD
 | .fr d=>some d
 | .ow ds=>some (.list ds)
 | .io ds=>some (.list ds)
 | .tr _ (.dict kvs)=>some (.dict kvs)
 | _=>none
noncomputable def slK:Sl→Option PyData
 | .fr d=>some d
 | _=>none
noncomputable def aE (env:List Sl):Sl→Option PyData
 | .vw i=>(env[i]?).bind slK
 | .fr d=>some d
 | .ow ds=>some (.list ds)
 | .tr _ d=>some d
 | _=>none
section
variable {K:PySem.W.Frag}{M P N:Addr→Prop}{H0 H H':Hp}{σ0 σ:St}{env:List Sl}{ts tt:List (V×Sl)}{v:V}{s:Sl}{d:PyData}
theorem aj:al σ env (ts++tt)=al σ env ts++tmp tt:=by
 unfold al
 rw [yR]
 simp [tmp]
theorem OT.dict_view {S:List Addr}{kvs:List (PyData×PyData)} (h:OT K N H v (.dict kvs) S):Vw K N H v (.dict kvs):=by
 generalize e:PyData.dict kvs=d at h
 cases h with
 | dct h q r e2=>exact .dct h q r e2
 | fz h=>exact .dn (.fz h)
 | _=>cases e
theorem Vw.dv (h:Vw K N H v d):DV K H v d:=by
 cases h with
 | dn h=>exact h.dv
 | ow h q=>exact .lst (SqL.of h) q.dv
 | dct h q r e=>exact .dct h q.dv r.dv e
theorem Vw.list {ds:List PyData} (h:Vw K N H v (.list ds)):∃ a vs,v=.ref a∧SqL K H a vs∧DNs K N H vs ds:=by
 cases h with
 | dn h=>obtain⟨a,vs,e,s,q⟩:=h.list;exact⟨a,vs,e,s.sq,q⟩
 | ow h q=>exact⟨_,_,rfl,SqL.of h,q⟩
theorem Vw.tuple {ds:List PyData} (h:Vw K N H v (.tuple ds)):∃ a vs,v=.ref a∧SqT K H a vs∧DNs K N H vs ds:=by
 cases h with
 | dn h=>obtain⟨a,vs,e,s,q⟩:=h.tuple;exact⟨a,vs,e,s.sq,q⟩
theorem Vw.int {i:Int} (h:Vw K N H v (.int i)):v=.int i:=by
 cases h with
 | dn h=>cases h;rfl
theorem Vw.bool {i:Bool} (h:Vw K N H v (.bool i)):v=.bl i:=by
 cases h with
 | dn h=>cases h;rfl
theorem Vw.none (h:Vw K N H v .none):v=.non:=by
 cases h with
 | dn h=>cases h;rfl
theorem kG (h:σ.length=env.length) {i:Nat} (e:env[i]? = some s):∃ x,σ[i]? = some x∧(x,s)∈σ.zip env:=by
 have hi:i<env.length:=(yc.mp e).1
 have hj:i<σ.length:=by omega
 refine ⟨σ[i],x5 hj,?_⟩
 have hz:i<(σ.zip env).length:=by rw[yM];omega
 have:=yO hz
 rw [yU] at this
 rwa [(yc.mp e).2] at this
theorem bC (m:(v,s)∈ts):((some v,s):Ent)∈al σ env ts:=xY _ (yr.mpr ⟨(v,s),m,rfl⟩)
theorem Rel.slot (h:Rel K M P H0 σ0 σ env ts H) {i:Nat} (e:env[i]? = some s):∃ x,σ[i]? = some x∧(x,s)∈al σ env ts:=by
 obtain ⟨x,e1,m⟩:=kG h.len e
 exact ⟨x,e1,x3 _ m⟩
theorem aJ.viewE {E:List Ent} (h:aJ K M P H0 E H) {x:Option V} (m:(x,s)∈E) (e:slD s=some d):∃ v,x=some v∧Vw K (Nw M E) H v d:=by
 cases s with
 | fr d' =>
  cases e
  obtain ⟨v,e1,dn⟩:=h.fr _ _ m
  exact ⟨v,e1,.dn dn⟩
 | ow ds =>
  cases e
  obtain ⟨a,vs,e1,e2,dn,_⟩:=h.ow _ _ m
  exact ⟨_,e1,.ow e2 dn⟩
 | io ds =>
  cases e
  obtain ⟨a,vs,e1,e2,dn,_⟩:=h.io _ _ m
  exact ⟨_,e1,.ow e2 dn⟩
 | un=>cases e
 | vw i=>cases e
 | tr S d' =>
  cases d' with
  | dict kvs =>
   cases e
   obtain ⟨v,e1,ot,_⟩:=h.tr _ _ _ m
   exact ⟨v,e1,ot.dict_view⟩
  | _=>cases e
theorem Rel.there (h:Rel K M P H0 σ0 σ env ts H) {i:Nat} (e:(env[i]?).bind slD=some d):∃ v,σ[i]? = some (some v)∧Vw K (Nw M (al σ env ts)) H v d:=by
 cases q:env[i]? with
 | none=>rw[q] at e;cases e
 | some s =>
  rw [q] at e
  obtain ⟨x,e1,m⟩:=h.slot q
  obtain ⟨v,e2,w⟩:=h.e.viewE m e
  exact ⟨v,by rw[e1,e2],w⟩
theorem Rel.view (h:Rel K M P H0 σ0 σ env ts H) (m:(v,s)∈ts) (e:aF env s=some d):Vw K (Nw M (al σ env ts)) H v d:=by
 cases s with
 | vw i =>
  obtain ⟨w,e1,q⟩:=h.there e
  rw [h.vw v i m] at e1
  cases e1
  exact q
 | un=>cases e
 | tr S d' =>
  cases d' with
  | dict kvs=>obtain⟨w,e1,q⟩:=h.e.viewE (s:=.tr S (.dict kvs)) (bC m) e;cases e1;exact q
  | _=>cases e
 | fr d'=>obtain⟨w,e1,q⟩:=h.e.viewE (bC m) e;cases e1;exact q
 | ow d'=>obtain⟨w,e1,q⟩:=h.e.viewE (bC m) e;cases e1;exact q
 | io d'=>obtain⟨w,e1,q⟩:=h.e.viewE (bC m) e;cases e1;exact q
theorem cF {E B:List Ent}{b:Addr} (h:Nw M E b):Nw M (E++B) b:=by
 rcases h with h|h
 ·exact .inl h
 ·exact .inr (by rw[ac];exact x3 _ h)
theorem Rel.drop (h:Rel K M P H0 σ0 σ env (ts++tt) H):Rel K M P H0 σ0 σ env ts H :=
 ⟨by have:=h.e;rw[aj] at this;exact this.drop,h.len,fun v i m=>h.vw v i (x3 _ m),h.ios⟩
theorem Rel.same (h:Rel K M P H0 σ0 σ env ts H) (k:aH H H'):Rel K M P H0 σ0 σ env ts H':=⟨h.e.same k,h.len,h.vw,h.ios⟩
theorem Rel.addFr (h:Rel K M P H0 σ0 σ env ts H) (dn:DN K (Nw M (al σ env ts)) H v d):Rel K M P H0 σ0 σ env (ts++[(v,.fr d)]) H :=
 ⟨by rw[aj];exact h.e.addFr dn,h.len,(fun w i m=>by
  rcases x8.mp m with m|m
  ·exact h.vw w i m
  ·rw [x4] at m;cases m),h.ios⟩
theorem Rel.addVw (h:Rel K M P H0 σ0 σ env ts H) {i:Nat} (e:σ[i]? = some (some v)):Rel K M P H0 σ0 σ env (ts++[(v,.vw i)]) H :=
 ⟨by rw[aj];exact h.e.addVw,h.len,(fun w i m=>by
  rcases x8.mp m with m|m
  ·exact h.vw w i m
  ·rw [x4] at m;cases m;exact e),h.ios⟩
theorem Rel.addOw (h:Rel K M P H0 σ0 σ env ts H) {p:Addr}{vs:List V}{ds:List PyData} (hp:H p=none) (dns:DNs K (Nw M (al σ env ts)) H vs ds):Rel K M P H0 σ0 σ env (ts++[(.ref p,.ow ds)]) (upd H p (.lst vs)) :=
 ⟨by rw[aj];exact h.e.addOw hp dns,h.len,(fun w i m=>by
  rcases x8.mp m with m|m
  ·exact h.vw w i m
  ·rw [x4] at m;cases m),h.ios⟩
theorem Rel.res (h:Rel K M P H0 σ0 σ env (ts++tt) H) (k:aH H H') (dn:DN K (Nw M (al σ env (ts++tt))) H' v d):Rel K M P H0 σ0 σ env (ts++[(v,.fr d)]) H' :=
 (h.drop.same k).addFr (dn.to fun b _ _ z=>by rw[aj];exact cF z)
theorem Rel.resOw (h:Rel K M P H0 σ0 σ env (ts++tt) H) {p:Addr}{vs:List V}{ds:List PyData} (hp:H p=none) (dns:DNs K (Nw M (al σ env (ts++tt))) H vs ds):Rel K M P H0 σ0 σ env (ts++[(.ref p,.ow ds)]) (upd H p (.lst vs)) :=
 h.drop.addOw hp (dns.to fun b _ _ z=>by rw[aj];exact cF z)
end
noncomputable abbrev DE:=List Sl→(Sl→List Sl→Prop)→Prop
noncomputable abbrev DT:=List Sl→(Bool→List Sl→Prop)→Prop
noncomputable abbrev DA:=List Sl→(List Sl→List Sl→Prop)→Prop
structure Wn {α:Type} (a:α):Type
noncomputable def dK (R:Sl→List Sl→Prop) (_:Wn R):Sl→List Sl→Prop:=R
theorem p9 (R:Sl→List Sl→Prop) (w:Wn R) (s:Sl) (env:List Sl):dK R w s env=R s env:=rfl
noncomputable def dI (W:List Sl→Prop) (_:Wn W):List Sl→Prop:=W
theorem vd (W:List Sl→Prop) (w:Wn W) (env:List Sl):dI W w env=W env:=rfl
noncomputable abbrev Wk (G Q:Prop):Prop:=(G→Q)→(Q→G)→Q→G
theorem sX {c:Bool}{p A A' B B':Prop} [Decidable p] (e:c=decide p) (a:A'→A) (b:B'→B) (h:if p then A' else B'):if c=true then A else B:=by
 subst e
 by_cases q:p
 ·rw [if_pos q] at h
  rw [if_pos (decide_eq_true q)]
  exact a h
 ·rw [if_neg q] at h
  rw [if_neg fun z=>q (of_decide_eq_true z)]
  exact b h
inductive up (K:PySem.W.Frag) (t:DE) (σ:St) (H:Hp) (Q:VK):Prop
 | mk (M P:Addr→Prop) (H0:Hp) (σ0:St) (env:List Sl) (ts:List (V×Sl)) (R:Sl→List Sl→Prop):Rel K M P H0 σ0 σ env ts H→t env R →
 (∀ s env' v H',R s env'→Rel K M P H0 σ0 σ env' (ts++[(v,s)]) H'→Q v H')→up K t σ H Q
inductive upT (K:PySem.W.Frag) (t:DT) (σ:St) (H:Hp) (Q:Bool→Hp→Prop):Prop
 | mk (M P:Addr→Prop) (H0:Hp) (σ0:St) (env:List Sl) (ts:List (V×Sl)) (R:Bool→List Sl→Prop):Rel K M P H0 σ0 σ env ts H→t env R →
 (∀ b env' H',R b env'→Rel K M P H0 σ0 σ env' ts H'→Q b H')→upT K t σ H Q
inductive upA (K:PySem.W.Frag) (t:DA) (σ:St) (H:Hp) (Q:List V→Hp→Prop):Prop
 | mk (M P:Addr→Prop) (H0:Hp) (σ0:St) (env:List Sl) (ts:List (V×Sl)) (R:List Sl→List Sl→Prop):Rel K M P H0 σ0 σ env ts H→t env R →
 (∀ ss env' vs H',R ss env'→vs.length=ss.length→Rel K M P H0 σ0 σ env' (ts++vs.zip ss) H'→Q vs H')→upA K t σ H Q
theorem PE.imp {X:Cx}{e:Expr}{t t':TE} (h:PE X e t) (k:∀ σ H Q,t' σ H Q→t σ H Q):PE X e t':=fun pins s σ H Q I hw=>h pins s σ H Q I (k σ H Q hw)
theorem PT.imp {X:Cx}{e:Expr}{t t':TT} (h:PT X e t) (k:∀ σ H Q,t' σ H Q→t σ H Q):PT X e t':=fun pins s σ H Q I hw=>h pins s σ H Q I (k σ H Q hw)
theorem PW.imp {X:Cx}{e:Expr}{t t':TT} (h:PW X e t) (k:∀ σ H Q,t' σ H Q→t σ H Q):PW X e t':=fun wh pins s σ H Q I hw=>h wh pins s σ H Q I (k σ H Q hw)
theorem PA.imp {X:Cx}{e:List Expr}{t t':TA} (h:PA X e t) (k:∀ σ H Q,t' σ H Q→t σ H Q):PA X e t':=fun pos pins s σ H Q I hw=>h pos pins s σ H Q I (k σ H Q hw)
section
variable {X:Cx}{K:PySem.W.Frag}{pos:Pos}{a b c:Expr}{ta tb tc:DE}{es:List Expr}{tA tB':DT}{tl:DA}
noncomputable def vD (i:Nat):DE:=fun env R=>∃ d,(env[i]?).bind slD=some d∧R (.vw i) env
theorem qv (i:Nat) {x:Str} (hN:X.N[i]? = some x:=by rfl) (hv:Vis X.env.scope x:=by first|exact Or.inl rfl|exact Or.inr (Or.inl rfl)|exact Or.inr (Or.inr rfl)) (hd:(x==("__debug__" : Str))=false:=by decide)
  (hcd:(x==("__classdict__" : Str))=false:=by decide):PE X (.Name x pos) (up K (vD i)):=(cE hN hv hd hcd).imp fun σ H Q h=>by
 obtain ⟨M,P,H0,σ0,env,ts,R,rel,⟨d,e,hR⟩,hq⟩:=h
 obtain ⟨v,e1,_⟩:=rel.there e
 exact ⟨v,e1,hq _ _ _ _ hR (rel.addVw e1)⟩
theorem ca {α:Type}:∀ {l:List α}{i:Nat}{x:α},l[i]? = some x→∃ A B,l=A++x::B∧∀ y,l.set i y=A++y::B
 | [],i,x,h=>by simp at h
 | z::l,0,x,h=>by
  simp at h
  subst h
  exact ⟨[],l,rfl,fun y=>rfl⟩
 | z::l,i+1,x,h=>by
  obtain ⟨A,B,e1,e2⟩:=ca (l:=l) (i:=i) (x:=x) (by simpa using h)
  exact ⟨z::A,B,by rw[e1];rfl,fun y=>by rw[List.set_cons_succ,e2 y];rfl⟩
theorem bZ {α β:Type} (l:List α) (m:List β) (j:Nat):(l.zip m)[j]? = (l[j]?).bind fun a=>(m[j]?).map fun b=>(a,b):=by
 rw [List.zip,List.getElem?_zipWith]
 cases l[j]? <;> cases m[j]? <;> rfl
theorem kF {σ:St}{env:List Sl}{i:Nat}{x:Option V}{s':Sl} (h:σ[i]? = some x):σ.zip (env.set i s')=(σ.zip env).set i (x,s'):=by
 apply List.ext_getElem?
 intro j
 by_cases hj:i=j
 ·subst hj
  rw [zc,bZ,bZ,h]
  by_cases hi:i<env.length
  ·rw [yk hi,x5 hi]
   rfl
  ·rw [List.getElem?_eq_none (by simp;omega),List.getElem?_eq_none (by omega)]
   rfl
 ·rw [yj hj,bZ,bZ,yj hj]
theorem Rel.split {M P:Addr→Prop}{H0 H:Hp}{σ0 σ:St}{env:List Sl}{ts:List (V×Sl)}{i:Nat}{s:Sl} (h:Rel K M P H0 σ0 σ env ts H) (e:env[i]? = some s) :
  ∃ x A B,σ[i]? = some x∧al σ env ts=A++(x,s)::B∧∀ s',al σ (env.set i s') ts=A++(x,s')::B:=by
 obtain ⟨x,e1,m⟩:=kG h.len e
 have ez:(σ.zip env)[i]? = some (x,s):=by rw[List.zip,List.getElem?_zipWith,e1,e]
 obtain ⟨A,B,q1,q2⟩:=ca ez
 refine ⟨x,A,B++tmp ts,e1,by unfold al;rw[q1];simp,fun s'=>?_⟩
 unfold al
 rw [kF e1,q2]
 simp
noncomputable def sO (i:Nat):DE:=fun env R=>match env[i]? with
 | some (.fr d)=>R (.fr d) env
 | some (.tr _ d)=>R (.fr d) (env.set i (.fr d))
 | some (.ow ds)=>R (.fr (.list ds)) (env.set i (.fr (.list ds)))
 | _=>False
theorem Rel.frz {M P:Addr→Prop}{H0 H:Hp}{σ0 σ:St}{env:List Sl}{ts:List (V×Sl)}{i:Nat}{ds:List PyData} (h:Rel K M P H0 σ0 σ env ts H) (e:env[i]? = some (.ow ds)):Rel K M P H0 σ0 σ (env.set i (.fr (.list ds))) ts H:=by
 obtain ⟨x,A,B,e1,q1,q2⟩:=h.split e
 have r:=h.e
 rw [q1] at r
 obtain ⟨a,vs,z,_⟩:=r.ow _ _ (xY _ ya)
 subst z
 refine ⟨by rw[q2];exact r.freeze,by simp[h.len],h.vw,fun j ds' e'=>?_⟩
 by_cases hj:i=j
 ·subst hj
  have hi:i<env.length:=(yc.mp e).1
  rw [yk hi] at e'
  cases e'
 ·rw [yj hj] at e'
  exact h.ios j ds' e'
theorem Rel.frzT {M P:Addr→Prop}{H0 H:Hp}{σ0 σ:St}{env:List Sl}{ts:List (V×Sl)}{i:Nat}{S:List Addr}{d:PyData} (h:Rel K M P H0 σ0 σ env ts H) (e:env[i]? = some (.tr S d)):Rel K M P H0 σ0 σ (env.set i (.fr d)) ts H:=by
 obtain ⟨x,A,B,e1,q1,q2⟩:=h.split e
 have r:=h.e
 rw [q1] at r
 obtain ⟨v,z,_⟩:=r.tr _ _ _ (xY _ ya)
 subst z
 refine ⟨by rw[q2];exact r.freezeT,by simp[h.len],h.vw,fun j ds' e'=>?_⟩
 by_cases hj:i=j
 ·subst hj
  have hi:i<env.length:=(yc.mp e).1
  rw [yk hi] at e'
  cases e'
 ·rw [yj hj] at e'
  exact h.ios j ds' e'
theorem qf (i:Nat) {x:Str} (hN:X.N[i]? = some x:=by rfl) (hv:Vis X.env.scope x:=by first|exact Or.inl rfl|exact Or.inr (Or.inl rfl)|exact Or.inr (Or.inr rfl)) (hd:(x==("__debug__" : Str))=false:=by decide)
  (hcd:(x==("__classdict__" : Str))=false:=by decide):PE X (.Name x pos) (up K (sO i)):=(cE hN hv hd hcd).imp fun σ H Q h=>by
 obtain ⟨M,P,H0,σ0,env,ts,R,rel,ht,hq⟩:=h
 have key:∀ env' d,Rel K M P H0 σ0 σ env' ts H→env'[i]? = some (.fr d)→R (.fr d) env'→vp i σ H Q:=fun env' d rel' e' hR=>by
  obtain ⟨x',e1,m⟩:=rel'.slot e'
  obtain ⟨v,e2,dn⟩:=rel'.e.fr _ _ m
  subst e2
  exact ⟨v,e1,hq _ _ _ _ hR (rel'.addFr dn)⟩
 unfold sO at ht
 split at ht
 ·rename_i d e
  exact key env d rel e ht
 ·rename_i S d e
  have hi:i<env.length:=(yc.mp e).1
  exact key _ _ (rel.frzT e) (yk hi) ht
 ·rename_i ds e
  have hi:i<env.length:=(yc.mp e).1
  exact key _ _ (rel.frz e) (yk hi) ht
 ·exact ht.elim
noncomputable def dC (d:PyData):DE:=fun env R=>R (.fr d) env
theorem ai {i j}:PE X (.Constant (.int i) j pos) (up K (dC (.int i))):=pD.imp fun σ H Q h=>by
 obtain ⟨M,P,H0,σ0,env,ts,R,rel,ht,hq⟩:=h
 exact hq _ _ _ _ ht (rel.addFr (.int i))
theorem vt {i j}:PE X (.Constant (.bool i) j pos) (up K (dC (.bool i))):=v8.imp fun σ H Q h=>by
 obtain ⟨M,P,H0,σ0,env,ts,R,rel,ht,hq⟩:=h
 exact hq _ _ _ _ ht (rel.addFr (.bl i))
noncomputable abbrev G2:=PyData→PyData→(PyData→Prop)→Prop
noncomputable def dOp (g:G2) (ta tb:DE):DE:=fun env R=>ta env fun s1 env1=>tb env1 fun s2 env2=>∃ d1 d2,aF env2 s1=some d1∧aF env2 s2=some d2∧g d1 d2 fun d=>R (.fr d) env2
noncomputable def cP (K:PySem.W.Frag) (r:R2) (g:G2):Prop:=∀ (N:Addr→Prop) (H:Hp) (x y:V) (d1 d2:PyData) (R:PyData→Prop) (Q:VK),Vw K N H x d1→Vw K N H y d2→g d1 d2 R→(∀ d v,R d→DN K N H v d→Q v H)→r x y H Q
theorem nE {r:R2}{g:G2} (m:cP K r g):∀ σ H Q,up K (dOp g ta tb) σ H Q→tOp r (up K ta) (up K tb) σ H Q:=fun σ H Q h=>by
 obtain ⟨M,P,H0,σ0,env,ts,R,rel,ht,hq⟩:=h
 refine ⟨M,P,H0,σ0,env,ts,_,rel,ht,fun s1 env1 v1 H1 h1 rel1=>⟨M,P,H0,σ0,env1,ts++[(v1,s1)],_,rel1,h1,fun s2 env2 v2 H2 h2 rel2=>?_⟩⟩
 obtain ⟨d1,d2,e1,e2,g⟩:=h2
 refine m _ H2 v1 v2 d1 d2 _ Q (rel2.view (by simp) e1) (rel2.view (by simp) e2) g fun d v hR dn=>hq _ _ _ _ hR ?_
 have rel2':Rel K M P H0 σ0 σ env2 (ts++[(v1,s1),(v2,s2)]) H2:=by simpa using rel2
 exact rel2'.res (aH.refl _) (by simpa using dn)
theorem a0 {op:Operator}{r:R2}{g:G2} (ho:OpR X (binaryOp op) r) (m:cP K r g) (ha:PE X a (up K ta)) (hb:PE X b (up K tb)):PE X (.BinOp a op b pos) (up K (dOp g ta tb)):=(nB ho ha hb).imp (nE m)
theorem kb {op:CmpOp}{r:R2}{g:G2} (ho:OpR X (compareOp op) r) (m:cP K r g) (ha:PE X a (up K ta)) (hb:PE X b (up K tb)) (hm:behindInMarks op b=false):PE X (.Compare a [op] [b] pos) (up K (dOp g ta tb)):=(rg ho ha hb hm).imp (nE m)
noncomputable def kr (t:DE):DT:=fun env R=>t env fun s env1=>∃ k,aF env1 s=some (.bool k)∧R k env1
theorem kM {t:TE}{td:DE} (h:∀ σ H Q,up K td σ H Q→t σ H Q):∀ σ H Q,upT K (kr td) σ H Q→tp t σ H Q:=fun σ H Q hh=>by
 obtain ⟨M,P,H0,σ0,env,ts,R,rel,ht,hq⟩:=hh
 refine h σ H _ ⟨M,P,H0,σ0,env,ts,_,rel,ht,fun s1 env1 v1 H1 h1 rel1=>?_⟩
 obtain ⟨k,e,hR⟩:=h1
 exact ⟨k,(rel1.view (by simp) e).bool,hq _ _ _ hR rel1.drop⟩
theorem bA {op:CmpOp}{r:R2}{g:G2} (ho:OpR X (compareOp op) r) (m:cP K r g) (ha:PE X a (up K ta)) (hb:PE X b (up K tb)) (hm:behindInMarks op b=false):PT X (.Compare a [op] [b] pos) (upT K (kr (dOp g ta tb))):=(qS ho ha hb hm).imp (kM (nE m))
theorem dB {r:R2}{g:G2} (hr:IxR X r) (m:cP K r g) (ha:PE X a (up K ta)) (hb:PE X b (up K tb)) (hs:mN b):PE X (.Subscript a b pos) (up K (dOp g ta tb)):=(v6 hr ha hb hs).imp (nE m)
theorem cC {e:Expr}{t:DE} (h:PE X e (up K t)) (he:∀ whole,isTrue e X.env whole=(do let v ←whole;standAt e.pos;holding [v] (truthy v)):=by intro _;rfl):PT X e (upT K (kr t)):=(tT h he).imp (kM fun _ _ _ h=>h)
noncomputable def wL (t u:DT):DT:=fun env R=>t env fun k env1=>if k=true then u env1 R else R false env1
noncomputable def dOr (t u:DT):DT:=fun env R=>t env fun k env1=>if k=true then R true env1 else u env1 R
noncomputable def vH (t:DT):DT:=fun env R=>t env fun k env1=>R (!k) env1
theorem qG (ha:PT X a (upT K tA)):PW X (.BoolOp .And [a] pos) (upT K tA):=qR ha
theorem lg (ha:PT X a (upT K tA)):PW X (.BoolOp .Or [a] pos) (upT K tA):=tR ha
theorem tK (ha:PT X a (upT K tA)) (hb:PW X (.BoolOp .And (b::es) pos) (upT K tB')):PW X (.BoolOp .And (a::b::es) pos) (upT K (wL tA tB')):=(tS ha hb).imp fun σ H Q h=>by
 obtain ⟨M,P,H0,σ0,env,ts,R,rel,ht,hq⟩:=h
 refine ⟨M,P,H0,σ0,env,ts,_,rel,ht,fun k env1 H1 h1 rel1=>?_⟩
 cases k with
 | true=>exact⟨M,P,H0,σ0,env1,ts,R,rel1,h1,hq⟩
 | false=>exact hq _ _ _ h1 rel1
theorem iC (ha:PT X a (upT K tA)) (hb:PW X (.BoolOp .Or (b::es) pos) (upT K tB')):PW X (.BoolOp .Or (a::b::es) pos) (upT K (dOr tA tB')):=(v3 ha hb).imp fun σ H Q h=>by
 obtain ⟨M,P,H0,σ0,env,ts,R,rel,ht,hq⟩:=h
 refine ⟨M,P,H0,σ0,env,ts,_,rel,ht,fun k env1 H1 h1 rel1=>?_⟩
 cases k with
 | false=>exact⟨M,P,H0,σ0,env1,ts,R,rel1,h1,hq⟩
 | true=>exact hq _ _ _ h1 rel1
theorem cD (ha:PT X a (upT K tA)):PT X (.UnaryOp .Not a pos) (upT K (vH tA)):=(tU ha).imp fun σ H Q h=>by
 obtain ⟨M,P,H0,σ0,env,ts,R,rel,ht,hq⟩:=h
 exact ⟨M,P,H0,σ0,env,ts,_,rel,ht,fun k env1 H1 h1 rel1=>hq _ _ _ h1 rel1⟩
noncomputable def sF (t u:DE):DE:=fun env R=>t env fun s env1=>∃ k,aF env1 s=some (.bool k)∧if k=true then u env1 R else R (.fr (.bool false)) env1
noncomputable def sB (t:DE):DE:=fun env R=>t env fun s env1=>∃ k,aF env1 s=some (.bool k)∧R (.fr (.bool (!k))) env1
theorem qK {op} (h:PE X a (up K ta)):PE X (.BoolOp op [a] pos) (up K ta):=ub h
theorem qQ (ha:PE X a (up K ta)) (hb:PE X (.BoolOp .And (b::es) pos) (up K tb)):PE X (.BoolOp .And (a::b::es) pos) (up K (sF ta tb)):=(ue ha hb).imp fun σ H Q h=>by
 obtain ⟨M,P,H0,σ0,env,ts,R,rel,ht,hq⟩:=h
 refine ⟨M,P,H0,σ0,env,ts,_,rel,ht,fun s1 env1 v1 H1 h1 rel1=>?_⟩
 obtain ⟨k,e,h1⟩:=h1
 refine ⟨k,(rel1.view (by simp) e).bool,?_⟩
 cases k with
 | true=>exact⟨M,P,H0,σ0,env1,ts,R,rel1.drop,h1,hq⟩
 | false=>exact hq _ _ _ _ h1 (rel1.drop.addFr (.bl false))
theorem vZ (ha:PE X a (up K ta)):PE X (.UnaryOp .Not a pos) (up K (sB ta)):=(uc ha).imp fun σ H Q h=>by
 obtain ⟨M,P,H0,σ0,env,ts,R,rel,ht,hq⟩:=h
 refine ⟨M,P,H0,σ0,env,ts,_,rel,ht,fun s1 env1 v1 H1 h1 rel1=>?_⟩
 obtain ⟨k,e,h1⟩:=h1
 exact ⟨k,(rel1.view (by simp) e).bool,hq _ _ _ _ h1 (rel1.drop.addFr (.bl _))⟩
noncomputable def dIf (t:DT) (ta tb:DE):DE:=fun env R=>t env fun k env1=>if k=true then ta env1 R else tb env1 R
theorem qL (hc:PT X c (upT K tA)) (ha:PE X a (up K ta)) (hb:PE X b (up K tb)):PE X (.IfExp c a b pos) (up K (dIf tA ta tb)):=(nC hc ha hb).imp fun σ H Q h=>by
 obtain ⟨M,P,H0,σ0,env,ts,R,rel,ht,hq⟩:=h
 refine ⟨M,P,H0,σ0,env,ts,_,rel,ht,fun k env1 H1 h1 rel1=>?_⟩
 cases k with
 | true=>exact⟨M,P,H0,σ0,env1,ts,R,rel1,h1,hq⟩
 | false=>exact⟨M,P,H0,σ0,env1,ts,R,rel1,h1,hq⟩
noncomputable abbrev G1:=PyData→(PyData→Prop)→Prop
noncomputable def dUn (g:G1) (ta:DE):DE:=fun env R=>ta env fun s1 env1=>∃ d1,aF env1 s1=some d1∧g d1 fun d=>R (.fr d) env1
theorem xz {op:UnaryOp}{r:V→Hp→VK→Prop}{g:G1} (ho:UnR X (unaryOp op) r) (m:∀ (N:Addr→Prop) (H:Hp) (x:V) (d1:PyData) (R:PyData→Prop) (Q:VK),Vw K N H x d1→g d1 R→(∀ d v,R d→DN K N H v d→Q v H)→r x H Q)
  (ha:PE X a (up K ta)):PE X (.UnaryOp op a pos) (up K (dUn g ta)):=(v5 ho ha).imp fun σ H Q h=>by
 obtain ⟨M,P,H0,σ0,env,ts,R,rel,ht,hq⟩:=h
 refine ⟨M,P,H0,σ0,env,ts,_,rel,ht,fun s1 env1 v1 H1 h1 rel1=>?_⟩
 obtain ⟨d1,e1,g⟩:=h1
 exact m _ H1 v1 d1 _ Q (rel1.view (by simp) e1) g fun d v hR dn=>hq _ _ _ _ hR (rel1.res (aH.refl _) dn)
noncomputable def vI:DA:=fun env R=>R [] env
noncomputable def oP (t:DE) (u:DA):DA:=fun env R=>t env fun s env1=>u env1 fun ss env2=>R (s::ss) env2
theorem ae:PA X [] (upA K vI):=gl.imp fun σ H Q h=>by
 obtain ⟨M,P,H0,σ0,env,ts,R,rel,ht,hq⟩:=h
 exact hq [] env [] H ht rfl (by simpa using rel)
theorem aa (ha:PE X a (up K ta)) (hr:PA X es (upA K tl)) (hs:starEach (a::es) X.env=(false,eval a X.env)::starEach es X.env:=by rfl):PA X (a::es) (upA K (oP ta tl)):=(df ha hr hs).imp fun σ H Q h=>by
 obtain ⟨M,P,H0,σ0,env,ts,R,rel,ht,hq⟩:=h
 refine ⟨M,P,H0,σ0,env,ts,_,rel,ht,fun s1 env1 v1 H1 h1 rel1=>⟨M,P,H0,σ0,env1,ts++[(v1,s1)],_,rel1,h1,fun ss env2 vs H2 h2 hl rel2=>?_⟩⟩
 exact hq (s1::ss) env2 (v1::vs) H2 h2 (by simp[hl]) (by simpa using rel2)
end
section
variable {K:PySem.W.Frag}{M P N:Addr→Prop}{H0 H H':Hp}{σ0 σ:St}{env:List Sl}{ts tt:List (V×Sl)}{v:V}{s:Sl}{d:PyData}
noncomputable def gI (f:Int→Int→Int):G2:=fun d e R=>∃ i j,d=.int i∧e=.int j∧R (.int (f i j))
noncomputable def gIC (C:Int→Int→Prop) (f:Int→Int→Int):G2:=fun d e R=>∃ i j,d=.int i∧e=.int j∧C i j∧R (.int (f i j))
noncomputable def gB (f:Int→Int→Bool):G2:=fun d e R=>∃ i j,d=.int i∧e=.int j∧R (.bool (f i j))
theorem mI {f:Int→Int→Int}:cP K (rI0 fun i j=>.int (f i j)) (gI f):=by
 rintro N H x y d e R Q w1 w2 ⟨i,j,rfl,rfl,hR⟩ hq
 exact ⟨i,j,w1.int,w2.int,hq _ _ hR (.int _)⟩
theorem mIC {C:Int→Int→Prop}{f:Int→Int→Int}:cP K (rI C fun i j=>.int (f i j)) (gIC C f):=by
 rintro N H x y d e R Q w1 w2 ⟨i,j,rfl,rfl,hC,hR⟩ hq
 exact ⟨i,j,w1.int,w2.int,hC,hq _ _ hR (.int _)⟩
theorem mB {f:Int→Int→Bool}:cP K (rI0 fun i j=>.bl (f i j)) (gB f):=by
 rintro N H x y d e R Q w1 w2 ⟨i,j,rfl,rfl,hR⟩ hq
 exact ⟨i,j,w1.int,w2.int,hq _ _ hR (.bl _)⟩
theorem vx:cP K rEq (gB fun i j=>decide (i=j)):=by
 rintro N H x y d e R Q w1 w2 ⟨i,j,rfl,rfl,hR⟩ hq
 rw [w1.int,w2.int]
 refine ⟨rfl,?_⟩
 have q:=hq _ _ hR (.bl _)
 rwa [show decide (V.int i=V.int j)=decide (i=j) by simp]
theorem xD:cP K rNe (gB fun i j=>!decide (i=j)):=by
 rintro N H x y d e R Q w1 w2 ⟨i,j,rfl,rfl,hR⟩ hq
 rw [w1.int,w2.int]
 refine ⟨rfl,?_⟩
 have q:=hq _ _ hR (.bl _)
 rwa [show decide (V.int i=V.int j)=decide (i=j) by simp]
noncomputable def gBB (f:Bool→Bool→Bool):G2:=fun d e R=>∃ i j,d=.bool i∧e=.bool j∧R (.bool (f i j))
theorem xE:cP K rNe (gBB fun i j=>!decide (i=j)):=by
 rintro N H x y d e R Q w1 w2 ⟨i,j,rfl,rfl,hR⟩ hq
 rw [w1.bool,w2.bool]
 refine ⟨rfl,?_⟩
 have q:=hq _ _ hR (.bl _)
 rwa [show decide (V.bl i=V.bl j)=decide (i=j) by simp]
noncomputable def gEq:G2:=fun d e R=>shp d∧shp e∧R (.bool (PyData.eqv d e))
noncomputable def gNe:G2:=fun d e R=>shp d∧shp e∧R (.bool (!PyData.eqv d e))
theorem mEq:cP K (vW K) gEq:=fun N H x y d e R Q w1 w2 ⟨h1,h2,hR⟩ hq=>⟨d,e,w1.dv,w2.dv,h1,h2,hq _ _ hR (.bl _)⟩
theorem mNe:cP K (vV K) gNe:=fun N H x y d e R Q w1 w2 ⟨h1,h2,hR⟩ hq=>⟨d,e,w1.dv,w2.dv,h1,h2,hq _ _ hR (.bl _)⟩
noncomputable def ou:PyData→Bool
 | .none=>true
 | _=>false
noncomputable def xN:G2:=fun d e R=>e=.none∧R (.bool (ou d))
noncomputable def ww:G2:=fun d e R=>e=.none∧R (.bool (!ou d))
noncomputable def cT:PyData→Option (List PyData)
 | .list ds=>some ds
 | .tuple ds=>some ds
 | _=>none
noncomputable def uI:PyData→Option Int
 | .int i=>some i
 | _=>none
noncomputable def bq:List PyData→Option (List Int)
 | []=>some []
 | d::ds=>(uI d).bind fun i=>(bq ds).map (i::·)
theorem be:∀ ns:List Int,bq (ns.map .int)=some ns
 | []=>rfl
 | n::ns=>by rw[yx,bq,be ns];rfl
theorem cM:∀ {ds:List PyData}{ns:List Int},bq ds=some ns→ds=ns.map .int
 | [],ns,h=>by cases h;rfl
 | d::ds,ns,h=>by
  unfold bq at h
  cases d <;> simp[uI] at h
  obtain ⟨ms,h1,rfl⟩:=h
  rw [cM h1];rfl
theorem Vw.seq {ds:List PyData} (w:Vw K N H v d) (e:cT d=some ds):∃ a vs,v=.ref a∧(SqL K H a vs∨SqT K H a vs)∧DNs K N H vs ds:=by
 cases d <;> simp[cT] at e
 ·subst e
  obtain ⟨a,vs,e1,s,q⟩:=w.list
  exact ⟨a,vs,e1,.inl s,q⟩
 ·subst e
  obtain ⟨a,vs,e1,s,q⟩:=w.tuple
  exact ⟨a,vs,e1,.inr s,q⟩
theorem oz (i:Int) (ns:List Int):inV (.int i) (ns.map V.int)=decide (i∈ns):=by
 unfold inV
 induction ns with
 | nil=>rfl
 | cons n r ih =>
  rw [yx,List.any_cons,ih]
  have:eqV (.int n) (.int i)=decide (n=i):=(show eqV (.int n) (.int i)=(n==i) from rfl).trans (by rw[zm];simp)
  rw [this]
  by_cases h1:n=i
  ·simp [h1]
  ·have:¬i=n:=fun z=>h1 z.symm
   simp [h1,this]
theorem l7 (ns:List Int):(ns.map V.int).all fG=true:=by
 rw [zk]
 intro x hx
 obtain ⟨n,_,rfl⟩:=yr.mp hx
 rfl
noncomputable def gIn:G2:=fun d e R=>∃ i ds ns,d=.int i∧cT e=some ds∧bq ds=some ns∧R (.bool (decide (i∈ns)))
noncomputable def jF:G2:=fun d e R=>∃ i ds ns,d=.int i∧cT e=some ds∧bq ds=some ns∧R (.bool (!decide (i∈ns)))
theorem uq:cP K (rIn K true) jF:=by
 rintro N H x y d e R Q w1 w2 ⟨i,ds,ns,rfl,e1,e2,hR⟩ hq
 obtain ⟨a,vs,rfl,s,q⟩:=w2.seq e1
 rw [cM e2] at q
 rw [q.ints] at s
 rw [w1.int]
 refine ⟨a,_,rfl,s,rfl,l7 ns,?_⟩
 rw [oz]
 exact hq _ _ hR (.bl _)
theorem DNs.atI {vs:List V}{ds:List PyData}{i:Int}{e:PyData} (q:DNs K N H vs ds) (h:L2.atI ds i=some e):∃ v,L2.atI vs i=some v∧DN K N H v e:=by
 unfold L2.atI at h ⊢
 rw [q.len]
 cases hj:ixN ds.length i with
 | none=>rw[hj] at h;cases h
 | some j =>
  rw [hj] at h
  have h:ds[j]? = some e:=h
  have hlt:j<vs.length:=by rw[q.len];exact (yc.mp h).1
  obtain ⟨e',h1,h2⟩:=q.get (x5 hlt)
  rw [h] at h1
  cases h1
  exact ⟨vs[j],x5 hlt,h2⟩
noncomputable def gIx:G2:=fun d e R=>∃ ds i x,cT d=some ds∧e=.int i∧atI ds i=some x∧R x
noncomputable def xa (K:PySem.W.Frag):R2:=fun x y H Q=>w9 K x y H Q∨w4 K x y H Q
theorem aP {X:Cx} (hK:X.K=K):IxR X (xa K):=by subst hK;exact IxR.or rQ uF
theorem mIx:cP K (xa K) gIx:=by
 rintro N H x y d e R Q w1 w2 ⟨ds,i,z,e1,rfl,e2,hR⟩ hq
 obtain ⟨a,vs,rfl,s,q⟩:=w1.seq e1
 obtain ⟨u,e3,dn⟩:=q.atI e2
 rcases s with s|s
 ·exact .inl ⟨a,vs,i,u,rfl,w2.int,s,e3,hq _ _ hR dn⟩
 ·exact .inr ⟨a,vs,i,u,rfl,w2.int,s,e3,hq _ _ hR dn⟩
inductive Vws (K:PySem.W.Frag) (N:Addr→Prop) (H:Hp):List V→List PyData→Prop
 | nil:Vws K N H [] []
 | cons {v d vs ds}:Vw K N H v d→Vws K N H vs ds→Vws K N H (v::vs) (d::ds)
noncomputable def cR (env:List Sl):List Sl→Option (List PyData)
 | []=>some []
 | s::ss=>(aF env s).bind fun d=>(cR env ss).bind fun ds=>some (d::ds)
theorem Rel.views (h:Rel K M P H0 σ0 σ env ts H):∀ {vs:List V}{ss:List Sl}{ds:List PyData},vs.length=ss.length→(∀ p∈vs.zip ss,p∈ts)→cR env ss=some ds→Vws K (Nw M (al σ env ts)) H vs ds
 | [],[],_,_,_,e=>by cases e;exact .nil
 | v :: vs,s::ss,ds,hl,hm,e=>by
  unfold cR at e
  cases e1:aF env s with
  | none=>rw[e1] at e;cases e
  | some d =>
   rw [e1] at e
   cases e2:cR env ss with
   | none=>rw[e2] at e;cases e
   | some ds' =>
    rw [e2] at e
    cases e
    exact .cons (h.view (hm _ (by simp)) e1) (h.views (by simpa using hl) (fun p hp=>hm p (by simp[hp])) e2)
 | [],_::_,_,hl,_,_=>by simp at hl
 | _::_,[],_,hl,_,_=>by simp at hl
noncomputable abbrev GB:=List PyData→(PyData→Prop)→Prop
noncomputable def dCB (g:GB) (t:DA):DE:=fun env R=>t env fun ss env1=>∃ ds,cR env1 ss=some ds∧g ds fun d=>R (.fr d) env1
noncomputable def j4 (K:PySem.W.Frag) (r:List V→Hp→VK→Prop) (g:GB):Prop:=∀ (N:Addr→Prop) (H:Hp) (xs:List V) (ds:List PyData) (R:PyData→Prop) (Q:VK),Vws K N H xs ds→g ds R→(∀ d v,R d→DN K N H v d→Q v H)→r xs H Q
theorem wN {r:List V→Hp→VK→Prop}{g:GB}{tl:DA} (m:j4 K r g):∀ σ H Q,up K (dCB g tl) σ H Q→tCB r (upA K tl) σ H Q:=fun σ H Q h=>by
 obtain ⟨M,P,H0,σ0,env,ts,R,rel,ht,hq⟩:=h
 refine ⟨M,P,H0,σ0,env,ts,_,rel,ht,fun ss env1 vs H1 h1 hl rel1=>?_⟩
 obtain ⟨ds,e,g⟩:=h1
 exact m _ H1 vs ds _ Q (rel1.views hl (fun p hp=>xY _ hp) e) g fun d v hR dn=>hq _ _ _ _ hR (rel1.res (aH.refl _) dn)
section
variable {X:Cx}{x:Str}{p pos:Pos}{e:Expr}{es:List Expr}{tl:DA}{id T:String}{r:List V→Hp→VK→Prop}{g:GB}
theorem kc (hc:c7 X (.builtin id) r) (m:j4 K r g) (hg:Gl X x) (hm:X.mg x=none) (hv:bootBuiltins x=some (.builtin id)) (ha:PA X (e::es) (upA K tl)) (hn:x ≠ "__name__" := by decide) (hdb:(x==("__debug__" : Str))=false:=by decide)
  (he:starEach (e::es) X.env=(false,eval e X.env)::starEach es X.env:=by rfl) (hpl:(backTo pos (starEach es X.env)).any (·.1)=false:=by rfl):PE X (.Call (.Name x p) (e::es) [] pos) (up K (dCB g tl)) :=
 (fw hc hg hm hv ha hn hdb he hpl).imp (wN m)
end
noncomputable def vB:GB:=fun ds R=>∃ d es,ds=[d]∧cT d=some es∧R (.int es.length)
theorem mT:j4 K (fun xs H Q=>∃ p ys,xs=[.ref p]∧(SqL K H p ys∨SqT K H p ys)∧Q (.int ys.length) H) vB:=by
 rintro N H xs ds R Q w ⟨d,es,rfl,e1,hR⟩ hq
 cases w with
 | cons w1 w2 =>
  cases w2
  obtain ⟨a,vs,rfl,s,q⟩:=w1.seq e1
  refine ⟨a,vs,rfl,s,?_⟩
  rw [q.len]
  exact hq _ _ hR (.int _)
noncomputable def vA:GB:=fun ds R=>∃ i j,ds=[.int i,.int j]∧R (.int (if j<i then j else i))
noncomputable def xM:GB:=fun ds R=>∃ i j,ds=[.int i,.int j]∧R (.int (if j>i then j else i))
theorem wj:j4 K (fun xs H Q=>∃ i j,xs=[.int i,.int j]∧Q (.int (if j<i then j else i)) H) vA:=by
 rintro N H xs ds R Q w ⟨i,j,rfl,hR⟩ hq
 cases w with
 | cons w1 w2 =>
  cases w2 with
  | cons w2 w3 =>
   cases w3
   exact ⟨i,j,by rw[w1.int,w2.int],hq _ _ hR (.int _)⟩
noncomputable def vg:PyData→Option Bool
 | .bool i=>some i
 | _=>none
noncomputable def iV:List PyData→Option (List Bool)
 | []=>some []
 | d::ds=>(vg d).bind fun i=>(iV ds).map (i::·)
theorem cN:∀ ns:List Bool,iV (ns.map .bool)=some ns
 | []=>rfl
 | n::ns=>by rw[yx,iV,cN ns];rfl
noncomputable def aN (env:List Sl):List Sl→Option (List PyData)
 | []=>some []
 | s::ss=>(aE env s).bind fun d=>(aN env ss).bind fun ds=>some (d::ds)
theorem Rel.kept (h:Rel K M P H0 σ0 σ env (ts++tt) H) (m:(v,s)∈tt) (e:aE env s=some d):DN K (Nw M (al σ env ts)) H v d:=by
 have hE:=h.e
 rw [aj] at hE
 have sub:∀ b,Nw M (al σ env ts) b→Nw M (al σ env ts++tmp tt) b:=fun b z=>cF z
 have mm:((some v,s):Ent)∈al σ env ts++tmp tt:=xY _ (yr.mpr ⟨(v,s),m,rfl⟩)
 cases s with
 | fr d' =>
  cases e
  obtain ⟨v',e1,dn⟩:=hE.fr _ _ mm
  cases e1
  exact dn.to fun b _ _ z=>sub b z
 | ow ds =>
  cases e
  obtain ⟨a,vs,e1,e2,dn,h0⟩:=hE.ow _ _ mm
  cases e1
  refine .lst (SnL.of e2 ?_) (dn.to fun b _ _ z=>sub b z)
  rintro (z|z)
  ·exact hE.mt a z h0
  ·have nd:=hE.nd
   rw [ac] at nd
   exact (yb.mp nd).2.2 a z a (aG.mpr ⟨_,yr.mpr ⟨_,m,rfl⟩,x4.mpr rfl⟩) rfl
 | tr S d' =>
  cases e
  obtain ⟨v',e1,ot,h0⟩:=hE.tr _ _ _ mm
  cases e1
  refine ot.dn sub fun a ha=>?_
  rintro (z|z)
  ·exact hE.mt a z (h0 a ha)
  ·have nd:=hE.nd
   rw [ac] at nd
   exact (yb.mp nd).2.2 a z a (aG.mpr ⟨_,yr.mpr ⟨_,m,rfl⟩,by rw[ao];exact ha⟩) rfl
 | vw i =>
  have e:(env[i]?).bind slK=some d:=e
  cases q:env[i]? with
  | none=>rw[q] at e;cases e
  | some s' =>
   rw [q] at e
   cases s' with
   | fr d' =>
    cases e
    obtain ⟨x,e1,m1⟩:=h.slot q
    rw [aj] at m1
    obtain ⟨v',e2,dn⟩:=hE.fr _ _ m1
    have e3:=h.vw v i (xY _ m)
    rw [e1,e2] at e3
    cases e3
    exact dn.to fun b _ _ z=>sub b z
   | _=>cases e
 | _=>cases e
theorem Rel.keptAll (h:Rel K M P H0 σ0 σ env (ts++tt) H):∀ {vs:List V}{ss:List Sl}{ds:List PyData},vs.length=ss.length→(∀ p∈vs.zip ss,p∈tt)→aN env ss=some ds→DNs K (Nw M (al σ env ts)) H vs ds
 | [],[],_,_,_,e=>by cases e;exact .nil
 | v :: vs,s::ss,ds,hl,hm,e=>by
  unfold aN at e
  cases e1:aE env s with
  | none=>rw[e1] at e;cases e
  | some d =>
   rw [e1] at e
   cases e2:aN env ss with
   | none=>rw[e2] at e;cases e
   | some ds' =>
    rw [e2] at e
    cases e
    exact .cons (h.kept (hm _ (by simp)) e1) (h.keptAll (by simpa using hl) (fun p hp=>hm p (by simp[hp])) e2)
 | [],_::_,_,hl,_,_=>by simp at hl
 | _::_,[],_,hl,_,_=>by simp at hl
theorem Rel.newAddr (h:Rel K M P H0 σ0 σ env ts H) {p:Addr} (hp:H p=none):¬Nw M (al σ env ts) p:=by
 rintro (z|z)
 ·exact h.e.live p (h.e.mt p z) hp
 ·obtain ⟨vs,q,_⟩:=h.e.own z
  rw [hp] at q
  cases q
theorem Rel.resTup (h:Rel K M P H0 σ0 σ env (ts++tt) H) {p:Addr}{vs:List V}{ds:List PyData} (hp:H p=none) (dns:DNs K (Nw M (al σ env ts)) H vs ds):Rel K M P H0 σ0 σ env (ts++[(.ref p,.fr (.tuple ds))]) (upd H p (.tup vs)) :=
 (h.drop.same (aH.new hp)).addFr (.tup (SnT.of aC (h.drop.newAddr hp)) (dns.keep (aI.same (aH.new hp))))
section
variable {X:Cx}{x:Str}{p pos:Pos}{e:Expr}{es:List Expr}{tl:DA}{id T:String}
noncomputable def vE (t:DA):DE:=fun env R=>t env fun ss env1=>∃ ds,aN env1 ss=some ds∧ss.length≤sizeLine∧R (.fr (.tuple ds)) env1
noncomputable def vJ (t:DA):DE:=fun env R=>t env fun ss env1=>∃ ds,aN env1 ss=some ds∧ss.length≤sizeLine∧R (.ow ds) env1
theorem eO {x1} (h:PA X es (upA K tl)):PE X (.Tuple es x1 pos) (up K (vE tl)):=(ua h).imp fun σ H Q h=>by
 obtain ⟨M,P,H0,σ0,env,ts,R,rel,ht,hq⟩:=h
 refine ⟨M,P,H0,σ0,env,ts,_,rel,ht,fun ss env1 vs H1 h1 hl rel1=>?_⟩
 obtain ⟨ds,e,hz,hR⟩:=h1
 exact ⟨by omega,fun p hp=>hq _ _ _ _ hR (rel1.resTup hp (rel1.keptAll hl (fun p hp=>hp) e))⟩
theorem bX (h:PA X es (upA K tl)):PE X (.List es pos) (up K (vJ tl)):=(pC h).imp fun σ H Q h=>by
 obtain ⟨M,P,H0,σ0,env,ts,R,rel,ht,hq⟩:=h
 refine ⟨M,P,H0,σ0,env,ts,_,rel,ht,fun ss env1 vs H1 h1 hl rel1=>?_⟩
 obtain ⟨ds,e,hz,hR⟩:=h1
 exact ⟨by omega,fun p hp=>hq _ _ _ _ hR (rel1.drop.addOw hp (rel1.keptAll hl (fun p hp=>hp) e))⟩
end
end
noncomputable def tI (K:PySem.W.Frag):R2:=fun x y H Q=>∃ l b xs zs,x=.ref l∧y=.ref b∧SqL K H l xs∧SqL K H b zs∧xs.length+zs.length≤sizeLine∧∀ p,H p=none→Q (.ref p) (upd H p (.lst (xs++zs)))
theorem d4 {X:Cx}{K:PySem.W.Frag} (hK:X.K=K):OpR X (binaryOp .Add) (tI K):=by
 subst hK
 intro pins s σ H x y v u Q I rx ry h
 obtain ⟨l,b,xs,zs,rfl,rfl,hH,hB,hz,q⟩:=h
 cases rx
 cases ry
 obtain ⟨its,r,⟨⟨cls,dd,data,sl⟩,n,ho,hc,_,hd⟩,z⟩:=I.list hH
 obtain ⟨its2,r2,⟨⟨cls2,dd2,data2,sl2⟩,n2,ho2,hc2,_,hd2⟩,z2⟩:=I.list hB
 simp only at hc hd hc2 hd2
 subst hc hd hc2 hd2
 have hl:=r.length
 have hl2:=r2.length
 refine concat_meets ⟨_,ho,rfl⟩ ⟨_,ho2,rfl⟩ noFill_list_add seq_list_add PySem.F.slot_list_add PySem.F.entry_list_add (PySem.F.args_list_add_2 _ _) (list_addW l b its.toArray its2.toArray n n2 dd dd2 sl sl2 (by rw[yh,yh];omega)) ⟨ho,ho2,?_⟩
 have ea:its.toArray++its2.toArray=(its++its2).toArray:=by simp
 rw [ea]
 exact ⟨.ref _,_,I.lnew (t':=s.toks) (r.append r2) (by rw[yw];omega),rfl,q _ I.fresh⟩
section
variable {K:PySem.W.Frag}{M P N:Addr→Prop}{H0 H H':Hp}{σ0 σ:St}{env:List Sl}{ts tt:List (V×Sl)}{v:V}{s:Sl}{d:PyData}
variable {X:Cx}{x:Str}{p pos:Pos}{a b e:Expr}{es:List Expr}{ta tb:DE}{tl:DA}
noncomputable def vc (g:PyData→PyData→(List PyData→Prop)→Prop) (ta tb:DE):DE:=fun env R=>ta env fun s1 env1=>tb env1 fun s2 env2=>∃ d1 d2,aF env2 s1=some d1∧aF env2 s2=some d2∧g d1 d2 fun ds=>R (.ow ds) env2
noncomputable def mP (K:PySem.W.Frag) (r:R2) (g:PyData→PyData→(List PyData→Prop)→Prop):Prop:=∀ (N:Addr→Prop) (H:Hp) (x y:V) (d1 d2:PyData) (R:List PyData→Prop) (Q:VK),Vw K N H x d1→Vw K N H y d2→g d1 d2 R →
 (∀ ds vs p,R ds→DNs K N H vs ds→H p=none→Q (.ref p) (upd H p (.lst vs)))→r x y H Q
theorem uk {r:R2}{g:PyData→PyData→(List PyData→Prop)→Prop} (m:mP K r g):∀ σ H Q,up K (vc g ta tb) σ H Q→tOp r (up K ta) (up K tb) σ H Q:=fun σ H Q h=>by
 obtain ⟨M,P,H0,σ0,env,ts,R,rel,ht,hq⟩:=h
 refine ⟨M,P,H0,σ0,env,ts,_,rel,ht,fun s1 env1 v1 H1 h1 rel1=>⟨M,P,H0,σ0,env1,ts++[(v1,s1)],_,rel1,h1,fun s2 env2 v2 H2 h2 rel2=>?_⟩⟩
 obtain ⟨d1,d2,e1,e2,g⟩:=h2
 refine m _ H2 v1 v2 d1 d2 _ Q (rel2.view (by simp) e1) (rel2.view (by simp) e2) g fun ds vs p hR dns hp=>hq _ _ _ _ hR ?_
 have rel2':Rel K M P H0 σ0 σ env2 (ts++[(v1,s1),(v2,s2)]) H2:=by simpa using rel2
 exact rel2'.resOw hp (by simpa using dns)
theorem nr {op:Operator}{r:R2}{g:PyData→PyData→(List PyData→Prop)→Prop} (ho:OpR X (binaryOp op) r) (m:mP K r g) (ha:PE X a (up K ta)) (hb:PE X b (up K tb)):PE X (.BinOp a op b pos) (up K (vc g ta tb)):=(nB ho ha hb).imp (uk m)
noncomputable def vC:PyData→PyData→(List PyData→Prop)→Prop:=fun d e R=>∃ xs ys,d=.list xs∧e=.list ys∧xs.length+ys.length≤sizeLine∧R (xs++ys)
theorem vy:mP K (tI K) vC:=by
 rintro N H x y d e R Q w1 w2 ⟨xs,ys,rfl,rfl,hz,hR⟩ hq
 obtain ⟨a1,v1,rfl,s1,q1⟩:=w1.list
 obtain ⟨a2,v2,rfl,s2,q2⟩:=w2.list
 exact ⟨a1,a2,v1,v2,rfl,rfl,s1,s2,by rw[q1.len,q2.len];exact hz,fun p hp=>hq _ _ p hR (q1.app q2) hp⟩
noncomputable def oQ (ta tb:DE):DE:=fun env R=>ta env fun s1 env1=>tb env1 fun s2 env2=>∃ xs ys,aF env2 s1=some (.tuple xs)∧aF env2 s2=some (.tuple ys)∧xs.length+ys.length≤sizeLine∧R (.fr (.tuple (xs++ys))) env2
theorem pA (hK:X.K=K) (ha:PE X a (up K ta)) (hb:PE X b (up K tb)):PE X (.BinOp a .Add b pos) (up K (oQ ta tb)):=(nB (wu (K:=K) hK) ha hb).imp fun σ H Q h=>by
 obtain ⟨M,P,H0,σ0,env,ts,R,rel,ht,hq⟩:=h
 refine ⟨M,P,H0,σ0,env,ts,_,rel,ht,fun s1 env1 v1 H1 h1 rel1=>⟨M,P,H0,σ0,env1,ts++[(v1,s1)],_,rel1,h1,fun s2 env2 v2 H2 h2 rel2=>?_⟩⟩
 obtain ⟨xs,ys,e1,e2,hz,hR⟩:=h2
 have w1:=rel2.view (v:=v1) (by simp) e1
 have w2:=rel2.view (v:=v2) (by simp) e2
 have rel2':Rel K M P H0 σ0 σ env2 (ts++[(v1,s1),(v2,s2)]) H2:=by simpa using rel2
 have ee:ts++[(v1,s1)]++[(v2,s2)]=ts++[(v1,s1),(v2,s2)]:=by simp
 rw [ee] at w1 w2
 obtain ⟨a1,u1,rfl,t1,q1⟩:=w1.tuple
 obtain ⟨a2,u2,rfl,t2,q2⟩:=w2.tuple
 refine ⟨a1,a2,u1,u2,rfl,rfl,t1,t2,by rw[q1.len,q2.len];exact hz,fun z=>?_,fun _ z=>?_,fun _ _ p hp=>?_⟩
 ·subst z
  have:xs=[]:=by
   have:=q1.len
   exact List.eq_nil_of_length_eq_zero this.symm
  subst this
  cases w2 with
  | dn dn=>exact hq _ _ _ _ hR (rel2'.res (aH.refl _) dn)
 ·subst z
  have:ys=[]:=by
   have:=q2.len
   exact List.eq_nil_of_length_eq_zero this.symm
  subst this
  rw [yu] at hR
  cases w1 with
  | dn dn=>exact hq _ _ _ _ hR (rel2'.res (aH.refl _) dn)
 ·exact hq _ _ _ _ hR (rel2'.resTup hp ((q1.app q2).to fun b _ _ z=>by rw[aj];exact cF z))
noncomputable abbrev DO:=List Sl→(Option Int→List Sl→Prop)→Prop
inductive upO (K:PySem.W.Frag) (t:DO) (σ:St) (H:Hp) (Q:Option Int→Hp→Prop):Prop
 | mk (M P:Addr→Prop) (H0:Hp) (σ0:St) (env:List Sl) (ts:List (V×Sl)) (R:Option Int→List Sl→Prop):Rel K M P H0 σ0 σ env ts H→t env R →
 (∀ o env' H',R o env'→Rel K M P H0 σ0 σ env' ts H'→Q o H')→upO K t σ H Q
theorem PO.imp {e:Option Expr}{t t':TO} (h:PO X e t) (k:∀ σ H Q,t' σ H Q→t σ H Q):PO X e t':=fun pins s σ H Q I hw=>h pins s σ H Q I (k σ H Q hw)
noncomputable def fL:DO:=fun env R=>R none env
noncomputable def oM (t:DE):DO:=fun env R=>t env fun s env1=>∃ i,aF env1 s=some (.int i)∧R (some i) env1
theorem ll:PO X none (upO K fL):=qW.imp fun σ H Q h=>by
 obtain ⟨M,P,H0,σ0,env,ts,R,rel,ht,hq⟩:=h
 exact hq _ _ _ ht rel
theorem lj (h:PE X e (up K ta)):PO X (some e) (upO K (oM ta)):=(qV h).imp fun σ H Q h=>by
 obtain ⟨M,P,H0,σ0,env,ts,R,rel,ht,hq⟩:=h
 refine ⟨M,P,H0,σ0,env,ts,_,rel,ht,fun s1 env1 v1 H1 h1 rel1=>?_⟩
 obtain ⟨i,e1,hR⟩:=h1
 exact ⟨i,(rel1.view (by simp) e1).int,hq _ _ _ hR rel1.drop⟩
noncomputable def oS {α:Type} (xs:List α) (lo hi:Option Int):List α:=(xs.drop (HT.sIx xs.length 0 lo)).take (HT.sIx xs.length xs.length hi - HT.sIx xs.length 0 lo)
theorem DNs.drop:∀ {vs:List V}{ds:List PyData} (n:Nat),DNs K N H vs ds→DNs K N H (vs.drop n) (ds.drop n)
 | _,_,0,q=>q
 | _,_,_+1,.nil=>.nil
 | _,_,n+1,.cons _ q=>q.drop n
theorem DNs.take:∀ {vs:List V}{ds:List PyData} (n:Nat),DNs K N H vs ds→DNs K N H (vs.take n) (ds.take n)
 | _,_,0,_=>.nil
 | _,_,_+1,.nil=>.nil
 | _,_,n+1,.cons h q=>.cons h (q.take n)
theorem DNs.cut {vs:List V}{ds:List PyData} (q:DNs K N H vs ds) (lo hi:Option Int):DNs K N H (sP vs lo hi) (oS ds lo hi):=by
 unfold sP oS
 rw [q.len]
 exact (q.drop _).take _
noncomputable def vF (te:DE) (tl th:DO):DE:=fun env R=>te env fun s env1=>tl env1 fun l env2=>th env2 fun h env3=>∃ ds,aF env3 s=some (.list ds)∧R (.ow (oS ds l h)) env3
variable {lo hi:Option Expr}{tlo thi:DO}{p2:Pos}
theorem tO (hK:X.K=K) (he:PE X e (up K ta)) (hl:PO X lo (upO K tlo)) (hu:PO X hi (upO K thi)):PE X (.Subscript e (.Slice lo hi none p2) pos) (up K (vF ta tlo thi)):=(nA (xI (K:=K) hK) he hl hu).imp fun σ H Q h=>by
 obtain ⟨M,P,H0,σ0,env,ts,R,rel,ht,hq⟩:=h
 refine ⟨M,P,H0,σ0,env,ts,_,rel,ht,fun s1 env1 v1 H1 h1 rel1=>⟨M,P,H0,σ0,env1,ts++[(v1,s1)],_,rel1,h1,fun l env2 H2 h2 rel2=>⟨M,P,H0,σ0,env2,ts++[(v1,s1)],_,rel2,h2,fun u env3 H3 h3 rel3=>?_⟩⟩⟩
 obtain ⟨ds,e1,hR⟩:=h3
 obtain ⟨a,vs,rfl,sq,q⟩:=(rel3.view (v:=v1) (by simp) e1).list
 exact ⟨a,vs,rfl,sq,fun p hp=>hq _ _ _ _ hR (rel3.resOw hp (q.cut l u))⟩
noncomputable def mr (t:DA):DE:=fun env R=>t env fun ss env1=>∃ s d ds,ss=[s]∧aF env1 s=some d∧cT d=some ds∧R (.fr (.tuple ds)) env1
theorem qI (hK:X.K=K) (hg:Gl X "tuple") (hm:X.mg "tuple" = none) (ha:PA X [e] (upA K tl)) (he:starEach [e] X.env=[(false,eval e X.env)]:=by rfl):PE X (.Call (.Name "tuple" p) [e] [] pos) (up K (mr tl)) :=
 (lF (uC (K:=K) hK) hg hm PyProof.Rows.boot_tuple ha (by decide) (by decide) he rfl).imp fun σ H Q h=>by
 obtain ⟨M,P,H0,σ0,env,ts,R,rel,ht,hq⟩:=h
 refine ⟨M,P,H0,σ0,env,ts,_,rel,ht,fun ss env1 vs H1 h1 hl rel1=>?_⟩
 obtain ⟨s,d,ds,rfl,e1,e2,hR⟩:=h1
 obtain ⟨v,rfl⟩:=rE hl
 have w:=rel1.view (v:=v) (by simp) e1
 cases d <;> simp[cT] at e2
 ·subst e2
  obtain ⟨a,us,rfl,sq,q⟩:=w.list
  exact ⟨a,us,rfl,.inl ⟨sq,fun l hl'=>hq _ _ _ _ hR (rel1.resTup hl' (q.to fun b _ _ z=>by rw[aj];exact cF z))⟩⟩
 ·subst e2
  obtain ⟨a,us,rfl,sq,q⟩:=w.tuple
  refine ⟨a,us,rfl,.inr ⟨sq,hq _ _ _ _ hR ?_⟩⟩
  cases w with
  | dn dn=>exact rel1.res (aH.refl _) dn
noncomputable def bG:Sl→List PyData→Option Sl
 | .ow _,ds=>some (.ow ds)
 | .io _,ds=>some (.io ds)
 | _,_=>none
noncomputable def dH:Sl→Option (List PyData)
 | .ow ds=>some ds
 | .io ds=>some ds
 | _=>none
theorem eY {s s':Sl}{l:List PyData} (h:bG s l=some s'):rS s l s'∧dH s'=some l:=by
 cases s with
 | ow _=>cases h;exact⟨rfl,rfl⟩
 | io _=>cases h;exact⟨rfl,rfl⟩
 | _=>cases h
theorem kZ {s:Sl}{l d:List PyData} (h:bG s l=some (.io d)):∃ d0,s=.io d0:=by
 cases s with
 | io d0=>exact⟨d0,rfl⟩
 | _=>cases h
theorem ju {s:Sl}{l:List PyData} (h:dH s=some l):bG s l=some s∧∀ a,a∈bw (some (.ref a),s):=by
 cases s with
 | ow _=>cases h;exact⟨rfl,fun a=>x4.mpr rfl⟩
 | io _=>cases h;exact⟨rfl,fun a=>x4.mpr rfl⟩
 | _=>cases h
theorem Rel.mut {i:Nat}{s s':Sl}{ds ds':List PyData} (h:Rel K M P H0 σ0 σ env ts H) (e:env[i]? = some s) (es:bG s ds'=some s') {a:Addr} (ea:σ[i]? = some (some (.ref a))) {vs':List V} (dns:DNs K (Nw M (al σ env ts)) H vs' ds') :
  Rel K M P H0 σ0 σ (env.set i s') ts (upd H a (.lst vs')):=by
 obtain ⟨x,A,B,e1,q1,q2⟩:=h.split e
 rw [ea] at e1
 cases e1
 have r:=h.e
 rw [q1] at r dns
 refine ⟨by rw[q2];exact r.mut (eY es).1 dns,by simp[h.len],h.vw,fun j ds'' e'=>?_⟩
 by_cases hj:i=j
 ·subst hj
  have hi:i<env.length:=(yc.mp e).1
  rw [yk hi] at e'
  cases e'
  obtain ⟨ds0,rfl⟩:=kZ es
  exact h.ios i ds0 e
 ·rw [yj hj] at e'
  exact h.ios j ds'' e'
theorem Rel.mine {i:Nat}{s:Sl}{ds:List PyData} (h:Rel K M P H0 σ0 σ env ts H) (e:env[i]? = some s) (eo:dH s=some ds):∃ a vs,σ[i]? = some (some (.ref a))∧H a=some (.lst vs)∧DNs K (Nw M (al σ env ts)) H vs ds:=by
 obtain ⟨x,e1,m⟩:=h.slot e
 cases s with
 | ow d =>
  cases eo
  obtain ⟨a,vs,z,q1,q2,_⟩:=h.e.ow _ _ m
  subst z
  exact ⟨a,vs,e1,q1,q2⟩
 | io d =>
  cases eo
  obtain ⟨a,vs,z,q1,q2,_⟩:=h.e.io _ _ m
  subst z
  exact ⟨a,vs,e1,q1,q2⟩
 | _=>cases eo
noncomputable def vM (i:Nat) (te:DE):DE:=fun env R=>(∃ ds,(env[i]?).bind dH=some ds)∧te env fun s env1=>∃ d s0 ds s',aE env1 s=some d∧env1[i]? = some s0∧dH s0=some ds∧ds.length<sizeLine∧bG s0 (ds++[d])=some s'∧R (.fr .none) (env1.set i s')
theorem j0 {i:Nat}{ds:List PyData} (h:(env[i]?).bind dH=some ds):∃ s,env[i]? = some s∧dH s=some ds:=by
 cases e:env[i]? with
 | none=>rw[e] at h;cases h
 | some s=>rw[e] at h;exact⟨s,rfl,h⟩
theorem qP (i:Nat) {y:Str}{apos cpos npos:Pos} (hK:X.K=K) (hN:X.N[i]? = some y) (ha:PE X e (up K ta))
  (hv:Vis X.env.scope y:=by first|exact Or.inl rfl|exact Or.inr (Or.inl rfl)|exact Or.inr (Or.inr rfl)) (hd:(y==("__debug__" : Str))=false:=by decide)
  (hcd:(y==("__classdict__" : Str))=false:=by decide)
  (hs0:starEach [e] X.env=[(false,eval e X.env)]:=by rfl)
  (hbase:attributeBase (.Name y npos) "append" X.env (eval (.Name y npos) X.env)=eval (.Name y npos) X.env:=by rfl)
  (hfew:((backTo cpos (starEach [e] X.env)).all (fun x=>!x.1)&&(backToKw cpos (keywordEach [] X.env)).all (fun x=>x.1.isSome)&&decide ([e].length+([]:List Keyword).length+(if ([]:List Keyword).isEmpty then 0 else 1)<30))=true:=by rfl)
  (hline:(apos.endLine==cpos.line)=true:=by rfl) (hplain:(backTo cpos (starEach [] X.env)).any (·.1)=false:=by rfl) :
  PE X (.Call (.Attribute (.Name y npos) "append" apos) [e] [] cpos) (up K (vM i ta)) :=
 (kBm (K:=K) hK PySem.F.plainAttrs_list PySem.F.slot_list_append PySem.F.type_list_append gv (cE hN hv hd hcd) (df ha gl hs0) hbase hfew hline hs0 hplain).imp fun σ H Q h=>by
 obtain ⟨M,P,H0,σ0,env,ts,R,rel,⟨⟨ds0,h0⟩,ht⟩,hq⟩:=h
 obtain ⟨s0,e0,o0⟩:=j0 h0
 obtain ⟨a,vs,ea,hH,_⟩:=rel.mine e0 o0
 refine ⟨.ref a,ea,.inl ⟨rfl,vs,SqL.of hH⟩,M,P,H0,σ0,env,ts,_,rel,ht,fun s1 env1 v1 H1 h1 rel1=>?_⟩
 obtain ⟨d,s2,ds,s',k,e2,o2,hz,es,hR⟩:=h1
 obtain ⟨a',us,ea',hH',q⟩:=rel1.drop.mine e2 o2
 rw [ea] at ea'
 cases ea'
 refine ⟨a,us,v1,rfl,rfl,hH',by rw[q.len];exact hz,?_⟩
 have dn:=rel1.kept (v:=v1) (s:=s1) (by simp) k
 exact hq _ _ _ _ hR ((rel1.drop.mut (ds:=ds) e2 es ea (q.app (.cons dn .nil))).addFr .non)
noncomputable def vG (i:Nat):DE:=fun env R=>∃ s0 ds d s',env[i]? = some s0∧dH s0=some ds∧ds.getLast? = some d∧bG s0 ds.dropLast=some s'∧R (.fr d) (env.set i s')
theorem DNs.dropLast:∀ {vs:List V}{ds:List PyData},DNs K N H vs ds→DNs K N H vs.dropLast ds.dropLast:=fun {vs ds} q=>by
 rw [List.dropLast_eq_take,List.dropLast_eq_take,q.len]
 exact q.take _
theorem vY (i:Nat) {y:Str}{apos cpos npos:Pos} (hK:X.K=K) (hN:X.N[i]? = some y)
  (hv:Vis X.env.scope y:=by first|exact Or.inl rfl|exact Or.inr (Or.inl rfl)|exact Or.inr (Or.inr rfl)) (hd:(y==("__debug__" : Str))=false:=by decide)
  (hcd:(y==("__classdict__" : Str))=false:=by decide)
  (hbase:attributeBase (.Name y npos) "pop" X.env (eval (.Name y npos) X.env)=eval (.Name y npos) X.env:=by rfl) (hline:(apos.endLine==cpos.line)=true:=by rfl) :
  PE X (.Call (.Attribute (.Name y npos) "pop" apos) [] [] cpos) (up K (vG i)) :=
 (xc (K:=K) hK PySem.F.plainAttrs_list PySem.F.slot_list_pop PySem.F.type_list_pop um (cE hN hv hd hcd) hbase hline).imp fun σ H Q h=>by
 obtain ⟨M,P,H0,σ0,env,ts,R,rel,⟨s0,ds,d,s',e0,o0,hl,es,hR⟩,hq⟩:=h
 obtain ⟨a,vs,ea,hH,q⟩:=rel.mine e0 o0
 have hn:ds.length - 1<ds.length:=by
  cases ds with
  | nil=>simp at hl
  | cons z r=>simp
 rw [List.getLast?_eq_getElem?] at hl
 have hlt:vs.length - 1<vs.length:=by rw[q.len];exact hn
 obtain ⟨d',h1,dn⟩:=q.get (x5 hlt)
 rw [q.len,hl] at h1
 cases h1
 refine ⟨.ref a,ea,.inl ⟨rfl,vs,SqL.of hH⟩,a,vs,vs[vs.length - 1],rfl,rfl,hH,x5 hlt,?_⟩
 have rel2:=rel.addFr dn
 have m:=rel2.mut (ds:=ds) (vs':=vs.dropLast) (ds':=ds.dropLast) e0 es ea (by
  have : Nw M (al σ env (ts++[(vs[vs.length - 1],Sl.fr d)]))=Nw M (al σ env ts):=by
   rw [aj]
   unfold Nw
   have:oas (al σ env ts++tmp [(vs[vs.length - 1],Sl.fr d)])=oas (al σ env ts):=by
    rw [ac]
    have:oas (tmp [(vs[vs.length - 1],Sl.fr d)])=[]:=by
     show oas [(some vs[vs.length - 1],Sl.fr d)]=[]
     rw [ad]
     cases vs[vs.length - 1] <;> rfl
    rw [this,yu]
   rw [this]
  rw [this]
  exact q.dropLast)
 exact hq _ _ _ _ hR m
end
section
variable {K:PySem.W.Frag}{M P N:Addr→Prop}{H0 H H':Hp}{E A B:List Ent}{σ0 σ:St}{env:List Sl}{ts tt:List (V×Sl)}{v:V}{s:Sl}{d:PyData}
end
noncomputable abbrev DSp:=List Sl→(Sl→List Sl→Prop)→Prop
noncomputable def eP:Sl→Bool
 | .fr _=>true
 | .ow _=>true
 | .tr _ _=>true
 | _=>false
noncomputable def mW (vs:List V) (ss:List Sl):Addr→Prop:=fun a=>a∈oas (tmp (vs.zip ss))
noncomputable def spD (K:PySem.W.Frag) (sp:DSp):Sp:=fun vs H Q _=>∃ (M:Addr→Prop) (ss:List Sl) (R:Sl→List Sl→Prop),vs.length=ss.length∧aJ K M (mW vs ss) H (tmp (vs.zip ss)) H∧sp ss R ∧
 ∀ r ss' v H',R r ss'→eP r=true→aJ K M (mW vs ss) H (tmp ((v,r)::vs.zip ss')) H'→Q v H'
section
variable {K:PySem.W.Frag}{M P N:Addr→Prop}{H0 H H':Hp}{E A B:List Ent}{σ0 σ:St}{env:List Sl}{ts tt:List (V×Sl)}{v:V}{s:Sl}{d:PyData}
theorem d5:∀ (vs:List V) (ds:List PyData),oas (tmp (vs.zip (ds.map Sl.fr)))=[]
 | [],_=>by simp[oas,tmp]
 | _::_,[]=>by simp[oas,tmp]
 | v::vs,d::ds=>by
  show oas ((some v,Sl.fr d)::tmp (vs.zip (ds.map Sl.fr)))=[]
  rw [ad,bS,d5 vs ds]
  rfl
theorem dg {vs:List V}{ds:List PyData}{x:Option V}{s:Sl} (h:DNs K N H vs ds):(x,s)∈tmp (vs.zip (ds.map Sl.fr))→∃ v d,x=some v∧s=.fr d∧DN K N H v d:=DNs.ind (C:=fun vs ds=>(x,s)∈tmp (vs.zip (ds.map Sl.fr))→∃ v d,x=some v∧s=.fr d∧DN K N H v d) (fun m=>by simp[tmp] at m) (fun {v vs d ds} h _ i m=>by
  have m:(x,s)∈(some v,Sl.fr d)::tmp (vs.zip (ds.map Sl.fr)):=m
  rcases ye.mp m with m|m
  ·cases m;exact⟨v,d,rfl,rfl,h⟩
  ·exact i m) h
inductive bv (K:PySem.W.Frag) (N:Addr→Prop) (Hc H':Hp):V→Sl→Prop
 | fr {v:V}{d:PyData}:DN K N H' v d→bv K N Hc H' v (.fr d)
 | ow {a:Addr}{vs:List V}{ds:List PyData}:H' a=some (.lst vs)→DNs K (fun b=>N b∨b=a) H' vs ds→Hc a=none→¬N a→bv K N Hc H' (.ref a) (.ow ds)
 | tr {v:V}{d:PyData}{S:List Addr}:OT K (fun b=>N b∨b∈S) H' v d S→(∀ a∈S,Hc a=none∧¬N a)→S.Nodup→bv K N Hc H' v (.tr S d)
theorem aJ.resOk {Hc:Hp}{Pc:Addr→Prop}{r:Sl}{T:List Ent} (hc:aJ K N Pc Hc ((some v,r)::T) H') (hr:eP r=true):bv K N Hc H' v r:=by
 cases r with
 | fr d =>
  obtain ⟨w,e,dn⟩:=hc.fr _ _ ya
  cases e
  exact .fr (dn.to fun b _ _ z=>.inl z)
 | ow ds =>
  obtain ⟨a,vs,e,ha,dns,hn⟩:=hc.ow _ _ ya
  cases e
  refine .ow ha (dns.to fun b _ _ z=>?_) hn fun z=>hc.mt a z hn
  rcases z with z|z
  ·exact .inl z
  ·rw [z]
   exact .inr (by rw[ad];exact x3 _ (x4.mpr rfl))
 | tr S d =>
  obtain ⟨w,e,ot,hn⟩:=hc.tr _ _ _ ya
  cases e
  refine .tr (ot.to fun b _ _ z=>?_) (fun a ha=>⟨hn a ha,fun z=>hc.mt a z (hn a ha)⟩) ?_
  ·rcases z with z|z
   ·exact .inl z
   ·exact .inr (by rw[ad,ao];exact x3 _ z)
  ·have nd:=hc.nd
   rw [ad,ao] at nd
   exact (yb.mp nd).1
 | _=>cases hr
theorem bv.to {Hc:Hp}{r:Sl}{N2:Addr→Prop} (h:bv K N Hc H' v r) (m:∀ b,N2 b→N b):bv K N2 Hc H' v r:=by
 cases h with
 | fr dn=>exact .fr (dn.to fun b _ _ z=>m b z)
 | ow ha dns hn nn=>exact .ow ha (dns.to fun b _ _ z=>z.elim (fun z=>.inl (m b z)) .inr) hn fun z=>nn (m _ z)
 | tr ot hn nd=>exact .tr (ot.to fun b _ _ z=>z.elim (fun z=>.inl (m b z)) .inr) (fun a ha=>⟨(hn a ha).1,fun z=>(hn a ha).2 (m a z)⟩) nd
theorem bv.own {r:Sl}{Hc:Hp} (h:bv K N Hc H' v r):(∀ b∈bw (some v,r),Hc b=none∧¬N b)∧(bw (some v,r)).Nodup:=by
 cases h with
 | fr dn=>rw[bS];exact⟨fun b hb=>absurd hb yt,y7⟩
 | ow ha dns hn nN=>exact⟨fun b hb=>by rw[x4.mp hb];exact⟨hn,nN⟩,yv.mpr ⟨by simp,y7⟩⟩
 | tr ot hn nd=>rw[ao];exact⟨hn,nd⟩
theorem bv.frD {d:PyData}{Hc:Hp} (h:bv K N Hc H' v (.fr d)):DN K N H' v d:=by
 cases h with
 | fr dn=>exact dn
theorem bv.owD {ds:List PyData}{Hc:Hp} (h:bv K N Hc H' v (.ow ds)):∃ a vs,v=.ref a∧H' a=some (.lst vs)∧DNs K (fun b=>N b∨b=a) H' vs ds∧Hc a=none:=by
 cases h with
 | ow ha dns hn nN=>exact⟨_,_,rfl,ha,dns,hn⟩
theorem bv.ioD {ds:List PyData}{Hc:Hp} (h:bv K N Hc H' v (.io ds)):False:=by cases h
theorem bv.trD {d:PyData}{S:List Addr}{Hc:Hp} (h:bv K N Hc H' v (.tr S d)):OT K (fun b=>N b∨b∈S) H' v d S∧∀ a∈S,Hc a=none∧¬N a:=by
 cases h with
 | tr ot hn nd=>exact⟨ot,hn⟩
theorem aJ.getRes {r:Sl} (h:aJ K M P H0 E H') {Hc:Hp} (hlive:∀ b,H0 b≠none→Hc b≠none) (hres:bv K (Nw M E) Hc H' v r)
  (frs:∀ x d,(x,Sl.fr d)∈E→∃ w,x=some w∧DN K (fun b=>Nw M E b∨(b∈bw (some v,r)∧Hc b=none)) H' w d)
  (its:∀ x s ds,(x,s)∈E→dH s=some ds→∃ a vs,x=some (.ref a)∧H' a=some (.lst vs)∧DNs K (fun b=>Nw M E b∨(b∈bw (some v,r)∧Hc b=none)) H' vs ds)
  (ots:∀ x S d,(x,Sl.tr S d)∈E→∃ w,x=some w∧OT K (fun b=>Nw M E b∨(b∈bw (some v,r)∧Hc b=none)) H' w d S):aJ K M P H0 (E++[(some v,r)]) H':=by
 obtain ⟨hown,hnod⟩:=hres.own
 have oe:oas (E++[(some v,r)])=oas E++bw (some v,r):=by
  rw [ac,ad]
  simp [oas]
 have up:∀ b,Nw M (E++[(some v,r)]) b→Nw M E b∨b∈bw (some v,r):=fun b z=>by
  rcases z with z|z
  ·exact .inl (.inl z)
  ·rw [oe] at z
   rcases x8.mp z with z|z
   ·exact .inl (.inr z)
   ·exact .inr z
 have up2:∀ b,Nw M (E++[(some v,r)]) b→Nw M E b∨(b∈bw (some v,r)∧Hc b=none):=fun b z=>(up b z).elim .inl fun z=>.inr ⟨z,(hown b z).1⟩
 have h0:∀ b,Hc b=none→H0 b=none:=fun b hn=>by
  cases e:H0 b with
  | none=>rfl
  | some o=>exact absurd hn (hlive b (by rw[e];simp))
 refine ⟨h.keep,h.live,h.mt,h.pm,fun x d' m=>?_,fun x d' m=>?_,fun x d' m=>?_,fun x S d' m=>?_,?_⟩
 ·rcases x8.mp m with m|m
  ·obtain ⟨w,e,dn⟩:=frs x d' m
   exact ⟨w,e,dn.to fun b _ _ z=>up2 b z⟩
  ·rw [x4] at m
   obtain ⟨e1,rfl⟩:=Prod.mk.inj m
   exact ⟨v,e1,hres.frD.to fun b _ _ z=>(up b z).elim id fun z=>by rw[bS] at z;exact absurd z yt⟩
 ·rcases x8.mp m with m|m
  ·obtain ⟨b,us,e,e2,dn⟩:=its x _ d' m rfl
   obtain ⟨b',us',e',e2',_,r⟩:=h.ow x d' m
   rw [e] at e'
   cases e'
   exact ⟨b,us,e,e2,dn.to fun b _ _ z=>up2 b z,r⟩
  ·rw [x4] at m
   obtain ⟨e1,rfl⟩:=Prod.mk.inj m
   obtain ⟨a,us,rfl,ha,dns,hn⟩:=hres.owD
   exact ⟨a,us,e1,ha,dns.to fun b _ _ z=>(up b z).elim .inl fun z=>.inr (x4.mp z),h0 _ hn⟩
 ·rcases x8.mp m with m|m
  ·obtain ⟨b,us,e,e2,dn⟩:=its x _ d' m rfl
   obtain ⟨b',us',e',e2',_,r⟩:=h.io x d' m
   rw [e] at e'
   cases e'
   exact ⟨b,us,e,e2,dn.to fun b _ _ z=>up2 b z,r⟩
  ·rw [x4] at m
   obtain ⟨e1,rfl⟩:=Prod.mk.inj m
   exact hres.ioD.elim
 ·rcases x8.mp m with m|m
  ·obtain ⟨w,e,dn⟩:=ots x S d' m
   obtain ⟨w',e',_,r⟩:=h.tr x S d' m
   exact ⟨w,e,dn.to fun b _ _ z=>up2 b z,r⟩
  ·rw [x4] at m
   obtain ⟨e1,rfl⟩:=Prod.mk.inj m
   exact ⟨v,e1,hres.trD.1.to fun b _ _ z=>(up b z).elim .inl fun z=>.inr (by rw[ao] at z;exact z),fun a ha=>h0 _ (hres.trD.2 a ha).1⟩
 ·rw [oe]
  exact yb.mpr ⟨h.nd,hnod,fun b hb c hc' z=>(hown c hc').2 (.inr (z▸hb))⟩
theorem DN.past {Hc:Hp}{N2:Addr→Prop} (h:DN K N Hc v d) (n2:∀ b,N2 b→N b∨Hc b=none) {Pc:Addr→Prop} (k:aI Pc Hc H') (hp:∀ b,Pc b→N2 b):DN K N2 H' v d :=
 (h.to fun b o e z=>(n2 b z).elim id fun z=>by rw[z] at e;cases e).keep (k.mono hp)
theorem DNs.past {Hc:Hp}{N2:Addr→Prop}{vs:List V}{ds:List PyData} (h:DNs K N Hc vs ds) (n2:∀ b,N2 b→N b∨Hc b=none) {Pc:Addr→Prop} (k:aI Pc Hc H') (hp:∀ b,Pc b→N2 b):DNs K N2 H' vs ds :=
 (h.to fun b o e z=>(n2 b z).elim id fun z=>by rw[z] at e;cases e).keep (k.mono hp)
theorem OT.past {Hc:Hp}{N2:Addr→Prop}{S:List Addr} (h:OT K N Hc v d S) (n2:∀ b,N2 b→N b∨Hc b=none) {Pc:Addr→Prop} (k:aI Pc Hc H') (hp:∀ b,Pc b→N2 b) (hs:∀ b∈S,¬Pc b):OT K N2 H' v d S :=
 (h.to fun b o e z=>(n2 b z).elim id fun z=>by rw[z] at e;cases e).keep (k.mono hp) fun a ha=>by
  obtain ⟨xs,z⟩:=h.lives a ha
  rw [k _ _ (hs a ha) z,z]
theorem aJ.called {r:Sl} (h:aJ K M P H0 E H) (k:aH H H') (hres:bv K (Nw M E) H H' v r):aJ K M P H0 (E++[(some v,r)]) H':=by
 refine (h.same k).getRes h.live hres (fun x d m=>?_) (fun x s ds m eo=>?_) fun x S d m=>?_
 rotate_right
 ·obtain ⟨w,e,dn,_⟩:=h.tr x S d m
  exact ⟨w,e,dn.past (fun b z=>z.elim .inl fun z=>.inr z.2) (aI.same (N:=N0) k) (fun b z=>z.elim) fun b _ z=>z.elim⟩
 ·obtain ⟨w,e,dn⟩:=h.fr x d m
  exact ⟨w,e,dn.past (fun b z=>z.elim .inl fun z=>.inr z.2) (aI.same (N:=N0) k) fun b z=>z.elim⟩
 ·cases s with
  | ow l =>
   cases eo
   obtain ⟨a,vs,e,e2,dn,_⟩:=h.ow x _ m
   exact ⟨a,vs,e,k _ _ e2,dn.past (fun b z=>z.elim .inl fun z=>.inr z.2) (aI.same (N:=N0) k) fun b z=>z.elim⟩
  | io l =>
   cases eo
   obtain ⟨a,vs,e,e2,dn,_⟩:=h.io x _ m
   exact ⟨a,vs,e,k _ _ e2,dn.past (fun b z=>z.elim .inl fun z=>.inr z.2) (aI.same (N:=N0) k) fun b z=>z.elim⟩
  | _=>cases eo
theorem Rel.withRes {r:Sl} (h:Rel K M P H0 σ0 σ env ts H) (e:aJ K M P H0 (al σ env ts++[(some v,r)]) H') (hr:eP r=true):Rel K M P H0 σ0 σ env (ts++[(v,r)]) H' :=
  ⟨by rw [aj];exact e,h.len,(fun w i m=>by
    rcases x8.mp m with m|m
    · exact h.vw w i m
    · rw [x4] at m
      cases m
      cases hr),h.ios⟩
noncomputable def mx (sp:DSp) (t:DA):DE:=fun env R=>t env fun ss env1=>∃ ds,aN env1 ss=some ds∧sp (ds.map .fr) (dK (fun r _=>R r env1) ⟨⟩)
theorem mM {M':Addr→Prop}{vs:List V}{ds:List PyData} (dns:DNs K M' H vs ds) (hm:∀ a,M' a→H a≠none):aJ K M' (mW vs (ds.map .fr)) H (tmp (vs.zip (ds.map .fr))) H:=by
 have oe:=d5 vs ds
 have ne:∀ b,Nw M' (tmp (vs.zip (ds.map .fr))) b→M' b:=fun b z=>z.elim id fun z=>by rw[oe] at z;cases z
 refine ⟨aI.refl,fun a q=>q,hm,fun a z=>?_,fun x d m=>?_,fun x l m=>?_,fun x l m=>?_,fun x S l m=>?_,by rw[oe];exact y7⟩
 rotate_right
 ·obtain ⟨w,d',e1,e2,dn⟩:=dg dns m
  cases e2
 ·have z:a∈oas (tmp (vs.zip (ds.map .fr))):=z
  rw [oe] at z
  cases z
 ·obtain ⟨w,d',e1,e2,dn⟩:=dg dns m
  cases e2
  exact ⟨w,e1,dn.to fun b _ _ z=>ne b z⟩
 ·obtain ⟨w,d',e1,e2,dn⟩:=dg dns m
  cases e2
 ·obtain ⟨w,d',e1,e2,dn⟩:=dg dns m
  cases e2
theorem sH {sp:DSp}{tl:DA}:∀ σ H Q,up K (mx sp tl) σ H Q→il (spD K sp) [] E0 (upA K tl) σ H Q:=fun σ H Q h=>by
 obtain ⟨M,P,H0,σ0,env,ts,R,rel,ht,hq⟩:=h
 refine ⟨M,P,H0,σ0,env,ts,_,rel,ht,fun ss env1 vs H1 h1 hl rel1=>?_⟩
 obtain ⟨ds,ek,hsp⟩:=h1
 rw [yu]
 have dns:=rel1.keptAll hl (fun p hp=>hp) ek
 have oe:=d5 vs ds
 refine ⟨Nw M (al σ env1 ts),ds.map .fr,fun r _=>R r env1,by simp[dns.len],mM dns fun a z hn=>rel1.drop.newAddr hn z,hsp,fun r ss' v H' hR hr post=>hq _ _ _ _ hR ?_⟩
 have k:aH H1 H':=(post.keep.mono (M:=N0) fun b z=>by
  have z:b∈oas (tmp (vs.zip (ds.map .fr))):=z
  rw [oe] at z
  cases z).none
 exact (rel1.drop).withRes (rel1.drop.e.called k (post.resOk hr)) hr
end
section
variable {K:PySem.W.Frag}{M P N:Addr→Prop}{H0 H H':Hp}{E A B:List Ent}{σ0 σ:St}{env:List Sl}{ts tt:List (V×Sl)}{v:V}{s:Sl}{d:PyData}
theorem cj (t:V×Sl) (ts:List (V×Sl)):tmp (t::ts)=(some t.1,t.2)::tmp ts:=rfl
theorem ik (ts tt:List (V×Sl)):tmp (ts++tt)=tmp ts++tmp tt:=by simp[tmp]
theorem fU {α β:Type}:∀ {l1:List α}{m1:List β} (x:α) (y:β) (l2:List α) (m2:List β),l1.length=m1.length→(l1++x::l2).zip (m1++y::m2)=l1.zip m1++(x,y)::l2.zip m2
 | [],[],_,_,_,_,_=>rfl
 | a::l1,b::m1,x,y,l2,m2,h=>by
  show (a,b)::(l1++x::l2).zip (m1++y::m2)=_
  rw [fU x y l2 m2 (by simpa using h)]
  rfl
 | [],_::_,_,_,_,_,h=>by simp at h
 | _::_,[],_,_,_,_,h=>by simp at h
theorem mL {M':Addr→Prop}{v1 v2 us:List V}{d1 d2 l:List PyData}{a:Addr} (q1:DNs K M' H v1 d1) (q2:DNs K M' H v2 d2) (hm:∀ a,M' a→H a≠none) (ha:M' a) (hH:H a=some (.lst us)) (ql:DNs K M' H us l) :
  oas (tmp ((v1++.ref a::v2).zip (d1.map .fr++.io l::d2.map .fr)))=[a] ∧
  aJ K M' (mW (v1++.ref a::v2) (d1.map .fr++.io l::d2.map .fr)) H (tmp ((v1++.ref a::v2).zip (d1.map .fr++.io l::d2.map .fr))) H:=by
 have ez:(v1++.ref a::v2).zip (d1.map Sl.fr++.io l::d2.map .fr)=v1.zip (d1.map .fr)++(.ref a,.io l)::v2.zip (d2.map .fr):=fU _ _ _ _ (by simp[q1.len])
 have oe:oas (tmp ((v1++.ref a::v2).zip (d1.map .fr++.io l::d2.map .fr)))=[a]:=by
  rw [ez,ik,cj,ac,ad,d5,d5]
  rfl
 have ne:∀ b,Nw M' (tmp ((v1++.ref a::v2).zip (d1.map .fr++.io l::d2.map .fr))) b→M' b:=fun b z=>z.elim id fun z=>by rw[oe,x4] at z;rw[z];exact ha
 have cs:∀ x s,(x,s)∈tmp ((v1++.ref a::v2).zip (d1.map .fr++.io l::d2.map .fr))→(∃ w d,x=some w∧s=.fr d∧DN K M' H w d)∨(x=some (.ref a)∧s=.io l):=fun x s m=>by
  rw [ez,ik,cj] at m
  rcases x8.mp m with m|m
  ·exact .inl (dg q1 m)
  ·rcases ye.mp m with m|m
   ·cases m;exact .inr ⟨rfl,rfl⟩
   ·exact .inl (dg q2 m)
 refine ⟨oe,aI.refl,fun a q=>q,hm,fun b z=>?_,fun x d m=>?_,fun x l' m=>?_,fun x l' m=>?_,fun x S l' m=>?_,by rw[oe];simp⟩
 rotate_right
 ·rcases cs x _ m with ⟨w,d',e1,e2,dn⟩|⟨_,e2⟩
  ·cases e2
  ·cases e2
 ·have z:b∈oas (tmp ((v1++.ref a::v2).zip (d1.map .fr++.io l::d2.map .fr))):=z
  rw [oe,x4] at z
  rw [z];exact ha
 ·rcases cs x _ m with ⟨w,d',e1,e2,dn⟩|⟨_,e2⟩
  ·cases e2;exact⟨w,e1,dn.to fun b _ _ z=>ne b z⟩
  ·cases e2
 ·rcases cs x _ m with ⟨w,d',e1,e2,dn⟩|⟨_,e2⟩
  ·cases e2
  ·cases e2
 ·rcases cs x _ m with ⟨w,d',e1,e2,dn⟩|⟨e1,e2⟩
  ·cases e2
  ·cases e2
   exact ⟨a,us,e1,hH,ql.to fun b _ _ z=>ne b z,by show a∈oas _;rw[oe];simp⟩
theorem aJ.lost {a:Addr}{l:List PyData} (h:aJ K M P H0 (E++[(some (.ref a),.ow l)]) H) (k:aI (fun b=>b=a) H H') (lv:∀ b,H b≠none→H' b≠none):aJ K M P H0 E H' ∧
  (∀ x d,(x,Sl.fr d)∈E→∃ w,x=some w∧∀ N2:Addr→Prop,(∀ b,N2 b→Nw M (E++[(some (.ref a),.ow l)]) b∨H b=none)→N2 a→DN K N2 H' w d) ∧
  (∀ x s ds,(x,s)∈E→dH s=some ds→∃ b vs,x=some (.ref b)∧H' b=some (.lst vs)∧∀ N2:Addr→Prop,(∀ b,N2 b→Nw M (E++[(some (.ref a),.ow l)]) b∨H b=none)→N2 a→DNs K N2 H' vs ds) ∧
  (∀ x S d,(x,Sl.tr S d)∈E→∃ w,x=some w∧∀ N2:Addr→Prop,(∀ b,N2 b→Nw M (E++[(some (.ref a),.ow l)]) b∨H b=none)→N2 a→OT K N2 H' w d S):=by
 have oe:oas (E++[(some (.ref a),Sl.ow l)])=oas E++[a]:=by
  rw [ac]
  rfl
 have nd:=h.nd
 rw [oe] at nd
 obtain ⟨n1,_,n3⟩:=yb.mp nd
 have na:Nw M (E++[(some (.ref a),Sl.ow l)]) a:=.inr (by rw[oe];simp)
 obtain ⟨_,_,z,_,_,h0⟩:=h.ow _ _ (xY _ ya)
 cases z
 have sub:∀ b,Nw M E b→Nw M (E++[(some (.ref a),Sl.ow l)]) b:=fun b z=>cF z
 have kk:∀ b,b=a→Nw M (E++[(some (.ref a),Sl.ow l)]) b:=fun b z=>by rw[z];exact na
 have other:∀ b x s,(x,s)∈E→b∈bw (x,s)→b≠a:=fun b x s m eo z=>n3 b (aG.mpr ⟨_,m,eo⟩) a (by simp) z
 refine ⟨⟨?_,fun b q=>lv b (h.live b q),h.mt,h.pm,fun x d m=>?_,fun x d m=>?_,fun x d m=>?_,fun x S d m=>?_,n1⟩,fun x d m=>?_,fun x s ds m eo=>?_,fun x S d m=>?_⟩
 rotate_right
 ·obtain ⟨v,e,dn,r⟩:=h.tr x S d (x3 _ m)
  subst e
  exact ⟨v,rfl,fun N2 n2 n2a=>dn.past n2 k (fun b z=>by rw[z];exact n2a) fun b hb z=>other b _ _ m (by rw[ao];exact hb) z⟩
 rotate_right 3
 ·obtain ⟨v,e,dn,r⟩:=h.tr x S d (x3 _ m)
  subst e
  refine ⟨v,rfl,(dn.keep (k.mono kk) fun b hb=>?_).to fun b _ _ z=>sub b z,r⟩
  obtain ⟨xs,z⟩:=dn.lives b hb
  rw [k _ _ (other b _ _ m (by rw[ao];exact hb)) z,z]
 rotate_left 2
 ·intro b o np e
  refine k b o (fun z=>?_) (h.keep b o np e)
  rw [z,h0] at e
  cases e
 ·obtain ⟨v,e,dn⟩:=h.fr x d (x3 _ m)
  exact ⟨v,e,(dn.keep (k.mono kk)).to fun b _ _ z=>sub b z⟩
 ·obtain ⟨b,us,e,e2,dn,r⟩:=h.ow x d (x3 _ m)
  subst e
  exact ⟨b,us,rfl,k _ _ (other b _ _ m (x4.mpr rfl)) e2,(dn.keep (k.mono kk)).to fun b _ _ z=>sub b z,r⟩
 ·obtain ⟨b,us,e,e2,dn,r⟩:=h.io x d (x3 _ m)
  subst e
  exact ⟨b,us,rfl,k _ _ (other b _ _ m (x4.mpr rfl)) e2,(dn.keep (k.mono kk)).to fun b _ _ z=>sub b z,r⟩
 ·obtain ⟨v,e,dn⟩:=h.fr x d (x3 _ m)
  exact ⟨v,e,fun N2 n2 n2a=>dn.past n2 k fun b z=>by rw[z];exact n2a⟩
 ·cases s with
  | ow l' =>
   cases eo
   obtain ⟨b,us,e,e2,dn,r⟩:=h.ow x _ (x3 _ m)
   subst e
   exact ⟨b,us,rfl,k _ _ (other b _ _ m (x4.mpr rfl)) e2,fun N2 n2 n2a=>dn.past n2 k fun b z=>by rw[z];exact n2a⟩
  | io l' =>
   cases eo
   obtain ⟨b,us,e,e2,dn,r⟩:=h.io x _ (x3 _ m)
   subst e
   exact ⟨b,us,rfl,k _ _ (other b _ _ m (x4.mpr rfl)) e2,fun N2 n2 n2a=>dn.past n2 k fun b z=>by rw[z];exact n2a⟩
  | _=>cases eo
noncomputable def jS (sp:DSp) (t:DA):DE:=fun env R=>t env fun ss env1=>∃ l ss' ds,ss=.ow l::ss'∧aN env1 ss'=some ds∧sp (.io l::ds.map .fr) (dK (fun r _=>R r env1) ⟨⟩)
theorem oY {sp:DSp}{tl:DA}:∀ σ H Q,up K (jS sp tl) σ H Q→il (spD K sp) [] E0 (upA K tl) σ H Q:=fun σ H Q h=>by
 obtain ⟨M,P,H0,σ0,env,ts,R,rel,ht,hq⟩:=h
 refine ⟨M,P,H0,σ0,env,ts,_,rel,ht,fun ss env1 vs H1 h1 hl rel1=>?_⟩
 obtain ⟨l,ss',ds,rfl,ek,hsp⟩:=h1
 rw [yu]
 obtain ⟨v1,vs',rfl⟩:=wl hl
 have rel1':Rel K M P H0 σ0 σ env1 ((ts++[(v1,.ow l)])++vs'.zip ss') H1:=by simpa using rel1
 have dns:=rel1'.keptAll (by simpa using hl) (fun p hp=>hp) ek
 have relT:=rel1'.drop
 have hE:=relT.e
 rw [aj] at hE
 obtain ⟨a,us,ea,hH,ql,h0⟩:=hE.ow (some v1) l (xY _ (by simp[tmp]))
 cases ea
 have hE:aJ K M P H0 (al σ env1 ts++[(some (.ref a),.ow l)]) H1:=hE
 have eqN:Nw M (al σ env1 (ts++[(.ref a,.ow l)]))=Nw M (al σ env1 ts++[(some (.ref a),.ow l)]):=by rw[aj];rfl
 rw [eqN] at dns
 have ma:Nw M (al σ env1 ts++[(some (.ref a),.ow l)]) a:=.inr (by rw[ac];exact xY _ (aG.mpr ⟨_,x4.mpr rfl,x4.mpr rfl⟩))
 have arg:=mL (v1:=[]) (d1:=[]) (l:=l) (us:=us) (a:=a) (K:=K) (M':=Nw M (al σ env1 ts++[(some (.ref a),.ow l)])) (H:=H1) .nil dns (fun b z hn=>relT.newAddr hn (by rw[eqN];exact z)) ma hH ql
 refine ⟨_,.io l::ds.map .fr,fun r _=>R r env1,by simp[dns.len],arg.2,hsp,fun r ss2 v H' hR hr post=>hq _ _ _ _ hR ?_⟩
 have k:aI (fun b=>b=a) H1 H':=post.keep.mono fun b z=>by
  have z:b∈oas (tmp ((.ref a::vs').zip (.io l::ds.map .fr))):=z
  have oe:=arg.1
  simp only [List.nil_append,List.map_nil] at oe
  rw [oe,x4] at z
  exact z
 obtain ⟨rel',f1,f2,f3⟩:=hE.lost k post.live
 have rk:=post.resOk hr
 have rk':bv K (Nw M (al σ env1 ts)) H1 H' v r:=rk.to fun b z=>cF z
 have n2:∀ b,((Nw M (al σ env1 ts) b∨(b∈bw (some v,r)∧H1 b=none))∨b=a)→Nw M (al σ env1 ts++[(some (.ref a),.ow l)]) b∨H1 b=none:=fun b z=>by
  rcases z with (z|z)|z
  ·exact .inl (cF z)
  ·exact .inr z.2
  ·rw [z];exact .inl ma
 refine relT.drop.withRes ?_ hr
 refine rel'.getRes relT.e.live rk' (fun x d m=>?_) (fun x s ds' m eo=>?_) fun x S d m=>?_
 rotate_right
 ·obtain ⟨w,e,f⟩:=f3 x S d m
  exact ⟨w,e,(f (fun b=>(Nw M (al σ env1 ts) b∨(b∈bw (some v,r)∧H1 b=none))∨b=a) n2 (.inr rfl)).to fun b _ _ z=>.inl z⟩
 ·obtain ⟨w,e,f⟩:=f1 x d m
  exact ⟨w,e,(f (fun b=>(Nw M (al σ env1 ts) b∨(b∈bw (some v,r)∧H1 b=none))∨b=a) n2 (.inr rfl)).to fun b _ _ z=>.inl z⟩
 ·obtain ⟨b,us',e,e2,f⟩:=f2 x s ds' m eo
  exact ⟨b,us',e,e2,(f (fun b=>(Nw M (al σ env1 ts) b∨(b∈bw (some v,r)∧H1 b=none))∨b=a) n2 (.inr rfl)).to fun b _ _ z=>.inl z⟩
noncomputable def gX (sp:DSp) (m:Nat) (t:DA):DE:=fun env R=>t env fun ss env1=>∃ i s0 l d1 d2,ss[m]? = some (.vw i)∧env1[i]? = some s0∧dH s0=some l∧aN env1 (ss.take m)=some d1∧aN env1 (ss.drop (m+1))=some d2 ∧
 sp (d1.map .fr++.io l::d2.map .fr) (dK (fun r as=>∃ l' s',as[m]? = some (.io l')∧bG s0 l'=some s'∧R r (env1.set i s')) ⟨⟩)
theorem m9 {α β:Type} (l:List α) (m:List β) (n:Nat):∀ p∈(l.take n).zip (m.take n),p∈l.zip m:=fun p hp=>by
 rw [List.zip,←List.take_zipWith] at hp
 exact List.mem_of_mem_take hp
theorem oG {α β:Type} (l:List α) (m:List β) (n:Nat):∀ p∈(l.drop n).zip (m.drop n),p∈l.zip m:=fun p hp=>by
 rw [List.zip,←List.drop_zipWith] at hp
 exact List.mem_of_mem_drop hp
theorem vf {α:Type}{l:List α}{m:Nat}{x:α} (h:l[m]? = some x):l=l.take m++x::l.drop (m+1):=by
 obtain ⟨hm,e⟩:=yc.mp h
 rw [←e,List.getElem_cons_drop,List.take_append_drop]
theorem oZ {sp:DSp}{m:Nat}{tl:DA}:∀ σ H Q,up K (gX sp m tl) σ H Q→il (spD K sp) [] E0 (upA K tl) σ H Q:=fun σ H Q h=>by
 obtain ⟨M,P,H0,σ0,env,ts,R,rel,ht,hq⟩:=h
 refine ⟨M,P,H0,σ0,env,ts,_,rel,ht,fun ss env1 vs H1 h1 hl rel1=>?_⟩
 obtain ⟨i,s0,l,d1,d2,em,ei,eo,k1,k2,hsp⟩:=h1
 rw [yu]
 have relT:=rel1.drop
 obtain ⟨a,us,ea,hH,ql⟩:=relT.mine ei eo
 have hm:m<ss.length:=(yc.mp em).1
 have hmv:m<vs.length:=by omega
 have va:vs[m]? = some (.ref a):=by
  have mz:(vs[m],ss[m])∈vs.zip ss:=by
   have hz:m<(vs.zip ss).length:=by rw[yM];omega
   have:=yO hz
   rwa [yU] at this
  rw [(yc.mp em).2] at mz
  have q:=rel1.vw _ _ (xY _ mz)
  rw [ea] at q
  rw [x5 hmv]
  exact congrArg some (Option.some.inj (Option.some.inj q)).symm
 have ev:=vf va
 have q1:=rel1.keptAll (vs:=vs.take m) (ss:=ss.take m) (by simp;omega) (m9 _ _ _) k1
 have q2:=rel1.keptAll (vs:=vs.drop (m+1)) (ss:=ss.drop (m+1)) (by simp;omega) (oG _ _ _) k2
 have hE:=relT.e
 have ma:Nw M (al σ env1 ts) a:=by
  obtain ⟨x,e1,mm⟩:=relT.slot ei
  rw [ea] at e1
  cases e1
  refine .inr (aG.mpr ⟨_,mm,?_⟩)
  exact (ju eo).2 a
 have arg:=mL (l:=l) (us:=us) (a:=a) q1 q2 (fun b z hn=>relT.newAddr hn z) ma hH ql
 rw [←ev] at arg
 have ld1:=q1.len
 have ld2:=q2.len
 refine ⟨_,d1.map .fr++.io l::d2.map .fr,_,?_,arg.2,hsp,fun r ss2 v H' hR hr post=>?_⟩
 ·rw [ev]
  simp only [yw,yK,xZ]
  omega
 obtain ⟨l',s',e2,es,hR⟩:=hR
 refine hq _ _ _ _ hR ?_
 have k:aI (fun b=>b=a) H1 H':=post.keep.mono fun b z=>by
  have z:b∈oas (tmp (vs.zip (d1.map .fr++.io l::d2.map .fr))):=z
  rw [arg.1,x4] at z
  exact z
 have mp:((some (.ref a),.io l'):Ent)∈tmp ((v,r)::vs.zip ss2):=by
  rw [cj]
  refine x9 _ (yr.mpr ⟨(.ref a,.io l'),?_,rfl⟩)
  have h2:m<ss2.length:=(yc.mp e2).1
  have hz:m<(vs.zip ss2).length:=by rw[yM];omega
  have:=yO hz
  rw [yU,(yc.mp va).2,(yc.mp e2).2] at this
  exact this
 obtain ⟨a',us',z,hH',ql',_⟩:=post.io _ _ mp
 cases z
 obtain ⟨x,A,B,e3,sp1,sp2⟩:=relT.split ei
 rw [ea] at e3
 cases e3
 have iso:rS s0 l' s':=(eY es).1
 rw [sp1] at hE
 have dnl:DNs K (Nw M (A++(some (.ref a),s0)::B)) H' us' l':=ql'.to fun b _ _ z=>.inl (by rw[sp1];exact z)
 have hM:=hE.muted iso k post.live hH' dnl
 have neq:Nw M (al σ (env1.set i s') ts)=Nw M (al σ env1 ts):=by
  rw [sp1,sp2]
  have oa:bw (some (.ref a),s0)=[a]∧bw (some (.ref a),s')=[a]:=by
   exact cX iso
  unfold Nw
  rw [ac,ac,ad,ad,oa.1,oa.2]
 rw [←sp2] at hM
 have rk:bv K (Nw M (al σ (env1.set i s') ts)) H1 H' v r:=by rw[neq];exact post.resOk hr
 have relB:Rel K M P H0 σ0 σ (env1.set i s') ts H':=⟨hM,by simp[relT.len],relT.vw,fun j ds'' e'=>by
  by_cases hj:i=j
  ·subst hj
   have hi:i<env1.length:=(yc.mp ei).1
   rw [yk hi] at e'
   cases e'
   obtain ⟨ds0,rfl⟩:=kZ es
   exact relT.ios i ds0 ei
  ·rw [yj hj] at e'
   exact relT.ios j ds'' e'⟩
 refine relB.withRes ?_ hr
 have old:∀ x t,(x,t)∈al σ (env1.set i s') ts→(x,t)=(some (.ref a),s')∨((x,t)∈A∨(x,t)∈B):=fun x t m=>by
  rw [sp2] at m
  rcases x8.mp m with m|m
  ·exact .inr (.inl m)
  ·rcases ye.mp m with m|m
   ·exact .inl m
   ·exact .inr (.inr m)
 have back:∀ x t,(x,t)∈A∨(x,t)∈B→(x,t)∈A++(some (.ref a),s0)::B:=fun x t m=>by
  rcases m with m|m
  ·exact x3 _ m
  ·exact xY _ (x9 _ m)
 have n2:∀ b,(Nw M (al σ (env1.set i s') ts) b∨(b∈bw (some v,r)∧H1 b=none))→Nw M (A++(some (.ref a),s0)::B) b∨H1 b=none:=fun b z=>by
  rw [neq,sp1] at z
  exact z.elim .inl fun z=>.inr z.2
 have pa:∀ b,b=a→(Nw M (al σ (env1.set i s') ts) b∨(b∈bw (some v,r)∧H1 b=none)):=fun b z=>by rw[z,neq];exact .inl ma
 have oa0:bw (some (.ref a),s0)=[a]:=(cX iso).1
 have nd:=hE.nd
 rw [ac,ad,oa0] at nd
 obtain ⟨_,nd2,nd3⟩:=yb.mp nd
 obtain ⟨nd4,_⟩:=yv.mp nd2
 have other:∀ x t b,(x,t)∈A∨(x,t)∈B→b∈bw (x,t)→b≠a:=fun x t b m eo z=>by
  subst z
  rcases m with m|m
  ·exact nd3 b (aG.mpr ⟨_,m,eo⟩) b ya rfl
  ·exact nd4 (aG.mpr ⟨_,m,eo⟩)
 refine hM.getRes relT.e.live rk (fun x d mm=>?_) (fun x t ds' mm eo'=>?_) fun x S d mm=>?_
 rotate_right
 ·rcases old _ _ mm with mm|mm
  ·rcases bJ iso with ⟨_,_,e⟩|⟨_,_,e⟩ <;> (rw[e] at mm;cases mm)
  ·obtain ⟨w,e,dn,_⟩:=hE.tr x S d (back _ _ mm)
   subst e
   exact ⟨w,rfl,dn.past n2 k pa fun b hb z=>other _ _ b mm (by rw[ao];exact hb) z⟩
 ·rcases old _ _ mm with mm|mm
  ·rcases bJ iso with ⟨_,_,e⟩|⟨_,_,e⟩ <;> (rw[e] at mm;cases mm)
  ·obtain ⟨w,e,dn⟩:=hE.fr x d (back _ _ mm)
   exact ⟨w,e,dn.past n2 k pa⟩
 ·rcases old _ _ mm with mm|mm
  ·cases mm
   have el:ds'=l':=Option.some.inj (eo'.symm.trans (eY es).2)
   subst el
   refine ⟨a,us',rfl,hH',ql'.to fun b _ _ z=>?_⟩
   rcases z with z|z
   ·exact .inl (by rw[←neq];exact z)
   ·exact .inr (by rw[cj,ad];exact x3 _ z.1)
  ·cases t with
   | ow l2 =>
    cases eo'
    obtain ⟨b,us2,e,e2',dn,_⟩:=hE.ow x _ (back _ _ mm)
    subst e
    exact ⟨b,us2,rfl,k _ _ (other _ _ b mm (x4.mpr rfl)) e2',dn.past n2 k pa⟩
   | io l2 =>
    cases eo'
    obtain ⟨b,us2,e,e2',dn,_⟩:=hE.io x _ (back _ _ mm)
    subst e
    exact ⟨b,us2,rfl,k _ _ (other _ _ b mm (x4.mpr rfl)) e2',dn.past n2 k pa⟩
   | _=>cases eo'
end
structure i5 where
 nx : List Sl→Prop
 rt : Sl→List Sl→Prop
 bk : List Sl→Prop:=fun _=>False
 ct : List Sl→Prop:=fun _=>False
noncomputable abbrev DS:=i5→List Sl→Prop
noncomputable def m4 (ts:List (V×Sl)):Prop:=∀ v i,(v,Sl.vw i) ∉ ts
structure vj (K:PySem.W.Frag) (M P:Addr→Prop) (H0:Hp) (σ0:St) (ts:List (V×Sl)) (DD:i5) (D:qs):Prop where
 nx : ∀ σ' env' H',DD.nx env'→Rel K M P H0 σ0 σ' env' ts H'→D.nx σ' H'
 rt : ∀ s env' v σ' H',DD.rt s env'→Rel K M P H0 σ0 σ' env' (ts++[(v,s)]) H'→D.rt v H'
 bk : ∀ σ' env' H',DD.bk env'→Rel K M P H0 σ0 σ' env' ts H'→D.bk σ' H'
 ct : ∀ σ' env' H',DD.ct env'→Rel K M P H0 σ0 σ' env' ts H'→D.ct σ' H'
inductive upS (K:PySem.W.Frag) (t:DS) (D:qs) (σ:St) (H:Hp):Prop
 | mk (M P:Addr→Prop) (H0:Hp) (σ0:St) (env:List Sl) (ts:List (V×Sl)) (DD:i5):m4 ts→Rel K M P H0 σ0 σ env ts H→t DD env→vj K M P H0 σ0 ts DD D→upS K t D σ H
theorem PS.imp {X:Cx}{e:Stmt}{t t':TS} (h:PS X e t) (k:∀ D σ H,t' D σ H→t D σ H):PS X e t':=fun pins s σ H D I hw=>h pins s σ H D I (k D σ H hw)
theorem PSs.imp {X:Cx}{e:List Stmt}{t t':TS} (h:PSs X e t) (k:∀ D σ H,t' D σ H→t D σ H):PSs X e t':=fun pins s σ H D I hw=>h pins s σ H D I (k D σ H hw)
section
variable {K:PySem.W.Frag}{M P N:Addr→Prop}{H0 H H':Hp}{σ0 σ:St}{env:List Sl}{ts tt:List (V×Sl)}{v:V}{s:Sl}{d:PyData}
noncomputable def dS (env:List Sl):Sl→Option Sl
 | .fr d=>some (.fr d)
 | .ow ds=>some (.ow ds)
 | .tr S d=>some (.tr S d)
 | .vw i=>((env[i]?).bind slK).map .fr
 | _=>none
theorem Rel.unVw (h:Rel K M P H0 σ0 σ env (ts++[(v,s)]) H) {s':Sl} (e:dS env s=some s'):Rel K M P H0 σ0 σ env (ts++[(v,s')]) H∧eP s'=true:=by
 cases s with
 | fr d=>cases e;exact⟨h,rfl⟩
 | ow ds=>cases e;exact⟨h,rfl⟩
 | tr S d=>cases e;exact⟨h,rfl⟩
 | vw i =>
  have e:((env[i]?).bind slK).map Sl.fr=some s':=e
  cases q:(env[i]?).bind slK with
  | none=>rw[q] at e;cases e
  | some d =>
   rw [q] at e
   cases e
   exact ⟨h.drop.addFr (h.kept (tt:=[(v,.vw i)]) (s:=.vw i) (by simp) q),rfl⟩
 | _=>cases e
theorem i6 {σ:St}{env:List Sl}{i:Nat}{x:Option V}{s':Sl}:(σ.set i x).zip (env.set i s')=(σ.zip env).set i (x,s'):=by
 apply List.ext_getElem?
 intro j
 rw [bZ]
 by_cases hj:i=j
 ·subst hj
  rw [zc,zc,zc,bZ]
  cases σ[i]? <;> cases env[i]? <;> rfl
 ·rw [yj hj,yj hj,yj hj,bZ]
theorem Rel.store (h:Rel K M P H0 σ0 σ env (ts++[(v,s)]) H) (nv:m4 ts) {i:Nat} (hi:i<env.length) (hs:eP s=true):Rel K M P H0 σ0 (σ.set i (some v)) (env.set i s) ts H:=by
 have hiz:i<(σ.zip env).length:=by rw[yM,h.len];omega
 obtain ⟨A,B,q1,q2⟩:=ca (x5 hiz)
 refine ⟨?_,by simp[h.len],fun w j m=>absurd m (nv w j),fun j ds e=>?_⟩
 ·have hE:=h.e
  unfold al at hE ⊢
  rw [q1,ik,yR] at hE
  rw [i6,q2,yR]
  have e2:((σ.zip env)[i]::B)++(tmp ts++tmp [(v,s)])=(σ.zip env)[i]::((B++tmp ts)++[(some v,s)]):=by simp[tmp]
  rw [e2] at hE
  have:=hE.move
  simpa using this
 ·by_cases hj:i=j
  ·subst hj
   rw [yk hi] at e
   cases e
   cases hs
  ·rw [yj hj] at e
   rw [yj hj]
   exact h.ios j ds e
end
section
variable {X:Cx}{K:PySem.W.Frag}{pos:Pos}{st:Stmt}{bR a b:List Stmt}{t u:DS}{e c:Expr}{te:DE}{tc:DT}
noncomputable def sC:DS:=fun DD env=>DD.nx env
noncomputable def u9 (t u:DS):DS:=fun DD env=>t { DD with nx:=u DD } env
noncomputable def xS (t u:DS):DS:=fun DD env=>∃ R:List Sl→Prop,t { DD with nx:=dI R ⟨⟩ } env∧∀ env',R env'→u DD env'
theorem cV:PSs X [] (upS K sC):=qT.imp fun D σ H h=>by
 obtain ⟨M,P,H0,σ0,env,ts,DD,nv,rel,ht,ok⟩:=h
 exact ok.nx _ _ _ ht rel
theorem bM (h1:PS X st (upS K t)) (h2:PSs X bR (upS K u)):PSs X (st::bR) (upS K (u9 t u)):=(ny h1 h2).imp fun D σ H h=>by
 obtain ⟨M,P,H0,σ0,env,ts,DD,nv,rel,ht,ok⟩:=h
 exact ⟨M,P,H0,σ0,env,ts,_,nv,rel,ht,⟨fun σ' env' H' q r=>⟨M,P,H0,σ0,env',ts,DD,nv,r,q,ok⟩,ok.rt,ok.bk,ok.ct⟩⟩
theorem pz (h1:PS X st (upS K t)) (h2:PSs X bR (upS K u)):PSs X (st::bR) (upS K (xS t u)):=(qU h1 h2).imp fun D σ H h=>by
 obtain ⟨M,P,H0,σ0,env,ts,DD,nv,rel,⟨R,ht,hR⟩,ok⟩:=h
 exact ⟨fun σ' H'=>∃ env',R env'∧Rel K M P H0 σ0 σ' env' ts H',⟨M,P,H0,σ0,env,ts,_,nv,rel,ht,⟨fun σ' env' H' q r=>⟨env',q,r⟩,ok.rt,ok.bk,ok.ct⟩⟩,
  fun σ' H' ⟨env',q,r⟩=>⟨M,P,H0,σ0,env',ts,DD,nv,r,hR env' q,ok⟩⟩
theorem az (h1:PS X st (upS K t)):PSs X [st] (upS K t):=ly h1
noncomputable def kt (te:DE):DS:=fun DD env=>te env fun _ env1=>DD.nx env1
theorem jt (he:PE X e (up K te)) (hs:swapsWith e none pos.line X.env=pure false:=by rfl):PS X (.Expr e pos) (upS K (kt te)):=(lz he hs).imp fun D σ H h=>by
 obtain ⟨M,P,H0,σ0,env,ts,DD,nv,rel,ht,ok⟩:=h
 exact ⟨M,P,H0,σ0,env,ts,_,rel,ht,fun s1 env1 v1 H1 h1 rel1=>ok.nx _ _ _ h1 rel1.drop⟩
noncomputable def vb (te:DE):DS:=fun DD env=>te env DD.rt
theorem bP (he:PE X e (up K te)):PS X (.Return (some e) pos) (upS K (vb te)):=(tW he).imp fun D σ H h=>by
 obtain ⟨M,P,H0,σ0,env,ts,DD,nv,rel,ht,ok⟩:=h
 exact ⟨M,P,H0,σ0,env,ts,_,rel,ht,fun s1 env1 v1 H1 h1 rel1=>ok.rt _ _ _ _ _ h1 rel1⟩
noncomputable def vK (c:DT) (t u:DS):DS:=fun DD env=>c env fun k env1=>if k=true then t DD env1 else u DD env1
theorem nu (hc:PT X c (upT K tc)) (ha:PSs X a (upS K t)) (hb:PSs X b (upS K u)):PS X (.If c a b pos) (upS K (vK tc t u)):=(v4 hc ha hb).imp fun D σ H h=>by
 obtain ⟨M,P,H0,σ0,env,ts,DD,nv,rel,ht,ok⟩:=h
 refine ⟨M,P,H0,σ0,env,ts,_,rel,ht,fun k env1 H1 h1 rel1=>?_⟩
 cases k with
 | true=>exact⟨M,P,H0,σ0,env1,ts,DD,nv,rel1,h1,ok⟩
 | false=>exact⟨M,P,H0,σ0,env1,ts,DD,nv,rel1,h1,ok⟩
noncomputable def oJ (i:Nat) (te:DE):DS:=fun DD env=>te env fun s env1=>∃ s',i<env1.length∧dS env1 s=some s'∧DD.nx (env1.set i s')
theorem aW {i:Nat}{x:Str}{pos':Pos} (hN:X.N.Nodup) (hi:X.N[i]? = some x) (hx:Loc X.env.scope x) (he:PE X e (up K te)) (hs:swapsWith e (some (.Name x pos')) pos.line X.env=pure false:=by rfl) (hf:X.fn x=true∨X.env.scope.names.lookup x=some .local:=by first|exact .inl rfl|exact .inr rfl|assumption):PS X (.Assign [.Name x pos'] e pos) (upS K (oJ i te)) :=
 (tV hN hi hx he hs hf).imp fun D σ H h=>by
 obtain ⟨M,P,H0,σ0,env,ts,DD,nv,rel,ht,ok⟩:=h
 refine ⟨M,P,H0,σ0,env,ts,_,rel,ht,fun s1 env1 v1 H1 h1 rel1=>?_⟩
 obtain ⟨s',hl,es,hR⟩:=h1
 obtain ⟨r,cs⟩:=rel1.unVw es
 exact ok.nx _ _ _ hR (r.store nv hl cs)
end
noncomputable abbrev DG:=PyData→List Sl→(List Sl→Prop)→Prop
noncomputable abbrev DGs:=List PyData→List Sl→(List Sl→Prop)→Prop
inductive upG (K:PySem.W.Frag) (g:DG) (v:V) (σ:St) (H:Hp) (Q:St→Hp→Prop):Prop
 | mk (M P:Addr→Prop) (H0:Hp) (σ0:St) (env:List Sl) (ts:List (V×Sl)) (d:PyData) (R:List Sl→Prop):m4 ts→Rel K M P H0 σ0 σ env ts H→DN K (Nw M (al σ env ts)) H v d→g d env R →
 (∀ σ' env' H',R env'→Rel K M P H0 σ0 σ' env' ts H'→Q σ' H')→upG K g v σ H Q
inductive s9 (K:PySem.W.Frag) (g:DGs) (vs:List V) (σ:St) (H:Hp) (Q:St→Hp→Prop):Prop
 | mk (M P:Addr→Prop) (H0:Hp) (σ0:St) (env:List Sl) (ts:List (V×Sl)) (ds:List PyData) (R:List Sl→Prop):m4 ts→Rel K M P H0 σ0 σ env ts H→DNs K (Nw M (al σ env ts)) H vs ds→g ds env R →
 (∀ σ' env' H',R env'→Rel K M P H0 σ0 σ' env' ts H'→Q σ' H')→s9 K g vs σ H Q
theorem PG.imp {X:Cx}{e:Expr}{t t':TG} (h:PG X e t) (k:∀ v σ H Q,t' v σ H Q→t v σ H Q):PG X e t':=fun pins s σ H v u Q I r hw=>h pins s σ H v u Q I r (k v σ H Q hw)
theorem PGs.imp {X:Cx}{e:List Expr}{t t':TGs} (h:PGs X e t) (k:∀ v σ H Q,t' v σ H Q→t v σ H Q):PGs X e t':=fun pins s σ H v u Q I r hw=>h pins s σ H v u Q I r (k v σ H Q hw)
section
variable {K:PySem.W.Frag}{M P N:Addr→Prop}{H0 H H':Hp}{σ0 σ:St}{env:List Sl}{ts tt kp:List (V×Sl)}{v:V}{s:Sl}{d:PyData}{X:Cx}{pos:Pos}{e:Expr}{es:List Expr}
theorem lM (v:V) (d:PyData):oas (tmp [(v,Sl.fr d)])=[]:=by
 show oas [(some v,Sl.fr d)]=[]
 rw [ad]
 cases v <;> rfl
theorem nI {E:List Ent}{v:V}{d:PyData}:Nw M (E++tmp [(v,Sl.fr d)])=Nw M E:=by
 unfold Nw
 rw [ac,lM,yu]
noncomputable def jM (i:Nat):DG:=fun d env R=>i<env.length∧R (env.set i (.fr d))
theorem aw {i:Nat}{x:Str} (hN:X.N.Nodup) (hi:X.N[i]? = some x) (hx:Loc X.env.scope x) (hf:X.fn x=true∨X.env.scope.names.lookup x=some .local:=by first|exact .inl rfl|exact .inr rfl|assumption):PG X (.Name x pos) (upG K (jM i)) :=
 (lE hN hi hx hf).imp fun v σ H Q h=>by
 obtain ⟨M,P,H0,σ0,env,ts,d,R,nv,rel,dn,⟨hl,hR⟩,hq⟩:=h
 exact hq _ _ _ hR ((rel.addFr dn).store nv hl rfl)
noncomputable def sx:DGs:=fun ds env R=>ds=[]∧R env
noncomputable def ml (g:DG) (gs:DGs):DGs:=fun ds env R=>∃ d r,ds=d::r∧g d env fun env1=>gs r env1 R
theorem iD:PGs X [] (s9 K sx):=q9.imp fun v σ H Q h=>by
 obtain ⟨M,P,H0,σ0,env,ts,ds,R,nv,rel,dn,⟨rfl,hR⟩,hq⟩:=h
 cases dn
 exact ⟨rfl,hq _ _ _ hR rel⟩
theorem jB (env:List Sl):∀ ds:List PyData,aN env (ds.map .fr)=some ds
 | []=>rfl
 | d::ds=>by
  show (aE env (Sl.fr d)).bind _=_
  rw [jB env ds]
  rfl
theorem rB (vs:List V) (ds:List PyData) (nv:m4 ts):m4 (ts++vs.zip (ds.map .fr)):=fun w i m=>by
 rcases x8.mp m with m|m
 ·exact nv w i m
 ·obtain ⟨d,_,e⟩:=yr.mp (zn m).2
  cases e
theorem Rel.addFrs:∀ {vs:List V}{ds:List PyData}{ts:List (V×Sl)},Rel K M P H0 σ0 σ env ts H→DNs K (Nw M (al σ env ts)) H vs ds→Rel K M P H0 σ0 σ env (ts++vs.zip (ds.map .fr)) H
 | _,_,ts,rel,.nil=>by simpa using rel
 | _,_,ts,rel,@DNs.cons _ _ _ v vs d ds h q=>by
  have r:=rel.addFr h
  have q':DNs K (Nw M (al σ env (ts++[(v,.fr d)]))) H vs ds:=q.to fun b _ _ z=>by rw[aj,nI] at z;exact z
  have:=Rel.addFrs r q'
  simpa using this
theorem cu {g:DG}{gs:DGs} (h1:PG X e (upG K g)) (h2:PGs X es (s9 K gs)) (hs:(assignEach (e::es) X.env).map (·.2)=assign e X.env::(assignEach es X.env).map (·.2):=by rfl):PGs X (e::es) (s9 K (ml g gs)) :=
 (nz h1 h2 hs).imp fun vs σ H Q h=>by
 obtain ⟨M,P,H0,σ0,env,ts,ds,R,nv,rel,dn,⟨d,r,rfl,hg⟩,hq⟩:=h
 cases dn with
 | @cons v vs _ _ h q =>
  have relA:=rel.addFrs q
  have hN:DN K (Nw M (al σ env (ts++vs.zip (r.map .fr)))) H v d:=h.to fun b _ _ z=>by
   rw [aj] at z
   rcases z with z|z
   ·exact .inl z
   ·rw [ac,d5,yu] at z
    exact .inr z
  refine ⟨v,vs,rfl,M,P,H0,σ0,env,ts++vs.zip (r.map .fr),d,_,rB _ _ nv,relA,hN,hg,fun σ' env' H' hR' rel'=>?_⟩
  exact ⟨M,P,H0,σ0,env',ts,r,R,nv,rel'.drop,rel'.keptAll (by simp[q.len]) (fun p hp=>hp) (jB _ _),hR',hq⟩
noncomputable def sw (n:Nat) (gs:DGs):DG:=fun d env R=>∃ ds,d=.tuple ds∧ds.length=n∧gs ds env R
theorem ln {k:Nat}{gs:DGs}{n:Nat} (hK:X.K=K) (hc:X.calm=true) (h:PGs X es (s9 K gs)) (hn:(assignEach es X.env).length=n:=by rfl) (hst:(assignEach es X.env).findIdx? (·.1)=none:=by rfl):PG X (.Tuple es k pos) (upG K (sw n gs)) :=
 (wo (K:=K) hK hc h hn hst).imp fun v σ H Q h=>by
 obtain ⟨M,P,H0,σ0,env,ts,d,R,nv,rel,dn,⟨ds,rfl,hl,hg⟩,hq⟩:=h
 obtain ⟨a,xs,rfl,sn,q⟩:=dn.tuple
 exact ⟨a,xs,rfl,sn.sq,by rw[q.len];exact hl,M,P,H0,σ0,env,ts,ds,R,nv,rel,q,hg,hq⟩
structure ii (K:PySem.W.Frag) (J:It) (kp:List (V×Sl)) (ds:List PyData):Prop where
 go : ∀ {M P:Addr→Prop}{H0 H:Hp}{σ0 σ:St}{env:List Sl}{ts:List (V×Sl)},Rel K M P H0 σ0 σ env (ts++kp) H→∀ i,i<ds.length→J.go i H
 yld:∀ {M P:Addr→Prop}{H0 H:Hp}{σ0 σ:St}{env:List Sl}{ts:List (V×Sl)},Rel K M P H0 σ0 σ env (ts++kp) H→∀ i x H',(hi:i<ds.length)→J.yld i H x H'→aH H H'∧DN K (Nw M (al σ env (ts++kp))) H' x ds[i]
 stop:∀ {M P:Addr→Prop}{H0 H:Hp}{σ0 σ:St}{env:List Sl}{ts:List (V×Sl)},Rel K M P H0 σ0 σ env (ts++kp) H→J.stop ds.length H
 nv : m4 kp
noncomputable abbrev DI:=List Sl→(List PyData→List Sl→Prop)→Prop
inductive upI (K:PySem.W.Frag) (t:DI) (σ:St) (H:Hp) (R:It→Hp→Prop):Prop
 | mk (M P:Addr→Prop) (H0:Hp) (σ0:St) (env:List Sl) (ts:List (V×Sl)) (RR:List PyData→List Sl→Prop):Rel K M P H0 σ0 σ env ts H→t env RR →
 (∀ ds env' J H' kp,RR ds env'→Rel K M P H0 σ0 σ env' (ts++kp) H'→ii K J kp ds→R J H')→upI K t σ H R
theorem PI.imp {tg iter:Expr}{t t':TI} (h:PI X tg iter t) (k:∀ σ H R,t' σ H R→t σ H R):PI X tg iter t':=fun pins s σ H R I hw=>h pins s σ H R I (k σ H R hw)
theorem bf {b:Bool}{a:Addr}{ds:List PyData} (rel:Rel K M P H0 σ0 σ env ts H) (m:(.ref a,.fr (if b then .tuple ds else .list ds))∈ts):∃ xs,SqB K H b a xs∧DNs K (Nw M (al σ env ts)) H xs ds:=by
 obtain ⟨v,e,dn⟩:=rel.e.fr _ _ (bC m)
 cases e
 cases b with
 | false =>
  obtain ⟨a',xs,e,sn,q⟩:=DN.list dn
  cases e
  exact ⟨xs,sn.sq,q⟩
 | true =>
  obtain ⟨a',xs,e,sn,q⟩:=DN.tuple dn
  cases e
  exact ⟨xs,sn.sq,q⟩
theorem DNs.item {vs:List V}{ds:List PyData} (q:DNs K N H vs ds) {i:Nat} (hi:i<ds.length):∃ x,vs[i]? = some x∧DN K N H x ds[i]:=by
 have hv:i<vs.length:=by rw[q.len];exact hi
 obtain ⟨e,h1,h2⟩:=q.get (x5 hv)
 rw [x5 hi] at h1
 cases h1
 exact ⟨vs[i],x5 hv,h2⟩
theorem rC {v:V}{d:PyData}:m4 [(v,Sl.fr d)]:=fun w i m=>by rw[x4] at m;cases m
theorem lV {a:Addr}{ds:List PyData}:ii K (Itl K a) [(.ref a,.fr (.list ds))] ds where
 go := fun rel i hi=>by
  obtain ⟨xs,s,q⟩:=bf (b:=false) (a:=a) (ds:=ds) rel (xY _ (by simp))
  obtain ⟨x,e,_⟩:=q.item hi
  exact ⟨xs,x,s,e⟩
 yld:=fun rel i x H' hi y=>by
  obtain ⟨xs,s,q⟩:=bf (b:=false) (a:=a) (ds:=ds) rel (xY _ (by simp))
  obtain ⟨e,y⟩:=y
  subst e
  obtain ⟨x',e',dn⟩:=q.item hi
  rw [y xs s] at e'
  cases e'
  exact ⟨aH.refl _,dn⟩
 stop:=fun rel=>by
  obtain ⟨xs,s,q⟩:=bf (b:=false) (a:=a) (ds:=ds) rel (xY _ (by simp))
  exact ⟨xs,s,by rw[q.len];exact yl _⟩
 nv := rC
theorem om {a:Addr}{ds:List PyData}:ii K (Itt K a) [(.ref a,.fr (.tuple ds))] ds where
 go := fun rel i hi=>by
  obtain ⟨xs,s,q⟩:=bf (b:=true) (a:=a) (ds:=ds) rel (xY _ (by simp))
  obtain ⟨x,e,_⟩:=q.item hi
  exact ⟨xs,x,s,e⟩
 yld:=fun rel i x H' hi y=>by
  obtain ⟨xs,s,q⟩:=bf (b:=true) (a:=a) (ds:=ds) rel (xY _ (by simp))
  obtain ⟨e,y⟩:=y
  subst e
  obtain ⟨x',e',dn⟩:=q.item hi
  rw [y xs s] at e'
  cases e'
  exact ⟨aH.refl _,dn⟩
 stop:=fun rel=>by
  obtain ⟨xs,s,q⟩:=bf (b:=true) (a:=a) (ds:=ds) rel (xY _ (by simp))
  exact ⟨xs,s,by rw[q.len];exact yl _⟩
 nv := rC
noncomputable def dm (lo:Int) (n:Nat):List PyData:=(List.range n).map fun (k:Nat)=>PyData.int (lo+k)
theorem am (lo:Int) (n:Nat):(dm lo n).length=n:=by simp[dm]
theorem bc (lo:Int) (n i:Nat) (h:i<(dm lo n).length):(dm lo n)[i]=.int (lo+i):=by simp[dm]
theorem kl {lo:Int}{n:Nat}:ii K (Itr lo n) [] (dm lo n) where
 go := fun rel i hi=>by rw[am] at hi;exact hi
 yld:=fun rel i x H' hi y=>by
  obtain ⟨e,y⟩:=y
  subst e
  rw [bc,y]
  exact ⟨aH.refl _,.int _⟩
 stop:=fun rel=>by rw[am];exact yl _
 nv := fun w i m=>by cases m
noncomputable def gT (ds:List PyData):List PyData:=ds.zipIdx.map fun (p:PyData×Nat)=>PyData.tuple [.int p.2,p.1]
theorem bh (ds:List PyData):(gT ds).length=ds.length:=by simp[gT]
theorem eh (ds:List PyData) (i:Nat) (h:i<(gT ds).length):(gT ds)[i]=.tuple [.int i,ds[i]'(by rw[bh] at h;exact h)]:=by simp[gT]
theorem lW {b:Bool}{a:Addr}{ds:List PyData}:ii K (Ite K b a) [(.ref a,.fr (if b then .tuple ds else .list ds))] (gT ds) where
 go := fun rel i hi=>by
  rw [bh] at hi
  obtain ⟨xs,s,q⟩:=bf (b:=b) (a:=a) (ds:=ds) rel (xY _ (by simp))
  obtain ⟨x,e,_⟩:=q.item hi
  exact ⟨xs,x,s,e⟩
 yld:=fun {M P H0 H σ0 σ env ts} rel i x H' hi y=>by
  rw [eh]
  rw [bh] at hi
  obtain ⟨xs,s,q⟩:=bf (b:=b) (a:=a) (ds:=ds) rel (xY _ (by simp))
  obtain ⟨p,x1,rfl,hp,rfl,y⟩:=y
  obtain ⟨x',e',dn⟩:=q.item hi
  rw [y xs s] at e'
  cases e'
  exact ⟨aH.new hp,DN.of2 (SnT.of aC (rel.newAddr hp)) (.int _) (dn.keep (aI.same (aH.new hp)))⟩
 stop:=fun rel=>by
  obtain ⟨xs,s,q⟩:=bf (b:=b) (a:=a) (ds:=ds) rel (xY _ (by simp))
  exact ⟨xs,s,by rw[q.len,bh]⟩
 nv := rC
noncomputable def wU (ds es:List PyData):List PyData:=List.zipWith (fun d e=>PyData.tuple [d,e]) ds es
end
section
variable {K:PySem.W.Frag}{M P N:Addr→Prop}{H0 H H':Hp}{σ0 σ:St}{env:List Sl}{ts tt kp:List (V×Sl)}{v:V}{s:Sl}{d:PyData}{X:Cx}{pos p:Pos}{e e1 e2 tg iter:Expr}{es:List Expr}{te:DE}{tl:DA}
noncomputable def jO (te:DE):DI:=fun env RR=>te env fun s env1=>∃ ds,aE env1 s=some (.list ds)∧RR ds env1
noncomputable def oN (te:DE):DI:=fun env RR=>te env fun s env1=>∃ ds,aE env1 s=some (.tuple ds)∧RR ds env1
theorem bd (hK:X.K=K) (h:PE X e (up K te)):PI X tg e (upI K (jO te)):=(pE (K:=K) hK h).imp fun σ H R h=>by
 obtain ⟨M,P,H0,σ0,env,ts,RR,rel,ht,hq⟩:=h
 refine ⟨M,P,H0,σ0,env,ts,_,rel,ht,fun s1 env1 v1 H1 h1 rel1=>?_⟩
 obtain ⟨ds,k,hR⟩:=h1
 have dn:=rel1.kept (v:=v1) (s:=s1) (by simp) k
 obtain ⟨a,xs,rfl,sn,q⟩:=dn.list
 exact ⟨a,rfl,⟨xs,sn.sq⟩,hq _ _ _ _ _ hR (rel1.drop.addFr dn) lV⟩
theorem tL (hK:X.K=K) (h:PE X e (up K te)):PI X tg e (upI K (oN te)):=(wn (K:=K) hK h).imp fun σ H R h=>by
 obtain ⟨M,P,H0,σ0,env,ts,RR,rel,ht,hq⟩:=h
 refine ⟨M,P,H0,σ0,env,ts,_,rel,ht,fun s1 env1 v1 H1 h1 rel1=>?_⟩
 obtain ⟨ds,k,hR⟩:=h1
 have dn:=rel1.kept (v:=v1) (s:=s1) (by simp) k
 obtain ⟨a,xs,rfl,sn,q⟩:=dn.tuple
 exact ⟨a,rfl,⟨xs,sn.sq⟩,hq _ _ _ _ _ hR (rel1.drop.addFr dn) om⟩
noncomputable def oK (ta:DA):DI:=fun env RR=>ta env fun ss env1=>∃ s j,ss=[s]∧aF env1 s=some (.int j)∧-4611686018427387904≤j∧j<4611686018427387904∧RR (dm 0 j.toNat) env1
theorem dc (hg:Gl X "range") (hm:X.mg "range" = none) (ha:PA X [e] (upA K tl)) (hs:starEach [e] X.env=[(false,eval e X.env)]:=by rfl):PI X tg (.Call (.Name "range" p) [e] [] pos) (upI K (oK tl)):=(lD hg hm ha hs).imp fun σ H R h=>by
 obtain ⟨M,P,H0,σ0,env,ts,RR,rel,ht,hq⟩:=h
 refine ⟨M,P,H0,σ0,env,ts,_,rel,ht,fun ss env1 vs H1 h1 hl rel1=>?_⟩
 obtain ⟨s,j,rfl,e1,b1,b2,hR⟩:=h1
 obtain ⟨v,rfl⟩:=rE hl
 have w:=(rel1.view (v:=v) (by simp) e1).int
 exact ⟨j,by rw[w],b1,b2,hq _ _ _ _ [] hR (by simpa using rel1.drop) kl⟩
noncomputable def sqD (b:Bool) (ds:List PyData):PyData:=if b then .tuple ds else .list ds
noncomputable def oO (b:Bool) (ta:DA):DI:=fun env RR=>ta env fun ss env1=>∃ s ds,ss=[s]∧aE env1 s=some (sqD b ds)∧RR (gT ds) env1
theorem lm (b:Bool) {es:List Expr}{kk:Nat}{tpos:Pos} (hK:X.K=K) (hg:Gl X "enumerate") (hm:X.mg "enumerate" = none) (ha:PA X [e] (upA K tl)) (hs:starEach [e] X.env=[(false,eval e X.env)]:=by rfl) :
  PI X (.Tuple es kk tpos) (.Call (.Name "enumerate" p) [e] [] pos) (upI K (oO b tl)):=(uv (K:=K) hK b hg hm ha hs).imp fun σ H R h=>by
 obtain ⟨M,P,H0,σ0,env,ts,RR,rel,ht,hq⟩:=h
 refine ⟨M,P,H0,σ0,env,ts,_,rel,ht,fun ss env1 vs H1 h1 hl rel1=>?_⟩
 obtain ⟨s,ds,rfl,k,hR⟩:=h1
 obtain ⟨v,rfl⟩:=rE hl
 have dn:=rel1.kept (v:=v) (s:=s) (by simp) k
 have r2:=rel1.drop.addFr dn
 have hv:∃ a,v=.ref a:=by
  cases b with
  | false=>obtain⟨a,_,e,_⟩:=DN.list dn;exact⟨a,e⟩
  | true=>obtain⟨a,_,e,_⟩:=DN.tuple dn;exact⟨a,e⟩
 obtain ⟨a,rfl⟩:=hv
 obtain ⟨xs,sq,_⟩:=bf (b:=b) (a:=a) (ds:=ds) r2 (xY _ (by simp[sqD]))
 exact ⟨a,xs,rfl,sq,hq _ _ _ _ _ hR r2 lW⟩
noncomputable def xR (b c:Bool) (ta:DA):DI:=fun env RR=>ta env fun ss env1=>∃ s s' ds es,ss=[s,s']∧aE env1 s=some (sqD b ds)∧aE env1 s'=some (sqD c es)∧RR (wU ds es) env1
theorem Rel.dropMid {t:V×Sl} (h:Rel K M P H0 σ0 σ env (ts++kp++[t]) H):Rel K M P H0 σ0 σ env (ts++[t]) H:=by
 refine ⟨?_,h.len,fun w i m=>h.vw w i (by
  rcases x8.mp m with m|m
  ·exact x3 _ (x3 _ m)
  ·exact xY _ m),h.ios⟩
 have hE:=h.e
 rw [aj,aj] at hE
 rw [aj]
 refine hE.sub (fun x s m=>.inl ?_) ?_
 ·rcases x8.mp m with m|m
  ·exact x3 _ (x3 _ m)
  ·exact xY _ m
 ·have nd:=hE.nd
  rw [ac,ac] at nd
  rw [ac]
  obtain ⟨n1,n2,n3⟩:=yb.mp nd
  exact yb.mpr ⟨(yb.mp n1).1,n2,fun x hx y hy=>n3 x (x3 _ hx) y hy⟩
noncomputable def FD (ds:List PyData) (g:DG) (tb:DS):DS:=fun DD env=>∃ W:Nat→List Sl→Prop,W 0 env ∧
 (∀ i env,(h:i<ds.length)→W i env→g ds[i] env fun env2=>tb { DD with nx:=dI (W (i+1)) ⟨⟩,ct:=dI (W (i+1)) ⟨⟩,bk:=DD.nx } env2)∧∀ env,W ds.length env→DD.nx env
noncomputable def vL (it:DI) (g:DG) (tb:DS):DS:=fun DD env=>it env fun ds env1=>FD ds g tb DD env1
theorem gh {body:List Stmt}{it:DI}{g:DG}{tb:DS} (hp:PassesOwn (model X.prog X.w) X.A X.env X.xe) (hc:X.calm=true) (hi:PI X tg iter (upI K it)) (hg:PG X tg (upG K g)) (hb:PSs X body (upS K tb)) (hs:∀ x,foldedSetIterable iter X.env x=pure x:=by intro _;rfl) :
  PS X (.For tg iter body [] pos) (upS K (vL it g tb)):=(pB hp hc hi hg hb hs).imp fun D σ H h=>by
 obtain ⟨M,P,H0,σ0,env,ts,DD,nv,rel,ht,ok⟩:=h
 refine ⟨M,P,H0,σ0,env,ts,_,rel,ht,fun ds env1 J H1 kp hF rel1 io=>?_⟩
 obtain ⟨W,w0,turn,done⟩:=hF
 have nv2:m4 (ts++kp):=fun w i m=>by
  rcases x8.mp m with m|m
  ·exact nv w i m
  ·exact io.nv w i m
 refine ⟨fun i m σ H=>m=ds.length - i∧i≤ds.length∧∃ env,W i env∧Rel K M P H0 σ0 σ env (ts++kp) H,⟨_,rfl,yo _,env1,w0,rel1⟩,?_⟩
 rintro i m σ2 H2 ⟨rfl,hle,env2,w2,rel2⟩
 by_cases hlt:i<ds.length
 ·refine .inr ⟨io.go rel2 i hlt,fun σ' H'=>∃ env',W (i+1) env'∧Rel K M P H0 σ0 σ' env' (ts++kp) H',fun σ' H' ⟨env',w',r'⟩=>⟨ds.length - (i+1),by omega,rfl,hlt,env',w',r'⟩,fun x H3 y=>?_⟩
  obtain ⟨sm,dn⟩:=io.yld rel2 i x H3 hlt y
  have rel3:=rel2.same sm
  refine ⟨M,P,H0,σ0,env2,ts++kp,ds[i],_,nv2,rel3,dn,turn i env2 hlt w2,fun σ' env' H' hR r=>?_⟩
  refine ⟨M,P,H0,σ0,env',ts++kp,_,nv2,r,hR,⟨fun σ' env' H' q r=>⟨env',q,r⟩,fun s env' v σ' H' q r=>ok.rt s env' v σ' H' q r.dropMid,fun σ' env' H' q r=>ok.nx _ _ _ q r.drop,fun σ' env' H' q r=>⟨env',q,r⟩⟩⟩
 ·have e:i=ds.length:=by omega
  subst e
  exact .inl ⟨io.stop rel2,ok.nx _ _ _ (done _ w2) rel2.drop⟩
end
noncomputable def hG:Option Sl→Sl
 | some (.fr d)=>.fr d
 | _=>.un
noncomputable def wO (env:List Sl):Option Nat→Sl
 | none=>.un
 | some j=>hG env[j]?
noncomputable def cQ (ix:List (Option Nat)) (env:List Sl):List Sl:=ix.map (wO env)
theorem du {α β γ:Type}{f:α→β}{g:α→γ}:∀ {l:List α}{x:β}{y:γ},(x,y)∈(l.map f).zip (l.map g)→∃ o∈l,x=f o∧y=g o
 | [],_,_,h=>by simp at h
 | a :: l,x,y,h=>by
  have h:(x,y)∈(f a,g a)::(l.map f).zip (l.map g):=h
  rcases ye.mp h with h|h
  ·cases h;exact⟨a,ya,rfl,rfl⟩
  ·obtain ⟨o,ho,e⟩:=du h
   exact ⟨o,x9 _ ho,e⟩
noncomputable def u7:DT:=fun env R=>R true env
theorem PIf.imp {X:Cx}{ifs:List Expr}{t t':TT} (h:PIf X ifs t) (k:∀ σ H Q,t' σ H Q→t σ H Q):PIf X ifs t':=fun pins s σ H Q I hw=>h pins s σ H Q I (k σ H Q hw)
theorem cK {X:Cx}{K:PySem.W.Frag}:PIf X [] (upT K u7):=qY.imp fun σ H Q h=>by
 obtain ⟨M,P,H0,σ0,env,ts,R,rel,ht,hq⟩:=h
 exact hq _ _ _ ht rel
theorem cJ {X:Cx}{K:PySem.W.Frag}{c:Expr}{t:DT} (h:PT X c (upT K t)):PIf X [c] (upT K t):=qX h
section
variable {K:PySem.W.Frag}{M P N:Addr→Prop}{H0 H H':Hp}{σ0 σ:St}{env:List Sl}{ts tt kp:List (V×Sl)}{v:V}{s:Sl}{d:PyData}
theorem bT {ix:List (Option Nat)}{x:Option V} (rel:Rel K M P H0 σ0 σ env ts H) (m:(x,s)∈(bU σ ix).zip (cQ ix env)):s=.un∨∃ d v,s=.fr d∧x=some v∧DN K (Nw M (al σ env ts)) H v d:=by
 obtain ⟨o,_,e1,e2⟩:=du m
 cases o with
 | none=>exact .inl e2
 | some j =>
  have e2:s=hG env[j]?:=e2
  cases q:env[j]? with
  | none=>rw[q] at e2;exact .inl e2
  | some s' =>
   rw [q] at e2
   cases s' with
   | fr d =>
    obtain ⟨x',e3,m3⟩:=rel.slot q
    obtain ⟨v,e4,dn⟩:=rel.e.fr _ _ m3
    refine .inr ⟨d,v,e2,?_,dn⟩
    rw [e1]
    show (σ[j]?).join=_
    rw [e3,e4]
    rfl
   | _=>exact .inl e2
theorem fP {ix:List (Option Nat)} (rel:Rel K M P H0 σ0 σ env ts H):oas ((bU σ ix).zip (cQ ix env))=[]:=by
 unfold oas
 rw [List.flatMap_eq_nil_iff]
 rintro ⟨x,s⟩ m
 rcases bT rel m with e|⟨d,v,e,e2,_⟩
 ·subst e
  exact cL _
 ·subst e e2
  exact bS _ _
theorem iU {ix:List (Option Nat)} (rel:Rel K M P H0 σ0 σ env ts H):Rel K (Nw M (al σ env ts)) (fun _=>False) H (bU σ ix) (bU σ ix) (cQ ix env) [] H:=by
 have oe:=fP (ix:=ix) rel
 have ee:al (bU σ ix) (cQ ix env) []=(bU σ ix).zip (cQ ix env):=by simp[al,tmp]
 refine ⟨⟨aI.refl,fun a q=>q,fun a z hn=>rel.newAddr hn z,fun a z=>z.elim,fun x d m=>?_,fun x l m=>?_,fun x l m=>?_,fun x S l m=>?_,by rw[ee,oe];exact y7⟩,by simp[bU,cQ],fun w i m=>(by cases m),fun i l e=>rfl⟩
 rotate_right
 ·rw [ee] at m
  rcases bT rel m with e|⟨d',v,e,e2,dn⟩ <;> cases e
 ·rw [ee] at m
  rcases bT rel m with e|⟨d',v,e,e2,dn⟩
  ·cases e
  ·cases e
   refine ⟨v,e2,dn.to fun b _ _ z=>?_⟩
   rcases z with z|z
   ·exact z
   ·rw [ee,oe] at z;cases z
 ·rw [ee] at m
  rcases bT rel m with e|⟨d',v,e,e2,dn⟩ <;> cases e
 ·rw [ee] at m
  rcases bT rel m with e|⟨d',v,e,e2,dn⟩ <;> cases e
theorem oV {ix:List (Option Nat)}{k j:Nat}{s0:Sl}{l:List PyData} (rel:Rel K M P H0 σ0 σ env ts H) (hk:ix[k]? = some (some j)) (ej:env[j]? = some s0) (eo:dH s0=some l) {a:Addr} (ea:σ[j]? = some (some (.ref a))) :
  Rel K (Nw M (al σ env ts)) (fun b=>b=a) H (bU σ ix) (bU σ ix) ((cQ ix env).set k (.io l)) [] H:=by
 have oe:=fP (ix:=ix) rel
 have r0:=iU (ix:=ix) rel
 have hkl:k<ix.length:=(yc.mp hk).1
 have ek:(cQ ix env)[k]? = some .un:=by
  unfold cQ
  rw [yA,hk]
  show some (hG env[j]?)=_
  rw [ej]
  cases s0 <;> first|rfl|cases eo
 have es:(bU σ ix)[k]? = some (some (.ref a)):=by
  unfold bU
  rw [yA,hk]
  show some ((σ[j]?).join)=_
  rw [ea];rfl
 obtain ⟨x,A,B,e1,q1,q2⟩:=r0.split ek
 rw [es] at e1
 cases e1
 have ee:al (bU σ ix) (cQ ix env) []=(bU σ ix).zip (cQ ix env):=by simp[al,tmp]
 have oAB:oas A=[]∧oas B=[]:=by
  rw [←ee,q1,ac,ad] at oe
  have oe:oas A++oas B=[]:=oe
  exact List.append_eq_nil_iff.mp oe
 obtain ⟨a',us,ea',hH,ql⟩:=rel.mine ej eo
 rw [ea] at ea'
 cases ea'
 have ma:Nw M (al σ env ts) a:=by
  obtain ⟨x,e1,mm⟩:=rel.slot ej
  rw [ea] at e1
  cases e1
  refine .inr (aG.mpr ⟨_,mm,?_⟩)
  exact (ju eo).2 a
 have oe2:oas (A++(some (.ref a),Sl.io l)::B)=[a]:=by
  rw [ac,ad,oAB.1,oAB.2]
  rfl
 have ne:∀ b,Nw (Nw M (al σ env ts)) (A++(some (.ref a),Sl.io l)::B) b→Nw M (al σ env ts) b:=fun b z=>by
  rcases z with z|z
  ·exact z
  ·rw [oe2,x4] at z;rw[z];exact ma
 have old:∀ x t,(x,t)∈A++(some (.ref a),Sl.io l)::B→(x,t)=(some (.ref a),Sl.io l)∨(x,t)∈(bU σ ix).zip (cQ ix env):=fun x t m=>by
  rw [←ee,q1]
  rcases x8.mp m with m|m
  ·exact .inr (x3 _ m)
  ·rcases ye.mp m with m|m
   ·exact .inl m
   ·exact .inr (xY _ (x9 _ m))
 refine ⟨⟨aI.refl,fun a q=>q,fun a z hn=>rel.newAddr hn z,fun b z=>by rw[z];exact ma,fun x d m=>?_,fun x l' m=>?_,fun x l' m=>?_,fun x S l' m=>?_,by rw[q2,oe2];simp⟩,by simp[bU,cQ],fun w i m=>(by cases m),fun i l' e=>rfl⟩
 rotate_right
 ·rw [q2] at m
  rcases old _ _ m with m|m
  ·cases m
  ·rcases bT rel m with e|⟨d',v,e,e2,dn⟩ <;> cases e
 ·rw [q2] at m ⊢
  rcases old _ _ m with m|m
  ·cases m
  ·rcases bT rel m with e|⟨d',v,e,e2,dn⟩
   ·cases e
   ·cases e
    exact ⟨v,e2,dn.to fun b _ _ z=>ne b z⟩
 ·rw [q2] at m
  rcases old _ _ m with m|m
  ·cases m
  ·rcases bT rel m with e|⟨d',v,e,e2,dn⟩ <;> cases e
 ·rw [q2] at m ⊢
  rcases old _ _ m with m|m
  ·cases m
   exact ⟨a,us,rfl,hH,ql.to fun b _ _ z=>ne b z,rfl⟩
  ·rcases bT rel m with e|⟨d',v,e,e2,dn⟩ <;> cases e
end
noncomputable def CD (ds:List PyData) (ix:List (Option Nat)) (g:DG) (tt:DT) (te:DE) (env:List Sl) (R:Sl→List Sl→Prop):Prop:=∃ W:Nat→List PyData→Prop,W 0 [] ∧
 (∀ i rs,(h:i<ds.length)→W i rs→rs.length<sizeLine∧g ds[i] (cQ ix env) fun b1=>tt b1 fun k b2=>if k=true then te b2 fun s b3=>∃ d,aE b3 s=some d∧W (i+1) (rs++[d]) else W (i+1) rs)∧∀ rs,W ds.length rs→R (.ow rs) env
noncomputable def ku (it:DI) (ix:List (Option Nat)) (g:DG) (tt:DT) (te:DE):DE:=fun env R=>it env fun ds env1=>CD ds ix g tt te env1 (dK R ⟨⟩)
noncomputable def CD1 (k j:Nat) (ds:List PyData) (ix:List (Option Nat)) (g:DG) (tt:DT) (te:DE) (env:List Sl) (R:Sl→List Sl→Prop):Prop:=∃ W:Nat→List PyData→List PyData→Prop,∃ s0 l0,env[j]? = some s0∧dH s0=some l0∧W 0 [] l0 ∧
 (∀ i rs l,(h:i<ds.length)→W i rs l→rs.length<sizeLine∧∃ s,bG s0 l=some s∧g ds[i] ((cQ ix (env.set j s)).set k (.io l)) fun b1=>tt b1 fun kk b2=>if kk=true then te b2 fun s b3=>∃ d l',aE b3 s=some d∧b3[k]? = some (.io l')∧W (i+1) (rs++[d]) l' else ∃ l',b2[k]? = some (.io l')∧W (i+1) rs l') ∧
 ∀ rs l,W ds.length rs l→∃ s,bG s0 l=some s∧R (.ow rs) (env.set j s)
noncomputable def jQ (k j:Nat) (it:DI) (ix:List (Option Nat)) (g:DG) (tt:DT) (te:DE):DE:=fun env R=>it env fun ds env1=>CD1 k j ds ix g tt te env1 (dK R ⟨⟩)
section
variable {K:PySem.W.Frag}
theorem mD {it:DI}{ix:List (Option Nat)}{g:DG}{tt:DT}{te:DE}:∀ σ H Q,up K (ku it ix g tt te) σ H Q→kO (upI K it) ix (upG K g) (upT K tt) (up K te) σ H Q:=fun σ H Q h=>by
 obtain ⟨M,P,H0,σ0,env,ts,R,rel,ht,hq⟩:=h
 refine ⟨M,P,H0,σ0,env,ts,_,rel,ht,fun ds env1 J H1 kp hF rel1 io=>?_⟩
 obtain ⟨W,w0,turn,done⟩:=hF
 refine ⟨fun i m ys H=>m=ds.length - i∧i≤ds.length∧∃ rs,W i rs∧DNs K (Nw M (al σ env1 (ts++kp))) H ys rs∧Rel K M P H0 σ0 σ env1 (ts++kp) H,⟨_,rfl,yo _,[],w0,.nil,rel1⟩,?_⟩
 rintro i m ys H2 ⟨rfl,hle,rs,w2,dns,rel2⟩
 by_cases hlt:i<ds.length
 ·obtain ⟨hz,tr⟩:=turn i rs hlt w2
  refine .inr ⟨io.go rel2 i hlt,by rw[dns.len];exact hz,fun ys' H'=>∃ rs',W (i+1) rs'∧DNs K (Nw M (al σ env1 (ts++kp))) H' ys' rs'∧Rel K M P H0 σ0 σ env1 (ts++kp) H',fun ys' H' ⟨rs',a,b,c⟩=>⟨ds.length - (i+1),by omega,rfl,hlt,rs',a,b,c⟩,fun x H3 y=>?_⟩
  obtain ⟨sm,dn⟩:=io.yld rel2 i x H3 hlt y
  have rel3:=rel2.same sm
  have rb:=iU (ix:=ix) rel3
  have oe:=fP (ix:=ix) rel3
  have nb:∀ b,Nw (Nw M (al σ env1 (ts++kp))) (al (bU σ ix) (cQ ix env1) []) b→Nw M (al σ env1 (ts++kp)) b:=fun b z=>by
   rcases z with z|z
   ·exact z
   ·have ee:al (bU σ ix) (cQ ix env1) []=(bU σ ix).zip (cQ ix env1):=by simp[al,tmp]
    rw [ee,oe] at z;cases z
  refine ⟨_,_,_,_,cQ ix env1,[],ds[i],_,fun w i m=>(by cases m),rb,dn.to fun b _ _ z=>nb b z,tr,fun σ2 b1 H4 h4 rel4=>?_⟩
  refine ⟨_,_,_,_,b1,[],_,rel4,h4,fun kk b2 H5 h5 rel5=>?_⟩
  cases kk with
  | false =>
   have k5:aH H3 H5:=(rel5.e.keep.mono (M:=N0) fun b z=>z).none
   exact ⟨rs,h5,dns.keep (aI.same (sm.trans k5)),rel3.same k5⟩
  | true =>
   refine ⟨_,_,_,_,b2,[],_,rel5,h5,fun s b3 v H6 h6 rel6=>?_⟩
   obtain ⟨d,kd,w6⟩:=h6
   have k6:aH H3 H6:=(rel6.e.keep.mono (M:=N0) fun b z=>z).none
   have dn6:=rel6.kept (ts:=[]) (tt:=[]++[(v,s)]) (v:=v) (s:=s) (by simp) kd
   exact ⟨rs++[d],w6,(dns.keep (aI.same (sm.trans k6))).app (.cons (dn6.to fun b _ _ z=>.inl z) .nil),rel3.same k6⟩
 ·have e:i=ds.length:=by omega
  subst e
  exact .inl ⟨io.stop rel2,fun p hp=>hq _ _ _ _ (done _ w2) (rel2.resOw hp dns)⟩
theorem oU {k j:Nat}{it:DI}{ix:List (Option Nat)}{g:DG}{tt:DT}{te:DE} (hk:ix[k]? = some (some j)):∀ σ H Q,up K (jQ k j it ix g tt te) σ H Q→kO (upI K it) ix (upG K g) (upT K tt) (up K te) σ H Q:=fun σ H Q h=>by
 obtain ⟨M,P,H0,σ0,env,ts,R,rel,ht,hq⟩:=h
 refine ⟨M,P,H0,σ0,env,ts,_,rel,ht,fun ds env1 J H1 kp hF rel1 io=>?_⟩
 obtain ⟨W,s0,l0,ej,eo,w0,turn,done⟩:=hF
 have hjl:j<env1.length:=(yc.mp ej).1
 have set0:bG s0 l0=some s0:=(ju eo).1
 have env0:env1.set j s0=env1:=by
  rw [←(yc.mp ej).2]
  exact List.set_getElem_self hjl
 obtain ⟨a,us0,ea,_,_⟩:=rel1.mine ej eo
 have neq:∀ {ls:List PyData}{s:Sl},bG s0 ls=some s→Nw M (al σ (env1.set j s) (ts++kp))=Nw M (al σ env1 (ts++kp)):=fun {ls s} es=>by
  obtain ⟨x,A,B,e3,sp1,sp2⟩:=rel1.split ej
  rw [ea] at e3
  cases e3
  rw [sp1,sp2]
  have oa:bw (some (.ref a),s0)=[a]∧bw (some (.ref a),s)=[a]:=by
   exact cX (eY es).1
  unfold Nw
  rw [ac,ac,ad,ad,oa.1,oa.2]
 refine ⟨fun i m ys H=>m=ds.length - i∧i≤ds.length∧∃ rs l s,bG s0 l=some s∧W i rs l∧DNs K (Nw M (al σ env1 (ts++kp))) H ys rs∧Rel K M P H0 σ0 σ (env1.set j s) (ts++kp) H,⟨_,rfl,yo _,[],l0,s0,set0,w0,.nil,by rw[env0];exact rel1⟩,?_⟩
 rintro i m ys H2 ⟨rfl,hle,rs,l,s,es,w2,dns,rel2⟩
 by_cases hlt:i<ds.length
 ·obtain ⟨hz,s',es',tr⟩:=turn i rs l hlt w2
  rw [es] at es'
  cases es'
  have eos:dH s=some l:=(eY es).2
  have ejs:(env1.set j s)[j]? = some s:=yk hjl
  refine .inr ⟨io.go rel2 i hlt,by rw[dns.len];exact hz,fun ys' H'=>∃ rs' l' s',bG s0 l'=some s'∧W (i+1) rs' l'∧DNs K (Nw M (al σ env1 (ts++kp))) H' ys' rs'∧Rel K M P H0 σ0 σ (env1.set j s') (ts++kp) H',
   fun ys' H' ⟨rs',l',s',z,a,b,c⟩=>⟨ds.length - (i+1),by omega,rfl,hlt,rs',l',s',z,a,b,c⟩,fun x H3 y=>?_⟩
  obtain ⟨sm,dn⟩:=io.yld rel2 i x H3 hlt y
  have rel3:=rel2.same sm
  have rb:=oV (ix:=ix) rel3 hk ejs eos ea
  have ma:Nw M (al σ (env1.set j s) (ts++kp)) a:=by
   obtain ⟨x,e1,mm⟩:=rel3.slot ejs
   rw [ea] at e1
   cases e1
   refine .inr (aG.mpr ⟨_,mm,?_⟩)
   exact (ju eos).2 a
  have nb:∀ b,Nw (Nw M (al σ (env1.set j s) (ts++kp))) (al (bU σ ix) ((cQ ix (env1.set j s)).set k (.io l)) []) b→Nw M (al σ (env1.set j s) (ts++kp)) b:=fun b z=>by
   rcases z with z|z
   ·exact z
   ·obtain ⟨_,_,hP⟩:=rb.e.own z
    rcases hP with q|q
    ·obtain ⟨vs,q2,_⟩:=rb.e.own z
     rw [q] at q2;cases q2
    ·rw [q];exact ma
  have after:∀ {σ2:St}{b3:List Sl}{t3:List (V×Sl)}{H6:Hp}{l':List PyData},Rel K (Nw M (al σ (env1.set j s) (ts++kp))) (fun b=>b=a) H3 (bU σ ix) σ2 b3 t3 H6→b3[k]? = some (.io l') →
    ∃ s',bG s0 l'=some s'∧Rel K M P H0 σ0 σ (env1.set j s') (ts++kp) H6∧∀ {ys:List V}{rs:List PyData},DNs K (Nw M (al σ env1 (ts++kp))) H3 ys rs→DNs K (Nw M (al σ env1 (ts++kp))) H6 ys rs:=fun {σ2 b3 t3 H6 l'} r6 e6=>by
   obtain ⟨x6,e7,m7⟩:=r6.slot e6
   have e8:=r6.ios _ _ e6
   have ecap:(bU σ ix)[k]? = some (some (.ref a)):=by
    unfold bU
    rw [yA,hk]
    show some ((σ[j]?).join)=_
    rw [ea];rfl
   rw [e7,ecap] at e8
   cases e8
   obtain ⟨a',us',z,hH',ql',_⟩:=r6.e.io _ _ m7
   cases z
   obtain ⟨x,A,B,e3,sp1,sp2⟩:=rel3.split ejs
   rw [ea] at e3
   cases e3
   have hs':∃ s',bG s0 l'=some s'∧rS s l' s':=by
    obtain ⟨d0,rfl⟩|⟨d0,rfl⟩:(∃ d0,s0=.ow d0)∨∃ d0,s0=.io d0:=(bJ (eY es).1).imp (fun ⟨d,e,_⟩=>⟨d,e⟩) fun ⟨d,e,_⟩=>⟨d,e⟩
    ·cases es;exact⟨_,rfl,rfl⟩
    ·cases es;exact⟨_,rfl,rfl⟩
   obtain ⟨s',es',iso⟩:=hs'
   have hE:=rel3.e
   rw [sp1] at hE
   have dnl:DNs K (Nw M (A++(some (.ref a),s)::B)) H6 us' l':=ql'.to fun b _ _ z=>.inl (by rw[sp1];exact z)
   have hM:=hE.muted iso r6.e.keep r6.e.live hH' dnl
   rw [←sp2] at hM
   have e9:(env1.set j s).set j s'=env1.set j s':=List.set_set ..
   refine ⟨s',es',⟨by rw[←e9];exact hM,by simp[rel1.len],rel3.vw,fun q l2 e'=>?_⟩,fun {ys rs} q=>q.keep (r6.e.keep.mono fun b z=>?_)⟩
   ·by_cases hj:j=q
    ·subst hj
     rw [yk hjl] at e'
     cases e'
     obtain ⟨ds0,rfl⟩:=kZ es'
     exact rel1.ios _ ds0 ej
    ·rw [yj hj] at e'
     exact rel1.ios q l2 e'
   ·rw [z,←neq es];exact ma
  have dn3:=dns.keep (aI.same sm)
  refine ⟨_,_,_,_,_,[],ds[i],_,fun w i m=>(by cases m),rb,dn.to fun b _ _ z=>nb b z,tr,fun σ2 b1 H4 h4 rel4=>?_⟩
  refine ⟨_,_,_,_,b1,[],_,rel4,h4,fun kk b2 H5 h5 rel5=>?_⟩
  cases kk with
  | false =>
   obtain ⟨l',e5,w5⟩:=h5
   obtain ⟨s',es',r',kd⟩:=after rel5 e5
   exact ⟨rs,l',s',es',w5,kd dn3,r'⟩
  | true =>
   refine ⟨_,_,_,_,b2,[],_,rel5,h5,fun s6 b3 v H6 h6 rel6=>?_⟩
   obtain ⟨d,l',kdd,e6,w6⟩:=h6
   obtain ⟨s',es',r',kd⟩:=after rel6 e6
   have dn6:=rel6.kept (ts:=[]) (tt:=[]++[(v,s6)]) (v:=v) (s:=s6) (by simp) kdd
   exact ⟨rs++[d],l',s',es',w6,(kd dn3).app (.cons (dn6.to fun b _ _ z=>.inl (by rw[neq es];exact z)) .nil),r'⟩
 ·have e:i=ds.length:=by omega
  subst e
  refine .inl ⟨io.stop rel2,fun p hp=>?_⟩
  obtain ⟨s',es',hR⟩:=done _ _ w2
  rw [es] at es'
  cases es'
  exact hq _ _ _ _ hR (rel2.resOw hp (by rw[neq es];exact dns))
end
section
variable {K:PySem.W.Frag}{X:Cx}{N':List Str}{ix:List (Option Nat)}{sc:Scope}{tg iter elt:Expr}{ifs:List Expr}{pos:Pos}{it:DI}{g:DG}{tt:DT}{te:DE}
theorem dq (hc:X.calm=true) (S:bi X.N X.env N' ix sc) (hi:PI X tg iter (upI K it))
  (hg:∀ s H C fp,PG (bCx X N' sc s H C fp) tg (upG K g)) (ht:∀ s H C fp,PIf (bCx X N' sc s H C fp) ifs (upT K tt)) (he:∀ s H C fp,PE (bCx X N' sc s H C fp) elt (up K te))
  (hs:∀ x,foldedSetIterable iter X.env x=pure x:=by intro _;rfl):PE X (.ListComp elt [⟨tg,iter,ifs,0⟩] sc pos) (up K (ku it ix g tt te)):=(rf hc S hi hg ht he hs).imp mD
theorem kY {i:Nat}{t:TE}{td:DE} (h:∀ σ H Q,up K td σ H Q→t σ H Q):∀ D σ H,upS K (oJ i td) D σ H→vq t (lZ i) D σ H:=fun D σ H hh=>by
 obtain ⟨M,P,H0,σ0,env,ts,DD,nv,rel,ht,ok⟩:=hh
 refine h _ _ _ ⟨M,P,H0,σ0,env,ts,_,rel,ht,fun s1 env1 v1 H1 h1 rel1=>?_⟩
 obtain ⟨s',hl,es,hR⟩:=h1
 obtain ⟨r,cs⟩:=rel1.unVw es
 exact ok.nx _ _ _ hR (r.store nv hl cs)
theorem dY {i:Nat}{y:Str}{spos py:Pos} (hN:X.N.Nodup) (hi':X.N[i]? = some y) (hy:X.env.scope.names.lookup y=some .local) (hc:X.calm=true) (S:bi X.N X.env N' ix sc) (hi:PI X tg iter (upI K it))
  (hg:∀ s H C fp,PG (bCx X N' sc s H C fp) tg (upG K g)) (ht:∀ s H C fp,PIf (bCx X N' sc s H C fp) ifs (upT K tt)) (he:∀ s H C fp,PE (bCx X N' sc s H C fp) elt (up K te))
  (hsw:swapsWith (.ListComp elt [⟨tg,iter,ifs,0⟩] sc pos) (some (.Name y py)) spos.line X.env=pure true:=by rfl)
  (hs:∀ x,foldedSetIterable iter X.env x=pure x:=by intro _;rfl):PS X (.Assign [.Name y py] (.ListComp elt [⟨tg,iter,ifs,0⟩] sc pos) spos) (upS K (oJ i (ku it ix g tt te))):=(de hN hi' hy hc S hi hg ht he hsw hs).imp (kY mD)
theorem fe {i:Nat}{y:Str}{spos py:Pos} (k j:Nat) (hk:ix[k]? = some (some j)) (hN:X.N.Nodup) (hi':X.N[i]? = some y) (hy:X.env.scope.names.lookup y=some .local) (hc:X.calm=true) (S:bi X.N X.env N' ix sc) (hi:PI X tg iter (upI K it))
  (hg:∀ s H C fp,PG (bCx X N' sc s H C fp) tg (upG K g)) (ht:∀ s H C fp,PIf (bCx X N' sc s H C fp) ifs (upT K tt)) (he:∀ s H C fp,PE (bCx X N' sc s H C fp) elt (up K te))
  (hsw:swapsWith (.ListComp elt [⟨tg,iter,ifs,0⟩] sc pos) (some (.Name y py)) spos.line X.env=pure true:=by rfl)
  (hs:∀ x,foldedSetIterable iter X.env x=pure x:=by intro _;rfl):PS X (.Assign [.Name y py] (.ListComp elt [⟨tg,iter,ifs,0⟩] sc pos) spos) (upS K (oJ i (jQ k j it ix g tt te))):=(de hN hi' hy hc S hi hg ht he hsw hs).imp (kY (oU hk))
end
noncomputable def qx:PyData→Option Bool
 | .none=>some false
 | .bool b=>some b
 | .int i=>some (i != 0)
 | .list ds=>some (!ds.isEmpty)
 | .tuple ds=>some (!ds.isEmpty)
 | _=>none
section
variable {K:PySem.W.Frag}{M P N:Addr→Prop}{H0 H H':Hp}{E A B:List Ent}{σ0 σ:St}{env:List Sl}{ts tt kp:List (V×Sl)}{v:V}{s:Sl}{d:PyData}{X:Cx}{pos p:Pos}{e e1 e2 a:Expr}{es:List Expr}{te tj:DE}{tl:DA}
noncomputable def u8 (te:DE):DT:=fun env R=>te env fun s env1=>∃ d k,aF env1 s=some d∧qx d=some k∧R k env1
noncomputable def fF:PyData→String
 | .none => "NoneType"
 | .bool _ => "bool"
 | .int _ => "int"
 | .str _ => "str"
 | .list _ => "list"
 | .tuple _ => "tuple"
 | .dict _ => "dict"
inductive ig (K:PySem.W.Frag) (H:Hp):V→String→Prop
 | non:ig K H .non "NoneType"
 | bl (b:Bool):ig K H (.bl b) "bool"
 | int (b:Int):ig K H (.int b) "int"
 | str (b:Str):ig K H (.str b) "str"
 | lst {a:Addr}{xs:List V}:SqL K H a xs→ig K H (.ref a) "list"
 | tup {a:Addr}{xs:List V}:SqT K H a xs→ig K H (.ref a) "tuple"
theorem oW (hK:X.K=K):c7 X (.builtin "isinstance") (fun xs H Q=>∃ (x:V) (t n:String) (b:Bool),xs=[x,.ty n]∧ig K H x t∧PySem.W.kitOne K (.type t) (.type n)=some b∧Q (.bl b) H):=by
 subst hK
 intro pins s σ H xs us Q I r h
 obtain ⟨x,t,n,b,rfl,ty,e,q⟩:=h
 obtain ⟨u,w',rfl,ru,rw'⟩:=m6 r
 cases (show w'=Value.type n from rw')
 have fin:∀ tk,EP X pins σ Q (.bool b) { s with toks:=tk }:=fun tk=>⟨.bl b,H,I.tok tk,rfl,q⟩
 cases ty with
 | non=>cases (show u=Value.none from ru);exact PySem.W.kia_one PySem.W.kitx_none I.kIn True.intro e (fun z=>nomatch z) fin
 | bl y=>cases (show u=Value.bool y from ru);exact PySem.W.kia_one PySem.W.kitx_bool I.kIn True.intro e (fun z=>nomatch z) fin
 | int i=>obtain⟨t,q⟩:=(show ∃ t,u=Value.int i t from ru);cases q;exact PySem.W.kia_one PySem.W.kitx_int I.kIn True.intro e (fun z=>nomatch z) fin
 | str y=>obtain⟨t,q⟩:=(show ∃ t,u=Value.str y t from ru);cases q;exact PySem.W.kia_one PySem.W.kitx_str I.kIn True.intro e (fun z=>nomatch z) fin
 | @lst a xs hs =>
  cases (show u=Value.ref a from ru)
  obtain ⟨its,_,⟨o,n',h1,h2,_,_⟩,_⟩:=I.list hs
  exact PySem.W.kia_one PySem.W.kitx_list I.kIn ⟨o,h1,h2⟩ e (fun z=>nomatch z) fin
 | @tup a xs hs =>
  cases (show u=Value.ref a from ru)
  obtain ⟨its,_,⟨o,h1,h2,_⟩,_⟩:=I.tuple hs
  exact PySem.W.kia_one PySem.W.kitx_tuple I.kIn ⟨o,h1,h2⟩ e (fun z=>nomatch z) fin
noncomputable def isK (n:String) (d:PyData):Bool:=(fF d==n) || (n == "int" && fF d == "bool")
theorem rM (d:PyData):PySem.W.kitOne K (.type (fF d)) (.type "int")=some (isK "int" d):=by cases d <;> rfl
theorem jz (d:PyData):PySem.W.kitOne K (.type (fF d)) (.type "bool")=some (isK "bool" d):=by cases d <;> rfl
theorem jy (d:PyData):PySem.W.kitOne K (.type (fF d)) (.type "list")=some (isK "list" d):=by cases d <;> rfl
theorem gz (d:PyData):PySem.W.kitOne K (.type (fF d)) (.type "tuple")=some (isK "tuple" d):=by cases d <;> rfl
theorem Vw.kind (w:Vw K N H v d) (hd:∀ kvs,d≠.dict kvs):ig K H v (fF d):=by
 cases d with
 | none=>rw[w.none];exact .non
 | bool b=>rw[w.bool];exact .bl b
 | int b=>rw[w.int];exact .int b
 | str b=>cases w with|dn h=>cases h
 | list ds=>obtain⟨a,vs,rfl,s,q⟩:=w.list;exact .lst s
 | tuple ds=>obtain⟨a,vs,rfl,s,q⟩:=w.tuple;exact .tup s
 | dict kvs=>exact absurd rfl (hd kvs)
noncomputable def rA:PyData→Bool
 | .dict _=>false
 | _=>true
theorem rA.no {d:PyData} (h:rA d=true):∀ kvs,d≠.dict kvs:=fun kvs e=>by subst e;cases h
noncomputable def dIs (n:String) (te:DE):DE:=fun env R=>te env fun s env1=>∃ d,aF env1 s=some d∧rA d=true∧R (.fr (.bool (isK n d))) env1
theorem iE {n:Str}{T:String}{np:Pos} (hK:X.K=K) (kit:∀ d,PySem.W.kitOne K (.type (fF d)) (.type T)=some (isK T d)) (hg:Gl X "isinstance") (hm:X.mg "isinstance" = none) (hgn:Gl X n) (hmn:X.mg n=none) (hbn:bootBuiltins n=some (.type T)) (ha:PE X a (up K te))
  (he:starEach [a,.Name n np] X.env=(false,eval a X.env)::starEach [.Name n np] X.env:=by rfl) (he2:starEach [.Name n np] X.env=(false,eval (.Name n np) X.env)::starEach [] X.env:=by rfl)
  (hnn:n ≠ "__name__" := by decide) (hnd:(n==("__debug__" : Str))=false:=by decide) (hpl:(backTo pos (starEach [.Name n np] X.env)).any (·.1)=false:=by rfl) :
  PE X (.Call (.Name "isinstance" p) [a,.Name n np] [] pos) (up K (dIs T te)) :=
 (fw (oW hK) hg hm PyProof.Rows.boot_isinstance (df ha (df (rm (v:=.ty T) hgn hmn hbn rfl hnn hnd) gl he2) he) (by decide) (by decide) he hpl).imp fun σ H Q h=>by
 obtain ⟨M,P,H0,σ0,env,ts,R,rel,ht,hq⟩:=h
 refine ⟨M,P,H0,σ0,env,ts,_,rel,ht,fun s1 env1 v1 H1 h1 rel1=>?_⟩
 obtain ⟨d,e1,nd,hR⟩:=h1
 have w:=rel1.view (v:=v1) (by simp) e1
 exact ⟨v1,fF d,T,isK T d,rfl,w.kind (rA.no nd),kit d,hq _ _ _ _ hR (rel1.drop.addFr (.bl _))⟩
noncomputable def mv (i:Nat) (tj te:DE):DS:=fun DD env=>te env fun s env1=>(∃ ds,(env1[i]?).bind dH=some ds)∧tj env1 fun sj env2=>∃ d s0 ds z j s',aE env2 s=some d∧aF env2 sj=some (.int z)∧env2[i]? = some s0∧dH s0=some ds∧ixN ds.length z=some j ∧
 bG s0 (ds.set j d)=some s'∧DD.nx (env2.set i s')
theorem DNs.set:∀ {vs:List V}{ds:List PyData}{x:V}{d:PyData} (j:Nat),DNs K N H vs ds→DN K N H x d→DNs K N H (vs.set j x) (ds.set j d)
 | _,_,_,_,_,.nil,_=>.nil
 | _,_,_,_,0,.cons _ q,h=>.cons h q
 | _,_,_,_,j+1,.cons g q,h=>.cons g (q.set j h)
theorem qJ (i:Nat) {y:Str}{npos spos:Pos}{j:Expr} (hN:X.N[i]? = some y) (hj:PE X j (up K tj)) (he:PE X e (up K te))
  (hv:Vis X.env.scope y:=by first|exact Or.inl rfl|exact Or.inr (Or.inl rfl)|exact Or.inr (Or.inr rfl)) (hd:(y==("__debug__" : Str))=false:=by decide)
  (hcd:(y==("__classdict__" : Str))=false:=by decide)
  (ha:∀ v,assign (.Subscript (.Name y npos) j spos) X.env v=(do
   let ov ←holding [v] (eval (.Name y npos) X.env)
   let iv ←holding [v,ov] (eval j X.env)
   standAt spos
   holding [v,ov,iv] (setItem ov iv v)
   release [v,ov,iv] []):=by intro _;rfl)
  (hs:swapsWithSole [.Subscript (.Name y npos) j spos] e pos.line X.env=pure false:=by rfl) (hw:swappedStores [.Subscript (.Name y npos) j spos] e X.env=pure none:=by rfl)
  (h1:(assignEach [.Subscript (.Name y npos) j spos] X.env).map (·.2)=[assign (.Subscript (.Name y npos) j spos) X.env]:=by rfl):PS X (.Assign [.Subscript (.Name y npos) j spos] e pos) (upS K (mv i tj te)) :=
 (tX he (t9 (cE hN hv hd hcd) hj nh ha) hs hw h1).imp fun D σ H h=>by
 obtain ⟨M,P,H0,σ0,env,ts,DD,nv,rel,ht,ok⟩:=h
 refine ⟨M,P,H0,σ0,env,ts,_,rel,ht,fun s1 env1 v1 H1 h1 rel1=>?_⟩
 obtain ⟨⟨ds0,h0⟩,h1⟩:=h1
 obtain ⟨s0,e0,o0⟩:=j0 h0
 obtain ⟨a,vs,ea,hH,_⟩:=rel1.mine e0 o0
 refine ⟨.ref a,ea,M,P,H0,σ0,env1,ts++[(v1,s1)],_,rel1,h1,fun s2 env2 v2 H2 h2 rel2=>?_⟩
 obtain ⟨d,s3,ds,z,jj,s',k,ez,e2,o2,ix,es,hR⟩:=h2
 have rel2':Rel K M P H0 σ0 σ env2 (ts++[(v1,s1),(v2,s2)]) H2:=by simpa using rel2
 obtain ⟨a',us,ea',hH',q⟩:=rel2'.drop.mine e2 o2
 rw [ea] at ea'
 cases ea'
 have dn:=rel2'.kept (v:=v1) (s:=s1) (by simp) k
 refine ⟨a,us,z,jj,rfl,(rel2.view (v:=v2) (by simp) ez).int,hH',by rw[q.len];exact ix,ok.nx _ _ _ hR (rel2'.drop.mut (ds:=ds) e2 es ea (q.set jj dn))⟩
noncomputable def iB (env:List Sl):Sl→Option Sl
 | .fr d=>some (.fr d)
 | .ow l=>some (.ow l)
 | .tr S d=>some (.tr S d)
 | .vw i=>(env[i]?).bind fun s=>match s with
  | .fr d=>some (.fr d)
  | .ow l=>some (.ow l)
  | _=>none
 | _=>none
noncomputable def dy:Sl→Sl
 | .io l=>.io l
 | _=>.un
noncomputable def eQ (n:Nat) (env:List Sl):List Sl:=(env.take n).map dy
noncomputable def iR (n:Nat) (R:Sl→List Sl→Prop):i5 where
 nx := fun env=>R (.fr .none) (eQ n env)
 rt := fun s env=>∃ r,iB env s=some r∧R r (eQ n env)
noncomputable def bx (n:Nat) (ss:List Sl):List Sl:=ss++yL (n - ss.length) .un
theorem dP (m:Nat):∀ {vs:List V}{ss:List Sl},vs.length=ss.length→(vs.map some++yL m none).zip (ss++yL m Sl.un)=tmp (vs.zip ss)++yL m (none,Sl.un)
 | [],[],_=>by simp[tmp]
 | v::vs,s::ss,h=>by
  show (some v,s)::(vs.map some++yL m none).zip (ss++yL m Sl.un)=_
  rw [dP m (by simpa using h)]
  rfl
 | [],_::_,h=>by simp at h
 | _::_,[],h=>by simp at h
theorem lN (m:Nat):oas (yL m ((none,Sl.un):Ent))=[]:=by
 unfold oas
 rw [List.flatMap_eq_nil_iff]
 intro e he
 rw [(List.mem_replicate.mp he).2]
 rfl
theorem l8:∀ {vs:List V}{σ:St}{env:List Sl},σ.length=env.length→(∀ (j:Nat) (l:List PyData),env[j]? = some (.io l)→j<vs.length→σ[j]? = (vs[j]?).map some)→(oas (tmp (vs.zip (eQ vs.length env)))).Sublist (oas (σ.zip env))
 | [],σ,env,_,_=>by simp[tmp,oas]
 | v::vs,[],[],_,_=>by simp[tmp,oas,eQ]
 | v :: vs,x::σ,s::env,hl,h=>by
  have ih:=l8 (vs:=vs) (σ:=σ) (env:=env) (by simpa using hl) fun j l e hj=>by
   have:=h (j+1) l (by simpa using e) (by simpa using hj)
   simpa using this
  show (oas ((some v,dy s)::tmp (vs.zip (eQ vs.length env)))).Sublist (oas ((x,s)::σ.zip env))
  rw [ad,ad]
  cases s with
  | io l =>
   have e0:=h 0 l rfl (by simp)
   simp at e0
   subst e0
   exact List.Sublist.append (List.Sublist.refl _) ih
  | _ =>
   simp only [dy,cL]
   exact ih.trans (List.sublist_append_right _ _)
 | _::_,[],_::_,hl,_=>by simp at hl
 | _::_,_::_,[],hl,_=>by simp at hl
theorem Rel.fin {vs:List V}{r:Sl}{n:Nat} (rel:Rel K M P H0 (a8 N' vs) σ env [(v,r)] H) (hn:n=vs.length) (hr:eP r=true):aJ K M P H0 (tmp ((v,r)::vs.zip (eQ n env))) H:=by
 subst hn
 have hio:∀ (j:Nat) (l:List PyData),env[j]? = some (.io l)→j<vs.length→σ[j]? = (vs[j]?).map some:=fun j l e hj=>by
  rw [rel.ios j l e]
  unfold a8
  rw [zl (by simpa using hj),yA]
 have hE:=rel.e
 refine hE.sub (fun x s m=>?_) ?_
 ·rw [cj] at m
  rcases ye.mp m with m|m
  ·cases m
   exact .inl (bC (by simp))
  ·obtain ⟨⟨w,s'⟩,m1,e⟩:=yr.mp m
   cases e
   obtain ⟨j,hj,e⟩:=y9 m1
   rw [yU] at e
   have hj':=hj
   rw [yM] at hj'
   have e1:vs[j]'(by omega)=w:=(Prod.mk.inj e).1
   have e2:(eQ vs.length env)[j]'(by omega)=s':=(Prod.mk.inj e).2
   have hje:j<env.length:=by
    have:(eQ vs.length env).length=min vs.length env.length:=by simp[eQ]
    omega
   have e3:s'=dy env[j]:=by
    rw [←e2]
    simp [eQ]
   cases q:env[j] with
   | io l =>
    rw [q] at e3
    subst e3
    have eq:env[j]? = some (.io l):=by rw[x5 hje,q]
    have e4:=hio j l eq (by omega)
    obtain ⟨x,e5,m5⟩:=rel.slot eq
    rw [e5,x5 (by omega:j<vs.length),e1] at e4
    have e4:x=some w:=Option.some.inj e4
    subst e4
    exact .inl m5
   | _=>rw[q] at e3;subst e3;exact .inr (.inl rfl)
 ·have nd:=hE.nd
  have eE:al σ env [(v,r)]=σ.zip env++[(some v,r)]:=rfl
  rw [eE,ac] at nd
  obtain ⟨n1,n2,n3⟩:=yb.mp nd
  have sub:=l8 rel.len hio
  rw [cj,show ((some (v,r).1,(v,r).2):Ent)::tmp (vs.zip (eQ vs.length env))=[(some v,r)]++tmp (vs.zip (eQ vs.length env)) from rfl,ac]
  exact yb.mpr ⟨n2,n1.sublist sub,fun x hx y hy z=>n3 y (sub.subset hy) x hx z.symm⟩
end
section
variable {K:PySem.W.Frag}{M P N:Addr→Prop}{H0 H H':Hp}{E A B:List Ent}{σ0 σ:St}{env:List Sl}{ts tt kp:List (V×Sl)}{v:V}{s:Sl}{d:PyData}
theorem Rel.take {i:Nat}{l:List PyData} (h:Rel K M P H0 σ0 σ env [(v,.vw i)] H) (e:env[i]? = some (.ow l)):Rel K M P H0 σ0 σ (env.set i .un) [(v,.ow l)] H:=by
 obtain ⟨x,A,B,e1,q1,q2⟩:=h.split e
 have ev:=h.vw v i (by simp)
 rw [e1] at ev
 have ev:x=some v:=Option.some.inj ev
 subst ev
 have z1:al σ env [(v,.vw i)]=σ.zip env++[(some v,.vw i)]:=rfl
 obtain ⟨x2,e3,m2⟩:=kG h.len e
 have ez:(σ.zip env)[i]? = some (some v,.ow l):=by rw[bZ,e1,e];rfl
 obtain ⟨A2,B2,r1,r2⟩:=ca ez
 have hE:=h.e
 rw [z1,r1] at hE
 have en:al σ (env.set i .un) [(v,.ow l)]=(A2++(some v,.un)::B2)++[(some v,.ow l)]:=by
  show σ.zip (env.set i .un)++[(some v,.ow l)]=_
  rw [kF e1,r2]
 refine ⟨?_,by simp[h.len],fun w j m=>(by rw[x4] at m;cases m),fun j l' e'=>?_⟩
 ·rw [en]
  refine hE.sub (fun x s m=>?_) ?_
  ·rcases x8.mp m with m|m
   ·rcases x8.mp m with m|m
    ·exact .inl (x3 _ (x3 _ m))
    ·rcases ye.mp m with m|m
     ·cases m;exact .inr (.inl rfl)
     ·exact .inl (x3 _ (xY _ (x9 _ m)))
   ·rw [x4] at m
    cases m
    exact .inl (x3 _ (xY _ ya))
  ·have nd:=hE.nd
   have ov:oas [(some v,Sl.vw i)]=[]:=by rw[ad,d3];rfl
   rw [ac,ac,ad,ov,yu] at nd
   have oo:oas [(some v,Sl.ow l)]=bw (some v,Sl.ow l):=by rw[ad];simp[oas]
   rw [ac,ac,ad,cL,oo]
   obtain ⟨n1,n2,n3⟩:=yb.mp nd
   obtain ⟨n4,n5,n6⟩:=yb.mp n2
   refine yb.mpr ⟨yb.mpr ⟨n1,n5,fun x hx y hy=>n3 x hx y (xY _ hy)⟩,n4,fun x hx y hy z=>?_⟩
   subst z
   rcases x8.mp hx with hx|hx
   ·exact n3 x hx x (x3 _ hy) rfl
   ·exact n6 x hy x hx rfl
 ·by_cases hj:i=j
  ·subst hj
   rw [yk (yc.mp e).1] at e'
   cases e'
  ·rw [yj hj] at e'
   exact h.ios j l' e'
theorem rY {i n:Nat}{l:List PyData} (e:env[i]? = some (.ow l)):eQ n (env.set i .un)=eQ n env:=by
 unfold eQ
 apply List.ext_getElem?
 intro j
 rw [yA,yA,List.getElem?_take,List.getElem?_take]
 by_cases hj:i=j
 ·subst hj
  rw [yk (yc.mp e).1,e]
  split <;> rfl
 ·rw [yj hj]
theorem Rel.told {n:Nat}{r:Sl} (h:Rel K M P H0 σ0 σ env [(v,s)] H) (e:iB env s=some r):∃ env',Rel K M P H0 σ0 σ env' [(v,r)] H∧eQ n env'=eQ n env∧eP r=true:=by
 cases s with
 | fr d=>cases e;exact⟨env,h,rfl,rfl⟩
 | tr S d=>cases e;exact⟨env,h,rfl,rfl⟩
 | ow l=>cases e;exact⟨env,h,rfl,rfl⟩
 | vw i =>
  have e:(env[i]?).bind _=some r:=e
  cases q:env[i]? with
  | none=>rw[q] at e;cases e
  | some s' =>
   rw [q] at e
   cases s' with
   | fr d =>
    cases e
    have hs:dS env (.vw i)=some (.fr d):=by
     show ((env[i]?).bind slK).map Sl.fr=_
     rw [q];rfl
    have:=(Rel.unVw (ts:=[]) (by simpa using h) hs).1
    exact ⟨env,by simpa using this,rfl,rfl⟩
   | ow l=>cases e;exact⟨env.set i .un,h.take q,rY q,rfl⟩
   | _=>cases e
 | _=>cases e
end
section
variable {P:Program}{w:World}{K:PySem.W.Frag}{mg:Str→Option Value}{base:Heap}
theorem okD {x:Str}{st:Stmt}{f:Addr}{fd:FuncData}{N ps:List Str}{k:Nat}{sp:DSp} (F:Fun K x x st f fd) (S:ay N ps (af st)) (len:∀ ss R,sp ss R→ss.length=ps.length) (hN:ps.length≤N.length)
  (hb:∀ (cdv:Value) (A:Around) (outer:List Env) (s:Shared) (H:Hp) (E:XK),ci k (A.deeper (envOfC x (af st) s.heap.objs.size f cdv)) →
   ∃ t:DS,PSs (jT CX0 P w K mg base N x (af st) f cdv A outer s H E).nox (bj st) (upS K t)∧∀ ss R,sp ss R→t (iR ps.length R) (bx N.length ss)):bW P w K mg base CX0 (k+1) f fd ps (spD K sp):=by
 refine F.ok S (fun vs H Q E h=>?_) fun cdv A outer s H vs Q E hr h=>?_
 ·obtain ⟨M,ss,R,hl,_,hsp,_⟩:=h
  rw [hl]
  exact len ss R hsp
 obtain ⟨M,ss,R,hl,hE,hsp,hq⟩:=h
 have hn:=len ss R hsp
 obtain ⟨t,ht,hr'⟩:=hb cdv A outer s H E hr
 have ez:al (a8 N vs) (bx N.length ss) []=tmp (vs.zip ss)++yL (N.length - vs.length) (none,Sl.un):=by
  show (a8 N vs).zip (bx N.length ss)++[]=_
  unfold a8 bx
  rw [yu,←hl]
  exact dP _ hl
 refine ⟨_,ht,M,mW vs ss,H,a8 N vs,bx N.length ss,[],iR ps.length R,fun w i m=>(by cases m),⟨?_,by simp[a8,bx,hl],fun w i m=>(by cases m),fun i l e=>rfl⟩,hr' ss R hsp,⟨fun σ' env' H' q r=>?_,fun s env' v σ' H' q r=>?_,fun σ' env' H' q r=>(show False from q),fun σ' env' H' q r=>(show False from q)⟩⟩
 ·rw [ez]
  refine hE.sub (fun x s m=>?_) (by rw[ac,lN,yu];exact hE.nd)
  rcases x8.mp m with m|m
  ·exact .inl m
  ·have:=(List.mem_replicate.mp m).2
   cases this
   exact .inr (.inl rfl)
 ·have r2:=(Rel.addFr r (v:=.non) (d:=.none) .non)
  have r2:Rel K M (mW vs ss) H (a8 N vs) σ' env' [(.non,.fr .none)] H':=by simpa using r2
  exact hq _ _ _ _ q rfl (r2.fin (by omega) rfl)
 ·obtain ⟨r0,e0,hR⟩:=q
  have r1:Rel K M (mW vs ss) H (a8 N vs) σ' env' [(v,s)] H':=by simpa using r
  obtain ⟨env2,r2,ef,hr0⟩:=r1.told (n:=ps.length) e0
  exact hq r0 _ v H' hR hr0 (by rw[←ef];exact r2.fin (by omega) hr0)
theorem xB {x:Str}{st:Stmt}{f:Addr}{N ps:List Str}{k:Nat}{sp:DSp}{kV doc pm cdv ct oc:Value}{an od:Option Addr}{osl:Array (Option Value)}
  (hb:∀ (A:Around) (outer:List Env) (s:Shared) (H:Hp) (E:XK),ci k (A.deeper (envOfC x (af st) s.heap.objs.size f cdv)) →
   ∃ t:DS,PSs (jT CX0 P w K mg base N x (af st) f cdv A outer s H E).nox (bj st) (upS K t)∧∀ ss R,sp ss R→t (iR ps.length R) (bx N.length ss))
  (lk:K.lookup f=some ⟨oc,od,.func (PySem.W.fnOf x x (ce st) (bj st) (af st) .none kV doc pm an cdv ct),osl⟩) (hcd:PySem.W.codeIn K cdv x=true) (S:ay N ps (af st)) (len:∀ ss R,sp ss R→ss.length=ps.length) (hN:ps.length≤N.length):bW P w K mg base CX0 (k+1) f (PySem.W.fnOf x x (ce st) (bj st) (af st) .none kV doc pm an cdv ct) ps (spD K sp):=by
 refine uK lk hcd S (fun vs H Q E h=>?_) fun A outer s H vs Q E hr h=>?_
 ·obtain ⟨M,ss,R,hl,_,hsp,_⟩:=h
  rw [hl]
  exact len ss R hsp
 obtain ⟨M,ss,R,hl,hE,hsp,hq⟩:=h
 have hn:=len ss R hsp
 obtain ⟨t,ht,hr'⟩:=hb A outer s H E hr
 have ez:al (a8 N vs) (bx N.length ss) []=tmp (vs.zip ss)++yL (N.length - vs.length) (none,Sl.un):=by
  show (a8 N vs).zip (bx N.length ss)++[]=_
  unfold a8 bx
  rw [yu,←hl]
  exact dP _ hl
 refine ⟨_,ht.nox,M,mW vs ss,H,a8 N vs,bx N.length ss,[],iR ps.length R,fun w i m=>(by cases m),⟨?_,by simp[a8,bx,hl],fun w i m=>(by cases m),fun i l e=>rfl⟩,hr' ss R hsp,⟨fun σ' env' H' q r=>?_,fun s env' v σ' H' q r=>?_,fun σ' env' H' q r=>(show False from q),fun σ' env' H' q r=>(show False from q)⟩⟩
 ·rw [ez]
  refine hE.sub (fun x s m=>?_) (by rw[ac,lN,yu];exact hE.nd)
  rcases x8.mp m with m|m
  ·exact .inl m
  ·have:=(List.mem_replicate.mp m).2
   cases this
   exact .inr (.inl rfl)
 ·have r2:=(Rel.addFr r (v:=.non) (d:=.none) .non)
  have r2:Rel K M (mW vs ss) H (a8 N vs) σ' env' [(.non,.fr .none)] H':=by simpa using r2
  exact hq _ _ _ _ q rfl (r2.fin (by omega) rfl)
 ·obtain ⟨r0,e0,hR⟩:=q
  have r1:Rel K M (mW vs ss) H (a8 N vs) σ' env' [(v,s)] H':=by simpa using r
  obtain ⟨env2,r2,ef,hr0⟩:=r1.told (n:=ps.length) e0
  exact hq r0 _ v H' hR hr0 (by rw[←ef];exact r2.fin (by omega) hr0)
theorem xh {x:Str}{st:Stmt}{f:Addr}{fd:FuncData}{k:Nat}{ps:List Str}{sp:DSp} (F:Fun K x x st f fd) (m:mg x=some (.ref f)) (b:bF K fd ps []) (G:bW P w K mg base CX0 k f fd ps (spD K sp)):Cal P w K mg base x k (spD K sp):=Cal.mk F m b G
end
section
variable {X:Cx}{x:Str}{p pos:Pos}{e:Expr}{es:List Expr}{k:Nat}{sp:DSp}{K:PySem.W.Frag}{tl:DA}
theorem bp (C:Cal X.prog X.w X.K X.mg X.base x k (spD K sp)) (hr:ci k X.A) (hg:Gl X x) (ha:PA X (e::es) (upA K tl)) (hd:(x==("__debug__" : Str))=false:=by decide)
  (he:starEach (e::es) X.env=(false,eval e X.env)::starEach es X.env:=by rfl) (hpl:(backTo pos (starEach es X.env)).any (·.1)=false:=by rfl):PE X (.Call (.Name x p) (e::es) [] pos) (up K (mx sp tl)):=(gj C hr hg ha hd he hpl).imp sH
theorem b9 (m:Nat) (C:Cal X.prog X.w X.K X.mg X.base x k (spD K sp)) (hr:ci k X.A) (hg:Gl X x) (ha:PA X (e::es) (upA K tl)) (hd:(x==("__debug__" : Str))=false:=by decide)
  (he:starEach (e::es) X.env=(false,eval e X.env)::starEach es X.env:=by rfl) (hpl:(backTo pos (starEach es X.env)).any (·.1)=false:=by rfl):PE X (.Call (.Name x p) (e::es) [] pos) (up K (gX sp m tl)):=(gj C hr hg ha hd he hpl).imp oZ
theorem lx (C:Cal X.prog X.w X.K X.mg X.base x k (spD K sp)) (hr:ci k X.A) (hg:Gl X x) (ha:PA X (e::es) (upA K tl)) (hd:(x==("__debug__" : Str))=false:=by decide)
  (he:starEach (e::es) X.env=(false,eval e X.env)::starEach es X.env:=by rfl) (hpl:(backTo pos (starEach es X.env)).any (·.1)=false:=by rfl):PE X (.Call (.Name x p) (e::es) [] pos) (up K (jS sp tl)):=(gj C hr hg ha hd he hpl).imp oY
end
noncomputable def vz:G1:=fun d R=>∃ i,d=.int i∧R (.int (-i))
theorem xC {K:PySem.W.Frag}:∀ (N:Addr→Prop) (H:Hp) (x:V) (d1:PyData) (R:PyData→Prop) (Q:VK),Vw K N H x d1→vz d1 R→(∀ d v,R d→DN K N H v d→Q v H)→(rU fun i=>.int (-i)) x H Q:=by
 rintro N H x d R Q w ⟨i,rfl,hR⟩ hq
 exact ⟨i,w.int,hq _ _ hR (.int _)⟩
noncomputable abbrev li (ns:List Int):List PyData:=ns.map .int
theorem bK {ds:List PyData}{g:DG}{tb:DS}{DD:i5}{env:List Sl} (W:Nat→List Sl→Prop) (h0:W 0 env)
  (hs:∀ i env,(h:i<ds.length)→W i env→g ds[i] env fun env2=>tb { DD with nx:=dI (W (i+1)) ⟨⟩,ct:=dI (W (i+1)) ⟨⟩,bk:=DD.nx } env2) (hd:∀ env,W ds.length env→DD.nx env):FD ds g tb DD env:=⟨W,h0,hs,hd⟩
theorem gZ {ds:List PyData}{ix:List (Option Nat)}{g:DG}{te:DE}{env:List Sl}{R:Sl→List Sl→Prop} (f:Nat→PyData) (hz:ds.length≤1000000)
  (h : ∀ i,(h:i<ds.length)→∀ Q:PyData→Prop,Q (f i)→g ds[i] (cQ ix env) fun b1=>te b1 fun s b3=>∃ d,aE b3 s=some d∧Q d) (hR:R (.ow ((List.range ds.length).map f)) env):CD ds ix g u7 te env R:=by
 refine ⟨fun i rs=>rs=(List.range i).map f∧i≤ds.length,⟨rfl,yo _⟩,fun i rs hi w=>?_,fun rs w=>by rw[w.1];exact hR⟩
 obtain ⟨rfl,_⟩:=w
 refine ⟨by rw[xZ,yC];exact yi (by omega) ah,?_⟩
 have:=h i hi (fun d=>(List.range i).map f++[d]=(List.range (i+1)).map f∧i+1≤ds.length) ⟨by rw[zf,yN];rfl,hi⟩
 simpa only [u7,if_true] using this
theorem bQ {ds:List PyData}{ix:List (Option Nat)}{g:DG}{tt:DT}{te:DE}{env:List Sl}{R:Sl→List Sl→Prop} (p:Nat→Bool) (f:Nat→PyData) (hz:ds.length≤1000000)
  (h : ∀ i,(h:i<ds.length)→∀ (Q:PyData→Prop) (Q':Prop),(p i=true→Q (f i))→(p i=false→Q')→g ds[i] (cQ ix env) fun b1=>tt b1 fun k b2=>if k=true then te b2 fun s b3=>∃ d,aE b3 s=some d∧Q d else Q')
  (hR:R (.ow (((List.range ds.length).filter p).map f)) env):CD ds ix g tt te env R:=by
 refine ⟨fun i rs=>rs=((List.range i).filter p).map f∧i≤ds.length,⟨rfl,yo _⟩,fun i rs hi w=>?_,fun rs w=>by rw[w.1];exact hR⟩
 obtain ⟨rfl,_⟩:=w
 refine ⟨?_,?_⟩
 ·have:=yJ p (List.range i)
  rw [yC] at this
  rw [xZ]
  exact yi (by omega) ah
 ·refine h i hi _ _ (fun e=>⟨?_,hi⟩) (fun e=>⟨?_,hi⟩)
  ·rw [zf,yF,yN]
   simp [e]
  ·rw [zf,yF,yN]
   simp [e]
noncomputable def Bg (i:Int):Prop:=i.natAbs<2 ^ 8000
noncomputable def vm (i j:Int):Prop:=Bg i∧Bg j
theorem vm.ok {i j:Int} (h:vm i j):IntMulOk i j:=by
 have up:∀ x:Int,Bg x→Builtin.Int.intBits x≤2 ^ 20:=fun x hx=>by
  refine PySem.intBits_le_iff.mpr (yi hx (yQ (by decide) (by decide)))
 exact IntMulOk.of_bits (up _ h.1) (up _ h.2)
section
variable {X:Cx}{K:PySem.W.Frag}
noncomputable def xJ:GB:=fun ds R=>∃ es ns,ds=[.list es]∧bq es=some ns∧R (.int ns.sum)
end
end L2
namespace L2
open PySem
theorem Bg.of {i:Int} (h1:-1000000000000000000000000000000000000000000000≤i) (h2:i≤1000000000000000000000000000000000000000000000):Bg i:=by
 have h:i.natAbs<2 ^ 200:=by
  have:(2:Nat) ^ 200=1606938044258990275541962092341162602522202993782792835301376:=by decide
  rw [this]
  omega
 exact yi h (yQ (by decide) (by decide))
end L2
namespace L2
open PySem PySem.Spec PyProof.Rows
section
variable (env:List Sl) (d:PyData) (l:List PyData) (i n:Nat) (s:Sl) (R:Sl→List Sl→Prop)
theorem jd:aF env (.fr d)=some d:=rfl
theorem ja:aF env (.ow l)=some (.list l):=rfl
theorem jb:aF env (.io l)=some (.list l):=rfl
theorem i8:aF env (.vw i)=(env[i]?).bind slD:=rfl
theorem pw:slD (.fr d)=some d:=rfl
theorem pr:slD (.ow l)=some (.list l):=rfl
theorem pv:slD (.io l)=some (.list l):=rfl
theorem pp:slD .un=none:=rfl
theorem pq {S:List Addr}{kvs:List (PyData×PyData)}:slD (.tr S (.dict kvs))=some (.dict kvs):=rfl
theorem i9 {S:List Addr}{kvs:List (PyData×PyData)}:aF env (.tr S (.dict kvs))=some (.dict kvs):=rfl
theorem pk:slK (.fr d)=some d:=rfl
theorem pi:slK (.ow l)=none:=rfl
theorem pj:slK (.io l)=none:=rfl
theorem pf:slK .un=none:=rfl
theorem gF:aE env (.fr d)=some d:=rfl
theorem gE:aE env (.ow l)=some (.list l):=rfl
theorem gA:aE env (.vw i)=(env[i]?).bind slK:=rfl
theorem jk:dS env (.fr d)=some (.fr d):=rfl
theorem ji:dS env (.ow l)=some (.ow l):=rfl
theorem jh {S:List Addr}:dS env (.tr S d)=some (.tr S d):=rfl
theorem jq {S:List Addr}:iB env (.tr S d)=some (.tr S d):=rfl
theorem gC {S:List Addr}:aE env (.tr S d)=some d:=rfl
theorem jg:dS env (.vw i)=((env[i]?).bind slK).map .fr:=rfl
noncomputable def vT:Sl→Option Sl
 | .fr d=>some (.fr d)
 | .ow l=>some (.ow l)
 | _=>none
theorem js:iB env (.fr d)=some (.fr d):=rfl
theorem jr:iB env (.ow l)=some (.ow l):=rfl
theorem jp:iB env (.vw i)=(env[i]?).bind vT:=by
 show (env[i]?).bind _=_
 congr 1
theorem k8:vT (.fr d)=some (.fr d):=rfl
theorem k7:vT (.ow l)=some (.ow l):=rfl
theorem gP:dy (.fr d)=.un:=rfl
theorem gN:dy (.ow l)=.un:=rfl
theorem gO:dy (.io l)=.io l:=rfl
theorem gM:dy .un=.un:=rfl
theorem jI:(iR n R).rt s env=∃ r,iB env s=some r∧R r (eQ n env):=rfl
theorem jJ:(iR n R).nx env=R (.fr .none) (eQ n env):=rfl
theorem jn:bG (.ow l) d'=some (.ow d'):=rfl
theorem jo:bG (.io l) d'=some (.io d'):=rfl
theorem lH:dH (.ow l)=some l:=rfl
theorem lI:dH (.io l)=some l:=rfl
theorem lJ:dH (.fr d)=none:=rfl
theorem lG:dH .un=none:=rfl
theorem jZ:hG (some (.fr d))=.fr d:=rfl
theorem jX:hG (some (.ow l))=.un:=rfl
theorem jY:hG (some (.io l))=.un:=rfl
theorem jW:hG (some .un)=.un:=rfl
theorem hU:wO env none=.un:=rfl
theorem hJ:wO env (some i)=hG env[i]?:=rfl
theorem eZ:cT (.list l)=some l:=rfl
theorem dW:cT (.tuple l)=some l:=rfl
theorem fW:qx .none=some false:=rfl
theorem fY (b:Bool):qx (.bool b)=some b:=rfl
theorem je (i:Int):qx (.int i)=some (i != 0):=rfl
theorem fX:qx (.list l)=some (!l.isEmpty):=rfl
theorem eU:qx (.tuple l)=some (!l.isEmpty):=rfl
theorem gH:ou .none=true:=rfl
theorem jC (i:Int):ou (.int i)=false:=rfl
theorem gK (i:Bool):ou (.bool i)=false:=rfl
theorem gJ:ou (.list l)=false:=rfl
theorem fi:ou (.tuple l)=false:=rfl
theorem lX (i:Int):isK "int" (.int i)=true:=rfl
theorem jE (b:Bool):isK "bool" (.bool b)=true:=rfl
theorem pM (b:Bool):isK "int" (.bool b)=true:=rfl
theorem pO (i:Int):isK "bool" (.int i)=false:=rfl
theorem jD:isK "list" (.list l)=true:=rfl
theorem gL:isK "tuple" (.tuple l)=true:=rfl
theorem pH:isK "list" (.tuple l)=false:=rfl
theorem pG:isK "tuple" (.list l)=false:=rfl
theorem pK:isK "int" .none=false:=rfl
theorem pN:isK "bool" .none=false:=rfl
theorem d7:aN env []=some []:=rfl
theorem dw (s:Sl) (ss:List Sl):aN env (s::ss)=(aE env s).bind fun d=>(aN env ss).bind fun ds=>some (d::ds):=rfl
theorem eR:cR env []=some []:=rfl
theorem dR (s:Sl) (ss:List Sl):cR env (s::ss)=(aF env s).bind fun d=>(cR env ss).bind fun ds=>some (d::ds):=rfl
theorem jH (i j:Int):PyData.eqv (.int i) (.int j)=decide (i=j):=by
 show (i==j)=_
 by_cases h:i=j <;> simp[h]
end
section
variable {X:Cx}{K:PySem.W.Frag}{ta:DA}{a b:Expr}{pos:Pos}
end
theorem qm {α:Type} (x:α) (l:List α):atI (x::l) 0=some x:=bV (j:=0) rfl
theorem qk {α:Type} (x y:α) (l:List α):atI (x::y::l) 1=some y:=bV (j:=1) rfl
theorem qj {α:Type} (x y z:α) (l:List α):atI (x::y::z::l) 2=some z:=bV (j:=2) rfl
theorem qh {α:Type} (a b c d x:α) (l:List α):atI (a::b::c::d::x::l) 4=some x:=bV (j:=4) rfl
theorem qg {α:Type} (a b c d e x:α) (l:List α):atI (a::b::c::d::e::x::l) 5=some x:=bV (j:=5) rfl
theorem qd {α:Type} (a b c d e f x:α) (l:List α):atI (a::b::c::d::e::f::x::l) 6=some x:=bV (j:=6) rfl
theorem qc {α:Type} (a b c d e f g x:α) (l:List α):atI (a::b::c::d::e::f::g::x::l) 7=some x:=bV (j:=7) rfl
theorem jG:PyData.eqv .none .none=true:=rfl
theorem pQ (i:Int):PyData.eqv .none (.int i)=false:=rfl
theorem pS (i:Int):PyData.eqv (.int i) .none=false:=rfl
theorem kX (i:Int):shp (.int i)=True:=by simp[shp,SeqAt.shaped,PySem.PyData.canLay0,PySem.PyData.depth]
theorem jl:shp .none=True:=by simp[shp,SeqAt.shaped,PySem.PyData.canLay0,PySem.PyData.depth]
theorem jm (b:Bool):shp (.bool b)=True:=by simp[shp,SeqAt.shaped,PySem.PyData.canLay0,PySem.PyData.depth]
theorem qi {α:Type} (x y z u:α) (l:List α):atI (x::y::z::u::l) 3=some u:=bV (j:=3) rfl
theorem ut {K:PySem.W.Frag}{H:Hp}{a:Addr}{ns:List Int}{E:XK} (hS:SqL K H a (ns.map V.int)) {sp:DSp} (h:sp [.fr (.list (li ns))] (fun r _=>r=.fr (.bool true))):spD K sp [.ref a] H (fun v _=>v=.bl true) E:=by
 have dns:DNs K (fun _=>False) H [.ref a] [.list (li ns)]:=.cons (DN.sqL hS) .nil
 refine ⟨fun _=>False,[.fr (.list (li ns))],_,rfl,mM (ds:=[.list (li ns)]) dns (fun a z=>z.elim),h,fun r ss' v H' hR _ post=>?_⟩
 subst hR
 obtain ⟨w,e,dn⟩:=post.fr _ _ ya
 cases e
 cases dn
 rfl
theorem vN {l:PySem.W.OpenLaw}{q:Program}{loose:List Str}{XP:(Str→Option Value)→Heap→Prop}{YP:World→Heap→Prop}{d:DefRec}{K:Params→PySem.W.Frag}{sp:DSp}{k:Nat} (hk:k≤40) (hn:l.most=some 63) (hdf:d.params.defaults=[])
  (hsp:∀ ns:List Int,ns.length≤63→sp [.fr (.list (li ns))] (fun r _=>r=.fr (.bool true)))
  (hTb:∀ (w:World) (s₀:Shared) (mg mb:Str→Option Value) (h:Heap),PySem.W.Ground q loose [] XP w s₀ mg mb h→(K w.params).In h→∃ tb:List (Addr×Str),(∀ b q,tb.lookup b=some q→h.get? b=some { cls:=.none,data:=.fields #[] }∧(K w.params).lookup b=none∧∃ c,h.TableAt c b #[])∧∀ T q,eL (K w.params) T q→tb.lookup T=some q)
  (hY:∀ (w:World) (h:Heap),YP w h→(K w.params).In h)
  (F : ∀ (w:World) (mg:Str→Option Value) (fa:Addr) (h:Heap),(K w.params).In h→h.Ns mainGlobals mg→mg d.name=some (.ref fa) →
   ∃ fd:FuncData,(∀ (s:Shared) (u:Value),BindsTo s fd ⟨[u],[]⟩ [("_law_script",u)])∧∀ base:Heap,(K w.params).In base→base.Ns mainGlobals mg→bW l.prog w (K w.params) mg base CX0 k fa fd ["_law_script"] (spD (K w.params) sp)) :
  PySem.W.WalkO q loose XP YP l.row.toRowW d [] (fun f vs=>PySem.call f vs):=by
 refine L2.qu (n:=63) (k:=40) (x := "_law_script") (CX:=fun _=>CX0) (sp:=fun w=>spD (K w.params) sp) hn (by decide) hdf ⟨rfl,by decide,by decide⟩ hTb hY (fun w mg fa h a b c=>?_) (fun w H a ns hl _ hS=>ut hS (hsp ns hl)) fun _ _ _ _ _ z=>z
 obtain ⟨fd,h1,h2⟩:=F w mg fa h a b c
 exact ⟨fd,h1,fun base x y=>(h2 base x y).mono hk⟩
noncomputable def Sh (n:Nat) (d:PyData):Prop:=d.canLay0=true∧d.depth≤n
theorem Sh.int (n:Nat) (i:Int):Sh n (.int i):=⟨by simp[PyData.canLay0],by simp[PyData.depth]⟩
theorem Sh.bool (n:Nat) (i:Bool):Sh n (.bool i):=⟨by simp[PyData.canLay0],by simp[PyData.depth]⟩
theorem Sh.none (n:Nat):Sh n .none:=⟨by simp[PyData.canLay0],by simp[PyData.depth]⟩
theorem Sh.all {n:Nat}:∀ {ds:List PyData},(∀ x∈ds,Sh n x)→PyData.canLayAll0 ds=true∧PyData.depthAll ds≤n
 | [],_=>⟨by simp[PyData.canLayAll0],by simp[PyData.depthAll]⟩
 | d::ds,h=>by
  have h1:=h d ya
  have h2:=Sh.all fun x hx=>h x (x9 _ hx)
  refine ⟨by rw[PyData.canLayAll0,h1.1,h2.1];rfl,?_⟩
  rw [PyData.depthAll]
  have a:=h1.2
  have b:=h2.2
  omega
theorem Sh.list {n:Nat}{ds:List PyData} (h:∀ x∈ds,Sh n x):Sh (n+1) (.list ds):=by
 obtain ⟨a,b⟩:=Sh.all h
 exact ⟨by rw[PyData.canLay0];exact a,by rw[PyData.depth];omega⟩
theorem Sh.tuple {n:Nat}{ds:List PyData} (h:∀ x∈ds,Sh n x):Sh (n+1) (.tuple ds):=by
 obtain ⟨a,b⟩:=Sh.all h
 exact ⟨by rw[PyData.canLay0];exact a,by rw[PyData.depth];omega⟩
theorem Sh.mono {n m:Nat}{d:PyData} (h:Sh n d) (hm:n≤m):Sh m d:=⟨h.1,yg h.2 hm⟩
theorem Sh.ints (n:Nat) (ns:List Int):Sh (n+1) (.list (li ns)):=Sh.list fun x hx=>by
 obtain ⟨i,_,rfl⟩:=yr.mp hx
 exact Sh.int _ _
theorem Sh.intT (n:Nat) (ns:List Int):Sh (n+1) (.tuple (li ns)):=Sh.tuple fun x hx=>by
 obtain ⟨i,_,rfl⟩:=yr.mp hx
 exact Sh.int _ _
theorem Sh.shp {n:Nat}{d:PyData} (h:Sh n d) (hn:n≤64):shp d:=by
 show SeqAt.shaped d=true
 unfold SeqAt.shaped
 rw [h.1,decide_eq_true (yg h.2 hn)]
 rfl
theorem eJ {ns:List Int}{k:Nat} (h:k<ns.length):atI (li ns) (k:Int)=some (.int (ns.getD k 0)):=bV (by
 rw [yA,x5 h,yd,x5 h]
 rfl)
theorem cH {ns:List Int}{i:Nat} (h:i<(li ns).length):(li ns)[i]=.int (ns.getD i 0):=by
 have h':i<ns.length:=by simpa using h
 simp [yd,x5 h']
theorem ur (ns:List Int) (i:Nat) (x:Int):(li ns).set i (.int x)=li (ns.set i x):=by simp[List.map_set]
theorem iN (ns:List Int) (x:Int):li ns++[.int x]=li (ns++[x]):=by simp
theorem nP (n:Nat) (f:Nat→Int):(List.range n).map (fun i=>PyData.int (f i))=li ((List.range n).map f):=by
 show _=List.map _ (List.map _ _)
 rw [yD]
 rfl
theorem jV {i j:Int} (h0:-18446744073709551616<i) (h1:i<18446744073709551616):vn i j:=.inl ⟨h0,h1⟩
theorem qa {i j:Int} (h0:-18446744073709551616<j) (h1:j<18446744073709551616):vn i j:=.inr ⟨h0,h1⟩
@[irreducible] def dNx (u:DS):DS:=u
theorem pZ (u:DS):dNx u=u:=by unfold dNx;rfl
theorem nx {u:DS}{DD:i5}{env:List Sl} (h:u DD env):dNx u DD env:=by rw[pZ];exact h
theorem ar {X:Cx}{K:PySem.W.Frag}{st:Stmt}{bR:List Stmt}{t u:DS} (h1:PS X st (upS K t)) (h2:PSs X bR (upS K u)):PSs X (st::bR) (upS K (u9 t (dNx u))):=by rw[pZ];exact bM h1 h2
end L2
namespace L2
end L2
namespace L2
open PySem PySem.Spec PyProof.Rows
section
variable {X:Cx}{K:PySem.W.Frag}
end
noncomputable def Pl:Nat→PyData→Prop
 | 0,d=>∃ i,d=.int i
 | n+1,d=>(∃ i,d=.int i)∨∃ ds:List PyData,(d=.list ds∨d=.tuple ds)∧ds.length≤1000000∧∀ x∈ds,Pl n x
theorem Pl.int (n:Nat) (i:Int):Pl n (.int i):=by
 cases n with
 | zero=>exact⟨i,rfl⟩
 | succ n=>exact .inl ⟨i,rfl⟩
theorem Pl.list {n:Nat}{ds:List PyData} (hl:ds.length≤1000000) (h:∀ x∈ds,Pl n x):Pl (n+1) (.list ds):=.inr ⟨ds,.inl rfl,hl,h⟩
theorem Pl.tuple {n:Nat}{ds:List PyData} (hl:ds.length≤1000000) (h:∀ x∈ds,Pl n x):Pl (n+1) (.tuple ds):=.inr ⟨ds,.inr rfl,hl,h⟩
theorem Pl.ints (n:Nat) {ns:List Int} (h:ns.length≤1000000):Pl (n+1) (.list (li ns)):=Pl.list (by rw[xZ];exact h) fun x hx=>by
 obtain ⟨i,_,rfl⟩:=yr.mp hx
 exact Pl.int _ _
theorem pL (l:List PyData):isK "int" (.list l)=false:=rfl
theorem pJ (l:List PyData):isK "int" (.tuple l)=false:=rfl
section
variable {K:PySem.W.Frag}{N:Addr→Prop}{H:Hp}
end
mutual
noncomputable def noL:PyData→Bool
 | .none=>true
 | .bool _=>true
 | .int _=>true
 | .str _=>true
 | .tuple ds=>ki ds
 | _=>false
noncomputable def ki:List PyData→Bool
 | []=>true
 | d::ds=>noL d&&ki ds
end
section
variable {K:PySem.W.Frag}{M P N:Addr→Prop}{H0 H H':Hp}{E T A B:List Ent}{σ0 σ:St}{env:List Sl}{ts tt:List (V×Sl)}{v:V}{s:Sl}{d:PyData}
theorem DN.ot {v:V}{d:PyData} (h:DN K N H v d):noL d=true→OT K N H v d [] :=
 DN.rec (motive_1:=fun v d _=>noL d=true→OT K N H v d []) (motive_2:=fun v d _=>ki d=true→OTs K N H v d [])
 (fun _=>.non) (fun b _=>.bl b) (fun i _=>.int i)
 (fun _ _ _ e=>by simp[noL] at e) (fun h _ i e=>.tup h (i (by simpa [noL] using e)))
 (fun _ _ _ _ _ _ _ e=>by simp[noL] at e) (fun _ _ e=>by simp[noL] at e) (fun _=>.nil)
 (fun {_ _ d ds} _ _ i j e=>by
  have e:(noL d&&ki ds)=true:=e
  rw [yG] at e
  exact .cons (S:=[]) (S':=[]) (i e.1) (j e.2)) h
theorem DNs.ots {v:List V}{d:List PyData} (h:DNs K N H v d):ki d=true→OTs K N H v d []:=DNs.ind (C:=fun v d=>ki d=true→OTs K N H v d []) (fun _=>.nil) (fun {_ _ d ds} h _ j e=>by
  have e:(noL d&&ki ds)=true:=e
  rw [yG] at e
  exact .cons (S:=[]) (S':=[]) (h.ot e.1) (j e.2)) h
noncomputable def fzs:List PyData→Option (List PyData)
 | []=>some []
 | .list l::ds=>(fzs ds).map (fzD l::·)
 | _::_=>none
theorem DNs.fzs:∀ {vs:List V}{ds ds':List PyData},DNs K N H vs ds→fzs ds=some ds'→OTs K N H vs ds' []
 | _,_,_,.nil,e=>by cases e;exact .nil
 | _, d::ds,_,.cons h q,e=>by
  cases d with
  | list l =>
   have e:(L2.fzs ds).map (fzD l::·)=some _:=e
   cases e2:L2.fzs ds with
   | none=>rw[e2] at e;cases e
   | some ds2 =>
    rw [e2] at e
    cases e
    exact .cons (S:=[]) (S':=[]) (.fz h) (DNs.fzs q e2)
  | _=>cases e
noncomputable def slF (s:Sl):Option PyData:=match s with
 | .fr d=>if noL d=true then some d else none
 | _=>none
noncomputable def c9 (env:List Sl):Sl→Option PyData
 | .fr d=>if noL d=true then some d else none
 | .ow ds=>if ki ds=true then some (.list ds) else (fzs ds).map .list
 | .tr _ d=>some d
 | .vw i=>(env[i]?).bind slF
 | _=>none
noncomputable def bo (env:List Sl):List Sl→Option (List PyData)
 | []=>some []
 | s::ss=>(c9 env s).bind fun d=>(bo env ss).bind fun ds=>some (d::ds)
theorem Rel.tree (h:Rel K M P H0 σ0 σ env ts H) (m:(v,s)∈ts) (e:c9 env s=some d):OT K (Nw M (al σ env ts)) H v d (bw (some v,s))∧∀ a∈bw (some v,s),H0 a=none:=by
 have mm:((some v,s):Ent)∈al σ env ts:=bC m
 cases s with
 | fr d' =>
  by_cases c:noL d'=true
  ·have e:(if noL d'=true then some d' else none)=some d:=e
   rw [if_pos c] at e
   cases e
   obtain ⟨v',e1,dn⟩:=h.e.fr _ _ mm
   cases e1
   rw [bS]
   exact ⟨dn.ot c,fun a ha=>by cases ha⟩
  ·have e:(if noL d'=true then some d' else none)=some d:=e
   rw [if_neg c] at e
   cases e
 | ow ds =>
  have e:(if ki ds=true then some (PyData.list ds) else (fzs ds).map .list)=some d:=e
  by_cases c:ki ds=true
  ·rw [if_pos c] at e
   cases e
   obtain ⟨a,vs,e1,e2,dn,h0⟩:=h.e.ow _ _ mm
   cases e1
   exact ⟨.lst e2 (dn.ots c),fun b hb=>by rw[x4.mp hb];exact h0⟩
  ·rw [if_neg c] at e
   cases e3:fzs ds with
   | none=>rw[e3] at e;cases e
   | some ds' =>
    rw [e3] at e
    cases e
    obtain ⟨a,vs,e1,e2,dn,h0⟩:=h.e.ow _ _ mm
    cases e1
    exact ⟨.lst e2 (dn.fzs e3),fun b hb=>by rw[x4.mp hb];exact h0⟩
 | tr S d' =>
  cases e
  obtain ⟨v',e1,ot,h0⟩:=h.e.tr _ _ _ mm
  cases e1
  rw [ao]
  exact ⟨ot,h0⟩
 | vw i =>
  have e:(env[i]?).bind slF=some d:=e
  cases q:env[i]? with
  | none=>rw[q] at e;cases e
  | some s' =>
   rw [q] at e
   cases s' with
   | fr d' =>
    have e:(if noL d'=true then some d' else none)=some d:=e
    by_cases c:noL d'=true
    ·rw [if_pos c] at e
     cases e
     obtain ⟨x,e1,m1⟩:=h.slot q
     obtain ⟨v',e2,dn⟩:=h.e.fr _ _ m1
     have e3:=h.vw v i m
     rw [e1,e2] at e3
     cases e3
     rw [d3]
     exact ⟨dn.ot c,fun a ha=>by cases ha⟩
    ·rw [if_neg c] at e
     cases e
   | _=>cases e
 | _=>cases e
theorem Rel.trees (h:Rel K M P H0 σ0 σ env ts H):∀ {vs:List V}{ss:List Sl}{ds:List PyData},vs.length=ss.length→(∀ p∈vs.zip ss,p∈ts)→bo env ss=some ds→OTs K (Nw M (al σ env ts)) H vs ds (oas (tmp (vs.zip ss)))∧∀ a∈oas (tmp (vs.zip ss)),H0 a=none
 | [],[],_,_,_,e=>by cases e;exact⟨.nil,fun a ha=>by cases ha⟩
 | v :: vs,s::ss,ds,hl,hm,e=>by
  unfold bo at e
  cases e1:c9 env s with
  | none=>rw[e1] at e;cases e
  | some d =>
   rw [e1] at e
   cases e2:bo env ss with
   | none=>rw[e2] at e;cases e
   | some ds' =>
    rw [e2] at e
    cases e
    obtain ⟨a1,a2⟩:=h.tree (v:=v) (hm (v,s) (by simp)) e1
    obtain ⟨b1,b2⟩:=h.trees (vs:=vs) (ss:=ss) (by simpa using hl) (fun p hp=>hm p (by simp[hp])) e2
    have oe:oas (tmp ((v::vs).zip (s::ss)))=bw (some v,s)++oas (tmp (vs.zip ss)):=ad _ _
    rw [oe]
    exact ⟨.cons a1 b1,fun a ha=>(x8.mp ha).elim (a2 a) (b2 a)⟩
 | [],_::_,_,hl,_,_=>by simp at hl
 | _::_,[],_,hl,_,_=>by simp at hl
theorem lK {p:Addr}{o:HO}{vs:List V}{ds:List PyData}{S:List Addr} (q:OTs K N H vs ds S) (hp:H p=none):OTs K N (upd H p o) vs ds S:=q.keep (aI.same (aH.new hp)) fun a ha=>by
 obtain ⟨xs,z⟩:=q.lives a ha
 rw [aH.new hp _ _ z,z]
theorem aJ.foldL (h:aJ K M P H0 (E++T) H) {p:Addr}{vs:List V}{ds:List PyData} (hp:H p=none) (q:OTs K (Nw M (E++T)) H vs ds (oas T)) (hq:∀ a∈oas T,H0 a=none):aJ K M P H0 (E++[(some (.ref p),.tr (p::oas T) (.list ds))]) (upd H p (.lst vs)):=by
 have oe:oas (E++[(some (.ref p),Sl.tr (p::oas T) (.list ds))])=oas E++p::oas T:=by
  rw [ac,ad,ao]
  simp [oas]
 have np:p ∉ oas (E++T):=fun z=>by
  obtain ⟨vs',q,_⟩:=h.own z
  rw [hp] at q
  cases q
 have h0:H0 p=none:=by
  cases e:H0 p with
  | none=>rfl
  | some o=>exact absurd hp (h.live p (by rw[e];simp))
 have up:∀ b o,H b=some o→Nw M (E++[(some (.ref p),Sl.tr (p::oas T) (.list ds))]) b→Nw M (E++T) b:=fun b o e z=>by
  rcases z with z|z
  ·exact .inl z
  ·rw [oe] at z
   rcases x8.mp z with z|z
   ·exact .inr (by rw[ac];exact x3 _ z)
   ·rcases ye.mp z with z|z
    ·rw [z,hp] at e
     cases e
    ·exact .inr (by rw[ac];exact xY _ z)
 have old:∀ x s,(x,s)∈E++[(some (.ref p),Sl.tr (p::oas T) (.list ds))]→(x,s)∈E++T∨(x,s)=(some (.ref p),Sl.tr (p::oas T) (.list ds)):=fun x s m=>by
  rcases x8.mp m with m|m
  ·exact .inl (x3 _ m)
  ·exact .inr (x4.mp m)
 have h':=h.same (aH.new (o:=.lst vs) hp)
 refine ⟨h'.keep,h'.live,h.mt,h.pm,fun x d' m=>?_,fun x d' m=>?_,fun x d' m=>?_,fun x S d' m=>?_,?_⟩
 ·rcases old _ _ m with m|m
  ·obtain ⟨v,e,dn⟩:=h.fr x d' m
   exact ⟨v,e,(dn.to up).keep (aI.same (aH.new hp))⟩
  ·cases m
 ·rcases old _ _ m with m|m
  ·obtain ⟨a,ws,e,e2,dn,r⟩:=h.ow x d' m
   exact ⟨a,ws,e,aH.new hp _ _ e2,(dn.to up).keep (aI.same (aH.new hp)),r⟩
  ·cases m
 ·rcases old _ _ m with m|m
  ·obtain ⟨a,ws,e,e2,dn,r⟩:=h.io x d' m
   exact ⟨a,ws,e,aH.new hp _ _ e2,(dn.to up).keep (aI.same (aH.new hp)),r⟩
  ·cases m
 ·rcases old _ _ m with m|m
  ·obtain ⟨v,e,dn,r⟩:=h.tr x S d' m
   exact ⟨v,e,(dn.to up).keep (aI.same (aH.new hp)) fun a ha=>by
    obtain ⟨xs,z⟩:=dn.lives a ha
    rw [aH.new hp _ _ z,z],r⟩
  ·cases m
   exact ⟨_,rfl,.lst aC (lK (q.to up) hp),fun a ha=>(ye.mp ha).elim (fun z=>by rw[z];exact h0) (hq a)⟩
 ·rw [oe]
  have nd:=h.nd
  rw [ac] at nd np
  obtain ⟨n1,n2,n3⟩:=yb.mp nd
  refine yb.mpr ⟨n1,yv.mpr ⟨fun z=>np (xY _ z),n2⟩,fun a ha b hb z=>?_⟩
  rcases ye.mp hb with hb|hb
  ·rw [hb] at z
   exact np (x3 _ (z▸ha))
  ·exact n3 a ha b hb z
theorem Rel.resLstT (h:Rel K M P H0 σ0 σ env (ts++tt) H) {p:Addr}{vs:List V}{ds:List PyData} (hp:H p=none) (q:OTs K (Nw M (al σ env (ts++tt))) H vs ds (oas (tmp tt))) (h0:∀ a∈oas (tmp tt),H0 a=none) :
  Rel K M P H0 σ0 σ env (ts++[(.ref p,.tr (p::oas (tmp tt)) (.list ds))]) (upd H p (.lst vs)):=by
 have hE:=h.e
 rw [aj] at hE q
 exact h.drop.withRes (hE.foldL hp q h0) rfl
end
section
variable {X:Cx}{K:PySem.W.Frag}{pos:Pos}{es:List Expr}{tl:DA}
end
section
variable {K:PySem.W.Frag}{M P N:Addr→Prop}{H0 H H':Hp}{E T A B:List Ent}{σ0 σ:St}{env:List Sl}{ts tt kp:List (V×Sl)}{v:V}{s:Sl}{d:PyData}
theorem nH {E E':List Ent} (p:E'.Perm E):(oas E').Perm (oas E):=List.Perm.flatMap_right _ p
theorem aJ.perm (h:aJ K M P H0 E H) {E':List Ent} (p:E'.Perm E):aJ K M P H0 E' H:=h.sub (fun x s m=>.inl (p.mem_iff.mp m)) ((nH p).nodup_iff.mpr h.nd)
theorem Rel.perm (h:Rel K M P H0 σ0 σ env ts H) {ts':List (V×Sl)} (p:ts'.Perm ts):Rel K M P H0 σ0 σ env ts' H :=
 ⟨h.e.perm (List.Perm.append_left _ (p.map _)),h.len,fun v i m=>h.vw v i (p.mem_iff.mp m),h.ios⟩
theorem kL {env env':List Sl}{s:Sl} (h:eP s=true):c9 env s=c9 env' s:=by
 cases s <;> first|rfl|cases h
theorem c8 {env env':List Sl}:∀ {ss:List Sl},(∀ s∈ss,eP s=true)→bo env ss=bo env' ss
 | [],_=>rfl
 | s::ss,h=>by
  unfold bo
  rw [kL (env':=env') (h s ya),c8 fun x hx=>h x (x9 _ hx)]
theorem eV {env:List Sl}{d:PyData}{s:Sl} (e:c9 env s=some d):∀ {ss:List Sl}{ds:List PyData},bo env ss=some ds→bo env (ss++[s])=some (ds++[d])
 | [],ds,h=>by
  cases h
  show (c9 env s).bind _=_
  rw [e];rfl
 | z :: ss,ds,h=>by
  unfold bo at h
  cases e1:c9 env z with
  | none=>rw[e1] at h;cases h
  | some d1 =>
   rw [e1] at h
   cases e2:bo env ss with
   | none=>rw[e2] at h;cases h
   | some ds' =>
    rw [e2] at h
    cases h
    show (c9 env z).bind _=_
    rw [e1]
    show (bo env (ss++[s])).bind _=_
    rw [eV e e2]
    rfl
end
noncomputable def CDT (ds:List PyData) (ix:List (Option Nat)) (g:DG) (tt:DT) (te:DE) (env:List Sl) (R:Sl→List Sl→Prop):Prop:=∃ W:Nat→List PyData→Prop,W 0 [] ∧
 (∀ i rs,(h:i<ds.length)→W i rs→rs.length<sizeLine∧g ds[i] (cQ ix env) fun b1=>tt b1 fun k b2=>if k=true then te b2 fun s b3=>∃ s' d,dS b3 s=some s'∧c9 [] s'=some d∧W (i+1) (rs++[d]) else W (i+1) rs)∧∀ rs,W ds.length rs→∀ S,R (.tr S (.list rs)) env
noncomputable def jP (it:DI) (ix:List (Option Nat)) (g:DG) (tt:DT) (te:DE):DE:=fun env R=>it env fun ds env1=>CDT ds ix g tt te env1 (dK R ⟨⟩)
section
variable {K:PySem.W.Frag}
theorem oT {it:DI}{ix:List (Option Nat)}{g:DG}{tt:DT}{te:DE}:∀ σ H Q,up K (jP it ix g tt te) σ H Q→kO (upI K it) ix (upG K g) (upT K tt) (up K te) σ H Q:=fun σ H Q h=>by
 obtain ⟨M,P,H0,σ0,env,ts,R,rel,ht,hq⟩:=h
 refine ⟨M,P,H0,σ0,env,ts,_,rel,ht,fun ds env1 J H1 kp hF rel1 io=>?_⟩
 obtain ⟨W,w0,turn,done⟩:=hF
 let Iv:Nat→List V→Hp→Prop:=fun i ys H=>∃ rs ss,W i rs∧ys.length=ss.length∧(∀ s∈ss,eP s=true)∧bo [] ss=some rs∧Rel K M P H0 σ0 σ env1 ((ts++ys.zip ss)++kp) H
 refine ⟨fun i m ys H=>m=ds.length - i∧i≤ds.length∧Iv i ys H,⟨_,rfl,yo _,[],[],w0,rfl,fun s hs=>(by cases hs),rfl,by simpa using rel1⟩,?_⟩
 rintro i m ys H2 ⟨rfl,hle,rs,ss,w2,hl,hr,tr2,rel2⟩
 have rl:ys.length=rs.length:=by
  obtain ⟨q,_⟩:=rel2.trees hl (fun p hp=>x3 _ (xY _ hp)) ((c8 hr).trans tr2)
  exact q.len
 by_cases hlt:i<ds.length
 ·obtain ⟨hz,tr⟩:=turn i rs hlt w2
  refine .inr ⟨io.go rel2 i hlt,by rw[rl];exact hz,fun ys' H'=>Iv (i+1) ys' H',fun ys' H' z=>⟨ds.length - (i+1),by omega,rfl,hlt,z⟩,fun x H3 y=>?_⟩
  obtain ⟨sm,dn⟩:=io.yld rel2 i x H3 hlt y
  have rel3:=rel2.same sm
  have rb:=iU (ix:=ix) rel3
  have oe:=fP (ix:=ix) rel3
  have nb:∀ b,Nw (Nw M (al σ env1 ((ts++ys.zip ss)++kp))) (al (bU σ ix) (cQ ix env1) []) b→Nw M (al σ env1 ((ts++ys.zip ss)++kp)) b:=fun b z=>by
   rcases z with z|z
   ·exact z
   ·have ee:al (bU σ ix) (cQ ix env1) []=(bU σ ix).zip (cQ ix env1):=by simp[al,tmp]
    rw [ee,oe] at z;cases z
  refine ⟨_,_,_,_,cQ ix env1,[],ds[i],_,fun w i m=>(by cases m),rb,dn.to fun b _ _ z=>nb b z,tr,fun σ2 b1 H4 h4 rel4=>?_⟩
  refine ⟨_,_,_,_,b1,[],_,rel4,h4,fun kk b2 H5 h5 rel5=>?_⟩
  cases kk with
  | false =>
   have k5:aH H3 H5:=(rel5.e.keep.mono (M:=N0) fun b z=>z).none
   exact ⟨rs,ss,h5,hl,hr,tr2,rel3.same k5⟩
  | true =>
   refine ⟨_,_,_,_,b2,[],_,rel5,h5,fun s b3 v H6 h6 rel6=>?_⟩
   obtain ⟨s',d,es,td,w6⟩:=h6
   have k6:aH H3 H6:=(rel6.e.keep.mono (M:=N0) fun b z=>z).none
   obtain ⟨rel7,ir⟩:=rel6.unVw (ts:=[]) es
   have rk:bv K (Nw M (al σ env1 ((ts++ys.zip ss)++kp))) H3 H6 v s':=by
    have e7:=rel7.e
    rw [show al σ2 b3 ([]++[(v,s')])=al σ2 b3 []++tmp [(v,s')] from aj] at e7
    have e8:aJ K _ _ H3 [(some v,s')] H6:=e7.sub (fun x t m=>.inl (xY _ m)) (by
     have nd:=e7.nd
     rw [ac] at nd
     exact (yb.mp nd).2.1)
    exact aJ.resOk (T:=[]) e8 ir
   have rel8:=rel3.withRes (rel3.e.called k6 rk) ir
   refine ⟨rs++[d],ss++[s'],w6,by simp[hl],fun t ht'=>?_,eV td tr2,?_⟩
   ·rcases x8.mp ht' with ht'|ht'
    ·exact hr t ht'
    ·rw [x4.mp ht'];exact ir
   ·rw [List.zip_append hl]
    refine rel8.perm ?_
    have:ts++(ys.zip ss++[v].zip [s'])++kp=(ts++ys.zip ss)++([(v,s')]++kp):=by simp
    rw [this]
    have e9:ts++ys.zip ss++kp++[(v,s')]=(ts++ys.zip ss)++(kp++[(v,s')]):=by simp
    rw [e9]
    exact List.Perm.append_left _ zi
 ·have e:i=ds.length:=by omega
  subst e
  refine .inl ⟨io.stop rel2,fun p hp=>?_⟩
  have rel3:=rel2.drop
  obtain ⟨q,h0⟩:=rel3.trees hl (fun p hp=>xY _ hp) ((c8 hr).trans tr2)
  exact hq _ _ _ _ (done _ w2 _) (rel3.resLstT hp q h0)
section
variable {X:Cx}{pos spos:Pos}{N':List Str}{ix:List (Option Nat)}{it:DI}{g:DG}{tt:DT}{te:DE}{tg iter elt:Expr}{ifs:List Expr}
end
end
noncomputable def sQ:Sl→Option PyData
 | .fr d=>some d
 | .ow ds=>some (.list ds)
 | .io ds=>some (.list ds)
 | .tr _ d=>some d
 | _=>none
noncomputable def mG (env:List Sl):Sl→Option PyData
 | .vw i=>(env[i]?).bind sQ
 | .fr d=>some d
 | .ow ds=>some (.list ds)
 | .tr _ d=>some d
 | _=>none
noncomputable def eD (env:List Sl):List Sl→Option (List PyData)
 | []=>some []
 | s::ss=>(mG env s).bind fun d=>(eD env ss).bind fun ds=>some (d::ds)
noncomputable def atom:PyData→Bool
 | .none=>true
 | .bool _=>true
 | .int _=>true
 | .str _=>true
 | _=>false
section
variable {K:PySem.W.Frag}{M P N:Addr→Prop}{H0 H H':Hp}{E T A B:List Ent}{σ0 σ:St}{env:List Sl}{ts tt kp:List (V×Sl)}{v:V}{s:Sl}{d:PyData}
theorem DN.atom {N2:Addr→Prop}{H2:Hp} (h:DN K N H v d) (e:atom d=true):DN K N2 H2 v d:=by
 cases h with
 | non=>exact .non
 | bl b=>exact .bl b
 | int i=>exact .int i
 | lst _ _=>cases e
 | tup _ _=>cases e
 | dct _ _ _ _ _=>cases e
 | fz _=>cases e
theorem aJ.lent {x:Option V} (h:aJ K M P H0 E H) (m:(x,s)∈E) (e:sQ s=some d):∃ v,x=some v∧DN K N0 H v d:=by
 cases s with
 | fr d'=>cases e;obtain⟨v,e1,dn⟩:=h.fr _ _ m;exact⟨v,e1,dn.to fun b _ _ z=>z.elim⟩
 | ow ds=>cases e;obtain⟨a,vs,e1,e2,dn,_⟩:=h.ow _ _ m;exact⟨_,e1,.lst (SnL.of e2 fun z=>z) (dn.to fun b _ _ z=>z.elim)⟩
 | io ds=>cases e;obtain⟨a,vs,e1,e2,dn,_⟩:=h.io _ _ m;exact⟨_,e1,.lst (SnL.of e2 fun z=>z) (dn.to fun b _ _ z=>z.elim)⟩
 | tr S d'=>cases e;obtain⟨v,e1,ot,_⟩:=h.tr _ _ _ m;exact⟨v,e1,ot.dn (fun b z=>z.elim) fun a _ z=>z⟩
 | _=>cases e
theorem Rel.lentAt (h:Rel K M P H0 σ0 σ env ts H) {i:Nat} (e:(env[i]?).bind sQ=some d):∃ v,σ[i]? = some (some v)∧DN K N0 H v d:=by
 cases q:env[i]? with
 | none=>rw[q] at e;cases e
 | some s =>
  rw [q] at e
  obtain ⟨x,e1,m⟩:=h.slot q
  obtain ⟨v,e2,w⟩:=h.e.lent m e
  exact ⟨v,by rw[e1,e2],w⟩
theorem Rel.lent (h:Rel K M P H0 σ0 σ env ts H) (m:(v,s)∈ts) (e:mG env s=some d):DN K N0 H v d:=by
 cases s with
 | vw i =>
  obtain ⟨w,e1,q⟩:=h.lentAt e
  rw [h.vw v i m] at e1
  cases e1
  exact q
 | fr d'=>obtain⟨w,e1,q⟩:=h.e.lent (s:=.fr d') (bC m) e;cases e1;exact q
 | ow d'=>obtain⟨w,e1,q⟩:=h.e.lent (s:=.ow d') (bC m) e;cases e1;exact q
 | tr S d'=>obtain⟨w,e1,q⟩:=h.e.lent (s:=.tr S d') (bC m) e;cases e1;exact q
 | _=>cases e
theorem Rel.lents (h:Rel K M P H0 σ0 σ env ts H):∀ {vs:List V}{ss:List Sl}{ds:List PyData},vs.length=ss.length→(∀ p∈vs.zip ss,p∈ts)→eD env ss=some ds→DNs K N0 H vs ds
 | [],[],_,_,_,e=>by cases e;exact .nil
 | v :: vs,s::ss,ds,hl,hm,e=>by
  unfold eD at e
  cases e1:mG env s with
  | none=>rw[e1] at e;cases e
  | some d =>
   rw [e1] at e
   cases e2:eD env ss with
   | none=>rw[e2] at e;cases e
   | some ds' =>
    rw [e2] at e
    cases e
    exact .cons (h.lent (hm (v,s) (by simp)) e1) (h.lents (by simpa using hl) (fun p hp=>hm p (by simp[hp])) e2)
 | [],_::_,_,hl,_,_=>by simp at hl
 | _::_,[],_,hl,_,_=>by simp at hl
end
section
variable {X:Cx}{K:PySem.W.Frag}{pos p:Pos}{tl:DA}{sp:DSp}{x:Str}{k:Nat}{e:Expr}{es:List Expr}
noncomputable def wK (i:Nat):DE:=fun env R=>∃ d,(env[i]?).bind sQ=some d∧R (.vw i) env
theorem qO (i:Nat) {x:Str} (hN:X.N[i]? = some x:=by rfl) (hv:Vis X.env.scope x:=by first|exact Or.inl rfl|exact Or.inr (Or.inl rfl)|exact Or.inr (Or.inr rfl)) (hd:(x==("__debug__" : Str))=false:=by decide)
  (hcd:(x==("__classdict__" : Str))=false:=by decide):PE X (.Name x pos) (up K (wK i)):=(cE hN hv hd hcd).imp fun σ H Q h=>by
 obtain ⟨M,P,H0,σ0,env,ts,R,rel,⟨d,e,hR⟩,hq⟩:=h
 obtain ⟨v,e1,_⟩:=rel.lentAt e
 exact ⟨v,e1,hq _ _ _ _ hR (rel.addVw e1)⟩
noncomputable def jR (sp:DSp) (t:DA):DE:=fun env R=>t env fun ss env1=>∃ ds,eD env1 ss=some ds∧sp (ds.map .fr) (dK (fun r _=>∃ d,r=.fr d∧atom d=true∧R (.fr d) env1) ⟨⟩)
theorem oX:∀ σ H Q,up K (jR sp tl) σ H Q→il (spD K sp) [] E0 (upA K tl) σ H Q:=fun σ H Q h=>by
 obtain ⟨M,P,H0,σ0,env,ts,R,rel,ht,hq⟩:=h
 refine ⟨M,P,H0,σ0,env,ts,_,rel,ht,fun ss env1 vs H1 h1 hl rel1=>?_⟩
 obtain ⟨ds,ek,hsp⟩:=h1
 rw [yu]
 have dns:=rel1.lents hl (fun p hp=>xY _ hp) ek
 have oe:=d5 vs ds
 refine ⟨N0,ds.map .fr,_,by simp[dns.len],mM dns fun a z=>z.elim,hsp,fun r ss' v H' hR hr post=>?_⟩
 obtain ⟨d,rfl,ha,hR⟩:=hR
 have k:aH H1 H':=(post.keep.mono (M:=N0) fun b z=>by
  have z:b∈oas (tmp (vs.zip (ds.map .fr))):=z
  rw [oe] at z
  cases z).none
 obtain ⟨w,e1,dn⟩:=post.fr _ _ ya
 cases e1
 exact hq _ _ _ _ hR ((rel1.drop.same k).addFr (dn.atom ha))
theorem lw (C:Cal X.prog X.w X.K X.mg X.base x k (spD K sp)) (hr:ci k X.A) (hg:Gl X x) (ha:PA X (e::es) (upA K tl)) (hd:(x==("__debug__" : Str))=false:=by decide)
  (he:starEach (e::es) X.env=(false,eval e X.env)::starEach es X.env:=by rfl) (hpl:(backTo pos (starEach es X.env)).any (·.1)=false:=by rfl):PE X (.Call (.Name x p) (e::es) [] pos) (up K (jR sp tl)):=(gj C hr hg ha hd he hpl).imp oX
end
section
variable {K:PySem.W.Frag}{N:Addr→Prop}{H H':Hp}
theorem OTs.split:∀ {xs:List V}{cs:List PyData}{S:List Addr}{i:Nat}{c:PyData},OTs K N H xs cs S→cs[i]? = some c→∃ x S1 Sx S2,xs[i]? = some x∧S=S1++(Sx++S2)∧OT K N H x c Sx ∧
  ∀ {N1:Addr→Prop}{H':Hp}{c':PyData}{Sx':List Addr},(∀ b o,H b=some o→N1 b→N b)→aI N1 H H'→(∀ b∈S1,H' b=H b)→(∀ b∈S2,H' b=H b)→OT K N1 H' x c' Sx'→OTs K N1 H' xs (cs.set i c') (S1++(Sx'++S2))
 | _,_,_,_,_,.nil,h=>by simp at h
 | _,_,_,0,c,@OTs.cons _ _ _ x xs d ds S S' h q,e=>by
  have e:d=c:=by simpa using e
  subst e
  exact ⟨x,[],S,S',rfl,rfl,h,fun {N1 H' c' Sx'} m k _ k2 o=>(show OTs K N1 H' (x::xs) (c'::ds) (Sx'++S') from .cons o ((q.to m).keep k k2))⟩
 | _,_,_,i+1,c,@OTs.cons _ _ _ x xs d ds S S' h q,e=>by
  obtain ⟨y,S1,Sx,S2,e1,e2,o,f⟩:=OTs.split (i:=i) (c:=c) q (by simpa using e)
  refine ⟨y,S++S1,Sx,S2,by simpa using e1,by rw[e2];simp,o,fun {N1 H' c' Sx'} m k k1 k2 o'=>?_⟩
  have:=OTs.cons ((h.to m).keep k fun b hb=>k1 b (x3 _ hb)) (f m k (fun b hb=>k1 b (xY _ hb)) k2 o')
  rw [yR]
  exact this
end
section
variable {K:PySem.W.Frag}{M P N:Addr→Prop}{H0 H H':Hp}{E T A B:List Ent}{σ0 σ:St}{env:List Sl}{ts tt kp:List (V×Sl)}{v:V}{s:Sl}{d:PyData}
end
section
variable {X:Cx}{K:PySem.W.Frag}{pos:Pos}{M P N:Addr→Prop}{H0 H H':Hp}{σ0 σ:St}{env:List Sl}{ts:List (V×Sl)}
theorem Rel.setTr {i:Nat}{S S':List Addr}{d d':PyData}{v:V}{A B:List Ent} (h:Rel K M P H0 σ0 σ env ts H) (e:env[i]? = some (.tr S d)) (q2:al σ (env.set i (.tr S' d')) ts=A++(some v,.tr S' d')::B) (re:aJ K M P H0 (A++(some v,.tr S' d')::B) H'):Rel K M P H0 σ0 σ (env.set i (.tr S' d')) ts H':=by
 refine ⟨by rw[q2];exact re,by simp[h.len],h.vw,fun j ds' e'=>?_⟩
 by_cases hj:i=j
 ·subst hj
  have hi:i<env.length:=(yc.mp e).1
  rw [yk hi] at e'
  cases e'
 ·rw [yj hj] at e'
  exact h.ios j ds' e'
end
section
variable {X:Cx}{K:PySem.W.Frag}{pos:Pos}{M P N:Addr→Prop}{H0 H H':Hp}{σ0 σ:St}{env:List Sl}{ts:List (V×Sl)}
end
section
variable {K:PySem.W.Frag}{H:Hp}
theorem DVs.item:∀ {vs:List V}{ds:List PyData}{i:Nat}{c:PyData},DVs K H vs ds→ds[i]? = some c→∃ x,vs[i]? = some x∧DV K H x c
 | _,_,_,_,.nil,h=>by simp at h
 | _,_,0,_,.cons h _,e=>by simp at e;subst e;exact⟨_,rfl,h⟩
 | _,_,i+1,c,.cons _ q,e=>by
  obtain ⟨x,h1,h2⟩:=DVs.item (i:=i) (c:=c) q (by simpa using e)
  exact ⟨x,by simpa using h1,h2⟩
end
section
variable {X:Cx}{K:PySem.W.Frag}{pos:Pos}{M P N:Addr→Prop}{H0 H H':Hp}{σ0 σ:St}{env:List Sl}{ts:List (V×Sl)}
end
section
variable {K:PySem.W.Frag}{M P N:Addr→Prop}{H0 H H':Hp}{E T A B:List Ent}{σ0 σ:St}{env:List Sl}{ts tt kp:List (V×Sl)}{v:V}{s:Sl}{d:PyData}
theorem aJ.retree {S S':List Addr}{d':PyData}{a:Addr}{us:List V} (h:aJ K M P H0 (A++(some v,.tr S d)::B) H) (ma:a∈S) (pm:S'.Perm S) (ot':OT K (Nw M (A++(some v,.tr S d)::B)) (upd H a (.lst us)) v d' S'):aJ K M P H0 (A++(some v,.tr S' d')::B) (upd H a (.lst us))∧Nw M (A++(some v,.tr S' d')::B)=Nw M (A++(some v,.tr S d)::B):=by
 obtain ⟨v',ev,ot,h0⟩:=h.tr _ _ _ (xY _ ya)
 cases ev
 have oe:oas (A++(some v,Sl.tr S d)::B)=oas A++(S++oas B):=by rw[ac,ad,ao]
 have nd:=h.nd
 rw [oe] at nd
 obtain ⟨n1,n2,n3⟩:=yb.mp nd
 obtain ⟨n4,n5,n6⟩:=yb.mp n2
 have na:Nw M (A++(some v,Sl.tr S d)::B) a:=.inr (by rw[oe];exact xY _ (x3 _ ma))
 have kN:aI (Nw M (A++(some v,Sl.tr S d)::B)) H (upd H a (.lst us)):=aI.own na
 have oe2:oas (A++(some v,Sl.tr S' d')::B)=oas A++(S'++oas B):=by rw[ac,ad,ao]
 have pm2:(oas A++(S'++oas B)).Perm (oas A++(S++oas B)):=List.Perm.append_left _ (List.Perm.append_right _ pm)
 have ne:Nw M (A++(some v,Sl.tr S' d')::B)=Nw M (A++(some v,Sl.tr S d)::B):=by
  funext b
  apply propext
  unfold Nw
  rw [oe,oe2,pm2.mem_iff]
 refine ⟨?_,ne⟩
 have back:∀ x t,(x,t)∈A∨(x,t)∈B→(x,t)∈A++(some v,Sl.tr S d)::B:=fun x t m=>by
  rcases m with m|m
  ·exact x3 _ m
  ·exact xY _ (x9 _ m)
 have old:∀ x t,(x,t)∈A++(some v,Sl.tr S' d')::B→(x,t)=(some v,Sl.tr S' d')∨((x,t)∈A∨(x,t)∈B):=fun x t m=>by
  rcases x8.mp m with m|m
  ·exact .inr (.inl m)
  ·rcases ye.mp m with m|m
   ·exact .inl m
   ·exact .inr (.inr m)
 have other:∀ x t b,(x,t)∈A∨(x,t)∈B→b∈bw (x,t)→b≠a:=fun x t b m eo z=>by
  subst z
  rcases m with m|m
  ·exact n3 b (aG.mpr ⟨_,m,eo⟩) b (x3 _ ma) rfl
  ·exact n6 b ma b (aG.mpr ⟨_,m,eo⟩) rfl
 refine ⟨h.keep.put (h0 a ma),fun b q z=>?_,h.mt,h.pm,fun x d' m=>?_,fun x d' m=>?_,fun x d' m=>?_,fun x S2 d' m=>?_,?_⟩
 ·by_cases hb:b=a
  ·subst hb;rw[aC] at z;cases z
  ·rw [ag hb] at z;exact h.live b q z
 ·rw [ne]
  rcases old _ _ m with m|m
  ·cases m
  ·obtain ⟨w',e1,dn⟩:=h.fr x d' (back _ _ m)
   exact ⟨w',e1,dn.keep kN⟩
 ·rw [ne]
  rcases old _ _ m with m|m
  ·cases m
  ·obtain ⟨b,us2,e1,e2,dn,r2⟩:=h.ow x d' (back _ _ m)
   subst e1
   exact ⟨b,us2,rfl,by rw[ag (other _ _ b m (x4.mpr rfl))];exact e2,dn.keep kN,r2⟩
 ·rw [ne]
  rcases old _ _ m with m|m
  ·cases m
  ·obtain ⟨b,us2,e1,e2,dn,r2⟩:=h.io x d' (back _ _ m)
   subst e1
   exact ⟨b,us2,rfl,by rw[ag (other _ _ b m (x4.mpr rfl))];exact e2,dn.keep kN,r2⟩
 ·rw [ne]
  rcases old _ _ m with m|m
  ·cases m
   exact ⟨v,rfl,ot',fun b hb=>h0 b (pm.mem_iff.mp hb)⟩
  ·obtain ⟨w',e1,dn,r2⟩:=h.tr x S2 d' (back _ _ m)
   subst e1
   exact ⟨w',rfl,dn.keep kN fun b hb=>ag (other _ _ b m (by rw[ao];exact hb)),r2⟩
 ·rw [oe2]
  exact pm2.nodup_iff.mpr nd
end
section
variable {K:PySem.W.Frag}{M P N:Addr→Prop}{H0 H H':Hp}{σ0 σ:St}{env:List Sl}{ts tt kp:List (V×Sl)}{v:V}{s:Sl}{d:PyData}
theorem Rel.setUn (h:Rel K M P H0 σ0 σ env ts H) (nv:m4 ts) {j:Nat} (hj:j<env.length) (y:Option V):Rel K M P H0 σ0 (σ.set j y) (env.set j .un) ts H∧∀ b,Nw M (al (σ.set j y) (env.set j .un) ts) b→Nw M (al σ env ts) b:=by
 have hiz:j<(σ.zip env).length:=by rw[yM,h.len];omega
 obtain ⟨ent,hent⟩:∃ e,(σ.zip env)[j]? = some e:=⟨_,x5 hiz⟩
 obtain ⟨A,B,q1,q2⟩:=ca hent
 have e1:al σ env ts=A++ent::(B++tmp ts):=by
  unfold al
  rw [q1]
  simp
 have e2:al (σ.set j y) (env.set j .un) ts=A++(y,.un)::(B++tmp ts):=by
  unfold al
  rw [i6,q2]
  simp
 have hE:=h.e
 rw [e1] at hE
 refine ⟨⟨by rw[e2];exact aJ.kill (x:=ent.1) (s:=ent.2) hE,by simp[h.len],fun w i m=>absurd m (nv w i),fun i ds e=>?_⟩,fun b z=>?_⟩
 ·by_cases hi:j=i
  ·subst hi
   rw [yk hj] at e
   cases e
  ·rw [yj hi] at e
   rw [yj hi]
   exact h.ios i ds e
 ·rw [e2] at z
  rw [e1]
  rcases z with z|z
  ·exact .inl z
  ·refine .inr ?_
   rw [ac,ad,cL] at z
   rw [ac,ad]
   rcases x8.mp z with z|z
   ·exact x3 _ z
   ·exact xY _ (xY _ z)
end
section
variable {X:Cx}{K:PySem.W.Frag}{pos:Pos}
end
theorem d6 (ns:List Int):ki (ns.map PyData.int)=true:=by
 induction ns with
 | nil=>rfl
 | cons n ns ih=>exact ih
theorem fb {α:Type} (l:List α) (z:α):(List.range l.length).map (fun i=>l.getD i z)=l:=by
 refine List.ext_getElem (by simp) fun i h1 h2=>?_
 simp [yd,x5 h2]
theorem db {α β:Type} (l:List α) (z:α) (g:α→β):(List.range l.length).map (fun i=>g (l.getD i z))=l.map g:=by
 conv=>rhs;rw[←fb l z,yD]
 rfl
theorem cU {α β:Type} (l:List α) (z:α) (p:α→Bool) (g:α→β):((List.range l.length).filter fun i=>p (l.getD i z)).map (fun i=>g (l.getD i z))=(l.filter p).map g:=by
 conv=>rhs;rw[←fb l z,List.filter_map,yD]
 rfl
noncomputable abbrev lr (rs:List (List Int)):List PyData:=rs.map fun r=>.list (li r)
theorem gx {rs:List (List Int)}{i:Nat}{h:i<(lr rs).length}:(lr rs)[i]=.list (li (rs.getD i [])):=by
 have h':i<rs.length:=by simpa using h
 rw [List.getElem_map,yd,x5 h']
 rfl
theorem Sh.lr (n:Nat) (rs:List (List Int)):Sh (n+2) (.list (lr rs)):=Sh.list fun x hx=>by
 obtain ⟨r,_,rfl⟩:=yr.mp hx
 exact Sh.ints n r
theorem Sh.two {n:Nat}{a b:PyData} (ha:Sh n a) (hb:Sh n b):Sh (n+1) (.tuple [a,b]):=Sh.tuple fun x hx=>by
 simp only [ye,yt,or_false] at hx
 rcases hx with rfl|rfl <;> assumption
theorem Pl.lr (n:Nat) {rs:List (List Int)} (h1:rs.length≤1000000) (h2:∀ r∈rs,r.length≤1000000):Pl (n+2) (.list (lr rs)):=Pl.list (by rw[xZ];exact h1) fun x hx=>by
 obtain ⟨r,hr,rfl⟩:=yr.mp hx
 exact Pl.ints n (h2 r hr)
theorem Pl.two {n:Nat}{a b:PyData} (ha:Pl n a) (hb:Pl n b):Pl (n+1) (.tuple [a,b]):=Pl.tuple (by simp) fun x hx=>by
 simp only [ye,yt,or_false] at hx
 rcases hx with rfl|rfl <;> assumption
theorem fK {d:PyData}{n:Nat} (h:Sh n d) (hn:n≤64):PyData.eqv d d=true:=SeqAt.eqv_refl _ (SeqAt.canLay_of_shaped (h.shp hn))
section
variable {X:Cx}{K:PySem.W.Frag}{pos:Pos}{es:List Expr}{tl:DA}{e:Expr}{ta:DE}{M P N:Addr→Prop}{H0 H H':Hp}{σ0 σ:St}{env:List Sl}{ts:List (V×Sl)}
noncomputable def sD (t:DA):DE:=fun env R=>t env fun ss env1=>∃ ds,bo env1 ss=some ds∧ss.length≤sizeLine∧∀ S,R (.tr S (.list ds)) env1
theorem tP (h:PA X es (upA K tl)):PE X (.List es pos) (up K (sD tl)):=(pC h).imp fun σ H Q h=>by
 obtain ⟨M,P,H0,σ0,env,ts,R,rel,ht,hq⟩:=h
 refine ⟨M,P,H0,σ0,env,ts,_,rel,ht,fun ss env1 vs H1 h1 hl rel1=>?_⟩
 obtain ⟨ds,e,hz,hR⟩:=h1
 obtain ⟨q,h0⟩:=rel1.trees hl (fun p hp=>xY _ hp) e
 exact ⟨by omega,fun p hp=>hq _ _ _ _ (hR _) (rel1.resLstT hp q h0)⟩
end
section
variable {K:PySem.W.Frag}{N:Addr→Prop}{H:Hp}
end
section
variable {K:PySem.W.Frag}{M P N:Addr→Prop}{H0 H H':Hp}{A B:List Ent}{σ0 σ:St}{env:List Sl}{ts:List (V×Sl)}{v v':V}{d d':PyData}{S S':List Addr}{y:Option V}
end
section
variable {X:Cx}{K:PySem.W.Frag}{pos:Pos}{M P N:Addr→Prop}{H0 H H':Hp}{σ0 σ:St}{env:List Sl}{ts:List (V×Sl)}
end
noncomputable def vv:Sl→Bool
 | .ow _=>true
 | .tr _ _=>true
 | .fr _=>true
 | _=>false
section
variable {X:Cx}{K:PySem.W.Frag}{pos:Pos}{M P N:Addr→Prop}{H0 H H':Hp}{σ0 σ:St}{env:List Sl}{ts:List (V×Sl)}{v:V}
theorem Rel.move {i:Nat}{s:Sl} (h:Rel K M P H0 σ0 σ env ts H) (e:env[i]? = some s) (hs:vv s=true):∃ v,σ[i]? = some (some v)∧Rel K M P H0 σ0 σ (env.set i .un) (ts++[(v,s)]) H:=by
 obtain ⟨x,A,B,e1,q1,q2⟩:=h.split e
 have hE:=h.e
 rw [q1] at hE
 obtain ⟨v,ev⟩:∃ v,x=some v:=by
  cases s with
  | fr d=>obtain⟨v,ev,_⟩:=hE.fr _ _ (xY _ ya);exact⟨v,ev⟩
  | ow ds=>obtain⟨a,vs,ev,_⟩:=hE.ow _ _ (xY _ ya);exact⟨_,ev⟩
  | tr S d=>obtain⟨v,ev,_⟩:=hE.tr _ _ _ (xY _ ya);exact⟨v,ev⟩
  | _=>cases hs
 subst ev
 refine ⟨v,e1,?_⟩
 have en:al σ (env.set i .un) (ts++[(v,s)])=(A++(some v,Sl.un)::B)++[(some v,s)]:=by rw[aj,q2];rfl
 have oe:oas ((A++(some v,Sl.un)::B)++[(some v,s)])=oas A++(oas B++bw (some v,s)):=by
  rw [ac,ac,ad,cL,ad]
  simp [oas]
 refine ⟨?_,by simp[h.len],fun w j m=>?_,fun j l' e'=>?_⟩
 ·rw [en]
  refine hE.sub (fun x t m=>?_) ?_
  ·rcases x8.mp m with m|m
   ·rcases x8.mp m with m|m
    ·exact .inl (x3 _ m)
    ·rcases ye.mp m with m|m
     ·cases m;exact .inr (.inl rfl)
     ·exact .inl (xY _ (x9 _ m))
   ·rw [x4] at m
    cases m
    exact .inl (xY _ ya)
  ·have nd:=hE.nd
   rw [ac,ad] at nd
   rw [oe]
   exact (List.Perm.append_left _ zi).nodup_iff.mpr nd
 ·rcases x8.mp m with m|m
  ·exact h.vw w j m
  ·rw [x4] at m
   cases m
   cases hs
 ·by_cases hj:i=j
  ·subst hj
   rw [yk (yc.mp e).1] at e'
   cases e'
  ·rw [yj hj] at e'
   exact h.ios j l' e'
noncomputable def wI (i:Nat):DE:=fun env R=>∃ s,env[i]? = some s∧vv s=true∧R s (env.set i .un)
theorem nt (i:Nat) {x:Str} (hN:X.N[i]? = some x:=by rfl) (hv:Vis X.env.scope x:=by first|exact Or.inl rfl|exact Or.inr (Or.inl rfl)|exact Or.inr (Or.inr rfl)) (hd:(x==("__debug__" : Str))=false:=by decide)
  (hcd:(x==("__classdict__" : Str))=false:=by decide):PE X (.Name x pos) (up K (wI i)):=(cE hN hv hd hcd).imp fun σ H Q h=>by
 obtain ⟨M,P,H0,σ0,env,ts,R,rel,⟨s,e,hs,hR⟩,hq⟩:=h
 obtain ⟨v,e1,rel1⟩:=rel.move e hs
 exact ⟨v,e1,hq _ _ _ _ hR rel1⟩
end
end L2
namespace L2
open PySem Builtin Builtin.Str StrLaws PySem.NumText PySem.W
noncomputable def num (n:Int):Str:=Str.ofString (toString n)
end L2
namespace L2
open PySem Builtin Builtin.Str StrLaws
end L2
namespace L2
open PySem PySem.Spec PyProof.Rows
section
variable {X:Cx}{K:PySem.W.Frag}
end
section
variable {X:Cx}{K:PySem.W.Frag}{pos:Pos}{e o:Expr}{ta to:DE}{M P N:Addr→Prop}{H0 H H':Hp}{σ0 σ:St}{env:List Sl}{ts:List (V×Sl)}
end
section
variable {X:Cx}{K:PySem.W.Frag}{pos:Pos}{M P N:Addr→Prop}{H0 H H':Hp}{σ0 σ:St}{env:List Sl}{ts:List (V×Sl)}
mutual
theorem DV.same (k:aH H H'):∀ {v:V}{d:PyData},DV K H v d→DV K H' v d
 | _,_,.non=>.non
 | _,_,.bl b=>.bl b
 | _,_,.int i=>.int i
 | _,_,.lst h q=>.lst (h.keep k) (DVs.same k q)
 | _,_,.tup h q=>.tup (h.keep k) (DVs.same k q)
 | _,_,.dct h q r e=>.dct (k _ _ h) (DVs.same k q) (DVs.same k r) e
 | _,_,.fz h=>.fz (DV.same k h)
theorem DVs.same (k:aH H H'):∀ {v:List V}{d:List PyData},DVs K H v d→DVs K H' v d
 | _,_,.nil=>.nil
 | _,_,.cons h q=>.cons (DV.same k h) (DVs.same k q)
end
theorem DVs.drop:∀ {vs:List V}{ds:List PyData} (n:Nat),DVs K H vs ds→DVs K H (vs.drop n) (ds.drop n)
 | _,_,0,q=>q
 | _,_,_+1,.nil=>.nil
 | _,_,n+1,.cons _ q=>DVs.drop n q
end
section
variable {X:Cx}{K:PySem.W.Frag}{pos:Pos}{M P N:Addr→Prop}{H0 H H':Hp}{σ0 σ:St}{env:List Sl}{ts:List (V×Sl)}
theorem aJ.grow {A B T:List Ent}{v:V}{S S':List Addr}{d d':PyData}{a:Addr}{us:List V} (h:aJ K M P H0 (A++(some v,.tr S d)::(B++T)) H) (ma:a∈S) (pm:S'.Perm (S++oas T)) (hT:∀ a∈oas T,H0 a=none)
  (ot':OT K (Nw M (A++(some v,.tr S d)::(B++T))) (upd H a (.lst us)) v d' S'):aJ K M P H0 (A++(some v,.tr S' d')::B) (upd H a (.lst us)):=by
 obtain ⟨v',ev,ot,h0⟩:=h.tr _ _ _ (xY _ ya)
 cases ev
 have oe:oas (A++(some v,Sl.tr S d)::(B++T))=oas A++(S++(oas B++oas T)):=by rw[ac,ad,ao,ac]
 have nd:=h.nd
 rw [oe] at nd
 obtain ⟨n1,n2,n3⟩:=yb.mp nd
 obtain ⟨n4,n5,n6⟩:=yb.mp n2
 obtain ⟨n7,n8,n9⟩:=yb.mp n5
 have na:Nw M (A++(some v,Sl.tr S d)::(B++T)) a:=.inr (by rw[oe];exact xY _ (x3 _ ma))
 have kN:aI (Nw M (A++(some v,Sl.tr S d)::(B++T))) H (upd H a (.lst us)):=aI.own na
 have oe2:oas (A++(some v,Sl.tr S' d')::B)=oas A++(S'++oas B):=by rw[ac,ad,ao]
 have pm2:(oas A++(S'++oas B)).Perm (oas A++(S++(oas B++oas T))):=by
  refine List.Perm.append_left _ ((List.Perm.append_right _ pm).trans ?_)
  rw [yR]
  exact List.Perm.append_left _ zi
 have ne:Nw M (A++(some v,Sl.tr S' d')::B)=Nw M (A++(some v,Sl.tr S d)::(B++T)):=by
  funext b
  apply propext
  unfold Nw
  rw [oe,oe2,pm2.mem_iff]
 have back:∀ x t,(x,t)∈A∨(x,t)∈B→(x,t)∈A++(some v,Sl.tr S d)::(B++T):=fun x t m=>by
  rcases m with m|m
  ·exact x3 _ m
  ·exact xY _ (x9 _ (x3 _ m))
 have old:∀ x t,(x,t)∈A++(some v,Sl.tr S' d')::B→(x,t)=(some v,Sl.tr S' d')∨((x,t)∈A∨(x,t)∈B):=fun x t m=>by
  rcases x8.mp m with m|m
  ·exact .inr (.inl m)
  ·rcases ye.mp m with m|m
   ·exact .inl m
   ·exact .inr (.inr m)
 have other:∀ x t b,(x,t)∈A∨(x,t)∈B→b∈bw (x,t)→b≠a:=fun x t b m eo z=>by
  subst z
  rcases m with m|m
  ·exact n3 b (aG.mpr ⟨_,m,eo⟩) b (x3 _ ma) rfl
  ·exact n6 b ma b (x3 _ (aG.mpr ⟨_,m,eo⟩)) rfl
 refine ⟨h.keep.put (h0 a ma),fun b q z=>?_,h.mt,h.pm,fun x d' m=>?_,fun x d' m=>?_,fun x d' m=>?_,fun x S2 d' m=>?_,?_⟩
 ·by_cases hb:b=a
  ·subst hb;rw[aC] at z;cases z
  ·rw [ag hb] at z;exact h.live b q z
 ·rw [ne]
  rcases old _ _ m with m|m
  ·cases m
  ·obtain ⟨w',e1,dn⟩:=h.fr x d' (back _ _ m)
   exact ⟨w',e1,dn.keep kN⟩
 ·rw [ne]
  rcases old _ _ m with m|m
  ·cases m
  ·obtain ⟨b,us2,e1,e2,dn,r2⟩:=h.ow x d' (back _ _ m)
   subst e1
   exact ⟨b,us2,rfl,by rw[ag (other _ _ b m (x4.mpr rfl))];exact e2,dn.keep kN,r2⟩
 ·rw [ne]
  rcases old _ _ m with m|m
  ·cases m
  ·obtain ⟨b,us2,e1,e2,dn,r2⟩:=h.io x d' (back _ _ m)
   subst e1
   exact ⟨b,us2,rfl,by rw[ag (other _ _ b m (x4.mpr rfl))];exact e2,dn.keep kN,r2⟩
 ·rw [ne]
  rcases old _ _ m with m|m
  ·cases m
   refine ⟨v,rfl,ot',fun b hb=>?_⟩
   rcases x8.mp (pm.mem_iff.mp hb) with z|z
   ·exact h0 b z
   ·exact hT b z
  ·obtain ⟨w',e1,dn,r2⟩:=h.tr x S2 d' (back _ _ m)
   subst e1
   exact ⟨w',rfl,dn.keep kN fun b hb=>ag (other _ _ b m (by rw[ao];exact hb)),r2⟩
 ·rw [oe2]
  exact pm2.nodup_iff.mpr nd
end
section
variable {X:Cx}{K:PySem.W.Frag}{pos:Pos}{N':List Str}{ix:List (Option Nat)}{it:DI}{g:DG}{tt:DT}{te:DE}{tg iter elt:Expr}{ifs:List Expr}
end
section
variable {prog:Program}{w:World}{A:Around}{E:Value→Shared→Prop}{s:Shared}
end
section
variable {X:Cx}{K:PySem.W.Frag}{pos:Pos}{es:List Expr}
end
section
variable {X:Cx}{K:PySem.W.Frag}{pos:Pos}{N:Addr→Prop}{H:Hp}
end
section
variable {X:Cx}{K:PySem.W.Frag}{pos ip lp p':Pos}{c:Expr}{tc:DT}
end
end L2
namespace L2
open PySem PySem.W PyProof.Rows
noncomputable def c5 {α:Type} (n:Nat) (P:α→Prop):KasT α→Prop
 | .ret a=>P a
 | .ask i j k=>i<n∧j<n∧∀ b,c5 n P (k b)
theorem c5.bind {α β:Type}{n:Nat}{P:α→Prop}{R:β→Prop}{f:α→KasT β} (hf:∀ a,P a→c5 n R (f a)):∀ {t:KasT α},c5 n P t→c5 n R (t.bind f)
 | .ret a,h=>hf a h
 | .ask i j k,h=>⟨h.1,h.2.1,fun b=>c5.bind hf (h.2.2 b)⟩
theorem c5.mono {α:Type}{n:Nat}{P R:α→Prop} (hf:∀ a,P a→R a):∀ {t:KasT α},c5 n P t→c5 n R t
 | .ret a,h=>hf a h
 | .ask i j k,h=>⟨h.1,h.2.1,fun b=>c5.mono hf (h.2.2 b)⟩
noncomputable def Pn (n:Nat) (p:Array Nat):Prop:=p.Perm (List.range n).toArray
theorem Pn.rev {n i j:Nat}{p:Array Nat} (h:Pn n p):Pn n (kas_rev p i j):=(mirror_perm _ _ _ _).trans h
theorem Pn.bub {n i j:Nat}{p:Array Nat} (h:Pn n p):Pn n (bubble p i j):=(bubble_perm _ _ _).trans h
theorem Pn.list {n:Nat}{p:Array Nat} (h:Pn n p):p.toList.Perm (List.range n):=by
 have:=Array.perm_iff_toList_perm.mp h
 simpa using this
theorem Pn.lt {n:Nat}{p:Array Nat} (h:Pn n p) (h1:1≤n) (k:Nat):p.getD k 0<n:=by
 by_cases hk:k<p.size
 ·have e:p.getD k 0=p[k]:=by simp[Array.getD,hk]
  rw [e]
  have m:p[k]∈p.toList:=by simp
  exact List.mem_range.mp (h.list.mem_iff.mp m)
 ·have e:p.getD k 0=0:=by simp[Array.getD,hk]
  omega
section
variable {n:Nat}{p:Array Nat} (h1:1≤n)
include h1
theorem i4 (h:Pn n p):∀ (f k:Nat),c5 n (fun _=>True) (kas_asc p f k)
 | 0,k=>trivial
 | f+1,k=>⟨h.lt h1 _,h.lt h1 _,fun b=>by
  cases b with
  | true=>exact trivial
  | false=>exact i4 h f (k+1)⟩
theorem dL:∀ (f:Nat) (p:Array Nat) (k q:Nat),Pn n p→c5 n (fun r=>Pn n r.1) (kas_desc f p k q)
 | 0,p,k,q,h=>h
 | f + 1,p,k,q,h=>⟨h.lt h1 _,h.lt h1 _,fun b=>by
  cases b with
  | true =>
   show c5 n _ (if q>0 then _ else _)
   split
   ·exact dL f _ _ _ h.rev
   ·exact dL f _ _ _ h
  | false =>
   refine ⟨h.lt h1 _,h.lt h1 _,fun d=>?_⟩
   cases d with
   | true=>exact h
   | false=>exact dL f _ _ _ h⟩
theorem f6 {k r:Nat} (h:Pn n p):c5 n (fun r=>Pn n r.2) (kas_tail3 k r p):=by
 unfold kas_tail3
 refine c5.bind (P:=fun _=>True) (fun m _=>?_) (i4 h1 h.rev _ _)
 exact (h.rev:Pn n (kas_rev p 0 k))
theorem dA {k r:Nat} (h:Pn n p):c5 n (fun r=>Pn n r.2) (kas_descPart k r p):=(dL h1 _ _ _ _ h).bind fun a ha=>by
 show c5 n _ (if a.2.2>0 then _ else _)
 split
 ·exact f6 h1 (Pn.rev ha)
 ·exact f6 h1 ha
theorem mC {r:Nat} (h:Pn n p):c5 n (fun r=>Pn n r.2) (kas_count r p):=(i4 h1 h _ _).bind fun k _=>by
 show c5 n _ (if (k==r)=true then _ else _)
 split
 ·exact h
 ·split
  ·refine ⟨h.lt h1 _,h.lt h1 _,fun b=>?_⟩
   cases b with
   | true=>exact h
   | false=>exact dA h1 h.rev
  ·exact dA h1 h
theorem dZ (h:Pn n p) (k:Nat):∀ f l r,c5 n (fun _=>True) (kas_place p k f l r)
 | 0,l,r=>trivial
 | f + 1,l,r=>by
  show c5 n _ (if l≥r then _ else _)
  split
  ·exact trivial
  ·refine ⟨h.lt h1 _,h.lt h1 _,fun b=>?_⟩
   cases b with
   | true=>exact dZ h k f _ _
   | false=>exact dZ h k f _ _
theorem mH:∀ (f:Nat) (p:Array Nat) (k:Nat),Pn n p→c5 n (Pn n) (kas_bin f p k)
 | 0,p,k,h=>h
 | f+1,p,k,h=>(dZ h1 h _ _ _ _).bind fun l _=>mH f _ _ h.bub
theorem fm:c5 n (Pn n) (kas_sort n):=(mC h1 (p:=(List.range n).toArray) (Array.Perm.refl _)).bind fun r hr=>by
 show c5 n _ (if r.1<n then _ else _)
 split
 ·exact mH h1 _ _ _ hr
 ·exact hr
end
end L2
namespace L2
open PySem PySem.Spec PyProof.Rows PySem.W
open PySem.SeqAt PySem.MeetsSeq PySem.MeetsSeq2 PySem.MeetsSeq3 PySem.SeqRoads2
open PySem.AutoSeq1 (wpAny_loadPart')
section
variable {prog:Program}{w:World}{A:Around}{E:Value→Shared→Prop}{s:Shared}
end
end L2
namespace L2
open PySem PySem.Spec PyProof.Rows PySem.W
noncomputable def xk (h:Heap) (v:Value):Prop:=∃ (a:Addr) (o:Obj) (n:Nat) (x:Int) (t:Tok) (l:Addr) (its:Array Value) (ns:List Int) (as:List Addr),v=.ref a∧h.get? a=some o∧o.cls=.type "tuple" ∧ o.data=.seq #[.int x t,.ref l] n∧h.IsList l its∧(∀ j (h:j<its.size),∃ x t,its[j]=Value.int x t)∧Reads h (.ref l) (.list (ns.map PyData.int)) as
noncomputable def km (d:PyData):Prop:=∃ (n:Int) (ns:List Int),d=.tuple [.int n,.list (ns.map .int)]
section
variable {X:Cx}{pins:List (Addr×Obj)}{σ:St}{H:Hp}{s:Shared}
end
section
variable {prog:Program}{w:World}{A:Around}{s:Shared}
theorem fh {h:Heap}:∀ {us:List Value},(∀ u∈us,xk h u)→∃ fs,KatTups h us fs∧fs.length=us.length∧∀ f∈fs,∃ x t,f=Value.int x t
 | [],_=>⟨[],.nil,rfl,fun f hf=>by simp at hf⟩
 | u::us,k=>by
  obtain ⟨fs,h1,h2,h3⟩:=fh (us:=us) fun v hv=>k v (by simp[hv])
  obtain ⟨a,o,n,x,t,l,its,ns,as,rfl,e,c,d,_⟩:=k u (by simp)
  refine ⟨.int x t::fs,.cons e c d (by rfl) h1,by simp[h2],fun f hf=>?_⟩
  rcases ye.mp hf with rfl|hf
  ·exact ⟨x,t,rfl⟩
  ·exact h3 f hf
end
theorem sr {K:PySem.W.Frag}{H:Hp}{vs:List V}{ds:List PyData} (h:DVs K H vs ds):vs.length=ds.length:=DVs.ind (C:=fun v d=>v.length=d.length) rfl (fun _ _ i=>by rw[yK,yK,i]) h
theorem iS {K:PySem.W.Frag}{N:Addr→Prop}{H:Hp}{vs:List V}{ds:List PyData} (h:DNs K N H vs ds):∀ z∈vs.zip ds,DN K N H z.1 z.2:=DNs.ind (C:=fun vs ds=>∀ z∈vs.zip ds,DN K N H z.1 z.2) (fun z h=>by simp at h) (fun d _ i z h=>by
  simp only [List.zip_cons_cons] at h
  rcases ye.mp h with rfl|h
  ·exact d
  ·exact i z h) h
section
variable {X:Cx}{K:PySem.W.Frag}
variable {e:Expr}{p pos:Pos}{tl:DA}
end
section
variable {X:Cx}{K:PySem.W.Frag}{e o:Expr}{pos p2:Pos}
variable {ta to:DE}{tl:DA}
end
end L2
namespace L2
open PySem PySem.Spec PyProof.Rows PySem.W PySem.Calls
section
variable {prog:Program}{w:World}{A:Around}{R:Result→Shared→Prop}{I:Addr}{fp wr:List Addr}{n:Nat}{P:Nat→Value→Prop}{St:Nat→Heap→Prop}
end
section
variable {X:Cx}{K:PySem.W.Frag}{e:Expr}{tl:DA}{p pos kpos p3:Pos}
end
end L2
namespace L2
open PySem PySem.Spec PyProof.Rows
section
variable {ds:List PyData}{ix:List (Option Nat)}{g:DG}{tt:DT}{te:DE}{env:List Sl}{R:Sl→List Sl→Prop}
end
end L2
namespace L2
open PySem PySem.Spec PyProof.Rows PySem.W
section
variable {CX:CXT}{P:Program}{w:World}{K:PySem.W.Frag}{mg:Str→Option Value}{base:Heap}{k:Nat}{f c':Addr}{qual:Str}{params:Arguments}{body:Expr}{scope:Scope}{pm ctv:Value}{N ps:List Str}
 {A : Around}{outer:List Env}{s:Shared}{H:Hp}{us:List Value}{vs:List V}{Q:VK}{E:XK}{t:TE}
theorem rJ (S:ay N ps scope) (hr:ci (k+1) A) (e0:o8 P w K mg base A outer s H) (ho:s.heap.get? f=some (kla_obj "<lambda>" qual params body scope [] pm c' ctv)) (hcd:s.heap.CodeRec (.ref c') qual)
  (hb:bindArgs (kla_fn "<lambda>" qual params body scope [] pm (.ref c') ctv) ⟨us,[]⟩=pure (ps.zip us)) (r:aA vs us) (hl:vs.length=ps.length)
  (ht:PE (jT CX P w K mg base N qual scope f (.ref c') A outer s H E) body t) (hq:t (a8 N vs) H Q):codeAny (model P w) A (.call (.ref f) ⟨us,[]⟩) (CR CX outer P w H s Q E) s:=by
 have lim:s.heap.NoLimit:=e0.mod.nolimit.keeps fun b o e=>(e0.bs b o e).1
 have hkind:∀ y∈ps.zip us,scope.names.lookup y.1=some .local∨(scope.names.lookup y.1=some .cell∧((cellsFrom (s.heap.objs.size+1) scope.names []).lookup y.1).isSome=true):=fun ⟨n,v⟩ hy=>by
  rcases S.par n (zn hy).1 with q|q
  ·exact .inl q
  ·exact .inr ⟨q,PySem.W.cellsFrom_some _ _ _ (.inl q)⟩
 refine kla_callFunE hr.depth ho rfl S.co S.gen rfl hcd ?_
 rw [hb]
 refine wpAny_pure ?_
 refine wpAny_newFunctionEnv_cells S.kind hkind fun env he s1 x=>?_
 subst he
 refine ⟨lim.keeps x.toInCall.keep,kla_codeExpr ?_⟩
 have I:Inv (jT CX P w K mg base N qual scope f (.ref c') A outer s H E) [] (a8 N vs) H s1:=gQ S hr.hd e0 hl r x
 refine wpAny_mono (ht [] s1 (a8 N vs) H _ I hq) (fun u s' hs=>?_) fun e s' hs=>hs
 obtain ⟨v,H',J,rv,q⟩:=hs
 exact ⟨v,H',J.os,J.bare,J.base,J.hok,rv,q⟩
end
theorem ky {pos:Pos}{a b:Int}{c cv:Value} (l:List Value) (h:TriplesOk l) (hn:codeAmong pos (l++[rawInt a,rawInt b,c])=some cv):codeAmong pos l=some cv∨cv=c:=by
 fun_induction TriplesOk l with
 | case1 =>
  simp only [List.nil_append,codeAmong,rawInt] at hn
  split at hn
  ·cases hn;exact .inr rfl
  ·cases hn
 | case2 a' t b' u x bR ih =>
  simp only [List.cons_append,codeAmong] at hn ⊢
  split at hn
  ·rename_i hc
   rw [if_pos hc]
   exact .inl hn
  ·rename_i hc
   rw [if_neg hc]
   exact ih h hn
 | case3 l h1 h2=>exact h.elim
noncomputable def vk (H:Hp) (c:Addr) (q:Str):Prop:=∃ oc u vs t,H c=some (.frz oc u)∧oc.data=.fields vs∧vs[1]? = some (.str q t)
noncomputable def o7 (X:Cx):Prop:=∃ c T,X.env.code=.ref c∧CodeHd X.base c T∧eL X.K T (X.env.qual ++ "<lambda>")
section
variable {X:Cx}{pins:List (Addr×Obj)}{σ:St}{H:Hp}{s:Shared}
theorem Inv.grow (I:Inv X pins σ H s) {T c':Addr}{q:Str}{h':Heap}{oc:Obj}{vs:Array Value}{t:Tok}{tk:Nat} (hT:H T=some (.tbl q)) (hx:Heap.ExtBut T s.heap h') (hc:s.heap.objs.size≤c') (ho:h'.get? c'=some oc) (hd:oc.data=.fields vs) (hv:vs[1]? = some (.str q t))
  (ht:sK (upd H c' (.frz oc (.own 0))) h' T q):Inv X pins σ (upd H c' (.frz oc (.own 0))) { s with heap:=h',toks:=tk }∧aH H (upd H c' (.frz oc (.own 0))):=by
 have hn:H c'=none:=I.hok.fresh hc
 have hTs:T<s.heap.objs.size:=I.hok.lt hT
 have hTc:T≠c':=yq (yi hTs hc)
 obtain ⟨ps',eT,_⟩:=id ht
 refine ⟨I.un (t':=tk) ⟨fun b o e n _ _=>?_,fun b o e n _ _=>⟨o.slots,?_⟩,fun b o e n _=>?_,fun b o e _=>?_,fun b xs e=>?_,fun b o u e=>?_,fun b q e=>?_⟩ (fun b u e=>?_),fun b o e=>by rw[ag (ak e hn)];exact e⟩
 ·exact hx b o (fun z=>by rw[z,hT] at n;cases n) e
 ·exact hx b o (fun z=>by rw[z,hT] at n;cases n) e
 ·rw [ag (yq (yi (ym e) hc))];exact n
 ·by_cases z:b=T
  ·subst z;exact⟨_,eT⟩
  ·exact ⟨o,hx b o z e⟩
 ·rw [ag (ak e hn)];exact e
 ·rw [ag (ak e hn)];exact e
 ·rw [ag (ak e hn)];exact e
 ·by_cases hb:b=c'
  ·subst hb
   rw [aC] at e
   cases e
   exact ⟨ho,_,ho⟩
  ·rw [ag hb] at e
   by_cases hbT:b=T
   ·subst hbT
    rw [hT] at e
    cases e
    exact ht
   ·refine (I.hok b u e).stay (fun c v hc' q=>hx c v ?_ q) (fun c q=>by rw[ag (ak q hn)];exact q) fun c o _ q=>by rw[ag (ak q hn)];exact q
    rcases hc' with z|z
    ·rw [z];exact hbT
    ·exact fun z'=>by rw[z',hT] at z;cases z
variable {params:Arguments}{body:Expr}{scope:Scope}{pos:Pos}{E:Value→Shared→Prop}
end
section
variable {X:Cx}{pins:List (Addr×Obj)}{σ:St}{H:Hp}{s:Shared}{params:Arguments}{scope:Scope}{p1 p2 p3 p4 p5:Pos}{kk:Nat}{f c':Addr}{qual:Str}{pm ctv:Value}{k:Nat}{A:Around}
noncomputable def eM (X:Cx) (pins:List (Addr×Obj)) (σ:St) (H:Hp) (s:Shared) (d:PyData) (u:Value) (s':Shared):Prop :=
 ∃ H' v,Inv X pins σ H' s'∧aH H H'∧aY v u∧DN X.K N0 H' v d∧∀ b o,eN X pins H b→s.heap.get? b=some o→s'.heap.get? b=some o∧H' b=none
end
section
variable {X:Cx}{pins:List (Addr×Obj)}{σ:St}{H0:Hp}{f:Value}{vs:List Value}{A:Around}{E:Value→Shared→Prop}{a kS:Addr}
theorem l6 {H H':Hp}{b:Addr} (h:eN X pins H b) (n:H' b=none):eN X pins H' b:=⟨n,h.2⟩
theorem kH {xs:List V}{us:List Value}{x:V}{u:Value} (h:aA xs us) (q:aY x u):aA (xs++[x]) (us++[u]):=by
 induction h with
 | nil=>exact .cons q .nil
 | cons r _ i=>exact .cons r i
end
section
variable {X:Cx}{pins:List (Addr×Obj)}{σ:St}{H0:Hp}{f:Addr}{vs:List Value}{A:Around}{E:Value→Shared→Prop}{s:Shared}
end
section
variable {X:Cx}{K:PySem.W.Frag}{e:Expr}{t:TA}{p pos kpos lpos p1 p2 p3 p4 p5:Pos}{kk:Nat}{params:Arguments}{scope:Scope}
noncomputable def uG (d:PyData):Prop:=∃ ns:List Int,d=.list (ns.map .int)
variable {tl:DA}
end
section
variable {P:Program}{w:World}{K:PySem.W.Frag}{mg:Str→Option Value}{base:Heap}
noncomputable def o6 (K:PySem.W.Frag) (base:Heap) (x:Str) (fd:FuncData):Prop:=∃ c T,fd.code=.ref c∧CodeHd base c T∧eL K T (x ++ ".<locals>.<lambda>")
theorem xA {x:Str}{st:Stmt}{f:Addr}{fd:FuncData}{N ps:List Str}{k:Nat}{sp:DSp} (F:Fun K x x st f fd) (S:ay N ps (af st)) (len:∀ ss R,sp ss R→ss.length=ps.length) (hN:ps.length≤N.length)
  (hb:∀ (cdv:Value) (hcd:cdv=fd.code) (A:Around) (outer:List Env) (s:Shared) (H:Hp) (E:XK),ci k (A.deeper (envOfC x (af st) s.heap.objs.size f cdv)) →
   ∃ t:DS,PSs (jT CX0 P w K mg base N x (af st) f cdv A outer s H E).nox (bj st) (upS K t)∧∀ ss R,sp ss R→t (iR ps.length R) (bx N.length ss)):bW P w K mg base CX0 (k+1) f fd ps (spD K sp):=by
 obtain ⟨oc,od,kV,doc,pm,an,cdv,ct,osl,rfl,lk,hcd⟩:=F.ex
 exact xB (fun A outer s H E hr=>hb cdv rfl A outer s H E hr) lk hcd S len hN
noncomputable def mR (vs:Array Value) (c T:Addr):Prop:=vs[11]? = some (.ref T)∧vs.getD 11 .none=.ref T∧(∃ file tf,vs.getD 18 .none=.str file tf)∧(∃ i t,vs.getD 7 .none=.int i t)∧(∃ b,vs.getD 9 .none=.bool b)∧(∃ i t,vs.getD 10 .none=.int i t)∧c≠T
theorem uu {x:Str}{f c T:Addr}{fd:FuncData}{oc:Value}{od odc:Option Addr}{osl slc:Array (Option Value)}{vs:Array Value} (hx:x∈cy) (a:PySem.W.nsIn K mainGlobals x=some (some (.ref f))) (l:K.lookup f=some ⟨oc,od,.func fd,osl⟩) (hc:fd.code=.ref c)
  (lc:K.lookup c=some ⟨.type "code",odc,.fields vs,slc⟩) (hT:mR vs c T) (Xb:K.In base):o6 K base x fd:=by
 obtain ⟨h1,h2,⟨file,tf,h3⟩,⟨i,t,h4⟩,⟨b,h5⟩,⟨j,u,h6⟩,h7⟩:=hT
 exact ⟨c,T,hc,⟨_,vs,file,tf,i,t,b,j,u,Xb _ _ lc,rfl,rfl,h1,h2,h3,h4,h5,h6,h7⟩,x,hx,f,_,fd,c,_,vs,a,l,rfl,hc,lc,rfl,h1,rfl⟩
structure kz (K:PySem.W.Frag) (h:Heap) (x:Str) (c T:Addr):Prop where
 tab:∀ T0,(∃ f o fd c0 oc vs,PySem.W.nsIn K mainGlobals x=some (some (.ref f))∧K.lookup f=some o∧o.data=.func fd∧fd.code=.ref c0∧K.lookup c0=some oc∧oc.data=.fields vs∧vs[11]? = some (.ref T0))→T0=T
 at':h.get? T=some { cls:=.none,data:=.fields #[] }∧K.lookup T=none∧∃ c,h.TableAt c T #[]
theorem nX {q:Program}{loose:List Str}{XP:(Str→Option Value)→Heap→Prop}{s₀:Shared}{mb:Str→Option Value}{h:Heap}{d:DefRec}{x:Str}{f c T:Addr}{fd:FuncData}{oc:Value}{od odc:Option Addr}{osl slc:Array (Option Value)}{vs:Array Value}
  (G : PySem.W.Ground q loose [] XP w s₀ mg mb h) (KX:K.In h) (hr:(recsOf q).find? (fun e=>e.name==x)=some d)
  (a : PySem.W.nsIn K mainGlobals x=some (some (.ref f))) (l:K.lookup f=some ⟨oc,od,.func fd,osl⟩) (hc:fd.code=.ref c) (lc:K.lookup c=some ⟨.type "code",odc,.fields vs,slc⟩) (hT:mR vs c T) (hn:K.lookup T=none):kz K h x c T:=by
 have ht:tabIn K x=some (c,T):=by
  unfold tabIn
  rw [a]
  simp only [l,hc,lc,hT.1]
 obtain ⟨C,g⟩:=tab_of G.T KX hr ht
 refine ⟨fun T0 e=>?_,g,hn,c,C.tab g⟩
 obtain ⟨f0,o0,fd0,c0,oc0,vs0,a1,a2,a3,a4,a5,a6,a7⟩:=e
 rw [a] at a1
 cases a1
 rw [l] at a2
 cases a2
 cases a3
 rw [hc] at a4
 cases a4
 rw [lc] at a5
 cases a5
 cases a6
 rw [hT.1] at a7
 cases a7
 rfl
theorem qy {h:Heap} (ps:List (Str×Addr×Addr)) (hp:∀ p∈ps,kz K h p.1 p.2.1 p.2.2) (nd:(ps.map fun p=>p.2.2).Nodup) (hL:∀ n∈cy,n∈ps.map (·.1)∨PySem.W.nsIn K mainGlobals n=some none) :
  ∃ tb:List (Addr×Str),(∀ b q,tb.lookup b=some q→h.get? b=some { cls:=.none,data:=.fields #[] }∧K.lookup b=none∧∃ c,h.TableAt c b #[])∧∀ T q,eL K T q→tb.lookup T=some q:=by
 refine ⟨ps.map fun p=>(p.2.2,p.1 ++ ".<locals>.<lambda>"),fun b q' e=>?_,fun T0 q' L=>?_⟩
 ·have : ∃ p∈ps,p.2.2=b:=by
   clear hp nd hL
   induction ps with
   | nil=>cases e
   | cons p ps ih =>
    rw [yx,yz] at e
    by_cases hb:b=p.2.2
    ·exact ⟨p,ya,hb.symm⟩
    ·have h1:(b==p.2.2)=false:=by simpa using hb
     rw [h1] at e
     obtain ⟨p',m,e'⟩:=ih e
     exact ⟨p',x9 _ m,e'⟩
  obtain ⟨p,m,rfl⟩:=this
  exact (hp p m).at'
 ·obtain ⟨n,hy,f0,o0,fd0,c0,oc0,vs0,a1,a2,a3,a4,a5,a6,a7,rfl⟩:=L
  rcases hL n hy with hm|hm
  ·obtain ⟨p,m,rfl⟩:=yr.mp hm
   have e:=(hp p m).tab T0 ⟨f0,o0,fd0,c0,oc0,vs0,a1,a2,a3,a4,a5,a6,a7⟩
   subst e
   clear hp hL a1 a7 hm
   induction ps with
   | nil=>cases m
   | cons p' ps ih =>
    rw [yx,yz]
    rw [yx,yv] at nd
    rcases ye.mp m with rfl|m
    ·simp
    ·have h1:(p.2.2==p'.2.2)=false:=by
      simp only [beq_eq_false_iff_ne,ne_eq]
      exact fun z=>nd.1 (z▸List.mem_map_of_mem m)
     rw [h1]
     exact ih nd.2 m
  ·rw [hm] at a1
   cases a1
theorem rK {h:Heap}:∀ p∈([]:List (Str×Addr×Addr)),kz K h p.1 p.2.1 p.2.2:=fun p hp=>by cases hp
theorem nW {h:Heap}{x:Str}{c T:Addr}{ps:List (Str×Addr×Addr)} (h1:kz K h x c T) (h2:∀ p∈ps,kz K h p.1 p.2.1 p.2.2):∀ p∈(x,c,T)::ps,kz K h p.1 p.2.1 p.2.2:=fun p hp=>by
 rcases ye.mp hp with rfl|hp
 ·exact h1
 ·exact h2 p hp
theorem rL {P:Str→Prop} (h1:P "choices") (h2:P "full_rows") (h3:P "chain_plan") (h4:P "least_ranks"):∀ n∈cy,P n:=fun n hn=>by
 simp only [cy,ye,yt,or_false] at hn
 rcases hn with rfl|rfl|rfl|rfl <;> assumption
end
section
variable {X:Cx}{K:PySem.W.Frag}{e1 e2:Expr}{tl:DA}{p pos:Pos}
end
end L2
namespace L2
open PySem PySem.Spec PyProof.Rows PySem.W
open PySem.SeqAt PySem.MeetsSeq PySem.MeetsSeq2 PySem.MeetsSeq3 PySem.SeqRoads2
open PySem.AutoSeq1 (wpAny_loadPart')
noncomputable def At (items:Array Value) (ns:List Int):Prop:=ns.length=items.size∧∀ j (h:j<items.size),∃ t,items[j]=Value.int (ns.getD j 0) t
theorem nQ {ns ms:List Int}{i:Nat} (h1:i<ns.length) (h2:i<ms.length):HT.lexLt (ns.drop i) (ms.drop i)=if ns.getD i 0=ms.getD i 0 then HT.lexLt (ns.drop (i+1)) (ms.drop (i+1)) else decide (ns.getD i 0<ms.getD i 0):=by
 have e1:ns.drop i=ns.getD i 0::ns.drop (i+1):=by rw[yP h1];simp[yd,h1]
 have e2:ms.drop i=ms.getD i 0::ms.drop (i+1):=by rw[yP h2];simp[yd,h2]
 rw [e1,e2,HT.lexLt_cons]
theorem nO (l b:Addr) (items items2:Array Value) (n n2:Nat) (dd dd2:Option Addr) (sl sl2:Array (Option Value)) (ns ms:List Int) (at1:At items ns) (at2:At items2 ms) (k:Nat) :
  ∀ i : Nat,items.size - i=k→i≤items.size→i≤items2.size→Meets (Builtin.«list.__eq__.loop» ⟨[.ref l,.ref b,rawInt i,rawInt 0],[]⟩)
   (fun A R s=>s.heap.get? l=some { cls:=.type "list",dict:=dd,data:=.seq items n,slots:=sl }∧s.heap.get? b=some { cls:=.type "list",dict:=dd2,data:=.seq items2 n2,slots:=sl2 } ∧
    R (.ok (.ret (.bool (HT.lexLt (ns.drop i) (ms.drop i))))) s):=by
 induction k with
 | zero =>
  intro i hk hi1' hi2' prog w A R s h
  obtain ⟨hp,g,d,tk,os⟩:=s;obtain⟨hl,hb,h⟩:=h
  wp_walk using wpAny_loadPart' hl,wpAny_loadPart' hb
  have hi1:items[((i:Nat):Int).toNat]? = none:=by simp;omega
  rw [hi1]
  wp_walk using wpAny_loadPart' hl,wpAny_loadPart' hb
  have hv:HT.lexLt (ns.drop i) (ms.drop i)=decide (items.size<items2.size):=by
   rw [yV (by rw[at1.1];omega)]
   by_cases hm:i<ms.length
   ·rw [yP hm,HT.lexLt_nil_cons,decide_eq_true (by rw[at2.1] at hm;omega)]
   ·rw [yV (by omega),HT.lexLt_nil_nil,decide_eq_false (by rw[at2.1] at hm;omega)]
  rw [hv] at h
  exact h
 | succ k ih =>
  intro i hk hi1' hi2' prog w A R s h
  obtain ⟨hp,g,d,tk,os⟩:=s;obtain⟨hl,hb,h⟩:=h
  wp_walk using wpAny_loadPart' hl,wpAny_loadPart' hb
  have hlt:i<items.size:=by omega
  have hi1:items[((i:Nat):Int).toNat]? = some items[i]:=by simp[hlt]
  have hc:((i:Int)+1)=((i+1:Nat):Int):=by push_cast;rfl
  rw [hi1]
  by_cases hlt2:i<items2.size
  ·have hi2:items2[((i:Nat):Int).toNat]? = some items2[i]:=by simp[hlt2]
   rw [hi2]
   obtain ⟨t,e1⟩:=at1.2 i hlt
   obtain ⟨u,e2⟩:=at2.2 i hlt2
   rw [nQ (by rw[at1.1];exact hlt) (by rw[at2.1];exact hlt2)] at h
   rw [e1,e2]
   refine wpAny_bind (wpAny_eqBool_int ?_)
   by_cases hb':ns.getD i 0=ms.getD i 0
   ·rw [if_pos hb'] at h
    rw [show (ns.getD i 0==ms.getD i 0)=true by simpa using hb']
    wp_walk
    rw [hc]
    exact ⟨plainId_quiet plain_eq_loop _,codeAny_builtin entry_eq_loop (by
     rw [Around.under_plainId plain_eq_loop _]
     exact ih (i+1) (by omega) (by omega) (by omega) prog w A R _ ⟨hl,hb,h⟩)⟩
   ·rw [if_neg hb'] at h
    rw [show (ns.getD i 0==ms.getD i 0)=false by simpa using hb']
    wp_walk using wpAny_loadPart' hl,wpAny_loadPart' hb
    rw [hi1,hi2,e1,e2]
    refine wpAny_bind (show wpAny (model prog w) A.in1 (compareOp .Lt (.int (ns.getD i 0) t) (.int (ms.getD i 0) u)) _ _ _ from wpAny_lt_int (wpAny_pure h))
  ·have hi2:items2[((i:Nat):Int).toNat]? = none:=by simp;omega
   rw [hi2]
   wp_walk using wpAny_loadPart' hl,wpAny_loadPart' hb
   have hv:HT.lexLt (ns.drop i) (ms.drop i)=decide (items.size<items2.size):=by
    rw [yV (l:=ms) (by rw[at2.1];omega),yP (l:=ns) (by rw[at1.1];exact hlt),HT.lexLt_cons_nil,decide_eq_false (by omega)]
   rw [hv] at h
   exact h
theorem jw (l b:Addr) (items items2:Array Value) (n n2:Nat) (dd dd2:Option Addr) (sl sl2:Array (Option Value)) (ns ms:List Int) (at1:At items ns) (at2:At items2 ms) :
  Meets (Builtin.«list.__lt__» ⟨[.ref l,.ref b],[]⟩)
   (fun A R s=>s.heap.get? l=some { cls:=.type "list",dict:=dd,data:=.seq items n,slots:=sl }∧s.heap.get? b=some { cls:=.type "list",dict:=dd2,data:=.seq items2 n2,slots:=sl2 } ∧
    R (.ok (.ret (.bool (HT.lexLt ns ms)))) s):=by
 intro prog w A R s h
 obtain ⟨hp,g,d,tk,os⟩:=s;obtain⟨hl,hb,h⟩:=h
 have f3:=AutoSeq1.sub_list_list
 wp_walk using wpAny_loadPart' hl,wpAny_loadPart' hb
 exact ⟨plainId_quiet plain_eq_loop _,codeAny_builtin entry_eq_loop (by
  rw [Around.under_plainId plain_eq_loop _]
  exact nO l b items items2 n n2 dd dd2 sl sl2 ns ms at1 at2 _ 0 rfl (yo _) (yo _) prog w A R _ ⟨hl,hb,h⟩)⟩
noncomputable def dh (a b:Int×List Int):Bool:=if a.1=b.1 then (if a.2=b.2 then false else HT.lexLt a.2 b.2) else decide (a.1<b.1)
section
variable {prog:Program}{w:World}{A:Around}{E:Value→Shared→Prop}{s:Shared}
theorem lP {l b:Addr}{items items2:Array Value}{ns ms:List Int}{Q:Value→Shared→Prop} (hl:s.heap.IsList l items) (hb:s.heap.IsList b items2) (at1:At items ns) (at2:At items2 ms)
  (hu:A.units<cLine) (h:Q (.bool (HT.lexLt ns ms)) s):wpAny (model prog w) A (compareOp .Lt (.ref l) (.ref b)) Q E s:=by
 obtain ⟨⟨cls,dd,data,sl⟩,ho,hc,n,hd⟩:=id hl
 obtain ⟨⟨cls2,dd2,data2,sl2⟩,ho2,hc2,n2,hd2⟩:=id hb
 simp only at hc hd hc2 hd2
 subst hc hd hc2 hd2
 exact richCompare_meets_room (op:=.Lt) ⟨_,ho,rfl⟩ ⟨_,ho2,rfl⟩ F.slot_list_lt F.entry_list_lt (F.args_list_lt_2 _ _) (jw l b items items2 n n2 dd dd2 sl sl2 ns ms at1 at2)
  ⟨ho,ho2,show Value.bool (HT.lexLt ns ms)≠Value.notImplemented∧Q (.bool (HT.lexLt ns ms)) s from ⟨(fun x=>nomatch x),h⟩⟩ hu
noncomputable def qp (h:Heap) (v:Value) (k:Int×List Int):Prop:=∃ (a:Addr) (o:Obj) (n:Nat) (t:Tok) (l:Addr) (its:Array Value) (as:List Addr),v=.ref a∧h.get? a=some o∧o.cls=.type "tuple" ∧ o.data=.seq #[.int k.1 t,.ref l] n∧h.IsList l its∧At its k.2∧Reads h (.ref l) (.list (k.2.map PyData.int)) as
theorem qp.v {h:Heap}{v:Value}{k:Int×List Int} (x:qp h v k):xk h v:=by
 obtain ⟨a,o,n,t,l,its,as,e1,e2,e3,e4,e5,e6,e7⟩:=x
 exact ⟨a,o,n,k.1,t,l,its,k.2,as,e1,e2,e3,e4,e5,fun j hj=>let ⟨u,e⟩:=e6.2 j hj;⟨_,u,e⟩,e7⟩
theorem rN {u v:Value}{k k':Int×List Int}{C:Bool→Shared→Prop}{E:Value→Shared→Prop} (hu:A.units+64<cLine) (k1:qp s.heap u k) (k2:qp s.heap v k') (h:C (dh k k') s):wpAny (model prog w) A (keyLt' (tuples' true) u v) C E s:=by
 obtain ⟨a,o,n,t,l,its,as,rfl,e,c,d,i1,i2,i3⟩:=k1
 obtain ⟨a',o',n',t',l',its',as',rfl,e',c',d',j1,j2,j3⟩:=k2
 unfold dh at h
 refine kat_lt e d e' d' ?_
 refine kat_cons (wpAny_eqBool_int ?_)
 refine kat_go (fun he=>kat_yes ?_) fun he=>kat_no (oneLt_int ?_)
 rotate_left
 ·rw [if_neg (by simpa using he)] at h
  exact h
 rw [if_pos (by simpa using he)] at h
 refine kat_cons (SeqAt.eqBoolOverData _ _ _ _ _ _ _ _ _ _ _ _ i3 j3 ?_ ?_ ?_ ?_)
 ·simp [PyData.canLay0,fE]
 ·simp [PyData.canLay0,fE]
 ·have:∀ ns:List Int,(PyData.list (ns.map PyData.int)).depth≤64:=fun ns=>by
   have:=vS ns
   exact SeqAt.depth_of_shaped this
  have:=this k.2
  have:=Nat.min_le_left (PyData.list (k.2.map PyData.int)).depth (PyData.list (k'.2.map PyData.int)).depth
  omega
 ·refine kat_go (fun he2=>kat_yes (kat_nil ?_)) fun he2=>kat_no (kat_one _ _ ?_)
  ·rw [sf] at he2
   rw [if_pos (of_decide_eq_true he2)] at h
   exact h
  ·refine lP i1 j1 i2 j2 (by omega) ?_
   rw [sf] at he2
   rw [if_neg (of_decide_eq_false he2)] at h
   exact h
noncomputable def cI {α:Type} (lt:Nat→Nat→Bool):KasT α→α
 | .ret a=>a
 | .ask i j k=>cI lt (k (lt i j))
theorem c5.run {α:Type}{n:Nat}{P:α→Prop}{lt:Nat→Nat→Bool}:∀ {t:KasT α},c5 n P t→P (cI lt t)
 | .ret a,h=>h
 | .ask i j k,h=>show P (cI lt (k (lt i j))) from c5.run (t:=k (lt i j)) (h.2.2 _)
theorem iP {α:Type}{n:Nat}{cmp:Nat→Nat→(Bool→Shared→Prop)→Shared→Prop}{P:α→Prop}{lt:Nat→Nat→Bool}{Q:α→Shared→Prop} (I:Shared→Prop)
  (hc:∀ i j C s,i<n→j<n→I s→(∀ s',I s'→C (lt i j) s')→cmp i j C s):∀ {t:KasT α}{s:Shared},c5 n P t→(∀ s,I s→Q (cI lt t) s)→I s→t.kasWp cmp Q s
 | .ret a,s,h,hQ,i=>hQ s i
 | .ask x y k,s,h,hQ,i=>hc x y _ s h.1 h.2.1 i fun s' i'=>iP I hc (h.2.2 (lt x y)) hQ i'
noncomputable def aU (ks:List (Int×List Int)):List Nat:=if ks.length<2 then List.range ks.length else (cI (fun i j=>dh (ks.getD i (0,[])) (ks.getD j (0,[]))) (kas_sort ks.length)).toList
theorem bO (ks:List (Int×List Int)):(aU ks).Perm (List.range ks.length):=by
 unfold aU
 split
 ·exact .refl _
 ·exact (c5.run (fm (n:=ks.length) (by omega))).list
noncomputable def pick {α:Type} (p:List Nat) (xs:List α) (d:α):List α:=p.map fun i=>xs.getD i d
noncomputable def fj (prog:Program) (w:World) (A:Around) (vs:List Value) (ks:List (Int×List Int)) (s:Shared):Prop :=
 wpAny (model prog w) A (keyKind' vs.toArray) (fun κ s'=>s'=s∧∀ i j (C:Bool→Shared→Prop),i<vs.length→j<vs.length→C (dh (ks.getD i (0,[])) (ks.getD j (0,[]))) s→kas_ask prog w A κ vs i j C s) (fun _ _=>False) s
theorem lR {us:List Value}{ks:List (Int×List Int)} (hu:A.units+64<cLine) (h2:2≤us.length) (hl:ks.length=us.length) (k:∀ i (h:i<us.length),qp s.heap us[i] (ks.getD i (0,[]))):fj prog w A us ks s:=by
 obtain ⟨fs,h1,h3,h4⟩:=fh (h:=s.heap) (us:=us) fun u hu=>by
  obtain ⟨i,hi,rfl⟩:=y9 hu
  exact (k i hi).v
 refine kat_kind (T:=.type "int") h1 (by omega) (fun v hv=>?_) (by rfl) ⟨rfl,fun i j C hi hj hc=>?_⟩
 ·obtain ⟨x,t,rfl⟩:=h4 v hv
  exact .now
 ·have e1:us.getD i Value.none=us[i]:=by simp[hi]
  have e2:us.getD j Value.none=us[j]:=by simp[hj]
  show wpAny (model prog w) A (keyLt' _ (us.getD i Value.none) (us.getD j Value.none)) C (fun _ _=>False) s
  rw [e1,e2]
  exact rN hu (k i hi) (k j hj) hc
end
end L2
namespace L2
open PySem PySem.Spec PyProof.Rows PySem.W
noncomputable def bI:PyData→Int×List Int
 | .tuple [.int n,.list es]=>(n,(bq es).getD [])
 | .int n=>(n,[])
 | .list es=>(0,(bq es).getD [])
 | _=>(0,[])
section
variable {X:Cx}{pins:List (Addr×Obj)}{σ:St}{H:Hp}{s:Shared}
theorem sI:∀ {ns:List Int}{vs:List V}{us:List Value},DVs X.K H vs (ns.map .int)→aA vs us→ns.length=us.length∧∀ j (h:j<us.length),∃ t,us[j]=Value.int (ns.getD j 0) t
 | [],_,_,.nil,.nil=>⟨rfl,fun j h=>by simp at h⟩
 | n :: ns,_,_,.cons d q,.cons r t=>by
  obtain ⟨h1,h2⟩:=sI q t
  refine ⟨by simp[h1],fun j h=>?_⟩
  cases j with
  | zero =>
   cases d
   obtain ⟨t,rfl⟩:=r
   exact ⟨t,rfl⟩
  | succ j =>
   obtain ⟨u,e⟩:=h2 j (by simpa using h)
   exact ⟨u,by simpa using e⟩
theorem lS (I:Inv X pins σ H s) {v:V}{d:PyData}{u:Value} (hd:DV X.K H v d) (r:aY v u) (k:km d):qp s.heap u (bI d):=by
 obtain ⟨n,ns,rfl⟩:=k
 have ek:bI (.tuple [.int n,.list (ns.map .int)])=(n,ns):=by
  show (n,(bq (ns.map .int)).getD [])=_
  rw [be]
  rfl
 rw [ek]
 obtain ⟨a,xs,rfl,h,q⟩:=hd.tupI
 obtain ⟨x,y,rfl,q1,q2⟩:=q.twoI
 obtain ⟨its,rv,⟨o,e,c,m,hd⟩,_⟩:=I.tuple h
 obtain ⟨w1,w2,rfl,r1,r2⟩:=m6 rv
 rw [q1.intI] at r1
 obtain ⟨t,rfl⟩:=r1
 obtain ⟨as,ra⟩:=q2.reads I r2 (by simpa only [PyData.canLay0] using gy _)
 obtain ⟨l,ys,rfl,h2,q2⟩:=q2.lstI
 have e2:w2=Value.ref l:=r2
 have e3:u=Value.ref a:=r
 subst e2 e3
 obtain ⟨jts,rj,pl,_⟩:=I.list h2
 obtain ⟨h1,h2⟩:=sI q2 rj
 exact ⟨a,o,m,t,l,jts.toArray,as,rfl,e,c,hd,pl.isList,⟨by simpa using h1,fun j hj=>h2 j (by simpa using hj)⟩,ra⟩
theorem nY (I:Inv X pins σ H s) {vs:List V}{ds:List PyData}{us:List Value} (h:DVs X.K H vs ds):aA vs us→(∀ d∈ds,km d)→(ds.map bI).length=us.length∧∀ i (h:i<us.length),qp s.heap us[i] ((ds.map bI).getD i (0,[])) :=
 DVs.ind (C:=fun vs ds=>∀ us,aA vs us→(∀ d∈ds,km d)→(ds.map bI).length=us.length∧∀ i (h:i<us.length),qp s.heap us[i] ((ds.map bI).getD i (0,[]))) (fun us r _=>by rw[aA.zero r];exact⟨rfl,fun i h=>by simp at h⟩) (fun d _ ih us r k=>by
  obtain ⟨u,us',rfl,r1,r2⟩:=aA.consI r
  obtain ⟨h1,h2⟩:=ih us' r2 fun d hd=>k d (by simp[hd])
  refine ⟨by simpa using h1,fun i h=>?_⟩
  cases i with
  | zero=>simpa using lS I d r1 (k _ (by simp))
  | succ i=>simpa using h2 i (by simpa using h)) h us
end
section
variable {prog:Program}{w:World}{A:Around}{E:Value→Shared→Prop}{s:Shared}
theorem kR {a:Addr}{vs:List Value}{ks:List (Int×List Int)}{n:Nat}{P:PySem.Fin→Shared→Prop} (ho:s.heap.get? a=some (seqObj "list" vs.toArray n)) (h64:vs.length<64) (hkl:ks.length=vs.length)
  (hk:2≤vs.length→∀ h',(∀ b o,b≠a→s.heap.get? b=some o→h'.get? b=some o)→fj prog w A vs ks { s with heap:=h' })
  (h : ∀ h' c,(∀ b o,b≠a→s.heap.get? b=some o→h'.get? b=some o)→h'.get? a=some (seqObj "list" (pick (aU ks) vs Value.none).toArray c)→P (.done (.ret .none)) { s with heap:=h' }) :
  wpAny (model prog w) A (Builtin.«list.sort» ⟨[.ref a],[]⟩) P E s:=by
 have ha:a<s.heap.objs.size:=ym ho
 have s1:=Heap.SameBut.update s.heap a (Obj.mapSeq fun _=>(#[]:Array Value))
 obtain ⟨e1,ho1⟩:∃ e1,(s.heap.update a (Obj.mapSeq fun _=>(#[]:Array Value))).get? a=some (seqObj "list" #[] e1):=⟨_,get?_update_seq ho fun _=>#[]⟩
 have keep:∀ b o,b≠a→s.heap.get? b=some o→(((s.heap.update a (Obj.mapSeq fun _=>(#[]:Array Value))).push (seqObj "tuple" vs.toArray 0)).push (seqObj "list" #[] 0)).get? b=some o:=fun b o hb e =>
  yf _ (yf _ ((s1.2 b hb).trans e))
 have ho3:(((s.heap.update a (Obj.mapSeq fun _=>(#[]:Array Value))).push (seqObj "tuple" vs.toArray 0)).push (seqObj "list" #[] 0)).get? a=some (seqObj "list" #[] e1):=yf _ (yf _ ho1)
 have fin:∀ (ws:List Value),∃ c,(((((s.heap.update a (Obj.mapSeq fun _=>(#[]:Array Value))).push (seqObj "tuple" vs.toArray 0)).push (seqObj "list" #[] 0))).update a (Obj.mapSeq fun _=>ws.toArray)).get? a=some (seqObj "list" ws.toArray c):=fun ws=>⟨_,get?_update_seq ho3 fun _=>ws.toArray⟩
 rw [list_sort_plain]
 refine wpAny_bind (listItems_at ho rfl ?_)
 refine wpAny_bind (listUpdate_at ho rfl ?_ (by rw[yh,sizeLine_eq];omega) (yo _))
 refine wpAny_bind (seqEpoch_at ho1 rfl ?_)
 refine wpAny_bind (wpAny_newTuple ?_ (by show vs.length≤_;rw[sizeLine_eq];omega))
 refine wpAny_bind (wpAny_newList ?_ (yo _))
 refine wpAny_holding ?_
 show wpAny (model prog w) A _ P E { s with heap:=((s.heap.update a (Obj.mapSeq fun _=>(#[]:Array Value))).push (seqObj "tuple" vs.toArray 0)).push (seqObj "list" #[] 0) }
 dsimp only
 by_cases h2:2≤vs.length
 ·have hn2:¬vs.toArray.size<2:=by rw[yh];omega
  rw [if_neg hn2,if_neg hn2]
  refine wpAny_bind (wpAny_mono (hk h2 _ keep) (fun κ s0 hk=>?_) fun _ _ x=>x.elim)
  obtain ⟨rfl,hask⟩:=hk
  have hix:aU ks=(cI (fun i j=>dh (ks.getD i (0,[])) (ks.getD j (0,[]))) (kas_sort vs.length)).toList:=by
   unfold aU
   rw [if_neg (by omega),hkl]
  refine wpAny_bind (wpAny_mono (kat_run (κ:=κ) (A:=A) (prog:=prog) (w:=w) (ks:=vs) (vs:=vs) (G:=fun p s'=>p=cI (fun i j=>dh (ks.getD i (0,[])) (ks.getD j (0,[]))) (kas_sort vs.length)∧s'={ s with heap:=((s.heap.update a (Obj.mapSeq fun _=>(#[]:Array Value))).push (seqObj "tuple" vs.toArray 0)).push (seqObj "list" #[] 0) })
   (Q := fun st' s'=>∃ p:Array Nat,p=cI (fun i j=>dh (ks.getD i (0,[])) (ks.getD j (0,[]))) (kas_sort vs.length)∧p.size=vs.length∧arrOf st'=p.map (kas_item (vs.toArray.zip vs.toArray))∧failedOf st'=none∧s'={ s with heap:=((s.heap.update a (Obj.mapSeq fun _=>(#[]:Array Value))).push (seqObj "tuple" vs.toArray 0)).push (seqObj "list" #[] 0) })
   rfl h2 h64 (fun p' st' s' a1 a2 a3 a4=>⟨p',a4.1,a1,a2,a3,a4.2⟩) (iP (fun s'=>s'={ s with heap:=((s.heap.update a (Obj.mapSeq fun _=>(#[]:Array Value))).push (seqObj "tuple" vs.toArray 0)).push (seqObj "list" #[] 0) }) (fun i j C s' hi hj e hc=>by subst e;exact hask i j C hi hj (hc _ rfl)) (fm (n:=vs.length) (by omega)) (fun s' e=>⟨rfl,e⟩) rfl)) ?_ fun _ _ e=>e)
  rintro ⟨⟨⟩,st'⟩ s' ⟨p,hpn,hp,har,hf,rfl⟩
  dsimp only
  have hout:=kat_snds rfl har
  have hsz:(List.toArray (p.toList.map fun i=>vs.getD i Value.none)).size=vs.length:=by rw[yh,xZ,Array.length_toList,hp]
  rw [hout]
  obtain ⟨c2,hc2⟩:=fin (p.toList.map fun i=>vs.getD i Value.none)
  refine wpAny_bind (seqEpoch_at ho3 rfl ?_)
  refine wpAny_bind (listUpdate_at ho3 rfl ?_ (yo _) (yg (Nat.le_of_eq hsz) (by rw[sizeLine_eq];omega)))
  rw [hf]
  simp only [bne_self_eq_false,yy,if_false]
  refine wpAny_pure (h _ c2 (fun b o hb e=>?_) ?_)
  ·exact ((Heap.SameBut.update _ a _).2 b hb).trans (keep b o hb e)
  ·rw [hix,←hpn]
   exact hc2
 ·have hn2:vs.toArray.size<2:=by rw[yh];omega
  rw [if_pos hn2,if_pos hn2]
  refine wpAny_bind (wpAny_pure ?_)
  refine wpAny_bind (wpAny_pure ?_)
  have hout:(arrOf (SortSt.mk' general' (vs.toArray.zip vs.toArray) #[] 7 none)).map (·.2)=vs.toArray:=by
   show (vs.toArray.zip vs.toArray).map (·.2)=_
   apply Array.toList_inj.mp
   simp
   exact List.map_snd_zip (yl _)
  dsimp only
  rw [hout]
  obtain ⟨c2,hc2⟩:=fin vs
  have hpk:pick (aU ks) vs Value.none=vs:=by
   unfold aU pick
   rw [if_pos (by omega),hkl]
   apply List.ext_getElem
   ·simp
   ·intro i h1 h2
    simp at h1
    simp [h1]
  refine wpAny_bind (seqEpoch_at ho3 rfl ?_)
  refine wpAny_bind (listUpdate_at ho3 rfl ?_ (yo _) (by rw[yh,sizeLine_eq];omega))
  simp only [bne_self_eq_false,yy,if_false]
  refine wpAny_pure (h _ c2 (fun b o hb e=>?_) (by rw[hpk];exact hc2))
  exact ((Heap.SameBut.update _ a _).2 b hb).trans (keep b o hb e)
theorem iu {l:Addr}{vs:List Value}{ks:List (Int×List Int)}{Q:Value→Shared→Prop} (hl:s.heap.IsList l vs.toArray) (h64:vs.length<64) (hkl:ks.length=vs.length)
  (hk:2≤vs.length→∀ h',(∀ b o,s.heap.get? b=some o→h'.get? b=some o)→fj prog w A.in1.in1 vs ks { s with heap:=h' })
  (h : ∀ D h' c,(∀ b o,s.heap.get? b=some o→h'.get? b=some o)→s.heap.objs.size≤D→h'.get? D=some (seqObj "list" (pick (aU ks) vs Value.none).toArray c)→Q (.ref D) { s with heap:=h' }) :
  wpAny (model prog w) A (call (.builtin "sorted") [.ref l]) Q E s:=by
 refine Calls.call_function_entry kind_sorted plain_sorted entry_sorted (args_sorted1 _) ?_
 unfold Builtin.«sorted»
 refine wpAny_bind (m:=checkCount "sorted" 1 1 _) (wpAny_pure ?_)
 refine wpAny_bind (collect_list hl ?_ (by rw[sizeLine_eq];omega))
 refine wpAny_bind (wpAny_newList ?_ (by rw[sizeLine_eq];omega))
 have hsz:((s.heap.push (seqObj "list" #[] 0)).update s.heap.objs.size (Obj.mapSeq (·++vs.toArray))).objs.size=s.heap.objs.size+1:=by
  rw [Heap.size_update,size_push']
 have hoL:(((s.heap.push (seqObj "list" #[] 0)).update s.heap.objs.size (Obj.mapSeq (·++vs.toArray))).push (seqObj "list" vs.toArray 0)).get? (s.heap.objs.size+1)=some (seqObj "list" vs.toArray 0):=by
  rw [←hsz];exact yp _ rfl
 have keep:∀ b o,s.heap.get? b=some o→(((s.heap.push (seqObj "list" #[] 0)).update s.heap.objs.size (Obj.mapSeq (·++vs.toArray))).push (seqObj "list" vs.toArray 0)).get? b=some o:=fun b o q=>by
  have hlt:b<s.heap.objs.size:=ym q
  rw [Heap.get?_push_ne _ _ _ (by rw[hsz];exact yq (yZ hlt)),Heap.get?_update_ne _ _ _ _ (yq hlt),Heap.get?_push_ne _ _ _ (yq hlt)]
  exact q
 have ne:∀ b o,s.heap.get? b=some o→b≠s.heap.objs.size+1:=fun b o q=>by
  exact yq (yZ (ym q))
 show wpAny _ _ _ _ _ { s with heap:=((s.heap.push (seqObj "list" #[] 0)).update s.heap.objs.size (Obj.mapSeq (·++vs.toArray))).push (seqObj "list" vs.toArray 0) }
 rw [hsz]
 refine wpAny_bind (wpAny_holding (wpAny_call_entry slot_list_sort ⟨_,hoL,rfl⟩ entry_list_sort ?body (args_list_sort _)))
 case body =>
  refine kR (s:={ s with heap:=((s.heap.push (seqObj "list" #[] 0)).update s.heap.objs.size (Obj.mapSeq (·++vs.toArray))).push (seqObj "list" vs.toArray 0) }) hoL h64 hkl
   (fun h2 h' k=>hk h2 h' fun b o e=>k b o (ne b o e) (keep b o e)) fun h' c k hD=>⟨_,rfl,wpAny_pure ⟨_,rfl,?_⟩⟩
  exact h _ h' c (fun b o e=>k b o (ne b o e) (keep b o e)) (y8 _) hD
end
theorem dQ {vs:List V}{us:List Value} (r:aA vs us):∀ {p:List Nat},(∀ i∈p,i<vs.length)→aA (pick p vs .non) (pick p us Value.none)
 | [],_=>.nil
 | i::p,h=>by
  have hi:=h i (by simp)
  obtain ⟨u,e,ru⟩:=r.get (i:=i) (x:=vs[i]) (by simp[hi])
  have e1:vs.getD i .non=vs[i]:=by simp[yd,hi]
  have e2:us.getD i Value.none=u:=by rw[yd,e];rfl
  show aA (vs.getD i .non::pick p vs .non) (us.getD i Value.none::pick p us Value.none)
  rw [e1,e2]
  exact .cons ru (dQ r fun j hj=>h j (by simp[hj]))
theorem jK {K:PySem.W.Frag}{N:Addr→Prop}{H:Hp}{vs:List V}{ds:List PyData} (q:DNs K N H vs ds):∀ {p:List Nat},(∀ i∈p,i<vs.length)→DNs K N H (pick p vs .non) (pick p ds .none)
 | [],_=>.nil
 | i :: p,h=>by
  have hi:=h i (by simp)
  have hl:=q.len
  have hm:(vs[i],ds[i]'(by omega))∈vs.zip ds:=by
   rw [zh]
   exact ⟨i,by rw[y4];exact⟨x5 _,x5 _⟩⟩
  have e1:vs.getD i .non=vs[i]:=by simp[yd,hi]
  have e2:ds.getD i .none=ds[i]'(by omega):=by simp[yd,show i<ds.length by omega]
  show DNs K N H (vs.getD i .non::pick p vs .non) (ds.getD i .none::pick p ds .none)
  rw [e1,e2]
  exact .cons (iS q _ hm) (jK q fun j hj=>h j (by simp[hj]))
theorem ck {ks:List (Int×List Int)}:∀ i∈aU ks,i<ks.length:=fun i hi=>List.mem_range.mp ((bO ks).mem_iff.mp hi)
section
variable {X:Cx}{K:PySem.W.Frag}
theorem mE (hK:X.K=K) (hu:X.A.units+80<cLine):c7 X (.builtin "sorted") (fun xs H Q=>∃ (p:Addr) (vs:List V) (ds:List PyData),xs=[.ref p]∧SqL K H p vs∧DVs K H vs ds∧(∀ d∈ds,km d)∧vs.length<64 ∧
  ∀ q,H q=none→Q (.ref q) (upd H q (.lst (pick (aU (ds.map bI)) vs .non)))):=by
 subst hK
 intro pins s σ H xs us Q I r h
 obtain ⟨p,vs,ds,rfl,hs,hd,hk,h64,q⟩:=h
 obtain ⟨u,rfl,ru⟩:=kI r
 cases (show u=Value.ref p from ru)
 obtain ⟨its,rv,hp,_⟩:=I.list hs
 have hlen:=rv.length
 have hdl:ds.length=vs.length:=(sr hd).symm
 refine iu (vs:=its) (ks:=ds.map bI) hp.isList (by omega) (by rw[xZ];omega) (fun h2 h' k=>?_) fun D h' c k hD hD2=>?_
 ·have I':=I.kept (t':=s.toks) (h':=h') k
  obtain ⟨k1,k2⟩:=nY I' hd rv hk
  exact lR (by show X.A.in1.in1.units+64<cLine;simp[Around.in1] at *;omega) h2 k1 k2
 ·have hlt:∀ i∈aU (ds.map bI),i<vs.length:=fun i hi=>by have:=ck i hi;rw[xZ] at this;omega
  refine ⟨.ref D,upd H D (.lst (pick (aU (ds.map bI)) vs .non)),I.laid (t':=s.toks) (o:=.lst (pick (aU (ds.map bI)) vs .non)) k hD ⟨?_,_,c,dQ rv hlt,hD2⟩,rfl,q _ (I.hok.fresh hD)⟩
  unfold pick
  rw [xZ,(bO _).length_eq,yC,xZ,sizeLine_eq]
  omega
noncomputable def sy (t:DA):DE:=fun env R=>t env fun ss env1=>∃ s ds,ss=[s]∧aF env1 s=some (.list ds)∧(∀ d∈ds,km d)∧ds.length<64∧R (.ow (pick (aU (ds.map bI)) ds .none)) env1
variable {e:Expr}{p pos:Pos}{tl:DA}
theorem tM (hK:X.K=K) (hu:X.A.units+80<cLine) (hg:Gl X "sorted") (hm:X.mg "sorted" = none) (ha:PA X [e] (upA K tl)) (he:starEach [e] X.env=[(false,eval e X.env)]:=by rfl):PE X (.Call (.Name "sorted" p) [e] [] pos) (up K (sy tl)) :=
 (fw (mE (K:=K) hK hu) hg hm boot_sorted ha (by decide) (by decide) he rfl).imp fun σ H Q h=>by
 obtain ⟨M,P,H0,σ0,env,ts,R,rel,ht,hq⟩:=h
 refine ⟨M,P,H0,σ0,env,ts,_,rel,ht,fun ss env1 vs H1 h1 hl rel1=>?_⟩
 obtain ⟨s,ds,rfl,e1,hk,h64,hR⟩:=h1
 obtain ⟨v,rfl⟩:=rE hl
 obtain ⟨a,us,rfl,sq,q⟩:=(rel1.view (v:=v) (by simp) e1).list
 have hlt:∀ i∈aU (ds.map bI),i<us.length:=fun i hi=>by have:=ck i hi;rw[xZ] at this;rw[q.len];exact this
 exact ⟨a,us,ds,rfl,sq,q.dv,hk,by rw[q.len];exact h64,fun p' hp=>hq _ _ _ _ hR (rel1.resOw hp (jK q hlt))⟩
end
section
variable {prog:Program}{w:World}{A:Around}{E:Value→Shared→Prop}{h:Heap}{g:Array GenState}{d:Drawn}{t:Nat}{os:OsState}
variable {nm q:Str}{C N:Addr}{bs bm bmB:List Value}{hdct:Bool}{sn:List Str}{sub:List Value}{ab:Bool}{col:Option Bool}{dd:Option Addr}{k0 k1 k2 k3 k5:Option Value}{B newId initId:String}
end
section
variable {M:Model}{A:Around}{E:Value→Shared→Prop}{env:Env}{nm q:Str}{C N:Addr}{bs bm:List Value}{hdct:Bool}{sn:List Str}{sub:List Value}{ab:Bool}{col:Option Bool}{dd:Option Addr}{k0 k1 k2 k3 k5:Option Value}{newId:String}
end
end L2
namespace L2
open PySem PySem.Spec PyProof.Rows PySem.W
open Builtin Builtin.ObjectAttr
section
variable {prog:Program}{w:World}{A:Around}{E:Value→Shared→Prop}{h:Heap}{g:Array GenState}{d:Drawn}{t:Nat}{os:OsState}
variable {nm q:Str}{C N x:Addr}{bs bm:List Value}{sn:List Str}{sub:List Value}{ab:Bool}{col:Option Bool}{dd:Option Addr}{k0 k1 k2 k3 k5:Option Value}{newId:String}{name:Str}{v:Value}{o:Obj}
end
end L2
namespace L2
open PySem PySem.Spec PyProof.Rows PySem.W
section
variable {M:Model}{A:Around}{E:Value→Shared→Prop}{s:Shared}
end
noncomputable def mQ (e C:Addr) (dx:Option Addr) (h:Heap):Prop:=∃ t sl,h.get? e=some { cls:=.ref C,dict:=dx,data:=.fields #[.ref t,.none,.none,.none,.bool false,.none],slots:=sl }
theorem mQ.ok {P:Program}{w:World}{H:Hp}{h:Heap}{e C:Addr}{dx:Option Addr} (x:mQ e C dx h):cB P w H h e (.ext (mQ e C dx)):=by
 obtain ⟨t,sl,q⟩:=id x
 exact ⟨x,⟨_,q⟩,fun h1 h2 ⟨t,sl,q⟩ k=>⟨t,sl,k _ q⟩⟩
theorem sL.ok {P:Program}{w:World}{H:Hp}{h:Heap}{e C:Addr}{dx:Option Addr} (x:sL e C dx h):cB P w H h e (.ext (sL e C dx)):=by
 obtain ⟨t,sl,q⟩:=id x
 exact ⟨x,⟨_,q⟩,fun h1 h2 ⟨t,sl,q⟩ k=>⟨t,sl,k _ q⟩⟩
section
variable {X:Cx}{o value:Expr}{ta tv:TE}{pos pos':Pos}
end
section
variable {P:Program}{w:World}{K:PySem.W.Frag}{mg:Str→Option Value}{base:Heap}{N:List Str}{qual:Str}{scope:Scope}{f:Addr}{cd:Value}{A:Around}{outer:List Env}{s:Shared}{H:Hp}{E:XK}
end
section
variable {K:PySem.W.Frag}{P:Program}{w:World}{mg:Str→Option Value}{base:Heap}
end
section
variable {X:Cx}{C fI:Addr}{fd:FuncData}{x:Str}{k:Nat}{e:Expr}{t:TA}{p pos:Pos}
end
section
variable {P:Program}{w:World}{K:PySem.W.Frag}{mg:Str→Option Value}{base:Heap}{N:List Str}{qual:Str}{scope:Scope}{f:Addr}{cd:Value}{A:Around}{outer:List Env}{s:Shared}{H:Hp}{E:XK}
end
section
variable {X:Cx}{pins:List (Addr×Obj)}{σ:St}{H:Hp}{s:Shared}{e:Value}
end
section
variable {P:Program}{w:World}{H H':Hp}{h0 h h2:Heap}{a old C T:Addr}{dx:Option Addr}{oe:Obj}{vs:Array Value}{fl:Value}{outer:List Env}
end
section
variable {X:Cx}{k:Nat}{f C fI:Addr}{fd:FuncData}{ps:List Str}{sp:Sp}{x xn:Str}{p pos pos2 pn ph pt:Pos}{e:Expr}{es:List Expr}{t:TA}{b₀:Stmt}{th:TS}
end
noncomputable abbrev wT:=List Sl→(Sl→List Sl→Prop)→(Int→Prop)→Prop
section
variable {X:Cx}{K:PySem.W.Frag}{Hs:Hp}{pos:Pos}{st:Stmt}{bR a b:List Stmt}{t u:DS}{e c tg iter:Expr}{te:DE}{tc:DT}
end
section
variable {P:Program}{w:World}{K:PySem.W.Frag}{mg:Str→Option Value}{base:Heap}{N:List Str}{qual:Str}{scope:Scope}{f:Addr}{cd:Value}{A:Around}{outer:List Env}{s:Shared}{H:Hp}{E:XK}{C:Addr}{RX:Int→Prop}{tl:DA}{k:Nat}
end
section
variable {X:Cx}{x:Str}{p pos pos2 pn ph pt:Pos}{e:Expr}{es:List Expr}{k:Nat}{sp:wT}{K:PySem.W.Frag}{tl:DA}{C:Addr}{b₀:Stmt}{th:DS}
end
section
variable {K:PySem.W.Frag}{M P N:Addr→Prop}{H0 H H':Hp}{σ0 σ:St}{env:List Sl}{ts tt:List (V×Sl)}{v:V}{s:Sl}{d:PyData}
noncomputable def fM (sp:DSp) (t:DA):DE:=fun env R=>t env fun ss env1=>∃ s1 l d1,ss=[s1,.ow l]∧aE env1 s1=some d1∧sp [.fr d1,.io l] (dK (fun r _=>R r env1) ⟨⟩)
theorem mF {sp:DSp}{tl:DA}:∀ σ H Q,up K (fM sp tl) σ H Q→il (spD K sp) [] E0 (upA K tl) σ H Q:=fun σ H Q h=>by
 obtain ⟨M,P,H0,σ0,env,ts,R,rel,ht,hq⟩:=h
 refine ⟨M,P,H0,σ0,env,ts,_,rel,ht,fun ss env1 vs H1 h1 hl rel1=>?_⟩
 obtain ⟨s1,l,d1,rfl,ek,hsp⟩:=h1
 rw [yu]
 obtain ⟨w,v1,rfl⟩:=wm hl
 have rel2:Rel K M P H0 σ0 σ env1 ((ts++[(w,s1)])++[(v1,.ow l)]) H1:=by simpa using rel1
 have relT:Rel K M P H0 σ0 σ env1 (ts++[(v1,.ow l)]) H1:=rel2.dropMid
 have relS:Rel K M P H0 σ0 σ env1 ((ts++[(v1,.ow l)])++[(w,s1)]) H1:=by
  refine ⟨?_,rel2.len,fun x i m=>rel2.vw x i (by simpa [or_comm,or_left_comm] using m),rel2.ios⟩
  have e2:=rel2.e
  rw [aj,aj] at e2 ⊢
  refine e2.sub (fun x s m=>.inl (by
   simp only [x8] at m ⊢
   rcases m with (m|m)|m
   ·exact .inl (.inl m)
   ·exact .inr m
   ·exact .inl (.inr m))) ?_
  have nd:=e2.nd
  simp only [ac,yR] at nd ⊢
  exact ((List.Perm.append_left _ zi).nodup_iff).mp nd
 have dn:=relS.kept (tt:=[(w,s1)]) (v:=w) (s:=s1) (by simp) ek
 have hE:=relT.e
 rw [aj] at hE
 obtain ⟨a,us,ea,hH,ql,h0⟩:=hE.ow (some v1) l (xY _ (by simp[tmp]))
 cases ea
 have hE:aJ K M P H0 (al σ env1 ts++[(some (.ref a),.ow l)]) H1:=hE
 have eqN:Nw M (al σ env1 (ts++[(.ref a,.ow l)]))=Nw M (al σ env1 ts++[(some (.ref a),.ow l)]):=by rw[aj];rfl
 have ma:Nw M (al σ env1 ts++[(some (.ref a),.ow l)]) a:=.inr (by rw[ac];exact xY _ (aG.mpr ⟨_,x4.mpr rfl,x4.mpr rfl⟩))
 have dn1:DN K (Nw M (al σ env1 ts++[(some (.ref a),.ow l)])) H1 w d1:=by rw[←eqN];exact dn
 have arg:=mL (v1:=[w]) (d1:=[d1]) (l:=l) (us:=us) (a:=a) (K:=K) (M':=Nw M (al σ env1 ts++[(some (.ref a),.ow l)])) (H:=H1) (.cons dn1 .nil) .nil (fun b z hn=>relT.newAddr hn (by rw[eqN];exact z)) ma hH ql
 refine ⟨_,[.fr d1,.io l],fun r _=>R r env1,rfl,arg.2,hsp,fun r ss2 v H' hR hr post=>hq _ _ _ _ hR ?_⟩
 have k:aI (fun b=>b=a) H1 H':=post.keep.mono fun b z=>by
  have z:b∈oas (tmp ([w,.ref a].zip [.fr d1,.io l])):=z
  have oe:=arg.1
  simp only [yx,List.map_nil,List.cons_append,List.nil_append] at oe
  rw [oe,x4] at z
  exact z
 obtain ⟨rel',f1,f2,f3⟩:=hE.lost k post.live
 have rk:=post.resOk hr
 have rk':bv K (Nw M (al σ env1 ts)) H1 H' v r:=rk.to fun b z=>cF z
 have n2:∀ b,((Nw M (al σ env1 ts) b∨(b∈bw (some v,r)∧H1 b=none))∨b=a)→Nw M (al σ env1 ts++[(some (.ref a),.ow l)]) b∨H1 b=none:=fun b z=>by
  rcases z with (z|z)|z
  ·exact .inl (cF z)
  ·exact .inr z.2
  ·rw [z];exact .inl ma
 refine relT.drop.withRes ?_ hr
 refine rel'.getRes relT.e.live rk' (fun x d m=>?_) (fun x s ds' m eo=>?_) fun x S d m=>?_
 rotate_right
 ·obtain ⟨w,e,f⟩:=f3 x S d m
  exact ⟨w,e,(f (fun b=>(Nw M (al σ env1 ts) b∨(b∈bw (some v,r)∧H1 b=none))∨b=a) n2 (.inr rfl)).to fun b _ _ z=>.inl z⟩
 ·obtain ⟨w,e,f⟩:=f1 x d m
  exact ⟨w,e,(f (fun b=>(Nw M (al σ env1 ts) b∨(b∈bw (some v,r)∧H1 b=none))∨b=a) n2 (.inr rfl)).to fun b _ _ z=>.inl z⟩
 ·obtain ⟨b,us',e,e2,f⟩:=f2 x s ds' m eo
  exact ⟨b,us',e,e2,(f (fun b=>(Nw M (al σ env1 ts) b∨(b∈bw (some v,r)∧H1 b=none))∨b=a) n2 (.inr rfl)).to fun b _ _ z=>.inl z⟩
end
section
variable {X:Cx}{x:Str}{p pos:Pos}{e:Expr}{es:List Expr}{k:Nat}{sp:DSp}{K:PySem.W.Frag}{tl:DA}
theorem nw (C:Cal X.prog X.w X.K X.mg X.base x k (spD K sp)) (hr:ci k X.A) (hg:Gl X x) (ha:PA X (e::es) (upA K tl)) (hd:(x==("__debug__" : Str))=false:=by decide)
  (he:starEach (e::es) X.env=(false,eval e X.env)::starEach es X.env:=by rfl) (hpl:(backTo pos (starEach es X.env)).any (·.1)=false:=by rfl):PE X (.Call (.Name x p) (e::es) [] pos) (up K (fM sp tl)):=(gj C hr hg ha hd he hpl).imp mF
end
theorem us1 {Q:List Value→Prop}{us:List Value} (l:us.length=1) (h:∀ a:Value,Q [a]):Q us:=by
 obtain ⟨a,rfl⟩:=rE l
 exact h a
theorem us2 {Q:List Value→Prop}{us:List Value} (l:us.length=2) (h:∀ a b:Value,Q [a,b]):Q us:=by
 obtain ⟨a,b,rfl⟩:=wm l
 exact h a b
theorem us3 {Q:List Value→Prop}{us:List Value} (l:us.length=3) (h:∀ a b c:Value,Q [a,b,c]):Q us:=by
 obtain ⟨a,b,c,rfl⟩:=xF l
 exact h a b c
section
variable {X:Cx}{x:Str}{p pos:Pos}{e:Expr}{es:List Expr}{k:Nat}{sp:wT}{K:PySem.W.Frag}{tl:DA}{C:Addr}
end
section
variable {X:Cx}{pins:List (Addr×Obj)}{σ:St}{H:Hp}{s:Shared}
end
section
variable {X:Cx}{k:Nat}{f C fI:Addr}{fd:FuncData}{ps:List Str}{sp:Sp}{x xn xe:Str}{p pos pos2 pn ph pt:Pos}{e tg:Expr}{es:List Expr}{t:TA}{b₀:Stmt}{bs:List Stmt}{th:TS}{g:TG}{i:Nat}{hs':List ExceptHandler}
end
section
variable {X:Cx}{x xe:Str}{p pos pos2 pn ph pt:Pos}{e tg:Expr}{es:List Expr}{k i:Nat}{sp:wT}{K:PySem.W.Frag}{tl:DA}{C:Addr}{b₀:Stmt}{bs:List Stmt}{th:DS}{g:DG}{hs':List ExceptHandler}
end
section
variable {prog:Program}{w:World}{A:Around}{E:Value→Shared→Prop}{h:Heap}{g:Array GenState}{d:Drawn}{t:Nat}{os:OsState}
variable {nm q:Str}{C N x:Addr}{bs bm:List Value}{sn:List Str}{sub:List Value}{ab:Bool}{col:Option Bool}{dd:Option Addr}{k0 k1 k2 k3 k5:Option Value}{newId:String}{name:Str}{v:Value}{o:Obj}
end
section
variable {prog:Program}{w:World}{A:Around}{E:Value→Shared→Prop}{h:Heap}{g:Array GenState}{d:Drawn}{t:Nat}{os:OsState}
variable {nm q:Str}{C N x:Addr}{bs bm:List Value}{sn:List Str}{sub:List Value}{ab:Bool}{col:Option Bool}{dd:Option Addr}{k0 k1 k2 k3 k5:Option Value}{newId:String}{name:Str}{v c:Value}{o:Obj}
end
section
variable {X:Cx}{C fI:Addr}{e:Expr}{te:TE}{pos:Pos}
end
section
variable {X:Cx}{K:PySem.W.Frag}{C Dd fI:Addr}{e:Expr}{te:DE}{pos p:Pos}
end
section
variable {P:Program}{w:World}{K:PySem.W.Frag}{mg:Str→Option Value}{base:Heap}{N:List Str}{qual:Str}{scope:Scope}{f:Addr}{cd:Value}{A:Around}{outer:List Env}{s:Shared}{H:Hp}{E:XK}{C:Addr}{RX:Int→Prop}{tl:DA}{k:Nat}
end
section
variable {X:Cx}{K:PySem.W.Frag}{C Dd:Addr}{e:Expr}{te:DE}{pos p:Pos}
end
end L2
namespace L2
open PySem PySem.Spec PyProof.Rows
theorem lB:∀ {a b:List Int},a.map PyData.int=b.map PyData.int→a=b
 | [],[],_=>rfl
 | [],_::_,e=>by simp at e
 | _::_,[],e=>by simp at e
 | x::xs,y::ys,e=>by
  rw [yx,yx] at e
  injection e with e1 e2
  injection e1 with e1
  rw [e1,lB e2]
theorem ng {k k':cg} (e:f8 k=f8 k'):k=k':=by
 obtain ⟨d,l⟩:=k
 obtain ⟨d',l'⟩:=k'
 simp only [f8,PyData.tuple.injEq,List.cons.injEq,PyData.int.injEq,and_true] at e
 rw [e.1,lB e.2]
theorem dM:∀ {kvs kvs':List (cg×PyData)},kvs.map (fun p=>(f8 p.1,p.2))=kvs'.map (fun p=>(f8 p.1,p.2))→kvs=kvs'
 | [],[],_=>rfl
 | [],_::_,e=>by simp at e
 | _::_,[],e=>by simp at e
 | (k,v)::xs,(k',v')::ys,e=>by
  rw [yx,yx] at e
  injection e with e1 e2
  injection e1 with e1 e3
  have e1:=ng e1
  simp only at e1 e3
  rw [e1,e3,dM e2]
section
variable {K:PySem.W.Frag}{M P N:Addr→Prop}{H0 H H':Hp}{E T A B:List Ent}{σ0 σ:St}{env:List Sl}{ts tt:List (V×Sl)}{v:V}{s:Sl}{d:PyData}{kvs:List (cg×PyData)}
noncomputable def xl (K:PySem.W.Frag) (N:Addr→Prop) (H:Hp) (v:V) (kvs:List (cg×PyData)):Prop :=
 ∃ a es,v=.ref a∧H a=some (.ext (ij a es))∧DNs K N H (es.map fun p=>V.ref p.2.1) (kvs.map fun p=>f8 p.1)∧DNs K N H (es.map fun p=>p.2.2) (kvs.map fun p=>p.2)∧es.map (fun p=>p.1)=kvs.map (fun p=>p.1)
theorem oD {ds:List PyData} (e:fzD ds=mY kvs):False:=by
 cases kvs with
 | nil=>cases e
 | cons p kvs=>simp[fzD,mY,f8] at e
theorem DN.dct_of (h:DN K N H v d) (e:d=mY kvs):xl K N H v kvs:=by
 cases h with
 | fz _=>exact (oD e).elim
 | @dct a es kvs' n ha hk hv ee =>
  injection e with e
  have e:=dM e
  subst e
  exact ⟨a,es,rfl,ha,hk,hv,ee⟩
 | _=>cases e
theorem Vw.dct_of (h:Vw K N H v d) (e:d=mY kvs):xl K N H v kvs:=by
 cases h with
 | dn h=>exact h.dct_of e
 | ow h q=>cases e
 | @dct a es kvs' ha hk hv ee =>
  injection e with e
  have e:=dM e
  subst e
  exact ⟨a,es,rfl,ha,hk,hv,ee⟩
theorem OT.dct_of {S:List Addr} (h:OT K N H v d S) (e:d=mY kvs):∃ a es,v=.ref a∧S=[a]∧H a=some (.ext (ij a es))∧DNs K N H (es.map fun p=>V.ref p.2.1) (kvs.map fun p=>f8 p.1)∧DNs K N H (es.map fun p=>p.2.2) (kvs.map fun p=>p.2)∧es.map (fun p=>p.1)=kvs.map (fun p=>p.1):=by
 cases h with
 | fz _=>exact (oD e).elim
 | @dct a es kvs' ha hk hv ee =>
  injection e with e
  have e:=dM e
  subst e
  exact ⟨a,es,rfl,rfl,ha,hk,hv,ee⟩
 | _=>cases e
theorem Rel.dct {i:Nat}{S:List Addr} (h:Rel K M P H0 σ0 σ env ts H) (e:env[i]? = some (.tr S (mY kvs))):∃ a es,σ[i]? = some (some (.ref a))∧S=[a]∧H a=some (.ext (ij a es))∧DNs K (Nw M (al σ env ts)) H (es.map fun p=>V.ref p.2.1) (kvs.map fun p=>f8 p.1) ∧
  DNs K (Nw M (al σ env ts)) H (es.map fun p=>p.2.2) (kvs.map fun p=>p.2)∧es.map (fun p=>p.1)=kvs.map (fun p=>p.1):=by
 obtain ⟨x,e1,m⟩:=h.slot e
 obtain ⟨v,ev,ot,_⟩:=h.e.tr _ _ _ m
 obtain ⟨a,es,rfl,eS,ha,hk,hv,ee⟩:=ot.dct_of rfl
 exact ⟨a,es,by rw[e1,ev],eS,ha,hk,hv,ee⟩
end
section
variable {X:Cx}{K:PySem.W.Frag}{pos:Pos}{e:Expr}{te tj:DE}
end
section
variable {K:PySem.W.Frag}{M P N:Addr→Prop}{H0 H H':Hp}{E T A B:List Ent}{σ0 σ:St}{env:List Sl}{ts tt:List (V×Sl)}{v:V}{s:Sl}{d:PyData}{kvs:List (cg×PyData)}
end
section
variable {X:Cx}{K:PySem.W.Frag}{pos:Pos}{e1 e2:Expr}{tk tv:DE}
end
section
variable {K:PySem.W.Frag}{M P N:Addr→Prop}{H0 H H':Hp}{E T A B:List Ent}{σ0 σ:St}{env:List Sl}{ts tt:List (V×Sl)}{v:V}{s:Sl}{d:PyData}
theorem OT.unfz {S:List Addr}{ds:List PyData} (h:OT K N H v d S) (e:d=fzD ds):DN K N H v (.list ds)∧S=[]:=by
 cases h with
 | @fz _ ds' h =>
  simp only [fzD,PyData.dict.injEq,List.cons.injEq,Prod.mk.injEq,PyData.list.injEq,and_true,true_and] at e
  subst e
  exact ⟨h,rfl⟩
 | dct _ _ _ _=>exact (oD e.symm).elim
 | _=>cases e
theorem DN.unfz {ds:List PyData} (h:DN K N H v d) (e:d=fzD ds):DN K N H v (.list ds):=by
 cases h with
 | @fz _ ds' h =>
  simp only [fzD,PyData.dict.injEq,List.cons.injEq,Prod.mk.injEq,PyData.list.injEq,and_true,true_and] at e
  subst e
  exact h
 | dct _ _ _ _ _=>exact (oD e.symm).elim
 | _=>cases e
theorem OTs.row:∀ {w:List (List Int)}{us:List V}{S:List Addr},OTs K N H us (w.map fun r=>fzD (r.map .int)) S→S=[]∧DNs K N H us (w.map fun r=>PyData.list (r.map .int))
 | [],_,_,h=>by cases h;exact⟨rfl,.nil⟩
 | r :: w,_,_,h=>by
  rw [yx] at h
  cases h with
  | cons h q =>
   obtain ⟨e1,e2⟩:=OTs.row q
   obtain ⟨d1,d2⟩:=h.unfz rfl
   subst e1 d2
   exact ⟨rfl,.cons d1 e2⟩
theorem DNs.row:∀ {w:List (List Int)}{us:List V},DNs K N H us (w.map fun r=>PyData.list (r.map .int))→OTs K N H us (w.map fun r=>fzD (r.map .int)) []
 | [],_,h=>by cases h;exact .nil
 | r::w,_,h=>by
  rw [yx] at h
  cases h with
  | cons h q=>exact .cons (S:=[]) (S':=[]) (.fz h) (DNs.row q)
end
section
variable {X:Cx}{K:PySem.W.Frag}{pos npos:Pos}{y:Str}{j j2:Nat}{p3 p4 p5 p6 p7 apos cpos:Pos}
end
end L2
namespace L2
open PySem PySem.Spec PyProof.Rows PySem.W
section
variable {lt:Nat→Nat→Bool} (as:∀ a b,lt a b=true→lt b a=false) (tr:∀ a b c,lt a b=false→lt b c=false→lt a c=false)
end
section
variable {prog:Program}{w:World}{A:Around}{E:Value→Shared→Prop}{s:Shared}
end
noncomputable def uH (d:PyData):Prop:=∃ n:Int,d=.int n
section
variable {X:Cx}{pins:List (Addr×Obj)}{σ:St}{H:Hp}{s:Shared}
end
section
variable {X:Cx}{pins:List (Addr×Obj)}{σ:St}{H0:Hp}{f:Value}{vs:List Value}{A:Around}{E:Value→Shared→Prop}{a kS:Addr}
end
section
variable {X:Cx}{pins:List (Addr×Obj)}{σ:St}{H0:Hp}{f:Addr}{vs:List Value}{A:Around}{E:Value→Shared→Prop}{s:Shared}
end
section
variable {X:Cx}{K:PySem.W.Frag}
variable {e:Expr}{p pos:Pos}{tl:DA}
end
section
variable {CX:CXT}{P:Program}{w:World}{K:PySem.W.Frag}{mg:Str→Option Value}{base:Heap}{qual p x:Str}{scope:Scope}{f c:Addr}{cd:Value}{A:Around}{outer:List Env}{s:Shared}{H:Hp}{E:XK}{u u0:Value}{v v0:V}{h₁:Heap}{tk:Nat}
end
section
variable {X:Cx}{pins:List (Addr×Obj)}{σ:St}{H:Hp}{s:Shared}{params:Arguments}{body:Expr}{scope:Scope}{pos:Pos}{E:Value→Shared→Prop}{clos:List (Str×Addr)}
theorem lQ (I:Inv X pins σ H s) (L:o7 X) (hcl:closureFor scope X.env=pure clos) (hdef:defaultsOf params X.env=([],[])) {Q:Value→Shared→Prop}
  (h : ∀ f c' pm ctv s' H',Inv X pins σ H' s'→aH H H'→s'.heap.get? f=some (kla_obj "<lambda>" (X.env.qual ++ "<lambda>") params body scope clos pm c' ctv)→eN X pins H' f→vk H' c' (X.env.qual ++ "<lambda>")→Q (.ref f) s') :
  wpAny (model X.prog X.w) X.A (eval (.Lambda params body scope pos) X.env) Q E s:=by
 obtain ⟨c,T,hcode,C,hL⟩:=L
 have hT:H T=some (.tbl (X.env.qual ++ "<lambda>")):=I.base.tbls T _ (I.ok.tab T _ hL)
 obtain ⟨ps,e,htr,hgood⟩:=I.hok T _ hT
 obtain ⟨bm,ob,b1,b2,b3,b4,b5,b6⟩:=I.mod.bmain
 have hg:=I.mod.glob.keeps I.bk
 have hgP:mainGlobals≠T:=fun q=>by
  obtain ⟨o,es,ep,e',hd,_⟩:=hg
  rw [q,e] at e';cases e';cases hd
 have hbP:bm≠T:=fun q=>by
  have e':=I.bk _ _ b3
  rw [q,e] at e';cases e';cases b4
 have hbG:bm≠mainGlobals:=fun q=>by
  obtain ⟨o,es,ep,e',hd,_⟩:=hg
  have e2:=I.bk _ _ b3
  rw [q,e'] at e2;cases e2;rw[hd] at b6;cases b6
 have hB:s.heap.BuiltinsAt X.mg T:=⟨bm,ob,b1,b2,hbG,hbP,I.bk _ _ b3,b4,b5,b6⟩
 refine kla_eval hdef ?_
 cases hc:codeAmong pos ps.toList with
 | none =>
  refine kla_makeFunction hcl I.ok.glob hg hcode (C.keeps I.bk) e htr hc hgP hB fun c' ctv h' tk hx hge hlt hrec htb=>?_
  obtain ⟨c2,oc,vs,t,e2,hoc,hd,hv⟩:=hrec
  cases e2
  have ht2:sK (upd H c' (.frz oc (.own 0))) h' T (X.env.qual ++ "<lambda>"):=by
   refine ⟨_,htb,by rw[Array.toList_append];exact TriplesOk_snoc _ _ _ _ htr,fun p cv hcv=>?_⟩
   rw [Array.toList_append] at hcv
   rcases ky _ htr hcv with hcv|rfl
   ·obtain ⟨c2,oc2,u2,vs2,t2,e1,e2,e3⟩:=hgood _ _ hcv
    exact ⟨c2,oc2,u2,vs2,t2,e1,by rw[ag (ak e2 (I.hok.fresh hge))];exact e2,e3⟩
   ·exact ⟨c',oc,_,vs,t,rfl,aC,hd,hv⟩
  obtain ⟨I2,sm⟩:=I.grow (tk:=tk) hT hx hge hoc hd hv ht2
  have I3:=I2.kept (t':=tk) (h':=h'.push (kla_obj "<lambda>" (X.env.qual ++ "<lambda>") params body scope clos ((X.mg "__name__").getD .none) c' ctv)) fun b o e=>yf _ e
  exact h _ c' _ ctv _ _ I3 sm (yp _ rfl) (I2.fpOk (yl _) (I2.hok.fresh (yl _))) ⟨_,_,_,_,aC,hd,hv⟩
 | some cv =>
  obtain ⟨c',oc,u,vs,t,rfl,e1,hd,hv⟩:=hgood _ _ hc
  obtain ⟨hoc,_⟩:=I.hok c' _ e1
  refine kla_makeFunctionHit hcl I.ok.glob hg hcode (C.keeps I.bk) e htr hc hB fun ctv h' tk hk hsz=>?_
  have I2:=I.kept (t':=tk) hk
  have I3:=I2.kept (t':=tk) (h':=h'.push (kla_obj "<lambda>" (X.env.qual ++ "<lambda>") params body scope clos ((X.mg "__name__").getD .none) c' ctv)) fun b o e=>yf _ e
  exact h _ c' _ ctv _ _ I3 (aH.refl _) (yp _ rfl) (I2.fpOk (yl _) (I2.hok.fresh (yl _))) ⟨_,_,_,_,e1,hd,hv⟩
end
theorem fD:∀ a:List Int,HT.lexLt a a=false
 | []=>HT.lexLt_nil_nil
 | x::a=>by rw[HT.lexLt_cons,if_pos rfl];exact fD a
theorem oj (a b:Int×List Int):dh a b=if a.1=b.1 then HT.lexLt a.2 b.2 else decide (a.1<b.1):=by
 unfold dh
 by_cases e:a.1=b.1
 ·rw [if_pos e,if_pos e]
  by_cases e2:a.2=b.2
  ·rw [if_pos e2,e2,fD]
  ·rw [if_neg e2]
 ·rw [if_neg e,if_neg e]
theorem lC {α:Type}{p:List Nat}{xs:List α}{d:α} (h:p.Perm (List.range xs.length)):(pick p xs d).Perm xs:=by
 have h1:=h.map fun i=>xs.getD i d
 refine h1.trans (List.Perm.of_eq ?_)
 apply List.ext_getElem
 ·simp
 ·intro i a b
  simp at a
  simp [a]
section
variable {X:Cx}{K:PySem.W.Frag}
end
section
variable {prog:Program}{w:World}{A:Around}{s:Shared}
theorem ox {us:List Value}{ns:List Int} (h2:2≤us.length) (k:∀ i (h:i<us.length),∃ t,us[i]=Value.int (ns.getD i 0) t) (hl:ns.length=us.length):fj prog w A us (ns.map fun n=>(n,[])) s:=by
 refine kas_kind (T:=.type "int") h2 (fun v hv=>?_) (by decide) (by rfl) ⟨rfl,fun i j C hi hj hc=>?_⟩
 ·obtain ⟨i,hi,rfl⟩:=y9 hv
  obtain ⟨t,e⟩:=k i hi
  rw [e]
  exact .now
 ·have e1:us.getD i Value.none=us[i]:=by simp[hi]
  have e2:us.getD j Value.none=us[j]:=by simp[hj]
  show wpAny (model prog w) A (keyLt' _ (us.getD i Value.none) (us.getD j Value.none)) C (fun _ _=>False) s
  rw [e1,e2]
  obtain ⟨t,ex⟩:=k i hi
  obtain ⟨u,ey⟩:=k j hj
  rw [ex,ey]
  have g:∀ m,m<us.length→(ns.map fun n=>(n,([]:List Int))).getD m (0,[])=(ns.getD m 0,[]):=fun m hm=>by
   rw [yd,yA,yd,x5 (by omega)]
   rfl
  rw [g i hi,g j hj,oj] at hc
  refine kat_lt_int ?_
  have e:(if (ns.getD i 0,([]:List Int)).1=(ns.getD j 0,([]:List Int)).1 then HT.lexLt (ns.getD i 0,([]:List Int)).2 (ns.getD j 0,([]:List Int)).2 else decide ((ns.getD i 0,([]:List Int)).1<(ns.getD j 0,([]:List Int)).1))=decide (ns.getD i 0<ns.getD j 0):=by
   by_cases z:ns.getD i 0=ns.getD j 0
   ·rw [if_pos z,fD]
    exact (decide_eq_false (by omega)).symm
   ·rw [if_neg z]
  rw [e] at hc
  exact hc
end
section
variable {X:Cx}{K:PySem.W.Frag}
variable {e:Expr}{p pos:Pos}{tl:DA}
end
noncomputable def oB:Sl→Sl
 | .fr d=>.fr d
 | _=>.un
theorem rV {s:Sl}{d:PyData} (h:oB s=.fr d):s=.fr d:=by
 cases s <;> first|exact h|cases h
theorem oA {s:Sl}{a:Addr}{x:Option V}:a ∉ bw (x,oB s):=fun z=>by
 rcases gm z with ⟨_,⟨ds,e⟩|⟨ds,e⟩⟩|⟨S,d,e,_⟩ <;> cases s <;> cases e
section
variable {prog:Program}{w:World}{A:Around}{E:Value→Shared→Prop}{s:Shared}
theorem lT (a b:List Int):dh (0,a) (0,b)=HT.lexLt a b:=by
 unfold dh
 rw [if_pos rfl]
 split
 ·rename_i h
  simp only at h
  rw [h,fD]
 ·rfl
noncomputable def xV (h:Heap) (v:Value) (ns:List Int):Prop:=∃ (l:Addr) (its:Array Value),v=.ref l∧h.IsList l its∧At its ns
theorem iF {l b:Addr}{items items2:Array Value}{ns ms:List Int}{Q:Bool→Shared→Prop} (hl:s.heap.IsList l items) (hb:s.heap.IsList b items2) (at1:At items ns) (at2:At items2 ms)
  (hu:A.units<cLine) (h:Q (HT.lexLt ns ms) s):wpAny (model prog w) A (oneLt' true (.ref l) (.ref b)) Q E s:=by
 obtain ⟨⟨cls,dd,data,sl⟩,ho,hc,n,hd⟩:=id hl
 obtain ⟨⟨cls2,dd2,data2,sl2⟩,ho2,hc2,n2,hd2⟩:=id hb
 simp only at hc hd hc2 hd2
 subst hc hd hc2 hd2
 rw [oneLt'_eq]
 simp only [if_true]
 refine wpAny_bind (wpAny_cRoomFor hu ?_)
 refine wpAny_bind (wpAny_callSpecialIfBound?_slot ⟨_,ho,rfl⟩ F.slot_list_lt (call_meets F.slot_list_lt ⟨_,ho,rfl⟩ F.entry_list_lt (F.args_list_lt_2 _ _) (jw l b items items2 n n2 dd dd2 sl sl2 ns ms at1 at2) ⟨ho,ho2,?_⟩))
 exact wpAny_truthy_bool h
theorem nj {us:List Value}{ks:List (Int×List Int)} (hu:A.units<cLine) (h2:2≤us.length) (k:∀ i (h:i<us.length),∃ ns,ks.getD i (0,[])=(0,ns)∧xV s.heap us[i] ns):fj prog w A us ks s:=by
 refine kas_kind (T:=.type "list") h2 (fun v hv=>?_) (by decide) (by rfl) ⟨rfl,fun i j C hi hj hc=>?_⟩
 ·obtain ⟨i,hi,rfl⟩:=y9 hv
  obtain ⟨ns,_,l,its,e,⟨o,ho,hc,_⟩,_⟩:=k i hi
  rw [e]
  exact hc▸(Looks.ld ho).andThen .now
 ·have e1:us.getD i Value.none=us[i]:=by simp[hi]
  have e2:us.getD j Value.none=us[j]:=by simp[hj]
  show wpAny (model prog w) A (keyLt' _ (us.getD i Value.none) (us.getD j Value.none)) C (fun _ _=>False) s
  rw [e1,e2]
  obtain ⟨ns,en,l,its,el,i1,i2⟩:=k i hi
  obtain ⟨ms,em,b,its2,eb,j1,j2⟩:=k j hj
  rw [en,em,lT] at hc
  rw [el,eb,keyLt'_oneType]
  exact iF i1 j1 i2 j2 hu hc
end
noncomputable def vi (kds:List PyData):Prop:=(∀ d∈kds,km d)∨(∀ d∈kds,uH d)∨∀ d∈kds,uG d
section
variable {K:PySem.W.Frag}
theorem oH {N:Addr→Prop}{H:Hp}{vs:List V}{ds:List PyData}{us:List Value} (q:DNs K N H vs ds) (r:aA vs us) (i:Nat) (h:i<us.length):∃ v,aY v us[i]∧DN K N H v (ds.getD i .none)∧ds.getD i .none∈ds:=by
 have hl:=q.len
 have hl2:=r.length
 obtain ⟨u,e,ru⟩:=r.get (i:=i) (x:=vs[i]) (by simp)
 rw [x5 h] at e
 cases e
 have hm:(vs[i],ds[i])∈vs.zip ds:=by
  rw [zh]
  exact ⟨i,by rw[y4];exact⟨x5 _,x5 _⟩⟩
 have e2:ds.getD i .none=ds[i]:=by simp[yd,show i<ds.length by omega]
 rw [e2]
 exact ⟨_,ru,iS q _ hm,yO _⟩
end
theorem gR {α β:Type} (f:α→β) (l:List α) (i:Nat) (d:α):(l.map f).getD i (f d)=f (l.getD i d):=by
 simp only [yd,yA]
 cases l[i]? <;> rfl
theorem gS (kds:List PyData) (i:Nat):(kds.map bI).getD i (0,[])=bI (kds.getD i .none):=gR bI kds i .none
section
variable {X:Cx}{pins:List (Addr×Obj)}{σ:St}{H:Hp}{s:Shared}{A:Around}
theorem nZ {kds:List PyData}{kv:List V}{ks:List Value} (hk:vi kds) (hu:A.units+64<cLine) (I:Inv X pins σ H s) (dn:DNs X.K N0 H kv kds) (rv:aA kv ks) (h2:2≤ks.length):fj X.prog X.w A ks (kds.map bI) s:=by
 have hl:kds.length=ks.length:=by rw[←dn.len,rv.length]
 rcases hk with hk|hk|hk
 ·refine lR hu h2 (by rw[xZ];exact hl) fun i hi=>?_
  obtain ⟨v,rx,dx,md⟩:=oH dn rv i hi
  rw [gS]
  exact lS I dx.dv rx (hk _ md)
 ·have em:kds.map bI=(kds.map fun d=>(bI d).1).map fun n=>(n,[]):=by
   rw [yD]
   refine za fun d hd=>?_
   obtain ⟨n,rfl⟩:=hk d hd
   rfl
  rw [em]
  refine ox h2 (fun i hi=>?_) (by rw[xZ];exact hl)
  obtain ⟨v,rx,dx,md⟩:=oH dn rv i hi
  have eg:(kds.map fun d=>(bI d).1).getD i 0=(bI (kds.getD i .none)).1:=gR (fun d=>(bI d).1) kds i .none
  rw [eg]
  obtain ⟨n,e⟩:=hk _ md
  rw [e] at dx ⊢
  rw [dx.dv.intI] at rx
  exact rx
 ·refine nj (by omega) h2 fun i hi=>?_
  obtain ⟨v,rx,dx,md⟩:=oH dn rv i hi
  rw [gS]
  obtain ⟨ns,e⟩:=hk _ md
  rw [e] at dx ⊢
  obtain ⟨l,ys,rfl,sq,q⟩:=dx.dv.lstI
  obtain ⟨jts,rj,pl,_⟩:=I.list sq
  obtain ⟨h1,h2⟩:=sI q rj
  refine ⟨ns,?_,l,jts.toArray,rx,pl.isList,⟨by simpa using h1,fun j hj=>h2 j (by simpa using hj)⟩⟩
  show ((0:Int),(bq (ns.map PyData.int)).getD [])=_
  rw [be]
  rfl
end
section
variable {X:Cx}{pins:List (Addr×Obj)}{σ:St}{H0:Hp}{f:Value}{vs:List Value}{A:Around}{E:Value→Shared→Prop}{a kS:Addr}
structure qq (X:Cx) (pins:List (Addr×Obj)) (σ:St) (H0:Hp) (a kS:Addr) (e1:Nat) (kds:List PyData) (ks:List Value) (s:Shared):Prop where
 ex : ∃ H kv c,Inv X pins σ H s∧aH H0 H∧aA kv ks∧DNs X.K N0 H kv (kds.take ks.length)∧eN X pins H a∧eN X pins H kS∧s.heap.get? kS=some (seqObj "list" ks.toArray c)
 la : s.heap.get? a=some (seqObj "list" #[] e1)
theorem eW {e1 n:Nat}{kds:List PyData} (ne:a≠kS) (hn:n<64) {body:Value→PUnit→Sem (ForInStep PUnit)}
  (hb:∀ x ks e (s:Shared) (C:Value→Shared→Prop),List.length ks<64→wpAny (model X.prog X.w) A (call f [x]) (fun k s1=>s1.heap.get? kS=some (seqObj "list" (List.toArray ks) e)∧C k s1) (fun _ _=>False) s →
   wpAny (model X.prog X.w) A (body x ⟨⟩) (fun r s'=>r=.yield ⟨⟩∧∃ k s1 c,C k s1∧s'={ s1 with heap:=s1.heap.update kS (Obj.mapSeq (·.push k)) }∧s'.heap.get? kS=some (seqObj "list" (List.toArray (ks++[k])) c)) E s)
  (hkn:kds.length=vs.length) (call:∀ i (h:i<vs.length),∀ H s,Inv X pins σ H s→aH H0 H→wpAny (model X.prog X.w) A (call f [vs[i]]) (eM X pins σ H s (kds.getD i .none)) (fun _ _=>False) s) :
  ∀ (r ks:List Value) (s:Shared),r=vs.drop ks.length→ks.length+r.length=n→qq X pins σ H0 a kS e1 kds ks s →
   wpAny (model X.prog X.w) A (forIn r PUnit.unit body) (fun _ s'=>∃ ks,ks.length=n∧qq X pins σ H0 a kS e1 kds ks s') E s
 | [],ks,s,_,hl,h=>by
  rw [List.forIn_nil]
  exact wpAny_pure ⟨ks,by simpa using hl,h⟩
 | x :: r,ks,s,hr,hl,h=>by
  rw [yK] at hl
  rw [List.forIn_cons]
  obtain ⟨⟨H,kv,c,I,sm,rv,dn,fa,fk,gk⟩,la⟩:=h
  have hix:ks.length<vs.length:=by
   have:=congrArg List.length hr
   rw [List.length_drop,yK] at this
   omega
  have hx:vs[ks.length]=x∧r=vs.drop (ks.length+1):=by
   rw [yP hix] at hr
   injection hr with h1 h2
   exact ⟨h1.symm,h2⟩
  have hc:=call ks.length hix H s I sm
  rw [hx.1] at hc
  refine wpAny_bind (wpAny_mono (hb x ks c s (fun k s1=>eM X pins σ H s (kds.getD ks.length .none) k s1) (by omega) (wpAny_mono hc (fun k s1 hk1=>?_) fun _ _ z=>z)) (fun q s' hq=>?_) fun _ _ z=>z)
  ·obtain ⟨H',v,I',sm',rv',dn',kp⟩:=id hk1
   exact ⟨(kp kS _ fk gk).1,hk1⟩
  ·obtain ⟨rfl,k,s1,c2,⟨H',v,I',sm',rv',dn',kp⟩,es,gk'⟩:=hq
   subst es
   have fk':=l6 fk (kp kS _ fk gk).2
   have fa':=l6 fa (kp a _ fa la).2
   have su:=Heap.SameBut.update s1.heap kS (Obj.mapSeq (·.push k))
   have I2:=I'.turnedN (t':=s1.toks) (fp:=[kS]) (h':=s1.heap.update kS (Obj.mapSeq (·.push k))) (fun b hb'=>by rw[x4.mp hb'];exact fk') fun b o hb' e=>(su.2 b (fun z=>hb' (by simp[z]))).trans e
   show wpAny (model X.prog X.w) A (forIn r PUnit.unit body) _ E _
   refine eW ne hn hb hkn call r (ks++[k]) _ (by rw[yw,yX];exact hx.2) (by rw[yw,yX];omega) ⟨⟨H',kv++[v],c2,I2,sm.trans sm',kH rv rv',?_,fa',fk',gk'⟩,?_⟩
   ·have e:kds.take (ks++[k]).length=kds.take ks.length++[kds.getD ks.length .none]:=by
     rw [yw,yX,zj,x5 (by omega),yd,x5 (by omega)]
     rfl
    rw [e]
    exact (dn.keep (aI.same sm')).app (.cons dn' .nil)
   ·exact (su.2 a ne).trans (kp a _ fa la).1
theorem j9 {kds:List PyData}{s:Shared}{n:Nat}{P:PySem.Fin→Shared→Prop} (I:Inv X pins σ H0 s) (fa:eN X pins H0 a) (ho:s.heap.get? a=some (seqObj "list" vs.toArray n)) (h64:vs.length<64) (hu:A.units+64<cLine)
  (hkn:kds.length=vs.length) (hkk:vi kds) (call:∀ i (h:i<vs.length),∀ H s',Inv X pins σ H s'→aH H0 H→wpAny (model X.prog X.w) A (call f [vs[i]]) (eM X pins σ H s' (kds.getD i .none)) (fun _ _=>False) s')
  (h : ∀ H s' c,Inv X pins σ H s'→aH H0 H→eN X pins H a→s'.heap.get? a=some (seqObj "list" (pick (aU (kds.map bI)) vs Value.none).toArray c)→P (.done (.ret .none)) s') :
  wpAny (model X.prog X.w) A (ksk_tree a f false) P E s:=by
 have ha:a<s.heap.objs.size:=ym ho
 have s1:=Heap.SameBut.update s.heap a (Obj.mapSeq fun _=>(#[]:Array Value))
 obtain ⟨e1,ho1⟩:∃ e1,(s.heap.update a (Obj.mapSeq fun _=>(#[]:Array Value))).get? a=some (seqObj "list" #[] e1):=⟨_,get?_update_seq ho fun _=>#[]⟩
 have keep:∀ b o,b≠a→s.heap.get? b=some o→(((s.heap.update a (Obj.mapSeq fun _=>(#[]:Array Value))).push (seqObj "tuple" vs.toArray 0)).push (seqObj "list" #[] 0)).get? b=some o:=fun b o hb e =>
  yf _ (yf _ ((s1.2 b hb).trans e))
 have ho3:(((s.heap.update a (Obj.mapSeq fun _=>(#[]:Array Value))).push (seqObj "tuple" vs.toArray 0)).push (seqObj "list" #[] 0)).get? a=some (seqObj "list" #[] e1):=yf _ (yf _ ho1)
 have hsz:((s.heap.update a (Obj.mapSeq fun _=>(#[]:Array Value))).push (seqObj "tuple" vs.toArray 0)).objs.size=s.heap.objs.size+1:=by rw[size_push',Heap.size_update]
 unfold ksk_tree
 refine wpAny_bind (listItems_at ho rfl ?_)
 refine wpAny_bind (listUpdate_at ho rfl ?_ (by rw[yh,sizeLine_eq];omega) (yo _))
 refine wpAny_bind (seqEpoch_at ho1 rfl ?_)
 refine wpAny_bind (wpAny_newTuple ?_ (by show vs.length≤_;rw[sizeLine_eq];omega))
 refine wpAny_bind (wpAny_newList ?_ (yo _))
 refine wpAny_holding ?_
 obtain ⟨kS,ekS⟩:∃ kS,kS=((s.heap.update a (Obj.mapSeq fun _=>(#[]:Array Value))).push (seqObj "tuple" vs.toArray 0)).objs.size:=⟨_,rfl⟩
 have gk:(((s.heap.update a (Obj.mapSeq fun _=>(#[]:Array Value))).push (seqObj "tuple" vs.toArray 0)).push (seqObj "list" #[] 0)).get? kS=some (seqObj "list" (List.toArray []) 0):=by rw[ekS];exact yp _ rfl
 have hne:a≠kS:=by rw[ekS,hsz];exact yq (yZ ha)
 have fk:eN X pins H0 kS:=I.fpOk (by rw[ekS,hsz];omega) (I.hok.fresh (by rw[ekS,hsz];omega))
 have I1:=I.turnedN (t':=s.toks) (fp:=[a]) (h':=((s.heap.update a (Obj.mapSeq fun _=>(#[]:Array Value))).push (seqObj "tuple" vs.toArray 0)).push (seqObj "list" #[] 0)) (fun b hb=>by rw[x4.mp hb];exact fa) fun b o hb e=>keep b o (fun z=>hb (by simp[z])) e
 rw [←ekS]
 show wpAny (model X.prog X.w) A (ksk_rest a f false vs.toArray e1 (.ref kS)) P E { s with heap:=((s.heap.update a (Obj.mapSeq fun _=>(#[]:Array Value))).push (seqObj "tuple" vs.toArray 0)).push (seqObj "list" #[] 0) }
 unfold ksk_rest
 refine wpAny_bind (wpAny_rule ?_)
 first
  | rw[List.forIn_toArray]
  | (rw[←Array.forIn_toList];simp only [List.toList_toArray])
  | rw[←Array.forIn_toList]
 refine wpAny_bind (wpAny_mono (eW (f:=f) (A:=A) (e1:=e1) (n:=vs.length) (kds:=kds) hne h64 (fun x ks e s' C hz hx=>?_) hkn call vs [] _ rfl (by simp) ⟨⟨H0,[],0,I1,aH.refl _,.nil,.nil,fa,fk,gk⟩,ho3⟩) (fun _ s' hd=>?_) fun _ _ x=>x)
 ·refine wpAny_bind (wpAny_attempt (wpAny_mono hx (fun k s'' hk=>?_) fun _ _ hF=>hF.elim))
  obtain ⟨nk,hC⟩:=hk
  have ea:(List.toArray ks).push k=List.toArray (ks++[k]):=by simp
  obtain ⟨c2,hc2⟩:∃ c2,(s''.heap.update kS (Obj.mapSeq (·.push k))).get? kS=some (seqObj "list" (List.toArray (ks++[k])) c2):=⟨_,by rw[←ea];exact get?_update_seq nk (·.push k)⟩
  try dsimp only
  refine wpAny_bind (listUpdate_at nk rfl ?_ (by rw[yh,sizeLine_eq];omega) (yg (Nat.le_of_eq (Array.size_push ..)) (by rw[yh,sizeLine_eq];omega)))
  exact wpAny_pure ⟨rfl,k,s'',c2,hC,rfl,hc2⟩
 ·obtain ⟨ks,hl,⟨⟨H,kv,c,I2,sm,rv,dn,fa2,fk2,gk2⟩,la⟩⟩:=hd
  rw [yW (by omega)] at dn
  refine wpAny_bind (listItems_at gk2 rfl ?_)
  have fin:∀ (ws:List Value) (st:SortSt),ws.length=vs.length→ws=pick (aU (kds.map bI)) vs Value.none→(arrOf st).map (·.2)=ws.toArray→failedOf st=none→wpAny (model X.prog X.w) A (ksk_tail a false e1 (.ref kS) st) P E s':=fun ws st hwl hp hout hf=>by
   have t1:=Heap.SameBut.update s'.heap kS (Obj.mapSeq fun _=>(#[]:Array Value))
   have la1:(s'.heap.update kS (Obj.mapSeq fun _=>(#[]:Array Value))).get? a=some (seqObj "list" #[] e1):=(t1.2 a hne).trans la
   have t2:=Heap.SameBut.update (s'.heap.update kS (Obj.mapSeq fun _=>(#[]:Array Value))) a (Obj.mapSeq fun _=>ws.toArray)
   obtain ⟨c2,hc2⟩:∃ c2,((s'.heap.update kS (Obj.mapSeq fun _=>(#[]:Array Value))).update a (Obj.mapSeq fun _=>ws.toArray)).get? a=some (seqObj "list" ws.toArray c2):=⟨_,get?_update_seq la1 fun _=>ws.toArray⟩
   unfold ksk_tail
   try dsimp only
   rw [hout]
   refine wpAny_bind (listUpdate_at gk2 rfl ?_ (by rw[yh,sizeLine_eq];omega) (yo _))
   refine wpAny_bind (wpAny_letGo ?_)
   refine wpAny_bind (seqEpoch_at la1 rfl ?_)
   simp only [yy,if_false]
   refine wpAny_bind (listUpdate_at la1 rfl ?_ (yo _) (by rw[yh,sizeLine_eq];omega))
   rw [hf]
   simp only [bne_self_eq_false,yy,if_false]
   refine wpAny_pure (h H _ c2 (I2.turnedN (t':=s'.toks) (fp:=[kS,a]) (fun b hb=>?_) fun b o hb e=>?_) sm fa2 (by rw[←hp];exact hc2))
   ·rcases ye.mp hb with rfl|hb
    ·exact fk2
    ·rw [x4.mp hb];exact fa2
   ·simp only [ye,yt,or_false,not_or] at hb
    exact (t2.2 b hb.2).trans ((t1.2 b hb.1).trans e)
  unfold ksk_end
  try dsimp only
  simp only [yy,if_false]
  by_cases h2:2≤vs.length
  ·have hn2:¬vs.toArray.size<2:=by rw[yh];omega
   rw [if_neg hn2,if_neg hn2]
   refine wpAny_bind (wpAny_mono (nZ hkk hu I2 dn rv (by omega)) (fun κ s0 hk'=>?_) fun _ _ x=>x.elim)
   obtain ⟨rfl,hask⟩:=hk'
   refine wpAny_bind (wpAny_mono (kat_run (κ:=κ) (A:=A) (prog:=X.prog) (w:=X.w) (ks:=ks) (vs:=vs) (G:=fun p s2=>p=cI (fun i j=>dh ((kds.map bI).getD i (0,[])) ((kds.map bI).getD j (0,[]))) (kas_sort vs.length)∧s2=s0)
    (Q := fun st' s2=>∃ p:Array Nat,p=cI (fun i j=>dh ((kds.map bI).getD i (0,[])) ((kds.map bI).getD j (0,[]))) (kas_sort vs.length)∧p.size=vs.length∧arrOf st'=p.map (kas_item (ks.toArray.zip vs.toArray))∧failedOf st'=none∧s2=s0)
    hl h2 h64 (fun p' st' s2 a1 a2 a3 a4=>⟨p',a4.1,a1,a2,a3,a4.2⟩) (iP (fun s2=>s2=s0) (fun i j C s2 hi hj e hc=>by subst e;exact hask i j C (by omega) (by omega) (hc _ rfl)) (fm (n:=vs.length) (by omega)) (fun s2 e=>⟨rfl,e⟩) rfl)) ?_ fun _ _ e=>e)
   rintro ⟨⟨⟩,st'⟩ s2 ⟨p,hpn,hp,har,hf,rfl⟩
   dsimp only
   refine fin (p.toList.map fun i=>vs.getD i Value.none) st' (by rw[xZ,Array.length_toList,hp]) ?_ (kat_snds hl har) hf
   unfold aU pick
   rw [if_neg (by rw[xZ];omega),hpn,xZ,hkn]
  ·have hn2:vs.toArray.size<2:=by rw[yh];omega
   rw [if_pos hn2,if_pos hn2]
   refine wpAny_bind (wpAny_pure ?_)
   refine wpAny_bind (wpAny_pure ?_)
   dsimp only
   refine fin vs _ rfl ?_ ?_ rfl
   ·unfold aU pick
    rw [if_pos (by rw[xZ];omega),xZ,hkn]
    apply List.ext_getElem
    ·simp
    ·intro i h1 h2
     simp at h2
     simp [h2]
   show (ks.toArray.zip vs.toArray).map (·.2)=_
   apply Array.toList_inj.mp
   simp
   exact List.map_snd_zip (by omega)
end
section
variable {X:Cx}{pins:List (Addr×Obj)}{σ:St}{H0:Hp}{f:Addr}{vs:List Value}{A:Around}{E:Value→Shared→Prop}{s:Shared}
theorem f9 {kds:List PyData}{l:Addr}{Q:Value→Shared→Prop} (I:Inv X pins σ H0 s) (hl:s.heap.IsList l vs.toArray) (h64:vs.length<64) (hu:A.in1.in1.units+64<cLine)
  (hkn:kds.length=vs.length) (hkk:vi kds) (call:∀ i (h:i<vs.length),∀ H s',Inv X pins σ H s'→aH H0 H→wpAny (model X.prog X.w) A.in1.in1 (call (.ref f) [vs[i]]) (eM X pins σ H s' (kds.getD i .none)) (fun _ _=>False) s')
  (h : ∀ H s' D c,Inv X pins σ H s'→aH H0 H→eN X pins H D→s'.heap.get? D=some (seqObj "list" (pick (aU (kds.map bI)) vs Value.none).toArray c)→Q (.ref D) s') :
  wpAny (model X.prog X.w) A (PySem.call (.builtin "sorted") [.ref l] [(Str.ofString "key",.ref f)]) Q E s:=by
 refine call_function_entry_kw kind_sorted plain_sorted entry_sorted (ksk_s1 _ _) ?_
 unfold Builtin.«sorted»
 refine wpAny_bind (m:=checkCount "sorted" 1 1 _) (wpAny_pure ?_)
 refine wpAny_bind (collect_list hl ?_ (by rw[sizeLine_eq];omega))
 refine wpAny_bind (wpAny_newList ?_ (by rw[sizeLine_eq];omega))
 have hsz:((s.heap.push (seqObj "list" #[] 0)).update s.heap.objs.size (Obj.mapSeq (·++vs.toArray))).objs.size=s.heap.objs.size+1:=by
  rw [Heap.size_update,size_push']
 have hoL:(((s.heap.push (seqObj "list" #[] 0)).update s.heap.objs.size (Obj.mapSeq (·++vs.toArray))).push (seqObj "list" vs.toArray 0)).get? (s.heap.objs.size+1)=some (seqObj "list" vs.toArray 0):=by
  rw [←hsz];exact yp _ rfl
 have keep:∀ b o,s.heap.get? b=some o→(((s.heap.push (seqObj "list" #[] 0)).update s.heap.objs.size (Obj.mapSeq (·++vs.toArray))).push (seqObj "list" vs.toArray 0)).get? b=some o:=fun b o q=>by
  have hlt:b<s.heap.objs.size:=ym q
  rw [Heap.get?_push_ne _ _ _ (by rw[hsz];exact yq (yZ hlt)),Heap.get?_update_ne _ _ _ _ (yq hlt),Heap.get?_push_ne _ _ _ (yq hlt)]
  exact q
 show wpAny _ _ _ _ _ { s with heap:=((s.heap.push (seqObj "list" #[] 0)).update s.heap.objs.size (Obj.mapSeq (·++vs.toArray))).push (seqObj "list" vs.toArray 0) }
 rw [hsz]
 refine wpAny_bind (wpAny_holding (wpAny_call_entry_kw slot_list_sort ⟨_,hoL,rfl⟩ entry_list_sort ?body (ksk_l1 _ _)))
 case body =>
  show wpAny (model X.prog X.w) A.in1.in1 (Builtin.«list.sort» ⟨[.ref (s.heap.objs.size+1)],[(Str.ofString "key",.ref f)]⟩) _ _ _
  rw [ksk_t1]
  refine j9 (kds:=kds) (I.kept (t':=s.toks) keep) (I.fpOk (y8 _) (I.hok.fresh (y8 _))) hoL h64 hu hkn hkk call fun H s' c I' sm fp g=>⟨_,rfl,wpAny_pure ⟨_,rfl,?_⟩⟩
  exact h H s' _ c I' sm fp g
end
theorem qF {K:PySem.W.Frag}{H:Hp}{vs:List V}{ds:List PyData} (q:DNs K N0 H vs ds):Rel K N0 N0 H (vs.map some) (vs.map some) (ds.map Sl.fr) [] H:=by
 have mm:∀ x s,(x,s)∈al (vs.map some) (ds.map Sl.fr) []→∃ v d,x=some v∧s=.fr d∧(v,d)∈vs.zip ds:=fun x s m=>by
  have m:(x,s)∈(vs.map some).zip (ds.map Sl.fr)++[]:=m
  rw [yu,List.zip_map] at m
  obtain ⟨⟨v,d⟩,hm,e⟩:=yr.mp m
  cases e
  exact ⟨v,d,rfl,rfl,hm⟩
 have oe:oas (al (vs.map some) (ds.map Sl.fr) [])=[]:=List.flatMap_eq_nil_iff.mpr fun ⟨x,s⟩ m=>by
  obtain ⟨v,d,rfl,rfl,_⟩:=mm x s m
  exact bS _ _
 have ne:∀ b,Nw N0 (al (vs.map some) (ds.map Sl.fr) []) b→N0 b:=fun b z=>by
  rcases z with z|z
  ·exact z
  ·rw [oe] at z;cases z
 refine ⟨⟨aI.refl,fun a h=>h,fun a z=>z.elim,fun a z=>z,fun x e m=>?_,fun x e m=>?_,fun x e m=>?_,fun x S e m=>?_,by rw[oe];exact y7⟩,by rw[xZ,xZ,q.len],fun w i m=>(by cases m),fun i ds' e=>rfl⟩
 ·obtain ⟨v,d,rfl,e1,hm⟩:=mm _ _ m
  cases e1
  exact ⟨v,rfl,(iS q _ hm).to fun b _ _ z=>ne b z⟩
 ·obtain ⟨v,d,_,e1,_⟩:=mm _ _ m;cases e1
 ·obtain ⟨v,d,_,e1,_⟩:=mm _ _ m;cases e1
 ·obtain ⟨v,d,_,e1,_⟩:=mm _ _ m;cases e1
noncomputable def og (tb:DE) (es:List PyData) (kd:PyData):Prop:=tb (es.map .fr) fun s env=>aE env s=some kd
section
variable {X:Cx}{pins:List (Addr×Obj)}{σ:St}{H:Hp}{s:Shared}{params:Arguments}{scope:Scope}{body:Expr}{f c c':Addr}{qual p x:Str}{pm ctv:Value}{k:Nat}{A:Around}{tb:DE}{kd:PyData}
theorem rO {fl:Except Value Flow}{s':Shared} (I:Inv X pins σ H s) (hq:CR CX0 X.stack X.prog X.w H s (fun v H'=>aH H H'∧DN X.K N0 H' v kd) E0 fl s'):∃ r,fl=.ok (.ret r)∧eM X pins σ H s kd r s':=by
 cases fl with
 | error e=>exact hq.elim
 | ok fl =>
  cases fl with
  | ret z =>
   obtain ⟨v1,H',os,bare,un,hok,rv,sm,dn⟩:=hq
   refine ⟨_,rfl,H',v1,I.call' (ch:=[]) os un hok bare (fun b z=>nomatch z),sm,rv,dn,fun b o hfp e=>⟨un.keep b o e hfp.1 (fun z=>?_) (by simp),un.free b o e hfp.1 (by simp)⟩⟩
   rcases ye.mp (I.stkSub b z) with z|z
   ·exact hfp.2.1 z
   ·exact hfp.2.2.1 z
  | next=>exact False.elim hq
  | brk=>exact False.elim hq
  | cont=>exact False.elim hq
theorem uw {vs:List V}{ds:List PyData} (q:DNs X.K N0 H vs ds) (hk:og tb ds kd):up X.K tb (vs.map some) H fun v H'=>aH H H'∧DN X.K N0 H' v kd:=by
 refine ⟨N0,N0,H,_,_,[],_,qF q,hk,fun s1 env' v' H' hR rel'=>⟨(rel'.e.keep).none,?_⟩⟩
 have:=rel'.kept (ts:=[]) (v:=v') (s:=s1) (by simp) hR
 exact this.to fun b _ _ z=>z.elim
theorem nV {d:PyData}{v:V}{u:Value} (I:Inv X pins σ H s) (hA:o8 X.prog X.w X.K X.mg X.base A X.stack s H) (hr:ci (k+1) A) (S:ay [p] [p] scope)
  (hb:bindArgs (kla_fn "<lambda>" qual params body scope [] pm (.ref c') ctv) ⟨[u],[]⟩=pure [(p,u)])
  (hbody:PE (jT CX0 X.prog X.w X.K X.mg X.base [p] qual scope f (.ref c') A X.stack s H E0) body (up X.K tb))
  (ho:s.heap.get? f=some (kla_obj "<lambda>" qual params body scope [] pm c' ctv)) (hcd:s.heap.CodeRec (.ref c') qual) (r:aY v u) (hd:DN X.K N0 H v d) (hk:og tb [d] kd) :
  wpAny (model X.prog X.w) A (call (.ref f) [u]) (eM X pins σ H s kd) (fun _ _=>False) s :=
 wpAny_call (codeAny_mono (rJ (CX:=CX0) (E:=E0) (ps:=[p]) (us:=[u]) (vs:=[v]) S hr hA ho hcd hb (.cons r .nil) rfl hbody (uw (.cons hd .nil) hk)) fun res s' hq=>by
  obtain ⟨z,rfl,h⟩:=rO I hq
  exact h)
end
section
variable {X:Cx}{K:PySem.W.Frag}{e:Expr}{t:TA}{q0 pos kpos lpos:Pos}{params:Arguments}{scope:Scope}{body:Expr}{p x:Str}{i:Nat}{tb:DE}{KR:St→Hp→PyData→PyData→Prop}
noncomputable def tq (K:PySem.W.Frag) (KR:St→Hp→PyData→PyData→Prop) (t:TA):TE:=fun σ H Q=>t σ H fun xs H1=>∃ (q:Addr) (vs:List V) (N:Addr→Prop) (ds kds:List PyData),xs=[.ref q]∧SqL K H1 q vs∧DNs K N H1 vs ds∧kds.length=ds.length∧vi kds∧(∀ i,i<ds.length→KR σ H1 (ds.getD i .none) (kds.getD i .none))∧vs.length<64 ∧
 ∀ H2,aH H1 H2→∀ q,H2 q=none→Q (.ref q) (upd H2 q (.lst (pick (aU (kds.map bI)) vs .non)))
theorem rc (hK:X.K=K) (L:o7 X) (hr:ci 4 X.A) (hg:Gl X "sorted") (hm:X.mg "sorted" = none) (ha:PA X [e] t) (hdef:defaultsOf params X.env=([],[]))
  (hcl:∀ {pins:List (Addr×Obj)}{s:Shared}{σ:St}{H:Hp},Inv X pins σ H s→∃ clos,closureFor scope X.env=pure clos)
  (hkr:∀ {σ:St}{H H':Hp}{d kd:PyData},KR σ H d kd→aH H H'→KR σ H' d kd)
  (hcall:∀ {pins:List (Addr×Obj)}{s:Shared}{σ:St}{H:Hp}{clos:List (Str×Addr)}{f c':Addr}{pm ctv u:Value}{v:V}{d kd:PyData},Inv X pins σ H s→closureFor scope X.env=pure clos→s.heap.get? f=some (kla_obj "<lambda>" (X.env.qual ++ "<lambda>") params body scope clos pm c' ctv)→s.heap.CodeRec (.ref c') (X.env.qual ++ "<lambda>") →
   aY v u→DN X.K N0 H v d→KR σ H d kd→wpAny (model X.prog X.w) X.A.in1.in1 (call (.ref f) [u]) (eM X pins σ H s kd) (fun _ _=>False) s)
  (he2:backTo pos (starEach [e] X.env)=(false,eval e X.env)::backTo pos (starEach [] X.env)) :
  PE X (.Call (.Name "sorted" q0) [e] [⟨some "key",.Lambda params body scope lpos,kpos⟩] pos) (tq K KR t):=by
 subst hK
 intro pins s σ H Q I h
 obtain ⟨clos,hc⟩:=hcl I
 refine wpAny_Call_Name_kw (fg I hg hm boot_sorted ?_ (by decide) (by decide))
 refine callWith_kw (thn (ha pos pins s σ H _ I h) fun us s1 ⟨xs,H1,I1,r,q⟩=>?_) he2 (by rw[he2];rfl) rfl rfl
 show wpAny _ _ (evalAll [(do let v ←eval (.Lambda params body scope lpos) X.env;standAt pos;pure v)]) _ _ s1
 refine wpAny_evalAll_cons (wpAny_bind (lQ I1 L hc hdef fun f c' pm ctv s2 H2 I2 sm hfo fpf cz=>wpAny_bind (wpAny_standAt (wpAny_pure (wpAny_evalAll_nil ?_)))))
 obtain ⟨p0,vs,N,ds,kds,rfl,sq,dn,hkl,hkk,hkey,h64,q⟩:=q
 obtain ⟨u,rfl,ru⟩:=kI r
 cases (show u=Value.ref p0 from ru)
 obtain ⟨its,rv,hp,_⟩:=I2.list (sm.seq sq)
 have hlen:=rv.length
 obtain ⟨fo,hfo'⟩:∃ fo,fo=kla_obj "<lambda>" (X.env.qual ++ "<lambda>") params body scope clos pm c' ctv:=⟨_,rfl⟩
 rw [←hfo'] at hfo
 have I3:Inv X ((f,fo)::pins) σ H2 s2:=I2.pins_of fun z hz=>by
  rcases ye.mp hz with rfl|hz
  ·exact ⟨hfo,fpf.1,fpf.2.1,fpf.2.2.1,fun v=>by rw[hfo'];exact fun z=>by cases z⟩
  ·exact I2.pin z (xY _ hz)
 have dn2:DNs X.K N0 H2 vs ds:=(dn.keep (aI.same sm)).to fun b _ _ z=>z.elim
 show wpAny _ _ (PySem.call (.builtin "sorted") [.ref p0] [(Str.ofString "key",.ref f)]) _ _ _
 have hdl:ds.length=vs.length:=dn.len.symm
 refine f9 (kds:=kds) I3 hp.isList (by omega) ?_ (by omega) hkk (fun i hi H' s' I' sm'=>?_) fun H' s' D c I' sm' fpD gD=>?_
 ·have:=hr.un
  show X.A.units+1+1+64<cLine
  omega
 ·obtain ⟨v,rx,dx,md⟩:=oH dn2 rv i hi
  have gf:=(I'.pin (f,fo) (xY _ ya)).1
  rw [hfo'] at gf
  obtain ⟨oc,u,ws,t,e1,e2,e3⟩:=cz
  obtain ⟨goc,_⟩:=I'.hok c' _ (sm' _ _ e1)
  exact hcall I' hc gf ⟨_,_,_,_,rfl,goc,e2,e3⟩ rx (dx.keep (aI.same sm')) (hkr (hkey i (by omega)) (sm.trans sm'))
 ·have I4:Inv X pins σ H' s':=I'.pins_of fun z hz=>I'.pin z (xY _ (x9 _ hz))
  have fpD':eN X pins H' D:=⟨fpD.1,fpD.2.1,fpD.2.2.1,fpD.2.2.2.1,fpD.2.2.2.2.1,fun z hz=>fpD.2.2.2.2.2 z (by
   rcases x8.mp hz with hz|hz
   ·exact x3 _ hz
   ·exact xY _ (x9 _ hz))⟩
  have hlt:∀ i∈aU (kds.map bI),i<vs.length:=fun i hi=>by have:=ck i hi;rw[xZ] at this;omega
  refine ⟨.ref D,upd H' D (.lst (pick (aU (kds.map bI)) vs .non)),I4.track fpD' ⟨?_,_,c,dQ rv hlt,gD⟩,rfl,q _ (sm.trans sm') _ fpD.1⟩
  unfold pick
  rw [xZ,(bO _).length_eq,yC,xZ,sizeLine_eq]
  omega
theorem rd (hK:X.K=K) (L:o7 X) (hr:ci 4 X.A) (hg:Gl X "sorted") (hm:X.mg "sorted" = none) (ha:PA X [e] t) (S:ay [p] [p] scope)
  (hb:∀ (qual:Str) (pm c ctv u:Value),bindArgs (kla_fn "<lambda>" qual params body scope [] pm c ctv) ⟨[u],[]⟩=pure [(p,u)])
  (hcl:closureFor scope X.env=pure []) (hdef:defaultsOf params X.env=([],[]))
  (hbody:∀ (A:Around) (s:Shared) (H:Hp) (f:Addr) (cd:Value),PE (jT CX0 X.prog X.w X.K X.mg X.base [p] (X.env.qual ++ "<lambda>") scope f cd A X.stack s H E0) body (up X.K tb))
  (he2:backTo pos (starEach [e] X.env)=(false,eval e X.env)::backTo pos (starEach [] X.env)) :
  PE X (.Call (.Name "sorted" q0) [e] [⟨some "key",.Lambda params body scope lpos,kpos⟩] pos) (tq K (fun _ _ d kd=>og tb [d] kd) t) :=
 rc hK L hr hg hm ha hdef (fun _=>⟨[],hcl⟩) (fun h _=>h) (fun I hc ho hcd r hd hk=>by
  rw [hcl] at hc
  cases hc
  exact nV (k:=1) I I.env0.in1.in1 hr.in1.in1 S (hb _ _ _ _ _) (hbody _ _ _ _ _) ho hcd r hd hk) he2
noncomputable def iO:PyData→PyData
 | .list es=>.tuple [.int es.length,.list es]
 | d=>d
noncomputable def pF (tb:DE) (d kd:PyData):Prop:=tb [.fr d] fun s env=>aE env s=some kd
variable {tl:DA}
theorem rX {ds:List PyData}{kf:PyData→PyData}{P:PyData→PyData→Prop} (h:∀ d∈ds,P d (kf d)) {i:Nat} (hi:i<ds.length):P (ds.getD i .none) ((ds.map kf).getD i .none):=by
 have e1:ds.getD i .none=ds[i]:=by simp[yd,hi]
 have e2:(ds.map kf).getD i .none=kf ds[i]:=by simp[yd,hi]
 rw [e1,e2]
 exact h _ (yO hi)
end
end L2
namespace L2
open PySem PySem.Spec PyProof.Rows
noncomputable def Ev (t:DE) (env:List Sl) (s:Sl):Prop:=∀ R:Sl→List Sl→Prop,R s env→t env R
noncomputable def EvA (t:DA) (env:List Sl) (ss:List Sl):Prop:=∀ R:List Sl→List Sl→Prop,R ss env→t env R
noncomputable def EvT (t:DT) (env:List Sl) (k:Bool):Prop:=∀ R:Bool→List Sl→Prop,R k env→t env R
noncomputable def EvO (t:DO) (env:List Sl) (k:Option Int):Prop:=∀ R:Option Int→List Sl→Prop,R k env→t env R
noncomputable def EvI (t:DI) (env:List Sl) (ds:List PyData):Prop:=∀ R:List PyData→List Sl→Prop,R ds env→t env R
noncomputable def E2 (g:G2) (d e x:PyData):Prop:=∀ R:PyData→Prop,R x→g d e R
noncomputable def E1 (g:G1) (d x:PyData):Prop:=∀ R:PyData→Prop,R x→g d R
noncomputable def EB (g:GB) (ds:List PyData) (x:PyData):Prop:=∀ R:PyData→Prop,R x→g ds R
noncomputable def EL (g:PyData→PyData→(List PyData→Prop)→Prop) (d e:PyData) (x:List PyData):Prop:=∀ R:List PyData→Prop,R x→g d e R
section
variable {env:List Sl}{s s1 s2 s':Sl}{d d1 d2 x e:PyData}{ds es xs ys:List PyData}{i j:Nat}{m n:Int}{ta tb te:DE}{tl:DA}{ss:List Sl}{g:G2}{k:Bool}{DD:i5}
theorem uL (h:(env[i]?).bind slD=some d):Ev (vD i) env (.vw i):=fun _ r=>⟨d,h,r⟩
theorem xO:Ev (dC d) env (.fr d):=fun _ r=>r
theorem uS (h:env[i]? = some (.fr d)):Ev (sO i) env (.fr d):=fun R r=>by unfold sO;rw[h];exact r
theorem wz (h1:Ev ta env s1) (h2:Ev tb env s2) (e1:aF env s1=some d1) (e2:aF env s2=some d2) (h:E2 g d1 d2 x):Ev (dOp g ta tb) env (.fr x):=fun _ r=>h1 _ (h2 _ ⟨d1,d2,e1,e2,h _ r⟩)
theorem uO {g:PyData→PyData→(List PyData→Prop)→Prop} (h1:Ev ta env s1) (h2:Ev tb env s2) (e1:aF env s1=some d1) (e2:aF env s2=some d2) (h:EL g d1 d2 xs):Ev (vc g ta tb) env (.ow xs):=fun _ r=>h1 _ (h2 _ ⟨d1,d2,e1,e2,h _ r⟩)
theorem wy {g:G1} (h1:Ev ta env s1) (e1:aF env s1=some d1) (h:E1 g d1 x):Ev (dUn g ta) env (.fr x):=fun _ r=>h1 _ ⟨d1,e1,h _ r⟩
theorem wC {g:GB} (h1:EvA tl env ss) (e1:cR env ss=some ds) (h:EB g ds x):Ev (dCB g tl) env (.fr x):=fun _ r=>h1 _ ⟨ds,e1,h _ r⟩
theorem uM (h1:EvA tl env ss) (e1:aN env ss=some ds) (z:ss.length≤sizeLine):Ev (vE tl) env (.fr (.tuple ds)):=fun _ r=>h1 _ ⟨ds,e1,z,r⟩
theorem uR (h1:EvA tl env ss) (e1:aN env ss=some ds) (z:ss.length≤sizeLine):Ev (vJ tl) env (.ow ds):=fun _ r=>h1 _ ⟨ds,e1,z,r⟩
theorem se (h1:Ev ta env s1) (h2:Ev tb env s2) (e1:aF env s1=some (.tuple xs)) (e2:aF env s2=some (.tuple ys)) (z:xs.length+ys.length≤sizeLine):Ev (oQ ta tb) env (.fr (.tuple (xs++ys))):=fun _ r=>h1 _ (h2 _ ⟨xs,ys,e1,e2,z,r⟩)
theorem uN {l h:Option Int}{t1 t2:DO} (h1:Ev te env s) (h2:EvO t1 env l) (h3:EvO t2 env h) (e1:aF env s=some (.list ds)):Ev (vF te t1 t2) env (.ow (oS ds l h)):=fun _ r=>h1 _ (h2 _ (h3 _ ⟨ds,e1,r⟩))
theorem wA:EvO fL env none:=fun _ r=>r
theorem r9 (h1:Ev te env s) (e1:aF env s=some (.int n)):EvO (oM te) env (some n):=fun _ r=>h1 _ ⟨n,e1,r⟩
theorem uQ:EvA vI env []:=fun _ r=>r
theorem sd (h1:Ev te env s) (h2:EvA tl env ss):EvA (oP te tl) env (s::ss):=fun _ r=>h1 _ (h2 _ r)
theorem rZ (h1:Ev te env s) (e1:aF env s=some (.bool k)):EvT (kr te) env k:=fun _ r=>h1 _ ⟨k,e1,r⟩
theorem uP {t:DT} (h1:EvT t env k):EvT (vH t) env (!k):=fun _ r=>h1 _ r
theorem oE (h1:Ev te env s) (e1:aF env s=some d) (e2:qx d=some k):EvT (u8 te) env k:=fun _ r=>h1 _ ⟨d,k,e1,e2,r⟩
theorem wB {n:String} (h1:Ev te env s) (e1:aF env s=some d) (e2:rA d=true):Ev (dIs n te) env (.fr (.bool (isK n d))):=fun _ r=>h1 _ ⟨d,e1,e2,r⟩
theorem xP {f:Int→Int→Int}:E2 (gI f) (.int m) (.int n) (.int (f m n)):=fun _ r=>⟨m,n,rfl,rfl,r⟩
theorem wH {C:Int→Int→Prop}{f:Int→Int→Int} (c:C m n):E2 (gIC C f) (.int m) (.int n) (.int (f m n)):=fun _ r=>⟨m,n,rfl,rfl,c,r⟩
theorem xQ {f:Int→Int→Bool}:E2 (gB f) (.int m) (.int n) (.bool (f m n)):=fun _ r=>⟨m,n,rfl,rfl,r⟩
theorem wG (h1:shp d) (h2:shp e):E2 gEq d e (.bool (PyData.eqv d e)):=fun _ r=>⟨h1,h2,r⟩
theorem wD (h1:shp d) (h2:shp e):E2 gNe d e (.bool (!PyData.eqv d e)):=fun _ r=>⟨h1,h2,r⟩
theorem u4:E2 xN d .none (.bool (ou d)):=fun _ r=>⟨rfl,r⟩
theorem so:E2 ww d .none (.bool (!ou d)):=fun _ r=>⟨rfl,r⟩
theorem wE (h1:cT d=some ds) (h2:atI ds n=some x):E2 gIx d (.int n) x:=fun _ r=>⟨ds,n,x,h1,rfl,h2,r⟩
theorem wF {ns:List Int} (h1:cT e=some ds) (h2:bq ds=some ns):E2 gIn (.int n) e (.bool (decide (n∈ns))):=fun _ r=>⟨n,ds,ns,rfl,h1,h2,r⟩
theorem oF {ns:List Int} (h1:cT e=some ds) (h2:bq ds=some ns):E2 jF (.int n) e (.bool (!decide (n∈ns))):=fun _ r=>⟨n,ds,ns,rfl,h1,h2,r⟩
theorem u5:E1 vz (.int n) (.int (-n)):=fun _ r=>⟨n,rfl,r⟩
theorem u3 (h:cT d=some es):EB vB [d] (.int es.length):=fun _ r=>⟨d,es,rfl,h,r⟩
theorem uY:EB vA [.int m,.int n] (.int (if n<m then n else m)):=fun _ r=>⟨m,n,rfl,r⟩
theorem uZ:EB xM [.int m,.int n] (.int (if n>m then n else m)):=fun _ r=>⟨m,n,rfl,r⟩
theorem uX {ns:List Int} (h:bq es=some ns):EB xJ [.list es] (.int ns.sum):=fun _ r=>⟨es,ns,rfl,h,r⟩
theorem uW (z:xs.length+ys.length≤sizeLine):EL vC (.list xs) (.list ys) (xs++ys):=fun _ r=>⟨xs,ys,rfl,rfl,z,r⟩
theorem si (h1:Ev te env s) (e1:aE env s=some (.list ds)):EvI (jO te) env ds:=fun _ r=>h1 _ ⟨ds,e1,r⟩
theorem uV (h1:Ev te env s) (e1:aE env s=some (.tuple ds)):EvI (oN te) env ds:=fun _ r=>h1 _ ⟨ds,e1,r⟩
theorem sg (h1:EvA tl env [s]) (e1:aF env s=some (.int n)) (z1:-4611686018427387904≤n) (z2:n<4611686018427387904):EvI (oK tl) env (dm 0 n.toNat):=fun _ r=>h1 _ ⟨s,n,rfl,e1,z1,z2,r⟩
theorem sk {b:Bool} (h1:EvA tl env [s]) (e1:aE env s=some (sqD b ds)):EvI (oO b tl) env (gT ds):=fun _ r=>h1 _ ⟨s,ds,rfl,e1,r⟩
theorem uU {b c:Bool} (h1:EvA tl env [s,s']) (e1:aE env s=some (sqD b ds)) (e2:aE env s'=some (sqD c es)):EvI (xR b c tl) env (wU ds es):=fun _ r=>h1 _ ⟨s,s',ds,es,rfl,e1,e2,r⟩
theorem rF {n:Nat} (h:decide (n≤100)=true):n≤sizeLine:=yg (of_decide_eq_true h) (yg (by decide) ah)
theorem ws_seq {t u:DS} (h:t { DD with nx:=u DD } env):u9 t u DD env:=h
theorem sS (h1:Ev te env s) (z:i<env.length) (e1:dS env s=some s') (h:DD.nx (env.set i s')):oJ i te DD env:=h1 _ ⟨s',z,e1,h⟩
theorem qt (h1:Ev te env s) (h:DD.nx env):kt te DD env:=h1 _ h
theorem sT (h1:Ev te env s) (h:DD.rt s env):vb te DD env:=h1 _ h
theorem sU {c:DT}{t u:DS} (h1:EvT c env k) (h:if k=true then t DD env else u DD env):vK c t u DD env:=h1 _ h
theorem sV {it:DI}{g:DG}{tb:DS} (h1:EvI it env ds) (h:FD ds g tb DD env):vL it g tb DD env:=h1 _ h
theorem sW {s0:Sl} (h1:Ev te env s) (e1:aE env s=some d) (e2:env[i]? = some s0) (e3:dH s0=some ds) (z:ds.length<sizeLine) (e4:bG s0 (ds++[d])=some s') (h:DD.nx (env.set i s')):kt (vM i te) DD env:=⟨⟨ds,by rw[e2];exact e3⟩,h1 _ ⟨d,s0,ds,s',e1,e2,e3,z,e4,h⟩⟩
theorem qw {sp:DSp}{q:Nat}{s0:Sl}{l ds1 ds2:List PyData}{R:Sl→List Sl→Prop} (h1:EvA tl env ss) (a1:ss[q]? = some (.vw i)) (a2:env[i]? = some s0) (a3:dH s0=some l) (a4:aN env (ss.take q)=some ds1) (a5:aN env (ss.drop (q+1))=some ds2)
  (h : sp (ds1.map .fr++.io l::ds2.map .fr) (dK (fun r as=>∃ l' s',as[q]? = some (.io l')∧bG s0 l'=some s'∧R r (env.set i s')) ⟨⟩)):gX sp q tl env R:=h1 _ ⟨i,s0,l,ds1,ds2,a1,a2,a3,a4,a5,h⟩
theorem sZ {sp:DSp}{R:Sl→List Sl→Prop} (h1:EvA tl env ss) (e1:aN env ss=some ds) (h:sp (ds.map .fr) (dK (fun r _=>R r env) ⟨⟩)):mx sp tl env R:=h1 _ ⟨ds,e1,h⟩
theorem sY {it:DI}{ix:List (Option Nat)}{g:DG}{tt:DT}{R:Sl→List Sl→Prop} (h1:EvI it env ds) (h:CD ds ix g tt te env (dK R ⟨⟩)):ku it ix g tt te env R:=h1 _ h
theorem w_pop {s0:Sl}{R:Sl→List Sl→Prop} (a1:env[i]? = some s0) (a2:dH s0=some ds) (a3:ds.getLast? = some d) (a4:bG s0 ds.dropLast=some s') (h:R (.fr d) (env.set i s')):vG i env R:=⟨s0,ds,d,s',a1,a2,a3,a4,h⟩
theorem wg_name {R:List Sl→Prop} (z:i<env.length) (h:R (env.set i (.fr d))):jM i d env R:=⟨z,h⟩
theorem wk_K {R:Sl→List Sl→Prop}{w:Wn R} (h:R s env):dK R w s env:=h
theorem wx_set (h:te env fun s env1=>∃ s',i<env1.length∧dS env1 s=some s'∧DD.nx (env1.set i s')):oJ i te DD env:=h
theorem wx_ret (h:te env DD.rt):vb te DD env:=h
theorem wx_drop (h:te env fun _ env1=>DD.nx env1):kt te DD env:=h
end
end L2
namespace L2
open PySem PySem.Spec PyProof.Rows PySem.W
section
variable {X:Cx}{K:PySem.W.Frag}
end
section
variable {X:Cx}{tg:Expr}
end
section
variable {X:Cx}{K:PySem.W.Frag}{tg e:Expr}{p pos:Pos}{tl:DA}
end
end L2
namespace L2
open PySem PySem.Spec PyProof.Rows PySem.W PySem.Calls
section
variable {prog:Program}{w:World}{A:Around}{R:Result→Shared→Prop}{I:Addr}{fp wr:List Addr}{P:Nat→Value→Prop}{St:Nat→Heap→Prop}
theorem fZ {ns:List Int}{j:Nat} (h:j<ns.length):ns.take (j+1)=ns.take j++[ns.getD j 0]:=by
 rw [zj,x5 h,yd,x5 h]
 rfl
end
section
variable {X:Cx}{K:PySem.W.Frag}{e:Expr}{tl:DA}{p pos kpos p3:Pos}
end
end L2
namespace L2
open PySem PySem.Spec PyProof.Rows PySem.W
section
variable {K:PySem.W.Frag}{M P N:Addr→Prop}{H0 H H':Hp}{σ0 σ:St}{env:List Sl}{ts tt:List (V×Sl)}{v:V}{s:Sl}{d:PyData}
end
section
variable {X:Cx}{x:Str}{p pos:Pos}{e:Expr}{es:List Expr}{k:Nat}{sp:DSp}{K:PySem.W.Frag}{tl:DA}
end
section
variable {X:Cx}{K:PySem.W.Frag}
end
section
variable {X:Cx}{K:PySem.W.Frag}
end
noncomputable def FnI (K:PySem.W.Frag) (x:Str) (st:Stmt):Prop:=∃ f fd,PySem.W.nsIn K mainGlobals x=some (some (.ref f))∧Fun K x x st f fd
noncomputable def FnL (K:PySem.W.Frag) (x:Str) (st:Stmt):Prop:=∃ f fd,PySem.W.nsIn K mainGlobals x=some (some (.ref f))∧Fun K x x st f fd∧∀ base:Heap,K.In base→o6 K base x fd
structure BnI (K:PySem.W.Frag):Prop where
 len:PySem.W.nsIn K mainGlobals "len" = some none
 range:PySem.W.nsIn K mainGlobals "range" = some none
 min:PySem.W.nsIn K mainGlobals "min" = some none
 max:PySem.W.nsIn K mainGlobals "max" = some none
 enumerate:PySem.W.nsIn K mainGlobals "enumerate" = some none
 zip:PySem.W.nsIn K mainGlobals "zip" = some none
 all:PySem.W.nsIn K mainGlobals "all" = some none
 any:PySem.W.nsIn K mainGlobals "any" = some none
 isinstance:PySem.W.nsIn K mainGlobals "isinstance" = some none
 bool:PySem.W.nsIn K mainGlobals "bool" = some none
 int:PySem.W.nsIn K mainGlobals "int" = some none
 list:PySem.W.nsIn K mainGlobals "list" = some none
 tuple:PySem.W.nsIn K mainGlobals "tuple" = some none
 sorted:PySem.W.nsIn K mainGlobals "sorted" = some none
 str:PySem.W.nsIn K mainGlobals "str" = some none
 sum:PySem.W.nsIn K mainGlobals "sum" = some none
 abs:PySem.W.nsIn K mainGlobals "abs" = some none
section
variable {P:Program}{w:World}{K:PySem.W.Frag}{mg:Str→Option Value}{base h:Heap}{x:Str}{st:Stmt}{f:Addr}{oc:Value}{od an:Option Addr}{osl:Array (Option Value)}{kV doc pm cdv ct:Value}{k:Nat}{ps:List Str}{sp:DSp}
theorem BnI.bn (X:K.In h) (G:h.Ns mainGlobals mg) (z:BnI K):Bn mg :=
 have m:∀ {y:Str},PySem.W.nsIn K mainGlobals y=some none→mg y=none:=fun e=>PySem.W.mg_none_of X G e
 ⟨m z.len,m z.range,m z.min,m z.max,m z.enumerate,m z.zip,m z.all,m z.any,m z.isinstance,m z.bool,m z.int,m z.list,m z.tuple,m z.sorted,m z.str,m z.sum,m z.abs⟩
theorem fnI (a:PySem.W.nsIn K mainGlobals x=some (some (.ref f))) (l:K.lookup f=some ⟨oc,od,.func (PySem.W.fnOf x x (ce st) (bj st) (af st) .none kV doc pm an cdv ct),osl⟩) (c:PySem.W.codeIn K cdv x=true) (k:PySem.W.keepIn K (.ref f)=true):FnI K x st:=⟨f,_,a,pP l c k⟩
theorem fnL {cc T:Addr}{odc:Option Addr}{slc:Array (Option Value)}{vs:Array Value} (hx:x∈cy) (a:PySem.W.nsIn K mainGlobals x=some (some (.ref f))) (l:K.lookup f=some ⟨oc,od,.func (PySem.W.fnOf x x (ce st) (bj st) (af st) .none kV doc pm an cdv ct),osl⟩) (c:PySem.W.codeIn K cdv x=true) (k:PySem.W.keepIn K (.ref f)=true)
  (hc:cdv=.ref cc) (lc:K.lookup cc=some ⟨.type "code",odc,.fields vs,slc⟩) (hT:mR vs cc T):FnL K x st:=⟨f,_,a,pP l c k,fun base Xb=>uu hx a l hc lc hT Xb⟩
theorem kD (X:K.In h) (G:h.Ns mainGlobals mg) (g:FnI K x st) (b:∀ {f:Addr}{fd:FuncData},Fun K x x st f fd→bF K fd ps []) (ok:∀ {f:Addr}{fd:FuncData},Fun K x x st f fd→bW P w K mg base CX0 k f fd ps (spD K sp)):Cal P w K mg base x k (spD K sp):=by
 obtain ⟨f,fd,a,F⟩:=g
 exact xh F (PySem.W.mg_of X G a) (b F) (ok F)
theorem xT (X:K.In h) (G:h.Ns mainGlobals mg) (Xb:K.In base) (g:FnL K x st) (b:∀ {f:Addr}{fd:FuncData},Fun K x x st f fd→bF K fd ps []) (ok:∀ {f:Addr}{fd:FuncData},Fun K x x st f fd→o6 K base x fd→bW P w K mg base CX0 k f fd ps (spD K sp)):Cal P w K mg base x k (spD K sp):=by
 obtain ⟨f,fd,a,F,L⟩:=g
 exact xh F (PySem.W.mg_of X G a) (b F) (ok F (L base Xb))
theorem xG {l:PySem.W.OpenLaw}{fa:Addr} (X:K.In h) (G:h.Ns mainGlobals mg) (hfa:mg "law" = some (.ref fa)) (g:FnI K "law" st) (hb:∀ {fd:FuncData},Fun K "law" "law" st fa fd→∀ (s:Shared) (v:Value),BindsTo s fd ⟨[v],[]⟩ [("_law_script",v)])
  (ok:∀ {fd:FuncData}{base:Heap},Fun K "law" "law" st fa fd→K.In base→bW l.prog w K mg base CX0 k fa fd ["_law_script"] (spD K sp)):∃ fd:FuncData,(∀ (s:Shared) (v:Value),BindsTo s fd ⟨[v],[]⟩ [("_law_script",v)])∧∀ base:Heap,K.In base→base.Ns mainGlobals mg→bW l.prog w K mg base CX0 k fa fd ["_law_script"] (spD K sp):=by
 obtain ⟨f,fd,a,F⟩:=g
 have e:=hfa.symm.trans (PySem.W.mg_of X G a)
 cases e
 exact ⟨fd,hb F,fun base Xb _=>ok F Xb⟩
end
section
variable {X:Cx}{K:PySem.W.Frag}
noncomputable def wJ (i:Nat):DE:=fun env R=>∃ s0 ds s',env[i]? = some s0∧dH s0=some ds∧bG s0 []=some s'∧R (.fr .none) (env.set i s')
theorem qN (i:Nat) {y:Str}{apos cpos npos:Pos} (hK:X.K=K) (hN:X.N[i]? = some y)
  (hv:Vis X.env.scope y:=by first|exact Or.inl rfl|exact Or.inr (Or.inl rfl)|exact Or.inr (Or.inr rfl)) (hd:(y==("__debug__" : Str))=false:=by decide)
  (hcd:(y==("__classdict__" : Str))=false:=by decide)
  (hbase:attributeBase (.Name y npos) "clear" X.env (eval (.Name y npos) X.env)=eval (.Name y npos) X.env:=by rfl) (hline:(apos.endLine==cpos.line)=true:=by rfl) :
  PE X (.Call (.Attribute (.Name y npos) "clear" apos) [] [] cpos) (up K (wJ i)) :=
 (xc (K:=K) hK PySem.F.plainAttrs_list PySem.F.slot_list_clear PySem.F.type_list_clear nM (cE hN hv hd hcd) hbase hline).imp fun σ H Q h=>by
 obtain ⟨M,P,H0,σ0,env,ts,R,rel,⟨s0,ds,s',e0,o0,es,hR⟩,hq⟩:=h
 obtain ⟨a,vs,ea,hH,q⟩:=rel.mine e0 o0
 exact ⟨.ref a,ea,.inl ⟨rfl,vs,SqL.of hH⟩,a,vs,rfl,rfl,hH,hq _ _ _ _ hR ((rel.mut (ds:=ds) e0 es ea .nil).addFr .non)⟩
end
section
variable {prog:Program}{w:World}{A:Around}{E:Value→Shared→Prop}{s:Shared}{d:Addr}{o:Obj}{es:Array DictEntry}{ep:Nat}
end
theorem Paired.at {α β:Type}{F:α→β→Prop}:∀ {l₁:List α}{l₂:List β},Paired F l₁ l₂→∀ i (h1:i<l₁.length) (h2:i<l₂.length),F l₁[i] l₂[i]
 | _,_,.nil,i,h1,_=>absurd h1 (Nat.not_lt_zero _)
 | _,_,.cons r t,0,_,_=>r
 | _,_,.cons r t,i+1,h1,h2=>Paired.at t i (yH h1) (yH h2)
section
variable {X:Cx}{K:PySem.W.Frag}{tg e:Expr}
end
section
variable {X:Cx}{K:PySem.W.Frag}{tg e:Expr}{te:DE}{kvs:List (cg×PyData)}
end
section
variable {K:PySem.W.Frag}{M P N:Addr→Prop}{H0 H H':Hp}{E T A B:List Ent}{σ0 σ:St}{env:List Sl}{ts tt:List (V×Sl)}{v:V}{s:Sl}{d:PyData}
theorem aJ.foldS (h:aJ K M P H0 (E++T) H) {p:Addr}{vs:List V}{ds:List PyData}{S:List Addr} (hp:H p=none) (q:OTs K (Nw M (E++T)) H vs ds S) (hs:∀ a∈S,a∈oas T) (hq:∀ a∈oas T,H0 a=none) (ns:S.Nodup):aJ K M P H0 (E++[(some (.ref p),.tr (p::S) (.list ds))]) (upd H p (.lst vs)):=by
 have oe:oas (E++[(some (.ref p),Sl.tr (p::S) (.list ds))])=oas E++p::S:=by
  rw [ac,ad,ao]
  simp [oas]
 have np:p ∉ oas (E++T):=fun z=>by
  obtain ⟨vs',q,_⟩:=h.own z
  rw [hp] at q
  cases q
 have h0:H0 p=none:=by
  cases e:H0 p with
  | none=>rfl
  | some o=>exact absurd hp (h.live p (by rw[e];simp))
 have up:∀ b o,H b=some o→Nw M (E++[(some (.ref p),Sl.tr (p::S) (.list ds))]) b→Nw M (E++T) b:=fun b o e z=>by
  rcases z with z|z
  ·exact .inl z
  ·rw [oe] at z
   rcases x8.mp z with z|z
   ·exact .inr (by rw[ac];exact x3 _ z)
   ·rcases ye.mp z with z|z
    ·rw [z,hp] at e
     cases e
    ·exact .inr (by rw[ac];exact xY _ (hs b z))
 have old:∀ x s,(x,s)∈E++[(some (.ref p),Sl.tr (p::S) (.list ds))]→(x,s)∈E++T∨(x,s)=(some (.ref p),Sl.tr (p::S) (.list ds)):=fun x s m=>by
  rcases x8.mp m with m|m
  ·exact .inl (x3 _ m)
  ·exact .inr (x4.mp m)
 have h':=h.same (aH.new (o:=.lst vs) hp)
 refine ⟨h'.keep,h'.live,h.mt,h.pm,fun x d' m=>?_,fun x d' m=>?_,fun x d' m=>?_,fun x S d' m=>?_,?_⟩
 ·rcases old _ _ m with m|m
  ·obtain ⟨v,e,dn⟩:=h.fr x d' m
   exact ⟨v,e,(dn.to up).keep (aI.same (aH.new hp))⟩
  ·cases m
 ·rcases old _ _ m with m|m
  ·obtain ⟨a,ws,e,e2,dn,r⟩:=h.ow x d' m
   exact ⟨a,ws,e,aH.new hp _ _ e2,(dn.to up).keep (aI.same (aH.new hp)),r⟩
  ·cases m
 ·rcases old _ _ m with m|m
  ·obtain ⟨a,ws,e,e2,dn,r⟩:=h.io x d' m
   exact ⟨a,ws,e,aH.new hp _ _ e2,(dn.to up).keep (aI.same (aH.new hp)),r⟩
  ·cases m
 ·rcases old _ _ m with m|m
  ·obtain ⟨v,e,dn,r⟩:=h.tr x S d' m
   exact ⟨v,e,(dn.to up).keep (aI.same (aH.new hp)) fun a ha=>by
    obtain ⟨xs,z⟩:=dn.lives a ha
    rw [aH.new hp _ _ z,z],r⟩
  ·cases m
   exact ⟨_,rfl,.lst aC (lK (q.to up) hp),fun a ha=>(ye.mp ha).elim (fun z=>by rw[z];exact h0) fun z=>hq a (hs a z)⟩
 ·rw [oe]
  have nd:=h.nd
  rw [ac] at nd np
  obtain ⟨n1,n2,n3⟩:=yb.mp nd
  refine yb.mpr ⟨n1,yv.mpr ⟨fun z=>np (xY _ (hs p z)),ns⟩,fun a ha b hb z=>?_⟩
  rcases ye.mp hb with hb|hb
  ·rw [hb] at z
   exact np (x3 _ (z▸ha))
  ·exact n3 a ha b (hs b hb) z
theorem Rel.resLstS (h:Rel K M P H0 σ0 σ env (ts++tt) H) {p:Addr}{vs:List V}{ds:List PyData}{S:List Addr} (hp:H p=none) (q:OTs K (Nw M (al σ env (ts++tt))) H vs ds S) (hs:∀ a∈S,a∈oas (tmp tt)) (h0:∀ a∈oas (tmp tt),H0 a=none) (ns:S.Nodup) :
  Rel K M P H0 σ0 σ env (ts++[(.ref p,.tr (p::S) (.list ds))]) (upd H p (.lst vs)):=by
 have hE:=h.e
 rw [aj] at hE q
 exact h.drop.withRes (hE.foldS hp q hs h0 ns) rfl
theorem OT.listI {S:List Addr}{ds:List PyData} (h:OT K N H v (.list ds) S):∃ a vs S',v=.ref a∧S=a::S'∧H a=some (.lst vs)∧OTs K N H vs ds S':=by
 cases h with
 | lst ha q=>exact⟨_,_,_,rfl,rfl,ha,q⟩
theorem Rel.temL {S:List Addr}{ds:List PyData} (h:Rel K M P H0 σ0 σ env ts H) (m:(v,Sl.tr S (.list ds))∈ts):∃ a vs S',v=.ref a∧S=a::S'∧H a=some (.lst vs)∧OTs K (Nw M (al σ env ts)) H vs ds S'∧∀ b∈S,H0 b=none:=by
 obtain ⟨w,ew,ot,h0⟩:=h.e.tr _ _ _ (bC m)
 cases ew
 obtain ⟨a,vs,S',e1,e2,ha,q⟩:=ot.listI
 exact ⟨a,vs,S',e1,e2,ha,q,h0⟩
theorem OTs.chunks {vs:List V}{ds:List PyData}{S:List Addr} (h:OTs K N H vs ds S):S.Nodup→∃ T:Nat→List Addr,(∀ i,i<vs.length→OT K N H (vs.getD i .non) (ds.getD i .none) (T i)∧(∀ a∈T i,a∈S)∧(T i).Nodup)∧∀ i j,i<vs.length→j<vs.length→i≠j→∀ a∈T i,a ∉ T j :=
 OTs.ind (C:=fun vs ds S=>S.Nodup→∃ T:Nat→List Addr,(∀ i,i<vs.length→OT K N H (vs.getD i .non) (ds.getD i .none) (T i)∧(∀ a∈T i,a∈S)∧(T i).Nodup)∧∀ i j,i<vs.length→j<vs.length→i≠j→∀ a∈T i,a ∉ T j)
  (fun _=>⟨fun _=>[],fun i hi=>absurd hi (Nat.not_lt_zero _),fun i j hi=>absurd hi (Nat.not_lt_zero _)⟩)
  (fun {x xs d ds S S'} o q ih nd=>by
   obtain ⟨n1,n2,n3⟩:=yb.mp nd
   obtain ⟨T,t1,t2⟩:=ih n2
   refine ⟨fun i=>match i with|0=>S|i+1=>T i,fun i hi=>?_,fun i j hi hj hij a ha=>?_⟩
   ·cases i with
    | zero=>exact⟨o,fun a ha=>x3 _ ha,n1⟩
    | succ i =>
     obtain ⟨a1,a2,a3⟩:=t1 i (yH hi)
     exact ⟨a1,fun a ha=>xY _ (a2 a ha),a3⟩
   ·cases i with
    | zero=>cases j with
     | zero=>exact absurd rfl hij
     | succ j=>exact fun z=>n3 a ha a ((t1 j (yH hj)).2.1 a z) rfl
    | succ i=>cases j with
     | zero=>exact fun z=>n3 a z a ((t1 i (yH hi)).2.1 a ha) rfl
     | succ j=>exact t2 i j (yH hi) (yH hj) (fun z=>hij (by rw[z])) a ha) h
theorem OTs.pick {vs:List V}{ds:List PyData}{S:List Addr} (h:OTs K N H vs ds S) (nd:S.Nodup) {p:List Nat} (hp:p.Nodup) (hl:∀ i∈p,i<vs.length):∃ S',OTs K N H (L2.pick p vs .non) (L2.pick p ds .none) S'∧S'.Nodup∧∀ a∈S',a∈S:=by
 obtain ⟨T,t1,t2⟩:=h.chunks nd
 suffices g:∀ p:List Nat,p.Nodup→(∀ i∈p,i<vs.length)→∃ S',OTs K N H (L2.pick p vs .non) (L2.pick p ds .none) S'∧S'.Nodup∧(∀ a∈S',a∈S)∧∀ a∈S',∃ i∈p,a∈T i by
  obtain ⟨S',a,b,c,_⟩:=g p hp hl
  exact ⟨S',a,b,c⟩
 intro p
 induction p with
 | nil=>exact fun _ _=>⟨[],.nil,y7,fun a ha=>absurd ha yt,fun a ha=>absurd ha yt⟩
 | cons i p ih =>
  intro hp hl
  obtain ⟨n1,n2⟩:=yv.mp hp
  obtain ⟨S',q1,q2,q3,q4⟩:=ih n2 fun j hj=>hl j (x9 _ hj)
  have hi:=hl i ya
  obtain ⟨o,o2,o3⟩:=t1 i hi
  refine ⟨T i++S',.cons o q1,yb.mpr ⟨o3,q2,fun a ha b hb z=>?_⟩,fun a ha=>(x8.mp ha).elim (o2 a) (q3 a),fun a ha=>?_⟩
  ·obtain ⟨j,hj,hb⟩:=q4 b hb
   exact t2 i j hi (hl j (x9 _ hj)) (fun z=>n1 (z▸hj)) a ha (z▸hb)
  ·rcases x8.mp ha with ha|ha
   ·exact ⟨i,ya,ha⟩
   ·obtain ⟨j,hj,hb⟩:=q4 a ha
    exact ⟨j,x9 _ hj,hb⟩
noncomputable abbrev kA (rr:List (List Int)):List PyData:=rr.map fun r=>PyData.list (r.map PyData.int)
theorem OTs.ints {N':Addr→Prop}:∀ {r:List Int}{vs:List V}{S:List Addr},OTs K N H vs (r.map PyData.int) S→OTs K N' H vs (r.map PyData.int) S
 | [],_,_,h=>by cases h;exact .nil
 | _::_,_,_,.cons h q=>by cases h;exact .cons (.int _) q.ints
theorem OTs.rows {N':Addr→Prop}:∀ {rr:List (List Int)}{vs:List V}{S:List Addr},OTs K N H vs (kA rr) S→OTs K N' H vs (kA rr) S
 | [],_,_,h=>by cases h;exact .nil
 | _::_,_,_,.cons h q=>by cases h with|lst ha r=>exact .cons (.lst ha r.ints) q.rows
theorem OT.rows {N':Addr→Prop}{rr:List (List Int)}{S:List Addr} (h:OT K N H v (.list (kA rr)) S):OT K N' H v (.list (kA rr)) S:=by
 cases h with
 | lst ha q=>exact .lst ha q.rows
theorem aJ.down {S:List Addr}{ds:List PyData}{x:Option V} (h:aJ K M P H0 (A++(x,.tr S (.list ds))::B) H):aJ K M P H0 (A++(x,.ow ds)::B) H:=by
 have me:(x,Sl.tr S (.list ds))∈A++(x,Sl.tr S (.list ds))::B:=xY _ ya
 obtain ⟨v',z,ot,h0⟩:=h.tr _ _ _ me
 cases z
 obtain ⟨a,vs,S',rfl,rfl,ha,q⟩:=ot.listI
 have oe:oas (A++(some (.ref a),Sl.tr (a::S') (.list ds))::B)=oas A++((a::S')++oas B):=by rw[ac,ad,ao]
 have oe':oas (A++(some (.ref a),Sl.ow ds)::B)=oas A++([a]++oas B):=by rw[ac,ad];rfl
 have nd:=h.nd
 rw [oe] at nd
 obtain ⟨n1,n2,n3⟩:=yb.mp nd
 obtain ⟨n4,n5,n6⟩:=yb.mp n2
 obtain ⟨n7,n8⟩:=yv.mp n4
 have sub:∀ b,b∈oas A++([a]++oas B)→b∈oas A++((a::S')++oas B):=fun b hb=>by
  simp only [x8,ye,yt,or_false] at hb ⊢
  rcases hb with hb|hb|hb
  ·exact .inl hb
  ·exact .inr (.inl (.inl hb))
  ·exact .inr (.inr hb)
 have up:∀ b,Nw M (A++(some (.ref a),Sl.ow ds)::B) b→Nw M (A++(some (.ref a),Sl.tr (a::S') (.list ds))::B) b:=Nw.sub fun b z=>by
  rw [oe'] at z
  rw [oe]
  exact sub b z
 have na:∀ b∈S',¬Nw M (A++(some (.ref a),Sl.ow ds)::B) b:=fun b hb z=>by
  rcases z with z|z
  ·exact h.mt b z (h0 b (x9 _ hb))
  ·rw [oe'] at z
   simp only [x8,ye,yt,or_false] at z
   rcases z with z|z|z
   ·exact n3 b z b (x3 _ (x9 _ hb)) rfl
   ·exact n7 (z▸hb)
   ·exact n6 b (x9 _ hb) b z rfl
 have old:∀ x s,(x,s)∈A++(some (.ref a),Sl.ow ds)::B→(x,s)=(some (.ref a),Sl.ow ds)∨(x,s)∈A++(some (.ref a),Sl.tr (a::S') (.list ds))::B:=fun x s m=>by
  rcases x8.mp m with m|m
  ·exact .inr (x3 _ m)
  ·rcases ye.mp m with m|m
   ·exact .inl m
   ·exact .inr (xY _ (x9 _ m))
 refine ⟨h.keep,h.live,h.mt,h.pm,fun x d' m=>?_,fun x d' m=>?_,fun x d' m=>?_,fun x S d' m=>?_,?_⟩
 ·rcases old _ _ m with m|m
  ·cases m
  ·obtain ⟨v,e,dn⟩:=h.fr x d' m
   exact ⟨v,e,dn.to fun b _ _ z=>up b z⟩
 ·rcases old _ _ m with m|m
  ·cases m
   exact ⟨a,vs,rfl,ha,q.dn up na,h0 a ya⟩
  ·obtain ⟨b,ws,e,e2,dn,r⟩:=h.ow x d' m
   exact ⟨b,ws,e,e2,dn.to fun b _ _ z=>up b z,r⟩
 ·rcases old _ _ m with m|m
  ·cases m
  ·obtain ⟨b,ws,e,e2,dn,r⟩:=h.io x d' m
   exact ⟨b,ws,e,e2,dn.to fun b _ _ z=>up b z,r⟩
 ·rcases old _ _ m with m|m
  ·cases m
  ·obtain ⟨v,e,dn,r⟩:=h.tr x S d' m
   exact ⟨v,e,dn.to fun b _ _ z=>up b z,r⟩
 ·rw [oe']
  refine yb.mpr ⟨n1,yb.mpr ⟨by simp,n5,fun b hb c hc=>n6 b (by rw[x4.mp hb];exact ya) c hc⟩,fun b hb c hc=>n3 b hb c ?_⟩
  rcases x8.mp hc with hc|hc
  ·exact x3 _ (by rw[x4.mp hc];exact ya)
  ·exact xY _ hc
theorem Rel.down {i:Nat}{S:List Addr}{ds:List PyData} (h:Rel K M P H0 σ0 σ env ts H) (e:env[i]? = some (.tr S (.list ds))):Rel K M P H0 σ0 σ (env.set i (.ow ds)) ts H:=by
 obtain ⟨x,A,B,e1,q1,q2⟩:=h.split e
 have hE:=h.e
 rw [q1] at hE
 refine ⟨by rw[q2];exact hE.down,by simp[h.len],h.vw,fun j l' e'=>?_⟩
 by_cases hj:i=j
 ·subst hj
  rw [yk (yc.mp e).1] at e'
  cases e'
 ·rw [yj hj] at e'
  exact h.ios j l' e'
end
section
variable {X:Cx}{K:PySem.W.Frag}{pos:Pos}{a b e:Expr}{ta tb:DE}{tl:DA}
noncomputable def dDn (i:Nat) (u:DS):DS:=fun DD env=>∃ S ds,env[i]? = some (.tr S (.list ds))∧u DD (env.set i (.ow ds))
theorem qH (i:Nat) {ss:List Stmt}{u:DS} (h:PSs X ss (upS K u)):PSs X ss (upS K (dDn i u)):=h.imp fun D σ H h=>by
 obtain ⟨M,P,H0,σ0,env,ts,DD,nv,rel,⟨S,d,e,hu⟩,ok⟩:=h
 exact ⟨M,P,H0,σ0,_,ts,DD,nv,rel.down e,hu,ok⟩
noncomputable def sE (ta tb:DE):DE:=fun env R=>ta env fun s1 env1=>tb env1 fun s2 env2=>∃ S1 d1 S2 d2,s1=.tr S1 (.list d1)∧s2=.tr S2 (.list d2)∧d1.length+d2.length≤sizeLine∧∀ S,R (.tr S (.list (d1++d2))) env2
theorem tQ (hK:X.K=K) (ha:PE X a (up K ta)) (hb:PE X b (up K tb)):PE X (.BinOp a .Add b pos) (up K (sE ta tb)):=(nB (d4 (K:=K) hK) ha hb).imp fun σ H Q h=>by
 obtain ⟨M,P,H0,σ0,env,ts,R,rel,ht,hq⟩:=h
 refine ⟨M,P,H0,σ0,env,ts,_,rel,ht,fun s1 env1 v1 H1 h1 rel1=>⟨M,P,H0,σ0,env1,ts++[(v1,s1)],_,rel1,h1,fun s2 env2 v2 H2 h2 rel2=>?_⟩⟩
 obtain ⟨S1,d1,S2,d2,rfl,rfl,hz,hR⟩:=h2
 have rel2':Rel K M P H0 σ0 σ env2 (ts++[(v1,.tr S1 (.list d1)),(v2,.tr S2 (.list d2))]) H2:=by simpa using rel2
 obtain ⟨a1,u1,T1,rfl,rfl,g1,q1,z1⟩:=rel2'.temL (v:=v1) (S:=S1) (ds:=d1) (by simp)
 obtain ⟨a2,u2,T2,rfl,rfl,g2,q2,z2⟩:=rel2'.temL (v:=v2) (S:=S2) (ds:=d2) (by simp)
 refine ⟨a1,a2,u1,u2,rfl,rfl,SqL.of g1,SqL.of g2,by rw[q1.len,q2.len];exact hz,fun p hp=>hq _ _ _ _ (hR (p::(T1++T2))) ?_⟩
 have oe:oas (tmp [(V.ref a1,Sl.tr (a1::T1) (.list d1)),(V.ref a2,Sl.tr (a2::T2) (.list d2))])=(a1::T1)++(a2::T2):=by
  show oas [(some (V.ref a1),Sl.tr (a1::T1) (.list d1)),(some (V.ref a2),Sl.tr (a2::T2) (.list d2))]=_
  rw [ad,ad,ao,ao]
  simp [oas]
 have nd:=rel2'.e.nd
 rw [aj,ac,oe] at nd
 obtain ⟨_,n2,_⟩:=yb.mp nd
 obtain ⟨m1,m2,m3⟩:=yb.mp n2
 refine rel2'.resLstS hp (q1.app q2) (fun b hb=>?_) (fun b hb=>?_) (yb.mpr ⟨(yv.mp m1).2,(yv.mp m2).2,fun b hb c hc=>m3 b (x9 _ hb) c (x9 _ hc)⟩)
 ·rw [oe]
  exact (x8.mp hb).elim (fun z=>x3 _ (x9 _ z)) fun z=>xY _ (x9 _ z)
 ·rw [oe] at hb
  exact (x8.mp hb).elim (z1 b) (z2 b)
noncomputable def jN (k:Nat) (t:DE):DE:=fun env R=>∃ S d,env[k]? = some (.tr S d)∧t ((env.map oB).set k (.fr d)) fun s env1=>∃ S1 rr,s=.tr S1 (.list (kA rr))∧∀ S,R (.tr S (.list (kA rr))) env
theorem nR {k:Nat}{t:DE}:∀ σ H Q,up K (jN k t) σ H Q→up K t σ H Q:=fun σ H Q h=>by
 obtain ⟨M,P,H0,σ0,env,ts,R,rel,⟨S,d,e,ht⟩,hq⟩:=h
 have rel2:=rel.frzT e
 have hil:k<env.length:=(yc.mp e).1
 have en:∀ (x:Option V) (s:Sl),(x,s)∈al σ ((env.map oB).set k (.fr d)) []→(∃ s',s=oB s')∧∀ d',s=.fr d'→(x,Sl.fr d')∈al σ (env.set k (.fr d)) ts:=fun x s m=>by
  have m:(x,s)∈σ.zip ((env.map oB).set k (.fr d)):=by simpa [al] using m
  obtain ⟨j,hj,ej⟩:=y9 m
  rw [yM,ze,xZ] at hj
  rw [yU] at ej
  obtain ⟨e1,e2⟩:=Prod.mk.inj ej
  rw [List.getElem_set] at e2
  by_cases hij:k=j
  ·rw [if_pos hij] at e2
   refine ⟨⟨.fr d,e2.symm⟩,fun d' hd=>x3 _ ?_⟩
   rw [List.mem_iff_getElem]
   refine ⟨j,by rw[yM,ze];omega,?_⟩
   rw [yU,List.getElem_set,if_pos hij,e1,e2,hd]
  ·rw [if_neg hij,List.getElem_map] at e2
   refine ⟨⟨_,e2.symm⟩,fun d' hd=>x3 _ ?_⟩
   rw [List.mem_iff_getElem]
   refine ⟨j,by rw[yM,ze];omega,?_⟩
   rw [yU,List.getElem_set,if_neg hij,e1,rV (e2.trans hd)]
 have no:∀ a,a ∉ oas (al σ ((env.map oB).set k (.fr d)) []):=fun a z=>by
  obtain ⟨⟨x,s⟩,he,eo⟩:=aG.mp z
  obtain ⟨⟨s',rfl⟩,_⟩:=en x s he
  exact oA eo
 refine ⟨N0,N0,H,σ,_,[],_,⟨⟨aI.refl,fun a z=>z,fun a z=>z.elim,fun a z=>z.elim,fun x d m=>?_,fun x ds m=>?_,fun x ds m=>?_,fun x S d m=>?_,?_⟩,?_,(fun v j m=>by cases m),fun j ds' m=>?_⟩,ht,fun s env1 v H1 h1 rel1=>?_⟩
 ·obtain ⟨v,e1,dn⟩:=rel2.e.fr x d ((en x _ m).2 d rfl)
  exact ⟨v,e1,dn.to fun b _ _ z=>z.elim (fun z=>z.elim) fun z=>absurd z (no b)⟩
 ·obtain ⟨⟨s',e1⟩,_⟩:=en _ _ m
  cases s' <;> cases e1
 ·obtain ⟨⟨s',e1⟩,_⟩:=en _ _ m
  cases s' <;> cases e1
 ·obtain ⟨⟨s',e1⟩,_⟩:=en _ _ m
  cases s' <;> cases e1
 ·rw [List.eq_nil_iff_forall_not_mem.mpr no]
  exact y7
 ·rw [ze,xZ]
  exact rel.len
 ·have m2:=List.mem_of_getElem? m
  rcases List.mem_or_eq_of_mem_set m2 with h|h
  ·obtain ⟨s,_,e1⟩:=yr.mp h
   cases s <;> cases e1
  ·cases h
 ·obtain ⟨S1,rr,rfl,hR⟩:=h1
  have e7:=rel1.e
  rw [show al σ env1 ([]++[(v,Sl.tr S1 (.list (kA rr)))])=al σ env1 []++tmp [(v,Sl.tr S1 (.list (kA rr)))] from aj] at e7
  have nd:=e7.nd
  obtain ⟨w,ew,ot,h0⟩:=e7.tr _ _ _ (xY _ ya)
  cases ew
  rw [ac] at nd
  have nd2:S1.Nodup:=by
   have:=(yb.mp nd).2.1
   rwa [show oas (tmp [(v,Sl.tr S1 (.list (kA rr)))])=S1 by show oas [(some v,Sl.tr S1 (.list (kA rr)))]=S1;rw[ad,ao];simp[oas]] at this
  have rk:bv K (Nw M (al σ env ts)) H H1 v (.tr S1 (.list (kA rr))):=.tr ot.rows (fun a ha=>⟨h0 a ha,rel.newAddr (h0 a ha)⟩) nd2
  exact hq _ _ _ _ (hR S1) (rel.withRes (rel.e.called rel1.e.keep.none rk) rfl)
theorem ka {sc}{N':List Str}{ix:List (Option Nat)}{it:DI}{g:DG}{tt:DT}{te:DE}{tg iter elt:Expr}{ifs:List Expr} (k:Nat) {i:Nat}{y:Str}{spos py:Pos} (hN:X.N.Nodup) (hi':X.N[i]? = some y) (hy:X.env.scope.names.lookup y=some .local) (hc:X.calm=true) (S:bi X.N X.env N' ix sc) (hi:PI X tg iter (upI K it))
  (hg:∀ s H C fp,PG (bCx X N' sc s H C fp) tg (upG K g)) (ht:∀ s H C fp,PIf (bCx X N' sc s H C fp) ifs (upT K tt)) (he:∀ s H C fp,PE (bCx X N' sc s H C fp) elt (up K te))
  (hsw:swapsWith (.ListComp elt [⟨tg,iter,ifs,0⟩] sc pos) (some (.Name y py)) spos.line X.env=pure true:=by rfl)
  (hs:∀ x,foldedSetIterable iter X.env x=pure x:=by intro _;rfl):PS X (.Assign [.Name y py] (.ListComp elt [⟨tg,iter,ifs,0⟩] sc pos) spos) (upS K (oJ i (jN k (jP it ix g tt te)))):=(de hN hi' hy hc S hi hg ht he hsw hs).imp (kY fun σ H Q h=>oT σ H Q (nR σ H Q h))
end
section
variable {X:Cx}{K:PySem.W.Frag}{e:Expr}{tl:DA}{q0 pos kpos lpos:Pos}{params:Arguments}{scope:Scope}{body:Expr}{p x:Str}{i:Nat}{tb:DE}
noncomputable def sA (tb:DE) (t:DA):DE:=fun env R=>t env fun ss env1=>∃ S ds kf,ss=[.tr S (.list ds)]∧ds.length<64∧vi (ds.map kf)∧(∀ d∈ds,pF tb d (kf d))∧∀ S',R (.tr S' (.list (pick (aU ((ds.map kf).map bI)) ds .none))) env1
theorem tN (hK:X.K=K) (L:o7 X) (hr:ci 4 X.A) (hg:Gl X "sorted") (hm:X.mg "sorted" = none) (ha:PA X [e] (upA K tl)) (S:ay [p] [p] scope)
  (hb:∀ (qual:Str) (pm c ctv u:Value),bindArgs (kla_fn "<lambda>" qual params body scope [] pm c ctv) ⟨[u],[]⟩=pure [(p,u)])
  (hcl:closureFor scope X.env=pure []) (hdef:defaultsOf params X.env=([],[]))
  (hbody:∀ (A:Around) (s:Shared) (H:Hp) (f:Addr) (cd:Value),PE (jT CX0 X.prog X.w X.K X.mg X.base [p] (X.env.qual ++ "<lambda>") scope f cd A X.stack s H E0) body (up X.K tb))
  (he2:backTo pos (starEach [e] X.env)=(false,eval e X.env)::backTo pos (starEach [] X.env):=by rfl) :
  PE X (.Call (.Name "sorted" q0) [e] [⟨some "key",.Lambda params body scope lpos,kpos⟩] pos) (up K (sA tb tl)) :=
 (rd (K:=K) (tb:=tb) hK L hr hg hm ha S hb hcl hdef hbody he2).imp fun σ H Q h=>by
 obtain ⟨M,P,H0,σ0,env,ts,R,rel,ht,hq⟩:=h
 refine ⟨M,P,H0,σ0,env,ts,_,rel,ht,fun ss env1 vs H1 h1 hl rel1=>?_⟩
 obtain ⟨S,ds,kf,rfl,h64,hkk,hk,hR⟩:=h1
 obtain ⟨v,rfl⟩:=rE hl
 have rel1:Rel K M P H0 σ0 σ env1 (ts++[(v,.tr S (.list ds))]) H1:=rel1
 obtain ⟨a,us,T,rfl,rfl,ga,q,z⟩:=rel1.temL (v:=v) (S:=S) (ds:=ds) (by simp)
 have oe:oas (tmp [(V.ref a,Sl.tr (a::T) (.list ds))])=a::T:=by
  show oas [(some (V.ref a),Sl.tr (a::T) (.list ds))]=_
  rw [ad,ao]
  simp [oas]
 have nd:=rel1.e.nd
 rw [aj,ac,oe] at nd
 have nd2:=(yv.mp (yb.mp nd).2.1).2
 refine ⟨a,us,N0,ds,ds.map kf,rfl,SqL.of ga,q.dn (fun b z=>z.elim) (fun b _ z=>z.elim),xZ ..,hkk,fun i hi=>rX (P:=fun d kd=>og tb [d] kd) hk hi,by rw[q.len];exact h64,fun H2 sm p' hp=>?_⟩
 have rel2:=rel1.same sm
 obtain ⟨a',us',T',e1,e2,ga',q',z'⟩:=rel2.temL (v:=.ref a) (S:=a::T) (ds:=ds) (by simp)
 cases e1
 cases e2
 have eu:us'=us:=by
  have:=sm _ _ ga
  rw [ga'] at this
  cases this
  rfl
 subst eu
 have pn:(aU ((ds.map kf).map bI)).Nodup:=(bO _).nodup_iff.mpr List.nodup_range
 obtain ⟨S',q2,n2,s2⟩:=q'.pick nd2 pn fun i hi=>by
  have:=ck i hi
  rw [xZ,xZ] at this
  rw [q'.len]
  exact this
 exact hq _ _ _ _ (hR (p'::S')) (rel2.resLstS hp q2 (fun b hb=>by rw[oe];exact x9 _ (s2 b hb)) (fun b hb=>by rw[oe] at hb;exact z b hb) n2)
end
section
variable {K:PySem.W.Frag}{M P N:Addr→Prop}{H0 H H':Hp}
theorem OTs.rowApp0 {S:List Addr}{n:Nat}{b:Addr}{bs:List V}{cs row:List PyData}{c:Int} (q:OTs K N H bs cs S) (nd:(b::S).Nodup) (hS:∀ a∈S,N a) (hn:cs[n]? = some (.list row)) :
  ∃ a us,bs[n]? = some (.ref a)∧H a=some (.lst us)∧us.length=row.length∧a∈S∧b≠a∧OTs K N (upd H a (.lst (us++[.int c]))) bs (cs.set n (.list (row++[.int c]))) S:=by
 obtain ⟨y,T1,Ty,T2,g1,g2,oy,g⟩:=q.split hn
 cases oy with
 | @lst a us _ Sr ha qr =>
  rw [g2] at nd
  obtain ⟨m7,m8⟩:=yv.mp nd
  obtain ⟨p1,p2,p3⟩:=yb.mp m8
  obtain ⟨p4,p5,p6⟩:=yb.mp p2
  obtain ⟨p7,p8⟩:=yv.mp p4
  have maS:a∈T1++((a::Sr)++T2):=xY _ (x3 _ ya)
  have na:=hS a (g2▸maS)
  have kp:aI N H (upd H a (.lst (us++[.int c]))):=aI.own na
  have o1:OT K N (upd H a (.lst (us++[.int c]))) (.ref a) (.list (row++[.int c])) (a::Sr):=by
   have:=(qr.keep kp fun z hz=>ag fun w=>p7 (w▸hz)).app (OTs.cons (OT.int (K:=K) (N:=N) (H:=upd H a (.lst (us++[.int c]))) c) .nil)
   simp at this
   exact .lst aC this
  have o2:=g (fun _ _ _ z=>z) kp (fun z hz=>ag fun w=>p3 z hz a (x3 _ ya) w) (fun z hz=>ag fun w=>p6 a ya z hz w.symm) o1
  exact ⟨a,us,g1,ha,qr.len,g2▸maS,fun z=>m7 (z▸maS),g2▸o2⟩
end
section
variable {X:Cx}{K:PySem.W.Frag}{pos:Pos}
noncomputable def dN (i j:Nat) (c:Int):DS:=fun DD env=>∃ (S:List Addr) (rows:List (List PyData)),env[i]? = some (.tr S (.list (rows.map PyData.list)))∧i≠j∧j<env.length∧(∀ r∈rows,r.length<sizeLine) ∧
 ∀ S',DD.nx ((env.set i (.tr S' (.list (rows.map fun r=>.list (r++[.int c]))))).set j .un)
theorem kn {i j:Nat}{c:Int}:∀ D σ H,upS K (dN i j c) D σ H →
  wW (rT K (vp i)) (lZ j) (tu (tBM K "list" lb (vp j) (tw (tC (.int c)) wV))) D σ H:=fun D σ H h=>by
 obtain ⟨M,P,H0,σ0,env,ts,DD,nv,rel,⟨S,rows,e0,hij,hj,hz,hR⟩,ok⟩:=h
 obtain ⟨x,e1,m1⟩:=rel.slot e0
 obtain ⟨v,ev,ot,h0⟩:=rel.e.tr _ _ _ m1
 subst ev
 obtain ⟨b,bs,Sq,rfl,rfl,hb,qb⟩:=ot.listI
 have lbs:bs.length=rows.length:=by rw[qb.len];simp
 refine ⟨.ref b,e1,b,rfl,⟨bs,SqL.of hb⟩,?_⟩
 let En:List PyData→List Sl:=fun cs=>(env.set i (.tr (b::Sq) (.list cs))).set j .un
 have hi:i<env.length:=(yc.mp e0).1
 have Ei:∀ cs,(En cs)[i]? = some (.tr (b::Sq) (.list cs)):=fun cs=>by
  show ((env.set i _).set j _)[i]? = _
  rw [yj (Ne.symm hij),yk hi]
 let Iv:Nat→St→Hp→Prop:=fun n σ' H'=>∃ cs,cs.length=rows.length∧(∀ t,cs[t]? = (rows[t]?).map fun r=>if t<n then PyData.list (r++[.int c]) else .list r)∧Rel K M P H0 σ0 σ' (En cs) ts H'∧H' b=some (.lst bs)∧σ'[i]? = some (some (.ref b))
 have inN:∀ {σ':St}{cs:List PyData}{H':Hp},Rel K M P H0 σ0 σ' (En cs) ts H'→(b::Sq).Nodup∧∀ a∈b::Sq,Nw M (al σ' (En cs) ts) a:=fun {σ' cs H'} rl=>by
  obtain ⟨x,A,B,e3,q1,q2⟩:=rl.split (Ei cs)
  have rr:=rl.e
  rw [q1] at rr
  obtain ⟨v',ev',_,_⟩:=rr.tr _ _ _ (xY _ ya)
  subst ev'
  have nd:=rr.nd
  rw [ac,ad,ao] at nd
  refine ⟨(yb.mp (yb.mp nd).2.1).1,fun a ha=>.inr ?_⟩
  rw [q1,ac,ad,ao]
  exact xY _ (x3 _ ha)
 refine ⟨fun n m σ' H'=>m=rows.length - n∧n≤rows.length∧Iv n σ' H',⟨_,rfl,yo _,rows.map PyData.list,?_⟩,?_⟩
 ·have hjs:j<σ.length:=by rw[rel.len];exact hj
  have hx1:env.set i (.tr (b::Sq) (.list (rows.map PyData.list)))=env:=by
   rw [←(yc.mp e0).2]
   exact List.set_getElem_self hi
  have hx3:En (rows.map PyData.list)=env.set j .un:=by
   show (env.set i (.tr (b::Sq) (.list _))).set j .un=_
   rw [hx1]
  obtain ⟨relU,subU⟩:=rel.setUn nv hj σ[j]
  rw [List.set_getElem_self hjs] at relU subU
  rw [←hx3] at relU subU
  exact ⟨by simp,fun t=>by simp[Option.map_map],relU,hb,e1⟩
 rintro n m σ2 H2 ⟨rfl,hle,cs,lcs,hcs,rel2,hb2,hr2⟩
 by_cases hlt:n<rows.length
 ·refine .inr ⟨⟨bs,bs[n]'(by omega),SqL.of hb2,x5 (by omega)⟩,fun σ' H'=>Iv (n+1) σ' H',fun σ' H' z=>⟨rows.length - (n+1),by omega,rfl,hlt,z⟩,fun x H3 y=>?_⟩
  obtain ⟨rfl,y⟩:=y
  have hx:=y bs (SqL.of hb2)
  have hrow:cs[n]? = some (.list rows[n]):=by
   rw [hcs n,x5 hlt]
   simp
  obtain ⟨relS,subS⟩:=rel2.setUn nv (j:=j) (by simp[En];exact hj) (some x)
  have eS:(En cs).set j .un=En cs:=by
   show ((env.set i _).set j _).set j _=_
   rw [List.set_set]
  rw [eS] at relS subS
  obtain ⟨nd3,in3⟩:=inN relS
  obtain ⟨x',A,B,e3,p1,p2⟩:=relS.split (Ei cs)
  have e3':x'=some (.ref b):=by
   rw [yj (Ne.symm hij),hr2] at e3
   exact (Option.some.inj e3).symm
  subst e3'
  have rr:=relS.e
  rw [p1] at rr
  obtain ⟨v',ev',ot',_⟩:=rr.tr _ _ _ (xY _ ya)
  cases ev'
  obtain ⟨b',bs',Sq',eb,eS',hb',qb'⟩:=ot'.listI
  cases eb
  cases eS'
  rw [hb2] at hb'
  cases hb'
  rw [p1] at in3
  obtain ⟨a,us,ga,ha,hl,ma,nba,q4⟩:=qb'.rowApp0 (c:=c) nd3 (fun a ha=>in3 a (x9 _ ha)) hrow
  rw [ga] at hx
  cases hx
  have hjs:j<σ2.length:=by rw[rel2.len];simp[En];exact hj
  refine ⟨.ref a,yk hjs,.inl ⟨rfl,us,SqL.of ha⟩,a,us,.int c,rfl,rfl,ha,by rw[hl];exact hz _ (yO hlt),?_⟩
  obtain ⟨re,ne⟩:=rr.retree (x9 _ ma) (List.Perm.refl _) (.lst (by rw[ag nba];exact hb2) q4)
  have relT:=relS.setTr (Ei cs) (p2 _) re
  have eT:(En cs).set i (.tr (b::Sq) (.list (cs.set n (.list (rows[n]++[.int c])))))=En (cs.set n (.list (rows[n]++[.int c]))):=by
   show ((env.set i _).set j _).set i _=(env.set i _).set j _
   rw [List.set_comm _ _ (Ne.symm hij),List.set_set]
  rw [eT] at relT
  refine ⟨cs.set n (.list (rows[n]++[.int c])),by simp[lcs],fun t=>?_,relT,by rw[ag nba];exact hb2,by rw[yj (Ne.symm hij)];exact hr2⟩
  by_cases ht:n=t
  ·subst ht
   rw [yk (by omega),x5 hlt]
   simp
  ·rw [yj ht,hcs t]
   have:(t<n)=(t<n+1):=by
    apply propext
    omega
   simp only [this]
 ·have e:n=rows.length:=by omega
  subst e
  refine .inl ⟨⟨bs,SqL.of hb2,by omega⟩,ok.nx _ _ _ ?_ rel2⟩
  have ecs:cs=rows.map fun r=>PyData.list (r++[.int c]):=by
   apply List.ext_getElem?
   intro t
   rw [hcs t,yA]
   by_cases ht:t<rows.length
   ·rw [x5 ht]
    simp [ht]
   ·rw [List.getElem?_eq_none (by omega)]
    rfl
  subst ecs
  exact hR (b::Sq)
theorem lq (i j:Nat) {x r:Str}{rp np np2 ap cp kp ep:Pos}{c:Int}{jc} (hK:X.K=K) (hp:PassesOwn (model X.prog X.w) X.A X.env X.xe) (hc:X.calm=true) (hN:X.N.Nodup) (hi:X.N[i]? = some x) (hj:X.N[j]? = some r) (hr:Loc X.env.scope r)
  (hf:X.fn r=true∨X.env.scope.names.lookup r=some .local:=by first|exact .inl rfl|exact .inr rfl|assumption)
  (hv:Vis X.env.scope x:=by first|exact Or.inl rfl|exact Or.inr (Or.inl rfl)|exact Or.inr (Or.inr rfl)) (hd:(x==("__debug__" : Str))=false:=by decide) (hcd:(x==("__classdict__" : Str))=false:=by decide)
  (hv2:Vis X.env.scope r:=by first|exact Or.inl rfl|exact Or.inr (Or.inl rfl)|exact Or.inr (Or.inr rfl)) (hd2:(r==("__debug__" : Str))=false:=by decide) (hcd2:(r==("__classdict__" : Str))=false:=by decide)
  (hs0:starEach [.Constant (.int c) jc cp] X.env=[(false,eval (.Constant (.int c) jc cp) X.env)]:=by rfl)
  (hbase:attributeBase (.Name r np2) "append" X.env (eval (.Name r np2) X.env)=eval (.Name r np2) X.env:=by rfl)
  (hfew:((backTo kp (starEach [.Constant (.int c) jc cp] X.env)).all (fun x=>!x.1)&&(backToKw kp (keywordEach [] X.env)).all (fun x=>x.1.isSome)&&decide ([Expr.Constant (.int c) jc cp].length+([]:List Keyword).length+(if ([]:List Keyword).isEmpty then 0 else 1)<30))=true:=by rfl)
  (hline:(ap.endLine==kp.line)=true:=by rfl) (hplain:(backTo kp (starEach [] X.env)).any (·.1)=false:=by rfl)
  (hsw:swapsWith (.Call (.Attribute (.Name r np2) "append" ap) [.Constant (.int c) jc cp] [] kp) none ep.line X.env=pure false:=by rfl)
  (hs:∀ y,foldedSetIterable (.Name x np) X.env y=pure y:=by intro _;rfl) :
  PS X (.For (.Name r rp) (.Name x np) [.Expr (.Call (.Attribute (.Name r np2) "append" ap) [.Constant (.int c) jc cp] [] kp) ep] [] pos) (upS K (dN i j c)) :=
 (pB hp hc (pE (K:=K) hK (cE hi hv hd hcd)) (lE hN hj hr hf) (ly (lz (kBm (K:=K) hK PySem.F.plainAttrs_list PySem.F.slot_list_append PySem.F.type_list_append gv (cE hj hv2 hd2 hcd2) (df pD gl hs0) hbase hfew hline hs0 hplain) hsw)) hs).imp kn
end
section
variable {X:Cx}{K:PySem.W.Frag}{to ta:DE}{e o:Expr}
noncomputable def px (K:PySem.W.Frag):V→List V→Hp→VK→Prop:=fun x vs H Q=>∃ (p:Addr) (ns:List Int) (i:Int),x=.ref p∧vs=[.int i]∧SqT K H p (ns.map .int)∧Q (.int (ns.count i:Nat)) H
noncomputable def evI (i:Int):Value→Bool:=fun y=>match y with|.int n _=>n==i|_=>false
theorem er (i:Int):∀ {ns:List Int}{its:List Value},aA (ns.map V.int) its→its.countP (evI i)=ns.count i∧∀ y∈its,∃ n t,y=Value.int n t
 | [],_,h=>by cases h;exact⟨rfl,fun y hy=>absurd hy yt⟩
 | n::ns,_,.cons r t=>by
  obtain ⟨u,rfl⟩:=r
  obtain ⟨h1,h2⟩:=er i t
  refine ⟨by rw[List.countP_cons,List.count_cons,h1];rfl,fun y hy=>?_⟩
  rcases ye.mp hy with rfl|hy
  ·exact ⟨_,_,rfl⟩
  ·exact h2 y hy
theorem nL:MtR X "tuple.count" (px X.K):=by
 intro pins s σ H x vs v us Q I rx rv h
 obtain ⟨p,ns,i,rfl,rfl,hs,q⟩:=h
 cases (show v=Value.ref p from rx)
 obtain ⟨u,rfl,ru⟩:=rv.one
 obtain ⟨t,rfl⟩:=ru
 obtain ⟨its,r,pl⟩:=I.tupleN hs
 obtain ⟨⟨cls,dd,data,sl⟩,ho,hc,⟨n,hd⟩,hdict⟩:=pl
 simp only at hc hd
 subst hc hd
 obtain ⟨c1,c2⟩:=er i r
 refine call_meets F.slot_tuple_count ⟨_,ho,rfl⟩ F.entry_tuple_count (F.args_tuple_count_2 _ _) (SeqAt.tuple_countAt p its.toArray n dd sl (.int i t) (evI i)) ⟨ho,fun y hy=>?_,⟨.int (ns.count i:Nat),H,I.tok _,⟨s.toks,?_⟩,q⟩⟩
 ·obtain ⟨m,t',rfl⟩:=c2 y (by simpa using hy)
  exact SeqAt.EqAt.int_int _ _ _ _
 ·rw [show its.toArray.toList=its from rfl,c1]
theorem uE (hK:X.K=K):MtR X "tuple.count" (px K):=by subst hK;exact nL
noncomputable def mw (to ta:DE):DE:=fun env R=>to env fun s env1=>∃ es ns,aF env1 s=some (.tuple es)∧bq es=some ns∧ta env1 fun s2 env2=>∃ i,aF env2 s2=some (.int i)∧aF env2 s=some (.tuple es)∧R (.fr (.int (ns.count i:Nat))) env2
theorem qM {apos cpos:Pos} (hK:X.K=K) (ho:PE X o (up K to)) (ha:PE X e (up K ta))
  (hs0:starEach [e] X.env=[(false,eval e X.env)]:=by rfl)
  (hbase:attributeBase o "count" X.env (eval o X.env)=eval o X.env:=by rfl)
  (hfew:((backTo cpos (starEach [e] X.env)).all (fun x=>!x.1)&&(backToKw cpos (keywordEach [] X.env)).all (fun x=>x.1.isSome)&&decide ([e].length+([]:List Keyword).length+(if ([]:List Keyword).isEmpty then 0 else 1)<30))=true:=by rfl)
  (hline:(apos.endLine==cpos.line)=true:=by rfl) (hplain:(backTo cpos (starEach [] X.env)).any (·.1)=false:=by rfl) :
  PE X (.Call (.Attribute o "count" apos) [e] [] cpos) (up K (mw to ta)) :=
 (kBm (K:=K) hK PySem.F.plainAttrs_tuple PySem.F.slot_tuple_count PySem.F.type_tuple_count (uE hK) ho (df ha gl hs0) hbase hfew hline hs0 hplain).imp fun σ H Q h=>by
 obtain ⟨M,P,H0,σ0,env,ts,R,rel,ht,hq⟩:=h
 refine ⟨M,P,H0,σ0,env,ts,_,rel,ht,fun s1 env1 v1 H1 h1 rel1=>?_⟩
 obtain ⟨es,ns,e1,e2,h1⟩:=h1
 obtain ⟨a,vs,ev,sq,q⟩:=(rel1.view (v:=v1) (by simp) e1).tuple
 subst ev
 refine ⟨.inr (.inl ⟨rfl,_,sq⟩),M,P,H0,σ0,env1,ts++[(.ref a,s1)],_,rel1,h1,fun s2 env2 v2 H2 h2 rel2=>?_⟩
 obtain ⟨i,e3,e4,hR⟩:=h2
 have ev2:=(rel2.view (v:=v2) (by simp) e3).int
 subst ev2
 obtain ⟨a',vs',ev,sq',q'⟩:=(rel2.view (v:=.ref a) (by simp) e4).tuple
 cases ev
 refine ⟨a,ns,i,rfl,rfl,?_,hq _ _ _ _ hR ?_⟩
 ·have e5:=cM e2
  subst e5
  rw [←q'.ints];exact sq'
 ·exact rel2.drop.res (aH.refl _) (.int _)
end
theorem my {ds:List PyData}{ix:List (Option Nat)}{g:DG}{tt:DT}{te:DE}{env:List Sl}{R:Sl→List Sl→Prop} (p:Nat→Bool) (f:Nat→PyData) (hz:ds.length≤1000000)
  (h : ∀ i,(h:i<ds.length)→∀ (Q:PyData→Prop) (Q':Prop),(p i=true→Q (f i))→(p i=false→Q')→g ds[i] (cQ ix env) fun b1=>tt b1 fun k b2=>if k=true then te b2 fun s b3=>∃ s' d,dS b3 s=some s'∧c9 [] s'=some d∧Q d else Q')
  (hR:∀ S,R (.tr S (.list (((List.range ds.length).filter p).map f))) env):CDT ds ix g tt te env R:=by
 refine ⟨fun i rs=>rs=((List.range i).filter p).map f∧i≤ds.length,⟨rfl,yo _⟩,fun i rs hi w=>?_,fun rs w S=>by rw[w.1];exact hR S⟩
 obtain ⟨rfl,_⟩:=w
 refine ⟨?_,?_⟩
 ·have:=yJ p (List.range i)
  rw [yC] at this
  rw [xZ]
  exact yi (by omega) ah
 ·refine h i hi _ _ (fun e=>⟨?_,hi⟩) (fun e=>⟨?_,hi⟩)
  ·rw [zf,yF,yN]
   simp [e]
  ·rw [zf,yF,yN]
   simp [e]
end L2
namespace W
open PySem L2
local macro_rules | `(tactic| walk_at "d2") => do
 let l ← (("vd,p9,jN,sE,sA,dN,dDn,mw,wJ,oB,pq,i9,rA,fM,sy,u9,oJ,jM,sw,ml,sx,vb,kt,sC,vK,mv,vL,dOp,vc,oQ,dUn,vD,sO,dC,kr,wL,dOr,vH,sF,sB,dIf,vE,vJ,oP,vI,mx,gX,jS,dCB,dIs,vF,oM,fL,mr,vM,vG,jO,oN,oK,oO,ku,jQ,u7,sqD,gI,gIC,gB,gBB,gEq,gNe,jF,gIx,vC,vB,vA,vz,sD,Sl.tr.injEq,wI,vv,jP,wK,jR,sQ,mG,eD,c9,bo,slF,noL,ki,d6,jh,jq,gC,jd,ja,jb,i8,eR,dR,gF,gE,gA,d7,dw,pw,pr,pv,pp,pk,pi,pj,pf,jk,ji,jg,js,jr,jp,k8,k7,eQ,gP,gN,gO,gM,jI,jJ,bx,jn,jo,lH,lI,lJ,lG,cQ,hU,hJ,jZ,jX,jY,jW,eZ,dW,fW,fY,je,fX,eU,gH,jC,gK,gJ,fi,lX,jE,pM,pO,jD,gL,pH,pG,pK,pN,pL,pJ,be,cN,jH,qm,qk,qj,qi,qh,qg,qd,qc,jG,pQ,pS,kX,jl,jm,List.map_cons,List.map_nil,List.length_cons,List.length_nil,List.cons_append,List.nil_append,List.append_nil,List.replicate_succ,List.replicate_zero,List.set_cons_succ,List.set_cons_zero,List.getElem?_cons_zero,List.getElem?_cons_succ,List.getElem?_nil,List.take_succ_cons,List.take_zero,List.take_nil,List.drop_succ_cons,List.drop_zero,List.drop_nil,Option.some.injEq,Option.bind_some,Option.bind_none,Option.map_some,Option.map_none,Sl.fr.injEq,Sl.ow.injEq,Sl.io.injEq,Sl.vw.injEq,PyData.int.injEq,PyData.bool.injEq,PyData.list.injEq,PyData.tuple.injEq,PyData.str.injEq,List.cons.injEq,reduceCtorEq,and_true,true_and,and_false,false_and,and_assoc,exists_eq_left',exists_eq_left,exists_and_left,exists_eq',exists_eq,exists_false,exists_const,Nat.reduceSub,Nat.reduceAdd,Nat.reduceLT,Nat.zero_add,Nat.lt_add_left_iff_pos,decide_eq_true_eq,ite_true,ite_false,Bool.false_eq_true,if_true,if_false,Bool.not_eq_true',Bool.not_eq_true,decide_eq_false_iff_not,Int.zero_add,String.reduceBEq,Bool.true_and,Bool.and_true,Bool.or_false,Bool.false_or,Bool.or_true,Bool.true_or,Bool.and_false,Bool.false_and,Bool.not_true,Bool.not_false,id_eq,Sl.ctorIdx,Nat.succ_eq_add_one".splitOn ",").toArray.mapM fun s => `(Lean.Parser.Tactic.simpLemma| $(Lean.mkIdent s.toName):ident))
 `(tactic| simp only [$l,*])
local macro_rules | `(tactic| walk_at "d1") => do
 let l ← (("p9,jN,sE,sA,dN,dDn,mw,wJ,oB,pq,i9,rA,fM,sy,u9,oJ,jM,sw,ml,sx,vb,kt,sC,vK,mv,vL,dOp,vc,oQ,dUn,vD,sO,dC,kr,wL,dOr,vH,sF,sB,dIf,vE,vJ,oP,vI,mx,gX,jS,dCB,dIs,vF,oM,fL,mr,vM,vG,jO,oN,oK,oO,ku,jQ,u7,sqD,gI,gIC,gB,gBB,gEq,gNe,jF,gIx,vC,vB,vA,vz,sD,Sl.tr.injEq,wI,vv,jP,wK,jR,sQ,mG,eD,c9,bo,slF,noL,ki,d6,jh,jq,gC,jd,ja,jb,i8,eR,dR,gF,gE,gA,d7,dw,pw,pr,pv,pp,pk,pi,pj,pf,jk,ji,jg,js,jr,jp,k8,k7,eQ,gP,gN,gO,gM,jI,jJ,bx,jn,jo,lH,lI,lJ,lG,cQ,hU,hJ,jZ,jX,jY,jW,eZ,dW,fW,fY,je,fX,eU,gH,jC,gK,gJ,fi,lX,jE,pM,pO,jD,gL,pH,pG,pK,pN,pL,pJ,be,cN,jH,qm,qk,qj,qi,qh,qg,qd,qc,jG,pQ,pS,kX,jl,jm,List.map_cons,List.map_nil,List.length_cons,List.length_nil,List.cons_append,List.nil_append,List.append_nil,List.replicate_succ,List.replicate_zero,List.set_cons_succ,List.set_cons_zero,List.getElem?_cons_zero,List.getElem?_cons_succ,List.getElem?_nil,List.take_succ_cons,List.take_zero,List.take_nil,List.drop_succ_cons,List.drop_zero,List.drop_nil,Option.some.injEq,Option.bind_some,Option.bind_none,Option.map_some,Option.map_none,Sl.fr.injEq,Sl.ow.injEq,Sl.io.injEq,Sl.vw.injEq,PyData.int.injEq,PyData.bool.injEq,PyData.list.injEq,PyData.tuple.injEq,PyData.str.injEq,List.cons.injEq,reduceCtorEq,and_true,true_and,and_false,false_and,and_assoc,exists_eq_left',exists_eq_left,exists_and_left,exists_eq',exists_eq,exists_false,exists_const,Nat.reduceSub,Nat.reduceAdd,Nat.reduceLT,Nat.zero_add,Nat.lt_add_left_iff_pos,decide_eq_true_eq,ite_true,ite_false,Bool.false_eq_true,if_true,if_false,Bool.not_eq_true',Bool.not_eq_true,decide_eq_false_iff_not,Int.zero_add,String.reduceBEq,Bool.true_and,Bool.and_true,Bool.or_false,Bool.false_or,Bool.or_true,Bool.true_or,Bool.and_false,Bool.false_and,Bool.not_true,Bool.not_false,id_eq,Sl.ctorIdx,Nat.succ_eq_add_one".splitOn ",").toArray.mapM fun s => `(Lean.Parser.Tactic.simpLemma| $(Lean.mkIdent s.toName):ident))
 let h:=Lean.mkIdent `hW
 `(tactic| (refine' (?wf : Wk _ _) ?we ?wk ?wq; (case we => (intro $h:ident; simp only [$l,*] at $h:ident; exact $h)); (case wf => exact fun _ k q => k q); (case wk => (intro $h:ident; walk_at "wa"))))
local macro_rules | `(tactic| walk_at "wh") => do
 let h:=Lean.mkIdent `hW
 `(tactic| repeat (first | (with_reducible refine Exists.elim $h fun _ $h => ?_) | ((with_reducible refine And.elim (fun e $h => ?_) $h); try subst e)))
local macro_rules | `(tactic| walk_at "ev") => do
 let l ← ("wz,uL,xO,xP,wH,xQ,wC,sd,uQ,uM,uR,uS,uO,wy,se,uN,wA,r9,rZ,uP,oE,wB,wG,wD,u4,so,wE,wF,oF,u5,u3,uY,uZ,uX,uW,si,uV,sg,sk,uU".splitOn ",").toArray.mapM fun s => `(Lean.Parser.Tactic.tacticSeq| with_reducible apply $(Lean.mkIdent s.toName))
 `(tactic| ((repeat' (first $[| $l]* | walk_at "wc")); done))
local macro_rules | `(tactic| walk_at "wc") => `(tactic| first | exact rfl | with_reducible assumption | exact of_decide_eq_true rfl | exact rF rfl | ((first | (with_reducible show _ ≤ sizeLine) | (with_reducible show _ < sizeLine) | (with_reducible show _ = _) | (with_reducible show shp _)); assumption))
local macro_rules | `(tactic| walk_at "wa") => do
 let h:=Lean.mkIdent `hW
 let l ← ("sW,sS,sT,qt,sU,sV,sZ,qw,sY".splitOn ",").toArray.mapM fun s => `(Lean.Parser.Tactic.tacticSeq| (with_reducible apply $(Lean.mkIdent s.toName)); focus walk_at "ev")
 let m ← ("ws_seq,wg_name,wk_K,w_pop,wx_set,wx_ret,wx_drop".splitOn ",").toArray.mapM fun s => `(Lean.Parser.Tactic.tacticSeq| with_reducible apply $(Lean.mkIdent s.toName))
 `(tactic| (walk_at "wh"; repeat' (first | exact $h $[| $l]* $[| $m]* | walk_at "wc" | apply Exists.intro | refine And.intro rfl ?_ | (refine And.intro ?_ ?_; focus walk_at "wc") | refine And.intro ⟨_, rfl⟩ ?_ | refine And.intro ⟨_, _, rfl⟩ ?_ | (intro x; replace $h:ident := $h x; walk_at "wh") | (refine sX rfl (fun $h => ?_) (fun $h => ?_) $h <;> walk_at "wh"))))
local macro_rules | `(tactic| walk_at "dd") => `(tactic| first | (walk_at "d1"; try walk_at "d2") | (simp only [Int.zero_add]; walk_at "d1"; try walk_at "d2") | (walk_at "d2"))
local macro_rules | `(tactic| walk_at "dx") => `(tactic| (first | ((with_reducible refine nx ?_); try walk_at "dd") | walk_at "dd"); repeat ((with_reducible refine nx ?_); try walk_at "dd"))
noncomputable def top (i:Nat):Stmt:=PySem.Challenge.pw_windround_k01_beginnings_and_choices.main.body.getD i (.Pass ⟨0,0,0,0⟩)
section
variable {P:Program}{w:World}{K:PySem.W.Frag}{mg:Str→Option Value}{base:Heap}
noncomputable abbrev cq:Stmt:=top 8
theorem iA:ay ["_law_draws_here"] ["_law_draws_here"] (af cq):=⟨rfl,rfl,rfl,by decide +kernel,rfl,by decide +kernel,by decide +kernel⟩
noncomputable def cw (ds:List Int):Int:=ds.getLastD 0
noncomputable def qB:DSp:=fun ss R=>∃ ds:List Int,ss=[.io (li ds)]∧R (.fr (.int (cw ds))) [.io (li ds.dropLast)]
theorem pR (a b:List Int):PyData.eqv (.list (li a)) (.list (li b))=decide (a=b):=sf a b
theorem rH {ds:List Int} (h:ds≠[]):(li ds).getLast? = some (.int (cw ds)):=by
 unfold cw
 rw [List.getLast?_map,List.getLastD_eq_getLast?]
 cases e:ds.getLast? with
 | none=>exact absurd (List.getLast?_eq_none_iff.mp e) h
 | some x=>rfl
theorem sv (ds:List Int):(li ds).dropLast=li ds.dropLast:=by simp[List.map_dropLast]
theorem iZ {f:Addr}{fd:FuncData} (F:Fun K "_law_pop" "_law_pop" cq f fd):bF K fd ["_law_draws_here"] []:=F.binds (ps:=["_law_draws_here"]) fun _ _ _ _ _ _ us hl=>us1 (Q:=fun us=>bindArgs _ ⟨us,[]⟩=pure (List.zip _ us)) hl fun _=>rfl
theorem iI {f:Addr}{fd:FuncData} (F:Fun K "_law_pop" "_law_pop" cq f fd) (B:Bn mg):bW P w K mg base CX0 1 f fd ["_law_draws_here"] (spD K qB):=by
 refine okD (k:=0) F iA (fun ss R h=>?_) (by decide) (fun cdv A outer s H E hr=>⟨_,(bM (nu (bA (rP (K:=K) rfl hr.units) mEq (qv 0) (bX ae) (aT _)) (az (bP ai)) cV)
   (az (bP (vY 0 (K:=K) rfl rfl)))),fun ss R h=>?_⟩)
 ·obtain ⟨ds,rfl,_⟩:=h
  rfl
 obtain ⟨ds,rfl,q⟩:=h
 walk_at "dd"
 refine ⟨yo _,(Sh.ints 0 ds).shp (by decide),(Sh.ints 0 []).shp (by decide),?_⟩
 rw [show PyData.list []=PyData.list (li []) from rfl,pR]
 by_cases e:ds=[]
 ·subst e
  rw [if_pos (by simp)]
  exact q
 ·rw [if_neg (by simp[e])]
  exact ⟨_,rH e,by rw[sv];exact q⟩
theorem ve (ns:List Int) (a b:Option Int):oS (li ns) a b=li ((ns.drop (HT.sIx ns.length 0 a)).take (HT.sIx ns.length ns.length b - HT.sIx ns.length 0 a)):=by
 unfold oS
 show (List.drop _ (List.map PyData.int ns)).take _=List.map PyData.int _
 rw [xZ,List.map_take,List.map_drop]
theorem oR (ns:List Int) (c:Nat):oS (li ns) (some (c:Int)) none=li (ns.drop c):=by
 rw [ve,HT.sIx_none,HT.sIx_nat]
 by_cases h:c≤ns.length
 ·rw [Nat.min_eq_left h,yW (by simp)]
 ·rw [Nat.min_eq_right (by omega),yV (yl _),yV (by omega)]
  simp
noncomputable def RB (rs:List (List Int)):Prop:=rs.length≤1000∧∀ r∈rs,r.length≤1000
theorem cY {l:List (List Int)}{k:Nat} (h:k<l.length):l.getD k []∈l:=by
 rw [yd,x5 h]
 exact yO h
theorem RB.pl {rs:List (List Int)} (h:RB rs) (n:Nat):Pl (n+2) (.list (lr rs)):=Pl.lr n (by have:=h.1;omega) fun r hr=>by have:=h.2 r hr;omega
noncomputable abbrev cr:Stmt:=top 6
theorem dX:ay ["_law_cell", "_law_turn", "_law_number"] ["_law_cell", "_law_turn"] (af cr):=⟨rfl,rfl,rfl,by decide +kernel,rfl,by decide +kernel,by decide +kernel⟩
noncomputable def sN (c t:Int):Int:=(c % 2147483647+t*t*7919+104729)*48271 % 2147483647
noncomputable def kB (c t:Int):Int:=(sN c t*sN c t+69621*t) % 2147483629
theorem uo (c t:Int):0≤kB c t∧kB c t<2147483648:=by
 have b1:=yE (sN c t*sN c t+69621*t) (show (2147483629:Int)≠0 by decide)
 have b2:=yB (sN c t*sN c t+69621*t) (show (0:Int)<2147483629 by decide)
 unfold kB
 omega
noncomputable def tz:DSp:=fun ss R=>∃ c t:Int,ss=[.fr (.int c),.fr (.int t)]∧0≤t∧t<100000∧R (.fr (.int (kB c t))) [.un,.un]
theorem i0 {f:Addr}{fd:FuncData} (F:Fun K "_law_mix" "_law_mix" cr f fd):bF K fd ["_law_cell", "_law_turn"] []:=F.binds (ps:=["_law_cell", "_law_turn"]) fun _ _ _ _ _ _ us hl=>us2 (Q:=fun us=>bindArgs _ ⟨us,[]⟩=pure (List.zip _ us)) hl fun _ _=>rfl
theorem iJ {f:Addr}{fd:FuncData} (F:Fun K "_law_mix" "_law_mix" cr f fd) (B:Bn mg):bW P w K mg base CX0 1 f fd ["_law_cell", "_law_turn"] (spD K tz):=by
 refine okD (k:=0) F dX (fun ss R h=>?_) (by decide) (fun cdv A outer s H E hr=>⟨_,(bM (aW (i:=2) dX.nd rfl (Or.inl rfl) (a0 aQ mIC (a0 ff mIC (a0 bB mI (a0 bB mI (a0 aQ mIC (qv 0) ai) (a0 ff mIC (a0 ff mIC (qv 1) (qv 1)) ai)) ai) ai) ai))
   (az (bP (a0 aQ mIC (a0 bB mI (a0 ff mIC (qv 2) (qv 2)) (a0 ff mIC ai (qv 1))) ai)))),fun ss R h=>?_⟩)
 ·obtain ⟨c,t,rfl,_⟩:=h
  rfl
 obtain ⟨c,t,rfl,h0,h1,q⟩:=h
 walk_at "dd"
 have a1:=yE ((c % 2147483647+t*t*7919+104729)*48271) (show (2147483647:Int)≠0 by decide)
 have a2:=yB ((c % 2147483647+t*t*7919+104729)*48271) (show (0:Int)<2147483647 by decide)
 refine ⟨by decide,jV (by omega) (by omega),qa (by decide) (by decide),qa (by decide) (by decide),by decide,?_⟩
 exact ⟨jV (by omega) (by omega),jV (by decide) (by decide),by decide,q⟩
noncomputable abbrev bg:Stmt:=top 7
theorem ax:ay ["_law_script", "_law_turn", "_law_many", "_law_cells", "_law_found", "_law_k", "_law_at", "_law_number", "_law_cell"] ["_law_script", "_law_turn", "_law_many"] (af bg):=⟨rfl,rfl,rfl,by decide +kernel,rfl,by decide +kernel,by decide +kernel⟩
noncomputable def Ds (l:List Int):Prop:=∀ x∈l,0≤x∧x<2147483648
theorem Ds.app {l:List Int}{x:Int} (h:Ds l) (h0:0≤x) (h1:x<2147483648):Ds (l++[x]):=fun y hy=>by
 rcases x8.mp hy with hy|hy
 ·exact h y hy
 ·rw [x4.mp hy];exact⟨h0,h1⟩
theorem Ds.drop {l:List Int} (h:Ds l):Ds l.dropLast:=fun x hx=>h x (gw hx)
theorem Ds.pop {l:List Int} (h:Ds l):0≤cw l∧cw l<2147483648:=by
 unfold cw
 rw [List.getLastD_eq_getLast?]
 cases e:l.getLast? with
 | none=>exact⟨Int.le_refl 0,by decide⟩
 | some x=>exact h x (List.mem_of_getLast? e)
noncomputable def drG (cs:List Int):Nat→List Int×List Int
 | 0=>([],cs)
 | i+1=>((drG cs i).1++[(drG cs i).2.getD (i % (drG cs i).2.length) 0 % 1000003],(drG cs i).2.set (i % (drG cs i).2.length) ((drG cs i).2.getD (i % (drG cs i).2.length) 0 / 1000003))
noncomputable def drN (cs:List Int) (t:Nat):Nat→Int
 | 0=>t
 | i+1=>(drN cs t i*31+kB (cs.getD i 0) ((i:Int)+t)) % 2147483629
noncomputable def drF (ns:List Int) (t m:Nat):List Int :=
 if (ns++[(t:Int)]).getD 0 0 / 50000 % 2=1 then (drG (ns++[(t:Int)]) (t / 4+m)).1.drop (t / 4)
 else (List.range m).map fun k=>kB ((ns++[(t:Int)]).getD (k % (ns++[(t:Int)]).length) 0) (drN (ns++[(t:Int)]) t (ns++[(t:Int)]).length % 1009+(k:Int)+t)
theorem mi (cs:List Int):∀ i,(drG cs i).1.length=i∧(drG cs i).2.length=cs.length
 | 0=>⟨rfl,rfl⟩
 | i+1=>by
  obtain ⟨a,b⟩:=mi cs i
  exact ⟨by show (_++[_]).length=_;rw[yw,a];rfl,by show (List.set _ _ _).length=_;rw[ze,b]⟩
theorem pX (cs:List Int):∀ i,Ds (drG cs i).1
 | 0=>fun x hx=>by cases hx
 | i+1=>by
  have b1:=yE ((drG cs i).2.getD (i % (drG cs i).2.length) 0) (show (1000003:Int)≠0 by decide)
  have b2:=yB ((drG cs i).2.getD (i % (drG cs i).2.length) 0) (show (0:Int)<1000003 by decide)
  exact (pX cs i).app b1 (by omega)
theorem u6 (cs:List Int) (t:Nat) (ht:t≤5000):∀ i,0≤drN cs t i∧drN cs t i<2147483648
 | 0=>by show 0≤(t:Int)∧(t:Int)<2147483648;omega
 | i+1=>by
  have b1:=yE (drN cs t i*31+kB (cs.getD i 0) ((i:Int)+t)) (show (2147483629:Int)≠0 by decide)
  have b2:=yB (drN cs t i*31+kB (cs.getD i 0) ((i:Int)+t)) (show (0:Int)<2147483629 by decide)
  show 0≤(_ % _:Int)∧(_ % _:Int)<2147483648
  omega
theorem mj (ns:List Int) (t m:Nat):Ds (drF ns t m):=by
 unfold drF
 split
 ·exact fun x hx=>pX _ _ x (List.mem_of_mem_drop hx)
 ·intro x hx
  obtain ⟨k,_,rfl⟩:=yr.mp hx
  exact uo _ _
noncomputable def kU:DSp:=fun ss R=>∃ (ns:List Int) (t m:Nat),ss=[.fr (.list (li ns)),.fr (.int t),.fr (.int m)]∧ns.length≤63∧t≤5000∧m≤5000∧R (.ow (li (drF ns t m))) [.un,.un,.un]
theorem wM (ns:List Int) (h:ns.length≤63):oS (li ns) none (some 63)=li ns:=by
 unfold oS
 have e:HT.sIx (li ns).length (li ns).length (some 63)=min 63 (li ns).length:=HT.sIx_nat _ _ 63
 rw [e,HT.sIx_none,xZ,List.drop_zero,Nat.sub_zero,Nat.min_eq_right h]
 exact yW (by simp)
theorem fT {f:Addr}{fd:FuncData} (F:Fun K "_law_draws" "_law_draws" bg f fd):bF K fd ["_law_script", "_law_turn", "_law_many"] []:=F.binds (ps:=["_law_script", "_law_turn", "_law_many"]) fun _ _ _ _ _ _ us hl=>us3 (Q:=fun us=>bindArgs _ ⟨us,[]⟩=pure (List.zip _ us)) hl fun _ _ _=>rfl
theorem fC {f:Addr}{fd:FuncData} (F:Fun K "_law_draws" "_law_draws" bg f fd) (B:Bn mg) (G__law_mix:Cal P w K mg base "_law_mix" 1 (spD K tz)):bW P w K mg base CX0 2 f fd ["_law_script", "_law_turn", "_law_many"] (spD K kU):=by
 refine okD (k:=1) F ax (fun ss R h=>?_) (by decide) (fun cdv A outer s H E hr=>⟨_,(ar (aW (i:=3) ax.nd rfl (Or.inr rfl) (nr (d4 (K:=K) rfl) vy (tO (K:=K) rfl (qv 0) ll (lj ai)) (bX (aa (qf 1) ae))))
   (ar (nu (bA nF vx (a0 aQ mIC (a0 bN mIC (dB (aP (K:=K) rfl) mIx (qv 3) ai (fun _ _=>rfl)) ai) ai) ai (aT _)) (ar (aW (i:=4) ax.nd rfl (Or.inl rfl) (bX ae))
   (ar (gh PassesOwn.never rfl (dc rfl B.range (aa (a0 bB mI (a0 bN mIC (qv 1) ai) (qv 2)) ae)) (aw (i:=5) ax.nd rfl (Or.inl rfl)) (ar (aW (i:=6) ax.nd rfl (Or.inl rfl) (a0 aQ mIC (qv 5) (kc (mV (K:=K) rfl) mT rfl B.len PySem.boot_len (aa (qv 3) ae))))
   (ar (jt (qP 4 (K:=K) rfl rfl (a0 aQ mIC (dB (aP (K:=K) rfl) mIx (qv 3) (qv 6) (fun _ _=>rfl)) ai)))
   (az (qJ 3 rfl (qv 6) (a0 bN mIC (dB (aP (K:=K) rfl) mIx (qv 3) (qv 6) (fun _ _=>rfl)) ai))))))
   (az (bP (tO (K:=K) rfl (qv 4) (lj (a0 bN mIC (qv 1) ai)) ll))))) cV)
   (ar (aW (i:=7) ax.nd rfl (Or.inr rfl) (qf 1))
   (ar (gh PassesOwn.never rfl (lm false (K:=K) rfl rfl B.enumerate (aa (qf 3) ae)) (ln (K:=K) (n:=2) rfl rfl (cu (aw (i:=5) ax.nd rfl (Or.inl rfl)) (cu (aw (i:=8) ax.nd rfl (Or.inl rfl)) iD))) (az (aW (i:=7) ax.nd rfl (Or.inr rfl) (a0 aQ mIC (a0 bB mI (a0 ff mIC (qv 7) ai) (bp G__law_mix (hr.mono (by decide)) rfl (aa (qf 8) (aa (a0 bB mI (qv 5) (qv 1)) ae)))) ai))))
   (az (bP (dq (N':=["_law_k", "_law_turn", "_law_cells", "_law_number"]) (ix:=[none,some 1,some 3,some 7]) rfl (dk (N:=["_law_script", "_law_turn", "_law_many", "_law_cells", "_law_found", "_law_k", "_law_at", "_law_number", "_law_cell"]) (sc0:=af bg) rfl rfl (by decide +kernel)) (dc rfl B.range (aa (qv 2) ae)) (fun _ _ _ _=>(aw (i:=0) (show List.Nodup (["_law_k", "_law_turn", "_law_cells", "_law_number"]:List Str) by decide +kernel) rfl (Or.inl rfl))) (fun _ _ _ _=>cK) (fun _ _ _ _=>(bp G__law_mix (hr.mono (by decide)) rfl (aa (dB (aP (K:=K) rfl) mIx (qv 2) (a0 aQ mIC (qv 0) (kc (mV (K:=K) rfl) mT rfl B.len PySem.boot_len (aa (qv 2) ae))) (fun _ _=>rfl)) (aa (a0 bB mI (a0 bB mI (a0 aQ mIC (qv 3) ai) (qv 0)) (qv 1)) ae))))))))))),fun ss R h=>?_⟩)
 ·obtain ⟨ns,t,m,rfl,_⟩:=h
  rfl
 obtain ⟨ns,t,m,rfl,h63,ht,hm,q⟩:=h
 walk_at "dx"
 rw [wM ns h63]
 have ec:li ns++[PyData.int (t:Int)]=li (ns++[(t:Int)]):=by simp
 rw [ec]
 obtain ⟨cs,hcs⟩:∃ cs:List Int,cs=ns++[(t:Int)]:=⟨_,rfl⟩
 have hlen:cs.length=ns.length+1:=by rw[hcs];simp
 rw [←hcs]
 have qe:drF ns t m=if cs.getD 0 0 / 50000 % 2=1 then (drG cs (t / 4+m)).1.drop (t / 4) else (List.range m).map fun k=>kB (cs.getD (k % cs.length) 0) (drN cs t cs.length % 1009+(k:Int)+t):=by unfold drF;rw[←hcs]
 rw [qe] at q
 refine ⟨yg (by decide) ah,?_,?_⟩
 ·rw [xZ]
  exact yg (by omega) ah
 walk_at "dx"
 refine ⟨_,eJ (k:=0) (by omega),?_⟩
 walk_at "dx"
 refine ⟨⟨by decide,by decide⟩,by decide,on (fun h5=>?_) (fun h5=>?_)⟩
 ·rw [if_pos h5] at q
  have e4:(t:Int) / 4=((t / 4:Nat):Int):=rfl
  refine ⟨yo _,?_⟩
  walk_at "dx"
  refine ⟨⟨by decide,by decide⟩,by omega,by omega,bK (fun i env=>∃ (kv av:Sl),env=[.fr (.list (li ns)),.fr (.int t),.fr (.int m),.ow (li (drG cs i).2),.ow (li (drG cs i).1),kv,av,.un,.un]) ⟨_,_,rfl⟩ ?_ ?_⟩
  ·rintro i env hi ⟨kv,av,rfl⟩
   rw [am] at hi
   rw [bc]
   obtain ⟨g1,g2⟩:=mi cs i
   have eS:drG cs (i+1)=((drG cs i).1++[(drG cs i).2.getD (i % (drG cs i).2.length) 0 % 1000003],(drG cs i).2.set (i % (drG cs i).2.length) ((drG cs i).2.getD (i % (drG cs i).2.length) 0 / 1000003)):=rfl
   rw [eS]
   generalize (drG cs i).1=fs at *
   generalize (drG cs i).2=ls at *
   have hmod:i % ls.length<ls.length:=Nat.mod_lt _ (by omega)
   walk_at "dx"
   rw [xZ]
   have ei:((i:Nat):Int) % ((ls.length:Nat):Int)=((i % ls.length:Nat):Int):=rfl
   rw [ei]
   refine ⟨by omega,?_⟩
   walk_at "dx"
   refine ⟨_,eJ hmod,?_⟩
   walk_at "dx"
   refine ⟨by decide,by rw[xZ,g1];exact yi (by omega) ah,?_⟩
   walk_at "dx"
   refine ⟨_,eJ hmod,?_⟩
   walk_at "dx"
   exact ⟨⟨by decide,by decide⟩,_,rR (by rw[xZ];exact hmod),ur _ _ _,by simp⟩
  ·rintro env ⟨kv,av,rfl⟩
   rw [am,show ((t:Int) / 4+m).toNat=t / 4+m by omega]
   walk_at "dx"
   rw [e4,oR]
   exact ⟨⟨by decide,by decide⟩,q⟩
 ·rw [if_neg h5] at q
  walk_at "dx"
  refine bK (fun i env=>∃ (kv cv:Sl),env=[.fr (.list (li ns)),.fr (.int t),.fr (.int m),.fr (.list (li cs)),.un,kv,.un,.fr (.int (drN cs t i)),cv]) ⟨_,_,rfl⟩ ?_ ?_
  ·rintro i env hi ⟨kv,cv,rfl⟩
   rw [eh,cH]
   rw [bh,xZ] at hi
   have hb:=u6 cs t ht i
   walk_at "dx"
   refine ⟨jV (by omega +splitDisjunctions) (by omega +splitDisjunctions),_,_,rfl,by omega +splitDisjunctions,by omega +splitDisjunctions,?_⟩
   walk_at "dx"
   exact ⟨by decide,rfl⟩
  ·rintro env ⟨kv,cv,rfl⟩
   rw [bh,xZ]
   have hb:=u6 cs t ht cs.length
   walk_at "dx"
   refine ⟨by omega +splitDisjunctions,by omega +splitDisjunctions,gZ (fun k=>.int (kB (cs.getD (k % cs.length) 0) (drN cs t cs.length % 1009+(k:Int)+t))) (by rw[am];omega) (fun i hi Q hQ=>?_) ?_⟩
   ·rw [am] at hi
    rw [bc]
    walk_at "dx"
    rw [xZ]
    have hmod:i % cs.length<cs.length:=Nat.mod_lt _ (by omega)
    rw [show ((i:Nat):Int) % ((cs.length:Nat):Int)=((i % cs.length:Nat):Int) from rfl]
    have b1:=yE (drN cs t cs.length) (show (1009:Int)≠0 by decide)
    have b2:=yB (drN cs t cs.length) (show (0:Int)<1009 by decide)
    refine ⟨by omega,_,eJ hmod,by decide,_,_,rfl,by omega,by omega,?_⟩
    walk_at "dx"
    exact hQ
   ·rw [am,yI]
    walk_at "dx"
    have e:(List.range m).map (fun k:Nat=>PyData.int (kB (cs.getD (k % cs.length) 0) (drN cs t cs.length % 1009+(k:Int)+t)))=li ((List.range m).map fun k:Nat=>kB (cs.getD (k % cs.length) 0) (drN cs t cs.length % 1009+(k:Int)+t)):=by
     show _=List.map _ (List.map _ _)
     rw [yD]
     rfl
    rw [e]
    exact q
noncomputable abbrev aR:Stmt:=top 10
theorem aD:ay ["_law_draws_here", "_law_most", "_law_number", "_law_hands", "_law_left", "_law_spans", "_law_k"] ["_law_draws_here", "_law_most"] (af aR):=⟨rfl,rfl,rfl,by decide +kernel,rfl,by decide +kernel,by decide +kernel⟩
noncomputable def TB (s o:List Int):Prop:=1≤s.length∧s.length≤6∧1≤o.length∧o.length≤6∧(∀ x∈s,1≤x∧x≤12)∧(∀ x∈o,0≤x∧x≤6)∧(s.length≤4∨∀ x∈o,x≤2)
noncomputable def gi:List Int→Nat
 | []=>1
 | x::s=>x.toNat*gi s
theorem ke (s:List Int) (x:Int):gi (s++[x])=gi s*x.toNat:=by
 induction s with
 | nil=>show x.toNat*1=1*x.toNat;omega
 | cons y s ih=>show y.toNat*gi (s++[x])=y.toNat*gi s*x.toNat;rw[ih,Nat.mul_assoc]
theorem nS {L l q p:Nat} (h:L*p≤q) (hl:l≤L) (y:Nat) (e:L / y*y≤L):L / y*(p*y)≤q:=by
 rw [←Nat.mul_assoc,Nat.mul_right_comm]
 exact yg (Nat.mul_le_mul_right _ e) h
noncomputable def kg (f:Int→Int) (l:List Int):Nat→List Int×List Int
 | 0=>([],l)
 | i+1=>((kg f l i).1++[f (cw (kg f l i).2)],(kg f l i).2.dropLast)
noncomputable def mS (l:List Int):List Int×List Int:=kg (· % 3) l.dropLast (1+cw l % 3).toNat
noncomputable def vo (l:List Int):List Int:=if 0<cw l / 3 % 3 then (mS l).1.map (fun x=>1+x % 2) else (mS l).1
noncomputable def twH (l:List Int):List Int×List Int:=if cw l / 9 % 9=4 then kg (· % 7) (mS l).2 (1+cw l / 81 % 6).toNat else (vo l,(mS l).2)
noncomputable def twC (l:List Int):Int:=if cw l / 27 % 3=0 then 3 else if cw l / 27 % 3=1 then 4 else 6
noncomputable def twG (m:Nat) (h:List Int×List Int):Nat→List Int×Int×List Int
 | 0=>([],(m:Int) / (h.1.length:Int),h.2.dropLast)
 | i+1=>let g:=twG m h i;let y:=1+cw g.2.2 % (if g.2.1<12 then g.2.1 else 12);(g.1++[y],g.2.1 / y,g.2.2.dropLast)
noncomputable def twF (l:List Int) (m:Nat):List Int×Int×List Int:=twG m (twH l) (1+cw (twH l).2 % twC l).toNat
noncomputable def pc:DSp:=fun ss R=>∃ (l:List Int) (m:Nat),ss=[.io (li l),.fr (.int m)]∧Ds l∧6≤m∧m≤100000∧(Ds (twF l m).2.2→TB (twF l m).1 (twH l).1→(twH l).1.length*gi (twF l m).1≤m→R (.fr (.tuple [.list (li (twF l m).1),.list (li (twH l).1)])) [.io (li (twF l m).2.2),.un])
theorem o5 {α:Type} (xs:List α) (v:α):atI (xs++[v]) (-1)=some v:=by
 unfold atI ixN
 rw [if_neg (by decide),if_pos (by rw[yw];simp;omega)]
 show (xs++[v])[(-1+((xs++[v]).length:Int)).toNat]? = some v
 rw [show (-1+((xs++[v]).length:Int)).toNat=xs.length by rw[yw];simp;omega]
 simp
theorem ib {f:Addr}{fd:FuncData} (F:Fun K "_law_town" "_law_town" aR f fd):bF K fd ["_law_draws_here", "_law_most"] []:=F.binds (ps:=["_law_draws_here", "_law_most"]) fun _ _ _ _ _ _ us hl=>us2 (Q:=fun us=>bindArgs _ ⟨us,[]⟩=pure (List.zip _ us)) hl fun _ _=>rfl
theorem gp {f:Addr}{fd:FuncData} (F:Fun K "_law_town" "_law_town" aR f fd) (B:Bn mg) (G__law_pop:Cal P w K mg base "_law_pop" 1 (spD K qB)):bW P w K mg base CX0 2 f fd ["_law_draws_here", "_law_most"] (spD K pc):=by
 refine okD (k:=1) F aD (fun ss R h=>?_) (by decide) (fun cdv A outer s H E hr=>⟨_,(ar (aW (i:=2) aD.nd rfl (Or.inl rfl) (b9 0 G__law_pop (hr.mono (by decide)) rfl (aa (qv 0) ae)))
   (ar (fe (i:=3) 1 0 rfl aD.nd rfl rfl (N':=["_law_k", "_law_draws_here"]) (ix:=[none,some 0]) rfl (dk (N:=["_law_draws_here", "_law_most", "_law_number", "_law_hands", "_law_left", "_law_spans", "_law_k"]) (sc0:=af aR) rfl rfl (by decide +kernel)) (dc rfl B.range (aa (a0 bB mI ai (a0 aQ mIC (qv 2) ai)) ae)) (fun _ _ _ _=>(aw (i:=0) (show List.Nodup (["_law_k", "_law_draws_here"]:List Str) by decide +kernel) rfl (Or.inl rfl))) (fun _ _ _ _=>cK) (fun _ _ _ _=>(a0 aQ mIC (b9 0 G__law_pop (hr.mono (by decide)) rfl (aa (qv 1) ae)) ai)))
   (pz (nu (bA ui mB (a0 aQ mIC (a0 bN mIC (qv 2) ai) ai) ai (aT _)) (az (dY (i:=3)  aD.nd rfl rfl (N':=["_law_one"]) (ix:=[none]) rfl (dk (N:=["_law_draws_here", "_law_most", "_law_number", "_law_hands", "_law_left", "_law_spans", "_law_k"]) (sc0:=af aR) rfl rfl (by decide +kernel)) (bd (K:=K) rfl (qf 3)) (fun _ _ _ _=>(aw (i:=0) (show List.Nodup (["_law_one"]:List Str) by decide +kernel) rfl (Or.inl rfl))) (fun _ _ _ _=>cK) (fun _ _ _ _=>(a0 bB mI ai (a0 aQ mIC (qv 0) ai))))) cV)
   (pz (nu (bA nF vx (a0 aQ mIC (a0 bN mIC (qv 2) ai) ai) ai (aT _)) (az (fe (i:=3) 1 0 rfl aD.nd rfl rfl (N':=["_law_k", "_law_draws_here"]) (ix:=[none,some 0]) rfl (dk (N:=["_law_draws_here", "_law_most", "_law_number", "_law_hands", "_law_left", "_law_spans", "_law_k"]) (sc0:=af aR) rfl rfl (by decide +kernel)) (dc rfl B.range (aa (a0 bB mI ai (a0 aQ mIC (a0 bN mIC (qv 2) ai) ai)) ae)) (fun _ _ _ _=>(aw (i:=0) (show List.Nodup (["_law_k", "_law_draws_here"]:List Str) by decide +kernel) rfl (Or.inl rfl))) (fun _ _ _ _=>cK) (fun _ _ _ _=>(a0 aQ mIC (b9 0 G__law_pop (hr.mono (by decide)) rfl (aa (qv 1) ae)) ai)))) cV)
   (ar (aW (i:=4) aD.nd rfl (Or.inl rfl) (a0 bN mIC (qv 1) (kc (mV (K:=K) rfl) mT rfl B.len PySem.boot_len (aa (qv 3) ae))))
   (ar (aW (i:=5) aD.nd rfl (Or.inl rfl) (bX ae))
   (ar (gh PassesOwn.never rfl (dc rfl B.range (aa (a0 bB mI ai (a0 aQ mIC (b9 0 G__law_pop (hr.mono (by decide)) rfl (aa (qv 0) ae)) (dB (aP (K:=K) rfl) mIx (bX (aa ai (aa ai (aa ai ae)))) (a0 aQ mIC (a0 bN mIC (qv 2) ai) ai) (fun _ _=>rfl)))) ae)) (aw (i:=6) aD.nd rfl (Or.inl rfl)) (ar (jt (qP 5 (K:=K) rfl rfl (a0 bB mI ai (a0 aQ mIC (b9 0 G__law_pop (hr.mono (by decide)) rfl (aa (qv 0) ae)) (kc (eB rfl) wj rfl B.min PyProof.Rows.boot_min (aa ai (aa (qv 4) ae)))))))
   (az (aW (i:=4) aD.nd rfl (Or.inl rfl) (a0 bN mIC (qv 4) (dB (aP (K:=K) rfl) mIx (qv 5) (xz tm xC ai) (fun _ _=>rfl)))))))
   (az (bP (eO (aa (qf 5) (aa (qf 3) ae)))))))))))),fun ss R h=>?_⟩)
 ·obtain ⟨l,m,rfl,_⟩:=h
  rfl
 obtain ⟨l,m,rfl,dl,hm0,hm,q⟩:=h
 walk_at "dx"
 refine ⟨l,rfl,?_⟩
 walk_at "dx"
 have p0:=dl.pop
 have dl1:=dl.drop
 have eF:twF l m=twG m (twH l) (1+cw (twH l).2 % twC l).toNat:=rfl
 have eH:twH l=if cw l / 9 % 9=4 then kg (· % 7) (mS l).2 (1+cw l / 81 % 6).toNat else (vo l,(mS l).2):=rfl
 have eC:twC l=if cw l / 27 % 3=0 then 3 else if cw l / 27 % 3=1 then 4 else 6:=rfl
 have eH2:vo l=if 0<cw l / 3 % 3 then (mS l).1.map (fun x=>1+x % 2) else (mS l).1:=rfl
 have eH1:mS l=kg (· % 3) l.dropLast (1+cw l % 3).toNat:=rfl
 generalize twF l m=tF at *
 generalize twH l=tH at *
 generalize twC l=tC at *
 generalize vo l=tH2 at *
 generalize mS l=tH1 at *
 generalize cw l=num at *
 generalize l.dropLast=l1 at *
 refine ⟨by decide,by omega,by omega,fun i rs l=>∃ (hds l':List Int),rs=li hds∧l=li l'∧hds.length=i∧Ds l'∧(∀ x∈hds,0≤x∧x≤2)∧(hds,l')=kg (· % 3) l1 i,_,_,rfl,rfl,⟨[],l1,rfl,rfl,rfl,dl1,by simp,rfl⟩,?_,?_⟩
 ·rintro i rs l hi ⟨hds,l',rfl,rfl,hl,dl',hh,ep⟩
  rw [am] at hi
  rw [bc]
  refine ⟨by rw[xZ,hl];exact yi (by omega) ah,_,rfl,?_⟩
  walk_at "dx"
  refine ⟨l',rfl,?_⟩
  walk_at "dx"
  refine ⟨by decide,hds++[cw l' % 3],by simp,l'.dropLast,rfl,by simp[hl],dl'.drop,fun x hx=>?_,by show _=((kg _ _ i).1++[_],(kg _ _ i).2.dropLast);rw[←ep]⟩
  rcases x8.mp hx with hx|hx
  ·exact hh x hx
  ·rw [x4.mp hx];omega
 rintro rs l ⟨hds,l2,rfl,rfl,hl,dl2,hh,ep⟩
 rw [am] at hl ep
 rw [←eH1] at ep
 refine ⟨_,rfl,?_⟩
 walk_at "dx"
 refine ⟨fun env=>∃ hs:List Int,env=[.io (li l2),.fr (.int m),.fr (.int num),.ow (li hs),.un,.un,.un]∧1≤hs.length∧hs.length≤6∧(∀ x∈hs,0≤x∧x≤2)∧hs=tH2,?_,?_⟩
 ·walk_at "dx"
  refine ⟨⟨by decide,by decide⟩,by decide,on (fun hp=>?_) (fun hp=>⟨hds,rfl,by omega,by omega,hh,by rw[eH2,if_neg hp,←ep]⟩)⟩
  refine gZ (fun i=>.int (1+hds.getD i 0 % 2)) (by rw[xZ];omega) (fun i hi Q hQ=>?_) ?_
  ·rw [cH]
   walk_at "dx"
   exact ⟨by decide,hQ⟩
  ·rw [xZ,db hds 0 (fun x=>PyData.int (1+x % 2))]
   walk_at "dx"
   refine ⟨hds.map (fun x=>1+x % 2),by simp,by simp;omega,by simp;omega,fun x hx=>?_,by rw[eH2,if_pos hp,←ep]⟩
   obtain ⟨y,_,rfl⟩:=yr.mp hx
   omega
 rintro env ⟨hs,rfl,h1,h6,hhs,ehs⟩
 refine ⟨fun env=>∃ (hs l3:List Int),env=[.io (li l3),.fr (.int m),.fr (.int num),.ow (li hs),.un,.un,.un]∧Ds l3∧1≤hs.length∧hs.length≤6∧(∀ x∈hs,0≤x∧x≤6)∧(num / 27 % 3=1∨∀ x∈hs,x≤2)∧(hs,l3)=tH,?_,?_⟩
 ·walk_at "dx"
  refine ⟨⟨by decide,by decide⟩,by decide,on (fun c4=>?_) (fun c4=>⟨hs,l2,rfl,rfl,dl2,h1,h6,fun x hx=>by have:=hhs x hx;omega,.inr fun x hx=>(hhs x hx).2,by rw[eH,if_neg c4,ehs,←ep]⟩)⟩
  refine ⟨⟨by decide,by decide⟩,by decide,by omega,by omega,fun i rs l=>∃ (hds l':List Int),rs=li hds∧l=li l'∧hds.length=i∧Ds l'∧(∀ x∈hds,0≤x∧x≤6)∧(hds,l')=kg (· % 7) l2 i,_,_,rfl,rfl,⟨[],l2,rfl,rfl,rfl,dl2,by simp,rfl⟩,?_,?_⟩
  ·rintro i rs l hi ⟨hds,l',rfl,rfl,hl,dl',hh,ep7⟩
   rw [am] at hi
   rw [bc]
   refine ⟨by rw[xZ,hl];exact yi (by omega) ah,_,rfl,?_⟩
   walk_at "dx"
   refine ⟨l',rfl,?_⟩
   walk_at "dx"
   refine ⟨by decide,hds++[cw l' % 7],by simp,l'.dropLast,rfl,by simp[hl],dl'.drop,fun x hx=>?_,by show _=((kg _ _ i).1++[_],(kg _ _ i).2.dropLast);rw[←ep7]⟩
   rcases x8.mp hx with hx|hx
   ·exact hh x hx
   ·rw [x4.mp hx];omega
  rintro rs l ⟨hd2,l3,rfl,rfl,hl,dl3,hh,ep7⟩
  rw [am] at hl ep7
  refine ⟨_,rfl,?_⟩
  walk_at "dx"
  exact ⟨hd2,l3,rfl,rfl,dl3,by omega,by omega,hh,.inl (by omega),by rw[eH,if_pos c4,←ep];exact ep7⟩
 rintro env ⟨hs,l3,rfl,dl3,h1,h6,hh6,h27,etH⟩
 walk_at "dx"
 rw [xZ]
 obtain ⟨c,ec,c3,c6,c4,etC⟩:∃ c:Int,atI [PyData.int 3,PyData.int 4,PyData.int 6] (num / 27 % 3)=some (.int c)∧3≤c∧c≤6∧(num / 27 % 3=1→c=4)∧c=tC:=by
  have:num / 27 % 3=0∨num / 27 % 3=1∨num / 27 % 3=2:=by omega
  rcases this with e|e|e
  ·rw [e] at eC ⊢;exact⟨3,rfl,by decide,by decide,by decide,by rw[eC];rfl⟩
  ·rw [e] at eC ⊢;exact⟨4,rfl,by decide,by decide,fun _=>rfl,by rw[eC];rfl⟩
  ·rw [e] at eC ⊢;exact⟨6,rfl,by decide,by decide,by decide,by rw[eC];rfl⟩
 have hp:=dl3.pop
 have hd4:=dl3.drop
 refine ⟨⟨by omega +splitDisjunctions,by omega +splitDisjunctions⟩,?_⟩
 walk_at "dx"
 refine ⟨yo _,?_⟩
 walk_at "dx"
 refine ⟨l3,rfl,?_⟩
 walk_at "dx"
 refine ⟨yg (by decide) ah,⟨by decide,by decide⟩,by decide,_,ec,_,rfl,by omega +splitDisjunctions,?_⟩
 have eG0:twG m tH 0=([],(m:Int) / (hs.length:Int),l3.dropLast):=by rw[←etH];rfl
 have ecn:1+cw tH.2 % tC=1+cw l3 % c:=by rw[←etH,etC]
 rw [ecn] at eF
 generalize cw l3=p3 at *
 generalize l3.dropLast=l4 at *
 have u0:=yE p3 (show c≠0 by omega)
 have u1:=yB p3 (show 0<c by omega)
 have m1:1≤(m:Int) / (hs.length:Int):=by
  rw [Int.le_ediv_iff_mul_le (by omega)]
  omega
 have m2:hs.length*(((m:Int) / (hs.length:Int)).toNat*gi [])≤m:=by
  show hs.length*(((m / hs.length:Nat):Int).toNat*1)≤m
  rw [yI,Nat.mul_one]
  exact Nat.mul_div_le _ _
 refine ⟨by omega,by omega,bK (fun i env=>∃ (l sp:List Int) (left:Int) (kv:Sl),env=[.io (li l),.fr (.int m),.fr (.int num),.ow (li hs),.fr (.int left),.ow (li sp),kv]∧Ds l∧sp.length=i∧1≤left∧hs.length*(left.toNat*gi sp)≤m∧(∀ x∈sp,1≤x∧x≤12)∧twG m tH i=(sp,left,l)) ⟨l4,[],_,_,rfl,hd4,rfl,m1,m2,by simp,eG0⟩ ?_ ?_⟩
 ·rintro i env hi ⟨l,sp,left,kv,rfl,dl,hl,l1,hpr,hsp,eg⟩
  rw [am] at hi
  rw [bc]
  walk_at "dx"
  refine ⟨l,rfl,?_⟩
  walk_at "dx"
  have dl':=dl.drop
  have eg1:twG m tH (i+1)=(sp++[1+cw l % (if left<12 then left else 12)],left / (1+cw l % (if left<12 then left else 12)),l.dropLast):=by
   show ((twG m tH i).1++[_],_,_)=_
   rw [eg]
  generalize cw l=p at *
  generalize l.dropLast=l5 at *
  obtain ⟨w,hw⟩:∃ w:Int,w=if left<12 then left else 12:=⟨_,rfl⟩
  rw [←hw]
  rw [←hw] at eg1
  have w1:1≤w∧w≤12∧w≤left:=by
   rw [hw]
   split <;> omega
  have y0:=yE p (show w≠0 by omega)
  have y1:=yB p (show 0<w by omega)
  generalize p % w=y at *
  refine ⟨by omega,by rw[xZ,hl];exact yi (by omega) ah,?_⟩
  walk_at "dx"
  refine ⟨_,o5 _ _,_,rfl,⟨by omega,by omega⟩,l5,rfl,sp++[1+y],by simp,dl',by simp[hl],?_,?_,fun x hx=>?_,eg1⟩
  ·rw [Int.le_ediv_iff_mul_le (by omega)]
   omega
  ·rw [ke]
   refine yg (Nat.mul_le_mul_left _ ?_) hpr
   obtain ⟨L,rfl⟩:∃ L:Nat,left=(L:Int):=⟨left.toNat,by omega⟩
   obtain ⟨Y,hY⟩:∃ Y:Nat,1+y=(Y:Int):=⟨(1+y).toNat,by omega⟩
   rw [hY,show ((L:Int) / (Y:Int)).toNat=L / Y from rfl,yI,yI]
   exact nS (l:=0) (yl _) (yo _) Y (Nat.div_mul_le_self L Y)
  ·rcases x8.mp hx with hx|hx
   ·exact hsp x hx
   ·rw [x4.mp hx];omega
 ·rintro env ⟨l,sp,left,kv,rfl,dl,hl,l1,hpr,hsp,eg⟩
  rw [am] at hl eg
  rw [←eF] at eg
  rw [eg,←etH] at q
  dsimp only at q
  walk_at "dx"
  refine ⟨yg (by decide) ah,q dl ⟨by omega,by omega,h1,h6,hsp,hh6,?_⟩ (yg (Nat.mul_le_mul_left _ (Nat.le_mul_of_pos_left _ (by omega))) hpr)⟩
  rcases h27 with h|h
  ·have:=c4 h
   exact .inl (by omega)
  ·exact .inr h
noncomputable def bL:Nat→List (List Int)
 | 0=>[[]]
 | k+1=>bL k++(bL k).map (·++[(k:Int)])
noncomputable def bE (l:List Int) (n:Nat):List Int:=((List.range n).filter fun i=>decide (l.getD i 0=1)).map (Nat.cast:Nat→Int)
noncomputable def aZ (h:Int) (due r:List Int):Bool:=decide ((r.length:Int)≤h)&&decide ((due.filter fun c=>decide (c ∉ r))=[])
noncomputable def fJ (n:Nat) (h:Int) (l:List Int):List (List Int):=(bL n).filter (aZ h (bE l n))
noncomputable def kC (r:List Int):PyData:=.tuple [.int r.length,.list (li r)]
theorem cS:∀ n,(bL n).length=2 ^ n
 | 0=>rfl
 | n+1=>by
  show (bL n++(bL n).map _).length=_
  rw [yw,xZ,cS n,Nat.pow_succ]
  omega
theorem bt:∀ n,∀ r∈bL n,r.length≤n∧r.Pairwise (·<·)∧∀ x∈r,0≤x∧x<n
 | 0,r,h=>by
  rw [x4.mp h]
  simp
 | n + 1,r,h=>by
  rcases x8.mp h with h|h
  ·obtain ⟨a,b,c⟩:=bt n r h
   exact ⟨by omega,b,fun x hx=>by have:=c x hx;omega⟩
  ·obtain ⟨r',h',rfl⟩:=yr.mp h
   obtain ⟨a,b,c⟩:=bt n r' h'
   refine ⟨by simp;omega,List.pairwise_append.mpr ⟨b,by simp,fun x hx y hy=>?_⟩,fun x hx=>?_⟩
   ·rw [x4.mp hy]
    have:=c x hx
    omega
   ·rcases x8.mp hx with hx|hx
    ·have:=c x hx;omega
    ·rw [x4.mp hx];omega
theorem dz {α:Type}{p q:α→Bool} (h:∀ x,p x=true→q x=true):∀ l:List α,(l.filter p).length≤(l.filter q).length
 | []=>yl _
 | x :: l=>by
  have ih:=dz h l
  by_cases hp:p x=true
  ·rw [yS hp,yS (h x hp)]
   simpa using ih
  ·rw [List.filter_cons_of_neg hp]
   by_cases hq:q x=true
   ·rw [yS hq];simp;omega
   ·rw [List.filter_cons_of_neg hq];exact ih
theorem fH {n:Nat}{h:Int}{l:List Int} (hn:n≤6) (hh:n≤4∨h≤3):(fJ n h l).length<64:=by
 rcases hh with h4|h2
 ·have a:=yJ (aZ h (bE l n)) (bL n)
  rw [cS] at a
  have:2 ^ n≤2 ^ 4:=yQ (by decide) h4
  unfold fJ
  omega
 ·have a:(fJ n h l).length≤((bL n).filter fun r=>decide (r.length≤3)).length:=dz (fun r hr=>by
   unfold aZ at hr
   rw [yG,decide_eq_true_eq] at hr
   rw [decide_eq_true_eq]
   omega) _
  have b:∀ n:Nat,n≤6→((bL n).filter fun r=>decide (r.length≤3)).length≤42:=by
   intro n hn
   match n,hn with
   | 0,_=>decide
   | 1,_=>decide
   | 2,_=>decide
   | 3,_=>decide
   | 4,_=>decide
   | 5,_=>decide +kernel
   | 6,_=>decide +kernel
  have:=b n hn
  omega
theorem cb {l:List Int}{k:Nat} (h:k<l.length):l.getD k 0∈l:=by
 rw [yd,x5 h]
 exact yO h
noncomputable def StB (s o:List Int) (d:Nat) (l:List Int):Prop:=d<o.length∧l.length=s.length
noncomputable def chs (h:Int) (l:List Int):Nat→List (List Int)
 | 0=>[[]]
 | k+1=>if l.getD k 0=1 then ((chs h l k).filter fun r=>decide ((r.length:Int)<h)).map (·++[(k:Int)]) else chs h l k++((chs h l k).filter fun r=>decide ((r.length:Int)<h)).map (·++[(k:Int)])
theorem cZ (l:List Int) (k:Nat):bE l (k+1)=bE l k++(if l.getD k 0=1 then [(k:Int)] else []):=by
 unfold bE
 rw [zf,yF,yN]
 congr 1
 by_cases h:l.getD k 0=1
 ·rw [if_pos h,yS (by simpa using h)]
  rfl
 ·rw [if_neg h,List.filter_cons_of_neg (by simpa using h)]
  rfl
theorem mh {l:List Int}{k:Nat}{x:Int} (h:x∈bE l k):0≤x∧x<k:=by
 unfold bE at h
 obtain ⟨i,hi,rfl⟩:=yr.mp h
 have:=List.mem_range.mp (yY.mp hi).1
 omega
theorem eA (h:Int) (hh:0≤h) (l:List Int):∀ k,chs h l k=fJ k h l
 | 0 => by
  show [[]]=List.filter _ [[]]
  rw [yS]
  ·rfl
  ·show aZ h (bE l 0) []=true
   unfold aZ bE
   simp [hh]
 | k + 1=>by
  have ih:=eA h hh l k
  have e1:((bL k).map (·++[(k:Int)])).filter (aZ h (bE l (k+1)))=((fJ k h l).filter fun r=>decide ((r.length:Int)<h)).map (·++[(k:Int)]):=by
   unfold fJ
   rw [List.filter_map,List.filter_filter]
   congr 1
   refine List.filter_congr fun r hr=>?_
   have hr':=bt k r hr
   show aZ h (bE l (k+1)) (r++[(k:Int)])=_
   unfold aZ
   rw [cZ]
   have e2:(List.filter (fun c=>decide (c ∉ r++[(k:Int)])) (bE l k++if l.getD k 0=1 then [(k:Int)] else []))=List.filter (fun c=>decide (c ∉ r)) (bE l k):=by
    rw [yF]
    have e3:List.filter (fun c=>decide (c ∉ r++[(k:Int)])) (if l.getD k 0=1 then [(k:Int)] else [])=[]:=by split <;> simp
    rw [e3,yu]
    refine List.filter_congr fun c hc=>?_
    have:=mh hc
    have hne:c≠(k:Int):=by omega
    simp [hne]
   rw [e2]
   have e4:decide (((r++[(k:Int)]).length:Int)≤h)=(decide ((r.length:Int)<h)&&decide ((r.length:Int)≤h)):=by
    rw [yw,yX]
    by_cases c:(r.length:Int)<h
    ·have c2:(r.length:Int)≤h:=by omega
     have c3:((r.length+1:Nat):Int)≤h:=by omega
     rw [decide_eq_true c,decide_eq_true c2,decide_eq_true c3];rfl
    ·have c3:¬((r.length+1:Nat):Int)≤h:=by omega
     rw [decide_eq_false c,decide_eq_false c3];rfl
   rw [e4,Bool.and_assoc]
  have e2:(bL k).filter (aZ h (bE l (k+1)))=if l.getD k 0=1 then [] else fJ k h l:=by
   split
   ·rename_i h1
    refine zg.mpr fun r hr=>?_
    have hr':=bt k r hr
    unfold aZ
    rw [cZ,if_pos h1,yF]
    have hn:(k:Int) ∉ r:=fun z=>by have:=hr'.2.2 _ z;omega
    simp [hn]
   ·rename_i h1
    unfold fJ
    rw [cZ,if_neg h1,yu]
  show (if l.getD k 0=1 then _ else _)=List.filter _ (bL k++(bL k).map (·++[(k:Int)]))
  rw [yF,e1,e2,ih]
  split
  ·rw [List.nil_append]
  ·rfl
noncomputable def mU (r:List Int):Int×List Int:=((r.length:Int),r)
noncomputable def chX (n:Nat) (h:Int) (l:List Int):List (List Int):=pick (aU ((fJ n h l).map mU)) (fJ n h l) []
theorem dO (n:Nat) (h:Int) (l:List Int):(chX n h l).Perm (fJ n h l):=lC (by have:=bO ((fJ n h l).map mU);rwa [xZ] at this)
theorem n0 (rr:List (List Int)):(lr rr).map (fun d=>bI (iO d))=rr.map mU:=by
 show (List.map _ (List.map _ rr))=_
 rw [yD]
 refine za fun r _=>?_
 show bI (iO (.list (li r)))=mU r
 unfold iO bI mU
 simp only [be,Option.getD_some,xZ]
theorem rD {rr:List (List Int)}{p:List Nat} (h:∀ i∈p,i<rr.length):pick p (lr rr) .none=lr (pick p rr []):=by
 unfold pick
 show _=List.map _ (List.map _ p)
 rw [yD]
 refine za fun i hi=>?_
 have:=h i hi
 simp [yd,this]
noncomputable abbrev aL:Stmt:=top 12
theorem aK:ay ["_law_town_here", "_law_standing_here", "_law_found", "_law_clocks", "_law_due", "_law_rows_here", "_law_clock", "_law_row"] ["_law_town_here", "_law_standing_here"] (af aL):=⟨rfl,rfl,rfl,by decide +kernel,rfl,by decide +kernel,by decide +kernel⟩
noncomputable def pe:DSp:=fun ss R=>∃ (s o l:List Int) (d:Nat),ss=[.fr (.tuple [.list (li s),.list (li o)]),.fr (.tuple [.int d,.tuple (li l)])]∧TB s o∧StB s o d l ∧
 R (.ow (lr (chX s.length (o.getD d 0) l))) [.un,.un]
theorem ie {f:Addr}{fd:FuncData} (F:Fun K "_law_rows" "_law_rows" aL f fd):bF K fd ["_law_town_here", "_law_standing_here"] []:=F.binds (ps:=["_law_town_here", "_law_standing_here"]) fun _ _ _ _ _ _ us hl=>us2 (Q:=fun us=>bindArgs _ ⟨us,[]⟩=pure (List.zip _ us)) hl fun _ _=>rfl
theorem gr {f:Addr}{fd:FuncData} (F:Fun K "_law_rows" "_law_rows" aL f fd) (B:Bn mg):bW P w K mg base CX0 1 f fd ["_law_town_here", "_law_standing_here"] (spD K pe):=by
 refine okD (k:=0) F aK (fun ss R h=>?_) (by decide) (fun cdv A outer s H E hr=>⟨_,(ar (aW (i:=2) aK.nd rfl (Or.inl rfl) (bX ae))
   (ar (dY (i:=3)  aK.nd rfl rfl (N':=["_law_clock"]) (ix:=[none]) rfl (dk (N:=["_law_town_here", "_law_standing_here", "_law_found", "_law_clocks", "_law_due", "_law_rows_here", "_law_clock", "_law_row"]) (sc0:=af aL) rfl rfl (by decide +kernel)) (dc rfl B.range (aa (kc (mV (K:=K) rfl) mT rfl B.len PySem.boot_len (aa (dB (aP (K:=K) rfl) mIx (qv 0) ai (fun _ _=>rfl)) ae)) ae)) (fun _ _ _ _=>(aw (i:=0) (show List.Nodup (["_law_clock"]:List Str) by decide +kernel) rfl (Or.inl rfl))) (fun _ _ _ _=>cK) (fun _ _ _ _=>(qf 0)))
   (ar (dY (i:=4)  aK.nd rfl rfl (N':=["_law_clock", "_law_standing_here"]) (ix:=[none,some 1]) rfl (dk (N:=["_law_town_here", "_law_standing_here", "_law_found", "_law_clocks", "_law_due", "_law_rows_here", "_law_clock", "_law_row"]) (sc0:=af aL) rfl rfl (by decide +kernel)) (bd (K:=K) rfl (qf 3)) (fun _ _ _ _=>(aw (i:=0) (show List.Nodup (["_law_clock", "_law_standing_here"]:List Str) by decide +kernel) rfl (Or.inl rfl))) (fun _ _ _ _=>(cJ (bA nF vx (dB (aP (K:=K) rfl) mIx (dB (aP (K:=K) rfl) mIx (qv 1) ai (fun _ _=>rfl)) (qv 0) (fun _ _=>rfl)) ai (aT _)))) (fun _ _ _ _=>(qf 0)))
   (ar (aW (i:=5) aK.nd rfl (Or.inl rfl) (bX (aa (bX ae) ae)))
   (ar (gh PassesOwn.never rfl (bd (K:=K) rfl (qf 3)) (aw (i:=6) aK.nd rfl (Or.inr rfl)) (az (aW (i:=5) aK.nd rfl (Or.inl rfl) (nr (d4 (K:=K) rfl) vy (qv 5) (dq (N':=["_law_row", "_law_clock"]) (ix:=[none,some 6]) rfl (dk (N:=["_law_town_here", "_law_standing_here", "_law_found", "_law_clocks", "_law_due", "_law_rows_here", "_law_clock", "_law_row"]) (sc0:=af aL) rfl rfl (by decide +kernel)) (bd (K:=K) rfl (qf 5)) (fun _ _ _ _=>(aw (i:=0) (show List.Nodup (["_law_row", "_law_clock"]:List Str) by decide +kernel) rfl (Or.inl rfl))) (fun _ _ _ _=>cK) (fun _ _ _ _=>(nr (d4 (K:=K) rfl) vy (qv 0) (bX (aa (qf 1) ae)))))))))
   (ar (gh PassesOwn.never rfl (bd (K:=K) rfl (qf 5)) (aw (i:=7) aK.nd rfl (Or.inr rfl)) (az (nu (PW.pt (tK (bA wd mB (kc (mV (K:=K) rfl) mT rfl B.len PySem.boot_len (aa (qv 7) ae)) (dB (aP (K:=K) rfl) mIx (dB (aP (K:=K) rfl) mIx (qv 0) ai (fun _ _=>rfl)) (dB (aP (K:=K) rfl) mIx (qv 1) ai (fun _ _=>rfl)) (fun _ _=>rfl)) (aT _)) (qG (bA (rP (K:=K) rfl hr.units) mEq (dq (N':=["_law_clock", "_law_row"]) (ix:=[none,some 7]) rfl (dk (N:=["_law_town_here", "_law_standing_here", "_law_found", "_law_clocks", "_law_due", "_law_rows_here", "_law_clock", "_law_row"]) (sc0:=af aL) rfl rfl (by decide +kernel)) (bd (K:=K) rfl (qf 4)) (fun _ _ _ _=>(aw (i:=0) (show List.Nodup (["_law_clock", "_law_row"]:List Str) by decide +kernel) rfl (Or.inl rfl))) (fun _ _ _ _=>(cJ (bA (uD (K:=K) rfl) uq (qv 0) (qv 1) (by with_unfolding_all rfl)))) (fun _ _ _ _=>(qf 0))) (bX ae) (aT _))))) (az (jt (qP 2 (K:=K) rfl rfl (eO (aa (kc (mV (K:=K) rfl) mT rfl B.len PySem.boot_len (aa (qv 7) ae)) (aa (qf 7) ae)))))) cV)))
   (az (bP (dq (N':=["_law_many", "_law_row"]) (ix:=[none,none]) rfl (dk (N:=["_law_town_here", "_law_standing_here", "_law_found", "_law_clocks", "_law_due", "_law_rows_here", "_law_clock", "_law_row"]) (sc0:=af aL) rfl rfl (by decide +kernel)) (bd (K:=K) rfl (tM (K:=K) rfl (tE hr) rfl B.sorted (aa (qv 2) ae))) (fun _ _ _ _=>(ln (K:=K) (n:=2) rfl rfl (cu (aw (i:=0) (show List.Nodup (["_law_many", "_law_row"]:List Str) by decide +kernel) rfl (Or.inl rfl)) (cu (aw (i:=1) (show List.Nodup (["_law_many", "_law_row"]:List Str) by decide +kernel) rfl (Or.inl rfl)) iD)))) (fun _ _ _ _=>cK) (fun _ _ _ _=>(qf 1))))))))))),fun ss R h=>?_⟩)
 ·obtain ⟨s,o,l,d,rfl,_⟩:=h
  rfl
 obtain ⟨s,o,l,d,rfl,tb,sb,q⟩:=h
 obtain ⟨t1,t2,t3,t4,t5,t6,t7⟩:=tb
 obtain ⟨s1,s2⟩:=sb
 walk_at "dx"
 refine ⟨yo _,?_⟩
 walk_at "dx"
 rw [xZ]
 refine ⟨by omega,by omega,gZ (fun i=>.int (i:Int)) (by rw[am];omega) (fun i hi Q hQ=>?_) ?_⟩
 ·rw [bc]
  walk_at "dx"
  exact hQ
 rw [am,yI,nP]
 walk_at "dx"
 refine bQ (fun i=>decide (l.getD i 0=1)) (fun i=>.int (i:Int)) (by simp;omega) (fun i hi Q Q' h1 h2=>?_) ?_
 ·rw [xZ,xZ,yC] at hi
  rw [cH]
  have ei:(List.map (Nat.cast:Nat→Int) (List.range s.length)).getD i 0=(i:Int):=by simp[yd,hi]
  rw [ei]
  walk_at "dx"
  refine ⟨_,eJ (k:=i) (by omega),?_⟩
  walk_at "dx"
  exact on (fun h=>h1 (by simpa using h)) (fun h=>h2 (by simpa using h))
 walk_at "dx"
 have ed:List.map (fun (i:Nat)=>PyData.int (i:Int)) (List.filter (fun (i:Nat)=>decide (l.getD i 0=1)) (List.range (li (List.map (Nat.cast:Nat→Int) (List.range s.length))).length))=li (bE l s.length):=by
  rw [xZ,xZ,yC]
  unfold bE
  show _=List.map _ (List.map _ _)
  rw [yD]
  rfl
 rw [ed]
 refine ⟨yo _,yg (by decide) ah,?_⟩
 walk_at "dx"
 refine bK (fun i env=>∃ cv:Sl,env=[.fr (.tuple [.list (li s),.list (li o)]),.fr (.tuple [.int d,.tuple (li l)]),.ow [],.fr (.list (li (List.map (Nat.cast:Nat→Int) (List.range s.length)))),.ow (li (bE l s.length)),.ow (lr (bL i)),cv,.un]) ⟨_,rfl⟩ ?_ ?_
 ·rintro i env hi ⟨cv,rfl⟩
  rw [xZ,xZ,yC] at hi
  rw [cH]
  have ei:(List.map (Nat.cast:Nat→Int) (List.range s.length)).getD i 0=(i:Int):=by simp[yd,hi]
  rw [ei]
  have hz:(bL i).length≤32:=by
   rw [cS]
   have:2 ^ i≤2 ^ 5:=yQ (by decide) (by omega)
   omega
  walk_at "dx"
  refine gZ (fun j=>.list (li ((bL i).getD j []++[(i:Int)]))) (by rw[xZ];omega) (fun j hj Q hQ=>?_) ?_
  ·rw [xZ] at hj
   rw [gx]
   have hr:=(bt i _ (cY (l:=bL i) hj)).1
   walk_at "dx"
   refine ⟨yg (by decide) ah,by rw[xZ];exact yg (by omega) ah,?_⟩
   rw [iN]
   exact hQ
  ·rw [xZ,db (bL i) [] (fun r=>PyData.list (li (r++[(i:Int)])))]
   have e:lr (bL i)++(bL i).map (fun r=>PyData.list (li (r++[(i:Int)])))=lr (bL (i+1)):=by
    show _=List.map _ (bL i++_)
    rw [yN,yD]
    rfl
   walk_at "dx"
   rw [e]
   refine ⟨?_,rfl⟩
   rw [xZ,xZ]
   exact yg (by omega) ah
 rintro env ⟨cv,rfl⟩
 rw [xZ,xZ,yC]
 walk_at "dx"
 refine bK (fun i env=>∃ rv dv:Sl,env=[.fr (.tuple [.list (li s),.list (li o)]),.fr (.tuple [.int d,.tuple (li l)]),.ow ((((bL s.length).take i).filter (aZ (o.getD d 0) (bE l s.length))).map kC),.fr (.list (li (List.map (Nat.cast:Nat→Int) (List.range s.length)))),dv,.fr (.list (lr (bL s.length))),cv,rv]∧(dv=.ow (li (bE l s.length))∨dv=.fr (.list (li (bE l s.length))))) ⟨_,_,rfl,.inl rfl⟩ ?_ ?_
 ·rintro i env hi ⟨rv,dv,rfl,hdv⟩
  rw [xZ] at hi
  rw [gx]
  have hm:=cY (l:=bL s.length) hi
  obtain ⟨r1,r2,r3⟩:=bt _ _ hm
  have et:((bL s.length).take (i+1)).filter (aZ (o.getD d 0) (bE l s.length))=((bL s.length).take i).filter (aZ (o.getD d 0) (bE l s.length))++(if aZ (o.getD d 0) (bE l s.length) ((bL s.length).getD i [])=true then [(bL s.length).getD i []] else []):=by
   have eg:(bL s.length).getD i []=(bL s.length)[i]:=by simp[yd,hi]
   rw [zj,x5 hi,eg,yF]
   show _++List.filter _ [_]=_
   generalize o.getD d 0=oh
   cases hg:aZ oh (bE l s.length) (bL s.length)[i] <;> simp[hg]
  rw [et]
  have hz:(((bL s.length).take i).filter (aZ (o.getD d 0) (bE l s.length))).length≤64:=by
   refine yg (yJ _ _) ?_
   rw [List.length_take,cS]
   have:2 ^ s.length≤2 ^ 6:=yQ (by decide) t2
   omega
  generalize ((bL s.length).take i).filter (aZ (o.getD d 0) (bE l s.length))=fs at *
  generalize (bL s.length).getD i []=r at *
  have hdz:(bE l s.length).length≤6:=by
   unfold bE
   rw [xZ]
   refine yg (yJ _ _) ?_
   rw [yC]
   exact t2
  rcases hdv with rfl|rfl
  all_goals
   walk_at "dx"
   refine ⟨_,eJ s1,?_⟩
   walk_at "dx"
   rw [xZ]
   refine on (fun hlen=>?_) (fun hlen=>?_)
   rotate_left
   ·have eg:aZ (o.getD d 0) (bE l s.length) r=false:=by
     unfold aZ
     rw [decide_eq_false hlen,Bool.false_and]
    rw [eg,if_neg (by decide),yu]
    exact ⟨rfl,by simp⟩
   refine bQ (fun j=>decide ((bE l s.length).getD j 0 ∉ r)) (fun j=>.int ((bE l s.length).getD j 0)) (by rw[xZ];omega) (fun j hj Q Q' h1 h2=>?_) ?_
   ·rw [cH]
    walk_at "dx"
    generalize (bE l s.length).getD j 0=c at *
    exact on (fun h=>h1 (decide_eq_true h)) (fun h=>h2 (decide_eq_false h))
   rw [xZ,cU (bE l s.length) 0 (fun c=>decide (c ∉ r)) (fun c=>PyData.int c)]
   walk_at "dx"
   rw [show PyData.list []=PyData.list (li []) from rfl,pR]
   refine ⟨yo _,(Sh.ints 0 _).shp (by decide),(Sh.ints 0 []).shp (by decide),?_⟩
   have eg:aZ (o.getD d 0) (bE l s.length) r=decide (((bE l s.length).filter fun c=>decide (c ∉ r))=[]):=by
    unfold aZ
    rw [decide_eq_true hlen,Bool.true_and]
   rw [eg]
   refine on (fun hm=>?_) (fun hm=>?_)
   ·rw [if_pos hm,yN]
    refine ⟨yg (by decide) ah,by rw[xZ];exact yi (by omega) ah,?_⟩
    refine ⟨?_,by simp⟩
    rw [xZ]
    rfl
   ·rw [if_neg hm,yu]
    exact ⟨rfl,by simp⟩
 ·rintro env ⟨rv,dv,rfl,_⟩
  rw [xZ,yW (yl _)]
  walk_at "dx"
  have hs:∀ r∈(bL s.length).filter (aZ (o.getD d 0) (bE l s.length)),r.length≤1000:=fun r hr=>by
   have:=(bt _ r (yY.mp hr).1).1
   omega
  have hes:pick (aU ((List.map kC ((bL s.length).filter (aZ (o.getD d 0) (bE l s.length)))).map bI)) (List.map kC ((bL s.length).filter (aZ (o.getD d 0) (bE l s.length)))) .none=List.map kC (chX s.length (o.getD d 0) l):=by
   have ek:∀ rr:List (List Int),(List.map kC rr).map bI=rr.map mU:=fun rr=>by
    rw [yD]
    refine za fun r _=>?_
    show bI (kC r)=mU r
    unfold kC bI mU
    simp only [be,Option.getD_some]
   rw [ek]
   show _=List.map kC (pick (aU ((fJ s.length (o.getD d 0) l).map mU)) (fJ s.length (o.getD d 0) l) [])
   show pick (aU ((fJ s.length (o.getD d 0) l).map mU)) (List.map kC (fJ s.length (o.getD d 0) l)) .none=_
   generalize fJ s.length (o.getD d 0) l=rr
   unfold pick
   rw [yD]
   refine za fun i hi=>?_
   have:=ck i hi
   rw [xZ] at this
   simp [yd,this]
  refine ⟨fun x hx=>?_,?_,?_⟩
  ·obtain ⟨r,_,rfl⟩:=yr.mp hx
   exact ⟨r.length,r,rfl⟩
  ·rw [xZ]
   refine fH t2 (t7.imp (fun h=>h) fun h=>by have:=h _ (cb s1);omega)
  ·rw [hes]
   obtain ⟨rr,hrr⟩:∃ rr,rr=chX s.length (o.getD d 0) l:=⟨_,rfl⟩
   have hl:rr.length=((bL s.length).filter (aZ (o.getD d 0) (bE l s.length))).length:=by rw[hrr];exact (dO _ _ _).length_eq
   have hf:((bL s.length).filter (aZ (o.getD d 0) (bE l s.length))).length<64:=fH t2 (t7.imp (fun h=>h) fun h=>by have:=h _ (cb s1);omega)
   rw [←hrr] at q ⊢
   refine gZ (fun j=>.list (li (rr.getD j []))) (by rw[xZ];omega) (fun j hj Q hQ=>?_) ?_
   ·rw [xZ] at hj
    have ek:(List.map kC rr)[j]'(by simpa using hj)=kC (rr.getD j []):=by simp[yd,hj]
    rw [ek]
    unfold kC
    walk_at "dx"
    exact hQ
   ·rw [xZ,db rr [] (fun r=>PyData.list (li r))]
    walk_at "dx"
    exact q
noncomputable abbrev aV:Stmt:=top 11
theorem au:ay ["_law_town_here", "_law_draws_here", "_law_lefts", "_law_lean", "_law_span", "_law_number", "_law_some"] ["_law_town_here", "_law_draws_here"] (af aV):=⟨rfl,rfl,rfl,by decide +kernel,rfl,by decide +kernel,by decide +kernel⟩
noncomputable def LfB (s l:List Int):Prop:=l.length=s.length∧∀ i,i<s.length→1≤l.getD i 0∧l.getD i 0≤s.getD i 0
noncomputable def eX:DSp:=fun ss R=>∃ (s o l:List Int),ss=[.fr (.tuple [.list (li s),.list (li o)]),.io (li l)]∧Ds l∧TB s o∧∀ (d:Nat) (lf l':List Int),Ds l'→d<o.length→LfB s lf→R (.fr (.tuple [.int d,.tuple (li lf)])) [.un,.io (li l')]
theorem dE {f:Addr}{fd:FuncData} (F:Fun K "_law_standing" "_law_standing" aV f fd):bF K fd ["_law_town_here", "_law_draws_here"] []:=F.binds (ps:=["_law_town_here", "_law_draws_here"]) fun _ _ _ _ _ _ us hl=>us2 (Q:=fun us=>bindArgs _ ⟨us,[]⟩=pure (List.zip _ us)) hl fun _ _=>rfl
theorem dD {f:Addr}{fd:FuncData} (F:Fun K "_law_standing" "_law_standing" aV f fd) (B:Bn mg) (G__law_pop:Cal P w K mg base "_law_pop" 1 (spD K qB)):bW P w K mg base CX0 2 f fd ["_law_town_here", "_law_draws_here"] (spD K eX):=by
 refine okD (k:=1) F au (fun ss R h=>?_) (by decide) (fun cdv A outer s H E hr=>⟨_,(bM (aW (i:=2) au.nd rfl (Or.inl rfl) (eO ae))
   (bM (aW (i:=3) au.nd rfl (Or.inl rfl) (a0 aQ mIC (b9 0 G__law_pop (hr.mono (by decide)) rfl (aa (qv 1) ae)) ai))
   (bM (gh PassesOwn.never rfl (bd (K:=K) rfl (dB (aP (K:=K) rfl) mIx (qv 0) ai (fun _ _=>rfl))) (aw (i:=4) au.nd rfl (Or.inl rfl)) (bM (aW (i:=5) au.nd rfl (Or.inl rfl) (b9 0 G__law_pop (hr.mono (by decide)) rfl (aa (qv 1) ae)))
   (bM (aW (i:=6) au.nd rfl (Or.inl rfl) (bX (aa (a0 bB mI ai (a0 aQ mIC (qv 5) (qv 4))) (aa (a0 bB mI ai (a0 aQ mIC (qv 5) (kc (eB rfl) wj rfl B.min PyProof.Rows.boot_min (aa (qv 4) (aa ai ae))))) (aa (a0 uf mI (qv 4) (a0 aQ mIC (qv 5) (kc (eB rfl) wj rfl B.min PyProof.Rows.boot_min (aa (qv 4) (aa ai ae))))) ae)))))
   (az (aW (i:=2) au.nd rfl (Or.inl rfl) (pA (K:=K) rfl (qv 2) (eO (aa (dB (aP (K:=K) rfl) mIx (qv 6) (qv 3) (fun _ _=>rfl)) ae))))))))
   (az (bP (eO (aa (a0 aQ mIC (b9 0 G__law_pop (hr.mono (by decide)) rfl (aa (qv 1) ae)) (kc (mV (K:=K) rfl) mT rfl B.len PySem.boot_len (aa (dB (aP (K:=K) rfl) mIx (qv 0) ai (fun _ _=>rfl)) ae))) (aa (qf 2) ae)))))))),fun ss R h=>?_⟩)
 ·obtain ⟨s,o,l,rfl,_⟩:=h
  rfl
 obtain ⟨s,o,l,rfl,dl,tb,q⟩:=h
 obtain ⟨t1,t2,t3,t4,t5,t6,t7⟩:=tb
 walk_at "dd"
 refine ⟨yo _,l,rfl,?_⟩
 walk_at "dd"
 have dl1:=dl.drop
 generalize cw l=p0 at *
 generalize l.dropLast=l1 at *
 refine ⟨by decide,bK (fun i env=>∃ (ld lf:List Int) (a b c:Sl),env=[.fr (.tuple [.list (li s),.list (li o)]),.io (li ld),.fr (.tuple (li lf)),.fr (.int (p0 % 3)),a,b,c]∧Ds ld∧lf.length=i∧∀ j,j<i→1≤lf.getD j 0∧lf.getD j 0≤s.getD j 0) ⟨l1,[],_,_,_,rfl,dl1,rfl,by omega⟩ ?_ ?_⟩
 ·rintro i env hi ⟨ld,lf,a,b,c,rfl,dld,hlf,hb⟩
  rw [cH]
  rw [xZ] at hi
  walk_at "dd"
  refine ⟨ld,rfl,?_⟩
  walk_at "dd"
  have dl2:=dld.drop
  generalize cw ld=num at *
  generalize ld.dropLast=l2 at *
  obtain ⟨sp,hsp⟩:∃ sp,sp=s.getD i 0:=⟨_,rfl⟩
  have hs1:=t5 _ (cb hi)
  rw [←hsp] at hs1 ⊢
  obtain ⟨w3,hw3⟩:∃ w:Int,w=if 3<sp then 3 else sp:=⟨_,rfl⟩
  obtain ⟨w2,hw2⟩:∃ w:Int,w=if 2<sp then 2 else sp:=⟨_,rfl⟩
  rw [←hw3,←hw2]
  have b3:1≤w3∧w3≤sp:=by rw[hw3];split <;> omega
  have b2:1≤w2∧w2≤sp:=by rw[hw2];split <;> omega
  have x0:=yE num (show sp≠0 by omega)
  have x1:=yB num (show 0<sp by omega)
  have y0:=yE num (show w3≠0 by omega)
  have y1:=yB num (show 0<w3 by omega)
  have z0:=yE num (show w2≠0 by omega)
  have z1:=yB num (show 0<w2 by omega)
  obtain ⟨v,ev,v1,v2⟩:∃ v:Int,atI [PyData.int (1+num % sp),PyData.int (1+num % w3),PyData.int (sp - num % w2)] (p0 % 3)=some (.int v)∧1≤v∧v≤sp:=by
   have:p0 % 3=0∨p0 % 3=1∨p0 % 3=2:=by omega
   rcases this with e|e|e
   ·rw [e];exact⟨_,rfl,by omega,by omega⟩
   ·rw [e];exact⟨_,rfl,by omega,by omega⟩
   ·rw [e];exact⟨_,rfl,by omega,by omega⟩
  refine ⟨by omega,by omega,by omega,yg (by decide) ah,_,ev,yg (by decide) ah,by rw[xZ,hlf];exact yg (by omega) ah,l2,rfl,lf++[v],iN _ _,dl2,by simp[hlf],fun j hj=>?_⟩
  by_cases hji:j<i
  ·have:=hb j hji
   rw [show (lf++[v]).getD j 0=lf.getD j 0 by simp[yd,zl (show j<lf.length by omega)]]
   exact this
  ·have:j=i:=by omega
   subst this
   rw [show (lf++[v]).getD j 0=v by rw[←hlf];simp[yd],←hsp]
   exact ⟨v1,v2⟩
 ·rintro env ⟨ld,lf,a,b,c,rfl,dld,hlf,hb⟩
  rw [xZ] at hlf hb
  walk_at "dd"
  refine ⟨ld,rfl,?_⟩
  walk_at "dd"
  have dl2:=dld.drop
  generalize cw ld=num at *
  generalize ld.dropLast=l2 at *
  rw [xZ]
  have x0:=yE num (show (o.length:Int)≠0 by omega)
  have x1:=yB num (show 0<(o.length:Int) by omega)
  refine ⟨by omega,yg (by decide) ah,?_⟩
  have e:num % (o.length:Int)=(((num % (o.length:Int)).toNat:Nat):Int):=by omega
  rw [e]
  exact q _ lf l2 dl2 (by omega) ⟨hlf,hb⟩
noncomputable abbrev cn:Stmt:=top 2
theorem iz:ay ["town", "standing"] ["town", "standing"] (af cn):=⟨rfl,rfl,rfl,by decide +kernel,rfl,by decide +kernel,by decide +kernel⟩
noncomputable def dU:DSp:=fun ss R=>∃ (s o l:List Int) (d:Nat),ss=[.fr (.tuple [.list (li s),.list (li o)]),.fr (.tuple [.int d,.tuple (li l)])]∧d<o.length∧R (.fr (.int (o.getD d 0))) [.un,.un]
theorem iY {f:Addr}{fd:FuncData} (F:Fun K "hands_on" "hands_on" cn f fd):bF K fd ["town", "standing"] []:=F.binds (ps:=["town", "standing"]) fun _ _ _ _ _ _ us hl=>us2 (Q:=fun us=>bindArgs _ ⟨us,[]⟩=pure (List.zip _ us)) hl fun _ _=>rfl
theorem iH {f:Addr}{fd:FuncData} (F:Fun K "hands_on" "hands_on" cn f fd) (B:Bn mg):bW P w K mg base CX0 1 f fd ["town", "standing"] (spD K dU):=by
 refine okD (k:=0) F iz (fun ss R h=>?_) (by decide) (fun cdv A outer s H E hr=>⟨_,(az (bP (dB (aP (K:=K) rfl) mIx (dB (aP (K:=K) rfl) mIx (qv 0) ai (fun _ _=>rfl)) (dB (aP (K:=K) rfl) mIx (qv 1) ai (fun _ _=>rfl)) (fun _ _=>rfl)))),fun ss R h=>?_⟩)
 ·obtain ⟨s,o,l,d,rfl,_⟩:=h
  rfl
 obtain ⟨s,o,l,d,rfl,hd,q⟩:=h
 walk_at "dd"
 exact ⟨_,eJ hd,q⟩
noncomputable abbrev fv:Stmt:=top 1
theorem ni:ay ["town"] ["town"] (af fv):=⟨rfl,rfl,rfl,by decide +kernel,rfl,by decide +kernel,by decide +kernel⟩
noncomputable def kW:DSp:=fun ss R=>∃ (s o:List Int),ss=[.fr (.tuple [.list (li s),.list (li o)])]∧R (.fr (.tuple [.int 0,.tuple (li s)])) [.un]
theorem o4 {f:Addr}{fd:FuncData} (F:Fun K "begun" "begun" fv f fd):bF K fd ["town"] []:=F.binds (ps:=["town"]) fun _ _ _ _ _ _ us hl=>us1 (Q:=fun us=>bindArgs _ ⟨us,[]⟩=pure (List.zip _ us)) hl fun _=>rfl
theorem nG {f:Addr}{fd:FuncData} (F:Fun K "begun" "begun" fv f fd) (B:Bn mg):bW P w K mg base CX0 1 f fd ["town"] (spD K kW):=by
 refine okD (k:=0) F ni (fun ss R h=>?_) (by decide) (fun cdv A outer s H E hr=>⟨_,(az (bP (eO (aa ai (aa (qI (K:=K) rfl rfl B.tuple (aa (dB (aP (K:=K) rfl) mIx (qv 0) ai (fun _ _=>rfl)) ae)) ae))))),fun ss R h=>?_⟩)
 ·obtain ⟨s,o,rfl,_⟩:=h
  rfl
 obtain ⟨s,o,rfl,q⟩:=h
 walk_at "dd"
 exact ⟨yg (by decide) ah,q⟩
noncomputable abbrev cm:Stmt:=top 4
theorem iy:ay ["town", "standing"] ["town", "standing"] (af cm):=⟨rfl,rfl,rfl,by decide +kernel,rfl,by decide +kernel,by decide +kernel⟩
noncomputable def gb:DSp:=fun ss R=>∃ (s o l:List Int) (d:Nat),ss=[.fr (.tuple [.list (li s),.list (li o)]),.fr (.tuple [.int d,.tuple (li l)])]∧d<o.length∧R (.fr (.bool (decide (o.getD d 0<(l.count 1:Nat))))) [.un,.un]
theorem iX {f:Addr}{fd:FuncData} (F:Fun K "is_stuck" "is_stuck" cm f fd):bF K fd ["town", "standing"] []:=F.binds (ps:=["town", "standing"]) fun _ _ _ _ _ _ us hl=>us2 (Q:=fun us=>bindArgs _ ⟨us,[]⟩=pure (List.zip _ us)) hl fun _ _=>rfl
theorem iG {f:Addr}{fd:FuncData} (F:Fun K "is_stuck" "is_stuck" cm f fd) (B:Bn mg) (G_hands_on:Cal P w K mg base "hands_on" 1 (spD K dU)):bW P w K mg base CX0 2 f fd ["town", "standing"] (spD K gb):=by
 refine okD (k:=1) F iy (fun ss R h=>?_) (by decide) (fun cdv A outer s H E hr=>⟨_,(az (bP (kb ui mB (qM (K:=K) rfl (dB (aP (K:=K) rfl) mIx (qv 1) ai (fun _ _=>rfl)) ai) (bp G_hands_on (hr.mono (by decide)) rfl (aa (qf 0) (aa (qf 1) ae))) (aT _)))),fun ss R h=>?_⟩)
 ·obtain ⟨s,o,l,d,rfl,_⟩:=h
  rfl
 obtain ⟨s,o,l,d,rfl,hd,q⟩:=h
 walk_at "dd"
 refine ⟨s,o,l,d,rfl,hd,?_⟩
 walk_at "dd"
 exact q
noncomputable abbrev b8:Stmt:=top 3
theorem a9:ay ["town", "standing", "most", "rows", "clock", "left", "with_it"] ["town", "standing"] (af b8):=⟨rfl,rfl,rfl,by decide +kernel,rfl,by decide +kernel,by decide +kernel⟩
noncomputable def gc:DSp:=fun ss R=>∃ (s o l:List Int) (d:Nat),ss=[.fr (.tuple [.list (li s),.list (li o)]),.fr (.tuple [.int d,.tuple (li l)])]∧s.length≤6∧0≤o.getD d 0∧(s.length≤4∨o.getD d 0≤3)∧StB s o d l ∧
 ∀ S,R (.tr S (.list (lr (chX s.length (o.getD d 0) l)))) [.un,.un]
theorem kw {f:Addr}{fd:FuncData} (F:Fun K "choices" "choices" b8 f fd):bF K fd ["town", "standing"] []:=F.binds (ps:=["town", "standing"]) fun _ _ _ _ _ _ us hl=>us2 (Q:=fun us=>bindArgs _ ⟨us,[]⟩=pure (List.zip _ us)) hl fun _ _=>rfl
theorem kh {f:Addr}{fd:FuncData} (F:Fun K "choices" "choices" b8 f fd) (B:Bn mg) (L:o6 K base "choices" fd) (G_hands_on:Cal P w K mg base "hands_on" 1 (spD K dU)):bW P w K mg base CX0 6 f fd ["town", "standing"] (spD K gc):=by
 refine xA (k:=5) F a9 (fun ss R h=>?_) (by decide) (fun cdv hcd A outer s H E hr=>⟨_,(ar (aW (i:=2) a9.nd rfl (Or.inr rfl) (bp G_hands_on (hr.mono (by decide)) rfl (aa (qf 0) (aa (qf 1) ae))))
   (ar (aW (i:=3) a9.nd rfl (Or.inl rfl) (tP (aa (bX ae) ae)))
   (ar (gh PassesOwn.never rfl (lm true (K:=K) rfl rfl B.enumerate (aa (dB (aP (K:=K) rfl) mIx (qv 1) ai (fun _ _=>rfl)) ae)) (ln (K:=K) (n:=2) rfl rfl (cu (aw (i:=4) a9.nd rfl (Or.inr rfl)) (cu (aw (i:=5) a9.nd rfl (Or.inl rfl)) iD))) (ar (ka 3 (i:=6) a9.nd rfl rfl (N':=["row", "most", "clock"]) (ix:=[none,some 2,some 4]) rfl (dk (N:=["town", "standing", "most", "rows", "clock", "left", "with_it"]) (sc0:=af b8) rfl rfl (by decide +kernel)) (bd (K:=K) rfl (qf 3)) (fun _ _ _ _=>(aw (i:=0) (show List.Nodup (["row", "most", "clock"]:List Str) by decide +kernel) rfl (Or.inl rfl))) (fun _ _ _ _=>(cJ (bA wb mB (kc (mV (K:=K) rfl) mT rfl B.len PySem.boot_len (aa (qv 0) ae)) (qv 1) (aT _)))) (fun _ _ _ _=>(nr (d4 (K:=K) rfl) vy (qv 0) (bX (aa (qf 2) ae)))))
   (az (aW (i:=3) a9.nd rfl (Or.inl rfl) (qL (bA nF vx (qv 5) ai (aT _)) (nt 6) (tQ (K:=K) rfl (nt 3) (nt 6)))))))
   (az (bP (tN (p := "row") (K:=K) rfl (let ⟨c,T,a,b,d⟩:=L;⟨c,T,hcd.trans a,b,d⟩) (hr.mono (by decide)) rfl B.sorted (aa (nt 3) ae) ⟨rfl,rfl,rfl,by decide,rfl,fun x hx=>by rw[x4.mp hx];exact .inl rfl,by decide⟩ (fun _ _ _ _ _=>rfl) rfl rfl (fun _ _ _ _ _=>(eO (aa (kc (mV (K:=K) rfl) mT rfl B.len PySem.boot_len (aa (qv 0) ae)) (aa (qf 0) ae)))))))))),fun ss R h=>?_⟩)
 ·obtain ⟨s,o,l,d,rfl,_⟩:=h
  rfl
 obtain ⟨s,o,l,d,rfl,t2,t0,t7,sb,q⟩:=h
 obtain ⟨s1,s2⟩:=sb
 walk_at "dx"
 refine ⟨s,o,l,d,rfl,s1,?_⟩
 walk_at "dx"
 refine ⟨yo _,yg (by decide) ah,fun S=>?_⟩
 walk_at "dx"
 refine bK (fun i env=>∃ (S:List Addr) (a b c:Sl),env=[.fr (.tuple [.list (li s),.list (li o)]),.fr (.tuple [.int d,.tuple (li l)]),.fr (.int (o.getD d 0)),.tr S (.list (lr (chs (o.getD d 0) l i))),a,b,c]) ⟨_,_,_,_,rfl⟩ ?_ ?_
 ·rintro i env hi ⟨S,a,b,c,rfl⟩
  rw [eh,cH]
  rw [bh,xZ] at hi
  have hz:(chs (o.getD d 0) l i).length≤64:=by
   rw [eA _ t0]
   refine yg (yJ _ _) ?_
   rw [cS]
   exact yQ (by decide) (show i≤6 by omega)
  have hrow:∀ r∈chs (o.getD d 0) l i,r.length≤6:=fun r hr=>by
   rw [eA _ t0] at hr
   have:=(bt i r (yY.mp hr).1).1
   omega
  have eC:chs (o.getD d 0) l (i+1)=if l.getD i 0=1 then ((chs (o.getD d 0) l i).filter fun r=>decide ((r.length:Int)<o.getD d 0)).map (·++[(i:Int)]) else chs (o.getD d 0) l i++((chs (o.getD d 0) l i).filter fun r=>decide ((r.length:Int)<o.getD d 0)).map (·++[(i:Int)]):=rfl
  rw [eC]
  generalize chs (o.getD d 0) l i=cs at *
  generalize o.getD d 0=hd at *
  walk_at "dx"
  refine my (fun j=>decide (((cs.getD j []).length:Int)<hd)) (fun j=>.list (li (cs.getD j []++[(i:Int)]))) (by rw[xZ];omega) (fun j hj Q Q' h1 h2=>?_) fun S1=>?_
  ·rw [xZ] at hj
   rw [gx]
   have hm:=hrow _ (cY (l:=cs) hj)
   walk_at "dx"
   rw [xZ]
   refine on (fun h=>⟨yg (by decide) ah,yg (by omega) ah,?_⟩) (fun h=>h2 (by simpa using h))
   rw [iN,if_pos (d6 _)]
   exact ⟨_,rfl,h1 (by simpa using h)⟩
  rw [xZ,cU cs [] (fun r=>decide ((r.length:Int)<hd)) (fun r=>PyData.list (li (r++[(i:Int)])))]
  refine ⟨S1,(cs.filter fun r=>decide ((r.length:Int)<hd)).map (·++[(i:Int)]),by unfold kA;rw[yD];rfl,fun S2=>?_⟩
  walk_at "dx"
  refine on (fun h1=>?_) (fun h1=>?_)
  ·rw [if_pos h1]
  ·rw [if_neg h1]
   have hf:=yJ (fun r:List Int=>decide ((r.length:Int)<hd)) cs
   refine ⟨?_,fun _=>(yN ..).symm⟩
   rw [xZ,xZ,xZ]
   exact yg (by omega) ah
 ·rintro env ⟨S,a,b,c,rfl⟩
  rw [bh,xZ,s2]
  have hz:(chs (o.getD d 0) l s.length).length<64:=by
   rw [eA _ t0]
   exact fH t2 t7
  have hr:∀ x∈lr (chs (o.getD d 0) l s.length),uG x:=fun x hx=>by
   obtain ⟨r,_,rfl⟩:=yr.mp hx
   exact ⟨r,rfl⟩
  have e:pick (aU (((lr (chs (o.getD d 0) l s.length)).map iO).map bI)) (lr (chs (o.getD d 0) l s.length)) .none=lr (chX s.length (o.getD d 0) l):=by
   rw [yD,show (bI ∘ iO)=fun d=>bI (iO d) from rfl,n0,eA _ t0]
   exact rD fun i hi=>by have:=ck i hi;rwa [xZ] at this
  walk_at "dx"
  refine ⟨by rw[xZ];exact hz,iO,.inl fun x hx=>?_,fun x hx=>?_,fun S'=>?_⟩
  ·obtain ⟨y,hy,rfl⟩:=yr.mp hx
   obtain ⟨r,rfl⟩:=hr y hy
   exact ⟨_,r,rfl⟩
  ·obtain ⟨r,rfl⟩:=hr x hx
   unfold pF
   walk_at "dd"
   exact ⟨yg (by decide) ah,rfl⟩
  ·rw [e]
   exact q S'
noncomputable abbrev bH:Stmt:=top 9
theorem ft:ay ["_law_found"] ["_law_found"] (af bH):=⟨rfl,rfl,rfl,by decide +kernel,rfl,by decide +kernel,by decide +kernel⟩
noncomputable def iw:DSp:=fun ss R=>∃ i:Int,ss=[.fr (.int i)]∧R (.fr (.bool true)) [.un]
theorem fR {f:Addr}{fd:FuncData} (F:Fun K "_law_whole" "_law_whole" bH f fd):bF K fd ["_law_found"] []:=F.binds (ps:=["_law_found"]) fun _ _ _ _ _ _ us hl=>us1 (Q:=fun us=>bindArgs _ ⟨us,[]⟩=pure (List.zip _ us)) hl fun _=>rfl
theorem fA {f:Addr}{fd:FuncData} (F:Fun K "_law_whole" "_law_whole" bH f fd) (B:Bn mg):bW P w K mg base CX0 1 f fd ["_law_found"] (spD K iw):=by
 refine okD (k:=0) F ft (fun ss R h=>?_) (by decide) (fun cdv A outer s H E hr=>⟨_,(az (bP (qQ (iE (K:=K) rfl rM rfl B.isinstance rfl B.int PyProof.Rows.boot_int (qv 0)) (qK (vZ (iE (K:=K) rfl jz rfl B.isinstance rfl B.bool PyProof.Rows.boot_bool (qv 0))))))),fun ss R h=>?_⟩)
 ·obtain ⟨i,rfl,_⟩:=h
  rfl
 obtain ⟨i,rfl,q⟩:=h
 walk_at "dd"
 exact q
noncomputable abbrev bz:Stmt:=top 14
theorem gg:ay ["_law_found", "_law_due"] ["_law_found", "_law_due"] (af bz):=⟨rfl,rfl,rfl,by decide +kernel,rfl,by decide +kernel,by decide +kernel⟩
noncomputable def pd:DSp:=fun ss R=>∃ (d:Int) (l:List Int),ss=[.fr (.tuple [.int d,.tuple (li l)]),.fr (.tuple [.int d,.tuple (li l)])]∧l.length≤1000∧R (.fr (.bool true)) [.un,.un]
theorem ic {f:Addr}{fd:FuncData} (F:Fun K "_law_told" "_law_told" bz f fd):bF K fd ["_law_found", "_law_due"] []:=F.binds (ps:=["_law_found", "_law_due"]) fun _ _ _ _ _ _ us hl=>us2 (Q:=fun us=>bindArgs _ ⟨us,[]⟩=pure (List.zip _ us)) hl fun _ _=>rfl
theorem gq {f:Addr}{fd:FuncData} (F:Fun K "_law_told" "_law_told" bz f fd) (B:Bn mg) (G__law_whole:Cal P w K mg base "_law_whole" 1 (spD K iw)):bW P w K mg base CX0 2 f fd ["_law_found", "_law_due"] (spD K pd):=by
 refine okD (k:=1) F gg (fun ss R h=>?_) (by decide) (fun cdv A outer s H E hr=>⟨_,(bM (nu (PW.pt (iC (cD (cC (iE (K:=K) rfl gz rfl B.isinstance rfl B.tuple PyProof.Rows.boot_tuple (qv 0)))) (iC (bA uh xD (kc (mV (K:=K) rfl) mT rfl B.len PySem.boot_len (aa (qv 0) ae)) ai (aT _)) (iC (cD (cC (bp G__law_whole (hr.mono (by decide)) rfl (aa (dB (aP (K:=K) rfl) mIx (qv 0) ai (fun _ _=>rfl)) ae)))) (lg (cD (cC (iE (K:=K) rfl gz rfl B.isinstance rfl B.tuple PyProof.Rows.boot_tuple (dB (aP (K:=K) rfl) mIx (qv 0) ai (fun _ _=>rfl)))))))))) (az (bP vt)) cV)
   (az (bP (qQ (kb (rP (K:=K) rfl hr.units) mEq (qv 0) (qv 1) (aT _)) (qK (kb (rP (K:=K) rfl hr.units) mEq (dq (N':=["_law_left"]) (ix:=[none]) rfl (dk (N:=["_law_found", "_law_due"]) (sc0:=af bz) rfl rfl (by decide +kernel)) (tL (K:=K) rfl (dB (aP (K:=K) rfl) mIx (qv 0) ai (fun _ _=>rfl))) (fun _ _ _ _=>(aw (i:=0) (show List.Nodup (["_law_left"]:List Str) by decide +kernel) rfl (Or.inl rfl))) (fun _ _ _ _=>(cJ (cD (cC (bp G__law_whole (hr.mono (by decide)) rfl (aa (qf 0) ae)))))) (fun _ _ _ _=>(qf 0))) (bX ae) (aT _))))))),fun ss R h=>?_⟩)
 ·obtain ⟨d,l,rfl,_⟩:=h
  rfl
 obtain ⟨d,l,rfl,hl,q⟩:=h
 walk_at "dd"
 rw [if_neg (by decide)]
 refine ⟨d,rfl,?_⟩
 walk_at "dd"
 have sh:Sh 3 (.tuple [.int d,.tuple (li l)]):=Sh.two (Sh.int 2 d) ((Sh.intT 1 l))
 refine ⟨sh.shp (by decide),sh.shp (by decide),?_⟩
 rw [fK sh (by decide),if_pos rfl]
 refine bQ (fun _=>false) (fun i=>.int (l.getD i 0)) (by rw[xZ];omega) (fun i hi Q Q' h1 h2=>?_) ?_
 ·rw [cH]
  walk_at "dd"
  refine ⟨_,rfl,?_⟩
  walk_at "dd"
  exact h2 rfl
 have ef:List.filter (fun _=>false) (List.range (li l).length)=[]:=by simp
 rw [ef]
 walk_at "dd"
 exact ⟨yo _,(Sh.ints 0 []).shp (by decide),(Sh.ints 0 []).shp (by decide),q⟩
noncomputable abbrev aS:Stmt:=top 15
theorem fu:ay ["_law_found", "_law_due"] ["_law_found", "_law_due"] (af aS):=⟨rfl,rfl,rfl,by decide +kernel,rfl,by decide +kernel,by decide +kernel⟩
noncomputable def kT:DSp:=fun ss R=>∃ (rr:List (List Int)),ss=[.fr (.list (lr rr)),.fr (.list (lr rr))]∧rr.length≤1000∧(∀ r∈rr,r.length≤1000)∧R (.fr (.bool true)) [.un,.un]
theorem fS {f:Addr}{fd:FuncData} (F:Fun K "_law_lists" "_law_lists" aS f fd):bF K fd ["_law_found", "_law_due"] []:=F.binds (ps:=["_law_found", "_law_due"]) fun _ _ _ _ _ _ us hl=>us2 (Q:=fun us=>bindArgs _ ⟨us,[]⟩=pure (List.zip _ us)) hl fun _ _=>rfl
theorem fB {f:Addr}{fd:FuncData} (F:Fun K "_law_lists" "_law_lists" aS f fd) (B:Bn mg) (G__law_whole:Cal P w K mg base "_law_whole" 1 (spD K iw)):bW P w K mg base CX0 3 f fd ["_law_found", "_law_due"] (spD K kT):=by
 refine okD (k:=2) F fu (fun ss R h=>?_) (by decide) (fun cdv A outer s H E hr=>⟨_,(bM (nu (PW.pt (iC (cD (cC (iE (K:=K) rfl jy rfl B.isinstance rfl B.list PyProof.Rows.boot_list (qv 0)))) (iC (bA (wt (K:=K) rfl hr.units) mNe (qv 0) (qv 1) (aT _)) (lg (bA (wt (K:=K) rfl hr.units) mNe (dq (N':=["_law_row"]) (ix:=[none]) rfl (dk (N:=["_law_found", "_law_due"]) (sc0:=af aS) rfl rfl (by decide +kernel)) (bd (K:=K) rfl (qf 0)) (fun _ _ _ _=>(aw (i:=0) (show List.Nodup (["_law_row"]:List Str) by decide +kernel) rfl (Or.inl rfl))) (fun _ _ _ _=>(cJ (cD (cC (iE (K:=K) rfl jy rfl B.isinstance rfl B.list PyProof.Rows.boot_list (qv 0)))))) (fun _ _ _ _=>(qf 0))) (bX ae) (aT _)))))) (az (bP vt)) cV)
   (az (bP (kb (rP (K:=K) rfl hr.units) mEq (dq (N':=["_law_row"]) (ix:=[none]) rfl (dk (N:=["_law_found", "_law_due"]) (sc0:=af aS) rfl rfl (by decide +kernel)) (bd (K:=K) rfl (qf 0)) (fun _ _ _ _=>(aw (i:=0) (show List.Nodup (["_law_row"]:List Str) by decide +kernel) rfl (Or.inl rfl))) (fun _ _ _ _=>(cJ (bA (wt (K:=K) rfl hr.units) mNe (dq (N':=["_law_one"]) (ix:=[none]) rfl (wP (by decide +kernel)) (bd (K:=K) rfl (qf 0)) (fun _ _ _ _=>(aw (i:=0) (show List.Nodup (["_law_one"]:List Str) by decide +kernel) rfl (Or.inl rfl))) (fun _ _ _ _=>(cJ (cD (cC (bp G__law_whole (hr.mono (by decide)) rfl (aa (qf 0) ae)))))) (fun _ _ _ _=>(qf 0))) (bX ae) (aT _)))) (fun _ _ _ _=>(qf 0))) (bX ae) (aT _))))),fun ss R h=>?_⟩)
 ·obtain ⟨rr,rfl,_⟩:=h
  rfl
 obtain ⟨rr,rfl,hl,hr,q⟩:=h
 walk_at "dd"
 refine ⟨(Sh.lr 0 rr).shp (by decide),(Sh.lr 0 rr).shp (by decide),?_⟩
 rw [fK (Sh.lr 0 rr) (by decide),if_neg (by decide)]
 have ef:∀ f:Nat→PyData,(List.filter (fun _=>false) (List.range (lr rr).length)).map f=[]:=fun f=>by simp
 refine bQ (fun _=>false) (fun i=>.none) (by rw[xZ];omega) (fun i hi Q Q' h1 h2=>?_) ?_
 ·rw [gx]
  walk_at "dd"
  exact h2 rfl
 rw [ef]
 walk_at "dd"
 refine ⟨yo _,(Sh.ints 0 []).shp (by decide),(Sh.ints 0 []).shp (by decide),?_⟩
 rw [if_neg (by decide)]
 refine bQ (fun _=>false) (fun i=>.none) (by rw[xZ];omega) (fun i hi Q Q' h1 h2=>?_) ?_
 ·rw [gx]
  rw [xZ] at hi
  have hm:=hr _ (cY (l:=rr) hi)
  generalize rr.getD i []=r at *
  walk_at "dd"
  refine bQ (fun _=>false) (fun i=>.none) (by rw[xZ];omega) (fun i hi Q1 Q1' h3 h4=>?_) ?_
  ·rw [cH]
   walk_at "dd"
   refine ⟨_,rfl,?_⟩
   walk_at "dd"
   exact h4 rfl
  rw [show (List.filter (fun _=>false) (List.range (li r).length)).map (fun _=>PyData.none)=[] by simp]
  walk_at "dd"
  refine ⟨yo _,(Sh.ints 0 []).shp (by decide),(Sh.ints 0 []).shp (by decide),?_⟩
  rw [if_neg (by decide)]
  exact h2 rfl
 rw [ef]
 walk_at "dd"
 exact ⟨yo _,(Sh.ints 0 []).shp (by decide),(Sh.ints 0 []).shp (by decide),q⟩
theorem dJ:∀ (n:Nat) (r:List Int),r.Pairwise (·<·)→(∀ x∈r,0≤x∧x<n)→r∈bL n
 | 0,r,_,h=>by
  cases r with
  | nil=>simp[bL]
  | cons x r=>have:=h x (by simp);omega
 | n + 1,r,hp,h=>by
  refine x8.mpr ?_
  by_cases hr:r=[]
  ·subst hr
   exact .inl (dJ n [] .nil (by simp))
  obtain ⟨r',x,rfl⟩:∃ r' x,r=r'++[x]:=⟨r.dropLast,r.getLast hr,(List.dropLast_concat_getLast hr).symm⟩
  obtain ⟨p1,_,p3⟩:=List.pairwise_append.mp hp
  have hx:=h x (by simp)
  have hlt:∀ y∈r',0≤y∧y<x:=fun y hy=>⟨(h y (by simp[hy])).1,p3 y hy x (by simp)⟩
  by_cases hxn:x=(n:Int)
  ·refine .inr (yr.mpr ⟨r',dJ n r' p1 fun y hy=>by have:=hlt y hy;omega,by rw[hxn]⟩)
  ·refine .inl (dJ n _ hp fun y hy=>?_)
   rcases x8.mp hy with hy|hy
   ·have:=hlt y hy;omega
   ·rw [x4.mp hy];omega
theorem gU (l:List Int):∀ n,n≤l.length→(bE l n).length=(l.take n).count 1
 | 0,_=>rfl
 | n + 1,h=>by
  have ih:=gU l n (by omega)
  have e:l.take (n+1)=l.take n++[l.getD n 0]:=by
   rw [zj,x5 (by omega),yd,x5 (by omega)]
   rfl
  rw [cZ,yw,ih,e,List.count_append]
  by_cases z:l.getD n 0=1
  ·rw [if_pos z,z]
   rfl
  ·rw [if_neg z,List.count_eq_zero.mpr (show (1:Int) ∉ [l.getD n 0] from fun h=>z (x4.mp h).symm)]
   rfl
theorem pW (l:List Int) (n:Nat):(bE l n).Pairwise (·<·):=by
 unfold bE
 rw [List.pairwise_map]
 exact (List.pairwise_lt_range.filter _).imp fun h=>Int.ofNat_lt.mpr h
theorem kP {n:Nat}{h:Int}{l:List Int} (hl:l.length=n):fJ n h l=[]↔h<(l.count 1:Nat):=by
 have hc:(bE l n).length=l.count 1:=by
  have:=gU l n (by omega)
  rwa [yW (by omega)] at this
 constructor
 ·intro he
  by_cases z:h<(l.count 1:Nat)
  ·exact z
  ·have hm:bE l n∈fJ n h l:=by
    refine yY.mpr ⟨dJ n _ (pW l n) fun x hx=>mh hx,?_⟩
    unfold aZ
    rw [hc,decide_eq_true (by omega),Bool.true_and]
    refine decide_eq_true (zg.mpr fun c hc=>?_)
    simp [hc]
   rw [he] at hm
   cases hm
 ·intro hlt
  refine zg.mpr fun r hr hg=>?_
  unfold aZ at hg
  obtain ⟨g1,g2⟩:=Bool.and_eq_true_iff.mp hg
  have g1:=of_decide_eq_true g1
  have g2:=of_decide_eq_true g2
  have hs:bE l n ⊆ r:=fun c hc=>by
   have:=zg.mp g2 c hc
   simpa using this
  have nd:(bE l n).Nodup:=(pW l n).imp fun h=>by omega
  have:=nd.length_le_of_subset hs
  omega
theorem sG {n:Nat}{h:Int}{l:List Int} (hl:l.length=n):chX n h l=[]↔h<(l.count 1:Nat):=by
 rw [←kP hl]
 have hp:=dO n h l
 constructor
 ·intro e
  rw [e] at hp
  exact hp.symm.eq_nil
 ·intro e
  rw [e] at hp
  exact hp.eq_nil
theorem fZ {s:List Int}{i:Nat} (hi:i<s.length):s.take (i+1)=s.take i++[s.getD i 0]:=by
 rw [zj,x5 hi,yd,x5 hi]
 rfl
theorem kq (rr:List (List Int)):PyData.eqv (.list (lr rr)) (.list [])=decide (rr=[]):=by
 cases rr with
 | nil=>rfl
 | cons r rr=>rfl
noncomputable abbrev qE:Stmt:=top 16
theorem b7:ay ["_law_script", "_law_town_here", "_law_kept", "_law_standing_here", "_law_due", "_law_found", "_law_row", "_law_spans", "_law_span", "_law_stuck"] ["_law_script"] (af qE):=⟨rfl,rfl,rfl,by decide +kernel,rfl,by decide +kernel,by decide +kernel⟩
noncomputable def qC:DSp:=fun ss R=>∃ ns:List Int,ss=[.fr (.list (li ns))]∧ns.length≤63∧R (.fr (.bool true)) [.un]
theorem ul {f:Addr}{fd:FuncData} (F:Fun K "law" "law" qE f fd) (B:Bn mg) (G__law_draws:Cal P w K mg base "_law_draws" 2 (spD K kU)) (G__law_town:Cal P w K mg base "_law_town" 2 (spD K pc)) (G__law_standing:Cal P w K mg base "_law_standing" 2 (spD K eX)) (G__law_rows:Cal P w K mg base "_law_rows" 1 (spD K pe)) (G_choices:Cal P w K mg base "choices" 6 (spD K gc)) (G__law_lists:Cal P w K mg base "_law_lists" 3 (spD K kT)) (G_is_stuck:Cal P w K mg base "is_stuck" 2 (spD K gb)) (G_begun:Cal P w K mg base "begun" 1 (spD K kW)) (G__law_told:Cal P w K mg base "_law_told" 2 (spD K pd)):bW P w K mg base CX0 12 f fd ["_law_script"] (spD K qC):=by
 refine okD (k:=11) F b7 (fun ss R h=>?_) (by decide) (fun cdv A outer s H E hr=>⟨_,(ar (aW (i:=1) b7.nd rfl (Or.inl rfl) (lx G__law_town (hr.mono (by decide)) rfl (aa (bp G__law_draws (hr.mono (by decide)) rfl (aa (qf 0) (aa ai (aa ai ae)))) (aa ai ae))))
   (ar (aW (i:=2) b7.nd rfl (Or.inl rfl) (lx G__law_town (hr.mono (by decide)) rfl (aa (bp G__law_draws (hr.mono (by decide)) rfl (aa (qf 0) (aa ai (aa ai ae)))) (aa ai ae))))
   (ar (aW (i:=3) b7.nd rfl (Or.inl rfl) (nw G__law_standing (hr.mono (by decide)) rfl (aa (qf 1) (aa (bp G__law_draws (hr.mono (by decide)) rfl (aa (qf 0) (aa ai (aa ai ae)))) ae))))
   (ar (aW (i:=4) b7.nd rfl (Or.inl rfl) (bp G__law_rows (hr.mono (by decide)) rfl (aa (qf 1) (aa (qf 3) ae))))
   (ar (aW (i:=5) b7.nd rfl (Or.inl rfl) (bp G_choices (hr.mono (by decide)) rfl (aa (qf 1) (aa (qf 3) ae))))
   (ar (nu (cD (cC (lw G__law_lists (hr.mono (by decide)) rfl (aa (qO 5) (aa (qO 4) ae))))) (az (bP vt)) cV)
   (ar (lq 5 6 (K:=K) rfl PassesOwn.never rfl b7.nd rfl rfl (Or.inl rfl))
   (qH 5 (ar (jt (qN 5 (K:=K) rfl rfl))
   (ar (aW (i:=7) b7.nd rfl (Or.inl rfl) (eO ae))
   (ar (gh PassesOwn.never rfl (bd (K:=K) rfl (dB (aP (K:=K) rfl) mIx (qv 1) ai (fun _ _=>rfl))) (aw (i:=8) b7.nd rfl (Or.inl rfl)) (az (aW (i:=7) b7.nd rfl (Or.inl rfl) (pA (K:=K) rfl (qv 7) (eO (aa (qf 8) ae))))))
   (ar (aW (i:=9) b7.nd rfl (Or.inl rfl) (bp G_is_stuck (hr.mono (by decide)) rfl (aa (qf 1) (aa (qf 3) ae))))
   (ar (nu (PW.pt (iC (cD (cC (bp G__law_told (hr.mono (by decide)) rfl (aa (bp G_begun (hr.mono (by decide)) rfl (aa (qf 1) ae)) (aa (eO (aa ai (aa (qf 7) ae))) ae))))) (iC (cD (cC (iE (K:=K) rfl jz rfl B.isinstance rfl B.bool PyProof.Rows.boot_bool (qv 9)))) (lg (bA uh xE (qv 9) (kb (rP (K:=K) rfl hr.units) mEq (qv 4) (bX ae) (aT _)) (aT _)))))) (az (bP vt)) cV)
   (az (bP (qQ (lw G__law_lists (hr.mono (by decide)) rfl (aa (bp G_choices (hr.mono (by decide)) rfl (aa (qf 1) (aa (qf 3) ae))) (aa (qO 4) ae))) (qK (kb (rP (K:=K) rfl hr.units) mEq (qv 1) (qv 2) (aT _))))))))))))))))))),fun ss R h=>?_⟩)
 ·obtain ⟨ns,rfl,_⟩:=h
  rfl
 obtain ⟨ns,rfl,h63,q⟩:=h
 walk_at "dx"
 refine ⟨ns,1,30,rfl,h63,by decide,by decide,?_⟩
 walk_at "dx"
 refine ⟨drF ns 1 30,2000,rfl,mj _ _ _,by decide,by decide,fun hd tb hp=>?_⟩
 walk_at "dx"
 refine ⟨ns,1,30,rfl,h63,by decide,by decide,?_⟩
 walk_at "dx"
 refine ⟨drF ns 1 30,2000,rfl,mj _ _ _,by decide,by decide,fun _ _ _=>?_⟩
 obtain ⟨s,es⟩:∃ s,s=(twF (drF ns 1 30) 2000).1:=⟨_,rfl⟩
 obtain ⟨o,eo⟩:∃ o,o=(twH (drF ns 1 30)).1:=⟨_,rfl⟩
 rw [←es,←eo] at tb ⊢
 walk_at "dx"
 refine ⟨ns,200,12,rfl,h63,by decide,by decide,?_⟩
 walk_at "dx"
 refine ⟨s,o,drF ns 200 12,rfl,mj _ _ _,tb,fun d l l' _ hdo hl=>?_⟩
 walk_at "dx"
 refine ⟨s,o,l,d,rfl,tb,⟨hdo,hl.1⟩,?_⟩
 walk_at "dx"
 obtain ⟨t1,t2,t3,t4,t5,t6,t7⟩:=tb
 have t0:=(t6 _ (cb hdo)).1
 have t8:s.length≤4∨o.getD d 0≤3:=t7.imp id fun h=>Int.le_trans (h _ (cb hdo)) (by decide)
 have hc:∀ r∈chX s.length (o.getD d 0) l,r.length≤6:=fun r hr=>by
  have:=(bt _ r (yY.mp ((dO _ _ _).mem_iff.mp hr)).1).1
  omega
 have hn:(chX s.length (o.getD d 0) l).length<64:=by rw[(dO _ _ _).length_eq];exact fH t2 t8
 refine ⟨s,o,l,d,rfl,t2,t0,t8,⟨hdo,hl.1⟩,fun S=>?_⟩
 walk_at "dx"
 refine ⟨_,rfl,by omega,fun r hr=>by have:=hc r hr;omega,?_⟩
 walk_at "dx"
 refine ⟨rfl,?_⟩
 walk_at "dx"
 refine ⟨(chX s.length (o.getD d 0) l).map li,by rw[yD];rfl,by decide,fun r hr=>?_,fun S'=>?_⟩
 ·obtain ⟨r',hr',rfl⟩:=yr.mp hr
  rw [xZ]
  exact yi (Nat.lt_succ_of_le (hc _ hr')) (yg (by decide) ah)
 walk_at "dx"
 refine ⟨yo _,?_⟩
 walk_at "dx"
 refine bK (fun i env=>∃ a:Sl,env=[.fr (.list (li ns)),.fr (.tuple [.list (li s),.list (li o)]),.fr (.tuple [.list (li s),.list (li o)]),.fr (.tuple [.int d,.tuple (li l)]),.ow (lr (chX s.length (o.getD d 0) l)),.ow [],.un,.fr (.tuple (li (s.take i))),a,.un]) ⟨_,rfl⟩ ?_ ?_
 ·rintro i env hi ⟨a,rfl⟩
  have hi':i<s.length:=by simpa using hi
  rw [cH,fZ hi']
  walk_at "dx"
  exact ⟨yg (by decide) ah,by rw[xZ,List.length_take];exact yg (by omega) ah,by simp⟩
 rintro env ⟨a,rfl⟩
 rw [xZ,List.take_length]
 walk_at "dx"
 refine ⟨s,o,l,d,rfl,hdo,?_⟩
 walk_at "dx"
 refine ⟨s,o,rfl,?_⟩
 walk_at "dx"
 refine ⟨yg (by decide) ah,0,s,rfl,by omega,?_⟩
 walk_at "dx"
 refine ⟨yo _,(Sh.lr 0 _).shp (by decide),(Sh.ints 0 []).shp (by decide),?_⟩
 have ee:(PyData.list (lr (chX s.length (o.getD d 0) l))).eqv (PyData.list [])=decide (chX s.length (o.getD d 0) l=[]):=kq _
 rw [ee,if_neg (not_not_intro (decide_eq_decide.mpr (sG hl.1).symm))]
 walk_at "dx"
 refine ⟨s,o,l,d,rfl,t2,t0,t8,⟨hdo,hl.1⟩,fun S2=>?_⟩
 walk_at "dx"
 refine ⟨_,rfl,by omega,fun r hr=>by have:=hc r hr;omega,?_⟩
 walk_at "dx"
 have shT:Sh 2 (.tuple [.list (li s),.list (li o)]):=Sh.two (Sh.ints 0 s) (Sh.ints 0 o)
 refine ⟨rfl,shT.shp (by decide),shT.shp (by decide),?_⟩
 rw [fK shT (by decide)]
 exact q
end
theorem vh {l:PySem.W.OpenLaw}{w:World}{K:PySem.W.Frag}{h:Heap}{mg:Str→Option Value}{fa:Addr} (X:K.In h) (G:h.Ns mainGlobals mg) (hfa:mg "law" = some (.ref fa))
  (g0:FnI K "_law_pop" cq)
  (g1:FnI K "_law_mix" cr)
  (g2:FnI K "_law_draws" bg)
  (g3:FnI K "_law_town" aR)
  (g4:FnI K "_law_rows" aL)
  (g5:FnI K "_law_standing" aV)
  (g6:FnI K "hands_on" cn)
  (g7:FnI K "begun" fv)
  (g8:FnI K "is_stuck" cm)
  (g9:FnL K "choices" b8)
  (g10:FnI K "_law_whole" bH)
  (g11:FnI K "_law_told" bz)
  (g12:FnI K "_law_lists" aS)
  (g13:FnI K "law" qE)
  (z : BnI K)
  : ∃ fd:FuncData,(∀ (s:Shared) (v:Value),BindsTo s fd ⟨[v],[]⟩ [("_law_script",v)])∧∀ base:Heap,K.In base→base.Ns mainGlobals mg→bW l.prog w K mg base CX0 12 fa fd ["_law_script"] (spD K qC):=by
 have B:Bn mg:=z.bn X G
 refine xG X G hfa g13 (fun F s v=>?_) fun {fd base} F_law Xb=>?_
 ·obtain ⟨_,_,_,_,_,_,_,_,_,rfl,_,_⟩:=F.ex
  exact .of_eq rfl
 have G__law_pop:=kD X G g0 iZ fun F=>iI (P:=l.prog) (w:=w) (base:=base) F B
 have G__law_mix:=kD X G g1 i0 fun F=>iJ (P:=l.prog) (w:=w) (base:=base) F B
 have G__law_draws:=kD X G g2 fT fun F=>fC (P:=l.prog) (w:=w) (base:=base) F B G__law_mix
 have G__law_town:=kD X G g3 ib fun F=>gp (P:=l.prog) (w:=w) (base:=base) F B G__law_pop
 have G__law_rows:=kD X G g4 ie fun F=>gr (P:=l.prog) (w:=w) (base:=base) F B
 have G__law_standing:=kD X G g5 dE fun F=>dD (P:=l.prog) (w:=w) (base:=base) F B G__law_pop
 have G_hands_on:=kD X G g6 iY fun F=>iH (P:=l.prog) (w:=w) (base:=base) F B
 have G_begun:=kD X G g7 o4 fun F=>nG (P:=l.prog) (w:=w) (base:=base) F B
 have G_is_stuck:=kD X G g8 iX fun F=>iG (P:=l.prog) (w:=w) (base:=base) F B G_hands_on
 have G_choices:=xT X G Xb g9 kw fun F L=>kh (P:=l.prog) (w:=w) F B L G_hands_on
 have G__law_whole:=kD X G g10 fR fun F=>fA (P:=l.prog) (w:=w) (base:=base) F B
 have G__law_told:=kD X G g11 ic fun F=>gq (P:=l.prog) (w:=w) (base:=base) F B G__law_whole
 have G__law_lists:=kD X G g12 fS fun F=>fB (P:=l.prog) (w:=w) (base:=base) F B G__law_whole
 exact ul F_law B G__law_draws G__law_town G__law_standing G__law_rows G_choices G__law_lists G_is_stuck G_begun G__law_told
end W
open PySem PySem.W PyProof.Rows
set_option maxRecDepth 100000 in
set_option maxHeartbeats 0 in
theorem PySem.Challenge.cw_windround_k01_beginnings_and_choices_holds : PySem.Challenge.rw_windround_k01_beginnings_and_choices.Holds := by
 w_on;o_law;k_head;(case hw=>w_witness2)
 k_fill
 refine L2.vN (l:=PySem.Challenge.rw_windround_k01_beginnings_and_choices) (sp:=W.qC) (k:=12) (by decide) rfl rfl (fun ns h=>⟨ns,rfl,h,rfl⟩) ?TB (fun w h Y=>PySem.W.km_in_of Y) ?F
 case TB =>
  intro w s₀ mg mb h G KX
  refine' L2.qy _ (L2.nW (x := "choices") (L2.nX G KX rfl ?a1 ?l1 ?c1 ?lc1 ?hT1 ?hn1) L2.rK) ?nd (L2.rL (.inl ?y0) (.inr ?z1) (.inr ?z2) (.inr ?z3))
  (case a1=>k_is);(case l1=>k_is);(case c1=>exact rfl);(case lc1=>k_is);(case hT1=>exact⟨rfl,rfl,⟨_,_,rfl⟩,⟨_,_,rfl⟩,⟨_,rfl⟩,⟨_,_,rfl⟩,by decide⟩);(case hn1=>kernel_rfl)
  (case nd=>decide);(case y0=>simp);(case z1=>k_is);(case z2=>k_is);(case z3=>k_is)
 case F =>
  intro w mg fa h KX G hmg
  refine' W.vh KX G hmg ?fn0 ?fn1 ?fn2 ?fn3 ?fn4 ?fn5 ?fn6 ?fn7 ?fn8 ?fn9 ?fn10 ?fn11 ?fn12 ?fn13 ?fz
  case fn0|fn1|fn2|fn3|fn4|fn5|fn6|fn7|fn8|fn10|fn11|fn12|fn13=>(refine' L2.fnI ?fa ?fl ?fc ?fk;(case fa=>k_is);(case fl=>k_is);(case fc=>k_is);(case fk=>k_is))
  case fn9=>(refine' L2.fnL (by decide) ?fa ?fl ?fc ?fk ?fhc ?flc ?fhT;(case fa=>k_is);(case fl=>k_is);(case fc=>k_is);(case fk=>k_is);(case fhc=>exact rfl);(case flc=>k_is);(case fhT=>exact⟨rfl,rfl,⟨_,_,rfl⟩,⟨_,_,rfl⟩,⟨_,rfl⟩,⟨_,_,rfl⟩,by decide⟩))
  case fz=>refine' ⟨?_,?_,?_,?_,?_,?_,?_,?_,?_,?_,?_,?_,?_,?_,?_,?_,?_⟩ <;> k_is
