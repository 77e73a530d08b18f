import PyProof.Rows.All
import Wide.All
import OpenK.AllK
import Wide.FinOn
import Lean
import PyProof.EqAt
import PyProof.EqKinds
import PyProof.TupleCall
import PyProof.DictRoadsH
import PyProof.DictKinds
import PyProof.DictRoads
import PyProof.DictList
import PyProof.ListMulAny
import PyProof.StrLawsTight
import KE.KIntText
import PyProof.Rows.StrItems
import PyProof.StrWalks
import KE.KSortTup
import KE.KLam
import PyProof.ExcInit
import PyProof.ExcClass3
import PyProof.InstStoreFacts
import PyProof.ExcBaseAll.ValueError
import PyProof.ExcArgsOwn
import PyProof.ExcAttrAll.ValueError
import PyProof.Rows.RuleN_isinstance
import PyProof.AutoSeq1
import KE.KRevIter
import PyProof.Rows.FactsT2
import PyProof.ListRange
import PyProof.CollectWalk
import KE.KItemsList
import PyProof.ZipIter
import PySem.Challenge.RW_windround_k19_chains_planned
set_option compiler.extract_closed false
set_option bootstrap.genMatcherCode false
local macro_rules | `(tactic| omega) => `(tactic| first | assumption | lia)
set_option Elab.async false
set_option linter.all false
set_option maxRecDepth 100000
namespace L2
open PySem PySem.Spec PyProof.Rows
noncomputable abbrev Key:=Sum Int Str
noncomputable def keyIs:Key→Value→Bool
 | .inl k,v=>Value.isInt k v
 | .inr x,v=>Value.isStrOf x v
noncomputable def keyH (w:World):Key→Int
 | .inl k=>hashInt k
 | .inr x=>hashStr w x
theorem keyIs_shape:∀ {k:Key}{v:Value},keyIs k v=true→(∃ i t,k=Sum.inl i∧v=Value.int i t)∨(∃ x t,k=Sum.inr x∧v=Value.str x t)
 | .inl i,v,h=>by
  obtain ⟨t,e⟩:=Value.isInt_shape (k:=i) (v:=v) h
  exact .inl ⟨i,t,rfl,e⟩
 | .inr x,v,h=>by
  obtain ⟨t,e⟩:=Value.isStrOf_shape (x:=x) (v:=v) h
  exact .inr ⟨x,t,rfl,e⟩
theorem key_ll (a b:Int):decide ((Sum.inl a:Key)=Sum.inl b)=(a==b):=by
 by_cases e:a=b
 ·subst e;simp
 ·have h:¬(Sum.inl a:Key)=Sum.inl b:=fun q=>e (Sum.inl.inj q)
  rw [decide_eq_false h]
  exact (beq_eq_false_iff_ne.mpr e).symm
theorem key_rr (a b:Str):decide ((Sum.inr a:Key)=Sum.inr b)=decide (a=b):=by
 by_cases e:a=b
 ·subst e;simp
 ·have h:¬(Sum.inr a:Key)=Sum.inr b:=fun q=>e (Sum.inr.inj q)
  rw [decide_eq_false h,decide_eq_false e]
theorem key_lr (a:Int) (b:Str):decide ((Sum.inl a:Key)=Sum.inr b)=false:=decide_eq_false (fun q=>nomatch q)
theorem key_rl (a:Str) (b:Int):decide ((Sum.inr a:Key)=Sum.inl b)=false:=decide_eq_false (fun q=>nomatch q)
noncomputable def mixKind (prog:Program) (w:World):PySem.KeyKind prog w Key where
 is := keyIs
 hash:=keyH w
 inj := fun v a b ha hb=>by
  rcases keyIs_shape ha with ⟨i,t,rfl,rfl⟩|⟨x,t,rfl,rfl⟩
  ·rcases keyIs_shape hb with ⟨j,u,rfl,e⟩|⟨y,u,rfl,e⟩
   ·injection e with e1 _;rw[e1]
   ·exact nomatch e
  ·rcases keyIs_shape hb with ⟨j,u,rfl,e⟩|⟨y,u,rfl,e⟩
   ·exact nomatch e
   ·injection e with e1 _;rw[e1]
 byValue:=fun k v h=>by
  rcases keyIs_shape h with ⟨i,t,rfl,rfl⟩|⟨x,t,rfl,rfl⟩ <;> rfl
 pyHash:=fun hv h=>by
  rcases keyIs_shape hv with ⟨i,t,rfl,rfl⟩|⟨x,t,rfl,rfl⟩
  ·exact wpAny_pyHash_int h
  ·exact wpAny_pyHash_str h
 eqBool:=fun hu hv h=>by
  rcases keyIs_shape hu with ⟨i,t,rfl,rfl⟩|⟨x,t,rfl,rfl⟩
  ·rcases keyIs_shape hv with ⟨j,u,rfl,rfl⟩|⟨y,u,rfl,rfl⟩
   ·rw [key_ll] at h;exact wpAny_eqBool_int h
   ·rw [key_lr] at h;exact SeqAt.EqAt.int_str i t y u _ _ _ _ h
  ·rcases keyIs_shape hv with ⟨j,u,rfl,rfl⟩|⟨y,u,rfl,rfl⟩
   ·rw [key_rl] at h;exact SeqAt.EqAt.str_int x t j u _ _ _ _ h
   ·rw [key_rr] at h;exact wpAny_eqBool_str h
 «strs»:=fun k x t v h=>by
  rcases keyIs_shape h with ⟨i,u,rfl,e⟩|⟨y,u,rfl,e⟩
  ·exact nomatch e
  ·injection e with e1 _
   subst e1
   cases v <;> rfl
end L2
namespace L2
open PySem PySem.Spec PyProof.Rows
inductive V where
 | non|bl (b:Bool)|int (i:Int)|str (x:Str)|byt (b:Array UInt8)|flt (b:UInt64)|ref (a:Addr)|ty (n:String)
 deriving DecidableEq
noncomputable def RelV:V→Value→Prop
 | .non,u=>u=Value.none
 | .bl b,u=>u=Value.bool b
 | .int i,u=>∃ t,u=Value.int i t
 | .str x,u=>∃ t,u=Value.str x t
 | .byt b,u=>∃ t,u=Value.bytes b t
 | .flt b,u=>∃ t,u=Value.float b t
 | .ref a,u=>u=Value.ref a
 | .ty n,u=>u=Value.type n
noncomputable abbrev Vals:List V→List Value→Prop:=Paired RelV
theorem Vals.length {xs:List V}{us:List Value} (r:Vals xs us):xs.length=us.length:=Paired.length r
theorem Vals.get:∀ {xs:List V}{us:List Value}{i:Nat}{x:V},Vals xs us→xs[i]? = some x→∃ u,us[i]? = some u∧RelV x u
 | _,_,_,_,.nil,e=>by simp at e
 | _,_,0,_,.cons r _,e=>by simp at e;subst e;exact⟨_,rfl,r⟩
 | _,_,i+1,x,.cons _ t,e=>by
  obtain ⟨u,h1,h2⟩:=Vals.get (i:=i) (x:=x) t (by simpa using e)
  exact ⟨u,by simpa using h1,h2⟩
theorem Vals.set {x:V}{u:Value} (r:RelV x u):∀ {xs:List V}{us:List Value} (i:Nat),Vals xs us→Vals (xs.set i x) (us.set i u)
 | _,_,_,.nil=>.nil
 | _,_,0,.cons _ t=>.cons r t
 | _,_,i+1,.cons q t=>.cons q (Vals.set r i t)
theorem Vals.append:∀ {xs ys:List V}{us ws:List Value},Vals xs us→Vals ys ws→Vals (xs++ys) (us++ws)
 | _,_,_,_,.nil,s=>s
 | _,_,_,_,.cons r t,s=>.cons r (Vals.append t s)
theorem Vals.take:∀ {xs:List V}{us:List Value} (n:Nat),Vals xs us→Vals (xs.take n) (us.take n)
 | _,_,0,_=>.nil
 | _,_,_+1,.nil=>.nil
 | _,_,n+1,.cons r t=>.cons r (Vals.take n t)
theorem Vals.drop:∀ {xs:List V}{us:List Value} (n:Nat),Vals xs us→Vals (xs.drop n) (us.drop n)
 | _,_,0,r=>r
 | _,_,_+1,.nil=>.nil
 | _,_,n+1,.cons _ t=>Vals.drop n t
noncomputable def RelO:Option V→Option Value→Prop
 | some v,some u=>RelV v u
 | none,none=>True
 | _,_=>False
noncomputable def KV {κ:Type}:List (κ×V)→List (κ×Value)→Prop:=Paired fun (p:κ×V) (q:κ×Value)=>p.1=q.1∧RelV p.2 q.2
noncomputable def kV:Key→V
 | .inl i=>.int i
 | .inr x=>.str x
inductive HO where
 | lst (xs:List V)
 | tup (xs:List V)
 | dK (kvs:List (Key×V))|dT (kvs:List (List Key×V))
 | set (S:Int→Bool) (n:Nat)
 | ins (C dx:Addr) (fs:List (Str×V))
 | own (x:Addr)
 | xd (fs:List (Str×V))
 | met (f x:Addr)
 | rng (lo hi:Int)
 | frz (o:Obj) (u:HO)
 | tbl (q:Str)
 | ext (φ:Heap→Prop)
noncomputable abbrev Hp:=Addr→Option HO
noncomputable def Fix:HO→Prop
 | .tup _=>True
 | .frz _ _=>True
 | _=>False
noncomputable def TabOk (H:Hp) (h:Heap) (a:Addr) (q:Str):Prop:=∃ ps:Array Value,h.get? a=some { cls:=.none,data:=.fields ps }∧TriplesOk ps.toList ∧
 ∀ pos cv,codeAmong pos ps.toList=some cv→∃ c oc u vs t,cv=.ref c∧H c=some (.frz oc u)∧oc.data=.fields vs∧vs[1]? = some (.str q t)
noncomputable def upd (H:Hp) (a:Addr) (o:HO):Hp:=fun b=>if b=a then some o else H b
theorem upd_same {H:Hp}{a:Addr}{o:HO}:upd H a o a=some o:=by unfold upd;rw[if_pos rfl]
theorem upd_ne {H:Hp}{a b:Addr}{o:HO} (h:b≠a):upd H a o b=H b:=by unfold upd;rw[if_neg h]
theorem ne_of_none {H:Hp}{a b:Addr}{o:HO} (h:H a=some o) (h':H b=none):a≠b:=by
 intro e;subst e;rw[h] at h';cases h'
section
variable (P:Program) (w:World)
noncomputable def ObjOk (H:Hp) (h:Heap) (a:Addr):HO→Prop
 | .lst xs=>xs.length≤sizeLine∧∃ (its:List Value) (n:Nat),Vals xs its∧h.get? a=some { cls:=.type "list",data:=.seq its.toArray n }
 | .tup xs=>xs.length≤sizeLine∧∃ its:List Value,Vals xs its∧IsTup h a its.toArray
 | .dK kvs=>kvs.length≤sizeLine∧(a==sysModules)=false∧∃ vs,KV kvs vs∧h.DictOf (mixKind P w) a vs
 | .dT kvs=>kvs.length≤sizeLine∧(a==sysModules)=false∧∃ xs:List (List Key×Addr×Value),
   Paired (fun (p:List Key×V) (q:List Key×Addr×Value)=>p.1=q.1∧H q.2.1=some (.tup (p.1.map kV))∧RelV p.2 q.2.2) kvs xs ∧
   ∃ o es ep,h.get? a=some o∧o.ExactDict∧o.data=.dict es ep∧es.toList=xs.map (entryOfKey (tupleKind (mixKind P w)))∧(xs.map (·.1)).Nodup
 | .set S n=>h.SetOf (intKind P w) a S n
 | .ins C dx fs=>H dx=some (.own a)∧fs.length≤1000∧dx≠a∧h.get? a=some (PySem.W.instObj C dx) ∧
   ∃ mA,h.Ns1 dx mA∧(∀ f,RelO (fs.lookup f) (mA f))∧PySem.Within mA (fs.map (·.1))
 | .own _=>∃ o,h.get? a=some o
 | .xd fs=>∃ mA,h.Ns1 a mA∧∀ f,RelO (fs.lookup f) (mA f)
 | .rng lo hi=>∃ t u v,h.get? a=some { cls:=.type "range",data:=.fields #[.int lo t,.int hi u,.int 1 v] }
 | .frz o u=>h.get? a=some o∧ObjOk H h a u
 | .tbl q=>TabOk H h a q
 | .met f x=>h.get? a=some (PySem.W.methodObj (.ref f) (.ref x))
 | .ext φ=>φ h∧(∃ o,h.get? a=some o)∧∀ h1 h2:Heap,φ h1→(∀ o,h1.get? a=some o→h2.get? a=some o)→φ h2
noncomputable def HOk (H:Hp) (h:Heap):Prop:=∀ a o,H a=some o→ObjOk P w H h a o
end
section
variable {P:Program}{w:World}{H H':Hp}{h h':Heap}{a:Addr}{o:HO}
theorem ObjOk.lt (x:ObjOk P w H h a o):a<h.objs.size:=by
 cases o with
 | lst xs=>obtain⟨_,_,_,_,e⟩:=x;exact Heap.lt_size e
 | tup xs=>obtain⟨_,_,_,p⟩:=x;exact p.lt
 | dK kvs=>obtain⟨_,_,_,_,o,_,_,e,_⟩:=x;exact Heap.lt_size e
 | dT kvs=>obtain⟨_,_,_,_,o,_,_,e,_⟩:=x;exact Heap.lt_size e
 | set S n=>obtain⟨o,_,_,_,e,_⟩:=x;exact Heap.lt_size e
 | ins C dx fs=>obtain⟨_,_,_,e,_⟩:=x;exact Heap.lt_size e
 | own y=>obtain⟨_,e⟩:=x;exact Heap.lt_size e
 | xd fs=>obtain⟨_,⟨_,_,_,e,_⟩,_⟩:=x;exact Heap.lt_size e
 | rng lo hi=>obtain⟨_,_,_,e⟩:=x;exact Heap.lt_size e
 | frz ob u=>obtain⟨e,_⟩:=x;exact Heap.lt_size e
 | tbl q=>obtain⟨_,e,_⟩:=x;exact Heap.lt_size e
 | met f y=>exact Heap.lt_size (show h.get? a=some _ from x)
 | ext φ=>obtain⟨_,⟨_,e⟩,_⟩:=x;exact Heap.lt_size e
theorem Paired.mapP {α β:Type}{F G:α→β→Prop}:∀ {l₁:List α}{l₂:List β},Paired F l₁ l₂→(∀ a b,F a b→G a b)→Paired G l₁ l₂
 | _,_,.nil,_=>.nil
 | _,_,.cons r t,f=>.cons (f _ _ r) (Paired.mapP t f)
theorem ObjOk.stay (x:ObjOk P w H h a o) (k:∀ b u,(b=a∨H b=some (.own a))→h.get? b=some u→h'.get? b=some u)
  (ho:∀ b,H b=some (.own a)→H' b=some (.own a)) (ht:∀ b o,Fix o→H b=some o→H' b=some o):ObjOk P w H' h' a o:=by
 induction o with
 | lst xs=>obtain⟨z,its,n,r,e⟩:=x;exact⟨z,its,n,r,k _ _ (.inl rfl) e⟩
 | tup xs=>obtain⟨z,its,r,ob,e,c⟩:=x;exact⟨z,its,r,ob,k _ _ (.inl rfl) e,c⟩
 | dK kvs=>obtain⟨z,y,vs,r,ob,es,ep,e,c⟩:=x;exact⟨z,y,vs,r,ob,es,ep,k _ _ (.inl rfl) e,c⟩
 | dT kvs =>
  obtain ⟨z,y,xs,r,ob,es,ep,e,c⟩:=x
  exact ⟨z,y,xs,Paired.mapP r fun p q z=>⟨z.1,ht _ _ trivial z.2.1,z.2.2⟩,ob,es,ep,k _ _ (.inl rfl) e,c⟩
 | set S n=>obtain⟨ob,es,ep,t,e,c⟩:=x;exact⟨ob,es,ep,t,k _ _ (.inl rfl) e,c⟩
 | ins C dx fs =>
  obtain ⟨d,z,ne,e,mA,⟨od,es,ep,e2,c⟩,r⟩:=x
  exact ⟨ho _ d,z,ne,k _ _ (.inl rfl) e,mA,⟨od,es,ep,k _ _ (.inr d) e2,c⟩,r⟩
 | own y=>obtain⟨ob,e⟩:=x;exact⟨ob,k _ _ (.inl rfl) e⟩
 | xd fs=>obtain⟨mA,⟨od,es,ep,e,c⟩,r⟩:=x;exact⟨mA,⟨od,es,ep,k _ _ (.inl rfl) e,c⟩,r⟩
 | rng lo hi=>obtain⟨t,u,v,e⟩:=x;exact⟨t,u,v,k _ _ (.inl rfl) e⟩
 | frz ob u ih=>obtain⟨e,q⟩:=x;exact⟨k _ _ (.inl rfl) e,ih q⟩
 | tbl q =>
  obtain ⟨ps,e,t,c⟩:=x
  exact ⟨ps,k a _ (.inl rfl) e,t,fun pos cv hcv=>let ⟨b,oc,u,vs,t,e1,e2,e3⟩:=c pos cv hcv;⟨b,oc,u,vs,t,e1,ht _ _ trivial e2,e3⟩⟩
 | met f y =>
  have e:h.get? a=some (PySem.W.methodObj (.ref f) (.ref y)):=x
  show h'.get? a=some (PySem.W.methodObj (.ref f) (.ref y))
  exact k a _ (.inl rfl) e
 | ext φ=>obtain⟨p,⟨o,e⟩,st⟩:=x;exact⟨st _ _ p fun o q=>k _ _ (.inl rfl) q,⟨o,k _ _ (.inl rfl) e⟩,st⟩
theorem HOk.lt (x:HOk P w H h) (e:H a=some o):a<h.objs.size:=(x a o e).lt
theorem HOk.fresh (x:HOk P w H h) (e:h.objs.size≤a):H a=none:=by
 cases q:H a with
 | none=>rfl
 | some u=>exact absurd (Nat.lt_of_lt_of_le (x.lt q) e) (Nat.lt_irrefl _)
theorem HOk.kept (x:HOk P w H h) (k:∀ b u,h.get? b=some u→h'.get? b=some u):HOk P w H h':=fun a o e =>
 (x a o e).stay (fun b u _ q=>k b u q) (fun _ q=>q) fun _ _ _ q=>q
theorem HOk.laid (x:HOk P w H h) (k:∀ b u,h.get? b=some u→h'.get? b=some u) (hp:h.objs.size≤a) (new:ObjOk P w (upd H a o) h' a o):HOk P w (upd H a o) h':=fun b u e=>by
 have hn:=x.fresh hp
 by_cases hb:b=a
 ·subst hb;rw[upd_same] at e;cases e;exact new
 ·rw [upd_ne hb] at e
  exact (x b u e).stay (fun c v _ q=>k c v q) (fun c q=>by rw[upd_ne (ne_of_none q hn)];exact q) fun c xs _ q=>by rw[upd_ne (ne_of_none q hn)];exact q
end
noncomputable def Rd (H:Hp) (a:Addr) (u:HO):Prop:=H a=some u∨∃ o,H a=some (.frz o u)
theorem Rd.of {H:Hp}{a:Addr}{u:HO} (h:H a=some u):Rd H a u:=.inl h
theorem Rd.ok {P:Program}{w:World}{H:Hp}{h:Heap}{a:Addr}{u:HO} (r:Rd H a u) (x:HOk P w H h):ObjOk P w H h a u:=by
 rcases r with r|⟨o,r⟩
 ·exact x a u r
 ·obtain ⟨_,q⟩:=x a _ r
  exact q
noncomputable def Mut:Option HO→Prop
 | some (.lst _)=>True
 | some (.dK _)=>True
 | some (.dT _)=>True
 | some (.set _ _)=>True
 | some (.ins _ _ _)=>True
 | some (.ext _)=>True
 | _=>False
section
variable {P:Program}{w:World}{H:Hp}{h h':Heap}{x e:Addr}{o':HO}
theorem HOk.write (ok:HOk P w H h) (mu:Mut (H x)) (he:e=x∨H e=some (.own x)) (k:∀ b u,b≠e→h.get? b=some u→h'.get? b=some u) (heo:∃ u,h'.get? e=some u)
  (new:ObjOk P w (upd H x o') h' x o'):HOk P w (upd H x o') h':=fun b u q=>by
 have nown:∀ c y,H c=some (.own y)→c≠x:=fun c y r z=>by subst z;rw[r] at mu;exact mu
 have ntup:∀ c o,Fix o→H c=some o→c≠x:=fun c o f r z=>by subst z;rw[r] at mu;cases o <;> first|exact mu|exact f
 by_cases hb:b=x
 ·subst hb;rw[upd_same] at q;cases q;exact new
 ·rw [upd_ne hb] at q
  by_cases hbe:b=e
  ·have q':H b=some (.own x):=by
    rcases he with z|z
    ·exact absurd (hbe.trans z) hb
    ·rw [hbe];exact z
   rw [q] at q';cases q'
   obtain ⟨v,hv⟩:=heo
   exact ⟨v,by rw[hbe];exact hv⟩
  ·refine (ok b u q).stay (fun c v hc r=>k c v ?_ r) (fun c r=>by rw[upd_ne (nown c b r)];exact r) fun c xs f r=>by rw[upd_ne (ntup c xs f r)];exact r
   rcases hc with rfl|hc
   ·exact hbe
   ·rintro rfl
    rcases he with z|z
    ·exact nown c b hc z
    ·rw [hc] at z;cases z;exact hb rfl
end
structure Un (fs ex:List Addr) (H H':Hp) (h h':Heap):Prop where
 keep:∀ b o,h.get? b=some o→H b=none→b ∉ fs→b ∉ ex→h'.get? b=some o
 slot:∀ b o,h.get? b=some o→H b=none→b∈fs→b ∉ ex→∃ sl,h'.get? b=some { o with slots:=sl }
 free:∀ b o,h.get? b=some o→H b=none→b ∉ ex→H' b=none
 there:∀ b o,h.get? b=some o→b ∉ ex→∃ o',h'.get? b=some o'
 tups:∀ b xs,H b=some (.tup xs)→H' b=some (.tup xs)
 frzs:∀ b o u,H b=some (.frz o u)→H' b=some (.frz o u)
 tbls:∀ b q,H b=some (.tbl q)→H' b=some (.tbl q)
section
variable {fs fs' ex ex':List Addr}{H H1 H2:Hp}{h h1 h2 h':Heap}{a x e:Addr}{o:HO}
theorem Un.any (u:Un fs ex H H1 h h1) {b:Addr}{ob:Obj} (q:h.get? b=some ob) (n:H b=none) (hx:b ∉ ex):∃ sl,h1.get? b=some { ob with slots:=sl }:=by
 by_cases hb:b∈fs
 ·exact u.slot b ob q n hb hx
 ·exact ⟨ob.slots,u.keep b ob q n hb hx⟩
theorem Un.trans (a:Un fs ex H H1 h h1) (b:Un fs ex H1 H2 h1 h2):Un fs ex H H2 h h2 where
 keep:=fun c ob q n hc hx=>b.keep c ob (a.keep c ob q n hc hx) (a.free c ob q n hx) hc hx
 slot:=fun c ob q n hc hx=>by
  obtain ⟨sl,e1⟩:=a.slot c ob q n hc hx
  obtain ⟨sl',e2⟩:=b.slot c _ e1 (a.free c ob q n hx) hc hx
  exact ⟨sl',e2⟩
 free:=fun c ob q n hx=>by
  obtain ⟨o',e1⟩:=a.there c ob q hx
  exact b.free c o' e1 (a.free c ob q n hx) hx
 there:=fun c ob q hx=>by
  obtain ⟨o',e1⟩:=a.there c ob q hx
  exact b.there c o' e1 hx
 tups:=fun c xs q=>b.tups c xs (a.tups c xs q)
 frzs:=fun c ob xs q=>b.frzs c ob xs (a.frzs c ob xs q)
 tbls:=fun c ps q=>b.tbls c ps (a.tbls c ps q)
theorem Un.kept (k:∀ b u,h.get? b=some u→h'.get? b=some u):Un fs ex H H h h' :=
 ⟨fun b ob q _ _ _=>k b ob q,fun b ob q _ _ _=>⟨ob.slots,k b ob q⟩,fun _ _ _ n _=>n,fun b ob q _=>⟨ob,k b ob q⟩,fun _ _ q=>q,fun _ _ _ q=>q,fun _ _ q=>q⟩
theorem Un.refl:Un fs ex H H h h:=Un.kept fun _ _ q=>q
theorem Un.laid (k:∀ b u,h.get? b=some u→h'.get? b=some u) (hp:h.objs.size≤a) (hn:H a=none):Un fs ex H (upd H a o) h h' where
 keep:=fun b u q _ _ _=>k b u q
 slot:=fun b u q _ _ _=>⟨u.slots,k b u q⟩
 free:=fun b u q n _=>by rw[upd_ne (Nat.ne_of_lt (Nat.lt_of_lt_of_le (Heap.lt_size q) hp))];exact n
 there:=fun b u q _=>⟨u,k b u q⟩
 tups:=fun b xs q=>by rw[upd_ne (ne_of_none q hn)];exact q
 frzs:=fun b u xs q=>by rw[upd_ne (ne_of_none q hn)];exact q
 tbls:=fun b ps q=>by rw[upd_ne (ne_of_none q hn)];exact q
theorem Un.write (mu:Mut (H x)) (he:e=x∨H e=some (.own x)) (k:∀ b u,b≠e→h.get? b=some u→h'.get? b=some u) (heo:∃ u,h'.get? e=some u):Un fs ex H (upd H x o) h h':=by
 have hx:∀ b,H b=none→b≠x:=fun b n z=>by subst z;rw[n] at mu;exact mu
 have hb:∀ b,H b=none→b≠e:=fun b n z=>by
  subst z
  rcases he with r|r
  ·exact hx b n r
  ·rw [n] at r;cases r
 have hm:∀ b u,H b=some u→¬Mut (some u)→b≠x:=fun b u q nm z=>by subst z;rw[q] at mu;exact nm mu
 refine ⟨fun b u q n _ _=>k b u (hb b n) q,fun b u q n _ _=>⟨u.slots,k b u (hb b n) q⟩,fun b u q n _=>by rw[upd_ne (hx b n)];exact n,fun b u q _=>?_,
  fun b xs q=>by rw[upd_ne (hm b _ q fun z=>z)];exact q,fun b u xs q=>by rw[upd_ne (hm b _ q fun z=>z)];exact q,fun b ps q=>by rw[upd_ne (hm b _ q fun z=>z)];exact q⟩
 by_cases hbe:b=e
 ·subst hbe;exact heo
 ·exact ⟨u,k b u hbe q⟩
theorem Un.mono (u:Un fs ex H H1 h h1) (hs:∀ b∈fs,b∈fs') (hx:∀ b∈ex,b∈ex'):Un fs' ex' H H1 h h1 :=
 ⟨fun b ob q n hb he=>u.keep b ob q n (fun z=>hb (hs b z)) fun z=>he (hx b z),fun _ _ q n _ he=>u.any q n fun z=>he (hx _ z),fun b ob q n he=>u.free b ob q n fun z=>he (hx b z),fun b ob q he=>u.there b ob q fun z=>he (hx b z),u.tups,u.frzs,u.tbls⟩
end
noncomputable def trk (h:Heap) (H:Hp):List Addr:=(List.range h.objs.size).filter fun a=>(H a).isSome
noncomputable def hidT (h:Heap) (H:Hp):Heap:=PySem.W.hideAll h (trk h H)
theorem hidT_size (h:Heap) (H:Hp):(hidT h H).objs.size=h.objs.size:=PySem.W.hideAll_size _ _
theorem hidT_get {h:Heap}{H:Hp}{b:Addr}{o:Obj} (e:h.get? b=some o) (n:H b=none):(hidT h H).get? b=some o :=
 PySem.W.hideAll_get _ e fun hm=>by
  have q:(H b).isSome=true:=(List.mem_filter.mp hm).2
  rw [n] at q;simp at q
theorem of_hidT {h:Heap}{H:Hp}{b:Addr}{o:Obj} (e:(hidT h H).get? b=some o):h.get? b=some o∧H b=none:=by
 have e':h.get? b=some o:=PySem.W.of_hideAll (trk h H) e
 refine ⟨e',?_⟩
 cases q:H b with
 | none=>rfl
 | some x =>
  have hm:b∈trk h H:=List.mem_filter.mpr ⟨List.mem_range.mpr (Heap.lt_size e'),by simp[q]⟩
  have z:(hidT h H).get? b=none:=PySem.W.hideAll_none (trk h H) hm
  rw [z] at e;cases e
noncomputable def allNews (g h:Heap) (L:Addr):List (Addr×Obj):=(List.range h.objs.size).filterMap fun a=>if a=L∨(g.get? a).isSome=true then none else (h.get? a).map fun o=>(a,o)
noncomputable def rest (g h:Heap) (L d:Addr):List (Addr×Obj):=(allNews g h L).filter fun p=>decide (p.1≠d)
end L2
namespace L2
open PySem PySem.Spec PyProof.Rows
structure Mod (K:PySem.W.Frag) (mg:Str→Option Value) (base:Heap):Prop where
 kin:K.In base
 glob:base.Ns mainGlobals mg
 blt:∃ mb,base.Ns builtinsNs mb∧∀ x:Str,x ≠ "__name__" → mb x=bootBuiltins x
 nolimit:base.NoLimit
 bmain:∃ bm ob,mg "__builtins__" = some (.ref bm)∧bm≠builtinsNs∧base.get? bm=some ob∧ob.cls=.type "module" ∧ ob.dict=some builtinsNs∧ob.data=.plain
noncomputable def lamNames:List Str:=["choices", "full_rows", "chain_plan"]
noncomputable def LamTab (K:PySem.W.Frag) (T:Addr) (q:Str):Prop:=∃ x∈lamNames,∃ f o fd c oc vs,PySem.W.nsIn K mainGlobals x=some (some (.ref f))∧K.lookup f=some o∧o.data=.func fd∧fd.code=.ref c ∧
 K.lookup c=some oc∧oc.data=.fields vs∧vs[11]? = some (.ref T)∧q=x ++ ".<locals>.<lambda>"
noncomputable def TabsIn (K:PySem.W.Frag) (H:Hp):Prop:=∀ T q,LamTab K T q→H T=some (.tbl q)
structure Cx where
 prog:Program
 w : World
 K : PySem.W.Frag
 mg : Str→Option Value
 base:Heap
 A : Around
 N : List Str
 s₀ : Shared
 H₀ : Hp
 env:Env
 outer:List Env
 stack:List Env
 ex : List Addr
 fn : Str→Bool
 calm:Bool
 pn : List (Addr×Obj)
 xe : Value→Shared→Prop
noncomputable def frs (l:List Env):List Addr:=l.filterMap (·.frame)
noncomputable abbrev Cx.fs (X:Cx):List Addr:=frs X.outer
noncomputable def Vis (sc:Scope) (x:Str):Prop:=sc.names.lookup x=some .local∨sc.names.lookup x=some .cell∨sc.names.lookup x=some .free
noncomputable def Loc (sc:Scope) (x:Str):Prop:=sc.names.lookup x=some .local∨sc.names.lookup x=some .cell
noncomputable def Look (env:Env) (h:Heap) (m:Str→Option Value) (x:Str) (u:Value):Prop :=
 (env.kindOf x=some .local∧m x=some u)∨((env.kindOf x=some .cell∨env.kindOf x=some .free)∧∃ c,env.cells.lookup x=some c∧h.IsCell c (some u))
structure Cx.Ok (X:Cx):Prop where
 mod:Mod X.K X.mg X.base
 kind:X.env.scope.kind=.function
 glob:X.env.globals=mainGlobals
 blt:X.env.builtins=builtinsNs
 above:X.s₀.heap.objs.size≤X.env.locals
 inj:∀ x y c,X.env.cells.lookup x=some c→X.env.cells.lookup y=some c→x=y
 has:∀ x,(X.env.kindOf x=some .cell∨X.env.kindOf x=some .free)→∃ c,X.env.cells.lookup x=some c
 cab:∀ x c,X.fn x=true→X.env.cells.lookup x=some c→X.s₀.heap.objs.size≤c
 hd : X.calm=true→X.A.handled=none
 frames:X.A.frames=some X.stack
 stk:X.stack=X.outer∨(X.stack=X.env::X.outer∧X.env.frame=some X.env.locals)
 exf:∀ b∈X.ex,b≠X.env.locals∧∀ x c,X.env.cells.lookup x=some c→c≠b
 bs : ∀ b o,X.base.get? b=some o→X.s₀.heap.get? b=some o∧X.H₀ b=none
 bsz:X.base.objs.size≤X.s₀.heap.objs.size
 noex:∀ b o,X.base.get? b=some o→b ∉ X.ex
 exfs:∀ b∈X.ex,b ∉ X.fs
 funs:X.s₀.heap.FunFrames X.base X.outer
 frf:∀ b∈X.fs,X.H₀ b=none
 tab:TabsIn X.K X.H₀
structure Inv (X:Cx) (pins:List (Addr×Obj)) (σ:List (Option V)) (H:Hp) (s:Shared):Prop where
 ok : X.Ok
 os : s.os=X.s₀.os
 bare:AllBare s.gens
 base:Un X.fs X.ex X.H₀ H X.s₀.heap s.heap
 loc:∃ m,s.heap.Ns X.env.locals m∧∀ (i:Nat) (x:Str) (v:V),X.N[i]? = some x→σ[i]? = some (some v)→Vis X.env.scope x→∃ u,RelV v u∧Look X.env s.heap m x u
 cell:∀ x c,X.env.cells.lookup x=some c→∃ v,s.heap.IsCell c v
 free:H X.env.locals=none
 freeC:∀ x c,X.env.cells.lookup x=some c→H c=none
 pin:∀ p∈X.pn++pins,s.heap.get? p.1=some p.2∧H p.1=none∧p.1≠X.env.locals∧p.1 ∉ X.fs∧∀ v,p.2.data≠.cell v
 hok:HOk X.prog X.w H s.heap
 len:σ.length=X.N.length
section
variable {X:Cx}{pins:List (Addr×Obj)}{σ:List (Option V)}{H H':Hp}{s:Shared}{h':Heap}
theorem Cx.Ok.nofr (ok:X.Ok) {b:Addr}{o:Obj} (e:X.base.get? b=some o):b ∉ X.fs:=fun hb=>by
 have:=(ok.funs.mem hb).1
 rw [e] at this;cases this
theorem Inv.bs (I:Inv X pins σ H s):∀ b o,X.base.get? b=some o→s.heap.get? b=some o∧H b=none:=fun b o e =>
 ⟨I.base.keep b o (I.ok.bs b o e).1 (I.ok.bs b o e).2 (I.ok.nofr e) (I.ok.noex b o e),I.base.free b o (I.ok.bs b o e).1 (I.ok.bs b o e).2 (I.ok.noex b o e)⟩
theorem Inv.bk (I:Inv X pins σ H s):∀ b o,X.base.get? b=some o→s.heap.get? b=some o:=fun b o e=>(I.bs b o e).1
theorem Inv.mod (I:Inv X pins σ H s):Mod X.K X.mg X.base:=I.ok.mod
theorem Inv.kIn (I:Inv X pins σ H s):X.K.In s.heap:=I.ok.mod.kin.keeps I.bk
theorem Inv.nolimit (I:Inv X pins σ H s):s.heap.NoLimit:=I.ok.mod.nolimit.keeps I.bk
theorem Inv.fr (I:Inv X pins σ H s):∃ m,Fr X.base X.env.locals s.heap m :=
 let ⟨m,hn,_⟩:=I.loc
 ⟨m,hn,I.bk,Nat.le_trans I.ok.bsz I.ok.above⟩
theorem Inv.lt (I:Inv X pins σ H s):X.env.locals<s.heap.objs.size:=let ⟨_,hn,_⟩:=I.loc;hn.lt
theorem Inv.sz (I:Inv X pins σ H s):X.s₀.heap.objs.size≤s.heap.objs.size:=Nat.le_trans I.ok.above (Nat.le_of_lt I.lt)
theorem Inv.nofs (I:Inv X pins σ H s) {a:Addr} (h:s.heap.objs.size≤a):a ∉ X.fs:=fun hb=>by
 obtain ⟨_,o,ho,_⟩:=I.ok.funs.mem hb
 exact absurd (Nat.lt_of_lt_of_le (Heap.lt_size ho) (Nat.le_trans I.sz h)) (Nat.lt_irrefl _)
theorem Inv.cne (I:Inv X pins σ H s):∀ x c,X.env.cells.lookup x=some c→c≠X.env.locals:=fun x c e z=>by
 obtain ⟨v,o,ho,hd⟩:=I.cell x c e
 obtain ⟨m,⟨o',es,ep,ho',hd',_⟩,_⟩:=I.loc
 rw [z,ho'] at ho;cases ho;rw[hd'] at hd;cases hd
theorem Inv.funs (I:Inv X pins σ H s):s.heap.FunFrames X.base X.outer:=by
 have all:∀ (l:List Env),(∀ b∈frs l,b∈X.fs)→X.s₀.heap.FunFrames X.base l→s.heap.FunFrames X.base l:=by
  intro l
  induction l with
  | nil=>intro _ _;trivial
  | cons env r ih =>
   intro hs hl
   obtain ⟨hk,⟨L,o,hf,hn,ho,hd⟩,hr⟩:=hl
   have hL:L∈X.fs:=hs L (by unfold frs;rw[List.filterMap_cons,hf];exact List.mem_cons_self)
   obtain ⟨sl,e⟩:=I.base.slot L o ho (I.ok.frf L hL) hL fun z=>I.ok.exfs L z hL
   exact ⟨hk,⟨L,_,hf,hn,e,hd⟩,ih (fun b hb=>hs b (by unfold frs;rw[List.filterMap_cons,hf];exact List.mem_cons_of_mem _ hb)) hr⟩
 exact all X.outer (fun _ hb=>hb) I.ok.funs
theorem Inv.stack (I:Inv X pins σ H s):s.heap.FunFrames X.base X.stack:=by
 rcases I.ok.stk with e|⟨e,hf⟩
 ·rw [e];exact I.funs
 ·rw [e]
  obtain ⟨m,hn,_⟩:=I.loc
  refine .cons (by rw[I.ok.kind];decide) hf hn ?_ I.funs
  exact Heap.get?_none_of_le (Nat.le_trans I.ok.bsz I.ok.above)
theorem Inv.stkSub (I:Inv X pins σ H s):∀ b∈frs X.stack,b∈X.env.locals::X.fs:=fun b hb=>by
 rcases I.ok.stk with e|⟨e,hf⟩
 ·rw [e] at hb;exact List.mem_cons_of_mem _ hb
 ·rw [e] at hb
  unfold frs at hb
  rw [List.filterMap_cons,hf] at hb
  exact hb
theorem Inv.stkFree (I:Inv X pins σ H s):∀ b∈frs X.stack,H b=none:=fun b hb=>by
 rcases List.mem_cons.mp (I.stkSub b hb) with e|hb
 ·rw [e];exact I.free
 ·obtain ⟨_,o,ho,_⟩:=I.ok.funs.mem hb
  exact I.base.free b o ho (I.ok.frf b hb) fun z=>I.ok.exfs b z hb
theorem Inv.step {g':Array GenState}{t':Nat}{d':Drawn}{ch:List Addr} (I:Inv X pins σ H s)
  (hch:∀ b∈ch,(b∈X.ex∨X.s₀.heap.objs.size≤b)∧b≠X.env.locals∧(∀ x c,X.env.cells.lookup x=some c→c≠b)∧∀ p∈X.pn++pins,p.1≠b)
  (keep:∀ b o,b≠X.env.locals→b ∉ X.fs→b ∉ ch→s.heap.get? b=some o→H b=none→h'.get? b=some o)
  (slot:∀ b o,b≠X.env.locals→b∈X.fs→b ∉ ch→s.heap.get? b=some o→H b=none→∃ sl,h'.get? b=some { o with slots:=sl }) (free:∀ b o,b ∉ ch→s.heap.get? b=some o→H b=none→H' b=none)
  (there:∀ b o,b ∉ ch→s.heap.get? b=some o→∃ o',h'.get? b=some o')
  (tups:∀ b xs,H b=some (.tup xs)→H' b=some (.tup xs)) (frzs:∀ b o u,H b=some (.frz o u)→H' b=some (.frz o u)) (tbls:∀ b ps,H b=some (.tbl ps)→H' b=some (.tbl ps))
  (ns:∀ m,s.heap.Ns X.env.locals m→h'.Ns X.env.locals m) (hok:HOk X.prog X.w H' h') (hg:AllBare g') :
  Inv X pins σ H' { s with heap:=h',gens:=g',drawn:=d',toks:=t' }:=by
 have neL:∀ b o,X.s₀.heap.get? b=some o→b≠X.env.locals:=fun b o e=>Nat.ne_of_lt (Nat.lt_of_lt_of_le (Heap.lt_size e) I.ok.above)
 have neC:∀ b o,X.s₀.heap.get? b=some o→b ∉ X.ex→b ∉ ch:=fun b o e hx hb=>by
  rcases (hch b hb).1 with z|z
  ·exact hx z
  ·exact absurd (Nat.lt_of_lt_of_le (Heap.lt_size e) z) (Nat.lt_irrefl _)
 have cellK:∀ x c,X.env.cells.lookup x=some c→∀ v,s.heap.IsCell c v→h'.IsCell c v:=fun x c e v ⟨o,ho,hd⟩=>by
  have nch:c ∉ ch:=fun z=>(hch c z).2.2.1 x c e rfl
  by_cases hc:c∈X.fs
  ·obtain ⟨sl,q⟩:=slot c o (I.cne x c e) hc nch ho (I.freeC x c e)
   exact ⟨_,q,hd⟩
  ·exact ⟨o,keep c o (I.cne x c e) hc nch ho (I.freeC x c e),hd⟩
 refine ⟨I.ok,I.os,hg,⟨fun b o e n hb hx=>?_,fun b o e n hb hx=>?_,fun b o e n hx=>?_,fun b o e hx=>?_,fun b xs e=>tups b xs (I.base.tups b xs e),fun b o xs e=>frzs b o xs (I.base.frzs b o xs e),fun b ps e=>?_⟩,?_,fun x c e=>?_,?_,fun x c e=>?_,fun p hp=>?_,hok,I.len⟩
 ·exact keep b o (neL b o e) hb (neC b o e hx) (I.base.keep b o e n hb hx) (I.base.free b o e n hx)
 ·obtain ⟨sl,e1⟩:=I.base.slot b o e n hb hx
  obtain ⟨sl',e2⟩:=slot b _ (neL b o e) hb (neC b o e hx) e1 (I.base.free b o e n hx)
  exact ⟨sl',e2⟩
 ·obtain ⟨o',e1⟩:=I.base.there b o e hx
  exact free b o' (neC b o e hx) e1 (I.base.free b o e n hx)
 ·obtain ⟨o',e1⟩:=I.base.there b o e hx
  exact there b o' (neC b o e hx) e1
 ·exact tbls b ps (I.base.tbls b ps e)
 ·obtain ⟨m,hn,hl⟩:=I.loc
  refine ⟨m,ns m hn,fun i x v e1 e2 e3=>?_⟩
  obtain ⟨u,r,l⟩:=hl i x v e1 e2 e3
  refine ⟨u,r,?_⟩
  rcases l with l|⟨k,c,e,z⟩
  ·exact .inl l
  ·exact .inr ⟨k,c,e,cellK x c e _ z⟩
 ·obtain ⟨v,z⟩:=I.cell x c e
  exact ⟨v,cellK x c e v z⟩
 ·obtain ⟨m,⟨o,_,_,ho,_⟩,_⟩:=I.loc
  exact free _ o (fun z=>(hch _ z).2.1 rfl) ho I.free
 ·obtain ⟨v,o,ho,hd⟩:=I.cell x c e
  exact free c o (fun z=>(hch c z).2.2.1 x c e rfl) ho (I.freeC x c e)
 ·obtain ⟨e,n,ne,nf,d⟩:=I.pin p hp
  have nch:p.1 ∉ ch:=fun z=>(hch p.1 z).2.2.2 p hp rfl
  exact ⟨keep p.1 p.2 ne nf nch e n,free p.1 p.2 nch e n,ne,nf,d⟩
theorem Inv.un {t':Nat} (I:Inv X pins σ H s) (u:Un X.fs [] H H' s.heap h') (hok:HOk X.prog X.w H' h'):Inv X pins σ H' { s with heap:=h',toks:=t' }:=by
 obtain ⟨m,⟨o,es,ep,ho,r⟩,_⟩:=id I.loc
 obtain ⟨sl,hL⟩:=u.any ho I.free (by simp)
 exact I.step (g':=s.gens) (d':=s.drawn) (ch:=[]) (fun _ z=>nomatch z) (fun b o _ hb _ e n=>u.keep b o e n hb (by simp)) (fun b o _ hb _ e n=>u.slot b o e n hb (by simp)) (fun b o _ e n=>u.free b o e n (by simp)) (fun b o _ e=>u.there b o e (by simp)) u.tups u.frzs u.tbls (fun m' hm=>by
  obtain ⟨o',es',ep',ho',r'⟩:=hm
  rw [ho] at ho';cases ho'
  exact ⟨_,es',ep',hL,r'⟩) hok I.bare
theorem Inv.call {g':Array GenState}{t':Nat}{d':Drawn}{ch:List Addr} (I:Inv X pins σ H s) (u:Un (frs X.stack) ch H H' s.heap h') (hok:HOk X.prog X.w H' h') (hg:AllBare g')
  (hch:∀ b∈ch,(b∈X.ex∨X.s₀.heap.objs.size≤b)∧b≠X.env.locals∧(∀ x c,X.env.cells.lookup x=some c→c≠b)∧∀ p∈X.pn++pins,p.1≠b) :
  Inv X pins σ H' { s with heap:=h',gens:=g',drawn:=d',toks:=t' }:=by
 obtain ⟨m,⟨o,es,ep,ho,r⟩,_⟩:=id I.loc
 obtain ⟨sl,hL⟩:=u.any ho I.free fun z=>(hch _ z).2.1 rfl
 exact I.step (ch:=ch) hch (fun b o hL hb hc e n=>u.keep b o e n (fun z=>(List.mem_cons.mp (I.stkSub b z)).elim hL hb) hc) (fun b o _ _ hc e n=>u.any e n hc) (fun b o hc e n=>u.free b o e n hc) (fun b o hc e=>u.there b o e hc) u.tups u.frzs u.tbls (fun m' hm=>by
  obtain ⟨o',es',ep',ho',r'⟩:=hm
  rw [ho] at ho';cases ho'
  exact ⟨_,es',ep',hL,r'⟩) hok hg
theorem Inv.turned {t':Nat}{it:Addr} (I:Inv X pins σ H s) (k:∀ b o,b≠it→s.heap.get? b=some o→h'.get? b=some o) (hn:H it=none) (hL:it≠X.env.locals)
  (h1:it∈X.ex∨X.s₀.heap.objs.size≤it) (h2:∀ x c,X.env.cells.lookup x=some c→c≠it) (h3:∀ p∈X.pn++pins,p.1≠it):Inv X pins σ H { s with heap:=h',toks:=t' }:=by
 have nit:∀ b u,H b=some u→b≠it:=fun b u e z=>by rw[z,hn] at e;cases e
 refine I.step (g':=s.gens) (d':=s.drawn) (ch:=[it]) (fun b hb=>?_) (fun b o _ _ hc e _=>k b o (fun z=>hc (by simp[z])) e) (fun b o _ _ hc e _=>⟨o.slots,k b o (fun z=>hc (by simp[z])) e⟩) (fun _ _ _ _ n=>n)
  (fun b o hc e=>⟨o,k b o (fun z=>hc (by simp[z])) e⟩) (fun _ _ e=>e) (fun _ _ _ e=>e) (fun _ _ e=>e) (fun m hm=>?_) (fun b u e=>?_) I.bare
 ·have e:b=it:=by simpa using hb
  subst e
  exact ⟨h1,hL,h2,h3⟩
 ·obtain ⟨o,es,ep,ho,r⟩:=hm
  exact ⟨o,es,ep,k _ o (Ne.symm hL) ho,r⟩
 ·refine (I.hok b u e).stay (fun c v hc q=>k c v ?_ q) (fun _ q=>q) fun _ _ _ q=>q
  rcases hc with z|z
  ·rw [z];exact nit b u e
  ·exact nit c _ z
theorem Inv.tok (I:Inv X pins σ H s) (t:Nat):Inv X pins σ H { s with toks:=t }:=I.un (h':=s.heap) (t':=t) Un.refl I.hok
theorem Inv.kept {t':Nat} (I:Inv X pins σ H s) (k:∀ b u,s.heap.get? b=some u→h'.get? b=some u):Inv X pins σ H { s with heap:=h',toks:=t' }:=I.un (Un.kept k) (I.hok.kept k)
theorem Inv.laid {a:Addr}{o:HO}{t':Nat} (I:Inv X pins σ H s) (k:∀ b u,s.heap.get? b=some u→h'.get? b=some u) (hp:s.heap.objs.size≤a) (new:ObjOk X.prog X.w (upd H a o) h' a o) :
  Inv X pins σ (upd H a o) { s with heap:=h',toks:=t' }:=I.un (Un.laid k hp (I.hok.fresh hp)) (I.hok.laid k hp new)
theorem Inv.write {x e:Addr}{o:HO}{t':Nat} (I:Inv X pins σ H s) (mu:Mut (H x)) (he:e=x∨H e=some (.own x)) (k:∀ b u,b≠e→s.heap.get? b=some u→h'.get? b=some u) (heo:∃ u,h'.get? e=some u)
  (new:ObjOk X.prog X.w (upd H x o) h' x o):Inv X pins σ (upd H x o) { s with heap:=h',toks:=t' }:=I.un (Un.write mu he k heo) (I.hok.write mu he k heo new)
theorem Inv.pins_of {pins':List (Addr×Obj)} (I:Inv X pins σ H s) (h:∀ p∈pins',s.heap.get? p.1=some p.2∧H p.1=none∧p.1≠X.env.locals∧p.1 ∉ X.fs∧∀ v,p.2.data≠.cell v):Inv X pins' σ H s :=
 ⟨I.ok,I.os,I.bare,I.base,I.loc,I.cell,I.free,I.freeC,fun p hp=>(List.mem_append.mp hp).elim (fun z=>I.pin p (List.mem_append_left _ z)) (h p),I.hok,I.len⟩
theorem nodup_ix {N:List Str} (hN:N.Nodup) {i j:Nat}{x:Str} (a:N[i]? = some x) (b:N[j]? = some x):i=j:=by
 obtain ⟨h1,e1⟩:=List.getElem?_eq_some_iff.mp a
 obtain ⟨h2,e2⟩:=List.getElem?_eq_some_iff.mp b
 exact (List.getElem_inj hN).mp (e1.trans e2.symm)
theorem store_ok2 {M:Model}{A:Around}{E:Value→Shared→Prop}{i:Nat}{x:Str}{v:V}{u:Value}{Q:Unit→Shared→Prop} (I:Inv X pins σ H s) (hN:X.N.Nodup) (hi:X.N[i]? = some x) (hx:Loc X.env.scope x) (r:RelV v u)
  (h : ∀ s',Inv X pins (σ.set i (some v)) H s'→(∃ a,Heap.SameBut a s.heap s'.heap∧(a=X.env.locals∨X.env.cells.lookup x=some a))→Q () s') (hf:X.fn x=true∨X.env.scope.names.lookup x=some .local:=by first|exact .inl rfl|exact .inr rfl|assumption):wpAny M A (storeName X.env x u) Q E s:=by
 obtain ⟨m,hn,hl⟩:=id I.loc
 have hcls:(X.env.scope.kind==.class || (X.env.scope.kind==.module&&X.env.locals != X.env.globals))=false:=by rw[I.ok.kind];rfl
 have hiσ:i<σ.length:=by rw[I.len];exact (List.getElem?_eq_some_iff.mp hi).1
 have cne:=I.cne
 have tracked:∀ {a:Addr}{h':Heap},(∃ o,s.heap.get? a=some o∧H a=none)→Heap.SameBut a s.heap h'→HOk X.prog X.w H h':=fun {a h'} ha hs b ob e=>by
  obtain ⟨_,_,hfree⟩:=ha
  refine (I.hok b ob e).stay (fun c w' hc q=>(hs.2 c ?_).trans q) (fun _ q=>q) fun _ _ _ q=>q
  rintro rfl
  rcases hc with rfl|hc
  ·rw [hfree] at e;cases e
  ·rw [hfree] at hc;cases hc
 rcases hx with hk|hk
 ·refine wpAny_storeName_local hk hn (fun h' hn' hs=>?_) hcls
  obtain ⟨oL,_,_,hoL,_⟩:=id hn
  refine h _ ⟨I.ok,I.os,I.bare,⟨fun b o e n hb hx=>?_,fun b o e n hb hx=>?_,I.base.free,fun b o e hx=>?_,I.base.tups,I.base.frzs,I.base.tbls⟩,⟨_,hn',fun j y v' e1 e2 e3=>?_⟩,fun y c e=>?_,I.free,I.freeC,fun p hp=>?_,tracked ⟨oL,hoL,I.free⟩ hs,by simpa using I.len⟩ ⟨_,hs,.inl rfl⟩
  ·exact (hs.2 b (Nat.ne_of_lt (Nat.lt_of_lt_of_le (Heap.lt_size e) I.ok.above))).trans (I.base.keep b o e n hb hx)
  ·obtain ⟨sl,e1⟩:=I.base.slot b o e n hb hx
   exact ⟨sl,(hs.2 b (Nat.ne_of_lt (Nat.lt_of_lt_of_le (Heap.lt_size e) I.ok.above))).trans e1⟩
  ·obtain ⟨o',e1⟩:=I.base.there b o e hx
   exact ⟨o',(hs.2 b (Nat.ne_of_lt (Nat.lt_of_lt_of_le (Heap.lt_size e) I.ok.above))).trans e1⟩
  ·by_cases hj:j=i
   ·subst hj
    rw [hi] at e1;cases e1
    rw [List.getElem?_set_self hiσ] at e2
    cases e2
    exact ⟨u,r,.inl ⟨hk,by simp⟩⟩
   ·rw [List.getElem?_set_ne (Ne.symm hj)] at e2
    obtain ⟨u',r',q⟩:=hl j y v' e1 e2 e3
    refine ⟨u',r',?_⟩
    rcases q with ⟨k,e⟩|⟨k,c,e,z⟩
    ·refine .inl ⟨k,?_⟩
     have:y≠x:=fun e=>hj (nodup_ix hN e1 (e▸hi))
     simp [this,e]
    ·exact .inr ⟨k,c,e,z.sameBut hs (cne y c e)⟩
  ·obtain ⟨w',z⟩:=I.cell y c e
   exact ⟨w',z.sameBut hs (cne y c e)⟩
  ·obtain ⟨e,n,ne,nf,d⟩:=I.pin p hp
   exact ⟨(hs.2 p.1 ne).trans e,n,ne,nf,d⟩
 ·have hfn:X.fn x=true:=by
   rcases hf with z|z
   ·exact z
   ·rw [z] at hk;cases hk
  obtain ⟨c,hc⟩:=I.ok.has x (.inl hk)
  obtain ⟨w',z⟩:=I.cell x c hc
  refine wpAny_storeName_cell I.ok.kind hk hc z (fun h' hc' hs=>?_)
  obtain ⟨oc,hoc,hocd⟩:=id z
  refine h { s with heap:=h' } ⟨I.ok,I.os,I.bare,⟨fun b o e n hb hx=>?_,fun b o e n hb hx=>?_,I.base.free,fun b o e hx=>?_,I.base.tups,I.base.frzs,I.base.tbls⟩,⟨m,hn.sameBut hs (Ne.symm (cne x c hc)),fun j y v' e1 e2 e3=>?_⟩,fun y c' e=>?_,I.free,I.freeC,fun p hp=>?_,tracked ⟨oc,hoc,I.freeC x c hc⟩ hs,by simpa using I.len⟩ ⟨c,hs,.inr hc⟩
  ·exact (hs.2 b (Nat.ne_of_lt (Nat.lt_of_lt_of_le (Heap.lt_size e) (I.ok.cab x c hfn hc)))).trans (I.base.keep b o e n hb hx)
  ·obtain ⟨sl,e1⟩:=I.base.slot b o e n hb hx
   exact ⟨sl,(hs.2 b (Nat.ne_of_lt (Nat.lt_of_lt_of_le (Heap.lt_size e) (I.ok.cab x c hfn hc)))).trans e1⟩
  ·obtain ⟨o',e1⟩:=I.base.there b o e hx
   exact ⟨o',(hs.2 b (Nat.ne_of_lt (Nat.lt_of_lt_of_le (Heap.lt_size e) (I.ok.cab x c hfn hc)))).trans e1⟩
  ·by_cases hj:j=i
   ·subst hj
    rw [hi] at e1;cases e1
    rw [List.getElem?_set_self hiσ] at e2
    cases e2
    exact ⟨u,r,.inr ⟨.inl hk,c,hc,hc'⟩⟩
   ·rw [List.getElem?_set_ne (Ne.symm hj)] at e2
    obtain ⟨u',r',q⟩:=hl j y v' e1 e2 e3
    refine ⟨u',r',?_⟩
    rcases q with q|⟨k,c',e,z'⟩
    ·exact .inl q
    ·refine .inr ⟨k,c',e,z'.sameBut hs ?_⟩
     rintro rfl
     exact hj (nodup_ix hN e1 (I.ok.inj _ _ _ e hc▸hi))
  ·by_cases hcc:c'=c
   ·subst hcc;exact⟨_,hc'⟩
   ·obtain ⟨w2,z2⟩:=I.cell y c' e
    exact ⟨w2,z2.sameBut hs hcc⟩
  ·obtain ⟨e,n,ne,nf,d⟩:=I.pin p hp
   refine ⟨(hs.2 p.1 ?_).trans e,n,ne,nf,d⟩
   intro q
   rw [q,hoc] at e
   have q':oc=p.2:=Option.some.inj e
   exact d w' (by rw[←q'];exact hocd)
theorem store_ok {M:Model}{A:Around}{E:Value→Shared→Prop}{i:Nat}{x:Str}{v:V}{u:Value}{Q:Unit→Shared→Prop} (I:Inv X pins σ H s) (hN:X.N.Nodup) (hi:X.N[i]? = some x) (hx:Loc X.env.scope x) (r:RelV v u)
  (h : ∀ s',Inv X pins (σ.set i (some v)) H s'→Q () s') (hf:X.fn x=true∨X.env.scope.names.lookup x=some .local:=by first|exact .inl rfl|exact .inr rfl|assumption):wpAny M A (storeName X.env x u) Q E s :=
 store_ok2 I hN hi hx r (fun s' I' _=>h s' I') hf
theorem Inv.call' {s':Shared}{ch:List Addr} (I:Inv X pins σ H s) (ho:s'.os=s.os) (u:Un (frs X.stack) ch H H' s.heap s'.heap) (hok:HOk X.prog X.w H' s'.heap) (hg:AllBare s'.gens)
  (hch:∀ b∈ch,(b∈X.ex∨X.s₀.heap.objs.size≤b)∧b≠X.env.locals∧(∀ x c,X.env.cells.lookup x=some c→c≠b)∧∀ p∈X.pn++pins,p.1≠b):Inv X pins σ H' s':=by
 obtain ⟨h',g',d',t',o'⟩:=s'
 have e:o'=s.os:=ho
 subst e
 exact I.call (g':=g') (t':=t') (d':=d') u hok hg hch
end
noncomputable abbrev XK:=Value→Option Addr→Hp→Prop
noncomputable abbrev St:=List (Option V)
noncomputable abbrev VK:=V→Hp→Prop
noncomputable abbrev TE:=St→Hp→VK→Prop
noncomputable abbrev TT:=St→Hp→(Bool→Hp→Prop)→Prop
noncomputable abbrev TA:=St→Hp→(List V→Hp→Prop)→Prop
structure Ends where
 nx : St→Hp→Prop
 rt : VK
 bk : St→Hp→Prop:=fun _ _=>False
 ct : St→Hp→Prop:=fun _ _=>False
noncomputable abbrev TS:=Ends→St→Hp→Prop
noncomputable def EP (X:Cx) (pins:List (Addr×Obj)) (σ:St) (Q:VK) (u:Value) (s':Shared):Prop:=∃ v H',Inv X pins σ H' s'∧RelV v u∧Q v H'
noncomputable def TP (X:Cx) (pins:List (Addr×Obj)) (σ:St) (Q:Bool→Hp→Prop) (b:Bool) (s':Shared):Prop:=∃ H',Inv X pins σ H' s'∧Q b H'
noncomputable def AP (X:Cx) (pins:List (Addr×Obj)) (σ:St) (Q:List V→Hp→Prop) (us:List Value) (s':Shared):Prop:=∃ vs H',Inv X pins σ H' s'∧Vals vs us∧Q vs H'
noncomputable def SP (X:Cx) (pins:List (Addr×Obj)) (D:Ends) (f:Flow) (s':Shared):Prop :=
 match f with
 | .next=>∃ σ' H',Inv X pins σ' H' s'∧D.nx σ' H'
 | .brk=>∃ σ' H',Inv X pins σ' H' s'∧D.bk σ' H'
 | .cont=>∃ σ' H',Inv X pins σ' H' s'∧D.ct σ' H'
 | .ret u=>∃ v σ' H',Inv X pins σ' H' s'∧RelV v u∧D.rt v H'
noncomputable def PE (X:Cx) (e:Expr) (t:TE):Prop :=
 ∀ (pins:List (Addr×Obj)) (s:Shared) (σ:St) (H:Hp) (Q:VK),Inv X pins σ H s→t σ H Q→wpAny (model X.prog X.w) X.A (eval e X.env) (EP X pins σ Q) X.xe s
noncomputable def PT (X:Cx) (e:Expr) (t:TT):Prop :=
 ∀ (pins:List (Addr×Obj)) (s:Shared) (σ:St) (H:Hp) (Q:Bool→Hp→Prop),Inv X pins σ H s→t σ H Q→wpAny (model X.prog X.w) X.A (isTrue e X.env (eval e X.env)) (TP X pins σ Q) X.xe s
noncomputable def PW (X:Cx) (e:Expr) (t:TT):Prop :=
 ∀ (whole:Sem Value) (pins:List (Addr×Obj)) (s:Shared) (σ:St) (H:Hp) (Q:Bool→Hp→Prop),Inv X pins σ H s→t σ H Q→wpAny (model X.prog X.w) X.A (isTrue e X.env whole) (TP X pins σ Q) X.xe s
theorem PW.pt {X:Cx}{e:Expr}{t:TT} (h:PW X e t):PT X e t:=h _
noncomputable def PA (X:Cx) (es:List Expr) (t:TA):Prop :=
 ∀ (pos:Pos) (pins:List (Addr×Obj)) (s:Shared) (σ:St) (H:Hp) (Q:List V→Hp→Prop),Inv X pins σ H s→t σ H Q→wpAny (model X.prog X.w) X.A (spliced (backTo pos (starEach es X.env))) (AP X pins σ Q) X.xe s
noncomputable def PS (X:Cx) (st:Stmt) (t:TS):Prop :=
 ∀ (pins:List (Addr×Obj)) (s:Shared) (σ:St) (H:Hp) (D:Ends),Inv X pins σ H s→t D σ H→wpAny (model X.prog X.w) X.A (exec st X.env) (SP X pins D) X.xe s
noncomputable def PSs (X:Cx) (st:List Stmt) (t:TS):Prop :=
 ∀ (pins:List (Addr×Obj)) (s:Shared) (σ:St) (H:Hp) (D:Ends),Inv X pins σ H s→t D σ H→wpAny (model X.prog X.w) X.A (execs st X.env) (SP X pins D) X.xe s
theorem thn {α:Type}{t:Sem α}{Q Q':α→Shared→Prop}{M:Model}{A:Around}{E:Value→Shared→Prop}{s:Shared} (h:wpAny M A t Q E s) (hQ:∀ a s,Q a s→Q' a s):wpAny M A t Q' E s:=wpAny_mono h hQ fun _ _ x=>x
end L2
namespace L2
open PySem PySem.Spec PyProof.Rows
section
variable {X:Cx}
noncomputable def tVar (i:Nat):TE:=fun σ H Q=>∃ v,σ[i]? = some (some v)∧Q v H
noncomputable def tC (v:V):TE:=fun _ H Q=>Q v H
theorem pe_var {i:Nat}{x:Str}{pos:Pos} (hN:X.N[i]? = some x) (hv:Vis X.env.scope x) (hd:(x==("__debug__" : Str))=false:=by decide) (hcd:(x==("__classdict__" : Str))=false:=by decide):PE X (.Name x pos) (tVar i):=by
 intro pins s σ H Q I h
 obtain ⟨v,e,h⟩:=h
 obtain ⟨m,hn,hl⟩:=I.loc
 obtain ⟨u,r,l⟩:=hl i x v hN e hv
 have fin:EP X pins σ Q u s:=⟨v,H,I,r,h⟩
 rcases l with ⟨hk,hm⟩|⟨hk,c,hc,hcell⟩
 ·exact wpAny_Name (wpAny_loadName_local I.ok.kind hk hn hm fin) hd
 ·rcases hk with hk|hk
  ·exact wpAny_Name (wpAny_loadName_cell I.ok.kind hk hc hcell fin) hd
  ·exact wpAny_Name (wpAny_loadName_free I.ok.kind hk hc hcell fin hcd) hd
theorem pe_int {i j pos}:PE X (.Constant (.int i) j pos) (tC (.int i)):=fun _ _ _ H _ I h=>wpAny_Constant_int ⟨.int i,H,I.tok _,⟨_,rfl⟩,h⟩
theorem pe_bl {b j pos}:PE X (.Constant (.bool b) j pos) (tC (.bl b)):=fun _ _ _ H _ I h=>Constant_bool ⟨.bl b,H,I,rfl,h⟩
theorem pe_non {j pos}:PE X (.Constant .none j pos) (tC .non):=fun _ _ _ H _ I h=>Constant_none ⟨.non,H,I,rfl,h⟩
noncomputable def Gl (X:Cx) (x:Str):Prop:=X.env.kindOf x=some .globalImplicit
theorem ld_glob {E:Value→Shared→Prop}{pins:List (Addr×Obj)}{s:Shared}{σ:St}{H:Hp}{x:Str}{u:Value}{pos:Pos}{Q:Value→Shared→Prop} (I:Inv X pins σ H s) (hg:Gl X x) (hm:X.mg x=some u) (h:Q u s)
  (hd:(x==("__debug__" : Str))=false:=by decide):wpAny (model X.prog X.w) X.A (eval (.Name x pos) X.env) Q E s :=
 Calls.Name_function_global I.ok.kind hg (Calls.loadGlobal_global (by rw[I.ok.glob];exact I.mod.glob.keeps I.bk) hm h) hd
theorem ld_blt {E:Value→Shared→Prop}{pins:List (Addr×Obj)}{s:Shared}{σ:St}{H:Hp}{x:Str}{u:Value}{pos:Pos}{Q:Value→Shared→Prop} (I:Inv X pins σ H s) (hg:Gl X x) (hm:X.mg x=none) (hv:bootBuiltins x=some u) (h:Q u s)
  (hn:x ≠ "__name__" := by decide) (hd:(x==("__debug__" : Str))=false:=by decide):wpAny (model X.prog X.w) X.A (eval (.Name x pos) X.env) Q E s:=by
 obtain ⟨mb,h1,h2⟩:=I.mod.blt
 exact Calls.Name_function_global I.ok.kind hg (Calls.loadGlobal_builtin (by rw[I.ok.glob];exact I.mod.glob.keeps I.bk) hm (by rw[I.ok.blt];exact h1.keeps I.bk) ((h2 x hn).trans hv) h) hd
theorem pe_bltn {x:Str}{v:V}{u:Value}{pos:Pos} (hg:Gl X x) (hm:X.mg x=none) (hv:bootBuiltins x=some u) (r:RelV v u) (hn:x ≠ "__name__" := by decide) (hd:(x==("__debug__" : Str))=false:=by decide):PE X (.Name x pos) (tC v) :=
 fun _ _ _ H _ I h=>ld_blt I hg hm hv ⟨v,H,I,r,h⟩ hn hd
variable {a b:Expr}{ta tb:TE}{pos:Pos}
noncomputable def tB (t:TE):TT:=fun σ H Q=>t σ H fun x H1=>∃ c,x=.bl c∧Q c H1
theorem pt_val {e:Expr}{t:TE} (h:PE X e t) (he:∀ whole,isTrue e X.env whole=(do let v ←whole;standAt e.pos;holding [v] (truthy v)):=by intro _;rfl):PT X e (tB t):=by
 intro pins s σ H Q I hw
 refine isTrue_plain (thn (h pins s σ H _ I hw) fun v s1 ⟨x,H1,I1,r1,q1⟩=>?_) (he _)
 obtain ⟨d,rfl,q⟩:=q1
 cases r1
 exact wpAny_truthy_bool ⟨H1,I1,q⟩
variable {tA tB':TT}{rest:List Expr}
noncomputable def tAnd (t u:TT):TT:=fun σ H Q=>t σ H fun c H1=>if c=true then u σ H1 Q else Q false H1
noncomputable def tOr (t u:TT):TT:=fun σ H Q=>t σ H fun c H1=>if c=true then Q true H1 else u σ H1 Q
noncomputable def tNot (t:TT):TT:=fun σ H Q=>t σ H fun c H1=>Q (!c) H1
theorem pw_and1 (ha:PT X a tA):PW X (.BoolOp .And [a] pos) tA:=by
 intro wh pins s σ H Q I h
 refine isTrue_and (thn (ha pins s σ H Q I h) fun c s1 e=>?_)
 cases c with
 | true=>exact isTrue_and_nil e
 | false=>exact e
theorem pw_or1 (ha:PT X a tA):PW X (.BoolOp .Or [a] pos) tA:=by
 intro wh pins s σ H Q I h
 refine isTrue_or (thn (ha pins s σ H Q I h) fun c s1 e=>?_)
 cases c with
 | false=>exact isTrue_or_nil e
 | true=>exact e
theorem pw_and (ha:PT X a tA) (hb:PW X (.BoolOp .And (b::rest) pos) tB'):PW X (.BoolOp .And (a::b::rest) pos) (tAnd tA tB'):=by
 intro wh pins s σ H Q I h
 refine isTrue_and (thn (ha pins s σ H _ I h) fun c s1 ⟨H1,I1,q1⟩=>?_)
 cases c with
 | true=>exact hb wh pins s1 σ H1 Q I1 q1
 | false=>exact⟨H1,I1,q1⟩
theorem pw_or (ha:PT X a tA) (hb:PW X (.BoolOp .Or (b::rest) pos) tB'):PW X (.BoolOp .Or (a::b::rest) pos) (tOr tA tB'):=by
 intro wh pins s σ H Q I h
 refine isTrue_or (thn (ha pins s σ H _ I h) fun c s1 ⟨H1,I1,q1⟩=>?_)
 cases c with
 | true=>exact⟨H1,I1,q1⟩
 | false=>exact hb wh pins s1 σ H1 Q I1 q1
theorem pt_not (ha:PT X a tA):PT X (.UnaryOp .Not a pos) (tNot tA):=by
 intro pins s σ H Q I h
 exact isTrue_not (ha pins s σ H (fun c H1=>Q (!c) H1) I h)
end
end L2
namespace L2
open PySem PySem.Spec PyProof.Rows
noncomputable def SqL (K:PySem.W.Frag) (H:Hp) (a:Addr) (xs:List V):Prop :=
 Rd H a (.lst xs) ∨
  ∃ (o:Obj) (its:Array Value) (n:Nat),K.lookup a=some o∧o.cls=.type "list" ∧ o.dict=none∧o.data=.seq its n∧its.size≤sizeLine∧Vals xs its.toList
noncomputable def SqT (K:PySem.W.Frag) (H:Hp) (a:Addr) (xs:List V):Prop :=
 Rd H a (.tup xs) ∨
  ∃ (o:Obj) (its:Array Value) (n:Nat),K.lookup a=some o∧o.cls=.type "tuple" ∧ o.data=.seq its n∧its.size≤sizeLine∧Vals xs its.toList
noncomputable def absV:Value→Option V
 | .none=>some .non
 | .bool b=>some (.bl b)
 | .int i _=>some (.int i)
 | .str x _=>some (.str x)
 | .bytes b _=>some (.byt b)
 | .float b _=>some (.flt b)
 | .ref a=>some (.ref a)
 | .type n=>some (.ty n)
 | _=>none
theorem RelV.abs {x:V}{u:Value} (r:RelV x u):absV u=some x:=by
 cases x with
 | non=>cases r;rfl
 | bl _=>cases r;rfl
 | int _=>obtain⟨t,rfl⟩:=r;rfl
 | str _=>obtain⟨t,rfl⟩:=r;rfl
 | byt _=>obtain⟨t,rfl⟩:=r;rfl
 | flt _=>obtain⟨t,rfl⟩:=r;rfl
 | ref _=>cases r;rfl
 | ty _=>cases r;rfl
theorem RelV.inj {x y:V}{u:Value} (r:RelV x u) (q:RelV y u):x=y:=Option.some.inj (r.abs.symm.trans q.abs)
theorem Vals.inj:∀ {xs ys:List V}{us:List Value},Vals xs us→Vals ys us→xs=ys
 | _,_,_,.nil,.nil=>rfl
 | _,_,_,.cons r t,.cons r' t'=>by rw[r.inj r',Vals.inj t t']
section
variable {X:Cx}{pins:List (Addr×Obj)}{σ:St}{H:Hp}{s:Shared}{a:Addr}{xs ys:List V}
theorem SqL.of {K:PySem.W.Frag} (h:H a=some (.lst xs)):SqL K H a xs:=.inl (.inl h)
theorem SqT.of {K:PySem.W.Frag} (h:H a=some (.tup xs)):SqT K H a xs:=.inl (.inl h)
theorem Inv.list (I:Inv X pins σ H s) (h:SqL X.K H a xs):∃ its:List Value,Vals xs its∧PlainL s.heap a its.toArray∧xs.length≤sizeLine:=by
 rcases h with h|⟨o,its,n,hk,hc,hd,hs,hz,r⟩
 ·obtain ⟨z,its,n,r,e⟩:=h.ok I.hok
  exact ⟨its,r,⟨_,n,e,rfl,rfl,rfl⟩,z⟩
 ·refine ⟨its.toList,r,⟨o,n,I.kIn a o hk,hc,hd,by simpa using hs⟩,?_⟩
  have e:=r.length
  simp only [Array.length_toList] at e
  omega
theorem Inv.tuple (I:Inv X pins σ H s) (h:SqT X.K H a xs):∃ its:List Value,Vals xs its∧IsTup s.heap a its.toArray∧xs.length≤sizeLine:=by
 rcases h with h|⟨o,its,n,hk,hc,hs,hz,r⟩
 ·obtain ⟨z,its,r,p⟩:=h.ok I.hok
  exact ⟨its,r,p,z⟩
 ·refine ⟨its.toList,r,⟨o,I.kIn a o hk,hc,n,by simpa using hs⟩,?_⟩
  have e:=r.length
  simp only [Array.length_toList] at e
  omega
theorem Inv.list_inj (I:Inv X pins σ H s) (h:SqL X.K H a xs) (h':SqL X.K H a ys):xs=ys:=by
 obtain ⟨its,r,⟨o,n,e,_,_,d⟩,_⟩:=I.list h
 obtain ⟨its',r',⟨o',n',e',_,_,d'⟩,_⟩:=I.list h'
 rw [e] at e';cases e'
 rw [d] at d'
 injection d' with d1 _
 have:its=its':=by simpa using congrArg Array.toList d1
 subst this
 exact r.inj r'
theorem Inv.tuple_inj (I:Inv X pins σ H s) (h:SqT X.K H a xs) (h':SqT X.K H a ys):xs=ys:=by
 obtain ⟨its,r,⟨o,e,_,n,d⟩,_⟩:=I.tuple h
 obtain ⟨its',r',⟨o',e',_,n',d'⟩,_⟩:=I.tuple h'
 rw [e] at e';cases e'
 rw [d] at d'
 injection d' with d1 _
 have:its=its':=by simpa using congrArg Array.toList d1
 subst this
 exact r.inj r'
end
noncomputable abbrev Cx.wish (X:Cx) (E:Value→Shared→Prop):Cx:={ X with xe:=E }
noncomputable abbrev Cx.nox (X:Cx):Cx:=X.wish fun _ _=>False
theorem Cx.Ok.wish {X:Cx} (ok:X.Ok) (E:Value→Shared→Prop):(X.wish E).Ok :=
 ⟨ok.mod,ok.kind,ok.glob,ok.blt,ok.above,ok.inj,ok.has,ok.cab,ok.hd,ok.frames,ok.stk,ok.exf,ok.bs,ok.bsz,ok.noex,ok.exfs,ok.funs,ok.frf,ok.tab⟩
theorem Cx.Ok.unwish {X:Cx}{E:Value→Shared→Prop} (ok:(X.wish E).Ok):X.Ok :=
 ⟨ok.mod,ok.kind,ok.glob,ok.blt,ok.above,ok.inj,ok.has,ok.cab,ok.hd,ok.frames,ok.stk,ok.exf,ok.bs,ok.bsz,ok.noex,ok.exfs,ok.funs,ok.frf,ok.tab⟩
section
variable {X:Cx}{pins:List (Addr×Obj)}{σ:St}{H:Hp}{s:Shared}{E:Value→Shared→Prop}
theorem Inv.wish (I:Inv X pins σ H s) (E:Value→Shared→Prop):Inv (X.wish E) pins σ H s:=⟨I.ok.wish E,I.os,I.bare,I.base,I.loc,I.cell,I.free,I.freeC,I.pin,I.hok,I.len⟩
theorem Inv.unwish (I:Inv (X.wish E) pins σ H s):Inv X pins σ H s:=⟨I.ok.unwish,I.os,I.bare,I.base,I.loc,I.cell,I.free,I.freeC,I.pin,I.hok,I.len⟩
theorem SP.unwish {D:Ends}{f:Flow}{s':Shared} (h:SP (X.wish E) pins D f s'):SP X pins D f s':=by
 cases f with
 | next=>obtain⟨σ',H',I,q⟩:=h;exact⟨σ',H',I.unwish,q⟩
 | brk=>obtain⟨σ',H',I,q⟩:=h;exact⟨σ',H',I.unwish,q⟩
 | cont=>obtain⟨σ',H',I,q⟩:=h;exact⟨σ',H',I.unwish,q⟩
 | ret u=>obtain⟨v,σ',H',I,r,q⟩:=h;exact⟨v,σ',H',I.unwish,r,q⟩
theorem PE.nox {e:Expr}{t:TE} (h:PE X.nox e t):PE X e t:=fun pins s σ H Q I hw =>
 wpAny_mono (h pins s σ H Q (I.wish _) hw) (fun _ _ ⟨v,H',I',r,q⟩=>⟨v,H',I'.unwish,r,q⟩) fun _ _ z=>False.elim z
theorem PT.nox {e:Expr}{t:TT} (h:PT X.nox e t):PT X e t:=fun pins s σ H Q I hw =>
 wpAny_mono (h pins s σ H Q (I.wish _) hw) (fun _ _ ⟨H',I',q⟩=>⟨H',I'.unwish,q⟩) fun _ _ z=>False.elim z
theorem PSs.nox {st:List Stmt}{t:TS} (h:PSs X.nox st t):PSs X st t:=fun pins s σ H D I hw =>
 wpAny_mono (h pins s σ H D (I.wish _) hw) (fun _ _ q=>q.unwish) fun _ _ z=>False.elim z
end
section
variable {X:Cx}{st:Stmt}{rest:List Stmt}{t u:TS}{e:Expr}{te:TE}{pos:Pos}
noncomputable def tNext:TS:=fun D σ H=>D.nx σ H
noncomputable def tSeq (t u:TS):TS:=fun D σ H=>t { D with nx:=u D } σ H
theorem pss_nil:PSs X [] tNext:=fun _ _ σ H _ I h=>wpAny_execs_nil ⟨σ,H,I,h⟩
theorem pss_cons (h1:PS X st t) (h2:PSs X rest u):PSs X (st::rest) (tSeq t u):=by
 intro pins s σ H D I h
 refine wpAny_execs_cons (thn (h1 pins s σ H { D with nx:=u D } I h) fun f s1 q=>?_)
 cases f with
 | next =>
  obtain ⟨σ',H',I',q⟩:=q
  exact h2 pins s1 σ' H' D I' q
 | ret v=>exact q
 | brk=>exact q
 | cont=>exact q
theorem pss_one (h1:PS X st t):PSs X [st] t:=by
 intro pins s σ H D I h
 refine wpAny_execs_cons (thn (h1 pins s σ H D I h) fun f s1 q=>?_)
 cases f with
 | next=>exact wpAny_execs_nil q
 | ret v=>exact q
 | brk=>exact q
 | cont=>exact q
theorem Inv.quiet {pins:List (Addr×Obj)}{σ:St}{H:Hp}{s:Shared} (I:Inv X pins σ H s):interactive X.env=false:=by simp[interactive,I.ok.kind]
noncomputable def tDrop (te:TE):TS:=fun D σ H=>te σ H fun _ H1=>D.nx σ H1
theorem ps_expr (he:PE X e te) (hs:swapsWith e none pos.line X.env=pure false:=by rfl):PS X (.Expr e pos) (tDrop te):=by
 intro pins s σ H D I h
 exact wpAny_Expr_any (thn (he pins s σ H _ I h) fun v s1 ⟨x,H1,I1,r1,q1⟩=>⟨σ,H1,I1,q1⟩) I.quiet hs
noncomputable def tRet (te:TE):TS:=fun D σ H=>te σ H D.rt
theorem ps_ret (he:PE X e te):PS X (.Return (some e) pos) (tRet te):=by
 intro pins s σ H D I h
 exact wpAny_Return_some (thn (he pins s σ H _ I h) fun v s1 ⟨x,H1,I1,r1,q1⟩=>⟨x,σ,H1,I1,r1,q1⟩)
noncomputable def tIfS (c:TT) (t u:TS):TS:=fun D σ H=>c σ H fun b H1=>if b=true then t D σ H1 else u D σ H1
theorem ps_if {c:Expr}{a b:List Stmt}{tc:TT} (hc:PT X c tc) (ha:PSs X a t) (hb:PSs X b u):PS X (.If c a b pos) (tIfS tc t u):=by
 intro pins s σ H D I h
 refine wpAny_If (thn (hc pins s σ H _ I h) fun d s1 ⟨H1,I1,q1⟩=>?_)
 cases d with
 | true=>exact ha pins s1 σ H1 D I1 q1
 | false=>exact hb pins s1 σ H1 D I1 q1
end
noncomputable abbrev TG:=V→St→Hp→(St→Hp→Prop)→Prop
noncomputable abbrev TGs:=List V→St→Hp→(St→Hp→Prop)→Prop
noncomputable def PG (X:Cx) (target:Expr) (t:TG):Prop :=
 ∀ (pins:List (Addr×Obj)) (s:Shared) (σ:St) (H:Hp) (v:V) (u:Value) (Q:St→Hp→Prop),Inv X pins σ H s→RelV v u→t v σ H Q →
  wpAny (model X.prog X.w) X.A (assign target X.env u) (fun _ s'=>∃ σ' H',Inv X pins σ' H' s'∧Q σ' H') X.xe s
noncomputable def PGs (X:Cx) (ts:List Expr) (t:TGs):Prop :=
 ∀ (pins:List (Addr×Obj)) (s:Shared) (σ:St) (H:Hp) (vs:List V) (us:List Value) (Q:St→Hp→Prop),Inv X pins σ H s→Vals vs us→t vs σ H Q →
  wpAny (model X.prog X.w) X.A (assignInOrder ((assignEach ts X.env).map (·.2)) us) (fun _ s'=>∃ σ' H',Inv X pins σ' H' s'∧Q σ' H') X.xe s
noncomputable abbrev TSet:=V→V→V→Hp→(Hp→Prop)→Prop
noncomputable def PSet (X:Cx) (t:TSet):Prop :=
 ∀ (pins:List (Addr×Obj)) (s:Shared) (σ:St) (H:Hp) (o i v:V) (ov iv u:Value) (Q:Hp→Prop),Inv X pins σ H s→RelV o ov→RelV i iv→RelV v u→t o i v H Q →
  wpAny (model X.prog X.w) X.A (setItem ov iv u) (fun _ s'=>∃ H',Inv X pins σ H' s'∧Q H') X.xe s
section
variable {X:Cx}{pos:Pos}
noncomputable def gName (i:Nat):TG:=fun v σ H Q=>Q (σ.set i (some v)) H
theorem pg_name {i:Nat}{x:Str} (hN:X.N.Nodup) (hi:X.N[i]? = some x) (hx:Loc X.env.scope x) (hf:X.fn x=true∨X.env.scope.names.lookup x=some .local:=by first|exact .inl rfl|exact .inr rfl|assumption):PG X (.Name x pos) (gName i):=by
 intro pins s σ H v u Q I r h
 exact wpAny_assign_Name (store_ok I hN hi hx r (fun s' I'=>⟨_,H,I',h⟩) hf)
noncomputable def gNil:TGs:=fun vs σ H Q=>vs=[]∧Q σ H
noncomputable def gCons (t:TG) (u:TGs):TGs:=fun vs σ H Q=>∃ v r,vs=v::r∧t v σ H fun σ' H'=>u r σ' H' Q
theorem pgs_nil:PGs X [] gNil:=by
 intro pins s σ H vs us Q I r h
 obtain ⟨e,h⟩:=h
 subst e
 cases r
 exact assignInOrder_nil ⟨σ,H,I,h⟩
theorem pgs_cons {e:Expr}{es:List Expr}{t:TG}{u:TGs} (h1:PG X e t) (h2:PGs X es u)
  (hs:(assignEach (e::es) X.env).map (·.2)=assign e X.env::(assignEach es X.env).map (·.2):=by rfl):PGs X (e::es) (gCons t u):=by
 intro pins s σ H vs us Q I r h
 obtain ⟨v,vr,e1,h⟩:=h
 subst e1
 cases r with
 | cons r rr =>
  rw [hs]
  refine assignInOrder_cons (thn (h1 pins s σ H _ _ _ I r h) fun _ s1 ⟨σ1,H1,I1,q1⟩=>?_)
  exact h2 pins s1 σ1 H1 _ _ Q I1 rr q1
noncomputable def gTup (K:PySem.W.Frag) (n:Nat) (t:TGs):TG:=fun v σ H Q=>∃ a xs,v=.ref a∧SqT K H a xs∧xs.length=n∧t xs σ H Q
theorem pg_tup {es:List Expr}{k:Nat}{t:TGs}{n:Nat} (hc:X.calm=true) (h:PGs X es t)
  (hn:(assignEach es X.env).length=n:=by rfl) (hst:(assignEach es X.env).findIdx? (·.1)=none:=by rfl):PG X (.Tuple es k pos) (gTup X.K n t):=by
 intro pins s σ H v u Q I r hw
 obtain ⟨a,xs,e1,hq,hl,hw⟩:=hw
 subst e1
 cases r
 obtain ⟨its,rv,ht,hz⟩:=I.tuple hq
 refine assign_Tuple_tuple (I.ok.hd hc) ht (by simp[hn,←hl,rv.length]) hst fun h' hx=>?_
 have I1:Inv X pins σ H { s with heap:=h' }:=I.kept (t':=s.toks) fun b o e=>hx b o (Nat.ne_of_lt (Heap.lt_size e)) e
 exact h pins _ σ H xs _ Q I1 (by simpa using rv) hw
noncomputable def gSub (to ti:TE) (t:TSet):TG:=fun v σ H Q=>to σ H fun o H1=>ti σ H1 fun i H2=>t o i v H2 fun H3=>Q σ H3
theorem pg_sub {o i:Expr}{to ti:TE}{t:TSet} (ho:PE X o to) (hi:PE X i ti) (hs:PSet X t)
  (ha:∀ v,assign (.Subscript o i pos) X.env v=(do
   let ov ←holding [v] (eval o X.env)
   let iv ←holding [v,ov] (eval i X.env)
   standAt pos
   holding [v,ov,iv] (setItem ov iv v)
   release [v,ov,iv] []):=by intro _;rfl):PG X (.Subscript o i pos) (gSub to ti t):=by
 intro pins s σ H v u Q I r h
 rw [ha]
 refine wpAny_bind (wpAny_holding (thn (ho pins s σ H _ I h) fun ov s1 ⟨x,H1,I1,r1,q1⟩=>?_))
 refine wpAny_bind (wpAny_holding (thn (hi pins s1 σ H1 _ I1 q1) fun iv s2 ⟨y,H2,I2,r2,q2⟩=>?_))
 refine wpAny_bind (wpAny_standAt (wpAny_bind (wpAny_holding (thn (hs pins s2 σ H2 x y v ov iv u _ I2 r1 r2 r q2) fun _ s3 ⟨H3,I3,q3⟩=>?_))))
 exact wpAny_release ⟨σ,H3,I3,q3⟩
noncomputable def tAsg (te:TE) (g:TG):TS:=fun D σ H=>te σ H fun x H1=>g x σ H1 D.nx
theorem ps_asg {tg e:Expr}{te:TE}{g:TG} (he:PE X e te) (hg:PG X tg g) (hs:swapsWithSole [tg] e pos.line X.env=pure false:=by rfl) (hw:swappedStores [tg] e X.env=pure none:=by rfl)
  (h1:(assignEach [tg] X.env).map (·.2)=[assign tg X.env]:=by rfl):PS X (.Assign [tg] e pos) (tAsg te g):=by
 intro pins s σ H D I h
 refine wpAny_Assign_stores (thn (he pins s σ H _ I h) fun v s1 ⟨x,H1,I1,r1,q1⟩=>?_) hs hw
 rw [h1]
 exact thn (hg pins s1 σ H1 x v _ I1 r1 q1) fun _ s2 q=>q
theorem ps_set {i:Nat}{x:Str}{e:Expr}{te:TE}{pos':Pos} (hN:X.N.Nodup) (hi:X.N[i]? = some x) (hx:Loc X.env.scope x) (he:PE X e te) (hs:swapsWith e (some (.Name x pos')) pos.line X.env=pure false:=by rfl) (hf:X.fn x=true∨X.env.scope.names.lookup x=some .local:=by first|exact .inl rfl|exact .inr rfl|assumption) :
  PS X (.Assign [.Name x pos'] e pos) (tAsg te (gName i)):=by
 intro pins s σ H D I h
 refine wpAny_Assign_Name (thn (he pins s σ H _ I h) fun v s1 ⟨y,H1,I1,r1,q1⟩=>?_) hs
 exact store_ok I1 hN hi hx r1 (fun s2 I2=>⟨_,H1,I2,q1⟩) hf
noncomputable def tPar (i j:Nat) (ta:TA):TS:=fun D σ H=>ta σ H fun vs H1=>∃ v w,vs=[v,w]∧D.nx ((σ.set i (some v)).set j (some w)) H1
theorem ps_par {i j:Nat}{x y:Str}{a b:Expr}{ta:TA}{px py pt:Pos}{kt k2 pt2} (hc:X.calm=true) (hN:X.N.Nodup) (hi:X.N[i]? = some x) (hj:X.N[j]? = some y) (hij:i≠j)
  (hx:X.env.scope.names.lookup x=some .local) (hy:X.env.scope.names.lookup y=some .local) (ha:PA X [a,b] ta)
  (hw:swappedStores [.Tuple [.Name x px,.Name y py] kt pt] (.Tuple [a,b] k2 pt2) X.env=pure (some [x,y]))
  (hs:swapsWithSole [.Tuple [.Name x px,.Name y py] kt pt] (.Tuple [a,b] k2 pt2) pos.line X.env=pure false:=by rfl) :
  PS X (.Assign [.Tuple [.Name x px,.Name y py] kt pt] (.Tuple [a,b] k2 pt2) pos) (tPar i j ta):=by
 intro pins s σ H D I h
 rw [exec_Assign_arm]
 refine wpAny_bind (wpAny_standAt ?_)
 rw [hs]
 refine wpAny_bind (wpAny_pure ?_)
 rw [if_neg (by decide)]
 refine wpAny_bind (Tuple_ (thn (ha _ pins s σ H _ I h) fun us s1 ⟨vs,H1,I1,r1,q1⟩=>?_))
 obtain ⟨v,w,e1,q1⟩:=q1
 subst e1
 obtain ⟨u1,u2,rfl,rv,rw'⟩:∃ u1 u2,us=[u1,u2]∧RelV v u1∧RelV w u2:=by
  cases r1 with
  | cons p q =>
   cases q with
   | cons p' q' =>
    cases q'
    exact ⟨_,_,rfl,p,p'⟩
 refine wpAny_newObj_type ?_ (by show 2≤sizeLine;decide)
 have I2:Inv X pins σ H1 { s1 with heap:=s1.heap.push { cls:=.type "tuple",data:=.seq [u1,u2].toArray } }:=I1.kept (t':=s1.toks) fun b o e=>Heap.get?_push_of_some _ e
 rw [hw]
 refine wpAny_bind (wpAny_pure ?_)
 show wpAny (model X.prog X.w) X.A (do rule "assign.swapped-stores";let items ←unpackItems (.ref s1.heap.objs.size) 2 none;assignInOrder [fun v=>bindName X.env y v,fun v=>bindName X.env x v] items.reverse;pure Flow.next) _ _ _
 refine wpAny_bind (wpAny_rule (wpAny_bind (unpackItems_tuple (items:=#[u1,u2]) (I.ok.hd hc) (IsTup.new s1.heap _) fun h' hx'=>?_)))
 have I3:=I2.kept (h':=h') (t':=s1.toks) fun b o e=>hx' b o (Nat.ne_of_lt (Heap.lt_size e)) e
 show wpAny _ _ (assignInOrder [fun v=>bindName X.env y v,fun v=>bindName X.env x v] [u2,u1] >>= fun _=>pure Flow.next) _ _ _
 refine wpAny_bind (assignInOrder_cons (wpAny_bindName (store_ok I3 hN hj (.inl hy) rw' (fun s2 I4=>?_) (.inr hy))))
 refine assignInOrder_cons (wpAny_bindName (store_ok I4 hN hi (.inl hx) rv (fun s3 I5=>assignInOrder_nil (wpAny_pure ?_)) (.inr hx)))
 rw [List.set_comm _ _ (Ne.symm hij)] at I5
 exact ⟨_,H1,I5,q1⟩
end
section
variable {X:Cx}{pos:Pos}
noncomputable def tWhile (c:TT) (tb:TS):TS:=fun D σ H=>∃ W:Nat→St→Hp→Prop,(∃ m,W m σ H)∧∀ m σ H,W m σ H →
 c σ H fun b H1=>if b=true then ∃ N:St→Hp→Prop,(∀ σ' H',N σ' H'→∃ m',m'<m∧W m' σ' H')∧tb { D with nx:=N,ct:=N,bk:=D.nx } σ H1 else D.nx σ H1
theorem ps_while {c:Expr}{body:List Stmt}{tc:TT}{tb:TS} (hp:PassesOwn (model X.prog X.w) X.A X.env X.xe) (hc:PT X c tc) (hb:PSs X body tb):PS X (.While c body [] pos) (tWhile tc tb):=by
 intro pins s σ H D I h
 obtain ⟨W,⟨m0,w0⟩,turn⟩:=h
 refine wpAny_While (codeAny_whileLoop (fun n s'=>∃ σ' H',Inv X pins σ' H' s'∧W n σ' H') ?_ m0 ⟨σ,H,I,w0⟩)
 rintro n s1 ⟨σ1,H1,I1,w1⟩
 refine wpAny_passesOwn hp (thn (hc pins s1 σ1 H1 _ I1 (turn n σ1 H1 w1)) fun b s2 ⟨H2,I2,q2⟩=>?_)
 cases b with
 | true =>
  obtain ⟨N,hN,q2⟩:=q2
  rw [if_pos rfl]
  refine wpAny_passesOwn hp (thn (hb pins s2 σ1 H2 _ I2 q2) fun f s3 q3=>?_)
  cases f with
  | next =>
   obtain ⟨σ3,H3,I3,n3⟩:=q3
   obtain ⟨m',hm,w3⟩:=hN σ3 H3 n3
   exact ⟨m',hm,σ3,H3,I3,w3⟩
  | cont =>
   obtain ⟨σ3,H3,I3,n3⟩:=q3
   obtain ⟨m',hm,w3⟩:=hN σ3 H3 n3
   exact ⟨m',hm,σ3,H3,I3,w3⟩
  | brk=>exact q3
  | ret v=>exact q3
 | false =>
  rw [if_neg Bool.false_ne_true]
  exact wpAny_execs_nil ⟨σ1,H2,I2,q2⟩
end
structure It where
 go : Nat→Hp→Prop
 yld:Nat→Hp→V→Hp→Prop
 stop:Nat→Hp→Prop
noncomputable def FpOk (X:Cx) (pins:List (Addr×Obj)) (H:Hp) (b:Addr):Prop :=
 H b=none∧b≠X.env.locals∧b ∉ X.fs∧(b∈X.ex∨X.s₀.heap.objs.size≤b)∧(∀ x c,X.env.cells.lookup x=some c→c≠b)∧∀ p∈X.pn++pins,p.1≠b
theorem Inv.fpOk {X:Cx}{pins:List (Addr×Obj)}{σ:St}{H H':Hp}{s:Shared}{b:Addr} (I:Inv X pins σ H s) (hb:s.heap.objs.size≤b) (hn:H' b=none):FpOk X pins H' b:=by
 refine ⟨hn,Nat.ne_of_gt (Nat.lt_of_lt_of_le I.lt hb),I.nofs hb,.inr (Nat.le_trans I.sz hb),fun x c e z=>?_,fun p hp z=>?_⟩
 ·obtain ⟨v,q⟩:=I.cell x c e
  exact absurd (Nat.lt_of_lt_of_le q.lt (by rw[z];exact hb)) (Nat.lt_irrefl _)
 ·exact absurd (Nat.lt_of_lt_of_le (Heap.lt_size (I.pin p hp).1) (by rw[z];exact hb)) (Nat.lt_irrefl _)
structure Turn (P:Program) (w:World) (K:PySem.W.Frag) (tg:Expr) (J:It) (fp:List Addr) (it:Addr) (tn:Nat→Heap→Prop):Prop where
 mem:it∈fp
 obj:∀ i h,tn i h→∀ b∈fp,∃ o,h.get? b=some o∧∀ v,o.data≠.cell v
 keep:∀ i h h',tn i h→(∀ b∈fp,∀ o,h.get? b=some o→h'.get? b=some o)→tn i h'
 item:∀ (X:Cx),X.prog=P→X.w=w→X.K=K→X.calm=true→∀ (i:Nat) (pins:List (Addr×Obj)) (s:Shared) (σ:St) (H:Hp) (E:Value→Shared→Prop),Inv X pins σ H s→(∀ b∈fp,FpOk X pins H b)→tn i s.heap→J.go i H →
  wpAny (model P w) X.A (pyNext (.ref it)) (fun r s1=>∃ u,r=some u ∧
   wpAny (model P w) X.A (letOwnedTupleGo tg (.ref it) u) (fun _ s2=>∃ x H',Inv X pins σ H' s2∧RelV x u∧J.yld i H x H'∧tn (i+1) s2.heap∧∀ b∈fp,H' b=none) E s1) E s
 done:∀ (X:Cx),X.prog=P→X.w=w→X.K=K→X.calm=true→∀ (i:Nat) (pins:List (Addr×Obj)) (s:Shared) (σ:St) (H:Hp) (E:Value→Shared→Prop),Inv X pins σ H s→(∀ b∈fp,FpOk X pins H b)→tn i s.heap→J.stop i H →
  wpAny (model P w) X.A (pyNext (.ref it)) (fun r s1=>r=none∧Inv X pins σ H s1) E s
 self:∀ (A:Around) (i:Nat) (s:Shared) (Q:Value→Shared→Prop) (E:Value→Shared→Prop),tn i s.heap→Q (.ref it) s→wpAny (model P w) A (pyIter (.ref it)) Q E s
noncomputable abbrev TI:=St→Hp→(It→Hp→Prop)→Prop
noncomputable def PIE (X:Cx) (pins:List (Addr×Obj)) (σ:St) (tg:Expr) (R:It→Hp→Prop) (itv:Value) (s2:Shared):Prop :=
 ∃ (it:Addr) (fp:List Addr) (tn:Nat→Heap→Prop) (J:It) (H':Hp),itv=.ref it∧Inv X pins σ H' s2∧Turn X.prog X.w X.K tg J fp it tn∧tn 0 s2.heap∧(∀ b∈fp,FpOk X pins H' b)∧R J H'
noncomputable def PI (X:Cx) (tg iter:Expr) (wi:TI):Prop :=
 ∀ (pins:List (Addr×Obj)) (s:Shared) (σ:St) (H:Hp) (R:It→Hp→Prop),Inv X pins σ H s→wi σ H R →
  wpAny (model X.prog X.w) X.A (eval iter X.env) (fun v s1=>wpAny (model X.prog X.w) X.A (pyIter v) (PIE X pins σ tg R) X.xe s1) X.xe s
theorem go_of {M:Model}{A:Around}{E:Value→Shared→Prop}{s:Shared}{tg:Expr}{it:Addr}{u:Value}{o:Obj}{n:String}{vs:Array Value}{Q:Unit→Shared→Prop} (ho:s.heap.get? it=some o) (hc:o.cls=.type n) (hd:o.data=.fields vs)
    (hn:["enumerate", "zip", "dict_itemiterator", "dict_reverseitemiterator", "odict_iterator", "itertools.zip_longest", "itertools.pairwise"].contains n=false) (hQ:Q () s):wpAny M A (letOwnedTupleGo tg (.ref it) u) Q E s:=by
  unfold letOwnedTupleGo
  cases tg <;> first
    | exact wpAny_pure hQ
    | (cases u <;> first
        | exact wpAny_pure hQ
        | (refine wpAny_bind (wpAny_load ho ?_)
           rw [hc,hd]
           show wpAny M A (if (["enumerate", "zip", "dict_itemiterator", "dict_reverseitemiterator", "odict_iterator", "itertools.zip_longest", "itertools.pairwise"].contains n&&vs[0]?==some (rawInt _))=true then _ else _) Q E s
           rw [if_neg (by intro h;rw[hn,Bool.false_and] at h;cases h)]
           exact wpAny_pure hQ))
noncomputable def Itl (K:PySem.W.Frag) (a:Addr):It :=
 ⟨fun i H=>∃ xs x,SqL K H a xs∧xs[i]? = some x,fun i H x H'=>H'=H∧∀ xs,SqL K H a xs→xs[i]? = some x,fun i H=>∃ xs,SqL K H a xs∧xs.length≤i⟩
noncomputable def Itt (K:PySem.W.Frag) (a:Addr):It :=
 ⟨fun i H=>∃ xs x,SqT K H a xs∧xs[i]? = some x,fun i H x H'=>H'=H∧∀ xs,SqT K H a xs→xs[i]? = some x,fun i H=>∃ xs,SqT K H a xs∧xs.length≤i⟩
noncomputable def Itr (lo:Int) (n:Nat):It:=⟨fun i _=>i<n,fun i H x H'=>H'=H∧x=.int (lo+i),fun i _=>n≤i⟩
theorem turn_list {P:Program}{w:World}{K:PySem.W.Frag}{tg:Expr} (a it:Addr):Turn P w K tg (Itl K a) [it] it (fun i h=>h.IsListIter it a i) where
 mem:=by simp
 obj:=fun i h st b hb=>by
  have e:b=it:=by simpa using hb
  subst e
  obtain ⟨o,e,c,d⟩:=st
  exact ⟨o,e,fun v z=>by rw[d] at z;cases z⟩
 keep:=fun i h h' st k=>st.at fun o e=>k it (by simp) o e
 item:=by
  intro X hP hw hK hc i pins s σ H E I hf st hg
  subst hP hw hK
  obtain ⟨xs,x,hq,hx⟩:=hg
  obtain ⟨its,rv,p,hz⟩:=I.list hq
  obtain ⟨u,hu,ru⟩:=rv.get hx
  obtain ⟨f0,f1,f2,f3,f4,f5⟩:=hf it (by simp)
  refine wpAny_pyNext_list_item st p.isList (x:=u) (by simpa using hu) fun h' st' sb=>?_
  have I1:Inv X pins σ H { s with heap:=h' }:=I.turned (t':=s.toks) (fun b o hb e=>(sb.2 b hb).trans e) f0 f1 f3 f4 f5
  obtain ⟨o,e,c,d⟩:=id st'
  exact ⟨u,rfl,go_of (s:={ s with heap:=h' }) e c d (by decide) ⟨x,H,I1,ru,⟨rfl,fun ys hy=>by rw[I.list_inj hy hq];exact hx⟩,st',fun b hb=>(hf b hb).1⟩⟩
 done:=by
  intro X hP hw hK hc i pins s σ H E I hf st hg
  subst hP hw hK
  obtain ⟨xs,hq,hx⟩:=hg
  obtain ⟨its,rv,p,hz⟩:=I.list hq
  obtain ⟨f0,f1,f2,f3,f4,f5⟩:=hf it (by simp)
  have hl:=rv.length
  exact wpAny_pyNext_list_end (I.ok.hd hc) st p.isList (by simp;omega) fun h' eb=>⟨rfl,I.turned (t':=s.toks) (fun b o hb e=>eb b o hb e) f0 f1 f3 f4 f5⟩
 self:=fun _ _ _ _ _ st h=>wpAny_pyIter_listiter st h
theorem turn_tuple {P:Program}{w:World}{K:PySem.W.Frag}{tg:Expr} (a it:Addr):Turn P w K tg (Itt K a) [it] it (fun i h=>h.IsTupleIter it a i) where
 mem:=by simp
 obj:=fun i h st b hb=>by
  have e:b=it:=by simpa using hb
  subst e
  obtain ⟨o,e,c,d⟩:=st
  exact ⟨o,e,fun v z=>by rw[d] at z;cases z⟩
 keep:=fun i h h' st k=>st.at fun o e=>k it (by simp) o e
 item:=by
  intro X hP hw hK hc i pins s σ H E I hf st hg
  subst hP hw hK
  obtain ⟨xs,x,hq,hx⟩:=hg
  obtain ⟨its,rv,p,hz⟩:=I.tuple hq
  obtain ⟨u,hu,ru⟩:=rv.get hx
  obtain ⟨f0,f1,f2,f3,f4,f5⟩:=hf it (by simp)
  refine wpAny_pyNext_tuple_item st (show s.heap.IsTuple a its.toArray from p) (x:=u) (by simpa using hu) fun h' st' sb=>?_
  have I1:Inv X pins σ H { s with heap:=h' }:=I.turned (t':=s.toks) (fun b o hb e=>(sb.2 b hb).trans e) f0 f1 f3 f4 f5
  obtain ⟨o,e,c,d⟩:=id st'
  exact ⟨u,rfl,go_of (s:={ s with heap:=h' }) e c d (by decide) ⟨x,H,I1,ru,⟨rfl,fun ys hy=>by rw[I.tuple_inj hy hq];exact hx⟩,st',fun b hb=>(hf b hb).1⟩⟩
 done:=by
  intro X hP hw hK hc i pins s σ H E I hf st hg
  subst hP hw hK
  obtain ⟨xs,hq,hx⟩:=hg
  obtain ⟨its,rv,p,hz⟩:=I.tuple hq
  obtain ⟨f0,f1,f2,f3,f4,f5⟩:=hf it (by simp)
  have hl:=rv.length
  exact wpAny_pyNext_tuple_end (I.ok.hd hc) st (show s.heap.IsTuple a its.toArray from p) (by simp;omega) fun h' eb=>⟨rfl,I.turned (t':=s.toks) (fun b o hb e=>eb b o hb e) f0 f1 f3 f4 f5⟩
 self:=fun _ _ _ _ _ st h=>wpAny_pyIter_tupleiter st h
theorem turn_range {P:Program}{w:World}{K:PySem.W.Frag}{tg:Expr} (it:Addr) (lo:Int) (n:Nat):Turn P w K tg (Itr lo n) [it] it (fun i h=>IsRangeIter h it (lo+(i:Nat)*1) ((n:Int) - (i:Nat)) 1) where
 mem:=by simp
 obj := fun i h st b hb=>by
  have e:b=it:=by simpa using hb
  subst e
  exact ⟨_,st,fun v z=>by
   have z':Data.fields _=Data.cell v:=z
   cases z'⟩
 keep:=fun i h h' st k=>k it (by simp) _ st
 item:=by
  intro X hP hw hK hc i pins s σ H E I hf st hg
  subst hP hw hK
  obtain ⟨f0,f1,f2,f3,f4,f5⟩:=hf it (by simp)
  have W:=Walks.range (prog:=X.prog) (w:=X.w) (I.ok.hd hc) it lo 1 n
  refine W.item i s _ _ hg st fun v h' tk hv st' kk=>?_
  obtain ⟨t,rfl⟩:=hv
  have I1:Inv X pins σ H { s with heap:=h',toks:=tk }:=I.turned (fun b o hb e=>kk b o (by simpa using hb) e) f0 f1 f3 f4 f5
  refine ⟨_,rfl,go_of (s:={ s with heap:=h',toks:=tk }) (n := "range_iterator") st' rfl rfl (by decide) ⟨.int (lo+i),H,I1,⟨t,?_⟩,⟨rfl,rfl⟩,st',fun b hb=>(hf b hb).1⟩⟩
  rw [Int.mul_one]
 done:=by
  intro X hP hw hK hc i pins s σ H E I hf st hg
  subst hP hw hK
  obtain ⟨f0,f1,f2,f3,f4,f5⟩:=hf it (by simp)
  exact wpAny_pyNext_range_end (I.ok.hd hc) st (by have:n≤i:=hg;omega) fun h' eb=>⟨rfl,I.turned (t':=s.toks) (fun b o hb e=>eb b o hb e) f0 f1 f3 f4 f5⟩
 self:=fun _ _ _ _ _ st h=>wpAny_pyIter_rangeiter st h
end L2
namespace L2
open PySem PySem.Spec PyProof.Rows
section
variable {X:Cx}{tg:Expr}
noncomputable def iList (K:PySem.W.Frag) (tl:TE):TI:=fun σ H R=>tl σ H fun x H1=>∃ a,x=.ref a∧(∃ xs,SqL K H1 a xs)∧R (Itl K a) H1
noncomputable def iTup (K:PySem.W.Frag) (tl:TE):TI:=fun σ H R=>tl σ H fun x H1=>∃ a,x=.ref a∧(∃ xs,SqT K H1 a xs)∧R (Itt K a) H1
theorem pi_list {l:Expr}{tl:TE} (hl:PE X l tl):PI X tg l (iList X.K tl):=by
 intro pins s σ H R I h
 refine thn (hl pins s σ H _ I h) fun v s1 ⟨x,H1,I1,r1,q1⟩=>?_
 obtain ⟨a,e,⟨xs,hq⟩,q⟩:=q1
 subst e
 cases r1
 obtain ⟨its,rv,p,hz⟩:=I1.list hq
 refine wpAny_pyIter_list p.isList ?_
 refine ⟨s1.heap.objs.size,[s1.heap.objs.size],_,_,H1,rfl,I1.kept (t':=s1.toks) fun b o e=>Heap.get?_push_of_some _ e,turn_list a _,⟨_,Heap.get?_push_size _ rfl,rfl,rfl⟩,fun b hb=>?_,q⟩
 have e:b=s1.heap.objs.size:=by simpa using hb
 subst e
 exact I1.fpOk (Nat.le_refl _) (I1.hok.fresh (Nat.le_refl _))
theorem pi_tup {l:Expr}{tl:TE} (hl:PE X l tl):PI X tg l (iTup X.K tl):=by
 intro pins s σ H R I h
 refine thn (hl pins s σ H _ I h) fun v s1 ⟨x,H1,I1,r1,q1⟩=>?_
 obtain ⟨a,e,⟨xs,hq⟩,q⟩:=q1
 subst e
 cases r1
 obtain ⟨its,rv,p,hz⟩:=I1.tuple hq
 refine wpAny_pyIter_tuple (show s1.heap.IsTuple a its.toArray from p) ?_
 refine ⟨s1.heap.objs.size,[s1.heap.objs.size],_,_,H1,rfl,I1.kept (t':=s1.toks) fun b o e=>Heap.get?_push_of_some _ e,turn_tuple a _,⟨_,Heap.get?_push_size _ rfl,rfl,rfl⟩,fun b hb=>?_,q⟩
 have e:b=s1.heap.objs.size:=by simpa using hb
 subst e
 exact I1.fpOk (Nat.le_refl _) (I1.hok.fresh (Nat.le_refl _))
theorem range_it {pins:List (Addr×Obj)}{σ:St}{H:Hp}{s:Shared}{R:It→Hp→Prop}{E:Value→Shared→Prop}{lo hi:Int}{t u v:Tok}{tk:Nat} (I:Inv X pins σ H s) (h1:-(2 ^ 62)≤lo) (h2:lo<2 ^ 62) (h3:-(2 ^ 62)≤hi) (h4:hi<2 ^ 62)
  (q : R (Itr lo (hi - lo).toNat) H):wpAny (model X.prog X.w) X.A (pyIter (.ref s.heap.objs.size)) (PIE X pins σ tg R) E { s with heap:=s.heap.push { cls:=.type "range",data:=.fields #[.int lo t,.int hi u,.int 1 v] },toks:=tk }:=by
 refine wpAny_pyIter_range (IsRange.new ..) (small_one h1 h2 h3 h4) ?_
 have I1:Inv X pins σ H { s with heap:=s.heap.push { cls:=.type "range",data:=.fields #[.int lo t,.int hi u,.int 1 v] },toks:=tk }:=I.kept fun b o e=>Heap.get?_push_of_some _ e
 refine ⟨(s.heap.push { cls:=.type "range",data:=.fields #[.int lo t,.int hi u,.int 1 v] }).objs.size,[(s.heap.push { cls:=.type "range",data:=.fields #[.int lo t,.int hi u,.int 1 v] }).objs.size],_,_,H,rfl,
  I1.kept (t':=tk) fun b o e=>Heap.get?_push_of_some _ e,turn_range _ lo (hi - lo).toNat,?_,fun b hb=>?_,q⟩
 ·have e1:lo+((0:Nat):Int)*1=lo:=by simp
  have e2:(((hi - lo).toNat:Nat):Int) - ((0:Nat):Int)=Builtin.Range.rangeSize lo hi 1:=by rw[rangeSize_one];split <;> omega
  show IsRangeIter _ _ (lo+((0:Nat):Int)*1) ((((hi - lo).toNat:Nat):Int) - ((0:Nat):Int)) 1
  rw [e1,e2]
  exact Heap.get?_push_size _ rfl
 ·have e:b=(s.heap.push { cls:=.type "range",data:=.fields #[.int lo t,.int hi u,.int 1 v] }).objs.size:=by simpa using hb
  subst e
  exact I1.fpOk (Nat.le_refl _) (I1.hok.fresh (Nat.le_refl _))
noncomputable def iRng1 (ta:TA):TI:=fun σ H R=>ta σ H fun vs H1=>∃ j:Int,vs=[.int j]∧-(2 ^ 62)≤j∧j<2 ^ 62∧R (Itr 0 j.toNat) H1
theorem pi_range1 {a:Expr}{ta:TA}{p pos:Pos} (hg:Gl X "range") (hm:X.mg "range" = none) (ha:PA X [a] ta) (hs:starEach [a] X.env=[(false,eval a X.env)]:=by rfl):PI X tg (.Call (.Name "range" p) [a] [] pos) (iRng1 ta):=by
 intro pins s σ H R I h
 refine Call_ (ld_blt I hg hm boot_range (PyProof.Rows.callWith_type1 (thn (ha pos pins s σ H _ I h) fun us s1 ⟨vs,H1,I1,r1,q1⟩=>?_) hs rfl))
 obtain ⟨j,e,q1,q2,q⟩:=q1
 subst e
 cases r1 with
 | cons r rr =>
  cases rr
  obtain ⟨t,rfl⟩:=r
  exact call_range_1 (range_it I1 (by omega) (by omega) q1 q2 (by simpa using q))
noncomputable def tFor (wi:TI) (g:TG) (tb:TS):TS:=fun D σ H=>wi σ H fun J H1=>∃ W:Nat→Nat→St→Hp→Prop,(∃ m,W 0 m σ H1)∧∀ i m σ H,W i m σ H →
 (J.stop i H∧D.nx σ H)∨(J.go i H∧∃ N:St→Hp→Prop,(∀ σ' H',N σ' H'→∃ m',m'<m∧W (i+1) m' σ' H')∧∀ x H',J.yld i H x H'→g x σ H' fun σ2 H2=>tb { D with nx:=N,ct:=N,bk:=D.nx } σ2 H2)
noncomputable def pinsAt (fp:List Addr) (h:Heap):List (Addr×Obj):=fp.filterMap fun b=>(h.get? b).map fun o=>(b,o)
theorem mem_pinsAt {fp:List Addr}{h:Heap}{b:Addr}{o:Obj} (hb:b∈fp) (e:h.get? b=some o):(b,o)∈pinsAt fp h:=List.mem_filterMap.mpr ⟨b,hb,by rw[e];rfl⟩
theorem of_pinsAt {fp:List Addr}{h:Heap}{p:Addr×Obj} (hp:p∈pinsAt fp h):p.1∈fp∧h.get? p.1=some p.2:=by
 obtain ⟨b,hb,e⟩:=List.mem_filterMap.mp hp
 cases q:h.get? b with
 | none=>rw[q] at e;cases e
 | some o =>
  rw [q] at e
  have e':(b,o)=p:=Option.some.inj e
  subst e'
  exact ⟨hb,q⟩
theorem Inv.pinned {pins:List (Addr×Obj)}{σ:St}{H:Hp}{s:Shared}{fp:List Addr} (I:Inv X pins σ H s) (hf:∀ b∈fp,FpOk X pins H b) (ho:∀ b∈fp,∃ o,s.heap.get? b=some o∧∀ v,o.data≠.cell v):Inv X (pins++pinsAt fp s.heap) σ H s :=
 I.pins_of fun p hp=>(List.mem_append.mp hp).elim (fun z=>I.pin p (List.mem_append_right _ z)) fun z=>by
  obtain ⟨hb,e⟩:=of_pinsAt z
  obtain ⟨f0,f1,f2,_⟩:=hf p.1 hb
  obtain ⟨o,e',d⟩:=ho p.1 hb
  rw [e] at e';cases e'
  exact ⟨e,f0,f1,f2,d⟩
theorem Inv.unpinned {pins pl:List (Addr×Obj)}{σ:St}{H:Hp}{s:Shared} (I:Inv X (pins++pl) σ H s):Inv X pins σ H s:=I.pins_of fun p hp=>I.pin p (List.mem_append_right _ (List.mem_append_left _ hp))
theorem ps_for {iter:Expr}{body:List Stmt}{wi:TI}{g:TG}{tb:TS}{pos:Pos} (hp:PassesOwn (model X.prog X.w) X.A X.env X.xe) (hc:X.calm=true) (hi:PI X tg iter wi) (hg:PG X tg g) (hb:PSs X body tb)
  (hs:∀ x,foldedSetIterable iter X.env x=pure x:=by intro _;rfl):PS X (.For tg iter body [] pos) (tFor wi g tb):=by
 intro pins s σ H D I h
 refine wpAny_For (thn (hi pins s σ H _ I h) fun v s1 h1=>thn h1 fun itv s2 h2=>?_) hs
 obtain ⟨it,fp,tn,J,H2,e,I2,T,st2,f2,W,⟨m0,w0⟩,turn⟩:=h2
 subst e
 have stat:∀ {H':Hp},(∀ b∈fp,H' b=none)→∀ b∈fp,FpOk X pins H' b:=fun hn b hb=>⟨hn b hb,(f2 b hb).2⟩
 refine codeAny_forLoop_any (fun n s'=>∃ i σ' H',Inv X pins σ' H' s'∧tn i s'.heap∧(∀ b∈fp,H' b=none)∧W i n σ' H') ?_ m0 ⟨0,σ,H2,I2,st2,fun b hb=>(f2 b hb).1,w0⟩
 rintro n s3 ⟨i,σ3,H3,I3,st3,fr3,w3⟩
 rcases turn i n σ3 H3 w3 with ⟨stop,qn⟩|⟨go,N,hN,step⟩
 ·refine wpAny_passesOwn hp (thn (T.done X rfl rfl rfl hc i pins s3 σ3 H3 X.xe I3 (stat fr3) st3 stop) fun r s4 ⟨hr,I4⟩=>?_)
  subst hr
  exact wpAny_execs_nil ⟨σ3,H3,I4,qn⟩
 ·refine wpAny_passesOwn hp (thn (T.item X rfl rfl rfl hc i pins s3 σ3 H3 X.xe I3 (stat fr3) st3 go) fun r s4 ⟨u,hr,h4⟩=>?_)
  subst hr
  refine wpAny_passesOwn hp (thn h4 fun _ s5 ⟨x,H5,I5,r5,y5,st5,fr5⟩=>?_)
  have I5':=I5.pinned (stat fr5) (T.obj _ _ st5)
  refine wpAny_passesOwn hp (thn (hg _ s5 σ3 H5 x u _ I5' r5 (step x H5 y5)) fun _ s6 ⟨σ6,H6,I6,q6⟩=>?_)
  refine wpAny_passesOwn hp (thn (hb _ s6 σ6 H6 _ I6 q6) fun f s7 q7=>?_)
  have again:∀ {σ7:St}{H7:Hp},Inv X (pins++pinsAt fp s5.heap) σ7 H7 s7→N σ7 H7→∃ m,m<n∧∃ i σ' H',Inv X pins σ' H' s7∧tn i s7.heap∧(∀ b∈fp,H' b=none)∧W i m σ' H':=fun {σ7 H7} I7 n7=>by
   obtain ⟨m',hm,w7⟩:=hN σ7 H7 n7
   refine ⟨m',hm,i+1,σ7,H7,I7.unpinned,T.keep _ _ _ st5 fun b hb o e=>(I7.pin (b,o) (List.mem_append_right _ (List.mem_append_right _ (mem_pinsAt hb e)))).1,fun b hb=>?_,w7⟩
   obtain ⟨o,e,d⟩:=T.obj _ _ st5 b hb
   exact (I7.pin (b,o) (List.mem_append_right _ (List.mem_append_right _ (mem_pinsAt hb e)))).2.1
  cases f with
  | next=>obtain⟨σ7,H7,I7,n7⟩:=q7;exact again I7 n7
  | cont=>obtain⟨σ7,H7,I7,n7⟩:=q7;exact again I7 n7
  | brk=>obtain⟨σ7,H7,I7,q7⟩:=q7;exact⟨σ7,H7,I7.unpinned,q7⟩
  | ret v=>obtain⟨x7,σ7,H7,I7,r7,q7⟩:=q7;exact⟨x7,σ7,H7,I7.unpinned,r7,q7⟩
end
end L2
namespace L2
open PySem PySem.Spec PyProof.Rows
noncomputable abbrev R2:=V→V→Hp→VK→Prop
noncomputable def OpR (X:Cx) (f:Value→Value→Sem Value) (r:R2):Prop :=
 ∀ (pins:List (Addr×Obj)) (s:Shared) (σ:St) (H:Hp) (x y:V) (v u:Value) (Q:VK),Inv X pins σ H s→RelV x v→RelV y u→r x y H Q →
  wpAny (model X.prog X.w) X.A (f v u) (EP X pins σ Q) X.xe s
noncomputable def UnR (X:Cx) (f:Value→Sem Value) (r:V→Hp→VK→Prop):Prop :=
 ∀ (pins:List (Addr×Obj)) (s:Shared) (σ:St) (H:Hp) (x:V) (v:Value) (Q:VK),Inv X pins σ H s→RelV x v→r x H Q →
  wpAny (model X.prog X.w) X.A (f v) (EP X pins σ Q) X.xe s
noncomputable def CallR (X:Cx) (f:Value) (r:List V→Hp→VK→Prop):Prop :=
 ∀ (pins:List (Addr×Obj)) (s:Shared) (σ:St) (H:Hp) (xs:List V) (us:List Value) (Q:VK),Inv X pins σ H s→Vals xs us→r xs H Q →
  wpAny (model X.prog X.w) X.A (call f us) (EP X pins σ Q) X.xe s
noncomputable def tOp (r:R2) (ta tb:TE):TE:=fun σ H Q=>ta σ H fun x H1=>tb σ H1 fun y H2=>r x y H2 Q
noncomputable def tUn (r:V→Hp→VK→Prop) (ta:TE):TE:=fun σ H Q=>ta σ H fun x H1=>r x H1 Q
noncomputable def rI (C:Int→Int→Prop) (g:Int→Int→V):R2:=fun x y H Q=>∃ i j,x=.int i∧y=.int j∧C i j∧Q (g i j) H
noncomputable def rI0 (g:Int→Int→V):R2:=fun x y H Q=>∃ i j,x=.int i∧y=.int j∧Q (g i j) H
noncomputable def rU (g:Int→V):V→Hp→VK→Prop:=fun x H Q=>∃ i,x=.int i∧Q (g i) H
section
variable {X:Cx}{a b c:Expr}{ta tb tc:TE}{pos:Pos}
theorem binT (ha:PE X a ta) (hb:PE X b tb) {pins:List (Addr×Obj)}{s:Shared}{σ:St}{H:Hp}{R:V→V→Hp→Prop} (I:Inv X pins σ H s)
  (h : ta σ H fun x H1=>tb σ H1 fun y H2=>R x y H2) {Q:Value→Shared→Prop}{f:Value→Value→Sem Value}
  (hf:∀ v u s2 x y H2,Inv X pins σ H2 s2→RelV x v→RelV y u→R x y H2→wpAny (model X.prog X.w) X.A (f v u) Q X.xe s2) :
  wpAny (model X.prog X.w) X.A (eval a X.env) (fun v s₁=>wpAny (model X.prog X.w) X.A (eval b X.env) (fun u s₂=>wpAny (model X.prog X.w) X.A (f v u) Q X.xe s₂) X.xe s₁) X.xe s:=by
 refine thn (ha pins s σ H _ I h) fun v s1 ⟨x,H1,I1,r1,q1⟩=>?_
 refine thn (hb pins s1 σ H1 _ I1 q1) fun u s2 ⟨y,H2,I2,r2,q2⟩=>?_
 exact hf v u s2 x y H2 I2 r1 r2 q2
theorem pe_op {op:Operator}{r:R2} (ho:OpR X (binaryOp op) r) (ha:PE X a ta) (hb:PE X b tb):PE X (.BinOp a op b pos) (tOp r ta tb):=by
 intro pins s σ H Q I h
 exact wpAny_BinOp (binT ha hb I h fun v u s2 x y H2 I2 rx ry q=>ho pins s2 σ H2 x y v u Q I2 rx ry q)
theorem pe_un {op:UnaryOp}{r:V→Hp→VK→Prop} (ho:UnR X (unaryOp op) r) (ha:PE X a ta):PE X (.UnaryOp op a pos) (tUn r ta):=by
 intro pins s σ H Q I h
 exact UnaryOp_ (thn (ha pins s σ H _ I h) fun v s1 ⟨x,H1,I1,r1,q1⟩=>ho pins s1 σ H1 x v Q I1 r1 q1)
theorem opI {f:Value→Value→Sem Value}{C:Int→Int→Prop}{g:Int→Int→Int}
  (rule:∀ (i j:Int) (t u:Tok) (s:Shared) (Q:Value→Shared→Prop) (E:Value→Shared→Prop),C i j→Q (.int (g i j) s.toks) { s with toks:=s.toks+1 }→wpAny (model X.prog X.w) X.A (f (.int i t) (.int j u)) Q E s) :
  OpR X f (rI C fun i j=>.int (g i j)):=by
 intro pins s σ H x y v u Q I rx ry h
 obtain ⟨i,j,rfl,rfl,hc,q⟩:=h
 obtain ⟨t,rfl⟩:=rx
 obtain ⟨t',rfl⟩:=ry
 exact rule i j t t' s _ _ hc ⟨.int (g i j),H,I.tok _,⟨_,rfl⟩,q⟩
theorem opI0 {f:Value→Value→Sem Value}{g:Int→Int→Int}
  (rule:∀ (i j:Int) (t u:Tok) (s:Shared) (Q:Value→Shared→Prop) (E:Value→Shared→Prop),Q (.int (g i j) s.toks) { s with toks:=s.toks+1 }→wpAny (model X.prog X.w) X.A (f (.int i t) (.int j u)) Q E s) :
  OpR X f (rI0 fun i j=>.int (g i j)):=by
 intro pins s σ H x y v u Q I rx ry h
 obtain ⟨i,j,rfl,rfl,q⟩:=h
 obtain ⟨t,rfl⟩:=rx
 obtain ⟨t',rfl⟩:=ry
 exact rule i j t t' s _ _ ⟨.int (g i j),H,I.tok _,⟨_,rfl⟩,q⟩
theorem opB0 {f:Value→Value→Sem Value}{g:Int→Int→Bool}
  (rule:∀ (i j:Int) (t u:Tok) (s:Shared) (Q:Value→Shared→Prop) (E:Value→Shared→Prop),Q (.bool (g i j)) s→wpAny (model X.prog X.w) X.A (f (.int i t) (.int j u)) Q E s) :
  OpR X f (rI0 fun i j=>.bl (g i j)):=by
 intro pins s σ H x y v u Q I rx ry h
 obtain ⟨i,j,rfl,rfl,q⟩:=h
 obtain ⟨t,rfl⟩:=rx
 obtain ⟨t',rfl⟩:=ry
 exact rule i j t t' s _ _ ⟨.bl (g i j),H,I,rfl,q⟩
noncomputable def CDiv (i j:Int):Prop:=0<j∧j<1073741824
noncomputable def CPow (i j:Int):Prop:=0≤j∧j≤1000000∧i.natAbs<2 ^ 64
noncomputable def CMul (i j:Int):Prop:=(-(2 ^ 64)<i∧i<2 ^ 64)∨(-(2 ^ 64)<j∧j<2 ^ 64)
theorem CMul.ok {i j:Int} (h:CMul i j):IntMulOk i j:=by
 rcases h with ⟨h1,h2⟩|⟨h1,h2⟩
 ·exact .of_left (intBits_le_64 h1 h2)
 ·exact .of_right (intBits_le_64 h1 h2)
theorem op_add:OpR X (binaryOp .Add) (rI0 fun i j=>.int (i+j)):=opI0 fun _ _ _ _ _ _ _ q=>add_int q
theorem op_sub:OpR X (binaryOp .Sub) (rI0 fun i j=>.int (i - j)):=opI0 fun _ _ _ _ _ _ _ q=>sub_int q
theorem op_mul:OpR X (binaryOp .Mult) (rI CMul fun i j=>.int (i*j)):=opI fun _ _ _ _ _ _ _ hc q=>mul_int q hc.ok
theorem op_fdiv:OpR X (binaryOp .FloorDiv) (rI CDiv fun i j=>.int (i / j)):=opI fun i j _ _ _ _ _ hc q=>by
 have h1:(0:Int)<j:=hc.1
 have h2:j<1073741824:=hc.2
 exact floordiv_int (by omega) (by rw[Int.fdiv_eq_ediv_of_nonneg i (by omega)];exact q) (.inl (PyProof.noPylong_small (by omega)))
theorem op_mod:OpR X (binaryOp .Mod) (rI (fun _ j=>0<j) fun i j=>.int (i % j)):=opI fun i j _ _ _ _ _ hc q=>by
 have h1:(0:Int)<j:=hc
 exact mod_int' (by omega) (by rw[Int.fmod_eq_emod_of_nonneg i (by omega)];exact q)
theorem op_pow:OpR X (binaryOp .Pow) (rI CPow fun i j=>.int (i ^ j.toNat)):=opI fun _ _ _ _ _ _ _ hc q=>pow_int_small hc.1 hc.2.1 hc.2.2 q
theorem unI {f:Value→Sem Value}{g:Int→Int}
  (rule:∀ (i:Int) (t:Tok) (s:Shared) (Q:Value→Shared→Prop) (E:Value→Shared→Prop),Q (.int (g i) s.toks) { s with toks:=s.toks+1 }→wpAny (model X.prog X.w) X.A (f (.int i t)) Q E s) :
  UnR X f (rU fun i=>.int (g i)):=by
 intro pins s σ H x v Q I rx h
 obtain ⟨i,rfl,q⟩:=h
 obtain ⟨t,rfl⟩:=rx
 exact rule i t s _ _ ⟨.int (g i),H,I.tok _,⟨_,rfl⟩,q⟩
theorem un_neg:UnR X (unaryOp .USub) (rU fun i=>.int (-i)):=unI fun _ _ _ _ _ q=>neg_int q
end
noncomputable def scal:V→V→Bool
 | .non,.non=>true|.non,.int _=>true|.int _,.non=>true|.non,.bl _=>true|.bl _,.non=>true|.non,.str _=>true|.str _,.non=>true
 | .int _,.int _=>true|.bl _,.bl _=>true|.str _,.str _=>true|.byt _,.byt _=>true
 | .int _,.str _=>true|.str _,.int _=>true|.bl _,.str _=>true|.str _,.bl _=>true
 | _,_=>false
noncomputable def rEq:R2:=fun x y H Q=>scal x y=true∧Q (.bl (decide (x=y))) H
noncomputable def rNe:R2:=fun x y H Q=>scal x y=true∧Q (.bl (!decide (x=y))) H
theorem dec_int {i j:Int}:decide (V.int i=V.int j)=(i==j):=by
 rw [Bool.eq_iff_iff]
 simp
theorem dec_bl {i j:Bool}:decide (V.bl i=V.bl j)=(i==j):=by
 rw [Bool.eq_iff_iff]
 simp
theorem dec_str {i j:Str}:decide (V.str i=V.str j)=(i==j):=by
 rw [Bool.eq_iff_iff]
 simp
theorem dec_byt {i j:Array UInt8}:decide (V.byt i=V.byt j)=(i.toList==j.toList):=by
 rw [Bool.eq_iff_iff]
 cases i
 cases j
 simp
section
variable {X:Cx}{a b c:Expr}{ta tb tc:TE}{pos:Pos}
theorem fin_bl {pins:List (Addr×Obj)}{σ:St}{H:Hp}{s:Shared}{Q:VK}{k k':Bool} (I:Inv X pins σ H s) (q:Q (.bl k) H) (e:k=k'):EP X pins σ Q (.bool k') s:=by
 subst e
 exact ⟨.bl k,H,I,rfl,q⟩
theorem op_eq:OpR X (compareOp .Eq) rEq:=by
 intro pins s σ H x y v u Q I rx ry h
 obtain ⟨hs,q⟩:=h
 cases x with
 | non =>
  cases rx
  cases y with
  | non=>cases ry;exact PySem.EqNone.eq_none_none (fin_bl I q (by simp))
  | bl j=>cases ry;exact PySem.EqNone.eq_none_bool (fin_bl I q (by simp))
  | int j=>obtain⟨t',rfl⟩:=ry;exact PySem.EqNone.eq_none_int (fin_bl I q (by simp))
  | str j=>obtain⟨t',rfl⟩:=ry;exact PySem.EqNone.eq_none_str (fin_bl I q (by simp))
  | _=>exact absurd (show false=true from hs) Bool.false_ne_true
 | bl i =>
  cases rx
  cases y with
  | non=>cases ry;exact PySem.EqNone.eq_bool_none (fin_bl I q (by simp))
  | bl j=>cases ry;exact eq_bool (fin_bl I q dec_bl)
  | str j=>obtain⟨t',rfl⟩:=ry;exact PySem.EqMixed.eq_bool_str (fin_bl I q (by simp))
  | _=>exact absurd (show false=true from hs) Bool.false_ne_true
 | int i =>
  obtain ⟨t,rfl⟩:=rx
  cases y with
  | non=>cases ry;exact PySem.EqNone.eq_int_none (fin_bl I q (by simp))
  | int j=>obtain⟨t',rfl⟩:=ry;exact eq_int (fin_bl I q dec_int)
  | str j=>obtain⟨t',rfl⟩:=ry;exact PySem.EqMixed.eq_int_str (fin_bl I q (by simp))
  | _=>exact absurd (show false=true from hs) Bool.false_ne_true
 | str i =>
  obtain ⟨t,rfl⟩:=rx
  cases y with
  | non=>cases ry;exact PySem.EqNone.eq_str_none (fin_bl I q (by simp))
  | bl j=>cases ry;exact PySem.EqMixed.eq_str_bool (fin_bl I q (by simp))
  | int j=>obtain⟨t',rfl⟩:=ry;exact PySem.EqMixed.eq_str_int (fin_bl I q (by simp))
  | str j=>obtain⟨t',rfl⟩:=ry;exact eq_str (fin_bl I q dec_str)
  | _=>exact absurd (show false=true from hs) Bool.false_ne_true
 | byt i =>
  obtain ⟨t,rfl⟩:=rx
  cases y with
  | byt j=>obtain⟨t',rfl⟩:=ry;exact PySem.W.eq_bytes (fin_bl I q dec_byt)
  | _=>exact absurd (show false=true from hs) Bool.false_ne_true
 | _=>cases y <;> exact absurd (show false=true from hs) Bool.false_ne_true
theorem op_ne:OpR X (compareOp .NotEq) rNe:=by
 intro pins s σ H x y v u Q I rx ry h
 obtain ⟨hs,q⟩:=h
 cases x with
 | non =>
  cases rx
  cases y with
  | non=>cases ry;exact PySem.EqNone.ne_none_none (fin_bl I q (by simp))
  | bl j=>cases ry;exact PySem.EqNone.ne_none_bool (fin_bl I q (by simp))
  | int j=>obtain⟨t',rfl⟩:=ry;exact PySem.EqNone.ne_none_int (fin_bl I q (by simp))
  | str j=>obtain⟨t',rfl⟩:=ry;exact PySem.EqNone.ne_none_str (fin_bl I q (by simp))
  | _=>exact absurd (show false=true from hs) Bool.false_ne_true
 | bl i =>
  cases rx
  cases y with
  | non=>cases ry;exact PySem.EqNone.ne_bool_none (fin_bl I q (by simp))
  | bl j=>cases ry;exact ne_bool (fin_bl I q (congrArg not dec_bl))
  | str j=>obtain⟨t',rfl⟩:=ry;exact PySem.EqMixed.ne_bool_str (fin_bl I q (by simp))
  | _=>exact absurd (show false=true from hs) Bool.false_ne_true
 | int i =>
  obtain ⟨t,rfl⟩:=rx
  cases y with
  | non=>cases ry;exact PySem.EqNone.ne_int_none (fin_bl I q (by simp))
  | int j=>obtain⟨t',rfl⟩:=ry;exact ne_int (fin_bl I q (congrArg not dec_int))
  | str j=>obtain⟨t',rfl⟩:=ry;exact PySem.EqMixed.ne_int_str (fin_bl I q (by simp))
  | _=>exact absurd (show false=true from hs) Bool.false_ne_true
 | str i =>
  obtain ⟨t,rfl⟩:=rx
  cases y with
  | non=>cases ry;exact PySem.EqNone.ne_str_none (fin_bl I q (by simp))
  | bl j=>cases ry;exact PySem.EqMixed.ne_str_bool (fin_bl I q (by simp))
  | int j=>obtain⟨t',rfl⟩:=ry;exact PySem.EqMixed.ne_str_int (fin_bl I q (by simp))
  | str j=>obtain⟨t',rfl⟩:=ry;exact ne_str (fin_bl I q (congrArg not dec_str))
  | _=>exact absurd (show false=true from hs) Bool.false_ne_true
 | byt i =>
  obtain ⟨t,rfl⟩:=rx
  cases y with
  | byt j=>obtain⟨t',rfl⟩:=ry;exact PySem.W.ne_bytes (fin_bl I q (congrArg not dec_byt))
  | _=>exact absurd (show false=true from hs) Bool.false_ne_true
 | _=>cases y <;> exact absurd (show false=true from hs) Bool.false_ne_true
theorem op_lt:OpR X (compareOp .Lt) (rI0 fun i j=>.bl (decide (i<j))):=opB0 fun _ _ _ _ _ _ _ q=>lt_int q
theorem op_gt:OpR X (compareOp .Gt) (rI0 fun i j=>.bl (decide (j<i))):=opB0 fun _ _ _ _ _ _ _ q=>gt_int q
theorem op_ge:OpR X (compareOp .GtE) (rI0 fun i j=>.bl (decide (j≤i))):=opB0 fun _ _ _ _ _ _ _ q=>ge_int q
theorem op_isN:OpR X (compareOp .Is) (fun x y H Q=>y=.non∧Q (.bl (decide (x=.non))) H):=by
 intro pins s σ H x y v u Q I rx ry h
 obtain ⟨rfl,q⟩:=h
 cases ry
 refine is_none_gen (fin_bl I q ?_)
 cases x <;> first
  | (cases rx;rfl)
  | (obtain⟨t,rfl⟩:=rx;rfl)
theorem OpR.or {f:Value→Value→Sem Value}{r r':R2} (h:OpR X f r) (h':OpR X f r'):OpR X f (fun x y H Q=>r x y H Q∨r' x y H Q):=by
 intro pins s σ H x y v u Q I rx ry q
 rcases q with q|q
 ·exact h pins s σ H x y v u Q I rx ry q
 ·exact h' pins s σ H x y v u Q I rx ry q
theorem nomark (b:Expr) {op:CmpOp} (h:op≠.In:=by decide) (h2:op≠.NotIn:=by decide):behindInMarks op b=false:=by
 have e1:(op==CmpOp.In)=false:=by cases op <;> first|rfl|exact absurd rfl h
 have e2:(op==CmpOp.NotIn)=false:=by cases op <;> first|rfl|exact absurd rfl h2
 cases b <;> simp[behindInMarks,e1,e2]
theorem pe_cmpR {op:CmpOp}{r:R2} (ho:OpR X (compareOp op) r) (ha:PE X a ta) (hb:PE X b tb) (hm:behindInMarks op b=false):PE X (.Compare a [op] [b] pos) (tOp r ta tb):=by
 intro pins s σ H Q I h
 exact wpAny_Compare1 (binT ha hb I h fun v u s2 x y H2 I2 rx ry q=>ho pins s2 σ H2 x y v u Q I2 rx ry q) hm
noncomputable def tTest (t:TE):TT:=fun σ H Q=>t σ H fun x H'=>∃ k,x=.bl k∧Q k H'
theorem pt_cmpR {op:CmpOp}{r:R2} (ho:OpR X (compareOp op) r) (ha:PE X a ta) (hb:PE X b tb) (hm:behindInMarks op b=false):PT X (.Compare a [op] [b] pos) (tTest (tOp r ta tb)):=by
 intro pins s σ H Q I h
 refine wpAny_isTrue_Compare1 (thn (ha pins s σ H _ I h) fun v s1 ⟨x,H1,I1,r1,q1⟩=>thn (hb pins s1 σ H1 _ I1 q1) fun u s2 ⟨y,H2,I2,r2,q2⟩ =>
  thn (ho pins s2 σ H2 x y v u _ I2 r1 r2 q2) fun c s3 ⟨z,H3,I3,r3,k,e,q3⟩=>?_) hm
 subst e
 cases r3
 exact wpAny_truthy_bool ⟨H3,I3,q3⟩
theorem line63:(sizeLine:Nat)<2 ^ 63:=by rw[sizeLine_eq];decide
theorem vals1 {x:V}{us:List Value} (r:Vals [x] us):∃ u,us=[u]∧RelV x u:=by
 cases r with
 | cons r1 r2=>cases r2;exact⟨_,rfl,r1⟩
theorem vals2 {x y:V}{us:List Value} (r:Vals [x,y] us):∃ u w',us=[u,w']∧RelV x u∧RelV y w':=by
 cases r with
 | cons r1 r2 =>
  cases r2 with
  | cons r3 r4=>cases r4;exact⟨_,_,rfl,r1,r3⟩
end
end L2
namespace L2
open PySem PySem.Spec PyProof.Rows
structure ObjM (h:Heap) (x dx C:Addr) (mA:Str→Option Value):Prop where
 obj:h.get? x=some (PySem.W.instObj C dx)
 ns : h.Ns1 dx mA
 ne : dx≠x
theorem lookIn_ns {h:Heap}{dx:Addr}{mA:Str→Option Value} (n:h.Ns1 dx mA):∃ od,h.get? dx=some od∧∀ name,PySem.W.lookIn name od=some (mA name):=by
 obtain ⟨o,es,ep,ho,hd,hk,_,hm⟩:=n
 refine ⟨o,ho,fun name=>?_⟩
 have e:=hm name
 unfold nsFind findBy at e
 rw [←Array.find?_toList] at e
 unfold PySem.W.lookIn
 rw [hd]
 dsimp only
 split
 ·rename_i y q
  rw [q] at e
  exact congrArg some e
 ·rename_i q
  rw [q] at e
  have a:es.toList.any (·.refKey)=false:=by
   rw [List.any_eq_false]
   intro y hy
   obtain ⟨z,t,hkey⟩:=hk y (Array.mem_toList_iff.mp hy)
   simp [DictEntry.refKey,hkey]
  have a':¬es.toList.any (·.refKey)=true:=by rw[a];exact Bool.false_ne_true
  rw [if_neg a']
  exact congrArg some e
theorem ObjM.look {h:Heap}{x dx C:Addr}{mA:Str→Option Value} (I:ObjM h x dx C mA):∃ od,PySem.W.InstAt h x (PySem.W.instObj C dx) C (some od)∧∀ name,PySem.W.lookIn name od=some (mA name) :=
 let ⟨od,ho,hl⟩:=lookIn_ns I.ns
 ⟨od,⟨I.obj,rfl,rfl,ho⟩,hl⟩
section
variable {prog:Program}{w:World}{A:Around}{E:Value→Shared→Prop}{s:Shared}{K:PySem.W.Frag}{x dx C f:Addr}{mA:Str→Option Value}{name:Str}{v:Value}
end
section
variable {P:Program}{w:World}{H H':Hp}{h h':Heap}{a C dx:Addr}{fs fs':List (Str×V)}
end
structure Cls (K:PySem.W.Frag) (C:Addr):Prop where
 pg : PySem.W.plainGet K C Str.empty=true
 hd : PySem.W.hasDictIn K C=true
 po : PySem.W.plainOver K C=true
 sa : PySem.W.findIn K (.ref C) "__setattr__" = some (some (.builtin "object.__setattr__"))
theorem Cls.get {K:PySem.W.Frag}{C:Addr} (c:Cls K C) (f:Str):PySem.W.plainGet K C f=true:=c.pg
section
variable {X:Cx}{pins:List (Addr×Obj)}{σ:St}{H:Hp}{s:Shared}{a C dx:Addr}{fs:List (Str×V)}{f:Str}{v:V}{A:Around}{E:Value→Shared→Prop}
end
section
variable {X:Cx}{o e value:Expr}{f:Str}{pos pos' tpos:Pos}{ta tv:TE}
end
section
variable {X:Cx}{pins:List (Addr×Obj)}{σ:St}{H:Hp}{s:Shared}{A:Around}{E:Value→Shared→Prop}{Q:Value→Shared→Prop}{c:Value}{b:Bool}
end
end L2
namespace L2
open PySem PySem.Spec PyProof.Rows
structure Room (k:Nat) (A:Around):Prop where
 hd : A.handled=none
 dp : A.depth+3*k+5<recursionLimit
 un : A.units+16*k+200<cLine
theorem Room.mono {j k:Nat}{A:Around} (r:Room k A) (h:j≤k):Room j A:=⟨r.hd,by have:=r.dp;omega,by have:=r.un;omega⟩
theorem Room.deeper {k:Nat}{A:Around} (r:Room (k+1) A) (env:Env):Room k (A.deeper env) :=
 ⟨r.hd,by have:=r.dp;show A.depth+1+3*k+5<_;omega,by have:=r.un;show A.units+3+16*k+200<_;omega⟩
theorem Room.in1 {k:Nat}{A:Around} (r:Room (k+1) A):Room k A.in1 :=
 ⟨r.hd,by have:=r.dp;show A.depth+3*k+5<_;omega,by have:=r.un;show A.units+1+16*k+200<_;omega⟩
theorem Room.depth {k:Nat}{A:Around} (r:Room k A):A.depth<recursionLimit:=by have:=r.dp;omega
theorem Room.units {k:Nat}{A:Around} (r:Room k A):A.units+64<cLine:=by have:=r.un;omega
noncomputable def tNil:TA:=fun _ H Q=>Q [] H
noncomputable def tCons (ta:TE) (tr:TA):TA:=fun σ H Q=>ta σ H fun x H1=>tr σ H1 fun xs H2=>Q (x::xs) H2
section
variable {X:Cx}{e:Expr}{es:List Expr}{te:TE}{t:TA}{pos:Pos}
theorem pa_nil:PA X [] tNil:=fun _ _ _ _ H Q I h=>Calls.spliced_nil ⟨[],H,I,.nil,h⟩
theorem pa_cons (ha:PE X e te) (hr:PA X es t) (hs:starEach (e::es) X.env=(false,eval e X.env)::starEach es X.env:=by rfl):PA X (e::es) (tCons te t):=by
 intro pos pins s σ H Q I h
 rw [hs]
 show wpAny _ _ (spliced ((false,eval e X.env)::backTo pos (starEach es X.env))) _ _ s
 refine Calls.spliced_cons (thn (ha pins s σ H _ I h) fun u s1 ⟨x,H1,I1,r1,q1⟩=>?_)
 exact thn (hr pos pins s1 σ H1 _ I1 q1) fun us s2 ⟨xs,H2,I2,r2,q2⟩=>⟨x::xs,H2,I2,.cons r1 r2,q2⟩
noncomputable def tTup (t:TA):TE:=fun σ H Q=>t σ H fun xs H1=>xs.length≤sizeLine∧∀ p,H1 p=none→Q (.ref p) (upd H1 p (.tup xs))
noncomputable def tLst (t:TA):TE:=fun σ H Q=>t σ H fun xs H1=>xs.length≤sizeLine∧∀ p,H1 p=none→Q (.ref p) (upd H1 p (.lst xs))
theorem pe_tup {x1} (h:PA X es t):PE X (.Tuple es x1 pos) (tTup t):=by
 intro pins s σ H Q I hq
 refine wpAny_Tuple_spliced (thn (h pos pins s σ H _ I hq) fun us s1 ⟨xs,H1,I1,r,z,q⟩=>⟨by rw[←r.length];exact z,?_⟩)
 have hf:H1 s1.heap.objs.size=none:=I1.hok.fresh (Nat.le_refl _)
 refine ⟨.ref s1.heap.objs.size,upd H1 s1.heap.objs.size (.tup xs),I1.laid (t':=s1.toks) (fun b u e=>Heap.get?_push_of_some _ e) (Nat.le_refl _) ?_,rfl,q _ hf⟩
 exact ⟨z,us,r,⟨_,Heap.get?_push_size _ rfl,rfl,_,rfl⟩⟩
theorem pe_lst (h:PA X es t):PE X (.List es pos) (tLst t):=by
 intro pins s σ H Q I hq
 refine wpAny_List_spliced (thn (h pos pins s σ H _ I hq) fun us s1 ⟨xs,H1,I1,r,z,q⟩=>⟨by rw[←r.length];exact z,?_⟩)
 have hf:H1 s1.heap.objs.size=none:=I1.hok.fresh (Nat.le_refl _)
 refine ⟨.ref s1.heap.objs.size,upd H1 s1.heap.objs.size (.lst xs),I1.laid (t':=s1.toks) (fun b u e=>Heap.get?_push_of_some _ e) (Nat.le_refl _) ?_,rfl,q _ hf⟩
 exact ⟨z,us,0,r,Heap.get?_push_size _ rfl⟩
end
noncomputable abbrev Sp:=List V→Hp→VK→XK→Prop
noncomputable abbrev CXT:=List Env→Hp→Shared→XK→Value→Shared→Prop
structure Env0 (P:Program) (w:World) (K:PySem.W.Frag) (mg:Str→Option Value) (base:Heap) (A:Around) (outer:List Env) (s:Shared) (H:Hp):Prop where
 frames:A.frames=some outer
 mod:Mod K mg base
 bs : ∀ b o,base.get? b=some o→s.heap.get? b=some o∧H b=none
 bsz:base.objs.size≤s.heap.objs.size
 funs:s.heap.FunFrames base outer
 frf:∀ b∈frs outer,H b=none
 hok:HOk P w H s.heap
 bare:AllBare s.gens
 tab:TabsIn K H
noncomputable def CE (outer:List Env) (P:Program) (w:World) (H:Hp) (s:Shared) (Q:VK) (u:Value) (s':Shared):Prop :=
 ∃ v H',s'.os=s.os∧AllBare s'.gens∧Un (frs outer) [] H H' s.heap s'.heap∧HOk P w H' s'.heap∧RelV v u∧Q v H'
noncomputable def CR (CX:CXT) (outer:List Env) (P:Program) (w:World) (H:Hp) (s:Shared) (Q:VK) (E:XK) (r:Result) (s':Shared):Prop :=
 match r with
 | .ok (.ret u)=>CE outer P w H s Q u s'
 | .ok _=>False
 | .error e=>CX outer H s E e s'
structure FnOk (P:Program) (w:World) (K:PySem.W.Frag) (mg:Str→Option Value) (base:Heap) (CX:CXT) (k:Nat) (f:Addr) (fd:FuncData) (ps:List Str) (sp:Sp):Prop where
 len:∀ vs H Q E,sp vs H Q E→vs.length=ps.length
 run:∀ (A:Around) (outer:List Env) (s:Shared) (H:Hp) (args:Args) (us:List Value) (vs:List V) (Q:VK) (E:XK),Room k A→Env0 P w K mg base A outer s H→BindsTo s fd args (ps.zip us)→Vals vs us→sp vs H Q E →
  codeAny (model P w) A (.call (.ref f) args) (CR CX outer P w H s Q E) s
theorem FnOk.mono {P:Program}{w:World}{K:PySem.W.Frag}{mg:Str→Option Value}{base:Heap}{CX:CXT}{j k:Nat}{f:Addr}{fd:FuncData}{ps:List Str}{sp:Sp} (F:FnOk P w K mg base CX j f fd ps sp) (h:j≤k) :
  FnOk P w K mg base CX k f fd ps sp:=⟨F.len,fun A outer s H args us vs Q E hr=>F.run A outer s H args us vs Q E (hr.mono h)⟩
theorem FnOk.imp {P:Program}{w:World}{K:PySem.W.Frag}{mg:Str→Option Value}{base:Heap}{CX:CXT}{k:Nat}{f:Addr}{fd:FuncData}{ps:List Str}{sp sp':Sp} (F:FnOk P w K mg base CX k f fd ps sp)
  (h : ∀ vs H Q E,sp' vs H Q E→sp vs H Q E):FnOk P w K mg base CX k f fd ps sp' :=
 ⟨fun vs H Q E q=>F.len vs H Q E (h _ _ _ _ q),fun A outer s H args us vs Q E hr he hb hv hs=>F.run A outer s H args us vs Q E hr he hb hv (h _ _ _ _ hs)⟩
theorem Env0.in1 {P:Program}{w:World}{K:PySem.W.Frag}{mg:Str→Option Value}{base:Heap}{A:Around}{outer:List Env}{s:Shared}{H:Hp} (e:Env0 P w K mg base A outer s H) :
  Env0 P w K mg base A.in1 outer s H:=⟨e.frames,e.mod,e.bs,e.bsz,e.funs,e.frf,e.hok,e.bare,e.tab⟩
section
variable {X:Cx}{pins:List (Addr×Obj)}{σ:St}{H:Hp}{s s':Shared}
theorem Inv.env0 (I:Inv X pins σ H s):Env0 X.prog X.w X.K X.mg X.base X.A X.stack s H :=
 ⟨I.ok.frames,I.ok.mod,I.bs,Nat.le_trans I.ok.bsz I.sz,I.stack,I.stkFree,I.hok,I.bare,fun T q h=>I.base.tbls T q (I.ok.tab T q h)⟩
theorem Inv.after {Q:VK}{u:Value} (I:Inv X pins σ H s) (h:CE X.stack X.prog X.w H s Q u s'):EP X pins σ Q u s':=by
 obtain ⟨v,H',os,bare,un,hok,r,q⟩:=h
 obtain ⟨hh,g,d,t,os'⟩:=s'
 obtain rfl:os'=s.os:=os
 exact ⟨v,H',I.call (h':=hh) (g':=g) (d':=d) (t':=t) (ch:=[]) un hok bare (fun b z=>absurd z (by simp)),r,q⟩
end
noncomputable def tCall (sp:Sp) (dvs:List V) (E:XK) (t:TA):TE:=fun σ H Q=>t σ H fun vs H1=>sp (vs++dvs) H1 Q E
noncomputable def Binds (K:PySem.W.Frag) (fd:FuncData) (ps:List Str) (ds:List Value):Prop :=
 ∀ (s:Shared) (us:List Value),K.In s.heap→(us++ds).length=ps.length→BindsTo s fd ⟨us,[]⟩ (ps.zip (us++ds))
theorem Binds.all {K:PySem.W.Frag}{fd:FuncData}{ps:List Str} (h:∀ us:List Value,us.length=ps.length→bindArgs fd ⟨us,[]⟩=pure (ps.zip us)):Binds K fd ps []:=fun s us _ hl=>by
 rw [List.append_nil] at hl ⊢
 exact .of_eq (h us hl)
noncomputable def Passes (CX:CXT) (X:Cx) (E:XK):Prop:=∀ (pins:List (Addr×Obj)) (σ:St) (H:Hp) (s:Shared) (e:Value) (s':Shared),Inv X pins σ H s→CX X.stack H s E e s'→X.xe e s'
section
variable {X:Cx}{CX:CXT}{k:Nat}{f C:Addr}{fd:FuncData}{ps:List Str}{sp:Sp}{dvs:List V}{ds:List Value}{E:XK}{x m:Str}{p pos apos:Pos}{e o:Expr}{es:List Expr}{ta:TE}{t:TA}
theorem run_fn {pins:List (Addr×Obj)}{σ:St}{H:Hp}{s:Shared}{Q:VK}{us:List Value}{vs:List V} (F:FnOk X.prog X.w X.K X.mg X.base CX k f fd ps sp) (hr:Room k X.A) (hb:Binds X.K fd ps ds) (hd:Vals dvs ds) (hx:Passes CX X E)
  (I : Inv X pins σ H s) (r:Vals vs us) (h:sp (vs++dvs) H Q E):wpAny (model X.prog X.w) X.A (call (.ref f) us) (EP X pins σ Q) X.xe s:=by
 have r2:Vals (vs++dvs) (us++ds):=r.append hd
 have hl:(us++ds).length=ps.length:=by rw[←r2.length];exact F.len _ _ _ _ h
 refine wpAny_call (codeAny_mono (F.run X.A X.stack s H ⟨us,[]⟩ (us++ds) (vs++dvs) Q E hr I.env0 (hb s us I.kIn hl) r2 h) fun r s' hq=>?_)
 cases r with
 | error e=>exact hx pins σ H s e s' I hq
 | ok fl =>
  cases fl with
  | ret u=>exact I.after hq
  | next=>exact False.elim hq
  | brk=>exact False.elim hq
  | cont=>exact False.elim hq
theorem pe_call (F:FnOk X.prog X.w X.K X.mg X.base CX k f fd ps sp) (hr:Room k X.A) (hg:Gl X x) (hm:X.mg x=some (.ref f)) (hk:PySem.W.keepIn X.K (.ref f)=true) (hb:Binds X.K fd ps ds) (hd:Vals dvs ds) (hx:Passes CX X E)
  (ha:PA X (e::es) t) (hdb:(x==("__debug__" : Str))=false:=by decide) (he:starEach (e::es) X.env=(false,eval e X.env)::starEach es X.env:=by rfl) (hpl:(backTo pos (starEach es X.env)).any (·.1)=false:=by rfl) :
  PE X (.Call (.Name x p) (e::es) [] pos) (tCall sp dvs E t):=by
 intro pins s σ H Q I h
 refine wpAny_Call_Name_kw (ld_glob I hg hm ?_ hdb)
 refine PySem.W.callWith_K (h₀:=X.base) I.ok.mod.kin hk (thn (ha pos pins s σ H _ I h) fun us s1 ⟨vs,H1,I1,r,q⟩=>⟨I1.kIn,?_⟩) he hpl
 exact run_fn F hr hb hd hx I1 r q
end
section
variable {X:Cx}{CX:CXT}{k:Nat}{f C:Addr}{fd:FuncData}{ps ks:List Str}{sp:Sp}{E:XK}{x m:Str}{p pos apos kpos:Pos}{e o:Expr}{es:List Expr}{kws:List Keyword}{te ta:TE}{t tk:TA}{nm:Option Str}
variable {g:List Value→List Value→List Value}{gV:List V→List V→List V}
end
structure FnScope (N P:List Str) (sc:Scope):Prop where
 kind:sc.kind=.function
 co : sc.isCoroutine=false
 gen:sc.isGenerator=false
 nd : N.Nodup
 pre:N.take P.length=P
 par:∀ x∈P,sc.names.lookup x=some .local∨sc.names.lookup x=some .cell
 nofree:∀ y∈sc.names,y.2≠.free
theorem bindL_out {kindOf:Str→Option NameKind}{x:Str}:∀ {binds:List (Str×Value)}{m:Str→Option Value},(∀ v,(x,v) ∉ binds)→bindL kindOf binds m x=m x
 | [],_,_=>rfl
 | (n,v)::r,m,h=>by
  unfold bindL
  rw [bindL_out fun w hw=>h w (List.mem_cons_of_mem _ hw)]
  split
  ·have:x≠n:=by rintro rfl;exact h v List.mem_cons_self
   simp [this]
  ·rfl
theorem bindC_out {kindOf:Str→Option NameKind}{x:Str}:∀ {binds:List (Str×Value)}{m:Str→Option Value},(∀ v,(x,v) ∉ binds)→bindC kindOf binds m x=m x
 | [],_,_=>rfl
 | (n,v)::r,m,h=>by
  unfold bindC
  rw [bindC_out fun w hw=>h w (List.mem_cons_of_mem _ hw)]
  split
  ·rfl
  ·have:x≠n:=by rintro rfl;exact h v List.mem_cons_self
   simp [this]
theorem bindL_get {kindOf:Str→Option NameKind}{x:Str}{v:Value}:∀ {P:List Str}{vs:List Value}{i:Nat}{m:Str→Option Value},P.Nodup→P[i]? = some x→vs[i]? = some v→kindOf x=some .local →
  bindL kindOf (P.zip vs) m x=some v
 | [],_,_,_,_,h,_,_=>by simp at h
 | _::_,[],_,_,_,_,h,_=>by simp at h
 | p::P,w::vs,0,m,nd,h1,h2,hk=>by
  simp at h1 h2;subst h1;subst h2
  show bindL kindOf ((p,w)::P.zip vs) m p=_
  unfold bindL
  rw [bindL_out fun v hv=>(List.nodup_cons.mp nd).1 (List.of_mem_zip hv).1,if_pos hk]
  simp
 | p::P,w::vs,i+1,m,nd,h1,h2,hk=>by
  show bindL kindOf ((p,w)::P.zip vs) m x=_
  unfold bindL
  exact bindL_get (i:=i) (List.nodup_cons.mp nd).2 (by simpa using h1) (by simpa using h2) hk
theorem bindC_get {kindOf:Str→Option NameKind}{x:Str}{v:Value}:∀ {P:List Str}{vs:List Value}{i:Nat}{m:Str→Option Value},P.Nodup→P[i]? = some x→vs[i]? = some v→kindOf x≠some .local →
  bindC kindOf (P.zip vs) m x=some v
 | [],_,_,_,_,h,_,_=>by simp at h
 | _::_,[],_,_,_,_,h,_=>by simp at h
 | p::P,w::vs,0,m,nd,h1,h2,hk=>by
  simp at h1 h2;subst h1;subst h2
  show bindC kindOf ((p,w)::P.zip vs) m p=_
  unfold bindC
  rw [bindC_out fun v hv=>(List.nodup_cons.mp nd).1 (List.of_mem_zip hv).1,if_neg hk]
  simp
 | p::P,w::vs,i+1,m,nd,h1,h2,hk=>by
  show bindC kindOf ((p,w)::P.zip vs) m x=_
  unfold bindC
  exact bindC_get (i:=i) (List.nodup_cons.mp nd).2 (by simpa using h1) (by simpa using h2) hk
noncomputable def start (N:List Str) (vs:List V):St:=vs.map some++List.replicate (N.length - vs.length) none
noncomputable def cxOf (CX:CXT) (P:Program) (w:World) (K:PySem.W.Frag) (mg:Str→Option Value) (base:Heap) (N:List Str) (qual:Str) (scope:Scope) (f:Addr) (cd:Value) (A:Around) (outer:List Env) (s:Shared) (H:Hp) (E:XK):Cx where
 prog:=P
 w := w
 K := K
 mg := mg
 base:=base
 A := A.deeper (envOfC qual scope s.heap.objs.size f cd)
 N := N
 s₀ := s
 H₀ := H
 env:=envOfC qual scope s.heap.objs.size f cd
 outer:=outer
 stack:=envOfC qual scope s.heap.objs.size f cd::outer
 ex := []
 calm:=true
 fn := fun _=>true
 pn := []
 xe := fun e s'=>wpAny (model P w) (A.deeper (envOfC qual scope s.heap.objs.size f cd)) (leaving (envOfC qual scope s.heap.objs.size f cd) e) (fun _ s''=>CX outer H s E e s'') (fun e' s''=>CX outer H s E e' s'') s'
theorem cell_has {sc:Scope}{n:Nat}{x:Str} (h:sc.names.lookup x=some .cell):∃ c,(cellsFrom n sc.names []).lookup x=some c:=by
 have q:=PySem.W.cellsFrom_some sc.names n [] (.inl h)
 exact Option.isSome_iff_exists.mp q
theorem inv_start {CX:CXT}{P:Program}{w:World}{K:PySem.W.Frag}{mg:Str→Option Value}{base:Heap}{N ps:List Str}{qual:Str}{scope:Scope}{f:Addr}{cd:Value}{A:Around}{outer:List Env}{s s1:Shared}{H:Hp}{E:XK}{us:List Value}{vs:List V}
  (S : FnScope N ps scope) (hd:A.handled=none) (e0:Env0 P w K mg base A outer s H) (hl:vs.length=ps.length) (r:Vals vs us)
  (x : InCallC s s.heap.objs.size (bindL (envOfC qual scope s.heap.objs.size f cd).kindOf (ps.zip us) fun _=>none) (cellsFrom (s.heap.objs.size+1) scope.names []) (bindC (envOfC qual scope s.heap.objs.size f cd).kindOf (ps.zip us) fun _=>none) s1) :
  Inv (cxOf CX P w K mg base N qual scope f cd A outer s H E) [] (start N vs) H s1:=by
 have hpl:ps.length≤N.length:=by have:=congrArg List.length S.pre;rw[List.length_take] at this;omega
 obtain ⟨h1,tk,rfl,hk⟩:=x.done
 have noA:∀ b:Addr,b ∉ (cxOf CX P w K mg base N qual scope f cd A outer s H E).ex:=fun b z=>absurd (show b∈([]:List Addr) from z) (by simp)
 refine ⟨⟨e0.mod,S.kind,rfl,rfl,Nat.le_refl _,fun y z c h1 h2=>?_,fun y hy=>?_,fun y c _ h=>?_,fun _=>hd,Around.frames_deeper e0.frames,.inr ⟨rfl,rfl⟩,fun b z=>absurd z (noA b),e0.bs,e0.bsz,fun b _ _=>noA b,fun b z=>absurd z (noA b),e0.funs,e0.frf,e0.tab⟩,
  rfl,e0.bare,Un.kept hk,⟨_,x.toInCall.ns,fun i y v h1 h2 h3=>?_⟩,fun y c h=>⟨_,x.cell y c h⟩,e0.hok.fresh (Nat.le_refl _),fun y c h=>?_,fun p hp=>absurd (show p∈([]:List (Addr×Obj)) from hp) (by simp),e0.hok.kept hk,?_⟩
 ·exact name_of_addr x.apart (PySem.mem_of_lookup h1) (PySem.mem_of_lookup h2)
 ·have hy:scope.names.lookup y=some .cell∨scope.names.lookup y=some .free:=hy
  rcases hy with hy|hy
  ·exact cell_has hy
  ·exact absurd rfl (S.nofree _ (PySem.mem_of_lookup hy))
 ·exact Nat.le_of_lt (x.above y c (PySem.mem_of_lookup h))
 ·have hi:i<vs.length:=by
   unfold start at h2
   by_cases hi:i<vs.length
   ·exact hi
   ·rw [List.getElem?_append_right (by simpa using hi)] at h2
    rw [List.getElem?_replicate] at h2
    split at h2 <;> cases h2
  have ha:vs[i]? = some v:=by
   unfold start at h2
   rw [List.getElem?_append_left (by simpa using hi),List.getElem?_map] at h2
   cases e:vs[i]? with
   | none=>rw[e] at h2;cases h2
   | some a=>rw[e] at h2;cases h2;rfl
  obtain ⟨u,hu,rv⟩:=r.get ha
  have hp:ps[i]? = some y:=by
   rw [←S.pre,List.getElem?_take_of_lt (by omega)];exact h1
  have ndP:ps.Nodup:=by rw[←S.pre];exact S.nd.sublist (List.take_sublist _ _)
  refine ⟨u,rv,?_⟩
  rcases S.par y (List.mem_of_getElem? hp) with k|k
  ·exact .inl ⟨k,bindL_get ndP hp hu k⟩
  ·obtain ⟨c,e⟩:=cell_has (n:=s.heap.objs.size+1) k
   refine .inr ⟨.inl k,c,e,?_⟩
   have q:=x.cell y c e
   rw [bindC_get ndP hp hu (by show scope.names.lookup y≠_;rw[k];decide)] at q
   exact q
 ·exact e0.hok.fresh (Nat.le_of_lt (x.above y c (PySem.mem_of_lookup h)))
 ·unfold start
  show _=N.length
  rw [List.length_append,List.length_map,List.length_replicate]
  omega
theorem fn_of {CX:CXT}{P:Program}{w:World}{K:PySem.W.Frag}{mg:Str→Option Value}{base:Heap}{k:Nat}{f:Addr}{name qual:Str}{params:Arguments}{body:List Stmt}{scope:Scope}{dV kV doc pm cdv ct oc:Value}{an od:Option Addr}
  {osl:Array (Option Value)}{N ps:List Str}{sp:Sp} (lk:K.lookup f=some ⟨oc,od,.func (PySem.W.fnOf name qual params body scope dV kV doc pm an cdv ct),osl⟩) (hcd:PySem.W.codeIn K cdv qual=true) (S:FnScope N ps scope)
  (len:∀ vs H Q E,sp vs H Q E→vs.length=ps.length)
  (hbody:∀ (A:Around) (outer:List Env) (s:Shared) (H:Hp) (vs:List V) (Q:VK) (E:XK),Room k (A.deeper (envOfC qual scope s.heap.objs.size f cdv))→sp vs H Q E →
   ∃ t,PSs (cxOf CX P w K mg base N qual scope f cdv A outer s H E) body t∧t { nx:=fun _ H'=>Q .non H',rt:=Q } (start N vs) H) :
  FnOk P w K mg base CX (k+1) f (PySem.W.fnOf name qual params body scope dV kV doc pm an cdv ct) ps sp:=by
 refine ⟨len,fun A outer s H args us vs Q E hr e0 hb r hsp=>?_⟩
 have hl:=len _ _ _ _ hsp
 have KX:K.In s.heap:=e0.mod.kin.keeps fun b o e=>(e0.bs b o e).1
 have lim:s.heap.NoLimit:=e0.mod.nolimit.keeps fun b o e=>(e0.bs b o e).1
 have hkind:∀ y∈ps.zip us,scope.names.lookup y.1=some .local∨(scope.names.lookup y.1=some .cell∧((cellsFrom (s.heap.objs.size+1) scope.names []).lookup y.1).isSome=true):=fun ⟨n,v⟩ hy=>by
  rcases S.par n (List.of_mem_zip hy).1 with q|q
  ·exact .inl q
  ·exact .inr ⟨q,PySem.W.cellsFrom_some _ _ _ (.inl q)⟩
 refine codeAny_call_function hr.depth (KX _ _ lk) rfl S.co S.gen rfl (PySem.W.codeRec_of KX hcd) (hb _ _ _ _ ?_)
 refine wpAny_newFunctionEnv_cells S.kind hkind fun env he s1 x=>?_
 subst he
 refine ⟨lim.keeps x.toInCall.keep,codeAny_func ?_⟩
 obtain ⟨t,ht,hq⟩:=hbody A outer s H vs Q E (hr.deeper _) hsp
 have I:Inv (cxOf CX P w K mg base N qual scope f cdv A outer s H E) [] (start N vs) H s1:=inv_start S hr.hd e0 hl r x
 refine wpAny_mono (ht [] s1 (start N vs) H _ I hq) (fun fl s' hs=>?_) fun e s' hs=>hs
 have fin:∀ {σ':St}{H':Hp}{v:V}{u:Value},Inv (cxOf CX P w K mg base N qual scope f cdv A outer s H E) [] σ' H' s'→RelV v u→Q v H'→CE outer P w H s Q u s' :=
  fun {σ' H' v u} J rv q=>⟨v,H',J.os,J.bare,J.base,J.hok,rv,q⟩
 cases fl with
 | ret u =>
  obtain ⟨v,σ',H',J,rv,q⟩:=hs
  exact fin J rv q
 | next =>
  obtain ⟨σ',H',J,q⟩:=hs
  exact fin (v:=V.non) (u:=Value.none) J rfl q
 | brk =>
  obtain ⟨_,_,_,q⟩:=hs
  exact False.elim q
 | cont =>
  obtain ⟨_,_,_,q⟩:=hs
  exact False.elim q
end L2
namespace L2
open PySem PySem.Spec PyProof.Rows
section
variable {X:Cx}{x:Str}{p pos:Pos}{e:Expr}{es:List Expr}{t:TA}{id T:String}{r:List V→Hp→VK→Prop}
noncomputable def tCB (r:List V→Hp→VK→Prop) (t:TA):TE:=fun σ H Q=>t σ H fun vs H1=>r vs H1 Q
theorem pe_callB (hc:CallR X (.builtin id) r) (hg:Gl X x) (hm:X.mg x=none) (hv:bootBuiltins x=some (.builtin id)) (ha:PA X (e::es) t) (hn:x ≠ "__name__" := by decide) (hdb:(x==("__debug__" : Str))=false:=by decide)
  (he:starEach (e::es) X.env=(false,eval e X.env)::starEach es X.env:=by rfl) (hpl:(backTo pos (starEach es X.env)).any (·.1)=false:=by rfl):PE X (.Call (.Name x p) (e::es) [] pos) (tCB r t):=by
 intro pins s σ H Q I h
 refine wpAny_Call_Name_kw (ld_blt I hg hm hv ?_ hn hdb)
 exact PyProof.Rows.callWith_builtin1 (thn (ha pos pins s σ H _ I h) fun us s1 ⟨vs,H1,I1,r1,q1⟩=>hc pins s1 σ H1 vs us Q I1 r1 q1) he hpl
theorem pe_callTy (hc:CallR X (.type T) r) (hg:Gl X x) (hm:X.mg x=none) (hv:bootBuiltins x=some (.type T)) (ha:PA X (e::es) t) (hn:x ≠ "__name__" := by decide) (hdb:(x==("__debug__" : Str))=false:=by decide)
  (he:starEach (e::es) X.env=(false,eval e X.env)::starEach es X.env:=by rfl) (hpl:(backTo pos (starEach es X.env)).any (·.1)=false:=by rfl):PE X (.Call (.Name x p) (e::es) [] pos) (tCB r t):=by
 intro pins s σ H Q I h
 refine wpAny_Call_Name_kw (ld_blt I hg hm hv ?_ hn hdb)
 exact PyProof.Rows.callWith_type1 (thn (ha pos pins s σ H _ I h) fun us s1 ⟨vs,H1,I1,r1,q1⟩=>hc pins s1 σ H1 vs us Q I1 r1 q1) he hpl
end
end L2
namespace HT
open PySem PyProof.Rows
noncomputable def lexLt:List Int→List Int→Bool
 | [],[]=>false
 | [],_::_=>true
 | _::_,[]=>false
 | x::xs,y::ys=>if x=y then lexLt xs ys else decide (x<y)
theorem lexLt_cons (x y:Int) (xs ys:List Int):lexLt (x::xs) (y::ys)=if x=y then lexLt xs ys else decide (x<y):=rfl
theorem lexLt_nil_nil:lexLt [] []=false:=rfl
theorem lexLt_nil_cons (y:Int) (ys:List Int):lexLt [] (y::ys)=true:=rfl
theorem lexLt_cons_nil (x:Int) (xs:List Int):lexLt (x::xs) []=false:=rfl
section
open PySem.SeqAt
open PySem.AutoSeq1 (wpAny_loadPart')
open PySem.MeetsSeq PySem.MeetsSeq2 PySem.MeetsSeq3
end
section
variable {prog:Program}{w:World}{A:Around}{E:Value→Shared→Prop}{s:Shared}
noncomputable def sIx (n d:Nat):Option Int→Nat
 | none=>d
 | some v=>if v<0 then (v+(n:Int)).toNat else min v.toNat n
theorem sIx_none (n d:Nat):sIx n d none=d:=rfl
theorem sIx_nat (n d k:Nat):sIx n d (some (k:Int))=min k n:=by
 show (if (k:Int)<0 then ((k:Int)+(n:Int)).toNat else min (k:Int).toNat n)=min k n
 rw [if_neg (by omega),Int.toNat_natCast]
end
end HT
namespace L2
open PySem PySem.Spec PyProof.Rows
noncomputable abbrev TO:=St→Hp→(Option Int→Hp→Prop)→Prop
noncomputable def PO (X:Cx) (e:Option Expr) (t:TO):Prop :=
 ∀ (pins:List (Addr×Obj)) (s:Shared) (σ:St) (H:Hp) (Q:Option Int→Hp→Prop),Inv X pins σ H s→t σ H Q →
  wpAny (model X.prog X.w) X.A (evalPart e X.env) (fun u s'=>∃ o H',Inv X pins σ H' s'∧IsPart u o∧Q o H') X.xe s
noncomputable def tNoPart:TO:=fun _ H Q=>Q none H
noncomputable def tPart (t:TE):TO:=fun σ H Q=>t σ H fun x H1=>∃ i,x=.int i∧Q (some i) H1
section
variable {X:Cx}{e:Expr}{te:TE}{lo hi:Option Expr}{tl th:TO}{pos p2:Pos}
theorem po_none:PO X none tNoPart:=by
 intro pins s σ H Q I h
 rw [evalPart_none]
 exact wpAny_pure ⟨none,H,I,.none,h⟩
theorem po_some (h:PE X e te):PO X (some e) (tPart te):=by
 intro pins s σ H Q I hw
 rw [evalPart_some]
 refine thn (h pins s σ H _ I hw) fun u s1 ⟨x,H1,I1,r1,q1⟩=>?_
 obtain ⟨i,rfl,q⟩:=q1
 obtain ⟨t,rfl⟩:=r1
 exact ⟨some i,H1,I1,.int i t,q⟩
noncomputable def SlR (X:Cx) (r:V→Option Int→Option Int→Hp→VK→Prop):Prop :=
 ∀ (pins:List (Addr×Obj)) (s:Shared) (σ:St) (H:Hp) (x:V) (v vl vu:Value) (lo hi:Option Int) (sl:Addr) (Q:VK),Inv X pins σ H s→RelV x v→s.heap.IsSliceOf sl vl vu .none→IsPart vl lo→IsPart vu hi→r x lo hi H Q →
  ∃ T id,typeLookup (.type T) "__getitem__" = pure (some (.builtin id))∧s.TypeIs v T∧wpAny (model X.prog X.w) X.A (getItem v (.ref sl)) (EP X pins σ Q) X.xe s
theorem SlR.or {r r':V→Option Int→Option Int→Hp→VK→Prop} (h:SlR X r) (h':SlR X r'):SlR X (fun x lo hi H Q=>r x lo hi H Q∨r' x lo hi H Q):=by
 intro pins s σ H x v vl vu lo hi sl Q I rx hs pl pu q
 rcases q with q|q
 ·exact h pins s σ H x v vl vu lo hi sl Q I rx hs pl pu q
 ·exact h' pins s σ H x v vl vu lo hi sl Q I rx hs pl pu q
noncomputable def tSl (r:V→Option Int→Option Int→Hp→VK→Prop) (te:TE) (tl th:TO):TE:=fun σ H Q=>te σ H fun x H1=>tl σ H1 fun l H2=>th σ H2 fun u H3=>r x l u H3 Q
theorem pe_slice {r:V→Option Int→Option Int→Hp→VK→Prop} (hr:SlR X r) (he:PE X e te) (hl:PO X lo tl) (hu:PO X hi th):PE X (.Subscript e (.Slice lo hi none p2) pos) (tSl r te tl th):=by
 intro pins s σ H Q I h
 refine Subscript_ (thn (he pins s σ H _ I h) fun v s1 ⟨x,H1,I1,r1,q1⟩=>?_)
 refine wpAny_Slice (thn (hl pins s1 σ H1 _ I1 q1) fun vl s2 ⟨l,H2,I2,pl,q2⟩=>thn (hu pins s2 σ H2 _ I2 q2) fun vu s3 ⟨u,H3,I3,pu,q3⟩=>?_)
 rw [evalPart_none]
 refine wpAny_pure ?_
 have I4:Inv X pins σ H3 { s3 with heap:=s3.heap.push { cls:=.type "slice",data:=.fields #[vl,vu,.none] } }:=I3.kept (t':=s3.toks) fun b ob q=>Heap.get?_push_of_some _ q
 obtain ⟨T,id,hT,ht,hg⟩:=hr pins { s3 with heap:=s3.heap.push { cls:=.type "slice",data:=.fields #[vl,vu,.none] } } σ H3 x v vl vu l u s3.heap.objs.size Q I4 r1 (Heap.IsSliceOf.new ..) pl pu q3
 show wpAny (model X.prog X.w) X.A (subscriptTail e (.Slice lo hi none p2) v (.ref s3.heap.objs.size)) (EP X pins σ Q) X.xe { s3 with heap:=s3.heap.push { cls:=.type "slice",data:=.fields #[vl,vu,.none] } }
 exact tail_any (ops:=[.ref s3.heap.objs.size,v]) ht hT hg (by with_unfolding_all rfl)
noncomputable def cutV (xs:List V) (lo hi:Option Int):List V:=(xs.drop (HT.sIx xs.length 0 lo)).take (HT.sIx xs.length xs.length hi - HT.sIx xs.length 0 lo)
theorem cutV_length (xs:List V) (lo hi:Option Int):(cutV xs lo hi).length≤xs.length:=by
 unfold cutV
 rw [List.length_take,List.length_drop]
 omega
end
end L2
namespace L2
open PySem PySem.Spec PyProof.Rows
noncomputable def ixN (n:Nat) (i:Int):Option Nat:=if 0≤i then (if i<n then some i.toNat else none) else if -(n:Int)≤i then some (i+n).toNat else none
noncomputable def atI {α:Type} (xs:List α) (i:Int):Option α:=(ixN xs.length i).bind fun j=>xs[j]?
theorem ixN_seq {n:Nat}{i:Int}{j:Nat} (h:ixN n i=some j):seqIndex? i n=some j∧j<n∧-(n:Int)≤i∧i<n:=by
 unfold ixN at h
 by_cases h0:0≤i
 ·rw [if_pos h0] at h
  by_cases h1:i<n
  ·rw [if_pos h1] at h
   have e:i.toNat=j:=Option.some.inj h
   exact ⟨by rw[seqIndex_of h0 h1,e],by omega,by omega,h1⟩
  ·rw [if_neg h1] at h;cases h
 ·rw [if_neg h0] at h
  by_cases h1:-(n:Int)≤i
  ·rw [if_pos h1] at h
   have e:(i+n).toNat=j:=Option.some.inj h
   exact ⟨by rw[seqIndex_neg (by omega) h1,e],by omega,h1,by omega⟩
  ·rw [if_neg h1] at h;cases h
theorem atI_get {α:Type}{xs:List α}{i:Int}{v:α} (h:atI xs i=some v):∃ j,seqIndex? i xs.length=some j∧xs[j]? = some v∧j<xs.length∧-(xs.length:Int)≤i∧i<xs.length:=by
 unfold atI at h
 cases e:ixN xs.length i with
 | none=>rw[e] at h;cases h
 | some j =>
  rw [e] at h
  obtain ⟨h1,h2,h3,h4⟩:=ixN_seq e
  exact ⟨j,h1,h,h2,h3,h4⟩
theorem atI_nat {α:Type}{xs:List α}{j:Nat}{v:α} (h:xs[j]? = some v):atI xs (j:Int)=some v:=by
 have hj:j<xs.length:=(List.getElem?_eq_some_iff.mp h).1
 have e:ixN xs.length (j:Int)=some j:=by
  unfold ixN
  rw [if_pos (by omega),if_pos (by omega)];simp
 unfold atI;rw[e];exact h
noncomputable def PlainIx (b:Expr):Prop:=∀ o i,subscripted b false o i=operate [o,i] (getItem o i)
noncomputable def IxR (X:Cx) (r:R2):Prop :=
 ∀ (value slice:Expr) (pins:List (Addr×Obj)) (s:Shared) (σ:St) (H:Hp) (x y:V) (v u:Value) (Q:VK),Inv X pins σ H s→RelV x v→RelV y u→r x y H Q →
  subscripted slice false v u=operate [v,u] (getItem v u)→wpAny (model X.prog X.w) X.A (subscriptTail value slice v u) (EP X pins σ Q) X.xe s
noncomputable def MtR (X:Cx) (id:String) (r:V→List V→Hp→VK→Prop):Prop :=
 ∀ (pins:List (Addr×Obj)) (s:Shared) (σ:St) (H:Hp) (x:V) (xs:List V) (v:Value) (us:List Value) (Q:VK),Inv X pins σ H s→RelV x v→Vals xs us→r x xs H Q →
  wpAny (model X.prog X.w) X.A (call (.builtin id) (v::us)) (EP X pins σ Q) X.xe s
section
variable {X:Cx}{a b:Expr}{ta tb:TE}{pos:Pos}
theorem IxR.or {r r':R2} (h:IxR X r) (h':IxR X r'):IxR X (fun x y H Q=>r x y H Q∨r' x y H Q):=by
 intro value slice pins s σ H x y v u Q I rx ry q hs
 rcases q with q|q
 ·exact h value slice pins s σ H x y v u Q I rx ry q hs
 ·exact h' value slice pins s σ H x y v u Q I rx ry q hs
theorem MtR.or {id:String}{r r':V→List V→Hp→VK→Prop} (h:MtR X id r) (h':MtR X id r'):MtR X id (fun x xs H Q=>r x xs H Q∨r' x xs H Q):=by
 intro pins s σ H x xs v us Q I rx rs q
 rcases q with q|q
 ·exact h pins s σ H x xs v us Q I rx rs q
 ·exact h' pins s σ H x xs v us Q I rx rs q
theorem pe_ix {r:R2} (hr:IxR X r) (ha:PE X a ta) (hb:PE X b tb) (hs:PlainIx b):PE X (.Subscript a b pos) (tOp r ta tb):=by
 intro pins s σ H Q I h
 exact Subscript_ (binT ha hb I h fun v u s2 x y H2 I2 rx ry q=>hr a b pins s2 σ H2 x y v u Q I2 rx ry q (hs _ _))
noncomputable def rIxL (K:PySem.W.Frag):R2:=fun x y H Q=>∃ p xs i v,x=.ref p∧y=.int i∧SqL K H p xs∧atI xs i=some v∧Q v H
noncomputable def rIxT (K:PySem.W.Frag):R2:=fun x y H Q=>∃ p xs i v,x=.ref p∧y=.int i∧SqT K H p xs∧atI xs i=some v∧Q v H
theorem ix_list:IxR X (rIxL X.K):=by
 intro value slice pins s σ H x y v u Q I rx ry h hs
 obtain ⟨p,xs,i,z,rfl,rfl,hq,he,q⟩:=h
 cases rx
 obtain ⟨t,rfl⟩:=ry
 obtain ⟨its,r,pl,hz⟩:=I.list hq
 obtain ⟨j,h1,h2,h3,h4,h5⟩:=atI_get he
 obtain ⟨w,ew,rw'⟩:=r.get h2
 have hl:=r.length
 have hn:=line63
 have fin:EP X pins σ Q w s:=⟨z,H,I,rw',q⟩
 by_cases h0:0≤i
 ·have hj:i.toNat=j:=by
   rw [seqIndex_of h0 h5] at h1
   exact Option.some.inj h1
  exact item_listR pl.isList h0 (by omega) (by rw[hj];simpa using ew) fin hs
 ·have hj:(i+(its.toArray.size:Int)).toNat=j:=by
   rw [seqIndex_neg (by omega) h4] at h1
   rw [List.size_toArray,←hl]
   exact Option.some.inj h1
  exact subscriptTail_builtinR (x:=w) pl.isList.typeIs slot_list_getitem.lookup
   (wpAny_getItem_list_neg (Q:=fun r s'=>r=w∧EP X pins σ Q r s') pl.isList (by omega) (by rw[List.size_toArray] <;> omega) (by omega) (by rw[hj];simpa using ew) ⟨rfl,fin⟩) hs
theorem ix_tup:IxR X (rIxT X.K):=by
 intro value slice pins s σ H x y v u Q I rx ry h hs
 obtain ⟨p,xs,i,z,rfl,rfl,hq,he,q⟩:=h
 cases rx
 obtain ⟨t,rfl⟩:=ry
 obtain ⟨its,r,pl,hz⟩:=I.tuple hq
 obtain ⟨j,h1,h2,h3,h4,h5⟩:=atI_get he
 obtain ⟨w,ew,rw'⟩:=r.get h2
 have hl:=r.length
 have hn:=line63
 have fin:EP X pins σ Q w s:=⟨z,H,I,rw',q⟩
 exact subscriptTail_builtinR (x:=w) pl.typeIs slot_tuple_getitem.lookup
  (getItem_tuple (j:=j) (Q:=fun r s'=>r=w∧EP X pins σ Q r s') pl (by omega) (by omega) (by rw[List.size_toArray,←hl];exact h1) (by simpa using ew) ⟨rfl,fin⟩) hs
theorem mapSeq_set (its:List Value) (n j:Nat) (u:Value):Obj.mapSeq (·.setIfInBounds j u) { cls:=.type "list",data:=.seq its.toArray n }={ cls:=.type "list",data:=.seq (its.set j u).toArray n }:=by
 simp [Obj.mapSeq]
theorem Inv.lst {pins:List (Addr×Obj)}{σ:St}{H:Hp}{s:Shared}{p:Addr}{xs:List V} (I:Inv X pins σ H s) (h:H p=some (.lst xs)) :
  ∃ (its:List Value) (n:Nat),Vals xs its∧s.heap.get? p=some { cls:=.type "list",data:=.seq its.toArray n }∧xs.length≤sizeLine:=by
 obtain ⟨z,its,n,r,e⟩:=I.hok p _ h
 exact ⟨its,n,r,e,z⟩
theorem Inv.lstUpd {pins:List (Addr×Obj)}{σ:St}{H:Hp}{s:Shared}{p:Addr}{xs ys:List V}{its its':List Value}{n n':Nat}{f:Obj→Obj} (I:Inv X pins σ H s) (h:H p=some (.lst xs))
  (ho:s.heap.get? p=some { cls:=.type "list",data:=.seq its.toArray n }) (hf:f { cls:=.type "list",data:=.seq its.toArray n }={ cls:=.type "list",data:=.seq its'.toArray n' }) (r:Vals ys its') (hz:ys.length≤sizeLine) (t:Nat) :
  Inv X pins σ (upd H p (.lst ys)) { s with heap:=s.heap.update p f,toks:=t }:=by
 have e:(s.heap.update p f).get? p=some { cls:=.type "list",data:=.seq its'.toArray n' }:=by
  rw [Heap.get?_update_self f ho (by rw[hf] <;> rfl),hf]
 refine I.write (x:=p) (e:=p) (by rw[h];trivial) (.inl rfl) (fun b u hb q=>(Heap.get?_update_other _ _ (Ne.symm hb)).trans q) ⟨_,e⟩ ?_
 exact ⟨hz,its',n',r,e⟩
noncomputable def rSetL:V→V→V→Hp→(Hp→Prop)→Prop:=fun o i v H Q=>∃ p xs k j,o=.ref p∧i=.int k∧H p=some (.lst xs)∧ixN xs.length k=some j∧Q (upd H p (.lst (xs.set j v)))
theorem set_list:PSet X rSetL:=by
 intro pins s σ H o i v ov iv u Q I ro ri rv h
 obtain ⟨p,xs,k,j,rfl,rfl,hp,hj,q⟩:=h
 cases ro
 obtain ⟨t,rfl⟩:=ri
 obtain ⟨its,n,r,ho,hz⟩:=I.lst hp
 obtain ⟨h1,h2,h3,h4⟩:=ixN_seq hj
 have hl:=r.length
 have hn:=line63
 have I':Inv X pins σ (upd H p (.lst (xs.set j v))) { s with heap:=s.heap.update p (Obj.mapSeq (·.setIfInBounds j u)) } :=
  I.lstUpd hp ho (mapSeq_set its n j u) (r.set rv j) (by rw[List.length_set];exact hz) s.toks
 by_cases h0:0≤k
 ·have hk:k.toNat=j:=by
   rw [seqIndex_of h0 h4] at h1
   exact Option.some.inj h1
  exact PySem.W.ki_setAt ho h0 (by omega) (by rw[List.size_toArray,←hl];exact h4) (by rw[hk];exact⟨_,I',q⟩)
 ·have hk:(k+(its.toArray.size:Int)).toNat=j:=by
   rw [seqIndex_neg (by omega) h3] at h1
   rw [List.size_toArray,←hl]
   exact Option.some.inj h1
  exact PySem.W.ki_setBack ho (by omega) (by rw[List.size_toArray,←hl];exact h3) (by omega) (by rw[hk];exact⟨_,I',q⟩)
theorem slice_bounds (lo hi:Option Int) (n:Nat):(sliceBounds lo hi none n).1=((HT.sIx n 0 lo:Nat):Int)∧(sliceBounds lo hi none n).2.1=((HT.sIx n n hi:Nat):Int)∧(sliceBounds lo hi none n).2.2=1:=by
 refine ⟨?_,?_,rfl⟩
 ·cases lo with
  | none=>simp[sliceBounds,HT.sIx]
  | some i =>
   simp only [sliceBounds,HT.sIx,Option.getD_none,show (1:Int)>0 by decide,if_true]
   by_cases h:i<0
   ·simp only [h,if_true] <;> omega
   ·simp only [h,if_false] <;> omega
 ·cases hi with
  | none=>simp[sliceBounds,HT.sIx]
  | some i =>
   simp only [sliceBounds,HT.sIx,Option.getD_none,show (1:Int)>0 by decide,if_true]
   by_cases h:i<0
   ·simp only [h,if_true] <;> omega
   ·simp only [h,if_false] <;> omega
theorem slicePick_cut (its:List Value) (lo hi:Option Int):slicePick its.toArray lo hi none=((its.drop (HT.sIx its.length 0 lo)).take (HT.sIx its.length its.length hi - HT.sIx its.length 0 lo)).toArray:=by
 obtain ⟨h1,h2,h3⟩:=slice_bounds lo hi its.toArray.size
 unfold slicePick
 rw [h1,h2,h3]
 simp only [sliceRange_one,pick_run,List.size_toArray] <;> rfl
noncomputable def rSlL (K:PySem.W.Frag):V→Option Int→Option Int→Hp→VK→Prop:=fun x lo hi H Q=>∃ a xs,x=.ref a∧SqL K H a xs∧∀ p,H p=none→Q (.ref p) (upd H p (.lst (cutV xs lo hi)))
theorem sl_list:SlR X (rSlL X.K):=by
 intro pins s σ H x v vl vu lo hi sl Q I rx hs pl pu h
 obtain ⟨a,xs,rfl,hx,q⟩:=h
 cases rx
 obtain ⟨its,r,ht,hz⟩:=I.list hx
 have hlen:=r.length
 refine ⟨"list",_,slot_list_getitem.lookup,ht.isList.typeIs,?_⟩
 refine wpAny_getItem_list_slice ht.isList hs pl pu .none (by simp) ?_ (by rw[List.size_toArray] <;> omega)
 rw [slicePick_cut,←hlen]
 refine ⟨.ref s.heap.objs.size,_,I.laid (t':=s.toks) (o:=.lst (cutV xs lo hi)) (fun b ob q=>Heap.get?_push_of_some _ q) (Nat.le_refl _) ?_,rfl,q _ (I.hok.fresh (Nat.le_refl _))⟩
 exact ⟨Nat.le_trans (cutV_length xs lo hi) hz,_,0,(r.drop (HT.sIx xs.length 0 lo)).take (HT.sIx xs.length xs.length hi - HT.sIx xs.length 0 lo),Heap.get?_push_size _ rfl⟩
noncomputable def flatV:V→Bool
 | .non=>true
 | .bl _=>true
 | .int _=>true
 | .str _=>true
 | _=>false
noncomputable def eqV:V→V→Bool
 | .non,.non=>true
 | .bl a,.bl b=>a==b
 | .bl a,.int b=>(if a then 1 else 0)==b
 | .int a,.bl b=>a==(if b then 1 else 0)
 | .int a,.int b=>a==b
 | .str a,.str b=>a==b
 | _,_=>false
theorem eqAt_V {A:Around}{s:Shared}{y x:V}{u v:Value} (ry:RelV y u) (rx:RelV x v) (fy:flatV y=true) (fx:flatV x=true):SeqAt.EqAt A s u v (eqV y x):=by
 cases y with
 | non =>
  cases ry
  cases x with
  | non=>cases rx;exact SeqAt.EqAt.same _
  | bl b=>cases rx;exact SeqAt.EqAt.none_bool b
  | int b=>obtain⟨t,rfl⟩:=rx;exact SeqAt.EqAt.none_int b t
  | str b=>obtain⟨t,rfl⟩:=rx;exact SeqAt.EqAt.none_str b t
  | _=>exact absurd (show false=true from fx) Bool.false_ne_true
 | bl a =>
  cases ry
  cases x with
  | non=>cases rx;exact SeqAt.EqAt.bool_none a
  | bl b=>cases rx;exact SeqAt.EqAt.bool_bool a b
  | int b=>obtain⟨t,rfl⟩:=rx;exact SeqAt.EqAt.bool_int a b t
  | str b=>obtain⟨t,rfl⟩:=rx;exact SeqAt.EqAt.bool_str a b t
  | _=>exact absurd (show false=true from fx) Bool.false_ne_true
 | int a =>
  obtain ⟨t',rfl⟩:=ry
  cases x with
  | non=>cases rx;exact SeqAt.EqAt.int_none a t'
  | bl b=>cases rx;exact SeqAt.EqAt.int_bool a t' b
  | int b=>obtain⟨t,rfl⟩:=rx;exact SeqAt.EqAt.int_int a t' b t
  | str b=>obtain⟨t,rfl⟩:=rx;exact SeqAt.EqAt.int_str a t' b t
  | _=>exact absurd (show false=true from fx) Bool.false_ne_true
 | str a =>
  obtain ⟨t',rfl⟩:=ry
  cases x with
  | non=>cases rx;exact SeqAt.EqAt.str_none a t'
  | bl b=>cases rx;exact SeqAt.EqAt.str_bool a t' b
  | int b=>obtain⟨t,rfl⟩:=rx;exact SeqAt.EqAt.str_int a t' b t
  | str b=>obtain⟨t,rfl⟩:=rx;exact SeqAt.EqAt.str_str a t' b t
  | _=>exact absurd (show false=true from fx) Bool.false_ne_true
 | _=>exact absurd (show false=true from fy) Bool.false_ne_true
noncomputable def eqU (x:V) (u:Value):Bool:=match u with
 | .none=>eqV .non x
 | .bool b=>eqV (.bl b) x
 | .int i _=>eqV (.int i) x
 | .str z _=>eqV (.str z) x
 | _=>false
theorem eqU_of {x y:V}{u:Value} (r:RelV y u) (f:flatV y=true):eqU x u=eqV y x:=by
 cases y with
 | non=>cases r;rfl
 | bl b=>cases r;rfl
 | int i=>obtain⟨t,rfl⟩:=r;rfl
 | str z=>obtain⟨t,rfl⟩:=r;rfl
 | _=>exact absurd (show false=true from f) Bool.false_ne_true
theorem any_eqU {x:V}:∀ {xs:List V}{us:List Value},Vals xs us→xs.all flatV=true→us.any (eqU x)=xs.any fun y=>eqV y x
 | _,_,.nil,_=>rfl
 | y::xs,u::us,.cons r t,f=>by
  rw [List.all_cons,Bool.and_eq_true] at f
  rw [List.any_cons,List.any_cons,eqU_of r f.1,any_eqU t f.2]
theorem mem_eqAt {A:Around}{s:Shared}{x:V}{v:Value} (rx:RelV x v) (fx:flatV x=true):∀ {xs:List V}{us:List Value},Vals xs us→xs.all flatV=true→∀ u∈us,SeqAt.EqAt A s u v (eqU x u)
 | _,_,.nil,_=>fun u hu=>by cases hu
 | y::xs,u::us,.cons r t,f=>fun u' hu=>by
  rw [List.all_cons,Bool.and_eq_true] at f
  rcases List.mem_cons.mp hu with rfl|hu
  ·rw [eqU_of r f.1];exact eqAt_V r rx f.1 fx
  ·exact mem_eqAt rx fx t f.2 u' hu
noncomputable def inV (x:V) (xs:List V):Bool:=xs.any fun y=>eqV y x
noncomputable def rIn (K:PySem.W.Frag) (neg:Bool):R2:=fun x y H Q=>∃ p xs,y=.ref p∧(SqL K H p xs∨SqT K H p xs)∧flatV x=true∧xs.all flatV=true∧Q (.bl (if neg then !inV x xs else inV x xs)) H
theorem op_in_seq:OpR X (compareOp .In) (rIn X.K false):=by
 intro pins s σ H x y v u Q I rx ry h
 obtain ⟨p,xs,rfl,hq,fx,fs,q⟩:=h
 cases ry
 rcases hq with hq|hq
 ·obtain ⟨its,r,pl,hz⟩:=I.list hq
  refine SeqAt.in_listAt (eqU x) pl.isList (fun w hw=>mem_eqAt rx fx r fs w (by simpa using hw)) ⟨.bl _,H,I,rfl,?_⟩
  rw [show its.toArray.any (eqU x)=its.any (eqU x) by simp,any_eqU r fs]
  exact q
 ·obtain ⟨its,r,pl,hz⟩:=I.tuple hq
  refine SeqAt.in_tupleAt (eqU x) pl (fun w hw=>mem_eqAt rx fx r fs w (by simpa using hw)) ⟨.bl _,H,I,rfl,?_⟩
  rw [show its.toArray.any (eqU x)=its.any (eqU x) by simp,any_eqU r fs]
  exact q
theorem call_len_seq:CallR X (.builtin "len") (fun xs H Q=>∃ p ys,xs=[.ref p]∧(SqL X.K H p ys∨SqT X.K H p ys)∧Q (.int ys.length) H):=by
 intro pins s σ H xs us Q I r h
 obtain ⟨p,ys,rfl,hq,q⟩:=h
 obtain ⟨u,rfl,rx⟩:=vals1 r
 cases rx
 have hn:=line63
 rcases hq with hq|hq
 ·obtain ⟨its,r',pl,hz⟩:=I.list hq
  have hlen:=r'.length
  exact Calls.call_len_list pl.isList (by simp only [List.size_toArray] <;> omega) ⟨.int ys.length,H,I.tok _,⟨s.toks+1,by rw[List.size_toArray,hlen]⟩,q⟩
 ·obtain ⟨its,r',pl,hz⟩:=I.tuple hq
  have hlen:=r'.length
  exact len_tuple pl (by simp only [List.size_toArray] <;> omega) ⟨.int ys.length,H,I.tok _,⟨s.toks+1,by rw[List.size_toArray,hlen]⟩,q⟩
theorem CallR.or {f:Value}{r r':List V→Hp→VK→Prop} (h:CallR X f r) (h':CallR X f r'):CallR X f (fun xs H Q=>r xs H Q∨r' xs H Q):=by
 intro pins s σ H xs us Q I rs q
 rcases q with q|q
 ·exact h pins s σ H xs us Q I rs q
 ·exact h' pins s σ H xs us Q I rs q
theorem call_list_of:CallR X (.type "list") (fun xs H Q=>∃ p ys,xs=[.ref p]∧(SqL X.K H p ys∨SqT X.K H p ys)∧∀ l,H l=none→Q (.ref l) (upd H l (.lst ys))):=by
 intro pins s σ H xs us Q I r h
 obtain ⟨p,ys,rfl,hq,q⟩:=h
 obtain ⟨u,rfl,rx⟩:=vals1 r
 cases rx
 have fin:∀ (its:List Value),Vals ys its→ys.length≤sizeLine→∀ (h':Heap) (c':Nat),(∀ b o',s.heap.get? b=some o'→h'.get? b=some o') →
   h'.get? s.heap.objs.size=some { cls:=.type "list",dict:=none,data:=.seq its.toArray c',slots:=#[] }→EP X pins σ Q (.ref s.heap.objs.size) { s with heap:=h' }:=fun its r' hz h' c' kp e =>
  ⟨.ref s.heap.objs.size,_,I.laid (t':=s.toks) kp (Nat.le_refl _) (show ObjOk X.prog X.w _ h' _ (.lst ys) from ⟨hz,its,c',r',e⟩),rfl,q _ (I.hok.fresh (Nat.le_refl _))⟩
 rcases hq with hq|hq
 ·obtain ⟨its,r',pl,hz⟩:=I.list hq
  have hlen:=r'.length
  obtain ⟨o,ho,hc,n,hd⟩:=pl.isList
  exact call_list_seq p (.inl rfl) ho hc hd (fun h' c' kp e=>fin its r' hz h' c' kp e) (by simp only [List.size_toArray] <;> omega)
 ·obtain ⟨its,r',pl,hz⟩:=I.tuple hq
  have hlen:=r'.length
  obtain ⟨o,ho,hc,n,hd⟩:=pl
  exact call_list_seq p (.inr rfl) ho hc hd (fun h' c' kp e=>fin its r' hz h' c' kp e) (by simp only [List.size_toArray] <;> omega)
noncomputable def tyV (K:PySem.W.Frag) (T:String) (x:V) (H:Hp):Prop:=match x with
 | .str _=>T = "str"
 | .int _=>T = "int"
 | .ref p=>(T = "list" ∧ ∃ xs,SqL K H p xs)∨(T = "tuple" ∧ ∃ o,K.lookup p=some o∧o.cls=.type "tuple" ∧ o.dict=none) ∨
   (T = "dict" ∧ ((∃ kvs,H p=some (.dK kvs))∨∃ kvs,H p=some (.dT kvs)))∨(T = "set" ∧ ∃ S n,H p=some (.set S n))
 | _=>False
theorem tyV_is {pins:List (Addr×Obj)}{σ:St}{H:Hp}{s:Shared}{T:String}{x:V}{v:Value} (I:Inv X pins σ H s) (r:RelV x v) (ty:tyV X.K T x H) :
  s.TypeIs v T∧∀ a,v=.ref a→∃ ob,s.heap.get? a=some ob∧ob.dict=none:=by
 cases x with
 | str z =>
  obtain ⟨t,rfl⟩:=r
  cases (show T = "str" from ty)
  exact ⟨typeIs_str s z t,fun _ e=>nomatch e⟩
 | int i =>
  obtain ⟨t,rfl⟩:=r
  cases (show T = "int" from ty)
  exact ⟨typeIs_int s i t,fun _ e=>nomatch e⟩
 | ref p =>
  cases r
  rcases ty with ⟨rfl,xs,hq⟩|⟨rfl,o,hk,hc,hd⟩|⟨rfl,hk⟩|⟨rfl,S,n,hk⟩
  ·obtain ⟨its,_,pl,_⟩:=I.list hq
   refine ⟨pl.isList.typeIs,fun a e=>?_⟩
   cases e
   obtain ⟨o,n,e,c,hd,_⟩:=pl
   exact ⟨o,e,hd⟩
  ·refine ⟨⟨o,I.kIn p o hk,hc⟩,fun a e=>?_⟩
   cases e
   exact ⟨o,I.kIn _ o hk,hd⟩
  ·have z:∃ o,s.heap.get? p=some o∧o.ExactDict:=by
    rcases hk with ⟨kvs,hk⟩|⟨kvs,hk⟩
    ·obtain ⟨_,_,_,_,o,_,_,e,ex,_⟩:=I.hok p _ hk
     exact ⟨o,e,ex⟩
    ·obtain ⟨_,_,_,_,o,_,_,e,ex,_⟩:=I.hok p _ hk
     exact ⟨o,e,ex⟩
   obtain ⟨o,e,ex⟩:=z
   refine ⟨⟨o,e,ex.1⟩,fun a e2=>?_⟩
   cases e2
   exact ⟨o,e,ex.2.1⟩
  ·obtain ⟨o,_,_,_,e,ex,_⟩:=I.hok p _ hk
   refine ⟨⟨o,e,ex.1⟩,fun a e2=>?_⟩
   cases e2
   exact ⟨o,e,ex.2.1⟩
 | _=>exact False.elim ty
noncomputable def tBM0 (K:PySem.W.Frag) (T:String) (r:V→List V→Hp→VK→Prop) (to:TE):TE:=fun σ H Q=>to σ H fun x H1=>tyV K T x H1∧r x [] H1 Q
noncomputable def tBM (K:PySem.W.Frag) (T:String) (r:V→List V→Hp→VK→Prop) (to:TE) (t:TA):TE:=fun σ H Q=>to σ H fun x H1=>tyV K T x H1∧t σ H1 fun xs H2=>r x xs H2 Q
variable {o e:Expr}{es:List Expr}{to:TE}{t:TA}{name:Str}{apos cpos:Pos}{T id:String}{r:V→List V→Hp→VK→Prop}
theorem pe_bm0 (pa:PlainAttrs T) (slot:Slot T name id) (hty:typeOf (.builtin id)=pure (.type "method_descriptor")) (hm:MtR X id r) (ho:PE X o to)
  (hbase:attributeBase o name X.env (eval o X.env)=eval o X.env:=by rfl) (hline:(apos.endLine==cpos.line)=true:=by rfl):PE X (.Call (.Attribute o name apos) [] [] cpos) (tBM0 X.K T r to):=by
 intro pins s σ H Q I h
 refine wpAny_Call_method0_late hbase hline (thn (ho pins s σ H _ I h) fun v s1 ⟨x,H1,I1,r1,ty,q1⟩=>?_)
 obtain ⟨h1,h2⟩:=tyV_is I1 r1 ty
 exact ⟨T,id,pa,slot,hty,h1,h2,Calls.callWith_builtin rfl (PySem.evalArgs_none (hm pins s1 σ H1 x [] v [] Q I1 r1 .nil q1))⟩
theorem pe_bm (pa:PlainAttrs T) (slot:Slot T name id) (hty:typeOf (.builtin id)=pure (.type "method_descriptor")) (hm:MtR X id r) (ho:PE X o to) (ha:PA X (e::es) t)
  (hbase:attributeBase o name X.env (eval o X.env)=eval o X.env:=by rfl)
  (hfew:((backTo cpos (starEach (e::es) X.env)).all (fun x=>!x.1)&&(backToKw cpos (keywordEach [] X.env)).all (fun x=>x.1.isSome)
   && decide ((e::es).length+([]:List Keyword).length+(if ([]:List Keyword).isEmpty then 0 else 1)<30))=true:=by rfl)
  (hline:(apos.endLine==cpos.line)=true:=by rfl) (hs:starEach (e::es) X.env=(false,eval e X.env)::starEach es X.env:=by rfl) (hplain:(backTo cpos (starEach es X.env)).any (·.1)=false:=by rfl) :
  PE X (.Call (.Attribute o name apos) (e::es) [] cpos) (tBM X.K T r to t):=by
 intro pins s σ H Q I h
 refine wpAny_Call_method_late hbase hfew hline rfl (thn (ho pins s σ H _ I h) fun v s1 ⟨x,H1,I1,r1,ty,q1⟩=>?_)
 obtain ⟨h1,h2⟩:=tyV_is I1 r1 ty
 refine ⟨T,id,pa,slot,hty,h1,h2,?_⟩
 have hA:=ha cpos pins s1 σ H1 _ I1 q1
 rw [hs] at hA ⊢
 refine Calls.callWith_builtin (by show (false || (backTo cpos (starEach es X.env)).any (·.1))=false;rw[hplain] <;> rfl) (Calls.evalArgs_plain ?_)
 exact thn hA fun us s2 ⟨vs,H2,I2,r2,q2⟩=>hm pins s2 σ H2 x vs v us Q I2 r1 r2 q2
end
end L2
namespace L2
open PySem PySem.Spec PyProof.Rows
noncomputable def MtM (X:Cx) (id:String) (r:V→List V→Hp→VK→Prop):Prop :=
 ∀ (pins:List (Addr×Obj)) (s:Shared) (σ:St) (H:Hp) (x:V) (xs:List V) (v:Value) (us:List Value) (Q:VK),Inv X pins σ H s→RelV x v→Vals xs us→r x xs H Q →
  wpAny (model X.prog X.w) X.A (call (.builtin id) (v::us)) (EP X pins σ Q) X.xe s
theorem Vals.one:∀ {x:V}{us:List Value},Vals [x] us→∃ u,us=[u]∧RelV x u
 | _,_,.cons r .nil=>⟨_,rfl,r⟩
theorem Vals.two:∀ {x y:V}{us:List Value},Vals [x,y] us→∃ u v,us=[u,v]∧RelV x u∧RelV y v
 | _,_,_,.cons r (.cons q .nil)=>⟨_,_,rfl,r,q⟩
theorem Vals.zero:∀ {us:List Value},Vals [] us→us=[]
 | _,.nil=>rfl
theorem Vals.dropLast {xs:List V}{us:List Value} (h:Vals xs us):Vals xs.dropLast us.dropLast:=by
 induction h with
 | nil=>exact .nil
 | cons r t ih =>
  cases t with
  | nil=>exact .nil
  | cons q t'=>exact .cons r ih
theorem Vals.eraseIdx:∀ {xs:List V}{us:List Value} (i:Nat),Vals xs us→Vals (xs.eraseIdx i) (us.eraseIdx i)
 | _,_,_,.nil=>.nil
 | _,_,0,.cons _ t=>t
 | _,_,i+1,.cons r t=>.cons r (Vals.eraseIdx i t)
theorem Vals.reverse {xs:List V}{us:List Value} (h:Vals xs us):Vals xs.reverse us.reverse:=by
 induction h with
 | nil=>exact .nil
 | cons r t ih=>rw[List.reverse_cons,List.reverse_cons];exact Vals.append ih (.cons r .nil)
theorem erase_last {α:Type} (l:List α):l.eraseIdx (l.length - 1)=l.dropLast:=by
 induction l with
 | nil=>rfl
 | cons a r ih =>
  cases r with
  | nil=>rfl
  | cons b r =>
   have e:(a::b::r).length - 1=((b::r).length - 1)+1:=by
    have h1:(a::b::r).length=r.length+2:=rfl
    have h2:(b::r).length=r.length+1:=rfl
    omega
   rw [e,List.eraseIdx_cons_succ,ih]
   all_goals rfl
section
variable {X:Cx}{pins:List (Addr×Obj)}{σ:St}{H:Hp}{s:Shared}{l b:Addr}{xs ys zs:List V}
theorem Inv.lset {its its':List Value}{n:Nat}{f:Array Value→Array Value}{t':Nat} (I:Inv X pins σ H s) (hH:H l=some (.lst xs))
  (e : s.heap.get? l=some { cls:=.type "list",data:=.seq its.toArray n }) (hf:f its.toArray=its'.toArray) (hv:Vals ys its') (hz:ys.length≤sizeLine) :
  Inv X pins σ (upd H l (.lst ys)) { s with heap:=s.heap.update l (Obj.mapSeq f),toks:=t' }:=by
 have q:=PySem.IsL.update e f
 rw [hf] at q
 refine I.write (x:=l) (e:=l) (by rw[hH];exact trivial) (.inl rfl) (fun b' u hb hu=>(Heap.get?_update_other s.heap (Obj.mapSeq f) (Ne.symm hb)).trans hu) ⟨_,q⟩ ?_
 exact ⟨hz,its',_,hv,q⟩
theorem Inv.lnew {its:List Value}{t':Nat} (I:Inv X pins σ H s) (hv:Vals ys its) (hz:ys.length≤sizeLine) :
  Inv X pins σ (upd H s.heap.objs.size (.lst ys)) { s with heap:=s.heap.push { cls:=.type "list",data:=.seq its.toArray },toks:=t' } :=
 I.laid (fun _ _ q=>Heap.get?_push_of_some _ q) (Nat.le_refl _) ⟨hz,its,0,hv,Heap.get?_push_size _ rfl⟩
theorem Inv.fresh (I:Inv X pins σ H s):H s.heap.objs.size=none:=I.hok.fresh (Nat.le_refl _)
theorem Inv.lstM (I:Inv X pins σ H s) (hH:H l=some (.lst xs)):xs.length≤sizeLine∧∃ (its:List Value) (n:Nat),Vals xs its∧xs.length=its.length∧s.heap.get? l=some { cls:=.type "list",data:=.seq its.toArray n }:=by
 obtain ⟨z,its,n,r,e⟩:=I.hok l _ hH
 exact ⟨z,its,n,r,r.length,e⟩
end
section
variable {X:Cx}
noncomputable def rAppend:V→List V→Hp→VK→Prop:=fun x vs H Q=>∃ l xs y,x=.ref l∧vs=[y]∧H l=some (.lst xs)∧xs.length<sizeLine∧Q .non (upd H l (.lst (xs++[y])))
theorem mt_append:MtM X "list.append" rAppend:=by
 intro pins s σ H x vs v us Q I rx rv h
 obtain ⟨l,xs,y,rfl,rfl,hH,hz,q⟩:=h
 cases rx
 obtain ⟨u,rfl,ru⟩:=rv.one
 obtain ⟨z,its,n,r,hl,e⟩:=I.lstM hH
 refine call_meets F.slot_list_append ⟨_,e,rfl⟩ F.entry_list_append (F.args_list_append_2 _ _) (PySem.list_append l its.toArray n u (by rw[List.size_toArray];omega)) ⟨e,?_⟩
 refine ⟨.non,_,I.lset (its':=its++[u]) hH e (by simp) (r.append (.cons ru .nil)) ?_,rfl,q⟩
 rw [List.length_append,List.length_singleton]
 omega
noncomputable def rPop:V→List V→Hp→VK→Prop:=fun x vs H Q=>∃ l xs y,x=.ref l∧vs=[]∧H l=some (.lst xs)∧xs[xs.length - 1]? = some y∧Q y (upd H l (.lst xs.dropLast))
theorem mt_pop:MtM X "list.pop" rPop:=by
 intro pins s σ H x vs v us Q I rx rv h
 obtain ⟨l,xs,y,rfl,rfl,hH,hy,q⟩:=h
 cases rx
 have hus:=rv.zero
 subst hus
 obtain ⟨z,its,n,r,hl,e⟩:=I.lstM hH
 obtain ⟨u,hu,ru⟩:=r.get hy
 have hy':its.toArray[its.toArray.size - 1]? = some u:=by
  show its.toArray[its.length - 1]? = some u
  rw [←Array.getElem?_toList,←hl]
  exact hu
 refine call_meets F.slot_list_pop ⟨_,e,rfl⟩ F.entry_list_pop (F.args_list_pop_1 _) (MeetsSeq.list_pop_last l its.toArray n u hy' (by rw[List.size_toArray];omega)) ⟨e,?_⟩
 refine ⟨y,_,I.lset (its':=its.dropLast) hH e ?_ r.dropLast ?_,ru,q⟩
 ·show its.toArray.eraseIdxIfInBounds (its.toArray.size - 1)=its.dropLast.toArray
  rw [List.size_toArray,List.eraseIdxIfInBounds_toArray,erase_last]
 ·rw [List.length_dropLast]
  omega
end
section
variable {prog:Program}{w:World}{A:Around}{E:Value→Shared→Prop}{s:Shared}
end
section
variable {X:Cx}
end
end L2
namespace Att
open PySem PySem.W PySem.Calls PyProof.Rows
theorem ints_of_wellAll {P:Params}{h:Heap}:∀ (ns:List Int) (vs:List Value),WellAll P h vs (ns.map WData.int)→IntsAre vs ns:=by
 intro ns
 induction ns with
 | nil =>
  intro vs w
  rw [List.map_nil] at w
  cases w
  exact .nil
 | cons n ns ih =>
  intro vs w
  rw [List.map_cons] at w
  cases w with
  | cons a b =>
   cases a
   exact .cons _ _ (ih _ b)
theorem script_of {l:OpenLaw}{n:Nat} (hn:l.most=some n) {P:Params}{h:Heap}{args:List WData}{vals:List Value}
  (hpre:l.row.toRowW.claim.pre args=true) (hwl:WellAll P h vals args) :
  ∃ a vs ns,vals=[Value.ref a]∧args=[WData.list (ns.map WData.int)]∧h.get? a=some { cls:=.type "list",data:=.seq vs.toArray }∧IntsAre vs ns∧ns.length≤n:=by
 have hsh:WShape.hasAll [] args [.list .int]=true:=(pre_splitW hpre).1
 have hc:l.pre.holds [] { args:=args }=true:=(pre_splitW hpre).2
 obtain ⟨d,r,rfl,h1,h2⟩:=hasAllW_cons hsh
 obtain rfl:=hasAllW_nil h2
 obtain ⟨xs,rfl,h3⟩:=hasW_list h1
 obtain ⟨ns,rfl⟩:=items_int h3
 have hlen:ns.length≤n:=by
  unfold OpenLaw.pre at hc
  have h4:(WTm.not (.lt (.lit (.int (n:Int))) (.len (.arg 0)))).holds [] { args:=[.list (ns.map .int)] }=true:=by
   have h4:=(holds_andW hc).1
   rw [hn] at h4
   exact h4
  have h5:=condW_of h4 (w_not (w_lt w_lit (w_len_list (w_arg rfl))))
  rw [List.length_map] at h5
  refine Nat.le_of_not_lt fun q=>?_
  have q':(n:Int)<((ns.length:Nat):Int):=by omega
  first
   | (rw[decide_eq_true q'] at h5;exact absurd h5 (by decide))
   | (simp at h5;omega)
 cases hwl with
 | cons w1 w2 =>
  cases w2
  cases w1 with
  | list ho hall=>exact⟨_,_,ns,rfl,rfl,ho,ints_of_wellAll ns _ hall,hlen⟩
theorem post_true (l:OpenLaw) (args:List WData):l.row.toRowW.claim.post args (.bool true) args=true :=
 postW_of (r:=l.row.toRowW) (X:=(true==true))
  (show WShape.has [] (.bool true) .bool=true by first|rfl|decide|simp[WShape.has,WShape.arms,WShape.armsAll])
  (show (WTm.eq .res (.lit (.bool true))).value [] { args:=args,res:=some (.bool true),after:=args }=some (.bool (true==true)) from w_eq_bool (w_res rfl) w_lit) rfl
theorem attach_call {l:OpenLaw}{n:Nat}{q:Program}{loose:List Str}{XP:(Str→Option Value)→Heap→Prop}{YP:World→Heap→Prop}{d:DefRec}
  (hn:l.most=some n) (hdf:d.params.defaults=[])
  (call:∀ (w:World) (s₀ s₁:Shared) (mg mb:Str→Option Value) (fa:Addr) (o:Obj) (pm cd doc:Value) (a:Addr) (vs:List Value) (ns:List Int),
   Ground q loose [] XP w s₀ mg mb s₁.heap→YP w s₁.heap →
   s₁.heap.get? fa=some o→o.data=.func (docDef d.name d.params d.body d.scope pm cd doc)→s₁.heap.CodeRec cd d.name→mg d.name=some (.ref fa) →
   s₁.heap.get? a=some { cls:=.type "list",data:=.seq vs.toArray }→IntsAre vs ns→ns.length≤n→s₁.gens=#[] →
   codeAny (model l.prog w) callerA (.call (.ref fa) ⟨[.ref a],[]⟩) (fun r s'=>r=.ok (.ret (.bool true))∧OldK s₁.heap s'.heap∧s'.os=s₁.os∧AllBare s'.gens) s₁) :
  WalkO q loose XP YP l.row.toRowW d [] (fun f vs=>PySem.call f vs):=by
 intro w s₀ s₁ mg mb G Y fa o pm cd doc dV kV ho hd hcd hD hmg hg args vals as hpre hlay hrd hwl hlo
 obtain rfl:dV=.none:=Dflts.none hD hdf
 obtain rfl:kV=.none:=Dflts.noKw hD
 obtain ⟨a,vs,ns,rfl,rfl,hobj,hints,hlen⟩:=script_of hn hpre hwl
 refine enter_call (codeAny_mono (call w s₀ s₁ mg mb fa o pm cd doc a vs ns G Y ho (fd_plain hd) hcd hmg hobj hints hlen hg) fun r s' hq=>?_)
 obtain ⟨rfl,h2,h3,h4⟩:=hq
 exact ⟨.inl ⟨.bool true,.bool true,[],rfl,fun _=>rfl,.bool true,post_true l _,fun _=>⟨List.Pairwise.nil,fun _ hm=>(nomatch hm)⟩⟩,h2,h3,h4⟩
section
variable {prog:Program}{w:World}{A:Around}{E:Value→Shared→Prop}{s:Shared}{K:Frag}
end
end Att
namespace L2
open PySem PySem.Spec PyProof.Rows
theorem vals_ints:∀ {vs:List Value}{ns:List Int},IntsAre vs ns→Vals (ns.map V.int) vs
 | _,_,.nil=>.nil
 | _,_,.cons n t h=>.cons ⟨t,rfl⟩ (vals_ints h)
noncomputable def Only (H:Hp):Prop:=∀ b,H b=none∨(∃ o xs,H b=some (.frz o (.lst xs)))∨∃ q,H b=some (.tbl q)
theorem law_call {P:Program}{w:World}{K:PySem.W.Frag}{mg mb:Str→Option Value}{CX:CXT}{k:Nat}{fa a:Addr}{fd:FuncData}{x:Str}{sp:Sp}{s₁:Shared}{vs:List Value}{ns:List Int}{tb:List (Addr×Str)}
  (hT:∀ b q,tb.lookup b=some q→s₁.heap.get? b=some { cls:=.none,data:=.fields #[] }∧K.lookup b=none∧∃ c,s₁.heap.TableAt c b #[]) (hLm:∀ T q,LamTab K T q→tb.lookup T=some q)
  (KX:K.In s₁.heap) (hns:s₁.heap.Ns mainGlobals mg) (hb:s₁.heap.Ns builtinsNs mb) (hbb:∀ x:Str,x ≠ "__name__" → mb x=bootBuiltins x) (hlim:s₁.heap.NoLimit) (hbm:∃ bm ob,mg "__builtins__" = some (.ref bm)∧bm≠builtinsNs∧s₁.heap.get? bm=some ob∧ob.cls=.type "module" ∧ ob.dict=some builtinsNs∧ob.data=.plain) (hg:s₁.gens=#[])
  (ha:s₁.heap.get? a=some { cls:=.type "list",data:=.seq vs.toArray }) (hi:IntsAre vs ns) (hl:ns.length≤sizeLine) (hr:Room k callerA)
  (F : ∀ base:Heap,K.In base→base.Ns mainGlobals mg→FnOk P w K mg base CX k fa fd [x] sp) (hbind:∀ (s:Shared) (u:Value),BindsTo s fd ⟨[u],[]⟩ [(x,u)])
  (hsp:∀ H:Hp,Only H→SqL K H a (ns.map V.int)→sp [.ref a] H (fun v _=>v=.bl true) fun _ _ _=>False)
  (hCX:∀ H e s',CX [] H s₁ (fun _ _ _=>False) e s'→False) :
  codeAny (model P w) callerA (.call (.ref fa) ⟨[.ref a],[]⟩) (fun r s'=>r=.ok (.ret (.bool true))∧OldK s₁.heap s'.heap∧s'.os=s₁.os∧AllBare s'.gens) s₁:=by
 have rv:=vals_ints hi
 have lenV:=hi.length
 have core:∀ H:Hp,Only H→SqL K H a (ns.map V.int)→HOk P w H s₁.heap→(∀ b u,H b=some u→(b=a∧K.lookup a=none)∨∃ q,tb.lookup b=some q∧u=.tbl q)→(∀ b q,tb.lookup b=some q→H b=some (.tbl q)) →
   codeAny (model P w) callerA (.call (.ref fa) ⟨[.ref a],[]⟩) (fun r s'=>r=.ok (.ret (.bool true))∧OldK s₁.heap s'.heap∧s'.os=s₁.os∧AllBare s'.gens) s₁:=by
  intro H hO hS hok hA hB
  have base_of:∀ {b:Addr}{o:Obj},s₁.heap.get? b=some o→H b=none→(hidT s₁.heap H).get? b=some o:=fun e n=>hidT_get e n
  have noA:∀ {b:Addr}{o:Obj}{es:Array DictEntry}{ep:Nat},s₁.heap.get? b=some o→o.data=.dict es ep→H b=none:=fun {b o es ep} e d=>by
   cases q:H b with
   | none=>rfl
   | some u =>
    rcases hA b u q with ⟨e',_⟩|⟨q',e',_⟩
    ·subst e'
     rw [ha] at e;cases e
     have d':Data.seq vs.toArray _=Data.dict es ep:=d
     cases d'
    ·rw [(hT b q' e').1] at e;cases e
     have d':Data.fields _=Data.dict es ep:=d
     cases d'
  have nsK:∀ {b:Addr}{m:Str→Option Value},s₁.heap.Ns b m→(hidT s₁.heap H).Ns b m:=fun {b m} ⟨o,es,ep,e,d,r⟩=>⟨o,es,ep,base_of e (noA e d),d,r⟩
  have hKb:K.In (hidT s₁.heap H):=fun b o e=>base_of (KX b o e) (by
   cases q:H b with
   | none=>rfl
   | some u =>
    rcases hA b u q with ⟨e',hk⟩|⟨q',e',_⟩
    ·subst e'
     rw [hk] at e;cases e
    ·rw [(hT b q' e').2.1] at e;cases e)
  have hbmK:∃ bm ob,mg "__builtins__" = some (.ref bm)∧bm≠builtinsNs∧(hidT s₁.heap H).get? bm=some ob∧ob.cls=.type "module" ∧ ob.dict=some builtinsNs∧ob.data=.plain:=by
   obtain ⟨bm,ob,b1,b2,b3,b4,b5,b6⟩:=hbm
   refine ⟨bm,ob,b1,b2,base_of b3 ?_,b4,b5,b6⟩
   cases q:H bm with
   | none=>rfl
   | some u =>
    rcases hA bm u q with ⟨e',_⟩|⟨q',e',_⟩
    ·subst e'
     rw [ha] at b3;cases b3;cases b6
    ·rw [(hT bm q' e').1] at b3;cases b3;cases b6
  have hM:Mod K mg (hidT s₁.heap H):=⟨hKb,nsK hns,⟨mb,nsK hb,hbb⟩,let ⟨mc,h1,h2⟩:=hlim;⟨mc,nsK h1,h2⟩,hbmK⟩
  have e0:Env0 P w K mg (hidT s₁.heap H) callerA [] s₁ H:=⟨rfl,hM,fun b o e=>of_hidT e,Nat.le_of_eq (hidT_size _ _),trivial,fun b hb=>absurd (show b∈([]:List Addr) from hb) (by simp),hok,.of_eq hg,fun T q h=>hB T q (hLm T q h)⟩
  refine codeAny_mono ((F _ hKb (nsK hns)).run callerA [] s₁ H ⟨[.ref a],[]⟩ [.ref a] [.ref a] _ _ hr e0 (hbind s₁ (.ref a)) (.cons rfl .nil) (hsp H hO hS)) fun r s' h=>?_
  cases r with
  | error e=>exact (hCX H e s' h).elim
  | ok fl =>
   cases fl with
   | next=>exact False.elim h
   | brk=>exact False.elim h
   | cont=>exact False.elim h
   | ret u =>
    obtain ⟨v,H',os,bare,un,hok',r',q⟩:=h
    have q':v=.bl true:=q
    subst q'
    obtain rfl:u=Value.bool true:=r'
    refine ⟨rfl,⟨fun b o e=>?_,fun b o e=>un.there b o e (by simp)⟩,os,bare⟩
    cases q:H b with
    | none=>exact .inl (un.keep b o e q (by intro z;exact absurd (show b∈([]:List Addr) from z) (by simp)) (by simp))
    | some u =>
     rcases hO b with z|⟨ob,xs,z⟩|⟨q',z⟩
     ·rw [q] at z;cases z
     ·have z2:=un.frzs b ob _ z
      obtain ⟨e1,_⟩:=hok b _ z
      obtain ⟨e2,_⟩:=hok' b _ z2
      rw [e] at e1;cases e1
      exact .inl e2
     ·obtain ⟨ps,e2,_⟩:=hok' b _ (un.tbls b q' z)
      rcases hA b _ z with ⟨e',_⟩|⟨q2,e',_⟩
      ·obtain ⟨ps0,e0,_⟩:=hok b _ z
       subst e'
       rw [ha] at e0;cases e0
      ·obtain ⟨t1,_,c,t2⟩:=hT b q2 e'
       rw [e] at t1;cases t1
       exact .inr (.inl ⟨t2.isCodeTable,rfl,#[],ps,rfl,by simpa using e2⟩)
 cases hk:K.lookup a with
 | some o =>
  have e:=KX a o hk
  rw [ha] at e
  cases e
  refine core (fun b=>(tb.lookup b).map .tbl) (fun b=>?_) (.inr ⟨_,vs.toArray,_,hk,rfl,rfl,rfl,by rw[List.size_toArray,lenV];exact hl,by simpa using rv⟩) (fun b u z=>?_) (fun b u z=>?_) fun b q z=>by show (tb.lookup b).map HO.tbl=_;rw[z];rfl
  ·cases z:tb.lookup b with
   | none=>exact .inl (by show (tb.lookup b).map HO.tbl=_;rw[z];rfl)
   | some q=>exact .inr (.inr ⟨q,by show (tb.lookup b).map HO.tbl=_;rw[z];rfl⟩)
  ·have z:(tb.lookup b).map HO.tbl=some u:=z
   cases q:tb.lookup b with
   | none=>rw[q] at z;cases z
   | some q' =>
    rw [q] at z;cases z
    exact ⟨#[],(hT b q' q).1,trivial,fun pos cv h=>by cases (show (none:Option Value)=some cv from h)⟩
  ·have z:(tb.lookup b).map HO.tbl=some u:=z
   cases q:tb.lookup b with
   | none=>rw[q] at z;cases z
   | some q'=>rw[q] at z;cases z;exact .inr ⟨q',rfl,rfl⟩
 | none =>
  have hna:tb.lookup a=none:=by
   cases z:tb.lookup a with
   | none=>rfl
   | some q =>
    have e:=(hT a q z).1
    rw [ha] at e
    cases e
  have hne:∀ b,b≠a→(if b=a then some (HO.frz { cls:=.type "list",data:=.seq vs.toArray } (.lst (ns.map V.int))) else (tb.lookup b).map .tbl)=(tb.lookup b).map .tbl:=fun b hb=>if_neg hb
  refine core (fun b=>if b=a then some (.frz { cls:=.type "list",data:=.seq vs.toArray } (.lst (ns.map V.int))) else (tb.lookup b).map .tbl) (fun b=>?_) (.inl (.inr ⟨{ cls:=.type "list",data:=.seq vs.toArray },if_pos rfl⟩)) (fun b u z=>?_) (fun b u z=>?_) fun b q z=>?_
  ·by_cases hb:b=a
   ·exact .inr (.inl ⟨_,_,if_pos hb⟩)
   ·dsimp only
    rw [hne b hb]
    cases z:tb.lookup b with
    | none=>exact .inl rfl
    | some q=>exact .inr (.inr ⟨q,rfl⟩)
  ·by_cases hb:b=a
   ·have z':=(if_pos hb).symm.trans z
    cases z'
    subst hb
    exact ⟨ha,by rw[List.length_map];exact hl,vs,_,rv,ha⟩
   ·have z:(tb.lookup b).map HO.tbl=some u:=(hne b hb).symm.trans z
    cases q:tb.lookup b with
    | none=>rw[q] at z;cases z
    | some q' =>
     rw [q] at z;cases z
     exact ⟨#[],(hT b q' q).1,trivial,fun pos cv h=>by cases (show (none:Option Value)=some cv from h)⟩
  ·by_cases hb:b=a
   ·exact .inl ⟨hb,hk⟩
   ·have z:(tb.lookup b).map HO.tbl=some u:=(hne b hb).symm.trans z
    cases q:tb.lookup b with
    | none=>rw[q] at z;cases z
    | some q'=>rw[q] at z;cases z;exact .inr ⟨q',rfl,rfl⟩
  ·have hb:b≠a:=fun e=>by subst e;rw[hna] at z;cases z
   exact (hne b hb).trans (by rw[z];rfl)
end L2
namespace L2
open PySem PySem.Spec PyProof.Rows
theorem walk_of {l:PySem.W.OpenLaw}{n k:Nat}{q:Program}{loose:List Str}{XP:(Str→Option Value)→Heap→Prop}{YP:World→Heap→Prop}{d:DefRec}{K:Params→PySem.W.Frag}{CX:World→CXT}{sp:World→Sp}{x:Str}
  (hn:l.most=some n) (hn2:n≤sizeLine) (hdf:d.params.defaults=[]) (hr:Room k callerA)
  (hTb:∀ (w:World) (s₀:Shared) (mg mb:Str→Option Value) (h:Heap),PySem.W.Ground q loose [] XP w s₀ mg mb h→(K w.params).In h→∃ tb:List (Addr×Str),(∀ b q,tb.lookup b=some q→h.get? b=some { cls:=.none,data:=.fields #[] }∧(K w.params).lookup b=none∧∃ c,h.TableAt c b #[])∧∀ T q,LamTab (K w.params) T q→tb.lookup T=some q)
  (hY:∀ (w:World) (h:Heap),YP w h→(K w.params).In h)
  (F : ∀ (w:World) (mg:Str→Option Value) (fa:Addr) (h:Heap),(K w.params).In h→h.Ns mainGlobals mg→mg d.name=some (.ref fa) →
   ∃ fd:FuncData,(∀ (s:Shared) (u:Value),BindsTo s fd ⟨[u],[]⟩ [(x,u)]) ∧
    ∀ base:Heap,(K w.params).In base→base.Ns mainGlobals mg→FnOk l.prog w (K w.params) mg base (CX w) k fa fd [x] (sp w))
  (hsp:∀ (w:World) (H:Hp) (a:Addr) (ns:List Int),ns.length≤n→Only H→SqL (K w.params) H a (ns.map V.int)→sp w [.ref a] H (fun v _=>v=.bl true) fun _ _ _=>False)
  (hCX:∀ (w:World) (H:Hp) (s:Shared) (e:Value) (s':Shared),CX w [] H s (fun _ _ _=>False) e s'→False) :
  PySem.W.WalkO q loose XP YP l.row.toRowW d [] (fun f vs=>PySem.call f vs):=by
 refine Att.attach_call hn hdf fun w s₀ s₁ mg mb fa o pm cd doc a vs ns G Y ho hd hcd hmg hobj hints hlen hg=>?_
 have KX:=hY w _ Y
 obtain ⟨fd,hb,hF⟩:=F w mg fa _ KX G.T.g hmg
 obtain ⟨tb,hT,hLm⟩:=hTb w s₀ mg mb _ G KX
 exact law_call hT hLm KX G.T.g G.T.b G.T.builtins G.T.nolimit G.T.bmain hg hobj hints (Nat.le_trans hlen hn2) hr hF hb (fun H hO hS=>hsp w H a ns hlen hO hS) fun H e s'=>hCX w H s₁ e s'
end L2
namespace L2
open PySem PySem.Spec PyProof.Rows
noncomputable def defArgs (s:Stmt):Arguments:=match s with
 | .FunctionDef _ a _ _ _ _ _ _ _ _=>a
 | _=>{ posonlyargs:=[],args:=[],vararg:=none,kwonlyargs:=[],kw_defaults:=[],kwarg:=none,defaults:=[] }
noncomputable def defBody (s:Stmt):List Stmt:=match s with
 | .FunctionDef _ _ b _ _ _ _ _ _ _=>b
 | _=>[]
noncomputable def defScope (s:Stmt):Scope:=match s with
 | .FunctionDef _ _ _ _ _ _ sc _ _ _=>sc
 | _=>{ kind:=.function,names:=[],isGenerator:=false,isCoroutine:=false }
noncomputable abbrev CX0:CXT:=fun _ _ _ _ _ _=>False
noncomputable abbrev E0:XK:=fun _ _ _=>False
theorem pass0 {X:Cx}:Passes CX0 X E0:=fun _ _ _ _ _ _ _ h=>h.elim
structure Fun (K:PySem.W.Frag) (x qual:Str) (st:Stmt) (f:Addr) (fd:FuncData):Prop where
 ex : ∃ (oc:Value) (od:Option Addr) (kV doc pm:Value) (an:Option Addr) (cdv ct:Value) (osl:Array (Option Value)),
  fd = PySem.W.fnOf x qual (defArgs st) (defBody st) (defScope st) .none kV doc pm an cdv ct∧K.lookup f=some ⟨oc,od,.func fd,osl⟩∧PySem.W.codeIn K cdv qual=true
 kp : PySem.W.keepIn K (.ref f)=true
section
variable {P:Program}{w:World}{K:PySem.W.Frag}{mg:Str→Option Value}{base:Heap}
theorem Fun.ok {x qual:Str}{st:Stmt}{f:Addr}{fd:FuncData}{N ps:List Str}{k:Nat}{sp:Sp} (F:Fun K x qual st f fd) (S:FnScope N ps (defScope st)) (len:∀ vs H Q E,sp vs H Q E→vs.length=ps.length)
  (hbody:∀ (cdv:Value) (A:Around) (outer:List Env) (s:Shared) (H:Hp) (vs:List V) (Q:VK) (E:XK),Room k (A.deeper (envOfC qual (defScope st) s.heap.objs.size f cdv))→sp vs H Q E →
   ∃ t,PSs (cxOf CX0 P w K mg base N qual (defScope st) f cdv A outer s H E).nox (defBody st) t∧t { nx:=fun _ H'=>Q .non H',rt:=Q } (start N vs) H):FnOk P w K mg base CX0 (k+1) f fd ps sp:=by
 obtain ⟨oc,od,kV,doc,pm,an,cdv,ct,osl,rfl,lk,hcd⟩:=F.ex
 refine fn_of lk hcd S len fun A outer s H vs Q E hr hsp=>?_
 obtain ⟨t,h,q⟩:=hbody cdv A outer s H vs Q E hr hsp
 exact ⟨t,h.nox,q⟩
theorem Fun.binds {x qual:Str}{st:Stmt}{f:Addr}{fd:FuncData}{ps:List Str} (F:Fun K x qual st f fd)
  (h : ∀ (kV doc pm:Value) (an:Option Addr) (cdv ct:Value) (us:List Value),us.length=ps.length→bindArgs (PySem.W.fnOf x qual (defArgs st) (defBody st) (defScope st) .none kV doc pm an cdv ct) ⟨us,[]⟩=pure (ps.zip us)):Binds K fd ps []:=by
 obtain ⟨oc,od,kV,doc,pm,an,cdv,ct,osl,rfl,lk,hcd⟩:=F.ex
 exact .all (h kV doc pm an cdv ct)
theorem fun_mk {x qual:Str}{st:Stmt}{f:Addr}{oc:Value}{od an:Option Addr}{osl:Array (Option Value)}{kV doc pm cdv ct:Value} (l:K.lookup f=some ⟨oc,od,.func (PySem.W.fnOf x qual (defArgs st) (defBody st) (defScope st) .none kV doc pm an cdv ct),osl⟩)
  (c : PySem.W.codeIn K cdv qual=true) (k:PySem.W.keepIn K (.ref f)=true):Fun K x qual st f (PySem.W.fnOf x qual (defArgs st) (defBody st) (defScope st) .none kV doc pm an cdv ct):=⟨⟨oc,od,kV,doc,pm,an,cdv,ct,osl,rfl,l,c⟩,k⟩
end
section
variable {X:Cx}
theorem pv (i:Nat) {x:Str}{pos:Pos} (hN:X.N[i]? = some x:=by rfl) (hv:Vis X.env.scope x:=by first|exact Or.inl rfl|exact Or.inr (Or.inl rfl)|exact Or.inr (Or.inr rfl)) (hd:(x==("__debug__" : Str))=false:=by decide)
  (hcd:(x==("__classdict__" : Str))=false:=by decide):PE X (.Name x pos) (tVar i):=pe_var hN hv hd hcd
end
theorem ite2 {c A B:Prop} [Decidable c] (h1:c→A) (h2:¬c→B):if c then A else B:=by
 by_cases h:c
 ·rw [if_pos h]
  exact h1 h
 ·rw [if_neg h]
  exact h2 h
noncomputable def Same (H H':Hp):Prop:=∀ b o,H b=some o→H' b=some o
theorem Same.refl (H:Hp):Same H H:=fun _ _ h=>h
theorem Same.trans {H H1 H2:Hp} (a:Same H H1) (b:Same H1 H2):Same H H2:=fun c o h=>b c o (a c o h)
theorem Same.free {H H':Hp} (e:Same H H') {l:Addr} (h:H' l=Option.none):H l=Option.none:=by
 cases q:H l with
 | none=>rfl
 | some o =>
  rw [e l o q] at h
  cases h
theorem Same.seq {K:PySem.W.Frag}{H H':Hp}{a:Addr}{xs:List V} (e:Same H H') (h:SqL K H a xs):SqL K H' a xs:=by
 rcases h with (h|⟨o,h⟩)|h
 ·exact .inl (.inl (e _ _ h))
 ·exact .inl (.inr ⟨o,e _ _ h⟩)
 ·exact .inr h
end L2
set_option maxHeartbeats 4000000
namespace L2
open PySem PySem.Spec PyProof.Rows
noncomputable def clFrom (env:Env):List (Str×NameKind)→List (Str×Addr)→List (Str×Addr)
 | [],acc=>acc
 | (n,k)::r,acc=>if (k==.free)=true then clFrom env r ((n,(env.cells.lookup n).getD 0)::acc) else clFrom env r acc
theorem closure_go {env:Env} (f:Str×NameKind→List (Str×Addr)→Sem (ForInStep (List (Str×Addr))))
  (hf:∀ name kind cs,f (name,kind) cs=if (kind==.free)=true then (do let c ←cellOf env name;pure (.yield ((name,c)::cs))) else pure (.yield cs)) :
  ∀ (names:List (Str×NameKind)) (acc:List (Str×Addr)),(∀ y∈names,y.2=.free→(env.cells.lookup y.1).isSome=true)→forIn names acc f=(pure (clFrom env names acc):Sem _)
 | [],acc,_=>by rw[List.forIn_nil];rfl
 | (n,k)::r,acc,h=>by
  rw [List.forIn_cons,hf]
  unfold clFrom
  by_cases hk:(k==NameKind.free)=true
  ·rw [if_pos hk,if_pos hk]
   obtain ⟨c,hc⟩:=Option.isSome_iff_exists.mp (h (n,k) List.mem_cons_self (by simpa using hk))
   have e:cellOf env n=pure c:=by unfold cellOf;rw[hc]
   rw [e,hc]
   simp only [pure_bind]
   exact closure_go f hf r _ fun y hy=>h y (List.mem_cons_of_mem _ hy)
  ·rw [if_neg hk,if_neg hk]
   simp only [pure_bind]
   exact closure_go f hf r _ fun y hy=>h y (List.mem_cons_of_mem _ hy)
theorem closureFor_cl {scope:Scope}{env:Env} (h:∀ y∈scope.names,y.2=.free→(env.cells.lookup y.1).isSome=true):closureFor scope env=pure (clFrom env scope.names []):=by
 simp only [closureFor]
 rw [closure_go (env:=env) _ (fun name kind cs=>by cases hk:kind==NameKind.free <;> simp[hk]) scope.names [] h]
 rfl
theorem clFrom_lookup (env:Env) (x:Str):∀ (names:List (Str×NameKind)) (acc:List (Str×Addr)),(clFrom env names acc).lookup x=if (x,NameKind.free)∈names then some ((env.cells.lookup x).getD 0) else acc.lookup x
 | [],acc=>by simp[clFrom]
 | (n, k)::r,acc=>by
  unfold clFrom
  by_cases hk:(k==NameKind.free)=true
  ·have ek:k=NameKind.free:=by simpa using hk
   subst ek
   rw [if_pos hk,clFrom_lookup env x r]
   by_cases hr:(x,NameKind.free)∈r
   ·rw [if_pos hr,if_pos (List.mem_cons_of_mem _ hr)]
   ·rw [if_neg hr,List.lookup_cons]
    by_cases hx:x=n
    ·subst hx
     simp
    ·have e1:(x==n)=false:=beq_eq_false_iff_ne.mpr hx
     rw [e1]
     have e2:¬(x,NameKind.free)∈(n,NameKind.free)::r:=by
      intro z
      rcases List.mem_cons.mp z with z|z
      ·exact hx (Prod.mk.inj z).1
      ·exact hr z
     rw [if_neg e2]
  ·rw [if_neg hk,clFrom_lookup env x r]
   have e2:(x,NameKind.free)∈(n,k)::r↔(x,NameKind.free)∈r:=by
    constructor
    ·intro z
     rcases List.mem_cons.mp z with z|z
     ·exact absurd (by rw[(Prod.mk.inj z).2.symm];rfl) hk
     ·exact z
    ·exact List.mem_cons_of_mem _
   by_cases hr:(x,NameKind.free)∈r
   ·rw [if_pos hr,if_pos (e2.mpr hr)]
   ·rw [if_neg hr,if_neg (fun z=>hr (e2.mp z))]
theorem cellsFrom_app:∀ (names:List (Str×NameKind)) (n:Nat) (acc:List (Str×Addr)),cellsFrom n names acc=cellsFrom n names []++acc
 | [],n,acc=>by simp[cellsFrom]
 | (x,k)::r,n,acc=>by
  unfold cellsFrom
  split
  ·rw [cellsFrom_app r (n+1) ((x,n)::acc),cellsFrom_app r (n+1) [(x,n)]]
   simp
  ·exact cellsFrom_app r n acc
theorem cellsFrom_mem:∀ (names:List (Str×NameKind)) (n:Nat) (x:Str) (c:Addr),(x,c)∈cellsFrom n names []→(x,NameKind.cell)∈names∧n≤c
 | [],n,x,c,h=>by simp[cellsFrom] at h
 | (y,k)::r,n,x,c,h=>by
  unfold cellsFrom at h
  split at h
  ·rename_i hk
   rw [cellsFrom_app] at h
   rcases List.mem_append.mp h with h|h
   ·have q:=cellsFrom_mem r (n+1) x c h
    exact ⟨List.mem_cons_of_mem _ q.1,by omega⟩
   ·have e:(x,c)=(y,n):=by simpa using h
    cases e
    have ek:k=NameKind.cell:=by simpa using hk
    subst ek
    exact ⟨List.mem_cons_self,Nat.le_refl _⟩
  ·have q:=cellsFrom_mem r n x c h
   exact ⟨List.mem_cons_of_mem _ q.1,q.2⟩
theorem lookup_of_mem_nodup {α:Type}:∀ {l:List (Str×α)}{x:Str}{k:α},(l.map (·.1)).Nodup→(x,k)∈l→l.lookup x=some k
 | (y,j)::r,x,k,nd,h=>by
  rw [List.lookup_cons]
  rcases List.mem_cons.mp h with e|h
  ·cases e;simp
  ·have nd':=List.nodup_cons.mp nd
   have this:x≠y:=fun z=>nd'.1 (by
    rw [←z]
    exact List.mem_map.mpr ⟨(x,k),h,rfl⟩)
   rw [beq_eq_false_iff_ne.mpr this]
   exact lookup_of_mem_nodup nd'.2 h
theorem newBlockEnv {M:Model}{A:Around}{E:Value→Shared→Prop}{s:Shared}{scope:Scope}{globals:Addr}{cl:List (Str×Addr)}{qual:Str}{env:Env}{Q:Env→Shared→Prop}
  (h : Q (newEnv scope s.heap.objs.size globals (cellsFrom (s.heap.objs.size+1) scope.names cl) qual none .none (some env) builtinsNs) { s with heap:=pushCells (s.heap.push { cls:=.type "dict",data:=.dict #[] }) scope.names }) :
  wpAny M A (newFunctionEnv scope globals cl [] qual none .none (some env)) Q E s:=by
 simp only [newFunctionEnv,Option.isSome_some,if_true]
 refine wpAny_bind (wpAny_alloc ?_)
 refine wpAny_bind (wpAny_layCells _ (fun name kind cells=>by cases hkc:kind==NameKind.cell <;> simp[hkc]) _ _ _ _ ?_)
 rw [show ({ s with heap:=s.heap.push { cls:=.type "dict",data:=.dict #[] } }:Shared).heap.objs.size=s.heap.objs.size+1 from Heap.size_push ..]
 rw [List.forIn_nil]
 exact wpAny_bind (wpAny_pure (wpAny_pure h))
structure BScope (N:List Str) (env:Env) (N':List Str) (ix:List (Option Nat)) (sc:Scope):Prop where
 kind:sc.kind=.function
 ndn:(sc.names.map (·.1)).Nodup
 free:∀ y∈sc.names,y.2=.free→env.kindOf y.1=some .cell∨env.kindOf y.1=some .free
 len:ix.length=N'.length
 cap:∀ (i j:Nat),ix[i]? = some (some j)→∃ x,N'[i]? = some x∧N[j]? = some x∧sc.names.lookup x=some .free
theorem BScope.names {N:List Str}{env:Env}{N':List Str}{ix:List (Option Nat)}{sc:Scope} (S:BScope N env N' ix sc):∀ y∈sc.names,y.2=.local→sc.names.lookup y.1=some .local:=fun y hy e=>by
 obtain ⟨x,k⟩:=y
 cases e
 exact lookup_of_mem_nodup S.ndn hy
noncomputable def capS (σ:St) (ix:List (Option Nat)):St:=ix.map fun o=>o.bind fun j=>(σ[j]?).join
noncomputable def bEnv (sc:Scope) (C:Addr) (env:Env):Env:=compEnvC sc (cellsFrom (C+1) sc.names (clFrom env sc.names [])) C env
noncomputable def bCx (X:Cx) (N':List Str) (sc:Scope) (s:Shared) (H:Hp) (C:Addr) (fp:List Addr):Cx where
 prog:=X.prog
 w := X.w
 K := X.K
 mg := X.mg
 base:=X.base
 A := X.A
 N := N'
 s₀ := s
 H₀ := H
 env:=bEnv sc C X.env
 outer:=X.stack
 stack:=X.stack
 ex := fp
 fn := fun x=>decide (sc.names.lookup x=some .cell)
 calm:=X.calm
 pn := []
 xe := fun _ _=>False
theorem lookup_relabel {env:Env}:∀ {names:List (Str×NameKind)}{x:Str}{k:NameKind},names.lookup x=some k →
  (names.map fun (n,k)=>if (k==NameKind.free&&env.scope.kind==.function&&env.kindOf n==some .cell) then (n,NameKind.cell) else (n,k)).lookup x=some (if (k==NameKind.free&&env.scope.kind==.function&&env.kindOf x==some .cell)=true then .cell else k)
 | [],_,_,h=>by simp at h
 | (n,j)::r,x,k,h=>by
  have ih:=@lookup_relabel env r x k
  show List.lookup x ((if (j==NameKind.free&&env.scope.kind==.function&&env.kindOf n==some .cell)=true then (n,NameKind.cell) else (n,j))::_)=_
  cases hx:x==n with
  | true =>
   have e:x=n:=by simpa using hx
   subst e
   simp only [List.lookup_cons,hx] at h
   have ej:j=k:=Option.some.inj h
   subst ej
   by_cases hc:(j==NameKind.free&&env.scope.kind==.function&&env.kindOf x==some .cell)=true
   ·rw [if_pos hc,if_pos hc];simp[List.lookup_cons]
   ·rw [if_neg hc,if_neg hc];simp[List.lookup_cons]
  | false =>
   simp only [List.lookup_cons,hx] at h
   by_cases hc:(j==NameKind.free&&env.scope.kind==.function&&env.kindOf n==some .cell)=true
   ·rw [if_pos hc];simp only [List.lookup_cons,hx];exact ih h
   ·rw [if_neg hc];simp only [List.lookup_cons,hx];exact ih h
theorem lookup_relabel_none {env:Env}:∀ {names:List (Str×NameKind)}{x:Str},names.lookup x=none →
  (names.map fun (n,k)=>if (k==NameKind.free&&env.scope.kind==.function&&env.kindOf n==some .cell) then (n,NameKind.cell) else (n,k)).lookup x=none
 | [],_,_=>rfl
 | (n,j)::r,x,h=>by
  have ih:=@lookup_relabel_none env r x
  show List.lookup x ((if (j==NameKind.free&&env.scope.kind==.function&&env.kindOf n==some .cell)=true then (n,NameKind.cell) else (n,j))::_)=_
  cases hx:x==n with
  | true=>simp only [List.lookup_cons,hx] at h;cases h
  | false =>
   simp only [List.lookup_cons,hx] at h
   by_cases hc:(j==NameKind.free&&env.scope.kind==.function&&env.kindOf n==some .cell)=true
   ·rw [if_pos hc];simp only [List.lookup_cons,hx];exact ih h
   ·rw [if_neg hc];simp only [List.lookup_cons,hx];exact ih h
theorem bEnv_kind {sc:Scope}{C:Addr}{env:Env}{x:Str}{k:NameKind} (h:sc.names.lookup x=some k):(bEnv sc C env).kindOf x=some (if (k==NameKind.free&&env.scope.kind==.function&&env.kindOf x==some .cell)=true then .cell else k):=lookup_relabel h
theorem bEnv_none {sc:Scope}{C:Addr}{env:Env}{x:Str} (h:sc.names.lookup x=none):(bEnv sc C env).kindOf x=none:=lookup_relabel_none h
section
variable {X:Cx}{N':List Str}{ix:List (Option Nat)}{sc:Scope}
theorem bCells (S:BScope X.N X.env N' ix sc) {C:Addr}{x:Str}{c:Addr} (h:(bEnv sc C X.env).cells.lookup x=some c) :
  (sc.names.lookup x=some .cell∧C+1≤c∧(x,c)∈cellsFrom (C+1) sc.names [])∨(sc.names.lookup x=some .free∧c=(X.env.cells.lookup x).getD 0):=by
 have e:(bEnv sc C X.env).cells=cellsFrom (C+1) sc.names []++clFrom X.env sc.names []:=cellsFrom_app _ _ _
 rw [e] at h
 rcases List.mem_append.mp (mem_of_lookup h) with q|q
 ·obtain ⟨a,b⟩:=cellsFrom_mem _ _ _ _ q
  exact .inl ⟨lookup_of_mem_nodup S.ndn a,b,q⟩
 ·have fr:(x,NameKind.free)∈sc.names:=by
   have z:∀ (names:List (Str×NameKind)) (acc:List (Str×Addr)),(x,c)∈clFrom X.env names acc→(x,c)∈acc∨(x,NameKind.free)∈names:=by
    intro names
    induction names with
    | nil=>intro acc h;exact .inl h
    | cons y r ih =>
     obtain ⟨n,k⟩:=y
     intro acc h
     unfold clFrom at h
     split at h
     ·rename_i hk
      have ek:k=NameKind.free:=by simpa using hk
      subst ek
      rcases ih _ h with h|h
      ·rcases List.mem_cons.mp h with h|h
       ·cases h;exact .inr List.mem_cons_self
       ·exact .inl h
      ·exact .inr (List.mem_cons_of_mem _ h)
     ·rcases ih _ h with h|h
      ·exact .inl h
      ·exact .inr (List.mem_cons_of_mem _ h)
   rcases z _ _ q with q|q
   ·simp at q
   ·exact q
  have hf:=lookup_of_mem_nodup S.ndn fr
  have hn:(cellsFrom (C+1) sc.names []).lookup x=none:=by
   cases z:(cellsFrom (C+1) sc.names []).lookup x with
   | none=>rfl
   | some d =>
    have q':=cellsFrom_mem _ _ _ _ (mem_of_lookup z)
    have:=lookup_of_mem_nodup S.ndn q'.1
    rw [hf] at this;cases this
  rw [List.lookup_append,hn,clFrom_lookup,if_pos fr] at h
  exact .inr ⟨hf,(Option.some.inj (by simpa using h)).symm⟩
theorem bCells_free (S:BScope X.N X.env N' ix sc) {C:Addr}{x:Str} (h:sc.names.lookup x=some .free):(bEnv sc C X.env).cells.lookup x=some ((X.env.cells.lookup x).getD 0):=by
 have e:(bEnv sc C X.env).cells=cellsFrom (C+1) sc.names []++clFrom X.env sc.names []:=cellsFrom_app _ _ _
 have hn:(cellsFrom (C+1) sc.names []).lookup x=none:=by
  cases z:(cellsFrom (C+1) sc.names []).lookup x with
  | none=>rfl
  | some d =>
   have q':=cellsFrom_mem _ _ _ _ (mem_of_lookup z)
   have:=lookup_of_mem_nodup S.ndn q'.1
   rw [h] at this;cases this
 rw [e,List.lookup_append,hn,clFrom_lookup,if_pos (mem_of_lookup h)]
 rfl
theorem bCells_own {C:Addr}{env:Env}{x:Str} (h:sc.names.lookup x=some .cell):∃ c,(bEnv sc C env).cells.lookup x=some c:=by
 have e:(bEnv sc C env).cells=cellsFrom (C+1) sc.names []++clFrom env sc.names []:=cellsFrom_app _ _ _
 obtain ⟨c,hc⟩:=cell_has (n:=C+1) h
 exact ⟨c,by rw[e,List.lookup_append,hc];rfl⟩
theorem block_start {pins:List (Addr×Obj)}{σ:St}{H:Hp}{s:Shared}{fp:List Addr} (S:BScope X.N X.env N' ix sc) (I:Inv X pins σ H s) (hf:∀ b∈fp,FpOk X pins H b) (hlt:∀ b∈fp,b<s.heap.objs.size) :
  Inv (bCx X N' sc s H (s.heap.objs.size+1) fp) [] (capS σ ix) H
   { s with heap:=pushCells ((s.heap.push { cls:=.type "list",data:=.seq #[] }).push { cls:=.type "dict",data:=.dict #[] }) sc.names }:=by
 have sz1:(s.heap.push { cls:=.type "list",data:=.seq #[] }).objs.size=s.heap.objs.size+1:=Heap.size_push ..
 have keep:∀ b o,s.heap.get? b=some o→(pushCells ((s.heap.push { cls:=.type "list",data:=.seq #[] }).push { cls:=.type "dict",data:=.dict #[] }) sc.names).get? b=some o:=fun b o e =>
  pushCells_keeps _ _ b o (Heap.get?_push_of_some _ (Heap.get?_push_of_some _ e))
 have ok:=cellsFrom_ok sc.names ((s.heap.push { cls:=.type "list",data:=.seq #[] }).push { cls:=.type "dict",data:=.dict #[] }) (s.heap.objs.size+2) [] ⟨fun _ _ hm=>(nomatch hm),List.Pairwise.nil⟩ (by rw[Heap.size_push,sz1];exact Nat.le_refl _)
 rw [Heap.size_push,sz1] at ok
 have cOld:∀ x c,sc.names.lookup x=some .free→c=(X.env.cells.lookup x).getD 0→X.env.cells.lookup x=some c:=fun x c h1 h2=>by
  obtain ⟨d,hd⟩:=I.ok.has x (S.free (x,.free) (mem_of_lookup h1) rfl)
  rw [hd] at h2 ⊢
  rw [h2];rfl
 have hold:∀ x c,X.env.cells.lookup x=some c→c<s.heap.objs.size:=fun x c e=>by
  obtain ⟨v,q⟩:=I.cell x c e
  exact q.lt
 refine ⟨⟨I.ok.mod,S.kind,I.ok.glob,I.ok.blt,Nat.le_succ _,fun x y c h1 h2=>?_,fun x hx=>?_,fun x c hx h=>?_,I.ok.hd,I.ok.frames,.inl rfl,fun b hb=>⟨?_,fun x c h=>?_⟩,I.bs,Nat.le_trans I.ok.bsz I.sz,fun b o e hb=>?_,fun b hb=>?_,I.stack,I.stkFree,fun T q h=>I.base.tbls T q (I.ok.tab T q h)⟩,
  rfl,I.bare,Un.kept keep,⟨fun _=>none,?_,fun i x v e1 e2 e3=>?_⟩,fun x c h=>?_,I.hok.fresh (Nat.le_succ _),fun x c h=>?_,fun p hp=>absurd (show p∈([]:List (Addr×Obj)) from hp) (by simp),I.hok.kept keep,?_⟩
 ·rcases bCells S h1 with ⟨a1,b1,q1⟩|⟨a1,b1⟩ <;> rcases bCells S h2 with ⟨a2,b2,q2⟩|⟨a2,b2⟩
  ·exact name_of_addr ok.apart q1 q2
  ·exact absurd (hold y c (cOld y c a2 b2)) (Nat.not_lt.mpr (Nat.le_trans (Nat.le_add_right _ 2) b1))
  ·exact absurd (hold x c (cOld x c a1 b1)) (Nat.not_lt.mpr (Nat.le_trans (Nat.le_add_right _ 2) b2))
  ·exact I.ok.inj x y c (cOld x c a1 b1) (cOld y c a2 b2)
 ·cases q:sc.names.lookup x with
  | none =>
   have z:=bEnv_none (C:=s.heap.objs.size+1) (env:=X.env) q
   rcases hx with hx|hx
   ·exact absurd (hx.symm.trans z) (by simp)
   ·exact absurd (hx.symm.trans z) (by simp)
  | some k =>
   have z:=bEnv_kind (C:=s.heap.objs.size+1) (env:=X.env) q
   cases k with
   | free=>exact⟨_,bCells_free S q⟩
   | cell=>exact bCells_own q
   | _ =>
    rcases hx with hx|hx
    ·have:=hx.symm.trans z
     simp at this
    ·have:=hx.symm.trans z
     simp at this
 ·have hx':sc.names.lookup x=some .cell:=of_decide_eq_true hx
  rcases bCells S h with ⟨_,b1,_⟩|⟨a1,_⟩
  ·exact Nat.le_trans (by omega:s.heap.objs.size≤s.heap.objs.size+1+1) b1
  ·rw [hx'] at a1;cases a1
 ·exact Nat.ne_of_lt (Nat.lt_succ_of_lt (hlt b hb))
 ·obtain ⟨f0,f1,f2,f3,f4,f5⟩:=hf b hb
  rcases bCells S h with ⟨_,b1,_⟩|⟨a1,b1⟩
  ·exact Nat.ne_of_gt (Nat.lt_of_lt_of_le (hlt b hb) (Nat.le_trans (Nat.le_add_right _ 2) b1))
  ·exact f4 x c (cOld x c a1 b1)
 ·obtain ⟨f0,f1,f2,f3,f4,f5⟩:=hf b hb
  rcases f3 with f3|f3
  ·exact I.ok.noex b o e f3
  ·exact absurd (Nat.lt_of_lt_of_le (Heap.lt_size e) (Nat.le_trans I.ok.bsz f3)) (Nat.lt_irrefl _)
 ·obtain ⟨f0,f1,f2,f3,f4,f5⟩:=hf b hb
  intro z
  rcases List.mem_cons.mp (I.stkSub b z) with z|z
  ·exact f1 z
  ·exact f2 z
 ·have q:=(Heap.Ns.new (s.heap.push { cls:=.type "list",data:=.seq #[] }) (.type "dict")).keeps (pushCells_keeps sc.names _)
  rw [sz1] at q
  exact q
 ·have hi:i<ix.length:=by
   have z:=(List.getElem?_eq_some_iff.mp e2).1
   simpa [capS] using z
  have e2':(capS σ ix)[i]? = (ix[i]?).map fun o=>o.bind fun j=>(σ[j]?).join:=List.getElem?_map ..
  rw [e2',List.getElem?_eq_getElem hi] at e2
  have e2:(ix[i]).bind (fun j=>(σ[j]?).join)=some v:=Option.some.inj e2
  cases q:ix[i] with
  | none=>rw[q] at e2;cases e2
  | some j =>
   rw [q] at e2
   have e2:(σ[j]?).join=some v:=e2
   have e2:σ[j]? = some (some v):=by
    cases z:σ[j]? with
    | none=>rw[z] at e2;cases e2
    | some w'=>rw[z] at e2;have e2:w'=some v:=e2;rw[e2]
   obtain ⟨y,c1,c2,c3⟩:=S.cap i j (by rw[List.getElem?_eq_getElem hi,q])
   have exy:x=y:=Option.some.inj (e1.symm.trans c1)
   subst exy
   have kd:=S.free (x,.free) (mem_of_lookup c3) rfl
   obtain ⟨m,hn,hl⟩:=I.loc
   obtain ⟨u,ru,lu⟩:=hl j x v c2 e2 (by rcases kd with k|k;exact .inr (.inl k);exact .inr (.inr k))
   refine ⟨u,ru,.inr ⟨?_,?_⟩⟩
   ·rw [show (bCx X N' sc s H (s.heap.objs.size+1) fp).env.kindOf x=_ from bEnv_kind (C:=s.heap.objs.size+1) (env:=X.env) c3]
    split
    ·exact .inl rfl
    ·exact .inr rfl
   ·rcases lu with ⟨k,_⟩|⟨_,c,hc,hcell⟩
    ·rcases kd with k'|k' <;> rw[k] at k' <;> cases k'
    ·refine ⟨c,?_,hcell.keeps keep⟩
     have:=bCells_free S (C:=s.heap.objs.size+1) c3
     rw [hc] at this
     exact this
 ·rcases bCells S h with ⟨_,b1,q⟩|⟨a1,b1⟩
  ·exact ⟨none,(ok.empty x c q).1⟩
  ·obtain ⟨v,q⟩:=I.cell x c (cOld x c a1 b1)
   exact ⟨v,q.keeps keep⟩
 ·rcases bCells S h with ⟨_,b1,q⟩|⟨a1,b1⟩
  ·exact I.hok.fresh (Nat.le_trans (Nat.le_add_right _ 2) b1)
  ·exact I.freeC x c (cOld x c a1 b1)
 ·show (capS σ ix).length=N'.length
  simp [capS,S.len]
theorem block_again {pins pins':List (Addr×Obj)}{σ σ2:St}{H H':Hp}{s s':Shared}{fp:List Addr}{C:Addr} (S:BScope X.N X.env N' ix sc) (I:Inv X pins σ H s) (hf:∀ b∈fp,FpOk X pins H b)
  (I':Inv (bCx X N' sc s H C fp) pins' σ2 H' s'):Inv (bCx X N' sc s H C fp) pins' (capS σ ix) H' s':=by
 refine ⟨I'.ok,I'.os,I'.bare,I'.base,?_,I'.cell,I'.free,I'.freeC,I'.pin,I'.hok,by show (capS σ ix).length=N'.length;simp[capS,S.len]⟩
 obtain ⟨m',hn',_⟩:=I'.loc
 refine ⟨m',hn',fun i x v e1 e2 e3=>?_⟩
 have hi:i<ix.length:=by
  have z:=(List.getElem?_eq_some_iff.mp e2).1
  simpa [capS] using z
 have e2':(capS σ ix)[i]? = (ix[i]?).map fun o=>o.bind fun j=>(σ[j]?).join:=List.getElem?_map ..
 rw [e2',List.getElem?_eq_getElem hi] at e2
 have e2:(ix[i]).bind (fun j=>(σ[j]?).join)=some v:=Option.some.inj e2
 cases q:ix[i] with
 | none=>rw[q] at e2;cases e2
 | some j =>
  rw [q] at e2
  have e2:(σ[j]?).join=some v:=e2
  have e2:σ[j]? = some (some v):=by
   cases z:σ[j]? with
   | none=>rw[z] at e2;cases e2
   | some w'=>rw[z] at e2;have e2:w'=some v:=e2;rw[e2]
  obtain ⟨y,c1,c2,c3⟩:=S.cap i j (by rw[List.getElem?_eq_getElem hi,q])
  have exy:x=y:=Option.some.inj (e1.symm.trans c1)
  subst exy
  have kd:=S.free (x,.free) (mem_of_lookup c3) rfl
  obtain ⟨m,hn,hl⟩:=I.loc
  obtain ⟨u,ru,lu⟩:=hl j x v c2 e2 (by rcases kd with k|k;exact .inr (.inl k);exact .inr (.inr k))
  refine ⟨u,ru,.inr ⟨?_,?_⟩⟩
  ·rw [show (bCx X N' sc s H C fp).env.kindOf x=_ from bEnv_kind (C:=C) (env:=X.env) c3]
   split
   ·exact .inl rfl
   ·exact .inr rfl
  ·rcases lu with ⟨k,_⟩|⟨_,c,hc,o,ho,hd⟩
   ·rcases kd with k'|k' <;> rw[k] at k' <;> cases k'
   ·refine ⟨c,?_,?_⟩
    ·have:=bCells_free S (C:=C) c3
     rw [hc] at this
     exact this
    ·obtain ⟨sl,e⟩:=I'.base.any ho (I.freeC x c hc) fun z=>(hf c z).2.2.2.2.1 x c hc rfl
     exact ⟨_,e,hd⟩
noncomputable def PIf (X:Cx) (ifs:List Expr) (t:TT):Prop :=
 ∀ (pins:List (Addr×Obj)) (s:Shared) (σ:St) (H:Hp) (Q:Bool→Hp→Prop),Inv X pins σ H s→t σ H Q →
  wpAny (model X.prog X.w) X.A (forIn ifs true fun c r=>if r=true then do let ok ←isTrue c X.env (eval c X.env);pure (ForInStep.yield ok) else pure (ForInStep.yield r)) (TP X pins σ Q) X.xe s
noncomputable def tYes:TT:=fun _ H Q=>Q true H
theorem pif_nil {X:Cx}:PIf X [] tYes:=fun _ _ _ H _ I h=>wpAny_tests_nil ⟨H,I,h⟩
theorem pif_one {X:Cx}{c:Expr}{t:TT} (h:PT X c t):PIf X [c] t:=fun pins s σ H Q I hw=>wpAny_tests_one (h pins s σ H Q I hw)
theorem compLoop_any {prog:Program}{w:World}{A:Around}{R:Result→Shared→Prop}{s:Shared}{elt target iter:Expr}{ifs:List Expr}{scope:Scope}{pos:Pos}{it acc:Value}{env:Env} (I:Nat→Shared→Prop)
  (turn : ∀ n s,I n s→wpAny (model prog w) A (pyNext it) (fun r s₁=>match r with
   | none=>R (.ok .next) s₁
   | some v=>wpAny (model prog w) A (letOwnedTupleGo target it v) (fun _ s₁'=>wpAny (model prog w) A (assign target env v) (fun _ s₂ =>
     wpAny (model prog w) A (forIn ifs true fun c r=>if r=true then do let ok ←isTrue c env (eval c env);pure (ForInStep.yield ok) else pure (ForInStep.yield r)) (fun ok s₃ =>
      if ok=true then wpAny (model prog w) A (eval elt env) (fun x s₄ =>
       wpAny (model prog w) A (call (.builtin "list.append") [acc,x]) (fun _ s₅=>∃ m,m<n∧I m s₅) (fun _ _=>False) s₄) (fun _ _=>False) s₃
      else ∃ m,m<n∧I m s₃) (fun _ _=>False) s₂) (fun _ _=>False) s₁') (fun _ _=>False) s₁) (fun _ _=>False) s)
  (n : Nat) (h:I n s):codeAny (model prog w) A (.compLoop (.ListComp elt [⟨target,iter,ifs,0⟩] scope pos) 0 it acc env) R s:=by
 refine codeAny_loop rfl I (fun n s hI=>?_) n h
 show wpAny _ A ((compTurn (.ListComp elt [⟨target,iter,ifs,0⟩] scope pos) 0 it acc env).onRaise (fun x=>do noteFrame x env;theTreesLotGoes x)) _ _ s
 refine wpAny_noted ?_
 rw [compTurn_list]
 refine wpAny_bind (wpAny_standAt (wpAny_bind (wpAny_mono (turn n s hI) (fun r s₁ h₁=>?_) fun _ _ h'=>h'.elim)))
 cases r with
 | none=>exact wpAny_pure h₁
 | some v =>
  refine wpAny_bind (wpAny_mono h₁ (fun _ s₁' h₁'=>wpAny_bind (wpAny_mono h₁' (fun _ s₂ h₂=>wpAny_bind (wpAny_mono h₂ (fun ok s₃ h₃=>?_) fun _ _ h'=>h'.elim)) fun _ _ h'=>h'.elim)) fun _ _ h'=>h'.elim)
  cases ok with
  | false=>exact wpAny_pure ⟨rfl,h₃⟩
  | true =>
   exact wpAny_bind (wpAny_bind (wpAny_mono h₃ (fun x s₄ h₄=>wpAny_bind (wpAny_mono h₄ (fun _ s₅ h₅=>wpAny_pure (wpAny_pure ⟨rfl,h₅⟩)) fun _ _ h'=>h'.elim)) fun _ _ h'=>h'.elim))
noncomputable def tCompW (J:It) (σ0:St) (g:TG) (tt:TT) (te:TE) (H1:Hp) (Qe:List V→Hp→Prop):Prop :=
 ∃ W : Nat→Nat→List V→Hp→Prop,(∃ m,W 0 m [] H1)∧∀ i m ys H,W i m ys H →
  (J.stop i H∧Qe ys H) ∨
  (J.go i H∧ys.length<sizeLine∧∃ N:List V→Hp→Prop,(∀ ys' H',N ys' H'→∃ m',m'<m∧W (i+1) m' ys' H') ∧
   ∀ x H',J.yld i H x H'→g x σ0 H' fun σ2 H2=>tt σ2 H2 fun b H3=>if b=true then te σ2 H3 fun y H4=>N (ys++[y]) H4 else N ys H3)
theorem comp_run {tg iter elt:Expr}{ifs:List Expr}{pos:Pos}{g:TG}{tt:TT}{te:TE}{pins:List (Addr×Obj)}{σ:St}{H:Hp}{s:Shared}{it:Addr}{fp:List Addr}{tn:Nat→Heap→Prop}{J:It}{Qe:List V→Hp→Prop}
  {RR:Value→Addr→Result→Shared→Prop}{E:Value→Shared→Prop}
  (hc:X.calm=true) (S:BScope X.N X.env N' ix sc) (hg:∀ s H C fp,PG (bCx X N' sc s H C fp) tg g) (ht:∀ s H C fp,PIf (bCx X N' sc s H C fp) ifs tt) (he:∀ s H C fp,PE (bCx X N' sc s H C fp) elt te)
  (I : Inv X pins σ H s) (T:Turn X.prog X.w X.K tg J fp it tn) (st:tn 0 s.heap) (hf:∀ b∈fp,FpOk X pins H b) (hw:tCompW J (capS σ ix) g tt te H Qe)
  (fin:∀ s' H' ys m,s'.heap.Ns (s.heap.objs.size+1) m→H' s.heap.objs.size=none→H' (s.heap.objs.size+1)=none→Qe ys H'→Inv X pins σ (upd H' s.heap.objs.size (.lst ys)) s'→RR (.ref s.heap.objs.size) (s.heap.objs.size+1) (.ok .next) s') :
  wpAny (model X.prog X.w) X.A (newList []) (fun acc s₃=>wpAny (model X.prog X.w) X.A (newFunctionEnv sc X.env.globals (clFrom X.env sc.names []) [] X.env.qual none .none (some X.env)) (fun cenv s₄ =>
   codeAny (model X.prog X.w) X.A (.compStart (.ListComp elt [⟨tg,iter,ifs,0⟩] sc pos) 0 (.ref it) acc { cenv with scope:=relabel sc X.env }) (RR acc cenv.locals) s₄) E s₃) E s:=by
 have hlt:∀ b∈fp,b<s.heap.objs.size:=fun b hb=>by
  obtain ⟨o,e,_⟩:=T.obj _ _ st b hb
  exact Heap.lt_size e
 refine wpAny_newObj_type (newBlockEnv ?_)
 have sz1:(s.heap.push { cls:=.type "list",dict:=none,data:=.seq ([]:List Value).toArray }).objs.size=s.heap.objs.size+1:=Heap.size_push ..
 have I0:=block_start S I hf hlt
 obtain ⟨W,⟨m0,w0⟩,turn⟩:=hw
 have nD:∀ b∈fp,s.heap.objs.size≠b:=fun b hb=>Nat.ne_of_gt (hlt b hb)
 have freshD:H s.heap.objs.size=none:=I.hok.fresh (Nat.le_refl _)
 have cellD:∀ x c,(bEnv sc (s.heap.objs.size+1) X.env).cells.lookup x=some c→c≠s.heap.objs.size:=fun x c h=>by
  rcases bCells S h with ⟨_,b1,_⟩|⟨a1,b1⟩
  ·exact Nat.ne_of_gt (Nat.lt_of_lt_of_le (Nat.lt_succ_of_lt (Nat.lt_succ_self _)) b1)
  ·obtain ⟨d,hd⟩:=I.ok.has x (S.free (x,.free) (mem_of_lookup a1) rfl)
   rw [hd] at b1
   obtain ⟨v,q⟩:=I.cell x d hd
   have e:c=d:=b1
   rw [e]
   exact Nat.ne_of_lt q.lt
 have fsD:s.heap.objs.size ∉ frs X.stack:=fun z=>by
  rcases List.mem_cons.mp (I.stkSub _ z) with z|z
  ·exact absurd I.lt (by rw[←z];exact Nat.lt_irrefl _)
  ·exact I.nofs (Nat.le_refl _) z
 have fpB:∀ {pins':List (Addr×Obj)}{H':Hp},(∀ b∈fp,H' b=none)→(∀ p∈pins',∀ b∈fp,p.1≠b)→∀ b∈fp,FpOk (bCx X N' sc s H (s.heap.objs.size+1) fp) pins' H' b:=fun {pins' H'} h1 h2 b hb =>
  ⟨h1 b hb,(I0.ok.exf b hb).1,I0.ok.exfs b hb,.inl hb,(I0.ok.exf b hb).2,fun p hp=>h2 p (by simpa [bCx] using hp) b hb⟩
 have getD0:(pushCells ((s.heap.push { cls:=.type "list",data:=.seq #[] }).push { cls:=.type "dict",data:=.dict #[] }) sc.names).get? s.heap.objs.size=some { cls:=.type "list",data:=.seq #[] } :=
  pushCells_keeps _ _ _ _ (Heap.get?_push_of_some _ (Heap.get?_push_size _ rfl))
 have I0':Inv (bCx X N' sc s H (s.heap.objs.size+1) fp) [(s.heap.objs.size,{ cls:=.type "list",data:=.seq #[] })] (capS σ ix) H _:=I0.pins_of (pins':=[(s.heap.objs.size,{ cls:=.type "list",data:=.seq #[] })]) fun p hp=>by
  have e:p=(s.heap.objs.size,{ cls:=.type "list",data:=.seq #[] }):=by simpa using hp
  subst e
  exact ⟨getD0,freshD,Nat.ne_of_lt (Nat.lt_succ_self _),fsD,fun v z=>by cases z⟩
 have st0:tn 0 (pushCells ((s.heap.push { cls:=.type "list",data:=.seq #[] }).push { cls:=.type "dict",data:=.dict #[] }) sc.names):=T.keep _ _ _ st fun b hb o e=>pushCells_keeps _ _ _ _ (Heap.get?_push_of_some _ (Heap.get?_push_of_some _ e))
 have loop:∀ s4:Shared,s4={ s with heap:=pushCells ((s.heap.push { cls:=.type "list",data:=.seq #[] }).push { cls:=.type "dict",data:=.dict #[] }) sc.names } →
   codeAny (model X.prog X.w) X.A (.compLoop (.ListComp elt [⟨tg,iter,ifs,0⟩] sc pos) 0 (.ref it) (.ref s.heap.objs.size) (bEnv sc (s.heap.objs.size+1) X.env)) (RR (.ref s.heap.objs.size) (s.heap.objs.size+1)) s4:=by
  rintro s4 rfl
  refine compLoop_any (fun n s'=>∃ (i:Nat) (ys:List V) (its:List Value) (k:Nat) (H':Hp),Inv (bCx X N' sc s H (s.heap.objs.size+1) fp) [(s.heap.objs.size,{ cls:=.type "list",data:=.seq its.toArray k })] (capS σ ix) H' s' ∧
   tn i s'.heap∧(∀ b∈fp,H' b=none)∧Vals ys its∧ys.length≤sizeLine∧W i n ys H') ?_ m0 ⟨0,[],[],0,H,I0',st0,fun b hb=>(hf b hb).1,.nil,Nat.zero_le _,w0⟩
  rintro n s3 ⟨i,ys,its,k,H3,I3,st3,fr3,rv,hz,w3⟩
  have fp3:=fpB (pins':=[(s.heap.objs.size,{ cls:=.type "list",data:=.seq its.toArray k })]) fr3 (fun p hp b hb=>by
   have e:p=(s.heap.objs.size,{ cls:=.type "list",data:=.seq its.toArray k }):=by simpa using hp
   rw [e];exact nD b hb)
  rcases turn i n ys H3 w3 with ⟨stop,qe⟩|⟨go,hz3,N,hN,step⟩
  ·refine thn (T.done (bCx X N' sc s H (s.heap.objs.size+1) fp) rfl rfl rfl hc i _ s3 _ H3 (fun _ _=>False) I3 fp3 st3 stop) fun r s4 ⟨hr,I4⟩=>?_
   subst hr
   obtain ⟨pg,pn,_⟩:=I4.pin (s.heap.objs.size,{ cls:=.type "list",data:=.seq its.toArray k }) (List.mem_append_right _ List.mem_cons_self)
   obtain ⟨m,hm,_⟩:=I4.loc
   refine fin s4 H3 ys m hm pn I4.free qe ?_
   refine I.call' (ch:=fp) I4.os ⟨I4.base.keep,I4.base.slot,fun b o e n hx=>?_,I4.base.there,fun b xs q=>?_,fun b o u q=>?_,fun b ps q=>?_⟩ (fun b o e=>?_) I4.bare fun b hb=>?_
   ·rw [upd_ne (Nat.ne_of_lt (Heap.lt_size e))]
    exact I4.base.free b o e n hx
   ·have q':=I4.base.tups b xs q
    rw [upd_ne (ne_of_none q' pn)]
    exact q'
   ·have q':=I4.base.frzs b o u q
    rw [upd_ne (ne_of_none q' pn)]
    exact q'
   ·have q':=I4.base.tbls b ps q
    rw [upd_ne (ne_of_none q' pn)]
    exact q'
   ·by_cases hb:b=s.heap.objs.size
    ·subst hb
     rw [upd_same] at e
     cases e
     exact ⟨hz,its,k,rv,pg⟩
    ·rw [upd_ne hb] at e
     exact (I4.hok b o e).stay (fun c v _ q=>q) (fun c q=>by rw[upd_ne (ne_of_none q pn)];exact q) fun c xs _ q=>by rw[upd_ne (ne_of_none q pn)];exact q
   ·obtain ⟨f0,f1,f2,f3,f4,f5⟩:=hf b hb
    exact ⟨f3,f1,f4,f5⟩
  ·refine thn (T.item (bCx X N' sc s H (s.heap.objs.size+1) fp) rfl rfl rfl hc i _ s3 _ H3 (fun _ _=>False) I3 fp3 st3 go) fun r s4 ⟨u,hr,h4⟩=>?_
   subst hr
   refine thn h4 fun _ s5 ⟨x,H5,I5,r5,y5,st5,fr5⟩=>?_
   have fp5:=fpB (pins':=[(s.heap.objs.size,{ cls:=.type "list",data:=.seq its.toArray k })]) fr5 (fun p hp b hb=>by
    have e:p=(s.heap.objs.size,{ cls:=.type "list",data:=.seq its.toArray k }):=by simpa using hp
    rw [e];exact nD b hb)
   have I5':=I5.pinned fp5 (T.obj _ _ st5)
   refine thn (hg s H _ fp _ s5 _ H5 x u _ I5' r5 (step x H5 y5)) fun _ s6 ⟨σ6,H6,I6,q6⟩=>?_
   have back:∀ {σ7:St}{H7:Hp}{s7:Shared},Inv (bCx X N' sc s H (s.heap.objs.size+1) fp) ([(s.heap.objs.size,{ cls:=.type "list",data:=.seq its.toArray k })]++pinsAt fp s5.heap) σ7 H7 s7 →
     tn (i+1) s7.heap∧(∀ b∈fp,H7 b=none):=fun {σ7 H7 s7} I7=>by
    refine ⟨T.keep _ _ _ st5 fun b hb o e=>(I7.pin (b,o) (List.mem_append_right _ (List.mem_append_right _ (mem_pinsAt hb e)))).1,fun b hb=>?_⟩
    obtain ⟨o,e,d⟩:=T.obj _ _ st5 b hb
    exact (I7.pin (b,o) (List.mem_append_right _ (List.mem_append_right _ (mem_pinsAt hb e)))).2.1
   refine thn (ht s H _ fp _ s6 σ6 H6 _ I6 q6) fun ok s7 ⟨H7,I7,q7⟩=>?_
   cases ok with
   | false =>
    rw [if_neg Bool.false_ne_true] at q7 ⊢
    obtain ⟨m',hm',w7⟩:=hN _ _ q7
    exact ⟨m',hm',i+1,ys,its,k,H7,block_again S I hf I7.unpinned,(back I7).1,(back I7).2,rv,hz,w7⟩
   | true =>
    rw [if_pos rfl] at q7 ⊢
    refine thn (he s H _ fp _ s7 σ6 H7 _ I7 q7) fun xv s8 ⟨y,H8,I8,r8,q8⟩=>?_
    obtain ⟨m',hm',w8⟩:=hN _ _ q8
    obtain ⟨pg,pn,_⟩:=I8.pin (s.heap.objs.size,{ cls:=.type "list",data:=.seq its.toArray k }) (List.mem_append_right _ (List.mem_append_left _ List.mem_cons_self))
    refine wpAny_list_append_plain (l:=s.heap.objs.size) (items:=its.toArray) ⟨k,pg⟩ (fun h9 hl9 hs9=>?_) (by have:=rv.length;simp;omega)
    obtain ⟨k9,g9⟩:=hl9
    have I8':Inv (bCx X N' sc s H (s.heap.objs.size+1) fp) (pinsAt fp s5.heap) σ6 H8 s8:=I8.pins_of fun p hp=>I8.pin p (List.mem_append_right _ (List.mem_append_right _ hp))
    have I9:Inv (bCx X N' sc s H (s.heap.objs.size+1) fp) (pinsAt fp s5.heap) σ6 H8 { s8 with heap:=h9 }:=I8'.turned (t':=s8.toks) (it:=s.heap.objs.size) (fun b o hb e=>hs9.extBut b o hb e) pn (Nat.ne_of_lt (Nat.lt_succ_self _)) (.inr (Nat.le_refl _)) cellD
     fun p hp=>by
      have hp':p∈pinsAt fp s5.heap:=by simpa [bCx] using hp
      exact (nD _ (of_pinsAt hp').1).symm
    have I9':Inv (bCx X N' sc s H (s.heap.objs.size+1) fp) [(s.heap.objs.size,{ cls:=.type "list",data:=.seq (its++[xv]).toArray k9 })] σ6 H8 { s8 with heap:=h9 }:=I9.pins_of fun p hp=>by
     have e:p=(s.heap.objs.size,{ cls:=.type "list",data:=.seq (its++[xv]).toArray k9 }):=by simpa using hp
     subst e
     refine ⟨?_,pn,Nat.ne_of_lt (Nat.lt_succ_self _),fsD,fun v z=>by cases z⟩
     simpa using g9
    refine ⟨m',hm',i+1,ys++[y],its++[xv],k9,H8,block_again S I hf I9',?_,(back I8).2,rv.append (.cons r8 .nil),by simp;omega,w8⟩
    exact T.keep _ _ _ (back I8).1 fun b hb o e=>hs9.extBut b o (nD b hb).symm e
 have key:=codeAny_compStart_list (iter:=iter) (loop _ rfl) (T.self X.A 0 { s with heap:=pushCells ((s.heap.push { cls:=.type "list",data:=.seq #[] }).push { cls:=.type "dict",data:=.dict #[] }) sc.names } _ _ st0 (loop _ rfl))
 simpa only [newEnv,sz1,bEnv,compEnvC] using key
noncomputable def tComp (wi:TI) (ix:List (Option Nat)) (g:TG) (tt:TT) (te:TE):TE:=fun σ H Q=>wi σ H fun J H1=>tCompW J (capS σ ix) g tt te H1 fun ys H2=>∀ p,H2 p=none→Q (.ref p) (upd H2 p (.lst ys))
theorem BScope.clos {pins:List (Addr×Obj)}{σ:St}{H:Hp}{s:Shared} (S:BScope X.N X.env N' ix sc) (I:Inv X pins σ H s):closureFor sc X.env=pure (clFrom X.env sc.names []) :=
 closureFor_cl fun y hy e=>by
  obtain ⟨c,hc⟩:=I.ok.has y.1 (S.free y hy e)
  rw [hc];rfl
theorem pe_comp {tg iter elt:Expr}{ifs:List Expr}{pos:Pos}{wi:TI}{g:TG}{tt:TT}{te:TE} (hc:X.calm=true) (S:BScope X.N X.env N' ix sc) (hi:PI X tg iter wi)
  (hg:∀ s H C fp,PG (bCx X N' sc s H C fp) tg g) (ht:∀ s H C fp,PIf (bCx X N' sc s H C fp) ifs tt) (he:∀ s H C fp,PE (bCx X N' sc s H C fp) elt te)
  (hs:∀ x,foldedSetIterable iter X.env x=pure x:=by intro _;rfl):PE X (.ListComp elt [⟨tg,iter,ifs,0⟩] sc pos) (tComp wi ix g tt te):=by
 intro pins s σ H Q I h
 rw [eval_ListComp]
 refine wpAny_comprehension_free (use:=none) rfl hs (S.clos I) S.kind S.names (thn (hi pins s σ H _ I h) fun v s1 h1=>thn h1 fun itv s2 ⟨it,fp,tn,J,H2,e,I2,T,st2,f2,hw⟩=>?_)
 subst e
 refine comp_run (RR:=fun acc C=>compPost (model X.prog X.w) X.A X.xe none (EP X pins σ Q) acc C) hc S hg ht he I2 T st2 f2 hw fun s' H' ys m hn hD hC q I'=>?_
 refine ⟨m,hn,fun h' hs'=>?_⟩
 have nn:(upd H' s2.heap.objs.size (.lst ys)) (s2.heap.objs.size+1)=none:=by
  rw [upd_ne (Nat.ne_of_gt (Nat.lt_succ_self _))];exact hC
 obtain ⟨f0,f1,f2,f3,f4,f5⟩:=I2.fpOk (H':=upd H' s2.heap.objs.size (.lst ys)) (b:=s2.heap.objs.size+1) (Nat.le_succ _) nn
 exact ⟨.ref s2.heap.objs.size,_,I'.turned (t':=s'.toks) (it:=s2.heap.objs.size+1) (fun b o hb e=>hs'.extBut b o hb e) f0 f1 f3 f4 f5,rfl,q _ hD⟩
theorem ps_setComp {i:Nat}{y:Str}{tg iter elt:Expr}{ifs:List Expr}{pos spos py:Pos}{wi:TI}{g:TG}{tt:TT}{te:TE} (hN:X.N.Nodup) (hi':X.N[i]? = some y) (hy:X.env.scope.names.lookup y=some .local)
  (hc:X.calm=true) (S:BScope X.N X.env N' ix sc) (hi:PI X tg iter wi)
  (hg:∀ s H C fp,PG (bCx X N' sc s H C fp) tg g) (ht:∀ s H C fp,PIf (bCx X N' sc s H C fp) ifs tt) (he:∀ s H C fp,PE (bCx X N' sc s H C fp) elt te)
  (hsw:swapsWith (.ListComp elt [⟨tg,iter,ifs,0⟩] sc pos) (some (.Name y py)) spos.line X.env=pure true:=by rfl)
  (hs:∀ x,foldedSetIterable iter X.env x=pure x:=by intro _;rfl):PS X (.Assign [.Name y py] (.ListComp elt [⟨tg,iter,ifs,0⟩] sc pos) spos) (tAsg (tComp wi ix g tt te) (gName i)):=by
 intro pins s σ H D I h
 rw [exec_Assign_Name_used _ _ _ _ hsw]
 refine wpAny_bind (wpAny_standAt (wpAny_bind ?_))
 show wpAny _ X.A (do let _ ←comprehension (.ListComp elt [⟨tg,iter,ifs,0⟩] sc pos) sc X.env _ (newList []) false (eval iter X.env) (some (assign (.Name y py) X.env))) _ _ s
 refine wpAny_bind (wpAny_mono (wpAny_comprehension_free (use:=some (assign (.Name y py) X.env)) (Q:=fun _ s'=>SP X pins D .next s') rfl hs (S.clos I) S.kind S.names
  (thn (hi pins s σ H _ I h) fun v s1 h1=>thn h1 fun itv s2 ⟨it,fp,tn,J,H2,e,I2,T,st2,f2,hw⟩=>?_)) (fun _ s' hq=>wpAny_pure (wpAny_pure hq)) fun _ _ e=>e)
 subst e
 refine comp_run (RR:=fun acc C=>compPost (model X.prog X.w) X.A X.xe (some (assign (.Name y py) X.env)) (fun _ s'=>SP X pins D .next s') acc C) hc S hg ht he I2 T st2 f2 hw fun s' H' ys m hn hD hC q I'=>?_
 have nn:(upd H' s2.heap.objs.size (.lst ys)) (s2.heap.objs.size+1)=none:=by
  rw [upd_ne (Nat.ne_of_gt (Nat.lt_succ_self _))];exact hC
 obtain ⟨f0,f1,f2,f3,f4,f5⟩:=I2.fpOk (H':=upd H' s2.heap.objs.size (.lst ys)) (b:=s2.heap.objs.size+1) (Nat.le_succ _) nn
 show wpAny _ X.A (assign (.Name y py) X.env (.ref s2.heap.objs.size)) _ _ _
 refine wpAny_assign_Name (store_ok2 (v:=.ref s2.heap.objs.size) I' hN hi' (.inl hy) rfl (fun s'' I'' ⟨a,hsb,ha⟩=>?_) (.inr hy))
 have ne:s2.heap.objs.size+1≠a:=by
  rcases ha with rfl|ha
  ·exact f1
  ·exact fun z=>f4 y a ha z.symm
 refine ⟨m,hn.sameBut hsb ne,fun h' hs'=>?_⟩
 exact ⟨_,_,I''.turned (t':=s''.toks) (it:=s2.heap.objs.size+1) (fun b o hb e=>hs'.extBut b o hb e) f0 f1 f3 f4 f5,q _ hD⟩
end
end L2
namespace L2
open PySem
theorem isInt_self {prog:Program}{w:World} (i:Int) (t:Tok):(intKind prog w).is i (.int i t)=true:=by simp[intKind,Value.isInt]
noncomputable abbrev StdK:=Int
theorem pairs_any {p p':Program}{w w':World}{es:List DictEntry}{kvs:List (Int×Value)} (h:Pairs (intKind p w) es kvs):Pairs (intKind p' w') es kvs:=by
 induction h with
 | nil=>exact .nil
 | cons h1 h2 _ ih=>exact .cons h1 h2 ih
theorem dictOf_any {p p':Program}{w w':World}{h:Heap}{a:Addr}{kvs:List (Int×Value)} (x:h.DictOf (intKind p w) a kvs):h.DictOf (intKind p' w') a kvs:=by
 obtain ⟨o,es,ep,h1,h2,h3,h4,h5,h6⟩:=x
 exact ⟨o,es,ep,h1,h2,h3,h4,pairs_any h5,h6⟩
end L2
namespace L2
open PySem PySem.Spec PyProof.Rows
noncomputable def DctAt (a:Addr) (es:List (StdK×Addr×V)) (h:Heap):Prop :=
 es.length≤sizeLine∧(a==sysModules)=false∧∃ xs:List (StdK×Value),Paired (fun (p:StdK×Addr×V) (q:StdK×Value)=>p.1=q.1∧RelV p.2.2 q.2) es xs∧∀ prog w,h.DictOf (intKind prog w) a xs
theorem DctAt.keep {a:Addr}{es:List (StdK×Addr×V)}{h h':Heap} (x:DctAt a es h) (k:∀ o,h.get? a=some o→h'.get? a=some o):DctAt a es h':=by
 obtain ⟨a1,a2,xs,a3,a4⟩:=x
 refine ⟨a1,a2,xs,a3,fun p w=>?_⟩
 obtain ⟨o,es,ep,h1,h2⟩:=a4 p w
 exact ⟨o,es,ep,k _ h1,h2⟩
noncomputable abbrev stdD (k:StdK):PyData:=.int k
noncomputable abbrev dctD (kvs:List (StdK×PyData)):PyData:=.dict (kvs.map fun p=>(stdD p.1,p.2))
noncomputable abbrev fzD (ds:List PyData):PyData:=.dict [(.none,.list ds)]
end L2
namespace L2
open PySem PySem.Spec PyProof.Rows
noncomputable def ExcAt (e C:Addr) (dx:Option Addr) (h:Heap):Prop:=∃ vs sl,h.get? e=some { cls:=.ref C,dict:=dx,data:=.fields vs,slots:=sl }
noncomputable abbrev excD (C:Addr) (n:Int):PyData:=.dict [(.none,.tuple [.int (C:Nat),.int n])]
mutual
inductive DV (K:PySem.W.Frag) (H:Hp):V→PyData→Prop
 | non:DV K H .non .none
 | bl (b:Bool):DV K H (.bl b) (.bool b)
 | int (i:Int):DV K H (.int i) (.int i)
 | str (x:Str):DV K H (.str x) (.str x)
 | lst {a:Addr}{xs:List V}{ds:List PyData}:SqL K H a xs→DVs K H xs ds→DV K H (.ref a) (.list ds)
 | tup {a:Addr}{xs:List V}{ds:List PyData}:SqT K H a xs→DVs K H xs ds→DV K H (.ref a) (.tuple ds)
 | exc {a C dx:Addr}{n:Int}:H a=some (.ext (ExcAt a C (some dx)))→H dx=some (.xd [("day",.int n)])→DV K H (.ref a) (excD C n)
 | dct {a:Addr}{es:List (StdK×Addr×V)}{kvs:List (StdK×PyData)}:H a=some (.ext (DctAt a es))→DVs K H (es.map fun p=>V.int p.1) (kvs.map fun p=>stdD p.1)→DVs K H (es.map fun p=>p.2.2) (kvs.map fun p=>p.2)→es.map (fun p=>p.1)=kvs.map (fun p=>p.1)→DV K H (.ref a) (dctD kvs)
 | fz {v:V}{ds:List PyData}:DV K H v (.list ds)→DV K H v (fzD ds)
inductive DVs (K:PySem.W.Frag) (H:Hp):List V→List PyData→Prop
 | nil:DVs K H [] []
 | cons {x:V}{xs:List V}{d:PyData}{ds:List PyData}:DV K H x d→DVs K H xs ds→DVs K H (x::xs) (d::ds)
end
theorem DV.lstI {K:PySem.W.Frag}{H:Hp}{v:V}{ds:List PyData} (h:DV K H v (.list ds)):∃ a xs,v=.ref a∧SqL K H a xs∧DVs K H xs ds:=by
 cases h with
 | lst h q=>exact⟨_,_,rfl,h,q⟩
section
variable {X:Cx}{pins:List (Addr×Obj)}{σ:St}{H:Hp}{s:Shared}
mutual
theorem DV.reads (I:Inv X pins σ H s):∀ {x:V}{d:PyData}{u:Value},DV X.K H x d→RelV x u→d.canLay0=true→∃ as,Reads s.heap u d as
 | _,_,_,.non,r,_=>by cases (show _=Value.none from r);exact⟨_,.none⟩
 | _,_,_,.bl b,r,_=>by cases (show _=Value.bool b from r);exact⟨_,.bool b⟩
 | _,_,_,.int i,r,_=>by obtain⟨t,rfl⟩:=r;exact⟨_,.int i t⟩
 | _,_,_,.str x,r,_=>by obtain⟨t,rfl⟩:=r;exact⟨_,.str x t⟩
 | _,_,_,@DV.lst _ _ a xs ds h q,r,l=>by
  cases (show _=Value.ref a from r)
  obtain ⟨its,rv,⟨o,n,e,c,_,hd⟩,_⟩:=I.list h
  obtain ⟨as,ra⟩:=DVs.reads I q rv (by simpa only [PyData.canLay0] using l)
  exact ⟨_,.list e c hd (by simpa using ra)⟩
 | _,_,_,@DV.tup _ _ a xs ds h q,r,l=>by
  cases (show _=Value.ref a from r)
  obtain ⟨its,rv,⟨o,e,c,n,hd⟩,_⟩:=I.tuple h
  obtain ⟨as,ra⟩:=DVs.reads I q rv (by simpa only [PyData.canLay0] using l)
  exact ⟨_,.tuple e c hd (by simpa using ra)⟩
 | _,_,_,.exc _ _,_,l=>by simp[PyData.canLay0] at l
 | _,_,_,.dct _ _ _ _,_,l=>by simp[PyData.canLay0] at l
 | _,_,_,.fz _,_,l=>by simp[PyData.canLay0] at l
theorem DVs.reads (I:Inv X pins σ H s):∀ {xs:List V}{ds:List PyData}{us:List Value},DVs X.K H xs ds→Vals xs us→PyData.canLayAll0 ds=true→∃ as,ReadsAll s.heap us ds as
 | _,_,_,.nil,.nil,_=>⟨_,.nil⟩
 | _,_,_,.cons h q,.cons r t,l=>by
  simp only [PyData.canLayAll0,Bool.and_eq_true] at l
  obtain ⟨as,ra⟩:=DV.reads I h r l.1
  obtain ⟨bs,rb⟩:=DVs.reads I q t l.2
  exact ⟨_,.cons ra rb⟩
end
noncomputable abbrev shp (d:PyData):Prop:=SeqAt.shaped d=true
noncomputable def rEqD (K:PySem.W.Frag):R2:=fun x y H Q=>∃ d e,DV K H x d∧DV K H y e∧shp d∧shp e∧Q (.bl (PyData.eqv d e)) H
noncomputable def rNeD (K:PySem.W.Frag):R2:=fun x y H Q=>∃ d e,DV K H x d∧DV K H y e∧shp d∧shp e∧Q (.bl (!PyData.eqv d e)) H
theorem op_eqD (hu:X.A.units+64<cLine):OpR X (compareOp .Eq) (rEqD X.K):=by
 intro pins s σ H x y v u Q I r1 r2 h
 obtain ⟨d,e,h1,h2,s1,s2,q⟩:=h
 obtain ⟨as,ra⟩:=h1.reads I r1 (SeqAt.canLay_of_shaped s1)
 obtain ⟨bs,rb⟩:=h2.reads I r2 (SeqAt.canLay_of_shaped s2)
 exact eq_dataH ra rb s1 s2 hu ⟨.bl _,H,I,rfl,q⟩
theorem op_neD (hu:X.A.units+64<cLine):OpR X (compareOp .NotEq) (rNeD X.K):=by
 intro pins s σ H x y v u Q I r1 r2 h
 obtain ⟨d,e,h1,h2,s1,s2,q⟩:=h
 obtain ⟨as,ra⟩:=h1.reads I r1 (SeqAt.canLay_of_shaped s1)
 obtain ⟨bs,rb⟩:=h2.reads I r2 (SeqAt.canLay_of_shaped s2)
 exact ne_dataH ra rb s1 s2 hu ⟨.bl _,H,I,rfl,q⟩
theorem bools_are:∀ {bs:List Bool}{us:List Value},Vals (bs.map V.bl) us→LSm.BoolsAre us bs
 | [],_,.nil=>.nil
 | b::bs,_,.cons r t=>by
  cases (show _=Value.bool b from r)
  exact .cons b (bools_are t)
theorem call_all (hc:X.calm=true):CallR X (.builtin "all") (fun xs H Q=>∃ (a:Addr) (bs:List Bool),xs=[.ref a]∧SqL X.K H a (bs.map V.bl)∧Q (.bl (bs.all id)) H):=by
 intro pins s σ H xs us Q I r h
 obtain ⟨a,bs,rfl,hs,q⟩:=h
 obtain ⟨u,rfl,ru⟩:=vals1 r
 cases (show u=Value.ref a from ru)
 obtain ⟨its,rv,p,_⟩:=I.list hs
 have hb:=bools_are rv
 have hl:=p.isList
 have hlt:a<s.heap.objs.size:=by obtain⟨_,e,_⟩:=hl;exact Heap.lt_size e
 refine call_all_walk (wpAny_pyIter_list hl ?_)
 refine ⟨s.heap.objs.size,[s.heap.objs.size,a],[s.heap.objs.size],its.toArray.size,_,_,fun i=>(bs[i]?).getD true,rfl,Walks.list (A:=X.A.in1) (I.ok.hd hc) _ a (Nat.ne_of_lt hlt) its.toArray,
  ⟨⟨_,Heap.get?_push_size _ rfl,rfl,rfl⟩,hl.push _⟩,fun i v s' Q' E' hP hQ=>?_,fun h' tk hk=>?_⟩
 ·obtain ⟨b,e,rfl⟩:=hb.get i v (by simpa using hP)
  simp only [e,Option.getD_some] at hQ
  exact wpAny_truthy_bool hQ
 ·have e:((List.range its.toArray.size).all fun i=>(bs[i]?).getD true)=bs.all id:=by
   rw [List.size_toArray,hb.length]
   exact LSm.range_all bs
  rw [e]
  exact ⟨.bl _,H,I.kept (LSm.kept_iter hk),rfl,q⟩
end
end L2
namespace L2
open PySem PySem.Spec PyProof.Rows
noncomputable def SeqOf:Bool→Heap→Addr→Array Value→Prop
 | false,h,a,xs=>h.IsList a xs
 | true,h,a,xs=>h.IsTuple a xs
noncomputable def SeqIt:Bool→Heap→Addr→Addr→Nat→Prop
 | false,h,it,a,i=>h.IsListIter it a i
 | true,h,it,a,i=>h.IsTupleIter it a i
theorem SeqOf.at {b:Bool}{h h':Heap}{a:Addr}{xs:Array Value} (p:SeqOf b h a xs) (k:∀ o,h.get? a=some o→h'.get? a=some o):SeqOf b h' a xs:=by
 cases b with
 | false=>obtain⟨o,e,r⟩:=p;exact⟨o,k o e,r⟩
 | true=>obtain⟨o,e,r⟩:=p;exact⟨o,k o e,r⟩
theorem SeqIt.at {b:Bool}{h h':Heap}{it a:Addr}{i:Nat} (p:SeqIt b h it a i) (k:∀ o,h.get? it=some o→h'.get? it=some o):SeqIt b h' it a i:=by
 cases b with
 | false=>obtain⟨o,e,r⟩:=p;exact⟨o,k o e,r⟩
 | true=>obtain⟨o,e,r⟩:=p;exact⟨o,k o e,r⟩
theorem SeqOf.obj {b:Bool}{h:Heap}{a:Addr}{xs:Array Value} (p:SeqOf b h a xs):∃ o n,h.get? a=some o∧o.data=.seq xs n:=by
 cases b with
 | false=>obtain⟨o,e,_,n,d⟩:=p;exact⟨o,n,e,d⟩
 | true=>obtain⟨o,e,_,n,d⟩:=p;exact⟨o,n,e,d⟩
theorem SeqIt.obj {b:Bool}{h:Heap}{it a:Addr}{i:Nat} (p:SeqIt b h it a i):∃ o,h.get? it=some o∧o.data=.fields #[.ref a,.int i 0]:=by
 cases b with
 | false=>obtain⟨o,e,_,d⟩:=p;exact⟨o,e,d⟩
 | true=>obtain⟨o,e,_,d⟩:=p;exact⟨o,e,d⟩
section
variable {prog:Program}{w:World}{A:Around}{E:Value→Shared→Prop}{s:Shared}
theorem next_tup {it t:Addr}{i:Nat}{items:Array Value}{x:Value}{Q:Value→Shared→Prop} (hit:s.heap.IsTupleIter it t i) (ht:s.heap.IsTuple t items) (hx:items[i]? = some x)
  (hQ:∀ h',h'.IsTupleIter it t (i+1)→Heap.SameBut it s.heap h'→Q x { s with heap:=h' }):wpAny (model prog w) A (Builtin.SmallTypes.nextOf (.ref it)) Q E s:=by
 obtain ⟨o,ho,hc,hd⟩:=id hit
 obtain ⟨ol,hol,_,nl,hdl⟩:=ht
 unfold Builtin.SmallTypes.nextOf
 refine wpAny_bind (wpAny_callSpecial?_slot (name:=Str.ofString "__next__") hit.typeIs F.slot_tuple_iterator_next (wpAny_call_entry F.slot_tuple_iterator_next hit.typeIs F.entry_tuple_iterator_next ?_ (F.args_tuple_iterator_next_1 _)))
 show wpAny _ _ (field (.ref it) 0 >>= _) _ _ s
 refine wpAny_bind (wpAny_field ho hd (x:=.ref t) rfl ?_)
 show wpAny _ _ (if (Value.ref t==Value.none)=true then _ else _) _ _ s
 rw [if_neg (show ¬((Value.ref t==Value.none)=true) from Bool.false_ne_true)]
 show wpAny _ _ (field (.ref it) 1 >>= _) _ _ s
 refine wpAny_bind (wpAny_field ho hd (x:=.int i 0) rfl ?_)
 show wpAny _ _ (seqItems? (.ref t) >>= _) _ _ s
 refine wpAny_bind (wpAny_seqItems hol hdl ?_)
 simp only [Int.toNat_natCast,hx]
 refine wpAny_bind (wpAny_setField ho hd (by simp) (wpAny_pure ⟨x,rfl,wpAny_pure (hQ _ ?_ (Heap.SameBut.update ..))⟩))
 refine ⟨_,Heap.get?_update_self _ ho (Obj.isFreed_of_fields (Obj.data_mapFields hd _)),(Obj.cls_mapFields ..).trans hc,?_⟩
 rw [Obj.data_mapFields hd]
 simp [rawInt]
theorem next_tupEnd {it t:Addr}{i:Nat}{items:Array Value}{Q:Value→Shared→Prop} (hh:A.handled=none) (hit:s.heap.IsTupleIter it t i) (ht:s.heap.IsTuple t items) (hx:items[i]? = none)
  (hE:∀ h' e,Heap.ExtBut it s.heap h'→(∃ o,h'.get? e=some o∧o.cls=.type "StopIteration")→E (.ref e) { s with heap:=h' }):wpAny (model prog w) A (Builtin.SmallTypes.nextOf (.ref it)) Q E s:=by
 obtain ⟨o,ho,hc,hd⟩:=id hit
 obtain ⟨ol,hol,_,nl,hdl⟩:=ht
 unfold Builtin.SmallTypes.nextOf
 refine wpAny_bind (wpAny_callSpecial?_slot (name:=Str.ofString "__next__") hit.typeIs F.slot_tuple_iterator_next (wpAny_call_entry F.slot_tuple_iterator_next hit.typeIs F.entry_tuple_iterator_next ?_ (F.args_tuple_iterator_next_1 _)))
 show wpAny _ _ (field (.ref it) 0 >>= _) _ _ s
 refine wpAny_bind (wpAny_field ho hd (x:=.ref t) rfl ?_)
 show wpAny _ _ (if (Value.ref t==Value.none)=true then _ else _) _ _ s
 rw [if_neg (show ¬((Value.ref t==Value.none)=true) from Bool.false_ne_true)]
 show wpAny _ _ (field (.ref it) 1 >>= _) _ _ s
 refine wpAny_bind (wpAny_field ho hd (x:=.int i 0) rfl ?_)
 show wpAny _ _ (seqItems? (.ref t) >>= _) _ _ s
 refine wpAny_bind (wpAny_seqItems hol hdl ?_)
 simp only [Int.toNat_natCast,hx]
 refine wpAny_bind (wpAny_rule (wpAny_bind (wpAny_setField ho hd (by simp) ?_)))
 show wpAny _ _ (newExc (.type "StopIteration") [] >>= _) _ _ _
 refine wpAny_bind ?_
 simp only [newExc,newTuple]
 refine wpAny_bind (wpAny_newObj_type ?_ (by size_fits))
 refine wpAny_bind (m:=firstArgMember _ _) (wpAny_of_eq (a:=Value.none) (by first|rfl|(simp only [firstArgMember];rfl)) ?_)
 refine wpAny_newObj_type ?_ (by size_fits)
 simp only [raiseNew]
 refine wpAny_bind (wpAny_handled ?_)
 first|rw[show A.in1.handled=none from hh]|rw[hh]
 exact wpAny_bind (wpAny_pure (wpAny_throw (hE _ _ (((Heap.SameBut.update ..).extBut.push _).push _) ⟨_,Heap.get?_push_size _ rfl,rfl⟩)))
theorem next_seq {b:Bool}{it a:Addr}{i:Nat}{items:Array Value}{x:Value}{Q:Value→Shared→Prop} (hit:SeqIt b s.heap it a i) (ha:SeqOf b s.heap a items) (hx:items[i]? = some x)
  (hQ:∀ h',SeqIt b h' it a (i+1)→Heap.SameBut it s.heap h'→Q x { s with heap:=h' }):wpAny (model prog w) A (Builtin.SmallTypes.nextOf (.ref it)) Q E s:=by
 cases b with
 | false=>exact wpAny_nextOf_list_item hit ha hx hQ
 | true=>exact next_tup hit ha hx hQ
theorem next_seqEnd {b:Bool}{it a:Addr}{i:Nat}{items:Array Value}{Q:Value→Shared→Prop} (hh:A.handled=none) (hit:SeqIt b s.heap it a i) (ha:SeqOf b s.heap a items) (hx:items[i]? = none)
  (hE:∀ h' e,Heap.ExtBut it s.heap h'→(∃ o,h'.get? e=some o∧o.cls=.type "StopIteration")→E (.ref e) { s with heap:=h' }):wpAny (model prog w) A (Builtin.SmallTypes.nextOf (.ref it)) Q E s:=by
 cases b with
 | false=>exact wpAny_nextOf_list_end hh hit ha hx hE
 | true=>exact next_tupEnd hh hit ha hx hE
end
noncomputable def SqB (K:PySem.W.Frag) (H:Hp):Bool→Addr→List V→Prop
 | false,a,xs=>SqL K H a xs
 | true,a,xs=>SqT K H a xs
section
variable {X:Cx}{pins:List (Addr×Obj)}{σ:St}{H:Hp}{s:Shared}
theorem Inv.seq (I:Inv X pins σ H s) {b:Bool}{a:Addr}{xs:List V} (h:SqB X.K H b a xs):∃ its:List Value,Vals xs its∧SeqOf b s.heap a its.toArray:=by
 cases b with
 | false=>obtain⟨its,r,p,_⟩:=I.list h;exact⟨its,r,p.isList⟩
 | true=>obtain⟨its,r,p,_⟩:=I.tuple h;exact⟨its,r,p⟩
theorem Inv.seq_inj (I:Inv X pins σ H s) {b:Bool}{a:Addr}{xs ys:List V} (h:SqB X.K H b a xs) (h':SqB X.K H b a ys):xs=ys:=by
 cases b with
 | false=>exact I.list_inj h h'
 | true=>exact I.tuple_inj h h'
theorem Inv.turnedN {fp:List Addr}{h':Heap}{t':Nat} (I:Inv X pins σ H s) (hf:∀ b∈fp,FpOk X pins H b) (k:∀ b o,b ∉ fp→s.heap.get? b=some o→h'.get? b=some o):Inv X pins σ H { s with heap:=h',toks:=t' }:=by
 have nfp:∀ b u,H b=some u→b ∉ fp:=fun b u e z=>by rw[(hf b z).1] at e;cases e
 refine I.step (g':=s.gens) (d':=s.drawn) (ch:=fp) (fun b hb=>?_) (fun b o _ _ hc e _=>k b o hc e) (fun b o _ _ hc e _=>⟨o.slots,k b o hc e⟩) (fun _ _ _ _ n=>n) (fun b o hc e=>⟨o,k b o hc e⟩) (fun _ _ e=>e) (fun _ _ _ e=>e)
  (fun _ _ e=>e) (fun m hm=>?_) (fun b u e=>?_) I.bare
 ·obtain ⟨f0,f1,f2,f3,f4,f5⟩:=hf b hb
  exact ⟨f3,f1,f4,f5⟩
 ·obtain ⟨o,es,ep,ho,r⟩:=hm
  exact ⟨o,es,ep,k _ o (fun z=>(hf _ z).2.1 rfl) ho,r⟩
 ·refine (I.hok b u e).stay (fun c v hc q=>k c v ?_ q) (fun _ q=>q) fun _ _ _ q=>q
  rcases hc with z|z
  ·rw [z];exact nfp b u e
  ·exact nfp c _ z
theorem Inv.track {T:Addr}{o:HO} (I:Inv X pins σ H s) (hf:FpOk X pins H T) (new:ObjOk X.prog X.w (upd H T o) s.heap T o):Inv X pins σ (upd H T o) s:=by
 obtain ⟨f0,f1,f2,f3,f4,f5⟩:=hf
 have nT:∀ b u,H b=some u→b≠T:=fun b u e z=>by rw[z,f0] at e;cases e
 have q:=I.step (h':=s.heap) (H':=upd H T o) (g':=s.gens) (d':=s.drawn) (t':=s.toks) (ch:=[T]) (fun b hb=>by
   have e:b=T:=by simpa using hb
   rw [e];exact⟨f3,f1,f4,f5⟩) (fun b o _ _ _ e _=>e) (fun b o _ _ _ e _=>⟨o.slots,e⟩) (fun b o' hc _ n=>by rw[upd_ne (fun z=>hc (by simp[z]))];exact n) (fun b o' _ e=>⟨o',e⟩)
  (fun b xs e=>by rw[upd_ne (nT b _ e)];exact e) (fun b o' u e=>by rw[upd_ne (nT b _ e)];exact e) (fun b ps e=>by rw[upd_ne (nT b _ e)];exact e) (fun m hm=>hm) (fun b u e=>?_) I.bare
 ·exact q
 ·by_cases hb:b=T
  ·subst hb;rw[upd_same] at e;cases e;exact new
  ·rw [upd_ne hb] at e
   exact (I.hok b u e).stay (fun _ _ _ q=>q) (fun c q=>by rw[upd_ne (nT c _ q)];exact q) fun c xs _ q=>by rw[upd_ne (nT c _ q)];exact q
end
end L2
namespace L2
open PySem PySem.Spec PyProof.Rows
noncomputable abbrev itObj (b:Bool) (a:Addr):Obj:={ cls:=.type (if b then "tuple_iterator" else "list_iterator"),data:=.fields #[.ref a,.int 0 0] }
theorem itObj_at {b:Bool}{h:Heap}{it a:Addr} (e:h.get? it=some (itObj b a)):SeqIt b h it a 0:=by
 cases b with
 | false=>exact⟨_,e,rfl,rfl⟩
 | true=>exact⟨_,e,rfl,rfl⟩
theorem iter_seqE {prog:Program}{w:World}{A:Around}{E:Value→Shared→Prop}{s:Shared}{b:Bool}{a:Addr}{items:Array Value}{Q:Value→Shared→Prop} (ha:SeqOf b s.heap a items)
  (hQ:Q (.ref s.heap.objs.size) { s with heap:=s.heap.push (itObj b a) }):wpAny (model prog w) A (pyIter (.ref a)) Q E s:=by
 cases b with
 | false=>exact wpAny_pyIter_list ha hQ
 | true=>exact wpAny_pyIter_tuple ha hQ
section
variable {prog:Program}{w:World}{A:Around}{E:Value→Shared→Prop}{s:Shared}
end
section
variable {X:Cx}
end
noncomputable abbrev zH1 (h:Heap) (b:Bool) (l1:Addr):Heap:=h.push (itObj b l1)
noncomputable abbrev zH2 (h:Heap) (b c:Bool) (l1 l2:Addr):Heap:=(zH1 h b l1).push (itObj c l2)
noncomputable abbrev zH3 (h:Heap) (b c:Bool) (l1 l2:Addr):Heap:=(zH2 h b c l1 l2).push { cls:=.type "tuple",data:=.seq #[.ref h.objs.size,.ref (zH1 h b l1).objs.size] }
noncomputable abbrev zH4 (h:Heap) (b c:Bool) (l1 l2:Addr):Heap:=(zH3 h b c l1 l2).push { cls:=.type "tuple",data:=.seq #[.none,.none] }
noncomputable abbrev zH5 (h:Heap) (b c:Bool) (l1 l2:Addr):Heap:=(zH4 h b c l1 l2).push { cls:=.type "zip",data:=.fields #[.none,.bool false,.bool false,.ref (zH2 h b c l1 l2).objs.size,.ref (zH3 h b c l1 l2).objs.size] }
theorem zip_newB (b c:Bool) (l1 l2:Addr) (xs ys:Array Value) :
  Meets (Builtin.«zip.__new__» ⟨[.type "zip",.ref l1,.ref l2],[]⟩) (fun _ R s=>SeqOf b s.heap l1 xs∧SeqOf c s.heap l2 ys∧R (.ok (.ret (.ref (zH4 s.heap b c l1 l2).objs.size))) { s with heap:=zH5 s.heap b c l1 l2 }) :=
 .of_wp fun prog w A R s h=>by
  obtain ⟨hp,g,d,tk,os⟩:=s
  obtain ⟨hl1,hl2,h⟩:=h
  have hsub:=sub_zip
  have hL1:SeqOf b (Shared.heap ⟨hp,g,d,tk,os⟩) l1 xs:=hl1
  have hL2:SeqOf c (Shared.heap ⟨hp.push (itObj b l1),g,d,tk,os⟩) l2 ys:=SeqOf.at hl2 fun o e=>Heap.get?_push_of_some _ e
  wp_walk using iter_seqE hL1,iter_seqE hL2
  exact ⟨_,rfl,h⟩
section
variable {prog:Program}{w:World}{A:Around}{E:Value→Shared→Prop}{s:Shared}
theorem zip_call {b c:Bool}{l1 l2:Addr}{xs ys:Array Value}{Q:Value→Shared→Prop} (hl1:SeqOf b s.heap l1 xs) (hl2:SeqOf c s.heap l2 ys)
  (h : ∀ h',IsZip h' (s.heap.objs.size+4) (s.heap.objs.size+2) (s.heap.objs.size+3) .none→IsPair h' (s.heap.objs.size+2) (.ref s.heap.objs.size) (.ref (s.heap.objs.size+1))→IsPair h' (s.heap.objs.size+3) .none .none →
   SeqIt b h' s.heap.objs.size l1 0→SeqIt c h' (s.heap.objs.size+1) l2 0→(∀ c o,s.heap.get? c=some o→h'.get? c=some o)→Q (.ref (s.heap.objs.size+4)) { s with heap:=h' }) :
  wpAny (model prog w) A (call (.type "zip") [.ref l1,.ref l2]) Q E s:=by
 refine callType_new F.called_zip (by decide) (F.typeCall_zip_2 _ _) (F.newCall_zip_2 _ _) (fun obj=>F.args_object_init_3 obj _ _) F.entry_zip_new (zip_newB b c l1 l2 xs ys) ⟨hl1,hl2,?_⟩
 have z1:(zH1 s.heap b l1).objs.size=s.heap.objs.size+1:=Heap.size_push ..
 have z2:(zH2 s.heap b c l1 l2).objs.size=s.heap.objs.size+2:=by rw[Heap.size_push,z1]
 have z3:(zH3 s.heap b c l1 l2).objs.size=s.heap.objs.size+3:=by rw[Heap.size_push,z2]
 have z4:(zH4 s.heap b c l1 l2).objs.size=s.heap.objs.size+4:=by rw[Heap.size_push,z3]
 have g5:(zH5 s.heap b c l1 l2).get? (zH4 s.heap b c l1 l2).objs.size=some _:=Heap.get?_push_size _ rfl
 have g4:(zH5 s.heap b c l1 l2).get? (zH3 s.heap b c l1 l2).objs.size=some _:=Heap.get?_push_of_some _ (Heap.get?_push_size _ rfl)
 have g3:(zH5 s.heap b c l1 l2).get? (zH2 s.heap b c l1 l2).objs.size=some _:=Heap.get?_push_of_some _ (Heap.get?_push_of_some _ (Heap.get?_push_size _ rfl))
 have g2:(zH5 s.heap b c l1 l2).get? (zH1 s.heap b l1).objs.size=some _:=Heap.get?_push_of_some _ (Heap.get?_push_of_some _ (Heap.get?_push_of_some _ (Heap.get?_push_size _ rfl)))
 have g1:(zH5 s.heap b c l1 l2).get? s.heap.objs.size=some _:=Heap.get?_push_of_some _ (Heap.get?_push_of_some _ (Heap.get?_push_of_some _ (Heap.get?_push_of_some _ (Heap.get?_push_size _ rfl))))
 show _∧_
 rw [z2,z3,z4] at g5
 rw [z1,z2] at g3
 rw [z3] at g4
 rw [z1] at g2
 rw [z4]
 exact ⟨⟨_,g5,rfl⟩,h _ g5 g3 g4 (itObj_at g1) (itObj_at g2) fun c o x=>Heap.get?_push_of_some _ (Heap.get?_push_of_some _ (Heap.get?_push_of_some _ (Heap.get?_push_of_some _ (Heap.get?_push_of_some _ x))))⟩
noncomputable abbrev ZKeep (z TO i1 i2:Addr) (h h':Heap):Prop:=∀ c o,c≠z→c≠TO→c≠i1→c≠i2→h.get? c=some o→h'.get? c=some o
theorem zip_item {b c:Bool}{z TI TO i1 i2 l1 l2:Addr}{k:Nat}{xs ys:Array Value}{x y p q:Value}{Q:Option Value→Shared→Prop} (D:ZipApart z TI TO i1 i2 l1 l2)
  (hz:IsZip s.heap z TI TO .none) (hTI:IsPair s.heap TI (.ref i1) (.ref i2)) (hTO:IsPair s.heap TO p q) (h1:SeqIt b s.heap i1 l1 k) (h2:SeqIt c s.heap i2 l2 k) (hl1:SeqOf b s.heap l1 xs) (hl2:SeqOf c s.heap l2 ys) (hx:xs[k]? = some x) (hy:ys[k]? = some y)
  (hQ:∀ h',IsZip h' z TI TO (rawInt s.heap.objs.size)→IsPair h' TO x y→SeqIt b h' i1 l1 (k+1)→SeqIt c h' i2 l2 (k+1)→IsPair h' s.heap.objs.size x y→ZKeep z TO i1 i2 s.heap h'→Q (some (.ref s.heap.objs.size)) { s with heap:=h' }) :
  wpAny (model prog w) A (pyNext (.ref z)) Q E s:=by
 have hT:s.TypeIs (.ref z) "zip" := ⟨_,hz,rfl⟩
 unfold pyNext
 refine wpAny_bind (wpAny_attempt (wpAny_callSpecial?_slot (name:=Str.ofString "__next__") hT F.slot_zip_next (wpAny_call_entry F.slot_zip_next hT F.entry_zip_next ?_ (F.args_zip_next_1 _))))
 show wpAny _ _ (field (.ref z) 2 >>= _) _ _ _
 refine wpAny_bind (wpAny_field hz rfl (x:=.bool false) rfl ?_)
 show wpAny _ _ (field (.ref z) 3 >>= _) _ _ _
 refine wpAny_bind (wpAny_field hz rfl (x:=.ref TI) rfl (wpAny_bind (wpAny_seqItems hTI rfl ?_)))
 show wpAny _ _ (Builtin.SmallTypes.ownedTupleIsFree (.ref z) >>= _) _ _ _
 refine wpAny_bind ?_
 unfold Builtin.SmallTypes.ownedTupleIsFree
 refine wpAny_bind (wpAny_field hz rfl (x:=.none) rfl (wpAny_pure ?_))
 simp only [if_true]
 refine wpAny_bind (wpAny_rule (wpAny_bind (wpAny_field hz rfl (x:=.ref TO) rfl (wpAny_bind (wpAny_setField_rec hz (by simp) fun ha hza sa=>?_)))))
 replace hza:IsZip ha z TI TO .ellipsis:=hza
 refine wpAny_bind ?_
 simp only [List.zipIdx_cons,List.zipIdx_nil,List.forIn_cons,List.forIn_nil]
 refine wpAny_bind (wpAny_bind (wpAny_onRaise ?_))
 show wpAny _ _ (Builtin.SmallTypes.nextOf (.ref i1) >>= _) _ _ _
 refine wpAny_bind (next_seq (h1.at fun o e=>sa.extBut _ o D.i1z e) (hl1.at fun o e=>sa.extBut _ o D.l1z e) hx fun hb h1b sb=>wpAny_pure ?_)
 have tb:IsPair hb TO p q:=sb.extBut _ _ D.TOi1 (sa.extBut _ _ D.TOz hTO)
 refine wpAny_bind (wpAny_seqItems tb rfl (wpAny_bind (wpAny_updateSeq_pair tb fun hc tc sc=>?_)))
 replace tc:IsPair hc TO x q:=tc
 refine wpAny_bind (wpAny_letGo (wpAny_pure ?_))
 refine wpAny_bind (wpAny_bind (wpAny_onRaise ?_))
 show wpAny _ _ (Builtin.SmallTypes.nextOf (.ref i2) >>= _) _ _ _
 refine wpAny_bind (next_seq (h2.at fun o e=>sc.extBut _ o D.TOi2.symm (sb.extBut _ o D.i12.symm (sa.extBut _ o D.i2z e))) (hl2.at fun o e=>sc.extBut _ o D.l2TO (sb.extBut _ o D.l2i1 (sa.extBut _ o D.l2z e))) hy fun hd h2d sd=>wpAny_pure ?_)
 have td:IsPair hd TO x q:=sd.extBut _ _ D.TOi2 tc
 refine wpAny_bind (wpAny_seqItems td rfl (wpAny_bind (wpAny_updateSeq_pair td fun he te se=>?_)))
 replace te:IsPair he TO x y:=te
 refine wpAny_bind (wpAny_letGo (wpAny_pure (wpAny_pure ?_)))
 refine wpAny_bind (wpAny_seqItems te rfl (wpAny_bind (wpAny_newTuple ?_)))
 have sz:he.objs.size=s.heap.objs.size:=by rw[se.1,sd.1,sc.1,sb.1,sa.1]
 have ze:IsZip he z TI TO .ellipsis:=se.extBut _ _ D.TOz.symm (sd.extBut _ _ D.i2z.symm (sc.extBut _ _ D.TOz.symm (sb.extBut _ _ D.i1z.symm hza)))
 have ke:ZKeep z TO i1 i2 s.heap he:=fun c o c1 c2 c3 c4 e=>se.extBut _ _ c2 (sd.extBut _ _ c4 (sc.extBut _ _ c2 (sb.extBut _ _ c3 (sa.extBut _ _ c1 e))))
 have h1e:SeqIt b he i1 l1 (k+1):=h1b.at fun o e=>se.extBut _ o D.TOi1.symm (sd.extBut _ o D.i12 (sc.extBut _ o D.TOi1.symm e))
 have h2e:SeqIt c he i2 l2 (k+1):=h2d.at fun o e=>se.extBut _ o D.TOi2.symm e
 have zlt:z<he.objs.size:=Heap.lt_size ze
 show wpAny _ _ (Builtin.SmallTypes.ownedTupleHandOut (.ref z) (.ref he.objs.size) >>= _) _ _ _
 refine wpAny_bind ?_
 unfold Builtin.SmallTypes.ownedTupleHandOut
 have zf:IsZip (he.push { cls:=.type "tuple",data:=.seq #[x,y] }) z TI TO .ellipsis:=Heap.get?_push_of_some _ ze
 refine wpAny_bind (wpAny_setField_rec zf (by simp) fun hg zg sg=>?_)
 replace zg:IsZip hg z TI TO (rawInt he.objs.size):=zg
 refine wpAny_setField_rec zg (by simp) fun hh zh sh=>?_
 replace zh:IsZip hh z TI TO (rawInt he.objs.size):=zh
 have up:∀ c o,c≠z→he.get? c=some o→hh.get? c=some o:=fun c o c1 e=>sh.extBut _ _ c1 (sg.extBut _ _ c1 (Heap.get?_push_of_some _ e))
 have th:IsPair hh he.objs.size x y:=sh.extBut _ _ (Nat.ne_of_gt zlt) (sg.extBut _ _ (Nat.ne_of_gt zlt) (Heap.get?_push_size _ rfl))
 rw [sz] at zh th
 refine wpAny_pure ⟨_,rfl,wpAny_pure ?_⟩
 show Q (some (.ref he.objs.size)) _
 rw [sz]
 exact hQ hh zh (up _ _ D.TOz te) (h1e.at fun o e=>up _ o D.i1z e) (h2e.at fun o e=>up _ o D.i2z e) th fun c o c1 c2 c3 c4 e=>up c o c1 (ke c o c1 c2 c3 c4 e)
theorem zip_end {b c:Bool}{z TI TO i1 i2 l1 l2:Addr}{k:Nat}{xs ys:Array Value}{p q:Value}{Q:Option Value→Shared→Prop} (hh:A.handled=none) (D:ZipApart z TI TO i1 i2 l1 l2)
  (hz:IsZip s.heap z TI TO .none) (hTI:IsPair s.heap TI (.ref i1) (.ref i2)) (hTO:IsPair s.heap TO p q) (h1:SeqIt b s.heap i1 l1 k) (h2:SeqIt c s.heap i2 l2 k) (hl1:SeqOf b s.heap l1 xs) (hl2:SeqOf c s.heap l2 ys) (hend:xs[k]? = none∨ys[k]? = none)
  (hQ:∀ h',ZKeep z TO i1 i2 s.heap h'→Q none { s with heap:=h' }):wpAny (model prog w) A (pyNext (.ref z)) Q E s:=by
 have hT:s.TypeIs (.ref z) "zip" := ⟨_,hz,rfl⟩
 unfold pyNext
 refine wpAny_bind (wpAny_attempt (wpAny_callSpecial?_slot (name:=Str.ofString "__next__") hT F.slot_zip_next (wpAny_call_entry F.slot_zip_next hT F.entry_zip_next ?_ (F.args_zip_next_1 _))))
 show wpAny _ _ (field (.ref z) 2 >>= _) _ _ _
 refine wpAny_bind (wpAny_field hz rfl (x:=.bool false) rfl ?_)
 show wpAny _ _ (field (.ref z) 3 >>= _) _ _ _
 refine wpAny_bind (wpAny_field hz rfl (x:=.ref TI) rfl (wpAny_bind (wpAny_seqItems hTI rfl ?_)))
 show wpAny _ _ (Builtin.SmallTypes.ownedTupleIsFree (.ref z) >>= _) _ _ _
 refine wpAny_bind ?_
 unfold Builtin.SmallTypes.ownedTupleIsFree
 refine wpAny_bind (wpAny_field hz rfl (x:=.none) rfl (wpAny_pure ?_))
 simp only [if_true]
 refine wpAny_bind (wpAny_rule (wpAny_bind (wpAny_field hz rfl (x:=.ref TO) rfl (wpAny_bind (wpAny_setField_rec hz (by simp) fun ha hza sa=>?_)))))
 replace hza:IsZip ha z TI TO .ellipsis:=hza
 refine wpAny_bind ?_
 simp only [List.zipIdx_cons,List.zipIdx_nil,List.forIn_cons,List.forIn_nil]
 refine wpAny_bind (wpAny_bind (wpAny_onRaise ?_))
 show wpAny _ _ (Builtin.SmallTypes.nextOf (.ref i1) >>= _) _ _ _
 cases hx:xs[k]? with
 | none =>
  refine wpAny_bind (next_seqEnd hh (h1.at fun o e=>sa.extBut _ o D.i1z e) (hl1.at fun o e=>sa.extBut _ o D.l1z e) hx fun hb e sb ⟨oe,hoe,hce⟩=>?_)
  have zb:IsZip hb z TI TO .ellipsis:=sb _ _ D.i1z.symm hza
  have ez:e≠z:=fun w'=>by subst w';rw[zb] at hoe;cases hoe;simp at hce
  exact wpAny_setField_rec zb (by simp) fun hc _ sc=>wpAny_bind (wpAny_isInstance (T := "StopIteration") (b:=true) ⟨oe,sc.extBut _ _ ez hoe,hce⟩ isSubtype_stop (wpAny_pure (hQ hc fun c o c1 _ c3 _ x=>sc.extBut _ _ c1 (sb _ _ c3 (sa.extBut _ _ c1 x)))))
 | some x =>
  have hy:ys[k]? = none:=by
   rcases hend with h|h
   ·rw [hx] at h;cases h
   ·exact h
  refine wpAny_bind (next_seq (h1.at fun o e=>sa.extBut _ o D.i1z e) (hl1.at fun o e=>sa.extBut _ o D.l1z e) hx fun hb h1b sb=>wpAny_pure ?_)
  have tb:IsPair hb TO p q:=sb.extBut _ _ D.TOi1 (sa.extBut _ _ D.TOz hTO)
  refine wpAny_bind (wpAny_seqItems tb rfl (wpAny_bind (wpAny_updateSeq_pair tb fun hc tc sc=>?_)))
  refine wpAny_bind (wpAny_letGo (wpAny_pure ?_))
  refine wpAny_bind (wpAny_bind (wpAny_onRaise ?_))
  show wpAny _ _ (Builtin.SmallTypes.nextOf (.ref i2) >>= _) _ _ _
  refine wpAny_bind (next_seqEnd hh (h2.at fun o e=>sc.extBut _ o D.TOi2.symm (sb.extBut _ o D.i12.symm (sa.extBut _ o D.i2z e))) (hl2.at fun o e=>sc.extBut _ o D.l2TO (sb.extBut _ o D.l2i1 (sa.extBut _ o D.l2z e))) hy fun hd e sd ⟨oe,hoe,hce⟩=>?_)
  have zd:IsZip hd z TI TO .ellipsis:=sd _ _ D.i2z.symm (sc.extBut _ _ D.TOz.symm (sb.extBut _ _ D.i1z.symm hza))
  have ez:e≠z:=fun w'=>by subst w';rw[zd] at hoe;cases hoe;simp at hce
  exact wpAny_setField_rec zd (by simp) fun he _ se=>wpAny_bind (wpAny_isInstance (T := "StopIteration") (b:=true) ⟨oe,se.extBut _ _ ez hoe,hce⟩ isSubtype_stop (wpAny_pure (hQ he fun c o c1 c2 c3 c4 x=>se.extBut _ _ c1 (sd _ _ c4 (sc.extBut _ _ c2 (sb.extBut _ _ c3 (sa.extBut _ _ c1 x)))))))
end
end L2
namespace L2
open PySem PySem.Spec PyProof.Rows
theorem sq_ne_fp {X:Cx}{pins:List (Addr×Obj)}{σ:St}{H:Hp}{s:Shared}{b:Bool}{a c:Addr}{xs:List V} (I:Inv X pins σ H s) (h:SqB X.K H b a xs) (f:FpOk X pins H c):a≠c:=by
 obtain ⟨f0,f1,f2,f3,f4,f5⟩:=f
 have key:(∃ o,H a=some o)∨∃ o,X.K.lookup a=some o:=by
  cases b with
  | false =>
   rcases h with (h|⟨o,h⟩)|⟨o,_,_,hk,_⟩
   ·exact .inl ⟨_,h⟩
   ·exact .inl ⟨_,h⟩
   ·exact .inr ⟨o,hk⟩
  | true =>
   rcases h with (h|⟨o,h⟩)|⟨o,_,_,hk,_⟩
   ·exact .inl ⟨_,h⟩
   ·exact .inl ⟨_,h⟩
   ·exact .inr ⟨o,hk⟩
 rintro rfl
 rcases key with ⟨o,e⟩|⟨o,e⟩
 ·rw [f0] at e;cases e
 ·have q:=I.ok.mod.kin a o e
  rcases f3 with f3|f3
  ·exact I.ok.noex a o q f3
  ·exact absurd (Nat.lt_of_lt_of_le (Heap.lt_size q) (Nat.le_trans I.ok.bsz f3)) (Nat.lt_irrefl _)
noncomputable def Itz (K:PySem.W.Frag) (b c:Bool) (l1 l2:Addr):It :=
  ⟨fun i H=>∃ xs ys x y,SqB K H b l1 xs∧SqB K H c l2 ys∧xs[i]? = some x∧ys[i]? = some y,
   fun i H v H'=>∃ p x y,v=.ref p∧H p=none∧H'=upd H p (.tup [x,y])∧(∀ xs,SqB K H b l1 xs→xs[i]? = some x)∧∀ ys,SqB K H c l2 ys→ys[i]? = some y,
   fun i H=>∃ xs ys,SqB K H b l1 xs∧SqB K H c l2 ys∧(xs.length≤i∨ys.length≤i)⟩
structure ZAp (z TI TO i1 i2:Addr):Prop where
 TIz:TI≠z
 TOz:TO≠z
 i1z:i1≠z
 i2z:i2≠z
 TITO:TI≠TO
 TIi1:TI≠i1
 TIi2:TI≠i2
 TOi1:TO≠i1
 TOi2:TO≠i2
 i12:i1≠i2
theorem turn_zip {P:Program}{w:World}{K:PySem.W.Frag}{es:List Expr}{kk:Nat}{pos:Pos} (b c:Bool) (z TI TO i1 i2 l1 l2:Addr) (ap:ZAp z TI TO i1 i2) :
  Turn P w K (.Tuple es kk pos) (Itz K b c l1 l2) [z,TI,TO,i1,i2] z
   (fun i h=>IsZip h z TI TO .none∧IsPair h TI (.ref i1) (.ref i2)∧(∃ p q,IsPair h TO p q)∧SeqIt b h i1 l1 i∧SeqIt c h i2 l2 i) where
 mem:=by simp
 obj := fun i h st d hd=>by
  obtain ⟨hz,hTI,⟨p,q,hTO⟩,h1,h2⟩:=st
  obtain ⟨o1,e1,d1⟩:=h1.obj
  obtain ⟨o2,e2,d2⟩:=h2.obj
  simp only [List.mem_cons,List.not_mem_nil,or_false] at hd
  rcases hd with rfl|rfl|rfl|rfl|rfl
  ·exact ⟨_,hz,fun v e=>by
    have e':Data.fields _=Data.cell v:=e
    cases e'⟩
  ·exact ⟨_,hTI,fun v e=>by
    have e':Data.seq _ _=Data.cell v:=e
    cases e'⟩
  ·exact ⟨_,hTO,fun v e=>by
    have e':Data.seq _ _=Data.cell v:=e
    cases e'⟩
  ·exact ⟨o1,e1,fun v e=>by rw[d1] at e;cases e⟩
  ·exact ⟨o2,e2,fun v e=>by rw[d2] at e;cases e⟩
 keep:=fun i h h' st k=>by
  obtain ⟨hz,hTI,⟨p,q,hTO⟩,h1,h2⟩:=st
  exact ⟨k z (by simp) _ hz,k TI (by simp) _ hTI,⟨p,q,k TO (by simp) _ hTO⟩,h1.at fun o e=>k i1 (by simp) o e,h2.at fun o e=>k i2 (by simp) o e⟩
 item := by
  intro X hP hw hK hc i pins s σ H E I hf st hg
  subst hP hw hK
  obtain ⟨xs,ys,x,y,hq1,hq2,hx,hy⟩:=hg
  obtain ⟨hz,hTI,⟨p,q,hTO⟩,h1,h2⟩:=st
  obtain ⟨its1,rv1,ha1⟩:=I.seq hq1
  obtain ⟨its2,rv2,ha2⟩:=I.seq hq2
  obtain ⟨u,hu,ru⟩:=rv1.get hx
  obtain ⟨v,hv,rv⟩:=rv2.get hy
  have D:ZipApart z TI TO i1 i2 l1 l2:=⟨ap.TIz,ap.TOz,ap.i1z,ap.i2z,ap.TITO,ap.TIi1,ap.TIi2,ap.TOi1,ap.TOi2,ap.i12,
   sq_ne_fp I hq1 (hf z (by simp)),sq_ne_fp I hq1 (hf TO (by simp)),sq_ne_fp I hq1 (hf i1 (by simp)),sq_ne_fp I hq1 (hf i2 (by simp)),sq_ne_fp I hq2 (hf z (by simp)),sq_ne_fp I hq2 (hf TO (by simp)),sq_ne_fp I hq2 (hf i1 (by simp)),sq_ne_fp I hq2 (hf i2 (by simp))⟩
  refine zip_item D hz hTI hTO h1 h2 ha1 ha2 (x:=u) (y:=v) (by simpa using hu) (by simpa using hv) fun h' a1 a2 a3 a4 a5 hk=>⟨_,rfl,wpAny_letOwnedTupleGo_zip a1 fun h2' hz2 hs2=>?_⟩
  have zlt:z<s.heap.objs.size:=Heap.lt_size hz
  have I2:Inv X pins σ H { s with heap:=h2' }:=I.turnedN (t':=s.toks) hf fun d o hd e=>hs2.extBut d o (fun w'=>hd (by simp[w'])) (hk d o (fun w'=>hd (by simp[w'])) (fun w'=>hd (by simp[w'])) (fun w'=>hd (by simp[w'])) (fun w'=>hd (by simp[w'])) e)
  have g2:h2'.get? s.heap.objs.size=some { cls:=.type "tuple",data:=.seq #[u,v] }:=hs2.extBut _ _ (Nat.ne_of_gt zlt) a5
  have hn:H s.heap.objs.size=none:=I.hok.fresh (Nat.le_refl _)
  refine ⟨.ref s.heap.objs.size,upd H s.heap.objs.size (.tup [x,y]),I2.track (T:=s.heap.objs.size) (o:=.tup [x,y]) (I.fpOk (Nat.le_refl _) hn) ?_,rfl,?_,⟨hz2,?_,⟨u,v,?_⟩,?_,?_⟩,fun d hd=>?_⟩
  ·exact ⟨by show 2≤sizeLine;decide,[u,v],.cons ru (.cons rv .nil),_,g2,rfl,_,rfl⟩
  ·exact ⟨_,x,y,rfl,hn,rfl,fun zs hy'=>by rw[I.seq_inj hy' hq1];exact hx,fun zs hy'=>by rw[I.seq_inj hy' hq2];exact hy⟩
  ·exact hs2.extBut _ _ ap.TIz (hk _ _ ap.TIz ap.TITO ap.TIi1 ap.TIi2 hTI)
  ·exact hs2.extBut _ _ ap.TOz a2
  ·exact a3.at fun o e=>hs2.extBut _ o ap.i1z e
  ·exact a4.at fun o e=>hs2.extBut _ o ap.i2z e
  ·have hlt:d<s.heap.objs.size:=by
    obtain ⟨o1,e1,_⟩:=h1.obj
    obtain ⟨o2,e2,_⟩:=h2.obj
    simp only [List.mem_cons,List.not_mem_nil,or_false] at hd
    rcases hd with rfl|rfl|rfl|rfl|rfl
    ·exact zlt
    ·exact Heap.lt_size hTI
    ·exact Heap.lt_size hTO
    ·exact Heap.lt_size e1
    ·exact Heap.lt_size e2
   rw [upd_ne (Nat.ne_of_lt hlt)]
   exact (hf d hd).1
 done:=by
  intro X hP hw hK hc i pins s σ H E I hf st hg
  subst hP hw hK
  obtain ⟨xs,ys,hq1,hq2,hend⟩:=hg
  obtain ⟨hz,hTI,⟨p,q,hTO⟩,h1,h2⟩:=st
  obtain ⟨its1,rv1,ha1⟩:=I.seq hq1
  obtain ⟨its2,rv2,ha2⟩:=I.seq hq2
  have D:ZipApart z TI TO i1 i2 l1 l2:=⟨ap.TIz,ap.TOz,ap.i1z,ap.i2z,ap.TITO,ap.TIi1,ap.TIi2,ap.TOi1,ap.TOi2,ap.i12,
   sq_ne_fp I hq1 (hf z (by simp)),sq_ne_fp I hq1 (hf TO (by simp)),sq_ne_fp I hq1 (hf i1 (by simp)),sq_ne_fp I hq1 (hf i2 (by simp)),sq_ne_fp I hq2 (hf z (by simp)),sq_ne_fp I hq2 (hf TO (by simp)),sq_ne_fp I hq2 (hf i1 (by simp)),sq_ne_fp I hq2 (hf i2 (by simp))⟩
  have l1':=rv1.length
  have l2':=rv2.length
  have hend':its1.toArray[i]? = none∨its2.toArray[i]? = none:=by
   rcases hend with h|h
   ·exact .inl (by simp;omega)
   ·exact .inr (by simp;omega)
  refine zip_end (I.ok.hd hc) D hz hTI hTO h1 h2 ha1 ha2 hend' fun h' hk=>⟨rfl,?_⟩
  exact I.turnedN (t':=s.toks) hf fun d o hd e=>hk d o (fun w'=>hd (by simp[w'])) (fun w'=>hd (by simp[w'])) (fun w'=>hd (by simp[w'])) (fun w'=>hd (by simp[w'])) e
 self:=fun A i s Q E st h=>wpAny_pyIter_zip st.1 h
section
variable {X:Cx}
noncomputable def iZip (K:PySem.W.Frag) (b c:Bool) (ta:TA):TI:=fun σ H R=>ta σ H fun vs H1=>∃ l1 l2 xs ys,vs=[.ref l1,.ref l2]∧SqB K H1 b l1 xs∧SqB K H1 c l2 ys∧R (Itz K b c l1 l2) H1
theorem pi_zip (b c:Bool) {es:List Expr}{kk:Nat}{tpos:Pos}{e1 e2:Expr}{ta:TA}{p pos:Pos} (hg:Gl X "zip") (hm:X.mg "zip" = none) (hbt:bootBuiltins "zip" = some (.type "zip")) (ha:PA X [e1,e2] ta)
  (hs:starEach [e1,e2] X.env=[(false,eval e1 X.env),(false,eval e2 X.env)]:=by rfl) (hs2:starEach [e2] X.env=[(false,eval e2 X.env)]:=by rfl) :
  PI X (.Tuple es kk tpos) (.Call (.Name "zip" p) [e1,e2] [] pos) (iZip X.K b c ta):=by
 intro pins s σ H R I h
 refine Call_ (ld_blt I hg hm hbt (PyProof.Rows.callWith_type1 (thn (ha pos pins s σ H _ I h) fun us s1 ⟨vs,H1,I1,r1,q1⟩=>?_) (by rw[hs,hs2]) (by rw[hs2];rfl)))
 obtain ⟨l1,l2,xs,ys,rfl,hq1,hq2,q⟩:=q1
 obtain ⟨u,v,rfl,ru,rv⟩:=vals2 r1
 cases (show u=Value.ref l1 from ru)
 cases (show v=Value.ref l2 from rv)
 obtain ⟨its1,rv1,ha1⟩:=I1.seq hq1
 obtain ⟨its2,rv2,ha2⟩:=I1.seq hq2
 refine zip_call ha1 ha2 fun h' hz hTI hTO h1 h2 hk=>wpAny_pyIter_zip hz ?_
 have I2:Inv X pins σ H1 { s1 with heap:=h' }:=I1.kept (t':=s1.toks) hk
 have ap:ZAp (s1.heap.objs.size+4) (s1.heap.objs.size+2) (s1.heap.objs.size+3) s1.heap.objs.size (s1.heap.objs.size+1):=by
  refine ⟨?_,?_,?_,?_,?_,?_,?_,?_,?_,?_⟩ <;> (intro z;exact absurd (congrArg (fun (n:Nat)=>n - s1.heap.objs.size) z) (by simp))
 refine ⟨s1.heap.objs.size+4,[s1.heap.objs.size+4,s1.heap.objs.size+2,s1.heap.objs.size+3,s1.heap.objs.size,s1.heap.objs.size+1],_,_,H1,rfl,I2,turn_zip b c _ _ _ _ _ l1 l2 ap,⟨hz,hTI,⟨_,_,hTO⟩,h1,h2⟩,fun d hd=>?_,q⟩
 have hle:s1.heap.objs.size≤d:=by
  simp only [List.mem_cons,List.not_mem_nil,or_false] at hd
  rcases hd with rfl|rfl|rfl|rfl|rfl
  ·exact Nat.le_add_right _ _
  ·exact Nat.le_add_right _ _
  ·exact Nat.le_add_right _ _
  ·exact Nat.le_refl _
  ·exact Nat.le_add_right _ _
 exact I1.fpOk hle (I1.hok.fresh hle)
end
end L2
namespace L2
open PySem PySem.Spec PyProof.Rows
noncomputable def SnL (K:PySem.W.Frag) (N:Addr→Prop) (H:Hp) (a:Addr) (xs:List V):Prop :=
 (Rd H a (.lst xs)∧¬N a)∨∃ (o:Obj) (its:Array Value) (n:Nat),K.lookup a=some o∧o.cls=.type "list" ∧ o.dict=none∧o.data=.seq its n∧its.size≤sizeLine∧Vals xs its.toList
noncomputable def SnT (K:PySem.W.Frag) (N:Addr→Prop) (H:Hp) (a:Addr) (xs:List V):Prop :=
 (Rd H a (.tup xs)∧¬N a)∨∃ (o:Obj) (its:Array Value) (n:Nat),K.lookup a=some o∧o.cls=.type "tuple" ∧ o.data=.seq its n∧its.size≤sizeLine∧Vals xs its.toList
noncomputable def Keep (N:Addr→Prop) (H H':Hp):Prop:=∀ b o,¬N b→H b=some o→H' b=some o
theorem Keep.refl {N:Addr→Prop}{H:Hp}:Keep N H H:=fun _ _ _ e=>e
theorem Keep.trans {N:Addr→Prop}{H H1 H2:Hp} (a:Keep N H H1) (b:Keep N H1 H2):Keep N H H2:=fun c o n e=>b c o n (a c o n e)
theorem Keep.new {N:Addr→Prop}{H:Hp}{p:Addr}{o:HO} (h:H p=none):Keep N H (upd H p o):=fun b u _ e=>by rw[upd_ne (ne_of_none e h)];exact e
theorem Keep.own {N:Addr→Prop}{H:Hp}{p:Addr}{o:HO} (h:N p):Keep N H (upd H p o):=fun b u n e=>by
 have q:b≠p:=fun z=>n (by rw[z];exact h)
 rw [upd_ne q]
 exact e
theorem Keep.mono {N M:Addr→Prop}{H H':Hp} (a:Keep N H H') (h:∀ b,N b→M b):Keep M H H':=fun b o n e=>a b o (fun z=>n (h b z)) e
theorem Keep.same {N:Addr→Prop}{H H':Hp} (a:Same H H'):Keep N H H':=fun b o _ e=>a b o e
noncomputable abbrev N0:Addr→Prop:=fun _=>False
noncomputable abbrev N1 (d:Addr):Addr→Prop:=fun b=>b=d
theorem Keep.none {H H':Hp} (a:Keep N0 H H'):Same H H':=fun b o e=>a b o (fun z=>z) e
section
variable {K:PySem.W.Frag}{N M:Addr→Prop}{H H':Hp}{a:Addr}{xs:List V}
theorem SnL.of (h:H a=some (.lst xs)) (n:¬N a):SnL K N H a xs:=.inl ⟨.inl h,n⟩
theorem SnT.of (h:H a=some (.tup xs)) (n:¬N a):SnT K N H a xs:=.inl ⟨.inl h,n⟩
theorem SnL.sq (h:SnL K N H a xs):SqL K H a xs:=by
 rcases h with ⟨h,_⟩|h
 ·exact .inl h
 ·exact .inr h
theorem SnT.sq (h:SnT K N H a xs):SqT K H a xs:=by
 rcases h with ⟨h,_⟩|h
 ·exact .inl h
 ·exact .inr h
theorem SnL.keep (h:SnL K N H a xs) (k:Keep N H H'):SnL K N H' a xs:=by
 rcases h with ⟨h|⟨o,h⟩,n⟩|h
 ·exact .inl ⟨.inl (k _ _ n h),n⟩
 ·exact .inl ⟨.inr ⟨o,k _ _ n h⟩,n⟩
 ·exact .inr h
theorem SnT.keep (h:SnT K N H a xs) (k:Keep N H H'):SnT K N H' a xs:=by
 rcases h with ⟨h|⟨o,h⟩,n⟩|h
 ·exact .inl ⟨.inl (k _ _ n h),n⟩
 ·exact .inl ⟨.inr ⟨o,k _ _ n h⟩,n⟩
 ·exact .inr h
theorem SnL.to (h:SnL K N H a xs) (m:∀ b o,H b=some o→M b→N b):SnL K M H a xs:=by
 rcases h with ⟨h|⟨o,h⟩,n⟩|h
 ·exact .inl ⟨.inl h,fun z=>n (m _ _ h z)⟩
 ·exact .inl ⟨.inr ⟨o,h⟩,fun z=>n (m _ _ h z)⟩
 ·exact .inr h
theorem SnT.to (h:SnT K N H a xs) (m:∀ b o,H b=some o→M b→N b):SnT K M H a xs:=by
 rcases h with ⟨h|⟨o,h⟩,n⟩|h
 ·exact .inl ⟨.inl h,fun z=>n (m _ _ h z)⟩
 ·exact .inl ⟨.inr ⟨o,h⟩,fun z=>n (m _ _ h z)⟩
 ·exact .inr h
end
mutual
inductive DN (K:PySem.W.Frag) (N:Addr→Prop) (H:Hp):V→PyData→Prop
 | non:DN K N H .non .none
 | bl (b:Bool):DN K N H (.bl b) (.bool b)
 | int (i:Int):DN K N H (.int i) (.int i)
 | str (x:Str):DN K N H (.str x) (.str x)
 | lst {a:Addr}{xs:List V}{ds:List PyData}:SnL K N H a xs→DNs K N H xs ds→DN K N H (.ref a) (.list ds)
 | tup {a:Addr}{xs:List V}{ds:List PyData}:SnT K N H a xs→DNs K N H xs ds→DN K N H (.ref a) (.tuple ds)
 | exc {a C dx:Addr}{n:Int}:¬N a→¬N dx→H a=some (.ext (ExcAt a C (some dx)))→H dx=some (.xd [("day",.int n)])→DN K N H (.ref a) (excD C n)
 | dct {a:Addr}{es:List (StdK×Addr×V)}{kvs:List (StdK×PyData)}:¬N a→H a=some (.ext (DctAt a es))→DNs K N H (es.map fun p=>V.int p.1) (kvs.map fun p=>stdD p.1)→DNs K N H (es.map fun p=>p.2.2) (kvs.map fun p=>p.2)→es.map (fun p=>p.1)=kvs.map (fun p=>p.1)→DN K N H (.ref a) (dctD kvs)
 | fz {v:V}{ds:List PyData}:DN K N H v (.list ds)→DN K N H v (fzD ds)
inductive DNs (K:PySem.W.Frag) (N:Addr→Prop) (H:Hp):List V→List PyData→Prop
 | nil:DNs K N H [] []
 | cons {x:V}{xs:List V}{d:PyData}{ds:List PyData}:DN K N H x d→DNs K N H xs ds→DNs K N H (x::xs) (d::ds)
end
section
variable {K:PySem.W.Frag}{N M:Addr→Prop}{H H':Hp}
theorem DN.dv {v:V}{d:PyData} (h:DN K N H v d):DV K H v d :=
  DN.rec (motive_1:=fun v d _=>DV K H v d) (motive_2:=fun v d _=>DVs K H v d)
  .non (fun b=>.bl b) (fun i=>.int i)
   (fun x=>.str x)
  (fun h _ q=>.lst h.sq q) (fun h _ q=>.tup h.sq q)
   (fun _ _ h q=>.exc h q)
  (fun _ h _ _ e q r=>.dct h q r e) (fun _ h=>.fz h) .nil (fun _ _ h q=>.cons h q) h
theorem DNs.dv {v:List V}{d:List PyData} (h:DNs K N H v d):DVs K H v d :=
  DNs.rec (motive_1:=fun v d _=>DV K H v d) (motive_2:=fun v d _=>DVs K H v d)
  .non (fun b=>.bl b) (fun i=>.int i)
   (fun x=>.str x)
  (fun h _ q=>.lst h.sq q) (fun h _ q=>.tup h.sq q)
   (fun _ _ h q=>.exc h q)
  (fun _ h _ _ e q r=>.dct h q r e) (fun _ h=>.fz h) .nil (fun _ _ h q=>.cons h q) h
theorem DN.keep (k:Keep N H H') {v:V}{d:PyData} (h:DN K N H v d):DN K N H' v d :=
  DN.rec (motive_1:=fun v d _=>DN K N H' v d) (motive_2:=fun v d _=>DNs K N H' v d)
  .non (fun b=>.bl b) (fun i=>.int i)
   (fun x=>.str x)
  (fun h _ q=>.lst (h.keep k) q) (fun h _ q=>.tup (h.keep k) q)
   (fun n1 n2 h q=>.exc n1 n2 (k _ _ n1 h) (k _ _ n2 q))
  (fun n h _ _ e q r=>.dct n (k _ _ n h) q r e) (fun _ h=>.fz h) .nil (fun _ _ h q=>.cons h q) h
theorem DNs.keep (k:Keep N H H') {v:List V}{d:List PyData} (h:DNs K N H v d):DNs K N H' v d :=
  DNs.rec (motive_1:=fun v d _=>DN K N H' v d) (motive_2:=fun v d _=>DNs K N H' v d)
  .non (fun b=>.bl b) (fun i=>.int i)
   (fun x=>.str x)
  (fun h _ q=>.lst (h.keep k) q) (fun h _ q=>.tup (h.keep k) q)
   (fun n1 n2 h q=>.exc n1 n2 (k _ _ n1 h) (k _ _ n2 q))
  (fun n h _ _ e q r=>.dct n (k _ _ n h) q r e) (fun _ h=>.fz h) .nil (fun _ _ h q=>.cons h q) h
theorem DN.to (m:∀ b o,H b=some o→M b→N b) {v:V}{d:PyData} (h:DN K N H v d):DN K M H v d :=
  DN.rec (motive_1:=fun v d _=>DN K M H v d) (motive_2:=fun v d _=>DNs K M H v d)
  .non (fun b=>.bl b) (fun i=>.int i)
   (fun x=>.str x)
  (fun h _ q=>.lst (h.to m) q) (fun h _ q=>.tup (h.to m) q)
   (fun n1 n2 h q=>.exc (fun z=>n1 (m _ _ h z)) (fun z=>n2 (m _ _ q z)) h q)
  (fun n h _ _ e q r=>.dct (fun z=>n (m _ _ h z)) h q r e) (fun _ h=>.fz h) .nil (fun _ _ h q=>.cons h q) h
theorem DNs.to (m:∀ b o,H b=some o→M b→N b) {v:List V}{d:List PyData} (h:DNs K N H v d):DNs K M H v d :=
  DNs.rec (motive_1:=fun v d _=>DN K M H v d) (motive_2:=fun v d _=>DNs K M H v d)
  .non (fun b=>.bl b) (fun i=>.int i)
   (fun x=>.str x)
  (fun h _ q=>.lst (h.to m) q) (fun h _ q=>.tup (h.to m) q)
   (fun n1 n2 h q=>.exc (fun z=>n1 (m _ _ h z)) (fun z=>n2 (m _ _ q z)) h q)
  (fun n h _ _ e q r=>.dct (fun z=>n (m _ _ h z)) h q r e) (fun _ h=>.fz h) .nil (fun _ _ h q=>.cons h q) h
theorem DNs.len:∀ {v:List V}{d:List PyData},DNs K N H v d→v.length=d.length
 | _,_,.nil=>rfl
 | _,_,.cons _ q=>by simp[DNs.len q]
theorem DNs.get:∀ {v:List V}{d:List PyData}{i:Nat}{x:V},DNs K N H v d→v[i]? = some x→∃ e,d[i]? = some e∧DN K N H x e
 | _,_,_,_,.nil,e=>by simp at e
 | _,_,0,_,.cons h _,e=>by simp at e;subst e;exact⟨_,rfl,h⟩
 | _,_,i+1,_,.cons _ q,e=>by
  obtain ⟨d,h1,h2⟩:=DNs.get (i:=i) q (by simpa using e)
  exact ⟨d,by simpa using h1,h2⟩
theorem DNs.app:∀ {v w:List V}{d e:List PyData},DNs K N H v d→DNs K N H w e→DNs K N H (v++w) (d++e)
 | _,_,_,_,.nil,q=>q
 | _,_,_,_,.cons h t,q=>.cons h (t.app q)
noncomputable abbrev pI (ns:List Int):PyData:=.list (ns.map .int)
noncomputable abbrev pT (ns:List Int):PyData:=.tuple (ns.map .int)
theorem dns_ints:∀ ns:List Int,DNs K N H (ns.map V.int) (ns.map .int)
 | []=>.nil
 | n::r=>.cons (.int n) (dns_ints r)
theorem DNs.ints:∀ {ns:List Int}{v:List V},DNs K N H v (ns.map .int)→v=ns.map V.int
 | [],_,.nil=>rfl
 | n::r,_,.cons h q=>by
  cases h
  rw [q.ints];rfl
theorem DN.ofI {a:Addr}{ns:List Int} (h:SnL K N H a (ns.map V.int)):DN K N H (.ref a) (pI ns):=.lst h (dns_ints ns)
theorem DN.list {v:V}{ds:List PyData} (h:DN K N H v (.list ds)):∃ a xs,v=.ref a∧SnL K N H a xs∧DNs K N H xs ds:=by
 cases h with|lst h q=>exact⟨_,_,rfl,h,q⟩
theorem DN.tuple {v:V}{ds:List PyData} (h:DN K N H v (.tuple ds)):∃ a xs,v=.ref a∧SnT K N H a xs∧DNs K N H xs ds:=by
 cases h with|tup h q=>exact⟨_,_,rfl,h,q⟩
theorem DN.I {v:V}{ns:List Int} (h:DN K N H v (pI ns)):∃ a,v=.ref a∧SnL K N H a (ns.map V.int):=by
 obtain ⟨a,xs,e,s,q⟩:=h.list
 rw [q.ints] at s
 exact ⟨a,e,s⟩
theorem DN.T {v:V}{ns:List Int} (h:DN K N H v (pT ns)):∃ a,v=.ref a∧SnT K N H a (ns.map V.int):=by
 obtain ⟨a,xs,e,s,q⟩:=h.tuple
 rw [q.ints] at s
 exact ⟨a,e,s⟩
theorem DN.two {v:V}{d e:PyData} (h:DN K N H v (.tuple [d,e])):∃ a x y,v=.ref a∧SnT K N H a [x,y]∧DN K N H x d∧DN K N H y e:=by
 obtain ⟨a,xs,e,s,q⟩:=h.tuple
 cases q with
 | cons h1 q =>
  cases q with
  | cons h2 q=>cases q;exact⟨a,_,_,e,s,h1,h2⟩
theorem DN.of2 {a:Addr}{x y:V}{d e:PyData} (s:SnT K N H a [x,y]) (h1:DN K N H x d) (h2:DN K N H y e):DN K N H (.ref a) (.tuple [d,e]):=.tup s (.cons h1 (.cons h2 .nil))
end
theorem eqvAll_ints:∀ a b:List Int,PyData.eqvAll (a.map .int) (b.map .int)=decide (a=b)
 | [],[]=>by simp[PyData.eqvAll]
 | [],_::_=>by simp[PyData.eqvAll]
 | _::_,[]=>by simp[PyData.eqvAll]
 | x::a,y::b=>by
  rw [List.map_cons,List.map_cons,PyData.eqvAll,eqvAll_ints a b]
  simp only [PyData.eqv]
  by_cases h:x=y <;> by_cases h':a=b <;> simp[h,h']
theorem eqv_I (a b:List Int):PyData.eqv (pI a) (pI b)=decide (a=b):=by
 show PyData.eqvAll _ _=_
 exact eqvAll_ints a b
section
variable {K:PySem.W.Frag}{a:Addr}{xs:List V}{g:TG}{tt:TT}{te:TE}{σ0:St}{H:Hp}{Qe:List V→Hp→Prop}
end
end L2
namespace L2
open PySem PySem.Spec PyProof.Rows
noncomputable def Cal (P:Program) (w:World) (K:PySem.W.Frag) (mg:Str→Option Value) (base:Heap) (x:Str) (k:Nat) (sp:Sp):Prop :=
 ∃ (f:Addr) (fd:FuncData) (ps:List Str),FnOk P w K mg base CX0 k f fd ps sp∧Binds K fd ps []∧PySem.W.keepIn K (.ref f)=true∧mg x=some (.ref f)
theorem Cal.mono {P:Program}{w:World}{K:PySem.W.Frag}{mg:Str→Option Value}{base:Heap}{x:Str}{j k:Nat}{sp:Sp} (C:Cal P w K mg base x j sp) (h:j≤k):Cal P w K mg base x k sp:=by
 obtain ⟨f,fd,ps,F,b,kp,m⟩:=C
 exact ⟨f,fd,ps,F.mono h,b,kp,m⟩
section
variable {X:Cx}{x:Str}{p pos:Pos}{e:Expr}{es:List Expr}{t:TA}{k:Nat}{sp:Sp}
theorem pe_cal (C:Cal X.prog X.w X.K X.mg X.base x k sp) (hr:Room k X.A) (hg:Gl X x) (ha:PA X (e::es) t) (hd:(x==("__debug__" : Str))=false:=by decide)
  (he:starEach (e::es) X.env=(false,eval e X.env)::starEach es X.env:=by rfl) (hpl:(backTo pos (starEach es X.env)).any (·.1)=false:=by rfl):PE X (.Call (.Name x p) (e::es) [] pos) (tCall sp [] E0 t):=by
 obtain ⟨f,fd,ps,F,b,kp,m⟩:=C
 exact pe_call F hr hg m kp b .nil pass0 ha hd he hpl
end
noncomputable def bOk (N:List Str) (sc0:Scope) (N':List Str) (ix:List (Option Nat)) (sc:Scope):Bool :=
 decide (sc.kind=.function)&&decide ((sc.names.map (·.1)).Nodup)&&sc.names.all (fun y=>!(y.2==.free) || decide (sc0.names.lookup y.1=some .cell) || decide (sc0.names.lookup y.1=some .free))&&decide (ix.length=N'.length) &&
 (ix.zip N').all fun q=>match q.1 with
  | none=>true
  | some j=>decide (N[j]? = some q.2)&&decide (sc.names.lookup q.2=some .free)
theorem bs_of {X:Cx}{N N':List Str}{ix:List (Option Nat)}{sc sc0:Scope} (hN:X.N=N) (h0:X.env.scope=sc0) (h:bOk N sc0 N' ix sc=true):BScope X.N X.env N' ix sc:=by
 rw [←hN] at h
 unfold bOk at h
 simp only [Bool.and_eq_true,decide_eq_true_eq] at h
 obtain ⟨⟨⟨⟨h1,h2⟩,h3⟩,h4⟩,h5⟩:=h
 refine ⟨h1,h2,fun y hy hf=>?_,h4,fun i j hij=>?_⟩
 ·have q:=List.all_eq_true.mp h3 y hy
  rw [hf] at q
  have e:∀ z,X.env.kindOf z=sc0.names.lookup z:=fun z=>by
   show X.env.scope.names.lookup z=_
   rw [h0]
  rw [e]
  simpa using q
 ·have hi:i<ix.length:=(List.getElem?_eq_some_iff.mp hij).1
  have hi':i<N'.length:=by omega
  have hm:(some j,N'[i])∈ix.zip N':=by
   rw [List.mem_iff_getElem?]
   refine ⟨i,?_⟩
   rw [List.getElem?_zip_eq_some]
   exact ⟨hij,List.getElem?_eq_getElem hi'⟩
  have q:=List.all_eq_true.mp h5 _ hm
  simp only [Bool.and_eq_true,decide_eq_true_eq] at q
  exact ⟨N'[i],List.getElem?_eq_getElem hi',q.1,q.2⟩
structure Bn (mg:Str→Option Value):Prop where
 len:mg "len" = none
 range:mg "range" = none
 min:mg "min" = none
 max:mg "max" = none
 enumerate:mg "enumerate" = none
 zip:mg "zip" = none
 all:mg "all" = none
 any:mg "any" = none
 isinstance:mg "isinstance" = none
 bool:mg "bool" = none
 int:mg "int" = none
 list:mg "list" = none
 tuple:mg "tuple" = none
 sorted:mg "sorted" = none
 str:mg "str" = none
 sum:mg "sum" = none
 abs:mg "abs" = none
 reversed:mg "reversed" = none
end L2
namespace L2
open PySem PySem.Spec PyProof.Rows
theorem SqB.of {K:PySem.W.Frag}{N:Addr→Prop}{H:Hp}{a:Addr}{xs:List V} (h:SnL K N H a xs):SqB K H false a xs:=h.sq
noncomputable def SnB (K:PySem.W.Frag) (N:Addr→Prop) (H:Hp):Bool→Addr→List V→Prop
 | false,a,xs=>SnL K N H a xs
 | true,a,xs=>SnT K N H a xs
theorem SnB.sq {K:PySem.W.Frag}{N:Addr→Prop}{H:Hp}{b:Bool}{a:Addr}{xs:List V} (h:SnB K N H b a xs):SqB K H b a xs:=by
 cases b with
 | false=>exact SnL.sq h
 | true=>exact SnT.sq h
theorem SqB.len {K:PySem.W.Frag}{H:Hp}{b:Bool}{a:Addr}{xs:List V} (h:SqB K H b a xs):SqL K H a xs∨SqT K H a xs:=by
 cases b with
 | false=>exact .inl h
 | true=>exact .inr h
theorem SqB.keep {K:PySem.W.Frag}{H H':Hp}{b:Bool}{a:Addr}{xs:List V} (h:SqB K H b a xs) (k:Same H H'):SqB K H' b a xs:=by
 cases b with
 | false=>exact (show SnL K N0 H a xs from by rcases h with h|h;exact .inl ⟨h,fun z=>z⟩;exact .inr h).keep (Keep.same k) |>.sq
 | true=>exact (show SnT K N0 H a xs from by rcases h with h|h;exact .inl ⟨h,fun z=>z⟩;exact .inr h).keep (Keep.same k) |>.sq
theorem SqL.keep {K:PySem.W.Frag}{H H':Hp}{a:Addr}{xs:List V} (h:SqL K H a xs) (k:Same H H'):SqL K H' a xs:=SqB.keep (b:=false) h k
theorem SqT.keep {K:PySem.W.Frag}{H H':Hp}{a:Addr}{xs:List V} (h:SqT K H a xs) (k:Same H H'):SqT K H' a xs:=SqB.keep (b:=true) h k
theorem Same.new {H:Hp}{p:Addr}{o:HO} (h:H p=none):Same H (upd H p o):=fun b u e=>by rw[upd_ne (ne_of_none e h)];exact e
theorem Cal.mk {P:Program}{w:World}{K:PySem.W.Frag}{mg:Str→Option Value}{base:Heap}{x:Str}{st:Stmt}{f:Addr}{fd:FuncData}{k:Nat}{ps:List Str}{sp:Sp} (F:Fun K x x st f fd) (m:mg x=some (.ref f)) (b:Binds K fd ps [])
  (G : FnOk P w K mg base CX0 k f fd ps sp):Cal P w K mg base x k sp:=⟨f,fd,ps,G,b,F.kp,m⟩
theorem line_big:1000000≤sizeLine:=by decide
section
variable {X:Cx}{K:PySem.W.Frag} (hK:X.K=K)
include hK
theorem kLen:CallR X (.builtin "len") (fun xs H Q=>∃ p ys,xs=[.ref p]∧(SqL K H p ys∨SqT K H p ys)∧Q (.int ys.length) H):=by subst hK;exact call_len_seq
theorem kSlL:SlR X (rSlL K):=by subst hK;exact sl_list
theorem kEqD (hu:X.A.units+64<cLine):OpR X (compareOp .Eq) (rEqD K):=by subst hK;exact op_eqD hu
theorem kNeD (hu:X.A.units+64<cLine):OpR X (compareOp .NotEq) (rNeD K):=by subst hK;exact op_neD hu
theorem kIn:OpR X (compareOp .In) (rIn K false):=by subst hK;exact op_in_seq
theorem kAll (hc:X.calm=true):CallR X (.builtin "all") (fun xs H Q=>∃ (a:Addr) (bs:List Bool),xs=[.ref a]∧SqL K H a (bs.map V.bl)∧Q (.bl (bs.all id)) H):=by subst hK;exact call_all hc
theorem kList:CallR X (.type "list") (fun xs H Q=>∃ p ys,xs=[.ref p]∧(SqL K H p ys∨SqT K H p ys)∧∀ l,H l=none→Q (.ref l) (upd H l (.lst ys))):=by subst hK;exact call_list_of
variable {tg:Expr}
theorem kiList {l:Expr}{tl:TE} (hl:PE X l tl):PI X tg l (iList K tl):=by subst hK;exact pi_list hl
theorem kiTup {l:Expr}{tl:TE} (hl:PE X l tl):PI X tg l (iTup K tl):=by subst hK;exact pi_tup hl
theorem kiZip (b c:Bool) {es:List Expr}{kk:Nat}{tpos:Pos}{e1 e2:Expr}{ta:TA}{p pos:Pos} (hg:Gl X "zip") (hm:X.mg "zip" = none) (ha:PA X [e1,e2] ta)
  (hs:starEach [e1,e2] X.env=[(false,eval e1 X.env),(false,eval e2 X.env)]:=by rfl) (hs2:starEach [e2] X.env=[(false,eval e2 X.env)]:=by rfl) :
  PI X (.Tuple es kk tpos) (.Call (.Name "zip" p) [e1,e2] [] pos) (iZip K b c ta):=by subst hK;exact pi_zip b c hg hm PyProof.Rows.boot_zip ha hs hs2
theorem kgTup {pos:Pos}{es:List Expr}{k:Nat}{t:TGs}{n:Nat} (hc:X.calm=true) (h:PGs X es t) (hn:(assignEach es X.env).length=n:=by rfl) (hst:(assignEach es X.env).findIdx? (·.1)=none:=by rfl):PG X (.Tuple es k pos) (gTup K n t):=by
 subst hK;exact pg_tup hc h hn hst
variable {o e:Expr}{es:List Expr}{to:TE}{t:TA}{name:Str}{apos cpos:Pos}{T id:String}{r:V→List V→Hp→VK→Prop}
theorem kBm0 (pa:PlainAttrs T) (slot:Slot T name id) (hty:typeOf (.builtin id)=pure (.type "method_descriptor")) (hm:MtR X id r) (ho:PE X o to)
  (hbase:attributeBase o name X.env (eval o X.env)=eval o X.env:=by rfl) (hline:(apos.endLine==cpos.line)=true:=by rfl):PE X (.Call (.Attribute o name apos) [] [] cpos) (tBM0 K T r to):=by
 subst hK;exact pe_bm0 pa slot hty hm ho hbase hline
theorem kBm (pa:PlainAttrs T) (slot:Slot T name id) (hty:typeOf (.builtin id)=pure (.type "method_descriptor")) (hm:MtR X id r) (ho:PE X o to) (ha:PA X (e::es) t)
  (hbase:attributeBase o name X.env (eval o X.env)=eval o X.env:=by rfl)
  (hfew:((backTo cpos (starEach (e::es) X.env)).all (fun x=>!x.1)&&(backToKw cpos (keywordEach [] X.env)).all (fun x=>x.1.isSome)&&decide ((e::es).length+([]:List Keyword).length+(if ([]:List Keyword).isEmpty then 0 else 1)<30))=true:=by rfl)
  (hline:(apos.endLine==cpos.line)=true:=by rfl) (hs:starEach (e::es) X.env=(false,eval e X.env)::starEach es X.env:=by rfl) (hplain:(backTo cpos (starEach es X.env)).any (·.1)=false:=by rfl) :
  PE X (.Call (.Attribute o name apos) (e::es) [] cpos) (tBM K T r to t):=by
 subst hK;exact pe_bm pa slot hty hm ho ha hbase hfew hline hs hplain
end
end L2
namespace L2
open PySem
end L2
namespace L2
open PySem
section
variable {K:PySem.W.Frag}{a:Addr}{xs:List V}{g:TG}{tb:TS}{D:Ends}{σ:St}{H:Hp} (Pv:Nat→St→Hp→Prop)
end
end L2
namespace L2
open PySem
theorem ixN_nat {n j:Nat} (h:j<n):ixN n (j:Int)=some j:=by
 unfold ixN
 rw [if_pos (by omega),if_pos (by omega),Int.toNat_natCast]
end L2
namespace L2
open PySem PySem.Spec PyProof.Rows
noncomputable def tCut (t u:TS):TS:=fun D σ H=>∃ R:St→Hp→Prop,t { D with nx:=R } σ H∧∀ σ' H',R σ' H'→u D σ' H'
theorem pss_cut {X:Cx}{st:Stmt}{rest:List Stmt}{t u:TS} (h1:PS X st t) (h2:PSs X rest u):PSs X (st::rest) (tCut t u):=by
 intro pins s σ H D I h
 obtain ⟨R,h,hR⟩:=h
 refine wpAny_execs_cons (thn (h1 pins s σ H { D with nx:=R } I h) fun f s1 q=>?_)
 cases f with
 | next =>
  obtain ⟨σ',H',I',q⟩:=q
  exact h2 pins s1 σ' H' D I' (hR _ _ q)
 | ret v=>exact q
 | brk=>exact q
 | cont=>exact q
end L2
namespace L2
open PySem
theorem Keep.free {N:Addr→Prop}{H H':Hp} (k:Keep N H H') {p:Addr} (n:¬N p) (h:H' p=Option.none):H p=Option.none:=by
 cases e:H p with
 | none=>rfl
 | some o=>rw[k p o n e] at h;cases h
theorem Keep.put {N:Addr→Prop}{H H':Hp}{p:Addr}{o:HO} (k:Keep N H H') (h:H p=Option.none):Keep N H (upd H' p o):=fun b u n e=>by
 rw [upd_ne (ne_of_none e h)]
 exact k b u n e
end L2
namespace L2
open PySem
theorem DN.own {K:PySem.W.Frag}{N:Addr→Prop}{H H':Hp}{d:Addr}{v:V}{D:PyData} (h:DN K N H v D) (hd:H d=none) (k:Same H H'):DN K (N1 d) H' v D :=
 (h.to fun b o e (z:b=d)=>by rw[z,hd] at e;cases e).keep (Keep.same k)
theorem DN.sqL {K:PySem.W.Frag}{H:Hp}{a:Addr}{ns:List Int} (h:SqL K H a (ns.map V.int)):DN K N0 H (.ref a) (pI ns):=DN.ofI (by
 rcases h with h|h
 ·exact .inl ⟨h,fun z=>z⟩
 ·exact .inr h)
end L2
namespace L2
end L2
namespace L2
open PySem PySem.Spec PyProof.Rows
section
variable {κ β:Type} [DecidableEq κ]
noncomputable def getK (kvs:List (κ×β)) (k:κ):Option β:=(kvs.find? fun p=>decide (p.1=k)).map (·.2)
noncomputable def setK (kvs:List (κ×β)) (k:κ) (v:β):List (κ×β):=if (getK kvs k).isSome=true then kvs.map fun p=>if p.1=k then (p.1,v) else p else kvs++[(k,v)]
theorem getK_nil (k:κ):getK ([]:List (κ×β)) k=none:=rfl
theorem getK_cons (p:κ×β) (kvs:List (κ×β)) (k:κ):getK (p::kvs) k=if p.1=k then some p.2 else getK kvs k:=by
 unfold getK
 rw [List.find?_cons]
 by_cases h:p.1=k <;> simp[h]
theorem setK_len (kvs:List (κ×β)) (k:κ) (v:β):(setK kvs k v).length≤kvs.length+1:=by
 unfold setK
 split <;> simp
end
section
variable {X:Cx}{pins:List (Addr×Obj)}{σ:St}{H:Hp}{s:Shared}{a b:Addr}{k:StdK}
theorem std_of {x:V}{u:Value} (h:DV X.K H x (stdD k)) (r:RelV x u):x=.int k∧∃ t,u=.int k t:=by
 cases h
 exact ⟨rfl,r⟩
theorem dct_of (I:Inv X pins σ H s) {es:List (StdK×Addr×V)} (ha:H a=some (.ext (DctAt a es))) :
  es.length≤sizeLine∧(a==sysModules)=false∧∃ xs,Paired (fun (p:StdK×Addr×V) (q:StdK×Value)=>p.1=q.1∧RelV p.2.2 q.2) es xs∧s.heap.DictOf (intKind X.prog X.w) a xs:=by
 obtain ⟨⟨z,y,xs,r,h⟩,_⟩:=I.hok a _ ha
 exact ⟨z,y,xs,r,h _ _⟩
theorem at_key:∀ {es:List (StdK×Addr×V)}{xs:List (StdK×Value)}{kvs:List (StdK×PyData)}{K:PySem.W.Frag} (k:StdK),
  Paired (fun (p:StdK×Addr×V) (q:StdK×Value)=>p.1=q.1∧RelV p.2.2 q.2) es xs→es.map (fun p=>p.1)=kvs.map (fun p=>p.1)→DVs K H (es.map fun p=>p.2.2) (kvs.map fun p=>p.2) →
  (getK kvs k=none∧valueAt xs k=none)∨∃ (i:Nat) (d:PyData) (v:V) (u:Value),getK kvs k=some d∧valueAt xs k=some u∧(es.map fun p=>p.2.2)[i]? = some v∧(kvs.map fun p=>p.2)[i]? = some d∧RelV v u
 | [],_,kvs,K,k,.nil,e,_=>by
  cases kvs with
  | nil=>exact .inl ⟨rfl,rfl⟩
  | cons kv kvs=>simp at e
 | p :: es,_,kvs,K,k,.cons (b:=q) (l₂:=xs) r t,e,h=>by
  cases kvs with
  | nil=>simp at e
  | cons kv kvs =>
   rw [List.map_cons,List.map_cons] at e h
   injection e with e1 e2
   cases h with
   | cons h1 h2 =>
    by_cases hk:kv.1=k
    ·have hq:q.1=k:=by rw[←r.1,e1,hk]
     refine .inr ⟨0,kv.2,p.2.2,q.2,by rw[getK_cons,if_pos hk],?_,rfl,rfl,r.2⟩
     simp [valueAt,List.find?_cons,hq]
    ·have hq:¬q.1=k:=fun z=>hk (by rw[←e1,r.1,z])
     have eg:getK (kv::kvs) k=getK kvs k:=by rw[getK_cons,if_neg hk]
     have ea:valueAt (q::xs) k=valueAt xs k:=by simp[valueAt,List.find?_cons,hq]
     rw [eg,ea]
     rcases at_key k t e2 h2 with z|⟨i,d,v,u,z1,z2,z3,z4,z5⟩
     ·exact .inl z
     ·exact .inr ⟨i+1,d,v,u,z1,z2,by simpa using z3,by simpa using z4,z5⟩
end
section
variable {X:Cx}
noncomputable def rIxK (K:PySem.W.Frag):R2:=fun x y H Q=>∃ (k:StdK) (a:Addr) (es:List (StdK×Addr×V)) (kvs:List (StdK×PyData)),x=.ref a∧DV K H y (stdD k)∧H a=some (.ext (DctAt a es))∧DVs K H (es.map fun p=>V.int p.1) (kvs.map fun p=>stdD p.1)∧DVs K H (es.map fun p=>p.2.2) (kvs.map fun p=>p.2) ∧
 es.map (fun p=>p.1)=kvs.map (fun p=>p.1)∧(getK kvs k).isSome=true∧∀ (i:Nat) v d,getK kvs k=some d→(es.map fun p=>p.2.2)[i]? = some v→(kvs.map fun p=>p.2)[i]? = some d→Q v H
theorem ix_K:IxR X (rIxK X.K):=by
 intro value slice pins s σ H x y v u Q I rx ry h hs
 obtain ⟨k,a,es,kvs,rfl,dk,ha,hk,hv,e,hsome,q⟩:=h
 cases (show v=Value.ref a from rx)
 obtain ⟨rfl,t,rfl⟩:=std_of dk ry
 obtain ⟨z,y,xs,r,dd⟩:=dct_of I ha
 have dm:=dd.mapOf
 have hT:=dm.typeIs
 unfold subscriptTail
 refine wpAny_bind ?_
 rw [getitemInPython_of_ne hT.not_modules]
 refine wpAny_bind (wpAny_specialOf hT PySem.F.slot_dict_getitem.lookup ?_)
 have fin:wpAny (model X.prog X.w) X.A (subscripted slice false (.ref a) (.int k t)) (fun r s₃=>wpAny (model X.prog X.w) X.A (letTemporaryGo value (.ref a) r >>= fun _=>pure r) (EP X pins σ Q) X.xe s₃) X.xe s:=by
  rw [hs]
  rcases at_key k r e hv with ⟨z1,_⟩|⟨i,d,v,u,z1,z2,z3,z4,z5⟩
  ·rw [z1] at hsome;cases hsome
  ·refine wpAny_operating (wpAny_getItem_of (knd:=intKind X.prog X.w) (isInt_self k t) dm z2 ?_)
   exact wpAny_bind (wpAny_letTemporaryGo (wpAny_pure ⟨v,H,I.tok _,z5,q i v d z1 z3 z4⟩))
 first
  | exact wpAny_pure (wpAny_bind fin)
  | exact wpAny_bind (wpAny_pure (wpAny_bind fin))
  | exact wpAny_bind fin
noncomputable def putE (es:List (StdK×Addr×V)) (k:StdK) (v:V):List (StdK×Addr×V) :=
 if (es.any fun p=>decide (p.1=k))=true then es.map (fun p=>if p.1=k then (p.1,p.2.1,v) else p) else es++[(k,0,v)]
theorem putE_paired {es:List (StdK×Addr×V)}{xs:List (StdK×Value)} (r:Paired (fun (p:StdK×Addr×V) (q:StdK×Value)=>p.1=q.1∧RelV p.2.2 q.2) es xs) (k:StdK) {v:V}{u:Value} (rv:RelV v u) :
  Paired (fun (p:StdK×Addr×V) (q:StdK×Value)=>p.1=q.1∧RelV p.2.2 q.2) (putE es k v) (stored xs k u):=by
 have e:(es.any fun p=>decide (p.1=k))=(xs.any fun kv=>decide (kv.1=k)):=by
  induction r with
  | nil=>rfl
  | @cons p q ps qs h t ih=>rw[List.any_cons,List.any_cons,ih,h.1]
 unfold putE stored
 rw [e]
 by_cases c:(xs.any fun kv=>decide (kv.1=k))=true
 ·rw [if_pos c,if_pos c]
  clear e c
  induction r with
  | nil=>exact .nil
  | @cons p q ps qs h t ih =>
   rw [List.map_cons,List.map_cons]
   refine .cons ?_ ih
   by_cases hk:p.1=k
   ·rw [if_pos hk,if_pos (show q.1=k by rw[←h.1,hk])]
    exact ⟨h.1,rv⟩
   ·rw [if_neg hk,if_neg (fun z=>hk (by rw[h.1,z]))]
    exact h
 ·rw [if_neg c,if_neg c]
  exact Paired.snoc r ⟨rfl,rv⟩
theorem putE_len (es:List (StdK×Addr×V)) (k:StdK) (v:V):(putE es k v).length≤es.length+1:=by
 unfold putE
 split <;> simp
noncomputable def rSetK:TSet:=fun x y v H Q=>∃ (k:StdK) (a:Addr) (es:List (StdK×Addr×V)),x=.ref a∧y=.int k∧H a=some (.ext (DctAt a es))∧es.length<sizeLine∧Q (upd H a (.ext (DctAt a (putE es k v))))
theorem set_K:PSet X rSetK:=by
 intro pins s σ H x y v ov iv u Q I rx ry rv h
 obtain ⟨k,a,es,rfl,rfl,ha,hl,q⟩:=h
 cases (show ov=Value.ref a from rx)
 obtain ⟨t,rfl⟩:=ry
 obtain ⟨z,y,xs,r,dd⟩:=dct_of I ha
 have hz:xs.length≤sizeLine:=by rw[←Paired.length r];exact z
 refine wpAny_setItem_pairs (hsz:=hz) (knd:=intKind X.prog X.w) (isInt_self k t) dd fun h' dd' hs=>?_
 obtain ⟨o,es',ep,h1,h2⟩:=id dd'
 refine ⟨_,?_,q⟩
 refine I.write (x:=a) (e:=a) (by rw[ha];exact True.intro) (.inl rfl) (fun b q hb z=>(hs.2 b hb).trans z) ⟨_,h1⟩ ?_
 have new:DctAt a (putE es k v) h':=⟨by have:=putE_len es k v;omega,y,_,putE_paired r k rv,fun p w=>dictOf_any dd'⟩
 exact ⟨new,⟨_,h1⟩,fun h1' h2' hx hy=>hx.keep fun o e=>hy _ e⟩
noncomputable def tDct0:TE:=fun _ H Q=>∀ p,H p=none→Q (.ref p) (upd H p (.ext (DctAt p [])))
theorem dct_empty {P:Program}{w:World}{H:Hp} (h:Heap) (hb:sysModules<h.objs.size):ObjOk P w H (h.push { cls:=.type "dict",data:=.dict #[] }) h.objs.size (.ext (DctAt h.objs.size [])):=by
 have e:=Heap.get?_push_size (o:=({ cls:=.type "dict",data:=.dict #[] }:Obj)) h rfl
 exact ⟨⟨Nat.zero_le _,beq_eq_false_iff_ne.mpr (Ne.symm (Nat.ne_of_lt hb)),[],.nil,fun p w=>⟨_,#[],0,e,⟨rfl,rfl,rfl⟩,rfl,fun x hx=>by simp at hx,.nil,List.nodup_nil⟩⟩,⟨_,e⟩,fun h1 h2 hx hy=>hx.keep fun o e=>hy _ e⟩
theorem Inv.big' {pins:List (Addr×Obj)}{σ:St}{H:Hp}{s:Shared} (I:Inv X pins σ H s):sysModules<s.heap.objs.size:=by
 have h:mainGlobals<s.heap.objs.size:=(I.mod.glob.keeps I.bk).lt
 exact Nat.lt_trans (by decide) h
theorem pe_dct0 {pos:Pos}:PE X (.Dict [] [] pos) tDct0:=fun pins s σ H Q I h =>
 wpAny_Dict_empty ⟨.ref s.heap.objs.size,_,I.laid (a:=s.heap.objs.size) (o:=.ext (DctAt s.heap.objs.size [])) (t':=s.toks) (fun _ _ q=>Heap.get?_push_of_some _ q) (Nat.le_refl _) (dct_empty s.heap I.big'),rfl,h _ (I.hok.fresh (Nat.le_refl _))⟩
end
end L2
namespace L2
open PySem PySem.Spec PyProof.Rows
mutual
inductive OT (K:PySem.W.Frag) (N:Addr→Prop) (H:Hp):V→PyData→List Addr→Prop
 | non:OT K N H .non .none []
 | bl (b:Bool):OT K N H (.bl b) (.bool b) []
 | int (i:Int):OT K N H (.int i) (.int i) []
 | str (x:Str):OT K N H (.str x) (.str x) []
 | lst {a:Addr}{xs:List V}{ds:List PyData}{S:List Addr}:H a=some (.lst xs)→OTs K N H xs ds S→OT K N H (.ref a) (.list ds) (a::S)
 | tup {a:Addr}{xs:List V}{ds:List PyData}{S:List Addr}:SnT K N H a xs→OTs K N H xs ds S→OT K N H (.ref a) (.tuple ds) S
 | dct {a:Addr}{es:List (StdK×Addr×V)}{kvs:List (StdK×PyData)}:H a=some (.ext (DctAt a es))→DNs K N H (es.map fun p=>V.int p.1) (kvs.map fun p=>stdD p.1)→DNs K N H (es.map fun p=>p.2.2) (kvs.map fun p=>p.2)→es.map (fun p=>p.1)=kvs.map (fun p=>p.1)→OT K N H (.ref a) (dctD kvs) [a]
 | fz {v:V}{ds:List PyData}:DN K N H v (.list ds)→OT K N H v (fzD ds) []
inductive OTs (K:PySem.W.Frag) (N:Addr→Prop) (H:Hp):List V→List PyData→List Addr→Prop
 | nil:OTs K N H [] [] []
 | cons {x:V}{xs:List V}{d:PyData}{ds:List PyData}{S S':List Addr}:OT K N H x d S→OTs K N H xs ds S'→OTs K N H (x::xs) (d::ds) (S++S')
end
section
variable {K:PySem.W.Frag}{N M:Addr→Prop}{H H':Hp}
mutual
theorem OT.dv:∀ {v:V}{d:PyData}{S:List Addr},OT K N H v d S→DV K H v d
 | _,_,_,.non=>.non
 | _,_,_,.bl b=>.bl b
 | _,_,_,.int i=>.int i
 | _,_,_,.str x=>.str x
 | _,_,_,.lst h q=>.lst (SqL.of h) q.dv
 | _,_,_,.tup h q=>.tup h.sq q.dv
 | _,_,_,.dct h q r e=>.dct h q.dv r.dv e
 | _,_,_,.fz h=>.fz h.dv
theorem OTs.dv:∀ {v:List V}{d:List PyData}{S:List Addr},OTs K N H v d S→DVs K H v d
 | _,_,_,.nil=>.nil
 | _,_,_,.cons h q=>.cons h.dv q.dv
end
theorem OT.keep (k:Keep N H H') {v:V}{d:PyData}{S:List Addr} (h:OT K N H v d S):(∀ a∈S,H' a=H a)→OT K N H' v d S :=
  OT.rec (motive_1:=fun v d S _=>(∀ a∈S,H' a=H a)→OT K N H' v d S) (motive_2:=fun v d S _=>(∀ a∈S,H' a=H a)→OTs K N H' v d S)
  (fun _=>.non) (fun b _=>.bl b) (fun i _=>.int i)
   (fun x _=>.str x)
  (fun h _ q s=>.lst ((s _ List.mem_cons_self).trans h) (q fun a ha=>s a (List.mem_cons_of_mem _ ha))) (fun h _ q s=>.tup (h.keep k) (q s))
  (fun h q r e s=>.dct ((s _ List.mem_cons_self).trans h) (q.keep k) (r.keep k) e) (fun h s=>.fz (h.keep k)) (fun _=>.nil) (fun _ _ h q s=>.cons (h fun a ha=>s a (List.mem_append_left _ ha)) (q fun a ha=>s a (List.mem_append_right _ ha))) h
theorem OTs.keep (k:Keep N H H') {v:List V}{d:List PyData}{S:List Addr} (h:OTs K N H v d S):(∀ a∈S,H' a=H a)→OTs K N H' v d S :=
  OTs.rec (motive_1:=fun v d S _=>(∀ a∈S,H' a=H a)→OT K N H' v d S) (motive_2:=fun v d S _=>(∀ a∈S,H' a=H a)→OTs K N H' v d S)
  (fun _=>.non) (fun b _=>.bl b) (fun i _=>.int i)
   (fun x _=>.str x)
  (fun h _ q s=>.lst ((s _ List.mem_cons_self).trans h) (q fun a ha=>s a (List.mem_cons_of_mem _ ha))) (fun h _ q s=>.tup (h.keep k) (q s))
  (fun h q r e s=>.dct ((s _ List.mem_cons_self).trans h) (q.keep k) (r.keep k) e) (fun h s=>.fz (h.keep k)) (fun _=>.nil) (fun _ _ h q s=>.cons (h fun a ha=>s a (List.mem_append_left _ ha)) (q fun a ha=>s a (List.mem_append_right _ ha))) h
theorem OT.to (m:∀ b o,H b=some o→M b→N b) {v:V}{d:PyData}{S:List Addr} (h:OT K N H v d S):OT K M H v d S :=
  OT.rec (motive_1:=fun v d S _=>OT K M H v d S) (motive_2:=fun v d S _=>OTs K M H v d S)
  .non (fun b=>.bl b) (fun i=>.int i)
   (fun x=>.str x)
  (fun h _ q=>.lst h q) (fun h _ q=>.tup (h.to m) q)
  (fun h q r e=>.dct h (q.to m) (r.to m) e) (fun h=>.fz (h.to m)) .nil (fun _ _ h q=>.cons h q) h
theorem OTs.to (m:∀ b o,H b=some o→M b→N b) {v:List V}{d:List PyData}{S:List Addr} (h:OTs K N H v d S):OTs K M H v d S :=
  OTs.rec (motive_1:=fun v d S _=>OT K M H v d S) (motive_2:=fun v d S _=>OTs K M H v d S)
  .non (fun b=>.bl b) (fun i=>.int i)
   (fun x=>.str x)
  (fun h _ q=>.lst h q) (fun h _ q=>.tup (h.to m) q)
  (fun h q r e=>.dct h (q.to m) (r.to m) e) (fun h=>.fz (h.to m)) .nil (fun _ _ h q=>.cons h q) h
theorem OT.lives {v:V}{d:PyData}{S:List Addr} (h:OT K N H v d S):∀ a∈S,∃ o,H a=some o :=
  OT.rec (motive_1:=fun v d S _=>∀ a∈S,∃ o,H a=some o) (motive_2:=fun v d S _=>∀ a∈S,∃ o,H a=some o)
  (fun _ h=>nomatch h) (fun _ _ h=>nomatch h) (fun _ _ h=>nomatch h)
   (fun _ _ h=>nomatch h)
  (fun h _ q a ha=>(List.mem_cons.mp ha).elim (fun e=>⟨_,e▸h⟩) (q a)) (fun _ _ q=>q)
  (fun h _ _ _ a ha=>⟨_,(List.mem_singleton.mp ha)▸h⟩) (fun _ _ h=>nomatch h) (fun _ h=>nomatch h) (fun _ _ h q a ha=>(List.mem_append.mp ha).elim (h a) (q a)) h
theorem OTs.lives {v:List V}{d:List PyData}{S:List Addr} (h:OTs K N H v d S):∀ a∈S,∃ o,H a=some o :=
  OTs.rec (motive_1:=fun v d S _=>∀ a∈S,∃ o,H a=some o) (motive_2:=fun v d S _=>∀ a∈S,∃ o,H a=some o)
  (fun _ h=>nomatch h) (fun _ _ h=>nomatch h) (fun _ _ h=>nomatch h)
   (fun _ _ h=>nomatch h)
  (fun h _ q a ha=>(List.mem_cons.mp ha).elim (fun e=>⟨_,e▸h⟩) (q a)) (fun _ _ q=>q)
  (fun h _ _ _ a ha=>⟨_,(List.mem_singleton.mp ha)▸h⟩) (fun _ _ h=>nomatch h) (fun _ h=>nomatch h) (fun _ _ h q a ha=>(List.mem_append.mp ha).elim (h a) (q a)) h
theorem OT.dn (n:∀ b,M b→N b) {v:V}{d:PyData}{S:List Addr} (h:OT K N H v d S):(∀ a∈S,¬M a)→DN K M H v d :=
  OT.rec (motive_1:=fun v d S _=>(∀ a∈S,¬M a)→DN K M H v d) (motive_2:=fun v d S _=>(∀ a∈S,¬M a)→DNs K M H v d)
  (fun _=>.non) (fun b _=>.bl b) (fun i _=>.int i)
   (fun x _=>.str x)
  (fun h _ q s=>.lst (SnL.of h (s _ List.mem_cons_self)) (q fun a ha=>s a (List.mem_cons_of_mem _ ha))) (fun h _ q s=>.tup (h.to fun b _ _ z=>n b z) (q s))
  (fun h q r e s=>.dct (s _ List.mem_cons_self) h (q.to fun b _ _ z=>n b z) (r.to fun b _ _ z=>n b z) e) (fun h _=>.fz (h.to fun b _ _ z=>n b z)) (fun _=>.nil) (fun _ _ h q s=>.cons (h fun a ha=>s a (List.mem_append_left _ ha)) (q fun a ha=>s a (List.mem_append_right _ ha))) h
theorem OTs.dn (n:∀ b,M b→N b) {v:List V}{d:List PyData}{S:List Addr} (h:OTs K N H v d S):(∀ a∈S,¬M a)→DNs K M H v d :=
  OTs.rec (motive_1:=fun v d S _=>(∀ a∈S,¬M a)→DN K M H v d) (motive_2:=fun v d S _=>(∀ a∈S,¬M a)→DNs K M H v d)
  (fun _=>.non) (fun b _=>.bl b) (fun i _=>.int i)
   (fun x _=>.str x)
  (fun h _ q s=>.lst (SnL.of h (s _ List.mem_cons_self)) (q fun a ha=>s a (List.mem_cons_of_mem _ ha))) (fun h _ q s=>.tup (h.to fun b _ _ z=>n b z) (q s))
  (fun h q r e s=>.dct (s _ List.mem_cons_self) h (q.to fun b _ _ z=>n b z) (r.to fun b _ _ z=>n b z) e) (fun h _=>.fz (h.to fun b _ _ z=>n b z)) (fun _=>.nil) (fun _ _ h q s=>.cons (h fun a ha=>s a (List.mem_append_left _ ha)) (q fun a ha=>s a (List.mem_append_right _ ha))) h
theorem OTs.len:∀ {v:List V}{d:List PyData}{S:List Addr},OTs K N H v d S→v.length=d.length
 | _,_,_,.nil=>rfl
 | _,_,_,.cons _ q=>by simp[OTs.len q]
theorem OTs.app:∀ {v w:List V}{d e:List PyData}{S T:List Addr},OTs K N H v d S→OTs K N H w e T→OTs K N H (v++w) (d++e) (S++T)
 | _,_,_,_,_,_,.nil,q=>q
 | _,_,_,_,_,_,.cons h t,q=>by rw[List.append_assoc];exact .cons h (t.app q)
end
end L2
namespace L2
open PySem PySem.Spec PyProof.Rows
inductive Sl where
 | un|fr (d:PyData)|ow (ds:List PyData)|io (ds:List PyData)|vw (i:Nat)|tr (S:List Addr) (d:PyData)
noncomputable abbrev Ent:=Option V×Sl
noncomputable def own1:Ent→List Addr
 | (some (.ref a),.ow _)=>[a]
 | (some (.ref a),.io _)=>[a]
 | (some _,.tr S _)=>S
 | _=>[]
noncomputable def oas (E:List Ent):List Addr:=E.flatMap own1
noncomputable def Nw (M:Addr→Prop) (E:List Ent):Addr→Prop:=fun a=>M a∨a∈oas E
noncomputable abbrev tmp (ts:List (V×Sl)):List Ent:=ts.map fun t=>(some t.1,t.2)
noncomputable def ents (σ:St) (env:List Sl) (ts:List (V×Sl)):List Ent:=σ.zip env++tmp ts
theorem oas_app (A B:List Ent):oas (A++B)=oas A++oas B:=List.flatMap_append
theorem oas_cons (e:Ent) (B:List Ent):oas (e::B)=own1 e++oas B:=List.flatMap_cons ..
theorem mem_oas {a:Addr}{E:List Ent}:a∈oas E↔∃ e∈E,a∈own1 e:=List.mem_flatMap
theorem own1_un (x:Option V):own1 (x,.un)=[]:=by
 cases x with
 | none=>rfl
 | some v=>cases v <;> rfl
theorem own1_vw (x:Option V) (i:Nat):own1 (x,.vw i)=[]:=by
 cases x with
 | none=>rfl
 | some v=>cases v <;> rfl
theorem own1_fr (x:Option V) (d:PyData):own1 (x,.fr d)=[]:=by
 cases x with
 | none=>rfl
 | some v=>cases v <;> rfl
theorem own1_tr (v:V) (S:List Addr) (d:PyData):own1 (some v,.tr S d)=S:=by cases v <;> rfl
theorem own1_some {e:Ent}{a:Addr} (h:a∈own1 e):(e.1=some (.ref a)∧((∃ ds,e.2=.ow ds)∨∃ ds,e.2=.io ds))∨∃ S d,e.2=.tr S d∧a∈S:=by
 obtain ⟨x,s⟩:=e
 cases s with
 | un=>rw[own1_un] at h;exact absurd h List.not_mem_nil
 | vw i=>rw[own1_vw] at h;exact absurd h List.not_mem_nil
 | fr d=>rw[own1_fr] at h;exact absurd h List.not_mem_nil
 | tr S d =>
  cases x with
  | none=>exact absurd h List.not_mem_nil
  | some v=>rw[own1_tr] at h;exact .inr ⟨S,d,rfl,h⟩
 | ow ds =>
  cases x with
  | none=>exact absurd h List.not_mem_nil
  | some v=>cases v with
   | ref b=>rw[List.mem_singleton.mp h];exact .inl ⟨rfl,.inl ⟨ds,rfl⟩⟩
   | _=>exact absurd h List.not_mem_nil
 | io ds =>
  cases x with
  | none=>exact absurd h List.not_mem_nil
  | some v=>cases v with
   | ref b=>rw[List.mem_singleton.mp h];exact .inl ⟨rfl,.inr ⟨ds,rfl⟩⟩
   | _=>exact absurd h List.not_mem_nil
structure RelE (K:PySem.W.Frag) (M P:Addr→Prop) (H0:Hp) (E:List Ent) (H:Hp):Prop where
 keep:Keep P H0 H
 live:∀ a,H0 a≠none→H a≠none
 mt : ∀ a,M a→H0 a≠none
 pm : ∀ a,P a→M a
 fr : ∀ x d,(x,Sl.fr d)∈E→∃ v,x=some v∧DN K (Nw M E) H v d
 ow : ∀ x ds,(x,Sl.ow ds)∈E→∃ a vs,x=some (.ref a)∧H a=some (.lst vs)∧DNs K (Nw M E) H vs ds∧H0 a=none
 io : ∀ x ds,(x,Sl.io ds)∈E→∃ a vs,x=some (.ref a)∧H a=some (.lst vs)∧DNs K (Nw M E) H vs ds∧P a
 tr : ∀ x S d,(x,Sl.tr S d)∈E→∃ v,x=some v∧OT K (Nw M E) H v d S∧∀ a∈S,H0 a=none
 nd : (oas E).Nodup
section
variable {K:PySem.W.Frag}{M P:Addr→Prop}{H0 H H':Hp}{E E' A B:List Ent}{e e':Ent}
theorem RelE.own (h:RelE K M P H0 E H) {a:Addr} (ha:a∈oas E):∃ o,H a=some o∧(H0 a=none∨P a):=by
 obtain ⟨⟨x,s⟩,he,eo⟩:=mem_oas.mp ha
 rcases own1_some eo with ⟨e1,e2⟩|⟨S,d,e2,ms⟩
 rotate_left
 ·simp only at e2;subst e2
  obtain ⟨v,_,q,r⟩:=h.tr _ _ _ he
  obtain ⟨vs,z⟩:=q.lives a ms
  exact ⟨vs,z,.inl (r a ms)⟩
 rcases e2 with ⟨ds,e2⟩|⟨ds,e2⟩
 ·simp only at e1 e2;subst e1 e2
  obtain ⟨b,vs,z,q,_,r⟩:=h.ow _ _ he
  cases z
  exact ⟨_,q,.inl r⟩
 ·simp only at e1 e2;subst e1 e2
  obtain ⟨b,vs,z,q,_,r⟩:=h.io _ _ he
  cases z
  exact ⟨_,q,.inr r⟩
theorem Nw.sub (h:∀ a,a∈oas E'→a∈oas E):∀ b,Nw M E' b→Nw M E b:=fun b z=>by
 rcases z with z|z
 ·exact .inl z
 ·exact .inr (h b z)
theorem RelE.sub (h:RelE K M P H0 E H) (hm:∀ x s,(x,s)∈E'→(x,s)∈E∨s=.un∨∃ i,s=.vw i) (nd:(oas E').Nodup):RelE K M P H0 E' H:=by
 have os:∀ a,a∈oas E'→a∈oas E:=fun a ha=>by
  obtain ⟨⟨x,s⟩,he,eo⟩:=mem_oas.mp ha
  rcases hm x s he with q|q|⟨i,q⟩
  ·exact mem_oas.mpr ⟨_,q,eo⟩
  ·subst q;rw[own1_un] at eo;cases eo
  ·subst q;rw[own1_vw] at eo;cases eo
 have up:=Nw.sub (M:=M) os
 refine ⟨h.keep,h.live,h.mt,h.pm,fun x d m=>?_,fun x d m=>?_,fun x d m=>?_,fun x S d m=>?_,nd⟩
 rotate_right
 ·rcases hm _ _ m with q|q|⟨i,q⟩
  ·obtain ⟨v,e,dn,r⟩:=h.tr x S d q
   exact ⟨v,e,dn.to fun b _ _ z=>up b z,r⟩
  ·cases q
  ·cases q
 ·rcases hm _ _ m with q|q|⟨i,q⟩
  ·obtain ⟨v,e,dn⟩:=h.fr x d q
   exact ⟨v,e,dn.to fun b _ _ z=>up b z⟩
  ·cases q
  ·cases q
 ·rcases hm _ _ m with q|q|⟨i,q⟩
  ·obtain ⟨a,vs,e,e2,dn,r⟩:=h.ow x d q
   exact ⟨a,vs,e,e2,dn.to fun b _ _ z=>up b z,r⟩
  ·cases q
  ·cases q
 ·rcases hm _ _ m with q|q|⟨i,q⟩
  ·obtain ⟨a,vs,e,e2,dn,r⟩:=h.io x d q
   exact ⟨a,vs,e,e2,dn.to fun b _ _ z=>up b z,r⟩
  ·cases q
  ·cases q
theorem RelE.drop (h:RelE K M P H0 (E++B) H):RelE K M P H0 E H:=h.sub (fun x s m=>.inl (List.mem_append_left _ m)) (by
 have:=h.nd
 rw [oas_app] at this
 exact (List.nodup_append.mp this).1)
theorem RelE.same (h:RelE K M P H0 E H) (k:Same H H'):RelE K M P H0 E H':=by
 refine ⟨h.keep.trans (Keep.same k),fun a q z=>?_,h.mt,h.pm,fun x d m=>?_,fun x d m=>?_,fun x d m=>?_,fun x S d m=>?_,h.nd⟩
 rotate_right
 ·obtain ⟨v,e,dn,r⟩:=h.tr x S d m
  exact ⟨v,e,dn.keep (Keep.same k) fun a ha=>by
   obtain ⟨xs,z⟩:=dn.lives a ha
   rw [k a _ z,z],r⟩
 ·have q1:=h.live a q
  cases e:H a with
  | none=>exact q1 e
  | some o=>rw[k a o e] at z;cases z
 ·obtain ⟨v,e,dn⟩:=h.fr x d m
  exact ⟨v,e,dn.keep (Keep.same k)⟩
 ·obtain ⟨a,vs,e,e2,dn,r⟩:=h.ow x d m
  exact ⟨a,vs,e,k _ _ e2,dn.keep (Keep.same k),r⟩
 ·obtain ⟨a,vs,e,e2,dn,r⟩:=h.io x d m
  exact ⟨a,vs,e,k _ _ e2,dn.keep (Keep.same k),r⟩
theorem RelE.addFr (h:RelE K M P H0 E H) {v:V}{d:PyData} (dn:DN K (Nw M E) H v d):RelE K M P H0 (E++[(some v,.fr d)]) H:=by
 have oe:oas (E++[(some v,Sl.fr d)])=oas E:=by
  rw [oas_app,oas_cons,own1_fr]
  simp [oas]
 have ne:Nw M (E++[(some v,Sl.fr d)])=Nw M E:=by unfold Nw;rw[oe]
 refine ⟨h.keep,h.live,h.mt,h.pm,fun x d' m=>?_,fun x d' m=>?_,fun x d' m=>?_,fun x S d' m=>?_,by rw[oe];exact h.nd⟩
 rotate_right
 ·rw [ne]
  rcases List.mem_append.mp m with m|m
  ·exact h.tr x S d' m
  ·rw [List.mem_singleton] at m
   cases m
 ·rw [ne]
  rcases List.mem_append.mp m with m|m
  ·exact h.fr x d' m
  ·rw [List.mem_singleton] at m
   cases m
   exact ⟨v,rfl,dn⟩
 ·rw [ne]
  rcases List.mem_append.mp m with m|m
  ·exact h.ow x d' m
  ·rw [List.mem_singleton] at m
   cases m
 ·rw [ne]
  rcases List.mem_append.mp m with m|m
  ·exact h.io x d' m
  ·rw [List.mem_singleton] at m
   cases m
theorem RelE.addVw (h:RelE K M P H0 E H) {v:V}{i:Nat}:RelE K M P H0 (E++[(some v,.vw i)]) H:=by
 refine h.sub (fun x s m=>?_) ?_
 ·rcases List.mem_append.mp m with m|m
  ·exact .inl m
  ·rw [List.mem_singleton] at m
   cases m
   exact .inr (.inr ⟨i,rfl⟩)
 ·rw [oas_app,oas_cons,own1_vw]
  simpa [oas] using h.nd
theorem RelE.addOw (h:RelE K M P H0 E H) {p:Addr}{vs:List V}{ds:List PyData} (hp:H p=none) (dns:DNs K (Nw M E) H vs ds):RelE K M P H0 (E++[(some (.ref p),.ow ds)]) (upd H p (.lst vs)):=by
 have oe:oas (E++[(some (.ref p),Sl.ow ds)])=oas E++[p]:=by
  rw [oas_app]
  rfl
 have np:p ∉ oas E:=fun z=>by
  obtain ⟨vs',q,_⟩:=h.own z
  rw [hp] at q
  cases q
 have h0:H0 p=none:=by
  cases e:H0 p with
  | none=>rfl
  | some o=>exact absurd hp (h.live p (by rw[e];simp))
 have up:∀ b o,H b=some o→Nw M (E++[(some (.ref p),Sl.ow ds)]) b→Nw M E b:=fun b o e z=>by
  rcases z with z|z
  ·exact .inl z
  ·rw [oe] at z
   rcases List.mem_append.mp z with z|z
   ·exact .inr z
   ·rw [List.mem_singleton.mp z,hp] at e
    cases e
 have h':=h.same (Same.new (o:=.lst vs) hp)
 refine ⟨h'.keep,h'.live,h.mt,h.pm,fun x d' m=>?_,fun x d' m=>?_,fun x d' m=>?_,fun x S d' m=>?_,?_⟩
 rotate_right 2
 ·rcases List.mem_append.mp m with m|m
  ·obtain ⟨v,e,dn,r⟩:=h.tr x S d' m
   exact ⟨v,e,(dn.to up).keep (Keep.same (Same.new hp)) fun a ha=>by
    obtain ⟨xs,z⟩:=dn.lives a ha
    rw [Same.new hp _ _ z,z],r⟩
  ·rw [List.mem_singleton] at m
   cases m
 rotate_left
 ·rcases List.mem_append.mp m with m|m
  ·obtain ⟨v,e,dn⟩:=h.fr x d' m
   exact ⟨v,e,(dn.to up).keep (Keep.same (Same.new hp))⟩
  ·rw [List.mem_singleton] at m
   cases m
 ·rcases List.mem_append.mp m with m|m
  ·obtain ⟨a,ws,e,e2,dn,r⟩:=h.ow x d' m
   exact ⟨a,ws,e,Same.new hp _ _ e2,(dn.to up).keep (Keep.same (Same.new hp)),r⟩
  ·rw [List.mem_singleton] at m
   cases m
   exact ⟨p,vs,rfl,upd_same,(dns.to up).keep (Keep.same (Same.new hp)),h0⟩
 ·rcases List.mem_append.mp m with m|m
  ·obtain ⟨a,ws,e,e2,dn,r⟩:=h.io x d' m
   exact ⟨a,ws,e,Same.new hp _ _ e2,(dn.to up).keep (Keep.same (Same.new hp)),r⟩
  ·rw [List.mem_singleton] at m
   cases m
 ·rw [oe]
  exact List.nodup_append.mpr ⟨h.nd,by simp,fun a ha b hb=>by rw[List.mem_singleton.mp hb];exact fun z=>np (z▸ha)⟩
theorem RelE.freeze {a:Addr}{ds:List PyData} (h:RelE K M P H0 (A++(some (.ref a),.ow ds)::B) H):RelE K M P H0 (A++(some (.ref a),.fr (.list ds))::B) H:=by
 have oe:oas (A++(some (.ref a),Sl.ow ds)::B)=oas A++a::oas B:=by rw[oas_app,oas_cons];rfl
 have oe':oas (A++(some (.ref a),Sl.fr (.list ds))::B)=oas A++oas B:=by rw[oas_app,oas_cons];rfl
 have nd:=h.nd
 rw [oe] at nd
 obtain ⟨n1,n2,n3⟩:=List.nodup_append.mp nd
 obtain ⟨n4,n5⟩:=List.nodup_cons.mp n2
 have up:∀ b,Nw M (A++(some (.ref a),Sl.fr (.list ds))::B) b→Nw M (A++(some (.ref a),Sl.ow ds)::B) b:=Nw.sub fun b z=>by
  rw [oe'] at z
  rw [oe]
  rcases List.mem_append.mp z with z|z
  ·exact List.mem_append_left _ z
  ·exact List.mem_append_right _ (List.mem_cons_of_mem _ z)
 have me:(some (.ref a),Sl.ow ds)∈A++(some (.ref a),Sl.ow ds)::B:=List.mem_append_right _ List.mem_cons_self
 obtain ⟨a',vs,z,ha,dns,h0⟩:=h.ow _ _ me
 cases z
 have na:¬Nw M (A++(some (.ref a),Sl.fr (.list ds))::B) a:=fun z=>by
  rcases z with z|z
  ·exact h.mt a z h0
  ·rw [oe'] at z
   rcases List.mem_append.mp z with z|z
   ·exact n3 a z a List.mem_cons_self rfl
   ·exact n4 z
 have old:∀ x s,(x,s)∈A++(some (.ref a),Sl.fr (.list ds))::B→(x,s)=(some (.ref a),Sl.fr (.list ds))∨(x,s)∈A++(some (.ref a),Sl.ow ds)::B:=fun x s m=>by
  rcases List.mem_append.mp m with m|m
  ·exact .inr (List.mem_append_left _ m)
  ·rcases List.mem_cons.mp m with m|m
   ·exact .inl m
   ·exact .inr (List.mem_append_right _ (List.mem_cons_of_mem _ m))
 refine ⟨h.keep,h.live,h.mt,h.pm,fun x d m=>?_,fun x d m=>?_,fun x d m=>?_,fun x S d m=>?_,?_⟩
 rotate_right 2
 ·rcases old _ _ m with m|m
  ·cases m
  ·obtain ⟨v,e,dn,r⟩:=h.tr x S d m
   exact ⟨v,e,dn.to fun b _ _ z=>up b z,r⟩
 rotate_left
 ·rcases old _ _ m with m|m
  ·cases m
   exact ⟨_,rfl,.lst (SnL.of ha na) (dns.to fun b _ _ z=>up b z)⟩
  ·obtain ⟨v,e,dn⟩:=h.fr x d m
   exact ⟨v,e,dn.to fun b _ _ z=>up b z⟩
 ·rcases old _ _ m with m|m
  ·cases m
  ·obtain ⟨b,ws,e,e2,dn,r⟩:=h.ow x d m
   exact ⟨b,ws,e,e2,dn.to fun b _ _ z=>up b z,r⟩
 ·rcases old _ _ m with m|m
  ·cases m
  ·obtain ⟨b,ws,e,e2,dn,r⟩:=h.io x d m
   exact ⟨b,ws,e,e2,dn.to fun b _ _ z=>up b z,r⟩
 ·rw [oe']
  exact List.nodup_append.mpr ⟨n1,n5,fun x hx y hy=>n3 x hx y (List.mem_cons_of_mem _ hy)⟩
theorem RelE.freezeT {v:V}{S:List Addr}{d:PyData} (h:RelE K M P H0 (A++(some v,.tr S d)::B) H):RelE K M P H0 (A++(some v,.fr d)::B) H:=by
 have oe:oas (A++(some v,Sl.tr S d)::B)=oas A++(S++oas B):=by rw[oas_app,oas_cons,own1_tr]
 have oe':oas (A++(some v,Sl.fr d)::B)=oas A++oas B:=by rw[oas_app,oas_cons,own1_fr];rfl
 have nd:=h.nd
 rw [oe] at nd
 obtain ⟨n1,n2,n3⟩:=List.nodup_append.mp nd
 obtain ⟨n4,n5,n6⟩:=List.nodup_append.mp n2
 have up:∀ b,Nw M (A++(some v,Sl.fr d)::B) b→Nw M (A++(some v,Sl.tr S d)::B) b:=Nw.sub fun b z=>by
  rw [oe'] at z
  rw [oe]
  rcases List.mem_append.mp z with z|z
  ·exact List.mem_append_left _ z
  ·exact List.mem_append_right _ (List.mem_append_right _ z)
 have me:(some v,Sl.tr S d)∈A++(some v,Sl.tr S d)::B:=List.mem_append_right _ List.mem_cons_self
 obtain ⟨v',z,ot,h0⟩:=h.tr _ _ _ me
 cases z
 have na:∀ a∈S,¬Nw M (A++(some v,Sl.fr d)::B) a:=fun a ha z=>by
  rcases z with z|z
  ·exact h.mt a z (h0 a ha)
  ·rw [oe'] at z
   rcases List.mem_append.mp z with z|z
   ·exact n3 a z a (List.mem_append_left _ ha) rfl
   ·exact n6 a ha a z rfl
 have old:∀ x s,(x,s)∈A++(some v,Sl.fr d)::B→(x,s)=(some v,Sl.fr d)∨(x,s)∈A++(some v,Sl.tr S d)::B:=fun x s m=>by
  rcases List.mem_append.mp m with m|m
  ·exact .inr (List.mem_append_left _ m)
  ·rcases List.mem_cons.mp m with m|m
   ·exact .inl m
   ·exact .inr (List.mem_append_right _ (List.mem_cons_of_mem _ m))
 refine ⟨h.keep,h.live,h.mt,h.pm,fun x d' m=>?_,fun x d' m=>?_,fun x d' m=>?_,fun x S' d' m=>?_,?_⟩
 ·rcases old _ _ m with m|m
  ·cases m
   exact ⟨_,rfl,ot.dn up na⟩
  ·obtain ⟨v,e,dn⟩:=h.fr x d' m
   exact ⟨v,e,dn.to fun b _ _ z=>up b z⟩
 ·rcases old _ _ m with m|m
  ·cases m
  ·obtain ⟨b,ws,e,e2,dn,r⟩:=h.ow x d' m
   exact ⟨b,ws,e,e2,dn.to fun b _ _ z=>up b z,r⟩
 ·rcases old _ _ m with m|m
  ·cases m
  ·obtain ⟨b,ws,e,e2,dn,r⟩:=h.io x d' m
   exact ⟨b,ws,e,e2,dn.to fun b _ _ z=>up b z,r⟩
 ·rcases old _ _ m with m|m
  ·cases m
  ·obtain ⟨v,e,dn,r⟩:=h.tr x S' d' m
   exact ⟨v,e,dn.to fun b _ _ z=>up b z,r⟩
 ·rw [oe']
  exact List.nodup_append.mpr ⟨n1,n5,fun x hx y hy=>n3 x hx y (List.mem_append_right _ hy)⟩
noncomputable def isOw:Sl→List PyData→Sl→Prop
 | .ow _,ds',s'=>s'=.ow ds'
 | .io _,ds',s'=>s'=.io ds'
 | _,_,_=>False
theorem isOw_two {s s':Sl}{l:List PyData} (h:isOw s l s'):(∃ d,s=.ow d∧s'=.ow l)∨∃ d,s=.io d∧s'=.io l:=by
 cases s with
 | ow d=>exact .inl ⟨d,rfl,h⟩
 | io d=>exact .inr ⟨d,rfl,h⟩
 | _=>exact h.elim
theorem isOw_own {s s':Sl}{l:List PyData}{a:Addr} (h:isOw s l s'):own1 (some (.ref a),s)=[a]∧own1 (some (.ref a),s')=[a]:=by
 rcases isOw_two h with ⟨_,rfl,rfl⟩|⟨_,rfl,rfl⟩ <;> exact⟨rfl,rfl⟩
theorem RelE.muted {a:Addr}{s s':Sl}{vs':List V}{ds':List PyData} (h:RelE K M P H0 (A++(some (.ref a),s)::B) H) (hs:isOw s ds' s') (k:Keep (fun b=>b=a) H H') (lv:∀ b,H b≠none→H' b≠none)
  (ha:H' a=some (.lst vs')) (dns:DNs K (Nw M (A++(some (.ref a),s)::B)) H' vs' ds'):RelE K M P H0 (A++(some (.ref a),s')::B) H':=by
 have oa:own1 (some (.ref a),s)=[a]∧own1 (some (.ref a),s')=[a]:=isOw_own hs
 have oe:oas (A++(some (.ref a),s)::B)=oas A++a::oas B:=by rw[oas_app,oas_cons,oa.1];rfl
 have oe':oas (A++(some (.ref a),s')::B)=oas A++a::oas B:=by rw[oas_app,oas_cons,oa.2];rfl
 have ne:Nw M (A++(some (.ref a),s')::B)=Nw M (A++(some (.ref a),s)::B):=by unfold Nw;rw[oe,oe']
 have na:Nw M (A++(some (.ref a),s)::B) a:=.inr (by rw[oe];simp)
 have nd:=h.nd
 rw [oe] at nd
 obtain ⟨n1,n2,n3⟩:=List.nodup_append.mp nd
 obtain ⟨n4,n5⟩:=List.nodup_cons.mp n2
 have kN:Keep (Nw M (A++(some (.ref a),s)::B)) H H':=k.mono fun b z=>by rw[z];exact na
 obtain ⟨ws,hw,hP⟩:=h.own (a:=a) (by rw[oe];simp)
 have other:∀ x t b,(x,t)∈A∨(x,t)∈B→b∈own1 (x,t)→b≠a:=fun x t b m eo z=>by
  subst z
  rcases m with m|m
  ·exact n3 b (mem_oas.mpr ⟨_,m,eo⟩) b List.mem_cons_self rfl
  ·exact n4 (mem_oas.mpr ⟨_,m,eo⟩)
 have old:∀ x t,(x,t)∈A++(some (.ref a),s')::B→(x,t)=(some (.ref a),s')∨((x,t)∈A∨(x,t)∈B):=fun x t m=>by
  rcases List.mem_append.mp m with m|m
  ·exact .inr (.inl m)
  ·rcases List.mem_cons.mp m with m|m
   ·exact .inl m
   ·exact .inr (.inr m)
 have back:∀ x t,(x,t)∈A∨(x,t)∈B→(x,t)∈A++(some (.ref a),s)::B:=fun x t m=>by
  rcases m with m|m
  ·exact List.mem_append_left _ m
  ·exact List.mem_append_right _ (List.mem_cons_of_mem _ m)
 have me:(some (.ref a),s)∈A++(some (.ref a),s)::B:=List.mem_append_right _ List.mem_cons_self
 refine ⟨?_,fun b q=>lv b (h.live b q),h.mt,h.pm,fun x d m=>?_,fun x d m=>?_,fun x d m=>?_,fun x S d m=>?_,by rw[oe'];exact nd⟩
 rotate_right
 ·rw [ne]
  rcases old _ _ m with m|m
  ·rcases isOw_two hs with ⟨_,_,e⟩|⟨_,_,e⟩ <;> (rw[e] at m;cases m)
  ·obtain ⟨v,e,dn,r⟩:=h.tr x S d (back _ _ m)
   subst e
   refine ⟨v,rfl,dn.keep kN fun b hb=>?_,r⟩
   obtain ⟨xs,z⟩:=dn.lives b hb
   rw [k _ _ (other _ _ b m (by rw[own1_tr];exact hb)) z,z]
 ·intro b o np e
  by_cases hb:b=a
  ·subst hb
   rcases hP with q|q
   ·rw [q] at e;cases e
   ·exact absurd q np
  ·exact k b o hb (h.keep b o np e)
 ·rw [ne]
  rcases old _ _ m with m|m
  ·rcases isOw_two hs with ⟨_,_,e⟩|⟨_,_,e⟩ <;> (rw[e] at m;cases m)
  ·obtain ⟨v,e,dn⟩:=h.fr x d (back _ _ m)
   exact ⟨v,e,dn.keep kN⟩
 ·rw [ne]
  rcases old _ _ m with m|m
  ·rcases isOw_two hs with ⟨d0,e1,e2⟩|⟨_,_,e2⟩ <;> (rw[e2] at m;cases m)
   obtain ⟨b,us,e,_,_,r⟩:=h.ow (some (.ref a)) d0 (List.mem_append_right _ (by rw[e1];exact List.mem_cons_self))
   cases e
   exact ⟨a,vs',rfl,ha,dns,r⟩
  ·obtain ⟨b,us,e,e2,dn,r⟩:=h.ow x d (back _ _ m)
   subst e
   exact ⟨b,us,rfl,k _ _ (other _ _ b m (List.mem_singleton.mpr rfl)) e2,dn.keep kN,r⟩
 ·rw [ne]
  rcases old _ _ m with m|m
  ·rcases isOw_two hs with ⟨_,_,e2⟩|⟨d0,e1,e2⟩ <;> (rw[e2] at m;cases m)
   obtain ⟨b,us,e,_,_,r⟩:=h.io (some (.ref a)) d0 (List.mem_append_right _ (by rw[e1];exact List.mem_cons_self))
   cases e
   exact ⟨a,vs',rfl,ha,dns,r⟩
  ·obtain ⟨b,us,e,e2,dn,r⟩:=h.io x d (back _ _ m)
   subst e
   exact ⟨b,us,rfl,k _ _ (other _ _ b m (List.mem_singleton.mpr rfl)) e2,dn.keep kN,r⟩
theorem RelE.mut {a:Addr}{s s':Sl}{vs':List V}{ds':List PyData} (h:RelE K M P H0 (A++(some (.ref a),s)::B) H) (hs:isOw s ds' s') (dns:DNs K (Nw M (A++(some (.ref a),s)::B)) H vs' ds') :
  RelE K M P H0 (A++(some (.ref a),s')::B) (upd H a (.lst vs')) :=
 have oa:own1 (some (.ref a),s)=[a]:=(isOw_own hs).1
 h.muted hs (fun b o hb e=>by rw[upd_ne hb];exact e) (fun b q z=>by
  by_cases hb:b=a
  ·rw [hb,upd_same] at z;cases z
  ·rw [upd_ne hb] at z;exact q z) upd_same (dns.keep (Keep.own (.inr (mem_oas.mpr ⟨_,List.mem_append_right _ List.mem_cons_self,by rw[oa];exact List.mem_singleton.mpr rfl⟩))))
theorem RelE.move {t:Ent} (h:RelE K M P H0 (A++e::(B++[t])) H):RelE K M P H0 (A++t::B) H:=by
 refine h.sub (fun x s m=>.inl ?_) ?_
 ·rcases List.mem_append.mp m with m|m
  ·exact List.mem_append_left _ m
  ·rcases List.mem_cons.mp m with m|m
   ·exact List.mem_append_right _ (List.mem_cons_of_mem _ (List.mem_append_right _ (by rw[m];simp)))
   ·exact List.mem_append_right _ (List.mem_cons_of_mem _ (List.mem_append_left _ m))
 ·have nd:=h.nd
  have eq1:oas (A++e::(B++[t]))=oas A++(oas [e]++(oas B++oas [t])):=by
   rw [oas_app,show e::(B++[t])=[e]++(B++[t]) from rfl,oas_app,oas_app]
  have eq2:oas (A++t::B)=oas A++(oas [t]++oas B):=by
   rw [oas_app,show t::B=[t]++B from rfl,oas_app]
  rw [eq1] at nd
  rw [eq2]
  obtain ⟨n1,n2,n3⟩:=List.nodup_append.mp nd
  obtain ⟨_,n4,_⟩:=List.nodup_append.mp n2
  obtain ⟨n5,n6,n7⟩:=List.nodup_append.mp n4
  refine List.nodup_append.mpr ⟨n1,List.nodup_append.mpr ⟨n6,n5,fun x hx y hy z=>n7 y hy x hx z.symm⟩,fun x hx y hy=>?_⟩
  refine n3 x hx y (List.mem_append_right _ ?_)
  rcases List.mem_append.mp hy with hy|hy
  ·exact List.mem_append_right _ hy
  ·exact List.mem_append_left _ hy
end
end L2
namespace L2
open PySem PySem.Spec PyProof.Rows
structure Rel (K:PySem.W.Frag) (M P:Addr→Prop) (H0:Hp) (σ0 σ:St) (env:List Sl) (ts:List (V×Sl)) (H:Hp):Prop where
 e : RelE K M P H0 (ents σ env ts) H
 len:σ.length=env.length
 vw : ∀ (v:V) (i:Nat),(v,Sl.vw i)∈ts→σ[i]? = some (some v)
 ios:∀ (i:Nat) (ds:List PyData),env[i]? = some (Sl.io ds)→σ[i]? = σ0[i]?
inductive Vw (K:PySem.W.Frag) (N:Addr→Prop) (H:Hp):V→PyData→Prop
 | dn {v d}:DN K N H v d→Vw K N H v d
 | ow {a vs ds}:H a=some (.lst vs)→DNs K N H vs ds→Vw K N H (.ref a) (.list ds)
 | dct {a:Addr}{es:List (StdK×Addr×V)}{kvs:List (StdK×PyData)}:H a=some (.ext (DctAt a es))→DNs K N H (es.map fun p=>V.int p.1) (kvs.map fun p=>stdD p.1)→DNs K N H (es.map fun p=>p.2.2) (kvs.map fun p=>p.2)→es.map (fun p=>p.1)=kvs.map (fun p=>p.1)→Vw K N H (.ref a) (dctD kvs)
noncomputable def slD:Sl→Option PyData
 | .fr d=>some d
 | .ow ds=>some (.list ds)
 | .io ds=>some (.list ds)
 | .tr _ (.dict kvs)=>some (.dict kvs)
 | _=>none
noncomputable def valOf (env:List Sl):Sl→Option PyData
 | .vw i=>(env[i]?).bind slD
 | .fr d=>some d
 | .ow ds=>some (.list ds)
 | .io ds=>some (.list ds)
 | .tr _ (.dict kvs)=>some (.dict kvs)
 | _=>none
noncomputable def slK:Sl→Option PyData
 | .fr d=>some d
 | _=>none
noncomputable def keepOf (env:List Sl):Sl→Option PyData
 | .vw i=>(env[i]?).bind slK
 | .fr d=>some d
 | .ow ds=>some (.list ds)
 | .tr _ d=>some d
 | _=>none
section
variable {K:PySem.W.Frag}{M P N:Addr→Prop}{H0 H H':Hp}{σ0 σ:St}{env:List Sl}{ts tt:List (V×Sl)}{v:V}{s:Sl}{d:PyData}
theorem ents_app:ents σ env (ts++tt)=ents σ env ts++tmp tt:=by
 unfold ents
 rw [List.append_assoc]
 simp [tmp]
theorem OT.dict_view {S:List Addr}{kvs:List (PyData×PyData)} (h:OT K N H v (.dict kvs) S):Vw K N H v (.dict kvs):=by
 generalize e:PyData.dict kvs=d at h
 cases h with
 | dct h q r e2=>exact .dct h q r e2
 | fz h=>exact .dn (.fz h)
 | _=>cases e
theorem Vw.dv (h:Vw K N H v d):DV K H v d:=by
 cases h with
 | dn h=>exact h.dv
 | ow h q=>exact .lst (SqL.of h) q.dv
 | dct h q r e=>exact .dct h q.dv r.dv e
theorem Vw.list {ds:List PyData} (h:Vw K N H v (.list ds)):∃ a vs,v=.ref a∧SqL K H a vs∧DNs K N H vs ds:=by
 cases h with
 | dn h=>obtain⟨a,vs,e,s,q⟩:=h.list;exact⟨a,vs,e,s.sq,q⟩
 | ow h q=>exact⟨_,_,rfl,SqL.of h,q⟩
theorem Vw.tuple {ds:List PyData} (h:Vw K N H v (.tuple ds)):∃ a vs,v=.ref a∧SqT K H a vs∧DNs K N H vs ds:=by
 cases h with
 | dn h=>obtain⟨a,vs,e,s,q⟩:=h.tuple;exact⟨a,vs,e,s.sq,q⟩
theorem Vw.int {i:Int} (h:Vw K N H v (.int i)):v=.int i:=by
 cases h with
 | dn h=>cases h;rfl
theorem Vw.bool {i:Bool} (h:Vw K N H v (.bool i)):v=.bl i:=by
 cases h with
 | dn h=>cases h;rfl
theorem Vw.none (h:Vw K N H v .none):v=.non:=by
 cases h with
 | dn h=>cases h;rfl
theorem Vw.str {i:Str} (h:Vw K N H v (.str i)):v=.str i:=by
 cases h with
 | dn h=>cases h;rfl
theorem zip_at (h:σ.length=env.length) {i:Nat} (e:env[i]? = some s):∃ x,σ[i]? = some x∧(x,s)∈σ.zip env:=by
 have hi:i<env.length:=(List.getElem?_eq_some_iff.mp e).1
 have hj:i<σ.length:=by omega
 refine ⟨σ[i],List.getElem?_eq_getElem hj,?_⟩
 have hz:i<(σ.zip env).length:=by rw[List.length_zip];omega
 have:=List.getElem_mem hz
 rw [List.getElem_zip] at this
 rwa [(List.getElem?_eq_some_iff.mp e).2] at this
theorem mem_tmp (m:(v,s)∈ts):((some v,s):Ent)∈ents σ env ts:=List.mem_append_right _ (List.mem_map.mpr ⟨(v,s),m,rfl⟩)
theorem Rel.slot (h:Rel K M P H0 σ0 σ env ts H) {i:Nat} (e:env[i]? = some s):∃ x,σ[i]? = some x∧(x,s)∈ents σ env ts:=by
 obtain ⟨x,e1,m⟩:=zip_at h.len e
 exact ⟨x,e1,List.mem_append_left _ m⟩
theorem RelE.viewE {E:List Ent} (h:RelE K M P H0 E H) {x:Option V} (m:(x,s)∈E) (e:slD s=some d):∃ v,x=some v∧Vw K (Nw M E) H v d:=by
 cases s with
 | fr d' =>
  cases e
  obtain ⟨v,e1,dn⟩:=h.fr _ _ m
  exact ⟨v,e1,.dn dn⟩
 | ow ds =>
  cases e
  obtain ⟨a,vs,e1,e2,dn,_⟩:=h.ow _ _ m
  exact ⟨_,e1,.ow e2 dn⟩
 | io ds =>
  cases e
  obtain ⟨a,vs,e1,e2,dn,_⟩:=h.io _ _ m
  exact ⟨_,e1,.ow e2 dn⟩
 | un=>cases e
 | vw i=>cases e
 | tr S d' =>
  cases d' with
  | dict kvs =>
   cases e
   obtain ⟨v,e1,ot,_⟩:=h.tr _ _ _ m
   exact ⟨v,e1,ot.dict_view⟩
  | _=>cases e
theorem Rel.there (h:Rel K M P H0 σ0 σ env ts H) {i:Nat} (e:(env[i]?).bind slD=some d):∃ v,σ[i]? = some (some v)∧Vw K (Nw M (ents σ env ts)) H v d:=by
 cases q:env[i]? with
 | none=>rw[q] at e;cases e
 | some s =>
  rw [q] at e
  obtain ⟨x,e1,m⟩:=h.slot q
  obtain ⟨v,e2,w⟩:=h.e.viewE m e
  exact ⟨v,by rw[e1,e2],w⟩
theorem Rel.view (h:Rel K M P H0 σ0 σ env ts H) (m:(v,s)∈ts) (e:valOf env s=some d):Vw K (Nw M (ents σ env ts)) H v d:=by
 cases s with
 | vw i =>
  obtain ⟨w,e1,q⟩:=h.there e
  rw [h.vw v i m] at e1
  cases e1
  exact q
 | un=>cases e
 | tr S d' =>
  cases d' with
  | dict kvs=>obtain⟨w,e1,q⟩:=h.e.viewE (s:=.tr S (.dict kvs)) (mem_tmp m) e;cases e1;exact q
  | _=>cases e
 | fr d'=>obtain⟨w,e1,q⟩:=h.e.viewE (mem_tmp m) e;cases e1;exact q
 | ow d'=>obtain⟨w,e1,q⟩:=h.e.viewE (mem_tmp m) e;cases e1;exact q
 | io d'=>obtain⟨w,e1,q⟩:=h.e.viewE (mem_tmp m) e;cases e1;exact q
theorem nw_app {E B:List Ent}{b:Addr} (h:Nw M E b):Nw M (E++B) b:=by
 rcases h with h|h
 ·exact .inl h
 ·exact .inr (by rw[oas_app];exact List.mem_append_left _ h)
theorem Rel.drop (h:Rel K M P H0 σ0 σ env (ts++tt) H):Rel K M P H0 σ0 σ env ts H :=
 ⟨by have:=h.e;rw[ents_app] at this;exact this.drop,h.len,fun v i m=>h.vw v i (List.mem_append_left _ m),h.ios⟩
theorem Rel.same (h:Rel K M P H0 σ0 σ env ts H) (k:Same H H'):Rel K M P H0 σ0 σ env ts H':=⟨h.e.same k,h.len,h.vw,h.ios⟩
theorem Rel.addFr (h:Rel K M P H0 σ0 σ env ts H) (dn:DN K (Nw M (ents σ env ts)) H v d):Rel K M P H0 σ0 σ env (ts++[(v,.fr d)]) H :=
 ⟨by rw[ents_app];exact h.e.addFr dn,h.len,(fun w i m=>by
  rcases List.mem_append.mp m with m|m
  ·exact h.vw w i m
  ·rw [List.mem_singleton] at m;cases m),h.ios⟩
theorem Rel.addVw (h:Rel K M P H0 σ0 σ env ts H) {i:Nat} (e:σ[i]? = some (some v)):Rel K M P H0 σ0 σ env (ts++[(v,.vw i)]) H :=
 ⟨by rw[ents_app];exact h.e.addVw,h.len,(fun w i m=>by
  rcases List.mem_append.mp m with m|m
  ·exact h.vw w i m
  ·rw [List.mem_singleton] at m;cases m;exact e),h.ios⟩
theorem Rel.addOw (h:Rel K M P H0 σ0 σ env ts H) {p:Addr}{vs:List V}{ds:List PyData} (hp:H p=none) (dns:DNs K (Nw M (ents σ env ts)) H vs ds):Rel K M P H0 σ0 σ env (ts++[(.ref p,.ow ds)]) (upd H p (.lst vs)) :=
 ⟨by rw[ents_app];exact h.e.addOw hp dns,h.len,(fun w i m=>by
  rcases List.mem_append.mp m with m|m
  ·exact h.vw w i m
  ·rw [List.mem_singleton] at m;cases m),h.ios⟩
theorem Rel.res (h:Rel K M P H0 σ0 σ env (ts++tt) H) (k:Same H H') (dn:DN K (Nw M (ents σ env (ts++tt))) H' v d):Rel K M P H0 σ0 σ env (ts++[(v,.fr d)]) H' :=
 (h.drop.same k).addFr (dn.to fun b _ _ z=>by rw[ents_app];exact nw_app z)
theorem Rel.resOw (h:Rel K M P H0 σ0 σ env (ts++tt) H) {p:Addr}{vs:List V}{ds:List PyData} (hp:H p=none) (dns:DNs K (Nw M (ents σ env (ts++tt))) H vs ds):Rel K M P H0 σ0 σ env (ts++[(.ref p,.ow ds)]) (upd H p (.lst vs)) :=
 h.drop.addOw hp (dns.to fun b _ _ z=>by rw[ents_app];exact nw_app z)
end
noncomputable abbrev DE:=List Sl→(Sl→List Sl→Prop)→Prop
noncomputable abbrev DT:=List Sl→(Bool→List Sl→Prop)→Prop
noncomputable abbrev DA:=List Sl→(List Sl→List Sl→Prop)→Prop
structure Wn {α:Type} (a:α):Type
noncomputable def dK (R:Sl→List Sl→Prop) (_:Wn R):Sl→List Sl→Prop:=R
theorem dK_app (R:Sl→List Sl→Prop) (w:Wn R) (s:Sl) (env:List Sl):dK R w s env=R s env:=rfl
noncomputable def dI (W:List Sl→Prop) (_:Wn W):List Sl→Prop:=W
theorem dI_app (W:List Sl→Prop) (w:Wn W) (env:List Sl):dI W w env=W env:=rfl
noncomputable abbrev Wk (G Q:Prop):Prop:=(G→Q)→(Q→G)→Q→G
theorem wk_ite {c:Bool}{p A A' B B':Prop} [Decidable p] (e:c=decide p) (a:A'→A) (b:B'→B) (h:if p then A' else B'):if c=true then A else B:=by
 subst e
 by_cases q:p
 ·rw [if_pos q] at h
  rw [if_pos (decide_eq_true q)]
  exact a h
 ·rw [if_neg q] at h
  rw [if_neg fun z=>q (of_decide_eq_true z)]
  exact b h
noncomputable def up (K:PySem.W.Frag) (t:DE):TE:=fun σ H Q=>∃ (M P:Addr→Prop) (H0:Hp) (σ0:St) (env:List Sl) (ts:List (V×Sl)) (R:Sl→List Sl→Prop),Rel K M P H0 σ0 σ env ts H∧t env R ∧
 ∀ s env' v H',R s env'→Rel K M P H0 σ0 σ env' (ts++[(v,s)]) H'→Q v H'
noncomputable def upT (K:PySem.W.Frag) (t:DT):TT:=fun σ H Q=>∃ (M P:Addr→Prop) (H0:Hp) (σ0:St) (env:List Sl) (ts:List (V×Sl)) (R:Bool→List Sl→Prop),Rel K M P H0 σ0 σ env ts H∧t env R ∧
 ∀ b env' H',R b env'→Rel K M P H0 σ0 σ env' ts H'→Q b H'
noncomputable def upA (K:PySem.W.Frag) (t:DA):TA:=fun σ H Q=>∃ (M P:Addr→Prop) (H0:Hp) (σ0:St) (env:List Sl) (ts:List (V×Sl)) (R:List Sl→List Sl→Prop),Rel K M P H0 σ0 σ env ts H∧t env R ∧
 ∀ ss env' vs H',R ss env'→vs.length=ss.length→Rel K M P H0 σ0 σ env' (ts++vs.zip ss) H'→Q vs H'
theorem PE.imp {X:Cx}{e:Expr}{t t':TE} (h:PE X e t) (k:∀ σ H Q,t' σ H Q→t σ H Q):PE X e t':=fun pins s σ H Q I hw=>h pins s σ H Q I (k σ H Q hw)
theorem PT.imp {X:Cx}{e:Expr}{t t':TT} (h:PT X e t) (k:∀ σ H Q,t' σ H Q→t σ H Q):PT X e t':=fun pins s σ H Q I hw=>h pins s σ H Q I (k σ H Q hw)
theorem PW.imp {X:Cx}{e:Expr}{t t':TT} (h:PW X e t) (k:∀ σ H Q,t' σ H Q→t σ H Q):PW X e t':=fun wh pins s σ H Q I hw=>h wh pins s σ H Q I (k σ H Q hw)
theorem PA.imp {X:Cx}{e:List Expr}{t t':TA} (h:PA X e t) (k:∀ σ H Q,t' σ H Q→t σ H Q):PA X e t':=fun pos pins s σ H Q I hw=>h pos pins s σ H Q I (k σ H Q hw)
section
variable {X:Cx}{K:PySem.W.Frag}{pos:Pos}{a b c:Expr}{ta tb tc:DE}{es:List Expr}{tA tB':DT}{tl:DA}
noncomputable def dVar (i:Nat):DE:=fun env R=>∃ d,(env[i]?).bind slD=some d∧R (.vw i) env
theorem qv (i:Nat) {x:Str} (hN:X.N[i]? = some x:=by rfl) (hv:Vis X.env.scope x:=by first|exact Or.inl rfl|exact Or.inr (Or.inl rfl)|exact Or.inr (Or.inr rfl)) (hd:(x==("__debug__" : Str))=false:=by decide)
  (hcd:(x==("__classdict__" : Str))=false:=by decide):PE X (.Name x pos) (up K (dVar i)):=(pe_var hN hv hd hcd).imp fun σ H Q h=>by
 obtain ⟨M,P,H0,σ0,env,ts,R,rel,⟨d,e,hR⟩,hq⟩:=h
 obtain ⟨v,e1,_⟩:=rel.there e
 exact ⟨v,e1,hq _ _ _ _ hR (rel.addVw e1)⟩
theorem mem_split {α:Type}:∀ {l:List α}{i:Nat}{x:α},l[i]? = some x→∃ A B,l=A++x::B∧∀ y,l.set i y=A++y::B
 | [],i,x,h=>by simp at h
 | z::l,0,x,h=>by
  simp at h
  subst h
  exact ⟨[],l,rfl,fun y=>rfl⟩
 | z::l,i+1,x,h=>by
  obtain ⟨A,B,e1,e2⟩:=mem_split (l:=l) (i:=i) (x:=x) (by simpa using h)
  exact ⟨z::A,B,by rw[e1];rfl,fun y=>by rw[List.set_cons_succ,e2 y];rfl⟩
theorem zip_get {α β:Type} (l:List α) (m:List β) (j:Nat):(l.zip m)[j]? = (l[j]?).bind fun a=>(m[j]?).map fun b=>(a,b):=by
 rw [List.zip,List.getElem?_zipWith]
 cases l[j]? <;> cases m[j]? <;> rfl
theorem zip_set {σ:St}{env:List Sl}{i:Nat}{x:Option V}{s':Sl} (h:σ[i]? = some x):σ.zip (env.set i s')=(σ.zip env).set i (x,s'):=by
 apply List.ext_getElem?
 intro j
 by_cases hj:i=j
 ·subst hj
  rw [List.getElem?_set_self',zip_get,zip_get,h]
  by_cases hi:i<env.length
  ·rw [List.getElem?_set_self hi,List.getElem?_eq_getElem hi]
   rfl
  ·rw [List.getElem?_eq_none (by simp;omega),List.getElem?_eq_none (by omega)]
   rfl
 ·rw [List.getElem?_set_ne hj,zip_get,zip_get,List.getElem?_set_ne hj]
theorem Rel.split {M P:Addr→Prop}{H0 H:Hp}{σ0 σ:St}{env:List Sl}{ts:List (V×Sl)}{i:Nat}{s:Sl} (h:Rel K M P H0 σ0 σ env ts H) (e:env[i]? = some s) :
  ∃ x A B,σ[i]? = some x∧ents σ env ts=A++(x,s)::B∧∀ s',ents σ (env.set i s') ts=A++(x,s')::B:=by
 obtain ⟨x,e1,m⟩:=zip_at h.len e
 have ez:(σ.zip env)[i]? = some (x,s):=by rw[List.zip,List.getElem?_zipWith,e1,e]
 obtain ⟨A,B,q1,q2⟩:=mem_split ez
 refine ⟨x,A,B++tmp ts,e1,by unfold ents;rw[q1];simp,fun s'=>?_⟩
 unfold ents
 rw [zip_set e1,q2]
 simp
noncomputable def dFrz (i:Nat):DE:=fun env R=>match env[i]? with
 | some (.fr d)=>R (.fr d) env
 | some (.tr _ d)=>R (.fr d) (env.set i (.fr d))
 | some (.ow ds)=>R (.fr (.list ds)) (env.set i (.fr (.list ds)))
 | _=>False
theorem Rel.frz {M P:Addr→Prop}{H0 H:Hp}{σ0 σ:St}{env:List Sl}{ts:List (V×Sl)}{i:Nat}{ds:List PyData} (h:Rel K M P H0 σ0 σ env ts H) (e:env[i]? = some (.ow ds)):Rel K M P H0 σ0 σ (env.set i (.fr (.list ds))) ts H:=by
 obtain ⟨x,A,B,e1,q1,q2⟩:=h.split e
 have r:=h.e
 rw [q1] at r
 obtain ⟨a,vs,z,_⟩:=r.ow _ _ (List.mem_append_right _ List.mem_cons_self)
 subst z
 refine ⟨by rw[q2];exact r.freeze,by simp[h.len],h.vw,fun j ds' e'=>?_⟩
 by_cases hj:i=j
 ·subst hj
  have hi:i<env.length:=(List.getElem?_eq_some_iff.mp e).1
  rw [List.getElem?_set_self hi] at e'
  cases e'
 ·rw [List.getElem?_set_ne hj] at e'
  exact h.ios j ds' e'
theorem Rel.frzT {M P:Addr→Prop}{H0 H:Hp}{σ0 σ:St}{env:List Sl}{ts:List (V×Sl)}{i:Nat}{S:List Addr}{d:PyData} (h:Rel K M P H0 σ0 σ env ts H) (e:env[i]? = some (.tr S d)):Rel K M P H0 σ0 σ (env.set i (.fr d)) ts H:=by
 obtain ⟨x,A,B,e1,q1,q2⟩:=h.split e
 have r:=h.e
 rw [q1] at r
 obtain ⟨v,z,_⟩:=r.tr _ _ _ (List.mem_append_right _ List.mem_cons_self)
 subst z
 refine ⟨by rw[q2];exact r.freezeT,by simp[h.len],h.vw,fun j ds' e'=>?_⟩
 by_cases hj:i=j
 ·subst hj
  have hi:i<env.length:=(List.getElem?_eq_some_iff.mp e).1
  rw [List.getElem?_set_self hi] at e'
  cases e'
 ·rw [List.getElem?_set_ne hj] at e'
  exact h.ios j ds' e'
theorem qf (i:Nat) {x:Str} (hN:X.N[i]? = some x:=by rfl) (hv:Vis X.env.scope x:=by first|exact Or.inl rfl|exact Or.inr (Or.inl rfl)|exact Or.inr (Or.inr rfl)) (hd:(x==("__debug__" : Str))=false:=by decide)
  (hcd:(x==("__classdict__" : Str))=false:=by decide):PE X (.Name x pos) (up K (dFrz i)):=(pe_var hN hv hd hcd).imp fun σ H Q h=>by
 obtain ⟨M,P,H0,σ0,env,ts,R,rel,ht,hq⟩:=h
 have key:∀ env' d,Rel K M P H0 σ0 σ env' ts H→env'[i]? = some (.fr d)→R (.fr d) env'→tVar i σ H Q:=fun env' d rel' e' hR=>by
  obtain ⟨x',e1,m⟩:=rel'.slot e'
  obtain ⟨v,e2,dn⟩:=rel'.e.fr _ _ m
  subst e2
  exact ⟨v,e1,hq _ _ _ _ hR (rel'.addFr dn)⟩
 unfold dFrz at ht
 split at ht
 ·rename_i d e
  exact key env d rel e ht
 ·rename_i S d e
  have hi:i<env.length:=(List.getElem?_eq_some_iff.mp e).1
  exact key _ _ (rel.frzT e) (List.getElem?_set_self hi) ht
 ·rename_i ds e
  have hi:i<env.length:=(List.getElem?_eq_some_iff.mp e).1
  exact key _ _ (rel.frz e) (List.getElem?_set_self hi) ht
 ·exact ht.elim
noncomputable def dC (d:PyData):DE:=fun env R=>R (.fr d) env
theorem q_int {i j}:PE X (.Constant (.int i) j pos) (up K (dC (.int i))):=pe_int.imp fun σ H Q h=>by
 obtain ⟨M,P,H0,σ0,env,ts,R,rel,ht,hq⟩:=h
 exact hq _ _ _ _ ht (rel.addFr (.int i))
theorem q_bl {i j}:PE X (.Constant (.bool i) j pos) (up K (dC (.bool i))):=pe_bl.imp fun σ H Q h=>by
 obtain ⟨M,P,H0,σ0,env,ts,R,rel,ht,hq⟩:=h
 exact hq _ _ _ _ ht (rel.addFr (.bl i))
theorem q_non {j}:PE X (.Constant .none j pos) (up K (dC .none)):=pe_non.imp fun σ H Q h=>by
 obtain ⟨M,P,H0,σ0,env,ts,R,rel,ht,hq⟩:=h
 exact hq _ _ _ _ ht (rel.addFr .non)
noncomputable abbrev G2:=PyData→PyData→(PyData→Prop)→Prop
noncomputable def dOp (g:G2) (ta tb:DE):DE:=fun env R=>ta env fun s1 env1=>tb env1 fun s2 env2=>∃ d1 d2,valOf env2 s1=some d1∧valOf env2 s2=some d2∧g d1 d2 fun d=>R (.fr d) env2
noncomputable def Means (K:PySem.W.Frag) (r:R2) (g:G2):Prop:=∀ (N:Addr→Prop) (H:Hp) (x y:V) (d1 d2:PyData) (R:PyData→Prop) (Q:VK),Vw K N H x d1→Vw K N H y d2→g d1 d2 R→(∀ d v,R d→DN K N H v d→Q v H)→r x y H Q
theorem op_up {r:R2}{g:G2} (m:Means K r g):∀ σ H Q,up K (dOp g ta tb) σ H Q→tOp r (up K ta) (up K tb) σ H Q:=fun σ H Q h=>by
 obtain ⟨M,P,H0,σ0,env,ts,R,rel,ht,hq⟩:=h
 refine ⟨M,P,H0,σ0,env,ts,_,rel,ht,fun s1 env1 v1 H1 h1 rel1=>⟨M,P,H0,σ0,env1,ts++[(v1,s1)],_,rel1,h1,fun s2 env2 v2 H2 h2 rel2=>?_⟩⟩
 obtain ⟨d1,d2,e1,e2,g⟩:=h2
 refine m _ H2 v1 v2 d1 d2 _ Q (rel2.view (by simp) e1) (rel2.view (by simp) e2) g fun d v hR dn=>hq _ _ _ _ hR ?_
 have rel2':Rel K M P H0 σ0 σ env2 (ts++[(v1,s1),(v2,s2)]) H2:=by simpa using rel2
 exact rel2'.res (Same.refl _) (by simpa using dn)
theorem q_op {op:Operator}{r:R2}{g:G2} (ho:OpR X (binaryOp op) r) (m:Means K r g) (ha:PE X a (up K ta)) (hb:PE X b (up K tb)):PE X (.BinOp a op b pos) (up K (dOp g ta tb)):=(pe_op ho ha hb).imp (op_up m)
theorem q_cmp {op:CmpOp}{r:R2}{g:G2} (ho:OpR X (compareOp op) r) (m:Means K r g) (ha:PE X a (up K ta)) (hb:PE X b (up K tb)) (hm:behindInMarks op b=false):PE X (.Compare a [op] [b] pos) (up K (dOp g ta tb)):=(pe_cmpR ho ha hb hm).imp (op_up m)
noncomputable def dTest (t:DE):DT:=fun env R=>t env fun s env1=>∃ k,valOf env1 s=some (.bool k)∧R k env1
theorem test_up {t:TE}{td:DE} (h:∀ σ H Q,up K td σ H Q→t σ H Q):∀ σ H Q,upT K (dTest td) σ H Q→tTest t σ H Q:=fun σ H Q hh=>by
 obtain ⟨M,P,H0,σ0,env,ts,R,rel,ht,hq⟩:=hh
 refine h σ H _ ⟨M,P,H0,σ0,env,ts,_,rel,ht,fun s1 env1 v1 H1 h1 rel1=>?_⟩
 obtain ⟨k,e,hR⟩:=h1
 exact ⟨k,(rel1.view (by simp) e).bool,hq _ _ _ hR rel1.drop⟩
theorem qt_cmp {op:CmpOp}{r:R2}{g:G2} (ho:OpR X (compareOp op) r) (m:Means K r g) (ha:PE X a (up K ta)) (hb:PE X b (up K tb)) (hm:behindInMarks op b=false):PT X (.Compare a [op] [b] pos) (upT K (dTest (dOp g ta tb))):=(pt_cmpR ho ha hb hm).imp (test_up (op_up m))
theorem q_ix {r:R2}{g:G2} (hr:IxR X r) (m:Means K r g) (ha:PE X a (up K ta)) (hb:PE X b (up K tb)) (hs:PlainIx b):PE X (.Subscript a b pos) (up K (dOp g ta tb)):=(pe_ix hr ha hb hs).imp (op_up m)
theorem qt_val {e:Expr}{t:DE} (h:PE X e (up K t)) (he:∀ whole,isTrue e X.env whole=(do let v ←whole;standAt e.pos;holding [v] (truthy v)):=by intro _;rfl):PT X e (upT K (dTest t)):=(pt_val h he).imp (test_up fun _ _ _ h=>h)
noncomputable def dAnd (t u:DT):DT:=fun env R=>t env fun k env1=>if k=true then u env1 R else R false env1
noncomputable def dOr (t u:DT):DT:=fun env R=>t env fun k env1=>if k=true then R true env1 else u env1 R
noncomputable def dNot (t:DT):DT:=fun env R=>t env fun k env1=>R (!k) env1
theorem qw_and1 (ha:PT X a (upT K tA)):PW X (.BoolOp .And [a] pos) (upT K tA):=pw_and1 ha
theorem qw_or1 (ha:PT X a (upT K tA)):PW X (.BoolOp .Or [a] pos) (upT K tA):=pw_or1 ha
theorem qw_and (ha:PT X a (upT K tA)) (hb:PW X (.BoolOp .And (b::es) pos) (upT K tB')):PW X (.BoolOp .And (a::b::es) pos) (upT K (dAnd tA tB')):=(pw_and ha hb).imp fun σ H Q h=>by
 obtain ⟨M,P,H0,σ0,env,ts,R,rel,ht,hq⟩:=h
 refine ⟨M,P,H0,σ0,env,ts,_,rel,ht,fun k env1 H1 h1 rel1=>?_⟩
 cases k with
 | true=>exact⟨M,P,H0,σ0,env1,ts,R,rel1,h1,hq⟩
 | false=>exact hq _ _ _ h1 rel1
theorem qw_or (ha:PT X a (upT K tA)) (hb:PW X (.BoolOp .Or (b::es) pos) (upT K tB')):PW X (.BoolOp .Or (a::b::es) pos) (upT K (dOr tA tB')):=(pw_or ha hb).imp fun σ H Q h=>by
 obtain ⟨M,P,H0,σ0,env,ts,R,rel,ht,hq⟩:=h
 refine ⟨M,P,H0,σ0,env,ts,_,rel,ht,fun k env1 H1 h1 rel1=>?_⟩
 cases k with
 | false=>exact⟨M,P,H0,σ0,env1,ts,R,rel1,h1,hq⟩
 | true=>exact hq _ _ _ h1 rel1
theorem qt_not (ha:PT X a (upT K tA)):PT X (.UnaryOp .Not a pos) (upT K (dNot tA)):=(pt_not ha).imp fun σ H Q h=>by
 obtain ⟨M,P,H0,σ0,env,ts,R,rel,ht,hq⟩:=h
 exact ⟨M,P,H0,σ0,env,ts,_,rel,ht,fun k env1 H1 h1 rel1=>hq _ _ _ h1 rel1⟩
noncomputable def dAndV (t u:DE):DE:=fun env R=>t env fun s env1=>∃ k,valOf env1 s=some (.bool k)∧if k=true then u env1 R else R (.fr (.bool false)) env1
noncomputable def dOrV (t u:DE):DE:=fun env R=>t env fun s env1=>∃ k,valOf env1 s=some (.bool k)∧if k=true then R (.fr (.bool true)) env1 else u env1 R
noncomputable def dNotV (t:DE):DE:=fun env R=>t env fun s env1=>∃ k,valOf env1 s=some (.bool k)∧R (.fr (.bool (!k))) env1
noncomputable def dIf (t:DT) (ta tb:DE):DE:=fun env R=>t env fun k env1=>if k=true then ta env1 R else tb env1 R
noncomputable def dChain (g g':G2) (ta tb tc:DE):DE:=fun env R=>ta env fun s1 env1=>tb env1 fun s2 env2=>∃ d1 d2,valOf env2 s1=some d1∧valOf env2 s2=some d2∧g d1 d2 fun d=>∃ k,d=.bool k ∧
 if k=true then tc env2 fun s3 env3=>∃ d2' d3,valOf env3 s2=some d2'∧valOf env3 s3=some d3∧g' d2' d3 fun d'=>R (.fr d') env3 else R (.fr (.bool false)) env2
noncomputable abbrev G1:=PyData→(PyData→Prop)→Prop
noncomputable def dUn (g:G1) (ta:DE):DE:=fun env R=>ta env fun s1 env1=>∃ d1,valOf env1 s1=some d1∧g d1 fun d=>R (.fr d) env1
theorem q_un {op:UnaryOp}{r:V→Hp→VK→Prop}{g:G1} (ho:UnR X (unaryOp op) r) (m:∀ (N:Addr→Prop) (H:Hp) (x:V) (d1:PyData) (R:PyData→Prop) (Q:VK),Vw K N H x d1→g d1 R→(∀ d v,R d→DN K N H v d→Q v H)→r x H Q)
  (ha:PE X a (up K ta)):PE X (.UnaryOp op a pos) (up K (dUn g ta)):=(pe_un ho ha).imp fun σ H Q h=>by
 obtain ⟨M,P,H0,σ0,env,ts,R,rel,ht,hq⟩:=h
 refine ⟨M,P,H0,σ0,env,ts,_,rel,ht,fun s1 env1 v1 H1 h1 rel1=>?_⟩
 obtain ⟨d1,e1,g⟩:=h1
 exact m _ H1 v1 d1 _ Q (rel1.view (by simp) e1) g fun d v hR dn=>hq _ _ _ _ hR (rel1.res (Same.refl _) dn)
noncomputable def dNil:DA:=fun env R=>R [] env
noncomputable def dCons (t:DE) (u:DA):DA:=fun env R=>t env fun s env1=>u env1 fun ss env2=>R (s::ss) env2
theorem qa_nil:PA X [] (upA K dNil):=pa_nil.imp fun σ H Q h=>by
 obtain ⟨M,P,H0,σ0,env,ts,R,rel,ht,hq⟩:=h
 exact hq [] env [] H ht rfl (by simpa using rel)
theorem qa_cons (ha:PE X a (up K ta)) (hr:PA X es (upA K tl)) (hs:starEach (a::es) X.env=(false,eval a X.env)::starEach es X.env:=by rfl):PA X (a::es) (upA K (dCons ta tl)):=(pa_cons ha hr hs).imp fun σ H Q h=>by
 obtain ⟨M,P,H0,σ0,env,ts,R,rel,ht,hq⟩:=h
 refine ⟨M,P,H0,σ0,env,ts,_,rel,ht,fun s1 env1 v1 H1 h1 rel1=>⟨M,P,H0,σ0,env1,ts++[(v1,s1)],_,rel1,h1,fun ss env2 vs H2 h2 hl rel2=>?_⟩⟩
 exact hq (s1::ss) env2 (v1::vs) H2 h2 (by simp[hl]) (by simpa using rel2)
end
end L2
namespace L2
open PySem PySem.Spec PyProof.Rows
section
variable {K:PySem.W.Frag}{M P N:Addr→Prop}{H0 H H':Hp}{σ0 σ:St}{env:List Sl}{ts tt:List (V×Sl)}{v:V}{s:Sl}{d:PyData}
noncomputable def gI (f:Int→Int→Int):G2:=fun d e R=>∃ i j,d=.int i∧e=.int j∧R (.int (f i j))
noncomputable def gIC (C:Int→Int→Prop) (f:Int→Int→Int):G2:=fun d e R=>∃ i j,d=.int i∧e=.int j∧C i j∧R (.int (f i j))
noncomputable def gB (f:Int→Int→Bool):G2:=fun d e R=>∃ i j,d=.int i∧e=.int j∧R (.bool (f i j))
theorem mI {f:Int→Int→Int}:Means K (rI0 fun i j=>.int (f i j)) (gI f):=by
 rintro N H x y d e R Q w1 w2 ⟨i,j,rfl,rfl,hR⟩ hq
 exact ⟨i,j,w1.int,w2.int,hq _ _ hR (.int _)⟩
theorem mIC {C:Int→Int→Prop}{f:Int→Int→Int}:Means K (rI C fun i j=>.int (f i j)) (gIC C f):=by
 rintro N H x y d e R Q w1 w2 ⟨i,j,rfl,rfl,hC,hR⟩ hq
 exact ⟨i,j,w1.int,w2.int,hC,hq _ _ hR (.int _)⟩
theorem mB {f:Int→Int→Bool}:Means K (rI0 fun i j=>.bl (f i j)) (gB f):=by
 rintro N H x y d e R Q w1 w2 ⟨i,j,rfl,rfl,hR⟩ hq
 exact ⟨i,j,w1.int,w2.int,hq _ _ hR (.bl _)⟩
theorem mEqI:Means K rEq (gB fun i j=>decide (i=j)):=by
 rintro N H x y d e R Q w1 w2 ⟨i,j,rfl,rfl,hR⟩ hq
 rw [w1.int,w2.int]
 refine ⟨rfl,?_⟩
 have q:=hq _ _ hR (.bl _)
 rwa [show decide (V.int i=V.int j)=decide (i=j) by simp]
theorem mNeI:Means K rNe (gB fun i j=>!decide (i=j)):=by
 rintro N H x y d e R Q w1 w2 ⟨i,j,rfl,rfl,hR⟩ hq
 rw [w1.int,w2.int]
 refine ⟨rfl,?_⟩
 have q:=hq _ _ hR (.bl _)
 rwa [show decide (V.int i=V.int j)=decide (i=j) by simp]
noncomputable def gBB (f:Bool→Bool→Bool):G2:=fun d e R=>∃ i j,d=.bool i∧e=.bool j∧R (.bool (f i j))
noncomputable def gEq:G2:=fun d e R=>shp d∧shp e∧R (.bool (PyData.eqv d e))
noncomputable def gNe:G2:=fun d e R=>shp d∧shp e∧R (.bool (!PyData.eqv d e))
theorem mEq:Means K (rEqD K) gEq:=fun N H x y d e R Q w1 w2 ⟨h1,h2,hR⟩ hq=>⟨d,e,w1.dv,w2.dv,h1,h2,hq _ _ hR (.bl _)⟩
theorem mNe:Means K (rNeD K) gNe:=fun N H x y d e R Q w1 w2 ⟨h1,h2,hR⟩ hq=>⟨d,e,w1.dv,w2.dv,h1,h2,hq _ _ hR (.bl _)⟩
noncomputable def isNn:PyData→Bool
 | .none=>true
 | _=>false
theorem Vw.isNon (w:Vw K N H v d):decide (v=.non)=isNn d:=by
 cases w with
 | dn h =>
  cases h with
  | fz h=>obtain⟨a,xs,e,_⟩:=h.list;subst e;simp[isNn]
  | _=>simp[isNn]
 | ow h q=>simp[isNn]
 | dct h q r e=>simp[isNn]
noncomputable def gIsN:G2:=fun d e R=>e=.none∧R (.bool (isNn d))
noncomputable def gNotN:G2:=fun d e R=>e=.none∧R (.bool (!isNn d))
theorem mIsN:Means K (fun x y H Q=>y=.non∧Q (.bl (decide (x=.non))) H) gIsN:=by
 rintro N H x y d e R Q w1 w2 ⟨rfl,hR⟩ hq
 exact ⟨w2.none,by rw[w1.isNon];exact hq _ _ hR (.bl _)⟩
noncomputable def seqOf:PyData→Option (List PyData)
 | .list ds=>some ds
 | .tuple ds=>some ds
 | _=>none
noncomputable def intOf:PyData→Option Int
 | .int i=>some i
 | _=>none
noncomputable def intsOf:List PyData→Option (List Int)
 | []=>some []
 | d::ds=>(intOf d).bind fun i=>(intsOf ds).map (i::·)
theorem intsOf_map:∀ ns:List Int,intsOf (ns.map .int)=some ns
 | []=>rfl
 | n::ns=>by rw[List.map_cons,intsOf,intsOf_map ns];rfl
theorem intsOf_some:∀ {ds:List PyData}{ns:List Int},intsOf ds=some ns→ds=ns.map .int
 | [],ns,h=>by cases h;rfl
 | d::ds,ns,h=>by
  unfold intsOf at h
  cases d <;> simp[intOf] at h
  obtain ⟨ms,h1,rfl⟩:=h
  rw [intsOf_some h1];rfl
theorem Vw.seq {ds:List PyData} (w:Vw K N H v d) (e:seqOf d=some ds):∃ a vs,v=.ref a∧(SqL K H a vs∨SqT K H a vs)∧DNs K N H vs ds:=by
 cases d <;> simp[seqOf] at e
 ·subst e
  obtain ⟨a,vs,e1,s,q⟩:=w.list
  exact ⟨a,vs,e1,.inl s,q⟩
 ·subst e
  obtain ⟨a,vs,e1,s,q⟩:=w.tuple
  exact ⟨a,vs,e1,.inr s,q⟩
noncomputable def gIn:G2:=fun d e R=>∃ i ds ns,d=.int i∧seqOf e=some ds∧intsOf ds=some ns∧R (.bool (decide (i∈ns)))
noncomputable def gNotIn:G2:=fun d e R=>∃ i ds ns,d=.int i∧seqOf e=some ds∧intsOf ds=some ns∧R (.bool (!decide (i∈ns)))
noncomputable def gInD:G2:=fun d e R=>∃ ds,e=.list ds∧shp d∧shp e∧R (.bool (ds.any fun x=>PyData.eqv x d))
noncomputable def gNotInD:G2:=fun d e R=>∃ ds,e=.list ds∧shp d∧shp e∧R (.bool (!ds.any fun x=>PyData.eqv x d))
theorem DNs.atI {vs:List V}{ds:List PyData}{i:Int}{e:PyData} (q:DNs K N H vs ds) (h:L2.atI ds i=some e):∃ v,L2.atI vs i=some v∧DN K N H v e:=by
 unfold L2.atI at h ⊢
 rw [q.len]
 cases hj:ixN ds.length i with
 | none=>rw[hj] at h;cases h
 | some j =>
  rw [hj] at h
  have h:ds[j]? = some e:=h
  have hlt:j<vs.length:=by rw[q.len];exact (List.getElem?_eq_some_iff.mp h).1
  obtain ⟨e',h1,h2⟩:=q.get (List.getElem?_eq_getElem hlt)
  rw [h] at h1
  cases h1
  exact ⟨vs[j],List.getElem?_eq_getElem hlt,h2⟩
noncomputable def gIx:G2:=fun d e R=>∃ ds i x,seqOf d=some ds∧e=.int i∧atI ds i=some x∧R x
noncomputable def rIxA (K:PySem.W.Frag):R2:=fun x y H Q=>rIxL K x y H Q∨rIxT K x y H Q
theorem ix_any {X:Cx} (hK:X.K=K):IxR X (rIxA K):=by subst hK;exact IxR.or ix_list ix_tup
theorem mIx:Means K (rIxA K) gIx:=by
 rintro N H x y d e R Q w1 w2 ⟨ds,i,z,e1,rfl,e2,hR⟩ hq
 obtain ⟨a,vs,rfl,s,q⟩:=w1.seq e1
 obtain ⟨u,e3,dn⟩:=q.atI e2
 rcases s with s|s
 ·exact .inl ⟨a,vs,i,u,rfl,w2.int,s,e3,hq _ _ hR dn⟩
 ·exact .inr ⟨a,vs,i,u,rfl,w2.int,s,e3,hq _ _ hR dn⟩
inductive Vws (K:PySem.W.Frag) (N:Addr→Prop) (H:Hp):List V→List PyData→Prop
 | nil:Vws K N H [] []
 | cons {v d vs ds}:Vw K N H v d→Vws K N H vs ds→Vws K N H (v::vs) (d::ds)
noncomputable def valsOf (env:List Sl):List Sl→Option (List PyData)
 | []=>some []
 | s::ss=>(valOf env s).bind fun d=>(valsOf env ss).bind fun ds=>some (d::ds)
theorem Rel.views (h:Rel K M P H0 σ0 σ env ts H):∀ {vs:List V}{ss:List Sl}{ds:List PyData},vs.length=ss.length→(∀ p∈vs.zip ss,p∈ts)→valsOf env ss=some ds→Vws K (Nw M (ents σ env ts)) H vs ds
 | [],[],_,_,_,e=>by cases e;exact .nil
 | v :: vs,s::ss,ds,hl,hm,e=>by
  unfold valsOf at e
  cases e1:valOf env s with
  | none=>rw[e1] at e;cases e
  | some d =>
   rw [e1] at e
   cases e2:valsOf env ss with
   | none=>rw[e2] at e;cases e
   | some ds' =>
    rw [e2] at e
    cases e
    exact .cons (h.view (hm _ (by simp)) e1) (h.views (by simpa using hl) (fun p hp=>hm p (by simp[hp])) e2)
 | [],_::_,_,hl,_,_=>by simp at hl
 | _::_,[],_,hl,_,_=>by simp at hl
noncomputable abbrev GB:=List PyData→(PyData→Prop)→Prop
noncomputable def dCB (g:GB) (t:DA):DE:=fun env R=>t env fun ss env1=>∃ ds,valsOf env1 ss=some ds∧g ds fun d=>R (.fr d) env1
noncomputable def MeansB (K:PySem.W.Frag) (r:List V→Hp→VK→Prop) (g:GB):Prop:=∀ (N:Addr→Prop) (H:Hp) (xs:List V) (ds:List PyData) (R:PyData→Prop) (Q:VK),Vws K N H xs ds→g ds R→(∀ d v,R d→DN K N H v d→Q v H)→r xs H Q
theorem cb_up {r:List V→Hp→VK→Prop}{g:GB}{tl:DA} (m:MeansB K r g):∀ σ H Q,up K (dCB g tl) σ H Q→tCB r (upA K tl) σ H Q:=fun σ H Q h=>by
 obtain ⟨M,P,H0,σ0,env,ts,R,rel,ht,hq⟩:=h
 refine ⟨M,P,H0,σ0,env,ts,_,rel,ht,fun ss env1 vs H1 h1 hl rel1=>?_⟩
 obtain ⟨ds,e,g⟩:=h1
 exact m _ H1 vs ds _ Q (rel1.views hl (fun p hp=>List.mem_append_right _ hp) e) g fun d v hR dn=>hq _ _ _ _ hR (rel1.res (Same.refl _) dn)
section
variable {X:Cx}{x:Str}{p pos:Pos}{e:Expr}{es:List Expr}{tl:DA}{id T:String}{r:List V→Hp→VK→Prop}{g:GB}
theorem q_cb (hc:CallR X (.builtin id) r) (m:MeansB K r g) (hg:Gl X x) (hm:X.mg x=none) (hv:bootBuiltins x=some (.builtin id)) (ha:PA X (e::es) (upA K tl)) (hn:x ≠ "__name__" := by decide) (hdb:(x==("__debug__" : Str))=false:=by decide)
  (he:starEach (e::es) X.env=(false,eval e X.env)::starEach es X.env:=by rfl) (hpl:(backTo pos (starEach es X.env)).any (·.1)=false:=by rfl):PE X (.Call (.Name x p) (e::es) [] pos) (up K (dCB g tl)) :=
 (pe_callB hc hg hm hv ha hn hdb he hpl).imp (cb_up m)
end
noncomputable def gLen:GB:=fun ds R=>∃ d es,ds=[d]∧seqOf d=some es∧R (.int es.length)
theorem mLen:MeansB K (fun xs H Q=>∃ p ys,xs=[.ref p]∧(SqL K H p ys∨SqT K H p ys)∧Q (.int ys.length) H) gLen:=by
 rintro N H xs ds R Q w ⟨d,es,rfl,e1,hR⟩ hq
 cases w with
 | cons w1 w2 =>
  cases w2
  obtain ⟨a,vs,rfl,s,q⟩:=w1.seq e1
  refine ⟨a,vs,rfl,s,?_⟩
  rw [q.len]
  exact hq _ _ hR (.int _)
noncomputable def gMin:GB:=fun ds R=>∃ i j,ds=[.int i,.int j]∧R (.int (if j<i then j else i))
noncomputable def gMax:GB:=fun ds R=>∃ i j,ds=[.int i,.int j]∧R (.int (if j>i then j else i))
noncomputable def gAbs:GB:=fun ds R=>∃ i,ds=[.int i]∧R (.int (if i<0 then -i else i))
noncomputable def gInt:GB:=fun ds R=>(∃ i,ds=[.int i]∧R (.int i))∨∃ k,ds=[.bool k]∧R (.int (if k then 1 else 0))
noncomputable def boolOf:PyData→Option Bool
 | .bool i=>some i
 | _=>none
noncomputable def boolsOf:List PyData→Option (List Bool)
 | []=>some []
 | d::ds=>(boolOf d).bind fun i=>(boolsOf ds).map (i::·)
theorem boolsOf_map:∀ ns:List Bool,boolsOf (ns.map .bool)=some ns
 | []=>rfl
 | n::ns=>by rw[List.map_cons,boolsOf,boolsOf_map ns];rfl
theorem boolsOf_some:∀ {ds:List PyData}{ns:List Bool},boolsOf ds=some ns→ds=ns.map .bool
 | [],ns,h=>by cases h;rfl
 | d::ds,ns,h=>by
  unfold boolsOf at h
  cases d <;> simp[boolOf] at h
  obtain ⟨ms,h1,rfl⟩:=h
  rw [boolsOf_some h1];rfl
theorem DNs.bools:∀ {ns:List Bool}{v:List V},DNs K N H v (ns.map .bool)→v=ns.map V.bl
 | [],_,.nil=>rfl
 | n::r,_,.cons h q=>by
  cases h
  rw [q.bools];rfl
noncomputable def gAll:GB:=fun ds R=>∃ es bs,ds=[.list es]∧boolsOf es=some bs∧R (.bool (bs.all id))
noncomputable def gAny:GB:=fun ds R=>∃ es bs,ds=[.list es]∧boolsOf es=some bs∧R (.bool (bs.any id))
theorem mAll:MeansB K (fun xs H Q=>∃ (a:Addr) (bs:List Bool),xs=[.ref a]∧SqL K H a (bs.map V.bl)∧Q (.bl (bs.all id)) H) gAll:=by
 rintro N H xs ds R Q w ⟨es,bs,rfl,e1,hR⟩ hq
 cases w with
 | cons w1 w2 =>
  cases w2
  obtain ⟨a,vs,rfl,s,q⟩:=w1.list
  rw [boolsOf_some e1] at q
  rw [q.bools] at s
  exact ⟨a,bs,rfl,s,hq _ _ hR (.bl _)⟩
noncomputable def keepsOf (env:List Sl):List Sl→Option (List PyData)
 | []=>some []
 | s::ss=>(keepOf env s).bind fun d=>(keepsOf env ss).bind fun ds=>some (d::ds)
theorem Rel.kept (h:Rel K M P H0 σ0 σ env (ts++tt) H) (m:(v,s)∈tt) (e:keepOf env s=some d):DN K (Nw M (ents σ env ts)) H v d:=by
 have hE:=h.e
 rw [ents_app] at hE
 have sub:∀ b,Nw M (ents σ env ts) b→Nw M (ents σ env ts++tmp tt) b:=fun b z=>nw_app z
 have mm:((some v,s):Ent)∈ents σ env ts++tmp tt:=List.mem_append_right _ (List.mem_map.mpr ⟨(v,s),m,rfl⟩)
 cases s with
 | fr d' =>
  cases e
  obtain ⟨v',e1,dn⟩:=hE.fr _ _ mm
  cases e1
  exact dn.to fun b _ _ z=>sub b z
 | ow ds =>
  cases e
  obtain ⟨a,vs,e1,e2,dn,h0⟩:=hE.ow _ _ mm
  cases e1
  refine .lst (SnL.of e2 ?_) (dn.to fun b _ _ z=>sub b z)
  rintro (z|z)
  ·exact hE.mt a z h0
  ·have nd:=hE.nd
   rw [oas_app] at nd
   exact (List.nodup_append.mp nd).2.2 a z a (mem_oas.mpr ⟨_,List.mem_map.mpr ⟨_,m,rfl⟩,List.mem_singleton.mpr rfl⟩) rfl
 | tr S d' =>
  cases e
  obtain ⟨v',e1,ot,h0⟩:=hE.tr _ _ _ mm
  cases e1
  refine ot.dn sub fun a ha=>?_
  rintro (z|z)
  ·exact hE.mt a z (h0 a ha)
  ·have nd:=hE.nd
   rw [oas_app] at nd
   exact (List.nodup_append.mp nd).2.2 a z a (mem_oas.mpr ⟨_,List.mem_map.mpr ⟨_,m,rfl⟩,by rw[own1_tr];exact ha⟩) rfl
 | vw i =>
  have e:(env[i]?).bind slK=some d:=e
  cases q:env[i]? with
  | none=>rw[q] at e;cases e
  | some s' =>
   rw [q] at e
   cases s' with
   | fr d' =>
    cases e
    obtain ⟨x,e1,m1⟩:=h.slot q
    rw [ents_app] at m1
    obtain ⟨v',e2,dn⟩:=hE.fr _ _ m1
    have e3:=h.vw v i (List.mem_append_right _ m)
    rw [e1,e2] at e3
    cases e3
    exact dn.to fun b _ _ z=>sub b z
   | _=>cases e
 | _=>cases e
theorem Rel.keptAll (h:Rel K M P H0 σ0 σ env (ts++tt) H):∀ {vs:List V}{ss:List Sl}{ds:List PyData},vs.length=ss.length→(∀ p∈vs.zip ss,p∈tt)→keepsOf env ss=some ds→DNs K (Nw M (ents σ env ts)) H vs ds
 | [],[],_,_,_,e=>by cases e;exact .nil
 | v :: vs,s::ss,ds,hl,hm,e=>by
  unfold keepsOf at e
  cases e1:keepOf env s with
  | none=>rw[e1] at e;cases e
  | some d =>
   rw [e1] at e
   cases e2:keepsOf env ss with
   | none=>rw[e2] at e;cases e
   | some ds' =>
    rw [e2] at e
    cases e
    exact .cons (h.kept (hm _ (by simp)) e1) (h.keptAll (by simpa using hl) (fun p hp=>hm p (by simp[hp])) e2)
 | [],_::_,_,hl,_,_=>by simp at hl
 | _::_,[],_,hl,_,_=>by simp at hl
theorem Rel.newAddr (h:Rel K M P H0 σ0 σ env ts H) {p:Addr} (hp:H p=none):¬Nw M (ents σ env ts) p:=by
 rintro (z|z)
 ·exact h.e.live p (h.e.mt p z) hp
 ·obtain ⟨vs,q,_⟩:=h.e.own z
  rw [hp] at q
  cases q
theorem Rel.resTup (h:Rel K M P H0 σ0 σ env (ts++tt) H) {p:Addr}{vs:List V}{ds:List PyData} (hp:H p=none) (dns:DNs K (Nw M (ents σ env ts)) H vs ds):Rel K M P H0 σ0 σ env (ts++[(.ref p,.fr (.tuple ds))]) (upd H p (.tup vs)) :=
 (h.drop.same (Same.new hp)).addFr (.tup (SnT.of upd_same (h.drop.newAddr hp)) (dns.keep (Keep.same (Same.new hp))))
section
variable {X:Cx}{x:Str}{p pos:Pos}{e:Expr}{es:List Expr}{tl:DA}{id T:String}
noncomputable def dTup (t:DA):DE:=fun env R=>t env fun ss env1=>∃ ds,keepsOf env1 ss=some ds∧ss.length≤sizeLine∧R (.fr (.tuple ds)) env1
noncomputable def dLst (t:DA):DE:=fun env R=>t env fun ss env1=>∃ ds,keepsOf env1 ss=some ds∧ss.length≤sizeLine∧R (.ow ds) env1
theorem q_tup {x1} (h:PA X es (upA K tl)):PE X (.Tuple es x1 pos) (up K (dTup tl)):=(pe_tup h).imp fun σ H Q h=>by
 obtain ⟨M,P,H0,σ0,env,ts,R,rel,ht,hq⟩:=h
 refine ⟨M,P,H0,σ0,env,ts,_,rel,ht,fun ss env1 vs H1 h1 hl rel1=>?_⟩
 obtain ⟨ds,e,hz,hR⟩:=h1
 exact ⟨by omega,fun p hp=>hq _ _ _ _ hR (rel1.resTup hp (rel1.keptAll hl (fun p hp=>hp) e))⟩
theorem q_lst (h:PA X es (upA K tl)):PE X (.List es pos) (up K (dLst tl)):=(pe_lst h).imp fun σ H Q h=>by
 obtain ⟨M,P,H0,σ0,env,ts,R,rel,ht,hq⟩:=h
 refine ⟨M,P,H0,σ0,env,ts,_,rel,ht,fun ss env1 vs H1 h1 hl rel1=>?_⟩
 obtain ⟨ds,e,hz,hR⟩:=h1
 exact ⟨by omega,fun p hp=>hq _ _ _ _ hR (rel1.drop.addOw hp (rel1.keptAll hl (fun p hp=>hp) e))⟩
end
end
end L2
namespace L2
open PySem PySem.Spec PyProof.Rows
noncomputable def rCatS (K:PySem.W.Frag):R2:=fun x y H Q=>∃ l b xs zs,x=.ref l∧y=.ref b∧SqL K H l xs∧SqL K H b zs∧xs.length+zs.length≤sizeLine∧∀ p,H p=none→Q (.ref p) (upd H p (.lst (xs++zs)))
theorem op_catS {X:Cx}{K:PySem.W.Frag} (hK:X.K=K):OpR X (binaryOp .Add) (rCatS K):=by
 subst hK
 intro pins s σ H x y v u Q I rx ry h
 obtain ⟨l,b,xs,zs,rfl,rfl,hH,hB,hz,q⟩:=h
 cases rx
 cases ry
 obtain ⟨its,r,⟨⟨cls,dd,data,sl⟩,n,ho,hc,_,hd⟩,z⟩:=I.list hH
 obtain ⟨its2,r2,⟨⟨cls2,dd2,data2,sl2⟩,n2,ho2,hc2,_,hd2⟩,z2⟩:=I.list hB
 simp only at hc hd hc2 hd2
 subst hc hd hc2 hd2
 have hl:=r.length
 have hl2:=r2.length
 refine concat_meets ⟨_,ho,rfl⟩ ⟨_,ho2,rfl⟩ noFill_list_add seq_list_add PySem.F.slot_list_add PySem.F.entry_list_add (PySem.F.args_list_add_2 _ _) (list_addW l b its.toArray its2.toArray n n2 dd dd2 sl sl2 (by rw[List.size_toArray,List.size_toArray];omega)) ⟨ho,ho2,?_⟩
 have ea:its.toArray++its2.toArray=(its++its2).toArray:=by simp
 rw [ea]
 exact ⟨.ref _,_,I.lnew (t':=s.toks) (r.append r2) (by rw[List.length_append];omega),rfl,q _ I.fresh⟩
section
variable {K:PySem.W.Frag}{M P N:Addr→Prop}{H0 H H':Hp}{σ0 σ:St}{env:List Sl}{ts tt:List (V×Sl)}{v:V}{s:Sl}{d:PyData}
variable {X:Cx}{x:Str}{p pos:Pos}{a b e:Expr}{es:List Expr}{ta tb:DE}{tl:DA}
noncomputable def dOpL (g:PyData→PyData→(List PyData→Prop)→Prop) (ta tb:DE):DE:=fun env R=>ta env fun s1 env1=>tb env1 fun s2 env2=>∃ d1 d2,valOf env2 s1=some d1∧valOf env2 s2=some d2∧g d1 d2 fun ds=>R (.ow ds) env2
noncomputable def MeansL (K:PySem.W.Frag) (r:R2) (g:PyData→PyData→(List PyData→Prop)→Prop):Prop:=∀ (N:Addr→Prop) (H:Hp) (x y:V) (d1 d2:PyData) (R:List PyData→Prop) (Q:VK),Vw K N H x d1→Vw K N H y d2→g d1 d2 R →
 (∀ ds vs p,R ds→DNs K N H vs ds→H p=none→Q (.ref p) (upd H p (.lst vs)))→r x y H Q
theorem opL_up {r:R2}{g:PyData→PyData→(List PyData→Prop)→Prop} (m:MeansL K r g):∀ σ H Q,up K (dOpL g ta tb) σ H Q→tOp r (up K ta) (up K tb) σ H Q:=fun σ H Q h=>by
 obtain ⟨M,P,H0,σ0,env,ts,R,rel,ht,hq⟩:=h
 refine ⟨M,P,H0,σ0,env,ts,_,rel,ht,fun s1 env1 v1 H1 h1 rel1=>⟨M,P,H0,σ0,env1,ts++[(v1,s1)],_,rel1,h1,fun s2 env2 v2 H2 h2 rel2=>?_⟩⟩
 obtain ⟨d1,d2,e1,e2,g⟩:=h2
 refine m _ H2 v1 v2 d1 d2 _ Q (rel2.view (by simp) e1) (rel2.view (by simp) e2) g fun ds vs p hR dns hp=>hq _ _ _ _ hR ?_
 have rel2':Rel K M P H0 σ0 σ env2 (ts++[(v1,s1),(v2,s2)]) H2:=by simpa using rel2
 exact rel2'.resOw hp (by simpa using dns)
theorem q_opL {op:Operator}{r:R2}{g:PyData→PyData→(List PyData→Prop)→Prop} (ho:OpR X (binaryOp op) r) (m:MeansL K r g) (ha:PE X a (up K ta)) (hb:PE X b (up K tb)):PE X (.BinOp a op b pos) (up K (dOpL g ta tb)):=(pe_op ho ha hb).imp (opL_up m)
noncomputable def gCat:PyData→PyData→(List PyData→Prop)→Prop:=fun d e R=>∃ xs ys,d=.list xs∧e=.list ys∧xs.length+ys.length≤sizeLine∧R (xs++ys)
theorem mCat:MeansL K (rCatS K) gCat:=by
 rintro N H x y d e R Q w1 w2 ⟨xs,ys,rfl,rfl,hz,hR⟩ hq
 obtain ⟨a1,v1,rfl,s1,q1⟩:=w1.list
 obtain ⟨a2,v2,rfl,s2,q2⟩:=w2.list
 exact ⟨a1,a2,v1,v2,rfl,rfl,s1,s2,by rw[q1.len,q2.len];exact hz,fun p hp=>hq _ _ p hR (q1.app q2) hp⟩
noncomputable def dCatT (ta tb:DE):DE:=fun env R=>ta env fun s1 env1=>tb env1 fun s2 env2=>∃ xs ys,valOf env2 s1=some (.tuple xs)∧valOf env2 s2=some (.tuple ys)∧xs.length+ys.length≤sizeLine∧R (.fr (.tuple (xs++ys))) env2
noncomputable abbrev DO:=List Sl→(Option Int→List Sl→Prop)→Prop
noncomputable def upO (K:PySem.W.Frag) (t:DO):TO:=fun σ H Q=>∃ (M P:Addr→Prop) (H0:Hp) (σ0:St) (env:List Sl) (ts:List (V×Sl)) (R:Option Int→List Sl→Prop),Rel K M P H0 σ0 σ env ts H∧t env R ∧
 ∀ o env' H',R o env'→Rel K M P H0 σ0 σ env' ts H'→Q o H'
theorem PO.imp {e:Option Expr}{t t':TO} (h:PO X e t) (k:∀ σ H Q,t' σ H Q→t σ H Q):PO X e t':=fun pins s σ H Q I hw=>h pins s σ H Q I (k σ H Q hw)
noncomputable def dNoPart:DO:=fun env R=>R none env
noncomputable def dPart (t:DE):DO:=fun env R=>t env fun s env1=>∃ i,valOf env1 s=some (.int i)∧R (some i) env1
theorem qo_none:PO X none (upO K dNoPart):=po_none.imp fun σ H Q h=>by
 obtain ⟨M,P,H0,σ0,env,ts,R,rel,ht,hq⟩:=h
 exact hq _ _ _ ht rel
theorem qo_some (h:PE X e (up K ta)):PO X (some e) (upO K (dPart ta)):=(po_some h).imp fun σ H Q h=>by
 obtain ⟨M,P,H0,σ0,env,ts,R,rel,ht,hq⟩:=h
 refine ⟨M,P,H0,σ0,env,ts,_,rel,ht,fun s1 env1 v1 H1 h1 rel1=>?_⟩
 obtain ⟨i,e1,hR⟩:=h1
 exact ⟨i,(rel1.view (by simp) e1).int,hq _ _ _ hR rel1.drop⟩
noncomputable def cutD {α:Type} (xs:List α) (lo hi:Option Int):List α:=(xs.drop (HT.sIx xs.length 0 lo)).take (HT.sIx xs.length xs.length hi - HT.sIx xs.length 0 lo)
theorem DNs.drop:∀ {vs:List V}{ds:List PyData} (n:Nat),DNs K N H vs ds→DNs K N H (vs.drop n) (ds.drop n)
 | _,_,0,q=>q
 | _,_,_+1,.nil=>.nil
 | _,_,n+1,.cons _ q=>q.drop n
theorem DNs.take:∀ {vs:List V}{ds:List PyData} (n:Nat),DNs K N H vs ds→DNs K N H (vs.take n) (ds.take n)
 | _,_,0,_=>.nil
 | _,_,_+1,.nil=>.nil
 | _,_,n+1,.cons h q=>.cons h (q.take n)
theorem DNs.cut {vs:List V}{ds:List PyData} (q:DNs K N H vs ds) (lo hi:Option Int):DNs K N H (cutV vs lo hi) (cutD ds lo hi):=by
 unfold cutV cutD
 rw [q.len]
 exact (q.drop _).take _
noncomputable def dSlL (te:DE) (tl th:DO):DE:=fun env R=>te env fun s env1=>tl env1 fun l env2=>th env2 fun h env3=>∃ ds,valOf env3 s=some (.list ds)∧R (.ow (cutD ds l h)) env3
noncomputable def dSlT (te:DE) (tl th:DO):DE:=fun env R=>te env fun s env1=>tl env1 fun l env2=>th env2 fun h env3=>∃ ds,valOf env3 s=some (.tuple ds)∧¬(HT.sIx ds.length 0 l=0∧HT.sIx ds.length ds.length h=ds.length)∧R (.fr (.tuple (cutD ds l h))) env3
variable {lo hi:Option Expr}{tlo thi:DO}{p2:Pos}
theorem q_slL (hK:X.K=K) (he:PE X e (up K ta)) (hl:PO X lo (upO K tlo)) (hu:PO X hi (upO K thi)):PE X (.Subscript e (.Slice lo hi none p2) pos) (up K (dSlL ta tlo thi)):=(pe_slice (kSlL (K:=K) hK) he hl hu).imp fun σ H Q h=>by
 obtain ⟨M,P,H0,σ0,env,ts,R,rel,ht,hq⟩:=h
 refine ⟨M,P,H0,σ0,env,ts,_,rel,ht,fun s1 env1 v1 H1 h1 rel1=>⟨M,P,H0,σ0,env1,ts++[(v1,s1)],_,rel1,h1,fun l env2 H2 h2 rel2=>⟨M,P,H0,σ0,env2,ts++[(v1,s1)],_,rel2,h2,fun u env3 H3 h3 rel3=>?_⟩⟩⟩
 obtain ⟨ds,e1,hR⟩:=h3
 obtain ⟨a,vs,rfl,sq,q⟩:=(rel3.view (v:=v1) (by simp) e1).list
 exact ⟨a,vs,rfl,sq,fun p hp=>hq _ _ _ _ hR (rel3.resOw hp (q.cut l u))⟩
noncomputable def dListOf (t:DA):DE:=fun env R=>t env fun ss env1=>∃ s d ds,ss=[s]∧valOf env1 s=some d∧seqOf d=some ds∧R (.ow ds) env1
theorem q_listOf (hK:X.K=K) (hg:Gl X "list") (hm:X.mg "list" = none) (ha:PA X [e] (upA K tl)) (he:starEach [e] X.env=[(false,eval e X.env)]:=by rfl):PE X (.Call (.Name "list" p) [e] [] pos) (up K (dListOf tl)) :=
 (pe_callTy (kList (K:=K) hK) hg hm PyProof.Rows.boot_list ha (by decide) (by decide) he rfl).imp fun σ H Q h=>by
 obtain ⟨M,P,H0,σ0,env,ts,R,rel,ht,hq⟩:=h
 refine ⟨M,P,H0,σ0,env,ts,_,rel,ht,fun ss env1 vs H1 h1 hl rel1=>?_⟩
 obtain ⟨s,d,ds,rfl,e1,e2,hR⟩:=h1
 match vs,hl with
 | [v],_ =>
  obtain ⟨a,us,rfl,sq,q⟩:=(rel1.view (v:=v) (by simp) e1).seq e2
  exact ⟨a,us,rfl,sq,fun l hl'=>hq _ _ _ _ hR (rel1.resOw hl' q)⟩
noncomputable def dTupOf (t:DA):DE:=fun env R=>t env fun ss env1=>∃ s d ds,ss=[s]∧valOf env1 s=some d∧seqOf d=some ds∧R (.fr (.tuple ds)) env1
noncomputable def setSl:Sl→List PyData→Option Sl
 | .ow _,ds=>some (.ow ds)
 | .io _,ds=>some (.io ds)
 | _,_=>none
noncomputable def ownD:Sl→Option (List PyData)
 | .ow ds=>some ds
 | .io ds=>some ds
 | _=>none
theorem set_of {s s':Sl}{l:List PyData} (h:setSl s l=some s'):isOw s l s'∧ownD s'=some l:=by
 cases s with
 | ow _=>cases h;exact⟨rfl,rfl⟩
 | io _=>cases h;exact⟨rfl,rfl⟩
 | _=>cases h
theorem set_io {s:Sl}{l d:List PyData} (h:setSl s l=some (.io d)):∃ d0,s=.io d0:=by
 cases s with
 | io d0=>exact⟨d0,rfl⟩
 | _=>cases h
theorem own_of {s:Sl}{l:List PyData} (h:ownD s=some l):setSl s l=some s∧∀ a,a∈own1 (some (.ref a),s):=by
 cases s with
 | ow _=>cases h;exact⟨rfl,fun a=>List.mem_singleton.mpr rfl⟩
 | io _=>cases h;exact⟨rfl,fun a=>List.mem_singleton.mpr rfl⟩
 | _=>cases h
theorem Rel.mut {i:Nat}{s s':Sl}{ds ds':List PyData} (h:Rel K M P H0 σ0 σ env ts H) (e:env[i]? = some s) (es:setSl s ds'=some s') {a:Addr} (ea:σ[i]? = some (some (.ref a))) {vs':List V} (dns:DNs K (Nw M (ents σ env ts)) H vs' ds') :
  Rel K M P H0 σ0 σ (env.set i s') ts (upd H a (.lst vs')):=by
 obtain ⟨x,A,B,e1,q1,q2⟩:=h.split e
 rw [ea] at e1
 cases e1
 have r:=h.e
 rw [q1] at r dns
 refine ⟨by rw[q2];exact r.mut (set_of es).1 dns,by simp[h.len],h.vw,fun j ds'' e'=>?_⟩
 by_cases hj:i=j
 ·subst hj
  have hi:i<env.length:=(List.getElem?_eq_some_iff.mp e).1
  rw [List.getElem?_set_self hi] at e'
  cases e'
  obtain ⟨ds0,rfl⟩:=set_io es
  exact h.ios i ds0 e
 ·rw [List.getElem?_set_ne hj] at e'
  exact h.ios j ds'' e'
theorem Rel.mine {i:Nat}{s:Sl}{ds:List PyData} (h:Rel K M P H0 σ0 σ env ts H) (e:env[i]? = some s) (eo:ownD s=some ds):∃ a vs,σ[i]? = some (some (.ref a))∧H a=some (.lst vs)∧DNs K (Nw M (ents σ env ts)) H vs ds:=by
 obtain ⟨x,e1,m⟩:=h.slot e
 cases s with
 | ow d =>
  cases eo
  obtain ⟨a,vs,z,q1,q2,_⟩:=h.e.ow _ _ m
  subst z
  exact ⟨a,vs,e1,q1,q2⟩
 | io d =>
  cases eo
  obtain ⟨a,vs,z,q1,q2,_⟩:=h.e.io _ _ m
  subst z
  exact ⟨a,vs,e1,q1,q2⟩
 | _=>cases eo
noncomputable def dApp (i:Nat) (te:DE):DE:=fun env R=>(∃ ds,(env[i]?).bind ownD=some ds)∧te env fun s env1=>∃ d s0 ds s',keepOf env1 s=some d∧env1[i]? = some s0∧ownD s0=some ds∧ds.length<sizeLine∧setSl s0 (ds++[d])=some s'∧R (.fr .none) (env1.set i s')
theorem bind_own {i:Nat}{ds:List PyData} (h:(env[i]?).bind ownD=some ds):∃ s,env[i]? = some s∧ownD s=some ds:=by
 cases e:env[i]? with
 | none=>rw[e] at h;cases h
 | some s=>rw[e] at h;exact⟨s,rfl,h⟩
theorem q_app (i:Nat) {y:Str}{apos cpos npos:Pos} (hK:X.K=K) (hN:X.N[i]? = some y) (ha:PE X e (up K ta))
  (hv:Vis X.env.scope y:=by first|exact Or.inl rfl|exact Or.inr (Or.inl rfl)|exact Or.inr (Or.inr rfl)) (hd:(y==("__debug__" : Str))=false:=by decide)
  (hcd:(y==("__classdict__" : Str))=false:=by decide)
  (hs0:starEach [e] X.env=[(false,eval e X.env)]:=by rfl)
  (hbase:attributeBase (.Name y npos) "append" X.env (eval (.Name y npos) X.env)=eval (.Name y npos) X.env:=by rfl)
  (hfew:((backTo cpos (starEach [e] X.env)).all (fun x=>!x.1)&&(backToKw cpos (keywordEach [] X.env)).all (fun x=>x.1.isSome)&&decide ([e].length+([]:List Keyword).length+(if ([]:List Keyword).isEmpty then 0 else 1)<30))=true:=by rfl)
  (hline:(apos.endLine==cpos.line)=true:=by rfl) (hplain:(backTo cpos (starEach [] X.env)).any (·.1)=false:=by rfl) :
  PE X (.Call (.Attribute (.Name y npos) "append" apos) [e] [] cpos) (up K (dApp i ta)) :=
 (kBm (K:=K) hK PySem.F.plainAttrs_list PySem.F.slot_list_append PySem.F.type_list_append mt_append (pe_var hN hv hd hcd) (pa_cons ha pa_nil hs0) hbase hfew hline hs0 hplain).imp fun σ H Q h=>by
 obtain ⟨M,P,H0,σ0,env,ts,R,rel,⟨⟨ds0,h0⟩,ht⟩,hq⟩:=h
 obtain ⟨s0,e0,o0⟩:=bind_own h0
 obtain ⟨a,vs,ea,hH,_⟩:=rel.mine e0 o0
 refine ⟨.ref a,ea,.inl ⟨rfl,vs,SqL.of hH⟩,M,P,H0,σ0,env,ts,_,rel,ht,fun s1 env1 v1 H1 h1 rel1=>?_⟩
 obtain ⟨d,s2,ds,s',k,e2,o2,hz,es,hR⟩:=h1
 obtain ⟨a',us,ea',hH',q⟩:=rel1.drop.mine e2 o2
 rw [ea] at ea'
 cases ea'
 refine ⟨a,us,v1,rfl,rfl,hH',by rw[q.len];exact hz,?_⟩
 have dn:=rel1.kept (v:=v1) (s:=s1) (by simp) k
 exact hq _ _ _ _ hR ((rel1.drop.mut (ds:=ds) e2 es ea (q.app (.cons dn .nil))).addFr .non)
noncomputable def dPop (i:Nat):DE:=fun env R=>∃ s0 ds d s',env[i]? = some s0∧ownD s0=some ds∧ds.getLast? = some d∧setSl s0 ds.dropLast=some s'∧R (.fr d) (env.set i s')
theorem DNs.dropLast:∀ {vs:List V}{ds:List PyData},DNs K N H vs ds→DNs K N H vs.dropLast ds.dropLast:=fun {vs ds} q=>by
 rw [List.dropLast_eq_take,List.dropLast_eq_take,q.len]
 exact q.take _
theorem q_pop (i:Nat) {y:Str}{apos cpos npos:Pos} (hK:X.K=K) (hN:X.N[i]? = some y)
  (hv:Vis X.env.scope y:=by first|exact Or.inl rfl|exact Or.inr (Or.inl rfl)|exact Or.inr (Or.inr rfl)) (hd:(y==("__debug__" : Str))=false:=by decide)
  (hcd:(y==("__classdict__" : Str))=false:=by decide)
  (hbase:attributeBase (.Name y npos) "pop" X.env (eval (.Name y npos) X.env)=eval (.Name y npos) X.env:=by rfl) (hline:(apos.endLine==cpos.line)=true:=by rfl) :
  PE X (.Call (.Attribute (.Name y npos) "pop" apos) [] [] cpos) (up K (dPop i)) :=
 (kBm0 (K:=K) hK PySem.F.plainAttrs_list PySem.F.slot_list_pop PySem.F.type_list_pop mt_pop (pe_var hN hv hd hcd) hbase hline).imp fun σ H Q h=>by
 obtain ⟨M,P,H0,σ0,env,ts,R,rel,⟨s0,ds,d,s',e0,o0,hl,es,hR⟩,hq⟩:=h
 obtain ⟨a,vs,ea,hH,q⟩:=rel.mine e0 o0
 have hn:ds.length - 1<ds.length:=by
  cases ds with
  | nil=>simp at hl
  | cons z r=>simp
 rw [List.getLast?_eq_getElem?] at hl
 have hlt:vs.length - 1<vs.length:=by rw[q.len];exact hn
 obtain ⟨d',h1,dn⟩:=q.get (List.getElem?_eq_getElem hlt)
 rw [q.len,hl] at h1
 cases h1
 refine ⟨.ref a,ea,.inl ⟨rfl,vs,SqL.of hH⟩,a,vs,vs[vs.length - 1],rfl,rfl,hH,List.getElem?_eq_getElem hlt,?_⟩
 have rel2:=rel.addFr dn
 have m:=rel2.mut (ds:=ds) (vs':=vs.dropLast) (ds':=ds.dropLast) e0 es ea (by
  have : Nw M (ents σ env (ts++[(vs[vs.length - 1],Sl.fr d)]))=Nw M (ents σ env ts):=by
   rw [ents_app]
   unfold Nw
   have:oas (ents σ env ts++tmp [(vs[vs.length - 1],Sl.fr d)])=oas (ents σ env ts):=by
    rw [oas_app]
    have:oas (tmp [(vs[vs.length - 1],Sl.fr d)])=[]:=by
     show oas [(some vs[vs.length - 1],Sl.fr d)]=[]
     rw [oas_cons]
     cases vs[vs.length - 1] <;> rfl
    rw [this,List.append_nil]
   rw [this]
  rw [this]
  exact q.dropLast)
 exact hq _ _ _ _ hR m
end
end L2
namespace L2
open PySem PySem.Spec PyProof.Rows
section
variable {K:PySem.W.Frag}{M P N:Addr→Prop}{H0 H H':Hp}{E A B:List Ent}{σ0 σ:St}{env:List Sl}{ts tt:List (V×Sl)}{v:V}{s:Sl}{d:PyData}
end
noncomputable abbrev DSp:=List Sl→(Sl→List Sl→Prop)→Prop
noncomputable def isRes:Sl→Bool
 | .fr _=>true
 | .ow _=>true
 | .tr _ _=>true
 | _=>false
noncomputable def ioOf (vs:List V) (ss:List Sl):Addr→Prop:=fun a=>a∈oas (tmp (vs.zip ss))
noncomputable def spD (K:PySem.W.Frag) (sp:DSp):Sp:=fun vs H Q _=>∃ (M:Addr→Prop) (ss:List Sl) (R:Sl→List Sl→Prop),vs.length=ss.length∧RelE K M (ioOf vs ss) H (tmp (vs.zip ss)) H∧sp ss R ∧
 ∀ r ss' v H',R r ss'→isRes r=true→RelE K M (ioOf vs ss) H (tmp ((v,r)::vs.zip ss')) H'→Q v H'
section
variable {K:PySem.W.Frag}{M P N:Addr→Prop}{H0 H H':Hp}{E A B:List Ent}{σ0 σ:St}{env:List Sl}{ts tt:List (V×Sl)}{v:V}{s:Sl}{d:PyData}
theorem oas_fr:∀ (vs:List V) (ds:List PyData),oas (tmp (vs.zip (ds.map Sl.fr)))=[]
 | [],_=>by simp[oas,tmp]
 | _::_,[]=>by simp[oas,tmp]
 | v::vs,d::ds=>by
  show oas ((some v,Sl.fr d)::tmp (vs.zip (ds.map Sl.fr)))=[]
  rw [oas_cons,own1_fr,oas_fr vs ds]
  rfl
theorem mem_frs:∀ {vs:List V}{ds:List PyData}{x:Option V}{s:Sl},DNs K N H vs ds→(x,s)∈tmp (vs.zip (ds.map Sl.fr))→∃ v d,x=some v∧s=.fr d∧DN K N H v d
 | _,_,_,_,.nil,m=>by simp[tmp] at m
 | _,_,x,s,@DNs.cons _ _ _ v vs d ds h q,m=>by
  have m:(x,s)∈(some v,Sl.fr d)::tmp (vs.zip (ds.map Sl.fr)):=m
  rcases List.mem_cons.mp m with m|m
  ·cases m;exact⟨v,d,rfl,rfl,h⟩
  ·exact mem_frs q m
inductive ResOk (K:PySem.W.Frag) (N:Addr→Prop) (Hc H':Hp):V→Sl→Prop
 | fr {v:V}{d:PyData}:DN K N H' v d→ResOk K N Hc H' v (.fr d)
 | ow {a:Addr}{vs:List V}{ds:List PyData}:H' a=some (.lst vs)→DNs K (fun b=>N b∨b=a) H' vs ds→Hc a=none→¬N a→ResOk K N Hc H' (.ref a) (.ow ds)
 | tr {v:V}{d:PyData}{S:List Addr}:OT K (fun b=>N b∨b∈S) H' v d S→(∀ a∈S,Hc a=none∧¬N a)→S.Nodup→ResOk K N Hc H' v (.tr S d)
theorem RelE.resOk {Hc:Hp}{Pc:Addr→Prop}{r:Sl}{T:List Ent} (hc:RelE K N Pc Hc ((some v,r)::T) H') (hr:isRes r=true):ResOk K N Hc H' v r:=by
 cases r with
 | fr d =>
  obtain ⟨w,e,dn⟩:=hc.fr _ _ List.mem_cons_self
  cases e
  exact .fr (dn.to fun b _ _ z=>.inl z)
 | ow ds =>
  obtain ⟨a,vs,e,ha,dns,hn⟩:=hc.ow _ _ List.mem_cons_self
  cases e
  refine .ow ha (dns.to fun b _ _ z=>?_) hn fun z=>hc.mt a z hn
  rcases z with z|z
  ·exact .inl z
  ·rw [z]
   exact .inr (by rw[oas_cons];exact List.mem_append_left _ (List.mem_singleton.mpr rfl))
 | tr S d =>
  obtain ⟨w,e,ot,hn⟩:=hc.tr _ _ _ List.mem_cons_self
  cases e
  refine .tr (ot.to fun b _ _ z=>?_) (fun a ha=>⟨hn a ha,fun z=>hc.mt a z (hn a ha)⟩) ?_
  ·rcases z with z|z
   ·exact .inl z
   ·exact .inr (by rw[oas_cons,own1_tr];exact List.mem_append_left _ z)
  ·have nd:=hc.nd
   rw [oas_cons,own1_tr] at nd
   exact (List.nodup_append.mp nd).1
 | _=>cases hr
theorem ResOk.to {Hc:Hp}{r:Sl}{N2:Addr→Prop} (h:ResOk K N Hc H' v r) (m:∀ b,N2 b→N b):ResOk K N2 Hc H' v r:=by
 cases h with
 | fr dn=>exact .fr (dn.to fun b _ _ z=>m b z)
 | ow ha dns hn nn=>exact .ow ha (dns.to fun b _ _ z=>z.elim (fun z=>.inl (m b z)) .inr) hn fun z=>nn (m _ z)
 | tr ot hn nd=>exact .tr (ot.to fun b _ _ z=>z.elim (fun z=>.inl (m b z)) .inr) (fun a ha=>⟨(hn a ha).1,fun z=>(hn a ha).2 (m a z)⟩) nd
theorem ResOk.own {r:Sl}{Hc:Hp} (h:ResOk K N Hc H' v r):(∀ b∈own1 (some v,r),Hc b=none∧¬N b)∧(own1 (some v,r)).Nodup:=by
 cases h with
 | fr dn=>rw[own1_fr];exact⟨fun b hb=>absurd hb List.not_mem_nil,List.nodup_nil⟩
 | ow ha dns hn nN=>exact⟨fun b hb=>by rw[List.mem_singleton.mp hb];exact⟨hn,nN⟩,List.nodup_cons.mpr ⟨by simp,List.nodup_nil⟩⟩
 | tr ot hn nd=>rw[own1_tr];exact⟨hn,nd⟩
theorem ResOk.frD {d:PyData}{Hc:Hp} (h:ResOk K N Hc H' v (.fr d)):DN K N H' v d:=by
 cases h with
 | fr dn=>exact dn
theorem ResOk.owD {ds:List PyData}{Hc:Hp} (h:ResOk K N Hc H' v (.ow ds)):∃ a vs,v=.ref a∧H' a=some (.lst vs)∧DNs K (fun b=>N b∨b=a) H' vs ds∧Hc a=none:=by
 cases h with
 | ow ha dns hn nN=>exact⟨_,_,rfl,ha,dns,hn⟩
theorem ResOk.ioD {ds:List PyData}{Hc:Hp} (h:ResOk K N Hc H' v (.io ds)):False:=by cases h
theorem ResOk.trD {d:PyData}{S:List Addr}{Hc:Hp} (h:ResOk K N Hc H' v (.tr S d)):OT K (fun b=>N b∨b∈S) H' v d S∧∀ a∈S,Hc a=none∧¬N a:=by
 cases h with
 | tr ot hn nd=>exact⟨ot,hn⟩
theorem RelE.getRes {r:Sl} (h:RelE K M P H0 E H') {Hc:Hp} (hlive:∀ b,H0 b≠none→Hc b≠none) (hres:ResOk K (Nw M E) Hc H' v r)
  (frs:∀ x d,(x,Sl.fr d)∈E→∃ w,x=some w∧DN K (fun b=>Nw M E b∨(b∈own1 (some v,r)∧Hc b=none)) H' w d)
  (its:∀ x s ds,(x,s)∈E→ownD s=some ds→∃ a vs,x=some (.ref a)∧H' a=some (.lst vs)∧DNs K (fun b=>Nw M E b∨(b∈own1 (some v,r)∧Hc b=none)) H' vs ds)
  (ots:∀ x S d,(x,Sl.tr S d)∈E→∃ w,x=some w∧OT K (fun b=>Nw M E b∨(b∈own1 (some v,r)∧Hc b=none)) H' w d S):RelE K M P H0 (E++[(some v,r)]) H':=by
 obtain ⟨hown,hnod⟩:=hres.own
 have oe:oas (E++[(some v,r)])=oas E++own1 (some v,r):=by
  rw [oas_app,oas_cons]
  simp [oas]
 have up:∀ b,Nw M (E++[(some v,r)]) b→Nw M E b∨b∈own1 (some v,r):=fun b z=>by
  rcases z with z|z
  ·exact .inl (.inl z)
  ·rw [oe] at z
   rcases List.mem_append.mp z with z|z
   ·exact .inl (.inr z)
   ·exact .inr z
 have up2:∀ b,Nw M (E++[(some v,r)]) b→Nw M E b∨(b∈own1 (some v,r)∧Hc b=none):=fun b z=>(up b z).elim .inl fun z=>.inr ⟨z,(hown b z).1⟩
 have h0:∀ b,Hc b=none→H0 b=none:=fun b hn=>by
  cases e:H0 b with
  | none=>rfl
  | some o=>exact absurd hn (hlive b (by rw[e];simp))
 refine ⟨h.keep,h.live,h.mt,h.pm,fun x d' m=>?_,fun x d' m=>?_,fun x d' m=>?_,fun x S d' m=>?_,?_⟩
 ·rcases List.mem_append.mp m with m|m
  ·obtain ⟨w,e,dn⟩:=frs x d' m
   exact ⟨w,e,dn.to fun b _ _ z=>up2 b z⟩
  ·rw [List.mem_singleton] at m
   obtain ⟨e1,rfl⟩:=Prod.mk.inj m
   exact ⟨v,e1,hres.frD.to fun b _ _ z=>(up b z).elim id fun z=>by rw[own1_fr] at z;exact absurd z List.not_mem_nil⟩
 ·rcases List.mem_append.mp m with m|m
  ·obtain ⟨b,us,e,e2,dn⟩:=its x _ d' m rfl
   obtain ⟨b',us',e',e2',_,r⟩:=h.ow x d' m
   rw [e] at e'
   cases e'
   exact ⟨b,us,e,e2,dn.to fun b _ _ z=>up2 b z,r⟩
  ·rw [List.mem_singleton] at m
   obtain ⟨e1,rfl⟩:=Prod.mk.inj m
   obtain ⟨a,us,rfl,ha,dns,hn⟩:=hres.owD
   exact ⟨a,us,e1,ha,dns.to fun b _ _ z=>(up b z).elim .inl fun z=>.inr (List.mem_singleton.mp z),h0 _ hn⟩
 ·rcases List.mem_append.mp m with m|m
  ·obtain ⟨b,us,e,e2,dn⟩:=its x _ d' m rfl
   obtain ⟨b',us',e',e2',_,r⟩:=h.io x d' m
   rw [e] at e'
   cases e'
   exact ⟨b,us,e,e2,dn.to fun b _ _ z=>up2 b z,r⟩
  ·rw [List.mem_singleton] at m
   obtain ⟨e1,rfl⟩:=Prod.mk.inj m
   exact hres.ioD.elim
 ·rcases List.mem_append.mp m with m|m
  ·obtain ⟨w,e,dn⟩:=ots x S d' m
   obtain ⟨w',e',_,r⟩:=h.tr x S d' m
   exact ⟨w,e,dn.to fun b _ _ z=>up2 b z,r⟩
  ·rw [List.mem_singleton] at m
   obtain ⟨e1,rfl⟩:=Prod.mk.inj m
   exact ⟨v,e1,hres.trD.1.to fun b _ _ z=>(up b z).elim .inl fun z=>.inr (by rw[own1_tr] at z;exact z),fun a ha=>h0 _ (hres.trD.2 a ha).1⟩
 ·rw [oe]
  exact List.nodup_append.mpr ⟨h.nd,hnod,fun b hb c hc' z=>(hown c hc').2 (.inr (z▸hb))⟩
theorem DN.past {Hc:Hp}{N2:Addr→Prop} (h:DN K N Hc v d) (n2:∀ b,N2 b→N b∨Hc b=none) {Pc:Addr→Prop} (k:Keep Pc Hc H') (hp:∀ b,Pc b→N2 b):DN K N2 H' v d :=
 (h.to fun b o e z=>(n2 b z).elim id fun z=>by rw[z] at e;cases e).keep (k.mono hp)
theorem DNs.past {Hc:Hp}{N2:Addr→Prop}{vs:List V}{ds:List PyData} (h:DNs K N Hc vs ds) (n2:∀ b,N2 b→N b∨Hc b=none) {Pc:Addr→Prop} (k:Keep Pc Hc H') (hp:∀ b,Pc b→N2 b):DNs K N2 H' vs ds :=
 (h.to fun b o e z=>(n2 b z).elim id fun z=>by rw[z] at e;cases e).keep (k.mono hp)
theorem OT.past {Hc:Hp}{N2:Addr→Prop}{S:List Addr} (h:OT K N Hc v d S) (n2:∀ b,N2 b→N b∨Hc b=none) {Pc:Addr→Prop} (k:Keep Pc Hc H') (hp:∀ b,Pc b→N2 b) (hs:∀ b∈S,¬Pc b):OT K N2 H' v d S :=
 (h.to fun b o e z=>(n2 b z).elim id fun z=>by rw[z] at e;cases e).keep (k.mono hp) fun a ha=>by
  obtain ⟨xs,z⟩:=h.lives a ha
  rw [k _ _ (hs a ha) z,z]
theorem RelE.called {r:Sl} (h:RelE K M P H0 E H) (k:Same H H') (hres:ResOk K (Nw M E) H H' v r):RelE K M P H0 (E++[(some v,r)]) H':=by
 refine (h.same k).getRes h.live hres (fun x d m=>?_) (fun x s ds m eo=>?_) fun x S d m=>?_
 rotate_right
 ·obtain ⟨w,e,dn,_⟩:=h.tr x S d m
  exact ⟨w,e,dn.past (fun b z=>z.elim .inl fun z=>.inr z.2) (Keep.same (N:=N0) k) (fun b z=>z.elim) fun b _ z=>z.elim⟩
 ·obtain ⟨w,e,dn⟩:=h.fr x d m
  exact ⟨w,e,dn.past (fun b z=>z.elim .inl fun z=>.inr z.2) (Keep.same (N:=N0) k) fun b z=>z.elim⟩
 ·cases s with
  | ow l =>
   cases eo
   obtain ⟨a,vs,e,e2,dn,_⟩:=h.ow x _ m
   exact ⟨a,vs,e,k _ _ e2,dn.past (fun b z=>z.elim .inl fun z=>.inr z.2) (Keep.same (N:=N0) k) fun b z=>z.elim⟩
  | io l =>
   cases eo
   obtain ⟨a,vs,e,e2,dn,_⟩:=h.io x _ m
   exact ⟨a,vs,e,k _ _ e2,dn.past (fun b z=>z.elim .inl fun z=>.inr z.2) (Keep.same (N:=N0) k) fun b z=>z.elim⟩
  | _=>cases eo
theorem Rel.withRes {r:Sl} (h:Rel K M P H0 σ0 σ env ts H) (e:RelE K M P H0 (ents σ env ts++[(some v,r)]) H') (hr:isRes r=true):Rel K M P H0 σ0 σ env (ts++[(v,r)]) H' :=
  ⟨by rw [ents_app];exact e,h.len,(fun w i m=>by
    rcases List.mem_append.mp m with m|m
    · exact h.vw w i m
    · rw [List.mem_singleton] at m
      cases m
      cases hr),h.ios⟩
noncomputable def dCall (sp:DSp) (t:DA):DE:=fun env R=>t env fun ss env1=>∃ ds,keepsOf env1 ss=some ds∧sp (ds.map .fr) (dK (fun r _=>R r env1) ⟨⟩)
theorem argsFr {M':Addr→Prop}{vs:List V}{ds:List PyData} (dns:DNs K M' H vs ds) (hm:∀ a,M' a→H a≠none):RelE K M' (ioOf vs (ds.map .fr)) H (tmp (vs.zip (ds.map .fr))) H:=by
 have oe:=oas_fr vs ds
 have ne:∀ b,Nw M' (tmp (vs.zip (ds.map .fr))) b→M' b:=fun b z=>z.elim id fun z=>by rw[oe] at z;cases z
 refine ⟨Keep.refl,fun a q=>q,hm,fun a z=>?_,fun x d m=>?_,fun x l m=>?_,fun x l m=>?_,fun x S l m=>?_,by rw[oe];exact List.nodup_nil⟩
 rotate_right
 ·obtain ⟨w,d',e1,e2,dn⟩:=mem_frs dns m
  cases e2
 ·have z:a∈oas (tmp (vs.zip (ds.map .fr))):=z
  rw [oe] at z
  cases z
 ·obtain ⟨w,d',e1,e2,dn⟩:=mem_frs dns m
  cases e2
  exact ⟨w,e1,dn.to fun b _ _ z=>ne b z⟩
 ·obtain ⟨w,d',e1,e2,dn⟩:=mem_frs dns m
  cases e2
 ·obtain ⟨w,d',e1,e2,dn⟩:=mem_frs dns m
  cases e2
theorem call_up {sp:DSp}{tl:DA}:∀ σ H Q,up K (dCall sp tl) σ H Q→tCall (spD K sp) [] E0 (upA K tl) σ H Q:=fun σ H Q h=>by
 obtain ⟨M,P,H0,σ0,env,ts,R,rel,ht,hq⟩:=h
 refine ⟨M,P,H0,σ0,env,ts,_,rel,ht,fun ss env1 vs H1 h1 hl rel1=>?_⟩
 obtain ⟨ds,ek,hsp⟩:=h1
 rw [List.append_nil]
 have dns:=rel1.keptAll hl (fun p hp=>hp) ek
 have oe:=oas_fr vs ds
 refine ⟨Nw M (ents σ env1 ts),ds.map .fr,fun r _=>R r env1,by simp[dns.len],argsFr dns fun a z hn=>rel1.drop.newAddr hn z,hsp,fun r ss' v H' hR hr post=>hq _ _ _ _ hR ?_⟩
 have k:Same H1 H':=(post.keep.mono (M:=N0) fun b z=>by
  have z:b∈oas (tmp (vs.zip (ds.map .fr))):=z
  rw [oe] at z
  cases z).none
 exact (rel1.drop).withRes (rel1.drop.e.called k (post.resOk hr)) hr
end
end L2
namespace L2
open PySem PySem.Spec PyProof.Rows
section
variable {K:PySem.W.Frag}{M P N:Addr→Prop}{H0 H H':Hp}{E A B:List Ent}{σ0 σ:St}{env:List Sl}{ts tt:List (V×Sl)}{v:V}{s:Sl}{d:PyData}
theorem tmp_cons (t:V×Sl) (ts:List (V×Sl)):tmp (t::ts)=(some t.1,t.2)::tmp ts:=rfl
theorem tmp_app (ts tt:List (V×Sl)):tmp (ts++tt)=tmp ts++tmp tt:=by simp[tmp]
theorem zip_split {α β:Type}:∀ {l1:List α}{m1:List β} (x:α) (y:β) (l2:List α) (m2:List β),l1.length=m1.length→(l1++x::l2).zip (m1++y::m2)=l1.zip m1++(x,y)::l2.zip m2
 | [],[],_,_,_,_,_=>rfl
 | a::l1,b::m1,x,y,l2,m2,h=>by
  show (a,b)::(l1++x::l2).zip (m1++y::m2)=_
  rw [zip_split x y l2 m2 (by simpa using h)]
  rfl
 | [],_::_,_,_,_,_,h=>by simp at h
 | _::_,[],_,_,_,_,h=>by simp at h
theorem argsIo {M':Addr→Prop}{v1 v2 us:List V}{d1 d2 l:List PyData}{a:Addr} (q1:DNs K M' H v1 d1) (q2:DNs K M' H v2 d2) (hm:∀ a,M' a→H a≠none) (ha:M' a) (hH:H a=some (.lst us)) (ql:DNs K M' H us l) :
  oas (tmp ((v1++.ref a::v2).zip (d1.map .fr++.io l::d2.map .fr)))=[a] ∧
  RelE K M' (ioOf (v1++.ref a::v2) (d1.map .fr++.io l::d2.map .fr)) H (tmp ((v1++.ref a::v2).zip (d1.map .fr++.io l::d2.map .fr))) H:=by
 have ez:(v1++.ref a::v2).zip (d1.map Sl.fr++.io l::d2.map .fr)=v1.zip (d1.map .fr)++(.ref a,.io l)::v2.zip (d2.map .fr):=zip_split _ _ _ _ (by simp[q1.len])
 have oe:oas (tmp ((v1++.ref a::v2).zip (d1.map .fr++.io l::d2.map .fr)))=[a]:=by
  rw [ez,tmp_app,tmp_cons,oas_app,oas_cons,oas_fr,oas_fr]
  rfl
 have ne:∀ b,Nw M' (tmp ((v1++.ref a::v2).zip (d1.map .fr++.io l::d2.map .fr))) b→M' b:=fun b z=>z.elim id fun z=>by rw[oe,List.mem_singleton] at z;rw[z];exact ha
 have cs:∀ x s,(x,s)∈tmp ((v1++.ref a::v2).zip (d1.map .fr++.io l::d2.map .fr))→(∃ w d,x=some w∧s=.fr d∧DN K M' H w d)∨(x=some (.ref a)∧s=.io l):=fun x s m=>by
  rw [ez,tmp_app,tmp_cons] at m
  rcases List.mem_append.mp m with m|m
  ·exact .inl (mem_frs q1 m)
  ·rcases List.mem_cons.mp m with m|m
   ·cases m;exact .inr ⟨rfl,rfl⟩
   ·exact .inl (mem_frs q2 m)
 refine ⟨oe,Keep.refl,fun a q=>q,hm,fun b z=>?_,fun x d m=>?_,fun x l' m=>?_,fun x l' m=>?_,fun x S l' m=>?_,by rw[oe];simp⟩
 rotate_right
 ·rcases cs x _ m with ⟨w,d',e1,e2,dn⟩|⟨_,e2⟩
  ·cases e2
  ·cases e2
 ·have z:b∈oas (tmp ((v1++.ref a::v2).zip (d1.map .fr++.io l::d2.map .fr))):=z
  rw [oe,List.mem_singleton] at z
  rw [z];exact ha
 ·rcases cs x _ m with ⟨w,d',e1,e2,dn⟩|⟨_,e2⟩
  ·cases e2;exact⟨w,e1,dn.to fun b _ _ z=>ne b z⟩
  ·cases e2
 ·rcases cs x _ m with ⟨w,d',e1,e2,dn⟩|⟨_,e2⟩
  ·cases e2
  ·cases e2
 ·rcases cs x _ m with ⟨w,d',e1,e2,dn⟩|⟨e1,e2⟩
  ·cases e2
  ·cases e2
   exact ⟨a,us,e1,hH,ql.to fun b _ _ z=>ne b z,by show a∈oas _;rw[oe];simp⟩
noncomputable def dCallT (sp:DSp) (t:DA):DE:=fun env R=>t env fun ss env1=>∃ l ss' ds,ss=.ow l::ss'∧keepsOf env1 ss'=some ds∧sp (.io l::ds.map .fr) (dK (fun r _=>R r env1) ⟨⟩)
noncomputable def dCallS (sp:DSp) (m:Nat) (t:DA):DE:=fun env R=>t env fun ss env1=>∃ i s0 l d1 d2,ss[m]? = some (.vw i)∧env1[i]? = some s0∧ownD s0=some l∧keepsOf env1 (ss.take m)=some d1∧keepsOf env1 (ss.drop (m+1))=some d2 ∧
 sp (d1.map .fr++.io l::d2.map .fr) (dK (fun r as=>∃ l' s',as[m]? = some (.io l')∧setSl s0 l'=some s'∧R r (env1.set i s')) ⟨⟩)
theorem take_zip {α β:Type} (l:List α) (m:List β) (n:Nat):∀ p∈(l.take n).zip (m.take n),p∈l.zip m:=fun p hp=>by
 rw [List.zip,←List.take_zipWith] at hp
 exact List.mem_of_mem_take hp
theorem drop_zip {α β:Type} (l:List α) (m:List β) (n:Nat):∀ p∈(l.drop n).zip (m.drop n),p∈l.zip m:=fun p hp=>by
 rw [List.zip,←List.drop_zipWith] at hp
 exact List.mem_of_mem_drop hp
theorem cut_at {α:Type}{l:List α}{m:Nat}{x:α} (h:l[m]? = some x):l=l.take m++x::l.drop (m+1):=by
 obtain ⟨hm,e⟩:=List.getElem?_eq_some_iff.mp h
 rw [←e,List.getElem_cons_drop,List.take_append_drop]
theorem callS_up {sp:DSp}{m:Nat}{tl:DA}:∀ σ H Q,up K (dCallS sp m tl) σ H Q→tCall (spD K sp) [] E0 (upA K tl) σ H Q:=fun σ H Q h=>by
 obtain ⟨M,P,H0,σ0,env,ts,R,rel,ht,hq⟩:=h
 refine ⟨M,P,H0,σ0,env,ts,_,rel,ht,fun ss env1 vs H1 h1 hl rel1=>?_⟩
 obtain ⟨i,s0,l,d1,d2,em,ei,eo,k1,k2,hsp⟩:=h1
 rw [List.append_nil]
 have relT:=rel1.drop
 obtain ⟨a,us,ea,hH,ql⟩:=relT.mine ei eo
 have hm:m<ss.length:=(List.getElem?_eq_some_iff.mp em).1
 have hmv:m<vs.length:=by omega
 have va:vs[m]? = some (.ref a):=by
  have mz:(vs[m],ss[m])∈vs.zip ss:=by
   have hz:m<(vs.zip ss).length:=by rw[List.length_zip];omega
   have:=List.getElem_mem hz
   rwa [List.getElem_zip] at this
  rw [(List.getElem?_eq_some_iff.mp em).2] at mz
  have q:=rel1.vw _ _ (List.mem_append_right _ mz)
  rw [ea] at q
  rw [List.getElem?_eq_getElem hmv]
  exact congrArg some (Option.some.inj (Option.some.inj q)).symm
 have ev:=cut_at va
 have q1:=rel1.keptAll (vs:=vs.take m) (ss:=ss.take m) (by simp;omega) (take_zip _ _ _) k1
 have q2:=rel1.keptAll (vs:=vs.drop (m+1)) (ss:=ss.drop (m+1)) (by simp;omega) (drop_zip _ _ _) k2
 have hE:=relT.e
 have ma:Nw M (ents σ env1 ts) a:=by
  obtain ⟨x,e1,mm⟩:=relT.slot ei
  rw [ea] at e1
  cases e1
  refine .inr (mem_oas.mpr ⟨_,mm,?_⟩)
  exact (own_of eo).2 a
 have arg:=argsIo (l:=l) (us:=us) (a:=a) q1 q2 (fun b z hn=>relT.newAddr hn z) ma hH ql
 rw [←ev] at arg
 have ld1:=q1.len
 have ld2:=q2.len
 refine ⟨_,d1.map .fr++.io l::d2.map .fr,_,?_,arg.2,hsp,fun r ss2 v H' hR hr post=>?_⟩
 ·rw [ev]
  simp only [List.length_append,List.length_cons,List.length_map]
  omega
 obtain ⟨l',s',e2,es,hR⟩:=hR
 refine hq _ _ _ _ hR ?_
 have k:Keep (fun b=>b=a) H1 H':=post.keep.mono fun b z=>by
  have z:b∈oas (tmp (vs.zip (d1.map .fr++.io l::d2.map .fr))):=z
  rw [arg.1,List.mem_singleton] at z
  exact z
 have mp:((some (.ref a),.io l'):Ent)∈tmp ((v,r)::vs.zip ss2):=by
  rw [tmp_cons]
  refine List.mem_cons_of_mem _ (List.mem_map.mpr ⟨(.ref a,.io l'),?_,rfl⟩)
  have h2:m<ss2.length:=(List.getElem?_eq_some_iff.mp e2).1
  have hz:m<(vs.zip ss2).length:=by rw[List.length_zip];omega
  have:=List.getElem_mem hz
  rw [List.getElem_zip,(List.getElem?_eq_some_iff.mp va).2,(List.getElem?_eq_some_iff.mp e2).2] at this
  exact this
 obtain ⟨a',us',z,hH',ql',_⟩:=post.io _ _ mp
 cases z
 obtain ⟨x,A,B,e3,sp1,sp2⟩:=relT.split ei
 rw [ea] at e3
 cases e3
 have iso:isOw s0 l' s':=(set_of es).1
 rw [sp1] at hE
 have dnl:DNs K (Nw M (A++(some (.ref a),s0)::B)) H' us' l':=ql'.to fun b _ _ z=>.inl (by rw[sp1];exact z)
 have hM:=hE.muted iso k post.live hH' dnl
 have neq:Nw M (ents σ (env1.set i s') ts)=Nw M (ents σ env1 ts):=by
  rw [sp1,sp2]
  have oa:own1 (some (.ref a),s0)=[a]∧own1 (some (.ref a),s')=[a]:=by
   exact isOw_own iso
  unfold Nw
  rw [oas_app,oas_app,oas_cons,oas_cons,oa.1,oa.2]
 rw [←sp2] at hM
 have rk:ResOk K (Nw M (ents σ (env1.set i s') ts)) H1 H' v r:=by rw[neq];exact post.resOk hr
 have relB:Rel K M P H0 σ0 σ (env1.set i s') ts H':=⟨hM,by simp[relT.len],relT.vw,fun j ds'' e'=>by
  by_cases hj:i=j
  ·subst hj
   have hi:i<env1.length:=(List.getElem?_eq_some_iff.mp ei).1
   rw [List.getElem?_set_self hi] at e'
   cases e'
   obtain ⟨ds0,rfl⟩:=set_io es
   exact relT.ios i ds0 ei
  ·rw [List.getElem?_set_ne hj] at e'
   exact relT.ios j ds'' e'⟩
 refine relB.withRes ?_ hr
 have old:∀ x t,(x,t)∈ents σ (env1.set i s') ts→(x,t)=(some (.ref a),s')∨((x,t)∈A∨(x,t)∈B):=fun x t m=>by
  rw [sp2] at m
  rcases List.mem_append.mp m with m|m
  ·exact .inr (.inl m)
  ·rcases List.mem_cons.mp m with m|m
   ·exact .inl m
   ·exact .inr (.inr m)
 have back:∀ x t,(x,t)∈A∨(x,t)∈B→(x,t)∈A++(some (.ref a),s0)::B:=fun x t m=>by
  rcases m with m|m
  ·exact List.mem_append_left _ m
  ·exact List.mem_append_right _ (List.mem_cons_of_mem _ m)
 have n2:∀ b,(Nw M (ents σ (env1.set i s') ts) b∨(b∈own1 (some v,r)∧H1 b=none))→Nw M (A++(some (.ref a),s0)::B) b∨H1 b=none:=fun b z=>by
  rw [neq,sp1] at z
  exact z.elim .inl fun z=>.inr z.2
 have pa:∀ b,b=a→(Nw M (ents σ (env1.set i s') ts) b∨(b∈own1 (some v,r)∧H1 b=none)):=fun b z=>by rw[z,neq];exact .inl ma
 have oa0:own1 (some (.ref a),s0)=[a]:=(isOw_own iso).1
 have nd:=hE.nd
 rw [oas_app,oas_cons,oa0] at nd
 obtain ⟨_,nd2,nd3⟩:=List.nodup_append.mp nd
 obtain ⟨nd4,_⟩:=List.nodup_cons.mp nd2
 have other:∀ x t b,(x,t)∈A∨(x,t)∈B→b∈own1 (x,t)→b≠a:=fun x t b m eo z=>by
  subst z
  rcases m with m|m
  ·exact nd3 b (mem_oas.mpr ⟨_,m,eo⟩) b List.mem_cons_self rfl
  ·exact nd4 (mem_oas.mpr ⟨_,m,eo⟩)
 refine hM.getRes relT.e.live rk (fun x d mm=>?_) (fun x t ds' mm eo'=>?_) fun x S d mm=>?_
 rotate_right
 ·rcases old _ _ mm with mm|mm
  ·rcases isOw_two iso with ⟨_,_,e⟩|⟨_,_,e⟩ <;> (rw[e] at mm;cases mm)
  ·obtain ⟨w,e,dn,_⟩:=hE.tr x S d (back _ _ mm)
   subst e
   exact ⟨w,rfl,dn.past n2 k pa fun b hb z=>other _ _ b mm (by rw[own1_tr];exact hb) z⟩
 ·rcases old _ _ mm with mm|mm
  ·rcases isOw_two iso with ⟨_,_,e⟩|⟨_,_,e⟩ <;> (rw[e] at mm;cases mm)
  ·obtain ⟨w,e,dn⟩:=hE.fr x d (back _ _ mm)
   exact ⟨w,e,dn.past n2 k pa⟩
 ·rcases old _ _ mm with mm|mm
  ·cases mm
   have el:ds'=l':=Option.some.inj (eo'.symm.trans (set_of es).2)
   subst el
   refine ⟨a,us',rfl,hH',ql'.to fun b _ _ z=>?_⟩
   rcases z with z|z
   ·exact .inl (by rw[←neq];exact z)
   ·exact .inr (by rw[tmp_cons,oas_cons];exact List.mem_append_left _ z.1)
  ·cases t with
   | ow l2 =>
    cases eo'
    obtain ⟨b,us2,e,e2',dn,_⟩:=hE.ow x _ (back _ _ mm)
    subst e
    exact ⟨b,us2,rfl,k _ _ (other _ _ b mm (List.mem_singleton.mpr rfl)) e2',dn.past n2 k pa⟩
   | io l2 =>
    cases eo'
    obtain ⟨b,us2,e,e2',dn,_⟩:=hE.io x _ (back _ _ mm)
    subst e
    exact ⟨b,us2,rfl,k _ _ (other _ _ b mm (List.mem_singleton.mpr rfl)) e2',dn.past n2 k pa⟩
   | _=>cases eo'
end
end L2
namespace L2
open PySem PySem.Spec PyProof.Rows
structure DEnds where
 nx : List Sl→Prop
 rt : Sl→List Sl→Prop
 bk : List Sl→Prop:=fun _=>False
 ct : List Sl→Prop:=fun _=>False
noncomputable abbrev DS:=DEnds→List Sl→Prop
noncomputable def NoVw (ts:List (V×Sl)):Prop:=∀ v i,(v,Sl.vw i) ∉ ts
structure EndsOk (K:PySem.W.Frag) (M P:Addr→Prop) (H0:Hp) (σ0:St) (ts:List (V×Sl)) (DD:DEnds) (D:Ends):Prop where
 nx : ∀ σ' env' H',DD.nx env'→Rel K M P H0 σ0 σ' env' ts H'→D.nx σ' H'
 rt : ∀ s env' v σ' H',DD.rt s env'→Rel K M P H0 σ0 σ' env' (ts++[(v,s)]) H'→D.rt v H'
 bk : ∀ σ' env' H',DD.bk env'→Rel K M P H0 σ0 σ' env' ts H'→D.bk σ' H'
 ct : ∀ σ' env' H',DD.ct env'→Rel K M P H0 σ0 σ' env' ts H'→D.ct σ' H'
noncomputable def upS (K:PySem.W.Frag) (t:DS):TS:=fun D σ H=>∃ (M P:Addr→Prop) (H0:Hp) (σ0:St) (env:List Sl) (ts:List (V×Sl)) (DD:DEnds),NoVw ts∧Rel K M P H0 σ0 σ env ts H∧t DD env∧EndsOk K M P H0 σ0 ts DD D
theorem PS.imp {X:Cx}{e:Stmt}{t t':TS} (h:PS X e t) (k:∀ D σ H,t' D σ H→t D σ H):PS X e t':=fun pins s σ H D I hw=>h pins s σ H D I (k D σ H hw)
theorem PSs.imp {X:Cx}{e:List Stmt}{t t':TS} (h:PSs X e t) (k:∀ D σ H,t' D σ H→t D σ H):PSs X e t':=fun pins s σ H D I hw=>h pins s σ H D I (k D σ H hw)
section
variable {K:PySem.W.Frag}{M P N:Addr→Prop}{H0 H H':Hp}{σ0 σ:St}{env:List Sl}{ts tt:List (V×Sl)}{v:V}{s:Sl}{d:PyData}
noncomputable def stoOf (env:List Sl):Sl→Option Sl
 | .fr d=>some (.fr d)
 | .ow ds=>some (.ow ds)
 | .tr S d=>some (.tr S d)
 | .vw i=>((env[i]?).bind slK).map .fr
 | _=>none
theorem Rel.unVw (h:Rel K M P H0 σ0 σ env (ts++[(v,s)]) H) {s':Sl} (e:stoOf env s=some s'):Rel K M P H0 σ0 σ env (ts++[(v,s')]) H∧isRes s'=true:=by
 cases s with
 | fr d=>cases e;exact⟨h,rfl⟩
 | ow ds=>cases e;exact⟨h,rfl⟩
 | tr S d=>cases e;exact⟨h,rfl⟩
 | vw i =>
  have e:((env[i]?).bind slK).map Sl.fr=some s':=e
  cases q:(env[i]?).bind slK with
  | none=>rw[q] at e;cases e
  | some d =>
   rw [q] at e
   cases e
   exact ⟨h.drop.addFr (h.kept (tt:=[(v,.vw i)]) (s:=.vw i) (by simp) q),rfl⟩
 | _=>cases e
theorem zip_set2 {σ:St}{env:List Sl}{i:Nat}{x:Option V}{s':Sl}:(σ.set i x).zip (env.set i s')=(σ.zip env).set i (x,s'):=by
 apply List.ext_getElem?
 intro j
 rw [zip_get]
 by_cases hj:i=j
 ·subst hj
  rw [List.getElem?_set_self',List.getElem?_set_self',List.getElem?_set_self',zip_get]
  cases σ[i]? <;> cases env[i]? <;> rfl
 ·rw [List.getElem?_set_ne hj,List.getElem?_set_ne hj,List.getElem?_set_ne hj,zip_get]
theorem Rel.store (h:Rel K M P H0 σ0 σ env (ts++[(v,s)]) H) (nv:NoVw ts) {i:Nat} (hi:i<env.length) (hs:isRes s=true):Rel K M P H0 σ0 (σ.set i (some v)) (env.set i s) ts H:=by
 have hiz:i<(σ.zip env).length:=by rw[List.length_zip,h.len];omega
 obtain ⟨A,B,q1,q2⟩:=mem_split (List.getElem?_eq_getElem hiz)
 refine ⟨?_,by simp[h.len],fun w j m=>absurd m (nv w j),fun j ds e=>?_⟩
 ·have hE:=h.e
  unfold ents at hE ⊢
  rw [q1,tmp_app,List.append_assoc] at hE
  rw [zip_set2,q2,List.append_assoc]
  have e2:((σ.zip env)[i]::B)++(tmp ts++tmp [(v,s)])=(σ.zip env)[i]::((B++tmp ts)++[(some v,s)]):=by simp[tmp]
  rw [e2] at hE
  have:=hE.move
  simpa using this
 ·by_cases hj:i=j
  ·subst hj
   rw [List.getElem?_set_self hi] at e
   cases e
   cases hs
  ·rw [List.getElem?_set_ne hj] at e
   rw [List.getElem?_set_ne hj]
   exact h.ios j ds e
end
section
variable {X:Cx}{K:PySem.W.Frag}{pos:Pos}{st:Stmt}{rest a b:List Stmt}{t u:DS}{e c:Expr}{te:DE}{tc:DT}
noncomputable def dNext:DS:=fun DD env=>DD.nx env
noncomputable def dSeq (t u:DS):DS:=fun DD env=>t { DD with nx:=u DD } env
noncomputable def dCut (t u:DS):DS:=fun DD env=>∃ R:List Sl→Prop,t { DD with nx:=dI R ⟨⟩ } env∧∀ env',R env'→u DD env'
theorem qs_nil:PSs X [] (upS K dNext):=pss_nil.imp fun D σ H h=>by
 obtain ⟨M,P,H0,σ0,env,ts,DD,nv,rel,ht,ok⟩:=h
 exact ok.nx _ _ _ ht rel
theorem qs_cons (h1:PS X st (upS K t)) (h2:PSs X rest (upS K u)):PSs X (st::rest) (upS K (dSeq t u)):=(pss_cons h1 h2).imp fun D σ H h=>by
 obtain ⟨M,P,H0,σ0,env,ts,DD,nv,rel,ht,ok⟩:=h
 exact ⟨M,P,H0,σ0,env,ts,_,nv,rel,ht,⟨fun σ' env' H' q r=>⟨M,P,H0,σ0,env',ts,DD,nv,r,q,ok⟩,ok.rt,ok.bk,ok.ct⟩⟩
theorem qs_cut (h1:PS X st (upS K t)) (h2:PSs X rest (upS K u)):PSs X (st::rest) (upS K (dCut t u)):=(pss_cut h1 h2).imp fun D σ H h=>by
 obtain ⟨M,P,H0,σ0,env,ts,DD,nv,rel,⟨R,ht,hR⟩,ok⟩:=h
 exact ⟨fun σ' H'=>∃ env',R env'∧Rel K M P H0 σ0 σ' env' ts H',⟨M,P,H0,σ0,env,ts,_,nv,rel,ht,⟨fun σ' env' H' q r=>⟨env',q,r⟩,ok.rt,ok.bk,ok.ct⟩⟩,
  fun σ' H' ⟨env',q,r⟩=>⟨M,P,H0,σ0,env',ts,DD,nv,r,hR env' q,ok⟩⟩
theorem qs_one (h1:PS X st (upS K t)):PSs X [st] (upS K t):=pss_one h1
noncomputable def dBrk:DS:=fun DD env=>DD.bk env
noncomputable def dCont:DS:=fun DD env=>DD.ct env
noncomputable def dDrop (te:DE):DS:=fun DD env=>te env fun _ env1=>DD.nx env1
theorem q_expr (he:PE X e (up K te)) (hs:swapsWith e none pos.line X.env=pure false:=by rfl):PS X (.Expr e pos) (upS K (dDrop te)):=(ps_expr he hs).imp fun D σ H h=>by
 obtain ⟨M,P,H0,σ0,env,ts,DD,nv,rel,ht,ok⟩:=h
 exact ⟨M,P,H0,σ0,env,ts,_,rel,ht,fun s1 env1 v1 H1 h1 rel1=>ok.nx _ _ _ h1 rel1.drop⟩
noncomputable def dRet (te:DE):DS:=fun DD env=>te env DD.rt
theorem q_ret (he:PE X e (up K te)):PS X (.Return (some e) pos) (upS K (dRet te)):=(ps_ret he).imp fun D σ H h=>by
 obtain ⟨M,P,H0,σ0,env,ts,DD,nv,rel,ht,ok⟩:=h
 exact ⟨M,P,H0,σ0,env,ts,_,rel,ht,fun s1 env1 v1 H1 h1 rel1=>ok.rt _ _ _ _ _ h1 rel1⟩
noncomputable def dRetN:DS:=fun DD env=>DD.rt (.fr .none) env
noncomputable def dIfS (c:DT) (t u:DS):DS:=fun DD env=>c env fun k env1=>if k=true then t DD env1 else u DD env1
theorem q_if (hc:PT X c (upT K tc)) (ha:PSs X a (upS K t)) (hb:PSs X b (upS K u)):PS X (.If c a b pos) (upS K (dIfS tc t u)):=(ps_if hc ha hb).imp fun D σ H h=>by
 obtain ⟨M,P,H0,σ0,env,ts,DD,nv,rel,ht,ok⟩:=h
 refine ⟨M,P,H0,σ0,env,ts,_,rel,ht,fun k env1 H1 h1 rel1=>?_⟩
 cases k with
 | true=>exact⟨M,P,H0,σ0,env1,ts,DD,nv,rel1,h1,ok⟩
 | false=>exact⟨M,P,H0,σ0,env1,ts,DD,nv,rel1,h1,ok⟩
noncomputable def dSet (i:Nat) (te:DE):DS:=fun DD env=>te env fun s env1=>∃ s',i<env1.length∧stoOf env1 s=some s'∧DD.nx (env1.set i s')
theorem q_set {i:Nat}{x:Str}{pos':Pos} (hN:X.N.Nodup) (hi:X.N[i]? = some x) (hx:Loc X.env.scope x) (he:PE X e (up K te)) (hs:swapsWith e (some (.Name x pos')) pos.line X.env=pure false:=by rfl) (hf:X.fn x=true∨X.env.scope.names.lookup x=some .local:=by first|exact .inl rfl|exact .inr rfl|assumption):PS X (.Assign [.Name x pos'] e pos) (upS K (dSet i te)) :=
 (ps_set hN hi hx he hs hf).imp fun D σ H h=>by
 obtain ⟨M,P,H0,σ0,env,ts,DD,nv,rel,ht,ok⟩:=h
 refine ⟨M,P,H0,σ0,env,ts,_,rel,ht,fun s1 env1 v1 H1 h1 rel1=>?_⟩
 obtain ⟨s',hl,es,hR⟩:=h1
 obtain ⟨r,cs⟩:=rel1.unVw es
 exact ok.nx _ _ _ hR (r.store nv hl cs)
end
end L2
namespace L2
open PySem PySem.Spec PyProof.Rows
noncomputable abbrev DG:=PyData→List Sl→(List Sl→Prop)→Prop
noncomputable abbrev DGs:=List PyData→List Sl→(List Sl→Prop)→Prop
noncomputable def upG (K:PySem.W.Frag) (g:DG):TG:=fun v σ H Q=>∃ (M P:Addr→Prop) (H0:Hp) (σ0:St) (env:List Sl) (ts:List (V×Sl)) (d:PyData) (R:List Sl→Prop),NoVw ts∧Rel K M P H0 σ0 σ env ts H∧DN K (Nw M (ents σ env ts)) H v d∧g d env R ∧
 ∀ σ' env' H',R env'→Rel K M P H0 σ0 σ' env' ts H'→Q σ' H'
noncomputable def upGs (K:PySem.W.Frag) (g:DGs):TGs:=fun vs σ H Q=>∃ (M P:Addr→Prop) (H0:Hp) (σ0:St) (env:List Sl) (ts:List (V×Sl)) (ds:List PyData) (R:List Sl→Prop),NoVw ts∧Rel K M P H0 σ0 σ env ts H∧DNs K (Nw M (ents σ env ts)) H vs ds∧g ds env R ∧
 ∀ σ' env' H',R env'→Rel K M P H0 σ0 σ' env' ts H'→Q σ' H'
theorem PG.imp {X:Cx}{e:Expr}{t t':TG} (h:PG X e t) (k:∀ v σ H Q,t' v σ H Q→t v σ H Q):PG X e t':=fun pins s σ H v u Q I r hw=>h pins s σ H v u Q I r (k v σ H Q hw)
theorem PGs.imp {X:Cx}{e:List Expr}{t t':TGs} (h:PGs X e t) (k:∀ v σ H Q,t' v σ H Q→t v σ H Q):PGs X e t':=fun pins s σ H v u Q I r hw=>h pins s σ H v u Q I r (k v σ H Q hw)
section
variable {K:PySem.W.Frag}{M P N:Addr→Prop}{H0 H H':Hp}{σ0 σ:St}{env:List Sl}{ts tt kp:List (V×Sl)}{v:V}{s:Sl}{d:PyData}{X:Cx}{pos:Pos}{e:Expr}{es:List Expr}
theorem oas_tmpFr (v:V) (d:PyData):oas (tmp [(v,Sl.fr d)])=[]:=by
 show oas [(some v,Sl.fr d)]=[]
 rw [oas_cons]
 cases v <;> rfl
theorem nw_tmpFr {E:List Ent}{v:V}{d:PyData}:Nw M (E++tmp [(v,Sl.fr d)])=Nw M E:=by
 unfold Nw
 rw [oas_app,oas_tmpFr,List.append_nil]
noncomputable def dgName (i:Nat):DG:=fun d env R=>i<env.length∧R (env.set i (.fr d))
theorem qg_name {i:Nat}{x:Str} (hN:X.N.Nodup) (hi:X.N[i]? = some x) (hx:Loc X.env.scope x) (hf:X.fn x=true∨X.env.scope.names.lookup x=some .local:=by first|exact .inl rfl|exact .inr rfl|assumption):PG X (.Name x pos) (upG K (dgName i)) :=
 (pg_name hN hi hx hf).imp fun v σ H Q h=>by
 obtain ⟨M,P,H0,σ0,env,ts,d,R,nv,rel,dn,⟨hl,hR⟩,hq⟩:=h
 exact hq _ _ _ hR ((rel.addFr dn).store nv hl rfl)
noncomputable def dgNil:DGs:=fun ds env R=>ds=[]∧R env
noncomputable def dgCons (g:DG) (gs:DGs):DGs:=fun ds env R=>∃ d r,ds=d::r∧g d env fun env1=>gs r env1 R
theorem qgs_nil:PGs X [] (upGs K dgNil):=pgs_nil.imp fun v σ H Q h=>by
 obtain ⟨M,P,H0,σ0,env,ts,ds,R,nv,rel,dn,⟨rfl,hR⟩,hq⟩:=h
 cases dn
 exact ⟨rfl,hq _ _ _ hR rel⟩
theorem keeps_fr (env:List Sl):∀ ds:List PyData,keepsOf env (ds.map .fr)=some ds
 | []=>rfl
 | d::ds=>by
  show (keepOf env (Sl.fr d)).bind _=_
  rw [keeps_fr env ds]
  rfl
theorem noVw_fr (vs:List V) (ds:List PyData) (nv:NoVw ts):NoVw (ts++vs.zip (ds.map .fr)):=fun w i m=>by
 rcases List.mem_append.mp m with m|m
 ·exact nv w i m
 ·obtain ⟨d,_,e⟩:=List.mem_map.mp (List.of_mem_zip m).2
  cases e
theorem Rel.addFrs:∀ {vs:List V}{ds:List PyData}{ts:List (V×Sl)},Rel K M P H0 σ0 σ env ts H→DNs K (Nw M (ents σ env ts)) H vs ds→Rel K M P H0 σ0 σ env (ts++vs.zip (ds.map .fr)) H
 | _,_,ts,rel,.nil=>by simpa using rel
 | _,_,ts,rel,@DNs.cons _ _ _ v vs d ds h q=>by
  have r:=rel.addFr h
  have q':DNs K (Nw M (ents σ env (ts++[(v,.fr d)]))) H vs ds:=q.to fun b _ _ z=>by rw[ents_app,nw_tmpFr] at z;exact z
  have:=Rel.addFrs r q'
  simpa using this
theorem qgs_cons {g:DG}{gs:DGs} (h1:PG X e (upG K g)) (h2:PGs X es (upGs K gs)) (hs:(assignEach (e::es) X.env).map (·.2)=assign e X.env::(assignEach es X.env).map (·.2):=by rfl):PGs X (e::es) (upGs K (dgCons g gs)) :=
 (pgs_cons h1 h2 hs).imp fun vs σ H Q h=>by
 obtain ⟨M,P,H0,σ0,env,ts,ds,R,nv,rel,dn,⟨d,r,rfl,hg⟩,hq⟩:=h
 cases dn with
 | @cons v vs _ _ h q =>
  have relA:=rel.addFrs q
  have hN:DN K (Nw M (ents σ env (ts++vs.zip (r.map .fr)))) H v d:=h.to fun b _ _ z=>by
   rw [ents_app] at z
   rcases z with z|z
   ·exact .inl z
   ·rw [oas_app,oas_fr,List.append_nil] at z
    exact .inr z
  refine ⟨v,vs,rfl,M,P,H0,σ0,env,ts++vs.zip (r.map .fr),d,_,noVw_fr _ _ nv,relA,hN,hg,fun σ' env' H' hR' rel'=>?_⟩
  exact ⟨M,P,H0,σ0,env',ts,r,R,nv,rel'.drop,rel'.keptAll (by simp[q.len]) (fun p hp=>hp) (keeps_fr _ _),hR',hq⟩
noncomputable def dgTup (n:Nat) (gs:DGs):DG:=fun d env R=>∃ ds,d=.tuple ds∧ds.length=n∧gs ds env R
theorem qg_tup {k:Nat}{gs:DGs}{n:Nat} (hK:X.K=K) (hc:X.calm=true) (h:PGs X es (upGs K gs)) (hn:(assignEach es X.env).length=n:=by rfl) (hst:(assignEach es X.env).findIdx? (·.1)=none:=by rfl):PG X (.Tuple es k pos) (upG K (dgTup n gs)) :=
 (kgTup (K:=K) hK hc h hn hst).imp fun v σ H Q h=>by
 obtain ⟨M,P,H0,σ0,env,ts,d,R,nv,rel,dn,⟨ds,rfl,hl,hg⟩,hq⟩:=h
 obtain ⟨a,xs,rfl,sn,q⟩:=dn.tuple
 exact ⟨a,xs,rfl,sn.sq,by rw[q.len];exact hl,M,P,H0,σ0,env,ts,ds,R,nv,rel,q,hg,hq⟩
noncomputable def dAsg (te:DE) (g:DG):DS:=fun DD env=>te env fun s env1=>∃ d,keepOf env1 s=some d∧g d env1 DD.nx
theorem q_asg {tg:Expr}{te:DE}{g:DG} (he:PE X e (up K te)) (hg:PG X tg (upG K g)) (hs:swapsWithSole [tg] e pos.line X.env=pure false:=by rfl) (hw:swappedStores [tg] e X.env=pure none:=by rfl)
  (h1:(assignEach [tg] X.env).map (·.2)=[assign tg X.env]:=by rfl):PS X (.Assign [tg] e pos) (upS K (dAsg te g)):=(ps_asg he hg hs hw h1).imp fun D σ H h=>by
 obtain ⟨M,P,H0,σ0,env,ts,DD,nv,rel,ht,ok⟩:=h
 refine ⟨M,P,H0,σ0,env,ts,_,rel,ht,fun s1 env1 v1 H1 h1 rel1=>?_⟩
 obtain ⟨d,k,hg⟩:=h1
 exact ⟨M,P,H0,σ0,env1,ts,d,_,nv,rel1.drop,rel1.kept (v:=v1) (s:=s1) (by simp) k,hg,fun σ' env' H' hR r=>ok.nx _ _ _ hR r⟩
structure IterOk (K:PySem.W.Frag) (J:It) (kp:List (V×Sl)) (ds:List PyData):Prop where
 go : ∀ {M P:Addr→Prop}{H0 H:Hp}{σ0 σ:St}{env:List Sl}{ts:List (V×Sl)},Rel K M P H0 σ0 σ env (ts++kp) H→∀ i,i<ds.length→J.go i H
 yld:∀ {M P:Addr→Prop}{H0 H:Hp}{σ0 σ:St}{env:List Sl}{ts:List (V×Sl)},Rel K M P H0 σ0 σ env (ts++kp) H→∀ i x H',(hi:i<ds.length)→J.yld i H x H'→Same H H'∧DN K (Nw M (ents σ env (ts++kp))) H' x ds[i]
 stop:∀ {M P:Addr→Prop}{H0 H:Hp}{σ0 σ:St}{env:List Sl}{ts:List (V×Sl)},Rel K M P H0 σ0 σ env (ts++kp) H→J.stop ds.length H
 nv : NoVw kp
noncomputable abbrev DI:=List Sl→(List PyData→List Sl→Prop)→Prop
noncomputable def upI (K:PySem.W.Frag) (t:DI):TI:=fun σ H R=>∃ (M P:Addr→Prop) (H0:Hp) (σ0:St) (env:List Sl) (ts:List (V×Sl)) (RR:List PyData→List Sl→Prop),Rel K M P H0 σ0 σ env ts H∧t env RR ∧
 ∀ ds env' J H' kp,RR ds env'→Rel K M P H0 σ0 σ env' (ts++kp) H'→IterOk K J kp ds→R J H'
theorem PI.imp {tg iter:Expr}{t t':TI} (h:PI X tg iter t) (k:∀ σ H R,t' σ H R→t σ H R):PI X tg iter t':=fun pins s σ H R I hw=>h pins s σ H R I (k σ H R hw)
theorem seq_item {b:Bool}{a:Addr}{ds:List PyData} (rel:Rel K M P H0 σ0 σ env ts H) (m:(.ref a,.fr (if b then .tuple ds else .list ds))∈ts):∃ xs,SqB K H b a xs∧DNs K (Nw M (ents σ env ts)) H xs ds:=by
 obtain ⟨v,e,dn⟩:=rel.e.fr _ _ (mem_tmp m)
 cases e
 cases b with
 | false =>
  obtain ⟨a',xs,e,sn,q⟩:=DN.list dn
  cases e
  exact ⟨xs,sn.sq,q⟩
 | true =>
  obtain ⟨a',xs,e,sn,q⟩:=DN.tuple dn
  cases e
  exact ⟨xs,sn.sq,q⟩
theorem DNs.item {vs:List V}{ds:List PyData} (q:DNs K N H vs ds) {i:Nat} (hi:i<ds.length):∃ x,vs[i]? = some x∧DN K N H x ds[i]:=by
 have hv:i<vs.length:=by rw[q.len];exact hi
 obtain ⟨e,h1,h2⟩:=q.get (List.getElem?_eq_getElem hv)
 rw [List.getElem?_eq_getElem hi] at h1
 cases h1
 exact ⟨vs[i],List.getElem?_eq_getElem hv,h2⟩
theorem noVw1 {v:V}{d:PyData}:NoVw [(v,Sl.fr d)]:=fun w i m=>by rw[List.mem_singleton] at m;cases m
theorem iter_list {a:Addr}{ds:List PyData}:IterOk K (Itl K a) [(.ref a,.fr (.list ds))] ds where
 go := fun rel i hi=>by
  obtain ⟨xs,s,q⟩:=seq_item (b:=false) (a:=a) (ds:=ds) rel (List.mem_append_right _ (by simp))
  obtain ⟨x,e,_⟩:=q.item hi
  exact ⟨xs,x,s,e⟩
 yld:=fun rel i x H' hi y=>by
  obtain ⟨xs,s,q⟩:=seq_item (b:=false) (a:=a) (ds:=ds) rel (List.mem_append_right _ (by simp))
  obtain ⟨e,y⟩:=y
  subst e
  obtain ⟨x',e',dn⟩:=q.item hi
  rw [y xs s] at e'
  cases e'
  exact ⟨Same.refl _,dn⟩
 stop:=fun rel=>by
  obtain ⟨xs,s,q⟩:=seq_item (b:=false) (a:=a) (ds:=ds) rel (List.mem_append_right _ (by simp))
  exact ⟨xs,s,by rw[q.len];exact Nat.le_refl _⟩
 nv := noVw1
theorem iter_tup {a:Addr}{ds:List PyData}:IterOk K (Itt K a) [(.ref a,.fr (.tuple ds))] ds where
 go := fun rel i hi=>by
  obtain ⟨xs,s,q⟩:=seq_item (b:=true) (a:=a) (ds:=ds) rel (List.mem_append_right _ (by simp))
  obtain ⟨x,e,_⟩:=q.item hi
  exact ⟨xs,x,s,e⟩
 yld:=fun rel i x H' hi y=>by
  obtain ⟨xs,s,q⟩:=seq_item (b:=true) (a:=a) (ds:=ds) rel (List.mem_append_right _ (by simp))
  obtain ⟨e,y⟩:=y
  subst e
  obtain ⟨x',e',dn⟩:=q.item hi
  rw [y xs s] at e'
  cases e'
  exact ⟨Same.refl _,dn⟩
 stop:=fun rel=>by
  obtain ⟨xs,s,q⟩:=seq_item (b:=true) (a:=a) (ds:=ds) rel (List.mem_append_right _ (by simp))
  exact ⟨xs,s,by rw[q.len];exact Nat.le_refl _⟩
 nv := noVw1
noncomputable def rangeD (lo:Int) (n:Nat):List PyData:=(List.range n).map fun (k:Nat)=>PyData.int (lo+k)
theorem rangeD_len (lo:Int) (n:Nat):(rangeD lo n).length=n:=by simp[rangeD]
theorem rangeD_get (lo:Int) (n i:Nat) (h:i<(rangeD lo n).length):(rangeD lo n)[i]=.int (lo+i):=by simp[rangeD]
theorem iter_range {lo:Int}{n:Nat}:IterOk K (Itr lo n) [] (rangeD lo n) where
 go := fun rel i hi=>by rw[rangeD_len] at hi;exact hi
 yld:=fun rel i x H' hi y=>by
  obtain ⟨e,y⟩:=y
  subst e
  rw [rangeD_get,y]
  exact ⟨Same.refl _,.int _⟩
 stop:=fun rel=>by rw[rangeD_len];exact Nat.le_refl _
 nv := fun w i m=>by cases m
noncomputable def enumD (ds:List PyData):List PyData:=ds.zipIdx.map fun (p:PyData×Nat)=>PyData.tuple [.int p.2,p.1]
noncomputable def zipD (ds es:List PyData):List PyData:=List.zipWith (fun d e=>PyData.tuple [d,e]) ds es
theorem zipD_len (ds es:List PyData):(zipD ds es).length=min ds.length es.length:=by simp[zipD]
theorem iter_zip {b c:Bool}{a a':Addr}{ds es:List PyData}:IterOk K (Itz K b c a a') [(.ref a,.fr (if b then .tuple ds else .list ds)),(.ref a',.fr (if c then .tuple es else .list es))] (zipD ds es) where
 go := fun rel i hi=>by
  rw [zipD_len] at hi
  obtain ⟨xs,s,q⟩:=seq_item (b:=b) (a:=a) (ds:=ds) rel (List.mem_append_right _ (by simp))
  obtain ⟨xs',s',q'⟩:=seq_item (b:=c) (a:=a') (ds:=es) rel (List.mem_append_right _ (by simp))
  obtain ⟨x,e,_⟩:=q.item (i:=i) (by omega)
  obtain ⟨x',e',_⟩:=q'.item (i:=i) (by omega)
  exact ⟨xs,xs',x,x',s,s',e,e'⟩
 yld:=fun {M P H0 H σ0 σ env ts} rel i x H' hi y=>by
  have hi':=hi
  rw [zipD_len] at hi'
  obtain ⟨xs,s,q⟩:=seq_item (b:=b) (a:=a) (ds:=ds) rel (List.mem_append_right _ (by simp))
  obtain ⟨xs',s',q'⟩:=seq_item (b:=c) (a:=a') (ds:=es) rel (List.mem_append_right _ (by simp))
  obtain ⟨p,x1,x2,rfl,hp,rfl,y1,y2⟩:=y
  obtain ⟨u1,e1,dn1⟩:=q.item (i:=i) (by omega)
  obtain ⟨u2,e2,dn2⟩:=q'.item (i:=i) (by omega)
  rw [y1 xs s] at e1
  rw [y2 xs' s'] at e2
  cases e1
  cases e2
  have eg:(zipD ds es)[i]=.tuple [ds[i]'(by omega),es[i]'(by omega)]:=by simp[zipD]
  rw [eg]
  exact ⟨Same.new hp,DN.of2 (SnT.of upd_same (rel.newAddr hp)) (dn1.keep (Keep.same (Same.new hp))) (dn2.keep (Keep.same (Same.new hp)))⟩
 stop:=fun rel=>by
  obtain ⟨xs,s,q⟩:=seq_item (b:=b) (a:=a) (ds:=ds) rel (List.mem_append_right _ (by simp))
  obtain ⟨xs',s',q'⟩:=seq_item (b:=c) (a:=a') (ds:=es) rel (List.mem_append_right _ (by simp))
  refine ⟨xs,xs',s,s',?_⟩
  rw [q.len,q'.len,zipD_len]
  omega
 nv := fun w i m=>by
  simp only [List.mem_cons,List.not_mem_nil,or_false] at m
  rcases m with m|m <;> cases m
end
end L2
namespace L2
open PySem PySem.Spec PyProof.Rows
section
variable {K:PySem.W.Frag}{M P N:Addr→Prop}{H0 H H':Hp}{σ0 σ:St}{env:List Sl}{ts tt kp:List (V×Sl)}{v:V}{s:Sl}{d:PyData}{X:Cx}{pos p:Pos}{e e1 e2 tg iter:Expr}{es:List Expr}{te:DE}{tl:DA}
noncomputable def dIList (te:DE):DI:=fun env RR=>te env fun s env1=>∃ ds,keepOf env1 s=some (.list ds)∧RR ds env1
noncomputable def dITup (te:DE):DI:=fun env RR=>te env fun s env1=>∃ ds,keepOf env1 s=some (.tuple ds)∧RR ds env1
theorem qi_list (hK:X.K=K) (h:PE X e (up K te)):PI X tg e (upI K (dIList te)):=(kiList (K:=K) hK h).imp fun σ H R h=>by
 obtain ⟨M,P,H0,σ0,env,ts,RR,rel,ht,hq⟩:=h
 refine ⟨M,P,H0,σ0,env,ts,_,rel,ht,fun s1 env1 v1 H1 h1 rel1=>?_⟩
 obtain ⟨ds,k,hR⟩:=h1
 have dn:=rel1.kept (v:=v1) (s:=s1) (by simp) k
 obtain ⟨a,xs,rfl,sn,q⟩:=dn.list
 exact ⟨a,rfl,⟨xs,sn.sq⟩,hq _ _ _ _ _ hR (rel1.drop.addFr dn) iter_list⟩
theorem qi_tup (hK:X.K=K) (h:PE X e (up K te)):PI X tg e (upI K (dITup te)):=(kiTup (K:=K) hK h).imp fun σ H R h=>by
 obtain ⟨M,P,H0,σ0,env,ts,RR,rel,ht,hq⟩:=h
 refine ⟨M,P,H0,σ0,env,ts,_,rel,ht,fun s1 env1 v1 H1 h1 rel1=>?_⟩
 obtain ⟨ds,k,hR⟩:=h1
 have dn:=rel1.kept (v:=v1) (s:=s1) (by simp) k
 obtain ⟨a,xs,rfl,sn,q⟩:=dn.tuple
 exact ⟨a,rfl,⟨xs,sn.sq⟩,hq _ _ _ _ _ hR (rel1.drop.addFr dn) iter_tup⟩
noncomputable def dRng1 (ta:DA):DI:=fun env RR=>ta env fun ss env1=>∃ s j,ss=[s]∧valOf env1 s=some (.int j)∧-4611686018427387904≤j∧j<4611686018427387904∧RR (rangeD 0 j.toNat) env1
noncomputable def dRng2 (ta:DA):DI:=fun env RR=>ta env fun ss env1=>∃ s s' i j,ss=[s,s']∧valOf env1 s=some (.int i)∧valOf env1 s'=some (.int j)∧(-4611686018427387904≤i∧i<4611686018427387904∧-4611686018427387904≤j∧j<4611686018427387904)∧RR (rangeD i (j - i).toNat) env1
theorem qi_rng1 (hg:Gl X "range") (hm:X.mg "range" = none) (ha:PA X [e] (upA K tl)) (hs:starEach [e] X.env=[(false,eval e X.env)]:=by rfl):PI X tg (.Call (.Name "range" p) [e] [] pos) (upI K (dRng1 tl)):=(pi_range1 hg hm ha hs).imp fun σ H R h=>by
 obtain ⟨M,P,H0,σ0,env,ts,RR,rel,ht,hq⟩:=h
 refine ⟨M,P,H0,σ0,env,ts,_,rel,ht,fun ss env1 vs H1 h1 hl rel1=>?_⟩
 obtain ⟨s,j,rfl,e1,b1,b2,hR⟩:=h1
 match vs,hl with
 | [v],_ =>
  have w:=(rel1.view (v:=v) (by simp) e1).int
  exact ⟨j,by rw[w],b1,b2,hq _ _ _ _ [] hR (by simpa using rel1.drop) iter_range⟩
noncomputable def sqD (b:Bool) (ds:List PyData):PyData:=if b then .tuple ds else .list ds
noncomputable def dEnum (b:Bool) (ta:DA):DI:=fun env RR=>ta env fun ss env1=>∃ s ds,ss=[s]∧keepOf env1 s=some (sqD b ds)∧RR (enumD ds) env1
noncomputable def dZip (b c:Bool) (ta:DA):DI:=fun env RR=>ta env fun ss env1=>∃ s s' ds es,ss=[s,s']∧keepOf env1 s=some (sqD b ds)∧keepOf env1 s'=some (sqD c es)∧RR (zipD ds es) env1
theorem qi_zip (b c:Bool) {es:List Expr}{kk:Nat}{tpos:Pos} (hK:X.K=K) (hg:Gl X "zip") (hm:X.mg "zip" = none) (ha:PA X [e1,e2] (upA K tl))
  (hs:starEach [e1,e2] X.env=[(false,eval e1 X.env),(false,eval e2 X.env)]:=by rfl) (hs2:starEach [e2] X.env=[(false,eval e2 X.env)]:=by rfl) :
  PI X (.Tuple es kk tpos) (.Call (.Name "zip" p) [e1,e2] [] pos) (upI K (dZip b c tl)):=(kiZip (K:=K) hK b c hg hm ha hs hs2).imp fun σ H R h=>by
 obtain ⟨M,P,H0,σ0,env,ts,RR,rel,ht,hq⟩:=h
 refine ⟨M,P,H0,σ0,env,ts,_,rel,ht,fun ss env1 vs H1 h1 hl rel1=>?_⟩
 obtain ⟨s,s',ds,es',rfl,k1,k2,hR⟩:=h1
 match vs,hl,rel1 with
 | [v, v'],hl,rel1 =>
  have dns:=rel1.keptAll (vs:=[v,v']) (ds:=[sqD b ds,sqD c es']) hl (fun p hp=>hp) (by simp[keepsOf,k1,k2])
  have r2:=rel1.drop.addFrs dns
  have r2:Rel K M P H0 σ0 σ env1 (ts++[(v,.fr (sqD b ds)),(v',.fr (sqD c es'))]) H1:=by simpa using r2
  cases dns with
  | cons dn q =>
   cases q with
   | cons dn' q =>
    cases q
    have hv:∃ a,v=.ref a:=by
     cases b with
     | false=>obtain⟨a,_,e,_⟩:=DN.list dn;exact⟨a,e⟩
     | true=>obtain⟨a,_,e,_⟩:=DN.tuple dn;exact⟨a,e⟩
    have hv':∃ a,v'=.ref a:=by
     cases c with
     | false=>obtain⟨a,_,e,_⟩:=DN.list dn';exact⟨a,e⟩
     | true=>obtain⟨a,_,e,_⟩:=DN.tuple dn';exact⟨a,e⟩
    obtain ⟨a,rfl⟩:=hv
    obtain ⟨a',rfl⟩:=hv'
    obtain ⟨xs,sq,_⟩:=seq_item (b:=b) (a:=a) (ds:=ds) r2 (List.mem_append_right _ (by simp[sqD]))
    obtain ⟨xs',sq',_⟩:=seq_item (b:=c) (a:=a') (ds:=es') r2 (List.mem_append_right _ (by simp[sqD]))
    exact ⟨a,a',xs,xs',rfl,sq,sq',hq _ _ _ _ _ hR r2 iter_zip⟩
theorem Rel.dropMid {t:V×Sl} (h:Rel K M P H0 σ0 σ env (ts++kp++[t]) H):Rel K M P H0 σ0 σ env (ts++[t]) H:=by
 refine ⟨?_,h.len,fun w i m=>h.vw w i (by
  rcases List.mem_append.mp m with m|m
  ·exact List.mem_append_left _ (List.mem_append_left _ m)
  ·exact List.mem_append_right _ m),h.ios⟩
 have hE:=h.e
 rw [ents_app,ents_app] at hE
 rw [ents_app]
 refine hE.sub (fun x s m=>.inl ?_) ?_
 ·rcases List.mem_append.mp m with m|m
  ·exact List.mem_append_left _ (List.mem_append_left _ m)
  ·exact List.mem_append_right _ m
 ·have nd:=hE.nd
  rw [oas_app,oas_app] at nd
  rw [oas_app]
  obtain ⟨n1,n2,n3⟩:=List.nodup_append.mp nd
  exact List.nodup_append.mpr ⟨(List.nodup_append.mp n1).1,n2,fun x hx y hy=>n3 x (List.mem_append_left _ hx) y hy⟩
noncomputable def FD (ds:List PyData) (g:DG) (tb:DS):DS:=fun DD env=>∃ W:Nat→List Sl→Prop,W 0 env ∧
 (∀ i env,(h:i<ds.length)→W i env→g ds[i] env fun env2=>tb { DD with nx:=dI (W (i+1)) ⟨⟩,ct:=dI (W (i+1)) ⟨⟩,bk:=DD.nx } env2)∧∀ env,W ds.length env→DD.nx env
noncomputable def dFor (it:DI) (g:DG) (tb:DS):DS:=fun DD env=>it env fun ds env1=>FD ds g tb DD env1
theorem q_for {body:List Stmt}{it:DI}{g:DG}{tb:DS} (hp:PassesOwn (model X.prog X.w) X.A X.env X.xe) (hc:X.calm=true) (hi:PI X tg iter (upI K it)) (hg:PG X tg (upG K g)) (hb:PSs X body (upS K tb)) (hs:∀ x,foldedSetIterable iter X.env x=pure x:=by intro _;rfl) :
  PS X (.For tg iter body [] pos) (upS K (dFor it g tb)):=(ps_for hp hc hi hg hb hs).imp fun D σ H h=>by
 obtain ⟨M,P,H0,σ0,env,ts,DD,nv,rel,ht,ok⟩:=h
 refine ⟨M,P,H0,σ0,env,ts,_,rel,ht,fun ds env1 J H1 kp hF rel1 io=>?_⟩
 obtain ⟨W,w0,turn,done⟩:=hF
 have nv2:NoVw (ts++kp):=fun w i m=>by
  rcases List.mem_append.mp m with m|m
  ·exact nv w i m
  ·exact io.nv w i m
 refine ⟨fun i m σ H=>m=ds.length - i∧i≤ds.length∧∃ env,W i env∧Rel K M P H0 σ0 σ env (ts++kp) H,⟨_,rfl,Nat.zero_le _,env1,w0,rel1⟩,?_⟩
 rintro i m σ2 H2 ⟨rfl,hle,env2,w2,rel2⟩
 by_cases hlt:i<ds.length
 ·refine .inr ⟨io.go rel2 i hlt,fun σ' H'=>∃ env',W (i+1) env'∧Rel K M P H0 σ0 σ' env' (ts++kp) H',fun σ' H' ⟨env',w',r'⟩=>⟨ds.length - (i+1),by omega,rfl,hlt,env',w',r'⟩,fun x H3 y=>?_⟩
  obtain ⟨sm,dn⟩:=io.yld rel2 i x H3 hlt y
  have rel3:=rel2.same sm
  refine ⟨M,P,H0,σ0,env2,ts++kp,ds[i],_,nv2,rel3,dn,turn i env2 hlt w2,fun σ' env' H' hR r=>?_⟩
  refine ⟨M,P,H0,σ0,env',ts++kp,_,nv2,r,hR,⟨fun σ' env' H' q r=>⟨env',q,r⟩,fun s env' v σ' H' q r=>ok.rt s env' v σ' H' q r.dropMid,fun σ' env' H' q r=>ok.nx _ _ _ q r.drop,fun σ' env' H' q r=>⟨env',q,r⟩⟩⟩
 ·have e:i=ds.length:=by omega
  subst e
  exact .inl ⟨io.stop rel2,ok.nx _ _ _ (done _ w2) rel2.drop⟩
noncomputable def dWhile (c:DT) (tb:DS):DS:=fun DD env=>∃ W:Nat→List Sl→Prop,(∃ m,W m env)∧∀ m env,W m env →
 c env fun k env1=>if k=true then tb { DD with nx:=dI (fun env'=>∃ m',m'<m∧W m' env') ⟨⟩,ct:=dI (fun env'=>∃ m',m'<m∧W m' env') ⟨⟩,bk:=DD.nx } env1 else DD.nx env1
theorem q_while {c:Expr}{body:List Stmt}{tc:DT}{tb:DS} (hp:PassesOwn (model X.prog X.w) X.A X.env X.xe) (hc:PT X c (upT K tc)) (hb:PSs X body (upS K tb)):PS X (.While c body [] pos) (upS K (dWhile tc tb)):=(ps_while hp hc hb).imp fun D σ H h=>by
 obtain ⟨M,P,H0,σ0,env,ts,DD,nv,rel,⟨W,⟨m0,w0⟩,turn⟩,ok⟩:=h
 refine ⟨fun m σ H=>∃ env,W m env∧Rel K M P H0 σ0 σ env ts H,⟨m0,env,w0,rel⟩,?_⟩
 rintro m σ2 H2 ⟨env2,w2,rel2⟩
 refine ⟨M,P,H0,σ0,env2,ts,_,rel2,turn m env2 w2,fun k env3 H3 h3 rel3=>?_⟩
 cases k with
 | false=>exact ok.nx _ _ _ h3 rel3
 | true =>
  refine ⟨fun σ' H'=>∃ env',(∃ m',m'<m∧W m' env')∧Rel K M P H0 σ0 σ' env' ts H',fun σ' H' ⟨env',⟨m',hm,w'⟩,r'⟩=>⟨m',hm,env',w',r'⟩,?_⟩
  exact ⟨M,P,H0,σ0,env3,ts,_,nv,rel3,h3,⟨fun σ' env' H' q r=>⟨env',q,r⟩,ok.rt,fun σ' env' H' q r=>ok.nx _ _ _ q r,fun σ' env' H' q r=>⟨env',q,r⟩⟩⟩
end
end L2
namespace L2
open PySem PySem.Spec PyProof.Rows
noncomputable def capSl:Option Sl→Sl
 | some (.fr d)=>.fr d
 | _=>.un
noncomputable def capD (env:List Sl):Option Nat→Sl
 | none=>.un
 | some j=>capSl env[j]?
noncomputable def capE (ix:List (Option Nat)) (env:List Sl):List Sl:=ix.map (capD env)
theorem mem_zip_maps {α β γ:Type}{f:α→β}{g:α→γ}:∀ {l:List α}{x:β}{y:γ},(x,y)∈(l.map f).zip (l.map g)→∃ o∈l,x=f o∧y=g o
 | [],_,_,h=>by simp at h
 | a :: l,x,y,h=>by
  have h:(x,y)∈(f a,g a)::(l.map f).zip (l.map g):=h
  rcases List.mem_cons.mp h with h|h
  ·cases h;exact⟨a,List.mem_cons_self,rfl,rfl⟩
  ·obtain ⟨o,ho,e⟩:=mem_zip_maps h
   exact ⟨o,List.mem_cons_of_mem _ ho,e⟩
noncomputable def dYes:DT:=fun env R=>R true env
theorem PIf.imp {X:Cx}{ifs:List Expr}{t t':TT} (h:PIf X ifs t) (k:∀ σ H Q,t' σ H Q→t σ H Q):PIf X ifs t':=fun pins s σ H Q I hw=>h pins s σ H Q I (k σ H Q hw)
theorem qif_nil {X:Cx}{K:PySem.W.Frag}:PIf X [] (upT K dYes):=pif_nil.imp fun σ H Q h=>by
 obtain ⟨M,P,H0,σ0,env,ts,R,rel,ht,hq⟩:=h
 exact hq _ _ _ ht rel
theorem qif_one {X:Cx}{K:PySem.W.Frag}{c:Expr}{t:DT} (h:PT X c (upT K t)):PIf X [c] (upT K t):=pif_one h
section
variable {K:PySem.W.Frag}{M P N:Addr→Prop}{H0 H H':Hp}{σ0 σ:St}{env:List Sl}{ts tt kp:List (V×Sl)}{v:V}{s:Sl}{d:PyData}
theorem cap_mem {ix:List (Option Nat)}{x:Option V} (rel:Rel K M P H0 σ0 σ env ts H) (m:(x,s)∈(capS σ ix).zip (capE ix env)):s=.un∨∃ d v,s=.fr d∧x=some v∧DN K (Nw M (ents σ env ts)) H v d:=by
 obtain ⟨o,_,e1,e2⟩:=mem_zip_maps m
 cases o with
 | none=>exact .inl e2
 | some j =>
  have e2:s=capSl env[j]?:=e2
  cases q:env[j]? with
  | none=>rw[q] at e2;exact .inl e2
  | some s' =>
   rw [q] at e2
   cases s' with
   | fr d =>
    obtain ⟨x',e3,m3⟩:=rel.slot q
    obtain ⟨v,e4,dn⟩:=rel.e.fr _ _ m3
    refine .inr ⟨d,v,e2,?_,dn⟩
    rw [e1]
    show (σ[j]?).join=_
    rw [e3,e4]
    rfl
   | _=>exact .inl e2
theorem cap_oas {ix:List (Option Nat)} (rel:Rel K M P H0 σ0 σ env ts H):oas ((capS σ ix).zip (capE ix env))=[]:=by
 unfold oas
 rw [List.flatMap_eq_nil_iff]
 rintro ⟨x,s⟩ m
 rcases cap_mem rel m with e|⟨d,v,e,e2,_⟩
 ·subst e
  exact own1_un _
 ·subst e e2
  exact own1_fr _ _
theorem cap_rel {ix:List (Option Nat)} (rel:Rel K M P H0 σ0 σ env ts H):Rel K (Nw M (ents σ env ts)) (fun _=>False) H (capS σ ix) (capS σ ix) (capE ix env) [] H:=by
 have oe:=cap_oas (ix:=ix) rel
 have ee:ents (capS σ ix) (capE ix env) []=(capS σ ix).zip (capE ix env):=by simp[ents,tmp]
 refine ⟨⟨Keep.refl,fun a q=>q,fun a z hn=>rel.newAddr hn z,fun a z=>z.elim,fun x d m=>?_,fun x l m=>?_,fun x l m=>?_,fun x S l m=>?_,by rw[ee,oe];exact List.nodup_nil⟩,by simp[capS,capE],fun w i m=>(by cases m),fun i l e=>rfl⟩
 rotate_right
 ·rw [ee] at m
  rcases cap_mem rel m with e|⟨d',v,e,e2,dn⟩ <;> cases e
 ·rw [ee] at m
  rcases cap_mem rel m with e|⟨d',v,e,e2,dn⟩
  ·cases e
  ·cases e
   refine ⟨v,e2,dn.to fun b _ _ z=>?_⟩
   rcases z with z|z
   ·exact z
   ·rw [ee,oe] at z;cases z
 ·rw [ee] at m
  rcases cap_mem rel m with e|⟨d',v,e,e2,dn⟩ <;> cases e
 ·rw [ee] at m
  rcases cap_mem rel m with e|⟨d',v,e,e2,dn⟩ <;> cases e
end
noncomputable def CD (ds:List PyData) (ix:List (Option Nat)) (g:DG) (tt:DT) (te:DE) (env:List Sl) (R:Sl→List Sl→Prop):Prop:=∃ W:Nat→List PyData→Prop,W 0 [] ∧
 (∀ i rs,(h:i<ds.length)→W i rs→rs.length<sizeLine∧g ds[i] (capE ix env) fun b1=>tt b1 fun k b2=>if k=true then te b2 fun s b3=>∃ d,keepOf b3 s=some d∧W (i+1) (rs++[d]) else W (i+1) rs)∧∀ rs,W ds.length rs→R (.ow rs) env
noncomputable def dComp (it:DI) (ix:List (Option Nat)) (g:DG) (tt:DT) (te:DE):DE:=fun env R=>it env fun ds env1=>CD ds ix g tt te env1 (dK R ⟨⟩)
noncomputable def CD1 (k j:Nat) (ds:List PyData) (ix:List (Option Nat)) (g:DG) (tt:DT) (te:DE) (env:List Sl) (R:Sl→List Sl→Prop):Prop:=∃ W:Nat→List PyData→List PyData→Prop,∃ s0 l0,env[j]? = some s0∧ownD s0=some l0∧W 0 [] l0 ∧
 (∀ i rs l,(h:i<ds.length)→W i rs l→rs.length<sizeLine∧∃ s,setSl s0 l=some s∧g ds[i] ((capE ix (env.set j s)).set k (.io l)) fun b1=>tt b1 fun kk b2=>if kk=true then te b2 fun s b3=>∃ d l',keepOf b3 s=some d∧b3[k]? = some (.io l')∧W (i+1) (rs++[d]) l' else ∃ l',b2[k]? = some (.io l')∧W (i+1) rs l') ∧
 ∀ rs l,W ds.length rs l→∃ s,setSl s0 l=some s∧R (.ow rs) (env.set j s)
noncomputable def dComp1 (k j:Nat) (it:DI) (ix:List (Option Nat)) (g:DG) (tt:DT) (te:DE):DE:=fun env R=>it env fun ds env1=>CD1 k j ds ix g tt te env1 (dK R ⟨⟩)
section
variable {K:PySem.W.Frag}
theorem comp_up {it:DI}{ix:List (Option Nat)}{g:DG}{tt:DT}{te:DE}:∀ σ H Q,up K (dComp it ix g tt te) σ H Q→tComp (upI K it) ix (upG K g) (upT K tt) (up K te) σ H Q:=fun σ H Q h=>by
 obtain ⟨M,P,H0,σ0,env,ts,R,rel,ht,hq⟩:=h
 refine ⟨M,P,H0,σ0,env,ts,_,rel,ht,fun ds env1 J H1 kp hF rel1 io=>?_⟩
 obtain ⟨W,w0,turn,done⟩:=hF
 refine ⟨fun i m ys H=>m=ds.length - i∧i≤ds.length∧∃ rs,W i rs∧DNs K (Nw M (ents σ env1 (ts++kp))) H ys rs∧Rel K M P H0 σ0 σ env1 (ts++kp) H,⟨_,rfl,Nat.zero_le _,[],w0,.nil,rel1⟩,?_⟩
 rintro i m ys H2 ⟨rfl,hle,rs,w2,dns,rel2⟩
 by_cases hlt:i<ds.length
 ·obtain ⟨hz,tr⟩:=turn i rs hlt w2
  refine .inr ⟨io.go rel2 i hlt,by rw[dns.len];exact hz,fun ys' H'=>∃ rs',W (i+1) rs'∧DNs K (Nw M (ents σ env1 (ts++kp))) H' ys' rs'∧Rel K M P H0 σ0 σ env1 (ts++kp) H',fun ys' H' ⟨rs',a,b,c⟩=>⟨ds.length - (i+1),by omega,rfl,hlt,rs',a,b,c⟩,fun x H3 y=>?_⟩
  obtain ⟨sm,dn⟩:=io.yld rel2 i x H3 hlt y
  have rel3:=rel2.same sm
  have rb:=cap_rel (ix:=ix) rel3
  have oe:=cap_oas (ix:=ix) rel3
  have nb:∀ b,Nw (Nw M (ents σ env1 (ts++kp))) (ents (capS σ ix) (capE ix env1) []) b→Nw M (ents σ env1 (ts++kp)) b:=fun b z=>by
   rcases z with z|z
   ·exact z
   ·have ee:ents (capS σ ix) (capE ix env1) []=(capS σ ix).zip (capE ix env1):=by simp[ents,tmp]
    rw [ee,oe] at z;cases z
  refine ⟨_,_,_,_,capE ix env1,[],ds[i],_,fun w i m=>(by cases m),rb,dn.to fun b _ _ z=>nb b z,tr,fun σ2 b1 H4 h4 rel4=>?_⟩
  refine ⟨_,_,_,_,b1,[],_,rel4,h4,fun kk b2 H5 h5 rel5=>?_⟩
  cases kk with
  | false =>
   have k5:Same H3 H5:=(rel5.e.keep.mono (M:=N0) fun b z=>z).none
   exact ⟨rs,h5,dns.keep (Keep.same (sm.trans k5)),rel3.same k5⟩
  | true =>
   refine ⟨_,_,_,_,b2,[],_,rel5,h5,fun s b3 v H6 h6 rel6=>?_⟩
   obtain ⟨d,kd,w6⟩:=h6
   have k6:Same H3 H6:=(rel6.e.keep.mono (M:=N0) fun b z=>z).none
   have dn6:=rel6.kept (ts:=[]) (tt:=[]++[(v,s)]) (v:=v) (s:=s) (by simp) kd
   exact ⟨rs++[d],w6,(dns.keep (Keep.same (sm.trans k6))).app (.cons (dn6.to fun b _ _ z=>.inl z) .nil),rel3.same k6⟩
 ·have e:i=ds.length:=by omega
  subst e
  exact .inl ⟨io.stop rel2,fun p hp=>hq _ _ _ _ (done _ w2) (rel2.resOw hp dns)⟩
end
section
variable {K:PySem.W.Frag}{X:Cx}{N':List Str}{ix:List (Option Nat)}{sc:Scope}{tg iter elt:Expr}{ifs:List Expr}{pos:Pos}{it:DI}{g:DG}{tt:DT}{te:DE}
theorem q_comp (hc:X.calm=true) (S:BScope X.N X.env N' ix sc) (hi:PI X tg iter (upI K it))
  (hg:∀ s H C fp,PG (bCx X N' sc s H C fp) tg (upG K g)) (ht:∀ s H C fp,PIf (bCx X N' sc s H C fp) ifs (upT K tt)) (he:∀ s H C fp,PE (bCx X N' sc s H C fp) elt (up K te))
  (hs:∀ x,foldedSetIterable iter X.env x=pure x:=by intro _;rfl):PE X (.ListComp elt [⟨tg,iter,ifs,0⟩] sc pos) (up K (dComp it ix g tt te)):=(pe_comp hc S hi hg ht he hs).imp comp_up
theorem set_up {i:Nat}{t:TE}{td:DE} (h:∀ σ H Q,up K td σ H Q→t σ H Q):∀ D σ H,upS K (dSet i td) D σ H→tAsg t (gName i) D σ H:=fun D σ H hh=>by
 obtain ⟨M,P,H0,σ0,env,ts,DD,nv,rel,ht,ok⟩:=hh
 refine h _ _ _ ⟨M,P,H0,σ0,env,ts,_,rel,ht,fun s1 env1 v1 H1 h1 rel1=>?_⟩
 obtain ⟨s',hl,es,hR⟩:=h1
 obtain ⟨r,cs⟩:=rel1.unVw es
 exact ok.nx _ _ _ hR (r.store nv hl cs)
theorem q_setComp {i:Nat}{y:Str}{spos py:Pos} (hN:X.N.Nodup) (hi':X.N[i]? = some y) (hy:X.env.scope.names.lookup y=some .local) (hc:X.calm=true) (S:BScope X.N X.env N' ix sc) (hi:PI X tg iter (upI K it))
  (hg:∀ s H C fp,PG (bCx X N' sc s H C fp) tg (upG K g)) (ht:∀ s H C fp,PIf (bCx X N' sc s H C fp) ifs (upT K tt)) (he:∀ s H C fp,PE (bCx X N' sc s H C fp) elt (up K te))
  (hsw:swapsWith (.ListComp elt [⟨tg,iter,ifs,0⟩] sc pos) (some (.Name y py)) spos.line X.env=pure true:=by rfl)
  (hs:∀ x,foldedSetIterable iter X.env x=pure x:=by intro _;rfl):PS X (.Assign [.Name y py] (.ListComp elt [⟨tg,iter,ifs,0⟩] sc pos) spos) (upS K (dSet i (dComp it ix g tt te))):=(ps_setComp hN hi' hy hc S hi hg ht he hsw hs).imp (set_up comp_up)
end
end L2
namespace L2
open PySem PySem.Spec PyProof.Rows
noncomputable def truD:PyData→Option Bool
 | .none=>some false
 | .bool b=>some b
 | .int i=>some (i != 0)
 | .list ds=>some (!ds.isEmpty)
 | .tuple ds=>some (!ds.isEmpty)
 | _=>none
section
variable {K:PySem.W.Frag}{M P N:Addr→Prop}{H0 H H':Hp}{E A B:List Ent}{σ0 σ:St}{env:List Sl}{ts tt kp:List (V×Sl)}{v:V}{s:Sl}{d:PyData}{X:Cx}{pos p:Pos}{e e1 e2 a:Expr}{es:List Expr}{te tj:DE}{tl:DA}
noncomputable def dTruth (te:DE):DT:=fun env R=>te env fun s env1=>∃ d k,valOf env1 s=some d∧truD d=some k∧R k env1
noncomputable def kindS:PyData→String
 | .none => "NoneType"
 | .bool _ => "bool"
 | .int _ => "int"
 | .str _ => "str"
 | .list _ => "list"
 | .tuple _ => "tuple"
 | .dict _ => "dict"
inductive KindV (K:PySem.W.Frag) (H:Hp):V→String→Prop
 | non:KindV K H .non "NoneType"
 | bl (b:Bool):KindV K H (.bl b) "bool"
 | int (b:Int):KindV K H (.int b) "int"
 | str (b:Str):KindV K H (.str b) "str"
 | lst {a:Addr}{xs:List V}:SqL K H a xs→KindV K H (.ref a) "list"
 | tup {a:Addr}{xs:List V}:SqT K H a xs→KindV K H (.ref a) "tuple"
theorem call_isK (hK:X.K=K):CallR X (.builtin "isinstance") (fun xs H Q=>∃ (x:V) (t n:String) (b:Bool),xs=[x,.ty n]∧KindV K H x t∧PySem.W.kitOne K (.type t) (.type n)=some b∧Q (.bl b) H):=by
 subst hK
 intro pins s σ H xs us Q I r h
 obtain ⟨x,t,n,b,rfl,ty,e,q⟩:=h
 obtain ⟨u,w',rfl,ru,rw'⟩:=vals2 r
 cases (show w'=Value.type n from rw')
 have fin:∀ tk,EP X pins σ Q (.bool b) { s with toks:=tk }:=fun tk=>⟨.bl b,H,I.tok tk,rfl,q⟩
 cases ty with
 | non=>cases (show u=Value.none from ru);exact PySem.W.kia_one PySem.W.kitx_none I.kIn True.intro e (fun z=>nomatch z) fin
 | bl y=>cases (show u=Value.bool y from ru);exact PySem.W.kia_one PySem.W.kitx_bool I.kIn True.intro e (fun z=>nomatch z) fin
 | int i=>obtain⟨t,q⟩:=(show ∃ t,u=Value.int i t from ru);cases q;exact PySem.W.kia_one PySem.W.kitx_int I.kIn True.intro e (fun z=>nomatch z) fin
 | str y=>obtain⟨t,q⟩:=(show ∃ t,u=Value.str y t from ru);cases q;exact PySem.W.kia_one PySem.W.kitx_str I.kIn True.intro e (fun z=>nomatch z) fin
 | @lst a xs hs =>
  cases (show u=Value.ref a from ru)
  obtain ⟨its,_,⟨o,n',h1,h2,_,_⟩,_⟩:=I.list hs
  exact PySem.W.kia_one PySem.W.kitx_list I.kIn ⟨o,h1,h2⟩ e (fun z=>nomatch z) fin
 | @tup a xs hs =>
  cases (show u=Value.ref a from ru)
  obtain ⟨its,_,⟨o,h1,h2,_⟩,_⟩:=I.tuple hs
  exact PySem.W.kia_one PySem.W.kitx_tuple I.kIn ⟨o,h1,h2⟩ e (fun z=>nomatch z) fin
noncomputable def isK (n:String) (d:PyData):Bool:=(kindS d==n) || (n == "int" && kindS d == "bool")
theorem kit_int (d:PyData):PySem.W.kitOne K (.type (kindS d)) (.type "int")=some (isK "int" d):=by cases d <;> rfl
theorem kit_bool (d:PyData):PySem.W.kitOne K (.type (kindS d)) (.type "bool")=some (isK "bool" d):=by cases d <;> rfl
theorem kit_list (d:PyData):PySem.W.kitOne K (.type (kindS d)) (.type "list")=some (isK "list" d):=by cases d <;> rfl
theorem kit_tuple (d:PyData):PySem.W.kitOne K (.type (kindS d)) (.type "tuple")=some (isK "tuple" d):=by cases d <;> rfl
theorem Vw.kind (w:Vw K N H v d) (hd:∀ kvs,d≠.dict kvs):KindV K H v (kindS d):=by
 cases d with
 | none=>rw[w.none];exact .non
 | bool b=>rw[w.bool];exact .bl b
 | int b=>rw[w.int];exact .int b
 | str b=>rw[w.str];exact .str b
 | list ds=>obtain⟨a,vs,rfl,s,q⟩:=w.list;exact .lst s
 | tuple ds=>obtain⟨a,vs,rfl,s,q⟩:=w.tuple;exact .tup s
 | dict kvs=>exact absurd rfl (hd kvs)
noncomputable def notD:PyData→Bool
 | .dict _=>false
 | _=>true
theorem notD.no {d:PyData} (h:notD d=true):∀ kvs,d≠.dict kvs:=fun kvs e=>by subst e;cases h
noncomputable def dIs (n:String) (te:DE):DE:=fun env R=>te env fun s env1=>∃ d,valOf env1 s=some d∧notD d=true∧R (.fr (.bool (isK n d))) env1
theorem q_isT {n:Str}{T:String}{np:Pos} (hK:X.K=K) (kit:∀ d,PySem.W.kitOne K (.type (kindS d)) (.type T)=some (isK T d)) (hg:Gl X "isinstance") (hm:X.mg "isinstance" = none) (hgn:Gl X n) (hmn:X.mg n=none) (hbn:bootBuiltins n=some (.type T)) (ha:PE X a (up K te))
  (he:starEach [a,.Name n np] X.env=(false,eval a X.env)::starEach [.Name n np] X.env:=by rfl) (he2:starEach [.Name n np] X.env=(false,eval (.Name n np) X.env)::starEach [] X.env:=by rfl)
  (hnn:n ≠ "__name__" := by decide) (hnd:(n==("__debug__" : Str))=false:=by decide) (hpl:(backTo pos (starEach [.Name n np] X.env)).any (·.1)=false:=by rfl) :
  PE X (.Call (.Name "isinstance" p) [a,.Name n np] [] pos) (up K (dIs T te)) :=
 (pe_callB (call_isK hK) hg hm PyProof.Rows.boot_isinstance (pa_cons ha (pa_cons (pe_bltn (v:=.ty T) hgn hmn hbn rfl hnn hnd) pa_nil he2) he) (by decide) (by decide) he hpl).imp fun σ H Q h=>by
 obtain ⟨M,P,H0,σ0,env,ts,R,rel,ht,hq⟩:=h
 refine ⟨M,P,H0,σ0,env,ts,_,rel,ht,fun s1 env1 v1 H1 h1 rel1=>?_⟩
 obtain ⟨d,e1,nd,hR⟩:=h1
 have w:=rel1.view (v:=v1) (by simp) e1
 exact ⟨v1,kindS d,T,isK T d,rfl,w.kind (notD.no nd),kit d,hq _ _ _ _ hR (rel1.drop.addFr (.bl _))⟩
noncomputable def dSetIx (i:Nat) (tj te:DE):DS:=fun DD env=>te env fun s env1=>(∃ ds,(env1[i]?).bind ownD=some ds)∧tj env1 fun sj env2=>∃ d s0 ds z j s',keepOf env2 s=some d∧valOf env2 sj=some (.int z)∧env2[i]? = some s0∧ownD s0=some ds∧ixN ds.length z=some j ∧
 setSl s0 (ds.set j d)=some s'∧DD.nx (env2.set i s')
theorem DNs.set:∀ {vs:List V}{ds:List PyData}{x:V}{d:PyData} (j:Nat),DNs K N H vs ds→DN K N H x d→DNs K N H (vs.set j x) (ds.set j d)
 | _,_,_,_,_,.nil,_=>.nil
 | _,_,_,_,0,.cons _ q,h=>.cons h q
 | _,_,_,_,j+1,.cons g q,h=>.cons g (q.set j h)
theorem q_setIx (i:Nat) {y:Str}{npos spos:Pos}{j:Expr} (hN:X.N[i]? = some y) (hj:PE X j (up K tj)) (he:PE X e (up K te))
  (hv:Vis X.env.scope y:=by first|exact Or.inl rfl|exact Or.inr (Or.inl rfl)|exact Or.inr (Or.inr rfl)) (hd:(y==("__debug__" : Str))=false:=by decide)
  (hcd:(y==("__classdict__" : Str))=false:=by decide)
  (ha:∀ v,assign (.Subscript (.Name y npos) j spos) X.env v=(do
   let ov ←holding [v] (eval (.Name y npos) X.env)
   let iv ←holding [v,ov] (eval j X.env)
   standAt spos
   holding [v,ov,iv] (setItem ov iv v)
   release [v,ov,iv] []):=by intro _;rfl)
  (hs:swapsWithSole [.Subscript (.Name y npos) j spos] e pos.line X.env=pure false:=by rfl) (hw:swappedStores [.Subscript (.Name y npos) j spos] e X.env=pure none:=by rfl)
  (h1:(assignEach [.Subscript (.Name y npos) j spos] X.env).map (·.2)=[assign (.Subscript (.Name y npos) j spos) X.env]:=by rfl):PS X (.Assign [.Subscript (.Name y npos) j spos] e pos) (upS K (dSetIx i tj te)) :=
 (ps_asg he (pg_sub (pe_var hN hv hd hcd) hj set_list ha) hs hw h1).imp fun D σ H h=>by
 obtain ⟨M,P,H0,σ0,env,ts,DD,nv,rel,ht,ok⟩:=h
 refine ⟨M,P,H0,σ0,env,ts,_,rel,ht,fun s1 env1 v1 H1 h1 rel1=>?_⟩
 obtain ⟨⟨ds0,h0⟩,h1⟩:=h1
 obtain ⟨s0,e0,o0⟩:=bind_own h0
 obtain ⟨a,vs,ea,hH,_⟩:=rel1.mine e0 o0
 refine ⟨.ref a,ea,M,P,H0,σ0,env1,ts++[(v1,s1)],_,rel1,h1,fun s2 env2 v2 H2 h2 rel2=>?_⟩
 obtain ⟨d,s3,ds,z,jj,s',k,ez,e2,o2,ix,es,hR⟩:=h2
 have rel2':Rel K M P H0 σ0 σ env2 (ts++[(v1,s1),(v2,s2)]) H2:=by simpa using rel2
 obtain ⟨a',us,ea',hH',q⟩:=rel2'.drop.mine e2 o2
 rw [ea] at ea'
 cases ea'
 have dn:=rel2'.kept (v:=v1) (s:=s1) (by simp) k
 refine ⟨a,us,z,jj,rfl,(rel2.view (v:=v2) (by simp) ez).int,hH',by rw[q.len];exact ix,ok.nx _ _ _ hR (rel2'.drop.mut (ds:=ds) e2 es ea (q.set jj dn))⟩
noncomputable def resOf (env:List Sl):Sl→Option Sl
 | .fr d=>some (.fr d)
 | .ow l=>some (.ow l)
 | .tr S d=>some (.tr S d)
 | .vw i=>(env[i]?).bind fun s=>match s with
  | .fr d=>some (.fr d)
  | .ow l=>some (.ow l)
  | _=>none
 | _=>none
noncomputable def ioOnly:Sl→Sl
 | .io l=>.io l
 | _=>.un
noncomputable def finD (n:Nat) (env:List Sl):List Sl:=(env.take n).map ioOnly
noncomputable def endsD (n:Nat) (R:Sl→List Sl→Prop):DEnds where
 nx := fun env=>R (.fr .none) (finD n env)
 rt := fun s env=>∃ r,resOf env s=some r∧R r (finD n env)
noncomputable def startD (n:Nat) (ss:List Sl):List Sl:=ss++List.replicate (n - ss.length) .un
theorem zip_start (m:Nat):∀ {vs:List V}{ss:List Sl},vs.length=ss.length→(vs.map some++List.replicate m none).zip (ss++List.replicate m Sl.un)=tmp (vs.zip ss)++List.replicate m (none,Sl.un)
 | [],[],_=>by simp[tmp]
 | v::vs,s::ss,h=>by
  show (some v,s)::(vs.map some++List.replicate m none).zip (ss++List.replicate m Sl.un)=_
  rw [zip_start m (by simpa using h)]
  rfl
 | [],_::_,h=>by simp at h
 | _::_,[],h=>by simp at h
theorem oas_rep (m:Nat):oas (List.replicate m ((none,Sl.un):Ent))=[]:=by
 unfold oas
 rw [List.flatMap_eq_nil_iff]
 intro e he
 rw [(List.mem_replicate.mp he).2]
 rfl
theorem fin_sub:∀ {vs:List V}{σ:St}{env:List Sl},σ.length=env.length→(∀ (j:Nat) (l:List PyData),env[j]? = some (.io l)→j<vs.length→σ[j]? = (vs[j]?).map some)→(oas (tmp (vs.zip (finD vs.length env)))).Sublist (oas (σ.zip env))
 | [],σ,env,_,_=>by simp[tmp,oas]
 | v::vs,[],[],_,_=>by simp[tmp,oas,finD]
 | v :: vs,x::σ,s::env,hl,h=>by
  have ih:=fin_sub (vs:=vs) (σ:=σ) (env:=env) (by simpa using hl) fun j l e hj=>by
   have:=h (j+1) l (by simpa using e) (by simpa using hj)
   simpa using this
  show (oas ((some v,ioOnly s)::tmp (vs.zip (finD vs.length env)))).Sublist (oas ((x,s)::σ.zip env))
  rw [oas_cons,oas_cons]
  cases s with
  | io l =>
   have e0:=h 0 l rfl (by simp)
   simp at e0
   subst e0
   exact List.Sublist.append (List.Sublist.refl _) ih
  | _ =>
   simp only [ioOnly,own1_un]
   exact ih.trans (List.sublist_append_right _ _)
 | _::_,[],_::_,hl,_=>by simp at hl
 | _::_,_::_,[],hl,_=>by simp at hl
theorem Rel.fin {vs:List V}{r:Sl}{n:Nat} (rel:Rel K M P H0 (start N' vs) σ env [(v,r)] H) (hn:n=vs.length) (hr:isRes r=true):RelE K M P H0 (tmp ((v,r)::vs.zip (finD n env))) H:=by
 subst hn
 have hio:∀ (j:Nat) (l:List PyData),env[j]? = some (.io l)→j<vs.length→σ[j]? = (vs[j]?).map some:=fun j l e hj=>by
  rw [rel.ios j l e]
  unfold start
  rw [List.getElem?_append_left (by simpa using hj),List.getElem?_map]
 have hE:=rel.e
 refine hE.sub (fun x s m=>?_) ?_
 ·rw [tmp_cons] at m
  rcases List.mem_cons.mp m with m|m
  ·cases m
   exact .inl (mem_tmp (by simp))
  ·obtain ⟨⟨w,s'⟩,m1,e⟩:=List.mem_map.mp m
   cases e
   obtain ⟨j,hj,e⟩:=List.getElem_of_mem m1
   rw [List.getElem_zip] at e
   have hj':=hj
   rw [List.length_zip] at hj'
   have e1:vs[j]'(by omega)=w:=(Prod.mk.inj e).1
   have e2:(finD vs.length env)[j]'(by omega)=s':=(Prod.mk.inj e).2
   have hje:j<env.length:=by
    have:(finD vs.length env).length=min vs.length env.length:=by simp[finD]
    omega
   have e3:s'=ioOnly env[j]:=by
    rw [←e2]
    simp [finD]
   cases q:env[j] with
   | io l =>
    rw [q] at e3
    subst e3
    have eq:env[j]? = some (.io l):=by rw[List.getElem?_eq_getElem hje,q]
    have e4:=hio j l eq (by omega)
    obtain ⟨x,e5,m5⟩:=rel.slot eq
    rw [e5,List.getElem?_eq_getElem (by omega:j<vs.length),e1] at e4
    have e4:x=some w:=Option.some.inj e4
    subst e4
    exact .inl m5
   | _=>rw[q] at e3;subst e3;exact .inr (.inl rfl)
 ·have nd:=hE.nd
  have eE:ents σ env [(v,r)]=σ.zip env++[(some v,r)]:=rfl
  rw [eE,oas_app] at nd
  obtain ⟨n1,n2,n3⟩:=List.nodup_append.mp nd
  have sub:=fin_sub rel.len hio
  rw [tmp_cons,show ((some (v,r).1,(v,r).2):Ent)::tmp (vs.zip (finD vs.length env))=[(some v,r)]++tmp (vs.zip (finD vs.length env)) from rfl,oas_app]
  exact List.nodup_append.mpr ⟨n2,n1.sublist sub,fun x hx y hy z=>n3 y (sub.subset hy) x hx z.symm⟩
end
end L2
namespace L2
open PySem PySem.Spec PyProof.Rows
section
variable {K:PySem.W.Frag}{M P N:Addr→Prop}{H0 H H':Hp}{E A B:List Ent}{σ0 σ:St}{env:List Sl}{ts tt kp:List (V×Sl)}{v:V}{s:Sl}{d:PyData}
theorem Rel.take {i:Nat}{l:List PyData} (h:Rel K M P H0 σ0 σ env [(v,.vw i)] H) (e:env[i]? = some (.ow l)):Rel K M P H0 σ0 σ (env.set i .un) [(v,.ow l)] H:=by
 obtain ⟨x,A,B,e1,q1,q2⟩:=h.split e
 have ev:=h.vw v i (by simp)
 rw [e1] at ev
 have ev:x=some v:=Option.some.inj ev
 subst ev
 have z1:ents σ env [(v,.vw i)]=σ.zip env++[(some v,.vw i)]:=rfl
 obtain ⟨x2,e3,m2⟩:=zip_at h.len e
 have ez:(σ.zip env)[i]? = some (some v,.ow l):=by rw[zip_get,e1,e];rfl
 obtain ⟨A2,B2,r1,r2⟩:=mem_split ez
 have hE:=h.e
 rw [z1,r1] at hE
 have en:ents σ (env.set i .un) [(v,.ow l)]=(A2++(some v,.un)::B2)++[(some v,.ow l)]:=by
  show σ.zip (env.set i .un)++[(some v,.ow l)]=_
  rw [zip_set e1,r2]
 refine ⟨?_,by simp[h.len],fun w j m=>(by rw[List.mem_singleton] at m;cases m),fun j l' e'=>?_⟩
 ·rw [en]
  refine hE.sub (fun x s m=>?_) ?_
  ·rcases List.mem_append.mp m with m|m
   ·rcases List.mem_append.mp m with m|m
    ·exact .inl (List.mem_append_left _ (List.mem_append_left _ m))
    ·rcases List.mem_cons.mp m with m|m
     ·cases m;exact .inr (.inl rfl)
     ·exact .inl (List.mem_append_left _ (List.mem_append_right _ (List.mem_cons_of_mem _ m)))
   ·rw [List.mem_singleton] at m
    cases m
    exact .inl (List.mem_append_left _ (List.mem_append_right _ List.mem_cons_self))
  ·have nd:=hE.nd
   have ov:oas [(some v,Sl.vw i)]=[]:=by rw[oas_cons,own1_vw];rfl
   rw [oas_app,oas_app,oas_cons,ov,List.append_nil] at nd
   have oo:oas [(some v,Sl.ow l)]=own1 (some v,Sl.ow l):=by rw[oas_cons];simp[oas]
   rw [oas_app,oas_app,oas_cons,own1_un,oo]
   obtain ⟨n1,n2,n3⟩:=List.nodup_append.mp nd
   obtain ⟨n4,n5,n6⟩:=List.nodup_append.mp n2
   refine List.nodup_append.mpr ⟨List.nodup_append.mpr ⟨n1,n5,fun x hx y hy=>n3 x hx y (List.mem_append_right _ hy)⟩,n4,fun x hx y hy z=>?_⟩
   subst z
   rcases List.mem_append.mp hx with hx|hx
   ·exact n3 x hx x (List.mem_append_left _ hy) rfl
   ·exact n6 x hy x hx rfl
 ·by_cases hj:i=j
  ·subst hj
   rw [List.getElem?_set_self (List.getElem?_eq_some_iff.mp e).1] at e'
   cases e'
  ·rw [List.getElem?_set_ne hj] at e'
   exact h.ios j l' e'
theorem finD_un {i n:Nat}{l:List PyData} (e:env[i]? = some (.ow l)):finD n (env.set i .un)=finD n env:=by
 unfold finD
 apply List.ext_getElem?
 intro j
 rw [List.getElem?_map,List.getElem?_map,List.getElem?_take,List.getElem?_take]
 by_cases hj:i=j
 ·subst hj
  rw [List.getElem?_set_self (List.getElem?_eq_some_iff.mp e).1,e]
  split <;> rfl
 ·rw [List.getElem?_set_ne hj]
theorem Rel.told {n:Nat}{r:Sl} (h:Rel K M P H0 σ0 σ env [(v,s)] H) (e:resOf env s=some r):∃ env',Rel K M P H0 σ0 σ env' [(v,r)] H∧finD n env'=finD n env∧isRes r=true:=by
 cases s with
 | fr d=>cases e;exact⟨env,h,rfl,rfl⟩
 | tr S d=>cases e;exact⟨env,h,rfl,rfl⟩
 | ow l=>cases e;exact⟨env,h,rfl,rfl⟩
 | vw i =>
  have e:(env[i]?).bind _=some r:=e
  cases q:env[i]? with
  | none=>rw[q] at e;cases e
  | some s' =>
   rw [q] at e
   cases s' with
   | fr d =>
    cases e
    have hs:stoOf env (.vw i)=some (.fr d):=by
     show ((env[i]?).bind slK).map Sl.fr=_
     rw [q];rfl
    have:=(Rel.unVw (ts:=[]) (by simpa using h) hs).1
    exact ⟨env,by simpa using this,rfl,rfl⟩
   | ow l=>cases e;exact⟨env.set i .un,h.take q,finD_un q,rfl⟩
   | _=>cases e
 | _=>cases e
end
section
variable {P:Program}{w:World}{K:PySem.W.Frag}{mg:Str→Option Value}{base:Heap}
theorem okD {x:Str}{st:Stmt}{f:Addr}{fd:FuncData}{N ps:List Str}{k:Nat}{sp:DSp} (F:Fun K x x st f fd) (S:FnScope N ps (defScope st)) (len:∀ ss R,sp ss R→ss.length=ps.length) (hN:ps.length≤N.length)
  (hb:∀ (cdv:Value) (A:Around) (outer:List Env) (s:Shared) (H:Hp) (E:XK),Room k (A.deeper (envOfC x (defScope st) s.heap.objs.size f cdv)) →
   ∃ t:DS,PSs (cxOf CX0 P w K mg base N x (defScope st) f cdv A outer s H E).nox (defBody st) (upS K t)∧∀ ss R,sp ss R→t (endsD ps.length R) (startD N.length ss)):FnOk P w K mg base CX0 (k+1) f fd ps (spD K sp):=by
 refine F.ok S (fun vs H Q E h=>?_) fun cdv A outer s H vs Q E hr h=>?_
 ·obtain ⟨M,ss,R,hl,_,hsp,_⟩:=h
  rw [hl]
  exact len ss R hsp
 obtain ⟨M,ss,R,hl,hE,hsp,hq⟩:=h
 have hn:=len ss R hsp
 obtain ⟨t,ht,hr'⟩:=hb cdv A outer s H E hr
 have ez:ents (start N vs) (startD N.length ss) []=tmp (vs.zip ss)++List.replicate (N.length - vs.length) (none,Sl.un):=by
  show (start N vs).zip (startD N.length ss)++[]=_
  unfold start startD
  rw [List.append_nil,←hl]
  exact zip_start _ hl
 refine ⟨_,ht,M,ioOf vs ss,H,start N vs,startD N.length ss,[],endsD ps.length R,fun w i m=>(by cases m),⟨?_,by simp[start,startD,hl],fun w i m=>(by cases m),fun i l e=>rfl⟩,hr' ss R hsp,⟨fun σ' env' H' q r=>?_,fun s env' v σ' H' q r=>?_,fun σ' env' H' q r=>(show False from q),fun σ' env' H' q r=>(show False from q)⟩⟩
 ·rw [ez]
  refine hE.sub (fun x s m=>?_) (by rw[oas_app,oas_rep,List.append_nil];exact hE.nd)
  rcases List.mem_append.mp m with m|m
  ·exact .inl m
  ·have:=(List.mem_replicate.mp m).2
   cases this
   exact .inr (.inl rfl)
 ·have r2:=(Rel.addFr r (v:=.non) (d:=.none) .non)
  have r2:Rel K M (ioOf vs ss) H (start N vs) σ' env' [(.non,.fr .none)] H':=by simpa using r2
  exact hq _ _ _ _ q rfl (r2.fin (by omega) rfl)
 ·obtain ⟨r0,e0,hR⟩:=q
  have r1:Rel K M (ioOf vs ss) H (start N vs) σ' env' [(v,s)] H':=by simpa using r
  obtain ⟨env2,r2,ef,hr0⟩:=r1.told (n:=ps.length) e0
  exact hq r0 _ v H' hR hr0 (by rw[←ef];exact r2.fin (by omega) hr0)
theorem okD' {x:Str}{st:Stmt}{f:Addr}{N ps:List Str}{k:Nat}{sp:DSp}{kV doc pm cdv ct oc:Value}{an od:Option Addr}{osl:Array (Option Value)}
  (hb:∀ (A:Around) (outer:List Env) (s:Shared) (H:Hp) (E:XK),Room k (A.deeper (envOfC x (defScope st) s.heap.objs.size f cdv)) →
   ∃ t:DS,PSs (cxOf CX0 P w K mg base N x (defScope st) f cdv A outer s H E).nox (defBody st) (upS K t)∧∀ ss R,sp ss R→t (endsD ps.length R) (startD N.length ss))
  (lk:K.lookup f=some ⟨oc,od,.func (PySem.W.fnOf x x (defArgs st) (defBody st) (defScope st) .none kV doc pm an cdv ct),osl⟩) (hcd:PySem.W.codeIn K cdv x=true) (S:FnScope N ps (defScope st)) (len:∀ ss R,sp ss R→ss.length=ps.length) (hN:ps.length≤N.length):FnOk P w K mg base CX0 (k+1) f (PySem.W.fnOf x x (defArgs st) (defBody st) (defScope st) .none kV doc pm an cdv ct) ps (spD K sp):=by
 refine fn_of lk hcd S (fun vs H Q E h=>?_) fun A outer s H vs Q E hr h=>?_
 ·obtain ⟨M,ss,R,hl,_,hsp,_⟩:=h
  rw [hl]
  exact len ss R hsp
 obtain ⟨M,ss,R,hl,hE,hsp,hq⟩:=h
 have hn:=len ss R hsp
 obtain ⟨t,ht,hr'⟩:=hb A outer s H E hr
 have ez:ents (start N vs) (startD N.length ss) []=tmp (vs.zip ss)++List.replicate (N.length - vs.length) (none,Sl.un):=by
  show (start N vs).zip (startD N.length ss)++[]=_
  unfold start startD
  rw [List.append_nil,←hl]
  exact zip_start _ hl
 refine ⟨_,ht.nox,M,ioOf vs ss,H,start N vs,startD N.length ss,[],endsD ps.length R,fun w i m=>(by cases m),⟨?_,by simp[start,startD,hl],fun w i m=>(by cases m),fun i l e=>rfl⟩,hr' ss R hsp,⟨fun σ' env' H' q r=>?_,fun s env' v σ' H' q r=>?_,fun σ' env' H' q r=>(show False from q),fun σ' env' H' q r=>(show False from q)⟩⟩
 ·rw [ez]
  refine hE.sub (fun x s m=>?_) (by rw[oas_app,oas_rep,List.append_nil];exact hE.nd)
  rcases List.mem_append.mp m with m|m
  ·exact .inl m
  ·have:=(List.mem_replicate.mp m).2
   cases this
   exact .inr (.inl rfl)
 ·have r2:=(Rel.addFr r (v:=.non) (d:=.none) .non)
  have r2:Rel K M (ioOf vs ss) H (start N vs) σ' env' [(.non,.fr .none)] H':=by simpa using r2
  exact hq _ _ _ _ q rfl (r2.fin (by omega) rfl)
 ·obtain ⟨r0,e0,hR⟩:=q
  have r1:Rel K M (ioOf vs ss) H (start N vs) σ' env' [(v,s)] H':=by simpa using r
  obtain ⟨env2,r2,ef,hr0⟩:=r1.told (n:=ps.length) e0
  exact hq r0 _ v H' hR hr0 (by rw[←ef];exact r2.fin (by omega) hr0)
theorem calD {x:Str}{st:Stmt}{f:Addr}{fd:FuncData}{k:Nat}{ps:List Str}{sp:DSp} (F:Fun K x x st f fd) (m:mg x=some (.ref f)) (b:Binds K fd ps []) (G:FnOk P w K mg base CX0 k f fd ps (spD K sp)):Cal P w K mg base x k (spD K sp):=Cal.mk F m b G
end
section
variable {X:Cx}{x:Str}{p pos:Pos}{e:Expr}{es:List Expr}{k:Nat}{sp:DSp}{K:PySem.W.Frag}{tl:DA}
theorem q_call (C:Cal X.prog X.w X.K X.mg X.base x k (spD K sp)) (hr:Room k X.A) (hg:Gl X x) (ha:PA X (e::es) (upA K tl)) (hd:(x==("__debug__" : Str))=false:=by decide)
  (he:starEach (e::es) X.env=(false,eval e X.env)::starEach es X.env:=by rfl) (hpl:(backTo pos (starEach es X.env)).any (·.1)=false:=by rfl):PE X (.Call (.Name x p) (e::es) [] pos) (up K (dCall sp tl)):=(pe_cal C hr hg ha hd he hpl).imp call_up
theorem q_callS (m:Nat) (C:Cal X.prog X.w X.K X.mg X.base x k (spD K sp)) (hr:Room k X.A) (hg:Gl X x) (ha:PA X (e::es) (upA K tl)) (hd:(x==("__debug__" : Str))=false:=by decide)
  (he:starEach (e::es) X.env=(false,eval e X.env)::starEach es X.env:=by rfl) (hpl:(backTo pos (starEach es X.env)).any (·.1)=false:=by rfl):PE X (.Call (.Name x p) (e::es) [] pos) (up K (dCallS sp m tl)):=(pe_cal C hr hg ha hd he hpl).imp callS_up
end
end L2
namespace L2
open PySem PySem.Spec PyProof.Rows
noncomputable def gNeg:G1:=fun d R=>∃ i,d=.int i∧R (.int (-i))
theorem mNeg {K:PySem.W.Frag}:∀ (N:Addr→Prop) (H:Hp) (x:V) (d1:PyData) (R:PyData→Prop) (Q:VK),Vw K N H x d1→gNeg d1 R→(∀ d v,R d→DN K N H v d→Q v H)→(rU fun i=>.int (-i)) x H Q:=by
 rintro N H x d R Q w ⟨i,rfl,hR⟩ hq
 exact ⟨i,w.int,hq _ _ hR (.int _)⟩
noncomputable abbrev li (ns:List Int):List PyData:=ns.map .int
theorem fd_intro {ds:List PyData}{g:DG}{tb:DS}{DD:DEnds}{env:List Sl} (W:Nat→List Sl→Prop) (h0:W 0 env)
  (hs:∀ i env,(h:i<ds.length)→W i env→g ds[i] env fun env2=>tb { DD with nx:=dI (W (i+1)) ⟨⟩,ct:=dI (W (i+1)) ⟨⟩,bk:=DD.nx } env2) (hd:∀ env,W ds.length env→DD.nx env):FD ds g tb DD env:=⟨W,h0,hs,hd⟩
theorem cd_map {ds:List PyData}{ix:List (Option Nat)}{g:DG}{te:DE}{env:List Sl}{R:Sl→List Sl→Prop} (f:Nat→PyData) (hz:ds.length≤1000000)
  (h : ∀ i,(h:i<ds.length)→∀ Q:PyData→Prop,Q (f i)→g ds[i] (capE ix env) fun b1=>te b1 fun s b3=>∃ d,keepOf b3 s=some d∧Q d) (hR:R (.ow ((List.range ds.length).map f)) env):CD ds ix g dYes te env R:=by
 refine ⟨fun i rs=>rs=(List.range i).map f∧i≤ds.length,⟨rfl,Nat.zero_le _⟩,fun i rs hi w=>?_,fun rs w=>by rw[w.1];exact hR⟩
 obtain ⟨rfl,_⟩:=w
 refine ⟨by rw[List.length_map,List.length_range];exact Nat.lt_of_lt_of_le (by omega) line_big,?_⟩
 have:=h i hi (fun d=>(List.range i).map f++[d]=(List.range (i+1)).map f∧i+1≤ds.length) ⟨by rw[List.range_succ,List.map_append];rfl,hi⟩
 simpa only [dYes,if_true] using this
theorem cd_filter {ds:List PyData}{ix:List (Option Nat)}{g:DG}{tt:DT}{te:DE}{env:List Sl}{R:Sl→List Sl→Prop} (p:Nat→Bool) (f:Nat→PyData) (hz:ds.length≤1000000)
  (h : ∀ i,(h:i<ds.length)→∀ (Q:PyData→Prop) (Q':Prop),(p i=true→Q (f i))→(p i=false→Q')→g ds[i] (capE ix env) fun b1=>tt b1 fun k b2=>if k=true then te b2 fun s b3=>∃ d,keepOf b3 s=some d∧Q d else Q')
  (hR:R (.ow (((List.range ds.length).filter p).map f)) env):CD ds ix g tt te env R:=by
 refine ⟨fun i rs=>rs=((List.range i).filter p).map f∧i≤ds.length,⟨rfl,Nat.zero_le _⟩,fun i rs hi w=>?_,fun rs w=>by rw[w.1];exact hR⟩
 obtain ⟨rfl,_⟩:=w
 refine ⟨?_,?_⟩
 ·have:=List.length_filter_le p (List.range i)
  rw [List.length_range] at this
  rw [List.length_map]
  exact Nat.lt_of_lt_of_le (by omega) line_big
 ·refine h i hi _ _ (fun e=>⟨?_,hi⟩) (fun e=>⟨?_,hi⟩)
  ·rw [List.range_succ,List.filter_append,List.map_append]
   simp [e]
  ·rw [List.range_succ,List.filter_append,List.map_append]
   simp [e]
end L2
namespace L2
open PySem PySem.Spec PyProof.Rows
noncomputable def Bg (i:Int):Prop:=i.natAbs<2 ^ 8000
noncomputable def CMulB (i j:Int):Prop:=Bg i∧Bg j
noncomputable def CDivB (i j:Int):Prop:=0<j∧Bg j
theorem CMulB.ok {i j:Int} (h:CMulB i j):IntMulOk i j:=by
 have up:∀ x:Int,Bg x→Builtin.Int.intBits x≤2 ^ 20:=fun x hx=>by
  refine PySem.intBits_le_iff.mpr (Nat.lt_of_lt_of_le hx (Nat.pow_le_pow_right (by decide) (by decide)))
 exact IntMulOk.of_bits (up _ h.1) (up _ h.2)
theorem Bg.log {j:Int} (h:Bg j):j.natAbs.log2<9000:=by
 by_cases h0:j.natAbs=0
 ·rw [h0];decide
 ·have h1:=Nat.log2_self_le h0
  have h:j.natAbs<2 ^ 8000:=h
  have h2:(2:Nat) ^ j.natAbs.log2<2 ^ 8000:=Nat.lt_of_le_of_lt h1 h
  have h3:=(Nat.pow_lt_pow_iff_right (by decide:1<2)).mp h2
  exact Nat.lt_trans h3 (by decide)
section
variable {X:Cx}{K:PySem.W.Frag}
theorem op_mulB:OpR X (binaryOp .Mult) (rI CMulB fun i j=>.int (i*j)):=opI fun _ _ _ _ _ _ _ hc q=>mul_int q hc.ok
theorem op_fdivB:OpR X (binaryOp .FloorDiv) (rI CDivB fun i j=>.int (i / j)):=opI fun i j _ _ _ _ _ hc q=>by
 refine floordiv_int (Int.ne_of_gt hc.1) ?_ (.inl (PyProof.noPylong_of_log2 hc.2.log))
 rw [Int.fdiv_eq_ediv_of_nonneg _ (Int.le_of_lt hc.1)]
 exact q
theorem preSum_list (ns:List Int):∀ n,n≤ns.length→preSum (fun i=>ns.getD i 0) n=(ns.take n).sum
 | 0,_=>rfl
 | n+1,h=>by
  rw [preSum,preSum_list ns n (by omega),List.take_add_one,List.sum_append,List.getElem?_eq_getElem (by omega:n<ns.length)]
  simp [List.getD_eq_getElem?_getD,List.getElem?_eq_getElem (by omega:n<ns.length)]
theorem call_sumI (hK:X.K=K) (hc:X.calm=true):CallR X (.builtin "sum") (fun xs H Q=>∃ (p:Addr) (ns:List Int),xs=[.ref p]∧SqL K H p (ns.map V.int)∧Q (.int ns.sum) H):=by
 subst hK
 intro pins s σ H xs us Q I r h
 obtain ⟨p,ns,rfl,hs,q⟩:=h
 obtain ⟨u,rfl,ru⟩:=vals1 r
 cases (show u=Value.ref p from ru)
 obtain ⟨its,rv,hp,_⟩:=I.list hs
 have hl:=hp.isList
 have hlt:p<s.heap.objs.size:=by obtain⟨_,e,_⟩:=hl;exact Heap.lt_size e
 have hsz:its.toArray.size=ns.length:=by
  have:=rv.length
  simp at this ⊢
  omega
 have W:=(Walks.list (prog:=X.prog) (w:=X.w) (A:=X.A.in1) (I.ok.hd hc) s.heap.objs.size p (Nat.ne_of_lt hlt) its.toArray).toS
 rw [hsz] at W
 refine call_sum_walkAnyS (wpAny_pyIter_list hl ?_)
 refine ⟨s.heap.objs.size,_,_,_,_,_,_,fun i=>ns.getD i 0,rfl,W,⟨⟨_,Heap.get?_push_size _ rfl,rfl,rfl⟩,hl.push _⟩,fun b hb=>?_,fun i v hP=>?_,fun s' t' hm=>?_⟩
 ·rcases List.mem_cons.mp hb with rfl|hb
  ·exact Heap.lt_size (Heap.get?_push_size _ rfl)
  ·obtain rfl:=List.mem_singleton.mp hb
   exact Heap.lt_size (Heap.get?_push_of_some _ (id hl).choose_spec.1)
 ·have hP:its.toArray[i]? = some v:=hP
  have hP:its[i]? = some v:=by simpa using hP
  have hi:i<its.length:=(List.getElem?_eq_some_iff.mp hP).1
  have hi2:i<ns.length:=by simp at hsz;omega
  obtain ⟨u,e1,⟨t,e2⟩⟩:=rv.get (i:=i) (x:=.int ns[i]) (by rw[List.getElem?_map,List.getElem?_eq_getElem hi2];rfl)
  rw [hP] at e1
  cases e1
  refine ⟨t,?_⟩
  rw [e2]
  show _=Value.int (ns.getD i 0) t
  rw [List.getD_eq_getElem?_getD,List.getElem?_eq_getElem hi2]
  rfl
 ·obtain ⟨h',g',d',tk',os'⟩:=s'
  have e1:g'=s.gens:=hm.gens
  have e2:d'=s.drawn:=hm.drawn
  have e3:os'=s.os:=hm.os
  subst e1 e2 e3
  have ep:=preSum_list ns ns.length (Nat.le_refl _)
  rw [List.take_length] at ep
  rw [ep]
  exact ⟨.int ns.sum,H,I.kept fun b o e=>hm.heap b o (fun hb=>absurd (Heap.lt_size e) ((List.mem_singleton.mp hb)▸Nat.lt_irrefl _)) (Heap.get?_push_of_some _ e),⟨_,rfl⟩,q⟩
noncomputable def gSum:GB:=fun ds R=>∃ es ns,ds=[.list es]∧intsOf es=some ns∧R (.int ns.sum)
theorem mSum:MeansB K (fun xs H Q=>∃ (p:Addr) (ns:List Int),xs=[.ref p]∧SqL K H p (ns.map V.int)∧Q (.int ns.sum) H) gSum:=by
 rintro N H xs ds R Q w ⟨es,ns,rfl,e1,hR⟩ hq
 cases w with
 | cons w1 w2 =>
  cases w2
  obtain ⟨a,vs,rfl,s,q⟩:=w1.list
  rw [intsOf_some e1] at q
  rw [q.ints] at s
  exact ⟨a,ns,rfl,s,hq _ _ hR (.int _)⟩
end
end L2
namespace L2
open PySem
theorem Bg.of {i:Int} (h1:-1000000000000000000000000000000000000000000000≤i) (h2:i≤1000000000000000000000000000000000000000000000):Bg i:=by
 have h:i.natAbs<2 ^ 200:=by
  have:(2:Nat) ^ 200=1606938044258990275541962092341162602522202993782792835301376:=by decide
  rw [this]
  omega
 exact Nat.lt_of_lt_of_le h (Nat.pow_le_pow_right (by decide) (by decide))
end L2
namespace L2
open PySem PySem.Spec PyProof.Rows
section
variable (env:List Sl) (d:PyData) (l:List PyData) (i n:Nat) (s:Sl) (R:Sl→List Sl→Prop)
theorem valOf_fr:valOf env (.fr d)=some d:=rfl
theorem valOf_ow:valOf env (.ow l)=some (.list l):=rfl
theorem valOf_io:valOf env (.io l)=some (.list l):=rfl
theorem valOf_vw:valOf env (.vw i)=(env[i]?).bind slD:=rfl
theorem slD_fr:slD (.fr d)=some d:=rfl
theorem slD_ow:slD (.ow l)=some (.list l):=rfl
theorem slD_io:slD (.io l)=some (.list l):=rfl
theorem slD_un:slD .un=none:=rfl
theorem slD_tr {S:List Addr}{kvs:List (PyData×PyData)}:slD (.tr S (.dict kvs))=some (.dict kvs):=rfl
theorem valOf_tr {S:List Addr}{kvs:List (PyData×PyData)}:valOf env (.tr S (.dict kvs))=some (.dict kvs):=rfl
theorem slK_fr:slK (.fr d)=some d:=rfl
theorem slK_ow:slK (.ow l)=none:=rfl
theorem slK_io:slK (.io l)=none:=rfl
theorem slK_un:slK .un=none:=rfl
theorem keepOf_fr:keepOf env (.fr d)=some d:=rfl
theorem keepOf_ow:keepOf env (.ow l)=some (.list l):=rfl
theorem keepOf_vw:keepOf env (.vw i)=(env[i]?).bind slK:=rfl
theorem stoOf_fr:stoOf env (.fr d)=some (.fr d):=rfl
theorem stoOf_ow:stoOf env (.ow l)=some (.ow l):=rfl
theorem stoOf_tr {S:List Addr}:stoOf env (.tr S d)=some (.tr S d):=rfl
theorem resOf_tr {S:List Addr}:resOf env (.tr S d)=some (.tr S d):=rfl
theorem keepOf_tr {S:List Addr}:keepOf env (.tr S d)=some d:=rfl
theorem stoOf_vw:stoOf env (.vw i)=((env[i]?).bind slK).map .fr:=rfl
noncomputable def resS:Sl→Option Sl
 | .fr d=>some (.fr d)
 | .ow l=>some (.ow l)
 | _=>none
theorem resOf_fr:resOf env (.fr d)=some (.fr d):=rfl
theorem resOf_ow:resOf env (.ow l)=some (.ow l):=rfl
theorem resOf_vw:resOf env (.vw i)=(env[i]?).bind resS:=by
 show (env[i]?).bind _=_
 congr 1
theorem resS_fr:resS (.fr d)=some (.fr d):=rfl
theorem resS_ow:resS (.ow l)=some (.ow l):=rfl
theorem ioOnly_fr:ioOnly (.fr d)=.un:=rfl
theorem ioOnly_ow:ioOnly (.ow l)=.un:=rfl
theorem ioOnly_io:ioOnly (.io l)=.io l:=rfl
theorem ioOnly_un:ioOnly .un=.un:=rfl
theorem endsD_rt:(endsD n R).rt s env=∃ r,resOf env s=some r∧R r (finD n env):=rfl
theorem endsD_nx:(endsD n R).nx env=R (.fr .none) (finD n env):=rfl
theorem setSl_ow:setSl (.ow l) d'=some (.ow d'):=rfl
theorem setSl_io:setSl (.io l) d'=some (.io d'):=rfl
theorem ownD_ow:ownD (.ow l)=some l:=rfl
theorem ownD_io:ownD (.io l)=some l:=rfl
theorem ownD_fr:ownD (.fr d)=none:=rfl
theorem ownD_un:ownD .un=none:=rfl
theorem capSl_fr:capSl (some (.fr d))=.fr d:=rfl
theorem capSl_ow:capSl (some (.ow l))=.un:=rfl
theorem capSl_io:capSl (some (.io l))=.un:=rfl
theorem capSl_un:capSl (some .un)=.un:=rfl
theorem capD_none:capD env none=.un:=rfl
theorem capD_some:capD env (some i)=capSl env[i]?:=rfl
theorem seqOf_list:seqOf (.list l)=some l:=rfl
theorem seqOf_tuple:seqOf (.tuple l)=some l:=rfl
theorem truD_none:truD .none=some false:=rfl
theorem truD_bool (b:Bool):truD (.bool b)=some b:=rfl
theorem truD_int (i:Int):truD (.int i)=some (i != 0):=rfl
theorem truD_list:truD (.list l)=some (!l.isEmpty):=rfl
theorem truD_tuple:truD (.tuple l)=some (!l.isEmpty):=rfl
theorem isNn_none:isNn .none=true:=rfl
theorem isNn_int (i:Int):isNn (.int i)=false:=rfl
theorem isNn_bool (i:Bool):isNn (.bool i)=false:=rfl
theorem isNn_list:isNn (.list l)=false:=rfl
theorem isNn_tuple:isNn (.tuple l)=false:=rfl
theorem isK_int (i:Int):isK "int" (.int i)=true:=rfl
theorem isK_bool (b:Bool):isK "bool" (.bool b)=true:=rfl
theorem isK_ib (b:Bool):isK "int" (.bool b)=true:=rfl
theorem isK_bi (i:Int):isK "bool" (.int i)=false:=rfl
theorem isK_list:isK "list" (.list l)=true:=rfl
theorem isK_tuple:isK "tuple" (.tuple l)=true:=rfl
theorem isK_lt:isK "list" (.tuple l)=false:=rfl
theorem isK_tl:isK "tuple" (.list l)=false:=rfl
theorem isK_in:isK "int" .none=false:=rfl
theorem isK_bn:isK "bool" .none=false:=rfl
theorem keepsOf_nil:keepsOf env []=some []:=rfl
theorem keepsOf_cons (s:Sl) (ss:List Sl):keepsOf env (s::ss)=(keepOf env s).bind fun d=>(keepsOf env ss).bind fun ds=>some (d::ds):=rfl
theorem valsOf_nil:valsOf env []=some []:=rfl
theorem valsOf_cons (s:Sl) (ss:List Sl):valsOf env (s::ss)=(valOf env s).bind fun d=>(valsOf env ss).bind fun ds=>some (d::ds):=rfl
theorem eqv_ints (i j:Int):PyData.eqv (.int i) (.int j)=decide (i=j):=by
 show (i==j)=_
 by_cases h:i=j <;> simp[h]
end
section
variable {X:Cx}{K:PySem.W.Frag}{ta:DA}{a b:Expr}{pos:Pos}
noncomputable def dPar (i j:Nat) (ta:DA):DS:=fun DD env=>ta env fun ss env1=>∃ s1 s2 d1 d2,ss=[s1,s2]∧keepOf env1 s1=some d1∧keepOf env1 s2=some d2∧i<env1.length∧j<env1.length∧DD.nx ((env1.set i (.fr d1)).set j (.fr d2))
theorem par_up {i j:Nat}:∀ D σ H,upS K (dPar i j ta) D σ H→tPar i j (upA K ta) D σ H:=fun D σ H h=>by
 obtain ⟨M,P,H0,σ0,env,ts,DD,nv,rel,ht,ok⟩:=h
 refine ⟨M,P,H0,σ0,env,ts,_,rel,ht,fun ss env1 vs H1 h1 hl rel1=>?_⟩
 obtain ⟨s1,s2,d1,d2,rfl,k1,k2,hi,hj,hR⟩:=h1
 match vs,hl,rel1 with
 | [v, v'],hl,rel1 =>
  have dns:=rel1.keptAll (vs:=[v,v']) (ds:=[d1,d2]) hl (fun p hp=>hp) (by simp[keepsOf,k1,k2])
  have r2:=rel1.drop.addFrs dns
  have r2:Rel K M P H0 σ0 σ env1 (ts++[(v,.fr d1),(v',.fr d2)]) H1:=by simpa using r2
  cases dns with
  | cons dn q =>
   cases q with
   | cons dn' q =>
    refine ⟨v,v',rfl,ok.nx _ _ _ hR ?_⟩
    have r3:Rel K M P H0 σ0 σ env1 ((ts++[(v',.fr d2)])++[(v,.fr d1)]) H1:=(rel1.drop.addFr dn').addFr (dn.to fun b _ _ z=>by rw[ents_app,nw_tmpFr] at z;exact z)
    have nv2:NoVw (ts++[(v',.fr d2)]):=fun w i m=>by
     rcases List.mem_append.mp m with m|m
     ·exact nv w i m
     ·rw [List.mem_singleton] at m;cases m
    have r4:=r3.store nv2 hi rfl
    exact r4.store nv (by simpa using hj) rfl
theorem q_par {i j:Nat}{x y:Str}{px py pt:Pos}{kt k2 pt2} (hc:X.calm=true) (hN:X.N.Nodup) (hi:X.N[i]? = some x) (hj:X.N[j]? = some y) (hij:i≠j)
  (hx:X.env.scope.names.lookup x=some .local) (hy:X.env.scope.names.lookup y=some .local) (ha:PA X [a,b] (upA K ta))
  (hw:swappedStores [.Tuple [.Name x px,.Name y py] kt pt] (.Tuple [a,b] k2 pt2) X.env=pure (some [x,y]):=by rfl)
  (hs:swapsWithSole [.Tuple [.Name x px,.Name y py] kt pt] (.Tuple [a,b] k2 pt2) pos.line X.env=pure false:=by rfl) :
  PS X (.Assign [.Tuple [.Name x px,.Name y py] kt pt] (.Tuple [a,b] k2 pt2) pos) (upS K (dPar i j ta)):=(ps_par hc hN hi hj hij hx hy ha hw hs).imp par_up
end
end L2
namespace L2
open PySem PySem.Spec PyProof.Rows
theorem atI_c0 {α:Type} (x:α) (l:List α):atI (x::l) 0=some x:=atI_nat (j:=0) rfl
theorem atI_c1 {α:Type} (x y:α) (l:List α):atI (x::y::l) 1=some y:=atI_nat (j:=1) rfl
theorem atI_c2 {α:Type} (x y z:α) (l:List α):atI (x::y::z::l) 2=some z:=atI_nat (j:=2) rfl
theorem atI_c4 {α:Type} (a b c d x:α) (l:List α):atI (a::b::c::d::x::l) 4=some x:=atI_nat (j:=4) rfl
theorem atI_c5 {α:Type} (a b c d e x:α) (l:List α):atI (a::b::c::d::e::x::l) 5=some x:=atI_nat (j:=5) rfl
theorem atI_c6 {α:Type} (a b c d e f x:α) (l:List α):atI (a::b::c::d::e::f::x::l) 6=some x:=atI_nat (j:=6) rfl
theorem atI_c7 {α:Type} (a b c d e f g x:α) (l:List α):atI (a::b::c::d::e::f::g::x::l) 7=some x:=atI_nat (j:=7) rfl
theorem eqv_none:PyData.eqv .none .none=true:=rfl
theorem eqv_ni (i:Int):PyData.eqv .none (.int i)=false:=rfl
theorem eqv_in (i:Int):PyData.eqv (.int i) .none=false:=rfl
theorem shp_int (i:Int):shp (.int i)=True:=by simp[shp,SeqAt.shaped,PySem.PyData.canLay0,PySem.PyData.depth]
theorem shp_none:shp .none=True:=by simp[shp,SeqAt.shaped,PySem.PyData.canLay0,PySem.PyData.depth]
theorem shp_bool (b:Bool):shp (.bool b)=True:=by simp[shp,SeqAt.shaped,PySem.PyData.canLay0,PySem.PyData.depth]
theorem atI_c3 {α:Type} (x y z u:α) (l:List α):atI (x::y::z::u::l) 3=some u:=atI_nat (j:=3) rfl
end L2
namespace L2
open PySem PySem.Spec PyProof.Rows
theorem law_sp {K:PySem.W.Frag}{H:Hp}{a:Addr}{ns:List Int}{E:XK} (hS:SqL K H a (ns.map V.int)) {sp:DSp} (h:sp [.fr (.list (li ns))] (fun r _=>r=.fr (.bool true))):spD K sp [.ref a] H (fun v _=>v=.bl true) E:=by
 have dns:DNs K (fun _=>False) H [.ref a] [.list (li ns)]:=.cons (DN.sqL hS) .nil
 refine ⟨fun _=>False,[.fr (.list (li ns))],_,rfl,argsFr (ds:=[.list (li ns)]) dns (fun a z=>z.elim),h,fun r ss' v H' hR _ post=>?_⟩
 subst hR
 obtain ⟨w,e,dn⟩:=post.fr _ _ List.mem_cons_self
 cases e
 cases dn
 rfl
theorem walkD {l:PySem.W.OpenLaw}{q:Program}{loose:List Str}{XP:(Str→Option Value)→Heap→Prop}{YP:World→Heap→Prop}{d:DefRec}{K:Params→PySem.W.Frag}{sp:DSp}{k:Nat} (hk:k≤40) (hn:l.most=some 63) (hdf:d.params.defaults=[])
  (hsp:∀ ns:List Int,ns.length≤63→sp [.fr (.list (li ns))] (fun r _=>r=.fr (.bool true)))
  (hTb:∀ (w:World) (s₀:Shared) (mg mb:Str→Option Value) (h:Heap),PySem.W.Ground q loose [] XP w s₀ mg mb h→(K w.params).In h→∃ tb:List (Addr×Str),(∀ b q,tb.lookup b=some q→h.get? b=some { cls:=.none,data:=.fields #[] }∧(K w.params).lookup b=none∧∃ c,h.TableAt c b #[])∧∀ T q,LamTab (K w.params) T q→tb.lookup T=some q)
  (hY:∀ (w:World) (h:Heap),YP w h→(K w.params).In h)
  (F : ∀ (w:World) (mg:Str→Option Value) (fa:Addr) (h:Heap),(K w.params).In h→h.Ns mainGlobals mg→mg d.name=some (.ref fa) →
   ∃ fd:FuncData,(∀ (s:Shared) (u:Value),BindsTo s fd ⟨[u],[]⟩ [("_law_script",u)])∧∀ base:Heap,(K w.params).In base→base.Ns mainGlobals mg→FnOk l.prog w (K w.params) mg base CX0 k fa fd ["_law_script"] (spD (K w.params) sp)) :
  PySem.W.WalkO q loose XP YP l.row.toRowW d [] (fun f vs=>PySem.call f vs):=by
 refine L2.walk_of (n:=63) (k:=40) (x := "_law_script") (CX:=fun _=>CX0) (sp:=fun w=>spD (K w.params) sp) hn (by decide) hdf ⟨rfl,by decide,by decide⟩ hTb hY (fun w mg fa h a b c=>?_) (fun w H a ns hl _ hS=>law_sp hS (hsp ns hl)) fun _ _ _ _ _ z=>z
 obtain ⟨fd,h1,h2⟩:=F w mg fa h a b c
 exact ⟨fd,h1,fun base x y=>(h2 base x y).mono hk⟩
end L2
namespace L2
open PySem PySem.Spec PyProof.Rows
noncomputable def Sh (n:Nat) (d:PyData):Prop:=d.canLay0=true∧d.depth≤n
theorem Sh.int (n:Nat) (i:Int):Sh n (.int i):=⟨by simp[PyData.canLay0],by simp[PyData.depth]⟩
theorem Sh.bool (n:Nat) (i:Bool):Sh n (.bool i):=⟨by simp[PyData.canLay0],by simp[PyData.depth]⟩
theorem Sh.none (n:Nat):Sh n .none:=⟨by simp[PyData.canLay0],by simp[PyData.depth]⟩
theorem Sh.all {n:Nat}:∀ {ds:List PyData},(∀ x∈ds,Sh n x)→PyData.canLayAll0 ds=true∧PyData.depthAll ds≤n
 | [],_=>⟨by simp[PyData.canLayAll0],by simp[PyData.depthAll]⟩
 | d::ds,h=>by
  have h1:=h d List.mem_cons_self
  have h2:=Sh.all fun x hx=>h x (List.mem_cons_of_mem _ hx)
  refine ⟨by rw[PyData.canLayAll0,h1.1,h2.1];rfl,?_⟩
  rw [PyData.depthAll]
  have a:=h1.2
  have b:=h2.2
  omega
theorem Sh.list {n:Nat}{ds:List PyData} (h:∀ x∈ds,Sh n x):Sh (n+1) (.list ds):=by
 obtain ⟨a,b⟩:=Sh.all h
 exact ⟨by rw[PyData.canLay0];exact a,by rw[PyData.depth];omega⟩
theorem Sh.tuple {n:Nat}{ds:List PyData} (h:∀ x∈ds,Sh n x):Sh (n+1) (.tuple ds):=by
 obtain ⟨a,b⟩:=Sh.all h
 exact ⟨by rw[PyData.canLay0];exact a,by rw[PyData.depth];omega⟩
theorem Sh.mono {n m:Nat}{d:PyData} (h:Sh n d) (hm:n≤m):Sh m d:=⟨h.1,Nat.le_trans h.2 hm⟩
theorem Sh.ints (n:Nat) (ns:List Int):Sh (n+1) (.list (li ns)):=Sh.list fun x hx=>by
 obtain ⟨i,_,rfl⟩:=List.mem_map.mp hx
 exact Sh.int _ _
theorem Sh.shp {n:Nat}{d:PyData} (h:Sh n d) (hn:n≤64):shp d:=by
 show SeqAt.shaped d=true
 unfold SeqAt.shaped
 rw [h.1,decide_eq_true (Nat.le_trans h.2 hn)]
 rfl
theorem atI_li {ns:List Int}{k:Nat} (h:k<ns.length):atI (li ns) (k:Int)=some (.int (ns.getD k 0)):=atI_nat (by
 rw [List.getElem?_map,List.getElem?_eq_getElem h,List.getD_eq_getElem?_getD,List.getElem?_eq_getElem h]
 rfl)
theorem li_get {ns:List Int}{i:Nat} (h:i<(li ns).length):(li ns)[i]=.int (ns.getD i 0):=by
 have h':i<ns.length:=by simpa using h
 simp [List.getD_eq_getElem?_getD,List.getElem?_eq_getElem h']
theorem li_set (ns:List Int) (i:Nat) (x:Int):(li ns).set i (.int x)=li (ns.set i x):=by simp[List.map_set]
theorem li_range (n:Nat) (f:Nat→Int):(List.range n).map (fun i=>PyData.int (f i))=li ((List.range n).map f):=by
 show _=List.map _ (List.map _ _)
 rw [List.map_map]
 rfl
theorem cpow10 {j:Int} (h:0≤j) (h':j≤1000000):CPow 10 j:=⟨h,h',by decide⟩
theorem cmul_l {i j:Int} (h0:-18446744073709551616<i) (h1:i<18446744073709551616):CMul i j:=.inl ⟨h0,h1⟩
theorem cmul_r {i j:Int} (h0:-18446744073709551616<j) (h1:j<18446744073709551616):CMul i j:=.inr ⟨h0,h1⟩
end L2
namespace L2
open PySem PySem.Spec PyProof.Rows
@[irreducible] noncomputable def dNx (u:DS):DS:=u
theorem dNx_eq (u:DS):dNx u=u:=by unfold dNx;rfl
theorem nx {u:DS}{DD:DEnds}{env:List Sl} (h:u DD env):dNx u DD env:=by rw[dNx_eq];exact h
theorem qs_bar {X:Cx}{K:PySem.W.Frag}{st:Stmt}{rest:List Stmt}{t u:DS} (h1:PS X st (upS K t)) (h2:PSs X rest (upS K u)):PSs X (st::rest) (upS K (dSeq t (dNx u))):=by rw[dNx_eq];exact qs_cons h1 h2
end L2
namespace L2
theorem atI_map {α β:Type} (f:α→β) (xs:List α) (d:α) {k:Nat} (h:k<xs.length):atI (xs.map f) (k:Int)=some (f (xs.getD k d)):=atI_nat (by
 rw [List.getElem?_map,List.getElem?_eq_getElem h,List.getD_eq_getElem?_getD,List.getElem?_eq_getElem h]
 rfl)
theorem place {x:Int}{n:Nat} (h:0<n):∃ a:Nat,x % (n:Int)=(a:Int)∧a<n:=by
 have h0:=Int.emod_nonneg x (show (n:Int)≠0 by omega)
 have h1:=Int.emod_lt_of_pos x (show (0:Int)<n by omega)
 exact ⟨(x % (n:Int)).toNat,by omega,by omega⟩
end L2
namespace L2
open PySem PySem.Spec PyProof.Rows
theorem argBest_ok (bt:Nat→Nat→Bool) (val:Nat→Int) (hb:∀ i j,bt i j=decide (val i<val j)):∀ n,argBest bt n≤n∧∀ i,i≤n→val (argBest bt n)≤val i
 | 0=>⟨Nat.le_refl _,fun i hi=>by rw[show i=0 by omega];exact Int.le_refl _⟩
 | n + 1=>by
  obtain ⟨h1,h2⟩:=argBest_ok bt val hb n
  show (if bt (n+1) (argBest bt n) then n+1 else argBest bt n)≤_∧_
  cases e:bt (n+1) (argBest bt n) with
  | true =>
   rw [hb,decide_eq_true_eq] at e
   refine ⟨by simp,fun i hi=>?_⟩
   have ea:argBest bt (n+1)=n+1:=by
    show (if bt (n+1) (argBest bt n) then n+1 else argBest bt n)=_
    rw [hb,decide_eq_true e,if_pos rfl]
   rw [ea]
   by_cases hi':i=n+1
   ·rw [hi'];exact Int.le_refl _
   ·have:=h2 i (by omega)
    omega
  | false =>
   rw [hb,decide_eq_false_iff_not] at e
   refine ⟨by simp;omega,fun i hi=>?_⟩
   have ea:argBest bt (n+1)=argBest bt n:=by
    show (if bt (n+1) (argBest bt n) then n+1 else argBest bt n)=_
    rw [hb,decide_eq_false e]
    rfl
   rw [ea]
   by_cases hi':i=n+1
   ·rw [hi'];omega
   ·exact h2 i (by omega)
section
variable {X:Cx}{K:PySem.W.Frag}
noncomputable def gMinL:GB:=fun ds R=>∃ es ns,ds=[.list es]∧intsOf es=some ns∧ns≠[]∧∀ m,m∈ns→(∀ x∈ns,m≤x)→R (.int m)
end
end L2
namespace L2
open PySem PySem.Spec PyProof.Rows
noncomputable def Pl:Nat→PyData→Prop
 | 0,d=>∃ i,d=.int i
 | n+1,d=>(∃ i,d=.int i)∨∃ ds:List PyData,(d=.list ds∨d=.tuple ds)∧ds.length≤1000000∧∀ x∈ds,Pl n x
theorem Pl.int (n:Nat) (i:Int):Pl n (.int i):=by
 cases n with
 | zero=>exact⟨i,rfl⟩
 | succ n=>exact .inl ⟨i,rfl⟩
theorem Pl.list {n:Nat}{ds:List PyData} (hl:ds.length≤1000000) (h:∀ x∈ds,Pl n x):Pl (n+1) (.list ds):=.inr ⟨ds,.inl rfl,hl,h⟩
theorem Pl.tuple {n:Nat}{ds:List PyData} (hl:ds.length≤1000000) (h:∀ x∈ds,Pl n x):Pl (n+1) (.tuple ds):=.inr ⟨ds,.inr rfl,hl,h⟩
theorem Pl.ints (n:Nat) {ns:List Int} (h:ns.length≤1000000):Pl (n+1) (.list (li ns)):=Pl.list (by rw[List.length_map];exact h) fun x hx=>by
 obtain ⟨i,_,rfl⟩:=List.mem_map.mp hx
 exact Pl.int _ _
theorem isK_si (i:Int):isK "str" (.int i)=false:=rfl
theorem isK_sl (l:List PyData):isK "str" (.list l)=false:=rfl
theorem isK_st (l:List PyData):isK "str" (.tuple l)=false:=rfl
theorem isK_il (l:List PyData):isK "int" (.list l)=false:=rfl
theorem isK_it (l:List PyData):isK "int" (.tuple l)=false:=rfl
end L2
namespace L2
open PySem PySem.Spec PyProof.Rows
section
variable {K:PySem.W.Frag}{N:Addr→Prop}{H:Hp}
noncomputable def gRep:PyData→PyData→(List PyData→Prop)→Prop:=fun d e R=>∃ xs k,d=.list xs∧e=.int k∧-(2 ^ 63)≤k∧k<2 ^ 63∧xs.length*k.toNat≤sizeLine∧R (List.replicate k.toNat xs).flatten
theorem rep1 (n:Nat) (x:PyData):(List.replicate n [x]).flatten=List.replicate n x:=by
 induction n with
 | zero=>rfl
 | succ n ih=>rw[List.replicate_succ,List.flatten_cons,ih,List.replicate_succ];rfl
end
end L2
namespace L2
open PySem PySem.Spec PyProof.Rows
mutual
noncomputable def noL:PyData→Bool
 | .none=>true
 | .bool _=>true
 | .int _=>true
 | .str _=>true
 | .tuple ds=>noLs ds
 | _=>false
noncomputable def noLs:List PyData→Bool
 | []=>true
 | d::ds=>noL d&&noLs ds
end
section
variable {K:PySem.W.Frag}{M P N:Addr→Prop}{H0 H H':Hp}{E T A B:List Ent}{σ0 σ:St}{env:List Sl}{ts tt:List (V×Sl)}{v:V}{s:Sl}{d:PyData}
mutual
theorem DN.ot:∀ {v:V}{d:PyData},DN K N H v d→noL d=true→OT K N H v d []
 | _,_,.non,_=>.non
 | _,_,.bl b,_=>.bl b
 | _,_,.int i,_=>.int i
 | _,_,.str x,_=>.str x
 | _,_,.lst h q,e=>by simp[noL] at e
 | _,_,.tup h q,e=>.tup h (DNs.ots q (by simpa [noL] using e))
 | _,_,.exc _ _ _ _,e=>by simp[noL] at e
 | _,_,.dct _ _ _ _ _,e=>by simp[noL] at e
 | _,_,.fz _,e=>by simp[noL] at e
theorem DNs.ots:∀ {v:List V}{d:List PyData},DNs K N H v d→noLs d=true→OTs K N H v d []
 | _,_,.nil,_=>.nil
 | _,_,.cons h q,e=>by
  have e:(noL _&&noLs _)=true:=e
  rw [Bool.and_eq_true] at e
  exact .cons (S:=[]) (S':=[]) (DN.ot h e.1) (DNs.ots q e.2)
end
noncomputable def fzs:List PyData→Option (List PyData)
 | []=>some []
 | .list l::ds=>(fzs ds).map (fzD l::·)
 | _::_=>none
theorem DNs.fzs:∀ {vs:List V}{ds ds':List PyData},DNs K N H vs ds→fzs ds=some ds'→OTs K N H vs ds' []
 | _,_,_,.nil,e=>by cases e;exact .nil
 | _, d::ds,_,.cons h q,e=>by
  cases d with
  | list l =>
   have e:(L2.fzs ds).map (fzD l::·)=some _:=e
   cases e2:L2.fzs ds with
   | none=>rw[e2] at e;cases e
   | some ds2 =>
    rw [e2] at e
    cases e
    exact .cons (S:=[]) (S':=[]) (.fz h) (DNs.fzs q e2)
  | _=>cases e
noncomputable def slF (s:Sl):Option PyData:=match s with
 | .fr d=>if noL d=true then some d else none
 | _=>none
noncomputable def treeD (env:List Sl):Sl→Option PyData
 | .fr d=>if noL d=true then some d else none
 | .ow ds=>if noLs ds=true then some (.list ds) else (fzs ds).map .list
 | .tr _ d=>some d
 | .vw i=>(env[i]?).bind slF
 | _=>none
noncomputable def treesD (env:List Sl):List Sl→Option (List PyData)
 | []=>some []
 | s::ss=>(treeD env s).bind fun d=>(treesD env ss).bind fun ds=>some (d::ds)
end
section
variable {X:Cx}{K:PySem.W.Frag}{pos:Pos}{es:List Expr}{tl:DA}
noncomputable def dTupT (t:DA):DE:=fun env R=>t env fun ss env1=>∃ ds,treesD env1 ss=some ds∧ss.length≤sizeLine∧∀ S,R (.tr S (.tuple ds)) env1
end
end L2
namespace L2
open PySem PySem.Spec PyProof.Rows
section
variable {K:PySem.W.Frag}{M P N:Addr→Prop}{H0 H H':Hp}{E T A B:List Ent}{σ0 σ:St}{env:List Sl}{ts tt kp:List (V×Sl)}{v:V}{s:Sl}{d:PyData}
end
noncomputable def CDT (ds:List PyData) (ix:List (Option Nat)) (g:DG) (tt:DT) (te:DE) (env:List Sl) (R:Sl→List Sl→Prop):Prop:=∃ W:Nat→List PyData→Prop,W 0 [] ∧
 (∀ i rs,(h:i<ds.length)→W i rs→rs.length<sizeLine∧g ds[i] (capE ix env) fun b1=>tt b1 fun k b2=>if k=true then te b2 fun s b3=>∃ s' d,stoOf b3 s=some s'∧treeD [] s'=some d∧W (i+1) (rs++[d]) else W (i+1) rs)∧∀ rs,W ds.length rs→∀ S,R (.tr S (.list rs)) env
noncomputable def dCompT (it:DI) (ix:List (Option Nat)) (g:DG) (tt:DT) (te:DE):DE:=fun env R=>it env fun ds env1=>CDT ds ix g tt te env1 (dK R ⟨⟩)
section
variable {K:PySem.W.Frag}
section
variable {X:Cx}{pos spos:Pos}{N':List Str}{ix:List (Option Nat)}{it:DI}{g:DG}{tt:DT}{te:DE}{tg iter elt:Expr}{ifs:List Expr}
end
end
end L2
namespace L2
open PySem PySem.Spec PyProof.Rows
noncomputable def borD:Sl→Option PyData
 | .fr d=>some d
 | .ow ds=>some (.list ds)
 | .io ds=>some (.list ds)
 | .tr _ d=>some d
 | _=>none
noncomputable def borOf (env:List Sl):Sl→Option PyData
 | .vw i=>(env[i]?).bind borD
 | .fr d=>some d
 | .ow ds=>some (.list ds)
 | .tr _ d=>some d
 | _=>none
noncomputable def borsOf (env:List Sl):List Sl→Option (List PyData)
 | []=>some []
 | s::ss=>(borOf env s).bind fun d=>(borsOf env ss).bind fun ds=>some (d::ds)
noncomputable def atom:PyData→Bool
 | .none=>true
 | .bool _=>true
 | .int _=>true
 | .str _=>true
 | _=>false
section
variable {K:PySem.W.Frag}{M P N:Addr→Prop}{H0 H H':Hp}{E T A B:List Ent}{σ0 σ:St}{env:List Sl}{ts tt kp:List (V×Sl)}{v:V}{s:Sl}{d:PyData}
theorem DN.atom {N2:Addr→Prop}{H2:Hp} (h:DN K N H v d) (e:atom d=true):DN K N2 H2 v d:=by
 cases h with
 | non=>exact .non
 | bl b=>exact .bl b
 | int i=>exact .int i
 | str x=>exact .str x
 | lst _ _=>cases e
 | tup _ _=>cases e
 | exc _ _ _ _=>cases e
 | dct _ _ _ _ _=>cases e
 | fz _=>cases e
theorem RelE.lent {x:Option V} (h:RelE K M P H0 E H) (m:(x,s)∈E) (e:borD s=some d):∃ v,x=some v∧DN K N0 H v d:=by
 cases s with
 | fr d'=>cases e;obtain⟨v,e1,dn⟩:=h.fr _ _ m;exact⟨v,e1,dn.to fun b _ _ z=>z.elim⟩
 | ow ds=>cases e;obtain⟨a,vs,e1,e2,dn,_⟩:=h.ow _ _ m;exact⟨_,e1,.lst (SnL.of e2 fun z=>z) (dn.to fun b _ _ z=>z.elim)⟩
 | io ds=>cases e;obtain⟨a,vs,e1,e2,dn,_⟩:=h.io _ _ m;exact⟨_,e1,.lst (SnL.of e2 fun z=>z) (dn.to fun b _ _ z=>z.elim)⟩
 | tr S d'=>cases e;obtain⟨v,e1,ot,_⟩:=h.tr _ _ _ m;exact⟨v,e1,ot.dn (fun b z=>z.elim) fun a _ z=>z⟩
 | _=>cases e
theorem Rel.lentAt (h:Rel K M P H0 σ0 σ env ts H) {i:Nat} (e:(env[i]?).bind borD=some d):∃ v,σ[i]? = some (some v)∧DN K N0 H v d:=by
 cases q:env[i]? with
 | none=>rw[q] at e;cases e
 | some s =>
  rw [q] at e
  obtain ⟨x,e1,m⟩:=h.slot q
  obtain ⟨v,e2,w⟩:=h.e.lent m e
  exact ⟨v,by rw[e1,e2],w⟩
theorem Rel.lent (h:Rel K M P H0 σ0 σ env ts H) (m:(v,s)∈ts) (e:borOf env s=some d):DN K N0 H v d:=by
 cases s with
 | vw i =>
  obtain ⟨w,e1,q⟩:=h.lentAt e
  rw [h.vw v i m] at e1
  cases e1
  exact q
 | fr d'=>obtain⟨w,e1,q⟩:=h.e.lent (s:=.fr d') (mem_tmp m) e;cases e1;exact q
 | ow d'=>obtain⟨w,e1,q⟩:=h.e.lent (s:=.ow d') (mem_tmp m) e;cases e1;exact q
 | tr S d'=>obtain⟨w,e1,q⟩:=h.e.lent (s:=.tr S d') (mem_tmp m) e;cases e1;exact q
 | _=>cases e
theorem Rel.lents (h:Rel K M P H0 σ0 σ env ts H):∀ {vs:List V}{ss:List Sl}{ds:List PyData},vs.length=ss.length→(∀ p∈vs.zip ss,p∈ts)→borsOf env ss=some ds→DNs K N0 H vs ds
 | [],[],_,_,_,e=>by cases e;exact .nil
 | v :: vs,s::ss,ds,hl,hm,e=>by
  unfold borsOf at e
  cases e1:borOf env s with
  | none=>rw[e1] at e;cases e
  | some d =>
   rw [e1] at e
   cases e2:borsOf env ss with
   | none=>rw[e2] at e;cases e
   | some ds' =>
    rw [e2] at e
    cases e
    exact .cons (h.lent (hm (v,s) (by simp)) e1) (h.lents (by simpa using hl) (fun p hp=>hm p (by simp[hp])) e2)
 | [],_::_,_,hl,_,_=>by simp at hl
 | _::_,[],_,hl,_,_=>by simp at hl
end
section
variable {X:Cx}{K:PySem.W.Frag}{pos p:Pos}{tl:DA}{sp:DSp}{x:Str}{k:Nat}{e:Expr}{es:List Expr}
noncomputable def dBor (i:Nat):DE:=fun env R=>∃ d,(env[i]?).bind borD=some d∧R (.vw i) env
theorem q_bor (i:Nat) {x:Str} (hN:X.N[i]? = some x:=by rfl) (hv:Vis X.env.scope x:=by first|exact Or.inl rfl|exact Or.inr (Or.inl rfl)|exact Or.inr (Or.inr rfl)) (hd:(x==("__debug__" : Str))=false:=by decide)
  (hcd:(x==("__classdict__" : Str))=false:=by decide):PE X (.Name x pos) (up K (dBor i)):=(pe_var hN hv hd hcd).imp fun σ H Q h=>by
 obtain ⟨M,P,H0,σ0,env,ts,R,rel,⟨d,e,hR⟩,hq⟩:=h
 obtain ⟨v,e1,_⟩:=rel.lentAt e
 exact ⟨v,e1,hq _ _ _ _ hR (rel.addVw e1)⟩
noncomputable def dCallV (sp:DSp) (t:DA):DE:=fun env R=>t env fun ss env1=>∃ ds,borsOf env1 ss=some ds∧sp (ds.map .fr) (dK (fun r _=>∃ d,r=.fr d∧atom d=true∧R (.fr d) env1) ⟨⟩)
theorem callV_up:∀ σ H Q,up K (dCallV sp tl) σ H Q→tCall (spD K sp) [] E0 (upA K tl) σ H Q:=fun σ H Q h=>by
 obtain ⟨M,P,H0,σ0,env,ts,R,rel,ht,hq⟩:=h
 refine ⟨M,P,H0,σ0,env,ts,_,rel,ht,fun ss env1 vs H1 h1 hl rel1=>?_⟩
 obtain ⟨ds,ek,hsp⟩:=h1
 rw [List.append_nil]
 have dns:=rel1.lents hl (fun p hp=>List.mem_append_right _ hp) ek
 have oe:=oas_fr vs ds
 refine ⟨N0,ds.map .fr,_,by simp[dns.len],argsFr dns fun a z=>z.elim,hsp,fun r ss' v H' hR hr post=>?_⟩
 obtain ⟨d,rfl,ha,hR⟩:=hR
 have k:Same H1 H':=(post.keep.mono (M:=N0) fun b z=>by
  have z:b∈oas (tmp (vs.zip (ds.map .fr))):=z
  rw [oe] at z
  cases z).none
 obtain ⟨w,e1,dn⟩:=post.fr _ _ List.mem_cons_self
 cases e1
 exact hq _ _ _ _ hR ((rel1.drop.same k).addFr (dn.atom ha))
theorem q_callV (C:Cal X.prog X.w X.K X.mg X.base x k (spD K sp)) (hr:Room k X.A) (hg:Gl X x) (ha:PA X (e::es) (upA K tl)) (hd:(x==("__debug__" : Str))=false:=by decide)
  (he:starEach (e::es) X.env=(false,eval e X.env)::starEach es X.env:=by rfl) (hpl:(backTo pos (starEach es X.env)).any (·.1)=false:=by rfl):PE X (.Call (.Name x p) (e::es) [] pos) (up K (dCallV sp tl)):=(pe_cal C hr hg ha hd he hpl).imp callV_up
end
end L2
namespace L2
open PySem PySem.Spec PyProof.Rows
section
variable {K:PySem.W.Frag}{N:Addr→Prop}{H H':Hp}
theorem OTs.split:∀ {xs:List V}{cs:List PyData}{S:List Addr}{i:Nat}{c:PyData},OTs K N H xs cs S→cs[i]? = some c→∃ x S1 Sx S2,xs[i]? = some x∧S=S1++(Sx++S2)∧OT K N H x c Sx ∧
  ∀ {N1:Addr→Prop}{H':Hp}{c':PyData}{Sx':List Addr},(∀ b o,H b=some o→N1 b→N b)→Keep N1 H H'→(∀ b∈S1,H' b=H b)→(∀ b∈S2,H' b=H b)→OT K N1 H' x c' Sx'→OTs K N1 H' xs (cs.set i c') (S1++(Sx'++S2))
 | _,_,_,_,_,.nil,h=>by simp at h
 | _,_,_,0,c,@OTs.cons _ _ _ x xs d ds S S' h q,e=>by
  have e:d=c:=by simpa using e
  subst e
  exact ⟨x,[],S,S',rfl,rfl,h,fun {N1 H' c' Sx'} m k _ k2 o=>(show OTs K N1 H' (x::xs) (c'::ds) (Sx'++S') from .cons o ((q.to m).keep k k2))⟩
 | _,_,_,i+1,c,@OTs.cons _ _ _ x xs d ds S S' h q,e=>by
  obtain ⟨y,S1,Sx,S2,e1,e2,o,f⟩:=OTs.split (i:=i) (c:=c) q (by simpa using e)
  refine ⟨y,S++S1,Sx,S2,by simpa using e1,by rw[e2];simp,o,fun {N1 H' c' Sx'} m k k1 k2 o'=>?_⟩
  have:=OTs.cons ((h.to m).keep k fun b hb=>k1 b (List.mem_append_left _ hb)) (f m k (fun b hb=>k1 b (List.mem_append_right _ hb)) k2 o')
  rw [List.append_assoc]
  exact this
end
end L2
namespace L2
open PySem PySem.Spec PyProof.Rows
section
variable {K:PySem.W.Frag}{M P N:Addr→Prop}{H0 H H':Hp}{E T A B:List Ent}{σ0 σ:St}{env:List Sl}{ts tt kp:List (V×Sl)}{v:V}{s:Sl}{d:PyData}
end
end L2
namespace L2
open PySem PySem.Spec PyProof.Rows
section
variable {X:Cx}{K:PySem.W.Frag}{pos:Pos}{M P N:Addr→Prop}{H0 H H':Hp}{σ0 σ:St}{env:List Sl}{ts:List (V×Sl)}
end
end L2
namespace L2
open PySem PySem.Spec PyProof.Rows
section
variable {X:Cx}{K:PySem.W.Frag}{pos:Pos}{M P N:Addr→Prop}{H0 H H':Hp}{σ0 σ:St}{env:List Sl}{ts:List (V×Sl)}
end
end L2
namespace L2
open PySem PySem.Spec PyProof.Rows
section
variable {K:PySem.W.Frag}{H:Hp}
theorem DVs.item:∀ {vs:List V}{ds:List PyData}{i:Nat}{c:PyData},DVs K H vs ds→ds[i]? = some c→∃ x,vs[i]? = some x∧DV K H x c
 | _,_,_,_,.nil,h=>by simp at h
 | _,_,0,_,.cons h _,e=>by simp at e;subst e;exact⟨_,rfl,h⟩
 | _,_,i+1,c,.cons _ q,e=>by
  obtain ⟨x,h1,h2⟩:=DVs.item (i:=i) (c:=c) q (by simpa using e)
  exact ⟨x,by simpa using h1,h2⟩
end
section
variable {X:Cx}{K:PySem.W.Frag}{pos:Pos}{M P N:Addr→Prop}{H0 H H':Hp}{σ0 σ:St}{env:List Sl}{ts:List (V×Sl)}
end
end L2
namespace L2
open PySem PySem.Spec PyProof.Rows
section
variable {K:PySem.W.Frag}{M P N:Addr→Prop}{H0 H H':Hp}{E T A B:List Ent}{σ0 σ:St}{env:List Sl}{ts tt kp:List (V×Sl)}{v:V}{s:Sl}{d:PyData}
end
end L2
namespace L2
open PySem PySem.Spec PyProof.Rows
section
variable {K:PySem.W.Frag}{M P N:Addr→Prop}{H0 H H':Hp}{σ0 σ:St}{env:List Sl}{ts tt kp:List (V×Sl)}{v:V}{s:Sl}{d:PyData}
end
section
variable {X:Cx}{K:PySem.W.Frag}{pos:Pos}
end
end L2
namespace L2
open PySem PySem.Spec PyProof.Rows
theorem noLs_ints (ns:List Int):noLs (ns.map PyData.int)=true:=by
 induction ns with
 | nil=>rfl
 | cons n ns ih=>exact ih
theorem range_getD {α:Type} (l:List α) (z:α):(List.range l.length).map (fun i=>l.getD i z)=l:=by
 refine List.ext_getElem (by simp) fun i h1 h2=>?_
 simp [List.getD_eq_getElem?_getD,List.getElem?_eq_getElem h2]
theorem Sh.two {n:Nat}{a b:PyData} (ha:Sh n a) (hb:Sh n b):Sh (n+1) (.tuple [a,b]):=Sh.tuple fun x hx=>by
 simp only [List.mem_cons,List.not_mem_nil,or_false] at hx
 rcases hx with rfl|rfl <;> assumption
theorem Pl.two {n:Nat}{a b:PyData} (ha:Pl n a) (hb:Pl n b):Pl (n+1) (.tuple [a,b]):=Pl.tuple (by simp) fun x hx=>by
 simp only [List.mem_cons,List.not_mem_nil,or_false] at hx
 rcases hx with rfl|rfl <;> assumption
end L2
namespace L2
open PySem PySem.Spec PyProof.Rows
section
variable {X:Cx}{K:PySem.W.Frag}{pos:Pos}{es:List Expr}{tl:DA}{e:Expr}{ta:DE}{M P N:Addr→Prop}{H0 H H':Hp}{σ0 σ:St}{env:List Sl}{ts:List (V×Sl)}
noncomputable def dLstT (t:DA):DE:=fun env R=>t env fun ss env1=>∃ ds,treesD env1 ss=some ds∧ss.length≤sizeLine∧∀ S,R (.tr S (.list ds)) env1
noncomputable def dAppT (i:Nat) (te:DE):DE:=fun env R=>(∃ S ds,env[i]? = some (.tr S (.list ds)))∧te env fun s env1=>∃ S ds s' d,env1[i]? = some (.tr S (.list ds))∧stoOf env1 s=some s'∧treeD [] s'=some d∧ds.length<sizeLine∧∀ S',R (.fr .none) (env1.set i (.tr S' (.list (ds++[d]))))
end
section
variable {K:PySem.W.Frag}{N:Addr→Prop}{H:Hp}
end
section
variable {K:PySem.W.Frag}{M P N:Addr→Prop}{H0 H H':Hp}{A B:List Ent}{σ0 σ:St}{env:List Sl}{ts:List (V×Sl)}{v v':V}{d d':PyData}{S S':List Addr}{y:Option V}
end
section
variable {X:Cx}{K:PySem.W.Frag}{pos:Pos}{M P N:Addr→Prop}{H0 H H':Hp}{σ0 σ:St}{env:List Sl}{ts:List (V×Sl)}
end
end L2
namespace L2
open PySem PySem.Spec PyProof.Rows
noncomputable def movS:Sl→Bool
 | .ow _=>true
 | .tr _ _=>true
 | .fr _=>true
 | _=>false
section
variable {X:Cx}{K:PySem.W.Frag}{pos:Pos}{M P N:Addr→Prop}{H0 H H':Hp}{σ0 σ:St}{env:List Sl}{ts:List (V×Sl)}{v:V}
theorem Rel.move {i:Nat}{s:Sl} (h:Rel K M P H0 σ0 σ env ts H) (e:env[i]? = some s) (hs:movS s=true):∃ v,σ[i]? = some (some v)∧Rel K M P H0 σ0 σ (env.set i .un) (ts++[(v,s)]) H:=by
 obtain ⟨x,A,B,e1,q1,q2⟩:=h.split e
 have hE:=h.e
 rw [q1] at hE
 obtain ⟨v,ev⟩:∃ v,x=some v:=by
  cases s with
  | fr d=>obtain⟨v,ev,_⟩:=hE.fr _ _ (List.mem_append_right _ List.mem_cons_self);exact⟨v,ev⟩
  | ow ds=>obtain⟨a,vs,ev,_⟩:=hE.ow _ _ (List.mem_append_right _ List.mem_cons_self);exact⟨_,ev⟩
  | tr S d=>obtain⟨v,ev,_⟩:=hE.tr _ _ _ (List.mem_append_right _ List.mem_cons_self);exact⟨v,ev⟩
  | _=>cases hs
 subst ev
 refine ⟨v,e1,?_⟩
 have en:ents σ (env.set i .un) (ts++[(v,s)])=(A++(some v,Sl.un)::B)++[(some v,s)]:=by rw[ents_app,q2];rfl
 have oe:oas ((A++(some v,Sl.un)::B)++[(some v,s)])=oas A++(oas B++own1 (some v,s)):=by
  rw [oas_app,oas_app,oas_cons,own1_un,oas_cons]
  simp [oas]
 refine ⟨?_,by simp[h.len],fun w j m=>?_,fun j l' e'=>?_⟩
 ·rw [en]
  refine hE.sub (fun x t m=>?_) ?_
  ·rcases List.mem_append.mp m with m|m
   ·rcases List.mem_append.mp m with m|m
    ·exact .inl (List.mem_append_left _ m)
    ·rcases List.mem_cons.mp m with m|m
     ·cases m;exact .inr (.inl rfl)
     ·exact .inl (List.mem_append_right _ (List.mem_cons_of_mem _ m))
   ·rw [List.mem_singleton] at m
    cases m
    exact .inl (List.mem_append_right _ List.mem_cons_self)
  ·have nd:=hE.nd
   rw [oas_app,oas_cons] at nd
   rw [oe]
   exact (List.Perm.append_left _ List.perm_append_comm).nodup_iff.mpr nd
 ·rcases List.mem_append.mp m with m|m
  ·exact h.vw w j m
  ·rw [List.mem_singleton] at m
   cases m
   cases hs
 ·by_cases hj:i=j
  ·subst hj
   rw [List.getElem?_set_self (List.getElem?_eq_some_iff.mp e).1] at e'
   cases e'
  ·rw [List.getElem?_set_ne hj] at e'
   exact h.ios j l' e'
noncomputable def dMov (i:Nat):DE:=fun env R=>∃ s,env[i]? = some s∧movS s=true∧R s (env.set i .un)
end
end L2
namespace L2
open PySem Builtin Builtin.Str StrLaws PySem.NumText PySem.W
noncomputable def num (n:Int):Str:=Str.ofString (toString n)
noncomputable def NB (ns:List Int):Prop:=ns.length≤100∧∀ n∈ns,0≤n∧n<10 ^ 40
theorem NB.log {ns:List Int} (h:NB ns) {n:Int} (hn:n∈ns):n.natAbs.log2<1920:=by
 obtain ⟨h0,h1⟩:=h.2 n hn
 have:n.natAbs<2 ^ 1920:=Nat.lt_of_lt_of_le (m:=10 ^ 40) (by omega) (by decide +kernel)
 by_cases z:n.natAbs=0
 ·rw [z];decide
 ·exact (Nat.log2_lt z).mpr this
end L2
namespace L2
open PySem Builtin Builtin.Str StrLaws
end L2
namespace L2
open PySem PySem.Spec PyProof.Rows
section
variable {X:Cx}{K:PySem.W.Frag}
noncomputable def gCatS:G2:=fun d e R=>∃ a b:Str,d=.str a∧e=.str b∧a.length+b.length≤1000000∧R (.str (a++b))
noncomputable def gInS:G2:=fun d e R=>∃ a b:Str,d=.str a∧e=.str b∧R (.bool (!(Builtin.Str.occurrences b a 0 b.length 1).isEmpty))
noncomputable def gLenS:GB:=fun ds R=>∃ a:Str,ds=[.str a]∧a.length≤1000000∧R (.int a.length)
noncomputable def gStr:GB:=fun ds R=>∃ i:Int,ds=[.int i]∧i.natAbs.log2<1920∧R (.str (Str.ofString (toString i)))
noncomputable def gIntS:GB:=fun ds R=>∃ (a:Str) (n:Int),ds=[.str a]∧PySem.intText? a=some n∧a.length≤640∧R (.int n)
end
section
variable {X:Cx}{K:PySem.W.Frag}{pos:Pos}{e o:Expr}{ta to:DE}{M P N:Addr→Prop}{H0 H H':Hp}{σ0 σ:St}{env:List Sl}{ts:List (V×Sl)}
noncomputable def gIxS:G2:=fun d e R=>∃ (a:Str) (i:Int) (c:Nat),d=.str a∧e=.int i∧a.length≤1000000∧atI a.cps.toList i=some c∧R (.str ⟨#[c]⟩)
theorem DNs.strs {v:List V}{ys:List Str} (h:DNs K N H v (ys.map .str)):v=ys.map V.str:=by
 induction ys generalizing v with
 | nil=>cases h;rfl
 | cons y ys ih =>
  cases h with
  | cons h q=>cases h;rw[ih q];rfl
noncomputable def dJoin (to ta:DE):DE:=fun env R=>to env fun s env1=>∃ a,valOf env1 s=some (.str a)∧ta env1 fun s2 env2=>∃ ys:List Str,valOf env2 s2=some (.list (ys.map .str))∧(ys.map (·.length)).sum+ys.length*a.length≤1000000∧R (.fr (.str (Str.join a ys))) env2
noncomputable def dSplit (to ta:DE):DE:=fun env R=>to env fun s env1=>∃ a,valOf env1 s=some (.str a)∧ta env1 fun s2 env2=>∃ b,valOf env2 s2=some (.str b)∧(b.length==0)=false∧a.length≤100000∧R (.ow ((Txt.split a b).map .str)) env2
noncomputable def dIStr (te:DE):DI:=fun env RR=>te env fun s env1=>∃ a:Str,valOf env1 s=some (.str a)∧a.cps.all (·<128)=true∧RR (a.cps.toList.map fun c=>.str ⟨#[c]⟩) env1
noncomputable def dNever:DS:=fun _ _=>False
theorem isK_ss (x:Str):isK "str" (.str x)=true:=rfl
theorem isK_is (x:Str):isK "int" (.str x)=false:=rfl
theorem eqv_str (a b:Str):PyData.eqv (.str a) (.str b)=decide (a=b):=by
 show (a==b)=_
 rfl
theorem isK_ls (x:Str):isK "list" (.str x)=false:=rfl
end
end L2
namespace L2
open PySem PySem.Spec PyProof.Rows
section
variable {X:Cx}{K:PySem.W.Frag}{pos:Pos}{M P N:Addr→Prop}{H0 H H':Hp}{σ0 σ:St}{env:List Sl}{ts:List (V×Sl)}
mutual
theorem DV.same (k:Same H H'):∀ {v:V}{d:PyData},DV K H v d→DV K H' v d
 | _,_,.non=>.non
 | _,_,.bl b=>.bl b
 | _,_,.int i=>.int i
 | _,_,.str x=>.str x
 | _,_,.lst h q=>.lst (h.keep k) (DVs.same k q)
 | _,_,.tup h q=>.tup (h.keep k) (DVs.same k q)
 | _,_,.exc h q=>.exc (k _ _ h) (k _ _ q)
 | _,_,.dct h q r e=>.dct (k _ _ h) (DVs.same k q) (DVs.same k r) e
 | _,_,.fz h=>.fz (DV.same k h)
theorem DVs.same (k:Same H H'):∀ {v:List V}{d:List PyData},DVs K H v d→DVs K H' v d
 | _,_,.nil=>.nil
 | _,_,.cons h q=>.cons (DV.same k h) (DVs.same k q)
end
theorem DVs.drop:∀ {vs:List V}{ds:List PyData} (n:Nat),DVs K H vs ds→DVs K H (vs.drop n) (ds.drop n)
 | _,_,0,q=>q
 | _,_,_+1,.nil=>.nil
 | _,_,n+1,.cons _ q=>DVs.drop n q
end
end L2
namespace L2
open PySem PySem.Spec PyProof.Rows
section
variable {X:Cx}{K:PySem.W.Frag}{pos:Pos}{M P N:Addr→Prop}{H0 H H':Hp}{σ0 σ:St}{env:List Sl}{ts:List (V×Sl)}
theorem RelE.grow {A B T:List Ent}{v:V}{S S':List Addr}{d d':PyData}{a:Addr}{us:List V} (h:RelE K M P H0 (A++(some v,.tr S d)::(B++T)) H) (ma:a∈S) (pm:S'.Perm (S++oas T)) (hT:∀ a∈oas T,H0 a=none)
  (ot':OT K (Nw M (A++(some v,.tr S d)::(B++T))) (upd H a (.lst us)) v d' S'):RelE K M P H0 (A++(some v,.tr S' d')::B) (upd H a (.lst us)):=by
 obtain ⟨v',ev,ot,h0⟩:=h.tr _ _ _ (List.mem_append_right _ List.mem_cons_self)
 cases ev
 have oe:oas (A++(some v,Sl.tr S d)::(B++T))=oas A++(S++(oas B++oas T)):=by rw[oas_app,oas_cons,own1_tr,oas_app]
 have nd:=h.nd
 rw [oe] at nd
 obtain ⟨n1,n2,n3⟩:=List.nodup_append.mp nd
 obtain ⟨n4,n5,n6⟩:=List.nodup_append.mp n2
 obtain ⟨n7,n8,n9⟩:=List.nodup_append.mp n5
 have na:Nw M (A++(some v,Sl.tr S d)::(B++T)) a:=.inr (by rw[oe];exact List.mem_append_right _ (List.mem_append_left _ ma))
 have kN:Keep (Nw M (A++(some v,Sl.tr S d)::(B++T))) H (upd H a (.lst us)):=Keep.own na
 have oe2:oas (A++(some v,Sl.tr S' d')::B)=oas A++(S'++oas B):=by rw[oas_app,oas_cons,own1_tr]
 have pm2:(oas A++(S'++oas B)).Perm (oas A++(S++(oas B++oas T))):=by
  refine List.Perm.append_left _ ((List.Perm.append_right _ pm).trans ?_)
  rw [List.append_assoc]
  exact List.Perm.append_left _ List.perm_append_comm
 have ne:Nw M (A++(some v,Sl.tr S' d')::B)=Nw M (A++(some v,Sl.tr S d)::(B++T)):=by
  funext b
  apply propext
  unfold Nw
  rw [oe,oe2,pm2.mem_iff]
 have back:∀ x t,(x,t)∈A∨(x,t)∈B→(x,t)∈A++(some v,Sl.tr S d)::(B++T):=fun x t m=>by
  rcases m with m|m
  ·exact List.mem_append_left _ m
  ·exact List.mem_append_right _ (List.mem_cons_of_mem _ (List.mem_append_left _ m))
 have old:∀ x t,(x,t)∈A++(some v,Sl.tr S' d')::B→(x,t)=(some v,Sl.tr S' d')∨((x,t)∈A∨(x,t)∈B):=fun x t m=>by
  rcases List.mem_append.mp m with m|m
  ·exact .inr (.inl m)
  ·rcases List.mem_cons.mp m with m|m
   ·exact .inl m
   ·exact .inr (.inr m)
 have other:∀ x t b,(x,t)∈A∨(x,t)∈B→b∈own1 (x,t)→b≠a:=fun x t b m eo z=>by
  subst z
  rcases m with m|m
  ·exact n3 b (mem_oas.mpr ⟨_,m,eo⟩) b (List.mem_append_left _ ma) rfl
  ·exact n6 b ma b (List.mem_append_left _ (mem_oas.mpr ⟨_,m,eo⟩)) rfl
 refine ⟨h.keep.put (h0 a ma),fun b q z=>?_,h.mt,h.pm,fun x d' m=>?_,fun x d' m=>?_,fun x d' m=>?_,fun x S2 d' m=>?_,?_⟩
 ·by_cases hb:b=a
  ·subst hb;rw[upd_same] at z;cases z
  ·rw [upd_ne hb] at z;exact h.live b q z
 ·rw [ne]
  rcases old _ _ m with m|m
  ·cases m
  ·obtain ⟨w',e1,dn⟩:=h.fr x d' (back _ _ m)
   exact ⟨w',e1,dn.keep kN⟩
 ·rw [ne]
  rcases old _ _ m with m|m
  ·cases m
  ·obtain ⟨b,us2,e1,e2,dn,r2⟩:=h.ow x d' (back _ _ m)
   subst e1
   exact ⟨b,us2,rfl,by rw[upd_ne (other _ _ b m (List.mem_singleton.mpr rfl))];exact e2,dn.keep kN,r2⟩
 ·rw [ne]
  rcases old _ _ m with m|m
  ·cases m
  ·obtain ⟨b,us2,e1,e2,dn,r2⟩:=h.io x d' (back _ _ m)
   subst e1
   exact ⟨b,us2,rfl,by rw[upd_ne (other _ _ b m (List.mem_singleton.mpr rfl))];exact e2,dn.keep kN,r2⟩
 ·rw [ne]
  rcases old _ _ m with m|m
  ·cases m
   refine ⟨v,rfl,ot',fun b hb=>?_⟩
   rcases List.mem_append.mp (pm.mem_iff.mp hb) with z|z
   ·exact h0 b z
   ·exact hT b z
  ·obtain ⟨w',e1,dn,r2⟩:=h.tr x S2 d' (back _ _ m)
   subst e1
   exact ⟨w',rfl,dn.keep kN fun b hb=>upd_ne (other _ _ b m (by rw[own1_tr];exact hb)),r2⟩
 ·rw [oe2]
  exact pm2.nodup_iff.mpr nd
end
end L2
namespace L2
open PySem PySem.Spec PyProof.Rows
section
variable {X:Cx}{K:PySem.W.Frag}{pos:Pos}{N':List Str}{ix:List (Option Nat)}{it:DI}{g:DG}{tt:DT}{te:DE}{tg iter elt:Expr}{ifs:List Expr}
end
end L2
namespace L2
open PySem PySem.Spec PyProof.Rows
section
variable {prog:Program}{w:World}{A:Around}{E:Value→Shared→Prop}{s:Shared}
end
section
variable {X:Cx}{K:PySem.W.Frag}{pos:Pos}{es:List Expr}
noncomputable def dgLst (n:Nat) (gs:DGs):DG:=fun d env R=>∃ ds,d=.list ds∧ds.length=n∧gs ds env R
end
end L2
namespace L2
open PySem PySem.Spec PyProof.Rows
noncomputable def constI:Expr→Option Int
 | .Constant (.int c) _ _=>some c
 | _=>none
noncomputable def constsI:List Expr→Option (List Int)
 | []=>some []
 | e::es=>(constI e).bind fun c=>(constsI es).map (c::·)
section
variable {X:Cx}{K:PySem.W.Frag}{pos:Pos}{N:Addr→Prop}{H:Hp}
theorem pa_consts:∀ {es:List Expr}{ns:List Int},constsI es=some ns→PA X es (fun σ H Q=>Q (ns.map V.int) H)
 | [],ns,h=>by
  cases h
  exact pa_nil
 | e :: es,ns,h=>by
  unfold constsI at h
  cases e1:constI e with
  | none=>rw[e1] at h;cases h
  | some c =>
   rw [e1] at h
   cases e2:constsI es with
   | none=>rw[e2] at h;cases h
   | some ms =>
    rw [e2] at h
    cases h
    have:∃ j p,e=.Constant (.int c) j p:=by
     unfold constI at e1
     split at e1
     ·cases e1
      exact ⟨_,_,rfl⟩
     ·cases e1
    obtain ⟨j,p,rfl⟩:=this
    exact pa_cons pe_int (pa_consts e2) rfl
theorem DNs.ofInts (ns:List Int):DNs K N H (ns.map V.int) (ns.map .int):=by
 induction ns with
 | nil=>exact .nil
 | cons y ys ih=>exact .cons (.int y) ih
noncomputable def dInts (ns:List Int):DE:=fun env R=>R (.ow (li ns)) env
theorem q_ints {es:List Expr}{ns:List Int} (h:constsI es=some ns) (hz:ns.length≤1000):PE X (.List es pos) (up K (dInts ns)):=(pe_lst (pa_consts h)).imp fun σ H Q h=>by
 obtain ⟨M,P,H0,σ0,env,ts,R,rel,ht,hq⟩:=h
 exact ⟨by rw[List.length_map];exact Nat.le_trans (by omega) line_big,fun p hp=>hq _ _ _ _ ht (rel.addOw hp (DNs.ofInts ns))⟩
end
end L2
namespace L2
open PySem PySem.Spec PyProof.Rows
section
variable {X:Cx}{K:PySem.W.Frag}{pos ip lp p':Pos}{c:Expr}{tc:DT}
theorem sw_list {es:List Expr}{p p':Pos}{x:Str}{l:Nat}{env:Env}:swapsWith (.List es p) (some (.Name x p')) l env=pure false:=rfl
noncomputable def dFz (i:Nat) (u:DS):DS:=fun DD env=>∃ ds,env[i]? = some (.ow ds)∧u DD (env.set i (.fr (.list ds)))
end
end L2
namespace L2
open PySem PySem.W PyProof.Rows
noncomputable def KAll {α:Type} (n:Nat) (P:α→Prop):KasT α→Prop
 | .ret a=>P a
 | .ask i j k=>i<n∧j<n∧∀ b,KAll n P (k b)
theorem KAll.bind {α β:Type}{n:Nat}{P:α→Prop}{R:β→Prop}{f:α→KasT β} (hf:∀ a,P a→KAll n R (f a)):∀ {t:KasT α},KAll n P t→KAll n R (t.bind f)
 | .ret a,h=>hf a h
 | .ask i j k,h=>⟨h.1,h.2.1,fun b=>KAll.bind hf (h.2.2 b)⟩
theorem KAll.mono {α:Type}{n:Nat}{P R:α→Prop} (hf:∀ a,P a→R a):∀ {t:KasT α},KAll n P t→KAll n R t
 | .ret a,h=>hf a h
 | .ask i j k,h=>⟨h.1,h.2.1,fun b=>KAll.mono hf (h.2.2 b)⟩
noncomputable def Pn (n:Nat) (p:Array Nat):Prop:=p.Perm (List.range n).toArray
theorem Pn.rev {n i j:Nat}{p:Array Nat} (h:Pn n p):Pn n (kas_rev p i j):=(mirror_perm _ _ _ _).trans h
theorem Pn.bub {n i j:Nat}{p:Array Nat} (h:Pn n p):Pn n (bubble p i j):=(bubble_perm _ _ _).trans h
theorem Pn.list {n:Nat}{p:Array Nat} (h:Pn n p):p.toList.Perm (List.range n):=by
 have:=Array.perm_iff_toList_perm.mp h
 simpa using this
theorem Pn.lt {n:Nat}{p:Array Nat} (h:Pn n p) (h1:1≤n) (k:Nat):p.getD k 0<n:=by
 by_cases hk:k<p.size
 ·have e:p.getD k 0=p[k]:=by simp[Array.getD,hk]
  rw [e]
  have m:p[k]∈p.toList:=by simp
  exact List.mem_range.mp (h.list.mem_iff.mp m)
 ·have e:p.getD k 0=0:=by simp[Array.getD,hk]
  omega
section
variable {n:Nat}{p:Array Nat} (h1:1≤n)
include h1
theorem asc_all (h:Pn n p):∀ (f k:Nat),KAll n (fun _=>True) (kas_asc p f k)
 | 0,k=>trivial
 | f+1,k=>⟨h.lt h1 _,h.lt h1 _,fun b=>by
  cases b with
  | true=>exact trivial
  | false=>exact asc_all h f (k+1)⟩
theorem desc_all:∀ (f:Nat) (p:Array Nat) (k q:Nat),Pn n p→KAll n (fun r=>Pn n r.1) (kas_desc f p k q)
 | 0,p,k,q,h=>h
 | f + 1,p,k,q,h=>⟨h.lt h1 _,h.lt h1 _,fun b=>by
  cases b with
  | true =>
   show KAll n _ (if q>0 then _ else _)
   split
   ·exact desc_all f _ _ _ h.rev
   ·exact desc_all f _ _ _ h
  | false =>
   refine ⟨h.lt h1 _,h.lt h1 _,fun d=>?_⟩
   cases d with
   | true=>exact h
   | false=>exact desc_all f _ _ _ h⟩
theorem tail3_all {k r:Nat} (h:Pn n p):KAll n (fun r=>Pn n r.2) (kas_tail3 k r p):=by
 unfold kas_tail3
 refine KAll.bind (P:=fun _=>True) (fun m _=>?_) (asc_all h1 h.rev _ _)
 exact (h.rev:Pn n (kas_rev p 0 k))
theorem descPart_all {k r:Nat} (h:Pn n p):KAll n (fun r=>Pn n r.2) (kas_descPart k r p):=(desc_all h1 _ _ _ _ h).bind fun a ha=>by
 show KAll n _ (if a.2.2>0 then _ else _)
 split
 ·exact tail3_all h1 (Pn.rev ha)
 ·exact tail3_all h1 ha
theorem count_all {r:Nat} (h:Pn n p):KAll n (fun r=>Pn n r.2) (kas_count r p):=(asc_all h1 h _ _).bind fun k _=>by
 show KAll n _ (if (k==r)=true then _ else _)
 split
 ·exact h
 ·split
  ·refine ⟨h.lt h1 _,h.lt h1 _,fun b=>?_⟩
   cases b with
   | true=>exact h
   | false=>exact descPart_all h1 h.rev
  ·exact descPart_all h1 h
theorem place_all (h:Pn n p) (k:Nat):∀ f l r,KAll n (fun _=>True) (kas_place p k f l r)
 | 0,l,r=>trivial
 | f + 1,l,r=>by
  show KAll n _ (if l≥r then _ else _)
  split
  ·exact trivial
  ·refine ⟨h.lt h1 _,h.lt h1 _,fun b=>?_⟩
   cases b with
   | true=>exact place_all h k f _ _
   | false=>exact place_all h k f _ _
theorem bin_all:∀ (f:Nat) (p:Array Nat) (k:Nat),Pn n p→KAll n (Pn n) (kas_bin f p k)
 | 0,p,k,h=>h
 | f+1,p,k,h=>(place_all h1 h _ _ _ _).bind fun l _=>bin_all f _ _ h.bub
theorem sort_all:KAll n (Pn n) (kas_sort n):=(count_all h1 (p:=(List.range n).toArray) (Array.Perm.refl _)).bind fun r hr=>by
 show KAll n _ (if r.1<n then _ else _)
 split
 ·exact bin_all h1 _ _ _ hr
 ·exact hr
end
end L2
namespace L2
open PySem PySem.Spec PyProof.Rows PySem.W
open PySem.SeqAt PySem.MeetsSeq PySem.MeetsSeq2 PySem.MeetsSeq3 PySem.SeqRoads2
open PySem.AutoSeq1 (wpAny_loadPart')
theorem lt_loopAt (l b:Addr) (items items2:Array Value) (n n2:Nat) (dd dd2:Option Addr) (sl sl2:Array (Option Value)) (at1:∀ j (h:j<items.size),∃ x t,items[j]=Value.int x t) (at2:∀ j (h:j<items2.size),∃ x t,items2[j]=Value.int x t) (k:Nat) :
  ∀ i : Nat,items.size - i=k→Meets (Builtin.«list.__eq__.loop» ⟨[.ref l,.ref b,rawInt i,rawInt 0],[]⟩)
   (fun A R s=>s.heap.get? l=some { cls:=.type "list",dict:=dd,data:=.seq items n,slots:=sl }∧s.heap.get? b=some { cls:=.type "list",dict:=dd2,data:=.seq items2 n2,slots:=sl2 } ∧
    ∀ c:Bool,R (.ok (.ret (.bool c))) s):=by
 induction k with
 | zero =>
  intro i hk prog w A R s h
  obtain ⟨hp,g,d,tk,os⟩:=s;obtain⟨hl,hb,h⟩:=h
  wp_walk using wpAny_loadPart' hl,wpAny_loadPart' hb
  have hi1:items[((i:Nat):Int).toNat]? = none:=by simp;omega
  rw [hi1]
  wp_walk using wpAny_loadPart' hl,wpAny_loadPart' hb
  exact h _
 | succ k ih =>
  intro i hk prog w A R s h
  obtain ⟨hp,g,d,tk,os⟩:=s;obtain⟨hl,hb,h⟩:=h
  wp_walk using wpAny_loadPart' hl,wpAny_loadPart' hb
  have hlt:i<items.size:=by omega
  have hi1:items[((i:Nat):Int).toNat]? = some items[i]:=by simp[hlt]
  have hc:((i:Int)+1)=((i+1:Nat):Int):=by push_cast;rfl
  rw [hi1]
  by_cases hlt2:i<items2.size
  ·have hi2:items2[((i:Nat):Int).toNat]? = some items2[i]:=by simp[hlt2]
   rw [hi2]
   obtain ⟨x,t,e1⟩:=at1 i hlt
   obtain ⟨y,u,e2⟩:=at2 i hlt2
   rw [e1,e2]
   refine wpAny_bind (wpAny_eqBool_int ?_)
   cases hb':(x==y) with
   | true =>
    wp_walk
    rw [hc]
    exact ⟨plainId_quiet plain_eq_loop _,codeAny_builtin entry_eq_loop (by
     rw [Around.under_plainId plain_eq_loop _]
     exact ih (i+1) (by omega) prog w A R _ ⟨hl,hb,h⟩)⟩
   | false =>
    wp_walk using wpAny_loadPart' hl,wpAny_loadPart' hb
    rw [hi1,hi2,e1,e2]
    refine wpAny_bind (show wpAny (model prog w) A.in1 (compareOp .Lt (.int x t) (.int y u)) _ _ _ from wpAny_lt_int (wpAny_pure (h _)))
  ·have hi2:items2[((i:Nat):Int).toNat]? = none:=by simp;omega
   rw [hi2]
   wp_walk using wpAny_loadPart' hl,wpAny_loadPart' hb
   exact h _
theorem list_ltAt (l b:Addr) (items items2:Array Value) (n n2:Nat) (dd dd2:Option Addr) (sl sl2:Array (Option Value)) (at1:∀ j (h:j<items.size),∃ x t,items[j]=Value.int x t) (at2:∀ j (h:j<items2.size),∃ x t,items2[j]=Value.int x t) :
  Meets (Builtin.«list.__lt__» ⟨[.ref l,.ref b],[]⟩)
   (fun A R s=>s.heap.get? l=some { cls:=.type "list",dict:=dd,data:=.seq items n,slots:=sl }∧s.heap.get? b=some { cls:=.type "list",dict:=dd2,data:=.seq items2 n2,slots:=sl2 } ∧
    ∀ c:Bool,R (.ok (.ret (.bool c))) s):=by
 intro prog w A R s h
 obtain ⟨hp,g,d,tk,os⟩:=s;obtain⟨hl,hb,h⟩:=h
 have f3:=AutoSeq1.sub_list_list
 wp_walk using wpAny_loadPart' hl,wpAny_loadPart' hb
 exact ⟨plainId_quiet plain_eq_loop _,codeAny_builtin entry_eq_loop (by
  rw [Around.under_plainId plain_eq_loop _]
  exact lt_loopAt l b items items2 n n2 dd dd2 sl sl2 at1 at2 _ 0 rfl prog w A R _ ⟨hl,hb,h⟩)⟩
section
variable {prog:Program}{w:World}{A:Around}{E:Value→Shared→Prop}{s:Shared}
noncomputable def KeyOk (prog:Program) (w:World) (A:Around) (vs:List Value) (s:Shared):Prop :=
 wpAny (model prog w) A (keyKind' vs.toArray) (fun κ s'=>s'=s∧∀ i j (C:Bool→Shared→Prop),i<vs.length→j<vs.length→(∀ b,C b s)→kas_ask prog w A κ vs i j C s) (fun _ _=>False) s
end
end L2
namespace L2
open PySem PySem.Spec PyProof.Rows PySem.W
noncomputable def KeyV (h:Heap) (v:Value):Prop:=∃ (a:Addr) (o:Obj) (n:Nat) (x:Int) (t:Tok) (l:Addr) (its:Array Value) (ns:List Int) (as:List Addr),v=.ref a∧h.get? a=some o∧o.cls=.type "tuple" ∧ o.data=.seq #[.int x t,.ref l] n∧h.IsList l its∧(∀ j (h:j<its.size),∃ x t,its[j]=Value.int x t)∧Reads h (.ref l) (.list (ns.map PyData.int)) as
noncomputable def isKey (d:PyData):Prop:=∃ (n:Int) (ns:List Int),d=.tuple [.int n,.list (ns.map .int)]
section
variable {X:Cx}{pins:List (Addr×Obj)}{σ:St}{H:Hp}{s:Shared}
theorem key_ints:∀ {ns:List Int}{vs:List V}{us:List Value},DVs X.K H vs (ns.map .int)→Vals vs us→∀ j (h:j<us.length),∃ x t,us[j]=Value.int x t
 | [],_,_,.nil,.nil,j,h=>by simp at h
 | n::ns,_,_,.cons d q,.cons r t,0,h=>by
  cases d
  obtain ⟨t,rfl⟩:=r
  exact ⟨_,_,rfl⟩
 | n::ns,_,_,.cons d q,.cons r t,j+1,h=>by
  obtain ⟨x,u,e⟩:=key_ints q t j (by simpa using h)
  exact ⟨x,u,by simpa using e⟩
end
section
variable {prog:Program}{w:World}{A:Around}{s:Shared}
end
section
variable {X:Cx}{K:PySem.W.Frag}
noncomputable def dSrt (t:DA):DE:=fun env R=>t env fun ss env1=>∃ s ds,ss=[s]∧valOf env1 s=some (.list ds)∧(∀ d∈ds,isKey d)∧ds.length<64∧∀ es:List PyData,es.Perm ds→R (.ow es) env1
variable {e:Expr}{p pos:Pos}{tl:DA}
end
end L2
namespace L2
open PySem PySem.Spec PyProof.Rows PySem.W
section
variable {X:Cx}{K:PySem.W.Frag}{e o:Expr}{pos p2:Pos}
variable {ta to:DE}{tl:DA}
noncomputable def dStep (te:DE):DE:=fun env R=>te env fun s env1=>∃ ds,valOf env1 s=some (.list ds)∧∀ es:List PyData,(∀ x∈es,x∈ds)→es.length≤ds.length→R (.ow es) env1
noncomputable def dIndex (to ta:DE):DE:=fun env R=>to env fun s env1=>∃ es ns,valOf env1 s=some (.list es)∧intsOf es=some ns∧ta env1 fun s2 env2=>∃ i,valOf env2 s2=some (.int i)∧valOf env2 s=some (.list es)∧i∈ns∧ns.length≤1000000∧∀ j:Nat,j<ns.length→R (.fr (.int j)) env2
end
end L2
namespace L2
open PySem PySem.Spec PyProof.Rows PySem.W PySem.Calls
section
variable {prog:Program}{w:World}{A:Around}{R:Result→Shared→Prop}{I:Addr}{fp wr:List Addr}{n:Nat}{P:Nat→Value→Prop}{St:Nat→Heap→Prop}
end
section
variable {X:Cx}{K:PySem.W.Frag}{e:Expr}{tl:DA}{p pos kpos p3:Pos}
noncomputable def dMinD (t:DA):DE:=fun env R=>t env fun ss env1=>∃ s es ns,ss=[s]∧valOf env1 s=some (.list es)∧intsOf es=some ns∧∀ m:Int,R (.fr (.int m)) env1
end
end L2
namespace L2
open PySem PySem.Spec PyProof.Rows
section
variable {ds:List PyData}{ix:List (Option Nat)}{g:DG}{tt:DT}{te:DE}{env:List Sl}{R:Sl→List Sl→Prop}
end
end L2
namespace L2
open PySem PySem.Spec PyProof.Rows PySem.W
section
variable {CX:CXT}{P:Program}{w:World}{K:PySem.W.Frag}{mg:Str→Option Value}{base:Heap}{k:Nat}{f c':Addr}{qual:Str}{params:Arguments}{body:Expr}{scope:Scope}{pm ctv:Value}{N ps:List Str}
 {A : Around}{outer:List Env}{s:Shared}{H:Hp}{us:List Value}{vs:List V}{Q:VK}{E:XK}{t:TE}
end
theorem among_snoc {pos:Pos}{a b:Int}{c cv:Value} (l:List Value) (h:TriplesOk l) (hn:codeAmong pos (l++[rawInt a,rawInt b,c])=some cv):codeAmong pos l=some cv∨cv=c:=by
 fun_induction TriplesOk l with
 | case1 =>
  simp only [List.nil_append,codeAmong,rawInt] at hn
  split at hn
  ·cases hn;exact .inr rfl
  ·cases hn
 | case2 a' t b' u x rest ih =>
  simp only [List.cons_append,codeAmong] at hn ⊢
  split at hn
  ·rename_i hc
   rw [if_pos hc]
   exact .inl hn
  ·rename_i hc
   rw [if_neg hc]
   exact ih h hn
 | case3 l h1 h2=>exact h.elim
noncomputable def CodeFz (H:Hp) (c:Addr) (q:Str):Prop:=∃ oc u vs t,H c=some (.frz oc u)∧oc.data=.fields vs∧vs[1]? = some (.str q t)
noncomputable def LamAt (X:Cx):Prop:=∃ c T,X.env.code=.ref c∧CodeHd X.base c T∧LamTab X.K T (X.env.qual ++ "<lambda>")
section
variable {X:Cx}{pins:List (Addr×Obj)}{σ:St}{H:Hp}{s:Shared}
theorem Inv.grow (I:Inv X pins σ H s) {T c':Addr}{q:Str}{h':Heap}{oc:Obj}{vs:Array Value}{t:Tok}{tk:Nat} (hT:H T=some (.tbl q)) (hx:Heap.ExtBut T s.heap h') (hc:s.heap.objs.size≤c') (ho:h'.get? c'=some oc) (hd:oc.data=.fields vs) (hv:vs[1]? = some (.str q t))
  (ht:TabOk (upd H c' (.frz oc (.own 0))) h' T q):Inv X pins σ (upd H c' (.frz oc (.own 0))) { s with heap:=h',toks:=tk }∧Same H (upd H c' (.frz oc (.own 0))):=by
 have hn:H c'=none:=I.hok.fresh hc
 have hTs:T<s.heap.objs.size:=I.hok.lt hT
 have hTc:T≠c':=Nat.ne_of_lt (Nat.lt_of_lt_of_le hTs hc)
 obtain ⟨ps',eT,_⟩:=id ht
 refine ⟨I.un (t':=tk) ⟨fun b o e n _ _=>?_,fun b o e n _ _=>⟨o.slots,?_⟩,fun b o e n _=>?_,fun b o e _=>?_,fun b xs e=>?_,fun b o u e=>?_,fun b q e=>?_⟩ (fun b u e=>?_),fun b o e=>by rw[upd_ne (ne_of_none e hn)];exact e⟩
 ·exact hx b o (fun z=>by rw[z,hT] at n;cases n) e
 ·exact hx b o (fun z=>by rw[z,hT] at n;cases n) e
 ·rw [upd_ne (Nat.ne_of_lt (Nat.lt_of_lt_of_le (Heap.lt_size e) hc))];exact n
 ·by_cases z:b=T
  ·subst z;exact⟨_,eT⟩
  ·exact ⟨o,hx b o z e⟩
 ·rw [upd_ne (ne_of_none e hn)];exact e
 ·rw [upd_ne (ne_of_none e hn)];exact e
 ·rw [upd_ne (ne_of_none e hn)];exact e
 ·by_cases hb:b=c'
  ·subst hb
   rw [upd_same] at e
   cases e
   exact ⟨ho,_,ho⟩
  ·rw [upd_ne hb] at e
   by_cases hbT:b=T
   ·subst hbT
    rw [hT] at e
    cases e
    exact ht
   ·refine (I.hok b u e).stay (fun c v hc' q=>hx c v ?_ q) (fun c q=>by rw[upd_ne (ne_of_none q hn)];exact q) fun c o _ q=>by rw[upd_ne (ne_of_none q hn)];exact q
    rcases hc' with z|z
    ·rw [z];exact hbT
    ·exact fun z'=>by rw[z',hT] at z;cases z
variable {params:Arguments}{body:Expr}{scope:Scope}{pos:Pos}{E:Value→Shared→Prop}
end
end L2
namespace L2
open PySem PySem.Spec PyProof.Rows PySem.W
section
variable {X:Cx}{pins:List (Addr×Obj)}{σ:St}{H:Hp}{s:Shared}{params:Arguments}{scope:Scope}{p1 p2 p3 p4 p5:Pos}{kk:Nat}{f c':Addr}{qual:Str}{pm ctv:Value}{k:Nat}{A:Around}
noncomputable def KeyEnd (X:Cx) (pins:List (Addr×Obj)) (σ:St) (H:Hp) (s:Shared) (d:PyData) (u:Value) (s':Shared):Prop :=
 ∃ H' v,Inv X pins σ H' s'∧Same H H'∧RelV v u∧DN X.K N0 H' v d∧∀ b o,FpOk X pins H b→s.heap.get? b=some o→s'.heap.get? b=some o∧H' b=none
end
section
variable {X:Cx}{pins:List (Addr×Obj)}{σ:St}{H0:Hp}{f:Value}{vs:List Value}{A:Around}{E:Value→Shared→Prop}{a kS:Addr}
theorem fp_call {H H':Hp}{b:Addr} (h:FpOk X pins H b) (n:H' b=none):FpOk X pins H' b:=⟨n,h.2⟩
end
end L2
namespace L2
open PySem PySem.Spec PyProof.Rows PySem.W
section
variable {X:Cx}{pins:List (Addr×Obj)}{σ:St}{H0:Hp}{f:Addr}{vs:List Value}{A:Around}{E:Value→Shared→Prop}{s:Shared}
end
section
variable {X:Cx}{K:PySem.W.Frag}{e:Expr}{t:TA}{p pos kpos lpos p1 p2 p3 p4 p5:Pos}{kk:Nat}{params:Arguments}{scope:Scope}
noncomputable def isRow (d:PyData):Prop:=∃ ns:List Int,d=.list (ns.map .int)
noncomputable def dSrtK (t:DA):DE:=fun env R=>t env fun ss env1=>∃ s ds,ss=[s]∧valOf env1 s=some (.list ds)∧(∀ d∈ds,isRow d)∧ds.length<64∧∀ es:List PyData,es.Perm ds→R (.ow es) env1
variable {tl:DA}
end
section
variable {P:Program}{w:World}{K:PySem.W.Frag}{mg:Str→Option Value}{base:Heap}
noncomputable def LamFd (K:PySem.W.Frag) (base:Heap) (x:Str) (fd:FuncData):Prop:=∃ c T,fd.code=.ref c∧CodeHd base c T∧LamTab K T (x ++ ".<locals>.<lambda>")
theorem okDL {x:Str}{st:Stmt}{f:Addr}{fd:FuncData}{N ps:List Str}{k:Nat}{sp:DSp} (F:Fun K x x st f fd) (S:FnScope N ps (defScope st)) (len:∀ ss R,sp ss R→ss.length=ps.length) (hN:ps.length≤N.length)
  (hb:∀ (cdv:Value) (hcd:cdv=fd.code) (A:Around) (outer:List Env) (s:Shared) (H:Hp) (E:XK),Room k (A.deeper (envOfC x (defScope st) s.heap.objs.size f cdv)) →
   ∃ t:DS,PSs (cxOf CX0 P w K mg base N x (defScope st) f cdv A outer s H E).nox (defBody st) (upS K t)∧∀ ss R,sp ss R→t (endsD ps.length R) (startD N.length ss)):FnOk P w K mg base CX0 (k+1) f fd ps (spD K sp):=by
 obtain ⟨oc,od,kV,doc,pm,an,cdv,ct,osl,rfl,lk,hcd⟩:=F.ex
 exact okD' (fun A outer s H E hr=>hb cdv rfl A outer s H E hr) lk hcd S len hN
noncomputable def CodeVs (vs:Array Value) (c T:Addr):Prop:=vs[11]? = some (.ref T)∧vs.getD 11 .none=.ref T∧(∃ file tf,vs.getD 18 .none=.str file tf)∧(∃ i t,vs.getD 7 .none=.int i t)∧(∃ b,vs.getD 9 .none=.bool b)∧(∃ i t,vs.getD 10 .none=.int i t)∧c≠T
theorem lam_fd {x:Str}{f c T:Addr}{fd:FuncData}{oc:Value}{od odc:Option Addr}{osl slc:Array (Option Value)}{vs:Array Value} (hx:x∈lamNames) (a:PySem.W.nsIn K mainGlobals x=some (some (.ref f))) (l:K.lookup f=some ⟨oc,od,.func fd,osl⟩) (hc:fd.code=.ref c)
  (lc:K.lookup c=some ⟨.type "code",odc,.fields vs,slc⟩) (hT:CodeVs vs c T) (Xb:K.In base):LamFd K base x fd:=by
 obtain ⟨h1,h2,⟨file,tf,h3⟩,⟨i,t,h4⟩,⟨b,h5⟩,⟨j,u,h6⟩,h7⟩:=hT
 exact ⟨c,T,hc,⟨_,vs,file,tf,i,t,b,j,u,Xb _ _ lc,rfl,rfl,h1,h2,h3,h4,h5,h6,h7⟩,x,hx,f,_,fd,c,_,vs,a,l,rfl,hc,lc,rfl,h1,rfl⟩
end
end L2
namespace L2
open PySem PySem.Spec PyProof.Rows PySem.W
section
variable {X:Cx}{K:PySem.W.Frag}{e1 e2:Expr}{tl:DA}{p pos:Pos}
noncomputable def dZipA (ta:DA):DI:=fun env RR=>∃ b:Bool,dZip b b ta env RR
end
end L2
namespace L2
open PySem PySem.Spec PyProof.Rows PySem.W
open PySem.SeqAt PySem.MeetsSeq PySem.MeetsSeq2 PySem.MeetsSeq3 PySem.SeqRoads2
open PySem.AutoSeq1 (wpAny_loadPart')
noncomputable def At (items:Array Value) (ns:List Int):Prop:=ns.length=items.size∧∀ j (h:j<items.size),∃ t,items[j]=Value.int (ns.getD j 0) t
noncomputable def keyLt (a b:Int×List Int):Bool:=if a.1=b.1 then (if a.2=b.2 then false else HT.lexLt a.2 b.2) else decide (a.1<b.1)
section
variable {prog:Program}{w:World}{A:Around}{E:Value→Shared→Prop}{s:Shared}
noncomputable def KeyX (h:Heap) (v:Value) (k:Int×List Int):Prop:=∃ (a:Addr) (o:Obj) (n:Nat) (t:Tok) (l:Addr) (its:Array Value) (as:List Addr),v=.ref a∧h.get? a=some o∧o.cls=.type "tuple" ∧ o.data=.seq #[.int k.1 t,.ref l] n∧h.IsList l its∧At its k.2∧Reads h (.ref l) (.list (k.2.map PyData.int)) as
theorem KeyX.v {h:Heap}{v:Value}{k:Int×List Int} (x:KeyX h v k):KeyV h v:=by
 obtain ⟨a,o,n,t,l,its,as,e1,e2,e3,e4,e5,e6,e7⟩:=x
 exact ⟨a,o,n,k.1,t,l,its,k.2,as,e1,e2,e3,e4,e5,fun j hj=>let ⟨u,e⟩:=e6.2 j hj;⟨_,u,e⟩,e7⟩
noncomputable def kasRun {α:Type} (lt:Nat→Nat→Bool):KasT α→α
 | .ret a=>a
 | .ask i j k=>kasRun lt (k (lt i j))
theorem KAll.run {α:Type}{n:Nat}{P:α→Prop}{lt:Nat→Nat→Bool}:∀ {t:KasT α},KAll n P t→P (kasRun lt t)
 | .ret a,h=>h
 | .ask i j k,h=>show P (kasRun lt (k (lt i j))) from KAll.run (t:=k (lt i j)) (h.2.2 _)
theorem kas_det {α:Type}{n:Nat}{cmp:Nat→Nat→(Bool→Shared→Prop)→Shared→Prop}{P:α→Prop}{lt:Nat→Nat→Bool}{Q:α→Shared→Prop} (I:Shared→Prop)
  (hc:∀ i j C s,i<n→j<n→I s→(∀ s',I s'→C (lt i j) s')→cmp i j C s):∀ {t:KasT α}{s:Shared},KAll n P t→(∀ s,I s→Q (kasRun lt t) s)→I s→t.kasWp cmp Q s
 | .ret a,s,h,hQ,i=>hQ s i
 | .ask x y k,s,h,hQ,i=>hc x y _ s h.1 h.2.1 i fun s' i'=>kas_det I hc (h.2.2 (lt x y)) hQ i'
noncomputable def srtIx (ks:List (Int×List Int)):List Nat:=if ks.length<2 then List.range ks.length else (kasRun (fun i j=>keyLt (ks.getD i (0,[])) (ks.getD j (0,[]))) (kas_sort ks.length)).toList
theorem srtIx_perm (ks:List (Int×List Int)):(srtIx ks).Perm (List.range ks.length):=by
 unfold srtIx
 split
 ·exact .refl _
 ·exact (KAll.run (sort_all (n:=ks.length) (by omega))).list
noncomputable def pick {α:Type} (p:List Nat) (xs:List α) (d:α):List α:=p.map fun i=>xs.getD i d
noncomputable def KeyOkX (prog:Program) (w:World) (A:Around) (vs:List Value) (ks:List (Int×List Int)) (s:Shared):Prop :=
 wpAny (model prog w) A (keyKind' vs.toArray) (fun κ s'=>s'=s∧∀ i j (C:Bool→Shared→Prop),i<vs.length→j<vs.length→C (keyLt (ks.getD i (0,[])) (ks.getD j (0,[]))) s→kas_ask prog w A κ vs i j C s) (fun _ _=>False) s
end
end L2
namespace L2
open PySem PySem.Spec PyProof.Rows PySem.W
noncomputable def keyD:PyData→Int×List Int
 | .tuple [.int n,.list es]=>(n,(intsOf es).getD [])
 | _=>(0,[])
section
variable {X:Cx}{pins:List (Addr×Obj)}{σ:St}{H:Hp}{s:Shared}
end
section
variable {prog:Program}{w:World}{A:Around}{E:Value→Shared→Prop}{s:Shared}
theorem srt_listX {a:Addr}{vs:List Value}{ks:List (Int×List Int)}{n:Nat}{P:PySem.Fin→Shared→Prop} (ho:s.heap.get? a=some (seqObj "list" vs.toArray n)) (h64:vs.length<64) (hkl:ks.length=vs.length)
  (hk:2≤vs.length→∀ h',(∀ b o,b≠a→s.heap.get? b=some o→h'.get? b=some o)→KeyOkX prog w A vs ks { s with heap:=h' })
  (h : ∀ h' c,(∀ b o,b≠a→s.heap.get? b=some o→h'.get? b=some o)→h'.get? a=some (seqObj "list" (pick (srtIx ks) vs Value.none).toArray c)→P (.done (.ret .none)) { s with heap:=h' }) :
  wpAny (model prog w) A (Builtin.«list.sort» ⟨[.ref a],[]⟩) P E s:=by
 have ha:a<s.heap.objs.size:=Heap.lt_size ho
 have s1:=Heap.SameBut.update s.heap a (Obj.mapSeq fun _=>(#[]:Array Value))
 obtain ⟨e1,ho1⟩:∃ e1,(s.heap.update a (Obj.mapSeq fun _=>(#[]:Array Value))).get? a=some (seqObj "list" #[] e1):=⟨_,get?_update_seq ho fun _=>#[]⟩
 have keep:∀ b o,b≠a→s.heap.get? b=some o→(((s.heap.update a (Obj.mapSeq fun _=>(#[]:Array Value))).push (seqObj "tuple" vs.toArray 0)).push (seqObj "list" #[] 0)).get? b=some o:=fun b o hb e =>
  Heap.get?_push_of_some _ (Heap.get?_push_of_some _ ((s1.2 b hb).trans e))
 have ho3:(((s.heap.update a (Obj.mapSeq fun _=>(#[]:Array Value))).push (seqObj "tuple" vs.toArray 0)).push (seqObj "list" #[] 0)).get? a=some (seqObj "list" #[] e1):=Heap.get?_push_of_some _ (Heap.get?_push_of_some _ ho1)
 have fin:∀ (ws:List Value),∃ c,(((((s.heap.update a (Obj.mapSeq fun _=>(#[]:Array Value))).push (seqObj "tuple" vs.toArray 0)).push (seqObj "list" #[] 0))).update a (Obj.mapSeq fun _=>ws.toArray)).get? a=some (seqObj "list" ws.toArray c):=fun ws=>⟨_,get?_update_seq ho3 fun _=>ws.toArray⟩
 rw [list_sort_plain]
 refine wpAny_bind (listItems_at ho rfl ?_)
 refine wpAny_bind (listUpdate_at ho rfl ?_ (by rw[List.size_toArray,sizeLine_eq];omega) (Nat.zero_le _))
 refine wpAny_bind (seqEpoch_at ho1 rfl ?_)
 refine wpAny_bind (wpAny_newTuple ?_ (by show vs.length≤_;rw[sizeLine_eq];omega))
 refine wpAny_bind (wpAny_newList ?_ (Nat.zero_le _))
 refine wpAny_holding ?_
 show wpAny (model prog w) A _ P E { s with heap:=((s.heap.update a (Obj.mapSeq fun _=>(#[]:Array Value))).push (seqObj "tuple" vs.toArray 0)).push (seqObj "list" #[] 0) }
 dsimp only
 by_cases h2:2≤vs.length
 ·have hn2:¬vs.toArray.size<2:=by rw[List.size_toArray];omega
  rw [if_neg hn2,if_neg hn2]
  refine wpAny_bind (wpAny_mono (hk h2 _ keep) (fun κ s0 hk=>?_) fun _ _ x=>x.elim)
  obtain ⟨rfl,hask⟩:=hk
  have hix:srtIx ks=(kasRun (fun i j=>keyLt (ks.getD i (0,[])) (ks.getD j (0,[]))) (kas_sort vs.length)).toList:=by
   unfold srtIx
   rw [if_neg (by omega),hkl]
  refine wpAny_bind (wpAny_mono (kat_run (κ:=κ) (A:=A) (prog:=prog) (w:=w) (ks:=vs) (vs:=vs) (G:=fun p s'=>p=kasRun (fun i j=>keyLt (ks.getD i (0,[])) (ks.getD j (0,[]))) (kas_sort vs.length)∧s'={ s with heap:=((s.heap.update a (Obj.mapSeq fun _=>(#[]:Array Value))).push (seqObj "tuple" vs.toArray 0)).push (seqObj "list" #[] 0) })
   (Q := fun st' s'=>∃ p:Array Nat,p=kasRun (fun i j=>keyLt (ks.getD i (0,[])) (ks.getD j (0,[]))) (kas_sort vs.length)∧p.size=vs.length∧arrOf st'=p.map (kas_item (vs.toArray.zip vs.toArray))∧failedOf st'=none∧s'={ s with heap:=((s.heap.update a (Obj.mapSeq fun _=>(#[]:Array Value))).push (seqObj "tuple" vs.toArray 0)).push (seqObj "list" #[] 0) })
   rfl h2 h64 (fun p' st' s' a1 a2 a3 a4=>⟨p',a4.1,a1,a2,a3,a4.2⟩) (kas_det (fun s'=>s'={ s with heap:=((s.heap.update a (Obj.mapSeq fun _=>(#[]:Array Value))).push (seqObj "tuple" vs.toArray 0)).push (seqObj "list" #[] 0) }) (fun i j C s' hi hj e hc=>by subst e;exact hask i j C hi hj (hc _ rfl)) (sort_all (n:=vs.length) (by omega)) (fun s' e=>⟨rfl,e⟩) rfl)) ?_ fun _ _ e=>e)
  rintro ⟨⟨⟩,st'⟩ s' ⟨p,hpn,hp,har,hf,rfl⟩
  dsimp only
  have hout:=kat_snds rfl har
  have hsz:(List.toArray (p.toList.map fun i=>vs.getD i Value.none)).size=vs.length:=by rw[List.size_toArray,List.length_map,Array.length_toList,hp]
  rw [hout]
  obtain ⟨c2,hc2⟩:=fin (p.toList.map fun i=>vs.getD i Value.none)
  refine wpAny_bind (seqEpoch_at ho3 rfl ?_)
  refine wpAny_bind (listUpdate_at ho3 rfl ?_ (Nat.zero_le _) (Nat.le_trans (Nat.le_of_eq hsz) (by rw[sizeLine_eq];omega)))
  rw [hf]
  simp only [bne_self_eq_false,Bool.false_eq_true,if_false]
  refine wpAny_pure (h _ c2 (fun b o hb e=>?_) ?_)
  ·exact ((Heap.SameBut.update _ a _).2 b hb).trans (keep b o hb e)
  ·rw [hix,←hpn]
   exact hc2
 ·have hn2:vs.toArray.size<2:=by rw[List.size_toArray];omega
  rw [if_pos hn2,if_pos hn2]
  refine wpAny_bind (wpAny_pure ?_)
  refine wpAny_bind (wpAny_pure ?_)
  have hout:(arrOf (SortSt.mk' general' (vs.toArray.zip vs.toArray) #[] 7 none)).map (·.2)=vs.toArray:=by
   show (vs.toArray.zip vs.toArray).map (·.2)=_
   apply Array.toList_inj.mp
   simp
   exact List.map_snd_zip (Nat.le_refl _)
  dsimp only
  rw [hout]
  obtain ⟨c2,hc2⟩:=fin vs
  have hpk:pick (srtIx ks) vs Value.none=vs:=by
   unfold srtIx pick
   rw [if_pos (by omega),hkl]
   apply List.ext_getElem
   ·simp
   ·intro i h1 h2
    simp at h1
    simp [h1]
  refine wpAny_bind (seqEpoch_at ho3 rfl ?_)
  refine wpAny_bind (listUpdate_at ho3 rfl ?_ (Nat.zero_le _) (by rw[List.size_toArray,sizeLine_eq];omega))
  simp only [bne_self_eq_false,Bool.false_eq_true,if_false]
  refine wpAny_pure (h _ c2 (fun b o hb e=>?_) (by rw[hpk];exact hc2))
  exact ((Heap.SameBut.update _ a _).2 b hb).trans (keep b o hb e)
theorem srt_sortedX {l:Addr}{vs:List Value}{ks:List (Int×List Int)}{Q:Value→Shared→Prop} (hl:s.heap.IsList l vs.toArray) (h64:vs.length<64) (hkl:ks.length=vs.length)
  (hk:2≤vs.length→∀ h',(∀ b o,s.heap.get? b=some o→h'.get? b=some o)→KeyOkX prog w A.in1.in1 vs ks { s with heap:=h' })
  (h : ∀ D h' c,(∀ b o,s.heap.get? b=some o→h'.get? b=some o)→s.heap.objs.size≤D→h'.get? D=some (seqObj "list" (pick (srtIx ks) vs Value.none).toArray c)→Q (.ref D) { s with heap:=h' }) :
  wpAny (model prog w) A (call (.builtin "sorted") [.ref l]) Q E s:=by
 refine Calls.call_function_entry kind_sorted plain_sorted entry_sorted (args_sorted1 _) ?_
 unfold Builtin.«sorted»
 refine wpAny_bind (m:=checkCount "sorted" 1 1 _) (wpAny_pure ?_)
 refine wpAny_bind (collect_list hl ?_ (by rw[sizeLine_eq];omega))
 refine wpAny_bind (wpAny_newList ?_ (by rw[sizeLine_eq];omega))
 have hsz:((s.heap.push (seqObj "list" #[] 0)).update s.heap.objs.size (Obj.mapSeq (·++vs.toArray))).objs.size=s.heap.objs.size+1:=by
  rw [Heap.size_update,size_push']
 have hoL:(((s.heap.push (seqObj "list" #[] 0)).update s.heap.objs.size (Obj.mapSeq (·++vs.toArray))).push (seqObj "list" vs.toArray 0)).get? (s.heap.objs.size+1)=some (seqObj "list" vs.toArray 0):=by
  rw [←hsz];exact Heap.get?_push_size _ rfl
 have keep:∀ b o,s.heap.get? b=some o→(((s.heap.push (seqObj "list" #[] 0)).update s.heap.objs.size (Obj.mapSeq (·++vs.toArray))).push (seqObj "list" vs.toArray 0)).get? b=some o:=fun b o q=>by
  have hlt:b<s.heap.objs.size:=Heap.lt_size q
  rw [Heap.get?_push_ne _ _ _ (by rw[hsz];exact Nat.ne_of_lt (Nat.lt_succ_of_lt hlt)),Heap.get?_update_ne _ _ _ _ (Nat.ne_of_lt hlt),Heap.get?_push_ne _ _ _ (Nat.ne_of_lt hlt)]
  exact q
 have ne:∀ b o,s.heap.get? b=some o→b≠s.heap.objs.size+1:=fun b o q=>by
  exact Nat.ne_of_lt (Nat.lt_succ_of_lt (Heap.lt_size q))
 show wpAny _ _ _ _ _ { s with heap:=((s.heap.push (seqObj "list" #[] 0)).update s.heap.objs.size (Obj.mapSeq (·++vs.toArray))).push (seqObj "list" vs.toArray 0) }
 rw [hsz]
 refine wpAny_bind (wpAny_holding (wpAny_call_entry slot_list_sort ⟨_,hoL,rfl⟩ entry_list_sort ?body (args_list_sort _)))
 case body =>
  refine srt_listX (s:={ s with heap:=((s.heap.push (seqObj "list" #[] 0)).update s.heap.objs.size (Obj.mapSeq (·++vs.toArray))).push (seqObj "list" vs.toArray 0) }) hoL h64 hkl
   (fun h2 h' k=>hk h2 h' fun b o e=>k b o (ne b o e) (keep b o e)) fun h' c k hD=>⟨_,rfl,wpAny_pure ⟨_,rfl,?_⟩⟩
  exact h _ h' c (fun b o e=>k b o (ne b o e) (keep b o e)) (Nat.le_succ _) hD
end
end L2
namespace L2
open PySem PySem.Spec PyProof.Rows PySem.W
theorem vals_pick {vs:List V}{us:List Value} (r:Vals vs us):∀ {p:List Nat},(∀ i∈p,i<vs.length)→Vals (pick p vs .non) (pick p us Value.none)
 | [],_=>.nil
 | i::p,h=>by
  have hi:=h i (by simp)
  obtain ⟨u,e,ru⟩:=r.get (i:=i) (x:=vs[i]) (by simp[hi])
  have e1:vs.getD i .non=vs[i]:=by simp[List.getD_eq_getElem?_getD,hi]
  have e2:us.getD i Value.none=u:=by rw[List.getD_eq_getElem?_getD,e];rfl
  show Vals (vs.getD i .non::pick p vs .non) (us.getD i Value.none::pick p us Value.none)
  rw [e1,e2]
  exact .cons ru (vals_pick r fun j hj=>h j (by simp[hj]))
theorem srtIx_lt {ks:List (Int×List Int)}:∀ i∈srtIx ks,i<ks.length:=fun i hi=>List.mem_range.mp ((srtIx_perm ks).mem_iff.mp hi)
section
variable {X:Cx}{K:PySem.W.Frag}
variable {e:Expr}{p pos:Pos}{tl:DA}
end
section
variable {X:Cx}{pins:List (Addr×Obj)}{σ:St}{H0:Hp}{f:Value}{vs:List Value}{A:Around}{E:Value→Shared→Prop}{a kS:Addr}
end
section
variable {X:Cx}{pins:List (Addr×Obj)}{σ:St}{H0:Hp}{f:Addr}{vs:List Value}{A:Around}{E:Value→Shared→Prop}{s:Shared}
end
section
variable {X:Cx}{K:PySem.W.Frag}{e:Expr}{t:TA}{p pos kpos lpos p1 p2 p3 p4 p5:Pos}{kk:Nat}{params:Arguments}{scope:Scope}
noncomputable def keyRw:PyData→PyData
 | .list es=>.tuple [.int es.length,.list es]
 | d=>d
noncomputable def dSrtKX (t:DA):DE:=fun env R=>t env fun ss env1=>∃ s ds,ss=[s]∧valOf env1 s=some (.list ds)∧(∀ d∈ds,isRow d)∧ds.length<64∧R (.ow (pick (srtIx (ds.map fun d=>keyD (keyRw d))) ds .none)) env1
variable {tl:DA}
end
end L2
namespace L2
open PySem PySem.Spec PyProof.Rows PySem.W
section
variable {prog:Program}{w:World}{A:Around}{E:Value→Shared→Prop}{h:Heap}{g:Array GenState}{d:Drawn}{t:Nat}{os:OsState}
variable {nm q:Str}{C N:Addr}{bs bm bmB:List Value}{hdct:Bool}{sn:List Str}{sub:List Value}{ab:Bool}{col:Option Bool}{dd:Option Addr}{k0 k1 k2 k3 k5:Option Value}{B newId initId:String}
end
section
variable {M:Model}{A:Around}{E:Value→Shared→Prop}{env:Env}{nm q:Str}{C N:Addr}{bs bm:List Value}{hdct:Bool}{sn:List Str}{sub:List Value}{ab:Bool}{col:Option Bool}{dd:Option Addr}{k0 k1 k2 k3 k5:Option Value}{newId:String}
end
end L2
namespace L2
open PySem PySem.Spec PyProof.Rows PySem.W
open Builtin Builtin.ObjectAttr
section
variable {prog:Program}{w:World}{A:Around}{E:Value→Shared→Prop}{h:Heap}{g:Array GenState}{d:Drawn}{t:Nat}{os:OsState}
variable {nm q:Str}{C N x:Addr}{bs bm:List Value}{sn:List Str}{sub:List Value}{ab:Bool}{col:Option Bool}{dd:Option Addr}{k0 k1 k2 k3 k5:Option Value}{newId:String}{name:Str}{v:Value}{o:Obj}
end
end L2
namespace L2
open PySem PySem.Spec PyProof.Rows PySem.W
section
variable {M:Model}{A:Around}{E:Value→Shared→Prop}{s:Shared}
end
end L2
namespace L2
open PySem PySem.Spec PyProof.Rows PySem.W
noncomputable def ExcNew (e C:Addr) (dx:Option Addr) (h:Heap):Prop:=∃ t sl,h.get? e=some { cls:=.ref C,dict:=dx,data:=.fields #[.ref t,.none,.none,.none,.bool false,.none],slots:=sl }
theorem ExcNew.ok {P:Program}{w:World}{H:Hp}{h:Heap}{e C:Addr}{dx:Option Addr} (x:ExcNew e C dx h):ObjOk P w H h e (.ext (ExcNew e C dx)):=by
 obtain ⟨t,sl,q⟩:=id x
 exact ⟨x,⟨_,q⟩,fun h1 h2 ⟨t,sl,q⟩ k=>⟨t,sl,k _ q⟩⟩
theorem ExcAt.ok {P:Program}{w:World}{H:Hp}{h:Heap}{e C:Addr}{dx:Option Addr} (x:ExcAt e C dx h):ObjOk P w H h e (.ext (ExcAt e C dx)):=by
 obtain ⟨t,sl,q⟩:=id x
 exact ⟨x,⟨_,q⟩,fun h1 h2 ⟨t,sl,q⟩ k=>⟨t,sl,k _ q⟩⟩
section
variable {X:Cx}{o value:Expr}{ta tv:TE}{pos pos':Pos}
end
end L2
namespace L2
open PySem PySem.Spec PyProof.Rows PySem.W
section
variable {P:Program}{w:World}{K:PySem.W.Frag}{mg:Str→Option Value}{base:Heap}{N:List Str}{qual:Str}{scope:Scope}{f:Addr}{cd:Value}{A:Around}{outer:List Env}{s:Shared}{H:Hp}{E:XK}
end
section
variable {K:PySem.W.Frag}{P:Program}{w:World}{mg:Str→Option Value}{base:Heap}
end
section
variable {X:Cx}{C fI:Addr}{fd:FuncData}{x:Str}{k:Nat}{e:Expr}{t:TA}{p pos:Pos}
end
end L2
namespace L2
open PySem PySem.Spec PyProof.Rows PySem.W
section
variable {P:Program}{w:World}{K:PySem.W.Frag}{mg:Str→Option Value}{base:Heap}{N:List Str}{qual:Str}{scope:Scope}{f:Addr}{cd:Value}{A:Around}{outer:List Env}{s:Shared}{H:Hp}{E:XK}
end
section
variable {X:Cx}{pins:List (Addr×Obj)}{σ:St}{H:Hp}{s:Shared}{e:Value}
end
section
variable {P:Program}{w:World}{H H':Hp}{h0 h h2:Heap}{a old C T:Addr}{dx:Option Addr}{oe:Obj}{vs:Array Value}{fl:Value}{outer:List Env}
end
section
variable {X:Cx}{k:Nat}{f C fI:Addr}{fd:FuncData}{ps:List Str}{sp:Sp}{x xn:Str}{p pos pos2 pn ph pt:Pos}{e:Expr}{es:List Expr}{t:TA}{b₀:Stmt}{th:TS}
end
end L2
namespace L2
open PySem PySem.Spec PyProof.Rows PySem.W
noncomputable abbrev DSpX:=List Sl→(Sl→List Sl→Prop)→(Int→Prop)→Prop
section
variable {X:Cx}{K:PySem.W.Frag}{Hs:Hp}{pos:Pos}{st:Stmt}{rest a b:List Stmt}{t u:DS}{e c tg iter:Expr}{te:DE}{tc:DT}
end
section
variable {P:Program}{w:World}{K:PySem.W.Frag}{mg:Str→Option Value}{base:Heap}{N:List Str}{qual:Str}{scope:Scope}{f:Addr}{cd:Value}{A:Around}{outer:List Env}{s:Shared}{H:Hp}{E:XK}{C:Addr}{RX:Int→Prop}{tl:DA}{k:Nat}
noncomputable def dRaise (RX:Int→Prop) (tl:DA):DS:=fun _ env=>tl env fun ss env1=>∃ s n,ss=[s]∧valOf env1 s=some (.int n)∧RX n
end
section
variable {X:Cx}{x:Str}{p pos pos2 pn ph pt:Pos}{e:Expr}{es:List Expr}{k:Nat}{sp:DSpX}{K:PySem.W.Frag}{tl:DA}{C:Addr}{b₀:Stmt}{th:DS}
noncomputable def dTry (sp:DSpX) (tl:DA) (th:DS):DS:=fun DD env=>tl env fun ss env1=>∃ ds,keepsOf env1 ss=some ds∧sp (ds.map .fr) (fun _ _=>DD.nx env1) fun _=>th DD env1
end
end L2
namespace L2
open PySem PySem.Spec PyProof.Rows PySem.W
section
variable {K:PySem.W.Frag}{M P N:Addr→Prop}{H0 H H':Hp}{σ0 σ:St}{env:List Sl}{ts tt:List (V×Sl)}{v:V}{s:Sl}{d:PyData}
noncomputable def dCallT1 (sp:DSp) (t:DA):DE:=fun env R=>t env fun ss env1=>∃ s1 l d1,ss=[s1,.ow l]∧keepOf env1 s1=some d1∧sp [.fr d1,.io l] (dK (fun r _=>R r env1) ⟨⟩)
end
section
variable {X:Cx}{x:Str}{p pos:Pos}{e:Expr}{es:List Expr}{k:Nat}{sp:DSp}{K:PySem.W.Frag}{tl:DA}
end
end L2
namespace L2
open PySem PySem.Spec PyProof.Rows PySem.W
theorem us1 {Q:List Value→Prop}:∀ {us:List Value},us.length=1→(∀ a:Value,Q [a])→Q us
 | [a],_,h=>h a
theorem us2 {Q:List Value→Prop}:∀ {us:List Value},us.length=2→(∀ a b:Value,Q [a,b])→Q us
 | [a,b],_,h=>h a b
theorem us3 {Q:List Value→Prop}:∀ {us:List Value},us.length=3→(∀ a b c:Value,Q [a,b,c])→Q us
 | [a,b,c],_,h=>h a b c
section
variable {X:Cx}{x:Str}{p pos:Pos}{e:Expr}{es:List Expr}{k:Nat}{sp:DSpX}{K:PySem.W.Frag}{tl:DA}{C:Addr}
noncomputable def dCallN (sp:DSpX) (t:DA):DE:=fun env R=>t env fun ss env1=>∃ ds,keepsOf env1 ss=some ds∧sp (ds.map .fr) (dK (fun r _=>R r env1) ⟨⟩) fun _=>False
end
end L2
namespace L2
open PySem PySem.Spec PyProof.Rows PySem.W
section
variable {X:Cx}{pins:List (Addr×Obj)}{σ:St}{H:Hp}{s:Shared}
end
section
variable {X:Cx}{k:Nat}{f C fI:Addr}{fd:FuncData}{ps:List Str}{sp:Sp}{x xn xe:Str}{p pos pos2 pn ph pt:Pos}{e tg:Expr}{es:List Expr}{t:TA}{b₀:Stmt}{bs:List Stmt}{th:TS}{g:TG}{i:Nat}{hs':List ExceptHandler}
end
section
variable {X:Cx}{x xe:Str}{p pos pos2 pn ph pt:Pos}{e tg:Expr}{es:List Expr}{k i:Nat}{sp:DSpX}{K:PySem.W.Frag}{tl:DA}{C:Addr}{b₀:Stmt}{bs:List Stmt}{th:DS}{g:DG}{hs':List ExceptHandler}
noncomputable def dTryAs (C:Addr) (sp:DSpX) (tl:DA) (g:DG) (i:Nat) (th:DS):DS:=fun DD env=>tl env fun ss env1=>i<env1.length∧∃ ds,keepsOf env1 ss=some ds ∧
 sp (ds.map .fr) (fun r _=>∃ d,r=.fr d∧g d env1 DD.nx) fun n=>th ⟨fun env=>i<env.length∧DD.nx (env.set i .un),fun _ _=>False,fun _=>False,fun _=>False⟩ (env1.set i (.fr (excD C n)))
end
end L2
namespace L2
open PySem PySem.Spec PyProof.Rows PySem.W
section
variable {prog:Program}{w:World}{A:Around}{E:Value→Shared→Prop}{h:Heap}{g:Array GenState}{d:Drawn}{t:Nat}{os:OsState}
variable {nm q:Str}{C N x:Addr}{bs bm:List Value}{sn:List Str}{sub:List Value}{ab:Bool}{col:Option Bool}{dd:Option Addr}{k0 k1 k2 k3 k5:Option Value}{newId:String}{name:Str}{v:Value}{o:Obj}
end
end L2
namespace L2
open PySem PySem.Spec PyProof.Rows PySem.W
section
variable {prog:Program}{w:World}{A:Around}{E:Value→Shared→Prop}{h:Heap}{g:Array GenState}{d:Drawn}{t:Nat}{os:OsState}
variable {nm q:Str}{C N x:Addr}{bs bm:List Value}{sn:List Str}{sub:List Value}{ab:Bool}{col:Option Bool}{dd:Option Addr}{k0 k1 k2 k3 k5:Option Value}{newId:String}{name:Str}{v c:Value}{o:Obj}
end
end L2
namespace L2
open PySem PySem.Spec PyProof.Rows PySem.W
section
variable {X:Cx}{C fI:Addr}{e:Expr}{te:TE}{pos:Pos}
end
end L2
namespace L2
open PySem PySem.Spec PyProof.Rows PySem.W
section
variable {X:Cx}{K:PySem.W.Frag}{C Dd fI:Addr}{e:Expr}{te:DE}{pos p:Pos}
noncomputable def dDay (C:Addr) (te:DE):DE:=fun env R=>te env fun s env1=>∃ n,valOf env1 s=some (excD C n)∧R (.fr (.int n)) env1
noncomputable def dIsX (C:Addr) (b:Bool) (te:DE):DE:=fun env R=>te env fun s env1=>∃ n,valOf env1 s=some (excD C n)∧R (.fr (.bool b)) env1
end
end L2
namespace L2
open PySem PySem.Spec PyProof.Rows PySem.W
section
variable {P:Program}{w:World}{K:PySem.W.Frag}{mg:Str→Option Value}{base:Heap}{N:List Str}{qual:Str}{scope:Scope}{f:Addr}{cd:Value}{A:Around}{outer:List Env}{s:Shared}{H:Hp}{E:XK}{C:Addr}{RX:Int→Prop}{tl:DA}{k:Nat}
noncomputable def dRetX (RX:Int→Prop) (sp:DSpX) (tl:DA):DS:=fun DD env=>tl env fun ss env1=>∃ ds,keepsOf env1 ss=some ds∧sp (ds.map .fr) (fun r _=>DD.rt r env1) RX
end
end L2
namespace L2
open PySem PySem.Spec PyProof.Rows PySem.W
section
variable {X:Cx}{K:PySem.W.Frag}{C Dd:Addr}{e:Expr}{te:DE}{pos p:Pos}
end
end L2
namespace L2
open PySem PySem.Spec PyProof.Rows
theorem stdD_inj {k k':StdK} (e:stdD k=stdD k'):k=k':=by
 injection e
theorem dctD_inj:∀ {kvs kvs':List (StdK×PyData)},kvs.map (fun p=>(stdD p.1,p.2))=kvs'.map (fun p=>(stdD p.1,p.2))→kvs=kvs'
 | [],[],_=>rfl
 | [],_::_,e=>by simp at e
 | _::_,[],e=>by simp at e
 | (k,v)::xs,(k',v')::ys,e=>by
  rw [List.map_cons,List.map_cons] at e
  injection e with e1 e2
  injection e1 with e1 e3
  have e1:=stdD_inj e1
  simp only at e1 e3
  rw [e1,e3,dctD_inj e2]
section
variable {K:PySem.W.Frag}{M P N:Addr→Prop}{H0 H H':Hp}{E T A B:List Ent}{σ0 σ:St}{env:List Sl}{ts tt:List (V×Sl)}{v:V}{s:Sl}{d:PyData}{kvs:List (StdK×PyData)}
noncomputable def DctN (K:PySem.W.Frag) (N:Addr→Prop) (H:Hp) (v:V) (kvs:List (StdK×PyData)):Prop :=
 ∃ a es,v=.ref a∧H a=some (.ext (DctAt a es))∧DNs K N H (es.map fun p=>V.int p.1) (kvs.map fun p=>stdD p.1)∧DNs K N H (es.map fun p=>p.2.2) (kvs.map fun p=>p.2)∧es.map (fun p=>p.1)=kvs.map (fun p=>p.1)
theorem exc_no {C:Addr}{n:Int} (e:excD C n=dctD kvs):False:=by
 cases kvs with
 | nil=>cases e
 | cons p kvs=>simp[excD,dctD,stdD] at e
theorem fz_no {ds:List PyData} (e:fzD ds=dctD kvs):False:=by
 cases kvs with
 | nil=>cases e
 | cons p kvs=>simp[fzD,dctD,stdD] at e
theorem DN.dct_of (h:DN K N H v d) (e:d=dctD kvs):DctN K N H v kvs:=by
 cases h with
 | exc _ _ _ _=>exact (exc_no e).elim
 | fz _=>exact (fz_no e).elim
 | @dct a es kvs' n ha hk hv ee =>
  injection e with e
  have e:=dctD_inj e
  subst e
  exact ⟨a,es,rfl,ha,hk,hv,ee⟩
 | _=>cases e
theorem Vw.dct_of (h:Vw K N H v d) (e:d=dctD kvs):DctN K N H v kvs:=by
 cases h with
 | dn h=>exact h.dct_of e
 | ow h q=>cases e
 | @dct a es kvs' ha hk hv ee =>
  injection e with e
  have e:=dctD_inj e
  subst e
  exact ⟨a,es,rfl,ha,hk,hv,ee⟩
theorem OT.dct_of {S:List Addr} (h:OT K N H v d S) (e:d=dctD kvs):∃ a es,v=.ref a∧S=[a]∧H a=some (.ext (DctAt a es))∧DNs K N H (es.map fun p=>V.int p.1) (kvs.map fun p=>stdD p.1)∧DNs K N H (es.map fun p=>p.2.2) (kvs.map fun p=>p.2)∧es.map (fun p=>p.1)=kvs.map (fun p=>p.1):=by
 cases h with
 | fz _=>exact (fz_no e).elim
 | @dct a es kvs' ha hk hv ee =>
  injection e with e
  have e:=dctD_inj e
  subst e
  exact ⟨a,es,rfl,rfl,ha,hk,hv,ee⟩
 | _=>cases e
noncomputable def gIxK:G2:=fun d e R=>∃ kvs k x,d=dctD kvs∧e=stdD k∧getK kvs k=some x∧R x
theorem mIxK:Means K (rIxK K) gIxK:=by
 rintro N H x y d e R Q w1 w2 ⟨kvs,k,z,rfl,rfl,hg,hR⟩ hq
 obtain ⟨a,es,rfl,ha,hk,hv,ee⟩:=w1.dct_of rfl
 refine ⟨k,a,es,kvs,rfl,w2.dv,ha,hk.dv,hv.dv,ee,by rw[hg];rfl,fun i v d hd h1 h2=>?_⟩
 rw [hg] at hd
 cases hd
 obtain ⟨z',e1,dn⟩:=hv.get h1
 rw [h2] at e1
 cases e1
 exact hq _ _ hR dn
theorem any_get:∀ {es:List (StdK×Addr×V)}{kvs:List (StdK×PyData)} (k:StdK),es.map (fun p=>p.1)=kvs.map (fun p=>p.1)→(es.any fun p=>decide (p.1=k))=(getK kvs k).isSome
 | [],[],k,_=>rfl
 | [],_::_,k,e=>by simp at e
 | _::_,[],k,e=>by simp at e
 | p::es,q::kvs,k,e=>by
  rw [List.map_cons,List.map_cons] at e
  injection e with e1 e2
  rw [List.any_cons,any_get k e2,getK_cons,e1]
  by_cases h:q.1=k <;> simp[h]
theorem put_keys:∀ {es:List (StdK×Addr×V)}{kvs:List (StdK×PyData)} (k:StdK) (v:V) (d:PyData),es.map (fun p=>p.1)=kvs.map (fun p=>p.1)→DNs K N H (es.map fun p=>V.int p.1) (kvs.map fun p=>stdD p.1)→DNs K N H (es.map fun p=>p.2.2) (kvs.map fun p=>p.2)→DN K N H v d →
  (es.map fun p=>if p.1=k then (p.1,p.2.1,v) else p).map (fun p=>p.1)=(kvs.map fun p=>if p.1=k then (p.1,d) else p).map (fun p=>p.1) ∧
  DNs K N H ((es.map fun p=>if p.1=k then (p.1,p.2.1,v) else p).map fun p=>V.int p.1) ((kvs.map fun p=>if p.1=k then (p.1,d) else p).map fun p=>stdD p.1) ∧
  DNs K N H ((es.map fun p=>if p.1=k then (p.1,p.2.1,v) else p).map fun p=>p.2.2) ((kvs.map fun p=>if p.1=k then (p.1,d) else p).map fun p=>p.2)
 | [],[],k,v,d,_,h1,h2,_=>⟨rfl,.nil,.nil⟩
 | [],_::_,k,v,d,e,_,_,_=>by simp at e
 | _::_,[],k,v,d,e,_,_,_=>by simp at e
 | p :: es,q::kvs,k,v,d,e,h1,h2,dn=>by
  rw [List.map_cons,List.map_cons] at e h1 h2
  injection e with e1 e2
  cases h1 with
  | cons a1 a2 =>
   cases h2 with
   | cons b1 b2 =>
    obtain ⟨i1,i2,i3⟩:=put_keys k v d e2 a2 b2 dn
    simp only [List.map_cons]
    by_cases h:q.1=k
    ·have hp:p.1=k:=e1.trans h
     simp only [h,hp,if_true]
     refine ⟨by rw[i1],.cons ?_ i2,.cons dn i3⟩
     rw [show p.1=q.1 from e1] at a1
     rw [←h];exact a1
    ·have hp:¬p.1=k:=fun z=>h (e1.symm.trans z)
     simp only [h,hp,if_false]
     exact ⟨by rw[i1,e1],.cons a1 i2,.cons b1 i3⟩
theorem put_rel {es:List (StdK×Addr×V)}{k:StdK} (e:es.map (fun p=>p.1)=kvs.map (fun p=>p.1)) (h1:DNs K N H (es.map fun p=>V.int p.1) (kvs.map fun p=>stdD p.1)) (h2:DNs K N H (es.map fun p=>p.2.2) (kvs.map fun p=>p.2)) (dn:DN K N H v d) :
  (putE es k v).map (fun p=>p.1)=(setK kvs k d).map (fun p=>p.1)∧DNs K N H ((putE es k v).map fun p=>V.int p.1) ((setK kvs k d).map fun p=>stdD p.1)∧DNs K N H ((putE es k v).map fun p=>p.2.2) ((setK kvs k d).map fun p=>p.2):=by
 unfold putE setK
 rw [any_get k e]
 by_cases c:(getK kvs k).isSome=true
 ·rw [if_pos c,if_pos c]
  exact put_keys k v d e h1 h2 dn
 ·rw [if_neg c,if_neg c]
  simp only [List.map_append,List.map_cons,List.map_nil]
  exact ⟨by rw[e],h1.app (.cons (.int k) .nil),h2.app (.cons dn .nil)⟩
theorem RelE.retreeR {S S' R:List Addr}{d':PyData}{a:Addr}{o:HO} (h:RelE K M P H0 (A++(some v,.tr S d)::B) H) (ma:a∈S) (pm:S.Perm (S'++R)) (ot':OT K (Nw M (A++(some v,.tr S d)::B)) (upd H a o) v d' S') :
  RelE K M P H0 (A++(some v,.tr S' d')::B) (upd H a o):=by
 obtain ⟨v',ev,ot,h0⟩:=h.tr _ _ _ (List.mem_append_right _ List.mem_cons_self)
 cases ev
 have oe:oas (A++(some v,Sl.tr S d)::B)=oas A++(S++oas B):=by rw[oas_app,oas_cons,own1_tr]
 have nd:=h.nd
 rw [oe] at nd
 obtain ⟨n1,n2,n3⟩:=List.nodup_append.mp nd
 obtain ⟨n4,n5,n6⟩:=List.nodup_append.mp n2
 have na:Nw M (A++(some v,Sl.tr S d)::B) a:=.inr (by rw[oe];exact List.mem_append_right _ (List.mem_append_left _ ma))
 have kN:Keep (Nw M (A++(some v,Sl.tr S d)::B)) H (upd H a o):=Keep.own na
 have oe2:oas (A++(some v,Sl.tr S' d')::B)=oas A++(S'++oas B):=by rw[oas_app,oas_cons,own1_tr]
 have inS:∀ b,b∈S'→b∈S:=fun b z=>pm.mem_iff.mpr (List.mem_append_left _ z)
 have up:∀ b,Nw M (A++(some v,Sl.tr S' d')::B) b→Nw M (A++(some v,Sl.tr S d)::B) b:=Nw.sub fun b z=>by
  rw [oe2] at z
  rw [oe]
  rcases List.mem_append.mp z with z|z
  ·exact List.mem_append_left _ z
  ·rcases List.mem_append.mp z with z|z
   ·exact List.mem_append_right _ (List.mem_append_left _ (inS b z))
   ·exact List.mem_append_right _ (List.mem_append_right _ z)
 have upo:∀ (b:Addr) (u:HO),upd H a o b=some u→Nw M (A++(some v,Sl.tr S' d')::B) b→Nw M (A++(some v,Sl.tr S d)::B) b:=fun b _ _ z=>up b z
 have back:∀ x t,(x,t)∈A∨(x,t)∈B→(x,t)∈A++(some v,Sl.tr S d)::B:=fun x t m=>by
  rcases m with m|m
  ·exact List.mem_append_left _ m
  ·exact List.mem_append_right _ (List.mem_cons_of_mem _ m)
 have old:∀ x t,(x,t)∈A++(some v,Sl.tr S' d')::B→(x,t)=(some v,Sl.tr S' d')∨((x,t)∈A∨(x,t)∈B):=fun x t m=>by
  rcases List.mem_append.mp m with m|m
  ·exact .inr (.inl m)
  ·rcases List.mem_cons.mp m with m|m
   ·exact .inl m
   ·exact .inr (.inr m)
 have other:∀ x t b,(x,t)∈A∨(x,t)∈B→b∈own1 (x,t)→b≠a:=fun x t b m eo z=>by
  subst z
  rcases m with m|m
  ·exact n3 b (mem_oas.mpr ⟨_,m,eo⟩) b (List.mem_append_left _ ma) rfl
  ·exact n6 b ma b (mem_oas.mpr ⟨_,m,eo⟩) rfl
 refine ⟨h.keep.put (h0 a ma),fun b q z=>?_,h.mt,h.pm,fun x d' m=>?_,fun x d' m=>?_,fun x d' m=>?_,fun x S2 d' m=>?_,?_⟩
 ·by_cases hb:b=a
  ·subst hb;rw[upd_same] at z;cases z
  ·rw [upd_ne hb] at z;exact h.live b q z
 ·rcases old _ _ m with m|m
  ·cases m
  ·obtain ⟨w',e1,dn⟩:=h.fr x d' (back _ _ m)
   exact ⟨w',e1,(dn.keep kN).to upo⟩
 ·rcases old _ _ m with m|m
  ·cases m
  ·obtain ⟨b,us2,e1,e2,dn,r2⟩:=h.ow x d' (back _ _ m)
   subst e1
   exact ⟨b,us2,rfl,by rw[upd_ne (other _ _ b m (List.mem_singleton.mpr rfl))];exact e2,(dn.keep kN).to upo,r2⟩
 ·rcases old _ _ m with m|m
  ·cases m
  ·obtain ⟨b,us2,e1,e2,dn,r2⟩:=h.io x d' (back _ _ m)
   subst e1
   exact ⟨b,us2,rfl,by rw[upd_ne (other _ _ b m (List.mem_singleton.mpr rfl))];exact e2,(dn.keep kN).to upo,r2⟩
 ·rcases old _ _ m with m|m
  ·cases m
   exact ⟨v,rfl,ot'.to upo,fun b hb=>h0 b (inS b hb)⟩
  ·obtain ⟨w',e1,dn,r2⟩:=h.tr x S2 d' (back _ _ m)
   subst e1
   exact ⟨w',rfl,(dn.keep kN fun b hb=>upd_ne (other _ _ b m (by rw[own1_tr];exact hb))).to upo,r2⟩
 ·rw [oe2]
  have nd':(oas A++((S'++R)++oas B)).Nodup:=(List.Perm.append_left _ (List.Perm.append_right _ pm)).nodup_iff.mp nd
  refine nd'.sublist (List.Sublist.append_left (List.Sublist.append_right ?_ _) _)
  exact List.sublist_append_left _ _
theorem Rel.retreeT {i:Nat}{S S' R:List Addr}{d':PyData}{a:Addr}{o:HO} (h:Rel K M P H0 σ0 σ env ts H) (e:env[i]? = some (.tr S d)) (ev:σ[i]? = some (some v)) (ma:a∈S) (pm:S.Perm (S'++R)) (ot':OT K (Nw M (ents σ env ts)) (upd H a o) v d' S') :
  Rel K M P H0 σ0 σ (env.set i (.tr S' d')) ts (upd H a o):=by
 obtain ⟨x,A,B,e1,q1,q2⟩:=h.split e
 rw [ev] at e1
 cases e1
 have r:=h.e
 rw [q1] at r ot'
 refine ⟨by rw[q2];exact r.retreeR ma pm ot',by simp[h.len],h.vw,fun j ds'' e'=>?_⟩
 by_cases hj:i=j
 ·subst hj
  have hi:i<env.length:=(List.getElem?_eq_some_iff.mp e).1
  rw [List.getElem?_set_self hi] at e'
  cases e'
 ·rw [List.getElem?_set_ne hj] at e'
  exact h.ios j ds'' e'
theorem Rel.dct {i:Nat}{S:List Addr} (h:Rel K M P H0 σ0 σ env ts H) (e:env[i]? = some (.tr S (dctD kvs))):∃ a es,σ[i]? = some (some (.ref a))∧S=[a]∧H a=some (.ext (DctAt a es))∧DNs K (Nw M (ents σ env ts)) H (es.map fun p=>V.int p.1) (kvs.map fun p=>stdD p.1) ∧
  DNs K (Nw M (ents σ env ts)) H (es.map fun p=>p.2.2) (kvs.map fun p=>p.2)∧es.map (fun p=>p.1)=kvs.map (fun p=>p.1):=by
 obtain ⟨x,e1,m⟩:=h.slot e
 obtain ⟨v,ev,ot,_⟩:=h.e.tr _ _ _ m
 obtain ⟨a,es,rfl,eS,ha,hk,hv,ee⟩:=ot.dct_of rfl
 exact ⟨a,es,by rw[e1,ev],eS,ha,hk,hv,ee⟩
end
section
variable {X:Cx}{K:PySem.W.Frag}{pos:Pos}{e:Expr}{te tj:DE}
theorem kIxK (hK:X.K=K) (hu:X.A.units+2<cLine):IxR X (rIxK K):=by subst hK;exact ix_K
theorem hu2 {k:Nat}{A:Around} (hr:Room k A):A.units+2<cLine:=Nat.lt_of_le_of_lt (Nat.add_le_add_left (by decide:2≤64) _) hr.units
noncomputable def dSetK (i:Nat) (tj te:DE):DS:=fun DD env=>te env fun s1 env1=>(∃ S kvs,env1[i]? = some (.tr S (dctD kvs)))∧tj env1 fun s2 env2=>∃ (S:List Addr) (kvs:List (StdK×PyData)) (k:StdK) (d:PyData),
 env2[i]? = some (.tr S (dctD kvs))∧keepOf env2 s2=some (stdD k)∧keepOf env2 s1=some d∧kvs.length<sizeLine∧DD.nx (env2.set i (.tr S (dctD (setK kvs k d))))
theorem q_setK (i:Nat) {y:Str}{npos spos:Pos}{j:Expr} (hK:X.K=K) (hu:X.A.units+2<cLine) (hN:X.N[i]? = some y) (hj:PE X j (up K tj)) (he:PE X e (up K te))
  (hv:Vis X.env.scope y:=by first|exact Or.inl rfl|exact Or.inr (Or.inl rfl)|exact Or.inr (Or.inr rfl)) (hd:(y==("__debug__" : Str))=false:=by decide)
  (hcd:(y==("__classdict__" : Str))=false:=by decide)
  (ha:∀ v,assign (.Subscript (.Name y npos) j spos) X.env v=(do
   let ov ←holding [v] (eval (.Name y npos) X.env)
   let iv ←holding [v,ov] (eval j X.env)
   standAt spos
   holding [v,ov,iv] (setItem ov iv v)
   release [v,ov,iv] []):=by intro _;rfl)
  (hs:swapsWithSole [.Subscript (.Name y npos) j spos] e pos.line X.env=pure false:=by rfl) (hw:swappedStores [.Subscript (.Name y npos) j spos] e X.env=pure none:=by rfl)
  (h1:(assignEach [.Subscript (.Name y npos) j spos] X.env).map (·.2)=[assign (.Subscript (.Name y npos) j spos) X.env]:=by rfl):PS X (.Assign [.Subscript (.Name y npos) j spos] e pos) (upS K (dSetK i tj te)):=by
 subst hK
 refine (ps_asg he (pg_sub (pe_var hN hv hd hcd) hj set_K ha) hs hw h1).imp fun D σ H h=>?_
 obtain ⟨M,P,H0,σ0,env,ts,DD,nv,rel,ht,ok⟩:=h
 refine ⟨M,P,H0,σ0,env,ts,_,rel,ht,fun s1 env1 v1 H1 h1 rel1=>?_⟩
 obtain ⟨⟨S0,kvs0,e0⟩,h1⟩:=h1
 obtain ⟨a,_,ea,_⟩:=rel1.dct e0
 refine ⟨.ref a,ea,M,P,H0,σ0,env1,ts++[(v1,s1)],_,rel1,h1,fun s2 env2 v2 H2 h2 rel2=>?_⟩
 obtain ⟨S,kvs,k,d,e2,ek,ed,hl,hR⟩:=h2
 have rel2':Rel X.K M P H0 σ0 σ env2 (ts++[(v1,s1),(v2,s2)]) H2:=by simpa using rel2
 have dn1:=rel2'.kept (v:=v1) (s:=s1) (by simp) ed
 have dn2:=rel2'.kept (v:=v2) (s:=s2) (by simp) ek
 obtain ⟨a',es,ea',eS,hH,hk,hv,ee⟩:=rel2'.drop.dct e2
 rw [ea] at ea'
 cases ea'
 have e2v:v2=.int k:=by cases dn2;rfl
 subst e2v
 have hlen:es.length=kvs.length:=by have:=congrArg List.length ee;simpa using this
 refine ⟨k,a,es,rfl,rfl,hH,by omega,ok.nx _ _ _ hR ?_⟩
 obtain ⟨p1,p2,p3⟩:=put_rel (k:=k) ee hk hv dn1
 have na:Nw M (ents σ env2 ts) a:=by
  obtain ⟨x,A,B,e1,q1,q2⟩:=rel2'.drop.split e2
  refine .inr ?_
  rw [q1,oas_app,oas_cons]
  rw [ea] at e1
  cases e1
  rw [own1_tr,eS]
  simp
 have kN:Keep (Nw M (ents σ env2 ts)) H2 (upd H2 a (.ext (DctAt a (putE es k v1)))):=Keep.own na
 refine rel2'.drop.retreeT (R:=[]) e2 ea (by rw[eS];simp) (by simp) ?_
 rw [eS]
 exact .dct upd_same (p2.keep kN) (p3.keep kN) p1
end
section
variable {K:PySem.W.Frag}{M P N:Addr→Prop}{H0 H H':Hp}{E T A B:List Ent}{σ0 σ:St}{env:List Sl}{ts tt:List (V×Sl)}{v:V}{s:Sl}{d:PyData}{kvs:List (StdK×PyData)}
theorem RelE.addD (h:RelE K M P H0 E H) {p:Addr} (hp:H p=none):RelE K M P H0 (E++[(some (.ref p),.tr [p] (dctD []))]) (upd H p (.ext (DctAt p []))):=by
 have oe:oas (E++[(some (.ref p),Sl.tr [p] (dctD []))])=oas E++[p]:=by
  rw [oas_app]
  rfl
 have np:p ∉ oas E:=fun z=>by
  obtain ⟨vs',q,_⟩:=h.own z
  rw [hp] at q
  cases q
 have h0:H0 p=none:=by
  cases e:H0 p with
  | none=>rfl
  | some o=>exact absurd hp (h.live p (by rw[e];simp))
 have up:∀ b o,H b=some o→Nw M (E++[(some (.ref p),Sl.tr [p] (dctD []))]) b→Nw M E b:=fun b o e z=>by
  rcases z with z|z
  ·exact .inl z
  ·rw [oe] at z
   rcases List.mem_append.mp z with z|z
   ·exact .inr z
   ·rw [List.mem_singleton.mp z,hp] at e
    cases e
 have h':=h.same (Same.new (o:=.ext (DctAt p [])) hp)
 refine ⟨h'.keep,h'.live,h.mt,h.pm,fun x d' m=>?_,fun x d' m=>?_,fun x d' m=>?_,fun x S d' m=>?_,?_⟩
 ·rcases List.mem_append.mp m with m|m
  ·obtain ⟨v,e,dn⟩:=h.fr x d' m
   exact ⟨v,e,(dn.to up).keep (Keep.same (Same.new hp))⟩
  ·rw [List.mem_singleton] at m
   cases m
 ·rcases List.mem_append.mp m with m|m
  ·obtain ⟨a,ws,e,e2,dn,r⟩:=h.ow x d' m
   exact ⟨a,ws,e,Same.new hp _ _ e2,(dn.to up).keep (Keep.same (Same.new hp)),r⟩
  ·rw [List.mem_singleton] at m
   cases m
 ·rcases List.mem_append.mp m with m|m
  ·obtain ⟨a,ws,e,e2,dn,r⟩:=h.io x d' m
   exact ⟨a,ws,e,Same.new hp _ _ e2,(dn.to up).keep (Keep.same (Same.new hp)),r⟩
  ·rw [List.mem_singleton] at m
   cases m
 ·rcases List.mem_append.mp m with m|m
  ·obtain ⟨v,e,dn,r⟩:=h.tr x S d' m
   exact ⟨v,e,(dn.to up).keep (Keep.same (Same.new hp)) fun a ha=>by
    obtain ⟨xs,z⟩:=dn.lives a ha
    rw [Same.new hp _ _ z,z],r⟩
  ·rw [List.mem_singleton] at m
   cases m
   exact ⟨_,rfl,.dct (es:=[]) (kvs:=[]) upd_same .nil .nil rfl,fun a ha=>by rw[List.mem_singleton.mp ha];exact h0⟩
 ·rw [oe]
  exact List.nodup_append.mpr ⟨h.nd,by simp,fun a ha b hb=>by rw[List.mem_singleton.mp hb];exact fun z=>np (z▸ha)⟩
theorem Rel.addD (h:Rel K M P H0 σ0 σ env ts H) {p:Addr} (hp:H p=none):Rel K M P H0 σ0 σ env (ts++[(.ref p,.tr [p] (dctD []))]) (upd H p (.ext (DctAt p []))):=h.withRes (h.e.addD hp) rfl
end
section
variable {X:Cx}{K:PySem.W.Frag}{pos:Pos}{e1 e2:Expr}{tk tv:DE}
noncomputable def dDct0:DE:=fun env R=>∀ S,R (.tr S (dctD [])) env
theorem q_dct0:PE X (.Dict [] [] pos) (up K dDct0):=pe_dct0.imp fun σ H Q h=>by
 obtain ⟨M,P,H0,σ0,env,ts,R,rel,ht,hq⟩:=h
 exact fun p hp=>hq _ _ _ _ (ht _) (rel.addD hp)
end
end L2
namespace L2
open PySem PySem.Spec PyProof.Rows
noncomputable abbrev wD (w:List (List Int)):PyData:=.list (w.map fun r=>fzD (r.map .int))
noncomputable abbrev waysD (W:List (List (List Int))):PyData:=.list (W.map wD)
section
variable {K:PySem.W.Frag}{M P N:Addr→Prop}{H0 H H':Hp}{E T A B:List Ent}{σ0 σ:St}{env:List Sl}{ts tt:List (V×Sl)}{v:V}{s:Sl}{d:PyData}
theorem OT.unfz {S:List Addr}{ds:List PyData} (h:OT K N H v d S) (e:d=fzD ds):DN K N H v (.list ds)∧S=[]:=by
 cases h with
 | @fz _ ds' h =>
  simp only [fzD,PyData.dict.injEq,List.cons.injEq,Prod.mk.injEq,PyData.list.injEq,and_true,true_and] at e
  subst e
  exact ⟨h,rfl⟩
 | dct _ _ _ _=>exact (fz_no e.symm).elim
 | _=>cases e
theorem DN.unfz {ds:List PyData} (h:DN K N H v d) (e:d=fzD ds):DN K N H v (.list ds):=by
 cases h with
 | @fz _ ds' h =>
  simp only [fzD,PyData.dict.injEq,List.cons.injEq,Prod.mk.injEq,PyData.list.injEq,and_true,true_and] at e
  subst e
  exact h
 | dct _ _ _ _ _=>exact (fz_no e.symm).elim
 | exc _ _ _ _=>simp[excD,fzD] at e
 | _=>cases e
theorem OTs.row:∀ {w:List (List Int)}{us:List V}{S:List Addr},OTs K N H us (w.map fun r=>fzD (r.map .int)) S→S=[]∧DNs K N H us (w.map fun r=>PyData.list (r.map .int))
 | [],_,_,h=>by cases h;exact⟨rfl,.nil⟩
 | r :: w,_,_,h=>by
  rw [List.map_cons] at h
  cases h with
  | cons h q =>
   obtain ⟨e1,e2⟩:=OTs.row q
   obtain ⟨d1,d2⟩:=h.unfz rfl
   subst e1 d2
   exact ⟨rfl,.cons d1 e2⟩
theorem DNs.row:∀ {w:List (List Int)}{us:List V},DNs K N H us (w.map fun r=>PyData.list (r.map .int))→OTs K N H us (w.map fun r=>fzD (r.map .int)) []
 | [],_,h=>by cases h;exact .nil
 | r::w,_,h=>by
  rw [List.map_cons] at h
  cases h with
  | cons h q=>exact .cons (S:=[]) (S':=[]) (.fz h) (DNs.row q)
theorem OTs.snoc {W:List (List (List Int))}{w:List (List Int)}{vs:List V}{S:List Addr}{b:Addr}{us:List V} (q:OTs K N H vs (W.map wD) S) (hb:H b=some (.lst us)) (dn:DNs K N H us (w.map fun r=>PyData.list (r.map .int))) :
  OTs K N H (vs++[.ref b]) ((W++[w]).map wD) (S++[b]):=by
 rw [List.map_append]
 refine q.app ?_
 have:=OTs.cons (OT.lst hb dn.row) (OTs.nil (K:=K) (N:=N) (H:=H))
 simpa using this
noncomputable def gIxZ:G2:=fun d e R=>∃ ds i x,seqOf d=some ds∧e=.int i∧atI ds i=some (fzD x)∧R (.list x)
theorem atI_lastV {α:Type} (xs:List α) (v:α):atI (xs++[v]) (-1)=some v:=by
 unfold atI ixN
 rw [if_neg (by decide),if_pos (by rw[List.length_append];simp;omega)]
 show (xs++[v])[(-1+((xs++[v]).length:Int)).toNat]? = some v
 rw [show (-1+((xs++[v]).length:Int)).toNat=xs.length by rw[List.length_append];simp;omega]
 simp
end
section
variable {X:Cx}{K:PySem.W.Frag}{pos npos:Pos}{y:Str}{j j2:Nat}{p3 p4 p5 p6 p7 apos cpos:Pos}
noncomputable def dTruthL (i:Nat):DT:=fun env R=>∃ (S:List Addr) (W:List (List (List Int))) (w:List (List Int)),env[i]? = some (.tr S (waysD (W++[w])))∧R (!w.isEmpty) env
noncomputable def dHeadL (i:Nat):DE:=fun env R=>∃ (S:List Addr) (W:List (List (List Int))) (r:List Int) (w:List (List Int)),env[i]? = some (.tr S (waysD (W++[r::w])))∧R (.fr (.list (r.map .int))) env
noncomputable def dPop0L (i:Nat):DE:=fun env R=>∃ (S:List Addr) (W:List (List (List Int))) (r:List Int) (w:List (List Int)),env[i]? = some (.tr S (waysD (W++[r::w])))∧R (.fr (.list (r.map .int))) (env.set i (.tr S (waysD (W++[w]))))
noncomputable def dPopL (i:Nat):DE:=fun env R=>∃ (S:List Addr) (W:List (List (List Int))) (w:List (List Int)),env[i]? = some (.tr S (waysD (W++[w])))∧∀ S',R .un (env.set i (.tr S' (waysD W)))
end
end L2
namespace L2
open PySem PySem.Spec PyProof.Rows PySem.W
theorem kasRun_bind {α β:Type}{lt:Nat→Nat→Bool}{f:α→KasT β}:∀ t:KasT α,kasRun lt (t.bind f)=kasRun lt (f (kasRun lt t))
 | .ret a=>rfl
 | .ask i j k=>kasRun_bind (k (lt i j))
theorem kasRun_ask {α:Type}{lt:Nat→Nat→Bool}{i j:Nat}{k:Bool→KasT α}:kasRun lt (.ask i j k)=kasRun lt (k (lt i j)):=rfl
noncomputable def gA (p:Array Nat) (k:Nat):Nat:=p.getD k 0
theorem gA_rev {p:Array Nat}{i j:Nat} (hj:j≤p.size) (k:Nat):gA (kas_rev p i j) k=if i≤k∧k<j then gA p (i+j - 1 - k) else gA p k:=by
 unfold gA kas_rev
 rw [Array.getD_eq_getD_getElem?,getElem?_mirror_all hj]
 split <;> rw[Array.getD_eq_getD_getElem?]
theorem gA_bub {p:Array Nat}{src d:Nat} (hs:src<p.size) (hd:d≤src) (k:Nat):gA (bubble p src d) k=if k=src - d then gA p src else if src - d<k∧k≤src then gA p (k - 1) else gA p k:=by
 unfold gA
 rw [Array.getD_eq_getD_getElem?,getElem?_bubble hs d hd]
 by_cases c1:k=src - d
 ·rw [if_pos c1,if_pos c1,←Array.getD_eq_getD_getElem?]
 ·rw [if_neg c1,if_neg c1]
  by_cases c2:src - d<k∧k≤src
  ·rw [if_pos c2,if_pos c2,←Array.getD_eq_getD_getElem?]
  ·rw [if_neg c2,if_neg c2,←Array.getD_eq_getD_getElem?]
theorem rev_size (p:Array Nat) (i j:Nat):(kas_rev p i j).size=p.size:=mirror_size _ _ _ _
section
variable {lt:Nat→Nat→Bool} (as:∀ a b,lt a b=true→lt b a=false) (tr:∀ a b c,lt a b=false→lt b c=false→lt a c=false)
noncomputable def AscA (lt:Nat→Nat→Bool) (p:Array Nat) (n:Nat):Prop:=∀ i,1≤i→i<n→lt (gA p i) (gA p (i - 1))=false
noncomputable def DescA (lt:Nat→Nat→Bool) (p:Array Nat) (n:Nat):Prop:=∀ i,1≤i→i<n→lt (gA p (i - 1)) (gA p i)=false
include as tr
theorem lt_irr (a:Nat):lt a a=false:=by
 cases e:lt a a with
 | false=>rfl
 | true=>have:=as a a e;rw[e] at this;cases this
theorem AscA.far {p:Array Nat}{n:Nat} (h:AscA lt p n):∀ d a,a+d<n→lt (gA p (a+d)) (gA p a)=false
 | 0,a,_=>lt_irr as tr _
 | d+1,a,hd=>by
  have h1:=h (a+(d+1)) (by omega) hd
  rw [show a+(d+1) - 1=a+d by omega] at h1
  exact tr _ _ _ h1 (AscA.far h d a (by omega))
theorem AscA.le {p:Array Nat}{n:Nat} (h:AscA lt p n) {a b:Nat} (hab:a≤b) (hb:b<n):lt (gA p b) (gA p a)=false:=by
 have:=AscA.far as tr h (b - a) a (by omega)
 rwa [show a+(b - a)=b by omega] at this
theorem DescA.far {p:Array Nat}{n:Nat} (h:DescA lt p n):∀ d a,a+d<n→lt (gA p a) (gA p (a+d))=false
 | 0,a,_=>lt_irr as tr _
 | d+1,a,hd=>by
  have h1:=h (a+(d+1)) (by omega) hd
  rw [show a+(d+1) - 1=a+d by omega] at h1
  exact tr _ _ _ (DescA.far h d a (by omega)) h1
theorem DescA.le {p:Array Nat}{n:Nat} (h:DescA lt p n) {a b:Nat} (hab:a≤b) (hb:b<n):lt (gA p a) (gA p b)=false:=by
 have:=DescA.far as tr h (b - a) a (by omega)
 rwa [show a+(b - a)=b by omega] at this
omit as tr in
theorem asc_run {p:Array Nat}:∀ (f n:Nat),1≤n→AscA lt p n→n≤kasRun lt (kas_asc p f n)∧kasRun lt (kas_asc p f n)≤n+f∧AscA lt p (kasRun lt (kas_asc p f n))∧(kasRun lt (kas_asc p f n)<n+f→lt (gA p (kasRun lt (kas_asc p f n))) (gA p (kasRun lt (kas_asc p f n) - 1))=true)
 | 0,n,_,h=>⟨Nat.le_refl _,Nat.le_refl _,h,fun z=>absurd z (Nat.lt_irrefl _)⟩
 | f + 1,n,hn,h=>by
  have e:kasRun lt (kas_asc p (f+1) n)=kasRun lt (if lt (gA p n) (gA p (n - 1))=true then KasT.ret n else kas_asc p f (n+1)):=rfl
  rw [e]
  cases c:lt (gA p n) (gA p (n - 1)) with
  | true=>exact⟨Nat.le_refl _,by show n≤_;omega,h,fun _=>c⟩
  | false =>
   rw [if_neg (by decide)]
   obtain ⟨a1,a2,a3,a4⟩:=asc_run (p:=p) f (n+1) (by omega) fun i hi hi2=>by
    by_cases hin:i=n
    ·rw [hin];exact c
    ·exact h i hi (by omega)
   exact ⟨by omega,by omega,a3,fun z=>a4 (by omega)⟩
theorem desc_rev {p:Array Nat}{n q:Nat} (hz:n≤p.size) (hq:q+1≤n) (h:DescA lt p n) (he:∀ i,n - (q+1)≤i→i+1<n→lt (gA p (i+1)) (gA p i)=false):DescA lt (kas_rev p (n - (q+1)) n) n:=by
 intro i h1 h2
 rw [gA_rev hz,gA_rev hz]
 by_cases hi:n - (q+1)≤i
 ·rw [if_pos (show n - (q+1)≤i∧i<n from ⟨hi,h2⟩)]
  by_cases hi2:n - (q+1)≤i - 1
  ·rw [if_pos (show n - (q+1)≤i - 1∧i - 1<n from ⟨hi2,by omega⟩)]
   have:=he (n - (q+1)+n - 1 - i) (by omega) (by omega)
   rwa [show n - (q+1)+n - 1 - i+1=n - (q+1)+n - 1 - (i - 1) by omega] at this
  ·rw [if_neg (by omega)]
   exact DescA.le as tr h (by omega) (by omega)
 ·rw [if_neg (by omega),if_neg (by omega)]
  exact h i h1 h2
theorem desc_run:∀ (f:Nat) (p:Array Nat) (n q:Nat),n+f≤p.size→q+1≤n→DescA lt p n→(∀ i,n - (q+1)≤i→i+1<n→lt (gA p (i+1)) (gA p i)=false) →
  ∃ p' n' q',kasRun lt (kas_desc f p n q)=(p',n',q')∧p'.size=p.size∧n≤n'∧n'≤n+f∧q'+1≤n'∧DescA lt p' n'∧∀ i,n' - (q'+1)≤i→i+1<n'→lt (gA p' (i+1)) (gA p' i)=false
 | 0,p,n,q,_,hq,h,he=>⟨p,n,q,rfl,rfl,Nat.le_refl _,Nat.le_refl _,hq,h,he⟩
 | f + 1,p,n,q,hz,hq,h,he=>by
  have e:kasRun lt (kas_desc (f+1) p n q)=kasRun lt (if lt (gA p n) (gA p (n - 1))=true then (if q>0 then kas_desc f (kas_rev p (n - (q+1)) n) (n+1) 0 else kas_desc f p (n+1) 0)
   else .ask (p.getD (n - 1) 0) (p.getD n 0) fun d=>if d=true then .ret (p,n,q) else kas_desc f p (n+1) (q+1)):=rfl
  rw [e]
  cases c:lt (gA p n) (gA p (n - 1)) with
  | true =>
   rw [if_pos rfl]
   have c':=as _ _ c
   by_cases hq0:q>0
   ·rw [if_pos hq0]
    have hd:=desc_rev as tr (p:=p) (n:=n) (q:=q) (by omega) hq h he
    obtain ⟨p',n',q',a1,a2,a3,a4,a5,a6,a7⟩:=desc_run f (kas_rev p (n - (q+1)) n) (n+1) 0 (by rw[rev_size];omega) (by omega) (fun i h1 h2=>by
     by_cases hin:i=n
     ·subst hin
      rw [gA_rev (by omega),gA_rev (by omega),if_neg (show ¬(i - (q+1)≤i∧i<i) by omega),if_pos (show i - (q+1)≤i - 1∧i - 1<i by omega)]
      refine tr _ _ _ ?_ c'
      exact DescA.le as tr h (by omega) (by omega)
     ·exact hd i h1 (by omega)) (fun i h1 h2=>by omega)
    exact ⟨p',n',q',a1,by rw[a2,rev_size],by omega,by omega,a5,a6,a7⟩
   ·rw [if_neg hq0]
    obtain ⟨p',n',q',a1,a2,a3,a4,a5,a6,a7⟩:=desc_run f p (n+1) 0 (by omega) (by omega) (fun i h1 h2=>by
     by_cases hin:i=n
     ·subst hin;exact c'
     ·exact h i h1 (by omega)) (fun i h1 h2=>by omega)
    exact ⟨p',n',q',a1,a2,by omega,by omega,a5,a6,a7⟩
  | false =>
   rw [if_neg (by decide)]
   have e2:kasRun lt (KasT.ask (p.getD (n - 1) 0) (p.getD n 0) fun d=>if d=true then .ret (p,n,q) else kas_desc f p (n+1) (q+1))=kasRun lt (if lt (gA p (n - 1)) (gA p n)=true then .ret (p,n,q) else kas_desc f p (n+1) (q+1)):=rfl
   rw [e2]
   cases c2:lt (gA p (n - 1)) (gA p n) with
   | true=>exact⟨p,n,q,rfl,rfl,Nat.le_refl _,by omega,hq,h,he⟩
   | false =>
    rw [if_neg (by decide)]
    obtain ⟨p',n',q',a1,a2,a3,a4,a5,a6,a7⟩:=desc_run f p (n+1) (q+1) (by omega) (by omega) (fun i h1 h2=>by
     by_cases hin:i=n
     ·subst hin;exact c2
     ·exact h i h1 (by omega)) (fun i h1 h2=>by
     by_cases hin:i+1=n
     ·rw [hin]
      have:i=n - 1:=by omega
      rw [this];exact c
     ·exact he i (by omega) (by omega))
    exact ⟨p',n',q',a1,a2,by omega,by omega,a5,a6,a7⟩
omit as tr in
theorem tail3_run {p:Array Nat}{n nrem:Nat} (h1:1≤n) (hn:n≤nrem) (hz:nrem≤p.size) (h:DescA lt p n) :
  ∃ m p',kasRun lt (kas_tail3 n nrem p)=(m,p')∧p'.size=p.size∧1≤m∧m≤nrem∧AscA lt p' m:=by
 unfold kas_tail3
 rw [kasRun_bind]
 have ha:AscA lt (kas_rev p 0 n) n:=fun i i1 i2=>by
  rw [gA_rev (by omega),gA_rev (by omega),if_pos (by omega),if_pos (by omega)]
  have:=h (n - i) (by omega) (by omega)
  rwa [show n - i - 1=0+n - 1 - i by omega,show n - i=0+n - 1 - (i - 1) by omega] at this
 obtain ⟨a1,a2,a3,_⟩:=asc_run (lt:=lt) (p:=kas_rev p 0 n) (nrem - n) n h1 ha
 exact ⟨_,_,rfl,rev_size _ _ _,by omega,by omega,a3⟩
theorem descPart_run {p:Array Nat}{n nrem:Nat} (hn:n+1≤nrem) (hz:nrem≤p.size) (h:DescA lt p (n+1)) :
  ∃ m p',kasRun lt (kas_descPart n nrem p)=(m,p')∧p'.size=p.size∧1≤m∧m≤nrem∧AscA lt p' m:=by
 unfold kas_descPart
 rw [kasRun_bind]
 obtain ⟨p',n',q',a1,a2,a3,a4,a5,a6,a7⟩:=desc_run as tr (nrem - (n+1)) p (n+1) 0 (by omega) (by omega) h fun i h1 h2=>by omega
 rw [a1]
 dsimp only
 split
 ·obtain ⟨m,p2,b1,b2,b3⟩:=tail3_run (p:=kas_rev p' (n' - (q'+1)) n') (n:=n') (nrem:=nrem) (by omega) (by omega) (by rw[rev_size];omega) (desc_rev as tr (by omega) a5 a6 a7)
  exact ⟨m,p2,b1,by rw[b2,rev_size,a2],b3⟩
 ·obtain ⟨m,p2,b1,b2,b3⟩:=tail3_run (p:=p') (n:=n') (nrem:=nrem) (by omega) (by omega) (by omega) a6
  exact ⟨m,p2,b1,by rw[b2,a2],b3⟩
theorem count_run {p:Array Nat}{nrem:Nat} (h1:1≤nrem) (hz:nrem≤p.size):∃ m p',kasRun lt (kas_count nrem p)=(m,p')∧p'.size=p.size∧1≤m∧m≤nrem∧AscA lt p' m:=by
 unfold kas_count
 rw [kasRun_bind]
 obtain ⟨a1,a2,a3,a4⟩:=asc_run (lt:=lt) (p:=p) (nrem - 1) 1 (Nat.le_refl _) fun i i1 i2=>by omega
 generalize kasRun lt (kas_asc p (nrem - 1) 1)=n at *
 split
 ·exact ⟨n,p,rfl,rfl,a1,by omega,a3⟩
 ·rename_i hne
  have hne:n≠nrem:=fun z=>hne (by rw[z];simp)
  have hst:=a4 (by omega)
  have hst':=as _ _ hst
  split
  ·rename_i hn1
   rw [kasRun_ask]
   have e:lt (p.getD 0 0) (p.getD (n - 1) 0)=lt (gA p 0) (gA p (n - 1)):=rfl
   rw [e]
   cases c:lt (gA p 0) (gA p (n - 1)) with
   | true=>exact⟨n,p,rfl,rfl,a1,by omega,a3⟩
   | false =>
    rw [if_neg (by decide)]
    obtain ⟨m,p2,b1,b2,b3⟩:=descPart_run as tr (p:=kas_rev p 0 n) (n:=n) (nrem:=nrem) (by omega) (by rw[rev_size];omega) fun i i1 i2=>by
     rw [gA_rev (by omega),gA_rev (by omega),if_pos (show 0≤i - 1∧i - 1<n by omega)]
     by_cases hin:i<n
     ·rw [if_pos (show 0≤i∧i<n by omega)]
      exact AscA.le as tr a3 (by omega) (by omega)
     ·rw [if_neg (show ¬(0≤i∧i<n) by omega)]
      have hin2:i=n:=by omega
      subst hin2
      rw [show 0+i - 1 - (i - 1)=0 by omega]
      exact tr _ _ _ c hst'
    exact ⟨m,p2,b1,by rw[b2,rev_size],b3⟩
  ·rename_i hn1
   have hn2:n=1:=by omega
   subst hn2
   exact descPart_run as tr (by omega) hz fun i i1 i2=>by
    have:i=1:=by omega
    subst this
    exact hst'
theorem place_run {p:Array Nat}{k:Nat} (h:AscA lt p k):∀ f l r,l≤r→r≤k→r - l≤f→(∀ i,i<l→lt (gA p k) (gA p i)=false)→(∀ i,r≤i→i<k→lt (gA p k) (gA p i)=true) →
  ∃ m,kasRun lt (kas_place p k f l r)=m∧m≤k∧(∀ i,i<m→lt (gA p k) (gA p i)=false)∧∀ i,m≤i→i<k→lt (gA p k) (gA p i)=true
 | 0,l,r,h1,h2,h3,hl,hr=>⟨l,rfl,by omega,hl,fun i i1 i2=>hr i (by omega) i2⟩
 | f + 1,l,r,h1,h2,h3,hl,hr=>by
  by_cases hlr:l≥r
  ·have e:kasRun lt (kas_place p k (f+1) l r)=l:=by show kasRun lt (if l≥r then KasT.ret l else _)=_;rw[if_pos hlr];rfl
   exact ⟨l,e,by omega,hl,fun i i1 i2=>hr i (by omega) i2⟩
  ·have e:kasRun lt (kas_place p k (f+1) l r)=kasRun lt (if lt (gA p k) (gA p ((l+r) / 2))=true then kas_place p k f l ((l+r) / 2) else kas_place p k f ((l+r) / 2+1) r):=by
    show kasRun lt (if l≥r then KasT.ret l else _)=_
    rw [if_neg hlr]
    rfl
   rw [e]
   cases c:lt (gA p k) (gA p ((l+r) / 2)) with
   | true =>
    rw [if_pos rfl]
    refine place_run h f l ((l+r) / 2) (by omega) (by omega) (by omega) hl fun i i1 i2=>?_
    cases c2:lt (gA p k) (gA p i) with
    | true=>rfl
    | false =>
     have:=tr _ _ _ c2 (AscA.le as tr h i1 i2)
     rw [c] at this
     cases this
   | false =>
    rw [if_neg (by decide)]
    refine place_run h f ((l+r) / 2+1) r (by omega) h2 (by omega) (fun i i1=>?_) hr
    exact tr _ _ _ c (AscA.le as tr h (by omega) (by omega))
theorem bin_run:∀ (f:Nat) (p:Array Nat) (k:Nat),k+f=p.size→AscA lt p k→AscA lt (kasRun lt (kas_bin f p k)) p.size
 | 0,p,k,e,h=>by
  rw [←e,Nat.add_zero]
  exact h
 | f + 1,p,k,e,h=>by
  have e1:kasRun lt (kas_bin (f+1) p k)=kasRun lt (kas_bin f (bubble p k (k - kasRun lt (kas_place p k k 0 k))) (k+1)):=by
   show kasRun lt ((kas_place p k k 0 k).bind _)=_
   rw [kasRun_bind]
  rw [e1]
  obtain ⟨m,em,hm,hl,hr⟩:=place_run as tr h k 0 k (Nat.zero_le _) (Nat.le_refl _) (by omega) (fun i hi=>by omega) fun i i1 i2=>by omega
  rw [em]
  have hsz:(bubble p k (k - m)).size=p.size:=bubble_size _ _ _
  rw [←hsz]
  refine bin_run f _ (k+1) (by rw[hsz];omega) fun i i1 i2=>?_
  rw [gA_bub (by omega) (by omega),gA_bub (by omega) (by omega),show k - (k - m)=m by omega]
  by_cases c1:i=m
  ·rw [if_pos c1,if_neg (by omega),if_neg (by omega)]
   exact hl (i - 1) (by omega)
  ·rw [if_neg c1]
   by_cases c2:m<i
   ·rw [if_pos (show m<i∧i≤k by omega)]
    by_cases c3:i - 1=m
    ·rw [if_pos c3,c3]
     exact as _ _ (hr m (Nat.le_refl _) (by omega))
    ·rw [if_neg c3,if_pos (show m<i - 1∧i - 1≤k by omega)]
     exact h (i - 1) (by omega) (by omega)
   ·rw [if_neg (by omega),if_neg (by omega),if_neg (by omega)]
    exact h i i1 (by omega)
theorem sort_run {n:Nat} (h1:1≤n):AscA lt (kasRun lt (kas_sort n)) n:=by
 unfold kas_sort
 rw [kasRun_bind]
 have hz:(List.toArray (List.range n)).size=n:=by simp
 obtain ⟨m,p,a1,a2,a3,a4,a5⟩:=count_run as tr (p:=List.toArray (List.range n)) (nrem:=n) h1 (by rw[hz];exact Nat.le_refl _)
 rw [a1]
 dsimp only
 rw [hz] at a2
 split
 ·rw [show max m 1=m by omega]
  have:=bin_run as tr (n - m) p m (by omega) a5
  rwa [a2] at this
 ·have hmn:n=m:=by omega
  rw [hmn]
  exact a5
end
end L2
namespace L2
open PySem PySem.Spec PyProof.Rows PySem.W
section
variable {prog:Program}{w:World}{A:Around}{E:Value→Shared→Prop}{s:Shared}
theorem ints_ok {us:List Value} (h2:2≤us.length) (k:∀ u∈us,∃ x t,u=Value.int x t):KeyOk prog w A us s:=by
 refine kas_kind (T:=.type "int") h2 (fun v hv=>?_) (by decide) (by rfl) ⟨rfl,fun i j C hi hj hc=>?_⟩
 ·obtain ⟨x,t,rfl⟩:=k v hv
  exact .now
 ·have e1:us.getD i Value.none=us[i]:=by simp[hi]
  have e2:us.getD j Value.none=us[j]:=by simp[hj]
  show wpAny (model prog w) A (keyLt' _ (us.getD i Value.none) (us.getD j Value.none)) C (fun _ _=>False) s
  rw [e1,e2]
  obtain ⟨x,t,ex⟩:=k us[i] (List.getElem_mem hi)
  obtain ⟨y,u,ey⟩:=k us[j] (List.getElem_mem hj)
  rw [ex,ey]
  exact kat_lt_int (hc _)
noncomputable def RowV (h:Heap) (v:Value):Prop:=∃ (l:Addr) (its:Array Value),v=.ref l∧h.IsList l its∧∀ j (h:j<its.size),∃ x t,its[j]=Value.int x t
theorem oneLt_list {l b:Addr}{items items2:Array Value}{Q:Bool→Shared→Prop} (hl:s.heap.IsList l items) (hb:s.heap.IsList b items2) (at1:∀ j (h:j<items.size),∃ x t,items[j]=Value.int x t) (at2:∀ j (h:j<items2.size),∃ x t,items2[j]=Value.int x t)
  (hu:A.units<cLine) (h:∀ c,Q c s):wpAny (model prog w) A (oneLt' true (.ref l) (.ref b)) Q E s:=by
 obtain ⟨⟨cls,dd,data,sl⟩,ho,hc,n,hd⟩:=id hl
 obtain ⟨⟨cls2,dd2,data2,sl2⟩,ho2,hc2,n2,hd2⟩:=id hb
 simp only at hc hd hc2 hd2
 subst hc hd hc2 hd2
 rw [oneLt'_eq]
 simp only [if_true]
 refine wpAny_bind (wpAny_cRoomFor hu ?_)
 refine wpAny_bind (wpAny_callSpecialIfBound?_slot ⟨_,ho,rfl⟩ F.slot_list_lt (call_meets F.slot_list_lt ⟨_,ho,rfl⟩ F.entry_list_lt (F.args_list_lt_2 _ _) (list_ltAt l b items items2 n n2 dd dd2 sl sl2 at1 at2) ⟨ho,ho2,fun c=>?_⟩))
 exact wpAny_truthy_bool (h c)
theorem rows_ok {us:List Value} (hu:A.units<cLine) (h2:2≤us.length) (k:∀ u∈us,RowV s.heap u):KeyOk prog w A us s:=by
 refine kas_kind (T:=.type "list") h2 (fun v hv=>?_) (by decide) (by rfl) ⟨rfl,fun i j C hi hj hc=>?_⟩
 ·obtain ⟨l,its,rfl,⟨o,ho,hc,_⟩,_⟩:=k v hv
  exact hc▸(Looks.ld ho).andThen .now
 ·have e1:us.getD i Value.none=us[i]:=by simp[hi]
  have e2:us.getD j Value.none=us[j]:=by simp[hj]
  show wpAny (model prog w) A (keyLt' _ (us.getD i Value.none) (us.getD j Value.none)) C (fun _ _=>False) s
  rw [e1,e2]
  obtain ⟨l,its,el,i1,i2⟩:=k us[i] (List.getElem_mem hi)
  obtain ⟨b,its2,eb,j1,j2⟩:=k us[j] (List.getElem_mem hj)
  rw [el,eb,keyLt'_oneType]
  exact oneLt_list i1 j1 i2 j2 hu hc
end
noncomputable def isIntD (d:PyData):Prop:=∃ n:Int,d=.int n
section
variable {X:Cx}{pins:List (Addr×Obj)}{σ:St}{H:Hp}{s:Shared}
theorem ints_of (I:Inv X pins σ H s):∀ {vs:List V}{ds:List PyData}{us:List Value},DVs X.K H vs ds→Vals vs us→(∀ d∈ds,isIntD d)→∀ u∈us,∃ x t,u=Value.int x t
 | _,_,_,.nil,.nil,_,u,h=>by cases h
 | _,_,_,.cons (d:=d) q1 q2,.cons r t,hk,u,h=>by
  rcases List.mem_cons.mp h with rfl|h
  ·obtain ⟨n,rfl⟩:=hk d (by simp)
   cases q1
   obtain ⟨t,rfl⟩:=r
   exact ⟨_,_,rfl⟩
  ·exact ints_of I q2 t (fun d hd=>hk d (by simp[hd])) u h
theorem rowsV_of (I:Inv X pins σ H s):∀ {vs:List V}{ds:List PyData}{us:List Value},DVs X.K H vs ds→Vals vs us→(∀ d∈ds,isRow d)→∀ u∈us,RowV s.heap u
 | _,_,_,.nil,.nil,_,u,h=>by cases h
 | _, _,_,.cons (d:=d) q1 q2,.cons r t,hk,u,h=>by
  rcases List.mem_cons.mp h with rfl|h
  ·obtain ⟨ns,rfl⟩:=hk d (by simp)
   obtain ⟨a,xs,rfl,sq,q⟩:=q1.lstI
   obtain ⟨its,rv,hp,_⟩:=I.list sq
   exact ⟨a,its.toArray,r,hp.isList,fun j hj=>by
    have:=key_ints q rv j (by simpa using hj)
    simpa using this⟩
  ·exact rowsV_of I q2 t (fun d hd=>hk d (by simp[hd])) u h
end
section
variable {X:Cx}{pins:List (Addr×Obj)}{σ:St}{H0:Hp}{f:Value}{vs:List Value}{A:Around}{E:Value→Shared→Prop}{a kS:Addr}
end
section
variable {X:Cx}{pins:List (Addr×Obj)}{σ:St}{H0:Hp}{f:Addr}{vs:List Value}{A:Around}{E:Value→Shared→Prop}{s:Shared}
end
end L2
namespace L2
open PySem PySem.Spec PyProof.Rows PySem.W
section
variable {X:Cx}{K:PySem.W.Frag}
noncomputable def dSrtI (t:DA):DE:=fun env R=>t env fun ss env1=>∃ s ds,ss=[s]∧valOf env1 s=some (.list ds)∧(∀ d∈ds,isIntD d)∧ds.length<64∧∀ es:List PyData,es.Perm ds→R (.ow es) env1
variable {e:Expr}{p pos:Pos}{tl:DA}
end
noncomputable def cxCl (CX:CXT) (P:Program) (w:World) (K:PySem.W.Frag) (mg:Str→Option Value) (base:Heap) (N:List Str) (qual:Str) (scope:Scope) (f:Addr) (cd:Value) (cl:List (Str×Addr)) (A:Around) (outer:List Env) (s:Shared) (H:Hp) (E:XK):Cx where
 prog:=P
 w := w
 K := K
 mg := mg
 base:=base
 A := A.deeper (envX qual scope s.heap.objs.size f cd cl)
 N := N
 s₀ := s
 H₀ := H
 env:=envX qual scope s.heap.objs.size f cd cl
 outer:=outer
 stack:=envX qual scope s.heap.objs.size f cd cl::outer
 ex := []
 calm:=true
 fn := fun _=>false
 pn := []
 xe := fun e s'=>wpAny (model P w) (A.deeper (envX qual scope s.heap.objs.size f cd cl)) (leaving (envX qual scope s.heap.objs.size f cd cl) e) (fun _ s''=>CX outer H s E e s'') (fun e' s''=>CX outer H s E e' s'') s'
structure LamScope (p x:Str) (sc:Scope):Prop where
 kind:sc.kind=.function
 co : sc.isCoroutine=false
 gen:sc.isGenerator=false
 par:sc.names.lookup p=some .local
 fre:sc.names.lookup x=some .free
 nocell:∀ y∈sc.names,y.2≠.cell
 one:∀ y∈sc.names,y.2=.free→y.1=x
 ne : p≠x
section
variable {CX:CXT}{P:Program}{w:World}{K:PySem.W.Frag}{mg:Str→Option Value}{base:Heap}{qual p x:Str}{scope:Scope}{f c:Addr}{cd:Value}{A:Around}{outer:List Env}{s:Shared}{H:Hp}{E:XK}{u u0:Value}{v v0:V}{h₁:Heap}{tk:Nat}
theorem inv_startC (S:LamScope p x scope) (hd:A.handled=none) (e0:Env0 P w K mg base A outer s H) (hcell:s.heap.IsCell c (some u0)) (r0:RelV v0 u0) (hc0:H c=none) (r:RelV v u)
  (hns:h₁.Ns s.heap.objs.size (fun y=>[(p,u)].reverse.lookup y)) (hk:∀ b o,s.heap.get? b=some o→h₁.get? b=some o) :
  Inv (cxCl CX P w K mg base [p,x] qual scope f cd [(x,c)] A outer s H E) [] [some v,some v0] H { s with heap:=h₁,toks:=tk }:=by
 have noA:∀ b:Addr,b ∉ (cxCl CX P w K mg base [p,x] qual scope f cd [(x,c)] A outer s H E).ex:=fun b z=>absurd (show b∈([]:List Addr) from z) (by simp)
 have look:∀ y d,List.lookup y [(x,c)]=some d→y=x∧d=c:=fun y d h=>by
  have:=PySem.mem_of_lookup h
  rw [List.mem_singleton] at this
  cases this
  exact ⟨rfl,rfl⟩
 have lx:List.lookup x [(x,c)]=some c:=by simp
 refine ⟨⟨e0.mod,S.kind,rfl,rfl,Nat.le_refl _,fun y z d h1 h2=>?_,fun y hy=>?_,fun y d h=>absurd h (by show ¬false=true;decide),fun _=>hd,Around.frames_deeper e0.frames,.inr ⟨rfl,rfl⟩,fun b z=>absurd z (noA b),e0.bs,e0.bsz,fun b _ _=>noA b,fun b z=>absurd z (noA b),e0.funs,e0.frf,e0.tab⟩,
  rfl,e0.bare,Un.kept hk,⟨_,hns,fun i y z h1 h2 h3=>?_⟩,fun y d h=>?_,e0.hok.fresh (Nat.le_refl _),fun y d h=>?_,fun q hq=>absurd (show q∈([]:List (Addr×Obj)) from hq) (by simp),e0.hok.kept hk,rfl⟩
 ·rw [(look y d h1).1,(look z d h2).1]
 ·have hy:scope.names.lookup y=some .cell∨scope.names.lookup y=some .free:=hy
  rcases hy with hy|hy
  ·exact absurd rfl (S.nocell _ (PySem.mem_of_lookup hy))
  ·have:=S.one _ (PySem.mem_of_lookup hy) rfl
   simp only at this
   rw [this]
   exact ⟨c,lx⟩
 ·match i,h1,h2 with
  | 0,h1,h2 =>
   have h1:p=y:=by simpa [cxCl] using h1
   have h2:v=z:=by simpa using h2
   subst h1 h2
   refine ⟨u,r,.inl ⟨S.par,?_⟩⟩
   simp
  | 1,h1,h2 =>
   have h1:x=y:=by simpa [cxCl] using h1
   have h2:v0=z:=by simpa using h2
   subst h1 h2
   exact ⟨u0,r0,.inr ⟨.inr S.fre,c,lx,hcell.keeps hk⟩⟩
  | i+2,h1,h2=>simp at h2
 ·obtain ⟨_,rfl⟩:=look y d h
  exact ⟨_,hcell.keeps hk⟩
 ·obtain ⟨_,rfl⟩:=look y d h
  exact hc0
theorem lam_runC {params:Arguments}{body:Expr}{pm ctv:Value}{c':Addr}{t:TE}{Q:VK}{k:Nat} (S:LamScope p x scope) (hr:Room (k+1) A) (e0:Env0 P w K mg base A outer s H) (ho:s.heap.get? f=some (kla_obj "<lambda>" qual params body scope [(x,c)] pm c' ctv)) (hcd:s.heap.CodeRec (.ref c') qual)
  (hb:bindArgs (kla_fn "<lambda>" qual params body scope [(x,c)] pm (.ref c') ctv) ⟨[u],[]⟩=pure [(p,u)]) (hcell:s.heap.IsCell c (some u0)) (r0:RelV v0 u0) (hc0:H c=none) (r:RelV v u)
  (ht:PE (cxCl CX P w K mg base [p,x] qual scope f (.ref c') [(x,c)] A outer s H E) body t) (hq:t [some v,some v0] H Q):codeAny (model P w) A (.call (.ref f) ⟨[u],[]⟩) (CR CX outer P w H s Q E) s:=by
 have lim:s.heap.NoLimit:=e0.mod.nolimit.keeps fun b o e=>(e0.bs b o e).1
 refine kla_callFunE hr.depth ho rfl S.co S.gen rfl hcd ?_
 rw [hb]
 refine wpAny_pure (wpAny_newFunctionEnv S.nocell (fun y hy=>by rw[List.mem_singleton.mp hy];exact S.par) (fun h₁ hns hsb=>⟨lim.fresh _ hsb,?_⟩) S.kind)
 have hk₁:∀ b o,s.heap.get? b=some o→h₁.get? b=some o:=fun b o e=>hsb.extBut b o (Nat.ne_of_lt (Heap.lt_size e)) (Heap.get?_push_of_some _ e)
 show codeAny _ _ (.expr body (envX qual scope s.heap.objs.size f (.ref c') [(x,c)])) _ _
 refine kla_codeExpr ?_
 have I:=inv_startC (CX:=CX) (E:=E) (qual:=qual) (f:=f) (cd:=.ref c') (tk:=s.toks+[(p,u)].length) S hr.hd e0 hcell r0 hc0 r hns hk₁
 refine wpAny_mono (ht [] _ _ H _ I hq) (fun u' s' hs=>?_) fun e s' hs=>hs
 obtain ⟨z,H',J,rv,q⟩:=hs
 exact ⟨z,H',J.os,J.bare,J.base,J.hok,rv,q⟩
end
section
variable {X:Cx}{pins:List (Addr×Obj)}{σ:St}{H:Hp}{s:Shared}{params:Arguments}{body:Expr}{scope:Scope}{pos:Pos}{E:Value→Shared→Prop}{clos:List (Str×Addr)}
theorem lam_makeC (I:Inv X pins σ H s) (L:LamAt X) (hcl:closureFor scope X.env=pure clos) (hdef:defaultsOf params X.env=([],[])) {Q:Value→Shared→Prop}
  (h : ∀ f c' pm ctv s' H',Inv X pins σ H' s'→Same H H'→s'.heap.get? f=some (kla_obj "<lambda>" (X.env.qual ++ "<lambda>") params body scope clos pm c' ctv)→FpOk X pins H' f→CodeFz H' c' (X.env.qual ++ "<lambda>")→Q (.ref f) s') :
  wpAny (model X.prog X.w) X.A (eval (.Lambda params body scope pos) X.env) Q E s:=by
 obtain ⟨c,T,hcode,C,hL⟩:=L
 have hT:H T=some (.tbl (X.env.qual ++ "<lambda>")):=I.base.tbls T _ (I.ok.tab T _ hL)
 obtain ⟨ps,e,htr,hgood⟩:=I.hok T _ hT
 obtain ⟨bm,ob,b1,b2,b3,b4,b5,b6⟩:=I.mod.bmain
 have hg:=I.mod.glob.keeps I.bk
 have hgP:mainGlobals≠T:=fun q=>by
  obtain ⟨o,es,ep,e',hd,_⟩:=hg
  rw [q,e] at e';cases e';cases hd
 have hbP:bm≠T:=fun q=>by
  have e':=I.bk _ _ b3
  rw [q,e] at e';cases e';cases b4
 have hbG:bm≠mainGlobals:=fun q=>by
  obtain ⟨o,es,ep,e',hd,_⟩:=hg
  have e2:=I.bk _ _ b3
  rw [q,e'] at e2;cases e2;rw[hd] at b6;cases b6
 have hB:s.heap.BuiltinsAt X.mg T:=⟨bm,ob,b1,b2,hbG,hbP,I.bk _ _ b3,b4,b5,b6⟩
 refine kla_eval hdef ?_
 cases hc:codeAmong pos ps.toList with
 | none =>
  refine kla_makeFunction hcl I.ok.glob hg hcode (C.keeps I.bk) e htr hc hgP hB fun c' ctv h' tk hx hge hlt hrec htb=>?_
  obtain ⟨c2,oc,vs,t,e2,hoc,hd,hv⟩:=hrec
  cases e2
  have ht2:TabOk (upd H c' (.frz oc (.own 0))) h' T (X.env.qual ++ "<lambda>"):=by
   refine ⟨_,htb,by rw[Array.toList_append];exact TriplesOk_snoc _ _ _ _ htr,fun p cv hcv=>?_⟩
   rw [Array.toList_append] at hcv
   rcases among_snoc _ htr hcv with hcv|rfl
   ·obtain ⟨c2,oc2,u2,vs2,t2,e1,e2,e3⟩:=hgood _ _ hcv
    exact ⟨c2,oc2,u2,vs2,t2,e1,by rw[upd_ne (ne_of_none e2 (I.hok.fresh hge))];exact e2,e3⟩
   ·exact ⟨c',oc,_,vs,t,rfl,upd_same,hd,hv⟩
  obtain ⟨I2,sm⟩:=I.grow (tk:=tk) hT hx hge hoc hd hv ht2
  have I3:=I2.kept (t':=tk) (h':=h'.push (kla_obj "<lambda>" (X.env.qual ++ "<lambda>") params body scope clos ((X.mg "__name__").getD .none) c' ctv)) fun b o e=>Heap.get?_push_of_some _ e
  exact h _ c' _ ctv _ _ I3 sm (Heap.get?_push_size _ rfl) (I2.fpOk (Nat.le_refl _) (I2.hok.fresh (Nat.le_refl _))) ⟨_,_,_,_,upd_same,hd,hv⟩
 | some cv =>
  obtain ⟨c',oc,u,vs,t,rfl,e1,hd,hv⟩:=hgood _ _ hc
  obtain ⟨hoc,_⟩:=I.hok c' _ e1
  refine kla_makeFunctionHit hcl I.ok.glob hg hcode (C.keeps I.bk) e htr hc hB fun ctv h' tk hk hsz=>?_
  have I2:=I.kept (t':=tk) hk
  have I3:=I2.kept (t':=tk) (h':=h'.push (kla_obj "<lambda>" (X.env.qual ++ "<lambda>") params body scope clos ((X.mg "__name__").getD .none) c' ctv)) fun b o e=>Heap.get?_push_of_some _ e
  exact h _ c' _ ctv _ _ I3 (Same.refl _) (Heap.get?_push_size _ rfl) (I2.fpOk (Nat.le_refl _) (I2.hok.fresh (Nat.le_refl _))) ⟨_,_,_,_,e1,hd,hv⟩
end
end L2
namespace L2
open PySem PySem.Spec PyProof.Rows PySem.W
theorem rel_two {K:PySem.W.Frag}{H:Hp}{v v0:V}{d d0:PyData} (h:DN K N0 H v d) (h0:DN K N0 H v0 d0):Rel K N0 N0 H [some v,some v0] [some v,some v0] [.fr d,.fr d0] [] H:=by
 have oe:oas (ents [some v,some v0] [Sl.fr d,Sl.fr d0] [])=[]:=by
  show oas [(some v,Sl.fr d),(some v0,Sl.fr d0)]=[]
  rw [oas_cons,oas_cons,own1_fr,own1_fr]
  rfl
 have ne:∀ b,Nw N0 (ents [some v,some v0] [Sl.fr d,Sl.fr d0] []) b→N0 b:=fun b z=>by
  rcases z with z|z
  ·exact z
  ·rw [oe] at z;cases z
 have mm:∀ x s,(x,s)∈ents [some v,some v0] [Sl.fr d,Sl.fr d0] []→(x=some v∧s=.fr d)∨(x=some v0∧s=.fr d0):=fun x s m=>by
  have m:(x,s)∈[(some v,Sl.fr d),(some v0,Sl.fr d0)]:=m
  simp at m
  exact m
 refine ⟨⟨Keep.refl,fun a h=>h,fun a z=>z.elim,fun a z=>z,fun x e m=>?_,fun x e m=>?_,fun x e m=>?_,fun x S e m=>?_,by rw[oe];exact List.nodup_nil⟩,rfl,fun w i m=>(by cases m),fun i ds e=>rfl⟩
 ·rcases mm _ _ m with ⟨rfl,e1⟩|⟨rfl,e1⟩
  ·cases e1;exact⟨v,rfl,h.to fun b _ _ z=>ne b z⟩
  ·cases e1;exact⟨v0,rfl,h0.to fun b _ _ z=>ne b z⟩
 ·rcases mm _ _ m with ⟨_,e1⟩|⟨_,e1⟩ <;> cases e1
 ·rcases mm _ _ m with ⟨_,e1⟩|⟨_,e1⟩ <;> cases e1
 ·rcases mm _ _ m with ⟨_,e1⟩|⟨_,e1⟩ <;> cases e1
section
variable {X:Cx}{pins:List (Addr×Obj)}{σ:St}{H:Hp}{s:Shared}{params:Arguments}{scope:Scope}{body:Expr}{f c c':Addr}{qual p x:Str}{pm ctv:Value}{k:Nat}{A:Around}
noncomputable def keyTo (KP:PyData→Prop) (tb:DE) (d d0:PyData):Prop:=tb [.fr d,.fr d0] fun s env=>∃ kd,keepOf env s=some kd∧KP kd
theorem lam_keyC {KP:PyData→Prop}{tb:DE}{d d0:PyData}{v v0:V}{u u0:Value} (I:Inv X pins σ H s) (hA:Env0 X.prog X.w X.K X.mg X.base A X.stack s H) (hr:Room (k+1) A) (S:LamScope p x scope)
  (hb:bindArgs (kla_fn "<lambda>" qual params body scope [(x,c)] pm (.ref c') ctv) ⟨[u],[]⟩=pure [(p,u)])
  (hbody:PE (cxCl CX0 X.prog X.w X.K X.mg X.base [p,x] qual scope f (.ref c') [(x,c)] A X.stack s H E0) body (up X.K tb))
  (ho:s.heap.get? f=some (kla_obj "<lambda>" qual params body scope [(x,c)] pm c' ctv)) (hcd:s.heap.CodeRec (.ref c') qual) (hcell:s.heap.IsCell c (some u0)) (r0:RelV v0 u0) (hc0:H c=none)
  (r : RelV v u) (hd:DN X.K N0 H v d) (hd0:DN X.K N0 H v0 d0) (hk:keyTo KP tb d d0) :
  wpAny (model X.prog X.w) A (call (.ref f) [u]) (fun r s'=>∃ kd,KP kd∧KeyEnd X pins σ H s kd r s') (fun _ _=>False) s:=by
 refine wpAny_call (codeAny_mono (lam_runC (CX:=CX0) (E:=E0) (Q:=fun v H'=>Same H H'∧∃ kd,KP kd∧DN X.K N0 H' v kd) S hr hA ho hcd hb hcell r0 hc0 r hbody ?_) fun res s' hq=>?_)
 ·refine ⟨N0,N0,H,[some v,some v0],[.fr d,.fr d0],[],_,rel_two hd hd0,hk,fun s1 env' v' H' hR rel'=>?_⟩
  obtain ⟨kd,ek,hkd⟩:=hR
  refine ⟨(rel'.e.keep).none,kd,hkd,?_⟩
  have:=rel'.kept (ts:=[]) (v:=v') (s:=s1) (by simp) ek
  exact this.to fun b _ _ z=>z.elim
 ·cases res with
  | error e=>exact hq.elim
  | ok fl =>
   cases fl with
   | ret z =>
    obtain ⟨v1,H',os,bare,un,hok,rv,sm,kd,hkd,dn⟩:=hq
    refine ⟨kd,hkd,H',v1,I.call' (ch:=[]) os un hok bare (fun b z=>nomatch z),sm,rv,dn,fun b o hfp e=>⟨un.keep b o e hfp.1 (fun z=>?_) (by simp),un.free b o e hfp.1 (by simp)⟩⟩
    rcases List.mem_cons.mp (I.stkSub b z) with z|z
    ·exact hfp.2.1 z
    ·exact hfp.2.2.1 z
   | next=>exact False.elim hq
   | brk=>exact False.elim hq
   | cont=>exact False.elim hq
end
section
variable {X:Cx}{K:PySem.W.Frag}{e:Expr}{t:TA}{q0 pos kpos lpos:Pos}{params:Arguments}{scope:Scope}{body:Expr}{p x:Str}{i:Nat}{tb:DE}{KP:PyData→Prop}
noncomputable def KeyKd (KP:PyData→Prop):Prop:=KP=isIntD∨KP=isRow
theorem KeyKd.ok (h:KeyKd KP) {A:Around}{σ:St} (hu:A.units<cLine) {pins:List (Addr×Obj)}{H:Hp}{s:Shared}{kv:List V}{kd:List PyData}{ks:List Value} (I:Inv X pins σ H s) (dv:DVs X.K H kv kd) (rv:Vals kv ks) (hk:∀ d∈kd,KP d) (h2:2≤ks.length):KeyOk X.prog X.w A ks s:=by
 rcases h with rfl|rfl
 ·exact ints_ok h2 (ints_of I dv rv hk)
 ·exact rows_ok hu h2 (rowsV_of I dv rv hk)
noncomputable def dSrtC (KP:PyData→Prop) (tb:DE) (i:Nat) (t:DA):DE:=fun env R=>t env fun ss env1=>∃ s ds d0,ss=[s]∧valOf env1 s=some (.list ds)∧env1[i]? = some (.fr d0)∧ds.length<64∧(∀ d∈ds,keyTo KP tb d d0)∧∀ es:List PyData,es.Perm ds→R (.ow es) env1
variable {tl:DA}
end
end L2
namespace L2
open PySem PySem.Spec PyProof.Rows PySem.W
theorem lex_irr:∀ a:List Int,HT.lexLt a a=false
 | []=>HT.lexLt_nil_nil
 | x::a=>by rw[HT.lexLt_cons,if_pos rfl];exact lex_irr a
theorem lex_as:∀ a b:List Int,HT.lexLt a b=true→HT.lexLt b a=false
 | [],[],h=>by rw[HT.lexLt_nil_nil] at h;cases h
 | [],y::b,_=>HT.lexLt_cons_nil ..
 | x::a,[],h=>by rw[HT.lexLt_cons_nil] at h;cases h
 | x :: a,y::b,h=>by
  rw [HT.lexLt_cons] at h ⊢
  by_cases e:x=y
  ·rw [if_pos e] at h
   rw [if_pos e.symm]
   exact lex_as a b h
  ·rw [if_neg e] at h
   rw [if_neg fun z=>e z.symm]
   have:=of_decide_eq_true h
   exact decide_eq_false (by omega)
theorem lex_tr:∀ a b c:List Int,HT.lexLt a b=false→HT.lexLt b c=false→HT.lexLt a c=false
 | [],[],c,_,h=>h
 | [],y::b,c,h,_=>by rw[HT.lexLt_nil_cons] at h;cases h
 | x::a,b,[],_,_=>HT.lexLt_cons_nil ..
 | x::a,[],z::c,_,h=>by rw[HT.lexLt_nil_cons] at h;cases h
 | x :: a,y::b,z::c,h1,h2=>by
  rw [HT.lexLt_cons] at h1 h2 ⊢
  by_cases e1:x=y
  ·rw [if_pos e1] at h1
   by_cases e2:y=z
   ·rw [if_pos e2] at h2
    rw [if_pos (e1.trans e2)]
    exact lex_tr a b c h1 h2
   ·rw [if_neg e2] at h2
    rw [if_neg fun q=>e2 (e1.symm.trans q),e1]
    exact h2
  ·rw [if_neg e1] at h1
   have h1:=of_decide_eq_false h1
   by_cases e2:y=z
   ·rw [if_neg fun q=>e1 (q.trans e2.symm)]
    exact decide_eq_false (by omega)
   ·rw [if_neg e2] at h2
    have h2:=of_decide_eq_false h2
    rw [if_neg (by omega)]
    exact decide_eq_false (by omega)
theorem keyLt_eq (a b:Int×List Int):keyLt a b=if a.1=b.1 then HT.lexLt a.2 b.2 else decide (a.1<b.1):=by
 unfold keyLt
 by_cases e:a.1=b.1
 ·rw [if_pos e,if_pos e]
  by_cases e2:a.2=b.2
  ·rw [if_pos e2,e2,lex_irr]
  ·rw [if_neg e2]
 ·rw [if_neg e,if_neg e]
theorem keyLt_as (a b:Int×List Int) (h:keyLt a b=true):keyLt b a=false:=by
 rw [keyLt_eq] at h ⊢
 by_cases e:a.1=b.1
 ·rw [if_pos e] at h
  rw [if_pos e.symm]
  exact lex_as _ _ h
 ·rw [if_neg e] at h
  rw [if_neg fun z=>e z.symm]
  have:=of_decide_eq_true h
  exact decide_eq_false (by omega)
theorem keyLt_tr (a b c:Int×List Int) (h1:keyLt a b=false) (h2:keyLt b c=false):keyLt a c=false:=by
 rw [keyLt_eq] at h1 h2 ⊢
 by_cases e1:a.1=b.1
 ·rw [if_pos e1] at h1
  by_cases e2:b.1=c.1
  ·rw [if_pos e2] at h2
   rw [if_pos (e1.trans e2)]
   exact lex_tr _ _ _ h1 h2
  ·rw [if_neg e2] at h2
   rw [if_neg fun q=>e2 (e1.symm.trans q),e1]
   exact h2
 ·rw [if_neg e1] at h1
  have h1:=of_decide_eq_false h1
  by_cases e2:b.1=c.1
  ·rw [if_neg fun q=>e1 (q.trans e2.symm)]
   exact decide_eq_false (by omega)
  ·rw [if_neg e2] at h2
   have h2:=of_decide_eq_false h2
   rw [if_neg (by omega)]
   exact decide_eq_false (by omega)
theorem pick_perm {α:Type}{p:List Nat}{xs:List α}{d:α} (h:p.Perm (List.range xs.length)):(pick p xs d).Perm xs:=by
 have h1:=h.map fun i=>xs.getD i d
 refine h1.trans (List.Perm.of_eq ?_)
 apply List.ext_getElem
 ·simp
 ·intro i a b
  simp at a
  simp [a]
end L2
namespace L2
open PySem PySem.Spec PyProof.Rows PySem.W
section
variable {X:Cx}{K:PySem.W.Frag}
theorem call_maxL (hK:X.K=K) (hc:X.calm=true):CallR X (.builtin "max") (fun xs H Q=>∃ (p:Addr) (ns:List Int),xs=[.ref p]∧SqL K H p (ns.map V.int)∧ns≠[]∧∀ m,m∈ns→(∀ x∈ns,x≤m)→Q (.int m) H):=by
 subst hK
 intro pins s σ H xs us Q I r h
 obtain ⟨p,ns,rfl,hs,hne,q⟩:=h
 obtain ⟨u,rfl,ru⟩:=vals1 r
 cases (show u=Value.ref p from ru)
 obtain ⟨its,rv,hp,_⟩:=I.list hs
 have hl:=hp.isList
 have hlt:p<s.heap.objs.size:=by obtain⟨_,e,_⟩:=hl;exact Heap.lt_size e
 have hsz:its.toArray.size=ns.length:=by
  have:=rv.length
  simp at this ⊢
  omega
 have hpos:0<ns.length:=List.length_pos_iff.mpr hne
 have W:=(Walks.list (prog:=X.prog) (w:=X.w) (A:=X.A.in1) (I.ok.hd hc) s.heap.objs.size p (Nat.ne_of_lt hlt) its.toArray)
 rw [hsz] at W
 have hval:∀ (i:Nat) (v:Value),its.toArray[i]? = some v→∃ t,v=Value.int (ns.getD i 0) t:=fun i v hP=>by
  have hP:its[i]? = some v:=by simpa using hP
  have hi:i<its.length:=(List.getElem?_eq_some_iff.mp hP).1
  have hi2:i<ns.length:=by simp at hsz;omega
  obtain ⟨u,e1,⟨t,e2⟩⟩:=rv.get (i:=i) (x:=.int ns[i]) (by rw[List.getElem?_map,List.getElem?_eq_getElem hi2];rfl)
  rw [hP] at e1
  cases e1
  refine ⟨t,?_⟩
  rw [e2,List.getD_eq_getElem?_getD,List.getElem?_eq_getElem hi2]
  rfl
 refine call_max_walk (wpAny_pyIter_list hl ?_)
 refine ⟨s.heap.objs.size,_,_,_,_,_,fun i j=>decide (ns.getD i 0>ns.getD j 0),rfl,W,⟨⟨_,Heap.get?_push_size _ rfl,rfl,rfl⟩,hl.push _⟩,fun b hb=>?_,hpos,CmpOf.ints_gt (fun i=>ns.getD i 0) hval,fun v h' tk hP hk=>?_⟩
 ·rcases List.mem_cons.mp hb with rfl|hb
  ·exact Heap.lt_size (Heap.get?_push_size _ rfl)
  ·obtain rfl:=List.mem_singleton.mp hb
   exact Heap.lt_size (Heap.get?_push_of_some _ (id hl).choose_spec.1)
 ·obtain ⟨t,rfl⟩:=hval _ _ hP
  obtain ⟨b1,b2⟩:=argBest_ok (fun i j=>decide (ns.getD i 0>ns.getD j 0)) (fun i=>- ns.getD i 0) (fun i j=>by rw[decide_eq_decide];omega) (ns.length - 1)
  have hlt2:argBest (fun i j=>decide (ns.getD i 0>ns.getD j 0)) (ns.length - 1)<ns.length:=by omega
  refine ⟨.int _,H,I.kept fun b o e=>hk b o (fun hb=>absurd (Heap.lt_size e) ((List.mem_singleton.mp hb)▸Nat.lt_irrefl _)) (Heap.get?_push_of_some _ e),⟨_,rfl⟩,q _ ?_ fun x hx=>?_⟩
  ·rw [List.getD_eq_getElem?_getD,List.getElem?_eq_getElem hlt2]
   exact List.getElem_mem hlt2
  ·obtain ⟨j,hj,rfl⟩:=List.getElem_of_mem hx
   have:=b2 j (by omega)
   rw [show ns.getD j 0=ns[j] by rw[List.getD_eq_getElem?_getD,List.getElem?_eq_getElem hj];rfl] at this
   omega
noncomputable def gMaxL:GB:=fun ds R=>∃ es ns,ds=[.list es]∧intsOf es=some ns∧ns≠[]∧∀ m,m∈ns→(∀ x∈ns,x≤m)→R (.int m)
theorem mMaxL:MeansB K (fun xs H Q=>∃ (p:Addr) (ns:List Int),xs=[.ref p]∧SqL K H p (ns.map V.int)∧ns≠[]∧∀ m,m∈ns→(∀ x∈ns,x≤m)→Q (.int m) H) gMaxL:=by
 rintro N H xs ds R Q w ⟨es,ns,rfl,e1,hne,hR⟩ hq
 cases w with
 | cons w1 w2 =>
  cases w2
  obtain ⟨a,vs,rfl,s,q⟩:=w1.list
  rw [intsOf_some e1] at q
  rw [q.ints] at s
  exact ⟨a,ns,rfl,s,hne,fun m h1 h2=>hq _ _ (hR m h1 h2) (.int _)⟩
end
section
variable {prog:Program}{w:World}{A:Around}{s:Shared}
theorem ints_okX {us:List Value}{ns:List Int} (h2:2≤us.length) (k:∀ i (h:i<us.length),∃ t,us[i]=Value.int (ns.getD i 0) t) (hl:ns.length=us.length):KeyOkX prog w A us (ns.map fun n=>(n,[])) s:=by
 refine kas_kind (T:=.type "int") h2 (fun v hv=>?_) (by decide) (by rfl) ⟨rfl,fun i j C hi hj hc=>?_⟩
 ·obtain ⟨i,hi,rfl⟩:=List.getElem_of_mem hv
  obtain ⟨t,e⟩:=k i hi
  rw [e]
  exact .now
 ·have e1:us.getD i Value.none=us[i]:=by simp[hi]
  have e2:us.getD j Value.none=us[j]:=by simp[hj]
  show wpAny (model prog w) A (keyLt' _ (us.getD i Value.none) (us.getD j Value.none)) C (fun _ _=>False) s
  rw [e1,e2]
  obtain ⟨t,ex⟩:=k i hi
  obtain ⟨u,ey⟩:=k j hj
  rw [ex,ey]
  have g:∀ m,m<us.length→(ns.map fun n=>(n,([]:List Int))).getD m (0,[])=(ns.getD m 0,[]):=fun m hm=>by
   rw [List.getD_eq_getElem?_getD,List.getElem?_map,List.getD_eq_getElem?_getD,List.getElem?_eq_getElem (by omega)]
   rfl
  rw [g i hi,g j hj,keyLt_eq] at hc
  refine kat_lt_int ?_
  have e:(if (ns.getD i 0,([]:List Int)).1=(ns.getD j 0,([]:List Int)).1 then HT.lexLt (ns.getD i 0,([]:List Int)).2 (ns.getD j 0,([]:List Int)).2 else decide ((ns.getD i 0,([]:List Int)).1<(ns.getD j 0,([]:List Int)).1))=decide (ns.getD i 0<ns.getD j 0):=by
   by_cases z:ns.getD i 0=ns.getD j 0
   ·rw [if_pos z,lex_irr]
    exact (decide_eq_false (by omega)).symm
   ·rw [if_neg z]
  rw [e] at hc
  exact hc
end
theorem srtIx_asc {ks:List (Int×List Int)}{a b:Nat} (hab:a≤b) (hb:b<ks.length):keyLt (ks.getD ((srtIx ks).getD b 0) (0,[])) (ks.getD ((srtIx ks).getD a 0) (0,[]))=false:=by
 have hl:(srtIx ks).length=ks.length:=by rw[(srtIx_perm ks).length_eq,List.length_range]
 by_cases h2:ks.length<2
 ·rw [show a=b by omega,keyLt_eq,if_pos rfl,lex_irr]
 ·obtain ⟨lt,hlt⟩:∃ lt:Nat→Nat→Bool,lt=fun i j=>keyLt (ks.getD i (0,[])) (ks.getD j (0,[])):=⟨_,rfl⟩
  have ex:srtIx ks=(kasRun lt (kas_sort ks.length)).toList:=by
   unfold srtIx
   rw [if_neg h2,hlt]
  have as:∀ a b,lt a b=true→lt b a=false:=fun a b h=>by rw[hlt] at h ⊢;exact keyLt_as _ _ h
  have tr:∀ a b c,lt a b=false→lt b c=false→lt a c=false:=fun a b c h1 h2=>by rw[hlt] at h1 h2 ⊢;exact keyLt_tr _ _ _ h1 h2
  have far:=AscA.le as tr (sort_run as tr (n:=ks.length) (by omega)) hab hb
  have g:∀ k,gA (kasRun lt (kas_sort ks.length)) k=(srtIx ks).getD k 0:=fun k=>by
   unfold gA
   rw [ex,Array.getD_eq_getD_getElem?,List.getD_eq_getElem?_getD,Array.getElem?_toList]
  rw [g,g,hlt] at far
  exact far
noncomputable def srtNs (ns:List Int):List Int:=pick (srtIx (ns.map fun n=>(n,[]))) ns 0
theorem srtNs_perm (ns:List Int):(srtNs ns).Perm ns:=pick_perm (by have:=srtIx_perm (ns.map fun n=>(n,([]:List Int)));rwa [List.length_map] at this)
theorem srtNs_asc (ns:List Int):(srtNs ns).Pairwise (·≤·):=by
 have hl:(srtIx (ns.map fun n=>(n,([]:List Int)))).length=ns.length:=by rw[(srtIx_perm _).length_eq,List.length_range,List.length_map]
 rw [List.pairwise_iff_getElem]
 intro i j hi hj hij
 have hn:(srtNs ns).length=ns.length:=(srtNs_perm ns).length_eq
 have h:=srtIx_asc (ks:=ns.map fun n=>(n,([]:List Int))) (a:=i) (b:=j) (by omega) (by rw[List.length_map];omega)
 have g:∀ m,(hm:m<(srtNs ns).length)→((ns.map fun n=>(n,([]:List Int))).getD ((srtIx (ns.map fun n=>(n,([]:List Int)))).getD m 0) (0,[]))=((srtNs ns)[m],[]):=fun m hm=>by
  have q:(srtIx (ns.map fun n=>(n,([]:List Int)))).getD m 0<ns.length:=by
   have:=srtIx_lt ((srtIx (ns.map fun n=>(n,([]:List Int)))).getD m 0) (by rw[List.getD_eq_getElem?_getD,List.getElem?_eq_getElem (by omega)];exact List.getElem_mem _)
   rwa [List.length_map] at this
  have z:(srtNs ns)[m]=ns[(srtIx (ns.map fun n=>(n,([]:List Int)))).getD m 0]:=by
   have hm2:m<(srtIx (ns.map fun n=>(n,([]:List Int)))).length:=by omega
   have w:(srtNs ns)[m]? = some (ns.getD ((srtIx (ns.map fun n=>(n,([]:List Int)))).getD m 0) 0):=by
    unfold srtNs pick
    rw [List.getElem?_map,List.getD_eq_getElem?_getD (l:=srtIx _),List.getElem?_eq_getElem hm2]
    rfl
   rw [List.getElem?_eq_getElem hm,List.getD_eq_getElem?_getD (l:=ns),List.getElem?_eq_getElem q] at w
   exact Option.some.inj w
  rw [List.getD_eq_getElem?_getD,List.getElem?_map,List.getElem?_eq_getElem q,z]
  rfl
 rw [g i hi,g j hj,keyLt_eq] at h
 by_cases e:(srtNs ns)[j]=(srtNs ns)[i]
 ·omega
 ·rw [if_neg e] at h
  have:=of_decide_eq_false h
  simp only at this
  omega
section
variable {X:Cx}{K:PySem.W.Frag}
theorem call_srtO (hK:X.K=K):CallR X (.builtin "sorted") (fun xs H Q=>∃ (p:Addr) (ns:List Int),xs=[.ref p]∧SqL K H p (ns.map V.int)∧ns.length<64 ∧
  ∀ q,H q=none→Q (.ref q) (upd H q (.lst ((srtNs ns).map V.int)))):=by
 subst hK
 intro pins s σ H xs us Q I r h
 obtain ⟨p,ns,rfl,hs,h64,q⟩:=h
 obtain ⟨u,rfl,ru⟩:=vals1 r
 cases (show u=Value.ref p from ru)
 obtain ⟨its,rv,hp,_⟩:=I.list hs
 have hlen:=rv.length
 rw [List.length_map] at hlen
 have hval:∀ i (h:i<its.length),∃ t,its[i]=Value.int (ns.getD i 0) t:=fun i hi=>by
  have hi2:i<ns.length:=by omega
  obtain ⟨u,e1,⟨t,e2⟩⟩:=rv.get (i:=i) (x:=.int ns[i]) (by rw[List.getElem?_map,List.getElem?_eq_getElem hi2];rfl)
  rw [List.getElem?_eq_getElem hi] at e1
  cases e1
  refine ⟨t,?_⟩
  rw [e2,List.getD_eq_getElem?_getD,List.getElem?_eq_getElem hi2]
  rfl
 refine srt_sortedX (vs:=its) (ks:=ns.map fun n=>(n,[])) hp.isList (by omega) (by rw[List.length_map];omega) (fun h2 h' k=>ints_okX h2 hval (by omega)) fun D h' c k hD hD2=>?_
 have hlt:∀ i∈srtIx (ns.map fun n=>(n,([]:List Int))),i<ns.length:=fun i hi=>by have:=srtIx_lt i hi;rwa [List.length_map] at this
 have ep:pick (srtIx (ns.map fun n=>(n,([]:List Int)))) (ns.map V.int) .non=(srtNs ns).map V.int:=by
  unfold srtNs pick
  rw [List.map_map]
  refine List.map_congr_left fun i hi=>?_
  have:=hlt i hi
  rw [List.getD_eq_getElem?_getD,List.getElem?_map,List.getElem?_eq_getElem this]
  show _=V.int (ns.getD i 0)
  rw [List.getD_eq_getElem?_getD,List.getElem?_eq_getElem this]
  rfl
 refine ⟨.ref D,upd H D (.lst ((srtNs ns).map V.int)),I.laid (t':=s.toks) (o:=.lst ((srtNs ns).map V.int)) k hD ⟨?_,_,c,ep▸vals_pick rv (fun i hi=>by rw[List.length_map];exact hlt i hi),hD2⟩,rfl,q _ (I.hok.fresh hD)⟩
 rw [List.length_map,(srtNs_perm ns).length_eq,sizeLine_eq]
 omega
noncomputable def dSrtO (t:DA):DE:=fun env R=>t env fun ss env1=>∃ s ns,ss=[s]∧valOf env1 s=some (.list (li ns))∧ns.length<64∧∀ ms:List Int,ms.Perm ns→ms.Pairwise (·≤·)→R (.ow (li ms)) env1
variable {e:Expr}{p pos:Pos}{tl:DA}
theorem q_srtO (hK:X.K=K) (hg:Gl X "sorted") (hm:X.mg "sorted" = none) (ha:PA X [e] (upA K tl)) (he:starEach [e] X.env=[(false,eval e X.env)]:=by rfl):PE X (.Call (.Name "sorted" p) [e] [] pos) (up K (dSrtO tl)) :=
 (pe_callB (call_srtO (K:=K) hK) hg hm boot_sorted ha (by decide) (by decide) he rfl).imp fun σ H Q h=>by
 obtain ⟨M,P,H0,σ0,env,ts,R,rel,ht,hq⟩:=h
 refine ⟨M,P,H0,σ0,env,ts,_,rel,ht,fun ss env1 vs H1 h1 hl rel1=>?_⟩
 obtain ⟨s,ns,rfl,e1,h64,hR⟩:=h1
 match vs,hl with
 | [v],_ =>
  obtain ⟨a,us,rfl,sq,q⟩:=(rel1.view (v:=v) (by simp) e1).list
  rw [q.ints] at sq
  exact ⟨a,ns,rfl,sq,h64,fun p' hp=>hq _ _ _ _ (hR _ (srtNs_perm ns) (srtNs_asc ns)) (rel1.resOw hp (dns_ints _))⟩
end
noncomputable def hide:Sl→Sl
 | .fr d=>.fr d
 | _=>.un
noncomputable def dtLend (i:Nat) (t:DT):DT:=fun env R=>∃ ds,env[i]? = some (.ow ds)∧t ((env.map hide).set i (.fr (.list ds))) fun b _=>R b env
end L2
namespace L2
open PySem PySem.Spec PyProof.Rows
noncomputable def Ev (t:DE) (env:List Sl) (s:Sl):Prop:=∀ R:Sl→List Sl→Prop,R s env→t env R
noncomputable def EvA (t:DA) (env:List Sl) (ss:List Sl):Prop:=∀ R:List Sl→List Sl→Prop,R ss env→t env R
noncomputable def EvT (t:DT) (env:List Sl) (k:Bool):Prop:=∀ R:Bool→List Sl→Prop,R k env→t env R
noncomputable def EvO (t:DO) (env:List Sl) (k:Option Int):Prop:=∀ R:Option Int→List Sl→Prop,R k env→t env R
noncomputable def EvI (t:DI) (env:List Sl) (ds:List PyData):Prop:=∀ R:List PyData→List Sl→Prop,R ds env→t env R
noncomputable def E2 (g:G2) (d e x:PyData):Prop:=∀ R:PyData→Prop,R x→g d e R
noncomputable def E1 (g:G1) (d x:PyData):Prop:=∀ R:PyData→Prop,R x→g d R
noncomputable def EB (g:GB) (ds:List PyData) (x:PyData):Prop:=∀ R:PyData→Prop,R x→g ds R
noncomputable def EL (g:PyData→PyData→(List PyData→Prop)→Prop) (d e:PyData) (x:List PyData):Prop:=∀ R:List PyData→Prop,R x→g d e R
section
variable {env:List Sl}{s s1 s2 s':Sl}{d d1 d2 x e:PyData}{ds es xs ys:List PyData}{i j:Nat}{m n:Int}{ta tb te:DE}{tl:DA}{ss:List Sl}{g:G2}{k:Bool}{DD:DEnds}
theorem ev_var (h:(env[i]?).bind slD=some d):Ev (dVar i) env (.vw i):=fun _ r=>⟨d,h,r⟩
theorem ev_c:Ev (dC d) env (.fr d):=fun _ r=>r
theorem ev_frz (h:env[i]? = some (.fr d)):Ev (dFrz i) env (.fr d):=fun R r=>by unfold dFrz;rw[h];exact r
theorem ev_op (h1:Ev ta env s1) (h2:Ev tb env s2) (e1:valOf env s1=some d1) (e2:valOf env s2=some d2) (h:E2 g d1 d2 x):Ev (dOp g ta tb) env (.fr x):=fun _ r=>h1 _ (h2 _ ⟨d1,d2,e1,e2,h _ r⟩)
theorem ev_opL {g:PyData→PyData→(List PyData→Prop)→Prop} (h1:Ev ta env s1) (h2:Ev tb env s2) (e1:valOf env s1=some d1) (e2:valOf env s2=some d2) (h:EL g d1 d2 xs):Ev (dOpL g ta tb) env (.ow xs):=fun _ r=>h1 _ (h2 _ ⟨d1,d2,e1,e2,h _ r⟩)
theorem ev_un {g:G1} (h1:Ev ta env s1) (e1:valOf env s1=some d1) (h:E1 g d1 x):Ev (dUn g ta) env (.fr x):=fun _ r=>h1 _ ⟨d1,e1,h _ r⟩
theorem ev_cb {g:GB} (h1:EvA tl env ss) (e1:valsOf env ss=some ds) (h:EB g ds x):Ev (dCB g tl) env (.fr x):=fun _ r=>h1 _ ⟨ds,e1,h _ r⟩
theorem ev_tup (h1:EvA tl env ss) (e1:keepsOf env ss=some ds) (z:ss.length≤sizeLine):Ev (dTup tl) env (.fr (.tuple ds)):=fun _ r=>h1 _ ⟨ds,e1,z,r⟩
theorem ev_lst (h1:EvA tl env ss) (e1:keepsOf env ss=some ds) (z:ss.length≤sizeLine):Ev (dLst tl) env (.ow ds):=fun _ r=>h1 _ ⟨ds,e1,z,r⟩
theorem ev_catT (h1:Ev ta env s1) (h2:Ev tb env s2) (e1:valOf env s1=some (.tuple xs)) (e2:valOf env s2=some (.tuple ys)) (z:xs.length+ys.length≤sizeLine):Ev (dCatT ta tb) env (.fr (.tuple (xs++ys))):=fun _ r=>h1 _ (h2 _ ⟨xs,ys,e1,e2,z,r⟩)
theorem ev_slL {l h:Option Int}{t1 t2:DO} (h1:Ev te env s) (h2:EvO t1 env l) (h3:EvO t2 env h) (e1:valOf env s=some (.list ds)):Ev (dSlL te t1 t2) env (.ow (cutD ds l h)):=fun _ r=>h1 _ (h2 _ (h3 _ ⟨ds,e1,r⟩))
theorem ev_no:EvO dNoPart env none:=fun _ r=>r
theorem ev_part (h1:Ev te env s) (e1:valOf env s=some (.int n)):EvO (dPart te) env (some n):=fun _ r=>h1 _ ⟨n,e1,r⟩
theorem ev_nil:EvA dNil env []:=fun _ r=>r
theorem ev_cons (h1:Ev te env s) (h2:EvA tl env ss):EvA (dCons te tl) env (s::ss):=fun _ r=>h1 _ (h2 _ r)
theorem ev_test (h1:Ev te env s) (e1:valOf env s=some (.bool k)):EvT (dTest te) env k:=fun _ r=>h1 _ ⟨k,e1,r⟩
theorem ev_not {t:DT} (h1:EvT t env k):EvT (dNot t) env (!k):=fun _ r=>h1 _ r
theorem ev_truth (h1:Ev te env s) (e1:valOf env s=some d) (e2:truD d=some k):EvT (dTruth te) env k:=fun _ r=>h1 _ ⟨d,k,e1,e2,r⟩
theorem ev_is {n:String} (h1:Ev te env s) (e1:valOf env s=some d) (e2:notD d=true):Ev (dIs n te) env (.fr (.bool (isK n d))):=fun _ r=>h1 _ ⟨d,e1,e2,r⟩
theorem e2_I {f:Int→Int→Int}:E2 (gI f) (.int m) (.int n) (.int (f m n)):=fun _ r=>⟨m,n,rfl,rfl,r⟩
theorem e2_IC {C:Int→Int→Prop}{f:Int→Int→Int} (c:C m n):E2 (gIC C f) (.int m) (.int n) (.int (f m n)):=fun _ r=>⟨m,n,rfl,rfl,c,r⟩
theorem e2_B {f:Int→Int→Bool}:E2 (gB f) (.int m) (.int n) (.bool (f m n)):=fun _ r=>⟨m,n,rfl,rfl,r⟩
theorem e2_eq (h1:shp d) (h2:shp e):E2 gEq d e (.bool (PyData.eqv d e)):=fun _ r=>⟨h1,h2,r⟩
theorem e2_ne (h1:shp d) (h2:shp e):E2 gNe d e (.bool (!PyData.eqv d e)):=fun _ r=>⟨h1,h2,r⟩
theorem e2_isN:E2 gIsN d .none (.bool (isNn d)):=fun _ r=>⟨rfl,r⟩
theorem e2_notN:E2 gNotN d .none (.bool (!isNn d)):=fun _ r=>⟨rfl,r⟩
theorem e2_ix (h1:seqOf d=some ds) (h2:atI ds n=some x):E2 gIx d (.int n) x:=fun _ r=>⟨ds,n,x,h1,rfl,h2,r⟩
theorem e2_in {ns:List Int} (h1:seqOf e=some ds) (h2:intsOf ds=some ns):E2 gIn (.int n) e (.bool (decide (n∈ns))):=fun _ r=>⟨n,ds,ns,rfl,h1,h2,r⟩
theorem e2_notIn {ns:List Int} (h1:seqOf e=some ds) (h2:intsOf ds=some ns):E2 gNotIn (.int n) e (.bool (!decide (n∈ns))):=fun _ r=>⟨n,ds,ns,rfl,h1,h2,r⟩
theorem e1_neg:E1 gNeg (.int n) (.int (-n)):=fun _ r=>⟨n,rfl,r⟩
theorem eB_len (h:seqOf d=some es):EB gLen [d] (.int es.length):=fun _ r=>⟨d,es,rfl,h,r⟩
theorem eB_min:EB gMin [.int m,.int n] (.int (if n<m then n else m)):=fun _ r=>⟨m,n,rfl,r⟩
theorem eB_max:EB gMax [.int m,.int n] (.int (if n>m then n else m)):=fun _ r=>⟨m,n,rfl,r⟩
theorem eB_sum {ns:List Int} (h:intsOf es=some ns):EB gSum [.list es] (.int ns.sum):=fun _ r=>⟨es,ns,rfl,h,r⟩
theorem eL_cat (z:xs.length+ys.length≤sizeLine):EL gCat (.list xs) (.list ys) (xs++ys):=fun _ r=>⟨xs,ys,rfl,rfl,z,r⟩
theorem ei_list (h1:Ev te env s) (e1:keepOf env s=some (.list ds)):EvI (dIList te) env ds:=fun _ r=>h1 _ ⟨ds,e1,r⟩
theorem ei_tup (h1:Ev te env s) (e1:keepOf env s=some (.tuple ds)):EvI (dITup te) env ds:=fun _ r=>h1 _ ⟨ds,e1,r⟩
theorem ei_rng1 (h1:EvA tl env [s]) (e1:valOf env s=some (.int n)) (z1:-4611686018427387904≤n) (z2:n<4611686018427387904):EvI (dRng1 tl) env (rangeD 0 n.toNat):=fun _ r=>h1 _ ⟨s,n,rfl,e1,z1,z2,r⟩
theorem ei_enum {b:Bool} (h1:EvA tl env [s]) (e1:keepOf env s=some (sqD b ds)):EvI (dEnum b tl) env (enumD ds):=fun _ r=>h1 _ ⟨s,ds,rfl,e1,r⟩
theorem ei_zip {b c:Bool} (h1:EvA tl env [s,s']) (e1:keepOf env s=some (sqD b ds)) (e2:keepOf env s'=some (sqD c es)):EvI (dZip b c tl) env (zipD ds es):=fun _ r=>h1 _ ⟨s,s',ds,es,rfl,e1,e2,r⟩
theorem le_line {n:Nat} (h:decide (n≤100)=true):n≤sizeLine:=Nat.le_trans (of_decide_eq_true h) (Nat.le_trans (by decide) line_big)
theorem ws_seq {t u:DS} (h:t { DD with nx:=u DD } env):dSeq t u DD env:=h
theorem ws_set (h1:Ev te env s) (z:i<env.length) (e1:stoOf env s=some s') (h:DD.nx (env.set i s')):dSet i te DD env:=h1 _ ⟨s',z,e1,h⟩
theorem ws_drop (h1:Ev te env s) (h:DD.nx env):dDrop te DD env:=h1 _ h
theorem ws_ret (h1:Ev te env s) (h:DD.rt s env):dRet te DD env:=h1 _ h
theorem ws_ifs {c:DT}{t u:DS} (h1:EvT c env k) (h:if k=true then t DD env else u DD env):dIfS c t u DD env:=h1 _ h
theorem ws_for {it:DI}{g:DG}{tb:DS} (h1:EvI it env ds) (h:FD ds g tb DD env):dFor it g tb DD env:=h1 _ h
theorem ws_app {s0:Sl} (h1:Ev te env s) (e1:keepOf env s=some d) (e2:env[i]? = some s0) (e3:ownD s0=some ds) (z:ds.length<sizeLine) (e4:setSl s0 (ds++[d])=some s') (h:DD.nx (env.set i s')):dDrop (dApp i te) DD env:=⟨⟨ds,by rw[e2];exact e3⟩,h1 _ ⟨d,s0,ds,s',e1,e2,e3,z,e4,h⟩⟩
theorem w_callS {sp:DSp}{q:Nat}{s0:Sl}{l ds1 ds2:List PyData}{R:Sl→List Sl→Prop} (h1:EvA tl env ss) (a1:ss[q]? = some (.vw i)) (a2:env[i]? = some s0) (a3:ownD s0=some l) (a4:keepsOf env (ss.take q)=some ds1) (a5:keepsOf env (ss.drop (q+1))=some ds2)
  (h : sp (ds1.map .fr++.io l::ds2.map .fr) (dK (fun r as=>∃ l' s',as[q]? = some (.io l')∧setSl s0 l'=some s'∧R r (env.set i s')) ⟨⟩)):dCallS sp q tl env R:=h1 _ ⟨i,s0,l,ds1,ds2,a1,a2,a3,a4,a5,h⟩
theorem w_call {sp:DSp}{R:Sl→List Sl→Prop} (h1:EvA tl env ss) (e1:keepsOf env ss=some ds) (h:sp (ds.map .fr) (dK (fun r _=>R r env) ⟨⟩)):dCall sp tl env R:=h1 _ ⟨ds,e1,h⟩
theorem w_comp {it:DI}{ix:List (Option Nat)}{g:DG}{tt:DT}{R:Sl→List Sl→Prop} (h1:EvI it env ds) (h:CD ds ix g tt te env (dK R ⟨⟩)):dComp it ix g tt te env R:=h1 _ h
theorem w_pop {s0:Sl}{R:Sl→List Sl→Prop} (a1:env[i]? = some s0) (a2:ownD s0=some ds) (a3:ds.getLast? = some d) (a4:setSl s0 ds.dropLast=some s') (h:R (.fr d) (env.set i s')):dPop i env R:=⟨s0,ds,d,s',a1,a2,a3,a4,h⟩
theorem wg_name {R:List Sl→Prop} (z:i<env.length) (h:R (env.set i (.fr d))):dgName i d env R:=⟨z,h⟩
theorem wk_K {R:Sl→List Sl→Prop}{w:Wn R} (h:R s env):dK R w s env:=h
theorem wx_set (h:te env fun s env1=>∃ s',i<env1.length∧stoOf env1 s=some s'∧DD.nx (env1.set i s')):dSet i te DD env:=h
theorem wx_ret (h:te env DD.rt):dRet te DD env:=h
theorem wx_drop (h:te env fun _ env1=>DD.nx env1):dDrop te DD env:=h
end
end L2
namespace L2
open PySem PySem.Spec PyProof.Rows PySem.W
section
variable {X:Cx}{K:PySem.W.Frag}
noncomputable def rInsert:V→List V→Hp→VK→Prop:=fun x vs H Q=>∃ l xs k y,x=.ref l∧vs=[.int (k:Nat),y]∧H l=some (.lst xs)∧k≤xs.length∧xs.length<sizeLine∧Q .non (upd H l (.lst (xs.take k++y::xs.drop k)))
theorem fits_nat {k:Nat} (h:(k:Int)<16777216):Builtin.List.listFitsIndex (k:Int)=true:=by
 refine fitsIndex_both ?_ ?_
 ·exact Int.le_trans (Int.neg_nonpos_of_nonneg (Int.pow_nonneg (by decide))) (Int.natCast_nonneg k)
 ·refine Int.lt_of_lt_of_le h ?_
  show (16777216:Int)≤9223372036854775808
  decide
theorem mt_insert:MtM X "list.insert" rInsert:=by
 intro pins s σ H x vs v us Q I rx rv h
 obtain ⟨l,xs,k,y,rfl,rfl,hH,hk,hz,q⟩:=h
 cases rx
 obtain ⟨u,w,rfl,ru,rw'⟩:=rv.two
 obtain ⟨t,rfl⟩:=ru
 obtain ⟨z,its,n,r,hl,e⟩:=I.lstM hH
 have hkl:k≤its.length:=by omega
 have hb:((k:Nat):Int)<16777216:=by rw[sizeLine_eq] at hz;omega
 have hf:Builtin.List.listFitsIndex ((k:Nat):Int)=true:=fits_nat hb
 obtain ⟨i,hi⟩:∃ i:Int,i=((k:Nat):Int):=⟨_,rfl⟩
 rw [←hi] at hf ⊢
 have hne:¬(!Builtin.List.listFitsIndex i)=true:=by rw[hf];exact Bool.false_ne_true
 have hsz:its.toArray.size≤sizeLine:=by rw[List.size_toArray];omega
 refine call_meets F.slot_list_insert ⟨_,e,rfl⟩ F.entry_list_insert (F.args_list_insert_3 _ _ _) (PySem.AutoSeq1.list_insert_list_int_val_1 l its.toArray n i t w hne hsz) ⟨e,?_⟩
 refine ⟨.non,_,I.lset (its':=its.take k++w::its.drop k) hH e ?_ ((r.take k).append (.cons rw' (r.drop k))) ?_,rfl,q⟩
 ·have e1:(if i<0 then (i+(its.toArray.size:Int)).toNat else min i.toNat its.toArray.size)=k:=by
   rw [if_neg (by omega),List.size_toArray,hi,Int.toNat_natCast]
   omega
  show (its.toArray.extract 0 (if i<0 then (i+(its.toArray.size:Int)).toNat else min i.toNat its.toArray.size)).push w++its.toArray.extract (if i<0 then (i+(its.toArray.size:Int)).toNat else min i.toNat its.toArray.size)=_
  rw [e1]
  apply Array.ext'
  simp [List.take_of_length_le]
 ·rw [List.length_append,List.length_cons,List.length_take,List.length_drop]
  omega
noncomputable def dIns (i:Nat) (tl:DA):DE:=fun env R=>(∃ ds,(env[i]?).bind ownD=some ds)∧tl env fun ss env1=>∃ s1 s2 k d s0 ds s',ss=[s1,s2]∧valOf env1 s1=some (.int (k:Nat))∧keepOf env1 s2=some d∧env1[i]? = some s0∧ownD s0=some ds∧k≤ds.length∧ds.length<sizeLine∧setSl s0 (ds.take k++d::ds.drop k)=some s'∧R (.fr .none) (env1.set i s')
theorem q_ins (i:Nat) {y:Str}{e1 e2:Expr}{tl:DA}{apos cpos npos:Pos} (hK:X.K=K) (hN:X.N[i]? = some y) (ha:PA X [e1,e2] (upA K tl))
  (hv:Vis X.env.scope y:=by first|exact Or.inl rfl|exact Or.inr (Or.inl rfl)|exact Or.inr (Or.inr rfl)) (hd:(y==("__debug__" : Str))=false:=by decide)
  (hcd:(y==("__classdict__" : Str))=false:=by decide)
  (hs0:starEach [e1,e2] X.env=(false,eval e1 X.env)::starEach [e2] X.env:=by rfl)
  (hbase:attributeBase (.Name y npos) "insert" X.env (eval (.Name y npos) X.env)=eval (.Name y npos) X.env:=by rfl)
  (hfew:((backTo cpos (starEach [e1,e2] X.env)).all (fun x=>!x.1)&&(backToKw cpos (keywordEach [] X.env)).all (fun x=>x.1.isSome)&&decide ([e1,e2].length+([]:List Keyword).length+(if ([]:List Keyword).isEmpty then 0 else 1)<30))=true:=by rfl)
  (hline:(apos.endLine==cpos.line)=true:=by rfl) (hplain:(backTo cpos (starEach [e2] X.env)).any (·.1)=false:=by rfl) :
  PE X (.Call (.Attribute (.Name y npos) "insert" apos) [e1,e2] [] cpos) (up K (dIns i tl)) :=
 (kBm (K:=K) hK PySem.F.plainAttrs_list PySem.F.slot_list_insert PySem.F.type_list_insert mt_insert (pe_var hN hv hd hcd) ha hbase hfew hline hs0 hplain).imp fun σ H Q h=>by
 obtain ⟨M,P,H0,σ0,env,ts,R,rel,⟨⟨ds0,h0⟩,ht⟩,hq⟩:=h
 obtain ⟨s0,e0,o0⟩:=bind_own h0
 obtain ⟨a,vs,ea,hH,_⟩:=rel.mine e0 o0
 refine ⟨.ref a,ea,.inl ⟨rfl,vs,SqL.of hH⟩,M,P,H0,σ0,env,ts,_,rel,ht,fun ss env1 vs1 H1 h1 hl rel1=>?_⟩
 obtain ⟨s1,s2,k,d,t0,ds,s',rfl,z1,k2,z2,o2,hk,hz,es,hR⟩:=h1
 match vs1,hl with
 | [v1,v2],_ =>
  obtain ⟨a',us,ea',hH',q⟩:=rel1.drop.mine z2 o2
  rw [ea] at ea'
  cases ea'
  have w:=(rel1.view (v:=v1) (by simp) z1).int
  have dn:=rel1.kept (v:=v2) (s:=s2) (by simp) k2
  exact ⟨a,us,k,v2,rfl,by rw[w],hH',by rw[q.len];exact hk,by rw[q.len];exact hz,hq _ _ _ _ hR ((rel1.drop.mut (ds:=ds) z2 es ea ((q.take k).app (.cons dn (q.drop k)))).addFr .non)⟩
end
end L2
namespace L2
open PySem PySem.Spec PyProof.Rows PySem.W
noncomputable def Itv (K:PySem.W.Frag) (a:Addr) (m:Nat):It :=
 ⟨fun i H=>i<m∧∃ xs x,SqL K H a xs∧xs[m - 1 - i]? = some x,fun i H x H'=>H'=H∧∀ xs,SqL K H a xs→xs[m - 1 - i]? = some x,fun i _=>i=m⟩
theorem turn_rev {P:Program}{w:World}{K:PySem.W.Frag}{tg:Expr} (a it:Addr) (m:Nat):Turn P w K tg (Itv K a m) [it] it (fun i h=>h.IsRevIter it a ((m:Int) - 1 - i)) where
 mem:=by simp
 obj:=fun i h st b hb=>by
  have e:b=it:=by simpa using hb
  subst e
  obtain ⟨o,e,c,d⟩:=st
  exact ⟨o,e,fun v z=>by rw[d] at z;cases z⟩
 keep:=fun i h h' st k=>st.at fun o e=>k it (by simp) o e
 item:=by
  intro X hP hw hK hc i pins s σ H E I hf st hg
  subst hP hw hK
  obtain ⟨hi,xs,x,hq,hx⟩:=hg
  obtain ⟨its,rv,p,hz⟩:=I.list hq
  obtain ⟨u,hu,ru⟩:=rv.get hx
  obtain ⟨f0,f1,f2,f3,f4,f5⟩:=hf it (by simp)
  have e1:(m:Int) - 1 - i=((m - 1 - i:Nat):Int):=by omega
  have st:s.heap.IsRevIter it a ((m:Int) - 1 - i):=st
  rw [e1] at st
  refine wpAny_pyNext_rev_item st p.isList (x:=u) (by simpa using hu) fun h' st' sb=>?_
  have I1:Inv X pins σ H { s with heap:=h' }:=I.turned (t':=s.toks) (fun b o hb e=>(sb.2 b hb).trans e) f0 f1 f3 f4 f5
  have e2:((m - 1 - i:Nat):Int) - 1=(m:Int) - 1 - (i+1:Nat):=by omega
  rw [e2] at st'
  obtain ⟨o,e,c,d⟩:=id st'
  exact ⟨u,rfl,go_of (s:={ s with heap:=h' }) e c d (by decide) ⟨x,H,I1,ru,⟨rfl,fun ys hy=>by rw[I.list_inj hy hq];exact hx⟩,st',fun b hb=>(hf b hb).1⟩⟩
 done:=by
  intro X hP hw hK hc i pins s σ H E I hf st hg
  subst hP hw hK
  have hg:i=m:=hg
  obtain ⟨f0,f1,f2,f3,f4,f5⟩:=hf it (by simp)
  have st:s.heap.IsRevIter it a ((m:Int) - 1 - i):=st
  rw [show (m:Int) - 1 - i = -1 by omega] at st
  exact wpAny_pyNext_rev_end (I.ok.hd hc) st fun h' eb=>⟨rfl,I.turned (t':=s.toks) (fun b o hb e=>eb b o hb e) f0 f1 f3 f4 f5⟩
 self:=fun _ _ _ _ _ st h=>wpAny_pyIter_revIter st h
section
variable {X:Cx}{tg:Expr}
noncomputable def iRev (K:PySem.W.Frag) (ta:TA):TI:=fun σ H R=>ta σ H fun vs H1=>∃ (a:Addr) (xs:List V),vs=[.ref a]∧SqL K H1 a xs∧R (Itv K a xs.length) H1
theorem pi_rev {e:Expr}{ta:TA}{p pos:Pos} (hg:Gl X "reversed") (hm:X.mg "reversed" = none) (ha:PA X [e] ta) (hs:starEach [e] X.env=[(false,eval e X.env)]:=by rfl):PI X tg (.Call (.Name "reversed" p) [e] [] pos) (iRev X.K ta):=by
 intro pins s σ H R I h
 refine Call_ (ld_blt I hg hm boot_reversed (PyProof.Rows.callWith_type1 (thn (ha pos pins s σ H _ I h) fun us s1 ⟨vs,H1,I1,r1,q1⟩=>?_) hs rfl))
 obtain ⟨a,xs,rfl,hq,q⟩:=q1
 obtain ⟨u,rfl,ru⟩:=vals1 r1
 cases (show u=Value.ref a from ru)
 obtain ⟨its,rv,pp,hz⟩:=I1.list hq
 have hl:=rv.length
 have st:(s1.heap.push (revObj a ((its.toArray.size:Int) - 1))).IsRevIter s1.heap.objs.size a ((its.toArray.size:Int) - 1):=⟨_,Heap.get?_push_size _ rfl,rfl,rfl⟩
 refine call_reversed_list pp.isList ?_
 refine wpAny_pyIter_revIter st ?_
 refine ⟨s1.heap.objs.size,[s1.heap.objs.size],_,_,H1,rfl,I1.kept (t':=s1.toks) fun b o e=>Heap.get?_push_of_some _ e,turn_rev a _ xs.length,?_,fun b hb=>?_,q⟩
 ·rw [show ((xs.length:Nat):Int) - 1 - (0:Nat)=(its.toArray.size:Int) - 1 by rw[List.size_toArray];omega]
  exact st
 have e:b=s1.heap.objs.size:=by simpa using hb
 subst e
 exact I1.fpOk (Nat.le_refl _) (I1.hok.fresh (Nat.le_refl _))
end
section
variable {X:Cx}{K:PySem.W.Frag}{tg e:Expr}{p pos:Pos}{tl:DA}
theorem iter_rev {a:Addr}{ds:List PyData}:IterOk K (Itv K a ds.length) [(.ref a,.fr (.list ds))] ds.reverse where
 go := fun rel i hi=>by
  rw [List.length_reverse] at hi
  obtain ⟨xs,s,q⟩:=seq_item (b:=false) (a:=a) (ds:=ds) rel (List.mem_append_right _ (by simp))
  obtain ⟨x,e,_⟩:=q.item (i:=ds.length - 1 - i) (by omega)
  exact ⟨hi,xs,x,s,e⟩
 yld:=fun rel i x H' hi y=>by
  obtain ⟨xs,s,q⟩:=seq_item (b:=false) (a:=a) (ds:=ds) rel (List.mem_append_right _ (by simp))
  obtain ⟨e,y⟩:=y
  subst e
  rw [List.length_reverse] at hi
  obtain ⟨x',e',dn⟩:=q.item (i:=ds.length - 1 - i) (by omega)
  rw [y xs s] at e'
  cases e'
  exact ⟨Same.refl _,by rw[List.getElem_reverse];exact dn⟩
 stop:=fun rel=>List.length_reverse ..
 nv := noVw1
noncomputable def dRev (tl:DA):DI:=fun env RR=>tl env fun ss env1=>∃ s ds,ss=[s]∧keepOf env1 s=some (.list ds)∧RR ds.reverse env1
theorem qi_rev (hK:X.K=K) (hg:Gl X "reversed") (hm:X.mg "reversed" = none) (ha:PA X [e] (upA K tl)) (hs:starEach [e] X.env=[(false,eval e X.env)]:=by rfl):PI X tg (.Call (.Name "reversed" p) [e] [] pos) (upI K (dRev tl)):=by
 subst hK
 refine (pi_rev hg hm ha hs).imp fun σ H R h=>?_
 obtain ⟨M,P,H0,σ0,env,ts,RR,rel,ht,hq⟩:=h
 refine ⟨M,P,H0,σ0,env,ts,_,rel,ht,fun ss env1 vs H1 h1 hl rel1=>?_⟩
 obtain ⟨s,ds,rfl,k,hR⟩:=h1
 match vs,hl with
 | [v],_ =>
  have dn:=rel1.kept (v:=v) (s:=s) (by simp) k
  obtain ⟨a,xs,rfl,sn,q⟩:=dn.list
  refine ⟨a,xs,rfl,sn.sq,?_⟩
  rw [q.len]
  exact hq _ _ _ _ _ hR (rel1.drop.addFr dn) iter_rev
end
end L2
namespace L2
open PySem PySem.Spec PyProof.Rows PySem.W
section
variable {prog:Program}{w:World}{A:Around}{E:Value→Shared→Prop}{s:Shared}
theorem collect_range {Q:List Value→Shared→Prop}{r:Addr}{a b c:Int}{t u v:Tok}{n:Nat} (hh:A.handled=none) (hr:IsRange s.heap r a b c t u v) (hsmall:Builtin.Range.small a b c=true)
  (hn:Builtin.Range.rangeSize a b c=n) (hlen:n≤2 ^ 24)
  (hQ:∀ h' tk acc,(∀ b o,s.heap.get? b=some o→h'.get? b=some o)→s.heap.objs.size≤h'.objs.size→ItemsOf (fun i v=>∃ t,v=.int (a+i*c) t) acc n→Q acc.toList { s with heap:=h',toks:=tk }) :
  wpAny (model prog w) A (collect (.ref r)) Q E s:=by
 have key:∀ R:Result→Shared→Prop,(∀ h' tk acc' c',(∀ b o,b≠s.heap.objs.size→(s.heap.push { cls:=.type "list",data:=.seq ([]:List Value).toArray }).get? b=some o→h'.get? b=some o)→h'.get? s.heap.objs.size=some { cls:=.type "list",dict:=none,data:=.seq acc' c',slots:=#[] }→ItemsOf (fun i v=>∃ t,v=.int (a+i*c) t) acc' n→R (.ok (.ret (.ref s.heap.objs.size))) { s with heap:=h',toks:=tk }) →
   codeAny (model prog w) A (.builtin "list.__iadd__" ⟨[.ref s.heap.objs.size,.ref r],[]⟩) R { s with heap:=s.heap.push { cls:=.type "list",data:=.seq ([]:List Value).toArray } }:=fun R hR=>by
  refine codeAny_builtin F.entry_list_iadd ?_
  rw [Around.under_plainId F.plain_list_iadd _]
  show wpAny _ A.in1 (Builtin.List.listExtendWith (.ref s.heap.objs.size) (.ref r) (.ref s.heap.objs.size)) _ _ _
  exact wpAny_extend_range (R:=R) (A:=A) (s:={ s with heap:=s.heap.push { cls:=.type "list",data:=.seq ([]:List Value).toArray } }) hh (Heap.get?_push_of_some _ hr) hsmall hn hlen s.heap.objs.size _ 0 (Heap.get?_push_size _ rfl) hR
 unfold collect
 refine wpAny_bind (wpAny_runValue (codeAny_builtin F.entry_proto_collect ?_))
 rw [Around.under_plainId F.plain_proto_collect _]
 show wpAny _ A.in1 (newList [] >>= fun l=>again (.builtin "list.__iadd__" ⟨[l,.ref r],[]⟩)) _ _ s
 refine wpAny_bind (wpAny_newObj_type ?_)
 refine wpAny_pure ⟨plainId_quiet F.plain_list_iadd _,key _ fun h' tk acc' c' hk hS' hacc=>?_⟩
 show wpAny _ A (load s.heap.objs.size >>= _) _ _ _
 refine wpAny_bind (wpAny_load hS' ?_)
 exact wpAny_pure (hQ h' tk acc' (fun b o e=>hk b o (Nat.ne_of_lt (Heap.lt_size e)) (Heap.get?_push_of_some _ e)) (Nat.le_of_lt (Heap.lt_size hS')) hacc)
end
end L2
namespace L2
open PySem PySem.Spec PyProof.Rows PySem.W
noncomputable def keyL (kn:Nat→Int) (n:Nat):List (Int×List Int):=((List.range n).map kn).map fun n=>(n,[])
theorem keyL_len (kn:Nat→Int) (n:Nat):(keyL kn n).length=n:=by simp[keyL]
section
variable {X:Cx}{pins:List (Addr×Obj)}{σ:St}{H0:Hp}{f:Value}{vs:List Value}{A:Around}{E:Value→Shared→Prop}{a kS:Addr}
structure KeyStO (kn:Nat→Int) (X:Cx) (pins:List (Addr×Obj)) (σ:St) (H0:Hp) (a kS:Addr) (e1:Nat) (ks:List Value) (s:Shared):Prop where
 ex : ∃ H c,Inv X pins σ H s∧Same H0 H∧(∀ i (h:i<ks.length),∃ t,ks[i]=Value.int (kn i) t)∧FpOk X pins H a∧FpOk X pins H kS∧s.heap.get? kS=some (seqObj "list" ks.toArray c)
 la : s.heap.get? a=some (seqObj "list" #[] e1)
theorem srtO_loop {kn:Nat→Int}{e1 n:Nat} (ne:a≠kS) (hn:n<64) {body:Value→PUnit→Sem (ForInStep PUnit)}
  (hb:∀ x ks e (s:Shared) (C:Value→Shared→Prop),List.length ks<64→wpAny (model X.prog X.w) A (call f [x]) (fun k s1=>s1.heap.get? kS=some (seqObj "list" (List.toArray ks) e)∧C k s1) (fun _ _=>False) s →
   wpAny (model X.prog X.w) A (body x ⟨⟩) (fun r s'=>r=.yield ⟨⟩∧∃ k s1 c,C k s1∧s'={ s1 with heap:=s1.heap.update kS (Obj.mapSeq (·.push k)) }∧s'.heap.get? kS=some (seqObj "list" (List.toArray (ks++[k])) c)) E s)
  (call:∀ i (h:i<vs.length),∀ H s,Inv X pins σ H s→Same H0 H→wpAny (model X.prog X.w) A (call f [vs[i]]) (KeyEnd X pins σ H s (.int (kn i))) (fun _ _=>False) s) :
  ∀ (r ks:List Value) (s:Shared),r=vs.drop ks.length→n=vs.length→ks.length+r.length=n→KeyStO kn X pins σ H0 a kS e1 ks s →
   wpAny (model X.prog X.w) A (forIn r PUnit.unit body) (fun _ s'=>∃ ks,ks.length=n∧KeyStO kn X pins σ H0 a kS e1 ks s') E s
 | [],ks,s,_,_,hl,h=>by
  rw [List.forIn_nil]
  exact wpAny_pure ⟨ks,by simpa using hl,h⟩
 | x :: r,ks,s,hr,hnv,hl,h=>by
  rw [List.length_cons] at hl
  rw [List.forIn_cons]
  obtain ⟨⟨H,c,I,sm,hk,fa,fk,gk⟩,la⟩:=h
  have hlt:ks.length<vs.length:=by omega
  have hx:x=vs[ks.length]∧r=vs.drop (ks.length+1):=by
   rw [List.drop_eq_getElem_cons hlt] at hr
   injection hr with e1 e2
   exact ⟨e1,e2⟩
  have hc:=call ks.length hlt H s I sm
  rw [←hx.1] at hc
  refine wpAny_bind (wpAny_mono (hb x ks c s (fun k s1=>KeyEnd X pins σ H s (.int (kn ks.length)) k s1) (by omega) (wpAny_mono hc (fun k s1 hk1=>?_) fun _ _ z=>z)) (fun q s' hq=>?_) fun _ _ z=>z)
  ·obtain ⟨H',v,I',sm',rv',dn',kp⟩:=id hk1
   exact ⟨(kp kS _ fk gk).1,hk1⟩
  ·obtain ⟨rfl,k,s1,c2,⟨H',v,I',sm',rv',dn',kp⟩,es,gk'⟩:=hq
   subst es
   have fk':=fp_call fk (kp kS _ fk gk).2
   have fa':=fp_call fa (kp a _ fa la).2
   have su:=Heap.SameBut.update s1.heap kS (Obj.mapSeq (·.push k))
   have I2:=I'.turnedN (t':=s1.toks) (fp:=[kS]) (h':=s1.heap.update kS (Obj.mapSeq (·.push k))) (fun b hb'=>by rw[List.mem_singleton.mp hb'];exact fk') fun b o hb' e=>(su.2 b (fun z=>hb' (by simp[z]))).trans e
   show wpAny (model X.prog X.w) A (forIn r PUnit.unit body) _ E _
   refine srtO_loop ne hn hb call r (ks++[k]) _ (by rw[List.length_append,List.length_singleton];exact hx.2) hnv (by rw[List.length_append,List.length_singleton];omega) ⟨⟨H',c2,I2,sm.trans sm',fun i hi=>?_,fa',fk',gk'⟩,?_⟩
   ·by_cases hik:i<ks.length
    ·rw [List.getElem_append_left hik]
     exact hk i hik
    ·have e:i=ks.length:=by rw[List.length_append,List.length_singleton] at hi;omega
     subst e
     rw [List.getElem_append_right (Nat.le_refl _)]
     cases dn'
     obtain ⟨t,e⟩:=rv'
     exact ⟨t,by simpa using e⟩
   ·exact (su.2 a ne).trans (kp a _ fa la).1
theorem srtO_list {kn:Nat→Int}{s:Shared}{n:Nat}{P:PySem.Fin→Shared→Prop} (I:Inv X pins σ H0 s) (fa:FpOk X pins H0 a) (ho:s.heap.get? a=some (seqObj "list" vs.toArray n)) (h64:vs.length<64) 
  (call:∀ i (h:i<vs.length),∀ H s',Inv X pins σ H s'→Same H0 H→wpAny (model X.prog X.w) A (call f [vs[i]]) (KeyEnd X pins σ H s' (.int (kn i))) (fun _ _=>False) s')
  (h : ∀ H s' c,Inv X pins σ H s'→Same H0 H→FpOk X pins H a→s'.heap.get? a=some (seqObj "list" (pick (srtIx (keyL kn vs.length)) vs Value.none).toArray c)→P (.done (.ret .none)) s') :
  wpAny (model X.prog X.w) A (ksk_tree a f false) P E s:=by
 have ha:a<s.heap.objs.size:=Heap.lt_size ho
 have s1:=Heap.SameBut.update s.heap a (Obj.mapSeq fun _=>(#[]:Array Value))
 obtain ⟨e1,ho1⟩:∃ e1,(s.heap.update a (Obj.mapSeq fun _=>(#[]:Array Value))).get? a=some (seqObj "list" #[] e1):=⟨_,get?_update_seq ho fun _=>#[]⟩
 have keep:∀ b o,b≠a→s.heap.get? b=some o→(((s.heap.update a (Obj.mapSeq fun _=>(#[]:Array Value))).push (seqObj "tuple" vs.toArray 0)).push (seqObj "list" #[] 0)).get? b=some o:=fun b o hb e =>
  Heap.get?_push_of_some _ (Heap.get?_push_of_some _ ((s1.2 b hb).trans e))
 have ho3:(((s.heap.update a (Obj.mapSeq fun _=>(#[]:Array Value))).push (seqObj "tuple" vs.toArray 0)).push (seqObj "list" #[] 0)).get? a=some (seqObj "list" #[] e1):=Heap.get?_push_of_some _ (Heap.get?_push_of_some _ ho1)
 have hsz:((s.heap.update a (Obj.mapSeq fun _=>(#[]:Array Value))).push (seqObj "tuple" vs.toArray 0)).objs.size=s.heap.objs.size+1:=by rw[size_push',Heap.size_update]
 unfold ksk_tree
 refine wpAny_bind (listItems_at ho rfl ?_)
 refine wpAny_bind (listUpdate_at ho rfl ?_ (by rw[List.size_toArray,sizeLine_eq];omega) (Nat.zero_le _))
 refine wpAny_bind (seqEpoch_at ho1 rfl ?_)
 refine wpAny_bind (wpAny_newTuple ?_ (by show vs.length≤_;rw[sizeLine_eq];omega))
 refine wpAny_bind (wpAny_newList ?_ (Nat.zero_le _))
 refine wpAny_holding ?_
 obtain ⟨kS,ekS⟩:∃ kS,kS=((s.heap.update a (Obj.mapSeq fun _=>(#[]:Array Value))).push (seqObj "tuple" vs.toArray 0)).objs.size:=⟨_,rfl⟩
 have gk:(((s.heap.update a (Obj.mapSeq fun _=>(#[]:Array Value))).push (seqObj "tuple" vs.toArray 0)).push (seqObj "list" #[] 0)).get? kS=some (seqObj "list" (List.toArray []) 0):=by rw[ekS];exact Heap.get?_push_size _ rfl
 have hne:a≠kS:=by rw[ekS,hsz];exact Nat.ne_of_lt (Nat.lt_succ_of_lt ha)
 have fk:FpOk X pins H0 kS:=I.fpOk (by rw[ekS,hsz];omega) (I.hok.fresh (by rw[ekS,hsz];omega))
 have I1:=I.turnedN (t':=s.toks) (fp:=[a]) (h':=((s.heap.update a (Obj.mapSeq fun _=>(#[]:Array Value))).push (seqObj "tuple" vs.toArray 0)).push (seqObj "list" #[] 0)) (fun b hb=>by rw[List.mem_singleton.mp hb];exact fa) fun b o hb e=>keep b o (fun z=>hb (by simp[z])) e
 rw [←ekS]
 show wpAny (model X.prog X.w) A (ksk_rest a f false vs.toArray e1 (.ref kS)) P E { s with heap:=((s.heap.update a (Obj.mapSeq fun _=>(#[]:Array Value))).push (seqObj "tuple" vs.toArray 0)).push (seqObj "list" #[] 0) }
 unfold ksk_rest
 refine wpAny_bind (wpAny_rule ?_)
 first
  | rw[List.forIn_toArray]
  | (rw[←Array.forIn_toList];simp only [List.toList_toArray])
  | rw[←Array.forIn_toList]
 refine wpAny_bind (wpAny_mono (srtO_loop (f:=f) (A:=A) (e1:=e1) (n:=vs.length) hne h64 (fun x ks e s' C hz hx=>?_) call vs [] _ (by simp) rfl (by simp) ⟨⟨H0,0,I1,Same.refl _,fun i hi=>absurd hi (Nat.not_lt_zero _),fa,fk,gk⟩,ho3⟩) (fun _ s' hd=>?_) fun _ _ x=>x)
 ·refine wpAny_bind (wpAny_attempt (wpAny_mono hx (fun k s'' hk=>?_) fun _ _ hF=>hF.elim))
  obtain ⟨nk,hC⟩:=hk
  have ea:(List.toArray ks).push k=List.toArray (ks++[k]):=by simp
  obtain ⟨c2,hc2⟩:∃ c2,(s''.heap.update kS (Obj.mapSeq (·.push k))).get? kS=some (seqObj "list" (List.toArray (ks++[k])) c2):=⟨_,by rw[←ea];exact get?_update_seq nk (·.push k)⟩
  try dsimp only
  refine wpAny_bind (listUpdate_at nk rfl ?_ (by rw[List.size_toArray,sizeLine_eq];omega) (Nat.le_trans (Nat.le_of_eq (Array.size_push ..)) (by rw[List.size_toArray,sizeLine_eq];omega)))
  exact wpAny_pure ⟨rfl,k,s'',c2,hC,rfl,hc2⟩
 ·obtain ⟨ks,hl,⟨⟨H,c,I2,sm,hk,fa2,fk2,gk2⟩,la⟩⟩:=hd
  refine wpAny_bind (listItems_at gk2 rfl ?_)
  have fin:∀ (ws:List Value) (st:SortSt),ws=pick (srtIx (keyL kn vs.length)) vs Value.none→(arrOf st).map (·.2)=ws.toArray→failedOf st=none→wpAny (model X.prog X.w) A (ksk_tail a false e1 (.ref kS) st) P E s':=fun ws st hp hout hf=>by
   have hwl:ws.length=vs.length:=by rw[hp];unfold pick;rw[List.length_map,(srtIx_perm _).length_eq,List.length_range,keyL_len]
   have t1:=Heap.SameBut.update s'.heap kS (Obj.mapSeq fun _=>(#[]:Array Value))
   have la1:(s'.heap.update kS (Obj.mapSeq fun _=>(#[]:Array Value))).get? a=some (seqObj "list" #[] e1):=(t1.2 a hne).trans la
   have t2:=Heap.SameBut.update (s'.heap.update kS (Obj.mapSeq fun _=>(#[]:Array Value))) a (Obj.mapSeq fun _=>ws.toArray)
   obtain ⟨c2,hc2⟩:∃ c2,((s'.heap.update kS (Obj.mapSeq fun _=>(#[]:Array Value))).update a (Obj.mapSeq fun _=>ws.toArray)).get? a=some (seqObj "list" ws.toArray c2):=⟨_,get?_update_seq la1 fun _=>ws.toArray⟩
   unfold ksk_tail
   try dsimp only
   rw [hout]
   refine wpAny_bind (listUpdate_at gk2 rfl ?_ (by rw[List.size_toArray,sizeLine_eq];omega) (Nat.zero_le _))
   refine wpAny_bind (wpAny_letGo ?_)
   refine wpAny_bind (seqEpoch_at la1 rfl ?_)
   simp only [Bool.false_eq_true,if_false]
   refine wpAny_bind (listUpdate_at la1 rfl ?_ (Nat.zero_le _) (by rw[List.size_toArray,sizeLine_eq];omega))
   rw [hf]
   simp only [bne_self_eq_false,Bool.false_eq_true,if_false]
   refine wpAny_pure (h H _ c2 (I2.turnedN (t':=s'.toks) (fp:=[kS,a]) (fun b hb=>?_) fun b o hb e=>?_) sm fa2 (by rw[←hp];exact hc2))
   ·rcases List.mem_cons.mp hb with rfl|hb
    ·exact fk2
    ·rw [List.mem_singleton.mp hb];exact fa2
   ·simp only [List.mem_cons,List.not_mem_nil,or_false,not_or] at hb
    exact (t2.2 b hb.2).trans ((t1.2 b hb.1).trans e)
  unfold ksk_end
  try dsimp only
  simp only [Bool.false_eq_true,if_false]
  by_cases h2:2≤vs.length
  ·have hn2:¬vs.toArray.size<2:=by rw[List.size_toArray];omega
   rw [if_neg hn2,if_neg hn2]
   have hok:KeyOkX X.prog X.w A ks (keyL kn ks.length) s':=ints_okX (ns:=(List.range ks.length).map kn) (by omega) (fun i hi=>by
    obtain ⟨t,e⟩:=hk i hi
    exact ⟨t,by rw[e];simp[List.getD_eq_getElem?_getD,hi]⟩) (by simp)
   have hkl:keyL kn ks.length=keyL kn vs.length:=by rw[hl]
   rw [hkl] at hok
   refine wpAny_bind (wpAny_mono hok (fun κ s0 hk'=>?_) fun _ _ x=>x.elim)
   obtain ⟨rfl,hask⟩:=hk'
   have hix:srtIx (keyL kn vs.length)=(kasRun (fun i j=>keyLt ((keyL kn vs.length).getD i (0,[])) ((keyL kn vs.length).getD j (0,[]))) (kas_sort vs.length)).toList:=by
    unfold srtIx
    rw [if_neg (by rw[keyL_len];omega),keyL_len]
   refine wpAny_bind (wpAny_mono (kat_run (κ:=κ) (A:=A) (prog:=X.prog) (w:=X.w) (ks:=ks) (vs:=vs) (G:=fun p s2=>p=kasRun (fun i j=>keyLt ((keyL kn vs.length).getD i (0,[])) ((keyL kn vs.length).getD j (0,[]))) (kas_sort vs.length)∧s2=s0)
    (Q := fun st' s2=>∃ p:Array Nat,p=kasRun (fun i j=>keyLt ((keyL kn vs.length).getD i (0,[])) ((keyL kn vs.length).getD j (0,[]))) (kas_sort vs.length)∧p.size=vs.length∧arrOf st'=p.map (kas_item (ks.toArray.zip vs.toArray))∧failedOf st'=none∧s2=s0)
    hl h2 h64 (fun p' st' s2 a1 a2 a3 a4=>⟨p',a4.1,a1,a2,a3,a4.2⟩) (kas_det (fun s2=>s2=s0) (fun i j C s2 hi hj e hc=>by subst e;exact hask i j C (by omega) (by omega) (hc _ rfl)) (sort_all (n:=vs.length) (by omega)) (fun s2 e=>⟨rfl,e⟩) rfl)) ?_ fun _ _ e=>e)
   rintro ⟨⟨⟩,st'⟩ s2 ⟨p,hpn,hp,har,hf,rfl⟩
   dsimp only
   exact fin _ st' (by rw[hix,←hpn];rfl) (kat_snds hl har) hf
  ·have hn2:vs.toArray.size<2:=by rw[List.size_toArray];omega
   rw [if_pos hn2,if_pos hn2]
   refine wpAny_bind (wpAny_pure ?_)
   refine wpAny_bind (wpAny_pure ?_)
   dsimp only
   refine fin vs _ ?_ ?_ rfl
   ·unfold srtIx pick
    rw [if_pos (by rw[keyL_len];omega),keyL_len]
    apply List.ext_getElem
    ·simp
    ·intro i h1 h2
     simp [h1]
   show (ks.toArray.zip vs.toArray).map (·.2)=_
   apply Array.toList_inj.mp
   simp
   exact List.map_snd_zip (by omega)
end
theorem vals_pickR {vs:List Value}{n:Nat}{kn:Nat→Int} (hl:vs.length=n) (hv:∀ i (h:i<vs.length),∃ t,vs[i]=Value.int (i:Nat) t):Vals ((pick (srtIx (keyL kn n)) (List.range n) 0).map fun i=>V.int (i:Nat)) (pick (srtIx (keyL kn n)) vs Value.none):=by
 have hlt:∀ i∈srtIx (keyL kn n),i<n:=fun i hi=>by have:=srtIx_lt i hi;rwa [keyL_len] at this
 generalize srtIx (keyL kn n)=p at *
 unfold pick
 rw [List.map_map]
 induction p with
 | nil=>exact .nil
 | cons i p ih =>
  have hi:=hlt i (by simp)
  refine .cons ?_ (ih fun j hj=>hlt j (by simp[hj]))
  obtain ⟨t,e⟩:=hv i (by omega)
  refine ⟨t,?_⟩
  have e2:vs.getD i Value.none=vs[i]:=by simp[List.getD_eq_getElem?_getD,show i<vs.length by omega]
  have e3:(List.range n).getD i 0=i:=by simp[List.getD_eq_getElem?_getD,hi]
  show vs.getD i Value.none=Value.int (((List.range n).getD i 0:Nat):Int) t
  rw [e2,e,e3]
section
variable {X:Cx}{pins:List (Addr×Obj)}{σ:St}{H0:Hp}{f:Addr}{A:Around}{E:Value→Shared→Prop}{s:Shared}
theorem srtR_sorted {kn:Nat→Int}{r:Addr}{n:Nat}{t u v:Tok}{Q:Value→Shared→Prop} (I:Inv X pins σ H0 s) (hh:A.handled=none) (hr:IsRange s.heap r 0 n 1 t u v) (h64:n<64)
  (call:∀ i tt,i<n→∀ H s',Inv X pins σ H s'→Same H0 H→wpAny (model X.prog X.w) A.in1.in1 (call (.ref f) [.int (i:Nat) tt]) (KeyEnd X pins σ H s' (.int (kn i))) (fun _ _=>False) s')
  (h : ∀ (ws:List Value) H s' D c,Vals ((pick (srtIx (keyL kn n)) (List.range n) 0).map fun i=>V.int (i:Nat)) ws→Inv X pins σ H s'→Same H0 H→FpOk X pins H D→s'.heap.get? D=some (seqObj "list" ws.toArray c)→Q (.ref D) s') :
  wpAny (model X.prog X.w) A (PySem.call (.builtin "sorted") [.ref r] [(Str.ofString "key",.ref f)]) Q E s:=by
 refine call_function_entry_kw kind_sorted plain_sorted entry_sorted (ksk_s1 _ _) ?_
 unfold Builtin.«sorted»
 refine wpAny_bind (m:=checkCount "sorted" 1 1 _) (wpAny_pure ?_)
 have hsz:Builtin.Range.rangeSize 0 (n:Int) 1=n:=by
  unfold Builtin.Range.rangeSize
  rw [if_pos (by decide)]
  split <;> omega
 have hsm:Builtin.Range.small 0 (n:Int) 1=true:=small_one (by omega) (by omega) (by omega) (by omega)
 refine wpAny_bind (collect_range (n:=n) hh hr hsm hsz (by omega) fun h' tk acc keep hle hacc=>?_)
 have hlen:acc.toList.length=n:=by rw[Array.length_toList];exact hacc.1
 have hval:∀ i (hi:i<acc.toList.length),∃ t,acc.toList[i]=Value.int (i:Nat) t:=fun i hi=>by
  obtain ⟨t,e⟩:=hacc.2 i acc.toList[i] (by rw[←Array.getElem?_toList,List.getElem?_eq_getElem hi])
  exact ⟨t,by rw[e];simp⟩
 refine wpAny_bind (wpAny_newList ?_ (by rw[sizeLine_eq];omega))
 have hoL:(h'.push (seqObj "list" acc.toList.toArray 0)).get? h'.objs.size=some (seqObj "list" acc.toList.toArray 0):=Heap.get?_push_size _ rfl
 refine wpAny_bind (wpAny_holding (wpAny_call_entry_kw slot_list_sort ⟨_,hoL,rfl⟩ entry_list_sort ?body (ksk_l1 _ _)))
 case body =>
  show wpAny (model X.prog X.w) A.in1.in1 (Builtin.«list.sort» ⟨[.ref h'.objs.size],[(Str.ofString "key",.ref f)]⟩) _ _ _
  rw [ksk_t1]
  refine srtO_list (kn:=kn) (f:=.ref f) (I.kept (t':=tk) (h':=h'.push (seqObj "list" acc.toList.toArray 0)) fun b o e=>Heap.get?_push_of_some _ (keep b o e)) (I.fpOk hle (I.hok.fresh hle)) hoL (by omega) (fun i hi H s' I' sm'=>?_) fun H s' c I' sm fp g=>⟨_,rfl,wpAny_pure ⟨_,rfl,?_⟩⟩
  ·obtain ⟨tt,e⟩:=hval i hi
   rw [e]
   exact call i tt (by omega) H s' I' sm'
  ·rw [hlen] at g
   exact h _ H s' _ c (vals_pickR hlen hval) I' sm fp g
end
end L2
namespace L2
open PySem PySem.Spec PyProof.Rows PySem.W
theorem dns_mapI {K:PySem.W.Frag}{N:Addr→Prop}{H:Hp}:∀ l:List Nat,DNs K N H (l.map fun i=>V.int (i:Nat)) (l.map fun i=>PyData.int (i:Nat))
 | []=>.nil
 | i::l=>.cons (.int _) (dns_mapI l)
section
variable {X:Cx}{K:PySem.W.Frag}{e:Expr}{t:TA}{q0 q1 pos rpos kpos lpos:Pos}{params:Arguments}{scope:Scope}{body:Expr}{p x:Str}{i:Nat}{tb:DE}
noncomputable def tSrtR (K:PySem.W.Frag) (tb:DE) (i:Nat) (t:TA):TE:=fun σ H Q=>t σ H fun xs H1=>∃ (n:Nat) (kn:Nat→Int) (N:Addr→Prop) (v0:V) (d0:PyData),xs=[.int (n:Nat)]∧n<64∧σ[i]? = some (some v0)∧DN K N H1 v0 d0 ∧
 (∀ j,j<n→keyTo (fun d=>d=.int (kn j)) tb (.int (j:Nat)) d0)∧∀ H2,Same H1 H2→∀ q,H2 q=none→Q (.ref q) (upd H2 q (.lst ((pick (srtIx (keyL kn n)) (List.range n) 0).map fun i=>V.int (i:Nat))))
theorem pe_srtR (hK:X.K=K) (hc0:X.calm=true) (L:LamAt X) (hr:Room 4 X.A) (hg:Gl X "sorted") (hm:X.mg "sorted" = none) (hg2:Gl X "range") (hm2:X.mg "range" = none) (ha:PA X [e] t) (S:LamScope p x scope)
  (hN:X.N[i]? = some x) (hv:Vis X.env.scope x) (hcel:X.env.kindOf x=some .cell∨X.env.kindOf x=some .free) (hnl:X.env.kindOf x≠some .local)
  (hb:∀ (qual:Str) (cl:List (Str×Addr)) (pm c ctv u:Value),bindArgs (kla_fn "<lambda>" qual params body scope cl pm c ctv) ⟨[u],[]⟩=pure [(p,u)])
  (hcl:∀ c,X.env.cells.lookup x=some c→closureFor scope X.env=pure [(x,c)]) (hdef:defaultsOf params X.env=([],[]))
  (hbody:∀ (A:Around) (s:Shared) (H:Hp) (f:Addr) (cd:Value) (c:Addr),Room 1 (A.deeper (envX (X.env.qual ++ "<lambda>") scope s.heap.objs.size f cd [(x,c)]))→PE (cxCl CX0 X.prog X.w X.K X.mg X.base [p,x] (X.env.qual ++ "<lambda>") scope f cd [(x,c)] A X.stack s H E0) body (up X.K tb))
  (hs2:starEach [e] X.env=[(false,eval e X.env)]:=by rfl)
  (he2:backTo pos (starEach [.Call (.Name "range" q1) [e] [] rpos] X.env)=(false,eval (.Call (.Name "range" q1) [e] [] rpos) X.env)::backTo pos (starEach [] X.env):=by rfl) :
  PE X (.Call (.Name "sorted" q0) [.Call (.Name "range" q1) [e] [] rpos] [⟨some "key",.Lambda params body scope lpos,kpos⟩] pos) (tSrtR K tb i t):=by
 subst hK
 intro pins s σ H Q I h
 obtain ⟨c,hc⟩:=I.ok.has x hcel
 refine wpAny_Call_Name_kw (ld_blt I hg hm boot_sorted ?_ (by decide) (by decide))
 refine callWith_kw ?_ he2 (by rw[he2];rfl) rfl rfl
 rw [he2]
 refine Calls.spliced_cons ?_
 refine Call_ (ld_blt I hg2 hm2 boot_range (PyProof.Rows.callWith_type1 (thn (ha rpos pins s σ H _ I h) fun us s1 ⟨vs,H1,I1,r1,q1⟩=>?_) hs2 rfl))
 obtain ⟨n,kn,N,v0,d0,rfl,h64,hv0,dn0,hkey,q⟩:=q1
 obtain ⟨u,rfl,ru⟩:=vals1 r1
 obtain ⟨tn,rfl⟩:=ru
 refine call_range_1 ?_
 refine Calls.spliced_nil ?_
 generalize es1:({ s1 with heap:=s1.heap.push { cls:=.type "range",data:=.fields #[.int 0 s1.toks,.int (n:Nat) tn,.int 1 (s1.toks+1)] },toks:=s1.toks+1+1 }:Shared)=s1'
 have hro:s1'.heap.get? s1.heap.objs.size=some { cls:=.type "range",data:=.fields #[.int 0 s1.toks,.int (n:Nat) tn,.int 1 (s1.toks+1)] }:=by rw[←es1];exact Heap.get?_push_size _ rfl
 have I1':Inv X pins σ H1 s1':=by rw[←es1];exact I1.kept fun b o e=>Heap.get?_push_of_some _ e
 have fpr:FpOk X pins H1 s1.heap.objs.size:=I1.fpOk (Nat.le_refl _) (I1.hok.fresh (Nat.le_refl _))
 generalize s1.heap.objs.size=r at *
 generalize ero:({ cls:=.type "range",data:=.fields #[.int 0 s1.toks,.int (n:Nat) tn,.int 1 (s1.toks+1)] }:Obj)=ro at *
 have I1p:Inv X ((r,ro)::pins) σ H1 s1':=I1'.pins_of fun z hz=>by
  rcases List.mem_cons.mp hz with rfl|hz
  ·exact ⟨hro,fpr.1,fpr.2.1,fpr.2.2.1,fun v=>by rw[←ero];exact fun z=>by cases z⟩
  ·exact I1'.pin z (List.mem_append_right _ hz)
 show wpAny _ _ (evalAll [(do let v ←eval (.Lambda params body scope lpos) X.env;standAt pos;pure v)]) _ _ s1'
 refine wpAny_evalAll_cons (wpAny_bind (lam_makeC I1p L (hcl c hc) hdef fun f c' pm ctv s2 H2 I2 sm hfo fpf cz=>wpAny_bind (wpAny_standAt (wpAny_pure (wpAny_evalAll_nil ?_)))))
 have hr2:s2.heap.get? r=some ro:=(I2.pin (r,ro) (List.mem_append_right _ List.mem_cons_self)).1
 obtain ⟨fo,hfo'⟩:∃ fo,fo=kla_obj "<lambda>" (X.env.qual ++ "<lambda>") params body scope [(x,c)] pm c' ctv:=⟨_,rfl⟩
 rw [←hfo'] at hfo
 have I3:Inv X ((f,fo)::(r,ro)::pins) σ H2 s2:=I2.pins_of fun z hz=>by
  rcases List.mem_cons.mp hz with rfl|hz
  ·exact ⟨hfo,fpf.1,fpf.2.1,fpf.2.2.1,fun v=>by rw[hfo'];exact fun z=>by cases z⟩
  ·exact I2.pin z (List.mem_append_right _ hz)
 have dn02:DN X.K N0 H2 v0 d0:=(dn0.keep (Keep.same sm)).to fun b _ _ z=>z.elim
 show wpAny _ _ (PySem.call (.builtin "sorted") [.ref r] [(Str.ofString "key",.ref f)]) _ _ _
 refine srtR_sorted (kn:=kn) (n:=n) I3 (I.ok.hd hc0) (t:=s1.toks) (u:=tn) (v:=s1.toks+1) (show s2.heap.get? r=some _ by rw[hr2,←ero]) h64 (fun j tt hj H' s' I' sm'=>?_) fun ws H' s' D cc hvs I' sm' fpD gD=>?_
 ·have gf:=(I'.pin (f,fo) (List.mem_append_right _ List.mem_cons_self)).1
  rw [hfo'] at gf
  obtain ⟨oc,u,ws,t,e1,e2,e3⟩:=cz
  obtain ⟨goc,_⟩:=I'.hok c' _ (sm' _ _ e1)
  obtain ⟨m,hns,hloc⟩:=I'.loc
  obtain ⟨u0,ru0,hlook⟩:=hloc i x v0 hN hv0 hv
  have hcellX:s'.heap.IsCell c (some u0):=by
   rcases hlook with ⟨z,_⟩|⟨_,c2,ec2,ic⟩
   ·exact absurd z hnl
   ·rw [hc] at ec2
    cases ec2
    exact ic
  have hrr:Room 2 X.A.in1.in1:=hr.in1.in1
  refine wpAny_mono (lam_keyC (k:=1) (KP:=fun d=>d=.int (kn j)) (tb:=tb) (f:=f) (c:=c) (c':=c') (v:=.int (j:Nat)) (d:=.int (j:Nat)) I' I'.env0.in1.in1 hrr S (hb _ _ _ _ _ _) (hbody _ _ _ _ _ _ (hrr.deeper _)) gf ⟨_,_,_,_,rfl,goc,e2,e3⟩ hcellX ru0 (I'.freeC x c hc) ⟨tt,rfl⟩ (.int _) (dn02.keep (Keep.same sm')) (hkey j hj)) (fun _ _ z=>?_) fun _ _ z=>z
  obtain ⟨kd,rfl,ke⟩:=z
  exact ke
 ·have I4:Inv X pins σ H' s':=I'.pins_of fun z hz=>I'.pin z (List.mem_append_right _ (List.mem_cons_of_mem _ (List.mem_cons_of_mem _ hz)))
  have fpD':FpOk X pins H' D:=⟨fpD.1,fpD.2.1,fpD.2.2.1,fpD.2.2.2.1,fpD.2.2.2.2.1,fun z hz=>fpD.2.2.2.2.2 z (by
   rcases List.mem_append.mp hz with hz|hz
   ·exact List.mem_append_left _ hz
   ·exact List.mem_append_right _ (List.mem_cons_of_mem _ (List.mem_cons_of_mem _ hz)))⟩
  refine ⟨.ref D,_,I4.track (o:=.lst ((pick (srtIx (keyL kn n)) (List.range n) 0).map fun i=>V.int (i:Nat))) fpD' ⟨?_,ws,cc,hvs,gD⟩,rfl,q _ (sm.trans sm') _ fpD.1⟩
  rw [List.length_map]
  unfold pick
  rw [List.length_map,(srtIx_perm _).length_eq,List.length_range,keyL_len,sizeLine_eq]
  omega
noncomputable def dSrtR (tb:DE) (i:Nat) (t:DA):DE:=fun env R=>t env fun ss env1=>∃ s n kn d0,ss=[s]∧valOf env1 s=some (.int (n:Nat))∧env1[i]? = some (.fr d0)∧n<64∧(∀ j:Nat,j<n→keyTo (fun d=>d=.int (kn j)) tb (.int (j:Nat)) d0) ∧
 R (.ow ((pick (srtIx (keyL kn n)) (List.range n) 0).map fun i=>PyData.int (i:Nat))) env1
variable {tl:DA}
theorem q_srtR (i:Nat) (hK:X.K=K) (hc0:X.calm=true) (L:LamAt X) (hr:Room 4 X.A) (hg:Gl X "sorted") (hm:X.mg "sorted" = none) (hg2:Gl X "range") (hm2:X.mg "range" = none) (ha:PA X [e] (upA K tl)) (S:LamScope p x scope)
  (hN:X.N[i]? = some x) (hv:Vis X.env.scope x) (hcel:X.env.kindOf x=some .cell∨X.env.kindOf x=some .free) (hnl:X.env.kindOf x≠some .local)
  (hb:∀ (qual:Str) (cl:List (Str×Addr)) (pm c ctv u:Value),bindArgs (kla_fn "<lambda>" qual params body scope cl pm c ctv) ⟨[u],[]⟩=pure [(p,u)])
  (hcl:∀ c,X.env.cells.lookup x=some c→closureFor scope X.env=pure [(x,c)]) (hdef:defaultsOf params X.env=([],[]))
  (hbody:∀ (A:Around) (s:Shared) (H:Hp) (f:Addr) (cd:Value) (c:Addr),Room 1 (A.deeper (envX (X.env.qual ++ "<lambda>") scope s.heap.objs.size f cd [(x,c)]))→PE (cxCl CX0 X.prog X.w X.K X.mg X.base [p,x] (X.env.qual ++ "<lambda>") scope f cd [(x,c)] A X.stack s H E0) body (up X.K tb))
  (hs2:starEach [e] X.env=[(false,eval e X.env)]:=by rfl)
  (he2:backTo pos (starEach [.Call (.Name "range" q1) [e] [] rpos] X.env)=(false,eval (.Call (.Name "range" q1) [e] [] rpos) X.env)::backTo pos (starEach [] X.env):=by rfl) :
  PE X (.Call (.Name "sorted" q0) [.Call (.Name "range" q1) [e] [] rpos] [⟨some "key",.Lambda params body scope lpos,kpos⟩] pos) (up K (dSrtR tb i tl)) :=
 (pe_srtR (K:=K) (tb:=tb) hK hc0 L hr hg hm hg2 hm2 ha S hN hv hcel hnl hb hcl hdef hbody hs2 he2).imp fun σ H Q h=>by
 obtain ⟨M,P,H0,σ0,env,ts,R,rel,ht,hq⟩:=h
 refine ⟨M,P,H0,σ0,env,ts,_,rel,ht,fun ss env1 vs H1 h1 hl rel1=>?_⟩
 obtain ⟨s,n,kn,d0,rfl,e1,e0,h64,hk,hR⟩:=h1
 match vs,hl with
 | [v],_ =>
  have ev:=(rel1.view (v:=v) (by simp) e1).int
  subst ev
  obtain ⟨x0,ex,m0⟩:=rel1.slot e0
  obtain ⟨v0,ev0,dn0⟩:=rel1.e.fr _ _ m0
  refine ⟨n,kn,_,v0,d0,rfl,h64,by rw[ex,ev0],dn0,hk,fun H2 sm p' hp=>hq _ _ _ _ hR ((rel1.same sm).resOw hp ?_)⟩
  refine dns_mapI _
end
end L2
namespace L2
open PySem PySem.Spec PyProof.Rows PySem.W
noncomputable abbrev IsZipF (h:Heap) (z TI TO:Addr) (f0 f1:Value):Prop :=
 h.get? z=some { cls:=.type "zip",dict:=none,data:=.fields #[f0,f1,.bool false,.ref TI,.ref TO],slots:=#[] }
section
variable {prog:Program}{w:World}{A:Around}{E:Value→Shared→Prop}{s:Shared}
theorem zip_kept {z TI TO a:Addr}{f:Bool}{oa:Obj}{Q:Bool→Shared→Prop} (hz:IsZipF s.heap z TI TO (rawInt a) (.bool f)) (ha:s.heap.get? a=some oa)
  (h : ∀ h₁,IsZipF h₁ z TI TO (rawInt a) (.bool true)→Heap.SameBut z s.heap h₁→Q false { s with heap:=h₁ }):wpAny (model prog w) A (Builtin.SmallTypes.ownedTupleIsFree (.ref z)) Q E s:=by
 unfold Builtin.SmallTypes.ownedTupleIsFree
 refine wpAny_bind (wpAny_field hz rfl (x:=rawInt a) rfl ?_)
 show wpAny _ _ (loadIfAlive ((a:Int).toNat) >>= _) _ _ _
 rw [Int.toNat_natCast]
 refine wpAny_bind (kdx_alive ha ?_)
 simp only [Option.isNone_some,Bool.false_eq_true,if_false]
 refine wpAny_bind (wpAny_field hz rfl (x:=.bool f) rfl ?_)
 cases f with
 | true =>
  rw [if_neg (show ¬((Value.bool true != Value.bool true)=true) from Bool.false_ne_true)]
  exact wpAny_pure (h _ hz (Heap.SameBut.refl _ _))
 | false =>
  rw [if_pos (show (Value.bool false != Value.bool true)=true from rfl)]
  exact wpAny_bind (wpAny_setField_rec hz (by simp) fun h₃ he₃ hs₃=>wpAny_pure (h h₃ he₃ hs₃))
theorem zip_next_out {z TI TO i1 i2 l1 l2 a:Addr}{f:Bool}{oa:Obj}{k1 k2:Nat}{xs ys:Array Value}{x y:Value}{Q:Value→Shared→Prop} (D:ZipApart z TI TO i1 i2 l1 l2)
  (hz:IsZipF s.heap z TI TO (rawInt a) (.bool f)) (ha:s.heap.get? a=some oa) (hTI:IsPair s.heap TI (.ref i1) (.ref i2))
  (h1:s.heap.IsListIter i1 l1 k1) (h2:s.heap.IsListIter i2 l2 k2) (hl1:s.heap.IsList l1 xs) (hl2:s.heap.IsList l2 ys) (hx:xs[k1]? = some x) (hy:ys[k2]? = some y)
  (hQ:∀ h',IsZipF h' z TI TO (rawInt a) (.bool true)→h'.IsListIter i1 l1 (k1+1)→h'.IsListIter i2 l2 (k2+1)→IsPair h' s.heap.objs.size x y→h'.objs.size=s.heap.objs.size+1 →
   (∀ c o,c≠z→c≠i1→c≠i2→s.heap.get? c=some o→h'.get? c=some o)→Q (.ref s.heap.objs.size) { s with heap:=h' }) :
  wpAny (model prog w) A (Builtin.«zip.__next__» ⟨[.ref z],[]⟩) (fun fin s'=>∃ v,fin=.done (.ret v)∧Q v s') E s:=by
 show wpAny _ _ (field (.ref z) 2 >>= _) _ _ _
 refine wpAny_bind (wpAny_field hz rfl (x:=.bool false) rfl ?_)
 show wpAny _ _ (field (.ref z) 3 >>= _) _ _ _
 refine wpAny_bind (wpAny_field hz rfl (x:=.ref TI) rfl ?_)
 refine wpAny_bind (wpAny_seqItems hTI rfl ?_)
 show wpAny _ _ (Builtin.SmallTypes.ownedTupleIsFree (.ref z) >>= _) _ _ _
 refine wpAny_bind (zip_kept hz ha fun h₁ hz₁ hs₁=>?_)
 simp only [Bool.false_eq_true,if_false]
 refine wpAny_bind ?_
 rw [←Array.forIn_toList]
 simp only [List.forIn_cons,List.forIn_nil]
 refine wpAny_bind (wpAny_bind (wpAny_holding ?_))
 show wpAny _ _ (Builtin.SmallTypes.nextOf (.ref i1) >>= _) _ _ _
 refine wpAny_bind (wpAny_nextOf_list_item (h1.extBut hs₁.extBut D.i1z) (hl1.extBut hs₁.extBut D.l1z) hx fun h₂ h1₂ hs₂=>wpAny_pure ?_)
 dsimp only
 refine wpAny_pure ?_
 dsimp only
 refine wpAny_bind (wpAny_bind (wpAny_holding ?_))
 show wpAny _ _ (Builtin.SmallTypes.nextOf (.ref i2) >>= _) _ _ _
 refine wpAny_bind (wpAny_nextOf_list_item ((h2.extBut hs₁.extBut D.i2z).extBut hs₂.extBut D.i12.symm) ((hl2.extBut hs₁.extBut D.l2z).extBut hs₂.extBut D.l2i1) hy fun h₄ h2₄ hs₄=>wpAny_pure ?_)
 dsimp only
 refine wpAny_pure (wpAny_pure ?_)
 dsimp only
 have hsz:h₄.objs.size=s.heap.objs.size:=by rw[hs₄.1,hs₂.1,hs₁.1]
 refine wpAny_bind (wpAny_newTuple ?_ (by simp[sizeLine_eq]))
 refine wpAny_pure ⟨_,rfl,?_⟩
 have up:∀ c o,h₄.get? c=some o→(h₄.push { cls:=.type "tuple",data:=.seq #[x,y] }).get? c=some o:=fun c o e=>Heap.get?_push_of_some _ e
 have hlt:∀ {c o},h₄.get? c=some o→c<h₄.objs.size:=fun e=>Heap.lt_size e
 have key:=hQ (h₄.push { cls:=.type "tuple",data:=.seq #[x,y] }) (up _ _ (hs₄.extBut _ _ D.i2z.symm (hs₂.extBut _ _ D.i1z.symm hz₁))) ((h1₂.extBut hs₄.extBut D.i12).at fun o e=>up _ o e) (h2₄.at fun o e=>up _ o e) (by rw[←hsz];exact Heap.get?_push_size _ rfl) (by rw[Heap.size_push,hsz])
  fun c o c1 c3 c4 e=>up c o (hs₄.extBut _ _ c4 (hs₂.extBut _ _ c3 (hs₁.extBut _ _ c1 e)))
 show Q (.ref h₄.objs.size) _
 rw [hsz]
 exact key
theorem zip_end_out {z TI TO i1 i2 l1 l2 a:Addr}{f:Bool}{oa:Obj}{k1 k2:Nat}{xs ys:Array Value}{Q:Fin→Shared→Prop} (hh:A.handled=none) (D:ZipApart z TI TO i1 i2 l1 l2)
  (hz:IsZipF s.heap z TI TO (rawInt a) (.bool f)) (ha:s.heap.get? a=some oa) (hTI:IsPair s.heap TI (.ref i1) (.ref i2))
  (h1:s.heap.IsListIter i1 l1 k1) (h2:s.heap.IsListIter i2 l2 k2) (hl1:s.heap.IsList l1 xs) (hl2:s.heap.IsList l2 ys) (hend:xs[k1]? = none∨ys[k2]? = none)
  (hE:∀ h' e,(∀ c o,c≠z→c≠i1→c≠i2→s.heap.get? c=some o→h'.get? c=some o)→(∃ o,h'.get? e=some o∧o.cls=.type "StopIteration")→E (.ref e) { s with heap:=h' }) :
  wpAny (model prog w) A (Builtin.«zip.__next__» ⟨[.ref z],[]⟩) Q E s:=by
 show wpAny _ _ (field (.ref z) 2 >>= _) _ _ _
 refine wpAny_bind (wpAny_field hz rfl (x:=.bool false) rfl ?_)
 show wpAny _ _ (field (.ref z) 3 >>= _) _ _ _
 refine wpAny_bind (wpAny_field hz rfl (x:=.ref TI) rfl ?_)
 refine wpAny_bind (wpAny_seqItems hTI rfl ?_)
 show wpAny _ _ (Builtin.SmallTypes.ownedTupleIsFree (.ref z) >>= _) _ _ _
 refine wpAny_bind (zip_kept hz ha fun h₁ hz₁ hs₁=>?_)
 simp only [Bool.false_eq_true,if_false]
 refine wpAny_bind ?_
 rw [←Array.forIn_toList]
 simp only [List.forIn_cons,List.forIn_nil]
 refine wpAny_bind (wpAny_bind (wpAny_holding ?_))
 show wpAny _ _ (Builtin.SmallTypes.nextOf (.ref i1) >>= _) _ _ _
 cases hx:xs[k1]? with
 | none =>
  refine wpAny_bind (wpAny_nextOf_list_end hh (h1.extBut hs₁.extBut D.i1z) (hl1.extBut hs₁.extBut D.l1z) hx fun h₂ e hs₂ he=>?_)
  exact hE h₂ e (fun c o c1 c3 _ x=>hs₂ _ _ c3 (hs₁.extBut _ _ c1 x)) he
 | some x =>
  have hy:ys[k2]? = none:=by rcases hend with h|h;rw[hx] at h;cases h;exact h
  refine wpAny_bind (wpAny_nextOf_list_item (h1.extBut hs₁.extBut D.i1z) (hl1.extBut hs₁.extBut D.l1z) hx fun h₂ h1₂ hs₂=>wpAny_pure ?_)
  dsimp only
  refine wpAny_pure ?_
  dsimp only
  refine wpAny_bind (wpAny_bind (wpAny_holding ?_))
  show wpAny _ _ (Builtin.SmallTypes.nextOf (.ref i2) >>= _) _ _ _
  refine wpAny_bind (wpAny_nextOf_list_end hh ((h2.extBut hs₁.extBut D.i2z).extBut hs₂.extBut D.i12.symm) ((hl2.extBut hs₁.extBut D.l2z).extBut hs₂.extBut D.l2i1) hy fun h₄ e hs₄ he=>?_)
  exact hE h₄ e (fun c o c1 c3 c4 x=>hs₄ _ _ c4 (hs₂.extBut _ _ c3 (hs₁.extBut _ _ c1 x))) he
noncomputable def ZSt (h:Heap) (z TI TO i1 i2 l1 l2:Addr) (xs ys:Array Value) (i:Nat):Prop :=
 IsPair h TI (.ref i1) (.ref i2)∧h.IsListIter i1 l1 i∧h.IsListIter i2 l2 i∧h.IsList l1 xs∧h.IsList l2 ys∧((i=0∧IsZip h z TI TO .none∧∃ a b,IsPair h TO a b)∨∃ (a:Addr) (f:Bool) (oa:Obj),IsZipF h z TI TO (rawInt a) (.bool f)∧h.get? a=some oa∧oa.cls=.type "tuple" ∧ a≠z∧a≠i1∧a≠i2)
theorem ZSt.keep {h h':Heap}{z TI TO i1 i2 l1 l2 S:Addr}{oS:Obj}{xs ys:Array Value}{i:Nat} (x:ZSt h z TI TO i1 i2 l1 l2 xs ys i) (hS:h.get? S=some oS) (hc:oS.cls=.type "list") (n1:l1≠S) (n2:l2≠S)
  (k : ∀ b o,b≠S→h.get? b=some o→h'.get? b=some o):ZSt h' z TI TO i1 i2 l1 l2 xs ys i:=by
 have ne:∀ b o,h.get? b=some o→o.cls≠.type "list" → b≠S:=fun b o e c q=>c (by subst q;rw[hS] at e;cases e;exact hc)
 obtain ⟨hTI,h1,h2,hl1,hl2,hz⟩:=x
 refine ⟨k _ _ (ne _ _ hTI (by simp)) hTI,?_,?_,hl1.at fun o e=>k _ o n1 e,hl2.at fun o e=>k _ o n2 e,?_⟩
 ·obtain ⟨o,e,c,d⟩:=id h1
  exact h1.at fun o' e'=>k _ o' (ne _ _ e (by rw[c];simp)) e'
 ·obtain ⟨o,e,c,d⟩:=id h2
  exact h2.at fun o' e'=>k _ o' (ne _ _ e (by rw[c];simp)) e'
 ·rcases hz with ⟨e,hz,a,b,hTO⟩|⟨a,f,oa,hz,ha,hca,q1,q2,q3⟩
  ·exact .inl ⟨e,k _ _ (ne _ _ hz (by simp)) hz,a,b,k _ _ (ne _ _ hTO (by simp)) hTO⟩
  ·exact .inr ⟨a,f,oa,k _ _ (ne _ _ hz (by simp)) hz,k _ _ (ne _ _ ha (by rw[hca];simp)) ha,hca,q1,q2,q3⟩
theorem z_item {z TI TO i1 i2 l1 l2:Addr}{i:Nat}{xs ys:Array Value}{x y:Value}{Q:Option Value→Shared→Prop} (D:ZipApart z TI TO i1 i2 l1 l2) (hst:ZSt s.heap z TI TO i1 i2 l1 l2 xs ys i) (hx:xs[i]? = some x) (hy:ys[i]? = some y)
  (hQ:∀ h',ZSt h' z TI TO i1 i2 l1 l2 xs ys (i+1)→IsPair h' s.heap.objs.size x y→h'.objs.size=s.heap.objs.size+1 →
   (∀ c o,c≠z→c≠TO→c≠i1→c≠i2→s.heap.get? c=some o→h'.get? c=some o)→Q (some (.ref s.heap.objs.size)) { s with heap:=h' }) :
  wpAny (model prog w) A (pyNext (.ref z)) Q E s:=by
 obtain ⟨hTI,h1,h2,hl1,hl2,hz⟩:=hst
 rcases hz with ⟨rfl,hz,a,b,hTO⟩|⟨a,f,oa,hz,ha,hca,az,a1,a2⟩
 ·refine wpAny_pyNext_zip_item D hz hTI hTO h1 h2 hl1 hl2 hx hy fun h' c1 c2 c3 c4 c5 c6 hk=>?_
  have lt:∀ {c o},s.heap.get? c=some o→s.heap.objs.size≠c:=fun e=>Nat.ne_of_gt (Heap.lt_size e)
  exact hQ h' ⟨hk _ _ D.TIz D.TITO D.TIi1 D.TIi2 hTI,c3,c4,hl1.at fun o e=>hk _ o D.l1z D.l1TO D.l1i1 D.l1i2 e,hl2.at fun o e=>hk _ o D.l2z D.l2TO D.l2i1 D.l2i2 e,
   .inr ⟨_,false,_,c1,c5,rfl,lt hz,(by obtain⟨_,e,_⟩:=h1;exact lt e),(by obtain⟨_,e,_⟩:=h2;exact lt e)⟩⟩ c5 c6 hk
 ·have hT:s.TypeIs (.ref z) "zip" := ⟨_,hz,rfl⟩
  unfold pyNext
  refine wpAny_bind (wpAny_attempt (wpAny_callSpecial?_slot (name:=Str.ofString "__next__") hT F.slot_zip_next
   (wpAny_call_entry F.slot_zip_next hT F.entry_zip_next (zip_next_out D hz ha hTI h1 h2 hl1 hl2 hx hy fun h' c1 c3 c4 c5 c6 hk=>wpAny_pure ?_) (F.args_zip_next_1 _))))
  exact hQ h' ⟨hk _ _ D.TIz D.TIi1 D.TIi2 hTI,c3,c4,hl1.at fun o e=>hk _ o D.l1z D.l1i1 D.l1i2 e,hl2.at fun o e=>hk _ o D.l2z D.l2i1 D.l2i2 e,
   .inr ⟨a,true,oa,c1,hk a oa az a1 a2 ha,hca,az,a1,a2⟩⟩ c5 c6 fun c o d1 _ d3 d4 e=>hk c o d1 d3 d4 e
theorem z_done {z TI TO i1 i2 l1 l2:Addr}{i:Nat}{xs ys:Array Value}{Q:Option Value→Shared→Prop} (hh:A.handled=none) (D:ZipApart z TI TO i1 i2 l1 l2) (hst:ZSt s.heap z TI TO i1 i2 l1 l2 xs ys i) (hend:xs[i]? = none∨ys[i]? = none)
  (hQ:∀ h',(∀ c o,c≠z→c≠TO→c≠i1→c≠i2→s.heap.get? c=some o→h'.get? c=some o)→Q none { s with heap:=h' }):wpAny (model prog w) A (pyNext (.ref z)) Q E s:=by
 obtain ⟨hTI,h1,h2,hl1,hl2,hz⟩:=hst
 rcases hz with ⟨rfl,hz,a,b,hTO⟩|⟨a,f,oa,hz,ha,hca,az,a1,a2⟩
 ·exact wpAny_pyNext_zip_end hh D hz hTI hTO h1 h2 hl1 hl2 hend hQ
 ·have hT:s.TypeIs (.ref z) "zip" := ⟨_,hz,rfl⟩
  unfold pyNext
  refine wpAny_bind (wpAny_attempt (wpAny_callSpecial?_slot (name:=Str.ofString "__next__") hT F.slot_zip_next
   (wpAny_call_entry F.slot_zip_next hT F.entry_zip_next (zip_end_out hh D hz ha hTI h1 h2 hl1 hl2 hend fun h' e hk he=>?_) (F.args_zip_next_1 _))))
  obtain ⟨o,ho,hc⟩:=he
  refine wpAny_bind (wpAny_isInstance (T := "StopIteration") (b:=true) ⟨o,ho,hc⟩ isSubtype_stop ?_)
  exact wpAny_pure (hQ _ fun c o d1 _ d3 d4 e=>hk c o d1 d3 d4 e)
end
section
variable {prog:Program}{w:World}{A:Around}{s:Shared}{R:Result→Shared→Prop}{z TI TO i1 i2 l1 l2:Addr}{xs ys:Array Value}
structure ZG (xs ys:Array Value) (lo:Addr) (h:Heap) (as:List Addr):Prop where
 nd : as.Nodup
 above:∀ a∈as,lo≤a
 pairs:∀ (j:Nat) (a:Addr),as[j]? = some a→∃ x y,xs[j]? = some x∧ys[j]? = some y∧IsPair h a x y
theorem z_loop {S lo:Addr}{n:Nat} (hh:A.handled=none) (D:ZipApart z TI TO i1 i2 l1 l2) (hn:n=min xs.size ys.size) (hnl:n≤sizeLine) (n1:l1≠S) (n2:l2≠S) (zl:z<lo) (tl:TO<lo) (il:i1<lo) (jl:i2<lo) (sl:S<lo) (hSne:S≠z∧S≠TO∧S≠i1∧S≠i2) (res:Value) {h₁:Heap}
  (hR:∀ h' tk acc c as,(∀ b o,b≠S→b≠z→b≠TO→b≠i1→b≠i2→h₁.get? b=some o→h'.get? b=some o)→h'.get? S=some { cls:=.type "list",dict:=none,data:=.seq acc c,slots:=#[] }→as.length=n→ZG xs ys lo h' as →
   acc.toList=as.map Value.ref→R (.ok (.ret res)) { s with heap:=h',toks:=tk }) :
  ∀ (k i:Nat) (h:Heap) (tk c:Nat) (acc:Array Value) (as:List Addr),n - i=k→i≤n→ZSt h z TI TO i1 i2 l1 l2 xs ys i→(∀ b o,b≠S→b≠z→b≠TO→b≠i1→b≠i2→h₁.get? b=some o→h.get? b=some o) →
   h.get? S=some { cls:=.type "list",dict:=none,data:=.seq acc c,slots:=#[] }→acc.toList=as.map Value.ref→as.length=i→ZG xs ys lo h as→lo≤h.objs.size →
   codeAny (model prog w) A (.builtin "list.extend.loop" ⟨[.ref S,.ref z,res],[]⟩) R { s with heap:=h,toks:=tk }:=by
 intro k
 have ne4:∀ b,lo≤b→b≠z∧b≠TO∧b≠i1∧b≠i2∧b≠S:=fun b hb =>
  ⟨Nat.ne_of_gt (Nat.lt_of_lt_of_le zl hb),Nat.ne_of_gt (Nat.lt_of_lt_of_le tl hb),Nat.ne_of_gt (Nat.lt_of_lt_of_le il hb),Nat.ne_of_gt (Nat.lt_of_lt_of_le jl hb),Nat.ne_of_gt (Nat.lt_of_lt_of_le sl hb)⟩
 induction k with
 | zero =>
  intro i h tk c acc as hk hi hst hkeep hS hacc hal hG hlo
  have hin:i=n:=by omega
  refine codeAny_builtin PySem.F.entry_extend_loop ?_
  rw [Around.under_plainId PySem.F.plain_extend_loop _]
  show wpAny _ A.in1 (pyNext (.ref z) >>= _) _ _ _
  have hend:xs[i]? = none∨ys[i]? = none:=by
   rcases Nat.le_total xs.size ys.size with q|q
   ·exact .inl (Array.getElem?_eq_none (by omega))
   ·exact .inr (Array.getElem?_eq_none (by omega))
  refine wpAny_bind (z_done (s:={ s with heap:=h,toks:=tk }) (A:=A.in1) hh D hst hend fun h' he=>?_)
  refine wpAny_pure (hR h' tk acc c as (fun b o b1 b2 b3 b4 b5 e=>he b o b2 b3 b4 b5 (hkeep b o b1 b2 b3 b4 b5 e)) (he S _ hSne.1 hSne.2.1 hSne.2.2.1 hSne.2.2.2 hS) (by omega) ⟨hG.nd,hG.above,fun j a hj=>?_⟩ hacc)
  obtain ⟨x,y,e1,e2,e3⟩:=hG.pairs j a hj
  obtain ⟨q1,q2,q3,q4,_⟩:=ne4 a (hG.above a (List.mem_of_getElem? hj))
  exact ⟨x,y,e1,e2,he a _ q1 q2 q3 q4 e3⟩
 | succ k ih =>
  intro i h tk c acc as hk hi hst hkeep hS hacc hal hG hlo
  have hlt:i<n:=by omega
  have hix:i<xs.size:=by omega
  have hiy:i<ys.size:=by omega
  have hsz:acc.size=i:=by rw[←Array.length_toList,hacc,List.length_map,hal]
  refine codeAny_builtin PySem.F.entry_extend_loop ?_
  rw [Around.under_plainId PySem.F.plain_extend_loop _]
  show wpAny _ A.in1 (pyNext (.ref z) >>= _) _ _ _
  refine wpAny_bind (z_item (s:={ s with heap:=h,toks:=tk }) D hst (Array.getElem?_eq_getElem hix) (Array.getElem?_eq_getElem hiy) fun h' hst' ht hz hkp=>?_)
  dsimp only at ht hz hkp ⊢
  have hS':=hkp S _ hSne.1 hSne.2.1 hSne.2.2.1 hSne.2.2.2 hS
  have up:∀ b o,b≠S→h'.get? b=some o→(h'.update S (Obj.mapSeq (·.push (Value.ref h.objs.size)))).get? b=some o:=fun b o hb e=>(Heap.get?_update_other _ _ (Ne.symm hb)).trans e
  have hTS:h.objs.size≠S:=Nat.ne_of_gt (Heap.lt_size hS)
  show wpAny _ A.in1 (updateSeq S (·.push (Value.ref h.objs.size)) >>= _) _ _ _
  refine wpAny_bind ?_
  refine wpAny_updateSeq hS' rfl (wpAny_pure ⟨plainId_quiet PySem.F.plain_extend_loop _,ih (i+1) _ tk _ (acc.push (Value.ref h.objs.size)) (as++[h.objs.size]) (by omega) hlt (hst'.keep hS' rfl n1 n2 up)
   (fun b o b1 b2 b3 b4 b5 e=>up b o b1 (hkp b o b2 b3 b4 b5 (hkeep b o b1 b2 b3 b4 b5 e))) (Heap.get?_update_self _ hS' rfl) (by rw[Array.toList_push,hacc,List.map_append];rfl) (by rw[List.length_append,hal];rfl) ⟨?_,?_,?_⟩ ?_⟩) (by rw[hsz];omega) (by show (acc.push (Value.ref h.objs.size)).size≤sizeLine+1;rw[Array.size_push,hsz];omega)
  ·refine List.nodup_append.mpr ⟨hG.nd,by simp,fun a ha b hb=>?_⟩
   rw [List.mem_singleton.mp hb]
   obtain ⟨j,hj⟩:=List.mem_iff_getElem?.mp ha
   obtain ⟨_,_,_,_,e⟩:=hG.pairs j a hj
   exact Nat.ne_of_lt (Heap.lt_size e)
  ·intro a ha
   rcases List.mem_append.mp ha with ha|ha
   ·exact hG.above a ha
   ·rw [List.mem_singleton.mp ha];exact hlo
  ·intro j b hj
   rcases Nat.lt_trichotomy j as.length with q|q|q
   ·rw [List.getElem?_append_left q] at hj
    obtain ⟨x,y,e1,e2,e3⟩:=hG.pairs j b hj
    obtain ⟨q1,q2,q3,q4,q5⟩:=ne4 b (hG.above b (List.mem_of_getElem? hj))
    exact ⟨x,y,e1,e2,up b _ q5 (hkp b _ q1 q2 q3 q4 e3)⟩
   ·subst q
    have hb:h.objs.size=b:=by simpa using hj
    subst hb
    exact ⟨_,_,by rw[hal];exact Array.getElem?_eq_getElem hix,by rw[hal];exact Array.getElem?_eq_getElem hiy,up _ _ hTS ht⟩
   ·have hnone:(as++[h.objs.size])[j]? = none:=List.getElem?_eq_none (by rw[List.length_append,List.length_singleton];omega)
    rw [hnone] at hj;cases hj
  ·have e:(h'.update S (Obj.mapSeq (·.push (Value.ref h.objs.size)))).get? h.objs.size=_:=up _ _ hTS ht
   exact Nat.le_trans hlo (Nat.le_of_lt (Heap.lt_size e))
theorem zip_no_len:typeLookup (.type "zip") "__len__" = pure none:=by rw[typeLookup_type,builtinLookup_eq_fast];kernel_rfl
theorem zip_no_hint:typeLookup (.type "zip") "__length_hint__" = pure none:=by rw[typeLookup_type,builtinLookup_eq_fast];kernel_rfl
theorem z_extend {S:Addr}{c₀:Nat} (hh:A.handled=none) (D:ZipApart z TI TO i1 i2 l1 l2) (hst:ZSt s.heap z TI TO i1 i2 l1 l2 xs ys 0) (hz:IsZip s.heap z TI TO .none) (hnl:min xs.size ys.size≤sizeLine) (n1:l1≠S) (n2:l2≠S) (tl:TO<s.heap.objs.size) (hSne:S≠z∧S≠TO∧S≠i1∧S≠i2) (res:Value)
  (hS:s.heap.get? S=some { cls:=.type "list",data:=.seq #[] c₀ })
  (hR:∀ h' tk acc c as,(∀ b o,b≠S→b≠z→b≠TO→b≠i1→b≠i2→s.heap.get? b=some o→h'.get? b=some o)→h'.get? S=some { cls:=.type "list",dict:=none,data:=.seq acc c,slots:=#[] }→as.length=min xs.size ys.size→ZG xs ys s.heap.objs.size h' as →
   acc.toList=as.map Value.ref→R (.ok (.ret res)) { s with heap:=h',toks:=tk }) :
  wpAny (model prog w) A.in1 (Builtin.List.listExtendWith (.ref S) (.ref z) res)
   (fun fin s'=>match fin with|.done f=>R (.ok f) s'|.again c'=>c'.quiet=true∧codeAny (model prog w) A c' R s') (fun e s'=>R (.error e) s') s:=by
 have hT:s.TypeIs (.ref z) "zip" := ⟨_,hz,rfl⟩
 unfold Builtin.List.listExtendWith
 refine wpAny_bind (wpAny_typeOf hT ?_)
 have e1:Builtin.List.listSameRef (.ref S) (.ref z)=false:=by simp[Builtin.List.listSameRef,hSne.1]
 have e2:(Value.type "zip" == Value.type "list")=false:=by decide
 have e3:(Value.type "zip" == Value.type "tuple")=false:=by decide
 simp only [e1,e2,e3,Bool.or_false,Bool.false_eq_true,if_false]
 refine wpAny_bind (wpAny_pyIter_zip hz ?_)
 refine wpAny_bind (wpAny_holding ?_)
 unfold Builtin.List.listLengthHint
 refine wpAny_bind (wpAny_specialOf hT zip_no_len ?_)
 show wpAny _ A.in1 (specialOf (Value.ref z) (Str.ofString "__length_hint__") >>= _) _ _ _
 refine wpAny_bind (wpAny_specialOf hT zip_no_hint ?_)
 refine wpAny_pure ?_
 show wpAny _ A.in1 (rule "list.extend.makes-room" >>= fun _=>Builtin.List.listTouch (.ref S) >>= fun _ =>
  again (.builtin "list.extend.loop" ⟨[.ref S,.ref z,res],[]⟩)) _ _ _
 refine wpAny_bind (wpAny_rule ?_)
 refine wpAny_bind ?_
 show wpAny _ A.in1 (updateSeq S (·.push .none) >>= fun _=>updateSeq S (·.pop)) _ _ _
 refine wpAny_bind (wpAny_updateSeq hS rfl ?_)
 have hS₂:=Heap.get?_update_self (Obj.mapSeq (·.push Value.none)) hS rfl
 refine wpAny_updateSeq (hz:=by seq_fits) hS₂ rfl ?_
 have hS₃:=Heap.get?_update_self (Obj.mapSeq (·.pop)) hS₂ rfl
 have oth:∀ b o,b≠S→s.heap.get? b=some o→((s.heap.update S (Obj.mapSeq (·.push Value.none))).update S (Obj.mapSeq (·.pop))).get? b=some o :=
  fun b o hb e=>(Heap.get?_update_other _ _ (Ne.symm hb)).trans ((Heap.get?_update_other _ _ (Ne.symm hb)).trans e)
 have hsz:((s.heap.update S (Obj.mapSeq (·.push Value.none))).update S (Obj.mapSeq (·.pop))).objs.size=s.heap.objs.size:=by rw[Heap.size_update,Heap.size_update]
 obtain ⟨oi,ei,_⟩:=id hst.2.1
 obtain ⟨oj,ej,_⟩:=id hst.2.2.1
 exact wpAny_pure ⟨plainId_quiet F.plain_extend_loop _,z_loop (lo:=s.heap.objs.size) (h₁:=s.heap) hh D rfl hnl n1 n2 (Heap.lt_size hz) tl (Heap.lt_size ei) (Heap.lt_size ej) (Heap.lt_size hS) hSne res hR _ 0 _ s.toks _ #[] [] rfl (Nat.zero_le _) (hst.keep hS rfl n1 n2 oth) (fun b o b1 _ _ _ _ e=>oth b o b1 e) hS₃ rfl rfl ⟨List.nodup_nil,(fun a ha=>by cases ha),fun j a hj=>by simp at hj⟩ (by rw[hsz];exact Nat.le_refl _)⟩
end
section
variable {prog:Program}{w:World}{A:Around}{E:Value→Shared→Prop}{s:Shared}{z TI TO i1 i2 l1 l2:Addr}{xs ys:Array Value}
theorem call_list_zip {Q:Value→Shared→Prop} (hh:A.handled=none) (D:ZipApart z TI TO i1 i2 l1 l2) (hst:ZSt s.heap z TI TO i1 i2 l1 l2 xs ys 0) (hz:IsZip s.heap z TI TO .none) (hnl:min xs.size ys.size≤sizeLine) (tl:TO<s.heap.objs.size)
  (hQ:∀ h' tk acc c as,(∀ b o,b≠z→b≠TO→b≠i1→b≠i2→s.heap.get? b=some o→h'.get? b=some o)→h'.get? s.heap.objs.size=some { cls:=.type "list",dict:=none,data:=.seq acc c,slots:=#[] }→as.length=min xs.size ys.size →
   ZG xs ys (s.heap.objs.size+1) h' as→acc.toList=as.map Value.ref→Q (.ref s.heap.objs.size) { s with heap:=h',toks:=tk }) :
  wpAny (model prog w) A (call (.type "list") [.ref z]) Q E s:=by
 refine callType_codes (Q₁:=fun obj s₁=>obj=.ref s.heap.objs.size∧s₁={ s with heap:=s.heap.push { cls:=.type "list",data:=.seq #[] } }) F.called_list (F.typeCall_list_1 _) F.entry_list_init
  (code_list_new _ ⟨rfl,rfl⟩) fun obj s₁ h₁=>?_
 obtain ⟨rfl,rfl⟩:=h₁
 have hS:(s.heap.push { cls:=.type "list",data:=.seq #[] }).get? s.heap.objs.size=some { cls:=.type "list",data:=.seq #[] }:=Heap.get?_push_size _ rfl
 refine ⟨⟨_,hS,rfl⟩,F.args_list_init_2 _ _,?_⟩
 show wpAny _ _ (do let old ←Builtin.List.listItems (.ref s.heap.objs.size);Builtin.List.listUpdate (.ref s.heap.objs.size) (fun _=>#[]);letGo old.toList.reverse;Builtin.List.listExtendWith (.ref s.heap.objs.size) (.ref z) .none) _ _ _
 refine wpAny_bind ?_
 unfold Builtin.List.listItems
 refine wpAny_bind (wpAny_seqItems hS rfl (wpAny_pure ?_))
 show wpAny _ _ (updateSeq s.heap.objs.size (fun _=>#[]) >>= fun _=>letGo (#[]:Array Value).toList.reverse >>= fun _=>Builtin.List.listExtendWith (.ref s.heap.objs.size) (.ref z) .none) _ _ _
 refine wpAny_bind (wpAny_updateSeq hS rfl ?_)
 have hS₂:=Heap.get?_update_self (Obj.mapSeq (fun _=>(#[]:Array Value))) hS rfl
 have oth:∀ b o,s.heap.get? b=some o→((s.heap.push { cls:=.type "list",data:=.seq #[] }).update s.heap.objs.size (Obj.mapSeq (fun _=>(#[]:Array Value)))).get? b=some o :=
  fun b o e=>(Heap.get?_update_other _ _ (Nat.ne_of_gt (Heap.lt_size e))).trans (Heap.get?_push_of_some _ e)
 refine wpAny_bind (wpAny_letGo ?_)
 obtain ⟨hTI,h1,h2,hl1,hl2,hzz⟩:=hst
 have gt:∀ {b o},s.heap.get? b=some o→b≠s.heap.objs.size:=fun e=>Nat.ne_of_lt (Heap.lt_size e)
 have hst':ZSt ((s.heap.push { cls:=.type "list",data:=.seq #[] }).update s.heap.objs.size (Obj.mapSeq (fun _=>(#[]:Array Value)))) z TI TO i1 i2 l1 l2 xs ys 0:=by
  refine ⟨oth _ _ hTI,h1.at fun o e=>oth _ o e,h2.at fun o e=>oth _ o e,hl1.at fun o e=>oth _ o e,hl2.at fun o e=>oth _ o e,?_⟩
  rcases hzz with ⟨e,q,a,b,r⟩|⟨a,f,oa,q,r,c,q1⟩
  ·exact .inl ⟨e,oth _ _ q,a,b,oth _ _ r⟩
  ·exact .inr ⟨a,f,oa,oth _ _ q,oth _ _ r,c,q1⟩
 have hsz:((s.heap.push { cls:=.type "list",data:=.seq #[] }).update s.heap.objs.size (Obj.mapSeq (fun _=>(#[]:Array Value)))).objs.size=s.heap.objs.size+1:=by rw[Heap.size_update,Heap.size_push]
 obtain ⟨oi,ei,_⟩:=id h1
 obtain ⟨oj,ej,_⟩:=id h2
 obtain ⟨ol,el,_⟩:=id hl1
 obtain ⟨om,em,_⟩:=id hl2
 refine z_extend (R:=wants (fun r s₂=>r=Value.none∧Q (Value.ref s.heap.objs.size) s₂) E) (A:=A.in1) (s:={ s with heap:=(s.heap.push { cls:=.type "list",data:=.seq #[] }).update s.heap.objs.size (Obj.mapSeq (fun _=>(#[]:Array Value))) }) hh D hst' (oth _ _ hz) hnl (gt el) (gt em) (by show TO<_;rw[hsz];exact Nat.lt_succ_of_lt tl) ⟨(gt hz).symm,Nat.ne_of_gt tl,(gt ei).symm,(gt ej).symm⟩ .none hS₂ fun h' tk acc c as hk hS' hl hG ha=>?_
 dsimp only at hG hk
 rw [hsz] at hG
 exact ⟨rfl,hQ h' tk acc c as (fun b o b1 b2 b3 b4 e=>hk b o (gt e) b1 b2 b3 b4 (oth b o e)) hS' hl hG ha⟩
end
end L2
namespace L2
open PySem PySem.Spec PyProof.Rows PySem.W
section
variable {X:Cx}{pins:List (Addr×Obj)}{σ:St}{s:Shared}
theorem track_pairs:∀ (L:List (Addr×V×V)) (H:Hp),Inv X pins σ H s→(L.map fun t=>t.1).Nodup→(∀ t∈L,FpOk X pins H t.1∧∃ x y,RelV t.2.1 x∧RelV t.2.2 y∧IsPair s.heap t.1 x y) →
  ∃ H',Inv X pins σ H' s∧Same H H'∧(∀ b,b ∉ L.map (fun t=>t.1)→H' b=H b)∧∀ t∈L,H' t.1=some (.tup [t.2.1,t.2.2])
 | [],H,I,_,_=>⟨H,I,Same.refl H,fun _ _=>rfl,fun _ z=>by cases z⟩
 | t :: L,H,I,nd,h=>by
  rw [List.map_cons,List.nodup_cons] at nd
  obtain ⟨fp,x,y,rx,ry,hp⟩:=h t List.mem_cons_self
  have I1:Inv X pins σ (upd H t.1 (.tup [t.2.1,t.2.2])) s:=I.track fp ⟨by rw[sizeLine_eq];simp,[x,y],.cons rx (.cons ry .nil),⟨_,hp,rfl,_,rfl⟩⟩
  have sm:Same H (upd H t.1 (.tup [t.2.1,t.2.2])):=Same.new fp.1
  obtain ⟨H',I2,s2,o2,g2⟩:=track_pairs L _ I1 nd.2 fun u hu=>by
   obtain ⟨f,r⟩:=h u (List.mem_cons_of_mem _ hu)
   have ne:u.1≠t.1:=fun z=>nd.1 (List.mem_map.mpr ⟨u,hu,z⟩)
   exact ⟨⟨by rw[upd_ne ne];exact f.1,f.2⟩,r⟩
  refine ⟨H',I2,sm.trans s2,fun b hb=>?_,fun u hu=>?_⟩
  ·rw [List.map_cons,List.mem_cons,not_or] at hb
   rw [o2 b hb.2,upd_ne hb.1]
  ·rcases List.mem_cons.mp hu with rfl|hu
   ·rw [o2 _ nd.1];exact upd_same
   ·exact g2 u hu
theorem vals_refs:∀ as:List Addr,Vals (as.map V.ref) (as.map Value.ref)
 | []=>.nil
 | a::as=>.cons rfl (vals_refs as)
theorem vals_get:∀ {xs:List V}{us:List Value}{j:Nat}{u:Value}{x:V},Vals xs us→us[j]? = some u→xs[j]? = some x→RelV x u
 | _,_,0,u,x,.cons r _,e,f=>by
  simp only [List.getElem?_cons_zero,Option.some.injEq] at e f
  subst e;subst f;exact r
 | _,_,j+1,u,x,.cons _ r,e,f=>by
  rw [List.getElem?_cons_succ] at e f
  exact vals_get r e f
 | _,_,_,_,_,.nil,e,_=>by simp at e
end
section
variable {X:Cx}{K:PySem.W.Frag}{e1 e2:Expr}{ta:TA}{p q zp pos:Pos}
noncomputable def tLZip (K:PySem.W.Frag) (ta:TA):TE:=fun σ H Q=>ta σ H fun vs H1=>∃ l1 l2 xs ys,vs=[.ref l1,.ref l2]∧SqL K H1 l1 xs∧SqL K H1 l2 ys ∧
 ∀ (H2:Hp) (as:List Addr),Same H1 H2→as.length=(xs.zip ys).length→(∀ t∈as.zip (xs.zip ys),H1 t.1=none∧H2 t.1=some (.tup [t.2.1,t.2.2]))→∀ r,H2 r=none→Q (.ref r) (upd H2 r (.lst (as.map V.ref)))
theorem pe_lzip (hK:X.K=K) (hc0:X.calm=true) (hgl:Gl X "list") (hml:X.mg "list" = none) (hg:Gl X "zip") (hm:X.mg "zip" = none) (ha:PA X [e1,e2] ta)
  (hs0:starEach [.Call (.Name "zip" q) [e1,e2] [] zp] X.env=[(false,eval (.Call (.Name "zip" q) [e1,e2] [] zp) X.env)]:=by rfl)
  (hs0b:backTo pos (starEach [.Call (.Name "zip" q) [e1,e2] [] zp] X.env)=[(false,eval (.Call (.Name "zip" q) [e1,e2] [] zp) X.env)]:=by rfl)
  (hs:starEach [e1,e2] X.env=[(false,eval e1 X.env),(false,eval e2 X.env)]:=by rfl) (hs2:starEach [e2] X.env=[(false,eval e2 X.env)]:=by rfl) :
  PE X (.Call (.Name "list" p) [.Call (.Name "zip" q) [e1,e2] [] zp] [] pos) (tLZip K ta):=by
 subst hK
 intro pins s σ H Q I h
 refine Call_ (ld_blt I hgl hml PyProof.Rows.boot_list (PyProof.Rows.callWith_type1 ?_ hs0 rfl))
 rw [hs0b]
 refine Calls.spliced_cons ?_
 refine Call_ (ld_blt I hg hm PyProof.Rows.boot_zip (PyProof.Rows.callWith_type1 (thn (ha zp pins s σ H _ I h) fun us s1 ⟨vs,H1,I1,r1,q1⟩=>?_) (by rw[hs,hs2]) (by rw[hs2];rfl)))
 obtain ⟨l1,l2,xs,ys,rfl,hq1,hq2,q⟩:=q1
 obtain ⟨u,v,rfl,ru,rv⟩:=vals2 r1
 cases (show u=Value.ref l1 from ru)
 cases (show v=Value.ref l2 from rv)
 obtain ⟨its1,rv1,pl1,z1⟩:=I1.list hq1
 obtain ⟨its2,rv2,pl2,z2⟩:=I1.list hq2
 have ha1:=pl1.isList
 have ha2:=pl2.isList
 refine zip_call (b:=false) (c:=false) ha1 ha2 fun h' hz hTI hTO h1 h2 hk=>?_
 refine Calls.spliced_nil ?_
 obtain ⟨o1,g1,_⟩:=id ha1
 obtain ⟨o2,g2,_⟩:=id ha2
 have lt1:=Heap.lt_size g1
 have lt2:=Heap.lt_size g2
 generalize en:s1.heap.objs.size=n at *
 have ap:ZipApart (n+4) (n+2) (n+3) n (n+1) l1 l2:=by
  constructor <;> (intro z;simp only [Addr] at *;omega)
 have tl:n+3<h'.objs.size:=Heap.lt_size hTO
 refine call_list_zip (s:={ s1 with heap:=h' }) (xs:=its1.toArray) (ys:=its2.toArray) (I.ok.hd hc0) ap ⟨hTI,h1,h2,ha1.at fun o e=>hk _ o e,ha2.at fun o e=>hk _ o e,.inl ⟨rfl,hz,_,_,hTO⟩⟩ hz ?_ tl fun h2 tk acc c as kp hS hlen zg hacc=>?_
 ·have:=rv1.length
  rw [List.size_toArray,←this]
  exact Nat.le_trans (Nat.min_le_left _ _) z1
 have le:n≤h'.objs.size:=by simp only [Addr] at *;omega
 have kk:∀ b o,s1.heap.get? b=some o→h2.get? b=some o:=fun b o e=>by
  have lb:=Heap.lt_size e
  rw [en] at lb
  refine kp b o ?_ ?_ ?_ ?_ (hk b o e) <;> (intro z;simp only [Addr] at *;omega)
 have I2:Inv X pins σ H1 { s1 with heap:=h2,toks:=tk }:=I1.kept kk
 have fr:∀ a,n≤a→H1 a=none:=fun a ha=>I1.hok.fresh (by rw[en];exact ha)
 have hlen2:as.length=(xs.zip ys).length:=by
  rw [hlen,List.length_zip,List.size_toArray,List.size_toArray,rv1.length,rv2.length]
 have hfst:(as.zip (xs.zip ys)).map (fun t=>t.1)=as:=List.map_fst_zip (by rw[hlen2];exact Nat.le_refl _)
 obtain ⟨H3,I3,s3,o3,g3⟩:=track_pairs (as.zip (xs.zip ys)) H1 I2 (by rw[hfst];exact zg.nd) fun t ht=>by
  obtain ⟨j,hj⟩:=List.getElem?_of_mem ht
  rw [List.getElem?_zip_eq_some] at hj
  obtain ⟨j1,j2⟩:=hj
  rw [List.getElem?_zip_eq_some] at j2
  obtain ⟨j2,j3⟩:=j2
  obtain ⟨x,y,hx,hy,hp⟩:=zg.pairs j t.1 j1
  have ab:=zg.above t.1 (List.mem_of_getElem? j1)
  refine ⟨I1.fpOk (by rw[en];exact Nat.le_trans le (Nat.le_trans (Nat.le_succ _) ab)) (fr _ (Nat.le_trans le (Nat.le_trans (Nat.le_succ _) ab))),x,y,?_,?_,hp⟩
  ·exact vals_get rv1 (by simpa using hx) j2
  ·exact vals_get rv2 (by simpa using hy) j3
 have nS:h'.objs.size ∉ (as.zip (xs.zip ys)).map (fun t=>t.1):=by
  rw [hfst]
  intro z
  exact Nat.not_succ_le_self _ (zg.above _ z)
 have f3:H3 h'.objs.size=none:=by rw[o3 _ nS];exact fr _ le
 refine ⟨.ref h'.objs.size,_,I3.track (o:=.lst (as.map V.ref)) (I1.fpOk (by rw[en];exact le) f3) ⟨?_,as.map Value.ref,c,vals_refs as,?_⟩,rfl,q H3 as s3 hlen2 (fun t ht=>⟨?_,g3 t ht⟩) _ f3⟩
 ·rw [List.length_map,hlen2,List.length_zip]
  exact Nat.le_trans (Nat.min_le_left _ _) z1
 ·rw [←hacc]
  exact hS
 ·have:t.1∈as:=by rw[←hfst];exact List.mem_map.mpr ⟨t,ht,rfl⟩
  exact fr _ (Nat.le_trans le (Nat.le_trans (Nat.le_succ _) (zg.above _ this)))
end
section
variable {K:PySem.W.Frag}{N:Addr→Prop}{H1 H2:Hp}
theorem dns_zipL (k:Same H1 H2) (hN:∀ a,H1 a=none→¬N a):∀ (as:List Addr) {xs ys:List V}{d1 d2:List PyData},DNs K N H1 xs d1→DNs K N H1 ys d2→as.length=(xs.zip ys).length→(∀ t∈as.zip (xs.zip ys),H1 t.1=none∧H2 t.1=some (.tup [t.2.1,t.2.2])) →
  DNs K N H2 (as.map V.ref) ((d1.zip d2).map fun p=>PyData.tuple [p.1,p.2])
 | [],_,_,_,_,.nil,_,_,_=>.nil
 | [],_,_,_,_,.cons _ _,.nil,_,_=>.nil
 | [],_,_,_,_,.cons _ _,.cons _ _,e,_=>by simp at e
 | _::_,_,_,_,_,.nil,_,e,_=>by simp at e
 | _::_,_,_,_,_,.cons _ _,.nil,e,_=>by simp at e
 | a::as,_,_,_,_,.cons u us,.cons w ws,e,h=>by
  simp only [List.zip_cons_cons,List.length_cons,Nat.add_right_cancel_iff] at e
  simp only [List.zip_cons_cons,List.map_cons]
  obtain ⟨h1,h2⟩:=h (a,_,_) (by rw[List.zip_cons_cons,List.zip_cons_cons];exact List.mem_cons_self)
  refine .cons (.tup (SnT.of h2 (hN a h1)) (.cons (u.keep (Keep.same k)) (.cons (w.keep (Keep.same k)) .nil))) (dns_zipL k hN as us ws e fun t ht=>h t ?_)
  rw [List.zip_cons_cons,List.zip_cons_cons]
  exact List.mem_cons_of_mem _ ht
end
section
variable {X:Cx}{K:PySem.W.Frag}{e1 e2:Expr}{p q zp pos:Pos}{tl:DA}
noncomputable def dLZip (t:DA):DE:=fun env R=>t env fun ss env1=>∃ s1 s2 d1 d2,ss=[s1,s2]∧valOf env1 s1=some (.list d1)∧valOf env1 s2=some (.list d2)∧R (.ow ((d1.zip d2).map fun p=>PyData.tuple [p.1,p.2])) env1
theorem q_lzip (hK:X.K=K) (hc0:X.calm=true) (hgl:Gl X "list") (hml:X.mg "list" = none) (hg:Gl X "zip") (hm:X.mg "zip" = none) (ha:PA X [e1,e2] (upA K tl))
  (hs0:starEach [.Call (.Name "zip" q) [e1,e2] [] zp] X.env=[(false,eval (.Call (.Name "zip" q) [e1,e2] [] zp) X.env)]:=by rfl)
  (hs0b:backTo pos (starEach [.Call (.Name "zip" q) [e1,e2] [] zp] X.env)=[(false,eval (.Call (.Name "zip" q) [e1,e2] [] zp) X.env)]:=by rfl)
  (hs:starEach [e1,e2] X.env=[(false,eval e1 X.env),(false,eval e2 X.env)]:=by rfl) (hs2:starEach [e2] X.env=[(false,eval e2 X.env)]:=by rfl) :
  PE X (.Call (.Name "list" p) [.Call (.Name "zip" q) [e1,e2] [] zp] [] pos) (up K (dLZip tl)) :=
 (pe_lzip (K:=K) hK hc0 hgl hml hg hm ha hs0 hs0b hs hs2).imp fun σ H Q h=>by
 obtain ⟨M,P,H0,σ0,env,ts,R,rel,ht,hq⟩:=h
 refine ⟨M,P,H0,σ0,env,ts,_,rel,ht,fun ss env1 vs H1 h1 hl rel1=>?_⟩
 obtain ⟨s1,s2,d1,d2,rfl,e1,e2,hR⟩:=h1
 match vs,hl with
 | [v,w],_ =>
  obtain ⟨l1,xs,rfl,sq1,q1⟩:=(rel1.view (v:=v) (by simp) e1).list
  obtain ⟨l2,ys,rfl,sq2,q2⟩:=(rel1.view (v:=w) (by simp) e2).list
  exact ⟨l1,l2,xs,ys,rfl,sq1,sq2,fun H2 as sm hlen hz r hr=>hq _ _ _ _ hR ((rel1.same sm).resOw hr (dns_zipL sm (fun a ea=>rel1.newAddr ea) as q1 q2 hlen hz))⟩
end
end L2
namespace L2
open PySem PySem.Spec PyProof.Rows PySem.W
section
variable {X:Cx}{K:PySem.W.Frag}
noncomputable def dFzT (i:Nat) (u:DS):DS:=fun DD env=>∃ S d,env[i]? = some (.tr S d)∧u DD (env.set i (.fr d))
theorem qs_frzT (i:Nat) {ss:List Stmt}{u:DS} (h:PSs X ss (upS K u)):PSs X ss (upS K (dFzT i u)):=h.imp fun D σ H h=>by
 obtain ⟨M,P,H0,σ0,env,ts,DD,nv,rel,⟨S,d,e,hu⟩,ok⟩:=h
 exact ⟨M,P,H0,σ0,_,ts,DD,nv,rel.frzT e,hu,ok⟩
end
end L2
namespace L2
open PySem PySem.Spec PyProof.Rows PySem.W
section
variable {P:Program}{w:World}{K:PySem.W.Frag}{mg:Str→Option Value}{base:Heap}
theorem tabs_mk1 {q:Program}{loose:List Str}{XP:(Str→Option Value)→Heap→Prop}{s₀:Shared}{mb:Str→Option Value}{h:Heap}{d:DefRec}{x y z:Str}{f c T:Addr}{fd:FuncData}{oc:Value}{od odc:Option Addr}{osl slc:Array (Option Value)}{vs:Array Value}
  (G : PySem.W.Ground q loose [] XP w s₀ mg mb h) (KX:K.In h) (hL:∀ n∈lamNames,n=x∨n=y∨n=z) (hr:(recsOf q).find? (fun e=>e.name==x)=some d)
  (a : PySem.W.nsIn K mainGlobals x=some (some (.ref f))) (l:K.lookup f=some ⟨oc,od,.func fd,osl⟩) (hc:fd.code=.ref c) (lc:K.lookup c=some ⟨.type "code",odc,.fields vs,slc⟩) (hT:CodeVs vs c T) (hn:K.lookup T=none)
  (ay:PySem.W.nsIn K mainGlobals y=some none) (az:PySem.W.nsIn K mainGlobals z=some none) :
  ∃ tb:List (Addr×Str),(∀ b q,tb.lookup b=some q→h.get? b=some { cls:=.none,data:=.fields #[] }∧K.lookup b=none∧∃ c,h.TableAt c b #[])∧∀ T q,LamTab K T q→tb.lookup T=some q:=by
 have ht:tabIn K x=some (c,T):=by
  unfold tabIn
  rw [a]
  simp only [l,hc,lc,hT.1]
 obtain ⟨C,g⟩:=tab_of G.T KX hr ht
 refine ⟨[(T,x ++ ".<locals>.<lambda>")],fun b q' e=>?_,fun T0 q' L=>?_⟩
 ·by_cases hb:b=T
  ·subst hb
   exact ⟨g,hn,c,C.tab g⟩
  ·have h1:(b==T)=false:=by simpa using hb
   simp [List.lookup_cons,h1] at e
 ·obtain ⟨n,hy,f0,o0,fd0,c0,oc0,vs0,a1,a2,a3,a4,a5,a6,a7,rfl⟩:=L
  rcases hL n hy with rfl|rfl|rfl
  ·rw [a] at a1
   cases a1
   rw [l] at a2
   cases a2
   cases a3
   rw [hc] at a4
   cases a4
   rw [lc] at a5
   cases a5
   cases a6
   rw [hT.1] at a7
   cases a7
   simp [List.lookup_cons]
  ·rw [ay] at a1
   cases a1
  ·rw [az] at a1
   cases a1
end
end L2
namespace W
open PySem L2
local macro_rules | `(tactic| walk_at "d2") => do
 let l ← (("dI_app,dK_app,dSrtR,dIns,dRev,dLZip,dFzT,dSrtO,gMaxL,dtLend,hide,dSrtKX,dSrtC,keyTo,dSrtI,dDct0,dSetK,gIxK,gIxZ,dTruthL,dHeadL,dPop0L,dPopL,slD_tr,valOf_tr,dTryAs,dDay,dIsX,dRetX,notD,dCallN,dCallT1,dRaise,dTry,dZipA,dSrtK,dSrt,dStep,dIndex,dMinD,dSeq,dSet,dAsg,dgName,dgTup,dgLst,dInts,dFz,dgCons,dgNil,dRet,dRetN,dDrop,dNext,dIfS,dBrk,dCont,dSetIx,dFor,dOp,dOpL,dCatT,dUn,dVar,dFrz,dC,dTest,dAnd,dOr,dNot,dAndV,dOrV,dNotV,dIf,dChain,dTup,dLst,dCons,dNil,dCall,dCallS,dCallT,dCB,dIs,dTruth,dSlL,dSlT,dPart,dNoPart,dListOf,dTupOf,dApp,dPop,dIList,dITup,dRng1,dRng2,dEnum,dZip,dComp,dComp1,dYes,sqD,gI,gIC,gB,gBB,gEq,gNe,gIsN,gNotN,gIn,gNotIn,gInD,gNotInD,gIx,gCat,gLen,gCatS,gInS,gLenS,gStr,gIntS,gIxS,dJoin,dSplit,dIStr,dNever,isK_ss,isK_is,isK_ls,eqv_str,gMin,gMax,gAbs,gInt,gAll,gAny,gNeg,gSum,gMinL,gRep,rep1,dPar,dTupT,dLstT,dAppT,Sl.tr.injEq,dMov,movS,dCompT,dBor,dCallV,borD,borOf,borsOf,treeD,treesD,slF,noL,noLs,noLs_ints,stoOf_tr,resOf_tr,keepOf_tr,valOf_fr,valOf_ow,valOf_io,valOf_vw,valsOf_nil,valsOf_cons,keepOf_fr,keepOf_ow,keepOf_vw,keepsOf_nil,keepsOf_cons,slD_fr,slD_ow,slD_io,slD_un,slK_fr,slK_ow,slK_io,slK_un,stoOf_fr,stoOf_ow,stoOf_vw,resOf_fr,resOf_ow,resOf_vw,resS_fr,resS_ow,finD,ioOnly_fr,ioOnly_ow,ioOnly_io,ioOnly_un,endsD_rt,endsD_nx,startD,setSl_ow,setSl_io,ownD_ow,ownD_io,ownD_fr,ownD_un,capE,capD_none,capD_some,capSl_fr,capSl_ow,capSl_io,capSl_un,seqOf_list,seqOf_tuple,truD_none,truD_bool,truD_int,truD_list,truD_tuple,isNn_none,isNn_int,isNn_bool,isNn_list,isNn_tuple,isK_int,isK_bool,isK_ib,isK_bi,isK_list,isK_tuple,isK_lt,isK_tl,isK_in,isK_bn,isK_si,isK_sl,isK_st,isK_il,isK_it,intsOf_map,boolsOf_map,eqv_ints,atI_c0,atI_c1,atI_c2,atI_c3,atI_c4,atI_c5,atI_c6,atI_c7,eqv_none,eqv_ni,eqv_in,shp_int,shp_none,shp_bool,List.map_cons,List.map_nil,List.length_cons,List.length_nil,List.cons_append,List.nil_append,List.append_nil,List.replicate_succ,List.replicate_zero,List.set_cons_succ,List.set_cons_zero,List.getElem?_cons_zero,List.getElem?_cons_succ,List.getElem?_nil,List.take_succ_cons,List.take_zero,List.take_nil,List.drop_succ_cons,List.drop_zero,List.drop_nil,Option.some.injEq,Option.bind_some,Option.bind_none,Option.map_some,Option.map_none,Sl.fr.injEq,Sl.ow.injEq,Sl.io.injEq,Sl.vw.injEq,PyData.int.injEq,PyData.bool.injEq,PyData.list.injEq,PyData.tuple.injEq,PyData.str.injEq,List.cons.injEq,reduceCtorEq,and_true,true_and,and_false,false_and,and_assoc,exists_eq_left',exists_eq_left,exists_and_left,exists_eq',exists_eq,exists_false,exists_const,Nat.reduceSub,Nat.reduceAdd,Nat.reduceLT,Nat.zero_add,Nat.lt_add_left_iff_pos,decide_eq_true_eq,ite_true,ite_false,Bool.false_eq_true,if_true,if_false,Bool.not_eq_true',Bool.not_eq_true,decide_eq_false_iff_not,Int.zero_add,String.reduceBEq,Bool.true_and,Bool.and_true,Bool.or_false,Bool.false_or,Bool.or_true,Bool.true_or,Bool.and_false,Bool.false_and,Bool.not_true,Bool.not_false,id_eq,Sl.ctorIdx,Nat.succ_eq_add_one".splitOn ",").toArray.mapM fun s => `(Lean.Parser.Tactic.simpLemma| $(Lean.mkIdent s.toName):ident))
 `(tactic| simp only [$l,*])
local macro_rules | `(tactic| walk_at "d1") => do
 let l ← (("dK_app,dSrtR,dIns,dRev,dLZip,dFzT,dSrtO,gMaxL,dtLend,hide,dSrtKX,dSrtC,keyTo,dSrtI,dDct0,dSetK,gIxK,gIxZ,dTruthL,dHeadL,dPop0L,dPopL,slD_tr,valOf_tr,dTryAs,dDay,dIsX,dRetX,notD,dCallN,dCallT1,dRaise,dTry,dZipA,dSrtK,dSrt,dStep,dIndex,dMinD,dSeq,dSet,dAsg,dgName,dgTup,dgLst,dInts,dFz,dgCons,dgNil,dRet,dRetN,dDrop,dNext,dIfS,dBrk,dCont,dSetIx,dFor,dOp,dOpL,dCatT,dUn,dVar,dFrz,dC,dTest,dAnd,dOr,dNot,dAndV,dOrV,dNotV,dIf,dChain,dTup,dLst,dCons,dNil,dCall,dCallS,dCallT,dCB,dIs,dTruth,dSlL,dSlT,dPart,dNoPart,dListOf,dTupOf,dApp,dPop,dIList,dITup,dRng1,dRng2,dEnum,dZip,dComp,dComp1,dYes,sqD,gI,gIC,gB,gBB,gEq,gNe,gIsN,gNotN,gIn,gNotIn,gInD,gNotInD,gIx,gCat,gLen,gCatS,gInS,gLenS,gStr,gIntS,gIxS,dJoin,dSplit,dIStr,dNever,isK_ss,isK_is,isK_ls,eqv_str,gMin,gMax,gAbs,gInt,gAll,gAny,gNeg,gSum,gMinL,gRep,rep1,dPar,dTupT,dLstT,dAppT,Sl.tr.injEq,dMov,movS,dCompT,dBor,dCallV,borD,borOf,borsOf,treeD,treesD,slF,noL,noLs,noLs_ints,stoOf_tr,resOf_tr,keepOf_tr,valOf_fr,valOf_ow,valOf_io,valOf_vw,valsOf_nil,valsOf_cons,keepOf_fr,keepOf_ow,keepOf_vw,keepsOf_nil,keepsOf_cons,slD_fr,slD_ow,slD_io,slD_un,slK_fr,slK_ow,slK_io,slK_un,stoOf_fr,stoOf_ow,stoOf_vw,resOf_fr,resOf_ow,resOf_vw,resS_fr,resS_ow,finD,ioOnly_fr,ioOnly_ow,ioOnly_io,ioOnly_un,endsD_rt,endsD_nx,startD,setSl_ow,setSl_io,ownD_ow,ownD_io,ownD_fr,ownD_un,capE,capD_none,capD_some,capSl_fr,capSl_ow,capSl_io,capSl_un,seqOf_list,seqOf_tuple,truD_none,truD_bool,truD_int,truD_list,truD_tuple,isNn_none,isNn_int,isNn_bool,isNn_list,isNn_tuple,isK_int,isK_bool,isK_ib,isK_bi,isK_list,isK_tuple,isK_lt,isK_tl,isK_in,isK_bn,isK_si,isK_sl,isK_st,isK_il,isK_it,intsOf_map,boolsOf_map,eqv_ints,atI_c0,atI_c1,atI_c2,atI_c3,atI_c4,atI_c5,atI_c6,atI_c7,eqv_none,eqv_ni,eqv_in,shp_int,shp_none,shp_bool,List.map_cons,List.map_nil,List.length_cons,List.length_nil,List.cons_append,List.nil_append,List.append_nil,List.replicate_succ,List.replicate_zero,List.set_cons_succ,List.set_cons_zero,List.getElem?_cons_zero,List.getElem?_cons_succ,List.getElem?_nil,List.take_succ_cons,List.take_zero,List.take_nil,List.drop_succ_cons,List.drop_zero,List.drop_nil,Option.some.injEq,Option.bind_some,Option.bind_none,Option.map_some,Option.map_none,Sl.fr.injEq,Sl.ow.injEq,Sl.io.injEq,Sl.vw.injEq,PyData.int.injEq,PyData.bool.injEq,PyData.list.injEq,PyData.tuple.injEq,PyData.str.injEq,List.cons.injEq,reduceCtorEq,and_true,true_and,and_false,false_and,and_assoc,exists_eq_left',exists_eq_left,exists_and_left,exists_eq',exists_eq,exists_false,exists_const,Nat.reduceSub,Nat.reduceAdd,Nat.reduceLT,Nat.zero_add,Nat.lt_add_left_iff_pos,decide_eq_true_eq,ite_true,ite_false,Bool.false_eq_true,if_true,if_false,Bool.not_eq_true',Bool.not_eq_true,decide_eq_false_iff_not,Int.zero_add,String.reduceBEq,Bool.true_and,Bool.and_true,Bool.or_false,Bool.false_or,Bool.or_true,Bool.true_or,Bool.and_false,Bool.false_and,Bool.not_true,Bool.not_false,id_eq,Sl.ctorIdx,Nat.succ_eq_add_one".splitOn ",").toArray.mapM fun s => `(Lean.Parser.Tactic.simpLemma| $(Lean.mkIdent s.toName):ident))
 let h:=Lean.mkIdent `hW
 `(tactic| (refine' (?wf : Wk _ _) ?we ?wk ?wq; (case we => (intro $h:ident; simp only [$l,*] at $h:ident; exact $h)); (case wf => exact fun _ k q => k q); (case wk => (intro $h:ident; walk_at "wa"))))
local macro_rules | `(tactic| walk_at "wh") => do
 let h:=Lean.mkIdent `hW
 `(tactic| repeat (first | (with_reducible refine Exists.elim $h fun _ $h => ?_) | ((with_reducible refine And.elim (fun e $h => ?_) $h); try subst e)))
local macro_rules | `(tactic| walk_at "ev") => do
 let l ← ("ev_op,ev_var,ev_c,e2_I,e2_IC,e2_B,ev_cb,ev_cons,ev_nil,ev_tup,ev_lst,ev_frz,ev_opL,ev_un,ev_catT,ev_slL,ev_no,ev_part,ev_test,ev_not,ev_truth,ev_is,e2_eq,e2_ne,e2_isN,e2_notN,e2_ix,e2_in,e2_notIn,e1_neg,eB_len,eB_min,eB_max,eB_sum,eL_cat,ei_list,ei_tup,ei_rng1,ei_enum,ei_zip".splitOn ",").toArray.mapM fun s => `(Lean.Parser.Tactic.tacticSeq| with_reducible apply $(Lean.mkIdent s.toName))
 `(tactic| ((repeat' (first $[| $l]* | walk_at "wc")); done))
local macro_rules | `(tactic| walk_at "wc") => `(tactic| first | exact rfl | with_reducible assumption | exact of_decide_eq_true rfl | exact le_line rfl | ((first | (with_reducible show _ ≤ sizeLine) | (with_reducible show _ < sizeLine) | (with_reducible show _ = _) | (with_reducible show shp _)); assumption))
local macro_rules | `(tactic| walk_at "wa") => do
 let h:=Lean.mkIdent `hW
 let l ← ("ws_app,ws_set,ws_ret,ws_drop,ws_ifs,ws_for,w_call,w_callS,w_comp".splitOn ",").toArray.mapM fun s => `(Lean.Parser.Tactic.tacticSeq| (with_reducible apply $(Lean.mkIdent s.toName)); focus walk_at "ev")
 let m ← ("ws_seq,wg_name,wk_K,w_pop,wx_set,wx_ret,wx_drop".splitOn ",").toArray.mapM fun s => `(Lean.Parser.Tactic.tacticSeq| with_reducible apply $(Lean.mkIdent s.toName))
 `(tactic| (walk_at "wh"; repeat' (first | exact $h $[| $l]* $[| $m]* | walk_at "wc" | apply Exists.intro | refine And.intro rfl ?_ | (refine And.intro ?_ ?_; focus walk_at "wc") | refine And.intro ⟨_, rfl⟩ ?_ | refine And.intro ⟨_, _, rfl⟩ ?_ | (intro x; replace $h:ident := $h x; walk_at "wh") | (refine wk_ite rfl (fun $h => ?_) (fun $h => ?_) $h <;> walk_at "wh"))))
local macro_rules | `(tactic| walk_at "dd") => `(tactic| first | (walk_at "d1"; try walk_at "d2") | (simp only [Int.zero_add]; walk_at "d1"; try walk_at "d2") | (walk_at "d2"))
local macro_rules | `(tactic| walk_at "dx") => `(tactic| (first | ((with_reducible refine nx ?_); try walk_at "dd") | walk_at "dd"); repeat ((with_reducible refine nx ?_); try walk_at "dd"))
noncomputable def top (i:Nat):Stmt:=PySem.Challenge.pw_windround_k19_chains_planned.main.body.getD i (.Pass ⟨0,0,0,0⟩)
section
variable {P:Program}{w:World}{K:PySem.W.Frag}{mg:Str→Option Value}{base:Heap}
noncomputable abbrev s__law_draws:Stmt:=top 13
theorem sc__law_draws:FnScope ["_law_script", "_law_turn", "_law_many", "_law_cells", "_law_found", "_law_left", "_law_k", "_law_at", "_law_place", "_law_number"] ["_law_script", "_law_turn", "_law_many"] (defScope s__law_draws):=⟨rfl,rfl,rfl,by decide +kernel,rfl,by decide +kernel,by decide +kernel⟩
noncomputable def Dr (m:Nat) (l:List Int):Prop:=l.length=m∧∀ x∈l,0≤x∧x<2147483587
theorem Dr.app {m:Nat}{l:List Int}{x:Int} (h:Dr m l) (h0:0≤x) (h1:x<2147483587):Dr (m+1) (l++[x]):=by
 refine ⟨by simp[h.1],fun y hy=>?_⟩
 rcases List.mem_append.mp hy with hy|hy
 ·exact h.2 y hy
 ·rw [List.mem_singleton.mp hy];exact⟨h0,h1⟩
noncomputable def spDraws:DSp:=fun ss R=>∃ (ns:List Int) (t m:Nat),ss=[.fr (.list (li ns)),.fr (.int t),.fr (.int m)]∧ns.length≤63∧t≤5000∧m≤5000∧∀ l,Dr m l→R (.ow (li l)) [.un,.un,.un]
theorem cut63 (ns:List Int) (h:ns.length≤63):cutD (li ns) none (some 63)=li ns:=by
 unfold cutD
 have e:HT.sIx (li ns).length (li ns).length (some 63)=min 63 (li ns).length:=HT.sIx_nat _ _ 63
 rw [e,HT.sIx_none,List.length_map,List.drop_zero,Nat.sub_zero,Nat.min_eq_right h]
 exact List.take_of_length_le (by simp)
theorem bi__law_draws {f:Addr}{fd:FuncData} (F:Fun K "_law_draws" "_law_draws" s__law_draws f fd):Binds K fd ["_law_script", "_law_turn", "_law_many"] []:=F.binds (ps:=["_law_script", "_law_turn", "_law_many"]) fun _ _ _ _ _ _ us hl=>us3 (Q:=fun us=>bindArgs _ ⟨us,[]⟩=pure (List.zip _ us)) hl fun _ _ _=>rfl
theorem ok__law_draws {f:Addr}{fd:FuncData} (F:Fun K "_law_draws" "_law_draws" s__law_draws f fd) (B:Bn mg):FnOk P w K mg base CX0 2 f fd ["_law_script", "_law_turn", "_law_many"] (spD K spDraws):=by
 refine okD (k:=1) F sc__law_draws (fun ss R h=>?_) (by decide) (fun cdv A outer s H E hr=>⟨_,(qs_bar (q_set (i:=3) sc__law_draws.nd rfl (Or.inl rfl) (q_opL (op_catS (K:=K) rfl) mCat (q_slL (K:=K) rfl (qv 0) qo_none (qo_some q_int)) (q_lst (qa_cons (qf 1) qa_nil))))
   (qs_bar (q_set (i:=4) sc__law_draws.nd rfl (Or.inl rfl) (q_lst qa_nil))
   (qs_bar (q_if (qt_cmp op_eq mEqI (q_op op_mod mIC (q_op op_fdiv mIC (q_ix (ix_any (K:=K) rfl) mIx (qv 3) q_int (fun _ _=>rfl)) q_int) q_int) q_int (nomark _)) (qs_bar (q_setComp (i:=5)  sc__law_draws.nd rfl rfl (N':=["_law_cell"]) (ix:=[none]) rfl (bs_of (N:=["_law_script", "_law_turn", "_law_many", "_law_cells", "_law_found", "_law_left", "_law_k", "_law_at", "_law_place", "_law_number"]) (sc0:=defScope s__law_draws) rfl rfl (by decide +kernel)) (qi_list (K:=K) rfl (qf 3)) (fun _ _ _ _=>(qg_name (i:=0) (show List.Nodup (["_law_cell"]:List Str) by decide +kernel) rfl (Or.inl rfl))) (fun _ _ _ _=>qif_nil) (fun _ _ _ _=>(q_op op_fdiv mIC (qv 0) q_int)))
   (qs_bar (q_for PassesOwn.never rfl (qi_rng1 rfl B.range (qa_cons (q_op op_add mI (qv 1) (qv 2)) qa_nil)) (qg_name (i:=6) sc__law_draws.nd rfl (Or.inl rfl)) (qs_bar (q_set (i:=7) sc__law_draws.nd rfl (Or.inl rfl) (q_op op_mod mIC (qv 6) (q_cb (kLen (K:=K) rfl) mLen rfl B.len PySem.boot_len (qa_cons (qv 5) qa_nil))))
   (qs_cut (q_if (qt_cmp op_ge mB (qv 6) (qv 1) (nomark _)) (qs_one (q_expr (q_app 4 (K:=K) rfl rfl (q_op op_mod mIC (q_ix (ix_any (K:=K) rfl) mIx (qv 5) (qv 7) (fun _ _=>rfl)) q_int)))) qs_nil)
   (qs_one (q_setIx 5 rfl (qv 7) (q_op op_fdivB mIC (q_ix (ix_any (K:=K) rfl) mIx (qv 5) (qv 7) (fun _ _=>rfl)) q_int))))))
   (qs_one (q_ret (qv 4))))) qs_nil)
   (qs_bar (q_for PassesOwn.never rfl (qi_rng1 rfl B.range (qa_cons (qv 2) qa_nil)) (qg_name (i:=6) sc__law_draws.nd rfl (Or.inl rfl)) (qs_bar (q_set (i:=8) sc__law_draws.nd rfl (Or.inl rfl) (q_op op_add mI (q_op op_mul mIC (q_op op_mul mIC (q_op op_add mI (qv 6) (qv 1)) (q_op op_add mI (qv 6) (qv 1))) q_int) q_int))
   (qs_bar (q_set (i:=9) sc__law_draws.nd rfl (Or.inl rfl) (q_op op_mod mIC (q_op op_mul mIC (q_op op_add mI (q_op op_mod mIC (q_ix (ix_any (K:=K) rfl) mIx (qv 3) (q_op op_mod mIC (qv 6) (q_cb (kLen (K:=K) rfl) mLen rfl B.len PySem.boot_len (qa_cons (qv 3) qa_nil))) (fun _ _=>rfl)) q_int) (qv 8)) q_int) q_int))
   (qs_bar (q_set (i:=9) sc__law_draws.nd rfl (Or.inl rfl) (q_op op_mod mIC (q_op op_add mI (q_op op_mul mIC (qv 9) (qv 9)) (q_op op_mul mIC q_int (qv 6))) q_int))
   (qs_one (q_expr (q_app 4 (K:=K) rfl rfl (q_op op_mod mIC (q_op op_mul mIC (qv 9) (qv 9)) q_int))))))))
   (qs_one (q_ret (qv 4))))))),fun ss R h=>?_⟩)
 ·obtain ⟨ns,t,m,rfl,_⟩:=h
  rfl
 obtain ⟨ns,t,m,rfl,h63,ht,hm,q⟩:=h
 walk_at "dx"
 rw [cut63 ns h63]
 have ec:li ns++[PyData.int (t:Int)]=li (ns++[(t:Int)]):=by simp
 rw [ec]
 obtain ⟨cs,hcs⟩:∃ cs:List Int,cs=ns++[(t:Int)]:=⟨_,rfl⟩
 have hlen:cs.length=ns.length+1:=by rw[hcs];simp
 rw [←hcs]
 refine ⟨by decide,?_,?_⟩
 ·rw [List.length_map]
  exact Nat.le_trans (by omega) line_big
 walk_at "dx"
 refine ⟨by decide,?_⟩
 walk_at "dx"
 refine ⟨_,atI_li (k:=0) (by omega),?_⟩
 walk_at "dx"
 refine ⟨⟨by decide,by decide⟩,by decide,ite2 (fun _=>?_) (fun _=>?_)⟩
 ·refine cd_map (fun i=>.int (cs.getD i 0 / 100000)) (by rw[List.length_map];omega) (fun i hi Q hQ=>?_) ?_
  ·rw [li_get]
   walk_at "dx"
   exact ⟨⟨by decide,by decide⟩,hQ⟩
  walk_at "dx"
  have el:(List.range (li cs).length).map (fun i=>PyData.int (cs.getD i 0 / 100000))=li ((List.range cs.length).map fun i=>cs.getD i 0 / 100000):=by
   rw [List.length_map]
   show _=List.map _ (List.map _ _)
   rw [List.map_map]
   rfl
  rw [el]
  refine ⟨by omega,by omega,fd_intro (fun i env=>∃ (fs ls:List Int) (kv av:Sl),env=[.fr (.list (li ns)),.fr (.int t),.fr (.int m),.fr (.list (li cs)),.ow (li fs),.ow (li ls),kv,av,.un,.un]∧ls.length=cs.length∧Dr (i - t) fs) ⟨[],_,_,_,rfl,by simp,⟨by simp,fun x hx=>by cases hx⟩⟩ ?_ ?_⟩
  ·rintro i env hi ⟨fs,ls,kv,av,rfl,hl,hf⟩
   rw [rangeD_len] at hi
   rw [rangeD_get]
   have hmod:i % ls.length<ls.length:=Nat.mod_lt _ (by omega)
   have hk:i - t≤5000:=by omega
   walk_at "dx"
   rw [List.length_map]
   have ei:((i:Nat):Int) % ((ls.length:Nat):Int)=((i % ls.length:Nat):Int):=rfl
   refine ⟨by omega,nx ?_⟩
   refine ⟨fun env'=>∃ fs':List Int,env'=[.fr (.list (li ns)),.fr (.int t),.fr (.int m),.fr (.list (li cs)),.ow (li fs'),.ow (li ls),.fr (.int i),.fr (.int ((i % ls.length:Nat):Int)),.un,.un]∧Dr (i+1 - t) fs',?_,?_⟩
   ·rw [ei]
    walk_at "dx"
    refine ite2 (fun c=>?_) (fun c=>?_)
    ·refine ⟨_,atI_li hmod,?_⟩
     walk_at "dx"
     refine ⟨by decide,by rw[List.length_map,hf.1];exact Nat.lt_of_lt_of_le (by omega) line_big,fs++[ls.getD (i % ls.length) 0 % 2147483587],by simp,?_⟩
     have:=hf.app (Int.emod_nonneg (ls.getD (i % ls.length) 0) (by decide:(2147483587:Int)≠0)) (Int.emod_lt_of_pos _ (by decide))
     rwa [show i+1 - t=i - t+1 by omega]
    ·refine ⟨fs,rfl,?_⟩
     rwa [show i+1 - t=i - t by omega]
   ·rintro env' ⟨fs',rfl,hf'⟩
    walk_at "dx"
    refine ⟨_,atI_li hmod,?_⟩
    walk_at "dx"
    exact ⟨⟨by decide,Bg.of (by decide) (by decide)⟩,_,by rw[List.length_map];exact ixN_nat hmod,fs',rfl,ls.set (i % ls.length) (ls.getD (i % ls.length) 0 / 2147483587),li_set _ _ _,by rw[List.length_set];exact hl,hf'⟩
  ·rintro env ⟨fs,ls,kv,av,rfl,hl,hf⟩
   rw [rangeD_len] at hf
   walk_at "dx"
   exact q fs (by rwa [show ((t:Int)+(m:Int)).toNat - t=m by omega] at hf)
 ·walk_at "dx"
  refine ⟨by omega,by omega,fd_intro (fun i env=>∃ (fs:List Int) (kv pv nv:Sl),env=[.fr (.list (li ns)),.fr (.int t),.fr (.int m),.ow (li cs),.ow (li fs),.un,kv,.un,pv,nv]∧Dr i fs) ⟨[],_,_,_,rfl,rfl,fun x hx=>by cases hx⟩ ?_ ?_⟩
  ·rintro i env hi ⟨fs,kv,pv,nv,rfl,hf⟩
   rw [rangeD_len] at hi
   rw [rangeD_get]
   have hi:i<m:=by omega
   have hmod:i % cs.length<cs.length:=Nat.mod_lt _ (by omega)
   walk_at "dx"
   refine ⟨cmul_l (by omega) (by omega),cmul_r (by decide) (by decide),?_⟩
   walk_at "dx"
   rw [List.length_map]
   have ei:((i:Nat):Int) % ((cs.length:Nat):Int)=((i % cs.length:Nat):Int):=rfl
   rw [ei]
   refine ⟨by omega,_,atI_li hmod,?_⟩
   walk_at "dx"
   generalize (cs.getD (i % cs.length) 0 % 2147483647+(((i:Int)+t)*(i+t)*7919+104729))*48271=a
   have a0:=Int.emod_nonneg a (by decide:(2147483647:Int)≠0)
   have a1:=Int.emod_lt_of_pos a (by decide:(0:Int)<2147483647)
   generalize a % 2147483647=a at *
   refine ⟨by decide,cmul_r (by decide) (by decide),by decide,?_⟩
   walk_at "dx"
   have b0:=Int.emod_nonneg (a*a+69621*i) (by decide:(2147483629:Int)≠0)
   have b1:=Int.emod_lt_of_pos (a*a+69621*i) (by decide:(0:Int)<2147483629)
   generalize (a*a+69621*i) % 2147483629=b at *
   refine ⟨cmul_l (by omega) (by omega),cmul_l (by decide) (by decide),by decide,?_⟩
   walk_at "dx"
   refine ⟨cmul_l (by omega) (by omega),by decide,by rw[List.length_map,hf.1];exact Nat.lt_of_lt_of_le (by omega) line_big,fs++[b*b % 2147483587],by simp,hf.app (Int.emod_nonneg _ (by decide)) (Int.emod_lt_of_pos _ (by decide))⟩
  ·rintro env ⟨fs,kv,pv,nv,rfl,hf⟩
   rw [rangeD_len] at hf
   walk_at "dx"
   exact q fs (by simpa using hf)
noncomputable abbrev s__law_pop:Stmt:=top 14
theorem sc__law_pop:FnScope ["_law_draws_here"] ["_law_draws_here"] (defScope s__law_pop):=⟨rfl,rfl,rfl,by decide +kernel,rfl,by decide +kernel,by decide +kernel⟩
noncomputable def popV (ds:List Int):Int:=ds.getLastD 0
noncomputable def spPop:DSp:=fun ss R=>∃ ds:List Int,ss=[.io (li ds)]∧R (.fr (.int (popV ds))) [.io (li ds.dropLast)]
theorem eqv_li (a b:List Int):PyData.eqv (.list (li a)) (.list (li b))=decide (a=b):=eqv_I a b
theorem last_li {ds:List Int} (h:ds≠[]):(li ds).getLast? = some (.int (popV ds)):=by
 unfold popV
 rw [List.getLast?_map,List.getLastD_eq_getLast?]
 cases e:ds.getLast? with
 | none=>exact absurd (List.getLast?_eq_none_iff.mp e) h
 | some x=>rfl
theorem drop_li (ds:List Int):(li ds).dropLast=li ds.dropLast:=by simp[List.map_dropLast]
theorem bi__law_pop {f:Addr}{fd:FuncData} (F:Fun K "_law_pop" "_law_pop" s__law_pop f fd):Binds K fd ["_law_draws_here"] []:=F.binds (ps:=["_law_draws_here"]) fun _ _ _ _ _ _ us hl=>us1 (Q:=fun us=>bindArgs _ ⟨us,[]⟩=pure (List.zip _ us)) hl fun _=>rfl
theorem ok__law_pop {f:Addr}{fd:FuncData} (F:Fun K "_law_pop" "_law_pop" s__law_pop f fd) (B:Bn mg):FnOk P w K mg base CX0 1 f fd ["_law_draws_here"] (spD K spPop):=by
 refine okD (k:=0) F sc__law_pop (fun ss R h=>?_) (by decide) (fun cdv A outer s H E hr=>⟨_,(qs_cons (q_if (qt_cmp (kEqD (K:=K) rfl hr.units) mEq (qv 0) (q_lst qa_nil) (nomark _)) (qs_one (q_ret q_int)) qs_nil)
   (qs_one (q_ret (q_pop 0 (K:=K) rfl rfl)))),fun ss R h=>?_⟩)
 ·obtain ⟨ds,rfl,_⟩:=h
  rfl
 obtain ⟨ds,rfl,q⟩:=h
 walk_at "dd"
 refine ⟨Nat.zero_le _,(Sh.ints 0 ds).shp (by decide),(Sh.ints 0 []).shp (by decide),?_⟩
 rw [show PyData.list []=PyData.list (li []) from rfl,eqv_li]
 by_cases e:ds=[]
 ·subst e
  rw [if_pos (by simp)]
  exact q
 ·rw [if_neg (by simp[e])]
  exact ⟨_,last_li e,by rw[drop_li];exact q⟩
noncomputable abbrev s__law_divisor:Stmt:=top 15
theorem sc__law_divisor:FnScope ["_law_one", "_law_other"] ["_law_one", "_law_other"] (defScope s__law_divisor):=⟨rfl,rfl,rfl,by decide +kernel,rfl,by decide +kernel,by decide +kernel⟩
theorem gcd_facts {s s':Int} (hs:0<s):0<(Int.gcd s s':Int)∧(∃ a,s=(Int.gcd s s':Int)*a)∧∃ b,s'=(Int.gcd s s':Int)*b:=by
 refine ⟨?_,?_,?_⟩
 ·have:Int.gcd s s'≠0:=fun z=>by
   have:=(Int.gcd_eq_zero_iff.mp z).1
   omega
  omega
 ·exact Int.gcd_dvd_left s s'
 ·exact Int.gcd_dvd_right s s'
theorem gcd_step {x y:Int} (hx:0≤x) (hy:0≤y):Int.gcd y (x % y)=Int.gcd x y:=by
 obtain ⟨a,rfl⟩:=Int.eq_ofNat_of_zero_le hx
 obtain ⟨b,rfl⟩:=Int.eq_ofNat_of_zero_le hy
 show Nat.gcd b (a % b)=Nat.gcd a b
 rw [Nat.gcd_comm b,←Nat.gcd_rec,Nat.gcd_comm]
noncomputable def spGcd:DSp:=fun ss R=>∃ a b:Int,ss=[.fr (.int a),.fr (.int b)]∧0≤a∧0≤b∧R (.fr (.int (Int.gcd a b))) [.un,.un]
theorem bi__law_divisor {f:Addr}{fd:FuncData} (F:Fun K "_law_divisor" "_law_divisor" s__law_divisor f fd):Binds K fd ["_law_one", "_law_other"] []:=F.binds (ps:=["_law_one", "_law_other"]) fun _ _ _ _ _ _ us hl=>us2 (Q:=fun us=>bindArgs _ ⟨us,[]⟩=pure (List.zip _ us)) hl fun _ _=>rfl
theorem ok__law_divisor {f:Addr}{fd:FuncData} (F:Fun K "_law_divisor" "_law_divisor" s__law_divisor f fd) (B:Bn mg):FnOk P w K mg base CX0 1 f fd ["_law_one", "_law_other"] (spD K spGcd):=by
 refine okD (k:=0) F sc__law_divisor (fun ss R h=>?_) (by decide) (fun cdv A outer s H E hr=>⟨_,(qs_cons (q_while PassesOwn.never (qt_cmp op_ne mNeI (qv 1) q_int (nomark _)) (qs_one (q_par (i:=0) (j:=1) rfl sc__law_divisor.nd rfl rfl (by decide) rfl rfl (qa_cons (qf 1) (qa_cons (q_op op_mod mIC (qv 0) (qv 1)) qa_nil)))))
   (qs_one (q_ret (qv 0)))),fun ss R h=>?_⟩)
 ·obtain ⟨a,b,rfl,_⟩:=h
  rfl
 obtain ⟨a,b,rfl,ha,hb,q⟩:=h
 walk_at "dd"
 refine ⟨fun m env=>∃ x y:Int,env=[.fr (.int x),.fr (.int y)]∧0≤x∧0≤y∧m=y.toNat∧Int.gcd x y=Int.gcd a b,⟨_,a,b,rfl,ha,hb,rfl,rfl⟩,?_⟩
 rintro m env ⟨x,y,rfl,hx,hy,rfl,hg⟩
 walk_at "dd"
 refine ite2 (fun c=>?_) (fun c=>?_)
 ·have h1:=Int.emod_nonneg x (show y≠0 from c)
  have h2:=Int.emod_lt_of_pos x (show 0<y by omega)
  exact ⟨by omega,_,by omega,hy,h1,rfl,(gcd_step hx hy).trans hg⟩
 ·have c:y=0:=by simpa using c
  subst c
  rw [←hg,Int.gcd_zero_right,Int.natAbs_of_nonneg hx] at q
  exact q
noncomputable abbrev s_greatest_divisor:Stmt:=top 1
theorem sc_greatest_divisor:FnScope ["one", "other", "rest"] ["one", "other"] (defScope s_greatest_divisor):=⟨rfl,rfl,rfl,by decide +kernel,rfl,by decide +kernel,by decide +kernel⟩
theorem bi_greatest_divisor {f:Addr}{fd:FuncData} (F:Fun K "greatest_divisor" "greatest_divisor" s_greatest_divisor f fd):Binds K fd ["one", "other"] []:=F.binds (ps:=["one", "other"]) fun _ _ _ _ _ _ us hl=>us2 (Q:=fun us=>bindArgs _ ⟨us,[]⟩=pure (List.zip _ us)) hl fun _ _=>rfl
theorem ok_greatest_divisor {f:Addr}{fd:FuncData} (F:Fun K "greatest_divisor" "greatest_divisor" s_greatest_divisor f fd) (B:Bn mg):FnOk P w K mg base CX0 1 f fd ["one", "other"] (spD K spGcd):=by
 refine okD (k:=0) F sc_greatest_divisor (fun ss R h=>?_) (by decide) (fun cdv A outer s H E hr=>⟨_,(qs_cons (q_while PassesOwn.never (qt_cmp op_ne mNeI (qv 1) q_int (nomark _)) (qs_cons (q_set (i:=2) sc_greatest_divisor.nd rfl (Or.inl rfl) (q_op op_mod mIC (qv 0) (qv 1)))
   (qs_cons (q_set (i:=0) sc_greatest_divisor.nd rfl (Or.inl rfl) (qf 1))
   (qs_one (q_set (i:=1) sc_greatest_divisor.nd rfl (Or.inl rfl) (qf 2))))))
   (qs_one (q_ret (qv 0)))),fun ss R h=>?_⟩)
 ·obtain ⟨a,b,rfl,_⟩:=h
  rfl
 obtain ⟨a,b,rfl,ha,hb,q⟩:=h
 walk_at "dd"
 refine ⟨fun m env=>∃ (x y:Int) (r:Sl),env=[.fr (.int x),.fr (.int y),r]∧0≤x∧0≤y∧m=y.toNat∧Int.gcd x y=Int.gcd a b,⟨_,a,b,_,rfl,ha,hb,rfl,rfl⟩,?_⟩
 rintro m env ⟨x,y,r,rfl,hx,hy,rfl,hg⟩
 walk_at "dd"
 refine ite2 (fun c=>?_) (fun c=>?_)
 ·have h1:=Int.emod_nonneg x (show y≠0 from c)
  have h2:=Int.emod_lt_of_pos x (show 0<y by omega)
  exact ⟨by omega,_,by omega,hy,h1,rfl,(gcd_step hx hy).trans hg⟩
 ·have c:y=0:=by simpa using c
  subst c
  rw [←hg,Int.gcd_zero_right,Int.natAbs_of_nonneg hx] at q
  exact q
noncomputable def Bk (k:Nat) (i:Int):Prop:=0≤i∧i≤10000000000000000000000000000000000000000 ^ k
theorem Bk.bg {k:Nat}{i:Int} (h:Bk k i) (hk:k≤45):Bg i:=by
 have h1:i.natAbs≤10000000000000000000000000000000000000000 ^ k:=by
  have h2:=h.2
  have h3:((10000000000000000000000000000000000000000 ^ k:Nat):Int)=(10000000000000000000000000000000000000000:Int) ^ k:=by simp
  have:=h.1
  omega
 have h4:(10000000000000000000000000000000000000000:Nat) ^ k≤(2 ^ 140) ^ 45:=Nat.le_trans (Nat.pow_le_pow_left (by decide) k) (Nat.pow_le_pow_right (by decide) hk)
 rw [←Nat.pow_mul] at h4
 exact Nat.lt_of_le_of_lt (Nat.le_trans h1 h4) (Nat.pow_lt_pow_right (by decide) (by decide))
theorem Bk.mul {k:Nat}{i j:Int} (h:Bk k i) (h0:0≤j) (h1:j≤10000000000000000000000000000000000000000):Bk (k+1) (i*j):=by
 refine ⟨Int.mul_nonneg h.1 h0,?_⟩
 rw [Int.pow_succ]
 exact Int.mul_le_mul h.2 h1 h0 (Int.le_trans h.1 h.2)
theorem Bk.le {k:Nat}{i j:Int} (h:Bk k i) (h0:0≤j) (h1:j≤i):Bk k j:=⟨h0,Int.le_trans h1 h.2⟩
theorem lcm_eq {s s':Int} (h:0<s) (h':0<s'):((Nat.lcm s.natAbs s'.natAbs:Nat):Int)=s / (Int.gcd s s':Int)*s':=by
 obtain ⟨i,rfl⟩:=Int.eq_ofNat_of_zero_le (Int.le_of_lt h)
 obtain ⟨j,rfl⟩:=Int.eq_ofNat_of_zero_le (Int.le_of_lt h')
 show ((i*j / Nat.gcd i j:Nat):Int)=((i / Nat.gcd i j*j:Nat):Int)
 rw [Nat.div_mul_right_comm (Nat.gcd_dvd_left i j)]
noncomputable abbrev s_least_multiple:Stmt:=top 2
theorem sc_least_multiple:FnScope ["numbers", "found", "number"] ["numbers"] (defScope s_least_multiple):=⟨rfl,rfl,rfl,by decide +kernel,rfl,by decide +kernel,by decide +kernel⟩
structure Lm (ns:List Int) (m:Int):Prop where
 pos:1≤m
 bk : Bk ns.length m
 dvd:∀ x∈ns,x∣m
 least:∀ k:Int,(∀ x∈ns,x∣k)→m∣k
noncomputable def spLm:DSp:=fun ss R=>∃ ns:List Int,ss=[.fr (.list (li ns))]∧ns.length≤41∧(∀ x∈ns,1≤x∧x≤10000000000000000000000000000000000000000)∧∀ m:Int,Lm ns m→R (.fr (.int m)) [.un]
theorem Lm.nil:Lm [] 1:=⟨Int.le_refl 1,⟨by decide,by simp⟩,fun x hx=>(by cases hx),fun k _=>Int.one_dvd k⟩
theorem Lm.snoc {ns:List Int}{m n:Int} (h:Lm ns m) (h1:1≤n) (h2:n≤10000000000000000000000000000000000000000):Lm (ns++[n]) (m / (Int.gcd m n:Int)*n):=by
 have hp:=h.pos
 have e:=lcm_eq (show 0<m by omega) (show 0<n by omega)
 have g:=(gcd_facts (s:=m) (s':=n) (by omega)).1
 have d1:m∣m / (Int.gcd m n:Int)*n:=by
  rw [←e]
  exact Int.natAbs_dvd_natAbs.mp (Nat.dvd_lcm_left _ _)
 have d2:n∣m / (Int.gcd m n:Int)*n:=by
  rw [←e]
  exact Int.natAbs_dvd_natAbs.mp (Nat.dvd_lcm_right _ _)
 have q0:1≤m / (Int.gcd m n:Int):=by
  refine (Int.le_ediv_iff_mul_le g).mpr ?_
  rw [Int.one_mul]
  exact Int.le_of_dvd (by omega) (Int.gcd_dvd_left m n)
 have p0:=Int.mul_le_mul q0 h1 (by omega) (by omega)
 refine ⟨by omega,?_,fun x hx=>?_,fun k hk=>?_⟩
 ·rw [List.length_append]
  exact (h.bk.le (by omega) (Int.ediv_le_self _ (by omega))).mul (by omega) h2
 ·rcases List.mem_append.mp hx with hx|hx
  ·exact Int.dvd_trans (h.dvd x hx) d1
  ·rw [List.mem_singleton.mp hx];exact d2
 ·rw [←e]
  have k1:=h.least k fun x hx=>hk x (List.mem_append_left _ hx)
  have k2:=hk n (List.mem_append_right _ (by simp))
  exact Int.natAbs_dvd_natAbs.mp (Nat.lcm_dvd (Int.natAbs_dvd_natAbs.mpr k1) (Int.natAbs_dvd_natAbs.mpr k2))
theorem bi_least_multiple {f:Addr}{fd:FuncData} (F:Fun K "least_multiple" "least_multiple" s_least_multiple f fd):Binds K fd ["numbers"] []:=F.binds (ps:=["numbers"]) fun _ _ _ _ _ _ us hl=>us1 (Q:=fun us=>bindArgs _ ⟨us,[]⟩=pure (List.zip _ us)) hl fun _=>rfl
theorem ok_least_multiple {f:Addr}{fd:FuncData} (F:Fun K "least_multiple" "least_multiple" s_least_multiple f fd) (B:Bn mg) (G_greatest_divisor:Cal P w K mg base "greatest_divisor" 1 (spD K spGcd)):FnOk P w K mg base CX0 2 f fd ["numbers"] (spD K spLm):=by
 refine okD (k:=1) F sc_least_multiple (fun ss R h=>?_) (by decide) (fun cdv A outer s H E hr=>⟨_,(qs_cons (q_set (i:=1) sc_least_multiple.nd rfl (Or.inl rfl) q_int)
   (qs_cons (q_for PassesOwn.never rfl (qi_list (K:=K) rfl (qf 0)) (qg_name (i:=2) sc_least_multiple.nd rfl (Or.inl rfl)) (qs_one (q_set (i:=1) sc_least_multiple.nd rfl (Or.inl rfl) (q_op op_mulB mIC (q_op op_fdivB mIC (qv 1) (q_call G_greatest_divisor (hr.mono (by decide)) rfl (qa_cons (qf 1) (qa_cons (qf 2) qa_nil)))) (qv 2)))))
   (qs_one (q_ret (qv 1))))),fun ss R h=>?_⟩)
 ·obtain ⟨ns,rfl,_⟩:=h
  rfl
 obtain ⟨ns,rfl,hl,hb,q⟩:=h
 walk_at "dd"
 refine fd_intro (fun i env=>∃ (m:Int) (v:Sl),env=[.fr (.list (li ns)),.fr (.int m),v]∧Lm (ns.take i) m) ⟨1,_,rfl,Lm.nil⟩ ?_ ?_
 ·rintro i env hi ⟨m,v,rfl,hm⟩
  have hi':i<ns.length:=by simpa using hi
  rw [li_get]
  have bn:=hb _ (by rw[List.getD_eq_getElem?_getD,List.getElem?_eq_getElem hi'];exact List.getElem_mem hi':ns.getD i 0∈ns)
  have et:ns.take (i+1)=ns.take i++[ns.getD i 0]:=by
   rw [List.take_add_one,List.getElem?_eq_getElem hi',List.getD_eq_getElem?_getD,List.getElem?_eq_getElem hi']
   rfl
  walk_at "dd"
  have hp:=hm.pos
  refine ⟨_,_,rfl,by omega,by omega,?_⟩
  walk_at "dd"
  have g:=(gcd_facts (s:=m) (s':=ns.getD i 0) (by omega)).1
  have gl:(Int.gcd m (ns.getD i 0):Int)≤m:=Int.le_of_dvd (by omega) (Int.gcd_dvd_left _ _)
  have hk:(ns.take i).length≤45:=by rw[List.length_take];omega
  have bm:=hm.bk.bg hk
  refine ⟨⟨g,(hm.bk.le (by omega) gl).bg hk⟩,⟨(hm.bk.le (Int.ediv_nonneg (by omega) (by omega)) (Int.ediv_le_self _ (by omega))).bg hk,Bg.of (by omega) (by omega)⟩,?_⟩
  rw [et]
  exact hm.snoc bn.1 bn.2
 ·rintro env ⟨m,v,rfl,hm⟩
  rw [List.length_map,List.take_length] at hm
  walk_at "dd"
  exact q m hm
noncomputable abbrev s_wanted_in:Stmt:=top 5
theorem sc_wanted_in:FnScope ["spans", "days"] ["spans", "days"] (defScope s_wanted_in):=⟨rfl,rfl,rfl,by decide +kernel,rfl,by decide +kernel,by decide +kernel⟩
noncomputable def spWant:DSp:=fun ss R=>∃ (ns:List Int) (d:Int),ss=[.fr (.list (li ns)),.fr (.int d)]∧ns.length≤1000∧(∀ x∈ns,1≤x∧x≤10000000000000000000000000000000000000000)∧R (.fr (.int ((ns.map (d / ·)).sum))) [.un,.un]
theorem map_range_getD (ns:List Int) (f:Int→Int):(List.range ns.length).map (fun i=>f (ns.getD i 0))=ns.map f:=by
 apply List.ext_getElem?
 intro i
 rw [List.getElem?_map,List.getElem?_map]
 by_cases h:i<ns.length
 ·rw [List.getElem?_range h,List.getElem?_eq_getElem h]
  simp [List.getD_eq_getElem?_getD,List.getElem?_eq_getElem h]
 ·rw [List.getElem?_eq_none (by simp;omega),List.getElem?_eq_none (by omega)]
  rfl
theorem bi_wanted_in {f:Addr}{fd:FuncData} (F:Fun K "wanted_in" "wanted_in" s_wanted_in f fd):Binds K fd ["spans", "days"] []:=F.binds (ps:=["spans", "days"]) fun _ _ _ _ _ _ us hl=>us2 (Q:=fun us=>bindArgs _ ⟨us,[]⟩=pure (List.zip _ us)) hl fun _ _=>rfl
theorem ok_wanted_in {f:Addr}{fd:FuncData} (F:Fun K "wanted_in" "wanted_in" s_wanted_in f fd) (B:Bn mg):FnOk P w K mg base CX0 1 f fd ["spans", "days"] (spD K spWant):=by
 refine okD (k:=0) F sc_wanted_in (fun ss R h=>?_) (by decide) (fun cdv A outer s H E hr=>⟨_,(qs_one (q_ret (q_cb (call_sumI (K:=K) rfl rfl) mSum rfl B.sum PyProof.Rows.boot_sum (qa_cons (q_comp (N':=["span", "days"]) (ix:=[none,some 1]) rfl (bs_of (N:=["spans", "days"]) (sc0:=defScope s_wanted_in) rfl rfl (by decide +kernel)) (qi_list (K:=K) rfl (qf 0)) (fun _ _ _ _=>(qg_name (i:=0) (show List.Nodup (["span", "days"]:List Str) by decide +kernel) rfl (Or.inl rfl))) (fun _ _ _ _=>qif_nil) (fun _ _ _ _=>(q_op op_fdivB mIC (qv 1) (qv 0)))) qa_nil)))),fun ss R h=>?_⟩)
 ·obtain ⟨ns,d,rfl,_⟩:=h
  rfl
 obtain ⟨ns,d,rfl,hl,hb,q⟩:=h
 walk_at "dd"
 refine cd_map (fun i=>.int (d / ns.getD i 0)) (by rw[List.length_map];omega) (fun i hi Q hQ=>?_) ?_
 ·have hi':i<ns.length:=by simpa using hi
  rw [li_get]
  have bn:=hb _ (by rw[List.getD_eq_getElem?_getD,List.getElem?_eq_getElem hi'];exact List.getElem_mem hi':ns.getD i 0∈ns)
  walk_at "dd"
  exact ⟨⟨by omega,Bg.of (by omega) (by omega)⟩,hQ⟩
 rw [List.length_map,li_range]
 walk_at "dd"
 rw [map_range_getD ns (d / ·)]
 exact q
noncomputable abbrev s_lowest_terms:Stmt:=top 3
theorem sc_lowest_terms:FnScope ["above", "below", "divisor"] ["above", "below"] (defScope s_lowest_terms):=⟨rfl,rfl,rfl,by decide +kernel,rfl,by decide +kernel,by decide +kernel⟩
noncomputable def spFrac:DSp:=fun ss R=>∃ a b:Int,ss=[.fr (.int a),.fr (.int b)]∧0≤a∧1≤b∧Bg b∧∀ g p r:Int,1≤g→g*p=a→g*r=b→0≤p→1≤r→Int.gcd p r=1→R (.fr (.tuple [.int p,.int r])) [.un,.un]
theorem bi_lowest_terms {f:Addr}{fd:FuncData} (F:Fun K "lowest_terms" "lowest_terms" s_lowest_terms f fd):Binds K fd ["above", "below"] []:=F.binds (ps:=["above", "below"]) fun _ _ _ _ _ _ us hl=>us2 (Q:=fun us=>bindArgs _ ⟨us,[]⟩=pure (List.zip _ us)) hl fun _ _=>rfl
theorem ok_lowest_terms {f:Addr}{fd:FuncData} (F:Fun K "lowest_terms" "lowest_terms" s_lowest_terms f fd) (B:Bn mg) (G_greatest_divisor:Cal P w K mg base "greatest_divisor" 1 (spD K spGcd)):FnOk P w K mg base CX0 2 f fd ["above", "below"] (spD K spFrac):=by
 refine okD (k:=1) F sc_lowest_terms (fun ss R h=>?_) (by decide) (fun cdv A outer s H E hr=>⟨_,(qs_bar (q_set (i:=2) sc_lowest_terms.nd rfl (Or.inl rfl) (q_call G_greatest_divisor (hr.mono (by decide)) rfl (qa_cons (qf 0) (qa_cons (qf 1) qa_nil))))
   (qs_one (q_ret (q_tup (qa_cons (q_op op_fdivB mIC (qv 0) (qv 2)) (qa_cons (q_op op_fdivB mIC (qv 1) (qv 2)) qa_nil)))))),fun ss R h=>?_⟩)
 ·obtain ⟨a,b,rfl,_⟩:=h
  rfl
 obtain ⟨a,b,rfl,ha,hb,bb,q⟩:=h
 walk_at "dd"
 refine ⟨a,b,rfl,ha,by omega,?_⟩
 walk_at "dd"
 refine nx ?_
 walk_at "dd"
 have gc:Int.gcd b a=Int.gcd a b:=Int.gcd_comm _ _
 have g0:=(gcd_facts (s:=b) (s':=a) (by omega)).1
 rw [gc] at g0
 have gl:(Int.gcd a b:Int)≤b:=Int.le_of_dvd (by omega) (Int.gcd_dvd_right a b)
 have bg:Bg (Int.gcd a b:Int):=by
  have:b.natAbs<2 ^ 8000:=bb
  show (Int.gcd a b:Int).natAbs<2 ^ 8000
  omega
 have e1:(Int.gcd a b:Int)*(a / (Int.gcd a b:Int))=a:=Int.mul_ediv_cancel' (Int.gcd_dvd_left a b)
 have e2:(Int.gcd a b:Int)*(b / (Int.gcd a b:Int))=b:=Int.mul_ediv_cancel' (Int.gcd_dvd_right a b)
 refine ⟨⟨g0,bg⟩,⟨g0,bg⟩,by decide,q (Int.gcd a b) _ _ (by omega) e1 e2 (Int.ediv_nonneg ha (by omega)) ?_ ?_⟩
 ·exact (Int.le_ediv_iff_mul_le g0).mpr (by omega)
 ·exact Int.gcd_ediv_gcd_ediv_gcd (by omega)
theorem sum_nn {l:List Int} (h:∀ x∈l,0≤x):0≤l.sum:=by
 induction l with
 | nil=>simp
 | cons x l ih =>
  rw [List.sum_cons]
  have h1:=h x List.mem_cons_self
  have h2:=ih fun y hy=>h y (List.mem_cons_of_mem _ hy)
  omega
theorem sum_le {l:List Int}{B:Int} (h:∀ x∈l,x≤B):l.sum≤(l.length:Int)*B:=by
 induction l with
 | nil=>simp
 | cons x l ih =>
  rw [List.sum_cons,List.length_cons]
  have h1:=h x List.mem_cons_self
  have h2:=ih fun y hy=>h y (List.mem_cons_of_mem _ hy)
  have e:((l.length+1:Nat):Int)*B=(l.length:Int)*B+B:=by
   rw [show ((l.length+1:Nat):Int)=(l.length:Int)+1 by omega,Int.add_mul,Int.one_mul]
  omega
theorem Bk.sum {k:Nat}{ns:List Int}{d:Int} (h:Bk k d) (hl:ns.length≤1000) (hx:∀ x∈ns,1≤x):Bk (k+1) ((ns.map (d / ·)).sum):=by
 have h1:(ns.map (d / ·)).sum≤(ns.length:Int)*d:=by
  have:=sum_le (l:=ns.map (d / ·)) (B:=d) fun x hx'=>by
   obtain ⟨y,hy,rfl⟩:=List.mem_map.mp hx'
   exact Int.ediv_le_self _ h.1
  rwa [List.length_map] at this
 refine (h.mul (j:=ns.length) (by omega) (by omega)).le (sum_nn fun x hx'=>?_) (by rw[Int.mul_comm];exact h1)
 obtain ⟨y,hy,rfl⟩:=List.mem_map.mp hx'
 exact Int.ediv_nonneg h.1 (by have:=hx y hy;omega)
noncomputable abbrev s_share:Stmt:=top 6
theorem sc_share:FnScope ["spans", "days"] ["spans"] (defScope s_share):=⟨rfl,rfl,rfl,by decide +kernel,rfl,by decide +kernel,by decide +kernel⟩
noncomputable def Sps (l:List Int):Prop:=∀ x∈l,1≤x∧x≤10000000000000000000000000000000000000000
structure Fr (a b p r:Int):Prop where
 p0 : 0≤p
 r1 : 1≤r
 gcd:Int.gcd p r=1
 eq : p*b=r*a
 pa : p≤a
 rb : r≤b
theorem Fr.mk' {a b g p r:Int} (g1:1≤g) (e1:g*p=a) (e2:g*r=b) (p0:0≤p) (r1:1≤r) (hg:Int.gcd p r=1):Fr a b p r:=by
 have m1:=Int.mul_le_mul_of_nonneg_right g1 p0
 have m2:=Int.mul_le_mul_of_nonneg_right g1 (show 0≤r by omega)
 refine ⟨p0,r1,hg,?_,by omega,by omega⟩
 rw [←e1,←e2]
 grind
noncomputable def spShare:DSp:=fun ss R=>∃ ns:List Int,ss=[.fr (.list (li ns))]∧ns.length≤40∧Sps ns∧∀ d p r:Int,Lm ns d→Fr ((ns.map (d / ·)).sum) d p r→R (.fr (.tuple [.int p,.int r])) [.un]
theorem bi_share {f:Addr}{fd:FuncData} (F:Fun K "share" "share" s_share f fd):Binds K fd ["spans"] []:=F.binds (ps:=["spans"]) fun _ _ _ _ _ _ us hl=>us1 (Q:=fun us=>bindArgs _ ⟨us,[]⟩=pure (List.zip _ us)) hl fun _=>rfl
theorem ok_share {f:Addr}{fd:FuncData} (F:Fun K "share" "share" s_share f fd) (B:Bn mg) (G_least_multiple:Cal P w K mg base "least_multiple" 2 (spD K spLm)) (G_wanted_in:Cal P w K mg base "wanted_in" 1 (spD K spWant)) (G_lowest_terms:Cal P w K mg base "lowest_terms" 2 (spD K spFrac)):FnOk P w K mg base CX0 3 f fd ["spans"] (spD K spShare):=by
 refine okD (k:=2) F sc_share (fun ss R h=>?_) (by decide) (fun cdv A outer s H E hr=>⟨_,(qs_bar (q_set (i:=1) sc_share.nd rfl (Or.inl rfl) (q_call G_least_multiple (hr.mono (by decide)) rfl (qa_cons (qf 0) qa_nil)))
   (qs_one (q_ret (q_call G_lowest_terms (hr.mono (by decide)) rfl (qa_cons (q_call G_wanted_in (hr.mono (by decide)) rfl (qa_cons (qf 0) (qa_cons (qf 1) qa_nil))) (qa_cons (qf 1) qa_nil)))))),fun ss R h=>?_⟩)
 ·obtain ⟨ns,rfl,_⟩:=h
  rfl
 obtain ⟨ns,rfl,hl,hs,q⟩:=h
 walk_at "dd"
 refine ⟨ns,rfl,by omega,hs,fun d hd=>?_⟩
 walk_at "dd"
 refine nx ?_
 walk_at "dd"
 refine ⟨ns,d,rfl,by omega,hs,?_⟩
 walk_at "dd"
 have d1:=hd.pos
 refine ⟨_,d,rfl,sum_nn fun x hx=>?_,d1,hd.bk.bg (by omega),fun g p r g1 e1 e2 p0 r1 hg=>?_⟩
 ·obtain ⟨y,hy,rfl⟩:=List.mem_map.mp hx
  have:=hs y hy
  exact Int.ediv_nonneg (by omega) (by omega)
 ·walk_at "dd"
  exact q d p r hd (Fr.mk' g1 e1 e2 p0 r1 hg)
noncomputable abbrev Ev:=Int×Int×Int
noncomputable abbrev pE (e:Ev):PyData:=.tuple [.int e.1,.int e.2.1,.int e.2.2]
noncomputable abbrev lE (es:List Ev):List PyData:=es.map pE
noncomputable def Cl (e f:Ev):Prop:=e.1=f.1∧(e.2.1 - f.2.1) % (Int.gcd e.2.2 f.2.2:Int)=0
noncomputable def partB (e:Ev) (sp w:Int):Bool:=decide (0≤e.1∧e.1<w∧1≤e.2.2∧e.2.2≤sp∧0≤e.2.1∧e.2.1<e.2.2)
structure EvOk (sp:List Int) (w:Int) (es:List Ev):Prop where
 len:es.length=sp.length
 part:∀ k,k<es.length→partB (es.getD k (0,0,0)) (sp.getD k 0) w=true
 apart:∀ k,k<es.length→∀ j,j<k→¬Cl (es.getD k (0,0,0)) (es.getD j (0,0,0))
theorem lE_get {es:List Ev}{i:Nat} (h:i<es.length):(lE es)[i]'(by rw[List.length_map];exact h)=pE (es.getD i (0,0,0)):=by
 simp [List.getD_eq_getElem?_getD,List.getElem?_eq_getElem h]
noncomputable def ChOk (sp:List Int) (w:Int) (es:List Ev):Prop:=EvOk sp w es∧∀ k,k<sp.length→(es.getD k (0,0,0)).2.2=sp.getD k 0
noncomputable def DC:List Nat→Prop
 | []=>False
 | [b]=>b=1
 | b::a::l=>1≤b∧a∣b∧DC (a::l)
noncomputable def RN:List Nat→Nat→Nat
 | b::a::l,p=>p % (b / a)*a+RN (a::l) (p / (b / a))
 | _,_=>0
theorem DC.pos {b:Nat}{l:List Nat} (h:DC (b::l)):1≤b:=by
 cases l with
 | nil=>have:b=1:=h;omega
 | cons a l=>exact h.1
theorem dc_div {a b p:Nat} (h:a∣b) (hb:1≤b) (hp:p<b):1≤b / a∧p / (b / a)<a∧b / a*a=b:=by
 obtain ⟨c,rfl⟩:=h
 have ha:0<a:=Nat.pos_of_ne_zero fun z=>by rw[z,Nat.zero_mul] at hb;omega
 rw [Nat.mul_div_cancel_left _ ha]
 have hc:0<c:=Nat.pos_of_ne_zero fun z=>by rw[z,Nat.mul_zero] at hb;omega
 exact ⟨hc,(Nat.div_lt_iff_lt_mul hc).mpr hp,Nat.mul_comm _ _⟩
theorem RN_lt:∀ {l:List Nat}{b p:Nat},DC (b::l)→p<b→RN (b::l) p<b
 | [],b,p,h,hp=>by show 0<b;omega
 | a::l,b,p,⟨h1,h2,h3⟩,hp=>by
  obtain ⟨d1,d2,d3⟩:=dc_div h2 h1 hp
  have ih:=RN_lt h3 d2
  show p % (b / a)*a+RN (a::l) (p / (b / a))<b
  have m:=Nat.mod_lt p d1
  have:(p % (b / a)+1)*a≤b / a*a:=Nat.mul_le_mul_right _ m
  rw [Nat.succ_mul] at this
  omega
theorem RN_mod {l:List Nat}{a b p:Nat} (h:DC (b::a::l)) (hp:p<b):RN (b::a::l) p % a=RN (a::l) (p / (b / a)):=by
 obtain ⟨h1,h2,h3⟩:=h
 obtain ⟨d1,d2,d3⟩:=dc_div h2 h1 hp
 show (p % (b / a)*a+RN (a::l) (p / (b / a))) % a=_
 rw [Nat.mul_add_mod_self_right,Nat.mod_eq_of_lt (RN_lt h3 d2)]
theorem RN_inj:∀ {l:List Nat}{b p q:Nat},DC (b::l)→p<b→q<b→RN (b::l) p=RN (b::l) q→p=q
 | [],b,p,q,h,hp,hq,_=>by have:b=1:=h;omega
 | a::l,b,p,q,h,hp,hq,e=>by
  obtain ⟨h1,h2,h3⟩:=id h
  obtain ⟨d1,d2,d3⟩:=dc_div h2 h1 hp
  obtain ⟨_,e2,_⟩:=dc_div h2 h1 hq
  have m:RN (a::l) (p / (b / a))=RN (a::l) (q / (b / a)):=by rw[←RN_mod h hp,←RN_mod h hq,e]
  have i1:=RN_inj h3 d2 e2 m
  have e:p % (b / a)*a+RN (a::l) (p / (b / a))=q % (b / a)*a+RN (a::l) (q / (b / a)):=e
  rw [m] at e
  have i2:p % (b / a)=q % (b / a):=Nat.eq_of_mul_eq_mul_right h3.pos (by omega)
  rw [←Nat.div_add_mod p (b / a),←Nat.div_add_mod q (b / a),i1,i2]
theorem RN_down:∀ {k:List Nat}{l:List Nat}{a b p:Nat},DC (b::(k++a::l))→p<b→a∣b∧RN (b::(k++a::l)) p % a=RN (a::l) (p / (b / a))
 | [],l,a,b,p,h,hp=>⟨h.2.1,RN_mod h hp⟩
 | c::k,l,a,b,p,h,hp=>by
  obtain ⟨h1,h2,h3⟩:=id h
  obtain ⟨d1,d2,d3⟩:=dc_div h2 h1 hp
  obtain ⟨i1,i2⟩:=RN_down (k:=k) h3 d2
  refine ⟨Nat.dvd_trans i1 h2,?_⟩
  have e:=RN_mod (l:=k++a::l) h hp
  rw [←Nat.mod_mod_of_dvd _ i1]
  show RN (b::c::(k++a::l)) p % c % a=_
  rw [e,i2,Nat.div_div_eq_div_mul]
  congr 1
  obtain ⟨u,rfl⟩:=i1
  obtain ⟨w,rfl⟩:=h2
  have ha:0<a:=Nat.pos_of_ne_zero fun z=>by rw[z] at h1;simp at h1
  have hu:0<u:=Nat.pos_of_ne_zero fun z=>by rw[z] at h1;simp at h1
  rw [Nat.mul_div_cancel_left _ ha,Nat.mul_assoc,Nat.mul_div_cancel_left _ ha,←Nat.mul_assoc,Nat.mul_div_cancel_left _ (Nat.mul_pos ha hu),Nat.mul_comm]
theorem RN_apart {k l:List Nat}{a b p q:Nat} (h:DC (b::(k++a::l))) (hp:p<b) (hq:q<a) (hg:(q+1)*(b / a)≤p):RN (b::(k++a::l)) p % a≠RN (a::l) q:=by
 obtain ⟨i1,i2⟩:=RN_down h hp
 rw [i2]
 intro z
 have hd:DC (a::l):=by
  clear i1 i2 z hg hq hp
  induction k generalizing b with
  | nil=>exact h.2.2
  | cons c k ih=>exact ih h.2.2
 obtain ⟨d1,d2,d3⟩:=dc_div i1 h.pos hp
 have e:=RN_inj hd d2 hq z
 have:q+1≤p / (b / a):=(Nat.le_div_iff_mul_le d1).mpr hg
 omega
noncomputable def runC:List Nat→List Nat→Nat→List (Nat×List Nat)
 | [],_,_=>[]
 | s::ss,L,T=>(T*(s / L.headD 1),s::L)::runC ss (s::L) (T*(s / L.headD 1)+1)
noncomputable def UC:Nat→List Nat→Prop
 | _,[]=>True
 | a,s::ss=>1≤s∧a∣s∧UC s ss
theorem div_chain {a b c:Nat} (h1:a∣b) (h2:b∣c) (hc:1≤c):c / b*(b / a)=c / a:=by
 obtain ⟨u,rfl⟩:=h1
 obtain ⟨w,rfl⟩:=h2
 have ha:0<a:=Nat.pos_of_ne_zero fun z=>by rw[z] at hc;simp at hc
 have hu:0<u:=Nat.pos_of_ne_zero fun z=>by rw[z] at hc;simp at hc
 rw [Nat.mul_div_cancel_left _ (Nat.mul_pos ha hu),Nat.mul_div_cancel_left _ ha,Nat.mul_assoc,Nat.mul_div_cancel_left _ ha,Nat.mul_comm]
theorem runC_mem:∀ {ss:List Nat}{a:Nat}{L:List Nat}{T:Nat},DC (a::L)→UC a ss→∀ e∈runC ss (a::L) T,∃ b k,e.2=b::(k++a::L)∧DC e.2∧a∣b∧T*(b / a)≤e.1
 | [],_,_,_,_,_,e,he=>by cases he
 | s :: ss,a,L,T,h,⟨u1,u2,u3⟩,e,he=>by
  have hd:DC (s::a::L):=⟨u1,u2,h⟩
  rcases List.mem_cons.mp he with rfl|he
  ·exact ⟨s,[],rfl,hd,u2,Nat.le_refl _⟩
  ·obtain ⟨b,k,e1,e2,e3,e4⟩:=runC_mem hd u3 e he
   refine ⟨b,k++[s],by rw[e1];simp,e2,Nat.dvd_trans u2 e3,?_⟩
   have hb:1≤b:=by rw[e1] at e2;exact e2.pos
   have e4:(T*(s / a)+1)*(b / s)≤e.1:=e4
   rw [←div_chain u2 e3 hb]
   refine Nat.le_trans ?_ e4
   rw [Nat.add_mul,Nat.mul_assoc,Nat.mul_comm (b / s)]
   exact Nat.le_add_right _ _
noncomputable def Ahead (e f:Nat×List Nat):Prop:=∃ a l b k,e.2=a::l∧f.2=b::(k++a::l)∧DC f.2∧a∣b∧(e.1+1)*(b / a)≤f.1
theorem runC_pair:∀ {ss:List Nat}{a:Nat}{L:List Nat}{T:Nat},DC (a::L)→UC a ss→(runC ss (a::L) T).Pairwise Ahead
 | [],_,_,_,_,_=>List.Pairwise.nil
 | s::ss,a,L,T,h,⟨u1,u2,u3⟩=>by
  have hd:DC (s::a::L):=⟨u1,u2,h⟩
  refine List.Pairwise.cons (fun f hf=>?_) (runC_pair hd u3)
  obtain ⟨b,k,e1,e2,e3,e4⟩:=runC_mem hd u3 f hf
  exact ⟨s,a::L,b,k,rfl,e1,e2,e3,e4⟩
theorem same_w {a b x y:Nat} (hd:a∣b) (hb:1≤b) (h:(x+1)*(b / a)≤y) (e:x / a=y / b):(x % a+1)*(b / a)≤y % b:=by
 have e1:=Nat.div_add_mod x a
 have e2:=Nat.div_add_mod y b
 obtain ⟨c,rfl⟩:=hd
 have ha:0<a:=Nat.pos_of_ne_zero fun z=>by rw[z] at hb;simp at hb
 rw [Nat.mul_div_cancel_left _ ha] at *
 obtain ⟨w,hw⟩:∃ w,w=x / a:=⟨_,rfl⟩
 rw [←e,←hw] at e2
 rw [←hw] at e1
 rw [←e1,←e2] at h
 have:(a*w+x % a+1)*c=a*c*w+(x % a+1)*c:=by
  rw [Nat.add_assoc,Nat.add_mul,Nat.mul_right_comm]
 omega
theorem ahead_apart {e f:Nat×List Nat} (h:Ahead e f):∃ a b,e.2.head? = some a∧f.2.head? = some b∧a∣b∧1≤a∧(e.1 / a=f.1 / b→RN f.2 (f.1 % b) % a≠RN e.2 (e.1 % a)):=by
 obtain ⟨a,l,b,k,e1,e2,e3,e4,e5⟩:=h
 rw [e2] at e3
 have hb:1≤b:=e3.pos
 have ha:1≤a:=Nat.pos_of_dvd_of_pos e4 hb
 refine ⟨a,b,by rw[e1];rfl,by rw[e2];rfl,e4,ha,fun z=>?_⟩
 rw [e1,e2]
 exact RN_apart e3 (Nat.mod_lt _ hb) (Nat.mod_lt _ ha) (same_w e4 hb e5 z)
noncomputable def endC:List Nat→Nat→Nat→Nat×Nat
 | [],a,T=>(a,T)
 | s::ss,a,T=>endC ss s (T*(s / a)+1)
theorem endC_mem:∀ {ss:List Nat}{a:Nat}{T:Nat},1≤a→UC a ss→a∣(endC ss a T).1∧1≤(endC ss a T).1∧T*((endC ss a T).1 / a)≤(endC ss a T).2
 | [],a,T,ha,_=>⟨Nat.dvd_refl _,ha,by show T*(a / a)≤T;rw[Nat.div_self ha,Nat.mul_one];exact Nat.le_refl _⟩
 | s::ss,a,T,ha,⟨u1,u2,u3⟩=>by
  obtain ⟨i1,i2,i3⟩:=endC_mem (T:=T*(s / a)+1) u1 u3
  refine ⟨Nat.dvd_trans u2 i1,i2,?_⟩
  show T*((endC ss s (T*(s / a)+1)).1 / a)≤(endC ss s (T*(s / a)+1)).2
  rw [←div_chain u2 i1 i2]
  refine Nat.le_trans ?_ i3
  rw [Nat.add_mul,Nat.mul_assoc,Nat.mul_comm ((endC ss s (T*(s / a)+1)).1 / s)]
  exact Nat.le_add_right _ _
theorem runC_few {W:Nat}:∀ {ss:List Nat}{a:Nat}{L:List Nat}{T:Nat},DC (a::L)→UC a ss→(endC ss a T).2≤W*(endC ss a T).1→∀ e∈runC ss (a::L) T,∃ b l,e.2=b::l∧e.1+1≤W*b
 | [],_,_,_,_,_,_,e,he=>by cases he
 | s :: ss,a,L,T,h,⟨u1,u2,u3⟩,hW,e,he=>by
  have hd:DC (s::a::L):=⟨u1,u2,h⟩
  rcases List.mem_cons.mp he with rfl|he
  ·refine ⟨s,a::L,rfl,?_⟩
   obtain ⟨i1,i2,i3⟩:=endC_mem (T:=T*(s / a)+1) u1 u3
   have hW:(endC ss s (T*(s / a)+1)).2≤W*(endC ss s (T*(s / a)+1)).1:=hW
   generalize endC ss s (T*(s / a)+1)=z at *
   obtain ⟨c,hc⟩:=i1
   have hcp:0<c:=Nat.pos_of_ne_zero fun q=>by rw[hc,q] at i2;simp at i2
   rw [hc,Nat.mul_div_cancel_left _ u1] at i3
   rw [hc] at hW
   have:(T*(s / a)+1)*c≤W*s*c:=by rw[Nat.mul_assoc];exact Nat.le_trans i3 hW
   exact Nat.le_of_mul_le_mul_right this hcp
  ·exact runC_few hd u3 hW e he
theorem endC_sum:∀ {ss:List Nat}{a:Nat}{T:Nat},1≤a→UC a ss→(endC ss a T).2=T*((endC ss a T).1 / a)+(ss.map ((endC ss a T).1 / ·)).sum
 | [],a,T,ha,_=>by
  show T=T*(a / a)+0
  rw [Nat.div_self ha,Nat.mul_one]
  rfl
 | s::ss,a,T,ha,⟨u1,u2,u3⟩=>by
  obtain ⟨i1,i2,_⟩:=endC_mem (T:=T*(s / a)+1) u1 u3
  have ih:=endC_sum (T:=T*(s / a)+1) u1 u3
  show (endC ss s (T*(s / a)+1)).2=T*((endC ss s (T*(s / a)+1)).1 / a)+((s::ss).map ((endC ss s (T*(s / a)+1)).1 / ·)).sum
  rw [ih,List.map_cons,List.sum_cons,←div_chain u2 i1 i2,Nat.add_mul,Nat.one_mul,Nat.mul_assoc,Nat.mul_comm (s / a)]
  omega
theorem endC_last:∀ {ss:List Nat}{a:Nat}{T:Nat},(endC ss a T).1=(a::ss).getLast (List.cons_ne_nil _ _)
 | [],a,T=>rfl
 | s::ss,a,T=>by
  rw [List.getLast_cons (List.cons_ne_nil _ _)]
  exact endC_last (ss:=ss) (a:=s) (T:=T*(s / a)+1)
theorem adj_dvd {ms:List Int} (h:∀ i,i+1<ms.length→ms.getD i 0∣ms.getD (i+1) 0):∀ k i,i+k<ms.length→ms.getD i 0∣ms.getD (i+k) 0
 | 0,i,_=>Int.dvd_refl _
 | k+1,i,hk=>Int.dvd_trans (adj_dvd h k i (by omega)) (h (i+k) (by omega))
theorem mem_getD {ms:List Int}{x:Int} (h:x∈ms):∃ i,i<ms.length∧ms.getD i 0=x:=by
 obtain ⟨i,hi,e⟩:=List.getElem_of_mem h
 exact ⟨i,hi,by rw[List.getD_eq_getElem?_getD,List.getElem?_eq_getElem hi];exact e⟩
theorem getD_mem {ms:List Int}{j:Nat} (hj:j<ms.length):ms.getD j 0∈ms:=by rw[List.getD_eq_getElem?_getD,List.getElem?_eq_getElem hj];exact List.getElem_mem hj
noncomputable def Chn (ns:List Int):Prop:=∀ x∈ns,∀ y∈ns,x∣y∨y∣x
theorem chn_iff {ms:List Int} (asc:ms.Pairwise (·≤·)) (pos:∀ x∈ms,1≤x):(∀ i,i+1<ms.length→ms.getD i 0∣ms.getD (i+1) 0)↔Chn ms:=by
 constructor
 ·intro h x hx y hy
  obtain ⟨i,hi,rfl⟩:=mem_getD hx
  obtain ⟨j,hj,rfl⟩:=mem_getD hy
  rcases Nat.le_total i j with l|l
  ·obtain ⟨k,rfl⟩:=Nat.exists_eq_add_of_le l
   exact .inl (adj_dvd h k i hj)
  ·obtain ⟨k,rfl⟩:=Nat.exists_eq_add_of_le l
   exact .inr (adj_dvd h k j hi)
 ·intro h i hi
  have hi':i<ms.length:=by omega
  have le:ms.getD i 0≤ms.getD (i+1) 0:=by
   have:=List.pairwise_iff_getElem.mp asc i (i+1) hi' hi (by omega)
   rw [List.getD_eq_getElem?_getD,List.getD_eq_getElem?_getD,List.getElem?_eq_getElem hi',List.getElem?_eq_getElem hi]
   exact this
  have p:=pos _ (getD_mem hi')
  rcases h _ (getD_mem hi') _ (getD_mem hi) with d|d
  ·exact d
  ·have:=Int.le_of_dvd (by omega) d
   have e:ms.getD i 0=ms.getD (i+1) 0:=by omega
   rw [e]
   exact Int.dvd_refl _
theorem too_iff {W a d p r:Int} (r1:1≤r) (d1:1≤d) (e:p*d=r*a):W*r<p↔W*d<a:=by
 constructor
 ·intro h
  have:=Int.mul_lt_mul_of_pos_right h (show 0<d by omega)
  rw [e,show W*r*d=r*(W*d) by grind] at this
  exact Int.lt_of_mul_lt_mul_left this (by omega)
 ·intro h
  have:=Int.mul_lt_mul_of_pos_left h (show 0<r by omega)
  rw [←e,show r*(W*d)=W*r*d by grind] at this
  exact Int.lt_of_mul_lt_mul_right this (by omega)
theorem cut1 {α:Type} (l:List α):cutD l (some 1) none=l.drop 1:=by
 unfold cutD
 cases l with
 | nil=>rfl
 | cons a l =>
  have e1:HT.sIx (a::l).length 0 (some 1)=1:=by simp[HT.sIx]
  have e2:HT.sIx (a::l).length (a::l).length none=(a::l).length:=by simp[HT.sIx]
  rw [e1,e2]
  simp
theorem zip_get {ms:List Int}{i:Nat} (h:i<(zipD (li ms) ((li ms).drop 1)).length):(zipD (li ms) ((li ms).drop 1))[i]=.tuple [.int (ms.getD i 0),.int (ms.getD (i+1) 0)]:=by
 have h':i+1<ms.length:=by
  rw [zipD_len,List.length_drop,List.length_map] at h
  omega
 simp only [zipD,List.getElem_zipWith,List.getElem_drop,li_get]
 rw [Nat.add_comm 1 i]
noncomputable abbrev s_is_chain:Stmt:=top 8
theorem sc_is_chain:FnScope ["spans", "rising"] ["spans"] (defScope s_is_chain):=⟨rfl,rfl,rfl,by decide +kernel,rfl,by decide +kernel,by decide +kernel⟩
noncomputable def spIsCh:DSp:=fun ss R=>∃ ns:List Int,ss=[.fr (.list (li ns))]∧ns.length≤40∧Sps ns∧∀ b:Bool,(b=true↔Chn ns)→R (.fr (.bool b)) [.un]
theorem bi_is_chain {f:Addr}{fd:FuncData} (F:Fun K "is_chain" "is_chain" s_is_chain f fd):Binds K fd ["spans"] []:=F.binds (ps:=["spans"]) fun _ _ _ _ _ _ us hl=>us1 (Q:=fun us=>bindArgs _ ⟨us,[]⟩=pure (List.zip _ us)) hl fun _=>rfl
theorem ok_is_chain {f:Addr}{fd:FuncData} (F:Fun K "is_chain" "is_chain" s_is_chain f fd) (B:Bn mg):FnOk P w K mg base CX0 1 f fd ["spans"] (spD K spIsCh):=by
 refine okD (k:=0) F sc_is_chain (fun ss R h=>?_) (by decide) (fun cdv A outer s H E hr=>⟨_,(qs_cons (q_set (i:=1) sc_is_chain.nd rfl (Or.inl rfl) (q_srtO (K:=K) rfl rfl B.sorted (qa_cons (qv 0) qa_nil)))
   (qs_one (q_ret (q_cb (kAll (K:=K) rfl rfl) mAll rfl B.all PyProof.Rows.boot_all (qa_cons (q_comp (N':=["one", "other"]) (ix:=[none,none]) rfl (bs_of (N:=["spans", "rising"]) (sc0:=defScope s_is_chain) rfl rfl (by decide +kernel)) (qi_zip false false (K:=K) rfl rfl B.zip (qa_cons (qf 1) (qa_cons (q_slL (K:=K) rfl (qv 1) (qo_some q_int) qo_none) qa_nil))) (fun _ _ _ _=>(qg_tup (K:=K) (n:=2) rfl rfl (qgs_cons (qg_name (i:=0) (show List.Nodup (["one", "other"]:List Str) by decide +kernel) rfl (Or.inl rfl)) (qgs_cons (qg_name (i:=1) (show List.Nodup (["one", "other"]:List Str) by decide +kernel) rfl (Or.inl rfl)) qgs_nil)))) (fun _ _ _ _=>qif_nil) (fun _ _ _ _=>(q_cmp op_eq mEqI (q_op op_mod mIC (qv 1) (qv 0)) q_int (nomark _)))) qa_nil))))),fun ss R h=>?_⟩)
 ·obtain ⟨ns,rfl,_⟩:=h
  rfl
 obtain ⟨ns,rfl,hl,hs,q⟩:=h
 walk_at "dd"
 refine ⟨ns,rfl,by omega,fun ms pm asc=>?_⟩
 rw [cut1]
 have hms:∀ x∈ms,1≤x:=fun x hx=>(hs x (pm.mem_iff.mp hx)).1
 have lms:=pm.length_eq
 refine cd_map (fun i=>.bool (decide (ms.getD (i+1) 0 % ms.getD i 0=0))) (by rw[zipD_len,List.length_map];omega) (fun i hi Q hQ=>?_) ?_
 ·rw [zip_get]
  have hi':i<ms.length:=by rw[zipD_len,List.length_map] at hi;omega
  have p:=hms _ (getD_mem hi')
  walk_at "dd"
  exact ⟨by omega,hQ⟩
 have hz:(zipD (li ms) ((li ms).drop 1)).length=ms.length - 1:=by
  rw [zipD_len,List.length_drop,List.length_map]
  omega
 rw [hz]
 walk_at "dd"
 refine ⟨(List.range (ms.length - 1)).map fun i=>decide (ms.getD (i+1) 0 % ms.getD i 0=0),?_,q _ ?_⟩
 ·rw [show (List.range (ms.length - 1)).map (fun i=>PyData.bool (decide (ms.getD (i+1) 0 % ms.getD i 0=0)))=((List.range (ms.length - 1)).map fun i=>decide (ms.getD (i+1) 0 % ms.getD i 0=0)).map PyData.bool by rw[List.map_map];rfl]
  exact boolsOf_map _
 have e:Chn ms↔Chn ns:=⟨fun h x hx y hy=>h x (pm.mem_iff.mpr hx) y (pm.mem_iff.mpr hy),fun h x hx y hy=>h x (pm.mem_iff.mp hx) y (pm.mem_iff.mp hy)⟩
 rw [←e,←chn_iff asc hms,List.all_eq_true]
 constructor
 ·intro h i hi
  have:=h _ (List.mem_map.mpr ⟨i,List.mem_range.mpr (by omega),rfl⟩)
  exact Int.dvd_of_emod_eq_zero (of_decide_eq_true this)
 ·intro h b hb
  obtain ⟨i,hi,rfl⟩:=List.mem_map.mp hb
  exact decide_eq_true (Int.emod_eq_zero_of_dvd (h i (by have:=List.mem_range.mp hi;omega)))
noncomputable abbrev s_is_too_much:Stmt:=top 9
theorem sc_is_too_much:FnScope ["spans", "winders", "found"] ["spans", "winders"] (defScope s_is_too_much):=⟨rfl,rfl,rfl,by decide +kernel,rfl,by decide +kernel,by decide +kernel⟩
noncomputable def spTooM:DSp:=fun ss R=>∃ (ns:List Int) (W:Int),ss=[.fr (.list (li ns)),.fr (.int W)]∧ns.length≤40∧Sps ns∧0≤W∧W≤1000∧∀ d:Int,Lm ns d→R (.fr (.bool (decide (W*d<(ns.map (d / ·)).sum)))) [.un,.un]
theorem bi_is_too_much {f:Addr}{fd:FuncData} (F:Fun K "is_too_much" "is_too_much" s_is_too_much f fd):Binds K fd ["spans", "winders"] []:=F.binds (ps:=["spans", "winders"]) fun _ _ _ _ _ _ us hl=>us2 (Q:=fun us=>bindArgs _ ⟨us,[]⟩=pure (List.zip _ us)) hl fun _ _=>rfl
theorem ok_is_too_much {f:Addr}{fd:FuncData} (F:Fun K "is_too_much" "is_too_much" s_is_too_much f fd) (B:Bn mg) (G_share:Cal P w K mg base "share" 3 (spD K spShare)):FnOk P w K mg base CX0 4 f fd ["spans", "winders"] (spD K spTooM):=by
 refine okD (k:=3) F sc_is_too_much (fun ss R h=>?_) (by decide) (fun cdv A outer s H E hr=>⟨_,(qs_cons (q_set (i:=2) sc_is_too_much.nd rfl (Or.inl rfl) (q_call G_share (hr.mono (by decide)) rfl (qa_cons (qf 0) qa_nil)))
   (qs_one (q_ret (q_cmp op_gt mB (q_ix (ix_any (K:=K) rfl) mIx (qv 2) q_int (fun _ _=>rfl)) (q_op op_mulB mIC (qv 1) (q_ix (ix_any (K:=K) rfl) mIx (qv 2) q_int (fun _ _=>rfl))) (nomark _))))),fun ss R h=>?_⟩)
 ·obtain ⟨ns,W,rfl,_⟩:=h
  rfl
 obtain ⟨ns,W,rfl,hl,hs,w0,w1,q⟩:=h
 walk_at "dd"
 refine ⟨ns,rfl,hl,hs,fun d p r hd fr=>?_⟩
 walk_at "dd"
 have d1:=hd.pos
 have bd:Bg d:=hd.bk.bg (by omega)
 have rb:=fr.rb
 have r1:=fr.r1
 have br:Bg r:=by
  have:d.natAbs<2 ^ 8000:=bd
  show r.natAbs<2 ^ 8000
  omega
 refine ⟨⟨Bg.of (by omega) (by omega),br⟩,?_⟩
 rw [show decide (W*r<p)=decide (W*d<(ns.map (d / ·)).sum) by rw[decide_eq_decide];exact too_iff r1 d1 fr.eq]
 exact q d hd
noncomputable def nl (l:List Nat):List PyData:=l.map fun n=>PyData.int (n:Nat)
theorem DC.drop:∀ {l:List Nat},DC l→∀ i,i<l.length→DC (l.drop i)
 | l,h,0,_=>h
 | [],h,i+1,hi=>by simp at hi
 | [b],h,i+1,hi=>by simp at hi
 | b::a::l,h,i+1,hi=>by
  rw [List.drop_succ_cons]
  exact DC.drop h.2.2 i (by simpa using hi)
theorem rev_pairs (l:List Nat):(((nl l.reverse).zip ((nl l.reverse).drop 1)).map fun p=>PyData.tuple [p.1,p.2]).reverse=(List.range (l.length - 1)).map fun i=>PyData.tuple [.int (l.getD (i+1) 0:Nat),.int (l.getD i 0:Nat)]:=by
 apply List.ext_getElem
 ·simp [nl]
 ·intro i h1 h2
  have hi:i<l.length - 1:=by simpa using h2
  simp only [nl,List.getElem_reverse,List.getElem_map,List.getElem_zip,List.getElem_drop,List.getElem_range,List.length_map,List.length_zip,List.length_drop,List.length_reverse]
  have a1:l.getD (i+1) 0=l[i+1]'(by omega):=by rw[List.getD_eq_getElem?_getD,List.getElem?_eq_getElem (by omega)];rfl
  have a2:l.getD i 0=l[i]'(by omega):=by rw[List.getD_eq_getElem?_getD,List.getElem?_eq_getElem (by omega)];rfl
  rw [a1,a2]
  congr 3
  ·congr 2;omega
  ·congr 3;omega
noncomputable abbrev s_rest_at:Stmt:=top 10
theorem sc_rest_at:FnScope ["place", "steps", "rest", "step", "finer", "parts"] ["place", "steps"] (defScope s_rest_at):=⟨rfl,rfl,rfl,by decide +kernel,rfl,by decide +kernel,by decide +kernel⟩
noncomputable def spRest:DSp:=fun ss R=>∃ (p b:Nat) (L:List Nat),ss=[.fr (.int p),.fr (.list (nl (b::L).reverse))]∧L.length≤41∧DC (b::L)∧(∀ x∈b::L,x≤10000000000000000000000000000000000000001)∧p<b∧R (.fr (.int (RN (b::L) p:Nat))) [.un,.un]
theorem bi_rest_at {f:Addr}{fd:FuncData} (F:Fun K "rest_at" "rest_at" s_rest_at f fd):Binds K fd ["place", "steps"] []:=F.binds (ps:=["place", "steps"]) fun _ _ _ _ _ _ us hl=>us2 (Q:=fun us=>bindArgs _ ⟨us,[]⟩=pure (List.zip _ us)) hl fun _ _=>rfl
theorem ok_rest_at {f:Addr}{fd:FuncData} (F:Fun K "rest_at" "rest_at" s_rest_at f fd) (B:Bn mg):FnOk P w K mg base CX0 1 f fd ["place", "steps"] (spD K spRest):=by
 refine okD (k:=0) F sc_rest_at (fun ss R h=>?_) (by decide) (fun cdv A outer s H E hr=>⟨_,(qs_cons (q_set (i:=2) sc_rest_at.nd rfl (Or.inl rfl) q_int)
   (qs_cons (q_for PassesOwn.never rfl (qi_rev (K:=K) rfl rfl B.reversed (qa_cons (q_lzip (K:=K) rfl rfl rfl B.list rfl B.zip (qa_cons (qv 1) (qa_cons (q_slL (K:=K) rfl (qv 1) (qo_some q_int) qo_none) qa_nil))) qa_nil)) (qg_tup (K:=K) (n:=2) rfl rfl (qgs_cons (qg_name (i:=3) sc_rest_at.nd rfl (Or.inl rfl)) (qgs_cons (qg_name (i:=4) sc_rest_at.nd rfl (Or.inl rfl)) qgs_nil))) (qs_cons (q_set (i:=5) sc_rest_at.nd rfl (Or.inl rfl) (q_op op_fdivB mIC (qv 4) (qv 3)))
   (qs_cons (q_set (i:=2) sc_rest_at.nd rfl (Or.inl rfl) (q_op op_add mI (qv 2) (q_op op_mulB mIC (q_op op_mod mIC (qv 0) (qv 5)) (qv 3))))
   (qs_one (q_set (i:=0) sc_rest_at.nd rfl (Or.inl rfl) (q_op op_fdivB mIC (qv 0) (qv 5)))))))
   (qs_one (q_ret (qv 2))))),fun ss R h=>?_⟩)
 ·obtain ⟨p,b,L,rfl,_⟩:=h
  rfl
 obtain ⟨p,b,L,rfl,hl,hd,hb,hp,q⟩:=h
 walk_at "dd"
 rw [cut1,rev_pairs]
 refine fd_intro (fun i env=>∃ (r pl:Nat) (v3 v4 v5:Sl),env=[.fr (.int pl),.fr (.list (nl (b::L).reverse)),.fr (.int r),v3,v4,v5]∧pl<(b::L).getD i 0∧r+RN ((b::L).drop i) pl=RN (b::L) p) ⟨0,p,_,_,_,rfl,hp,by simp⟩ ?_ ?_
 ·rintro i env hi ⟨r,pl,v3,v4,v5,rfl,h1,h2⟩
  have hi':i<L.length:=by simpa using hi
  rw [List.getElem_map,List.getElem_range]
  walk_at "dd"
  have e2:L.drop i=(b::L).getD (i+1) 0::L.drop (i+1):=by
   rw [List.drop_eq_getElem_cons hi',List.getD_cons_succ,List.getD_eq_getElem?_getD,List.getElem?_eq_getElem hi']
   rfl
  have hi2:i<(b::L).length:=by rw[List.length_cons];omega
  have e1:(b::L).drop i=(b::L).getD i 0::L.drop i:=by
   rw [List.drop_eq_getElem_cons hi2,List.drop_succ_cons,List.getD_eq_getElem?_getD,List.getElem?_eq_getElem hi2]
   rfl
  have hdc:=hd.drop i hi2
  have bx:(b::L).getD i 0≤10000000000000000000000000000000000000001:=hb _ (List.mem_of_mem_drop (i:=i) (by rw[e1];exact List.mem_cons_self))
  have by':(b::L).getD (i+1) 0≤10000000000000000000000000000000000000001:=hb _ (List.mem_of_mem_drop (i:=i) (by rw[e1,e2];exact List.mem_cons_of_mem _ List.mem_cons_self))
  rw [e1,e2] at hdc h2
  rw [e2]
  generalize (b::L).getD i 0=x at *
  generalize (b::L).getD (i+1) 0=y at *
  obtain ⟨c1,c2,c3⟩:=dc_div hdc.2.1 hdc.1 h1
  have y1:=DC.pos hdc.2.2
  rw [←Int.natCast_ediv x y,←Int.natCast_emod pl (x / y),←Int.natCast_ediv pl (x / y)]
  have l1:x / y≤x:=Nat.div_le_self x y
  have l2:pl % (x / y)<x / y:=Nat.mod_lt _ (by omega)
  refine ⟨⟨by omega,Bg.of (by omega) (by omega)⟩,by omega,⟨Bg.of (by omega) (by omega),Bg.of (by omega) (by omega)⟩,⟨by omega,Bg.of (by omega) (by omega)⟩,r+pl % (x / y)*y,pl / (x / y),rfl,by rw[Int.natCast_add,Int.natCast_mul],c2,?_⟩
  rw [Nat.add_assoc]
  exact h2
 ·rintro env ⟨r,pl,v3,v4,v5,rfl,h1,h2⟩
  rw [List.length_map,List.length_range] at h1 h2
  walk_at "dd"
  have e0:RN ((b::L).drop ((b::L).length - 1)) pl=0:=by
   rw [List.length_cons,Nat.add_sub_cancel,List.drop_eq_getElem_cons (by simp),List.drop_eq_nil_of_le (by simp)]
   rfl
  rw [e0,Nat.add_zero] at h2
  rw [h2]
  exact q
section
variable {κ β:Type} [DecidableEq κ]
theorem getK_app (a b:List (κ×β)) (k:κ):getK (a++b) k=match getK a k with|some v=>some v|none=>getK b k:=by
 induction a with
 | nil=>rfl
 | cons p a ih =>
  rw [List.cons_append,getK_cons,getK_cons,ih]
  by_cases h:p.1=k <;> simp[h]
theorem getK_put (kvs:List (κ×β)) (k:κ) (v:β) (x:κ):getK (kvs.map fun p=>if p.1=k then (p.1,v) else p) x=if x=k then (getK kvs x).map fun _=>v else getK kvs x:=by
 induction kvs with
 | nil=>simp[getK]
 | cons p kvs ih =>
  rw [List.map_cons,getK_cons,getK_cons,ih]
  by_cases h1:p.1=k
  ·by_cases h2:x=k
   ·simp [h1,h2]
   ·have:¬k=x:=fun z=>h2 z.symm
    simp [h1,h2,this]
  ·by_cases h2:p.1=x
   ·subst h2;simp[h1]
   ·simp [h1,h2]
theorem getK_set (kvs:List (κ×β)) (k:κ) (v:β) (x:κ):getK (setK kvs k v) x=if x=k then some v else getK kvs x:=by
 unfold setK
 cases e:getK kvs k with
 | some w =>
  rw [if_pos (show (some w).isSome=true from rfl),getK_put]
  by_cases h:x=k
  ·subst h;simp[e]
  ·simp [h]
 | none =>
  rw [if_neg (by simp),getK_app,getK_cons,getK_nil]
  by_cases h:x=k
  ·subst h;simp[e]
  ·have:¬k=x:=fun z=>h z.symm
   simp only [this,h,if_false]
   cases getK kvs x <;> rfl
end
theorem uc_of:∀ {l:List Nat}{a:Nat},(∀ x∈l,1≤x)→(a::l).Pairwise (fun x y=>x∣y)→UC a l
 | [],_,_,_=>trivial
 | s::l,a,h,p=>⟨h s List.mem_cons_self,(List.pairwise_cons.mp p).1 s List.mem_cons_self,uc_of (fun x hx=>h x (List.mem_cons_of_mem _ hx)) (List.pairwise_cons.mp p).2⟩
theorem ord_perm (kn:Nat→Int) (n:Nat):(pick (srtIx (keyL kn n)) (List.range n) 0).Perm (List.range n) :=
 pick_perm (by rw[List.length_range];have:=srtIx_perm (keyL kn n);rwa [keyL_len] at this)
theorem keyL_get (kn:Nat→Int) {n j:Nat} (h:j<n):(keyL kn n).getD j (0,[])=(kn j,[]):=by
 rw [List.getD_eq_getElem?_getD]
 simp [keyL,h]
theorem ord_asc (kn:Nat→Int) (n:Nat):((pick (srtIx (keyL kn n)) (List.range n) 0).map kn).Pairwise (·≤·):=by
 rw [List.pairwise_iff_getElem]
 intro a b ha hb hab
 have hl:(srtIx (keyL kn n)).length=n:=by rw[(srtIx_perm _).length_eq,List.length_range,keyL_len]
 have hb':b<n:=by
  rw [List.length_map,(ord_perm kn n).length_eq,List.length_range] at hb
  exact hb
 have q:=srtIx_asc (ks:=keyL kn n) (Nat.le_of_lt hab) (by rw[keyL_len];exact hb')
 have mem:∀ c,c<n→(srtIx (keyL kn n)).getD c 0<n:=fun c hc=>by
  rw [List.getD_eq_getElem?_getD,List.getElem?_eq_getElem (by rw[hl];exact hc)]
  have:=(srtIx_perm (keyL kn n)).mem_iff.mp (List.getElem_mem (by rw[hl];exact hc:c<(srtIx (keyL kn n)).length))
  rw [keyL_len] at this
  exact List.mem_range.mp this
 rw [keyL_get kn (mem b hb'),keyL_get kn (mem a (by omega))] at q
 have val:∀ c (hc:c<((pick (srtIx (keyL kn n)) (List.range n) 0).map kn).length),c<n→((pick (srtIx (keyL kn n)) (List.range n) 0).map kn)[c]=kn ((srtIx (keyL kn n)).getD c 0):=fun c hc hcn=>by
  have m:=mem c hcn
  rw [List.getD_eq_getElem?_getD,List.getElem?_eq_getElem (by rw[hl];exact hcn)] at m ⊢
  simp only [pick,List.getElem_map]
  congr 1
  have m':(srtIx (keyL kn n))[c]'(by rw[hl];exact hcn)<n:=m
  rw [List.getD_eq_getElem?_getD,List.getElem?_range m']
 rw [val a ha (by omega),val b hb hb']
 unfold keyLt at q
 split at q
 ·rename_i h
  exact Int.le_of_eq h.symm
 ·have:=of_decide_eq_false q
  omega
theorem li_atN {ns:List Int}{j:Nat} (h:j<ns.length):atI (li ns) (j:Int)=some (.int (ns.getD j 0)):=by
 have h':j<(li ns).length:=by rw[show (li ns).length=ns.length from List.length_map ..];exact h
 rw [atI_nat (List.getElem?_eq_getElem h'),li_get]
theorem nl_last (c:Nat) (C:List Nat):atI (nl (c::C).reverse) (-1)=some (.int (c:Nat)):=by
 unfold nl
 rw [List.reverse_cons,List.map_append]
 exact atI_lastV _ _
theorem range_getD (ns:List Int):(List.range ns.length).map (fun j=>ns.getD j 0)=ns:=by
 apply List.ext_getElem
 ·simp
 ·intro i h1 h2
  rw [List.getElem_map,List.getElem_range,List.getD_eq_getElem?_getD,List.getElem?_eq_getElem h2]
  rfl
theorem uc_dvd:∀ {ss:List Nat}{a T:Nat},1≤a→UC a ss→∀ x∈ss,x∣(endC ss a T).1
 | [],_,_,_,_,x,hx=>by cases hx
 | s::ss,a,T,ha,⟨u1,u2,u3⟩,x,hx=>by
  show x∣(endC ss s (T*(s / a)+1)).1
  rcases List.mem_cons.mp hx with rfl|hx
  ·exact (endC_mem u1 u3).1
  ·exact uc_dvd u1 u3 x hx
theorem end_mem {ss:List Nat}{a T:Nat} (h:ss≠[]):(endC ss a T).1∈ss:=by
 rw [endC_last,List.getLast_cons h]
 exact List.getLast_mem h
theorem sum_cast (l:List Nat):((l.sum:Nat):Int)=(l.map fun (n:Nat)=>(n:Int)).sum:=by
 induction l with
 | nil=>rfl
 | cons a l ih=>rw[List.sum_cons,List.map_cons,List.sum_cons,←ih,Int.natCast_add]
theorem sum_perm {a b:List Int} (h:a.Perm b):a.sum=b.sum:=by
 induction h with
 | nil=>rfl
 | cons x _ ih=>rw[List.sum_cons,List.sum_cons,ih]
 | swap x y l=>simp only [List.sum_cons];omega
 | trans _ _ i1 i2=>rw[i1,i2]
theorem few_of {ns:List Int}{o ss:List Nat}{W d:Int} (hp:o.Perm (List.range ns.length)) (hss:ss=o.map fun j=>(ns.getD j 0).toNat) (huc:UC 1 ss) (n1:1≤ns.length) (hs:∀ x∈ns,1≤x) (d1:1≤d) (dd:∀ x∈ns,x∣d) (dl:∀ k:Int,(∀ x∈ns,x∣k)→d∣k) (w0:0≤W) (hc:¬W*d<(ns.map (d / ·)).sum):(endC ss 1 0).2≤W.toNat*(endC ss 1 0).1:=by
 have hpe:(ss.map fun (n:Nat)=>(n:Int)).Perm ns:=by
  have h1:=hp.map fun j=>ns.getD j 0
  rw [range_getD] at h1
  have:(ss.map fun (n:Nat)=>(n:Int))=o.map fun j=>ns.getD j 0:=by
   rw [hss,List.map_map]
   refine List.map_congr_left fun j hj=>?_
   have:=hs _ (by
    have hj:=List.mem_range.mp (hp.mem_iff.mp hj)
    rw [List.getD_eq_getElem?_getD,List.getElem?_eq_getElem hj];exact List.getElem_mem hj:ns.getD j 0∈ns)
   show (((ns.getD j 0).toNat:Nat):Int)=_
   omega
  rw [this]
  exact h1
 have hne:ss≠[]:=by
  intro z
  have:=hpe.length_eq
  rw [z] at this
  simp at this
  omega
 have m1:=end_mem (a:=1) (T:=0) hne
 have m2:(((endC ss 1 0).1:Nat):Int)∈ns:=hpe.mem_iff.mp (List.mem_map.mpr ⟨_,m1,rfl⟩)
 have e1:d∣((endC ss 1 0).1:Nat):=dl _ fun x hx=>by
  obtain ⟨y,hy,rfl⟩:=List.mem_map.mp (hpe.mem_iff.mpr hx)
  exact Int.natCast_dvd_natCast.mpr (uc_dvd (Nat.le_refl 1) huc y hy)
 have e2:=dd _ m2
 have p:=hs _ m2
 have e:d=((endC ss 1 0).1:Nat):=Int.le_antisymm (Int.le_of_dvd (by omega) e1) (Int.le_of_dvd (by omega) e2)
 have es:=endC_sum (T:=0) (Nat.le_refl 1) huc
 rw [Nat.zero_mul,Nat.zero_add] at es
 have es2:(((endC ss 1 0).2:Nat):Int)=(ns.map (d / ·)).sum:=by
  rw [es,sum_cast,←sum_perm (hpe.map (d / ·)),List.map_map,List.map_map,e]
  congr 1
 have hc':(((endC ss 1 0).2:Nat):Int)≤W*(((endC ss 1 0).1:Nat):Int):=by rw[es2,←e];omega
 have hw:((W.toNat:Nat):Int)=W:=by omega
 rw [←hw,←Int.natCast_mul] at hc'
 omega
theorem apart_of {e f:Nat×List Nat} (h:Ahead e f) {a b:Nat}{l m:List Nat} (ea:e.2=a::l) (eb:f.2=b::m) (hw:e.1 / a=f.1 / b):((RN e.2 (e.1 % a):Nat) - (RN f.2 (f.1 % b):Nat):Int) % (Int.gcd (a:Int) (b:Int):Int)≠0∧((RN f.2 (f.1 % b):Nat) - (RN e.2 (e.1 % a):Nat):Int) % (Int.gcd (b:Int) (a:Int):Int)≠0:=by
 have hdc:DC e.2:=by
  obtain ⟨a,l,b,k,e1,e2,e3,e4,e5⟩:=h
  rw [e1]
  rw [e2] at e3
  exact DC.drop (l:=b::(k++a::l)) e3 (k.length+1) (by simp) |> fun z=>by simpa using z
 obtain ⟨a',b',h1,h2,h3,h4,h5⟩:=ahead_apart h
 rw [ea] at h1
 rw [eb] at h2
 cases h1
 cases h2
 have h5:=h5 hw
 have lt:RN e.2 (e.1 % a)<a:=by
  rw [ea] at hdc ⊢
  exact RN_lt hdc (Nat.mod_lt _ h4)
 generalize RN e.2 (e.1 % a)=x at *
 generalize RN f.2 (f.1 % b)=y at *
 have g1:Int.gcd (a:Int) (b:Int)=a:=Nat.gcd_eq_left h3
 have g2:Int.gcd (b:Int) (a:Int)=a:=Nat.gcd_eq_right h3
 rw [g1,g2]
 have key:∀ c:Int,(y:Int) - x=a*c→False:=fun c hc=>h5 (by
  have e:(y:Int)=x+a*c:=by omega
  have:((y % a:Nat):Int)=x:=by
   rw [Int.natCast_emod,e,Int.add_mul_emod_self_left,Int.emod_eq_of_lt (by omega) (by omega)]
  omega)
 refine ⟨fun z=>?_,fun z=>?_⟩
 ·obtain ⟨c,hc⟩:=Int.dvd_of_emod_eq_zero z
  exact key (-c) (by rw[Int.mul_neg];omega)
 ·obtain ⟨c,hc⟩:=Int.dvd_of_emod_eq_zero z
  exact key c hc
theorem map_getD {n k:Nat} (g:Nat→Ev) (h:k<n):((List.range n).map g).getD k (0,0,0)=g k:=by
 rw [List.getD_eq_getElem?_getD,List.getElem?_map,List.getElem?_range h]
 rfl
noncomputable def EntOk (ns:List Int) (o ss:List Nat) (k:Nat) (e:Nat×Nat×Nat×List Nat):Prop:=o[e.1]? = some k∧(runC ss [1] 0)[e.1]? = some (e.2.1,e.2.2.1::e.2.2.2)∧((e.2.2.1:Nat):Int)=ns.getD k 0
noncomputable def entE (e:Nat×Nat×Nat×List Nat):Ev:=(((e.2.1 / e.2.2.1:Nat):Int),((RN (e.2.2.1::e.2.2.2) (e.2.1 % e.2.2.1):Nat):Int),((e.2.2.1:Nat):Int))
theorem ent_ok {ns:List Int}{o ss:List Nat}{W:Int} (w0:0≤W) (hs:∀ x∈ns,1≤x) (huc:UC 1 ss) (hfew:∀ e∈runC ss [1] 0,∃ b l,e.2=b::l∧e.1+1≤W.toNat*b) {f:Nat→Nat×Nat×Nat×List Nat} (hf:∀ k,k<ns.length→EntOk ns o ss k (f k)):ChOk ns W ((List.range ns.length).map fun k=>entE (f k)):=by
 have hdc:DC [1]:=rfl
 have pos:∀ k,k<ns.length→1≤(f k).2.2.1:=fun k hk=>by
  have h1:=(hf k hk).2.2
  have h2:=hs _ (getD_mem hk)
  omega
 refine ⟨⟨by simp,fun k hk=>?_,fun k hk j hj=>?_⟩,fun k hk=>?_⟩
 ·have hk:k<ns.length:=by simpa using hk
  rw [map_getD _ hk]
  obtain ⟨e1,e2,e3⟩:=hf k hk
  have p:=pos k hk
  generalize f k=e at *
  obtain ⟨j,T,s,l⟩:=e
  have e2:(runC ss [1] 0)[j]? = some (T,s::l):=e2
  have p:1≤s:=p
  have e3:((s:Nat):Int)=ns.getD k 0:=e3
  have mem:=List.mem_of_getElem? e2
  obtain ⟨b,k',r1,r2,r3,r4⟩:=runC_mem hdc huc _ mem
  obtain ⟨b',l',r5,r6⟩:=hfew _ mem
  cases r5
  have lt:=RN_lt r2 (Nat.mod_lt T p)
  have dv:T / s<W.toNat:=(Nat.div_lt_iff_lt_mul p).mpr (by have r6:T+1≤W.toNat*s:=r6;omega)
  unfold partB entE
  rw [decide_eq_true_eq]
  simp only
  generalize T / s=w at *
  generalize RN (s::l) (T % s)=r at *
  omega
 ·have hk:k<ns.length:=by simpa using hk
  rw [map_getD _ hk,map_getD _ (by omega)]
  obtain ⟨a1,a2,a3⟩:=hf k hk
  obtain ⟨b1,b2,b3⟩:=hf j (by omega)
  have pw:=runC_pair (T:=0) hdc huc
  rintro ⟨z1,z2⟩
  have z1:(((f k).2.1 / (f k).2.2.1:Nat):Int)=(((f j).2.1 / (f j).2.2.1:Nat):Int):=z1
  have z1:(f k).2.1 / (f k).2.2.1=(f j).2.1 / (f j).2.2.1:=by omega
  have ne:(f k).1≠(f j).1:=fun z=>by
   rw [z,b1] at a1
   injection a1 with a1
   omega
  obtain ⟨la,ea⟩:=List.getElem?_eq_some_iff.mp a2
  obtain ⟨lb,eb⟩:=List.getElem?_eq_some_iff.mp b2
  rcases Nat.lt_or_gt_of_ne ne with l|l
  ·have:=List.pairwise_iff_getElem.mp pw _ _ la lb l
   rw [ea,eb] at this
   exact (apart_of this rfl rfl z1).1 z2
  ·have:=List.pairwise_iff_getElem.mp pw _ _ lb la l
   rw [ea,eb] at this
   exact (apart_of this rfl rfl z1.symm).2 z2
 ·rw [map_getD _ hk]
  exact (hf k hk).2.2
noncomputable abbrev s_chain_plan:Stmt:=top 11
theorem sc_chain_plan:FnScope ["spans", "winders", "even", "steps", "taken", "clock", "step"] ["spans", "winders"] (defScope s_chain_plan):=⟨rfl,rfl,rfl,by decide +kernel,rfl,by decide +kernel,by decide +kernel⟩
noncomputable def spChP:DSp:=fun ss R=>∃ (ns:List Int) (W:Int),ss=[.fr (.list (li ns)),.fr (.int W)]∧1≤ns.length∧ns.length≤40∧Sps ns∧0≤W∧W≤1000∧(¬Chn ns→R (.fr .none) [.un,.un]) ∧
 (Chn ns→∀ d:Int,Lm ns d→(W*d<(ns.map (d / ·)).sum→R (.fr .none) [.un,.un])∧(¬W*d<(ns.map (d / ·)).sum→∀ es,ChOk ns W es→R (.ow (lE es)) [.un,.un]))
theorem bi_chain_plan {f:Addr}{fd:FuncData} (F:Fun K "chain_plan" "chain_plan" s_chain_plan f fd):Binds K fd ["spans", "winders"] []:=F.binds (ps:=["spans", "winders"]) fun _ _ _ _ _ _ us hl=>us2 (Q:=fun us=>bindArgs _ ⟨us,[]⟩=pure (List.zip _ us)) hl fun _ _=>rfl
theorem ok_chain_plan {f:Addr}{fd:FuncData} (F:Fun K "chain_plan" "chain_plan" s_chain_plan f fd) (B:Bn mg) (L:LamFd K base "chain_plan" fd) (G_is_chain:Cal P w K mg base "is_chain" 1 (spD K spIsCh)) (G_is_too_much:Cal P w K mg base "is_too_much" 4 (spD K spTooM)) (G_rest_at:Cal P w K mg base "rest_at" 1 (spD K spRest)):FnOk P w K mg base CX0 6 f fd ["spans", "winders"] (spD K spChP):=by
 refine okDL (k:=5) F sc_chain_plan (fun ss R h=>?_) (by decide) (fun cdv hcd A outer s H E hr=>⟨_,(qs_bar (q_if (PW.pt (qw_or (qt_not (qt_val (q_call G_is_chain (hr.mono (by decide)) rfl (qa_cons (qf 0) qa_nil)))) (qw_or1 (qt_val (q_call G_is_too_much (hr.mono (by decide)) rfl (qa_cons (qf 0) (qa_cons (qf 1) qa_nil))))))) (qs_one (q_ret q_non)) qs_nil)
   (qs_bar (q_set (i:=2) sc_chain_plan.nd rfl (Or.inr rfl) q_dct0)
   (qs_bar (q_set (i:=3) sc_chain_plan.nd rfl (Or.inl rfl) (q_lst (qa_cons q_int qa_nil)))
   (qs_bar (q_set (i:=4) sc_chain_plan.nd rfl (Or.inl rfl) q_int)
   (qs_bar (q_for PassesOwn.never rfl (qi_list (K:=K) rfl (q_srtR 0 (p := "number") (x := "spans") (K:=K) rfl rfl (let ⟨c,T,a,b,d⟩:=L;⟨c,T,hcd.trans a,b,d⟩) (hr.mono (by decide)) rfl B.sorted rfl B.range (qa_cons (q_cb (kLen (K:=K) rfl) mLen rfl B.len PySem.boot_len (qa_cons (qv 0) qa_nil)) qa_nil) ⟨rfl,rfl,rfl,rfl,rfl,by decide,by decide,by decide⟩ rfl (Or.inr (Or.inl rfl)) (Or.inl rfl) (fun z=>nomatch (show (some NameKind.cell:Option NameKind)=some .local from z)) (fun _ _ _ _ _ _=>rfl) (fun c hc=>by cases hc;rfl) rfl (fun _ _ _ _ _ _ _=>(q_ix (ix_any (K:=K) rfl) mIx (qv 1) (qv 0) (fun _ _=>rfl))))) (qg_name (i:=5) sc_chain_plan.nd rfl (Or.inl rfl)) (qs_bar (q_set (i:=6) sc_chain_plan.nd rfl (Or.inl rfl) (q_ix (ix_any (K:=K) rfl) mIx (qv 0) (qv 5) (fun _ _=>rfl)))
   (qs_bar (q_set (i:=4) sc_chain_plan.nd rfl (Or.inl rfl) (q_op op_mulB mIC (qv 4) (q_op op_fdivB mIC (qv 6) (q_ix (ix_any (K:=K) rfl) mIx (qv 3) (q_un un_neg mNeg q_int) (fun _ _=>rfl)))))
   (qs_bar (q_expr (q_app 3 (K:=K) rfl rfl (qf 6)))
   (qs_bar (q_setK 2 (K:=K) rfl (hu2 hr) rfl (qf 5) (q_tup (qa_cons (q_op op_fdivB mIC (qv 4) (qv 6)) (qa_cons (q_callV G_rest_at (hr.mono (by decide)) rfl (qa_cons (q_op op_mod mIC (qv 4) (qv 6)) (qa_cons (q_bor 3) qa_nil))) (qa_cons (qf 6) qa_nil)))))
   (qs_one (q_set (i:=4) sc_chain_plan.nd rfl (Or.inl rfl) (q_op op_add mI (qv 4) q_int))))))))
   (qs_frzT 2 (qs_one (q_ret (q_comp (N':=["clock", "even"]) (ix:=[none,some 2]) rfl (bs_of (N:=["spans", "winders", "even", "steps", "taken", "clock", "step"]) (sc0:=defScope s_chain_plan) rfl rfl (by decide +kernel)) (qi_rng1 rfl B.range (qa_cons (q_cb (kLen (K:=K) rfl) mLen rfl B.len PySem.boot_len (qa_cons (qv 0) qa_nil)) qa_nil)) (fun _ _ _ _=>(qg_name (i:=0) (show List.Nodup (["clock", "even"]:List Str) by decide +kernel) rfl (Or.inl rfl))) (fun _ _ _ _=>qif_nil) (fun _ _ _ _=>(q_ix (kIxK (K:=K) rfl (hu2 hr)) mIxK (qv 1) (qv 0) (fun _ _=>rfl)))))))))))),fun ss R h=>?_⟩)
 ·obtain ⟨ns,W,rfl,_⟩:=h
  rfl
 obtain ⟨ns,W,rfl,n1,hl,hs,w0,w1,q0,q⟩:=h
 walk_at "dx"
 refine ⟨ns,rfl,hl,hs,fun b hb=>?_⟩
 walk_at "dx"
 cases b with
 | false =>
  walk_at "dx"
  exact q0 fun z=>nomatch hb.mpr z
 | true =>
  walk_at "dx"
  refine ⟨ns,W,rfl,hl,hs,w0,w1,fun d hd=>?_⟩
  walk_at "dx"
  by_cases hc:W*d<(ns.map (d / ·)).sum
  ·rw [if_pos hc]
   exact (q (hb.mp rfl) d hd).1 hc
  ·rw [if_neg hc]
   walk_at "dx"
   intro S
   walk_at "dx"
   refine ⟨by rw[sizeLine_eq];decide,?_⟩
   walk_at "dx"
   have hln:(li ns).length=ns.length:=List.length_map ..
   refine ⟨ns.length,by rw[hln],by omega,fun j=>ns.getD j 0,fun j hj=>?_,?_⟩
   ·exact ⟨_,li_atN hj,rfl⟩
   obtain ⟨o,ho⟩:∃ o,o=pick (srtIx (keyL (fun j=>ns.getD j 0) ns.length)) (List.range ns.length) 0:=⟨_,rfl⟩
   rw [←ho]
   have hperm:o.Perm (List.range ns.length):=by rw[ho];exact ord_perm _ _
   have hasc:(o.map fun j=>ns.getD j 0).Pairwise (·≤·):=by rw[ho];exact ord_asc _ _
   have hlo:o.length=ns.length:=by rw[hperm.length_eq,List.length_range]
   obtain ⟨ss,hss⟩:∃ ss:List Nat,ss=o.map fun j=>(ns.getD j 0).toNat:=⟨_,rfl⟩
   have hch:Chn ns:=hb.mp rfl
   have hmo:∀ j∈o,ns.getD j 0∈ns:=fun j hj=>getD_mem (List.mem_range.mp (hperm.mem_iff.mp hj))
   have huc:UC 1 ss:=by
    refine uc_of (fun x hx=>?_) (List.pairwise_cons.mpr ⟨fun _ _=>Nat.one_dvd _,?_⟩)
    ·rw [hss] at hx
     obtain ⟨j,hj,rfl⟩:=List.mem_map.mp hx
     have:=hs _ (hmo j hj)
     omega
    ·rw [hss,List.pairwise_map]
     rw [List.pairwise_map] at hasc
     refine hasc.imp_of_mem fun {a b} ha hb' hab=>?_
     have p1:=hs _ (hmo a ha)
     have p2:=hs _ (hmo b hb')
     have:ns.getD a 0∣ns.getD b 0:=by
      rcases hch _ (hmo a ha) _ (hmo b hb') with d|d
      ·exact d
      ·have:=Int.le_of_dvd (by omega) d
       rw [show ns.getD a 0=ns.getD b 0 by omega]
       exact Int.dvd_refl _
     exact Int.natCast_dvd_natCast.mp (by rw[Int.toNat_of_nonneg (by omega),Int.toNat_of_nonneg (by omega)];exact this)
   have hfew:∀ e∈runC ss [1] 0,∃ b l,e.2=b::l∧e.1+1≤W.toNat*b:=runC_few (show DC [1] from rfl) huc (few_of hperm hss huc n1 (fun x hx=>(hs x hx).1) hd.pos hd.dvd hd.least w0 hc)
   refine fd_intro (fun i env=>∃ (T c:Nat) (C:List Nat) (kvs:List (StdK×PyData)) (v5 v6:Sl),env=[.fr (.list (li ns)),.fr (.int W),.tr S (dctD kvs),.ow (nl (c::C).reverse),.fr (.int T),v5,v6] ∧
    kvs.length≤i∧C.length=i∧DC (c::C)∧UC c (ss.drop i)∧(∀ x∈c::C,x≤10000000000000000000000000000000000000001)∧T≤100000000000000000000000000000000000000000000∧runC (ss.drop i) (c::C) T=(runC ss [1] 0).drop i ∧
    ∀ (j k:Nat),j<i→o[j]? = some k→∃ (Tj s:Nat) (l:List Nat),(runC ss [1] 0)[j]? = some (Tj,s::l)∧(s:Int)=ns.getD k 0∧getK kvs (k:Int)=some (.tuple [.int (Tj / s:Nat),.int (RN (s::l) (Tj % s):Nat),.int s])) ?_ ?_ ?_
   ·refine ⟨0,1,[],[],_,_,rfl,Nat.le_refl _,rfl,rfl,by rw[List.drop_zero];exact huc,?_,by omega,by rw[List.drop_zero,List.drop_zero],fun j k hj=>absurd hj (by omega)⟩
    intro x hx
    rw [List.mem_singleton.mp hx]
    omega
   ·rintro i env hi ⟨T,c,C,kvs,v5,v6,rfl,k1,k2,k3,k4,k5,k6,k7,k8⟩
    have hio:i<o.length:=by simpa using hi
    rw [List.getElem_map]
    have hk:o[i]<ns.length:=List.mem_range.mp (hperm.mem_iff.mp (List.getElem_mem hio))
    obtain ⟨k,hkk⟩:∃ k,k=o[i]:=⟨_,rfl⟩
    rw [←hkk] at hk ⊢
    have hsk:=hs _ (getD_mem hk)
    obtain ⟨s',es⟩:∃ s':Nat,ns.getD k 0=(s':Int):=⟨(ns.getD k 0).toNat,by omega⟩
    have hdrop:ss.drop i=s'::ss.drop (i+1):=by
     have hi2:i<ss.length:=by rw[hss,List.length_map];exact hio
     rw [List.drop_eq_getElem_cons hi2]
     congr 1
     subst hss
     rw [List.getElem_map,←hkk,es]
     rfl
    rw [hdrop] at k4 k7
    obtain ⟨u1,u2,u3⟩:=k4
    have c1:=DC.pos k3
    have hdc:DC (s'::c::C):=⟨u1,u2,k3⟩
    have hrun:(runC ss [1] 0)[i]? = some (T*(s' / c),s'::c::C):=by
     have:=congrArg (fun l=>l[0]?) k7
     simpa [runC] using this.symm
    have hrun2:runC (ss.drop (i+1)) (s'::c::C) (T*(s' / c)+1)=(runC ss [1] 0).drop (i+1):=by
     have:=congrArg List.tail k7
     rw [List.tail_drop] at this
     exact this
    obtain ⟨b0,l0,eb,few⟩:=hfew _ (List.mem_of_getElem? hrun)
    cases eb
    have bT:T*(s' / c)+1≤100000000000000000000000000000000000000000000:=by
     have h1:W.toNat*s'≤1000*10000000000000000000000000000000000000000:=Nat.mul_le_mul (by omega) (by omega)
     have h2:T*(s' / c)+1≤W.toNat*s':=few
     omega
    walk_at "dx"
    refine ⟨_,(li_atN hk).trans (by rw[es]),?_⟩
    walk_at "dx"
    refine ⟨_,nl_last c C,?_⟩
    walk_at "dx"
    have cl:c≤10000000000000000000000000000000000000001:=k5 c List.mem_cons_self
    have sl:s'≤10000000000000000000000000000000000000001:=by omega
    have dl:s' / c≤s':=Nat.div_le_self _ _
    rw [←Int.natCast_ediv s' c]
    have d0:(0:Int)≤((s' / c:Nat):Int):=Int.natCast_nonneg _
    refine ⟨⟨by omega,Bg.of (by omega) (by omega)⟩,⟨Bg.of (by omega) (by omega),Bg.of (by omega) (by omega)⟩,?_⟩
    rw [←Int.natCast_mul]
    walk_at "dx"
    refine ⟨by rw[sizeLine_eq,show (nl (c::C).reverse).length=C.length+1 by simp[nl]];omega,?_⟩
    rw [show nl (c::C).reverse++[PyData.int s']=nl (s'::c::C).reverse by simp[nl]]
    obtain ⟨T',hT'⟩:∃ T',T'=T*(s' / c):=⟨_,rfl⟩
    rw [←hT'] at hrun hrun2 few bT ⊢
    have ml:T' % s'<s':=Nat.mod_lt _ u1
    walk_at "dx"
    refine ⟨⟨by omega,Bg.of (by omega) (by omega)⟩,by omega,T' % s',s',c::C,by rw[Int.natCast_emod],by rw[List.length_cons];omega,hdc,?_,ml,?_⟩
    ·intro x hx
     rcases List.mem_cons.mp hx with rfl|hx
     ·exact sl
     ·exact k5 x hx
    walk_at "dx"
    refine ⟨rfl,by rw[sizeLine_eq];decide,⟨_,rfl⟩,kvs,rfl,by rw[sizeLine_eq];omega,?_⟩
    walk_at "dx"
    have hnd:o.Nodup:=hperm.nodup_iff.mpr List.nodup_range
    refine ⟨T'+1,s',c::C,setK kvs (k:Int) (.tuple [.int (T' / s':Nat),.int (RN (s'::c::C) (T' % s'):Nat),.int s']),by rw[Int.natCast_ediv],rfl,by omega,Nat.le_trans (setK_len _ _ _) (by omega),by rw[List.length_cons,k2],hdc,u3,?_,bT,hrun2,fun j k' hj hok=>?_⟩
    ·intro x hx
     rcases List.mem_cons.mp hx with rfl|hx
     ·exact sl
     ·exact k5 x hx
    by_cases hji:j=i
    ·subst hji
     rw [List.getElem?_eq_getElem hio] at hok
     injection hok with hok
     have e:k'=k:=by rw[hkk];exact hok.symm
     rw [e]
     exact ⟨T',s',c::C,hrun,es.symm,by rw[getK_set,if_pos rfl]⟩
    ·obtain ⟨Tj,s,l,r1,r2,r3⟩:=k8 j k' (by omega) hok
     refine ⟨Tj,s,l,r1,r2,?_⟩
     rw [getK_set,if_neg ?_]
     ·exact r3
     ·intro z
      have e:k'=k:=Int.ofNat.inj z
      have hjo:j<o.length:=by omega
      refine hji ((List.getElem?_inj hjo hnd).mp ?_)
      rw [hok,List.getElem?_eq_getElem hio,e,hkk]
   ·rintro env ⟨T,c,C,kvs,v5,v6,rfl,k1,k2,k3,k4,k5,k6,k7,k8⟩
    walk_at "dx"
    have hlm:(List.map (fun i=>PyData.int ((i:Nat):Int)) o).length=ns.length:=by rw[List.length_map,hlo]
    rw [hlm] at k8
    obtain ⟨f,hf⟩:=Classical.axiomOfChoice (r:=fun k (e:Nat×Nat×Nat×List Nat)=>k<ns.length→EntOk ns o ss k e∧getK kvs (k:Int)=some (pE (entE e))) fun k=>by
     by_cases hk:k<ns.length
     ·have hm:k∈o:=hperm.mem_iff.mpr (List.mem_range.mpr hk)
      obtain ⟨j,hj,e⟩:=List.getElem_of_mem hm
      have e':o[j]? = some k:=by rw[List.getElem?_eq_getElem hj,e]
      obtain ⟨Tj,s,l,r1,r2,r3⟩:=k8 j k (by omega) e'
      exact ⟨(j,Tj,s,l),fun _=>⟨⟨e',r1,r2⟩,r3⟩⟩
     ·exact ⟨(0,0,0,[]),fun z=>absurd z hk⟩
    rw [hln]
    refine ⟨by omega +splitDisjunctions,by omega +splitDisjunctions,cd_map (fun k=>pE (entE (f k))) (by rw[rangeD_len];omega) (fun i hi Q hQ=>?_) ?_⟩
    ·rw [rangeD_len] at hi
     rw [rangeD_get]
     walk_at "dx"
     exact ⟨kvs,rfl,_,(hf i (by omega)).2,hQ⟩
    ·rw [rangeD_len]
     walk_at "dx"
     have:=(q (hb.mp rfl) d hd).2 hc _ (ent_ok w0 (fun x hx=>(hs x hx).1) huc hfew fun k hk=>(hf k hk).1)
     rw [show (lE ((List.range ns.length).map fun k=>entE (f k)))=(List.range ((ns.length:Nat):Int).toNat).map fun k=>pE (entE (f k)) by simp only [List.map_map,Int.toNat_natCast];rfl] at this
     exact this
noncomputable abbrev s__law_even_fits:Stmt:=top 16
theorem sc__law_even_fits:FnScope ["_law_spans", "_law_winders", "_law_even", "_law_k", "_law_winder", "_law_rest", "_law_step", "_law_other", "_law_other_rest", "_law_other_step"] ["_law_spans", "_law_winders", "_law_even"] (defScope s__law_even_fits):=⟨rfl,rfl,rfl,by decide +kernel,rfl,by decide +kernel,by decide +kernel⟩
noncomputable def spFits:DSp:=fun ss R=>∃ (sp:List Int) (w:Int) (es:List Ev),ss=[.fr (.list (li sp)),.fr (.int w),.fr (.list (lE es))]∧sp.length≤1000∧es.length≤1000∧∀ b:Bool,(b=true↔EvOk sp w es)→R (.fr (.bool b)) [.un,.un,.un]
theorem bi__law_even_fits {f:Addr}{fd:FuncData} (F:Fun K "_law_even_fits" "_law_even_fits" s__law_even_fits f fd):Binds K fd ["_law_spans", "_law_winders", "_law_even"] []:=F.binds (ps:=["_law_spans", "_law_winders", "_law_even"]) fun _ _ _ _ _ _ us hl=>us3 (Q:=fun us=>bindArgs _ ⟨us,[]⟩=pure (List.zip _ us)) hl fun _ _ _=>rfl
theorem ok__law_even_fits {f:Addr}{fd:FuncData} (F:Fun K "_law_even_fits" "_law_even_fits" s__law_even_fits f fd) (B:Bn mg) (G__law_divisor:Cal P w K mg base "_law_divisor" 1 (spD K spGcd)):FnOk P w K mg base CX0 2 f fd ["_law_spans", "_law_winders", "_law_even"] (spD K spFits):=by
 refine okD (k:=1) F sc__law_even_fits (fun ss R h=>?_) (by decide) (fun cdv A outer s H E hr=>⟨_,(qs_cons (q_if (qt_cmp op_ne mNeI (q_cb (kLen (K:=K) rfl) mLen rfl B.len PySem.boot_len (qa_cons (qv 2) qa_nil)) (q_cb (kLen (K:=K) rfl) mLen rfl B.len PySem.boot_len (qa_cons (qv 0) qa_nil)) (nomark _)) (qs_one (q_ret q_bl)) qs_nil)
   (qs_cons (q_for PassesOwn.never rfl (qi_rng1 rfl B.range (qa_cons (q_cb (kLen (K:=K) rfl) mLen rfl B.len PySem.boot_len (qa_cons (qv 2) qa_nil)) qa_nil)) (qg_name (i:=3) sc__law_even_fits.nd rfl (Or.inl rfl)) (qs_cons (q_asg (q_ix (ix_any (K:=K) rfl) mIx (qv 2) (qv 3) (fun _ _=>rfl)) (qg_tup (K:=K) (n:=3) rfl rfl (qgs_cons (qg_name (i:=4) sc__law_even_fits.nd rfl (Or.inl rfl)) (qgs_cons (qg_name (i:=5) sc__law_even_fits.nd rfl (Or.inl rfl)) (qgs_cons (qg_name (i:=6) sc__law_even_fits.nd rfl (Or.inl rfl)) qgs_nil)))))
   (qs_cons (q_if (PW.pt (qw_or (qt_cmp op_lt mB (qv 4) q_int (nomark _)) (qw_or (qt_cmp op_ge mB (qv 4) (qv 1) (nomark _)) (qw_or (qt_cmp op_lt mB (qv 6) q_int (nomark _)) (qw_or (qt_cmp op_gt mB (qv 6) (q_ix (ix_any (K:=K) rfl) mIx (qv 0) (qv 3) (fun _ _=>rfl)) (nomark _)) (qw_or (qt_cmp op_lt mB (qv 5) q_int (nomark _)) (qw_or1 (qt_cmp op_ge mB (qv 5) (qv 6) (nomark _))))))))) (qs_one (q_ret q_bl)) qs_nil)
   (qs_one (q_for PassesOwn.never rfl (qi_list (K:=K) rfl (q_slL (K:=K) rfl (qv 2) qo_none (qo_some (qv 3)))) (qg_tup (K:=K) (n:=3) rfl rfl (qgs_cons (qg_name (i:=7) sc__law_even_fits.nd rfl (Or.inl rfl)) (qgs_cons (qg_name (i:=8) sc__law_even_fits.nd rfl (Or.inl rfl)) (qgs_cons (qg_name (i:=9) sc__law_even_fits.nd rfl (Or.inl rfl)) qgs_nil)))) (qs_one (q_if (PW.pt (qw_and (qt_cmp op_eq mEqI (qv 7) (qv 4) (nomark _)) (qw_and1 (qt_cmp op_eq mEqI (q_op op_mod mIC (q_op op_sub mI (qv 5) (qv 8)) (q_call G__law_divisor (hr.mono (by decide)) rfl (qa_cons (qf 6) (qa_cons (qf 9) qa_nil)))) q_int (nomark _))))) (qs_one (q_ret q_bl)) qs_nil)))))))
   (qs_one (q_ret q_bl)))),fun ss R h=>?_⟩)
 ·obtain ⟨sp,w,es,rfl,_⟩:=h
  rfl
 obtain ⟨sp,w',es,rfl,hl1,hl2,q⟩:=h
 walk_at "dd"
 rw [List.length_map,List.length_map]
 refine ite2 (fun c=>q false ⟨fun z=>(nomatch z),fun z=>absurd z.len (by omega)⟩) (fun c=>?_)
 have hl:es.length=sp.length:=by omega
 refine ⟨by omega,by omega,fd_intro (fun i env=>∃ (a b c d e f g:Sl),env=[.fr (.list (li sp)),.fr (.int w'),.fr (.list (lE es)),a,b,c,d,e,f,g] ∧
  (∀ k,k<i→partB (es.getD k (0,0,0)) (sp.getD k 0) w'=true)∧∀ k,k<i→∀ j,j<k→¬Cl (es.getD k (0,0,0)) (es.getD j (0,0,0))) ⟨_,_,_,_,_,_,_,rfl,fun k hk=>absurd hk (Nat.not_lt_zero _),fun k hk=>absurd hk (Nat.not_lt_zero _)⟩ ?_ ?_⟩
 ·rintro i env hi ⟨a1,b1,c1,d1,e1,f1,g1,rfl,hp,ha⟩
  rw [rangeD_len] at hi
  have hi:i<es.length:=by omega
  rw [rangeD_get]
  walk_at "dd"
  refine ⟨_,atI_map pE es (0,0,0) hi,?_⟩
  have bad:partB (es.getD i (0,0,0)) (sp.getD i 0) w'=false→R (.fr (.bool false)) [.un,.un,.un]:=fun h=>q false ⟨fun z=>(nomatch z),fun z=>by
   rw [z.part i hi] at h
   cases h⟩
  have clash:∀ j,j<i→Cl (es.getD i (0,0,0)) (es.getD j (0,0,0))→R (.fr (.bool false)) [.un,.un,.un]:=fun j hj h=>q false ⟨fun z=>(nomatch z),fun z=>absurd h (z.apart i hi j hj)⟩
  generalize he:es.getD i (0,0,0)=e at *
  walk_at "dd"
  unfold partB at bad
  refine ite2 (fun c=>bad (decide_eq_false (by omega))) fun k1=>ite2 (fun c=>bad (decide_eq_false (by omega))) fun k2=>ite2 (fun c=>bad (decide_eq_false (by omega))) fun k3=>⟨_,atI_li (by omega),?_⟩
  walk_at "dd"
  refine ite2 (fun c=>bad (decide_eq_false (by omega))) fun k4=>ite2 (fun c=>bad (decide_eq_false (by omega))) fun k5=>ite2 (fun c=>bad (decide_eq_false (by omega))) fun k6=>?_
  have good:partB e (sp.getD i 0) w'=true:=by
   unfold partB
   rw [decide_eq_true_eq]
   omega
  have ec:cutD (lE es) none (some ((i:Nat):Int))=lE (es.take i):=by
   unfold cutD
   have e:HT.sIx (lE es).length (lE es).length (some ((i:Nat):Int))=min i (lE es).length:=HT.sIx_nat _ _ i
   rw [e,HT.sIx_none,List.length_map,List.drop_zero,Nat.sub_zero,Nat.min_eq_left (by omega)]
   simp [List.map_take]
  rw [ec]
  refine fd_intro (fun j env=>∃ (x y z:Sl),env=[.fr (.list (li sp)),.fr (.int w'),.fr (.list (lE es)),.fr (.int i),.fr (.int e.1),.fr (.int e.2.1),.fr (.int e.2.2),x,y,z]∧∀ j',j'<j→¬Cl e (es.getD j' (0,0,0))) ⟨_,_,_,rfl,fun j hj=>absurd hj (Nat.not_lt_zero _)⟩ ?_ ?_
  ·rintro j env hj ⟨x,y,z,rfl,hc⟩
   rw [List.length_map,List.length_take] at hj
   rw [lE_get (by rw[List.length_take];omega)]
   have et:(es.take i).getD j (0,0,0)=es.getD j (0,0,0):=by
    rw [List.getD_eq_getElem?_getD,List.getD_eq_getElem?_getD,List.getElem?_take,if_pos (by omega)]
   rw [et]
   have cj:=clash j (by omega)
   have pj:=hp j (by omega)
   unfold partB at pj
   rw [decide_eq_true_eq] at pj
   generalize hf:es.getD j (0,0,0)=f at *
   walk_at "dd"
   refine ite2 (fun c=>?_) (fun c=>?_)
   ·refine ⟨_,_,rfl,by omega,by omega,?_⟩
    walk_at "dd"
    have gf:=(gcd_facts (s:=e.2.2) (s':=f.2.2) (by omega)).1
    refine ⟨gf,ite2 (fun c'=>cj ⟨c.symm,c'⟩) (fun c' j' hj'=>?_)⟩
    by_cases ej:j'=j
    ·subst ej
     rw [hf]
     exact fun z=>c' z.2
    ·exact hc j' (by omega)
   ·intro j' hj'
    by_cases ej:j'=j
    ·subst ej
     rw [hf]
     exact fun z=>c z.1.symm
    ·exact hc j' (by omega)
  ·rintro env ⟨x,y,z,rfl,hc⟩
   rw [List.length_map,List.length_take,Nat.min_eq_left (by omega)] at hc
   refine ⟨_,_,_,_,_,_,_,rfl,fun k hk=>?_,fun k hk j hj=>?_⟩
   ·by_cases ek:k=i
    ·subst ek
     rw [he]
     exact good
    ·exact hp k (by omega)
   ·by_cases ek:k=i
    ·subst ek
     rw [he]
     exact hc j hj
    ·exact ha k (by omega) j hj
 ·rintro env ⟨a1,b1,c1,d1,e1,f1,g1,rfl,hp,ha⟩
  rw [rangeD_len] at hp ha
  walk_at "dd"
  exact q true ⟨fun _=>⟨hl,fun k hk=>hp k (by omega),fun k hk=>ha k (by omega)⟩,fun _=>rfl⟩
noncomputable def Bd (l:List Int):Prop:=∀ x∈l,0≤x∧x<2147483587
theorem mem_dropLast' {l:List Int}{x:Int} (h:x∈l.dropLast):x∈l:=by
 rw [List.dropLast_eq_take] at h
 exact List.mem_of_mem_take h
theorem Bd.drop {l:List Int} (h:Bd l):Bd l.dropLast:=fun x hx=>h x (mem_dropLast' hx)
theorem Bd.pop {l:List Int} (h:Bd l):0≤popV l∧popV l<2147483587:=by
 unfold popV
 rw [List.getLastD_eq_getLast?]
 cases e:l.getLast? with
 | none=>exact⟨Int.le_refl 0,by decide⟩
 | some x=>exact h x (List.mem_of_getLast? e)
noncomputable abbrev s__law_is_chain:Stmt:=top 19
theorem sc__law_is_chain:FnScope ["_law_spans", "_law_one", "_law_other"] ["_law_spans"] (defScope s__law_is_chain):=⟨rfl,rfl,rfl,by decide +kernel,rfl,by decide +kernel,by decide +kernel⟩
noncomputable def spIsC:DSp:=fun ss R=>∃ ns:List Int,ss=[.fr (.list (li ns))]∧ns.length≤40∧Sps ns∧∀ b:Bool,(b=true↔Chn ns)→R (.fr (.bool b)) [.un]
theorem bi__law_is_chain {f:Addr}{fd:FuncData} (F:Fun K "_law_is_chain" "_law_is_chain" s__law_is_chain f fd):Binds K fd ["_law_spans"] []:=F.binds (ps:=["_law_spans"]) fun _ _ _ _ _ _ us hl=>us1 (Q:=fun us=>bindArgs _ ⟨us,[]⟩=pure (List.zip _ us)) hl fun _=>rfl
theorem ok__law_is_chain {f:Addr}{fd:FuncData} (F:Fun K "_law_is_chain" "_law_is_chain" s__law_is_chain f fd) (B:Bn mg):FnOk P w K mg base CX0 1 f fd ["_law_spans"] (spD K spIsC):=by
 refine okD (k:=0) F sc__law_is_chain (fun ss R h=>?_) (by decide) (fun cdv A outer s H E hr=>⟨_,(qs_cons (q_for PassesOwn.never rfl (qi_list (K:=K) rfl (qf 0)) (qg_name (i:=1) sc__law_is_chain.nd rfl (Or.inl rfl)) (qs_one (q_for PassesOwn.never rfl (qi_list (K:=K) rfl (qf 0)) (qg_name (i:=2) sc__law_is_chain.nd rfl (Or.inl rfl)) (qs_one (q_if (PW.pt (qw_and (qt_cmp op_ne mNeI (q_op op_mod mIC (qv 1) (qv 2)) q_int (nomark _)) (qw_and1 (qt_cmp op_ne mNeI (q_op op_mod mIC (qv 2) (qv 1)) q_int (nomark _))))) (qs_one (q_ret q_bl)) qs_nil)))))
   (qs_one (q_ret q_bl))),fun ss R h=>?_⟩)
 ·obtain ⟨ns,rfl,_⟩:=h
  rfl
 obtain ⟨ns,rfl,hl,hs,q⟩:=h
 walk_at "dd"
 refine fd_intro (fun i env=>∃ a b:Sl,env=[.fr (.list (li ns)),a,b]∧∀ k,k<i→∀ y∈ns,ns.getD k 0∣y∨y∣ns.getD k 0) ⟨_,_,rfl,fun k hk=>absurd hk (Nat.not_lt_zero _)⟩ ?_ ?_
 ·rintro i env hi ⟨a,b,rfl,h1⟩
  have hi':i<ns.length:=by simpa using hi
  rw [li_get]
  have px:=hs _ (getD_mem hi')
  have hx:=getD_mem hi'
  generalize hxx:ns.getD i 0=x at *
  walk_at "dd"
  refine fd_intro (fun j env=>∃ b:Sl,env=[.fr (.list (li ns)),.fr (.int x),b]∧∀ k,k<j→x∣ns.getD k 0∨ns.getD k 0∣x) ⟨_,rfl,fun k hk=>absurd hk (Nat.not_lt_zero _)⟩ ?_ ?_
  ·rintro j env hj ⟨b,rfl,h2⟩
   have hj':j<ns.length:=by simpa using hj
   rw [li_get]
   have py:=hs _ (getD_mem hj')
   have hy:=getD_mem hj'
   generalize hyy:ns.getD j 0=y at *
   walk_at "dd"
   have ext:(x∣y∨y∣x)→∀ k,k<j+1→x∣ns.getD k 0∨ns.getD k 0∣x:=fun h k hk=>by
    by_cases e:k=j
    ·rw [e,hyy];exact h
    ·exact h2 k (by omega)
   refine ⟨by omega,ite2 (fun c=>⟨by omega,ite2 (fun c'=>q false ⟨fun z=>(nomatch z),fun z=>?_⟩) fun c'=>ext (.inl ?_)⟩) fun c=>ext (.inr ?_)⟩
   ·rcases z x hx y hy with d|d
    ·exact absurd (Int.emod_eq_zero_of_dvd d) c'
    ·exact absurd (Int.emod_eq_zero_of_dvd d) c
   ·exact Int.dvd_of_emod_eq_zero (Decidable.byContradiction c')
   ·exact Int.dvd_of_emod_eq_zero (Decidable.byContradiction c)
  ·rintro env ⟨b,rfl,h2⟩
   rw [List.length_map] at h2
   walk_at "dd"
   refine fun k hk y hy=>?_
   by_cases e:k=i
   ·subst e
    obtain ⟨m,hm,rfl⟩:=mem_getD hy
    rw [hxx]
    exact h2 m hm
   ·exact h1 k (by omega) y hy
 ·rintro env ⟨a,b,rfl,h1⟩
  rw [List.length_map] at h1
  walk_at "dd"
  refine q true ⟨fun _ x hx y hy=>?_,fun _=>rfl⟩
  obtain ⟨m,hm,rfl⟩:=mem_getD hx
  exact h1 m hm y hy
noncomputable abbrev s__law_is_even_told:Stmt:=top 17
theorem sc__law_is_even_told:FnScope ["_law_found", "_law_one"] ["_law_found"] (defScope s__law_is_even_told):=⟨rfl,rfl,rfl,by decide +kernel,rfl,by decide +kernel,by decide +kernel⟩
noncomputable def spTold:DSp:=fun ss R=>∃ es:List Ev,ss=[.fr (.list (lE es))]∧es.length≤1000∧R (.fr (.bool true)) [.un]
theorem bi__law_is_even_told {f:Addr}{fd:FuncData} (F:Fun K "_law_is_even_told" "_law_is_even_told" s__law_is_even_told f fd):Binds K fd ["_law_found"] []:=F.binds (ps:=["_law_found"]) fun _ _ _ _ _ _ us hl=>us1 (Q:=fun us=>bindArgs _ ⟨us,[]⟩=pure (List.zip _ us)) hl fun _=>rfl
theorem ok__law_is_even_told {f:Addr}{fd:FuncData} (F:Fun K "_law_is_even_told" "_law_is_even_told" s__law_is_even_told f fd) (B:Bn mg):FnOk P w K mg base CX0 1 f fd ["_law_found"] (spD K spTold):=by
 refine okD (k:=0) F sc__law_is_even_told (fun ss R h=>?_) (by decide) (fun cdv A outer s H E hr=>⟨_,(qs_cons (q_if (qt_not (qt_val (q_isT (K:=K) rfl kit_list rfl B.isinstance rfl B.list PyProof.Rows.boot_list (qv 0)))) (qs_one (q_ret q_bl)) qs_nil)
   (qs_cons (q_for PassesOwn.never rfl (qi_list (K:=K) rfl (qf 0)) (qg_name (i:=1) sc__law_is_even_told.nd rfl (Or.inl rfl)) (qs_cons (q_if (PW.pt (qw_or (qt_not (qt_val (q_isT (K:=K) rfl kit_tuple rfl B.isinstance rfl B.tuple PyProof.Rows.boot_tuple (qv 1)))) (qw_or1 (qt_cmp op_ne mNeI (q_cb (kLen (K:=K) rfl) mLen rfl B.len PySem.boot_len (qa_cons (qv 1) qa_nil)) q_int (nomark _))))) (qs_one (q_ret q_bl)) qs_nil)
   (qs_one (q_if (qt_cmp (kNeD (K:=K) rfl hr.units) mNe (q_comp (N':=["_law_number"]) (ix:=[none]) rfl (bs_of (N:=["_law_found", "_law_one"]) (sc0:=defScope s__law_is_even_told) rfl rfl (by decide +kernel)) (qi_tup (K:=K) rfl (qf 1)) (fun _ _ _ _=>(qg_name (i:=0) (show List.Nodup (["_law_number"]:List Str) by decide +kernel) rfl (Or.inl rfl))) (fun _ _ _ _=>(qif_one (PW.pt (qw_or (qt_not (qt_val (q_isT (K:=K) rfl kit_int rfl B.isinstance rfl B.int PyProof.Rows.boot_int (qv 0)))) (qw_or1 (qt_val (q_isT (K:=K) rfl kit_bool rfl B.isinstance rfl B.bool PyProof.Rows.boot_bool (qv 0)))))))) (fun _ _ _ _=>(qf 0))) (q_lst qa_nil) (nomark _)) (qs_one (q_ret q_bl)) qs_nil))))
   (qs_one (q_ret q_bl)))),fun ss R h=>?_⟩)
 ·obtain ⟨es,rfl,_⟩:=h
  rfl
 obtain ⟨es,rfl,hl,q⟩:=h
 walk_at "dd"
 refine fd_intro (fun i env=>∃ a:Sl,env=[.fr (.list (lE es)),a]) ⟨_,rfl⟩ ?_ ?_
 ·rintro i env hi ⟨a,rfl⟩
  rw [List.length_map] at hi
  rw [lE_get hi]
  generalize es.getD i (0,0,0)=e
  walk_at "dd"
  refine cd_filter (fun _=>false) (fun _=>.none) (by simp) (fun i hi Q Q' _ hQ=>?_) ?_
  ·have hi3:i<3:=hi
   obtain ⟨n,en⟩:∃ n:Int,[PyData.int e.1,PyData.int e.2.1,PyData.int e.2.2][i]=.int n:=by
    rcases (show i=0∨i=1∨i=2 by omega) with rfl|rfl|rfl
    ·exact ⟨_,rfl⟩
    ·exact ⟨_,rfl⟩
    ·exact ⟨_,rfl⟩
   rw [en]
   walk_at "dd"
   exact hQ rfl
  ·rw [show ((List.range [PyData.int e.1,PyData.int e.2.1,PyData.int e.2.2].length).filter fun _=>false)=[] from List.filter_eq_nil_iff.mpr fun _ _=>by simp]
   walk_at "dd"
   have sh:shp (.list (li [])):=(Sh.ints 0 []).shp (by decide)
   refine ⟨Nat.zero_le _,sh,sh,?_⟩
   rw [if_neg (by rw[show PyData.list []=PyData.list (li []) from rfl,eqv_li];simp)]
   trivial
 ·rintro env ⟨a,rfl⟩
  walk_at "dd"
  exact q
noncomputable abbrev s__law_chain:Stmt:=top 18
theorem sc__law_chain:FnScope ["_law_draws_here", "_law_number", "_law_spans", "_law_k", "_law_one"] ["_law_draws_here"] (defScope s__law_chain):=⟨rfl,rfl,rfl,by decide +kernel,rfl,by decide +kernel,by decide +kernel⟩
noncomputable def spLChn:DSp:=fun ss R=>∃ ds:List Int,ss=[.io (li ds)]∧Bd ds∧∀ sp l:List Int,Bd l→1≤sp.length→sp.length≤24→(∀ x∈sp,1≤x∧x≤100000000000000000000000000000000000)→R (.ow (li sp)) [.io (li l)]
theorem psOf {X:Cx}{l l':List Stmt}{t:TS} (h:l=l') (p:PSs X l' t):PSs X l t:=by rw[h];exact p
theorem star_bin {a b:Expr}{o:Operator}{p:Pos}{es:List Expr}{env:Env}:starEach (.BinOp a o b p::es) env=(false,eval (.BinOp a o b p) env)::starEach es env:=rfl
theorem star_sub {a b:Expr}{p:Pos}{es:List Expr}{env:Env}:starEach (.Subscript a b p::es) env=(false,eval (.Subscript a b p) env)::starEach es env:=rfl
theorem star_con {c:Const}{k:Nat}{p:Pos}{es:List Expr}{env:Env}:starEach (.Constant c k p::es) env=(false,eval (.Constant c k p) env)::starEach es env:=rfl
@[irreducible] noncomputable def lsC:List Expr:=match (defBody s__law_chain).getD 1 (.Pass ⟨0,0,0,0⟩) with
 | .Assign _ (.List [.Subscript (.List es _) _ _] _) _=>es
 | _=>[]
@[irreducible] noncomputable def lsP:Expr:=.BinOp (.Constant (.int 10) 0 ⟨97,31,97,33⟩) .Pow (.Constant (.int 20) 0 ⟨97,37,97,39⟩) ⟨97,31,97,39⟩
theorem lsC_eq:lsC=[.Constant (.int 1) 0 ⟨97,19,97,20⟩,.Constant (.int 2) 0 ⟨97,22,97,23⟩,.Constant (.int 3) 0 ⟨97,25,97,26⟩,.Constant (.int 5) 0 ⟨97,28,97,29⟩,.BinOp lsP .Add (.Constant (.int 7) 0 ⟨97,42,97,43⟩) ⟨97,31,97,43⟩]:=by unfold lsC lsP;rfl
theorem pe_C {X:Cx}:PE X lsP (up K (dOp (gIC CPow fun i j=>i ^ j.toNat) (dC (.int 10)) (dC (.int 20)))):=by
 unfold lsP
 exact q_op op_pow mIC q_int q_int
theorem pa_C {X:Cx}:PA X lsC (upA K (dCons (dC (.int 1)) (dCons (dC (.int 2)) (dCons (dC (.int 3)) (dCons (dC (.int 5)) (dCons (dOp (gI HAdd.hAdd) (dOp (gIC CPow fun i j=>i ^ j.toNat) (dC (.int 10)) (dC (.int 20))) (dC (.int 7))) dNil)))))):=by
 rw [lsC_eq]
 exact qa_cons q_int (qa_cons q_int (qa_cons q_int (qa_cons q_int (qa_cons (q_op op_add mI pe_C q_int) qa_nil star_bin) star_con) star_con) star_con) star_con
theorem hb_C:defBody s__law_chain=(defBody s__law_chain).getD 0 (.Pass ⟨0,0,0,0⟩)::.Assign [.Name "_law_spans" ⟨97,4,97,14⟩] (.List [.Subscript (.List lsC ⟨97,18,97,44⟩) (.BinOp (.Name "_law_number" ⟨97,45,97,56⟩) .Mod (.Constant (.int 5) 0 ⟨97,59,97,60⟩) ⟨97,45,97,60⟩) ⟨97,18,97,61⟩] ⟨97,17,97,62⟩) ⟨97,4,97,62⟩::(defBody s__law_chain).drop 2:=by
 rw [lsC_eq]
 unfold lsP
 rfl
theorem bi__law_chain {f:Addr}{fd:FuncData} (F:Fun K "_law_chain" "_law_chain" s__law_chain f fd):Binds K fd ["_law_draws_here"] []:=F.binds (ps:=["_law_draws_here"]) fun _ _ _ _ _ _ us hl=>us1 (Q:=fun us=>bindArgs _ ⟨us,[]⟩=pure (List.zip _ us)) hl fun _=>rfl
theorem ok__law_chain {f:Addr}{fd:FuncData} (F:Fun K "_law_chain" "_law_chain" s__law_chain f fd) (B:Bn mg) (G__law_pop:Cal P w K mg base "_law_pop" 1 (spD K spPop)):FnOk P w K mg base CX0 2 f fd ["_law_draws_here"] (spD K spLChn):=by
 refine okD (k:=1) F sc__law_chain (fun ss R h=>?_) (by decide) (fun cdv A outer s H E hr=>⟨_,(psOf hb_C (qs_cons (q_set (i:=1) sc__law_chain.nd rfl (Or.inl rfl) (q_callS 0 G__law_pop (hr.mono (by decide)) rfl (qa_cons (qv 0) qa_nil)))
   (qs_cons (q_set (i:=2) sc__law_chain.nd rfl (Or.inl rfl) (q_lst (qa_cons (q_ix (ix_any (K:=K) rfl) mIx (q_lst pa_C) (q_op op_mod mIC (qv 1) q_int) (fun _ _=>rfl)) qa_nil star_sub)) sw_list)
   (qs_cons (q_for PassesOwn.never rfl (qi_rng1 rfl B.range (qa_cons (q_op op_mod mIC (q_op op_fdiv mIC (qv 1) q_int) (q_ix (ix_any (K:=K) rfl) mIx (q_lst (qa_cons q_int (qa_cons q_int (qa_cons q_int (qa_cons q_int qa_nil))))) (q_op op_mod mIC (q_op op_fdiv mIC (qv 1) q_int) q_int) (fun _ _=>rfl))) qa_nil)) (qg_name (i:=3) sc__law_chain.nd rfl (Or.inl rfl)) (qs_cons (q_set (i:=4) sc__law_chain.nd rfl (Or.inl rfl) (q_callS 0 G__law_pop (hr.mono (by decide)) rfl (qa_cons (qv 0) qa_nil)))
   (qs_one (q_expr (q_ins 2 (K:=K) rfl rfl (qa_cons (q_op op_mod mIC (q_op op_fdiv mIC (qv 4) q_int) (q_op op_add mI (q_cb (kLen (K:=K) rfl) mLen rfl B.len PySem.boot_len (qa_cons (qv 2) qa_nil)) q_int)) (qa_cons (q_op op_mulB mIC (q_cb (call_maxL (K:=K) rfl rfl) mMaxL rfl B.max PyProof.Rows.boot_max (qa_cons (qv 2) qa_nil)) (q_ix (ix_any (K:=K) rfl) mIx (q_ints (ns:=[1,1,2,2,3,4]) rfl (by decide)) (q_op op_mod mIC (qv 4) q_int) (fun _ _=>rfl))) qa_nil)))))))
   (qs_one (q_ret (qv 2))))))),fun ss R h=>?_⟩)
 ·obtain ⟨ds,rfl,_⟩:=h
  rfl
 obtain ⟨ds,rfl,bd,q⟩:=h
 walk_at "dd"
 refine ⟨ds,rfl,?_⟩
 have n0:=bd.pop
 have bd1:=bd.drop
 generalize popV ds=num at *
 generalize ds.dropLast=l1 at *
 walk_at "dd"
 obtain ⟨k,ek,hk⟩:=place (x:=num) (n:=5) (by decide)
 have ek:num % 5=(k:Int):=ek
 obtain ⟨k2,ek2,hk2⟩:=place (x:=num / 30) (n:=4) (by decide)
 have ek2:num / 30 % 4=(k2:Int):=ek2
 rw [ek,ek2]
 refine ⟨cpow10 (by decide) (by decide),Nat.le_trans (by decide) line_big,by decide,_,atI_li (ns:=[1,2,3,5,10 ^ Int.toNat 20+7]) hk,Nat.le_trans (by decide) line_big,⟨by decide,by decide⟩,Nat.le_trans (by decide) line_big,⟨by decide,by decide⟩,by decide,_,atI_li (ns:=[6,6,6,24]) hk2,_,rfl,?_⟩
 have x0:1≤List.getD [(1:Int),2,3,5,10 ^ Int.toNat 20+7] k 0∧List.getD [(1:Int),2,3,5,10 ^ Int.toNat 20+7] k 0≤100000000000000000007:=by
  rcases (show k=0∨k=1∨k=2∨k=3∨k=4 by omega) with rfl|rfl|rfl|rfl|rfl <;> decide
 have y0:1≤List.getD [(6:Int),6,6,24] k2 0∧List.getD [(6:Int),6,6,24] k2 0≤24:=by
  rcases (show k2=0∨k2=1∨k2=2∨k2=3 by omega) with rfl|rfl|rfl|rfl <;> decide
 generalize List.getD [(1:Int),2,3,5,10 ^ Int.toNat 20+7] k 0=x at *
 generalize List.getD [(6:Int),6,6,24] k2 0=y at *
 have m0:=Int.emod_nonneg (num / 5) (show y≠0 by omega)
 have m1:=Int.emod_lt_of_pos (num / 5) (show 0<y by omega)
 generalize num / 5 % y=m at *
 refine ⟨by omega,by omega,by omega,fd_intro (fun i env=>∃ (sp l:List Int) (a b:Sl),env=[.io (li l),.fr (.int num),.ow (li sp),a,b]∧Bd l∧sp.length=i+1∧∀ x∈sp,1≤x∧x≤100000000000000000007*4 ^ i) ⟨[x],l1,_,_,rfl,bd1,rfl,fun z hz=>?_⟩ ?_ ?_⟩
 ·rw [List.mem_singleton.mp hz]
  exact ⟨x0.1,by rw[Int.pow_zero];omega⟩
 ·rintro i env hi ⟨sp,l,a,b,rfl,bl,hl,hs⟩
  rw [rangeD_len] at hi
  rw [rangeD_get]
  walk_at "dd"
  refine ⟨l,rfl,?_⟩
  have o0:=bl.pop
  have bl2:=bl.drop
  generalize popV l=one at *
  generalize l.dropLast=l2 at *
  walk_at "dd"
  obtain ⟨k3,ek3,hk3⟩:=place (x:=one) (n:=6) (by decide)
  have ek3:one % 6=(k3:Int):=ek3
  obtain ⟨k4,ek4,hk4⟩:=place (x:=one / 30) (n:=sp.length+1) (by omega)
  rw [show (((sp.length+1:Nat):Int))=(sp.length:Int)+1 from rfl] at ek4
  rw [ek3,show (li sp).length=sp.length from List.length_map ..,ek4]
  have z0:1≤List.getD [(1:Int),1,2,2,3,4] k3 0∧List.getD [(1:Int),1,2,2,3,4] k3 0≤4:=by
   rcases (show k3=0∨k3=1∨k3=2∨k3=3∨k3=4∨k3=5 by omega) with rfl|rfl|rfl|rfl|rfl|rfl <;> decide
  have pw0:(1:Int)≤4 ^ i:=by
   have h1:1≤4 ^ i:=Nat.one_le_pow _ _ (by decide)
   have h2:((4 ^ i:Nat):Int)=(4:Int) ^ i:=by simp
   omega
  have pw1:(4:Int) ^ i≤4 ^ 23:=by
   have h1:(4:Nat) ^ i≤4 ^ 23:=Nat.pow_le_pow_right (by decide) (by omega)
   have h2:((4 ^ i:Nat):Int)=(4:Int) ^ i:=by simp
   have h3:((4 ^ 23:Nat):Int)=(4:Int) ^ 23:=by simp
   omega
  have pw2:(4:Int) ^ 23=70368744177664:=by decide
  refine ⟨⟨by decide,by decide⟩,by omega,fun z=>by rw[z] at hl;simp at hl,fun mx hm _=>⟨by decide,_,atI_li (ns:=[1,1,2,2,3,4]) hk3,_,rfl,?_⟩⟩
  generalize List.getD [(1:Int),1,2,2,3,4] k3 0=t at *
  have bm:=hs mx hm
  have l1:1≤mx*t:=by
   have:=Int.mul_le_mul bm.1 z0.1 (by omega) (by omega)
   omega
  have l2':mx*t≤100000000000000000007*4 ^ (i+1):=by
   have:=Int.mul_le_mul bm.2 z0.2 (by omega) (by omega)
   rw [Int.pow_succ]
   omega
  refine ⟨⟨Bg.of (by omega) (by omega),Bg.of (by omega) (by omega)⟩,k4,rfl,by omega,Nat.lt_of_lt_of_le (by omega) line_big,sp.take k4++mx*t::sp.drop k4,l2,rfl,by simp[List.map_take,List.map_drop],bl2,by simp;omega,fun z hz=>?_⟩
  have old:∀ z∈sp,1≤z∧z≤100000000000000000007*4 ^ (i+1):=fun z hz=>by
   have:=hs z hz
   rw [Int.pow_succ]
   omega
  rcases List.mem_append.mp hz with hz|hz
  ·exact old z (List.mem_of_mem_take hz)
  ·rcases List.mem_cons.mp hz with rfl|hz
   ·exact ⟨l1,l2'⟩
   ·exact old z (List.mem_of_mem_drop hz)
 ·rintro env ⟨sp,l,a,b,rfl,bl,hl,hs⟩
  rw [rangeD_len] at hl hs
  walk_at "dd"
  refine q sp l bl (by omega) (by omega) fun x hx=>?_
  have:=hs x hx
  have p:(4:Int) ^ m.toNat≤4 ^ 23:=by
   have h1:(4:Nat) ^ m.toNat≤4 ^ 23:=Nat.pow_le_pow_right (by decide) (by omega)
   have h2:((4 ^ m.toNat:Nat):Int)=(4:Int) ^ m.toNat:=by simp
   have h3:((4 ^ 23:Nat):Int)=(4:Int) ^ 23:=by simp
   omega
  have p2:(4:Int) ^ 23=70368744177664:=by decide
  omega
noncomputable abbrev s_law:Stmt:=top 20
theorem sc_law:FnScope ["_law_script", "_law_draws_here", "_law_spans", "_law_number", "_law_top", "_law_chain_here", "_law_winders", "_law_handed", "_law_found"] ["_law_script"] (defScope s_law):=⟨rfl,rfl,rfl,by decide +kernel,rfl,by decide +kernel,by decide +kernel⟩
theorem lm_top {sp:List Int}{top d:Int} (hc:Chn sp) (h1:∀ x∈sp,1≤x) (ht:top∈sp) (hm:∀ x∈sp,x≤top) (hd:Lm sp d):d=top:=by
 have t1:=h1 top ht
 have d1:=hd.pos
 have e1:d∣top:=hd.least top fun x hx=>by
  rcases hc x hx top ht with k|k
  ·exact k
  ·have a:=Int.le_of_dvd (by have:=h1 x hx;omega) k
   have b:=hm x hx
   rw [show x=top by omega]
   exact Int.dvd_refl _
 exact Int.le_antisymm (Int.le_of_dvd (by omega) e1) (Int.le_of_dvd (by omega) (hd.dvd top ht))
theorem sum_div {top:Int} (t0:0≤top):∀ {sp:List Int},(∀ x∈sp,1≤x)→0≤(sp.map (top / ·)).sum∧(sp.map (top / ·)).sum≤sp.length*top
 | [],_=>by simp
 | x::sp,h=>by
  have ih:=sum_div t0 (sp:=sp) fun y hy=>h y (List.mem_cons_of_mem _ hy)
  have hx:=h x List.mem_cons_self
  have a:=Int.ediv_nonneg t0 (show 0≤x by omega)
  have b:=Int.ediv_le_self x t0
  rw [List.map_cons,List.sum_cons,List.length_cons,Int.natCast_add,Int.add_mul]
  omega
theorem div_few {top s:Int} (t1:1≤top) (s0:0≤s) (s1:s≤24*top):0≤(s+top - 1) / top∧(s+top - 1) / top≤1000:=by
 refine ⟨Int.ediv_nonneg (by omega) (by omega),?_⟩
 have:(s+top - 1) / top<1001:=Int.ediv_lt_of_lt_mul (by omega) (by omega)
 omega
theorem comp_sum (top:Int) (sp:List Int):(List.range (li sp).length).map (fun i=>PyData.int (top / sp.getD i 0))=li (sp.map (top / ·)):=by
 rw [show (li sp).length=sp.length from List.length_map ..]
 apply List.ext_getElem
 ·simp
 ·intro i h1 h2
  have hi:i<sp.length:=by simpa using h2
  simp [List.getD_eq_getElem?_getD,List.getElem?_eq_getElem hi]
noncomputable def spLaw:DSp:=fun ss R=>∃ ns:List Int,ss=[.fr (.list (li ns))]∧ns.length≤63∧R (.fr (.bool true)) [.un]
theorem ok_law {f:Addr}{fd:FuncData} (F:Fun K "law" "law" s_law f fd) (B:Bn mg) (G__law_draws:Cal P w K mg base "_law_draws" 2 (spD K spDraws)) (G__law_chain:Cal P w K mg base "_law_chain" 2 (spD K spLChn)) (G__law_pop:Cal P w K mg base "_law_pop" 1 (spD K spPop)) (G__law_is_chain:Cal P w K mg base "_law_is_chain" 1 (spD K spIsC)) (G_chain_plan:Cal P w K mg base "chain_plan" 6 (spD K spChP)) (G__law_is_even_told:Cal P w K mg base "_law_is_even_told" 1 (spD K spTold)) (G__law_even_fits:Cal P w K mg base "_law_even_fits" 2 (spD K spFits)):FnOk P w K mg base CX0 9 f fd ["_law_script"] (spD K spLaw):=by
 refine okD (k:=8) F sc_law (fun ss R h=>?_) (by decide) (fun cdv A outer s H E hr=>⟨_,(qs_bar (q_set (i:=1) sc_law.nd rfl (Or.inl rfl) (q_call G__law_draws (hr.mono (by decide)) rfl (qa_cons (qf 0) (qa_cons q_int (qa_cons q_int qa_nil)))))
   (qs_bar (q_set (i:=2) sc_law.nd rfl (Or.inl rfl) (q_callS 0 G__law_chain (hr.mono (by decide)) rfl (qa_cons (qv 1) qa_nil)))
   (qs_bar (q_set (i:=3) sc_law.nd rfl (Or.inl rfl) (q_callS 0 G__law_pop (hr.mono (by decide)) rfl (qa_cons (qv 1) qa_nil)))
   (qs_cut (q_if (qt_cmp op_eq mEqI (q_op op_mod mIC (qv 3) q_int) q_int (nomark _)) (qs_one (q_setIx 2 rfl (q_op op_mod mIC (q_op op_fdiv mIC (qv 3) q_int) (q_cb (kLen (K:=K) rfl) mLen rfl B.len PySem.boot_len (qa_cons (qv 2) qa_nil))) (q_op op_add mI (q_ix (ix_any (K:=K) rfl) mIx (qv 2) (q_op op_mod mIC (q_op op_fdiv mIC (qv 3) q_int) (q_cb (kLen (K:=K) rfl) mLen rfl B.len PySem.boot_len (qa_cons (qv 2) qa_nil))) (fun _ _=>rfl)) q_int))) qs_nil)
   (qs_cons (q_set (i:=4) sc_law.nd rfl (Or.inr rfl) (q_cb (call_maxL (K:=K) rfl rfl) mMaxL rfl B.max PyProof.Rows.boot_max (qa_cons (qv 2) qa_nil)))
   (qs_bar (q_set (i:=5) sc_law.nd rfl (Or.inl rfl) (q_call G__law_is_chain (hr.mono (by decide)) rfl (qa_cons (qf 2) qa_nil)))
   (qs_cons (q_set (i:=6) sc_law.nd rfl (Or.inl rfl) (q_op op_mod mIC (q_op op_fdiv mIC (qv 3) q_int) q_int))
   (qs_cut (q_if (PW.pt (qw_and (qt_val (qv 5)) (qw_and1 (qt_cmp op_eq mEqI (q_op op_mod mIC (q_op op_fdiv mIC (qv 3) q_int) q_int) q_int (nomark _))))) (qs_one (q_set (i:=6) sc_law.nd rfl (Or.inl rfl) (q_op op_fdivB mIC (q_op op_sub mI (q_op op_add mI (q_cb (call_sumI (K:=K) rfl rfl) mSum rfl B.sum PyProof.Rows.boot_sum (qa_cons (q_comp (N':=["_law_span", "_law_top"]) (ix:=[none,some 4]) rfl (bs_of (N:=["_law_script", "_law_draws_here", "_law_spans", "_law_number", "_law_top", "_law_chain_here", "_law_winders", "_law_handed", "_law_found"]) (sc0:=defScope s_law) rfl rfl (by decide +kernel)) (qi_list (K:=K) rfl (qf 2)) (fun _ _ _ _=>(qg_name (i:=0) (show List.Nodup (["_law_span", "_law_top"]:List Str) by decide +kernel) rfl (Or.inl rfl))) (fun _ _ _ _=>qif_nil) (fun _ _ _ _=>(q_op op_fdivB mIC (qv 1) (qv 0)))) qa_nil)) (qv 4)) q_int) (qv 4)))) qs_nil)
   (qs_cons (q_set (i:=7) sc_law.nd rfl (Or.inl rfl) (q_listOf (K:=K) rfl rfl B.list (qa_cons (qv 2) qa_nil)))
   (qs_bar (q_set (i:=8) sc_law.nd rfl (Or.inl rfl) (q_call G_chain_plan (hr.mono (by decide)) rfl (qa_cons (qf 7) (qa_cons (qf 6) qa_nil))))
   (qs_cons (q_if (qt_cmp (kNeD (K:=K) rfl hr.units) mNe (qv 7) (qv 2) (nomark _)) (qs_one (q_ret q_bl)) qs_nil)
   (qs_bar (q_if (PW.pt (qw_or (qt_not (qt_val (qv 5))) (qw_or1 (qt_cmp op_gt mB (q_cb (call_sumI (K:=K) rfl rfl) mSum rfl B.sum PyProof.Rows.boot_sum (qa_cons (q_comp (N':=["_law_span", "_law_top"]) (ix:=[none,some 4]) rfl (bs_of (N:=["_law_script", "_law_draws_here", "_law_spans", "_law_number", "_law_top", "_law_chain_here", "_law_winders", "_law_handed", "_law_found"]) (sc0:=defScope s_law) rfl rfl (by decide +kernel)) (qi_list (K:=K) rfl (qf 2)) (fun _ _ _ _=>(qg_name (i:=0) (show List.Nodup (["_law_span", "_law_top"]:List Str) by decide +kernel) rfl (Or.inl rfl))) (fun _ _ _ _=>qif_nil) (fun _ _ _ _=>(q_op op_fdivB mIC (qv 1) (qv 0)))) qa_nil)) (q_op op_mulB mIC (qv 6) (qv 4)) (nomark _))))) (qs_one (q_ret (q_cmp op_isN mIsN (qv 8) q_non (nomark _)))) qs_nil)
   (qs_bar (q_if (PW.pt (qw_or (qt_not (qt_val (q_call G__law_is_even_told (hr.mono (by decide)) rfl (qa_cons (qf 8) qa_nil)))) (qw_or1 (qt_not (qt_val (q_call G__law_even_fits (hr.mono (by decide)) rfl (qa_cons (qf 2) (qa_cons (qf 6) (qa_cons (qf 8) qa_nil))))))))) (qs_one (q_ret q_bl)) qs_nil)
   (qs_one (q_ret (q_cmp (kEqD (K:=K) rfl hr.units) mEq (q_comp (N':=["_law_winder", "_law_rest", "_law_step"]) (ix:=[none,none,none]) rfl (bs_of (N:=["_law_script", "_law_draws_here", "_law_spans", "_law_number", "_law_top", "_law_chain_here", "_law_winders", "_law_handed", "_law_found"]) (sc0:=defScope s_law) rfl rfl (by decide +kernel)) (qi_list (K:=K) rfl (qf 8)) (fun _ _ _ _=>(qg_tup (K:=K) (n:=3) rfl rfl (qgs_cons (qg_name (i:=0) (show List.Nodup (["_law_winder", "_law_rest", "_law_step"]:List Str) by decide +kernel) rfl (Or.inl rfl)) (qgs_cons (qg_name (i:=1) (show List.Nodup (["_law_winder", "_law_rest", "_law_step"]:List Str) by decide +kernel) rfl (Or.inl rfl)) (qgs_cons (qg_name (i:=2) (show List.Nodup (["_law_winder", "_law_rest", "_law_step"]:List Str) by decide +kernel) rfl (Or.inl rfl)) qgs_nil))))) (fun _ _ _ _=>qif_nil) (fun _ _ _ _=>(qf 2))) (qv 2) (nomark _))))))))))))))))),fun ss R h=>?_⟩)
 ·obtain ⟨ns,rfl,_⟩:=h
  rfl
 obtain ⟨ns,rfl,h63,q⟩:=h
 walk_at "dx"
 refine ⟨ns,2,40,rfl,h63,by decide,by decide,fun ds hd=>?_⟩
 walk_at "dx"
 have bd:Bd ds:=hd.2
 refine ⟨ds,rfl,bd,fun sp0 l1 b1 s1 s24 hs0=>?_⟩
 walk_at "dx"
 refine ⟨l1,rfl,?_⟩
 have n0:=b1.pop
 generalize popV l1=num at *
 generalize l1.dropLast=l2 at *
 walk_at "dx"
 refine ⟨fun env=>∃ sp:List Int,env=[.fr (.list (li ns)),.ow (li l2),.ow (li sp),.fr (.int num),.un,.un,.un,.un,.un]∧1≤sp.length∧sp.length≤24∧Sps sp,?_,?_⟩
 ·walk_at "dd"
  have base:Sps sp0:=fun x hx=>by have:=hs0 x hx;omega
  refine ⟨by decide,ite2 (fun _=>?_) fun _=>⟨sp0,rfl,s1,s24,base⟩⟩
  obtain ⟨k,ek,hk⟩:=place (x:=num / 5) (n:=sp0.length) (by omega)
  rw [show (li sp0).length=sp0.length from List.length_map ..,ek]
  have b0:=hs0 _ (getD_mem hk)
  refine ⟨⟨by decide,by decide⟩,by omega,_,li_atN hk,_,rfl,⟨by decide,by decide⟩,by omega,k,?_,sp0.set k (sp0.getD k 0+1),li_set _ _ _,by simp;omega,by simp;omega,fun x hx=>?_⟩
  ·exact ixN_nat hk
  ·rcases List.mem_or_eq_of_mem_set hx with hx|rfl
   ·exact base x hx
   ·omega
 rintro env ⟨sp,rfl,p1,p24,hs⟩
 walk_at "dx"
 refine ⟨fun z=>by rw[z] at p1;simp at p1,fun top ht hmax=>?_⟩
 have hs1:∀ x∈sp,1≤x:=fun x hx=>(hs x hx).1
 have tb:=hs top ht
 have sd:=sum_div (top:=top) (by omega) hs1
 have sdl:(sp.length:Int)*top≤24*top:=Int.mul_le_mul_of_nonneg_right (by omega) (by omega)
 refine ⟨sp,rfl,by omega,hs,fun b hb=>?_⟩
 walk_at "dx"
 refine ⟨⟨by decide,by decide⟩,by decide,?_⟩
 refine ⟨fun env=>∃ W:Int,env=[.fr (.list (li ns)),.ow (li l2),.fr (.list (li sp)),.fr (.int num),.fr (.int top),.fr (.bool b),.fr (.int W),.un,.un]∧0≤W∧W≤1000,?_,?_⟩
 ·walk_at "dd"
  have small:0≤num / 7 % 6∧num / 7 % 6≤1000:=by omega
  refine ite2 (fun _=>⟨⟨by decide,by decide⟩,by decide,ite2 (fun _=>?_) fun _=>small⟩) fun _=>small
  refine cd_map (fun i=>.int (top / sp.getD i 0)) (by rw[List.length_map];omega) (fun i hi Q hQ=>?_) ?_
  ·have hi':i<sp.length:=by simpa using hi
   rw [li_get]
   have px:=hs _ (getD_mem hi')
   walk_at "dd"
   exact ⟨⟨by omega,Bg.of (by omega) (by omega)⟩,hQ⟩
  rw [comp_sum]
  walk_at "dd"
  refine ⟨⟨by omega,Bg.of (by omega) (by omega)⟩,?_⟩
  exact div_few tb.1 sd.1 (by omega)
 rintro env ⟨W,rfl,w0,w1⟩
 walk_at "dx"
 have sh:shp (.list (li sp)):=(Sh.ints 0 sp).shp (by decide)
 have er:PyData.eqv (.list (li sp)) (.list (li sp))=true:=SeqAt.eqv_refl _ (SeqAt.canLay_of_shaped sh)
 refine ⟨sp,W,rfl,p1,by omega,hs,w0,w1,fun hn=>?_,fun hch d hd=>?_⟩
 ·cases b with
  | true=>exact absurd (hb.mp rfl) hn
  | false =>
   walk_at "dx"
   refine ⟨sh,sh,?_⟩
   rw [er,if_neg (by decide)]
   exact q
 have hdt:=lm_top hch hs1 ht hmax hd
 subst hdt
 have hbt:b=true:=hb.mpr hch
 subst hbt
 have bw:(0:Int)≤W*d∧W*d≤1000*d:=⟨Int.mul_nonneg w0 (by omega),Int.mul_le_mul_of_nonneg_right w1 (by omega)⟩
 refine ⟨fun hc=>?_,fun hc es hes=>?_⟩
 ·walk_at "dx"
  refine ⟨sh,sh,?_⟩
  rw [er,if_neg (by decide)]
  refine cd_map (fun i=>.int (d / sp.getD i 0)) (by rw[List.length_map];omega) (fun i hi Q hQ=>?_) ?_
  ·have hi':i<sp.length:=by simpa using hi
   rw [li_get]
   have px:=hs _ (getD_mem hi')
   walk_at "dd"
   exact ⟨⟨by omega,Bg.of (by omega) (by omega)⟩,hQ⟩
  rw [comp_sum]
  walk_at "dx"
  refine ⟨⟨Bg.of (by omega) (by omega),Bg.of (by omega) (by omega)⟩,?_⟩
  rw [if_pos hc]
  exact q
 ·walk_at "dx"
  refine ⟨sh,sh,?_⟩
  rw [er,if_neg (by decide)]
  refine cd_map (fun i=>.int (d / sp.getD i 0)) (by rw[List.length_map];omega) (fun i hi Q hQ=>?_) ?_
  ·have hi':i<sp.length:=by simpa using hi
   rw [li_get]
   have px:=hs _ (getD_mem hi')
   walk_at "dd"
   exact ⟨⟨by omega,Bg.of (by omega) (by omega)⟩,hQ⟩
  rw [comp_sum]
  walk_at "dx"
  refine ⟨⟨Bg.of (by omega) (by omega),Bg.of (by omega) (by omega)⟩,?_⟩
  rw [if_neg hc]
  have hel:es.length=sp.length:=hes.1.len
  walk_at "dx"
  refine ⟨es,rfl,by omega,?_⟩
  walk_at "dx"
  refine ⟨sp,W,es,rfl,by omega,by omega,fun b hb=>?_⟩
  have hbt:b=true:=hb.mpr hes.1
  subst hbt
  walk_at "dx"
  refine cd_map (fun i=>.int (sp.getD i 0)) (by rw[List.length_map];omega) (fun i hi Q hQ=>?_) ?_
  ·rw [List.length_map] at hi
   rw [lE_get hi]
   have e2:=hes.2 i (by omega)
   generalize es.getD i (0,0,0)=e at *
   walk_at "dx"
   rw [e2]
   exact hQ
  rw [show (List.range (lE es).length).map (fun i=>PyData.int (sp.getD i 0))=li sp by
   rw [List.length_map,hel,show (fun i=>PyData.int (sp.getD i 0))=PyData.int ∘ fun i=>sp.getD i 0 from rfl,←List.map_map,range_getD]]
  walk_at "dx"
  refine ⟨sh,sh,?_⟩
  rw [er]
  exact q
end
theorem all_mk {l:PySem.W.OpenLaw}{w:World}{K:PySem.W.Frag}{h:Heap}{mg:Str→Option Value}{fa:Addr} (X:K.In h) (G:h.Ns mainGlobals mg) (hfa:mg "law" = some (.ref fa))
  {f0:Addr}{od0 an0:Option Addr}{sl0:Array (Option Value)}{oc0 kV0 dc0 pm0 cd0 ct0:Value}
  {f1:Addr}{od1 an1:Option Addr}{sl1:Array (Option Value)}{oc1 kV1 dc1 pm1 cd1 ct1:Value}
  {f2:Addr}{od2 an2:Option Addr}{sl2:Array (Option Value)}{oc2 kV2 dc2 pm2 cd2 ct2:Value}
  {f3:Addr}{od3 an3:Option Addr}{sl3:Array (Option Value)}{oc3 kV3 dc3 pm3 cd3 ct3:Value}
  {f4:Addr}{od4 an4:Option Addr}{sl4:Array (Option Value)}{oc4 kV4 dc4 pm4 cd4 ct4:Value}
  {f5:Addr}{od5 an5:Option Addr}{sl5:Array (Option Value)}{oc5 kV5 dc5 pm5 cd5 ct5:Value}
  {f6:Addr}{od6 an6:Option Addr}{sl6:Array (Option Value)}{oc6 kV6 dc6 pm6 cd6 ct6:Value}
  {f7:Addr}{od7 an7:Option Addr}{sl7:Array (Option Value)}{oc7 kV7 dc7 pm7 cd7 ct7:Value}
  {f8:Addr}{od8 an8:Option Addr}{sl8:Array (Option Value)}{oc8 kV8 dc8 pm8 cd8 ct8:Value}
  {f9:Addr}{od9 an9:Option Addr}{sl9:Array (Option Value)}{oc9 kV9 dc9 pm9 cd9 ct9:Value}
  {f10:Addr}{od10 an10:Option Addr}{sl10:Array (Option Value)}{oc10 kV10 dc10 pm10 cd10 ct10:Value}
  {f11:Addr}{od11 an11:Option Addr}{sl11:Array (Option Value)}{oc11 kV11 dc11 pm11 cd11 ct11:Value}
  {f12:Addr}{od12 an12:Option Addr}{sl12:Array (Option Value)}{oc12 kV12 dc12 pm12 cd12 ct12:Value}
  {f13:Addr}{od13 an13:Option Addr}{sl13:Array (Option Value)}{oc13 kV13 dc13 pm13 cd13 ct13:Value}
  {f14:Addr}{od14 an14:Option Addr}{sl14:Array (Option Value)}{oc14 kV14 dc14 pm14 cd14 ct14:Value}
  {f15:Addr}{od15 an15:Option Addr}{sl15:Array (Option Value)}{oc15 kV15 dc15 pm15 cd15 ct15:Value}
  {f16:Addr}{od16 an16:Option Addr}{sl16:Array (Option Value)}{oc16 kV16 dc16 pm16 cd16 ct16:Value}
  (a0:PySem.W.nsIn K mainGlobals "_law_draws" = some (some (.ref f0))) (l0:K.lookup f0=some ⟨oc0,od0,.func (PySem.W.fnOf "_law_draws" "_law_draws" (defArgs s__law_draws) (defBody s__law_draws) (defScope s__law_draws) .none kV0 dc0 pm0 an0 cd0 ct0),sl0⟩) (c0:PySem.W.codeIn K cd0 "_law_draws" = true) (k0:PySem.W.keepIn K (.ref f0)=true)
  (a1:PySem.W.nsIn K mainGlobals "_law_pop" = some (some (.ref f1))) (l1:K.lookup f1=some ⟨oc1,od1,.func (PySem.W.fnOf "_law_pop" "_law_pop" (defArgs s__law_pop) (defBody s__law_pop) (defScope s__law_pop) .none kV1 dc1 pm1 an1 cd1 ct1),sl1⟩) (c1:PySem.W.codeIn K cd1 "_law_pop" = true) (k1:PySem.W.keepIn K (.ref f1)=true)
  (a2:PySem.W.nsIn K mainGlobals "_law_divisor" = some (some (.ref f2))) (l2:K.lookup f2=some ⟨oc2,od2,.func (PySem.W.fnOf "_law_divisor" "_law_divisor" (defArgs s__law_divisor) (defBody s__law_divisor) (defScope s__law_divisor) .none kV2 dc2 pm2 an2 cd2 ct2),sl2⟩) (c2:PySem.W.codeIn K cd2 "_law_divisor" = true) (k2:PySem.W.keepIn K (.ref f2)=true)
  (a3:PySem.W.nsIn K mainGlobals "greatest_divisor" = some (some (.ref f3))) (l3:K.lookup f3=some ⟨oc3,od3,.func (PySem.W.fnOf "greatest_divisor" "greatest_divisor" (defArgs s_greatest_divisor) (defBody s_greatest_divisor) (defScope s_greatest_divisor) .none kV3 dc3 pm3 an3 cd3 ct3),sl3⟩) (c3:PySem.W.codeIn K cd3 "greatest_divisor" = true) (k3:PySem.W.keepIn K (.ref f3)=true)
  (a4:PySem.W.nsIn K mainGlobals "least_multiple" = some (some (.ref f4))) (l4:K.lookup f4=some ⟨oc4,od4,.func (PySem.W.fnOf "least_multiple" "least_multiple" (defArgs s_least_multiple) (defBody s_least_multiple) (defScope s_least_multiple) .none kV4 dc4 pm4 an4 cd4 ct4),sl4⟩) (c4:PySem.W.codeIn K cd4 "least_multiple" = true) (k4:PySem.W.keepIn K (.ref f4)=true)
  (a5:PySem.W.nsIn K mainGlobals "wanted_in" = some (some (.ref f5))) (l5:K.lookup f5=some ⟨oc5,od5,.func (PySem.W.fnOf "wanted_in" "wanted_in" (defArgs s_wanted_in) (defBody s_wanted_in) (defScope s_wanted_in) .none kV5 dc5 pm5 an5 cd5 ct5),sl5⟩) (c5:PySem.W.codeIn K cd5 "wanted_in" = true) (k5:PySem.W.keepIn K (.ref f5)=true)
  (a6:PySem.W.nsIn K mainGlobals "lowest_terms" = some (some (.ref f6))) (l6:K.lookup f6=some ⟨oc6,od6,.func (PySem.W.fnOf "lowest_terms" "lowest_terms" (defArgs s_lowest_terms) (defBody s_lowest_terms) (defScope s_lowest_terms) .none kV6 dc6 pm6 an6 cd6 ct6),sl6⟩) (c6:PySem.W.codeIn K cd6 "lowest_terms" = true) (k6:PySem.W.keepIn K (.ref f6)=true)
  (a7:PySem.W.nsIn K mainGlobals "share" = some (some (.ref f7))) (l7:K.lookup f7=some ⟨oc7,od7,.func (PySem.W.fnOf "share" "share" (defArgs s_share) (defBody s_share) (defScope s_share) .none kV7 dc7 pm7 an7 cd7 ct7),sl7⟩) (c7:PySem.W.codeIn K cd7 "share" = true) (k7:PySem.W.keepIn K (.ref f7)=true)
  (a8:PySem.W.nsIn K mainGlobals "is_chain" = some (some (.ref f8))) (l8:K.lookup f8=some ⟨oc8,od8,.func (PySem.W.fnOf "is_chain" "is_chain" (defArgs s_is_chain) (defBody s_is_chain) (defScope s_is_chain) .none kV8 dc8 pm8 an8 cd8 ct8),sl8⟩) (c8:PySem.W.codeIn K cd8 "is_chain" = true) (k8:PySem.W.keepIn K (.ref f8)=true)
  (a9:PySem.W.nsIn K mainGlobals "is_too_much" = some (some (.ref f9))) (l9:K.lookup f9=some ⟨oc9,od9,.func (PySem.W.fnOf "is_too_much" "is_too_much" (defArgs s_is_too_much) (defBody s_is_too_much) (defScope s_is_too_much) .none kV9 dc9 pm9 an9 cd9 ct9),sl9⟩) (c9:PySem.W.codeIn K cd9 "is_too_much" = true) (k9:PySem.W.keepIn K (.ref f9)=true)
  (a10:PySem.W.nsIn K mainGlobals "rest_at" = some (some (.ref f10))) (l10:K.lookup f10=some ⟨oc10,od10,.func (PySem.W.fnOf "rest_at" "rest_at" (defArgs s_rest_at) (defBody s_rest_at) (defScope s_rest_at) .none kV10 dc10 pm10 an10 cd10 ct10),sl10⟩) (c10:PySem.W.codeIn K cd10 "rest_at" = true) (k10:PySem.W.keepIn K (.ref f10)=true)
  (a11:PySem.W.nsIn K mainGlobals "chain_plan" = some (some (.ref f11))) (l11:K.lookup f11=some ⟨oc11,od11,.func (PySem.W.fnOf "chain_plan" "chain_plan" (defArgs s_chain_plan) (defBody s_chain_plan) (defScope s_chain_plan) .none kV11 dc11 pm11 an11 cd11 ct11),sl11⟩) (c11:PySem.W.codeIn K cd11 "chain_plan" = true) (k11:PySem.W.keepIn K (.ref f11)=true)
  (a12:PySem.W.nsIn K mainGlobals "_law_even_fits" = some (some (.ref f12))) (l12:K.lookup f12=some ⟨oc12,od12,.func (PySem.W.fnOf "_law_even_fits" "_law_even_fits" (defArgs s__law_even_fits) (defBody s__law_even_fits) (defScope s__law_even_fits) .none kV12 dc12 pm12 an12 cd12 ct12),sl12⟩) (c12:PySem.W.codeIn K cd12 "_law_even_fits" = true) (k12:PySem.W.keepIn K (.ref f12)=true)
  (a13:PySem.W.nsIn K mainGlobals "_law_is_chain" = some (some (.ref f13))) (l13:K.lookup f13=some ⟨oc13,od13,.func (PySem.W.fnOf "_law_is_chain" "_law_is_chain" (defArgs s__law_is_chain) (defBody s__law_is_chain) (defScope s__law_is_chain) .none kV13 dc13 pm13 an13 cd13 ct13),sl13⟩) (c13:PySem.W.codeIn K cd13 "_law_is_chain" = true) (k13:PySem.W.keepIn K (.ref f13)=true)
  (a14:PySem.W.nsIn K mainGlobals "_law_is_even_told" = some (some (.ref f14))) (l14:K.lookup f14=some ⟨oc14,od14,.func (PySem.W.fnOf "_law_is_even_told" "_law_is_even_told" (defArgs s__law_is_even_told) (defBody s__law_is_even_told) (defScope s__law_is_even_told) .none kV14 dc14 pm14 an14 cd14 ct14),sl14⟩) (c14:PySem.W.codeIn K cd14 "_law_is_even_told" = true) (k14:PySem.W.keepIn K (.ref f14)=true)
  (a15:PySem.W.nsIn K mainGlobals "_law_chain" = some (some (.ref f15))) (l15:K.lookup f15=some ⟨oc15,od15,.func (PySem.W.fnOf "_law_chain" "_law_chain" (defArgs s__law_chain) (defBody s__law_chain) (defScope s__law_chain) .none kV15 dc15 pm15 an15 cd15 ct15),sl15⟩) (c15:PySem.W.codeIn K cd15 "_law_chain" = true) (k15:PySem.W.keepIn K (.ref f15)=true)
  (a16:PySem.W.nsIn K mainGlobals "law" = some (some (.ref f16))) (l16:K.lookup f16=some ⟨oc16,od16,.func (PySem.W.fnOf "law" "law" (defArgs s_law) (defBody s_law) (defScope s_law) .none kV16 dc16 pm16 an16 cd16 ct16),sl16⟩) (c16:PySem.W.codeIn K cd16 "law" = true) (k16:PySem.W.keepIn K (.ref f16)=true)
  {cc11 TT11:Addr}{odc11:Option Addr}{slc11:Array (Option Value)}{vsc11:Array Value} (hcd11:cd11=.ref cc11) (lc11:K.lookup cc11=some ⟨.type "code",odc11,.fields vsc11,slc11⟩) (hT11:CodeVs vsc11 cc11 TT11)
  (z_len:PySem.W.nsIn K mainGlobals "len" = some none)
  (z_range:PySem.W.nsIn K mainGlobals "range" = some none)
  (z_min:PySem.W.nsIn K mainGlobals "min" = some none)
  (z_max:PySem.W.nsIn K mainGlobals "max" = some none)
  (z_enumerate:PySem.W.nsIn K mainGlobals "enumerate" = some none)
  (z_zip:PySem.W.nsIn K mainGlobals "zip" = some none)
  (z_all:PySem.W.nsIn K mainGlobals "all" = some none)
  (z_any:PySem.W.nsIn K mainGlobals "any" = some none)
  (z_isinstance:PySem.W.nsIn K mainGlobals "isinstance" = some none)
  (z_bool:PySem.W.nsIn K mainGlobals "bool" = some none)
  (z_int:PySem.W.nsIn K mainGlobals "int" = some none)
  (z_list:PySem.W.nsIn K mainGlobals "list" = some none)
  (z_tuple:PySem.W.nsIn K mainGlobals "tuple" = some none)
  (z_sorted:PySem.W.nsIn K mainGlobals "sorted" = some none)
  (z_str:PySem.W.nsIn K mainGlobals "str" = some none)
  (z_sum:PySem.W.nsIn K mainGlobals "sum" = some none)
  (z_abs:PySem.W.nsIn K mainGlobals "abs" = some none)
  (z_reversed:PySem.W.nsIn K mainGlobals "reversed" = some none)
  : ∃ fd:FuncData,(∀ (s:Shared) (v:Value),BindsTo s fd ⟨[v],[]⟩ [("_law_script",v)])∧∀ base:Heap,K.In base→base.Ns mainGlobals mg→FnOk l.prog w K mg base CX0 9 fa fd ["_law_script"] (spD K spLaw):=by
 have e:=hfa.symm.trans (PySem.W.mg_of X G a16)
 cases e
 have B:Bn mg:=⟨PySem.W.mg_none_of X G z_len,PySem.W.mg_none_of X G z_range,PySem.W.mg_none_of X G z_min,PySem.W.mg_none_of X G z_max,PySem.W.mg_none_of X G z_enumerate,PySem.W.mg_none_of X G z_zip,PySem.W.mg_none_of X G z_all,PySem.W.mg_none_of X G z_any,PySem.W.mg_none_of X G z_isinstance,PySem.W.mg_none_of X G z_bool,PySem.W.mg_none_of X G z_int,PySem.W.mg_none_of X G z_list,PySem.W.mg_none_of X G z_tuple,PySem.W.mg_none_of X G z_sorted,PySem.W.mg_none_of X G z_str,PySem.W.mg_none_of X G z_sum,PySem.W.mg_none_of X G z_abs,PySem.W.mg_none_of X G z_reversed⟩
 refine ⟨PySem.W.fnOf "law" "law" (defArgs s_law) (defBody s_law) (defScope s_law) .none kV16 dc16 pm16 an16 cd16 ct16,fun s v=>.of_eq rfl,fun base Xb _=>?_⟩
 have F__law_draws:=fun_mk (st:=s__law_draws) l0 c0 k0
 have G__law_draws:=calD F__law_draws (PySem.W.mg_of X G a0) (bi__law_draws F__law_draws) (ok__law_draws (P:=l.prog) (w:=w) (base:=base) F__law_draws B)
 have F__law_pop:=fun_mk (st:=s__law_pop) l1 c1 k1
 have G__law_pop:=calD F__law_pop (PySem.W.mg_of X G a1) (bi__law_pop F__law_pop) (ok__law_pop (P:=l.prog) (w:=w) (base:=base) F__law_pop B)
 have F__law_divisor:=fun_mk (st:=s__law_divisor) l2 c2 k2
 have G__law_divisor:=calD F__law_divisor (PySem.W.mg_of X G a2) (bi__law_divisor F__law_divisor) (ok__law_divisor (P:=l.prog) (w:=w) (base:=base) F__law_divisor B)
 have F_greatest_divisor:=fun_mk (st:=s_greatest_divisor) l3 c3 k3
 have G_greatest_divisor:=calD F_greatest_divisor (PySem.W.mg_of X G a3) (bi_greatest_divisor F_greatest_divisor) (ok_greatest_divisor (P:=l.prog) (w:=w) (base:=base) F_greatest_divisor B)
 have F_least_multiple:=fun_mk (st:=s_least_multiple) l4 c4 k4
 have G_least_multiple:=calD F_least_multiple (PySem.W.mg_of X G a4) (bi_least_multiple F_least_multiple) (ok_least_multiple (P:=l.prog) (w:=w) (base:=base) F_least_multiple B G_greatest_divisor)
 have F_wanted_in:=fun_mk (st:=s_wanted_in) l5 c5 k5
 have G_wanted_in:=calD F_wanted_in (PySem.W.mg_of X G a5) (bi_wanted_in F_wanted_in) (ok_wanted_in (P:=l.prog) (w:=w) (base:=base) F_wanted_in B)
 have F_lowest_terms:=fun_mk (st:=s_lowest_terms) l6 c6 k6
 have G_lowest_terms:=calD F_lowest_terms (PySem.W.mg_of X G a6) (bi_lowest_terms F_lowest_terms) (ok_lowest_terms (P:=l.prog) (w:=w) (base:=base) F_lowest_terms B G_greatest_divisor)
 have F_share:=fun_mk (st:=s_share) l7 c7 k7
 have G_share:=calD F_share (PySem.W.mg_of X G a7) (bi_share F_share) (ok_share (P:=l.prog) (w:=w) (base:=base) F_share B G_least_multiple G_wanted_in G_lowest_terms)
 have F_is_chain:=fun_mk (st:=s_is_chain) l8 c8 k8
 have G_is_chain:=calD F_is_chain (PySem.W.mg_of X G a8) (bi_is_chain F_is_chain) (ok_is_chain (P:=l.prog) (w:=w) (base:=base) F_is_chain B)
 have F_is_too_much:=fun_mk (st:=s_is_too_much) l9 c9 k9
 have G_is_too_much:=calD F_is_too_much (PySem.W.mg_of X G a9) (bi_is_too_much F_is_too_much) (ok_is_too_much (P:=l.prog) (w:=w) (base:=base) F_is_too_much B G_share)
 have F_rest_at:=fun_mk (st:=s_rest_at) l10 c10 k10
 have G_rest_at:=calD F_rest_at (PySem.W.mg_of X G a10) (bi_rest_at F_rest_at) (ok_rest_at (P:=l.prog) (w:=w) (base:=base) F_rest_at B)
 have F_chain_plan:=fun_mk (st:=s_chain_plan) l11 c11 k11
 have G_chain_plan:=calD F_chain_plan (PySem.W.mg_of X G a11) (bi_chain_plan F_chain_plan) (ok_chain_plan (P:=l.prog) (w:=w) (base:=base) F_chain_plan B (lam_fd (by decide) a11 l11 hcd11 lc11 hT11 Xb) G_is_chain G_is_too_much G_rest_at)
 have F__law_even_fits:=fun_mk (st:=s__law_even_fits) l12 c12 k12
 have G__law_even_fits:=calD F__law_even_fits (PySem.W.mg_of X G a12) (bi__law_even_fits F__law_even_fits) (ok__law_even_fits (P:=l.prog) (w:=w) (base:=base) F__law_even_fits B G__law_divisor)
 have F__law_is_chain:=fun_mk (st:=s__law_is_chain) l13 c13 k13
 have G__law_is_chain:=calD F__law_is_chain (PySem.W.mg_of X G a13) (bi__law_is_chain F__law_is_chain) (ok__law_is_chain (P:=l.prog) (w:=w) (base:=base) F__law_is_chain B)
 have F__law_is_even_told:=fun_mk (st:=s__law_is_even_told) l14 c14 k14
 have G__law_is_even_told:=calD F__law_is_even_told (PySem.W.mg_of X G a14) (bi__law_is_even_told F__law_is_even_told) (ok__law_is_even_told (P:=l.prog) (w:=w) (base:=base) F__law_is_even_told B)
 have F__law_chain:=fun_mk (st:=s__law_chain) l15 c15 k15
 have G__law_chain:=calD F__law_chain (PySem.W.mg_of X G a15) (bi__law_chain F__law_chain) (ok__law_chain (P:=l.prog) (w:=w) (base:=base) F__law_chain B G__law_pop)
 have F_law:=fun_mk (st:=s_law) l16 c16 k16
 exact ok_law (P:=l.prog) (w:=w) (base:=base) F_law B G__law_draws G__law_chain G__law_pop G__law_is_chain G_chain_plan G__law_is_even_told G__law_even_fits
end W
open PySem PySem.W PyProof.Rows
set_option maxRecDepth 100000 in
set_option maxHeartbeats 0 in
theorem PySem.Challenge.cw_windround_k19_chains_planned_holds : PySem.Challenge.rw_windround_k19_chains_planned.Holds := by
 w_on;o_law;k_head;(case hw=>w_witness2)
 k_fill
 refine L2.walkD (l:=PySem.Challenge.rw_windround_k19_chains_planned) (sp:=W.spLaw) (k:=9) (by decide) rfl rfl (fun ns h=>⟨ns,rfl,h,rfl⟩) ?TB (fun w h Y=>PySem.W.km_in_of Y) ?F
 case TB =>
  intro w s₀ mg mb h G KX
  refine' L2.tabs_mk1 (x := "chain_plan") (y := "choices") (z := "full_rows") G KX (by decide) rfl ?a1 ?l1 ?c1 ?lc1 ?hT1 ?hn1 ?ay ?az
  (case a1=>k_is);(case l1=>k_is);(case c1=>exact rfl);(case lc1=>k_is);(case hT1=>exact⟨rfl,rfl,⟨_,_,rfl⟩,⟨_,_,rfl⟩,⟨_,rfl⟩,⟨_,_,rfl⟩,by decide⟩);(case hn1=>kernel_rfl)
  (case ay=>k_is);(case az=>k_is)
 case F =>
  intro w mg fa h KX G hmg
  refine' W.all_mk KX G hmg ?a0 ?l0 ?c0 ?k0 ?a1 ?l1 ?c1 ?k1 ?a2 ?l2 ?c2 ?k2 ?a3 ?l3 ?c3 ?k3 ?a4 ?l4 ?c4 ?k4 ?a5 ?l5 ?c5 ?k5 ?a6 ?l6 ?c6 ?k6 ?a7 ?l7 ?c7 ?k7 ?a8 ?l8 ?c8 ?k8 ?a9 ?l9 ?c9 ?k9 ?a10 ?l10 ?c10 ?k10 ?a11 ?l11 ?c11 ?k11 ?a12 ?l12 ?c12 ?k12 ?a13 ?l13 ?c13 ?k13 ?a14 ?l14 ?c14 ?k14 ?a15 ?l15 ?c15 ?k15 ?a16 ?l16 ?c16 ?k16 ?hcd11 ?lc11 ?hT11 ?z_len ?z_range ?z_min ?z_max ?z_enumerate ?z_zip ?z_all ?z_any ?z_isinstance ?z_bool ?z_int ?z_list ?z_tuple ?z_sorted ?z_str ?z_sum ?z_abs ?z_reversed
  (case a0=>k_is);(case l0=>k_is);(case c0=>k_is);(case k0=>k_is)
  (case a1=>k_is);(case l1=>k_is);(case c1=>k_is);(case k1=>k_is)
  (case a2=>k_is);(case l2=>k_is);(case c2=>k_is);(case k2=>k_is)
  (case a3=>k_is);(case l3=>k_is);(case c3=>k_is);(case k3=>k_is)
  (case a4=>k_is);(case l4=>k_is);(case c4=>k_is);(case k4=>k_is)
  (case a5=>k_is);(case l5=>k_is);(case c5=>k_is);(case k5=>k_is)
  (case a6=>k_is);(case l6=>k_is);(case c6=>k_is);(case k6=>k_is)
  (case a7=>k_is);(case l7=>k_is);(case c7=>k_is);(case k7=>k_is)
  (case a8=>k_is);(case l8=>k_is);(case c8=>k_is);(case k8=>k_is)
  (case a9=>k_is);(case l9=>k_is);(case c9=>k_is);(case k9=>k_is)
  (case a10=>k_is);(case l10=>k_is);(case c10=>k_is);(case k10=>k_is)
  (case a11=>k_is);(case l11=>k_is);(case c11=>k_is);(case k11=>k_is)
  (case a12=>k_is);(case l12=>k_is);(case c12=>k_is);(case k12=>k_is)
  (case a13=>k_is);(case l13=>k_is);(case c13=>k_is);(case k13=>k_is)
  (case a14=>k_is);(case l14=>k_is);(case c14=>k_is);(case k14=>k_is)
  (case a15=>k_is);(case l15=>k_is);(case c15=>k_is);(case k15=>k_is)
  (case a16=>k_is);(case l16=>k_is);(case c16=>k_is);(case k16=>k_is)
  (case hcd11=>exact rfl);(case lc11=>k_is);(case hT11=>exact⟨rfl,rfl,⟨_,_,rfl⟩,⟨_,_,rfl⟩,⟨_,rfl⟩,⟨_,_,rfl⟩,by decide⟩)
  (case z_len=>k_is)
  (case z_range=>k_is)
  (case z_min=>k_is)
  (case z_max=>k_is)
  (case z_enumerate=>k_is)
  (case z_zip=>k_is)
  (case z_all=>k_is)
  (case z_any=>k_is)
  (case z_isinstance=>k_is)
  (case z_bool=>k_is)
  (case z_int=>k_is)
  (case z_list=>k_is)
  (case z_tuple=>k_is)
  (case z_sorted=>k_is)
  (case z_str=>k_is)
  (case z_sum=>k_is)
  (case z_abs=>k_is)
  (case z_reversed=>k_is)
