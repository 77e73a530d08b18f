import PyProof.Rows.All
import Wide.All
import OpenK.AllK
import Wide.FinOn
import Lean
import PyProof.EqAt
import PyProof.EqKinds
import PyProof.TupleCall
import PyProof.DictRoadsH
import PyProof.DictKinds
import PyProof.ListMulAny
import PyProof.StrLawsTight
import KE.KIntText
import PyProof.Rows.StrItems
import PyProof.StrWalks
import KE.KSortTup
import KE.KLam
import PyProof.ExcInit
import PyProof.ExcClass3
import PyProof.InstStoreFacts
import PyProof.ExcBaseAll.ValueError
import PyProof.ExcArgsOwn
import PyProof.ExcAttrAll.ValueError
import PyProof.Rows.RuleN_isinstance
import PySem.Challenge.RW_windround_k13_whole_shut_out_stands_stil
set_option compiler.extract_closed false
set_option bootstrap.genMatcherCode false
local macro_rules | `(tactic| omega) => `(tactic| first | assumption | lia)
set_option Elab.async false
set_option linter.all false
set_option maxRecDepth 100000
namespace L2
open PySem PySem.Spec PyProof.Rows
noncomputable abbrev Key:=Sum Int Str
noncomputable def keyIs:Key→Value→Bool
 | .inl k,v=>Value.isInt k v
 | .inr x,v=>Value.isStrOf x v
noncomputable def keyH (w:World):Key→Int
 | .inl k=>hashInt k
 | .inr x=>hashStr w x
theorem keyIs_shape:∀ {k:Key}{v:Value},keyIs k v=true→(∃ i t,k=Sum.inl i∧v=Value.int i t)∨(∃ x t,k=Sum.inr x∧v=Value.str x t)
 | .inl i,v,h=>by
  obtain ⟨t,e⟩:=Value.isInt_shape (k:=i) (v:=v) h
  exact .inl ⟨i,t,rfl,e⟩
 | .inr x,v,h=>by
  obtain ⟨t,e⟩:=Value.isStrOf_shape (x:=x) (v:=v) h
  exact .inr ⟨x,t,rfl,e⟩
theorem key_ll (a b:Int):decide ((Sum.inl a:Key)=Sum.inl b)=(a==b):=by
 by_cases e:a=b
 ·subst e;simp
 ·have h:¬(Sum.inl a:Key)=Sum.inl b:=fun q=>e (Sum.inl.inj q)
  rw [decide_eq_false h]
  exact (beq_eq_false_iff_ne.mpr e).symm
theorem key_rr (a b:Str):decide ((Sum.inr a:Key)=Sum.inr b)=decide (a=b):=by
 by_cases e:a=b
 ·subst e;simp
 ·have h:¬(Sum.inr a:Key)=Sum.inr b:=fun q=>e (Sum.inr.inj q)
  rw [decide_eq_false h,decide_eq_false e]
theorem key_lr (a:Int) (b:Str):decide ((Sum.inl a:Key)=Sum.inr b)=false:=decide_eq_false (fun q=>nomatch q)
theorem key_rl (a:Str) (b:Int):decide ((Sum.inr a:Key)=Sum.inl b)=false:=decide_eq_false (fun q=>nomatch q)
noncomputable def mixKind (prog:Program) (w:World):PySem.KeyKind prog w Key where
 is := keyIs
 hash:=keyH w
 inj := fun v a b ha hb=>by
  rcases keyIs_shape ha with ⟨i,t,rfl,rfl⟩|⟨x,t,rfl,rfl⟩
  ·rcases keyIs_shape hb with ⟨j,u,rfl,e⟩|⟨y,u,rfl,e⟩
   ·injection e with e1 _;rw[e1]
   ·exact nomatch e
  ·rcases keyIs_shape hb with ⟨j,u,rfl,e⟩|⟨y,u,rfl,e⟩
   ·exact nomatch e
   ·injection e with e1 _;rw[e1]
 byValue:=fun k v h=>by
  rcases keyIs_shape h with ⟨i,t,rfl,rfl⟩|⟨x,t,rfl,rfl⟩ <;> rfl
 pyHash:=fun hv h=>by
  rcases keyIs_shape hv with ⟨i,t,rfl,rfl⟩|⟨x,t,rfl,rfl⟩
  ·exact wpAny_pyHash_int h
  ·exact wpAny_pyHash_str h
 eqBool:=fun hu hv h=>by
  rcases keyIs_shape hu with ⟨i,t,rfl,rfl⟩|⟨x,t,rfl,rfl⟩
  ·rcases keyIs_shape hv with ⟨j,u,rfl,rfl⟩|⟨y,u,rfl,rfl⟩
   ·rw [key_ll] at h;exact wpAny_eqBool_int h
   ·rw [key_lr] at h;exact SeqAt.EqAt.int_str i t y u _ _ _ _ h
  ·rcases keyIs_shape hv with ⟨j,u,rfl,rfl⟩|⟨y,u,rfl,rfl⟩
   ·rw [key_rl] at h;exact SeqAt.EqAt.str_int x t j u _ _ _ _ h
   ·rw [key_rr] at h;exact wpAny_eqBool_str h
 «strs»:=fun k x t v h=>by
  rcases keyIs_shape h with ⟨i,u,rfl,e⟩|⟨y,u,rfl,e⟩
  ·exact nomatch e
  ·injection e with e1 _
   subst e1
   cases v <;> rfl
end L2
namespace L2
open PySem PySem.Spec PyProof.Rows
inductive V where
 | non|bl (b:Bool)|int (i:Int)|str (x:Str)|byt (b:Array UInt8)|flt (b:UInt64)|ref (a:Addr)|ty (n:String)
 deriving DecidableEq
noncomputable def RelV:V→Value→Prop
 | .non,u=>u=Value.none
 | .bl b,u=>u=Value.bool b
 | .int i,u=>∃ t,u=Value.int i t
 | .str x,u=>∃ t,u=Value.str x t
 | .byt b,u=>∃ t,u=Value.bytes b t
 | .flt b,u=>∃ t,u=Value.float b t
 | .ref a,u=>u=Value.ref a
 | .ty n,u=>u=Value.type n
noncomputable abbrev Vals:List V→List Value→Prop:=Paired RelV
theorem Vals.length {xs:List V}{us:List Value} (r:Vals xs us):xs.length=us.length:=Paired.length r
theorem Vals.get:∀ {xs:List V}{us:List Value}{i:Nat}{x:V},Vals xs us→xs[i]? = some x→∃ u,us[i]? = some u∧RelV x u
 | _,_,_,_,.nil,e=>by simp at e
 | _,_,0,_,.cons r _,e=>by simp at e;subst e;exact⟨_,rfl,r⟩
 | _,_,i+1,x,.cons _ t,e=>by
  obtain ⟨u,h1,h2⟩:=Vals.get (i:=i) (x:=x) t (by simpa using e)
  exact ⟨u,by simpa using h1,h2⟩
theorem Vals.set {x:V}{u:Value} (r:RelV x u):∀ {xs:List V}{us:List Value} (i:Nat),Vals xs us→Vals (xs.set i x) (us.set i u)
 | _,_,_,.nil=>.nil
 | _,_,0,.cons _ t=>.cons r t
 | _,_,i+1,.cons q t=>.cons q (Vals.set r i t)
theorem Vals.append:∀ {xs ys:List V}{us ws:List Value},Vals xs us→Vals ys ws→Vals (xs++ys) (us++ws)
 | _,_,_,_,.nil,s=>s
 | _,_,_,_,.cons r t,s=>.cons r (Vals.append t s)
theorem Vals.take:∀ {xs:List V}{us:List Value} (n:Nat),Vals xs us→Vals (xs.take n) (us.take n)
 | _,_,0,_=>.nil
 | _,_,_+1,.nil=>.nil
 | _,_,n+1,.cons r t=>.cons r (Vals.take n t)
theorem Vals.drop:∀ {xs:List V}{us:List Value} (n:Nat),Vals xs us→Vals (xs.drop n) (us.drop n)
 | _,_,0,r=>r
 | _,_,_+1,.nil=>.nil
 | _,_,n+1,.cons _ t=>Vals.drop n t
noncomputable def RelO:Option V→Option Value→Prop
 | some v,some u=>RelV v u
 | none,none=>True
 | _,_=>False
noncomputable def KV {κ:Type}:List (κ×V)→List (κ×Value)→Prop:=Paired fun (p:κ×V) (q:κ×Value)=>p.1=q.1∧RelV p.2 q.2
noncomputable def kV:Key→V
 | .inl i=>.int i
 | .inr x=>.str x
inductive HO where
 | lst (xs:List V)
 | tup (xs:List V)
 | dK (kvs:List (Key×V))|dT (kvs:List (List Key×V))
 | set (S:Int→Bool) (n:Nat)
 | ins (C dx:Addr) (fs:List (Str×V))
 | own (x:Addr)
 | xd (fs:List (Str×V))
 | met (f x:Addr)
 | rng (lo hi:Int)
 | frz (o:Obj) (u:HO)
 | tbl (q:Str)
 | ext (φ:Heap→Prop)
noncomputable abbrev Hp:=Addr→Option HO
noncomputable def Fix:HO→Prop
 | .tup _=>True
 | .frz _ _=>True
 | _=>False
noncomputable def TabOk (H:Hp) (h:Heap) (a:Addr) (q:Str):Prop:=∃ ps:Array Value,h.get? a=some { cls:=.none,data:=.fields ps }∧TriplesOk ps.toList ∧
 ∀ pos cv,codeAmong pos ps.toList=some cv→∃ c oc u vs t,cv=.ref c∧H c=some (.frz oc u)∧oc.data=.fields vs∧vs[1]? = some (.str q t)
noncomputable def upd (H:Hp) (a:Addr) (o:HO):Hp:=fun b=>if b=a then some o else H b
theorem upd_same {H:Hp}{a:Addr}{o:HO}:upd H a o a=some o:=by unfold upd;rw[if_pos rfl]
theorem upd_ne {H:Hp}{a b:Addr}{o:HO} (h:b≠a):upd H a o b=H b:=by unfold upd;rw[if_neg h]
theorem ne_of_none {H:Hp}{a b:Addr}{o:HO} (h:H a=some o) (h':H b=none):a≠b:=by
 intro e;subst e;rw[h] at h';cases h'
section
variable (P:Program) (w:World)
noncomputable def ObjOk (H:Hp) (h:Heap) (a:Addr):HO→Prop
 | .lst xs=>xs.length≤sizeLine∧∃ (its:List Value) (n:Nat),Vals xs its∧h.get? a=some { cls:=.type "list",data:=.seq its.toArray n }
 | .tup xs=>xs.length≤sizeLine∧∃ its:List Value,Vals xs its∧IsTup h a its.toArray
 | .dK kvs=>kvs.length≤sizeLine∧(a==sysModules)=false∧∃ vs,KV kvs vs∧h.DictOf (mixKind P w) a vs
 | .dT kvs=>kvs.length≤sizeLine∧(a==sysModules)=false∧∃ xs:List (List Key×Addr×Value),
   Paired (fun (p:List Key×V) (q:List Key×Addr×Value)=>p.1=q.1∧H q.2.1=some (.tup (p.1.map kV))∧RelV p.2 q.2.2) kvs xs ∧
   ∃ o es ep,h.get? a=some o∧o.ExactDict∧o.data=.dict es ep∧es.toList=xs.map (entryOfKey (tupleKind (mixKind P w)))∧(xs.map (·.1)).Nodup
 | .set S n=>h.SetOf (intKind P w) a S n
 | .ins C dx fs=>H dx=some (.own a)∧fs.length≤1000∧dx≠a∧h.get? a=some (PySem.W.instObj C dx) ∧
   ∃ mA,h.Ns1 dx mA∧(∀ f,RelO (fs.lookup f) (mA f))∧PySem.Within mA (fs.map (·.1))
 | .own _=>∃ o,h.get? a=some o
 | .xd fs=>∃ mA,h.Ns1 a mA∧∀ f,RelO (fs.lookup f) (mA f)
 | .rng lo hi=>∃ t u v,h.get? a=some { cls:=.type "range",data:=.fields #[.int lo t,.int hi u,.int 1 v] }
 | .frz o u=>h.get? a=some o∧ObjOk H h a u
 | .tbl q=>TabOk H h a q
 | .met f x=>h.get? a=some (PySem.W.methodObj (.ref f) (.ref x))
 | .ext φ=>φ h∧(∃ o,h.get? a=some o)∧∀ h1 h2:Heap,φ h1→(∀ o,h1.get? a=some o→h2.get? a=some o)→φ h2
noncomputable def HOk (H:Hp) (h:Heap):Prop:=∀ a o,H a=some o→ObjOk P w H h a o
end
section
variable {P:Program}{w:World}{H H':Hp}{h h':Heap}{a:Addr}{o:HO}
theorem ObjOk.lt (x:ObjOk P w H h a o):a<h.objs.size:=by
 cases o with
 | lst xs=>obtain⟨_,_,_,_,e⟩:=x;exact Heap.lt_size e
 | tup xs=>obtain⟨_,_,_,p⟩:=x;exact p.lt
 | dK kvs=>obtain⟨_,_,_,_,o,_,_,e,_⟩:=x;exact Heap.lt_size e
 | dT kvs=>obtain⟨_,_,_,_,o,_,_,e,_⟩:=x;exact Heap.lt_size e
 | set S n=>obtain⟨o,_,_,_,e,_⟩:=x;exact Heap.lt_size e
 | ins C dx fs=>obtain⟨_,_,_,e,_⟩:=x;exact Heap.lt_size e
 | own y=>obtain⟨_,e⟩:=x;exact Heap.lt_size e
 | xd fs=>obtain⟨_,⟨_,_,_,e,_⟩,_⟩:=x;exact Heap.lt_size e
 | rng lo hi=>obtain⟨_,_,_,e⟩:=x;exact Heap.lt_size e
 | frz ob u=>obtain⟨e,_⟩:=x;exact Heap.lt_size e
 | tbl q=>obtain⟨_,e,_⟩:=x;exact Heap.lt_size e
 | met f y=>exact Heap.lt_size (show h.get? a=some _ from x)
 | ext φ=>obtain⟨_,⟨_,e⟩,_⟩:=x;exact Heap.lt_size e
theorem Paired.mapP {α β:Type}{F G:α→β→Prop}:∀ {l₁:List α}{l₂:List β},Paired F l₁ l₂→(∀ a b,F a b→G a b)→Paired G l₁ l₂
 | _,_,.nil,_=>.nil
 | _,_,.cons r t,f=>.cons (f _ _ r) (Paired.mapP t f)
theorem ObjOk.stay (x:ObjOk P w H h a o) (k:∀ b u,(b=a∨H b=some (.own a))→h.get? b=some u→h'.get? b=some u)
  (ho:∀ b,H b=some (.own a)→H' b=some (.own a)) (ht:∀ b o,Fix o→H b=some o→H' b=some o):ObjOk P w H' h' a o:=by
 induction o with
 | lst xs=>obtain⟨z,its,n,r,e⟩:=x;exact⟨z,its,n,r,k _ _ (.inl rfl) e⟩
 | tup xs=>obtain⟨z,its,r,ob,e,c⟩:=x;exact⟨z,its,r,ob,k _ _ (.inl rfl) e,c⟩
 | dK kvs=>obtain⟨z,y,vs,r,ob,es,ep,e,c⟩:=x;exact⟨z,y,vs,r,ob,es,ep,k _ _ (.inl rfl) e,c⟩
 | dT kvs =>
  obtain ⟨z,y,xs,r,ob,es,ep,e,c⟩:=x
  exact ⟨z,y,xs,Paired.mapP r fun p q z=>⟨z.1,ht _ _ trivial z.2.1,z.2.2⟩,ob,es,ep,k _ _ (.inl rfl) e,c⟩
 | set S n=>obtain⟨ob,es,ep,t,e,c⟩:=x;exact⟨ob,es,ep,t,k _ _ (.inl rfl) e,c⟩
 | ins C dx fs =>
  obtain ⟨d,z,ne,e,mA,⟨od,es,ep,e2,c⟩,r⟩:=x
  exact ⟨ho _ d,z,ne,k _ _ (.inl rfl) e,mA,⟨od,es,ep,k _ _ (.inr d) e2,c⟩,r⟩
 | own y=>obtain⟨ob,e⟩:=x;exact⟨ob,k _ _ (.inl rfl) e⟩
 | xd fs=>obtain⟨mA,⟨od,es,ep,e,c⟩,r⟩:=x;exact⟨mA,⟨od,es,ep,k _ _ (.inl rfl) e,c⟩,r⟩
 | rng lo hi=>obtain⟨t,u,v,e⟩:=x;exact⟨t,u,v,k _ _ (.inl rfl) e⟩
 | frz ob u ih=>obtain⟨e,q⟩:=x;exact⟨k _ _ (.inl rfl) e,ih q⟩
 | tbl q =>
  obtain ⟨ps,e,t,c⟩:=x
  exact ⟨ps,k a _ (.inl rfl) e,t,fun pos cv hcv=>let ⟨b,oc,u,vs,t,e1,e2,e3⟩:=c pos cv hcv;⟨b,oc,u,vs,t,e1,ht _ _ trivial e2,e3⟩⟩
 | met f y =>
  have e:h.get? a=some (PySem.W.methodObj (.ref f) (.ref y)):=x
  show h'.get? a=some (PySem.W.methodObj (.ref f) (.ref y))
  exact k a _ (.inl rfl) e
 | ext φ=>obtain⟨p,⟨o,e⟩,st⟩:=x;exact⟨st _ _ p fun o q=>k _ _ (.inl rfl) q,⟨o,k _ _ (.inl rfl) e⟩,st⟩
theorem HOk.lt (x:HOk P w H h) (e:H a=some o):a<h.objs.size:=(x a o e).lt
theorem HOk.fresh (x:HOk P w H h) (e:h.objs.size≤a):H a=none:=by
 cases q:H a with
 | none=>rfl
 | some u=>exact absurd (Nat.lt_of_lt_of_le (x.lt q) e) (Nat.lt_irrefl _)
theorem HOk.kept (x:HOk P w H h) (k:∀ b u,h.get? b=some u→h'.get? b=some u):HOk P w H h':=fun a o e =>
 (x a o e).stay (fun b u _ q=>k b u q) (fun _ q=>q) fun _ _ _ q=>q
theorem HOk.laid (x:HOk P w H h) (k:∀ b u,h.get? b=some u→h'.get? b=some u) (hp:h.objs.size≤a) (new:ObjOk P w (upd H a o) h' a o):HOk P w (upd H a o) h':=fun b u e=>by
 have hn:=x.fresh hp
 by_cases hb:b=a
 ·subst hb;rw[upd_same] at e;cases e;exact new
 ·rw [upd_ne hb] at e
  exact (x b u e).stay (fun c v _ q=>k c v q) (fun c q=>by rw[upd_ne (ne_of_none q hn)];exact q) fun c xs _ q=>by rw[upd_ne (ne_of_none q hn)];exact q
end
noncomputable def Rd (H:Hp) (a:Addr) (u:HO):Prop:=H a=some u∨∃ o,H a=some (.frz o u)
theorem Rd.of {H:Hp}{a:Addr}{u:HO} (h:H a=some u):Rd H a u:=.inl h
theorem Rd.ok {P:Program}{w:World}{H:Hp}{h:Heap}{a:Addr}{u:HO} (r:Rd H a u) (x:HOk P w H h):ObjOk P w H h a u:=by
 rcases r with r|⟨o,r⟩
 ·exact x a u r
 ·obtain ⟨_,q⟩:=x a _ r
  exact q
noncomputable def Mut:Option HO→Prop
 | some (.lst _)=>True
 | some (.dK _)=>True
 | some (.dT _)=>True
 | some (.set _ _)=>True
 | some (.ins _ _ _)=>True
 | some (.ext _)=>True
 | _=>False
section
variable {P:Program}{w:World}{H:Hp}{h h':Heap}{x e:Addr}{o':HO}
theorem HOk.write (ok:HOk P w H h) (mu:Mut (H x)) (he:e=x∨H e=some (.own x)) (k:∀ b u,b≠e→h.get? b=some u→h'.get? b=some u) (heo:∃ u,h'.get? e=some u)
  (new:ObjOk P w (upd H x o') h' x o'):HOk P w (upd H x o') h':=fun b u q=>by
 have nown:∀ c y,H c=some (.own y)→c≠x:=fun c y r z=>by subst z;rw[r] at mu;exact mu
 have ntup:∀ c o,Fix o→H c=some o→c≠x:=fun c o f r z=>by subst z;rw[r] at mu;cases o <;> first|exact mu|exact f
 by_cases hb:b=x
 ·subst hb;rw[upd_same] at q;cases q;exact new
 ·rw [upd_ne hb] at q
  by_cases hbe:b=e
  ·have q':H b=some (.own x):=by
    rcases he with z|z
    ·exact absurd (hbe.trans z) hb
    ·rw [hbe];exact z
   rw [q] at q';cases q'
   obtain ⟨v,hv⟩:=heo
   exact ⟨v,by rw[hbe];exact hv⟩
  ·refine (ok b u q).stay (fun c v hc r=>k c v ?_ r) (fun c r=>by rw[upd_ne (nown c b r)];exact r) fun c xs f r=>by rw[upd_ne (ntup c xs f r)];exact r
   rcases hc with rfl|hc
   ·exact hbe
   ·rintro rfl
    rcases he with z|z
    ·exact nown c b hc z
    ·rw [hc] at z;cases z;exact hb rfl
end
structure Un (fs ex:List Addr) (H H':Hp) (h h':Heap):Prop where
 keep:∀ b o,h.get? b=some o→H b=none→b ∉ fs→b ∉ ex→h'.get? b=some o
 slot:∀ b o,h.get? b=some o→H b=none→b∈fs→b ∉ ex→∃ sl,h'.get? b=some { o with slots:=sl }
 free:∀ b o,h.get? b=some o→H b=none→b ∉ ex→H' b=none
 there:∀ b o,h.get? b=some o→b ∉ ex→∃ o',h'.get? b=some o'
 tups:∀ b xs,H b=some (.tup xs)→H' b=some (.tup xs)
 frzs:∀ b o u,H b=some (.frz o u)→H' b=some (.frz o u)
 tbls:∀ b q,H b=some (.tbl q)→H' b=some (.tbl q)
section
variable {fs fs' ex ex':List Addr}{H H1 H2:Hp}{h h1 h2 h':Heap}{a x e:Addr}{o:HO}
theorem Un.any (u:Un fs ex H H1 h h1) {b:Addr}{ob:Obj} (q:h.get? b=some ob) (n:H b=none) (hx:b ∉ ex):∃ sl,h1.get? b=some { ob with slots:=sl }:=by
 by_cases hb:b∈fs
 ·exact u.slot b ob q n hb hx
 ·exact ⟨ob.slots,u.keep b ob q n hb hx⟩
theorem Un.trans (a:Un fs ex H H1 h h1) (b:Un fs ex H1 H2 h1 h2):Un fs ex H H2 h h2 where
 keep:=fun c ob q n hc hx=>b.keep c ob (a.keep c ob q n hc hx) (a.free c ob q n hx) hc hx
 slot:=fun c ob q n hc hx=>by
  obtain ⟨sl,e1⟩:=a.slot c ob q n hc hx
  obtain ⟨sl',e2⟩:=b.slot c _ e1 (a.free c ob q n hx) hc hx
  exact ⟨sl',e2⟩
 free:=fun c ob q n hx=>by
  obtain ⟨o',e1⟩:=a.there c ob q hx
  exact b.free c o' e1 (a.free c ob q n hx) hx
 there:=fun c ob q hx=>by
  obtain ⟨o',e1⟩:=a.there c ob q hx
  exact b.there c o' e1 hx
 tups:=fun c xs q=>b.tups c xs (a.tups c xs q)
 frzs:=fun c ob xs q=>b.frzs c ob xs (a.frzs c ob xs q)
 tbls:=fun c ps q=>b.tbls c ps (a.tbls c ps q)
theorem Un.kept (k:∀ b u,h.get? b=some u→h'.get? b=some u):Un fs ex H H h h' :=
 ⟨fun b ob q _ _ _=>k b ob q,fun b ob q _ _ _=>⟨ob.slots,k b ob q⟩,fun _ _ _ n _=>n,fun b ob q _=>⟨ob,k b ob q⟩,fun _ _ q=>q,fun _ _ _ q=>q,fun _ _ q=>q⟩
theorem Un.refl:Un fs ex H H h h:=Un.kept fun _ _ q=>q
theorem Un.laid (k:∀ b u,h.get? b=some u→h'.get? b=some u) (hp:h.objs.size≤a) (hn:H a=none):Un fs ex H (upd H a o) h h' where
 keep:=fun b u q _ _ _=>k b u q
 slot:=fun b u q _ _ _=>⟨u.slots,k b u q⟩
 free:=fun b u q n _=>by rw[upd_ne (Nat.ne_of_lt (Nat.lt_of_lt_of_le (Heap.lt_size q) hp))];exact n
 there:=fun b u q _=>⟨u,k b u q⟩
 tups:=fun b xs q=>by rw[upd_ne (ne_of_none q hn)];exact q
 frzs:=fun b u xs q=>by rw[upd_ne (ne_of_none q hn)];exact q
 tbls:=fun b ps q=>by rw[upd_ne (ne_of_none q hn)];exact q
theorem Un.write (mu:Mut (H x)) (he:e=x∨H e=some (.own x)) (k:∀ b u,b≠e→h.get? b=some u→h'.get? b=some u) (heo:∃ u,h'.get? e=some u):Un fs ex H (upd H x o) h h':=by
 have hx:∀ b,H b=none→b≠x:=fun b n z=>by subst z;rw[n] at mu;exact mu
 have hb:∀ b,H b=none→b≠e:=fun b n z=>by
  subst z
  rcases he with r|r
  ·exact hx b n r
  ·rw [n] at r;cases r
 have hm:∀ b u,H b=some u→¬Mut (some u)→b≠x:=fun b u q nm z=>by subst z;rw[q] at mu;exact nm mu
 refine ⟨fun b u q n _ _=>k b u (hb b n) q,fun b u q n _ _=>⟨u.slots,k b u (hb b n) q⟩,fun b u q n _=>by rw[upd_ne (hx b n)];exact n,fun b u q _=>?_,
  fun b xs q=>by rw[upd_ne (hm b _ q fun z=>z)];exact q,fun b u xs q=>by rw[upd_ne (hm b _ q fun z=>z)];exact q,fun b ps q=>by rw[upd_ne (hm b _ q fun z=>z)];exact q⟩
 by_cases hbe:b=e
 ·subst hbe;exact heo
 ·exact ⟨u,k b u hbe q⟩
theorem Un.mono (u:Un fs ex H H1 h h1) (hs:∀ b∈fs,b∈fs') (hx:∀ b∈ex,b∈ex'):Un fs' ex' H H1 h h1 :=
 ⟨fun b ob q n hb he=>u.keep b ob q n (fun z=>hb (hs b z)) fun z=>he (hx b z),fun _ _ q n _ he=>u.any q n fun z=>he (hx _ z),fun b ob q n he=>u.free b ob q n fun z=>he (hx b z),fun b ob q he=>u.there b ob q fun z=>he (hx b z),u.tups,u.frzs,u.tbls⟩
end
noncomputable def trk (h:Heap) (H:Hp):List Addr:=(List.range h.objs.size).filter fun a=>(H a).isSome
noncomputable def hidT (h:Heap) (H:Hp):Heap:=PySem.W.hideAll h (trk h H)
theorem hidT_size (h:Heap) (H:Hp):(hidT h H).objs.size=h.objs.size:=PySem.W.hideAll_size _ _
theorem hidT_get {h:Heap}{H:Hp}{b:Addr}{o:Obj} (e:h.get? b=some o) (n:H b=none):(hidT h H).get? b=some o :=
 PySem.W.hideAll_get _ e fun hm=>by
  have q:(H b).isSome=true:=(List.mem_filter.mp hm).2
  rw [n] at q;simp at q
theorem of_hidT {h:Heap}{H:Hp}{b:Addr}{o:Obj} (e:(hidT h H).get? b=some o):h.get? b=some o∧H b=none:=by
 have e':h.get? b=some o:=PySem.W.of_hideAll (trk h H) e
 refine ⟨e',?_⟩
 cases q:H b with
 | none=>rfl
 | some x =>
  have hm:b∈trk h H:=List.mem_filter.mpr ⟨List.mem_range.mpr (Heap.lt_size e'),by simp[q]⟩
  have z:(hidT h H).get? b=none:=PySem.W.hideAll_none (trk h H) hm
  rw [z] at e;cases e
noncomputable def allNews (g h:Heap) (L:Addr):List (Addr×Obj):=(List.range h.objs.size).filterMap fun a=>if a=L∨(g.get? a).isSome=true then none else (h.get? a).map fun o=>(a,o)
noncomputable def rest (g h:Heap) (L d:Addr):List (Addr×Obj):=(allNews g h L).filter fun p=>decide (p.1≠d)
end L2
namespace L2
open PySem PySem.Spec PyProof.Rows
structure Mod (K:PySem.W.Frag) (mg:Str→Option Value) (base:Heap):Prop where
 kin:K.In base
 glob:base.Ns mainGlobals mg
 blt:∃ mb,base.Ns builtinsNs mb∧∀ x:Str,x ≠ "__name__" → mb x=bootBuiltins x
 nolimit:base.NoLimit
 bmain:∃ bm ob,mg "__builtins__" = some (.ref bm)∧bm≠builtinsNs∧base.get? bm=some ob∧ob.cls=.type "module" ∧ ob.dict=some builtinsNs∧ob.data=.plain
noncomputable def lamNames:List Str:=["choices", "full_rows", "chain_plan"]
noncomputable def LamTab (K:PySem.W.Frag) (T:Addr) (q:Str):Prop:=∃ x∈lamNames,∃ f o fd c oc vs,PySem.W.nsIn K mainGlobals x=some (some (.ref f))∧K.lookup f=some o∧o.data=.func fd∧fd.code=.ref c ∧
 K.lookup c=some oc∧oc.data=.fields vs∧vs[11]? = some (.ref T)∧q=x ++ ".<locals>.<lambda>"
noncomputable def TabsIn (K:PySem.W.Frag) (H:Hp):Prop:=∀ T q,LamTab K T q→H T=some (.tbl q)
structure Cx where
 prog:Program
 w : World
 K : PySem.W.Frag
 mg : Str→Option Value
 base:Heap
 A : Around
 N : List Str
 s₀ : Shared
 H₀ : Hp
 env:Env
 outer:List Env
 stack:List Env
 ex : List Addr
 fn : Str→Bool
 calm:Bool
 pn : List (Addr×Obj)
 xe : Value→Shared→Prop
noncomputable def frs (l:List Env):List Addr:=l.filterMap (·.frame)
noncomputable abbrev Cx.fs (X:Cx):List Addr:=frs X.outer
noncomputable def Vis (sc:Scope) (x:Str):Prop:=sc.names.lookup x=some .local∨sc.names.lookup x=some .cell∨sc.names.lookup x=some .free
noncomputable def Loc (sc:Scope) (x:Str):Prop:=sc.names.lookup x=some .local∨sc.names.lookup x=some .cell
noncomputable def Look (env:Env) (h:Heap) (m:Str→Option Value) (x:Str) (u:Value):Prop :=
 (env.kindOf x=some .local∧m x=some u)∨((env.kindOf x=some .cell∨env.kindOf x=some .free)∧∃ c,env.cells.lookup x=some c∧h.IsCell c (some u))
structure Cx.Ok (X:Cx):Prop where
 mod:Mod X.K X.mg X.base
 kind:X.env.scope.kind=.function
 glob:X.env.globals=mainGlobals
 blt:X.env.builtins=builtinsNs
 above:X.s₀.heap.objs.size≤X.env.locals
 inj:∀ x y c,X.env.cells.lookup x=some c→X.env.cells.lookup y=some c→x=y
 has:∀ x,(X.env.kindOf x=some .cell∨X.env.kindOf x=some .free)→∃ c,X.env.cells.lookup x=some c
 cab:∀ x c,X.fn x=true→X.env.cells.lookup x=some c→X.s₀.heap.objs.size≤c
 hd : X.calm=true→X.A.handled=none
 frames:X.A.frames=some X.stack
 stk:X.stack=X.outer∨(X.stack=X.env::X.outer∧X.env.frame=some X.env.locals)
 exf:∀ b∈X.ex,b≠X.env.locals∧∀ x c,X.env.cells.lookup x=some c→c≠b
 bs : ∀ b o,X.base.get? b=some o→X.s₀.heap.get? b=some o∧X.H₀ b=none
 bsz:X.base.objs.size≤X.s₀.heap.objs.size
 noex:∀ b o,X.base.get? b=some o→b ∉ X.ex
 exfs:∀ b∈X.ex,b ∉ X.fs
 funs:X.s₀.heap.FunFrames X.base X.outer
 frf:∀ b∈X.fs,X.H₀ b=none
 tab:TabsIn X.K X.H₀
structure Inv (X:Cx) (pins:List (Addr×Obj)) (σ:List (Option V)) (H:Hp) (s:Shared):Prop where
 ok : X.Ok
 os : s.os=X.s₀.os
 bare:AllBare s.gens
 base:Un X.fs X.ex X.H₀ H X.s₀.heap s.heap
 loc:∃ m,s.heap.Ns X.env.locals m∧∀ (i:Nat) (x:Str) (v:V),X.N[i]? = some x→σ[i]? = some (some v)→Vis X.env.scope x→∃ u,RelV v u∧Look X.env s.heap m x u
 cell:∀ x c,X.env.cells.lookup x=some c→∃ v,s.heap.IsCell c v
 free:H X.env.locals=none
 freeC:∀ x c,X.env.cells.lookup x=some c→H c=none
 pin:∀ p∈X.pn++pins,s.heap.get? p.1=some p.2∧H p.1=none∧p.1≠X.env.locals∧p.1 ∉ X.fs∧∀ v,p.2.data≠.cell v
 hok:HOk X.prog X.w H s.heap
 len:σ.length=X.N.length
section
variable {X:Cx}{pins:List (Addr×Obj)}{σ:List (Option V)}{H H':Hp}{s:Shared}{h':Heap}
theorem Cx.Ok.nofr (ok:X.Ok) {b:Addr}{o:Obj} (e:X.base.get? b=some o):b ∉ X.fs:=fun hb=>by
 have:=(ok.funs.mem hb).1
 rw [e] at this;cases this
theorem Inv.bs (I:Inv X pins σ H s):∀ b o,X.base.get? b=some o→s.heap.get? b=some o∧H b=none:=fun b o e =>
 ⟨I.base.keep b o (I.ok.bs b o e).1 (I.ok.bs b o e).2 (I.ok.nofr e) (I.ok.noex b o e),I.base.free b o (I.ok.bs b o e).1 (I.ok.bs b o e).2 (I.ok.noex b o e)⟩
theorem Inv.bk (I:Inv X pins σ H s):∀ b o,X.base.get? b=some o→s.heap.get? b=some o:=fun b o e=>(I.bs b o e).1
theorem Inv.mod (I:Inv X pins σ H s):Mod X.K X.mg X.base:=I.ok.mod
theorem Inv.kIn (I:Inv X pins σ H s):X.K.In s.heap:=I.ok.mod.kin.keeps I.bk
theorem Inv.nolimit (I:Inv X pins σ H s):s.heap.NoLimit:=I.ok.mod.nolimit.keeps I.bk
theorem Inv.fr (I:Inv X pins σ H s):∃ m,Fr X.base X.env.locals s.heap m :=
 let ⟨m,hn,_⟩:=I.loc
 ⟨m,hn,I.bk,Nat.le_trans I.ok.bsz I.ok.above⟩
theorem Inv.lt (I:Inv X pins σ H s):X.env.locals<s.heap.objs.size:=let ⟨_,hn,_⟩:=I.loc;hn.lt
theorem Inv.sz (I:Inv X pins σ H s):X.s₀.heap.objs.size≤s.heap.objs.size:=Nat.le_trans I.ok.above (Nat.le_of_lt I.lt)
theorem Inv.nofs (I:Inv X pins σ H s) {a:Addr} (h:s.heap.objs.size≤a):a ∉ X.fs:=fun hb=>by
 obtain ⟨_,o,ho,_⟩:=I.ok.funs.mem hb
 exact absurd (Nat.lt_of_lt_of_le (Heap.lt_size ho) (Nat.le_trans I.sz h)) (Nat.lt_irrefl _)
theorem Inv.cne (I:Inv X pins σ H s):∀ x c,X.env.cells.lookup x=some c→c≠X.env.locals:=fun x c e z=>by
 obtain ⟨v,o,ho,hd⟩:=I.cell x c e
 obtain ⟨m,⟨o',es,ep,ho',hd',_⟩,_⟩:=I.loc
 rw [z,ho'] at ho;cases ho;rw[hd'] at hd;cases hd
theorem Inv.funs (I:Inv X pins σ H s):s.heap.FunFrames X.base X.outer:=by
 have all:∀ (l:List Env),(∀ b∈frs l,b∈X.fs)→X.s₀.heap.FunFrames X.base l→s.heap.FunFrames X.base l:=by
  intro l
  induction l with
  | nil=>intro _ _;trivial
  | cons env r ih =>
   intro hs hl
   obtain ⟨hk,⟨L,o,hf,hn,ho,hd⟩,hr⟩:=hl
   have hL:L∈X.fs:=hs L (by unfold frs;rw[List.filterMap_cons,hf];exact List.mem_cons_self)
   obtain ⟨sl,e⟩:=I.base.slot L o ho (I.ok.frf L hL) hL fun z=>I.ok.exfs L z hL
   exact ⟨hk,⟨L,_,hf,hn,e,hd⟩,ih (fun b hb=>hs b (by unfold frs;rw[List.filterMap_cons,hf];exact List.mem_cons_of_mem _ hb)) hr⟩
 exact all X.outer (fun _ hb=>hb) I.ok.funs
theorem Inv.stack (I:Inv X pins σ H s):s.heap.FunFrames X.base X.stack:=by
 rcases I.ok.stk with e|⟨e,hf⟩
 ·rw [e];exact I.funs
 ·rw [e]
  obtain ⟨m,hn,_⟩:=I.loc
  refine .cons (by rw[I.ok.kind];decide) hf hn ?_ I.funs
  exact Heap.get?_none_of_le (Nat.le_trans I.ok.bsz I.ok.above)
theorem Inv.stkSub (I:Inv X pins σ H s):∀ b∈frs X.stack,b∈X.env.locals::X.fs:=fun b hb=>by
 rcases I.ok.stk with e|⟨e,hf⟩
 ·rw [e] at hb;exact List.mem_cons_of_mem _ hb
 ·rw [e] at hb
  unfold frs at hb
  rw [List.filterMap_cons,hf] at hb
  exact hb
theorem Inv.stkFree (I:Inv X pins σ H s):∀ b∈frs X.stack,H b=none:=fun b hb=>by
 rcases List.mem_cons.mp (I.stkSub b hb) with e|hb
 ·rw [e];exact I.free
 ·obtain ⟨_,o,ho,_⟩:=I.ok.funs.mem hb
  exact I.base.free b o ho (I.ok.frf b hb) fun z=>I.ok.exfs b z hb
theorem Inv.step {g':Array GenState}{t':Nat}{d':Drawn}{ch:List Addr} (I:Inv X pins σ H s)
  (hch:∀ b∈ch,(b∈X.ex∨X.s₀.heap.objs.size≤b)∧b≠X.env.locals∧(∀ x c,X.env.cells.lookup x=some c→c≠b)∧∀ p∈X.pn++pins,p.1≠b)
  (keep:∀ b o,b≠X.env.locals→b ∉ X.fs→b ∉ ch→s.heap.get? b=some o→H b=none→h'.get? b=some o)
  (slot:∀ b o,b≠X.env.locals→b∈X.fs→b ∉ ch→s.heap.get? b=some o→H b=none→∃ sl,h'.get? b=some { o with slots:=sl }) (free:∀ b o,b ∉ ch→s.heap.get? b=some o→H b=none→H' b=none)
  (there:∀ b o,b ∉ ch→s.heap.get? b=some o→∃ o',h'.get? b=some o')
  (tups:∀ b xs,H b=some (.tup xs)→H' b=some (.tup xs)) (frzs:∀ b o u,H b=some (.frz o u)→H' b=some (.frz o u)) (tbls:∀ b ps,H b=some (.tbl ps)→H' b=some (.tbl ps))
  (ns:∀ m,s.heap.Ns X.env.locals m→h'.Ns X.env.locals m) (hok:HOk X.prog X.w H' h') (hg:AllBare g') :
  Inv X pins σ H' { s with heap:=h',gens:=g',drawn:=d',toks:=t' }:=by
 have neL:∀ b o,X.s₀.heap.get? b=some o→b≠X.env.locals:=fun b o e=>Nat.ne_of_lt (Nat.lt_of_lt_of_le (Heap.lt_size e) I.ok.above)
 have neC:∀ b o,X.s₀.heap.get? b=some o→b ∉ X.ex→b ∉ ch:=fun b o e hx hb=>by
  rcases (hch b hb).1 with z|z
  ·exact hx z
  ·exact absurd (Nat.lt_of_lt_of_le (Heap.lt_size e) z) (Nat.lt_irrefl _)
 have cellK:∀ x c,X.env.cells.lookup x=some c→∀ v,s.heap.IsCell c v→h'.IsCell c v:=fun x c e v ⟨o,ho,hd⟩=>by
  have nch:c ∉ ch:=fun z=>(hch c z).2.2.1 x c e rfl
  by_cases hc:c∈X.fs
  ·obtain ⟨sl,q⟩:=slot c o (I.cne x c e) hc nch ho (I.freeC x c e)
   exact ⟨_,q,hd⟩
  ·exact ⟨o,keep c o (I.cne x c e) hc nch ho (I.freeC x c e),hd⟩
 refine ⟨I.ok,I.os,hg,⟨fun b o e n hb hx=>?_,fun b o e n hb hx=>?_,fun b o e n hx=>?_,fun b o e hx=>?_,fun b xs e=>tups b xs (I.base.tups b xs e),fun b o xs e=>frzs b o xs (I.base.frzs b o xs e),fun b ps e=>?_⟩,?_,fun x c e=>?_,?_,fun x c e=>?_,fun p hp=>?_,hok,I.len⟩
 ·exact keep b o (neL b o e) hb (neC b o e hx) (I.base.keep b o e n hb hx) (I.base.free b o e n hx)
 ·obtain ⟨sl,e1⟩:=I.base.slot b o e n hb hx
  obtain ⟨sl',e2⟩:=slot b _ (neL b o e) hb (neC b o e hx) e1 (I.base.free b o e n hx)
  exact ⟨sl',e2⟩
 ·obtain ⟨o',e1⟩:=I.base.there b o e hx
  exact free b o' (neC b o e hx) e1 (I.base.free b o e n hx)
 ·obtain ⟨o',e1⟩:=I.base.there b o e hx
  exact there b o' (neC b o e hx) e1
 ·exact tbls b ps (I.base.tbls b ps e)
 ·obtain ⟨m,hn,hl⟩:=I.loc
  refine ⟨m,ns m hn,fun i x v e1 e2 e3=>?_⟩
  obtain ⟨u,r,l⟩:=hl i x v e1 e2 e3
  refine ⟨u,r,?_⟩
  rcases l with l|⟨k,c,e,z⟩
  ·exact .inl l
  ·exact .inr ⟨k,c,e,cellK x c e _ z⟩
 ·obtain ⟨v,z⟩:=I.cell x c e
  exact ⟨v,cellK x c e v z⟩
 ·obtain ⟨m,⟨o,_,_,ho,_⟩,_⟩:=I.loc
  exact free _ o (fun z=>(hch _ z).2.1 rfl) ho I.free
 ·obtain ⟨v,o,ho,hd⟩:=I.cell x c e
  exact free c o (fun z=>(hch c z).2.2.1 x c e rfl) ho (I.freeC x c e)
 ·obtain ⟨e,n,ne,nf,d⟩:=I.pin p hp
  have nch:p.1 ∉ ch:=fun z=>(hch p.1 z).2.2.2 p hp rfl
  exact ⟨keep p.1 p.2 ne nf nch e n,free p.1 p.2 nch e n,ne,nf,d⟩
theorem Inv.un {t':Nat} (I:Inv X pins σ H s) (u:Un X.fs [] H H' s.heap h') (hok:HOk X.prog X.w H' h'):Inv X pins σ H' { s with heap:=h',toks:=t' }:=by
 obtain ⟨m,⟨o,es,ep,ho,r⟩,_⟩:=id I.loc
 obtain ⟨sl,hL⟩:=u.any ho I.free (by simp)
 exact I.step (g':=s.gens) (d':=s.drawn) (ch:=[]) (fun _ z=>nomatch z) (fun b o _ hb _ e n=>u.keep b o e n hb (by simp)) (fun b o _ hb _ e n=>u.slot b o e n hb (by simp)) (fun b o _ e n=>u.free b o e n (by simp)) (fun b o _ e=>u.there b o e (by simp)) u.tups u.frzs u.tbls (fun m' hm=>by
  obtain ⟨o',es',ep',ho',r'⟩:=hm
  rw [ho] at ho';cases ho'
  exact ⟨_,es',ep',hL,r'⟩) hok I.bare
theorem Inv.call {g':Array GenState}{t':Nat}{d':Drawn}{ch:List Addr} (I:Inv X pins σ H s) (u:Un (frs X.stack) ch H H' s.heap h') (hok:HOk X.prog X.w H' h') (hg:AllBare g')
  (hch:∀ b∈ch,(b∈X.ex∨X.s₀.heap.objs.size≤b)∧b≠X.env.locals∧(∀ x c,X.env.cells.lookup x=some c→c≠b)∧∀ p∈X.pn++pins,p.1≠b) :
  Inv X pins σ H' { s with heap:=h',gens:=g',drawn:=d',toks:=t' }:=by
 obtain ⟨m,⟨o,es,ep,ho,r⟩,_⟩:=id I.loc
 obtain ⟨sl,hL⟩:=u.any ho I.free fun z=>(hch _ z).2.1 rfl
 exact I.step (ch:=ch) hch (fun b o hL hb hc e n=>u.keep b o e n (fun z=>(List.mem_cons.mp (I.stkSub b z)).elim hL hb) hc) (fun b o _ _ hc e n=>u.any e n hc) (fun b o hc e n=>u.free b o e n hc) (fun b o hc e=>u.there b o e hc) u.tups u.frzs u.tbls (fun m' hm=>by
  obtain ⟨o',es',ep',ho',r'⟩:=hm
  rw [ho] at ho';cases ho'
  exact ⟨_,es',ep',hL,r'⟩) hok hg
theorem Inv.turned {t':Nat}{it:Addr} (I:Inv X pins σ H s) (k:∀ b o,b≠it→s.heap.get? b=some o→h'.get? b=some o) (hn:H it=none) (hL:it≠X.env.locals)
  (h1:it∈X.ex∨X.s₀.heap.objs.size≤it) (h2:∀ x c,X.env.cells.lookup x=some c→c≠it) (h3:∀ p∈X.pn++pins,p.1≠it):Inv X pins σ H { s with heap:=h',toks:=t' }:=by
 have nit:∀ b u,H b=some u→b≠it:=fun b u e z=>by rw[z,hn] at e;cases e
 refine I.step (g':=s.gens) (d':=s.drawn) (ch:=[it]) (fun b hb=>?_) (fun b o _ _ hc e _=>k b o (fun z=>hc (by simp[z])) e) (fun b o _ _ hc e _=>⟨o.slots,k b o (fun z=>hc (by simp[z])) e⟩) (fun _ _ _ _ n=>n)
  (fun b o hc e=>⟨o,k b o (fun z=>hc (by simp[z])) e⟩) (fun _ _ e=>e) (fun _ _ _ e=>e) (fun _ _ e=>e) (fun m hm=>?_) (fun b u e=>?_) I.bare
 ·have e:b=it:=by simpa using hb
  subst e
  exact ⟨h1,hL,h2,h3⟩
 ·obtain ⟨o,es,ep,ho,r⟩:=hm
  exact ⟨o,es,ep,k _ o (Ne.symm hL) ho,r⟩
 ·refine (I.hok b u e).stay (fun c v hc q=>k c v ?_ q) (fun _ q=>q) fun _ _ _ q=>q
  rcases hc with z|z
  ·rw [z];exact nit b u e
  ·exact nit c _ z
theorem Inv.tok (I:Inv X pins σ H s) (t:Nat):Inv X pins σ H { s with toks:=t }:=I.un (h':=s.heap) (t':=t) Un.refl I.hok
theorem Inv.kept {t':Nat} (I:Inv X pins σ H s) (k:∀ b u,s.heap.get? b=some u→h'.get? b=some u):Inv X pins σ H { s with heap:=h',toks:=t' }:=I.un (Un.kept k) (I.hok.kept k)
theorem Inv.laid {a:Addr}{o:HO}{t':Nat} (I:Inv X pins σ H s) (k:∀ b u,s.heap.get? b=some u→h'.get? b=some u) (hp:s.heap.objs.size≤a) (new:ObjOk X.prog X.w (upd H a o) h' a o) :
  Inv X pins σ (upd H a o) { s with heap:=h',toks:=t' }:=I.un (Un.laid k hp (I.hok.fresh hp)) (I.hok.laid k hp new)
theorem Inv.write {x e:Addr}{o:HO}{t':Nat} (I:Inv X pins σ H s) (mu:Mut (H x)) (he:e=x∨H e=some (.own x)) (k:∀ b u,b≠e→s.heap.get? b=some u→h'.get? b=some u) (heo:∃ u,h'.get? e=some u)
  (new:ObjOk X.prog X.w (upd H x o) h' x o):Inv X pins σ (upd H x o) { s with heap:=h',toks:=t' }:=I.un (Un.write mu he k heo) (I.hok.write mu he k heo new)
theorem Inv.pins_of {pins':List (Addr×Obj)} (I:Inv X pins σ H s) (h:∀ p∈pins',s.heap.get? p.1=some p.2∧H p.1=none∧p.1≠X.env.locals∧p.1 ∉ X.fs∧∀ v,p.2.data≠.cell v):Inv X pins' σ H s :=
 ⟨I.ok,I.os,I.bare,I.base,I.loc,I.cell,I.free,I.freeC,fun p hp=>(List.mem_append.mp hp).elim (fun z=>I.pin p (List.mem_append_left _ z)) (h p),I.hok,I.len⟩
theorem nodup_ix {N:List Str} (hN:N.Nodup) {i j:Nat}{x:Str} (a:N[i]? = some x) (b:N[j]? = some x):i=j:=by
 obtain ⟨h1,e1⟩:=List.getElem?_eq_some_iff.mp a
 obtain ⟨h2,e2⟩:=List.getElem?_eq_some_iff.mp b
 exact (List.getElem_inj hN).mp (e1.trans e2.symm)
theorem store_ok2 {M:Model}{A:Around}{E:Value→Shared→Prop}{i:Nat}{x:Str}{v:V}{u:Value}{Q:Unit→Shared→Prop} (I:Inv X pins σ H s) (hN:X.N.Nodup) (hi:X.N[i]? = some x) (hx:Loc X.env.scope x) (r:RelV v u)
  (h : ∀ s',Inv X pins (σ.set i (some v)) H s'→(∃ a,Heap.SameBut a s.heap s'.heap∧(a=X.env.locals∨X.env.cells.lookup x=some a))→Q () s') (hf:X.fn x=true∨X.env.scope.names.lookup x=some .local:=by first|exact .inl rfl|exact .inr rfl|assumption):wpAny M A (storeName X.env x u) Q E s:=by
 obtain ⟨m,hn,hl⟩:=id I.loc
 have hcls:(X.env.scope.kind==.class || (X.env.scope.kind==.module&&X.env.locals != X.env.globals))=false:=by rw[I.ok.kind];rfl
 have hiσ:i<σ.length:=by rw[I.len];exact (List.getElem?_eq_some_iff.mp hi).1
 have cne:=I.cne
 have tracked:∀ {a:Addr}{h':Heap},(∃ o,s.heap.get? a=some o∧H a=none)→Heap.SameBut a s.heap h'→HOk X.prog X.w H h':=fun {a h'} ha hs b ob e=>by
  obtain ⟨_,_,hfree⟩:=ha
  refine (I.hok b ob e).stay (fun c w' hc q=>(hs.2 c ?_).trans q) (fun _ q=>q) fun _ _ _ q=>q
  rintro rfl
  rcases hc with rfl|hc
  ·rw [hfree] at e;cases e
  ·rw [hfree] at hc;cases hc
 rcases hx with hk|hk
 ·refine wpAny_storeName_local hk hn (fun h' hn' hs=>?_) hcls
  obtain ⟨oL,_,_,hoL,_⟩:=id hn
  refine h _ ⟨I.ok,I.os,I.bare,⟨fun b o e n hb hx=>?_,fun b o e n hb hx=>?_,I.base.free,fun b o e hx=>?_,I.base.tups,I.base.frzs,I.base.tbls⟩,⟨_,hn',fun j y v' e1 e2 e3=>?_⟩,fun y c e=>?_,I.free,I.freeC,fun p hp=>?_,tracked ⟨oL,hoL,I.free⟩ hs,by simpa using I.len⟩ ⟨_,hs,.inl rfl⟩
  ·exact (hs.2 b (Nat.ne_of_lt (Nat.lt_of_lt_of_le (Heap.lt_size e) I.ok.above))).trans (I.base.keep b o e n hb hx)
  ·obtain ⟨sl,e1⟩:=I.base.slot b o e n hb hx
   exact ⟨sl,(hs.2 b (Nat.ne_of_lt (Nat.lt_of_lt_of_le (Heap.lt_size e) I.ok.above))).trans e1⟩
  ·obtain ⟨o',e1⟩:=I.base.there b o e hx
   exact ⟨o',(hs.2 b (Nat.ne_of_lt (Nat.lt_of_lt_of_le (Heap.lt_size e) I.ok.above))).trans e1⟩
  ·by_cases hj:j=i
   ·subst hj
    rw [hi] at e1;cases e1
    rw [List.getElem?_set_self hiσ] at e2
    cases e2
    exact ⟨u,r,.inl ⟨hk,by simp⟩⟩
   ·rw [List.getElem?_set_ne (Ne.symm hj)] at e2
    obtain ⟨u',r',q⟩:=hl j y v' e1 e2 e3
    refine ⟨u',r',?_⟩
    rcases q with ⟨k,e⟩|⟨k,c,e,z⟩
    ·refine .inl ⟨k,?_⟩
     have:y≠x:=fun e=>hj (nodup_ix hN e1 (e▸hi))
     simp [this,e]
    ·exact .inr ⟨k,c,e,z.sameBut hs (cne y c e)⟩
  ·obtain ⟨w',z⟩:=I.cell y c e
   exact ⟨w',z.sameBut hs (cne y c e)⟩
  ·obtain ⟨e,n,ne,nf,d⟩:=I.pin p hp
   exact ⟨(hs.2 p.1 ne).trans e,n,ne,nf,d⟩
 ·have hfn:X.fn x=true:=by
   rcases hf with z|z
   ·exact z
   ·rw [z] at hk;cases hk
  obtain ⟨c,hc⟩:=I.ok.has x (.inl hk)
  obtain ⟨w',z⟩:=I.cell x c hc
  refine wpAny_storeName_cell I.ok.kind hk hc z (fun h' hc' hs=>?_)
  obtain ⟨oc,hoc,hocd⟩:=id z
  refine h { s with heap:=h' } ⟨I.ok,I.os,I.bare,⟨fun b o e n hb hx=>?_,fun b o e n hb hx=>?_,I.base.free,fun b o e hx=>?_,I.base.tups,I.base.frzs,I.base.tbls⟩,⟨m,hn.sameBut hs (Ne.symm (cne x c hc)),fun j y v' e1 e2 e3=>?_⟩,fun y c' e=>?_,I.free,I.freeC,fun p hp=>?_,tracked ⟨oc,hoc,I.freeC x c hc⟩ hs,by simpa using I.len⟩ ⟨c,hs,.inr hc⟩
  ·exact (hs.2 b (Nat.ne_of_lt (Nat.lt_of_lt_of_le (Heap.lt_size e) (I.ok.cab x c hfn hc)))).trans (I.base.keep b o e n hb hx)
  ·obtain ⟨sl,e1⟩:=I.base.slot b o e n hb hx
   exact ⟨sl,(hs.2 b (Nat.ne_of_lt (Nat.lt_of_lt_of_le (Heap.lt_size e) (I.ok.cab x c hfn hc)))).trans e1⟩
  ·obtain ⟨o',e1⟩:=I.base.there b o e hx
   exact ⟨o',(hs.2 b (Nat.ne_of_lt (Nat.lt_of_lt_of_le (Heap.lt_size e) (I.ok.cab x c hfn hc)))).trans e1⟩
  ·by_cases hj:j=i
   ·subst hj
    rw [hi] at e1;cases e1
    rw [List.getElem?_set_self hiσ] at e2
    cases e2
    exact ⟨u,r,.inr ⟨.inl hk,c,hc,hc'⟩⟩
   ·rw [List.getElem?_set_ne (Ne.symm hj)] at e2
    obtain ⟨u',r',q⟩:=hl j y v' e1 e2 e3
    refine ⟨u',r',?_⟩
    rcases q with q|⟨k,c',e,z'⟩
    ·exact .inl q
    ·refine .inr ⟨k,c',e,z'.sameBut hs ?_⟩
     rintro rfl
     exact hj (nodup_ix hN e1 (I.ok.inj _ _ _ e hc▸hi))
  ·by_cases hcc:c'=c
   ·subst hcc;exact⟨_,hc'⟩
   ·obtain ⟨w2,z2⟩:=I.cell y c' e
    exact ⟨w2,z2.sameBut hs hcc⟩
  ·obtain ⟨e,n,ne,nf,d⟩:=I.pin p hp
   refine ⟨(hs.2 p.1 ?_).trans e,n,ne,nf,d⟩
   intro q
   rw [q,hoc] at e
   have q':oc=p.2:=Option.some.inj e
   exact d w' (by rw[←q'];exact hocd)
theorem store_ok {M:Model}{A:Around}{E:Value→Shared→Prop}{i:Nat}{x:Str}{v:V}{u:Value}{Q:Unit→Shared→Prop} (I:Inv X pins σ H s) (hN:X.N.Nodup) (hi:X.N[i]? = some x) (hx:Loc X.env.scope x) (r:RelV v u)
  (h : ∀ s',Inv X pins (σ.set i (some v)) H s'→Q () s') (hf:X.fn x=true∨X.env.scope.names.lookup x=some .local:=by first|exact .inl rfl|exact .inr rfl|assumption):wpAny M A (storeName X.env x u) Q E s :=
 store_ok2 I hN hi hx r (fun s' I' _=>h s' I') hf
theorem Inv.call' {s':Shared}{ch:List Addr} (I:Inv X pins σ H s) (ho:s'.os=s.os) (u:Un (frs X.stack) ch H H' s.heap s'.heap) (hok:HOk X.prog X.w H' s'.heap) (hg:AllBare s'.gens)
  (hch:∀ b∈ch,(b∈X.ex∨X.s₀.heap.objs.size≤b)∧b≠X.env.locals∧(∀ x c,X.env.cells.lookup x=some c→c≠b)∧∀ p∈X.pn++pins,p.1≠b):Inv X pins σ H' s':=by
 obtain ⟨h',g',d',t',o'⟩:=s'
 have e:o'=s.os:=ho
 subst e
 exact I.call (g':=g') (t':=t') (d':=d') u hok hg hch
end
noncomputable abbrev XK:=Value→Option Addr→Hp→Prop
noncomputable abbrev St:=List (Option V)
noncomputable abbrev VK:=V→Hp→Prop
noncomputable abbrev TE:=St→Hp→VK→Prop
noncomputable abbrev TT:=St→Hp→(Bool→Hp→Prop)→Prop
noncomputable abbrev TA:=St→Hp→(List V→Hp→Prop)→Prop
structure Ends where
 nx : St→Hp→Prop
 rt : VK
 bk : St→Hp→Prop:=fun _ _=>False
 ct : St→Hp→Prop:=fun _ _=>False
noncomputable abbrev TS:=Ends→St→Hp→Prop
noncomputable def EP (X:Cx) (pins:List (Addr×Obj)) (σ:St) (Q:VK) (u:Value) (s':Shared):Prop:=∃ v H',Inv X pins σ H' s'∧RelV v u∧Q v H'
noncomputable def TP (X:Cx) (pins:List (Addr×Obj)) (σ:St) (Q:Bool→Hp→Prop) (b:Bool) (s':Shared):Prop:=∃ H',Inv X pins σ H' s'∧Q b H'
noncomputable def AP (X:Cx) (pins:List (Addr×Obj)) (σ:St) (Q:List V→Hp→Prop) (us:List Value) (s':Shared):Prop:=∃ vs H',Inv X pins σ H' s'∧Vals vs us∧Q vs H'
noncomputable def SP (X:Cx) (pins:List (Addr×Obj)) (D:Ends) (f:Flow) (s':Shared):Prop :=
 match f with
 | .next=>∃ σ' H',Inv X pins σ' H' s'∧D.nx σ' H'
 | .brk=>∃ σ' H',Inv X pins σ' H' s'∧D.bk σ' H'
 | .cont=>∃ σ' H',Inv X pins σ' H' s'∧D.ct σ' H'
 | .ret u=>∃ v σ' H',Inv X pins σ' H' s'∧RelV v u∧D.rt v H'
noncomputable def PE (X:Cx) (e:Expr) (t:TE):Prop :=
 ∀ (pins:List (Addr×Obj)) (s:Shared) (σ:St) (H:Hp) (Q:VK),Inv X pins σ H s→t σ H Q→wpAny (model X.prog X.w) X.A (eval e X.env) (EP X pins σ Q) X.xe s
noncomputable def PT (X:Cx) (e:Expr) (t:TT):Prop :=
 ∀ (pins:List (Addr×Obj)) (s:Shared) (σ:St) (H:Hp) (Q:Bool→Hp→Prop),Inv X pins σ H s→t σ H Q→wpAny (model X.prog X.w) X.A (isTrue e X.env (eval e X.env)) (TP X pins σ Q) X.xe s
noncomputable def PW (X:Cx) (e:Expr) (t:TT):Prop :=
 ∀ (whole:Sem Value) (pins:List (Addr×Obj)) (s:Shared) (σ:St) (H:Hp) (Q:Bool→Hp→Prop),Inv X pins σ H s→t σ H Q→wpAny (model X.prog X.w) X.A (isTrue e X.env whole) (TP X pins σ Q) X.xe s
theorem PW.pt {X:Cx}{e:Expr}{t:TT} (h:PW X e t):PT X e t:=h _
noncomputable def PA (X:Cx) (es:List Expr) (t:TA):Prop :=
 ∀ (pos:Pos) (pins:List (Addr×Obj)) (s:Shared) (σ:St) (H:Hp) (Q:List V→Hp→Prop),Inv X pins σ H s→t σ H Q→wpAny (model X.prog X.w) X.A (spliced (backTo pos (starEach es X.env))) (AP X pins σ Q) X.xe s
noncomputable def PS (X:Cx) (st:Stmt) (t:TS):Prop :=
 ∀ (pins:List (Addr×Obj)) (s:Shared) (σ:St) (H:Hp) (D:Ends),Inv X pins σ H s→t D σ H→wpAny (model X.prog X.w) X.A (exec st X.env) (SP X pins D) X.xe s
noncomputable def PSs (X:Cx) (st:List Stmt) (t:TS):Prop :=
 ∀ (pins:List (Addr×Obj)) (s:Shared) (σ:St) (H:Hp) (D:Ends),Inv X pins σ H s→t D σ H→wpAny (model X.prog X.w) X.A (execs st X.env) (SP X pins D) X.xe s
theorem thn {α:Type}{t:Sem α}{Q Q':α→Shared→Prop}{M:Model}{A:Around}{E:Value→Shared→Prop}{s:Shared} (h:wpAny M A t Q E s) (hQ:∀ a s,Q a s→Q' a s):wpAny M A t Q' E s:=wpAny_mono h hQ fun _ _ x=>x
end L2
namespace L2
open PySem PySem.Spec PyProof.Rows
section
variable {X:Cx}
noncomputable def tVar (i:Nat):TE:=fun σ H Q=>∃ v,σ[i]? = some (some v)∧Q v H
noncomputable def tC (v:V):TE:=fun _ H Q=>Q v H
theorem pe_var {i:Nat}{x:Str}{pos:Pos} (hN:X.N[i]? = some x) (hv:Vis X.env.scope x) (hd:(x==("__debug__" : Str))=false:=by decide) (hcd:(x==("__classdict__" : Str))=false:=by decide):PE X (.Name x pos) (tVar i):=by
 intro pins s σ H Q I h
 obtain ⟨v,e,h⟩:=h
 obtain ⟨m,hn,hl⟩:=I.loc
 obtain ⟨u,r,l⟩:=hl i x v hN e hv
 have fin:EP X pins σ Q u s:=⟨v,H,I,r,h⟩
 rcases l with ⟨hk,hm⟩|⟨hk,c,hc,hcell⟩
 ·exact wpAny_Name (wpAny_loadName_local I.ok.kind hk hn hm fin) hd
 ·rcases hk with hk|hk
  ·exact wpAny_Name (wpAny_loadName_cell I.ok.kind hk hc hcell fin) hd
  ·exact wpAny_Name (wpAny_loadName_free I.ok.kind hk hc hcell fin hcd) hd
theorem pe_int {i j pos}:PE X (.Constant (.int i) j pos) (tC (.int i)):=fun _ _ _ H _ I h=>wpAny_Constant_int ⟨.int i,H,I.tok _,⟨_,rfl⟩,h⟩
theorem pe_bl {b j pos}:PE X (.Constant (.bool b) j pos) (tC (.bl b)):=fun _ _ _ H _ I h=>Constant_bool ⟨.bl b,H,I,rfl,h⟩
theorem pe_non {j pos}:PE X (.Constant .none j pos) (tC .non):=fun _ _ _ H _ I h=>Constant_none ⟨.non,H,I,rfl,h⟩
noncomputable def Gl (X:Cx) (x:Str):Prop:=X.env.kindOf x=some .globalImplicit
theorem ld_glob {E:Value→Shared→Prop}{pins:List (Addr×Obj)}{s:Shared}{σ:St}{H:Hp}{x:Str}{u:Value}{pos:Pos}{Q:Value→Shared→Prop} (I:Inv X pins σ H s) (hg:Gl X x) (hm:X.mg x=some u) (h:Q u s)
  (hd:(x==("__debug__" : Str))=false:=by decide):wpAny (model X.prog X.w) X.A (eval (.Name x pos) X.env) Q E s :=
 Calls.Name_function_global I.ok.kind hg (Calls.loadGlobal_global (by rw[I.ok.glob];exact I.mod.glob.keeps I.bk) hm h) hd
theorem ld_blt {E:Value→Shared→Prop}{pins:List (Addr×Obj)}{s:Shared}{σ:St}{H:Hp}{x:Str}{u:Value}{pos:Pos}{Q:Value→Shared→Prop} (I:Inv X pins σ H s) (hg:Gl X x) (hm:X.mg x=none) (hv:bootBuiltins x=some u) (h:Q u s)
  (hn:x ≠ "__name__" := by decide) (hd:(x==("__debug__" : Str))=false:=by decide):wpAny (model X.prog X.w) X.A (eval (.Name x pos) X.env) Q E s:=by
 obtain ⟨mb,h1,h2⟩:=I.mod.blt
 exact Calls.Name_function_global I.ok.kind hg (Calls.loadGlobal_builtin (by rw[I.ok.glob];exact I.mod.glob.keeps I.bk) hm (by rw[I.ok.blt];exact h1.keeps I.bk) ((h2 x hn).trans hv) h) hd
variable {a b:Expr}{ta tb:TE}{pos:Pos}
noncomputable def tB (t:TE):TT:=fun σ H Q=>t σ H fun x H1=>∃ c,x=.bl c∧Q c H1
theorem pt_val {e:Expr}{t:TE} (h:PE X e t) (he:∀ whole,isTrue e X.env whole=(do let v ←whole;standAt e.pos;holding [v] (truthy v)):=by intro _;rfl):PT X e (tB t):=by
 intro pins s σ H Q I hw
 refine isTrue_plain (thn (h pins s σ H _ I hw) fun v s1 ⟨x,H1,I1,r1,q1⟩=>?_) (he _)
 obtain ⟨d,rfl,q⟩:=q1
 cases r1
 exact wpAny_truthy_bool ⟨H1,I1,q⟩
variable {tA tB':TT}{rest:List Expr}
noncomputable def tAnd (t u:TT):TT:=fun σ H Q=>t σ H fun c H1=>if c=true then u σ H1 Q else Q false H1
noncomputable def tNot (t:TT):TT:=fun σ H Q=>t σ H fun c H1=>Q (!c) H1
theorem pw_and1 (ha:PT X a tA):PW X (.BoolOp .And [a] pos) tA:=by
 intro wh pins s σ H Q I h
 refine isTrue_and (thn (ha pins s σ H Q I h) fun c s1 e=>?_)
 cases c with
 | true=>exact isTrue_and_nil e
 | false=>exact e
theorem pw_and (ha:PT X a tA) (hb:PW X (.BoolOp .And (b::rest) pos) tB'):PW X (.BoolOp .And (a::b::rest) pos) (tAnd tA tB'):=by
 intro wh pins s σ H Q I h
 refine isTrue_and (thn (ha pins s σ H _ I h) fun c s1 ⟨H1,I1,q1⟩=>?_)
 cases c with
 | true=>exact hb wh pins s1 σ H1 Q I1 q1
 | false=>exact⟨H1,I1,q1⟩
theorem pt_not (ha:PT X a tA):PT X (.UnaryOp .Not a pos) (tNot tA):=by
 intro pins s σ H Q I h
 exact isTrue_not (ha pins s σ H (fun c H1=>Q (!c) H1) I h)
noncomputable def tAndV (ta tb:TE):TE:=fun σ H Q=>ta σ H fun x H1=>∃ c,x=.bl c∧if c=true then tb σ H1 Q else Q (.bl false) H1
theorem pe_one {op}{t:TE} (h:PE X a t):PE X (.BoolOp op [a] pos) t:=fun pins s σ H Q I hw=>BoolOp_one (h pins s σ H Q I hw)
theorem pe_and (ha:PE X a ta) (hb:PE X (.BoolOp .And (b::rest) pos) tb):PE X (.BoolOp .And (a::b::rest) pos) (tAndV ta tb):=by
 intro pins s σ H Q I h
 refine BoolOp_and (thn (ha pins s σ H _ I h) fun v s1 ⟨x,H1,I1,r1,q1⟩=>?_)
 obtain ⟨c,rfl,q1⟩:=q1
 cases r1
 refine wpAny_truthy_bool ?_
 cases c with
 | true=>exact hb pins s1 σ H1 Q I1 q1
 | false=>exact⟨.bl false,H1,I1,rfl,q1⟩
noncomputable def tIf (t:TT) (ta tb:TE):TE:=fun σ H Q=>t σ H fun c H1=>if c=true then ta σ H1 Q else tb σ H1 Q
theorem pe_ifExp {c:Expr} (hc:PT X c tA) (ha:PE X a ta) (hb:PE X b tb):PE X (.IfExp c a b pos) (tIf tA ta tb):=by
 intro pins s σ H Q I h
 refine wpAny_IfExp (thn (hc pins s σ H _ I h) fun d s1 ⟨H1,I1,q1⟩=>?_)
 cases d with
 | true=>exact ha pins s1 σ H1 Q I1 q1
 | false=>exact hb pins s1 σ H1 Q I1 q1
end
end L2
namespace L2
open PySem PySem.Spec PyProof.Rows
noncomputable def SqL (K:PySem.W.Frag) (H:Hp) (a:Addr) (xs:List V):Prop :=
 Rd H a (.lst xs) ∨
  ∃ (o:Obj) (its:Array Value) (n:Nat),K.lookup a=some o∧o.cls=.type "list" ∧ o.dict=none∧o.data=.seq its n∧its.size≤sizeLine∧Vals xs its.toList
noncomputable def SqT (K:PySem.W.Frag) (H:Hp) (a:Addr) (xs:List V):Prop :=
 Rd H a (.tup xs) ∨
  ∃ (o:Obj) (its:Array Value) (n:Nat),K.lookup a=some o∧o.cls=.type "tuple" ∧ o.data=.seq its n∧its.size≤sizeLine∧Vals xs its.toList
noncomputable def absV:Value→Option V
 | .none=>some .non
 | .bool b=>some (.bl b)
 | .int i _=>some (.int i)
 | .str x _=>some (.str x)
 | .bytes b _=>some (.byt b)
 | .float b _=>some (.flt b)
 | .ref a=>some (.ref a)
 | .type n=>some (.ty n)
 | _=>none
theorem RelV.abs {x:V}{u:Value} (r:RelV x u):absV u=some x:=by
 cases x with
 | non=>cases r;rfl
 | bl _=>cases r;rfl
 | int _=>obtain⟨t,rfl⟩:=r;rfl
 | str _=>obtain⟨t,rfl⟩:=r;rfl
 | byt _=>obtain⟨t,rfl⟩:=r;rfl
 | flt _=>obtain⟨t,rfl⟩:=r;rfl
 | ref _=>cases r;rfl
 | ty _=>cases r;rfl
theorem RelV.inj {x y:V}{u:Value} (r:RelV x u) (q:RelV y u):x=y:=Option.some.inj (r.abs.symm.trans q.abs)
theorem Vals.inj:∀ {xs ys:List V}{us:List Value},Vals xs us→Vals ys us→xs=ys
 | _,_,_,.nil,.nil=>rfl
 | _,_,_,.cons r t,.cons r' t'=>by rw[r.inj r',Vals.inj t t']
section
variable {X:Cx}{pins:List (Addr×Obj)}{σ:St}{H:Hp}{s:Shared}{a:Addr}{xs ys:List V}
theorem SqL.of {K:PySem.W.Frag} (h:H a=some (.lst xs)):SqL K H a xs:=.inl (.inl h)
theorem SqT.of {K:PySem.W.Frag} (h:H a=some (.tup xs)):SqT K H a xs:=.inl (.inl h)
theorem Inv.list (I:Inv X pins σ H s) (h:SqL X.K H a xs):∃ its:List Value,Vals xs its∧PlainL s.heap a its.toArray∧xs.length≤sizeLine:=by
 rcases h with h|⟨o,its,n,hk,hc,hd,hs,hz,r⟩
 ·obtain ⟨z,its,n,r,e⟩:=h.ok I.hok
  exact ⟨its,r,⟨_,n,e,rfl,rfl,rfl⟩,z⟩
 ·refine ⟨its.toList,r,⟨o,n,I.kIn a o hk,hc,hd,by simpa using hs⟩,?_⟩
  have e:=r.length
  simp only [Array.length_toList] at e
  omega
theorem Inv.tuple (I:Inv X pins σ H s) (h:SqT X.K H a xs):∃ its:List Value,Vals xs its∧IsTup s.heap a its.toArray∧xs.length≤sizeLine:=by
 rcases h with h|⟨o,its,n,hk,hc,hs,hz,r⟩
 ·obtain ⟨z,its,r,p⟩:=h.ok I.hok
  exact ⟨its,r,p,z⟩
 ·refine ⟨its.toList,r,⟨o,I.kIn a o hk,hc,n,by simpa using hs⟩,?_⟩
  have e:=r.length
  simp only [Array.length_toList] at e
  omega
theorem Inv.list_inj (I:Inv X pins σ H s) (h:SqL X.K H a xs) (h':SqL X.K H a ys):xs=ys:=by
 obtain ⟨its,r,⟨o,n,e,_,_,d⟩,_⟩:=I.list h
 obtain ⟨its',r',⟨o',n',e',_,_,d'⟩,_⟩:=I.list h'
 rw [e] at e';cases e'
 rw [d] at d'
 injection d' with d1 _
 have:its=its':=by simpa using congrArg Array.toList d1
 subst this
 exact r.inj r'
theorem Inv.tuple_inj (I:Inv X pins σ H s) (h:SqT X.K H a xs) (h':SqT X.K H a ys):xs=ys:=by
 obtain ⟨its,r,⟨o,e,_,n,d⟩,_⟩:=I.tuple h
 obtain ⟨its',r',⟨o',e',_,n',d'⟩,_⟩:=I.tuple h'
 rw [e] at e';cases e'
 rw [d] at d'
 injection d' with d1 _
 have:its=its':=by simpa using congrArg Array.toList d1
 subst this
 exact r.inj r'
end
noncomputable abbrev Cx.wish (X:Cx) (E:Value→Shared→Prop):Cx:={ X with xe:=E }
noncomputable abbrev Cx.nox (X:Cx):Cx:=X.wish fun _ _=>False
theorem Cx.Ok.wish {X:Cx} (ok:X.Ok) (E:Value→Shared→Prop):(X.wish E).Ok :=
 ⟨ok.mod,ok.kind,ok.glob,ok.blt,ok.above,ok.inj,ok.has,ok.cab,ok.hd,ok.frames,ok.stk,ok.exf,ok.bs,ok.bsz,ok.noex,ok.exfs,ok.funs,ok.frf,ok.tab⟩
theorem Cx.Ok.unwish {X:Cx}{E:Value→Shared→Prop} (ok:(X.wish E).Ok):X.Ok :=
 ⟨ok.mod,ok.kind,ok.glob,ok.blt,ok.above,ok.inj,ok.has,ok.cab,ok.hd,ok.frames,ok.stk,ok.exf,ok.bs,ok.bsz,ok.noex,ok.exfs,ok.funs,ok.frf,ok.tab⟩
section
variable {X:Cx}{pins:List (Addr×Obj)}{σ:St}{H:Hp}{s:Shared}{E:Value→Shared→Prop}
theorem Inv.wish (I:Inv X pins σ H s) (E:Value→Shared→Prop):Inv (X.wish E) pins σ H s:=⟨I.ok.wish E,I.os,I.bare,I.base,I.loc,I.cell,I.free,I.freeC,I.pin,I.hok,I.len⟩
theorem Inv.unwish (I:Inv (X.wish E) pins σ H s):Inv X pins σ H s:=⟨I.ok.unwish,I.os,I.bare,I.base,I.loc,I.cell,I.free,I.freeC,I.pin,I.hok,I.len⟩
theorem SP.unwish {D:Ends}{f:Flow}{s':Shared} (h:SP (X.wish E) pins D f s'):SP X pins D f s':=by
 cases f with
 | next=>obtain⟨σ',H',I,q⟩:=h;exact⟨σ',H',I.unwish,q⟩
 | brk=>obtain⟨σ',H',I,q⟩:=h;exact⟨σ',H',I.unwish,q⟩
 | cont=>obtain⟨σ',H',I,q⟩:=h;exact⟨σ',H',I.unwish,q⟩
 | ret u=>obtain⟨v,σ',H',I,r,q⟩:=h;exact⟨v,σ',H',I.unwish,r,q⟩
theorem PE.nox {e:Expr}{t:TE} (h:PE X.nox e t):PE X e t:=fun pins s σ H Q I hw =>
 wpAny_mono (h pins s σ H Q (I.wish _) hw) (fun _ _ ⟨v,H',I',r,q⟩=>⟨v,H',I'.unwish,r,q⟩) fun _ _ z=>False.elim z
theorem PT.nox {e:Expr}{t:TT} (h:PT X.nox e t):PT X e t:=fun pins s σ H Q I hw =>
 wpAny_mono (h pins s σ H Q (I.wish _) hw) (fun _ _ ⟨H',I',q⟩=>⟨H',I'.unwish,q⟩) fun _ _ z=>False.elim z
theorem PSs.nox {st:List Stmt}{t:TS} (h:PSs X.nox st t):PSs X st t:=fun pins s σ H D I hw =>
 wpAny_mono (h pins s σ H D (I.wish _) hw) (fun _ _ q=>q.unwish) fun _ _ z=>False.elim z
end
section
variable {X:Cx}{st:Stmt}{rest:List Stmt}{t u:TS}{e:Expr}{te:TE}{pos:Pos}
noncomputable def tNext:TS:=fun D σ H=>D.nx σ H
noncomputable def tSeq (t u:TS):TS:=fun D σ H=>t { D with nx:=u D } σ H
theorem pss_nil:PSs X [] tNext:=fun _ _ σ H _ I h=>wpAny_execs_nil ⟨σ,H,I,h⟩
theorem pss_cons (h1:PS X st t) (h2:PSs X rest u):PSs X (st::rest) (tSeq t u):=by
 intro pins s σ H D I h
 refine wpAny_execs_cons (thn (h1 pins s σ H { D with nx:=u D } I h) fun f s1 q=>?_)
 cases f with
 | next =>
  obtain ⟨σ',H',I',q⟩:=q
  exact h2 pins s1 σ' H' D I' q
 | ret v=>exact q
 | brk=>exact q
 | cont=>exact q
theorem pss_one (h1:PS X st t):PSs X [st] t:=by
 intro pins s σ H D I h
 refine wpAny_execs_cons (thn (h1 pins s σ H D I h) fun f s1 q=>?_)
 cases f with
 | next=>exact wpAny_execs_nil q
 | ret v=>exact q
 | brk=>exact q
 | cont=>exact q
noncomputable def tCont:TS:=fun D σ H=>D.ct σ H
theorem ps_continue:PS X (.Continue pos) tCont:=fun _ _ σ H _ I h=>wpAny_Continue ⟨σ,H,I,h⟩
theorem Inv.quiet {pins:List (Addr×Obj)}{σ:St}{H:Hp}{s:Shared} (I:Inv X pins σ H s):interactive X.env=false:=by simp[interactive,I.ok.kind]
noncomputable def tDrop (te:TE):TS:=fun D σ H=>te σ H fun _ H1=>D.nx σ H1
theorem ps_expr (he:PE X e te) (hs:swapsWith e none pos.line X.env=pure false:=by rfl):PS X (.Expr e pos) (tDrop te):=by
 intro pins s σ H D I h
 exact wpAny_Expr_any (thn (he pins s σ H _ I h) fun v s1 ⟨x,H1,I1,r1,q1⟩=>⟨σ,H1,I1,q1⟩) I.quiet hs
noncomputable def tRet (te:TE):TS:=fun D σ H=>te σ H D.rt
theorem ps_ret (he:PE X e te):PS X (.Return (some e) pos) (tRet te):=by
 intro pins s σ H D I h
 exact wpAny_Return_some (thn (he pins s σ H _ I h) fun v s1 ⟨x,H1,I1,r1,q1⟩=>⟨x,σ,H1,I1,r1,q1⟩)
noncomputable def tIfS (c:TT) (t u:TS):TS:=fun D σ H=>c σ H fun b H1=>if b=true then t D σ H1 else u D σ H1
theorem ps_if {c:Expr}{a b:List Stmt}{tc:TT} (hc:PT X c tc) (ha:PSs X a t) (hb:PSs X b u):PS X (.If c a b pos) (tIfS tc t u):=by
 intro pins s σ H D I h
 refine wpAny_If (thn (hc pins s σ H _ I h) fun d s1 ⟨H1,I1,q1⟩=>?_)
 cases d with
 | true=>exact ha pins s1 σ H1 D I1 q1
 | false=>exact hb pins s1 σ H1 D I1 q1
end
noncomputable abbrev TG:=V→St→Hp→(St→Hp→Prop)→Prop
noncomputable abbrev TGs:=List V→St→Hp→(St→Hp→Prop)→Prop
noncomputable def PG (X:Cx) (target:Expr) (t:TG):Prop :=
 ∀ (pins:List (Addr×Obj)) (s:Shared) (σ:St) (H:Hp) (v:V) (u:Value) (Q:St→Hp→Prop),Inv X pins σ H s→RelV v u→t v σ H Q →
  wpAny (model X.prog X.w) X.A (assign target X.env u) (fun _ s'=>∃ σ' H',Inv X pins σ' H' s'∧Q σ' H') X.xe s
noncomputable def PGs (X:Cx) (ts:List Expr) (t:TGs):Prop :=
 ∀ (pins:List (Addr×Obj)) (s:Shared) (σ:St) (H:Hp) (vs:List V) (us:List Value) (Q:St→Hp→Prop),Inv X pins σ H s→Vals vs us→t vs σ H Q →
  wpAny (model X.prog X.w) X.A (assignInOrder ((assignEach ts X.env).map (·.2)) us) (fun _ s'=>∃ σ' H',Inv X pins σ' H' s'∧Q σ' H') X.xe s
noncomputable abbrev TSet:=V→V→V→Hp→(Hp→Prop)→Prop
noncomputable def PSet (X:Cx) (t:TSet):Prop :=
 ∀ (pins:List (Addr×Obj)) (s:Shared) (σ:St) (H:Hp) (o i v:V) (ov iv u:Value) (Q:Hp→Prop),Inv X pins σ H s→RelV o ov→RelV i iv→RelV v u→t o i v H Q →
  wpAny (model X.prog X.w) X.A (setItem ov iv u) (fun _ s'=>∃ H',Inv X pins σ H' s'∧Q H') X.xe s
section
variable {X:Cx}{pos:Pos}
noncomputable def gName (i:Nat):TG:=fun v σ H Q=>Q (σ.set i (some v)) H
theorem pg_name {i:Nat}{x:Str} (hN:X.N.Nodup) (hi:X.N[i]? = some x) (hx:Loc X.env.scope x) (hf:X.fn x=true∨X.env.scope.names.lookup x=some .local:=by first|exact .inl rfl|exact .inr rfl|assumption):PG X (.Name x pos) (gName i):=by
 intro pins s σ H v u Q I r h
 exact wpAny_assign_Name (store_ok I hN hi hx r (fun s' I'=>⟨_,H,I',h⟩) hf)
noncomputable def gNil:TGs:=fun vs σ H Q=>vs=[]∧Q σ H
noncomputable def gCons (t:TG) (u:TGs):TGs:=fun vs σ H Q=>∃ v r,vs=v::r∧t v σ H fun σ' H'=>u r σ' H' Q
theorem pgs_nil:PGs X [] gNil:=by
 intro pins s σ H vs us Q I r h
 obtain ⟨e,h⟩:=h
 subst e
 cases r
 exact assignInOrder_nil ⟨σ,H,I,h⟩
theorem pgs_cons {e:Expr}{es:List Expr}{t:TG}{u:TGs} (h1:PG X e t) (h2:PGs X es u)
  (hs:(assignEach (e::es) X.env).map (·.2)=assign e X.env::(assignEach es X.env).map (·.2):=by rfl):PGs X (e::es) (gCons t u):=by
 intro pins s σ H vs us Q I r h
 obtain ⟨v,vr,e1,h⟩:=h
 subst e1
 cases r with
 | cons r rr =>
  rw [hs]
  refine assignInOrder_cons (thn (h1 pins s σ H _ _ _ I r h) fun _ s1 ⟨σ1,H1,I1,q1⟩=>?_)
  exact h2 pins s1 σ1 H1 _ _ Q I1 rr q1
noncomputable def gTup (K:PySem.W.Frag) (n:Nat) (t:TGs):TG:=fun v σ H Q=>∃ a xs,v=.ref a∧SqT K H a xs∧xs.length=n∧t xs σ H Q
theorem pg_tup {es:List Expr}{k:Nat}{t:TGs}{n:Nat} (hc:X.calm=true) (h:PGs X es t)
  (hn:(assignEach es X.env).length=n:=by rfl) (hst:(assignEach es X.env).findIdx? (·.1)=none:=by rfl):PG X (.Tuple es k pos) (gTup X.K n t):=by
 intro pins s σ H v u Q I r hw
 obtain ⟨a,xs,e1,hq,hl,hw⟩:=hw
 subst e1
 cases r
 obtain ⟨its,rv,ht,hz⟩:=I.tuple hq
 refine assign_Tuple_tuple (I.ok.hd hc) ht (by simp[hn,←hl,rv.length]) hst fun h' hx=>?_
 have I1:Inv X pins σ H { s with heap:=h' }:=I.kept (t':=s.toks) fun b o e=>hx b o (Nat.ne_of_lt (Heap.lt_size e)) e
 exact h pins _ σ H xs _ Q I1 (by simpa using rv) hw
noncomputable def gSub (to ti:TE) (t:TSet):TG:=fun v σ H Q=>to σ H fun o H1=>ti σ H1 fun i H2=>t o i v H2 fun H3=>Q σ H3
theorem pg_sub {o i:Expr}{to ti:TE}{t:TSet} (ho:PE X o to) (hi:PE X i ti) (hs:PSet X t)
  (ha:∀ v,assign (.Subscript o i pos) X.env v=(do
   let ov ←holding [v] (eval o X.env)
   let iv ←holding [v,ov] (eval i X.env)
   standAt pos
   holding [v,ov,iv] (setItem ov iv v)
   release [v,ov,iv] []):=by intro _;rfl):PG X (.Subscript o i pos) (gSub to ti t):=by
 intro pins s σ H v u Q I r h
 rw [ha]
 refine wpAny_bind (wpAny_holding (thn (ho pins s σ H _ I h) fun ov s1 ⟨x,H1,I1,r1,q1⟩=>?_))
 refine wpAny_bind (wpAny_holding (thn (hi pins s1 σ H1 _ I1 q1) fun iv s2 ⟨y,H2,I2,r2,q2⟩=>?_))
 refine wpAny_bind (wpAny_standAt (wpAny_bind (wpAny_holding (thn (hs pins s2 σ H2 x y v ov iv u _ I2 r1 r2 r q2) fun _ s3 ⟨H3,I3,q3⟩=>?_))))
 exact wpAny_release ⟨σ,H3,I3,q3⟩
noncomputable def tAsg (te:TE) (g:TG):TS:=fun D σ H=>te σ H fun x H1=>g x σ H1 D.nx
theorem ps_asg {tg e:Expr}{te:TE}{g:TG} (he:PE X e te) (hg:PG X tg g) (hs:swapsWithSole [tg] e pos.line X.env=pure false:=by rfl) (hw:swappedStores [tg] e X.env=pure none:=by rfl)
  (h1:(assignEach [tg] X.env).map (·.2)=[assign tg X.env]:=by rfl):PS X (.Assign [tg] e pos) (tAsg te g):=by
 intro pins s σ H D I h
 refine wpAny_Assign_stores (thn (he pins s σ H _ I h) fun v s1 ⟨x,H1,I1,r1,q1⟩=>?_) hs hw
 rw [h1]
 exact thn (hg pins s1 σ H1 x v _ I1 r1 q1) fun _ s2 q=>q
theorem ps_set {i:Nat}{x:Str}{e:Expr}{te:TE}{pos':Pos} (hN:X.N.Nodup) (hi:X.N[i]? = some x) (hx:Loc X.env.scope x) (he:PE X e te) (hs:swapsWith e (some (.Name x pos')) pos.line X.env=pure false:=by rfl) (hf:X.fn x=true∨X.env.scope.names.lookup x=some .local:=by first|exact .inl rfl|exact .inr rfl|assumption) :
  PS X (.Assign [.Name x pos'] e pos) (tAsg te (gName i)):=by
 intro pins s σ H D I h
 refine wpAny_Assign_Name (thn (he pins s σ H _ I h) fun v s1 ⟨y,H1,I1,r1,q1⟩=>?_) hs
 exact store_ok I1 hN hi hx r1 (fun s2 I2=>⟨_,H1,I2,q1⟩) hf
end
section
variable {X:Cx}{pos:Pos}
noncomputable def tWhile (c:TT) (tb:TS):TS:=fun D σ H=>∃ W:Nat→St→Hp→Prop,(∃ m,W m σ H)∧∀ m σ H,W m σ H →
 c σ H fun b H1=>if b=true then ∃ N:St→Hp→Prop,(∀ σ' H',N σ' H'→∃ m',m'<m∧W m' σ' H')∧tb { D with nx:=N,ct:=N,bk:=D.nx } σ H1 else D.nx σ H1
theorem ps_while {c:Expr}{body:List Stmt}{tc:TT}{tb:TS} (hp:PassesOwn (model X.prog X.w) X.A X.env X.xe) (hc:PT X c tc) (hb:PSs X body tb):PS X (.While c body [] pos) (tWhile tc tb):=by
 intro pins s σ H D I h
 obtain ⟨W,⟨m0,w0⟩,turn⟩:=h
 refine wpAny_While (codeAny_whileLoop (fun n s'=>∃ σ' H',Inv X pins σ' H' s'∧W n σ' H') ?_ m0 ⟨σ,H,I,w0⟩)
 rintro n s1 ⟨σ1,H1,I1,w1⟩
 refine wpAny_passesOwn hp (thn (hc pins s1 σ1 H1 _ I1 (turn n σ1 H1 w1)) fun b s2 ⟨H2,I2,q2⟩=>?_)
 cases b with
 | true =>
  obtain ⟨N,hN,q2⟩:=q2
  rw [if_pos rfl]
  refine wpAny_passesOwn hp (thn (hb pins s2 σ1 H2 _ I2 q2) fun f s3 q3=>?_)
  cases f with
  | next =>
   obtain ⟨σ3,H3,I3,n3⟩:=q3
   obtain ⟨m',hm,w3⟩:=hN σ3 H3 n3
   exact ⟨m',hm,σ3,H3,I3,w3⟩
  | cont =>
   obtain ⟨σ3,H3,I3,n3⟩:=q3
   obtain ⟨m',hm,w3⟩:=hN σ3 H3 n3
   exact ⟨m',hm,σ3,H3,I3,w3⟩
  | brk=>exact q3
  | ret v=>exact q3
 | false =>
  rw [if_neg Bool.false_ne_true]
  exact wpAny_execs_nil ⟨σ1,H2,I2,q2⟩
end
structure It where
 go : Nat→Hp→Prop
 yld:Nat→Hp→V→Hp→Prop
 stop:Nat→Hp→Prop
noncomputable def FpOk (X:Cx) (pins:List (Addr×Obj)) (H:Hp) (b:Addr):Prop :=
 H b=none∧b≠X.env.locals∧b ∉ X.fs∧(b∈X.ex∨X.s₀.heap.objs.size≤b)∧(∀ x c,X.env.cells.lookup x=some c→c≠b)∧∀ p∈X.pn++pins,p.1≠b
theorem Inv.fpOk {X:Cx}{pins:List (Addr×Obj)}{σ:St}{H H':Hp}{s:Shared}{b:Addr} (I:Inv X pins σ H s) (hb:s.heap.objs.size≤b) (hn:H' b=none):FpOk X pins H' b:=by
 refine ⟨hn,Nat.ne_of_gt (Nat.lt_of_lt_of_le I.lt hb),I.nofs hb,.inr (Nat.le_trans I.sz hb),fun x c e z=>?_,fun p hp z=>?_⟩
 ·obtain ⟨v,q⟩:=I.cell x c e
  exact absurd (Nat.lt_of_lt_of_le q.lt (by rw[z];exact hb)) (Nat.lt_irrefl _)
 ·exact absurd (Nat.lt_of_lt_of_le (Heap.lt_size (I.pin p hp).1) (by rw[z];exact hb)) (Nat.lt_irrefl _)
structure Turn (P:Program) (w:World) (K:PySem.W.Frag) (tg:Expr) (J:It) (fp:List Addr) (it:Addr) (tn:Nat→Heap→Prop):Prop where
 mem:it∈fp
 obj:∀ i h,tn i h→∀ b∈fp,∃ o,h.get? b=some o∧∀ v,o.data≠.cell v
 keep:∀ i h h',tn i h→(∀ b∈fp,∀ o,h.get? b=some o→h'.get? b=some o)→tn i h'
 item:∀ (X:Cx),X.prog=P→X.w=w→X.K=K→X.calm=true→∀ (i:Nat) (pins:List (Addr×Obj)) (s:Shared) (σ:St) (H:Hp) (E:Value→Shared→Prop),Inv X pins σ H s→(∀ b∈fp,FpOk X pins H b)→tn i s.heap→J.go i H →
  wpAny (model P w) X.A (pyNext (.ref it)) (fun r s1=>∃ u,r=some u ∧
   wpAny (model P w) X.A (letOwnedTupleGo tg (.ref it) u) (fun _ s2=>∃ x H',Inv X pins σ H' s2∧RelV x u∧J.yld i H x H'∧tn (i+1) s2.heap∧∀ b∈fp,H' b=none) E s1) E s
 done:∀ (X:Cx),X.prog=P→X.w=w→X.K=K→X.calm=true→∀ (i:Nat) (pins:List (Addr×Obj)) (s:Shared) (σ:St) (H:Hp) (E:Value→Shared→Prop),Inv X pins σ H s→(∀ b∈fp,FpOk X pins H b)→tn i s.heap→J.stop i H →
  wpAny (model P w) X.A (pyNext (.ref it)) (fun r s1=>r=none∧Inv X pins σ H s1) E s
 self:∀ (A:Around) (i:Nat) (s:Shared) (Q:Value→Shared→Prop) (E:Value→Shared→Prop),tn i s.heap→Q (.ref it) s→wpAny (model P w) A (pyIter (.ref it)) Q E s
noncomputable abbrev TI:=St→Hp→(It→Hp→Prop)→Prop
noncomputable def PIE (X:Cx) (pins:List (Addr×Obj)) (σ:St) (tg:Expr) (R:It→Hp→Prop) (itv:Value) (s2:Shared):Prop :=
 ∃ (it:Addr) (fp:List Addr) (tn:Nat→Heap→Prop) (J:It) (H':Hp),itv=.ref it∧Inv X pins σ H' s2∧Turn X.prog X.w X.K tg J fp it tn∧tn 0 s2.heap∧(∀ b∈fp,FpOk X pins H' b)∧R J H'
noncomputable def PI (X:Cx) (tg iter:Expr) (wi:TI):Prop :=
 ∀ (pins:List (Addr×Obj)) (s:Shared) (σ:St) (H:Hp) (R:It→Hp→Prop),Inv X pins σ H s→wi σ H R →
  wpAny (model X.prog X.w) X.A (eval iter X.env) (fun v s1=>wpAny (model X.prog X.w) X.A (pyIter v) (PIE X pins σ tg R) X.xe s1) X.xe s
theorem go_of {M:Model}{A:Around}{E:Value→Shared→Prop}{s:Shared}{tg:Expr}{it:Addr}{u:Value}{o:Obj}{n:String}{vs:Array Value}{Q:Unit→Shared→Prop} (ho:s.heap.get? it=some o) (hc:o.cls=.type n) (hd:o.data=.fields vs)
    (hn:["enumerate", "zip", "dict_itemiterator", "dict_reverseitemiterator", "odict_iterator", "itertools.zip_longest", "itertools.pairwise"].contains n=false) (hQ:Q () s):wpAny M A (letOwnedTupleGo tg (.ref it) u) Q E s:=by
  unfold letOwnedTupleGo
  cases tg <;> first
    | exact wpAny_pure hQ
    | (cases u <;> first
        | exact wpAny_pure hQ
        | (refine wpAny_bind (wpAny_load ho ?_)
           rw [hc,hd]
           show wpAny M A (if (["enumerate", "zip", "dict_itemiterator", "dict_reverseitemiterator", "odict_iterator", "itertools.zip_longest", "itertools.pairwise"].contains n&&vs[0]?==some (rawInt _))=true then _ else _) Q E s
           rw [if_neg (by intro h;rw[hn,Bool.false_and] at h;cases h)]
           exact wpAny_pure hQ))
noncomputable def Itl (K:PySem.W.Frag) (a:Addr):It :=
 ⟨fun i H=>∃ xs x,SqL K H a xs∧xs[i]? = some x,fun i H x H'=>H'=H∧∀ xs,SqL K H a xs→xs[i]? = some x,fun i H=>∃ xs,SqL K H a xs∧xs.length≤i⟩
noncomputable def Itt (K:PySem.W.Frag) (a:Addr):It :=
 ⟨fun i H=>∃ xs x,SqT K H a xs∧xs[i]? = some x,fun i H x H'=>H'=H∧∀ xs,SqT K H a xs→xs[i]? = some x,fun i H=>∃ xs,SqT K H a xs∧xs.length≤i⟩
noncomputable def Itr (lo:Int) (n:Nat):It:=⟨fun i _=>i<n,fun i H x H'=>H'=H∧x=.int (lo+i),fun i _=>n≤i⟩
theorem turn_list {P:Program}{w:World}{K:PySem.W.Frag}{tg:Expr} (a it:Addr):Turn P w K tg (Itl K a) [it] it (fun i h=>h.IsListIter it a i) where
 mem:=by simp
 obj:=fun i h st b hb=>by
  have e:b=it:=by simpa using hb
  subst e
  obtain ⟨o,e,c,d⟩:=st
  exact ⟨o,e,fun v z=>by rw[d] at z;cases z⟩
 keep:=fun i h h' st k=>st.at fun o e=>k it (by simp) o e
 item:=by
  intro X hP hw hK hc i pins s σ H E I hf st hg
  subst hP hw hK
  obtain ⟨xs,x,hq,hx⟩:=hg
  obtain ⟨its,rv,p,hz⟩:=I.list hq
  obtain ⟨u,hu,ru⟩:=rv.get hx
  obtain ⟨f0,f1,f2,f3,f4,f5⟩:=hf it (by simp)
  refine wpAny_pyNext_list_item st p.isList (x:=u) (by simpa using hu) fun h' st' sb=>?_
  have I1:Inv X pins σ H { s with heap:=h' }:=I.turned (t':=s.toks) (fun b o hb e=>(sb.2 b hb).trans e) f0 f1 f3 f4 f5
  obtain ⟨o,e,c,d⟩:=id st'
  exact ⟨u,rfl,go_of (s:={ s with heap:=h' }) e c d (by decide) ⟨x,H,I1,ru,⟨rfl,fun ys hy=>by rw[I.list_inj hy hq];exact hx⟩,st',fun b hb=>(hf b hb).1⟩⟩
 done:=by
  intro X hP hw hK hc i pins s σ H E I hf st hg
  subst hP hw hK
  obtain ⟨xs,hq,hx⟩:=hg
  obtain ⟨its,rv,p,hz⟩:=I.list hq
  obtain ⟨f0,f1,f2,f3,f4,f5⟩:=hf it (by simp)
  have hl:=rv.length
  exact wpAny_pyNext_list_end (I.ok.hd hc) st p.isList (by simp;omega) fun h' eb=>⟨rfl,I.turned (t':=s.toks) (fun b o hb e=>eb b o hb e) f0 f1 f3 f4 f5⟩
 self:=fun _ _ _ _ _ st h=>wpAny_pyIter_listiter st h
theorem turn_tuple {P:Program}{w:World}{K:PySem.W.Frag}{tg:Expr} (a it:Addr):Turn P w K tg (Itt K a) [it] it (fun i h=>h.IsTupleIter it a i) where
 mem:=by simp
 obj:=fun i h st b hb=>by
  have e:b=it:=by simpa using hb
  subst e
  obtain ⟨o,e,c,d⟩:=st
  exact ⟨o,e,fun v z=>by rw[d] at z;cases z⟩
 keep:=fun i h h' st k=>st.at fun o e=>k it (by simp) o e
 item:=by
  intro X hP hw hK hc i pins s σ H E I hf st hg
  subst hP hw hK
  obtain ⟨xs,x,hq,hx⟩:=hg
  obtain ⟨its,rv,p,hz⟩:=I.tuple hq
  obtain ⟨u,hu,ru⟩:=rv.get hx
  obtain ⟨f0,f1,f2,f3,f4,f5⟩:=hf it (by simp)
  refine wpAny_pyNext_tuple_item st (show s.heap.IsTuple a its.toArray from p) (x:=u) (by simpa using hu) fun h' st' sb=>?_
  have I1:Inv X pins σ H { s with heap:=h' }:=I.turned (t':=s.toks) (fun b o hb e=>(sb.2 b hb).trans e) f0 f1 f3 f4 f5
  obtain ⟨o,e,c,d⟩:=id st'
  exact ⟨u,rfl,go_of (s:={ s with heap:=h' }) e c d (by decide) ⟨x,H,I1,ru,⟨rfl,fun ys hy=>by rw[I.tuple_inj hy hq];exact hx⟩,st',fun b hb=>(hf b hb).1⟩⟩
 done:=by
  intro X hP hw hK hc i pins s σ H E I hf st hg
  subst hP hw hK
  obtain ⟨xs,hq,hx⟩:=hg
  obtain ⟨its,rv,p,hz⟩:=I.tuple hq
  obtain ⟨f0,f1,f2,f3,f4,f5⟩:=hf it (by simp)
  have hl:=rv.length
  exact wpAny_pyNext_tuple_end (I.ok.hd hc) st (show s.heap.IsTuple a its.toArray from p) (by simp;omega) fun h' eb=>⟨rfl,I.turned (t':=s.toks) (fun b o hb e=>eb b o hb e) f0 f1 f3 f4 f5⟩
 self:=fun _ _ _ _ _ st h=>wpAny_pyIter_tupleiter st h
theorem turn_range {P:Program}{w:World}{K:PySem.W.Frag}{tg:Expr} (it:Addr) (lo:Int) (n:Nat):Turn P w K tg (Itr lo n) [it] it (fun i h=>IsRangeIter h it (lo+(i:Nat)*1) ((n:Int) - (i:Nat)) 1) where
 mem:=by simp
 obj := fun i h st b hb=>by
  have e:b=it:=by simpa using hb
  subst e
  exact ⟨_,st,fun v z=>by
   have z':Data.fields _=Data.cell v:=z
   cases z'⟩
 keep:=fun i h h' st k=>k it (by simp) _ st
 item:=by
  intro X hP hw hK hc i pins s σ H E I hf st hg
  subst hP hw hK
  obtain ⟨f0,f1,f2,f3,f4,f5⟩:=hf it (by simp)
  have W:=Walks.range (prog:=X.prog) (w:=X.w) (I.ok.hd hc) it lo 1 n
  refine W.item i s _ _ hg st fun v h' tk hv st' kk=>?_
  obtain ⟨t,rfl⟩:=hv
  have I1:Inv X pins σ H { s with heap:=h',toks:=tk }:=I.turned (fun b o hb e=>kk b o (by simpa using hb) e) f0 f1 f3 f4 f5
  refine ⟨_,rfl,go_of (s:={ s with heap:=h',toks:=tk }) (n := "range_iterator") st' rfl rfl (by decide) ⟨.int (lo+i),H,I1,⟨t,?_⟩,⟨rfl,rfl⟩,st',fun b hb=>(hf b hb).1⟩⟩
  rw [Int.mul_one]
 done:=by
  intro X hP hw hK hc i pins s σ H E I hf st hg
  subst hP hw hK
  obtain ⟨f0,f1,f2,f3,f4,f5⟩:=hf it (by simp)
  exact wpAny_pyNext_range_end (I.ok.hd hc) st (by have:n≤i:=hg;omega) fun h' eb=>⟨rfl,I.turned (t':=s.toks) (fun b o hb e=>eb b o hb e) f0 f1 f3 f4 f5⟩
 self:=fun _ _ _ _ _ st h=>wpAny_pyIter_rangeiter st h
end L2
namespace L2
open PySem PySem.Spec PyProof.Rows
section
variable {X:Cx}{tg:Expr}
noncomputable def iList (K:PySem.W.Frag) (tl:TE):TI:=fun σ H R=>tl σ H fun x H1=>∃ a,x=.ref a∧(∃ xs,SqL K H1 a xs)∧R (Itl K a) H1
noncomputable def iTup (K:PySem.W.Frag) (tl:TE):TI:=fun σ H R=>tl σ H fun x H1=>∃ a,x=.ref a∧(∃ xs,SqT K H1 a xs)∧R (Itt K a) H1
theorem pi_list {l:Expr}{tl:TE} (hl:PE X l tl):PI X tg l (iList X.K tl):=by
 intro pins s σ H R I h
 refine thn (hl pins s σ H _ I h) fun v s1 ⟨x,H1,I1,r1,q1⟩=>?_
 obtain ⟨a,e,⟨xs,hq⟩,q⟩:=q1
 subst e
 cases r1
 obtain ⟨its,rv,p,hz⟩:=I1.list hq
 refine wpAny_pyIter_list p.isList ?_
 refine ⟨s1.heap.objs.size,[s1.heap.objs.size],_,_,H1,rfl,I1.kept (t':=s1.toks) fun b o e=>Heap.get?_push_of_some _ e,turn_list a _,⟨_,Heap.get?_push_size _ rfl,rfl,rfl⟩,fun b hb=>?_,q⟩
 have e:b=s1.heap.objs.size:=by simpa using hb
 subst e
 exact I1.fpOk (Nat.le_refl _) (I1.hok.fresh (Nat.le_refl _))
theorem pi_tup {l:Expr}{tl:TE} (hl:PE X l tl):PI X tg l (iTup X.K tl):=by
 intro pins s σ H R I h
 refine thn (hl pins s σ H _ I h) fun v s1 ⟨x,H1,I1,r1,q1⟩=>?_
 obtain ⟨a,e,⟨xs,hq⟩,q⟩:=q1
 subst e
 cases r1
 obtain ⟨its,rv,p,hz⟩:=I1.tuple hq
 refine wpAny_pyIter_tuple (show s1.heap.IsTuple a its.toArray from p) ?_
 refine ⟨s1.heap.objs.size,[s1.heap.objs.size],_,_,H1,rfl,I1.kept (t':=s1.toks) fun b o e=>Heap.get?_push_of_some _ e,turn_tuple a _,⟨_,Heap.get?_push_size _ rfl,rfl,rfl⟩,fun b hb=>?_,q⟩
 have e:b=s1.heap.objs.size:=by simpa using hb
 subst e
 exact I1.fpOk (Nat.le_refl _) (I1.hok.fresh (Nat.le_refl _))
theorem range_it {pins:List (Addr×Obj)}{σ:St}{H:Hp}{s:Shared}{R:It→Hp→Prop}{E:Value→Shared→Prop}{lo hi:Int}{t u v:Tok}{tk:Nat} (I:Inv X pins σ H s) (h1:-(2 ^ 62)≤lo) (h2:lo<2 ^ 62) (h3:-(2 ^ 62)≤hi) (h4:hi<2 ^ 62)
  (q : R (Itr lo (hi - lo).toNat) H):wpAny (model X.prog X.w) X.A (pyIter (.ref s.heap.objs.size)) (PIE X pins σ tg R) E { s with heap:=s.heap.push { cls:=.type "range",data:=.fields #[.int lo t,.int hi u,.int 1 v] },toks:=tk }:=by
 refine wpAny_pyIter_range (IsRange.new ..) (small_one h1 h2 h3 h4) ?_
 have I1:Inv X pins σ H { s with heap:=s.heap.push { cls:=.type "range",data:=.fields #[.int lo t,.int hi u,.int 1 v] },toks:=tk }:=I.kept fun b o e=>Heap.get?_push_of_some _ e
 refine ⟨(s.heap.push { cls:=.type "range",data:=.fields #[.int lo t,.int hi u,.int 1 v] }).objs.size,[(s.heap.push { cls:=.type "range",data:=.fields #[.int lo t,.int hi u,.int 1 v] }).objs.size],_,_,H,rfl,
  I1.kept (t':=tk) fun b o e=>Heap.get?_push_of_some _ e,turn_range _ lo (hi - lo).toNat,?_,fun b hb=>?_,q⟩
 ·have e1:lo+((0:Nat):Int)*1=lo:=by simp
  have e2:(((hi - lo).toNat:Nat):Int) - ((0:Nat):Int)=Builtin.Range.rangeSize lo hi 1:=by rw[rangeSize_one];split <;> omega
  show IsRangeIter _ _ (lo+((0:Nat):Int)*1) ((((hi - lo).toNat:Nat):Int) - ((0:Nat):Int)) 1
  rw [e1,e2]
  exact Heap.get?_push_size _ rfl
 ·have e:b=(s.heap.push { cls:=.type "range",data:=.fields #[.int lo t,.int hi u,.int 1 v] }).objs.size:=by simpa using hb
  subst e
  exact I1.fpOk (Nat.le_refl _) (I1.hok.fresh (Nat.le_refl _))
noncomputable def iRng1 (ta:TA):TI:=fun σ H R=>ta σ H fun vs H1=>∃ j:Int,vs=[.int j]∧-(2 ^ 62)≤j∧j<2 ^ 62∧R (Itr 0 j.toNat) H1
theorem pi_range1 {a:Expr}{ta:TA}{p pos:Pos} (hg:Gl X "range") (hm:X.mg "range" = none) (ha:PA X [a] ta) (hs:starEach [a] X.env=[(false,eval a X.env)]:=by rfl):PI X tg (.Call (.Name "range" p) [a] [] pos) (iRng1 ta):=by
 intro pins s σ H R I h
 refine Call_ (ld_blt I hg hm boot_range (PyProof.Rows.callWith_type1 (thn (ha pos pins s σ H _ I h) fun us s1 ⟨vs,H1,I1,r1,q1⟩=>?_) hs rfl))
 obtain ⟨j,e,q1,q2,q⟩:=q1
 subst e
 cases r1 with
 | cons r rr =>
  cases rr
  obtain ⟨t,rfl⟩:=r
  exact call_range_1 (range_it I1 (by omega) (by omega) q1 q2 (by simpa using q))
noncomputable def tFor (wi:TI) (g:TG) (tb:TS):TS:=fun D σ H=>wi σ H fun J H1=>∃ W:Nat→Nat→St→Hp→Prop,(∃ m,W 0 m σ H1)∧∀ i m σ H,W i m σ H →
 (J.stop i H∧D.nx σ H)∨(J.go i H∧∃ N:St→Hp→Prop,(∀ σ' H',N σ' H'→∃ m',m'<m∧W (i+1) m' σ' H')∧∀ x H',J.yld i H x H'→g x σ H' fun σ2 H2=>tb { D with nx:=N,ct:=N,bk:=D.nx } σ2 H2)
noncomputable def pinsAt (fp:List Addr) (h:Heap):List (Addr×Obj):=fp.filterMap fun b=>(h.get? b).map fun o=>(b,o)
theorem mem_pinsAt {fp:List Addr}{h:Heap}{b:Addr}{o:Obj} (hb:b∈fp) (e:h.get? b=some o):(b,o)∈pinsAt fp h:=List.mem_filterMap.mpr ⟨b,hb,by rw[e];rfl⟩
theorem of_pinsAt {fp:List Addr}{h:Heap}{p:Addr×Obj} (hp:p∈pinsAt fp h):p.1∈fp∧h.get? p.1=some p.2:=by
 obtain ⟨b,hb,e⟩:=List.mem_filterMap.mp hp
 cases q:h.get? b with
 | none=>rw[q] at e;cases e
 | some o =>
  rw [q] at e
  have e':(b,o)=p:=Option.some.inj e
  subst e'
  exact ⟨hb,q⟩
theorem Inv.pinned {pins:List (Addr×Obj)}{σ:St}{H:Hp}{s:Shared}{fp:List Addr} (I:Inv X pins σ H s) (hf:∀ b∈fp,FpOk X pins H b) (ho:∀ b∈fp,∃ o,s.heap.get? b=some o∧∀ v,o.data≠.cell v):Inv X (pins++pinsAt fp s.heap) σ H s :=
 I.pins_of fun p hp=>(List.mem_append.mp hp).elim (fun z=>I.pin p (List.mem_append_right _ z)) fun z=>by
  obtain ⟨hb,e⟩:=of_pinsAt z
  obtain ⟨f0,f1,f2,_⟩:=hf p.1 hb
  obtain ⟨o,e',d⟩:=ho p.1 hb
  rw [e] at e';cases e'
  exact ⟨e,f0,f1,f2,d⟩
theorem Inv.unpinned {pins pl:List (Addr×Obj)}{σ:St}{H:Hp}{s:Shared} (I:Inv X (pins++pl) σ H s):Inv X pins σ H s:=I.pins_of fun p hp=>I.pin p (List.mem_append_right _ (List.mem_append_left _ hp))
theorem ps_for {iter:Expr}{body:List Stmt}{wi:TI}{g:TG}{tb:TS}{pos:Pos} (hp:PassesOwn (model X.prog X.w) X.A X.env X.xe) (hc:X.calm=true) (hi:PI X tg iter wi) (hg:PG X tg g) (hb:PSs X body tb)
  (hs:∀ x,foldedSetIterable iter X.env x=pure x:=by intro _;rfl):PS X (.For tg iter body [] pos) (tFor wi g tb):=by
 intro pins s σ H D I h
 refine wpAny_For (thn (hi pins s σ H _ I h) fun v s1 h1=>thn h1 fun itv s2 h2=>?_) hs
 obtain ⟨it,fp,tn,J,H2,e,I2,T,st2,f2,W,⟨m0,w0⟩,turn⟩:=h2
 subst e
 have stat:∀ {H':Hp},(∀ b∈fp,H' b=none)→∀ b∈fp,FpOk X pins H' b:=fun hn b hb=>⟨hn b hb,(f2 b hb).2⟩
 refine codeAny_forLoop_any (fun n s'=>∃ i σ' H',Inv X pins σ' H' s'∧tn i s'.heap∧(∀ b∈fp,H' b=none)∧W i n σ' H') ?_ m0 ⟨0,σ,H2,I2,st2,fun b hb=>(f2 b hb).1,w0⟩
 rintro n s3 ⟨i,σ3,H3,I3,st3,fr3,w3⟩
 rcases turn i n σ3 H3 w3 with ⟨stop,qn⟩|⟨go,N,hN,step⟩
 ·refine wpAny_passesOwn hp (thn (T.done X rfl rfl rfl hc i pins s3 σ3 H3 X.xe I3 (stat fr3) st3 stop) fun r s4 ⟨hr,I4⟩=>?_)
  subst hr
  exact wpAny_execs_nil ⟨σ3,H3,I4,qn⟩
 ·refine wpAny_passesOwn hp (thn (T.item X rfl rfl rfl hc i pins s3 σ3 H3 X.xe I3 (stat fr3) st3 go) fun r s4 ⟨u,hr,h4⟩=>?_)
  subst hr
  refine wpAny_passesOwn hp (thn h4 fun _ s5 ⟨x,H5,I5,r5,y5,st5,fr5⟩=>?_)
  have I5':=I5.pinned (stat fr5) (T.obj _ _ st5)
  refine wpAny_passesOwn hp (thn (hg _ s5 σ3 H5 x u _ I5' r5 (step x H5 y5)) fun _ s6 ⟨σ6,H6,I6,q6⟩=>?_)
  refine wpAny_passesOwn hp (thn (hb _ s6 σ6 H6 _ I6 q6) fun f s7 q7=>?_)
  have again:∀ {σ7:St}{H7:Hp},Inv X (pins++pinsAt fp s5.heap) σ7 H7 s7→N σ7 H7→∃ m,m<n∧∃ i σ' H',Inv X pins σ' H' s7∧tn i s7.heap∧(∀ b∈fp,H' b=none)∧W i m σ' H':=fun {σ7 H7} I7 n7=>by
   obtain ⟨m',hm,w7⟩:=hN σ7 H7 n7
   refine ⟨m',hm,i+1,σ7,H7,I7.unpinned,T.keep _ _ _ st5 fun b hb o e=>(I7.pin (b,o) (List.mem_append_right _ (List.mem_append_right _ (mem_pinsAt hb e)))).1,fun b hb=>?_,w7⟩
   obtain ⟨o,e,d⟩:=T.obj _ _ st5 b hb
   exact (I7.pin (b,o) (List.mem_append_right _ (List.mem_append_right _ (mem_pinsAt hb e)))).2.1
  cases f with
  | next=>obtain⟨σ7,H7,I7,n7⟩:=q7;exact again I7 n7
  | cont=>obtain⟨σ7,H7,I7,n7⟩:=q7;exact again I7 n7
  | brk=>obtain⟨σ7,H7,I7,q7⟩:=q7;exact⟨σ7,H7,I7.unpinned,q7⟩
  | ret v=>obtain⟨x7,σ7,H7,I7,r7,q7⟩:=q7;exact⟨x7,σ7,H7,I7.unpinned,r7,q7⟩
end
end L2
namespace L2
open PySem PySem.Spec PyProof.Rows
noncomputable abbrev R2:=V→V→Hp→VK→Prop
noncomputable def OpR (X:Cx) (f:Value→Value→Sem Value) (r:R2):Prop :=
 ∀ (pins:List (Addr×Obj)) (s:Shared) (σ:St) (H:Hp) (x y:V) (v u:Value) (Q:VK),Inv X pins σ H s→RelV x v→RelV y u→r x y H Q →
  wpAny (model X.prog X.w) X.A (f v u) (EP X pins σ Q) X.xe s
noncomputable def UnR (X:Cx) (f:Value→Sem Value) (r:V→Hp→VK→Prop):Prop :=
 ∀ (pins:List (Addr×Obj)) (s:Shared) (σ:St) (H:Hp) (x:V) (v:Value) (Q:VK),Inv X pins σ H s→RelV x v→r x H Q →
  wpAny (model X.prog X.w) X.A (f v) (EP X pins σ Q) X.xe s
noncomputable def CallR (X:Cx) (f:Value) (r:List V→Hp→VK→Prop):Prop :=
 ∀ (pins:List (Addr×Obj)) (s:Shared) (σ:St) (H:Hp) (xs:List V) (us:List Value) (Q:VK),Inv X pins σ H s→Vals xs us→r xs H Q →
  wpAny (model X.prog X.w) X.A (call f us) (EP X pins σ Q) X.xe s
noncomputable def TruR (X:Cx) (r:V→Hp→(Bool→Hp→Prop)→Prop):Prop :=
 ∀ (pins:List (Addr×Obj)) (s:Shared) (σ:St) (H:Hp) (x:V) (v:Value) (Q:Bool→Hp→Prop),Inv X pins σ H s→RelV x v→r x H Q →
  wpAny (model X.prog X.w) X.A (truthy v) (TP X pins σ Q) X.xe s
noncomputable def tOp (r:R2) (ta tb:TE):TE:=fun σ H Q=>ta σ H fun x H1=>tb σ H1 fun y H2=>r x y H2 Q
noncomputable def tUn (r:V→Hp→VK→Prop) (ta:TE):TE:=fun σ H Q=>ta σ H fun x H1=>r x H1 Q
noncomputable def rI (C:Int→Int→Prop) (g:Int→Int→V):R2:=fun x y H Q=>∃ i j,x=.int i∧y=.int j∧C i j∧Q (g i j) H
noncomputable def rI0 (g:Int→Int→V):R2:=fun x y H Q=>∃ i j,x=.int i∧y=.int j∧Q (g i j) H
noncomputable def rU (g:Int→V):V→Hp→VK→Prop:=fun x H Q=>∃ i,x=.int i∧Q (g i) H
section
variable {X:Cx}{a b c:Expr}{ta tb tc:TE}{pos:Pos}
theorem binT (ha:PE X a ta) (hb:PE X b tb) {pins:List (Addr×Obj)}{s:Shared}{σ:St}{H:Hp}{R:V→V→Hp→Prop} (I:Inv X pins σ H s)
  (h : ta σ H fun x H1=>tb σ H1 fun y H2=>R x y H2) {Q:Value→Shared→Prop}{f:Value→Value→Sem Value}
  (hf:∀ v u s2 x y H2,Inv X pins σ H2 s2→RelV x v→RelV y u→R x y H2→wpAny (model X.prog X.w) X.A (f v u) Q X.xe s2) :
  wpAny (model X.prog X.w) X.A (eval a X.env) (fun v s₁=>wpAny (model X.prog X.w) X.A (eval b X.env) (fun u s₂=>wpAny (model X.prog X.w) X.A (f v u) Q X.xe s₂) X.xe s₁) X.xe s:=by
 refine thn (ha pins s σ H _ I h) fun v s1 ⟨x,H1,I1,r1,q1⟩=>?_
 refine thn (hb pins s1 σ H1 _ I1 q1) fun u s2 ⟨y,H2,I2,r2,q2⟩=>?_
 exact hf v u s2 x y H2 I2 r1 r2 q2
theorem pe_op {op:Operator}{r:R2} (ho:OpR X (binaryOp op) r) (ha:PE X a ta) (hb:PE X b tb):PE X (.BinOp a op b pos) (tOp r ta tb):=by
 intro pins s σ H Q I h
 exact wpAny_BinOp (binT ha hb I h fun v u s2 x y H2 I2 rx ry q=>ho pins s2 σ H2 x y v u Q I2 rx ry q)
theorem pe_un {op:UnaryOp}{r:V→Hp→VK→Prop} (ho:UnR X (unaryOp op) r) (ha:PE X a ta):PE X (.UnaryOp op a pos) (tUn r ta):=by
 intro pins s σ H Q I h
 exact UnaryOp_ (thn (ha pins s σ H _ I h) fun v s1 ⟨x,H1,I1,r1,q1⟩=>ho pins s1 σ H1 x v Q I1 r1 q1)
theorem opI {f:Value→Value→Sem Value}{C:Int→Int→Prop}{g:Int→Int→Int}
  (rule:∀ (i j:Int) (t u:Tok) (s:Shared) (Q:Value→Shared→Prop) (E:Value→Shared→Prop),C i j→Q (.int (g i j) s.toks) { s with toks:=s.toks+1 }→wpAny (model X.prog X.w) X.A (f (.int i t) (.int j u)) Q E s) :
  OpR X f (rI C fun i j=>.int (g i j)):=by
 intro pins s σ H x y v u Q I rx ry h
 obtain ⟨i,j,rfl,rfl,hc,q⟩:=h
 obtain ⟨t,rfl⟩:=rx
 obtain ⟨t',rfl⟩:=ry
 exact rule i j t t' s _ _ hc ⟨.int (g i j),H,I.tok _,⟨_,rfl⟩,q⟩
theorem opI0 {f:Value→Value→Sem Value}{g:Int→Int→Int}
  (rule:∀ (i j:Int) (t u:Tok) (s:Shared) (Q:Value→Shared→Prop) (E:Value→Shared→Prop),Q (.int (g i j) s.toks) { s with toks:=s.toks+1 }→wpAny (model X.prog X.w) X.A (f (.int i t) (.int j u)) Q E s) :
  OpR X f (rI0 fun i j=>.int (g i j)):=by
 intro pins s σ H x y v u Q I rx ry h
 obtain ⟨i,j,rfl,rfl,q⟩:=h
 obtain ⟨t,rfl⟩:=rx
 obtain ⟨t',rfl⟩:=ry
 exact rule i j t t' s _ _ ⟨.int (g i j),H,I.tok _,⟨_,rfl⟩,q⟩
theorem opB0 {f:Value→Value→Sem Value}{g:Int→Int→Bool}
  (rule:∀ (i j:Int) (t u:Tok) (s:Shared) (Q:Value→Shared→Prop) (E:Value→Shared→Prop),Q (.bool (g i j)) s→wpAny (model X.prog X.w) X.A (f (.int i t) (.int j u)) Q E s) :
  OpR X f (rI0 fun i j=>.bl (g i j)):=by
 intro pins s σ H x y v u Q I rx ry h
 obtain ⟨i,j,rfl,rfl,q⟩:=h
 obtain ⟨t,rfl⟩:=rx
 obtain ⟨t',rfl⟩:=ry
 exact rule i j t t' s _ _ ⟨.bl (g i j),H,I,rfl,q⟩
noncomputable def CDiv (i j:Int):Prop:=0<j∧j<1073741824
noncomputable def CMul (i j:Int):Prop:=(-(2 ^ 64)<i∧i<2 ^ 64)∨(-(2 ^ 64)<j∧j<2 ^ 64)
theorem CMul.ok {i j:Int} (h:CMul i j):IntMulOk i j:=by
 rcases h with ⟨h1,h2⟩|⟨h1,h2⟩
 ·exact .of_left (intBits_le_64 h1 h2)
 ·exact .of_right (intBits_le_64 h1 h2)
theorem op_add:OpR X (binaryOp .Add) (rI0 fun i j=>.int (i+j)):=opI0 fun _ _ _ _ _ _ _ q=>add_int q
theorem op_sub:OpR X (binaryOp .Sub) (rI0 fun i j=>.int (i - j)):=opI0 fun _ _ _ _ _ _ _ q=>sub_int q
theorem op_mul:OpR X (binaryOp .Mult) (rI CMul fun i j=>.int (i*j)):=opI fun _ _ _ _ _ _ _ hc q=>mul_int q hc.ok
theorem op_fdiv:OpR X (binaryOp .FloorDiv) (rI CDiv fun i j=>.int (i / j)):=opI fun i j _ _ _ _ _ hc q=>by
 have h1:(0:Int)<j:=hc.1
 have h2:j<1073741824:=hc.2
 exact floordiv_int (by omega) (by rw[Int.fdiv_eq_ediv_of_nonneg i (by omega)];exact q) (.inl (PyProof.noPylong_small (by omega)))
theorem op_mod:OpR X (binaryOp .Mod) (rI (fun _ j=>0<j) fun i j=>.int (i % j)):=opI fun i j _ _ _ _ _ hc q=>by
 have h1:(0:Int)<j:=hc
 exact mod_int' (by omega) (by rw[Int.fmod_eq_emod_of_nonneg i (by omega)];exact q)
theorem unI {f:Value→Sem Value}{g:Int→Int}
  (rule:∀ (i:Int) (t:Tok) (s:Shared) (Q:Value→Shared→Prop) (E:Value→Shared→Prop),Q (.int (g i) s.toks) { s with toks:=s.toks+1 }→wpAny (model X.prog X.w) X.A (f (.int i t)) Q E s) :
  UnR X f (rU fun i=>.int (g i)):=by
 intro pins s σ H x v Q I rx h
 obtain ⟨i,rfl,q⟩:=h
 obtain ⟨t,rfl⟩:=rx
 exact rule i t s _ _ ⟨.int (g i),H,I.tok _,⟨_,rfl⟩,q⟩
theorem un_neg:UnR X (unaryOp .USub) (rU fun i=>.int (-i)):=unI fun _ _ _ _ _ q=>neg_int q
end
noncomputable def scal:V→V→Bool
 | .non,.non=>true|.non,.int _=>true|.int _,.non=>true|.non,.bl _=>true|.bl _,.non=>true|.non,.str _=>true|.str _,.non=>true
 | .int _,.int _=>true|.bl _,.bl _=>true|.str _,.str _=>true|.byt _,.byt _=>true
 | .int _,.str _=>true|.str _,.int _=>true|.bl _,.str _=>true|.str _,.bl _=>true
 | _,_=>false
noncomputable def rEq:R2:=fun x y H Q=>scal x y=true∧Q (.bl (decide (x=y))) H
theorem dec_int {i j:Int}:decide (V.int i=V.int j)=(i==j):=by
 rw [Bool.eq_iff_iff]
 simp
theorem dec_bl {i j:Bool}:decide (V.bl i=V.bl j)=(i==j):=by
 rw [Bool.eq_iff_iff]
 simp
theorem dec_str {i j:Str}:decide (V.str i=V.str j)=(i==j):=by
 rw [Bool.eq_iff_iff]
 simp
theorem dec_byt {i j:Array UInt8}:decide (V.byt i=V.byt j)=(i.toList==j.toList):=by
 rw [Bool.eq_iff_iff]
 cases i
 cases j
 simp
section
variable {X:Cx}{a b c:Expr}{ta tb tc:TE}{pos:Pos}
theorem fin_bl {pins:List (Addr×Obj)}{σ:St}{H:Hp}{s:Shared}{Q:VK}{k k':Bool} (I:Inv X pins σ H s) (q:Q (.bl k) H) (e:k=k'):EP X pins σ Q (.bool k') s:=by
 subst e
 exact ⟨.bl k,H,I,rfl,q⟩
theorem op_eq:OpR X (compareOp .Eq) rEq:=by
 intro pins s σ H x y v u Q I rx ry h
 obtain ⟨hs,q⟩:=h
 cases x with
 | non =>
  cases rx
  cases y with
  | non=>cases ry;exact PySem.EqNone.eq_none_none (fin_bl I q (by simp))
  | bl j=>cases ry;exact PySem.EqNone.eq_none_bool (fin_bl I q (by simp))
  | int j=>obtain⟨t',rfl⟩:=ry;exact PySem.EqNone.eq_none_int (fin_bl I q (by simp))
  | str j=>obtain⟨t',rfl⟩:=ry;exact PySem.EqNone.eq_none_str (fin_bl I q (by simp))
  | _=>exact absurd (show false=true from hs) Bool.false_ne_true
 | bl i =>
  cases rx
  cases y with
  | non=>cases ry;exact PySem.EqNone.eq_bool_none (fin_bl I q (by simp))
  | bl j=>cases ry;exact eq_bool (fin_bl I q dec_bl)
  | str j=>obtain⟨t',rfl⟩:=ry;exact PySem.EqMixed.eq_bool_str (fin_bl I q (by simp))
  | _=>exact absurd (show false=true from hs) Bool.false_ne_true
 | int i =>
  obtain ⟨t,rfl⟩:=rx
  cases y with
  | non=>cases ry;exact PySem.EqNone.eq_int_none (fin_bl I q (by simp))
  | int j=>obtain⟨t',rfl⟩:=ry;exact eq_int (fin_bl I q dec_int)
  | str j=>obtain⟨t',rfl⟩:=ry;exact PySem.EqMixed.eq_int_str (fin_bl I q (by simp))
  | _=>exact absurd (show false=true from hs) Bool.false_ne_true
 | str i =>
  obtain ⟨t,rfl⟩:=rx
  cases y with
  | non=>cases ry;exact PySem.EqNone.eq_str_none (fin_bl I q (by simp))
  | bl j=>cases ry;exact PySem.EqMixed.eq_str_bool (fin_bl I q (by simp))
  | int j=>obtain⟨t',rfl⟩:=ry;exact PySem.EqMixed.eq_str_int (fin_bl I q (by simp))
  | str j=>obtain⟨t',rfl⟩:=ry;exact eq_str (fin_bl I q dec_str)
  | _=>exact absurd (show false=true from hs) Bool.false_ne_true
 | byt i =>
  obtain ⟨t,rfl⟩:=rx
  cases y with
  | byt j=>obtain⟨t',rfl⟩:=ry;exact PySem.W.eq_bytes (fin_bl I q dec_byt)
  | _=>exact absurd (show false=true from hs) Bool.false_ne_true
 | _=>cases y <;> exact absurd (show false=true from hs) Bool.false_ne_true
theorem op_lt:OpR X (compareOp .Lt) (rI0 fun i j=>.bl (decide (i<j))):=opB0 fun _ _ _ _ _ _ _ q=>lt_int q
theorem op_le:OpR X (compareOp .LtE) (rI0 fun i j=>.bl (decide (i≤j))):=opB0 fun _ _ _ _ _ _ _ q=>le_int q
theorem op_gt:OpR X (compareOp .Gt) (rI0 fun i j=>.bl (decide (j<i))):=opB0 fun _ _ _ _ _ _ _ q=>gt_int q
theorem op_isN:OpR X (compareOp .Is) (fun x y H Q=>y=.non∧Q (.bl (decide (x=.non))) H):=by
 intro pins s σ H x y v u Q I rx ry h
 obtain ⟨rfl,q⟩:=h
 cases ry
 refine is_none_gen (fin_bl I q ?_)
 cases x <;> first
  | (cases rx;rfl)
  | (obtain⟨t,rfl⟩:=rx;rfl)
theorem op_notN:OpR X (compareOp .IsNot) (fun x y H Q=>y=.non∧Q (.bl (!decide (x=.non))) H):=by
 intro pins s σ H x y v u Q I rx ry h
 obtain ⟨rfl,q⟩:=h
 cases ry
 refine isnot_none_gen (fin_bl I q ?_)
 cases x <;> first
  | (cases rx;rfl)
  | (obtain⟨t,rfl⟩:=rx;rfl)
theorem OpR.or {f:Value→Value→Sem Value}{r r':R2} (h:OpR X f r) (h':OpR X f r'):OpR X f (fun x y H Q=>r x y H Q∨r' x y H Q):=by
 intro pins s σ H x y v u Q I rx ry q
 rcases q with q|q
 ·exact h pins s σ H x y v u Q I rx ry q
 ·exact h' pins s σ H x y v u Q I rx ry q
theorem nomark (b:Expr) {op:CmpOp} (h:op≠.In:=by decide) (h2:op≠.NotIn:=by decide):behindInMarks op b=false:=by
 have e1:(op==CmpOp.In)=false:=by cases op <;> first|rfl|exact absurd rfl h
 have e2:(op==CmpOp.NotIn)=false:=by cases op <;> first|rfl|exact absurd rfl h2
 cases b <;> simp[behindInMarks,e1,e2]
theorem pe_cmpR {op:CmpOp}{r:R2} (ho:OpR X (compareOp op) r) (ha:PE X a ta) (hb:PE X b tb) (hm:behindInMarks op b=false):PE X (.Compare a [op] [b] pos) (tOp r ta tb):=by
 intro pins s σ H Q I h
 exact wpAny_Compare1 (binT ha hb I h fun v u s2 x y H2 I2 rx ry q=>ho pins s2 σ H2 x y v u Q I2 rx ry q) hm
noncomputable def tTest (t:TE):TT:=fun σ H Q=>t σ H fun x H'=>∃ k,x=.bl k∧Q k H'
theorem pt_cmpR {op:CmpOp}{r:R2} (ho:OpR X (compareOp op) r) (ha:PE X a ta) (hb:PE X b tb) (hm:behindInMarks op b=false):PT X (.Compare a [op] [b] pos) (tTest (tOp r ta tb)):=by
 intro pins s σ H Q I h
 refine wpAny_isTrue_Compare1 (thn (ha pins s σ H _ I h) fun v s1 ⟨x,H1,I1,r1,q1⟩=>thn (hb pins s1 σ H1 _ I1 q1) fun u s2 ⟨y,H2,I2,r2,q2⟩ =>
  thn (ho pins s2 σ H2 x y v u _ I2 r1 r2 q2) fun c s3 ⟨z,H3,I3,r3,k,e,q3⟩=>?_) hm
 subst e
 cases r3
 exact wpAny_truthy_bool ⟨H3,I3,q3⟩
noncomputable def TruV (K:PySem.W.Frag) (x:V) (H:Hp) (k:Bool):Prop :=
 match x with
 | .non=>k=false
 | .bl b=>k=b
 | .int i=>k=(i != 0)
 | .str y=>y.length≤sizeLine∧k=((y.length:Int) != 0)
 | .byt y=>y.size≤sizeLine∧k=((y.size:Int) != 0)
 | .ref p=>(∃ xs,SqL K H p xs∧k=!xs.isEmpty)∨(∃ xs,SqT K H p xs∧k=!xs.isEmpty)∨∃ kvs,H p=some (.dK kvs)∧k=!kvs.isEmpty
 | _=>False
theorem isEmpty_kv {κ:Type}{kvs:List (κ×V)}{vs:List (κ×Value)} (r:KV kvs vs):(!vs.isEmpty)=!kvs.isEmpty:=by
 cases r <;> rfl
theorem isEmpty_of {xs:List V}{its:List Value} (r:Vals xs its):(!its.toArray.isEmpty)=!xs.isEmpty:=by
 cases r <;> simp
theorem line63:(sizeLine:Nat)<2 ^ 63:=by rw[sizeLine_eq];decide
theorem tru_ok:TruR X (fun x H Q=>∃ k,TruV X.K x H k∧Q k H):=by
 intro pins s σ H x v Q I rx h
 obtain ⟨k,e,q⟩:=h
 have hl:=line63
 have hs:sizeLine=16777216:=sizeLine_eq
 cases x with
 | non =>
  cases rx
  have e':k=false:=e
  subst e'
  exact truthy_none ⟨H,I,q⟩
 | bl b =>
  cases rx
  have e':k=b:=e
  subst e'
  exact wpAny_truthy_bool ⟨H,I,q⟩
 | int i =>
  obtain ⟨t,rfl⟩:=rx
  have e':k=(i != 0):=e
  subst e'
  exact PySem.P.truthy_int ⟨H,I,q⟩
 | str y =>
  obtain ⟨t,rfl⟩:=rx
  obtain ⟨hy,e'⟩:y.length≤sizeLine∧k=((y.length:Int) != 0):=e
  subst e'
  exact PySem.P.truthy_str (by omega) ⟨H,I.tok _,q⟩
 | byt y =>
  obtain ⟨t,rfl⟩:=rx
  obtain ⟨hy,e'⟩:y.size≤sizeLine∧k=((y.size:Int) != 0):=e
  subst e'
  exact PySem.W.truthy_bytes (by omega) ⟨H,I.tok _,q⟩
 | ref p =>
  cases rx
  have e':(∃ xs,SqL X.K H p xs∧k=!xs.isEmpty)∨(∃ xs,SqT X.K H p xs∧k=!xs.isEmpty)∨∃ kvs,H p=some (.dK kvs)∧k=!kvs.isEmpty:=e
  rcases e' with ⟨xs,hx,e'⟩|⟨xs,hx,e'⟩|⟨kvs,hx,e'⟩
  ·subst e'
   obtain ⟨its,r,pl,hz⟩:=I.list hx
   have hlen:=r.length
   exact wpAny_truthy_list pl.isList (by simp only [List.size_toArray];omega) ⟨H,I.tok _,by rw[isEmpty_of r];exact q⟩
  ·subst e'
   obtain ⟨its,r,pl,hz⟩:=I.tuple hx
   have hlen:=r.length
   exact truthy_tuple pl (by simp only [List.size_toArray];omega) ⟨H,I.tok _,by rw[isEmpty_of r];exact q⟩
  ·subst e'
   obtain ⟨hz,hS,vs,r,m⟩:kvs.length≤sizeLine∧(p==sysModules)=false∧∃ vs,KV kvs vs∧s.heap.DictOf (mixKind X.prog X.w) p vs:=I.hok p _ hx
   have hlen:kvs.length=vs.length:=Paired.length r
   exact wpAny_truthy_dict hS m (by omega) ⟨H,I.tok _,by rw[isEmpty_kv r];exact q⟩
 | _=>exact (show False from e).elim
theorem pt_truth (ha:PE X a ta) (he:∀ whole,isTrue a X.env whole=(do let v ←whole;standAt a.pos;holding [v] (truthy v))) :
  PT X a (fun σ H Q=>ta σ H fun x H'=>∃ k,TruV X.K x H' k∧Q k H'):=by
 intro pins s σ H Q I h
 exact isTrue_plain (thn (ha pins s σ H _ I h) fun v s1 ⟨x,H1,I1,r1,q1⟩=>tru_ok pins s1 σ H1 x v Q I1 r1 q1) (he _)
theorem vals1 {x:V}{us:List Value} (r:Vals [x] us):∃ u,us=[u]∧RelV x u:=by
 cases r with
 | cons r1 r2=>cases r2;exact⟨_,rfl,r1⟩
theorem vals2 {x y:V}{us:List Value} (r:Vals [x,y] us):∃ u w',us=[u,w']∧RelV x u∧RelV y w':=by
 cases r with
 | cons r1 r2 =>
  cases r2 with
  | cons r3 r4=>cases r4;exact⟨_,_,rfl,r1,r3⟩
theorem call_min2 (hc:X.calm=true):CallR X (.builtin "min") (fun xs H Q=>∃ i j,xs=[.int i,.int j]∧Q (.int (if j<i then j else i)) H):=by
 intro pins s σ H xs us Q I r h
 obtain ⟨i,j,rfl,q⟩:=h
 obtain ⟨u,w',rfl,⟨t,rfl⟩,⟨t',rfl⟩⟩:=vals2 r
 refine min_two_ints (I.ok.hd hc) fun h' tk k=>⟨_,H,I.kept k,?_,q⟩
 by_cases hj:j<i
 ·rw [if_pos hj,if_pos hj];exact⟨_,rfl⟩
 ·rw [if_neg hj,if_neg hj];exact⟨_,rfl⟩
theorem call_int1:CallR X (.type "int") (fun xs H Q=>(∃ i,xs=[.int i]∧Q (.int i) H)∨∃ k,xs=[.bl k]∧Q (.int (if k then 1 else 0)) H):=by
 intro pins s σ H xs us Q I r h
 rcases h with ⟨i,rfl,q⟩|⟨k,rfl,q⟩
 ·obtain ⟨u,rfl,t,rfl⟩:=vals1 r
  exact call_int_int ⟨.int i,H,I,⟨_,rfl⟩,q⟩
 ·obtain ⟨u,rfl,r1⟩:=vals1 r
  cases r1
  exact call_int_bool ⟨.int (if k then 1 else 0),H,I.tok _,⟨_,rfl⟩,q⟩
end
end L2
namespace L2
open PySem PySem.Spec PyProof.Rows
structure ObjM (h:Heap) (x dx C:Addr) (mA:Str→Option Value):Prop where
 obj:h.get? x=some (PySem.W.instObj C dx)
 ns : h.Ns1 dx mA
 ne : dx≠x
theorem lookIn_ns {h:Heap}{dx:Addr}{mA:Str→Option Value} (n:h.Ns1 dx mA):∃ od,h.get? dx=some od∧∀ name,PySem.W.lookIn name od=some (mA name):=by
 obtain ⟨o,es,ep,ho,hd,hk,_,hm⟩:=n
 refine ⟨o,ho,fun name=>?_⟩
 have e:=hm name
 unfold nsFind findBy at e
 rw [←Array.find?_toList] at e
 unfold PySem.W.lookIn
 rw [hd]
 dsimp only
 split
 ·rename_i y q
  rw [q] at e
  exact congrArg some e
 ·rename_i q
  rw [q] at e
  have a:es.toList.any (·.refKey)=false:=by
   rw [List.any_eq_false]
   intro y hy
   obtain ⟨z,t,hkey⟩:=hk y (Array.mem_toList_iff.mp hy)
   simp [DictEntry.refKey,hkey]
  have a':¬es.toList.any (·.refKey)=true:=by rw[a];exact Bool.false_ne_true
  rw [if_neg a']
  exact congrArg some e
theorem ObjM.look {h:Heap}{x dx C:Addr}{mA:Str→Option Value} (I:ObjM h x dx C mA):∃ od,PySem.W.InstAt h x (PySem.W.instObj C dx) C (some od)∧∀ name,PySem.W.lookIn name od=some (mA name) :=
 let ⟨od,ho,hl⟩:=lookIn_ns I.ns
 ⟨od,⟨I.obj,rfl,rfl,ho⟩,hl⟩
section
variable {prog:Program}{w:World}{A:Around}{E:Value→Shared→Prop}{s:Shared}{K:PySem.W.Frag}{x dx C f:Addr}{mA:Str→Option Value}{name:Str}{v:Value}
end
section
variable {P:Program}{w:World}{H H':Hp}{h h':Heap}{a C dx:Addr}{fs fs':List (Str×V)}
end
structure Cls (K:PySem.W.Frag) (C:Addr):Prop where
 pg : PySem.W.plainGet K C Str.empty=true
 hd : PySem.W.hasDictIn K C=true
 po : PySem.W.plainOver K C=true
 sa : PySem.W.findIn K (.ref C) "__setattr__" = some (some (.builtin "object.__setattr__"))
theorem Cls.get {K:PySem.W.Frag}{C:Addr} (c:Cls K C) (f:Str):PySem.W.plainGet K C f=true:=c.pg
section
variable {X:Cx}{pins:List (Addr×Obj)}{σ:St}{H:Hp}{s:Shared}{a C dx:Addr}{fs:List (Str×V)}{f:Str}{v:V}{A:Around}{E:Value→Shared→Prop}
end
section
variable {X:Cx}{o e value:Expr}{f:Str}{pos pos' tpos:Pos}{ta tv:TE}
end
section
variable {X:Cx}{pins:List (Addr×Obj)}{σ:St}{H:Hp}{s:Shared}{A:Around}{E:Value→Shared→Prop}{Q:Value→Shared→Prop}{c:Value}{b:Bool}
end
end L2
namespace L2
open PySem PySem.Spec PyProof.Rows
structure Room (k:Nat) (A:Around):Prop where
 hd : A.handled=none
 dp : A.depth+3*k+5<recursionLimit
 un : A.units+16*k+200<cLine
theorem Room.mono {j k:Nat}{A:Around} (r:Room k A) (h:j≤k):Room j A:=⟨r.hd,by have:=r.dp;omega,by have:=r.un;omega⟩
theorem Room.deeper {k:Nat}{A:Around} (r:Room (k+1) A) (env:Env):Room k (A.deeper env) :=
 ⟨r.hd,by have:=r.dp;show A.depth+1+3*k+5<_;omega,by have:=r.un;show A.units+3+16*k+200<_;omega⟩
theorem Room.in1 {k:Nat}{A:Around} (r:Room (k+1) A):Room k A.in1 :=
 ⟨r.hd,by have:=r.dp;show A.depth+3*k+5<_;omega,by have:=r.un;show A.units+1+16*k+200<_;omega⟩
theorem Room.depth {k:Nat}{A:Around} (r:Room k A):A.depth<recursionLimit:=by have:=r.dp;omega
theorem Room.units {k:Nat}{A:Around} (r:Room k A):A.units+64<cLine:=by have:=r.un;omega
noncomputable def tNil:TA:=fun _ H Q=>Q [] H
noncomputable def tCons (ta:TE) (tr:TA):TA:=fun σ H Q=>ta σ H fun x H1=>tr σ H1 fun xs H2=>Q (x::xs) H2
section
variable {X:Cx}{e:Expr}{es:List Expr}{te:TE}{t:TA}{pos:Pos}
theorem pa_nil:PA X [] tNil:=fun _ _ _ _ H Q I h=>Calls.spliced_nil ⟨[],H,I,.nil,h⟩
theorem pa_cons (ha:PE X e te) (hr:PA X es t) (hs:starEach (e::es) X.env=(false,eval e X.env)::starEach es X.env:=by rfl):PA X (e::es) (tCons te t):=by
 intro pos pins s σ H Q I h
 rw [hs]
 show wpAny _ _ (spliced ((false,eval e X.env)::backTo pos (starEach es X.env))) _ _ s
 refine Calls.spliced_cons (thn (ha pins s σ H _ I h) fun u s1 ⟨x,H1,I1,r1,q1⟩=>?_)
 exact thn (hr pos pins s1 σ H1 _ I1 q1) fun us s2 ⟨xs,H2,I2,r2,q2⟩=>⟨x::xs,H2,I2,.cons r1 r2,q2⟩
noncomputable def tTup (t:TA):TE:=fun σ H Q=>t σ H fun xs H1=>xs.length≤sizeLine∧∀ p,H1 p=none→Q (.ref p) (upd H1 p (.tup xs))
noncomputable def tLst (t:TA):TE:=fun σ H Q=>t σ H fun xs H1=>xs.length≤sizeLine∧∀ p,H1 p=none→Q (.ref p) (upd H1 p (.lst xs))
theorem pe_tup {x1} (h:PA X es t):PE X (.Tuple es x1 pos) (tTup t):=by
 intro pins s σ H Q I hq
 refine wpAny_Tuple_spliced (thn (h pos pins s σ H _ I hq) fun us s1 ⟨xs,H1,I1,r,z,q⟩=>⟨by rw[←r.length];exact z,?_⟩)
 have hf:H1 s1.heap.objs.size=none:=I1.hok.fresh (Nat.le_refl _)
 refine ⟨.ref s1.heap.objs.size,upd H1 s1.heap.objs.size (.tup xs),I1.laid (t':=s1.toks) (fun b u e=>Heap.get?_push_of_some _ e) (Nat.le_refl _) ?_,rfl,q _ hf⟩
 exact ⟨z,us,r,⟨_,Heap.get?_push_size _ rfl,rfl,_,rfl⟩⟩
theorem pe_lst (h:PA X es t):PE X (.List es pos) (tLst t):=by
 intro pins s σ H Q I hq
 refine wpAny_List_spliced (thn (h pos pins s σ H _ I hq) fun us s1 ⟨xs,H1,I1,r,z,q⟩=>⟨by rw[←r.length];exact z,?_⟩)
 have hf:H1 s1.heap.objs.size=none:=I1.hok.fresh (Nat.le_refl _)
 refine ⟨.ref s1.heap.objs.size,upd H1 s1.heap.objs.size (.lst xs),I1.laid (t':=s1.toks) (fun b u e=>Heap.get?_push_of_some _ e) (Nat.le_refl _) ?_,rfl,q _ hf⟩
 exact ⟨z,us,0,r,Heap.get?_push_size _ rfl⟩
end
noncomputable abbrev Sp:=List V→Hp→VK→XK→Prop
noncomputable abbrev CXT:=List Env→Hp→Shared→XK→Value→Shared→Prop
structure Env0 (P:Program) (w:World) (K:PySem.W.Frag) (mg:Str→Option Value) (base:Heap) (A:Around) (outer:List Env) (s:Shared) (H:Hp):Prop where
 frames:A.frames=some outer
 mod:Mod K mg base
 bs : ∀ b o,base.get? b=some o→s.heap.get? b=some o∧H b=none
 bsz:base.objs.size≤s.heap.objs.size
 funs:s.heap.FunFrames base outer
 frf:∀ b∈frs outer,H b=none
 hok:HOk P w H s.heap
 bare:AllBare s.gens
 tab:TabsIn K H
noncomputable def CE (outer:List Env) (P:Program) (w:World) (H:Hp) (s:Shared) (Q:VK) (u:Value) (s':Shared):Prop :=
 ∃ v H',s'.os=s.os∧AllBare s'.gens∧Un (frs outer) [] H H' s.heap s'.heap∧HOk P w H' s'.heap∧RelV v u∧Q v H'
noncomputable def CR (CX:CXT) (outer:List Env) (P:Program) (w:World) (H:Hp) (s:Shared) (Q:VK) (E:XK) (r:Result) (s':Shared):Prop :=
 match r with
 | .ok (.ret u)=>CE outer P w H s Q u s'
 | .ok _=>False
 | .error e=>CX outer H s E e s'
structure FnOk (P:Program) (w:World) (K:PySem.W.Frag) (mg:Str→Option Value) (base:Heap) (CX:CXT) (k:Nat) (f:Addr) (fd:FuncData) (ps:List Str) (sp:Sp):Prop where
 len:∀ vs H Q E,sp vs H Q E→vs.length=ps.length
 run:∀ (A:Around) (outer:List Env) (s:Shared) (H:Hp) (args:Args) (us:List Value) (vs:List V) (Q:VK) (E:XK),Room k A→Env0 P w K mg base A outer s H→BindsTo s fd args (ps.zip us)→Vals vs us→sp vs H Q E →
  codeAny (model P w) A (.call (.ref f) args) (CR CX outer P w H s Q E) s
theorem FnOk.mono {P:Program}{w:World}{K:PySem.W.Frag}{mg:Str→Option Value}{base:Heap}{CX:CXT}{j k:Nat}{f:Addr}{fd:FuncData}{ps:List Str}{sp:Sp} (F:FnOk P w K mg base CX j f fd ps sp) (h:j≤k) :
  FnOk P w K mg base CX k f fd ps sp:=⟨F.len,fun A outer s H args us vs Q E hr=>F.run A outer s H args us vs Q E (hr.mono h)⟩
theorem FnOk.imp {P:Program}{w:World}{K:PySem.W.Frag}{mg:Str→Option Value}{base:Heap}{CX:CXT}{k:Nat}{f:Addr}{fd:FuncData}{ps:List Str}{sp sp':Sp} (F:FnOk P w K mg base CX k f fd ps sp)
  (h : ∀ vs H Q E,sp' vs H Q E→sp vs H Q E):FnOk P w K mg base CX k f fd ps sp' :=
 ⟨fun vs H Q E q=>F.len vs H Q E (h _ _ _ _ q),fun A outer s H args us vs Q E hr he hb hv hs=>F.run A outer s H args us vs Q E hr he hb hv (h _ _ _ _ hs)⟩
theorem Env0.in1 {P:Program}{w:World}{K:PySem.W.Frag}{mg:Str→Option Value}{base:Heap}{A:Around}{outer:List Env}{s:Shared}{H:Hp} (e:Env0 P w K mg base A outer s H) :
  Env0 P w K mg base A.in1 outer s H:=⟨e.frames,e.mod,e.bs,e.bsz,e.funs,e.frf,e.hok,e.bare,e.tab⟩
section
variable {X:Cx}{pins:List (Addr×Obj)}{σ:St}{H:Hp}{s s':Shared}
theorem Inv.env0 (I:Inv X pins σ H s):Env0 X.prog X.w X.K X.mg X.base X.A X.stack s H :=
 ⟨I.ok.frames,I.ok.mod,I.bs,Nat.le_trans I.ok.bsz I.sz,I.stack,I.stkFree,I.hok,I.bare,fun T q h=>I.base.tbls T q (I.ok.tab T q h)⟩
theorem Inv.after {Q:VK}{u:Value} (I:Inv X pins σ H s) (h:CE X.stack X.prog X.w H s Q u s'):EP X pins σ Q u s':=by
 obtain ⟨v,H',os,bare,un,hok,r,q⟩:=h
 obtain ⟨hh,g,d,t,os'⟩:=s'
 obtain rfl:os'=s.os:=os
 exact ⟨v,H',I.call (h':=hh) (g':=g) (d':=d) (t':=t) (ch:=[]) un hok bare (fun b z=>absurd z (by simp)),r,q⟩
end
noncomputable def tCall (sp:Sp) (dvs:List V) (E:XK) (t:TA):TE:=fun σ H Q=>t σ H fun vs H1=>sp (vs++dvs) H1 Q E
noncomputable def Binds (K:PySem.W.Frag) (fd:FuncData) (ps:List Str) (ds:List Value):Prop :=
 ∀ (s:Shared) (us:List Value),K.In s.heap→(us++ds).length=ps.length→BindsTo s fd ⟨us,[]⟩ (ps.zip (us++ds))
theorem Binds.all {K:PySem.W.Frag}{fd:FuncData}{ps:List Str} (h:∀ us:List Value,us.length=ps.length→bindArgs fd ⟨us,[]⟩=pure (ps.zip us)):Binds K fd ps []:=fun s us _ hl=>by
 rw [List.append_nil] at hl ⊢
 exact .of_eq (h us hl)
noncomputable def Passes (CX:CXT) (X:Cx) (E:XK):Prop:=∀ (pins:List (Addr×Obj)) (σ:St) (H:Hp) (s:Shared) (e:Value) (s':Shared),Inv X pins σ H s→CX X.stack H s E e s'→X.xe e s'
section
variable {X:Cx}{CX:CXT}{k:Nat}{f C:Addr}{fd:FuncData}{ps:List Str}{sp:Sp}{dvs:List V}{ds:List Value}{E:XK}{x m:Str}{p pos apos:Pos}{e o:Expr}{es:List Expr}{ta:TE}{t:TA}
theorem run_fn {pins:List (Addr×Obj)}{σ:St}{H:Hp}{s:Shared}{Q:VK}{us:List Value}{vs:List V} (F:FnOk X.prog X.w X.K X.mg X.base CX k f fd ps sp) (hr:Room k X.A) (hb:Binds X.K fd ps ds) (hd:Vals dvs ds) (hx:Passes CX X E)
  (I : Inv X pins σ H s) (r:Vals vs us) (h:sp (vs++dvs) H Q E):wpAny (model X.prog X.w) X.A (call (.ref f) us) (EP X pins σ Q) X.xe s:=by
 have r2:Vals (vs++dvs) (us++ds):=r.append hd
 have hl:(us++ds).length=ps.length:=by rw[←r2.length];exact F.len _ _ _ _ h
 refine wpAny_call (codeAny_mono (F.run X.A X.stack s H ⟨us,[]⟩ (us++ds) (vs++dvs) Q E hr I.env0 (hb s us I.kIn hl) r2 h) fun r s' hq=>?_)
 cases r with
 | error e=>exact hx pins σ H s e s' I hq
 | ok fl =>
  cases fl with
  | ret u=>exact I.after hq
  | next=>exact False.elim hq
  | brk=>exact False.elim hq
  | cont=>exact False.elim hq
theorem pe_call (F:FnOk X.prog X.w X.K X.mg X.base CX k f fd ps sp) (hr:Room k X.A) (hg:Gl X x) (hm:X.mg x=some (.ref f)) (hk:PySem.W.keepIn X.K (.ref f)=true) (hb:Binds X.K fd ps ds) (hd:Vals dvs ds) (hx:Passes CX X E)
  (ha:PA X (e::es) t) (hdb:(x==("__debug__" : Str))=false:=by decide) (he:starEach (e::es) X.env=(false,eval e X.env)::starEach es X.env:=by rfl) (hpl:(backTo pos (starEach es X.env)).any (·.1)=false:=by rfl) :
  PE X (.Call (.Name x p) (e::es) [] pos) (tCall sp dvs E t):=by
 intro pins s σ H Q I h
 refine wpAny_Call_Name_kw (ld_glob I hg hm ?_ hdb)
 refine PySem.W.callWith_K (h₀:=X.base) I.ok.mod.kin hk (thn (ha pos pins s σ H _ I h) fun us s1 ⟨vs,H1,I1,r,q⟩=>⟨I1.kIn,?_⟩) he hpl
 exact run_fn F hr hb hd hx I1 r q
end
noncomputable def PK (X:Cx) (kws:List Keyword) (t:TA):Prop :=
 ∀ (pos:Pos) (pins:List (Addr×Obj)) (s:Shared) (σ:St) (H:Hp) (Q:List V→Hp→Prop),Inv X pins σ H s→t σ H Q→wpAny (model X.prog X.w) X.A (evalAll ((backToKw pos (keywordEach kws X.env)).map (·.2))) (AP X pins σ Q) X.xe s
section
variable {X:Cx}{CX:CXT}{k:Nat}{f C:Addr}{fd:FuncData}{ps ks:List Str}{sp:Sp}{E:XK}{x m:Str}{p pos apos kpos:Pos}{e o:Expr}{es:List Expr}{kws:List Keyword}{te ta:TE}{t tk:TA}{nm:Option Str}
theorem pk_nil:PK X [] tNil:=fun _ _ _ _ H Q I h=>wpAny_evalAll_nil ⟨[],H,I,.nil,h⟩
theorem pk_cons (ha:PE X e te) (hr:PK X kws t):PK X (⟨nm,e,kpos⟩::kws) (tCons te t):=by
 intro pos pins s σ H Q I h
 show wpAny _ _ (evalAll ((do let v ←eval e X.env;standAt pos;pure v)::(backToKw pos (keywordEach kws X.env)).map (·.2))) _ _ s
 refine wpAny_evalAll_cons (wpAny_bind (thn (ha pins s σ H _ I h) fun u s1 ⟨x,H1,I1,r1,q1⟩=>wpAny_bind (wpAny_standAt (wpAny_pure ?_))))
 exact thn (hr pos pins s1 σ H1 _ I1 q1) fun us s2 ⟨xs,H2,I2,r2,q2⟩=>⟨x::xs,H2,I2,.cons r1 r2,q2⟩
variable {g:List Value→List Value→List Value}{gV:List V→List V→List V}
end
structure FnScope (N P:List Str) (sc:Scope):Prop where
 kind:sc.kind=.function
 co : sc.isCoroutine=false
 gen:sc.isGenerator=false
 nd : N.Nodup
 pre:N.take P.length=P
 par:∀ x∈P,sc.names.lookup x=some .local∨sc.names.lookup x=some .cell
 nofree:∀ y∈sc.names,y.2≠.free
theorem bindL_out {kindOf:Str→Option NameKind}{x:Str}:∀ {binds:List (Str×Value)}{m:Str→Option Value},(∀ v,(x,v) ∉ binds)→bindL kindOf binds m x=m x
 | [],_,_=>rfl
 | (n,v)::r,m,h=>by
  unfold bindL
  rw [bindL_out fun w hw=>h w (List.mem_cons_of_mem _ hw)]
  split
  ·have:x≠n:=by rintro rfl;exact h v List.mem_cons_self
   simp [this]
  ·rfl
theorem bindC_out {kindOf:Str→Option NameKind}{x:Str}:∀ {binds:List (Str×Value)}{m:Str→Option Value},(∀ v,(x,v) ∉ binds)→bindC kindOf binds m x=m x
 | [],_,_=>rfl
 | (n,v)::r,m,h=>by
  unfold bindC
  rw [bindC_out fun w hw=>h w (List.mem_cons_of_mem _ hw)]
  split
  ·rfl
  ·have:x≠n:=by rintro rfl;exact h v List.mem_cons_self
   simp [this]
theorem bindL_get {kindOf:Str→Option NameKind}{x:Str}{v:Value}:∀ {P:List Str}{vs:List Value}{i:Nat}{m:Str→Option Value},P.Nodup→P[i]? = some x→vs[i]? = some v→kindOf x=some .local →
  bindL kindOf (P.zip vs) m x=some v
 | [],_,_,_,_,h,_,_=>by simp at h
 | _::_,[],_,_,_,_,h,_=>by simp at h
 | p::P,w::vs,0,m,nd,h1,h2,hk=>by
  simp at h1 h2;subst h1;subst h2
  show bindL kindOf ((p,w)::P.zip vs) m p=_
  unfold bindL
  rw [bindL_out fun v hv=>(List.nodup_cons.mp nd).1 (List.of_mem_zip hv).1,if_pos hk]
  simp
 | p::P,w::vs,i+1,m,nd,h1,h2,hk=>by
  show bindL kindOf ((p,w)::P.zip vs) m x=_
  unfold bindL
  exact bindL_get (i:=i) (List.nodup_cons.mp nd).2 (by simpa using h1) (by simpa using h2) hk
theorem bindC_get {kindOf:Str→Option NameKind}{x:Str}{v:Value}:∀ {P:List Str}{vs:List Value}{i:Nat}{m:Str→Option Value},P.Nodup→P[i]? = some x→vs[i]? = some v→kindOf x≠some .local →
  bindC kindOf (P.zip vs) m x=some v
 | [],_,_,_,_,h,_,_=>by simp at h
 | _::_,[],_,_,_,_,h,_=>by simp at h
 | p::P,w::vs,0,m,nd,h1,h2,hk=>by
  simp at h1 h2;subst h1;subst h2
  show bindC kindOf ((p,w)::P.zip vs) m p=_
  unfold bindC
  rw [bindC_out fun v hv=>(List.nodup_cons.mp nd).1 (List.of_mem_zip hv).1,if_neg hk]
  simp
 | p::P,w::vs,i+1,m,nd,h1,h2,hk=>by
  show bindC kindOf ((p,w)::P.zip vs) m x=_
  unfold bindC
  exact bindC_get (i:=i) (List.nodup_cons.mp nd).2 (by simpa using h1) (by simpa using h2) hk
noncomputable def start (N:List Str) (vs:List V):St:=vs.map some++List.replicate (N.length - vs.length) none
noncomputable def cxOf (CX:CXT) (P:Program) (w:World) (K:PySem.W.Frag) (mg:Str→Option Value) (base:Heap) (N:List Str) (qual:Str) (scope:Scope) (f:Addr) (cd:Value) (A:Around) (outer:List Env) (s:Shared) (H:Hp) (E:XK):Cx where
 prog:=P
 w := w
 K := K
 mg := mg
 base:=base
 A := A.deeper (envOfC qual scope s.heap.objs.size f cd)
 N := N
 s₀ := s
 H₀ := H
 env:=envOfC qual scope s.heap.objs.size f cd
 outer:=outer
 stack:=envOfC qual scope s.heap.objs.size f cd::outer
 ex := []
 calm:=true
 fn := fun _=>true
 pn := []
 xe := fun e s'=>wpAny (model P w) (A.deeper (envOfC qual scope s.heap.objs.size f cd)) (leaving (envOfC qual scope s.heap.objs.size f cd) e) (fun _ s''=>CX outer H s E e s'') (fun e' s''=>CX outer H s E e' s'') s'
theorem cell_has {sc:Scope}{n:Nat}{x:Str} (h:sc.names.lookup x=some .cell):∃ c,(cellsFrom n sc.names []).lookup x=some c:=by
 have q:=PySem.W.cellsFrom_some sc.names n [] (.inl h)
 exact Option.isSome_iff_exists.mp q
theorem inv_start {CX:CXT}{P:Program}{w:World}{K:PySem.W.Frag}{mg:Str→Option Value}{base:Heap}{N ps:List Str}{qual:Str}{scope:Scope}{f:Addr}{cd:Value}{A:Around}{outer:List Env}{s s1:Shared}{H:Hp}{E:XK}{us:List Value}{vs:List V}
  (S : FnScope N ps scope) (hd:A.handled=none) (e0:Env0 P w K mg base A outer s H) (hl:vs.length=ps.length) (r:Vals vs us)
  (x : InCallC s s.heap.objs.size (bindL (envOfC qual scope s.heap.objs.size f cd).kindOf (ps.zip us) fun _=>none) (cellsFrom (s.heap.objs.size+1) scope.names []) (bindC (envOfC qual scope s.heap.objs.size f cd).kindOf (ps.zip us) fun _=>none) s1) :
  Inv (cxOf CX P w K mg base N qual scope f cd A outer s H E) [] (start N vs) H s1:=by
 have hpl:ps.length≤N.length:=by have:=congrArg List.length S.pre;rw[List.length_take] at this;omega
 obtain ⟨h1,tk,rfl,hk⟩:=x.done
 have noA:∀ b:Addr,b ∉ (cxOf CX P w K mg base N qual scope f cd A outer s H E).ex:=fun b z=>absurd (show b∈([]:List Addr) from z) (by simp)
 refine ⟨⟨e0.mod,S.kind,rfl,rfl,Nat.le_refl _,fun y z c h1 h2=>?_,fun y hy=>?_,fun y c _ h=>?_,fun _=>hd,Around.frames_deeper e0.frames,.inr ⟨rfl,rfl⟩,fun b z=>absurd z (noA b),e0.bs,e0.bsz,fun b _ _=>noA b,fun b z=>absurd z (noA b),e0.funs,e0.frf,e0.tab⟩,
  rfl,e0.bare,Un.kept hk,⟨_,x.toInCall.ns,fun i y v h1 h2 h3=>?_⟩,fun y c h=>⟨_,x.cell y c h⟩,e0.hok.fresh (Nat.le_refl _),fun y c h=>?_,fun p hp=>absurd (show p∈([]:List (Addr×Obj)) from hp) (by simp),e0.hok.kept hk,?_⟩
 ·exact name_of_addr x.apart (PySem.mem_of_lookup h1) (PySem.mem_of_lookup h2)
 ·have hy:scope.names.lookup y=some .cell∨scope.names.lookup y=some .free:=hy
  rcases hy with hy|hy
  ·exact cell_has hy
  ·exact absurd rfl (S.nofree _ (PySem.mem_of_lookup hy))
 ·exact Nat.le_of_lt (x.above y c (PySem.mem_of_lookup h))
 ·have hi:i<vs.length:=by
   unfold start at h2
   by_cases hi:i<vs.length
   ·exact hi
   ·rw [List.getElem?_append_right (by simpa using hi)] at h2
    rw [List.getElem?_replicate] at h2
    split at h2 <;> cases h2
  have ha:vs[i]? = some v:=by
   unfold start at h2
   rw [List.getElem?_append_left (by simpa using hi),List.getElem?_map] at h2
   cases e:vs[i]? with
   | none=>rw[e] at h2;cases h2
   | some a=>rw[e] at h2;cases h2;rfl
  obtain ⟨u,hu,rv⟩:=r.get ha
  have hp:ps[i]? = some y:=by
   rw [←S.pre,List.getElem?_take_of_lt (by omega)];exact h1
  have ndP:ps.Nodup:=by rw[←S.pre];exact S.nd.sublist (List.take_sublist _ _)
  refine ⟨u,rv,?_⟩
  rcases S.par y (List.mem_of_getElem? hp) with k|k
  ·exact .inl ⟨k,bindL_get ndP hp hu k⟩
  ·obtain ⟨c,e⟩:=cell_has (n:=s.heap.objs.size+1) k
   refine .inr ⟨.inl k,c,e,?_⟩
   have q:=x.cell y c e
   rw [bindC_get ndP hp hu (by show scope.names.lookup y≠_;rw[k];decide)] at q
   exact q
 ·exact e0.hok.fresh (Nat.le_of_lt (x.above y c (PySem.mem_of_lookup h)))
 ·unfold start
  show _=N.length
  rw [List.length_append,List.length_map,List.length_replicate]
  omega
theorem fn_of {CX:CXT}{P:Program}{w:World}{K:PySem.W.Frag}{mg:Str→Option Value}{base:Heap}{k:Nat}{f:Addr}{name qual:Str}{params:Arguments}{body:List Stmt}{scope:Scope}{dV kV doc pm cdv ct oc:Value}{an od:Option Addr}
  {osl:Array (Option Value)}{N ps:List Str}{sp:Sp} (lk:K.lookup f=some ⟨oc,od,.func (PySem.W.fnOf name qual params body scope dV kV doc pm an cdv ct),osl⟩) (hcd:PySem.W.codeIn K cdv qual=true) (S:FnScope N ps scope)
  (len:∀ vs H Q E,sp vs H Q E→vs.length=ps.length)
  (hbody:∀ (A:Around) (outer:List Env) (s:Shared) (H:Hp) (vs:List V) (Q:VK) (E:XK),Room k (A.deeper (envOfC qual scope s.heap.objs.size f cdv))→sp vs H Q E →
   ∃ t,PSs (cxOf CX P w K mg base N qual scope f cdv A outer s H E) body t∧t { nx:=fun _ H'=>Q .non H',rt:=Q } (start N vs) H) :
  FnOk P w K mg base CX (k+1) f (PySem.W.fnOf name qual params body scope dV kV doc pm an cdv ct) ps sp:=by
 refine ⟨len,fun A outer s H args us vs Q E hr e0 hb r hsp=>?_⟩
 have hl:=len _ _ _ _ hsp
 have KX:K.In s.heap:=e0.mod.kin.keeps fun b o e=>(e0.bs b o e).1
 have lim:s.heap.NoLimit:=e0.mod.nolimit.keeps fun b o e=>(e0.bs b o e).1
 have hkind:∀ y∈ps.zip us,scope.names.lookup y.1=some .local∨(scope.names.lookup y.1=some .cell∧((cellsFrom (s.heap.objs.size+1) scope.names []).lookup y.1).isSome=true):=fun ⟨n,v⟩ hy=>by
  rcases S.par n (List.of_mem_zip hy).1 with q|q
  ·exact .inl q
  ·exact .inr ⟨q,PySem.W.cellsFrom_some _ _ _ (.inl q)⟩
 refine codeAny_call_function hr.depth (KX _ _ lk) rfl S.co S.gen rfl (PySem.W.codeRec_of KX hcd) (hb _ _ _ _ ?_)
 refine wpAny_newFunctionEnv_cells S.kind hkind fun env he s1 x=>?_
 subst he
 refine ⟨lim.keeps x.toInCall.keep,codeAny_func ?_⟩
 obtain ⟨t,ht,hq⟩:=hbody A outer s H vs Q E (hr.deeper _) hsp
 have I:Inv (cxOf CX P w K mg base N qual scope f cdv A outer s H E) [] (start N vs) H s1:=inv_start S hr.hd e0 hl r x
 refine wpAny_mono (ht [] s1 (start N vs) H _ I hq) (fun fl s' hs=>?_) fun e s' hs=>hs
 have fin:∀ {σ':St}{H':Hp}{v:V}{u:Value},Inv (cxOf CX P w K mg base N qual scope f cdv A outer s H E) [] σ' H' s'→RelV v u→Q v H'→CE outer P w H s Q u s' :=
  fun {σ' H' v u} J rv q=>⟨v,H',J.os,J.bare,J.base,J.hok,rv,q⟩
 cases fl with
 | ret u =>
  obtain ⟨v,σ',H',J,rv,q⟩:=hs
  exact fin J rv q
 | next =>
  obtain ⟨σ',H',J,q⟩:=hs
  exact fin (v:=V.non) (u:=Value.none) J rfl q
 | brk =>
  obtain ⟨_,_,_,q⟩:=hs
  exact False.elim q
 | cont =>
  obtain ⟨_,_,_,q⟩:=hs
  exact False.elim q
end L2
namespace L2
open PySem PySem.Spec PyProof.Rows
section
variable {X:Cx}{x:Str}{p pos:Pos}{e:Expr}{es:List Expr}{t:TA}{id T:String}{r:List V→Hp→VK→Prop}
noncomputable def tCB (r:List V→Hp→VK→Prop) (t:TA):TE:=fun σ H Q=>t σ H fun vs H1=>r vs H1 Q
theorem pe_callB (hc:CallR X (.builtin id) r) (hg:Gl X x) (hm:X.mg x=none) (hv:bootBuiltins x=some (.builtin id)) (ha:PA X (e::es) t) (hn:x ≠ "__name__" := by decide) (hdb:(x==("__debug__" : Str))=false:=by decide)
  (he:starEach (e::es) X.env=(false,eval e X.env)::starEach es X.env:=by rfl) (hpl:(backTo pos (starEach es X.env)).any (·.1)=false:=by rfl):PE X (.Call (.Name x p) (e::es) [] pos) (tCB r t):=by
 intro pins s σ H Q I h
 refine wpAny_Call_Name_kw (ld_blt I hg hm hv ?_ hn hdb)
 exact PyProof.Rows.callWith_builtin1 (thn (ha pos pins s σ H _ I h) fun us s1 ⟨vs,H1,I1,r1,q1⟩=>hc pins s1 σ H1 vs us Q I1 r1 q1) he hpl
theorem pe_callTy (hc:CallR X (.type T) r) (hg:Gl X x) (hm:X.mg x=none) (hv:bootBuiltins x=some (.type T)) (ha:PA X (e::es) t) (hn:x ≠ "__name__" := by decide) (hdb:(x==("__debug__" : Str))=false:=by decide)
  (he:starEach (e::es) X.env=(false,eval e X.env)::starEach es X.env:=by rfl) (hpl:(backTo pos (starEach es X.env)).any (·.1)=false:=by rfl):PE X (.Call (.Name x p) (e::es) [] pos) (tCB r t):=by
 intro pins s σ H Q I h
 refine wpAny_Call_Name_kw (ld_blt I hg hm hv ?_ hn hdb)
 exact PyProof.Rows.callWith_type1 (thn (ha pos pins s σ H _ I h) fun us s1 ⟨vs,H1,I1,r1,q1⟩=>hc pins s1 σ H1 vs us Q I1 r1 q1) he hpl
end
end L2
namespace HT
open PySem PyProof.Rows
noncomputable def lexLt:List Int→List Int→Bool
 | [],[]=>false
 | [],_::_=>true
 | _::_,[]=>false
 | x::xs,y::ys=>if x=y then lexLt xs ys else decide (x<y)
theorem lexLt_cons (x y:Int) (xs ys:List Int):lexLt (x::xs) (y::ys)=if x=y then lexLt xs ys else decide (x<y):=rfl
theorem lexLt_nil_nil:lexLt [] []=false:=rfl
theorem lexLt_nil_cons (y:Int) (ys:List Int):lexLt [] (y::ys)=true:=rfl
theorem lexLt_cons_nil (x:Int) (xs:List Int):lexLt (x::xs) []=false:=rfl
section
open PySem.SeqAt
open PySem.AutoSeq1 (wpAny_loadPart')
open PySem.MeetsSeq PySem.MeetsSeq2 PySem.MeetsSeq3
end
section
variable {prog:Program}{w:World}{A:Around}{E:Value→Shared→Prop}{s:Shared}
theorem cat_tup {t b:Addr}{vs ws:List Value}{Q:Value→Shared→Prop} (ht:IsTup s.heap t vs.toArray) (hb:IsTup s.heap b ws.toArray) (hv:vs≠[])
  (h1:ws=[]→Q (.ref t) s) (h2:ws≠[]→Q (.ref s.heap.objs.size) { s with heap:=s.heap.push { cls:=.type "tuple",data:=.seq (vs++ws).toArray } })
  (hsz:vs.length+ws.length≤sizeLine):wpAny (model prog w) A (binaryOp .Add (.ref t) (.ref b)) Q E s:=by
 obtain ⟨⟨cls,dd,data,sl⟩,ho,hc,n,hd⟩:=id ht
 obtain ⟨⟨cls2,dd2,data2,sl2⟩,ho2,hc2,n2,hd2⟩:=id hb
 simp only at hc hd hc2 hd2
 subst hc hd hc2 hd2
 have e:vs.toArray++ws.toArray=(vs++ws).toArray:=by simp
 by_cases hw:ws=[]
 ·exact concat_meets ⟨_,ho,rfl⟩ ⟨_,ho2,rfl⟩ noFill_tuple_add seq_tuple_add PySem.F.slot_tuple_add PySem.F.entry_tuple_add (PySem.F.args_tuple_add_2 _ _)
   (tuple_addW1 t b vs.toArray ws.toArray n n2 dd dd2 sl sl2 (by simpa using hv) (by simp[hw])) ⟨ho,ho2,h1 hw⟩
 ·refine concat_meets ⟨_,ho,rfl⟩ ⟨_,ho2,rfl⟩ noFill_tuple_add seq_tuple_add PySem.F.slot_tuple_add PySem.F.entry_tuple_add (PySem.F.args_tuple_add_2 _ _)
   (tuple_addW2 t b vs.toArray ws.toArray n n2 dd dd2 sl sl2 (by simpa using hv) (by simpa using hw) (by rw[List.size_toArray,List.size_toArray];exact hsz)) ⟨ho,ho2,?_⟩
  rw [e]
  exact h2 hw
noncomputable def sIx (n d:Nat):Option Int→Nat
 | none=>d
 | some v=>if v<0 then (v+(n:Int)).toNat else min v.toNat n
theorem sIx_none (n d:Nat):sIx n d none=d:=rfl
theorem sIx_nat (n d k:Nat):sIx n d (some (k:Int))=min k n:=by
 show (if (k:Int)<0 then ((k:Int)+(n:Int)).toNat else min (k:Int).toNat n)=min k n
 rw [if_neg (by omega),Int.toNat_natCast]
end
end HT
namespace L2
open PySem PySem.Spec PyProof.Rows
noncomputable abbrev TO:=St→Hp→(Option Int→Hp→Prop)→Prop
noncomputable def PO (X:Cx) (e:Option Expr) (t:TO):Prop :=
 ∀ (pins:List (Addr×Obj)) (s:Shared) (σ:St) (H:Hp) (Q:Option Int→Hp→Prop),Inv X pins σ H s→t σ H Q →
  wpAny (model X.prog X.w) X.A (evalPart e X.env) (fun u s'=>∃ o H',Inv X pins σ H' s'∧IsPart u o∧Q o H') X.xe s
noncomputable def tNoPart:TO:=fun _ H Q=>Q none H
noncomputable def tPart (t:TE):TO:=fun σ H Q=>t σ H fun x H1=>∃ i,x=.int i∧Q (some i) H1
section
variable {X:Cx}{e:Expr}{te:TE}{lo hi:Option Expr}{tl th:TO}{pos p2:Pos}
theorem po_none:PO X none tNoPart:=by
 intro pins s σ H Q I h
 rw [evalPart_none]
 exact wpAny_pure ⟨none,H,I,.none,h⟩
theorem po_some (h:PE X e te):PO X (some e) (tPart te):=by
 intro pins s σ H Q I hw
 rw [evalPart_some]
 refine thn (h pins s σ H _ I hw) fun u s1 ⟨x,H1,I1,r1,q1⟩=>?_
 obtain ⟨i,rfl,q⟩:=q1
 obtain ⟨t,rfl⟩:=r1
 exact ⟨some i,H1,I1,.int i t,q⟩
noncomputable def SlR (X:Cx) (r:V→Option Int→Option Int→Hp→VK→Prop):Prop :=
 ∀ (pins:List (Addr×Obj)) (s:Shared) (σ:St) (H:Hp) (x:V) (v vl vu:Value) (lo hi:Option Int) (sl:Addr) (Q:VK),Inv X pins σ H s→RelV x v→s.heap.IsSliceOf sl vl vu .none→IsPart vl lo→IsPart vu hi→r x lo hi H Q →
  ∃ T id,typeLookup (.type T) "__getitem__" = pure (some (.builtin id))∧s.TypeIs v T∧wpAny (model X.prog X.w) X.A (getItem v (.ref sl)) (EP X pins σ Q) X.xe s
theorem SlR.or {r r':V→Option Int→Option Int→Hp→VK→Prop} (h:SlR X r) (h':SlR X r'):SlR X (fun x lo hi H Q=>r x lo hi H Q∨r' x lo hi H Q):=by
 intro pins s σ H x v vl vu lo hi sl Q I rx hs pl pu q
 rcases q with q|q
 ·exact h pins s σ H x v vl vu lo hi sl Q I rx hs pl pu q
 ·exact h' pins s σ H x v vl vu lo hi sl Q I rx hs pl pu q
noncomputable def tSl (r:V→Option Int→Option Int→Hp→VK→Prop) (te:TE) (tl th:TO):TE:=fun σ H Q=>te σ H fun x H1=>tl σ H1 fun l H2=>th σ H2 fun u H3=>r x l u H3 Q
theorem pe_slice {r:V→Option Int→Option Int→Hp→VK→Prop} (hr:SlR X r) (he:PE X e te) (hl:PO X lo tl) (hu:PO X hi th):PE X (.Subscript e (.Slice lo hi none p2) pos) (tSl r te tl th):=by
 intro pins s σ H Q I h
 refine Subscript_ (thn (he pins s σ H _ I h) fun v s1 ⟨x,H1,I1,r1,q1⟩=>?_)
 refine wpAny_Slice (thn (hl pins s1 σ H1 _ I1 q1) fun vl s2 ⟨l,H2,I2,pl,q2⟩=>thn (hu pins s2 σ H2 _ I2 q2) fun vu s3 ⟨u,H3,I3,pu,q3⟩=>?_)
 rw [evalPart_none]
 refine wpAny_pure ?_
 have I4:Inv X pins σ H3 { s3 with heap:=s3.heap.push { cls:=.type "slice",data:=.fields #[vl,vu,.none] } }:=I3.kept (t':=s3.toks) fun b ob q=>Heap.get?_push_of_some _ q
 obtain ⟨T,id,hT,ht,hg⟩:=hr pins { s3 with heap:=s3.heap.push { cls:=.type "slice",data:=.fields #[vl,vu,.none] } } σ H3 x v vl vu l u s3.heap.objs.size Q I4 r1 (Heap.IsSliceOf.new ..) pl pu q3
 show wpAny (model X.prog X.w) X.A (subscriptTail e (.Slice lo hi none p2) v (.ref s3.heap.objs.size)) (EP X pins σ Q) X.xe { s3 with heap:=s3.heap.push { cls:=.type "slice",data:=.fields #[vl,vu,.none] } }
 exact tail_any (ops:=[.ref s3.heap.objs.size,v]) ht hT hg (by with_unfolding_all rfl)
noncomputable def cutV (xs:List V) (lo hi:Option Int):List V:=(xs.drop (HT.sIx xs.length 0 lo)).take (HT.sIx xs.length xs.length hi - HT.sIx xs.length 0 lo)
theorem cutV_length (xs:List V) (lo hi:Option Int):(cutV xs lo hi).length≤xs.length:=by
 unfold cutV
 rw [List.length_take,List.length_drop]
 omega
noncomputable def rCatT (K:PySem.W.Frag):R2:=fun x y H Q=>∃ a b xs ys,x=.ref a∧y=.ref b∧SqT K H a xs∧SqT K H b ys∧xs≠[]∧xs.length+ys.length≤sizeLine ∧
 (ys=[]→Q (.ref a) H)∧(ys≠[]→∀ p,H p=none→Q (.ref p) (upd H p (.tup (xs++ys))))
theorem Vals.nil_iff {xs:List V}{us:List Value} (r:Vals xs us):us=[]↔xs=[]:=by
 cases r with
 | nil=>simp
 | cons _ _=>simp
theorem op_catT:OpR X (binaryOp .Add) (rCatT X.K):=by
 intro pins s σ H x y v u Q I rx ry h
 obtain ⟨a,b,xs,ys,rfl,rfl,ha,hb,hx,hz,q1,q2⟩:=h
 cases rx
 cases ry
 obtain ⟨its,r1,p1,_⟩:=I.tuple ha
 obtain ⟨its2,r2,p2,_⟩:=I.tuple hb
 refine HT.cat_tup p1 p2 (fun z=>hx (r1.nil_iff.mp z)) (fun z=>⟨.ref a,H,I,rfl,q1 (r2.nil_iff.mp z)⟩) (fun z=>?_) (by rw[←r1.length,←r2.length];exact hz)
 refine ⟨.ref s.heap.objs.size,_,I.laid (t':=s.toks) (o:=.tup (xs++ys)) (fun b ob q=>Heap.get?_push_of_some _ q) (Nat.le_refl _) ?_,rfl,q2 (fun w=>z (r2.nil_iff.mpr w)) _ (I.hok.fresh (Nat.le_refl _))⟩
 exact ⟨by rw[List.length_append];exact hz,_,r1.append r2,IsTup.new _ _⟩
end
end L2
namespace L2
open PySem PySem.Spec PyProof.Rows
noncomputable def ixN (n:Nat) (i:Int):Option Nat:=if 0≤i then (if i<n then some i.toNat else none) else if -(n:Int)≤i then some (i+n).toNat else none
noncomputable def atI {α:Type} (xs:List α) (i:Int):Option α:=(ixN xs.length i).bind fun j=>xs[j]?
theorem ixN_seq {n:Nat}{i:Int}{j:Nat} (h:ixN n i=some j):seqIndex? i n=some j∧j<n∧-(n:Int)≤i∧i<n:=by
 unfold ixN at h
 by_cases h0:0≤i
 ·rw [if_pos h0] at h
  by_cases h1:i<n
  ·rw [if_pos h1] at h
   have e:i.toNat=j:=Option.some.inj h
   exact ⟨by rw[seqIndex_of h0 h1,e],by omega,by omega,h1⟩
  ·rw [if_neg h1] at h;cases h
 ·rw [if_neg h0] at h
  by_cases h1:-(n:Int)≤i
  ·rw [if_pos h1] at h
   have e:(i+n).toNat=j:=Option.some.inj h
   exact ⟨by rw[seqIndex_neg (by omega) h1,e],by omega,h1,by omega⟩
  ·rw [if_neg h1] at h;cases h
theorem atI_get {α:Type}{xs:List α}{i:Int}{v:α} (h:atI xs i=some v):∃ j,seqIndex? i xs.length=some j∧xs[j]? = some v∧j<xs.length∧-(xs.length:Int)≤i∧i<xs.length:=by
 unfold atI at h
 cases e:ixN xs.length i with
 | none=>rw[e] at h;cases h
 | some j =>
  rw [e] at h
  obtain ⟨h1,h2,h3,h4⟩:=ixN_seq e
  exact ⟨j,h1,h,h2,h3,h4⟩
theorem atI_nat {α:Type}{xs:List α}{j:Nat}{v:α} (h:xs[j]? = some v):atI xs (j:Int)=some v:=by
 have hj:j<xs.length:=(List.getElem?_eq_some_iff.mp h).1
 have e:ixN xs.length (j:Int)=some j:=by
  unfold ixN
  rw [if_pos (by omega),if_pos (by omega)];simp
 unfold atI;rw[e];exact h
noncomputable def PlainIx (b:Expr):Prop:=∀ o i,subscripted b false o i=operate [o,i] (getItem o i)
noncomputable def IxR (X:Cx) (r:R2):Prop :=
 ∀ (value slice:Expr) (pins:List (Addr×Obj)) (s:Shared) (σ:St) (H:Hp) (x y:V) (v u:Value) (Q:VK),Inv X pins σ H s→RelV x v→RelV y u→r x y H Q →
  subscripted slice false v u=operate [v,u] (getItem v u)→wpAny (model X.prog X.w) X.A (subscriptTail value slice v u) (EP X pins σ Q) X.xe s
noncomputable def MtR (X:Cx) (id:String) (r:V→List V→Hp→VK→Prop):Prop :=
 ∀ (pins:List (Addr×Obj)) (s:Shared) (σ:St) (H:Hp) (x:V) (xs:List V) (v:Value) (us:List Value) (Q:VK),Inv X pins σ H s→RelV x v→Vals xs us→r x xs H Q →
  wpAny (model X.prog X.w) X.A (call (.builtin id) (v::us)) (EP X pins σ Q) X.xe s
section
variable {X:Cx}{a b:Expr}{ta tb:TE}{pos:Pos}
theorem IxR.or {r r':R2} (h:IxR X r) (h':IxR X r'):IxR X (fun x y H Q=>r x y H Q∨r' x y H Q):=by
 intro value slice pins s σ H x y v u Q I rx ry q hs
 rcases q with q|q
 ·exact h value slice pins s σ H x y v u Q I rx ry q hs
 ·exact h' value slice pins s σ H x y v u Q I rx ry q hs
theorem MtR.or {id:String}{r r':V→List V→Hp→VK→Prop} (h:MtR X id r) (h':MtR X id r'):MtR X id (fun x xs H Q=>r x xs H Q∨r' x xs H Q):=by
 intro pins s σ H x xs v us Q I rx rs q
 rcases q with q|q
 ·exact h pins s σ H x xs v us Q I rx rs q
 ·exact h' pins s σ H x xs v us Q I rx rs q
theorem pe_ix {r:R2} (hr:IxR X r) (ha:PE X a ta) (hb:PE X b tb) (hs:PlainIx b):PE X (.Subscript a b pos) (tOp r ta tb):=by
 intro pins s σ H Q I h
 exact Subscript_ (binT ha hb I h fun v u s2 x y H2 I2 rx ry q=>hr a b pins s2 σ H2 x y v u Q I2 rx ry q (hs _ _))
noncomputable def rIxL (K:PySem.W.Frag):R2:=fun x y H Q=>∃ p xs i v,x=.ref p∧y=.int i∧SqL K H p xs∧atI xs i=some v∧Q v H
noncomputable def rIxT (K:PySem.W.Frag):R2:=fun x y H Q=>∃ p xs i v,x=.ref p∧y=.int i∧SqT K H p xs∧atI xs i=some v∧Q v H
theorem ix_list:IxR X (rIxL X.K):=by
 intro value slice pins s σ H x y v u Q I rx ry h hs
 obtain ⟨p,xs,i,z,rfl,rfl,hq,he,q⟩:=h
 cases rx
 obtain ⟨t,rfl⟩:=ry
 obtain ⟨its,r,pl,hz⟩:=I.list hq
 obtain ⟨j,h1,h2,h3,h4,h5⟩:=atI_get he
 obtain ⟨w,ew,rw'⟩:=r.get h2
 have hl:=r.length
 have hn:=line63
 have fin:EP X pins σ Q w s:=⟨z,H,I,rw',q⟩
 by_cases h0:0≤i
 ·have hj:i.toNat=j:=by
   rw [seqIndex_of h0 h5] at h1
   exact Option.some.inj h1
  exact item_listR pl.isList h0 (by omega) (by rw[hj];simpa using ew) fin hs
 ·have hj:(i+(its.toArray.size:Int)).toNat=j:=by
   rw [seqIndex_neg (by omega) h4] at h1
   rw [List.size_toArray,←hl]
   exact Option.some.inj h1
  exact subscriptTail_builtinR (x:=w) pl.isList.typeIs slot_list_getitem.lookup
   (wpAny_getItem_list_neg (Q:=fun r s'=>r=w∧EP X pins σ Q r s') pl.isList (by omega) (by rw[List.size_toArray] <;> omega) (by omega) (by rw[hj];simpa using ew) ⟨rfl,fin⟩) hs
theorem ix_tup:IxR X (rIxT X.K):=by
 intro value slice pins s σ H x y v u Q I rx ry h hs
 obtain ⟨p,xs,i,z,rfl,rfl,hq,he,q⟩:=h
 cases rx
 obtain ⟨t,rfl⟩:=ry
 obtain ⟨its,r,pl,hz⟩:=I.tuple hq
 obtain ⟨j,h1,h2,h3,h4,h5⟩:=atI_get he
 obtain ⟨w,ew,rw'⟩:=r.get h2
 have hl:=r.length
 have hn:=line63
 have fin:EP X pins σ Q w s:=⟨z,H,I,rw',q⟩
 exact subscriptTail_builtinR (x:=w) pl.typeIs slot_tuple_getitem.lookup
  (getItem_tuple (j:=j) (Q:=fun r s'=>r=w∧EP X pins σ Q r s') pl (by omega) (by omega) (by rw[List.size_toArray,←hl];exact h1) (by simpa using ew) ⟨rfl,fin⟩) hs
theorem mapSeq_set (its:List Value) (n j:Nat) (u:Value):Obj.mapSeq (·.setIfInBounds j u) { cls:=.type "list",data:=.seq its.toArray n }={ cls:=.type "list",data:=.seq (its.set j u).toArray n }:=by
 simp [Obj.mapSeq]
theorem Inv.lst {pins:List (Addr×Obj)}{σ:St}{H:Hp}{s:Shared}{p:Addr}{xs:List V} (I:Inv X pins σ H s) (h:H p=some (.lst xs)) :
  ∃ (its:List Value) (n:Nat),Vals xs its∧s.heap.get? p=some { cls:=.type "list",data:=.seq its.toArray n }∧xs.length≤sizeLine:=by
 obtain ⟨z,its,n,r,e⟩:=I.hok p _ h
 exact ⟨its,n,r,e,z⟩
theorem Inv.lstUpd {pins:List (Addr×Obj)}{σ:St}{H:Hp}{s:Shared}{p:Addr}{xs ys:List V}{its its':List Value}{n n':Nat}{f:Obj→Obj} (I:Inv X pins σ H s) (h:H p=some (.lst xs))
  (ho:s.heap.get? p=some { cls:=.type "list",data:=.seq its.toArray n }) (hf:f { cls:=.type "list",data:=.seq its.toArray n }={ cls:=.type "list",data:=.seq its'.toArray n' }) (r:Vals ys its') (hz:ys.length≤sizeLine) (t:Nat) :
  Inv X pins σ (upd H p (.lst ys)) { s with heap:=s.heap.update p f,toks:=t }:=by
 have e:(s.heap.update p f).get? p=some { cls:=.type "list",data:=.seq its'.toArray n' }:=by
  rw [Heap.get?_update_self f ho (by rw[hf] <;> rfl),hf]
 refine I.write (x:=p) (e:=p) (by rw[h];trivial) (.inl rfl) (fun b u hb q=>(Heap.get?_update_other _ _ (Ne.symm hb)).trans q) ⟨_,e⟩ ?_
 exact ⟨hz,its',n',r,e⟩
noncomputable def rSetL:V→V→V→Hp→(Hp→Prop)→Prop:=fun o i v H Q=>∃ p xs k j,o=.ref p∧i=.int k∧H p=some (.lst xs)∧ixN xs.length k=some j∧Q (upd H p (.lst (xs.set j v)))
theorem set_list:PSet X rSetL:=by
 intro pins s σ H o i v ov iv u Q I ro ri rv h
 obtain ⟨p,xs,k,j,rfl,rfl,hp,hj,q⟩:=h
 cases ro
 obtain ⟨t,rfl⟩:=ri
 obtain ⟨its,n,r,ho,hz⟩:=I.lst hp
 obtain ⟨h1,h2,h3,h4⟩:=ixN_seq hj
 have hl:=r.length
 have hn:=line63
 have I':Inv X pins σ (upd H p (.lst (xs.set j v))) { s with heap:=s.heap.update p (Obj.mapSeq (·.setIfInBounds j u)) } :=
  I.lstUpd hp ho (mapSeq_set its n j u) (r.set rv j) (by rw[List.length_set];exact hz) s.toks
 by_cases h0:0≤k
 ·have hk:k.toNat=j:=by
   rw [seqIndex_of h0 h4] at h1
   exact Option.some.inj h1
  exact PySem.W.ki_setAt ho h0 (by omega) (by rw[List.size_toArray,←hl];exact h4) (by rw[hk];exact⟨_,I',q⟩)
 ·have hk:(k+(its.toArray.size:Int)).toNat=j:=by
   rw [seqIndex_neg (by omega) h3] at h1
   rw [List.size_toArray,←hl]
   exact Option.some.inj h1
  exact PySem.W.ki_setBack ho (by omega) (by rw[List.size_toArray,←hl];exact h3) (by omega) (by rw[hk];exact⟨_,I',q⟩)
theorem slice_bounds (lo hi:Option Int) (n:Nat):(sliceBounds lo hi none n).1=((HT.sIx n 0 lo:Nat):Int)∧(sliceBounds lo hi none n).2.1=((HT.sIx n n hi:Nat):Int)∧(sliceBounds lo hi none n).2.2=1:=by
 refine ⟨?_,?_,rfl⟩
 ·cases lo with
  | none=>simp[sliceBounds,HT.sIx]
  | some i =>
   simp only [sliceBounds,HT.sIx,Option.getD_none,show (1:Int)>0 by decide,if_true]
   by_cases h:i<0
   ·simp only [h,if_true] <;> omega
   ·simp only [h,if_false] <;> omega
 ·cases hi with
  | none=>simp[sliceBounds,HT.sIx]
  | some i =>
   simp only [sliceBounds,HT.sIx,Option.getD_none,show (1:Int)>0 by decide,if_true]
   by_cases h:i<0
   ·simp only [h,if_true] <;> omega
   ·simp only [h,if_false] <;> omega
theorem slicePick_cut (its:List Value) (lo hi:Option Int):slicePick its.toArray lo hi none=((its.drop (HT.sIx its.length 0 lo)).take (HT.sIx its.length its.length hi - HT.sIx its.length 0 lo)).toArray:=by
 obtain ⟨h1,h2,h3⟩:=slice_bounds lo hi its.toArray.size
 unfold slicePick
 rw [h1,h2,h3]
 simp only [sliceRange_one,pick_run,List.size_toArray] <;> rfl
noncomputable def rSlL (K:PySem.W.Frag):V→Option Int→Option Int→Hp→VK→Prop:=fun x lo hi H Q=>∃ a xs,x=.ref a∧SqL K H a xs∧∀ p,H p=none→Q (.ref p) (upd H p (.lst (cutV xs lo hi)))
theorem sl_list:SlR X (rSlL X.K):=by
 intro pins s σ H x v vl vu lo hi sl Q I rx hs pl pu h
 obtain ⟨a,xs,rfl,hx,q⟩:=h
 cases rx
 obtain ⟨its,r,ht,hz⟩:=I.list hx
 have hlen:=r.length
 refine ⟨"list",_,slot_list_getitem.lookup,ht.isList.typeIs,?_⟩
 refine wpAny_getItem_list_slice ht.isList hs pl pu .none (by simp) ?_ (by rw[List.size_toArray] <;> omega)
 rw [slicePick_cut,←hlen]
 refine ⟨.ref s.heap.objs.size,_,I.laid (t':=s.toks) (o:=.lst (cutV xs lo hi)) (fun b ob q=>Heap.get?_push_of_some _ q) (Nat.le_refl _) ?_,rfl,q _ (I.hok.fresh (Nat.le_refl _))⟩
 exact ⟨Nat.le_trans (cutV_length xs lo hi) hz,_,0,(r.drop (HT.sIx xs.length 0 lo)).take (HT.sIx xs.length xs.length hi - HT.sIx xs.length 0 lo),Heap.get?_push_size _ rfl⟩
noncomputable def flatV:V→Bool
 | .non=>true
 | .bl _=>true
 | .int _=>true
 | .str _=>true
 | _=>false
noncomputable def eqV:V→V→Bool
 | .non,.non=>true
 | .bl a,.bl b=>a==b
 | .bl a,.int b=>(if a then 1 else 0)==b
 | .int a,.bl b=>a==(if b then 1 else 0)
 | .int a,.int b=>a==b
 | .str a,.str b=>a==b
 | _,_=>false
theorem eqAt_V {A:Around}{s:Shared}{y x:V}{u v:Value} (ry:RelV y u) (rx:RelV x v) (fy:flatV y=true) (fx:flatV x=true):SeqAt.EqAt A s u v (eqV y x):=by
 cases y with
 | non =>
  cases ry
  cases x with
  | non=>cases rx;exact SeqAt.EqAt.same _
  | bl b=>cases rx;exact SeqAt.EqAt.none_bool b
  | int b=>obtain⟨t,rfl⟩:=rx;exact SeqAt.EqAt.none_int b t
  | str b=>obtain⟨t,rfl⟩:=rx;exact SeqAt.EqAt.none_str b t
  | _=>exact absurd (show false=true from fx) Bool.false_ne_true
 | bl a =>
  cases ry
  cases x with
  | non=>cases rx;exact SeqAt.EqAt.bool_none a
  | bl b=>cases rx;exact SeqAt.EqAt.bool_bool a b
  | int b=>obtain⟨t,rfl⟩:=rx;exact SeqAt.EqAt.bool_int a b t
  | str b=>obtain⟨t,rfl⟩:=rx;exact SeqAt.EqAt.bool_str a b t
  | _=>exact absurd (show false=true from fx) Bool.false_ne_true
 | int a =>
  obtain ⟨t',rfl⟩:=ry
  cases x with
  | non=>cases rx;exact SeqAt.EqAt.int_none a t'
  | bl b=>cases rx;exact SeqAt.EqAt.int_bool a t' b
  | int b=>obtain⟨t,rfl⟩:=rx;exact SeqAt.EqAt.int_int a t' b t
  | str b=>obtain⟨t,rfl⟩:=rx;exact SeqAt.EqAt.int_str a t' b t
  | _=>exact absurd (show false=true from fx) Bool.false_ne_true
 | str a =>
  obtain ⟨t',rfl⟩:=ry
  cases x with
  | non=>cases rx;exact SeqAt.EqAt.str_none a t'
  | bl b=>cases rx;exact SeqAt.EqAt.str_bool a t' b
  | int b=>obtain⟨t,rfl⟩:=rx;exact SeqAt.EqAt.str_int a t' b t
  | str b=>obtain⟨t,rfl⟩:=rx;exact SeqAt.EqAt.str_str a t' b t
  | _=>exact absurd (show false=true from fx) Bool.false_ne_true
 | _=>exact absurd (show false=true from fy) Bool.false_ne_true
noncomputable def eqU (x:V) (u:Value):Bool:=match u with
 | .none=>eqV .non x
 | .bool b=>eqV (.bl b) x
 | .int i _=>eqV (.int i) x
 | .str z _=>eqV (.str z) x
 | _=>false
theorem eqU_of {x y:V}{u:Value} (r:RelV y u) (f:flatV y=true):eqU x u=eqV y x:=by
 cases y with
 | non=>cases r;rfl
 | bl b=>cases r;rfl
 | int i=>obtain⟨t,rfl⟩:=r;rfl
 | str z=>obtain⟨t,rfl⟩:=r;rfl
 | _=>exact absurd (show false=true from f) Bool.false_ne_true
theorem any_eqU {x:V}:∀ {xs:List V}{us:List Value},Vals xs us→xs.all flatV=true→us.any (eqU x)=xs.any fun y=>eqV y x
 | _,_,.nil,_=>rfl
 | y::xs,u::us,.cons r t,f=>by
  rw [List.all_cons,Bool.and_eq_true] at f
  rw [List.any_cons,List.any_cons,eqU_of r f.1,any_eqU t f.2]
theorem mem_eqAt {A:Around}{s:Shared}{x:V}{v:Value} (rx:RelV x v) (fx:flatV x=true):∀ {xs:List V}{us:List Value},Vals xs us→xs.all flatV=true→∀ u∈us,SeqAt.EqAt A s u v (eqU x u)
 | _,_,.nil,_=>fun u hu=>by cases hu
 | y::xs,u::us,.cons r t,f=>fun u' hu=>by
  rw [List.all_cons,Bool.and_eq_true] at f
  rcases List.mem_cons.mp hu with rfl|hu
  ·rw [eqU_of r f.1];exact eqAt_V r rx f.1 fx
  ·exact mem_eqAt rx fx t f.2 u' hu
noncomputable def inV (x:V) (xs:List V):Bool:=xs.any fun y=>eqV y x
noncomputable def rIn (K:PySem.W.Frag) (neg:Bool):R2:=fun x y H Q=>∃ p xs,y=.ref p∧(SqL K H p xs∨SqT K H p xs)∧flatV x=true∧xs.all flatV=true∧Q (.bl (if neg then !inV x xs else inV x xs)) H
theorem op_in_seq:OpR X (compareOp .In) (rIn X.K false):=by
 intro pins s σ H x y v u Q I rx ry h
 obtain ⟨p,xs,rfl,hq,fx,fs,q⟩:=h
 cases ry
 rcases hq with hq|hq
 ·obtain ⟨its,r,pl,hz⟩:=I.list hq
  refine SeqAt.in_listAt (eqU x) pl.isList (fun w hw=>mem_eqAt rx fx r fs w (by simpa using hw)) ⟨.bl _,H,I,rfl,?_⟩
  rw [show its.toArray.any (eqU x)=its.any (eqU x) by simp,any_eqU r fs]
  exact q
 ·obtain ⟨its,r,pl,hz⟩:=I.tuple hq
  refine SeqAt.in_tupleAt (eqU x) pl (fun w hw=>mem_eqAt rx fx r fs w (by simpa using hw)) ⟨.bl _,H,I,rfl,?_⟩
  rw [show its.toArray.any (eqU x)=its.any (eqU x) by simp,any_eqU r fs]
  exact q
theorem op_notIn_seq:OpR X (compareOp .NotIn) (rIn X.K true):=by
 intro pins s σ H x y v u Q I rx ry h
 obtain ⟨p,xs,rfl,hq,fx,fs,q⟩:=h
 cases ry
 rcases hq with hq|hq
 ·obtain ⟨its,r,pl,hz⟩:=I.list hq
  refine SeqAt.notIn_listAt (eqU x) pl.isList (fun w hw=>mem_eqAt rx fx r fs w (by simpa using hw)) ⟨.bl _,H,I,rfl,?_⟩
  rw [show its.toArray.any (eqU x)=its.any (eqU x) by simp,any_eqU r fs]
  exact q
 ·obtain ⟨its,r,pl,hz⟩:=I.tuple hq
  refine SeqAt.notIn_tupleAt (eqU x) pl (fun w hw=>mem_eqAt rx fx r fs w (by simpa using hw)) ⟨.bl _,H,I,rfl,?_⟩
  rw [show its.toArray.any (eqU x)=its.any (eqU x) by simp,any_eqU r fs]
  exact q
theorem call_len_seq:CallR X (.builtin "len") (fun xs H Q=>∃ p ys,xs=[.ref p]∧(SqL X.K H p ys∨SqT X.K H p ys)∧Q (.int ys.length) H):=by
 intro pins s σ H xs us Q I r h
 obtain ⟨p,ys,rfl,hq,q⟩:=h
 obtain ⟨u,rfl,rx⟩:=vals1 r
 cases rx
 have hn:=line63
 rcases hq with hq|hq
 ·obtain ⟨its,r',pl,hz⟩:=I.list hq
  have hlen:=r'.length
  exact Calls.call_len_list pl.isList (by simp only [List.size_toArray] <;> omega) ⟨.int ys.length,H,I.tok _,⟨s.toks+1,by rw[List.size_toArray,hlen]⟩,q⟩
 ·obtain ⟨its,r',pl,hz⟩:=I.tuple hq
  have hlen:=r'.length
  exact len_tuple pl (by simp only [List.size_toArray] <;> omega) ⟨.int ys.length,H,I.tok _,⟨s.toks+1,by rw[List.size_toArray,hlen]⟩,q⟩
theorem CallR.or {f:Value}{r r':List V→Hp→VK→Prop} (h:CallR X f r) (h':CallR X f r'):CallR X f (fun xs H Q=>r xs H Q∨r' xs H Q):=by
 intro pins s σ H xs us Q I rs q
 rcases q with q|q
 ·exact h pins s σ H xs us Q I rs q
 ·exact h' pins s σ H xs us Q I rs q
theorem call_tuple_of:CallR X (.type "tuple") (fun xs H Q=>∃ p ys,xs=[.ref p]∧((SqL X.K H p ys∧∀ l,H l=none→Q (.ref l) (upd H l (.tup ys)))∨(SqT X.K H p ys∧Q (.ref p) H))):=by
 intro pins s σ H xs us Q I r h
 obtain ⟨p,ys,rfl,h⟩:=h
 obtain ⟨u,rfl,rx⟩:=vals1 r
 cases rx
 rcases h with ⟨hq,q⟩|⟨hq,q⟩
 ·obtain ⟨its,r',pl,hz⟩:=I.list hq
  have hlen:=r'.length
  refine call_tuple_list pl.isList (fun h' kp=>?_) (by simp only [List.size_toArray] <;> omega)
  have I1:Inv X pins σ H { s with heap:=h' }:=I.kept (t':=s.toks) kp
  have I2:Inv X pins σ (upd H h'.objs.size (.tup ys)) { s with heap:=h'.push { cls:=.type "tuple",data:=.seq its.toArray } } :=
   I1.laid (t':=s.toks) (fun b o e=>Heap.get?_push_of_some _ e) (Nat.le_refl _) (show ObjOk X.prog X.w _ _ _ (.tup ys) from ⟨hz,its,r',IsTup.new _ _⟩)
  exact ⟨.ref h'.objs.size,_,I2,rfl,q _ (I1.hok.fresh (Nat.le_refl _))⟩
 ·obtain ⟨its,r',pl,hz⟩:=I.tuple hq
  exact call_tuple_same pl ⟨.ref p,H,I,rfl,q⟩
noncomputable def tyV (K:PySem.W.Frag) (T:String) (x:V) (H:Hp):Prop:=match x with
 | .str _=>T = "str"
 | .int _=>T = "int"
 | .ref p=>(T = "list" ∧ ∃ xs,SqL K H p xs)∨(T = "tuple" ∧ ∃ o,K.lookup p=some o∧o.cls=.type "tuple" ∧ o.dict=none) ∨
   (T = "dict" ∧ ((∃ kvs,H p=some (.dK kvs))∨∃ kvs,H p=some (.dT kvs)))∨(T = "set" ∧ ∃ S n,H p=some (.set S n))
 | _=>False
theorem tyV_is {pins:List (Addr×Obj)}{σ:St}{H:Hp}{s:Shared}{T:String}{x:V}{v:Value} (I:Inv X pins σ H s) (r:RelV x v) (ty:tyV X.K T x H) :
  s.TypeIs v T∧∀ a,v=.ref a→∃ ob,s.heap.get? a=some ob∧ob.dict=none:=by
 cases x with
 | str z =>
  obtain ⟨t,rfl⟩:=r
  cases (show T = "str" from ty)
  exact ⟨typeIs_str s z t,fun _ e=>nomatch e⟩
 | int i =>
  obtain ⟨t,rfl⟩:=r
  cases (show T = "int" from ty)
  exact ⟨typeIs_int s i t,fun _ e=>nomatch e⟩
 | ref p =>
  cases r
  rcases ty with ⟨rfl,xs,hq⟩|⟨rfl,o,hk,hc,hd⟩|⟨rfl,hk⟩|⟨rfl,S,n,hk⟩
  ·obtain ⟨its,_,pl,_⟩:=I.list hq
   refine ⟨pl.isList.typeIs,fun a e=>?_⟩
   cases e
   obtain ⟨o,n,e,c,hd,_⟩:=pl
   exact ⟨o,e,hd⟩
  ·refine ⟨⟨o,I.kIn p o hk,hc⟩,fun a e=>?_⟩
   cases e
   exact ⟨o,I.kIn _ o hk,hd⟩
  ·have z:∃ o,s.heap.get? p=some o∧o.ExactDict:=by
    rcases hk with ⟨kvs,hk⟩|⟨kvs,hk⟩
    ·obtain ⟨_,_,_,_,o,_,_,e,ex,_⟩:=I.hok p _ hk
     exact ⟨o,e,ex⟩
    ·obtain ⟨_,_,_,_,o,_,_,e,ex,_⟩:=I.hok p _ hk
     exact ⟨o,e,ex⟩
   obtain ⟨o,e,ex⟩:=z
   refine ⟨⟨o,e,ex.1⟩,fun a e2=>?_⟩
   cases e2
   exact ⟨o,e,ex.2.1⟩
  ·obtain ⟨o,_,_,_,e,ex,_⟩:=I.hok p _ hk
   refine ⟨⟨o,e,ex.1⟩,fun a e2=>?_⟩
   cases e2
   exact ⟨o,e,ex.2.1⟩
 | _=>exact False.elim ty
noncomputable def tBM0 (K:PySem.W.Frag) (T:String) (r:V→List V→Hp→VK→Prop) (to:TE):TE:=fun σ H Q=>to σ H fun x H1=>tyV K T x H1∧r x [] H1 Q
noncomputable def tBM (K:PySem.W.Frag) (T:String) (r:V→List V→Hp→VK→Prop) (to:TE) (t:TA):TE:=fun σ H Q=>to σ H fun x H1=>tyV K T x H1∧t σ H1 fun xs H2=>r x xs H2 Q
variable {o e:Expr}{es:List Expr}{to:TE}{t:TA}{name:Str}{apos cpos:Pos}{T id:String}{r:V→List V→Hp→VK→Prop}
theorem pe_bm0 (pa:PlainAttrs T) (slot:Slot T name id) (hty:typeOf (.builtin id)=pure (.type "method_descriptor")) (hm:MtR X id r) (ho:PE X o to)
  (hbase:attributeBase o name X.env (eval o X.env)=eval o X.env:=by rfl) (hline:(apos.endLine==cpos.line)=true:=by rfl):PE X (.Call (.Attribute o name apos) [] [] cpos) (tBM0 X.K T r to):=by
 intro pins s σ H Q I h
 refine wpAny_Call_method0_late hbase hline (thn (ho pins s σ H _ I h) fun v s1 ⟨x,H1,I1,r1,ty,q1⟩=>?_)
 obtain ⟨h1,h2⟩:=tyV_is I1 r1 ty
 exact ⟨T,id,pa,slot,hty,h1,h2,Calls.callWith_builtin rfl (PySem.evalArgs_none (hm pins s1 σ H1 x [] v [] Q I1 r1 .nil q1))⟩
theorem pe_bm (pa:PlainAttrs T) (slot:Slot T name id) (hty:typeOf (.builtin id)=pure (.type "method_descriptor")) (hm:MtR X id r) (ho:PE X o to) (ha:PA X (e::es) t)
  (hbase:attributeBase o name X.env (eval o X.env)=eval o X.env:=by rfl)
  (hfew:((backTo cpos (starEach (e::es) X.env)).all (fun x=>!x.1)&&(backToKw cpos (keywordEach [] X.env)).all (fun x=>x.1.isSome)
   && decide ((e::es).length+([]:List Keyword).length+(if ([]:List Keyword).isEmpty then 0 else 1)<30))=true:=by rfl)
  (hline:(apos.endLine==cpos.line)=true:=by rfl) (hs:starEach (e::es) X.env=(false,eval e X.env)::starEach es X.env:=by rfl) (hplain:(backTo cpos (starEach es X.env)).any (·.1)=false:=by rfl) :
  PE X (.Call (.Attribute o name apos) (e::es) [] cpos) (tBM X.K T r to t):=by
 intro pins s σ H Q I h
 refine wpAny_Call_method_late hbase hfew hline rfl (thn (ho pins s σ H _ I h) fun v s1 ⟨x,H1,I1,r1,ty,q1⟩=>?_)
 obtain ⟨h1,h2⟩:=tyV_is I1 r1 ty
 refine ⟨T,id,pa,slot,hty,h1,h2,?_⟩
 have hA:=ha cpos pins s1 σ H1 _ I1 q1
 rw [hs] at hA ⊢
 refine Calls.callWith_builtin (by show (false || (backTo cpos (starEach es X.env)).any (·.1))=false;rw[hplain] <;> rfl) (Calls.evalArgs_plain ?_)
 exact thn hA fun us s2 ⟨vs,H2,I2,r2,q2⟩=>hm pins s2 σ H2 x vs v us Q I2 r1 r2 q2
end
end L2
namespace L2
open PySem PySem.Spec PyProof.Rows
noncomputable def MtM (X:Cx) (id:String) (r:V→List V→Hp→VK→Prop):Prop :=
 ∀ (pins:List (Addr×Obj)) (s:Shared) (σ:St) (H:Hp) (x:V) (xs:List V) (v:Value) (us:List Value) (Q:VK),Inv X pins σ H s→RelV x v→Vals xs us→r x xs H Q →
  wpAny (model X.prog X.w) X.A (call (.builtin id) (v::us)) (EP X pins σ Q) X.xe s
theorem Vals.one:∀ {x:V}{us:List Value},Vals [x] us→∃ u,us=[u]∧RelV x u
 | _,_,.cons r .nil=>⟨_,rfl,r⟩
theorem Vals.zero:∀ {us:List Value},Vals [] us→us=[]
 | _,.nil=>rfl
theorem Vals.dropLast {xs:List V}{us:List Value} (h:Vals xs us):Vals xs.dropLast us.dropLast:=by
 induction h with
 | nil=>exact .nil
 | cons r t ih =>
  cases t with
  | nil=>exact .nil
  | cons q t'=>exact .cons r ih
theorem Vals.eraseIdx:∀ {xs:List V}{us:List Value} (i:Nat),Vals xs us→Vals (xs.eraseIdx i) (us.eraseIdx i)
 | _,_,_,.nil=>.nil
 | _,_,0,.cons _ t=>t
 | _,_,i+1,.cons r t=>.cons r (Vals.eraseIdx i t)
theorem Vals.reverse {xs:List V}{us:List Value} (h:Vals xs us):Vals xs.reverse us.reverse:=by
 induction h with
 | nil=>exact .nil
 | cons r t ih=>rw[List.reverse_cons,List.reverse_cons];exact Vals.append ih (.cons r .nil)
theorem erase_last {α:Type} (l:List α):l.eraseIdx (l.length - 1)=l.dropLast:=by
 induction l with
 | nil=>rfl
 | cons a r ih =>
  cases r with
  | nil=>rfl
  | cons b r =>
   have e:(a::b::r).length - 1=((b::r).length - 1)+1:=by
    have h1:(a::b::r).length=r.length+2:=rfl
    have h2:(b::r).length=r.length+1:=rfl
    omega
   rw [e,List.eraseIdx_cons_succ,ih]
   all_goals rfl
theorem len_erase {α:Type}:∀ (l:List α) (i:Nat),(l.eraseIdx i).length≤l.length
 | [],_=>Nat.le_refl _
 | _::_,0=>Nat.le_succ _
 | _::r,i+1=>Nat.succ_le_succ (len_erase r i)
section
variable {X:Cx}{pins:List (Addr×Obj)}{σ:St}{H:Hp}{s:Shared}{l b:Addr}{xs ys zs:List V}
theorem Inv.lset {its its':List Value}{n:Nat}{f:Array Value→Array Value}{t':Nat} (I:Inv X pins σ H s) (hH:H l=some (.lst xs))
  (e : s.heap.get? l=some { cls:=.type "list",data:=.seq its.toArray n }) (hf:f its.toArray=its'.toArray) (hv:Vals ys its') (hz:ys.length≤sizeLine) :
  Inv X pins σ (upd H l (.lst ys)) { s with heap:=s.heap.update l (Obj.mapSeq f),toks:=t' }:=by
 have q:=PySem.IsL.update e f
 rw [hf] at q
 refine I.write (x:=l) (e:=l) (by rw[hH];exact trivial) (.inl rfl) (fun b' u hb hu=>(Heap.get?_update_other s.heap (Obj.mapSeq f) (Ne.symm hb)).trans hu) ⟨_,q⟩ ?_
 exact ⟨hz,its',_,hv,q⟩
theorem Inv.lnew {its:List Value}{t':Nat} (I:Inv X pins σ H s) (hv:Vals ys its) (hz:ys.length≤sizeLine) :
  Inv X pins σ (upd H s.heap.objs.size (.lst ys)) { s with heap:=s.heap.push { cls:=.type "list",data:=.seq its.toArray },toks:=t' } :=
 I.laid (fun _ _ q=>Heap.get?_push_of_some _ q) (Nat.le_refl _) ⟨hz,its,0,hv,Heap.get?_push_size _ rfl⟩
theorem Inv.fresh (I:Inv X pins σ H s):H s.heap.objs.size=none:=I.hok.fresh (Nat.le_refl _)
theorem Inv.lstM (I:Inv X pins σ H s) (hH:H l=some (.lst xs)):xs.length≤sizeLine∧∃ (its:List Value) (n:Nat),Vals xs its∧xs.length=its.length∧s.heap.get? l=some { cls:=.type "list",data:=.seq its.toArray n }:=by
 obtain ⟨z,its,n,r,e⟩:=I.hok l _ hH
 exact ⟨z,its,n,r,r.length,e⟩
end
section
variable {X:Cx}
noncomputable def rAppend:V→List V→Hp→VK→Prop:=fun x vs H Q=>∃ l xs y,x=.ref l∧vs=[y]∧H l=some (.lst xs)∧xs.length<sizeLine∧Q .non (upd H l (.lst (xs++[y])))
theorem mt_append:MtM X "list.append" rAppend:=by
 intro pins s σ H x vs v us Q I rx rv h
 obtain ⟨l,xs,y,rfl,rfl,hH,hz,q⟩:=h
 cases rx
 obtain ⟨u,rfl,ru⟩:=rv.one
 obtain ⟨z,its,n,r,hl,e⟩:=I.lstM hH
 refine call_meets F.slot_list_append ⟨_,e,rfl⟩ F.entry_list_append (F.args_list_append_2 _ _) (PySem.list_append l its.toArray n u (by rw[List.size_toArray];omega)) ⟨e,?_⟩
 refine ⟨.non,_,I.lset (its':=its++[u]) hH e (by simp) (r.append (.cons ru .nil)) ?_,rfl,q⟩
 rw [List.length_append,List.length_singleton]
 omega
noncomputable def rPop:V→List V→Hp→VK→Prop:=fun x vs H Q=>∃ l xs y,x=.ref l∧vs=[]∧H l=some (.lst xs)∧xs[xs.length - 1]? = some y∧Q y (upd H l (.lst xs.dropLast))
theorem mt_pop:MtM X "list.pop" rPop:=by
 intro pins s σ H x vs v us Q I rx rv h
 obtain ⟨l,xs,y,rfl,rfl,hH,hy,q⟩:=h
 cases rx
 have hus:=rv.zero
 subst hus
 obtain ⟨z,its,n,r,hl,e⟩:=I.lstM hH
 obtain ⟨u,hu,ru⟩:=r.get hy
 have hy':its.toArray[its.toArray.size - 1]? = some u:=by
  show its.toArray[its.length - 1]? = some u
  rw [←Array.getElem?_toList,←hl]
  exact hu
 refine call_meets F.slot_list_pop ⟨_,e,rfl⟩ F.entry_list_pop (F.args_list_pop_1 _) (MeetsSeq.list_pop_last l its.toArray n u hy' (by rw[List.size_toArray];omega)) ⟨e,?_⟩
 refine ⟨y,_,I.lset (its':=its.dropLast) hH e ?_ r.dropLast ?_,ru,q⟩
 ·show its.toArray.eraseIdxIfInBounds (its.toArray.size - 1)=its.dropLast.toArray
  rw [List.size_toArray,List.eraseIdxIfInBounds_toArray,erase_last]
 ·rw [List.length_dropLast]
  omega
noncomputable def rPopAt:V→List V→Hp→VK→Prop:=fun x vs H Q=>∃ l xs i k y,x=.ref l∧vs=[.int i]∧H l=some (.lst xs)∧-(2 ^ 63)≤i∧i<2 ^ 63∧seqIndex? i xs.length=some k∧xs[k]? = some y∧Q y (upd H l (.lst (xs.eraseIdx k)))
theorem mt_popAt:MtM X "list.pop" rPopAt:=by
 intro pins s σ H x vs v us Q I rx rv h
 obtain ⟨l,xs,i,k,y,rfl,rfl,hH,h1,h2,hk,hy,q⟩:=h
 cases rx
 obtain ⟨u,rfl,ru⟩:=rv.one
 obtain ⟨t,rfl⟩:=ru
 obtain ⟨z,its,n,r,hl,e⟩:=I.lstM hH
 obtain ⟨w,hw,rw'⟩:=r.get hy
 refine call_meets F.slot_list_pop ⟨_,e,rfl⟩ F.entry_list_pop (F.args_list_pop_2 _ _)
  (MeetsSeq.list_pop_at l its.toArray n i t k w (fitsIndex_both h1 h2) (by rw[List.size_toArray,←hl];exact hk) (by rw[←Array.getElem?_toList];exact hw) (by rw[List.size_toArray];omega)) ⟨e,?_⟩
 refine ⟨y,_,I.lset (its':=its.eraseIdx k) hH e ?_ (r.eraseIdx k) ?_,rw',q⟩
 ·show its.toArray.eraseIdxIfInBounds k=(its.eraseIdx k).toArray
  rw [List.eraseIdxIfInBounds_toArray]
 ·have:=len_erase xs k
  omega
end
section
variable {prog:Program}{w:World}{A:Around}{E:Value→Shared→Prop}{s:Shared}
end
section
variable {X:Cx}
end
end L2
namespace Att
open PySem PySem.W PySem.Calls PyProof.Rows
theorem ints_of_wellAll {P:Params}{h:Heap}:∀ (ns:List Int) (vs:List Value),WellAll P h vs (ns.map WData.int)→IntsAre vs ns:=by
 intro ns
 induction ns with
 | nil =>
  intro vs w
  rw [List.map_nil] at w
  cases w
  exact .nil
 | cons n ns ih =>
  intro vs w
  rw [List.map_cons] at w
  cases w with
  | cons a b =>
   cases a
   exact .cons _ _ (ih _ b)
theorem script_of {l:OpenLaw}{n:Nat} (hn:l.most=some n) {P:Params}{h:Heap}{args:List WData}{vals:List Value}
  (hpre:l.row.toRowW.claim.pre args=true) (hwl:WellAll P h vals args) :
  ∃ a vs ns,vals=[Value.ref a]∧args=[WData.list (ns.map WData.int)]∧h.get? a=some { cls:=.type "list",data:=.seq vs.toArray }∧IntsAre vs ns∧ns.length≤n:=by
 have hsh:WShape.hasAll [] args [.list .int]=true:=(pre_splitW hpre).1
 have hc:l.pre.holds [] { args:=args }=true:=(pre_splitW hpre).2
 obtain ⟨d,r,rfl,h1,h2⟩:=hasAllW_cons hsh
 obtain rfl:=hasAllW_nil h2
 obtain ⟨xs,rfl,h3⟩:=hasW_list h1
 obtain ⟨ns,rfl⟩:=items_int h3
 have hlen:ns.length≤n:=by
  unfold OpenLaw.pre at hc
  have h4:(WTm.not (.lt (.lit (.int (n:Int))) (.len (.arg 0)))).holds [] { args:=[.list (ns.map .int)] }=true:=by
   have h4:=(holds_andW hc).1
   rw [hn] at h4
   exact h4
  have h5:=condW_of h4 (w_not (w_lt w_lit (w_len_list (w_arg rfl))))
  rw [List.length_map] at h5
  refine Nat.le_of_not_lt fun q=>?_
  have q':(n:Int)<((ns.length:Nat):Int):=by omega
  first
   | (rw[decide_eq_true q'] at h5;exact absurd h5 (by decide))
   | (simp at h5;omega)
 cases hwl with
 | cons w1 w2 =>
  cases w2
  cases w1 with
  | list ho hall=>exact⟨_,_,ns,rfl,rfl,ho,ints_of_wellAll ns _ hall,hlen⟩
theorem post_true (l:OpenLaw) (args:List WData):l.row.toRowW.claim.post args (.bool true) args=true :=
 postW_of (r:=l.row.toRowW) (X:=(true==true))
  (show WShape.has [] (.bool true) .bool=true by first|rfl|decide|simp[WShape.has,WShape.arms,WShape.armsAll])
  (show (WTm.eq .res (.lit (.bool true))).value [] { args:=args,res:=some (.bool true),after:=args }=some (.bool (true==true)) from w_eq_bool (w_res rfl) w_lit) rfl
theorem attach_call {l:OpenLaw}{n:Nat}{q:Program}{loose:List Str}{XP:(Str→Option Value)→Heap→Prop}{YP:World→Heap→Prop}{d:DefRec}
  (hn:l.most=some n) (hdf:d.params.defaults=[])
  (call:∀ (w:World) (s₀ s₁:Shared) (mg mb:Str→Option Value) (fa:Addr) (o:Obj) (pm cd doc:Value) (a:Addr) (vs:List Value) (ns:List Int),
   Ground q loose [] XP w s₀ mg mb s₁.heap→YP w s₁.heap →
   s₁.heap.get? fa=some o→o.data=.func (docDef d.name d.params d.body d.scope pm cd doc)→s₁.heap.CodeRec cd d.name→mg d.name=some (.ref fa) →
   s₁.heap.get? a=some { cls:=.type "list",data:=.seq vs.toArray }→IntsAre vs ns→ns.length≤n→s₁.gens=#[] →
   codeAny (model l.prog w) callerA (.call (.ref fa) ⟨[.ref a],[]⟩) (fun r s'=>r=.ok (.ret (.bool true))∧OldK s₁.heap s'.heap∧s'.os=s₁.os∧AllBare s'.gens) s₁) :
  WalkO q loose XP YP l.row.toRowW d [] (fun f vs=>PySem.call f vs):=by
 intro w s₀ s₁ mg mb G Y fa o pm cd doc dV kV ho hd hcd hD hmg hg args vals as hpre hlay hrd hwl hlo
 obtain rfl:dV=.none:=Dflts.none hD hdf
 obtain rfl:kV=.none:=Dflts.noKw hD
 obtain ⟨a,vs,ns,rfl,rfl,hobj,hints,hlen⟩:=script_of hn hpre hwl
 refine enter_call (codeAny_mono (call w s₀ s₁ mg mb fa o pm cd doc a vs ns G Y ho (fd_plain hd) hcd hmg hobj hints hlen hg) fun r s' hq=>?_)
 obtain ⟨rfl,h2,h3,h4⟩:=hq
 exact ⟨.inl ⟨.bool true,.bool true,[],rfl,fun _=>rfl,.bool true,post_true l _,fun _=>⟨List.Pairwise.nil,fun _ hm=>(nomatch hm)⟩⟩,h2,h3,h4⟩
section
variable {prog:Program}{w:World}{A:Around}{E:Value→Shared→Prop}{s:Shared}{K:Frag}
end
end Att
namespace L2
open PySem PySem.Spec PyProof.Rows
theorem vals_ints:∀ {vs:List Value}{ns:List Int},IntsAre vs ns→Vals (ns.map V.int) vs
 | _,_,.nil=>.nil
 | _,_,.cons n t h=>.cons ⟨t,rfl⟩ (vals_ints h)
noncomputable def Only (H:Hp):Prop:=∀ b,H b=none∨(∃ o xs,H b=some (.frz o (.lst xs)))∨∃ q,H b=some (.tbl q)
theorem law_call {P:Program}{w:World}{K:PySem.W.Frag}{mg mb:Str→Option Value}{CX:CXT}{k:Nat}{fa a:Addr}{fd:FuncData}{x:Str}{sp:Sp}{s₁:Shared}{vs:List Value}{ns:List Int}{tb:List (Addr×Str)}
  (hT:∀ b q,tb.lookup b=some q→s₁.heap.get? b=some { cls:=.none,data:=.fields #[] }∧K.lookup b=none∧∃ c,s₁.heap.TableAt c b #[]) (hLm:∀ T q,LamTab K T q→tb.lookup T=some q)
  (KX:K.In s₁.heap) (hns:s₁.heap.Ns mainGlobals mg) (hb:s₁.heap.Ns builtinsNs mb) (hbb:∀ x:Str,x ≠ "__name__" → mb x=bootBuiltins x) (hlim:s₁.heap.NoLimit) (hbm:∃ bm ob,mg "__builtins__" = some (.ref bm)∧bm≠builtinsNs∧s₁.heap.get? bm=some ob∧ob.cls=.type "module" ∧ ob.dict=some builtinsNs∧ob.data=.plain) (hg:s₁.gens=#[])
  (ha:s₁.heap.get? a=some { cls:=.type "list",data:=.seq vs.toArray }) (hi:IntsAre vs ns) (hl:ns.length≤sizeLine) (hr:Room k callerA)
  (F : ∀ base:Heap,K.In base→base.Ns mainGlobals mg→FnOk P w K mg base CX k fa fd [x] sp) (hbind:∀ (s:Shared) (u:Value),BindsTo s fd ⟨[u],[]⟩ [(x,u)])
  (hsp:∀ H:Hp,Only H→SqL K H a (ns.map V.int)→sp [.ref a] H (fun v _=>v=.bl true) fun _ _ _=>False)
  (hCX:∀ H e s',CX [] H s₁ (fun _ _ _=>False) e s'→False) :
  codeAny (model P w) callerA (.call (.ref fa) ⟨[.ref a],[]⟩) (fun r s'=>r=.ok (.ret (.bool true))∧OldK s₁.heap s'.heap∧s'.os=s₁.os∧AllBare s'.gens) s₁:=by
 have rv:=vals_ints hi
 have lenV:=hi.length
 have core:∀ H:Hp,Only H→SqL K H a (ns.map V.int)→HOk P w H s₁.heap→(∀ b u,H b=some u→(b=a∧K.lookup a=none)∨∃ q,tb.lookup b=some q∧u=.tbl q)→(∀ b q,tb.lookup b=some q→H b=some (.tbl q)) →
   codeAny (model P w) callerA (.call (.ref fa) ⟨[.ref a],[]⟩) (fun r s'=>r=.ok (.ret (.bool true))∧OldK s₁.heap s'.heap∧s'.os=s₁.os∧AllBare s'.gens) s₁:=by
  intro H hO hS hok hA hB
  have base_of:∀ {b:Addr}{o:Obj},s₁.heap.get? b=some o→H b=none→(hidT s₁.heap H).get? b=some o:=fun e n=>hidT_get e n
  have noA:∀ {b:Addr}{o:Obj}{es:Array DictEntry}{ep:Nat},s₁.heap.get? b=some o→o.data=.dict es ep→H b=none:=fun {b o es ep} e d=>by
   cases q:H b with
   | none=>rfl
   | some u =>
    rcases hA b u q with ⟨e',_⟩|⟨q',e',_⟩
    ·subst e'
     rw [ha] at e;cases e
     have d':Data.seq vs.toArray _=Data.dict es ep:=d
     cases d'
    ·rw [(hT b q' e').1] at e;cases e
     have d':Data.fields _=Data.dict es ep:=d
     cases d'
  have nsK:∀ {b:Addr}{m:Str→Option Value},s₁.heap.Ns b m→(hidT s₁.heap H).Ns b m:=fun {b m} ⟨o,es,ep,e,d,r⟩=>⟨o,es,ep,base_of e (noA e d),d,r⟩
  have hKb:K.In (hidT s₁.heap H):=fun b o e=>base_of (KX b o e) (by
   cases q:H b with
   | none=>rfl
   | some u =>
    rcases hA b u q with ⟨e',hk⟩|⟨q',e',_⟩
    ·subst e'
     rw [hk] at e;cases e
    ·rw [(hT b q' e').2.1] at e;cases e)
  have hbmK:∃ bm ob,mg "__builtins__" = some (.ref bm)∧bm≠builtinsNs∧(hidT s₁.heap H).get? bm=some ob∧ob.cls=.type "module" ∧ ob.dict=some builtinsNs∧ob.data=.plain:=by
   obtain ⟨bm,ob,b1,b2,b3,b4,b5,b6⟩:=hbm
   refine ⟨bm,ob,b1,b2,base_of b3 ?_,b4,b5,b6⟩
   cases q:H bm with
   | none=>rfl
   | some u =>
    rcases hA bm u q with ⟨e',_⟩|⟨q',e',_⟩
    ·subst e'
     rw [ha] at b3;cases b3;cases b6
    ·rw [(hT bm q' e').1] at b3;cases b3;cases b6
  have hM:Mod K mg (hidT s₁.heap H):=⟨hKb,nsK hns,⟨mb,nsK hb,hbb⟩,let ⟨mc,h1,h2⟩:=hlim;⟨mc,nsK h1,h2⟩,hbmK⟩
  have e0:Env0 P w K mg (hidT s₁.heap H) callerA [] s₁ H:=⟨rfl,hM,fun b o e=>of_hidT e,Nat.le_of_eq (hidT_size _ _),trivial,fun b hb=>absurd (show b∈([]:List Addr) from hb) (by simp),hok,.of_eq hg,fun T q h=>hB T q (hLm T q h)⟩
  refine codeAny_mono ((F _ hKb (nsK hns)).run callerA [] s₁ H ⟨[.ref a],[]⟩ [.ref a] [.ref a] _ _ hr e0 (hbind s₁ (.ref a)) (.cons rfl .nil) (hsp H hO hS)) fun r s' h=>?_
  cases r with
  | error e=>exact (hCX H e s' h).elim
  | ok fl =>
   cases fl with
   | next=>exact False.elim h
   | brk=>exact False.elim h
   | cont=>exact False.elim h
   | ret u =>
    obtain ⟨v,H',os,bare,un,hok',r',q⟩:=h
    have q':v=.bl true:=q
    subst q'
    obtain rfl:u=Value.bool true:=r'
    refine ⟨rfl,⟨fun b o e=>?_,fun b o e=>un.there b o e (by simp)⟩,os,bare⟩
    cases q:H b with
    | none=>exact .inl (un.keep b o e q (by intro z;exact absurd (show b∈([]:List Addr) from z) (by simp)) (by simp))
    | some u =>
     rcases hO b with z|⟨ob,xs,z⟩|⟨q',z⟩
     ·rw [q] at z;cases z
     ·have z2:=un.frzs b ob _ z
      obtain ⟨e1,_⟩:=hok b _ z
      obtain ⟨e2,_⟩:=hok' b _ z2
      rw [e] at e1;cases e1
      exact .inl e2
     ·obtain ⟨ps,e2,_⟩:=hok' b _ (un.tbls b q' z)
      rcases hA b _ z with ⟨e',_⟩|⟨q2,e',_⟩
      ·obtain ⟨ps0,e0,_⟩:=hok b _ z
       subst e'
       rw [ha] at e0;cases e0
      ·obtain ⟨t1,_,c,t2⟩:=hT b q2 e'
       rw [e] at t1;cases t1
       exact .inr (.inl ⟨t2.isCodeTable,rfl,#[],ps,rfl,by simpa using e2⟩)
 cases hk:K.lookup a with
 | some o =>
  have e:=KX a o hk
  rw [ha] at e
  cases e
  refine core (fun b=>(tb.lookup b).map .tbl) (fun b=>?_) (.inr ⟨_,vs.toArray,_,hk,rfl,rfl,rfl,by rw[List.size_toArray,lenV];exact hl,by simpa using rv⟩) (fun b u z=>?_) (fun b u z=>?_) fun b q z=>by show (tb.lookup b).map HO.tbl=_;rw[z];rfl
  ·cases z:tb.lookup b with
   | none=>exact .inl (by show (tb.lookup b).map HO.tbl=_;rw[z];rfl)
   | some q=>exact .inr (.inr ⟨q,by show (tb.lookup b).map HO.tbl=_;rw[z];rfl⟩)
  ·have z:(tb.lookup b).map HO.tbl=some u:=z
   cases q:tb.lookup b with
   | none=>rw[q] at z;cases z
   | some q' =>
    rw [q] at z;cases z
    exact ⟨#[],(hT b q' q).1,trivial,fun pos cv h=>by cases (show (none:Option Value)=some cv from h)⟩
  ·have z:(tb.lookup b).map HO.tbl=some u:=z
   cases q:tb.lookup b with
   | none=>rw[q] at z;cases z
   | some q'=>rw[q] at z;cases z;exact .inr ⟨q',rfl,rfl⟩
 | none =>
  have hna:tb.lookup a=none:=by
   cases z:tb.lookup a with
   | none=>rfl
   | some q =>
    have e:=(hT a q z).1
    rw [ha] at e
    cases e
  have hne:∀ b,b≠a→(if b=a then some (HO.frz { cls:=.type "list",data:=.seq vs.toArray } (.lst (ns.map V.int))) else (tb.lookup b).map .tbl)=(tb.lookup b).map .tbl:=fun b hb=>if_neg hb
  refine core (fun b=>if b=a then some (.frz { cls:=.type "list",data:=.seq vs.toArray } (.lst (ns.map V.int))) else (tb.lookup b).map .tbl) (fun b=>?_) (.inl (.inr ⟨{ cls:=.type "list",data:=.seq vs.toArray },if_pos rfl⟩)) (fun b u z=>?_) (fun b u z=>?_) fun b q z=>?_
  ·by_cases hb:b=a
   ·exact .inr (.inl ⟨_,_,if_pos hb⟩)
   ·dsimp only
    rw [hne b hb]
    cases z:tb.lookup b with
    | none=>exact .inl rfl
    | some q=>exact .inr (.inr ⟨q,rfl⟩)
  ·by_cases hb:b=a
   ·have z':=(if_pos hb).symm.trans z
    cases z'
    subst hb
    exact ⟨ha,by rw[List.length_map];exact hl,vs,_,rv,ha⟩
   ·have z:(tb.lookup b).map HO.tbl=some u:=(hne b hb).symm.trans z
    cases q:tb.lookup b with
    | none=>rw[q] at z;cases z
    | some q' =>
     rw [q] at z;cases z
     exact ⟨#[],(hT b q' q).1,trivial,fun pos cv h=>by cases (show (none:Option Value)=some cv from h)⟩
  ·by_cases hb:b=a
   ·exact .inl ⟨hb,hk⟩
   ·have z:(tb.lookup b).map HO.tbl=some u:=(hne b hb).symm.trans z
    cases q:tb.lookup b with
    | none=>rw[q] at z;cases z
    | some q'=>rw[q] at z;cases z;exact .inr ⟨q',rfl,rfl⟩
  ·have hb:b≠a:=fun e=>by subst e;rw[hna] at z;cases z
   exact (hne b hb).trans (by rw[z];rfl)
end L2
namespace L2
open PySem PySem.Spec PyProof.Rows
theorem walk_of {l:PySem.W.OpenLaw}{n k:Nat}{q:Program}{loose:List Str}{XP:(Str→Option Value)→Heap→Prop}{YP:World→Heap→Prop}{d:DefRec}{K:Params→PySem.W.Frag}{CX:World→CXT}{sp:World→Sp}{x:Str}
  (hn:l.most=some n) (hn2:n≤sizeLine) (hdf:d.params.defaults=[]) (hr:Room k callerA)
  (hTb:∀ (w:World) (s₀:Shared) (mg mb:Str→Option Value) (h:Heap),PySem.W.Ground q loose [] XP w s₀ mg mb h→(K w.params).In h→∃ tb:List (Addr×Str),(∀ b q,tb.lookup b=some q→h.get? b=some { cls:=.none,data:=.fields #[] }∧(K w.params).lookup b=none∧∃ c,h.TableAt c b #[])∧∀ T q,LamTab (K w.params) T q→tb.lookup T=some q)
  (hY:∀ (w:World) (h:Heap),YP w h→(K w.params).In h)
  (F : ∀ (w:World) (mg:Str→Option Value) (fa:Addr) (h:Heap),(K w.params).In h→h.Ns mainGlobals mg→mg d.name=some (.ref fa) →
   ∃ fd:FuncData,(∀ (s:Shared) (u:Value),BindsTo s fd ⟨[u],[]⟩ [(x,u)]) ∧
    ∀ base:Heap,(K w.params).In base→base.Ns mainGlobals mg→FnOk l.prog w (K w.params) mg base (CX w) k fa fd [x] (sp w))
  (hsp:∀ (w:World) (H:Hp) (a:Addr) (ns:List Int),ns.length≤n→Only H→SqL (K w.params) H a (ns.map V.int)→sp w [.ref a] H (fun v _=>v=.bl true) fun _ _ _=>False)
  (hCX:∀ (w:World) (H:Hp) (s:Shared) (e:Value) (s':Shared),CX w [] H s (fun _ _ _=>False) e s'→False) :
  PySem.W.WalkO q loose XP YP l.row.toRowW d [] (fun f vs=>PySem.call f vs):=by
 refine Att.attach_call hn hdf fun w s₀ s₁ mg mb fa o pm cd doc a vs ns G Y ho hd hcd hmg hobj hints hlen hg=>?_
 have KX:=hY w _ Y
 obtain ⟨fd,hb,hF⟩:=F w mg fa _ KX G.T.g hmg
 obtain ⟨tb,hT,hLm⟩:=hTb w s₀ mg mb _ G KX
 exact law_call hT hLm KX G.T.g G.T.b G.T.builtins G.T.nolimit G.T.bmain hg hobj hints (Nat.le_trans hlen hn2) hr hF hb (fun H hO hS=>hsp w H a ns hlen hO hS) fun H e s'=>hCX w H s₁ e s'
end L2
namespace L2
open PySem PySem.Spec PyProof.Rows
noncomputable def defArgs (s:Stmt):Arguments:=match s with
 | .FunctionDef _ a _ _ _ _ _ _ _ _=>a
 | _=>{ posonlyargs:=[],args:=[],vararg:=none,kwonlyargs:=[],kw_defaults:=[],kwarg:=none,defaults:=[] }
noncomputable def defBody (s:Stmt):List Stmt:=match s with
 | .FunctionDef _ _ b _ _ _ _ _ _ _=>b
 | _=>[]
noncomputable def defScope (s:Stmt):Scope:=match s with
 | .FunctionDef _ _ _ _ _ _ sc _ _ _=>sc
 | _=>{ kind:=.function,names:=[],isGenerator:=false,isCoroutine:=false }
noncomputable abbrev CX0:CXT:=fun _ _ _ _ _ _=>False
noncomputable abbrev E0:XK:=fun _ _ _=>False
theorem pass0 {X:Cx}:Passes CX0 X E0:=fun _ _ _ _ _ _ _ h=>h.elim
structure Fun (K:PySem.W.Frag) (x qual:Str) (st:Stmt) (f:Addr) (fd:FuncData):Prop where
 ex : ∃ (oc:Value) (od:Option Addr) (kV doc pm:Value) (an:Option Addr) (cdv ct:Value) (osl:Array (Option Value)),
  fd = PySem.W.fnOf x qual (defArgs st) (defBody st) (defScope st) .none kV doc pm an cdv ct∧K.lookup f=some ⟨oc,od,.func fd,osl⟩∧PySem.W.codeIn K cdv qual=true
 kp : PySem.W.keepIn K (.ref f)=true
section
variable {P:Program}{w:World}{K:PySem.W.Frag}{mg:Str→Option Value}{base:Heap}
theorem Fun.ok {x qual:Str}{st:Stmt}{f:Addr}{fd:FuncData}{N ps:List Str}{k:Nat}{sp:Sp} (F:Fun K x qual st f fd) (S:FnScope N ps (defScope st)) (len:∀ vs H Q E,sp vs H Q E→vs.length=ps.length)
  (hbody:∀ (cdv:Value) (A:Around) (outer:List Env) (s:Shared) (H:Hp) (vs:List V) (Q:VK) (E:XK),Room k (A.deeper (envOfC qual (defScope st) s.heap.objs.size f cdv))→sp vs H Q E →
   ∃ t,PSs (cxOf CX0 P w K mg base N qual (defScope st) f cdv A outer s H E).nox (defBody st) t∧t { nx:=fun _ H'=>Q .non H',rt:=Q } (start N vs) H):FnOk P w K mg base CX0 (k+1) f fd ps sp:=by
 obtain ⟨oc,od,kV,doc,pm,an,cdv,ct,osl,rfl,lk,hcd⟩:=F.ex
 refine fn_of lk hcd S len fun A outer s H vs Q E hr hsp=>?_
 obtain ⟨t,h,q⟩:=hbody cdv A outer s H vs Q E hr hsp
 exact ⟨t,h.nox,q⟩
theorem Fun.binds {x qual:Str}{st:Stmt}{f:Addr}{fd:FuncData}{ps:List Str} (F:Fun K x qual st f fd)
  (h : ∀ (kV doc pm:Value) (an:Option Addr) (cdv ct:Value) (us:List Value),us.length=ps.length→bindArgs (PySem.W.fnOf x qual (defArgs st) (defBody st) (defScope st) .none kV doc pm an cdv ct) ⟨us,[]⟩=pure (ps.zip us)):Binds K fd ps []:=by
 obtain ⟨oc,od,kV,doc,pm,an,cdv,ct,osl,rfl,lk,hcd⟩:=F.ex
 exact .all (h kV doc pm an cdv ct)
theorem fun_mk {x qual:Str}{st:Stmt}{f:Addr}{oc:Value}{od an:Option Addr}{osl:Array (Option Value)}{kV doc pm cdv ct:Value} (l:K.lookup f=some ⟨oc,od,.func (PySem.W.fnOf x qual (defArgs st) (defBody st) (defScope st) .none kV doc pm an cdv ct),osl⟩)
  (c : PySem.W.codeIn K cdv qual=true) (k:PySem.W.keepIn K (.ref f)=true):Fun K x qual st f (PySem.W.fnOf x qual (defArgs st) (defBody st) (defScope st) .none kV doc pm an cdv ct):=⟨⟨oc,od,kV,doc,pm,an,cdv,ct,osl,rfl,l,c⟩,k⟩
end
section
variable {X:Cx}
theorem pv (i:Nat) {x:Str}{pos:Pos} (hN:X.N[i]? = some x:=by rfl) (hv:Vis X.env.scope x:=by first|exact Or.inl rfl|exact Or.inr (Or.inl rfl)|exact Or.inr (Or.inr rfl)) (hd:(x==("__debug__" : Str))=false:=by decide)
  (hcd:(x==("__classdict__" : Str))=false:=by decide):PE X (.Name x pos) (tVar i):=pe_var hN hv hd hcd
end
theorem ite2 {c A B:Prop} [Decidable c] (h1:c→A) (h2:¬c→B):if c then A else B:=by
 by_cases h:c
 ·rw [if_pos h]
  exact h1 h
 ·rw [if_neg h]
  exact h2 h
noncomputable def Same (H H':Hp):Prop:=∀ b o,H b=some o→H' b=some o
theorem Same.refl (H:Hp):Same H H:=fun _ _ h=>h
theorem Same.trans {H H1 H2:Hp} (a:Same H H1) (b:Same H1 H2):Same H H2:=fun c o h=>b c o (a c o h)
theorem Same.free {H H':Hp} (e:Same H H') {l:Addr} (h:H' l=Option.none):H l=Option.none:=by
 cases q:H l with
 | none=>rfl
 | some o =>
  rw [e l o q] at h
  cases h
theorem Same.seq {K:PySem.W.Frag}{H H':Hp}{a:Addr}{xs:List V} (e:Same H H') (h:SqL K H a xs):SqL K H' a xs:=by
 rcases h with (h|⟨o,h⟩)|h
 ·exact .inl (.inl (e _ _ h))
 ·exact .inl (.inr ⟨o,e _ _ h⟩)
 ·exact .inr h
end L2
set_option maxHeartbeats 4000000
namespace L2
open PySem PySem.Spec PyProof.Rows
noncomputable def clFrom (env:Env):List (Str×NameKind)→List (Str×Addr)→List (Str×Addr)
 | [],acc=>acc
 | (n,k)::r,acc=>if (k==.free)=true then clFrom env r ((n,(env.cells.lookup n).getD 0)::acc) else clFrom env r acc
theorem closure_go {env:Env} (f:Str×NameKind→List (Str×Addr)→Sem (ForInStep (List (Str×Addr))))
  (hf:∀ name kind cs,f (name,kind) cs=if (kind==.free)=true then (do let c ←cellOf env name;pure (.yield ((name,c)::cs))) else pure (.yield cs)) :
  ∀ (names:List (Str×NameKind)) (acc:List (Str×Addr)),(∀ y∈names,y.2=.free→(env.cells.lookup y.1).isSome=true)→forIn names acc f=(pure (clFrom env names acc):Sem _)
 | [],acc,_=>by rw[List.forIn_nil];rfl
 | (n,k)::r,acc,h=>by
  rw [List.forIn_cons,hf]
  unfold clFrom
  by_cases hk:(k==NameKind.free)=true
  ·rw [if_pos hk,if_pos hk]
   obtain ⟨c,hc⟩:=Option.isSome_iff_exists.mp (h (n,k) List.mem_cons_self (by simpa using hk))
   have e:cellOf env n=pure c:=by unfold cellOf;rw[hc]
   rw [e,hc]
   simp only [pure_bind]
   exact closure_go f hf r _ fun y hy=>h y (List.mem_cons_of_mem _ hy)
  ·rw [if_neg hk,if_neg hk]
   simp only [pure_bind]
   exact closure_go f hf r _ fun y hy=>h y (List.mem_cons_of_mem _ hy)
theorem closureFor_cl {scope:Scope}{env:Env} (h:∀ y∈scope.names,y.2=.free→(env.cells.lookup y.1).isSome=true):closureFor scope env=pure (clFrom env scope.names []):=by
 simp only [closureFor]
 rw [closure_go (env:=env) _ (fun name kind cs=>by cases hk:kind==NameKind.free <;> simp[hk]) scope.names [] h]
 rfl
theorem clFrom_lookup (env:Env) (x:Str):∀ (names:List (Str×NameKind)) (acc:List (Str×Addr)),(clFrom env names acc).lookup x=if (x,NameKind.free)∈names then some ((env.cells.lookup x).getD 0) else acc.lookup x
 | [],acc=>by simp[clFrom]
 | (n, k)::r,acc=>by
  unfold clFrom
  by_cases hk:(k==NameKind.free)=true
  ·have ek:k=NameKind.free:=by simpa using hk
   subst ek
   rw [if_pos hk,clFrom_lookup env x r]
   by_cases hr:(x,NameKind.free)∈r
   ·rw [if_pos hr,if_pos (List.mem_cons_of_mem _ hr)]
   ·rw [if_neg hr,List.lookup_cons]
    by_cases hx:x=n
    ·subst hx
     simp
    ·have e1:(x==n)=false:=beq_eq_false_iff_ne.mpr hx
     rw [e1]
     have e2:¬(x,NameKind.free)∈(n,NameKind.free)::r:=by
      intro z
      rcases List.mem_cons.mp z with z|z
      ·exact hx (Prod.mk.inj z).1
      ·exact hr z
     rw [if_neg e2]
  ·rw [if_neg hk,clFrom_lookup env x r]
   have e2:(x,NameKind.free)∈(n,k)::r↔(x,NameKind.free)∈r:=by
    constructor
    ·intro z
     rcases List.mem_cons.mp z with z|z
     ·exact absurd (by rw[(Prod.mk.inj z).2.symm];rfl) hk
     ·exact z
    ·exact List.mem_cons_of_mem _
   by_cases hr:(x,NameKind.free)∈r
   ·rw [if_pos hr,if_pos (e2.mpr hr)]
   ·rw [if_neg hr,if_neg (fun z=>hr (e2.mp z))]
theorem cellsFrom_app:∀ (names:List (Str×NameKind)) (n:Nat) (acc:List (Str×Addr)),cellsFrom n names acc=cellsFrom n names []++acc
 | [],n,acc=>by simp[cellsFrom]
 | (x,k)::r,n,acc=>by
  unfold cellsFrom
  split
  ·rw [cellsFrom_app r (n+1) ((x,n)::acc),cellsFrom_app r (n+1) [(x,n)]]
   simp
  ·exact cellsFrom_app r n acc
theorem cellsFrom_mem:∀ (names:List (Str×NameKind)) (n:Nat) (x:Str) (c:Addr),(x,c)∈cellsFrom n names []→(x,NameKind.cell)∈names∧n≤c
 | [],n,x,c,h=>by simp[cellsFrom] at h
 | (y,k)::r,n,x,c,h=>by
  unfold cellsFrom at h
  split at h
  ·rename_i hk
   rw [cellsFrom_app] at h
   rcases List.mem_append.mp h with h|h
   ·have q:=cellsFrom_mem r (n+1) x c h
    exact ⟨List.mem_cons_of_mem _ q.1,by omega⟩
   ·have e:(x,c)=(y,n):=by simpa using h
    cases e
    have ek:k=NameKind.cell:=by simpa using hk
    subst ek
    exact ⟨List.mem_cons_self,Nat.le_refl _⟩
  ·have q:=cellsFrom_mem r n x c h
   exact ⟨List.mem_cons_of_mem _ q.1,q.2⟩
theorem lookup_of_mem_nodup {α:Type}:∀ {l:List (Str×α)}{x:Str}{k:α},(l.map (·.1)).Nodup→(x,k)∈l→l.lookup x=some k
 | (y,j)::r,x,k,nd,h=>by
  rw [List.lookup_cons]
  rcases List.mem_cons.mp h with e|h
  ·cases e;simp
  ·have nd':=List.nodup_cons.mp nd
   have this:x≠y:=fun z=>nd'.1 (by
    rw [←z]
    exact List.mem_map.mpr ⟨(x,k),h,rfl⟩)
   rw [beq_eq_false_iff_ne.mpr this]
   exact lookup_of_mem_nodup nd'.2 h
theorem newBlockEnv {M:Model}{A:Around}{E:Value→Shared→Prop}{s:Shared}{scope:Scope}{globals:Addr}{cl:List (Str×Addr)}{qual:Str}{env:Env}{Q:Env→Shared→Prop}
  (h : Q (newEnv scope s.heap.objs.size globals (cellsFrom (s.heap.objs.size+1) scope.names cl) qual none .none (some env) builtinsNs) { s with heap:=pushCells (s.heap.push { cls:=.type "dict",data:=.dict #[] }) scope.names }) :
  wpAny M A (newFunctionEnv scope globals cl [] qual none .none (some env)) Q E s:=by
 simp only [newFunctionEnv,Option.isSome_some,if_true]
 refine wpAny_bind (wpAny_alloc ?_)
 refine wpAny_bind (wpAny_layCells _ (fun name kind cells=>by cases hkc:kind==NameKind.cell <;> simp[hkc]) _ _ _ _ ?_)
 rw [show ({ s with heap:=s.heap.push { cls:=.type "dict",data:=.dict #[] } }:Shared).heap.objs.size=s.heap.objs.size+1 from Heap.size_push ..]
 rw [List.forIn_nil]
 exact wpAny_bind (wpAny_pure (wpAny_pure h))
structure BScope (N:List Str) (env:Env) (N':List Str) (ix:List (Option Nat)) (sc:Scope):Prop where
 kind:sc.kind=.function
 ndn:(sc.names.map (·.1)).Nodup
 free:∀ y∈sc.names,y.2=.free→env.kindOf y.1=some .cell∨env.kindOf y.1=some .free
 len:ix.length=N'.length
 cap:∀ (i j:Nat),ix[i]? = some (some j)→∃ x,N'[i]? = some x∧N[j]? = some x∧sc.names.lookup x=some .free
theorem BScope.names {N:List Str}{env:Env}{N':List Str}{ix:List (Option Nat)}{sc:Scope} (S:BScope N env N' ix sc):∀ y∈sc.names,y.2=.local→sc.names.lookup y.1=some .local:=fun y hy e=>by
 obtain ⟨x,k⟩:=y
 cases e
 exact lookup_of_mem_nodup S.ndn hy
noncomputable def capS (σ:St) (ix:List (Option Nat)):St:=ix.map fun o=>o.bind fun j=>(σ[j]?).join
noncomputable def bEnv (sc:Scope) (C:Addr) (env:Env):Env:=compEnvC sc (cellsFrom (C+1) sc.names (clFrom env sc.names [])) C env
noncomputable def bCx (X:Cx) (N':List Str) (sc:Scope) (s:Shared) (H:Hp) (C:Addr) (fp:List Addr):Cx where
 prog:=X.prog
 w := X.w
 K := X.K
 mg := X.mg
 base:=X.base
 A := X.A
 N := N'
 s₀ := s
 H₀ := H
 env:=bEnv sc C X.env
 outer:=X.stack
 stack:=X.stack
 ex := fp
 fn := fun x=>decide (sc.names.lookup x=some .cell)
 calm:=X.calm
 pn := []
 xe := fun _ _=>False
theorem lookup_relabel {env:Env}:∀ {names:List (Str×NameKind)}{x:Str}{k:NameKind},names.lookup x=some k →
  (names.map fun (n,k)=>if (k==NameKind.free&&env.scope.kind==.function&&env.kindOf n==some .cell) then (n,NameKind.cell) else (n,k)).lookup x=some (if (k==NameKind.free&&env.scope.kind==.function&&env.kindOf x==some .cell)=true then .cell else k)
 | [],_,_,h=>by simp at h
 | (n,j)::r,x,k,h=>by
  have ih:=@lookup_relabel env r x k
  show List.lookup x ((if (j==NameKind.free&&env.scope.kind==.function&&env.kindOf n==some .cell)=true then (n,NameKind.cell) else (n,j))::_)=_
  cases hx:x==n with
  | true =>
   have e:x=n:=by simpa using hx
   subst e
   simp only [List.lookup_cons,hx] at h
   have ej:j=k:=Option.some.inj h
   subst ej
   by_cases hc:(j==NameKind.free&&env.scope.kind==.function&&env.kindOf x==some .cell)=true
   ·rw [if_pos hc,if_pos hc];simp[List.lookup_cons]
   ·rw [if_neg hc,if_neg hc];simp[List.lookup_cons]
  | false =>
   simp only [List.lookup_cons,hx] at h
   by_cases hc:(j==NameKind.free&&env.scope.kind==.function&&env.kindOf n==some .cell)=true
   ·rw [if_pos hc];simp only [List.lookup_cons,hx];exact ih h
   ·rw [if_neg hc];simp only [List.lookup_cons,hx];exact ih h
theorem lookup_relabel_none {env:Env}:∀ {names:List (Str×NameKind)}{x:Str},names.lookup x=none →
  (names.map fun (n,k)=>if (k==NameKind.free&&env.scope.kind==.function&&env.kindOf n==some .cell) then (n,NameKind.cell) else (n,k)).lookup x=none
 | [],_,_=>rfl
 | (n,j)::r,x,h=>by
  have ih:=@lookup_relabel_none env r x
  show List.lookup x ((if (j==NameKind.free&&env.scope.kind==.function&&env.kindOf n==some .cell)=true then (n,NameKind.cell) else (n,j))::_)=_
  cases hx:x==n with
  | true=>simp only [List.lookup_cons,hx] at h;cases h
  | false =>
   simp only [List.lookup_cons,hx] at h
   by_cases hc:(j==NameKind.free&&env.scope.kind==.function&&env.kindOf n==some .cell)=true
   ·rw [if_pos hc];simp only [List.lookup_cons,hx];exact ih h
   ·rw [if_neg hc];simp only [List.lookup_cons,hx];exact ih h
theorem bEnv_kind {sc:Scope}{C:Addr}{env:Env}{x:Str}{k:NameKind} (h:sc.names.lookup x=some k):(bEnv sc C env).kindOf x=some (if (k==NameKind.free&&env.scope.kind==.function&&env.kindOf x==some .cell)=true then .cell else k):=lookup_relabel h
theorem bEnv_none {sc:Scope}{C:Addr}{env:Env}{x:Str} (h:sc.names.lookup x=none):(bEnv sc C env).kindOf x=none:=lookup_relabel_none h
section
variable {X:Cx}{N':List Str}{ix:List (Option Nat)}{sc:Scope}
theorem bCells (S:BScope X.N X.env N' ix sc) {C:Addr}{x:Str}{c:Addr} (h:(bEnv sc C X.env).cells.lookup x=some c) :
  (sc.names.lookup x=some .cell∧C+1≤c∧(x,c)∈cellsFrom (C+1) sc.names [])∨(sc.names.lookup x=some .free∧c=(X.env.cells.lookup x).getD 0):=by
 have e:(bEnv sc C X.env).cells=cellsFrom (C+1) sc.names []++clFrom X.env sc.names []:=cellsFrom_app _ _ _
 rw [e] at h
 rcases List.mem_append.mp (mem_of_lookup h) with q|q
 ·obtain ⟨a,b⟩:=cellsFrom_mem _ _ _ _ q
  exact .inl ⟨lookup_of_mem_nodup S.ndn a,b,q⟩
 ·have fr:(x,NameKind.free)∈sc.names:=by
   have z:∀ (names:List (Str×NameKind)) (acc:List (Str×Addr)),(x,c)∈clFrom X.env names acc→(x,c)∈acc∨(x,NameKind.free)∈names:=by
    intro names
    induction names with
    | nil=>intro acc h;exact .inl h
    | cons y r ih =>
     obtain ⟨n,k⟩:=y
     intro acc h
     unfold clFrom at h
     split at h
     ·rename_i hk
      have ek:k=NameKind.free:=by simpa using hk
      subst ek
      rcases ih _ h with h|h
      ·rcases List.mem_cons.mp h with h|h
       ·cases h;exact .inr List.mem_cons_self
       ·exact .inl h
      ·exact .inr (List.mem_cons_of_mem _ h)
     ·rcases ih _ h with h|h
      ·exact .inl h
      ·exact .inr (List.mem_cons_of_mem _ h)
   rcases z _ _ q with q|q
   ·simp at q
   ·exact q
  have hf:=lookup_of_mem_nodup S.ndn fr
  have hn:(cellsFrom (C+1) sc.names []).lookup x=none:=by
   cases z:(cellsFrom (C+1) sc.names []).lookup x with
   | none=>rfl
   | some d =>
    have q':=cellsFrom_mem _ _ _ _ (mem_of_lookup z)
    have:=lookup_of_mem_nodup S.ndn q'.1
    rw [hf] at this;cases this
  rw [List.lookup_append,hn,clFrom_lookup,if_pos fr] at h
  exact .inr ⟨hf,(Option.some.inj (by simpa using h)).symm⟩
theorem bCells_free (S:BScope X.N X.env N' ix sc) {C:Addr}{x:Str} (h:sc.names.lookup x=some .free):(bEnv sc C X.env).cells.lookup x=some ((X.env.cells.lookup x).getD 0):=by
 have e:(bEnv sc C X.env).cells=cellsFrom (C+1) sc.names []++clFrom X.env sc.names []:=cellsFrom_app _ _ _
 have hn:(cellsFrom (C+1) sc.names []).lookup x=none:=by
  cases z:(cellsFrom (C+1) sc.names []).lookup x with
  | none=>rfl
  | some d =>
   have q':=cellsFrom_mem _ _ _ _ (mem_of_lookup z)
   have:=lookup_of_mem_nodup S.ndn q'.1
   rw [h] at this;cases this
 rw [e,List.lookup_append,hn,clFrom_lookup,if_pos (mem_of_lookup h)]
 rfl
theorem bCells_own {C:Addr}{env:Env}{x:Str} (h:sc.names.lookup x=some .cell):∃ c,(bEnv sc C env).cells.lookup x=some c:=by
 have e:(bEnv sc C env).cells=cellsFrom (C+1) sc.names []++clFrom env sc.names []:=cellsFrom_app _ _ _
 obtain ⟨c,hc⟩:=cell_has (n:=C+1) h
 exact ⟨c,by rw[e,List.lookup_append,hc];rfl⟩
theorem block_start {pins:List (Addr×Obj)}{σ:St}{H:Hp}{s:Shared}{fp:List Addr} (S:BScope X.N X.env N' ix sc) (I:Inv X pins σ H s) (hf:∀ b∈fp,FpOk X pins H b) (hlt:∀ b∈fp,b<s.heap.objs.size) :
  Inv (bCx X N' sc s H (s.heap.objs.size+1) fp) [] (capS σ ix) H
   { s with heap:=pushCells ((s.heap.push { cls:=.type "list",data:=.seq #[] }).push { cls:=.type "dict",data:=.dict #[] }) sc.names }:=by
 have sz1:(s.heap.push { cls:=.type "list",data:=.seq #[] }).objs.size=s.heap.objs.size+1:=Heap.size_push ..
 have keep:∀ b o,s.heap.get? b=some o→(pushCells ((s.heap.push { cls:=.type "list",data:=.seq #[] }).push { cls:=.type "dict",data:=.dict #[] }) sc.names).get? b=some o:=fun b o e =>
  pushCells_keeps _ _ b o (Heap.get?_push_of_some _ (Heap.get?_push_of_some _ e))
 have ok:=cellsFrom_ok sc.names ((s.heap.push { cls:=.type "list",data:=.seq #[] }).push { cls:=.type "dict",data:=.dict #[] }) (s.heap.objs.size+2) [] ⟨fun _ _ hm=>(nomatch hm),List.Pairwise.nil⟩ (by rw[Heap.size_push,sz1];exact Nat.le_refl _)
 rw [Heap.size_push,sz1] at ok
 have cOld:∀ x c,sc.names.lookup x=some .free→c=(X.env.cells.lookup x).getD 0→X.env.cells.lookup x=some c:=fun x c h1 h2=>by
  obtain ⟨d,hd⟩:=I.ok.has x (S.free (x,.free) (mem_of_lookup h1) rfl)
  rw [hd] at h2 ⊢
  rw [h2];rfl
 have hold:∀ x c,X.env.cells.lookup x=some c→c<s.heap.objs.size:=fun x c e=>by
  obtain ⟨v,q⟩:=I.cell x c e
  exact q.lt
 refine ⟨⟨I.ok.mod,S.kind,I.ok.glob,I.ok.blt,Nat.le_succ _,fun x y c h1 h2=>?_,fun x hx=>?_,fun x c hx h=>?_,I.ok.hd,I.ok.frames,.inl rfl,fun b hb=>⟨?_,fun x c h=>?_⟩,I.bs,Nat.le_trans I.ok.bsz I.sz,fun b o e hb=>?_,fun b hb=>?_,I.stack,I.stkFree,fun T q h=>I.base.tbls T q (I.ok.tab T q h)⟩,
  rfl,I.bare,Un.kept keep,⟨fun _=>none,?_,fun i x v e1 e2 e3=>?_⟩,fun x c h=>?_,I.hok.fresh (Nat.le_succ _),fun x c h=>?_,fun p hp=>absurd (show p∈([]:List (Addr×Obj)) from hp) (by simp),I.hok.kept keep,?_⟩
 ·rcases bCells S h1 with ⟨a1,b1,q1⟩|⟨a1,b1⟩ <;> rcases bCells S h2 with ⟨a2,b2,q2⟩|⟨a2,b2⟩
  ·exact name_of_addr ok.apart q1 q2
  ·exact absurd (hold y c (cOld y c a2 b2)) (Nat.not_lt.mpr (Nat.le_trans (Nat.le_add_right _ 2) b1))
  ·exact absurd (hold x c (cOld x c a1 b1)) (Nat.not_lt.mpr (Nat.le_trans (Nat.le_add_right _ 2) b2))
  ·exact I.ok.inj x y c (cOld x c a1 b1) (cOld y c a2 b2)
 ·cases q:sc.names.lookup x with
  | none =>
   have z:=bEnv_none (C:=s.heap.objs.size+1) (env:=X.env) q
   rcases hx with hx|hx
   ·exact absurd (hx.symm.trans z) (by simp)
   ·exact absurd (hx.symm.trans z) (by simp)
  | some k =>
   have z:=bEnv_kind (C:=s.heap.objs.size+1) (env:=X.env) q
   cases k with
   | free=>exact⟨_,bCells_free S q⟩
   | cell=>exact bCells_own q
   | _ =>
    rcases hx with hx|hx
    ·have:=hx.symm.trans z
     simp at this
    ·have:=hx.symm.trans z
     simp at this
 ·have hx':sc.names.lookup x=some .cell:=of_decide_eq_true hx
  rcases bCells S h with ⟨_,b1,_⟩|⟨a1,_⟩
  ·exact Nat.le_trans (by omega:s.heap.objs.size≤s.heap.objs.size+1+1) b1
  ·rw [hx'] at a1;cases a1
 ·exact Nat.ne_of_lt (Nat.lt_succ_of_lt (hlt b hb))
 ·obtain ⟨f0,f1,f2,f3,f4,f5⟩:=hf b hb
  rcases bCells S h with ⟨_,b1,_⟩|⟨a1,b1⟩
  ·exact Nat.ne_of_gt (Nat.lt_of_lt_of_le (hlt b hb) (Nat.le_trans (Nat.le_add_right _ 2) b1))
  ·exact f4 x c (cOld x c a1 b1)
 ·obtain ⟨f0,f1,f2,f3,f4,f5⟩:=hf b hb
  rcases f3 with f3|f3
  ·exact I.ok.noex b o e f3
  ·exact absurd (Nat.lt_of_lt_of_le (Heap.lt_size e) (Nat.le_trans I.ok.bsz f3)) (Nat.lt_irrefl _)
 ·obtain ⟨f0,f1,f2,f3,f4,f5⟩:=hf b hb
  intro z
  rcases List.mem_cons.mp (I.stkSub b z) with z|z
  ·exact f1 z
  ·exact f2 z
 ·have q:=(Heap.Ns.new (s.heap.push { cls:=.type "list",data:=.seq #[] }) (.type "dict")).keeps (pushCells_keeps sc.names _)
  rw [sz1] at q
  exact q
 ·have hi:i<ix.length:=by
   have z:=(List.getElem?_eq_some_iff.mp e2).1
   simpa [capS] using z
  have e2':(capS σ ix)[i]? = (ix[i]?).map fun o=>o.bind fun j=>(σ[j]?).join:=List.getElem?_map ..
  rw [e2',List.getElem?_eq_getElem hi] at e2
  have e2:(ix[i]).bind (fun j=>(σ[j]?).join)=some v:=Option.some.inj e2
  cases q:ix[i] with
  | none=>rw[q] at e2;cases e2
  | some j =>
   rw [q] at e2
   have e2:(σ[j]?).join=some v:=e2
   have e2:σ[j]? = some (some v):=by
    cases z:σ[j]? with
    | none=>rw[z] at e2;cases e2
    | some w'=>rw[z] at e2;have e2:w'=some v:=e2;rw[e2]
   obtain ⟨y,c1,c2,c3⟩:=S.cap i j (by rw[List.getElem?_eq_getElem hi,q])
   have exy:x=y:=Option.some.inj (e1.symm.trans c1)
   subst exy
   have kd:=S.free (x,.free) (mem_of_lookup c3) rfl
   obtain ⟨m,hn,hl⟩:=I.loc
   obtain ⟨u,ru,lu⟩:=hl j x v c2 e2 (by rcases kd with k|k;exact .inr (.inl k);exact .inr (.inr k))
   refine ⟨u,ru,.inr ⟨?_,?_⟩⟩
   ·rw [show (bCx X N' sc s H (s.heap.objs.size+1) fp).env.kindOf x=_ from bEnv_kind (C:=s.heap.objs.size+1) (env:=X.env) c3]
    split
    ·exact .inl rfl
    ·exact .inr rfl
   ·rcases lu with ⟨k,_⟩|⟨_,c,hc,hcell⟩
    ·rcases kd with k'|k' <;> rw[k] at k' <;> cases k'
    ·refine ⟨c,?_,hcell.keeps keep⟩
     have:=bCells_free S (C:=s.heap.objs.size+1) c3
     rw [hc] at this
     exact this
 ·rcases bCells S h with ⟨_,b1,q⟩|⟨a1,b1⟩
  ·exact ⟨none,(ok.empty x c q).1⟩
  ·obtain ⟨v,q⟩:=I.cell x c (cOld x c a1 b1)
   exact ⟨v,q.keeps keep⟩
 ·rcases bCells S h with ⟨_,b1,q⟩|⟨a1,b1⟩
  ·exact I.hok.fresh (Nat.le_trans (Nat.le_add_right _ 2) b1)
  ·exact I.freeC x c (cOld x c a1 b1)
 ·show (capS σ ix).length=N'.length
  simp [capS,S.len]
theorem block_again {pins pins':List (Addr×Obj)}{σ σ2:St}{H H':Hp}{s s':Shared}{fp:List Addr}{C:Addr} (S:BScope X.N X.env N' ix sc) (I:Inv X pins σ H s) (hf:∀ b∈fp,FpOk X pins H b)
  (I':Inv (bCx X N' sc s H C fp) pins' σ2 H' s'):Inv (bCx X N' sc s H C fp) pins' (capS σ ix) H' s':=by
 refine ⟨I'.ok,I'.os,I'.bare,I'.base,?_,I'.cell,I'.free,I'.freeC,I'.pin,I'.hok,by show (capS σ ix).length=N'.length;simp[capS,S.len]⟩
 obtain ⟨m',hn',_⟩:=I'.loc
 refine ⟨m',hn',fun i x v e1 e2 e3=>?_⟩
 have hi:i<ix.length:=by
  have z:=(List.getElem?_eq_some_iff.mp e2).1
  simpa [capS] using z
 have e2':(capS σ ix)[i]? = (ix[i]?).map fun o=>o.bind fun j=>(σ[j]?).join:=List.getElem?_map ..
 rw [e2',List.getElem?_eq_getElem hi] at e2
 have e2:(ix[i]).bind (fun j=>(σ[j]?).join)=some v:=Option.some.inj e2
 cases q:ix[i] with
 | none=>rw[q] at e2;cases e2
 | some j =>
  rw [q] at e2
  have e2:(σ[j]?).join=some v:=e2
  have e2:σ[j]? = some (some v):=by
   cases z:σ[j]? with
   | none=>rw[z] at e2;cases e2
   | some w'=>rw[z] at e2;have e2:w'=some v:=e2;rw[e2]
  obtain ⟨y,c1,c2,c3⟩:=S.cap i j (by rw[List.getElem?_eq_getElem hi,q])
  have exy:x=y:=Option.some.inj (e1.symm.trans c1)
  subst exy
  have kd:=S.free (x,.free) (mem_of_lookup c3) rfl
  obtain ⟨m,hn,hl⟩:=I.loc
  obtain ⟨u,ru,lu⟩:=hl j x v c2 e2 (by rcases kd with k|k;exact .inr (.inl k);exact .inr (.inr k))
  refine ⟨u,ru,.inr ⟨?_,?_⟩⟩
  ·rw [show (bCx X N' sc s H C fp).env.kindOf x=_ from bEnv_kind (C:=C) (env:=X.env) c3]
   split
   ·exact .inl rfl
   ·exact .inr rfl
  ·rcases lu with ⟨k,_⟩|⟨_,c,hc,o,ho,hd⟩
   ·rcases kd with k'|k' <;> rw[k] at k' <;> cases k'
   ·refine ⟨c,?_,?_⟩
    ·have:=bCells_free S (C:=C) c3
     rw [hc] at this
     exact this
    ·obtain ⟨sl,e⟩:=I'.base.any ho (I.freeC x c hc) fun z=>(hf c z).2.2.2.2.1 x c hc rfl
     exact ⟨_,e,hd⟩
noncomputable def PIf (X:Cx) (ifs:List Expr) (t:TT):Prop :=
 ∀ (pins:List (Addr×Obj)) (s:Shared) (σ:St) (H:Hp) (Q:Bool→Hp→Prop),Inv X pins σ H s→t σ H Q →
  wpAny (model X.prog X.w) X.A (forIn ifs true fun c r=>if r=true then do let ok ←isTrue c X.env (eval c X.env);pure (ForInStep.yield ok) else pure (ForInStep.yield r)) (TP X pins σ Q) X.xe s
noncomputable def tYes:TT:=fun _ H Q=>Q true H
theorem pif_nil {X:Cx}:PIf X [] tYes:=fun _ _ _ H _ I h=>wpAny_tests_nil ⟨H,I,h⟩
theorem pif_one {X:Cx}{c:Expr}{t:TT} (h:PT X c t):PIf X [c] t:=fun pins s σ H Q I hw=>wpAny_tests_one (h pins s σ H Q I hw)
theorem compLoop_any {prog:Program}{w:World}{A:Around}{R:Result→Shared→Prop}{s:Shared}{elt target iter:Expr}{ifs:List Expr}{scope:Scope}{pos:Pos}{it acc:Value}{env:Env} (I:Nat→Shared→Prop)
  (turn : ∀ n s,I n s→wpAny (model prog w) A (pyNext it) (fun r s₁=>match r with
   | none=>R (.ok .next) s₁
   | some v=>wpAny (model prog w) A (letOwnedTupleGo target it v) (fun _ s₁'=>wpAny (model prog w) A (assign target env v) (fun _ s₂ =>
     wpAny (model prog w) A (forIn ifs true fun c r=>if r=true then do let ok ←isTrue c env (eval c env);pure (ForInStep.yield ok) else pure (ForInStep.yield r)) (fun ok s₃ =>
      if ok=true then wpAny (model prog w) A (eval elt env) (fun x s₄ =>
       wpAny (model prog w) A (call (.builtin "list.append") [acc,x]) (fun _ s₅=>∃ m,m<n∧I m s₅) (fun _ _=>False) s₄) (fun _ _=>False) s₃
      else ∃ m,m<n∧I m s₃) (fun _ _=>False) s₂) (fun _ _=>False) s₁') (fun _ _=>False) s₁) (fun _ _=>False) s)
  (n : Nat) (h:I n s):codeAny (model prog w) A (.compLoop (.ListComp elt [⟨target,iter,ifs,0⟩] scope pos) 0 it acc env) R s:=by
 refine codeAny_loop rfl I (fun n s hI=>?_) n h
 show wpAny _ A ((compTurn (.ListComp elt [⟨target,iter,ifs,0⟩] scope pos) 0 it acc env).onRaise (fun x=>do noteFrame x env;theTreesLotGoes x)) _ _ s
 refine wpAny_noted ?_
 rw [compTurn_list]
 refine wpAny_bind (wpAny_standAt (wpAny_bind (wpAny_mono (turn n s hI) (fun r s₁ h₁=>?_) fun _ _ h'=>h'.elim)))
 cases r with
 | none=>exact wpAny_pure h₁
 | some v =>
  refine wpAny_bind (wpAny_mono h₁ (fun _ s₁' h₁'=>wpAny_bind (wpAny_mono h₁' (fun _ s₂ h₂=>wpAny_bind (wpAny_mono h₂ (fun ok s₃ h₃=>?_) fun _ _ h'=>h'.elim)) fun _ _ h'=>h'.elim)) fun _ _ h'=>h'.elim)
  cases ok with
  | false=>exact wpAny_pure ⟨rfl,h₃⟩
  | true =>
   exact wpAny_bind (wpAny_bind (wpAny_mono h₃ (fun x s₄ h₄=>wpAny_bind (wpAny_mono h₄ (fun _ s₅ h₅=>wpAny_pure (wpAny_pure ⟨rfl,h₅⟩)) fun _ _ h'=>h'.elim)) fun _ _ h'=>h'.elim))
noncomputable def tCompW (J:It) (σ0:St) (g:TG) (tt:TT) (te:TE) (H1:Hp) (Qe:List V→Hp→Prop):Prop :=
 ∃ W : Nat→Nat→List V→Hp→Prop,(∃ m,W 0 m [] H1)∧∀ i m ys H,W i m ys H →
  (J.stop i H∧Qe ys H) ∨
  (J.go i H∧ys.length<sizeLine∧∃ N:List V→Hp→Prop,(∀ ys' H',N ys' H'→∃ m',m'<m∧W (i+1) m' ys' H') ∧
   ∀ x H',J.yld i H x H'→g x σ0 H' fun σ2 H2=>tt σ2 H2 fun b H3=>if b=true then te σ2 H3 fun y H4=>N (ys++[y]) H4 else N ys H3)
theorem comp_run {tg iter elt:Expr}{ifs:List Expr}{pos:Pos}{g:TG}{tt:TT}{te:TE}{pins:List (Addr×Obj)}{σ:St}{H:Hp}{s:Shared}{it:Addr}{fp:List Addr}{tn:Nat→Heap→Prop}{J:It}{Qe:List V→Hp→Prop}
  {RR:Value→Addr→Result→Shared→Prop}{E:Value→Shared→Prop}
  (hc:X.calm=true) (S:BScope X.N X.env N' ix sc) (hg:∀ s H C fp,PG (bCx X N' sc s H C fp) tg g) (ht:∀ s H C fp,PIf (bCx X N' sc s H C fp) ifs tt) (he:∀ s H C fp,PE (bCx X N' sc s H C fp) elt te)
  (I : Inv X pins σ H s) (T:Turn X.prog X.w X.K tg J fp it tn) (st:tn 0 s.heap) (hf:∀ b∈fp,FpOk X pins H b) (hw:tCompW J (capS σ ix) g tt te H Qe)
  (fin:∀ s' H' ys m,s'.heap.Ns (s.heap.objs.size+1) m→H' s.heap.objs.size=none→H' (s.heap.objs.size+1)=none→Qe ys H'→Inv X pins σ (upd H' s.heap.objs.size (.lst ys)) s'→RR (.ref s.heap.objs.size) (s.heap.objs.size+1) (.ok .next) s') :
  wpAny (model X.prog X.w) X.A (newList []) (fun acc s₃=>wpAny (model X.prog X.w) X.A (newFunctionEnv sc X.env.globals (clFrom X.env sc.names []) [] X.env.qual none .none (some X.env)) (fun cenv s₄ =>
   codeAny (model X.prog X.w) X.A (.compStart (.ListComp elt [⟨tg,iter,ifs,0⟩] sc pos) 0 (.ref it) acc { cenv with scope:=relabel sc X.env }) (RR acc cenv.locals) s₄) E s₃) E s:=by
 have hlt:∀ b∈fp,b<s.heap.objs.size:=fun b hb=>by
  obtain ⟨o,e,_⟩:=T.obj _ _ st b hb
  exact Heap.lt_size e
 refine wpAny_newObj_type (newBlockEnv ?_)
 have sz1:(s.heap.push { cls:=.type "list",dict:=none,data:=.seq ([]:List Value).toArray }).objs.size=s.heap.objs.size+1:=Heap.size_push ..
 have I0:=block_start S I hf hlt
 obtain ⟨W,⟨m0,w0⟩,turn⟩:=hw
 have nD:∀ b∈fp,s.heap.objs.size≠b:=fun b hb=>Nat.ne_of_gt (hlt b hb)
 have freshD:H s.heap.objs.size=none:=I.hok.fresh (Nat.le_refl _)
 have cellD:∀ x c,(bEnv sc (s.heap.objs.size+1) X.env).cells.lookup x=some c→c≠s.heap.objs.size:=fun x c h=>by
  rcases bCells S h with ⟨_,b1,_⟩|⟨a1,b1⟩
  ·exact Nat.ne_of_gt (Nat.lt_of_lt_of_le (Nat.lt_succ_of_lt (Nat.lt_succ_self _)) b1)
  ·obtain ⟨d,hd⟩:=I.ok.has x (S.free (x,.free) (mem_of_lookup a1) rfl)
   rw [hd] at b1
   obtain ⟨v,q⟩:=I.cell x d hd
   have e:c=d:=b1
   rw [e]
   exact Nat.ne_of_lt q.lt
 have fsD:s.heap.objs.size ∉ frs X.stack:=fun z=>by
  rcases List.mem_cons.mp (I.stkSub _ z) with z|z
  ·exact absurd I.lt (by rw[←z];exact Nat.lt_irrefl _)
  ·exact I.nofs (Nat.le_refl _) z
 have fpB:∀ {pins':List (Addr×Obj)}{H':Hp},(∀ b∈fp,H' b=none)→(∀ p∈pins',∀ b∈fp,p.1≠b)→∀ b∈fp,FpOk (bCx X N' sc s H (s.heap.objs.size+1) fp) pins' H' b:=fun {pins' H'} h1 h2 b hb =>
  ⟨h1 b hb,(I0.ok.exf b hb).1,I0.ok.exfs b hb,.inl hb,(I0.ok.exf b hb).2,fun p hp=>h2 p (by simpa [bCx] using hp) b hb⟩
 have getD0:(pushCells ((s.heap.push { cls:=.type "list",data:=.seq #[] }).push { cls:=.type "dict",data:=.dict #[] }) sc.names).get? s.heap.objs.size=some { cls:=.type "list",data:=.seq #[] } :=
  pushCells_keeps _ _ _ _ (Heap.get?_push_of_some _ (Heap.get?_push_size _ rfl))
 have I0':Inv (bCx X N' sc s H (s.heap.objs.size+1) fp) [(s.heap.objs.size,{ cls:=.type "list",data:=.seq #[] })] (capS σ ix) H _:=I0.pins_of (pins':=[(s.heap.objs.size,{ cls:=.type "list",data:=.seq #[] })]) fun p hp=>by
  have e:p=(s.heap.objs.size,{ cls:=.type "list",data:=.seq #[] }):=by simpa using hp
  subst e
  exact ⟨getD0,freshD,Nat.ne_of_lt (Nat.lt_succ_self _),fsD,fun v z=>by cases z⟩
 have st0:tn 0 (pushCells ((s.heap.push { cls:=.type "list",data:=.seq #[] }).push { cls:=.type "dict",data:=.dict #[] }) sc.names):=T.keep _ _ _ st fun b hb o e=>pushCells_keeps _ _ _ _ (Heap.get?_push_of_some _ (Heap.get?_push_of_some _ e))
 have loop:∀ s4:Shared,s4={ s with heap:=pushCells ((s.heap.push { cls:=.type "list",data:=.seq #[] }).push { cls:=.type "dict",data:=.dict #[] }) sc.names } →
   codeAny (model X.prog X.w) X.A (.compLoop (.ListComp elt [⟨tg,iter,ifs,0⟩] sc pos) 0 (.ref it) (.ref s.heap.objs.size) (bEnv sc (s.heap.objs.size+1) X.env)) (RR (.ref s.heap.objs.size) (s.heap.objs.size+1)) s4:=by
  rintro s4 rfl
  refine compLoop_any (fun n s'=>∃ (i:Nat) (ys:List V) (its:List Value) (k:Nat) (H':Hp),Inv (bCx X N' sc s H (s.heap.objs.size+1) fp) [(s.heap.objs.size,{ cls:=.type "list",data:=.seq its.toArray k })] (capS σ ix) H' s' ∧
   tn i s'.heap∧(∀ b∈fp,H' b=none)∧Vals ys its∧ys.length≤sizeLine∧W i n ys H') ?_ m0 ⟨0,[],[],0,H,I0',st0,fun b hb=>(hf b hb).1,.nil,Nat.zero_le _,w0⟩
  rintro n s3 ⟨i,ys,its,k,H3,I3,st3,fr3,rv,hz,w3⟩
  have fp3:=fpB (pins':=[(s.heap.objs.size,{ cls:=.type "list",data:=.seq its.toArray k })]) fr3 (fun p hp b hb=>by
   have e:p=(s.heap.objs.size,{ cls:=.type "list",data:=.seq its.toArray k }):=by simpa using hp
   rw [e];exact nD b hb)
  rcases turn i n ys H3 w3 with ⟨stop,qe⟩|⟨go,hz3,N,hN,step⟩
  ·refine thn (T.done (bCx X N' sc s H (s.heap.objs.size+1) fp) rfl rfl rfl hc i _ s3 _ H3 (fun _ _=>False) I3 fp3 st3 stop) fun r s4 ⟨hr,I4⟩=>?_
   subst hr
   obtain ⟨pg,pn,_⟩:=I4.pin (s.heap.objs.size,{ cls:=.type "list",data:=.seq its.toArray k }) (List.mem_append_right _ List.mem_cons_self)
   obtain ⟨m,hm,_⟩:=I4.loc
   refine fin s4 H3 ys m hm pn I4.free qe ?_
   refine I.call' (ch:=fp) I4.os ⟨I4.base.keep,I4.base.slot,fun b o e n hx=>?_,I4.base.there,fun b xs q=>?_,fun b o u q=>?_,fun b ps q=>?_⟩ (fun b o e=>?_) I4.bare fun b hb=>?_
   ·rw [upd_ne (Nat.ne_of_lt (Heap.lt_size e))]
    exact I4.base.free b o e n hx
   ·have q':=I4.base.tups b xs q
    rw [upd_ne (ne_of_none q' pn)]
    exact q'
   ·have q':=I4.base.frzs b o u q
    rw [upd_ne (ne_of_none q' pn)]
    exact q'
   ·have q':=I4.base.tbls b ps q
    rw [upd_ne (ne_of_none q' pn)]
    exact q'
   ·by_cases hb:b=s.heap.objs.size
    ·subst hb
     rw [upd_same] at e
     cases e
     exact ⟨hz,its,k,rv,pg⟩
    ·rw [upd_ne hb] at e
     exact (I4.hok b o e).stay (fun c v _ q=>q) (fun c q=>by rw[upd_ne (ne_of_none q pn)];exact q) fun c xs _ q=>by rw[upd_ne (ne_of_none q pn)];exact q
   ·obtain ⟨f0,f1,f2,f3,f4,f5⟩:=hf b hb
    exact ⟨f3,f1,f4,f5⟩
  ·refine thn (T.item (bCx X N' sc s H (s.heap.objs.size+1) fp) rfl rfl rfl hc i _ s3 _ H3 (fun _ _=>False) I3 fp3 st3 go) fun r s4 ⟨u,hr,h4⟩=>?_
   subst hr
   refine thn h4 fun _ s5 ⟨x,H5,I5,r5,y5,st5,fr5⟩=>?_
   have fp5:=fpB (pins':=[(s.heap.objs.size,{ cls:=.type "list",data:=.seq its.toArray k })]) fr5 (fun p hp b hb=>by
    have e:p=(s.heap.objs.size,{ cls:=.type "list",data:=.seq its.toArray k }):=by simpa using hp
    rw [e];exact nD b hb)
   have I5':=I5.pinned fp5 (T.obj _ _ st5)
   refine thn (hg s H _ fp _ s5 _ H5 x u _ I5' r5 (step x H5 y5)) fun _ s6 ⟨σ6,H6,I6,q6⟩=>?_
   have back:∀ {σ7:St}{H7:Hp}{s7:Shared},Inv (bCx X N' sc s H (s.heap.objs.size+1) fp) ([(s.heap.objs.size,{ cls:=.type "list",data:=.seq its.toArray k })]++pinsAt fp s5.heap) σ7 H7 s7 →
     tn (i+1) s7.heap∧(∀ b∈fp,H7 b=none):=fun {σ7 H7 s7} I7=>by
    refine ⟨T.keep _ _ _ st5 fun b hb o e=>(I7.pin (b,o) (List.mem_append_right _ (List.mem_append_right _ (mem_pinsAt hb e)))).1,fun b hb=>?_⟩
    obtain ⟨o,e,d⟩:=T.obj _ _ st5 b hb
    exact (I7.pin (b,o) (List.mem_append_right _ (List.mem_append_right _ (mem_pinsAt hb e)))).2.1
   refine thn (ht s H _ fp _ s6 σ6 H6 _ I6 q6) fun ok s7 ⟨H7,I7,q7⟩=>?_
   cases ok with
   | false =>
    rw [if_neg Bool.false_ne_true] at q7 ⊢
    obtain ⟨m',hm',w7⟩:=hN _ _ q7
    exact ⟨m',hm',i+1,ys,its,k,H7,block_again S I hf I7.unpinned,(back I7).1,(back I7).2,rv,hz,w7⟩
   | true =>
    rw [if_pos rfl] at q7 ⊢
    refine thn (he s H _ fp _ s7 σ6 H7 _ I7 q7) fun xv s8 ⟨y,H8,I8,r8,q8⟩=>?_
    obtain ⟨m',hm',w8⟩:=hN _ _ q8
    obtain ⟨pg,pn,_⟩:=I8.pin (s.heap.objs.size,{ cls:=.type "list",data:=.seq its.toArray k }) (List.mem_append_right _ (List.mem_append_left _ List.mem_cons_self))
    refine wpAny_list_append_plain (l:=s.heap.objs.size) (items:=its.toArray) ⟨k,pg⟩ (fun h9 hl9 hs9=>?_) (by have:=rv.length;simp;omega)
    obtain ⟨k9,g9⟩:=hl9
    have I8':Inv (bCx X N' sc s H (s.heap.objs.size+1) fp) (pinsAt fp s5.heap) σ6 H8 s8:=I8.pins_of fun p hp=>I8.pin p (List.mem_append_right _ (List.mem_append_right _ hp))
    have I9:Inv (bCx X N' sc s H (s.heap.objs.size+1) fp) (pinsAt fp s5.heap) σ6 H8 { s8 with heap:=h9 }:=I8'.turned (t':=s8.toks) (it:=s.heap.objs.size) (fun b o hb e=>hs9.extBut b o hb e) pn (Nat.ne_of_lt (Nat.lt_succ_self _)) (.inr (Nat.le_refl _)) cellD
     fun p hp=>by
      have hp':p∈pinsAt fp s5.heap:=by simpa [bCx] using hp
      exact (nD _ (of_pinsAt hp').1).symm
    have I9':Inv (bCx X N' sc s H (s.heap.objs.size+1) fp) [(s.heap.objs.size,{ cls:=.type "list",data:=.seq (its++[xv]).toArray k9 })] σ6 H8 { s8 with heap:=h9 }:=I9.pins_of fun p hp=>by
     have e:p=(s.heap.objs.size,{ cls:=.type "list",data:=.seq (its++[xv]).toArray k9 }):=by simpa using hp
     subst e
     refine ⟨?_,pn,Nat.ne_of_lt (Nat.lt_succ_self _),fsD,fun v z=>by cases z⟩
     simpa using g9
    refine ⟨m',hm',i+1,ys++[y],its++[xv],k9,H8,block_again S I hf I9',?_,(back I8).2,rv.append (.cons r8 .nil),by simp;omega,w8⟩
    exact T.keep _ _ _ (back I8).1 fun b hb o e=>hs9.extBut b o (nD b hb).symm e
 have key:=codeAny_compStart_list (iter:=iter) (loop _ rfl) (T.self X.A 0 { s with heap:=pushCells ((s.heap.push { cls:=.type "list",data:=.seq #[] }).push { cls:=.type "dict",data:=.dict #[] }) sc.names } _ _ st0 (loop _ rfl))
 simpa only [newEnv,sz1,bEnv,compEnvC] using key
noncomputable def tComp (wi:TI) (ix:List (Option Nat)) (g:TG) (tt:TT) (te:TE):TE:=fun σ H Q=>wi σ H fun J H1=>tCompW J (capS σ ix) g tt te H1 fun ys H2=>∀ p,H2 p=none→Q (.ref p) (upd H2 p (.lst ys))
theorem BScope.clos {pins:List (Addr×Obj)}{σ:St}{H:Hp}{s:Shared} (S:BScope X.N X.env N' ix sc) (I:Inv X pins σ H s):closureFor sc X.env=pure (clFrom X.env sc.names []) :=
 closureFor_cl fun y hy e=>by
  obtain ⟨c,hc⟩:=I.ok.has y.1 (S.free y hy e)
  rw [hc];rfl
theorem pe_comp {tg iter elt:Expr}{ifs:List Expr}{pos:Pos}{wi:TI}{g:TG}{tt:TT}{te:TE} (hc:X.calm=true) (S:BScope X.N X.env N' ix sc) (hi:PI X tg iter wi)
  (hg:∀ s H C fp,PG (bCx X N' sc s H C fp) tg g) (ht:∀ s H C fp,PIf (bCx X N' sc s H C fp) ifs tt) (he:∀ s H C fp,PE (bCx X N' sc s H C fp) elt te)
  (hs:∀ x,foldedSetIterable iter X.env x=pure x:=by intro _;rfl):PE X (.ListComp elt [⟨tg,iter,ifs,0⟩] sc pos) (tComp wi ix g tt te):=by
 intro pins s σ H Q I h
 rw [eval_ListComp]
 refine wpAny_comprehension_free (use:=none) rfl hs (S.clos I) S.kind S.names (thn (hi pins s σ H _ I h) fun v s1 h1=>thn h1 fun itv s2 ⟨it,fp,tn,J,H2,e,I2,T,st2,f2,hw⟩=>?_)
 subst e
 refine comp_run (RR:=fun acc C=>compPost (model X.prog X.w) X.A X.xe none (EP X pins σ Q) acc C) hc S hg ht he I2 T st2 f2 hw fun s' H' ys m hn hD hC q I'=>?_
 refine ⟨m,hn,fun h' hs'=>?_⟩
 have nn:(upd H' s2.heap.objs.size (.lst ys)) (s2.heap.objs.size+1)=none:=by
  rw [upd_ne (Nat.ne_of_gt (Nat.lt_succ_self _))];exact hC
 obtain ⟨f0,f1,f2,f3,f4,f5⟩:=I2.fpOk (H':=upd H' s2.heap.objs.size (.lst ys)) (b:=s2.heap.objs.size+1) (Nat.le_succ _) nn
 exact ⟨.ref s2.heap.objs.size,_,I'.turned (t':=s'.toks) (it:=s2.heap.objs.size+1) (fun b o hb e=>hs'.extBut b o hb e) f0 f1 f3 f4 f5,rfl,q _ hD⟩
theorem ps_setComp {i:Nat}{y:Str}{tg iter elt:Expr}{ifs:List Expr}{pos spos py:Pos}{wi:TI}{g:TG}{tt:TT}{te:TE} (hN:X.N.Nodup) (hi':X.N[i]? = some y) (hy:X.env.scope.names.lookup y=some .local)
  (hc:X.calm=true) (S:BScope X.N X.env N' ix sc) (hi:PI X tg iter wi)
  (hg:∀ s H C fp,PG (bCx X N' sc s H C fp) tg g) (ht:∀ s H C fp,PIf (bCx X N' sc s H C fp) ifs tt) (he:∀ s H C fp,PE (bCx X N' sc s H C fp) elt te)
  (hsw:swapsWith (.ListComp elt [⟨tg,iter,ifs,0⟩] sc pos) (some (.Name y py)) spos.line X.env=pure true:=by rfl)
  (hs:∀ x,foldedSetIterable iter X.env x=pure x:=by intro _;rfl):PS X (.Assign [.Name y py] (.ListComp elt [⟨tg,iter,ifs,0⟩] sc pos) spos) (tAsg (tComp wi ix g tt te) (gName i)):=by
 intro pins s σ H D I h
 rw [exec_Assign_Name_used _ _ _ _ hsw]
 refine wpAny_bind (wpAny_standAt (wpAny_bind ?_))
 show wpAny _ X.A (do let _ ←comprehension (.ListComp elt [⟨tg,iter,ifs,0⟩] sc pos) sc X.env _ (newList []) false (eval iter X.env) (some (assign (.Name y py) X.env))) _ _ s
 refine wpAny_bind (wpAny_mono (wpAny_comprehension_free (use:=some (assign (.Name y py) X.env)) (Q:=fun _ s'=>SP X pins D .next s') rfl hs (S.clos I) S.kind S.names
  (thn (hi pins s σ H _ I h) fun v s1 h1=>thn h1 fun itv s2 ⟨it,fp,tn,J,H2,e,I2,T,st2,f2,hw⟩=>?_)) (fun _ s' hq=>wpAny_pure (wpAny_pure hq)) fun _ _ e=>e)
 subst e
 refine comp_run (RR:=fun acc C=>compPost (model X.prog X.w) X.A X.xe (some (assign (.Name y py) X.env)) (fun _ s'=>SP X pins D .next s') acc C) hc S hg ht he I2 T st2 f2 hw fun s' H' ys m hn hD hC q I'=>?_
 have nn:(upd H' s2.heap.objs.size (.lst ys)) (s2.heap.objs.size+1)=none:=by
  rw [upd_ne (Nat.ne_of_gt (Nat.lt_succ_self _))];exact hC
 obtain ⟨f0,f1,f2,f3,f4,f5⟩:=I2.fpOk (H':=upd H' s2.heap.objs.size (.lst ys)) (b:=s2.heap.objs.size+1) (Nat.le_succ _) nn
 show wpAny _ X.A (assign (.Name y py) X.env (.ref s2.heap.objs.size)) _ _ _
 refine wpAny_assign_Name (store_ok2 (v:=.ref s2.heap.objs.size) I' hN hi' (.inl hy) rfl (fun s'' I'' ⟨a,hsb,ha⟩=>?_) (.inr hy))
 have ne:s2.heap.objs.size+1≠a:=by
  rcases ha with rfl|ha
  ·exact f1
  ·exact fun z=>f4 y a ha z.symm
 refine ⟨m,hn.sameBut hsb ne,fun h' hs'=>?_⟩
 exact ⟨_,_,I''.turned (t':=s''.toks) (it:=s2.heap.objs.size+1) (fun b o hb e=>hs'.extBut b o hb e) f0 f1 f3 f4 f5,q _ hD⟩
end
end L2
namespace L2
open PySem
open Sem (wp)
section
variable {prog:Program}{w:World}
noncomputable def IsStd (prog:Program) (w:World) (h:Heap) (k:Int×List Int) (a:Addr):Prop :=
 ∃ o t b n,h.get? a=some o∧o.cls=.type "tuple" ∧ o.data=.seq #[.int k.1 t,.ref b] n∧IsTupleKey (intKind prog w) h k.2 b
theorem isInt_self (i:Int) (t:Tok):(intKind prog w).is i (.int i t)=true:=by simp[intKind,Value.isInt]
theorem IsStd.typeIs {s:Shared}{k:Int×List Int}{a:Addr} (x:IsStd prog w s.heap k a):s.TypeIs (.ref a) "tuple" := let ⟨o,_,_,_,ho,hc,_⟩:=x;⟨o,ho,hc⟩
theorem IsStd.inj {h:Heap}{a:Addr}{x y:Int×List Int} (hx:IsStd prog w h x a) (hy:IsStd prog w h y a):x=y:=by
 obtain ⟨x1,x2⟩:=x
 obtain ⟨y1,y2⟩:=y
 obtain ⟨o,t,b,n,ho,_,hd,hi⟩:=hx
 obtain ⟨o',t',b',n',ho',_,hd',hi'⟩:=hy
 obtain rfl:o=o':=Option.some.inj (ho.symm.trans ho')
 rw [hd] at hd'
 injection hd' with h1 _
 simp only [Array.mk.injEq,List.cons.injEq,Value.int.injEq,Value.ref.injEq,and_true] at h1
 obtain ⟨⟨e1,_⟩,e2⟩:=h1
 subst e2
 have e3:x2=y2:=hi.inj hi'
 rw [e1,e3]
theorem IsStd.keeps {h h':Heap}{k:Int×List Int}{a d:Addr}{o:Obj}{es ep} (x:IsStd prog w h k a) (ho:h.get? d=some o) (hd:o.data=.dict es ep) (hs:Heap.SameBut d h h') :
  IsStd prog w h' k a:=by
 obtain ⟨o',t,b,n,ho',hc,hd',hi⟩:=x
 have hne:a≠d:=by
  rintro rfl
  obtain rfl:o'=o:=Option.some.inj (ho'.symm.trans ho)
  rw [hd] at hd';exact nomatch hd'
 exact ⟨o',t,b,n,(hs.2 a hne).trans ho',hc,hd',hi.keeps ho hd hs⟩
noncomputable def stdHash (prog:Program) (w:World) (k:Int×List Int):Int:=reduceHash (Builtin.Tuple.tupleHashOf [hashInt k.1,tupleKeyHash (intKind prog w) k.2])
variable {A:Around}{E:Value→Shared→Prop}{s:Shared}
theorem std_pyHash {k:Int×List Int}{a:Addr}{Q:Int→Shared→Prop} (hu:A.units+1<cLine) (hk:IsStd prog w s.heap k a) (h:Q (stdHash prog w k) { s with toks:=s.toks+(k.2.length+3) }) :
  wpAny (model prog w) A (pyHash (.ref a)) Q E s:=by
 have hT:=hk.typeIs
 obtain ⟨k1,k2⟩:=k
 obtain ⟨o,t,b0,n,ho,_,hd,hi⟩:=hk
 unfold pyHash
 first|unfold pyHashByItsType|skip
 first|refine wpAny_bind (wpAny_cRoomFor_or (.inr (by omega)) ?_)|skip
 refine wpAny_bind (wpAny_specialOf hT F.slot_tuple_hash.lookup ?_)
 show wpAny _ _ (if (some (Value.builtin "tuple.__hash__")==some Value.none)=true then _ else _) Q E s
 rw [if_neg (by rw[beq_builtin_none];exact Bool.false_ne_true)]
 refine wpAny_bind (wpAny_specialOf hT F.slot_tuple_hash.lookup ?_)
 show wpAny _ _ (callSpecialIfBoundUnlessNone? (.ref a) "__hash__" _ >>= _) Q E s
 refine wpAny_bind (wpAny_callSpecialIfBoundUnlessNone?_slot hT F.slot_tuple_hash (wpAny_call_entry F.slot_tuple_hash hT F.entry_tuple_hash ?_ (F.args_tuple_hash_1 _)))
 show wpAny _ _ (Builtin.Tuple.tupleItemsOf (.ref a) >>= _) _ _ s
 refine wpAny_bind (wpAny_tupleItemsOf ho hd ?_)
 refine wpAny_bind ?_
 rw [←Array.forIn_toList]
 refine wpAny_forIn_list _
  (fun rest (b:Array Int) s'=>(rest=[.int k1 t,.ref b0]∧b.toList=[]∧s'=s)∨(rest=[.ref b0]∧b.toList=[hashInt k1]∧s'={ s with toks:=s.toks+1 })∨(rest=[]∧b.toList=[hashInt k1,tupleKeyHash (intKind prog w) k2]∧s'={ s with toks:=s.toks+1+(k2.length+1) }))
  _ ?_ ?_ _ _ (.inl ⟨rfl,rfl,rfl⟩)
 ·rintro x rest b s' (⟨hr,hb,rfl⟩|⟨hr,hb,rfl⟩|⟨hr,hb,rfl⟩)
  ·injection hr with e1 e2
   subst e1 e2
   refine wpAny_bind ((intKind prog w).pyHash (isInt_self k1 t) ?_)
   first
    | exact wpAny_pure (.inr (.inl ⟨rfl,by simp[hb,intKind],rfl⟩))
    | exact wpAny_bind (wpAny_pure (wpAny_pure (.inr (.inl ⟨rfl,by simp[hb,intKind],rfl⟩))))
  ·injection hr with e1 e2
   subst e1 e2
   refine wpAny_bind (wpAny_pyHash_tuple (knd:=intKind prog w) hu hi ?_)
   first
    | exact wpAny_pure (.inr (.inr ⟨rfl,by simp[hb],rfl⟩))
    | exact wpAny_bind (wpAny_pure (wpAny_pure (.inr (.inr ⟨rfl,by simp[hb],rfl⟩))))
  ·cases hr
 ·rintro b s' (⟨hr,hb,rfl⟩|⟨hr,hb,rfl⟩|⟨hr,hb,rfl⟩)
  ·cases hr
  ·cases hr
  show wpAny _ _ (retInt (Builtin.Tuple.tupleHashOf b.toList)) _ _ _
  rw [hb]
  refine wpAny_ret_mkInt ?_
  show wpAny _ _ (if (decide (-(2:Int) ^ 63≤Builtin.Tuple.tupleHashOf _)&&decide (Builtin.Tuple.tupleHashOf _<2 ^ 63))=true then _ else _) Q E _
  unfold stdHash reduceHash at h
  generalize Builtin.Tuple.tupleHashOf [hashInt k1,tupleKeyHash (intKind prog w) k2]=z at *
  by_cases hr:(decide (-(2:Int) ^ 63≤z)&&decide (z<2 ^ 63))=true
  ·rw [if_pos hr]
   rw [if_pos hr] at h
   refine wpAny_pure ?_
   have e:s.toks+1+(k2.length+1)+1=s.toks+(k2.length+3):=by omega
   simpa [e] using h
  ·rw [if_neg hr]
   rw [if_neg hr] at h
   refine wpAny_bind (wpAny_rule (wpAny_pure ?_))
   have e:s.toks+1+(k2.length+1)+1=s.toks+(k2.length+3):=by omega
   simpa [e] using h
theorem std_eq_tree {x y:Int×List Int}{a b:Addr}{P:Fin→Shared→Prop} (hu:A.units<cLine) (hx:IsStd prog w s.heap x a) (hy:IsStd prog w s.heap y b) (h:P (.done (.ret (.bool (decide (x=y))))) s) :
  wpAny (model prog w) A (Builtin.«tuple.__eq__» ⟨[.ref a,.ref b],[]⟩) P E s:=by
 have hTb:=hy.typeIs
 obtain ⟨x1,x2⟩:=x
 obtain ⟨y1,y2⟩:=y
 obtain ⟨oa,ta,ba,na,hoa,_,hda,hia⟩:=hx
 obtain ⟨ob,tb,bb,nb,hob,_,hdb,hib⟩:=hy
 show wpAny _ _ (isInstance (.ref b) (.type "tuple") >>= _) _ _ s
 refine wpAny_bind (wpAny_isInstance hTb isSubtype_tuple_tuple ?_)
 simp only [Bool.not_true,Bool.false_eq_true,if_false]
 refine wpAny_bind (wpAny_tupleItemsOf hoa hda ?_)
 refine wpAny_bind (wpAny_tupleItemsOf hob hdb ?_)
 refine wpAny_bind ?_
 refine wpAny_forIn_list _
  (fun rest r s'=>r.1=none∧s'=s∧(rest=[(.int x1 ta,.int y1 tb),(.ref ba,.ref bb)]∨(rest=[(.ref ba,.ref bb)]∧x1=y1)∨(rest=[]∧x1=y1∧x2=y2)))
  _ ?_ ?_ _ _ ⟨rfl,rfl,.inl rfl⟩
 ·rintro ⟨u,v⟩ rest r s' ⟨hr,rfl,(hz|⟨hz,e1⟩|⟨hz,_⟩)⟩
  ·simp only [List.cons.injEq,Prod.mk.injEq] at hz
   obtain ⟨⟨rfl,rfl⟩,rfl⟩:=hz
   refine wpAny_bind ((intKind prog w).eqBool (isInt_self x1 ta) (isInt_self y1 tb) ?_)
   by_cases hk:x1=y1
   ·subst hk
    rw [decide_eq_true rfl]
    simp only [Bool.not_true,Bool.false_eq_true,if_false]
    exact wpAny_pure ⟨rfl,rfl,.inr (.inl (by simp))⟩
   ·rw [decide_eq_false hk]
    simp only [Bool.not_false,if_true]
    have hf:decide ((x1,x2)=(y1,y2))=false:=by simp[hk]
    rw [hf] at h
    exact wpAny_bind (wpAny_pure (wpAny_pure (wpAny_pure h)))
  ·simp only [List.cons.injEq,Prod.mk.injEq] at hz
   obtain ⟨⟨rfl,rfl⟩,rfl⟩:=hz
   refine wpAny_bind (wpAny_eqBool_tuple hu hia hib ?_)
   by_cases hk:x2=y2
   ·rw [decide_eq_true hk]
    simp only [Bool.not_true,Bool.false_eq_true,if_false]
    exact wpAny_pure ⟨rfl,rfl,.inr (.inr (by simp[e1,hk]))⟩
   ·rw [decide_eq_false hk]
    simp only [Bool.not_false,if_true]
    have hf:decide ((x1,x2)=(y1,y2))=false:=by simp[hk]
    rw [hf] at h
    exact wpAny_bind (wpAny_pure (wpAny_pure (wpAny_pure h)))
  ·cases hz
 ·rintro ⟨r1,r2⟩ s' ⟨hr,rfl,(hz|⟨hz,e1⟩|⟨hz,e1,e2⟩)⟩
  ·cases hz
  ·cases hz
  simp only at hr
  subst hr
  refine wpAny_pure ?_
  rw [decide_eq_true (by rw[e1,e2])] at h
  exact h
theorem std_eqBool {x y:Int×List Int}{a b:Addr}{Q:Bool→Shared→Prop} (hu:A.units+1<cLine) (hx:IsStd prog w s.heap x a) (hy:IsStd prog w s.heap y b) (h:Q (decide (x=y)) s) :
  wpAny (model prog w) A (eqBool (.ref a) (.ref b)) Q E s:=by
 unfold eqBool
 try with_reducible refine wpAny_holding ?_
 show wpAny _ _ (if (Value.ref a==Value.ref b)=true then _ else _) Q E s
 by_cases hab:(Value.ref a==Value.ref b)=true
 ·rw [if_pos hab]
  have e:a=b:=by have:=eq_of_beq hab;injection this
  subst e
  obtain rfl:=hx.inj hy
  exact wpAny_bind (wpAny_rule (wpAny_pure (by simpa using h)))
 ·rw [if_neg hab]
  exact wpAny_bind (wpAny_richCompare_same_room (op:=.Eq) hx.typeIs hy.typeIs F.slot_tuple_eq
   (wpAny_call_entry F.slot_tuple_eq hx.typeIs F.entry_tuple_eq (std_eq_tree hu hx hy ⟨_,rfl,(fun e=>nomatch e),wpAny_truthy_bool h⟩) (F.args_tuple_eq_2 _ _)) (by omega))
theorem quiet_key {n:Nat}{ks:List Int}{a:Addr}{Q:Bool→Shared→Prop} (hk:IsTupleKey (intKind prog w) s.heap ks a) (h:Q true s):wpAny (model prog w) A (eqIsQuiet (n+1) (.ref a)) Q E s:=by
 have hT:=hk.typeIs
 obtain ⟨o,items,m,ho,_,hd,hi⟩:=hk
 unfold eqIsQuiet
 refine wpAny_bind (wpAny_specialOf hT F.slot_tuple_eq.lookup ?_)
 show wpAny _ _ (isInstance (.ref a) (.type "tuple") >>= _) _ _ s
 refine wpAny_bind (wpAny_isInstance hT isSubtype_tuple_tuple ?_)
 simp only [Bool.not_true,Bool.false_eq_true,if_false]
 refine wpAny_bind (wpAny_seqItems ho hd ?_)
 refine wpAny_bind ?_
 show wpAny _ _ (forIn items _ _) _ _ s
 rw [←Array.forIn_toList]
 refine wpAny_forIn_list _ (fun rest r s'=>r.1=none∧s'=s∧∀ v∈rest,carriedByValue v=true) _ ?_ ?_ _ _ ⟨rfl,rfl,hi.byValue⟩
 ·rintro v rest r s' ⟨hr,rfl,hall⟩
  rw [eqIsQuiet_byValue _ (hall v List.mem_cons_self)]
  refine wpAny_bind (wpAny_pure ?_)
  simp only [Bool.not_true,Bool.false_eq_true,if_false]
  exact wpAny_pure ⟨rfl,rfl,fun u hu'=>hall u (List.mem_cons_of_mem _ hu')⟩
 ·rintro ⟨r1,r2⟩ s' ⟨hr,rfl,_⟩
  simp only at hr
  subst hr
  exact wpAny_pure h
theorem std_quiet {k:Int×List Int}{a:Addr}{Q:Bool→Shared→Prop} (hk:IsStd prog w s.heap k a) (h:Q true s):wpAny (model prog w) A (eqIsQuiet 8 (.ref a)) Q E s:=by
 have hT:=hk.typeIs
 obtain ⟨o,t,b,n,ho,_,hd,hi⟩:=hk
 unfold eqIsQuiet
 refine wpAny_bind (wpAny_specialOf hT F.slot_tuple_eq.lookup ?_)
 show wpAny _ _ (isInstance (.ref a) (.type "tuple") >>= _) _ _ s
 refine wpAny_bind (wpAny_isInstance hT isSubtype_tuple_tuple ?_)
 simp only [Bool.not_true,Bool.false_eq_true,if_false]
 refine wpAny_bind (wpAny_seqItems ho hd ?_)
 refine wpAny_bind ?_
 show wpAny _ _ (forIn _ _ _) _ _ s
 rw [←Array.forIn_toList]
 refine wpAny_forIn_list _ (fun rest r s'=>r.1=none∧s'=s∧∀ v∈rest,carriedByValue v=true∨v=.ref b) _ ?_ ?_ _ _ ⟨rfl,rfl,fun v hv=>?_⟩
 ·rintro v rest r s' ⟨hr,rfl,hall⟩
  rcases hall v List.mem_cons_self with hv|rfl
  ·rw [eqIsQuiet_byValue _ hv]
   refine wpAny_bind (wpAny_pure ?_)
   simp only [Bool.not_true,Bool.false_eq_true,if_false]
   exact wpAny_pure ⟨rfl,rfl,fun u hu'=>hall u (List.mem_cons_of_mem _ hu')⟩
  ·refine wpAny_bind (quiet_key hi ?_)
   simp only [Bool.not_true,Bool.false_eq_true,if_false]
   exact wpAny_pure ⟨rfl,rfl,fun u hu'=>hall u (List.mem_cons_of_mem _ hu')⟩
 ·rintro ⟨r1,r2⟩ s' ⟨hr,rfl,_⟩
  simp only at hr
  subst hr
  exact wpAny_pure h
 ·simp at hv
  rcases hv with rfl|rfl
  ·exact .inl rfl
  ·exact .inr rfl
end
noncomputable def stdKind (prog:Program) (w:World):HeapKind prog w (Int×List Int) where
 is := IsStd prog w
 hash:=stdHash prog w
 draws:=fun k=>k.2.length+3
 room:=fun A=>A.units+1<cLine
 inj:=fun hx hy=>hx.inj hy
 keeps:=fun x ho hd hs=>x.keeps ho hd hs
 pyHash:=fun hu hk h=>std_pyHash hu hk h
 eqBool:=fun hu hx hy h=>std_eqBool hu hx hy h
 quiet:=fun hk h=>std_quiet hk h
noncomputable abbrev StdK:=Int×List Int
noncomputable def stdHash0 (k:StdK):Int:=reduceHash (Builtin.Tuple.tupleHashOf [hashInt k.1,reduceHash (Builtin.Tuple.tupleHashOf (k.2.map hashInt))])
noncomputable def entStd (x:StdK×Addr×Value):DictEntry:=⟨stdHash0 x.1,.ref x.2.1,x.2.2⟩
theorem std_room {prog:Program}{w:World}{A:Around} (hu:A.units+2<cLine):(stdKind prog w).room A.in1:=hu
end L2
namespace L2
open PySem PySem.Spec PyProof.Rows
noncomputable def DctAt (a:Addr) (es:List (StdK×Addr×V)) (h:Heap):Prop :=
 es.length≤sizeLine∧(a==sysModules)=false∧∃ xs:List (StdK×Addr×Value),Paired (fun (p:StdK×Addr×V) (q:StdK×Addr×Value)=>p.1=q.1∧p.2.1=q.2.1∧RelV p.2.2 q.2.2) es xs ∧
  ∃ o ds ep,h.get? a=some o∧o.ExactDict∧o.data=.dict ds ep∧ds.toList=xs.map entStd∧(xs.map (·.1)).Nodup
noncomputable abbrev stdD (k:StdK):PyData:=.tuple [.int k.1,.tuple (k.2.map .int)]
noncomputable abbrev dctD (kvs:List (StdK×PyData)):PyData:=.dict (kvs.map fun p=>(stdD p.1,p.2))
noncomputable abbrev fzD (ds:List PyData):PyData:=.dict [(.none,.list ds)]
end L2
namespace L2
open PySem PySem.Spec PyProof.Rows
noncomputable def ExcAt (e C:Addr) (dx:Option Addr) (h:Heap):Prop:=∃ vs sl,h.get? e=some { cls:=.ref C,dict:=dx,data:=.fields vs,slots:=sl }
mutual
inductive DV (K:PySem.W.Frag) (H:Hp):V→PyData→Prop
 | non:DV K H .non .none
 | bl (b:Bool):DV K H (.bl b) (.bool b)
 | int (i:Int):DV K H (.int i) (.int i)
 | lst {a:Addr}{xs:List V}{ds:List PyData}:SqL K H a xs→DVs K H xs ds→DV K H (.ref a) (.list ds)
 | tup {a:Addr}{xs:List V}{ds:List PyData}:SqT K H a xs→DVs K H xs ds→DV K H (.ref a) (.tuple ds)
 | dct {a:Addr}{es:List (StdK×Addr×V)}{kvs:List (StdK×PyData)}:H a=some (.ext (DctAt a es))→DVs K H (es.map fun p=>V.ref p.2.1) (kvs.map fun p=>stdD p.1)→DVs K H (es.map fun p=>p.2.2) (kvs.map fun p=>p.2)→es.map (fun p=>p.1)=kvs.map (fun p=>p.1)→DV K H (.ref a) (dctD kvs)
 | fz {v:V}{ds:List PyData}:DV K H v (.list ds)→DV K H v (fzD ds)
inductive DVs (K:PySem.W.Frag) (H:Hp):List V→List PyData→Prop
 | nil:DVs K H [] []
 | cons {x:V}{xs:List V}{d:PyData}{ds:List PyData}:DV K H x d→DVs K H xs ds→DVs K H (x::xs) (d::ds)
end
theorem DV.tupI {K:PySem.W.Frag}{H:Hp}{v:V}{ds:List PyData} (h:DV K H v (.tuple ds)):∃ a xs,v=.ref a∧SqT K H a xs∧DVs K H xs ds:=by
 cases h with
 | tup h q=>exact⟨_,_,rfl,h,q⟩
theorem DV.lstI {K:PySem.W.Frag}{H:Hp}{v:V}{ds:List PyData} (h:DV K H v (.list ds)):∃ a xs,v=.ref a∧SqL K H a xs∧DVs K H xs ds:=by
 cases h with
 | lst h q=>exact⟨_,_,rfl,h,q⟩
theorem DV.intI {K:PySem.W.Frag}{H:Hp}{v:V}{i:Int} (h:DV K H v (.int i)):v=.int i:=by
 cases h;rfl
theorem DVs.twoI {K:PySem.W.Frag}{H:Hp}{vs:List V}{d e:PyData} (h:DVs K H vs [d,e]):∃ x y,vs=[x,y]∧DV K H x d∧DV K H y e:=by
 cases h with
 | cons h q =>
  cases q with
  | cons h2 q=>cases q;exact⟨_,_,rfl,h,h2⟩
section
variable {X:Cx}{pins:List (Addr×Obj)}{σ:St}{H:Hp}{s:Shared}
mutual
theorem DV.reads (I:Inv X pins σ H s):∀ {x:V}{d:PyData}{u:Value},DV X.K H x d→RelV x u→d.canLay0=true→∃ as,Reads s.heap u d as
 | _,_,_,.non,r,_=>by cases (show _=Value.none from r);exact⟨_,.none⟩
 | _,_,_,.bl b,r,_=>by cases (show _=Value.bool b from r);exact⟨_,.bool b⟩
 | _,_,_,.int i,r,_=>by obtain⟨t,rfl⟩:=r;exact⟨_,.int i t⟩
 | _,_,_,@DV.lst _ _ a xs ds h q,r,l=>by
  cases (show _=Value.ref a from r)
  obtain ⟨its,rv,⟨o,n,e,c,_,hd⟩,_⟩:=I.list h
  obtain ⟨as,ra⟩:=DVs.reads I q rv (by simpa only [PyData.canLay0] using l)
  exact ⟨_,.list e c hd (by simpa using ra)⟩
 | _,_,_,@DV.tup _ _ a xs ds h q,r,l=>by
  cases (show _=Value.ref a from r)
  obtain ⟨its,rv,⟨o,e,c,n,hd⟩,_⟩:=I.tuple h
  obtain ⟨as,ra⟩:=DVs.reads I q rv (by simpa only [PyData.canLay0] using l)
  exact ⟨_,.tuple e c hd (by simpa using ra)⟩
 | _,_,_,.dct _ _ _ _,_,l=>by simp[PyData.canLay0] at l
 | _,_,_,.fz _,_,l=>by simp[PyData.canLay0] at l
theorem DVs.reads (I:Inv X pins σ H s):∀ {xs:List V}{ds:List PyData}{us:List Value},DVs X.K H xs ds→Vals xs us→PyData.canLayAll0 ds=true→∃ as,ReadsAll s.heap us ds as
 | _,_,_,.nil,.nil,_=>⟨_,.nil⟩
 | _,_,_,.cons h q,.cons r t,l=>by
  simp only [PyData.canLayAll0,Bool.and_eq_true] at l
  obtain ⟨as,ra⟩:=DV.reads I h r l.1
  obtain ⟨bs,rb⟩:=DVs.reads I q t l.2
  exact ⟨_,.cons ra rb⟩
end
theorem lay0_ints:∀ ns:List Int,PyData.canLayAll0 (ns.map PyData.int)=true
 | []=>rfl
 | n::ns=>by simp only [List.map_cons,PyData.canLayAll0,PyData.canLay0,Bool.true_and,lay0_ints ns]
noncomputable abbrev shp (d:PyData):Prop:=SeqAt.shaped d=true
noncomputable def rEqD (K:PySem.W.Frag):R2:=fun x y H Q=>∃ d e,DV K H x d∧DV K H y e∧shp d∧shp e∧Q (.bl (PyData.eqv d e)) H
theorem op_eqD (hu:X.A.units+64<cLine):OpR X (compareOp .Eq) (rEqD X.K):=by
 intro pins s σ H x y v u Q I r1 r2 h
 obtain ⟨d,e,h1,h2,s1,s2,q⟩:=h
 obtain ⟨as,ra⟩:=h1.reads I r1 (SeqAt.canLay_of_shaped s1)
 obtain ⟨bs,rb⟩:=h2.reads I r2 (SeqAt.canLay_of_shaped s2)
 exact eq_dataH ra rb s1 s2 hu ⟨.bl _,H,I,rfl,q⟩
noncomputable def rCatA (K:PySem.W.Frag):R2:=fun x y H Q=>∃ a b xs ys,x=.ref a∧y=.ref b∧SqT K H a xs∧SqT K H b ys∧xs.length+ys.length≤sizeLine ∧
 (xs=[]→Q (.ref b) H)∧(xs≠[]→ys=[]→Q (.ref a) H)∧(xs≠[]→ys≠[]→∀ p,H p=none→Q (.ref p) (upd H p (.tup (xs++ys))))
theorem op_catA:OpR X (binaryOp .Add) (rCatA X.K):=by
 intro pins s σ H x y v u Q I r1 r2 h
 obtain ⟨a,b,xs,ys,rfl,rfl,ha,hb,hz,q0,q1,q2⟩:=h
 by_cases hx:xs=[]
 ·subst hx
  cases (show v=Value.ref a from r1)
  cases (show u=Value.ref b from r2)
  obtain ⟨its,v1,p1,_⟩:=I.tuple ha
  obtain ⟨its2,v2,p2,_⟩:=I.tuple hb
  cases v1
  obtain ⟨⟨cls,dd,data,sl⟩,ho,hc,n,hd⟩:=id p1
  obtain ⟨⟨cls2,dd2,data2,sl2⟩,ho2,hc2,n2,hd2⟩:=id p2
  simp only at hc hd hc2 hd2
  subst hc hd hc2 hd2
  exact concat_meets ⟨_,ho,rfl⟩ ⟨_,ho2,rfl⟩ noFill_tuple_add seq_tuple_add PySem.F.slot_tuple_add PySem.F.entry_tuple_add (PySem.F.args_tuple_add_2 _ _)
   (tuple_addW0 a b #[] its2.toArray n n2 dd dd2 sl sl2 rfl) ⟨ho,ho2,.ref b,H,I,rfl,q0 rfl⟩
 ·exact op_catT pins s σ H _ _ v u Q I r1 r2 ⟨a,b,xs,ys,rfl,rfl,ha,hb,hx,hz,q1 hx,q2 hx⟩
end
end L2
namespace L2
open PySem PySem.Spec PyProof.Rows
noncomputable def SeqOf:Bool→Heap→Addr→Array Value→Prop
 | false,h,a,xs=>h.IsList a xs
 | true,h,a,xs=>h.IsTuple a xs
noncomputable def SeqIt:Bool→Heap→Addr→Addr→Nat→Prop
 | false,h,it,a,i=>h.IsListIter it a i
 | true,h,it,a,i=>h.IsTupleIter it a i
theorem SeqOf.at {b:Bool}{h h':Heap}{a:Addr}{xs:Array Value} (p:SeqOf b h a xs) (k:∀ o,h.get? a=some o→h'.get? a=some o):SeqOf b h' a xs:=by
 cases b with
 | false=>obtain⟨o,e,r⟩:=p;exact⟨o,k o e,r⟩
 | true=>obtain⟨o,e,r⟩:=p;exact⟨o,k o e,r⟩
theorem SeqIt.at {b:Bool}{h h':Heap}{it a:Addr}{i:Nat} (p:SeqIt b h it a i) (k:∀ o,h.get? it=some o→h'.get? it=some o):SeqIt b h' it a i:=by
 cases b with
 | false=>obtain⟨o,e,r⟩:=p;exact⟨o,k o e,r⟩
 | true=>obtain⟨o,e,r⟩:=p;exact⟨o,k o e,r⟩
theorem SeqOf.obj {b:Bool}{h:Heap}{a:Addr}{xs:Array Value} (p:SeqOf b h a xs):∃ o n,h.get? a=some o∧o.data=.seq xs n:=by
 cases b with
 | false=>obtain⟨o,e,_,n,d⟩:=p;exact⟨o,n,e,d⟩
 | true=>obtain⟨o,e,_,n,d⟩:=p;exact⟨o,n,e,d⟩
theorem SeqIt.obj {b:Bool}{h:Heap}{it a:Addr}{i:Nat} (p:SeqIt b h it a i):∃ o,h.get? it=some o∧o.data=.fields #[.ref a,.int i 0]:=by
 cases b with
 | false=>obtain⟨o,e,_,d⟩:=p;exact⟨o,e,d⟩
 | true=>obtain⟨o,e,_,d⟩:=p;exact⟨o,e,d⟩
section
variable {prog:Program}{w:World}{A:Around}{E:Value→Shared→Prop}{s:Shared}
theorem next_tup {it t:Addr}{i:Nat}{items:Array Value}{x:Value}{Q:Value→Shared→Prop} (hit:s.heap.IsTupleIter it t i) (ht:s.heap.IsTuple t items) (hx:items[i]? = some x)
  (hQ:∀ h',h'.IsTupleIter it t (i+1)→Heap.SameBut it s.heap h'→Q x { s with heap:=h' }):wpAny (model prog w) A (Builtin.SmallTypes.nextOf (.ref it)) Q E s:=by
 obtain ⟨o,ho,hc,hd⟩:=id hit
 obtain ⟨ol,hol,_,nl,hdl⟩:=ht
 unfold Builtin.SmallTypes.nextOf
 refine wpAny_bind (wpAny_callSpecial?_slot (name:=Str.ofString "__next__") hit.typeIs F.slot_tuple_iterator_next (wpAny_call_entry F.slot_tuple_iterator_next hit.typeIs F.entry_tuple_iterator_next ?_ (F.args_tuple_iterator_next_1 _)))
 show wpAny _ _ (field (.ref it) 0 >>= _) _ _ s
 refine wpAny_bind (wpAny_field ho hd (x:=.ref t) rfl ?_)
 show wpAny _ _ (if (Value.ref t==Value.none)=true then _ else _) _ _ s
 rw [if_neg (show ¬((Value.ref t==Value.none)=true) from Bool.false_ne_true)]
 show wpAny _ _ (field (.ref it) 1 >>= _) _ _ s
 refine wpAny_bind (wpAny_field ho hd (x:=.int i 0) rfl ?_)
 show wpAny _ _ (seqItems? (.ref t) >>= _) _ _ s
 refine wpAny_bind (wpAny_seqItems hol hdl ?_)
 simp only [Int.toNat_natCast,hx]
 refine wpAny_bind (wpAny_setField ho hd (by simp) (wpAny_pure ⟨x,rfl,wpAny_pure (hQ _ ?_ (Heap.SameBut.update ..))⟩))
 refine ⟨_,Heap.get?_update_self _ ho (Obj.isFreed_of_fields (Obj.data_mapFields hd _)),(Obj.cls_mapFields ..).trans hc,?_⟩
 rw [Obj.data_mapFields hd]
 simp [rawInt]
theorem next_tupEnd {it t:Addr}{i:Nat}{items:Array Value}{Q:Value→Shared→Prop} (hh:A.handled=none) (hit:s.heap.IsTupleIter it t i) (ht:s.heap.IsTuple t items) (hx:items[i]? = none)
  (hE:∀ h' e,Heap.ExtBut it s.heap h'→(∃ o,h'.get? e=some o∧o.cls=.type "StopIteration")→E (.ref e) { s with heap:=h' }):wpAny (model prog w) A (Builtin.SmallTypes.nextOf (.ref it)) Q E s:=by
 obtain ⟨o,ho,hc,hd⟩:=id hit
 obtain ⟨ol,hol,_,nl,hdl⟩:=ht
 unfold Builtin.SmallTypes.nextOf
 refine wpAny_bind (wpAny_callSpecial?_slot (name:=Str.ofString "__next__") hit.typeIs F.slot_tuple_iterator_next (wpAny_call_entry F.slot_tuple_iterator_next hit.typeIs F.entry_tuple_iterator_next ?_ (F.args_tuple_iterator_next_1 _)))
 show wpAny _ _ (field (.ref it) 0 >>= _) _ _ s
 refine wpAny_bind (wpAny_field ho hd (x:=.ref t) rfl ?_)
 show wpAny _ _ (if (Value.ref t==Value.none)=true then _ else _) _ _ s
 rw [if_neg (show ¬((Value.ref t==Value.none)=true) from Bool.false_ne_true)]
 show wpAny _ _ (field (.ref it) 1 >>= _) _ _ s
 refine wpAny_bind (wpAny_field ho hd (x:=.int i 0) rfl ?_)
 show wpAny _ _ (seqItems? (.ref t) >>= _) _ _ s
 refine wpAny_bind (wpAny_seqItems hol hdl ?_)
 simp only [Int.toNat_natCast,hx]
 refine wpAny_bind (wpAny_rule (wpAny_bind (wpAny_setField ho hd (by simp) ?_)))
 show wpAny _ _ (newExc (.type "StopIteration") [] >>= _) _ _ _
 refine wpAny_bind ?_
 simp only [newExc,newTuple]
 refine wpAny_bind (wpAny_newObj_type ?_ (by size_fits))
 refine wpAny_bind (m:=firstArgMember _ _) (wpAny_of_eq (a:=Value.none) (by first|rfl|(simp only [firstArgMember];rfl)) ?_)
 refine wpAny_newObj_type ?_ (by size_fits)
 simp only [raiseNew]
 refine wpAny_bind (wpAny_handled ?_)
 first|rw[show A.in1.handled=none from hh]|rw[hh]
 exact wpAny_bind (wpAny_pure (wpAny_throw (hE _ _ (((Heap.SameBut.update ..).extBut.push _).push _) ⟨_,Heap.get?_push_size _ rfl,rfl⟩)))
theorem next_seq {b:Bool}{it a:Addr}{i:Nat}{items:Array Value}{x:Value}{Q:Value→Shared→Prop} (hit:SeqIt b s.heap it a i) (ha:SeqOf b s.heap a items) (hx:items[i]? = some x)
  (hQ:∀ h',SeqIt b h' it a (i+1)→Heap.SameBut it s.heap h'→Q x { s with heap:=h' }):wpAny (model prog w) A (Builtin.SmallTypes.nextOf (.ref it)) Q E s:=by
 cases b with
 | false=>exact wpAny_nextOf_list_item hit ha hx hQ
 | true=>exact next_tup hit ha hx hQ
theorem next_seqEnd {b:Bool}{it a:Addr}{i:Nat}{items:Array Value}{Q:Value→Shared→Prop} (hh:A.handled=none) (hit:SeqIt b s.heap it a i) (ha:SeqOf b s.heap a items) (hx:items[i]? = none)
  (hE:∀ h' e,Heap.ExtBut it s.heap h'→(∃ o,h'.get? e=some o∧o.cls=.type "StopIteration")→E (.ref e) { s with heap:=h' }):wpAny (model prog w) A (Builtin.SmallTypes.nextOf (.ref it)) Q E s:=by
 cases b with
 | false=>exact wpAny_nextOf_list_end hh hit ha hx hE
 | true=>exact next_tupEnd hh hit ha hx hE
end
theorem draws_seq {prog:Program}{w:World}{A:Around} (b:Bool) (hh:A.handled=none) (it a:Addr) (hne:a≠it) (items:Array Value) :
  Draws prog w A it [it,a] items.size (fun i v=>items[i]? = some v) (fun i h=>SeqIt b h it a i∧SeqOf b h a items) where
 live:=fun _ _ st=>by obtain⟨o,e,_⟩:=st.1.obj;exact⟨o,e⟩
 frame:=fun _ _ _ st hk=>⟨st.1.at fun o e=>hk it (by simp) o e,st.2.at fun o e=>hk a (by simp) o e⟩
 item:=fun i s Q E hi st hQ=>next_seq st.1 st.2 (x:=items[i]) (by simp[hi]) fun h' st' sb=>hQ _ h' s.toks (by simp[hi]) ⟨st',st.2.at fun o e=>sb.extBut a o hne e⟩ sb
 done:=fun s Q E st hE=>next_seqEnd hh st.1 st.2 (by simp) hE
noncomputable def SqB (K:PySem.W.Frag) (H:Hp):Bool→Addr→List V→Prop
 | false,a,xs=>SqL K H a xs
 | true,a,xs=>SqT K H a xs
section
variable {X:Cx}{pins:List (Addr×Obj)}{σ:St}{H:Hp}{s:Shared}
theorem Inv.seq (I:Inv X pins σ H s) {b:Bool}{a:Addr}{xs:List V} (h:SqB X.K H b a xs):∃ its:List Value,Vals xs its∧SeqOf b s.heap a its.toArray:=by
 cases b with
 | false=>obtain⟨its,r,p,_⟩:=I.list h;exact⟨its,r,p.isList⟩
 | true=>obtain⟨its,r,p,_⟩:=I.tuple h;exact⟨its,r,p⟩
theorem Inv.seq_inj (I:Inv X pins σ H s) {b:Bool}{a:Addr}{xs ys:List V} (h:SqB X.K H b a xs) (h':SqB X.K H b a ys):xs=ys:=by
 cases b with
 | false=>exact I.list_inj h h'
 | true=>exact I.tuple_inj h h'
theorem Inv.turnedN {fp:List Addr}{h':Heap}{t':Nat} (I:Inv X pins σ H s) (hf:∀ b∈fp,FpOk X pins H b) (k:∀ b o,b ∉ fp→s.heap.get? b=some o→h'.get? b=some o):Inv X pins σ H { s with heap:=h',toks:=t' }:=by
 have nfp:∀ b u,H b=some u→b ∉ fp:=fun b u e z=>by rw[(hf b z).1] at e;cases e
 refine I.step (g':=s.gens) (d':=s.drawn) (ch:=fp) (fun b hb=>?_) (fun b o _ _ hc e _=>k b o hc e) (fun b o _ _ hc e _=>⟨o.slots,k b o hc e⟩) (fun _ _ _ _ n=>n) (fun b o hc e=>⟨o,k b o hc e⟩) (fun _ _ e=>e) (fun _ _ _ e=>e)
  (fun _ _ e=>e) (fun m hm=>?_) (fun b u e=>?_) I.bare
 ·obtain ⟨f0,f1,f2,f3,f4,f5⟩:=hf b hb
  exact ⟨f3,f1,f4,f5⟩
 ·obtain ⟨o,es,ep,ho,r⟩:=hm
  exact ⟨o,es,ep,k _ o (fun z=>(hf _ z).2.1 rfl) ho,r⟩
 ·refine (I.hok b u e).stay (fun c v hc q=>k c v ?_ q) (fun _ q=>q) fun _ _ _ q=>q
  rcases hc with z|z
  ·rw [z];exact nfp b u e
  ·exact nfp c _ z
theorem Inv.track {T:Addr}{o:HO} (I:Inv X pins σ H s) (hf:FpOk X pins H T) (new:ObjOk X.prog X.w (upd H T o) s.heap T o):Inv X pins σ (upd H T o) s:=by
 obtain ⟨f0,f1,f2,f3,f4,f5⟩:=hf
 have nT:∀ b u,H b=some u→b≠T:=fun b u e z=>by rw[z,f0] at e;cases e
 have q:=I.step (h':=s.heap) (H':=upd H T o) (g':=s.gens) (d':=s.drawn) (t':=s.toks) (ch:=[T]) (fun b hb=>by
   have e:b=T:=by simpa using hb
   rw [e];exact⟨f3,f1,f4,f5⟩) (fun b o _ _ _ e _=>e) (fun b o _ _ _ e _=>⟨o.slots,e⟩) (fun b o' hc _ n=>by rw[upd_ne (fun z=>hc (by simp[z]))];exact n) (fun b o' _ e=>⟨o',e⟩)
  (fun b xs e=>by rw[upd_ne (nT b _ e)];exact e) (fun b o' u e=>by rw[upd_ne (nT b _ e)];exact e) (fun b ps e=>by rw[upd_ne (nT b _ e)];exact e) (fun m hm=>hm) (fun b u e=>?_) I.bare
 ·exact q
 ·by_cases hb:b=T
  ·subst hb;rw[upd_same] at e;cases e;exact new
  ·rw [upd_ne hb] at e
   exact (I.hok b u e).stay (fun _ _ _ q=>q) (fun c q=>by rw[upd_ne (nT c _ q)];exact q) fun c xs _ q=>by rw[upd_ne (nT c _ q)];exact q
end
noncomputable def Ite (K:PySem.W.Frag) (b:Bool) (a:Addr):It :=
 ⟨fun i H=>∃ xs x,SqB K H b a xs∧xs[i]? = some x,fun i H v H'=>∃ p x,v=.ref p∧H p=none∧H'=upd H p (.tup [.int i,x])∧∀ xs,SqB K H b a xs→xs[i]? = some x,fun i H=>∃ xs,SqB K H b a xs∧xs.length=i⟩
theorem turn_enum {P:Program}{w:World}{K:PySem.W.Frag}{es:List Expr}{kk:Nat}{pos:Pos} (b:Bool) (a it e:Addr) (hei:e≠it) :
  Turn P w K (.Tuple es kk pos) (Ite K b a) [e,it] e (fun i h=>(∃ old,IsEnum h e it i old)∧SeqIt b h it a i) where
 mem:=by simp
 obj := fun i h st c hc=>by
  obtain ⟨⟨old,he⟩,st⟩:=st
  rcases List.mem_cons.mp hc with rfl|hc
  ·exact ⟨_,he,fun v z=>by
    have z':Data.fields _=Data.cell v:=z
    cases z'⟩
  ·have e':c=it:=by simpa using hc
   subst e'
   obtain ⟨o,ho,hd⟩:=st.obj
   exact ⟨o,ho,fun v z=>by rw[hd] at z;cases z⟩
 keep:=fun i h h' st k=>by
  obtain ⟨⟨old,he⟩,st⟩:=st
  exact ⟨⟨old,k e (by simp) _ he⟩,st.at fun o q=>k it (by simp) o q⟩
 item := by
  intro X hP hw hK hc i pins s σ H E I hf st hg
  subst hP hw hK
  obtain ⟨xs,x,hq,hx⟩:=hg
  obtain ⟨⟨old,he⟩,st⟩:=st
  obtain ⟨its,rv,ha⟩:=I.seq hq
  obtain ⟨u,hu,ru⟩:=rv.get hx
  obtain ⟨oa,na,ea,da⟩:=ha.obj
  obtain ⟨oi,ei,di⟩:=st.obj
  have hai:a≠it:=fun z=>by rw[z,ei] at ea;cases ea;rw[di] at da;cases da
  have hea:e≠a:=fun z=>by rw[←z,he] at ea;cases ea;cases da
  have hlt:i<its.toArray.size:=by
   have:=(List.getElem?_eq_some_iff.mp hu).1
   simpa using this
  refine wpAny_pyNext_enum_itemD (draws_seq (A:=X.A.in1) b (I.ok.hd hc) it a hai its.toArray) he ⟨st,ha⟩ hlt hei (by simp[hei,hea]) fun y h1 tk hy hout st1 hT hz hk=>?_
  have ey:y=u:=by
   have:its[i]? = some y:=by simpa using hy
   rw [hu] at this
   exact (Option.some.inj this).symm
  subst ey
  refine ⟨_,rfl,wpAny_letOwnedTupleGo_enum hout fun h2 he2 hs2=>?_⟩
  have elt:e<s.heap.objs.size:=Heap.lt_size he
  have ilt:it<s.heap.objs.size:=Heap.lt_size ei
  have I2:Inv X pins σ H { s with heap:=h2,toks:=tk+1 }:=I.turnedN hf fun c o hc q=>hs2.extBut c o (fun z=>hc (by simp[z])) (hk c o (fun z=>hc (by simp[z])) (fun z=>hc (by simp[z])) q)
  have g2:h2.get? s.heap.objs.size=some { cls:=.type "tuple",data:=.seq #[.int i tk,y] }:=hs2.extBut _ _ (Nat.ne_of_gt elt) hT
  have hn:H s.heap.objs.size=none:=I.hok.fresh (Nat.le_refl _)
  refine ⟨.ref s.heap.objs.size,upd H s.heap.objs.size (.tup [.int i,x]),I2.track (T:=s.heap.objs.size) (o:=.tup [.int i,x]) (I.fpOk (Nat.le_refl _) hn) ?_,rfl,?_,⟨⟨y,he2⟩,?_⟩,fun c hc=>?_⟩
  ·exact ⟨by show 2≤sizeLine;decide,[.int i tk,y],.cons ⟨tk,rfl⟩ (.cons ru .nil),_,g2,rfl,_,rfl⟩
  ·exact ⟨_,x,rfl,hn,rfl,fun ys hy=>by rw[I.seq_inj hy hq];exact hx⟩
  ·exact st1.1.at fun o q=>hs2.extBut it o (Ne.symm hei) q
  ·have:c<s.heap.objs.size:=by
    rcases List.mem_cons.mp hc with rfl|hc
    ·exact elt
    ·have e':c=it:=by simpa using hc
     rw [e'];exact ilt
   rw [upd_ne (Nat.ne_of_lt this)]
   exact (hf c hc).1
 done:=by
  intro X hP hw hK hc i pins s σ H E I hf st hg
  subst hP hw hK
  obtain ⟨xs,hq,hx⟩:=hg
  obtain ⟨⟨old,he⟩,st⟩:=st
  obtain ⟨its,rv,ha⟩:=I.seq hq
  obtain ⟨oa,na,ea,da⟩:=ha.obj
  obtain ⟨oi,ei,di⟩:=st.obj
  have hai:a≠it:=fun z=>by rw[z,ei] at ea;cases ea;rw[di] at da;cases da
  have hl:=rv.length
  have ez:its.toArray.size=i:=by simp;omega
  refine wpAny_pyNext_enum_endD (draws_seq (A:=X.A.in1) b (I.ok.hd hc) it a hai its.toArray) he (by rw[ez];exact⟨st,ha⟩) fun h' hx'=>⟨rfl,?_⟩
  exact I.turnedN (t':=s.toks) hf fun c o hc q=>hx' c o (fun z=>hc (by simp[z])) q
 self:=fun A i s Q E st h=>by
  obtain ⟨⟨old,he⟩,st⟩:=st
  exact wpAny_pyIter_enum he h
end L2
namespace L2
open PySem PySem.Spec PyProof.Rows
noncomputable abbrev itObj (b:Bool) (a:Addr):Obj:={ cls:=.type (if b then "tuple_iterator" else "list_iterator"),data:=.fields #[.ref a,.int 0 0] }
theorem itObj_at {b:Bool}{h:Heap}{it a:Addr} (e:h.get? it=some (itObj b a)):SeqIt b h it a 0:=by
 cases b with
 | false=>exact⟨_,e,rfl,rfl⟩
 | true=>exact⟨_,e,rfl,rfl⟩
theorem iter_seqE {prog:Program}{w:World}{A:Around}{E:Value→Shared→Prop}{s:Shared}{b:Bool}{a:Addr}{items:Array Value}{Q:Value→Shared→Prop} (ha:SeqOf b s.heap a items)
  (hQ:Q (.ref s.heap.objs.size) { s with heap:=s.heap.push (itObj b a) }):wpAny (model prog w) A (pyIter (.ref a)) Q E s:=by
 cases b with
 | false=>exact wpAny_pyIter_list ha hQ
 | true=>exact wpAny_pyIter_tuple ha hQ
open AutoSeq1 (wpAny_loadPart') in
theorem enum_newT (l:Addr) (items:Array Value) (n:Nat) (dct:Option Addr) (sl:Array (Option Value)) :
  Meets (Builtin.«enumerate.__new__» ⟨[.type "enumerate",.ref l],[]⟩) (fun _ R s=>s.heap.get? l=some { cls:=.type "tuple",dict:=dct,data:=.seq items n,slots:=sl } ∧
   R (.ok (.ret (.ref (s.heap.push (itObj true l)).objs.size))) { s with heap:=(s.heap.push (itObj true l)).push { cls:=.type "enumerate",data:=.fields #[.none,.bool false,.ref s.heap.objs.size,rawInt 0,.none,.none] } }) :=
 .of_wp fun prog w A R s h=>by
  obtain ⟨hp,g,d,tk,os⟩:=s
  obtain ⟨hl,h⟩:=h
  have hsub:=sub_enumerate
  have hL:SeqOf true (Shared.heap ⟨hp,g,d,tk,os⟩) l items:=⟨_,hl,rfl,n,rfl⟩
  wp_walk using wpAny_loadPart' hl
  refine wpAny_stack_any fun st=>wpAny_pure ?_
  split
  ·rename_i c _ _ _ _ _
   cases (c==Value.type "enumerate") <;> (wp_walk using wpAny_loadPart' hl,iter_seqE hL) <;> exact⟨_,rfl,h⟩
  ·wp_walk using wpAny_loadPart' hl,iter_seqE hL
   exact ⟨_,rfl,h⟩
section
variable {prog:Program}{w:World}{A:Around}{E:Value→Shared→Prop}{s:Shared}
theorem enum_call {b:Bool}{l:Addr}{items:Array Value}{Q:Value→Shared→Prop} (hL:SeqOf b s.heap l items)
  (h : ∀ h',IsEnum h' (s.heap.objs.size+1) s.heap.objs.size 0 .none→SeqIt b h' s.heap.objs.size l 0→h'.objs.size=s.heap.objs.size+2→(∀ c o,s.heap.get? c=some o→h'.get? c=some o)→Q (.ref (s.heap.objs.size+1)) { s with heap:=h' }) :
  wpAny (model prog w) A (call (.type "enumerate") [.ref l]) Q E s:=by
 cases b with
 | false=>exact call_enumerate_list hL h
 | true =>
  obtain ⟨⟨c,dct,dt,sl⟩,hl,hc,n,hd⟩:=hL
  replace hc:c=.type "tuple" := hc
  replace hd:dt=.seq items n:=hd
  subst hc hd
  refine callType_new F.called_enumerate (by decide) (F.typeCall_enumerate_1 _) (F.newCall_enumerate_1 _) (fun obj=>F.args_object_init_2 obj _) F.entry_enumerate_new (enum_newT l items n dct sl) ⟨hl,?_⟩
  have hz:(s.heap.push (itObj true l)).objs.size=s.heap.objs.size+1:=Heap.size_push ..
  show _∧_
  rw [hz]
  have he:IsEnum ((s.heap.push (itObj true l)).push { cls:=.type "enumerate",data:=.fields #[.none,.bool false,.ref s.heap.objs.size,rawInt 0,.none,.none] }) (s.heap.objs.size+1) s.heap.objs.size 0 .none:=by
   have q:=Heap.get?_push_size (s.heap.push (itObj true l)) (o:={ cls:=.type "enumerate",data:=.fields #[.none,.bool false,.ref s.heap.objs.size,rawInt 0,.none,.none] }) rfl
   rw [hz] at q
   exact q
  exact ⟨⟨_,he,rfl⟩,h _ he (itObj_at (Heap.get?_push_of_some _ (Heap.get?_push_size _ rfl))) (by rw[Heap.size_push,hz]) fun c o x=>Heap.get?_push_of_some _ (Heap.get?_push_of_some _ x)⟩
end
section
variable {X:Cx}
noncomputable def iEnum (K:PySem.W.Frag) (b:Bool) (ta:TA):TI:=fun σ H R=>ta σ H fun vs H1=>∃ a xs,vs=[.ref a]∧SqB K H1 b a xs∧R (Ite K b a) H1
theorem pi_enum (b:Bool) {es:List Expr}{kk:Nat}{tpos:Pos}{a:Expr}{ta:TA}{p pos:Pos} (hg:Gl X "enumerate") (hm:X.mg "enumerate" = none) (hbt:bootBuiltins "enumerate" = some (.type "enumerate")) (ha:PA X [a] ta) (hs:starEach [a] X.env=[(false,eval a X.env)]:=by rfl) :
  PI X (.Tuple es kk tpos) (.Call (.Name "enumerate" p) [a] [] pos) (iEnum X.K b ta):=by
 intro pins s σ H R I h
 refine Call_ (ld_blt I hg hm hbt (PyProof.Rows.callWith_type1 (thn (ha pos pins s σ H _ I h) fun us s1 ⟨vs,H1,I1,r1,q1⟩=>?_) hs rfl))
 obtain ⟨l,xs,rfl,hq,q⟩:=q1
 obtain ⟨u,rfl,ru⟩:=vals1 r1
 cases (show u=Value.ref l from ru)
 obtain ⟨its,rv,hL⟩:=I1.seq hq
 refine enum_call hL fun h' he hit hz hk=>wpAny_pyIter_enum he ?_
 have I2:Inv X pins σ H1 { s1 with heap:=h' }:=I1.kept (t':=s1.toks) hk
 refine ⟨s1.heap.objs.size+1,[s1.heap.objs.size+1,s1.heap.objs.size],_,_,H1,rfl,I2,turn_enum b l s1.heap.objs.size (s1.heap.objs.size+1) (Nat.ne_of_gt (Nat.lt_succ_self _)),⟨⟨_,he⟩,hit⟩,fun c hc=>?_,q⟩
 rcases List.mem_cons.mp hc with rfl|hc
 ·exact I1.fpOk (Nat.le_succ _) (I1.hok.fresh (Nat.le_succ _))
 ·have e:c=s1.heap.objs.size:=by simpa using hc
  rw [e]
  exact I1.fpOk (Nat.le_refl _) (I1.hok.fresh (Nat.le_refl _))
end
section
variable {prog:Program}{w:World}{A:Around}{E:Value→Shared→Prop}{s:Shared}
end
end L2
namespace L2
open PySem PySem.Spec PyProof.Rows
section
variable {X:Cx}
end
end L2
namespace L2
open PySem PySem.Spec PyProof.Rows
noncomputable def SnL (K:PySem.W.Frag) (N:Addr→Prop) (H:Hp) (a:Addr) (xs:List V):Prop :=
 (Rd H a (.lst xs)∧¬N a)∨∃ (o:Obj) (its:Array Value) (n:Nat),K.lookup a=some o∧o.cls=.type "list" ∧ o.dict=none∧o.data=.seq its n∧its.size≤sizeLine∧Vals xs its.toList
noncomputable def SnT (K:PySem.W.Frag) (N:Addr→Prop) (H:Hp) (a:Addr) (xs:List V):Prop :=
 (Rd H a (.tup xs)∧¬N a)∨∃ (o:Obj) (its:Array Value) (n:Nat),K.lookup a=some o∧o.cls=.type "tuple" ∧ o.data=.seq its n∧its.size≤sizeLine∧Vals xs its.toList
noncomputable def Keep (N:Addr→Prop) (H H':Hp):Prop:=∀ b o,¬N b→H b=some o→H' b=some o
theorem Keep.refl {N:Addr→Prop}{H:Hp}:Keep N H H:=fun _ _ _ e=>e
theorem Keep.trans {N:Addr→Prop}{H H1 H2:Hp} (a:Keep N H H1) (b:Keep N H1 H2):Keep N H H2:=fun c o n e=>b c o n (a c o n e)
theorem Keep.new {N:Addr→Prop}{H:Hp}{p:Addr}{o:HO} (h:H p=none):Keep N H (upd H p o):=fun b u _ e=>by rw[upd_ne (ne_of_none e h)];exact e
theorem Keep.own {N:Addr→Prop}{H:Hp}{p:Addr}{o:HO} (h:N p):Keep N H (upd H p o):=fun b u n e=>by
 have q:b≠p:=fun z=>n (by rw[z];exact h)
 rw [upd_ne q]
 exact e
theorem Keep.mono {N M:Addr→Prop}{H H':Hp} (a:Keep N H H') (h:∀ b,N b→M b):Keep M H H':=fun b o n e=>a b o (fun z=>n (h b z)) e
theorem Keep.same {N:Addr→Prop}{H H':Hp} (a:Same H H'):Keep N H H':=fun b o _ e=>a b o e
noncomputable abbrev N0:Addr→Prop:=fun _=>False
noncomputable abbrev N1 (d:Addr):Addr→Prop:=fun b=>b=d
theorem Keep.none {H H':Hp} (a:Keep N0 H H'):Same H H':=fun b o e=>a b o (fun z=>z) e
section
variable {K:PySem.W.Frag}{N M:Addr→Prop}{H H':Hp}{a:Addr}{xs:List V}
theorem SnL.of (h:H a=some (.lst xs)) (n:¬N a):SnL K N H a xs:=.inl ⟨.inl h,n⟩
theorem SnT.of (h:H a=some (.tup xs)) (n:¬N a):SnT K N H a xs:=.inl ⟨.inl h,n⟩
theorem SnL.sq (h:SnL K N H a xs):SqL K H a xs:=by
 rcases h with ⟨h,_⟩|h
 ·exact .inl h
 ·exact .inr h
theorem SnT.sq (h:SnT K N H a xs):SqT K H a xs:=by
 rcases h with ⟨h,_⟩|h
 ·exact .inl h
 ·exact .inr h
theorem SnL.keep (h:SnL K N H a xs) (k:Keep N H H'):SnL K N H' a xs:=by
 rcases h with ⟨h|⟨o,h⟩,n⟩|h
 ·exact .inl ⟨.inl (k _ _ n h),n⟩
 ·exact .inl ⟨.inr ⟨o,k _ _ n h⟩,n⟩
 ·exact .inr h
theorem SnT.keep (h:SnT K N H a xs) (k:Keep N H H'):SnT K N H' a xs:=by
 rcases h with ⟨h|⟨o,h⟩,n⟩|h
 ·exact .inl ⟨.inl (k _ _ n h),n⟩
 ·exact .inl ⟨.inr ⟨o,k _ _ n h⟩,n⟩
 ·exact .inr h
theorem SnL.to (h:SnL K N H a xs) (m:∀ b o,H b=some o→M b→N b):SnL K M H a xs:=by
 rcases h with ⟨h|⟨o,h⟩,n⟩|h
 ·exact .inl ⟨.inl h,fun z=>n (m _ _ h z)⟩
 ·exact .inl ⟨.inr ⟨o,h⟩,fun z=>n (m _ _ h z)⟩
 ·exact .inr h
theorem SnT.to (h:SnT K N H a xs) (m:∀ b o,H b=some o→M b→N b):SnT K M H a xs:=by
 rcases h with ⟨h|⟨o,h⟩,n⟩|h
 ·exact .inl ⟨.inl h,fun z=>n (m _ _ h z)⟩
 ·exact .inl ⟨.inr ⟨o,h⟩,fun z=>n (m _ _ h z)⟩
 ·exact .inr h
end
mutual
inductive DN (K:PySem.W.Frag) (N:Addr→Prop) (H:Hp):V→PyData→Prop
 | non:DN K N H .non .none
 | bl (b:Bool):DN K N H (.bl b) (.bool b)
 | int (i:Int):DN K N H (.int i) (.int i)
 | lst {a:Addr}{xs:List V}{ds:List PyData}:SnL K N H a xs→DNs K N H xs ds→DN K N H (.ref a) (.list ds)
 | tup {a:Addr}{xs:List V}{ds:List PyData}:SnT K N H a xs→DNs K N H xs ds→DN K N H (.ref a) (.tuple ds)
 | dct {a:Addr}{es:List (StdK×Addr×V)}{kvs:List (StdK×PyData)}:¬N a→H a=some (.ext (DctAt a es))→DNs K N H (es.map fun p=>V.ref p.2.1) (kvs.map fun p=>stdD p.1)→DNs K N H (es.map fun p=>p.2.2) (kvs.map fun p=>p.2)→es.map (fun p=>p.1)=kvs.map (fun p=>p.1)→DN K N H (.ref a) (dctD kvs)
 | fz {v:V}{ds:List PyData}:DN K N H v (.list ds)→DN K N H v (fzD ds)
inductive DNs (K:PySem.W.Frag) (N:Addr→Prop) (H:Hp):List V→List PyData→Prop
 | nil:DNs K N H [] []
 | cons {x:V}{xs:List V}{d:PyData}{ds:List PyData}:DN K N H x d→DNs K N H xs ds→DNs K N H (x::xs) (d::ds)
end
section
variable {K:PySem.W.Frag}{N M:Addr→Prop}{H H':Hp}
theorem DN.dv {v:V}{d:PyData} (h:DN K N H v d):DV K H v d :=
 DN.rec (motive_1:=fun v d _=>DV K H v d) (motive_2:=fun v d _=>DVs K H v d)
 .non (fun b=>.bl b) (fun i=>.int i)
 (fun h _ q=>.lst h.sq q) (fun h _ q=>.tup h.sq q)
 (fun _ h _ _ e q r=>.dct h q r e) (fun _ h=>.fz h) .nil (fun _ _ h q=>.cons h q) h
theorem DNs.dv {v:List V}{d:List PyData} (h:DNs K N H v d):DVs K H v d :=
 DNs.rec (motive_1:=fun v d _=>DV K H v d) (motive_2:=fun v d _=>DVs K H v d)
 .non (fun b=>.bl b) (fun i=>.int i)
 (fun h _ q=>.lst h.sq q) (fun h _ q=>.tup h.sq q)
 (fun _ h _ _ e q r=>.dct h q r e) (fun _ h=>.fz h) .nil (fun _ _ h q=>.cons h q) h
theorem DN.keep (k:Keep N H H') {v:V}{d:PyData} (h:DN K N H v d):DN K N H' v d :=
 DN.rec (motive_1:=fun v d _=>DN K N H' v d) (motive_2:=fun v d _=>DNs K N H' v d)
 .non (fun b=>.bl b) (fun i=>.int i)
 (fun h _ q=>.lst (h.keep k) q) (fun h _ q=>.tup (h.keep k) q)
 (fun n h _ _ e q r=>.dct n (k _ _ n h) q r e) (fun _ h=>.fz h) .nil (fun _ _ h q=>.cons h q) h
theorem DNs.keep (k:Keep N H H') {v:List V}{d:List PyData} (h:DNs K N H v d):DNs K N H' v d :=
 DNs.rec (motive_1:=fun v d _=>DN K N H' v d) (motive_2:=fun v d _=>DNs K N H' v d)
 .non (fun b=>.bl b) (fun i=>.int i)
 (fun h _ q=>.lst (h.keep k) q) (fun h _ q=>.tup (h.keep k) q)
 (fun n h _ _ e q r=>.dct n (k _ _ n h) q r e) (fun _ h=>.fz h) .nil (fun _ _ h q=>.cons h q) h
theorem DN.to (m:∀ b o,H b=some o→M b→N b) {v:V}{d:PyData} (h:DN K N H v d):DN K M H v d :=
 DN.rec (motive_1:=fun v d _=>DN K M H v d) (motive_2:=fun v d _=>DNs K M H v d)
 .non (fun b=>.bl b) (fun i=>.int i)
 (fun h _ q=>.lst (h.to m) q) (fun h _ q=>.tup (h.to m) q)
 (fun n h _ _ e q r=>.dct (fun z=>n (m _ _ h z)) h q r e) (fun _ h=>.fz h) .nil (fun _ _ h q=>.cons h q) h
theorem DNs.to (m:∀ b o,H b=some o→M b→N b) {v:List V}{d:List PyData} (h:DNs K N H v d):DNs K M H v d :=
 DNs.rec (motive_1:=fun v d _=>DN K M H v d) (motive_2:=fun v d _=>DNs K M H v d)
 .non (fun b=>.bl b) (fun i=>.int i)
 (fun h _ q=>.lst (h.to m) q) (fun h _ q=>.tup (h.to m) q)
 (fun n h _ _ e q r=>.dct (fun z=>n (m _ _ h z)) h q r e) (fun _ h=>.fz h) .nil (fun _ _ h q=>.cons h q) h
theorem DNs.len:∀ {v:List V}{d:List PyData},DNs K N H v d→v.length=d.length
 | _,_,.nil=>rfl
 | _,_,.cons _ q=>by simp[DNs.len q]
theorem DNs.get:∀ {v:List V}{d:List PyData}{i:Nat}{x:V},DNs K N H v d→v[i]? = some x→∃ e,d[i]? = some e∧DN K N H x e
 | _,_,_,_,.nil,e=>by simp at e
 | _,_,0,_,.cons h _,e=>by simp at e;subst e;exact⟨_,rfl,h⟩
 | _,_,i+1,_,.cons _ q,e=>by
  obtain ⟨d,h1,h2⟩:=DNs.get (i:=i) q (by simpa using e)
  exact ⟨d,by simpa using h1,h2⟩
theorem DNs.app:∀ {v w:List V}{d e:List PyData},DNs K N H v d→DNs K N H w e→DNs K N H (v++w) (d++e)
 | _,_,_,_,.nil,q=>q
 | _,_,_,_,.cons h t,q=>.cons h (t.app q)
noncomputable abbrev pI (ns:List Int):PyData:=.list (ns.map .int)
noncomputable abbrev pT (ns:List Int):PyData:=.tuple (ns.map .int)
theorem dns_ints:∀ ns:List Int,DNs K N H (ns.map V.int) (ns.map .int)
 | []=>.nil
 | n::r=>.cons (.int n) (dns_ints r)
theorem DNs.ints:∀ {ns:List Int}{v:List V},DNs K N H v (ns.map .int)→v=ns.map V.int
 | [],_,.nil=>rfl
 | n::r,_,.cons h q=>by
  cases h
  rw [q.ints];rfl
theorem DN.ofI {a:Addr}{ns:List Int} (h:SnL K N H a (ns.map V.int)):DN K N H (.ref a) (pI ns):=.lst h (dns_ints ns)
theorem DN.list {v:V}{ds:List PyData} (h:DN K N H v (.list ds)):∃ a xs,v=.ref a∧SnL K N H a xs∧DNs K N H xs ds:=by
 cases h with|lst h q=>exact⟨_,_,rfl,h,q⟩
theorem DN.tuple {v:V}{ds:List PyData} (h:DN K N H v (.tuple ds)):∃ a xs,v=.ref a∧SnT K N H a xs∧DNs K N H xs ds:=by
 cases h with|tup h q=>exact⟨_,_,rfl,h,q⟩
theorem DN.I {v:V}{ns:List Int} (h:DN K N H v (pI ns)):∃ a,v=.ref a∧SnL K N H a (ns.map V.int):=by
 obtain ⟨a,xs,e,s,q⟩:=h.list
 rw [q.ints] at s
 exact ⟨a,e,s⟩
theorem DN.T {v:V}{ns:List Int} (h:DN K N H v (pT ns)):∃ a,v=.ref a∧SnT K N H a (ns.map V.int):=by
 obtain ⟨a,xs,e,s,q⟩:=h.tuple
 rw [q.ints] at s
 exact ⟨a,e,s⟩
theorem DN.of2 {a:Addr}{x y:V}{d e:PyData} (s:SnT K N H a [x,y]) (h1:DN K N H x d) (h2:DN K N H y e):DN K N H (.ref a) (.tuple [d,e]):=.tup s (.cons h1 (.cons h2 .nil))
end
theorem eqvAll_ints:∀ a b:List Int,PyData.eqvAll (a.map .int) (b.map .int)=decide (a=b)
 | [],[]=>by simp[PyData.eqvAll]
 | [],_::_=>by simp[PyData.eqvAll]
 | _::_,[]=>by simp[PyData.eqvAll]
 | x::a,y::b=>by
  rw [List.map_cons,List.map_cons,PyData.eqvAll,eqvAll_ints a b]
  simp only [PyData.eqv]
  by_cases h:x=y <;> by_cases h':a=b <;> simp[h,h']
theorem eqv_I (a b:List Int):PyData.eqv (pI a) (pI b)=decide (a=b):=by
 show PyData.eqvAll _ _=_
 exact eqvAll_ints a b
theorem lay_ints (a:List Int):PyData.canLayAll0 (a.map .int)=true:=PySem.W.ke_canLayAll0 a
theorem dep_ints (a:List Int):PyData.depthAll (a.map .int)=0:=PySem.W.ke_depthAll a
theorem shp_I (a:List Int):shp (pI a):=by simp[shp,SeqAt.shaped,PyData.canLay0,PyData.depth,lay_ints,dep_ints]
section
variable {K:PySem.W.Frag}{a:Addr}{xs:List V}{g:TG}{tt:TT}{te:TE}{σ0:St}{H:Hp}{Qe:List V→Hp→Prop}
end
end L2
namespace L2
open PySem PySem.Spec PyProof.Rows
noncomputable def Cal (P:Program) (w:World) (K:PySem.W.Frag) (mg:Str→Option Value) (base:Heap) (x:Str) (k:Nat) (sp:Sp):Prop :=
 ∃ (f:Addr) (fd:FuncData) (ps:List Str),FnOk P w K mg base CX0 k f fd ps sp∧Binds K fd ps []∧PySem.W.keepIn K (.ref f)=true∧mg x=some (.ref f)
theorem Cal.mono {P:Program}{w:World}{K:PySem.W.Frag}{mg:Str→Option Value}{base:Heap}{x:Str}{j k:Nat}{sp:Sp} (C:Cal P w K mg base x j sp) (h:j≤k):Cal P w K mg base x k sp:=by
 obtain ⟨f,fd,ps,F,b,kp,m⟩:=C
 exact ⟨f,fd,ps,F.mono h,b,kp,m⟩
section
variable {X:Cx}{x:Str}{p pos:Pos}{e:Expr}{es:List Expr}{t:TA}{k:Nat}{sp:Sp}
theorem pe_cal (C:Cal X.prog X.w X.K X.mg X.base x k sp) (hr:Room k X.A) (hg:Gl X x) (ha:PA X (e::es) t) (hd:(x==("__debug__" : Str))=false:=by decide)
  (he:starEach (e::es) X.env=(false,eval e X.env)::starEach es X.env:=by rfl) (hpl:(backTo pos (starEach es X.env)).any (·.1)=false:=by rfl):PE X (.Call (.Name x p) (e::es) [] pos) (tCall sp [] E0 t):=by
 obtain ⟨f,fd,ps,F,b,kp,m⟩:=C
 exact pe_call F hr hg m kp b .nil pass0 ha hd he hpl
end
noncomputable def bOk (N:List Str) (sc0:Scope) (N':List Str) (ix:List (Option Nat)) (sc:Scope):Bool :=
 decide (sc.kind=.function)&&decide ((sc.names.map (·.1)).Nodup)&&sc.names.all (fun y=>!(y.2==.free) || decide (sc0.names.lookup y.1=some .cell) || decide (sc0.names.lookup y.1=some .free))&&decide (ix.length=N'.length) &&
 (ix.zip N').all fun q=>match q.1 with
  | none=>true
  | some j=>decide (N[j]? = some q.2)&&decide (sc.names.lookup q.2=some .free)
theorem bs_of {X:Cx}{N N':List Str}{ix:List (Option Nat)}{sc sc0:Scope} (hN:X.N=N) (h0:X.env.scope=sc0) (h:bOk N sc0 N' ix sc=true):BScope X.N X.env N' ix sc:=by
 rw [←hN] at h
 unfold bOk at h
 simp only [Bool.and_eq_true,decide_eq_true_eq] at h
 obtain ⟨⟨⟨⟨h1,h2⟩,h3⟩,h4⟩,h5⟩:=h
 refine ⟨h1,h2,fun y hy hf=>?_,h4,fun i j hij=>?_⟩
 ·have q:=List.all_eq_true.mp h3 y hy
  rw [hf] at q
  have e:∀ z,X.env.kindOf z=sc0.names.lookup z:=fun z=>by
   show X.env.scope.names.lookup z=_
   rw [h0]
  rw [e]
  simpa using q
 ·have hi:i<ix.length:=(List.getElem?_eq_some_iff.mp hij).1
  have hi':i<N'.length:=by omega
  have hm:(some j,N'[i])∈ix.zip N':=by
   rw [List.mem_iff_getElem?]
   refine ⟨i,?_⟩
   rw [List.getElem?_zip_eq_some]
   exact ⟨hij,List.getElem?_eq_getElem hi'⟩
  have q:=List.all_eq_true.mp h5 _ hm
  simp only [Bool.and_eq_true,decide_eq_true_eq] at q
  exact ⟨N'[i],List.getElem?_eq_getElem hi',q.1,q.2⟩
structure Bn (mg:Str→Option Value):Prop where
 len:mg "len" = none
 range:mg "range" = none
 min:mg "min" = none
 max:mg "max" = none
 enumerate:mg "enumerate" = none
 zip:mg "zip" = none
 all:mg "all" = none
 any:mg "any" = none
 isinstance:mg "isinstance" = none
 bool:mg "bool" = none
 int:mg "int" = none
 list:mg "list" = none
 tuple:mg "tuple" = none
 sorted:mg "sorted" = none
 str:mg "str" = none
 sum:mg "sum" = none
 abs:mg "abs" = none
end L2
namespace L2
open PySem PySem.Spec PyProof.Rows
theorem SqB.of {K:PySem.W.Frag}{N:Addr→Prop}{H:Hp}{a:Addr}{xs:List V} (h:SnL K N H a xs):SqB K H false a xs:=h.sq
noncomputable def SnB (K:PySem.W.Frag) (N:Addr→Prop) (H:Hp):Bool→Addr→List V→Prop
 | false,a,xs=>SnL K N H a xs
 | true,a,xs=>SnT K N H a xs
theorem SnB.sq {K:PySem.W.Frag}{N:Addr→Prop}{H:Hp}{b:Bool}{a:Addr}{xs:List V} (h:SnB K N H b a xs):SqB K H b a xs:=by
 cases b with
 | false=>exact SnL.sq h
 | true=>exact SnT.sq h
theorem SqB.len {K:PySem.W.Frag}{H:Hp}{b:Bool}{a:Addr}{xs:List V} (h:SqB K H b a xs):SqL K H a xs∨SqT K H a xs:=by
 cases b with
 | false=>exact .inl h
 | true=>exact .inr h
theorem SqB.keep {K:PySem.W.Frag}{H H':Hp}{b:Bool}{a:Addr}{xs:List V} (h:SqB K H b a xs) (k:Same H H'):SqB K H' b a xs:=by
 cases b with
 | false=>exact (show SnL K N0 H a xs from by rcases h with h|h;exact .inl ⟨h,fun z=>z⟩;exact .inr h).keep (Keep.same k) |>.sq
 | true=>exact (show SnT K N0 H a xs from by rcases h with h|h;exact .inl ⟨h,fun z=>z⟩;exact .inr h).keep (Keep.same k) |>.sq
theorem SqL.keep {K:PySem.W.Frag}{H H':Hp}{a:Addr}{xs:List V} (h:SqL K H a xs) (k:Same H H'):SqL K H' a xs:=SqB.keep (b:=false) h k
theorem SqT.keep {K:PySem.W.Frag}{H H':Hp}{a:Addr}{xs:List V} (h:SqT K H a xs) (k:Same H H'):SqT K H' a xs:=SqB.keep (b:=true) h k
theorem Same.new {H:Hp}{p:Addr}{o:HO} (h:H p=none):Same H (upd H p o):=fun b u e=>by rw[upd_ne (ne_of_none e h)];exact e
theorem Cal.mk {P:Program}{w:World}{K:PySem.W.Frag}{mg:Str→Option Value}{base:Heap}{x:Str}{st:Stmt}{f:Addr}{fd:FuncData}{k:Nat}{ps:List Str}{sp:Sp} (F:Fun K x x st f fd) (m:mg x=some (.ref f)) (b:Binds K fd ps [])
  (G : FnOk P w K mg base CX0 k f fd ps sp):Cal P w K mg base x k sp:=⟨f,fd,ps,G,b,F.kp,m⟩
theorem line_big:1000000≤sizeLine:=by decide
section
variable {X:Cx}{K:PySem.W.Frag} (hK:X.K=K)
include hK
theorem kLen:CallR X (.builtin "len") (fun xs H Q=>∃ p ys,xs=[.ref p]∧(SqL K H p ys∨SqT K H p ys)∧Q (.int ys.length) H):=by subst hK;exact call_len_seq
theorem kSlL:SlR X (rSlL K):=by subst hK;exact sl_list
theorem kCatA:OpR X (binaryOp .Add) (rCatA K):=by subst hK;exact op_catA
theorem kEqD (hu:X.A.units+64<cLine):OpR X (compareOp .Eq) (rEqD K):=by subst hK;exact op_eqD hu
theorem kIn:OpR X (compareOp .In) (rIn K false):=by subst hK;exact op_in_seq
theorem kNotIn:OpR X (compareOp .NotIn) (rIn K true):=by subst hK;exact op_notIn_seq
theorem kTuple:CallR X (.type "tuple") (fun xs H Q=>∃ p ys,xs=[.ref p]∧((SqL K H p ys∧∀ l,H l=none→Q (.ref l) (upd H l (.tup ys)))∨(SqT K H p ys∧Q (.ref p) H))):=by subst hK;exact call_tuple_of
variable {tg:Expr}
theorem kiList {l:Expr}{tl:TE} (hl:PE X l tl):PI X tg l (iList K tl):=by subst hK;exact pi_list hl
theorem kiTup {l:Expr}{tl:TE} (hl:PE X l tl):PI X tg l (iTup K tl):=by subst hK;exact pi_tup hl
theorem kiEnum (b:Bool) {es:List Expr}{kk:Nat}{tpos:Pos}{a:Expr}{ta:TA}{p pos:Pos} (hg:Gl X "enumerate") (hm:X.mg "enumerate" = none) (ha:PA X [a] ta) (hs:starEach [a] X.env=[(false,eval a X.env)]:=by rfl) :
  PI X (.Tuple es kk tpos) (.Call (.Name "enumerate" p) [a] [] pos) (iEnum K b ta):=by subst hK;exact pi_enum b hg hm PyProof.Rows.boot_enumerate ha hs
theorem kgTup {pos:Pos}{es:List Expr}{k:Nat}{t:TGs}{n:Nat} (hc:X.calm=true) (h:PGs X es t) (hn:(assignEach es X.env).length=n:=by rfl) (hst:(assignEach es X.env).findIdx? (·.1)=none:=by rfl):PG X (.Tuple es k pos) (gTup K n t):=by
 subst hK;exact pg_tup hc h hn hst
theorem kTruth {a:Expr}{ta:TE} (ha:PE X a ta) (he:∀ whole,isTrue a X.env whole=(do let v ←whole;standAt a.pos;holding [v] (truthy v))):PT X a (fun σ H Q=>ta σ H fun x H'=>∃ k,TruV K x H' k∧Q k H'):=by
 subst hK;exact pt_truth ha he
variable {o e:Expr}{es:List Expr}{to:TE}{t:TA}{name:Str}{apos cpos:Pos}{T id:String}{r:V→List V→Hp→VK→Prop}
theorem kBm0 (pa:PlainAttrs T) (slot:Slot T name id) (hty:typeOf (.builtin id)=pure (.type "method_descriptor")) (hm:MtR X id r) (ho:PE X o to)
  (hbase:attributeBase o name X.env (eval o X.env)=eval o X.env:=by rfl) (hline:(apos.endLine==cpos.line)=true:=by rfl):PE X (.Call (.Attribute o name apos) [] [] cpos) (tBM0 K T r to):=by
 subst hK;exact pe_bm0 pa slot hty hm ho hbase hline
theorem kBm (pa:PlainAttrs T) (slot:Slot T name id) (hty:typeOf (.builtin id)=pure (.type "method_descriptor")) (hm:MtR X id r) (ho:PE X o to) (ha:PA X (e::es) t)
  (hbase:attributeBase o name X.env (eval o X.env)=eval o X.env:=by rfl)
  (hfew:((backTo cpos (starEach (e::es) X.env)).all (fun x=>!x.1)&&(backToKw cpos (keywordEach [] X.env)).all (fun x=>x.1.isSome)&&decide ((e::es).length+([]:List Keyword).length+(if ([]:List Keyword).isEmpty then 0 else 1)<30))=true:=by rfl)
  (hline:(apos.endLine==cpos.line)=true:=by rfl) (hs:starEach (e::es) X.env=(false,eval e X.env)::starEach es X.env:=by rfl) (hplain:(backTo cpos (starEach es X.env)).any (·.1)=false:=by rfl) :
  PE X (.Call (.Attribute o name apos) (e::es) [] cpos) (tBM K T r to t):=by
 subst hK;exact pe_bm pa slot hty hm ho ha hbase hfew hline hs hplain
end
end L2
namespace L2
open PySem
theorem room80 {A:Around}{k:Nat} (hr:Room k A):A.units+80<cLine:=by have:=hr.un;omega
end L2
namespace L2
open PySem
section
variable {K:PySem.W.Frag}{a:Addr}{xs:List V}{g:TG}{tb:TS}{D:Ends}{σ:St}{H:Hp} (Pv:Nat→St→Hp→Prop)
end
end L2
namespace L2
open PySem
theorem ixN_nat {n j:Nat} (h:j<n):ixN n (j:Int)=some j:=by
 unfold ixN
 rw [if_pos (by omega),if_pos (by omega),Int.toNat_natCast]
end L2
namespace L2
open PySem PySem.Spec PyProof.Rows
noncomputable def tCut (t u:TS):TS:=fun D σ H=>∃ R:St→Hp→Prop,t { D with nx:=R } σ H∧∀ σ' H',R σ' H'→u D σ' H'
theorem pss_cut {X:Cx}{st:Stmt}{rest:List Stmt}{t u:TS} (h1:PS X st t) (h2:PSs X rest u):PSs X (st::rest) (tCut t u):=by
 intro pins s σ H D I h
 obtain ⟨R,h,hR⟩:=h
 refine wpAny_execs_cons (thn (h1 pins s σ H { D with nx:=R } I h) fun f s1 q=>?_)
 cases f with
 | next =>
  obtain ⟨σ',H',I',q⟩:=q
  exact h2 pins s1 σ' H' D I' (hR _ _ q)
 | ret v=>exact q
 | brk=>exact q
 | cont=>exact q
theorem mem_dropLast {α:Type}{x:α}{l:List α} (h:x∈l.dropLast):x∈l:=by
 rw [List.dropLast_eq_take] at h
 exact List.mem_of_mem_take h
end L2
namespace L2
open PySem
theorem Keep.free {N:Addr→Prop}{H H':Hp} (k:Keep N H H') {p:Addr} (n:¬N p) (h:H' p=Option.none):H p=Option.none:=by
 cases e:H p with
 | none=>rfl
 | some o=>rw[k p o n e] at h;cases h
theorem Keep.put {N:Addr→Prop}{H H':Hp}{p:Addr}{o:HO} (k:Keep N H H') (h:H p=Option.none):Keep N H (upd H' p o):=fun b u n e=>by
 rw [upd_ne (ne_of_none e h)]
 exact k b u n e
end L2
namespace L2
open PySem
theorem DN.own {K:PySem.W.Frag}{N:Addr→Prop}{H H':Hp}{d:Addr}{v:V}{D:PyData} (h:DN K N H v D) (hd:H d=none) (k:Same H H'):DN K (N1 d) H' v D :=
 (h.to fun b o e (z:b=d)=>by rw[z,hd] at e;cases e).keep (Keep.same k)
theorem DN.sqL {K:PySem.W.Frag}{H:Hp}{a:Addr}{ns:List Int} (h:SqL K H a (ns.map V.int)):DN K N0 H (.ref a) (pI ns):=DN.ofI (by
 rcases h with h|h
 ·exact .inl ⟨h,fun z=>z⟩
 ·exact .inr h)
end L2
namespace L2
end L2
namespace L2
open PySem PySem.Spec PyProof.Rows
section
variable {κ β:Type} [DecidableEq κ]
noncomputable def getK (kvs:List (κ×β)) (k:κ):Option β:=(kvs.find? fun p=>decide (p.1=k)).map (·.2)
noncomputable def setK (kvs:List (κ×β)) (k:κ) (v:β):List (κ×β):=if (getK kvs k).isSome=true then kvs.map fun p=>if p.1=k then (p.1,v) else p else kvs++[(k,v)]
theorem getK_nil (k:κ):getK ([]:List (κ×β)) k=none:=rfl
theorem getK_cons (p:κ×β) (kvs:List (κ×β)) (k:κ):getK (p::kvs) k=if p.1=k then some p.2 else getK kvs k:=by
 unfold getK
 rw [List.find?_cons]
 by_cases h:p.1=k <;> simp[h]
theorem setK_len (kvs:List (κ×β)) (k:κ) (v:β):(setK kvs k v).length≤kvs.length+1:=by
 unfold setK
 split <;> simp
end
noncomputable def DctV (K:PySem.W.Frag) (H:Hp) (v:V) (kvs:List (StdK×PyData)):Prop :=
 ∃ a es,v=.ref a∧H a=some (.ext (DctAt a es))∧DVs K H (es.map fun p=>V.ref p.2.1) (kvs.map fun p=>stdD p.1)∧DVs K H (es.map fun p=>p.2.2) (kvs.map fun p=>p.2)∧es.map (fun p=>p.1)=kvs.map (fun p=>p.1)
section
variable {X:Cx}{pins:List (Addr×Obj)}{σ:St}{H:Hp}{s:Shared}{a b:Addr}{k:StdK}
theorem DVs.map_int:∀ {ns:List Int}{xs:List V},DVs X.K H xs (ns.map .int)→xs=ns.map V.int
 | [],_,h=>by cases h;rfl
 | n :: ns,_,h=>by
  cases h with
  | cons h t =>
   cases h
   rw [DVs.map_int t]
   rfl
theorem vals_itm:∀ {ns:List Int}{us:List Value},Vals (ns.map V.int) us→ItemsAre (intKind X.prog X.w) ns us
 | [],us,h=>by cases h;exact .nil
 | n :: ns,us,h=>by
  cases h with
  | cons r t =>
   obtain ⟨tt,rfl⟩:=r
   exact .cons (isInt_self n tt) (vals_itm t)
theorem std_of (I:Inv X pins σ H s) {x:V}{u:Value} (h:DV X.K H x (stdD k)) (r:RelV x u):∃ b,x=.ref b∧u=.ref b∧IsStd X.prog X.w s.heap k b:=by
 obtain ⟨d,l⟩:=k
 obtain ⟨b,xs,rfl,sq,q⟩:=DV.tupI (h:DV X.K H x (.tuple _))
 obtain ⟨v1,v2,rfl,h1,h2⟩:=q.twoI
 obtain ⟨c,ys,rfl,sq2,q2⟩:=h2.tupI
 obtain ⟨its,rv,⟨o,e,cl,n,hd⟩,_⟩:=I.tuple sq
 obtain ⟨its2,rv2,⟨o2,e2,cl2,n2,hd2⟩,_⟩:=I.tuple sq2
 rw [DVs.map_int (X:=X) q2] at rv2
 obtain ⟨w1,w2,rfl,r1,r2⟩:=vals2 rv
 rw [h1.intI] at r1
 obtain ⟨t,rfl⟩:=r1
 have e3:w2=Value.ref c:=r2
 have e4:u=Value.ref b:=r
 subst e3 e4
 exact ⟨b,rfl,rfl,o,t,c,n,e,cl,hd,o2,its2.toArray,n2,e2,cl2,hd2,by simpa using vals_itm rv2⟩
theorem keys_std (I:Inv X pins σ H s):∀ {es:List (StdK×Addr×V)}{xs:List (StdK×Addr×Value)}{kvs:List (StdK×PyData)},
  Paired (fun (p:StdK×Addr×V) (q:StdK×Addr×Value)=>p.1=q.1∧p.2.1=q.2.1∧RelV p.2.2 q.2.2) es xs→DVs X.K H (es.map fun p=>V.ref p.2.1) (kvs.map fun p=>stdD p.1)→es.map (fun p=>p.1)=kvs.map (fun p=>p.1) →
  ∀ x∈xs,IsStd X.prog X.w s.heap x.1 x.2.1
 | [],_,_,.nil,_,_=>fun x hx=>by cases hx
 | p :: es,_,kvs,.cons (b:=q) r t,h,e=>by
  cases kvs with
  | nil=>simp at e
  | cons kv kvs =>
   rw [List.map_cons,List.map_cons] at h e
   injection e with e1 e2
   cases h with
   | cons h1 h2 =>
    intro x hx
    rcases List.mem_cons.mp hx with rfl|hx
    ·obtain ⟨b,z,_,st⟩:=std_of I h1 (u:=.ref p.2.1) rfl
     cases z
     rw [←r.1,←r.2.1,e1]
     exact st
    ·exact keys_std I t h2 e2 x hx
theorem dct_of (I:Inv X pins σ H s) {es:List (StdK×Addr×V)}{kvs:List (StdK×PyData)} (ha:H a=some (.ext (DctAt a es))) (hk:DVs X.K H (es.map fun p=>V.ref p.2.1) (kvs.map fun p=>stdD p.1)) (e:es.map (fun p=>p.1)=kvs.map (fun p=>p.1)) :
  es.length≤sizeLine∧(a==sysModules)=false∧∃ xs,Paired (fun (p:StdK×Addr×V) (q:StdK×Addr×Value)=>p.1=q.1∧p.2.1=q.2.1∧RelV p.2.2 q.2.2) es xs∧s.heap.DictOfH (stdKind X.prog X.w) a xs:=by
 obtain ⟨⟨z,y,xs,r,o,ds,ep,h1,h2,h3,h4,h5⟩,_⟩:=I.hok a _ ha
 exact ⟨z,y,xs,r,o,ds,ep,h1,h2,h3,h4,keys_std I r hk e,h5⟩
theorem at_key:∀ {es:List (StdK×Addr×V)}{xs:List (StdK×Addr×Value)}{kvs:List (StdK×PyData)}{K:PySem.W.Frag} (k:StdK),
  Paired (fun (p:StdK×Addr×V) (q:StdK×Addr×Value)=>p.1=q.1∧p.2.1=q.2.1∧RelV p.2.2 q.2.2) es xs→es.map (fun p=>p.1)=kvs.map (fun p=>p.1)→DVs K H (es.map fun p=>p.2.2) (kvs.map fun p=>p.2) →
  (getK kvs k=none∧atKey xs k=none)∨∃ (i:Nat) (d:PyData) (v:V) (b:Addr) (u:Value),getK kvs k=some d∧atKey xs k=some (b,u)∧(es.map fun p=>p.2.2)[i]? = some v∧(kvs.map fun p=>p.2)[i]? = some d∧RelV v u
 | [],_,kvs,K,k,.nil,e,_=>by
  cases kvs with
  | nil=>exact .inl ⟨rfl,rfl⟩
  | cons kv kvs=>simp at e
 | p :: es,_,kvs,K,k,.cons (b:=q) (l₂:=xs) r t,e,h=>by
  cases kvs with
  | nil=>simp at e
  | cons kv kvs =>
   rw [List.map_cons,List.map_cons] at e h
   injection e with e1 e2
   cases h with
   | cons h1 h2 =>
    by_cases hk:kv.1=k
    ·have hq:q.1=k:=by rw[←r.1,e1,hk]
     refine .inr ⟨0,kv.2,p.2.2,q.2.1,q.2.2,by rw[getK_cons,if_pos hk],?_,rfl,rfl,r.2.2⟩
     simp [atKey,List.find?_cons,hq]
    ·have hq:¬q.1=k:=fun z=>hk (by rw[←e1,r.1,z])
     have eg:getK (kv::kvs) k=getK kvs k:=by rw[getK_cons,if_neg hk]
     have ea:atKey (q::xs) k=atKey xs k:=by simp[atKey,List.find?_cons,hq]
     rw [eg,ea]
     rcases at_key k t e2 h2 with z|⟨i,d,v,b,u,z1,z2,z3,z4,z5⟩
     ·exact .inl z
     ·exact .inr ⟨i+1,d,v,b,u,z1,z2,by simpa using z3,by simpa using z4,z5⟩
end
section
variable {X:Cx}
noncomputable def rNotInK (K:PySem.W.Frag):R2:=fun x y H Q=>∃ (k:StdK) (kvs:List (StdK×PyData)),DV K H x (stdD k)∧DctV K H y kvs∧Q (.bl (!(getK kvs k).isSome)) H
theorem op_notInK (hu:X.A.units+2<cLine):OpR X (compareOp .NotIn) (rNotInK X.K):=by
 intro pins s σ H x y v u Q I rx ry h
 obtain ⟨k,kvs,dk,⟨a,es,rfl,ha,hk,hv,e⟩,q⟩:=h
 cases (show u=Value.ref a from ry)
 obtain ⟨b,rfl,rfl,st⟩:=std_of I dk rx
 obtain ⟨z,y,xs,r,dd⟩:=dct_of I ha hk e
 refine wpAny_notIn_heap (knd:=stdKind X.prog X.w) (std_room hu) st y dd ?_
 have:(atKey xs k).isSome=(getK kvs k).isSome:=by
  rcases at_key k r e hv with ⟨z1,z2⟩|⟨i,d,v,b,u,z1,z2,_⟩
  ·rw [z1,z2];rfl
  ·rw [z1,z2];rfl
 rw [this]
 exact ⟨.bl _,H,I.tok _,rfl,q⟩
noncomputable def rIxK (K:PySem.W.Frag):R2:=fun x y H Q=>∃ (k:StdK) (a:Addr) (es:List (StdK×Addr×V)) (kvs:List (StdK×PyData)),x=.ref a∧DV K H y (stdD k)∧H a=some (.ext (DctAt a es))∧DVs K H (es.map fun p=>V.ref p.2.1) (kvs.map fun p=>stdD p.1)∧DVs K H (es.map fun p=>p.2.2) (kvs.map fun p=>p.2) ∧
 es.map (fun p=>p.1)=kvs.map (fun p=>p.1)∧(getK kvs k).isSome=true∧∀ (i:Nat) v d,getK kvs k=some d→(es.map fun p=>p.2.2)[i]? = some v→(kvs.map fun p=>p.2)[i]? = some d→Q v H
theorem ix_K (hu:X.A.units+2<cLine):IxR X (rIxK X.K):=by
 intro value slice pins s σ H x y v u Q I rx ry h hs
 obtain ⟨k,a,es,kvs,rfl,dk,ha,hk,hv,e,hsome,q⟩:=h
 cases (show v=Value.ref a from rx)
 obtain ⟨b,rfl,rfl,st⟩:=std_of I dk ry
 obtain ⟨z,y,xs,r,dd⟩:=dct_of I ha hk e
 have hT:=dd.typeIs
 unfold subscriptTail
 refine wpAny_bind ?_
 rw [getitemInPython_of_ne hT.not_modules]
 refine wpAny_bind (wpAny_specialOf hT PySem.F.slot_dict_getitem.lookup ?_)
 have fin:wpAny (model X.prog X.w) X.A (subscripted slice false (.ref a) (.ref b)) (fun r s₃=>wpAny (model X.prog X.w) X.A (letTemporaryGo value (.ref a) r >>= fun _=>pure r) (EP X pins σ Q) X.xe s₃) X.xe s:=by
  rw [hs]
  rcases at_key k r e hv with ⟨z1,_⟩|⟨i,d,v,b',u,z1,z2,z3,z4,z5⟩
  ·rw [z1] at hsome;cases hsome
  ·refine wpAny_operating (wpAny_getItem_heap (knd:=stdKind X.prog X.w) (std_room hu) st dd z2 ?_)
   exact wpAny_bind (wpAny_letTemporaryGo (wpAny_pure ⟨v,H,I.tok _,z5,q i v d z1 z3 z4⟩))
 first
  | exact wpAny_pure (wpAny_bind fin)
  | exact wpAny_bind (wpAny_pure (wpAny_bind fin))
  | exact wpAny_bind fin
noncomputable def putE (es:List (StdK×Addr×V)) (k:StdK) (b:Addr) (v:V):List (StdK×Addr×V) :=
 if (es.any fun p=>decide (p.1=k))=true then es.map (fun p=>if p.1=k then (p.1,p.2.1,v) else p) else es++[(k,b,v)]
theorem putE_paired {es:List (StdK×Addr×V)}{xs:List (StdK×Addr×Value)} (r:Paired (fun (p:StdK×Addr×V) (q:StdK×Addr×Value)=>p.1=q.1∧p.2.1=q.2.1∧RelV p.2.2 q.2.2) es xs) (k:StdK) {b:Addr}{v:V}{u:Value} (rv:RelV v u) :
  Paired (fun (p:StdK×Addr×V) (q:StdK×Addr×Value)=>p.1=q.1∧p.2.1=q.2.1∧RelV p.2.2 q.2.2) (putE es k b v) (storedH xs k b u):=by
 have e:(es.any fun p=>decide (p.1=k))=(atKey xs k).isSome:=by
  induction r with
  | nil=>rfl
  | @cons p q ps qs h t ih =>
   rw [List.any_cons,ih]
   by_cases hk:p.1=k
   ·have hq:q.1=k:=by rw[←h.1,hk]
    simp [atKey,List.find?_cons,hk,hq]
   ·have hq:¬q.1=k:=fun z=>hk (by rw[h.1,z])
    simp [atKey,List.find?_cons,hk,hq]
 unfold putE storedH
 rw [e]
 by_cases c:(atKey xs k).isSome=true
 ·rw [if_pos c,if_pos c]
  clear e c
  induction r with
  | nil=>exact .nil
  | @cons p q ps qs h t ih =>
   rw [List.map_cons,List.map_cons]
   refine .cons ?_ ih
   unfold putAt
   by_cases hk:p.1=k
   ·rw [if_pos hk,if_pos (show q.1=k by rw[←h.1,hk])]
    exact ⟨h.1,h.2.1,rv⟩
   ·rw [if_neg hk,if_neg (fun z=>hk (by rw[h.1,z]))]
    exact h
 ·rw [if_neg c,if_neg c]
  exact Paired.snoc r ⟨rfl,rfl,rv⟩
theorem putE_len (es:List (StdK×Addr×V)) (k:StdK) (b:Addr) (v:V):(putE es k b v).length≤es.length+1:=by
 unfold putE
 split <;> simp
noncomputable def rSetK (K:PySem.W.Frag):TSet:=fun x y v H Q=>∃ (k:StdK) (a b:Addr) (es:List (StdK×Addr×V)) (kvs:List (StdK×PyData)),x=.ref a∧y=.ref b∧DV K H y (stdD k)∧H a=some (.ext (DctAt a es))∧DVs K H (es.map fun p=>V.ref p.2.1) (kvs.map fun p=>stdD p.1) ∧
 es.map (fun p=>p.1)=kvs.map (fun p=>p.1)∧es.length<sizeLine∧Q (upd H a (.ext (DctAt a (putE es k b v))))
theorem set_K (hu:X.A.units+2<cLine):PSet X (rSetK X.K):=by
 intro pins s σ H x y v ov iv u Q I rx ry rv h
 obtain ⟨k,a,b,es,kvs,rfl,rfl,dk,ha,hk,e,hl,q⟩:=h
 cases (show ov=Value.ref a from rx)
 obtain ⟨b',ez,eb,st⟩:=std_of I dk ry
 cases ez
 subst eb
 obtain ⟨z,y,xs,r,dd⟩:=dct_of I ha hk e
 have hz:xs.length≤sizeLine:=by rw[←Paired.length r];exact z
 refine wpAny_setItem_heap (hsz:=hz) (knd:=stdKind X.prog X.w) (std_room hu) st dd fun h' dd' hs=>?_
 obtain ⟨o,es',ep,h1,h2,h3,h4,_,h5⟩:=dd'
 refine ⟨_,?_,q⟩
 refine I.write (x:=a) (e:=a) (by rw[ha];exact True.intro) (.inl rfl) (fun b q hb z=>(hs.2 b hb).trans z) ⟨_,h1⟩ ?_
 have new:DctAt a (putE es k b v) h':=⟨by have:=putE_len es k b v;omega,y,_,putE_paired r k rv,o,es',ep,h1,h2,h3,h4,h5⟩
 refine ⟨new,⟨_,h1⟩,fun h1' h2' hx hy=>?_⟩
 obtain ⟨a1,a2,xs',a3,o',ds',ep',a4,a5⟩:=hx
 exact ⟨a1,a2,xs',a3,o',ds',ep',hy _ a4,a5⟩
noncomputable def tDct0:TE:=fun _ H Q=>∀ p,H p=none→Q (.ref p) (upd H p (.ext (DctAt p [])))
theorem dct_empty {P:Program}{w:World}{H:Hp} (h:Heap) (hb:sysModules<h.objs.size):ObjOk P w H (h.push { cls:=.type "dict",data:=.dict #[] }) h.objs.size (.ext (DctAt h.objs.size [])):=by
 have e:=Heap.get?_push_size (o:=({ cls:=.type "dict",data:=.dict #[] }:Obj)) h rfl
 refine ⟨⟨Nat.zero_le _,beq_eq_false_iff_ne.mpr (Ne.symm (Nat.ne_of_lt hb)),[],.nil,_,#[],0,e,⟨rfl,rfl,rfl⟩,rfl,rfl,List.nodup_nil⟩,⟨_,e⟩,fun h1 h2 hx hy=>?_⟩
 obtain ⟨a1,a2,xs',a3,o',ds',ep',a4,a5⟩:=hx
 exact ⟨a1,a2,xs',a3,o',ds',ep',hy _ a4,a5⟩
theorem Inv.big' {pins:List (Addr×Obj)}{σ:St}{H:Hp}{s:Shared} (I:Inv X pins σ H s):sysModules<s.heap.objs.size:=by
 have h:mainGlobals<s.heap.objs.size:=(I.mod.glob.keeps I.bk).lt
 exact Nat.lt_trans (by decide) h
theorem pe_dct0 {pos:Pos}:PE X (.Dict [] [] pos) tDct0:=fun pins s σ H Q I h =>
 wpAny_Dict_empty ⟨.ref s.heap.objs.size,_,I.laid (a:=s.heap.objs.size) (o:=.ext (DctAt s.heap.objs.size [])) (t':=s.toks) (fun _ _ q=>Heap.get?_push_of_some _ q) (Nat.le_refl _) (dct_empty s.heap I.big'),rfl,h _ (I.hok.fresh (Nat.le_refl _))⟩
noncomputable def tDct1 (K:PySem.W.Frag) (tk tv:TE):TE:=fun σ H Q=>∀ p,H p=none→tk σ (upd H p (.ext (DctAt p []))) fun x H1=>tv σ H1 fun y H2=>∃ k b,x=.ref b∧DV K H2 x (stdD k)∧H2 p=some (.ext (DctAt p []))∧Q (.ref p) (upd H2 p (.ext (DctAt p [(k,b,y)])))
theorem pe_dct1 {pos:Pos}{e1 e2:Expr}{tk tv:TE} (hu:X.A.units+1<cLine) (hk:PE X e1 tk) (hv:PE X e2 tv):PE X (.Dict [some e1] [e2] pos) (tDct1 X.K tk tv):=by
 intro pins s σ H Q I h
 have I1:=I.laid (a:=s.heap.objs.size) (o:=.ext (DctAt s.heap.objs.size [])) (h':=s.heap.push { cls:=.type "dict",data:=.dict #[] }) (t':=s.toks) (fun _ _ q=>Heap.get?_push_of_some _ q) (Nat.le_refl _) (dct_empty s.heap I.big')
 refine wpAny_Dict_any rfl rfl (by simp) (by simp) (pairTrees_cons_walk (thn (hk pins _ σ _ _ I1 (h _ (I.hok.fresh (Nat.le_refl _)))) fun u s1 ⟨x,H1,I2,rx,q1⟩=>thn (hv pins s1 σ H1 _ I2 q1) fun w s2 ⟨y,H2,I3,ry,k,b,ex,dk,hp,q⟩=>pairTrees_nil_walk ?_))
 subst ex
 obtain ⟨b',ez,rfl,st⟩:=std_of I3 dk rx
 cases ez
 generalize s.heap.objs.size=p at *
 obtain ⟨z,hd,xs,r,dd⟩:=dct_of (kvs:=[]) I3 hp .nil rfl
 cases r
 unfold storeAll
 rw [List.forIn_cons]
 refine wpAny_bind (wpAny_bind (wpAny_dictSet_heap (hsz:=Nat.zero_le _) (knd:=stdKind X.prog X.w) hu st dd fun h' dd' hs=>wpAny_pure ?_))
 dsimp only
 rw [List.forIn_nil]
 refine wpAny_pure ⟨.ref p,_,?_,rfl,q⟩
 obtain ⟨o,es',ep,h1,h2,h3,h4,_,h5⟩:=dd'
 refine I3.write (x:=p) (e:=p) (by rw[hp];exact True.intro) (.inl rfl) (fun b q hb z=>(hs.2 b hb).trans z) ⟨_,h1⟩ ?_
 have new:DctAt p [(k,b,y)] h':=⟨by rw[sizeLine_eq];simp,hd,_,.cons ⟨rfl,rfl,ry⟩ .nil,o,es',ep,h1,h2,h3,h4,h5⟩
 refine ⟨new,⟨_,h1⟩,fun h1' h2' hx hy=>?_⟩
 obtain ⟨a1,a2,xs',a3,o',ds',ep',a4,a5⟩:=hx
 exact ⟨a1,a2,xs',a3,o',ds',ep',hy _ a4,a5⟩
end
end L2
namespace L2
open PySem PySem.Spec PyProof.Rows
mutual
inductive OT (K:PySem.W.Frag) (N:Addr→Prop) (H:Hp):V→PyData→List Addr→Prop
 | non:OT K N H .non .none []
 | bl (b:Bool):OT K N H (.bl b) (.bool b) []
 | int (i:Int):OT K N H (.int i) (.int i) []
 | lst {a:Addr}{xs:List V}{ds:List PyData}{S:List Addr}:H a=some (.lst xs)→OTs K N H xs ds S→OT K N H (.ref a) (.list ds) (a::S)
 | tup {a:Addr}{xs:List V}{ds:List PyData}{S:List Addr}:SnT K N H a xs→OTs K N H xs ds S→OT K N H (.ref a) (.tuple ds) S
 | dct {a:Addr}{es:List (StdK×Addr×V)}{kvs:List (StdK×PyData)}:H a=some (.ext (DctAt a es))→DNs K N H (es.map fun p=>V.ref p.2.1) (kvs.map fun p=>stdD p.1)→DNs K N H (es.map fun p=>p.2.2) (kvs.map fun p=>p.2)→es.map (fun p=>p.1)=kvs.map (fun p=>p.1)→OT K N H (.ref a) (dctD kvs) [a]
 | fz {v:V}{ds:List PyData}:DN K N H v (.list ds)→OT K N H v (fzD ds) []
inductive OTs (K:PySem.W.Frag) (N:Addr→Prop) (H:Hp):List V→List PyData→List Addr→Prop
 | nil:OTs K N H [] [] []
 | cons {x:V}{xs:List V}{d:PyData}{ds:List PyData}{S S':List Addr}:OT K N H x d S→OTs K N H xs ds S'→OTs K N H (x::xs) (d::ds) (S++S')
end
section
variable {K:PySem.W.Frag}{N M:Addr→Prop}{H H':Hp}
theorem OT.keep (k:Keep N H H') {v:V}{d:PyData}{S:List Addr} (h:OT K N H v d S):(∀ a∈S,H' a=H a)→OT K N H' v d S :=
 OT.rec (motive_1:=fun v d S _=>(∀ a∈S,H' a=H a)→OT K N H' v d S) (motive_2:=fun v d S _=>(∀ a∈S,H' a=H a)→OTs K N H' v d S)
 (fun _=>.non) (fun b _=>.bl b) (fun i _=>.int i)
 (fun h _ q s=>.lst ((s _ List.mem_cons_self).trans h) (q fun a ha=>s a (List.mem_cons_of_mem _ ha))) (fun h _ q s=>.tup (h.keep k) (q s))
 (fun h q r e s=>.dct ((s _ List.mem_cons_self).trans h) (q.keep k) (r.keep k) e) (fun h s=>.fz (h.keep k)) (fun _=>.nil) (fun _ _ h q s=>.cons (h fun a ha=>s a (List.mem_append_left _ ha)) (q fun a ha=>s a (List.mem_append_right _ ha))) h
theorem OTs.keep (k:Keep N H H') {v:List V}{d:List PyData}{S:List Addr} (h:OTs K N H v d S):(∀ a∈S,H' a=H a)→OTs K N H' v d S :=
 OTs.rec (motive_1:=fun v d S _=>(∀ a∈S,H' a=H a)→OT K N H' v d S) (motive_2:=fun v d S _=>(∀ a∈S,H' a=H a)→OTs K N H' v d S)
 (fun _=>.non) (fun b _=>.bl b) (fun i _=>.int i)
 (fun h _ q s=>.lst ((s _ List.mem_cons_self).trans h) (q fun a ha=>s a (List.mem_cons_of_mem _ ha))) (fun h _ q s=>.tup (h.keep k) (q s))
 (fun h q r e s=>.dct ((s _ List.mem_cons_self).trans h) (q.keep k) (r.keep k) e) (fun h s=>.fz (h.keep k)) (fun _=>.nil) (fun _ _ h q s=>.cons (h fun a ha=>s a (List.mem_append_left _ ha)) (q fun a ha=>s a (List.mem_append_right _ ha))) h
theorem OT.to (m:∀ b o,H b=some o→M b→N b) {v:V}{d:PyData}{S:List Addr} (h:OT K N H v d S):OT K M H v d S :=
 OT.rec (motive_1:=fun v d S _=>OT K M H v d S) (motive_2:=fun v d S _=>OTs K M H v d S)
 .non (fun b=>.bl b) (fun i=>.int i)
 (fun h _ q=>.lst h q) (fun h _ q=>.tup (h.to m) q)
 (fun h q r e=>.dct h (q.to m) (r.to m) e) (fun h=>.fz (h.to m)) .nil (fun _ _ h q=>.cons h q) h
theorem OTs.to (m:∀ b o,H b=some o→M b→N b) {v:List V}{d:List PyData}{S:List Addr} (h:OTs K N H v d S):OTs K M H v d S :=
 OTs.rec (motive_1:=fun v d S _=>OT K M H v d S) (motive_2:=fun v d S _=>OTs K M H v d S)
 .non (fun b=>.bl b) (fun i=>.int i)
 (fun h _ q=>.lst h q) (fun h _ q=>.tup (h.to m) q)
 (fun h q r e=>.dct h (q.to m) (r.to m) e) (fun h=>.fz (h.to m)) .nil (fun _ _ h q=>.cons h q) h
theorem OT.lives {v:V}{d:PyData}{S:List Addr} (h:OT K N H v d S):∀ a∈S,∃ o,H a=some o :=
 OT.rec (motive_1:=fun v d S _=>∀ a∈S,∃ o,H a=some o) (motive_2:=fun v d S _=>∀ a∈S,∃ o,H a=some o)
 (fun _ h=>nomatch h) (fun _ _ h=>nomatch h) (fun _ _ h=>nomatch h)
 (fun h _ q a ha=>(List.mem_cons.mp ha).elim (fun e=>⟨_,e▸h⟩) (q a)) (fun _ _ q=>q)
 (fun h _ _ _ a ha=>⟨_,(List.mem_singleton.mp ha)▸h⟩) (fun _ _ h=>nomatch h) (fun _ h=>nomatch h) (fun _ _ h q a ha=>(List.mem_append.mp ha).elim (h a) (q a)) h
theorem OTs.lives {v:List V}{d:List PyData}{S:List Addr} (h:OTs K N H v d S):∀ a∈S,∃ o,H a=some o :=
 OTs.rec (motive_1:=fun v d S _=>∀ a∈S,∃ o,H a=some o) (motive_2:=fun v d S _=>∀ a∈S,∃ o,H a=some o)
 (fun _ h=>nomatch h) (fun _ _ h=>nomatch h) (fun _ _ h=>nomatch h)
 (fun h _ q a ha=>(List.mem_cons.mp ha).elim (fun e=>⟨_,e▸h⟩) (q a)) (fun _ _ q=>q)
 (fun h _ _ _ a ha=>⟨_,(List.mem_singleton.mp ha)▸h⟩) (fun _ _ h=>nomatch h) (fun _ h=>nomatch h) (fun _ _ h q a ha=>(List.mem_append.mp ha).elim (h a) (q a)) h
theorem OT.dn (n:∀ b,M b→N b) {v:V}{d:PyData}{S:List Addr} (h:OT K N H v d S):(∀ a∈S,¬M a)→DN K M H v d :=
 OT.rec (motive_1:=fun v d S _=>(∀ a∈S,¬M a)→DN K M H v d) (motive_2:=fun v d S _=>(∀ a∈S,¬M a)→DNs K M H v d)
 (fun _=>.non) (fun b _=>.bl b) (fun i _=>.int i)
 (fun h _ q s=>.lst (SnL.of h (s _ List.mem_cons_self)) (q fun a ha=>s a (List.mem_cons_of_mem _ ha))) (fun h _ q s=>.tup (h.to fun b _ _ z=>n b z) (q s))
 (fun h q r e s=>.dct (s _ List.mem_cons_self) h (q.to fun b _ _ z=>n b z) (r.to fun b _ _ z=>n b z) e) (fun h _=>.fz (h.to fun b _ _ z=>n b z)) (fun _=>.nil) (fun _ _ h q s=>.cons (h fun a ha=>s a (List.mem_append_left _ ha)) (q fun a ha=>s a (List.mem_append_right _ ha))) h
theorem OTs.dn (n:∀ b,M b→N b) {v:List V}{d:List PyData}{S:List Addr} (h:OTs K N H v d S):(∀ a∈S,¬M a)→DNs K M H v d :=
 OTs.rec (motive_1:=fun v d S _=>(∀ a∈S,¬M a)→DN K M H v d) (motive_2:=fun v d S _=>(∀ a∈S,¬M a)→DNs K M H v d)
 (fun _=>.non) (fun b _=>.bl b) (fun i _=>.int i)
 (fun h _ q s=>.lst (SnL.of h (s _ List.mem_cons_self)) (q fun a ha=>s a (List.mem_cons_of_mem _ ha))) (fun h _ q s=>.tup (h.to fun b _ _ z=>n b z) (q s))
 (fun h q r e s=>.dct (s _ List.mem_cons_self) h (q.to fun b _ _ z=>n b z) (r.to fun b _ _ z=>n b z) e) (fun h _=>.fz (h.to fun b _ _ z=>n b z)) (fun _=>.nil) (fun _ _ h q s=>.cons (h fun a ha=>s a (List.mem_append_left _ ha)) (q fun a ha=>s a (List.mem_append_right _ ha))) h
theorem OTs.len:∀ {v:List V}{d:List PyData}{S:List Addr},OTs K N H v d S→v.length=d.length
 | _,_,_,.nil=>rfl
 | _,_,_,.cons _ q=>by simp[OTs.len q]
theorem OTs.app:∀ {v w:List V}{d e:List PyData}{S T:List Addr},OTs K N H v d S→OTs K N H w e T→OTs K N H (v++w) (d++e) (S++T)
 | _,_,_,_,_,_,.nil,q=>q
 | _,_,_,_,_,_,.cons h t,q=>by rw[List.append_assoc];exact .cons h (t.app q)
end
end L2
namespace L2
open PySem PySem.Spec PyProof.Rows
inductive Sl where
 | un|fr (d:PyData)|ow (ds:List PyData)|io (ds:List PyData)|vw (i:Nat)|tr (S:List Addr) (d:PyData)
noncomputable abbrev Ent:=Option V×Sl
noncomputable def own1:Ent→List Addr
 | (some (.ref a),.ow _)=>[a]
 | (some (.ref a),.io _)=>[a]
 | (some _,.tr S _)=>S
 | _=>[]
noncomputable def oas (E:List Ent):List Addr:=E.flatMap own1
noncomputable def Nw (M:Addr→Prop) (E:List Ent):Addr→Prop:=fun a=>M a∨a∈oas E
noncomputable abbrev tmp (ts:List (V×Sl)):List Ent:=ts.map fun t=>(some t.1,t.2)
noncomputable def ents (σ:St) (env:List Sl) (ts:List (V×Sl)):List Ent:=σ.zip env++tmp ts
theorem oas_app (A B:List Ent):oas (A++B)=oas A++oas B:=List.flatMap_append
theorem oas_cons (e:Ent) (B:List Ent):oas (e::B)=own1 e++oas B:=List.flatMap_cons ..
theorem mem_oas {a:Addr}{E:List Ent}:a∈oas E↔∃ e∈E,a∈own1 e:=List.mem_flatMap
theorem own1_un (x:Option V):own1 (x,.un)=[]:=by
 cases x with
 | none=>rfl
 | some v=>cases v <;> rfl
theorem own1_vw (x:Option V) (i:Nat):own1 (x,.vw i)=[]:=by
 cases x with
 | none=>rfl
 | some v=>cases v <;> rfl
theorem own1_fr (x:Option V) (d:PyData):own1 (x,.fr d)=[]:=by
 cases x with
 | none=>rfl
 | some v=>cases v <;> rfl
theorem own1_tr (v:V) (S:List Addr) (d:PyData):own1 (some v,.tr S d)=S:=by cases v <;> rfl
theorem own1_some {e:Ent}{a:Addr} (h:a∈own1 e):(e.1=some (.ref a)∧((∃ ds,e.2=.ow ds)∨∃ ds,e.2=.io ds))∨∃ S d,e.2=.tr S d∧a∈S:=by
 obtain ⟨x,s⟩:=e
 cases s with
 | un=>rw[own1_un] at h;exact absurd h List.not_mem_nil
 | vw i=>rw[own1_vw] at h;exact absurd h List.not_mem_nil
 | fr d=>rw[own1_fr] at h;exact absurd h List.not_mem_nil
 | tr S d =>
  cases x with
  | none=>exact absurd h List.not_mem_nil
  | some v=>rw[own1_tr] at h;exact .inr ⟨S,d,rfl,h⟩
 | ow ds =>
  cases x with
  | none=>exact absurd h List.not_mem_nil
  | some v=>cases v with
   | ref b=>rw[List.mem_singleton.mp h];exact .inl ⟨rfl,.inl ⟨ds,rfl⟩⟩
   | _=>exact absurd h List.not_mem_nil
 | io ds =>
  cases x with
  | none=>exact absurd h List.not_mem_nil
  | some v=>cases v with
   | ref b=>rw[List.mem_singleton.mp h];exact .inl ⟨rfl,.inr ⟨ds,rfl⟩⟩
   | _=>exact absurd h List.not_mem_nil
structure RelE (K:PySem.W.Frag) (M P:Addr→Prop) (H0:Hp) (E:List Ent) (H:Hp):Prop where
 keep:Keep P H0 H
 live:∀ a,H0 a≠none→H a≠none
 mt : ∀ a,M a→H0 a≠none
 pm : ∀ a,P a→M a
 fr : ∀ x d,(x,Sl.fr d)∈E→∃ v,x=some v∧DN K (Nw M E) H v d
 ow : ∀ x ds,(x,Sl.ow ds)∈E→∃ a vs,x=some (.ref a)∧H a=some (.lst vs)∧DNs K (Nw M E) H vs ds∧H0 a=none
 io : ∀ x ds,(x,Sl.io ds)∈E→∃ a vs,x=some (.ref a)∧H a=some (.lst vs)∧DNs K (Nw M E) H vs ds∧P a
 tr : ∀ x S d,(x,Sl.tr S d)∈E→∃ v,x=some v∧OT K (Nw M E) H v d S∧∀ a∈S,H0 a=none
 nd : (oas E).Nodup
section
variable {K:PySem.W.Frag}{M P:Addr→Prop}{H0 H H':Hp}{E E' A B:List Ent}{e e':Ent}
theorem RelE.own (h:RelE K M P H0 E H) {a:Addr} (ha:a∈oas E):∃ o,H a=some o∧(H0 a=none∨P a):=by
 obtain ⟨⟨x,s⟩,he,eo⟩:=mem_oas.mp ha
 rcases own1_some eo with ⟨e1,e2⟩|⟨S,d,e2,ms⟩
 rotate_left
 ·simp only at e2;subst e2
  obtain ⟨v,_,q,r⟩:=h.tr _ _ _ he
  obtain ⟨vs,z⟩:=q.lives a ms
  exact ⟨vs,z,.inl (r a ms)⟩
 rcases e2 with ⟨ds,e2⟩|⟨ds,e2⟩
 ·simp only at e1 e2;subst e1 e2
  obtain ⟨b,vs,z,q,_,r⟩:=h.ow _ _ he
  cases z
  exact ⟨_,q,.inl r⟩
 ·simp only at e1 e2;subst e1 e2
  obtain ⟨b,vs,z,q,_,r⟩:=h.io _ _ he
  cases z
  exact ⟨_,q,.inr r⟩
theorem Nw.sub (h:∀ a,a∈oas E'→a∈oas E):∀ b,Nw M E' b→Nw M E b:=fun b z=>by
 rcases z with z|z
 ·exact .inl z
 ·exact .inr (h b z)
theorem RelE.sub (h:RelE K M P H0 E H) (hm:∀ x s,(x,s)∈E'→(x,s)∈E∨s=.un∨∃ i,s=.vw i) (nd:(oas E').Nodup):RelE K M P H0 E' H:=by
 have os:∀ a,a∈oas E'→a∈oas E:=fun a ha=>by
  obtain ⟨⟨x,s⟩,he,eo⟩:=mem_oas.mp ha
  rcases hm x s he with q|q|⟨i,q⟩
  ·exact mem_oas.mpr ⟨_,q,eo⟩
  ·subst q;rw[own1_un] at eo;cases eo
  ·subst q;rw[own1_vw] at eo;cases eo
 have up:=Nw.sub (M:=M) os
 refine ⟨h.keep,h.live,h.mt,h.pm,fun x d m=>?_,fun x d m=>?_,fun x d m=>?_,fun x S d m=>?_,nd⟩
 rotate_right
 ·rcases hm _ _ m with q|q|⟨i,q⟩
  ·obtain ⟨v,e,dn,r⟩:=h.tr x S d q
   exact ⟨v,e,dn.to fun b _ _ z=>up b z,r⟩
  ·cases q
  ·cases q
 ·rcases hm _ _ m with q|q|⟨i,q⟩
  ·obtain ⟨v,e,dn⟩:=h.fr x d q
   exact ⟨v,e,dn.to fun b _ _ z=>up b z⟩
  ·cases q
  ·cases q
 ·rcases hm _ _ m with q|q|⟨i,q⟩
  ·obtain ⟨a,vs,e,e2,dn,r⟩:=h.ow x d q
   exact ⟨a,vs,e,e2,dn.to fun b _ _ z=>up b z,r⟩
  ·cases q
  ·cases q
 ·rcases hm _ _ m with q|q|⟨i,q⟩
  ·obtain ⟨a,vs,e,e2,dn,r⟩:=h.io x d q
   exact ⟨a,vs,e,e2,dn.to fun b _ _ z=>up b z,r⟩
  ·cases q
  ·cases q
theorem RelE.drop (h:RelE K M P H0 (E++B) H):RelE K M P H0 E H:=h.sub (fun x s m=>.inl (List.mem_append_left _ m)) (by
 have:=h.nd
 rw [oas_app] at this
 exact (List.nodup_append.mp this).1)
theorem RelE.same (h:RelE K M P H0 E H) (k:Same H H'):RelE K M P H0 E H':=by
 refine ⟨h.keep.trans (Keep.same k),fun a q z=>?_,h.mt,h.pm,fun x d m=>?_,fun x d m=>?_,fun x d m=>?_,fun x S d m=>?_,h.nd⟩
 rotate_right
 ·obtain ⟨v,e,dn,r⟩:=h.tr x S d m
  exact ⟨v,e,dn.keep (Keep.same k) fun a ha=>by
   obtain ⟨xs,z⟩:=dn.lives a ha
   rw [k a _ z,z],r⟩
 ·have q1:=h.live a q
  cases e:H a with
  | none=>exact q1 e
  | some o=>rw[k a o e] at z;cases z
 ·obtain ⟨v,e,dn⟩:=h.fr x d m
  exact ⟨v,e,dn.keep (Keep.same k)⟩
 ·obtain ⟨a,vs,e,e2,dn,r⟩:=h.ow x d m
  exact ⟨a,vs,e,k _ _ e2,dn.keep (Keep.same k),r⟩
 ·obtain ⟨a,vs,e,e2,dn,r⟩:=h.io x d m
  exact ⟨a,vs,e,k _ _ e2,dn.keep (Keep.same k),r⟩
theorem RelE.addFr (h:RelE K M P H0 E H) {v:V}{d:PyData} (dn:DN K (Nw M E) H v d):RelE K M P H0 (E++[(some v,.fr d)]) H:=by
 have oe:oas (E++[(some v,Sl.fr d)])=oas E:=by
  rw [oas_app,oas_cons,own1_fr]
  simp [oas]
 have ne:Nw M (E++[(some v,Sl.fr d)])=Nw M E:=by unfold Nw;rw[oe]
 refine ⟨h.keep,h.live,h.mt,h.pm,fun x d' m=>?_,fun x d' m=>?_,fun x d' m=>?_,fun x S d' m=>?_,by rw[oe];exact h.nd⟩
 rotate_right
 ·rw [ne]
  rcases List.mem_append.mp m with m|m
  ·exact h.tr x S d' m
  ·rw [List.mem_singleton] at m
   cases m
 ·rw [ne]
  rcases List.mem_append.mp m with m|m
  ·exact h.fr x d' m
  ·rw [List.mem_singleton] at m
   cases m
   exact ⟨v,rfl,dn⟩
 ·rw [ne]
  rcases List.mem_append.mp m with m|m
  ·exact h.ow x d' m
  ·rw [List.mem_singleton] at m
   cases m
 ·rw [ne]
  rcases List.mem_append.mp m with m|m
  ·exact h.io x d' m
  ·rw [List.mem_singleton] at m
   cases m
theorem RelE.addVw (h:RelE K M P H0 E H) {v:V}{i:Nat}:RelE K M P H0 (E++[(some v,.vw i)]) H:=by
 refine h.sub (fun x s m=>?_) ?_
 ·rcases List.mem_append.mp m with m|m
  ·exact .inl m
  ·rw [List.mem_singleton] at m
   cases m
   exact .inr (.inr ⟨i,rfl⟩)
 ·rw [oas_app,oas_cons,own1_vw]
  simpa [oas] using h.nd
theorem RelE.addOw (h:RelE K M P H0 E H) {p:Addr}{vs:List V}{ds:List PyData} (hp:H p=none) (dns:DNs K (Nw M E) H vs ds):RelE K M P H0 (E++[(some (.ref p),.ow ds)]) (upd H p (.lst vs)):=by
 have oe:oas (E++[(some (.ref p),Sl.ow ds)])=oas E++[p]:=by
  rw [oas_app]
  rfl
 have np:p ∉ oas E:=fun z=>by
  obtain ⟨vs',q,_⟩:=h.own z
  rw [hp] at q
  cases q
 have h0:H0 p=none:=by
  cases e:H0 p with
  | none=>rfl
  | some o=>exact absurd hp (h.live p (by rw[e];simp))
 have up:∀ b o,H b=some o→Nw M (E++[(some (.ref p),Sl.ow ds)]) b→Nw M E b:=fun b o e z=>by
  rcases z with z|z
  ·exact .inl z
  ·rw [oe] at z
   rcases List.mem_append.mp z with z|z
   ·exact .inr z
   ·rw [List.mem_singleton.mp z,hp] at e
    cases e
 have h':=h.same (Same.new (o:=.lst vs) hp)
 refine ⟨h'.keep,h'.live,h.mt,h.pm,fun x d' m=>?_,fun x d' m=>?_,fun x d' m=>?_,fun x S d' m=>?_,?_⟩
 rotate_right 2
 ·rcases List.mem_append.mp m with m|m
  ·obtain ⟨v,e,dn,r⟩:=h.tr x S d' m
   exact ⟨v,e,(dn.to up).keep (Keep.same (Same.new hp)) fun a ha=>by
    obtain ⟨xs,z⟩:=dn.lives a ha
    rw [Same.new hp _ _ z,z],r⟩
  ·rw [List.mem_singleton] at m
   cases m
 rotate_left
 ·rcases List.mem_append.mp m with m|m
  ·obtain ⟨v,e,dn⟩:=h.fr x d' m
   exact ⟨v,e,(dn.to up).keep (Keep.same (Same.new hp))⟩
  ·rw [List.mem_singleton] at m
   cases m
 ·rcases List.mem_append.mp m with m|m
  ·obtain ⟨a,ws,e,e2,dn,r⟩:=h.ow x d' m
   exact ⟨a,ws,e,Same.new hp _ _ e2,(dn.to up).keep (Keep.same (Same.new hp)),r⟩
  ·rw [List.mem_singleton] at m
   cases m
   exact ⟨p,vs,rfl,upd_same,(dns.to up).keep (Keep.same (Same.new hp)),h0⟩
 ·rcases List.mem_append.mp m with m|m
  ·obtain ⟨a,ws,e,e2,dn,r⟩:=h.io x d' m
   exact ⟨a,ws,e,Same.new hp _ _ e2,(dn.to up).keep (Keep.same (Same.new hp)),r⟩
  ·rw [List.mem_singleton] at m
   cases m
 ·rw [oe]
  exact List.nodup_append.mpr ⟨h.nd,by simp,fun a ha b hb=>by rw[List.mem_singleton.mp hb];exact fun z=>np (z▸ha)⟩
theorem RelE.freeze {a:Addr}{ds:List PyData} (h:RelE K M P H0 (A++(some (.ref a),.ow ds)::B) H):RelE K M P H0 (A++(some (.ref a),.fr (.list ds))::B) H:=by
 have oe:oas (A++(some (.ref a),Sl.ow ds)::B)=oas A++a::oas B:=by rw[oas_app,oas_cons];rfl
 have oe':oas (A++(some (.ref a),Sl.fr (.list ds))::B)=oas A++oas B:=by rw[oas_app,oas_cons];rfl
 have nd:=h.nd
 rw [oe] at nd
 obtain ⟨n1,n2,n3⟩:=List.nodup_append.mp nd
 obtain ⟨n4,n5⟩:=List.nodup_cons.mp n2
 have up:∀ b,Nw M (A++(some (.ref a),Sl.fr (.list ds))::B) b→Nw M (A++(some (.ref a),Sl.ow ds)::B) b:=Nw.sub fun b z=>by
  rw [oe'] at z
  rw [oe]
  rcases List.mem_append.mp z with z|z
  ·exact List.mem_append_left _ z
  ·exact List.mem_append_right _ (List.mem_cons_of_mem _ z)
 have me:(some (.ref a),Sl.ow ds)∈A++(some (.ref a),Sl.ow ds)::B:=List.mem_append_right _ List.mem_cons_self
 obtain ⟨a',vs,z,ha,dns,h0⟩:=h.ow _ _ me
 cases z
 have na:¬Nw M (A++(some (.ref a),Sl.fr (.list ds))::B) a:=fun z=>by
  rcases z with z|z
  ·exact h.mt a z h0
  ·rw [oe'] at z
   rcases List.mem_append.mp z with z|z
   ·exact n3 a z a List.mem_cons_self rfl
   ·exact n4 z
 have old:∀ x s,(x,s)∈A++(some (.ref a),Sl.fr (.list ds))::B→(x,s)=(some (.ref a),Sl.fr (.list ds))∨(x,s)∈A++(some (.ref a),Sl.ow ds)::B:=fun x s m=>by
  rcases List.mem_append.mp m with m|m
  ·exact .inr (List.mem_append_left _ m)
  ·rcases List.mem_cons.mp m with m|m
   ·exact .inl m
   ·exact .inr (List.mem_append_right _ (List.mem_cons_of_mem _ m))
 refine ⟨h.keep,h.live,h.mt,h.pm,fun x d m=>?_,fun x d m=>?_,fun x d m=>?_,fun x S d m=>?_,?_⟩
 rotate_right 2
 ·rcases old _ _ m with m|m
  ·cases m
  ·obtain ⟨v,e,dn,r⟩:=h.tr x S d m
   exact ⟨v,e,dn.to fun b _ _ z=>up b z,r⟩
 rotate_left
 ·rcases old _ _ m with m|m
  ·cases m
   exact ⟨_,rfl,.lst (SnL.of ha na) (dns.to fun b _ _ z=>up b z)⟩
  ·obtain ⟨v,e,dn⟩:=h.fr x d m
   exact ⟨v,e,dn.to fun b _ _ z=>up b z⟩
 ·rcases old _ _ m with m|m
  ·cases m
  ·obtain ⟨b,ws,e,e2,dn,r⟩:=h.ow x d m
   exact ⟨b,ws,e,e2,dn.to fun b _ _ z=>up b z,r⟩
 ·rcases old _ _ m with m|m
  ·cases m
  ·obtain ⟨b,ws,e,e2,dn,r⟩:=h.io x d m
   exact ⟨b,ws,e,e2,dn.to fun b _ _ z=>up b z,r⟩
 ·rw [oe']
  exact List.nodup_append.mpr ⟨n1,n5,fun x hx y hy=>n3 x hx y (List.mem_cons_of_mem _ hy)⟩
theorem RelE.freezeT {v:V}{S:List Addr}{d:PyData} (h:RelE K M P H0 (A++(some v,.tr S d)::B) H):RelE K M P H0 (A++(some v,.fr d)::B) H:=by
 have oe:oas (A++(some v,Sl.tr S d)::B)=oas A++(S++oas B):=by rw[oas_app,oas_cons,own1_tr]
 have oe':oas (A++(some v,Sl.fr d)::B)=oas A++oas B:=by rw[oas_app,oas_cons,own1_fr];rfl
 have nd:=h.nd
 rw [oe] at nd
 obtain ⟨n1,n2,n3⟩:=List.nodup_append.mp nd
 obtain ⟨n4,n5,n6⟩:=List.nodup_append.mp n2
 have up:∀ b,Nw M (A++(some v,Sl.fr d)::B) b→Nw M (A++(some v,Sl.tr S d)::B) b:=Nw.sub fun b z=>by
  rw [oe'] at z
  rw [oe]
  rcases List.mem_append.mp z with z|z
  ·exact List.mem_append_left _ z
  ·exact List.mem_append_right _ (List.mem_append_right _ z)
 have me:(some v,Sl.tr S d)∈A++(some v,Sl.tr S d)::B:=List.mem_append_right _ List.mem_cons_self
 obtain ⟨v',z,ot,h0⟩:=h.tr _ _ _ me
 cases z
 have na:∀ a∈S,¬Nw M (A++(some v,Sl.fr d)::B) a:=fun a ha z=>by
  rcases z with z|z
  ·exact h.mt a z (h0 a ha)
  ·rw [oe'] at z
   rcases List.mem_append.mp z with z|z
   ·exact n3 a z a (List.mem_append_left _ ha) rfl
   ·exact n6 a ha a z rfl
 have old:∀ x s,(x,s)∈A++(some v,Sl.fr d)::B→(x,s)=(some v,Sl.fr d)∨(x,s)∈A++(some v,Sl.tr S d)::B:=fun x s m=>by
  rcases List.mem_append.mp m with m|m
  ·exact .inr (List.mem_append_left _ m)
  ·rcases List.mem_cons.mp m with m|m
   ·exact .inl m
   ·exact .inr (List.mem_append_right _ (List.mem_cons_of_mem _ m))
 refine ⟨h.keep,h.live,h.mt,h.pm,fun x d' m=>?_,fun x d' m=>?_,fun x d' m=>?_,fun x S' d' m=>?_,?_⟩
 ·rcases old _ _ m with m|m
  ·cases m
   exact ⟨_,rfl,ot.dn up na⟩
  ·obtain ⟨v,e,dn⟩:=h.fr x d' m
   exact ⟨v,e,dn.to fun b _ _ z=>up b z⟩
 ·rcases old _ _ m with m|m
  ·cases m
  ·obtain ⟨b,ws,e,e2,dn,r⟩:=h.ow x d' m
   exact ⟨b,ws,e,e2,dn.to fun b _ _ z=>up b z,r⟩
 ·rcases old _ _ m with m|m
  ·cases m
  ·obtain ⟨b,ws,e,e2,dn,r⟩:=h.io x d' m
   exact ⟨b,ws,e,e2,dn.to fun b _ _ z=>up b z,r⟩
 ·rcases old _ _ m with m|m
  ·cases m
  ·obtain ⟨v,e,dn,r⟩:=h.tr x S' d' m
   exact ⟨v,e,dn.to fun b _ _ z=>up b z,r⟩
 ·rw [oe']
  exact List.nodup_append.mpr ⟨n1,n5,fun x hx y hy=>n3 x hx y (List.mem_append_right _ hy)⟩
noncomputable def isOw:Sl→List PyData→Sl→Prop
 | .ow _,ds',s'=>s'=.ow ds'
 | .io _,ds',s'=>s'=.io ds'
 | _,_,_=>False
theorem isOw_two {s s':Sl}{l:List PyData} (h:isOw s l s'):(∃ d,s=.ow d∧s'=.ow l)∨∃ d,s=.io d∧s'=.io l:=by
 cases s with
 | ow d=>exact .inl ⟨d,rfl,h⟩
 | io d=>exact .inr ⟨d,rfl,h⟩
 | _=>exact h.elim
theorem isOw_own {s s':Sl}{l:List PyData}{a:Addr} (h:isOw s l s'):own1 (some (.ref a),s)=[a]∧own1 (some (.ref a),s')=[a]:=by
 rcases isOw_two h with ⟨_,rfl,rfl⟩|⟨_,rfl,rfl⟩ <;> exact⟨rfl,rfl⟩
theorem RelE.muted {a:Addr}{s s':Sl}{vs':List V}{ds':List PyData} (h:RelE K M P H0 (A++(some (.ref a),s)::B) H) (hs:isOw s ds' s') (k:Keep (fun b=>b=a) H H') (lv:∀ b,H b≠none→H' b≠none)
  (ha:H' a=some (.lst vs')) (dns:DNs K (Nw M (A++(some (.ref a),s)::B)) H' vs' ds'):RelE K M P H0 (A++(some (.ref a),s')::B) H':=by
 have oa:own1 (some (.ref a),s)=[a]∧own1 (some (.ref a),s')=[a]:=isOw_own hs
 have oe:oas (A++(some (.ref a),s)::B)=oas A++a::oas B:=by rw[oas_app,oas_cons,oa.1];rfl
 have oe':oas (A++(some (.ref a),s')::B)=oas A++a::oas B:=by rw[oas_app,oas_cons,oa.2];rfl
 have ne:Nw M (A++(some (.ref a),s')::B)=Nw M (A++(some (.ref a),s)::B):=by unfold Nw;rw[oe,oe']
 have na:Nw M (A++(some (.ref a),s)::B) a:=.inr (by rw[oe];simp)
 have nd:=h.nd
 rw [oe] at nd
 obtain ⟨n1,n2,n3⟩:=List.nodup_append.mp nd
 obtain ⟨n4,n5⟩:=List.nodup_cons.mp n2
 have kN:Keep (Nw M (A++(some (.ref a),s)::B)) H H':=k.mono fun b z=>by rw[z];exact na
 obtain ⟨ws,hw,hP⟩:=h.own (a:=a) (by rw[oe];simp)
 have other:∀ x t b,(x,t)∈A∨(x,t)∈B→b∈own1 (x,t)→b≠a:=fun x t b m eo z=>by
  subst z
  rcases m with m|m
  ·exact n3 b (mem_oas.mpr ⟨_,m,eo⟩) b List.mem_cons_self rfl
  ·exact n4 (mem_oas.mpr ⟨_,m,eo⟩)
 have old:∀ x t,(x,t)∈A++(some (.ref a),s')::B→(x,t)=(some (.ref a),s')∨((x,t)∈A∨(x,t)∈B):=fun x t m=>by
  rcases List.mem_append.mp m with m|m
  ·exact .inr (.inl m)
  ·rcases List.mem_cons.mp m with m|m
   ·exact .inl m
   ·exact .inr (.inr m)
 have back:∀ x t,(x,t)∈A∨(x,t)∈B→(x,t)∈A++(some (.ref a),s)::B:=fun x t m=>by
  rcases m with m|m
  ·exact List.mem_append_left _ m
  ·exact List.mem_append_right _ (List.mem_cons_of_mem _ m)
 have me:(some (.ref a),s)∈A++(some (.ref a),s)::B:=List.mem_append_right _ List.mem_cons_self
 refine ⟨?_,fun b q=>lv b (h.live b q),h.mt,h.pm,fun x d m=>?_,fun x d m=>?_,fun x d m=>?_,fun x S d m=>?_,by rw[oe'];exact nd⟩
 rotate_right
 ·rw [ne]
  rcases old _ _ m with m|m
  ·rcases isOw_two hs with ⟨_,_,e⟩|⟨_,_,e⟩ <;> (rw[e] at m;cases m)
  ·obtain ⟨v,e,dn,r⟩:=h.tr x S d (back _ _ m)
   subst e
   refine ⟨v,rfl,dn.keep kN fun b hb=>?_,r⟩
   obtain ⟨xs,z⟩:=dn.lives b hb
   rw [k _ _ (other _ _ b m (by rw[own1_tr];exact hb)) z,z]
 ·intro b o np e
  by_cases hb:b=a
  ·subst hb
   rcases hP with q|q
   ·rw [q] at e;cases e
   ·exact absurd q np
  ·exact k b o hb (h.keep b o np e)
 ·rw [ne]
  rcases old _ _ m with m|m
  ·rcases isOw_two hs with ⟨_,_,e⟩|⟨_,_,e⟩ <;> (rw[e] at m;cases m)
  ·obtain ⟨v,e,dn⟩:=h.fr x d (back _ _ m)
   exact ⟨v,e,dn.keep kN⟩
 ·rw [ne]
  rcases old _ _ m with m|m
  ·rcases isOw_two hs with ⟨d0,e1,e2⟩|⟨_,_,e2⟩ <;> (rw[e2] at m;cases m)
   obtain ⟨b,us,e,_,_,r⟩:=h.ow (some (.ref a)) d0 (List.mem_append_right _ (by rw[e1];exact List.mem_cons_self))
   cases e
   exact ⟨a,vs',rfl,ha,dns,r⟩
  ·obtain ⟨b,us,e,e2,dn,r⟩:=h.ow x d (back _ _ m)
   subst e
   exact ⟨b,us,rfl,k _ _ (other _ _ b m (List.mem_singleton.mpr rfl)) e2,dn.keep kN,r⟩
 ·rw [ne]
  rcases old _ _ m with m|m
  ·rcases isOw_two hs with ⟨_,_,e2⟩|⟨d0,e1,e2⟩ <;> (rw[e2] at m;cases m)
   obtain ⟨b,us,e,_,_,r⟩:=h.io (some (.ref a)) d0 (List.mem_append_right _ (by rw[e1];exact List.mem_cons_self))
   cases e
   exact ⟨a,vs',rfl,ha,dns,r⟩
  ·obtain ⟨b,us,e,e2,dn,r⟩:=h.io x d (back _ _ m)
   subst e
   exact ⟨b,us,rfl,k _ _ (other _ _ b m (List.mem_singleton.mpr rfl)) e2,dn.keep kN,r⟩
theorem RelE.mut {a:Addr}{s s':Sl}{vs':List V}{ds':List PyData} (h:RelE K M P H0 (A++(some (.ref a),s)::B) H) (hs:isOw s ds' s') (dns:DNs K (Nw M (A++(some (.ref a),s)::B)) H vs' ds') :
  RelE K M P H0 (A++(some (.ref a),s')::B) (upd H a (.lst vs')) :=
 have oa:own1 (some (.ref a),s)=[a]:=(isOw_own hs).1
 h.muted hs (fun b o hb e=>by rw[upd_ne hb];exact e) (fun b q z=>by
  by_cases hb:b=a
  ·rw [hb,upd_same] at z;cases z
  ·rw [upd_ne hb] at z;exact q z) upd_same (dns.keep (Keep.own (.inr (mem_oas.mpr ⟨_,List.mem_append_right _ List.mem_cons_self,by rw[oa];exact List.mem_singleton.mpr rfl⟩))))
theorem RelE.move {t:Ent} (h:RelE K M P H0 (A++e::(B++[t])) H):RelE K M P H0 (A++t::B) H:=by
 refine h.sub (fun x s m=>.inl ?_) ?_
 ·rcases List.mem_append.mp m with m|m
  ·exact List.mem_append_left _ m
  ·rcases List.mem_cons.mp m with m|m
   ·exact List.mem_append_right _ (List.mem_cons_of_mem _ (List.mem_append_right _ (by rw[m];simp)))
   ·exact List.mem_append_right _ (List.mem_cons_of_mem _ (List.mem_append_left _ m))
 ·have nd:=h.nd
  have eq1:oas (A++e::(B++[t]))=oas A++(oas [e]++(oas B++oas [t])):=by
   rw [oas_app,show e::(B++[t])=[e]++(B++[t]) from rfl,oas_app,oas_app]
  have eq2:oas (A++t::B)=oas A++(oas [t]++oas B):=by
   rw [oas_app,show t::B=[t]++B from rfl,oas_app]
  rw [eq1] at nd
  rw [eq2]
  obtain ⟨n1,n2,n3⟩:=List.nodup_append.mp nd
  obtain ⟨_,n4,_⟩:=List.nodup_append.mp n2
  obtain ⟨n5,n6,n7⟩:=List.nodup_append.mp n4
  refine List.nodup_append.mpr ⟨n1,List.nodup_append.mpr ⟨n6,n5,fun x hx y hy z=>n7 y hy x hx z.symm⟩,fun x hx y hy=>?_⟩
  refine n3 x hx y (List.mem_append_right _ ?_)
  rcases List.mem_append.mp hy with hy|hy
  ·exact List.mem_append_right _ hy
  ·exact List.mem_append_left _ hy
end
end L2
namespace L2
open PySem PySem.Spec PyProof.Rows
structure Rel (K:PySem.W.Frag) (M P:Addr→Prop) (H0:Hp) (σ0 σ:St) (env:List Sl) (ts:List (V×Sl)) (H:Hp):Prop where
 e : RelE K M P H0 (ents σ env ts) H
 len:σ.length=env.length
 vw : ∀ (v:V) (i:Nat),(v,Sl.vw i)∈ts→σ[i]? = some (some v)
 ios:∀ (i:Nat) (ds:List PyData),env[i]? = some (Sl.io ds)→σ[i]? = σ0[i]?
inductive Vw (K:PySem.W.Frag) (N:Addr→Prop) (H:Hp):V→PyData→Prop
 | dn {v d}:DN K N H v d→Vw K N H v d
 | ow {a vs ds}:H a=some (.lst vs)→DNs K N H vs ds→Vw K N H (.ref a) (.list ds)
 | dct {a:Addr}{es:List (StdK×Addr×V)}{kvs:List (StdK×PyData)}:H a=some (.ext (DctAt a es))→DNs K N H (es.map fun p=>V.ref p.2.1) (kvs.map fun p=>stdD p.1)→DNs K N H (es.map fun p=>p.2.2) (kvs.map fun p=>p.2)→es.map (fun p=>p.1)=kvs.map (fun p=>p.1)→Vw K N H (.ref a) (dctD kvs)
noncomputable def slD:Sl→Option PyData
 | .fr d=>some d
 | .ow ds=>some (.list ds)
 | .io ds=>some (.list ds)
 | .tr _ (.dict kvs)=>some (.dict kvs)
 | _=>none
noncomputable def valOf (env:List Sl):Sl→Option PyData
 | .vw i=>(env[i]?).bind slD
 | .fr d=>some d
 | .ow ds=>some (.list ds)
 | .io ds=>some (.list ds)
 | .tr _ (.dict kvs)=>some (.dict kvs)
 | _=>none
noncomputable def slK:Sl→Option PyData
 | .fr d=>some d
 | _=>none
noncomputable def keepOf (env:List Sl):Sl→Option PyData
 | .vw i=>(env[i]?).bind slK
 | .fr d=>some d
 | .ow ds=>some (.list ds)
 | .tr _ d=>some d
 | _=>none
section
variable {K:PySem.W.Frag}{M P N:Addr→Prop}{H0 H H':Hp}{σ0 σ:St}{env:List Sl}{ts tt:List (V×Sl)}{v:V}{s:Sl}{d:PyData}
theorem ents_app:ents σ env (ts++tt)=ents σ env ts++tmp tt:=by
 unfold ents
 rw [List.append_assoc]
 simp [tmp]
theorem OT.dict_view {S:List Addr}{kvs:List (PyData×PyData)} (h:OT K N H v (.dict kvs) S):Vw K N H v (.dict kvs):=by
 generalize e:PyData.dict kvs=d at h
 cases h with
 | dct h q r e2=>exact .dct h q r e2
 | fz h=>exact .dn (.fz h)
 | _=>cases e
theorem Vw.dv (h:Vw K N H v d):DV K H v d:=by
 cases h with
 | dn h=>exact h.dv
 | ow h q=>exact .lst (SqL.of h) q.dv
 | dct h q r e=>exact .dct h q.dv r.dv e
theorem Vw.list {ds:List PyData} (h:Vw K N H v (.list ds)):∃ a vs,v=.ref a∧SqL K H a vs∧DNs K N H vs ds:=by
 cases h with
 | dn h=>obtain⟨a,vs,e,s,q⟩:=h.list;exact⟨a,vs,e,s.sq,q⟩
 | ow h q=>exact⟨_,_,rfl,SqL.of h,q⟩
theorem Vw.tuple {ds:List PyData} (h:Vw K N H v (.tuple ds)):∃ a vs,v=.ref a∧SqT K H a vs∧DNs K N H vs ds:=by
 cases h with
 | dn h=>obtain⟨a,vs,e,s,q⟩:=h.tuple;exact⟨a,vs,e,s.sq,q⟩
theorem Vw.int {i:Int} (h:Vw K N H v (.int i)):v=.int i:=by
 cases h with
 | dn h=>cases h;rfl
theorem Vw.bool {i:Bool} (h:Vw K N H v (.bool i)):v=.bl i:=by
 cases h with
 | dn h=>cases h;rfl
theorem Vw.none (h:Vw K N H v .none):v=.non:=by
 cases h with
 | dn h=>cases h;rfl
theorem zip_at (h:σ.length=env.length) {i:Nat} (e:env[i]? = some s):∃ x,σ[i]? = some x∧(x,s)∈σ.zip env:=by
 have hi:i<env.length:=(List.getElem?_eq_some_iff.mp e).1
 have hj:i<σ.length:=by omega
 refine ⟨σ[i],List.getElem?_eq_getElem hj,?_⟩
 have hz:i<(σ.zip env).length:=by rw[List.length_zip];omega
 have:=List.getElem_mem hz
 rw [List.getElem_zip] at this
 rwa [(List.getElem?_eq_some_iff.mp e).2] at this
theorem mem_tmp (m:(v,s)∈ts):((some v,s):Ent)∈ents σ env ts:=List.mem_append_right _ (List.mem_map.mpr ⟨(v,s),m,rfl⟩)
theorem Rel.slot (h:Rel K M P H0 σ0 σ env ts H) {i:Nat} (e:env[i]? = some s):∃ x,σ[i]? = some x∧(x,s)∈ents σ env ts:=by
 obtain ⟨x,e1,m⟩:=zip_at h.len e
 exact ⟨x,e1,List.mem_append_left _ m⟩
theorem RelE.viewE {E:List Ent} (h:RelE K M P H0 E H) {x:Option V} (m:(x,s)∈E) (e:slD s=some d):∃ v,x=some v∧Vw K (Nw M E) H v d:=by
 cases s with
 | fr d' =>
  cases e
  obtain ⟨v,e1,dn⟩:=h.fr _ _ m
  exact ⟨v,e1,.dn dn⟩
 | ow ds =>
  cases e
  obtain ⟨a,vs,e1,e2,dn,_⟩:=h.ow _ _ m
  exact ⟨_,e1,.ow e2 dn⟩
 | io ds =>
  cases e
  obtain ⟨a,vs,e1,e2,dn,_⟩:=h.io _ _ m
  exact ⟨_,e1,.ow e2 dn⟩
 | un=>cases e
 | vw i=>cases e
 | tr S d' =>
  cases d' with
  | dict kvs =>
   cases e
   obtain ⟨v,e1,ot,_⟩:=h.tr _ _ _ m
   exact ⟨v,e1,ot.dict_view⟩
  | _=>cases e
theorem Rel.there (h:Rel K M P H0 σ0 σ env ts H) {i:Nat} (e:(env[i]?).bind slD=some d):∃ v,σ[i]? = some (some v)∧Vw K (Nw M (ents σ env ts)) H v d:=by
 cases q:env[i]? with
 | none=>rw[q] at e;cases e
 | some s =>
  rw [q] at e
  obtain ⟨x,e1,m⟩:=h.slot q
  obtain ⟨v,e2,w⟩:=h.e.viewE m e
  exact ⟨v,by rw[e1,e2],w⟩
theorem Rel.view (h:Rel K M P H0 σ0 σ env ts H) (m:(v,s)∈ts) (e:valOf env s=some d):Vw K (Nw M (ents σ env ts)) H v d:=by
 cases s with
 | vw i =>
  obtain ⟨w,e1,q⟩:=h.there e
  rw [h.vw v i m] at e1
  cases e1
  exact q
 | un=>cases e
 | tr S d' =>
  cases d' with
  | dict kvs=>obtain⟨w,e1,q⟩:=h.e.viewE (s:=.tr S (.dict kvs)) (mem_tmp m) e;cases e1;exact q
  | _=>cases e
 | fr d'=>obtain⟨w,e1,q⟩:=h.e.viewE (mem_tmp m) e;cases e1;exact q
 | ow d'=>obtain⟨w,e1,q⟩:=h.e.viewE (mem_tmp m) e;cases e1;exact q
 | io d'=>obtain⟨w,e1,q⟩:=h.e.viewE (mem_tmp m) e;cases e1;exact q
theorem nw_app {E B:List Ent}{b:Addr} (h:Nw M E b):Nw M (E++B) b:=by
 rcases h with h|h
 ·exact .inl h
 ·exact .inr (by rw[oas_app];exact List.mem_append_left _ h)
theorem Rel.drop (h:Rel K M P H0 σ0 σ env (ts++tt) H):Rel K M P H0 σ0 σ env ts H :=
 ⟨by have:=h.e;rw[ents_app] at this;exact this.drop,h.len,fun v i m=>h.vw v i (List.mem_append_left _ m),h.ios⟩
theorem Rel.same (h:Rel K M P H0 σ0 σ env ts H) (k:Same H H'):Rel K M P H0 σ0 σ env ts H':=⟨h.e.same k,h.len,h.vw,h.ios⟩
theorem Rel.addFr (h:Rel K M P H0 σ0 σ env ts H) (dn:DN K (Nw M (ents σ env ts)) H v d):Rel K M P H0 σ0 σ env (ts++[(v,.fr d)]) H :=
 ⟨by rw[ents_app];exact h.e.addFr dn,h.len,(fun w i m=>by
  rcases List.mem_append.mp m with m|m
  ·exact h.vw w i m
  ·rw [List.mem_singleton] at m;cases m),h.ios⟩
theorem Rel.addVw (h:Rel K M P H0 σ0 σ env ts H) {i:Nat} (e:σ[i]? = some (some v)):Rel K M P H0 σ0 σ env (ts++[(v,.vw i)]) H :=
 ⟨by rw[ents_app];exact h.e.addVw,h.len,(fun w i m=>by
  rcases List.mem_append.mp m with m|m
  ·exact h.vw w i m
  ·rw [List.mem_singleton] at m;cases m;exact e),h.ios⟩
theorem Rel.addOw (h:Rel K M P H0 σ0 σ env ts H) {p:Addr}{vs:List V}{ds:List PyData} (hp:H p=none) (dns:DNs K (Nw M (ents σ env ts)) H vs ds):Rel K M P H0 σ0 σ env (ts++[(.ref p,.ow ds)]) (upd H p (.lst vs)) :=
 ⟨by rw[ents_app];exact h.e.addOw hp dns,h.len,(fun w i m=>by
  rcases List.mem_append.mp m with m|m
  ·exact h.vw w i m
  ·rw [List.mem_singleton] at m;cases m),h.ios⟩
theorem Rel.res (h:Rel K M P H0 σ0 σ env (ts++tt) H) (k:Same H H') (dn:DN K (Nw M (ents σ env (ts++tt))) H' v d):Rel K M P H0 σ0 σ env (ts++[(v,.fr d)]) H' :=
 (h.drop.same k).addFr (dn.to fun b _ _ z=>by rw[ents_app];exact nw_app z)
theorem Rel.resOw (h:Rel K M P H0 σ0 σ env (ts++tt) H) {p:Addr}{vs:List V}{ds:List PyData} (hp:H p=none) (dns:DNs K (Nw M (ents σ env (ts++tt))) H vs ds):Rel K M P H0 σ0 σ env (ts++[(.ref p,.ow ds)]) (upd H p (.lst vs)) :=
 h.drop.addOw hp (dns.to fun b _ _ z=>by rw[ents_app];exact nw_app z)
end
noncomputable abbrev DE:=List Sl→(Sl→List Sl→Prop)→Prop
noncomputable abbrev DT:=List Sl→(Bool→List Sl→Prop)→Prop
noncomputable abbrev DA:=List Sl→(List Sl→List Sl→Prop)→Prop
structure Wn {α:Type} (a:α):Type
noncomputable def dK (R:Sl→List Sl→Prop) (_:Wn R):Sl→List Sl→Prop:=R
theorem dK_app (R:Sl→List Sl→Prop) (w:Wn R) (s:Sl) (env:List Sl):dK R w s env=R s env:=rfl
noncomputable def dI (W:List Sl→Prop) (_:Wn W):List Sl→Prop:=W
theorem dI_app (W:List Sl→Prop) (w:Wn W) (env:List Sl):dI W w env=W env:=rfl
noncomputable abbrev Wk (G Q:Prop):Prop:=(G→Q)→(Q→G)→Q→G
theorem wk_ite {c:Bool}{p A A' B B':Prop} [Decidable p] (e:c=decide p) (a:A'→A) (b:B'→B) (h:if p then A' else B'):if c=true then A else B:=by
 subst e
 by_cases q:p
 ·rw [if_pos q] at h
  rw [if_pos (decide_eq_true q)]
  exact a h
 ·rw [if_neg q] at h
  rw [if_neg fun z=>q (of_decide_eq_true z)]
  exact b h
noncomputable def up (K:PySem.W.Frag) (t:DE):TE:=fun σ H Q=>∃ (M P:Addr→Prop) (H0:Hp) (σ0:St) (env:List Sl) (ts:List (V×Sl)) (R:Sl→List Sl→Prop),Rel K M P H0 σ0 σ env ts H∧t env R ∧
 ∀ s env' v H',R s env'→Rel K M P H0 σ0 σ env' (ts++[(v,s)]) H'→Q v H'
noncomputable def upT (K:PySem.W.Frag) (t:DT):TT:=fun σ H Q=>∃ (M P:Addr→Prop) (H0:Hp) (σ0:St) (env:List Sl) (ts:List (V×Sl)) (R:Bool→List Sl→Prop),Rel K M P H0 σ0 σ env ts H∧t env R ∧
 ∀ b env' H',R b env'→Rel K M P H0 σ0 σ env' ts H'→Q b H'
noncomputable def upA (K:PySem.W.Frag) (t:DA):TA:=fun σ H Q=>∃ (M P:Addr→Prop) (H0:Hp) (σ0:St) (env:List Sl) (ts:List (V×Sl)) (R:List Sl→List Sl→Prop),Rel K M P H0 σ0 σ env ts H∧t env R ∧
 ∀ ss env' vs H',R ss env'→vs.length=ss.length→Rel K M P H0 σ0 σ env' (ts++vs.zip ss) H'→Q vs H'
theorem PE.imp {X:Cx}{e:Expr}{t t':TE} (h:PE X e t) (k:∀ σ H Q,t' σ H Q→t σ H Q):PE X e t':=fun pins s σ H Q I hw=>h pins s σ H Q I (k σ H Q hw)
theorem PT.imp {X:Cx}{e:Expr}{t t':TT} (h:PT X e t) (k:∀ σ H Q,t' σ H Q→t σ H Q):PT X e t':=fun pins s σ H Q I hw=>h pins s σ H Q I (k σ H Q hw)
theorem PW.imp {X:Cx}{e:Expr}{t t':TT} (h:PW X e t) (k:∀ σ H Q,t' σ H Q→t σ H Q):PW X e t':=fun wh pins s σ H Q I hw=>h wh pins s σ H Q I (k σ H Q hw)
theorem PA.imp {X:Cx}{e:List Expr}{t t':TA} (h:PA X e t) (k:∀ σ H Q,t' σ H Q→t σ H Q):PA X e t':=fun pos pins s σ H Q I hw=>h pos pins s σ H Q I (k σ H Q hw)
section
variable {X:Cx}{K:PySem.W.Frag}{pos:Pos}{a b c:Expr}{ta tb tc:DE}{es:List Expr}{tA tB':DT}{tl:DA}
noncomputable def dVar (i:Nat):DE:=fun env R=>∃ d,(env[i]?).bind slD=some d∧R (.vw i) env
theorem qv (i:Nat) {x:Str} (hN:X.N[i]? = some x:=by rfl) (hv:Vis X.env.scope x:=by first|exact Or.inl rfl|exact Or.inr (Or.inl rfl)|exact Or.inr (Or.inr rfl)) (hd:(x==("__debug__" : Str))=false:=by decide)
  (hcd:(x==("__classdict__" : Str))=false:=by decide):PE X (.Name x pos) (up K (dVar i)):=(pe_var hN hv hd hcd).imp fun σ H Q h=>by
 obtain ⟨M,P,H0,σ0,env,ts,R,rel,⟨d,e,hR⟩,hq⟩:=h
 obtain ⟨v,e1,_⟩:=rel.there e
 exact ⟨v,e1,hq _ _ _ _ hR (rel.addVw e1)⟩
theorem mem_split {α:Type}:∀ {l:List α}{i:Nat}{x:α},l[i]? = some x→∃ A B,l=A++x::B∧∀ y,l.set i y=A++y::B
 | [],i,x,h=>by simp at h
 | z::l,0,x,h=>by
  simp at h
  subst h
  exact ⟨[],l,rfl,fun y=>rfl⟩
 | z::l,i+1,x,h=>by
  obtain ⟨A,B,e1,e2⟩:=mem_split (l:=l) (i:=i) (x:=x) (by simpa using h)
  exact ⟨z::A,B,by rw[e1];rfl,fun y=>by rw[List.set_cons_succ,e2 y];rfl⟩
theorem zip_get {α β:Type} (l:List α) (m:List β) (j:Nat):(l.zip m)[j]? = (l[j]?).bind fun a=>(m[j]?).map fun b=>(a,b):=by
 rw [List.zip,List.getElem?_zipWith]
 cases l[j]? <;> cases m[j]? <;> rfl
theorem zip_set {σ:St}{env:List Sl}{i:Nat}{x:Option V}{s':Sl} (h:σ[i]? = some x):σ.zip (env.set i s')=(σ.zip env).set i (x,s'):=by
 apply List.ext_getElem?
 intro j
 by_cases hj:i=j
 ·subst hj
  rw [List.getElem?_set_self',zip_get,zip_get,h]
  by_cases hi:i<env.length
  ·rw [List.getElem?_set_self hi,List.getElem?_eq_getElem hi]
   rfl
  ·rw [List.getElem?_eq_none (by simp;omega),List.getElem?_eq_none (by omega)]
   rfl
 ·rw [List.getElem?_set_ne hj,zip_get,zip_get,List.getElem?_set_ne hj]
theorem Rel.split {M P:Addr→Prop}{H0 H:Hp}{σ0 σ:St}{env:List Sl}{ts:List (V×Sl)}{i:Nat}{s:Sl} (h:Rel K M P H0 σ0 σ env ts H) (e:env[i]? = some s) :
  ∃ x A B,σ[i]? = some x∧ents σ env ts=A++(x,s)::B∧∀ s',ents σ (env.set i s') ts=A++(x,s')::B:=by
 obtain ⟨x,e1,m⟩:=zip_at h.len e
 have ez:(σ.zip env)[i]? = some (x,s):=by rw[List.zip,List.getElem?_zipWith,e1,e]
 obtain ⟨A,B,q1,q2⟩:=mem_split ez
 refine ⟨x,A,B++tmp ts,e1,by unfold ents;rw[q1];simp,fun s'=>?_⟩
 unfold ents
 rw [zip_set e1,q2]
 simp
noncomputable def dFrz (i:Nat):DE:=fun env R=>match env[i]? with
 | some (.fr d)=>R (.fr d) env
 | some (.tr _ d)=>R (.fr d) (env.set i (.fr d))
 | some (.ow ds)=>R (.fr (.list ds)) (env.set i (.fr (.list ds)))
 | _=>False
theorem Rel.frz {M P:Addr→Prop}{H0 H:Hp}{σ0 σ:St}{env:List Sl}{ts:List (V×Sl)}{i:Nat}{ds:List PyData} (h:Rel K M P H0 σ0 σ env ts H) (e:env[i]? = some (.ow ds)):Rel K M P H0 σ0 σ (env.set i (.fr (.list ds))) ts H:=by
 obtain ⟨x,A,B,e1,q1,q2⟩:=h.split e
 have r:=h.e
 rw [q1] at r
 obtain ⟨a,vs,z,_⟩:=r.ow _ _ (List.mem_append_right _ List.mem_cons_self)
 subst z
 refine ⟨by rw[q2];exact r.freeze,by simp[h.len],h.vw,fun j ds' e'=>?_⟩
 by_cases hj:i=j
 ·subst hj
  have hi:i<env.length:=(List.getElem?_eq_some_iff.mp e).1
  rw [List.getElem?_set_self hi] at e'
  cases e'
 ·rw [List.getElem?_set_ne hj] at e'
  exact h.ios j ds' e'
theorem Rel.frzT {M P:Addr→Prop}{H0 H:Hp}{σ0 σ:St}{env:List Sl}{ts:List (V×Sl)}{i:Nat}{S:List Addr}{d:PyData} (h:Rel K M P H0 σ0 σ env ts H) (e:env[i]? = some (.tr S d)):Rel K M P H0 σ0 σ (env.set i (.fr d)) ts H:=by
 obtain ⟨x,A,B,e1,q1,q2⟩:=h.split e
 have r:=h.e
 rw [q1] at r
 obtain ⟨v,z,_⟩:=r.tr _ _ _ (List.mem_append_right _ List.mem_cons_self)
 subst z
 refine ⟨by rw[q2];exact r.freezeT,by simp[h.len],h.vw,fun j ds' e'=>?_⟩
 by_cases hj:i=j
 ·subst hj
  have hi:i<env.length:=(List.getElem?_eq_some_iff.mp e).1
  rw [List.getElem?_set_self hi] at e'
  cases e'
 ·rw [List.getElem?_set_ne hj] at e'
  exact h.ios j ds' e'
theorem qf (i:Nat) {x:Str} (hN:X.N[i]? = some x:=by rfl) (hv:Vis X.env.scope x:=by first|exact Or.inl rfl|exact Or.inr (Or.inl rfl)|exact Or.inr (Or.inr rfl)) (hd:(x==("__debug__" : Str))=false:=by decide)
  (hcd:(x==("__classdict__" : Str))=false:=by decide):PE X (.Name x pos) (up K (dFrz i)):=(pe_var hN hv hd hcd).imp fun σ H Q h=>by
 obtain ⟨M,P,H0,σ0,env,ts,R,rel,ht,hq⟩:=h
 have key:∀ env' d,Rel K M P H0 σ0 σ env' ts H→env'[i]? = some (.fr d)→R (.fr d) env'→tVar i σ H Q:=fun env' d rel' e' hR=>by
  obtain ⟨x',e1,m⟩:=rel'.slot e'
  obtain ⟨v,e2,dn⟩:=rel'.e.fr _ _ m
  subst e2
  exact ⟨v,e1,hq _ _ _ _ hR (rel'.addFr dn)⟩
 unfold dFrz at ht
 split at ht
 ·rename_i d e
  exact key env d rel e ht
 ·rename_i S d e
  have hi:i<env.length:=(List.getElem?_eq_some_iff.mp e).1
  exact key _ _ (rel.frzT e) (List.getElem?_set_self hi) ht
 ·rename_i ds e
  have hi:i<env.length:=(List.getElem?_eq_some_iff.mp e).1
  exact key _ _ (rel.frz e) (List.getElem?_set_self hi) ht
 ·exact ht.elim
noncomputable def dC (d:PyData):DE:=fun env R=>R (.fr d) env
theorem q_int {i j}:PE X (.Constant (.int i) j pos) (up K (dC (.int i))):=pe_int.imp fun σ H Q h=>by
 obtain ⟨M,P,H0,σ0,env,ts,R,rel,ht,hq⟩:=h
 exact hq _ _ _ _ ht (rel.addFr (.int i))
theorem q_bl {i j}:PE X (.Constant (.bool i) j pos) (up K (dC (.bool i))):=pe_bl.imp fun σ H Q h=>by
 obtain ⟨M,P,H0,σ0,env,ts,R,rel,ht,hq⟩:=h
 exact hq _ _ _ _ ht (rel.addFr (.bl i))
theorem q_non {j}:PE X (.Constant .none j pos) (up K (dC .none)):=pe_non.imp fun σ H Q h=>by
 obtain ⟨M,P,H0,σ0,env,ts,R,rel,ht,hq⟩:=h
 exact hq _ _ _ _ ht (rel.addFr .non)
noncomputable abbrev G2:=PyData→PyData→(PyData→Prop)→Prop
noncomputable def dOp (g:G2) (ta tb:DE):DE:=fun env R=>ta env fun s1 env1=>tb env1 fun s2 env2=>∃ d1 d2,valOf env2 s1=some d1∧valOf env2 s2=some d2∧g d1 d2 fun d=>R (.fr d) env2
noncomputable def Means (K:PySem.W.Frag) (r:R2) (g:G2):Prop:=∀ (N:Addr→Prop) (H:Hp) (x y:V) (d1 d2:PyData) (R:PyData→Prop) (Q:VK),Vw K N H x d1→Vw K N H y d2→g d1 d2 R→(∀ d v,R d→DN K N H v d→Q v H)→r x y H Q
theorem op_up {r:R2}{g:G2} (m:Means K r g):∀ σ H Q,up K (dOp g ta tb) σ H Q→tOp r (up K ta) (up K tb) σ H Q:=fun σ H Q h=>by
 obtain ⟨M,P,H0,σ0,env,ts,R,rel,ht,hq⟩:=h
 refine ⟨M,P,H0,σ0,env,ts,_,rel,ht,fun s1 env1 v1 H1 h1 rel1=>⟨M,P,H0,σ0,env1,ts++[(v1,s1)],_,rel1,h1,fun s2 env2 v2 H2 h2 rel2=>?_⟩⟩
 obtain ⟨d1,d2,e1,e2,g⟩:=h2
 refine m _ H2 v1 v2 d1 d2 _ Q (rel2.view (by simp) e1) (rel2.view (by simp) e2) g fun d v hR dn=>hq _ _ _ _ hR ?_
 have rel2':Rel K M P H0 σ0 σ env2 (ts++[(v1,s1),(v2,s2)]) H2:=by simpa using rel2
 exact rel2'.res (Same.refl _) (by simpa using dn)
theorem q_op {op:Operator}{r:R2}{g:G2} (ho:OpR X (binaryOp op) r) (m:Means K r g) (ha:PE X a (up K ta)) (hb:PE X b (up K tb)):PE X (.BinOp a op b pos) (up K (dOp g ta tb)):=(pe_op ho ha hb).imp (op_up m)
theorem q_cmp {op:CmpOp}{r:R2}{g:G2} (ho:OpR X (compareOp op) r) (m:Means K r g) (ha:PE X a (up K ta)) (hb:PE X b (up K tb)) (hm:behindInMarks op b=false):PE X (.Compare a [op] [b] pos) (up K (dOp g ta tb)):=(pe_cmpR ho ha hb hm).imp (op_up m)
noncomputable def dTest (t:DE):DT:=fun env R=>t env fun s env1=>∃ k,valOf env1 s=some (.bool k)∧R k env1
theorem test_up {t:TE}{td:DE} (h:∀ σ H Q,up K td σ H Q→t σ H Q):∀ σ H Q,upT K (dTest td) σ H Q→tTest t σ H Q:=fun σ H Q hh=>by
 obtain ⟨M,P,H0,σ0,env,ts,R,rel,ht,hq⟩:=hh
 refine h σ H _ ⟨M,P,H0,σ0,env,ts,_,rel,ht,fun s1 env1 v1 H1 h1 rel1=>?_⟩
 obtain ⟨k,e,hR⟩:=h1
 exact ⟨k,(rel1.view (by simp) e).bool,hq _ _ _ hR rel1.drop⟩
theorem qt_cmp {op:CmpOp}{r:R2}{g:G2} (ho:OpR X (compareOp op) r) (m:Means K r g) (ha:PE X a (up K ta)) (hb:PE X b (up K tb)) (hm:behindInMarks op b=false):PT X (.Compare a [op] [b] pos) (upT K (dTest (dOp g ta tb))):=(pt_cmpR ho ha hb hm).imp (test_up (op_up m))
theorem q_ix {r:R2}{g:G2} (hr:IxR X r) (m:Means K r g) (ha:PE X a (up K ta)) (hb:PE X b (up K tb)) (hs:PlainIx b):PE X (.Subscript a b pos) (up K (dOp g ta tb)):=(pe_ix hr ha hb hs).imp (op_up m)
theorem qt_val {e:Expr}{t:DE} (h:PE X e (up K t)) (he:∀ whole,isTrue e X.env whole=(do let v ←whole;standAt e.pos;holding [v] (truthy v)):=by intro _;rfl):PT X e (upT K (dTest t)):=(pt_val h he).imp (test_up fun _ _ _ h=>h)
noncomputable def dAnd (t u:DT):DT:=fun env R=>t env fun k env1=>if k=true then u env1 R else R false env1
noncomputable def dNot (t:DT):DT:=fun env R=>t env fun k env1=>R (!k) env1
theorem qw_and1 (ha:PT X a (upT K tA)):PW X (.BoolOp .And [a] pos) (upT K tA):=pw_and1 ha
theorem qw_and (ha:PT X a (upT K tA)) (hb:PW X (.BoolOp .And (b::es) pos) (upT K tB')):PW X (.BoolOp .And (a::b::es) pos) (upT K (dAnd tA tB')):=(pw_and ha hb).imp fun σ H Q h=>by
 obtain ⟨M,P,H0,σ0,env,ts,R,rel,ht,hq⟩:=h
 refine ⟨M,P,H0,σ0,env,ts,_,rel,ht,fun k env1 H1 h1 rel1=>?_⟩
 cases k with
 | true=>exact⟨M,P,H0,σ0,env1,ts,R,rel1,h1,hq⟩
 | false=>exact hq _ _ _ h1 rel1
theorem qt_not (ha:PT X a (upT K tA)):PT X (.UnaryOp .Not a pos) (upT K (dNot tA)):=(pt_not ha).imp fun σ H Q h=>by
 obtain ⟨M,P,H0,σ0,env,ts,R,rel,ht,hq⟩:=h
 exact ⟨M,P,H0,σ0,env,ts,_,rel,ht,fun k env1 H1 h1 rel1=>hq _ _ _ h1 rel1⟩
noncomputable def dAndV (t u:DE):DE:=fun env R=>t env fun s env1=>∃ k,valOf env1 s=some (.bool k)∧if k=true then u env1 R else R (.fr (.bool false)) env1
theorem q_one {op} (h:PE X a (up K ta)):PE X (.BoolOp op [a] pos) (up K ta):=pe_one h
theorem q_and (ha:PE X a (up K ta)) (hb:PE X (.BoolOp .And (b::es) pos) (up K tb)):PE X (.BoolOp .And (a::b::es) pos) (up K (dAndV ta tb)):=(pe_and ha hb).imp fun σ H Q h=>by
 obtain ⟨M,P,H0,σ0,env,ts,R,rel,ht,hq⟩:=h
 refine ⟨M,P,H0,σ0,env,ts,_,rel,ht,fun s1 env1 v1 H1 h1 rel1=>?_⟩
 obtain ⟨k,e,h1⟩:=h1
 refine ⟨k,(rel1.view (by simp) e).bool,?_⟩
 cases k with
 | true=>exact⟨M,P,H0,σ0,env1,ts,R,rel1.drop,h1,hq⟩
 | false=>exact hq _ _ _ _ h1 (rel1.drop.addFr (.bl false))
noncomputable def dIf (t:DT) (ta tb:DE):DE:=fun env R=>t env fun k env1=>if k=true then ta env1 R else tb env1 R
theorem q_ifExp (hc:PT X c (upT K tA)) (ha:PE X a (up K ta)) (hb:PE X b (up K tb)):PE X (.IfExp c a b pos) (up K (dIf tA ta tb)):=(pe_ifExp hc ha hb).imp fun σ H Q h=>by
 obtain ⟨M,P,H0,σ0,env,ts,R,rel,ht,hq⟩:=h
 refine ⟨M,P,H0,σ0,env,ts,_,rel,ht,fun k env1 H1 h1 rel1=>?_⟩
 cases k with
 | true=>exact⟨M,P,H0,σ0,env1,ts,R,rel1,h1,hq⟩
 | false=>exact⟨M,P,H0,σ0,env1,ts,R,rel1,h1,hq⟩
noncomputable abbrev G1:=PyData→(PyData→Prop)→Prop
noncomputable def dUn (g:G1) (ta:DE):DE:=fun env R=>ta env fun s1 env1=>∃ d1,valOf env1 s1=some d1∧g d1 fun d=>R (.fr d) env1
theorem q_un {op:UnaryOp}{r:V→Hp→VK→Prop}{g:G1} (ho:UnR X (unaryOp op) r) (m:∀ (N:Addr→Prop) (H:Hp) (x:V) (d1:PyData) (R:PyData→Prop) (Q:VK),Vw K N H x d1→g d1 R→(∀ d v,R d→DN K N H v d→Q v H)→r x H Q)
  (ha:PE X a (up K ta)):PE X (.UnaryOp op a pos) (up K (dUn g ta)):=(pe_un ho ha).imp fun σ H Q h=>by
 obtain ⟨M,P,H0,σ0,env,ts,R,rel,ht,hq⟩:=h
 refine ⟨M,P,H0,σ0,env,ts,_,rel,ht,fun s1 env1 v1 H1 h1 rel1=>?_⟩
 obtain ⟨d1,e1,g⟩:=h1
 exact m _ H1 v1 d1 _ Q (rel1.view (by simp) e1) g fun d v hR dn=>hq _ _ _ _ hR (rel1.res (Same.refl _) dn)
noncomputable def dNil:DA:=fun env R=>R [] env
noncomputable def dCons (t:DE) (u:DA):DA:=fun env R=>t env fun s env1=>u env1 fun ss env2=>R (s::ss) env2
theorem qa_nil:PA X [] (upA K dNil):=pa_nil.imp fun σ H Q h=>by
 obtain ⟨M,P,H0,σ0,env,ts,R,rel,ht,hq⟩:=h
 exact hq [] env [] H ht rfl (by simpa using rel)
theorem qa_cons (ha:PE X a (up K ta)) (hr:PA X es (upA K tl)) (hs:starEach (a::es) X.env=(false,eval a X.env)::starEach es X.env:=by rfl):PA X (a::es) (upA K (dCons ta tl)):=(pa_cons ha hr hs).imp fun σ H Q h=>by
 obtain ⟨M,P,H0,σ0,env,ts,R,rel,ht,hq⟩:=h
 refine ⟨M,P,H0,σ0,env,ts,_,rel,ht,fun s1 env1 v1 H1 h1 rel1=>⟨M,P,H0,σ0,env1,ts++[(v1,s1)],_,rel1,h1,fun ss env2 vs H2 h2 hl rel2=>?_⟩⟩
 exact hq (s1::ss) env2 (v1::vs) H2 h2 (by simp[hl]) (by simpa using rel2)
end
end L2
namespace L2
open PySem PySem.Spec PyProof.Rows
section
variable {K:PySem.W.Frag}{M P N:Addr→Prop}{H0 H H':Hp}{σ0 σ:St}{env:List Sl}{ts tt:List (V×Sl)}{v:V}{s:Sl}{d:PyData}
noncomputable def gI (f:Int→Int→Int):G2:=fun d e R=>∃ i j,d=.int i∧e=.int j∧R (.int (f i j))
noncomputable def gIC (C:Int→Int→Prop) (f:Int→Int→Int):G2:=fun d e R=>∃ i j,d=.int i∧e=.int j∧C i j∧R (.int (f i j))
noncomputable def gB (f:Int→Int→Bool):G2:=fun d e R=>∃ i j,d=.int i∧e=.int j∧R (.bool (f i j))
theorem mI {f:Int→Int→Int}:Means K (rI0 fun i j=>.int (f i j)) (gI f):=by
 rintro N H x y d e R Q w1 w2 ⟨i,j,rfl,rfl,hR⟩ hq
 exact ⟨i,j,w1.int,w2.int,hq _ _ hR (.int _)⟩
theorem mIC {C:Int→Int→Prop}{f:Int→Int→Int}:Means K (rI C fun i j=>.int (f i j)) (gIC C f):=by
 rintro N H x y d e R Q w1 w2 ⟨i,j,rfl,rfl,hC,hR⟩ hq
 exact ⟨i,j,w1.int,w2.int,hC,hq _ _ hR (.int _)⟩
theorem mB {f:Int→Int→Bool}:Means K (rI0 fun i j=>.bl (f i j)) (gB f):=by
 rintro N H x y d e R Q w1 w2 ⟨i,j,rfl,rfl,hR⟩ hq
 exact ⟨i,j,w1.int,w2.int,hq _ _ hR (.bl _)⟩
theorem mEqI:Means K rEq (gB fun i j=>decide (i=j)):=by
 rintro N H x y d e R Q w1 w2 ⟨i,j,rfl,rfl,hR⟩ hq
 rw [w1.int,w2.int]
 refine ⟨rfl,?_⟩
 have q:=hq _ _ hR (.bl _)
 rwa [show decide (V.int i=V.int j)=decide (i=j) by simp]
noncomputable def gEq:G2:=fun d e R=>shp d∧shp e∧R (.bool (PyData.eqv d e))
theorem mEq:Means K (rEqD K) gEq:=fun N H x y d e R Q w1 w2 ⟨h1,h2,hR⟩ hq=>⟨d,e,w1.dv,w2.dv,h1,h2,hq _ _ hR (.bl _)⟩
noncomputable def isNn:PyData→Bool
 | .none=>true
 | _=>false
theorem Vw.isNon (w:Vw K N H v d):decide (v=.non)=isNn d:=by
 cases w with
 | dn h =>
  cases h with
  | fz h=>obtain⟨a,xs,e,_⟩:=h.list;subst e;simp[isNn]
  | _=>simp[isNn]
 | ow h q=>simp[isNn]
 | dct h q r e=>simp[isNn]
noncomputable def gIsN:G2:=fun d e R=>e=.none∧R (.bool (isNn d))
noncomputable def gNotN:G2:=fun d e R=>e=.none∧R (.bool (!isNn d))
theorem mIsN:Means K (fun x y H Q=>y=.non∧Q (.bl (decide (x=.non))) H) gIsN:=by
 rintro N H x y d e R Q w1 w2 ⟨rfl,hR⟩ hq
 exact ⟨w2.none,by rw[w1.isNon];exact hq _ _ hR (.bl _)⟩
theorem mNotN:Means K (fun x y H Q=>y=.non∧Q (.bl (!decide (x=.non))) H) gNotN:=by
 rintro N H x y d e R Q w1 w2 ⟨rfl,hR⟩ hq
 exact ⟨w2.none,by rw[w1.isNon];exact hq _ _ hR (.bl _)⟩
noncomputable def seqOf:PyData→Option (List PyData)
 | .list ds=>some ds
 | .tuple ds=>some ds
 | _=>none
noncomputable def intOf:PyData→Option Int
 | .int i=>some i
 | _=>none
noncomputable def intsOf:List PyData→Option (List Int)
 | []=>some []
 | d::ds=>(intOf d).bind fun i=>(intsOf ds).map (i::·)
theorem intsOf_map:∀ ns:List Int,intsOf (ns.map .int)=some ns
 | []=>rfl
 | n::ns=>by rw[List.map_cons,intsOf,intsOf_map ns];rfl
theorem intsOf_some:∀ {ds:List PyData}{ns:List Int},intsOf ds=some ns→ds=ns.map .int
 | [],ns,h=>by cases h;rfl
 | d::ds,ns,h=>by
  unfold intsOf at h
  cases d <;> simp[intOf] at h
  obtain ⟨ms,h1,rfl⟩:=h
  rw [intsOf_some h1];rfl
theorem Vw.seq {ds:List PyData} (w:Vw K N H v d) (e:seqOf d=some ds):∃ a vs,v=.ref a∧(SqL K H a vs∨SqT K H a vs)∧DNs K N H vs ds:=by
 cases d <;> simp[seqOf] at e
 ·subst e
  obtain ⟨a,vs,e1,s,q⟩:=w.list
  exact ⟨a,vs,e1,.inl s,q⟩
 ·subst e
  obtain ⟨a,vs,e1,s,q⟩:=w.tuple
  exact ⟨a,vs,e1,.inr s,q⟩
theorem inV_ints (i:Int) (ns:List Int):inV (.int i) (ns.map V.int)=decide (i∈ns):=by
 unfold inV
 induction ns with
 | nil=>rfl
 | cons n r ih =>
  rw [List.map_cons,List.any_cons,ih]
  have:eqV (.int n) (.int i)=decide (n=i):=(show eqV (.int n) (.int i)=(n==i) from rfl).trans (by rw[Bool.eq_iff_iff];simp)
  rw [this]
  by_cases h1:n=i
  ·simp [h1]
  ·have:¬i=n:=fun z=>h1 z.symm
   simp [h1,this]
theorem flat_ints (ns:List Int):(ns.map V.int).all flatV=true:=by
 rw [List.all_eq_true]
 intro x hx
 obtain ⟨n,_,rfl⟩:=List.mem_map.mp hx
 rfl
noncomputable def gIn:G2:=fun d e R=>∃ i ds ns,d=.int i∧seqOf e=some ds∧intsOf ds=some ns∧R (.bool (decide (i∈ns)))
noncomputable def gNotIn:G2:=fun d e R=>∃ i ds ns,d=.int i∧seqOf e=some ds∧intsOf ds=some ns∧R (.bool (!decide (i∈ns)))
theorem mIn:Means K (rIn K false) gIn:=by
 rintro N H x y d e R Q w1 w2 ⟨i,ds,ns,rfl,e1,e2,hR⟩ hq
 obtain ⟨a,vs,rfl,s,q⟩:=w2.seq e1
 rw [intsOf_some e2] at q
 rw [q.ints] at s
 rw [w1.int]
 refine ⟨a,_,rfl,s,rfl,flat_ints ns,?_⟩
 rw [inV_ints]
 exact hq _ _ hR (.bl _)
theorem mNotIn:Means K (rIn K true) gNotIn:=by
 rintro N H x y d e R Q w1 w2 ⟨i,ds,ns,rfl,e1,e2,hR⟩ hq
 obtain ⟨a,vs,rfl,s,q⟩:=w2.seq e1
 rw [intsOf_some e2] at q
 rw [q.ints] at s
 rw [w1.int]
 refine ⟨a,_,rfl,s,rfl,flat_ints ns,?_⟩
 rw [inV_ints]
 exact hq _ _ hR (.bl _)
theorem DNs.atI {vs:List V}{ds:List PyData}{i:Int}{e:PyData} (q:DNs K N H vs ds) (h:L2.atI ds i=some e):∃ v,L2.atI vs i=some v∧DN K N H v e:=by
 unfold L2.atI at h ⊢
 rw [q.len]
 cases hj:ixN ds.length i with
 | none=>rw[hj] at h;cases h
 | some j =>
  rw [hj] at h
  have h:ds[j]? = some e:=h
  have hlt:j<vs.length:=by rw[q.len];exact (List.getElem?_eq_some_iff.mp h).1
  obtain ⟨e',h1,h2⟩:=q.get (List.getElem?_eq_getElem hlt)
  rw [h] at h1
  cases h1
  exact ⟨vs[j],List.getElem?_eq_getElem hlt,h2⟩
noncomputable def gIx:G2:=fun d e R=>∃ ds i x,seqOf d=some ds∧e=.int i∧atI ds i=some x∧R x
noncomputable def rIxA (K:PySem.W.Frag):R2:=fun x y H Q=>rIxL K x y H Q∨rIxT K x y H Q
theorem ix_any {X:Cx} (hK:X.K=K):IxR X (rIxA K):=by subst hK;exact IxR.or ix_list ix_tup
theorem mIx:Means K (rIxA K) gIx:=by
 rintro N H x y d e R Q w1 w2 ⟨ds,i,z,e1,rfl,e2,hR⟩ hq
 obtain ⟨a,vs,rfl,s,q⟩:=w1.seq e1
 obtain ⟨u,e3,dn⟩:=q.atI e2
 rcases s with s|s
 ·exact .inl ⟨a,vs,i,u,rfl,w2.int,s,e3,hq _ _ hR dn⟩
 ·exact .inr ⟨a,vs,i,u,rfl,w2.int,s,e3,hq _ _ hR dn⟩
inductive Vws (K:PySem.W.Frag) (N:Addr→Prop) (H:Hp):List V→List PyData→Prop
 | nil:Vws K N H [] []
 | cons {v d vs ds}:Vw K N H v d→Vws K N H vs ds→Vws K N H (v::vs) (d::ds)
noncomputable def valsOf (env:List Sl):List Sl→Option (List PyData)
 | []=>some []
 | s::ss=>(valOf env s).bind fun d=>(valsOf env ss).bind fun ds=>some (d::ds)
theorem Rel.views (h:Rel K M P H0 σ0 σ env ts H):∀ {vs:List V}{ss:List Sl}{ds:List PyData},vs.length=ss.length→(∀ p∈vs.zip ss,p∈ts)→valsOf env ss=some ds→Vws K (Nw M (ents σ env ts)) H vs ds
 | [],[],_,_,_,e=>by cases e;exact .nil
 | v :: vs,s::ss,ds,hl,hm,e=>by
  unfold valsOf at e
  cases e1:valOf env s with
  | none=>rw[e1] at e;cases e
  | some d =>
   rw [e1] at e
   cases e2:valsOf env ss with
   | none=>rw[e2] at e;cases e
   | some ds' =>
    rw [e2] at e
    cases e
    exact .cons (h.view (hm _ (by simp)) e1) (h.views (by simpa using hl) (fun p hp=>hm p (by simp[hp])) e2)
 | [],_::_,_,hl,_,_=>by simp at hl
 | _::_,[],_,hl,_,_=>by simp at hl
noncomputable abbrev GB:=List PyData→(PyData→Prop)→Prop
noncomputable def dCB (g:GB) (t:DA):DE:=fun env R=>t env fun ss env1=>∃ ds,valsOf env1 ss=some ds∧g ds fun d=>R (.fr d) env1
noncomputable def MeansB (K:PySem.W.Frag) (r:List V→Hp→VK→Prop) (g:GB):Prop:=∀ (N:Addr→Prop) (H:Hp) (xs:List V) (ds:List PyData) (R:PyData→Prop) (Q:VK),Vws K N H xs ds→g ds R→(∀ d v,R d→DN K N H v d→Q v H)→r xs H Q
theorem cb_up {r:List V→Hp→VK→Prop}{g:GB}{tl:DA} (m:MeansB K r g):∀ σ H Q,up K (dCB g tl) σ H Q→tCB r (upA K tl) σ H Q:=fun σ H Q h=>by
 obtain ⟨M,P,H0,σ0,env,ts,R,rel,ht,hq⟩:=h
 refine ⟨M,P,H0,σ0,env,ts,_,rel,ht,fun ss env1 vs H1 h1 hl rel1=>?_⟩
 obtain ⟨ds,e,g⟩:=h1
 exact m _ H1 vs ds _ Q (rel1.views hl (fun p hp=>List.mem_append_right _ hp) e) g fun d v hR dn=>hq _ _ _ _ hR (rel1.res (Same.refl _) dn)
section
variable {X:Cx}{x:Str}{p pos:Pos}{e:Expr}{es:List Expr}{tl:DA}{id T:String}{r:List V→Hp→VK→Prop}{g:GB}
theorem q_cb (hc:CallR X (.builtin id) r) (m:MeansB K r g) (hg:Gl X x) (hm:X.mg x=none) (hv:bootBuiltins x=some (.builtin id)) (ha:PA X (e::es) (upA K tl)) (hn:x ≠ "__name__" := by decide) (hdb:(x==("__debug__" : Str))=false:=by decide)
  (he:starEach (e::es) X.env=(false,eval e X.env)::starEach es X.env:=by rfl) (hpl:(backTo pos (starEach es X.env)).any (·.1)=false:=by rfl):PE X (.Call (.Name x p) (e::es) [] pos) (up K (dCB g tl)) :=
 (pe_callB hc hg hm hv ha hn hdb he hpl).imp (cb_up m)
theorem q_cty (hc:CallR X (.type T) r) (m:MeansB K r g) (hg:Gl X x) (hm:X.mg x=none) (hv:bootBuiltins x=some (.type T)) (ha:PA X (e::es) (upA K tl)) (hn:x ≠ "__name__" := by decide) (hdb:(x==("__debug__" : Str))=false:=by decide)
  (he:starEach (e::es) X.env=(false,eval e X.env)::starEach es X.env:=by rfl) (hpl:(backTo pos (starEach es X.env)).any (·.1)=false:=by rfl):PE X (.Call (.Name x p) (e::es) [] pos) (up K (dCB g tl)) :=
 (pe_callTy hc hg hm hv ha hn hdb he hpl).imp (cb_up m)
end
noncomputable def gLen:GB:=fun ds R=>∃ d es,ds=[d]∧seqOf d=some es∧R (.int es.length)
theorem mLen:MeansB K (fun xs H Q=>∃ p ys,xs=[.ref p]∧(SqL K H p ys∨SqT K H p ys)∧Q (.int ys.length) H) gLen:=by
 rintro N H xs ds R Q w ⟨d,es,rfl,e1,hR⟩ hq
 cases w with
 | cons w1 w2 =>
  cases w2
  obtain ⟨a,vs,rfl,s,q⟩:=w1.seq e1
  refine ⟨a,vs,rfl,s,?_⟩
  rw [q.len]
  exact hq _ _ hR (.int _)
noncomputable def gMin:GB:=fun ds R=>∃ i j,ds=[.int i,.int j]∧R (.int (if j<i then j else i))
theorem mMin:MeansB K (fun xs H Q=>∃ i j,xs=[.int i,.int j]∧Q (.int (if j<i then j else i)) H) gMin:=by
 rintro N H xs ds R Q w ⟨i,j,rfl,hR⟩ hq
 cases w with
 | cons w1 w2 =>
  cases w2 with
  | cons w2 w3 =>
   cases w3
   exact ⟨i,j,by rw[w1.int,w2.int],hq _ _ hR (.int _)⟩
noncomputable def gInt:GB:=fun ds R=>(∃ i,ds=[.int i]∧R (.int i))∨∃ k,ds=[.bool k]∧R (.int (if k then 1 else 0))
theorem mInt:MeansB K (fun xs H Q=>(∃ i,xs=[.int i]∧Q (.int i) H)∨∃ k,xs=[.bl k]∧Q (.int (if k then 1 else 0)) H) gInt:=by
 rintro N H xs ds R Q w (⟨i,rfl,hR⟩|⟨k,rfl,hR⟩) hq
 ·cases w with
  | cons w1 w2=>cases w2;exact .inl ⟨i,by rw[w1.int],hq _ _ hR (.int _)⟩
 ·cases w with
  | cons w1 w2=>cases w2;exact .inr ⟨k,by rw[w1.bool],hq _ _ hR (.int _)⟩
noncomputable def boolOf:PyData→Option Bool
 | .bool i=>some i
 | _=>none
noncomputable def boolsOf:List PyData→Option (List Bool)
 | []=>some []
 | d::ds=>(boolOf d).bind fun i=>(boolsOf ds).map (i::·)
theorem boolsOf_map:∀ ns:List Bool,boolsOf (ns.map .bool)=some ns
 | []=>rfl
 | n::ns=>by rw[List.map_cons,boolsOf,boolsOf_map ns];rfl
noncomputable def keepsOf (env:List Sl):List Sl→Option (List PyData)
 | []=>some []
 | s::ss=>(keepOf env s).bind fun d=>(keepsOf env ss).bind fun ds=>some (d::ds)
theorem Rel.kept (h:Rel K M P H0 σ0 σ env (ts++tt) H) (m:(v,s)∈tt) (e:keepOf env s=some d):DN K (Nw M (ents σ env ts)) H v d:=by
 have hE:=h.e
 rw [ents_app] at hE
 have sub:∀ b,Nw M (ents σ env ts) b→Nw M (ents σ env ts++tmp tt) b:=fun b z=>nw_app z
 have mm:((some v,s):Ent)∈ents σ env ts++tmp tt:=List.mem_append_right _ (List.mem_map.mpr ⟨(v,s),m,rfl⟩)
 cases s with
 | fr d' =>
  cases e
  obtain ⟨v',e1,dn⟩:=hE.fr _ _ mm
  cases e1
  exact dn.to fun b _ _ z=>sub b z
 | ow ds =>
  cases e
  obtain ⟨a,vs,e1,e2,dn,h0⟩:=hE.ow _ _ mm
  cases e1
  refine .lst (SnL.of e2 ?_) (dn.to fun b _ _ z=>sub b z)
  rintro (z|z)
  ·exact hE.mt a z h0
  ·have nd:=hE.nd
   rw [oas_app] at nd
   exact (List.nodup_append.mp nd).2.2 a z a (mem_oas.mpr ⟨_,List.mem_map.mpr ⟨_,m,rfl⟩,List.mem_singleton.mpr rfl⟩) rfl
 | tr S d' =>
  cases e
  obtain ⟨v',e1,ot,h0⟩:=hE.tr _ _ _ mm
  cases e1
  refine ot.dn sub fun a ha=>?_
  rintro (z|z)
  ·exact hE.mt a z (h0 a ha)
  ·have nd:=hE.nd
   rw [oas_app] at nd
   exact (List.nodup_append.mp nd).2.2 a z a (mem_oas.mpr ⟨_,List.mem_map.mpr ⟨_,m,rfl⟩,by rw[own1_tr];exact ha⟩) rfl
 | vw i =>
  have e:(env[i]?).bind slK=some d:=e
  cases q:env[i]? with
  | none=>rw[q] at e;cases e
  | some s' =>
   rw [q] at e
   cases s' with
   | fr d' =>
    cases e
    obtain ⟨x,e1,m1⟩:=h.slot q
    rw [ents_app] at m1
    obtain ⟨v',e2,dn⟩:=hE.fr _ _ m1
    have e3:=h.vw v i (List.mem_append_right _ m)
    rw [e1,e2] at e3
    cases e3
    exact dn.to fun b _ _ z=>sub b z
   | _=>cases e
 | _=>cases e
theorem Rel.keptAll (h:Rel K M P H0 σ0 σ env (ts++tt) H):∀ {vs:List V}{ss:List Sl}{ds:List PyData},vs.length=ss.length→(∀ p∈vs.zip ss,p∈tt)→keepsOf env ss=some ds→DNs K (Nw M (ents σ env ts)) H vs ds
 | [],[],_,_,_,e=>by cases e;exact .nil
 | v :: vs,s::ss,ds,hl,hm,e=>by
  unfold keepsOf at e
  cases e1:keepOf env s with
  | none=>rw[e1] at e;cases e
  | some d =>
   rw [e1] at e
   cases e2:keepsOf env ss with
   | none=>rw[e2] at e;cases e
   | some ds' =>
    rw [e2] at e
    cases e
    exact .cons (h.kept (hm _ (by simp)) e1) (h.keptAll (by simpa using hl) (fun p hp=>hm p (by simp[hp])) e2)
 | [],_::_,_,hl,_,_=>by simp at hl
 | _::_,[],_,hl,_,_=>by simp at hl
theorem Rel.newAddr (h:Rel K M P H0 σ0 σ env ts H) {p:Addr} (hp:H p=none):¬Nw M (ents σ env ts) p:=by
 rintro (z|z)
 ·exact h.e.live p (h.e.mt p z) hp
 ·obtain ⟨vs,q,_⟩:=h.e.own z
  rw [hp] at q
  cases q
theorem Rel.resTup (h:Rel K M P H0 σ0 σ env (ts++tt) H) {p:Addr}{vs:List V}{ds:List PyData} (hp:H p=none) (dns:DNs K (Nw M (ents σ env ts)) H vs ds):Rel K M P H0 σ0 σ env (ts++[(.ref p,.fr (.tuple ds))]) (upd H p (.tup vs)) :=
 (h.drop.same (Same.new hp)).addFr (.tup (SnT.of upd_same (h.drop.newAddr hp)) (dns.keep (Keep.same (Same.new hp))))
section
variable {X:Cx}{x:Str}{p pos:Pos}{e:Expr}{es:List Expr}{tl:DA}{id T:String}
noncomputable def dTup (t:DA):DE:=fun env R=>t env fun ss env1=>∃ ds,keepsOf env1 ss=some ds∧ss.length≤sizeLine∧R (.fr (.tuple ds)) env1
noncomputable def dLst (t:DA):DE:=fun env R=>t env fun ss env1=>∃ ds,keepsOf env1 ss=some ds∧ss.length≤sizeLine∧R (.ow ds) env1
theorem q_tup {x1} (h:PA X es (upA K tl)):PE X (.Tuple es x1 pos) (up K (dTup tl)):=(pe_tup h).imp fun σ H Q h=>by
 obtain ⟨M,P,H0,σ0,env,ts,R,rel,ht,hq⟩:=h
 refine ⟨M,P,H0,σ0,env,ts,_,rel,ht,fun ss env1 vs H1 h1 hl rel1=>?_⟩
 obtain ⟨ds,e,hz,hR⟩:=h1
 exact ⟨by omega,fun p hp=>hq _ _ _ _ hR (rel1.resTup hp (rel1.keptAll hl (fun p hp=>hp) e))⟩
theorem q_lst (h:PA X es (upA K tl)):PE X (.List es pos) (up K (dLst tl)):=(pe_lst h).imp fun σ H Q h=>by
 obtain ⟨M,P,H0,σ0,env,ts,R,rel,ht,hq⟩:=h
 refine ⟨M,P,H0,σ0,env,ts,_,rel,ht,fun ss env1 vs H1 h1 hl rel1=>?_⟩
 obtain ⟨ds,e,hz,hR⟩:=h1
 exact ⟨by omega,fun p hp=>hq _ _ _ _ hR (rel1.drop.addOw hp (rel1.keptAll hl (fun p hp=>hp) e))⟩
end
end
end L2
namespace L2
open PySem PySem.Spec PyProof.Rows
noncomputable def rCatS (K:PySem.W.Frag):R2:=fun x y H Q=>∃ l b xs zs,x=.ref l∧y=.ref b∧SqL K H l xs∧SqL K H b zs∧xs.length+zs.length≤sizeLine∧∀ p,H p=none→Q (.ref p) (upd H p (.lst (xs++zs)))
theorem op_catS {X:Cx}{K:PySem.W.Frag} (hK:X.K=K):OpR X (binaryOp .Add) (rCatS K):=by
 subst hK
 intro pins s σ H x y v u Q I rx ry h
 obtain ⟨l,b,xs,zs,rfl,rfl,hH,hB,hz,q⟩:=h
 cases rx
 cases ry
 obtain ⟨its,r,⟨⟨cls,dd,data,sl⟩,n,ho,hc,_,hd⟩,z⟩:=I.list hH
 obtain ⟨its2,r2,⟨⟨cls2,dd2,data2,sl2⟩,n2,ho2,hc2,_,hd2⟩,z2⟩:=I.list hB
 simp only at hc hd hc2 hd2
 subst hc hd hc2 hd2
 have hl:=r.length
 have hl2:=r2.length
 refine concat_meets ⟨_,ho,rfl⟩ ⟨_,ho2,rfl⟩ noFill_list_add seq_list_add PySem.F.slot_list_add PySem.F.entry_list_add (PySem.F.args_list_add_2 _ _) (list_addW l b its.toArray its2.toArray n n2 dd dd2 sl sl2 (by rw[List.size_toArray,List.size_toArray];omega)) ⟨ho,ho2,?_⟩
 have ea:its.toArray++its2.toArray=(its++its2).toArray:=by simp
 rw [ea]
 exact ⟨.ref _,_,I.lnew (t':=s.toks) (r.append r2) (by rw[List.length_append];omega),rfl,q _ I.fresh⟩
section
variable {K:PySem.W.Frag}{M P N:Addr→Prop}{H0 H H':Hp}{σ0 σ:St}{env:List Sl}{ts tt:List (V×Sl)}{v:V}{s:Sl}{d:PyData}
variable {X:Cx}{x:Str}{p pos:Pos}{a b e:Expr}{es:List Expr}{ta tb:DE}{tl:DA}
noncomputable def dOpL (g:PyData→PyData→(List PyData→Prop)→Prop) (ta tb:DE):DE:=fun env R=>ta env fun s1 env1=>tb env1 fun s2 env2=>∃ d1 d2,valOf env2 s1=some d1∧valOf env2 s2=some d2∧g d1 d2 fun ds=>R (.ow ds) env2
noncomputable def MeansL (K:PySem.W.Frag) (r:R2) (g:PyData→PyData→(List PyData→Prop)→Prop):Prop:=∀ (N:Addr→Prop) (H:Hp) (x y:V) (d1 d2:PyData) (R:List PyData→Prop) (Q:VK),Vw K N H x d1→Vw K N H y d2→g d1 d2 R →
 (∀ ds vs p,R ds→DNs K N H vs ds→H p=none→Q (.ref p) (upd H p (.lst vs)))→r x y H Q
theorem opL_up {r:R2}{g:PyData→PyData→(List PyData→Prop)→Prop} (m:MeansL K r g):∀ σ H Q,up K (dOpL g ta tb) σ H Q→tOp r (up K ta) (up K tb) σ H Q:=fun σ H Q h=>by
 obtain ⟨M,P,H0,σ0,env,ts,R,rel,ht,hq⟩:=h
 refine ⟨M,P,H0,σ0,env,ts,_,rel,ht,fun s1 env1 v1 H1 h1 rel1=>⟨M,P,H0,σ0,env1,ts++[(v1,s1)],_,rel1,h1,fun s2 env2 v2 H2 h2 rel2=>?_⟩⟩
 obtain ⟨d1,d2,e1,e2,g⟩:=h2
 refine m _ H2 v1 v2 d1 d2 _ Q (rel2.view (by simp) e1) (rel2.view (by simp) e2) g fun ds vs p hR dns hp=>hq _ _ _ _ hR ?_
 have rel2':Rel K M P H0 σ0 σ env2 (ts++[(v1,s1),(v2,s2)]) H2:=by simpa using rel2
 exact rel2'.resOw hp (by simpa using dns)
theorem q_opL {op:Operator}{r:R2}{g:PyData→PyData→(List PyData→Prop)→Prop} (ho:OpR X (binaryOp op) r) (m:MeansL K r g) (ha:PE X a (up K ta)) (hb:PE X b (up K tb)):PE X (.BinOp a op b pos) (up K (dOpL g ta tb)):=(pe_op ho ha hb).imp (opL_up m)
noncomputable def gCat:PyData→PyData→(List PyData→Prop)→Prop:=fun d e R=>∃ xs ys,d=.list xs∧e=.list ys∧xs.length+ys.length≤sizeLine∧R (xs++ys)
theorem mCat:MeansL K (rCatS K) gCat:=by
 rintro N H x y d e R Q w1 w2 ⟨xs,ys,rfl,rfl,hz,hR⟩ hq
 obtain ⟨a1,v1,rfl,s1,q1⟩:=w1.list
 obtain ⟨a2,v2,rfl,s2,q2⟩:=w2.list
 exact ⟨a1,a2,v1,v2,rfl,rfl,s1,s2,by rw[q1.len,q2.len];exact hz,fun p hp=>hq _ _ p hR (q1.app q2) hp⟩
noncomputable def dCatT (ta tb:DE):DE:=fun env R=>ta env fun s1 env1=>tb env1 fun s2 env2=>∃ xs ys,valOf env2 s1=some (.tuple xs)∧valOf env2 s2=some (.tuple ys)∧xs.length+ys.length≤sizeLine∧R (.fr (.tuple (xs++ys))) env2
theorem q_catT (hK:X.K=K) (ha:PE X a (up K ta)) (hb:PE X b (up K tb)):PE X (.BinOp a .Add b pos) (up K (dCatT ta tb)):=(pe_op (kCatA (K:=K) hK) ha hb).imp fun σ H Q h=>by
 obtain ⟨M,P,H0,σ0,env,ts,R,rel,ht,hq⟩:=h
 refine ⟨M,P,H0,σ0,env,ts,_,rel,ht,fun s1 env1 v1 H1 h1 rel1=>⟨M,P,H0,σ0,env1,ts++[(v1,s1)],_,rel1,h1,fun s2 env2 v2 H2 h2 rel2=>?_⟩⟩
 obtain ⟨xs,ys,e1,e2,hz,hR⟩:=h2
 have w1:=rel2.view (v:=v1) (by simp) e1
 have w2:=rel2.view (v:=v2) (by simp) e2
 have rel2':Rel K M P H0 σ0 σ env2 (ts++[(v1,s1),(v2,s2)]) H2:=by simpa using rel2
 have ee:ts++[(v1,s1)]++[(v2,s2)]=ts++[(v1,s1),(v2,s2)]:=by simp
 rw [ee] at w1 w2
 obtain ⟨a1,u1,rfl,t1,q1⟩:=w1.tuple
 obtain ⟨a2,u2,rfl,t2,q2⟩:=w2.tuple
 refine ⟨a1,a2,u1,u2,rfl,rfl,t1,t2,by rw[q1.len,q2.len];exact hz,fun z=>?_,fun _ z=>?_,fun _ _ p hp=>?_⟩
 ·subst z
  have:xs=[]:=by
   have:=q1.len
   exact List.eq_nil_of_length_eq_zero this.symm
  subst this
  cases w2 with
  | dn dn=>exact hq _ _ _ _ hR (rel2'.res (Same.refl _) dn)
 ·subst z
  have:ys=[]:=by
   have:=q2.len
   exact List.eq_nil_of_length_eq_zero this.symm
  subst this
  rw [List.append_nil] at hR
  cases w1 with
  | dn dn=>exact hq _ _ _ _ hR (rel2'.res (Same.refl _) dn)
 ·exact hq _ _ _ _ hR (rel2'.resTup hp ((q1.app q2).to fun b _ _ z=>by rw[ents_app];exact nw_app z))
noncomputable abbrev DO:=List Sl→(Option Int→List Sl→Prop)→Prop
noncomputable def upO (K:PySem.W.Frag) (t:DO):TO:=fun σ H Q=>∃ (M P:Addr→Prop) (H0:Hp) (σ0:St) (env:List Sl) (ts:List (V×Sl)) (R:Option Int→List Sl→Prop),Rel K M P H0 σ0 σ env ts H∧t env R ∧
 ∀ o env' H',R o env'→Rel K M P H0 σ0 σ env' ts H'→Q o H'
theorem PO.imp {e:Option Expr}{t t':TO} (h:PO X e t) (k:∀ σ H Q,t' σ H Q→t σ H Q):PO X e t':=fun pins s σ H Q I hw=>h pins s σ H Q I (k σ H Q hw)
noncomputable def dNoPart:DO:=fun env R=>R none env
noncomputable def dPart (t:DE):DO:=fun env R=>t env fun s env1=>∃ i,valOf env1 s=some (.int i)∧R (some i) env1
theorem qo_none:PO X none (upO K dNoPart):=po_none.imp fun σ H Q h=>by
 obtain ⟨M,P,H0,σ0,env,ts,R,rel,ht,hq⟩:=h
 exact hq _ _ _ ht rel
theorem qo_some (h:PE X e (up K ta)):PO X (some e) (upO K (dPart ta)):=(po_some h).imp fun σ H Q h=>by
 obtain ⟨M,P,H0,σ0,env,ts,R,rel,ht,hq⟩:=h
 refine ⟨M,P,H0,σ0,env,ts,_,rel,ht,fun s1 env1 v1 H1 h1 rel1=>?_⟩
 obtain ⟨i,e1,hR⟩:=h1
 exact ⟨i,(rel1.view (by simp) e1).int,hq _ _ _ hR rel1.drop⟩
noncomputable def cutD {α:Type} (xs:List α) (lo hi:Option Int):List α:=(xs.drop (HT.sIx xs.length 0 lo)).take (HT.sIx xs.length xs.length hi - HT.sIx xs.length 0 lo)
theorem DNs.drop:∀ {vs:List V}{ds:List PyData} (n:Nat),DNs K N H vs ds→DNs K N H (vs.drop n) (ds.drop n)
 | _,_,0,q=>q
 | _,_,_+1,.nil=>.nil
 | _,_,n+1,.cons _ q=>q.drop n
theorem DNs.take:∀ {vs:List V}{ds:List PyData} (n:Nat),DNs K N H vs ds→DNs K N H (vs.take n) (ds.take n)
 | _,_,0,_=>.nil
 | _,_,_+1,.nil=>.nil
 | _,_,n+1,.cons h q=>.cons h (q.take n)
theorem DNs.cut {vs:List V}{ds:List PyData} (q:DNs K N H vs ds) (lo hi:Option Int):DNs K N H (cutV vs lo hi) (cutD ds lo hi):=by
 unfold cutV cutD
 rw [q.len]
 exact (q.drop _).take _
noncomputable def dSlL (te:DE) (tl th:DO):DE:=fun env R=>te env fun s env1=>tl env1 fun l env2=>th env2 fun h env3=>∃ ds,valOf env3 s=some (.list ds)∧R (.ow (cutD ds l h)) env3
variable {lo hi:Option Expr}{tlo thi:DO}{p2:Pos}
theorem q_slL (hK:X.K=K) (he:PE X e (up K ta)) (hl:PO X lo (upO K tlo)) (hu:PO X hi (upO K thi)):PE X (.Subscript e (.Slice lo hi none p2) pos) (up K (dSlL ta tlo thi)):=(pe_slice (kSlL (K:=K) hK) he hl hu).imp fun σ H Q h=>by
 obtain ⟨M,P,H0,σ0,env,ts,R,rel,ht,hq⟩:=h
 refine ⟨M,P,H0,σ0,env,ts,_,rel,ht,fun s1 env1 v1 H1 h1 rel1=>⟨M,P,H0,σ0,env1,ts++[(v1,s1)],_,rel1,h1,fun l env2 H2 h2 rel2=>⟨M,P,H0,σ0,env2,ts++[(v1,s1)],_,rel2,h2,fun u env3 H3 h3 rel3=>?_⟩⟩⟩
 obtain ⟨ds,e1,hR⟩:=h3
 obtain ⟨a,vs,rfl,sq,q⟩:=(rel3.view (v:=v1) (by simp) e1).list
 exact ⟨a,vs,rfl,sq,fun p hp=>hq _ _ _ _ hR (rel3.resOw hp (q.cut l u))⟩
noncomputable def dTupOf (t:DA):DE:=fun env R=>t env fun ss env1=>∃ s d ds,ss=[s]∧valOf env1 s=some d∧seqOf d=some ds∧R (.fr (.tuple ds)) env1
theorem q_tupOf (hK:X.K=K) (hg:Gl X "tuple") (hm:X.mg "tuple" = none) (ha:PA X [e] (upA K tl)) (he:starEach [e] X.env=[(false,eval e X.env)]:=by rfl):PE X (.Call (.Name "tuple" p) [e] [] pos) (up K (dTupOf tl)) :=
 (pe_callTy (kTuple (K:=K) hK) hg hm PyProof.Rows.boot_tuple ha (by decide) (by decide) he rfl).imp fun σ H Q h=>by
 obtain ⟨M,P,H0,σ0,env,ts,R,rel,ht,hq⟩:=h
 refine ⟨M,P,H0,σ0,env,ts,_,rel,ht,fun ss env1 vs H1 h1 hl rel1=>?_⟩
 obtain ⟨s,d,ds,rfl,e1,e2,hR⟩:=h1
 match vs,hl with
 | [v],_ =>
  have w:=rel1.view (v:=v) (by simp) e1
  cases d <;> simp[seqOf] at e2
  ·subst e2
   obtain ⟨a,us,rfl,sq,q⟩:=w.list
   exact ⟨a,us,rfl,.inl ⟨sq,fun l hl'=>hq _ _ _ _ hR (rel1.resTup hl' (q.to fun b _ _ z=>by rw[ents_app];exact nw_app z))⟩⟩
  ·subst e2
   obtain ⟨a,us,rfl,sq,q⟩:=w.tuple
   refine ⟨a,us,rfl,.inr ⟨sq,hq _ _ _ _ hR ?_⟩⟩
   cases w with
   | dn dn=>exact rel1.res (Same.refl _) dn
noncomputable def setSl:Sl→List PyData→Option Sl
 | .ow _,ds=>some (.ow ds)
 | .io _,ds=>some (.io ds)
 | _,_=>none
noncomputable def ownD:Sl→Option (List PyData)
 | .ow ds=>some ds
 | .io ds=>some ds
 | _=>none
theorem set_of {s s':Sl}{l:List PyData} (h:setSl s l=some s'):isOw s l s'∧ownD s'=some l:=by
 cases s with
 | ow _=>cases h;exact⟨rfl,rfl⟩
 | io _=>cases h;exact⟨rfl,rfl⟩
 | _=>cases h
theorem set_io {s:Sl}{l d:List PyData} (h:setSl s l=some (.io d)):∃ d0,s=.io d0:=by
 cases s with
 | io d0=>exact⟨d0,rfl⟩
 | _=>cases h
theorem own_of {s:Sl}{l:List PyData} (h:ownD s=some l):setSl s l=some s∧∀ a,a∈own1 (some (.ref a),s):=by
 cases s with
 | ow _=>cases h;exact⟨rfl,fun a=>List.mem_singleton.mpr rfl⟩
 | io _=>cases h;exact⟨rfl,fun a=>List.mem_singleton.mpr rfl⟩
 | _=>cases h
theorem Rel.mut {i:Nat}{s s':Sl}{ds ds':List PyData} (h:Rel K M P H0 σ0 σ env ts H) (e:env[i]? = some s) (es:setSl s ds'=some s') {a:Addr} (ea:σ[i]? = some (some (.ref a))) {vs':List V} (dns:DNs K (Nw M (ents σ env ts)) H vs' ds') :
  Rel K M P H0 σ0 σ (env.set i s') ts (upd H a (.lst vs')):=by
 obtain ⟨x,A,B,e1,q1,q2⟩:=h.split e
 rw [ea] at e1
 cases e1
 have r:=h.e
 rw [q1] at r dns
 refine ⟨by rw[q2];exact r.mut (set_of es).1 dns,by simp[h.len],h.vw,fun j ds'' e'=>?_⟩
 by_cases hj:i=j
 ·subst hj
  have hi:i<env.length:=(List.getElem?_eq_some_iff.mp e).1
  rw [List.getElem?_set_self hi] at e'
  cases e'
  obtain ⟨ds0,rfl⟩:=set_io es
  exact h.ios i ds0 e
 ·rw [List.getElem?_set_ne hj] at e'
  exact h.ios j ds'' e'
theorem Rel.mine {i:Nat}{s:Sl}{ds:List PyData} (h:Rel K M P H0 σ0 σ env ts H) (e:env[i]? = some s) (eo:ownD s=some ds):∃ a vs,σ[i]? = some (some (.ref a))∧H a=some (.lst vs)∧DNs K (Nw M (ents σ env ts)) H vs ds:=by
 obtain ⟨x,e1,m⟩:=h.slot e
 cases s with
 | ow d =>
  cases eo
  obtain ⟨a,vs,z,q1,q2,_⟩:=h.e.ow _ _ m
  subst z
  exact ⟨a,vs,e1,q1,q2⟩
 | io d =>
  cases eo
  obtain ⟨a,vs,z,q1,q2,_⟩:=h.e.io _ _ m
  subst z
  exact ⟨a,vs,e1,q1,q2⟩
 | _=>cases eo
noncomputable def dApp (i:Nat) (te:DE):DE:=fun env R=>(∃ ds,(env[i]?).bind ownD=some ds)∧te env fun s env1=>∃ d s0 ds s',keepOf env1 s=some d∧env1[i]? = some s0∧ownD s0=some ds∧ds.length<sizeLine∧setSl s0 (ds++[d])=some s'∧R (.fr .none) (env1.set i s')
theorem bind_own {i:Nat}{ds:List PyData} (h:(env[i]?).bind ownD=some ds):∃ s,env[i]? = some s∧ownD s=some ds:=by
 cases e:env[i]? with
 | none=>rw[e] at h;cases h
 | some s=>rw[e] at h;exact⟨s,rfl,h⟩
theorem q_app (i:Nat) {y:Str}{apos cpos npos:Pos} (hK:X.K=K) (hN:X.N[i]? = some y) (ha:PE X e (up K ta))
  (hv:Vis X.env.scope y:=by first|exact Or.inl rfl|exact Or.inr (Or.inl rfl)|exact Or.inr (Or.inr rfl)) (hd:(y==("__debug__" : Str))=false:=by decide)
  (hcd:(y==("__classdict__" : Str))=false:=by decide)
  (hs0:starEach [e] X.env=[(false,eval e X.env)]:=by rfl)
  (hbase:attributeBase (.Name y npos) "append" X.env (eval (.Name y npos) X.env)=eval (.Name y npos) X.env:=by rfl)
  (hfew:((backTo cpos (starEach [e] X.env)).all (fun x=>!x.1)&&(backToKw cpos (keywordEach [] X.env)).all (fun x=>x.1.isSome)&&decide ([e].length+([]:List Keyword).length+(if ([]:List Keyword).isEmpty then 0 else 1)<30))=true:=by rfl)
  (hline:(apos.endLine==cpos.line)=true:=by rfl) (hplain:(backTo cpos (starEach [] X.env)).any (·.1)=false:=by rfl) :
  PE X (.Call (.Attribute (.Name y npos) "append" apos) [e] [] cpos) (up K (dApp i ta)) :=
 (kBm (K:=K) hK PySem.F.plainAttrs_list PySem.F.slot_list_append PySem.F.type_list_append mt_append (pe_var hN hv hd hcd) (pa_cons ha pa_nil hs0) hbase hfew hline hs0 hplain).imp fun σ H Q h=>by
 obtain ⟨M,P,H0,σ0,env,ts,R,rel,⟨⟨ds0,h0⟩,ht⟩,hq⟩:=h
 obtain ⟨s0,e0,o0⟩:=bind_own h0
 obtain ⟨a,vs,ea,hH,_⟩:=rel.mine e0 o0
 refine ⟨.ref a,ea,.inl ⟨rfl,vs,SqL.of hH⟩,M,P,H0,σ0,env,ts,_,rel,ht,fun s1 env1 v1 H1 h1 rel1=>?_⟩
 obtain ⟨d,s2,ds,s',k,e2,o2,hz,es,hR⟩:=h1
 obtain ⟨a',us,ea',hH',q⟩:=rel1.drop.mine e2 o2
 rw [ea] at ea'
 cases ea'
 refine ⟨a,us,v1,rfl,rfl,hH',by rw[q.len];exact hz,?_⟩
 have dn:=rel1.kept (v:=v1) (s:=s1) (by simp) k
 exact hq _ _ _ _ hR ((rel1.drop.mut (ds:=ds) e2 es ea (q.app (.cons dn .nil))).addFr .non)
noncomputable def dPop (i:Nat):DE:=fun env R=>∃ s0 ds d s',env[i]? = some s0∧ownD s0=some ds∧ds.getLast? = some d∧setSl s0 ds.dropLast=some s'∧R (.fr d) (env.set i s')
theorem DNs.dropLast:∀ {vs:List V}{ds:List PyData},DNs K N H vs ds→DNs K N H vs.dropLast ds.dropLast:=fun {vs ds} q=>by
 rw [List.dropLast_eq_take,List.dropLast_eq_take,q.len]
 exact q.take _
theorem q_pop (i:Nat) {y:Str}{apos cpos npos:Pos} (hK:X.K=K) (hN:X.N[i]? = some y)
  (hv:Vis X.env.scope y:=by first|exact Or.inl rfl|exact Or.inr (Or.inl rfl)|exact Or.inr (Or.inr rfl)) (hd:(y==("__debug__" : Str))=false:=by decide)
  (hcd:(y==("__classdict__" : Str))=false:=by decide)
  (hbase:attributeBase (.Name y npos) "pop" X.env (eval (.Name y npos) X.env)=eval (.Name y npos) X.env:=by rfl) (hline:(apos.endLine==cpos.line)=true:=by rfl) :
  PE X (.Call (.Attribute (.Name y npos) "pop" apos) [] [] cpos) (up K (dPop i)) :=
 (kBm0 (K:=K) hK PySem.F.plainAttrs_list PySem.F.slot_list_pop PySem.F.type_list_pop mt_pop (pe_var hN hv hd hcd) hbase hline).imp fun σ H Q h=>by
 obtain ⟨M,P,H0,σ0,env,ts,R,rel,⟨s0,ds,d,s',e0,o0,hl,es,hR⟩,hq⟩:=h
 obtain ⟨a,vs,ea,hH,q⟩:=rel.mine e0 o0
 have hn:ds.length - 1<ds.length:=by
  cases ds with
  | nil=>simp at hl
  | cons z r=>simp
 rw [List.getLast?_eq_getElem?] at hl
 have hlt:vs.length - 1<vs.length:=by rw[q.len];exact hn
 obtain ⟨d',h1,dn⟩:=q.get (List.getElem?_eq_getElem hlt)
 rw [q.len,hl] at h1
 cases h1
 refine ⟨.ref a,ea,.inl ⟨rfl,vs,SqL.of hH⟩,a,vs,vs[vs.length - 1],rfl,rfl,hH,List.getElem?_eq_getElem hlt,?_⟩
 have rel2:=rel.addFr dn
 have m:=rel2.mut (ds:=ds) (vs':=vs.dropLast) (ds':=ds.dropLast) e0 es ea (by
  have : Nw M (ents σ env (ts++[(vs[vs.length - 1],Sl.fr d)]))=Nw M (ents σ env ts):=by
   rw [ents_app]
   unfold Nw
   have:oas (ents σ env ts++tmp [(vs[vs.length - 1],Sl.fr d)])=oas (ents σ env ts):=by
    rw [oas_app]
    have:oas (tmp [(vs[vs.length - 1],Sl.fr d)])=[]:=by
     show oas [(some vs[vs.length - 1],Sl.fr d)]=[]
     rw [oas_cons]
     cases vs[vs.length - 1] <;> rfl
    rw [this,List.append_nil]
   rw [this]
  rw [this]
  exact q.dropLast)
 exact hq _ _ _ _ hR m
end
end L2
namespace L2
open PySem PySem.Spec PyProof.Rows
section
variable {K:PySem.W.Frag}{M P N:Addr→Prop}{H0 H H':Hp}{E A B:List Ent}{σ0 σ:St}{env:List Sl}{ts tt:List (V×Sl)}{v:V}{s:Sl}{d:PyData}
end
noncomputable abbrev DSp:=List Sl→(Sl→List Sl→Prop)→Prop
noncomputable def isRes:Sl→Bool
 | .fr _=>true
 | .ow _=>true
 | .tr _ _=>true
 | _=>false
noncomputable def ioOf (vs:List V) (ss:List Sl):Addr→Prop:=fun a=>a∈oas (tmp (vs.zip ss))
noncomputable def spD (K:PySem.W.Frag) (sp:DSp):Sp:=fun vs H Q _=>∃ (M:Addr→Prop) (ss:List Sl) (R:Sl→List Sl→Prop),vs.length=ss.length∧RelE K M (ioOf vs ss) H (tmp (vs.zip ss)) H∧sp ss R ∧
 ∀ r ss' v H',R r ss'→isRes r=true→RelE K M (ioOf vs ss) H (tmp ((v,r)::vs.zip ss')) H'→Q v H'
section
variable {K:PySem.W.Frag}{M P N:Addr→Prop}{H0 H H':Hp}{E A B:List Ent}{σ0 σ:St}{env:List Sl}{ts tt:List (V×Sl)}{v:V}{s:Sl}{d:PyData}
theorem oas_fr:∀ (vs:List V) (ds:List PyData),oas (tmp (vs.zip (ds.map Sl.fr)))=[]
 | [],_=>by simp[oas,tmp]
 | _::_,[]=>by simp[oas,tmp]
 | v::vs,d::ds=>by
  show oas ((some v,Sl.fr d)::tmp (vs.zip (ds.map Sl.fr)))=[]
  rw [oas_cons,own1_fr,oas_fr vs ds]
  rfl
theorem mem_frs:∀ {vs:List V}{ds:List PyData}{x:Option V}{s:Sl},DNs K N H vs ds→(x,s)∈tmp (vs.zip (ds.map Sl.fr))→∃ v d,x=some v∧s=.fr d∧DN K N H v d
 | _,_,_,_,.nil,m=>by simp[tmp] at m
 | _,_,x,s,@DNs.cons _ _ _ v vs d ds h q,m=>by
  have m:(x,s)∈(some v,Sl.fr d)::tmp (vs.zip (ds.map Sl.fr)):=m
  rcases List.mem_cons.mp m with m|m
  ·cases m;exact⟨v,d,rfl,rfl,h⟩
  ·exact mem_frs q m
inductive ResOk (K:PySem.W.Frag) (N:Addr→Prop) (Hc H':Hp):V→Sl→Prop
 | fr {v:V}{d:PyData}:DN K N H' v d→ResOk K N Hc H' v (.fr d)
 | ow {a:Addr}{vs:List V}{ds:List PyData}:H' a=some (.lst vs)→DNs K (fun b=>N b∨b=a) H' vs ds→Hc a=none→¬N a→ResOk K N Hc H' (.ref a) (.ow ds)
 | tr {v:V}{d:PyData}{S:List Addr}:OT K (fun b=>N b∨b∈S) H' v d S→(∀ a∈S,Hc a=none∧¬N a)→S.Nodup→ResOk K N Hc H' v (.tr S d)
theorem RelE.resOk {Hc:Hp}{Pc:Addr→Prop}{r:Sl}{T:List Ent} (hc:RelE K N Pc Hc ((some v,r)::T) H') (hr:isRes r=true):ResOk K N Hc H' v r:=by
 cases r with
 | fr d =>
  obtain ⟨w,e,dn⟩:=hc.fr _ _ List.mem_cons_self
  cases e
  exact .fr (dn.to fun b _ _ z=>.inl z)
 | ow ds =>
  obtain ⟨a,vs,e,ha,dns,hn⟩:=hc.ow _ _ List.mem_cons_self
  cases e
  refine .ow ha (dns.to fun b _ _ z=>?_) hn fun z=>hc.mt a z hn
  rcases z with z|z
  ·exact .inl z
  ·rw [z]
   exact .inr (by rw[oas_cons];exact List.mem_append_left _ (List.mem_singleton.mpr rfl))
 | tr S d =>
  obtain ⟨w,e,ot,hn⟩:=hc.tr _ _ _ List.mem_cons_self
  cases e
  refine .tr (ot.to fun b _ _ z=>?_) (fun a ha=>⟨hn a ha,fun z=>hc.mt a z (hn a ha)⟩) ?_
  ·rcases z with z|z
   ·exact .inl z
   ·exact .inr (by rw[oas_cons,own1_tr];exact List.mem_append_left _ z)
  ·have nd:=hc.nd
   rw [oas_cons,own1_tr] at nd
   exact (List.nodup_append.mp nd).1
 | _=>cases hr
theorem ResOk.to {Hc:Hp}{r:Sl}{N2:Addr→Prop} (h:ResOk K N Hc H' v r) (m:∀ b,N2 b→N b):ResOk K N2 Hc H' v r:=by
 cases h with
 | fr dn=>exact .fr (dn.to fun b _ _ z=>m b z)
 | ow ha dns hn nn=>exact .ow ha (dns.to fun b _ _ z=>z.elim (fun z=>.inl (m b z)) .inr) hn fun z=>nn (m _ z)
 | tr ot hn nd=>exact .tr (ot.to fun b _ _ z=>z.elim (fun z=>.inl (m b z)) .inr) (fun a ha=>⟨(hn a ha).1,fun z=>(hn a ha).2 (m a z)⟩) nd
theorem ResOk.own {r:Sl}{Hc:Hp} (h:ResOk K N Hc H' v r):(∀ b∈own1 (some v,r),Hc b=none∧¬N b)∧(own1 (some v,r)).Nodup:=by
 cases h with
 | fr dn=>rw[own1_fr];exact⟨fun b hb=>absurd hb List.not_mem_nil,List.nodup_nil⟩
 | ow ha dns hn nN=>exact⟨fun b hb=>by rw[List.mem_singleton.mp hb];exact⟨hn,nN⟩,List.nodup_cons.mpr ⟨by simp,List.nodup_nil⟩⟩
 | tr ot hn nd=>rw[own1_tr];exact⟨hn,nd⟩
theorem ResOk.frD {d:PyData}{Hc:Hp} (h:ResOk K N Hc H' v (.fr d)):DN K N H' v d:=by
 cases h with
 | fr dn=>exact dn
theorem ResOk.owD {ds:List PyData}{Hc:Hp} (h:ResOk K N Hc H' v (.ow ds)):∃ a vs,v=.ref a∧H' a=some (.lst vs)∧DNs K (fun b=>N b∨b=a) H' vs ds∧Hc a=none:=by
 cases h with
 | ow ha dns hn nN=>exact⟨_,_,rfl,ha,dns,hn⟩
theorem ResOk.ioD {ds:List PyData}{Hc:Hp} (h:ResOk K N Hc H' v (.io ds)):False:=by cases h
theorem ResOk.trD {d:PyData}{S:List Addr}{Hc:Hp} (h:ResOk K N Hc H' v (.tr S d)):OT K (fun b=>N b∨b∈S) H' v d S∧∀ a∈S,Hc a=none∧¬N a:=by
 cases h with
 | tr ot hn nd=>exact⟨ot,hn⟩
theorem RelE.getRes {r:Sl} (h:RelE K M P H0 E H') {Hc:Hp} (hlive:∀ b,H0 b≠none→Hc b≠none) (hres:ResOk K (Nw M E) Hc H' v r)
  (frs:∀ x d,(x,Sl.fr d)∈E→∃ w,x=some w∧DN K (fun b=>Nw M E b∨(b∈own1 (some v,r)∧Hc b=none)) H' w d)
  (its:∀ x s ds,(x,s)∈E→ownD s=some ds→∃ a vs,x=some (.ref a)∧H' a=some (.lst vs)∧DNs K (fun b=>Nw M E b∨(b∈own1 (some v,r)∧Hc b=none)) H' vs ds)
  (ots:∀ x S d,(x,Sl.tr S d)∈E→∃ w,x=some w∧OT K (fun b=>Nw M E b∨(b∈own1 (some v,r)∧Hc b=none)) H' w d S):RelE K M P H0 (E++[(some v,r)]) H':=by
 obtain ⟨hown,hnod⟩:=hres.own
 have oe:oas (E++[(some v,r)])=oas E++own1 (some v,r):=by
  rw [oas_app,oas_cons]
  simp [oas]
 have up:∀ b,Nw M (E++[(some v,r)]) b→Nw M E b∨b∈own1 (some v,r):=fun b z=>by
  rcases z with z|z
  ·exact .inl (.inl z)
  ·rw [oe] at z
   rcases List.mem_append.mp z with z|z
   ·exact .inl (.inr z)
   ·exact .inr z
 have up2:∀ b,Nw M (E++[(some v,r)]) b→Nw M E b∨(b∈own1 (some v,r)∧Hc b=none):=fun b z=>(up b z).elim .inl fun z=>.inr ⟨z,(hown b z).1⟩
 have h0:∀ b,Hc b=none→H0 b=none:=fun b hn=>by
  cases e:H0 b with
  | none=>rfl
  | some o=>exact absurd hn (hlive b (by rw[e];simp))
 refine ⟨h.keep,h.live,h.mt,h.pm,fun x d' m=>?_,fun x d' m=>?_,fun x d' m=>?_,fun x S d' m=>?_,?_⟩
 ·rcases List.mem_append.mp m with m|m
  ·obtain ⟨w,e,dn⟩:=frs x d' m
   exact ⟨w,e,dn.to fun b _ _ z=>up2 b z⟩
  ·rw [List.mem_singleton] at m
   obtain ⟨e1,rfl⟩:=Prod.mk.inj m
   exact ⟨v,e1,hres.frD.to fun b _ _ z=>(up b z).elim id fun z=>by rw[own1_fr] at z;exact absurd z List.not_mem_nil⟩
 ·rcases List.mem_append.mp m with m|m
  ·obtain ⟨b,us,e,e2,dn⟩:=its x _ d' m rfl
   obtain ⟨b',us',e',e2',_,r⟩:=h.ow x d' m
   rw [e] at e'
   cases e'
   exact ⟨b,us,e,e2,dn.to fun b _ _ z=>up2 b z,r⟩
  ·rw [List.mem_singleton] at m
   obtain ⟨e1,rfl⟩:=Prod.mk.inj m
   obtain ⟨a,us,rfl,ha,dns,hn⟩:=hres.owD
   exact ⟨a,us,e1,ha,dns.to fun b _ _ z=>(up b z).elim .inl fun z=>.inr (List.mem_singleton.mp z),h0 _ hn⟩
 ·rcases List.mem_append.mp m with m|m
  ·obtain ⟨b,us,e,e2,dn⟩:=its x _ d' m rfl
   obtain ⟨b',us',e',e2',_,r⟩:=h.io x d' m
   rw [e] at e'
   cases e'
   exact ⟨b,us,e,e2,dn.to fun b _ _ z=>up2 b z,r⟩
  ·rw [List.mem_singleton] at m
   obtain ⟨e1,rfl⟩:=Prod.mk.inj m
   exact hres.ioD.elim
 ·rcases List.mem_append.mp m with m|m
  ·obtain ⟨w,e,dn⟩:=ots x S d' m
   obtain ⟨w',e',_,r⟩:=h.tr x S d' m
   exact ⟨w,e,dn.to fun b _ _ z=>up2 b z,r⟩
  ·rw [List.mem_singleton] at m
   obtain ⟨e1,rfl⟩:=Prod.mk.inj m
   exact ⟨v,e1,hres.trD.1.to fun b _ _ z=>(up b z).elim .inl fun z=>.inr (by rw[own1_tr] at z;exact z),fun a ha=>h0 _ (hres.trD.2 a ha).1⟩
 ·rw [oe]
  exact List.nodup_append.mpr ⟨h.nd,hnod,fun b hb c hc' z=>(hown c hc').2 (.inr (z▸hb))⟩
theorem DN.past {Hc:Hp}{N2:Addr→Prop} (h:DN K N Hc v d) (n2:∀ b,N2 b→N b∨Hc b=none) {Pc:Addr→Prop} (k:Keep Pc Hc H') (hp:∀ b,Pc b→N2 b):DN K N2 H' v d :=
 (h.to fun b o e z=>(n2 b z).elim id fun z=>by rw[z] at e;cases e).keep (k.mono hp)
theorem DNs.past {Hc:Hp}{N2:Addr→Prop}{vs:List V}{ds:List PyData} (h:DNs K N Hc vs ds) (n2:∀ b,N2 b→N b∨Hc b=none) {Pc:Addr→Prop} (k:Keep Pc Hc H') (hp:∀ b,Pc b→N2 b):DNs K N2 H' vs ds :=
 (h.to fun b o e z=>(n2 b z).elim id fun z=>by rw[z] at e;cases e).keep (k.mono hp)
theorem OT.past {Hc:Hp}{N2:Addr→Prop}{S:List Addr} (h:OT K N Hc v d S) (n2:∀ b,N2 b→N b∨Hc b=none) {Pc:Addr→Prop} (k:Keep Pc Hc H') (hp:∀ b,Pc b→N2 b) (hs:∀ b∈S,¬Pc b):OT K N2 H' v d S :=
 (h.to fun b o e z=>(n2 b z).elim id fun z=>by rw[z] at e;cases e).keep (k.mono hp) fun a ha=>by
  obtain ⟨xs,z⟩:=h.lives a ha
  rw [k _ _ (hs a ha) z,z]
theorem RelE.called {r:Sl} (h:RelE K M P H0 E H) (k:Same H H') (hres:ResOk K (Nw M E) H H' v r):RelE K M P H0 (E++[(some v,r)]) H':=by
 refine (h.same k).getRes h.live hres (fun x d m=>?_) (fun x s ds m eo=>?_) fun x S d m=>?_
 rotate_right
 ·obtain ⟨w,e,dn,_⟩:=h.tr x S d m
  exact ⟨w,e,dn.past (fun b z=>z.elim .inl fun z=>.inr z.2) (Keep.same (N:=N0) k) (fun b z=>z.elim) fun b _ z=>z.elim⟩
 ·obtain ⟨w,e,dn⟩:=h.fr x d m
  exact ⟨w,e,dn.past (fun b z=>z.elim .inl fun z=>.inr z.2) (Keep.same (N:=N0) k) fun b z=>z.elim⟩
 ·cases s with
  | ow l =>
   cases eo
   obtain ⟨a,vs,e,e2,dn,_⟩:=h.ow x _ m
   exact ⟨a,vs,e,k _ _ e2,dn.past (fun b z=>z.elim .inl fun z=>.inr z.2) (Keep.same (N:=N0) k) fun b z=>z.elim⟩
  | io l =>
   cases eo
   obtain ⟨a,vs,e,e2,dn,_⟩:=h.io x _ m
   exact ⟨a,vs,e,k _ _ e2,dn.past (fun b z=>z.elim .inl fun z=>.inr z.2) (Keep.same (N:=N0) k) fun b z=>z.elim⟩
  | _=>cases eo
theorem Rel.withRes {r:Sl} (h:Rel K M P H0 σ0 σ env ts H) (e:RelE K M P H0 (ents σ env ts++[(some v,r)]) H') (hr:isRes r=true):Rel K M P H0 σ0 σ env (ts++[(v,r)]) H' :=
  ⟨by rw [ents_app];exact e,h.len,(fun w i m=>by
    rcases List.mem_append.mp m with m|m
    · exact h.vw w i m
    · rw [List.mem_singleton] at m
      cases m
      cases hr),h.ios⟩
noncomputable def dCall (sp:DSp) (t:DA):DE:=fun env R=>t env fun ss env1=>∃ ds,keepsOf env1 ss=some ds∧sp (ds.map .fr) (dK (fun r _=>R r env1) ⟨⟩)
theorem argsFr {M':Addr→Prop}{vs:List V}{ds:List PyData} (dns:DNs K M' H vs ds) (hm:∀ a,M' a→H a≠none):RelE K M' (ioOf vs (ds.map .fr)) H (tmp (vs.zip (ds.map .fr))) H:=by
 have oe:=oas_fr vs ds
 have ne:∀ b,Nw M' (tmp (vs.zip (ds.map .fr))) b→M' b:=fun b z=>z.elim id fun z=>by rw[oe] at z;cases z
 refine ⟨Keep.refl,fun a q=>q,hm,fun a z=>?_,fun x d m=>?_,fun x l m=>?_,fun x l m=>?_,fun x S l m=>?_,by rw[oe];exact List.nodup_nil⟩
 rotate_right
 ·obtain ⟨w,d',e1,e2,dn⟩:=mem_frs dns m
  cases e2
 ·have z:a∈oas (tmp (vs.zip (ds.map .fr))):=z
  rw [oe] at z
  cases z
 ·obtain ⟨w,d',e1,e2,dn⟩:=mem_frs dns m
  cases e2
  exact ⟨w,e1,dn.to fun b _ _ z=>ne b z⟩
 ·obtain ⟨w,d',e1,e2,dn⟩:=mem_frs dns m
  cases e2
 ·obtain ⟨w,d',e1,e2,dn⟩:=mem_frs dns m
  cases e2
theorem call_up {sp:DSp}{tl:DA}:∀ σ H Q,up K (dCall sp tl) σ H Q→tCall (spD K sp) [] E0 (upA K tl) σ H Q:=fun σ H Q h=>by
 obtain ⟨M,P,H0,σ0,env,ts,R,rel,ht,hq⟩:=h
 refine ⟨M,P,H0,σ0,env,ts,_,rel,ht,fun ss env1 vs H1 h1 hl rel1=>?_⟩
 obtain ⟨ds,ek,hsp⟩:=h1
 rw [List.append_nil]
 have dns:=rel1.keptAll hl (fun p hp=>hp) ek
 have oe:=oas_fr vs ds
 refine ⟨Nw M (ents σ env1 ts),ds.map .fr,fun r _=>R r env1,by simp[dns.len],argsFr dns fun a z hn=>rel1.drop.newAddr hn z,hsp,fun r ss' v H' hR hr post=>hq _ _ _ _ hR ?_⟩
 have k:Same H1 H':=(post.keep.mono (M:=N0) fun b z=>by
  have z:b∈oas (tmp (vs.zip (ds.map .fr))):=z
  rw [oe] at z
  cases z).none
 exact (rel1.drop).withRes (rel1.drop.e.called k (post.resOk hr)) hr
end
end L2
namespace L2
open PySem PySem.Spec PyProof.Rows
section
variable {K:PySem.W.Frag}{M P N:Addr→Prop}{H0 H H':Hp}{E A B:List Ent}{σ0 σ:St}{env:List Sl}{ts tt:List (V×Sl)}{v:V}{s:Sl}{d:PyData}
theorem tmp_cons (t:V×Sl) (ts:List (V×Sl)):tmp (t::ts)=(some t.1,t.2)::tmp ts:=rfl
theorem tmp_app (ts tt:List (V×Sl)):tmp (ts++tt)=tmp ts++tmp tt:=by simp[tmp]
theorem zip_split {α β:Type}:∀ {l1:List α}{m1:List β} (x:α) (y:β) (l2:List α) (m2:List β),l1.length=m1.length→(l1++x::l2).zip (m1++y::m2)=l1.zip m1++(x,y)::l2.zip m2
 | [],[],_,_,_,_,_=>rfl
 | a::l1,b::m1,x,y,l2,m2,h=>by
  show (a,b)::(l1++x::l2).zip (m1++y::m2)=_
  rw [zip_split x y l2 m2 (by simpa using h)]
  rfl
 | [],_::_,_,_,_,_,h=>by simp at h
 | _::_,[],_,_,_,_,h=>by simp at h
theorem argsIo {M':Addr→Prop}{v1 v2 us:List V}{d1 d2 l:List PyData}{a:Addr} (q1:DNs K M' H v1 d1) (q2:DNs K M' H v2 d2) (hm:∀ a,M' a→H a≠none) (ha:M' a) (hH:H a=some (.lst us)) (ql:DNs K M' H us l) :
  oas (tmp ((v1++.ref a::v2).zip (d1.map .fr++.io l::d2.map .fr)))=[a] ∧
  RelE K M' (ioOf (v1++.ref a::v2) (d1.map .fr++.io l::d2.map .fr)) H (tmp ((v1++.ref a::v2).zip (d1.map .fr++.io l::d2.map .fr))) H:=by
 have ez:(v1++.ref a::v2).zip (d1.map Sl.fr++.io l::d2.map .fr)=v1.zip (d1.map .fr)++(.ref a,.io l)::v2.zip (d2.map .fr):=zip_split _ _ _ _ (by simp[q1.len])
 have oe:oas (tmp ((v1++.ref a::v2).zip (d1.map .fr++.io l::d2.map .fr)))=[a]:=by
  rw [ez,tmp_app,tmp_cons,oas_app,oas_cons,oas_fr,oas_fr]
  rfl
 have ne:∀ b,Nw M' (tmp ((v1++.ref a::v2).zip (d1.map .fr++.io l::d2.map .fr))) b→M' b:=fun b z=>z.elim id fun z=>by rw[oe,List.mem_singleton] at z;rw[z];exact ha
 have cs:∀ x s,(x,s)∈tmp ((v1++.ref a::v2).zip (d1.map .fr++.io l::d2.map .fr))→(∃ w d,x=some w∧s=.fr d∧DN K M' H w d)∨(x=some (.ref a)∧s=.io l):=fun x s m=>by
  rw [ez,tmp_app,tmp_cons] at m
  rcases List.mem_append.mp m with m|m
  ·exact .inl (mem_frs q1 m)
  ·rcases List.mem_cons.mp m with m|m
   ·cases m;exact .inr ⟨rfl,rfl⟩
   ·exact .inl (mem_frs q2 m)
 refine ⟨oe,Keep.refl,fun a q=>q,hm,fun b z=>?_,fun x d m=>?_,fun x l' m=>?_,fun x l' m=>?_,fun x S l' m=>?_,by rw[oe];simp⟩
 rotate_right
 ·rcases cs x _ m with ⟨w,d',e1,e2,dn⟩|⟨_,e2⟩
  ·cases e2
  ·cases e2
 ·have z:b∈oas (tmp ((v1++.ref a::v2).zip (d1.map .fr++.io l::d2.map .fr))):=z
  rw [oe,List.mem_singleton] at z
  rw [z];exact ha
 ·rcases cs x _ m with ⟨w,d',e1,e2,dn⟩|⟨_,e2⟩
  ·cases e2;exact⟨w,e1,dn.to fun b _ _ z=>ne b z⟩
  ·cases e2
 ·rcases cs x _ m with ⟨w,d',e1,e2,dn⟩|⟨_,e2⟩
  ·cases e2
  ·cases e2
 ·rcases cs x _ m with ⟨w,d',e1,e2,dn⟩|⟨e1,e2⟩
  ·cases e2
  ·cases e2
   exact ⟨a,us,e1,hH,ql.to fun b _ _ z=>ne b z,by show a∈oas _;rw[oe];simp⟩
theorem RelE.lost {a:Addr}{l:List PyData} (h:RelE K M P H0 (E++[(some (.ref a),.ow l)]) H) (k:Keep (fun b=>b=a) H H') (lv:∀ b,H b≠none→H' b≠none):RelE K M P H0 E H' ∧
  (∀ x d,(x,Sl.fr d)∈E→∃ w,x=some w∧∀ N2:Addr→Prop,(∀ b,N2 b→Nw M (E++[(some (.ref a),.ow l)]) b∨H b=none)→N2 a→DN K N2 H' w d) ∧
  (∀ x s ds,(x,s)∈E→ownD s=some ds→∃ b vs,x=some (.ref b)∧H' b=some (.lst vs)∧∀ N2:Addr→Prop,(∀ b,N2 b→Nw M (E++[(some (.ref a),.ow l)]) b∨H b=none)→N2 a→DNs K N2 H' vs ds) ∧
  (∀ x S d,(x,Sl.tr S d)∈E→∃ w,x=some w∧∀ N2:Addr→Prop,(∀ b,N2 b→Nw M (E++[(some (.ref a),.ow l)]) b∨H b=none)→N2 a→OT K N2 H' w d S):=by
 have oe:oas (E++[(some (.ref a),Sl.ow l)])=oas E++[a]:=by
  rw [oas_app]
  rfl
 have nd:=h.nd
 rw [oe] at nd
 obtain ⟨n1,_,n3⟩:=List.nodup_append.mp nd
 have na:Nw M (E++[(some (.ref a),Sl.ow l)]) a:=.inr (by rw[oe];simp)
 obtain ⟨_,_,z,_,_,h0⟩:=h.ow _ _ (List.mem_append_right _ List.mem_cons_self)
 cases z
 have sub:∀ b,Nw M E b→Nw M (E++[(some (.ref a),Sl.ow l)]) b:=fun b z=>nw_app z
 have kk:∀ b,b=a→Nw M (E++[(some (.ref a),Sl.ow l)]) b:=fun b z=>by rw[z];exact na
 have other:∀ b x s,(x,s)∈E→b∈own1 (x,s)→b≠a:=fun b x s m eo z=>n3 b (mem_oas.mpr ⟨_,m,eo⟩) a (by simp) z
 refine ⟨⟨?_,fun b q=>lv b (h.live b q),h.mt,h.pm,fun x d m=>?_,fun x d m=>?_,fun x d m=>?_,fun x S d m=>?_,n1⟩,fun x d m=>?_,fun x s ds m eo=>?_,fun x S d m=>?_⟩
 rotate_right
 ·obtain ⟨v,e,dn,r⟩:=h.tr x S d (List.mem_append_left _ m)
  subst e
  exact ⟨v,rfl,fun N2 n2 n2a=>dn.past n2 k (fun b z=>by rw[z];exact n2a) fun b hb z=>other b _ _ m (by rw[own1_tr];exact hb) z⟩
 rotate_right 3
 ·obtain ⟨v,e,dn,r⟩:=h.tr x S d (List.mem_append_left _ m)
  subst e
  refine ⟨v,rfl,(dn.keep (k.mono kk) fun b hb=>?_).to fun b _ _ z=>sub b z,r⟩
  obtain ⟨xs,z⟩:=dn.lives b hb
  rw [k _ _ (other b _ _ m (by rw[own1_tr];exact hb)) z,z]
 rotate_left 2
 ·intro b o np e
  refine k b o (fun z=>?_) (h.keep b o np e)
  rw [z,h0] at e
  cases e
 ·obtain ⟨v,e,dn⟩:=h.fr x d (List.mem_append_left _ m)
  exact ⟨v,e,(dn.keep (k.mono kk)).to fun b _ _ z=>sub b z⟩
 ·obtain ⟨b,us,e,e2,dn,r⟩:=h.ow x d (List.mem_append_left _ m)
  subst e
  exact ⟨b,us,rfl,k _ _ (other b _ _ m (List.mem_singleton.mpr rfl)) e2,(dn.keep (k.mono kk)).to fun b _ _ z=>sub b z,r⟩
 ·obtain ⟨b,us,e,e2,dn,r⟩:=h.io x d (List.mem_append_left _ m)
  subst e
  exact ⟨b,us,rfl,k _ _ (other b _ _ m (List.mem_singleton.mpr rfl)) e2,(dn.keep (k.mono kk)).to fun b _ _ z=>sub b z,r⟩
 ·obtain ⟨v,e,dn⟩:=h.fr x d (List.mem_append_left _ m)
  exact ⟨v,e,fun N2 n2 n2a=>dn.past n2 k fun b z=>by rw[z];exact n2a⟩
 ·cases s with
  | ow l' =>
   cases eo
   obtain ⟨b,us,e,e2,dn,r⟩:=h.ow x _ (List.mem_append_left _ m)
   subst e
   exact ⟨b,us,rfl,k _ _ (other b _ _ m (List.mem_singleton.mpr rfl)) e2,fun N2 n2 n2a=>dn.past n2 k fun b z=>by rw[z];exact n2a⟩
  | io l' =>
   cases eo
   obtain ⟨b,us,e,e2,dn,r⟩:=h.io x _ (List.mem_append_left _ m)
   subst e
   exact ⟨b,us,rfl,k _ _ (other b _ _ m (List.mem_singleton.mpr rfl)) e2,fun N2 n2 n2a=>dn.past n2 k fun b z=>by rw[z];exact n2a⟩
  | _=>cases eo
noncomputable def dCallT (sp:DSp) (t:DA):DE:=fun env R=>t env fun ss env1=>∃ l ss' ds,ss=.ow l::ss'∧keepsOf env1 ss'=some ds∧sp (.io l::ds.map .fr) (dK (fun r _=>R r env1) ⟨⟩)
theorem callT_up {sp:DSp}{tl:DA}:∀ σ H Q,up K (dCallT sp tl) σ H Q→tCall (spD K sp) [] E0 (upA K tl) σ H Q:=fun σ H Q h=>by
 obtain ⟨M,P,H0,σ0,env,ts,R,rel,ht,hq⟩:=h
 refine ⟨M,P,H0,σ0,env,ts,_,rel,ht,fun ss env1 vs H1 h1 hl rel1=>?_⟩
 obtain ⟨l,ss',ds,rfl,ek,hsp⟩:=h1
 rw [List.append_nil]
 match vs,hl with
 | v1::vs',hl =>
  have rel1':Rel K M P H0 σ0 σ env1 ((ts++[(v1,.ow l)])++vs'.zip ss') H1:=by simpa using rel1
  have dns:=rel1'.keptAll (by simpa using hl) (fun p hp=>hp) ek
  have relT:=rel1'.drop
  have hE:=relT.e
  rw [ents_app] at hE
  obtain ⟨a,us,ea,hH,ql,h0⟩:=hE.ow (some v1) l (List.mem_append_right _ (by simp[tmp]))
  cases ea
  have hE:RelE K M P H0 (ents σ env1 ts++[(some (.ref a),.ow l)]) H1:=hE
  have eqN:Nw M (ents σ env1 (ts++[(.ref a,.ow l)]))=Nw M (ents σ env1 ts++[(some (.ref a),.ow l)]):=by rw[ents_app];rfl
  rw [eqN] at dns
  have ma:Nw M (ents σ env1 ts++[(some (.ref a),.ow l)]) a:=.inr (by rw[oas_app];exact List.mem_append_right _ (mem_oas.mpr ⟨_,List.mem_singleton.mpr rfl,List.mem_singleton.mpr rfl⟩))
  have arg:=argsIo (v1:=[]) (d1:=[]) (l:=l) (us:=us) (a:=a) (K:=K) (M':=Nw M (ents σ env1 ts++[(some (.ref a),.ow l)])) (H:=H1) .nil dns (fun b z hn=>relT.newAddr hn (by rw[eqN];exact z)) ma hH ql
  refine ⟨_,.io l::ds.map .fr,fun r _=>R r env1,by simp[dns.len],arg.2,hsp,fun r ss2 v H' hR hr post=>hq _ _ _ _ hR ?_⟩
  have k:Keep (fun b=>b=a) H1 H':=post.keep.mono fun b z=>by
   have z:b∈oas (tmp ((.ref a::vs').zip (.io l::ds.map .fr))):=z
   have oe:=arg.1
   simp only [List.nil_append,List.map_nil] at oe
   rw [oe,List.mem_singleton] at z
   exact z
  obtain ⟨rel',f1,f2,f3⟩:=hE.lost k post.live
  have rk:=post.resOk hr
  have rk':ResOk K (Nw M (ents σ env1 ts)) H1 H' v r:=rk.to fun b z=>nw_app z
  have n2:∀ b,((Nw M (ents σ env1 ts) b∨(b∈own1 (some v,r)∧H1 b=none))∨b=a)→Nw M (ents σ env1 ts++[(some (.ref a),.ow l)]) b∨H1 b=none:=fun b z=>by
   rcases z with (z|z)|z
   ·exact .inl (nw_app z)
   ·exact .inr z.2
   ·rw [z];exact .inl ma
  refine relT.drop.withRes ?_ hr
  refine rel'.getRes relT.e.live rk' (fun x d m=>?_) (fun x s ds' m eo=>?_) fun x S d m=>?_
  rotate_right
  ·obtain ⟨w,e,f⟩:=f3 x S d m
   exact ⟨w,e,(f (fun b=>(Nw M (ents σ env1 ts) b∨(b∈own1 (some v,r)∧H1 b=none))∨b=a) n2 (.inr rfl)).to fun b _ _ z=>.inl z⟩
  ·obtain ⟨w,e,f⟩:=f1 x d m
   exact ⟨w,e,(f (fun b=>(Nw M (ents σ env1 ts) b∨(b∈own1 (some v,r)∧H1 b=none))∨b=a) n2 (.inr rfl)).to fun b _ _ z=>.inl z⟩
  ·obtain ⟨b,us',e,e2,f⟩:=f2 x s ds' m eo
   exact ⟨b,us',e,e2,(f (fun b=>(Nw M (ents σ env1 ts) b∨(b∈own1 (some v,r)∧H1 b=none))∨b=a) n2 (.inr rfl)).to fun b _ _ z=>.inl z⟩
noncomputable def dCallS (sp:DSp) (m:Nat) (t:DA):DE:=fun env R=>t env fun ss env1=>∃ i s0 l d1 d2,ss[m]? = some (.vw i)∧env1[i]? = some s0∧ownD s0=some l∧keepsOf env1 (ss.take m)=some d1∧keepsOf env1 (ss.drop (m+1))=some d2 ∧
 sp (d1.map .fr++.io l::d2.map .fr) (dK (fun r as=>∃ l' s',as[m]? = some (.io l')∧setSl s0 l'=some s'∧R r (env1.set i s')) ⟨⟩)
theorem take_zip {α β:Type} (l:List α) (m:List β) (n:Nat):∀ p∈(l.take n).zip (m.take n),p∈l.zip m:=fun p hp=>by
 rw [List.zip,←List.take_zipWith] at hp
 exact List.mem_of_mem_take hp
theorem drop_zip {α β:Type} (l:List α) (m:List β) (n:Nat):∀ p∈(l.drop n).zip (m.drop n),p∈l.zip m:=fun p hp=>by
 rw [List.zip,←List.drop_zipWith] at hp
 exact List.mem_of_mem_drop hp
theorem cut_at {α:Type}{l:List α}{m:Nat}{x:α} (h:l[m]? = some x):l=l.take m++x::l.drop (m+1):=by
 obtain ⟨hm,e⟩:=List.getElem?_eq_some_iff.mp h
 rw [←e,List.getElem_cons_drop,List.take_append_drop]
theorem callS_up {sp:DSp}{m:Nat}{tl:DA}:∀ σ H Q,up K (dCallS sp m tl) σ H Q→tCall (spD K sp) [] E0 (upA K tl) σ H Q:=fun σ H Q h=>by
 obtain ⟨M,P,H0,σ0,env,ts,R,rel,ht,hq⟩:=h
 refine ⟨M,P,H0,σ0,env,ts,_,rel,ht,fun ss env1 vs H1 h1 hl rel1=>?_⟩
 obtain ⟨i,s0,l,d1,d2,em,ei,eo,k1,k2,hsp⟩:=h1
 rw [List.append_nil]
 have relT:=rel1.drop
 obtain ⟨a,us,ea,hH,ql⟩:=relT.mine ei eo
 have hm:m<ss.length:=(List.getElem?_eq_some_iff.mp em).1
 have hmv:m<vs.length:=by omega
 have va:vs[m]? = some (.ref a):=by
  have mz:(vs[m],ss[m])∈vs.zip ss:=by
   have hz:m<(vs.zip ss).length:=by rw[List.length_zip];omega
   have:=List.getElem_mem hz
   rwa [List.getElem_zip] at this
  rw [(List.getElem?_eq_some_iff.mp em).2] at mz
  have q:=rel1.vw _ _ (List.mem_append_right _ mz)
  rw [ea] at q
  rw [List.getElem?_eq_getElem hmv]
  exact congrArg some (Option.some.inj (Option.some.inj q)).symm
 have ev:=cut_at va
 have q1:=rel1.keptAll (vs:=vs.take m) (ss:=ss.take m) (by simp;omega) (take_zip _ _ _) k1
 have q2:=rel1.keptAll (vs:=vs.drop (m+1)) (ss:=ss.drop (m+1)) (by simp;omega) (drop_zip _ _ _) k2
 have hE:=relT.e
 have ma:Nw M (ents σ env1 ts) a:=by
  obtain ⟨x,e1,mm⟩:=relT.slot ei
  rw [ea] at e1
  cases e1
  refine .inr (mem_oas.mpr ⟨_,mm,?_⟩)
  exact (own_of eo).2 a
 have arg:=argsIo (l:=l) (us:=us) (a:=a) q1 q2 (fun b z hn=>relT.newAddr hn z) ma hH ql
 rw [←ev] at arg
 have ld1:=q1.len
 have ld2:=q2.len
 refine ⟨_,d1.map .fr++.io l::d2.map .fr,_,?_,arg.2,hsp,fun r ss2 v H' hR hr post=>?_⟩
 ·rw [ev]
  simp only [List.length_append,List.length_cons,List.length_map]
  omega
 obtain ⟨l',s',e2,es,hR⟩:=hR
 refine hq _ _ _ _ hR ?_
 have k:Keep (fun b=>b=a) H1 H':=post.keep.mono fun b z=>by
  have z:b∈oas (tmp (vs.zip (d1.map .fr++.io l::d2.map .fr))):=z
  rw [arg.1,List.mem_singleton] at z
  exact z
 have mp:((some (.ref a),.io l'):Ent)∈tmp ((v,r)::vs.zip ss2):=by
  rw [tmp_cons]
  refine List.mem_cons_of_mem _ (List.mem_map.mpr ⟨(.ref a,.io l'),?_,rfl⟩)
  have h2:m<ss2.length:=(List.getElem?_eq_some_iff.mp e2).1
  have hz:m<(vs.zip ss2).length:=by rw[List.length_zip];omega
  have:=List.getElem_mem hz
  rw [List.getElem_zip,(List.getElem?_eq_some_iff.mp va).2,(List.getElem?_eq_some_iff.mp e2).2] at this
  exact this
 obtain ⟨a',us',z,hH',ql',_⟩:=post.io _ _ mp
 cases z
 obtain ⟨x,A,B,e3,sp1,sp2⟩:=relT.split ei
 rw [ea] at e3
 cases e3
 have iso:isOw s0 l' s':=(set_of es).1
 rw [sp1] at hE
 have dnl:DNs K (Nw M (A++(some (.ref a),s0)::B)) H' us' l':=ql'.to fun b _ _ z=>.inl (by rw[sp1];exact z)
 have hM:=hE.muted iso k post.live hH' dnl
 have neq:Nw M (ents σ (env1.set i s') ts)=Nw M (ents σ env1 ts):=by
  rw [sp1,sp2]
  have oa:own1 (some (.ref a),s0)=[a]∧own1 (some (.ref a),s')=[a]:=by
   exact isOw_own iso
  unfold Nw
  rw [oas_app,oas_app,oas_cons,oas_cons,oa.1,oa.2]
 rw [←sp2] at hM
 have rk:ResOk K (Nw M (ents σ (env1.set i s') ts)) H1 H' v r:=by rw[neq];exact post.resOk hr
 have relB:Rel K M P H0 σ0 σ (env1.set i s') ts H':=⟨hM,by simp[relT.len],relT.vw,fun j ds'' e'=>by
  by_cases hj:i=j
  ·subst hj
   have hi:i<env1.length:=(List.getElem?_eq_some_iff.mp ei).1
   rw [List.getElem?_set_self hi] at e'
   cases e'
   obtain ⟨ds0,rfl⟩:=set_io es
   exact relT.ios i ds0 ei
  ·rw [List.getElem?_set_ne hj] at e'
   exact relT.ios j ds'' e'⟩
 refine relB.withRes ?_ hr
 have old:∀ x t,(x,t)∈ents σ (env1.set i s') ts→(x,t)=(some (.ref a),s')∨((x,t)∈A∨(x,t)∈B):=fun x t m=>by
  rw [sp2] at m
  rcases List.mem_append.mp m with m|m
  ·exact .inr (.inl m)
  ·rcases List.mem_cons.mp m with m|m
   ·exact .inl m
   ·exact .inr (.inr m)
 have back:∀ x t,(x,t)∈A∨(x,t)∈B→(x,t)∈A++(some (.ref a),s0)::B:=fun x t m=>by
  rcases m with m|m
  ·exact List.mem_append_left _ m
  ·exact List.mem_append_right _ (List.mem_cons_of_mem _ m)
 have n2:∀ b,(Nw M (ents σ (env1.set i s') ts) b∨(b∈own1 (some v,r)∧H1 b=none))→Nw M (A++(some (.ref a),s0)::B) b∨H1 b=none:=fun b z=>by
  rw [neq,sp1] at z
  exact z.elim .inl fun z=>.inr z.2
 have pa:∀ b,b=a→(Nw M (ents σ (env1.set i s') ts) b∨(b∈own1 (some v,r)∧H1 b=none)):=fun b z=>by rw[z,neq];exact .inl ma
 have oa0:own1 (some (.ref a),s0)=[a]:=(isOw_own iso).1
 have nd:=hE.nd
 rw [oas_app,oas_cons,oa0] at nd
 obtain ⟨_,nd2,nd3⟩:=List.nodup_append.mp nd
 obtain ⟨nd4,_⟩:=List.nodup_cons.mp nd2
 have other:∀ x t b,(x,t)∈A∨(x,t)∈B→b∈own1 (x,t)→b≠a:=fun x t b m eo z=>by
  subst z
  rcases m with m|m
  ·exact nd3 b (mem_oas.mpr ⟨_,m,eo⟩) b List.mem_cons_self rfl
  ·exact nd4 (mem_oas.mpr ⟨_,m,eo⟩)
 refine hM.getRes relT.e.live rk (fun x d mm=>?_) (fun x t ds' mm eo'=>?_) fun x S d mm=>?_
 rotate_right
 ·rcases old _ _ mm with mm|mm
  ·rcases isOw_two iso with ⟨_,_,e⟩|⟨_,_,e⟩ <;> (rw[e] at mm;cases mm)
  ·obtain ⟨w,e,dn,_⟩:=hE.tr x S d (back _ _ mm)
   subst e
   exact ⟨w,rfl,dn.past n2 k pa fun b hb z=>other _ _ b mm (by rw[own1_tr];exact hb) z⟩
 ·rcases old _ _ mm with mm|mm
  ·rcases isOw_two iso with ⟨_,_,e⟩|⟨_,_,e⟩ <;> (rw[e] at mm;cases mm)
  ·obtain ⟨w,e,dn⟩:=hE.fr x d (back _ _ mm)
   exact ⟨w,e,dn.past n2 k pa⟩
 ·rcases old _ _ mm with mm|mm
  ·cases mm
   have el:ds'=l':=Option.some.inj (eo'.symm.trans (set_of es).2)
   subst el
   refine ⟨a,us',rfl,hH',ql'.to fun b _ _ z=>?_⟩
   rcases z with z|z
   ·exact .inl (by rw[←neq];exact z)
   ·exact .inr (by rw[tmp_cons,oas_cons];exact List.mem_append_left _ z.1)
  ·cases t with
   | ow l2 =>
    cases eo'
    obtain ⟨b,us2,e,e2',dn,_⟩:=hE.ow x _ (back _ _ mm)
    subst e
    exact ⟨b,us2,rfl,k _ _ (other _ _ b mm (List.mem_singleton.mpr rfl)) e2',dn.past n2 k pa⟩
   | io l2 =>
    cases eo'
    obtain ⟨b,us2,e,e2',dn,_⟩:=hE.io x _ (back _ _ mm)
    subst e
    exact ⟨b,us2,rfl,k _ _ (other _ _ b mm (List.mem_singleton.mpr rfl)) e2',dn.past n2 k pa⟩
   | _=>cases eo'
end
end L2
namespace L2
open PySem PySem.Spec PyProof.Rows
structure DEnds where
 nx : List Sl→Prop
 rt : Sl→List Sl→Prop
 bk : List Sl→Prop:=fun _=>False
 ct : List Sl→Prop:=fun _=>False
noncomputable abbrev DS:=DEnds→List Sl→Prop
noncomputable def NoVw (ts:List (V×Sl)):Prop:=∀ v i,(v,Sl.vw i) ∉ ts
structure EndsOk (K:PySem.W.Frag) (M P:Addr→Prop) (H0:Hp) (σ0:St) (ts:List (V×Sl)) (DD:DEnds) (D:Ends):Prop where
 nx : ∀ σ' env' H',DD.nx env'→Rel K M P H0 σ0 σ' env' ts H'→D.nx σ' H'
 rt : ∀ s env' v σ' H',DD.rt s env'→Rel K M P H0 σ0 σ' env' (ts++[(v,s)]) H'→D.rt v H'
 bk : ∀ σ' env' H',DD.bk env'→Rel K M P H0 σ0 σ' env' ts H'→D.bk σ' H'
 ct : ∀ σ' env' H',DD.ct env'→Rel K M P H0 σ0 σ' env' ts H'→D.ct σ' H'
noncomputable def upS (K:PySem.W.Frag) (t:DS):TS:=fun D σ H=>∃ (M P:Addr→Prop) (H0:Hp) (σ0:St) (env:List Sl) (ts:List (V×Sl)) (DD:DEnds),NoVw ts∧Rel K M P H0 σ0 σ env ts H∧t DD env∧EndsOk K M P H0 σ0 ts DD D
theorem PS.imp {X:Cx}{e:Stmt}{t t':TS} (h:PS X e t) (k:∀ D σ H,t' D σ H→t D σ H):PS X e t':=fun pins s σ H D I hw=>h pins s σ H D I (k D σ H hw)
theorem PSs.imp {X:Cx}{e:List Stmt}{t t':TS} (h:PSs X e t) (k:∀ D σ H,t' D σ H→t D σ H):PSs X e t':=fun pins s σ H D I hw=>h pins s σ H D I (k D σ H hw)
section
variable {K:PySem.W.Frag}{M P N:Addr→Prop}{H0 H H':Hp}{σ0 σ:St}{env:List Sl}{ts tt:List (V×Sl)}{v:V}{s:Sl}{d:PyData}
noncomputable def stoOf (env:List Sl):Sl→Option Sl
 | .fr d=>some (.fr d)
 | .ow ds=>some (.ow ds)
 | .tr S d=>some (.tr S d)
 | .vw i=>((env[i]?).bind slK).map .fr
 | _=>none
theorem Rel.unVw (h:Rel K M P H0 σ0 σ env (ts++[(v,s)]) H) {s':Sl} (e:stoOf env s=some s'):Rel K M P H0 σ0 σ env (ts++[(v,s')]) H∧isRes s'=true:=by
 cases s with
 | fr d=>cases e;exact⟨h,rfl⟩
 | ow ds=>cases e;exact⟨h,rfl⟩
 | tr S d=>cases e;exact⟨h,rfl⟩
 | vw i =>
  have e:((env[i]?).bind slK).map Sl.fr=some s':=e
  cases q:(env[i]?).bind slK with
  | none=>rw[q] at e;cases e
  | some d =>
   rw [q] at e
   cases e
   exact ⟨h.drop.addFr (h.kept (tt:=[(v,.vw i)]) (s:=.vw i) (by simp) q),rfl⟩
 | _=>cases e
theorem zip_set2 {σ:St}{env:List Sl}{i:Nat}{x:Option V}{s':Sl}:(σ.set i x).zip (env.set i s')=(σ.zip env).set i (x,s'):=by
 apply List.ext_getElem?
 intro j
 rw [zip_get]
 by_cases hj:i=j
 ·subst hj
  rw [List.getElem?_set_self',List.getElem?_set_self',List.getElem?_set_self',zip_get]
  cases σ[i]? <;> cases env[i]? <;> rfl
 ·rw [List.getElem?_set_ne hj,List.getElem?_set_ne hj,List.getElem?_set_ne hj,zip_get]
theorem Rel.store (h:Rel K M P H0 σ0 σ env (ts++[(v,s)]) H) (nv:NoVw ts) {i:Nat} (hi:i<env.length) (hs:isRes s=true):Rel K M P H0 σ0 (σ.set i (some v)) (env.set i s) ts H:=by
 have hiz:i<(σ.zip env).length:=by rw[List.length_zip,h.len];omega
 obtain ⟨A,B,q1,q2⟩:=mem_split (List.getElem?_eq_getElem hiz)
 refine ⟨?_,by simp[h.len],fun w j m=>absurd m (nv w j),fun j ds e=>?_⟩
 ·have hE:=h.e
  unfold ents at hE ⊢
  rw [q1,tmp_app,List.append_assoc] at hE
  rw [zip_set2,q2,List.append_assoc]
  have e2:((σ.zip env)[i]::B)++(tmp ts++tmp [(v,s)])=(σ.zip env)[i]::((B++tmp ts)++[(some v,s)]):=by simp[tmp]
  rw [e2] at hE
  have:=hE.move
  simpa using this
 ·by_cases hj:i=j
  ·subst hj
   rw [List.getElem?_set_self hi] at e
   cases e
   cases hs
  ·rw [List.getElem?_set_ne hj] at e
   rw [List.getElem?_set_ne hj]
   exact h.ios j ds e
end
section
variable {X:Cx}{K:PySem.W.Frag}{pos:Pos}{st:Stmt}{rest a b:List Stmt}{t u:DS}{e c:Expr}{te:DE}{tc:DT}
noncomputable def dNext:DS:=fun DD env=>DD.nx env
noncomputable def dSeq (t u:DS):DS:=fun DD env=>t { DD with nx:=u DD } env
noncomputable def dCut (t u:DS):DS:=fun DD env=>∃ R:List Sl→Prop,t { DD with nx:=dI R ⟨⟩ } env∧∀ env',R env'→u DD env'
theorem qs_nil:PSs X [] (upS K dNext):=pss_nil.imp fun D σ H h=>by
 obtain ⟨M,P,H0,σ0,env,ts,DD,nv,rel,ht,ok⟩:=h
 exact ok.nx _ _ _ ht rel
theorem qs_cons (h1:PS X st (upS K t)) (h2:PSs X rest (upS K u)):PSs X (st::rest) (upS K (dSeq t u)):=(pss_cons h1 h2).imp fun D σ H h=>by
 obtain ⟨M,P,H0,σ0,env,ts,DD,nv,rel,ht,ok⟩:=h
 exact ⟨M,P,H0,σ0,env,ts,_,nv,rel,ht,⟨fun σ' env' H' q r=>⟨M,P,H0,σ0,env',ts,DD,nv,r,q,ok⟩,ok.rt,ok.bk,ok.ct⟩⟩
theorem qs_cut (h1:PS X st (upS K t)) (h2:PSs X rest (upS K u)):PSs X (st::rest) (upS K (dCut t u)):=(pss_cut h1 h2).imp fun D σ H h=>by
 obtain ⟨M,P,H0,σ0,env,ts,DD,nv,rel,⟨R,ht,hR⟩,ok⟩:=h
 exact ⟨fun σ' H'=>∃ env',R env'∧Rel K M P H0 σ0 σ' env' ts H',⟨M,P,H0,σ0,env,ts,_,nv,rel,ht,⟨fun σ' env' H' q r=>⟨env',q,r⟩,ok.rt,ok.bk,ok.ct⟩⟩,
  fun σ' H' ⟨env',q,r⟩=>⟨M,P,H0,σ0,env',ts,DD,nv,r,hR env' q,ok⟩⟩
theorem qs_one (h1:PS X st (upS K t)):PSs X [st] (upS K t):=pss_one h1
noncomputable def dCont:DS:=fun DD env=>DD.ct env
theorem q_continue:PS X (.Continue pos) (upS K dCont):=ps_continue.imp fun D σ H h=>by
 obtain ⟨M,P,H0,σ0,env,ts,DD,nv,rel,ht,ok⟩:=h
 exact ok.ct _ _ _ ht rel
noncomputable def dDrop (te:DE):DS:=fun DD env=>te env fun _ env1=>DD.nx env1
theorem q_expr (he:PE X e (up K te)) (hs:swapsWith e none pos.line X.env=pure false:=by rfl):PS X (.Expr e pos) (upS K (dDrop te)):=(ps_expr he hs).imp fun D σ H h=>by
 obtain ⟨M,P,H0,σ0,env,ts,DD,nv,rel,ht,ok⟩:=h
 exact ⟨M,P,H0,σ0,env,ts,_,rel,ht,fun s1 env1 v1 H1 h1 rel1=>ok.nx _ _ _ h1 rel1.drop⟩
noncomputable def dRet (te:DE):DS:=fun DD env=>te env DD.rt
theorem q_ret (he:PE X e (up K te)):PS X (.Return (some e) pos) (upS K (dRet te)):=(ps_ret he).imp fun D σ H h=>by
 obtain ⟨M,P,H0,σ0,env,ts,DD,nv,rel,ht,ok⟩:=h
 exact ⟨M,P,H0,σ0,env,ts,_,rel,ht,fun s1 env1 v1 H1 h1 rel1=>ok.rt _ _ _ _ _ h1 rel1⟩
noncomputable def dIfS (c:DT) (t u:DS):DS:=fun DD env=>c env fun k env1=>if k=true then t DD env1 else u DD env1
theorem q_if (hc:PT X c (upT K tc)) (ha:PSs X a (upS K t)) (hb:PSs X b (upS K u)):PS X (.If c a b pos) (upS K (dIfS tc t u)):=(ps_if hc ha hb).imp fun D σ H h=>by
 obtain ⟨M,P,H0,σ0,env,ts,DD,nv,rel,ht,ok⟩:=h
 refine ⟨M,P,H0,σ0,env,ts,_,rel,ht,fun k env1 H1 h1 rel1=>?_⟩
 cases k with
 | true=>exact⟨M,P,H0,σ0,env1,ts,DD,nv,rel1,h1,ok⟩
 | false=>exact⟨M,P,H0,σ0,env1,ts,DD,nv,rel1,h1,ok⟩
noncomputable def dSet (i:Nat) (te:DE):DS:=fun DD env=>te env fun s env1=>∃ s',i<env1.length∧stoOf env1 s=some s'∧DD.nx (env1.set i s')
theorem q_set {i:Nat}{x:Str}{pos':Pos} (hN:X.N.Nodup) (hi:X.N[i]? = some x) (hx:Loc X.env.scope x) (he:PE X e (up K te)) (hs:swapsWith e (some (.Name x pos')) pos.line X.env=pure false:=by rfl) (hf:X.fn x=true∨X.env.scope.names.lookup x=some .local:=by first|exact .inl rfl|exact .inr rfl|assumption):PS X (.Assign [.Name x pos'] e pos) (upS K (dSet i te)) :=
 (ps_set hN hi hx he hs hf).imp fun D σ H h=>by
 obtain ⟨M,P,H0,σ0,env,ts,DD,nv,rel,ht,ok⟩:=h
 refine ⟨M,P,H0,σ0,env,ts,_,rel,ht,fun s1 env1 v1 H1 h1 rel1=>?_⟩
 obtain ⟨s',hl,es,hR⟩:=h1
 obtain ⟨r,cs⟩:=rel1.unVw es
 exact ok.nx _ _ _ hR (r.store nv hl cs)
end
end L2
namespace L2
open PySem PySem.Spec PyProof.Rows
noncomputable abbrev DG:=PyData→List Sl→(List Sl→Prop)→Prop
noncomputable abbrev DGs:=List PyData→List Sl→(List Sl→Prop)→Prop
noncomputable def upG (K:PySem.W.Frag) (g:DG):TG:=fun v σ H Q=>∃ (M P:Addr→Prop) (H0:Hp) (σ0:St) (env:List Sl) (ts:List (V×Sl)) (d:PyData) (R:List Sl→Prop),NoVw ts∧Rel K M P H0 σ0 σ env ts H∧DN K (Nw M (ents σ env ts)) H v d∧g d env R ∧
 ∀ σ' env' H',R env'→Rel K M P H0 σ0 σ' env' ts H'→Q σ' H'
noncomputable def upGs (K:PySem.W.Frag) (g:DGs):TGs:=fun vs σ H Q=>∃ (M P:Addr→Prop) (H0:Hp) (σ0:St) (env:List Sl) (ts:List (V×Sl)) (ds:List PyData) (R:List Sl→Prop),NoVw ts∧Rel K M P H0 σ0 σ env ts H∧DNs K (Nw M (ents σ env ts)) H vs ds∧g ds env R ∧
 ∀ σ' env' H',R env'→Rel K M P H0 σ0 σ' env' ts H'→Q σ' H'
theorem PG.imp {X:Cx}{e:Expr}{t t':TG} (h:PG X e t) (k:∀ v σ H Q,t' v σ H Q→t v σ H Q):PG X e t':=fun pins s σ H v u Q I r hw=>h pins s σ H v u Q I r (k v σ H Q hw)
theorem PGs.imp {X:Cx}{e:List Expr}{t t':TGs} (h:PGs X e t) (k:∀ v σ H Q,t' v σ H Q→t v σ H Q):PGs X e t':=fun pins s σ H v u Q I r hw=>h pins s σ H v u Q I r (k v σ H Q hw)
section
variable {K:PySem.W.Frag}{M P N:Addr→Prop}{H0 H H':Hp}{σ0 σ:St}{env:List Sl}{ts tt kp:List (V×Sl)}{v:V}{s:Sl}{d:PyData}{X:Cx}{pos:Pos}{e:Expr}{es:List Expr}
theorem oas_tmpFr (v:V) (d:PyData):oas (tmp [(v,Sl.fr d)])=[]:=by
 show oas [(some v,Sl.fr d)]=[]
 rw [oas_cons]
 cases v <;> rfl
theorem nw_tmpFr {E:List Ent}{v:V}{d:PyData}:Nw M (E++tmp [(v,Sl.fr d)])=Nw M E:=by
 unfold Nw
 rw [oas_app,oas_tmpFr,List.append_nil]
noncomputable def dgName (i:Nat):DG:=fun d env R=>i<env.length∧R (env.set i (.fr d))
theorem qg_name {i:Nat}{x:Str} (hN:X.N.Nodup) (hi:X.N[i]? = some x) (hx:Loc X.env.scope x) (hf:X.fn x=true∨X.env.scope.names.lookup x=some .local:=by first|exact .inl rfl|exact .inr rfl|assumption):PG X (.Name x pos) (upG K (dgName i)) :=
 (pg_name hN hi hx hf).imp fun v σ H Q h=>by
 obtain ⟨M,P,H0,σ0,env,ts,d,R,nv,rel,dn,⟨hl,hR⟩,hq⟩:=h
 exact hq _ _ _ hR ((rel.addFr dn).store nv hl rfl)
noncomputable def dgNil:DGs:=fun ds env R=>ds=[]∧R env
noncomputable def dgCons (g:DG) (gs:DGs):DGs:=fun ds env R=>∃ d r,ds=d::r∧g d env fun env1=>gs r env1 R
theorem qgs_nil:PGs X [] (upGs K dgNil):=pgs_nil.imp fun v σ H Q h=>by
 obtain ⟨M,P,H0,σ0,env,ts,ds,R,nv,rel,dn,⟨rfl,hR⟩,hq⟩:=h
 cases dn
 exact ⟨rfl,hq _ _ _ hR rel⟩
theorem keeps_fr (env:List Sl):∀ ds:List PyData,keepsOf env (ds.map .fr)=some ds
 | []=>rfl
 | d::ds=>by
  show (keepOf env (Sl.fr d)).bind _=_
  rw [keeps_fr env ds]
  rfl
theorem noVw_fr (vs:List V) (ds:List PyData) (nv:NoVw ts):NoVw (ts++vs.zip (ds.map .fr)):=fun w i m=>by
 rcases List.mem_append.mp m with m|m
 ·exact nv w i m
 ·obtain ⟨d,_,e⟩:=List.mem_map.mp (List.of_mem_zip m).2
  cases e
theorem Rel.addFrs:∀ {vs:List V}{ds:List PyData}{ts:List (V×Sl)},Rel K M P H0 σ0 σ env ts H→DNs K (Nw M (ents σ env ts)) H vs ds→Rel K M P H0 σ0 σ env (ts++vs.zip (ds.map .fr)) H
 | _,_,ts,rel,.nil=>by simpa using rel
 | _,_,ts,rel,@DNs.cons _ _ _ v vs d ds h q=>by
  have r:=rel.addFr h
  have q':DNs K (Nw M (ents σ env (ts++[(v,.fr d)]))) H vs ds:=q.to fun b _ _ z=>by rw[ents_app,nw_tmpFr] at z;exact z
  have:=Rel.addFrs r q'
  simpa using this
theorem qgs_cons {g:DG}{gs:DGs} (h1:PG X e (upG K g)) (h2:PGs X es (upGs K gs)) (hs:(assignEach (e::es) X.env).map (·.2)=assign e X.env::(assignEach es X.env).map (·.2):=by rfl):PGs X (e::es) (upGs K (dgCons g gs)) :=
 (pgs_cons h1 h2 hs).imp fun vs σ H Q h=>by
 obtain ⟨M,P,H0,σ0,env,ts,ds,R,nv,rel,dn,⟨d,r,rfl,hg⟩,hq⟩:=h
 cases dn with
 | @cons v vs _ _ h q =>
  have relA:=rel.addFrs q
  have hN:DN K (Nw M (ents σ env (ts++vs.zip (r.map .fr)))) H v d:=h.to fun b _ _ z=>by
   rw [ents_app] at z
   rcases z with z|z
   ·exact .inl z
   ·rw [oas_app,oas_fr,List.append_nil] at z
    exact .inr z
  refine ⟨v,vs,rfl,M,P,H0,σ0,env,ts++vs.zip (r.map .fr),d,_,noVw_fr _ _ nv,relA,hN,hg,fun σ' env' H' hR' rel'=>?_⟩
  exact ⟨M,P,H0,σ0,env',ts,r,R,nv,rel'.drop,rel'.keptAll (by simp[q.len]) (fun p hp=>hp) (keeps_fr _ _),hR',hq⟩
noncomputable def dgTup (n:Nat) (gs:DGs):DG:=fun d env R=>∃ ds,d=.tuple ds∧ds.length=n∧gs ds env R
theorem qg_tup {k:Nat}{gs:DGs}{n:Nat} (hK:X.K=K) (hc:X.calm=true) (h:PGs X es (upGs K gs)) (hn:(assignEach es X.env).length=n:=by rfl) (hst:(assignEach es X.env).findIdx? (·.1)=none:=by rfl):PG X (.Tuple es k pos) (upG K (dgTup n gs)) :=
 (kgTup (K:=K) hK hc h hn hst).imp fun v σ H Q h=>by
 obtain ⟨M,P,H0,σ0,env,ts,d,R,nv,rel,dn,⟨ds,rfl,hl,hg⟩,hq⟩:=h
 obtain ⟨a,xs,rfl,sn,q⟩:=dn.tuple
 exact ⟨a,xs,rfl,sn.sq,by rw[q.len];exact hl,M,P,H0,σ0,env,ts,ds,R,nv,rel,q,hg,hq⟩
noncomputable def dAsg (te:DE) (g:DG):DS:=fun DD env=>te env fun s env1=>∃ d,keepOf env1 s=some d∧g d env1 DD.nx
theorem q_asg {tg:Expr}{te:DE}{g:DG} (he:PE X e (up K te)) (hg:PG X tg (upG K g)) (hs:swapsWithSole [tg] e pos.line X.env=pure false:=by rfl) (hw:swappedStores [tg] e X.env=pure none:=by rfl)
  (h1:(assignEach [tg] X.env).map (·.2)=[assign tg X.env]:=by rfl):PS X (.Assign [tg] e pos) (upS K (dAsg te g)):=(ps_asg he hg hs hw h1).imp fun D σ H h=>by
 obtain ⟨M,P,H0,σ0,env,ts,DD,nv,rel,ht,ok⟩:=h
 refine ⟨M,P,H0,σ0,env,ts,_,rel,ht,fun s1 env1 v1 H1 h1 rel1=>?_⟩
 obtain ⟨d,k,hg⟩:=h1
 exact ⟨M,P,H0,σ0,env1,ts,d,_,nv,rel1.drop,rel1.kept (v:=v1) (s:=s1) (by simp) k,hg,fun σ' env' H' hR r=>ok.nx _ _ _ hR r⟩
structure IterOk (K:PySem.W.Frag) (J:It) (kp:List (V×Sl)) (ds:List PyData):Prop where
 go : ∀ {M P:Addr→Prop}{H0 H:Hp}{σ0 σ:St}{env:List Sl}{ts:List (V×Sl)},Rel K M P H0 σ0 σ env (ts++kp) H→∀ i,i<ds.length→J.go i H
 yld:∀ {M P:Addr→Prop}{H0 H:Hp}{σ0 σ:St}{env:List Sl}{ts:List (V×Sl)},Rel K M P H0 σ0 σ env (ts++kp) H→∀ i x H',(hi:i<ds.length)→J.yld i H x H'→Same H H'∧DN K (Nw M (ents σ env (ts++kp))) H' x ds[i]
 stop:∀ {M P:Addr→Prop}{H0 H:Hp}{σ0 σ:St}{env:List Sl}{ts:List (V×Sl)},Rel K M P H0 σ0 σ env (ts++kp) H→J.stop ds.length H
 nv : NoVw kp
noncomputable abbrev DI:=List Sl→(List PyData→List Sl→Prop)→Prop
noncomputable def upI (K:PySem.W.Frag) (t:DI):TI:=fun σ H R=>∃ (M P:Addr→Prop) (H0:Hp) (σ0:St) (env:List Sl) (ts:List (V×Sl)) (RR:List PyData→List Sl→Prop),Rel K M P H0 σ0 σ env ts H∧t env RR ∧
 ∀ ds env' J H' kp,RR ds env'→Rel K M P H0 σ0 σ env' (ts++kp) H'→IterOk K J kp ds→R J H'
theorem PI.imp {tg iter:Expr}{t t':TI} (h:PI X tg iter t) (k:∀ σ H R,t' σ H R→t σ H R):PI X tg iter t':=fun pins s σ H R I hw=>h pins s σ H R I (k σ H R hw)
theorem seq_item {b:Bool}{a:Addr}{ds:List PyData} (rel:Rel K M P H0 σ0 σ env ts H) (m:(.ref a,.fr (if b then .tuple ds else .list ds))∈ts):∃ xs,SqB K H b a xs∧DNs K (Nw M (ents σ env ts)) H xs ds:=by
 obtain ⟨v,e,dn⟩:=rel.e.fr _ _ (mem_tmp m)
 cases e
 cases b with
 | false =>
  obtain ⟨a',xs,e,sn,q⟩:=DN.list dn
  cases e
  exact ⟨xs,sn.sq,q⟩
 | true =>
  obtain ⟨a',xs,e,sn,q⟩:=DN.tuple dn
  cases e
  exact ⟨xs,sn.sq,q⟩
theorem DNs.item {vs:List V}{ds:List PyData} (q:DNs K N H vs ds) {i:Nat} (hi:i<ds.length):∃ x,vs[i]? = some x∧DN K N H x ds[i]:=by
 have hv:i<vs.length:=by rw[q.len];exact hi
 obtain ⟨e,h1,h2⟩:=q.get (List.getElem?_eq_getElem hv)
 rw [List.getElem?_eq_getElem hi] at h1
 cases h1
 exact ⟨vs[i],List.getElem?_eq_getElem hv,h2⟩
theorem noVw1 {v:V}{d:PyData}:NoVw [(v,Sl.fr d)]:=fun w i m=>by rw[List.mem_singleton] at m;cases m
theorem iter_list {a:Addr}{ds:List PyData}:IterOk K (Itl K a) [(.ref a,.fr (.list ds))] ds where
 go := fun rel i hi=>by
  obtain ⟨xs,s,q⟩:=seq_item (b:=false) (a:=a) (ds:=ds) rel (List.mem_append_right _ (by simp))
  obtain ⟨x,e,_⟩:=q.item hi
  exact ⟨xs,x,s,e⟩
 yld:=fun rel i x H' hi y=>by
  obtain ⟨xs,s,q⟩:=seq_item (b:=false) (a:=a) (ds:=ds) rel (List.mem_append_right _ (by simp))
  obtain ⟨e,y⟩:=y
  subst e
  obtain ⟨x',e',dn⟩:=q.item hi
  rw [y xs s] at e'
  cases e'
  exact ⟨Same.refl _,dn⟩
 stop:=fun rel=>by
  obtain ⟨xs,s,q⟩:=seq_item (b:=false) (a:=a) (ds:=ds) rel (List.mem_append_right _ (by simp))
  exact ⟨xs,s,by rw[q.len];exact Nat.le_refl _⟩
 nv := noVw1
theorem iter_tup {a:Addr}{ds:List PyData}:IterOk K (Itt K a) [(.ref a,.fr (.tuple ds))] ds where
 go := fun rel i hi=>by
  obtain ⟨xs,s,q⟩:=seq_item (b:=true) (a:=a) (ds:=ds) rel (List.mem_append_right _ (by simp))
  obtain ⟨x,e,_⟩:=q.item hi
  exact ⟨xs,x,s,e⟩
 yld:=fun rel i x H' hi y=>by
  obtain ⟨xs,s,q⟩:=seq_item (b:=true) (a:=a) (ds:=ds) rel (List.mem_append_right _ (by simp))
  obtain ⟨e,y⟩:=y
  subst e
  obtain ⟨x',e',dn⟩:=q.item hi
  rw [y xs s] at e'
  cases e'
  exact ⟨Same.refl _,dn⟩
 stop:=fun rel=>by
  obtain ⟨xs,s,q⟩:=seq_item (b:=true) (a:=a) (ds:=ds) rel (List.mem_append_right _ (by simp))
  exact ⟨xs,s,by rw[q.len];exact Nat.le_refl _⟩
 nv := noVw1
noncomputable def rangeD (lo:Int) (n:Nat):List PyData:=(List.range n).map fun (k:Nat)=>PyData.int (lo+k)
theorem rangeD_len (lo:Int) (n:Nat):(rangeD lo n).length=n:=by simp[rangeD]
theorem rangeD_get (lo:Int) (n i:Nat) (h:i<(rangeD lo n).length):(rangeD lo n)[i]=.int (lo+i):=by simp[rangeD]
theorem iter_range {lo:Int}{n:Nat}:IterOk K (Itr lo n) [] (rangeD lo n) where
 go := fun rel i hi=>by rw[rangeD_len] at hi;exact hi
 yld:=fun rel i x H' hi y=>by
  obtain ⟨e,y⟩:=y
  subst e
  rw [rangeD_get,y]
  exact ⟨Same.refl _,.int _⟩
 stop:=fun rel=>by rw[rangeD_len];exact Nat.le_refl _
 nv := fun w i m=>by cases m
noncomputable def enumD (ds:List PyData):List PyData:=ds.zipIdx.map fun (p:PyData×Nat)=>PyData.tuple [.int p.2,p.1]
theorem enumD_len (ds:List PyData):(enumD ds).length=ds.length:=by simp[enumD]
theorem enumD_get (ds:List PyData) (i:Nat) (h:i<(enumD ds).length):(enumD ds)[i]=.tuple [.int i,ds[i]'(by rw[enumD_len] at h;exact h)]:=by simp[enumD]
theorem iter_enum {b:Bool}{a:Addr}{ds:List PyData}:IterOk K (Ite K b a) [(.ref a,.fr (if b then .tuple ds else .list ds))] (enumD ds) where
 go := fun rel i hi=>by
  rw [enumD_len] at hi
  obtain ⟨xs,s,q⟩:=seq_item (b:=b) (a:=a) (ds:=ds) rel (List.mem_append_right _ (by simp))
  obtain ⟨x,e,_⟩:=q.item hi
  exact ⟨xs,x,s,e⟩
 yld:=fun {M P H0 H σ0 σ env ts} rel i x H' hi y=>by
  rw [enumD_get]
  rw [enumD_len] at hi
  obtain ⟨xs,s,q⟩:=seq_item (b:=b) (a:=a) (ds:=ds) rel (List.mem_append_right _ (by simp))
  obtain ⟨p,x1,rfl,hp,rfl,y⟩:=y
  obtain ⟨x',e',dn⟩:=q.item hi
  rw [y xs s] at e'
  cases e'
  exact ⟨Same.new hp,DN.of2 (SnT.of upd_same (rel.newAddr hp)) (.int _) (dn.keep (Keep.same (Same.new hp)))⟩
 stop:=fun rel=>by
  obtain ⟨xs,s,q⟩:=seq_item (b:=b) (a:=a) (ds:=ds) rel (List.mem_append_right _ (by simp))
  exact ⟨xs,s,by rw[q.len,enumD_len]⟩
 nv := noVw1
end
end L2
namespace L2
open PySem PySem.Spec PyProof.Rows
section
variable {K:PySem.W.Frag}{M P N:Addr→Prop}{H0 H H':Hp}{σ0 σ:St}{env:List Sl}{ts tt kp:List (V×Sl)}{v:V}{s:Sl}{d:PyData}{X:Cx}{pos p:Pos}{e e1 e2 tg iter:Expr}{es:List Expr}{te:DE}{tl:DA}
noncomputable def dIList (te:DE):DI:=fun env RR=>te env fun s env1=>∃ ds,keepOf env1 s=some (.list ds)∧RR ds env1
noncomputable def dITup (te:DE):DI:=fun env RR=>te env fun s env1=>∃ ds,keepOf env1 s=some (.tuple ds)∧RR ds env1
theorem qi_list (hK:X.K=K) (h:PE X e (up K te)):PI X tg e (upI K (dIList te)):=(kiList (K:=K) hK h).imp fun σ H R h=>by
 obtain ⟨M,P,H0,σ0,env,ts,RR,rel,ht,hq⟩:=h
 refine ⟨M,P,H0,σ0,env,ts,_,rel,ht,fun s1 env1 v1 H1 h1 rel1=>?_⟩
 obtain ⟨ds,k,hR⟩:=h1
 have dn:=rel1.kept (v:=v1) (s:=s1) (by simp) k
 obtain ⟨a,xs,rfl,sn,q⟩:=dn.list
 exact ⟨a,rfl,⟨xs,sn.sq⟩,hq _ _ _ _ _ hR (rel1.drop.addFr dn) iter_list⟩
theorem qi_tup (hK:X.K=K) (h:PE X e (up K te)):PI X tg e (upI K (dITup te)):=(kiTup (K:=K) hK h).imp fun σ H R h=>by
 obtain ⟨M,P,H0,σ0,env,ts,RR,rel,ht,hq⟩:=h
 refine ⟨M,P,H0,σ0,env,ts,_,rel,ht,fun s1 env1 v1 H1 h1 rel1=>?_⟩
 obtain ⟨ds,k,hR⟩:=h1
 have dn:=rel1.kept (v:=v1) (s:=s1) (by simp) k
 obtain ⟨a,xs,rfl,sn,q⟩:=dn.tuple
 exact ⟨a,rfl,⟨xs,sn.sq⟩,hq _ _ _ _ _ hR (rel1.drop.addFr dn) iter_tup⟩
noncomputable def dRng1 (ta:DA):DI:=fun env RR=>ta env fun ss env1=>∃ s j,ss=[s]∧valOf env1 s=some (.int j)∧-4611686018427387904≤j∧j<4611686018427387904∧RR (rangeD 0 j.toNat) env1
theorem qi_rng1 (hg:Gl X "range") (hm:X.mg "range" = none) (ha:PA X [e] (upA K tl)) (hs:starEach [e] X.env=[(false,eval e X.env)]:=by rfl):PI X tg (.Call (.Name "range" p) [e] [] pos) (upI K (dRng1 tl)):=(pi_range1 hg hm ha hs).imp fun σ H R h=>by
 obtain ⟨M,P,H0,σ0,env,ts,RR,rel,ht,hq⟩:=h
 refine ⟨M,P,H0,σ0,env,ts,_,rel,ht,fun ss env1 vs H1 h1 hl rel1=>?_⟩
 obtain ⟨s,j,rfl,e1,b1,b2,hR⟩:=h1
 match vs,hl with
 | [v],_ =>
  have w:=(rel1.view (v:=v) (by simp) e1).int
  exact ⟨j,by rw[w],b1,b2,hq _ _ _ _ [] hR (by simpa using rel1.drop) iter_range⟩
noncomputable def sqD (b:Bool) (ds:List PyData):PyData:=if b then .tuple ds else .list ds
noncomputable def dEnum (b:Bool) (ta:DA):DI:=fun env RR=>ta env fun ss env1=>∃ s ds,ss=[s]∧keepOf env1 s=some (sqD b ds)∧RR (enumD ds) env1
theorem qi_enum (b:Bool) {es:List Expr}{kk:Nat}{tpos:Pos} (hK:X.K=K) (hg:Gl X "enumerate") (hm:X.mg "enumerate" = none) (ha:PA X [e] (upA K tl)) (hs:starEach [e] X.env=[(false,eval e X.env)]:=by rfl) :
  PI X (.Tuple es kk tpos) (.Call (.Name "enumerate" p) [e] [] pos) (upI K (dEnum b tl)):=(kiEnum (K:=K) hK b hg hm ha hs).imp fun σ H R h=>by
 obtain ⟨M,P,H0,σ0,env,ts,RR,rel,ht,hq⟩:=h
 refine ⟨M,P,H0,σ0,env,ts,_,rel,ht,fun ss env1 vs H1 h1 hl rel1=>?_⟩
 obtain ⟨s,ds,rfl,k,hR⟩:=h1
 match vs,hl with
 | [v],_ =>
  have dn:=rel1.kept (v:=v) (s:=s) (by simp) k
  have r2:=rel1.drop.addFr dn
  have hv:∃ a,v=.ref a:=by
   cases b with
   | false=>obtain⟨a,_,e,_⟩:=DN.list dn;exact⟨a,e⟩
   | true=>obtain⟨a,_,e,_⟩:=DN.tuple dn;exact⟨a,e⟩
  obtain ⟨a,rfl⟩:=hv
  obtain ⟨xs,sq,_⟩:=seq_item (b:=b) (a:=a) (ds:=ds) r2 (List.mem_append_right _ (by simp[sqD]))
  exact ⟨a,xs,rfl,sq,hq _ _ _ _ _ hR r2 iter_enum⟩
theorem Rel.dropMid {t:V×Sl} (h:Rel K M P H0 σ0 σ env (ts++kp++[t]) H):Rel K M P H0 σ0 σ env (ts++[t]) H:=by
 refine ⟨?_,h.len,fun w i m=>h.vw w i (by
  rcases List.mem_append.mp m with m|m
  ·exact List.mem_append_left _ (List.mem_append_left _ m)
  ·exact List.mem_append_right _ m),h.ios⟩
 have hE:=h.e
 rw [ents_app,ents_app] at hE
 rw [ents_app]
 refine hE.sub (fun x s m=>.inl ?_) ?_
 ·rcases List.mem_append.mp m with m|m
  ·exact List.mem_append_left _ (List.mem_append_left _ m)
  ·exact List.mem_append_right _ m
 ·have nd:=hE.nd
  rw [oas_app,oas_app] at nd
  rw [oas_app]
  obtain ⟨n1,n2,n3⟩:=List.nodup_append.mp nd
  exact List.nodup_append.mpr ⟨(List.nodup_append.mp n1).1,n2,fun x hx y hy=>n3 x (List.mem_append_left _ hx) y hy⟩
noncomputable def FD (ds:List PyData) (g:DG) (tb:DS):DS:=fun DD env=>∃ W:Nat→List Sl→Prop,W 0 env ∧
 (∀ i env,(h:i<ds.length)→W i env→g ds[i] env fun env2=>tb { DD with nx:=dI (W (i+1)) ⟨⟩,ct:=dI (W (i+1)) ⟨⟩,bk:=DD.nx } env2)∧∀ env,W ds.length env→DD.nx env
noncomputable def dFor (it:DI) (g:DG) (tb:DS):DS:=fun DD env=>it env fun ds env1=>FD ds g tb DD env1
theorem q_for {body:List Stmt}{it:DI}{g:DG}{tb:DS} (hp:PassesOwn (model X.prog X.w) X.A X.env X.xe) (hc:X.calm=true) (hi:PI X tg iter (upI K it)) (hg:PG X tg (upG K g)) (hb:PSs X body (upS K tb)) (hs:∀ x,foldedSetIterable iter X.env x=pure x:=by intro _;rfl) :
  PS X (.For tg iter body [] pos) (upS K (dFor it g tb)):=(ps_for hp hc hi hg hb hs).imp fun D σ H h=>by
 obtain ⟨M,P,H0,σ0,env,ts,DD,nv,rel,ht,ok⟩:=h
 refine ⟨M,P,H0,σ0,env,ts,_,rel,ht,fun ds env1 J H1 kp hF rel1 io=>?_⟩
 obtain ⟨W,w0,turn,done⟩:=hF
 have nv2:NoVw (ts++kp):=fun w i m=>by
  rcases List.mem_append.mp m with m|m
  ·exact nv w i m
  ·exact io.nv w i m
 refine ⟨fun i m σ H=>m=ds.length - i∧i≤ds.length∧∃ env,W i env∧Rel K M P H0 σ0 σ env (ts++kp) H,⟨_,rfl,Nat.zero_le _,env1,w0,rel1⟩,?_⟩
 rintro i m σ2 H2 ⟨rfl,hle,env2,w2,rel2⟩
 by_cases hlt:i<ds.length
 ·refine .inr ⟨io.go rel2 i hlt,fun σ' H'=>∃ env',W (i+1) env'∧Rel K M P H0 σ0 σ' env' (ts++kp) H',fun σ' H' ⟨env',w',r'⟩=>⟨ds.length - (i+1),by omega,rfl,hlt,env',w',r'⟩,fun x H3 y=>?_⟩
  obtain ⟨sm,dn⟩:=io.yld rel2 i x H3 hlt y
  have rel3:=rel2.same sm
  refine ⟨M,P,H0,σ0,env2,ts++kp,ds[i],_,nv2,rel3,dn,turn i env2 hlt w2,fun σ' env' H' hR r=>?_⟩
  refine ⟨M,P,H0,σ0,env',ts++kp,_,nv2,r,hR,⟨fun σ' env' H' q r=>⟨env',q,r⟩,fun s env' v σ' H' q r=>ok.rt s env' v σ' H' q r.dropMid,fun σ' env' H' q r=>ok.nx _ _ _ q r.drop,fun σ' env' H' q r=>⟨env',q,r⟩⟩⟩
 ·have e:i=ds.length:=by omega
  subst e
  exact .inl ⟨io.stop rel2,ok.nx _ _ _ (done _ w2) rel2.drop⟩
noncomputable def dWhile (c:DT) (tb:DS):DS:=fun DD env=>∃ W:Nat→List Sl→Prop,(∃ m,W m env)∧∀ m env,W m env →
 c env fun k env1=>if k=true then tb { DD with nx:=dI (fun env'=>∃ m',m'<m∧W m' env') ⟨⟩,ct:=dI (fun env'=>∃ m',m'<m∧W m' env') ⟨⟩,bk:=DD.nx } env1 else DD.nx env1
theorem q_while {c:Expr}{body:List Stmt}{tc:DT}{tb:DS} (hp:PassesOwn (model X.prog X.w) X.A X.env X.xe) (hc:PT X c (upT K tc)) (hb:PSs X body (upS K tb)):PS X (.While c body [] pos) (upS K (dWhile tc tb)):=(ps_while hp hc hb).imp fun D σ H h=>by
 obtain ⟨M,P,H0,σ0,env,ts,DD,nv,rel,⟨W,⟨m0,w0⟩,turn⟩,ok⟩:=h
 refine ⟨fun m σ H=>∃ env,W m env∧Rel K M P H0 σ0 σ env ts H,⟨m0,env,w0,rel⟩,?_⟩
 rintro m σ2 H2 ⟨env2,w2,rel2⟩
 refine ⟨M,P,H0,σ0,env2,ts,_,rel2,turn m env2 w2,fun k env3 H3 h3 rel3=>?_⟩
 cases k with
 | false=>exact ok.nx _ _ _ h3 rel3
 | true =>
  refine ⟨fun σ' H'=>∃ env',(∃ m',m'<m∧W m' env')∧Rel K M P H0 σ0 σ' env' ts H',fun σ' H' ⟨env',⟨m',hm,w'⟩,r'⟩=>⟨m',hm,env',w',r'⟩,?_⟩
  exact ⟨M,P,H0,σ0,env3,ts,_,nv,rel3,h3,⟨fun σ' env' H' q r=>⟨env',q,r⟩,ok.rt,fun σ' env' H' q r=>ok.nx _ _ _ q r,fun σ' env' H' q r=>⟨env',q,r⟩⟩⟩
end
end L2
namespace L2
open PySem PySem.Spec PyProof.Rows
noncomputable def capSl:Option Sl→Sl
 | some (.fr d)=>.fr d
 | _=>.un
noncomputable def capD (env:List Sl):Option Nat→Sl
 | none=>.un
 | some j=>capSl env[j]?
noncomputable def capE (ix:List (Option Nat)) (env:List Sl):List Sl:=ix.map (capD env)
theorem mem_zip_maps {α β γ:Type}{f:α→β}{g:α→γ}:∀ {l:List α}{x:β}{y:γ},(x,y)∈(l.map f).zip (l.map g)→∃ o∈l,x=f o∧y=g o
 | [],_,_,h=>by simp at h
 | a :: l,x,y,h=>by
  have h:(x,y)∈(f a,g a)::(l.map f).zip (l.map g):=h
  rcases List.mem_cons.mp h with h|h
  ·cases h;exact⟨a,List.mem_cons_self,rfl,rfl⟩
  ·obtain ⟨o,ho,e⟩:=mem_zip_maps h
   exact ⟨o,List.mem_cons_of_mem _ ho,e⟩
noncomputable def dYes:DT:=fun env R=>R true env
theorem PIf.imp {X:Cx}{ifs:List Expr}{t t':TT} (h:PIf X ifs t) (k:∀ σ H Q,t' σ H Q→t σ H Q):PIf X ifs t':=fun pins s σ H Q I hw=>h pins s σ H Q I (k σ H Q hw)
theorem qif_nil {X:Cx}{K:PySem.W.Frag}:PIf X [] (upT K dYes):=pif_nil.imp fun σ H Q h=>by
 obtain ⟨M,P,H0,σ0,env,ts,R,rel,ht,hq⟩:=h
 exact hq _ _ _ ht rel
theorem qif_one {X:Cx}{K:PySem.W.Frag}{c:Expr}{t:DT} (h:PT X c (upT K t)):PIf X [c] (upT K t):=pif_one h
section
variable {K:PySem.W.Frag}{M P N:Addr→Prop}{H0 H H':Hp}{σ0 σ:St}{env:List Sl}{ts tt kp:List (V×Sl)}{v:V}{s:Sl}{d:PyData}
theorem cap_mem {ix:List (Option Nat)}{x:Option V} (rel:Rel K M P H0 σ0 σ env ts H) (m:(x,s)∈(capS σ ix).zip (capE ix env)):s=.un∨∃ d v,s=.fr d∧x=some v∧DN K (Nw M (ents σ env ts)) H v d:=by
 obtain ⟨o,_,e1,e2⟩:=mem_zip_maps m
 cases o with
 | none=>exact .inl e2
 | some j =>
  have e2:s=capSl env[j]?:=e2
  cases q:env[j]? with
  | none=>rw[q] at e2;exact .inl e2
  | some s' =>
   rw [q] at e2
   cases s' with
   | fr d =>
    obtain ⟨x',e3,m3⟩:=rel.slot q
    obtain ⟨v,e4,dn⟩:=rel.e.fr _ _ m3
    refine .inr ⟨d,v,e2,?_,dn⟩
    rw [e1]
    show (σ[j]?).join=_
    rw [e3,e4]
    rfl
   | _=>exact .inl e2
theorem cap_oas {ix:List (Option Nat)} (rel:Rel K M P H0 σ0 σ env ts H):oas ((capS σ ix).zip (capE ix env))=[]:=by
 unfold oas
 rw [List.flatMap_eq_nil_iff]
 rintro ⟨x,s⟩ m
 rcases cap_mem rel m with e|⟨d,v,e,e2,_⟩
 ·subst e
  exact own1_un _
 ·subst e e2
  exact own1_fr _ _
theorem cap_rel {ix:List (Option Nat)} (rel:Rel K M P H0 σ0 σ env ts H):Rel K (Nw M (ents σ env ts)) (fun _=>False) H (capS σ ix) (capS σ ix) (capE ix env) [] H:=by
 have oe:=cap_oas (ix:=ix) rel
 have ee:ents (capS σ ix) (capE ix env) []=(capS σ ix).zip (capE ix env):=by simp[ents,tmp]
 refine ⟨⟨Keep.refl,fun a q=>q,fun a z hn=>rel.newAddr hn z,fun a z=>z.elim,fun x d m=>?_,fun x l m=>?_,fun x l m=>?_,fun x S l m=>?_,by rw[ee,oe];exact List.nodup_nil⟩,by simp[capS,capE],fun w i m=>(by cases m),fun i l e=>rfl⟩
 rotate_right
 ·rw [ee] at m
  rcases cap_mem rel m with e|⟨d',v,e,e2,dn⟩ <;> cases e
 ·rw [ee] at m
  rcases cap_mem rel m with e|⟨d',v,e,e2,dn⟩
  ·cases e
  ·cases e
   refine ⟨v,e2,dn.to fun b _ _ z=>?_⟩
   rcases z with z|z
   ·exact z
   ·rw [ee,oe] at z;cases z
 ·rw [ee] at m
  rcases cap_mem rel m with e|⟨d',v,e,e2,dn⟩ <;> cases e
 ·rw [ee] at m
  rcases cap_mem rel m with e|⟨d',v,e,e2,dn⟩ <;> cases e
theorem cap_rel1 {ix:List (Option Nat)}{k j:Nat}{s0:Sl}{l:List PyData} (rel:Rel K M P H0 σ0 σ env ts H) (hk:ix[k]? = some (some j)) (ej:env[j]? = some s0) (eo:ownD s0=some l) {a:Addr} (ea:σ[j]? = some (some (.ref a))) :
  Rel K (Nw M (ents σ env ts)) (fun b=>b=a) H (capS σ ix) (capS σ ix) ((capE ix env).set k (.io l)) [] H:=by
 have oe:=cap_oas (ix:=ix) rel
 have r0:=cap_rel (ix:=ix) rel
 have hkl:k<ix.length:=(List.getElem?_eq_some_iff.mp hk).1
 have ek:(capE ix env)[k]? = some .un:=by
  unfold capE
  rw [List.getElem?_map,hk]
  show some (capSl env[j]?)=_
  rw [ej]
  cases s0 <;> first|rfl|cases eo
 have es:(capS σ ix)[k]? = some (some (.ref a)):=by
  unfold capS
  rw [List.getElem?_map,hk]
  show some ((σ[j]?).join)=_
  rw [ea];rfl
 obtain ⟨x,A,B,e1,q1,q2⟩:=r0.split ek
 rw [es] at e1
 cases e1
 have ee:ents (capS σ ix) (capE ix env) []=(capS σ ix).zip (capE ix env):=by simp[ents,tmp]
 have oAB:oas A=[]∧oas B=[]:=by
  rw [←ee,q1,oas_app,oas_cons] at oe
  have oe:oas A++oas B=[]:=oe
  exact List.append_eq_nil_iff.mp oe
 obtain ⟨a',us,ea',hH,ql⟩:=rel.mine ej eo
 rw [ea] at ea'
 cases ea'
 have ma:Nw M (ents σ env ts) a:=by
  obtain ⟨x,e1,mm⟩:=rel.slot ej
  rw [ea] at e1
  cases e1
  refine .inr (mem_oas.mpr ⟨_,mm,?_⟩)
  exact (own_of eo).2 a
 have oe2:oas (A++(some (.ref a),Sl.io l)::B)=[a]:=by
  rw [oas_app,oas_cons,oAB.1,oAB.2]
  rfl
 have ne:∀ b,Nw (Nw M (ents σ env ts)) (A++(some (.ref a),Sl.io l)::B) b→Nw M (ents σ env ts) b:=fun b z=>by
  rcases z with z|z
  ·exact z
  ·rw [oe2,List.mem_singleton] at z;rw[z];exact ma
 have old:∀ x t,(x,t)∈A++(some (.ref a),Sl.io l)::B→(x,t)=(some (.ref a),Sl.io l)∨(x,t)∈(capS σ ix).zip (capE ix env):=fun x t m=>by
  rw [←ee,q1]
  rcases List.mem_append.mp m with m|m
  ·exact .inr (List.mem_append_left _ m)
  ·rcases List.mem_cons.mp m with m|m
   ·exact .inl m
   ·exact .inr (List.mem_append_right _ (List.mem_cons_of_mem _ m))
 refine ⟨⟨Keep.refl,fun a q=>q,fun a z hn=>rel.newAddr hn z,fun b z=>by rw[z];exact ma,fun x d m=>?_,fun x l' m=>?_,fun x l' m=>?_,fun x S l' m=>?_,by rw[q2,oe2];simp⟩,by simp[capS,capE],fun w i m=>(by cases m),fun i l' e=>rfl⟩
 rotate_right
 ·rw [q2] at m
  rcases old _ _ m with m|m
  ·cases m
  ·rcases cap_mem rel m with e|⟨d',v,e,e2,dn⟩ <;> cases e
 ·rw [q2] at m ⊢
  rcases old _ _ m with m|m
  ·cases m
  ·rcases cap_mem rel m with e|⟨d',v,e,e2,dn⟩
   ·cases e
   ·cases e
    exact ⟨v,e2,dn.to fun b _ _ z=>ne b z⟩
 ·rw [q2] at m
  rcases old _ _ m with m|m
  ·cases m
  ·rcases cap_mem rel m with e|⟨d',v,e,e2,dn⟩ <;> cases e
 ·rw [q2] at m ⊢
  rcases old _ _ m with m|m
  ·cases m
   exact ⟨a,us,rfl,hH,ql.to fun b _ _ z=>ne b z,rfl⟩
  ·rcases cap_mem rel m with e|⟨d',v,e,e2,dn⟩ <;> cases e
end
noncomputable def CD (ds:List PyData) (ix:List (Option Nat)) (g:DG) (tt:DT) (te:DE) (env:List Sl) (R:Sl→List Sl→Prop):Prop:=∃ W:Nat→List PyData→Prop,W 0 [] ∧
 (∀ i rs,(h:i<ds.length)→W i rs→rs.length<sizeLine∧g ds[i] (capE ix env) fun b1=>tt b1 fun k b2=>if k=true then te b2 fun s b3=>∃ d,keepOf b3 s=some d∧W (i+1) (rs++[d]) else W (i+1) rs)∧∀ rs,W ds.length rs→R (.ow rs) env
noncomputable def dComp (it:DI) (ix:List (Option Nat)) (g:DG) (tt:DT) (te:DE):DE:=fun env R=>it env fun ds env1=>CD ds ix g tt te env1 (dK R ⟨⟩)
noncomputable def CD1 (k j:Nat) (ds:List PyData) (ix:List (Option Nat)) (g:DG) (tt:DT) (te:DE) (env:List Sl) (R:Sl→List Sl→Prop):Prop:=∃ W:Nat→List PyData→List PyData→Prop,∃ s0 l0,env[j]? = some s0∧ownD s0=some l0∧W 0 [] l0 ∧
 (∀ i rs l,(h:i<ds.length)→W i rs l→rs.length<sizeLine∧∃ s,setSl s0 l=some s∧g ds[i] ((capE ix (env.set j s)).set k (.io l)) fun b1=>tt b1 fun kk b2=>if kk=true then te b2 fun s b3=>∃ d l',keepOf b3 s=some d∧b3[k]? = some (.io l')∧W (i+1) (rs++[d]) l' else ∃ l',b2[k]? = some (.io l')∧W (i+1) rs l') ∧
 ∀ rs l,W ds.length rs l→∃ s,setSl s0 l=some s∧R (.ow rs) (env.set j s)
noncomputable def dComp1 (k j:Nat) (it:DI) (ix:List (Option Nat)) (g:DG) (tt:DT) (te:DE):DE:=fun env R=>it env fun ds env1=>CD1 k j ds ix g tt te env1 (dK R ⟨⟩)
section
variable {K:PySem.W.Frag}
theorem comp_up {it:DI}{ix:List (Option Nat)}{g:DG}{tt:DT}{te:DE}:∀ σ H Q,up K (dComp it ix g tt te) σ H Q→tComp (upI K it) ix (upG K g) (upT K tt) (up K te) σ H Q:=fun σ H Q h=>by
 obtain ⟨M,P,H0,σ0,env,ts,R,rel,ht,hq⟩:=h
 refine ⟨M,P,H0,σ0,env,ts,_,rel,ht,fun ds env1 J H1 kp hF rel1 io=>?_⟩
 obtain ⟨W,w0,turn,done⟩:=hF
 refine ⟨fun i m ys H=>m=ds.length - i∧i≤ds.length∧∃ rs,W i rs∧DNs K (Nw M (ents σ env1 (ts++kp))) H ys rs∧Rel K M P H0 σ0 σ env1 (ts++kp) H,⟨_,rfl,Nat.zero_le _,[],w0,.nil,rel1⟩,?_⟩
 rintro i m ys H2 ⟨rfl,hle,rs,w2,dns,rel2⟩
 by_cases hlt:i<ds.length
 ·obtain ⟨hz,tr⟩:=turn i rs hlt w2
  refine .inr ⟨io.go rel2 i hlt,by rw[dns.len];exact hz,fun ys' H'=>∃ rs',W (i+1) rs'∧DNs K (Nw M (ents σ env1 (ts++kp))) H' ys' rs'∧Rel K M P H0 σ0 σ env1 (ts++kp) H',fun ys' H' ⟨rs',a,b,c⟩=>⟨ds.length - (i+1),by omega,rfl,hlt,rs',a,b,c⟩,fun x H3 y=>?_⟩
  obtain ⟨sm,dn⟩:=io.yld rel2 i x H3 hlt y
  have rel3:=rel2.same sm
  have rb:=cap_rel (ix:=ix) rel3
  have oe:=cap_oas (ix:=ix) rel3
  have nb:∀ b,Nw (Nw M (ents σ env1 (ts++kp))) (ents (capS σ ix) (capE ix env1) []) b→Nw M (ents σ env1 (ts++kp)) b:=fun b z=>by
   rcases z with z|z
   ·exact z
   ·have ee:ents (capS σ ix) (capE ix env1) []=(capS σ ix).zip (capE ix env1):=by simp[ents,tmp]
    rw [ee,oe] at z;cases z
  refine ⟨_,_,_,_,capE ix env1,[],ds[i],_,fun w i m=>(by cases m),rb,dn.to fun b _ _ z=>nb b z,tr,fun σ2 b1 H4 h4 rel4=>?_⟩
  refine ⟨_,_,_,_,b1,[],_,rel4,h4,fun kk b2 H5 h5 rel5=>?_⟩
  cases kk with
  | false =>
   have k5:Same H3 H5:=(rel5.e.keep.mono (M:=N0) fun b z=>z).none
   exact ⟨rs,h5,dns.keep (Keep.same (sm.trans k5)),rel3.same k5⟩
  | true =>
   refine ⟨_,_,_,_,b2,[],_,rel5,h5,fun s b3 v H6 h6 rel6=>?_⟩
   obtain ⟨d,kd,w6⟩:=h6
   have k6:Same H3 H6:=(rel6.e.keep.mono (M:=N0) fun b z=>z).none
   have dn6:=rel6.kept (ts:=[]) (tt:=[]++[(v,s)]) (v:=v) (s:=s) (by simp) kd
   exact ⟨rs++[d],w6,(dns.keep (Keep.same (sm.trans k6))).app (.cons (dn6.to fun b _ _ z=>.inl z) .nil),rel3.same k6⟩
 ·have e:i=ds.length:=by omega
  subst e
  exact .inl ⟨io.stop rel2,fun p hp=>hq _ _ _ _ (done _ w2) (rel2.resOw hp dns)⟩
theorem comp1_up {k j:Nat}{it:DI}{ix:List (Option Nat)}{g:DG}{tt:DT}{te:DE} (hk:ix[k]? = some (some j)):∀ σ H Q,up K (dComp1 k j it ix g tt te) σ H Q→tComp (upI K it) ix (upG K g) (upT K tt) (up K te) σ H Q:=fun σ H Q h=>by
 obtain ⟨M,P,H0,σ0,env,ts,R,rel,ht,hq⟩:=h
 refine ⟨M,P,H0,σ0,env,ts,_,rel,ht,fun ds env1 J H1 kp hF rel1 io=>?_⟩
 obtain ⟨W,s0,l0,ej,eo,w0,turn,done⟩:=hF
 have hjl:j<env1.length:=(List.getElem?_eq_some_iff.mp ej).1
 have set0:setSl s0 l0=some s0:=(own_of eo).1
 have env0:env1.set j s0=env1:=by
  rw [←(List.getElem?_eq_some_iff.mp ej).2]
  exact List.set_getElem_self hjl
 obtain ⟨a,us0,ea,_,_⟩:=rel1.mine ej eo
 have neq:∀ {ls:List PyData}{s:Sl},setSl s0 ls=some s→Nw M (ents σ (env1.set j s) (ts++kp))=Nw M (ents σ env1 (ts++kp)):=fun {ls s} es=>by
  obtain ⟨x,A,B,e3,sp1,sp2⟩:=rel1.split ej
  rw [ea] at e3
  cases e3
  rw [sp1,sp2]
  have oa:own1 (some (.ref a),s0)=[a]∧own1 (some (.ref a),s)=[a]:=by
   exact isOw_own (set_of es).1
  unfold Nw
  rw [oas_app,oas_app,oas_cons,oas_cons,oa.1,oa.2]
 refine ⟨fun i m ys H=>m=ds.length - i∧i≤ds.length∧∃ rs l s,setSl s0 l=some s∧W i rs l∧DNs K (Nw M (ents σ env1 (ts++kp))) H ys rs∧Rel K M P H0 σ0 σ (env1.set j s) (ts++kp) H,⟨_,rfl,Nat.zero_le _,[],l0,s0,set0,w0,.nil,by rw[env0];exact rel1⟩,?_⟩
 rintro i m ys H2 ⟨rfl,hle,rs,l,s,es,w2,dns,rel2⟩
 by_cases hlt:i<ds.length
 ·obtain ⟨hz,s',es',tr⟩:=turn i rs l hlt w2
  rw [es] at es'
  cases es'
  have eos:ownD s=some l:=(set_of es).2
  have ejs:(env1.set j s)[j]? = some s:=List.getElem?_set_self hjl
  refine .inr ⟨io.go rel2 i hlt,by rw[dns.len];exact hz,fun ys' H'=>∃ rs' l' s',setSl s0 l'=some s'∧W (i+1) rs' l'∧DNs K (Nw M (ents σ env1 (ts++kp))) H' ys' rs'∧Rel K M P H0 σ0 σ (env1.set j s') (ts++kp) H',
   fun ys' H' ⟨rs',l',s',z,a,b,c⟩=>⟨ds.length - (i+1),by omega,rfl,hlt,rs',l',s',z,a,b,c⟩,fun x H3 y=>?_⟩
  obtain ⟨sm,dn⟩:=io.yld rel2 i x H3 hlt y
  have rel3:=rel2.same sm
  have rb:=cap_rel1 (ix:=ix) rel3 hk ejs eos ea
  have ma:Nw M (ents σ (env1.set j s) (ts++kp)) a:=by
   obtain ⟨x,e1,mm⟩:=rel3.slot ejs
   rw [ea] at e1
   cases e1
   refine .inr (mem_oas.mpr ⟨_,mm,?_⟩)
   exact (own_of eos).2 a
  have nb:∀ b,Nw (Nw M (ents σ (env1.set j s) (ts++kp))) (ents (capS σ ix) ((capE ix (env1.set j s)).set k (.io l)) []) b→Nw M (ents σ (env1.set j s) (ts++kp)) b:=fun b z=>by
   rcases z with z|z
   ·exact z
   ·obtain ⟨_,_,hP⟩:=rb.e.own z
    rcases hP with q|q
    ·obtain ⟨vs,q2,_⟩:=rb.e.own z
     rw [q] at q2;cases q2
    ·rw [q];exact ma
  have after:∀ {σ2:St}{b3:List Sl}{t3:List (V×Sl)}{H6:Hp}{l':List PyData},Rel K (Nw M (ents σ (env1.set j s) (ts++kp))) (fun b=>b=a) H3 (capS σ ix) σ2 b3 t3 H6→b3[k]? = some (.io l') →
    ∃ s',setSl s0 l'=some s'∧Rel K M P H0 σ0 σ (env1.set j s') (ts++kp) H6∧∀ {ys:List V}{rs:List PyData},DNs K (Nw M (ents σ env1 (ts++kp))) H3 ys rs→DNs K (Nw M (ents σ env1 (ts++kp))) H6 ys rs:=fun {σ2 b3 t3 H6 l'} r6 e6=>by
   obtain ⟨x6,e7,m7⟩:=r6.slot e6
   have e8:=r6.ios _ _ e6
   have ecap:(capS σ ix)[k]? = some (some (.ref a)):=by
    unfold capS
    rw [List.getElem?_map,hk]
    show some ((σ[j]?).join)=_
    rw [ea];rfl
   rw [e7,ecap] at e8
   cases e8
   obtain ⟨a',us',z,hH',ql',_⟩:=r6.e.io _ _ m7
   cases z
   obtain ⟨x,A,B,e3,sp1,sp2⟩:=rel3.split ejs
   rw [ea] at e3
   cases e3
   have hs':∃ s',setSl s0 l'=some s'∧isOw s l' s':=by
    obtain ⟨d0,rfl⟩|⟨d0,rfl⟩:(∃ d0,s0=.ow d0)∨∃ d0,s0=.io d0:=(isOw_two (set_of es).1).imp (fun ⟨d,e,_⟩=>⟨d,e⟩) fun ⟨d,e,_⟩=>⟨d,e⟩
    ·cases es;exact⟨_,rfl,rfl⟩
    ·cases es;exact⟨_,rfl,rfl⟩
   obtain ⟨s',es',iso⟩:=hs'
   have hE:=rel3.e
   rw [sp1] at hE
   have dnl:DNs K (Nw M (A++(some (.ref a),s)::B)) H6 us' l':=ql'.to fun b _ _ z=>.inl (by rw[sp1];exact z)
   have hM:=hE.muted iso r6.e.keep r6.e.live hH' dnl
   rw [←sp2] at hM
   have e9:(env1.set j s).set j s'=env1.set j s':=List.set_set ..
   refine ⟨s',es',⟨by rw[←e9];exact hM,by simp[rel1.len],rel3.vw,fun q l2 e'=>?_⟩,fun {ys rs} q=>q.keep (r6.e.keep.mono fun b z=>?_)⟩
   ·by_cases hj:j=q
    ·subst hj
     rw [List.getElem?_set_self hjl] at e'
     cases e'
     obtain ⟨ds0,rfl⟩:=set_io es'
     exact rel1.ios _ ds0 ej
    ·rw [List.getElem?_set_ne hj] at e'
     exact rel1.ios q l2 e'
   ·rw [z,←neq es];exact ma
  have dn3:=dns.keep (Keep.same sm)
  refine ⟨_,_,_,_,_,[],ds[i],_,fun w i m=>(by cases m),rb,dn.to fun b _ _ z=>nb b z,tr,fun σ2 b1 H4 h4 rel4=>?_⟩
  refine ⟨_,_,_,_,b1,[],_,rel4,h4,fun kk b2 H5 h5 rel5=>?_⟩
  cases kk with
  | false =>
   obtain ⟨l',e5,w5⟩:=h5
   obtain ⟨s',es',r',kd⟩:=after rel5 e5
   exact ⟨rs,l',s',es',w5,kd dn3,r'⟩
  | true =>
   refine ⟨_,_,_,_,b2,[],_,rel5,h5,fun s6 b3 v H6 h6 rel6=>?_⟩
   obtain ⟨d,l',kdd,e6,w6⟩:=h6
   obtain ⟨s',es',r',kd⟩:=after rel6 e6
   have dn6:=rel6.kept (ts:=[]) (tt:=[]++[(v,s6)]) (v:=v) (s:=s6) (by simp) kdd
   exact ⟨rs++[d],l',s',es',w6,(kd dn3).app (.cons (dn6.to fun b _ _ z=>.inl (by rw[neq es];exact z)) .nil),r'⟩
 ·have e:i=ds.length:=by omega
  subst e
  refine .inl ⟨io.stop rel2,fun p hp=>?_⟩
  obtain ⟨s',es',hR⟩:=done _ _ w2
  rw [es] at es'
  cases es'
  exact hq _ _ _ _ hR (rel2.resOw hp (by rw[neq es];exact dns))
end
section
variable {K:PySem.W.Frag}{X:Cx}{N':List Str}{ix:List (Option Nat)}{sc:Scope}{tg iter elt:Expr}{ifs:List Expr}{pos:Pos}{it:DI}{g:DG}{tt:DT}{te:DE}
theorem q_comp (hc:X.calm=true) (S:BScope X.N X.env N' ix sc) (hi:PI X tg iter (upI K it))
  (hg:∀ s H C fp,PG (bCx X N' sc s H C fp) tg (upG K g)) (ht:∀ s H C fp,PIf (bCx X N' sc s H C fp) ifs (upT K tt)) (he:∀ s H C fp,PE (bCx X N' sc s H C fp) elt (up K te))
  (hs:∀ x,foldedSetIterable iter X.env x=pure x:=by intro _;rfl):PE X (.ListComp elt [⟨tg,iter,ifs,0⟩] sc pos) (up K (dComp it ix g tt te)):=(pe_comp hc S hi hg ht he hs).imp comp_up
theorem set_up {i:Nat}{t:TE}{td:DE} (h:∀ σ H Q,up K td σ H Q→t σ H Q):∀ D σ H,upS K (dSet i td) D σ H→tAsg t (gName i) D σ H:=fun D σ H hh=>by
 obtain ⟨M,P,H0,σ0,env,ts,DD,nv,rel,ht,ok⟩:=hh
 refine h _ _ _ ⟨M,P,H0,σ0,env,ts,_,rel,ht,fun s1 env1 v1 H1 h1 rel1=>?_⟩
 obtain ⟨s',hl,es,hR⟩:=h1
 obtain ⟨r,cs⟩:=rel1.unVw es
 exact ok.nx _ _ _ hR (r.store nv hl cs)
theorem q_setComp {i:Nat}{y:Str}{spos py:Pos} (hN:X.N.Nodup) (hi':X.N[i]? = some y) (hy:X.env.scope.names.lookup y=some .local) (hc:X.calm=true) (S:BScope X.N X.env N' ix sc) (hi:PI X tg iter (upI K it))
  (hg:∀ s H C fp,PG (bCx X N' sc s H C fp) tg (upG K g)) (ht:∀ s H C fp,PIf (bCx X N' sc s H C fp) ifs (upT K tt)) (he:∀ s H C fp,PE (bCx X N' sc s H C fp) elt (up K te))
  (hsw:swapsWith (.ListComp elt [⟨tg,iter,ifs,0⟩] sc pos) (some (.Name y py)) spos.line X.env=pure true:=by rfl)
  (hs:∀ x,foldedSetIterable iter X.env x=pure x:=by intro _;rfl):PS X (.Assign [.Name y py] (.ListComp elt [⟨tg,iter,ifs,0⟩] sc pos) spos) (upS K (dSet i (dComp it ix g tt te))):=(ps_setComp hN hi' hy hc S hi hg ht he hsw hs).imp (set_up comp_up)
theorem q_setComp1 {i:Nat}{y:Str}{spos py:Pos} (k j:Nat) (hk:ix[k]? = some (some j)) (hN:X.N.Nodup) (hi':X.N[i]? = some y) (hy:X.env.scope.names.lookup y=some .local) (hc:X.calm=true) (S:BScope X.N X.env N' ix sc) (hi:PI X tg iter (upI K it))
  (hg:∀ s H C fp,PG (bCx X N' sc s H C fp) tg (upG K g)) (ht:∀ s H C fp,PIf (bCx X N' sc s H C fp) ifs (upT K tt)) (he:∀ s H C fp,PE (bCx X N' sc s H C fp) elt (up K te))
  (hsw:swapsWith (.ListComp elt [⟨tg,iter,ifs,0⟩] sc pos) (some (.Name y py)) spos.line X.env=pure true:=by rfl)
  (hs:∀ x,foldedSetIterable iter X.env x=pure x:=by intro _;rfl):PS X (.Assign [.Name y py] (.ListComp elt [⟨tg,iter,ifs,0⟩] sc pos) spos) (upS K (dSet i (dComp1 k j it ix g tt te))):=(ps_setComp hN hi' hy hc S hi hg ht he hsw hs).imp (set_up (comp1_up hk))
end
end L2
namespace L2
open PySem PySem.Spec PyProof.Rows
noncomputable def truD:PyData→Option Bool
 | .none=>some false
 | .bool b=>some b
 | .int i=>some (i != 0)
 | .list ds=>some (!ds.isEmpty)
 | .tuple ds=>some (!ds.isEmpty)
 | _=>none
section
variable {K:PySem.W.Frag}{M P N:Addr→Prop}{H0 H H':Hp}{E A B:List Ent}{σ0 σ:St}{env:List Sl}{ts tt kp:List (V×Sl)}{v:V}{s:Sl}{d:PyData}{X:Cx}{pos p:Pos}{e e1 e2 a:Expr}{es:List Expr}{te tj:DE}{tl:DA}
theorem DNs.emp {vs:List V}{ds:List PyData} (q:DNs K N H vs ds):vs.isEmpty=ds.isEmpty:=by cases q <;> rfl
theorem Vw.tru (w:Vw K N H v d) {k:Bool} (e:truD d=some k):TruV K v H k:=by
 cases d with
 | none=>cases e;rw[w.none];rfl
 | bool b=>cases e;rw[w.bool];rfl
 | int b=>cases e;rw[w.int];rfl
 | list ds =>
  cases e
  obtain ⟨a,vs,rfl,s,q⟩:=w.list
  exact .inl ⟨vs,s,by rw[q.emp]⟩
 | tuple ds =>
  cases e
  obtain ⟨a,vs,rfl,s,q⟩:=w.tuple
  exact .inr (.inl ⟨vs,s,by rw[q.emp]⟩)
 | _=>cases e
noncomputable def dTruth (te:DE):DT:=fun env R=>te env fun s env1=>∃ d k,valOf env1 s=some d∧truD d=some k∧R k env1
theorem qt_truth (hK:X.K=K) (ha:PE X a (up K te)) (he:∀ whole,isTrue a X.env whole=(do let v ←whole;standAt a.pos;holding [v] (truthy v)):=by intro _;rfl):PT X a (upT K (dTruth te)):=(kTruth (K:=K) hK ha he).imp fun σ H Q h=>by
 obtain ⟨M,P,H0,σ0,env,ts,R,rel,ht,hq⟩:=h
 refine ⟨M,P,H0,σ0,env,ts,_,rel,ht,fun s1 env1 v1 H1 h1 rel1=>?_⟩
 obtain ⟨d,k,e1,e2,hR⟩:=h1
 exact ⟨k,(rel1.view (v:=v1) (by simp) e1).tru e2,hq _ _ _ hR rel1.drop⟩
noncomputable def kindS:PyData→String
 | .none => "NoneType"
 | .bool _ => "bool"
 | .int _ => "int"
 | .str _ => "str"
 | .list _ => "list"
 | .tuple _ => "tuple"
 | .dict _ => "dict"
inductive KindV (K:PySem.W.Frag) (H:Hp):V→String→Prop
 | non:KindV K H .non "NoneType"
 | bl (b:Bool):KindV K H (.bl b) "bool"
 | int (b:Int):KindV K H (.int b) "int"
 | str (b:Str):KindV K H (.str b) "str"
 | lst {a:Addr}{xs:List V}:SqL K H a xs→KindV K H (.ref a) "list"
 | tup {a:Addr}{xs:List V}:SqT K H a xs→KindV K H (.ref a) "tuple"
theorem Vw.kind (w:Vw K N H v d) (hd:∀ kvs,d≠.dict kvs):KindV K H v (kindS d):=by
 cases d with
 | none=>rw[w.none];exact .non
 | bool b=>rw[w.bool];exact .bl b
 | int b=>rw[w.int];exact .int b
 | str b=>cases w with|dn h=>cases h
 | list ds=>obtain⟨a,vs,rfl,s,q⟩:=w.list;exact .lst s
 | tuple ds=>obtain⟨a,vs,rfl,s,q⟩:=w.tuple;exact .tup s
 | dict kvs=>exact absurd rfl (hd kvs)
noncomputable def notD:PyData→Bool
 | .dict _=>false
 | _=>true
theorem notD.no {d:PyData} (h:notD d=true):∀ kvs,d≠.dict kvs:=fun kvs e=>by subst e;cases h
noncomputable def dSetIx (i:Nat) (tj te:DE):DS:=fun DD env=>te env fun s env1=>(∃ ds,(env1[i]?).bind ownD=some ds)∧tj env1 fun sj env2=>∃ d s0 ds z j s',keepOf env2 s=some d∧valOf env2 sj=some (.int z)∧env2[i]? = some s0∧ownD s0=some ds∧ixN ds.length z=some j ∧
 setSl s0 (ds.set j d)=some s'∧DD.nx (env2.set i s')
theorem DNs.set:∀ {vs:List V}{ds:List PyData}{x:V}{d:PyData} (j:Nat),DNs K N H vs ds→DN K N H x d→DNs K N H (vs.set j x) (ds.set j d)
 | _,_,_,_,_,.nil,_=>.nil
 | _,_,_,_,0,.cons _ q,h=>.cons h q
 | _,_,_,_,j+1,.cons g q,h=>.cons g (q.set j h)
theorem q_setIx (i:Nat) {y:Str}{npos spos:Pos}{j:Expr} (hN:X.N[i]? = some y) (hj:PE X j (up K tj)) (he:PE X e (up K te))
  (hv:Vis X.env.scope y:=by first|exact Or.inl rfl|exact Or.inr (Or.inl rfl)|exact Or.inr (Or.inr rfl)) (hd:(y==("__debug__" : Str))=false:=by decide)
  (hcd:(y==("__classdict__" : Str))=false:=by decide)
  (ha:∀ v,assign (.Subscript (.Name y npos) j spos) X.env v=(do
   let ov ←holding [v] (eval (.Name y npos) X.env)
   let iv ←holding [v,ov] (eval j X.env)
   standAt spos
   holding [v,ov,iv] (setItem ov iv v)
   release [v,ov,iv] []):=by intro _;rfl)
  (hs:swapsWithSole [.Subscript (.Name y npos) j spos] e pos.line X.env=pure false:=by rfl) (hw:swappedStores [.Subscript (.Name y npos) j spos] e X.env=pure none:=by rfl)
  (h1:(assignEach [.Subscript (.Name y npos) j spos] X.env).map (·.2)=[assign (.Subscript (.Name y npos) j spos) X.env]:=by rfl):PS X (.Assign [.Subscript (.Name y npos) j spos] e pos) (upS K (dSetIx i tj te)) :=
 (ps_asg he (pg_sub (pe_var hN hv hd hcd) hj set_list ha) hs hw h1).imp fun D σ H h=>by
 obtain ⟨M,P,H0,σ0,env,ts,DD,nv,rel,ht,ok⟩:=h
 refine ⟨M,P,H0,σ0,env,ts,_,rel,ht,fun s1 env1 v1 H1 h1 rel1=>?_⟩
 obtain ⟨⟨ds0,h0⟩,h1⟩:=h1
 obtain ⟨s0,e0,o0⟩:=bind_own h0
 obtain ⟨a,vs,ea,hH,_⟩:=rel1.mine e0 o0
 refine ⟨.ref a,ea,M,P,H0,σ0,env1,ts++[(v1,s1)],_,rel1,h1,fun s2 env2 v2 H2 h2 rel2=>?_⟩
 obtain ⟨d,s3,ds,z,jj,s',k,ez,e2,o2,ix,es,hR⟩:=h2
 have rel2':Rel K M P H0 σ0 σ env2 (ts++[(v1,s1),(v2,s2)]) H2:=by simpa using rel2
 obtain ⟨a',us,ea',hH',q⟩:=rel2'.drop.mine e2 o2
 rw [ea] at ea'
 cases ea'
 have dn:=rel2'.kept (v:=v1) (s:=s1) (by simp) k
 refine ⟨a,us,z,jj,rfl,(rel2.view (v:=v2) (by simp) ez).int,hH',by rw[q.len];exact ix,ok.nx _ _ _ hR (rel2'.drop.mut (ds:=ds) e2 es ea (q.set jj dn))⟩
noncomputable def resOf (env:List Sl):Sl→Option Sl
 | .fr d=>some (.fr d)
 | .ow l=>some (.ow l)
 | .tr S d=>some (.tr S d)
 | .vw i=>(env[i]?).bind fun s=>match s with
  | .fr d=>some (.fr d)
  | .ow l=>some (.ow l)
  | _=>none
 | _=>none
noncomputable def ioOnly:Sl→Sl
 | .io l=>.io l
 | _=>.un
noncomputable def finD (n:Nat) (env:List Sl):List Sl:=(env.take n).map ioOnly
noncomputable def endsD (n:Nat) (R:Sl→List Sl→Prop):DEnds where
 nx := fun env=>R (.fr .none) (finD n env)
 rt := fun s env=>∃ r,resOf env s=some r∧R r (finD n env)
noncomputable def startD (n:Nat) (ss:List Sl):List Sl:=ss++List.replicate (n - ss.length) .un
theorem zip_start (m:Nat):∀ {vs:List V}{ss:List Sl},vs.length=ss.length→(vs.map some++List.replicate m none).zip (ss++List.replicate m Sl.un)=tmp (vs.zip ss)++List.replicate m (none,Sl.un)
 | [],[],_=>by simp[tmp]
 | v::vs,s::ss,h=>by
  show (some v,s)::(vs.map some++List.replicate m none).zip (ss++List.replicate m Sl.un)=_
  rw [zip_start m (by simpa using h)]
  rfl
 | [],_::_,h=>by simp at h
 | _::_,[],h=>by simp at h
theorem oas_rep (m:Nat):oas (List.replicate m ((none,Sl.un):Ent))=[]:=by
 unfold oas
 rw [List.flatMap_eq_nil_iff]
 intro e he
 rw [(List.mem_replicate.mp he).2]
 rfl
theorem fin_sub:∀ {vs:List V}{σ:St}{env:List Sl},σ.length=env.length→(∀ (j:Nat) (l:List PyData),env[j]? = some (.io l)→j<vs.length→σ[j]? = (vs[j]?).map some)→(oas (tmp (vs.zip (finD vs.length env)))).Sublist (oas (σ.zip env))
 | [],σ,env,_,_=>by simp[tmp,oas]
 | v::vs,[],[],_,_=>by simp[tmp,oas,finD]
 | v :: vs,x::σ,s::env,hl,h=>by
  have ih:=fin_sub (vs:=vs) (σ:=σ) (env:=env) (by simpa using hl) fun j l e hj=>by
   have:=h (j+1) l (by simpa using e) (by simpa using hj)
   simpa using this
  show (oas ((some v,ioOnly s)::tmp (vs.zip (finD vs.length env)))).Sublist (oas ((x,s)::σ.zip env))
  rw [oas_cons,oas_cons]
  cases s with
  | io l =>
   have e0:=h 0 l rfl (by simp)
   simp at e0
   subst e0
   exact List.Sublist.append (List.Sublist.refl _) ih
  | _ =>
   simp only [ioOnly,own1_un]
   exact ih.trans (List.sublist_append_right _ _)
 | _::_,[],_::_,hl,_=>by simp at hl
 | _::_,_::_,[],hl,_=>by simp at hl
theorem Rel.fin {vs:List V}{r:Sl}{n:Nat} (rel:Rel K M P H0 (start N' vs) σ env [(v,r)] H) (hn:n=vs.length) (hr:isRes r=true):RelE K M P H0 (tmp ((v,r)::vs.zip (finD n env))) H:=by
 subst hn
 have hio:∀ (j:Nat) (l:List PyData),env[j]? = some (.io l)→j<vs.length→σ[j]? = (vs[j]?).map some:=fun j l e hj=>by
  rw [rel.ios j l e]
  unfold start
  rw [List.getElem?_append_left (by simpa using hj),List.getElem?_map]
 have hE:=rel.e
 refine hE.sub (fun x s m=>?_) ?_
 ·rw [tmp_cons] at m
  rcases List.mem_cons.mp m with m|m
  ·cases m
   exact .inl (mem_tmp (by simp))
  ·obtain ⟨⟨w,s'⟩,m1,e⟩:=List.mem_map.mp m
   cases e
   obtain ⟨j,hj,e⟩:=List.getElem_of_mem m1
   rw [List.getElem_zip] at e
   have hj':=hj
   rw [List.length_zip] at hj'
   have e1:vs[j]'(by omega)=w:=(Prod.mk.inj e).1
   have e2:(finD vs.length env)[j]'(by omega)=s':=(Prod.mk.inj e).2
   have hje:j<env.length:=by
    have:(finD vs.length env).length=min vs.length env.length:=by simp[finD]
    omega
   have e3:s'=ioOnly env[j]:=by
    rw [←e2]
    simp [finD]
   cases q:env[j] with
   | io l =>
    rw [q] at e3
    subst e3
    have eq:env[j]? = some (.io l):=by rw[List.getElem?_eq_getElem hje,q]
    have e4:=hio j l eq (by omega)
    obtain ⟨x,e5,m5⟩:=rel.slot eq
    rw [e5,List.getElem?_eq_getElem (by omega:j<vs.length),e1] at e4
    have e4:x=some w:=Option.some.inj e4
    subst e4
    exact .inl m5
   | _=>rw[q] at e3;subst e3;exact .inr (.inl rfl)
 ·have nd:=hE.nd
  have eE:ents σ env [(v,r)]=σ.zip env++[(some v,r)]:=rfl
  rw [eE,oas_app] at nd
  obtain ⟨n1,n2,n3⟩:=List.nodup_append.mp nd
  have sub:=fin_sub rel.len hio
  rw [tmp_cons,show ((some (v,r).1,(v,r).2):Ent)::tmp (vs.zip (finD vs.length env))=[(some v,r)]++tmp (vs.zip (finD vs.length env)) from rfl,oas_app]
  exact List.nodup_append.mpr ⟨n2,n1.sublist sub,fun x hx y hy z=>n3 y (sub.subset hy) x hx z.symm⟩
end
end L2
namespace L2
open PySem PySem.Spec PyProof.Rows
section
variable {K:PySem.W.Frag}{M P N:Addr→Prop}{H0 H H':Hp}{E A B:List Ent}{σ0 σ:St}{env:List Sl}{ts tt kp:List (V×Sl)}{v:V}{s:Sl}{d:PyData}
theorem Rel.take {i:Nat}{l:List PyData} (h:Rel K M P H0 σ0 σ env [(v,.vw i)] H) (e:env[i]? = some (.ow l)):Rel K M P H0 σ0 σ (env.set i .un) [(v,.ow l)] H:=by
 obtain ⟨x,A,B,e1,q1,q2⟩:=h.split e
 have ev:=h.vw v i (by simp)
 rw [e1] at ev
 have ev:x=some v:=Option.some.inj ev
 subst ev
 have z1:ents σ env [(v,.vw i)]=σ.zip env++[(some v,.vw i)]:=rfl
 obtain ⟨x2,e3,m2⟩:=zip_at h.len e
 have ez:(σ.zip env)[i]? = some (some v,.ow l):=by rw[zip_get,e1,e];rfl
 obtain ⟨A2,B2,r1,r2⟩:=mem_split ez
 have hE:=h.e
 rw [z1,r1] at hE
 have en:ents σ (env.set i .un) [(v,.ow l)]=(A2++(some v,.un)::B2)++[(some v,.ow l)]:=by
  show σ.zip (env.set i .un)++[(some v,.ow l)]=_
  rw [zip_set e1,r2]
 refine ⟨?_,by simp[h.len],fun w j m=>(by rw[List.mem_singleton] at m;cases m),fun j l' e'=>?_⟩
 ·rw [en]
  refine hE.sub (fun x s m=>?_) ?_
  ·rcases List.mem_append.mp m with m|m
   ·rcases List.mem_append.mp m with m|m
    ·exact .inl (List.mem_append_left _ (List.mem_append_left _ m))
    ·rcases List.mem_cons.mp m with m|m
     ·cases m;exact .inr (.inl rfl)
     ·exact .inl (List.mem_append_left _ (List.mem_append_right _ (List.mem_cons_of_mem _ m)))
   ·rw [List.mem_singleton] at m
    cases m
    exact .inl (List.mem_append_left _ (List.mem_append_right _ List.mem_cons_self))
  ·have nd:=hE.nd
   have ov:oas [(some v,Sl.vw i)]=[]:=by rw[oas_cons,own1_vw];rfl
   rw [oas_app,oas_app,oas_cons,ov,List.append_nil] at nd
   have oo:oas [(some v,Sl.ow l)]=own1 (some v,Sl.ow l):=by rw[oas_cons];simp[oas]
   rw [oas_app,oas_app,oas_cons,own1_un,oo]
   obtain ⟨n1,n2,n3⟩:=List.nodup_append.mp nd
   obtain ⟨n4,n5,n6⟩:=List.nodup_append.mp n2
   refine List.nodup_append.mpr ⟨List.nodup_append.mpr ⟨n1,n5,fun x hx y hy=>n3 x hx y (List.mem_append_right _ hy)⟩,n4,fun x hx y hy z=>?_⟩
   subst z
   rcases List.mem_append.mp hx with hx|hx
   ·exact n3 x hx x (List.mem_append_left _ hy) rfl
   ·exact n6 x hy x hx rfl
 ·by_cases hj:i=j
  ·subst hj
   rw [List.getElem?_set_self (List.getElem?_eq_some_iff.mp e).1] at e'
   cases e'
  ·rw [List.getElem?_set_ne hj] at e'
   exact h.ios j l' e'
theorem finD_un {i n:Nat}{l:List PyData} (e:env[i]? = some (.ow l)):finD n (env.set i .un)=finD n env:=by
 unfold finD
 apply List.ext_getElem?
 intro j
 rw [List.getElem?_map,List.getElem?_map,List.getElem?_take,List.getElem?_take]
 by_cases hj:i=j
 ·subst hj
  rw [List.getElem?_set_self (List.getElem?_eq_some_iff.mp e).1,e]
  split <;> rfl
 ·rw [List.getElem?_set_ne hj]
theorem Rel.told {n:Nat}{r:Sl} (h:Rel K M P H0 σ0 σ env [(v,s)] H) (e:resOf env s=some r):∃ env',Rel K M P H0 σ0 σ env' [(v,r)] H∧finD n env'=finD n env∧isRes r=true:=by
 cases s with
 | fr d=>cases e;exact⟨env,h,rfl,rfl⟩
 | tr S d=>cases e;exact⟨env,h,rfl,rfl⟩
 | ow l=>cases e;exact⟨env,h,rfl,rfl⟩
 | vw i =>
  have e:(env[i]?).bind _=some r:=e
  cases q:env[i]? with
  | none=>rw[q] at e;cases e
  | some s' =>
   rw [q] at e
   cases s' with
   | fr d =>
    cases e
    have hs:stoOf env (.vw i)=some (.fr d):=by
     show ((env[i]?).bind slK).map Sl.fr=_
     rw [q];rfl
    have:=(Rel.unVw (ts:=[]) (by simpa using h) hs).1
    exact ⟨env,by simpa using this,rfl,rfl⟩
   | ow l=>cases e;exact⟨env.set i .un,h.take q,finD_un q,rfl⟩
   | _=>cases e
 | _=>cases e
end
section
variable {P:Program}{w:World}{K:PySem.W.Frag}{mg:Str→Option Value}{base:Heap}
theorem okD {x:Str}{st:Stmt}{f:Addr}{fd:FuncData}{N ps:List Str}{k:Nat}{sp:DSp} (F:Fun K x x st f fd) (S:FnScope N ps (defScope st)) (len:∀ ss R,sp ss R→ss.length=ps.length) (hN:ps.length≤N.length)
  (hb:∀ (cdv:Value) (A:Around) (outer:List Env) (s:Shared) (H:Hp) (E:XK),Room k (A.deeper (envOfC x (defScope st) s.heap.objs.size f cdv)) →
   ∃ t:DS,PSs (cxOf CX0 P w K mg base N x (defScope st) f cdv A outer s H E).nox (defBody st) (upS K t)∧∀ ss R,sp ss R→t (endsD ps.length R) (startD N.length ss)):FnOk P w K mg base CX0 (k+1) f fd ps (spD K sp):=by
 refine F.ok S (fun vs H Q E h=>?_) fun cdv A outer s H vs Q E hr h=>?_
 ·obtain ⟨M,ss,R,hl,_,hsp,_⟩:=h
  rw [hl]
  exact len ss R hsp
 obtain ⟨M,ss,R,hl,hE,hsp,hq⟩:=h
 have hn:=len ss R hsp
 obtain ⟨t,ht,hr'⟩:=hb cdv A outer s H E hr
 have ez:ents (start N vs) (startD N.length ss) []=tmp (vs.zip ss)++List.replicate (N.length - vs.length) (none,Sl.un):=by
  show (start N vs).zip (startD N.length ss)++[]=_
  unfold start startD
  rw [List.append_nil,←hl]
  exact zip_start _ hl
 refine ⟨_,ht,M,ioOf vs ss,H,start N vs,startD N.length ss,[],endsD ps.length R,fun w i m=>(by cases m),⟨?_,by simp[start,startD,hl],fun w i m=>(by cases m),fun i l e=>rfl⟩,hr' ss R hsp,⟨fun σ' env' H' q r=>?_,fun s env' v σ' H' q r=>?_,fun σ' env' H' q r=>(show False from q),fun σ' env' H' q r=>(show False from q)⟩⟩
 ·rw [ez]
  refine hE.sub (fun x s m=>?_) (by rw[oas_app,oas_rep,List.append_nil];exact hE.nd)
  rcases List.mem_append.mp m with m|m
  ·exact .inl m
  ·have:=(List.mem_replicate.mp m).2
   cases this
   exact .inr (.inl rfl)
 ·have r2:=(Rel.addFr r (v:=.non) (d:=.none) .non)
  have r2:Rel K M (ioOf vs ss) H (start N vs) σ' env' [(.non,.fr .none)] H':=by simpa using r2
  exact hq _ _ _ _ q rfl (r2.fin (by omega) rfl)
 ·obtain ⟨r0,e0,hR⟩:=q
  have r1:Rel K M (ioOf vs ss) H (start N vs) σ' env' [(v,s)] H':=by simpa using r
  obtain ⟨env2,r2,ef,hr0⟩:=r1.told (n:=ps.length) e0
  exact hq r0 _ v H' hR hr0 (by rw[←ef];exact r2.fin (by omega) hr0)
theorem okD' {x:Str}{st:Stmt}{f:Addr}{N ps:List Str}{k:Nat}{sp:DSp}{kV doc pm cdv ct oc:Value}{an od:Option Addr}{osl:Array (Option Value)}
  (hb:∀ (A:Around) (outer:List Env) (s:Shared) (H:Hp) (E:XK),Room k (A.deeper (envOfC x (defScope st) s.heap.objs.size f cdv)) →
   ∃ t:DS,PSs (cxOf CX0 P w K mg base N x (defScope st) f cdv A outer s H E).nox (defBody st) (upS K t)∧∀ ss R,sp ss R→t (endsD ps.length R) (startD N.length ss))
  (lk:K.lookup f=some ⟨oc,od,.func (PySem.W.fnOf x x (defArgs st) (defBody st) (defScope st) .none kV doc pm an cdv ct),osl⟩) (hcd:PySem.W.codeIn K cdv x=true) (S:FnScope N ps (defScope st)) (len:∀ ss R,sp ss R→ss.length=ps.length) (hN:ps.length≤N.length):FnOk P w K mg base CX0 (k+1) f (PySem.W.fnOf x x (defArgs st) (defBody st) (defScope st) .none kV doc pm an cdv ct) ps (spD K sp):=by
 refine fn_of lk hcd S (fun vs H Q E h=>?_) fun A outer s H vs Q E hr h=>?_
 ·obtain ⟨M,ss,R,hl,_,hsp,_⟩:=h
  rw [hl]
  exact len ss R hsp
 obtain ⟨M,ss,R,hl,hE,hsp,hq⟩:=h
 have hn:=len ss R hsp
 obtain ⟨t,ht,hr'⟩:=hb A outer s H E hr
 have ez:ents (start N vs) (startD N.length ss) []=tmp (vs.zip ss)++List.replicate (N.length - vs.length) (none,Sl.un):=by
  show (start N vs).zip (startD N.length ss)++[]=_
  unfold start startD
  rw [List.append_nil,←hl]
  exact zip_start _ hl
 refine ⟨_,ht.nox,M,ioOf vs ss,H,start N vs,startD N.length ss,[],endsD ps.length R,fun w i m=>(by cases m),⟨?_,by simp[start,startD,hl],fun w i m=>(by cases m),fun i l e=>rfl⟩,hr' ss R hsp,⟨fun σ' env' H' q r=>?_,fun s env' v σ' H' q r=>?_,fun σ' env' H' q r=>(show False from q),fun σ' env' H' q r=>(show False from q)⟩⟩
 ·rw [ez]
  refine hE.sub (fun x s m=>?_) (by rw[oas_app,oas_rep,List.append_nil];exact hE.nd)
  rcases List.mem_append.mp m with m|m
  ·exact .inl m
  ·have:=(List.mem_replicate.mp m).2
   cases this
   exact .inr (.inl rfl)
 ·have r2:=(Rel.addFr r (v:=.non) (d:=.none) .non)
  have r2:Rel K M (ioOf vs ss) H (start N vs) σ' env' [(.non,.fr .none)] H':=by simpa using r2
  exact hq _ _ _ _ q rfl (r2.fin (by omega) rfl)
 ·obtain ⟨r0,e0,hR⟩:=q
  have r1:Rel K M (ioOf vs ss) H (start N vs) σ' env' [(v,s)] H':=by simpa using r
  obtain ⟨env2,r2,ef,hr0⟩:=r1.told (n:=ps.length) e0
  exact hq r0 _ v H' hR hr0 (by rw[←ef];exact r2.fin (by omega) hr0)
theorem calD {x:Str}{st:Stmt}{f:Addr}{fd:FuncData}{k:Nat}{ps:List Str}{sp:DSp} (F:Fun K x x st f fd) (m:mg x=some (.ref f)) (b:Binds K fd ps []) (G:FnOk P w K mg base CX0 k f fd ps (spD K sp)):Cal P w K mg base x k (spD K sp):=Cal.mk F m b G
end
section
variable {X:Cx}{x:Str}{p pos:Pos}{e:Expr}{es:List Expr}{k:Nat}{sp:DSp}{K:PySem.W.Frag}{tl:DA}
theorem q_call (C:Cal X.prog X.w X.K X.mg X.base x k (spD K sp)) (hr:Room k X.A) (hg:Gl X x) (ha:PA X (e::es) (upA K tl)) (hd:(x==("__debug__" : Str))=false:=by decide)
  (he:starEach (e::es) X.env=(false,eval e X.env)::starEach es X.env:=by rfl) (hpl:(backTo pos (starEach es X.env)).any (·.1)=false:=by rfl):PE X (.Call (.Name x p) (e::es) [] pos) (up K (dCall sp tl)):=(pe_cal C hr hg ha hd he hpl).imp call_up
theorem q_callS (m:Nat) (C:Cal X.prog X.w X.K X.mg X.base x k (spD K sp)) (hr:Room k X.A) (hg:Gl X x) (ha:PA X (e::es) (upA K tl)) (hd:(x==("__debug__" : Str))=false:=by decide)
  (he:starEach (e::es) X.env=(false,eval e X.env)::starEach es X.env:=by rfl) (hpl:(backTo pos (starEach es X.env)).any (·.1)=false:=by rfl):PE X (.Call (.Name x p) (e::es) [] pos) (up K (dCallS sp m tl)):=(pe_cal C hr hg ha hd he hpl).imp callS_up
theorem q_callT (C:Cal X.prog X.w X.K X.mg X.base x k (spD K sp)) (hr:Room k X.A) (hg:Gl X x) (ha:PA X (e::es) (upA K tl)) (hd:(x==("__debug__" : Str))=false:=by decide)
  (he:starEach (e::es) X.env=(false,eval e X.env)::starEach es X.env:=by rfl) (hpl:(backTo pos (starEach es X.env)).any (·.1)=false:=by rfl):PE X (.Call (.Name x p) (e::es) [] pos) (up K (dCallT sp tl)):=(pe_cal C hr hg ha hd he hpl).imp callT_up
end
end L2
namespace L2
open PySem PySem.Spec PyProof.Rows
noncomputable def gNeg:G1:=fun d R=>∃ i,d=.int i∧R (.int (-i))
theorem mNeg {K:PySem.W.Frag}:∀ (N:Addr→Prop) (H:Hp) (x:V) (d1:PyData) (R:PyData→Prop) (Q:VK),Vw K N H x d1→gNeg d1 R→(∀ d v,R d→DN K N H v d→Q v H)→(rU fun i=>.int (-i)) x H Q:=by
 rintro N H x d R Q w ⟨i,rfl,hR⟩ hq
 exact ⟨i,w.int,hq _ _ hR (.int _)⟩
noncomputable abbrev li (ns:List Int):List PyData:=ns.map .int
theorem fd_intro {ds:List PyData}{g:DG}{tb:DS}{DD:DEnds}{env:List Sl} (W:Nat→List Sl→Prop) (h0:W 0 env)
  (hs:∀ i env,(h:i<ds.length)→W i env→g ds[i] env fun env2=>tb { DD with nx:=dI (W (i+1)) ⟨⟩,ct:=dI (W (i+1)) ⟨⟩,bk:=DD.nx } env2) (hd:∀ env,W ds.length env→DD.nx env):FD ds g tb DD env:=⟨W,h0,hs,hd⟩
theorem cd_map {ds:List PyData}{ix:List (Option Nat)}{g:DG}{te:DE}{env:List Sl}{R:Sl→List Sl→Prop} (f:Nat→PyData) (hz:ds.length≤1000000)
  (h : ∀ i,(h:i<ds.length)→∀ Q:PyData→Prop,Q (f i)→g ds[i] (capE ix env) fun b1=>te b1 fun s b3=>∃ d,keepOf b3 s=some d∧Q d) (hR:R (.ow ((List.range ds.length).map f)) env):CD ds ix g dYes te env R:=by
 refine ⟨fun i rs=>rs=(List.range i).map f∧i≤ds.length,⟨rfl,Nat.zero_le _⟩,fun i rs hi w=>?_,fun rs w=>by rw[w.1];exact hR⟩
 obtain ⟨rfl,_⟩:=w
 refine ⟨by rw[List.length_map,List.length_range];exact Nat.lt_of_lt_of_le (by omega) line_big,?_⟩
 have:=h i hi (fun d=>(List.range i).map f++[d]=(List.range (i+1)).map f∧i+1≤ds.length) ⟨by rw[List.range_succ,List.map_append];rfl,hi⟩
 simpa only [dYes,if_true] using this
theorem cd_filter {ds:List PyData}{ix:List (Option Nat)}{g:DG}{tt:DT}{te:DE}{env:List Sl}{R:Sl→List Sl→Prop} (p:Nat→Bool) (f:Nat→PyData) (hz:ds.length≤1000000)
  (h : ∀ i,(h:i<ds.length)→∀ (Q:PyData→Prop) (Q':Prop),(p i=true→Q (f i))→(p i=false→Q')→g ds[i] (capE ix env) fun b1=>tt b1 fun k b2=>if k=true then te b2 fun s b3=>∃ d,keepOf b3 s=some d∧Q d else Q')
  (hR:R (.ow (((List.range ds.length).filter p).map f)) env):CD ds ix g tt te env R:=by
 refine ⟨fun i rs=>rs=((List.range i).filter p).map f∧i≤ds.length,⟨rfl,Nat.zero_le _⟩,fun i rs hi w=>?_,fun rs w=>by rw[w.1];exact hR⟩
 obtain ⟨rfl,_⟩:=w
 refine ⟨?_,?_⟩
 ·have:=List.length_filter_le p (List.range i)
  rw [List.length_range] at this
  rw [List.length_map]
  exact Nat.lt_of_lt_of_le (by omega) line_big
 ·refine h i hi _ _ (fun e=>⟨?_,hi⟩) (fun e=>⟨?_,hi⟩)
  ·rw [List.range_succ,List.filter_append,List.map_append]
   simp [e]
  ·rw [List.range_succ,List.filter_append,List.map_append]
   simp [e]
end L2
namespace L2
open PySem PySem.Spec PyProof.Rows
noncomputable def Bg (i:Int):Prop:=i.natAbs<2 ^ 8000
noncomputable def CMulB (i j:Int):Prop:=Bg i∧Bg j
theorem CMulB.ok {i j:Int} (h:CMulB i j):IntMulOk i j:=by
 have up:∀ x:Int,Bg x→Builtin.Int.intBits x≤2 ^ 20:=fun x hx=>by
  refine PySem.intBits_le_iff.mpr (Nat.lt_of_lt_of_le hx (Nat.pow_le_pow_right (by decide) (by decide)))
 exact IntMulOk.of_bits (up _ h.1) (up _ h.2)
section
variable {X:Cx}{K:PySem.W.Frag}
end
end L2
namespace L2
open PySem
theorem Bg.of {i:Int} (h1:-1000000000000000000000000000000000000000000000≤i) (h2:i≤1000000000000000000000000000000000000000000000):Bg i:=by
 have h:i.natAbs<2 ^ 200:=by
  have:(2:Nat) ^ 200=1606938044258990275541962092341162602522202993782792835301376:=by decide
  rw [this]
  omega
 exact Nat.lt_of_lt_of_le h (Nat.pow_le_pow_right (by decide) (by decide))
end L2
namespace L2
open PySem PySem.Spec PyProof.Rows
section
variable (env:List Sl) (d:PyData) (l:List PyData) (i n:Nat) (s:Sl) (R:Sl→List Sl→Prop)
theorem valOf_fr:valOf env (.fr d)=some d:=rfl
theorem valOf_ow:valOf env (.ow l)=some (.list l):=rfl
theorem valOf_io:valOf env (.io l)=some (.list l):=rfl
theorem valOf_vw:valOf env (.vw i)=(env[i]?).bind slD:=rfl
theorem slD_fr:slD (.fr d)=some d:=rfl
theorem slD_ow:slD (.ow l)=some (.list l):=rfl
theorem slD_io:slD (.io l)=some (.list l):=rfl
theorem slD_un:slD .un=none:=rfl
theorem slD_tr {S:List Addr}{kvs:List (PyData×PyData)}:slD (.tr S (.dict kvs))=some (.dict kvs):=rfl
theorem valOf_tr {S:List Addr}{kvs:List (PyData×PyData)}:valOf env (.tr S (.dict kvs))=some (.dict kvs):=rfl
theorem slK_fr:slK (.fr d)=some d:=rfl
theorem slK_ow:slK (.ow l)=none:=rfl
theorem slK_io:slK (.io l)=none:=rfl
theorem slK_un:slK .un=none:=rfl
theorem keepOf_fr:keepOf env (.fr d)=some d:=rfl
theorem keepOf_ow:keepOf env (.ow l)=some (.list l):=rfl
theorem keepOf_vw:keepOf env (.vw i)=(env[i]?).bind slK:=rfl
theorem stoOf_fr:stoOf env (.fr d)=some (.fr d):=rfl
theorem stoOf_ow:stoOf env (.ow l)=some (.ow l):=rfl
theorem stoOf_tr {S:List Addr}:stoOf env (.tr S d)=some (.tr S d):=rfl
theorem resOf_tr {S:List Addr}:resOf env (.tr S d)=some (.tr S d):=rfl
theorem keepOf_tr {S:List Addr}:keepOf env (.tr S d)=some d:=rfl
theorem stoOf_vw:stoOf env (.vw i)=((env[i]?).bind slK).map .fr:=rfl
noncomputable def resS:Sl→Option Sl
 | .fr d=>some (.fr d)
 | .ow l=>some (.ow l)
 | _=>none
theorem resOf_fr:resOf env (.fr d)=some (.fr d):=rfl
theorem resOf_ow:resOf env (.ow l)=some (.ow l):=rfl
theorem resOf_vw:resOf env (.vw i)=(env[i]?).bind resS:=by
 show (env[i]?).bind _=_
 congr 1
theorem resS_fr:resS (.fr d)=some (.fr d):=rfl
theorem resS_ow:resS (.ow l)=some (.ow l):=rfl
theorem ioOnly_fr:ioOnly (.fr d)=.un:=rfl
theorem ioOnly_ow:ioOnly (.ow l)=.un:=rfl
theorem ioOnly_io:ioOnly (.io l)=.io l:=rfl
theorem ioOnly_un:ioOnly .un=.un:=rfl
theorem endsD_rt:(endsD n R).rt s env=∃ r,resOf env s=some r∧R r (finD n env):=rfl
theorem endsD_nx:(endsD n R).nx env=R (.fr .none) (finD n env):=rfl
theorem setSl_ow:setSl (.ow l) d'=some (.ow d'):=rfl
theorem setSl_io:setSl (.io l) d'=some (.io d'):=rfl
theorem ownD_ow:ownD (.ow l)=some l:=rfl
theorem ownD_io:ownD (.io l)=some l:=rfl
theorem ownD_fr:ownD (.fr d)=none:=rfl
theorem ownD_un:ownD .un=none:=rfl
theorem capSl_fr:capSl (some (.fr d))=.fr d:=rfl
theorem capSl_ow:capSl (some (.ow l))=.un:=rfl
theorem capSl_io:capSl (some (.io l))=.un:=rfl
theorem capSl_un:capSl (some .un)=.un:=rfl
theorem capD_none:capD env none=.un:=rfl
theorem capD_some:capD env (some i)=capSl env[i]?:=rfl
theorem seqOf_list:seqOf (.list l)=some l:=rfl
theorem seqOf_tuple:seqOf (.tuple l)=some l:=rfl
theorem truD_none:truD .none=some false:=rfl
theorem truD_bool (b:Bool):truD (.bool b)=some b:=rfl
theorem truD_int (i:Int):truD (.int i)=some (i != 0):=rfl
theorem truD_list:truD (.list l)=some (!l.isEmpty):=rfl
theorem truD_tuple:truD (.tuple l)=some (!l.isEmpty):=rfl
theorem isNn_none:isNn .none=true:=rfl
theorem isNn_int (i:Int):isNn (.int i)=false:=rfl
theorem isNn_bool (i:Bool):isNn (.bool i)=false:=rfl
theorem isNn_list:isNn (.list l)=false:=rfl
theorem isNn_tuple:isNn (.tuple l)=false:=rfl
theorem keepsOf_nil:keepsOf env []=some []:=rfl
theorem keepsOf_cons (s:Sl) (ss:List Sl):keepsOf env (s::ss)=(keepOf env s).bind fun d=>(keepsOf env ss).bind fun ds=>some (d::ds):=rfl
theorem valsOf_nil:valsOf env []=some []:=rfl
theorem valsOf_cons (s:Sl) (ss:List Sl):valsOf env (s::ss)=(valOf env s).bind fun d=>(valsOf env ss).bind fun ds=>some (d::ds):=rfl
theorem eqv_ints (i j:Int):PyData.eqv (.int i) (.int j)=decide (i=j):=by
 show (i==j)=_
 by_cases h:i=j <;> simp[h]
end
section
variable {X:Cx}{K:PySem.W.Frag}{ta:DA}{a b:Expr}{pos:Pos}
end
end L2
namespace L2
open PySem PySem.Spec PyProof.Rows
theorem atI_c0 {α:Type} (x:α) (l:List α):atI (x::l) 0=some x:=atI_nat (j:=0) rfl
theorem atI_c1 {α:Type} (x y:α) (l:List α):atI (x::y::l) 1=some y:=atI_nat (j:=1) rfl
theorem atI_c2 {α:Type} (x y z:α) (l:List α):atI (x::y::z::l) 2=some z:=atI_nat (j:=2) rfl
theorem atI_c4 {α:Type} (a b c d x:α) (l:List α):atI (a::b::c::d::x::l) 4=some x:=atI_nat (j:=4) rfl
theorem atI_c5 {α:Type} (a b c d e x:α) (l:List α):atI (a::b::c::d::e::x::l) 5=some x:=atI_nat (j:=5) rfl
theorem atI_c6 {α:Type} (a b c d e f x:α) (l:List α):atI (a::b::c::d::e::f::x::l) 6=some x:=atI_nat (j:=6) rfl
theorem atI_c7 {α:Type} (a b c d e f g x:α) (l:List α):atI (a::b::c::d::e::f::g::x::l) 7=some x:=atI_nat (j:=7) rfl
theorem eqv_none:PyData.eqv .none .none=true:=rfl
theorem eqv_ni (i:Int):PyData.eqv .none (.int i)=false:=rfl
theorem eqv_in (i:Int):PyData.eqv (.int i) .none=false:=rfl
theorem shp_int (i:Int):shp (.int i)=True:=by simp[shp,SeqAt.shaped,PySem.PyData.canLay0,PySem.PyData.depth]
theorem shp_none:shp .none=True:=by simp[shp,SeqAt.shaped,PySem.PyData.canLay0,PySem.PyData.depth]
theorem shp_bool (b:Bool):shp (.bool b)=True:=by simp[shp,SeqAt.shaped,PySem.PyData.canLay0,PySem.PyData.depth]
theorem atI_c3 {α:Type} (x y z u:α) (l:List α):atI (x::y::z::u::l) 3=some u:=atI_nat (j:=3) rfl
end L2
namespace L2
open PySem PySem.Spec PyProof.Rows
theorem law_sp {K:PySem.W.Frag}{H:Hp}{a:Addr}{ns:List Int}{E:XK} (hS:SqL K H a (ns.map V.int)) {sp:DSp} (h:sp [.fr (.list (li ns))] (fun r _=>r=.fr (.bool true))):spD K sp [.ref a] H (fun v _=>v=.bl true) E:=by
 have dns:DNs K (fun _=>False) H [.ref a] [.list (li ns)]:=.cons (DN.sqL hS) .nil
 refine ⟨fun _=>False,[.fr (.list (li ns))],_,rfl,argsFr (ds:=[.list (li ns)]) dns (fun a z=>z.elim),h,fun r ss' v H' hR _ post=>?_⟩
 subst hR
 obtain ⟨w,e,dn⟩:=post.fr _ _ List.mem_cons_self
 cases e
 cases dn
 rfl
theorem walkD {l:PySem.W.OpenLaw}{q:Program}{loose:List Str}{XP:(Str→Option Value)→Heap→Prop}{YP:World→Heap→Prop}{d:DefRec}{K:Params→PySem.W.Frag}{sp:DSp}{k:Nat} (hk:k≤40) (hn:l.most=some 63) (hdf:d.params.defaults=[])
  (hsp:∀ ns:List Int,ns.length≤63→sp [.fr (.list (li ns))] (fun r _=>r=.fr (.bool true)))
  (hTb:∀ (w:World) (s₀:Shared) (mg mb:Str→Option Value) (h:Heap),PySem.W.Ground q loose [] XP w s₀ mg mb h→(K w.params).In h→∃ tb:List (Addr×Str),(∀ b q,tb.lookup b=some q→h.get? b=some { cls:=.none,data:=.fields #[] }∧(K w.params).lookup b=none∧∃ c,h.TableAt c b #[])∧∀ T q,LamTab (K w.params) T q→tb.lookup T=some q)
  (hY:∀ (w:World) (h:Heap),YP w h→(K w.params).In h)
  (F : ∀ (w:World) (mg:Str→Option Value) (fa:Addr) (h:Heap),(K w.params).In h→h.Ns mainGlobals mg→mg d.name=some (.ref fa) →
   ∃ fd:FuncData,(∀ (s:Shared) (u:Value),BindsTo s fd ⟨[u],[]⟩ [("_law_script",u)])∧∀ base:Heap,(K w.params).In base→base.Ns mainGlobals mg→FnOk l.prog w (K w.params) mg base CX0 k fa fd ["_law_script"] (spD (K w.params) sp)) :
  PySem.W.WalkO q loose XP YP l.row.toRowW d [] (fun f vs=>PySem.call f vs):=by
 refine L2.walk_of (n:=63) (k:=40) (x := "_law_script") (CX:=fun _=>CX0) (sp:=fun w=>spD (K w.params) sp) hn (by decide) hdf ⟨rfl,by decide,by decide⟩ hTb hY (fun w mg fa h a b c=>?_) (fun w H a ns hl _ hS=>law_sp hS (hsp ns hl)) fun _ _ _ _ _ z=>z
 obtain ⟨fd,h1,h2⟩:=F w mg fa h a b c
 exact ⟨fd,h1,fun base x y=>(h2 base x y).mono hk⟩
end L2
namespace L2
open PySem PySem.Spec PyProof.Rows
noncomputable def Sh (n:Nat) (d:PyData):Prop:=d.canLay0=true∧d.depth≤n
theorem Sh.int (n:Nat) (i:Int):Sh n (.int i):=⟨by simp[PyData.canLay0],by simp[PyData.depth]⟩
theorem Sh.bool (n:Nat) (i:Bool):Sh n (.bool i):=⟨by simp[PyData.canLay0],by simp[PyData.depth]⟩
theorem Sh.none (n:Nat):Sh n .none:=⟨by simp[PyData.canLay0],by simp[PyData.depth]⟩
theorem Sh.all {n:Nat}:∀ {ds:List PyData},(∀ x∈ds,Sh n x)→PyData.canLayAll0 ds=true∧PyData.depthAll ds≤n
 | [],_=>⟨by simp[PyData.canLayAll0],by simp[PyData.depthAll]⟩
 | d::ds,h=>by
  have h1:=h d List.mem_cons_self
  have h2:=Sh.all fun x hx=>h x (List.mem_cons_of_mem _ hx)
  refine ⟨by rw[PyData.canLayAll0,h1.1,h2.1];rfl,?_⟩
  rw [PyData.depthAll]
  have a:=h1.2
  have b:=h2.2
  omega
theorem Sh.list {n:Nat}{ds:List PyData} (h:∀ x∈ds,Sh n x):Sh (n+1) (.list ds):=by
 obtain ⟨a,b⟩:=Sh.all h
 exact ⟨by rw[PyData.canLay0];exact a,by rw[PyData.depth];omega⟩
theorem Sh.tuple {n:Nat}{ds:List PyData} (h:∀ x∈ds,Sh n x):Sh (n+1) (.tuple ds):=by
 obtain ⟨a,b⟩:=Sh.all h
 exact ⟨by rw[PyData.canLay0];exact a,by rw[PyData.depth];omega⟩
theorem Sh.mono {n m:Nat}{d:PyData} (h:Sh n d) (hm:n≤m):Sh m d:=⟨h.1,Nat.le_trans h.2 hm⟩
theorem Sh.ints (n:Nat) (ns:List Int):Sh (n+1) (.list (li ns)):=Sh.list fun x hx=>by
 obtain ⟨i,_,rfl⟩:=List.mem_map.mp hx
 exact Sh.int _ _
theorem Sh.shp {n:Nat}{d:PyData} (h:Sh n d) (hn:n≤64):shp d:=by
 show SeqAt.shaped d=true
 unfold SeqAt.shaped
 rw [h.1,decide_eq_true (Nat.le_trans h.2 hn)]
 rfl
theorem atI_li {ns:List Int}{k:Nat} (h:k<ns.length):atI (li ns) (k:Int)=some (.int (ns.getD k 0)):=atI_nat (by
 rw [List.getElem?_map,List.getElem?_eq_getElem h,List.getD_eq_getElem?_getD,List.getElem?_eq_getElem h]
 rfl)
theorem li_get {ns:List Int}{i:Nat} (h:i<(li ns).length):(li ns)[i]=.int (ns.getD i 0):=by
 have h':i<ns.length:=by simpa using h
 simp [List.getD_eq_getElem?_getD,List.getElem?_eq_getElem h']
theorem li_set (ns:List Int) (i:Nat) (x:Int):(li ns).set i (.int x)=li (ns.set i x):=by simp[List.map_set]
theorem li_snoc (ns:List Int) (x:Int):li ns++[.int x]=li (ns++[x]):=by simp
theorem li_range (n:Nat) (f:Nat→Int):(List.range n).map (fun i=>PyData.int (f i))=li ((List.range n).map f):=by
 show _=List.map _ (List.map _ _)
 rw [List.map_map]
 rfl
theorem cmul_l {i j:Int} (h0:-18446744073709551616<i) (h1:i<18446744073709551616):CMul i j:=.inl ⟨h0,h1⟩
theorem cmul_r {i j:Int} (h0:-18446744073709551616<j) (h1:j<18446744073709551616):CMul i j:=.inr ⟨h0,h1⟩
end L2
namespace L2
open PySem PySem.Spec PyProof.Rows
@[irreducible] def dNx (u:DS):DS:=u
theorem dNx_eq (u:DS):dNx u=u:=by unfold dNx;rfl
theorem nx {u:DS}{DD:DEnds}{env:List Sl} (h:u DD env):dNx u DD env:=by rw[dNx_eq];exact h
theorem qs_bar {X:Cx}{K:PySem.W.Frag}{st:Stmt}{rest:List Stmt}{t u:DS} (h1:PS X st (upS K t)) (h2:PSs X rest (upS K u)):PSs X (st::rest) (upS K (dSeq t (dNx u))):=by rw[dNx_eq];exact qs_cons h1 h2
end L2
namespace L2
theorem place {x:Int}{n:Nat} (h:0<n):∃ a:Nat,x % (n:Int)=(a:Int)∧a<n:=by
 have h0:=Int.emod_nonneg x (show (n:Int)≠0 by omega)
 have h1:=Int.emod_lt_of_pos x (show (0:Int)<n by omega)
 exact ⟨(x % (n:Int)).toNat,by omega,by omega⟩
end L2
namespace L2
open PySem PySem.Spec PyProof.Rows
theorem argBest_ok (bt:Nat→Nat→Bool) (val:Nat→Int) (hb:∀ i j,bt i j=decide (val i<val j)):∀ n,argBest bt n≤n∧∀ i,i≤n→val (argBest bt n)≤val i
 | 0=>⟨Nat.le_refl _,fun i hi=>by rw[show i=0 by omega];exact Int.le_refl _⟩
 | n + 1=>by
  obtain ⟨h1,h2⟩:=argBest_ok bt val hb n
  show (if bt (n+1) (argBest bt n) then n+1 else argBest bt n)≤_∧_
  cases e:bt (n+1) (argBest bt n) with
  | true =>
   rw [hb,decide_eq_true_eq] at e
   refine ⟨by simp,fun i hi=>?_⟩
   have ea:argBest bt (n+1)=n+1:=by
    show (if bt (n+1) (argBest bt n) then n+1 else argBest bt n)=_
    rw [hb,decide_eq_true e,if_pos rfl]
   rw [ea]
   by_cases hi':i=n+1
   ·rw [hi'];exact Int.le_refl _
   ·have:=h2 i (by omega)
    omega
  | false =>
   rw [hb,decide_eq_false_iff_not] at e
   refine ⟨by simp;omega,fun i hi=>?_⟩
   have ea:argBest bt (n+1)=argBest bt n:=by
    show (if bt (n+1) (argBest bt n) then n+1 else argBest bt n)=_
    rw [hb,decide_eq_false e]
    rfl
   rw [ea]
   by_cases hi':i=n+1
   ·rw [hi'];omega
   ·exact h2 i (by omega)
section
variable {X:Cx}{K:PySem.W.Frag}
theorem call_minL (hK:X.K=K) (hc:X.calm=true):CallR X (.builtin "min") (fun xs H Q=>∃ (p:Addr) (ns:List Int),xs=[.ref p]∧SqL K H p (ns.map V.int)∧ns≠[]∧∀ m,m∈ns→(∀ x∈ns,m≤x)→Q (.int m) H):=by
 subst hK
 intro pins s σ H xs us Q I r h
 obtain ⟨p,ns,rfl,hs,hne,q⟩:=h
 obtain ⟨u,rfl,ru⟩:=vals1 r
 cases (show u=Value.ref p from ru)
 obtain ⟨its,rv,hp,_⟩:=I.list hs
 have hl:=hp.isList
 have hlt:p<s.heap.objs.size:=by obtain⟨_,e,_⟩:=hl;exact Heap.lt_size e
 have hsz:its.toArray.size=ns.length:=by
  have:=rv.length
  simp at this ⊢
  omega
 have hpos:0<ns.length:=List.length_pos_iff.mpr hne
 have W:=(Walks.list (prog:=X.prog) (w:=X.w) (A:=X.A.in1) (I.ok.hd hc) s.heap.objs.size p (Nat.ne_of_lt hlt) its.toArray)
 rw [hsz] at W
 have hval:∀ (i:Nat) (v:Value),its.toArray[i]? = some v→∃ t,v=Value.int (ns.getD i 0) t:=fun i v hP=>by
  have hP:its[i]? = some v:=by simpa using hP
  have hi:i<its.length:=(List.getElem?_eq_some_iff.mp hP).1
  have hi2:i<ns.length:=by simp at hsz;omega
  obtain ⟨u,e1,⟨t,e2⟩⟩:=rv.get (i:=i) (x:=.int ns[i]) (by rw[List.getElem?_map,List.getElem?_eq_getElem hi2];rfl)
  rw [hP] at e1
  cases e1
  refine ⟨t,?_⟩
  rw [e2,List.getD_eq_getElem?_getD,List.getElem?_eq_getElem hi2]
  rfl
 refine call_min_walk (wpAny_pyIter_list hl ?_)
 refine ⟨s.heap.objs.size,_,_,_,_,_,fun i j=>decide (ns.getD i 0<ns.getD j 0),rfl,W,⟨⟨_,Heap.get?_push_size _ rfl,rfl,rfl⟩,hl.push _⟩,fun b hb=>?_,hpos,CmpOf.ints_lt (fun i=>ns.getD i 0) hval,fun v h' tk hP hk=>?_⟩
 ·rcases List.mem_cons.mp hb with rfl|hb
  ·exact Heap.lt_size (Heap.get?_push_size _ rfl)
  ·obtain rfl:=List.mem_singleton.mp hb
   exact Heap.lt_size (Heap.get?_push_of_some _ (id hl).choose_spec.1)
 ·obtain ⟨t,rfl⟩:=hval _ _ hP
  obtain ⟨b1,b2⟩:=argBest_ok (fun i j=>decide (ns.getD i 0<ns.getD j 0)) (fun i=>ns.getD i 0) (fun _ _=>rfl) (ns.length - 1)
  have hlt2:argBest (fun i j=>decide (ns.getD i 0<ns.getD j 0)) (ns.length - 1)<ns.length:=by omega
  refine ⟨.int _,H,I.kept fun b o e=>hk b o (fun hb=>absurd (Heap.lt_size e) ((List.mem_singleton.mp hb)▸Nat.lt_irrefl _)) (Heap.get?_push_of_some _ e),⟨_,rfl⟩,q _ ?_ fun x hx=>?_⟩
  ·rw [List.getD_eq_getElem?_getD,List.getElem?_eq_getElem hlt2]
   exact List.getElem_mem hlt2
  ·obtain ⟨j,hj,rfl⟩:=List.getElem_of_mem hx
   have:=b2 j (by omega)
   rwa [show ns.getD j 0=ns[j] by rw[List.getD_eq_getElem?_getD,List.getElem?_eq_getElem hj];rfl] at this
noncomputable def gMinL:GB:=fun ds R=>∃ es ns,ds=[.list es]∧intsOf es=some ns∧ns≠[]∧∀ m,m∈ns→(∀ x∈ns,m≤x)→R (.int m)
theorem mMinL:MeansB K (fun xs H Q=>∃ (p:Addr) (ns:List Int),xs=[.ref p]∧SqL K H p (ns.map V.int)∧ns≠[]∧∀ m,m∈ns→(∀ x∈ns,m≤x)→Q (.int m) H) gMinL:=by
 rintro N H xs ds R Q w ⟨es,ns,rfl,e1,hne,hR⟩ hq
 cases w with
 | cons w1 w2 =>
  cases w2
  obtain ⟨a,vs,rfl,s,q⟩:=w1.list
  rw [intsOf_some e1] at q
  rw [q.ints] at s
  exact ⟨a,ns,rfl,s,hne,fun m h1 h2=>hq _ _ (hR m h1 h2) (.int _)⟩
end
end L2
namespace L2
open PySem PySem.Spec PyProof.Rows
noncomputable def Pl:Nat→PyData→Prop
 | 0,d=>∃ i,d=.int i
 | n+1,d=>(∃ i,d=.int i)∨∃ ds:List PyData,(d=.list ds∨d=.tuple ds)∧ds.length≤1000000∧∀ x∈ds,Pl n x
theorem Pl.int (n:Nat) (i:Int):Pl n (.int i):=by
 cases n with
 | zero=>exact⟨i,rfl⟩
 | succ n=>exact .inl ⟨i,rfl⟩
theorem Pl.list {n:Nat}{ds:List PyData} (hl:ds.length≤1000000) (h:∀ x∈ds,Pl n x):Pl (n+1) (.list ds):=.inr ⟨ds,.inl rfl,hl,h⟩
theorem Pl.tuple {n:Nat}{ds:List PyData} (hl:ds.length≤1000000) (h:∀ x∈ds,Pl n x):Pl (n+1) (.tuple ds):=.inr ⟨ds,.inr rfl,hl,h⟩
theorem Pl.ints (n:Nat) {ns:List Int} (h:ns.length≤1000000):Pl (n+1) (.list (li ns)):=Pl.list (by rw[List.length_map];exact h) fun x hx=>by
 obtain ⟨i,_,rfl⟩:=List.mem_map.mp hx
 exact Pl.int _ _
end L2
namespace L2
open PySem PySem.Spec PyProof.Rows
section
variable {K:PySem.W.Frag}{N:Addr→Prop}{H:Hp}
end
end L2
namespace L2
open PySem PySem.Spec PyProof.Rows
mutual
noncomputable def noL:PyData→Bool
 | .none=>true
 | .bool _=>true
 | .int _=>true
 | .str _=>true
 | .tuple ds=>noLs ds
 | _=>false
noncomputable def noLs:List PyData→Bool
 | []=>true
 | d::ds=>noL d&&noLs ds
end
section
variable {K:PySem.W.Frag}{M P N:Addr→Prop}{H0 H H':Hp}{E T A B:List Ent}{σ0 σ:St}{env:List Sl}{ts tt:List (V×Sl)}{v:V}{s:Sl}{d:PyData}
mutual
theorem DN.ot:∀ {v:V}{d:PyData},DN K N H v d→noL d=true→OT K N H v d []
 | _,_,.non,_=>.non
 | _,_,.bl b,_=>.bl b
 | _,_,.int i,_=>.int i
 | _,_,.lst h q,e=>by simp[noL] at e
 | _,_,.tup h q,e=>.tup h (DNs.ots q (by simpa [noL] using e))
 | _,_,.dct _ _ _ _ _,e=>by simp[noL] at e
 | _,_,.fz _,e=>by simp[noL] at e
theorem DNs.ots:∀ {v:List V}{d:List PyData},DNs K N H v d→noLs d=true→OTs K N H v d []
 | _,_,.nil,_=>.nil
 | _,_,.cons h q,e=>by
  have e:(noL _&&noLs _)=true:=e
  rw [Bool.and_eq_true] at e
  exact .cons (S:=[]) (S':=[]) (DN.ot h e.1) (DNs.ots q e.2)
end
noncomputable def fzs:List PyData→Option (List PyData)
 | []=>some []
 | .list l::ds=>(fzs ds).map (fzD l::·)
 | _::_=>none
theorem DNs.fzs:∀ {vs:List V}{ds ds':List PyData},DNs K N H vs ds→fzs ds=some ds'→OTs K N H vs ds' []
 | _,_,_,.nil,e=>by cases e;exact .nil
 | _, d::ds,_,.cons h q,e=>by
  cases d with
  | list l =>
   have e:(L2.fzs ds).map (fzD l::·)=some _:=e
   cases e2:L2.fzs ds with
   | none=>rw[e2] at e;cases e
   | some ds2 =>
    rw [e2] at e
    cases e
    exact .cons (S:=[]) (S':=[]) (.fz h) (DNs.fzs q e2)
  | _=>cases e
noncomputable def slF (s:Sl):Option PyData:=match s with
 | .fr d=>if noL d=true then some d else none
 | _=>none
noncomputable def treeD (env:List Sl):Sl→Option PyData
 | .fr d=>if noL d=true then some d else none
 | .ow ds=>if noLs ds=true then some (.list ds) else (fzs ds).map .list
 | .tr _ d=>some d
 | .vw i=>(env[i]?).bind slF
 | _=>none
noncomputable def treesD (env:List Sl):List Sl→Option (List PyData)
 | []=>some []
 | s::ss=>(treeD env s).bind fun d=>(treesD env ss).bind fun ds=>some (d::ds)
theorem Rel.tree (h:Rel K M P H0 σ0 σ env ts H) (m:(v,s)∈ts) (e:treeD env s=some d):OT K (Nw M (ents σ env ts)) H v d (own1 (some v,s))∧∀ a∈own1 (some v,s),H0 a=none:=by
 have mm:((some v,s):Ent)∈ents σ env ts:=mem_tmp m
 cases s with
 | fr d' =>
  by_cases c:noL d'=true
  ·have e:(if noL d'=true then some d' else none)=some d:=e
   rw [if_pos c] at e
   cases e
   obtain ⟨v',e1,dn⟩:=h.e.fr _ _ mm
   cases e1
   rw [own1_fr]
   exact ⟨dn.ot c,fun a ha=>by cases ha⟩
  ·have e:(if noL d'=true then some d' else none)=some d:=e
   rw [if_neg c] at e
   cases e
 | ow ds =>
  have e:(if noLs ds=true then some (PyData.list ds) else (fzs ds).map .list)=some d:=e
  by_cases c:noLs ds=true
  ·rw [if_pos c] at e
   cases e
   obtain ⟨a,vs,e1,e2,dn,h0⟩:=h.e.ow _ _ mm
   cases e1
   exact ⟨.lst e2 (dn.ots c),fun b hb=>by rw[List.mem_singleton.mp hb];exact h0⟩
  ·rw [if_neg c] at e
   cases e3:fzs ds with
   | none=>rw[e3] at e;cases e
   | some ds' =>
    rw [e3] at e
    cases e
    obtain ⟨a,vs,e1,e2,dn,h0⟩:=h.e.ow _ _ mm
    cases e1
    exact ⟨.lst e2 (dn.fzs e3),fun b hb=>by rw[List.mem_singleton.mp hb];exact h0⟩
 | tr S d' =>
  cases e
  obtain ⟨v',e1,ot,h0⟩:=h.e.tr _ _ _ mm
  cases e1
  rw [own1_tr]
  exact ⟨ot,h0⟩
 | vw i =>
  have e:(env[i]?).bind slF=some d:=e
  cases q:env[i]? with
  | none=>rw[q] at e;cases e
  | some s' =>
   rw [q] at e
   cases s' with
   | fr d' =>
    have e:(if noL d'=true then some d' else none)=some d:=e
    by_cases c:noL d'=true
    ·rw [if_pos c] at e
     cases e
     obtain ⟨x,e1,m1⟩:=h.slot q
     obtain ⟨v',e2,dn⟩:=h.e.fr _ _ m1
     have e3:=h.vw v i m
     rw [e1,e2] at e3
     cases e3
     rw [own1_vw]
     exact ⟨dn.ot c,fun a ha=>by cases ha⟩
    ·rw [if_neg c] at e
     cases e
   | _=>cases e
 | _=>cases e
theorem Rel.trees (h:Rel K M P H0 σ0 σ env ts H):∀ {vs:List V}{ss:List Sl}{ds:List PyData},vs.length=ss.length→(∀ p∈vs.zip ss,p∈ts)→treesD env ss=some ds→OTs K (Nw M (ents σ env ts)) H vs ds (oas (tmp (vs.zip ss)))∧∀ a∈oas (tmp (vs.zip ss)),H0 a=none
 | [],[],_,_,_,e=>by cases e;exact⟨.nil,fun a ha=>by cases ha⟩
 | v :: vs,s::ss,ds,hl,hm,e=>by
  unfold treesD at e
  cases e1:treeD env s with
  | none=>rw[e1] at e;cases e
  | some d =>
   rw [e1] at e
   cases e2:treesD env ss with
   | none=>rw[e2] at e;cases e
   | some ds' =>
    rw [e2] at e
    cases e
    obtain ⟨a1,a2⟩:=h.tree (v:=v) (hm (v,s) (by simp)) e1
    obtain ⟨b1,b2⟩:=h.trees (vs:=vs) (ss:=ss) (by simpa using hl) (fun p hp=>hm p (by simp[hp])) e2
    have oe:oas (tmp ((v::vs).zip (s::ss)))=own1 (some v,s)++oas (tmp (vs.zip ss)):=oas_cons _ _
    rw [oe]
    exact ⟨.cons a1 b1,fun a ha=>(List.mem_append.mp ha).elim (a2 a) (b2 a)⟩
 | [],_::_,_,hl,_,_=>by simp at hl
 | _::_,[],_,hl,_,_=>by simp at hl
theorem ots_new {p:Addr}{o:HO}{vs:List V}{ds:List PyData}{S:List Addr} (q:OTs K N H vs ds S) (hp:H p=none):OTs K N (upd H p o) vs ds S:=q.keep (Keep.same (Same.new hp)) fun a ha=>by
 obtain ⟨xs,z⟩:=q.lives a ha
 rw [Same.new hp _ _ z,z]
theorem RelE.foldL (h:RelE K M P H0 (E++T) H) {p:Addr}{vs:List V}{ds:List PyData} (hp:H p=none) (q:OTs K (Nw M (E++T)) H vs ds (oas T)) (hq:∀ a∈oas T,H0 a=none):RelE K M P H0 (E++[(some (.ref p),.tr (p::oas T) (.list ds))]) (upd H p (.lst vs)):=by
 have oe:oas (E++[(some (.ref p),Sl.tr (p::oas T) (.list ds))])=oas E++p::oas T:=by
  rw [oas_app,oas_cons,own1_tr]
  simp [oas]
 have np:p ∉ oas (E++T):=fun z=>by
  obtain ⟨vs',q,_⟩:=h.own z
  rw [hp] at q
  cases q
 have h0:H0 p=none:=by
  cases e:H0 p with
  | none=>rfl
  | some o=>exact absurd hp (h.live p (by rw[e];simp))
 have up:∀ b o,H b=some o→Nw M (E++[(some (.ref p),Sl.tr (p::oas T) (.list ds))]) b→Nw M (E++T) b:=fun b o e z=>by
  rcases z with z|z
  ·exact .inl z
  ·rw [oe] at z
   rcases List.mem_append.mp z with z|z
   ·exact .inr (by rw[oas_app];exact List.mem_append_left _ z)
   ·rcases List.mem_cons.mp z with z|z
    ·rw [z,hp] at e
     cases e
    ·exact .inr (by rw[oas_app];exact List.mem_append_right _ z)
 have old:∀ x s,(x,s)∈E++[(some (.ref p),Sl.tr (p::oas T) (.list ds))]→(x,s)∈E++T∨(x,s)=(some (.ref p),Sl.tr (p::oas T) (.list ds)):=fun x s m=>by
  rcases List.mem_append.mp m with m|m
  ·exact .inl (List.mem_append_left _ m)
  ·exact .inr (List.mem_singleton.mp m)
 have h':=h.same (Same.new (o:=.lst vs) hp)
 refine ⟨h'.keep,h'.live,h.mt,h.pm,fun x d' m=>?_,fun x d' m=>?_,fun x d' m=>?_,fun x S d' m=>?_,?_⟩
 ·rcases old _ _ m with m|m
  ·obtain ⟨v,e,dn⟩:=h.fr x d' m
   exact ⟨v,e,(dn.to up).keep (Keep.same (Same.new hp))⟩
  ·cases m
 ·rcases old _ _ m with m|m
  ·obtain ⟨a,ws,e,e2,dn,r⟩:=h.ow x d' m
   exact ⟨a,ws,e,Same.new hp _ _ e2,(dn.to up).keep (Keep.same (Same.new hp)),r⟩
  ·cases m
 ·rcases old _ _ m with m|m
  ·obtain ⟨a,ws,e,e2,dn,r⟩:=h.io x d' m
   exact ⟨a,ws,e,Same.new hp _ _ e2,(dn.to up).keep (Keep.same (Same.new hp)),r⟩
  ·cases m
 ·rcases old _ _ m with m|m
  ·obtain ⟨v,e,dn,r⟩:=h.tr x S d' m
   exact ⟨v,e,(dn.to up).keep (Keep.same (Same.new hp)) fun a ha=>by
    obtain ⟨xs,z⟩:=dn.lives a ha
    rw [Same.new hp _ _ z,z],r⟩
  ·cases m
   exact ⟨_,rfl,.lst upd_same (ots_new (q.to up) hp),fun a ha=>(List.mem_cons.mp ha).elim (fun z=>by rw[z];exact h0) (hq a)⟩
 ·rw [oe]
  have nd:=h.nd
  rw [oas_app] at nd np
  obtain ⟨n1,n2,n3⟩:=List.nodup_append.mp nd
  refine List.nodup_append.mpr ⟨n1,List.nodup_cons.mpr ⟨fun z=>np (List.mem_append_right _ z),n2⟩,fun a ha b hb z=>?_⟩
  rcases List.mem_cons.mp hb with hb|hb
  ·rw [hb] at z
   exact np (List.mem_append_left _ (z▸ha))
  ·exact n3 a ha b hb z
theorem Rel.resLstT (h:Rel K M P H0 σ0 σ env (ts++tt) H) {p:Addr}{vs:List V}{ds:List PyData} (hp:H p=none) (q:OTs K (Nw M (ents σ env (ts++tt))) H vs ds (oas (tmp tt))) (h0:∀ a∈oas (tmp tt),H0 a=none) :
  Rel K M P H0 σ0 σ env (ts++[(.ref p,.tr (p::oas (tmp tt)) (.list ds))]) (upd H p (.lst vs)):=by
 have hE:=h.e
 rw [ents_app] at hE q
 exact h.drop.withRes (hE.foldL hp q h0) rfl
end
section
variable {X:Cx}{K:PySem.W.Frag}{pos:Pos}{es:List Expr}{tl:DA}
end
end L2
namespace L2
open PySem PySem.Spec PyProof.Rows
section
variable {K:PySem.W.Frag}{M P N:Addr→Prop}{H0 H H':Hp}{E T A B:List Ent}{σ0 σ:St}{env:List Sl}{ts tt kp:List (V×Sl)}{v:V}{s:Sl}{d:PyData}
theorem treeD_res {env env':List Sl}{s:Sl} (h:isRes s=true):treeD env s=treeD env' s:=by
 cases s <;> first|rfl|cases h
end
section
variable {K:PySem.W.Frag}
section
variable {X:Cx}{pos spos:Pos}{N':List Str}{ix:List (Option Nat)}{it:DI}{g:DG}{tt:DT}{te:DE}{tg iter elt:Expr}{ifs:List Expr}
end
end
end L2
namespace L2
open PySem PySem.Spec PyProof.Rows
section
variable {K:PySem.W.Frag}{M P N:Addr→Prop}{H0 H H':Hp}{E T A B:List Ent}{σ0 σ:St}{env:List Sl}{ts tt kp:List (V×Sl)}{v:V}{s:Sl}{d:PyData}
end
section
variable {X:Cx}{K:PySem.W.Frag}{pos p:Pos}{tl:DA}{sp:DSp}{x:Str}{k:Nat}{e:Expr}{es:List Expr}
end
end L2
namespace L2
open PySem PySem.Spec PyProof.Rows
noncomputable def pAt:List Nat→PyData→Option PyData
 | [],d=>some d
 | i::p,.list ds=>(ds[i]?).bind (pAt p)
 | i::p,.tuple ds=>(ds[i]?).bind (pAt p)
 | _::_,_=>none
noncomputable def pSet (n:PyData):List Nat→PyData→PyData
 | [],_=>n
 | i::p,.list ds=>.list (match ds[i]? with|some c=>ds.set i (pSet n p c)|none=>ds)
 | i::p,.tuple ds=>.tuple (match ds[i]? with|some c=>ds.set i (pSet n p c)|none=>ds)
 | _::_,d=>d
inductive Reach (K:PySem.W.Frag) (H:Hp):V→List Nat→V→Prop
 | nil {v:V}:Reach K H v [] v
 | cons {b:Addr}{xs:List V}{i:Nat}{x u:V}{p:List Nat}:(SqL K H b xs∨SqT K H b xs)→xs[i]? = some x→Reach K H x p u→Reach K H (.ref b) (i::p) u
section
variable {K:PySem.W.Frag}{N:Addr→Prop}{H H':Hp}
theorem OTs.split:∀ {xs:List V}{cs:List PyData}{S:List Addr}{i:Nat}{c:PyData},OTs K N H xs cs S→cs[i]? = some c→∃ x S1 Sx S2,xs[i]? = some x∧S=S1++(Sx++S2)∧OT K N H x c Sx ∧
  ∀ {N1:Addr→Prop}{H':Hp}{c':PyData}{Sx':List Addr},(∀ b o,H b=some o→N1 b→N b)→Keep N1 H H'→(∀ b∈S1,H' b=H b)→(∀ b∈S2,H' b=H b)→OT K N1 H' x c' Sx'→OTs K N1 H' xs (cs.set i c') (S1++(Sx'++S2))
 | _,_,_,_,_,.nil,h=>by simp at h
 | _,_,_,0,c,@OTs.cons _ _ _ x xs d ds S S' h q,e=>by
  have e:d=c:=by simpa using e
  subst e
  exact ⟨x,[],S,S',rfl,rfl,h,fun {N1 H' c' Sx'} m k _ k2 o=>(show OTs K N1 H' (x::xs) (c'::ds) (Sx'++S') from .cons o ((q.to m).keep k k2))⟩
 | _,_,_,i+1,c,@OTs.cons _ _ _ x xs d ds S S' h q,e=>by
  obtain ⟨y,S1,Sx,S2,e1,e2,o,f⟩:=OTs.split (i:=i) (c:=c) q (by simpa using e)
  refine ⟨y,S++S1,Sx,S2,by simpa using e1,by rw[e2];simp,o,fun {N1 H' c' Sx'} m k k1 k2 o'=>?_⟩
  have:=OTs.cons ((h.to m).keep k fun b hb=>k1 b (List.mem_append_left _ hb)) (f m k (fun b hb=>k1 b (List.mem_append_right _ hb)) k2 o')
  rw [List.append_assoc]
  exact this
theorem OT.path:∀ (p:List Nat) {v:V}{d:PyData}{S:List Addr}{ds:List PyData},OT K N H v d S→S.Nodup→pAt p d=some (.list ds)→∃ a us,Reach K H v p (.ref a)∧H a=some (.lst us)∧a∈S∧us.length=ds.length ∧
  ∀ {N1:Addr→Prop}{H1:Hp}{w:V}{e:PyData}{Se:List Addr},(∀ b o,H b=some o→N1 b→N b)→Same H H1→N1 a→OT K N1 (upd H1 a (.lst (us++[w]))) w e Se→∃ S',S'.Perm (S++Se)∧OT K N1 (upd H1 a (.lst (us++[w]))) v (pSet (.list (ds++[e])) p d) S'
 | [],v,d,S,ds,o,nd,h=>by
  have h:d=.list ds:=by simpa [pAt] using h
  subst h
  cases o with
  | @lst a us _ Sq hH q =>
   refine ⟨a,us,.nil,hH,List.mem_cons_self,q.len,fun {N1 H1 w e Se} m sm na oe=>?_⟩
   obtain ⟨n1,n2⟩:=List.nodup_cons.mp nd
   have kq:OTs K N1 (upd H1 a (.lst (us++[w]))) us ds Sq:=(q.to m).keep ((Keep.same sm).trans (Keep.own na)) fun b hb=>by
    obtain ⟨xs,z⟩:=q.lives b hb
    have nb:b≠a:=fun z=>n1 (z▸hb)
    rw [upd_ne nb,sm _ _ z,z]
   exact ⟨a::(Sq++(Se++[])),by simp,.lst upd_same (kq.app (.cons oe .nil))⟩
 | i :: p,v,d,S,ds,o,nd,h=>by
  cases o with
  | @lst b xs cs Sq hH q =>
   obtain ⟨c,ec,hc⟩:=Option.bind_eq_some_iff.mp (show (cs[i]?).bind (pAt p)=some (.list ds) from h)
   obtain ⟨x,S1,Sx,S2,e1,e2,ox,f⟩:=q.split ec
   obtain ⟨n1,n2⟩:=List.nodup_cons.mp nd
   rw [e2] at n1 n2
   obtain ⟨m1,m2,m3⟩:=List.nodup_append.mp n2
   obtain ⟨m4,m5,m6⟩:=List.nodup_append.mp m2
   obtain ⟨a,us,r,ha,ma,hl,g⟩:=OT.path p ox m4 hc
   have nb:b≠a:=fun z=>n1 (List.mem_append_right _ (List.mem_append_left _ (z▸ma)))
   refine ⟨a,us,.cons (.inl (SqL.of hH)) e1 r,ha,?_,hl,fun {N1 H1 w e Se} m sm na oe=>?_⟩
   ·rw [e2]
    exact List.mem_cons_of_mem _ (List.mem_append_right _ (List.mem_append_left _ ma))
   ·obtain ⟨Sx',pm,ox'⟩:=g m sm na oe
    have lv:∀ b∈S1++(Sx++S2),b≠a→upd H1 a (.lst (us++[w])) b=H b:=fun b hb nb=>by
     obtain ⟨xs,z⟩:=q.lives b (by rw[e2];exact hb)
     rw [upd_ne nb,sm _ _ z,z]
    have q':=f (H':=upd H1 a (.lst (us++[w]))) m ((Keep.same sm).trans (Keep.own na)) (fun b hb=>lv b (List.mem_append_left _ hb) fun z=>m3 b hb a (List.mem_append_left _ ma) z) (fun b hb=>lv b (List.mem_append_right _ (List.mem_append_right _ hb)) fun z=>m6 a ma b hb z.symm) ox'
    refine ⟨b::(S1++(Sx'++S2)),?_,?_⟩
    ·rw [e2,List.cons_append]
     refine List.Perm.cons _ ?_
     rw [List.append_assoc,List.append_assoc]
     refine List.Perm.append_left _ ?_
     refine (List.Perm.append_right S2 pm).trans ?_
     rw [List.append_assoc]
     exact List.Perm.append_left _ List.perm_append_comm
    ·show OT K N1 _ (.ref b) (.list (match cs[i]? with|some c=>cs.set i (pSet _ p c)|none=>cs)) _
     rw [ec]
     exact .lst (by rw[upd_ne nb];exact sm _ _ hH) q'
  | @tup b xs cs Sq hT q =>
   obtain ⟨c,ec,hc⟩:=Option.bind_eq_some_iff.mp (show (cs[i]?).bind (pAt p)=some (.list ds) from h)
   obtain ⟨x,S1,Sx,S2,e1,e2,ox,f⟩:=q.split ec
   have n2:=nd
   rw [e2] at n2
   obtain ⟨m1,m2,m3⟩:=List.nodup_append.mp n2
   obtain ⟨m4,m5,m6⟩:=List.nodup_append.mp m2
   obtain ⟨a,us,r,ha,ma,hl,g⟩:=OT.path p ox m4 hc
   refine ⟨a,us,.cons (.inr hT.sq) e1 r,ha,?_,hl,fun {N1 H1 w e Se} m sm na oe=>?_⟩
   ·rw [e2]
    exact List.mem_append_right _ (List.mem_append_left _ ma)
   ·obtain ⟨Sx',pm,ox'⟩:=g m sm na oe
    have lv:∀ b∈S1++(Sx++S2),b≠a→upd H1 a (.lst (us++[w])) b=H b:=fun b hb nb=>by
     obtain ⟨xs,z⟩:=q.lives b (by rw[e2];exact hb)
     rw [upd_ne nb,sm _ _ z,z]
    have q':=f (H':=upd H1 a (.lst (us++[w]))) m ((Keep.same sm).trans (Keep.own na)) (fun b hb=>lv b (List.mem_append_left _ hb) fun z=>m3 b hb a (List.mem_append_left _ ma) z) (fun b hb=>lv b (List.mem_append_right _ (List.mem_append_right _ hb)) fun z=>m6 a ma b hb z.symm) ox'
    refine ⟨S1++(Sx'++S2),?_,?_⟩
    ·rw [e2]
     rw [List.append_assoc,List.append_assoc]
     refine List.Perm.append_left _ ?_
     refine (List.Perm.append_right S2 pm).trans ?_
     rw [List.append_assoc]
     exact List.Perm.append_left _ List.perm_append_comm
    ·show OT K N1 _ (.ref b) (.tuple (match cs[i]? with|some c=>cs.set i (pSet _ p c)|none=>cs)) _
     rw [ec]
     exact .tup ((hT.to m).keep ((Keep.same sm).trans (Keep.own na))) q'
  | _=>simp[pAt] at h
end
end L2
namespace L2
open PySem PySem.Spec PyProof.Rows
section
variable {K:PySem.W.Frag}{M P N:Addr→Prop}{H0 H H':Hp}{E T A B:List Ent}{σ0 σ:St}{env:List Sl}{ts tt kp:List (V×Sl)}{v:V}{s:Sl}{d:PyData}
theorem RelE.appAtU {U:List Ent}{Hh:Hp}{S:List Addr}{p:List Nat}{ds:List PyData} (hh:RelE K M P H0 (A++(some v,.tr S d)::(B++U)) Hh) (hp:pAt p d=some (.list ds)):∃ a us,Reach K Hh v p (.ref a)∧Hh a=some (.lst us)∧us.length=ds.length ∧
  ∀ {T:List Ent}{H:Hp}{w:V}{e:PyData},Same Hh H→(∀ a∈oas T,Hh a=none∨a∈oas U)→RelE K M P H0 (A++(some v,.tr S d)::(B++T)) H→OT K (Nw M (A++(some v,.tr S d)::(B++T))) H w e (oas T)→(∀ a∈oas T,H0 a=none)→∃ S',RelE K M P H0 (A++(some v,.tr S' (pSet (.list (ds++[e])) p d))::B) (upd H a (.lst (us++[w]))):=by
 obtain ⟨v',ev,ot,h0⟩:=hh.tr _ _ _ (List.mem_append_right _ List.mem_cons_self)
 cases ev
 have ndh:=hh.nd
 have oeh:oas (A++(some v,Sl.tr S d)::(B++U))=oas A++(S++(oas B++oas U)):=by rw[oas_app,oas_cons,own1_tr,oas_app]
 rw [oeh] at ndh
 obtain ⟨a,us,r,ha,ma,hl,g⟩:=OT.path p ot (List.nodup_append.mp (List.nodup_append.mp ndh).2.1).1 hp
 refine ⟨a,us,r,ha,hl,fun {T H w e} sm nT h oe' hT=>?_⟩
 have oe:oas (A++(some v,Sl.tr S d)::(B++T))=oas A++(S++(oas B++oas T)):=by rw[oas_app,oas_cons,own1_tr,oas_app]
 have nd:=h.nd
 rw [oe] at nd
 obtain ⟨n1,n2,n3⟩:=List.nodup_append.mp nd
 obtain ⟨n4,n5,n6⟩:=List.nodup_append.mp n2
 obtain ⟨n7,n8,n9⟩:=List.nodup_append.mp n5
 have na:Nw M (A++(some v,Sl.tr S d)::(B++T)) a:=.inr (by rw[oe];exact List.mem_append_right _ (List.mem_append_left _ ma))
 have mm:∀ b o,Hh b=some o→Nw M (A++(some v,Sl.tr S d)::(B++T)) b→Nw M (A++(some v,Sl.tr S d)::(B++U)) b:=fun b o eb z=>by
  rcases z with z|z
  ·exact .inl z
  ·rw [oe] at z
   refine .inr ?_
   rw [oeh]
   rcases List.mem_append.mp z with z|z
   ·exact List.mem_append_left _ z
   ·rcases List.mem_append.mp z with z|z
    ·exact List.mem_append_right _ (List.mem_append_left _ z)
    ·rcases List.mem_append.mp z with z|z
     ·exact List.mem_append_right _ (List.mem_append_right _ (List.mem_append_left _ z))
     ·rcases nT b z with nb|nb
      ·rw [nb] at eb;cases eb
      ·exact List.mem_append_right _ (List.mem_append_right _ (List.mem_append_right _ nb))
 have kN:Keep (Nw M (A++(some v,Sl.tr S d)::(B++T))) H (upd H a (.lst (us++[w]))):=Keep.own na
 have ow':=oe'.keep kN fun b hb=>upd_ne fun z=>n6 a ma b (List.mem_append_right _ hb) z.symm
 obtain ⟨S',pm,ot'⟩:=g mm sm na ow'
 refine ⟨S',?_⟩
 have oe2:oas (A++(some v,Sl.tr S' (pSet (.list (ds++[e])) p d))::B)=oas A++(S'++oas B):=by rw[oas_app,oas_cons,own1_tr]
 have pm2:(oas A++(S'++oas B)).Perm (oas A++(S++(oas B++oas T))):=by
  refine List.Perm.append_left _ ((List.Perm.append_right _ pm).trans ?_)
  rw [List.append_assoc]
  exact List.Perm.append_left _ List.perm_append_comm
 have ne:Nw M (A++(some v,Sl.tr S' (pSet (.list (ds++[e])) p d))::B)=Nw M (A++(some v,Sl.tr S d)::(B++T)):=by
  funext b
  apply propext
  unfold Nw
  rw [oe,oe2,pm2.mem_iff]
 have back:∀ x t,(x,t)∈A∨(x,t)∈B→(x,t)∈A++(some v,Sl.tr S d)::(B++T):=fun x t m=>by
  rcases m with m|m
  ·exact List.mem_append_left _ m
  ·exact List.mem_append_right _ (List.mem_cons_of_mem _ (List.mem_append_left _ m))
 have old:∀ x t,(x,t)∈A++(some v,Sl.tr S' (pSet (.list (ds++[e])) p d))::B→(x,t)=(some v,Sl.tr S' (pSet (.list (ds++[e])) p d))∨((x,t)∈A∨(x,t)∈B):=fun x t m=>by
  rcases List.mem_append.mp m with m|m
  ·exact .inr (.inl m)
  ·rcases List.mem_cons.mp m with m|m
   ·exact .inl m
   ·exact .inr (.inr m)
 have other:∀ x t b,(x,t)∈A∨(x,t)∈B→b∈own1 (x,t)→b≠a:=fun x t b m eo z=>by
  subst z
  rcases m with m|m
  ·exact n3 b (mem_oas.mpr ⟨_,m,eo⟩) b (List.mem_append_left _ ma) rfl
  ·exact n6 b ma b (List.mem_append_left _ (mem_oas.mpr ⟨_,m,eo⟩)) rfl
 refine ⟨h.keep.put (h0 a ma),fun b q z=>?_,h.mt,h.pm,fun x d' m=>?_,fun x d' m=>?_,fun x d' m=>?_,fun x S2 d' m=>?_,?_⟩
 ·by_cases hb:b=a
  ·subst hb;rw[upd_same] at z;cases z
  ·rw [upd_ne hb] at z;exact h.live b q z
 ·rw [ne]
  rcases old _ _ m with m|m
  ·cases m
  ·obtain ⟨w',e1,dn⟩:=h.fr x d' (back _ _ m)
   exact ⟨w',e1,dn.keep kN⟩
 ·rw [ne]
  rcases old _ _ m with m|m
  ·cases m
  ·obtain ⟨b,us2,e1,e2,dn,r2⟩:=h.ow x d' (back _ _ m)
   subst e1
   exact ⟨b,us2,rfl,by rw[upd_ne (other _ _ b m (List.mem_singleton.mpr rfl))];exact e2,dn.keep kN,r2⟩
 ·rw [ne]
  rcases old _ _ m with m|m
  ·cases m
  ·obtain ⟨b,us2,e1,e2,dn,r2⟩:=h.io x d' (back _ _ m)
   subst e1
   exact ⟨b,us2,rfl,by rw[upd_ne (other _ _ b m (List.mem_singleton.mpr rfl))];exact e2,dn.keep kN,r2⟩
 ·rw [ne]
  rcases old _ _ m with m|m
  ·cases m
   refine ⟨v,rfl,ot',fun b hb=>?_⟩
   rcases List.mem_append.mp (pm.mem_iff.mp hb) with z|z
   ·exact h0 b z
   ·exact hT b z
  ·obtain ⟨w',e1,dn,r2⟩:=h.tr x S2 d' (back _ _ m)
   subst e1
   exact ⟨w',rfl,dn.keep kN fun b hb=>upd_ne (other _ _ b m (by rw[own1_tr];exact hb)),r2⟩
 ·rw [oe2]
  exact pm2.nodup_iff.mpr nd
end
end L2
namespace L2
open PySem PySem.Spec PyProof.Rows
section
variable {X:Cx}{K:PySem.W.Frag}{pos:Pos}{M P N:Addr→Prop}{H0 H H':Hp}{σ0 σ:St}{env:List Sl}{ts:List (V×Sl)}
theorem Rel.setTr {i:Nat}{S S':List Addr}{d d':PyData}{v:V}{A B:List Ent} (h:Rel K M P H0 σ0 σ env ts H) (e:env[i]? = some (.tr S d)) (q2:ents σ (env.set i (.tr S' d')) ts=A++(some v,.tr S' d')::B) (re:RelE K M P H0 (A++(some v,.tr S' d')::B) H'):Rel K M P H0 σ0 σ (env.set i (.tr S' d')) ts H':=by
 refine ⟨by rw[q2];exact re,by simp[h.len],h.vw,fun j ds' e'=>?_⟩
 by_cases hj:i=j
 ·subst hj
  have hi:i<env.length:=(List.getElem?_eq_some_iff.mp e).1
  rw [List.getElem?_set_self hi] at e'
  cases e'
 ·rw [List.getElem?_set_ne hj] at e'
  exact h.ios j ds' e'
end
end L2
namespace L2
open PySem PySem.Spec PyProof.Rows
section
variable {X:Cx}{K:PySem.W.Frag}{pos:Pos}{M P N:Addr→Prop}{H0 H H':Hp}{σ0 σ:St}{env:List Sl}{ts:List (V×Sl)}
end
end L2
namespace L2
open PySem PySem.Spec PyProof.Rows
section
variable {K:PySem.W.Frag}{H:Hp}
theorem DVs.item:∀ {vs:List V}{ds:List PyData}{i:Nat}{c:PyData},DVs K H vs ds→ds[i]? = some c→∃ x,vs[i]? = some x∧DV K H x c
 | _,_,_,_,.nil,h=>by simp at h
 | _,_,0,_,.cons h _,e=>by simp at e;subst e;exact⟨_,rfl,h⟩
 | _,_,i+1,c,.cons _ q,e=>by
  obtain ⟨x,h1,h2⟩:=DVs.item (i:=i) (c:=c) q (by simpa using e)
  exact ⟨x,by simpa using h1,h2⟩
theorem DV.path:∀ (p:List Nat) {v:V}{d c:PyData},DV K H v d→pAt p d=some c→∃ u,Reach K H v p u∧DV K H u c
 | [],v,d,c,h,e=>by
  have e:d=c:=by simpa [pAt] using e
  subst e
  exact ⟨v,.nil,h⟩
 | i :: p,v,d,c,h,e=>by
  cases h with
  | lst sq q =>
   obtain ⟨c1,e1,e2⟩:=Option.bind_eq_some_iff.mp (show (_:Option PyData).bind (pAt p)=some c from e)
   obtain ⟨x,hx,dx⟩:=q.item e1
   obtain ⟨u,r,du⟩:=DV.path p dx e2
   exact ⟨u,.cons (.inl sq) hx r,du⟩
  | tup sq q =>
   obtain ⟨c1,e1,e2⟩:=Option.bind_eq_some_iff.mp (show (_:Option PyData).bind (pAt p)=some c from e)
   obtain ⟨x,hx,dx⟩:=q.item e1
   obtain ⟨u,r,du⟩:=DV.path p dx e2
   exact ⟨u,.cons (.inr sq) hx r,du⟩
  | _=>simp[pAt] at e
end
section
variable {X:Cx}{K:PySem.W.Frag}{pos:Pos}{M P N:Addr→Prop}{H0 H H':Hp}{σ0 σ:St}{env:List Sl}{ts:List (V×Sl)}
end
end L2
namespace L2
open PySem PySem.Spec PyProof.Rows
section
variable {K:PySem.W.Frag}{M P N:Addr→Prop}{H0 H H':Hp}{E T A B:List Ent}{σ0 σ:St}{env:List Sl}{ts tt kp:List (V×Sl)}{v:V}{s:Sl}{d:PyData}
end
end L2
namespace L2
open PySem PySem.Spec PyProof.Rows
section
variable {K:PySem.W.Frag}{M P N:Addr→Prop}{H0 H H':Hp}{σ0 σ:St}{env:List Sl}{ts tt kp:List (V×Sl)}{v:V}{s:Sl}{d:PyData}
end
section
variable {X:Cx}{K:PySem.W.Frag}{pos:Pos}
end
end L2
namespace L2
open PySem PySem.Spec PyProof.Rows
theorem range_getD {α:Type} (l:List α) (z:α):(List.range l.length).map (fun i=>l.getD i z)=l:=by
 refine List.ext_getElem (by simp) fun i h1 h2=>?_
 simp [List.getD_eq_getElem?_getD,List.getElem?_eq_getElem h2]
theorem range_mapD {α β:Type} (l:List α) (z:α) (g:α→β):(List.range l.length).map (fun i=>g (l.getD i z))=l.map g:=by
 conv=>rhs;rw[←range_getD l z,List.map_map]
 rfl
theorem range_filterD {α β:Type} (l:List α) (z:α) (p:α→Bool) (g:α→β):((List.range l.length).filter fun i=>p (l.getD i z)).map (fun i=>g (l.getD i z))=(l.filter p).map g:=by
 conv=>rhs;rw[←range_getD l z,List.filter_map,List.map_map]
 rfl
noncomputable abbrev lr (rs:List (List Int)):List PyData:=rs.map fun r=>.list (li r)
theorem lr_get {rs:List (List Int)}{i:Nat}{h:i<(lr rs).length}:(lr rs)[i]=.list (li (rs.getD i [])):=by
 have h':i<rs.length:=by simpa using h
 rw [List.getElem_map,List.getD_eq_getElem?_getD,List.getElem?_eq_getElem h']
 rfl
theorem Sh.lr (n:Nat) (rs:List (List Int)):Sh (n+2) (.list (lr rs)):=Sh.list fun x hx=>by
 obtain ⟨r,_,rfl⟩:=List.mem_map.mp hx
 exact Sh.ints n r
theorem Pl.lr (n:Nat) {rs:List (List Int)} (h1:rs.length≤1000000) (h2:∀ r∈rs,r.length≤1000000):Pl (n+2) (.list (lr rs)):=Pl.list (by rw[List.length_map];exact h1) fun x hx=>by
 obtain ⟨r,hr,rfl⟩:=List.mem_map.mp hx
 exact Pl.ints n (h2 r hr)
end L2
namespace L2
open PySem PySem.Spec PyProof.Rows
section
variable {X:Cx}{K:PySem.W.Frag}{pos:Pos}{es:List Expr}{tl:DA}{e:Expr}{ta:DE}{M P N:Addr→Prop}{H0 H H':Hp}{σ0 σ:St}{env:List Sl}{ts:List (V×Sl)}
noncomputable def dLstT (t:DA):DE:=fun env R=>t env fun ss env1=>∃ ds,treesD env1 ss=some ds∧ss.length≤sizeLine∧∀ S,R (.tr S (.list ds)) env1
theorem q_lstT (h:PA X es (upA K tl)):PE X (.List es pos) (up K (dLstT tl)):=(pe_lst h).imp fun σ H Q h=>by
 obtain ⟨M,P,H0,σ0,env,ts,R,rel,ht,hq⟩:=h
 refine ⟨M,P,H0,σ0,env,ts,_,rel,ht,fun ss env1 vs H1 h1 hl rel1=>?_⟩
 obtain ⟨ds,e,hz,hR⟩:=h1
 obtain ⟨q,h0⟩:=rel1.trees hl (fun p hp=>List.mem_append_right _ hp) e
 exact ⟨by omega,fun p hp=>hq _ _ _ _ (hR _) (rel1.resLstT hp q h0)⟩
noncomputable def dAppT (i:Nat) (te:DE):DE:=fun env R=>(∃ S ds,env[i]? = some (.tr S (.list ds)))∧te env fun s env1=>∃ S ds s' d,env1[i]? = some (.tr S (.list ds))∧stoOf env1 s=some s'∧treeD [] s'=some d∧ds.length<sizeLine∧∀ S',R (.fr .none) (env1.set i (.tr S' (.list (ds++[d]))))
theorem q_appT (i:Nat) {y:Str}{apos cpos npos:Pos} (hK:X.K=K) (hN:X.N[i]? = some y) (ha:PE X e (up K ta))
  (hv:Vis X.env.scope y:=by first|exact Or.inl rfl|exact Or.inr (Or.inl rfl)|exact Or.inr (Or.inr rfl)) (hd:(y==("__debug__" : Str))=false:=by decide)
  (hcd:(y==("__classdict__" : Str))=false:=by decide)
  (hs0:starEach [e] X.env=[(false,eval e X.env)]:=by rfl)
  (hbase:attributeBase (.Name y npos) "append" X.env (eval (.Name y npos) X.env)=eval (.Name y npos) X.env:=by rfl)
  (hfew:((backTo cpos (starEach [e] X.env)).all (fun x=>!x.1)&&(backToKw cpos (keywordEach [] X.env)).all (fun x=>x.1.isSome)&&decide ([e].length+([]:List Keyword).length+(if ([]:List Keyword).isEmpty then 0 else 1)<30))=true:=by rfl)
  (hline:(apos.endLine==cpos.line)=true:=by rfl) (hplain:(backTo cpos (starEach [] X.env)).any (·.1)=false:=by rfl) :
  PE X (.Call (.Attribute (.Name y npos) "append" apos) [e] [] cpos) (up K (dAppT i ta)) :=
 (kBm (K:=K) hK PySem.F.plainAttrs_list PySem.F.slot_list_append PySem.F.type_list_append mt_append (pe_var hN hv hd hcd) (pa_cons ha pa_nil hs0) hbase hfew hline hs0 hplain).imp fun σ H Q h=>by
 obtain ⟨M,P,H0,σ0,env,ts,R,rel,⟨⟨S0,ds0,e0⟩,ht⟩,hq⟩:=h
 obtain ⟨x,ex,m0⟩:=rel.slot e0
 obtain ⟨v,ev,ot0,_⟩:=rel.e.tr _ _ _ m0
 subst ev
 cases ot0 with
 | @lst a vs _ Sq hH qH =>
  refine ⟨.ref a,ex,.inl ⟨rfl,vs,SqL.of hH⟩,M,P,H0,σ0,env,ts,_,rel,ht,fun s1 env1 v1 H1 h1 rel1=>?_⟩
  obtain ⟨S,ds,s',d,e1,es,td,hz,hR⟩:=h1
  obtain ⟨rel2,ir⟩:=rel1.unVw es
  obtain ⟨x',A,B,ex',q1,q2⟩:=rel1.drop.split e1
  rw [ex] at ex'
  cases ex'
  have r2:=rel2.e
  have eA:ents σ env1 (ts++[(v1,s')])=A++(some (.ref a),Sl.tr S (.list ds))::(B++[(some v1,s')]):=by
   rw [ents_app,q1]
   simp [tmp]
  obtain ⟨ot,hh0⟩:=rel2.tree (v:=v1) (s:=s') (List.mem_append_right _ List.mem_cons_self) ((treeD_res (env':=[]) ir).trans td)
  have oe:oas [((some v1,s'):Ent)]=own1 (some v1,s'):=by
   rw [oas_cons]
   simp [oas]
  rw [eA] at r2 ot
  rw [←oe] at ot hh0
  obtain ⟨b,us,rc,ha',hl,g⟩:=RelE.appAtU (p:=[]) (ds:=ds) r2 rfl
  cases rc
  obtain ⟨S',re⟩:=g (Same.refl _) (fun c hc=>.inr hc) r2 ot hh0
  refine ⟨a,us,v1,rfl,rfl,ha',by rw[hl];exact hz,?_⟩
  exact hq _ _ _ _ (hR S') ((rel1.drop.setTr e1 (q2 _) re).addFr .non)
end
section
variable {K:PySem.W.Frag}{N:Addr→Prop}{H:Hp}
end
section
variable {K:PySem.W.Frag}{M P N:Addr→Prop}{H0 H H':Hp}{A B:List Ent}{σ0 σ:St}{env:List Sl}{ts:List (V×Sl)}{v v':V}{d d':PyData}{S S':List Addr}{y:Option V}
end
section
variable {X:Cx}{K:PySem.W.Frag}{pos:Pos}{M P N:Addr→Prop}{H0 H H':Hp}{σ0 σ:St}{env:List Sl}{ts:List (V×Sl)}
end
end L2
namespace L2
open PySem PySem.Spec PyProof.Rows
noncomputable def movS:Sl→Bool
 | .ow _=>true
 | .tr _ _=>true
 | .fr _=>true
 | _=>false
section
variable {X:Cx}{K:PySem.W.Frag}{pos:Pos}{M P N:Addr→Prop}{H0 H H':Hp}{σ0 σ:St}{env:List Sl}{ts:List (V×Sl)}{v:V}
theorem Rel.move {i:Nat}{s:Sl} (h:Rel K M P H0 σ0 σ env ts H) (e:env[i]? = some s) (hs:movS s=true):∃ v,σ[i]? = some (some v)∧Rel K M P H0 σ0 σ (env.set i .un) (ts++[(v,s)]) H:=by
 obtain ⟨x,A,B,e1,q1,q2⟩:=h.split e
 have hE:=h.e
 rw [q1] at hE
 obtain ⟨v,ev⟩:∃ v,x=some v:=by
  cases s with
  | fr d=>obtain⟨v,ev,_⟩:=hE.fr _ _ (List.mem_append_right _ List.mem_cons_self);exact⟨v,ev⟩
  | ow ds=>obtain⟨a,vs,ev,_⟩:=hE.ow _ _ (List.mem_append_right _ List.mem_cons_self);exact⟨_,ev⟩
  | tr S d=>obtain⟨v,ev,_⟩:=hE.tr _ _ _ (List.mem_append_right _ List.mem_cons_self);exact⟨v,ev⟩
  | _=>cases hs
 subst ev
 refine ⟨v,e1,?_⟩
 have en:ents σ (env.set i .un) (ts++[(v,s)])=(A++(some v,Sl.un)::B)++[(some v,s)]:=by rw[ents_app,q2];rfl
 have oe:oas ((A++(some v,Sl.un)::B)++[(some v,s)])=oas A++(oas B++own1 (some v,s)):=by
  rw [oas_app,oas_app,oas_cons,own1_un,oas_cons]
  simp [oas]
 refine ⟨?_,by simp[h.len],fun w j m=>?_,fun j l' e'=>?_⟩
 ·rw [en]
  refine hE.sub (fun x t m=>?_) ?_
  ·rcases List.mem_append.mp m with m|m
   ·rcases List.mem_append.mp m with m|m
    ·exact .inl (List.mem_append_left _ m)
    ·rcases List.mem_cons.mp m with m|m
     ·cases m;exact .inr (.inl rfl)
     ·exact .inl (List.mem_append_right _ (List.mem_cons_of_mem _ m))
   ·rw [List.mem_singleton] at m
    cases m
    exact .inl (List.mem_append_right _ List.mem_cons_self)
  ·have nd:=hE.nd
   rw [oas_app,oas_cons] at nd
   rw [oe]
   exact (List.Perm.append_left _ List.perm_append_comm).nodup_iff.mpr nd
 ·rcases List.mem_append.mp m with m|m
  ·exact h.vw w j m
  ·rw [List.mem_singleton] at m
   cases m
   cases hs
 ·by_cases hj:i=j
  ·subst hj
   rw [List.getElem?_set_self (List.getElem?_eq_some_iff.mp e).1] at e'
   cases e'
  ·rw [List.getElem?_set_ne hj] at e'
   exact h.ios j l' e'
end
end L2
namespace L2
open PySem Builtin Builtin.Str StrLaws PySem.NumText PySem.W
noncomputable def num (n:Int):Str:=Str.ofString (toString n)
end L2
namespace L2
open PySem Builtin Builtin.Str StrLaws
end L2
namespace L2
open PySem PySem.Spec PyProof.Rows
section
variable {X:Cx}{K:PySem.W.Frag}
end
section
variable {X:Cx}{K:PySem.W.Frag}{pos:Pos}{e o:Expr}{ta to:DE}{M P N:Addr→Prop}{H0 H H':Hp}{σ0 σ:St}{env:List Sl}{ts:List (V×Sl)}
end
end L2
namespace L2
open PySem PySem.Spec PyProof.Rows
section
variable {X:Cx}{K:PySem.W.Frag}{pos:Pos}{M P N:Addr→Prop}{H0 H H':Hp}{σ0 σ:St}{env:List Sl}{ts:List (V×Sl)}
mutual
theorem DV.same (k:Same H H'):∀ {v:V}{d:PyData},DV K H v d→DV K H' v d
 | _,_,.non=>.non
 | _,_,.bl b=>.bl b
 | _,_,.int i=>.int i
 | _,_,.lst h q=>.lst (h.keep k) (DVs.same k q)
 | _,_,.tup h q=>.tup (h.keep k) (DVs.same k q)
 | _,_,.dct h q r e=>.dct (k _ _ h) (DVs.same k q) (DVs.same k r) e
 | _,_,.fz h=>.fz (DV.same k h)
theorem DVs.same (k:Same H H'):∀ {v:List V}{d:List PyData},DVs K H v d→DVs K H' v d
 | _,_,.nil=>.nil
 | _,_,.cons h q=>.cons (DV.same k h) (DVs.same k q)
end
theorem DVs.drop:∀ {vs:List V}{ds:List PyData} (n:Nat),DVs K H vs ds→DVs K H (vs.drop n) (ds.drop n)
 | _,_,0,q=>q
 | _,_,_+1,.nil=>.nil
 | _,_,n+1,.cons _ q=>DVs.drop n q
end
end L2
namespace L2
open PySem PySem.Spec PyProof.Rows
section
variable {X:Cx}{K:PySem.W.Frag}{pos:Pos}{M P N:Addr→Prop}{H0 H H':Hp}{σ0 σ:St}{env:List Sl}{ts:List (V×Sl)}
theorem RelE.grow {A B T:List Ent}{v:V}{S S':List Addr}{d d':PyData}{a:Addr}{us:List V} (h:RelE K M P H0 (A++(some v,.tr S d)::(B++T)) H) (ma:a∈S) (pm:S'.Perm (S++oas T)) (hT:∀ a∈oas T,H0 a=none)
  (ot':OT K (Nw M (A++(some v,.tr S d)::(B++T))) (upd H a (.lst us)) v d' S'):RelE K M P H0 (A++(some v,.tr S' d')::B) (upd H a (.lst us)):=by
 obtain ⟨v',ev,ot,h0⟩:=h.tr _ _ _ (List.mem_append_right _ List.mem_cons_self)
 cases ev
 have oe:oas (A++(some v,Sl.tr S d)::(B++T))=oas A++(S++(oas B++oas T)):=by rw[oas_app,oas_cons,own1_tr,oas_app]
 have nd:=h.nd
 rw [oe] at nd
 obtain ⟨n1,n2,n3⟩:=List.nodup_append.mp nd
 obtain ⟨n4,n5,n6⟩:=List.nodup_append.mp n2
 obtain ⟨n7,n8,n9⟩:=List.nodup_append.mp n5
 have na:Nw M (A++(some v,Sl.tr S d)::(B++T)) a:=.inr (by rw[oe];exact List.mem_append_right _ (List.mem_append_left _ ma))
 have kN:Keep (Nw M (A++(some v,Sl.tr S d)::(B++T))) H (upd H a (.lst us)):=Keep.own na
 have oe2:oas (A++(some v,Sl.tr S' d')::B)=oas A++(S'++oas B):=by rw[oas_app,oas_cons,own1_tr]
 have pm2:(oas A++(S'++oas B)).Perm (oas A++(S++(oas B++oas T))):=by
  refine List.Perm.append_left _ ((List.Perm.append_right _ pm).trans ?_)
  rw [List.append_assoc]
  exact List.Perm.append_left _ List.perm_append_comm
 have ne:Nw M (A++(some v,Sl.tr S' d')::B)=Nw M (A++(some v,Sl.tr S d)::(B++T)):=by
  funext b
  apply propext
  unfold Nw
  rw [oe,oe2,pm2.mem_iff]
 have back:∀ x t,(x,t)∈A∨(x,t)∈B→(x,t)∈A++(some v,Sl.tr S d)::(B++T):=fun x t m=>by
  rcases m with m|m
  ·exact List.mem_append_left _ m
  ·exact List.mem_append_right _ (List.mem_cons_of_mem _ (List.mem_append_left _ m))
 have old:∀ x t,(x,t)∈A++(some v,Sl.tr S' d')::B→(x,t)=(some v,Sl.tr S' d')∨((x,t)∈A∨(x,t)∈B):=fun x t m=>by
  rcases List.mem_append.mp m with m|m
  ·exact .inr (.inl m)
  ·rcases List.mem_cons.mp m with m|m
   ·exact .inl m
   ·exact .inr (.inr m)
 have other:∀ x t b,(x,t)∈A∨(x,t)∈B→b∈own1 (x,t)→b≠a:=fun x t b m eo z=>by
  subst z
  rcases m with m|m
  ·exact n3 b (mem_oas.mpr ⟨_,m,eo⟩) b (List.mem_append_left _ ma) rfl
  ·exact n6 b ma b (List.mem_append_left _ (mem_oas.mpr ⟨_,m,eo⟩)) rfl
 refine ⟨h.keep.put (h0 a ma),fun b q z=>?_,h.mt,h.pm,fun x d' m=>?_,fun x d' m=>?_,fun x d' m=>?_,fun x S2 d' m=>?_,?_⟩
 ·by_cases hb:b=a
  ·subst hb;rw[upd_same] at z;cases z
  ·rw [upd_ne hb] at z;exact h.live b q z
 ·rw [ne]
  rcases old _ _ m with m|m
  ·cases m
  ·obtain ⟨w',e1,dn⟩:=h.fr x d' (back _ _ m)
   exact ⟨w',e1,dn.keep kN⟩
 ·rw [ne]
  rcases old _ _ m with m|m
  ·cases m
  ·obtain ⟨b,us2,e1,e2,dn,r2⟩:=h.ow x d' (back _ _ m)
   subst e1
   exact ⟨b,us2,rfl,by rw[upd_ne (other _ _ b m (List.mem_singleton.mpr rfl))];exact e2,dn.keep kN,r2⟩
 ·rw [ne]
  rcases old _ _ m with m|m
  ·cases m
  ·obtain ⟨b,us2,e1,e2,dn,r2⟩:=h.io x d' (back _ _ m)
   subst e1
   exact ⟨b,us2,rfl,by rw[upd_ne (other _ _ b m (List.mem_singleton.mpr rfl))];exact e2,dn.keep kN,r2⟩
 ·rw [ne]
  rcases old _ _ m with m|m
  ·cases m
   refine ⟨v,rfl,ot',fun b hb=>?_⟩
   rcases List.mem_append.mp (pm.mem_iff.mp hb) with z|z
   ·exact h0 b z
   ·exact hT b z
  ·obtain ⟨w',e1,dn,r2⟩:=h.tr x S2 d' (back _ _ m)
   subst e1
   exact ⟨w',rfl,dn.keep kN fun b hb=>upd_ne (other _ _ b m (by rw[own1_tr];exact hb)),r2⟩
 ·rw [oe2]
  exact pm2.nodup_iff.mpr nd
end
end L2
namespace L2
open PySem PySem.Spec PyProof.Rows
section
variable {X:Cx}{K:PySem.W.Frag}{pos:Pos}{N':List Str}{ix:List (Option Nat)}{it:DI}{g:DG}{tt:DT}{te:DE}{tg iter elt:Expr}{ifs:List Expr}
end
end L2
namespace L2
open PySem PySem.Spec PyProof.Rows
section
variable {prog:Program}{w:World}{A:Around}{E:Value→Shared→Prop}{s:Shared}
end
section
variable {X:Cx}{K:PySem.W.Frag}{pos:Pos}{es:List Expr}
noncomputable def dgLst (n:Nat) (gs:DGs):DG:=fun d env R=>∃ ds,d=.list ds∧ds.length=n∧gs ds env R
end
end L2
namespace L2
open PySem PySem.Spec PyProof.Rows
section
variable {X:Cx}{K:PySem.W.Frag}{pos:Pos}{N:Addr→Prop}{H:Hp}
end
end L2
namespace L2
open PySem PySem.Spec PyProof.Rows
section
variable {X:Cx}{K:PySem.W.Frag}{pos ip lp p':Pos}{c:Expr}{tc:DT}
noncomputable def dFz (i:Nat) (u:DS):DS:=fun DD env=>∃ ds,env[i]? = some (.ow ds)∧u DD (env.set i (.fr (.list ds)))
theorem qs_frz (i:Nat) {ss:List Stmt}{u:DS} (h:PSs X ss (upS K u)):PSs X ss (upS K (dFz i u)):=h.imp fun D σ H h=>by
 obtain ⟨M,P,H0,σ0,env,ts,DD,nv,rel,⟨ds,e,hu⟩,ok⟩:=h
 exact ⟨M,P,H0,σ0,_,ts,DD,nv,rel.frz e,hu,ok⟩
end
end L2
namespace L2
open PySem PySem.W PyProof.Rows
noncomputable def KAll {α:Type} (n:Nat) (P:α→Prop):KasT α→Prop
 | .ret a=>P a
 | .ask i j k=>i<n∧j<n∧∀ b,KAll n P (k b)
theorem KAll.bind {α β:Type}{n:Nat}{P:α→Prop}{R:β→Prop}{f:α→KasT β} (hf:∀ a,P a→KAll n R (f a)):∀ {t:KasT α},KAll n P t→KAll n R (t.bind f)
 | .ret a,h=>hf a h
 | .ask i j k,h=>⟨h.1,h.2.1,fun b=>KAll.bind hf (h.2.2 b)⟩
theorem KAll.mono {α:Type}{n:Nat}{P R:α→Prop} (hf:∀ a,P a→R a):∀ {t:KasT α},KAll n P t→KAll n R t
 | .ret a,h=>hf a h
 | .ask i j k,h=>⟨h.1,h.2.1,fun b=>KAll.mono hf (h.2.2 b)⟩
noncomputable def Pn (n:Nat) (p:Array Nat):Prop:=p.Perm (List.range n).toArray
theorem Pn.rev {n i j:Nat}{p:Array Nat} (h:Pn n p):Pn n (kas_rev p i j):=(mirror_perm _ _ _ _).trans h
theorem Pn.bub {n i j:Nat}{p:Array Nat} (h:Pn n p):Pn n (bubble p i j):=(bubble_perm _ _ _).trans h
theorem Pn.list {n:Nat}{p:Array Nat} (h:Pn n p):p.toList.Perm (List.range n):=by
 have:=Array.perm_iff_toList_perm.mp h
 simpa using this
theorem Pn.lt {n:Nat}{p:Array Nat} (h:Pn n p) (h1:1≤n) (k:Nat):p.getD k 0<n:=by
 by_cases hk:k<p.size
 ·have e:p.getD k 0=p[k]:=by simp[Array.getD,hk]
  rw [e]
  have m:p[k]∈p.toList:=by simp
  exact List.mem_range.mp (h.list.mem_iff.mp m)
 ·have e:p.getD k 0=0:=by simp[Array.getD,hk]
  omega
section
variable {n:Nat}{p:Array Nat} (h1:1≤n)
include h1
theorem asc_all (h:Pn n p):∀ (f k:Nat),KAll n (fun _=>True) (kas_asc p f k)
 | 0,k=>trivial
 | f+1,k=>⟨h.lt h1 _,h.lt h1 _,fun b=>by
  cases b with
  | true=>exact trivial
  | false=>exact asc_all h f (k+1)⟩
theorem desc_all:∀ (f:Nat) (p:Array Nat) (k q:Nat),Pn n p→KAll n (fun r=>Pn n r.1) (kas_desc f p k q)
 | 0,p,k,q,h=>h
 | f + 1,p,k,q,h=>⟨h.lt h1 _,h.lt h1 _,fun b=>by
  cases b with
  | true =>
   show KAll n _ (if q>0 then _ else _)
   split
   ·exact desc_all f _ _ _ h.rev
   ·exact desc_all f _ _ _ h
  | false =>
   refine ⟨h.lt h1 _,h.lt h1 _,fun d=>?_⟩
   cases d with
   | true=>exact h
   | false=>exact desc_all f _ _ _ h⟩
theorem tail3_all {k r:Nat} (h:Pn n p):KAll n (fun r=>Pn n r.2) (kas_tail3 k r p):=by
 unfold kas_tail3
 refine KAll.bind (P:=fun _=>True) (fun m _=>?_) (asc_all h1 h.rev _ _)
 exact (h.rev:Pn n (kas_rev p 0 k))
theorem descPart_all {k r:Nat} (h:Pn n p):KAll n (fun r=>Pn n r.2) (kas_descPart k r p):=(desc_all h1 _ _ _ _ h).bind fun a ha=>by
 show KAll n _ (if a.2.2>0 then _ else _)
 split
 ·exact tail3_all h1 (Pn.rev ha)
 ·exact tail3_all h1 ha
theorem count_all {r:Nat} (h:Pn n p):KAll n (fun r=>Pn n r.2) (kas_count r p):=(asc_all h1 h _ _).bind fun k _=>by
 show KAll n _ (if (k==r)=true then _ else _)
 split
 ·exact h
 ·split
  ·refine ⟨h.lt h1 _,h.lt h1 _,fun b=>?_⟩
   cases b with
   | true=>exact h
   | false=>exact descPart_all h1 h.rev
  ·exact descPart_all h1 h
theorem place_all (h:Pn n p) (k:Nat):∀ f l r,KAll n (fun _=>True) (kas_place p k f l r)
 | 0,l,r=>trivial
 | f + 1,l,r=>by
  show KAll n _ (if l≥r then _ else _)
  split
  ·exact trivial
  ·refine ⟨h.lt h1 _,h.lt h1 _,fun b=>?_⟩
   cases b with
   | true=>exact place_all h k f _ _
   | false=>exact place_all h k f _ _
theorem bin_all:∀ (f:Nat) (p:Array Nat) (k:Nat),Pn n p→KAll n (Pn n) (kas_bin f p k)
 | 0,p,k,h=>h
 | f+1,p,k,h=>(place_all h1 h _ _ _ _).bind fun l _=>bin_all f _ _ h.bub
theorem sort_all:KAll n (Pn n) (kas_sort n):=(count_all h1 (p:=(List.range n).toArray) (Array.Perm.refl _)).bind fun r hr=>by
 show KAll n _ (if r.1<n then _ else _)
 split
 ·exact bin_all h1 _ _ _ hr
 ·exact hr
end
theorem kas_all {α:Type}{n:Nat}{cmp:Nat→Nat→(Bool→Shared→Prop)→Shared→Prop}{P:α→Prop}{Q:α→Shared→Prop} (I:Shared→Prop)
  (hc:∀ i j C s,i<n→j<n→I s→(∀ b s',I s'→C b s')→cmp i j C s) (hQ:∀ a s,P a→I s→Q a s):∀ {t:KasT α}{s:Shared},KAll n P t→I s→t.kasWp cmp Q s
 | .ret a,s,h,i=>hQ a s h i
 | .ask x y k,s,h,i=>hc x y _ s h.1 h.2.1 i fun b s' i'=>kas_all I hc hQ (h.2.2 b) i'
end L2
namespace L2
open PySem PySem.Spec PyProof.Rows PySem.W
open PySem.SeqAt PySem.MeetsSeq PySem.MeetsSeq2 PySem.MeetsSeq3 PySem.SeqRoads2
open PySem.AutoSeq1 (wpAny_loadPart')
theorem lt_loopAt (l b:Addr) (items items2:Array Value) (n n2:Nat) (dd dd2:Option Addr) (sl sl2:Array (Option Value)) (at1:∀ j (h:j<items.size),∃ x t,items[j]=Value.int x t) (at2:∀ j (h:j<items2.size),∃ x t,items2[j]=Value.int x t) (k:Nat) :
  ∀ i : Nat,items.size - i=k→Meets (Builtin.«list.__eq__.loop» ⟨[.ref l,.ref b,rawInt i,rawInt 0],[]⟩)
   (fun A R s=>s.heap.get? l=some { cls:=.type "list",dict:=dd,data:=.seq items n,slots:=sl }∧s.heap.get? b=some { cls:=.type "list",dict:=dd2,data:=.seq items2 n2,slots:=sl2 } ∧
    ∀ c:Bool,R (.ok (.ret (.bool c))) s):=by
 induction k with
 | zero =>
  intro i hk prog w A R s h
  obtain ⟨hp,g,d,tk,os⟩:=s;obtain⟨hl,hb,h⟩:=h
  wp_walk using wpAny_loadPart' hl,wpAny_loadPart' hb
  have hi1:items[((i:Nat):Int).toNat]? = none:=by simp;omega
  rw [hi1]
  wp_walk using wpAny_loadPart' hl,wpAny_loadPart' hb
  exact h _
 | succ k ih =>
  intro i hk prog w A R s h
  obtain ⟨hp,g,d,tk,os⟩:=s;obtain⟨hl,hb,h⟩:=h
  wp_walk using wpAny_loadPart' hl,wpAny_loadPart' hb
  have hlt:i<items.size:=by omega
  have hi1:items[((i:Nat):Int).toNat]? = some items[i]:=by simp[hlt]
  have hc:((i:Int)+1)=((i+1:Nat):Int):=by push_cast;rfl
  rw [hi1]
  by_cases hlt2:i<items2.size
  ·have hi2:items2[((i:Nat):Int).toNat]? = some items2[i]:=by simp[hlt2]
   rw [hi2]
   obtain ⟨x,t,e1⟩:=at1 i hlt
   obtain ⟨y,u,e2⟩:=at2 i hlt2
   rw [e1,e2]
   refine wpAny_bind (wpAny_eqBool_int ?_)
   cases hb':(x==y) with
   | true =>
    wp_walk
    rw [hc]
    exact ⟨plainId_quiet plain_eq_loop _,codeAny_builtin entry_eq_loop (by
     rw [Around.under_plainId plain_eq_loop _]
     exact ih (i+1) (by omega) prog w A R _ ⟨hl,hb,h⟩)⟩
   | false =>
    wp_walk using wpAny_loadPart' hl,wpAny_loadPart' hb
    rw [hi1,hi2,e1,e2]
    refine wpAny_bind (show wpAny (model prog w) A.in1 (compareOp .Lt (.int x t) (.int y u)) _ _ _ from wpAny_lt_int (wpAny_pure (h _)))
  ·have hi2:items2[((i:Nat):Int).toNat]? = none:=by simp;omega
   rw [hi2]
   wp_walk using wpAny_loadPart' hl,wpAny_loadPart' hb
   exact h _
theorem list_ltAt (l b:Addr) (items items2:Array Value) (n n2:Nat) (dd dd2:Option Addr) (sl sl2:Array (Option Value)) (at1:∀ j (h:j<items.size),∃ x t,items[j]=Value.int x t) (at2:∀ j (h:j<items2.size),∃ x t,items2[j]=Value.int x t) :
  Meets (Builtin.«list.__lt__» ⟨[.ref l,.ref b],[]⟩)
   (fun A R s=>s.heap.get? l=some { cls:=.type "list",dict:=dd,data:=.seq items n,slots:=sl }∧s.heap.get? b=some { cls:=.type "list",dict:=dd2,data:=.seq items2 n2,slots:=sl2 } ∧
    ∀ c:Bool,R (.ok (.ret (.bool c))) s):=by
 intro prog w A R s h
 obtain ⟨hp,g,d,tk,os⟩:=s;obtain⟨hl,hb,h⟩:=h
 have f3:=AutoSeq1.sub_list_list
 wp_walk using wpAny_loadPart' hl,wpAny_loadPart' hb
 exact ⟨plainId_quiet plain_eq_loop _,codeAny_builtin entry_eq_loop (by
  rw [Around.under_plainId plain_eq_loop _]
  exact lt_loopAt l b items items2 n n2 dd dd2 sl sl2 at1 at2 _ 0 rfl prog w A R _ ⟨hl,hb,h⟩)⟩
section
variable {prog:Program}{w:World}{A:Around}{E:Value→Shared→Prop}{s:Shared}
theorem lt_lists {l b:Addr}{items items2:Array Value}{Q:Value→Shared→Prop} (hl:s.heap.IsList l items) (hb:s.heap.IsList b items2) (at1:∀ j (h:j<items.size),∃ x t,items[j]=Value.int x t) (at2:∀ j (h:j<items2.size),∃ x t,items2[j]=Value.int x t)
  (hu:A.units<cLine) (h:∀ c:Bool,Q (.bool c) s):wpAny (model prog w) A (compareOp .Lt (.ref l) (.ref b)) Q E s:=by
 obtain ⟨⟨cls,dd,data,sl⟩,ho,hc,n,hd⟩:=id hl
 obtain ⟨⟨cls2,dd2,data2,sl2⟩,ho2,hc2,n2,hd2⟩:=id hb
 simp only at hc hd hc2 hd2
 subst hc hd hc2 hd2
 exact richCompare_meets_room (op:=.Lt) ⟨_,ho,rfl⟩ ⟨_,ho2,rfl⟩ F.slot_list_lt F.entry_list_lt (F.args_list_lt_2 _ _) (list_ltAt l b items items2 n n2 dd dd2 sl sl2 at1 at2)
  ⟨ho,ho2,fun c=>show Value.bool c≠Value.notImplemented∧Q (.bool c) s from ⟨(fun x=>nomatch x),h c⟩⟩ hu
noncomputable def KeyOk (prog:Program) (w:World) (A:Around) (vs:List Value) (s:Shared):Prop :=
 wpAny (model prog w) A (keyKind' vs.toArray) (fun κ s'=>s'=s∧∀ i j (C:Bool→Shared→Prop),i<vs.length→j<vs.length→(∀ b,C b s)→kas_ask prog w A κ vs i j C s) (fun _ _=>False) s
theorem perm_vals {vs:List Value}{p:Array Nat} (h:Pn vs.length p):(p.toList.map fun i=>vs.getD i Value.none).Perm vs:=by
 have h1:=(h.list).map fun i=>vs.getD i Value.none
 refine h1.trans (List.Perm.of_eq ?_)
 apply List.ext_getElem
 ·simp
 ·intro i a b
  simp at a
  simp [a]
theorem srt_list {a:Addr}{vs:List Value}{n:Nat}{P:PySem.Fin→Shared→Prop} (ho:s.heap.get? a=some (seqObj "list" vs.toArray n)) (h64:vs.length<64)
  (hk:2≤vs.length→∀ h',(∀ b o,b≠a→s.heap.get? b=some o→h'.get? b=some o)→KeyOk prog w A vs { s with heap:=h' })
  (h : ∀ (ws:List Value) h' c,ws.Perm vs→(∀ b o,b≠a→s.heap.get? b=some o→h'.get? b=some o)→h'.get? a=some (seqObj "list" ws.toArray c)→P (.done (.ret .none)) { s with heap:=h' }) :
  wpAny (model prog w) A (Builtin.«list.sort» ⟨[.ref a],[]⟩) P E s:=by
 have ha:a<s.heap.objs.size:=Heap.lt_size ho
 have s1:=Heap.SameBut.update s.heap a (Obj.mapSeq fun _=>(#[]:Array Value))
 obtain ⟨e1,ho1⟩:∃ e1,(s.heap.update a (Obj.mapSeq fun _=>(#[]:Array Value))).get? a=some (seqObj "list" #[] e1):=⟨_,get?_update_seq ho fun _=>#[]⟩
 have keep:∀ b o,b≠a→s.heap.get? b=some o→(((s.heap.update a (Obj.mapSeq fun _=>(#[]:Array Value))).push (seqObj "tuple" vs.toArray 0)).push (seqObj "list" #[] 0)).get? b=some o:=fun b o hb e =>
  Heap.get?_push_of_some _ (Heap.get?_push_of_some _ ((s1.2 b hb).trans e))
 have ho3:(((s.heap.update a (Obj.mapSeq fun _=>(#[]:Array Value))).push (seqObj "tuple" vs.toArray 0)).push (seqObj "list" #[] 0)).get? a=some (seqObj "list" #[] e1):=Heap.get?_push_of_some _ (Heap.get?_push_of_some _ ho1)
 have fin:∀ (ws:List Value),ws.Perm vs→∃ c,(((((s.heap.update a (Obj.mapSeq fun _=>(#[]:Array Value))).push (seqObj "tuple" vs.toArray 0)).push (seqObj "list" #[] 0))).update a (Obj.mapSeq fun _=>ws.toArray)).get? a=some (seqObj "list" ws.toArray c):=fun ws _=>⟨_,get?_update_seq ho3 fun _=>ws.toArray⟩
 rw [list_sort_plain]
 refine wpAny_bind (listItems_at ho rfl ?_)
 refine wpAny_bind (listUpdate_at ho rfl ?_ (by rw[List.size_toArray,sizeLine_eq];omega) (Nat.zero_le _))
 refine wpAny_bind (seqEpoch_at ho1 rfl ?_)
 refine wpAny_bind (wpAny_newTuple ?_ (by show vs.length≤_;rw[sizeLine_eq];omega))
 refine wpAny_bind (wpAny_newList ?_ (Nat.zero_le _))
 refine wpAny_holding ?_
 show wpAny (model prog w) A _ P E { s with heap:=((s.heap.update a (Obj.mapSeq fun _=>(#[]:Array Value))).push (seqObj "tuple" vs.toArray 0)).push (seqObj "list" #[] 0) }
 dsimp only
 by_cases h2:2≤vs.length
 ·have hn2:¬vs.toArray.size<2:=by rw[List.size_toArray];omega
  rw [if_neg hn2,if_neg hn2]
  refine wpAny_bind (wpAny_mono (hk h2 _ keep) (fun κ s0 hk=>?_) fun _ _ x=>x.elim)
  obtain ⟨rfl,hask⟩:=hk
  refine wpAny_bind (wpAny_mono (kat_run (κ:=κ) (A:=A) (prog:=prog) (w:=w) (ks:=vs) (vs:=vs) (G:=fun p s'=>Pn vs.length p∧s'={ s with heap:=((s.heap.update a (Obj.mapSeq fun _=>(#[]:Array Value))).push (seqObj "tuple" vs.toArray 0)).push (seqObj "list" #[] 0) })
   (Q := fun st' s'=>∃ p:Array Nat,Pn vs.length p∧p.size=vs.length∧arrOf st'=p.map (kas_item (vs.toArray.zip vs.toArray))∧failedOf st'=none∧s'={ s with heap:=((s.heap.update a (Obj.mapSeq fun _=>(#[]:Array Value))).push (seqObj "tuple" vs.toArray 0)).push (seqObj "list" #[] 0) })
   rfl h2 h64 (fun p' st' s' a1 a2 a3 a4=>⟨p',a4.1,a1,a2,a3,a4.2⟩) (kas_all (fun s'=>s'={ s with heap:=((s.heap.update a (Obj.mapSeq fun _=>(#[]:Array Value))).push (seqObj "tuple" vs.toArray 0)).push (seqObj "list" #[] 0) }) (fun i j C s' hi hj e hc=>by subst e;exact hask i j C hi hj fun b=>hc b _ rfl) (fun p s' hp e=>⟨hp,e⟩) (sort_all (n:=vs.length) (by omega)) rfl)) ?_ fun _ _ e=>e)
  rintro ⟨⟨⟩,st'⟩ s' ⟨p,hpn,hp,har,hf,rfl⟩
  dsimp only
  have hout:=kat_snds rfl har
  have hsz:(List.toArray (p.toList.map fun i=>vs.getD i Value.none)).size=vs.length:=by rw[List.size_toArray,List.length_map,Array.length_toList,hp]
  rw [hout]
  obtain ⟨c2,hc2⟩:=fin (p.toList.map fun i=>vs.getD i Value.none) (perm_vals hpn)
  refine wpAny_bind (seqEpoch_at ho3 rfl ?_)
  refine wpAny_bind (listUpdate_at ho3 rfl ?_ (Nat.zero_le _) (Nat.le_trans (Nat.le_of_eq hsz) (by rw[sizeLine_eq];omega)))
  rw [hf]
  simp only [bne_self_eq_false,Bool.false_eq_true,if_false]
  refine wpAny_pure (h _ _ c2 (perm_vals hpn) (fun b o hb e=>?_) hc2)
  exact ((Heap.SameBut.update _ a _).2 b hb).trans (keep b o hb e)
 ·have hn2:vs.toArray.size<2:=by rw[List.size_toArray];omega
  rw [if_pos hn2,if_pos hn2]
  refine wpAny_bind (wpAny_pure ?_)
  refine wpAny_bind (wpAny_pure ?_)
  have hout:(arrOf (SortSt.mk' general' (vs.toArray.zip vs.toArray) #[] 7 none)).map (·.2)=vs.toArray:=by
   show (vs.toArray.zip vs.toArray).map (·.2)=_
   apply Array.toList_inj.mp
   simp
   exact List.map_snd_zip (Nat.le_refl _)
  dsimp only
  rw [hout]
  obtain ⟨c2,hc2⟩:=fin vs (List.Perm.refl _)
  refine wpAny_bind (seqEpoch_at ho3 rfl ?_)
  refine wpAny_bind (listUpdate_at ho3 rfl ?_ (Nat.zero_le _) (by rw[List.size_toArray,sizeLine_eq];omega))
  simp only [bne_self_eq_false,Bool.false_eq_true,if_false]
  refine wpAny_pure (h _ _ c2 (List.Perm.refl _) (fun b o hb e=>?_) hc2)
  exact ((Heap.SameBut.update _ a _).2 b hb).trans (keep b o hb e)
theorem srt_sorted {l:Addr}{vs:List Value}{Q:Value→Shared→Prop} (hl:s.heap.IsList l vs.toArray) (h64:vs.length<64)
  (hk:2≤vs.length→∀ h',(∀ b o,s.heap.get? b=some o→h'.get? b=some o)→KeyOk prog w A.in1.in1 vs { s with heap:=h' })
  (h : ∀ (ws:List Value) D h' c,ws.Perm vs→(∀ b o,s.heap.get? b=some o→h'.get? b=some o)→s.heap.objs.size≤D→h'.get? D=some (seqObj "list" ws.toArray c)→Q (.ref D) { s with heap:=h' }) :
  wpAny (model prog w) A (call (.builtin "sorted") [.ref l]) Q E s:=by
 refine Calls.call_function_entry kind_sorted plain_sorted entry_sorted (args_sorted1 _) ?_
 unfold Builtin.«sorted»
 refine wpAny_bind (m:=checkCount "sorted" 1 1 _) (wpAny_pure ?_)
 refine wpAny_bind (collect_list hl ?_ (by rw[sizeLine_eq];omega))
 refine wpAny_bind (wpAny_newList ?_ (by rw[sizeLine_eq];omega))
 have hsz:((s.heap.push (seqObj "list" #[] 0)).update s.heap.objs.size (Obj.mapSeq (·++vs.toArray))).objs.size=s.heap.objs.size+1:=by
  rw [Heap.size_update,size_push']
 have hoL:(((s.heap.push (seqObj "list" #[] 0)).update s.heap.objs.size (Obj.mapSeq (·++vs.toArray))).push (seqObj "list" vs.toArray 0)).get? (s.heap.objs.size+1)=some (seqObj "list" vs.toArray 0):=by
  rw [←hsz];exact Heap.get?_push_size _ rfl
 have keep:∀ b o,s.heap.get? b=some o→(((s.heap.push (seqObj "list" #[] 0)).update s.heap.objs.size (Obj.mapSeq (·++vs.toArray))).push (seqObj "list" vs.toArray 0)).get? b=some o:=fun b o q=>by
  have hlt:b<s.heap.objs.size:=Heap.lt_size q
  rw [Heap.get?_push_ne _ _ _ (by rw[hsz];exact Nat.ne_of_lt (Nat.lt_succ_of_lt hlt)),Heap.get?_update_ne _ _ _ _ (Nat.ne_of_lt hlt),Heap.get?_push_ne _ _ _ (Nat.ne_of_lt hlt)]
  exact q
 have ne:∀ b o,s.heap.get? b=some o→b≠s.heap.objs.size+1:=fun b o q=>by
  exact Nat.ne_of_lt (Nat.lt_succ_of_lt (Heap.lt_size q))
 show wpAny _ _ _ _ _ { s with heap:=((s.heap.push (seqObj "list" #[] 0)).update s.heap.objs.size (Obj.mapSeq (·++vs.toArray))).push (seqObj "list" vs.toArray 0) }
 rw [hsz]
 refine wpAny_bind (wpAny_holding (wpAny_call_entry slot_list_sort ⟨_,hoL,rfl⟩ entry_list_sort ?body (args_list_sort _)))
 case body =>
  refine srt_list (s:={ s with heap:=((s.heap.push (seqObj "list" #[] 0)).update s.heap.objs.size (Obj.mapSeq (·++vs.toArray))).push (seqObj "list" vs.toArray 0) }) hoL h64
   (fun h2 h' k=>hk h2 h' fun b o e=>k b o (ne b o e) (keep b o e)) fun ws h' c hp k hD=>⟨_,rfl,wpAny_pure ⟨_,rfl,?_⟩⟩
  exact h ws _ h' c hp (fun b o e=>k b o (ne b o e) (keep b o e)) (Nat.le_succ _) hD
end
end L2
namespace L2
open PySem PySem.Spec PyProof.Rows PySem.W
noncomputable def KeyV (h:Heap) (v:Value):Prop:=∃ (a:Addr) (o:Obj) (n:Nat) (x:Int) (t:Tok) (l:Addr) (its:Array Value) (ns:List Int) (as:List Addr),v=.ref a∧h.get? a=some o∧o.cls=.type "tuple" ∧ o.data=.seq #[.int x t,.ref l] n∧h.IsList l its∧(∀ j (h:j<its.size),∃ x t,its[j]=Value.int x t)∧Reads h (.ref l) (.list (ns.map PyData.int)) as
noncomputable def isKey (d:PyData):Prop:=∃ (n:Int) (ns:List Int),d=.tuple [.int n,.list (ns.map .int)]
section
variable {X:Cx}{pins:List (Addr×Obj)}{σ:St}{H:Hp}{s:Shared}
theorem key_ints:∀ {ns:List Int}{vs:List V}{us:List Value},DVs X.K H vs (ns.map .int)→Vals vs us→∀ j (h:j<us.length),∃ x t,us[j]=Value.int x t
 | [],_,_,.nil,.nil,j,h=>by simp at h
 | n::ns,_,_,.cons d q,.cons r t,0,h=>by
  cases d
  obtain ⟨t,rfl⟩:=r
  exact ⟨_,_,rfl⟩
 | n::ns,_,_,.cons d q,.cons r t,j+1,h=>by
  obtain ⟨x,u,e⟩:=key_ints q t j (by simpa using h)
  exact ⟨x,u,by simpa using e⟩
theorem key_of (I:Inv X pins σ H s) {v:V}{d:PyData}{u:Value} (hd:DV X.K H v d) (r:RelV v u) (k:isKey d):KeyV s.heap u:=by
 obtain ⟨n,ns,rfl⟩:=k
 cases hd with
 | @tup a xs _ h q =>
  cases (show _=Value.ref a from r)
  obtain ⟨its,rv,⟨o,e,c,m,hd⟩,_⟩:=I.tuple h
  cases q with
  | cons q1 q2 =>
   cases q2 with
   | cons q2 q3 =>
    cases q3
    cases q1
    cases rv with
    | cons r1 rv =>
     cases rv with
     | cons r2 rv =>
      cases rv
      obtain ⟨t,rfl⟩:=r1
      obtain ⟨as,ra⟩:=q2.reads I r2 (by simpa only [PyData.canLay0] using lay0_ints _)
      cases q2 with
      | @lst l ys _ h2 q2 =>
       cases (show _=Value.ref l from r2)
       obtain ⟨jts,rj,pl,_⟩:=I.list h2
       exact ⟨a,o,m,n,t,l,jts.toArray,ns,as,rfl,e,c,hd,pl.isList,fun j hj=>key_ints q2 rj j (by simpa using hj),ra⟩
theorem keys_of (I:Inv X pins σ H s):∀ {vs:List V}{ds:List PyData}{us:List Value},DVs X.K H vs ds→Vals vs us→(∀ d∈ds,isKey d)→∀ u∈us,KeyV s.heap u
 | _,_,_,.nil,.nil,_,u,hu=>by simp at hu
 | _,_,_,.cons d q,.cons r t,k,u,hu=>by
  rcases List.mem_cons.mp hu with rfl|hu
  ·exact key_of I d r (k _ (by simp))
  ·exact keys_of I q t (fun d hd=>k d (by simp[hd])) u hu
end
section
variable {prog:Program}{w:World}{A:Around}{s:Shared}
theorem key_firsts {h:Heap}:∀ {us:List Value},(∀ u∈us,KeyV h u)→∃ fs,KatTups h us fs∧fs.length=us.length∧∀ f∈fs,∃ x t,f=Value.int x t
 | [],_=>⟨[],.nil,rfl,fun f hf=>by simp at hf⟩
 | u::us,k=>by
  obtain ⟨fs,h1,h2,h3⟩:=key_firsts (us:=us) fun v hv=>k v (by simp[hv])
  obtain ⟨a,o,n,x,t,l,its,ns,as,rfl,e,c,d,_⟩:=k u (by simp)
  refine ⟨.int x t::fs,.cons e c d (by rfl) h1,by simp[h2],fun f hf=>?_⟩
  rcases List.mem_cons.mp hf with rfl|hf
  ·exact ⟨x,t,rfl⟩
  ·exact h3 f hf
theorem key_lt {u v:Value}{C:Bool→Shared→Prop}{E:Value→Shared→Prop} (hu:A.units+64<cLine) (k1:KeyV s.heap u) (k2:KeyV s.heap v) (h:∀ b,C b s):wpAny (model prog w) A (keyLt' (tuples' true) u v) C E s:=by
 obtain ⟨a,o,n,x,t,l,its,ns,as,rfl,e,c,d,i1,i2,i3⟩:=k1
 obtain ⟨a',o',n',x',t',l',its',ns',as',rfl,e',c',d',j1,j2,j3⟩:=k2
 refine kat_lt e d e' d' ?_
 refine kat_cons (wpAny_eqBool_int ?_)
 refine kat_go (fun _=>kat_yes ?_) fun _=>kat_no (oneLt_int (h _))
 refine kat_cons (SeqAt.eqBoolOverData _ _ _ _ _ _ _ _ _ _ _ _ i3 j3 ?_ ?_ ?_ ?_)
 ·simp [PyData.canLay0,lay0_ints]
 ·simp [PyData.canLay0,lay0_ints]
 ·have:∀ ns:List Int,(PyData.list (ns.map PyData.int)).depth≤64:=fun ns=>by
   have:=shp_I ns
   exact SeqAt.depth_of_shaped this
  have:=this ns
  have:=Nat.min_le_left (PyData.list (ns.map PyData.int)).depth (PyData.list (ns'.map PyData.int)).depth
  omega
 ·refine kat_go (fun _=>kat_yes (kat_nil (h _))) fun _=>kat_no (kat_one _ _ ?_)
  exact lt_lists i1 j1 i2 j2 (by omega) fun b=>h b
theorem key_ok {us:List Value} (hu:A.units+64<cLine) (h2:2≤us.length) (k:∀ u∈us,KeyV s.heap u):KeyOk prog w A us s:=by
 obtain ⟨fs,h1,h3,h4⟩:=key_firsts k
 refine kat_kind (T:=.type "int") h1 (by omega) (fun v hv=>?_) (by rfl) ⟨rfl,fun i j C hi hj hc=>?_⟩
 ·obtain ⟨x,t,rfl⟩:=h4 v hv
  exact .now
 ·have e1:us.getD i Value.none=us[i]:=by simp[hi]
  have e2:us.getD j Value.none=us[j]:=by simp[hj]
  show wpAny (model prog w) A (keyLt' _ (us.getD i Value.none) (us.getD j Value.none)) C (fun _ _=>False) s
  rw [e1,e2]
  exact key_lt hu (k _ (List.getElem_mem hi)) (k _ (List.getElem_mem hj)) hc
end
theorem perm_lift {α β:Type}{f:α→β}{ws bs:List β} (h:ws.Perm bs):∀ t:List α,bs=t.map f→∃ t':List α,t'.Perm t∧ws=t'.map f:=by
 induction h with
 | nil =>
  intro t e
  cases t with
  | nil=>exact⟨[],.refl _,rfl⟩
  | cons _ _=>cases e
 | cons x _ ih =>
  intro t e
  cases t with
  | nil=>cases e
  | cons y t =>
   injection e with e1 e2
   obtain ⟨t',p,e'⟩:=ih t e2
   exact ⟨y::t',p.cons y,by rw[e1,e'];rfl⟩
 | swap x y l =>
  intro t e
  match t,e with
  | z1::z2::t,e =>
   injection e with e1 e2
   injection e2 with e2 e3
   exact ⟨z2::z1::t,.swap ..,by rw[e1,e2,e3];rfl⟩
 | trans _ _ ih1 ih2 =>
  intro t e
  obtain ⟨t1,p1,e1⟩:=ih2 t e
  obtain ⟨t2,p2,e2⟩:=ih1 t1 e1
  exact ⟨t2,p2.trans p1,e2⟩
theorem vals_of:∀ {t:List (Value×V×PyData)},(∀ x∈t,RelV x.2.1 x.1)→Vals (t.map (·.2.1)) (t.map (·.1))
 | [],_=>.nil
 | x::t,h=>.cons (h x (by simp)) (vals_of fun y hy=>h y (by simp[hy]))
theorem vals_zip:∀ {vs:List V}{us:List Value}{ds:List PyData},Vals vs us→∀ x∈us.zip (vs.zip ds),RelV x.2.1 x.1
 | _,_,_,.nil,x,h=>by simp at h
 | _,_,[],.cons r t,x,h=>by simp at h
 | _,_,d::ds,.cons r t,x,h=>by
  simp only [List.zip_cons_cons] at h
  rcases List.mem_cons.mp h with rfl|h
  ·exact r
  ·exact vals_zip t x h
theorem dvs_len {K:PySem.W.Frag}{H:Hp}:∀ {vs:List V}{ds:List PyData},DVs K H vs ds→vs.length=ds.length
 | _,_,.nil=>rfl
 | _,_,.cons _ q=>by simp[dvs_len q]
theorem dns_zip {K:PySem.W.Frag}{N:Addr→Prop}{H:Hp}:∀ {vs:List V}{ds:List PyData},DNs K N H vs ds→∀ z∈vs.zip ds,DN K N H z.1 z.2
 | _,_,.nil,z,h=>by simp at h
 | _,_,.cons d q,z,h=>by
  simp only [List.zip_cons_cons] at h
  rcases List.mem_cons.mp h with rfl|h
  ·exact d
  ·exact dns_zip q z h
theorem dns_all {K:PySem.W.Frag}{N:Addr→Prop}{H:Hp}:∀ {zs:List (V×PyData)},(∀ z∈zs,DN K N H z.1 z.2)→DNs K N H (zs.map (·.1)) (zs.map (·.2))
 | [],_=>.nil
 | x::t,h=>.cons (h x (by simp)) (dns_all fun y hy=>h y (by simp[hy]))
section
variable {X:Cx}{K:PySem.W.Frag}
theorem call_srt (hK:X.K=K) (hu:X.A.units+80<cLine):CallR X (.builtin "sorted") (fun xs H Q=>∃ (p:Addr) (vs:List V) (ds:List PyData),xs=[.ref p]∧SqL K H p vs∧DVs K H vs ds∧(∀ d∈ds,isKey d)∧vs.length<64 ∧
  ∀ (zs:List (V×PyData)),zs.Perm (vs.zip ds)→∀ q,H q=none→Q (.ref q) (upd H q (.lst (zs.map (·.1))))):=by
 subst hK
 intro pins s σ H xs us Q I r h
 obtain ⟨p,vs,ds,rfl,hs,hd,hk,h64,q⟩:=h
 obtain ⟨u,rfl,ru⟩:=vals1 r
 cases (show u=Value.ref p from ru)
 obtain ⟨its,rv,hp,_⟩:=I.list hs
 have hlen:=rv.length
 refine srt_sorted (vs:=its) hp.isList (by omega) (fun h2 h' k=>?_) fun ws D h' c hperm k hD hD2=>?_
 ·have I':=I.kept (t':=s.toks) (h':=h') k
  exact key_ok (by show X.A.in1.in1.units+64<cLine;simp[Around.in1] at *;omega) h2 (keys_of I' hd rv hk)
 ·have hdl:ds.length=vs.length:=(dvs_len hd).symm
  obtain ⟨t,pt,rfl⟩:=perm_lift hperm (its.zip (vs.zip ds)) (by
   rw [List.map_fst_zip]
   simp
   omega)
  have hv:∀ x∈t,RelV x.2.1 x.1:=fun x hx=>vals_zip rv x (pt.mem_iff.mp hx)
  have hz:(t.map (·.2)).Perm (vs.zip ds):=by
   have:=pt.map (·.2)
   rwa [List.map_snd_zip (by simp;omega)] at this
  have hl:=hz.length_eq
  refine ⟨.ref D,upd H D (.lst ((t.map (·.2)).map (·.1))),I.laid (t':=s.toks) (o:=.lst ((t.map (·.2)).map (·.1))) k hD ⟨?_,t.map (·.1),c,?_,hD2⟩,rfl,q _ hz _ (I.hok.fresh hD)⟩
  ·rw [List.length_map,hl,sizeLine_eq]
   simp
   omega
  ·rw [List.map_map]
   exact vals_of hv
noncomputable def dSrt (t:DA):DE:=fun env R=>t env fun ss env1=>∃ s ds,ss=[s]∧valOf env1 s=some (.list ds)∧(∀ d∈ds,isKey d)∧ds.length<64∧∀ es:List PyData,es.Perm ds→R (.ow es) env1
variable {e:Expr}{p pos:Pos}{tl:DA}
theorem q_srt (hK:X.K=K) (hu:X.A.units+80<cLine) (hg:Gl X "sorted") (hm:X.mg "sorted" = none) (ha:PA X [e] (upA K tl)) (he:starEach [e] X.env=[(false,eval e X.env)]:=by rfl):PE X (.Call (.Name "sorted" p) [e] [] pos) (up K (dSrt tl)) :=
 (pe_callB (call_srt (K:=K) hK hu) hg hm boot_sorted ha (by decide) (by decide) he rfl).imp fun σ H Q h=>by
 obtain ⟨M,P,H0,σ0,env,ts,R,rel,ht,hq⟩:=h
 refine ⟨M,P,H0,σ0,env,ts,_,rel,ht,fun ss env1 vs H1 h1 hl rel1=>?_⟩
 obtain ⟨s,ds,rfl,e1,hk,h64,hR⟩:=h1
 match vs,hl with
 | [v],_ =>
  obtain ⟨a,us,rfl,sq,q⟩:=(rel1.view (v:=v) (by simp) e1).list
  refine ⟨a,us,ds,rfl,sq,q.dv,hk,by rw[q.len];exact h64,fun zs hz p' hp=>hq _ _ _ _ (hR (zs.map (·.2)) ?_) (rel1.resOw hp ?_)⟩
  ·have:=hz.map (·.2)
   rwa [List.map_snd_zip (by rw[q.len];exact Nat.le_refl _)] at this
  ·exact dns_all fun z hz'=>dns_zip q z (hz.mem_iff.mp hz')
end
end L2
namespace L2
open PySem PySem.Spec PyProof.Rows PySem.W
section
variable {X:Cx}{K:PySem.W.Frag}{e o:Expr}{pos p2:Pos}
variable {ta to:DE}{tl:DA}
theorem pe_neg1 {j p3 p4}:PE X (.UnaryOp .USub (.Constant (.int 1) j p3) p4) (tC (.int (-1))):=(pe_un un_neg pe_int).imp fun σ H Q h=>⟨1,rfl,h⟩
end
end L2
namespace L2
open PySem PySem.Spec PyProof.Rows PySem.W PySem.Calls
section
variable {prog:Program}{w:World}{A:Around}{R:Result→Shared→Prop}{I:Addr}{fp wr:List Addr}{n:Nat}{P:Nat→Value→Prop}{St:Nat→Heap→Prop}
theorem call_treeK {E:Value→Shared→Prop}{s:Shared}{id:String}{b:Builtin}{args:List Value}{kw:List (Str×Value)}{Q:Value→Shared→Prop} (hk:builtinKind id=none) (hp:plainId id=true)
  (hb:entryFor table id=some b) (ha:argsOk id ⟨args,kw⟩)
  (hc:wpAny (model prog w) A.in1 (b ⟨args,kw⟩) (fun fin s'=>match fin with
   | .done f=>(match (Except.ok f:Result) with|.ok (.ret v)=>Q v s'|.ok _=>False|.error e=>E e s')
   | .again c'=>c'.quiet=true∧codeAny (model prog w) A c' (fun r s'=>match r with|.ok (.ret v)=>Q v s'|.ok _=>False|.error e=>E e s') s') E s) :
  wpAny (model prog w) A (call (.builtin id) args kw) Q E s:=by
 refine wpAny_call (codeAny_call_builtin hp hb ?_)
 simp only [checkBuiltinCall,hk]
 cases hsig:Manifest.signature? id with
 | none=>exact wpAny_pure hc
 | some sig =>
  simp only [argsOk,hsig] at ha
  have h2:Bind.checkArgs id sig ⟨args,kw⟩=pure ():=ha
  show wpAny _ A.in1 (Bind.checkArgs id sig ⟨args,kw⟩) _ _ s
  rw [h2];exact wpAny_pure hc
end
section
variable {X:Cx}{K:PySem.W.Frag}{e:Expr}{tl:DA}{p pos kpos p3:Pos}
end
end L2
namespace L2
open PySem PySem.Spec PyProof.Rows
section
variable {ds:List PyData}{ix:List (Option Nat)}{g:DG}{tt:DT}{te:DE}{env:List Sl}{R:Sl→List Sl→Prop}
theorem cd_all (P:PyData→Prop) (hz:ds.length≤1000000) (h:∀ i,(h:i<ds.length)→∀ Q:PyData→Prop,(∀ d,P d→Q d)→g ds[i] (capE ix env) fun b1=>te b1 fun s b3=>∃ d,keepOf b3 s=some d∧Q d)
  (hR:∀ rs:List PyData,rs.length=ds.length→(∀ d∈rs,P d)→R (.ow rs) env):CD ds ix g dYes te env R:=by
 refine ⟨fun i rs=>rs.length=i∧i≤ds.length∧∀ d∈rs,P d,⟨rfl,Nat.zero_le _,by simp⟩,fun i rs hi w=>?_,fun rs w=>hR rs w.1 w.2.2⟩
 obtain ⟨w1,w2,w3⟩:=w
 refine ⟨by rw[w1];exact Nat.lt_of_lt_of_le (by omega) line_big,?_⟩
 have:=h i hi (fun d=>(rs++[d]).length=i+1∧i+1≤ds.length∧∀ x∈rs++[d],P x) fun d hd=>⟨by simp[w1],hi,fun x hx=>by
  rcases List.mem_append.mp hx with hx|hx
  ·exact w3 x hx
  ·rw [List.mem_singleton.mp hx];exact hd⟩
 simpa only [dYes,if_true] using this
end
theorem all_ints {p:Int→Prop}:∀ {rs:List PyData},(∀ d∈rs,∃ x:Int,d=.int x∧p x)→∃ ns:List Int,rs=li ns∧∀ x∈ns,p x
 | [],_=>⟨[],rfl,by simp⟩
 | d :: rs,h=>by
  obtain ⟨ns,rfl,h2⟩:=all_ints (rs:=rs) fun e he=>h e (by simp[he])
  obtain ⟨x,rfl,hx⟩:=h d (by simp)
  exact ⟨x::ns,rfl,fun y hy=>by
   rcases List.mem_cons.mp hy with rfl|hy
   ·exact hx
   ·exact h2 y hy⟩
end L2
namespace L2
open PySem PySem.Spec PyProof.Rows PySem.W
section
variable {CX:CXT}{P:Program}{w:World}{K:PySem.W.Frag}{mg:Str→Option Value}{base:Heap}{k:Nat}{f c':Addr}{qual:Str}{params:Arguments}{body:Expr}{scope:Scope}{pm ctv:Value}{N ps:List Str}
 {A : Around}{outer:List Env}{s:Shared}{H:Hp}{us:List Value}{vs:List V}{Q:VK}{E:XK}{t:TE}
theorem lam_run (S:FnScope N ps scope) (hr:Room (k+1) A) (e0:Env0 P w K mg base A outer s H) (ho:s.heap.get? f=some (kla_obj "<lambda>" qual params body scope [] pm c' ctv)) (hcd:s.heap.CodeRec (.ref c') qual)
  (hb:bindArgs (kla_fn "<lambda>" qual params body scope [] pm (.ref c') ctv) ⟨us,[]⟩=pure (ps.zip us)) (r:Vals vs us) (hl:vs.length=ps.length)
  (ht:PE (cxOf CX P w K mg base N qual scope f (.ref c') A outer s H E) body t) (hq:t (start N vs) H Q):codeAny (model P w) A (.call (.ref f) ⟨us,[]⟩) (CR CX outer P w H s Q E) s:=by
 have lim:s.heap.NoLimit:=e0.mod.nolimit.keeps fun b o e=>(e0.bs b o e).1
 have hkind:∀ y∈ps.zip us,scope.names.lookup y.1=some .local∨(scope.names.lookup y.1=some .cell∧((cellsFrom (s.heap.objs.size+1) scope.names []).lookup y.1).isSome=true):=fun ⟨n,v⟩ hy=>by
  rcases S.par n (List.of_mem_zip hy).1 with q|q
  ·exact .inl q
  ·exact .inr ⟨q,PySem.W.cellsFrom_some _ _ _ (.inl q)⟩
 refine kla_callFunE hr.depth ho rfl S.co S.gen rfl hcd ?_
 rw [hb]
 refine wpAny_pure ?_
 refine wpAny_newFunctionEnv_cells S.kind hkind fun env he s1 x=>?_
 subst he
 refine ⟨lim.keeps x.toInCall.keep,kla_codeExpr ?_⟩
 have I:Inv (cxOf CX P w K mg base N qual scope f (.ref c') A outer s H E) [] (start N vs) H s1:=inv_start S hr.hd e0 hl r x
 refine wpAny_mono (ht [] s1 (start N vs) H _ I hq) (fun u s' hs=>?_) fun e s' hs=>hs
 obtain ⟨v,H',J,rv,q⟩:=hs
 exact ⟨v,H',J.os,J.bare,J.base,J.hok,rv,q⟩
end
theorem among_snoc {pos:Pos}{a b:Int}{c cv:Value} (l:List Value) (h:TriplesOk l) (hn:codeAmong pos (l++[rawInt a,rawInt b,c])=some cv):codeAmong pos l=some cv∨cv=c:=by
 fun_induction TriplesOk l with
 | case1 =>
  simp only [List.nil_append,codeAmong,rawInt] at hn
  split at hn
  ·cases hn;exact .inr rfl
  ·cases hn
 | case2 a' t b' u x rest ih =>
  simp only [List.cons_append,codeAmong] at hn ⊢
  split at hn
  ·rename_i hc
   rw [if_pos hc]
   exact .inl hn
  ·rename_i hc
   rw [if_neg hc]
   exact ih h hn
 | case3 l h1 h2=>exact h.elim
noncomputable def CodeFz (H:Hp) (c:Addr) (q:Str):Prop:=∃ oc u vs t,H c=some (.frz oc u)∧oc.data=.fields vs∧vs[1]? = some (.str q t)
noncomputable def LamAt (X:Cx):Prop:=∃ c T,X.env.code=.ref c∧CodeHd X.base c T∧LamTab X.K T (X.env.qual ++ "<lambda>")
section
variable {X:Cx}{pins:List (Addr×Obj)}{σ:St}{H:Hp}{s:Shared}
theorem Inv.grow (I:Inv X pins σ H s) {T c':Addr}{q:Str}{h':Heap}{oc:Obj}{vs:Array Value}{t:Tok}{tk:Nat} (hT:H T=some (.tbl q)) (hx:Heap.ExtBut T s.heap h') (hc:s.heap.objs.size≤c') (ho:h'.get? c'=some oc) (hd:oc.data=.fields vs) (hv:vs[1]? = some (.str q t))
  (ht:TabOk (upd H c' (.frz oc (.own 0))) h' T q):Inv X pins σ (upd H c' (.frz oc (.own 0))) { s with heap:=h',toks:=tk }∧Same H (upd H c' (.frz oc (.own 0))):=by
 have hn:H c'=none:=I.hok.fresh hc
 have hTs:T<s.heap.objs.size:=I.hok.lt hT
 have hTc:T≠c':=Nat.ne_of_lt (Nat.lt_of_lt_of_le hTs hc)
 obtain ⟨ps',eT,_⟩:=id ht
 refine ⟨I.un (t':=tk) ⟨fun b o e n _ _=>?_,fun b o e n _ _=>⟨o.slots,?_⟩,fun b o e n _=>?_,fun b o e _=>?_,fun b xs e=>?_,fun b o u e=>?_,fun b q e=>?_⟩ (fun b u e=>?_),fun b o e=>by rw[upd_ne (ne_of_none e hn)];exact e⟩
 ·exact hx b o (fun z=>by rw[z,hT] at n;cases n) e
 ·exact hx b o (fun z=>by rw[z,hT] at n;cases n) e
 ·rw [upd_ne (Nat.ne_of_lt (Nat.lt_of_lt_of_le (Heap.lt_size e) hc))];exact n
 ·by_cases z:b=T
  ·subst z;exact⟨_,eT⟩
  ·exact ⟨o,hx b o z e⟩
 ·rw [upd_ne (ne_of_none e hn)];exact e
 ·rw [upd_ne (ne_of_none e hn)];exact e
 ·rw [upd_ne (ne_of_none e hn)];exact e
 ·by_cases hb:b=c'
  ·subst hb
   rw [upd_same] at e
   cases e
   exact ⟨ho,_,ho⟩
  ·rw [upd_ne hb] at e
   by_cases hbT:b=T
   ·subst hbT
    rw [hT] at e
    cases e
    exact ht
   ·refine (I.hok b u e).stay (fun c v hc' q=>hx c v ?_ q) (fun c q=>by rw[upd_ne (ne_of_none q hn)];exact q) fun c o _ q=>by rw[upd_ne (ne_of_none q hn)];exact q
    rcases hc' with z|z
    ·rw [z];exact hbT
    ·exact fun z'=>by rw[z',hT] at z;cases z
variable {params:Arguments}{body:Expr}{scope:Scope}{pos:Pos}{E:Value→Shared→Prop}
theorem lam_make (I:Inv X pins σ H s) (L:LamAt X) (hcl:closureFor scope X.env=pure []) (hdef:defaultsOf params X.env=([],[])) {Q:Value→Shared→Prop}
  (h : ∀ f c' pm ctv s' H',Inv X pins σ H' s'→Same H H'→s'.heap.get? f=some (kla_obj "<lambda>" (X.env.qual ++ "<lambda>") params body scope [] pm c' ctv)→FpOk X pins H' f→CodeFz H' c' (X.env.qual ++ "<lambda>")→Q (.ref f) s') :
  wpAny (model X.prog X.w) X.A (eval (.Lambda params body scope pos) X.env) Q E s:=by
 obtain ⟨c,T,hcode,C,hL⟩:=L
 have hT:H T=some (.tbl (X.env.qual ++ "<lambda>")):=I.base.tbls T _ (I.ok.tab T _ hL)
 obtain ⟨ps,e,htr,hgood⟩:=I.hok T _ hT
 obtain ⟨bm,ob,b1,b2,b3,b4,b5,b6⟩:=I.mod.bmain
 have hg:=I.mod.glob.keeps I.bk
 have hgP:mainGlobals≠T:=fun q=>by
  obtain ⟨o,es,ep,e',hd,_⟩:=hg
  rw [q,e] at e';cases e';cases hd
 have hbP:bm≠T:=fun q=>by
  have e':=I.bk _ _ b3
  rw [q,e] at e';cases e';cases b4
 have hbG:bm≠mainGlobals:=fun q=>by
  obtain ⟨o,es,ep,e',hd,_⟩:=hg
  have e2:=I.bk _ _ b3
  rw [q,e'] at e2;cases e2;rw[hd] at b6;cases b6
 have hB:s.heap.BuiltinsAt X.mg T:=⟨bm,ob,b1,b2,hbG,hbP,I.bk _ _ b3,b4,b5,b6⟩
 refine kla_eval hdef ?_
 cases hc:codeAmong pos ps.toList with
 | none =>
  refine kla_makeFunction hcl I.ok.glob hg hcode (C.keeps I.bk) e htr hc hgP hB fun c' ctv h' tk hx hge hlt hrec htb=>?_
  obtain ⟨c2,oc,vs,t,e2,hoc,hd,hv⟩:=hrec
  cases e2
  have ht2:TabOk (upd H c' (.frz oc (.own 0))) h' T (X.env.qual ++ "<lambda>"):=by
   refine ⟨_,htb,by rw[Array.toList_append];exact TriplesOk_snoc _ _ _ _ htr,fun p cv hcv=>?_⟩
   rw [Array.toList_append] at hcv
   rcases among_snoc _ htr hcv with hcv|rfl
   ·obtain ⟨c2,oc2,u2,vs2,t2,e1,e2,e3⟩:=hgood _ _ hcv
    exact ⟨c2,oc2,u2,vs2,t2,e1,by rw[upd_ne (ne_of_none e2 (I.hok.fresh hge))];exact e2,e3⟩
   ·exact ⟨c',oc,_,vs,t,rfl,upd_same,hd,hv⟩
  obtain ⟨I2,sm⟩:=I.grow (tk:=tk) hT hx hge hoc hd hv ht2
  have I3:=I2.kept (t':=tk) (h':=h'.push (kla_obj "<lambda>" (X.env.qual ++ "<lambda>") params body scope [] ((X.mg "__name__").getD .none) c' ctv)) fun b o e=>Heap.get?_push_of_some _ e
  exact h _ c' _ ctv _ _ I3 sm (Heap.get?_push_size _ rfl) (I2.fpOk (Nat.le_refl _) (I2.hok.fresh (Nat.le_refl _))) ⟨_,_,_,_,upd_same,hd,hv⟩
 | some cv =>
  obtain ⟨c',oc,u,vs,t,rfl,e1,hd,hv⟩:=hgood _ _ hc
  obtain ⟨hoc,_⟩:=I.hok c' _ e1
  refine kla_makeFunctionHit hcl I.ok.glob hg hcode (C.keeps I.bk) e htr hc hB fun ctv h' tk hk hsz=>?_
  have I2:=I.kept (t':=tk) hk
  have I3:=I2.kept (t':=tk) (h':=h'.push (kla_obj "<lambda>" (X.env.qual ++ "<lambda>") params body scope [] ((X.mg "__name__").getD .none) c' ctv)) fun b o e=>Heap.get?_push_of_some _ e
  exact h _ c' _ ctv _ _ I3 (Same.refl _) (Heap.get?_push_size _ rfl) (I2.fpOk (Nat.le_refl _) (I2.hok.fresh (Nat.le_refl _))) ⟨_,_,_,_,e1,hd,hv⟩
end
end L2
namespace L2
open PySem PySem.Spec PyProof.Rows PySem.W
section
variable {X:Cx}{pins:List (Addr×Obj)}{σ:St}{H:Hp}{s:Shared}{params:Arguments}{scope:Scope}{p1 p2 p3 p4 p5:Pos}{kk:Nat}{f c':Addr}{qual:Str}{pm ctv:Value}{k:Nat}{A:Around}
noncomputable def KeyEnd (X:Cx) (pins:List (Addr×Obj)) (σ:St) (H:Hp) (s:Shared) (d:PyData) (u:Value) (s':Shared):Prop :=
 ∃ H' v,Inv X pins σ H' s'∧Same H H'∧RelV v u∧DN X.K N0 H' v d∧∀ b o,FpOk X pins H b→s.heap.get? b=some o→s'.heap.get? b=some o∧H' b=none
theorem lam_key (I:Inv X pins σ H s) (hA:Env0 X.prog X.w X.K X.mg X.base A X.stack s H) (hr:Room (k+1) A) (S:FnScope ["row"] ["row"] scope) (hgl:∀ q L f c,(envOfC q scope L f c).kindOf "len" = some .globalImplicit) (hm:X.mg "len" = none)
  (hb:∀ (qual:Str) (pm c ctv u:Value),bindArgs (kla_fn "<lambda>" qual params (.Tuple [.Call (.Name "len" p1) [.Name "row" p2] [] p3,.Name "row" p4] kk p5) scope [] pm c ctv) ⟨[u],[]⟩=pure [(("row" : Str),u)])
  (ho:s.heap.get? f=some (kla_obj "<lambda>" qual params (.Tuple [.Call (.Name "len" p1) [.Name "row" p2] [] p3,.Name "row" p4] kk p5) scope [] pm c' ctv)) (hcd:s.heap.CodeRec (.ref c') qual)
  {x : V}{u:Value}{ns:List Int} (r:RelV x u) (hd:DN X.K N0 H x (.list (ns.map .int))) :
  wpAny (model X.prog X.w) A (call (.ref f) [u]) (KeyEnd X pins σ H s (.tuple [.int ns.length,.list (ns.map .int)])) (fun _ _=>False) s:=by
 obtain ⟨a,ys,rfl,sq,hys⟩:=hd.list
 have hlen:ys.length=ns.length:=by rw[hys.len,List.length_map]
 have hvis:Vis scope "row" := (S.par "row" (by simp)).elim .inl fun h=>.inr (.inl h)
 refine wpAny_call (codeAny_mono (lam_run (CX:=CX0) (E:=E0) (ps:=["row"]) (us:=[u]) (vs:=[.ref a]) (Q:=fun v H'=>∃ p,H p=none∧v=.ref p∧H'=upd H p (.tup [.int ns.length,.ref a])) S hr hA ho hcd (hb _ _ _ _ _) (.cons r .nil) rfl
  (pe_tup (pa_cons (pe_callB call_len_seq (hgl _ _ _ _) hm PySem.boot_len (pa_cons (pv 0 rfl hvis) pa_nil)) (pa_cons (pv 0 rfl hvis) pa_nil))) ?_) fun res s' hq=>?_)
 ·refine ⟨.ref a,rfl,a,ys,rfl,.inl sq.sq,.ref a,rfl,?_⟩
  refine ⟨by show 2≤sizeLine;decide,fun p hp=>⟨p,hp,rfl,?_⟩⟩
  rw [hlen]
 ·cases res with
  | error e=>exact hq.elim
  | ok fl =>
   cases fl with
   | ret v =>
    obtain ⟨v0,H',os,bare,un,hok,rv,p,hp,rfl,rfl⟩:=hq
    refine ⟨_,_,I.call' (ch:=[]) os un hok bare (fun b z=>nomatch z),Same.new hp,rv,?_,fun b o hfp e=>⟨un.keep b o e hfp.1 (fun z=>?_) (by simp),un.free b o e hfp.1 (by simp)⟩⟩
    ·exact .tup (SnT.of upd_same fun z=>z) (.cons (.int _) (.cons (hd.keep (Keep.same (Same.new hp))) .nil))
    ·rcases List.mem_cons.mp (I.stkSub b z) with z|z
     ·exact hfp.2.1 z
     ·exact hfp.2.2.1 z
   | next=>exact False.elim hq
   | brk=>exact False.elim hq
   | cont=>exact False.elim hq
end
section
variable {X:Cx}{pins:List (Addr×Obj)}{σ:St}{H0:Hp}{f:Value}{vs:List Value}{A:Around}{E:Value→Shared→Prop}{a kS:Addr}
theorem fp_call {H H':Hp}{b:Addr} (h:FpOk X pins H b) (n:H' b=none):FpOk X pins H' b:=⟨n,h.2⟩
theorem vals_snoc:∀ {xs:List V}{us:List Value}{x:V}{u:Value},Vals xs us→RelV x u→Vals (xs++[x]) (us++[u])
 | _,_,_,_,.nil,r=>.cons r .nil
 | _,_,_,_,.cons r t,q=>.cons r (vals_snoc t q)
end
end L2
namespace L2
open PySem PySem.Spec PyProof.Rows PySem.W
section
variable {X:Cx}{pins:List (Addr×Obj)}{σ:St}{H0:Hp}{f:Addr}{vs:List Value}{A:Around}{E:Value→Shared→Prop}{s:Shared}
end
section
variable {X:Cx}{K:PySem.W.Frag}{e:Expr}{t:TA}{p pos kpos lpos p1 p2 p3 p4 p5:Pos}{kk:Nat}{params:Arguments}{scope:Scope}
noncomputable def isRow (d:PyData):Prop:=∃ ns:List Int,d=.list (ns.map .int)
theorem dn_pick {N:Addr→Prop}{H:Hp}:∀ {vs:List V}{ds:List PyData}{us:List Value},DNs K N H vs ds→Vals vs us→∀ u∈us,∃ v d,RelV v u∧DN K N H v d∧d∈ds
 | _,_,_,.nil,.nil,u,h=>by cases h
 | _,_,_,.cons (d:=d) q1 q2,.cons r t,u,h=>by
  rcases List.mem_cons.mp h with rfl|h
  ·exact ⟨_,d,r,q1,by simp⟩
  ·obtain ⟨v,d,a,b,c⟩:=dn_pick q2 t u h
   exact ⟨v,d,a,b,by simp[c]⟩
variable {tl:DA}
end
section
variable {P:Program}{w:World}{K:PySem.W.Frag}{mg:Str→Option Value}{base:Heap}
noncomputable def LamFd (K:PySem.W.Frag) (base:Heap) (x:Str) (fd:FuncData):Prop:=∃ c T,fd.code=.ref c∧CodeHd base c T∧LamTab K T (x ++ ".<locals>.<lambda>")
theorem okDL {x:Str}{st:Stmt}{f:Addr}{fd:FuncData}{N ps:List Str}{k:Nat}{sp:DSp} (F:Fun K x x st f fd) (S:FnScope N ps (defScope st)) (len:∀ ss R,sp ss R→ss.length=ps.length) (hN:ps.length≤N.length)
  (hb:∀ (cdv:Value) (hcd:cdv=fd.code) (A:Around) (outer:List Env) (s:Shared) (H:Hp) (E:XK),Room k (A.deeper (envOfC x (defScope st) s.heap.objs.size f cdv)) →
   ∃ t:DS,PSs (cxOf CX0 P w K mg base N x (defScope st) f cdv A outer s H E).nox (defBody st) (upS K t)∧∀ ss R,sp ss R→t (endsD ps.length R) (startD N.length ss)):FnOk P w K mg base CX0 (k+1) f fd ps (spD K sp):=by
 obtain ⟨oc,od,kV,doc,pm,an,cdv,ct,osl,rfl,lk,hcd⟩:=F.ex
 exact okD' (fun A outer s H E hr=>hb cdv rfl A outer s H E hr) lk hcd S len hN
noncomputable def CodeVs (vs:Array Value) (c T:Addr):Prop:=vs[11]? = some (.ref T)∧vs.getD 11 .none=.ref T∧(∃ file tf,vs.getD 18 .none=.str file tf)∧(∃ i t,vs.getD 7 .none=.int i t)∧(∃ b,vs.getD 9 .none=.bool b)∧(∃ i t,vs.getD 10 .none=.int i t)∧c≠T
theorem lam_fd {x:Str}{f c T:Addr}{fd:FuncData}{oc:Value}{od odc:Option Addr}{osl slc:Array (Option Value)}{vs:Array Value} (hx:x∈lamNames) (a:PySem.W.nsIn K mainGlobals x=some (some (.ref f))) (l:K.lookup f=some ⟨oc,od,.func fd,osl⟩) (hc:fd.code=.ref c)
  (lc:K.lookup c=some ⟨.type "code",odc,.fields vs,slc⟩) (hT:CodeVs vs c T) (Xb:K.In base):LamFd K base x fd:=by
 obtain ⟨h1,h2,⟨file,tf,h3⟩,⟨i,t,h4⟩,⟨b,h5⟩,⟨j,u,h6⟩,h7⟩:=hT
 exact ⟨c,T,hc,⟨_,vs,file,tf,i,t,b,j,u,Xb _ _ lc,rfl,rfl,h1,h2,h3,h4,h5,h6,h7⟩,x,hx,f,_,fd,c,_,vs,a,l,rfl,hc,lc,rfl,h1,rfl⟩
theorem tabs_mk2 {q:Program}{loose:List Str}{XP:(Str→Option Value)→Heap→Prop}{s₀:Shared}{mb:Str→Option Value}{h:Heap}{d d':DefRec}{x y z:Str}{f c T f' c' T':Addr}{fd fd':FuncData}{oc oc':Value}{od odc od' odc':Option Addr}{osl slc osl' slc':Array (Option Value)}{vs vs':Array Value}
  (G : PySem.W.Ground q loose [] XP w s₀ mg mb h) (KX:K.In h) (hL:lamNames=[x,y,z]) (hr:(recsOf q).find? (fun e=>e.name==x)=some d) (hr':(recsOf q).find? (fun e=>e.name==y)=some d')
  (a : PySem.W.nsIn K mainGlobals x=some (some (.ref f))) (l:K.lookup f=some ⟨oc,od,.func fd,osl⟩) (hc:fd.code=.ref c) (lc:K.lookup c=some ⟨.type "code",odc,.fields vs,slc⟩) (hT:CodeVs vs c T) (hn:K.lookup T=none)
  (a':PySem.W.nsIn K mainGlobals y=some (some (.ref f'))) (l':K.lookup f'=some ⟨oc',od',.func fd',osl'⟩) (hc':fd'.code=.ref c') (lc':K.lookup c'=some ⟨.type "code",odc',.fields vs',slc'⟩) (hT':CodeVs vs' c' T') (hn':K.lookup T'=none)
  (az:PySem.W.nsIn K mainGlobals z=some none) (hne:T'≠T) :
  ∃ tb:List (Addr×Str),(∀ b q,tb.lookup b=some q→h.get? b=some { cls:=.none,data:=.fields #[] }∧K.lookup b=none∧∃ c,h.TableAt c b #[])∧∀ T q,LamTab K T q→tb.lookup T=some q:=by
 have ht:tabIn K x=some (c,T):=by
  unfold tabIn
  rw [a]
  simp only [l,hc,lc,hT.1]
 have ht':tabIn K y=some (c',T'):=by
  unfold tabIn
  rw [a']
  simp only [l',hc',lc',hT'.1]
 obtain ⟨C,g⟩:=tab_of G.T KX hr ht
 obtain ⟨C',g'⟩:=tab_of G.T KX hr' ht'
 refine ⟨[(T,x ++ ".<locals>.<lambda>"),(T',y ++ ".<locals>.<lambda>")],fun b q' e=>?_,fun T0 q' L=>?_⟩
 ·by_cases hb:b=T
  ·subst hb
   exact ⟨g,hn,c,C.tab g⟩
  ·have h1:(b==T)=false:=by simpa using hb
   by_cases hb':b=T'
   ·subst hb'
    exact ⟨g',hn',c',C'.tab g'⟩
   ·have h2:(b==T')=false:=by simpa using hb'
    simp [List.lookup_cons,h1,h2] at e
 ·obtain ⟨n,hy,f0,o0,fd0,c0,oc0,vs0,a1,a2,a3,a4,a5,a6,a7,rfl⟩:=L
  rw [hL] at hy
  simp only [List.mem_cons,List.not_mem_nil,or_false] at hy
  rcases hy with rfl|rfl|rfl
  ·rw [a] at a1
   cases a1
   rw [l] at a2
   cases a2
   cases a3
   rw [hc] at a4
   cases a4
   rw [lc] at a5
   cases a5
   cases a6
   rw [hT.1] at a7
   cases a7
   simp [List.lookup_cons]
  ·rw [a'] at a1
   cases a1
   rw [l'] at a2
   cases a2
   cases a3
   rw [hc'] at a4
   cases a4
   rw [lc'] at a5
   cases a5
   cases a6
   rw [hT'.1] at a7
   cases a7
   have h1:(T'==T)=false:=by simpa using hne
   simp [List.lookup_cons,h1]
  ·rw [az] at a1
   cases a1
end
end L2
namespace L2
open PySem PySem.Spec PyProof.Rows PySem.W
section
variable {X:Cx}{K:PySem.W.Frag}{e1 e2:Expr}{tl:DA}{p pos:Pos}
end
end L2
namespace L2
open PySem PySem.Spec PyProof.Rows PySem.W
open PySem.SeqAt PySem.MeetsSeq PySem.MeetsSeq2 PySem.MeetsSeq3 PySem.SeqRoads2
open PySem.AutoSeq1 (wpAny_loadPart')
noncomputable def At (items:Array Value) (ns:List Int):Prop:=ns.length=items.size∧∀ j (h:j<items.size),∃ t,items[j]=Value.int (ns.getD j 0) t
theorem lex_drop {ns ms:List Int}{i:Nat} (h1:i<ns.length) (h2:i<ms.length):HT.lexLt (ns.drop i) (ms.drop i)=if ns.getD i 0=ms.getD i 0 then HT.lexLt (ns.drop (i+1)) (ms.drop (i+1)) else decide (ns.getD i 0<ms.getD i 0):=by
 have e1:ns.drop i=ns.getD i 0::ns.drop (i+1):=by rw[List.drop_eq_getElem_cons h1];simp[List.getD_eq_getElem?_getD,h1]
 have e2:ms.drop i=ms.getD i 0::ms.drop (i+1):=by rw[List.drop_eq_getElem_cons h2];simp[List.getD_eq_getElem?_getD,h2]
 rw [e1,e2,HT.lexLt_cons]
theorem lt_loopX (l b:Addr) (items items2:Array Value) (n n2:Nat) (dd dd2:Option Addr) (sl sl2:Array (Option Value)) (ns ms:List Int) (at1:At items ns) (at2:At items2 ms) (k:Nat) :
  ∀ i : Nat,items.size - i=k→i≤items.size→i≤items2.size→Meets (Builtin.«list.__eq__.loop» ⟨[.ref l,.ref b,rawInt i,rawInt 0],[]⟩)
   (fun A R s=>s.heap.get? l=some { cls:=.type "list",dict:=dd,data:=.seq items n,slots:=sl }∧s.heap.get? b=some { cls:=.type "list",dict:=dd2,data:=.seq items2 n2,slots:=sl2 } ∧
    R (.ok (.ret (.bool (HT.lexLt (ns.drop i) (ms.drop i))))) s):=by
 induction k with
 | zero =>
  intro i hk hi1' hi2' prog w A R s h
  obtain ⟨hp,g,d,tk,os⟩:=s;obtain⟨hl,hb,h⟩:=h
  wp_walk using wpAny_loadPart' hl,wpAny_loadPart' hb
  have hi1:items[((i:Nat):Int).toNat]? = none:=by simp;omega
  rw [hi1]
  wp_walk using wpAny_loadPart' hl,wpAny_loadPart' hb
  have hv:HT.lexLt (ns.drop i) (ms.drop i)=decide (items.size<items2.size):=by
   rw [List.drop_of_length_le (by rw[at1.1];omega)]
   by_cases hm:i<ms.length
   ·rw [List.drop_eq_getElem_cons hm,HT.lexLt_nil_cons,decide_eq_true (by rw[at2.1] at hm;omega)]
   ·rw [List.drop_of_length_le (by omega),HT.lexLt_nil_nil,decide_eq_false (by rw[at2.1] at hm;omega)]
  rw [hv] at h
  exact h
 | succ k ih =>
  intro i hk hi1' hi2' prog w A R s h
  obtain ⟨hp,g,d,tk,os⟩:=s;obtain⟨hl,hb,h⟩:=h
  wp_walk using wpAny_loadPart' hl,wpAny_loadPart' hb
  have hlt:i<items.size:=by omega
  have hi1:items[((i:Nat):Int).toNat]? = some items[i]:=by simp[hlt]
  have hc:((i:Int)+1)=((i+1:Nat):Int):=by push_cast;rfl
  rw [hi1]
  by_cases hlt2:i<items2.size
  ·have hi2:items2[((i:Nat):Int).toNat]? = some items2[i]:=by simp[hlt2]
   rw [hi2]
   obtain ⟨t,e1⟩:=at1.2 i hlt
   obtain ⟨u,e2⟩:=at2.2 i hlt2
   rw [lex_drop (by rw[at1.1];exact hlt) (by rw[at2.1];exact hlt2)] at h
   rw [e1,e2]
   refine wpAny_bind (wpAny_eqBool_int ?_)
   by_cases hb':ns.getD i 0=ms.getD i 0
   ·rw [if_pos hb'] at h
    rw [show (ns.getD i 0==ms.getD i 0)=true by simpa using hb']
    wp_walk
    rw [hc]
    exact ⟨plainId_quiet plain_eq_loop _,codeAny_builtin entry_eq_loop (by
     rw [Around.under_plainId plain_eq_loop _]
     exact ih (i+1) (by omega) (by omega) (by omega) prog w A R _ ⟨hl,hb,h⟩)⟩
   ·rw [if_neg hb'] at h
    rw [show (ns.getD i 0==ms.getD i 0)=false by simpa using hb']
    wp_walk using wpAny_loadPart' hl,wpAny_loadPart' hb
    rw [hi1,hi2,e1,e2]
    refine wpAny_bind (show wpAny (model prog w) A.in1 (compareOp .Lt (.int (ns.getD i 0) t) (.int (ms.getD i 0) u)) _ _ _ from wpAny_lt_int (wpAny_pure h))
  ·have hi2:items2[((i:Nat):Int).toNat]? = none:=by simp;omega
   rw [hi2]
   wp_walk using wpAny_loadPart' hl,wpAny_loadPart' hb
   have hv:HT.lexLt (ns.drop i) (ms.drop i)=decide (items.size<items2.size):=by
    rw [List.drop_of_length_le (l:=ms) (by rw[at2.1];omega),List.drop_eq_getElem_cons (l:=ns) (by rw[at1.1];exact hlt),HT.lexLt_cons_nil,decide_eq_false (by omega)]
   rw [hv] at h
   exact h
theorem list_ltX (l b:Addr) (items items2:Array Value) (n n2:Nat) (dd dd2:Option Addr) (sl sl2:Array (Option Value)) (ns ms:List Int) (at1:At items ns) (at2:At items2 ms) :
  Meets (Builtin.«list.__lt__» ⟨[.ref l,.ref b],[]⟩)
   (fun A R s=>s.heap.get? l=some { cls:=.type "list",dict:=dd,data:=.seq items n,slots:=sl }∧s.heap.get? b=some { cls:=.type "list",dict:=dd2,data:=.seq items2 n2,slots:=sl2 } ∧
    R (.ok (.ret (.bool (HT.lexLt ns ms)))) s):=by
 intro prog w A R s h
 obtain ⟨hp,g,d,tk,os⟩:=s;obtain⟨hl,hb,h⟩:=h
 have f3:=AutoSeq1.sub_list_list
 wp_walk using wpAny_loadPart' hl,wpAny_loadPart' hb
 exact ⟨plainId_quiet plain_eq_loop _,codeAny_builtin entry_eq_loop (by
  rw [Around.under_plainId plain_eq_loop _]
  exact lt_loopX l b items items2 n n2 dd dd2 sl sl2 ns ms at1 at2 _ 0 rfl (Nat.zero_le _) (Nat.zero_le _) prog w A R _ ⟨hl,hb,h⟩)⟩
noncomputable def keyLt (a b:Int×List Int):Bool:=if a.1=b.1 then (if a.2=b.2 then false else HT.lexLt a.2 b.2) else decide (a.1<b.1)
section
variable {prog:Program}{w:World}{A:Around}{E:Value→Shared→Prop}{s:Shared}
theorem lt_listsX {l b:Addr}{items items2:Array Value}{ns ms:List Int}{Q:Value→Shared→Prop} (hl:s.heap.IsList l items) (hb:s.heap.IsList b items2) (at1:At items ns) (at2:At items2 ms)
  (hu:A.units<cLine) (h:Q (.bool (HT.lexLt ns ms)) s):wpAny (model prog w) A (compareOp .Lt (.ref l) (.ref b)) Q E s:=by
 obtain ⟨⟨cls,dd,data,sl⟩,ho,hc,n,hd⟩:=id hl
 obtain ⟨⟨cls2,dd2,data2,sl2⟩,ho2,hc2,n2,hd2⟩:=id hb
 simp only at hc hd hc2 hd2
 subst hc hd hc2 hd2
 exact richCompare_meets_room (op:=.Lt) ⟨_,ho,rfl⟩ ⟨_,ho2,rfl⟩ F.slot_list_lt F.entry_list_lt (F.args_list_lt_2 _ _) (list_ltX l b items items2 n n2 dd dd2 sl sl2 ns ms at1 at2)
  ⟨ho,ho2,show Value.bool (HT.lexLt ns ms)≠Value.notImplemented∧Q (.bool (HT.lexLt ns ms)) s from ⟨(fun x=>nomatch x),h⟩⟩ hu
noncomputable def KeyX (h:Heap) (v:Value) (k:Int×List Int):Prop:=∃ (a:Addr) (o:Obj) (n:Nat) (t:Tok) (l:Addr) (its:Array Value) (as:List Addr),v=.ref a∧h.get? a=some o∧o.cls=.type "tuple" ∧ o.data=.seq #[.int k.1 t,.ref l] n∧h.IsList l its∧At its k.2∧Reads h (.ref l) (.list (k.2.map PyData.int)) as
theorem KeyX.v {h:Heap}{v:Value}{k:Int×List Int} (x:KeyX h v k):KeyV h v:=by
 obtain ⟨a,o,n,t,l,its,as,e1,e2,e3,e4,e5,e6,e7⟩:=x
 exact ⟨a,o,n,k.1,t,l,its,k.2,as,e1,e2,e3,e4,e5,fun j hj=>let ⟨u,e⟩:=e6.2 j hj;⟨_,u,e⟩,e7⟩
theorem key_ltX {u v:Value}{k k':Int×List Int}{C:Bool→Shared→Prop}{E:Value→Shared→Prop} (hu:A.units+64<cLine) (k1:KeyX s.heap u k) (k2:KeyX s.heap v k') (h:C (keyLt k k') s):wpAny (model prog w) A (keyLt' (tuples' true) u v) C E s:=by
 obtain ⟨a,o,n,t,l,its,as,rfl,e,c,d,i1,i2,i3⟩:=k1
 obtain ⟨a',o',n',t',l',its',as',rfl,e',c',d',j1,j2,j3⟩:=k2
 unfold keyLt at h
 refine kat_lt e d e' d' ?_
 refine kat_cons (wpAny_eqBool_int ?_)
 refine kat_go (fun he=>kat_yes ?_) fun he=>kat_no (oneLt_int ?_)
 rotate_left
 ·rw [if_neg (by simpa using he)] at h
  exact h
 rw [if_pos (by simpa using he)] at h
 refine kat_cons (SeqAt.eqBoolOverData _ _ _ _ _ _ _ _ _ _ _ _ i3 j3 ?_ ?_ ?_ ?_)
 ·simp [PyData.canLay0,lay_ints]
 ·simp [PyData.canLay0,lay_ints]
 ·have:∀ ns:List Int,(PyData.list (ns.map PyData.int)).depth≤64:=fun ns=>by
   have:=shp_I ns
   exact SeqAt.depth_of_shaped this
  have:=this k.2
  have:=Nat.min_le_left (PyData.list (k.2.map PyData.int)).depth (PyData.list (k'.2.map PyData.int)).depth
  omega
 ·refine kat_go (fun he2=>kat_yes (kat_nil ?_)) fun he2=>kat_no (kat_one _ _ ?_)
  ·rw [eqv_I] at he2
   rw [if_pos (of_decide_eq_true he2)] at h
   exact h
  ·refine lt_listsX i1 j1 i2 j2 (by omega) ?_
   rw [eqv_I] at he2
   rw [if_neg (of_decide_eq_false he2)] at h
   exact h
noncomputable def kasRun {α:Type} (lt:Nat→Nat→Bool):KasT α→α
 | .ret a=>a
 | .ask i j k=>kasRun lt (k (lt i j))
theorem KAll.run {α:Type}{n:Nat}{P:α→Prop}{lt:Nat→Nat→Bool}:∀ {t:KasT α},KAll n P t→P (kasRun lt t)
 | .ret a,h=>h
 | .ask i j k,h=>show P (kasRun lt (k (lt i j))) from KAll.run (t:=k (lt i j)) (h.2.2 _)
theorem kas_det {α:Type}{n:Nat}{cmp:Nat→Nat→(Bool→Shared→Prop)→Shared→Prop}{P:α→Prop}{lt:Nat→Nat→Bool}{Q:α→Shared→Prop} (I:Shared→Prop)
  (hc:∀ i j C s,i<n→j<n→I s→(∀ s',I s'→C (lt i j) s')→cmp i j C s):∀ {t:KasT α}{s:Shared},KAll n P t→(∀ s,I s→Q (kasRun lt t) s)→I s→t.kasWp cmp Q s
 | .ret a,s,h,hQ,i=>hQ s i
 | .ask x y k,s,h,hQ,i=>hc x y _ s h.1 h.2.1 i fun s' i'=>kas_det I hc (h.2.2 (lt x y)) hQ i'
noncomputable def srtIx (ks:List (Int×List Int)):List Nat:=if ks.length<2 then List.range ks.length else (kasRun (fun i j=>keyLt (ks.getD i (0,[])) (ks.getD j (0,[]))) (kas_sort ks.length)).toList
theorem srtIx_perm (ks:List (Int×List Int)):(srtIx ks).Perm (List.range ks.length):=by
 unfold srtIx
 split
 ·exact .refl _
 ·exact (KAll.run (sort_all (n:=ks.length) (by omega))).list
noncomputable def pick {α:Type} (p:List Nat) (xs:List α) (d:α):List α:=p.map fun i=>xs.getD i d
noncomputable def KeyOkX (prog:Program) (w:World) (A:Around) (vs:List Value) (ks:List (Int×List Int)) (s:Shared):Prop :=
 wpAny (model prog w) A (keyKind' vs.toArray) (fun κ s'=>s'=s∧∀ i j (C:Bool→Shared→Prop),i<vs.length→j<vs.length→C (keyLt (ks.getD i (0,[])) (ks.getD j (0,[]))) s→kas_ask prog w A κ vs i j C s) (fun _ _=>False) s
theorem key_okX {us:List Value}{ks:List (Int×List Int)} (hu:A.units+64<cLine) (h2:2≤us.length) (hl:ks.length=us.length) (k:∀ i (h:i<us.length),KeyX s.heap us[i] (ks.getD i (0,[]))):KeyOkX prog w A us ks s:=by
 obtain ⟨fs,h1,h3,h4⟩:=key_firsts (h:=s.heap) (us:=us) fun u hu=>by
  obtain ⟨i,hi,rfl⟩:=List.getElem_of_mem hu
  exact (k i hi).v
 refine kat_kind (T:=.type "int") h1 (by omega) (fun v hv=>?_) (by rfl) ⟨rfl,fun i j C hi hj hc=>?_⟩
 ·obtain ⟨x,t,rfl⟩:=h4 v hv
  exact .now
 ·have e1:us.getD i Value.none=us[i]:=by simp[hi]
  have e2:us.getD j Value.none=us[j]:=by simp[hj]
  show wpAny (model prog w) A (keyLt' _ (us.getD i Value.none) (us.getD j Value.none)) C (fun _ _=>False) s
  rw [e1,e2]
  exact key_ltX hu (k i hi) (k j hj) hc
end
end L2
namespace L2
open PySem PySem.Spec PyProof.Rows PySem.W
noncomputable def keyD:PyData→Int×List Int
 | .tuple [.int n,.list es]=>(n,(intsOf es).getD [])
 | _=>(0,[])
section
variable {X:Cx}{pins:List (Addr×Obj)}{σ:St}{H:Hp}{s:Shared}
theorem at_of:∀ {ns:List Int}{vs:List V}{us:List Value},DVs X.K H vs (ns.map .int)→Vals vs us→ns.length=us.length∧∀ j (h:j<us.length),∃ t,us[j]=Value.int (ns.getD j 0) t
 | [],_,_,.nil,.nil=>⟨rfl,fun j h=>by simp at h⟩
 | n :: ns,_,_,.cons d q,.cons r t=>by
  obtain ⟨h1,h2⟩:=at_of q t
  refine ⟨by simp[h1],fun j h=>?_⟩
  cases j with
  | zero =>
   cases d
   obtain ⟨t,rfl⟩:=r
   exact ⟨t,rfl⟩
  | succ j =>
   obtain ⟨u,e⟩:=h2 j (by simpa using h)
   exact ⟨u,by simpa using e⟩
theorem key_ofX (I:Inv X pins σ H s) {v:V}{d:PyData}{u:Value} (hd:DV X.K H v d) (r:RelV v u) (k:isKey d):KeyX s.heap u (keyD d):=by
 obtain ⟨n,ns,rfl⟩:=k
 have ek:keyD (.tuple [.int n,.list (ns.map .int)])=(n,ns):=by
  show (n,(intsOf (ns.map .int)).getD [])=_
  rw [intsOf_map]
  rfl
 rw [ek]
 obtain ⟨a,xs,rfl,h,q⟩:=hd.tupI
 obtain ⟨x,y,rfl,q1,q2⟩:=q.twoI
 obtain ⟨its,rv,⟨o,e,c,m,hd⟩,_⟩:=I.tuple h
 obtain ⟨w1,w2,rfl,r1,r2⟩:=vals2 rv
 rw [q1.intI] at r1
 obtain ⟨t,rfl⟩:=r1
 obtain ⟨as,ra⟩:=q2.reads I r2 (by simpa only [PyData.canLay0] using lay0_ints _)
 obtain ⟨l,ys,rfl,h2,q2⟩:=q2.lstI
 have e2:w2=Value.ref l:=r2
 have e3:u=Value.ref a:=r
 subst e2 e3
 obtain ⟨jts,rj,pl,_⟩:=I.list h2
 obtain ⟨h1,h2⟩:=at_of q2 rj
 exact ⟨a,o,m,t,l,jts.toArray,as,rfl,e,c,hd,pl.isList,⟨by simpa using h1,fun j hj=>h2 j (by simpa using hj)⟩,ra⟩
theorem keys_ofX (I:Inv X pins σ H s):∀ {vs:List V}{ds:List PyData}{us:List Value},DVs X.K H vs ds→Vals vs us→(∀ d∈ds,isKey d)→(ds.map keyD).length=us.length∧∀ i (h:i<us.length),KeyX s.heap us[i] ((ds.map keyD).getD i (0,[]))
 | _,_,_,.nil,.nil,_=>⟨rfl,fun i h=>by simp at h⟩
 | _,_,_,.cons d q,.cons r t,k=>by
  obtain ⟨h1,h2⟩:=keys_ofX I q t fun d hd=>k d (by simp[hd])
  refine ⟨by simpa using h1,fun i h=>?_⟩
  cases i with
  | zero=>simpa using key_ofX I d r (k _ (by simp))
  | succ i=>simpa using h2 i (by simpa using h)
end
section
variable {prog:Program}{w:World}{A:Around}{E:Value→Shared→Prop}{s:Shared}
theorem srt_listX {a:Addr}{vs:List Value}{ks:List (Int×List Int)}{n:Nat}{P:PySem.Fin→Shared→Prop} (ho:s.heap.get? a=some (seqObj "list" vs.toArray n)) (h64:vs.length<64) (hkl:ks.length=vs.length)
  (hk:2≤vs.length→∀ h',(∀ b o,b≠a→s.heap.get? b=some o→h'.get? b=some o)→KeyOkX prog w A vs ks { s with heap:=h' })
  (h : ∀ h' c,(∀ b o,b≠a→s.heap.get? b=some o→h'.get? b=some o)→h'.get? a=some (seqObj "list" (pick (srtIx ks) vs Value.none).toArray c)→P (.done (.ret .none)) { s with heap:=h' }) :
  wpAny (model prog w) A (Builtin.«list.sort» ⟨[.ref a],[]⟩) P E s:=by
 have ha:a<s.heap.objs.size:=Heap.lt_size ho
 have s1:=Heap.SameBut.update s.heap a (Obj.mapSeq fun _=>(#[]:Array Value))
 obtain ⟨e1,ho1⟩:∃ e1,(s.heap.update a (Obj.mapSeq fun _=>(#[]:Array Value))).get? a=some (seqObj "list" #[] e1):=⟨_,get?_update_seq ho fun _=>#[]⟩
 have keep:∀ b o,b≠a→s.heap.get? b=some o→(((s.heap.update a (Obj.mapSeq fun _=>(#[]:Array Value))).push (seqObj "tuple" vs.toArray 0)).push (seqObj "list" #[] 0)).get? b=some o:=fun b o hb e =>
  Heap.get?_push_of_some _ (Heap.get?_push_of_some _ ((s1.2 b hb).trans e))
 have ho3:(((s.heap.update a (Obj.mapSeq fun _=>(#[]:Array Value))).push (seqObj "tuple" vs.toArray 0)).push (seqObj "list" #[] 0)).get? a=some (seqObj "list" #[] e1):=Heap.get?_push_of_some _ (Heap.get?_push_of_some _ ho1)
 have fin:∀ (ws:List Value),∃ c,(((((s.heap.update a (Obj.mapSeq fun _=>(#[]:Array Value))).push (seqObj "tuple" vs.toArray 0)).push (seqObj "list" #[] 0))).update a (Obj.mapSeq fun _=>ws.toArray)).get? a=some (seqObj "list" ws.toArray c):=fun ws=>⟨_,get?_update_seq ho3 fun _=>ws.toArray⟩
 rw [list_sort_plain]
 refine wpAny_bind (listItems_at ho rfl ?_)
 refine wpAny_bind (listUpdate_at ho rfl ?_ (by rw[List.size_toArray,sizeLine_eq];omega) (Nat.zero_le _))
 refine wpAny_bind (seqEpoch_at ho1 rfl ?_)
 refine wpAny_bind (wpAny_newTuple ?_ (by show vs.length≤_;rw[sizeLine_eq];omega))
 refine wpAny_bind (wpAny_newList ?_ (Nat.zero_le _))
 refine wpAny_holding ?_
 show wpAny (model prog w) A _ P E { s with heap:=((s.heap.update a (Obj.mapSeq fun _=>(#[]:Array Value))).push (seqObj "tuple" vs.toArray 0)).push (seqObj "list" #[] 0) }
 dsimp only
 by_cases h2:2≤vs.length
 ·have hn2:¬vs.toArray.size<2:=by rw[List.size_toArray];omega
  rw [if_neg hn2,if_neg hn2]
  refine wpAny_bind (wpAny_mono (hk h2 _ keep) (fun κ s0 hk=>?_) fun _ _ x=>x.elim)
  obtain ⟨rfl,hask⟩:=hk
  have hix:srtIx ks=(kasRun (fun i j=>keyLt (ks.getD i (0,[])) (ks.getD j (0,[]))) (kas_sort vs.length)).toList:=by
   unfold srtIx
   rw [if_neg (by omega),hkl]
  refine wpAny_bind (wpAny_mono (kat_run (κ:=κ) (A:=A) (prog:=prog) (w:=w) (ks:=vs) (vs:=vs) (G:=fun p s'=>p=kasRun (fun i j=>keyLt (ks.getD i (0,[])) (ks.getD j (0,[]))) (kas_sort vs.length)∧s'={ s with heap:=((s.heap.update a (Obj.mapSeq fun _=>(#[]:Array Value))).push (seqObj "tuple" vs.toArray 0)).push (seqObj "list" #[] 0) })
   (Q := fun st' s'=>∃ p:Array Nat,p=kasRun (fun i j=>keyLt (ks.getD i (0,[])) (ks.getD j (0,[]))) (kas_sort vs.length)∧p.size=vs.length∧arrOf st'=p.map (kas_item (vs.toArray.zip vs.toArray))∧failedOf st'=none∧s'={ s with heap:=((s.heap.update a (Obj.mapSeq fun _=>(#[]:Array Value))).push (seqObj "tuple" vs.toArray 0)).push (seqObj "list" #[] 0) })
   rfl h2 h64 (fun p' st' s' a1 a2 a3 a4=>⟨p',a4.1,a1,a2,a3,a4.2⟩) (kas_det (fun s'=>s'={ s with heap:=((s.heap.update a (Obj.mapSeq fun _=>(#[]:Array Value))).push (seqObj "tuple" vs.toArray 0)).push (seqObj "list" #[] 0) }) (fun i j C s' hi hj e hc=>by subst e;exact hask i j C hi hj (hc _ rfl)) (sort_all (n:=vs.length) (by omega)) (fun s' e=>⟨rfl,e⟩) rfl)) ?_ fun _ _ e=>e)
  rintro ⟨⟨⟩,st'⟩ s' ⟨p,hpn,hp,har,hf,rfl⟩
  dsimp only
  have hout:=kat_snds rfl har
  have hsz:(List.toArray (p.toList.map fun i=>vs.getD i Value.none)).size=vs.length:=by rw[List.size_toArray,List.length_map,Array.length_toList,hp]
  rw [hout]
  obtain ⟨c2,hc2⟩:=fin (p.toList.map fun i=>vs.getD i Value.none)
  refine wpAny_bind (seqEpoch_at ho3 rfl ?_)
  refine wpAny_bind (listUpdate_at ho3 rfl ?_ (Nat.zero_le _) (Nat.le_trans (Nat.le_of_eq hsz) (by rw[sizeLine_eq];omega)))
  rw [hf]
  simp only [bne_self_eq_false,Bool.false_eq_true,if_false]
  refine wpAny_pure (h _ c2 (fun b o hb e=>?_) ?_)
  ·exact ((Heap.SameBut.update _ a _).2 b hb).trans (keep b o hb e)
  ·rw [hix,←hpn]
   exact hc2
 ·have hn2:vs.toArray.size<2:=by rw[List.size_toArray];omega
  rw [if_pos hn2,if_pos hn2]
  refine wpAny_bind (wpAny_pure ?_)
  refine wpAny_bind (wpAny_pure ?_)
  have hout:(arrOf (SortSt.mk' general' (vs.toArray.zip vs.toArray) #[] 7 none)).map (·.2)=vs.toArray:=by
   show (vs.toArray.zip vs.toArray).map (·.2)=_
   apply Array.toList_inj.mp
   simp
   exact List.map_snd_zip (Nat.le_refl _)
  dsimp only
  rw [hout]
  obtain ⟨c2,hc2⟩:=fin vs
  have hpk:pick (srtIx ks) vs Value.none=vs:=by
   unfold srtIx pick
   rw [if_pos (by omega),hkl]
   apply List.ext_getElem
   ·simp
   ·intro i h1 h2
    simp at h1
    simp [h1]
  refine wpAny_bind (seqEpoch_at ho3 rfl ?_)
  refine wpAny_bind (listUpdate_at ho3 rfl ?_ (Nat.zero_le _) (by rw[List.size_toArray,sizeLine_eq];omega))
  simp only [bne_self_eq_false,Bool.false_eq_true,if_false]
  refine wpAny_pure (h _ c2 (fun b o hb e=>?_) (by rw[hpk];exact hc2))
  exact ((Heap.SameBut.update _ a _).2 b hb).trans (keep b o hb e)
theorem srt_sortedX {l:Addr}{vs:List Value}{ks:List (Int×List Int)}{Q:Value→Shared→Prop} (hl:s.heap.IsList l vs.toArray) (h64:vs.length<64) (hkl:ks.length=vs.length)
  (hk:2≤vs.length→∀ h',(∀ b o,s.heap.get? b=some o→h'.get? b=some o)→KeyOkX prog w A.in1.in1 vs ks { s with heap:=h' })
  (h : ∀ D h' c,(∀ b o,s.heap.get? b=some o→h'.get? b=some o)→s.heap.objs.size≤D→h'.get? D=some (seqObj "list" (pick (srtIx ks) vs Value.none).toArray c)→Q (.ref D) { s with heap:=h' }) :
  wpAny (model prog w) A (call (.builtin "sorted") [.ref l]) Q E s:=by
 refine Calls.call_function_entry kind_sorted plain_sorted entry_sorted (args_sorted1 _) ?_
 unfold Builtin.«sorted»
 refine wpAny_bind (m:=checkCount "sorted" 1 1 _) (wpAny_pure ?_)
 refine wpAny_bind (collect_list hl ?_ (by rw[sizeLine_eq];omega))
 refine wpAny_bind (wpAny_newList ?_ (by rw[sizeLine_eq];omega))
 have hsz:((s.heap.push (seqObj "list" #[] 0)).update s.heap.objs.size (Obj.mapSeq (·++vs.toArray))).objs.size=s.heap.objs.size+1:=by
  rw [Heap.size_update,size_push']
 have hoL:(((s.heap.push (seqObj "list" #[] 0)).update s.heap.objs.size (Obj.mapSeq (·++vs.toArray))).push (seqObj "list" vs.toArray 0)).get? (s.heap.objs.size+1)=some (seqObj "list" vs.toArray 0):=by
  rw [←hsz];exact Heap.get?_push_size _ rfl
 have keep:∀ b o,s.heap.get? b=some o→(((s.heap.push (seqObj "list" #[] 0)).update s.heap.objs.size (Obj.mapSeq (·++vs.toArray))).push (seqObj "list" vs.toArray 0)).get? b=some o:=fun b o q=>by
  have hlt:b<s.heap.objs.size:=Heap.lt_size q
  rw [Heap.get?_push_ne _ _ _ (by rw[hsz];exact Nat.ne_of_lt (Nat.lt_succ_of_lt hlt)),Heap.get?_update_ne _ _ _ _ (Nat.ne_of_lt hlt),Heap.get?_push_ne _ _ _ (Nat.ne_of_lt hlt)]
  exact q
 have ne:∀ b o,s.heap.get? b=some o→b≠s.heap.objs.size+1:=fun b o q=>by
  exact Nat.ne_of_lt (Nat.lt_succ_of_lt (Heap.lt_size q))
 show wpAny _ _ _ _ _ { s with heap:=((s.heap.push (seqObj "list" #[] 0)).update s.heap.objs.size (Obj.mapSeq (·++vs.toArray))).push (seqObj "list" vs.toArray 0) }
 rw [hsz]
 refine wpAny_bind (wpAny_holding (wpAny_call_entry slot_list_sort ⟨_,hoL,rfl⟩ entry_list_sort ?body (args_list_sort _)))
 case body =>
  refine srt_listX (s:={ s with heap:=((s.heap.push (seqObj "list" #[] 0)).update s.heap.objs.size (Obj.mapSeq (·++vs.toArray))).push (seqObj "list" vs.toArray 0) }) hoL h64 hkl
   (fun h2 h' k=>hk h2 h' fun b o e=>k b o (ne b o e) (keep b o e)) fun h' c k hD=>⟨_,rfl,wpAny_pure ⟨_,rfl,?_⟩⟩
  exact h _ h' c (fun b o e=>k b o (ne b o e) (keep b o e)) (Nat.le_succ _) hD
end
end L2
namespace L2
open PySem PySem.Spec PyProof.Rows PySem.W
theorem vals_pick {vs:List V}{us:List Value} (r:Vals vs us):∀ {p:List Nat},(∀ i∈p,i<vs.length)→Vals (pick p vs .non) (pick p us Value.none)
 | [],_=>.nil
 | i::p,h=>by
  have hi:=h i (by simp)
  obtain ⟨u,e,ru⟩:=r.get (i:=i) (x:=vs[i]) (by simp[hi])
  have e1:vs.getD i .non=vs[i]:=by simp[List.getD_eq_getElem?_getD,hi]
  have e2:us.getD i Value.none=u:=by rw[List.getD_eq_getElem?_getD,e];rfl
  show Vals (vs.getD i .non::pick p vs .non) (us.getD i Value.none::pick p us Value.none)
  rw [e1,e2]
  exact .cons ru (vals_pick r fun j hj=>h j (by simp[hj]))
theorem dns_pick {K:PySem.W.Frag}{N:Addr→Prop}{H:Hp}{vs:List V}{ds:List PyData} (q:DNs K N H vs ds):∀ {p:List Nat},(∀ i∈p,i<vs.length)→DNs K N H (pick p vs .non) (pick p ds .none)
 | [],_=>.nil
 | i :: p,h=>by
  have hi:=h i (by simp)
  have hl:=q.len
  have hm:(vs[i],ds[i]'(by omega))∈vs.zip ds:=by
   rw [List.mem_iff_getElem?]
   exact ⟨i,by rw[List.getElem?_zip_eq_some];exact⟨List.getElem?_eq_getElem _,List.getElem?_eq_getElem _⟩⟩
  have e1:vs.getD i .non=vs[i]:=by simp[List.getD_eq_getElem?_getD,hi]
  have e2:ds.getD i .none=ds[i]'(by omega):=by simp[List.getD_eq_getElem?_getD,show i<ds.length by omega]
  show DNs K N H (vs.getD i .non::pick p vs .non) (ds.getD i .none::pick p ds .none)
  rw [e1,e2]
  exact .cons (dns_zip q _ hm) (dns_pick q fun j hj=>h j (by simp[hj]))
theorem srtIx_lt {ks:List (Int×List Int)}:∀ i∈srtIx ks,i<ks.length:=fun i hi=>List.mem_range.mp ((srtIx_perm ks).mem_iff.mp hi)
section
variable {X:Cx}{K:PySem.W.Frag}
variable {e:Expr}{p pos:Pos}{tl:DA}
end
section
variable {X:Cx}{pins:List (Addr×Obj)}{σ:St}{H0:Hp}{f:Value}{vs:List Value}{A:Around}{E:Value→Shared→Prop}{a kS:Addr}
structure KeyStX (X:Cx) (pins:List (Addr×Obj)) (σ:St) (H0:Hp) (a kS:Addr) (e1:Nat) (kds:List PyData) (ks:List Value) (s:Shared):Prop where
 ex : ∃ H kv c,Inv X pins σ H s∧Same H0 H∧Vals kv ks∧DNs X.K N0 H kv (kds.take ks.length)∧FpOk X pins H a∧FpOk X pins H kS∧s.heap.get? kS=some (seqObj "list" ks.toArray c)
 la : s.heap.get? a=some (seqObj "list" #[] e1)
theorem srtK_loopX {e1 n:Nat}{kds:List PyData} (ne:a≠kS) (hn:n<64) {body:Value→PUnit→Sem (ForInStep PUnit)}
  (hb:∀ x ks e (s:Shared) (C:Value→Shared→Prop),List.length ks<64→wpAny (model X.prog X.w) A (call f [x]) (fun k s1=>s1.heap.get? kS=some (seqObj "list" (List.toArray ks) e)∧C k s1) (fun _ _=>False) s →
   wpAny (model X.prog X.w) A (body x ⟨⟩) (fun r s'=>r=.yield ⟨⟩∧∃ k s1 c,C k s1∧s'={ s1 with heap:=s1.heap.update kS (Obj.mapSeq (·.push k)) }∧s'.heap.get? kS=some (seqObj "list" (List.toArray (ks++[k])) c)) E s)
  (hkn:kds.length=vs.length) (call:∀ i (h:i<vs.length),∀ H s,Inv X pins σ H s→Same H0 H→wpAny (model X.prog X.w) A (call f [vs[i]]) (KeyEnd X pins σ H s (kds.getD i .none)) (fun _ _=>False) s) :
  ∀ (r ks:List Value) (s:Shared),r=vs.drop ks.length→ks.length+r.length=n→KeyStX X pins σ H0 a kS e1 kds ks s →
   wpAny (model X.prog X.w) A (forIn r PUnit.unit body) (fun _ s'=>∃ ks,ks.length=n∧KeyStX X pins σ H0 a kS e1 kds ks s') E s
 | [],ks,s,_,hl,h=>by
  rw [List.forIn_nil]
  exact wpAny_pure ⟨ks,by simpa using hl,h⟩
 | x :: r,ks,s,hr,hl,h=>by
  rw [List.length_cons] at hl
  rw [List.forIn_cons]
  obtain ⟨⟨H,kv,c,I,sm,rv,dn,fa,fk,gk⟩,la⟩:=h
  have hix:ks.length<vs.length:=by
   have:=congrArg List.length hr
   rw [List.length_drop,List.length_cons] at this
   omega
  have hx:vs[ks.length]=x∧r=vs.drop (ks.length+1):=by
   rw [List.drop_eq_getElem_cons hix] at hr
   injection hr with h1 h2
   exact ⟨h1.symm,h2⟩
  have hc:=call ks.length hix H s I sm
  rw [hx.1] at hc
  refine wpAny_bind (wpAny_mono (hb x ks c s (fun k s1=>KeyEnd X pins σ H s (kds.getD ks.length .none) k s1) (by omega) (wpAny_mono hc (fun k s1 hk1=>?_) fun _ _ z=>z)) (fun q s' hq=>?_) fun _ _ z=>z)
  ·obtain ⟨H',v,I',sm',rv',dn',kp⟩:=id hk1
   exact ⟨(kp kS _ fk gk).1,hk1⟩
  ·obtain ⟨rfl,k,s1,c2,⟨H',v,I',sm',rv',dn',kp⟩,es,gk'⟩:=hq
   subst es
   have fk':=fp_call fk (kp kS _ fk gk).2
   have fa':=fp_call fa (kp a _ fa la).2
   have su:=Heap.SameBut.update s1.heap kS (Obj.mapSeq (·.push k))
   have I2:=I'.turnedN (t':=s1.toks) (fp:=[kS]) (h':=s1.heap.update kS (Obj.mapSeq (·.push k))) (fun b hb'=>by rw[List.mem_singleton.mp hb'];exact fk') fun b o hb' e=>(su.2 b (fun z=>hb' (by simp[z]))).trans e
   show wpAny (model X.prog X.w) A (forIn r PUnit.unit body) _ E _
   refine srtK_loopX ne hn hb hkn call r (ks++[k]) _ (by rw[List.length_append,List.length_singleton];exact hx.2) (by rw[List.length_append,List.length_singleton];omega) ⟨⟨H',kv++[v],c2,I2,sm.trans sm',vals_snoc rv rv',?_,fa',fk',gk'⟩,?_⟩
   ·have e:kds.take (ks++[k]).length=kds.take ks.length++[kds.getD ks.length .none]:=by
     rw [List.length_append,List.length_singleton,List.take_add_one,List.getElem?_eq_getElem (by omega),List.getD_eq_getElem?_getD,List.getElem?_eq_getElem (by omega)]
     rfl
    rw [e]
    exact (dn.keep (Keep.same sm')).app (.cons dn' .nil)
   ·exact (su.2 a ne).trans (kp a _ fa la).1
theorem srtK_listX {kds:List PyData}{s:Shared}{n:Nat}{P:PySem.Fin→Shared→Prop} (I:Inv X pins σ H0 s) (fa:FpOk X pins H0 a) (ho:s.heap.get? a=some (seqObj "list" vs.toArray n)) (h64:vs.length<64) (hu:A.units+64<cLine)
  (hkn:kds.length=vs.length) (hkk:∀ d∈kds,isKey d) (call:∀ i (h:i<vs.length),∀ H s',Inv X pins σ H s'→Same H0 H→wpAny (model X.prog X.w) A (call f [vs[i]]) (KeyEnd X pins σ H s' (kds.getD i .none)) (fun _ _=>False) s')
  (h : ∀ H s' c,Inv X pins σ H s'→Same H0 H→FpOk X pins H a→s'.heap.get? a=some (seqObj "list" (pick (srtIx (kds.map keyD)) vs Value.none).toArray c)→P (.done (.ret .none)) s') :
  wpAny (model X.prog X.w) A (ksk_tree a f false) P E s:=by
 have ha:a<s.heap.objs.size:=Heap.lt_size ho
 have s1:=Heap.SameBut.update s.heap a (Obj.mapSeq fun _=>(#[]:Array Value))
 obtain ⟨e1,ho1⟩:∃ e1,(s.heap.update a (Obj.mapSeq fun _=>(#[]:Array Value))).get? a=some (seqObj "list" #[] e1):=⟨_,get?_update_seq ho fun _=>#[]⟩
 have keep:∀ b o,b≠a→s.heap.get? b=some o→(((s.heap.update a (Obj.mapSeq fun _=>(#[]:Array Value))).push (seqObj "tuple" vs.toArray 0)).push (seqObj "list" #[] 0)).get? b=some o:=fun b o hb e =>
  Heap.get?_push_of_some _ (Heap.get?_push_of_some _ ((s1.2 b hb).trans e))
 have ho3:(((s.heap.update a (Obj.mapSeq fun _=>(#[]:Array Value))).push (seqObj "tuple" vs.toArray 0)).push (seqObj "list" #[] 0)).get? a=some (seqObj "list" #[] e1):=Heap.get?_push_of_some _ (Heap.get?_push_of_some _ ho1)
 have hsz:((s.heap.update a (Obj.mapSeq fun _=>(#[]:Array Value))).push (seqObj "tuple" vs.toArray 0)).objs.size=s.heap.objs.size+1:=by rw[size_push',Heap.size_update]
 unfold ksk_tree
 refine wpAny_bind (listItems_at ho rfl ?_)
 refine wpAny_bind (listUpdate_at ho rfl ?_ (by rw[List.size_toArray,sizeLine_eq];omega) (Nat.zero_le _))
 refine wpAny_bind (seqEpoch_at ho1 rfl ?_)
 refine wpAny_bind (wpAny_newTuple ?_ (by show vs.length≤_;rw[sizeLine_eq];omega))
 refine wpAny_bind (wpAny_newList ?_ (Nat.zero_le _))
 refine wpAny_holding ?_
 obtain ⟨kS,ekS⟩:∃ kS,kS=((s.heap.update a (Obj.mapSeq fun _=>(#[]:Array Value))).push (seqObj "tuple" vs.toArray 0)).objs.size:=⟨_,rfl⟩
 have gk:(((s.heap.update a (Obj.mapSeq fun _=>(#[]:Array Value))).push (seqObj "tuple" vs.toArray 0)).push (seqObj "list" #[] 0)).get? kS=some (seqObj "list" (List.toArray []) 0):=by rw[ekS];exact Heap.get?_push_size _ rfl
 have hne:a≠kS:=by rw[ekS,hsz];exact Nat.ne_of_lt (Nat.lt_succ_of_lt ha)
 have fk:FpOk X pins H0 kS:=I.fpOk (by rw[ekS,hsz];omega) (I.hok.fresh (by rw[ekS,hsz];omega))
 have I1:=I.turnedN (t':=s.toks) (fp:=[a]) (h':=((s.heap.update a (Obj.mapSeq fun _=>(#[]:Array Value))).push (seqObj "tuple" vs.toArray 0)).push (seqObj "list" #[] 0)) (fun b hb=>by rw[List.mem_singleton.mp hb];exact fa) fun b o hb e=>keep b o (fun z=>hb (by simp[z])) e
 rw [←ekS]
 show wpAny (model X.prog X.w) A (ksk_rest a f false vs.toArray e1 (.ref kS)) P E { s with heap:=((s.heap.update a (Obj.mapSeq fun _=>(#[]:Array Value))).push (seqObj "tuple" vs.toArray 0)).push (seqObj "list" #[] 0) }
 unfold ksk_rest
 refine wpAny_bind (wpAny_rule ?_)
 first
  | rw[List.forIn_toArray]
  | (rw[←Array.forIn_toList];simp only [List.toList_toArray])
  | rw[←Array.forIn_toList]
 refine wpAny_bind (wpAny_mono (srtK_loopX (f:=f) (A:=A) (e1:=e1) (n:=vs.length) (kds:=kds) hne h64 (fun x ks e s' C hz hx=>?_) hkn call vs [] _ rfl (by simp) ⟨⟨H0,[],0,I1,Same.refl _,.nil,.nil,fa,fk,gk⟩,ho3⟩) (fun _ s' hd=>?_) fun _ _ x=>x)
 ·refine wpAny_bind (wpAny_attempt (wpAny_mono hx (fun k s'' hk=>?_) fun _ _ hF=>hF.elim))
  obtain ⟨nk,hC⟩:=hk
  have ea:(List.toArray ks).push k=List.toArray (ks++[k]):=by simp
  obtain ⟨c2,hc2⟩:∃ c2,(s''.heap.update kS (Obj.mapSeq (·.push k))).get? kS=some (seqObj "list" (List.toArray (ks++[k])) c2):=⟨_,by rw[←ea];exact get?_update_seq nk (·.push k)⟩
  try dsimp only
  refine wpAny_bind (listUpdate_at nk rfl ?_ (by rw[List.size_toArray,sizeLine_eq];omega) (Nat.le_trans (Nat.le_of_eq (Array.size_push ..)) (by rw[List.size_toArray,sizeLine_eq];omega)))
  exact wpAny_pure ⟨rfl,k,s'',c2,hC,rfl,hc2⟩
 ·obtain ⟨ks,hl,⟨⟨H,kv,c,I2,sm,rv,dn,fa2,fk2,gk2⟩,la⟩⟩:=hd
  rw [List.take_of_length_le (by omega)] at dn
  refine wpAny_bind (listItems_at gk2 rfl ?_)
  have fin:∀ (ws:List Value) (st:SortSt),ws.length=vs.length→ws=pick (srtIx (kds.map keyD)) vs Value.none→(arrOf st).map (·.2)=ws.toArray→failedOf st=none→wpAny (model X.prog X.w) A (ksk_tail a false e1 (.ref kS) st) P E s':=fun ws st hwl hp hout hf=>by
   have t1:=Heap.SameBut.update s'.heap kS (Obj.mapSeq fun _=>(#[]:Array Value))
   have la1:(s'.heap.update kS (Obj.mapSeq fun _=>(#[]:Array Value))).get? a=some (seqObj "list" #[] e1):=(t1.2 a hne).trans la
   have t2:=Heap.SameBut.update (s'.heap.update kS (Obj.mapSeq fun _=>(#[]:Array Value))) a (Obj.mapSeq fun _=>ws.toArray)
   obtain ⟨c2,hc2⟩:∃ c2,((s'.heap.update kS (Obj.mapSeq fun _=>(#[]:Array Value))).update a (Obj.mapSeq fun _=>ws.toArray)).get? a=some (seqObj "list" ws.toArray c2):=⟨_,get?_update_seq la1 fun _=>ws.toArray⟩
   unfold ksk_tail
   try dsimp only
   rw [hout]
   refine wpAny_bind (listUpdate_at gk2 rfl ?_ (by rw[List.size_toArray,sizeLine_eq];omega) (Nat.zero_le _))
   refine wpAny_bind (wpAny_letGo ?_)
   refine wpAny_bind (seqEpoch_at la1 rfl ?_)
   simp only [Bool.false_eq_true,if_false]
   refine wpAny_bind (listUpdate_at la1 rfl ?_ (Nat.zero_le _) (by rw[List.size_toArray,sizeLine_eq];omega))
   rw [hf]
   simp only [bne_self_eq_false,Bool.false_eq_true,if_false]
   refine wpAny_pure (h H _ c2 (I2.turnedN (t':=s'.toks) (fp:=[kS,a]) (fun b hb=>?_) fun b o hb e=>?_) sm fa2 (by rw[←hp];exact hc2))
   ·rcases List.mem_cons.mp hb with rfl|hb
    ·exact fk2
    ·rw [List.mem_singleton.mp hb];exact fa2
   ·simp only [List.mem_cons,List.not_mem_nil,or_false,not_or] at hb
    exact (t2.2 b hb.2).trans ((t1.2 b hb.1).trans e)
  unfold ksk_end
  try dsimp only
  simp only [Bool.false_eq_true,if_false]
  by_cases h2:2≤vs.length
  ·have hn2:¬vs.toArray.size<2:=by rw[List.size_toArray];omega
   rw [if_neg hn2,if_neg hn2]
   refine wpAny_bind (wpAny_mono (key_okX (prog:=X.prog) (w:=X.w) (A:=A) (us:=ks) (ks:=kds.map keyD) hu (by omega) (keys_ofX I2 dn.dv rv hkk).1 (keys_ofX I2 dn.dv rv hkk).2) (fun κ s0 hk'=>?_) fun _ _ x=>x.elim)
   obtain ⟨rfl,hask⟩:=hk'
   refine wpAny_bind (wpAny_mono (kat_run (κ:=κ) (A:=A) (prog:=X.prog) (w:=X.w) (ks:=ks) (vs:=vs) (G:=fun p s2=>p=kasRun (fun i j=>keyLt ((kds.map keyD).getD i (0,[])) ((kds.map keyD).getD j (0,[]))) (kas_sort vs.length)∧s2=s0)
    (Q := fun st' s2=>∃ p:Array Nat,p=kasRun (fun i j=>keyLt ((kds.map keyD).getD i (0,[])) ((kds.map keyD).getD j (0,[]))) (kas_sort vs.length)∧p.size=vs.length∧arrOf st'=p.map (kas_item (ks.toArray.zip vs.toArray))∧failedOf st'=none∧s2=s0)
    hl h2 h64 (fun p' st' s2 a1 a2 a3 a4=>⟨p',a4.1,a1,a2,a3,a4.2⟩) (kas_det (fun s2=>s2=s0) (fun i j C s2 hi hj e hc=>by subst e;exact hask i j C (by omega) (by omega) (hc _ rfl)) (sort_all (n:=vs.length) (by omega)) (fun s2 e=>⟨rfl,e⟩) rfl)) ?_ fun _ _ e=>e)
   rintro ⟨⟨⟩,st'⟩ s2 ⟨p,hpn,hp,har,hf,rfl⟩
   dsimp only
   refine fin (p.toList.map fun i=>vs.getD i Value.none) st' (by rw[List.length_map,Array.length_toList,hp]) ?_ (kat_snds hl har) hf
   unfold srtIx pick
   rw [if_neg (by rw[List.length_map];omega),hpn,List.length_map,hkn]
  ·have hn2:vs.toArray.size<2:=by rw[List.size_toArray];omega
   rw [if_pos hn2,if_pos hn2]
   refine wpAny_bind (wpAny_pure ?_)
   refine wpAny_bind (wpAny_pure ?_)
   dsimp only
   refine fin vs _ rfl ?_ ?_ rfl
   ·unfold srtIx pick
    rw [if_pos (by rw[List.length_map];omega),List.length_map,hkn]
    apply List.ext_getElem
    ·simp
    ·intro i h1 h2
     simp at h2
     simp [h2]
   show (ks.toArray.zip vs.toArray).map (·.2)=_
   apply Array.toList_inj.mp
   simp
   exact List.map_snd_zip (by omega)
end
section
variable {X:Cx}{pins:List (Addr×Obj)}{σ:St}{H0:Hp}{f:Addr}{vs:List Value}{A:Around}{E:Value→Shared→Prop}{s:Shared}
theorem srtK_sortedX {kds:List PyData}{l:Addr}{Q:Value→Shared→Prop} (I:Inv X pins σ H0 s) (hl:s.heap.IsList l vs.toArray) (h64:vs.length<64) (hu:A.in1.in1.units+64<cLine)
  (hkn:kds.length=vs.length) (hkk:∀ d∈kds,isKey d) (call:∀ i (h:i<vs.length),∀ H s',Inv X pins σ H s'→Same H0 H→wpAny (model X.prog X.w) A.in1.in1 (call (.ref f) [vs[i]]) (KeyEnd X pins σ H s' (kds.getD i .none)) (fun _ _=>False) s')
  (h : ∀ H s' D c,Inv X pins σ H s'→Same H0 H→FpOk X pins H D→s'.heap.get? D=some (seqObj "list" (pick (srtIx (kds.map keyD)) vs Value.none).toArray c)→Q (.ref D) s') :
  wpAny (model X.prog X.w) A (PySem.call (.builtin "sorted") [.ref l] [(Str.ofString "key",.ref f)]) Q E s:=by
 refine call_function_entry_kw kind_sorted plain_sorted entry_sorted (ksk_s1 _ _) ?_
 unfold Builtin.«sorted»
 refine wpAny_bind (m:=checkCount "sorted" 1 1 _) (wpAny_pure ?_)
 refine wpAny_bind (collect_list hl ?_ (by rw[sizeLine_eq];omega))
 refine wpAny_bind (wpAny_newList ?_ (by rw[sizeLine_eq];omega))
 have hsz:((s.heap.push (seqObj "list" #[] 0)).update s.heap.objs.size (Obj.mapSeq (·++vs.toArray))).objs.size=s.heap.objs.size+1:=by
  rw [Heap.size_update,size_push']
 have hoL:(((s.heap.push (seqObj "list" #[] 0)).update s.heap.objs.size (Obj.mapSeq (·++vs.toArray))).push (seqObj "list" vs.toArray 0)).get? (s.heap.objs.size+1)=some (seqObj "list" vs.toArray 0):=by
  rw [←hsz];exact Heap.get?_push_size _ rfl
 have keep:∀ b o,s.heap.get? b=some o→(((s.heap.push (seqObj "list" #[] 0)).update s.heap.objs.size (Obj.mapSeq (·++vs.toArray))).push (seqObj "list" vs.toArray 0)).get? b=some o:=fun b o q=>by
  have hlt:b<s.heap.objs.size:=Heap.lt_size q
  rw [Heap.get?_push_ne _ _ _ (by rw[hsz];exact Nat.ne_of_lt (Nat.lt_succ_of_lt hlt)),Heap.get?_update_ne _ _ _ _ (Nat.ne_of_lt hlt),Heap.get?_push_ne _ _ _ (Nat.ne_of_lt hlt)]
  exact q
 show wpAny _ _ _ _ _ { s with heap:=((s.heap.push (seqObj "list" #[] 0)).update s.heap.objs.size (Obj.mapSeq (·++vs.toArray))).push (seqObj "list" vs.toArray 0) }
 rw [hsz]
 refine wpAny_bind (wpAny_holding (wpAny_call_entry_kw slot_list_sort ⟨_,hoL,rfl⟩ entry_list_sort ?body (ksk_l1 _ _)))
 case body =>
  show wpAny (model X.prog X.w) A.in1.in1 (Builtin.«list.sort» ⟨[.ref (s.heap.objs.size+1)],[(Str.ofString "key",.ref f)]⟩) _ _ _
  rw [ksk_t1]
  refine srtK_listX (kds:=kds) (I.kept (t':=s.toks) keep) (I.fpOk (Nat.le_succ _) (I.hok.fresh (Nat.le_succ _))) hoL h64 hu hkn hkk call fun H s' c I' sm fp g=>⟨_,rfl,wpAny_pure ⟨_,rfl,?_⟩⟩
  exact h H s' _ c I' sm fp g
end
section
variable {X:Cx}{K:PySem.W.Frag}{e:Expr}{t:TA}{p pos kpos lpos p1 p2 p3 p4 p5:Pos}{kk:Nat}{params:Arguments}{scope:Scope}
noncomputable def keyRw:PyData→PyData
 | .list es=>.tuple [.int es.length,.list es]
 | d=>d
noncomputable def tSrtKX (K:PySem.W.Frag) (t:TA):TE:=fun σ H Q=>t σ H fun xs H1=>∃ (p:Addr) (vs:List V) (N:Addr→Prop) (ds:List PyData),xs=[.ref p]∧SqL K H1 p vs∧DNs K N H1 vs ds∧(∀ d∈ds,isRow d)∧vs.length<64 ∧
 ∀ H2,Same H1 H2→∀ q,H2 q=none→Q (.ref q) (upd H2 q (.lst (pick (srtIx (ds.map fun d=>keyD (keyRw d))) vs .non)))
theorem dn_at {N:Addr→Prop}{H:Hp}{vs:List V}{ds:List PyData}{us:List Value} (q:DNs K N H vs ds) (r:Vals vs us) (i:Nat) (h:i<us.length):∃ v,RelV v us[i]∧DN K N H v (ds.getD i .none)∧ds.getD i .none∈ds:=by
 have hl:=q.len
 have hl2:=r.length
 obtain ⟨u,e,ru⟩:=r.get (i:=i) (x:=vs[i]) (by simp)
 rw [List.getElem?_eq_getElem h] at e
 cases e
 have hm:(vs[i],ds[i])∈vs.zip ds:=by
  rw [List.mem_iff_getElem?]
  exact ⟨i,by rw[List.getElem?_zip_eq_some];exact⟨List.getElem?_eq_getElem _,List.getElem?_eq_getElem _⟩⟩
 have e2:ds.getD i .none=ds[i]:=by simp[List.getD_eq_getElem?_getD,show i<ds.length by omega]
 rw [e2]
 exact ⟨_,ru,dns_zip q _ hm,List.getElem_mem _⟩
theorem pe_srtKX (hK:X.K=K) (L:LamAt X) (hr:Room 4 X.A) (hg:Gl X "sorted") (hm:X.mg "sorted" = none) (hml:X.mg "len" = none) (ha:PA X [e] t)
  (S : FnScope ["row"] ["row"] scope) (hgl:∀ q L f c,(envOfC q scope L f c).kindOf "len" = some .globalImplicit)
  (hb:∀ (qual:Str) (pm c ctv u:Value),bindArgs (kla_fn "<lambda>" qual params (.Tuple [.Call (.Name "len" p1) [.Name "row" p2] [] p3,.Name "row" p4] kk p5) scope [] pm c ctv) ⟨[u],[]⟩=pure [(("row" : Str),u)])
  (hcl:closureFor scope X.env=pure []) (hdef:defaultsOf params X.env=([],[]))
  (he2:backTo pos (starEach [e] X.env)=(false,eval e X.env)::backTo pos (starEach [] X.env):=by rfl) :
  PE X (.Call (.Name "sorted" p) [e] [⟨some "key",.Lambda params (.Tuple [.Call (.Name "len" p1) [.Name "row" p2] [] p3,.Name "row" p4] kk p5) scope lpos,kpos⟩] pos) (tSrtKX K t):=by
 subst hK
 intro pins s σ H Q I h
 refine wpAny_Call_Name_kw (ld_blt I hg hm boot_sorted ?_ (by decide) (by decide))
 refine callWith_kw (thn (ha pos pins s σ H _ I h) fun us s1 ⟨xs,H1,I1,r,q⟩=>?_) he2 (by rw[he2];rfl) rfl rfl
 show wpAny _ _ (evalAll [(do let v ←eval (.Lambda params (.Tuple [.Call (.Name "len" p1) [.Name "row" p2] [] p3,.Name "row" p4] kk p5) scope lpos) X.env;standAt pos;pure v)]) _ _ s1
 refine wpAny_evalAll_cons (wpAny_bind (lam_make I1 L hcl hdef fun f c' pm ctv s2 H2 I2 sm hfo fpf cz=>wpAny_bind (wpAny_standAt (wpAny_pure (wpAny_evalAll_nil ?_)))))
 obtain ⟨p0,vs,N,ds,rfl,sq,dn,hk,h64,q⟩:=q
 obtain ⟨u,rfl,ru⟩:=vals1 r
 cases (show u=Value.ref p0 from ru)
 obtain ⟨its,rv,hp,_⟩:=I2.list (sm.seq sq)
 have hlen:=rv.length
 obtain ⟨fo,hfo'⟩:∃ fo,fo=kla_obj "<lambda>" (X.env.qual ++ "<lambda>") params (.Tuple [.Call (.Name "len" p1) [.Name "row" p2] [] p3,.Name "row" p4] kk p5) scope [] pm c' ctv:=⟨_,rfl⟩
 rw [←hfo'] at hfo
 have I3:Inv X ((f,fo)::pins) σ H2 s2:=I2.pins_of fun z hz=>by
  rcases List.mem_cons.mp hz with rfl|hz
  ·exact ⟨hfo,fpf.1,fpf.2.1,fpf.2.2.1,fun v=>by rw[hfo'];exact fun z=>by cases z⟩
  ·exact I2.pin z (List.mem_append_right _ hz)
 have dn2:DNs X.K N0 H2 vs ds:=(dn.keep (Keep.same sm)).to fun b _ _ z=>z.elim
 show wpAny _ _ (PySem.call (.builtin "sorted") [.ref p0] [(Str.ofString "key",.ref f)]) _ _ _
 have hdl:ds.length=vs.length:=dn.len.symm
 refine srtK_sortedX (kds:=ds.map keyRw) I3 hp.isList (by omega) ?_ (by rw[List.length_map];omega) (fun d hd=>?_) (fun i hi H' s' I' sm'=>?_) fun H' s' D c I' sm' fpD gD=>?_
 ·have:=hr.un
  show X.A.units+1+1+64<cLine
  omega
 ·obtain ⟨d0,hd0,rfl⟩:=List.mem_map.mp hd
  obtain ⟨ns,rfl⟩:=hk d0 hd0
  exact ⟨_,ns,rfl⟩
 ·obtain ⟨v,rx,dx,md⟩:=dn_at dn2 rv i hi
  have ek:(ds.map keyRw).getD i .none=keyRw (ds.getD i .none):=by simp[List.getD_eq_getElem?_getD,show i<ds.length by omega]
  rw [ek]
  generalize ds.getD i .none=d at *
  obtain ⟨ns,rfl⟩:=hk d md
  have gf:=(I'.pin (f,fo) (List.mem_append_right _ List.mem_cons_self)).1
  rw [hfo'] at gf
  obtain ⟨oc,u,ws,t,e1,e2,e3⟩:=cz
  obtain ⟨goc,_⟩:=I'.hok c' _ (sm' _ _ e1)
  have el:keyRw (.list (ns.map .int))=.tuple [.int ns.length,.list (ns.map .int)]:=by
   show PyData.tuple [.int ((ns.map PyData.int).length:Int),_]=_
   rw [List.length_map]
  rw [el]
  exact lam_key (k:=1) I' I'.env0.in1.in1 (hr.in1.in1) S hgl hml hb gf ⟨_,_,_,_,rfl,goc,e2,e3⟩ rx (dx.keep (Keep.same sm'))
 ·have I4:Inv X pins σ H' s':=I'.pins_of fun z hz=>I'.pin z (List.mem_append_right _ (List.mem_cons_of_mem _ hz))
  have fpD':FpOk X pins H' D:=⟨fpD.1,fpD.2.1,fpD.2.2.1,fpD.2.2.2.1,fpD.2.2.2.2.1,fun z hz=>fpD.2.2.2.2.2 z (by
   rcases List.mem_append.mp hz with hz|hz
   ·exact List.mem_append_left _ hz
   ·exact List.mem_append_right _ (List.mem_cons_of_mem _ hz))⟩
  have em:(ds.map keyRw).map keyD=ds.map fun d=>keyD (keyRw d):=by rw[List.map_map];rfl
  rw [em] at gD
  have hlt:∀ i∈srtIx (ds.map fun d=>keyD (keyRw d)),i<vs.length:=fun i hi=>by have:=srtIx_lt i hi;rw[List.length_map] at this;omega
  refine ⟨.ref D,upd H' D (.lst (pick (srtIx (ds.map fun d=>keyD (keyRw d))) vs .non)),I4.track fpD' ⟨?_,_,c,vals_pick rv hlt,gD⟩,rfl,q _ (sm.trans sm') _ fpD.1⟩
  unfold pick
  rw [List.length_map,(srtIx_perm _).length_eq,List.length_range,List.length_map,sizeLine_eq]
  omega
noncomputable def dSrtKX (t:DA):DE:=fun env R=>t env fun ss env1=>∃ s ds,ss=[s]∧valOf env1 s=some (.list ds)∧(∀ d∈ds,isRow d)∧ds.length<64∧R (.ow (pick (srtIx (ds.map fun d=>keyD (keyRw d))) ds .none)) env1
variable {tl:DA}
theorem q_srtKX (hK:X.K=K) (L:LamAt X) (hr:Room 4 X.A) (hg:Gl X "sorted") (hm:X.mg "sorted" = none) (hml:X.mg "len" = none) (ha:PA X [e] (upA K tl))
  (S : FnScope ["row"] ["row"] scope) (hgl:∀ q L f c,(envOfC q scope L f c).kindOf "len" = some .globalImplicit)
  (hb:∀ (qual:Str) (pm c ctv u:Value),bindArgs (kla_fn "<lambda>" qual params (.Tuple [.Call (.Name "len" p1) [.Name "row" p2] [] p3,.Name "row" p4] kk p5) scope [] pm c ctv) ⟨[u],[]⟩=pure [(("row" : Str),u)])
  (hcl:closureFor scope X.env=pure []) (hdef:defaultsOf params X.env=([],[]))
  (he2:backTo pos (starEach [e] X.env)=(false,eval e X.env)::backTo pos (starEach [] X.env):=by rfl) :
  PE X (.Call (.Name "sorted" p) [e] [⟨some "key",.Lambda params (.Tuple [.Call (.Name "len" p1) [.Name "row" p2] [] p3,.Name "row" p4] kk p5) scope lpos,kpos⟩] pos) (up K (dSrtKX tl)) :=
 (pe_srtKX (K:=K) hK L hr hg hm hml ha S hgl hb hcl hdef he2).imp fun σ H Q h=>by
 obtain ⟨M,P,H0,σ0,env,ts,R,rel,ht,hq⟩:=h
 refine ⟨M,P,H0,σ0,env,ts,_,rel,ht,fun ss env1 vs H1 h1 hl rel1=>?_⟩
 obtain ⟨s,ds,rfl,e1,hk,h64,hR⟩:=h1
 match vs,hl with
 | [v],_ =>
  obtain ⟨a,us,rfl,sq,q⟩:=(rel1.view (v:=v) (by simp) e1).list
  have hlt:∀ i∈srtIx (ds.map fun d=>keyD (keyRw d)),i<us.length:=fun i hi=>by have:=srtIx_lt i hi;rw[List.length_map] at this;rw[q.len];exact this
  exact ⟨a,us,_,ds,rfl,sq,q,hk,by rw[q.len];exact h64,fun H2 sm p' hp=>hq _ _ _ _ hR ((rel1.same sm).resOw hp (dns_pick (q.keep (Keep.same sm)) hlt))⟩
end
end L2
namespace L2
open PySem PySem.Spec PyProof.Rows PySem.W
section
variable {prog:Program}{w:World}{A:Around}{E:Value→Shared→Prop}{h:Heap}{g:Array GenState}{d:Drawn}{t:Nat}{os:OsState}
variable {nm q:Str}{C N:Addr}{bs bm bmB:List Value}{hdct:Bool}{sn:List Str}{sub:List Value}{ab:Bool}{col:Option Bool}{dd:Option Addr}{k0 k1 k2 k3 k5:Option Value}{B newId initId:String}
end
section
variable {M:Model}{A:Around}{E:Value→Shared→Prop}{env:Env}{nm q:Str}{C N:Addr}{bs bm:List Value}{hdct:Bool}{sn:List Str}{sub:List Value}{ab:Bool}{col:Option Bool}{dd:Option Addr}{k0 k1 k2 k3 k5:Option Value}{newId:String}
end
end L2
namespace L2
open PySem PySem.Spec PyProof.Rows PySem.W
open Builtin Builtin.ObjectAttr
section
variable {prog:Program}{w:World}{A:Around}{E:Value→Shared→Prop}{h:Heap}{g:Array GenState}{d:Drawn}{t:Nat}{os:OsState}
variable {nm q:Str}{C N x:Addr}{bs bm:List Value}{sn:List Str}{sub:List Value}{ab:Bool}{col:Option Bool}{dd:Option Addr}{k0 k1 k2 k3 k5:Option Value}{newId:String}{name:Str}{v:Value}{o:Obj}
end
end L2
namespace L2
open PySem PySem.Spec PyProof.Rows PySem.W
section
variable {M:Model}{A:Around}{E:Value→Shared→Prop}{s:Shared}
end
end L2
namespace L2
open PySem PySem.Spec PyProof.Rows PySem.W
noncomputable def ExcNew (e C:Addr) (dx:Option Addr) (h:Heap):Prop:=∃ t sl,h.get? e=some { cls:=.ref C,dict:=dx,data:=.fields #[.ref t,.none,.none,.none,.bool false,.none],slots:=sl }
theorem ExcNew.ok {P:Program}{w:World}{H:Hp}{h:Heap}{e C:Addr}{dx:Option Addr} (x:ExcNew e C dx h):ObjOk P w H h e (.ext (ExcNew e C dx)):=by
 obtain ⟨t,sl,q⟩:=id x
 exact ⟨x,⟨_,q⟩,fun h1 h2 ⟨t,sl,q⟩ k=>⟨t,sl,k _ q⟩⟩
theorem ExcAt.ok {P:Program}{w:World}{H:Hp}{h:Heap}{e C:Addr}{dx:Option Addr} (x:ExcAt e C dx h):ObjOk P w H h e (.ext (ExcAt e C dx)):=by
 obtain ⟨t,sl,q⟩:=id x
 exact ⟨x,⟨_,q⟩,fun h1 h2 ⟨t,sl,q⟩ k=>⟨t,sl,k _ q⟩⟩
section
variable {X:Cx}{o value:Expr}{ta tv:TE}{pos pos':Pos}
end
end L2
namespace L2
open PySem PySem.Spec PyProof.Rows PySem.W
section
variable {P:Program}{w:World}{K:PySem.W.Frag}{mg:Str→Option Value}{base:Heap}{N:List Str}{qual:Str}{scope:Scope}{f:Addr}{cd:Value}{A:Around}{outer:List Env}{s:Shared}{H:Hp}{E:XK}
end
section
variable {K:PySem.W.Frag}{P:Program}{w:World}{mg:Str→Option Value}{base:Heap}
end
section
variable {X:Cx}{C fI:Addr}{fd:FuncData}{x:Str}{k:Nat}{e:Expr}{t:TA}{p pos:Pos}
end
end L2
namespace L2
open PySem PySem.Spec PyProof.Rows PySem.W
section
variable {P:Program}{w:World}{K:PySem.W.Frag}{mg:Str→Option Value}{base:Heap}{N:List Str}{qual:Str}{scope:Scope}{f:Addr}{cd:Value}{A:Around}{outer:List Env}{s:Shared}{H:Hp}{E:XK}
end
section
variable {X:Cx}{pins:List (Addr×Obj)}{σ:St}{H:Hp}{s:Shared}{e:Value}
end
section
variable {P:Program}{w:World}{H H':Hp}{h0 h h2:Heap}{a old C T:Addr}{dx:Option Addr}{oe:Obj}{vs:Array Value}{fl:Value}{outer:List Env}
end
section
variable {X:Cx}{k:Nat}{f C fI:Addr}{fd:FuncData}{ps:List Str}{sp:Sp}{x xn:Str}{p pos pos2 pn ph pt:Pos}{e:Expr}{es:List Expr}{t:TA}{b₀:Stmt}{th:TS}
end
end L2
namespace L2
open PySem PySem.Spec PyProof.Rows PySem.W
noncomputable abbrev DSpX:=List Sl→(Sl→List Sl→Prop)→(Int→Prop)→Prop
section
variable {X:Cx}{K:PySem.W.Frag}{Hs:Hp}{pos:Pos}{st:Stmt}{rest a b:List Stmt}{t u:DS}{e c tg iter:Expr}{te:DE}{tc:DT}
end
section
variable {P:Program}{w:World}{K:PySem.W.Frag}{mg:Str→Option Value}{base:Heap}{N:List Str}{qual:Str}{scope:Scope}{f:Addr}{cd:Value}{A:Around}{outer:List Env}{s:Shared}{H:Hp}{E:XK}{C:Addr}{RX:Int→Prop}{tl:DA}{k:Nat}
end
section
variable {X:Cx}{x:Str}{p pos pos2 pn ph pt:Pos}{e:Expr}{es:List Expr}{k:Nat}{sp:DSpX}{K:PySem.W.Frag}{tl:DA}{C:Addr}{b₀:Stmt}{th:DS}
end
end L2
namespace L2
open PySem PySem.Spec PyProof.Rows PySem.W
section
variable {K:PySem.W.Frag}{M P N:Addr→Prop}{H0 H H':Hp}{σ0 σ:St}{env:List Sl}{ts tt:List (V×Sl)}{v:V}{s:Sl}{d:PyData}
end
section
variable {X:Cx}{x:Str}{p pos:Pos}{e:Expr}{es:List Expr}{k:Nat}{sp:DSp}{K:PySem.W.Frag}{tl:DA}
end
end L2
namespace L2
open PySem PySem.Spec PyProof.Rows PySem.W
theorem us1 {Q:List Value→Prop}:∀ {us:List Value},us.length=1→(∀ a:Value,Q [a])→Q us
 | [a],_,h=>h a
theorem us2 {Q:List Value→Prop}:∀ {us:List Value},us.length=2→(∀ a b:Value,Q [a,b])→Q us
 | [a,b],_,h=>h a b
theorem us3 {Q:List Value→Prop}:∀ {us:List Value},us.length=3→(∀ a b c:Value,Q [a,b,c])→Q us
 | [a,b,c],_,h=>h a b c
theorem us4 {Q:List Value→Prop}:∀ {us:List Value},us.length=4→(∀ a b c d:Value,Q [a,b,c,d])→Q us
 | [a,b,c,d],_,h=>h a b c d
section
variable {X:Cx}{x:Str}{p pos:Pos}{e:Expr}{es:List Expr}{k:Nat}{sp:DSpX}{K:PySem.W.Frag}{tl:DA}{C:Addr}
end
end L2
namespace L2
open PySem PySem.Spec PyProof.Rows PySem.W
section
variable {X:Cx}{pins:List (Addr×Obj)}{σ:St}{H:Hp}{s:Shared}
end
noncomputable def Ends.off (D:Ends) (i:Nat):Ends:=⟨fun σ H=>D.nx (σ.set i none) H,D.rt,fun σ H=>D.bk (σ.set i none) H,fun σ H=>D.ct (σ.set i none) H⟩
section
variable {X:Cx}{k:Nat}{f C fI:Addr}{fd:FuncData}{ps:List Str}{sp:Sp}{x xn xe:Str}{p pos pos2 pn ph pt:Pos}{e tg:Expr}{es:List Expr}{t:TA}{b₀:Stmt}{bs:List Stmt}{th:TS}{g:TG}{i:Nat}{hs':List ExceptHandler}
end
section
variable {X:Cx}{x xe:Str}{p pos pos2 pn ph pt:Pos}{e tg:Expr}{es:List Expr}{k i:Nat}{sp:DSpX}{K:PySem.W.Frag}{tl:DA}{C:Addr}{b₀:Stmt}{bs:List Stmt}{th:DS}{g:DG}{hs':List ExceptHandler}
end
end L2
namespace L2
open PySem PySem.Spec PyProof.Rows PySem.W
section
variable {prog:Program}{w:World}{A:Around}{E:Value→Shared→Prop}{h:Heap}{g:Array GenState}{d:Drawn}{t:Nat}{os:OsState}
variable {nm q:Str}{C N x:Addr}{bs bm:List Value}{sn:List Str}{sub:List Value}{ab:Bool}{col:Option Bool}{dd:Option Addr}{k0 k1 k2 k3 k5:Option Value}{newId:String}{name:Str}{v:Value}{o:Obj}
end
end L2
namespace L2
open PySem PySem.Spec PyProof.Rows PySem.W
section
variable {prog:Program}{w:World}{A:Around}{E:Value→Shared→Prop}{h:Heap}{g:Array GenState}{d:Drawn}{t:Nat}{os:OsState}
variable {nm q:Str}{C N x:Addr}{bs bm:List Value}{sn:List Str}{sub:List Value}{ab:Bool}{col:Option Bool}{dd:Option Addr}{k0 k1 k2 k3 k5:Option Value}{newId:String}{name:Str}{v c:Value}{o:Obj}
end
end L2
namespace L2
open PySem PySem.Spec PyProof.Rows PySem.W
section
variable {X:Cx}{C fI:Addr}{e:Expr}{te:TE}{pos:Pos}
end
end L2
namespace L2
open PySem PySem.Spec PyProof.Rows PySem.W
section
variable {X:Cx}{K:PySem.W.Frag}{C Dd fI:Addr}{e:Expr}{te:DE}{pos p:Pos}
end
end L2
namespace L2
open PySem PySem.Spec PyProof.Rows PySem.W
section
variable {P:Program}{w:World}{K:PySem.W.Frag}{mg:Str→Option Value}{base:Heap}{N:List Str}{qual:Str}{scope:Scope}{f:Addr}{cd:Value}{A:Around}{outer:List Env}{s:Shared}{H:Hp}{E:XK}{C:Addr}{RX:Int→Prop}{tl:DA}{k:Nat}
end
end L2
namespace L2
open PySem PySem.Spec PyProof.Rows PySem.W
section
variable {X:Cx}{K:PySem.W.Frag}{C Dd:Addr}{e:Expr}{te:DE}{pos p:Pos}
end
end L2
namespace L2
open PySem PySem.Spec PyProof.Rows
theorem pli_inj:∀ {a b:List Int},a.map PyData.int=b.map PyData.int→a=b
 | [],[],_=>rfl
 | [],_::_,e=>by simp at e
 | _::_,[],e=>by simp at e
 | x::xs,y::ys,e=>by
  rw [List.map_cons,List.map_cons] at e
  injection e with e1 e2
  injection e1 with e1
  rw [e1,pli_inj e2]
theorem stdD_inj {k k':StdK} (e:stdD k=stdD k'):k=k':=by
 obtain ⟨d,l⟩:=k
 obtain ⟨d',l'⟩:=k'
 simp only [stdD,PyData.tuple.injEq,List.cons.injEq,PyData.int.injEq,and_true] at e
 rw [e.1,pli_inj e.2]
theorem dctD_inj:∀ {kvs kvs':List (StdK×PyData)},kvs.map (fun p=>(stdD p.1,p.2))=kvs'.map (fun p=>(stdD p.1,p.2))→kvs=kvs'
 | [],[],_=>rfl
 | [],_::_,e=>by simp at e
 | _::_,[],e=>by simp at e
 | (k,v)::xs,(k',v')::ys,e=>by
  rw [List.map_cons,List.map_cons] at e
  injection e with e1 e2
  injection e1 with e1 e3
  have e1:=stdD_inj e1
  simp only at e1 e3
  rw [e1,e3,dctD_inj e2]
section
variable {K:PySem.W.Frag}{M P N:Addr→Prop}{H0 H H':Hp}{E T A B:List Ent}{σ0 σ:St}{env:List Sl}{ts tt:List (V×Sl)}{v:V}{s:Sl}{d:PyData}{kvs:List (StdK×PyData)}
noncomputable def DctN (K:PySem.W.Frag) (N:Addr→Prop) (H:Hp) (v:V) (kvs:List (StdK×PyData)):Prop :=
 ∃ a es,v=.ref a∧H a=some (.ext (DctAt a es))∧DNs K N H (es.map fun p=>V.ref p.2.1) (kvs.map fun p=>stdD p.1)∧DNs K N H (es.map fun p=>p.2.2) (kvs.map fun p=>p.2)∧es.map (fun p=>p.1)=kvs.map (fun p=>p.1)
theorem DctN.dctV (h:DctN K N H v kvs):DctV K H v kvs:=by
 obtain ⟨a,es,e,ha,hk,hv,ee⟩:=h
 exact ⟨a,es,e,ha,hk.dv,hv.dv,ee⟩
theorem fz_no {ds:List PyData} (e:fzD ds=dctD kvs):False:=by
 cases kvs with
 | nil=>cases e
 | cons p kvs=>simp[fzD,dctD,stdD] at e
theorem DN.dct_of (h:DN K N H v d) (e:d=dctD kvs):DctN K N H v kvs:=by
 cases h with
 | fz _=>exact (fz_no e).elim
 | @dct a es kvs' n ha hk hv ee =>
  injection e with e
  have e:=dctD_inj e
  subst e
  exact ⟨a,es,rfl,ha,hk,hv,ee⟩
 | _=>cases e
theorem Vw.dct_of (h:Vw K N H v d) (e:d=dctD kvs):DctN K N H v kvs:=by
 cases h with
 | dn h=>exact h.dct_of e
 | ow h q=>cases e
 | @dct a es kvs' ha hk hv ee =>
  injection e with e
  have e:=dctD_inj e
  subst e
  exact ⟨a,es,rfl,ha,hk,hv,ee⟩
theorem OT.dct_of {S:List Addr} (h:OT K N H v d S) (e:d=dctD kvs):∃ a es,v=.ref a∧S=[a]∧H a=some (.ext (DctAt a es))∧DNs K N H (es.map fun p=>V.ref p.2.1) (kvs.map fun p=>stdD p.1)∧DNs K N H (es.map fun p=>p.2.2) (kvs.map fun p=>p.2)∧es.map (fun p=>p.1)=kvs.map (fun p=>p.1):=by
 cases h with
 | fz _=>exact (fz_no e).elim
 | @dct a es kvs' ha hk hv ee =>
  injection e with e
  have e:=dctD_inj e
  subst e
  exact ⟨a,es,rfl,rfl,ha,hk,hv,ee⟩
 | _=>cases e
noncomputable def gNotInK:G2:=fun d e R=>∃ k kvs,d=stdD k∧e=dctD kvs∧R (.bool (!(getK kvs k).isSome))
noncomputable def gIxK:G2:=fun d e R=>∃ kvs k x,d=dctD kvs∧e=stdD k∧getK kvs k=some x∧R x
theorem mNotInK:Means K (rNotInK K) gNotInK:=by
 rintro N H x y d e R Q w1 w2 ⟨k,kvs,rfl,rfl,hR⟩ hq
 exact ⟨k,kvs,w1.dv,(w2.dct_of rfl).dctV,hq _ _ hR (.bl _)⟩
theorem mIxK:Means K (rIxK K) gIxK:=by
 rintro N H x y d e R Q w1 w2 ⟨kvs,k,z,rfl,rfl,hg,hR⟩ hq
 obtain ⟨a,es,rfl,ha,hk,hv,ee⟩:=w1.dct_of rfl
 refine ⟨k,a,es,kvs,rfl,w2.dv,ha,hk.dv,hv.dv,ee,by rw[hg];rfl,fun i v d hd h1 h2=>?_⟩
 rw [hg] at hd
 cases hd
 obtain ⟨z',e1,dn⟩:=hv.get h1
 rw [h2] at e1
 cases e1
 exact hq _ _ hR dn
theorem any_get:∀ {es:List (StdK×Addr×V)}{kvs:List (StdK×PyData)} (k:StdK),es.map (fun p=>p.1)=kvs.map (fun p=>p.1)→(es.any fun p=>decide (p.1=k))=(getK kvs k).isSome
 | [],[],k,_=>rfl
 | [],_::_,k,e=>by simp at e
 | _::_,[],k,e=>by simp at e
 | p::es,q::kvs,k,e=>by
  rw [List.map_cons,List.map_cons] at e
  injection e with e1 e2
  rw [List.any_cons,any_get k e2,getK_cons,e1]
  by_cases h:q.1=k <;> simp[h]
theorem put_keys:∀ {es:List (StdK×Addr×V)}{kvs:List (StdK×PyData)} (k:StdK) (v:V) (d:PyData),es.map (fun p=>p.1)=kvs.map (fun p=>p.1)→DNs K N H (es.map fun p=>V.ref p.2.1) (kvs.map fun p=>stdD p.1)→DNs K N H (es.map fun p=>p.2.2) (kvs.map fun p=>p.2)→DN K N H v d →
  (es.map fun p=>if p.1=k then (p.1,p.2.1,v) else p).map (fun p=>p.1)=(kvs.map fun p=>if p.1=k then (p.1,d) else p).map (fun p=>p.1) ∧
  DNs K N H ((es.map fun p=>if p.1=k then (p.1,p.2.1,v) else p).map fun p=>V.ref p.2.1) ((kvs.map fun p=>if p.1=k then (p.1,d) else p).map fun p=>stdD p.1) ∧
  DNs K N H ((es.map fun p=>if p.1=k then (p.1,p.2.1,v) else p).map fun p=>p.2.2) ((kvs.map fun p=>if p.1=k then (p.1,d) else p).map fun p=>p.2)
 | [],[],k,v,d,_,h1,h2,_=>⟨rfl,.nil,.nil⟩
 | [],_::_,k,v,d,e,_,_,_=>by simp at e
 | _::_,[],k,v,d,e,_,_,_=>by simp at e
 | p :: es,q::kvs,k,v,d,e,h1,h2,dn=>by
  rw [List.map_cons,List.map_cons] at e h1 h2
  injection e with e1 e2
  cases h1 with
  | cons a1 a2 =>
   cases h2 with
   | cons b1 b2 =>
    obtain ⟨i1,i2,i3⟩:=put_keys k v d e2 a2 b2 dn
    simp only [List.map_cons]
    by_cases h:q.1=k
    ·have hp:p.1=k:=e1.trans h
     simp only [h,hp,if_true]
     refine ⟨by rw[i1],.cons ?_ i2,.cons dn i3⟩
     rw [←h];exact a1
    ·have hp:¬p.1=k:=fun z=>h (e1.symm.trans z)
     simp only [h,hp,if_false]
     exact ⟨by rw[i1,e1],.cons a1 i2,.cons b1 i3⟩
theorem put_rel {es:List (StdK×Addr×V)}{k:StdK}{b:Addr} (e:es.map (fun p=>p.1)=kvs.map (fun p=>p.1)) (h1:DNs K N H (es.map fun p=>V.ref p.2.1) (kvs.map fun p=>stdD p.1)) (h2:DNs K N H (es.map fun p=>p.2.2) (kvs.map fun p=>p.2)) (hb:DN K N H (.ref b) (stdD k)) (dn:DN K N H v d) :
  (putE es k b v).map (fun p=>p.1)=(setK kvs k d).map (fun p=>p.1)∧DNs K N H ((putE es k b v).map fun p=>V.ref p.2.1) ((setK kvs k d).map fun p=>stdD p.1)∧DNs K N H ((putE es k b v).map fun p=>p.2.2) ((setK kvs k d).map fun p=>p.2):=by
 unfold putE setK
 rw [any_get k e]
 by_cases c:(getK kvs k).isSome=true
 ·rw [if_pos c,if_pos c]
  exact put_keys k v d e h1 h2 dn
 ·rw [if_neg c,if_neg c]
  simp only [List.map_append,List.map_cons,List.map_nil]
  exact ⟨by rw[e],h1.app (.cons hb .nil),h2.app (.cons dn .nil)⟩
theorem RelE.retreeR {S S' R:List Addr}{d':PyData}{a:Addr}{o:HO} (h:RelE K M P H0 (A++(some v,.tr S d)::B) H) (ma:a∈S) (pm:S.Perm (S'++R)) (ot':OT K (Nw M (A++(some v,.tr S d)::B)) (upd H a o) v d' S') :
  RelE K M P H0 (A++(some v,.tr S' d')::B) (upd H a o):=by
 obtain ⟨v',ev,ot,h0⟩:=h.tr _ _ _ (List.mem_append_right _ List.mem_cons_self)
 cases ev
 have oe:oas (A++(some v,Sl.tr S d)::B)=oas A++(S++oas B):=by rw[oas_app,oas_cons,own1_tr]
 have nd:=h.nd
 rw [oe] at nd
 obtain ⟨n1,n2,n3⟩:=List.nodup_append.mp nd
 obtain ⟨n4,n5,n6⟩:=List.nodup_append.mp n2
 have na:Nw M (A++(some v,Sl.tr S d)::B) a:=.inr (by rw[oe];exact List.mem_append_right _ (List.mem_append_left _ ma))
 have kN:Keep (Nw M (A++(some v,Sl.tr S d)::B)) H (upd H a o):=Keep.own na
 have oe2:oas (A++(some v,Sl.tr S' d')::B)=oas A++(S'++oas B):=by rw[oas_app,oas_cons,own1_tr]
 have inS:∀ b,b∈S'→b∈S:=fun b z=>pm.mem_iff.mpr (List.mem_append_left _ z)
 have up:∀ b,Nw M (A++(some v,Sl.tr S' d')::B) b→Nw M (A++(some v,Sl.tr S d)::B) b:=Nw.sub fun b z=>by
  rw [oe2] at z
  rw [oe]
  rcases List.mem_append.mp z with z|z
  ·exact List.mem_append_left _ z
  ·rcases List.mem_append.mp z with z|z
   ·exact List.mem_append_right _ (List.mem_append_left _ (inS b z))
   ·exact List.mem_append_right _ (List.mem_append_right _ z)
 have upo:∀ (b:Addr) (u:HO),upd H a o b=some u→Nw M (A++(some v,Sl.tr S' d')::B) b→Nw M (A++(some v,Sl.tr S d)::B) b:=fun b _ _ z=>up b z
 have back:∀ x t,(x,t)∈A∨(x,t)∈B→(x,t)∈A++(some v,Sl.tr S d)::B:=fun x t m=>by
  rcases m with m|m
  ·exact List.mem_append_left _ m
  ·exact List.mem_append_right _ (List.mem_cons_of_mem _ m)
 have old:∀ x t,(x,t)∈A++(some v,Sl.tr S' d')::B→(x,t)=(some v,Sl.tr S' d')∨((x,t)∈A∨(x,t)∈B):=fun x t m=>by
  rcases List.mem_append.mp m with m|m
  ·exact .inr (.inl m)
  ·rcases List.mem_cons.mp m with m|m
   ·exact .inl m
   ·exact .inr (.inr m)
 have other:∀ x t b,(x,t)∈A∨(x,t)∈B→b∈own1 (x,t)→b≠a:=fun x t b m eo z=>by
  subst z
  rcases m with m|m
  ·exact n3 b (mem_oas.mpr ⟨_,m,eo⟩) b (List.mem_append_left _ ma) rfl
  ·exact n6 b ma b (mem_oas.mpr ⟨_,m,eo⟩) rfl
 refine ⟨h.keep.put (h0 a ma),fun b q z=>?_,h.mt,h.pm,fun x d' m=>?_,fun x d' m=>?_,fun x d' m=>?_,fun x S2 d' m=>?_,?_⟩
 ·by_cases hb:b=a
  ·subst hb;rw[upd_same] at z;cases z
  ·rw [upd_ne hb] at z;exact h.live b q z
 ·rcases old _ _ m with m|m
  ·cases m
  ·obtain ⟨w',e1,dn⟩:=h.fr x d' (back _ _ m)
   exact ⟨w',e1,(dn.keep kN).to upo⟩
 ·rcases old _ _ m with m|m
  ·cases m
  ·obtain ⟨b,us2,e1,e2,dn,r2⟩:=h.ow x d' (back _ _ m)
   subst e1
   exact ⟨b,us2,rfl,by rw[upd_ne (other _ _ b m (List.mem_singleton.mpr rfl))];exact e2,(dn.keep kN).to upo,r2⟩
 ·rcases old _ _ m with m|m
  ·cases m
  ·obtain ⟨b,us2,e1,e2,dn,r2⟩:=h.io x d' (back _ _ m)
   subst e1
   exact ⟨b,us2,rfl,by rw[upd_ne (other _ _ b m (List.mem_singleton.mpr rfl))];exact e2,(dn.keep kN).to upo,r2⟩
 ·rcases old _ _ m with m|m
  ·cases m
   exact ⟨v,rfl,ot'.to upo,fun b hb=>h0 b (inS b hb)⟩
  ·obtain ⟨w',e1,dn,r2⟩:=h.tr x S2 d' (back _ _ m)
   subst e1
   exact ⟨w',rfl,(dn.keep kN fun b hb=>upd_ne (other _ _ b m (by rw[own1_tr];exact hb))).to upo,r2⟩
 ·rw [oe2]
  have nd':(oas A++((S'++R)++oas B)).Nodup:=(List.Perm.append_left _ (List.Perm.append_right _ pm)).nodup_iff.mp nd
  refine nd'.sublist (List.Sublist.append_left (List.Sublist.append_right ?_ _) _)
  exact List.sublist_append_left _ _
theorem Rel.retreeT {i:Nat}{S S' R:List Addr}{d':PyData}{a:Addr}{o:HO} (h:Rel K M P H0 σ0 σ env ts H) (e:env[i]? = some (.tr S d)) (ev:σ[i]? = some (some v)) (ma:a∈S) (pm:S.Perm (S'++R)) (ot':OT K (Nw M (ents σ env ts)) (upd H a o) v d' S') :
  Rel K M P H0 σ0 σ (env.set i (.tr S' d')) ts (upd H a o):=by
 obtain ⟨x,A,B,e1,q1,q2⟩:=h.split e
 rw [ev] at e1
 cases e1
 have r:=h.e
 rw [q1] at r ot'
 refine ⟨by rw[q2];exact r.retreeR ma pm ot',by simp[h.len],h.vw,fun j ds'' e'=>?_⟩
 by_cases hj:i=j
 ·subst hj
  have hi:i<env.length:=(List.getElem?_eq_some_iff.mp e).1
  rw [List.getElem?_set_self hi] at e'
  cases e'
 ·rw [List.getElem?_set_ne hj] at e'
  exact h.ios j ds'' e'
theorem Rel.dct {i:Nat}{S:List Addr} (h:Rel K M P H0 σ0 σ env ts H) (e:env[i]? = some (.tr S (dctD kvs))):∃ a es,σ[i]? = some (some (.ref a))∧S=[a]∧H a=some (.ext (DctAt a es))∧DNs K (Nw M (ents σ env ts)) H (es.map fun p=>V.ref p.2.1) (kvs.map fun p=>stdD p.1) ∧
  DNs K (Nw M (ents σ env ts)) H (es.map fun p=>p.2.2) (kvs.map fun p=>p.2)∧es.map (fun p=>p.1)=kvs.map (fun p=>p.1):=by
 obtain ⟨x,e1,m⟩:=h.slot e
 obtain ⟨v,ev,ot,_⟩:=h.e.tr _ _ _ m
 obtain ⟨a,es,rfl,eS,ha,hk,hv,ee⟩:=ot.dct_of rfl
 exact ⟨a,es,by rw[e1,ev],eS,ha,hk,hv,ee⟩
end
section
variable {X:Cx}{K:PySem.W.Frag}{pos:Pos}{e:Expr}{te tj:DE}
theorem kNotInK (hK:X.K=K) (hu:X.A.units+2<cLine):OpR X (compareOp .NotIn) (rNotInK K):=by subst hK;exact op_notInK hu
theorem kIxK (hK:X.K=K) (hu:X.A.units+2<cLine):IxR X (rIxK K):=by subst hK;exact ix_K hu
theorem hu2 {k:Nat}{A:Around} (hr:Room k A):A.units+2<cLine:=Nat.lt_of_le_of_lt (Nat.add_le_add_left (by decide:2≤64) _) hr.units
noncomputable def dSetK (i:Nat) (tj te:DE):DS:=fun DD env=>te env fun s1 env1=>(∃ S kvs,env1[i]? = some (.tr S (dctD kvs)))∧tj env1 fun s2 env2=>∃ (S:List Addr) (kvs:List (StdK×PyData)) (k:StdK) (d:PyData),
 env2[i]? = some (.tr S (dctD kvs))∧keepOf env2 s2=some (stdD k)∧keepOf env2 s1=some d∧kvs.length<sizeLine∧DD.nx (env2.set i (.tr S (dctD (setK kvs k d))))
theorem q_setK (i:Nat) {y:Str}{npos spos:Pos}{j:Expr} (hK:X.K=K) (hu:X.A.units+2<cLine) (hN:X.N[i]? = some y) (hj:PE X j (up K tj)) (he:PE X e (up K te))
  (hv:Vis X.env.scope y:=by first|exact Or.inl rfl|exact Or.inr (Or.inl rfl)|exact Or.inr (Or.inr rfl)) (hd:(y==("__debug__" : Str))=false:=by decide)
  (hcd:(y==("__classdict__" : Str))=false:=by decide)
  (ha:∀ v,assign (.Subscript (.Name y npos) j spos) X.env v=(do
   let ov ←holding [v] (eval (.Name y npos) X.env)
   let iv ←holding [v,ov] (eval j X.env)
   standAt spos
   holding [v,ov,iv] (setItem ov iv v)
   release [v,ov,iv] []):=by intro _;rfl)
  (hs:swapsWithSole [.Subscript (.Name y npos) j spos] e pos.line X.env=pure false:=by rfl) (hw:swappedStores [.Subscript (.Name y npos) j spos] e X.env=pure none:=by rfl)
  (h1:(assignEach [.Subscript (.Name y npos) j spos] X.env).map (·.2)=[assign (.Subscript (.Name y npos) j spos) X.env]:=by rfl):PS X (.Assign [.Subscript (.Name y npos) j spos] e pos) (upS K (dSetK i tj te)):=by
 subst hK
 refine (ps_asg he (pg_sub (pe_var hN hv hd hcd) hj (set_K hu) ha) hs hw h1).imp fun D σ H h=>?_
 obtain ⟨M,P,H0,σ0,env,ts,DD,nv,rel,ht,ok⟩:=h
 refine ⟨M,P,H0,σ0,env,ts,_,rel,ht,fun s1 env1 v1 H1 h1 rel1=>?_⟩
 obtain ⟨⟨S0,kvs0,e0⟩,h1⟩:=h1
 obtain ⟨a,_,ea,_⟩:=rel1.dct e0
 refine ⟨.ref a,ea,M,P,H0,σ0,env1,ts++[(v1,s1)],_,rel1,h1,fun s2 env2 v2 H2 h2 rel2=>?_⟩
 obtain ⟨S,kvs,k,d,e2,ek,ed,hl,hR⟩:=h2
 have rel2':Rel X.K M P H0 σ0 σ env2 (ts++[(v1,s1),(v2,s2)]) H2:=by simpa using rel2
 have dn1:=rel2'.kept (v:=v1) (s:=s1) (by simp) ed
 have dn2:=rel2'.kept (v:=v2) (s:=s2) (by simp) ek
 obtain ⟨a',es,ea',eS,hH,hk,hv,ee⟩:=rel2'.drop.dct e2
 rw [ea] at ea'
 cases ea'
 obtain ⟨b,xs,rfl,_,_⟩:=dn2.tuple
 have hlen:es.length=kvs.length:=by have:=congrArg List.length ee;simpa using this
 refine ⟨k,a,b,es,kvs,rfl,rfl,dn2.dv,hH,hk.dv,ee,by omega,ok.nx _ _ _ hR ?_⟩
 obtain ⟨p1,p2,p3⟩:=put_rel (b:=b) (k:=k) ee hk hv dn2 dn1
 have na:Nw M (ents σ env2 ts) a:=by
  obtain ⟨x,A,B,e1,q1,q2⟩:=rel2'.drop.split e2
  refine .inr ?_
  rw [q1,oas_app,oas_cons]
  rw [ea] at e1
  cases e1
  rw [own1_tr,eS]
  simp
 have kN:Keep (Nw M (ents σ env2 ts)) H2 (upd H2 a (.ext (DctAt a (putE es k b v1)))):=Keep.own na
 refine rel2'.drop.retreeT (R:=[]) e2 ea (by rw[eS];simp) (by simp) ?_
 rw [eS]
 exact .dct upd_same (p2.keep kN) (p3.keep kN) p1
end
section
variable {K:PySem.W.Frag}{M P N:Addr→Prop}{H0 H H':Hp}{E T A B:List Ent}{σ0 σ:St}{env:List Sl}{ts tt:List (V×Sl)}{v:V}{s:Sl}{d:PyData}{kvs:List (StdK×PyData)}
theorem RelE.addD (h:RelE K M P H0 E H) {p:Addr} (hp:H p=none):RelE K M P H0 (E++[(some (.ref p),.tr [p] (dctD []))]) (upd H p (.ext (DctAt p []))):=by
 have oe:oas (E++[(some (.ref p),Sl.tr [p] (dctD []))])=oas E++[p]:=by
  rw [oas_app]
  rfl
 have np:p ∉ oas E:=fun z=>by
  obtain ⟨vs',q,_⟩:=h.own z
  rw [hp] at q
  cases q
 have h0:H0 p=none:=by
  cases e:H0 p with
  | none=>rfl
  | some o=>exact absurd hp (h.live p (by rw[e];simp))
 have up:∀ b o,H b=some o→Nw M (E++[(some (.ref p),Sl.tr [p] (dctD []))]) b→Nw M E b:=fun b o e z=>by
  rcases z with z|z
  ·exact .inl z
  ·rw [oe] at z
   rcases List.mem_append.mp z with z|z
   ·exact .inr z
   ·rw [List.mem_singleton.mp z,hp] at e
    cases e
 have h':=h.same (Same.new (o:=.ext (DctAt p [])) hp)
 refine ⟨h'.keep,h'.live,h.mt,h.pm,fun x d' m=>?_,fun x d' m=>?_,fun x d' m=>?_,fun x S d' m=>?_,?_⟩
 ·rcases List.mem_append.mp m with m|m
  ·obtain ⟨v,e,dn⟩:=h.fr x d' m
   exact ⟨v,e,(dn.to up).keep (Keep.same (Same.new hp))⟩
  ·rw [List.mem_singleton] at m
   cases m
 ·rcases List.mem_append.mp m with m|m
  ·obtain ⟨a,ws,e,e2,dn,r⟩:=h.ow x d' m
   exact ⟨a,ws,e,Same.new hp _ _ e2,(dn.to up).keep (Keep.same (Same.new hp)),r⟩
  ·rw [List.mem_singleton] at m
   cases m
 ·rcases List.mem_append.mp m with m|m
  ·obtain ⟨a,ws,e,e2,dn,r⟩:=h.io x d' m
   exact ⟨a,ws,e,Same.new hp _ _ e2,(dn.to up).keep (Keep.same (Same.new hp)),r⟩
  ·rw [List.mem_singleton] at m
   cases m
 ·rcases List.mem_append.mp m with m|m
  ·obtain ⟨v,e,dn,r⟩:=h.tr x S d' m
   exact ⟨v,e,(dn.to up).keep (Keep.same (Same.new hp)) fun a ha=>by
    obtain ⟨xs,z⟩:=dn.lives a ha
    rw [Same.new hp _ _ z,z],r⟩
  ·rw [List.mem_singleton] at m
   cases m
   exact ⟨_,rfl,.dct (es:=[]) (kvs:=[]) upd_same .nil .nil rfl,fun a ha=>by rw[List.mem_singleton.mp ha];exact h0⟩
 ·rw [oe]
  exact List.nodup_append.mpr ⟨h.nd,by simp,fun a ha b hb=>by rw[List.mem_singleton.mp hb];exact fun z=>np (z▸ha)⟩
theorem Rel.addD (h:Rel K M P H0 σ0 σ env ts H) {p:Addr} (hp:H p=none):Rel K M P H0 σ0 σ env (ts++[(.ref p,.tr [p] (dctD []))]) (upd H p (.ext (DctAt p []))):=h.withRes (h.e.addD hp) rfl
end
section
variable {X:Cx}{K:PySem.W.Frag}{pos:Pos}{e1 e2:Expr}{tk tv:DE}
noncomputable def dDct0:DE:=fun env R=>∀ S,R (.tr S (dctD [])) env
theorem q_dct0:PE X (.Dict [] [] pos) (up K dDct0):=pe_dct0.imp fun σ H Q h=>by
 obtain ⟨M,P,H0,σ0,env,ts,R,rel,ht,hq⟩:=h
 exact fun p hp=>hq _ _ _ _ (ht _) (rel.addD hp)
noncomputable def dDct1 (tk tv:DE):DE:=fun env R=>tk env fun s1 env1=>tv env1 fun s2 env2=>∃ (k:StdK) (d:PyData),keepOf env2 s1=some (stdD k)∧keepOf env2 s2=some d∧∀ S,R (.tr S (dctD [(k,d)])) env2
theorem q_dct1 (hK:X.K=K) (hu:X.A.units+2<cLine) (hk:PE X e1 (up K tk)) (hv:PE X e2 (up K tv)):PE X (.Dict [some e1] [e2] pos) (up K (dDct1 tk tv)):=by
 subst hK
 refine (pe_dct1 (Nat.lt_of_le_of_lt (Nat.le_succ _) hu) hk hv).imp fun σ H Q h=>?_
 obtain ⟨M,P,H0,σ0,env,ts,R,rel,ht,hq⟩:=h
 intro p hp
 refine ⟨M,P,H0,σ0,env,_,_,rel.addD hp,ht,fun s1 env1 v1 H1 h1 rel1=>⟨M,P,H0,σ0,env1,_,_,rel1,h1,fun s2 env2 v2 H2 h2 rel2=>?_⟩⟩
 obtain ⟨k,d,ek,ed,hR⟩:=h2
 have rel2':Rel X.K M P H0 σ0 σ env2 ((ts++[(.ref p,.tr [p] (dctD []))])++[(v1,s1),(v2,s2)]) H2:=by simpa using rel2
 have dn1:=rel2'.kept (v:=v1) (s:=s1) (by simp) ek
 have dn2:=rel2'.kept (v:=v2) (s:=s2) (by simp) ed
 have rel3:=rel2'.drop
 have hE:=rel3.e
 rw [ents_app] at hE dn1 dn2
 obtain ⟨v',ev,ot,h0⟩:=hE.tr _ _ _ (List.mem_append_right _ List.mem_cons_self)
 obtain ⟨a,es,ev2,eS,hH,hk2,hv2,ee⟩:=ot.dct_of (kvs:=[]) rfl
 rw [ev2] at ev
 cases ev
 have ees:es=[]:=by simpa using ee
 subst ees
 obtain ⟨b,xs,rfl,_,_⟩:=dn1.tuple
 refine ⟨k,b,rfl,dn1.dv,hH,hq _ _ _ _ (hR [p]) ?_⟩
 have na:Nw M (ents σ env2 ts++tmp [(V.ref p,Sl.tr [p] (dctD []))]) p:=.inr (by rw[oas_app];exact List.mem_append_right _ (mem_oas.mpr ⟨_,List.mem_singleton.mpr rfl,List.mem_singleton.mpr rfl⟩))
 have kN:Keep (Nw M (ents σ env2 ts++tmp [(V.ref p,Sl.tr [p] (dctD []))])) H2 (upd H2 p (.ext (DctAt p [(k,b,v2)]))):=Keep.own na
 refine rel3.drop.withRes ?_ rfl
 refine RelE.retreeR (B:=[]) (R:=[]) (S:=[p]) hE (by simp) (by simp) ?_
 exact .dct (es:=[(k,b,v2)]) (kvs:=[(k,d)]) upd_same ((DNs.cons dn1 .nil).keep kN) ((DNs.cons dn2 .nil).keep kN) rfl
end
end L2
namespace L2
open PySem PySem.Spec PyProof.Rows
noncomputable abbrev wD (w:List (List Int)):PyData:=.list (w.map fun r=>fzD (r.map .int))
noncomputable abbrev waysD (W:List (List (List Int))):PyData:=.list (W.map wD)
section
variable {K:PySem.W.Frag}{M P N:Addr→Prop}{H0 H H':Hp}{E T A B:List Ent}{σ0 σ:St}{env:List Sl}{ts tt:List (V×Sl)}{v:V}{s:Sl}{d:PyData}
theorem OT.unfz {S:List Addr}{ds:List PyData} (h:OT K N H v d S) (e:d=fzD ds):DN K N H v (.list ds)∧S=[]:=by
 cases h with
 | @fz _ ds' h =>
  simp only [fzD,PyData.dict.injEq,List.cons.injEq,Prod.mk.injEq,PyData.list.injEq,and_true,true_and] at e
  subst e
  exact ⟨h,rfl⟩
 | dct _ _ _ _=>exact (fz_no e.symm).elim
 | _=>cases e
theorem DN.unfz {ds:List PyData} (h:DN K N H v d) (e:d=fzD ds):DN K N H v (.list ds):=by
 cases h with
 | @fz _ ds' h =>
  simp only [fzD,PyData.dict.injEq,List.cons.injEq,Prod.mk.injEq,PyData.list.injEq,and_true,true_and] at e
  subst e
  exact h
 | dct _ _ _ _ _=>exact (fz_no e.symm).elim
 | _=>cases e
theorem fzs_lr:∀ w:List (List Int),fzs (w.map fun r=>PyData.list (r.map .int))=some (w.map fun r=>fzD (r.map .int))
 | []=>rfl
 | r::w=>by
  show (fzs (w.map fun r=>PyData.list (r.map .int))).map (fzD (r.map .int)::·)=_
  rw [fzs_lr w]
  rfl
theorem tree_way (w:List (List Int)):treeD env (.ow (w.map fun r=>PyData.list (r.map .int)))=some (wD w):=by
 show (if noLs _=true then _ else _)=_
 rw [fzs_lr]
 cases w with
 | nil=>rfl
 | cons r w =>
  rw [if_neg (by simp[noLs,noL])]
  rfl
theorem OTs.row:∀ {w:List (List Int)}{us:List V}{S:List Addr},OTs K N H us (w.map fun r=>fzD (r.map .int)) S→S=[]∧DNs K N H us (w.map fun r=>PyData.list (r.map .int))
 | [],_,_,h=>by cases h;exact⟨rfl,.nil⟩
 | r :: w,_,_,h=>by
  rw [List.map_cons] at h
  cases h with
  | cons h q =>
   obtain ⟨e1,e2⟩:=OTs.row q
   obtain ⟨d1,d2⟩:=h.unfz rfl
   subst e1 d2
   exact ⟨rfl,.cons d1 e2⟩
theorem DNs.row:∀ {w:List (List Int)}{us:List V},DNs K N H us (w.map fun r=>PyData.list (r.map .int))→OTs K N H us (w.map fun r=>fzD (r.map .int)) []
 | [],_,h=>by cases h;exact .nil
 | r::w,_,h=>by
  rw [List.map_cons] at h
  cases h with
  | cons h q=>exact .cons (S:=[]) (S':=[]) (.fz h) (DNs.row q)
theorem OTs.last:∀ {W:List (List (List Int))}{w:List (List Int)}{vs:List V}{S:List Addr},OTs K N H vs ((W++[w]).map wD) S →
  ∃ vs' S' b us,vs=vs'++[.ref b]∧S=S'++[b]∧OTs K N H vs' (W.map wD) S'∧H b=some (.lst us)∧DNs K N H us (w.map fun r=>PyData.list (r.map .int))
 | [],w,_,_,h=>by
  rw [List.nil_append,List.map_cons,List.map_nil] at h
  cases h with
  | cons h q =>
   cases q
   cases h with
   | @lst b us _ S hb qb =>
    obtain ⟨e1,e2⟩:=qb.row
    subst e1
    exact ⟨[],[],b,us,rfl,by simp,.nil,hb,e2⟩
 | w0::W,w,_,_,h=>by
  rw [List.cons_append,List.map_cons] at h
  cases h with
  | @cons x xs _ _ S1 S2 h q =>
   obtain ⟨vs',S',b,us,e1,e2,q',hb,dn⟩:=OTs.last q
   subst e1 e2
   exact ⟨x::vs',S1++S',b,us,rfl,by simp,.cons h q',hb,dn⟩
theorem OTs.snoc {W:List (List (List Int))}{w:List (List Int)}{vs:List V}{S:List Addr}{b:Addr}{us:List V} (q:OTs K N H vs (W.map wD) S) (hb:H b=some (.lst us)) (dn:DNs K N H us (w.map fun r=>PyData.list (r.map .int))) :
  OTs K N H (vs++[.ref b]) ((W++[w]).map wD) (S++[b]):=by
 rw [List.map_append]
 refine q.app ?_
 have:=OTs.cons (OT.lst hb dn.row) (OTs.nil (K:=K) (N:=N) (H:=H))
 simpa using this
theorem Rel.ways {i:Nat}{S:List Addr}{W:List (List (List Int))}{w:List (List Int)} (h:Rel K M P H0 σ0 σ env ts H) (e:env[i]? = some (.tr S (waysD (W++[w])))) :
  ∃ a vs S' b us,σ[i]? = some (some (.ref a))∧S=a::(S'++[b])∧S.Nodup∧(∀ c∈S,Nw M (ents σ env ts) c)∧H a=some (.lst (vs++[.ref b]))∧OTs K (Nw M (ents σ env ts)) H vs (W.map wD) S'∧H b=some (.lst us)∧DNs K (Nw M (ents σ env ts)) H us (w.map fun r=>PyData.list (r.map .int)):=by
 obtain ⟨x,A,B,e1,q1,q2⟩:=h.split e
 obtain ⟨x',e1',m⟩:=h.slot e
 obtain ⟨v,ev,ot,_⟩:=h.e.tr _ _ _ m
 rw [e1] at e1'
 cases e1'
 subst ev
 cases ot with
 | @lst a us0 _ S0 ha q =>
  obtain ⟨vs',S',b,us,rfl,rfl,q',hb,dn⟩:=OTs.last q
  have oe:oas (ents σ env ts)=oas A++((a::(S'++[b]))++oas B):=by rw[q1,oas_app,oas_cons,own1_tr]
  have nd:=h.e.nd
  rw [oe] at nd
  refine ⟨a,vs',S',b,us,e1,rfl,(List.nodup_append.mp (List.nodup_append.mp nd).2.1).1,fun c hc=>.inr ?_,ha,q',hb,dn⟩
  rw [oe]
  exact List.mem_append_right _ (List.mem_append_left _ hc)
noncomputable def gIxZ:G2:=fun d e R=>∃ ds i x,seqOf d=some ds∧e=.int i∧atI ds i=some (fzD x)∧R (.list x)
theorem mIxZ:Means K (rIxA K) gIxZ:=by
 rintro N H x y d e R Q w1 w2 ⟨ds,i,z,e1,rfl,e2,hR⟩ hq
 obtain ⟨a,vs,rfl,s,q⟩:=w1.seq e1
 obtain ⟨u,e3,dn⟩:=q.atI e2
 rcases s with s|s
 ·exact .inl ⟨a,vs,i,u,rfl,w2.int,s,e3,hq _ _ hR (dn.unfz rfl)⟩
 ·exact .inr ⟨a,vs,i,u,rfl,w2.int,s,e3,hq _ _ hR (dn.unfz rfl)⟩
theorem atI_lastV {α:Type} (xs:List α) (v:α):atI (xs++[v]) (-1)=some v:=by
 unfold atI ixN
 rw [if_neg (by decide),if_pos (by rw[List.length_append];simp;omega)]
 show (xs++[v])[(-1+((xs++[v]).length:Int)).toNat]? = some v
 rw [show (-1+((xs++[v]).length:Int)).toNat=xs.length by rw[List.length_append];simp;omega]
 simp
end
section
variable {X:Cx}{K:PySem.W.Frag}{pos npos:Pos}{y:Str}{j j2:Nat}{p3 p4 p5 p6 p7 apos cpos:Pos}
noncomputable def dTruthL (i:Nat):DT:=fun env R=>∃ (S:List Addr) (W:List (List (List Int))) (w:List (List Int)),env[i]? = some (.tr S (waysD (W++[w])))∧R (!w.isEmpty) env
theorem qt_truthL (i:Nat) (hK:X.K=K) (hN:X.N[i]? = some y) (hv:Vis X.env.scope y:=by first|exact Or.inl rfl|exact Or.inr (Or.inl rfl)|exact Or.inr (Or.inr rfl)) (hd:(y==("__debug__" : Str))=false:=by decide)
  (hcd:(y==("__classdict__" : Str))=false:=by decide) (hp:PlainIx (.UnaryOp .USub (.Constant (.int 1) j p3) p4):=by intro _ _;rfl)
  (he:∀ whole,isTrue (.Subscript (.Name y npos) (.UnaryOp .USub (.Constant (.int 1) j p3) p4) pos) X.env whole=(do let v ←whole;standAt (Expr.pos (.Subscript (.Name y npos) (.UnaryOp .USub (.Constant (.int 1) j p3) p4) pos));holding [v] (truthy v)):=by intro _;rfl) :
  PT X (.Subscript (.Name y npos) (.UnaryOp .USub (.Constant (.int 1) j p3) p4) pos) (upT K (dTruthL i)) :=
 (kTruth (K:=K) hK (pe_ix (ix_any hK) (pe_var hN hv hd hcd) pe_neg1 hp) he).imp fun σ H Q h=>by
 obtain ⟨M,P,H0,σ0,env,ts,R,rel,⟨S,W,w,e,hR⟩,hq⟩:=h
 obtain ⟨a,vs,S',b,us,ea,_,_,_,ha,_,hb,dn⟩:=rel.ways e
 refine ⟨.ref a,ea,.inl ⟨a,_,-1,.ref b,rfl,rfl,SqL.of ha,atI_lastV _ _,_,.inl ⟨us,SqL.of hb,?_⟩,hq _ _ _ hR rel⟩⟩
 have:=dn.len
 cases us with
 | nil=>cases w with
  | nil=>rfl
  | cons r w=>simp at this
 | cons u us=>cases w with
  | nil=>simp at this
  | cons r w=>rfl
noncomputable def dHeadL (i:Nat):DE:=fun env R=>∃ (S:List Addr) (W:List (List (List Int))) (r:List Int) (w:List (List Int)),env[i]? = some (.tr S (waysD (W++[r::w])))∧R (.fr (.list (r.map .int))) env
theorem q_headL (i:Nat) (hK:X.K=K) (hN:X.N[i]? = some y) (hv:Vis X.env.scope y:=by first|exact Or.inl rfl|exact Or.inr (Or.inl rfl)|exact Or.inr (Or.inr rfl)) (hd:(y==("__debug__" : Str))=false:=by decide)
  (hcd:(y==("__classdict__" : Str))=false:=by decide) (hp:PlainIx (.UnaryOp .USub (.Constant (.int 1) j p3) p4):=by intro _ _;rfl) (hp0:PlainIx (.Constant (.int 0) j2 p5):=by intro _ _;rfl) :
  PE X (.Subscript (.Subscript (.Name y npos) (.UnaryOp .USub (.Constant (.int 1) j p3) p4) pos) (.Constant (.int 0) j2 p5) p6) (up K (dHeadL i)) :=
 (pe_ix (ix_any hK) (pe_ix (ix_any hK) (pe_var hN hv hd hcd) pe_neg1 hp) pe_int hp0).imp fun σ H Q h=>by
 obtain ⟨M,P,H0,σ0,env,ts,R,rel,⟨S,W,r,w,e,hR⟩,hq⟩:=h
 obtain ⟨a,vs,S',b,us,ea,_,_,_,ha,_,hb,dn⟩:=rel.ways e
 rw [List.map_cons] at dn
 cases dn with
 | @cons u us _ _ dn1 dn2 =>
  exact ⟨.ref a,ea,.inl ⟨a,_,-1,.ref b,rfl,rfl,SqL.of ha,atI_lastV _ _,.inl ⟨b,_,0,u,rfl,rfl,SqL.of hb,by simp[atI,ixN],hq _ _ _ _ hR (rel.addFr dn1)⟩⟩⟩
noncomputable def dPop0L (i:Nat):DE:=fun env R=>∃ (S:List Addr) (W:List (List (List Int))) (r:List Int) (w:List (List Int)),env[i]? = some (.tr S (waysD (W++[r::w])))∧R (.fr (.list (r.map .int))) (env.set i (.tr S (waysD (W++[w]))))
theorem q_pop0L (i:Nat) (hK:X.K=K) (hN:X.N[i]? = some y) (hv:Vis X.env.scope y:=by first|exact Or.inl rfl|exact Or.inr (Or.inl rfl)|exact Or.inr (Or.inr rfl)) (hd:(y==("__debug__" : Str))=false:=by decide)
  (hcd:(y==("__classdict__" : Str))=false:=by decide) (hp:PlainIx (.UnaryOp .USub (.Constant (.int 1) j p3) p4):=by intro _ _;rfl)
  (hs0:starEach [.Constant (.int 0) j2 p5] X.env=[(false,eval (.Constant (.int 0) j2 p5) X.env)]:=by rfl)
  (hbase:attributeBase (.Subscript (.Name y npos) (.UnaryOp .USub (.Constant (.int 1) j p3) p4) pos) "pop" X.env (eval (.Subscript (.Name y npos) (.UnaryOp .USub (.Constant (.int 1) j p3) p4) pos) X.env)=eval (.Subscript (.Name y npos) (.UnaryOp .USub (.Constant (.int 1) j p3) p4) pos) X.env:=by rfl)
  (hfew:((backTo cpos (starEach [.Constant (.int 0) j2 p5] X.env)).all (fun x=>!x.1)&&(backToKw cpos (keywordEach [] X.env)).all (fun x=>x.1.isSome)&&decide ([Expr.Constant (.int 0) j2 p5].length+([]:List Keyword).length+(if ([]:List Keyword).isEmpty then 0 else 1)<30))=true:=by rfl)
  (hline:(apos.endLine==cpos.line)=true:=by rfl) (hplain:(backTo cpos (starEach [] X.env)).any (·.1)=false:=by rfl) :
  PE X (.Call (.Attribute (.Subscript (.Name y npos) (.UnaryOp .USub (.Constant (.int 1) j p3) p4) pos) "pop" apos) [.Constant (.int 0) j2 p5] [] cpos) (up K (dPop0L i)) :=
 (kBm (K:=K) hK PySem.F.plainAttrs_list PySem.F.slot_list_pop PySem.F.type_list_pop mt_popAt (pe_ix (ix_any hK) (pe_var hN hv hd hcd) pe_neg1 hp) (pa_cons pe_int pa_nil hs0) hbase hfew hline hs0 hplain).imp fun σ H Q h=>by
 obtain ⟨M,P,H0,σ0,env,ts,R,rel,⟨S,W,r,w,e,hR⟩,hq⟩:=h
 obtain ⟨a,vs,S',b,us,ea,eS,ndS,hNw,ha,q,hb,dn⟩:=rel.ways e
 rw [List.map_cons] at dn
 cases dn with
 | @cons u us _ _ dn1 dn2 =>
  refine ⟨.ref a,ea,.inl ⟨a,_,-1,.ref b,rfl,rfl,SqL.of ha,atI_lastV _ _,.inl ⟨rfl,_,SqL.of hb⟩,b,_,0,0,u,rfl,rfl,hb,by decide,by decide,by simp[seqIndex?],rfl,hq _ _ _ _ hR ?_⟩⟩
  have mb:b∈S:=by rw[eS];simp
  have kN:Keep (Nw M (ents σ env ts)) H (upd H b (.lst us)):=Keep.own (hNw b mb)
  subst eS
  obtain ⟨n1,n2⟩:=List.nodup_cons.mp ndS
  obtain ⟨n3,n4,n5⟩:=List.nodup_append.mp n2
  have nab:a≠b:=fun z=>n1 (by rw[z];simp)
  refine Rel.addFr (rel.retreeT (R:=[]) e ea mb (by simp) ?_) ?_
  ·refine .lst (by rw[upd_ne nab];exact ha) ?_
   refine OTs.snoc (q.keep kN fun c hc=>upd_ne fun z=>n5 c hc b (by simp) z) upd_same (dn2.keep kN)
  ·have oe:ents σ (env.set i (.tr (a::(S'++[b])) (waysD (W++[w])))) ts=ents σ (env.set i (.tr (a::(S'++[b])) (waysD (W++[w])))) ts:=rfl
   obtain ⟨x,A,B,e1,q1,q2⟩:=rel.split e
   refine (dn1.keep kN).to fun c o _ z=>?_
   rw [q2] at z
   rw [q1]
   rcases z with z|z
   ·exact .inl z
   ·refine .inr ?_
    rw [ea] at e1
    cases e1
    rw [oas_app,oas_cons,own1_tr] at z ⊢
    exact z
noncomputable def dPopL (i:Nat):DE:=fun env R=>∃ (S:List Addr) (W:List (List (List Int))) (w:List (List Int)),env[i]? = some (.tr S (waysD (W++[w])))∧∀ S',R .un (env.set i (.tr S' (waysD W)))
theorem q_popL (i:Nat) (hK:X.K=K) (hN:X.N[i]? = some y) (hv:Vis X.env.scope y:=by first|exact Or.inl rfl|exact Or.inr (Or.inl rfl)|exact Or.inr (Or.inr rfl)) (hd:(y==("__debug__" : Str))=false:=by decide)
  (hcd:(y==("__classdict__" : Str))=false:=by decide)
  (hbase:attributeBase (.Name y npos) "pop" X.env (eval (.Name y npos) X.env)=eval (.Name y npos) X.env:=by rfl) (hline:(apos.endLine==cpos.line)=true:=by rfl) :
  PE X (.Call (.Attribute (.Name y npos) "pop" apos) [] [] cpos) (up K (dPopL i)) :=
 (kBm0 (K:=K) hK PySem.F.plainAttrs_list PySem.F.slot_list_pop PySem.F.type_list_pop mt_pop (pe_var hN hv hd hcd) hbase hline).imp fun σ H Q h=>by
 obtain ⟨M,P,H0,σ0,env,ts,R,rel,⟨S,W,w,e,hR⟩,hq⟩:=h
 obtain ⟨a,vs,S',b,us,ea,eS,ndS,hNw,ha,q,hb,dn⟩:=rel.ways e
 subst eS
 refine ⟨.ref a,ea,.inl ⟨rfl,_,SqL.of ha⟩,a,_,.ref b,rfl,rfl,ha,by simp,hq _ _ _ _ (hR (a::S')) ?_⟩
 have ma:a∈a::(S'++[b]):=List.mem_cons_self
 have kN:Keep (Nw M (ents σ env ts)) H (upd H a (.lst vs)):=Keep.own (hNw a ma)
 obtain ⟨n1,n2⟩:=List.nodup_cons.mp ndS
 rw [List.dropLast_concat]
 have r2:=rel.retreeT (o:=.lst vs) (S':=a::S') (R:=[b]) (d':=waysD W) e ea ma (by simp) (.lst upd_same (q.keep kN fun c hc=>upd_ne fun z=>n1 (by rw[←z];simp[hc])))
 have re:RelE K M P H0 (ents σ (env.set i (.tr (a::S') (waysD W))) ts++tmp [(V.ref b,Sl.un)]) (upd H a (.lst vs)):=by
  refine r2.e.sub (fun x t m=>?_) ?_
  ·rcases List.mem_append.mp m with m|m
   ·exact .inl m
   ·have m:=List.mem_singleton.mp m
    injection m with m1 m2
    exact .inr (.inl m2)
  ·rw [oas_app]
   show (oas _++oas [(some (.ref b),Sl.un)]).Nodup
   rw [show oas [((some (.ref b),Sl.un):Ent)]=[] from rfl,List.append_nil]
   exact r2.e.nd
 refine ⟨by rw[ents_app];exact re,r2.len,fun w i m=>?_,r2.ios⟩
 rcases List.mem_append.mp m with m|m
 ·exact r2.vw w i m
 ·rw [List.mem_singleton] at m
  cases m
end
end L2
namespace L2
open PySem PySem.Spec PyProof.Rows PySem.W
theorem kasRun_bind {α β:Type}{lt:Nat→Nat→Bool}{f:α→KasT β}:∀ t:KasT α,kasRun lt (t.bind f)=kasRun lt (f (kasRun lt t))
 | .ret a=>rfl
 | .ask i j k=>kasRun_bind (k (lt i j))
theorem kasRun_ask {α:Type}{lt:Nat→Nat→Bool}{i j:Nat}{k:Bool→KasT α}:kasRun lt (.ask i j k)=kasRun lt (k (lt i j)):=rfl
noncomputable def gA (p:Array Nat) (k:Nat):Nat:=p.getD k 0
theorem gA_rev {p:Array Nat}{i j:Nat} (hj:j≤p.size) (k:Nat):gA (kas_rev p i j) k=if i≤k∧k<j then gA p (i+j - 1 - k) else gA p k:=by
 unfold gA kas_rev
 rw [Array.getD_eq_getD_getElem?,getElem?_mirror_all hj]
 split <;> rw[Array.getD_eq_getD_getElem?]
theorem gA_bub {p:Array Nat}{src d:Nat} (hs:src<p.size) (hd:d≤src) (k:Nat):gA (bubble p src d) k=if k=src - d then gA p src else if src - d<k∧k≤src then gA p (k - 1) else gA p k:=by
 unfold gA
 rw [Array.getD_eq_getD_getElem?,getElem?_bubble hs d hd]
 by_cases c1:k=src - d
 ·rw [if_pos c1,if_pos c1,←Array.getD_eq_getD_getElem?]
 ·rw [if_neg c1,if_neg c1]
  by_cases c2:src - d<k∧k≤src
  ·rw [if_pos c2,if_pos c2,←Array.getD_eq_getD_getElem?]
  ·rw [if_neg c2,if_neg c2,←Array.getD_eq_getD_getElem?]
theorem rev_size (p:Array Nat) (i j:Nat):(kas_rev p i j).size=p.size:=mirror_size _ _ _ _
section
variable {lt:Nat→Nat→Bool} (as:∀ a b,lt a b=true→lt b a=false) (tr:∀ a b c,lt a b=false→lt b c=false→lt a c=false)
noncomputable def AscA (lt:Nat→Nat→Bool) (p:Array Nat) (n:Nat):Prop:=∀ i,1≤i→i<n→lt (gA p i) (gA p (i - 1))=false
noncomputable def DescA (lt:Nat→Nat→Bool) (p:Array Nat) (n:Nat):Prop:=∀ i,1≤i→i<n→lt (gA p (i - 1)) (gA p i)=false
include as tr
theorem lt_irr (a:Nat):lt a a=false:=by
 cases e:lt a a with
 | false=>rfl
 | true=>have:=as a a e;rw[e] at this;cases this
theorem AscA.far {p:Array Nat}{n:Nat} (h:AscA lt p n):∀ d a,a+d<n→lt (gA p (a+d)) (gA p a)=false
 | 0,a,_=>lt_irr as tr _
 | d+1,a,hd=>by
  have h1:=h (a+(d+1)) (by omega) hd
  rw [show a+(d+1) - 1=a+d by omega] at h1
  exact tr _ _ _ h1 (AscA.far h d a (by omega))
theorem AscA.le {p:Array Nat}{n:Nat} (h:AscA lt p n) {a b:Nat} (hab:a≤b) (hb:b<n):lt (gA p b) (gA p a)=false:=by
 have:=AscA.far as tr h (b - a) a (by omega)
 rwa [show a+(b - a)=b by omega] at this
theorem DescA.far {p:Array Nat}{n:Nat} (h:DescA lt p n):∀ d a,a+d<n→lt (gA p a) (gA p (a+d))=false
 | 0,a,_=>lt_irr as tr _
 | d+1,a,hd=>by
  have h1:=h (a+(d+1)) (by omega) hd
  rw [show a+(d+1) - 1=a+d by omega] at h1
  exact tr _ _ _ (DescA.far h d a (by omega)) h1
theorem DescA.le {p:Array Nat}{n:Nat} (h:DescA lt p n) {a b:Nat} (hab:a≤b) (hb:b<n):lt (gA p a) (gA p b)=false:=by
 have:=DescA.far as tr h (b - a) a (by omega)
 rwa [show a+(b - a)=b by omega] at this
omit as tr in
theorem asc_run {p:Array Nat}:∀ (f n:Nat),1≤n→AscA lt p n→n≤kasRun lt (kas_asc p f n)∧kasRun lt (kas_asc p f n)≤n+f∧AscA lt p (kasRun lt (kas_asc p f n))∧(kasRun lt (kas_asc p f n)<n+f→lt (gA p (kasRun lt (kas_asc p f n))) (gA p (kasRun lt (kas_asc p f n) - 1))=true)
 | 0,n,_,h=>⟨Nat.le_refl _,Nat.le_refl _,h,fun z=>absurd z (Nat.lt_irrefl _)⟩
 | f + 1,n,hn,h=>by
  have e:kasRun lt (kas_asc p (f+1) n)=kasRun lt (if lt (gA p n) (gA p (n - 1))=true then KasT.ret n else kas_asc p f (n+1)):=rfl
  rw [e]
  cases c:lt (gA p n) (gA p (n - 1)) with
  | true=>exact⟨Nat.le_refl _,by show n≤_;omega,h,fun _=>c⟩
  | false =>
   rw [if_neg (by decide)]
   obtain ⟨a1,a2,a3,a4⟩:=asc_run (p:=p) f (n+1) (by omega) fun i hi hi2=>by
    by_cases hin:i=n
    ·rw [hin];exact c
    ·exact h i hi (by omega)
   exact ⟨by omega,by omega,a3,fun z=>a4 (by omega)⟩
theorem desc_rev {p:Array Nat}{n q:Nat} (hz:n≤p.size) (hq:q+1≤n) (h:DescA lt p n) (he:∀ i,n - (q+1)≤i→i+1<n→lt (gA p (i+1)) (gA p i)=false):DescA lt (kas_rev p (n - (q+1)) n) n:=by
 intro i h1 h2
 rw [gA_rev hz,gA_rev hz]
 by_cases hi:n - (q+1)≤i
 ·rw [if_pos (show n - (q+1)≤i∧i<n from ⟨hi,h2⟩)]
  by_cases hi2:n - (q+1)≤i - 1
  ·rw [if_pos (show n - (q+1)≤i - 1∧i - 1<n from ⟨hi2,by omega⟩)]
   have:=he (n - (q+1)+n - 1 - i) (by omega) (by omega)
   rwa [show n - (q+1)+n - 1 - i+1=n - (q+1)+n - 1 - (i - 1) by omega] at this
  ·rw [if_neg (by omega)]
   exact DescA.le as tr h (by omega) (by omega)
 ·rw [if_neg (by omega),if_neg (by omega)]
  exact h i h1 h2
theorem desc_run:∀ (f:Nat) (p:Array Nat) (n q:Nat),n+f≤p.size→q+1≤n→DescA lt p n→(∀ i,n - (q+1)≤i→i+1<n→lt (gA p (i+1)) (gA p i)=false) →
  ∃ p' n' q',kasRun lt (kas_desc f p n q)=(p',n',q')∧p'.size=p.size∧n≤n'∧n'≤n+f∧q'+1≤n'∧DescA lt p' n'∧∀ i,n' - (q'+1)≤i→i+1<n'→lt (gA p' (i+1)) (gA p' i)=false
 | 0,p,n,q,_,hq,h,he=>⟨p,n,q,rfl,rfl,Nat.le_refl _,Nat.le_refl _,hq,h,he⟩
 | f + 1,p,n,q,hz,hq,h,he=>by
  have e:kasRun lt (kas_desc (f+1) p n q)=kasRun lt (if lt (gA p n) (gA p (n - 1))=true then (if q>0 then kas_desc f (kas_rev p (n - (q+1)) n) (n+1) 0 else kas_desc f p (n+1) 0)
   else .ask (p.getD (n - 1) 0) (p.getD n 0) fun d=>if d=true then .ret (p,n,q) else kas_desc f p (n+1) (q+1)):=rfl
  rw [e]
  cases c:lt (gA p n) (gA p (n - 1)) with
  | true =>
   rw [if_pos rfl]
   have c':=as _ _ c
   by_cases hq0:q>0
   ·rw [if_pos hq0]
    have hd:=desc_rev as tr (p:=p) (n:=n) (q:=q) (by omega) hq h he
    obtain ⟨p',n',q',a1,a2,a3,a4,a5,a6,a7⟩:=desc_run f (kas_rev p (n - (q+1)) n) (n+1) 0 (by rw[rev_size];omega) (by omega) (fun i h1 h2=>by
     by_cases hin:i=n
     ·subst hin
      rw [gA_rev (by omega),gA_rev (by omega),if_neg (show ¬(i - (q+1)≤i∧i<i) by omega),if_pos (show i - (q+1)≤i - 1∧i - 1<i by omega)]
      refine tr _ _ _ ?_ c'
      exact DescA.le as tr h (by omega) (by omega)
     ·exact hd i h1 (by omega)) (fun i h1 h2=>by omega)
    exact ⟨p',n',q',a1,by rw[a2,rev_size],by omega,by omega,a5,a6,a7⟩
   ·rw [if_neg hq0]
    obtain ⟨p',n',q',a1,a2,a3,a4,a5,a6,a7⟩:=desc_run f p (n+1) 0 (by omega) (by omega) (fun i h1 h2=>by
     by_cases hin:i=n
     ·subst hin;exact c'
     ·exact h i h1 (by omega)) (fun i h1 h2=>by omega)
    exact ⟨p',n',q',a1,a2,by omega,by omega,a5,a6,a7⟩
  | false =>
   rw [if_neg (by decide)]
   have e2:kasRun lt (KasT.ask (p.getD (n - 1) 0) (p.getD n 0) fun d=>if d=true then .ret (p,n,q) else kas_desc f p (n+1) (q+1))=kasRun lt (if lt (gA p (n - 1)) (gA p n)=true then .ret (p,n,q) else kas_desc f p (n+1) (q+1)):=rfl
   rw [e2]
   cases c2:lt (gA p (n - 1)) (gA p n) with
   | true=>exact⟨p,n,q,rfl,rfl,Nat.le_refl _,by omega,hq,h,he⟩
   | false =>
    rw [if_neg (by decide)]
    obtain ⟨p',n',q',a1,a2,a3,a4,a5,a6,a7⟩:=desc_run f p (n+1) (q+1) (by omega) (by omega) (fun i h1 h2=>by
     by_cases hin:i=n
     ·subst hin;exact c2
     ·exact h i h1 (by omega)) (fun i h1 h2=>by
     by_cases hin:i+1=n
     ·rw [hin]
      have:i=n - 1:=by omega
      rw [this];exact c
     ·exact he i (by omega) (by omega))
    exact ⟨p',n',q',a1,a2,by omega,by omega,a5,a6,a7⟩
omit as tr in
theorem tail3_run {p:Array Nat}{n nrem:Nat} (h1:1≤n) (hn:n≤nrem) (hz:nrem≤p.size) (h:DescA lt p n) :
  ∃ m p',kasRun lt (kas_tail3 n nrem p)=(m,p')∧p'.size=p.size∧1≤m∧m≤nrem∧AscA lt p' m:=by
 unfold kas_tail3
 rw [kasRun_bind]
 have ha:AscA lt (kas_rev p 0 n) n:=fun i i1 i2=>by
  rw [gA_rev (by omega),gA_rev (by omega),if_pos (by omega),if_pos (by omega)]
  have:=h (n - i) (by omega) (by omega)
  rwa [show n - i - 1=0+n - 1 - i by omega,show n - i=0+n - 1 - (i - 1) by omega] at this
 obtain ⟨a1,a2,a3,_⟩:=asc_run (lt:=lt) (p:=kas_rev p 0 n) (nrem - n) n h1 ha
 exact ⟨_,_,rfl,rev_size _ _ _,by omega,by omega,a3⟩
theorem descPart_run {p:Array Nat}{n nrem:Nat} (hn:n+1≤nrem) (hz:nrem≤p.size) (h:DescA lt p (n+1)) :
  ∃ m p',kasRun lt (kas_descPart n nrem p)=(m,p')∧p'.size=p.size∧1≤m∧m≤nrem∧AscA lt p' m:=by
 unfold kas_descPart
 rw [kasRun_bind]
 obtain ⟨p',n',q',a1,a2,a3,a4,a5,a6,a7⟩:=desc_run as tr (nrem - (n+1)) p (n+1) 0 (by omega) (by omega) h fun i h1 h2=>by omega
 rw [a1]
 dsimp only
 split
 ·obtain ⟨m,p2,b1,b2,b3⟩:=tail3_run (p:=kas_rev p' (n' - (q'+1)) n') (n:=n') (nrem:=nrem) (by omega) (by omega) (by rw[rev_size];omega) (desc_rev as tr (by omega) a5 a6 a7)
  exact ⟨m,p2,b1,by rw[b2,rev_size,a2],b3⟩
 ·obtain ⟨m,p2,b1,b2,b3⟩:=tail3_run (p:=p') (n:=n') (nrem:=nrem) (by omega) (by omega) (by omega) a6
  exact ⟨m,p2,b1,by rw[b2,a2],b3⟩
theorem count_run {p:Array Nat}{nrem:Nat} (h1:1≤nrem) (hz:nrem≤p.size):∃ m p',kasRun lt (kas_count nrem p)=(m,p')∧p'.size=p.size∧1≤m∧m≤nrem∧AscA lt p' m:=by
 unfold kas_count
 rw [kasRun_bind]
 obtain ⟨a1,a2,a3,a4⟩:=asc_run (lt:=lt) (p:=p) (nrem - 1) 1 (Nat.le_refl _) fun i i1 i2=>by omega
 generalize kasRun lt (kas_asc p (nrem - 1) 1)=n at *
 split
 ·exact ⟨n,p,rfl,rfl,a1,by omega,a3⟩
 ·rename_i hne
  have hne:n≠nrem:=fun z=>hne (by rw[z];simp)
  have hst:=a4 (by omega)
  have hst':=as _ _ hst
  split
  ·rename_i hn1
   rw [kasRun_ask]
   have e:lt (p.getD 0 0) (p.getD (n - 1) 0)=lt (gA p 0) (gA p (n - 1)):=rfl
   rw [e]
   cases c:lt (gA p 0) (gA p (n - 1)) with
   | true=>exact⟨n,p,rfl,rfl,a1,by omega,a3⟩
   | false =>
    rw [if_neg (by decide)]
    obtain ⟨m,p2,b1,b2,b3⟩:=descPart_run as tr (p:=kas_rev p 0 n) (n:=n) (nrem:=nrem) (by omega) (by rw[rev_size];omega) fun i i1 i2=>by
     rw [gA_rev (by omega),gA_rev (by omega),if_pos (show 0≤i - 1∧i - 1<n by omega)]
     by_cases hin:i<n
     ·rw [if_pos (show 0≤i∧i<n by omega)]
      exact AscA.le as tr a3 (by omega) (by omega)
     ·rw [if_neg (show ¬(0≤i∧i<n) by omega)]
      have hin2:i=n:=by omega
      subst hin2
      rw [show 0+i - 1 - (i - 1)=0 by omega]
      exact tr _ _ _ c hst'
    exact ⟨m,p2,b1,by rw[b2,rev_size],b3⟩
  ·rename_i hn1
   have hn2:n=1:=by omega
   subst hn2
   exact descPart_run as tr (by omega) hz fun i i1 i2=>by
    have:i=1:=by omega
    subst this
    exact hst'
theorem place_run {p:Array Nat}{k:Nat} (h:AscA lt p k):∀ f l r,l≤r→r≤k→r - l≤f→(∀ i,i<l→lt (gA p k) (gA p i)=false)→(∀ i,r≤i→i<k→lt (gA p k) (gA p i)=true) →
  ∃ m,kasRun lt (kas_place p k f l r)=m∧m≤k∧(∀ i,i<m→lt (gA p k) (gA p i)=false)∧∀ i,m≤i→i<k→lt (gA p k) (gA p i)=true
 | 0,l,r,h1,h2,h3,hl,hr=>⟨l,rfl,by omega,hl,fun i i1 i2=>hr i (by omega) i2⟩
 | f + 1,l,r,h1,h2,h3,hl,hr=>by
  by_cases hlr:l≥r
  ·have e:kasRun lt (kas_place p k (f+1) l r)=l:=by show kasRun lt (if l≥r then KasT.ret l else _)=_;rw[if_pos hlr];rfl
   exact ⟨l,e,by omega,hl,fun i i1 i2=>hr i (by omega) i2⟩
  ·have e:kasRun lt (kas_place p k (f+1) l r)=kasRun lt (if lt (gA p k) (gA p ((l+r) / 2))=true then kas_place p k f l ((l+r) / 2) else kas_place p k f ((l+r) / 2+1) r):=by
    show kasRun lt (if l≥r then KasT.ret l else _)=_
    rw [if_neg hlr]
    rfl
   rw [e]
   cases c:lt (gA p k) (gA p ((l+r) / 2)) with
   | true =>
    rw [if_pos rfl]
    refine place_run h f l ((l+r) / 2) (by omega) (by omega) (by omega) hl fun i i1 i2=>?_
    cases c2:lt (gA p k) (gA p i) with
    | true=>rfl
    | false =>
     have:=tr _ _ _ c2 (AscA.le as tr h i1 i2)
     rw [c] at this
     cases this
   | false =>
    rw [if_neg (by decide)]
    refine place_run h f ((l+r) / 2+1) r (by omega) h2 (by omega) (fun i i1=>?_) hr
    exact tr _ _ _ c (AscA.le as tr h (by omega) (by omega))
theorem bin_run:∀ (f:Nat) (p:Array Nat) (k:Nat),k+f=p.size→AscA lt p k→AscA lt (kasRun lt (kas_bin f p k)) p.size
 | 0,p,k,e,h=>by
  rw [←e,Nat.add_zero]
  exact h
 | f + 1,p,k,e,h=>by
  have e1:kasRun lt (kas_bin (f+1) p k)=kasRun lt (kas_bin f (bubble p k (k - kasRun lt (kas_place p k k 0 k))) (k+1)):=by
   show kasRun lt ((kas_place p k k 0 k).bind _)=_
   rw [kasRun_bind]
  rw [e1]
  obtain ⟨m,em,hm,hl,hr⟩:=place_run as tr h k 0 k (Nat.zero_le _) (Nat.le_refl _) (by omega) (fun i hi=>by omega) fun i i1 i2=>by omega
  rw [em]
  have hsz:(bubble p k (k - m)).size=p.size:=bubble_size _ _ _
  rw [←hsz]
  refine bin_run f _ (k+1) (by rw[hsz];omega) fun i i1 i2=>?_
  rw [gA_bub (by omega) (by omega),gA_bub (by omega) (by omega),show k - (k - m)=m by omega]
  by_cases c1:i=m
  ·rw [if_pos c1,if_neg (by omega),if_neg (by omega)]
   exact hl (i - 1) (by omega)
  ·rw [if_neg c1]
   by_cases c2:m<i
   ·rw [if_pos (show m<i∧i≤k by omega)]
    by_cases c3:i - 1=m
    ·rw [if_pos c3,c3]
     exact as _ _ (hr m (Nat.le_refl _) (by omega))
    ·rw [if_neg c3,if_pos (show m<i - 1∧i - 1≤k by omega)]
     exact h (i - 1) (by omega) (by omega)
   ·rw [if_neg (by omega),if_neg (by omega),if_neg (by omega)]
    exact h i i1 (by omega)
theorem sort_run {n:Nat} (h1:1≤n):AscA lt (kasRun lt (kas_sort n)) n:=by
 unfold kas_sort
 rw [kasRun_bind]
 have hz:(List.toArray (List.range n)).size=n:=by simp
 obtain ⟨m,p,a1,a2,a3,a4,a5⟩:=count_run as tr (p:=List.toArray (List.range n)) (nrem:=n) h1 (by rw[hz];exact Nat.le_refl _)
 rw [a1]
 dsimp only
 rw [hz] at a2
 split
 ·rw [show max m 1=m by omega]
  have:=bin_run as tr (n - m) p m (by omega) a5
  rwa [a2] at this
 ·have hmn:n=m:=by omega
  rw [hmn]
  exact a5
end
end L2
namespace L2
open PySem PySem.Spec PyProof.Rows PySem.W
section
variable {prog:Program}{w:World}{A:Around}{E:Value→Shared→Prop}{s:Shared}
theorem ints_ok {us:List Value} (h2:2≤us.length) (k:∀ u∈us,∃ x t,u=Value.int x t):KeyOk prog w A us s:=by
 refine kas_kind (T:=.type "int") h2 (fun v hv=>?_) (by decide) (by rfl) ⟨rfl,fun i j C hi hj hc=>?_⟩
 ·obtain ⟨x,t,rfl⟩:=k v hv
  exact .now
 ·have e1:us.getD i Value.none=us[i]:=by simp[hi]
  have e2:us.getD j Value.none=us[j]:=by simp[hj]
  show wpAny (model prog w) A (keyLt' _ (us.getD i Value.none) (us.getD j Value.none)) C (fun _ _=>False) s
  rw [e1,e2]
  obtain ⟨x,t,ex⟩:=k us[i] (List.getElem_mem hi)
  obtain ⟨y,u,ey⟩:=k us[j] (List.getElem_mem hj)
  rw [ex,ey]
  exact kat_lt_int (hc _)
noncomputable def RowV (h:Heap) (v:Value):Prop:=∃ (l:Addr) (its:Array Value),v=.ref l∧h.IsList l its∧∀ j (h:j<its.size),∃ x t,its[j]=Value.int x t
theorem oneLt_list {l b:Addr}{items items2:Array Value}{Q:Bool→Shared→Prop} (hl:s.heap.IsList l items) (hb:s.heap.IsList b items2) (at1:∀ j (h:j<items.size),∃ x t,items[j]=Value.int x t) (at2:∀ j (h:j<items2.size),∃ x t,items2[j]=Value.int x t)
  (hu:A.units<cLine) (h:∀ c,Q c s):wpAny (model prog w) A (oneLt' true (.ref l) (.ref b)) Q E s:=by
 obtain ⟨⟨cls,dd,data,sl⟩,ho,hc,n,hd⟩:=id hl
 obtain ⟨⟨cls2,dd2,data2,sl2⟩,ho2,hc2,n2,hd2⟩:=id hb
 simp only at hc hd hc2 hd2
 subst hc hd hc2 hd2
 rw [oneLt'_eq]
 simp only [if_true]
 refine wpAny_bind (wpAny_cRoomFor hu ?_)
 refine wpAny_bind (wpAny_callSpecialIfBound?_slot ⟨_,ho,rfl⟩ F.slot_list_lt (call_meets F.slot_list_lt ⟨_,ho,rfl⟩ F.entry_list_lt (F.args_list_lt_2 _ _) (list_ltAt l b items items2 n n2 dd dd2 sl sl2 at1 at2) ⟨ho,ho2,fun c=>?_⟩))
 exact wpAny_truthy_bool (h c)
theorem rows_ok {us:List Value} (hu:A.units<cLine) (h2:2≤us.length) (k:∀ u∈us,RowV s.heap u):KeyOk prog w A us s:=by
 refine kas_kind (T:=.type "list") h2 (fun v hv=>?_) (by decide) (by rfl) ⟨rfl,fun i j C hi hj hc=>?_⟩
 ·obtain ⟨l,its,rfl,⟨o,ho,hc,_⟩,_⟩:=k v hv
  exact hc▸(Looks.ld ho).andThen .now
 ·have e1:us.getD i Value.none=us[i]:=by simp[hi]
  have e2:us.getD j Value.none=us[j]:=by simp[hj]
  show wpAny (model prog w) A (keyLt' _ (us.getD i Value.none) (us.getD j Value.none)) C (fun _ _=>False) s
  rw [e1,e2]
  obtain ⟨l,its,el,i1,i2⟩:=k us[i] (List.getElem_mem hi)
  obtain ⟨b,its2,eb,j1,j2⟩:=k us[j] (List.getElem_mem hj)
  rw [el,eb,keyLt'_oneType]
  exact oneLt_list i1 j1 i2 j2 hu hc
end
noncomputable def isIntD (d:PyData):Prop:=∃ n:Int,d=.int n
section
variable {X:Cx}{pins:List (Addr×Obj)}{σ:St}{H:Hp}{s:Shared}
theorem ints_of (I:Inv X pins σ H s):∀ {vs:List V}{ds:List PyData}{us:List Value},DVs X.K H vs ds→Vals vs us→(∀ d∈ds,isIntD d)→∀ u∈us,∃ x t,u=Value.int x t
 | _,_,_,.nil,.nil,_,u,h=>by cases h
 | _,_,_,.cons (d:=d) q1 q2,.cons r t,hk,u,h=>by
  rcases List.mem_cons.mp h with rfl|h
  ·obtain ⟨n,rfl⟩:=hk d (by simp)
   cases q1
   obtain ⟨t,rfl⟩:=r
   exact ⟨_,_,rfl⟩
  ·exact ints_of I q2 t (fun d hd=>hk d (by simp[hd])) u h
theorem rowsV_of (I:Inv X pins σ H s):∀ {vs:List V}{ds:List PyData}{us:List Value},DVs X.K H vs ds→Vals vs us→(∀ d∈ds,isRow d)→∀ u∈us,RowV s.heap u
 | _,_,_,.nil,.nil,_,u,h=>by cases h
 | _, _,_,.cons (d:=d) q1 q2,.cons r t,hk,u,h=>by
  rcases List.mem_cons.mp h with rfl|h
  ·obtain ⟨ns,rfl⟩:=hk d (by simp)
   obtain ⟨a,xs,rfl,sq,q⟩:=q1.lstI
   obtain ⟨its,rv,hp,_⟩:=I.list sq
   exact ⟨a,its.toArray,r,hp.isList,fun j hj=>by
    have:=key_ints q rv j (by simpa using hj)
    simpa using this⟩
  ·exact rowsV_of I q2 t (fun d hd=>hk d (by simp[hd])) u h
end
section
variable {X:Cx}{pins:List (Addr×Obj)}{σ:St}{H0:Hp}{f:Value}{vs:List Value}{A:Around}{E:Value→Shared→Prop}{a kS:Addr}
structure KeyStG (KP:PyData→Prop) (X:Cx) (pins:List (Addr×Obj)) (σ:St) (H0:Hp) (a kS:Addr) (e1:Nat) (ks:List Value) (s:Shared):Prop where
 ex : ∃ H kv kd c,Inv X pins σ H s∧Same H0 H∧Vals kv ks∧DNs X.K N0 H kv kd∧(∀ d∈kd,KP d)∧FpOk X pins H a∧FpOk X pins H kS∧s.heap.get? kS=some (seqObj "list" ks.toArray c)
 la : s.heap.get? a=some (seqObj "list" #[] e1)
theorem srtG_loop {KP:PyData→Prop}{e1 n:Nat} (ne:a≠kS) (hn:n<64) {body:Value→PUnit→Sem (ForInStep PUnit)}
  (hb:∀ x ks e (s:Shared) (C:Value→Shared→Prop),List.length ks<64→wpAny (model X.prog X.w) A (call f [x]) (fun k s1=>s1.heap.get? kS=some (seqObj "list" (List.toArray ks) e)∧C k s1) (fun _ _=>False) s →
   wpAny (model X.prog X.w) A (body x ⟨⟩) (fun r s'=>r=.yield ⟨⟩∧∃ k s1 c,C k s1∧s'={ s1 with heap:=s1.heap.update kS (Obj.mapSeq (·.push k)) }∧s'.heap.get? kS=some (seqObj "list" (List.toArray (ks++[k])) c)) E s)
  (call:∀ x∈vs,∀ H s,Inv X pins σ H s→Same H0 H→wpAny (model X.prog X.w) A (call f [x]) (fun r s2=>∃ d,KP d∧KeyEnd X pins σ H s d r s2) (fun _ _=>False) s) :
  ∀ (r ks:List Value) (s:Shared),(∀ x∈r,x∈vs)→ks.length+r.length=n→KeyStG KP X pins σ H0 a kS e1 ks s →
   wpAny (model X.prog X.w) A (forIn r PUnit.unit body) (fun _ s'=>∃ ks,ks.length=n∧KeyStG KP X pins σ H0 a kS e1 ks s') E s
 | [],ks,s,_,hl,h=>by
  rw [List.forIn_nil]
  exact wpAny_pure ⟨ks,by simpa using hl,h⟩
 | x :: r,ks,s,hr,hl,h=>by
  rw [List.length_cons] at hl
  rw [List.forIn_cons]
  obtain ⟨⟨H,kv,kd,c,I,sm,rv,dn,hk,fa,fk,gk⟩,la⟩:=h
  have hc:=call x (hr x (by simp)) H s I sm
  refine wpAny_bind (wpAny_mono (hb x ks c s (fun k s1=>∃ d,KP d∧KeyEnd X pins σ H s d k s1) (by omega) (wpAny_mono hc (fun k s1 hk1=>?_) fun _ _ z=>z)) (fun q s' hq=>?_) fun _ _ z=>z)
  ·obtain ⟨d,hkd,H',v,I',sm',rv',dn',kp⟩:=id hk1
   exact ⟨(kp kS _ fk gk).1,hk1⟩
  ·obtain ⟨rfl,k,s1,c2,⟨d,hkd,H',v,I',sm',rv',dn',kp⟩,es,gk'⟩:=hq
   subst es
   have fk':=fp_call fk (kp kS _ fk gk).2
   have fa':=fp_call fa (kp a _ fa la).2
   have su:=Heap.SameBut.update s1.heap kS (Obj.mapSeq (·.push k))
   have I2:=I'.turnedN (t':=s1.toks) (fp:=[kS]) (h':=s1.heap.update kS (Obj.mapSeq (·.push k))) (fun b hb'=>by rw[List.mem_singleton.mp hb'];exact fk') fun b o hb' e=>(su.2 b (fun z=>hb' (by simp[z]))).trans e
   show wpAny (model X.prog X.w) A (forIn r PUnit.unit body) _ E _
   refine srtG_loop ne hn hb call r (ks++[k]) _ (fun y hy=>hr y (by simp[hy])) (by rw[List.length_append,List.length_singleton];omega) ⟨⟨H',kv++[v],kd++[d],c2,I2,sm.trans sm',vals_snoc rv rv',?_,?_,fa',fk',gk'⟩,?_⟩
   ·exact (dn.keep (Keep.same sm')).app (.cons dn' .nil)
   ·intro e he
    rcases List.mem_append.mp he with he|he
    ·exact hk e he
    ·rw [List.mem_singleton.mp he];exact hkd
   ·exact (su.2 a ne).trans (kp a _ fa la).1
theorem srtG_list {KP:PyData→Prop}{s:Shared}{n:Nat}{P:PySem.Fin→Shared→Prop} (I:Inv X pins σ H0 s) (fa:FpOk X pins H0 a) (ho:s.heap.get? a=some (seqObj "list" vs.toArray n)) (h64:vs.length<64) (hok:∀ {pins:List (Addr×Obj)}{H:Hp}{s:Shared}{kv:List V}{kd:List PyData}{ks:List Value},Inv X pins σ H s→DVs X.K H kv kd→Vals kv ks→(∀ d∈kd,KP d)→2≤ks.length→KeyOk X.prog X.w A ks s)
  (call:∀ x∈vs,∀ H s',Inv X pins σ H s'→Same H0 H→wpAny (model X.prog X.w) A (call f [x]) (fun r s2=>∃ d,KP d∧KeyEnd X pins σ H s' d r s2) (fun _ _=>False) s')
  (h : ∀ (ws:List Value) H s' c,ws.Perm vs→Inv X pins σ H s'→Same H0 H→FpOk X pins H a→s'.heap.get? a=some (seqObj "list" ws.toArray c)→P (.done (.ret .none)) s') :
  wpAny (model X.prog X.w) A (ksk_tree a f false) P E s:=by
 have ha:a<s.heap.objs.size:=Heap.lt_size ho
 have s1:=Heap.SameBut.update s.heap a (Obj.mapSeq fun _=>(#[]:Array Value))
 obtain ⟨e1,ho1⟩:∃ e1,(s.heap.update a (Obj.mapSeq fun _=>(#[]:Array Value))).get? a=some (seqObj "list" #[] e1):=⟨_,get?_update_seq ho fun _=>#[]⟩
 have keep:∀ b o,b≠a→s.heap.get? b=some o→(((s.heap.update a (Obj.mapSeq fun _=>(#[]:Array Value))).push (seqObj "tuple" vs.toArray 0)).push (seqObj "list" #[] 0)).get? b=some o:=fun b o hb e =>
  Heap.get?_push_of_some _ (Heap.get?_push_of_some _ ((s1.2 b hb).trans e))
 have ho3:(((s.heap.update a (Obj.mapSeq fun _=>(#[]:Array Value))).push (seqObj "tuple" vs.toArray 0)).push (seqObj "list" #[] 0)).get? a=some (seqObj "list" #[] e1):=Heap.get?_push_of_some _ (Heap.get?_push_of_some _ ho1)
 have hsz:((s.heap.update a (Obj.mapSeq fun _=>(#[]:Array Value))).push (seqObj "tuple" vs.toArray 0)).objs.size=s.heap.objs.size+1:=by rw[size_push',Heap.size_update]
 unfold ksk_tree
 refine wpAny_bind (listItems_at ho rfl ?_)
 refine wpAny_bind (listUpdate_at ho rfl ?_ (by rw[List.size_toArray,sizeLine_eq];omega) (Nat.zero_le _))
 refine wpAny_bind (seqEpoch_at ho1 rfl ?_)
 refine wpAny_bind (wpAny_newTuple ?_ (by show vs.length≤_;rw[sizeLine_eq];omega))
 refine wpAny_bind (wpAny_newList ?_ (Nat.zero_le _))
 refine wpAny_holding ?_
 obtain ⟨kS,ekS⟩:∃ kS,kS=((s.heap.update a (Obj.mapSeq fun _=>(#[]:Array Value))).push (seqObj "tuple" vs.toArray 0)).objs.size:=⟨_,rfl⟩
 have gk:(((s.heap.update a (Obj.mapSeq fun _=>(#[]:Array Value))).push (seqObj "tuple" vs.toArray 0)).push (seqObj "list" #[] 0)).get? kS=some (seqObj "list" (List.toArray []) 0):=by rw[ekS];exact Heap.get?_push_size _ rfl
 have hne:a≠kS:=by rw[ekS,hsz];exact Nat.ne_of_lt (Nat.lt_succ_of_lt ha)
 have fk:FpOk X pins H0 kS:=I.fpOk (by rw[ekS,hsz];omega) (I.hok.fresh (by rw[ekS,hsz];omega))
 have I1:=I.turnedN (t':=s.toks) (fp:=[a]) (h':=((s.heap.update a (Obj.mapSeq fun _=>(#[]:Array Value))).push (seqObj "tuple" vs.toArray 0)).push (seqObj "list" #[] 0)) (fun b hb=>by rw[List.mem_singleton.mp hb];exact fa) fun b o hb e=>keep b o (fun z=>hb (by simp[z])) e
 rw [←ekS]
 show wpAny (model X.prog X.w) A (ksk_rest a f false vs.toArray e1 (.ref kS)) P E { s with heap:=((s.heap.update a (Obj.mapSeq fun _=>(#[]:Array Value))).push (seqObj "tuple" vs.toArray 0)).push (seqObj "list" #[] 0) }
 unfold ksk_rest
 refine wpAny_bind (wpAny_rule ?_)
 first
  | rw[List.forIn_toArray]
  | (rw[←Array.forIn_toList];simp only [List.toList_toArray])
  | rw[←Array.forIn_toList]
 refine wpAny_bind (wpAny_mono (srtG_loop (f:=f) (A:=A) (e1:=e1) (n:=vs.length) hne h64 (fun x ks e s' C hz hx=>?_) call vs [] _ (fun x hx=>hx) (by simp) ⟨⟨H0,[],[],0,I1,Same.refl _,.nil,.nil,by simp,fa,fk,gk⟩,ho3⟩) (fun _ s' hd=>?_) fun _ _ x=>x)
 ·refine wpAny_bind (wpAny_attempt (wpAny_mono hx (fun k s'' hk=>?_) fun _ _ hF=>hF.elim))
  obtain ⟨nk,hC⟩:=hk
  have ea:(List.toArray ks).push k=List.toArray (ks++[k]):=by simp
  obtain ⟨c2,hc2⟩:∃ c2,(s''.heap.update kS (Obj.mapSeq (·.push k))).get? kS=some (seqObj "list" (List.toArray (ks++[k])) c2):=⟨_,by rw[←ea];exact get?_update_seq nk (·.push k)⟩
  try dsimp only
  refine wpAny_bind (listUpdate_at nk rfl ?_ (by rw[List.size_toArray,sizeLine_eq];omega) (Nat.le_trans (Nat.le_of_eq (Array.size_push ..)) (by rw[List.size_toArray,sizeLine_eq];omega)))
  exact wpAny_pure ⟨rfl,k,s'',c2,hC,rfl,hc2⟩
 ·obtain ⟨ks,hl,⟨⟨H,kv,kd,c,I2,sm,rv,dn,hk,fa2,fk2,gk2⟩,la⟩⟩:=hd
  refine wpAny_bind (listItems_at gk2 rfl ?_)
  have fin:∀ (ws:List Value) (st:SortSt),ws.Perm vs→(arrOf st).map (·.2)=ws.toArray→failedOf st=none→wpAny (model X.prog X.w) A (ksk_tail a false e1 (.ref kS) st) P E s':=fun ws st hp hout hf=>by
   have hwl:=hp.length_eq
   have t1:=Heap.SameBut.update s'.heap kS (Obj.mapSeq fun _=>(#[]:Array Value))
   have la1:(s'.heap.update kS (Obj.mapSeq fun _=>(#[]:Array Value))).get? a=some (seqObj "list" #[] e1):=(t1.2 a hne).trans la
   have t2:=Heap.SameBut.update (s'.heap.update kS (Obj.mapSeq fun _=>(#[]:Array Value))) a (Obj.mapSeq fun _=>ws.toArray)
   obtain ⟨c2,hc2⟩:∃ c2,((s'.heap.update kS (Obj.mapSeq fun _=>(#[]:Array Value))).update a (Obj.mapSeq fun _=>ws.toArray)).get? a=some (seqObj "list" ws.toArray c2):=⟨_,get?_update_seq la1 fun _=>ws.toArray⟩
   unfold ksk_tail
   try dsimp only
   rw [hout]
   refine wpAny_bind (listUpdate_at gk2 rfl ?_ (by rw[List.size_toArray,sizeLine_eq];omega) (Nat.zero_le _))
   refine wpAny_bind (wpAny_letGo ?_)
   refine wpAny_bind (seqEpoch_at la1 rfl ?_)
   simp only [Bool.false_eq_true,if_false]
   refine wpAny_bind (listUpdate_at la1 rfl ?_ (Nat.zero_le _) (by rw[List.size_toArray,sizeLine_eq];omega))
   rw [hf]
   simp only [bne_self_eq_false,Bool.false_eq_true,if_false]
   refine wpAny_pure (h ws H _ c2 hp (I2.turnedN (t':=s'.toks) (fp:=[kS,a]) (fun b hb=>?_) fun b o hb e=>?_) sm fa2 hc2)
   ·rcases List.mem_cons.mp hb with rfl|hb
    ·exact fk2
    ·rw [List.mem_singleton.mp hb];exact fa2
   ·simp only [List.mem_cons,List.not_mem_nil,or_false,not_or] at hb
    exact (t2.2 b hb.2).trans ((t1.2 b hb.1).trans e)
  unfold ksk_end
  try dsimp only
  simp only [Bool.false_eq_true,if_false]
  by_cases h2:2≤vs.length
  ·have hn2:¬vs.toArray.size<2:=by rw[List.size_toArray];omega
   rw [if_neg hn2,if_neg hn2]
   refine wpAny_bind (wpAny_mono (hok I2 dn.dv rv hk (by omega)) (fun κ s0 hk'=>?_) fun _ _ x=>x.elim)
   obtain ⟨rfl,hask⟩:=hk'
   refine wpAny_bind (wpAny_mono (kat_run (κ:=κ) (A:=A) (prog:=X.prog) (w:=X.w) (ks:=ks) (vs:=vs) (G:=fun p s2=>Pn vs.length p∧s2=s0)
    (Q := fun st' s2=>∃ p:Array Nat,Pn vs.length p∧p.size=vs.length∧arrOf st'=p.map (kas_item (ks.toArray.zip vs.toArray))∧failedOf st'=none∧s2=s0)
    hl h2 h64 (fun p' st' s2 a1 a2 a3 a4=>⟨p',a4.1,a1,a2,a3,a4.2⟩) (kas_all (fun s2=>s2=s0) (fun i j C s2 hi hj e hc=>by subst e;exact hask i j C (by omega) (by omega) fun b=>hc b _ rfl) (fun p s2 hp e=>⟨hp,e⟩) (sort_all (n:=vs.length) (by omega)) rfl)) ?_ fun _ _ e=>e)
   rintro ⟨⟨⟩,st'⟩ s2 ⟨p,hpn,hp,har,hf,rfl⟩
   dsimp only
   exact fin _ st' (perm_vals hpn) (kat_snds hl har) hf
  ·have hn2:vs.toArray.size<2:=by rw[List.size_toArray];omega
   rw [if_pos hn2,if_pos hn2]
   refine wpAny_bind (wpAny_pure ?_)
   refine wpAny_bind (wpAny_pure ?_)
   dsimp only
   refine fin vs _ (List.Perm.refl _) ?_ rfl
   show (ks.toArray.zip vs.toArray).map (·.2)=_
   apply Array.toList_inj.mp
   simp
   exact List.map_snd_zip (by omega)
end
section
variable {X:Cx}{pins:List (Addr×Obj)}{σ:St}{H0:Hp}{f:Addr}{vs:List Value}{A:Around}{E:Value→Shared→Prop}{s:Shared}
theorem srtG_sorted {KP:PyData→Prop}{l:Addr}{Q:Value→Shared→Prop} (I:Inv X pins σ H0 s) (hl:s.heap.IsList l vs.toArray) (h64:vs.length<64) (hok:∀ {pins:List (Addr×Obj)}{H:Hp}{s:Shared}{kv:List V}{kd:List PyData}{ks:List Value},Inv X pins σ H s→DVs X.K H kv kd→Vals kv ks→(∀ d∈kd,KP d)→2≤ks.length→KeyOk X.prog X.w A.in1.in1 ks s)
  (call:∀ x∈vs,∀ H s',Inv X pins σ H s'→Same H0 H→wpAny (model X.prog X.w) A.in1.in1 (call (.ref f) [x]) (fun r s2=>∃ d,KP d∧KeyEnd X pins σ H s' d r s2) (fun _ _=>False) s')
  (h : ∀ (ws:List Value) H s' D c,ws.Perm vs→Inv X pins σ H s'→Same H0 H→FpOk X pins H D→s'.heap.get? D=some (seqObj "list" ws.toArray c)→Q (.ref D) s') :
  wpAny (model X.prog X.w) A (PySem.call (.builtin "sorted") [.ref l] [(Str.ofString "key",.ref f)]) Q E s:=by
 refine call_function_entry_kw kind_sorted plain_sorted entry_sorted (ksk_s1 _ _) ?_
 unfold Builtin.«sorted»
 refine wpAny_bind (m:=checkCount "sorted" 1 1 _) (wpAny_pure ?_)
 refine wpAny_bind (collect_list hl ?_ (by rw[sizeLine_eq];omega))
 refine wpAny_bind (wpAny_newList ?_ (by rw[sizeLine_eq];omega))
 have hsz:((s.heap.push (seqObj "list" #[] 0)).update s.heap.objs.size (Obj.mapSeq (·++vs.toArray))).objs.size=s.heap.objs.size+1:=by
  rw [Heap.size_update,size_push']
 have hoL:(((s.heap.push (seqObj "list" #[] 0)).update s.heap.objs.size (Obj.mapSeq (·++vs.toArray))).push (seqObj "list" vs.toArray 0)).get? (s.heap.objs.size+1)=some (seqObj "list" vs.toArray 0):=by
  rw [←hsz];exact Heap.get?_push_size _ rfl
 have keep:∀ b o,s.heap.get? b=some o→(((s.heap.push (seqObj "list" #[] 0)).update s.heap.objs.size (Obj.mapSeq (·++vs.toArray))).push (seqObj "list" vs.toArray 0)).get? b=some o:=fun b o q=>by
  have hlt:b<s.heap.objs.size:=Heap.lt_size q
  rw [Heap.get?_push_ne _ _ _ (by rw[hsz];exact Nat.ne_of_lt (Nat.lt_succ_of_lt hlt)),Heap.get?_update_ne _ _ _ _ (Nat.ne_of_lt hlt),Heap.get?_push_ne _ _ _ (Nat.ne_of_lt hlt)]
  exact q
 show wpAny _ _ _ _ _ { s with heap:=((s.heap.push (seqObj "list" #[] 0)).update s.heap.objs.size (Obj.mapSeq (·++vs.toArray))).push (seqObj "list" vs.toArray 0) }
 rw [hsz]
 refine wpAny_bind (wpAny_holding (wpAny_call_entry_kw slot_list_sort ⟨_,hoL,rfl⟩ entry_list_sort ?body (ksk_l1 _ _)))
 case body =>
  show wpAny (model X.prog X.w) A.in1.in1 (Builtin.«list.sort» ⟨[.ref (s.heap.objs.size+1)],[(Str.ofString "key",.ref f)]⟩) _ _ _
  rw [ksk_t1]
  refine srtG_list (I.kept (t':=s.toks) keep) (I.fpOk (Nat.le_succ _) (I.hok.fresh (Nat.le_succ _))) hoL h64 hok call fun ws H s' c hp I' sm fp g=>⟨_,rfl,wpAny_pure ⟨_,rfl,?_⟩⟩
  exact h ws H s' _ c hp I' sm fp g
end
end L2
namespace L2
open PySem PySem.Spec PyProof.Rows PySem.W
section
variable {X:Cx}{K:PySem.W.Frag}
variable {e:Expr}{p pos:Pos}{tl:DA}
end
noncomputable def cxCl (CX:CXT) (P:Program) (w:World) (K:PySem.W.Frag) (mg:Str→Option Value) (base:Heap) (N:List Str) (qual:Str) (scope:Scope) (f:Addr) (cd:Value) (cl:List (Str×Addr)) (A:Around) (outer:List Env) (s:Shared) (H:Hp) (E:XK):Cx where
 prog:=P
 w := w
 K := K
 mg := mg
 base:=base
 A := A.deeper (envX qual scope s.heap.objs.size f cd cl)
 N := N
 s₀ := s
 H₀ := H
 env:=envX qual scope s.heap.objs.size f cd cl
 outer:=outer
 stack:=envX qual scope s.heap.objs.size f cd cl::outer
 ex := []
 calm:=true
 fn := fun _=>false
 pn := []
 xe := fun e s'=>wpAny (model P w) (A.deeper (envX qual scope s.heap.objs.size f cd cl)) (leaving (envX qual scope s.heap.objs.size f cd cl) e) (fun _ s''=>CX outer H s E e s'') (fun e' s''=>CX outer H s E e' s'') s'
structure LamScope (p x:Str) (sc:Scope):Prop where
 kind:sc.kind=.function
 co : sc.isCoroutine=false
 gen:sc.isGenerator=false
 par:sc.names.lookup p=some .local
 fre:sc.names.lookup x=some .free
 nocell:∀ y∈sc.names,y.2≠.cell
 one:∀ y∈sc.names,y.2=.free→y.1=x
 ne : p≠x
section
variable {CX:CXT}{P:Program}{w:World}{K:PySem.W.Frag}{mg:Str→Option Value}{base:Heap}{qual p x:Str}{scope:Scope}{f c:Addr}{cd:Value}{A:Around}{outer:List Env}{s:Shared}{H:Hp}{E:XK}{u u0:Value}{v v0:V}{h₁:Heap}{tk:Nat}
theorem inv_startC (S:LamScope p x scope) (hd:A.handled=none) (e0:Env0 P w K mg base A outer s H) (hcell:s.heap.IsCell c (some u0)) (r0:RelV v0 u0) (hc0:H c=none) (r:RelV v u)
  (hns:h₁.Ns s.heap.objs.size (fun y=>[(p,u)].reverse.lookup y)) (hk:∀ b o,s.heap.get? b=some o→h₁.get? b=some o) :
  Inv (cxCl CX P w K mg base [p,x] qual scope f cd [(x,c)] A outer s H E) [] [some v,some v0] H { s with heap:=h₁,toks:=tk }:=by
 have noA:∀ b:Addr,b ∉ (cxCl CX P w K mg base [p,x] qual scope f cd [(x,c)] A outer s H E).ex:=fun b z=>absurd (show b∈([]:List Addr) from z) (by simp)
 have look:∀ y d,List.lookup y [(x,c)]=some d→y=x∧d=c:=fun y d h=>by
  have:=PySem.mem_of_lookup h
  rw [List.mem_singleton] at this
  cases this
  exact ⟨rfl,rfl⟩
 have lx:List.lookup x [(x,c)]=some c:=by simp
 refine ⟨⟨e0.mod,S.kind,rfl,rfl,Nat.le_refl _,fun y z d h1 h2=>?_,fun y hy=>?_,fun y d h=>absurd h (by show ¬false=true;decide),fun _=>hd,Around.frames_deeper e0.frames,.inr ⟨rfl,rfl⟩,fun b z=>absurd z (noA b),e0.bs,e0.bsz,fun b _ _=>noA b,fun b z=>absurd z (noA b),e0.funs,e0.frf,e0.tab⟩,
  rfl,e0.bare,Un.kept hk,⟨_,hns,fun i y z h1 h2 h3=>?_⟩,fun y d h=>?_,e0.hok.fresh (Nat.le_refl _),fun y d h=>?_,fun q hq=>absurd (show q∈([]:List (Addr×Obj)) from hq) (by simp),e0.hok.kept hk,rfl⟩
 ·rw [(look y d h1).1,(look z d h2).1]
 ·have hy:scope.names.lookup y=some .cell∨scope.names.lookup y=some .free:=hy
  rcases hy with hy|hy
  ·exact absurd rfl (S.nocell _ (PySem.mem_of_lookup hy))
  ·have:=S.one _ (PySem.mem_of_lookup hy) rfl
   simp only at this
   rw [this]
   exact ⟨c,lx⟩
 ·match i,h1,h2 with
  | 0,h1,h2 =>
   have h1:p=y:=by simpa [cxCl] using h1
   have h2:v=z:=by simpa using h2
   subst h1 h2
   refine ⟨u,r,.inl ⟨S.par,?_⟩⟩
   simp
  | 1,h1,h2 =>
   have h1:x=y:=by simpa [cxCl] using h1
   have h2:v0=z:=by simpa using h2
   subst h1 h2
   exact ⟨u0,r0,.inr ⟨.inr S.fre,c,lx,hcell.keeps hk⟩⟩
  | i+2,h1,h2=>simp at h2
 ·obtain ⟨_,rfl⟩:=look y d h
  exact ⟨_,hcell.keeps hk⟩
 ·obtain ⟨_,rfl⟩:=look y d h
  exact hc0
theorem lam_runC {params:Arguments}{body:Expr}{pm ctv:Value}{c':Addr}{t:TE}{Q:VK}{k:Nat} (S:LamScope p x scope) (hr:Room (k+1) A) (e0:Env0 P w K mg base A outer s H) (ho:s.heap.get? f=some (kla_obj "<lambda>" qual params body scope [(x,c)] pm c' ctv)) (hcd:s.heap.CodeRec (.ref c') qual)
  (hb:bindArgs (kla_fn "<lambda>" qual params body scope [(x,c)] pm (.ref c') ctv) ⟨[u],[]⟩=pure [(p,u)]) (hcell:s.heap.IsCell c (some u0)) (r0:RelV v0 u0) (hc0:H c=none) (r:RelV v u)
  (ht:PE (cxCl CX P w K mg base [p,x] qual scope f (.ref c') [(x,c)] A outer s H E) body t) (hq:t [some v,some v0] H Q):codeAny (model P w) A (.call (.ref f) ⟨[u],[]⟩) (CR CX outer P w H s Q E) s:=by
 have lim:s.heap.NoLimit:=e0.mod.nolimit.keeps fun b o e=>(e0.bs b o e).1
 refine kla_callFunE hr.depth ho rfl S.co S.gen rfl hcd ?_
 rw [hb]
 refine wpAny_pure (wpAny_newFunctionEnv S.nocell (fun y hy=>by rw[List.mem_singleton.mp hy];exact S.par) (fun h₁ hns hsb=>⟨lim.fresh _ hsb,?_⟩) S.kind)
 have hk₁:∀ b o,s.heap.get? b=some o→h₁.get? b=some o:=fun b o e=>hsb.extBut b o (Nat.ne_of_lt (Heap.lt_size e)) (Heap.get?_push_of_some _ e)
 show codeAny _ _ (.expr body (envX qual scope s.heap.objs.size f (.ref c') [(x,c)])) _ _
 refine kla_codeExpr ?_
 have I:=inv_startC (CX:=CX) (E:=E) (qual:=qual) (f:=f) (cd:=.ref c') (tk:=s.toks+[(p,u)].length) S hr.hd e0 hcell r0 hc0 r hns hk₁
 refine wpAny_mono (ht [] _ _ H _ I hq) (fun u' s' hs=>?_) fun e s' hs=>hs
 obtain ⟨z,H',J,rv,q⟩:=hs
 exact ⟨z,H',J.os,J.bare,J.base,J.hok,rv,q⟩
end
section
variable {X:Cx}{pins:List (Addr×Obj)}{σ:St}{H:Hp}{s:Shared}{params:Arguments}{body:Expr}{scope:Scope}{pos:Pos}{E:Value→Shared→Prop}{clos:List (Str×Addr)}
theorem lam_makeC (I:Inv X pins σ H s) (L:LamAt X) (hcl:closureFor scope X.env=pure clos) (hdef:defaultsOf params X.env=([],[])) {Q:Value→Shared→Prop}
  (h : ∀ f c' pm ctv s' H',Inv X pins σ H' s'→Same H H'→s'.heap.get? f=some (kla_obj "<lambda>" (X.env.qual ++ "<lambda>") params body scope clos pm c' ctv)→FpOk X pins H' f→CodeFz H' c' (X.env.qual ++ "<lambda>")→Q (.ref f) s') :
  wpAny (model X.prog X.w) X.A (eval (.Lambda params body scope pos) X.env) Q E s:=by
 obtain ⟨c,T,hcode,C,hL⟩:=L
 have hT:H T=some (.tbl (X.env.qual ++ "<lambda>")):=I.base.tbls T _ (I.ok.tab T _ hL)
 obtain ⟨ps,e,htr,hgood⟩:=I.hok T _ hT
 obtain ⟨bm,ob,b1,b2,b3,b4,b5,b6⟩:=I.mod.bmain
 have hg:=I.mod.glob.keeps I.bk
 have hgP:mainGlobals≠T:=fun q=>by
  obtain ⟨o,es,ep,e',hd,_⟩:=hg
  rw [q,e] at e';cases e';cases hd
 have hbP:bm≠T:=fun q=>by
  have e':=I.bk _ _ b3
  rw [q,e] at e';cases e';cases b4
 have hbG:bm≠mainGlobals:=fun q=>by
  obtain ⟨o,es,ep,e',hd,_⟩:=hg
  have e2:=I.bk _ _ b3
  rw [q,e'] at e2;cases e2;rw[hd] at b6;cases b6
 have hB:s.heap.BuiltinsAt X.mg T:=⟨bm,ob,b1,b2,hbG,hbP,I.bk _ _ b3,b4,b5,b6⟩
 refine kla_eval hdef ?_
 cases hc:codeAmong pos ps.toList with
 | none =>
  refine kla_makeFunction hcl I.ok.glob hg hcode (C.keeps I.bk) e htr hc hgP hB fun c' ctv h' tk hx hge hlt hrec htb=>?_
  obtain ⟨c2,oc,vs,t,e2,hoc,hd,hv⟩:=hrec
  cases e2
  have ht2:TabOk (upd H c' (.frz oc (.own 0))) h' T (X.env.qual ++ "<lambda>"):=by
   refine ⟨_,htb,by rw[Array.toList_append];exact TriplesOk_snoc _ _ _ _ htr,fun p cv hcv=>?_⟩
   rw [Array.toList_append] at hcv
   rcases among_snoc _ htr hcv with hcv|rfl
   ·obtain ⟨c2,oc2,u2,vs2,t2,e1,e2,e3⟩:=hgood _ _ hcv
    exact ⟨c2,oc2,u2,vs2,t2,e1,by rw[upd_ne (ne_of_none e2 (I.hok.fresh hge))];exact e2,e3⟩
   ·exact ⟨c',oc,_,vs,t,rfl,upd_same,hd,hv⟩
  obtain ⟨I2,sm⟩:=I.grow (tk:=tk) hT hx hge hoc hd hv ht2
  have I3:=I2.kept (t':=tk) (h':=h'.push (kla_obj "<lambda>" (X.env.qual ++ "<lambda>") params body scope clos ((X.mg "__name__").getD .none) c' ctv)) fun b o e=>Heap.get?_push_of_some _ e
  exact h _ c' _ ctv _ _ I3 sm (Heap.get?_push_size _ rfl) (I2.fpOk (Nat.le_refl _) (I2.hok.fresh (Nat.le_refl _))) ⟨_,_,_,_,upd_same,hd,hv⟩
 | some cv =>
  obtain ⟨c',oc,u,vs,t,rfl,e1,hd,hv⟩:=hgood _ _ hc
  obtain ⟨hoc,_⟩:=I.hok c' _ e1
  refine kla_makeFunctionHit hcl I.ok.glob hg hcode (C.keeps I.bk) e htr hc hB fun ctv h' tk hk hsz=>?_
  have I2:=I.kept (t':=tk) hk
  have I3:=I2.kept (t':=tk) (h':=h'.push (kla_obj "<lambda>" (X.env.qual ++ "<lambda>") params body scope clos ((X.mg "__name__").getD .none) c' ctv)) fun b o e=>Heap.get?_push_of_some _ e
  exact h _ c' _ ctv _ _ I3 (Same.refl _) (Heap.get?_push_size _ rfl) (I2.fpOk (Nat.le_refl _) (I2.hok.fresh (Nat.le_refl _))) ⟨_,_,_,_,e1,hd,hv⟩
end
end L2
namespace L2
open PySem PySem.Spec PyProof.Rows PySem.W
theorem rel_two {K:PySem.W.Frag}{H:Hp}{v v0:V}{d d0:PyData} (h:DN K N0 H v d) (h0:DN K N0 H v0 d0):Rel K N0 N0 H [some v,some v0] [some v,some v0] [.fr d,.fr d0] [] H:=by
 have oe:oas (ents [some v,some v0] [Sl.fr d,Sl.fr d0] [])=[]:=by
  show oas [(some v,Sl.fr d),(some v0,Sl.fr d0)]=[]
  rw [oas_cons,oas_cons,own1_fr,own1_fr]
  rfl
 have ne:∀ b,Nw N0 (ents [some v,some v0] [Sl.fr d,Sl.fr d0] []) b→N0 b:=fun b z=>by
  rcases z with z|z
  ·exact z
  ·rw [oe] at z;cases z
 have mm:∀ x s,(x,s)∈ents [some v,some v0] [Sl.fr d,Sl.fr d0] []→(x=some v∧s=.fr d)∨(x=some v0∧s=.fr d0):=fun x s m=>by
  have m:(x,s)∈[(some v,Sl.fr d),(some v0,Sl.fr d0)]:=m
  simp at m
  exact m
 refine ⟨⟨Keep.refl,fun a h=>h,fun a z=>z.elim,fun a z=>z,fun x e m=>?_,fun x e m=>?_,fun x e m=>?_,fun x S e m=>?_,by rw[oe];exact List.nodup_nil⟩,rfl,fun w i m=>(by cases m),fun i ds e=>rfl⟩
 ·rcases mm _ _ m with ⟨rfl,e1⟩|⟨rfl,e1⟩
  ·cases e1;exact⟨v,rfl,h.to fun b _ _ z=>ne b z⟩
  ·cases e1;exact⟨v0,rfl,h0.to fun b _ _ z=>ne b z⟩
 ·rcases mm _ _ m with ⟨_,e1⟩|⟨_,e1⟩ <;> cases e1
 ·rcases mm _ _ m with ⟨_,e1⟩|⟨_,e1⟩ <;> cases e1
 ·rcases mm _ _ m with ⟨_,e1⟩|⟨_,e1⟩ <;> cases e1
section
variable {X:Cx}{pins:List (Addr×Obj)}{σ:St}{H:Hp}{s:Shared}{params:Arguments}{scope:Scope}{body:Expr}{f c c':Addr}{qual p x:Str}{pm ctv:Value}{k:Nat}{A:Around}
noncomputable def keyTo (KP:PyData→Prop) (tb:DE) (d d0:PyData):Prop:=tb [.fr d,.fr d0] fun s env=>∃ kd,keepOf env s=some kd∧KP kd
theorem lam_keyC {KP:PyData→Prop}{tb:DE}{d d0:PyData}{v v0:V}{u u0:Value} (I:Inv X pins σ H s) (hA:Env0 X.prog X.w X.K X.mg X.base A X.stack s H) (hr:Room (k+1) A) (S:LamScope p x scope)
  (hb:bindArgs (kla_fn "<lambda>" qual params body scope [(x,c)] pm (.ref c') ctv) ⟨[u],[]⟩=pure [(p,u)])
  (hbody:PE (cxCl CX0 X.prog X.w X.K X.mg X.base [p,x] qual scope f (.ref c') [(x,c)] A X.stack s H E0) body (up X.K tb))
  (ho:s.heap.get? f=some (kla_obj "<lambda>" qual params body scope [(x,c)] pm c' ctv)) (hcd:s.heap.CodeRec (.ref c') qual) (hcell:s.heap.IsCell c (some u0)) (r0:RelV v0 u0) (hc0:H c=none)
  (r : RelV v u) (hd:DN X.K N0 H v d) (hd0:DN X.K N0 H v0 d0) (hk:keyTo KP tb d d0) :
  wpAny (model X.prog X.w) A (call (.ref f) [u]) (fun r s'=>∃ kd,KP kd∧KeyEnd X pins σ H s kd r s') (fun _ _=>False) s:=by
 refine wpAny_call (codeAny_mono (lam_runC (CX:=CX0) (E:=E0) (Q:=fun v H'=>Same H H'∧∃ kd,KP kd∧DN X.K N0 H' v kd) S hr hA ho hcd hb hcell r0 hc0 r hbody ?_) fun res s' hq=>?_)
 ·refine ⟨N0,N0,H,[some v,some v0],[.fr d,.fr d0],[],_,rel_two hd hd0,hk,fun s1 env' v' H' hR rel'=>?_⟩
  obtain ⟨kd,ek,hkd⟩:=hR
  refine ⟨(rel'.e.keep).none,kd,hkd,?_⟩
  have:=rel'.kept (ts:=[]) (v:=v') (s:=s1) (by simp) ek
  exact this.to fun b _ _ z=>z.elim
 ·cases res with
  | error e=>exact hq.elim
  | ok fl =>
   cases fl with
   | ret z =>
    obtain ⟨v1,H',os,bare,un,hok,rv,sm,kd,hkd,dn⟩:=hq
    refine ⟨kd,hkd,H',v1,I.call' (ch:=[]) os un hok bare (fun b z=>nomatch z),sm,rv,dn,fun b o hfp e=>⟨un.keep b o e hfp.1 (fun z=>?_) (by simp),un.free b o e hfp.1 (by simp)⟩⟩
    rcases List.mem_cons.mp (I.stkSub b z) with z|z
    ·exact hfp.2.1 z
    ·exact hfp.2.2.1 z
   | next=>exact False.elim hq
   | brk=>exact False.elim hq
   | cont=>exact False.elim hq
end
section
variable {X:Cx}{K:PySem.W.Frag}{e:Expr}{t:TA}{q0 pos kpos lpos:Pos}{params:Arguments}{scope:Scope}{body:Expr}{p x:Str}{i:Nat}{tb:DE}{KP:PyData→Prop}
noncomputable def tSrtC (K:PySem.W.Frag) (KP:PyData→Prop) (tb:DE) (i:Nat) (t:TA):TE:=fun σ H Q=>t σ H fun xs H1=>∃ (q:Addr) (vs:List V) (N:Addr→Prop) (ds:List PyData) (v0:V) (d0:PyData),xs=[.ref q]∧SqL K H1 q vs∧DNs K N H1 vs ds∧σ[i]? = some (some v0)∧DN K N H1 v0 d0∧vs.length<64 ∧
 (∀ d∈ds,keyTo KP tb d d0)∧∀ zs:List (V×PyData),zs.Perm (vs.zip ds)→∀ H2,Same H1 H2→∀ q,H2 q=none→Q (.ref q) (upd H2 q (.lst (zs.map (·.1))))
noncomputable def KeyKd (KP:PyData→Prop):Prop:=KP=isIntD∨KP=isRow
theorem KeyKd.ok (h:KeyKd KP) {A:Around}{σ:St} (hu:A.units<cLine) {pins:List (Addr×Obj)}{H:Hp}{s:Shared}{kv:List V}{kd:List PyData}{ks:List Value} (I:Inv X pins σ H s) (dv:DVs X.K H kv kd) (rv:Vals kv ks) (hk:∀ d∈kd,KP d) (h2:2≤ks.length):KeyOk X.prog X.w A ks s:=by
 rcases h with rfl|rfl
 ·exact ints_ok h2 (ints_of I dv rv hk)
 ·exact rows_ok hu h2 (rowsV_of I dv rv hk)
theorem pe_srtC (hK:X.K=K) (hKP:KeyKd KP) (L:LamAt X) (hr:Room 4 X.A) (hg:Gl X "sorted") (hm:X.mg "sorted" = none) (ha:PA X [e] t) (S:LamScope p x scope)
  (hN:X.N[i]? = some x) (hv:Vis X.env.scope x) (hcel:X.env.kindOf x=some .cell∨X.env.kindOf x=some .free) (hnl:X.env.kindOf x≠some .local)
  (hb:∀ (qual:Str) (cl:List (Str×Addr)) (pm c ctv u:Value),bindArgs (kla_fn "<lambda>" qual params body scope cl pm c ctv) ⟨[u],[]⟩=pure [(p,u)])
  (hcl:∀ c,X.env.cells.lookup x=some c→closureFor scope X.env=pure [(x,c)]) (hdef:defaultsOf params X.env=([],[]))
  (hbody:∀ (A:Around) (s:Shared) (H:Hp) (f:Addr) (cd:Value) (c:Addr),Room 1 (A.deeper (envX (X.env.qual ++ "<lambda>") scope s.heap.objs.size f cd [(x,c)]))→PE (cxCl CX0 X.prog X.w X.K X.mg X.base [p,x] (X.env.qual ++ "<lambda>") scope f cd [(x,c)] A X.stack s H E0) body (up X.K tb))
  (he2:backTo pos (starEach [e] X.env)=(false,eval e X.env)::backTo pos (starEach [] X.env):=by rfl) :
  PE X (.Call (.Name "sorted" q0) [e] [⟨some "key",.Lambda params body scope lpos,kpos⟩] pos) (tSrtC K KP tb i t):=by
 subst hK
 intro pins s σ H Q I h
 obtain ⟨c,hc⟩:=I.ok.has x hcel
 refine wpAny_Call_Name_kw (ld_blt I hg hm boot_sorted ?_ (by decide) (by decide))
 refine callWith_kw (thn (ha pos pins s σ H _ I h) fun us s1 ⟨xs,H1,I1,r,q⟩=>?_) he2 (by rw[he2];rfl) rfl rfl
 show wpAny _ _ (evalAll [(do let v ←eval (.Lambda params body scope lpos) X.env;standAt pos;pure v)]) _ _ s1
 refine wpAny_evalAll_cons (wpAny_bind (lam_makeC I1 L (hcl c hc) hdef fun f c' pm ctv s2 H2 I2 sm hfo fpf cz=>wpAny_bind (wpAny_standAt (wpAny_pure (wpAny_evalAll_nil ?_)))))
 obtain ⟨p0,vs,N,ds,v0,d0,rfl,sq,dn,hv0,dn0,h64,hkey,q⟩:=q
 obtain ⟨u,rfl,ru⟩:=vals1 r
 cases (show u=Value.ref p0 from ru)
 obtain ⟨its,rv,hp,_⟩:=I2.list (sm.seq sq)
 have hlen:=rv.length
 obtain ⟨fo,hfo'⟩:∃ fo,fo=kla_obj "<lambda>" (X.env.qual ++ "<lambda>") params body scope [(x,c)] pm c' ctv:=⟨_,rfl⟩
 rw [←hfo'] at hfo
 have I3:Inv X ((f,fo)::pins) σ H2 s2:=I2.pins_of fun z hz=>by
  rcases List.mem_cons.mp hz with rfl|hz
  ·exact ⟨hfo,fpf.1,fpf.2.1,fpf.2.2.1,fun v=>by rw[hfo'];exact fun z=>by cases z⟩
  ·exact I2.pin z (List.mem_append_right _ hz)
 have dn2:DNs X.K N0 H2 vs ds:=(dn.keep (Keep.same sm)).to fun b _ _ z=>z.elim
 have dn02:DN X.K N0 H2 v0 d0:=(dn0.keep (Keep.same sm)).to fun b _ _ z=>z.elim
 show wpAny _ _ (PySem.call (.builtin "sorted") [.ref p0] [(Str.ofString "key",.ref f)]) _ _ _
 refine srtG_sorted (KP:=KP) I3 hp.isList (by omega) (fun I dv rv hk h2=>hKP.ok ?_ I dv rv hk h2) (fun y hy H' s' I' sm'=>?_) fun ws H' s' D cc hperm I' sm' fpD gD=>?_
 ·have:=hr.un
  show X.A.units+1+1<cLine
  omega
 ·obtain ⟨v,d,rx,dx,md⟩:=dn_pick dn2 rv y hy
  have gf:=(I'.pin (f,fo) (List.mem_append_right _ List.mem_cons_self)).1
  rw [hfo'] at gf
  obtain ⟨oc,u,ws,t,e1,e2,e3⟩:=cz
  obtain ⟨goc,_⟩:=I'.hok c' _ (sm' _ _ e1)
  obtain ⟨m,hns,hloc⟩:=I'.loc
  obtain ⟨u0,ru0,hlook⟩:=hloc i x v0 hN hv0 hv
  have hcellX:s'.heap.IsCell c (some u0):=by
   rcases hlook with ⟨z,_⟩|⟨_,c2,ec2,ic⟩
   ·exact absurd z hnl
   ·rw [hc] at ec2
    cases ec2
    exact ic
  have hrr:Room 2 X.A.in1.in1:=hr.in1.in1
  exact lam_keyC (k:=1) (KP:=KP) (tb:=tb) (f:=f) (c:=c) (c':=c') I' I'.env0.in1.in1 hrr S (hb _ _ _ _ _ y) (hbody _ _ _ _ _ _ (hrr.deeper _)) gf ⟨_,_,_,_,rfl,goc,e2,e3⟩ hcellX ru0 (I'.freeC x c hc) rx (dx.keep (Keep.same sm')) (dn02.keep (Keep.same sm')) (hkey d md)
 ·have hdl:ds.length=vs.length:=dn.len.symm
  obtain ⟨t,pt,rfl⟩:=perm_lift hperm (its.zip (vs.zip ds)) (by
   rw [List.map_fst_zip]
   simp
   omega)
  have hv:∀ x∈t,RelV x.2.1 x.1:=fun x hx=>vals_zip rv x (pt.mem_iff.mp hx)
  have hz:(t.map (·.2)).Perm (vs.zip ds):=by
   have:=pt.map (·.2)
   rwa [List.map_snd_zip (by simp;omega)] at this
  have hl:=hz.length_eq
  have I4:Inv X pins σ H' s':=I'.pins_of fun z hz=>I'.pin z (List.mem_append_right _ (List.mem_cons_of_mem _ hz))
  have fpD':FpOk X pins H' D:=⟨fpD.1,fpD.2.1,fpD.2.2.1,fpD.2.2.2.1,fpD.2.2.2.2.1,fun z hz=>fpD.2.2.2.2.2 z (by
   rcases List.mem_append.mp hz with hz|hz
   ·exact List.mem_append_left _ hz
   ·exact List.mem_append_right _ (List.mem_cons_of_mem _ hz))⟩
  refine ⟨.ref D,upd H' D (.lst ((t.map (·.2)).map (·.1))),I4.track fpD' ⟨?_,t.map (·.1),cc,?_,gD⟩,rfl,q _ hz _ (sm.trans sm') _ fpD.1⟩
  ·rw [List.length_map,hl,sizeLine_eq]
   simp
   omega
  ·rw [List.map_map]
   exact vals_of hv
noncomputable def dSrtC (KP:PyData→Prop) (tb:DE) (i:Nat) (t:DA):DE:=fun env R=>t env fun ss env1=>∃ s ds d0,ss=[s]∧valOf env1 s=some (.list ds)∧env1[i]? = some (.fr d0)∧ds.length<64∧(∀ d∈ds,keyTo KP tb d d0)∧∀ es:List PyData,es.Perm ds→R (.ow es) env1
variable {tl:DA}
theorem q_srtC (i:Nat) (hK:X.K=K) (hKP:KeyKd KP) (L:LamAt X) (hr:Room 4 X.A) (hg:Gl X "sorted") (hm:X.mg "sorted" = none) (ha:PA X [e] (upA K tl)) (S:LamScope p x scope)
  (hN:X.N[i]? = some x) (hv:Vis X.env.scope x) (hcel:X.env.kindOf x=some .cell∨X.env.kindOf x=some .free) (hnl:X.env.kindOf x≠some .local)
  (hb:∀ (qual:Str) (cl:List (Str×Addr)) (pm c ctv u:Value),bindArgs (kla_fn "<lambda>" qual params body scope cl pm c ctv) ⟨[u],[]⟩=pure [(p,u)])
  (hcl:∀ c,X.env.cells.lookup x=some c→closureFor scope X.env=pure [(x,c)]) (hdef:defaultsOf params X.env=([],[]))
  (hbody:∀ (A:Around) (s:Shared) (H:Hp) (f:Addr) (cd:Value) (c:Addr),Room 1 (A.deeper (envX (X.env.qual ++ "<lambda>") scope s.heap.objs.size f cd [(x,c)]))→PE (cxCl CX0 X.prog X.w X.K X.mg X.base [p,x] (X.env.qual ++ "<lambda>") scope f cd [(x,c)] A X.stack s H E0) body (up X.K tb))
  (he2:backTo pos (starEach [e] X.env)=(false,eval e X.env)::backTo pos (starEach [] X.env):=by rfl) :
  PE X (.Call (.Name "sorted" q0) [e] [⟨some "key",.Lambda params body scope lpos,kpos⟩] pos) (up K (dSrtC KP tb i tl)) :=
 (pe_srtC (K:=K) (tb:=tb) (KP:=KP) hK hKP L hr hg hm ha S hN hv hcel hnl hb hcl hdef hbody he2).imp fun σ H Q h=>by
 obtain ⟨M,P,H0,σ0,env,ts,R,rel,ht,hq⟩:=h
 refine ⟨M,P,H0,σ0,env,ts,_,rel,ht,fun ss env1 vs H1 h1 hl rel1=>?_⟩
 obtain ⟨s,ds,d0,rfl,e1,e0,h64,hk,hR⟩:=h1
 match vs,hl with
 | [v],_ =>
  obtain ⟨a,us,rfl,sq,q⟩:=(rel1.view (v:=v) (by simp) e1).list
  obtain ⟨x0,ex,m0⟩:=rel1.slot e0
  obtain ⟨v0,ev0,dn0⟩:=rel1.e.fr _ _ m0
  refine ⟨a,us,_,ds,v0,d0,rfl,sq,q,by rw[ex,ev0],dn0,by rw[q.len];exact h64,hk,fun zs hz H2 sm p' hp=>hq _ _ _ _ (hR (zs.map (·.2)) ?_) ((rel1.same sm).resOw hp ?_)⟩
  ·have:=hz.map (·.2)
   rwa [List.map_snd_zip (by rw[q.len];exact Nat.le_refl _)] at this
  ·exact dns_all fun z hz'=>(dns_zip q z (hz.mem_iff.mp hz')).keep (Keep.same sm)
end
end L2
namespace L2
open PySem PySem.Spec PyProof.Rows PySem.W
theorem lex_irr:∀ a:List Int,HT.lexLt a a=false
 | []=>HT.lexLt_nil_nil
 | x::a=>by rw[HT.lexLt_cons,if_pos rfl];exact lex_irr a
theorem lex_as:∀ a b:List Int,HT.lexLt a b=true→HT.lexLt b a=false
 | [],[],h=>by rw[HT.lexLt_nil_nil] at h;cases h
 | [],y::b,_=>HT.lexLt_cons_nil ..
 | x::a,[],h=>by rw[HT.lexLt_cons_nil] at h;cases h
 | x :: a,y::b,h=>by
  rw [HT.lexLt_cons] at h ⊢
  by_cases e:x=y
  ·rw [if_pos e] at h
   rw [if_pos e.symm]
   exact lex_as a b h
  ·rw [if_neg e] at h
   rw [if_neg fun z=>e z.symm]
   have:=of_decide_eq_true h
   exact decide_eq_false (by omega)
theorem lex_tr:∀ a b c:List Int,HT.lexLt a b=false→HT.lexLt b c=false→HT.lexLt a c=false
 | [],[],c,_,h=>h
 | [],y::b,c,h,_=>by rw[HT.lexLt_nil_cons] at h;cases h
 | x::a,b,[],_,_=>HT.lexLt_cons_nil ..
 | x::a,[],z::c,_,h=>by rw[HT.lexLt_nil_cons] at h;cases h
 | x :: a,y::b,z::c,h1,h2=>by
  rw [HT.lexLt_cons] at h1 h2 ⊢
  by_cases e1:x=y
  ·rw [if_pos e1] at h1
   by_cases e2:y=z
   ·rw [if_pos e2] at h2
    rw [if_pos (e1.trans e2)]
    exact lex_tr a b c h1 h2
   ·rw [if_neg e2] at h2
    rw [if_neg fun q=>e2 (e1.symm.trans q),e1]
    exact h2
  ·rw [if_neg e1] at h1
   have h1:=of_decide_eq_false h1
   by_cases e2:y=z
   ·rw [if_neg fun q=>e1 (q.trans e2.symm)]
    exact decide_eq_false (by omega)
   ·rw [if_neg e2] at h2
    have h2:=of_decide_eq_false h2
    rw [if_neg (by omega)]
    exact decide_eq_false (by omega)
theorem keyLt_eq (a b:Int×List Int):keyLt a b=if a.1=b.1 then HT.lexLt a.2 b.2 else decide (a.1<b.1):=by
 unfold keyLt
 by_cases e:a.1=b.1
 ·rw [if_pos e,if_pos e]
  by_cases e2:a.2=b.2
  ·rw [if_pos e2,e2,lex_irr]
  ·rw [if_neg e2]
 ·rw [if_neg e,if_neg e]
theorem keyLt_as (a b:Int×List Int) (h:keyLt a b=true):keyLt b a=false:=by
 rw [keyLt_eq] at h ⊢
 by_cases e:a.1=b.1
 ·rw [if_pos e] at h
  rw [if_pos e.symm]
  exact lex_as _ _ h
 ·rw [if_neg e] at h
  rw [if_neg fun z=>e z.symm]
  have:=of_decide_eq_true h
  exact decide_eq_false (by omega)
theorem keyLt_tr (a b c:Int×List Int) (h1:keyLt a b=false) (h2:keyLt b c=false):keyLt a c=false:=by
 rw [keyLt_eq] at h1 h2 ⊢
 by_cases e1:a.1=b.1
 ·rw [if_pos e1] at h1
  by_cases e2:b.1=c.1
  ·rw [if_pos e2] at h2
   rw [if_pos (e1.trans e2)]
   exact lex_tr _ _ _ h1 h2
  ·rw [if_neg e2] at h2
   rw [if_neg fun q=>e2 (e1.symm.trans q),e1]
   exact h2
 ·rw [if_neg e1] at h1
  have h1:=of_decide_eq_false h1
  by_cases e2:b.1=c.1
  ·rw [if_neg fun q=>e1 (q.trans e2.symm)]
   exact decide_eq_false (by omega)
  ·rw [if_neg e2] at h2
   have h2:=of_decide_eq_false h2
   rw [if_neg (by omega)]
   exact decide_eq_false (by omega)
theorem srtIx_last {ks:List (Int×List Int)} (h1:1≤ks.length):∃ j,(srtIx ks).getLast? = some j∧j<ks.length∧∀ i,i<ks.length→(ks.getD i (0,[])).1≤(ks.getD j (0,[])).1:=by
 have hp:=srtIx_perm ks
 have hl:(srtIx ks).length=ks.length:=by rw[hp.length_eq,List.length_range]
 have hlt0:ks.length - 1<(srtIx ks).length:=by omega
 have hlast:(srtIx ks).getLast? = some (srtIx ks)[ks.length - 1]:=by
  rw [List.getLast?_eq_getElem?,←List.getElem?_eq_getElem hlt0]
  congr 1
  omega
 refine ⟨_,hlast,srtIx_lt _ (List.getElem_mem _),fun i hi=>?_⟩
 have hi2:i∈srtIx ks:=hp.mem_iff.mpr (List.mem_range.mpr hi)
 obtain ⟨a,ha,e⟩:=List.getElem_of_mem hi2
 rw [hl] at ha
 have key:keyLt (ks.getD (srtIx ks)[ks.length - 1] (0,[])) (ks.getD i (0,[]))=false:=by
  by_cases h2:ks.length<2
  ·have e1:ks.length=1:=by omega
   have:(srtIx ks)[ks.length - 1]=i:=by
    rw [←e]
    congr 1
    omega
   rw [this,keyLt_eq,if_pos rfl,lex_irr]
  ·obtain ⟨lt,hlt⟩:∃ lt:Nat→Nat→Bool,lt=fun i j=>keyLt (ks.getD i (0,[])) (ks.getD j (0,[])):=⟨_,rfl⟩
   have ex:srtIx ks=(kasRun lt (kas_sort ks.length)).toList:=by
    unfold srtIx
    rw [if_neg h2,hlt]
   have as:∀ a b,lt a b=true→lt b a=false:=fun a b h=>by rw[hlt] at h ⊢;exact keyLt_as _ _ h
   have tr:∀ a b c,lt a b=false→lt b c=false→lt a c=false:=fun a b c h1 h2=>by rw[hlt] at h1 h2 ⊢;exact keyLt_tr _ _ _ h1 h2
   have asc:=sort_run as tr (n:=ks.length) h1
   have far:=AscA.le as tr asc (a:=a) (b:=ks.length - 1) (by omega) (by omega)
   have g:∀ k,(hk:k<ks.length)→gA (kasRun lt (kas_sort ks.length)) k=(srtIx ks)[k]'(by omega):=fun k hk=>by
    unfold gA
    have hz:k<(kasRun lt (kas_sort ks.length)).size:=by
     have:(kasRun lt (kas_sort ks.length)).toList.length=ks.length:=by rw[←ex];exact hl
     rw [←Array.length_toList,this];exact hk
    rw [Array.getD_eq_getD_getElem?,Array.getElem?_eq_getElem hz]
    show _=_
    simp only [ex,Option.getD_some,Array.getElem_toList]
   rw [g _ (by omega),g a ha,e,hlt] at far
   exact far
 rw [keyLt_eq] at key
 by_cases e3:(ks.getD (srtIx ks)[ks.length - 1] (0,[])).1=(ks.getD i (0,[])).1
 ·omega
 ·rw [if_neg e3] at key
  have:=of_decide_eq_false key
  omega
theorem pick_perm {α:Type}{p:List Nat}{xs:List α}{d:α} (h:p.Perm (List.range xs.length)):(pick p xs d).Perm xs:=by
 have h1:=h.map fun i=>xs.getD i d
 refine h1.trans (List.Perm.of_eq ?_)
 apply List.ext_getElem
 ·simp
 ·intro i a b
  simp at a
  simp [a]
theorem bs_cl {CX:CXT}{P:Program}{w:World}{K:PySem.W.Frag}{mg:Str→Option Value}{base:Heap}{N N':List Str}{qual:Str}{scope sc:Scope}{f:Addr}{cd:Value}{cl:List (Str×Addr)}{A:Around}{outer:List Env}{s:Shared}{H:Hp}{E:XK}{ix:List (Option Nat)}
  (h : bOk N scope N' ix sc=true):BScope (cxCl CX P w K mg base N qual scope f cd cl A outer s H E).N (cxCl CX P w K mg base N qual scope f cd cl A outer s H E).env N' ix sc:=bs_of rfl rfl h
end L2
namespace L2
open PySem PySem.Spec PyProof.Rows PySem.W
section
variable {X:Cx}{K:PySem.W.Frag}
end
section
variable {prog:Program}{w:World}{A:Around}{s:Shared}
theorem ints_okX {us:List Value}{ns:List Int} (h2:2≤us.length) (k:∀ i (h:i<us.length),∃ t,us[i]=Value.int (ns.getD i 0) t) (hl:ns.length=us.length):KeyOkX prog w A us (ns.map fun n=>(n,[])) s:=by
 refine kas_kind (T:=.type "int") h2 (fun v hv=>?_) (by decide) (by rfl) ⟨rfl,fun i j C hi hj hc=>?_⟩
 ·obtain ⟨i,hi,rfl⟩:=List.getElem_of_mem hv
  obtain ⟨t,e⟩:=k i hi
  rw [e]
  exact .now
 ·have e1:us.getD i Value.none=us[i]:=by simp[hi]
  have e2:us.getD j Value.none=us[j]:=by simp[hj]
  show wpAny (model prog w) A (keyLt' _ (us.getD i Value.none) (us.getD j Value.none)) C (fun _ _=>False) s
  rw [e1,e2]
  obtain ⟨t,ex⟩:=k i hi
  obtain ⟨u,ey⟩:=k j hj
  rw [ex,ey]
  have g:∀ m,m<us.length→(ns.map fun n=>(n,([]:List Int))).getD m (0,[])=(ns.getD m 0,[]):=fun m hm=>by
   rw [List.getD_eq_getElem?_getD,List.getElem?_map,List.getD_eq_getElem?_getD,List.getElem?_eq_getElem (by omega)]
   rfl
  rw [g i hi,g j hj,keyLt_eq] at hc
  refine kat_lt_int ?_
  have e:(if (ns.getD i 0,([]:List Int)).1=(ns.getD j 0,([]:List Int)).1 then HT.lexLt (ns.getD i 0,([]:List Int)).2 (ns.getD j 0,([]:List Int)).2 else decide ((ns.getD i 0,([]:List Int)).1<(ns.getD j 0,([]:List Int)).1))=decide (ns.getD i 0<ns.getD j 0):=by
   by_cases z:ns.getD i 0=ns.getD j 0
   ·rw [if_pos z,lex_irr]
    exact (decide_eq_false (by omega)).symm
   ·rw [if_neg z]
  rw [e] at hc
  exact hc
end
theorem srtIx_asc {ks:List (Int×List Int)}{a b:Nat} (hab:a≤b) (hb:b<ks.length):keyLt (ks.getD ((srtIx ks).getD b 0) (0,[])) (ks.getD ((srtIx ks).getD a 0) (0,[]))=false:=by
 have hl:(srtIx ks).length=ks.length:=by rw[(srtIx_perm ks).length_eq,List.length_range]
 by_cases h2:ks.length<2
 ·rw [show a=b by omega,keyLt_eq,if_pos rfl,lex_irr]
 ·obtain ⟨lt,hlt⟩:∃ lt:Nat→Nat→Bool,lt=fun i j=>keyLt (ks.getD i (0,[])) (ks.getD j (0,[])):=⟨_,rfl⟩
  have ex:srtIx ks=(kasRun lt (kas_sort ks.length)).toList:=by
   unfold srtIx
   rw [if_neg h2,hlt]
  have as:∀ a b,lt a b=true→lt b a=false:=fun a b h=>by rw[hlt] at h ⊢;exact keyLt_as _ _ h
  have tr:∀ a b c,lt a b=false→lt b c=false→lt a c=false:=fun a b c h1 h2=>by rw[hlt] at h1 h2 ⊢;exact keyLt_tr _ _ _ h1 h2
  have far:=AscA.le as tr (sort_run as tr (n:=ks.length) (by omega)) hab hb
  have g:∀ k,gA (kasRun lt (kas_sort ks.length)) k=(srtIx ks).getD k 0:=fun k=>by
   unfold gA
   rw [ex,Array.getD_eq_getD_getElem?,List.getD_eq_getElem?_getD,Array.getElem?_toList]
  rw [g,g,hlt] at far
  exact far
noncomputable def srtNs (ns:List Int):List Int:=pick (srtIx (ns.map fun n=>(n,[]))) ns 0
theorem srtNs_perm (ns:List Int):(srtNs ns).Perm ns:=pick_perm (by have:=srtIx_perm (ns.map fun n=>(n,([]:List Int)));rwa [List.length_map] at this)
theorem srtNs_asc (ns:List Int):(srtNs ns).Pairwise (·≤·):=by
 have hl:(srtIx (ns.map fun n=>(n,([]:List Int)))).length=ns.length:=by rw[(srtIx_perm _).length_eq,List.length_range,List.length_map]
 rw [List.pairwise_iff_getElem]
 intro i j hi hj hij
 have hn:(srtNs ns).length=ns.length:=(srtNs_perm ns).length_eq
 have h:=srtIx_asc (ks:=ns.map fun n=>(n,([]:List Int))) (a:=i) (b:=j) (by omega) (by rw[List.length_map];omega)
 have g:∀ m,(hm:m<(srtNs ns).length)→((ns.map fun n=>(n,([]:List Int))).getD ((srtIx (ns.map fun n=>(n,([]:List Int)))).getD m 0) (0,[]))=((srtNs ns)[m],[]):=fun m hm=>by
  have q:(srtIx (ns.map fun n=>(n,([]:List Int)))).getD m 0<ns.length:=by
   have:=srtIx_lt ((srtIx (ns.map fun n=>(n,([]:List Int)))).getD m 0) (by rw[List.getD_eq_getElem?_getD,List.getElem?_eq_getElem (by omega)];exact List.getElem_mem _)
   rwa [List.length_map] at this
  have z:(srtNs ns)[m]=ns[(srtIx (ns.map fun n=>(n,([]:List Int)))).getD m 0]:=by
   have hm2:m<(srtIx (ns.map fun n=>(n,([]:List Int)))).length:=by omega
   have w:(srtNs ns)[m]? = some (ns.getD ((srtIx (ns.map fun n=>(n,([]:List Int)))).getD m 0) 0):=by
    unfold srtNs pick
    rw [List.getElem?_map,List.getD_eq_getElem?_getD (l:=srtIx _),List.getElem?_eq_getElem hm2]
    rfl
   rw [List.getElem?_eq_getElem hm,List.getD_eq_getElem?_getD (l:=ns),List.getElem?_eq_getElem q] at w
   exact Option.some.inj w
  rw [List.getD_eq_getElem?_getD,List.getElem?_map,List.getElem?_eq_getElem q,z]
  rfl
 rw [g i hi,g j hj,keyLt_eq] at h
 by_cases e:(srtNs ns)[j]=(srtNs ns)[i]
 ·omega
 ·rw [if_neg e] at h
  have:=of_decide_eq_false h
  simp only at this
  omega
section
variable {X:Cx}{K:PySem.W.Frag}
theorem call_srtO (hK:X.K=K):CallR X (.builtin "sorted") (fun xs H Q=>∃ (p:Addr) (ns:List Int),xs=[.ref p]∧SqL K H p (ns.map V.int)∧ns.length<64 ∧
  ∀ q,H q=none→Q (.ref q) (upd H q (.lst ((srtNs ns).map V.int)))):=by
 subst hK
 intro pins s σ H xs us Q I r h
 obtain ⟨p,ns,rfl,hs,h64,q⟩:=h
 obtain ⟨u,rfl,ru⟩:=vals1 r
 cases (show u=Value.ref p from ru)
 obtain ⟨its,rv,hp,_⟩:=I.list hs
 have hlen:=rv.length
 rw [List.length_map] at hlen
 have hval:∀ i (h:i<its.length),∃ t,its[i]=Value.int (ns.getD i 0) t:=fun i hi=>by
  have hi2:i<ns.length:=by omega
  obtain ⟨u,e1,⟨t,e2⟩⟩:=rv.get (i:=i) (x:=.int ns[i]) (by rw[List.getElem?_map,List.getElem?_eq_getElem hi2];rfl)
  rw [List.getElem?_eq_getElem hi] at e1
  cases e1
  refine ⟨t,?_⟩
  rw [e2,List.getD_eq_getElem?_getD,List.getElem?_eq_getElem hi2]
  rfl
 refine srt_sortedX (vs:=its) (ks:=ns.map fun n=>(n,[])) hp.isList (by omega) (by rw[List.length_map];omega) (fun h2 h' k=>ints_okX h2 hval (by omega)) fun D h' c k hD hD2=>?_
 have hlt:∀ i∈srtIx (ns.map fun n=>(n,([]:List Int))),i<ns.length:=fun i hi=>by have:=srtIx_lt i hi;rwa [List.length_map] at this
 have ep:pick (srtIx (ns.map fun n=>(n,([]:List Int)))) (ns.map V.int) .non=(srtNs ns).map V.int:=by
  unfold srtNs pick
  rw [List.map_map]
  refine List.map_congr_left fun i hi=>?_
  have:=hlt i hi
  rw [List.getD_eq_getElem?_getD,List.getElem?_map,List.getElem?_eq_getElem this]
  show _=V.int (ns.getD i 0)
  rw [List.getD_eq_getElem?_getD,List.getElem?_eq_getElem this]
  rfl
 refine ⟨.ref D,upd H D (.lst ((srtNs ns).map V.int)),I.laid (t':=s.toks) (o:=.lst ((srtNs ns).map V.int)) k hD ⟨?_,_,c,ep▸vals_pick rv (fun i hi=>by rw[List.length_map];exact hlt i hi),hD2⟩,rfl,q _ (I.hok.fresh hD)⟩
 rw [List.length_map,(srtNs_perm ns).length_eq,sizeLine_eq]
 omega
noncomputable def dSrtO (t:DA):DE:=fun env R=>t env fun ss env1=>∃ s ns,ss=[s]∧valOf env1 s=some (.list (li ns))∧ns.length<64∧∀ ms:List Int,ms.Perm ns→ms.Pairwise (·≤·)→R (.ow (li ms)) env1
variable {e:Expr}{p pos:Pos}{tl:DA}
theorem q_srtO (hK:X.K=K) (hg:Gl X "sorted") (hm:X.mg "sorted" = none) (ha:PA X [e] (upA K tl)) (he:starEach [e] X.env=[(false,eval e X.env)]:=by rfl):PE X (.Call (.Name "sorted" p) [e] [] pos) (up K (dSrtO tl)) :=
 (pe_callB (call_srtO (K:=K) hK) hg hm boot_sorted ha (by decide) (by decide) he rfl).imp fun σ H Q h=>by
 obtain ⟨M,P,H0,σ0,env,ts,R,rel,ht,hq⟩:=h
 refine ⟨M,P,H0,σ0,env,ts,_,rel,ht,fun ss env1 vs H1 h1 hl rel1=>?_⟩
 obtain ⟨s,ns,rfl,e1,h64,hR⟩:=h1
 match vs,hl with
 | [v],_ =>
  obtain ⟨a,us,rfl,sq,q⟩:=(rel1.view (v:=v) (by simp) e1).list
  rw [q.ints] at sq
  exact ⟨a,ns,rfl,sq,h64,fun p' hp=>hq _ _ _ _ (hR _ (srtNs_perm ns) (srtNs_asc ns)) (rel1.resOw hp (dns_ints _))⟩
end
noncomputable def hide:Sl→Sl
 | .fr d=>.fr d
 | _=>.un
theorem hide_fr {s:Sl}{d:PyData} (h:hide s=.fr d):s=.fr d:=by
 cases s <;> first|exact h|cases h
theorem hide_not {s:Sl}{a:Addr}{x:Option V}:a ∉ own1 (x,hide s):=fun z=>by
 rcases own1_some z with ⟨_,⟨ds,e⟩|⟨ds,e⟩⟩|⟨S,d,e,_⟩ <;> cases s <;> cases e
end L2
namespace L2
open PySem PySem.Spec PyProof.Rows
noncomputable def Ev (t:DE) (env:List Sl) (s:Sl):Prop:=∀ R:Sl→List Sl→Prop,R s env→t env R
noncomputable def EvA (t:DA) (env:List Sl) (ss:List Sl):Prop:=∀ R:List Sl→List Sl→Prop,R ss env→t env R
noncomputable def EvT (t:DT) (env:List Sl) (k:Bool):Prop:=∀ R:Bool→List Sl→Prop,R k env→t env R
noncomputable def EvO (t:DO) (env:List Sl) (k:Option Int):Prop:=∀ R:Option Int→List Sl→Prop,R k env→t env R
noncomputable def EvI (t:DI) (env:List Sl) (ds:List PyData):Prop:=∀ R:List PyData→List Sl→Prop,R ds env→t env R
noncomputable def E2 (g:G2) (d e x:PyData):Prop:=∀ R:PyData→Prop,R x→g d e R
noncomputable def E1 (g:G1) (d x:PyData):Prop:=∀ R:PyData→Prop,R x→g d R
noncomputable def EB (g:GB) (ds:List PyData) (x:PyData):Prop:=∀ R:PyData→Prop,R x→g ds R
noncomputable def EL (g:PyData→PyData→(List PyData→Prop)→Prop) (d e:PyData) (x:List PyData):Prop:=∀ R:List PyData→Prop,R x→g d e R
section
variable {env:List Sl}{s s1 s2 s':Sl}{d d1 d2 x e:PyData}{ds es xs ys:List PyData}{i j:Nat}{m n:Int}{ta tb te:DE}{tl:DA}{ss:List Sl}{g:G2}{k:Bool}{DD:DEnds}
theorem ev_var (h:(env[i]?).bind slD=some d):Ev (dVar i) env (.vw i):=fun _ r=>⟨d,h,r⟩
theorem ev_c:Ev (dC d) env (.fr d):=fun _ r=>r
theorem ev_frz (h:env[i]? = some (.fr d)):Ev (dFrz i) env (.fr d):=fun R r=>by unfold dFrz;rw[h];exact r
theorem ev_op (h1:Ev ta env s1) (h2:Ev tb env s2) (e1:valOf env s1=some d1) (e2:valOf env s2=some d2) (h:E2 g d1 d2 x):Ev (dOp g ta tb) env (.fr x):=fun _ r=>h1 _ (h2 _ ⟨d1,d2,e1,e2,h _ r⟩)
theorem ev_opL {g:PyData→PyData→(List PyData→Prop)→Prop} (h1:Ev ta env s1) (h2:Ev tb env s2) (e1:valOf env s1=some d1) (e2:valOf env s2=some d2) (h:EL g d1 d2 xs):Ev (dOpL g ta tb) env (.ow xs):=fun _ r=>h1 _ (h2 _ ⟨d1,d2,e1,e2,h _ r⟩)
theorem ev_un {g:G1} (h1:Ev ta env s1) (e1:valOf env s1=some d1) (h:E1 g d1 x):Ev (dUn g ta) env (.fr x):=fun _ r=>h1 _ ⟨d1,e1,h _ r⟩
theorem ev_cb {g:GB} (h1:EvA tl env ss) (e1:valsOf env ss=some ds) (h:EB g ds x):Ev (dCB g tl) env (.fr x):=fun _ r=>h1 _ ⟨ds,e1,h _ r⟩
theorem ev_tup (h1:EvA tl env ss) (e1:keepsOf env ss=some ds) (z:ss.length≤sizeLine):Ev (dTup tl) env (.fr (.tuple ds)):=fun _ r=>h1 _ ⟨ds,e1,z,r⟩
theorem ev_lst (h1:EvA tl env ss) (e1:keepsOf env ss=some ds) (z:ss.length≤sizeLine):Ev (dLst tl) env (.ow ds):=fun _ r=>h1 _ ⟨ds,e1,z,r⟩
theorem ev_catT (h1:Ev ta env s1) (h2:Ev tb env s2) (e1:valOf env s1=some (.tuple xs)) (e2:valOf env s2=some (.tuple ys)) (z:xs.length+ys.length≤sizeLine):Ev (dCatT ta tb) env (.fr (.tuple (xs++ys))):=fun _ r=>h1 _ (h2 _ ⟨xs,ys,e1,e2,z,r⟩)
theorem ev_slL {l h:Option Int}{t1 t2:DO} (h1:Ev te env s) (h2:EvO t1 env l) (h3:EvO t2 env h) (e1:valOf env s=some (.list ds)):Ev (dSlL te t1 t2) env (.ow (cutD ds l h)):=fun _ r=>h1 _ (h2 _ (h3 _ ⟨ds,e1,r⟩))
theorem ev_no:EvO dNoPart env none:=fun _ r=>r
theorem ev_part (h1:Ev te env s) (e1:valOf env s=some (.int n)):EvO (dPart te) env (some n):=fun _ r=>h1 _ ⟨n,e1,r⟩
theorem ev_nil:EvA dNil env []:=fun _ r=>r
theorem ev_cons (h1:Ev te env s) (h2:EvA tl env ss):EvA (dCons te tl) env (s::ss):=fun _ r=>h1 _ (h2 _ r)
theorem ev_test (h1:Ev te env s) (e1:valOf env s=some (.bool k)):EvT (dTest te) env k:=fun _ r=>h1 _ ⟨k,e1,r⟩
theorem e2_I {f:Int→Int→Int}:E2 (gI f) (.int m) (.int n) (.int (f m n)):=fun _ r=>⟨m,n,rfl,rfl,r⟩
theorem e2_IC {C:Int→Int→Prop}{f:Int→Int→Int} (c:C m n):E2 (gIC C f) (.int m) (.int n) (.int (f m n)):=fun _ r=>⟨m,n,rfl,rfl,c,r⟩
theorem e2_B {f:Int→Int→Bool}:E2 (gB f) (.int m) (.int n) (.bool (f m n)):=fun _ r=>⟨m,n,rfl,rfl,r⟩
theorem e2_isN:E2 gIsN d .none (.bool (isNn d)):=fun _ r=>⟨rfl,r⟩
theorem e2_notN:E2 gNotN d .none (.bool (!isNn d)):=fun _ r=>⟨rfl,r⟩
theorem e2_ix (h1:seqOf d=some ds) (h2:atI ds n=some x):E2 gIx d (.int n) x:=fun _ r=>⟨ds,n,x,h1,rfl,h2,r⟩
theorem e1_neg:E1 gNeg (.int n) (.int (-n)):=fun _ r=>⟨n,rfl,r⟩
theorem eB_len (h:seqOf d=some es):EB gLen [d] (.int es.length):=fun _ r=>⟨d,es,rfl,h,r⟩
theorem eB_min:EB gMin [.int m,.int n] (.int (if n<m then n else m)):=fun _ r=>⟨m,n,rfl,r⟩
theorem eL_cat (z:xs.length+ys.length≤sizeLine):EL gCat (.list xs) (.list ys) (xs++ys):=fun _ r=>⟨xs,ys,rfl,rfl,z,r⟩
theorem ei_list (h1:Ev te env s) (e1:keepOf env s=some (.list ds)):EvI (dIList te) env ds:=fun _ r=>h1 _ ⟨ds,e1,r⟩
theorem ei_tup (h1:Ev te env s) (e1:keepOf env s=some (.tuple ds)):EvI (dITup te) env ds:=fun _ r=>h1 _ ⟨ds,e1,r⟩
theorem ei_rng1 (h1:EvA tl env [s]) (e1:valOf env s=some (.int n)) (z1:-4611686018427387904≤n) (z2:n<4611686018427387904):EvI (dRng1 tl) env (rangeD 0 n.toNat):=fun _ r=>h1 _ ⟨s,n,rfl,e1,z1,z2,r⟩
theorem ei_enum {b:Bool} (h1:EvA tl env [s]) (e1:keepOf env s=some (sqD b ds)):EvI (dEnum b tl) env (enumD ds):=fun _ r=>h1 _ ⟨s,ds,rfl,e1,r⟩
theorem le_line {n:Nat} (h:decide (n≤100)=true):n≤sizeLine:=Nat.le_trans (of_decide_eq_true h) (Nat.le_trans (by decide) line_big)
theorem ws_seq {t u:DS} (h:t { DD with nx:=u DD } env):dSeq t u DD env:=h
theorem ws_set (h1:Ev te env s) (z:i<env.length) (e1:stoOf env s=some s') (h:DD.nx (env.set i s')):dSet i te DD env:=h1 _ ⟨s',z,e1,h⟩
theorem ws_ret (h1:Ev te env s) (h:DD.rt s env):dRet te DD env:=h1 _ h
theorem ws_ifs {c:DT}{t u:DS} (h1:EvT c env k) (h:if k=true then t DD env else u DD env):dIfS c t u DD env:=h1 _ h
theorem ws_for {it:DI}{g:DG}{tb:DS} (h1:EvI it env ds) (h:FD ds g tb DD env):dFor it g tb DD env:=h1 _ h
theorem ws_app {s0:Sl} (h1:Ev te env s) (e1:keepOf env s=some d) (e2:env[i]? = some s0) (e3:ownD s0=some ds) (z:ds.length<sizeLine) (e4:setSl s0 (ds++[d])=some s') (h:DD.nx (env.set i s')):dDrop (dApp i te) DD env:=⟨⟨ds,by rw[e2];exact e3⟩,h1 _ ⟨d,s0,ds,s',e1,e2,e3,z,e4,h⟩⟩
theorem w_callS {sp:DSp}{q:Nat}{s0:Sl}{l ds1 ds2:List PyData}{R:Sl→List Sl→Prop} (h1:EvA tl env ss) (a1:ss[q]? = some (.vw i)) (a2:env[i]? = some s0) (a3:ownD s0=some l) (a4:keepsOf env (ss.take q)=some ds1) (a5:keepsOf env (ss.drop (q+1))=some ds2)
  (h : sp (ds1.map .fr++.io l::ds2.map .fr) (dK (fun r as=>∃ l' s',as[q]? = some (.io l')∧setSl s0 l'=some s'∧R r (env.set i s')) ⟨⟩)):dCallS sp q tl env R:=h1 _ ⟨i,s0,l,ds1,ds2,a1,a2,a3,a4,a5,h⟩
theorem w_call {sp:DSp}{R:Sl→List Sl→Prop} (h1:EvA tl env ss) (e1:keepsOf env ss=some ds) (h:sp (ds.map .fr) (dK (fun r _=>R r env) ⟨⟩)):dCall sp tl env R:=h1 _ ⟨ds,e1,h⟩
theorem w_comp {it:DI}{ix:List (Option Nat)}{g:DG}{tt:DT}{R:Sl→List Sl→Prop} (h1:EvI it env ds) (h:CD ds ix g tt te env (dK R ⟨⟩)):dComp it ix g tt te env R:=h1 _ h
theorem wg_name {R:List Sl→Prop} (z:i<env.length) (h:R (env.set i (.fr d))):dgName i d env R:=⟨z,h⟩
theorem wk_K {R:Sl→List Sl→Prop}{w:Wn R} (h:R s env):dK R w s env:=h
theorem wx_set (h:te env fun s env1=>∃ s',i<env1.length∧stoOf env1 s=some s'∧DD.nx (env1.set i s')):dSet i te DD env:=h
theorem wx_ret (h:te env DD.rt):dRet te DD env:=h
theorem wx_drop (h:te env fun _ env1=>DD.nx env1):dDrop te DD env:=h
end
end L2
namespace L2
open PySem PySem.Spec PyProof.Rows PySem.W PySem.Calls
section
variable {prog:Program}{w:World}{A:Around}{R:Result→Shared→Prop}{I:Addr}{fp wr:List Addr}{P:Nat→Value→Prop}{St:Nat→Heap→Prop}
noncomputable def MaxOf (ns:List Int) (d x:Int):Prop:=ns=[]∧x=d∨x∈ns∧∀ y∈ns,y≤x
theorem take_next {ns:List Int}{j:Nat} (h:j<ns.length):ns.take (j+1)=ns.take j++[ns.getD j 0]:=by
 rw [List.take_add_one,List.getElem?_eq_getElem h,List.getD_eq_getElem?_getD,List.getElem?_eq_getElem h]
 rfl
theorem maxD_loop {ns:List Int} (W:Walks prog w A.in1 I fp wr ns.length P St) (hP:∀ i v,P i v→∃ t,v=Value.int (ns.getD i 0) t) (S:Addr) (hSf:S ∉ fp) (d:Int) (td:Tok) :
  ∀ (k j:Nat) (s:Shared) (vb:List Value) (c:Nat),ns.length - j=k→j≤ns.length→St j s.heap→(vb=[]∧j=0∨∃ x t,vb=[Value.int x t,Value.int x t]∧x∈ns.take j∧∀ y∈ns.take j,y≤x) →
  s.heap.get? S=some { cls:=.type "list",dict:=none,data:=.seq vb.toArray c,slots:=#[] } →
  (∀ x t h' tk,MaxOf ns d x→(∀ b o,b ∉ wr→b≠S→s.heap.get? b=some o→h'.get? b=some o)→R (.ok (.ret (.int x t))) { s with heap:=h',toks:=tk }) →
  codeAny (model prog w) A (.builtin "max.loop" ⟨[.ref I,.none,.ref S],[(("default" : Str),.int d td)]⟩) R s:=by
 have hSw:S ∉ wr:=fun h=>hSf (W.sub _ h)
 have hname:(toString "max" ++ toString ".loop" : String) = "max.loop" := by decide
 intro k
 induction k with
 | zero =>
  intro j s vb c hk hj hst hb hS hR
  have hin:j=ns.length:=by omega
  refine codeAny_builtin F.entry_max_loop ?_
  rw [Around.under_plainId F.plain_max_loop _]
  show wpAny _ A.in1 (seqItems? (.ref S) >>= _) _ _ s
  refine wpAny_bind (wpAny_seqItems hS rfl ?_)
  show wpAny _ A.in1 (tryCatch (pyNext (.ref I)) _ >>= _) _ _ s
  refine wpAny_bind (wpAny_tryCatch (W.done s _ _ (hin▸hst) fun h' tk hk'=>?_))
  have hS':=hk' S _ hSw hS
  rcases hb with ⟨rfl,h0⟩|⟨x,t,rfl,hx1,hx2⟩
  ·exact wpAny_bind (wpAny_rule (wpAny_pure (hR d td h' tk (.inl ⟨List.length_eq_zero_iff.mp (by omega),rfl⟩) fun b o hbw hbS e=>hk' b o hbw e)))
  ·show wpAny _ A.in1 (updateSeq S (fun _=>#[]) >>= _) _ _ _
   refine wpAny_bind ?_
   refine wpAny_updateSeq hS' rfl (wpAny_bind (wpAny_letGo (wpAny_pure ?_)))
   rw [hin,List.take_length] at hx1 hx2
   exact hR x t _ tk (.inr ⟨hx1,hx2⟩) fun b o hbw hbS e=>(Heap.get?_update_other _ _ (Ne.symm hbS)).trans (hk' b o hbw e)
 | succ k ih =>
  intro j s vb c hk hj hst hb hS hR
  have hlt:j<ns.length:=by omega
  refine codeAny_builtin F.entry_max_loop ?_
  rw [Around.under_plainId F.plain_max_loop _]
  show wpAny _ A.in1 (seqItems? (.ref S) >>= _) _ _ s
  refine wpAny_bind (wpAny_seqItems hS rfl ?_)
  show wpAny _ A.in1 (tryCatch (pyNext (.ref I)) _ >>= _) _ _ s
  refine wpAny_bind (wpAny_tryCatch (W.item j s _ _ hlt hst fun v h' tk hPv hst' hk'=>?_))
  have hS':=hk' S _ hSw hS
  obtain ⟨u,rfl⟩:=hP _ _ hPv
  have et:=take_next hlt
  generalize ns.getD j 0=y at *
  have go:∀ (h2:Heap) (c2:Nat),(∀ z∈ns.take j,z≤y)→(∀ b o,b≠S→h'.get? b=some o→h2.get? b=some o)→h2.get? S=some { cls:=.type "list",dict:=none,data:=.seq #[.int y u,.int y u] c2,slots:=#[] } →
    codeAny (model prog w) A (.builtin "max.loop" ⟨[.ref I,.none,.ref S],[(("default" : Str),.int d td)]⟩) R { s with heap:=h2,toks:=tk }:=fun h2 c2 hy k2 hS2 =>
   ih (j+1) _ [.int y u,.int y u] c2 (by omega) hlt (W.frame _ _ _ hst' fun b hbf o e=>k2 b o (fun h:b=S=>hSf (by rw[←h];exact hbf)) e) (.inr ⟨y,u,rfl,by rw[et];simp,fun z hz=>by
    rw [et] at hz
    rcases List.mem_append.mp hz with hz|hz
    ·exact hy z hz
    ·rw [List.mem_singleton.mp hz];exact Int.le_refl _⟩) hS2
    fun x t h'' tk'' hm hk''=>hR x t h'' tk'' hm fun b o hbw hbS e=>hk'' b o hbw hbS (k2 b o hbS (hk' b o hbw e))
  rcases hb with ⟨rfl,h0⟩|⟨x,t,rfl,hx1,hx2⟩
  ·show wpAny _ A.in1 (updateSeq S (fun _=>#[.int y u,.int y u]) >>= _) _ _ _
   refine wpAny_bind ?_
   refine wpAny_updateSeq hS' rfl ?_
   rw [hname]
   exact wpAny_pure ⟨plainId_quiet F.plain_max_loop _,go _ _ (fun z hz=>by rw[h0] at hz;simp at hz) (fun b o hbS e=>(Heap.get?_update_other _ _ (Ne.symm hbS)).trans e) (Heap.get?_update_self _ hS' rfl)⟩
  ·show wpAny _ A.in1 (tryCatch (holding [.int y u,.int y u] (richCompare .Gt (.int y u) (.int x t) >>= _)) _ >>= _) _ _ _
   refine wpAny_bind (wpAny_tryCatch (wpAny_holding (wpAny_bind (show wpAny _ _ (compareOp .Gt (.int y u) (.int x t)) _ _ _ from gt_int ?_))))
   refine wpAny_bind (wpAny_holding (wpAny_truthy_bool ?_))
   refine wpAny_bind (wpAny_letGo (wpAny_pure ?_))
   cases hb:decide (x<y) with
   | true =>
    have hb:=of_decide_eq_true hb
    simp only [if_true]
    refine wpAny_bind ?_
    refine wpAny_updateSeq hS' rfl (wpAny_bind (wpAny_letGo ?_))
    rw [hname]
    exact wpAny_pure ⟨plainId_quiet F.plain_max_loop _,go _ _ (fun z hz=>by have:=hx2 z hz;omega) (fun b o hbS e=>(Heap.get?_update_other _ _ (Ne.symm hbS)).trans e) (Heap.get?_update_self _ hS' rfl)⟩
   | false =>
    have hb:=of_decide_eq_false hb
    simp only [Bool.false_eq_true,if_false]
    refine wpAny_bind (wpAny_letGo ?_)
    rw [hname]
    exact wpAny_pure ⟨plainId_quiet F.plain_max_loop _,ih (j+1) _ [.int x t,.int x t] c (by omega) hlt hst' (.inr ⟨x,t,rfl,by rw[et];simp[hx1],fun z hz=>by
     rw [et] at hz
     rcases List.mem_append.mp hz with hz|hz
     ·exact hx2 z hz
     ·rw [List.mem_singleton.mp hz];omega⟩) hS' fun x t h'' tk'' hm hk''=>hR x t h'' tk'' hm fun b o hbw hbS e=>hk'' b o hbw hbS (hk' b o hbw e)⟩
theorem args_maxD (a v:Value):argsOk "max" ⟨[a],[(("default" : Str),v)]⟩:=by unfold argsOk;kernel_rfl
theorem call_maxD {E:Value→Shared→Prop}{s:Shared}{x:Value}{ns:List Int}{d:Int}{td:Tok}{Q:Value→Shared→Prop}
  (h : wpAny (model prog w) A.in1 (pyIter x) (fun it s₂=>∃ I fp wr P St,it=.ref I∧Walks prog w A.in1 I fp wr ns.length P St∧St 0 s₂.heap∧(∀ b∈fp,b<s₂.heap.objs.size)∧(∀ i v,P i v→∃ t,v=Value.int (ns.getD i 0) t) ∧
   ∀ x t h' tk,MaxOf ns d x→(∀ b o,b ∉ wr→s₂.heap.get? b=some o→h'.get? b=some o)→Q (.int x t) { s₂ with heap:=h',toks:=tk }) E s) :
  wpAny (model prog w) A (call (.builtin "max") [x] [(("default" : Str),.int d td)]) Q E s:=by
 have hname:(toString "max" ++ toString ".loop" : String) = "max.loop" := by decide
 refine call_treeK F.kind_max F.plain_max F.entry_max (args_maxD _ _) ?_
 show wpAny _ A.in1 (Builtin.Builtins.bindParams "max" ["key", "default"] 0 ⟨[],[(("default" : Str),.int d td)]⟩ >>= _) _ _ s
 refine wpAny_bind (wpAny_of_eq (show Builtin.Builtins.bindParams "max" ["key", "default"] 0 ⟨[],[(("default" : Str),.int d td)]⟩=pure [none,some (.int d td)] from rfl) ?_)
 refine wpAny_bind (wpAny_pure ?_)
 refine wpAny_bind (wpAny_mono h (fun it s₂ h₂=>?_) fun _ _ e=>e)
 obtain ⟨I,fp,wr,P,St,rfl,W,hst,hfp,hP,hQ⟩:=h₂
 refine wpAny_bind (wpAny_newObj_type ?_)
 have hSf:s₂.heap.objs.size ∉ fp:=fun hm=>Nat.lt_irrefl _ (hfp _ hm)
 rw [hname]
 refine wpAny_pure ⟨plainId_quiet F.plain_max_loop _,maxD_loop W hP s₂.heap.objs.size hSf d td _ 0 _ [] 0 rfl (Nat.zero_le _) (W.frame _ _ _ hst fun b _ o e=>Heap.get?_push_of_some _ e) (.inl ⟨rfl,rfl⟩) (Heap.get?_push_size _ rfl) fun x t h' tk hm hk=>?_⟩
 exact hQ x t h' tk hm fun b o hbw e=>hk b o hbw (Nat.ne_of_lt (Heap.lt_size e)) (Heap.get?_push_of_some _ e)
end
section
variable {X:Cx}{K:PySem.W.Frag}{e:Expr}{tl:DA}{p pos kpos p3:Pos}
noncomputable def tMaxD (K:PySem.W.Frag) (d:Int) (t:TA):TE:=fun σ H Q=>t σ H fun xs H1=>∃ (p:Addr) (ns:List Int),xs=[.ref p]∧SqL K H1 p (ns.map V.int)∧∀ m:Int,MaxOf ns d m→Q (.int m) H1
theorem pe_maxD {t:TA}{d:Int}{j} (hK:X.K=K) (hc:X.calm=true) (hg:Gl X "max") (hm:X.mg "max" = none) (ha:PA X [e] t)
  (he:starEach [e] X.env=[(false,eval e X.env)]:=by rfl)
  (he2:backTo pos (starEach [e] X.env)=(false,eval e X.env)::backTo pos (starEach [] X.env):=by rfl):PE X (.Call (.Name "max" p) [e] [⟨some "default",.Constant (.int d) j p3,kpos⟩] pos) (tMaxD K d t):=by
 subst hK
 intro pins s σ H Q I h
 refine wpAny_Call_Name_kw (ld_blt I hg hm PyProof.Rows.boot_max ?_ (by decide) (by decide))
 refine callWith_kw (thn (ha pos pins s σ H _ I h) fun us s1 ⟨vs,H1,I1,r,q⟩=>?_) he2 (by rw[he2];rfl) rfl rfl
 refine thn ((pk_cons pe_int pk_nil:PK X [⟨some "default",.Constant (.int d) j p3,kpos⟩] _) pos pins s1 σ H1 (fun zs H2=>zs=[.int d]∧H2=H1) I1 ⟨rfl,rfl⟩) fun ws s2 ⟨zs,H2,I2,rz,ez,eH⟩=>?_
 subst ez eH
 obtain ⟨u,rfl,⟨td,rfl⟩⟩:=vals1 rz
 obtain ⟨q0,ns,rfl,hs,q⟩:=q
 obtain ⟨u,rfl,ru⟩:=vals1 r
 cases (show u=Value.ref q0 from ru)
 obtain ⟨its,rv,hp,_⟩:=I2.list hs
 have hl:=hp.isList
 have hlt:q0<s2.heap.objs.size:=by obtain⟨_,e,_⟩:=hl;exact Heap.lt_size e
 have hsz:its.toArray.size=ns.length:=by
  have:=rv.length
  simp at this ⊢
  omega
 have W:=(Walks.list (prog:=X.prog) (w:=X.w) (A:=X.A.in1) (I2.ok.hd hc) s2.heap.objs.size q0 (Nat.ne_of_lt hlt) its.toArray)
 rw [hsz] at W
 show wpAny _ _ (call (.builtin "max") [.ref q0] [(("default" : Str),.int d td)]) _ _ _
 refine call_maxD (ns:=ns) (wpAny_pyIter_list hl ?_)
 refine ⟨s2.heap.objs.size,_,_,_,_,rfl,W,⟨⟨_,Heap.get?_push_size _ rfl,rfl,rfl⟩,hl.push _⟩,fun b hb=>?_,fun i v hP=>?_,fun x t h' tk hm hk=>?_⟩
 ·rcases List.mem_cons.mp hb with rfl|hb
  ·exact Heap.lt_size (Heap.get?_push_size _ rfl)
  ·obtain rfl:=List.mem_singleton.mp hb
   exact Heap.lt_size (Heap.get?_push_of_some _ (id hl).choose_spec.1)
 ·have hP:its[i]? = some v:=by simpa using hP
  have hi:i<its.length:=(List.getElem?_eq_some_iff.mp hP).1
  have hi2:i<ns.length:=by simp at hsz;omega
  obtain ⟨u,e1,⟨t,e2⟩⟩:=rv.get (i:=i) (x:=.int ns[i]) (by rw[List.getElem?_map,List.getElem?_eq_getElem hi2];rfl)
  rw [hP] at e1
  cases e1
  refine ⟨t,?_⟩
  rw [e2,List.getD_eq_getElem?_getD,List.getElem?_eq_getElem hi2]
  rfl
 ·exact ⟨.int x,H2,I2.kept fun b o e=>hk b o (fun hb=>absurd (Heap.lt_size e) ((List.mem_singleton.mp hb)▸Nat.lt_irrefl _)) (Heap.get?_push_of_some _ e),⟨_,rfl⟩,q _ hm⟩
noncomputable def dMaxD (d:Int) (t:DA):DE:=fun env R=>t env fun ss env1=>∃ s es ns,ss=[s]∧valOf env1 s=some (.list es)∧intsOf es=some ns∧∀ m:Int,MaxOf ns d m→R (.fr (.int m)) env1
theorem q_maxD {d:Int}{j} (hK:X.K=K) (hc:X.calm=true) (hg:Gl X "max") (hm:X.mg "max" = none) (ha:PA X [e] (upA K tl))
  (he:starEach [e] X.env=[(false,eval e X.env)]:=by rfl)
  (he2:backTo pos (starEach [e] X.env)=(false,eval e X.env)::backTo pos (starEach [] X.env):=by rfl):PE X (.Call (.Name "max" p) [e] [⟨some "default",.Constant (.int d) j p3,kpos⟩] pos) (up K (dMaxD d tl)) :=
 (pe_maxD (K:=K) hK hc hg hm ha he he2).imp fun σ H Q h=>by
 obtain ⟨M,P,H0,σ0,env,ts,R,rel,ht,hq⟩:=h
 refine ⟨M,P,H0,σ0,env,ts,_,rel,ht,fun ss env1 vs H1 h1 hl rel1=>?_⟩
 obtain ⟨s,es,ns,rfl,e1,e2,hR⟩:=h1
 match vs,hl with
 | [v],_ =>
  obtain ⟨a,us,rfl,sq,q⟩:=(rel1.view (v:=v) (by simp) e1).list
  rw [intsOf_some e2] at q
  rw [q.ints] at sq
  exact ⟨a,ns,rfl,sq,fun m h1=>hq _ _ _ _ (hR m h1) (rel1.drop.addFr (.int m))⟩
end
end L2
namespace L2
open PySem PySem.Spec PyProof.Rows PySem.W
noncomputable def dLendI (i:Nat) (t:DE):DE:=fun env R=>∃ S d,env[i]? = some (.tr S d)∧t ((env.map hide).set i (.fr d)) fun s env1=>∃ m:Int,valOf env1 s=some (.int m)∧R (.fr (.int m)) env
theorem q_lendI (i:Nat) {X:Cx}{K:PySem.W.Frag}{e:Expr}{t:DE} (h:PE X e (up K t)):PE X e (up K (dLendI i t)):=h.imp fun σ H Q h=>by
 obtain ⟨M,P,H0,σ0,env,ts,R,rel,⟨S,d,e,ht⟩,hq⟩:=h
 have rel2:=rel.frzT e
 have hil:i<env.length:=(List.getElem?_eq_some_iff.mp e).1
 have en:∀ (x:Option V) (s:Sl),(x,s)∈ents σ ((env.map hide).set i (.fr d)) []→(∃ s',s=hide s')∧∀ d',s=.fr d'→(x,Sl.fr d')∈ents σ (env.set i (.fr d)) ts:=fun x s m=>by
  have m:(x,s)∈σ.zip ((env.map hide).set i (.fr d)):=by simpa [ents] using m
  obtain ⟨j,hj,ej⟩:=List.getElem_of_mem m
  rw [List.length_zip,List.length_set,List.length_map] at hj
  rw [List.getElem_zip] at ej
  obtain ⟨e1,e2⟩:=Prod.mk.inj ej
  rw [List.getElem_set] at e2
  by_cases hij:i=j
  ·rw [if_pos hij] at e2
   refine ⟨⟨.fr d,e2.symm⟩,fun d' hd=>List.mem_append_left _ ?_⟩
   rw [List.mem_iff_getElem]
   refine ⟨j,by rw[List.length_zip,List.length_set];omega,?_⟩
   rw [List.getElem_zip,List.getElem_set,if_pos hij,e1,e2,hd]
  ·rw [if_neg hij,List.getElem_map] at e2
   refine ⟨⟨_,e2.symm⟩,fun d' hd=>List.mem_append_left _ ?_⟩
   rw [List.mem_iff_getElem]
   refine ⟨j,by rw[List.length_zip,List.length_set];omega,?_⟩
   rw [List.getElem_zip,List.getElem_set,if_neg hij,e1,hide_fr (e2.trans hd)]
 have no:∀ a,a ∉ oas (ents σ ((env.map hide).set i (.fr d)) []):=fun a z=>by
  obtain ⟨⟨x,s⟩,he,eo⟩:=mem_oas.mp z
  obtain ⟨⟨s',rfl⟩,_⟩:=en x s he
  exact hide_not eo
 refine ⟨N0,N0,H,σ,_,[],_,⟨⟨Keep.refl,fun a z=>z,fun a z=>z.elim,fun a z=>z.elim,fun x d m=>?_,fun x ds m=>?_,fun x ds m=>?_,fun x S d m=>?_,?_⟩,?_,(fun v j m=>by cases m),fun j ds' m=>?_⟩,ht,fun s env1 v H1 h1 rel1=>?_⟩
 ·obtain ⟨v,e1,dn⟩:=rel2.e.fr x d ((en x _ m).2 d rfl)
  exact ⟨v,e1,dn.to fun b _ _ z=>z.elim (fun z=>z.elim) fun z=>absurd z (no b)⟩
 ·obtain ⟨⟨s',e1⟩,_⟩:=en _ _ m
  cases s' <;> cases e1
 ·obtain ⟨⟨s',e1⟩,_⟩:=en _ _ m
  cases s' <;> cases e1
 ·obtain ⟨⟨s',e1⟩,_⟩:=en _ _ m
  cases s' <;> cases e1
 ·rw [List.eq_nil_iff_forall_not_mem.mpr no]
  exact List.nodup_nil
 ·rw [List.length_set,List.length_map]
  exact rel.len
 ·have m2:=List.mem_of_getElem? m
  rcases List.mem_or_eq_of_mem_set m2 with h|h
  ·obtain ⟨s,_,e1⟩:=List.mem_map.mp h
   cases s <;> cases e1
  ·cases h
 ·obtain ⟨m,e1,hR⟩:=h1
  have ev:=(rel1.view (v:=v) (s:=s) (by simp) e1).int
  subst ev
  exact hq _ _ _ _ hR ((rel.same rel1.e.keep.none).addFr (.int m))
section
variable {K:PySem.W.Frag}{M P N:Addr→Prop}{H0 H H':Hp}{σ0 σ:St}{env:List Sl}{ts tt:List (V×Sl)}{v:V}{s:Sl}{d:PyData}
noncomputable def dCallTn (sp:DSp) (t:DA):DE:=fun env R=>t env fun ss env1=>∃ ss1 l ds,ss=ss1++[.ow l]∧keepsOf env1 ss1=some ds∧sp (ds.map .fr++[.io l]) (dK (fun r _=>R r env1) ⟨⟩)
theorem callTn_up {sp:DSp}{tl:DA}:∀ σ H Q,up K (dCallTn sp tl) σ H Q→tCall (spD K sp) [] E0 (upA K tl) σ H Q:=fun σ H Q h=>by
 obtain ⟨M,P,H0,σ0,env,ts,R,rel,ht,hq⟩:=h
 refine ⟨M,P,H0,σ0,env,ts,_,rel,ht,fun ss env1 vs H1 h1 hl rel1=>?_⟩
 obtain ⟨ss1,l,ds,rfl,ek,hsp⟩:=h1
 rw [List.append_nil]
 obtain ⟨vs1,v1,rfl⟩:∃ vs1 v1,vs=vs1++[v1]:=by
  rcases List.eq_nil_or_concat vs with rfl|⟨a,b,rfl⟩
  ·simp at hl
  ·exact ⟨a,b,List.concat_eq_append ..⟩
 have hl1:vs1.length=ss1.length:=by simpa using hl
 have ez:(vs1++[v1]).zip (ss1++[Sl.ow l])=vs1.zip ss1++[(v1,.ow l)]:=List.zip_append hl1
 have rel2:Rel K M P H0 σ0 σ env1 ((ts++vs1.zip ss1)++[(v1,.ow l)]) H1:=by rw[List.append_assoc,←ez];exact rel1
 have relT:Rel K M P H0 σ0 σ env1 (ts++[(v1,.ow l)]) H1:=rel2.dropMid
 have relS:Rel K M P H0 σ0 σ env1 ((ts++[(v1,.ow l)])++vs1.zip ss1) H1:=by
  refine ⟨?_,rel2.len,fun x i m=>rel2.vw x i (by
   simp only [List.mem_append] at m ⊢
   rcases m with (m|m)|m
   ·exact .inl (.inl m)
   ·exact .inr m
   ·exact .inl (.inr m)),rel2.ios⟩
  have e2:=rel2.e
  rw [ents_app,ents_app] at e2 ⊢
  refine e2.sub (fun x s m=>.inl (by
   simp only [List.mem_append] at m ⊢
   rcases m with (m|m)|m
   ·exact .inl (.inl m)
   ·exact .inr m
   ·exact .inl (.inr m))) ?_
  have nd:=e2.nd
  simp only [oas_app,List.append_assoc] at nd ⊢
  exact ((List.Perm.append_left _ List.perm_append_comm).nodup_iff).mp nd
 have dns:=relS.keptAll hl1 (fun p hp=>hp) ek
 have hE:=relT.e
 rw [ents_app] at hE
 obtain ⟨a,us,ea,hH,ql,h0⟩:=hE.ow (some v1) l (List.mem_append_right _ (by simp[tmp]))
 cases ea
 have hE:RelE K M P H0 (ents σ env1 ts++[(some (.ref a),.ow l)]) H1:=hE
 have eqN:Nw M (ents σ env1 (ts++[(.ref a,.ow l)]))=Nw M (ents σ env1 ts++[(some (.ref a),.ow l)]):=by rw[ents_app];rfl
 have ma:Nw M (ents σ env1 ts++[(some (.ref a),.ow l)]) a:=.inr (by rw[oas_app];exact List.mem_append_right _ (mem_oas.mpr ⟨_,List.mem_singleton.mpr rfl,List.mem_singleton.mpr rfl⟩))
 rw [eqN] at dns
 have arg:=argsIo (v1:=vs1) (d1:=ds) (l:=l) (us:=us) (a:=a) (K:=K) (M':=Nw M (ents σ env1 ts++[(some (.ref a),.ow l)])) (H:=H1) dns .nil (fun b z hn=>relT.newAddr hn (by rw[eqN];exact z)) ma hH ql
 refine ⟨_,ds.map .fr++[.io l],fun r _=>R r env1,by simp[dns.len],arg.2,hsp,fun r ss2 v H' hR hr post=>hq _ _ _ _ hR ?_⟩
 have k:Keep (fun b=>b=a) H1 H':=post.keep.mono fun b z=>by
  have z:b∈oas (tmp ((vs1++[V.ref a]).zip (ds.map Sl.fr++[Sl.io l]))):=z
  have oe:=arg.1
  simp only [List.map_nil] at oe
  rw [oe,List.mem_singleton] at z
  exact z
 obtain ⟨rel',f1,f2,f3⟩:=hE.lost k post.live
 have rk:=post.resOk hr
 have rk':ResOk K (Nw M (ents σ env1 ts)) H1 H' v r:=rk.to fun b z=>nw_app z
 have n2:∀ b,((Nw M (ents σ env1 ts) b∨(b∈own1 (some v,r)∧H1 b=none))∨b=a)→Nw M (ents σ env1 ts++[(some (.ref a),.ow l)]) b∨H1 b=none:=fun b z=>by
  rcases z with (z|z)|z
  ·exact .inl (nw_app z)
  ·exact .inr z.2
  ·rw [z];exact .inl ma
 refine relT.drop.withRes ?_ hr
 refine rel'.getRes relT.e.live rk' (fun x d m=>?_) (fun x s ds' m eo=>?_) fun x S d m=>?_
 rotate_right
 ·obtain ⟨w,e,f⟩:=f3 x S d m
  exact ⟨w,e,(f (fun b=>(Nw M (ents σ env1 ts) b∨(b∈own1 (some v,r)∧H1 b=none))∨b=a) n2 (.inr rfl)).to fun b _ _ z=>.inl z⟩
 ·obtain ⟨w,e,f⟩:=f1 x d m
  exact ⟨w,e,(f (fun b=>(Nw M (ents σ env1 ts) b∨(b∈own1 (some v,r)∧H1 b=none))∨b=a) n2 (.inr rfl)).to fun b _ _ z=>.inl z⟩
 ·obtain ⟨b,us',e,e2,f⟩:=f2 x s ds' m eo
  exact ⟨b,us',e,e2,(f (fun b=>(Nw M (ents σ env1 ts) b∨(b∈own1 (some v,r)∧H1 b=none))∨b=a) n2 (.inr rfl)).to fun b _ _ z=>.inl z⟩
end
section
variable {X:Cx}{x:Str}{p pos:Pos}{e:Expr}{es:List Expr}{k:Nat}{sp:DSp}{K:PySem.W.Frag}{tl:DA}
theorem q_callTn (C:Cal X.prog X.w X.K X.mg X.base x k (spD K sp)) (hr:Room k X.A) (hg:Gl X x) (ha:PA X (e::es) (upA K tl)) (hd:(x==("__debug__" : Str))=false:=by decide)
  (he:starEach (e::es) X.env=(false,eval e X.env)::starEach es X.env:=by rfl) (hpl:(backTo pos (starEach es X.env)).any (·.1)=false:=by rfl):PE X (.Call (.Name x p) (e::es) [] pos) (up K (dCallTn sp tl)):=(pe_cal C hr hg ha hd he hpl).imp callTn_up
end
section
variable {X:Cx}{K:PySem.W.Frag}
noncomputable def dFzT (i:Nat) (u:DS):DS:=fun DD env=>∃ S d,env[i]? = some (.tr S d)∧u DD (env.set i (.fr d))
theorem qs_frzT (i:Nat) {ss:List Stmt}{u:DS} (h:PSs X ss (upS K u)):PSs X ss (upS K (dFzT i u)):=h.imp fun D σ H h=>by
 obtain ⟨M,P,H0,σ0,env,ts,DD,nv,rel,⟨S,d,e,hu⟩,ok⟩:=h
 exact ⟨M,P,H0,σ0,_,ts,DD,nv,rel.frzT e,hu,ok⟩
end
end L2
namespace W
open PySem L2
local macro_rules | `(tactic| walk_at "d2") => do
 let l ← (("dI_app,dK_app,dMaxD,dLendI,dCallTn,dFzT,dSrtO,hide,dSrtKX,dSrtC,keyTo,dDct0,dDct1,dSetK,gNotInK,gIxK,gIxZ,dTruthL,dHeadL,dPop0L,dPopL,slD_tr,valOf_tr,dSrt,dSeq,dSet,dAsg,dgName,dgTup,dgLst,dFz,dgCons,dgNil,dRet,dDrop,dNext,dIfS,dCont,dSetIx,dFor,dOp,dOpL,dCatT,dUn,dVar,dFrz,dC,dTest,dAnd,dNot,dAndV,dIf,dTup,dLst,dCons,dNil,dCall,dCallS,dCallT,dCB,dTruth,dSlL,dPart,dNoPart,dTupOf,dApp,dPop,dIList,dITup,dRng1,dEnum,dComp,dComp1,dYes,sqD,gI,gIC,gB,gEq,gIsN,gNotN,gIn,gNotIn,gIx,gCat,gLen,gMin,gInt,gNeg,gMinL,dLstT,dAppT,Sl.tr.injEq,treeD,treesD,slF,noL,noLs,stoOf_tr,resOf_tr,keepOf_tr,valOf_fr,valOf_ow,valOf_io,valOf_vw,valsOf_nil,valsOf_cons,keepOf_fr,keepOf_ow,keepOf_vw,keepsOf_nil,keepsOf_cons,slD_fr,slD_ow,slD_io,slD_un,slK_fr,slK_ow,slK_io,slK_un,stoOf_fr,stoOf_ow,stoOf_vw,resOf_fr,resOf_ow,resOf_vw,resS_fr,resS_ow,finD,ioOnly_fr,ioOnly_ow,ioOnly_io,ioOnly_un,endsD_rt,endsD_nx,startD,setSl_ow,setSl_io,ownD_ow,ownD_io,ownD_fr,ownD_un,capE,capD_none,capD_some,capSl_fr,capSl_ow,capSl_io,capSl_un,seqOf_list,seqOf_tuple,truD_none,truD_bool,truD_int,truD_list,truD_tuple,isNn_none,isNn_int,isNn_bool,isNn_list,isNn_tuple,intsOf_map,boolsOf_map,eqv_ints,atI_c0,atI_c1,atI_c2,atI_c3,atI_c4,atI_c5,atI_c6,atI_c7,eqv_none,eqv_ni,eqv_in,shp_int,shp_none,shp_bool,List.map_cons,List.map_nil,List.length_cons,List.length_nil,List.cons_append,List.nil_append,List.append_nil,List.replicate_succ,List.replicate_zero,List.set_cons_succ,List.set_cons_zero,List.getElem?_cons_zero,List.getElem?_cons_succ,List.getElem?_nil,List.take_succ_cons,List.take_zero,List.take_nil,List.drop_succ_cons,List.drop_zero,List.drop_nil,Option.some.injEq,Option.bind_some,Option.bind_none,Option.map_some,Option.map_none,Sl.fr.injEq,Sl.ow.injEq,Sl.io.injEq,Sl.vw.injEq,PyData.int.injEq,PyData.bool.injEq,PyData.list.injEq,PyData.tuple.injEq,PyData.str.injEq,List.cons.injEq,reduceCtorEq,and_true,true_and,and_false,false_and,and_assoc,exists_eq_left',exists_eq_left,exists_and_left,exists_eq',exists_eq,exists_false,exists_const,Nat.reduceSub,Nat.reduceAdd,Nat.reduceLT,Nat.zero_add,Nat.lt_add_left_iff_pos,decide_eq_true_eq,ite_true,ite_false,Bool.false_eq_true,if_true,if_false,Bool.not_eq_true',Bool.not_eq_true,decide_eq_false_iff_not,Int.zero_add,String.reduceBEq,Bool.true_and,Bool.and_true,Bool.or_false,Bool.false_or,Bool.or_true,Bool.true_or,Bool.and_false,Bool.false_and,Bool.not_true,Bool.not_false,id_eq,Sl.ctorIdx,Nat.succ_eq_add_one".splitOn ",").toArray.mapM fun s => `(Lean.Parser.Tactic.simpLemma| $(Lean.mkIdent s.toName):ident))
 `(tactic| simp only [$l,*])
local macro_rules | `(tactic| walk_at "d1") => do
 let l ← (("dK_app,dMaxD,dLendI,dCallTn,dFzT,dSrtO,hide,dSrtKX,dSrtC,keyTo,dDct0,dDct1,dSetK,gNotInK,gIxK,gIxZ,dTruthL,dHeadL,dPop0L,dPopL,slD_tr,valOf_tr,dSrt,dSeq,dSet,dAsg,dgName,dgTup,dgLst,dFz,dgCons,dgNil,dRet,dDrop,dNext,dIfS,dCont,dSetIx,dFor,dOp,dOpL,dCatT,dUn,dVar,dFrz,dC,dTest,dAnd,dNot,dAndV,dIf,dTup,dLst,dCons,dNil,dCall,dCallS,dCallT,dCB,dTruth,dSlL,dPart,dNoPart,dTupOf,dApp,dPop,dIList,dITup,dRng1,dEnum,dComp,dComp1,dYes,sqD,gI,gIC,gB,gEq,gIsN,gNotN,gIn,gNotIn,gIx,gCat,gLen,gMin,gInt,gNeg,gMinL,dLstT,dAppT,Sl.tr.injEq,treeD,treesD,slF,noL,noLs,stoOf_tr,resOf_tr,keepOf_tr,valOf_fr,valOf_ow,valOf_io,valOf_vw,valsOf_nil,valsOf_cons,keepOf_fr,keepOf_ow,keepOf_vw,keepsOf_nil,keepsOf_cons,slD_fr,slD_ow,slD_io,slD_un,slK_fr,slK_ow,slK_io,slK_un,stoOf_fr,stoOf_ow,stoOf_vw,resOf_fr,resOf_ow,resOf_vw,resS_fr,resS_ow,finD,ioOnly_fr,ioOnly_ow,ioOnly_io,ioOnly_un,endsD_rt,endsD_nx,startD,setSl_ow,setSl_io,ownD_ow,ownD_io,ownD_fr,ownD_un,capE,capD_none,capD_some,capSl_fr,capSl_ow,capSl_io,capSl_un,seqOf_list,seqOf_tuple,truD_none,truD_bool,truD_int,truD_list,truD_tuple,isNn_none,isNn_int,isNn_bool,isNn_list,isNn_tuple,intsOf_map,boolsOf_map,eqv_ints,atI_c0,atI_c1,atI_c2,atI_c3,atI_c4,atI_c5,atI_c6,atI_c7,eqv_none,eqv_ni,eqv_in,shp_int,shp_none,shp_bool,List.map_cons,List.map_nil,List.length_cons,List.length_nil,List.cons_append,List.nil_append,List.append_nil,List.replicate_succ,List.replicate_zero,List.set_cons_succ,List.set_cons_zero,List.getElem?_cons_zero,List.getElem?_cons_succ,List.getElem?_nil,List.take_succ_cons,List.take_zero,List.take_nil,List.drop_succ_cons,List.drop_zero,List.drop_nil,Option.some.injEq,Option.bind_some,Option.bind_none,Option.map_some,Option.map_none,Sl.fr.injEq,Sl.ow.injEq,Sl.io.injEq,Sl.vw.injEq,PyData.int.injEq,PyData.bool.injEq,PyData.list.injEq,PyData.tuple.injEq,PyData.str.injEq,List.cons.injEq,reduceCtorEq,and_true,true_and,and_false,false_and,and_assoc,exists_eq_left',exists_eq_left,exists_and_left,exists_eq',exists_eq,exists_false,exists_const,Nat.reduceSub,Nat.reduceAdd,Nat.reduceLT,Nat.zero_add,Nat.lt_add_left_iff_pos,decide_eq_true_eq,ite_true,ite_false,Bool.false_eq_true,if_true,if_false,Bool.not_eq_true',Bool.not_eq_true,decide_eq_false_iff_not,Int.zero_add,String.reduceBEq,Bool.true_and,Bool.and_true,Bool.or_false,Bool.false_or,Bool.or_true,Bool.true_or,Bool.and_false,Bool.false_and,Bool.not_true,Bool.not_false,id_eq,Sl.ctorIdx,Nat.succ_eq_add_one".splitOn ",").toArray.mapM fun s => `(Lean.Parser.Tactic.simpLemma| $(Lean.mkIdent s.toName):ident))
 let h:=Lean.mkIdent `hW
 `(tactic| (refine' (?wf : Wk _ _) ?we ?wk ?wq; (case we => (intro $h:ident; simp only [$l,*] at $h:ident; exact $h)); (case wf => exact fun _ k q => k q); (case wk => (intro $h:ident; walk_at "wa"))))
local macro_rules | `(tactic| walk_at "wh") => do
 let h:=Lean.mkIdent `hW
 `(tactic| repeat (first | (with_reducible refine Exists.elim $h fun _ $h => ?_) | ((with_reducible refine And.elim (fun e $h => ?_) $h); try subst e)))
local macro_rules | `(tactic| walk_at "ev") => do
 let l ← ("ev_op,ev_var,ev_c,e2_I,e2_IC,e2_B,ev_cb,ev_cons,ev_nil,ev_tup,ev_lst,ev_frz,ev_opL,ev_un,ev_catT,ev_slL,ev_no,ev_part,ev_test,e2_isN,e2_notN,e2_ix,e1_neg,eB_len,eB_min,eL_cat,ei_list,ei_tup,ei_rng1,ei_enum".splitOn ",").toArray.mapM fun s => `(Lean.Parser.Tactic.tacticSeq| with_reducible apply $(Lean.mkIdent s.toName))
 `(tactic| ((repeat' (first $[| $l]* | walk_at "wc")); done))
local macro_rules | `(tactic| walk_at "wc") => `(tactic| first | exact rfl | with_reducible assumption | exact of_decide_eq_true rfl | exact le_line rfl | ((first | (with_reducible show _ ≤ sizeLine) | (with_reducible show _ < sizeLine) | (with_reducible show _ = _) | (with_reducible show shp _)); assumption))
local macro_rules | `(tactic| walk_at "wa") => do
 let h:=Lean.mkIdent `hW
 let l ← ("ws_app,ws_set,ws_ret,ws_ifs,ws_for,w_call,w_callS,w_comp".splitOn ",").toArray.mapM fun s => `(Lean.Parser.Tactic.tacticSeq| (with_reducible apply $(Lean.mkIdent s.toName)); focus walk_at "ev")
 let m ← ("ws_seq,wg_name,wk_K,wx_set,wx_ret,wx_drop".splitOn ",").toArray.mapM fun s => `(Lean.Parser.Tactic.tacticSeq| with_reducible apply $(Lean.mkIdent s.toName))
 `(tactic| (walk_at "wh"; repeat' (first | exact $h $[| $l]* $[| $m]* | walk_at "wc" | apply Exists.intro | refine And.intro rfl ?_ | (refine And.intro ?_ ?_; focus walk_at "wc") | refine And.intro ⟨_, rfl⟩ ?_ | refine And.intro ⟨_, _, rfl⟩ ?_ | (intro x; replace $h:ident := $h x; walk_at "wh") | (refine wk_ite rfl (fun $h => ?_) (fun $h => ?_) $h <;> walk_at "wh"))))
local macro_rules | `(tactic| walk_at "dd") => `(tactic| first | (walk_at "d1"; try walk_at "d2") | (simp only [Int.zero_add]; walk_at "d1"; try walk_at "d2") | (walk_at "d2"))
local macro_rules | `(tactic| walk_at "dx") => `(tactic| (first | ((with_reducible refine nx ?_); try walk_at "dd") | walk_at "dd"); repeat ((with_reducible refine nx ?_); try walk_at "dd"))
noncomputable def top (i:Nat):Stmt:=PySem.Challenge.pw_windround_k13_whole_shut_out_stands_stil.main.body.getD i (.Pass ⟨0,0,0,0⟩)
section
variable {P:Program}{w:World}{K:PySem.W.Frag}{mg:Str→Option Value}{base:Heap}
noncomputable abbrev s__law_pop:Stmt:=top 13
theorem sc__law_pop:FnScope ["_law_draws_here"] ["_law_draws_here"] (defScope s__law_pop):=⟨rfl,rfl,rfl,by decide +kernel,rfl,by decide +kernel,by decide +kernel⟩
noncomputable def popV (ds:List Int):Int:=ds.getLastD 0
noncomputable def spPop:DSp:=fun ss R=>∃ ds:List Int,ss=[.io (li ds)]∧R (.fr (.int (popV ds))) [.io (li ds.dropLast)]
theorem eqv_li (a b:List Int):PyData.eqv (.list (li a)) (.list (li b))=decide (a=b):=eqv_I a b
theorem last_li {ds:List Int} (h:ds≠[]):(li ds).getLast? = some (.int (popV ds)):=by
 unfold popV
 rw [List.getLast?_map,List.getLastD_eq_getLast?]
 cases e:ds.getLast? with
 | none=>exact absurd (List.getLast?_eq_none_iff.mp e) h
 | some x=>rfl
theorem drop_li (ds:List Int):(li ds).dropLast=li ds.dropLast:=by simp[List.map_dropLast]
theorem bi__law_pop {f:Addr}{fd:FuncData} (F:Fun K "_law_pop" "_law_pop" s__law_pop f fd):Binds K fd ["_law_draws_here"] []:=F.binds (ps:=["_law_draws_here"]) fun _ _ _ _ _ _ us hl=>us1 (Q:=fun us=>bindArgs _ ⟨us,[]⟩=pure (List.zip _ us)) hl fun _=>rfl
theorem ok__law_pop {f:Addr}{fd:FuncData} (F:Fun K "_law_pop" "_law_pop" s__law_pop f fd) (B:Bn mg):FnOk P w K mg base CX0 1 f fd ["_law_draws_here"] (spD K spPop):=by
 refine okD (k:=0) F sc__law_pop (fun ss R h=>?_) (by decide) (fun cdv A outer s H E hr=>⟨_,(qs_cons (q_if (qt_cmp (kEqD (K:=K) rfl hr.units) mEq (qv 0) (q_lst qa_nil) (nomark _)) (qs_one (q_ret q_int)) qs_nil)
   (qs_one (q_ret (q_pop 0 (K:=K) rfl rfl)))),fun ss R h=>?_⟩)
 ·obtain ⟨ds,rfl,_⟩:=h
  rfl
 obtain ⟨ds,rfl,q⟩:=h
 walk_at "dd"
 refine ⟨Nat.zero_le _,(Sh.ints 0 ds).shp (by decide),(Sh.ints 0 []).shp (by decide),?_⟩
 rw [show PyData.list []=PyData.list (li []) from rfl,eqv_li]
 by_cases e:ds=[]
 ·subst e
  rw [if_pos (by simp)]
  exact q
 ·rw [if_neg (by simp[e])]
  exact ⟨_,last_li e,by rw[drop_li];exact q⟩
theorem cut_li (ns:List Int) (a b:Option Int):cutD (li ns) a b=li ((ns.drop (HT.sIx ns.length 0 a)).take (HT.sIx ns.length ns.length b - HT.sIx ns.length 0 a)):=by
 unfold cutD
 show (List.drop _ (List.map PyData.int ns)).take _=List.map PyData.int _
 rw [List.length_map,List.map_take,List.map_drop]
theorem cut_from (ns:List Int) (c:Nat):cutD (li ns) (some (c:Int)) none=li (ns.drop c):=by
 rw [cut_li,HT.sIx_none,HT.sIx_nat]
 by_cases h:c≤ns.length
 ·rw [Nat.min_eq_left h,List.take_of_length_le (by simp)]
 ·rw [Nat.min_eq_right (by omega),List.drop_of_length_le (Nat.le_refl _),List.drop_of_length_le (by omega)]
  simp
noncomputable def RB (rs:List (List Int)):Prop:=rs.length≤1000∧∀ r∈rs,r.length≤1000
theorem getD_memL {l:List (List Int)}{k:Nat} (h:k<l.length):l.getD k []∈l:=by
 rw [List.getD_eq_getElem?_getD,List.getElem?_eq_getElem h]
 exact List.getElem_mem h
theorem RB.pl {rs:List (List Int)} (h:RB rs) (n:Nat):Pl (n+2) (.list (lr rs)):=Pl.lr n (by have:=h.1;omega) fun r hr=>by have:=h.2 r hr;omega
noncomputable abbrev s__law_mix:Stmt:=top 11
theorem sc__law_mix:FnScope ["_law_cell", "_law_turn", "_law_number"] ["_law_cell", "_law_turn"] (defScope s__law_mix):=⟨rfl,rfl,rfl,by decide +kernel,rfl,by decide +kernel,by decide +kernel⟩
noncomputable def spMix:DSp:=fun ss R=>∃ c t:Int,ss=[.fr (.int c),.fr (.int t)]∧0≤t∧t<100000∧∀ x:Int,0≤x→x<2147483648→R (.fr (.int x)) [.un,.un]
theorem bi__law_mix {f:Addr}{fd:FuncData} (F:Fun K "_law_mix" "_law_mix" s__law_mix f fd):Binds K fd ["_law_cell", "_law_turn"] []:=F.binds (ps:=["_law_cell", "_law_turn"]) fun _ _ _ _ _ _ us hl=>us2 (Q:=fun us=>bindArgs _ ⟨us,[]⟩=pure (List.zip _ us)) hl fun _ _=>rfl
theorem ok__law_mix {f:Addr}{fd:FuncData} (F:Fun K "_law_mix" "_law_mix" s__law_mix f fd) (B:Bn mg):FnOk P w K mg base CX0 1 f fd ["_law_cell", "_law_turn"] (spD K spMix):=by
 refine okD (k:=0) F sc__law_mix (fun ss R h=>?_) (by decide) (fun cdv A outer s H E hr=>⟨_,(qs_cons (q_set (i:=2) sc__law_mix.nd rfl (Or.inl rfl) (q_op op_mod mIC (q_op op_mul mIC (q_op op_add mI (q_op op_add mI (q_op op_mod mIC (qv 0) q_int) (q_op op_mul mIC (q_op op_mul mIC (qv 1) (qv 1)) q_int)) q_int) q_int) q_int))
   (qs_one (q_ret (q_op op_mod mIC (q_op op_add mI (q_op op_mul mIC (qv 2) (qv 2)) (q_op op_mul mIC q_int (qv 1))) q_int)))),fun ss R h=>?_⟩)
 ·obtain ⟨c,t,rfl,_⟩:=h
  rfl
 obtain ⟨c,t,rfl,h0,h1,q⟩:=h
 walk_at "dx"
 have a1:=Int.emod_nonneg ((c % 2147483647+t*t*7919+104729)*48271) (show (2147483647:Int)≠0 by decide)
 have a2:=Int.emod_lt_of_pos ((c % 2147483647+t*t*7919+104729)*48271) (show (0:Int)<2147483647 by decide)
 refine ⟨by decide,cmul_l (by omega) (by omega),cmul_r (by decide) (by decide),cmul_r (by decide) (by decide),by decide,?_⟩
 have b1:=Int.emod_nonneg ((c % 2147483647+t*t*7919+104729)*48271 % 2147483647*((c % 2147483647+t*t*7919+104729)*48271 % 2147483647)+69621*t) (show (2147483629:Int)≠0 by decide)
 have b2:=Int.emod_lt_of_pos ((c % 2147483647+t*t*7919+104729)*48271 % 2147483647*((c % 2147483647+t*t*7919+104729)*48271 % 2147483647)+69621*t) (show (0:Int)<2147483629 by decide)
 exact ⟨cmul_l (by omega) (by omega),cmul_l (by decide) (by decide),by decide,q _ b1 (by omega)⟩
noncomputable abbrev s__law_draws:Stmt:=top 12
theorem sc__law_draws:FnScope ["_law_script", "_law_turn", "_law_many", "_law_cells", "_law_found", "_law_k", "_law_at", "_law_number", "_law_cell"] ["_law_script", "_law_turn", "_law_many"] (defScope s__law_draws):=⟨rfl,rfl,rfl,by decide +kernel,rfl,by decide +kernel,by decide +kernel⟩
noncomputable def Ds (l:List Int):Prop:=∀ x∈l,0≤x∧x<2147483648
theorem Ds.app {l:List Int}{x:Int} (h:Ds l) (h0:0≤x) (h1:x<2147483648):Ds (l++[x]):=fun y hy=>by
 rcases List.mem_append.mp hy with hy|hy
 ·exact h y hy
 ·rw [List.mem_singleton.mp hy];exact⟨h0,h1⟩
theorem Ds.drop {l:List Int} (h:Ds l):Ds l.dropLast:=fun x hx=>h x (mem_dropLast hx)
theorem Ds.pop {l:List Int} (h:Ds l):0≤popV l∧popV l<2147483648:=by
 unfold popV
 rw [List.getLastD_eq_getLast?]
 cases e:l.getLast? with
 | none=>exact⟨Int.le_refl 0,by decide⟩
 | some x=>exact h x (List.mem_of_getLast? e)
noncomputable def spDraws:DSp:=fun ss R=>∃ (ns:List Int) (t m:Nat),ss=[.fr (.list (li ns)),.fr (.int t),.fr (.int m)]∧ns.length≤63∧t≤5000∧m≤5000∧∀ l,Ds l→R (.ow (li l)) [.un,.un,.un]
theorem cut63 (ns:List Int) (h:ns.length≤63):cutD (li ns) none (some 63)=li ns:=by
 unfold cutD
 have e:HT.sIx (li ns).length (li ns).length (some 63)=min 63 (li ns).length:=HT.sIx_nat _ _ 63
 rw [e,HT.sIx_none,List.length_map,List.drop_zero,Nat.sub_zero,Nat.min_eq_right h]
 exact List.take_of_length_le (by simp)
theorem bi__law_draws {f:Addr}{fd:FuncData} (F:Fun K "_law_draws" "_law_draws" s__law_draws f fd):Binds K fd ["_law_script", "_law_turn", "_law_many"] []:=F.binds (ps:=["_law_script", "_law_turn", "_law_many"]) fun _ _ _ _ _ _ us hl=>us3 (Q:=fun us=>bindArgs _ ⟨us,[]⟩=pure (List.zip _ us)) hl fun _ _ _=>rfl
theorem ok__law_draws {f:Addr}{fd:FuncData} (F:Fun K "_law_draws" "_law_draws" s__law_draws f fd) (B:Bn mg) (G__law_mix:Cal P w K mg base "_law_mix" 1 (spD K spMix)):FnOk P w K mg base CX0 2 f fd ["_law_script", "_law_turn", "_law_many"] (spD K spDraws):=by
 refine okD (k:=1) F sc__law_draws (fun ss R h=>?_) (by decide) (fun cdv A outer s H E hr=>⟨_,(qs_bar (q_set (i:=3) sc__law_draws.nd rfl (Or.inr rfl) (q_opL (op_catS (K:=K) rfl) mCat (q_slL (K:=K) rfl (qv 0) qo_none (qo_some q_int)) (q_lst (qa_cons (qf 1) qa_nil))))
   (qs_bar (q_if (qt_cmp op_eq mEqI (q_op op_mod mIC (q_op op_fdiv mIC (q_ix (ix_any (K:=K) rfl) mIx (qv 3) q_int (fun _ _=>rfl)) q_int) q_int) q_int (nomark _)) (qs_bar (q_set (i:=4) sc__law_draws.nd rfl (Or.inl rfl) (q_lst qa_nil))
   (qs_bar (q_for PassesOwn.never rfl (qi_rng1 rfl B.range (qa_cons (q_op op_add mI (q_op op_fdiv mIC (qv 1) q_int) (qv 2)) qa_nil)) (qg_name (i:=5) sc__law_draws.nd rfl (Or.inl rfl)) (qs_bar (q_set (i:=6) sc__law_draws.nd rfl (Or.inl rfl) (q_op op_mod mIC (qv 5) (q_cb (kLen (K:=K) rfl) mLen rfl B.len PySem.boot_len (qa_cons (qv 3) qa_nil))))
   (qs_bar (q_expr (q_app 4 (K:=K) rfl rfl (q_op op_mod mIC (q_ix (ix_any (K:=K) rfl) mIx (qv 3) (qv 6) (fun _ _=>rfl)) q_int)))
   (qs_one (q_setIx 3 rfl (qv 6) (q_op op_fdiv mIC (q_ix (ix_any (K:=K) rfl) mIx (qv 3) (qv 6) (fun _ _=>rfl)) q_int))))))
   (qs_one (q_ret (q_slL (K:=K) rfl (qv 4) (qo_some (q_op op_fdiv mIC (qv 1) q_int)) qo_none))))) qs_nil)
   (qs_bar (q_set (i:=7) sc__law_draws.nd rfl (Or.inr rfl) (qf 1))
   (qs_bar (q_for PassesOwn.never rfl (qi_enum false (K:=K) rfl rfl B.enumerate (qa_cons (qf 3) qa_nil)) (qg_tup (K:=K) (n:=2) rfl rfl (qgs_cons (qg_name (i:=5) sc__law_draws.nd rfl (Or.inl rfl)) (qgs_cons (qg_name (i:=8) sc__law_draws.nd rfl (Or.inl rfl)) qgs_nil))) (qs_one (q_set (i:=7) sc__law_draws.nd rfl (Or.inr rfl) (q_op op_mod mIC (q_op op_add mI (q_op op_mul mIC (qv 7) q_int) (q_call G__law_mix (hr.mono (by decide)) rfl (qa_cons (qf 8) (qa_cons (q_op op_add mI (qv 5) (qv 1)) qa_nil)))) q_int))))
   (qs_one (q_ret (q_comp (N':=["_law_k", "_law_turn", "_law_cells", "_law_number"]) (ix:=[none,some 1,some 3,some 7]) rfl (bs_of (N:=["_law_script", "_law_turn", "_law_many", "_law_cells", "_law_found", "_law_k", "_law_at", "_law_number", "_law_cell"]) (sc0:=defScope s__law_draws) rfl rfl (by decide +kernel)) (qi_rng1 rfl B.range (qa_cons (qv 2) qa_nil)) (fun _ _ _ _=>(qg_name (i:=0) (show List.Nodup (["_law_k", "_law_turn", "_law_cells", "_law_number"]:List Str) by decide +kernel) rfl (Or.inl rfl))) (fun _ _ _ _=>qif_nil) (fun _ _ _ _=>(q_call G__law_mix (hr.mono (by decide)) rfl (qa_cons (q_ix (ix_any (K:=K) rfl) mIx (qv 2) (q_op op_mod mIC (qv 0) (q_cb (kLen (K:=K) rfl) mLen rfl B.len PySem.boot_len (qa_cons (qv 2) qa_nil))) (fun _ _=>rfl)) (qa_cons (q_op op_add mI (q_op op_add mI (q_op op_mod mIC (qv 3) q_int) (qv 0)) (qv 1)) qa_nil))))))))))),fun ss R h=>?_⟩)
 ·obtain ⟨ns,t,m,rfl,_⟩:=h
  rfl
 obtain ⟨ns,t,m,rfl,h63,ht,hm,q⟩:=h
 walk_at "dx"
 rw [cut63 ns h63]
 have ec:li ns++[PyData.int (t:Int)]=li (ns++[(t:Int)]):=by simp
 rw [ec]
 obtain ⟨cs,hcs⟩:∃ cs:List Int,cs=ns++[(t:Int)]:=⟨_,rfl⟩
 have hlen:cs.length=ns.length+1:=by rw[hcs];simp
 rw [←hcs]
 refine ⟨Nat.le_trans (by decide) line_big,?_,?_⟩
 ·rw [List.length_map]
  exact Nat.le_trans (by omega) line_big
 walk_at "dx"
 refine ⟨_,atI_li (k:=0) (by omega),?_⟩
 walk_at "dx"
 refine ⟨⟨by decide,by decide⟩,by decide,ite2 (fun _=>?_) (fun _=>?_)⟩
 ·have e4:(t:Int) / 4=((t / 4:Nat):Int):=rfl
  refine ⟨Nat.zero_le _,?_⟩
  walk_at "dx"
  refine ⟨⟨by decide,by decide⟩,by omega,by omega,fd_intro (fun i env=>∃ (fs ls:List Int) (kv av:Sl),env=[.fr (.list (li ns)),.fr (.int t),.fr (.int m),.ow (li ls),.ow (li fs),kv,av,.un,.un]∧ls.length=cs.length∧fs.length=i∧Ds fs) ⟨[],cs,_,_,rfl,rfl,rfl,fun x hx=>by cases hx⟩ ?_ ?_⟩
  ·rintro i env hi ⟨fs,ls,kv,av,rfl,hl,hf,hd⟩
   rw [rangeD_len] at hi
   rw [rangeD_get]
   have hmod:i % ls.length<ls.length:=Nat.mod_lt _ (by omega)
   walk_at "dx"
   rw [List.length_map]
   have ei:((i:Nat):Int) % ((ls.length:Nat):Int)=((i % ls.length:Nat):Int):=rfl
   rw [ei]
   refine ⟨by omega,?_⟩
   walk_at "dx"
   refine ⟨_,atI_li hmod,?_⟩
   walk_at "dx"
   refine ⟨by decide,by rw[List.length_map,hf];exact Nat.lt_of_lt_of_le (by omega) line_big,?_⟩
   walk_at "dx"
   refine ⟨_,atI_li hmod,?_⟩
   walk_at "dx"
   have b1:=Int.emod_nonneg (ls.getD (i % ls.length) 0) (show (1000003:Int)≠0 by decide)
   have b2:=Int.emod_lt_of_pos (ls.getD (i % ls.length) 0) (show (0:Int)<1000003 by decide)
   exact ⟨⟨by decide,by decide⟩,_,ixN_nat (by rw[List.length_map];exact hmod),fs++[ls.getD (i % ls.length) 0 % 1000003],ls.set (i % ls.length) (ls.getD (i % ls.length) 0 / 1000003),li_set _ _ _,by simp,by rw[List.length_set];exact hl,by simp[hf],hd.app b1 (by omega)⟩
  ·rintro env ⟨fs,ls,kv,av,rfl,hl,hf,hd⟩
   walk_at "dx"
   rw [e4,cut_from]
   exact ⟨⟨by decide,by decide⟩,q _ fun x hx=>hd x (List.mem_of_mem_drop hx)⟩
 ·walk_at "dx"
  refine fd_intro (fun i env=>∃ (n:Int) (kv cv:Sl),env=[.fr (.list (li ns)),.fr (.int t),.fr (.int m),.fr (.list (li cs)),.un,kv,.un,.fr (.int n),cv]∧0≤n∧n<2147483648) ⟨t,_,_,rfl,by omega,by omega⟩ ?_ ?_
  ·rintro i env hi ⟨n,kv,cv,rfl,n0,n1⟩
   rw [enumD_get,li_get]
   rw [enumD_len,List.length_map] at hi
   walk_at "dx"
   refine ⟨cmul_l (by omega +splitDisjunctions) (by omega +splitDisjunctions),_,_,rfl,by omega +splitDisjunctions,by omega +splitDisjunctions,fun x x0 x1=>?_⟩
   walk_at "dx"
   have b1:=Int.emod_nonneg (n*31+x) (show (2147483629:Int)≠0 by decide)
   have b2:=Int.emod_lt_of_pos (n*31+x) (show (0:Int)<2147483629 by decide)
   exact ⟨by decide,b1,by omega⟩
  ·rintro env ⟨n,kv,cv,rfl,n0,n1⟩
   walk_at "dx"
   refine ⟨by omega +splitDisjunctions,by omega +splitDisjunctions,cd_all (fun d=>∃ x:Int,d=.int x∧0≤x∧x<2147483648) (by rw[rangeD_len];omega) (fun i hi Q hQ=>?_) fun rs _ hrs=>?_⟩
   ·rw [rangeD_len] at hi
    rw [rangeD_get]
    walk_at "dx"
    rw [List.length_map]
    have hmod:i % cs.length<cs.length:=Nat.mod_lt _ (by omega)
    rw [show ((i:Nat):Int) % ((cs.length:Nat):Int)=((i % cs.length:Nat):Int) from rfl]
    have b1:=Int.emod_nonneg n (show (1009:Int)≠0 by decide)
    have b2:=Int.emod_lt_of_pos n (show (0:Int)<1009 by decide)
    refine ⟨by omega,_,atI_li hmod,by decide,_,_,rfl,by omega,by omega,fun x x0 x1=>?_⟩
    walk_at "dx"
    exact hQ _ ⟨x,rfl,x0,x1⟩
   ·obtain ⟨l,rfl,hl⟩:=all_ints hrs
    walk_at "dx"
    exact q l hl
noncomputable abbrev s__law_town:Stmt:=top 14
theorem sc__law_town:FnScope ["_law_draws_here", "_law_most", "_law_number", "_law_hands", "_law_left", "_law_spans", "_law_k"] ["_law_draws_here", "_law_most"] (defScope s__law_town):=⟨rfl,rfl,rfl,by decide +kernel,rfl,by decide +kernel,by decide +kernel⟩
noncomputable def TB (s o:List Int):Prop:=1≤s.length∧s.length≤6∧1≤o.length∧o.length≤6∧(∀ x∈s,1≤x∧x≤12)∧(∀ x∈o,0≤x∧x≤6)∧(s.length≤4∨∀ x∈o,x≤2)
noncomputable def prodI:List Int→Nat
 | []=>1
 | x::s=>x.toNat*prodI s
theorem prodI_snoc (s:List Int) (x:Int):prodI (s++[x])=prodI s*x.toNat:=by
 induction s with
 | nil=>show x.toNat*1=1*x.toNat;omega
 | cons y s ih=>show y.toNat*prodI (s++[x])=y.toNat*prodI s*x.toNat;rw[ih,Nat.mul_assoc]
theorem left_div {L l q p:Nat} (h:L*p≤q) (hl:l≤L) (y:Nat) (e:L / y*y≤L):L / y*(p*y)≤q:=by
 rw [←Nat.mul_assoc,Nat.mul_right_comm]
 exact Nat.le_trans (Nat.mul_le_mul_right _ e) h
noncomputable def spTown:DSp:=fun ss R=>∃ (l:List Int) (m:Nat),ss=[.io (li l),.fr (.int m)]∧Ds l∧6≤m∧m≤100000∧∀ s o l':List Int,Ds l'→TB s o→o.length*prodI s≤m→R (.fr (.tuple [.list (li s),.list (li o)])) [.io (li l'),.un]
theorem atI_snoc {α:Type} (xs:List α) (v:α):atI (xs++[v]) (-1)=some v:=by
 unfold atI ixN
 rw [if_neg (by decide),if_pos (by rw[List.length_append];simp;omega)]
 show (xs++[v])[(-1+((xs++[v]).length:Int)).toNat]? = some v
 rw [show (-1+((xs++[v]).length:Int)).toNat=xs.length by rw[List.length_append];simp;omega]
 simp
theorem bi__law_town {f:Addr}{fd:FuncData} (F:Fun K "_law_town" "_law_town" s__law_town f fd):Binds K fd ["_law_draws_here", "_law_most"] []:=F.binds (ps:=["_law_draws_here", "_law_most"]) fun _ _ _ _ _ _ us hl=>us2 (Q:=fun us=>bindArgs _ ⟨us,[]⟩=pure (List.zip _ us)) hl fun _ _=>rfl
theorem ok__law_town {f:Addr}{fd:FuncData} (F:Fun K "_law_town" "_law_town" s__law_town f fd) (B:Bn mg) (G__law_pop:Cal P w K mg base "_law_pop" 1 (spD K spPop)):FnOk P w K mg base CX0 2 f fd ["_law_draws_here", "_law_most"] (spD K spTown):=by
 refine okD (k:=1) F sc__law_town (fun ss R h=>?_) (by decide) (fun cdv A outer s H E hr=>⟨_,(qs_bar (q_set (i:=2) sc__law_town.nd rfl (Or.inl rfl) (q_callS 0 G__law_pop (hr.mono (by decide)) rfl (qa_cons (qv 0) qa_nil)))
   (qs_bar (q_setComp1 (i:=3) 1 0 rfl sc__law_town.nd rfl rfl (N':=["_law_k", "_law_draws_here"]) (ix:=[none,some 0]) rfl (bs_of (N:=["_law_draws_here", "_law_most", "_law_number", "_law_hands", "_law_left", "_law_spans", "_law_k"]) (sc0:=defScope s__law_town) rfl rfl (by decide +kernel)) (qi_rng1 rfl B.range (qa_cons (q_op op_add mI q_int (q_op op_mod mIC (qv 2) q_int)) qa_nil)) (fun _ _ _ _=>(qg_name (i:=0) (show List.Nodup (["_law_k", "_law_draws_here"]:List Str) by decide +kernel) rfl (Or.inl rfl))) (fun _ _ _ _=>qif_nil) (fun _ _ _ _=>(q_op op_mod mIC (q_callS 0 G__law_pop (hr.mono (by decide)) rfl (qa_cons (qv 1) qa_nil)) q_int)))
   (qs_cut (q_if (qt_cmp op_gt mB (q_op op_mod mIC (q_op op_fdiv mIC (qv 2) q_int) q_int) q_int (nomark _)) (qs_one (q_setComp (i:=3)  sc__law_town.nd rfl rfl (N':=["_law_one"]) (ix:=[none]) rfl (bs_of (N:=["_law_draws_here", "_law_most", "_law_number", "_law_hands", "_law_left", "_law_spans", "_law_k"]) (sc0:=defScope s__law_town) rfl rfl (by decide +kernel)) (qi_list (K:=K) rfl (qf 3)) (fun _ _ _ _=>(qg_name (i:=0) (show List.Nodup (["_law_one"]:List Str) by decide +kernel) rfl (Or.inl rfl))) (fun _ _ _ _=>qif_nil) (fun _ _ _ _=>(q_op op_add mI q_int (q_op op_mod mIC (qv 0) q_int))))) qs_nil)
   (qs_cut (q_if (qt_cmp op_eq mEqI (q_op op_mod mIC (q_op op_fdiv mIC (qv 2) q_int) q_int) q_int (nomark _)) (qs_one (q_setComp1 (i:=3) 1 0 rfl sc__law_town.nd rfl rfl (N':=["_law_k", "_law_draws_here"]) (ix:=[none,some 0]) rfl (bs_of (N:=["_law_draws_here", "_law_most", "_law_number", "_law_hands", "_law_left", "_law_spans", "_law_k"]) (sc0:=defScope s__law_town) rfl rfl (by decide +kernel)) (qi_rng1 rfl B.range (qa_cons (q_op op_add mI q_int (q_op op_mod mIC (q_op op_fdiv mIC (qv 2) q_int) q_int)) qa_nil)) (fun _ _ _ _=>(qg_name (i:=0) (show List.Nodup (["_law_k", "_law_draws_here"]:List Str) by decide +kernel) rfl (Or.inl rfl))) (fun _ _ _ _=>qif_nil) (fun _ _ _ _=>(q_op op_mod mIC (q_callS 0 G__law_pop (hr.mono (by decide)) rfl (qa_cons (qv 1) qa_nil)) q_int)))) qs_nil)
   (qs_bar (q_set (i:=4) sc__law_town.nd rfl (Or.inl rfl) (q_op op_fdiv mIC (qv 1) (q_cb (kLen (K:=K) rfl) mLen rfl B.len PySem.boot_len (qa_cons (qv 3) qa_nil))))
   (qs_bar (q_set (i:=5) sc__law_town.nd rfl (Or.inl rfl) (q_lst qa_nil))
   (qs_bar (q_for PassesOwn.never rfl (qi_rng1 rfl B.range (qa_cons (q_op op_add mI q_int (q_op op_mod mIC (q_callS 0 G__law_pop (hr.mono (by decide)) rfl (qa_cons (qv 0) qa_nil)) (q_ix (ix_any (K:=K) rfl) mIx (q_lst (qa_cons q_int (qa_cons q_int (qa_cons q_int qa_nil)))) (q_op op_mod mIC (q_op op_fdiv mIC (qv 2) q_int) q_int) (fun _ _=>rfl)))) qa_nil)) (qg_name (i:=6) sc__law_town.nd rfl (Or.inl rfl)) (qs_bar (q_expr (q_app 5 (K:=K) rfl rfl (q_op op_add mI q_int (q_op op_mod mIC (q_callS 0 G__law_pop (hr.mono (by decide)) rfl (qa_cons (qv 0) qa_nil)) (q_cb (call_min2 rfl) mMin rfl B.min PyProof.Rows.boot_min (qa_cons q_int (qa_cons (qv 4) qa_nil)))))))
   (qs_one (q_set (i:=4) sc__law_town.nd rfl (Or.inl rfl) (q_op op_fdiv mIC (qv 4) (q_ix (ix_any (K:=K) rfl) mIx (qv 5) (q_un un_neg mNeg q_int) (fun _ _=>rfl)))))))
   (qs_one (q_ret (q_tup (qa_cons (qf 5) (qa_cons (qf 3) qa_nil)))))))))))),fun ss R h=>?_⟩)
 ·obtain ⟨l,m,rfl,_⟩:=h
  rfl
 obtain ⟨l,m,rfl,dl,hm0,hm,q⟩:=h
 walk_at "dx"
 refine ⟨l,rfl,?_⟩
 walk_at "dx"
 have p0:=dl.pop
 have dl1:=dl.drop
 generalize popV l=num at *
 generalize l.dropLast=l1 at *
 refine ⟨by decide,by omega,by omega,fun i rs l=>∃ (hds l':List Int),rs=li hds∧l=li l'∧hds.length=i∧Ds l'∧∀ x∈hds,0≤x∧x≤2,_,_,rfl,rfl,⟨[],l1,rfl,rfl,rfl,dl1,by simp⟩,?_,?_⟩
 ·rintro i rs l hi ⟨hds,l',rfl,rfl,hl,dl',hh⟩
  rw [rangeD_len] at hi
  rw [rangeD_get]
  refine ⟨by rw[List.length_map,hl];exact Nat.lt_of_lt_of_le (by omega) line_big,_,rfl,?_⟩
  walk_at "dx"
  refine ⟨l',rfl,?_⟩
  walk_at "dx"
  refine ⟨by decide,hds++[popV l' % 3],by simp,l'.dropLast,rfl,by simp[hl],dl'.drop,fun x hx=>?_⟩
  rcases List.mem_append.mp hx with hx|hx
  ·exact hh x hx
  ·rw [List.mem_singleton.mp hx];omega
 rintro rs l ⟨hds,l2,rfl,rfl,hl,dl2,hh⟩
 rw [rangeD_len] at hl
 refine ⟨_,rfl,?_⟩
 walk_at "dx"
 refine ⟨fun env=>∃ hs:List Int,env=[.io (li l2),.fr (.int m),.fr (.int num),.ow (li hs),.un,.un,.un]∧1≤hs.length∧hs.length≤6∧∀ x∈hs,0≤x∧x≤2,?_,?_⟩
 ·walk_at "dx"
  refine ⟨⟨by decide,by decide⟩,by decide,ite2 (fun _=>?_) (fun _=>⟨hds,rfl,by omega,by omega,hh⟩)⟩
  refine cd_all (fun d=>∃ x:Int,d=.int x∧0≤x∧x≤2) (by rw[List.length_map];omega) (fun i hi Q hQ=>?_) fun rs hl2 hrs=>?_
  ·rw [li_get]
   walk_at "dx"
   exact ⟨by decide,hQ _ ⟨_,rfl,by omega,by omega⟩⟩
  ·obtain ⟨hs,rfl,hhs⟩:=all_ints hrs
   walk_at "dx"
   rw [List.length_map,List.length_map] at hl2
   exact ⟨hs,rfl,by omega,by omega,hhs⟩
 rintro env ⟨hs,rfl,h1,h6,hhs⟩
 refine ⟨fun env=>∃ (hs l3:List Int),env=[.io (li l3),.fr (.int m),.fr (.int num),.ow (li hs),.un,.un,.un]∧Ds l3∧1≤hs.length∧hs.length≤6∧(∀ x∈hs,0≤x∧x≤6)∧(num / 27 % 3=1∨∀ x∈hs,x≤2),?_,?_⟩
 ·walk_at "dx"
  refine ⟨⟨by decide,by decide⟩,by decide,ite2 (fun c4=>?_) (fun _=>⟨hs,l2,rfl,rfl,dl2,h1,h6,fun x hx=>by have:=hhs x hx;omega,.inr fun x hx=>(hhs x hx).2⟩)⟩
  refine ⟨⟨by decide,by decide⟩,by decide,by omega,by omega,fun i rs l=>∃ (hds l':List Int),rs=li hds∧l=li l'∧hds.length=i∧Ds l'∧∀ x∈hds,0≤x∧x≤6,_,_,rfl,rfl,⟨[],l2,rfl,rfl,rfl,dl2,by simp⟩,?_,?_⟩
  ·rintro i rs l hi ⟨hds,l',rfl,rfl,hl,dl',hh⟩
   rw [rangeD_len] at hi
   rw [rangeD_get]
   refine ⟨by rw[List.length_map,hl];exact Nat.lt_of_lt_of_le (by omega) line_big,_,rfl,?_⟩
   walk_at "dx"
   refine ⟨l',rfl,?_⟩
   walk_at "dx"
   refine ⟨by decide,hds++[popV l' % 7],by simp,l'.dropLast,rfl,by simp[hl],dl'.drop,fun x hx=>?_⟩
   rcases List.mem_append.mp hx with hx|hx
   ·exact hh x hx
   ·rw [List.mem_singleton.mp hx];omega
  rintro rs l ⟨hd2,l3,rfl,rfl,hl,dl3,hh⟩
  rw [rangeD_len] at hl
  refine ⟨_,rfl,?_⟩
  walk_at "dx"
  exact ⟨hd2,l3,rfl,rfl,dl3,by omega,by omega,hh,.inl (by omega)⟩
 rintro env ⟨hs,l3,rfl,dl3,h1,h6,hh6,h27⟩
 walk_at "dx"
 rw [List.length_map]
 obtain ⟨c,ec,c3,c6,c4⟩:∃ c:Int,atI [PyData.int 3,PyData.int 4,PyData.int 6] (num / 27 % 3)=some (.int c)∧3≤c∧c≤6∧(num / 27 % 3=1→c=4):=by
  have:num / 27 % 3=0∨num / 27 % 3=1∨num / 27 % 3=2:=by omega
  rcases this with e|e|e
  ·rw [e];exact⟨3,rfl,by decide,by decide,by decide⟩
  ·rw [e];exact⟨4,rfl,by decide,by decide,fun _=>rfl⟩
  ·rw [e];exact⟨6,rfl,by decide,by decide,by decide⟩
 have hp:=dl3.pop
 have hd4:=dl3.drop
 refine ⟨⟨by omega +splitDisjunctions,by omega +splitDisjunctions⟩,?_⟩
 walk_at "dx"
 refine ⟨Nat.zero_le _,?_⟩
 walk_at "dx"
 refine ⟨l3,rfl,?_⟩
 walk_at "dx"
 refine ⟨Nat.le_trans (by decide) line_big,⟨by decide,by decide⟩,by decide,_,ec,_,rfl,by omega +splitDisjunctions,?_⟩
 generalize popV l3=p3 at *
 generalize l3.dropLast=l4 at *
 have u0:=Int.emod_nonneg p3 (show c≠0 by omega)
 have u1:=Int.emod_lt_of_pos p3 (show 0<c by omega)
 have m1:1≤(m:Int) / (hs.length:Int):=by
  rw [Int.le_ediv_iff_mul_le (by omega)]
  omega
 have m2:hs.length*(((m:Int) / (hs.length:Int)).toNat*prodI [])≤m:=by
  show hs.length*(((m / hs.length:Nat):Int).toNat*1)≤m
  rw [Int.toNat_natCast,Nat.mul_one]
  exact Nat.mul_div_le _ _
 refine ⟨by omega,by omega,fd_intro (fun i env=>∃ (l sp:List Int) (left:Int) (kv:Sl),env=[.io (li l),.fr (.int m),.fr (.int num),.ow (li hs),.fr (.int left),.ow (li sp),kv]∧Ds l∧sp.length=i∧1≤left∧hs.length*(left.toNat*prodI sp)≤m∧∀ x∈sp,1≤x∧x≤12) ⟨l4,[],_,_,rfl,hd4,rfl,m1,m2,by simp⟩ ?_ ?_⟩
 ·rintro i env hi ⟨l,sp,left,kv,rfl,dl,hl,l1,hpr,hsp⟩
  rw [rangeD_len] at hi
  rw [rangeD_get]
  walk_at "dx"
  refine ⟨l,rfl,?_⟩
  walk_at "dx"
  have dl':=dl.drop
  generalize popV l=p at *
  generalize l.dropLast=l5 at *
  obtain ⟨w,hw⟩:∃ w:Int,w=if left<12 then left else 12:=⟨_,rfl⟩
  rw [←hw]
  have w1:1≤w∧w≤12∧w≤left:=by
   rw [hw]
   split <;> omega
  have y0:=Int.emod_nonneg p (show w≠0 by omega)
  have y1:=Int.emod_lt_of_pos p (show 0<w by omega)
  generalize p % w=y at *
  refine ⟨by omega,by rw[List.length_map,hl];exact Nat.lt_of_lt_of_le (by omega) line_big,?_⟩
  walk_at "dx"
  refine ⟨_,atI_snoc _ _,_,rfl,⟨by omega,by omega⟩,l5,rfl,sp++[1+y],by simp,dl',by simp[hl],?_,?_,fun x hx=>?_⟩
  ·rw [Int.le_ediv_iff_mul_le (by omega)]
   omega
  ·rw [prodI_snoc]
   refine Nat.le_trans (Nat.mul_le_mul_left _ ?_) hpr
   obtain ⟨L,rfl⟩:∃ L:Nat,left=(L:Int):=⟨left.toNat,by omega⟩
   obtain ⟨Y,hY⟩:∃ Y:Nat,1+y=(Y:Int):=⟨(1+y).toNat,by omega⟩
   rw [hY,show ((L:Int) / (Y:Int)).toNat=L / Y from rfl,Int.toNat_natCast,Int.toNat_natCast]
   exact left_div (l:=0) (Nat.le_refl _) (Nat.zero_le _) Y (Nat.div_mul_le_self L Y)
  ·rcases List.mem_append.mp hx with hx|hx
   ·exact hsp x hx
   ·rw [List.mem_singleton.mp hx];omega
 ·rintro env ⟨l,sp,left,kv,rfl,dl,hl,l1,hpr,hsp⟩
  rw [rangeD_len] at hl
  walk_at "dx"
  refine ⟨Nat.le_trans (by decide) line_big,q sp hs l dl ⟨by omega,by omega,h1,h6,hsp,hh6,?_⟩ (Nat.le_trans (Nat.mul_le_mul_left _ (Nat.le_mul_of_pos_left _ (by omega))) hpr)⟩
  rcases h27 with h|h
  ·have:=c4 h
   exact .inl (by omega)
  ·exact .inr h
noncomputable def subs:Nat→List (List Int)
 | 0=>[[]]
 | k+1=>subs k++(subs k).map (·++[(k:Int)])
noncomputable def dueL (l:List Int) (n:Nat):List Int:=((List.range n).filter fun i=>decide (l.getD i 0=1)).map (Nat.cast:Nat→Int)
noncomputable def goodR (h:Int) (due r:List Int):Bool:=decide ((r.length:Int)≤h)&&decide ((due.filter fun c=>decide (c ∉ r))=[])
noncomputable def fitR (n:Nat) (h:Int) (l:List Int):List (List Int):=(subs n).filter (goodR h (dueL l n))
noncomputable def keyR (r:List Int):PyData:=.tuple [.int r.length,.list (li r)]
theorem subs_len:∀ n,(subs n).length=2 ^ n
 | 0=>rfl
 | n+1=>by
  show (subs n++(subs n).map _).length=_
  rw [List.length_append,List.length_map,subs_len n,Nat.pow_succ]
  omega
theorem subs_row:∀ n,∀ r∈subs n,r.length≤n∧r.Pairwise (·<·)∧∀ x∈r,0≤x∧x<n
 | 0,r,h=>by
  rw [List.mem_singleton.mp h]
  simp
 | n + 1,r,h=>by
  rcases List.mem_append.mp h with h|h
  ·obtain ⟨a,b,c⟩:=subs_row n r h
   exact ⟨by omega,b,fun x hx=>by have:=c x hx;omega⟩
  ·obtain ⟨r',h',rfl⟩:=List.mem_map.mp h
   obtain ⟨a,b,c⟩:=subs_row n r' h'
   refine ⟨by simp;omega,List.pairwise_append.mpr ⟨b,by simp,fun x hx y hy=>?_⟩,fun x hx=>?_⟩
   ·rw [List.mem_singleton.mp hy]
    have:=c x hx
    omega
   ·rcases List.mem_append.mp hx with hx|hx
    ·have:=c x hx;omega
    ·rw [List.mem_singleton.mp hx];omega
theorem filter_le_of {α:Type}{p q:α→Bool} (h:∀ x,p x=true→q x=true):∀ l:List α,(l.filter p).length≤(l.filter q).length
 | []=>Nat.le_refl _
 | x :: l=>by
  have ih:=filter_le_of h l
  by_cases hp:p x=true
  ·rw [List.filter_cons_of_pos hp,List.filter_cons_of_pos (h x hp)]
   simpa using ih
  ·rw [List.filter_cons_of_neg hp]
   by_cases hq:q x=true
   ·rw [List.filter_cons_of_pos hq];simp;omega
   ·rw [List.filter_cons_of_neg hq];exact ih
theorem fit_few {n:Nat}{h:Int}{l:List Int} (hn:n≤6) (hh:n≤4∨h≤3):(fitR n h l).length<64:=by
 rcases hh with h4|h2
 ·have a:=List.length_filter_le (goodR h (dueL l n)) (subs n)
  rw [subs_len] at a
  have:2 ^ n≤2 ^ 4:=Nat.pow_le_pow_right (by decide) h4
  unfold fitR
  omega
 ·have a:(fitR n h l).length≤((subs n).filter fun r=>decide (r.length≤3)).length:=filter_le_of (fun r hr=>by
   unfold goodR at hr
   rw [Bool.and_eq_true,decide_eq_true_eq] at hr
   rw [decide_eq_true_eq]
   omega) _
  have b:∀ n:Nat,n≤6→((subs n).filter fun r=>decide (r.length≤3)).length≤42:=by
   intro n hn
   match n,hn with
   | 0,_=>decide
   | 1,_=>decide
   | 2,_=>decide
   | 3,_=>decide
   | 4,_=>decide
   | 5,_=>decide +kernel
   | 6,_=>decide +kernel
  have:=b n hn
  omega
theorem getD_mem' {l:List Int}{k:Nat} (h:k<l.length):l.getD k 0∈l:=by
 rw [List.getD_eq_getElem?_getD,List.getElem?_eq_getElem h]
 exact List.getElem_mem h
noncomputable def StB (s o:List Int) (d:Nat) (l:List Int):Prop:=d<o.length∧l.length=s.length
noncomputable abbrev s__law_rows:Stmt:=top 16
theorem sc__law_rows:FnScope ["_law_town_here", "_law_standing_here", "_law_found", "_law_clocks", "_law_due", "_law_rows_here", "_law_clock", "_law_row"] ["_law_town_here", "_law_standing_here"] (defScope s__law_rows):=⟨rfl,rfl,rfl,by decide +kernel,rfl,by decide +kernel,by decide +kernel⟩
noncomputable def spRows:DSp:=fun ss R=>∃ (s o l:List Int) (d:Nat),ss=[.fr (.tuple [.list (li s),.list (li o)]),.fr (.tuple [.int d,.tuple (li l)])]∧TB s o∧StB s o d l ∧
 ∀ rr:List (List Int),rr.Perm (fitR s.length (o.getD d 0) l)→R (.ow (lr rr)) [.un,.un]
theorem bi__law_rows {f:Addr}{fd:FuncData} (F:Fun K "_law_rows" "_law_rows" s__law_rows f fd):Binds K fd ["_law_town_here", "_law_standing_here"] []:=F.binds (ps:=["_law_town_here", "_law_standing_here"]) fun _ _ _ _ _ _ us hl=>us2 (Q:=fun us=>bindArgs _ ⟨us,[]⟩=pure (List.zip _ us)) hl fun _ _=>rfl
theorem ok__law_rows {f:Addr}{fd:FuncData} (F:Fun K "_law_rows" "_law_rows" s__law_rows f fd) (B:Bn mg):FnOk P w K mg base CX0 1 f fd ["_law_town_here", "_law_standing_here"] (spD K spRows):=by
 refine okD (k:=0) F sc__law_rows (fun ss R h=>?_) (by decide) (fun cdv A outer s H E hr=>⟨_,(qs_bar (q_set (i:=2) sc__law_rows.nd rfl (Or.inl rfl) (q_lst qa_nil))
   (qs_bar (q_setComp (i:=3)  sc__law_rows.nd rfl rfl (N':=["_law_clock"]) (ix:=[none]) rfl (bs_of (N:=["_law_town_here", "_law_standing_here", "_law_found", "_law_clocks", "_law_due", "_law_rows_here", "_law_clock", "_law_row"]) (sc0:=defScope s__law_rows) rfl rfl (by decide +kernel)) (qi_rng1 rfl B.range (qa_cons (q_cb (kLen (K:=K) rfl) mLen rfl B.len PySem.boot_len (qa_cons (q_ix (ix_any (K:=K) rfl) mIx (qv 0) q_int (fun _ _=>rfl)) qa_nil)) qa_nil)) (fun _ _ _ _=>(qg_name (i:=0) (show List.Nodup (["_law_clock"]:List Str) by decide +kernel) rfl (Or.inl rfl))) (fun _ _ _ _=>qif_nil) (fun _ _ _ _=>(qf 0)))
   (qs_bar (q_setComp (i:=4)  sc__law_rows.nd rfl rfl (N':=["_law_clock", "_law_standing_here"]) (ix:=[none,some 1]) rfl (bs_of (N:=["_law_town_here", "_law_standing_here", "_law_found", "_law_clocks", "_law_due", "_law_rows_here", "_law_clock", "_law_row"]) (sc0:=defScope s__law_rows) rfl rfl (by decide +kernel)) (qi_list (K:=K) rfl (qf 3)) (fun _ _ _ _=>(qg_name (i:=0) (show List.Nodup (["_law_clock", "_law_standing_here"]:List Str) by decide +kernel) rfl (Or.inl rfl))) (fun _ _ _ _=>(qif_one (qt_cmp op_eq mEqI (q_ix (ix_any (K:=K) rfl) mIx (q_ix (ix_any (K:=K) rfl) mIx (qv 1) q_int (fun _ _=>rfl)) (qv 0) (fun _ _=>rfl)) q_int (nomark _)))) (fun _ _ _ _=>(qf 0)))
   (qs_bar (q_set (i:=5) sc__law_rows.nd rfl (Or.inl rfl) (q_lst (qa_cons (q_lst qa_nil) qa_nil)))
   (qs_bar (q_for PassesOwn.never rfl (qi_list (K:=K) rfl (qf 3)) (qg_name (i:=6) sc__law_rows.nd rfl (Or.inr rfl)) (qs_one (q_set (i:=5) sc__law_rows.nd rfl (Or.inl rfl) (q_opL (op_catS (K:=K) rfl) mCat (qv 5) (q_comp (N':=["_law_row", "_law_clock"]) (ix:=[none,some 6]) rfl (bs_of (N:=["_law_town_here", "_law_standing_here", "_law_found", "_law_clocks", "_law_due", "_law_rows_here", "_law_clock", "_law_row"]) (sc0:=defScope s__law_rows) rfl rfl (by decide +kernel)) (qi_list (K:=K) rfl (qf 5)) (fun _ _ _ _=>(qg_name (i:=0) (show List.Nodup (["_law_row", "_law_clock"]:List Str) by decide +kernel) rfl (Or.inl rfl))) (fun _ _ _ _=>qif_nil) (fun _ _ _ _=>(q_opL (op_catS (K:=K) rfl) mCat (qv 0) (q_lst (qa_cons (qf 1) qa_nil)))))))))
   (qs_bar (q_for PassesOwn.never rfl (qi_list (K:=K) rfl (qf 5)) (qg_name (i:=7) sc__law_rows.nd rfl (Or.inr rfl)) (qs_one (q_if (PW.pt (qw_and (qt_cmp op_le mB (q_cb (kLen (K:=K) rfl) mLen rfl B.len PySem.boot_len (qa_cons (qv 7) qa_nil)) (q_ix (ix_any (K:=K) rfl) mIx (q_ix (ix_any (K:=K) rfl) mIx (qv 0) q_int (fun _ _=>rfl)) (q_ix (ix_any (K:=K) rfl) mIx (qv 1) q_int (fun _ _=>rfl)) (fun _ _=>rfl)) (nomark _)) (qw_and1 (qt_cmp (kEqD (K:=K) rfl hr.units) mEq (q_comp (N':=["_law_clock", "_law_row"]) (ix:=[none,some 7]) rfl (bs_of (N:=["_law_town_here", "_law_standing_here", "_law_found", "_law_clocks", "_law_due", "_law_rows_here", "_law_clock", "_law_row"]) (sc0:=defScope s__law_rows) rfl rfl (by decide +kernel)) (qi_list (K:=K) rfl (qf 4)) (fun _ _ _ _=>(qg_name (i:=0) (show List.Nodup (["_law_clock", "_law_row"]:List Str) by decide +kernel) rfl (Or.inl rfl))) (fun _ _ _ _=>(qif_one (qt_cmp (kNotIn (K:=K) rfl) mNotIn (qv 0) (qv 1) (by with_unfolding_all rfl)))) (fun _ _ _ _=>(qf 0))) (q_lst qa_nil) (nomark _))))) (qs_one (q_expr (q_app 2 (K:=K) rfl rfl (q_tup (qa_cons (q_cb (kLen (K:=K) rfl) mLen rfl B.len PySem.boot_len (qa_cons (qv 7) qa_nil)) (qa_cons (qf 7) qa_nil)))))) qs_nil)))
   (qs_one (q_ret (q_comp (N':=["_law_many", "_law_row"]) (ix:=[none,none]) rfl (bs_of (N:=["_law_town_here", "_law_standing_here", "_law_found", "_law_clocks", "_law_due", "_law_rows_here", "_law_clock", "_law_row"]) (sc0:=defScope s__law_rows) rfl rfl (by decide +kernel)) (qi_list (K:=K) rfl (q_srt (K:=K) rfl (room80 hr) rfl B.sorted (qa_cons (qv 2) qa_nil))) (fun _ _ _ _=>(qg_tup (K:=K) (n:=2) rfl rfl (qgs_cons (qg_name (i:=0) (show List.Nodup (["_law_many", "_law_row"]:List Str) by decide +kernel) rfl (Or.inl rfl)) (qgs_cons (qg_name (i:=1) (show List.Nodup (["_law_many", "_law_row"]:List Str) by decide +kernel) rfl (Or.inl rfl)) qgs_nil)))) (fun _ _ _ _=>qif_nil) (fun _ _ _ _=>(qf 1))))))))))),fun ss R h=>?_⟩)
 ·obtain ⟨s,o,l,d,rfl,_⟩:=h
  rfl
 obtain ⟨s,o,l,d,rfl,tb,sb,q⟩:=h
 obtain ⟨t1,t2,t3,t4,t5,t6,t7⟩:=tb
 obtain ⟨s1,s2⟩:=sb
 walk_at "dx"
 refine ⟨Nat.zero_le _,?_⟩
 walk_at "dx"
 rw [List.length_map]
 refine ⟨by omega,by omega,cd_map (fun i=>.int (i:Int)) (by rw[rangeD_len];omega) (fun i hi Q hQ=>?_) ?_⟩
 ·rw [rangeD_get]
  walk_at "dx"
  exact hQ
 rw [rangeD_len,Int.toNat_natCast,li_range]
 walk_at "dx"
 refine cd_filter (fun i=>decide (l.getD i 0=1)) (fun i=>.int (i:Int)) (by simp;omega) (fun i hi Q Q' h1 h2=>?_) ?_
 ·rw [List.length_map,List.length_map,List.length_range] at hi
  rw [li_get]
  have ei:(List.map (Nat.cast:Nat→Int) (List.range s.length)).getD i 0=(i:Int):=by simp[List.getD_eq_getElem?_getD,hi]
  rw [ei]
  walk_at "dx"
  refine ⟨_,atI_li (k:=i) (by omega),?_⟩
  walk_at "dx"
  exact ite2 (fun h=>h1 (by simpa using h)) (fun h=>h2 (by simpa using h))
 walk_at "dx"
 have ed:List.map (fun (i:Nat)=>PyData.int (i:Int)) (List.filter (fun (i:Nat)=>decide (l.getD i 0=1)) (List.range (li (List.map (Nat.cast:Nat→Int) (List.range s.length))).length))=li (dueL l s.length):=by
  rw [List.length_map,List.length_map,List.length_range]
  unfold dueL
  show _=List.map _ (List.map _ _)
  rw [List.map_map]
  rfl
 rw [ed]
 refine ⟨Nat.zero_le _,Nat.le_trans (by decide) line_big,?_⟩
 walk_at "dx"
 refine fd_intro (fun i env=>∃ cv:Sl,env=[.fr (.tuple [.list (li s),.list (li o)]),.fr (.tuple [.int d,.tuple (li l)]),.ow [],.fr (.list (li (List.map (Nat.cast:Nat→Int) (List.range s.length)))),.ow (li (dueL l s.length)),.ow (lr (subs i)),cv,.un]) ⟨_,rfl⟩ ?_ ?_
 ·rintro i env hi ⟨cv,rfl⟩
  rw [List.length_map,List.length_map,List.length_range] at hi
  rw [li_get]
  have ei:(List.map (Nat.cast:Nat→Int) (List.range s.length)).getD i 0=(i:Int):=by simp[List.getD_eq_getElem?_getD,hi]
  rw [ei]
  have hz:(subs i).length≤32:=by
   rw [subs_len]
   have:2 ^ i≤2 ^ 5:=Nat.pow_le_pow_right (by decide) (by omega)
   omega
  walk_at "dx"
  refine cd_map (fun j=>.list (li ((subs i).getD j []++[(i:Int)]))) (by rw[List.length_map];omega) (fun j hj Q hQ=>?_) ?_
  ·rw [List.length_map] at hj
   rw [lr_get]
   have hr:=(subs_row i _ (getD_memL (l:=subs i) hj)).1
   walk_at "dx"
   refine ⟨Nat.le_trans (by decide) line_big,by rw[List.length_map];exact Nat.le_trans (by omega) line_big,?_⟩
   rw [li_snoc]
   exact hQ
  ·rw [List.length_map,range_mapD (subs i) [] (fun r=>PyData.list (li (r++[(i:Int)])))]
   have e:lr (subs i)++(subs i).map (fun r=>PyData.list (li (r++[(i:Int)])))=lr (subs (i+1)):=by
    show _=List.map _ (subs i++_)
    rw [List.map_append,List.map_map]
    rfl
   walk_at "dx"
   rw [e]
   refine ⟨?_,rfl⟩
   rw [List.length_map,List.length_map]
   exact Nat.le_trans (by omega) line_big
 rintro env ⟨cv,rfl⟩
 rw [List.length_map,List.length_map,List.length_range]
 walk_at "dx"
 refine fd_intro (fun i env=>∃ rv dv:Sl,env=[.fr (.tuple [.list (li s),.list (li o)]),.fr (.tuple [.int d,.tuple (li l)]),.ow ((((subs s.length).take i).filter (goodR (o.getD d 0) (dueL l s.length))).map keyR),.fr (.list (li (List.map (Nat.cast:Nat→Int) (List.range s.length)))),dv,.fr (.list (lr (subs s.length))),cv,rv]∧(dv=.ow (li (dueL l s.length))∨dv=.fr (.list (li (dueL l s.length))))) ⟨_,_,rfl,.inl rfl⟩ ?_ ?_
 ·rintro i env hi ⟨rv,dv,rfl,hdv⟩
  rw [List.length_map] at hi
  rw [lr_get]
  have hm:=getD_memL (l:=subs s.length) hi
  obtain ⟨r1,r2,r3⟩:=subs_row _ _ hm
  have et:((subs s.length).take (i+1)).filter (goodR (o.getD d 0) (dueL l s.length))=((subs s.length).take i).filter (goodR (o.getD d 0) (dueL l s.length))++(if goodR (o.getD d 0) (dueL l s.length) ((subs s.length).getD i [])=true then [(subs s.length).getD i []] else []):=by
   have eg:(subs s.length).getD i []=(subs s.length)[i]:=by simp[List.getD_eq_getElem?_getD,hi]
   rw [List.take_add_one,List.getElem?_eq_getElem hi,eg,List.filter_append]
   show _++List.filter _ [_]=_
   generalize o.getD d 0=oh
   cases hg:goodR oh (dueL l s.length) (subs s.length)[i] <;> simp[hg]
  rw [et]
  have hz:(((subs s.length).take i).filter (goodR (o.getD d 0) (dueL l s.length))).length≤64:=by
   refine Nat.le_trans (List.length_filter_le _ _) ?_
   rw [List.length_take,subs_len]
   have:2 ^ s.length≤2 ^ 6:=Nat.pow_le_pow_right (by decide) t2
   omega
  generalize ((subs s.length).take i).filter (goodR (o.getD d 0) (dueL l s.length))=fs at *
  generalize (subs s.length).getD i []=r at *
  have hdz:(dueL l s.length).length≤6:=by
   unfold dueL
   rw [List.length_map]
   refine Nat.le_trans (List.length_filter_le _ _) ?_
   rw [List.length_range]
   exact t2
  rcases hdv with rfl|rfl
  all_goals
   walk_at "dx"
   refine ⟨_,atI_li s1,?_⟩
   walk_at "dx"
   rw [List.length_map]
   refine ite2 (fun hlen=>?_) (fun hlen=>?_)
   rotate_left
   ·have eg:goodR (o.getD d 0) (dueL l s.length) r=false:=by
     unfold goodR
     rw [decide_eq_false hlen,Bool.false_and]
    rw [eg,if_neg (by decide),List.append_nil]
    exact ⟨rfl,by simp⟩
   refine cd_filter (fun j=>decide ((dueL l s.length).getD j 0 ∉ r)) (fun j=>.int ((dueL l s.length).getD j 0)) (by rw[List.length_map];omega) (fun j hj Q Q' h1 h2=>?_) ?_
   ·rw [li_get]
    walk_at "dx"
    generalize (dueL l s.length).getD j 0=c at *
    exact ite2 (fun h=>h1 (decide_eq_true h)) (fun h=>h2 (decide_eq_false h))
   rw [List.length_map,range_filterD (dueL l s.length) 0 (fun c=>decide (c ∉ r)) (fun c=>PyData.int c)]
   walk_at "dx"
   rw [show PyData.list []=PyData.list (li []) from rfl,eqv_li]
   refine ⟨Nat.zero_le _,(Sh.ints 0 _).shp (by decide),(Sh.ints 0 []).shp (by decide),?_⟩
   have eg:goodR (o.getD d 0) (dueL l s.length) r=decide (((dueL l s.length).filter fun c=>decide (c ∉ r))=[]):=by
    unfold goodR
    rw [decide_eq_true hlen,Bool.true_and]
   rw [eg]
   refine ite2 (fun hm=>?_) (fun hm=>?_)
   ·rw [if_pos hm,List.map_append]
    refine ⟨Nat.le_trans (by decide) line_big,by rw[List.length_map];exact Nat.lt_of_lt_of_le (by omega) line_big,?_⟩
    refine ⟨?_,by simp⟩
    rw [List.length_map]
    rfl
   ·rw [if_neg hm,List.append_nil]
    exact ⟨rfl,by simp⟩
 ·rintro env ⟨rv,dv,rfl,_⟩
  rw [List.length_map,List.take_of_length_le (Nat.le_refl _)]
  walk_at "dx"
  have hs:∀ r∈(subs s.length).filter (goodR (o.getD d 0) (dueL l s.length)),r.length≤1000:=fun r hr=>by
   have:=(subs_row _ r (List.mem_filter.mp hr).1).1
   omega
  refine ⟨fun x hx=>?_,?_,fun es hes=>?_⟩
  ·obtain ⟨r,_,rfl⟩:=List.mem_map.mp hx
   exact ⟨r.length,r,rfl⟩
  ·rw [List.length_map]
   refine fit_few t2 (t7.imp (fun h=>h) fun h=>by have:=h _ (getD_mem' s1);omega)
  ·obtain ⟨rr,hp,rfl⟩:=perm_lift hes _ rfl
   have hl:=hp.length_eq
   have hf:((subs s.length).filter (goodR (o.getD d 0) (dueL l s.length))).length<64:=fit_few t2 (t7.imp (fun h=>h) fun h=>by have:=h _ (getD_mem' s1);omega)
   refine cd_map (fun j=>.list (li (rr.getD j []))) (by rw[List.length_map];omega) (fun j hj Q hQ=>?_) ?_
   ·rw [List.length_map] at hj
    have ek:(List.map keyR rr)[j]'(by simpa using hj)=keyR (rr.getD j []):=by simp[List.getD_eq_getElem?_getD,hj]
    rw [ek]
    unfold keyR
    walk_at "dx"
    exact hQ
   ·rw [List.length_map,range_mapD rr [] (fun r=>PyData.list (li r))]
    walk_at "dx"
    exact q rr hp
noncomputable def aftL (s l r:List Int) (n:Nat):List Int:=(List.range n).map fun (i:Nat)=>if (i:Int)∈r then s.getD i 0 else l.getD i 0 - 1
theorem aftL_len (s l r:List Int) (n:Nat):(aftL s l r n).length=n:=by simp[aftL]
theorem aftL_succ (s l r:List Int) (n:Nat):aftL s l r (n+1)=aftL s l r n++[if (n:Int)∈r then s.getD n 0 else l.getD n 0 - 1]:=by
 unfold aftL
 rw [List.range_succ,List.map_append]
 rfl
noncomputable abbrev s__law_after:Stmt:=top 17
theorem sc__law_after:FnScope ["_law_town_here", "_law_standing_here", "_law_row", "_law_lefts", "_law_clock"] ["_law_town_here", "_law_standing_here", "_law_row"] (defScope s__law_after):=⟨rfl,rfl,rfl,by decide +kernel,rfl,by decide +kernel,by decide +kernel⟩
noncomputable def spAfter:DSp:=fun ss R=>∃ (s o l r:List Int) (d:Nat),ss=[.fr (.tuple [.list (li s),.list (li o)]),.fr (.tuple [.int d,.tuple (li l)]),.fr (.list (li r))]∧s.length≤1000∧1≤o.length∧l.length=s.length∧R (.fr (.tuple [.int (((d+1) % o.length:Nat):Int),.tuple (li (aftL s l r s.length))])) [.un,.un,.un]
theorem bi__law_after {f:Addr}{fd:FuncData} (F:Fun K "_law_after" "_law_after" s__law_after f fd):Binds K fd ["_law_town_here", "_law_standing_here", "_law_row"] []:=F.binds (ps:=["_law_town_here", "_law_standing_here", "_law_row"]) fun _ _ _ _ _ _ us hl=>us3 (Q:=fun us=>bindArgs _ ⟨us,[]⟩=pure (List.zip _ us)) hl fun _ _ _=>rfl
theorem ok__law_after {f:Addr}{fd:FuncData} (F:Fun K "_law_after" "_law_after" s__law_after f fd) (B:Bn mg):FnOk P w K mg base CX0 1 f fd ["_law_town_here", "_law_standing_here", "_law_row"] (spD K spAfter):=by
 refine okD (k:=0) F sc__law_after (fun ss R h=>?_) (by decide) (fun cdv A outer s H E hr=>⟨_,(qs_cons (q_set (i:=3) sc__law_after.nd rfl (Or.inl rfl) (q_tup qa_nil))
   (qs_cons (q_for PassesOwn.never rfl (qi_rng1 rfl B.range (qa_cons (q_cb (kLen (K:=K) rfl) mLen rfl B.len PySem.boot_len (qa_cons (q_ix (ix_any (K:=K) rfl) mIx (qv 0) q_int (fun _ _=>rfl)) qa_nil)) qa_nil)) (qg_name (i:=4) sc__law_after.nd rfl (Or.inl rfl)) (qs_one (q_if (qt_cmp (kIn (K:=K) rfl) mIn (qv 4) (qv 2) (by with_unfolding_all rfl)) (qs_one (q_set (i:=3) sc__law_after.nd rfl (Or.inl rfl) (q_catT (K:=K) rfl (qv 3) (q_tup (qa_cons (q_ix (ix_any (K:=K) rfl) mIx (q_ix (ix_any (K:=K) rfl) mIx (qv 0) q_int (fun _ _=>rfl)) (qv 4) (fun _ _=>rfl)) qa_nil))))) (qs_one (q_set (i:=3) sc__law_after.nd rfl (Or.inl rfl) (q_catT (K:=K) rfl (qv 3) (q_tup (qa_cons (q_op op_sub mI (q_ix (ix_any (K:=K) rfl) mIx (q_ix (ix_any (K:=K) rfl) mIx (qv 1) q_int (fun _ _=>rfl)) (qv 4) (fun _ _=>rfl)) q_int) qa_nil))))))))
   (qs_one (q_ret (q_tup (qa_cons (q_op op_mod mIC (q_op op_add mI (q_ix (ix_any (K:=K) rfl) mIx (qv 1) q_int (fun _ _=>rfl)) q_int) (q_cb (kLen (K:=K) rfl) mLen rfl B.len PySem.boot_len (qa_cons (q_ix (ix_any (K:=K) rfl) mIx (qv 0) q_int (fun _ _=>rfl)) qa_nil))) (qa_cons (qf 3) qa_nil))))))),fun ss R h=>?_⟩)
 ·obtain ⟨s,o,l,r,d,rfl,_⟩:=h
  rfl
 obtain ⟨s,o,l,r,d,rfl,h1,h2,h3,q⟩:=h
 walk_at "dx"
 rw [List.length_map]
 refine ⟨Nat.zero_le _,by omega,by omega,fd_intro (fun i env=>∃ cv:Sl,env=[.fr (.tuple [.list (li s),.list (li o)]),.fr (.tuple [.int d,.tuple (li l)]),.fr (.list (li r)),.fr (.tuple (li (aftL s l r i))),cv]) ⟨_,rfl⟩ ?_ ?_⟩
 ·rintro i env hi ⟨cv,rfl⟩
  rw [rangeD_len,Int.toNat_natCast] at hi
  rw [rangeD_get]
  walk_at "dx"
  have hz:(li (aftL s l r i)).length+1≤sizeLine:=by
   rw [List.length_map,aftL_len]
   exact Nat.le_trans (by omega) line_big
  rw [aftL_succ]
  refine ite2 (fun hm=>?_) (fun hm=>?_)
  ·refine ⟨_,atI_li hi,Nat.le_trans (by decide) line_big,hz,?_⟩
   rw [if_pos hm]
   exact li_snoc _ _
  ·refine ⟨_,atI_li (by omega),_,rfl,Nat.le_trans (by decide) line_big,hz,?_⟩
   rw [if_neg hm]
   exact li_snoc _ _
 ·rintro env ⟨cv,rfl⟩
  rw [rangeD_len,Int.toNat_natCast]
  walk_at "dx"
  rw [List.length_map]
  exact ⟨by omega,Nat.le_trans (by decide) line_big,q⟩
noncomputable abbrev s_hands_on:Stmt:=top 2
theorem sc_hands_on:FnScope ["town", "standing"] ["town", "standing"] (defScope s_hands_on):=⟨rfl,rfl,rfl,by decide +kernel,rfl,by decide +kernel,by decide +kernel⟩
noncomputable def spHandsOn:DSp:=fun ss R=>∃ (s o l:List Int) (d:Nat),ss=[.fr (.tuple [.list (li s),.list (li o)]),.fr (.tuple [.int d,.tuple (li l)])]∧d<o.length∧R (.fr (.int (o.getD d 0))) [.un,.un]
theorem bi_hands_on {f:Addr}{fd:FuncData} (F:Fun K "hands_on" "hands_on" s_hands_on f fd):Binds K fd ["town", "standing"] []:=F.binds (ps:=["town", "standing"]) fun _ _ _ _ _ _ us hl=>us2 (Q:=fun us=>bindArgs _ ⟨us,[]⟩=pure (List.zip _ us)) hl fun _ _=>rfl
theorem ok_hands_on {f:Addr}{fd:FuncData} (F:Fun K "hands_on" "hands_on" s_hands_on f fd) (B:Bn mg):FnOk P w K mg base CX0 1 f fd ["town", "standing"] (spD K spHandsOn):=by
 refine okD (k:=0) F sc_hands_on (fun ss R h=>?_) (by decide) (fun cdv A outer s H E hr=>⟨_,(qs_one (q_ret (q_ix (ix_any (K:=K) rfl) mIx (q_ix (ix_any (K:=K) rfl) mIx (qv 0) q_int (fun _ _=>rfl)) (q_ix (ix_any (K:=K) rfl) mIx (qv 1) q_int (fun _ _=>rfl)) (fun _ _=>rfl)))),fun ss R h=>?_⟩)
 ·obtain ⟨s,o,l,d,rfl,_⟩:=h
  rfl
 obtain ⟨s,o,l,d,rfl,hd,q⟩:=h
 walk_at "dd"
 exact ⟨_,atI_li hd,q⟩
noncomputable abbrev s_behind:Stmt:=top 4
theorem sc_behind:FnScope ["town", "standing", "row", "spans", "lefts"] ["town", "standing", "row"] (defScope s_behind):=⟨rfl,rfl,rfl,by decide +kernel,rfl,by decide +kernel,by decide +kernel⟩
noncomputable def spBehind:DSp:=fun ss R=>∃ (s o l r:List Int) (d:Nat),ss=[.fr (.tuple [.list (li s),.list (li o)]),.fr (.tuple [.int d,.tuple (li l)]),.fr (.list (li r))]∧1≤o.length∧l.length=s.length∧s.length≤1000∧R (.fr (.tuple [.int (((d+1) % o.length:Nat):Int),.tuple (li (aftL s l r s.length))])) [.un,.un,.un]
theorem bi_behind {f:Addr}{fd:FuncData} (F:Fun K "behind" "behind" s_behind f fd):Binds K fd ["town", "standing", "row"] []:=F.binds (ps:=["town", "standing", "row"]) fun _ _ _ _ _ _ us hl=>us3 (Q:=fun us=>bindArgs _ ⟨us,[]⟩=pure (List.zip _ us)) hl fun _ _ _=>rfl
theorem ok_behind {f:Addr}{fd:FuncData} (F:Fun K "behind" "behind" s_behind f fd) (B:Bn mg):FnOk P w K mg base CX0 1 f fd ["town", "standing", "row"] (spD K spBehind):=by
 refine okD (k:=0) F sc_behind (fun ss R h=>?_) (by decide) (fun cdv A outer s H E hr=>⟨_,(qs_bar (q_set (i:=3) sc_behind.nd rfl (Or.inr rfl) (q_ix (ix_any (K:=K) rfl) mIx (qv 0) q_int (fun _ _=>rfl)))
   (qs_bar (q_setComp (i:=4)  sc_behind.nd rfl rfl (N':=["clock", "left", "row", "spans"]) (ix:=[none,none,some 2,some 3]) rfl (bs_of (N:=["town", "standing", "row", "spans", "lefts"]) (sc0:=defScope s_behind) rfl rfl (by decide +kernel)) (qi_enum true (K:=K) rfl rfl B.enumerate (qa_cons (q_ix (ix_any (K:=K) rfl) mIx (qv 1) q_int (fun _ _=>rfl)) qa_nil)) (fun _ _ _ _=>(qg_tup (K:=K) (n:=2) rfl rfl (qgs_cons (qg_name (i:=0) (show List.Nodup (["clock", "left", "row", "spans"]:List Str) by decide +kernel) rfl (Or.inl rfl)) (qgs_cons (qg_name (i:=1) (show List.Nodup (["clock", "left", "row", "spans"]:List Str) by decide +kernel) rfl (Or.inl rfl)) qgs_nil)))) (fun _ _ _ _=>qif_nil) (fun _ _ _ _=>(q_ifExp (qt_cmp (kIn (K:=K) rfl) mIn (qv 0) (qv 2) (by with_unfolding_all rfl)) (q_ix (ix_any (K:=K) rfl) mIx (qv 3) (qv 0) (fun _ _=>rfl)) (q_op op_sub mI (qv 1) q_int))))
   (qs_one (q_ret (q_tup (qa_cons (q_op op_mod mIC (q_op op_add mI (q_ix (ix_any (K:=K) rfl) mIx (qv 1) q_int (fun _ _=>rfl)) q_int) (q_cb (kLen (K:=K) rfl) mLen rfl B.len PySem.boot_len (qa_cons (q_ix (ix_any (K:=K) rfl) mIx (qv 0) q_int (fun _ _=>rfl)) qa_nil))) (qa_cons (q_tupOf (K:=K) rfl rfl B.tuple (qa_cons (qv 4) qa_nil)) qa_nil))))))),fun ss R h=>?_⟩)
 ·obtain ⟨s,o,l,r,d,rfl,_⟩:=h
  rfl
 obtain ⟨s,o,l,r,d,rfl,ho,hl,hs,q⟩:=h
 walk_at "dx"
 refine cd_map (fun i=>.int (if (i:Int)∈r then s.getD i 0 else l.getD i 0 - 1)) (by rw[enumD_len,List.length_map];omega) (fun i hi Q hQ=>?_) ?_
 ·rw [enumD_len,List.length_map] at hi
  rw [enumD_get,li_get]
  walk_at "dx"
  refine ite2 (fun h=>?_) (fun h=>?_)
  ·rw [if_pos h] at hQ
   exact ⟨_,atI_li (by omega),hQ⟩
  ·rw [if_neg h] at hQ
   exact hQ
 have e:(List.range (enumD (li l)).length).map (fun i:Nat=>PyData.int (if (i:Int)∈r then s.getD i 0 else l.getD i 0 - 1))=li (aftL s l r s.length):=by
  rw [enumD_len,List.length_map,hl]
  show _=List.map _ (List.map _ _)
  rw [List.map_map]
  rfl
 rw [e]
 walk_at "dx"
 rw [List.length_map]
 exact ⟨by omega,Nat.le_trans (by decide) line_big,q⟩
noncomputable abbrev s_begun:Stmt:=top 1
theorem sc_begun:FnScope ["town"] ["town"] (defScope s_begun):=⟨rfl,rfl,rfl,by decide +kernel,rfl,by decide +kernel,by decide +kernel⟩
noncomputable def spBegun:DSp:=fun ss R=>∃ (s o:List Int),ss=[.fr (.tuple [.list (li s),.list (li o)])]∧R (.fr (.tuple [.int 0,.tuple (li s)])) [.un]
theorem bi_begun {f:Addr}{fd:FuncData} (F:Fun K "begun" "begun" s_begun f fd):Binds K fd ["town"] []:=F.binds (ps:=["town"]) fun _ _ _ _ _ _ us hl=>us1 (Q:=fun us=>bindArgs _ ⟨us,[]⟩=pure (List.zip _ us)) hl fun _=>rfl
theorem ok_begun {f:Addr}{fd:FuncData} (F:Fun K "begun" "begun" s_begun f fd) (B:Bn mg):FnOk P w K mg base CX0 1 f fd ["town"] (spD K spBegun):=by
 refine okD (k:=0) F sc_begun (fun ss R h=>?_) (by decide) (fun cdv A outer s H E hr=>⟨_,(qs_one (q_ret (q_tup (qa_cons q_int (qa_cons (q_tupOf (K:=K) rfl rfl B.tuple (qa_cons (q_ix (ix_any (K:=K) rfl) mIx (qv 0) q_int (fun _ _=>rfl)) qa_nil)) qa_nil))))),fun ss R h=>?_⟩)
 ·obtain ⟨s,o,rfl,_⟩:=h
  rfl
 obtain ⟨s,o,rfl,q⟩:=h
 walk_at "dd"
 exact ⟨Nat.le_trans (by decide) line_big,q⟩
section
variable {κ β:Type} [DecidableEq κ]
theorem getK_app (a b:List (κ×β)) (k:κ):getK (a++b) k=match getK a k with|some v=>some v|none=>getK b k:=by
 induction a with
 | nil=>rfl
 | cons p a ih =>
  rw [List.cons_append,getK_cons,getK_cons,ih]
  by_cases h:p.1=k <;> simp[h]
theorem getK_put (kvs:List (κ×β)) (k:κ) (v:β) (x:κ):getK (kvs.map fun p=>if p.1=k then (p.1,v) else p) x=if x=k then (getK kvs x).map fun _=>v else getK kvs x:=by
 induction kvs with
 | nil=>simp[getK]
 | cons p kvs ih =>
  rw [List.map_cons,getK_cons,getK_cons,ih]
  by_cases h1:p.1=k
  ·by_cases h2:x=k
   ·simp [h1,h2]
   ·have:¬k=x:=fun z=>h2 z.symm
    simp [h1,h2,this]
  ·by_cases h2:p.1=x
   ·subst h2;simp[h1]
   ·simp [h1,h2]
theorem getK_set (kvs:List (κ×β)) (k:κ) (v:β) (x:κ):getK (setK kvs k v) x=if x=k then some v else getK kvs x:=by
 unfold setK
 cases e:getK kvs k with
 | some w =>
  rw [if_pos (show (some w).isSome=true from rfl),getK_put]
  by_cases h:x=k
  ·subst h;simp[e]
  ·simp [h]
 | none =>
  rw [if_neg (by simp),getK_app,getK_cons,getK_nil]
  by_cases h:x=k
  ·subst h;simp[e]
  ·have:¬k=x:=fun z=>h z.symm
   simp only [this,h,if_false]
   cases getK kvs x <;> rfl
end
theorem nodup_sub {α:Type} [DecidableEq α]:∀ {l U:List α},l.Nodup→(∀ x∈l,x∈U)→l.length≤U.length
 | [],_,_,_=>Nat.zero_le _
 | x::l,U,hn,h=>by
  obtain ⟨h1,h2⟩:=List.nodup_cons.mp hn
  have hx:=h x (by simp)
  have:=nodup_sub (l:=l) (U:=U.erase x) h2 fun y hy=>(List.mem_erase_of_ne (fun (z:y=x)=>h1 (by rw[←z];exact hy))).mpr (h y (by simp[hy]))
  rw [List.length_erase_of_mem hx] at this
  have hp:0<U.length:=List.length_pos_of_mem hx
  simp;omega
section
variable {σ ρ:Type} [DecidableEq σ] (Full:σ→List ρ→Prop) (nxt:σ→ρ→σ) (start₀:σ)
structure Srch (path:List σ) (ways:List (List ρ)) (places:σ→Option (Option Nat)) (lost:List σ):Prop where
 len:ways.length=path.length
 hd : path.head? = some start₀∨path=[]∧start₀∈lost
 way:∀ (i:Nat) x w,path[i]? = some x→ways[i]? = some w→∃ fr pre,Full x fr∧fr=pre++w∧∀ r∈pre,nxt x r∈lost
 lnk:∀ (i:Nat) x y w,path[i]? = some x→path[i+1]? = some y→ways[i]? = some w→∃ r t,w=r::t∧nxt x r=y
 on : ∀ x (i:Nat),places x=some (some i)↔path[i]? = some x
 off:∀ x,places x=some none↔x∈lost
 down:∀ (j:Nat) x,lost[j]? = some x→∃ fr,Full x fr∧∀ r∈fr,∃ i:Nat,i<j∧lost[i]? = some (nxt x r)
 nd : (path++lost).Nodup
variable {Full nxt start₀}{path:List σ}{ways:List (List ρ)}{places:σ→Option (Option Nat)}{lost:List σ}
theorem Srch.init {fr:List ρ} (h:Full start₀ fr) (hp:∀ x,places x=if x=start₀ then some (some 0) else none):Srch Full nxt start₀ [start₀] [fr] places []:=by
 refine ⟨rfl,.inl rfl,fun i x w h1 h2=>?_,fun i x y w h1 h2=>?_,fun x i=>?_,fun x=>?_,fun j x h1=>by simp at h1,by simp⟩
 ·cases i with
  | zero=>simp at h1 h2;subst h1 h2;exact⟨fr,[],h,rfl,by simp⟩
  | succ i=>simp at h1
 ·simp at h2
 ·rw [hp]
  by_cases e:x=start₀
  ·subst e
   cases i <;> simp
  ·rw [if_neg e]
   cases i <;> simp[Ne.symm e]
 ·rw [hp]
  split <;> simp
theorem Srch.lose {x:σ}{places':σ→Option (Option Nat)} (h:Srch Full nxt start₀ (path++[x]) (ways++[[]]) places lost) (hp:∀ y,places' y=if y=x then some none else places y) :
  Srch Full nxt start₀ path ways places' (lost++[x]):=by
 have hl:ways.length=path.length:=by have:=h.len;simpa using this
 have nd:=h.nd
 have nd2:(path++(lost++[x])).Nodup:=by
  rw [List.append_assoc] at nd
  exact (List.Perm.append_left path (List.perm_append_comm)).nodup_iff.mp nd
 have px:x ∉ path:=fun hx=>by
  have:=List.nodup_append.mp (List.nodup_append.mp nd).1
  exact this.2.2 x hx x (by simp) rfl
 refine ⟨hl,?_,fun i y w h1 h2=>?_,fun i y z w h1 h2 h3=>?_,fun y i=>?_,fun y=>?_,fun j y h1=>?_,nd2⟩
 ·rcases h.hd with e|⟨e,_⟩
  ·cases path with
   | nil =>
    simp at e
    exact .inr ⟨rfl,by simp[e]⟩
   | cons a b=>exact .inl (by simpa using e)
  ·simp at e
 ·have hi:i<path.length:=(List.getElem?_eq_some_iff.mp h1).1
  obtain ⟨fr,pre,a,b,c⟩:=h.way i y w (by rw[List.getElem?_append_left hi];exact h1) (by rw[List.getElem?_append_left (by omega)];exact h2)
  exact ⟨fr,pre,a,b,fun r hr=>List.mem_append_left _ (c r hr)⟩
 ·have hi:i+1<path.length:=(List.getElem?_eq_some_iff.mp h2).1
  exact h.lnk i y z w (by rw[List.getElem?_append_left (by omega)];exact h1) (by rw[List.getElem?_append_left hi];exact h2) (by rw[List.getElem?_append_left (by omega)];exact h3)
 ·rw [hp]
  by_cases e:y=x
  ·subst e
   rw [if_pos rfl]
   constructor
   ·intro z;cases z
   ·intro z;exact absurd (List.mem_of_getElem? z) px
  ·rw [if_neg e,h.on]
   by_cases hi:i<path.length
   ·rw [List.getElem?_append_left hi]
   ·rw [List.getElem?_append_right (by omega),List.getElem?_eq_none (show path.length≤i by omega)]
    constructor
    ·intro z
     cases hk:i - path.length with
     | zero=>rw[hk] at z;simp at z;exact absurd z.symm e
     | succ k=>rw[hk] at z;simp at z
    ·intro z;cases z
 ·rw [hp]
  by_cases e:y=x
  ·subst e;simp
  ·rw [if_neg e,h.off];simp[e]
 ·by_cases hj:j<lost.length
  ·rw [List.getElem?_append_left hj] at h1
   obtain ⟨fr,a,b⟩:=h.down j y h1
   refine ⟨fr,a,fun r hr=>?_⟩
   obtain ⟨i,i1,i2⟩:=b r hr
   exact ⟨i,i1,by rw[List.getElem?_append_left (by omega)];exact i2⟩
  ·have hjl:j<(lost++[x]).length:=(List.getElem?_eq_some_iff.mp h1).1
   have hj2:j=lost.length:=by simp at hjl;omega
   subst hj2
   rw [List.getElem?_append_right (Nat.le_refl _)] at h1
   simp at h1
   subst h1
   obtain ⟨fr,pre,a,b,c⟩:=h.way path.length x [] (by simp) (by rw[←hl];simp)
   rw [List.append_nil] at b
   subst b
   refine ⟨fr,a,fun r hr=>?_⟩
   obtain ⟨i,hi,e⟩:=List.getElem_of_mem (c r hr)
   exact ⟨i,hi,by rw[List.getElem?_append_left hi,List.getElem?_eq_getElem hi,e]⟩
theorem Srch.go {x:σ}{r:ρ}{w fr:List ρ}{places':σ→Option (Option Nat)} (h:Srch Full nxt start₀ (path++[x]) (ways++[r::w]) places lost) (hn:places (nxt x r)=none) (hf:Full (nxt x r) fr)
  (hp:∀ y,places' y=if y=nxt x r then some (some (path.length+1)) else places y):Srch Full nxt start₀ (path++[x]++[nxt x r]) (ways++[r::w]++[fr]) places' lost:=by
 have hl:ways.length=path.length:=by have:=h.len;simpa using this
 have n1:nxt x r ∉ path++[x]:=fun z=>by
  obtain ⟨i,hi,e⟩:=List.getElem_of_mem z
  have:=(h.on (nxt x r) i).mpr (by rw[List.getElem?_eq_getElem hi,e])
  rw [hn] at this;cases this
 have n2:nxt x r ∉ lost:=fun z=>by
  have:=(h.off (nxt x r)).mpr z
  rw [hn] at this;cases this
 have cut:∀ {α:Type} (l:List α) (a:α) (i:Nat) (y:α),(l++[a])[i]? = some y→(i<l.length∧l[i]? = some y)∨(i=l.length∧y=a):=fun l a i y e=>by
  by_cases hi:i<l.length
  ·rw [List.getElem?_append_left hi] at e;exact .inl ⟨hi,e⟩
  ·rw [List.getElem?_append_right (by omega)] at e
   cases hk:i - l.length with
   | zero=>rw[hk] at e;simp at e;exact .inr ⟨by omega,e.symm⟩
   | succ k=>rw[hk] at e;simp at e
 refine ⟨by simp[hl],?_,fun i y v h1 h2=>?_,fun i y z v h1 h2 h3=>?_,fun y i=>?_,fun y=>?_,h.down,?_⟩
 ·rcases h.hd with e|⟨e,_⟩
  ·exact .inl (by rw[List.head?_append,e];rfl)
  ·simp at e
 ·rcases cut _ _ _ _ h1 with ⟨a1,a2⟩|⟨a1,a2⟩
  ·rcases cut _ _ _ _ h2 with ⟨b1,b2⟩|⟨b1,b2⟩
   ·exact h.way i y v a2 b2
   ·simp at a1 b1;omega
  ·rcases cut _ _ _ _ h2 with ⟨b1,b2⟩|⟨b1,b2⟩
   ·simp at a1 b1;omega
   ·subst a2 b2;exact⟨_,[],hf,rfl,by simp⟩
 ·rcases cut _ _ _ _ h2 with ⟨a1,a2⟩|⟨a1,a2⟩
  ·rcases cut _ _ _ _ h1 with ⟨c1,c2⟩|⟨c1,c2⟩
   ·rcases cut _ _ _ _ h3 with ⟨b1,b2⟩|⟨b1,b2⟩
    ·exact h.lnk i y z v c2 a2 b2
    ·simp at a1 b1;omega
   ·simp at a1 c1;omega
  ·have hi:i=path.length:=by simp at a1;omega
   subst hi
   rcases cut _ _ _ _ h1 with ⟨c1,c2⟩|⟨c1,c2⟩
   ·rcases cut _ _ _ _ h3 with ⟨b1,b2⟩|⟨b1,b2⟩
    ·simp at c2
     rw [←hl] at b2
     simp at b2
     subst a2 c2 b2
     exact ⟨r,w,rfl,rfl⟩
    ·simp at b1;omega
   ·simp at c1
 ·rw [hp]
  by_cases e:y=nxt x r
  ·subst e
   rw [if_pos rfl]
   constructor
   ·intro z
    cases z
    rw [List.getElem?_append_right (by simp)]
    simp
   ·intro z
    rcases cut _ _ _ _ z with ⟨_,a2⟩|⟨a1,_⟩
    ·exact absurd (List.mem_of_getElem? a2) n1
    ·rw [a1];simp
  ·rw [if_neg e,h.on]
   constructor
   ·intro z
    rw [List.getElem?_append_left (List.getElem?_eq_some_iff.mp z).1];exact z
   ·intro z
    rcases cut _ _ _ _ z with ⟨_,a2⟩|⟨_,a2⟩
    ·exact a2
    ·exact absurd a2 e
 ·rw [hp]
  by_cases e:y=nxt x r
  ·subst e
   rw [if_pos rfl]
   constructor
   ·intro z;cases z
   ·intro z;exact absurd z n2
  ·rw [if_neg e,h.off]
 ·have nd:=h.nd
  have:(nxt x r::(path++[x]++lost)).Nodup:=List.nodup_cons.mpr ⟨fun z=>(List.mem_append.mp z).elim n1 n2,nd⟩
  refine List.Perm.nodup_iff ?_ |>.mp this
  rw [List.append_assoc (path++[x]) [nxt x r] lost]
  exact List.perm_middle.symm
theorem Srch.skip {x:σ}{r:ρ}{w:List ρ} (h:Srch Full nxt start₀ (path++[x]) (ways++[r::w]) places lost) (hn:places (nxt x r)=some none) :
  Srch Full nxt start₀ (path++[x]) (ways++[w]) places lost:=by
 have hl:ways.length=path.length:=by have:=h.len;simpa using this
 have hx:=(h.off _).mp hn
 refine ⟨by simpa using hl,h.hd,fun i y v h1 h2=>?_,fun i y z v h1 h2 h3=>?_,h.on,h.off,h.down,h.nd⟩
 ·by_cases hi:i<ways.length
  ·rw [List.getElem?_append_left hi] at h2
   exact h.way i y v h1 (by rw[List.getElem?_append_left hi];exact h2)
  ·have hi2:i<(path++[x]).length:=(List.getElem?_eq_some_iff.mp h1).1
   have hi3:i=ways.length:=by simp at hi2;omega
   subst hi3
   simp at h2
   subst h2
   obtain ⟨fr,pre,a,b,c⟩:=h.way ways.length y (r::w) h1 (by simp)
   have e:y=x:=by
    rw [hl] at h1
    simpa using h1.symm
   subst e
   refine ⟨fr,pre++[r],a,by simp[b],fun q hq=>?_⟩
   rcases List.mem_append.mp hq with hq|hq
   ·exact c q hq
   ·rw [List.mem_singleton.mp hq];exact hx
 ·have hi:i+1<(path++[x]).length:=(List.getElem?_eq_some_iff.mp h2).1
  have hi2:i<ways.length:=by simp at hi;omega
  rw [List.getElem?_append_left hi2] at h3
  exact h.lnk i y z v h1 h2 (by rw[List.getElem?_append_left hi2];exact h3)
noncomputable def srchM (N C:Nat) (path lost:List σ) (ways:List (List ρ)):Nat:=(N - (path.length+lost.length))*C+(ways.map fun w=>w.length+1).sum
theorem Srch.few (h:Srch Full nxt start₀ path ways places lost) {U:List σ} (hU:∀ x∈path++lost,x∈U):path.length+lost.length≤U.length:=by
 have:=nodup_sub h.nd hU
 simpa using this
end
section
variable {σ ρ:Type} [DecidableEq σ] {Full:σ→List ρ→Prop}{nxt:σ→ρ→σ}{start₀:σ}{path:List σ}{ways:List (List ρ)}{places:σ→Option (Option Nat)}{lost:List σ}
theorem Srch.end (h:Srch Full nxt start₀ [] [] places lost) (L:σ→σ→Prop) (go:σ→σ→Prop) (hL:L start₀ start₀) (dom:∀ x fr y z,Full x fr→L x y→go y z→∃ r∈fr,L (nxt x r) z):¬ ∃ w:Nat→σ,w 0=start₀∧∀ i,go (w i) (w (i+1)):=by
 rintro ⟨w,w0,hw⟩
 have key:∀ (j:Nat) x i,lost[j]? = some x→L x (w i)→False:=by
  intro j
  induction j using Nat.strongRecOn with
  | _ j ih =>
   intro x i hx hl
   obtain ⟨fr,hf,hd⟩:=h.down j x hx
   obtain ⟨r,hr,hl2⟩:=dom x fr _ _ hf hl (hw i)
   obtain ⟨k,hk,e⟩:=hd r hr
   exact ih k hk _ (i+1) e hl2
 rcases h.hd with e|⟨_,e⟩
 ·cases e
 ·obtain ⟨j,hj,e⟩:=List.getElem_of_mem e
  exact key j start₀ 0 (by rw[List.getElem?_eq_getElem hj,e]) (by rw[w0];exact hL)
theorem Srch.lt_lose {x:σ}{N C:Nat} (hl:(path++[x]).length+lost.length≤N):srchM N C path (lost++[x]) ways<srchM N C (path++[x]) lost (ways++[([]:List ρ)]):=by
 unfold srchM
 have:path.length+(lost++[x]).length=(path++[x]).length+lost.length:=by simp;omega
 rw [this,List.map_append,List.sum_append]
 simp
theorem Srch.lt_skip {x:σ}{r:ρ}{w:List ρ}{N C:Nat}:srchM N C (path++[x]) lost (ways++[w])<srchM N C (path++[x]) lost (ways++[r::w]):=by
 unfold srchM
 rw [List.map_append,List.sum_append,List.map_append,List.sum_append]
 simp
theorem Srch.lt_go {x:σ}{fr:List ρ}{N C:Nat} (hl:path.length+1+lost.length≤N) (hf:fr.length+1<C):srchM N C (path++[x]) lost (ways++[fr])<srchM N C path lost ways:=by
 unfold srchM
 rw [List.map_append,List.sum_append]
 have e:N - (path.length+lost.length)=N - ((path++[x]).length+lost.length)+1:=by simp;omega
 rw [e,Nat.succ_mul]
 simp
 omega
end
theorem aftL_get {s l r:List Int}{n c:Nat} (h:c<n):(aftL s l r n).getD c 0=if (c:Int)∈r then s.getD c 0 else l.getD c 0 - 1:=by
 unfold aftL
 simp [List.getD_eq_getElem?_getD,h]
theorem subs_mem:∀ (n:Nat) (r:List Int),r.Pairwise (·<·)→(∀ x∈r,0≤x∧x<n)→r∈subs n
 | 0,r,_,h=>by
  cases r with
  | nil=>simp[subs]
  | cons x l=>have:=h x (by simp);omega
 | n + 1,r,hp,h=>by
  show r∈subs n++(subs n).map (·++[(n:Int)])
  by_cases hn:(n:Int)∈r
  ·refine List.mem_append_right _ ?_
   rcases List.eq_nil_or_concat r with rfl|⟨l,x,rfl⟩
   ·cases hn
   ·rw [List.concat_eq_append] at *
    obtain ⟨p1,_,p3⟩:=List.pairwise_append.mp hp
    have hx:=h x (by simp)
    have hxn:x=(n:Int):=by
     rcases List.mem_append.mp hn with z|z
     ·have:=p3 _ z x (by simp);omega
     ·exact (List.mem_singleton.mp z).symm
    refine List.mem_map.mpr ⟨l,subs_mem n l p1 fun y hy=>?_,by rw[hxn]⟩
    have a:=h y (by simp[hy])
    have b:=p3 y hy x (by simp)
    omega
  ·refine List.mem_append_left _ (subs_mem n r hp fun x hx=>?_)
   have a:=h x hx
   have b:x≠(n:Int):=fun z=>hn (z▸hx)
   omega
theorem mem_fit {n:Nat}{h:Int}{l r:List Int}:r∈fitR n h l↔r∈subs n∧(r.length:Int)≤h∧∀ c,c<n→l.getD c 0=1→(c:Int)∈r:=by
 unfold fitR goodR
 rw [List.mem_filter,Bool.and_eq_true,decide_eq_true_eq,decide_eq_true_eq]
 have du:(List.filter (fun c=>decide (c ∉ r)) (dueL l n))=[]↔∀ c,c<n→l.getD c 0=1→(c:Int)∈r:=by
  rw [List.filter_eq_nil_iff]
  constructor
  ·intro h c hc e
   have:=h (c:Int) (by
    unfold dueL
    exact List.mem_map.mpr ⟨c,List.mem_filter.mpr ⟨List.mem_range.mpr hc,decide_eq_true e⟩,rfl⟩)
   simpa using this
  ·intro h x hx
   unfold dueL at hx
   obtain ⟨c,hc,rfl⟩:=List.mem_map.mp hx
   obtain ⟨h1,h2⟩:=List.mem_filter.mp hc
   have:=h c (List.mem_range.mp h1) (of_decide_eq_true h2)
   simpa using this
 rw [du]
noncomputable abbrev Std:=Nat×List Int
noncomputable def nxtS (s o:List Int) (x:Std) (r:List Int):Std:=((x.1+1) % o.length,aftL s x.2 r s.length)
noncomputable def FullS (s o:List Int) (x:Std) (fr:List (List Int)):Prop:=(∀ r∈fr,r∈fitR s.length (o.getD x.1 0) x.2)∧(∀ r∈fitR s.length (o.getD x.1 0) x.2,∃ r'∈fr,∀ c∈r,c∈r') ∧
 (∀ r∈fr,∀ r'∈fitR s.length (o.getD x.1 0) x.2,r'.length≤r.length)∧∀ r∈fitR s.length (o.getD x.1 0) x.2,(∀ r'∈fitR s.length (o.getD x.1 0) x.2,r'.length≤r.length)→r∈fr
theorem FullS.same {s o:List Int}{x:Std}{fr fr':List (List Int)} (h:FullS s o x fr) (h':FullS s o x fr') {r:List Int} (hr:r∈fr):r∈fr':=h'.2.2.2 r (h.1 r hr) (h.2.2.1 r hr)
noncomputable def IsS (s o:List Int) (x:Std):Prop:=x.1<o.length∧x.2.length=s.length∧∀ c,c<s.length→1≤x.2.getD c 0∧x.2.getD c 0≤s.getD c 0
theorem nxt_is {s o:List Int} (hs:∀ x∈s,1≤x) {x:Std}{r:List Int} (h:IsS s o x) (hr:r∈fitR s.length (o.getD x.1 0) x.2):IsS s o (nxtS s o x r):=by
 obtain ⟨h1,h2,h3⟩:=h
 refine ⟨Nat.mod_lt _ (by omega),aftL_len _ _ _ _,fun c hc=>?_⟩
 have hm:=(mem_fit.mp hr).2.2
 show 1≤(aftL s x.2 r s.length).getD c 0∧(aftL s x.2 r s.length).getD c 0≤_
 rw [aftL_get hc]
 have h4:=h3 c hc
 have h5:=hs _ (getD_mem' hc)
 split
 ·omega
 ·rename_i hn
  by_cases e:x.2.getD c 0=1
  ·exact absurd (hm c hc e) hn
  ·omega
noncomputable def allL:List Int→List (List Int)
 | []=>[[]]
 | x::s=>((List.range x.toNat).map fun (i:Nat)=>(allL s).map fun l=>((i:Int)+1)::l).flatten
theorem mem_allL:∀ {s l:List Int},l.length=s.length→(∀ c,c<s.length→1≤l.getD c 0∧l.getD c 0≤s.getD c 0)→l∈allL s
 | [],l,h,_=>by
  rw [List.length_eq_zero_iff.mp h]
  simp [allL]
 | x::s,[],h,_=>by simp at h
 | x::s,y::l,h,hb=>by
  have h0:=hb 0 (by simp)
  have hy:1≤y∧y≤x:=by simpa using h0
  have ih:=mem_allL (s:=s) (l:=l) (by simpa using h) fun c hc=>by simpa using hb (c+1) (by simpa using hc)
  unfold allL
  refine List.mem_flatten.mpr ⟨_,List.mem_map.mpr ⟨(y - 1).toNat,List.mem_range.mpr (by omega),rfl⟩,List.mem_map.mpr ⟨l,ih,?_⟩⟩
  rw [show (((y - 1).toNat:Nat):Int)+1=y by omega]
noncomputable def prodL:List Int→Nat
 | []=>1
 | x::s=>x.toNat*prodL s
theorem allL_len:∀ s:List Int,(allL s).length=prodL s
 | []=>rfl
 | x :: s=>by
  unfold allL prodL
  rw [List.length_flatten,List.map_map]
  have:(List.length ∘ fun (i:Nat)=>(allL s).map fun l=>((i:Int)+1)::l)=fun _=>prodL s:=by
   funext i
   simp [allL_len s]
  rw [this,List.map_const',List.sum_replicate_nat,List.length_range]
noncomputable def allS (s o:List Int):List Std:=((List.range o.length).map fun d=>(allL s).map fun l=>(d,l)).flatten
theorem mem_allS {s o:List Int}{x:Std} (h:IsS s o x):x∈allS s o :=
 List.mem_flatten.mpr ⟨_,List.mem_map.mpr ⟨x.1,List.mem_range.mpr h.1,rfl⟩,List.mem_map.mpr ⟨x.2,mem_allL h.2.1 h.2.2,rfl⟩⟩
theorem allS_len (s o:List Int):(allS s o).length=o.length*prodL s:=by
 unfold allS
 rw [List.length_flatten,List.map_map]
 have:(List.length ∘ fun d=>(allL s).map fun l=>((d,l):Std))=fun _=>prodL s:=by
  funext i
  simp [allL_len s]
 rw [this,List.map_const',List.sum_replicate_nat,List.length_range]
noncomputable def noB (s o:List Int) (x y:Std):Prop:=IsS s o y∧x.1=y.1∧x.2.length=s.length∧∀ c,c<s.length→y.2.getD c 0≤x.2.getD c 0
noncomputable def goS (s o:List Int) (y z:Std):Prop:=∃ r∈fitR s.length (o.getD y.1 0) y.2,z=nxtS s o y r
theorem fit_mono {s o l l' r:List Int}{d:Nat} (hb:∀ c,c<s.length→1≤l.getD c 0∧l.getD c 0≤l'.getD c 0) (hr:r∈fitR s.length (o.getD d 0) l):r∈fitR s.length (o.getD d 0) l':=by
 rw [mem_fit] at hr ⊢
 refine ⟨hr.1,hr.2.1,fun c hc e=>hr.2.2 c hc ?_⟩
 have:=hb c hc
 omega
theorem dom_town {s o:List Int} (hs:∀ x∈s,1≤x) {x y z:Std}{fr:List (List Int)} (hf:FullS s o x fr) (hl:noB s o x y) (hg:goS s o y z):∃ r∈fr,noB s o (nxtS s o x r) z:=by
 obtain ⟨iy,e1,l1,hb⟩:=hl
 obtain ⟨r0,hr0,rfl⟩:=hg
 have hr1:r0∈fitR s.length (o.getD x.1 0) x.2:=by
  rw [e1]
  exact fit_mono (fun c hc=>⟨(iy.2.2 c hc).1,hb c hc⟩) hr0
 obtain ⟨r,hr,hsub⟩:=hf.2.1 r0 hr1
 refine ⟨r,hr,nxt_is hs iy hr0,?_,aftL_len _ _ _ _,fun c hc=>?_⟩
 ·show (x.1+1) % o.length=(y.1+1) % o.length
  rw [e1]
 ·show (aftL s y.2 r0 s.length).getD c 0≤(aftL s x.2 r s.length).getD c 0
  rw [aftL_get hc,aftL_get hc]
  have h1:=hb c hc
  have h2:=(iy.2.2 c hc).2
  by_cases h0:(c:Int)∈r0
  ·rw [if_pos h0,if_pos (hsub _ h0)]
   exact Int.le_refl _
  ·rw [if_neg h0]
   split <;> omega
noncomputable def insC (c:Int) (r:List Int):List Int:=r.filter (fun x=>decide (x<c))++c::r.filter (fun x=>decide (c<x))
theorem mem_insC {c x:Int}{r:List Int}:x∈insC c r↔x=c∨x∈r:=by
 unfold insC
 rw [List.mem_append,List.mem_cons,List.mem_filter,List.mem_filter,decide_eq_true_eq,decide_eq_true_eq]
 constructor
 ·rintro (h|h|h)
  ·exact .inr h.1
  ·exact .inl h
  ·exact .inr h.1
 ·rintro (h|h)
  ·exact .inr (.inl h)
  ·by_cases h1:x<c
   ·exact .inl ⟨h,h1⟩
   ·by_cases h2:x=c
    ·exact .inr (.inl h2)
    ·exact .inr (.inr ⟨h,by omega⟩)
theorem insC_len {c:Int}{r:List Int} (h:c ∉ r):(insC c r).length=r.length+1:=by
 unfold insC
 rw [List.length_append,List.length_cons]
 have : ∀ r:List Int,c ∉ r→(r.filter fun x=>decide (x<c)).length+(r.filter fun x=>decide (c<x)).length=r.length:=fun r=>by
  induction r with
  | nil=>exact fun _=>rfl
  | cons x r ih =>
   intro h
   have h1:c≠x:=fun z=>h (by simp[z])
   have:=ih fun z=>h (List.mem_cons_of_mem _ z)
   by_cases h2:x<c
   ·have h3:¬c<x:=by omega
    rw [List.filter_cons_of_pos (by simpa using h2),List.filter_cons_of_neg (by simpa using h3),List.length_cons,List.length_cons]
    omega
   ·have h3:c<x:=by omega
    rw [List.filter_cons_of_neg (by simpa using h2),List.filter_cons_of_pos (by simpa using h3),List.length_cons,List.length_cons]
    omega
 have:=this r h
 omega
theorem insC_rises {c:Int}{r:List Int} (h:r.Pairwise (·<·)):(insC c r).Pairwise (·<·):=by
 unfold insC
 refine List.pairwise_append.mpr ⟨h.filter _,List.pairwise_cons.mpr ⟨fun x hx=>?_,h.filter _⟩,fun x hx y hy=>?_⟩
 ·simpa using (List.mem_filter.mp hx).2
 ·have h1:x<c:=by simpa using (List.mem_filter.mp hx).2
  rcases List.mem_cons.mp hy with hy|hy
  ·rw [hy];exact h1
  ·have h2:c<y:=by simpa using (List.mem_filter.mp hy).2
   omega
theorem fit_ins {s o l r:List Int}{d:Nat}{c:Int} (hr:r∈fitR s.length (o.getD d 0) l) (hc:0≤c∧c<s.length) (hn:c ∉ r) (hh:(r.length:Int)+1≤o.getD d 0):insC c r∈fitR s.length (o.getD d 0) l:=by
 rw [mem_fit] at hr ⊢
 obtain ⟨h1,h3,h4⟩:=hr
 obtain ⟨_,p1,b1⟩:=subs_row _ _ h1
 refine ⟨subs_mem _ _ (insC_rises p1) fun x hx=>?_,?_,fun k hk e=>mem_insC.mpr (.inr (h4 k hk e))⟩
 ·rcases mem_insC.mp hx with rfl|hx
  ·exact hc
  ·exact b1 x hx
 ·rw [insC_len hn]
  omega
theorem rises_nodup {r:List Int} (h:r.Pairwise (·<·)):r.Nodup:=h.imp fun {a b} (z:a<b) (e:a=b)=>by omega
theorem fit_grow {s o l:List Int}{d:Nat}{r1:List Int} (h1:r1∈fitR s.length (o.getD d 0) l):∀ n (r:List Int),r∈fitR s.length (o.getD d 0) l→r.length+n=r1.length→∃ r'∈fitR s.length (o.getD d 0) l,r'.length=r1.length∧∀ x∈r,x∈r'
 | 0,r,hr,e=>⟨r,hr,by omega,fun x hx=>hx⟩
 | n + 1,r,hr,e=>by
  obtain ⟨_,p1,b1⟩:=subs_row _ _ (List.mem_filter.mp h1).1
  have hh:(r1.length:Int)≤o.getD d 0:=by
   have:=(List.mem_filter.mp h1).2
   unfold goodR at this
   rw [Bool.and_eq_true,decide_eq_true_eq] at this
   exact this.1
  have : ∃ c∈r1,c ∉ r:=by
   by_cases hc:∃ c∈r1,c ∉ r
   ·exact hc
   ·have:=nodup_sub (rises_nodup p1) (U:=r) fun x hx=>by
     by_cases hx2:x∈r
     ·exact hx2
     ·exact absurd ⟨x,hx,hx2⟩ hc
    omega
  obtain ⟨c,c1,c2⟩:=this
  obtain ⟨r',a1,a2,a3⟩:=fit_grow h1 n (insC c r) (fit_ins hr (b1 c c1) c2 (by omega)) (by rw[insC_len c2];omega)
  exact ⟨r',a1,a2,fun x hx=>a3 x (mem_insC.mpr (.inr hx))⟩
theorem full_ok {s o:List Int}{x:Std}{fr:List (List Int)}{r1:List Int} (h1:r1∈fitR s.length (o.getD x.1 0) x.2) (hmax:∀ r∈fitR s.length (o.getD x.1 0) x.2,r.length≤r1.length)
  (hf:∀ r,r∈fr↔r∈fitR s.length (o.getD x.1 0) x.2∧r.length=r1.length):FullS s o x fr:=by
 refine ⟨fun r hr=>((hf r).mp hr).1,fun r hr=>?_,fun r hr r' hr'=>?_,fun r hr h=>(hf r).mpr ⟨hr,Nat.le_antisymm (hmax r hr) (h r1 h1)⟩⟩
 ·obtain ⟨r',a1,a2,a3⟩:=fit_grow h1 (r1.length - r.length) r hr (by have:=hmax r hr;omega)
  exact ⟨r',(hf r').mpr ⟨a1,a2⟩,a3⟩
 ·have a:=((hf r).mp hr).2
  have b:=hmax r' hr'
  omega
theorem full_nil {s o:List Int}{x:Std} (h:fitR s.length (o.getD x.1 0) x.2=[]):FullS s o x []:=by
 refine ⟨fun r hr=>(by cases hr),fun r hr=>?_,fun r hr=>(by cases hr),fun r hr=>?_⟩
 all_goals
  rw [h] at hr
  cases hr
structure LostOk (s o:List Int) (lost:List Std):Prop where
 bg : ((0,s):Std)∈lost
 is : ∀ x∈lost,IsS s o x
 nd : lost.Nodup
 few:lost.length≤(allS s o).length
 down:∀ (j:Nat) x,lost[j]? = some x→∃ fr,FullS s o x fr∧∀ r∈fr,∃ i:Nat,i<j∧lost[i]? = some (nxtS s o x r)
theorem Srch.lostOk {s o:List Int}{places:Std→Option (Option Nat)}{lost:List Std} (h:Srch (FullS s o) (nxtS s o) (0,s) [] [] places lost) (his:∀ x∈lost,IsS s o x):LostOk s o lost:=by
 have nd:lost.Nodup:=by simpa using h.nd
 refine ⟨?_,his,nd,nodup_sub nd fun x hx=>mem_allS (his x hx),h.down⟩
 rcases h.hd with e|⟨_,e⟩
 ·cases e
 ·exact e
structure PapOk (s o:List Int) (P:List (Std×Int)):Prop where
 bg : ∃ e∈P,e.1=((0,s):Std)
 is : ∀ e∈P,IsS s o e.1∧0≤e.2∧e.2<100000
 down:∀ e∈P,∃ fr,FullS s o e.1 fr∧∀ r∈fr,∃ e'∈P,e'.1=nxtS s o e.1 r∧e'.2<e.2
theorem PapOk.step {s o:List Int}{P:List (Std×Int)} (h:PapOk s o P) (hs:∀ x∈s,1≤x) {e:Std×Int}{y z:Std} (he:e∈P) (hn:noB s o e.1 y) (hg:goS s o y z):∃ e'∈P,noB s o e'.1 z∧e'.2<e.2:=by
 obtain ⟨fr,f1,f2⟩:=h.down e he
 obtain ⟨r,hr,hz⟩:=dom_town hs f1 hn hg
 obtain ⟨e',m,q1,q2⟩:=f2 r hr
 exact ⟨e',m,by rw[q1];exact hz,q2⟩
noncomputable abbrev s_choices:Stmt:=top 3
theorem sc_choices:FnScope ["town", "standing", "most", "rows", "clock", "left", "with_it"] ["town", "standing"] (defScope s_choices):=⟨rfl,rfl,rfl,by decide +kernel,rfl,by decide +kernel,by decide +kernel⟩
noncomputable def chs (h:Int) (l:List Int):Nat→List (List Int)
 | 0=>[[]]
 | k+1=>if l.getD k 0=1 then ((chs h l k).filter fun r=>decide ((r.length:Int)<h)).map (·++[(k:Int)]) else chs h l k++((chs h l k).filter fun r=>decide ((r.length:Int)<h)).map (·++[(k:Int)])
theorem dueL_succ (l:List Int) (k:Nat):dueL l (k+1)=dueL l k++(if l.getD k 0=1 then [(k:Int)] else []):=by
 unfold dueL
 rw [List.range_succ,List.filter_append,List.map_append]
 congr 1
 by_cases h:l.getD k 0=1
 ·rw [if_pos h,List.filter_cons_of_pos (by simpa using h)]
  rfl
 ·rw [if_neg h,List.filter_cons_of_neg (by simpa using h)]
  rfl
theorem dueL_lt {l:List Int}{k:Nat}{x:Int} (h:x∈dueL l k):0≤x∧x<k:=by
 unfold dueL at h
 obtain ⟨i,hi,rfl⟩:=List.mem_map.mp h
 have:=List.mem_range.mp (List.mem_filter.mp hi).1
 omega
theorem chs_fit (h:Int) (hh:0≤h) (l:List Int):∀ k,chs h l k=fitR k h l
 | 0 => by
  show [[]]=List.filter _ [[]]
  rw [List.filter_cons_of_pos]
  ·rfl
  ·show goodR h (dueL l 0) []=true
   unfold goodR dueL
   simp [hh]
 | k + 1=>by
  have ih:=chs_fit h hh l k
  have e1:((subs k).map (·++[(k:Int)])).filter (goodR h (dueL l (k+1)))=((fitR k h l).filter fun r=>decide ((r.length:Int)<h)).map (·++[(k:Int)]):=by
   unfold fitR
   rw [List.filter_map,List.filter_filter]
   congr 1
   refine List.filter_congr fun r hr=>?_
   have hr':=subs_row k r hr
   show goodR h (dueL l (k+1)) (r++[(k:Int)])=_
   unfold goodR
   rw [dueL_succ]
   have e2:(List.filter (fun c=>decide (c ∉ r++[(k:Int)])) (dueL l k++if l.getD k 0=1 then [(k:Int)] else []))=List.filter (fun c=>decide (c ∉ r)) (dueL l k):=by
    rw [List.filter_append]
    have e3:List.filter (fun c=>decide (c ∉ r++[(k:Int)])) (if l.getD k 0=1 then [(k:Int)] else [])=[]:=by split <;> simp
    rw [e3,List.append_nil]
    refine List.filter_congr fun c hc=>?_
    have:=dueL_lt hc
    have hne:c≠(k:Int):=by omega
    simp [hne]
   rw [e2]
   have e4:decide (((r++[(k:Int)]).length:Int)≤h)=(decide ((r.length:Int)<h)&&decide ((r.length:Int)≤h)):=by
    rw [List.length_append,List.length_singleton]
    by_cases c:(r.length:Int)<h
    ·have c2:(r.length:Int)≤h:=by omega
     have c3:((r.length+1:Nat):Int)≤h:=by omega
     rw [decide_eq_true c,decide_eq_true c2,decide_eq_true c3];rfl
    ·have c3:¬((r.length+1:Nat):Int)≤h:=by omega
     rw [decide_eq_false c,decide_eq_false c3];rfl
   rw [e4,Bool.and_assoc]
  have e2:(subs k).filter (goodR h (dueL l (k+1)))=if l.getD k 0=1 then [] else fitR k h l:=by
   split
   ·rename_i h1
    refine List.filter_eq_nil_iff.mpr fun r hr=>?_
    have hr':=subs_row k r hr
    unfold goodR
    rw [dueL_succ,if_pos h1,List.filter_append]
    have hn:(k:Int) ∉ r:=fun z=>by have:=hr'.2.2 _ z;omega
    simp [hn]
   ·rename_i h1
    unfold fitR
    rw [dueL_succ,if_neg h1,List.append_nil]
  show (if l.getD k 0=1 then _ else _)=List.filter _ (subs k++(subs k).map (·++[(k:Int)]))
  rw [List.filter_append,e1,e2,ih]
  split
  ·rw [List.nil_append]
  ·rfl
noncomputable def keyN (r:List Int):Int×List Int:=((r.length:Int),r)
noncomputable def chX (n:Nat) (h:Int) (l:List Int):List (List Int):=pick (srtIx ((fitR n h l).map keyN)) (fitR n h l) []
theorem chX_perm (n:Nat) (h:Int) (l:List Int):(chX n h l).Perm (fitR n h l):=pick_perm (by have:=srtIx_perm ((fitR n h l).map keyN);rwa [List.length_map] at this)
theorem chX_last {n:Nat}{h:Int}{l:List Int} (hne:chX n h l≠[]):∃ rl r,chX n h l=rl++[r]∧r∈fitR n h l∧∀ r'∈fitR n h l,r'.length≤r.length:=by
 have hp:=chX_perm n h l
 have hpos:1≤((fitR n h l).map keyN).length:=by
  rw [List.length_map,←hp.length_eq]
  exact List.length_pos_iff.mpr hne
 obtain ⟨j,h1,h2,h3⟩:=srtIx_last hpos
 rw [List.length_map] at h2 h3
 have e:(chX n h l).getLast? = some ((fitR n h l).getD j []):=by
  unfold chX pick
  rw [List.getLast?_map,h1]
  rfl
 obtain ⟨rl,r,erl⟩:∃ rl r,chX n h l=rl++[r]:=⟨(chX n h l).dropLast,(chX n h l).getLast hne,(List.dropLast_concat_getLast hne).symm⟩
 have er:r=(fitR n h l).getD j []:=by
  rw [erl,List.getLast?_append] at e
  simpa using e
 refine ⟨rl,r,erl,by rw[er];exact getD_memL h2,fun r' hr'=>?_⟩
 obtain ⟨i,hi,e2⟩:=List.getElem_of_mem hr'
 have:=h3 i hi
 have g:∀ k,k<(fitR n h l).length→((fitR n h l).map keyN).getD k (0,[])=keyN ((fitR n h l).getD k []):=fun k hk=>by
  simp [List.getD_eq_getElem?_getD,hk]
 rw [g i hi,g j h2] at this
 unfold keyN at this
 simp only at this
 rw [←er,show (fitR n h l).getD i []=r' by simp[List.getD_eq_getElem?_getD,hi,e2]] at this
 omega
theorem key_rows (rr:List (List Int)):(lr rr).map (fun d=>keyD (keyRw d))=rr.map keyN:=by
 show (List.map _ (List.map _ rr))=_
 rw [List.map_map]
 refine List.map_congr_left fun r _=>?_
 show keyD (keyRw (.list (li r)))=keyN r
 unfold keyRw keyD keyN
 simp only [intsOf_map,Option.getD_some,List.length_map]
theorem lr_pick {rr:List (List Int)}{p:List Nat} (h:∀ i∈p,i<rr.length):pick p (lr rr) .none=lr (pick p rr []):=by
 unfold pick
 show _=List.map _ (List.map _ p)
 rw [List.map_map]
 refine List.map_congr_left fun i hi=>?_
 have:=h i hi
 simp [List.getD_eq_getElem?_getD,this]
noncomputable def spChoices:DSp:=fun ss R=>∃ (s o l:List Int) (d:Nat),ss=[.fr (.tuple [.list (li s),.list (li o)]),.fr (.tuple [.int d,.tuple (li l)])]∧s.length≤6∧0≤o.getD d 0∧(s.length≤4∨o.getD d 0≤3)∧StB s o d l ∧
 R (.ow (lr (chX s.length (o.getD d 0) l))) [.un,.un]
theorem bi_choices {f:Addr}{fd:FuncData} (F:Fun K "choices" "choices" s_choices f fd):Binds K fd ["town", "standing"] []:=F.binds (ps:=["town", "standing"]) fun _ _ _ _ _ _ us hl=>us2 (Q:=fun us=>bindArgs _ ⟨us,[]⟩=pure (List.zip _ us)) hl fun _ _=>rfl
theorem ok_choices {f:Addr}{fd:FuncData} (F:Fun K "choices" "choices" s_choices f fd) (B:Bn mg) (L:LamFd K base "choices" fd) (G_hands_on:Cal P w K mg base "hands_on" 1 (spD K spHandsOn)):FnOk P w K mg base CX0 6 f fd ["town", "standing"] (spD K spChoices):=by
 refine okDL (k:=5) F sc_choices (fun ss R h=>?_) (by decide) (fun cdv hcd A outer s H E hr=>⟨_,(qs_bar (q_set (i:=2) sc_choices.nd rfl (Or.inr rfl) (q_call G_hands_on (hr.mono (by decide)) rfl (qa_cons (qf 0) (qa_cons (qf 1) qa_nil))))
   (qs_bar (q_set (i:=3) sc_choices.nd rfl (Or.inl rfl) (q_lst (qa_cons (q_lst qa_nil) qa_nil)))
   (qs_bar (q_for PassesOwn.never rfl (qi_enum true (K:=K) rfl rfl B.enumerate (qa_cons (q_ix (ix_any (K:=K) rfl) mIx (qv 1) q_int (fun _ _=>rfl)) qa_nil)) (qg_tup (K:=K) (n:=2) rfl rfl (qgs_cons (qg_name (i:=4) sc_choices.nd rfl (Or.inr rfl)) (qgs_cons (qg_name (i:=5) sc_choices.nd rfl (Or.inl rfl)) qgs_nil))) (qs_bar (q_setComp (i:=6)  sc_choices.nd rfl rfl (N':=["row", "most", "clock"]) (ix:=[none,some 2,some 4]) rfl (bs_of (N:=["town", "standing", "most", "rows", "clock", "left", "with_it"]) (sc0:=defScope s_choices) rfl rfl (by decide +kernel)) (qi_list (K:=K) rfl (qf 3)) (fun _ _ _ _=>(qg_name (i:=0) (show List.Nodup (["row", "most", "clock"]:List Str) by decide +kernel) rfl (Or.inl rfl))) (fun _ _ _ _=>(qif_one (qt_cmp op_lt mB (q_cb (kLen (K:=K) rfl) mLen rfl B.len PySem.boot_len (qa_cons (qv 0) qa_nil)) (qv 1) (nomark _)))) (fun _ _ _ _=>(q_opL (op_catS (K:=K) rfl) mCat (qv 0) (q_lst (qa_cons (qf 2) qa_nil)))))
   (qs_one (q_set (i:=3) sc_choices.nd rfl (Or.inl rfl) (q_ifExp (qt_cmp op_eq mEqI (qv 5) q_int (nomark _)) (qf 6) (q_opL (op_catS (K:=K) rfl) mCat (qv 3) (qv 6)))))))
   (qs_one (q_ret (q_srtKX (K:=K) rfl (let ⟨c,T,a,b,d⟩:=L;⟨c,T,hcd.trans a,b,d⟩) (hr.mono (by decide)) rfl B.sorted B.len (qa_cons (qv 3) qa_nil) ⟨rfl,rfl,rfl,by decide,rfl,fun x hx=>by rw[List.mem_singleton.mp hx];exact .inl rfl,by decide⟩ (fun _ _ _ _=>rfl) (fun _ _ _ _ _=>rfl) rfl rfl)))))),fun ss R h=>?_⟩)
 ·obtain ⟨s,o,l,d,rfl,_⟩:=h
  rfl
 obtain ⟨s,o,l,d,rfl,t2,t0,t7,sb,q⟩:=h
 obtain ⟨s1,s2⟩:=sb
 walk_at "dx"
 refine ⟨s,o,l,d,rfl,s1,?_⟩
 walk_at "dx"
 refine ⟨Nat.zero_le _,Nat.le_trans (by decide) line_big,?_⟩
 walk_at "dx"
 refine fd_intro (fun i env=>∃ (rv a b c:Sl),env=[.fr (.tuple [.list (li s),.list (li o)]),.fr (.tuple [.int d,.tuple (li l)]),.fr (.int (o.getD d 0)),rv,a,b,c]∧(rv=.ow (lr (chs (o.getD d 0) l i))∨rv=.fr (.list (lr (chs (o.getD d 0) l i))))) ⟨_,_,_,_,rfl,.inl rfl⟩ ?_ ?_
 ·rintro i env hi ⟨rv,a,b,c,rfl,hrv⟩
  rw [enumD_get,li_get]
  rw [enumD_len,List.length_map] at hi
  have hz:(chs (o.getD d 0) l i).length≤64:=by
   rw [chs_fit _ t0]
   refine Nat.le_trans (List.length_filter_le _ _) ?_
   rw [subs_len]
   exact Nat.pow_le_pow_right (by decide) (show i≤6 by omega)
  have hrow:∀ r∈chs (o.getD d 0) l i,r.length≤6:=fun r hr=>by
   rw [chs_fit _ t0] at hr
   have:=(subs_row i r (List.mem_filter.mp hr).1).1
   omega
  have eC:chs (o.getD d 0) l (i+1)=if l.getD i 0=1 then ((chs (o.getD d 0) l i).filter fun r=>decide ((r.length:Int)<o.getD d 0)).map (·++[(i:Int)]) else chs (o.getD d 0) l i++((chs (o.getD d 0) l i).filter fun r=>decide ((r.length:Int)<o.getD d 0)).map (·++[(i:Int)]):=rfl
  rw [eC]
  generalize chs (o.getD d 0) l i=cs at *
  generalize o.getD d 0=hd at *
  rcases hrv with rfl|rfl
  all_goals
   walk_at "dx"
   refine cd_filter (fun j=>decide (((cs.getD j []).length:Int)<hd)) (fun j=>.list (li (cs.getD j []++[(i:Int)]))) (by rw[List.length_map];omega) (fun j hj Q Q' h1 h2=>?_) ?_
   ·rw [List.length_map] at hj
    rw [lr_get]
    have hm:=hrow _ (getD_memL (l:=cs) hj)
    walk_at "dx"
    rw [List.length_map]
    refine ite2 (fun h=>?_) (fun h=>h2 (by simpa using h))
    rw [li_snoc]
    exact ⟨Nat.le_trans (by decide) line_big,Nat.le_trans (by omega) line_big,h1 (by simpa using h)⟩
   rw [List.length_map,range_filterD cs [] (fun r=>decide ((r.length:Int)<hd)) (fun r=>PyData.list (li (r++[(i:Int)])))]
   walk_at "dx"
   refine ite2 (fun h1=>?_) (fun h1=>?_)
   ·rw [if_pos h1]
    exact .inr (by simp)
   ·rw [if_neg h1]
    have hf:=List.length_filter_le (fun r:List Int=>decide ((r.length:Int)<hd)) cs
    refine ⟨?_,.inl (by simp)⟩
    rw [List.length_map,List.length_map]
    exact Nat.le_trans (by omega) line_big
 ·rintro env ⟨rv,a,b,c,rfl,hrv⟩
  rw [enumD_len,List.length_map,s2] at hrv
  have hz:(chs (o.getD d 0) l s.length).length<64:=by
   rw [chs_fit _ t0]
   exact fit_few t2 t7
  have hr:∀ x∈lr (chs (o.getD d 0) l s.length),isRow x:=fun x hx=>by
   obtain ⟨r,_,rfl⟩:=List.mem_map.mp hx
   exact ⟨r,rfl⟩
  have e:pick (srtIx ((lr (chs (o.getD d 0) l s.length)).map fun d=>keyD (keyRw d))) (lr (chs (o.getD d 0) l s.length)) .none=lr (chX s.length (o.getD d 0) l):=by
   rw [key_rows,chs_fit _ t0]
   exact lr_pick fun i hi=>by have:=srtIx_lt i hi;rwa [List.length_map] at this
  rcases hrv with rfl|rfl
  all_goals
   walk_at "dx"
   refine ⟨hr,by rw[List.length_map];exact hz,?_⟩
   rw [e]
   exact q
theorem atI_lastR (rl:List (List Int)) (x:List Int):atI (lr (rl++[x])) (-1)=some (.list (li x)):=by
 show atI (List.map _ (rl++[x])) (-1)=_
 rw [List.map_append]
 exact atI_lastV _ _
noncomputable abbrev s_full_rows:Stmt:=top 6
theorem sc_full_rows:FnScope ["town", "standing", "lefts", "rows", "full"] ["town", "standing"] (defScope s_full_rows):=⟨rfl,rfl,rfl,by decide +kernel,rfl,by decide +kernel,by decide +kernel⟩
noncomputable def spFull:DSp:=fun ss R=>∃ (s o l:List Int) (d:Nat),ss=[.fr (.tuple [.list (li s),.list (li o)]),.fr (.tuple [.int d,.tuple (li l)])]∧s.length≤6∧0≤o.getD d 0∧(s.length≤4∨o.getD d 0≤3)∧StB s o d l ∧
 ∀ fr:List (List Int),FullS s o (d,l) fr→fr.length<64→(∀ r∈fr,r.length≤6)→R (.ow (lr fr)) [.un,.un]
theorem bi_full_rows {f:Addr}{fd:FuncData} (F:Fun K "full_rows" "full_rows" s_full_rows f fd):Binds K fd ["town", "standing"] []:=F.binds (ps:=["town", "standing"]) fun _ _ _ _ _ _ us hl=>us2 (Q:=fun us=>bindArgs _ ⟨us,[]⟩=pure (List.zip _ us)) hl fun _ _=>rfl
theorem ok_full_rows {f:Addr}{fd:FuncData} (F:Fun K "full_rows" "full_rows" s_full_rows f fd) (B:Bn mg) (L:LamFd K base "full_rows" fd) (G_choices:Cal P w K mg base "choices" 6 (spD K spChoices)):FnOk P w K mg base CX0 7 f fd ["town", "standing"] (spD K spFull):=by
 refine okDL (k:=6) F sc_full_rows (fun ss R h=>?_) (by decide) (fun cdv hcd A outer s H E hr=>⟨_,(qs_cons (q_set (i:=2) sc_full_rows.nd rfl (Or.inr rfl) (q_ix (ix_any (K:=K) rfl) mIx (qv 1) q_int (fun _ _=>rfl)))
   (qs_cons (q_set (i:=3) sc_full_rows.nd rfl (Or.inr rfl) (q_call G_choices (hr.mono (by decide)) rfl (qa_cons (qf 0) (qa_cons (qf 1) qa_nil))))
   (qs_cons (q_setComp (i:=4)  sc_full_rows.nd rfl rfl (N':=["row", "rows"]) (ix:=[none,some 3]) rfl (bs_of (N:=["town", "standing", "lefts", "rows", "full"]) (sc0:=defScope s_full_rows) rfl rfl (by decide +kernel)) (qi_list (K:=K) rfl (qf 3)) (fun _ _ _ _=>(qg_name (i:=0) (show List.Nodup (["row", "rows"]:List Str) by decide +kernel) rfl (Or.inl rfl))) (fun _ _ _ _=>(qif_one (qt_cmp op_eq mEqI (q_cb (kLen (K:=K) rfl) mLen rfl B.len PySem.boot_len (qa_cons (qv 0) qa_nil)) (q_cb (kLen (K:=K) rfl) mLen rfl B.len PySem.boot_len (qa_cons (q_ix (ix_any (K:=K) rfl) mIx (qv 1) (q_un un_neg mNeg q_int) (fun _ _=>rfl)) qa_nil)) (nomark _)))) (fun _ _ _ _=>(qf 0)))
   (qs_one (q_ret (q_srtC 2 (p := "row") (x := "lefts") (K:=K) rfl (Or.inr rfl) (let ⟨c,T,a,b,d⟩:=L;⟨c,T,hcd.trans a,b,d⟩) (hr.mono (by decide)) rfl B.sorted (qa_cons (qv 4) qa_nil) ⟨rfl,rfl,rfl,rfl,rfl,by decide,by decide,by decide⟩ rfl (Or.inr (Or.inl rfl)) (Or.inl rfl) (fun z=>nomatch (show (some NameKind.cell:Option NameKind)=some .local from z)) (fun _ _ _ _ _ _=>rfl) (fun c hc=>by cases hc;rfl) rfl (fun _ _ _ _ _ _ _=>(q_srtO (K:=K) rfl rfl B.sorted (qa_cons (q_comp (N':=["clock", "lefts"]) (ix:=[none,some 1]) rfl (bs_cl (by decide +kernel)) (qi_list (K:=K) rfl (qf 0)) (fun _ _ _ _=>(qg_name (i:=0) (show List.Nodup (["clock", "lefts"]:List Str) by decide +kernel) rfl (Or.inl rfl))) (fun _ _ _ _=>qif_nil) (fun _ _ _ _=>(q_ix (ix_any (K:=K) rfl) mIx (qv 1) (qv 0) (fun _ _=>rfl)))) qa_nil))))))))),fun ss R h=>?_⟩)
 ·obtain ⟨s,o,l,d,rfl,_⟩:=h
  rfl
 obtain ⟨s,o,l,d,rfl,t2,t0,t7,sb,q⟩:=h
 obtain ⟨s1,s2⟩:=id sb
 walk_at "dd"
 refine ⟨s,o,l,d,rfl,t2,t0,t7,sb,?_⟩
 walk_at "dd"
 have hp:=chX_perm s.length (o.getD d 0) l
 have hl64:(chX s.length (o.getD d 0) l).length<64:=by rw[hp.length_eq];exact fit_few t2 t7
 have hrl:∀ r∈chX s.length (o.getD d 0) l,r.length≤6:=fun r hr=>by
  have:=(subs_row _ r (List.mem_filter.mp (hp.mem_iff.mp hr)).1).1
  omega
 have hin:∀ r∈chX s.length (o.getD d 0) l,∀ x∈r,0≤x∧x<s.length:=fun r hr=>(subs_row _ r (List.mem_filter.mp (hp.mem_iff.mp hr)).1).2.2
 have hf:∀ m:Nat,((chX s.length (o.getD d 0) l).filter fun r=>decide (r.length=m)).length<64:=fun m=>Nat.lt_of_le_of_lt (List.length_filter_le _ _) hl64
 obtain ⟨m,hm,hF⟩:∃ m:Nat,(∀ j,j<(chX s.length (o.getD d 0) l).length→∃ z:List Int,atI (lr (chX s.length (o.getD d 0) l)) (-1)=some (.list (li z))∧z.length=m) ∧
   ∀ fr:List (List Int),fr.Perm ((chX s.length (o.getD d 0) l).filter fun r=>decide (r.length=m))→FullS s o (d,l) fr:=by
  by_cases hne:chX s.length (o.getD d 0) l=[]
  ·refine ⟨0,fun j hj=>by rw[hne] at hj;simp at hj,fun fr hfr=>?_⟩
   rw [hne] at hfr hp
   rw [show fr=[] from List.Perm.eq_nil hfr]
   exact full_nil (show fitR s.length (o.getD d 0) l=[] from List.Perm.eq_nil hp.symm)
  ·obtain ⟨rl,r,e1,e2,e3⟩:=chX_last hne
   refine ⟨r.length,fun j hj=>⟨r,by rw[e1];exact atI_lastR _ _,rfl⟩,fun fr hfr=>full_ok (x:=(d,l)) e2 e3 fun r'=>?_⟩
   rw [hfr.mem_iff,List.mem_filter,hp.mem_iff]
   simp
 generalize chX s.length (o.getD d 0) l=cs at *
 refine cd_filter (fun j=>decide ((cs.getD j []).length=m)) (fun j=>.list (li (cs.getD j []))) (by rw[List.length_map];omega) (fun j hj Q Q' h1 h2=>?_) ?_
 ·rw [List.length_map] at hj
  rw [lr_get]
  obtain ⟨z,z1,z2⟩:=hm j hj
  walk_at "dd"
  refine ⟨_,z1,_,rfl,?_⟩
  rw [List.length_map,List.length_map]
  refine ite2 (fun h=>h1 (decide_eq_true (by omega))) (fun h=>h2 (decide_eq_false (by omega)))
 rw [List.length_map,range_filterD cs [] (fun r=>decide (r.length=m)) (fun r=>PyData.list (li r))]
 walk_at "dd"
 have hfm:∀ r∈List.filter (fun r=>decide (r.length=m)) cs,r∈cs:=fun r hr=>(List.mem_filter.mp hr).1
 refine ⟨by rw[List.length_map];exact hf m,fun x hx=>?_,fun es hes=>?_⟩
 ·obtain ⟨r,hr,rfl⟩:=List.mem_map.mp hx
  refine ⟨_,rfl,cd_map (fun i=>.int (l.getD (r.getD i 0).toNat 0)) (by rw[List.length_map];have:=hrl r (hfm r hr);omega) (fun i hi Q hQ=>?_) ?_⟩
  ·rw [List.length_map] at hi
   rw [li_get]
   have h9:=hin r (hfm r hr) _ (show r.getD i 0∈r by rw[List.getD_eq_getElem?_getD,List.getElem?_eq_getElem hi];exact List.getElem_mem hi)
   walk_at "dd"
   rw [show r.getD i 0=((r.getD i 0).toNat:Int) by omega]
   exact ⟨_,atI_li (by omega),hQ⟩
  ·have e:(List.range (li r).length).map (fun i:Nat=>PyData.int (l.getD (r.getD i 0).toNat 0))=li ((List.range r.length).map fun i=>l.getD (r.getD i 0).toNat 0):=by
    rw [List.length_map]
    show _=List.map _ (List.map _ _)
    rw [List.map_map]
    rfl
   rw [e]
   walk_at "dx"
   refine ⟨_,rfl,?_,fun ms _ _=>⟨ms,rfl⟩⟩
   have:=hrl r (hfm r hr)
   simp;omega
 ·obtain ⟨rr,hpr,rfl⟩:=perm_lift hes _ rfl
  exact q rr (hF rr hpr) (by rw[hpr.length_eq];exact hf m) fun r hr=>hrl r (hfm r (hpr.mem_iff.mp hr))
noncomputable abbrev stS (x:Std):PyData:=stdD ((x.1:Int),x.2)
noncomputable def plV:PyData→Option Nat
 | .int i=>some i.toNat
 | _=>none
noncomputable def kOf (x:Std):StdK:=((x.1:Int),x.2)
theorem kOf_inj {x y:Std} (h:kOf x=kOf y):x=y:=by
 obtain ⟨a,b⟩:=x
 obtain ⟨c,d⟩:=y
 unfold kOf at h
 simp only [Prod.mk.injEq] at h ⊢
 exact ⟨by omega,h.2⟩
noncomputable def plc (kvs:List (StdK×PyData)) (x:Std):Option (Option Nat):=(getK kvs (kOf x)).map plV
theorem plc_set (kvs:List (StdK×PyData)) (x:Std) (d:PyData) (y:Std):plc (setK kvs (kOf x) d) y=if y=x then some (plV d) else plc kvs y:=by
 unfold plc
 rw [getK_set]
 by_cases h:y=x
 ·rw [if_pos h,if_pos (by rw[h])]
  rfl
 ·rw [if_neg h,if_neg fun z=>h (kOf_inj z)]
theorem setK_in {κ β:Type} [DecidableEq κ] {kvs:List (κ×β)}{k:κ}{v:β} (h:(getK kvs k).isSome=true):(setK kvs k v).length=kvs.length:=by
 unfold setK
 rw [if_pos h,List.length_map]
theorem setK_mem {κ β:Type} [DecidableEq κ] {kvs:List (κ×β)}{k:κ}{v:β}:∀ p∈setK kvs k v,p.2=v∨p∈kvs:=by
 intro p hp
 unfold setK at hp
 split at hp
 ·obtain ⟨q,hq,rfl⟩:=List.mem_map.mp hp
  split
  ·exact .inl rfl
  ·exact .inr hq
 ·rcases List.mem_append.mp hp with h|h
  ·exact .inr h
  ·rw [List.mem_singleton.mp h]
   exact .inl rfl
theorem getK_mem {κ β:Type} [DecidableEq κ] {kvs:List (κ×β)}{k:κ}{v:β} (h:getK kvs k=some v):(k,v)∈kvs:=by
 induction kvs with
 | nil=>cases h
 | cons p kvs ih =>
  rw [getK_cons] at h
  split at h
  ·rename_i e
   cases h
   subst e
   exact List.mem_cons_self
  ·exact List.mem_cons_of_mem _ (ih h)
theorem heads_lr (W:List (List (List Int))):(List.range (List.map wD W).length).map (fun i:Nat=>PyData.list (li ((W.getD i []).getD 0 [])))=lr (W.map fun w=>w.getD 0 []):=by
 show _=List.map _ (List.map _ _)
 rw [List.length_map,List.map_map]
 refine List.ext_getElem (by simp) fun i h1 h2=>?_
 rw [List.length_map] at h2
 simp [List.getD_eq_getElem?_getD,h2]
theorem cutL_lr (ns:List (List Int)) (a b:Option Int):cutD (lr ns) a b=lr ((ns.drop (HT.sIx ns.length 0 a)).take (HT.sIx ns.length ns.length b - HT.sIx ns.length 0 a)):=by
 unfold cutD
 show (List.drop _ (List.map (fun r=>PyData.list (li r)) ns)).take _=List.map _ _
 rw [List.length_map,List.map_take,List.map_drop]
theorem cutL_take (ns:List (List Int)) (c:Nat):cutD (lr ns) none (some (c:Int))=lr (ns.take c):=by
 rw [cutL_lr,HT.sIx_none,HT.sIx_nat,List.drop_zero,Nat.sub_zero]
 by_cases h:c≤ns.length
 ·rw [Nat.min_eq_left h]
 ·rw [Nat.min_eq_right (by omega),List.take_of_length_le (Nat.le_refl _),List.take_of_length_le (by omega)]
theorem cutL_drop (ns:List (List Int)) (c:Nat):cutD (lr ns) (some (c:Int)) none=lr (ns.drop c):=by
 rw [cutL_lr,HT.sIx_none,HT.sIx_nat]
 by_cases h:c≤ns.length
 ·rw [Nat.min_eq_left h,List.take_of_length_le (by simp)]
 ·rw [Nat.min_eq_right (by omega),List.drop_of_length_le (Nat.le_refl _),List.drop_of_length_le (by omega)]
  simp
noncomputable abbrev s_looked_through:Stmt:=top 7
theorem sc_looked_through:FnScope ["town", "standing", "path", "ways", "places", "lost", "ahead", "rows"] ["town", "standing"] (defScope s_looked_through):=⟨rfl,rfl,rfl,by decide +kernel,rfl,by decide +kernel,by decide +kernel⟩
noncomputable def TbL (s o:List Int):Prop:=s.length≤6∧1≤o.length∧(∀ x∈s,1≤x)∧(∀ h∈o,0≤h)∧(s.length≤4∨∀ h∈o,h≤3)∧(allS s o).length<100000
noncomputable def spLook:DSp:=fun ss R=>∃ (s o:List Int),ss=[.fr (.tuple [.list (li s),.list (li o)]),.fr (.tuple [.int 0,.tuple (li s)])]∧TbL s o ∧
 (∀ (A B:List (List Int)) (x:PyData),R (.fr (.tuple [.tuple [.list (lr A),.list (lr B)],x])) [.un,.un]) ∧
 ∀ lost:List Std,LostOk s o lost→R (.fr (.tuple [.none,.list (lost.map stS)])) [.un,.un]
theorem bi_looked_through {f:Addr}{fd:FuncData} (F:Fun K "looked_through" "looked_through" s_looked_through f fd):Binds K fd ["town", "standing"] []:=F.binds (ps:=["town", "standing"]) fun _ _ _ _ _ _ us hl=>us2 (Q:=fun us=>bindArgs _ ⟨us,[]⟩=pure (List.zip _ us)) hl fun _ _=>rfl
theorem ok_looked_through {f:Addr}{fd:FuncData} (F:Fun K "looked_through" "looked_through" s_looked_through f fd) (B:Bn mg) (G_full_rows:Cal P w K mg base "full_rows" 7 (spD K spFull)) (G_behind:Cal P w K mg base "behind" 1 (spD K spBehind)):FnOk P w K mg base CX0 9 f fd ["town", "standing"] (spD K spLook):=by
 refine okD (k:=8) F sc_looked_through (fun ss R h=>?_) (by decide) (fun cdv A outer s H E hr=>⟨_,(qs_bar (q_set (i:=2) sc_looked_through.nd rfl (Or.inl rfl) (q_lst (qa_cons (qf 1) qa_nil)))
   (qs_bar (q_set (i:=3) sc_looked_through.nd rfl (Or.inl rfl) (q_lstT (qa_cons (q_call G_full_rows (hr.mono (by decide)) rfl (qa_cons (qf 0) (qa_cons (qf 1) qa_nil))) qa_nil)))
   (qs_bar (q_set (i:=4) sc_looked_through.nd rfl (Or.inl rfl) (q_dct1 (K:=K) rfl (hu2 hr) (qf 1) q_int))
   (qs_bar (q_set (i:=5) sc_looked_through.nd rfl (Or.inl rfl) (q_lst qa_nil))
   (qs_bar (q_while PassesOwn.never (qt_truth (K:=K) rfl (qv 2)) (qs_bar (q_if (qt_not (qt_truthL 3 (K:=K) rfl rfl)) (qs_bar (q_expr (q_app 5 (K:=K) rfl rfl (q_pop 2 (K:=K) rfl rfl)))
   (qs_bar (q_setK 4 (K:=K) rfl (hu2 hr) rfl (q_ix (ix_any (K:=K) rfl) mIx (qv 5) (q_un un_neg mNeg q_int) (fun _ _=>rfl)) q_non)
   (qs_bar (q_expr (q_popL 3 (K:=K) rfl rfl))
   (qs_one q_continue)))) qs_nil)
   (qs_bar (q_set (i:=6) sc_looked_through.nd rfl (Or.inl rfl) (q_call G_behind (hr.mono (by decide)) rfl (qa_cons (qf 0) (qa_cons (q_ix (ix_any (K:=K) rfl) mIx (qv 2) (q_un un_neg mNeg q_int) (fun _ _=>rfl)) (qa_cons (q_headL 3 (K:=K) rfl rfl) qa_nil)))))
   (qs_one (q_if (qt_cmp (kNotInK (K:=K) rfl (hu2 hr)) mNotInK (qv 6) (qv 4) (by with_unfolding_all rfl)) (qs_bar (q_setK 4 (K:=K) rfl (hu2 hr) rfl (qf 6) (q_cb (kLen (K:=K) rfl) mLen rfl B.len PySem.boot_len (qa_cons (qv 2) qa_nil)))
   (qs_bar (q_expr (q_app 2 (K:=K) rfl rfl (qf 6)))
   (qs_one (q_expr (q_appT 3 (K:=K) rfl rfl (q_call G_full_rows (hr.mono (by decide)) rfl (qa_cons (qf 0) (qa_cons (qf 6) qa_nil)))))))) (qs_one (q_if (qt_cmp op_isN mIsN (q_ix (kIxK (K:=K) rfl (hu2 hr)) mIxK (qv 4) (qv 6) (fun _ _=>rfl)) q_non (nomark _)) (qs_one (q_expr (q_pop0L 3 (K:=K) rfl rfl))) (qs_bar (q_setComp (i:=7)  sc_looked_through.nd rfl rfl (N':=["way"]) (ix:=[none]) rfl (bs_of (N:=["town", "standing", "path", "ways", "places", "lost", "ahead", "rows"]) (sc0:=defScope s_looked_through) rfl rfl (by decide +kernel)) (qi_list (K:=K) rfl (qf 3)) (fun _ _ _ _=>(qg_name (i:=0) (show List.Nodup (["way"]:List Str) by decide +kernel) rfl (Or.inl rfl))) (fun _ _ _ _=>qif_nil) (fun _ _ _ _=>(q_ix (ix_any (K:=K) rfl) mIxZ (qv 0) q_int (fun _ _=>rfl))))
   (qs_one (q_ret (q_tup (qa_cons (q_tup (qa_cons (q_slL (K:=K) rfl (qv 7) qo_none (qo_some (q_ix (kIxK (K:=K) rfl (hu2 hr)) mIxK (qv 4) (qv 6) (fun _ _=>rfl)))) (qa_cons (q_slL (K:=K) rfl (qv 7) (qo_some (q_ix (kIxK (K:=K) rfl (hu2 hr)) mIxK (qv 4) (qv 6) (fun _ _=>rfl))) qo_none) qa_nil))) (qa_cons (qf 5) qa_nil)))))))))))))
   (qs_one (q_ret (q_tup (qa_cons q_non (qa_cons (qf 5) qa_nil)))))))))),fun ss R h=>?_⟩)
 ·obtain ⟨s,o,rfl,_⟩:=h
  rfl
 obtain ⟨s,o,rfl,⟨t1,t2,t3,t4,t5,t6⟩,q1,q2⟩:=h
 walk_at "dx"
 have hh:∀ d,d<o.length→0≤o.getD d 0∧(s.length≤4∨o.getD d 0≤3):=fun d hd=>⟨t4 _ (getD_mem' hd),t5.imp id fun h=>h _ (getD_mem' hd)⟩
 have i0:IsS s o (0,s):=⟨t2,rfl,fun c hc=>⟨t3 _ (getD_mem' hc),Int.le_refl _⟩⟩
 refine ⟨Nat.le_trans (by decide) line_big,?_⟩
 walk_at "dx"
 refine ⟨s,o,s,0,rfl,t1,(hh 0 t2).1,(hh 0 t2).2,⟨t2,rfl⟩,fun fr hfr hfl hrl=>?_⟩
 refine ⟨[wD fr],?_,Nat.le_trans (by decide) line_big,fun S=>?_⟩
 ·show (treeD [] (Sl.ow (lr fr))).bind _=_
  rw [tree_way]
  rfl
 walk_at "dx"
 refine ⟨((0:Int),s),rfl,rfl,fun S1=>?_⟩
 walk_at "dx"
 refine ⟨Nat.zero_le _,?_⟩
 walk_at "dx"
 refine ⟨fun m env=>∃ (path:List Std) (Wy:List (List (List Int))) (kvs:List (StdK×PyData)) (lost:List Std) (S1 S2:List Addr) (a b:Sl),
  env=[.fr (.tuple [.list (li s),.list (li o)]),.fr (.tuple [.int 0,.tuple (li s)]),.ow (path.map stS),.tr S1 (waysD Wy),.tr S2 (dctD kvs),.ow (lost.map stS),a,b] ∧
  Srch (FullS s o) (nxtS s o) (0,s) path Wy (plc kvs) lost∧(∀ x∈path++lost,IsS s o x)∧(∀ w∈Wy,w.length<64∧∀ r∈w,r.length≤6)∧(∀ p∈kvs,p.2=.none∨∃ i:Nat,p.2=.int i)∧kvs.length≤path.length+lost.length∧m=srchM (allS s o).length 66 path lost Wy,⟨_,[(0,s)],[fr],[(((0:Int),s),.int 0)],[],S,S1,.un,.un,rfl,?_,?_,?_,?_,?_,rfl⟩,?_⟩
 ·refine Srch.init hfr fun x=>?_
  show plc (setK [] (kOf (0,s)) (.int 0)) x=_
  rw [plc_set]
  rfl
 ·intro x hx
  simp at hx
  rw [hx]
  exact i0
 ·intro w hw
  simp at hw
  rw [hw]
  exact ⟨hfl,hrl⟩
 ·intro p hp
  simp at hp
  rw [hp]
  exact .inr ⟨0,rfl⟩
 ·simp
 rintro m env ⟨path,Wy,kvs,lost,S1,S2,a,b,rfl,hs,his,hw,hkv,hkl,rfl⟩
 have hfew:=hs.few fun x hx=>mem_allS (his x hx)
 have big:∀ n:Nat,n≤100000→n<sizeLine:=fun n h=>Nat.lt_of_lt_of_le (by omega) line_big
 walk_at "dx"
 rcases List.eq_nil_or_concat path with rfl|⟨P,x,rfl⟩
 ·have e:Wy=[]:=List.length_eq_zero_iff.mp hs.len
  subst e
  rw [if_neg (by simp)]
  walk_at "dx"
  exact ⟨Nat.le_trans (by decide) line_big,q2 _ (hs.lostOk fun x hx=>his x (by simpa using hx))⟩
 rw [List.concat_eq_append] at hs his hkl hfew ⊢
 obtain ⟨V,w,rfl⟩:∃ V w,Wy=V++[w]:=by
  rcases List.eq_nil_or_concat Wy with rfl|⟨V,w,rfl⟩
  ·have:=hs.len
   simp at this
  ·exact ⟨V,w,List.concat_eq_append ..⟩
 have isx:IsS s o x:=his x (by simp)
 have hl:V.length=P.length:=by have:=hs.len;simpa using this
 rw [List.map_append,if_pos (by simp)]
 cases w with
 | nil =>
  refine ⟨V,[],rfl,?_⟩
  rw [if_pos (show (!([]:List (List Int)).isEmpty)=false from rfl)]
  have gx:(getK kvs (kOf x)).isSome=true:=by
   have:=(hs.on x P.length).mpr (by simp)
   unfold plc at this
   cases e:getK kvs (kOf x) with
   | none=>rw[e] at this;cases this
   | some v=>rfl
  refine ⟨stS x,by simp,big _ (by simp at hfew ⊢;omega),?_⟩
  walk_at "dx"
  refine ⟨⟨kvs,rfl⟩,stS x,atI_lastV _ _,kvs,rfl,kOf x,rfl,big _ (by omega),?_⟩
  walk_at "dx"
  refine ⟨V,[],rfl,fun S'=>?_⟩
  walk_at "dx"
  refine ⟨_,Srch.lt_lose hfew,P,by simp,V,rfl,setK kvs (kOf x) .none,rfl,lost++[x],by simp,hs.lose fun y=>plc_set kvs x .none y,fun y hy=>his y (by simp at hy ⊢;rcases hy with h|h|h <;> simp[h]),fun v hv=>hw v (by simp[hv]),fun p hp=>?_,?_,rfl⟩
  ·rcases setK_mem p hp with e|e
   ·exact .inl e
   ·exact hkv p e
  ·rw [setK_in gx]
   simp at hkl ⊢
   omega
 | cons r w =>
  refine ⟨V,r::w,rfl,?_⟩
  rw [if_neg (show ¬(!(r::w).isEmpty)=false from by simp)]
  have hr:r∈fitR s.length (o.getD x.1 0) x.2:=by
   obtain ⟨fr,pre,a1,a2,_⟩:=hs.way P.length x (r::w) (by simp) (by rw[←hl];simp)
   exact a1.1 r (by rw[a2];simp)
  have isn:=nxt_is t3 isx hr
  walk_at "dx"
  refine ⟨stS x,atI_lastV _ _,V,r,w,rfl,s,o,x.2,r,x.1,rfl,t2,isx.2.1,by omega,?_⟩
  walk_at "dx"
  refine ⟨kOf (nxtS s o x r),rfl,rfl,kvs,rfl,ite2 (fun h=>?_) (fun h=>?_)⟩
  ·have hnone:plc kvs (nxtS s o x r)=none:=by
    unfold plc
    cases e:getK kvs (kOf (nxtS s o x r)) with
    | none=>rfl
    | some v=>rw[e] at h;cases h
   have nin:(P++[x]++[nxtS s o x r]++lost).Nodup:=by
    have hz:=hs.nd
    have n1:nxtS s o x r ∉ P++[x]:=fun z=>by
     obtain ⟨i,hi,e⟩:=List.getElem_of_mem z
     have:=(hs.on (nxtS s o x r) i).mpr (by rw[List.getElem?_eq_getElem hi,e])
     rw [hnone] at this;cases this
    have n2:nxtS s o x r ∉ lost:=fun z=>by
     have:=(hs.off (nxtS s o x r)).mpr z
     rw [hnone] at this;cases this
    have:(nxtS s o x r::(P++[x]++lost)).Nodup:=List.nodup_cons.mpr ⟨fun z=>(List.mem_append.mp z).elim n1 n2,hz⟩
    refine List.Perm.nodup_iff ?_ |>.mp this
    rw [List.append_assoc (P++[x]) [nxtS s o x r] lost]
    exact List.perm_middle.symm
   have hmem:∀ y∈P++[x]++[nxtS s o x r]++lost,IsS s o y:=fun y hy=>by
    simp only [List.mem_append,List.mem_singleton] at hy
    rcases hy with ((h|h)|h)|h
    ·exact his y (by simp[h])
    ·rw [h];exact isx
    ·rw [h];exact isn
    ·exact his y (by simp[h])
   have hfew2:=nodup_sub nin fun y hy=>mem_allS (hmem y hy)
   refine ⟨⟨kvs,rfl⟩,kvs,rfl,kOf (nxtS s o x r),rfl,rfl,big _ (by omega),?_⟩
   walk_at "dx"
   refine ⟨big _ (by simp at hfew ⊢;omega),?_⟩
   walk_at "dx"
   refine ⟨s,o,(nxtS s o x r).2,(nxtS s o x r).1,rfl,t1,(hh _ isn.1).1,(hh _ isn.1).2,⟨isn.1,isn.2.1⟩,fun fr hfr hfl hrl=>?_⟩
   walk_at "dx"
   refine ⟨wD fr,tree_way (env:=[]) fr,big _ (by simp at hfew ⊢;omega),fun S'=>⟨_,Srch.lt_go (x:=nxtS s o x r) (fr:=fr) (by simp at hfew2 ⊢;omega) (by omega),P++[x]++[nxtS s o x r],by rw[List.map_append,List.map_append];rfl,V++[r::w]++[fr],by simp,_,rfl,lost,rfl,hs.go hnone hfr (fun y=>?_),hmem,fun v hv=>?_,fun p hp=>?_,?_,rfl⟩⟩
   ·rw [plc_set]
    simp [plV]
   ·rcases List.mem_append.mp hv with h|h
    ·exact hw v h
    ·rw [List.mem_singleton.mp h]
     exact ⟨hfl,hrl⟩
   ·rcases setK_mem p hp with e|e
    ·exact .inr ⟨_,e⟩
    ·exact hkv p e
   ·refine Nat.le_trans (setK_len _ _ _) ?_
    simp at hkl ⊢
    omega
  ·cases hv:getK kvs (kOf (nxtS s o x r)) with
   | none=>rw[hv] at h;exact absurd rfl h
   | some v =>
    refine ⟨kvs,rfl,kOf (nxtS s o x r),rfl,rfl,v,hv,?_⟩
    rcases hkv _ (getK_mem hv) with e|⟨k,e⟩
    ·simp only at e
     subst e
     rw [if_pos (show isNn .none=true from rfl)]
     refine ⟨V,r,w,rfl,_,Srch.lt_skip,P++[x],by simp,V++[w],rfl,kvs,rfl,lost,rfl,hs.skip (by unfold plc;rw[hv];rfl),his,fun u hu=>?_,hkv,hkl,rfl⟩
     rcases List.mem_append.mp hu with h|h
     ·exact hw u (by simp[h])
     ·rw [List.mem_singleton.mp h]
      have:=hw (r::w) (by simp)
      exact ⟨by have:=this.1;simp at this;omega,fun r' hr'=>this.2 r' (by simp[hr'])⟩
    ·simp only at e
     subst e
     rw [if_neg (show ¬isNn (.int (k:Int))=true from fun z=>Bool.noConfusion z)]
     have hk:(P++[x])[k]? = some (nxtS s o x r):=(hs.on _ k).mp (by unfold plc;rw[hv];simp[plV])
     have hW:∀ i,i<(V++[r::w]).length→∃ q t,(V++[r::w]).getD i []=q::t:=fun i hi=>by
      have hiP:i<(P++[x]).length:=by rw[←hs.len];exact hi
      by_cases hin:i=V.length
      ·subst hin
       exact ⟨r,w,by simp⟩
      ·have h2:i+1<(P++[x]).length:=by simp at hi ⊢;omega
       obtain ⟨q,t,e1,_⟩:=hs.lnk i _ _ _ (List.getElem?_eq_getElem hiP) (List.getElem?_eq_getElem h2) (List.getElem?_eq_getElem hi)
       exact ⟨q,t,by rw[List.getD_eq_getElem?_getD,List.getElem?_eq_getElem hi,e1];rfl⟩
     refine cd_map (fun i=>.list (li (((V++[r::w]).getD i []).getD 0 []))) (by simp at hfew ⊢;omega) (fun i hi Q hQ=>?_) ?_
     ·rw [List.length_map] at hi
      obtain ⟨q,t,e1⟩:=hW i hi
      have e2:(V++[r::w])[i]=q::t:=by
       rw [←e1,List.getD_eq_getElem?_getD,List.getElem?_eq_getElem hi]
       rfl
      rw [List.getElem_map,e2]
      rw [e1] at hQ
      walk_at "dx"
      exact ⟨_,rfl,hQ⟩
     rw [heads_lr]
     walk_at "dx"
     refine ⟨kvs,rfl,kOf (nxtS s o x r),rfl,rfl,_,hv,_,rfl,kvs,rfl,kOf (nxtS s o x r),rfl,rfl,_,hv,_,rfl,?_⟩
     rw [cutL_take,cutL_drop]
     exact ⟨Nat.le_trans (by decide) line_big,Nat.le_trans (by decide) line_big,q1 _ _ _⟩
noncomputable abbrev s_paper_of:Stmt:=top 9
theorem sc_paper_of:FnScope ["town", "found", "ranks", "standing", "ahead"] ["town"] (defScope s_paper_of):=⟨rfl,rfl,rfl,by decide +kernel,rfl,by decide +kernel,by decide +kernel⟩
noncomputable abbrev entD (e:Std×Int):PyData:=.tuple [.int (e.1.1:Int),.tuple (li e.1.2),.int e.2]
noncomputable abbrev papD (P:List (Std×Int)):List PyData:=P.map entD
structure RkOk (s o:List Int) (lost:List Std) (kvs:List (StdK×PyData)) (rk:List Int) (j:Nat):Prop where
 len:rk.length=j
 kl : kvs.length≤j
 val:∀ (i:Nat) x,i<j→lost[i]? = some x→getK kvs (kOf x)=some (.int (rk.getD i 0))∧0≤rk.getD i 0∧rk.getD i 0≤i ∧
  ∃ fr,FullS s o x fr∧∀ r∈fr,∃ k:Nat,k<i∧lost[k]? = some (nxtS s o x r)∧rk.getD k 0<rk.getD i 0
noncomputable def spPaper:DSp:=fun ss R=>∃ (s o:List Int),ss=[.fr (.tuple [.list (li s),.list (li o)])]∧TbL s o∧R (.fr .none) [.un]∧∀ P:List (Std×Int),PapOk s o P→P.length<100000→R (.ow (papD P)) [.un]
theorem RkOk.pap {s o:List Int}{lost:List Std}{kvs:List (StdK×PyData)}{rk:List Int} (hl:LostOk s o lost) (hf:lost.length<100000) (h:RkOk s o lost kvs rk lost.length):PapOk s o (lost.zip rk):=by
 have hz:(lost.zip rk).length=lost.length:=by rw[List.length_zip,h.len,Nat.min_self]
 have get:∀ (i:Nat) (hi:i<lost.length),(lost.zip rk)[i]? = some (lost[i],rk.getD i 0):=fun i hi=>by
  have hr:i<rk.length:=by rw[h.len];exact hi
  rw [List.getElem?_eq_getElem (by omega),List.getElem_zip,List.getD_eq_getElem?_getD,List.getElem?_eq_getElem hr]
  rfl
 have mem:∀ e∈lost.zip rk,∃ (i:Nat) (hi:i<lost.length),e=(lost[i],rk.getD i 0):=fun e he=>by
  obtain ⟨i,hi,rfl⟩:=List.getElem_of_mem he
  refine ⟨i,by omega,?_⟩
  have:=get i (by omega)
  rw [List.getElem?_eq_getElem hi] at this
  exact Option.some.inj this
 refine ⟨?_,fun e he=>?_,fun e he=>?_⟩
 ·obtain ⟨i,hi,e⟩:=List.getElem_of_mem hl.bg
  exact ⟨_,List.mem_of_getElem? (get i hi),e⟩
 ·obtain ⟨i,hi,rfl⟩:=mem e he
  obtain ⟨_,a1,a2,_⟩:=h.val i _ hi (List.getElem?_eq_getElem hi)
  exact ⟨hl.is _ (List.getElem_mem hi),a1,by show rk.getD i 0<100000;omega⟩
 ·obtain ⟨i,hi,rfl⟩:=mem e he
  obtain ⟨_,_,_,fr,f1,f2⟩:=h.val i _ hi (List.getElem?_eq_getElem hi)
  refine ⟨fr,f1,fun r hr=>?_⟩
  obtain ⟨k,k1,k2,k3⟩:=f2 r hr
  have hk:k<lost.length:=(List.getElem?_eq_some_iff.mp k2).1
  refine ⟨_,List.mem_of_getElem? (get k hk),?_,k3⟩
  rw [List.getElem?_eq_getElem hk] at k2
  exact Option.some.inj k2
theorem RkOk.next {s o:List Int}{lost:List Std}{kvs:List (StdK×PyData)}{rk:List Int}{j:Nat}{x:Std}{fr:List (List Int)}{g:Nat→Nat}{m:Int} (hk:RkOk s o lost kvs rk j) (hl:LostOk s o lost) (hj:j<lost.length) (hx:x=lost[j]) (hfr:FullS s o x fr)
  (hg:∀ i,i<fr.length→g i<j∧lost[g i]? = some (nxtS s o x (fr.getD i []))) (hm:MaxOf ((List.range fr.length).map fun i=>rk.getD (g i) 0+1) 0 m):RkOk s o lost (setK kvs (kOf x) (.int m)) (rk++[m]) (j+1):=by
 have old:∀ i,i<j→(rk++[m]).getD i 0=rk.getD i 0:=fun i hi=>by
  rw [List.getD_eq_getElem?_getD,List.getD_eq_getElem?_getD,List.getElem?_append_left (by rw[hk.len];exact hi)]
 have new:(rk++[m]).getD j 0=m:=by
  rw [List.getD_eq_getElem?_getD,List.getElem?_append_right (by rw[hk.len];exact Nat.le_refl _),hk.len,Nat.sub_self]
  rfl
 have rg:∀ i,i<fr.length→0≤rk.getD (g i) 0∧rk.getD (g i) 0<j:=fun i hi=>by
  obtain ⟨g1,g2⟩:=hg i hi
  obtain ⟨_,a1,a2,_⟩:=hk.val _ _ g1 g2
  exact ⟨a1,by omega⟩
 have mb:0≤m∧m≤j∧∀ i,i<fr.length→rk.getD (g i) 0<m:=by
  rcases hm with ⟨h1,h2⟩|⟨h1,h2⟩
  ·have e:fr.length=0:=by have:=congrArg List.length h1;simpa using this
   exact ⟨by omega,by omega,fun i hi=>by omega⟩
  ·obtain ⟨i,hi,e⟩:=List.mem_map.mp h1
   have:=rg i (List.mem_range.mp hi)
   refine ⟨by omega,by omega,fun i' hi'=>?_⟩
   have:=h2 _ (List.mem_map.mpr ⟨i',List.mem_range.mpr hi',rfl⟩)
   omega
 refine ⟨by rw[List.length_append,hk.len];rfl,Nat.le_trans (setK_len _ _ _) (by have:=hk.kl;omega),fun i y hi hy=>?_⟩
 by_cases e:i=j
 ·subst e
  rw [List.getElem?_eq_getElem hj] at hy
  have hy:y=x:=by rw[hx];exact (Option.some.inj hy).symm
  subst hy
  rw [new]
  refine ⟨by rw[getK_set,if_pos rfl],mb.1,mb.2.1,fr,hfr,fun r hr=>?_⟩
  obtain ⟨q,hq,e⟩:=List.getElem_of_mem hr
  have eq:fr.getD q []=r:=by rw[List.getD_eq_getElem?_getD,List.getElem?_eq_getElem hq,e];rfl
  obtain ⟨g1,g2⟩:=hg q hq
  rw [eq] at g2
  exact ⟨g q,g1,g2,by rw[old _ g1];exact mb.2.2 q hq⟩
 ·have hi':i<j:=by omega
  obtain ⟨a1,a2,a3,fr',b1,b2⟩:=hk.val i y hi' hy
  rw [old i hi']
  have hne:¬kOf y=kOf x:=fun z=>by
   have z:=kOf_inj z
   have hil:i<lost.length:=by omega
   have:=(List.getElem?_inj hil hl.nd).mp (show lost[i]? = lost[j]? by rw[hy,List.getElem?_eq_getElem hj,z,hx])
   omega
  refine ⟨by rw[getK_set,if_neg hne];exact a1,a2,a3,fr',b1,fun r hr=>?_⟩
  obtain ⟨k,k1,k2,k3⟩:=b2 r hr
  exact ⟨k,k1,k2,by rw[old k (by omega)];exact k3⟩
theorem bi_paper_of {f:Addr}{fd:FuncData} (F:Fun K "paper_of" "paper_of" s_paper_of f fd):Binds K fd ["town"] []:=F.binds (ps:=["town"]) fun _ _ _ _ _ _ us hl=>us1 (Q:=fun us=>bindArgs _ ⟨us,[]⟩=pure (List.zip _ us)) hl fun _=>rfl
theorem ok_paper_of {f:Addr}{fd:FuncData} (F:Fun K "paper_of" "paper_of" s_paper_of f fd) (B:Bn mg) (G_looked_through:Cal P w K mg base "looked_through" 9 (spD K spLook)) (G_begun:Cal P w K mg base "begun" 1 (spD K spBegun)) (G_full_rows:Cal P w K mg base "full_rows" 7 (spD K spFull)) (G_behind:Cal P w K mg base "behind" 1 (spD K spBehind)):FnOk P w K mg base CX0 10 f fd ["town"] (spD K spPaper):=by
 refine okD (k:=9) F sc_paper_of (fun ss R h=>?_) (by decide) (fun cdv A outer s H E hr=>⟨_,(qs_bar (q_set (i:=1) sc_paper_of.nd rfl (Or.inl rfl) (q_call G_looked_through (hr.mono (by decide)) rfl (qa_cons (qf 0) (qa_cons (q_call G_begun (hr.mono (by decide)) rfl (qa_cons (qf 0) qa_nil)) qa_nil))))
   (qs_bar (q_if (qt_cmp op_notN mNotN (q_ix (ix_any (K:=K) rfl) mIx (qv 1) q_int (fun _ _=>rfl)) q_non (nomark _)) (qs_one (q_ret q_non)) qs_nil)
   (qs_bar (q_set (i:=2) sc_paper_of.nd rfl (Or.inr rfl) q_dct0)
   (qs_bar (q_for PassesOwn.never rfl (qi_list (K:=K) rfl (q_ix (ix_any (K:=K) rfl) mIx (qv 1) q_int (fun _ _=>rfl))) (qg_name (i:=3) sc_paper_of.nd rfl (Or.inr rfl)) (qs_bar (q_setComp (i:=4)  sc_paper_of.nd rfl rfl (N':=["row", "town", "standing"]) (ix:=[none,some 0,some 3]) rfl (bs_of (N:=["town", "found", "ranks", "standing", "ahead"]) (sc0:=defScope s_paper_of) rfl rfl (by decide +kernel)) (qi_list (K:=K) rfl (q_call G_full_rows (hr.mono (by decide)) rfl (qa_cons (qf 0) (qa_cons (qf 3) qa_nil)))) (fun _ _ _ _=>(qg_name (i:=0) (show List.Nodup (["row", "town", "standing"]:List Str) by decide +kernel) rfl (Or.inl rfl))) (fun _ _ _ _=>qif_nil) (fun _ _ _ _=>(q_call G_behind (hr.mono (by decide)) rfl (qa_cons (qf 1) (qa_cons (qf 2) (qa_cons (qf 0) qa_nil))))))
   (qs_frz 4 (qs_one (q_setK 2 (K:=K) rfl (hu2 hr) rfl (qf 3) (q_lendI 2 (q_maxD (K:=K) rfl rfl rfl B.max (qa_cons (q_comp (N':=["other", "ranks"]) (ix:=[none,some 2]) rfl (bs_of (N:=["town", "found", "ranks", "standing", "ahead"]) (sc0:=defScope s_paper_of) rfl rfl (by decide +kernel)) (qi_list (K:=K) rfl (qf 4)) (fun _ _ _ _=>(qg_name (i:=0) (show List.Nodup (["other", "ranks"]:List Str) by decide +kernel) rfl (Or.inl rfl))) (fun _ _ _ _=>qif_nil) (fun _ _ _ _=>(q_op op_add mI (q_ix (kIxK (K:=K) rfl (hu2 hr)) mIxK (qv 1) (qv 0) (fun _ _=>rfl)) q_int))) qa_nil))))))))
   (qs_frzT 2 (qs_one (q_ret (q_comp (N':=["standing", "ranks"]) (ix:=[none,some 2]) rfl (bs_of (N:=["town", "found", "ranks", "standing", "ahead"]) (sc0:=defScope s_paper_of) rfl rfl (by decide +kernel)) (qi_list (K:=K) rfl (q_ix (ix_any (K:=K) rfl) mIx (qv 1) q_int (fun _ _=>rfl))) (fun _ _ _ _=>(qg_name (i:=0) (show List.Nodup (["standing", "ranks"]:List Str) by decide +kernel) rfl (Or.inl rfl))) (fun _ _ _ _=>qif_nil) (fun _ _ _ _=>(q_tup (qa_cons (q_ix (ix_any (K:=K) rfl) mIx (qv 0) q_int (fun _ _=>rfl)) (qa_cons (q_ix (ix_any (K:=K) rfl) mIx (qv 0) q_int (fun _ _=>rfl)) (qa_cons (q_ix (kIxK (K:=K) rfl (hu2 hr)) mIxK (qv 1) (qv 0) (fun _ _=>rfl)) qa_nil))))))))))))),fun ss R h=>?_⟩)
 ·obtain ⟨s,o,rfl,_⟩:=h
  rfl
 obtain ⟨s,o,rfl,t,qn,q⟩:=h
 obtain ⟨t1,t2,t3,t4,t5,t6⟩:=id t
 walk_at "dx"
 refine ⟨s,o,rfl,?_⟩
 walk_at "dx"
 refine ⟨s,o,rfl,t,fun A B x=>?_,fun lost hl=>?_⟩
 ·walk_at "dx"
  exact qn
 have hfew:lost.length<100000:=Nat.lt_of_le_of_lt hl.few t6
 have hh:∀ d,d<o.length→0≤o.getD d 0∧(s.length≤4∨o.getD d 0≤3):=fun d hd=>⟨t4 _ (getD_mem' hd),t5.imp id fun h=>h _ (getD_mem' hd)⟩
 have big:∀ n:Nat,n≤100000→n<sizeLine:=fun n h=>Nat.lt_of_lt_of_le (by omega) line_big
 walk_at "dx"
 intro S
 walk_at "dx"
 refine fd_intro (fun j env=>∃ (kvs:List (StdK×PyData)) (rk:List Int) (a b:Sl),env=[.fr (.tuple [.list (li s),.list (li o)]),.fr (.tuple [.none,.list (lost.map stS)]),.tr S (dctD kvs),a,b]∧RkOk s o lost kvs rk j) ⟨[],[],_,_,rfl,⟨rfl,Nat.le_refl _,fun i x hi=>absurd hi (Nat.not_lt_zero _)⟩⟩ ?_ ?_
 ·rintro j env hj ⟨kvs,rk,a,b,rfl,hk⟩
  rw [List.length_map] at hj
  rw [List.getElem_map]
  have isx:=hl.is _ (List.getElem_mem hj)
  obtain ⟨fr0,f1,f2⟩:=hl.down j _ (List.getElem?_eq_getElem hj)
  obtain ⟨x,hx⟩:∃ x,x=lost[j]:=⟨_,rfl⟩
  rw [←hx] at isx f1 f2 ⊢
  walk_at "dx"
  refine ⟨s,o,x.2,x.1,rfl,t1,(hh _ isx.1).1,(hh _ isx.1).2,⟨isx.1,isx.2.1⟩,fun fr hfr hfl hrl=>?_⟩
  walk_at "dx"
  refine cd_map (fun i=>stS (nxtS s o x (fr.getD i []))) (by rw[List.length_map];omega) (fun i hi Q hQ=>?_) ?_
  ·rw [lr_get]
   walk_at "dx"
   refine ⟨s,o,x.2,fr.getD i [],x.1,rfl,t2,isx.2.1,by omega,?_⟩
   walk_at "dx"
   exact hQ
  rw [show (lr fr).length=fr.length from List.length_map ..]
  have toR:∀ i,i<fr.length→∃ k:Nat,k<j∧lost[k]? = some (nxtS s o x (fr.getD i [])):=fun i hi=>by
   have hm:fr.getD i []∈fr:=by rw[List.getD_eq_getElem?_getD,List.getElem?_eq_getElem hi];exact List.getElem_mem hi
   exact f2 _ (hfr.same f1 hm)
  obtain ⟨g,hg⟩:=Classical.axiomOfChoice (r:=fun (i:Nat) (k:Nat)=>i<fr.length→k<j∧lost[k]? = some (nxtS s o x (fr.getD i []))) fun i=>by
   by_cases hi:i<fr.length
   ·obtain ⟨k,h1,h2⟩:=toR i hi
    exact ⟨k,fun _=>⟨h1,h2⟩⟩
   ·exact ⟨0,fun z=>absurd z hi⟩
  walk_at "dx"
  refine cd_map (fun i=>.int (rk.getD (g i) 0+1)) (by rw[List.length_map,List.length_range];omega) (fun i hi Q hQ=>?_) ?_
  ·rw [List.length_map,List.length_range] at hi
   rw [List.getElem_map,List.getElem_range]
   obtain ⟨g1,g2⟩:=hg i hi
   have v:=(hk.val _ _ g1 g2).1
   walk_at "dx"
   exact ⟨kvs,rfl,kOf (nxtS s o x (fr.getD i [])),rfl,rfl,_,v,_,rfl,hQ⟩
  rw [List.length_map,List.length_range,show (List.range fr.length).map (fun i=>PyData.int (rk.getD (g i) 0+1))=li ((List.range fr.length).map fun i=>rk.getD (g i) 0+1) by
   show _=List.map _ (List.map _ _)
   rw [List.map_map];rfl]
  walk_at "dx"
  intro m hm
  refine ⟨⟨kvs,rfl⟩,kvs,rfl,kOf x,rfl,rfl,big _ (by have:=hk.kl;omega),setK kvs (kOf x) (.int m),rfl,rk++[m],?_⟩
  exact hk.next hl hj hx hfr hg hm
 ·rintro env ⟨kvs,rk,a,b,rfl,hk⟩
  rw [List.length_map] at hk
  walk_at "dx"
  have vi:∀ i (hi:i<lost.length),getK kvs (kOf lost[i])=some (.int (rk.getD i 0)):=fun i hi=>(hk.val i _ hi (List.getElem?_eq_getElem hi)).1
  refine cd_map (fun i=>entD (lost.getD i (0,[]),rk.getD i 0)) (by rw[List.length_map];omega) (fun i hi Q hQ=>?_) ?_
  ·rw [List.length_map] at hi
   rw [List.getElem_map]
   have e:lost.getD i (0,[])=lost[i]:=by rw[List.getD_eq_getElem?_getD,List.getElem?_eq_getElem hi];rfl
   rw [e] at hQ
   walk_at "dx"
   exact ⟨kvs,rfl,kOf lost[i],rfl,rfl,_,vi i hi,Nat.le_trans (by decide) line_big,hQ⟩
  rw [show (List.range (lost.map stS).length).map (fun i=>entD (lost.getD i (0,[]),rk.getD i 0))=papD (lost.zip rk) by
   apply List.ext_getElem
   ·simp [hk.len]
   ·intro i h1 h2
    have h1':i<lost.length:=by simpa using h1
    have h2':i<rk.length:=by rw[hk.len];exact h1'
    simp [List.getD_eq_getElem?_getD,h1',h2']]
  walk_at "dx"
  exact q _ (hk.pap hl hfew) (by rw[List.length_zip,hk.len,Nat.min_self];exact hfew)
noncomputable abbrev s__law_begun:Stmt:=top 18
theorem sc__law_begun:FnScope ["_law_town_here", "_law_lefts", "_law_span"] ["_law_town_here"] (defScope s__law_begun):=⟨rfl,rfl,rfl,by decide +kernel,rfl,by decide +kernel,by decide +kernel⟩
noncomputable def spLBegun:DSp:=fun ss R=>∃ (s o:List Int),ss=[.fr (.tuple [.list (li s),.list (li o)])]∧s.length≤1000∧R (.fr (.tuple [.int 0,.tuple (li s)])) [.un]
theorem bi__law_begun {f:Addr}{fd:FuncData} (F:Fun K "_law_begun" "_law_begun" s__law_begun f fd):Binds K fd ["_law_town_here"] []:=F.binds (ps:=["_law_town_here"]) fun _ _ _ _ _ _ us hl=>us1 (Q:=fun us=>bindArgs _ ⟨us,[]⟩=pure (List.zip _ us)) hl fun _=>rfl
theorem ok__law_begun {f:Addr}{fd:FuncData} (F:Fun K "_law_begun" "_law_begun" s__law_begun f fd) (B:Bn mg):FnOk P w K mg base CX0 1 f fd ["_law_town_here"] (spD K spLBegun):=by
 refine okD (k:=0) F sc__law_begun (fun ss R h=>?_) (by decide) (fun cdv A outer s H E hr=>⟨_,(qs_cons (q_set (i:=1) sc__law_begun.nd rfl (Or.inl rfl) (q_tup qa_nil))
   (qs_cons (q_for PassesOwn.never rfl (qi_list (K:=K) rfl (q_ix (ix_any (K:=K) rfl) mIx (qv 0) q_int (fun _ _=>rfl))) (qg_name (i:=2) sc__law_begun.nd rfl (Or.inl rfl)) (qs_one (q_set (i:=1) sc__law_begun.nd rfl (Or.inl rfl) (q_catT (K:=K) rfl (qv 1) (q_tup (qa_cons (qf 2) qa_nil))))))
   (qs_one (q_ret (q_tup (qa_cons q_int (qa_cons (qf 1) qa_nil))))))),fun ss R h=>?_⟩)
 ·obtain ⟨s,o,rfl,_⟩:=h
  rfl
 obtain ⟨s,o,rfl,hs,q⟩:=h
 walk_at "dd"
 refine ⟨Nat.zero_le _,?_⟩
 refine fd_intro (fun i env=>∃ a:Sl,env=[.fr (.tuple [.list (li s),.list (li o)]),.fr (.tuple (li (s.take i))),a]) ⟨_,rfl⟩ ?_ ?_
 ·rintro i env hi ⟨a,rfl⟩
  have hi':i<s.length:=by simpa using hi
  rw [li_get,take_next hi']
  walk_at "dd"
  exact ⟨Nat.le_trans (by decide) line_big,by rw[List.length_map,List.length_take];exact Nat.le_trans (by omega) line_big,by simp⟩
 ·rintro env ⟨a,rfl⟩
  rw [List.length_map,List.take_length]
  walk_at "dd"
  exact ⟨Nat.le_trans (by decide) line_big,q⟩
noncomputable abbrev s__law_no_worse:Stmt:=top 19
theorem sc__law_no_worse:FnScope ["_law_one", "_law_other"] ["_law_one", "_law_other"] (defScope s__law_no_worse):=⟨rfl,rfl,rfl,by decide +kernel,rfl,by decide +kernel,by decide +kernel⟩
noncomputable def spNoW:DSp:=fun ss R=>∃ (x y:Std),ss=[.fr (stS x),.fr (stS y)]∧x.2.length=y.2.length∧x.2.length≤1000∧∀ b:Bool,(b=true↔x.1=y.1∧∀ c,c<x.2.length→y.2.getD c 0≤x.2.getD c 0)→R (.fr (.bool b)) [.un,.un]
theorem bi__law_no_worse {f:Addr}{fd:FuncData} (F:Fun K "_law_no_worse" "_law_no_worse" s__law_no_worse f fd):Binds K fd ["_law_one", "_law_other"] []:=F.binds (ps:=["_law_one", "_law_other"]) fun _ _ _ _ _ _ us hl=>us2 (Q:=fun us=>bindArgs _ ⟨us,[]⟩=pure (List.zip _ us)) hl fun _ _=>rfl
theorem ok__law_no_worse {f:Addr}{fd:FuncData} (F:Fun K "_law_no_worse" "_law_no_worse" s__law_no_worse f fd) (B:Bn mg):FnOk P w K mg base CX0 1 f fd ["_law_one", "_law_other"] (spD K spNoW):=by
 refine okD (k:=0) F sc__law_no_worse (fun ss R h=>?_) (by decide) (fun cdv A outer s H E hr=>⟨_,(qs_one (q_ret (q_and (q_cmp op_eq mEqI (q_ix (ix_any (K:=K) rfl) mIx (qv 0) q_int (fun _ _=>rfl)) (q_ix (ix_any (K:=K) rfl) mIx (qv 1) q_int (fun _ _=>rfl)) (nomark _)) (q_one (q_cmp (kEqD (K:=K) rfl hr.units) mEq (q_comp (N':=["_law_k", "_law_one", "_law_other"]) (ix:=[none,some 0,some 1]) rfl (bs_of (N:=["_law_one", "_law_other"]) (sc0:=defScope s__law_no_worse) rfl rfl (by decide +kernel)) (qi_rng1 rfl B.range (qa_cons (q_cb (kLen (K:=K) rfl) mLen rfl B.len PySem.boot_len (qa_cons (q_ix (ix_any (K:=K) rfl) mIx (qv 0) q_int (fun _ _=>rfl)) qa_nil)) qa_nil)) (fun _ _ _ _=>(qg_name (i:=0) (show List.Nodup (["_law_k", "_law_one", "_law_other"]:List Str) by decide +kernel) rfl (Or.inl rfl))) (fun _ _ _ _=>(qif_one (qt_cmp op_lt mB (q_ix (ix_any (K:=K) rfl) mIx (q_ix (ix_any (K:=K) rfl) mIx (qv 1) q_int (fun _ _=>rfl)) (qv 0) (fun _ _=>rfl)) (q_ix (ix_any (K:=K) rfl) mIx (q_ix (ix_any (K:=K) rfl) mIx (qv 2) q_int (fun _ _=>rfl)) (qv 0) (fun _ _=>rfl)) (nomark _)))) (fun _ _ _ _=>(qf 0))) (q_lst qa_nil) (nomark _)))))),fun ss R h=>?_⟩)
 ·obtain ⟨x,y,rfl,_⟩:=h
  rfl
 obtain ⟨x,y,rfl,hl,hb,q⟩:=h
 walk_at "dd"
 rw [List.length_map]
 refine ite2 (fun hd=>?_) fun hd=>q false ⟨fun z=>(nomatch z),fun z=>absurd (congrArg (Nat.cast:Nat→Int) z.1) hd⟩
 refine ⟨by omega,by omega,cd_filter (fun i=>decide (x.2.getD i 0<y.2.getD i 0)) (fun i=>.int (i:Int)) (by rw[rangeD_len];omega) (fun i hi Q Q' h1 h2=>?_) ?_⟩
 ·rw [rangeD_len] at hi
  rw [rangeD_get]
  have hi:i<x.2.length:=by omega
  walk_at "dd"
  refine ⟨_,atI_li (ns:=x.2) hi,_,atI_li (ns:=y.2) (by omega),?_⟩
  walk_at "dd"
  exact ite2 (fun c=>h1 (decide_eq_true c)) fun c=>h2 (decide_eq_false c)
 rw [rangeD_len,show (((List.range ((x.2.length:Nat):Int).toNat).filter fun i=>decide (x.2.getD i 0<y.2.getD i 0)).map fun i=>PyData.int ((i:Nat):Int))=li (((List.range x.2.length).filter fun i=>decide (x.2.getD i 0<y.2.getD i 0)).map (Nat.cast:Nat→Int)) by
  show _=List.map _ (List.map _ _)
  rw [List.map_map];rfl]
 walk_at "dd"
 refine ⟨Nat.zero_le _,(Sh.ints 0 _).shp (by decide),(Sh.ints 0 []).shp (by decide),?_⟩
 rw [show PyData.list []=PyData.list (li []) from rfl,eqv_li]
 refine q _ ?_
 rw [decide_eq_true_eq,List.map_eq_nil_iff,List.filter_eq_nil_iff]
 constructor
 ·intro h
  refine ⟨by omega,fun c hc=>?_⟩
  have:=h c (List.mem_range.mpr hc)
  simp only [decide_eq_true_eq] at this
  omega
 ·rintro ⟨_,h⟩ c hc
  have:=h c (List.mem_range.mp hc)
  simp only [decide_eq_true_eq]
  omega
noncomputable abbrev s__law_stands_still:Stmt:=top 22
theorem sc__law_stands_still:FnScope ["_law_town_here", "_law_paper", "_law_here", "_law_draws_here", "_law_most", "_law_k", "_law_rows_here", "_law_number", "_law_row"] ["_law_town_here", "_law_paper", "_law_here", "_law_draws_here"] (defScope s__law_stands_still):=⟨rfl,rfl,rfl,by decide +kernel,rfl,by decide +kernel,by decide +kernel⟩
theorem lrAt {rr:List (List Int)}{k:Nat} (h:k<rr.length):atI (lr rr) (k:Int)=some (.list (li (rr.getD k []))):=atI_nat (by
 rw [List.getElem?_map,List.getElem?_eq_getElem h,List.getD_eq_getElem?_getD,List.getElem?_eq_getElem h]
 rfl)
theorem eqv_lr_nil (rr:List (List Int)):PyData.eqv (.list (lr rr)) (.list [])=decide (rr=[]):=by
 cases rr with
 | nil=>rfl
 | cons r rr=>rfl
noncomputable def noBo (x y:Std):Bool:=@decide (x.1=y.1∧∀ c,c<x.2.length→y.2.getD c 0≤x.2.getD c 0) (Classical.propDecidable _)
theorem noBo_iff {x y:Std}:noBo x y=true↔x.1=y.1∧∀ c,c<x.2.length→y.2.getD c 0≤x.2.getD c 0:=by
 unfold noBo
 exact @decide_eq_true_iff _ (Classical.propDecidable _)
theorem noBo_eq {x y:Std}{b:Bool} (h:b=true↔x.1=y.1∧∀ c,c<x.2.length→y.2.getD c 0≤x.2.getD c 0):b=noBo x y:=Bool.eq_iff_iff.mpr (h.trans noBo_iff.symm)
noncomputable def spStill:DSp:=fun ss R=>∃ (s o ds:List Int) (P:List (Std×Int)) (y:Std),ss=[.fr (.tuple [.list (li s),.list (li o)]),.fr (.list (papD P)),.fr (stS y),.io (li ds)]∧TB s o∧PapOk s o P∧P.length<100000∧IsS s o y∧(∃ e∈P,noB s o e.1 y)∧Ds ds ∧
 ∀ ds':List Int,Ds ds'→R (.fr (.bool true)) [.un,.un,.un,.io (li ds')]
theorem bi__law_stands_still {f:Addr}{fd:FuncData} (F:Fun K "_law_stands_still" "_law_stands_still" s__law_stands_still f fd):Binds K fd ["_law_town_here", "_law_paper", "_law_here", "_law_draws_here"] []:=F.binds (ps:=["_law_town_here", "_law_paper", "_law_here", "_law_draws_here"]) fun _ _ _ _ _ _ us hl=>us4 (Q:=fun us=>bindArgs _ ⟨us,[]⟩=pure (List.zip _ us)) hl fun _ _ _ _=>rfl
theorem ok__law_stands_still {f:Addr}{fd:FuncData} (F:Fun K "_law_stands_still" "_law_stands_still" s__law_stands_still f fd) (B:Bn mg) (G__law_no_worse:Cal P w K mg base "_law_no_worse" 1 (spD K spNoW)) (G__law_rows:Cal P w K mg base "_law_rows" 1 (spD K spRows)) (G__law_pop:Cal P w K mg base "_law_pop" 1 (spD K spPop)) (G__law_after:Cal P w K mg base "_law_after" 1 (spD K spAfter)):FnOk P w K mg base CX0 3 f fd ["_law_town_here", "_law_paper", "_law_here", "_law_draws_here"] (spD K spStill):=by
 refine okD (k:=2) F sc__law_stands_still (fun ss R h=>?_) (by decide) (fun cdv A outer s H E hr=>⟨_,(qs_bar (q_set (i:=4) sc__law_stands_still.nd rfl (Or.inl rfl) (q_cb (call_minL (K:=K) rfl rfl) mMinL rfl B.min PyProof.Rows.boot_min (qa_cons (q_comp (N':=["_law_day", "_law_lefts", "_law_rank", "_law_here"]) (ix:=[none,none,none,some 2]) rfl (bs_of (N:=["_law_town_here", "_law_paper", "_law_here", "_law_draws_here", "_law_most", "_law_k", "_law_rows_here", "_law_number", "_law_row"]) (sc0:=defScope s__law_stands_still) rfl rfl (by decide +kernel)) (qi_list (K:=K) rfl (qf 1)) (fun _ _ _ _=>(qg_tup (K:=K) (n:=3) rfl rfl (qgs_cons (qg_name (i:=0) (show List.Nodup (["_law_day", "_law_lefts", "_law_rank", "_law_here"]:List Str) by decide +kernel) rfl (Or.inl rfl)) (qgs_cons (qg_name (i:=1) (show List.Nodup (["_law_day", "_law_lefts", "_law_rank", "_law_here"]:List Str) by decide +kernel) rfl (Or.inl rfl)) (qgs_cons (qg_name (i:=2) (show List.Nodup (["_law_day", "_law_lefts", "_law_rank", "_law_here"]:List Str) by decide +kernel) rfl (Or.inl rfl)) qgs_nil))))) (fun _ _ _ _=>(qif_one (qt_val (q_call G__law_no_worse (hr.mono (by decide)) rfl (qa_cons (q_tup (qa_cons (qf 0) (qa_cons (qf 1) qa_nil))) (qa_cons (qf 3) qa_nil)))))) (fun _ _ _ _=>(qf 2))) qa_nil)))
   (qs_bar (q_for PassesOwn.never rfl (qi_rng1 rfl B.range (qa_cons (qv 4) qa_nil)) (qg_name (i:=5) sc__law_stands_still.nd rfl (Or.inl rfl)) (qs_bar (q_set (i:=6) sc__law_stands_still.nd rfl (Or.inl rfl) (q_call G__law_rows (hr.mono (by decide)) rfl (qa_cons (qf 0) (qa_cons (qf 2) qa_nil))))
   (qs_bar (q_if (qt_cmp (kEqD (K:=K) rfl hr.units) mEq (qv 6) (q_lst qa_nil) (nomark _)) (qs_one (q_ret q_bl)) qs_nil)
   (qs_bar (q_set (i:=7) sc__law_stands_still.nd rfl (Or.inl rfl) (q_callS 0 G__law_pop (hr.mono (by decide)) rfl (qa_cons (qv 3) qa_nil)))
   (qs_bar (q_set (i:=8) sc__law_stands_still.nd rfl (Or.inl rfl) (q_ix (ix_any (K:=K) rfl) mIx (qv 6) (q_op op_mod mIC (qv 7) (q_cb (kLen (K:=K) rfl) mLen rfl B.len PySem.boot_len (qa_cons (qv 6) qa_nil))) (fun _ _=>rfl)))
   (qs_cut (q_if (qt_cmp op_eq mEqI (q_op op_mod mIC (q_op op_fdiv mIC (qv 7) q_int) q_int) q_int (nomark _)) (qs_one (q_set (i:=8) sc__law_stands_still.nd rfl (Or.inl rfl) (q_ix (ix_any (K:=K) rfl) mIx (qv 6) (q_op op_sub mI (q_op op_sub mI (q_cb (kLen (K:=K) rfl) mLen rfl B.len PySem.boot_len (qa_cons (qv 6) qa_nil)) q_int) (q_op op_mod mIC (q_op op_fdiv mIC (qv 7) q_int) (q_cb (call_min2 rfl) mMin rfl B.min PyProof.Rows.boot_min (qa_cons q_int (qa_cons (q_cb (kLen (K:=K) rfl) mLen rfl B.len PySem.boot_len (qa_cons (qv 6) qa_nil)) qa_nil))))) (fun _ _=>rfl)))) qs_nil)
   (qs_one (q_set (i:=2) sc__law_stands_still.nd rfl (Or.inr rfl) (q_call G__law_after (hr.mono (by decide)) rfl (qa_cons (qf 0) (qa_cons (qf 2) (qa_cons (qf 8) qa_nil))))))))))))
   (qs_one (q_ret (q_cmp (kEqD (K:=K) rfl hr.units) mEq (q_call G__law_rows (hr.mono (by decide)) rfl (qa_cons (qf 0) (qa_cons (qf 2) qa_nil))) (q_lst qa_nil) (nomark _)))))),fun ss R h=>?_⟩)
 ·obtain ⟨s,o,ds,P,y,rfl,_⟩:=h
  rfl
 obtain ⟨s,o,ds,P,y,rfl,tb,hP,hPl,isy,hex,hds,q⟩:=h
 walk_at "dx"
 have hs1:∀ x∈s,1≤x:=fun x hx=>(tb.2.2.2.2.1 x hx).1
 have getP:∀ i (hi:i<P.length),P.getD i ((0,[]),0)=P[i]:=fun i hi=>by rw[List.getD_eq_getElem?_getD,List.getElem?_eq_getElem hi];rfl
 refine cd_filter (fun i=>noBo (P.getD i ((0,[]),0)).1 y) (fun i=>.int (P.getD i ((0,[]),0)).2) (by rw[List.length_map];omega) (fun i hi Q Q' h1 h2=>?_) ?_
 ·rw [List.length_map] at hi
  rw [List.getElem_map,←getP i hi]
  have ise:=(hP.is _ (getP i hi▸List.getElem_mem hi)).1
  rw [getP i hi] at ise
  rw [←getP i hi] at ise
  generalize P.getD i ((0,[]),0)=e at *
  walk_at "dx"
  refine ⟨Nat.le_trans (by decide) line_big,e.1,y,rfl,by rw[ise.2.1,isy.2.1],by rw[ise.2.1];have:=tb.2.1;omega,fun b hb=>?_⟩
  rw [noBo_eq hb]
  walk_at "dx"
  exact ite2 (fun c=>h1 c) fun c=>h2 (Bool.eq_false_iff.mpr c)
 have noB_of:∀ e∈P,noBo e.1 y=true→noB s o e.1 y:=fun e he hb=>by
  have ise:=(hP.is e he).1
  obtain ⟨b1,b2⟩:=noBo_iff.mp hb
  exact ⟨isy,b1,ise.2.1,fun c hc=>b2 c (by rw[ise.2.1];exact hc)⟩
 rw [List.length_map,show (((List.range P.length).filter fun i=>noBo (P.getD i ((0,[]),0)).1 y).map fun i=>PyData.int (P.getD i ((0,[]),0)).2)=li (((List.range P.length).filter fun i=>noBo (P.getD i ((0,[]),0)).1 y).map fun i=>(P.getD i ((0,[]),0)).2) by
  show _=List.map _ (List.map _ _)
  rw [List.map_map];rfl]
 walk_at "dx"
 refine ⟨fun z=>?_,fun m hm hmin=>?_⟩
 ·obtain ⟨e,he,hn⟩:=hex
  obtain ⟨i,hi,rfl⟩:=List.getElem_of_mem he
  have:i∈(List.range P.length).filter fun i=>noBo (P.getD i ((0,[]),0)).1 y:=List.mem_filter.mpr ⟨List.mem_range.mpr hi,by
   rw [getP i hi]
   exact noBo_iff.mpr ⟨hn.2.1,fun c hc=>hn.2.2.2 c (by rw[←hn.2.2.1];exact hc)⟩⟩
  rw [List.map_eq_nil_iff] at z
  rw [z] at this
  cases this
 obtain ⟨i0,hi0,rfl⟩:=List.mem_map.mp hm
 obtain ⟨hr0,hb0⟩:=List.mem_filter.mp hi0
 have hr0:=List.mem_range.mp hr0
 rw [getP i0 hr0] at hb0 ⊢
 have m0:P[i0]∈P:=List.getElem_mem hr0
 generalize P[i0]=e0 at *
 have n0:=noB_of e0 m0 hb0
 have r0:=hP.is e0 m0
 walk_at "dx"
 refine ⟨by omega,by omega,fd_intro (fun k env=>∃ (z:Std) (l:List Int) (a b c d:Sl),env=[.fr (.tuple [.list (li s),.list (li o)]),.fr (.list (papD P)),.fr (stS z),.io (li l),.fr (.int e0.2),a,b,c,d]∧IsS s o z∧Ds l∧∃ e∈P,noB s o e.1 z∧e.2≤e0.2 - (k:Int)) ⟨y,ds,_,_,_,_,rfl,isy,hds,e0,m0,n0,by omega⟩ ?_ ?_⟩
 ·rintro k env hk ⟨z,l,a,b,c,d,rfl,isz,hl,e,he,hn,hle⟩
  rw [rangeD_len] at hk
  rw [rangeD_get]
  walk_at "dx"
  refine ⟨s,o,z.2,z.1,rfl,tb,⟨isz.1,isz.2.1⟩,fun rr hrr=>?_⟩
  walk_at "dx"
  refine ⟨Nat.zero_le _,(Sh.lr 0 rr).shp (by decide),(Sh.ints 0 []).shp (by decide),?_⟩
  rw [eqv_lr_nil]
  by_cases hne:rr=[]
  ·rw [if_pos (decide_eq_true hne)]
   exact q l hl
  rw [if_neg (by simpa using hne)]
  have hpos:0<rr.length:=List.length_pos_iff.mpr hne
  have hrl:rr.length≤64:=by
   rw [hrr.length_eq]
   refine Nat.le_trans (List.length_filter_le _ _) ?_
   rw [subs_len]
   exact Nat.pow_le_pow_right (by decide) tb.2.1
  walk_at "dx"
  refine ⟨l,rfl,?_⟩
  have p0:=hl.pop
  have hl2:=hl.drop
  generalize popV l=num at *
  generalize l.dropLast=l2 at *
  walk_at "dx"
  have hmem:∀ k,k<rr.length→rr.getD k []∈rr:=fun k hk=>by rw[List.getD_eq_getElem?_getD,List.getElem?_eq_getElem hk];exact List.getElem_mem hk
  rw [show (lr rr).length=rr.length from List.length_map ..]
  obtain ⟨k1,ek1,hk1⟩:=place (x:=num) (n:=rr.length) hpos
  rw [ek1]
  refine ⟨by omega,_,lrAt hk1,?_⟩
  walk_at "dx"
  refine ⟨fun env=>∃ (r:List Int) (rv:Sl),env=[.fr (.tuple [.list (li s),.list (li o)]),.fr (.list (papD P)),.fr (stS z),.io (li l2),.fr (.int e0.2),.fr (.int (0+(k:Int))),rv,.fr (.int num),.fr (.list (li r))]∧r∈rr,?_,?_⟩
  ·walk_at "dd"
   rw [show (lr rr).length=rr.length from List.length_map ..]
   refine ⟨⟨by decide,by decide⟩,by decide,ite2 (fun _=>?_) fun _=>⟨_,rfl,hmem k1 hk1⟩⟩
   have hm3:(0:Int)<(if (rr.length:Int)<3 then (rr.length:Int) else 3)∧(if (rr.length:Int)<3 then (rr.length:Int) else 3)≤rr.length:=by split <;> omega
   generalize (if (rr.length:Int)<3 then (rr.length:Int) else 3)=w at *
   have u0:=Int.emod_nonneg (num / 194) (show w≠0 by omega)
   have u1:=Int.emod_lt_of_pos (num / 194) hm3.1
   obtain ⟨k2,ek2⟩:∃ k2:Nat,(rr.length:Int) - 1 - num / 194 % w=k2:=⟨((rr.length:Int) - 1 - num / 194 % w).toNat,by omega⟩
   rw [ek2]
   exact ⟨⟨by decide,by decide⟩,hm3.1,_,lrAt (show k2<rr.length by omega),_,rfl,hmem k2 (by omega)⟩
  ·rintro env ⟨r,rv,rfl,hr⟩
   walk_at "dx"
   have hfit:=hrr.mem_iff.mp hr
   refine ⟨s,o,z.2,r,z.1,rfl,by have:=tb.2.1;omega,tb.2.2.1,isz.2.1,?_⟩
   obtain ⟨e',m',n',lt⟩:=hP.step hs1 he hn ⟨r,hfit,rfl⟩
   walk_at "dx"
   exact ⟨nxtS s o z r,rfl,rfl,l2,rfl,nxt_is hs1 isz hfit,hl2,e',m',n',by omega⟩
 ·rintro env ⟨z,l,a,b,c,d,rfl,isz,hl,e,he,hn,hle⟩
  rw [rangeD_len] at hle
  walk_at "dx"
  refine ⟨s,o,z.2,z.1,rfl,tb,⟨isz.1,isz.2.1⟩,fun rr hrr=>?_⟩
  have e1:rr=[]:=by
   refine List.eq_nil_iff_forall_not_mem.mpr fun r hr=>?_
   obtain ⟨e',m',_,lt⟩:=hP.step hs1 he hn ⟨r,hrr.mem_iff.mp hr,rfl⟩
   have:=(hP.is e' m').2.1
   omega
  subst e1
  walk_at "dx"
  have sh:shp (.list []):=(Sh.ints 0 []).shp (by decide)
  refine ⟨Nat.zero_le _,sh,sh,?_⟩
  rw [show PyData.eqv (.list []) (.list [])=true from SeqAt.eqv_refl _ (SeqAt.canLay_of_shaped sh)]
  exact q l hl
noncomputable abbrev s_law:Stmt:=top 23
theorem sc_law:FnScope ["_law_script", "_law_town_here", "_law_paper", "_law_turn", "_law_draws_here", "_law_day", "_law_lefts", "_law_rank", "_law_worse", "_law_left"] ["_law_script"] (defScope s_law):=⟨rfl,rfl,rfl,by decide +kernel,rfl,by decide +kernel,by decide +kernel⟩
theorem prod_eq:∀ s:List Int,prodI s=prodL s
 | []=>rfl
 | x::s=>by
  show x.toNat*prodI s=x.toNat*prodL s
  rw [prod_eq s]
theorem TB.tbl {s o:List Int} (h:TB s o) (hp:o.length*prodI s≤60):TbL s o:=by
 obtain ⟨h1,h2,h3,h4,h5,h6,h7⟩:=h
 refine ⟨h2,h3,fun x hx=>(h5 x hx).1,fun x hx=>(h6 x hx).1,h7.imp id fun h x hx=>Int.le_trans (h x hx) (by decide),?_⟩
 rw [allS_len,←prod_eq]
 omega
noncomputable def spLaw:DSp:=fun ss R=>∃ ns:List Int,ss=[.fr (.list (li ns))]∧ns.length≤63∧R (.fr (.bool true)) [.un]
theorem ok_law {f:Addr}{fd:FuncData} (F:Fun K "law" "law" s_law f fd) (B:Bn mg) (G__law_draws:Cal P w K mg base "_law_draws" 2 (spD K spDraws)) (G__law_town:Cal P w K mg base "_law_town" 2 (spD K spTown)) (G_paper_of:Cal P w K mg base "paper_of" 10 (spD K spPaper)) (G__law_stands_still:Cal P w K mg base "_law_stands_still" 3 (spD K spStill)) (G__law_begun:Cal P w K mg base "_law_begun" 1 (spD K spLBegun)) (G__law_pop:Cal P w K mg base "_law_pop" 1 (spD K spPop)):FnOk P w K mg base CX0 12 f fd ["_law_script"] (spD K spLaw):=by
 refine okD (k:=11) F sc_law (fun ss R h=>?_) (by decide) (fun cdv A outer s H E hr=>⟨_,(qs_bar (q_set (i:=1) sc_law.nd rfl (Or.inl rfl) (q_callT G__law_town (hr.mono (by decide)) rfl (qa_cons (q_call G__law_draws (hr.mono (by decide)) rfl (qa_cons (qf 0) (qa_cons q_int (qa_cons q_int qa_nil)))) (qa_cons q_int qa_nil))))
   (qs_bar (q_set (i:=2) sc_law.nd rfl (Or.inl rfl) (q_call G_paper_of (hr.mono (by decide)) rfl (qa_cons (qf 1) qa_nil)))
   (qs_cons (q_if (qt_cmp op_isN mIsN (qv 2) q_non (nomark _)) (qs_one (q_ret q_bl)) qs_nil)
   (qs_frz 2 (qs_bar (q_for PassesOwn.never rfl (qi_rng1 rfl B.range (qa_cons q_int qa_nil)) (qg_name (i:=3) sc_law.nd rfl (Or.inl rfl)) (qs_one (q_if (qt_not (qt_val (q_callTn G__law_stands_still (hr.mono (by decide)) rfl (qa_cons (qf 1) (qa_cons (qf 2) (qa_cons (q_call G__law_begun (hr.mono (by decide)) rfl (qa_cons (qf 1) qa_nil)) (qa_cons (q_call G__law_draws (hr.mono (by decide)) rfl (qa_cons (qf 0) (qa_cons (q_op op_add mI q_int (qv 3)) (qa_cons q_int qa_nil)))) qa_nil))))))) (qs_one (q_ret q_bl)) qs_nil)))
   (qs_bar (q_set (i:=4) sc_law.nd rfl (Or.inl rfl) (q_call G__law_draws (hr.mono (by decide)) rfl (qa_cons (qf 0) (qa_cons q_int (qa_cons q_int qa_nil)))))
   (qs_bar (q_asg (q_ix (ix_any (K:=K) rfl) mIx (qv 2) (q_op op_mod mIC (q_callS 0 G__law_pop (hr.mono (by decide)) rfl (qa_cons (qv 4) qa_nil)) (q_cb (kLen (K:=K) rfl) mLen rfl B.len PySem.boot_len (qa_cons (qv 2) qa_nil))) (fun _ _=>rfl)) (qg_tup (K:=K) (n:=3) rfl rfl (qgs_cons (qg_name (i:=5) sc_law.nd rfl (Or.inl rfl)) (qgs_cons (qg_name (i:=6) sc_law.nd rfl (Or.inl rfl)) (qgs_cons (qg_name (i:=7) sc_law.nd rfl (Or.inl rfl)) qgs_nil)))))
   (qs_cons (q_set (i:=8) sc_law.nd rfl (Or.inl rfl) (q_tup qa_nil))
   (qs_bar (q_for PassesOwn.never rfl (qi_tup (K:=K) rfl (qf 6)) (qg_name (i:=9) sc_law.nd rfl (Or.inl rfl)) (qs_one (q_set (i:=8) sc_law.nd rfl (Or.inl rfl) (q_catT (K:=K) rfl (qv 8) (q_tup (qa_cons (q_op op_sub mI (qv 9) (q_op op_mul mIC (q_op op_mod mIC (q_callS 0 G__law_pop (hr.mono (by decide)) rfl (qa_cons (qv 4) qa_nil)) q_int) (q_cty call_int1 mInt rfl B.int PyProof.Rows.boot_int (qa_cons (q_cmp op_gt mB (qv 9) q_int (nomark _)) qa_nil)))) qa_nil))))))
   (qs_one (q_ret (q_and (q_callS 3 G__law_stands_still (hr.mono (by decide)) rfl (qa_cons (qf 1) (qa_cons (qf 2) (qa_cons (q_tup (qa_cons (qf 5) (qa_cons (qf 6) qa_nil))) (qa_cons (qv 4) qa_nil))))) (q_one (q_callS 3 G__law_stands_still (hr.mono (by decide)) rfl (qa_cons (qf 1) (qa_cons (qf 2) (qa_cons (q_tup (qa_cons (qf 5) (qa_cons (qf 8) qa_nil))) (qa_cons (qv 4) qa_nil)))))))))))))))))),fun ss R h=>?_⟩)
 ·obtain ⟨ns,rfl,_⟩:=h
  rfl
 obtain ⟨ns,rfl,h63,q⟩:=h
 walk_at "dx"
 refine ⟨ns,1,30,rfl,h63,by decide,by decide,fun l hl=>?_⟩
 walk_at "dx"
 refine ⟨l,60,rfl,hl,by decide,by decide,fun s o l' hl' tb hp=>?_⟩
 walk_at "dx"
 have ht:=tb.tbl hp
 have hs1:∀ x∈s,1≤x:=fun x hx=>(tb.2.2.2.2.1 x hx).1
 have i0:IsS s o (0,s):=⟨tb.2.2.1,rfl,fun c hc=>⟨hs1 _ (getD_mem' hc),Int.le_refl _⟩⟩
 refine ⟨s,o,rfl,ht,?_,fun P hP hPl=>?_⟩
 ·walk_at "dx"
  exact q
 have bgn:∃ e∈P,noB s o e.1 (0,s):=by
  obtain ⟨e,he,e1⟩:=hP.bg
  exact ⟨e,he,by rw[e1];exact⟨i0,rfl,rfl,fun c _=>Int.le_refl _⟩⟩
 have hpos:0<P.length:=by
  obtain ⟨e,he,_⟩:=hP.bg
  exact List.length_pos_of_mem he
 walk_at "dx"
 refine ⟨by decide,by decide,?_⟩
 refine fd_intro (fun i env=>∃ a:Sl,env=[.fr (.list (li ns)),.fr (.tuple [.list (li s),.list (li o)]),.fr (.list (papD P)),a,.un,.un,.un,.un,.un,.un]) ⟨_,rfl⟩ ?_ ?_
 ·rintro i env hi ⟨a,rfl⟩
  rw [rangeD_len] at hi
  rw [rangeD_get]
  have hi:i<3:=hi
  walk_at "dx"
  refine ⟨s,o,rfl,by have:=tb.2.1;omega,?_⟩
  walk_at "dx"
  refine ⟨ns,300+i,60,by rw[Int.natCast_add];rfl,h63,by omega,by decide,fun l2 hl2=>?_⟩
  walk_at "dx"
  refine ⟨[.fr (.tuple [.list (li s),.list (li o)]),.fr (.list (papD P)),.fr (.tuple [.int 0,.tuple (li s)])],li l2,rfl,[.tuple [.list (li s),.list (li o)],.list (papD P),.tuple [.int 0,.tuple (li s)]],rfl,?_⟩
  refine ⟨s,o,l2,P,(0,s),rfl,tb,hP,hPl,i0,bgn,hl2,fun ds' hd'=>?_⟩
  walk_at "dx"
 ·rintro env ⟨a,rfl⟩
  walk_at "dx"
  refine ⟨ns,500,80,rfl,h63,by decide,by decide,fun l hl=>?_⟩
  walk_at "dx"
  refine ⟨l,rfl,?_⟩
  have p0:=hl.pop
  have hl2:=hl.drop
  generalize popV l=num at *
  generalize l.dropLast=l2 at *
  walk_at "dx"
  rw [show (papD P).length=P.length from List.length_map ..]
  obtain ⟨k,ek,hk⟩:=place (x:=num) (n:=P.length) hpos
  rw [ek]
  refine ⟨by omega,_,atI_nat (by rw[List.getElem?_map,List.getElem?_eq_getElem hk];rfl),?_⟩
  have he:=hP.is _ (List.getElem_mem hk)
  have hem:=List.getElem_mem hk
  generalize P[k]=e at *
  walk_at "dx"
  refine ⟨Nat.zero_le _,?_⟩
  have is1:=he.1
  refine fd_intro (fun i env=>∃ (l' w:List Int) (b:Sl),env=[.fr (.list (li ns)),.fr (.tuple [.list (li s),.list (li o)]),.fr (.list (papD P)),a,.ow (li l'),.fr (.int (e.1.1:Int)),.fr (.tuple (li e.1.2)),.fr (.int e.2),.fr (.tuple (li w)),b]∧Ds l'∧w.length=i∧∀ c,c<i→1≤w.getD c 0∧w.getD c 0≤e.1.2.getD c 0) ⟨l2,[],_,rfl,hl2,rfl,fun c hc=>absurd hc (Nat.not_lt_zero _)⟩ ?_ ?_
  ·rintro i env hi ⟨l',w,b,rfl,hd,hw,hb⟩
   have hi':i<e.1.2.length:=by simpa using hi
   rw [li_get]
   have bl:=is1.2.2 i (by rw[←is1.2.1];exact hi')
   generalize hlf:e.1.2.getD i 0=left at *
   walk_at "dd"
   refine ⟨l',rfl,?_⟩
   have p1:=hd.pop
   have hd2:=hd.drop
   generalize popV l'=n2 at *
   generalize l'.dropLast=l3 at *
   walk_at "dd"
   have m0:=Int.emod_nonneg n2 (show (2:Int)≠0 by decide)
   have m1:=Int.emod_lt_of_pos n2 (show (0:Int)<2 by decide)
   have val:1≤left - n2 % 2*(if 1<left then 1 else 0)∧left - n2 % 2*(if 1<left then 1 else 0)≤left:=by split <;> omega
   refine ⟨by decide,.inr ⟨cmul_l (by omega) (by omega),Nat.le_trans (by decide) line_big,?_,l3,rfl,w++[left - n2 % 2*(if 1<left then 1 else 0)],by simp,hd2,by simp[hw],fun c hc=>?_⟩⟩
   ·rw [List.length_map,hw]
    have h1:=tb.2.1
    have h2:=is1.2.1
    exact Nat.le_trans (by omega) line_big
   ·by_cases ec:c=i
    ·subst ec
     rw [show (w++[left - n2 % 2*(if 1<left then 1 else 0)]).getD c 0=left - n2 % 2*(if 1<left then 1 else 0) by rw[←hw];simp[List.getD_eq_getElem?_getD],hlf]
     exact val
    ·have:=hb c (by omega)
     rwa [show (w++[left - n2 % 2*(if 1<left then 1 else 0)]).getD c 0=w.getD c 0 by rw[List.getD_eq_getElem?_getD,List.getD_eq_getElem?_getD,List.getElem?_append_left (by omega)]]
  ·rintro env ⟨l',w,b,rfl,hd,hw,hb⟩
   rw [List.length_map] at hw hb
   walk_at "dx"
   have he1:noB s o e.1 e.1:=⟨is1,rfl,is1.2.1,fun c _=>Int.le_refl _⟩
   have isw:IsS s o (e.1.1,w):=⟨is1.1,by rw[hw,is1.2.1],fun c hc=>⟨(hb c (by rw[is1.2.1];exact hc)).1,Int.le_trans (hb c (by rw[is1.2.1];exact hc)).2 (is1.2.2 c hc).2⟩⟩
   have he2:noB s o e.1 (e.1.1,w):=⟨isw,rfl,is1.2.1,fun c hc=>(hb c (by rw[is1.2.1];exact hc)).2⟩
   refine ⟨Nat.le_trans (by decide) line_big,s,o,l',P,e.1,rfl,tb,hP,hPl,is1,⟨e,hem,he1⟩,hd,fun ds' hd'=>?_⟩
   walk_at "dx"
   refine ⟨Nat.le_trans (by decide) line_big,s,o,ds',P,(e.1.1,w),rfl,tb,hP,hPl,isw,⟨e,hem,he2⟩,hd',fun ds'' hd''=>?_⟩
   walk_at "dx"
   exact q
end
theorem all_mk {l:PySem.W.OpenLaw}{w:World}{K:PySem.W.Frag}{h:Heap}{mg:Str→Option Value}{fa:Addr} (X:K.In h) (G:h.Ns mainGlobals mg) (hfa:mg "law" = some (.ref fa))
  {f0:Addr}{od0 an0:Option Addr}{sl0:Array (Option Value)}{oc0 kV0 dc0 pm0 cd0 ct0:Value}
  {f1:Addr}{od1 an1:Option Addr}{sl1:Array (Option Value)}{oc1 kV1 dc1 pm1 cd1 ct1:Value}
  {f2:Addr}{od2 an2:Option Addr}{sl2:Array (Option Value)}{oc2 kV2 dc2 pm2 cd2 ct2:Value}
  {f3:Addr}{od3 an3:Option Addr}{sl3:Array (Option Value)}{oc3 kV3 dc3 pm3 cd3 ct3:Value}
  {f4:Addr}{od4 an4:Option Addr}{sl4:Array (Option Value)}{oc4 kV4 dc4 pm4 cd4 ct4:Value}
  {f5:Addr}{od5 an5:Option Addr}{sl5:Array (Option Value)}{oc5 kV5 dc5 pm5 cd5 ct5:Value}
  {f6:Addr}{od6 an6:Option Addr}{sl6:Array (Option Value)}{oc6 kV6 dc6 pm6 cd6 ct6:Value}
  {f7:Addr}{od7 an7:Option Addr}{sl7:Array (Option Value)}{oc7 kV7 dc7 pm7 cd7 ct7:Value}
  {f8:Addr}{od8 an8:Option Addr}{sl8:Array (Option Value)}{oc8 kV8 dc8 pm8 cd8 ct8:Value}
  {f9:Addr}{od9 an9:Option Addr}{sl9:Array (Option Value)}{oc9 kV9 dc9 pm9 cd9 ct9:Value}
  {f10:Addr}{od10 an10:Option Addr}{sl10:Array (Option Value)}{oc10 kV10 dc10 pm10 cd10 ct10:Value}
  {f11:Addr}{od11 an11:Option Addr}{sl11:Array (Option Value)}{oc11 kV11 dc11 pm11 cd11 ct11:Value}
  {f12:Addr}{od12 an12:Option Addr}{sl12:Array (Option Value)}{oc12 kV12 dc12 pm12 cd12 ct12:Value}
  {f13:Addr}{od13 an13:Option Addr}{sl13:Array (Option Value)}{oc13 kV13 dc13 pm13 cd13 ct13:Value}
  {f14:Addr}{od14 an14:Option Addr}{sl14:Array (Option Value)}{oc14 kV14 dc14 pm14 cd14 ct14:Value}
  {f15:Addr}{od15 an15:Option Addr}{sl15:Array (Option Value)}{oc15 kV15 dc15 pm15 cd15 ct15:Value}
  {f16:Addr}{od16 an16:Option Addr}{sl16:Array (Option Value)}{oc16 kV16 dc16 pm16 cd16 ct16:Value}
  (a0:PySem.W.nsIn K mainGlobals "_law_pop" = some (some (.ref f0))) (l0:K.lookup f0=some ⟨oc0,od0,.func (PySem.W.fnOf "_law_pop" "_law_pop" (defArgs s__law_pop) (defBody s__law_pop) (defScope s__law_pop) .none kV0 dc0 pm0 an0 cd0 ct0),sl0⟩) (c0:PySem.W.codeIn K cd0 "_law_pop" = true) (k0:PySem.W.keepIn K (.ref f0)=true)
  (a1:PySem.W.nsIn K mainGlobals "_law_mix" = some (some (.ref f1))) (l1:K.lookup f1=some ⟨oc1,od1,.func (PySem.W.fnOf "_law_mix" "_law_mix" (defArgs s__law_mix) (defBody s__law_mix) (defScope s__law_mix) .none kV1 dc1 pm1 an1 cd1 ct1),sl1⟩) (c1:PySem.W.codeIn K cd1 "_law_mix" = true) (k1:PySem.W.keepIn K (.ref f1)=true)
  (a2:PySem.W.nsIn K mainGlobals "_law_draws" = some (some (.ref f2))) (l2:K.lookup f2=some ⟨oc2,od2,.func (PySem.W.fnOf "_law_draws" "_law_draws" (defArgs s__law_draws) (defBody s__law_draws) (defScope s__law_draws) .none kV2 dc2 pm2 an2 cd2 ct2),sl2⟩) (c2:PySem.W.codeIn K cd2 "_law_draws" = true) (k2:PySem.W.keepIn K (.ref f2)=true)
  (a3:PySem.W.nsIn K mainGlobals "_law_town" = some (some (.ref f3))) (l3:K.lookup f3=some ⟨oc3,od3,.func (PySem.W.fnOf "_law_town" "_law_town" (defArgs s__law_town) (defBody s__law_town) (defScope s__law_town) .none kV3 dc3 pm3 an3 cd3 ct3),sl3⟩) (c3:PySem.W.codeIn K cd3 "_law_town" = true) (k3:PySem.W.keepIn K (.ref f3)=true)
  (a4:PySem.W.nsIn K mainGlobals "_law_rows" = some (some (.ref f4))) (l4:K.lookup f4=some ⟨oc4,od4,.func (PySem.W.fnOf "_law_rows" "_law_rows" (defArgs s__law_rows) (defBody s__law_rows) (defScope s__law_rows) .none kV4 dc4 pm4 an4 cd4 ct4),sl4⟩) (c4:PySem.W.codeIn K cd4 "_law_rows" = true) (k4:PySem.W.keepIn K (.ref f4)=true)
  (a5:PySem.W.nsIn K mainGlobals "_law_after" = some (some (.ref f5))) (l5:K.lookup f5=some ⟨oc5,od5,.func (PySem.W.fnOf "_law_after" "_law_after" (defArgs s__law_after) (defBody s__law_after) (defScope s__law_after) .none kV5 dc5 pm5 an5 cd5 ct5),sl5⟩) (c5:PySem.W.codeIn K cd5 "_law_after" = true) (k5:PySem.W.keepIn K (.ref f5)=true)
  (a6:PySem.W.nsIn K mainGlobals "hands_on" = some (some (.ref f6))) (l6:K.lookup f6=some ⟨oc6,od6,.func (PySem.W.fnOf "hands_on" "hands_on" (defArgs s_hands_on) (defBody s_hands_on) (defScope s_hands_on) .none kV6 dc6 pm6 an6 cd6 ct6),sl6⟩) (c6:PySem.W.codeIn K cd6 "hands_on" = true) (k6:PySem.W.keepIn K (.ref f6)=true)
  (a7:PySem.W.nsIn K mainGlobals "behind" = some (some (.ref f7))) (l7:K.lookup f7=some ⟨oc7,od7,.func (PySem.W.fnOf "behind" "behind" (defArgs s_behind) (defBody s_behind) (defScope s_behind) .none kV7 dc7 pm7 an7 cd7 ct7),sl7⟩) (c7:PySem.W.codeIn K cd7 "behind" = true) (k7:PySem.W.keepIn K (.ref f7)=true)
  (a8:PySem.W.nsIn K mainGlobals "begun" = some (some (.ref f8))) (l8:K.lookup f8=some ⟨oc8,od8,.func (PySem.W.fnOf "begun" "begun" (defArgs s_begun) (defBody s_begun) (defScope s_begun) .none kV8 dc8 pm8 an8 cd8 ct8),sl8⟩) (c8:PySem.W.codeIn K cd8 "begun" = true) (k8:PySem.W.keepIn K (.ref f8)=true)
  (a9:PySem.W.nsIn K mainGlobals "choices" = some (some (.ref f9))) (l9:K.lookup f9=some ⟨oc9,od9,.func (PySem.W.fnOf "choices" "choices" (defArgs s_choices) (defBody s_choices) (defScope s_choices) .none kV9 dc9 pm9 an9 cd9 ct9),sl9⟩) (c9:PySem.W.codeIn K cd9 "choices" = true) (k9:PySem.W.keepIn K (.ref f9)=true)
  (a10:PySem.W.nsIn K mainGlobals "full_rows" = some (some (.ref f10))) (l10:K.lookup f10=some ⟨oc10,od10,.func (PySem.W.fnOf "full_rows" "full_rows" (defArgs s_full_rows) (defBody s_full_rows) (defScope s_full_rows) .none kV10 dc10 pm10 an10 cd10 ct10),sl10⟩) (c10:PySem.W.codeIn K cd10 "full_rows" = true) (k10:PySem.W.keepIn K (.ref f10)=true)
  (a11:PySem.W.nsIn K mainGlobals "looked_through" = some (some (.ref f11))) (l11:K.lookup f11=some ⟨oc11,od11,.func (PySem.W.fnOf "looked_through" "looked_through" (defArgs s_looked_through) (defBody s_looked_through) (defScope s_looked_through) .none kV11 dc11 pm11 an11 cd11 ct11),sl11⟩) (c11:PySem.W.codeIn K cd11 "looked_through" = true) (k11:PySem.W.keepIn K (.ref f11)=true)
  (a12:PySem.W.nsIn K mainGlobals "paper_of" = some (some (.ref f12))) (l12:K.lookup f12=some ⟨oc12,od12,.func (PySem.W.fnOf "paper_of" "paper_of" (defArgs s_paper_of) (defBody s_paper_of) (defScope s_paper_of) .none kV12 dc12 pm12 an12 cd12 ct12),sl12⟩) (c12:PySem.W.codeIn K cd12 "paper_of" = true) (k12:PySem.W.keepIn K (.ref f12)=true)
  (a13:PySem.W.nsIn K mainGlobals "_law_begun" = some (some (.ref f13))) (l13:K.lookup f13=some ⟨oc13,od13,.func (PySem.W.fnOf "_law_begun" "_law_begun" (defArgs s__law_begun) (defBody s__law_begun) (defScope s__law_begun) .none kV13 dc13 pm13 an13 cd13 ct13),sl13⟩) (c13:PySem.W.codeIn K cd13 "_law_begun" = true) (k13:PySem.W.keepIn K (.ref f13)=true)
  (a14:PySem.W.nsIn K mainGlobals "_law_no_worse" = some (some (.ref f14))) (l14:K.lookup f14=some ⟨oc14,od14,.func (PySem.W.fnOf "_law_no_worse" "_law_no_worse" (defArgs s__law_no_worse) (defBody s__law_no_worse) (defScope s__law_no_worse) .none kV14 dc14 pm14 an14 cd14 ct14),sl14⟩) (c14:PySem.W.codeIn K cd14 "_law_no_worse" = true) (k14:PySem.W.keepIn K (.ref f14)=true)
  (a15:PySem.W.nsIn K mainGlobals "_law_stands_still" = some (some (.ref f15))) (l15:K.lookup f15=some ⟨oc15,od15,.func (PySem.W.fnOf "_law_stands_still" "_law_stands_still" (defArgs s__law_stands_still) (defBody s__law_stands_still) (defScope s__law_stands_still) .none kV15 dc15 pm15 an15 cd15 ct15),sl15⟩) (c15:PySem.W.codeIn K cd15 "_law_stands_still" = true) (k15:PySem.W.keepIn K (.ref f15)=true)
  (a16:PySem.W.nsIn K mainGlobals "law" = some (some (.ref f16))) (l16:K.lookup f16=some ⟨oc16,od16,.func (PySem.W.fnOf "law" "law" (defArgs s_law) (defBody s_law) (defScope s_law) .none kV16 dc16 pm16 an16 cd16 ct16),sl16⟩) (c16:PySem.W.codeIn K cd16 "law" = true) (k16:PySem.W.keepIn K (.ref f16)=true)
  {cc9 TT9:Addr}{odc9:Option Addr}{slc9:Array (Option Value)}{vsc9:Array Value} (hcd9:cd9=.ref cc9) (lc9:K.lookup cc9=some ⟨.type "code",odc9,.fields vsc9,slc9⟩) (hT9:CodeVs vsc9 cc9 TT9)
  {cc10 TT10:Addr}{odc10:Option Addr}{slc10:Array (Option Value)}{vsc10:Array Value} (hcd10:cd10=.ref cc10) (lc10:K.lookup cc10=some ⟨.type "code",odc10,.fields vsc10,slc10⟩) (hT10:CodeVs vsc10 cc10 TT10)
  (z_len:PySem.W.nsIn K mainGlobals "len" = some none)
  (z_range:PySem.W.nsIn K mainGlobals "range" = some none)
  (z_min:PySem.W.nsIn K mainGlobals "min" = some none)
  (z_max:PySem.W.nsIn K mainGlobals "max" = some none)
  (z_enumerate:PySem.W.nsIn K mainGlobals "enumerate" = some none)
  (z_zip:PySem.W.nsIn K mainGlobals "zip" = some none)
  (z_all:PySem.W.nsIn K mainGlobals "all" = some none)
  (z_any:PySem.W.nsIn K mainGlobals "any" = some none)
  (z_isinstance:PySem.W.nsIn K mainGlobals "isinstance" = some none)
  (z_bool:PySem.W.nsIn K mainGlobals "bool" = some none)
  (z_int:PySem.W.nsIn K mainGlobals "int" = some none)
  (z_list:PySem.W.nsIn K mainGlobals "list" = some none)
  (z_tuple:PySem.W.nsIn K mainGlobals "tuple" = some none)
  (z_sorted:PySem.W.nsIn K mainGlobals "sorted" = some none)
  (z_str:PySem.W.nsIn K mainGlobals "str" = some none)
  (z_sum:PySem.W.nsIn K mainGlobals "sum" = some none)
  (z_abs:PySem.W.nsIn K mainGlobals "abs" = some none)
  : ∃ fd:FuncData,(∀ (s:Shared) (v:Value),BindsTo s fd ⟨[v],[]⟩ [("_law_script",v)])∧∀ base:Heap,K.In base→base.Ns mainGlobals mg→FnOk l.prog w K mg base CX0 12 fa fd ["_law_script"] (spD K spLaw):=by
 have e:=hfa.symm.trans (PySem.W.mg_of X G a16)
 cases e
 have B:Bn mg:=⟨PySem.W.mg_none_of X G z_len,PySem.W.mg_none_of X G z_range,PySem.W.mg_none_of X G z_min,PySem.W.mg_none_of X G z_max,PySem.W.mg_none_of X G z_enumerate,PySem.W.mg_none_of X G z_zip,PySem.W.mg_none_of X G z_all,PySem.W.mg_none_of X G z_any,PySem.W.mg_none_of X G z_isinstance,PySem.W.mg_none_of X G z_bool,PySem.W.mg_none_of X G z_int,PySem.W.mg_none_of X G z_list,PySem.W.mg_none_of X G z_tuple,PySem.W.mg_none_of X G z_sorted,PySem.W.mg_none_of X G z_str,PySem.W.mg_none_of X G z_sum,PySem.W.mg_none_of X G z_abs⟩
 refine ⟨PySem.W.fnOf "law" "law" (defArgs s_law) (defBody s_law) (defScope s_law) .none kV16 dc16 pm16 an16 cd16 ct16,fun s v=>.of_eq rfl,fun base Xb _=>?_⟩
 have F__law_pop:=fun_mk (st:=s__law_pop) l0 c0 k0
 have G__law_pop:=calD F__law_pop (PySem.W.mg_of X G a0) (bi__law_pop F__law_pop) (ok__law_pop (P:=l.prog) (w:=w) (base:=base) F__law_pop B)
 have F__law_mix:=fun_mk (st:=s__law_mix) l1 c1 k1
 have G__law_mix:=calD F__law_mix (PySem.W.mg_of X G a1) (bi__law_mix F__law_mix) (ok__law_mix (P:=l.prog) (w:=w) (base:=base) F__law_mix B)
 have F__law_draws:=fun_mk (st:=s__law_draws) l2 c2 k2
 have G__law_draws:=calD F__law_draws (PySem.W.mg_of X G a2) (bi__law_draws F__law_draws) (ok__law_draws (P:=l.prog) (w:=w) (base:=base) F__law_draws B G__law_mix)
 have F__law_town:=fun_mk (st:=s__law_town) l3 c3 k3
 have G__law_town:=calD F__law_town (PySem.W.mg_of X G a3) (bi__law_town F__law_town) (ok__law_town (P:=l.prog) (w:=w) (base:=base) F__law_town B G__law_pop)
 have F__law_rows:=fun_mk (st:=s__law_rows) l4 c4 k4
 have G__law_rows:=calD F__law_rows (PySem.W.mg_of X G a4) (bi__law_rows F__law_rows) (ok__law_rows (P:=l.prog) (w:=w) (base:=base) F__law_rows B)
 have F__law_after:=fun_mk (st:=s__law_after) l5 c5 k5
 have G__law_after:=calD F__law_after (PySem.W.mg_of X G a5) (bi__law_after F__law_after) (ok__law_after (P:=l.prog) (w:=w) (base:=base) F__law_after B)
 have F_hands_on:=fun_mk (st:=s_hands_on) l6 c6 k6
 have G_hands_on:=calD F_hands_on (PySem.W.mg_of X G a6) (bi_hands_on F_hands_on) (ok_hands_on (P:=l.prog) (w:=w) (base:=base) F_hands_on B)
 have F_behind:=fun_mk (st:=s_behind) l7 c7 k7
 have G_behind:=calD F_behind (PySem.W.mg_of X G a7) (bi_behind F_behind) (ok_behind (P:=l.prog) (w:=w) (base:=base) F_behind B)
 have F_begun:=fun_mk (st:=s_begun) l8 c8 k8
 have G_begun:=calD F_begun (PySem.W.mg_of X G a8) (bi_begun F_begun) (ok_begun (P:=l.prog) (w:=w) (base:=base) F_begun B)
 have F_choices:=fun_mk (st:=s_choices) l9 c9 k9
 have G_choices:=calD F_choices (PySem.W.mg_of X G a9) (bi_choices F_choices) (ok_choices (P:=l.prog) (w:=w) (base:=base) F_choices B (lam_fd (by decide) a9 l9 hcd9 lc9 hT9 Xb) G_hands_on)
 have F_full_rows:=fun_mk (st:=s_full_rows) l10 c10 k10
 have G_full_rows:=calD F_full_rows (PySem.W.mg_of X G a10) (bi_full_rows F_full_rows) (ok_full_rows (P:=l.prog) (w:=w) (base:=base) F_full_rows B (lam_fd (by decide) a10 l10 hcd10 lc10 hT10 Xb) G_choices)
 have F_looked_through:=fun_mk (st:=s_looked_through) l11 c11 k11
 have G_looked_through:=calD F_looked_through (PySem.W.mg_of X G a11) (bi_looked_through F_looked_through) (ok_looked_through (P:=l.prog) (w:=w) (base:=base) F_looked_through B G_full_rows G_behind)
 have F_paper_of:=fun_mk (st:=s_paper_of) l12 c12 k12
 have G_paper_of:=calD F_paper_of (PySem.W.mg_of X G a12) (bi_paper_of F_paper_of) (ok_paper_of (P:=l.prog) (w:=w) (base:=base) F_paper_of B G_looked_through G_begun G_full_rows G_behind)
 have F__law_begun:=fun_mk (st:=s__law_begun) l13 c13 k13
 have G__law_begun:=calD F__law_begun (PySem.W.mg_of X G a13) (bi__law_begun F__law_begun) (ok__law_begun (P:=l.prog) (w:=w) (base:=base) F__law_begun B)
 have F__law_no_worse:=fun_mk (st:=s__law_no_worse) l14 c14 k14
 have G__law_no_worse:=calD F__law_no_worse (PySem.W.mg_of X G a14) (bi__law_no_worse F__law_no_worse) (ok__law_no_worse (P:=l.prog) (w:=w) (base:=base) F__law_no_worse B)
 have F__law_stands_still:=fun_mk (st:=s__law_stands_still) l15 c15 k15
 have G__law_stands_still:=calD F__law_stands_still (PySem.W.mg_of X G a15) (bi__law_stands_still F__law_stands_still) (ok__law_stands_still (P:=l.prog) (w:=w) (base:=base) F__law_stands_still B G__law_no_worse G__law_rows G__law_pop G__law_after)
 have F_law:=fun_mk (st:=s_law) l16 c16 k16
 exact ok_law (P:=l.prog) (w:=w) (base:=base) F_law B G__law_draws G__law_town G_paper_of G__law_stands_still G__law_begun G__law_pop
end W
open PySem PySem.W PyProof.Rows
set_option maxRecDepth 100000 in
set_option maxHeartbeats 0 in
theorem PySem.Challenge.cw_windround_k13_whole_shut_out_stands_stil_holds : PySem.Challenge.rw_windround_k13_whole_shut_out_stands_stil.Holds := by
 w_on;o_law;k_head;(case hw=>w_witness2)
 k_fill
 refine L2.walkD (l:=PySem.Challenge.rw_windround_k13_whole_shut_out_stands_stil) (sp:=W.spLaw) (k:=12) (by decide) rfl rfl (fun ns h=>⟨ns,rfl,h,rfl⟩) ?TB (fun w h Y=>PySem.W.km_in_of Y) ?F
 case TB =>
  intro w s₀ mg mb h G KX
  refine' L2.tabs_mk2 (x := "choices") (y := "full_rows") (z := "chain_plan") G KX rfl rfl rfl ?a1 ?l1 ?c1 ?lc1 ?hT1 ?hn1 ?a2 ?l2 ?c2 ?lc2 ?hT2 ?hn2 ?az ?hne
  (case a1=>k_is);(case l1=>k_is);(case c1=>exact rfl);(case lc1=>k_is);(case hT1=>exact⟨rfl,rfl,⟨_,_,rfl⟩,⟨_,_,rfl⟩,⟨_,rfl⟩,⟨_,_,rfl⟩,by decide⟩);(case hn1=>kernel_rfl)
  (case a2=>k_is);(case l2=>k_is);(case c2=>exact rfl);(case lc2=>k_is);(case hT2=>exact⟨rfl,rfl,⟨_,_,rfl⟩,⟨_,_,rfl⟩,⟨_,rfl⟩,⟨_,_,rfl⟩,by decide⟩);(case hn2=>kernel_rfl)
  (case az=>k_is);(case hne=>decide)
 case F =>
  intro w mg fa h KX G hmg
  refine' W.all_mk KX G hmg ?a0 ?l0 ?c0 ?k0 ?a1 ?l1 ?c1 ?k1 ?a2 ?l2 ?c2 ?k2 ?a3 ?l3 ?c3 ?k3 ?a4 ?l4 ?c4 ?k4 ?a5 ?l5 ?c5 ?k5 ?a6 ?l6 ?c6 ?k6 ?a7 ?l7 ?c7 ?k7 ?a8 ?l8 ?c8 ?k8 ?a9 ?l9 ?c9 ?k9 ?a10 ?l10 ?c10 ?k10 ?a11 ?l11 ?c11 ?k11 ?a12 ?l12 ?c12 ?k12 ?a13 ?l13 ?c13 ?k13 ?a14 ?l14 ?c14 ?k14 ?a15 ?l15 ?c15 ?k15 ?a16 ?l16 ?c16 ?k16 ?hcd9 ?lc9 ?hT9 ?hcd10 ?lc10 ?hT10 ?z_len ?z_range ?z_min ?z_max ?z_enumerate ?z_zip ?z_all ?z_any ?z_isinstance ?z_bool ?z_int ?z_list ?z_tuple ?z_sorted ?z_str ?z_sum ?z_abs
  (case a0=>k_is);(case l0=>k_is);(case c0=>k_is);(case k0=>k_is)
  (case a1=>k_is);(case l1=>k_is);(case c1=>k_is);(case k1=>k_is)
  (case a2=>k_is);(case l2=>k_is);(case c2=>k_is);(case k2=>k_is)
  (case a3=>k_is);(case l3=>k_is);(case c3=>k_is);(case k3=>k_is)
  (case a4=>k_is);(case l4=>k_is);(case c4=>k_is);(case k4=>k_is)
  (case a5=>k_is);(case l5=>k_is);(case c5=>k_is);(case k5=>k_is)
  (case a6=>k_is);(case l6=>k_is);(case c6=>k_is);(case k6=>k_is)
  (case a7=>k_is);(case l7=>k_is);(case c7=>k_is);(case k7=>k_is)
  (case a8=>k_is);(case l8=>k_is);(case c8=>k_is);(case k8=>k_is)
  (case a9=>k_is);(case l9=>k_is);(case c9=>k_is);(case k9=>k_is)
  (case a10=>k_is);(case l10=>k_is);(case c10=>k_is);(case k10=>k_is)
  (case a11=>k_is);(case l11=>k_is);(case c11=>k_is);(case k11=>k_is)
  (case a12=>k_is);(case l12=>k_is);(case c12=>k_is);(case k12=>k_is)
  (case a13=>k_is);(case l13=>k_is);(case c13=>k_is);(case k13=>k_is)
  (case a14=>k_is);(case l14=>k_is);(case c14=>k_is);(case k14=>k_is)
  (case a15=>k_is);(case l15=>k_is);(case c15=>k_is);(case k15=>k_is)
  (case a16=>k_is);(case l16=>k_is);(case c16=>k_is);(case k16=>k_is)
  (case hcd9=>exact rfl);(case lc9=>k_is);(case hT9=>exact⟨rfl,rfl,⟨_,_,rfl⟩,⟨_,_,rfl⟩,⟨_,rfl⟩,⟨_,_,rfl⟩,by decide⟩)
  (case hcd10=>exact rfl);(case lc10=>k_is);(case hT10=>exact⟨rfl,rfl,⟨_,_,rfl⟩,⟨_,_,rfl⟩,⟨_,rfl⟩,⟨_,_,rfl⟩,by decide⟩)
  (case z_len=>k_is)
  (case z_range=>k_is)
  (case z_min=>k_is)
  (case z_max=>k_is)
  (case z_enumerate=>k_is)
  (case z_zip=>k_is)
  (case z_all=>k_is)
  (case z_any=>k_is)
  (case z_isinstance=>k_is)
  (case z_bool=>k_is)
  (case z_int=>k_is)
  (case z_list=>k_is)
  (case z_tuple=>k_is)
  (case z_sorted=>k_is)
  (case z_str=>k_is)
  (case z_sum=>k_is)
  (case z_abs=>k_is)
