import PyProof.Rows.All
import Wide.All
import OpenK.AllK
import Wide.FinOn
import Lean
import PyProof.EqAt
import PyProof.EqKinds
import PyProof.TupleCall
import PyProof.ListMulAny
import PyProof.StrLawsTight
import KE.KIntText
import PyProof.Rows.StrItems
import PyProof.StrWalks
import KE.KSortTup
import KE.KLam
import PyProof.ExcInit
import PyProof.ExcClass3
import PyProof.InstStoreFacts
import PyProof.ExcBaseAll.ValueError
import PyProof.ExcArgsOwn
import PyProof.ExcAttrAll.ValueError
import PyProof.Rows.RuleN_isinstance
import PySem.Challenge.RW_windround_k03_days_are_gone
set_option compiler.extract_closed false
local macro_rules | `(tactic| omega) => `(tactic| first | assumption | lia)
set_option Elab.async false
set_option linter.all false
set_option maxRecDepth 100000
namespace L2
open PySem PySem.Spec PyProof.Rows
abbrev Key := Sum Int Str
def keyIs : Key → Value → Bool
  | .inl k, v => Value.isInt k v
  | .inr x, v => Value.isStrOf x v
def keyH (w : World) : Key → Int
  | .inl k => hashInt k
  | .inr x => hashStr w x
theorem keyIs_shape : ∀ {k : Key} {v : Value}, keyIs k v = true → (∃ i t, k = Sum.inl i ∧ v = Value.int i t) ∨ (∃ x t, k = Sum.inr x ∧ v = Value.str x t)
  | .inl i, v, h => by
    obtain ⟨t, e⟩ := Value.isInt_shape (k := i) (v := v) h
    exact .inl ⟨i, t, rfl, e⟩
  | .inr x, v, h => by
    obtain ⟨t, e⟩ := Value.isStrOf_shape (x := x) (v := v) h
    exact .inr ⟨x, t, rfl, e⟩
theorem key_ll (a b : Int) : decide ((Sum.inl a : Key) = Sum.inl b) = (a == b) := by
  by_cases e : a = b
  · subst e; simp
  · have h : ¬ (Sum.inl a : Key) = Sum.inl b := fun q => e (Sum.inl.inj q)
    rw [decide_eq_false h]
    exact (beq_eq_false_iff_ne.mpr e).symm
theorem key_rr (a b : Str) : decide ((Sum.inr a : Key) = Sum.inr b) = decide (a = b) := by
  by_cases e : a = b
  · subst e; simp
  · have h : ¬ (Sum.inr a : Key) = Sum.inr b := fun q => e (Sum.inr.inj q)
    rw [decide_eq_false h, decide_eq_false e]
theorem key_lr (a : Int) (b : Str) : decide ((Sum.inl a : Key) = Sum.inr b) = false := decide_eq_false (fun q => nomatch q)
theorem key_rl (a : Str) (b : Int) : decide ((Sum.inr a : Key) = Sum.inl b) = false := decide_eq_false (fun q => nomatch q)
def mixKind (prog : Program) (w : World) : PySem.KeyKind prog w Key where
  is := keyIs
  hash := keyH w
  inj := fun v a b ha hb => by
    rcases keyIs_shape ha with ⟨i, t, rfl, rfl⟩ | ⟨x, t, rfl, rfl⟩
    · rcases keyIs_shape hb with ⟨j, u, rfl, e⟩ | ⟨y, u, rfl, e⟩
      · injection e with e1 _; rw [e1]
      · exact nomatch e
    · rcases keyIs_shape hb with ⟨j, u, rfl, e⟩ | ⟨y, u, rfl, e⟩
      · exact nomatch e
      · injection e with e1 _; rw [e1]
  byValue := fun k v h => by
    rcases keyIs_shape h with ⟨i, t, rfl, rfl⟩ | ⟨x, t, rfl, rfl⟩ <;> rfl
  pyHash := fun hv h => by
    rcases keyIs_shape hv with ⟨i, t, rfl, rfl⟩ | ⟨x, t, rfl, rfl⟩
    · exact wpAny_pyHash_int h
    · exact wpAny_pyHash_str h
  eqBool := fun hu hv h => by
    rcases keyIs_shape hu with ⟨i, t, rfl, rfl⟩ | ⟨x, t, rfl, rfl⟩
    · rcases keyIs_shape hv with ⟨j, u, rfl, rfl⟩ | ⟨y, u, rfl, rfl⟩
      · rw [key_ll] at h; exact wpAny_eqBool_int h
      · rw [key_lr] at h; exact SeqAt.EqAt.int_str i t y u _ _ _ _ h
    · rcases keyIs_shape hv with ⟨j, u, rfl, rfl⟩ | ⟨y, u, rfl, rfl⟩
      · rw [key_rl] at h; exact SeqAt.EqAt.str_int x t j u _ _ _ _ h
      · rw [key_rr] at h; exact wpAny_eqBool_str h
  «strs» := fun k x t v h => by
    rcases keyIs_shape h with ⟨i, u, rfl, e⟩ | ⟨y, u, rfl, e⟩
    · exact nomatch e
    · injection e with e1 _
      subst e1
      cases v <;> rfl
end L2
namespace L2
open PySem PySem.Spec PyProof.Rows
inductive V where
  | non | bl (b : Bool) | int (i : Int) | str (x : Str) | byt (b : Array UInt8) | flt (b : UInt64) | ref (a : Addr) | ty (n : String)
  deriving DecidableEq
def RelV : V → Value → Prop
  | .non, u => u = Value.none
  | .bl b, u => u = Value.bool b
  | .int i, u => ∃ t, u = Value.int i t
  | .str x, u => ∃ t, u = Value.str x t
  | .byt b, u => ∃ t, u = Value.bytes b t
  | .flt b, u => ∃ t, u = Value.float b t
  | .ref a, u => u = Value.ref a
  | .ty n, u => u = Value.type n
abbrev Vals : List V → List Value → Prop := Paired RelV
theorem Vals.length {xs : List V} {us : List Value} (r : Vals xs us) : xs.length = us.length := Paired.length r
theorem Vals.get : ∀ {xs : List V} {us : List Value} {i : Nat} {x : V}, Vals xs us → xs[i]? = some x → ∃ u, us[i]? = some u ∧ RelV x u
  | _, _, _, _, .nil, e => by simp at e
  | _, _, 0, _, .cons r _, e => by simp at e; subst e; exact ⟨_, rfl, r⟩
  | _, _, i + 1, x, .cons _ t, e => by
    obtain ⟨u, h1, h2⟩ := Vals.get (i := i) (x := x) t (by simpa using e)
    exact ⟨u, by simpa using h1, h2⟩
theorem Vals.set {x : V} {u : Value} (r : RelV x u) : ∀ {xs : List V} {us : List Value} (i : Nat), Vals xs us → Vals (xs.set i x) (us.set i u)
  | _, _, _, .nil => .nil
  | _, _, 0, .cons _ t => .cons r t
  | _, _, i + 1, .cons q t => .cons q (Vals.set r i t)
theorem Vals.append : ∀ {xs ys : List V} {us ws : List Value}, Vals xs us → Vals ys ws → Vals (xs ++ ys) (us ++ ws)
  | _, _, _, _, .nil, s => s
  | _, _, _, _, .cons r t, s => .cons r (Vals.append t s)
theorem Vals.take : ∀ {xs : List V} {us : List Value} (n : Nat), Vals xs us → Vals (xs.take n) (us.take n)
  | _, _, 0, _ => .nil
  | _, _, _ + 1, .nil => .nil
  | _, _, n + 1, .cons r t => .cons r (Vals.take n t)
theorem Vals.drop : ∀ {xs : List V} {us : List Value} (n : Nat), Vals xs us → Vals (xs.drop n) (us.drop n)
  | _, _, 0, r => r
  | _, _, _ + 1, .nil => .nil
  | _, _, n + 1, .cons _ t => Vals.drop n t
def RelO : Option V → Option Value → Prop
  | some v, some u => RelV v u
  | none, none => True
  | _, _ => False
def KV {κ : Type} : List (κ × V) → List (κ × Value) → Prop := Paired fun (p : κ × V) (q : κ × Value) => p.1 = q.1 ∧ RelV p.2 q.2
def kV : Key → V
  | .inl i => .int i
  | .inr x => .str x
inductive HO where
  | lst (xs : List V)
  | tup (xs : List V)
  | dK (kvs : List (Key × V)) | dT (kvs : List (List Key × V))
  | set (S : Int → Bool) (n : Nat)
  | ins (C dx : Addr) (fs : List (Str × V))
  | own (x : Addr)
  | xd (fs : List (Str × V))
  | met (f x : Addr)
  | rng (lo hi : Int)
  | frz (o : Obj) (u : HO)
  | tbl (q : Str)
  | ext (φ : Heap → Prop)
abbrev Hp := Addr → Option HO
def Fix : HO → Prop
  | .tup _ => True
  | .frz _ _ => True
  | _ => False
def TabOk (H : Hp) (h : Heap) (a : Addr) (q : Str) : Prop := ∃ ps : Array Value, h.get? a = some { cls := .none, data := .fields ps } ∧ TriplesOk ps.toList ∧
  ∀ pos cv, codeAmong pos ps.toList = some cv → ∃ c oc u vs t, cv = .ref c ∧ H c = some (.frz oc u) ∧ oc.data = .fields vs ∧ vs[1]? = some (.str q t)
def upd (H : Hp) (a : Addr) (o : HO) : Hp := fun b => if b = a then some o else H b
theorem upd_same {H : Hp} {a : Addr} {o : HO} : upd H a o a = some o := by unfold upd; rw [if_pos rfl]
theorem upd_ne {H : Hp} {a b : Addr} {o : HO} (h : b ≠ a) : upd H a o b = H b := by unfold upd; rw [if_neg h]
theorem upd_upd {H : Hp} {a : Addr} {o u : HO} : upd (upd H a o) a u = upd H a u := by
  funext b; unfold upd; split <;> rfl
theorem ne_of_none {H : Hp} {a b : Addr} {o : HO} (h : H a = some o) (h' : H b = none) : a ≠ b := by
  intro e; subst e; rw [h] at h'; cases h'
section
variable (P : Program) (w : World)
def ObjOk (H : Hp) (h : Heap) (a : Addr) : HO → Prop
  | .lst xs => xs.length ≤ sizeLine ∧ ∃ (its : List Value) (n : Nat), Vals xs its ∧ h.get? a = some { cls := .type "list", data := .seq its.toArray n }
  | .tup xs => xs.length ≤ sizeLine ∧ ∃ its : List Value, Vals xs its ∧ IsTup h a its.toArray
  | .dK kvs => kvs.length ≤ sizeLine ∧ (a == sysModules) = false ∧ ∃ vs, KV kvs vs ∧ h.DictOf (mixKind P w) a vs
  | .dT kvs => kvs.length ≤ sizeLine ∧ (a == sysModules) = false ∧ ∃ xs : List (List Key × Addr × Value),
      Paired (fun (p : List Key × V) (q : List Key × Addr × Value) => p.1 = q.1 ∧ H q.2.1 = some (.tup (p.1.map kV)) ∧ RelV p.2 q.2.2) kvs xs ∧
      ∃ o es ep, h.get? a = some o ∧ o.ExactDict ∧ o.data = .dict es ep ∧ es.toList = xs.map (entryOfKey (tupleKind (mixKind P w))) ∧ (xs.map (·.1)).Nodup
  | .set S n => h.SetOf (intKind P w) a S n
  | .ins C dx fs => H dx = some (.own a) ∧ fs.length ≤ 1000 ∧ dx ≠ a ∧ h.get? a = some (PySem.W.instObj C dx) ∧
      ∃ mA, h.Ns1 dx mA ∧ (∀ f, RelO (fs.lookup f) (mA f)) ∧ PySem.Within mA (fs.map (·.1))
  | .own _ => ∃ o, h.get? a = some o
  | .xd fs => ∃ mA, h.Ns1 a mA ∧ ∀ f, RelO (fs.lookup f) (mA f)
  | .rng lo hi => ∃ t u v, h.get? a = some { cls := .type "range", data := .fields #[.int lo t, .int hi u, .int 1 v] }
  | .frz o u => h.get? a = some o ∧ ObjOk H h a u
  | .tbl q => TabOk H h a q
  | .met f x => h.get? a = some (PySem.W.methodObj (.ref f) (.ref x))
  | .ext φ => φ h ∧ (∃ o, h.get? a = some o) ∧ ∀ h1 h2 : Heap, φ h1 → (∀ o, h1.get? a = some o → h2.get? a = some o) → φ h2
def HOk (H : Hp) (h : Heap) : Prop := ∀ a o, H a = some o → ObjOk P w H h a o
end
section
variable {P : Program} {w : World} {H H' : Hp} {h h' : Heap} {a : Addr} {o : HO}
theorem ObjOk.lt (x : ObjOk P w H h a o) : a < h.objs.size := by
  cases o with
  | lst xs => obtain ⟨_, _, _, _, e⟩ := x; exact Heap.lt_size e
  | tup xs => obtain ⟨_, _, _, p⟩ := x; exact p.lt
  | dK kvs => obtain ⟨_, _, _, _, o, _, _, e, _⟩ := x; exact Heap.lt_size e
  | dT kvs => obtain ⟨_, _, _, _, o, _, _, e, _⟩ := x; exact Heap.lt_size e
  | set S n => obtain ⟨o, _, _, _, e, _⟩ := x; exact Heap.lt_size e
  | ins C dx fs => obtain ⟨_, _, _, e, _⟩ := x; exact Heap.lt_size e
  | own y => obtain ⟨_, e⟩ := x; exact Heap.lt_size e
  | xd fs => obtain ⟨_, ⟨_, _, _, e, _⟩, _⟩ := x; exact Heap.lt_size e
  | rng lo hi => obtain ⟨_, _, _, e⟩ := x; exact Heap.lt_size e
  | frz ob u => obtain ⟨e, _⟩ := x; exact Heap.lt_size e
  | tbl q => obtain ⟨_, e, _⟩ := x; exact Heap.lt_size e
  | met f y => exact Heap.lt_size (show h.get? a = some _ from x)
  | ext φ => obtain ⟨_, ⟨_, e⟩, _⟩ := x; exact Heap.lt_size e
theorem Paired.mapP {α β : Type} {F G : α → β → Prop} : ∀ {l₁ : List α} {l₂ : List β}, Paired F l₁ l₂ → (∀ a b, F a b → G a b) → Paired G l₁ l₂
  | _, _, .nil, _ => .nil
  | _, _, .cons r t, f => .cons (f _ _ r) (Paired.mapP t f)
theorem ObjOk.stay (x : ObjOk P w H h a o) (k : ∀ b u, (b = a ∨ H b = some (.own a)) → h.get? b = some u → h'.get? b = some u)
    (ho : ∀ b, H b = some (.own a) → H' b = some (.own a)) (ht : ∀ b o, Fix o → H b = some o → H' b = some o) : ObjOk P w H' h' a o := by
  induction o with
  | lst xs => obtain ⟨z, its, n, r, e⟩ := x; exact ⟨z, its, n, r, k _ _ (.inl rfl) e⟩
  | tup xs => obtain ⟨z, its, r, ob, e, c⟩ := x; exact ⟨z, its, r, ob, k _ _ (.inl rfl) e, c⟩
  | dK kvs => obtain ⟨z, y, vs, r, ob, es, ep, e, c⟩ := x; exact ⟨z, y, vs, r, ob, es, ep, k _ _ (.inl rfl) e, c⟩
  | dT kvs =>
    obtain ⟨z, y, xs, r, ob, es, ep, e, c⟩ := x
    exact ⟨z, y, xs, Paired.mapP r fun p q z => ⟨z.1, ht _ _ trivial z.2.1, z.2.2⟩, ob, es, ep, k _ _ (.inl rfl) e, c⟩
  | set S n => obtain ⟨ob, es, ep, t, e, c⟩ := x; exact ⟨ob, es, ep, t, k _ _ (.inl rfl) e, c⟩
  | ins C dx fs =>
    obtain ⟨d, z, ne, e, mA, ⟨od, es, ep, e2, c⟩, r⟩ := x
    exact ⟨ho _ d, z, ne, k _ _ (.inl rfl) e, mA, ⟨od, es, ep, k _ _ (.inr d) e2, c⟩, r⟩
  | own y => obtain ⟨ob, e⟩ := x; exact ⟨ob, k _ _ (.inl rfl) e⟩
  | xd fs => obtain ⟨mA, ⟨od, es, ep, e, c⟩, r⟩ := x; exact ⟨mA, ⟨od, es, ep, k _ _ (.inl rfl) e, c⟩, r⟩
  | rng lo hi => obtain ⟨t, u, v, e⟩ := x; exact ⟨t, u, v, k _ _ (.inl rfl) e⟩
  | frz ob u ih => obtain ⟨e, q⟩ := x; exact ⟨k _ _ (.inl rfl) e, ih q⟩
  | tbl q =>
    obtain ⟨ps, e, t, c⟩ := x
    exact ⟨ps, k a _ (.inl rfl) e, t, fun pos cv hcv => let ⟨b, oc, u, vs, t, e1, e2, e3⟩ := c pos cv hcv; ⟨b, oc, u, vs, t, e1, ht _ _ trivial e2, e3⟩⟩
  | met f y =>
    have e : h.get? a = some (PySem.W.methodObj (.ref f) (.ref y)) := x
    show h'.get? a = some (PySem.W.methodObj (.ref f) (.ref y))
    exact k a _ (.inl rfl) e
  | ext φ => obtain ⟨p, ⟨o, e⟩, st⟩ := x; exact ⟨st _ _ p fun o q => k _ _ (.inl rfl) q, ⟨o, k _ _ (.inl rfl) e⟩, st⟩
theorem HOk.lt (x : HOk P w H h) (e : H a = some o) : a < h.objs.size := (x a o e).lt
theorem HOk.fresh (x : HOk P w H h) (e : h.objs.size ≤ a) : H a = none := by
  cases q : H a with
  | none => rfl
  | some u => exact absurd (Nat.lt_of_lt_of_le (x.lt q) e) (Nat.lt_irrefl _)
theorem HOk.kept (x : HOk P w H h) (k : ∀ b u, h.get? b = some u → h'.get? b = some u) : HOk P w H h' := fun a o e =>
  (x a o e).stay (fun b u _ q => k b u q) (fun _ q => q) fun _ _ _ q => q
theorem HOk.laid (x : HOk P w H h) (k : ∀ b u, h.get? b = some u → h'.get? b = some u) (hp : h.objs.size ≤ a) (new : ObjOk P w (upd H a o) h' a o) : HOk P w (upd H a o) h' := fun b u e => by
  have hn := x.fresh hp
  by_cases hb : b = a
  · subst hb; rw [upd_same] at e; cases e; exact new
  · rw [upd_ne hb] at e
    exact (x b u e).stay (fun c v _ q => k c v q) (fun c q => by rw [upd_ne (ne_of_none q hn)]; exact q) fun c xs _ q => by rw [upd_ne (ne_of_none q hn)]; exact q
end
def Rd (H : Hp) (a : Addr) (u : HO) : Prop := H a = some u ∨ ∃ o, H a = some (.frz o u)
theorem Rd.ok {P : Program} {w : World} {H : Hp} {h : Heap} {a : Addr} {u : HO} (r : Rd H a u) (x : HOk P w H h) : ObjOk P w H h a u := by
  rcases r with r | ⟨o, r⟩
  · exact x a u r
  · obtain ⟨_, q⟩ := x a _ r
    exact q
def Mut : Option HO → Prop
  | some (.lst _) => True
  | some (.dK _) => True
  | some (.dT _) => True
  | some (.set _ _) => True
  | some (.ins _ _ _) => True
  | some (.ext _) => True
  | _ => False
section
variable {P : Program} {w : World} {H : Hp} {h h' : Heap} {x e : Addr} {o' : HO}
theorem HOk.write (ok : HOk P w H h) (mu : Mut (H x)) (he : e = x ∨ H e = some (.own x)) (k : ∀ b u, b ≠ e → h.get? b = some u → h'.get? b = some u) (heo : ∃ u, h'.get? e = some u)
    (new : ObjOk P w (upd H x o') h' x o') : HOk P w (upd H x o') h' := fun b u q => by
  have nown : ∀ c y, H c = some (.own y) → c ≠ x := fun c y r z => by subst z; rw [r] at mu; exact mu
  have ntup : ∀ c o, Fix o → H c = some o → c ≠ x := fun c o f r z => by subst z; rw [r] at mu; cases o <;> first | exact mu | exact f
  by_cases hb : b = x
  · subst hb; rw [upd_same] at q; cases q; exact new
  · rw [upd_ne hb] at q
    by_cases hbe : b = e
    · have q' : H b = some (.own x) := by
        rcases he with z | z
        · exact absurd (hbe.trans z) hb
        · rw [hbe]; exact z
      rw [q] at q'; cases q'
      obtain ⟨v, hv⟩ := heo
      exact ⟨v, by rw [hbe]; exact hv⟩
    · refine (ok b u q).stay (fun c v hc r => k c v ?_ r) (fun c r => by rw [upd_ne (nown c b r)]; exact r) fun c xs f r => by rw [upd_ne (ntup c xs f r)]; exact r
      rcases hc with rfl | hc
      · exact hbe
      · rintro rfl
        rcases he with z | z
        · exact nown c b hc z
        · rw [hc] at z; cases z; exact hb rfl
end
structure Un (fs ex : List Addr) (H H' : Hp) (h h' : Heap) : Prop where
  keep : ∀ b o, h.get? b = some o → H b = none → b ∉ fs → b ∉ ex → h'.get? b = some o
  slot : ∀ b o, h.get? b = some o → H b = none → b ∈ fs → b ∉ ex → ∃ sl, h'.get? b = some { o with slots := sl }
  free : ∀ b o, h.get? b = some o → H b = none → b ∉ ex → H' b = none
  there : ∀ b o, h.get? b = some o → b ∉ ex → ∃ o', h'.get? b = some o'
  tups : ∀ b xs, H b = some (.tup xs) → H' b = some (.tup xs)
  frzs : ∀ b o u, H b = some (.frz o u) → H' b = some (.frz o u)
  tbls : ∀ b q, H b = some (.tbl q) → H' b = some (.tbl q)
section
variable {fs fs' ex ex' : List Addr} {H H1 H2 : Hp} {h h1 h2 h' : Heap} {a x e : Addr} {o : HO}
theorem Un.any (u : Un fs ex H H1 h h1) {b : Addr} {ob : Obj} (q : h.get? b = some ob) (n : H b = none) (hx : b ∉ ex) : ∃ sl, h1.get? b = some { ob with slots := sl } := by
  by_cases hb : b ∈ fs
  · exact u.slot b ob q n hb hx
  · exact ⟨ob.slots, u.keep b ob q n hb hx⟩
theorem Un.kept (k : ∀ b u, h.get? b = some u → h'.get? b = some u) : Un fs ex H H h h' :=
  ⟨fun b ob q _ _ _ => k b ob q, fun b ob q _ _ _ => ⟨ob.slots, k b ob q⟩, fun _ _ _ n _ => n, fun b ob q _ => ⟨ob, k b ob q⟩, fun _ _ q => q, fun _ _ _ q => q, fun _ _ q => q⟩
theorem Un.refl : Un fs ex H H h h := Un.kept fun _ _ q => q
theorem Un.laid (k : ∀ b u, h.get? b = some u → h'.get? b = some u) (hp : h.objs.size ≤ a) (hn : H a = none) : Un fs ex H (upd H a o) h h' where
  keep := fun b u q _ _ _ => k b u q
  slot := fun b u q _ _ _ => ⟨u.slots, k b u q⟩
  free := fun b u q n _ => by rw [upd_ne (Nat.ne_of_lt (Nat.lt_of_lt_of_le (Heap.lt_size q) hp))]; exact n
  there := fun b u q _ => ⟨u, k b u q⟩
  tups := fun b xs q => by rw [upd_ne (ne_of_none q hn)]; exact q
  frzs := fun b u xs q => by rw [upd_ne (ne_of_none q hn)]; exact q
  tbls := fun b ps q => by rw [upd_ne (ne_of_none q hn)]; exact q
theorem Un.write (mu : Mut (H x)) (he : e = x ∨ H e = some (.own x)) (k : ∀ b u, b ≠ e → h.get? b = some u → h'.get? b = some u) (heo : ∃ u, h'.get? e = some u) : Un fs ex H (upd H x o) h h' := by
  have hx : ∀ b, H b = none → b ≠ x := fun b n z => by subst z; rw [n] at mu; exact mu
  have hb : ∀ b, H b = none → b ≠ e := fun b n z => by
    subst z
    rcases he with r | r
    · exact hx b n r
    · rw [n] at r; cases r
  have hm : ∀ b u, H b = some u → ¬ Mut (some u) → b ≠ x := fun b u q nm z => by subst z; rw [q] at mu; exact nm mu
  refine ⟨fun b u q n _ _ => k b u (hb b n) q, fun b u q n _ _ => ⟨u.slots, k b u (hb b n) q⟩, fun b u q n _ => by rw [upd_ne (hx b n)]; exact n, fun b u q _ => ?_,
    fun b xs q => by rw [upd_ne (hm b _ q fun z => z)]; exact q, fun b u xs q => by rw [upd_ne (hm b _ q fun z => z)]; exact q, fun b ps q => by rw [upd_ne (hm b _ q fun z => z)]; exact q⟩
  by_cases hbe : b = e
  · subst hbe; exact heo
  · exact ⟨u, k b u hbe q⟩
end
def trk (h : Heap) (H : Hp) : List Addr := (List.range h.objs.size).filter fun a => (H a).isSome
def hidT (h : Heap) (H : Hp) : Heap := PySem.W.hideAll h (trk h H)
theorem hidT_size (h : Heap) (H : Hp) : (hidT h H).objs.size = h.objs.size := PySem.W.hideAll_size _ _
theorem hidT_get {h : Heap} {H : Hp} {b : Addr} {o : Obj} (e : h.get? b = some o) (n : H b = none) : (hidT h H).get? b = some o :=
  PySem.W.hideAll_get _ e fun hm => by
    have q : (H b).isSome = true := (List.mem_filter.mp hm).2
    rw [n] at q; simp at q
theorem of_hidT {h : Heap} {H : Hp} {b : Addr} {o : Obj} (e : (hidT h H).get? b = some o) : h.get? b = some o ∧ H b = none := by
  have e' : h.get? b = some o := PySem.W.of_hideAll (trk h H) e
  refine ⟨e', ?_⟩
  cases q : H b with
  | none => rfl
  | some x =>
    have hm : b ∈ trk h H := List.mem_filter.mpr ⟨List.mem_range.mpr (Heap.lt_size e'), by simp [q]⟩
    have z : (hidT h H).get? b = none := PySem.W.hideAll_none (trk h H) hm
    rw [z] at e; cases e
def allNews (g h : Heap) (L : Addr) : List (Addr × Obj) := (List.range h.objs.size).filterMap fun a => if a = L ∨ (g.get? a).isSome = true then none else (h.get? a).map fun o => (a, o)
def rest (g h : Heap) (L d : Addr) : List (Addr × Obj) := (allNews g h L).filter fun p => decide (p.1 ≠ d)
end L2
namespace L2
open PySem PySem.Spec PyProof.Rows
structure Mod (K : PySem.W.Frag) (mg : Str → Option Value) (base : Heap) : Prop where
  kin : K.In base
  glob : base.Ns mainGlobals mg
  blt : ∃ mb, base.Ns builtinsNs mb ∧ ∀ x : Str, x ≠ "__name__" → mb x = bootBuiltins x
  nolimit : base.NoLimit
  bmain : ∃ bm ob, mg "__builtins__" = some (.ref bm) ∧ bm ≠ builtinsNs ∧ base.get? bm = some ob ∧ ob.cls = .type "module" ∧ ob.dict = some builtinsNs ∧ ob.data = .plain
def lamNames : List Str := ["choices"]
def LamTab (K : PySem.W.Frag) (T : Addr) (q : Str) : Prop := ∃ x ∈ lamNames, ∃ f o fd c oc vs, PySem.W.nsIn K mainGlobals x = some (some (.ref f)) ∧ K.lookup f = some o ∧ o.data = .func fd ∧ fd.code = .ref c ∧
  K.lookup c = some oc ∧ oc.data = .fields vs ∧ vs[11]? = some (.ref T) ∧ q = x ++ ".<locals>.<lambda>"
def TabsIn (K : PySem.W.Frag) (H : Hp) : Prop := ∀ T q, LamTab K T q → H T = some (.tbl q)
structure Cx where
  prog : Program
  w : World
  K : PySem.W.Frag
  mg : Str → Option Value
  base : Heap
  A : Around
  N : List Str
  s₀ : Shared
  H₀ : Hp
  env : Env
  outer : List Env
  stack : List Env
  ex : List Addr
  fn : Str → Bool
  calm : Bool
  pn : List (Addr × Obj)
  xe : Value → Shared → Prop
def frs (l : List Env) : List Addr := l.filterMap (·.frame)
abbrev Cx.fs (X : Cx) : List Addr := frs X.outer
def Vis (sc : Scope) (x : Str) : Prop := sc.names.lookup x = some .local ∨ sc.names.lookup x = some .cell ∨ sc.names.lookup x = some .free
def Loc (sc : Scope) (x : Str) : Prop := sc.names.lookup x = some .local ∨ sc.names.lookup x = some .cell
def Look (env : Env) (h : Heap) (m : Str → Option Value) (x : Str) (u : Value) : Prop :=
  (env.kindOf x = some .local ∧ m x = some u) ∨ ((env.kindOf x = some .cell ∨ env.kindOf x = some .free) ∧ ∃ c, env.cells.lookup x = some c ∧ h.IsCell c (some u))
structure Cx.Ok (X : Cx) : Prop where
  mod : Mod X.K X.mg X.base
  kind : X.env.scope.kind = .function
  glob : X.env.globals = mainGlobals
  blt : X.env.builtins = builtinsNs
  above : X.s₀.heap.objs.size ≤ X.env.locals
  inj : ∀ x y c, X.env.cells.lookup x = some c → X.env.cells.lookup y = some c → x = y
  has : ∀ x, (X.env.kindOf x = some .cell ∨ X.env.kindOf x = some .free) → ∃ c, X.env.cells.lookup x = some c
  cab : ∀ x c, X.fn x = true → X.env.cells.lookup x = some c → X.s₀.heap.objs.size ≤ c
  hd : X.calm = true → X.A.handled = none
  frames : X.A.frames = some X.stack
  stk : X.stack = X.outer ∨ (X.stack = X.env :: X.outer ∧ X.env.frame = some X.env.locals)
  exf : ∀ b ∈ X.ex, b ≠ X.env.locals ∧ ∀ x c, X.env.cells.lookup x = some c → c ≠ b
  bs : ∀ b o, X.base.get? b = some o → X.s₀.heap.get? b = some o ∧ X.H₀ b = none
  bsz : X.base.objs.size ≤ X.s₀.heap.objs.size
  noex : ∀ b o, X.base.get? b = some o → b ∉ X.ex
  exfs : ∀ b ∈ X.ex, b ∉ X.fs
  funs : X.s₀.heap.FunFrames X.base X.outer
  frf : ∀ b ∈ X.fs, X.H₀ b = none
  tab : TabsIn X.K X.H₀
structure Inv (X : Cx) (pins : List (Addr × Obj)) (σ : List (Option V)) (H : Hp) (s : Shared) : Prop where
  ok : X.Ok
  os : s.os = X.s₀.os
  bare : AllBare s.gens
  base : Un X.fs X.ex X.H₀ H X.s₀.heap s.heap
  loc : ∃ m, s.heap.Ns X.env.locals m ∧ ∀ (i : Nat) (x : Str) (v : V), X.N[i]? = some x → σ[i]? = some (some v) → Vis X.env.scope x → ∃ u, RelV v u ∧ Look X.env s.heap m x u
  cell : ∀ x c, X.env.cells.lookup x = some c → ∃ v, s.heap.IsCell c v
  free : H X.env.locals = none
  freeC : ∀ x c, X.env.cells.lookup x = some c → H c = none
  pin : ∀ p ∈ X.pn ++ pins, s.heap.get? p.1 = some p.2 ∧ H p.1 = none ∧ p.1 ≠ X.env.locals ∧ p.1 ∉ X.fs ∧ ∀ v, p.2.data ≠ .cell v
  hok : HOk X.prog X.w H s.heap
  len : σ.length = X.N.length
section
variable {X : Cx} {pins : List (Addr × Obj)} {σ : List (Option V)} {H H' : Hp} {s : Shared} {h' : Heap}
theorem Cx.Ok.nofr (ok : X.Ok) {b : Addr} {o : Obj} (e : X.base.get? b = some o) : b ∉ X.fs := fun hb => by
  have := (ok.funs.mem hb).1
  rw [e] at this; cases this
theorem Inv.bs (I : Inv X pins σ H s) : ∀ b o, X.base.get? b = some o → s.heap.get? b = some o ∧ H b = none := fun b o e =>
  ⟨I.base.keep b o (I.ok.bs b o e).1 (I.ok.bs b o e).2 (I.ok.nofr e) (I.ok.noex b o e), I.base.free b o (I.ok.bs b o e).1 (I.ok.bs b o e).2 (I.ok.noex b o e)⟩
theorem Inv.bk (I : Inv X pins σ H s) : ∀ b o, X.base.get? b = some o → s.heap.get? b = some o := fun b o e => (I.bs b o e).1
theorem Inv.mod (I : Inv X pins σ H s) : Mod X.K X.mg X.base := I.ok.mod
theorem Inv.kIn (I : Inv X pins σ H s) : X.K.In s.heap := I.ok.mod.kin.keeps I.bk
theorem Inv.lt (I : Inv X pins σ H s) : X.env.locals < s.heap.objs.size := let ⟨_, hn, _⟩ := I.loc; hn.lt
theorem Inv.sz (I : Inv X pins σ H s) : X.s₀.heap.objs.size ≤ s.heap.objs.size := Nat.le_trans I.ok.above (Nat.le_of_lt I.lt)
theorem Inv.nofs (I : Inv X pins σ H s) {a : Addr} (h : s.heap.objs.size ≤ a) : a ∉ X.fs := fun hb => by
  obtain ⟨_, o, ho, _⟩ := I.ok.funs.mem hb
  exact absurd (Nat.lt_of_lt_of_le (Heap.lt_size ho) (Nat.le_trans I.sz h)) (Nat.lt_irrefl _)
theorem Inv.cne (I : Inv X pins σ H s) : ∀ x c, X.env.cells.lookup x = some c → c ≠ X.env.locals := fun x c e z => by
  obtain ⟨v, o, ho, hd⟩ := I.cell x c e
  obtain ⟨m, ⟨o', es, ep, ho', hd', _⟩, _⟩ := I.loc
  rw [z, ho'] at ho; cases ho; rw [hd'] at hd; cases hd
theorem Inv.funs (I : Inv X pins σ H s) : s.heap.FunFrames X.base X.outer := by
  have all : ∀ (l : List Env), (∀ b ∈ frs l, b ∈ X.fs) → X.s₀.heap.FunFrames X.base l → s.heap.FunFrames X.base l := by
    intro l
    induction l with
    | nil => intro _ _; trivial
    | cons env r ih =>
      intro hs hl
      obtain ⟨hk, ⟨L, o, hf, hn, ho, hd⟩, hr⟩ := hl
      have hL : L ∈ X.fs := hs L (by unfold frs; rw [List.filterMap_cons, hf]; exact List.mem_cons_self)
      obtain ⟨sl, e⟩ := I.base.slot L o ho (I.ok.frf L hL) hL fun z => I.ok.exfs L z hL
      exact ⟨hk, ⟨L, _, hf, hn, e, hd⟩, ih (fun b hb => hs b (by unfold frs; rw [List.filterMap_cons, hf]; exact List.mem_cons_of_mem _ hb)) hr⟩
  exact all X.outer (fun _ hb => hb) I.ok.funs
theorem Inv.stack (I : Inv X pins σ H s) : s.heap.FunFrames X.base X.stack := by
  rcases I.ok.stk with e | ⟨e, hf⟩
  · rw [e]; exact I.funs
  · rw [e]
    obtain ⟨m, hn, _⟩ := I.loc
    refine .cons (by rw [I.ok.kind]; decide) hf hn ?_ I.funs
    exact Heap.get?_none_of_le (Nat.le_trans I.ok.bsz I.ok.above)
theorem Inv.stkSub (I : Inv X pins σ H s) : ∀ b ∈ frs X.stack, b ∈ X.env.locals :: X.fs := fun b hb => by
  rcases I.ok.stk with e | ⟨e, hf⟩
  · rw [e] at hb; exact List.mem_cons_of_mem _ hb
  · rw [e] at hb
    unfold frs at hb
    rw [List.filterMap_cons, hf] at hb
    exact hb
theorem Inv.stkFree (I : Inv X pins σ H s) : ∀ b ∈ frs X.stack, H b = none := fun b hb => by
  rcases List.mem_cons.mp (I.stkSub b hb) with e | hb
  · rw [e]; exact I.free
  · obtain ⟨_, o, ho, _⟩ := I.ok.funs.mem hb
    exact I.base.free b o ho (I.ok.frf b hb) fun z => I.ok.exfs b z hb
theorem Inv.step {g' : Array GenState} {t' : Nat} {d' : Drawn} {ch : List Addr} (I : Inv X pins σ H s)
    (hch : ∀ b ∈ ch, (b ∈ X.ex ∨ X.s₀.heap.objs.size ≤ b) ∧ b ≠ X.env.locals ∧ (∀ x c, X.env.cells.lookup x = some c → c ≠ b) ∧ ∀ p ∈ X.pn ++ pins, p.1 ≠ b)
    (keep : ∀ b o, b ≠ X.env.locals → b ∉ X.fs → b ∉ ch → s.heap.get? b = some o → H b = none → h'.get? b = some o)
    (slot : ∀ b o, b ≠ X.env.locals → b ∈ X.fs → b ∉ ch → s.heap.get? b = some o → H b = none → ∃ sl, h'.get? b = some { o with slots := sl }) (free : ∀ b o, b ∉ ch → s.heap.get? b = some o → H b = none → H' b = none)
    (there : ∀ b o, b ∉ ch → s.heap.get? b = some o → ∃ o', h'.get? b = some o')
    (tups : ∀ b xs, H b = some (.tup xs) → H' b = some (.tup xs)) (frzs : ∀ b o u, H b = some (.frz o u) → H' b = some (.frz o u)) (tbls : ∀ b ps, H b = some (.tbl ps) → H' b = some (.tbl ps))
    (ns : ∀ m, s.heap.Ns X.env.locals m → h'.Ns X.env.locals m) (hok : HOk X.prog X.w H' h') (hg : AllBare g') :
    Inv X pins σ H' { s with heap := h', gens := g', drawn := d', toks := t' } := by
  have neL : ∀ b o, X.s₀.heap.get? b = some o → b ≠ X.env.locals := fun b o e => Nat.ne_of_lt (Nat.lt_of_lt_of_le (Heap.lt_size e) I.ok.above)
  have neC : ∀ b o, X.s₀.heap.get? b = some o → b ∉ X.ex → b ∉ ch := fun b o e hx hb => by
    rcases (hch b hb).1 with z | z
    · exact hx z
    · exact absurd (Nat.lt_of_lt_of_le (Heap.lt_size e) z) (Nat.lt_irrefl _)
  have cellK : ∀ x c, X.env.cells.lookup x = some c → ∀ v, s.heap.IsCell c v → h'.IsCell c v := fun x c e v ⟨o, ho, hd⟩ => by
    have nch : c ∉ ch := fun z => (hch c z).2.2.1 x c e rfl
    by_cases hc : c ∈ X.fs
    · obtain ⟨sl, q⟩ := slot c o (I.cne x c e) hc nch ho (I.freeC x c e)
      exact ⟨_, q, hd⟩
    · exact ⟨o, keep c o (I.cne x c e) hc nch ho (I.freeC x c e), hd⟩
  refine ⟨I.ok, I.os, hg, ⟨fun b o e n hb hx => ?_, fun b o e n hb hx => ?_, fun b o e n hx => ?_, fun b o e hx => ?_, fun b xs e => tups b xs (I.base.tups b xs e), fun b o xs e => frzs b o xs (I.base.frzs b o xs e), fun b ps e => ?_⟩, ?_, fun x c e => ?_, ?_, fun x c e => ?_, fun p hp => ?_, hok, I.len⟩
  · exact keep b o (neL b o e) hb (neC b o e hx) (I.base.keep b o e n hb hx) (I.base.free b o e n hx)
  · obtain ⟨sl, e1⟩ := I.base.slot b o e n hb hx
    obtain ⟨sl', e2⟩ := slot b _ (neL b o e) hb (neC b o e hx) e1 (I.base.free b o e n hx)
    exact ⟨sl', e2⟩
  · obtain ⟨o', e1⟩ := I.base.there b o e hx
    exact free b o' (neC b o e hx) e1 (I.base.free b o e n hx)
  · obtain ⟨o', e1⟩ := I.base.there b o e hx
    exact there b o' (neC b o e hx) e1
  · exact tbls b ps (I.base.tbls b ps e)
  · obtain ⟨m, hn, hl⟩ := I.loc
    refine ⟨m, ns m hn, fun i x v e1 e2 e3 => ?_⟩
    obtain ⟨u, r, l⟩ := hl i x v e1 e2 e3
    refine ⟨u, r, ?_⟩
    rcases l with l | ⟨k, c, e, z⟩
    · exact .inl l
    · exact .inr ⟨k, c, e, cellK x c e _ z⟩
  · obtain ⟨v, z⟩ := I.cell x c e
    exact ⟨v, cellK x c e v z⟩
  · obtain ⟨m, ⟨o, _, _, ho, _⟩, _⟩ := I.loc
    exact free _ o (fun z => (hch _ z).2.1 rfl) ho I.free
  · obtain ⟨v, o, ho, hd⟩ := I.cell x c e
    exact free c o (fun z => (hch c z).2.2.1 x c e rfl) ho (I.freeC x c e)
  · obtain ⟨e, n, ne, nf, d⟩ := I.pin p hp
    have nch : p.1 ∉ ch := fun z => (hch p.1 z).2.2.2 p hp rfl
    exact ⟨keep p.1 p.2 ne nf nch e n, free p.1 p.2 nch e n, ne, nf, d⟩
theorem Inv.un {t' : Nat} (I : Inv X pins σ H s) (u : Un X.fs [] H H' s.heap h') (hok : HOk X.prog X.w H' h') : Inv X pins σ H' { s with heap := h', toks := t' } := by
  obtain ⟨m, ⟨o, es, ep, ho, r⟩, _⟩ := id I.loc
  obtain ⟨sl, hL⟩ := u.any ho I.free (by simp)
  exact I.step (g' := s.gens) (d' := s.drawn) (ch := []) (fun _ z => nomatch z) (fun b o _ hb _ e n => u.keep b o e n hb (by simp)) (fun b o _ hb _ e n => u.slot b o e n hb (by simp)) (fun b o _ e n => u.free b o e n (by simp)) (fun b o _ e => u.there b o e (by simp)) u.tups u.frzs u.tbls (fun m' hm => by
    obtain ⟨o', es', ep', ho', r'⟩ := hm
    rw [ho] at ho'; cases ho'
    exact ⟨_, es', ep', hL, r'⟩) hok I.bare
theorem Inv.call {g' : Array GenState} {t' : Nat} {d' : Drawn} {ch : List Addr} (I : Inv X pins σ H s) (u : Un (frs X.stack) ch H H' s.heap h') (hok : HOk X.prog X.w H' h') (hg : AllBare g')
    (hch : ∀ b ∈ ch, (b ∈ X.ex ∨ X.s₀.heap.objs.size ≤ b) ∧ b ≠ X.env.locals ∧ (∀ x c, X.env.cells.lookup x = some c → c ≠ b) ∧ ∀ p ∈ X.pn ++ pins, p.1 ≠ b) :
    Inv X pins σ H' { s with heap := h', gens := g', drawn := d', toks := t' } := by
  obtain ⟨m, ⟨o, es, ep, ho, r⟩, _⟩ := id I.loc
  obtain ⟨sl, hL⟩ := u.any ho I.free fun z => (hch _ z).2.1 rfl
  exact I.step (ch := ch) hch (fun b o hL hb hc e n => u.keep b o e n (fun z => (List.mem_cons.mp (I.stkSub b z)).elim hL hb) hc) (fun b o _ _ hc e n => u.any e n hc) (fun b o hc e n => u.free b o e n hc) (fun b o hc e => u.there b o e hc) u.tups u.frzs u.tbls (fun m' hm => by
    obtain ⟨o', es', ep', ho', r'⟩ := hm
    rw [ho] at ho'; cases ho'
    exact ⟨_, es', ep', hL, r'⟩) hok hg
theorem Inv.turned {t' : Nat} {it : Addr} (I : Inv X pins σ H s) (k : ∀ b o, b ≠ it → s.heap.get? b = some o → h'.get? b = some o) (hn : H it = none) (hL : it ≠ X.env.locals)
    (h1 : it ∈ X.ex ∨ X.s₀.heap.objs.size ≤ it) (h2 : ∀ x c, X.env.cells.lookup x = some c → c ≠ it) (h3 : ∀ p ∈ X.pn ++ pins, p.1 ≠ it) : Inv X pins σ H { s with heap := h', toks := t' } := by
  have nit : ∀ b u, H b = some u → b ≠ it := fun b u e z => by rw [z, hn] at e; cases e
  refine I.step (g' := s.gens) (d' := s.drawn) (ch := [it]) (fun b hb => ?_) (fun b o _ _ hc e _ => k b o (fun z => hc (by simp [z])) e) (fun b o _ _ hc e _ => ⟨o.slots, k b o (fun z => hc (by simp [z])) e⟩) (fun _ _ _ _ n => n)
    (fun b o hc e => ⟨o, k b o (fun z => hc (by simp [z])) e⟩) (fun _ _ e => e) (fun _ _ _ e => e) (fun _ _ e => e) (fun m hm => ?_) (fun b u e => ?_) I.bare
  · have e : b = it := by simpa using hb
    subst e
    exact ⟨h1, hL, h2, h3⟩
  · obtain ⟨o, es, ep, ho, r⟩ := hm
    exact ⟨o, es, ep, k _ o (Ne.symm hL) ho, r⟩
  · refine (I.hok b u e).stay (fun c v hc q => k c v ?_ q) (fun _ q => q) fun _ _ _ q => q
    rcases hc with z | z
    · rw [z]; exact nit b u e
    · exact nit c _ z
theorem Inv.tok (I : Inv X pins σ H s) (t : Nat) : Inv X pins σ H { s with toks := t } := I.un (h' := s.heap) (t' := t) Un.refl I.hok
theorem Inv.kept {t' : Nat} (I : Inv X pins σ H s) (k : ∀ b u, s.heap.get? b = some u → h'.get? b = some u) : Inv X pins σ H { s with heap := h', toks := t' } := I.un (Un.kept k) (I.hok.kept k)
theorem Inv.laid {a : Addr} {o : HO} {t' : Nat} (I : Inv X pins σ H s) (k : ∀ b u, s.heap.get? b = some u → h'.get? b = some u) (hp : s.heap.objs.size ≤ a) (new : ObjOk X.prog X.w (upd H a o) h' a o) :
    Inv X pins σ (upd H a o) { s with heap := h', toks := t' } := I.un (Un.laid k hp (I.hok.fresh hp)) (I.hok.laid k hp new)
theorem Inv.write {x e : Addr} {o : HO} {t' : Nat} (I : Inv X pins σ H s) (mu : Mut (H x)) (he : e = x ∨ H e = some (.own x)) (k : ∀ b u, b ≠ e → s.heap.get? b = some u → h'.get? b = some u) (heo : ∃ u, h'.get? e = some u)
    (new : ObjOk X.prog X.w (upd H x o) h' x o) : Inv X pins σ (upd H x o) { s with heap := h', toks := t' } := I.un (Un.write mu he k heo) (I.hok.write mu he k heo new)
theorem Inv.pins_of {pins' : List (Addr × Obj)} (I : Inv X pins σ H s) (h : ∀ p ∈ pins', s.heap.get? p.1 = some p.2 ∧ H p.1 = none ∧ p.1 ≠ X.env.locals ∧ p.1 ∉ X.fs ∧ ∀ v, p.2.data ≠ .cell v) : Inv X pins' σ H s :=
  ⟨I.ok, I.os, I.bare, I.base, I.loc, I.cell, I.free, I.freeC, fun p hp => (List.mem_append.mp hp).elim (fun z => I.pin p (List.mem_append_left _ z)) (h p), I.hok, I.len⟩
theorem nodup_ix {N : List Str} (hN : N.Nodup) {i j : Nat} {x : Str} (a : N[i]? = some x) (b : N[j]? = some x) : i = j := by
  obtain ⟨h1, e1⟩ := List.getElem?_eq_some_iff.mp a
  obtain ⟨h2, e2⟩ := List.getElem?_eq_some_iff.mp b
  exact (List.getElem_inj hN).mp (e1.trans e2.symm)
theorem store_ok2 {M : Model} {A : Around} {E : Value → Shared → Prop} {i : Nat} {x : Str} {v : V} {u : Value} {Q : Unit → Shared → Prop} (I : Inv X pins σ H s) (hN : X.N.Nodup) (hi : X.N[i]? = some x) (hx : Loc X.env.scope x) (r : RelV v u)
    (h : ∀ s', Inv X pins (σ.set i (some v)) H s' → (∃ a, Heap.SameBut a s.heap s'.heap ∧ (a = X.env.locals ∨ X.env.cells.lookup x = some a)) → Q () s') (hf : X.fn x = true ∨ X.env.scope.names.lookup x = some .local := by first | exact .inl rfl | exact .inr rfl | assumption) : wpAny M A (storeName X.env x u) Q E s := by
  obtain ⟨m, hn, hl⟩ := id I.loc
  have hcls : (X.env.scope.kind == .class || (X.env.scope.kind == .module && X.env.locals != X.env.globals)) = false := by rw [I.ok.kind]; rfl
  have hiσ : i < σ.length := by rw [I.len]; exact (List.getElem?_eq_some_iff.mp hi).1
  have cne := I.cne
  have tracked : ∀ {a : Addr} {h' : Heap}, (∃ o, s.heap.get? a = some o ∧ H a = none) → Heap.SameBut a s.heap h' → HOk X.prog X.w H h' := fun {a h'} ha hs b ob e => by
    obtain ⟨_, _, hfree⟩ := ha
    refine (I.hok b ob e).stay (fun c w' hc q => (hs.2 c ?_).trans q) (fun _ q => q) fun _ _ _ q => q
    rintro rfl
    rcases hc with rfl | hc
    · rw [hfree] at e; cases e
    · rw [hfree] at hc; cases hc
  rcases hx with hk | hk
  · refine wpAny_storeName_local hk hn (fun h' hn' hs => ?_) hcls
    obtain ⟨oL, _, _, hoL, _⟩ := id hn
    refine h _ ⟨I.ok, I.os, I.bare, ⟨fun b o e n hb hx => ?_, fun b o e n hb hx => ?_, I.base.free, fun b o e hx => ?_, I.base.tups, I.base.frzs, I.base.tbls⟩, ⟨_, hn', fun j y v' e1 e2 e3 => ?_⟩, fun y c e => ?_, I.free, I.freeC, fun p hp => ?_, tracked ⟨oL, hoL, I.free⟩ hs, by simpa using I.len⟩ ⟨_, hs, .inl rfl⟩
    · exact (hs.2 b (Nat.ne_of_lt (Nat.lt_of_lt_of_le (Heap.lt_size e) I.ok.above))).trans (I.base.keep b o e n hb hx)
    · obtain ⟨sl, e1⟩ := I.base.slot b o e n hb hx
      exact ⟨sl, (hs.2 b (Nat.ne_of_lt (Nat.lt_of_lt_of_le (Heap.lt_size e) I.ok.above))).trans e1⟩
    · obtain ⟨o', e1⟩ := I.base.there b o e hx
      exact ⟨o', (hs.2 b (Nat.ne_of_lt (Nat.lt_of_lt_of_le (Heap.lt_size e) I.ok.above))).trans e1⟩
    · by_cases hj : j = i
      · subst hj
        rw [hi] at e1; cases e1
        rw [List.getElem?_set_self hiσ] at e2
        cases e2
        exact ⟨u, r, .inl ⟨hk, by simp⟩⟩
      · rw [List.getElem?_set_ne (Ne.symm hj)] at e2
        obtain ⟨u', r', q⟩ := hl j y v' e1 e2 e3
        refine ⟨u', r', ?_⟩
        rcases q with ⟨k, e⟩ | ⟨k, c, e, z⟩
        · refine .inl ⟨k, ?_⟩
          have : y ≠ x := fun e => hj (nodup_ix hN e1 (e ▸ hi))
          simp [this, e]
        · exact .inr ⟨k, c, e, z.sameBut hs (cne y c e)⟩
    · obtain ⟨w', z⟩ := I.cell y c e
      exact ⟨w', z.sameBut hs (cne y c e)⟩
    · obtain ⟨e, n, ne, nf, d⟩ := I.pin p hp
      exact ⟨(hs.2 p.1 ne).trans e, n, ne, nf, d⟩
  · have hfn : X.fn x = true := by
      rcases hf with z | z
      · exact z
      · rw [z] at hk; cases hk
    obtain ⟨c, hc⟩ := I.ok.has x (.inl hk)
    obtain ⟨w', z⟩ := I.cell x c hc
    refine wpAny_storeName_cell I.ok.kind hk hc z (fun h' hc' hs => ?_)
    obtain ⟨oc, hoc, hocd⟩ := id z
    refine h { s with heap := h' } ⟨I.ok, I.os, I.bare, ⟨fun b o e n hb hx => ?_, fun b o e n hb hx => ?_, I.base.free, fun b o e hx => ?_, I.base.tups, I.base.frzs, I.base.tbls⟩, ⟨m, hn.sameBut hs (Ne.symm (cne x c hc)), fun j y v' e1 e2 e3 => ?_⟩, fun y c' e => ?_, I.free, I.freeC, fun p hp => ?_, tracked ⟨oc, hoc, I.freeC x c hc⟩ hs, by simpa using I.len⟩ ⟨c, hs, .inr hc⟩
    · exact (hs.2 b (Nat.ne_of_lt (Nat.lt_of_lt_of_le (Heap.lt_size e) (I.ok.cab x c hfn hc)))).trans (I.base.keep b o e n hb hx)
    · obtain ⟨sl, e1⟩ := I.base.slot b o e n hb hx
      exact ⟨sl, (hs.2 b (Nat.ne_of_lt (Nat.lt_of_lt_of_le (Heap.lt_size e) (I.ok.cab x c hfn hc)))).trans e1⟩
    · obtain ⟨o', e1⟩ := I.base.there b o e hx
      exact ⟨o', (hs.2 b (Nat.ne_of_lt (Nat.lt_of_lt_of_le (Heap.lt_size e) (I.ok.cab x c hfn hc)))).trans e1⟩
    · by_cases hj : j = i
      · subst hj
        rw [hi] at e1; cases e1
        rw [List.getElem?_set_self hiσ] at e2
        cases e2
        exact ⟨u, r, .inr ⟨.inl hk, c, hc, hc'⟩⟩
      · rw [List.getElem?_set_ne (Ne.symm hj)] at e2
        obtain ⟨u', r', q⟩ := hl j y v' e1 e2 e3
        refine ⟨u', r', ?_⟩
        rcases q with q | ⟨k, c', e, z'⟩
        · exact .inl q
        · refine .inr ⟨k, c', e, z'.sameBut hs ?_⟩
          rintro rfl
          exact hj (nodup_ix hN e1 (I.ok.inj _ _ _ e hc ▸ hi))
    · by_cases hcc : c' = c
      · subst hcc; exact ⟨_, hc'⟩
      · obtain ⟨w2, z2⟩ := I.cell y c' e
        exact ⟨w2, z2.sameBut hs hcc⟩
    · obtain ⟨e, n, ne, nf, d⟩ := I.pin p hp
      refine ⟨(hs.2 p.1 ?_).trans e, n, ne, nf, d⟩
      intro q
      rw [q, hoc] at e
      have q' : oc = p.2 := Option.some.inj e
      exact d w' (by rw [← q']; exact hocd)
theorem store_ok {M : Model} {A : Around} {E : Value → Shared → Prop} {i : Nat} {x : Str} {v : V} {u : Value} {Q : Unit → Shared → Prop} (I : Inv X pins σ H s) (hN : X.N.Nodup) (hi : X.N[i]? = some x) (hx : Loc X.env.scope x) (r : RelV v u)
    (h : ∀ s', Inv X pins (σ.set i (some v)) H s' → Q () s') (hf : X.fn x = true ∨ X.env.scope.names.lookup x = some .local := by first | exact .inl rfl | exact .inr rfl | assumption) : wpAny M A (storeName X.env x u) Q E s :=
  store_ok2 I hN hi hx r (fun s' I' _ => h s' I') hf
theorem Inv.call' {s' : Shared} {ch : List Addr} (I : Inv X pins σ H s) (ho : s'.os = s.os) (u : Un (frs X.stack) ch H H' s.heap s'.heap) (hok : HOk X.prog X.w H' s'.heap) (hg : AllBare s'.gens)
    (hch : ∀ b ∈ ch, (b ∈ X.ex ∨ X.s₀.heap.objs.size ≤ b) ∧ b ≠ X.env.locals ∧ (∀ x c, X.env.cells.lookup x = some c → c ≠ b) ∧ ∀ p ∈ X.pn ++ pins, p.1 ≠ b) : Inv X pins σ H' s' := by
  obtain ⟨h', g', d', t', o'⟩ := s'
  have e : o' = s.os := ho
  subst e
  exact I.call (g' := g') (t' := t') (d' := d') u hok hg hch
end
abbrev XK := Value → Option Addr → Hp → Prop
abbrev St := List (Option V)
abbrev VK := V → Hp → Prop
abbrev TE := St → Hp → VK → Prop
abbrev TT := St → Hp → (Bool → Hp → Prop) → Prop
abbrev TA := St → Hp → (List V → Hp → Prop) → Prop
structure Ends where
  nx : St → Hp → Prop
  rt : VK
  bk : St → Hp → Prop := fun _ _ => False
  ct : St → Hp → Prop := fun _ _ => False
abbrev TS := Ends → St → Hp → Prop
def EP (X : Cx) (pins : List (Addr × Obj)) (σ : St) (Q : VK) (u : Value) (s' : Shared) : Prop := ∃ v H', Inv X pins σ H' s' ∧ RelV v u ∧ Q v H'
def TP (X : Cx) (pins : List (Addr × Obj)) (σ : St) (Q : Bool → Hp → Prop) (b : Bool) (s' : Shared) : Prop := ∃ H', Inv X pins σ H' s' ∧ Q b H'
def AP (X : Cx) (pins : List (Addr × Obj)) (σ : St) (Q : List V → Hp → Prop) (us : List Value) (s' : Shared) : Prop := ∃ vs H', Inv X pins σ H' s' ∧ Vals vs us ∧ Q vs H'
def SP (X : Cx) (pins : List (Addr × Obj)) (D : Ends) (f : Flow) (s' : Shared) : Prop :=
  match f with
  | .next => ∃ σ' H', Inv X pins σ' H' s' ∧ D.nx σ' H'
  | .brk => ∃ σ' H', Inv X pins σ' H' s' ∧ D.bk σ' H'
  | .cont => ∃ σ' H', Inv X pins σ' H' s' ∧ D.ct σ' H'
  | .ret u => ∃ v σ' H', Inv X pins σ' H' s' ∧ RelV v u ∧ D.rt v H'
def PE (X : Cx) (e : Expr) (t : TE) : Prop :=
  ∀ (pins : List (Addr × Obj)) (s : Shared) (σ : St) (H : Hp) (Q : VK), Inv X pins σ H s → t σ H Q → wpAny (model X.prog X.w) X.A (eval e X.env) (EP X pins σ Q) X.xe s
def PT (X : Cx) (e : Expr) (t : TT) : Prop :=
  ∀ (pins : List (Addr × Obj)) (s : Shared) (σ : St) (H : Hp) (Q : Bool → Hp → Prop), Inv X pins σ H s → t σ H Q → wpAny (model X.prog X.w) X.A (isTrue e X.env (eval e X.env)) (TP X pins σ Q) X.xe s
def PW (X : Cx) (e : Expr) (t : TT) : Prop :=
  ∀ (whole : Sem Value) (pins : List (Addr × Obj)) (s : Shared) (σ : St) (H : Hp) (Q : Bool → Hp → Prop), Inv X pins σ H s → t σ H Q → wpAny (model X.prog X.w) X.A (isTrue e X.env whole) (TP X pins σ Q) X.xe s
theorem PW.pt {X : Cx} {e : Expr} {t : TT} (h : PW X e t) : PT X e t := h _
def PA (X : Cx) (es : List Expr) (t : TA) : Prop :=
  ∀ (pos : Pos) (pins : List (Addr × Obj)) (s : Shared) (σ : St) (H : Hp) (Q : List V → Hp → Prop), Inv X pins σ H s → t σ H Q → wpAny (model X.prog X.w) X.A (spliced (backTo pos (starEach es X.env))) (AP X pins σ Q) X.xe s
def PS (X : Cx) (st : Stmt) (t : TS) : Prop :=
  ∀ (pins : List (Addr × Obj)) (s : Shared) (σ : St) (H : Hp) (D : Ends), Inv X pins σ H s → t D σ H → wpAny (model X.prog X.w) X.A (exec st X.env) (SP X pins D) X.xe s
def PSs (X : Cx) (st : List Stmt) (t : TS) : Prop :=
  ∀ (pins : List (Addr × Obj)) (s : Shared) (σ : St) (H : Hp) (D : Ends), Inv X pins σ H s → t D σ H → wpAny (model X.prog X.w) X.A (execs st X.env) (SP X pins D) X.xe s
theorem thn {α : Type} {t : Sem α} {Q Q' : α → Shared → Prop} {M : Model} {A : Around} {E : Value → Shared → Prop} {s : Shared} (h : wpAny M A t Q E s) (hQ : ∀ a s, Q a s → Q' a s) : wpAny M A t Q' E s := wpAny_mono h hQ fun _ _ x => x
end L2
namespace L2
open PySem PySem.Spec PyProof.Rows
section
variable {X : Cx}
def tVar (i : Nat) : TE := fun σ H Q => ∃ v, σ[i]? = some (some v) ∧ Q v H
def tC (v : V) : TE := fun _ H Q => Q v H
theorem pe_var {i : Nat} {x : Str} {pos : Pos} (hN : X.N[i]? = some x) (hv : Vis X.env.scope x) (hd : (x == ("__debug__" : Str)) = false := by decide) (hcd : (x == ("__classdict__" : Str)) = false := by decide) : PE X (.Name x pos) (tVar i) := by
  intro pins s σ H Q I h
  obtain ⟨v, e, h⟩ := h
  obtain ⟨m, hn, hl⟩ := I.loc
  obtain ⟨u, r, l⟩ := hl i x v hN e hv
  have fin : EP X pins σ Q u s := ⟨v, H, I, r, h⟩
  rcases l with ⟨hk, hm⟩ | ⟨hk, c, hc, hcell⟩
  · exact wpAny_Name (wpAny_loadName_local I.ok.kind hk hn hm fin) hd
  · rcases hk with hk | hk
    · exact wpAny_Name (wpAny_loadName_cell I.ok.kind hk hc hcell fin) hd
    · exact wpAny_Name (wpAny_loadName_free I.ok.kind hk hc hcell fin hcd) hd
theorem pe_int {i j pos} : PE X (.Constant (.int i) j pos) (tC (.int i)) := fun _ _ _ H _ I h => wpAny_Constant_int ⟨.int i, H, I.tok _, ⟨_, rfl⟩, h⟩
theorem pe_bl {b j pos} : PE X (.Constant (.bool b) j pos) (tC (.bl b)) := fun _ _ _ H _ I h => Constant_bool ⟨.bl b, H, I, rfl, h⟩
theorem pe_non {j pos} : PE X (.Constant .none j pos) (tC .non) := fun _ _ _ H _ I h => Constant_none ⟨.non, H, I, rfl, h⟩
def Gl (X : Cx) (x : Str) : Prop := X.env.kindOf x = some .globalImplicit
theorem ld_glob {E : Value → Shared → Prop} {pins : List (Addr × Obj)} {s : Shared} {σ : St} {H : Hp} {x : Str} {u : Value} {pos : Pos} {Q : Value → Shared → Prop} (I : Inv X pins σ H s) (hg : Gl X x) (hm : X.mg x = some u) (h : Q u s)
    (hd : (x == ("__debug__" : Str)) = false := by decide) : wpAny (model X.prog X.w) X.A (eval (.Name x pos) X.env) Q E s :=
  Calls.Name_function_global I.ok.kind hg (Calls.loadGlobal_global (by rw [I.ok.glob]; exact I.mod.glob.keeps I.bk) hm h) hd
theorem ld_blt {E : Value → Shared → Prop} {pins : List (Addr × Obj)} {s : Shared} {σ : St} {H : Hp} {x : Str} {u : Value} {pos : Pos} {Q : Value → Shared → Prop} (I : Inv X pins σ H s) (hg : Gl X x) (hm : X.mg x = none) (hv : bootBuiltins x = some u) (h : Q u s)
    (hn : x ≠ "__name__" := by decide) (hd : (x == ("__debug__" : Str)) = false := by decide) : wpAny (model X.prog X.w) X.A (eval (.Name x pos) X.env) Q E s := by
  obtain ⟨mb, h1, h2⟩ := I.mod.blt
  exact Calls.Name_function_global I.ok.kind hg (Calls.loadGlobal_builtin (by rw [I.ok.glob]; exact I.mod.glob.keeps I.bk) hm (by rw [I.ok.blt]; exact h1.keeps I.bk) ((h2 x hn).trans hv) h) hd
theorem pe_bltn {x : Str} {v : V} {u : Value} {pos : Pos} (hg : Gl X x) (hm : X.mg x = none) (hv : bootBuiltins x = some u) (r : RelV v u) (hn : x ≠ "__name__" := by decide) (hd : (x == ("__debug__" : Str)) = false := by decide) : PE X (.Name x pos) (tC v) :=
  fun _ _ _ H _ I h => ld_blt I hg hm hv ⟨v, H, I, r, h⟩ hn hd
variable {a b : Expr} {ta tb : TE} {pos : Pos}
def tB (t : TE) : TT := fun σ H Q => t σ H fun x H1 => ∃ c, x = .bl c ∧ Q c H1
theorem pt_val {e : Expr} {t : TE} (h : PE X e t) (he : ∀ whole, isTrue e X.env whole = (do let v ← whole; standAt e.pos; holding [v] (truthy v)) := by intro _; rfl) : PT X e (tB t) := by
  intro pins s σ H Q I hw
  refine isTrue_plain (thn (h pins s σ H _ I hw) fun v s1 ⟨x, H1, I1, r1, q1⟩ => ?_) (he _)
  obtain ⟨d, rfl, q⟩ := q1
  cases r1
  exact wpAny_truthy_bool ⟨H1, I1, q⟩
variable {tA tB' : TT} {rest : List Expr}
def tAnd (t u : TT) : TT := fun σ H Q => t σ H fun c H1 => if c = true then u σ H1 Q else Q false H1
def tOr (t u : TT) : TT := fun σ H Q => t σ H fun c H1 => if c = true then Q true H1 else u σ H1 Q
def tNot (t : TT) : TT := fun σ H Q => t σ H fun c H1 => Q (!c) H1
theorem pw_and1 (ha : PT X a tA) : PW X (.BoolOp .And [a] pos) tA := by
  intro wh pins s σ H Q I h
  refine isTrue_and (thn (ha pins s σ H Q I h) fun c s1 e => ?_)
  cases c with
  | true => exact isTrue_and_nil e
  | false => exact e
theorem pw_or1 (ha : PT X a tA) : PW X (.BoolOp .Or [a] pos) tA := by
  intro wh pins s σ H Q I h
  refine isTrue_or (thn (ha pins s σ H Q I h) fun c s1 e => ?_)
  cases c with
  | false => exact isTrue_or_nil e
  | true => exact e
theorem pw_and (ha : PT X a tA) (hb : PW X (.BoolOp .And (b :: rest) pos) tB') : PW X (.BoolOp .And (a :: b :: rest) pos) (tAnd tA tB') := by
  intro wh pins s σ H Q I h
  refine isTrue_and (thn (ha pins s σ H _ I h) fun c s1 ⟨H1, I1, q1⟩ => ?_)
  cases c with
  | true => exact hb wh pins s1 σ H1 Q I1 q1
  | false => exact ⟨H1, I1, q1⟩
theorem pw_or (ha : PT X a tA) (hb : PW X (.BoolOp .Or (b :: rest) pos) tB') : PW X (.BoolOp .Or (a :: b :: rest) pos) (tOr tA tB') := by
  intro wh pins s σ H Q I h
  refine isTrue_or (thn (ha pins s σ H _ I h) fun c s1 ⟨H1, I1, q1⟩ => ?_)
  cases c with
  | true => exact ⟨H1, I1, q1⟩
  | false => exact hb wh pins s1 σ H1 Q I1 q1
theorem pt_not (ha : PT X a tA) : PT X (.UnaryOp .Not a pos) (tNot tA) := by
  intro pins s σ H Q I h
  exact isTrue_not (ha pins s σ H (fun c H1 => Q (!c) H1) I h)
def tAndV (ta tb : TE) : TE := fun σ H Q => ta σ H fun x H1 => ∃ c, x = .bl c ∧ if c = true then tb σ H1 Q else Q (.bl false) H1
def tNotV (ta : TE) : TE := fun σ H Q => ta σ H fun x H1 => ∃ c, x = .bl c ∧ Q (.bl (!c)) H1
theorem pe_one {op} {t : TE} (h : PE X a t) : PE X (.BoolOp op [a] pos) t := fun pins s σ H Q I hw => BoolOp_one (h pins s σ H Q I hw)
theorem pe_and (ha : PE X a ta) (hb : PE X (.BoolOp .And (b :: rest) pos) tb) : PE X (.BoolOp .And (a :: b :: rest) pos) (tAndV ta tb) := by
  intro pins s σ H Q I h
  refine BoolOp_and (thn (ha pins s σ H _ I h) fun v s1 ⟨x, H1, I1, r1, q1⟩ => ?_)
  obtain ⟨c, rfl, q1⟩ := q1
  cases r1
  refine wpAny_truthy_bool ?_
  cases c with
  | true => exact hb pins s1 σ H1 Q I1 q1
  | false => exact ⟨.bl false, H1, I1, rfl, q1⟩
theorem pe_not (ha : PE X a ta) : PE X (.UnaryOp .Not a pos) (tNotV ta) := by
  intro pins s σ H Q I h
  refine UnaryOp_ (thn (ha pins s σ H _ I h) fun v s1 ⟨x, H1, I1, r1, q1⟩ => ?_)
  obtain ⟨c, rfl, q1⟩ := q1
  cases r1
  exact not_of (wpAny_truthy_bool ⟨.bl (!c), H1, I1, rfl, q1⟩)
def tIf (t : TT) (ta tb : TE) : TE := fun σ H Q => t σ H fun c H1 => if c = true then ta σ H1 Q else tb σ H1 Q
theorem pe_ifExp {c : Expr} (hc : PT X c tA) (ha : PE X a ta) (hb : PE X b tb) : PE X (.IfExp c a b pos) (tIf tA ta tb) := by
  intro pins s σ H Q I h
  refine wpAny_IfExp (thn (hc pins s σ H _ I h) fun d s1 ⟨H1, I1, q1⟩ => ?_)
  cases d with
  | true => exact ha pins s1 σ H1 Q I1 q1
  | false => exact hb pins s1 σ H1 Q I1 q1
end
end L2
namespace L2
open PySem PySem.Spec PyProof.Rows
def SqL (K : PySem.W.Frag) (H : Hp) (a : Addr) (xs : List V) : Prop :=
  Rd H a (.lst xs) ∨
    ∃ (o : Obj) (its : Array Value) (n : Nat), K.lookup a = some o ∧ o.cls = .type "list" ∧ o.dict = none ∧ o.data = .seq its n ∧ its.size ≤ sizeLine ∧ Vals xs its.toList
def SqT (K : PySem.W.Frag) (H : Hp) (a : Addr) (xs : List V) : Prop :=
  Rd H a (.tup xs) ∨
    ∃ (o : Obj) (its : Array Value) (n : Nat), K.lookup a = some o ∧ o.cls = .type "tuple" ∧ o.data = .seq its n ∧ its.size ≤ sizeLine ∧ Vals xs its.toList
def absV : Value → Option V
  | .none => some .non
  | .bool b => some (.bl b)
  | .int i _ => some (.int i)
  | .str x _ => some (.str x)
  | .bytes b _ => some (.byt b)
  | .float b _ => some (.flt b)
  | .ref a => some (.ref a)
  | .type n => some (.ty n)
  | _ => none
theorem RelV.abs {x : V} {u : Value} (r : RelV x u) : absV u = some x := by
  cases x with
  | non => cases r; rfl
  | bl _ => cases r; rfl
  | int _ => obtain ⟨t, rfl⟩ := r; rfl
  | str _ => obtain ⟨t, rfl⟩ := r; rfl
  | byt _ => obtain ⟨t, rfl⟩ := r; rfl
  | flt _ => obtain ⟨t, rfl⟩ := r; rfl
  | ref _ => cases r; rfl
  | ty _ => cases r; rfl
theorem RelV.inj {x y : V} {u : Value} (r : RelV x u) (q : RelV y u) : x = y := Option.some.inj (r.abs.symm.trans q.abs)
theorem Vals.inj : ∀ {xs ys : List V} {us : List Value}, Vals xs us → Vals ys us → xs = ys
  | _, _, _, .nil, .nil => rfl
  | _, _, _, .cons r t, .cons r' t' => by rw [r.inj r', Vals.inj t t']
section
variable {X : Cx} {pins : List (Addr × Obj)} {σ : St} {H : Hp} {s : Shared} {a : Addr} {xs ys : List V}
theorem SqL.of {K : PySem.W.Frag} (h : H a = some (.lst xs)) : SqL K H a xs := .inl (.inl h)
theorem Inv.list (I : Inv X pins σ H s) (h : SqL X.K H a xs) : ∃ its : List Value, Vals xs its ∧ PlainL s.heap a its.toArray ∧ xs.length ≤ sizeLine := by
  rcases h with h | ⟨o, its, n, hk, hc, hd, hs, hz, r⟩
  · obtain ⟨z, its, n, r, e⟩ := h.ok I.hok
    exact ⟨its, r, ⟨_, n, e, rfl, rfl, rfl⟩, z⟩
  · refine ⟨its.toList, r, ⟨o, n, I.kIn a o hk, hc, hd, by simpa using hs⟩, ?_⟩
    have e := r.length
    simp only [Array.length_toList] at e
    omega
theorem Inv.tuple (I : Inv X pins σ H s) (h : SqT X.K H a xs) : ∃ its : List Value, Vals xs its ∧ IsTup s.heap a its.toArray ∧ xs.length ≤ sizeLine := by
  rcases h with h | ⟨o, its, n, hk, hc, hs, hz, r⟩
  · obtain ⟨z, its, r, p⟩ := h.ok I.hok
    exact ⟨its, r, p, z⟩
  · refine ⟨its.toList, r, ⟨o, I.kIn a o hk, hc, n, by simpa using hs⟩, ?_⟩
    have e := r.length
    simp only [Array.length_toList] at e
    omega
theorem Inv.list_inj (I : Inv X pins σ H s) (h : SqL X.K H a xs) (h' : SqL X.K H a ys) : xs = ys := by
  obtain ⟨its, r, ⟨o, n, e, _, _, d⟩, _⟩ := I.list h
  obtain ⟨its', r', ⟨o', n', e', _, _, d'⟩, _⟩ := I.list h'
  rw [e] at e'; cases e'
  rw [d] at d'
  injection d' with d1 _
  have : its = its' := by simpa using congrArg Array.toList d1
  subst this
  exact r.inj r'
theorem Inv.tuple_inj (I : Inv X pins σ H s) (h : SqT X.K H a xs) (h' : SqT X.K H a ys) : xs = ys := by
  obtain ⟨its, r, ⟨o, e, _, n, d⟩, _⟩ := I.tuple h
  obtain ⟨its', r', ⟨o', e', _, n', d'⟩, _⟩ := I.tuple h'
  rw [e] at e'; cases e'
  rw [d] at d'
  injection d' with d1 _
  have : its = its' := by simpa using congrArg Array.toList d1
  subst this
  exact r.inj r'
end
abbrev Cx.wish (X : Cx) (E : Value → Shared → Prop) : Cx := { X with xe := E }
abbrev Cx.nox (X : Cx) : Cx := X.wish fun _ _ => False
theorem Cx.Ok.wish {X : Cx} (ok : X.Ok) (E : Value → Shared → Prop) : (X.wish E).Ok :=
  ⟨ok.mod, ok.kind, ok.glob, ok.blt, ok.above, ok.inj, ok.has, ok.cab, ok.hd, ok.frames, ok.stk, ok.exf, ok.bs, ok.bsz, ok.noex, ok.exfs, ok.funs, ok.frf, ok.tab⟩
theorem Cx.Ok.unwish {X : Cx} {E : Value → Shared → Prop} (ok : (X.wish E).Ok) : X.Ok :=
  ⟨ok.mod, ok.kind, ok.glob, ok.blt, ok.above, ok.inj, ok.has, ok.cab, ok.hd, ok.frames, ok.stk, ok.exf, ok.bs, ok.bsz, ok.noex, ok.exfs, ok.funs, ok.frf, ok.tab⟩
section
variable {X : Cx} {pins : List (Addr × Obj)} {σ : St} {H : Hp} {s : Shared} {E : Value → Shared → Prop}
theorem Inv.wish (I : Inv X pins σ H s) (E : Value → Shared → Prop) : Inv (X.wish E) pins σ H s := ⟨I.ok.wish E, I.os, I.bare, I.base, I.loc, I.cell, I.free, I.freeC, I.pin, I.hok, I.len⟩
theorem Inv.unwish (I : Inv (X.wish E) pins σ H s) : Inv X pins σ H s := ⟨I.ok.unwish, I.os, I.bare, I.base, I.loc, I.cell, I.free, I.freeC, I.pin, I.hok, I.len⟩
theorem SP.unwish {D : Ends} {f : Flow} {s' : Shared} (h : SP (X.wish E) pins D f s') : SP X pins D f s' := by
  cases f with
  | next => obtain ⟨σ', H', I, q⟩ := h; exact ⟨σ', H', I.unwish, q⟩
  | brk => obtain ⟨σ', H', I, q⟩ := h; exact ⟨σ', H', I.unwish, q⟩
  | cont => obtain ⟨σ', H', I, q⟩ := h; exact ⟨σ', H', I.unwish, q⟩
  | ret u => obtain ⟨v, σ', H', I, r, q⟩ := h; exact ⟨v, σ', H', I.unwish, r, q⟩
theorem PSs.nox {st : List Stmt} {t : TS} (h : PSs X.nox st t) : PSs X st t := fun pins s σ H D I hw =>
  wpAny_mono (h pins s σ H D (I.wish _) hw) (fun _ _ q => q.unwish) fun _ _ z => False.elim z
end
section
variable {X : Cx} {st : Stmt} {rest : List Stmt} {t u : TS} {e : Expr} {te : TE} {pos : Pos}
def tNext : TS := fun D σ H => D.nx σ H
def tSeq (t u : TS) : TS := fun D σ H => t { D with nx := u D } σ H
theorem pss_nil : PSs X [] tNext := fun _ _ σ H _ I h => wpAny_execs_nil ⟨σ, H, I, h⟩
theorem pss_cons (h1 : PS X st t) (h2 : PSs X rest u) : PSs X (st :: rest) (tSeq t u) := by
  intro pins s σ H D I h
  refine wpAny_execs_cons (thn (h1 pins s σ H { D with nx := u D } I h) fun f s1 q => ?_)
  cases f with
  | next =>
    obtain ⟨σ', H', I', q⟩ := q
    exact h2 pins s1 σ' H' D I' q
  | ret v => exact q
  | brk => exact q
  | cont => exact q
theorem pss_one (h1 : PS X st t) : PSs X [st] t := by
  intro pins s σ H D I h
  refine wpAny_execs_cons (thn (h1 pins s σ H D I h) fun f s1 q => ?_)
  cases f with
  | next => exact wpAny_execs_nil q
  | ret v => exact q
  | brk => exact q
  | cont => exact q
theorem Inv.quiet {pins : List (Addr × Obj)} {σ : St} {H : Hp} {s : Shared} (I : Inv X pins σ H s) : interactive X.env = false := by simp [interactive, I.ok.kind]
def tDrop (te : TE) : TS := fun D σ H => te σ H fun _ H1 => D.nx σ H1
theorem ps_expr (he : PE X e te) (hs : swapsWith e none pos.line X.env = pure false := by rfl) : PS X (.Expr e pos) (tDrop te) := by
  intro pins s σ H D I h
  exact wpAny_Expr_any (thn (he pins s σ H _ I h) fun v s1 ⟨x, H1, I1, r1, q1⟩ => ⟨σ, H1, I1, q1⟩) I.quiet hs
def tRet (te : TE) : TS := fun D σ H => te σ H D.rt
theorem ps_ret (he : PE X e te) : PS X (.Return (some e) pos) (tRet te) := by
  intro pins s σ H D I h
  exact wpAny_Return_some (thn (he pins s σ H _ I h) fun v s1 ⟨x, H1, I1, r1, q1⟩ => ⟨x, σ, H1, I1, r1, q1⟩)
def tIfS (c : TT) (t u : TS) : TS := fun D σ H => c σ H fun b H1 => if b = true then t D σ H1 else u D σ H1
theorem ps_if {c : Expr} {a b : List Stmt} {tc : TT} (hc : PT X c tc) (ha : PSs X a t) (hb : PSs X b u) : PS X (.If c a b pos) (tIfS tc t u) := by
  intro pins s σ H D I h
  refine wpAny_If (thn (hc pins s σ H _ I h) fun d s1 ⟨H1, I1, q1⟩ => ?_)
  cases d with
  | true => exact ha pins s1 σ H1 D I1 q1
  | false => exact hb pins s1 σ H1 D I1 q1
end
abbrev TG := V → St → Hp → (St → Hp → Prop) → Prop
abbrev TGs := List V → St → Hp → (St → Hp → Prop) → Prop
def PG (X : Cx) (target : Expr) (t : TG) : Prop :=
  ∀ (pins : List (Addr × Obj)) (s : Shared) (σ : St) (H : Hp) (v : V) (u : Value) (Q : St → Hp → Prop), Inv X pins σ H s → RelV v u → t v σ H Q →
    wpAny (model X.prog X.w) X.A (assign target X.env u) (fun _ s' => ∃ σ' H', Inv X pins σ' H' s' ∧ Q σ' H') X.xe s
def PGs (X : Cx) (ts : List Expr) (t : TGs) : Prop :=
  ∀ (pins : List (Addr × Obj)) (s : Shared) (σ : St) (H : Hp) (vs : List V) (us : List Value) (Q : St → Hp → Prop), Inv X pins σ H s → Vals vs us → t vs σ H Q →
    wpAny (model X.prog X.w) X.A (assignInOrder ((assignEach ts X.env).map (·.2)) us) (fun _ s' => ∃ σ' H', Inv X pins σ' H' s' ∧ Q σ' H') X.xe s
abbrev TSet := V → V → V → Hp → (Hp → Prop) → Prop
def PSet (X : Cx) (t : TSet) : Prop :=
  ∀ (pins : List (Addr × Obj)) (s : Shared) (σ : St) (H : Hp) (o i v : V) (ov iv u : Value) (Q : Hp → Prop), Inv X pins σ H s → RelV o ov → RelV i iv → RelV v u → t o i v H Q →
    wpAny (model X.prog X.w) X.A (setItem ov iv u) (fun _ s' => ∃ H', Inv X pins σ H' s' ∧ Q H') X.xe s
section
variable {X : Cx} {pos : Pos}
def gName (i : Nat) : TG := fun v σ H Q => Q (σ.set i (some v)) H
theorem pg_name {i : Nat} {x : Str} (hN : X.N.Nodup) (hi : X.N[i]? = some x) (hx : Loc X.env.scope x) (hf : X.fn x = true ∨ X.env.scope.names.lookup x = some .local := by first | exact .inl rfl | exact .inr rfl | assumption) : PG X (.Name x pos) (gName i) := by
  intro pins s σ H v u Q I r h
  exact wpAny_assign_Name (store_ok I hN hi hx r (fun s' I' => ⟨_, H, I', h⟩) hf)
def gNil : TGs := fun vs σ H Q => vs = [] ∧ Q σ H
def gCons (t : TG) (u : TGs) : TGs := fun vs σ H Q => ∃ v r, vs = v :: r ∧ t v σ H fun σ' H' => u r σ' H' Q
theorem pgs_nil : PGs X [] gNil := by
  intro pins s σ H vs us Q I r h
  obtain ⟨e, h⟩ := h
  subst e
  cases r
  exact assignInOrder_nil ⟨σ, H, I, h⟩
theorem pgs_cons {e : Expr} {es : List Expr} {t : TG} {u : TGs} (h1 : PG X e t) (h2 : PGs X es u)
    (hs : (assignEach (e :: es) X.env).map (·.2) = assign e X.env :: (assignEach es X.env).map (·.2) := by rfl) : PGs X (e :: es) (gCons t u) := by
  intro pins s σ H vs us Q I r h
  obtain ⟨v, vr, e1, h⟩ := h
  subst e1
  cases r with
  | cons r rr =>
    rw [hs]
    refine assignInOrder_cons (thn (h1 pins s σ H _ _ _ I r h) fun _ s1 ⟨σ1, H1, I1, q1⟩ => ?_)
    exact h2 pins s1 σ1 H1 _ _ Q I1 rr q1
def gTup (K : PySem.W.Frag) (n : Nat) (t : TGs) : TG := fun v σ H Q => ∃ a xs, v = .ref a ∧ SqT K H a xs ∧ xs.length = n ∧ t xs σ H Q
theorem pg_tup {es : List Expr} {k : Nat} {t : TGs} {n : Nat} (hc : X.calm = true) (h : PGs X es t)
    (hn : (assignEach es X.env).length = n := by rfl) (hst : (assignEach es X.env).findIdx? (·.1) = none := by rfl) : PG X (.Tuple es k pos) (gTup X.K n t) := by
  intro pins s σ H v u Q I r hw
  obtain ⟨a, xs, e1, hq, hl, hw⟩ := hw
  subst e1
  cases r
  obtain ⟨its, rv, ht, hz⟩ := I.tuple hq
  refine assign_Tuple_tuple (I.ok.hd hc) ht (by simp [hn, ← hl, rv.length]) hst fun h' hx => ?_
  have I1 : Inv X pins σ H { s with heap := h' } := I.kept (t' := s.toks) fun b o e => hx b o (Nat.ne_of_lt (Heap.lt_size e)) e
  exact h pins _ σ H xs _ Q I1 (by simpa using rv) hw
def gSub (to ti : TE) (t : TSet) : TG := fun v σ H Q => to σ H fun o H1 => ti σ H1 fun i H2 => t o i v H2 fun H3 => Q σ H3
theorem pg_sub {o i : Expr} {to ti : TE} {t : TSet} (ho : PE X o to) (hi : PE X i ti) (hs : PSet X t)
    (ha : ∀ v, assign (.Subscript o i pos) X.env v = (do
      let ov ← holding [v] (eval o X.env)
      let iv ← holding [v, ov] (eval i X.env)
      standAt pos
      holding [v, ov, iv] (setItem ov iv v)
      release [v, ov, iv] []) := by intro _; rfl) : PG X (.Subscript o i pos) (gSub to ti t) := by
  intro pins s σ H v u Q I r h
  rw [ha]
  refine wpAny_bind (wpAny_holding (thn (ho pins s σ H _ I h) fun ov s1 ⟨x, H1, I1, r1, q1⟩ => ?_))
  refine wpAny_bind (wpAny_holding (thn (hi pins s1 σ H1 _ I1 q1) fun iv s2 ⟨y, H2, I2, r2, q2⟩ => ?_))
  refine wpAny_bind (wpAny_standAt (wpAny_bind (wpAny_holding (thn (hs pins s2 σ H2 x y v ov iv u _ I2 r1 r2 r q2) fun _ s3 ⟨H3, I3, q3⟩ => ?_))))
  exact wpAny_release ⟨σ, H3, I3, q3⟩
def tAsg (te : TE) (g : TG) : TS := fun D σ H => te σ H fun x H1 => g x σ H1 D.nx
theorem ps_asg {tg e : Expr} {te : TE} {g : TG} (he : PE X e te) (hg : PG X tg g) (hs : swapsWithSole [tg] e pos.line X.env = pure false := by rfl) (hw : swappedStores [tg] e X.env = pure none := by rfl)
    (h1 : (assignEach [tg] X.env).map (·.2) = [assign tg X.env] := by rfl) : PS X (.Assign [tg] e pos) (tAsg te g) := by
  intro pins s σ H D I h
  refine wpAny_Assign_stores (thn (he pins s σ H _ I h) fun v s1 ⟨x, H1, I1, r1, q1⟩ => ?_) hs hw
  rw [h1]
  exact thn (hg pins s1 σ H1 x v _ I1 r1 q1) fun _ s2 q => q
theorem ps_set {i : Nat} {x : Str} {e : Expr} {te : TE} {pos' : Pos} (hN : X.N.Nodup) (hi : X.N[i]? = some x) (hx : Loc X.env.scope x) (he : PE X e te) (hs : swapsWith e (some (.Name x pos')) pos.line X.env = pure false := by rfl) (hf : X.fn x = true ∨ X.env.scope.names.lookup x = some .local := by first | exact .inl rfl | exact .inr rfl | assumption) :
    PS X (.Assign [.Name x pos'] e pos) (tAsg te (gName i)) := by
  intro pins s σ H D I h
  refine wpAny_Assign_Name (thn (he pins s σ H _ I h) fun v s1 ⟨y, H1, I1, r1, q1⟩ => ?_) hs
  exact store_ok I1 hN hi hx r1 (fun s2 I2 => ⟨_, H1, I2, q1⟩) hf
end
section
variable {X : Cx} {pos : Pos}
end
structure It where
  go : Nat → Hp → Prop
  yld : Nat → Hp → V → Hp → Prop
  stop : Nat → Hp → Prop
def FpOk (X : Cx) (pins : List (Addr × Obj)) (H : Hp) (b : Addr) : Prop :=
  H b = none ∧ b ≠ X.env.locals ∧ b ∉ X.fs ∧ (b ∈ X.ex ∨ X.s₀.heap.objs.size ≤ b) ∧ (∀ x c, X.env.cells.lookup x = some c → c ≠ b) ∧ ∀ p ∈ X.pn ++ pins, p.1 ≠ b
theorem Inv.fpOk {X : Cx} {pins : List (Addr × Obj)} {σ : St} {H H' : Hp} {s : Shared} {b : Addr} (I : Inv X pins σ H s) (hb : s.heap.objs.size ≤ b) (hn : H' b = none) : FpOk X pins H' b := by
  refine ⟨hn, Nat.ne_of_gt (Nat.lt_of_lt_of_le I.lt hb), I.nofs hb, .inr (Nat.le_trans I.sz hb), fun x c e z => ?_, fun p hp z => ?_⟩
  · obtain ⟨v, q⟩ := I.cell x c e
    exact absurd (Nat.lt_of_lt_of_le q.lt (by rw [z]; exact hb)) (Nat.lt_irrefl _)
  · exact absurd (Nat.lt_of_lt_of_le (Heap.lt_size (I.pin p hp).1) (by rw [z]; exact hb)) (Nat.lt_irrefl _)
structure Turn (P : Program) (w : World) (K : PySem.W.Frag) (tg : Expr) (J : It) (fp : List Addr) (it : Addr) (tn : Nat → Heap → Prop) : Prop where
  mem : it ∈ fp
  obj : ∀ i h, tn i h → ∀ b ∈ fp, ∃ o, h.get? b = some o ∧ ∀ v, o.data ≠ .cell v
  keep : ∀ i h h', tn i h → (∀ b ∈ fp, ∀ o, h.get? b = some o → h'.get? b = some o) → tn i h'
  item : ∀ (X : Cx), X.prog = P → X.w = w → X.K = K → X.calm = true → ∀ (i : Nat) (pins : List (Addr × Obj)) (s : Shared) (σ : St) (H : Hp) (E : Value → Shared → Prop), Inv X pins σ H s → (∀ b ∈ fp, FpOk X pins H b) → tn i s.heap → J.go i H →
    wpAny (model P w) X.A (pyNext (.ref it)) (fun r s1 => ∃ u, r = some u ∧
      wpAny (model P w) X.A (letOwnedTupleGo tg (.ref it) u) (fun _ s2 => ∃ x H', Inv X pins σ H' s2 ∧ RelV x u ∧ J.yld i H x H' ∧ tn (i + 1) s2.heap ∧ ∀ b ∈ fp, H' b = none) E s1) E s
  done : ∀ (X : Cx), X.prog = P → X.w = w → X.K = K → X.calm = true → ∀ (i : Nat) (pins : List (Addr × Obj)) (s : Shared) (σ : St) (H : Hp) (E : Value → Shared → Prop), Inv X pins σ H s → (∀ b ∈ fp, FpOk X pins H b) → tn i s.heap → J.stop i H →
    wpAny (model P w) X.A (pyNext (.ref it)) (fun r s1 => r = none ∧ Inv X pins σ H s1) E s
  self : ∀ (A : Around) (i : Nat) (s : Shared) (Q : Value → Shared → Prop) (E : Value → Shared → Prop), tn i s.heap → Q (.ref it) s → wpAny (model P w) A (pyIter (.ref it)) Q E s
abbrev TI := St → Hp → (It → Hp → Prop) → Prop
def PIE (X : Cx) (pins : List (Addr × Obj)) (σ : St) (tg : Expr) (R : It → Hp → Prop) (itv : Value) (s2 : Shared) : Prop :=
  ∃ (it : Addr) (fp : List Addr) (tn : Nat → Heap → Prop) (J : It) (H' : Hp), itv = .ref it ∧ Inv X pins σ H' s2 ∧ Turn X.prog X.w X.K tg J fp it tn ∧ tn 0 s2.heap ∧ (∀ b ∈ fp, FpOk X pins H' b) ∧ R J H'
def PI (X : Cx) (tg iter : Expr) (wi : TI) : Prop :=
  ∀ (pins : List (Addr × Obj)) (s : Shared) (σ : St) (H : Hp) (R : It → Hp → Prop), Inv X pins σ H s → wi σ H R →
    wpAny (model X.prog X.w) X.A (eval iter X.env) (fun v s1 => wpAny (model X.prog X.w) X.A (pyIter v) (PIE X pins σ tg R) X.xe s1) X.xe s
theorem go_of {M : Model} {A : Around} {E : Value → Shared → Prop} {s : Shared} {tg : Expr} {it : Addr} {u : Value} {o : Obj} {n : String} {vs : Array Value} {Q : Unit → Shared → Prop} (ho : s.heap.get? it = some o) (hc : o.cls = .type n) (hd : o.data = .fields vs)
    (hn : ["enumerate", "zip", "dict_itemiterator", "dict_reverseitemiterator", "odict_iterator", "itertools.zip_longest", "itertools.pairwise"].contains n = false) (hQ : Q () s) : wpAny M A (letOwnedTupleGo tg (.ref it) u) Q E s := by
  unfold letOwnedTupleGo
  cases tg <;> first
    | exact wpAny_pure hQ
    | (cases u <;> first
        | exact wpAny_pure hQ
        | (refine wpAny_bind (wpAny_load ho ?_)
           rw [hc, hd]
           show wpAny M A (if (["enumerate", "zip", "dict_itemiterator", "dict_reverseitemiterator", "odict_iterator", "itertools.zip_longest", "itertools.pairwise"].contains n && vs[0]? == some (rawInt _)) = true then _ else _) Q E s
           rw [if_neg (by intro h; rw [hn, Bool.false_and] at h; cases h)]
           exact wpAny_pure hQ))
def Itl (K : PySem.W.Frag) (a : Addr) : It :=
  ⟨fun i H => ∃ xs x, SqL K H a xs ∧ xs[i]? = some x, fun i H x H' => H' = H ∧ ∀ xs, SqL K H a xs → xs[i]? = some x, fun i H => ∃ xs, SqL K H a xs ∧ xs.length ≤ i⟩
def Itt (K : PySem.W.Frag) (a : Addr) : It :=
  ⟨fun i H => ∃ xs x, SqT K H a xs ∧ xs[i]? = some x, fun i H x H' => H' = H ∧ ∀ xs, SqT K H a xs → xs[i]? = some x, fun i H => ∃ xs, SqT K H a xs ∧ xs.length ≤ i⟩
def Itr (lo : Int) (n : Nat) : It := ⟨fun i _ => i < n, fun i H x H' => H' = H ∧ x = .int (lo + i), fun i _ => n ≤ i⟩
theorem turn_list {P : Program} {w : World} {K : PySem.W.Frag} {tg : Expr} (a it : Addr) : Turn P w K tg (Itl K a) [it] it (fun i h => h.IsListIter it a i) where
  mem := by simp
  obj := fun i h st b hb => by
    have e : b = it := by simpa using hb
    subst e
    obtain ⟨o, e, c, d⟩ := st
    exact ⟨o, e, fun v z => by rw [d] at z; cases z⟩
  keep := fun i h h' st k => st.at fun o e => k it (by simp) o e
  item := by
    intro X hP hw hK hc i pins s σ H E I hf st hg
    subst hP hw hK
    obtain ⟨xs, x, hq, hx⟩ := hg
    obtain ⟨its, rv, p, hz⟩ := I.list hq
    obtain ⟨u, hu, ru⟩ := rv.get hx
    obtain ⟨f0, f1, f2, f3, f4, f5⟩ := hf it (by simp)
    refine wpAny_pyNext_list_item st p.isList (x := u) (by simpa using hu) fun h' st' sb => ?_
    have I1 : Inv X pins σ H { s with heap := h' } := I.turned (t' := s.toks) (fun b o hb e => (sb.2 b hb).trans e) f0 f1 f3 f4 f5
    obtain ⟨o, e, c, d⟩ := id st'
    exact ⟨u, rfl, go_of (s := { s with heap := h' }) e c d (by decide) ⟨x, H, I1, ru, ⟨rfl, fun ys hy => by rw [I.list_inj hy hq]; exact hx⟩, st', fun b hb => (hf b hb).1⟩⟩
  done := by
    intro X hP hw hK hc i pins s σ H E I hf st hg
    subst hP hw hK
    obtain ⟨xs, hq, hx⟩ := hg
    obtain ⟨its, rv, p, hz⟩ := I.list hq
    obtain ⟨f0, f1, f2, f3, f4, f5⟩ := hf it (by simp)
    have hl := rv.length
    exact wpAny_pyNext_list_end (I.ok.hd hc) st p.isList (by simp; omega) fun h' eb => ⟨rfl, I.turned (t' := s.toks) (fun b o hb e => eb b o hb e) f0 f1 f3 f4 f5⟩
  self := fun _ _ _ _ _ st h => wpAny_pyIter_listiter st h
theorem turn_tuple {P : Program} {w : World} {K : PySem.W.Frag} {tg : Expr} (a it : Addr) : Turn P w K tg (Itt K a) [it] it (fun i h => h.IsTupleIter it a i) where
  mem := by simp
  obj := fun i h st b hb => by
    have e : b = it := by simpa using hb
    subst e
    obtain ⟨o, e, c, d⟩ := st
    exact ⟨o, e, fun v z => by rw [d] at z; cases z⟩
  keep := fun i h h' st k => st.at fun o e => k it (by simp) o e
  item := by
    intro X hP hw hK hc i pins s σ H E I hf st hg
    subst hP hw hK
    obtain ⟨xs, x, hq, hx⟩ := hg
    obtain ⟨its, rv, p, hz⟩ := I.tuple hq
    obtain ⟨u, hu, ru⟩ := rv.get hx
    obtain ⟨f0, f1, f2, f3, f4, f5⟩ := hf it (by simp)
    refine wpAny_pyNext_tuple_item st (show s.heap.IsTuple a its.toArray from p) (x := u) (by simpa using hu) fun h' st' sb => ?_
    have I1 : Inv X pins σ H { s with heap := h' } := I.turned (t' := s.toks) (fun b o hb e => (sb.2 b hb).trans e) f0 f1 f3 f4 f5
    obtain ⟨o, e, c, d⟩ := id st'
    exact ⟨u, rfl, go_of (s := { s with heap := h' }) e c d (by decide) ⟨x, H, I1, ru, ⟨rfl, fun ys hy => by rw [I.tuple_inj hy hq]; exact hx⟩, st', fun b hb => (hf b hb).1⟩⟩
  done := by
    intro X hP hw hK hc i pins s σ H E I hf st hg
    subst hP hw hK
    obtain ⟨xs, hq, hx⟩ := hg
    obtain ⟨its, rv, p, hz⟩ := I.tuple hq
    obtain ⟨f0, f1, f2, f3, f4, f5⟩ := hf it (by simp)
    have hl := rv.length
    exact wpAny_pyNext_tuple_end (I.ok.hd hc) st (show s.heap.IsTuple a its.toArray from p) (by simp; omega) fun h' eb => ⟨rfl, I.turned (t' := s.toks) (fun b o hb e => eb b o hb e) f0 f1 f3 f4 f5⟩
  self := fun _ _ _ _ _ st h => wpAny_pyIter_tupleiter st h
theorem turn_range {P : Program} {w : World} {K : PySem.W.Frag} {tg : Expr} (it : Addr) (lo : Int) (n : Nat) : Turn P w K tg (Itr lo n) [it] it (fun i h => IsRangeIter h it (lo + (i : Nat) * 1) ((n : Int) - (i : Nat)) 1) where
  mem := by simp
  obj := fun i h st b hb => by
    have e : b = it := by simpa using hb
    subst e
    exact ⟨_, st, fun v z => by
      have z' : Data.fields _ = Data.cell v := z
      cases z'⟩
  keep := fun i h h' st k => k it (by simp) _ st
  item := by
    intro X hP hw hK hc i pins s σ H E I hf st hg
    subst hP hw hK
    obtain ⟨f0, f1, f2, f3, f4, f5⟩ := hf it (by simp)
    have W := Walks.range (prog := X.prog) (w := X.w) (I.ok.hd hc) it lo 1 n
    refine W.item i s _ _ hg st fun v h' tk hv st' kk => ?_
    obtain ⟨t, rfl⟩ := hv
    have I1 : Inv X pins σ H { s with heap := h', toks := tk } := I.turned (fun b o hb e => kk b o (by simpa using hb) e) f0 f1 f3 f4 f5
    refine ⟨_, rfl, go_of (s := { s with heap := h', toks := tk }) (n := "range_iterator") st' rfl rfl (by decide) ⟨.int (lo + i), H, I1, ⟨t, ?_⟩, ⟨rfl, rfl⟩, st', fun b hb => (hf b hb).1⟩⟩
    rw [Int.mul_one]
  done := by
    intro X hP hw hK hc i pins s σ H E I hf st hg
    subst hP hw hK
    obtain ⟨f0, f1, f2, f3, f4, f5⟩ := hf it (by simp)
    exact wpAny_pyNext_range_end (I.ok.hd hc) st (by have : n ≤ i := hg; omega) fun h' eb => ⟨rfl, I.turned (t' := s.toks) (fun b o hb e => eb b o hb e) f0 f1 f3 f4 f5⟩
  self := fun _ _ _ _ _ st h => wpAny_pyIter_rangeiter st h
end L2
namespace L2
open PySem PySem.Spec PyProof.Rows
section
variable {X : Cx} {tg : Expr}
def iList (K : PySem.W.Frag) (tl : TE) : TI := fun σ H R => tl σ H fun x H1 => ∃ a, x = .ref a ∧ (∃ xs, SqL K H1 a xs) ∧ R (Itl K a) H1
def iTup (K : PySem.W.Frag) (tl : TE) : TI := fun σ H R => tl σ H fun x H1 => ∃ a, x = .ref a ∧ (∃ xs, SqT K H1 a xs) ∧ R (Itt K a) H1
theorem pi_list {l : Expr} {tl : TE} (hl : PE X l tl) : PI X tg l (iList X.K tl) := by
  intro pins s σ H R I h
  refine thn (hl pins s σ H _ I h) fun v s1 ⟨x, H1, I1, r1, q1⟩ => ?_
  obtain ⟨a, e, ⟨xs, hq⟩, q⟩ := q1
  subst e
  cases r1
  obtain ⟨its, rv, p, hz⟩ := I1.list hq
  refine wpAny_pyIter_list p.isList ?_
  refine ⟨s1.heap.objs.size, [s1.heap.objs.size], _, _, H1, rfl, I1.kept (t' := s1.toks) fun b o e => Heap.get?_push_of_some _ e, turn_list a _, ⟨_, Heap.get?_push_size _ rfl, rfl, rfl⟩, fun b hb => ?_, q⟩
  have e : b = s1.heap.objs.size := by simpa using hb
  subst e
  exact I1.fpOk (Nat.le_refl _) (I1.hok.fresh (Nat.le_refl _))
theorem pi_tup {l : Expr} {tl : TE} (hl : PE X l tl) : PI X tg l (iTup X.K tl) := by
  intro pins s σ H R I h
  refine thn (hl pins s σ H _ I h) fun v s1 ⟨x, H1, I1, r1, q1⟩ => ?_
  obtain ⟨a, e, ⟨xs, hq⟩, q⟩ := q1
  subst e
  cases r1
  obtain ⟨its, rv, p, hz⟩ := I1.tuple hq
  refine wpAny_pyIter_tuple (show s1.heap.IsTuple a its.toArray from p) ?_
  refine ⟨s1.heap.objs.size, [s1.heap.objs.size], _, _, H1, rfl, I1.kept (t' := s1.toks) fun b o e => Heap.get?_push_of_some _ e, turn_tuple a _, ⟨_, Heap.get?_push_size _ rfl, rfl, rfl⟩, fun b hb => ?_, q⟩
  have e : b = s1.heap.objs.size := by simpa using hb
  subst e
  exact I1.fpOk (Nat.le_refl _) (I1.hok.fresh (Nat.le_refl _))
theorem range_it {pins : List (Addr × Obj)} {σ : St} {H : Hp} {s : Shared} {R : It → Hp → Prop} {E : Value → Shared → Prop} {lo hi : Int} {t u v : Tok} {tk : Nat} (I : Inv X pins σ H s) (h1 : -(2 ^ 62) ≤ lo) (h2 : lo < 2 ^ 62) (h3 : -(2 ^ 62) ≤ hi) (h4 : hi < 2 ^ 62)
    (q : R (Itr lo (hi - lo).toNat) H) : wpAny (model X.prog X.w) X.A (pyIter (.ref s.heap.objs.size)) (PIE X pins σ tg R) E { s with heap := s.heap.push { cls := .type "range", data := .fields #[.int lo t, .int hi u, .int 1 v] }, toks := tk } := by
  refine wpAny_pyIter_range (IsRange.new ..) (small_one h1 h2 h3 h4) ?_
  have I1 : Inv X pins σ H { s with heap := s.heap.push { cls := .type "range", data := .fields #[.int lo t, .int hi u, .int 1 v] }, toks := tk } := I.kept fun b o e => Heap.get?_push_of_some _ e
  refine ⟨(s.heap.push { cls := .type "range", data := .fields #[.int lo t, .int hi u, .int 1 v] }).objs.size, [(s.heap.push { cls := .type "range", data := .fields #[.int lo t, .int hi u, .int 1 v] }).objs.size], _, _, H, rfl,
    I1.kept (t' := tk) fun b o e => Heap.get?_push_of_some _ e, turn_range _ lo (hi - lo).toNat, ?_, fun b hb => ?_, q⟩
  · have e1 : lo + ((0 : Nat) : Int) * 1 = lo := by simp
    have e2 : (((hi - lo).toNat : Nat) : Int) - ((0 : Nat) : Int) = Builtin.Range.rangeSize lo hi 1 := by rw [rangeSize_one]; split <;> omega
    show IsRangeIter _ _ (lo + ((0 : Nat) : Int) * 1) ((((hi - lo).toNat : Nat) : Int) - ((0 : Nat) : Int)) 1
    rw [e1, e2]
    exact Heap.get?_push_size _ rfl
  · have e : b = (s.heap.push { cls := .type "range", data := .fields #[.int lo t, .int hi u, .int 1 v] }).objs.size := by simpa using hb
    subst e
    exact I1.fpOk (Nat.le_refl _) (I1.hok.fresh (Nat.le_refl _))
def iRng1 (ta : TA) : TI := fun σ H R => ta σ H fun vs H1 => ∃ j : Int, vs = [.int j] ∧ -(2 ^ 62) ≤ j ∧ j < 2 ^ 62 ∧ R (Itr 0 j.toNat) H1
theorem pi_range1 {a : Expr} {ta : TA} {p pos : Pos} (hg : Gl X "range") (hm : X.mg "range" = none) (ha : PA X [a] ta) (hs : starEach [a] X.env = [(false, eval a X.env)] := by rfl) : PI X tg (.Call (.Name "range" p) [a] [] pos) (iRng1 ta) := by
  intro pins s σ H R I h
  refine Call_ (ld_blt I hg hm boot_range (PyProof.Rows.callWith_type1 (thn (ha pos pins s σ H _ I h) fun us s1 ⟨vs, H1, I1, r1, q1⟩ => ?_) hs rfl))
  obtain ⟨j, e, q1, q2, q⟩ := q1
  subst e
  cases r1 with
  | cons r rr =>
    cases rr
    obtain ⟨t, rfl⟩ := r
    exact call_range_1 (range_it I1 (by omega) (by omega) q1 q2 (by simpa using q))
def tFor (wi : TI) (g : TG) (tb : TS) : TS := fun D σ H => wi σ H fun J H1 => ∃ W : Nat → Nat → St → Hp → Prop, (∃ m, W 0 m σ H1) ∧ ∀ i m σ H, W i m σ H →
  (J.stop i H ∧ D.nx σ H) ∨ (J.go i H ∧ ∃ N : St → Hp → Prop, (∀ σ' H', N σ' H' → ∃ m', m' < m ∧ W (i + 1) m' σ' H') ∧ ∀ x H', J.yld i H x H' → g x σ H' fun σ2 H2 => tb { D with nx := N, ct := N, bk := D.nx } σ2 H2)
def pinsAt (fp : List Addr) (h : Heap) : List (Addr × Obj) := fp.filterMap fun b => (h.get? b).map fun o => (b, o)
theorem mem_pinsAt {fp : List Addr} {h : Heap} {b : Addr} {o : Obj} (hb : b ∈ fp) (e : h.get? b = some o) : (b, o) ∈ pinsAt fp h := List.mem_filterMap.mpr ⟨b, hb, by rw [e]; rfl⟩
theorem of_pinsAt {fp : List Addr} {h : Heap} {p : Addr × Obj} (hp : p ∈ pinsAt fp h) : p.1 ∈ fp ∧ h.get? p.1 = some p.2 := by
  obtain ⟨b, hb, e⟩ := List.mem_filterMap.mp hp
  cases q : h.get? b with
  | none => rw [q] at e; cases e
  | some o =>
    rw [q] at e
    have e' : (b, o) = p := Option.some.inj e
    subst e'
    exact ⟨hb, q⟩
theorem Inv.pinned {pins : List (Addr × Obj)} {σ : St} {H : Hp} {s : Shared} {fp : List Addr} (I : Inv X pins σ H s) (hf : ∀ b ∈ fp, FpOk X pins H b) (ho : ∀ b ∈ fp, ∃ o, s.heap.get? b = some o ∧ ∀ v, o.data ≠ .cell v) : Inv X (pins ++ pinsAt fp s.heap) σ H s :=
  I.pins_of fun p hp => (List.mem_append.mp hp).elim (fun z => I.pin p (List.mem_append_right _ z)) fun z => by
    obtain ⟨hb, e⟩ := of_pinsAt z
    obtain ⟨f0, f1, f2, _⟩ := hf p.1 hb
    obtain ⟨o, e', d⟩ := ho p.1 hb
    rw [e] at e'; cases e'
    exact ⟨e, f0, f1, f2, d⟩
theorem Inv.unpinned {pins pl : List (Addr × Obj)} {σ : St} {H : Hp} {s : Shared} (I : Inv X (pins ++ pl) σ H s) : Inv X pins σ H s := I.pins_of fun p hp => I.pin p (List.mem_append_right _ (List.mem_append_left _ hp))
theorem ps_for {iter : Expr} {body : List Stmt} {wi : TI} {g : TG} {tb : TS} {pos : Pos} (hp : PassesOwn (model X.prog X.w) X.A X.env X.xe) (hc : X.calm = true) (hi : PI X tg iter wi) (hg : PG X tg g) (hb : PSs X body tb)
    (hs : ∀ x, foldedSetIterable iter X.env x = pure x := by intro _; rfl) : PS X (.For tg iter body [] pos) (tFor wi g tb) := by
  intro pins s σ H D I h
  refine wpAny_For (thn (hi pins s σ H _ I h) fun v s1 h1 => thn h1 fun itv s2 h2 => ?_) hs
  obtain ⟨it, fp, tn, J, H2, e, I2, T, st2, f2, W, ⟨m0, w0⟩, turn⟩ := h2
  subst e
  have stat : ∀ {H' : Hp}, (∀ b ∈ fp, H' b = none) → ∀ b ∈ fp, FpOk X pins H' b := fun hn b hb => ⟨hn b hb, (f2 b hb).2⟩
  refine codeAny_forLoop_any (fun n s' => ∃ i σ' H', Inv X pins σ' H' s' ∧ tn i s'.heap ∧ (∀ b ∈ fp, H' b = none) ∧ W i n σ' H') ?_ m0 ⟨0, σ, H2, I2, st2, fun b hb => (f2 b hb).1, w0⟩
  rintro n s3 ⟨i, σ3, H3, I3, st3, fr3, w3⟩
  rcases turn i n σ3 H3 w3 with ⟨stop, qn⟩ | ⟨go, N, hN, step⟩
  · refine wpAny_passesOwn hp (thn (T.done X rfl rfl rfl hc i pins s3 σ3 H3 X.xe I3 (stat fr3) st3 stop) fun r s4 ⟨hr, I4⟩ => ?_)
    subst hr
    exact wpAny_execs_nil ⟨σ3, H3, I4, qn⟩
  · refine wpAny_passesOwn hp (thn (T.item X rfl rfl rfl hc i pins s3 σ3 H3 X.xe I3 (stat fr3) st3 go) fun r s4 ⟨u, hr, h4⟩ => ?_)
    subst hr
    refine wpAny_passesOwn hp (thn h4 fun _ s5 ⟨x, H5, I5, r5, y5, st5, fr5⟩ => ?_)
    have I5' := I5.pinned (stat fr5) (T.obj _ _ st5)
    refine wpAny_passesOwn hp (thn (hg _ s5 σ3 H5 x u _ I5' r5 (step x H5 y5)) fun _ s6 ⟨σ6, H6, I6, q6⟩ => ?_)
    refine wpAny_passesOwn hp (thn (hb _ s6 σ6 H6 _ I6 q6) fun f s7 q7 => ?_)
    have again : ∀ {σ7 : St} {H7 : Hp}, Inv X (pins ++ pinsAt fp s5.heap) σ7 H7 s7 → N σ7 H7 → ∃ m, m < n ∧ ∃ i σ' H', Inv X pins σ' H' s7 ∧ tn i s7.heap ∧ (∀ b ∈ fp, H' b = none) ∧ W i m σ' H' := fun {σ7 H7} I7 n7 => by
      obtain ⟨m', hm, w7⟩ := hN σ7 H7 n7
      refine ⟨m', hm, i + 1, σ7, H7, I7.unpinned, T.keep _ _ _ st5 fun b hb o e => (I7.pin (b, o) (List.mem_append_right _ (List.mem_append_right _ (mem_pinsAt hb e)))).1, fun b hb => ?_, w7⟩
      obtain ⟨o, e, d⟩ := T.obj _ _ st5 b hb
      exact (I7.pin (b, o) (List.mem_append_right _ (List.mem_append_right _ (mem_pinsAt hb e)))).2.1
    cases f with
    | next => obtain ⟨σ7, H7, I7, n7⟩ := q7; exact again I7 n7
    | cont => obtain ⟨σ7, H7, I7, n7⟩ := q7; exact again I7 n7
    | brk => obtain ⟨σ7, H7, I7, q7⟩ := q7; exact ⟨σ7, H7, I7.unpinned, q7⟩
    | ret v => obtain ⟨x7, σ7, H7, I7, r7, q7⟩ := q7; exact ⟨x7, σ7, H7, I7.unpinned, r7, q7⟩
end
end L2
namespace L2
open PySem PySem.Spec PyProof.Rows
abbrev R2 := V → V → Hp → VK → Prop
def OpR (X : Cx) (f : Value → Value → Sem Value) (r : R2) : Prop :=
  ∀ (pins : List (Addr × Obj)) (s : Shared) (σ : St) (H : Hp) (x y : V) (v u : Value) (Q : VK), Inv X pins σ H s → RelV x v → RelV y u → r x y H Q →
    wpAny (model X.prog X.w) X.A (f v u) (EP X pins σ Q) X.xe s
def UnR (X : Cx) (f : Value → Sem Value) (r : V → Hp → VK → Prop) : Prop :=
  ∀ (pins : List (Addr × Obj)) (s : Shared) (σ : St) (H : Hp) (x : V) (v : Value) (Q : VK), Inv X pins σ H s → RelV x v → r x H Q →
    wpAny (model X.prog X.w) X.A (f v) (EP X pins σ Q) X.xe s
def CallR (X : Cx) (f : Value) (r : List V → Hp → VK → Prop) : Prop :=
  ∀ (pins : List (Addr × Obj)) (s : Shared) (σ : St) (H : Hp) (xs : List V) (us : List Value) (Q : VK), Inv X pins σ H s → Vals xs us → r xs H Q →
    wpAny (model X.prog X.w) X.A (call f us) (EP X pins σ Q) X.xe s
def tOp (r : R2) (ta tb : TE) : TE := fun σ H Q => ta σ H fun x H1 => tb σ H1 fun y H2 => r x y H2 Q
def tUn (r : V → Hp → VK → Prop) (ta : TE) : TE := fun σ H Q => ta σ H fun x H1 => r x H1 Q
def rI (C : Int → Int → Prop) (g : Int → Int → V) : R2 := fun x y H Q => ∃ i j, x = .int i ∧ y = .int j ∧ C i j ∧ Q (g i j) H
def rI0 (g : Int → Int → V) : R2 := fun x y H Q => ∃ i j, x = .int i ∧ y = .int j ∧ Q (g i j) H
def rU (g : Int → V) : V → Hp → VK → Prop := fun x H Q => ∃ i, x = .int i ∧ Q (g i) H
section
variable {X : Cx} {a b c : Expr} {ta tb tc : TE} {pos : Pos}
theorem binT (ha : PE X a ta) (hb : PE X b tb) {pins : List (Addr × Obj)} {s : Shared} {σ : St} {H : Hp} {R : V → V → Hp → Prop} (I : Inv X pins σ H s)
    (h : ta σ H fun x H1 => tb σ H1 fun y H2 => R x y H2) {Q : Value → Shared → Prop} {f : Value → Value → Sem Value}
    (hf : ∀ v u s2 x y H2, Inv X pins σ H2 s2 → RelV x v → RelV y u → R x y H2 → wpAny (model X.prog X.w) X.A (f v u) Q X.xe s2) :
    wpAny (model X.prog X.w) X.A (eval a X.env) (fun v s₁ => wpAny (model X.prog X.w) X.A (eval b X.env) (fun u s₂ => wpAny (model X.prog X.w) X.A (f v u) Q X.xe s₂) X.xe s₁) X.xe s := by
  refine thn (ha pins s σ H _ I h) fun v s1 ⟨x, H1, I1, r1, q1⟩ => ?_
  refine thn (hb pins s1 σ H1 _ I1 q1) fun u s2 ⟨y, H2, I2, r2, q2⟩ => ?_
  exact hf v u s2 x y H2 I2 r1 r2 q2
theorem pe_op {op : Operator} {r : R2} (ho : OpR X (binaryOp op) r) (ha : PE X a ta) (hb : PE X b tb) : PE X (.BinOp a op b pos) (tOp r ta tb) := by
  intro pins s σ H Q I h
  exact wpAny_BinOp (binT ha hb I h fun v u s2 x y H2 I2 rx ry q => ho pins s2 σ H2 x y v u Q I2 rx ry q)
theorem pe_un {op : UnaryOp} {r : V → Hp → VK → Prop} (ho : UnR X (unaryOp op) r) (ha : PE X a ta) : PE X (.UnaryOp op a pos) (tUn r ta) := by
  intro pins s σ H Q I h
  exact UnaryOp_ (thn (ha pins s σ H _ I h) fun v s1 ⟨x, H1, I1, r1, q1⟩ => ho pins s1 σ H1 x v Q I1 r1 q1)
theorem opI {f : Value → Value → Sem Value} {C : Int → Int → Prop} {g : Int → Int → Int}
    (rule : ∀ (i j : Int) (t u : Tok) (s : Shared) (Q : Value → Shared → Prop) (E : Value → Shared → Prop), C i j → Q (.int (g i j) s.toks) { s with toks := s.toks + 1 } → wpAny (model X.prog X.w) X.A (f (.int i t) (.int j u)) Q E s) :
    OpR X f (rI C fun i j => .int (g i j)) := by
  intro pins s σ H x y v u Q I rx ry h
  obtain ⟨i, j, rfl, rfl, hc, q⟩ := h
  obtain ⟨t, rfl⟩ := rx
  obtain ⟨t', rfl⟩ := ry
  exact rule i j t t' s _ _ hc ⟨.int (g i j), H, I.tok _, ⟨_, rfl⟩, q⟩
theorem opI0 {f : Value → Value → Sem Value} {g : Int → Int → Int}
    (rule : ∀ (i j : Int) (t u : Tok) (s : Shared) (Q : Value → Shared → Prop) (E : Value → Shared → Prop), Q (.int (g i j) s.toks) { s with toks := s.toks + 1 } → wpAny (model X.prog X.w) X.A (f (.int i t) (.int j u)) Q E s) :
    OpR X f (rI0 fun i j => .int (g i j)) := by
  intro pins s σ H x y v u Q I rx ry h
  obtain ⟨i, j, rfl, rfl, q⟩ := h
  obtain ⟨t, rfl⟩ := rx
  obtain ⟨t', rfl⟩ := ry
  exact rule i j t t' s _ _ ⟨.int (g i j), H, I.tok _, ⟨_, rfl⟩, q⟩
theorem opB0 {f : Value → Value → Sem Value} {g : Int → Int → Bool}
    (rule : ∀ (i j : Int) (t u : Tok) (s : Shared) (Q : Value → Shared → Prop) (E : Value → Shared → Prop), Q (.bool (g i j)) s → wpAny (model X.prog X.w) X.A (f (.int i t) (.int j u)) Q E s) :
    OpR X f (rI0 fun i j => .bl (g i j)) := by
  intro pins s σ H x y v u Q I rx ry h
  obtain ⟨i, j, rfl, rfl, q⟩ := h
  obtain ⟨t, rfl⟩ := rx
  obtain ⟨t', rfl⟩ := ry
  exact rule i j t t' s _ _ ⟨.bl (g i j), H, I, rfl, q⟩
def CDiv (i j : Int) : Prop := 0 < j ∧ j < 1073741824
def CMul (i j : Int) : Prop := (-(2 ^ 64) < i ∧ i < 2 ^ 64) ∨ (-(2 ^ 64) < j ∧ j < 2 ^ 64)
theorem CMul.ok {i j : Int} (h : CMul i j) : IntMulOk i j := by
  rcases h with ⟨h1, h2⟩ | ⟨h1, h2⟩
  · exact .of_left (intBits_le_64 h1 h2)
  · exact .of_right (intBits_le_64 h1 h2)
theorem op_add : OpR X (binaryOp .Add) (rI0 fun i j => .int (i + j)) := opI0 fun _ _ _ _ _ _ _ q => add_int q
theorem op_sub : OpR X (binaryOp .Sub) (rI0 fun i j => .int (i - j)) := opI0 fun _ _ _ _ _ _ _ q => sub_int q
theorem op_mul : OpR X (binaryOp .Mult) (rI CMul fun i j => .int (i * j)) := opI fun _ _ _ _ _ _ _ hc q => mul_int q hc.ok
theorem op_fdiv : OpR X (binaryOp .FloorDiv) (rI CDiv fun i j => .int (i / j)) := opI fun i j _ _ _ _ _ hc q => by
  have h1 : (0 : Int) < j := hc.1
  have h2 : j < 1073741824 := hc.2
  exact floordiv_int (by omega) (by rw [Int.fdiv_eq_ediv_of_nonneg i (by omega)]; exact q) (.inl (PyProof.noPylong_small (by omega)))
theorem op_mod : OpR X (binaryOp .Mod) (rI (fun _ j => 0 < j) fun i j => .int (i % j)) := opI fun i j _ _ _ _ _ hc q => by
  have h1 : (0 : Int) < j := hc
  exact mod_int' (by omega) (by rw [Int.fmod_eq_emod_of_nonneg i (by omega)]; exact q)
theorem unI {f : Value → Sem Value} {g : Int → Int}
    (rule : ∀ (i : Int) (t : Tok) (s : Shared) (Q : Value → Shared → Prop) (E : Value → Shared → Prop), Q (.int (g i) s.toks) { s with toks := s.toks + 1 } → wpAny (model X.prog X.w) X.A (f (.int i t)) Q E s) :
    UnR X f (rU fun i => .int (g i)) := by
  intro pins s σ H x v Q I rx h
  obtain ⟨i, rfl, q⟩ := h
  obtain ⟨t, rfl⟩ := rx
  exact rule i t s _ _ ⟨.int (g i), H, I.tok _, ⟨_, rfl⟩, q⟩
theorem un_neg : UnR X (unaryOp .USub) (rU fun i => .int (-i)) := unI fun _ _ _ _ _ q => neg_int q
end
def scal : V → V → Bool
  | .non, .non => true | .non, .int _ => true | .int _, .non => true | .non, .bl _ => true | .bl _, .non => true | .non, .str _ => true | .str _, .non => true
  | .int _, .int _ => true | .bl _, .bl _ => true | .str _, .str _ => true | .byt _, .byt _ => true
  | .int _, .str _ => true | .str _, .int _ => true | .bl _, .str _ => true | .str _, .bl _ => true
  | _, _ => false
def rEq : R2 := fun x y H Q => scal x y = true ∧ Q (.bl (decide (x = y))) H
def rNe : R2 := fun x y H Q => scal x y = true ∧ Q (.bl (!decide (x = y))) H
theorem dec_int {i j : Int} : decide (V.int i = V.int j) = (i == j) := by
  rw [Bool.eq_iff_iff]
  simp
theorem dec_bl {i j : Bool} : decide (V.bl i = V.bl j) = (i == j) := by
  rw [Bool.eq_iff_iff]
  simp
theorem dec_str {i j : Str} : decide (V.str i = V.str j) = (i == j) := by
  rw [Bool.eq_iff_iff]
  simp
theorem dec_byt {i j : Array UInt8} : decide (V.byt i = V.byt j) = (i.toList == j.toList) := by
  rw [Bool.eq_iff_iff]
  cases i
  cases j
  simp
section
variable {X : Cx} {a b c : Expr} {ta tb tc : TE} {pos : Pos}
theorem fin_bl {pins : List (Addr × Obj)} {σ : St} {H : Hp} {s : Shared} {Q : VK} {k k' : Bool} (I : Inv X pins σ H s) (q : Q (.bl k) H) (e : k = k') : EP X pins σ Q (.bool k') s := by
  subst e
  exact ⟨.bl k, H, I, rfl, q⟩
theorem op_eq : OpR X (compareOp .Eq) rEq := by
  intro pins s σ H x y v u Q I rx ry h
  obtain ⟨hs, q⟩ := h
  cases x with
  | non =>
    cases rx
    cases y with
    | non => cases ry; exact PySem.EqNone.eq_none_none (fin_bl I q (by simp))
    | bl j => cases ry; exact PySem.EqNone.eq_none_bool (fin_bl I q (by simp))
    | int j => obtain ⟨t', rfl⟩ := ry; exact PySem.EqNone.eq_none_int (fin_bl I q (by simp))
    | str j => obtain ⟨t', rfl⟩ := ry; exact PySem.EqNone.eq_none_str (fin_bl I q (by simp))
    | _ => exact absurd (show false = true from hs) Bool.false_ne_true
  | bl i =>
    cases rx
    cases y with
    | non => cases ry; exact PySem.EqNone.eq_bool_none (fin_bl I q (by simp))
    | bl j => cases ry; exact eq_bool (fin_bl I q dec_bl)
    | str j => obtain ⟨t', rfl⟩ := ry; exact PySem.EqMixed.eq_bool_str (fin_bl I q (by simp))
    | _ => exact absurd (show false = true from hs) Bool.false_ne_true
  | int i =>
    obtain ⟨t, rfl⟩ := rx
    cases y with
    | non => cases ry; exact PySem.EqNone.eq_int_none (fin_bl I q (by simp))
    | int j => obtain ⟨t', rfl⟩ := ry; exact eq_int (fin_bl I q dec_int)
    | str j => obtain ⟨t', rfl⟩ := ry; exact PySem.EqMixed.eq_int_str (fin_bl I q (by simp))
    | _ => exact absurd (show false = true from hs) Bool.false_ne_true
  | str i =>
    obtain ⟨t, rfl⟩ := rx
    cases y with
    | non => cases ry; exact PySem.EqNone.eq_str_none (fin_bl I q (by simp))
    | bl j => cases ry; exact PySem.EqMixed.eq_str_bool (fin_bl I q (by simp))
    | int j => obtain ⟨t', rfl⟩ := ry; exact PySem.EqMixed.eq_str_int (fin_bl I q (by simp))
    | str j => obtain ⟨t', rfl⟩ := ry; exact eq_str (fin_bl I q dec_str)
    | _ => exact absurd (show false = true from hs) Bool.false_ne_true
  | byt i =>
    obtain ⟨t, rfl⟩ := rx
    cases y with
    | byt j => obtain ⟨t', rfl⟩ := ry; exact PySem.W.eq_bytes (fin_bl I q dec_byt)
    | _ => exact absurd (show false = true from hs) Bool.false_ne_true
  | _ => cases y <;> exact absurd (show false = true from hs) Bool.false_ne_true
theorem op_ne : OpR X (compareOp .NotEq) rNe := by
  intro pins s σ H x y v u Q I rx ry h
  obtain ⟨hs, q⟩ := h
  cases x with
  | non =>
    cases rx
    cases y with
    | non => cases ry; exact PySem.EqNone.ne_none_none (fin_bl I q (by simp))
    | bl j => cases ry; exact PySem.EqNone.ne_none_bool (fin_bl I q (by simp))
    | int j => obtain ⟨t', rfl⟩ := ry; exact PySem.EqNone.ne_none_int (fin_bl I q (by simp))
    | str j => obtain ⟨t', rfl⟩ := ry; exact PySem.EqNone.ne_none_str (fin_bl I q (by simp))
    | _ => exact absurd (show false = true from hs) Bool.false_ne_true
  | bl i =>
    cases rx
    cases y with
    | non => cases ry; exact PySem.EqNone.ne_bool_none (fin_bl I q (by simp))
    | bl j => cases ry; exact ne_bool (fin_bl I q (congrArg not dec_bl))
    | str j => obtain ⟨t', rfl⟩ := ry; exact PySem.EqMixed.ne_bool_str (fin_bl I q (by simp))
    | _ => exact absurd (show false = true from hs) Bool.false_ne_true
  | int i =>
    obtain ⟨t, rfl⟩ := rx
    cases y with
    | non => cases ry; exact PySem.EqNone.ne_int_none (fin_bl I q (by simp))
    | int j => obtain ⟨t', rfl⟩ := ry; exact ne_int (fin_bl I q (congrArg not dec_int))
    | str j => obtain ⟨t', rfl⟩ := ry; exact PySem.EqMixed.ne_int_str (fin_bl I q (by simp))
    | _ => exact absurd (show false = true from hs) Bool.false_ne_true
  | str i =>
    obtain ⟨t, rfl⟩ := rx
    cases y with
    | non => cases ry; exact PySem.EqNone.ne_str_none (fin_bl I q (by simp))
    | bl j => cases ry; exact PySem.EqMixed.ne_str_bool (fin_bl I q (by simp))
    | int j => obtain ⟨t', rfl⟩ := ry; exact PySem.EqMixed.ne_str_int (fin_bl I q (by simp))
    | str j => obtain ⟨t', rfl⟩ := ry; exact ne_str (fin_bl I q (congrArg not dec_str))
    | _ => exact absurd (show false = true from hs) Bool.false_ne_true
  | byt i =>
    obtain ⟨t, rfl⟩ := rx
    cases y with
    | byt j => obtain ⟨t', rfl⟩ := ry; exact PySem.W.ne_bytes (fin_bl I q (congrArg not dec_byt))
    | _ => exact absurd (show false = true from hs) Bool.false_ne_true
  | _ => cases y <;> exact absurd (show false = true from hs) Bool.false_ne_true
theorem op_lt : OpR X (compareOp .Lt) (rI0 fun i j => .bl (decide (i < j))) := opB0 fun _ _ _ _ _ _ _ q => lt_int q
theorem op_le : OpR X (compareOp .LtE) (rI0 fun i j => .bl (decide (i ≤ j))) := opB0 fun _ _ _ _ _ _ _ q => le_int q
theorem op_gt : OpR X (compareOp .Gt) (rI0 fun i j => .bl (decide (j < i))) := opB0 fun _ _ _ _ _ _ _ q => gt_int q
theorem op_isN : OpR X (compareOp .Is) (fun x y H Q => y = .non ∧ Q (.bl (decide (x = .non))) H) := by
  intro pins s σ H x y v u Q I rx ry h
  obtain ⟨rfl, q⟩ := h
  cases ry
  refine is_none_gen (fin_bl I q ?_)
  cases x <;> first
    | (cases rx; rfl)
    | (obtain ⟨t, rfl⟩ := rx; rfl)
theorem nomark (b : Expr) {op : CmpOp} (h : op ≠ .In := by decide) (h2 : op ≠ .NotIn := by decide) : behindInMarks op b = false := by
  have e1 : (op == CmpOp.In) = false := by cases op <;> first | rfl | exact absurd rfl h
  have e2 : (op == CmpOp.NotIn) = false := by cases op <;> first | rfl | exact absurd rfl h2
  cases b <;> simp [behindInMarks, e1, e2]
theorem pe_cmpR {op : CmpOp} {r : R2} (ho : OpR X (compareOp op) r) (ha : PE X a ta) (hb : PE X b tb) (hm : behindInMarks op b = false) : PE X (.Compare a [op] [b] pos) (tOp r ta tb) := by
  intro pins s σ H Q I h
  exact wpAny_Compare1 (binT ha hb I h fun v u s2 x y H2 I2 rx ry q => ho pins s2 σ H2 x y v u Q I2 rx ry q) hm
def tTest (t : TE) : TT := fun σ H Q => t σ H fun x H' => ∃ k, x = .bl k ∧ Q k H'
theorem pt_cmpR {op : CmpOp} {r : R2} (ho : OpR X (compareOp op) r) (ha : PE X a ta) (hb : PE X b tb) (hm : behindInMarks op b = false) : PT X (.Compare a [op] [b] pos) (tTest (tOp r ta tb)) := by
  intro pins s σ H Q I h
  refine wpAny_isTrue_Compare1 (thn (ha pins s σ H _ I h) fun v s1 ⟨x, H1, I1, r1, q1⟩ => thn (hb pins s1 σ H1 _ I1 q1) fun u s2 ⟨y, H2, I2, r2, q2⟩ =>
    thn (ho pins s2 σ H2 x y v u _ I2 r1 r2 q2) fun c s3 ⟨z, H3, I3, r3, k, e, q3⟩ => ?_) hm
  subst e
  cases r3
  exact wpAny_truthy_bool ⟨H3, I3, q3⟩
def tChain (r r' : R2) (ta tb tc : TE) : TE := fun σ H Q => ta σ H fun x H1 => tb σ H1 fun y H2 => r x y H2 fun z H3 => ∃ k, z = .bl k ∧
  (if k = true then tc σ H3 fun w' H4 => r' y w' H4 Q else Q (.bl false) H3)
theorem pe_chain {op op' : CmpOp} {r r' : R2} (ho : OpR X (compareOp op) r) (ho' : OpR X (compareOp op') r') (ha : PE X a ta) (hb : PE X b tb) (hc : PE X c tc)
    (hm : lastMarks [op, op'] [b, c] = false := by with_unfolding_all rfl) : PE X (.Compare a [op, op'] [b, c] pos) (tChain r r' ta tb tc) := by
  intro pins s σ H Q I h
  refine Compare_chain (thn (ha pins s σ H _ I h) fun v s1 ⟨x, H1, I1, r1, q1⟩ => chain_link (thn (hb pins s1 σ H1 _ I1 q1) fun u s2 ⟨y, H2, I2, r2, q2⟩ =>
    thn (ho pins s2 σ H2 x y v u _ I2 r1 r2 q2) fun d s3 ⟨z, H3, I3, r3, k, e, q3⟩ => ?_)) hm
  subst e
  cases r3
  refine wpAny_truthy_bool ?_
  cases k with
  | false => exact ite_ff ⟨.bl false, H3, I3, rfl, q3⟩
  | true => exact ite_tt (chain_last (thn (hc pins s3 σ H3 _ I3 q3) fun w' s4 ⟨z', H4, I4, r4, q4⟩ => ho' pins s4 σ H4 y z' u w' Q I4 r2 r4 q4))
theorem line63 : (sizeLine : Nat) < 2 ^ 63 := by rw [sizeLine_eq]; decide
theorem vals1 {x : V} {us : List Value} (r : Vals [x] us) : ∃ u, us = [u] ∧ RelV x u := by
  cases r with
  | cons r1 r2 => cases r2; exact ⟨_, rfl, r1⟩
theorem vals2 {x y : V} {us : List Value} (r : Vals [x, y] us) : ∃ u w', us = [u, w'] ∧ RelV x u ∧ RelV y w' := by
  cases r with
  | cons r1 r2 =>
    cases r2 with
    | cons r3 r4 => cases r4; exact ⟨_, _, rfl, r1, r3⟩
theorem call_min2 (hc : X.calm = true) : CallR X (.builtin "min") (fun xs H Q => ∃ i j, xs = [.int i, .int j] ∧ Q (.int (if j < i then j else i)) H) := by
  intro pins s σ H xs us Q I r h
  obtain ⟨i, j, rfl, q⟩ := h
  obtain ⟨u, w', rfl, ⟨t, rfl⟩, ⟨t', rfl⟩⟩ := vals2 r
  refine min_two_ints (I.ok.hd hc) fun h' tk k => ⟨_, H, I.kept k, ?_, q⟩
  by_cases hj : j < i
  · rw [if_pos hj, if_pos hj]; exact ⟨_, rfl⟩
  · rw [if_neg hj, if_neg hj]; exact ⟨_, rfl⟩
end
end L2
namespace L2
open PySem PySem.Spec PyProof.Rows
theorem lookIn_ns {h : Heap} {dx : Addr} {mA : Str → Option Value} (n : h.Ns1 dx mA) : ∃ od, h.get? dx = some od ∧ ∀ name, PySem.W.lookIn name od = some (mA name) := by
  obtain ⟨o, es, ep, ho, hd, hk, _, hm⟩ := n
  refine ⟨o, ho, fun name => ?_⟩
  have e := hm name
  unfold nsFind findBy at e
  rw [← Array.find?_toList] at e
  unfold PySem.W.lookIn
  rw [hd]
  dsimp only
  split
  · rename_i y q
    rw [q] at e
    exact congrArg some e
  · rename_i q
    rw [q] at e
    have a : es.toList.any (·.refKey) = false := by
      rw [List.any_eq_false]
      intro y hy
      obtain ⟨z, t, hkey⟩ := hk y (Array.mem_toList_iff.mp hy)
      simp [DictEntry.refKey, hkey]
    have a' : ¬ es.toList.any (·.refKey) = true := by rw [a]; exact Bool.false_ne_true
    rw [if_neg a']
    exact congrArg some e
section
variable {prog : Program} {w : World} {A : Around} {E : Value → Shared → Prop} {s : Shared} {K : PySem.W.Frag} {x dx C f : Addr} {mA : Str → Option Value} {name : Str} {v : Value}
end
theorem RelO.some_of {v : V} {o : Option Value} (r : RelO (some v) o) : ∃ u, o = some u ∧ RelV v u := by
  cases o with
  | none => exact (show False from r).elim
  | some u => exact ⟨u, rfl, r⟩
theorem handed_of {v : V} {u : Value} (r : RelV v u) : PySem.W.handedIn u = true := by
  cases v with
  | non => cases (show u = Value.none from r); rfl
  | bl b => cases (show u = Value.bool b from r); rfl
  | int i => obtain ⟨t, e⟩ := (show ∃ t, u = Value.int i t from r); cases e; rfl
  | str x => obtain ⟨t, e⟩ := (show ∃ t, u = Value.str x t from r); cases e; rfl
  | byt b => obtain ⟨t, e⟩ := (show ∃ t, u = Value.bytes b t from r); cases e; rfl
  | flt b => obtain ⟨t, e⟩ := (show ∃ t, u = Value.float b t from r); cases e; rfl
  | ref a => cases (show u = Value.ref a from r); rfl
  | ty n => cases (show u = Value.type n from r); rfl
section
variable {P : Program} {w : World} {H H' : Hp} {h h' : Heap} {a C dx : Addr} {fs fs' : List (Str × V)}
end
structure Cls (K : PySem.W.Frag) (C : Addr) : Prop where
  pg : PySem.W.plainGet K C Str.empty = true
  hd : PySem.W.hasDictIn K C = true
  po : PySem.W.plainOver K C = true
  sa : PySem.W.findIn K (.ref C) "__setattr__" = some (some (.builtin "object.__setattr__"))
section
variable {X : Cx} {pins : List (Addr × Obj)} {σ : St} {H : Hp} {s : Shared} {a C dx : Addr} {fs : List (Str × V)} {f : Str} {v : V} {A : Around} {E : Value → Shared → Prop}
theorem attr_of {prog : Program} {w : World} {env : Env} {e : Expr} {f : Str} {pos : Pos} {s : Shared} {Q : Value → Shared → Prop} (hb : attributeBase e f env (eval e env) = eval e env)
    (h : wpAny (model prog w) A (eval e env) (fun o s₁ => wpAny (model prog w) A (getAttr o f true) Q E s₁) E s) : wpAny (model prog w) A (eval (.Attribute e f pos) env) Q E s :=
  Attribute_any_ h (by rw [arm_eval_Attribute, hb])
end
section
variable {X : Cx} {o e value : Expr} {f : Str} {pos pos' tpos : Pos} {ta tv : TE}
end
section
variable {X : Cx} {pins : List (Addr × Obj)} {σ : St} {H : Hp} {s : Shared} {A : Around} {E : Value → Shared → Prop} {Q : Value → Shared → Prop} {c : Value} {b : Bool}
end
end L2
namespace L2
open PySem PySem.Spec PyProof.Rows
structure Room (k : Nat) (A : Around) : Prop where
  hd : A.handled = none
  dp : A.depth + 3 * k + 5 < recursionLimit
  un : A.units + 16 * k + 200 < cLine
theorem Room.mono {j k : Nat} {A : Around} (r : Room k A) (h : j ≤ k) : Room j A := ⟨r.hd, by have := r.dp; omega, by have := r.un; omega⟩
theorem Room.deeper {k : Nat} {A : Around} (r : Room (k + 1) A) (env : Env) : Room k (A.deeper env) :=
  ⟨r.hd, by have := r.dp; show A.depth + 1 + 3 * k + 5 < _; omega, by have := r.un; show A.units + 3 + 16 * k + 200 < _; omega⟩
theorem make_depth {A : Around} {C : Addr} {us : List Value} {kw : List (Str × Value)} : (A.under (.builtin "type.__call__" ⟨.ref C :: us, kw⟩)).depth = A.depth + 1 := by
  first | rfl | simp [Around.under, Code.weight, Code.isCreation, Code.isGuard, Code.isCaller, Code.frames, Code.isFrame, guardIds]
theorem make_units {A : Around} {C : Addr} {us : List Value} {kw : List (Str × Value)} : (A.under (.builtin "type.__call__" ⟨.ref C :: us, kw⟩)).units = A.units + 1 := by
  first | rfl | simp [Around.under, Code.cUnits, Code.frames, Code.isFrame]
theorem Room.make {k : Nat} {A : Around} (r : Room (k + 1) A) (C : Addr) (us : List Value) (kw : List (Str × Value)) : Room k (A.under (.builtin "type.__call__" ⟨.ref C :: us, kw⟩)) :=
  ⟨r.hd, by have := r.dp; rw [make_depth]; omega, by have := r.un; rw [make_units]; omega⟩
theorem Room.depth {k : Nat} {A : Around} (r : Room k A) : A.depth < recursionLimit := by have := r.dp; omega
theorem Room.units {k : Nat} {A : Around} (r : Room k A) : A.units + 64 < cLine := by have := r.un; omega
def tNil : TA := fun _ H Q => Q [] H
def tCons (ta : TE) (tr : TA) : TA := fun σ H Q => ta σ H fun x H1 => tr σ H1 fun xs H2 => Q (x :: xs) H2
section
variable {X : Cx} {e : Expr} {es : List Expr} {te : TE} {t : TA} {pos : Pos}
theorem pa_nil : PA X [] tNil := fun _ _ _ _ H Q I h => Calls.spliced_nil ⟨[], H, I, .nil, h⟩
theorem pa_cons (ha : PE X e te) (hr : PA X es t) (hs : starEach (e :: es) X.env = (false, eval e X.env) :: starEach es X.env := by rfl) : PA X (e :: es) (tCons te t) := by
  intro pos pins s σ H Q I h
  rw [hs]
  show wpAny _ _ (spliced ((false, eval e X.env) :: backTo pos (starEach es X.env))) _ _ s
  refine Calls.spliced_cons (thn (ha pins s σ H _ I h) fun u s1 ⟨x, H1, I1, r1, q1⟩ => ?_)
  exact thn (hr pos pins s1 σ H1 _ I1 q1) fun us s2 ⟨xs, H2, I2, r2, q2⟩ => ⟨x :: xs, H2, I2, .cons r1 r2, q2⟩
def tTup (t : TA) : TE := fun σ H Q => t σ H fun xs H1 => xs.length ≤ sizeLine ∧ ∀ p, H1 p = none → Q (.ref p) (upd H1 p (.tup xs))
def tLst (t : TA) : TE := fun σ H Q => t σ H fun xs H1 => xs.length ≤ sizeLine ∧ ∀ p, H1 p = none → Q (.ref p) (upd H1 p (.lst xs))
theorem pe_tup {x1} (h : PA X es t) : PE X (.Tuple es x1 pos) (tTup t) := by
  intro pins s σ H Q I hq
  refine wpAny_Tuple_spliced (thn (h pos pins s σ H _ I hq) fun us s1 ⟨xs, H1, I1, r, z, q⟩ => ⟨by rw [← r.length]; exact z, ?_⟩)
  have hf : H1 s1.heap.objs.size = none := I1.hok.fresh (Nat.le_refl _)
  refine ⟨.ref s1.heap.objs.size, upd H1 s1.heap.objs.size (.tup xs), I1.laid (t' := s1.toks) (fun b u e => Heap.get?_push_of_some _ e) (Nat.le_refl _) ?_, rfl, q _ hf⟩
  exact ⟨z, us, r, ⟨_, Heap.get?_push_size _ rfl, rfl, _, rfl⟩⟩
theorem pe_lst (h : PA X es t) : PE X (.List es pos) (tLst t) := by
  intro pins s σ H Q I hq
  refine wpAny_List_spliced (thn (h pos pins s σ H _ I hq) fun us s1 ⟨xs, H1, I1, r, z, q⟩ => ⟨by rw [← r.length]; exact z, ?_⟩)
  have hf : H1 s1.heap.objs.size = none := I1.hok.fresh (Nat.le_refl _)
  refine ⟨.ref s1.heap.objs.size, upd H1 s1.heap.objs.size (.lst xs), I1.laid (t' := s1.toks) (fun b u e => Heap.get?_push_of_some _ e) (Nat.le_refl _) ?_, rfl, q _ hf⟩
  exact ⟨z, us, 0, r, Heap.get?_push_size _ rfl⟩
end
abbrev Sp := List V → Hp → VK → XK → Prop
abbrev CXT := List Env → Hp → Shared → XK → Value → Shared → Prop
structure Env0 (P : Program) (w : World) (K : PySem.W.Frag) (mg : Str → Option Value) (base : Heap) (A : Around) (outer : List Env) (s : Shared) (H : Hp) : Prop where
  frames : A.frames = some outer
  mod : Mod K mg base
  bs : ∀ b o, base.get? b = some o → s.heap.get? b = some o ∧ H b = none
  bsz : base.objs.size ≤ s.heap.objs.size
  funs : s.heap.FunFrames base outer
  frf : ∀ b ∈ frs outer, H b = none
  hok : HOk P w H s.heap
  bare : AllBare s.gens
  tab : TabsIn K H
def CE (outer : List Env) (P : Program) (w : World) (H : Hp) (s : Shared) (Q : VK) (u : Value) (s' : Shared) : Prop :=
  ∃ v H', s'.os = s.os ∧ AllBare s'.gens ∧ Un (frs outer) [] H H' s.heap s'.heap ∧ HOk P w H' s'.heap ∧ RelV v u ∧ Q v H'
def CR (CX : CXT) (outer : List Env) (P : Program) (w : World) (H : Hp) (s : Shared) (Q : VK) (E : XK) (r : Result) (s' : Shared) : Prop :=
  match r with
  | .ok (.ret u) => CE outer P w H s Q u s'
  | .ok _ => False
  | .error e => CX outer H s E e s'
structure FnOk (P : Program) (w : World) (K : PySem.W.Frag) (mg : Str → Option Value) (base : Heap) (CX : CXT) (k : Nat) (f : Addr) (fd : FuncData) (ps : List Str) (sp : Sp) : Prop where
  len : ∀ vs H Q E, sp vs H Q E → vs.length = ps.length
  run : ∀ (A : Around) (outer : List Env) (s : Shared) (H : Hp) (args : Args) (us : List Value) (vs : List V) (Q : VK) (E : XK), Room k A → Env0 P w K mg base A outer s H → BindsTo s fd args (ps.zip us) → Vals vs us → sp vs H Q E →
    codeAny (model P w) A (.call (.ref f) args) (CR CX outer P w H s Q E) s
theorem FnOk.mono {P : Program} {w : World} {K : PySem.W.Frag} {mg : Str → Option Value} {base : Heap} {CX : CXT} {j k : Nat} {f : Addr} {fd : FuncData} {ps : List Str} {sp : Sp} (F : FnOk P w K mg base CX j f fd ps sp) (h : j ≤ k) :
    FnOk P w K mg base CX k f fd ps sp := ⟨F.len, fun A outer s H args us vs Q E hr => F.run A outer s H args us vs Q E (hr.mono h)⟩
theorem Env0.make {P : Program} {w : World} {K : PySem.W.Frag} {mg : Str → Option Value} {base : Heap} {A : Around} {outer : List Env} {s : Shared} {H : Hp} (e : Env0 P w K mg base A outer s H) (C : Addr) (us : List Value) (kw : List (Str × Value)) :
    Env0 P w K mg base (A.under (.builtin "type.__call__" ⟨.ref C :: us, kw⟩)) outer s H := ⟨by first | exact e.frames | (simpa [Around.under, Code.envs, Code.isFrame, pushEnvs] using e.frames), e.mod, e.bs, e.bsz, e.funs, e.frf, e.hok, e.bare, e.tab⟩
section
variable {X : Cx} {pins : List (Addr × Obj)} {σ : St} {H : Hp} {s s' : Shared}
theorem Inv.env0 (I : Inv X pins σ H s) : Env0 X.prog X.w X.K X.mg X.base X.A X.stack s H :=
  ⟨I.ok.frames, I.ok.mod, I.bs, Nat.le_trans I.ok.bsz I.sz, I.stack, I.stkFree, I.hok, I.bare, fun T q h => I.base.tbls T q (I.ok.tab T q h)⟩
theorem Inv.after {Q : VK} {u : Value} (I : Inv X pins σ H s) (h : CE X.stack X.prog X.w H s Q u s') : EP X pins σ Q u s' := by
  obtain ⟨v, H', os, bare, un, hok, r, q⟩ := h
  obtain ⟨hh, g, d, t, os'⟩ := s'
  obtain rfl : os' = s.os := os
  exact ⟨v, H', I.call (h' := hh) (g' := g) (d' := d) (t' := t) (ch := []) un hok bare (fun b z => absurd z (by simp)), r, q⟩
end
def tCall (sp : Sp) (dvs : List V) (E : XK) (t : TA) : TE := fun σ H Q => t σ H fun vs H1 => sp (vs ++ dvs) H1 Q E
def Binds (K : PySem.W.Frag) (fd : FuncData) (ps : List Str) (ds : List Value) : Prop :=
  ∀ (s : Shared) (us : List Value), K.In s.heap → (us ++ ds).length = ps.length → BindsTo s fd ⟨us, []⟩ (ps.zip (us ++ ds))
theorem Binds.all {K : PySem.W.Frag} {fd : FuncData} {ps : List Str} (h : ∀ us : List Value, us.length = ps.length → bindArgs fd ⟨us, []⟩ = pure (ps.zip us)) : Binds K fd ps [] := fun s us _ hl => by
  rw [List.append_nil] at hl ⊢
  exact .of_eq (h us hl)
def Passes (CX : CXT) (X : Cx) (E : XK) : Prop := ∀ (pins : List (Addr × Obj)) (σ : St) (H : Hp) (s : Shared) (e : Value) (s' : Shared), Inv X pins σ H s → CX X.stack H s E e s' → X.xe e s'
section
variable {X : Cx} {CX : CXT} {k : Nat} {f C : Addr} {fd : FuncData} {ps : List Str} {sp : Sp} {dvs : List V} {ds : List Value} {E : XK} {x m : Str} {p pos apos : Pos} {e o : Expr} {es : List Expr} {ta : TE} {t : TA}
theorem run_fn {pins : List (Addr × Obj)} {σ : St} {H : Hp} {s : Shared} {Q : VK} {us : List Value} {vs : List V} (F : FnOk X.prog X.w X.K X.mg X.base CX k f fd ps sp) (hr : Room k X.A) (hb : Binds X.K fd ps ds) (hd : Vals dvs ds) (hx : Passes CX X E)
    (I : Inv X pins σ H s) (r : Vals vs us) (h : sp (vs ++ dvs) H Q E) : wpAny (model X.prog X.w) X.A (call (.ref f) us) (EP X pins σ Q) X.xe s := by
  have r2 : Vals (vs ++ dvs) (us ++ ds) := r.append hd
  have hl : (us ++ ds).length = ps.length := by rw [← r2.length]; exact F.len _ _ _ _ h
  refine wpAny_call (codeAny_mono (F.run X.A X.stack s H ⟨us, []⟩ (us ++ ds) (vs ++ dvs) Q E hr I.env0 (hb s us I.kIn hl) r2 h) fun r s' hq => ?_)
  cases r with
  | error e => exact hx pins σ H s e s' I hq
  | ok fl =>
    cases fl with
    | ret u => exact I.after hq
    | next => exact False.elim hq
    | brk => exact False.elim hq
    | cont => exact False.elim hq
theorem pe_call (F : FnOk X.prog X.w X.K X.mg X.base CX k f fd ps sp) (hr : Room k X.A) (hg : Gl X x) (hm : X.mg x = some (.ref f)) (hk : PySem.W.keepIn X.K (.ref f) = true) (hb : Binds X.K fd ps ds) (hd : Vals dvs ds) (hx : Passes CX X E)
    (ha : PA X (e :: es) t) (hdb : (x == ("__debug__" : Str)) = false := by decide) (he : starEach (e :: es) X.env = (false, eval e X.env) :: starEach es X.env := by rfl) (hpl : (backTo pos (starEach es X.env)).any (·.1) = false := by rfl) :
    PE X (.Call (.Name x p) (e :: es) [] pos) (tCall sp dvs E t) := by
  intro pins s σ H Q I h
  refine wpAny_Call_Name_kw (ld_glob I hg hm ?_ hdb)
  refine PySem.W.callWith_K (h₀ := X.base) I.ok.mod.kin hk (thn (ha pos pins s σ H _ I h) fun us s1 ⟨vs, H1, I1, r, q⟩ => ⟨I1.kIn, ?_⟩) he hpl
  exact run_fn F hr hb hd hx I1 r q
end
section
variable {X : Cx} {CX : CXT} {k : Nat} {f C : Addr} {fd : FuncData} {ps ks : List Str} {sp : Sp} {E : XK} {x m : Str} {p pos apos kpos : Pos} {e o : Expr} {es : List Expr} {kws : List Keyword} {te ta : TE} {t tk : TA} {nm : Option Str}
variable {g : List Value → List Value → List Value} {gV : List V → List V → List V}
end
structure FnScope (N P : List Str) (sc : Scope) : Prop where
  kind : sc.kind = .function
  co : sc.isCoroutine = false
  gen : sc.isGenerator = false
  nd : N.Nodup
  pre : N.take P.length = P
  par : ∀ x ∈ P, sc.names.lookup x = some .local ∨ sc.names.lookup x = some .cell
  nofree : ∀ y ∈ sc.names, y.2 ≠ .free
theorem bindL_out {kindOf : Str → Option NameKind} {x : Str} : ∀ {binds : List (Str × Value)} {m : Str → Option Value}, (∀ v, (x, v) ∉ binds) → bindL kindOf binds m x = m x
  | [], _, _ => rfl
  | (n, v) :: r, m, h => by
    unfold bindL
    rw [bindL_out fun w hw => h w (List.mem_cons_of_mem _ hw)]
    split
    · have : x ≠ n := by rintro rfl; exact h v List.mem_cons_self
      simp [this]
    · rfl
theorem bindC_out {kindOf : Str → Option NameKind} {x : Str} : ∀ {binds : List (Str × Value)} {m : Str → Option Value}, (∀ v, (x, v) ∉ binds) → bindC kindOf binds m x = m x
  | [], _, _ => rfl
  | (n, v) :: r, m, h => by
    unfold bindC
    rw [bindC_out fun w hw => h w (List.mem_cons_of_mem _ hw)]
    split
    · rfl
    · have : x ≠ n := by rintro rfl; exact h v List.mem_cons_self
      simp [this]
theorem bindL_get {kindOf : Str → Option NameKind} {x : Str} {v : Value} : ∀ {P : List Str} {vs : List Value} {i : Nat} {m : Str → Option Value}, P.Nodup → P[i]? = some x → vs[i]? = some v → kindOf x = some .local →
    bindL kindOf (P.zip vs) m x = some v
  | [], _, _, _, _, h, _, _ => by simp at h
  | _ :: _, [], _, _, _, _, h, _ => by simp at h
  | p :: P, w :: vs, 0, m, nd, h1, h2, hk => by
    simp at h1 h2; subst h1; subst h2
    show bindL kindOf ((p, w) :: P.zip vs) m p = _
    unfold bindL
    rw [bindL_out fun v hv => (List.nodup_cons.mp nd).1 (List.of_mem_zip hv).1, if_pos hk]
    simp
  | p :: P, w :: vs, i + 1, m, nd, h1, h2, hk => by
    show bindL kindOf ((p, w) :: P.zip vs) m x = _
    unfold bindL
    exact bindL_get (i := i) (List.nodup_cons.mp nd).2 (by simpa using h1) (by simpa using h2) hk
theorem bindC_get {kindOf : Str → Option NameKind} {x : Str} {v : Value} : ∀ {P : List Str} {vs : List Value} {i : Nat} {m : Str → Option Value}, P.Nodup → P[i]? = some x → vs[i]? = some v → kindOf x ≠ some .local →
    bindC kindOf (P.zip vs) m x = some v
  | [], _, _, _, _, h, _, _ => by simp at h
  | _ :: _, [], _, _, _, _, h, _ => by simp at h
  | p :: P, w :: vs, 0, m, nd, h1, h2, hk => by
    simp at h1 h2; subst h1; subst h2
    show bindC kindOf ((p, w) :: P.zip vs) m p = _
    unfold bindC
    rw [bindC_out fun v hv => (List.nodup_cons.mp nd).1 (List.of_mem_zip hv).1, if_neg hk]
    simp
  | p :: P, w :: vs, i + 1, m, nd, h1, h2, hk => by
    show bindC kindOf ((p, w) :: P.zip vs) m x = _
    unfold bindC
    exact bindC_get (i := i) (List.nodup_cons.mp nd).2 (by simpa using h1) (by simpa using h2) hk
def start (N : List Str) (vs : List V) : St := vs.map some ++ List.replicate (N.length - vs.length) none
def cxOf (CX : CXT) (P : Program) (w : World) (K : PySem.W.Frag) (mg : Str → Option Value) (base : Heap) (N : List Str) (qual : Str) (scope : Scope) (f : Addr) (cd : Value) (A : Around) (outer : List Env) (s : Shared) (H : Hp) (E : XK) : Cx where
  prog := P
  w := w
  K := K
  mg := mg
  base := base
  A := A.deeper (envOfC qual scope s.heap.objs.size f cd)
  N := N
  s₀ := s
  H₀ := H
  env := envOfC qual scope s.heap.objs.size f cd
  outer := outer
  stack := envOfC qual scope s.heap.objs.size f cd :: outer
  ex := []
  calm := true
  fn := fun _ => true
  pn := []
  xe := fun e s' => wpAny (model P w) (A.deeper (envOfC qual scope s.heap.objs.size f cd)) (leaving (envOfC qual scope s.heap.objs.size f cd) e) (fun _ s'' => CX outer H s E e s'') (fun e' s'' => CX outer H s E e' s'') s'
theorem cell_has {sc : Scope} {n : Nat} {x : Str} (h : sc.names.lookup x = some .cell) : ∃ c, (cellsFrom n sc.names []).lookup x = some c := by
  have q := PySem.W.cellsFrom_some sc.names n [] (.inl h)
  exact Option.isSome_iff_exists.mp q
theorem inv_start {CX : CXT} {P : Program} {w : World} {K : PySem.W.Frag} {mg : Str → Option Value} {base : Heap} {N ps : List Str} {qual : Str} {scope : Scope} {f : Addr} {cd : Value} {A : Around} {outer : List Env} {s s1 : Shared} {H : Hp} {E : XK} {us : List Value} {vs : List V}
    (S : FnScope N ps scope) (hd : A.handled = none) (e0 : Env0 P w K mg base A outer s H) (hl : vs.length = ps.length) (r : Vals vs us)
    (x : InCallC s s.heap.objs.size (bindL (envOfC qual scope s.heap.objs.size f cd).kindOf (ps.zip us) fun _ => none) (cellsFrom (s.heap.objs.size + 1) scope.names []) (bindC (envOfC qual scope s.heap.objs.size f cd).kindOf (ps.zip us) fun _ => none) s1) :
    Inv (cxOf CX P w K mg base N qual scope f cd A outer s H E) [] (start N vs) H s1 := by
  have hpl : ps.length ≤ N.length := by have := congrArg List.length S.pre; rw [List.length_take] at this; omega
  obtain ⟨h1, tk, rfl, hk⟩ := x.done
  have noA : ∀ b : Addr, b ∉ (cxOf CX P w K mg base N qual scope f cd A outer s H E).ex := fun b z => absurd (show b ∈ ([] : List Addr) from z) (by simp)
  refine ⟨⟨e0.mod, S.kind, rfl, rfl, Nat.le_refl _, fun y z c h1 h2 => ?_, fun y hy => ?_, fun y c _ h => ?_, fun _ => hd, Around.frames_deeper e0.frames, .inr ⟨rfl, rfl⟩, fun b z => absurd z (noA b), e0.bs, e0.bsz, fun b _ _ => noA b, fun b z => absurd z (noA b), e0.funs, e0.frf, e0.tab⟩,
    rfl, e0.bare, Un.kept hk, ⟨_, x.toInCall.ns, fun i y v h1 h2 h3 => ?_⟩, fun y c h => ⟨_, x.cell y c h⟩, e0.hok.fresh (Nat.le_refl _), fun y c h => ?_, fun p hp => absurd (show p ∈ ([] : List (Addr × Obj)) from hp) (by simp), e0.hok.kept hk, ?_⟩
  · exact name_of_addr x.apart (PySem.mem_of_lookup h1) (PySem.mem_of_lookup h2)
  · have hy : scope.names.lookup y = some .cell ∨ scope.names.lookup y = some .free := hy
    rcases hy with hy | hy
    · exact cell_has hy
    · exact absurd rfl (S.nofree _ (PySem.mem_of_lookup hy))
  · exact Nat.le_of_lt (x.above y c (PySem.mem_of_lookup h))
  · have hi : i < vs.length := by
      unfold start at h2
      by_cases hi : i < vs.length
      · exact hi
      · rw [List.getElem?_append_right (by simpa using hi)] at h2
        rw [List.getElem?_replicate] at h2
        split at h2 <;> cases h2
    have ha : vs[i]? = some v := by
      unfold start at h2
      rw [List.getElem?_append_left (by simpa using hi), List.getElem?_map] at h2
      cases e : vs[i]? with
      | none => rw [e] at h2; cases h2
      | some a => rw [e] at h2; cases h2; rfl
    obtain ⟨u, hu, rv⟩ := r.get ha
    have hp : ps[i]? = some y := by
      rw [← S.pre, List.getElem?_take_of_lt (by omega)]; exact h1
    have ndP : ps.Nodup := by rw [← S.pre]; exact S.nd.sublist (List.take_sublist _ _)
    refine ⟨u, rv, ?_⟩
    rcases S.par y (List.mem_of_getElem? hp) with k | k
    · exact .inl ⟨k, bindL_get ndP hp hu k⟩
    · obtain ⟨c, e⟩ := cell_has (n := s.heap.objs.size + 1) k
      refine .inr ⟨.inl k, c, e, ?_⟩
      have q := x.cell y c e
      rw [bindC_get ndP hp hu (by show scope.names.lookup y ≠ _; rw [k]; decide)] at q
      exact q
  · exact e0.hok.fresh (Nat.le_of_lt (x.above y c (PySem.mem_of_lookup h)))
  · unfold start
    show _ = N.length
    rw [List.length_append, List.length_map, List.length_replicate]
    omega
theorem fn_of {CX : CXT} {P : Program} {w : World} {K : PySem.W.Frag} {mg : Str → Option Value} {base : Heap} {k : Nat} {f : Addr} {name qual : Str} {params : Arguments} {body : List Stmt} {scope : Scope} {dV kV doc pm cdv ct oc : Value} {an od : Option Addr}
    {osl : Array (Option Value)} {N ps : List Str} {sp : Sp} (lk : K.lookup f = some ⟨oc, od, .func (PySem.W.fnOf name qual params body scope dV kV doc pm an cdv ct), osl⟩) (hcd : PySem.W.codeIn K cdv qual = true) (S : FnScope N ps scope)
    (len : ∀ vs H Q E, sp vs H Q E → vs.length = ps.length)
    (hbody : ∀ (A : Around) (outer : List Env) (s : Shared) (H : Hp) (vs : List V) (Q : VK) (E : XK), Room k (A.deeper (envOfC qual scope s.heap.objs.size f cdv)) → sp vs H Q E →
      ∃ t, PSs (cxOf CX P w K mg base N qual scope f cdv A outer s H E) body t ∧ t { nx := fun _ H' => Q .non H', rt := Q } (start N vs) H) :
    FnOk P w K mg base CX (k + 1) f (PySem.W.fnOf name qual params body scope dV kV doc pm an cdv ct) ps sp := by
  refine ⟨len, fun A outer s H args us vs Q E hr e0 hb r hsp => ?_⟩
  have hl := len _ _ _ _ hsp
  have KX : K.In s.heap := e0.mod.kin.keeps fun b o e => (e0.bs b o e).1
  have lim : s.heap.NoLimit := e0.mod.nolimit.keeps fun b o e => (e0.bs b o e).1
  have hkind : ∀ y ∈ ps.zip us, scope.names.lookup y.1 = some .local ∨ (scope.names.lookup y.1 = some .cell ∧ ((cellsFrom (s.heap.objs.size + 1) scope.names []).lookup y.1).isSome = true) := fun ⟨n, v⟩ hy => by
    rcases S.par n (List.of_mem_zip hy).1 with q | q
    · exact .inl q
    · exact .inr ⟨q, PySem.W.cellsFrom_some _ _ _ (.inl q)⟩
  refine codeAny_call_function hr.depth (KX _ _ lk) rfl S.co S.gen rfl (PySem.W.codeRec_of KX hcd) (hb _ _ _ _ ?_)
  refine wpAny_newFunctionEnv_cells S.kind hkind fun env he s1 x => ?_
  subst he
  refine ⟨lim.keeps x.toInCall.keep, codeAny_func ?_⟩
  obtain ⟨t, ht, hq⟩ := hbody A outer s H vs Q E (hr.deeper _) hsp
  have I : Inv (cxOf CX P w K mg base N qual scope f cdv A outer s H E) [] (start N vs) H s1 := inv_start S hr.hd e0 hl r x
  refine wpAny_mono (ht [] s1 (start N vs) H _ I hq) (fun fl s' hs => ?_) fun e s' hs => hs
  have fin : ∀ {σ' : St} {H' : Hp} {v : V} {u : Value}, Inv (cxOf CX P w K mg base N qual scope f cdv A outer s H E) [] σ' H' s' → RelV v u → Q v H' → CE outer P w H s Q u s' :=
    fun {σ' H' v u} J rv q => ⟨v, H', J.os, J.bare, J.base, J.hok, rv, q⟩
  cases fl with
  | ret u =>
    obtain ⟨v, σ', H', J, rv, q⟩ := hs
    exact fin J rv q
  | next =>
    obtain ⟨σ', H', J, q⟩ := hs
    exact fin (v := V.non) (u := Value.none) J rfl q
  | brk =>
    obtain ⟨_, _, _, q⟩ := hs
    exact False.elim q
  | cont =>
    obtain ⟨_, _, _, q⟩ := hs
    exact False.elim q
end L2
namespace L2
open PySem PySem.Spec PyProof.Rows
section
variable {X : Cx} {x : Str} {p pos : Pos} {e : Expr} {es : List Expr} {t : TA} {id T : String} {r : List V → Hp → VK → Prop}
def tCB (r : List V → Hp → VK → Prop) (t : TA) : TE := fun σ H Q => t σ H fun vs H1 => r vs H1 Q
theorem pe_callB (hc : CallR X (.builtin id) r) (hg : Gl X x) (hm : X.mg x = none) (hv : bootBuiltins x = some (.builtin id)) (ha : PA X (e :: es) t) (hn : x ≠ "__name__" := by decide) (hdb : (x == ("__debug__" : Str)) = false := by decide)
    (he : starEach (e :: es) X.env = (false, eval e X.env) :: starEach es X.env := by rfl) (hpl : (backTo pos (starEach es X.env)).any (·.1) = false := by rfl) : PE X (.Call (.Name x p) (e :: es) [] pos) (tCB r t) := by
  intro pins s σ H Q I h
  refine wpAny_Call_Name_kw (ld_blt I hg hm hv ?_ hn hdb)
  exact PyProof.Rows.callWith_builtin1 (thn (ha pos pins s σ H _ I h) fun us s1 ⟨vs, H1, I1, r1, q1⟩ => hc pins s1 σ H1 vs us Q I1 r1 q1) he hpl
theorem pe_callTy (hc : CallR X (.type T) r) (hg : Gl X x) (hm : X.mg x = none) (hv : bootBuiltins x = some (.type T)) (ha : PA X (e :: es) t) (hn : x ≠ "__name__" := by decide) (hdb : (x == ("__debug__" : Str)) = false := by decide)
    (he : starEach (e :: es) X.env = (false, eval e X.env) :: starEach es X.env := by rfl) (hpl : (backTo pos (starEach es X.env)).any (·.1) = false := by rfl) : PE X (.Call (.Name x p) (e :: es) [] pos) (tCB r t) := by
  intro pins s σ H Q I h
  refine wpAny_Call_Name_kw (ld_blt I hg hm hv ?_ hn hdb)
  exact PyProof.Rows.callWith_type1 (thn (ha pos pins s σ H _ I h) fun us s1 ⟨vs, H1, I1, r1, q1⟩ => hc pins s1 σ H1 vs us Q I1 r1 q1) he hpl
end
end L2
namespace HT
open PySem PyProof.Rows
section
open PySem.SeqAt
open PySem.AutoSeq1 (wpAny_loadPart')
open PySem.MeetsSeq PySem.MeetsSeq2 PySem.MeetsSeq3
end
section
variable {prog : Program} {w : World} {A : Around} {E : Value → Shared → Prop} {s : Shared}
theorem cat_tup {t b : Addr} {vs ws : List Value} {Q : Value → Shared → Prop} (ht : IsTup s.heap t vs.toArray) (hb : IsTup s.heap b ws.toArray) (hv : vs ≠ [])
    (h1 : ws = [] → Q (.ref t) s) (h2 : ws ≠ [] → Q (.ref s.heap.objs.size) { s with heap := s.heap.push { cls := .type "tuple", data := .seq (vs ++ ws).toArray } })
    (hsz : vs.length + ws.length ≤ sizeLine) : wpAny (model prog w) A (binaryOp .Add (.ref t) (.ref b)) Q E s := by
  obtain ⟨⟨cls, dd, data, sl⟩, ho, hc, n, hd⟩ := id ht
  obtain ⟨⟨cls2, dd2, data2, sl2⟩, ho2, hc2, n2, hd2⟩ := id hb
  simp only at hc hd hc2 hd2
  subst hc hd hc2 hd2
  have e : vs.toArray ++ ws.toArray = (vs ++ ws).toArray := by simp
  by_cases hw : ws = []
  · exact concat_meets ⟨_, ho, rfl⟩ ⟨_, ho2, rfl⟩ noFill_tuple_add seq_tuple_add PySem.F.slot_tuple_add PySem.F.entry_tuple_add (PySem.F.args_tuple_add_2 _ _)
      (tuple_addW1 t b vs.toArray ws.toArray n n2 dd dd2 sl sl2 (by simpa using hv) (by simp [hw])) ⟨ho, ho2, h1 hw⟩
  · refine concat_meets ⟨_, ho, rfl⟩ ⟨_, ho2, rfl⟩ noFill_tuple_add seq_tuple_add PySem.F.slot_tuple_add PySem.F.entry_tuple_add (PySem.F.args_tuple_add_2 _ _)
      (tuple_addW2 t b vs.toArray ws.toArray n n2 dd dd2 sl sl2 (by simpa using hv) (by simpa using hw) (by rw [List.size_toArray, List.size_toArray]; exact hsz)) ⟨ho, ho2, ?_⟩
    rw [e]
    exact h2 hw
def sIx (n d : Nat) : Option Int → Nat
  | none => d
  | some v => if v < 0 then (v + (n : Int)).toNat else min v.toNat n
theorem sIx_none (n d : Nat) : sIx n d none = d := rfl
theorem sIx_nat (n d k : Nat) : sIx n d (some (k : Int)) = min k n := by
  show (if (k : Int) < 0 then ((k : Int) + (n : Int)).toNat else min (k : Int).toNat n) = min k n
  rw [if_neg (by omega), Int.toNat_natCast]
end
end HT
namespace L2
open PySem PySem.Spec PyProof.Rows
abbrev TO := St → Hp → (Option Int → Hp → Prop) → Prop
def PO (X : Cx) (e : Option Expr) (t : TO) : Prop :=
  ∀ (pins : List (Addr × Obj)) (s : Shared) (σ : St) (H : Hp) (Q : Option Int → Hp → Prop), Inv X pins σ H s → t σ H Q →
    wpAny (model X.prog X.w) X.A (evalPart e X.env) (fun u s' => ∃ o H', Inv X pins σ H' s' ∧ IsPart u o ∧ Q o H') X.xe s
def tNoPart : TO := fun _ H Q => Q none H
def tPart (t : TE) : TO := fun σ H Q => t σ H fun x H1 => ∃ i, x = .int i ∧ Q (some i) H1
section
variable {X : Cx} {e : Expr} {te : TE} {lo hi : Option Expr} {tl th : TO} {pos p2 : Pos}
theorem po_none : PO X none tNoPart := by
  intro pins s σ H Q I h
  rw [evalPart_none]
  exact wpAny_pure ⟨none, H, I, .none, h⟩
theorem po_some (h : PE X e te) : PO X (some e) (tPart te) := by
  intro pins s σ H Q I hw
  rw [evalPart_some]
  refine thn (h pins s σ H _ I hw) fun u s1 ⟨x, H1, I1, r1, q1⟩ => ?_
  obtain ⟨i, rfl, q⟩ := q1
  obtain ⟨t, rfl⟩ := r1
  exact ⟨some i, H1, I1, .int i t, q⟩
def SlR (X : Cx) (r : V → Option Int → Option Int → Hp → VK → Prop) : Prop :=
  ∀ (pins : List (Addr × Obj)) (s : Shared) (σ : St) (H : Hp) (x : V) (v vl vu : Value) (lo hi : Option Int) (sl : Addr) (Q : VK), Inv X pins σ H s → RelV x v → s.heap.IsSliceOf sl vl vu .none → IsPart vl lo → IsPart vu hi → r x lo hi H Q →
    ∃ T id, typeLookup (.type T) "__getitem__" = pure (some (.builtin id)) ∧ s.TypeIs v T ∧ wpAny (model X.prog X.w) X.A (getItem v (.ref sl)) (EP X pins σ Q) X.xe s
def tSl (r : V → Option Int → Option Int → Hp → VK → Prop) (te : TE) (tl th : TO) : TE := fun σ H Q => te σ H fun x H1 => tl σ H1 fun l H2 => th σ H2 fun u H3 => r x l u H3 Q
theorem pe_slice {r : V → Option Int → Option Int → Hp → VK → Prop} (hr : SlR X r) (he : PE X e te) (hl : PO X lo tl) (hu : PO X hi th) : PE X (.Subscript e (.Slice lo hi none p2) pos) (tSl r te tl th) := by
  intro pins s σ H Q I h
  refine Subscript_ (thn (he pins s σ H _ I h) fun v s1 ⟨x, H1, I1, r1, q1⟩ => ?_)
  refine wpAny_Slice (thn (hl pins s1 σ H1 _ I1 q1) fun vl s2 ⟨l, H2, I2, pl, q2⟩ => thn (hu pins s2 σ H2 _ I2 q2) fun vu s3 ⟨u, H3, I3, pu, q3⟩ => ?_)
  rw [evalPart_none]
  refine wpAny_pure ?_
  have I4 : Inv X pins σ H3 { s3 with heap := s3.heap.push { cls := .type "slice", data := .fields #[vl, vu, .none] } } := I3.kept (t' := s3.toks) fun b ob q => Heap.get?_push_of_some _ q
  obtain ⟨T, id, hT, ht, hg⟩ := hr pins { s3 with heap := s3.heap.push { cls := .type "slice", data := .fields #[vl, vu, .none] } } σ H3 x v vl vu l u s3.heap.objs.size Q I4 r1 (Heap.IsSliceOf.new ..) pl pu q3
  show wpAny (model X.prog X.w) X.A (subscriptTail e (.Slice lo hi none p2) v (.ref s3.heap.objs.size)) (EP X pins σ Q) X.xe { s3 with heap := s3.heap.push { cls := .type "slice", data := .fields #[vl, vu, .none] } }
  exact tail_any (ops := [.ref s3.heap.objs.size, v]) ht hT hg (by with_unfolding_all rfl)
def cutV (xs : List V) (lo hi : Option Int) : List V := (xs.drop (HT.sIx xs.length 0 lo)).take (HT.sIx xs.length xs.length hi - HT.sIx xs.length 0 lo)
theorem cutV_length (xs : List V) (lo hi : Option Int) : (cutV xs lo hi).length ≤ xs.length := by
  unfold cutV
  rw [List.length_take, List.length_drop]
  omega
def rCatT (K : PySem.W.Frag) : R2 := fun x y H Q => ∃ a b xs ys, x = .ref a ∧ y = .ref b ∧ SqT K H a xs ∧ SqT K H b ys ∧ xs ≠ [] ∧ xs.length + ys.length ≤ sizeLine ∧
  (ys = [] → Q (.ref a) H) ∧ (ys ≠ [] → ∀ p, H p = none → Q (.ref p) (upd H p (.tup (xs ++ ys))))
theorem Vals.nil_iff {xs : List V} {us : List Value} (r : Vals xs us) : us = [] ↔ xs = [] := by
  cases r with
  | nil => simp
  | cons _ _ => simp
theorem op_catT : OpR X (binaryOp .Add) (rCatT X.K) := by
  intro pins s σ H x y v u Q I rx ry h
  obtain ⟨a, b, xs, ys, rfl, rfl, ha, hb, hx, hz, q1, q2⟩ := h
  cases rx
  cases ry
  obtain ⟨its, r1, p1, _⟩ := I.tuple ha
  obtain ⟨its2, r2, p2, _⟩ := I.tuple hb
  refine HT.cat_tup p1 p2 (fun z => hx (r1.nil_iff.mp z)) (fun z => ⟨.ref a, H, I, rfl, q1 (r2.nil_iff.mp z)⟩) (fun z => ?_) (by rw [← r1.length, ← r2.length]; exact hz)
  refine ⟨.ref s.heap.objs.size, _, I.laid (t' := s.toks) (o := .tup (xs ++ ys)) (fun b ob q => Heap.get?_push_of_some _ q) (Nat.le_refl _) ?_, rfl, q2 (fun w => z (r2.nil_iff.mpr w)) _ (I.hok.fresh (Nat.le_refl _))⟩
  exact ⟨by rw [List.length_append]; exact hz, _, r1.append r2, IsTup.new _ _⟩
end
end L2
namespace L2
open PySem PySem.Spec PyProof.Rows
def ixN (n : Nat) (i : Int) : Option Nat := if 0 ≤ i then (if i < n then some i.toNat else none) else if -(n : Int) ≤ i then some (i + n).toNat else none
def atI {α : Type} (xs : List α) (i : Int) : Option α := (ixN xs.length i).bind fun j => xs[j]?
theorem ixN_seq {n : Nat} {i : Int} {j : Nat} (h : ixN n i = some j) : seqIndex? i n = some j ∧ j < n ∧ -(n : Int) ≤ i ∧ i < n := by
  unfold ixN at h
  by_cases h0 : 0 ≤ i
  · rw [if_pos h0] at h
    by_cases h1 : i < n
    · rw [if_pos h1] at h
      have e : i.toNat = j := Option.some.inj h
      exact ⟨by rw [seqIndex_of h0 h1, e], by omega, by omega, h1⟩
    · rw [if_neg h1] at h; cases h
  · rw [if_neg h0] at h
    by_cases h1 : -(n : Int) ≤ i
    · rw [if_pos h1] at h
      have e : (i + n).toNat = j := Option.some.inj h
      exact ⟨by rw [seqIndex_neg (by omega) h1, e], by omega, h1, by omega⟩
    · rw [if_neg h1] at h; cases h
theorem atI_get {α : Type} {xs : List α} {i : Int} {v : α} (h : atI xs i = some v) : ∃ j, seqIndex? i xs.length = some j ∧ xs[j]? = some v ∧ j < xs.length ∧ -(xs.length : Int) ≤ i ∧ i < xs.length := by
  unfold atI at h
  cases e : ixN xs.length i with
  | none => rw [e] at h; cases h
  | some j =>
    rw [e] at h
    obtain ⟨h1, h2, h3, h4⟩ := ixN_seq e
    exact ⟨j, h1, h, h2, h3, h4⟩
theorem atI_nat {α : Type} {xs : List α} {j : Nat} {v : α} (h : xs[j]? = some v) : atI xs (j : Int) = some v := by
  have hj : j < xs.length := (List.getElem?_eq_some_iff.mp h).1
  have e : ixN xs.length (j : Int) = some j := by
    unfold ixN
    rw [if_pos (by omega), if_pos (by omega)]; simp
  unfold atI; rw [e]; exact h
def PlainIx (b : Expr) : Prop := ∀ o i, subscripted b false o i = operate [o, i] (getItem o i)
def IxR (X : Cx) (r : R2) : Prop :=
  ∀ (value slice : Expr) (pins : List (Addr × Obj)) (s : Shared) (σ : St) (H : Hp) (x y : V) (v u : Value) (Q : VK), Inv X pins σ H s → RelV x v → RelV y u → r x y H Q →
    subscripted slice false v u = operate [v, u] (getItem v u) → wpAny (model X.prog X.w) X.A (subscriptTail value slice v u) (EP X pins σ Q) X.xe s
def MtR (X : Cx) (id : String) (r : V → List V → Hp → VK → Prop) : Prop :=
  ∀ (pins : List (Addr × Obj)) (s : Shared) (σ : St) (H : Hp) (x : V) (xs : List V) (v : Value) (us : List Value) (Q : VK), Inv X pins σ H s → RelV x v → Vals xs us → r x xs H Q →
    wpAny (model X.prog X.w) X.A (call (.builtin id) (v :: us)) (EP X pins σ Q) X.xe s
section
variable {X : Cx} {a b : Expr} {ta tb : TE} {pos : Pos}
theorem IxR.or {r r' : R2} (h : IxR X r) (h' : IxR X r') : IxR X (fun x y H Q => r x y H Q ∨ r' x y H Q) := by
  intro value slice pins s σ H x y v u Q I rx ry q hs
  rcases q with q | q
  · exact h value slice pins s σ H x y v u Q I rx ry q hs
  · exact h' value slice pins s σ H x y v u Q I rx ry q hs
theorem pe_ix {r : R2} (hr : IxR X r) (ha : PE X a ta) (hb : PE X b tb) (hs : PlainIx b) : PE X (.Subscript a b pos) (tOp r ta tb) := by
  intro pins s σ H Q I h
  exact Subscript_ (binT ha hb I h fun v u s2 x y H2 I2 rx ry q => hr a b pins s2 σ H2 x y v u Q I2 rx ry q (hs _ _))
def rIxL (K : PySem.W.Frag) : R2 := fun x y H Q => ∃ p xs i v, x = .ref p ∧ y = .int i ∧ SqL K H p xs ∧ atI xs i = some v ∧ Q v H
def rIxT (K : PySem.W.Frag) : R2 := fun x y H Q => ∃ p xs i v, x = .ref p ∧ y = .int i ∧ SqT K H p xs ∧ atI xs i = some v ∧ Q v H
theorem ix_list : IxR X (rIxL X.K) := by
  intro value slice pins s σ H x y v u Q I rx ry h hs
  obtain ⟨p, xs, i, z, rfl, rfl, hq, he, q⟩ := h
  cases rx
  obtain ⟨t, rfl⟩ := ry
  obtain ⟨its, r, pl, hz⟩ := I.list hq
  obtain ⟨j, h1, h2, h3, h4, h5⟩ := atI_get he
  obtain ⟨w, ew, rw'⟩ := r.get h2
  have hl := r.length
  have hn := line63
  have fin : EP X pins σ Q w s := ⟨z, H, I, rw', q⟩
  by_cases h0 : 0 ≤ i
  · have hj : i.toNat = j := by
      rw [seqIndex_of h0 h5] at h1
      exact Option.some.inj h1
    exact item_listR pl.isList h0 (by omega) (by rw [hj]; simpa using ew) fin hs
  · have hj : (i + (its.toArray.size : Int)).toNat = j := by
      rw [seqIndex_neg (by omega) h4] at h1
      rw [List.size_toArray, ← hl]
      exact Option.some.inj h1
    exact subscriptTail_builtinR (x := w) pl.isList.typeIs slot_list_getitem.lookup
      (wpAny_getItem_list_neg (Q := fun r s' => r = w ∧ EP X pins σ Q r s') pl.isList (by omega) (by rw [List.size_toArray] <;> omega) (by omega) (by rw [hj]; simpa using ew) ⟨rfl, fin⟩) hs
theorem ix_tup : IxR X (rIxT X.K) := by
  intro value slice pins s σ H x y v u Q I rx ry h hs
  obtain ⟨p, xs, i, z, rfl, rfl, hq, he, q⟩ := h
  cases rx
  obtain ⟨t, rfl⟩ := ry
  obtain ⟨its, r, pl, hz⟩ := I.tuple hq
  obtain ⟨j, h1, h2, h3, h4, h5⟩ := atI_get he
  obtain ⟨w, ew, rw'⟩ := r.get h2
  have hl := r.length
  have hn := line63
  have fin : EP X pins σ Q w s := ⟨z, H, I, rw', q⟩
  exact subscriptTail_builtinR (x := w) pl.typeIs slot_tuple_getitem.lookup
    (getItem_tuple (j := j) (Q := fun r s' => r = w ∧ EP X pins σ Q r s') pl (by omega) (by omega) (by rw [List.size_toArray, ← hl]; exact h1) (by simpa using ew) ⟨rfl, fin⟩) hs
theorem mapSeq_set (its : List Value) (n j : Nat) (u : Value) : Obj.mapSeq (·.setIfInBounds j u) { cls := .type "list", data := .seq its.toArray n } = { cls := .type "list", data := .seq (its.set j u).toArray n } := by
  simp [Obj.mapSeq]
theorem Inv.lst {pins : List (Addr × Obj)} {σ : St} {H : Hp} {s : Shared} {p : Addr} {xs : List V} (I : Inv X pins σ H s) (h : H p = some (.lst xs)) :
    ∃ (its : List Value) (n : Nat), Vals xs its ∧ s.heap.get? p = some { cls := .type "list", data := .seq its.toArray n } ∧ xs.length ≤ sizeLine := by
  obtain ⟨z, its, n, r, e⟩ := I.hok p _ h
  exact ⟨its, n, r, e, z⟩
theorem Inv.lstUpd {pins : List (Addr × Obj)} {σ : St} {H : Hp} {s : Shared} {p : Addr} {xs ys : List V} {its its' : List Value} {n n' : Nat} {f : Obj → Obj} (I : Inv X pins σ H s) (h : H p = some (.lst xs))
    (ho : s.heap.get? p = some { cls := .type "list", data := .seq its.toArray n }) (hf : f { cls := .type "list", data := .seq its.toArray n } = { cls := .type "list", data := .seq its'.toArray n' }) (r : Vals ys its') (hz : ys.length ≤ sizeLine) (t : Nat) :
    Inv X pins σ (upd H p (.lst ys)) { s with heap := s.heap.update p f, toks := t } := by
  have e : (s.heap.update p f).get? p = some { cls := .type "list", data := .seq its'.toArray n' } := by
    rw [Heap.get?_update_self f ho (by rw [hf] <;> rfl), hf]
  refine I.write (x := p) (e := p) (by rw [h]; trivial) (.inl rfl) (fun b u hb q => (Heap.get?_update_other _ _ (Ne.symm hb)).trans q) ⟨_, e⟩ ?_
  exact ⟨hz, its', n', r, e⟩
def rSetL : V → V → V → Hp → (Hp → Prop) → Prop := fun o i v H Q => ∃ p xs k j, o = .ref p ∧ i = .int k ∧ H p = some (.lst xs) ∧ ixN xs.length k = some j ∧ Q (upd H p (.lst (xs.set j v)))
theorem set_list : PSet X rSetL := by
  intro pins s σ H o i v ov iv u Q I ro ri rv h
  obtain ⟨p, xs, k, j, rfl, rfl, hp, hj, q⟩ := h
  cases ro
  obtain ⟨t, rfl⟩ := ri
  obtain ⟨its, n, r, ho, hz⟩ := I.lst hp
  obtain ⟨h1, h2, h3, h4⟩ := ixN_seq hj
  have hl := r.length
  have hn := line63
  have I' : Inv X pins σ (upd H p (.lst (xs.set j v))) { s with heap := s.heap.update p (Obj.mapSeq (·.setIfInBounds j u)) } :=
    I.lstUpd hp ho (mapSeq_set its n j u) (r.set rv j) (by rw [List.length_set]; exact hz) s.toks
  by_cases h0 : 0 ≤ k
  · have hk : k.toNat = j := by
      rw [seqIndex_of h0 h4] at h1
      exact Option.some.inj h1
    exact PySem.W.ki_setAt ho h0 (by omega) (by rw [List.size_toArray, ← hl]; exact h4) (by rw [hk]; exact ⟨_, I', q⟩)
  · have hk : (k + (its.toArray.size : Int)).toNat = j := by
      rw [seqIndex_neg (by omega) h3] at h1
      rw [List.size_toArray, ← hl]
      exact Option.some.inj h1
    exact PySem.W.ki_setBack ho (by omega) (by rw [List.size_toArray, ← hl]; exact h3) (by omega) (by rw [hk]; exact ⟨_, I', q⟩)
theorem slice_bounds (lo hi : Option Int) (n : Nat) : (sliceBounds lo hi none n).1 = ((HT.sIx n 0 lo : Nat) : Int) ∧ (sliceBounds lo hi none n).2.1 = ((HT.sIx n n hi : Nat) : Int) ∧ (sliceBounds lo hi none n).2.2 = 1 := by
  refine ⟨?_, ?_, rfl⟩
  · cases lo with
    | none => simp [sliceBounds, HT.sIx]
    | some i =>
      simp only [sliceBounds, HT.sIx, Option.getD_none, show (1 : Int) > 0 by decide, if_true]
      by_cases h : i < 0
      · simp only [h, if_true] <;> omega
      · simp only [h, if_false] <;> omega
  · cases hi with
    | none => simp [sliceBounds, HT.sIx]
    | some i =>
      simp only [sliceBounds, HT.sIx, Option.getD_none, show (1 : Int) > 0 by decide, if_true]
      by_cases h : i < 0
      · simp only [h, if_true] <;> omega
      · simp only [h, if_false] <;> omega
theorem slicePick_cut (its : List Value) (lo hi : Option Int) : slicePick its.toArray lo hi none = ((its.drop (HT.sIx its.length 0 lo)).take (HT.sIx its.length its.length hi - HT.sIx its.length 0 lo)).toArray := by
  obtain ⟨h1, h2, h3⟩ := slice_bounds lo hi its.toArray.size
  unfold slicePick
  rw [h1, h2, h3]
  simp only [sliceRange_one, pick_run, List.size_toArray] <;> rfl
def rSlL (K : PySem.W.Frag) : V → Option Int → Option Int → Hp → VK → Prop := fun x lo hi H Q => ∃ a xs, x = .ref a ∧ SqL K H a xs ∧ ∀ p, H p = none → Q (.ref p) (upd H p (.lst (cutV xs lo hi)))
theorem sl_list : SlR X (rSlL X.K) := by
  intro pins s σ H x v vl vu lo hi sl Q I rx hs pl pu h
  obtain ⟨a, xs, rfl, hx, q⟩ := h
  cases rx
  obtain ⟨its, r, ht, hz⟩ := I.list hx
  have hlen := r.length
  refine ⟨"list", _, slot_list_getitem.lookup, ht.isList.typeIs, ?_⟩
  refine wpAny_getItem_list_slice ht.isList hs pl pu .none (by simp) ?_ (by rw [List.size_toArray] <;> omega)
  rw [slicePick_cut, ← hlen]
  refine ⟨.ref s.heap.objs.size, _, I.laid (t' := s.toks) (o := .lst (cutV xs lo hi)) (fun b ob q => Heap.get?_push_of_some _ q) (Nat.le_refl _) ?_, rfl, q _ (I.hok.fresh (Nat.le_refl _))⟩
  exact ⟨Nat.le_trans (cutV_length xs lo hi) hz, _, 0, (r.drop (HT.sIx xs.length 0 lo)).take (HT.sIx xs.length xs.length hi - HT.sIx xs.length 0 lo), Heap.get?_push_size _ rfl⟩
def flatV : V → Bool
  | .non => true
  | .bl _ => true
  | .int _ => true
  | .str _ => true
  | _ => false
def eqV : V → V → Bool
  | .non, .non => true
  | .bl a, .bl b => a == b
  | .bl a, .int b => (if a then 1 else 0) == b
  | .int a, .bl b => a == (if b then 1 else 0)
  | .int a, .int b => a == b
  | .str a, .str b => a == b
  | _, _ => false
theorem eqAt_V {A : Around} {s : Shared} {y x : V} {u v : Value} (ry : RelV y u) (rx : RelV x v) (fy : flatV y = true) (fx : flatV x = true) : SeqAt.EqAt A s u v (eqV y x) := by
  cases y with
  | non =>
    cases ry
    cases x with
    | non => cases rx; exact SeqAt.EqAt.same _
    | bl b => cases rx; exact SeqAt.EqAt.none_bool b
    | int b => obtain ⟨t, rfl⟩ := rx; exact SeqAt.EqAt.none_int b t
    | str b => obtain ⟨t, rfl⟩ := rx; exact SeqAt.EqAt.none_str b t
    | _ => exact absurd (show false = true from fx) Bool.false_ne_true
  | bl a =>
    cases ry
    cases x with
    | non => cases rx; exact SeqAt.EqAt.bool_none a
    | bl b => cases rx; exact SeqAt.EqAt.bool_bool a b
    | int b => obtain ⟨t, rfl⟩ := rx; exact SeqAt.EqAt.bool_int a b t
    | str b => obtain ⟨t, rfl⟩ := rx; exact SeqAt.EqAt.bool_str a b t
    | _ => exact absurd (show false = true from fx) Bool.false_ne_true
  | int a =>
    obtain ⟨t', rfl⟩ := ry
    cases x with
    | non => cases rx; exact SeqAt.EqAt.int_none a t'
    | bl b => cases rx; exact SeqAt.EqAt.int_bool a t' b
    | int b => obtain ⟨t, rfl⟩ := rx; exact SeqAt.EqAt.int_int a t' b t
    | str b => obtain ⟨t, rfl⟩ := rx; exact SeqAt.EqAt.int_str a t' b t
    | _ => exact absurd (show false = true from fx) Bool.false_ne_true
  | str a =>
    obtain ⟨t', rfl⟩ := ry
    cases x with
    | non => cases rx; exact SeqAt.EqAt.str_none a t'
    | bl b => cases rx; exact SeqAt.EqAt.str_bool a t' b
    | int b => obtain ⟨t, rfl⟩ := rx; exact SeqAt.EqAt.str_int a t' b t
    | str b => obtain ⟨t, rfl⟩ := rx; exact SeqAt.EqAt.str_str a t' b t
    | _ => exact absurd (show false = true from fx) Bool.false_ne_true
  | _ => exact absurd (show false = true from fy) Bool.false_ne_true
def eqU (x : V) (u : Value) : Bool := match u with
  | .none => eqV .non x
  | .bool b => eqV (.bl b) x
  | .int i _ => eqV (.int i) x
  | .str z _ => eqV (.str z) x
  | _ => false
theorem eqU_of {x y : V} {u : Value} (r : RelV y u) (f : flatV y = true) : eqU x u = eqV y x := by
  cases y with
  | non => cases r; rfl
  | bl b => cases r; rfl
  | int i => obtain ⟨t, rfl⟩ := r; rfl
  | str z => obtain ⟨t, rfl⟩ := r; rfl
  | _ => exact absurd (show false = true from f) Bool.false_ne_true
theorem any_eqU {x : V} : ∀ {xs : List V} {us : List Value}, Vals xs us → xs.all flatV = true → us.any (eqU x) = xs.any fun y => eqV y x
  | _, _, .nil, _ => rfl
  | y :: xs, u :: us, .cons r t, f => by
    rw [List.all_cons, Bool.and_eq_true] at f
    rw [List.any_cons, List.any_cons, eqU_of r f.1, any_eqU t f.2]
theorem mem_eqAt {A : Around} {s : Shared} {x : V} {v : Value} (rx : RelV x v) (fx : flatV x = true) : ∀ {xs : List V} {us : List Value}, Vals xs us → xs.all flatV = true → ∀ u ∈ us, SeqAt.EqAt A s u v (eqU x u)
  | _, _, .nil, _ => fun u hu => by cases hu
  | y :: xs, u :: us, .cons r t, f => fun u' hu => by
    rw [List.all_cons, Bool.and_eq_true] at f
    rcases List.mem_cons.mp hu with rfl | hu
    · rw [eqU_of r f.1]; exact eqAt_V r rx f.1 fx
    · exact mem_eqAt rx fx t f.2 u' hu
def inV (x : V) (xs : List V) : Bool := xs.any fun y => eqV y x
def rIn (K : PySem.W.Frag) (neg : Bool) : R2 := fun x y H Q => ∃ p xs, y = .ref p ∧ (SqL K H p xs ∨ SqT K H p xs) ∧ flatV x = true ∧ xs.all flatV = true ∧ Q (.bl (if neg then !inV x xs else inV x xs)) H
theorem op_in_seq : OpR X (compareOp .In) (rIn X.K false) := by
  intro pins s σ H x y v u Q I rx ry h
  obtain ⟨p, xs, rfl, hq, fx, fs, q⟩ := h
  cases ry
  rcases hq with hq | hq
  · obtain ⟨its, r, pl, hz⟩ := I.list hq
    refine SeqAt.in_listAt (eqU x) pl.isList (fun w hw => mem_eqAt rx fx r fs w (by simpa using hw)) ⟨.bl _, H, I, rfl, ?_⟩
    rw [show its.toArray.any (eqU x) = its.any (eqU x) by simp, any_eqU r fs]
    exact q
  · obtain ⟨its, r, pl, hz⟩ := I.tuple hq
    refine SeqAt.in_tupleAt (eqU x) pl (fun w hw => mem_eqAt rx fx r fs w (by simpa using hw)) ⟨.bl _, H, I, rfl, ?_⟩
    rw [show its.toArray.any (eqU x) = its.any (eqU x) by simp, any_eqU r fs]
    exact q
theorem op_notIn_seq : OpR X (compareOp .NotIn) (rIn X.K true) := by
  intro pins s σ H x y v u Q I rx ry h
  obtain ⟨p, xs, rfl, hq, fx, fs, q⟩ := h
  cases ry
  rcases hq with hq | hq
  · obtain ⟨its, r, pl, hz⟩ := I.list hq
    refine SeqAt.notIn_listAt (eqU x) pl.isList (fun w hw => mem_eqAt rx fx r fs w (by simpa using hw)) ⟨.bl _, H, I, rfl, ?_⟩
    rw [show its.toArray.any (eqU x) = its.any (eqU x) by simp, any_eqU r fs]
    exact q
  · obtain ⟨its, r, pl, hz⟩ := I.tuple hq
    refine SeqAt.notIn_tupleAt (eqU x) pl (fun w hw => mem_eqAt rx fx r fs w (by simpa using hw)) ⟨.bl _, H, I, rfl, ?_⟩
    rw [show its.toArray.any (eqU x) = its.any (eqU x) by simp, any_eqU r fs]
    exact q
theorem call_len_seq : CallR X (.builtin "len") (fun xs H Q => ∃ p ys, xs = [.ref p] ∧ (SqL X.K H p ys ∨ SqT X.K H p ys) ∧ Q (.int ys.length) H) := by
  intro pins s σ H xs us Q I r h
  obtain ⟨p, ys, rfl, hq, q⟩ := h
  obtain ⟨u, rfl, rx⟩ := vals1 r
  cases rx
  have hn := line63
  rcases hq with hq | hq
  · obtain ⟨its, r', pl, hz⟩ := I.list hq
    have hlen := r'.length
    exact Calls.call_len_list pl.isList (by simp only [List.size_toArray] <;> omega) ⟨.int ys.length, H, I.tok _, ⟨s.toks + 1, by rw [List.size_toArray, hlen]⟩, q⟩
  · obtain ⟨its, r', pl, hz⟩ := I.tuple hq
    have hlen := r'.length
    exact len_tuple pl (by simp only [List.size_toArray] <;> omega) ⟨.int ys.length, H, I.tok _, ⟨s.toks + 1, by rw [List.size_toArray, hlen]⟩, q⟩
theorem call_list_of : CallR X (.type "list") (fun xs H Q => ∃ p ys, xs = [.ref p] ∧ (SqL X.K H p ys ∨ SqT X.K H p ys) ∧ ∀ l, H l = none → Q (.ref l) (upd H l (.lst ys))) := by
  intro pins s σ H xs us Q I r h
  obtain ⟨p, ys, rfl, hq, q⟩ := h
  obtain ⟨u, rfl, rx⟩ := vals1 r
  cases rx
  have fin : ∀ (its : List Value), Vals ys its → ys.length ≤ sizeLine → ∀ (h' : Heap) (c' : Nat), (∀ b o', s.heap.get? b = some o' → h'.get? b = some o') →
      h'.get? s.heap.objs.size = some { cls := .type "list", dict := none, data := .seq its.toArray c', slots := #[] } → EP X pins σ Q (.ref s.heap.objs.size) { s with heap := h' } := fun its r' hz h' c' kp e =>
    ⟨.ref s.heap.objs.size, _, I.laid (t' := s.toks) kp (Nat.le_refl _) (show ObjOk X.prog X.w _ h' _ (.lst ys) from ⟨hz, its, c', r', e⟩), rfl, q _ (I.hok.fresh (Nat.le_refl _))⟩
  rcases hq with hq | hq
  · obtain ⟨its, r', pl, hz⟩ := I.list hq
    have hlen := r'.length
    obtain ⟨o, ho, hc, n, hd⟩ := pl.isList
    exact call_list_seq p (.inl rfl) ho hc hd (fun h' c' kp e => fin its r' hz h' c' kp e) (by simp only [List.size_toArray] <;> omega)
  · obtain ⟨its, r', pl, hz⟩ := I.tuple hq
    have hlen := r'.length
    obtain ⟨o, ho, hc, n, hd⟩ := pl
    exact call_list_seq p (.inr rfl) ho hc hd (fun h' c' kp e => fin its r' hz h' c' kp e) (by simp only [List.size_toArray] <;> omega)
theorem call_tuple_of : CallR X (.type "tuple") (fun xs H Q => ∃ p ys, xs = [.ref p] ∧ ((SqL X.K H p ys ∧ ∀ l, H l = none → Q (.ref l) (upd H l (.tup ys))) ∨ (SqT X.K H p ys ∧ Q (.ref p) H))) := by
  intro pins s σ H xs us Q I r h
  obtain ⟨p, ys, rfl, h⟩ := h
  obtain ⟨u, rfl, rx⟩ := vals1 r
  cases rx
  rcases h with ⟨hq, q⟩ | ⟨hq, q⟩
  · obtain ⟨its, r', pl, hz⟩ := I.list hq
    have hlen := r'.length
    refine call_tuple_list pl.isList (fun h' kp => ?_) (by simp only [List.size_toArray] <;> omega)
    have I1 : Inv X pins σ H { s with heap := h' } := I.kept (t' := s.toks) kp
    have I2 : Inv X pins σ (upd H h'.objs.size (.tup ys)) { s with heap := h'.push { cls := .type "tuple", data := .seq its.toArray } } :=
      I1.laid (t' := s.toks) (fun b o e => Heap.get?_push_of_some _ e) (Nat.le_refl _) (show ObjOk X.prog X.w _ _ _ (.tup ys) from ⟨hz, its, r', IsTup.new _ _⟩)
    exact ⟨.ref h'.objs.size, _, I2, rfl, q _ (I1.hok.fresh (Nat.le_refl _))⟩
  · obtain ⟨its, r', pl, hz⟩ := I.tuple hq
    exact call_tuple_same pl ⟨.ref p, H, I, rfl, q⟩
def tyV (K : PySem.W.Frag) (T : String) (x : V) (H : Hp) : Prop := match x with
  | .str _ => T = "str"
  | .int _ => T = "int"
  | .ref p => (T = "list" ∧ ∃ xs, SqL K H p xs) ∨ (T = "tuple" ∧ ∃ o, K.lookup p = some o ∧ o.cls = .type "tuple" ∧ o.dict = none) ∨
      (T = "dict" ∧ ((∃ kvs, H p = some (.dK kvs)) ∨ ∃ kvs, H p = some (.dT kvs))) ∨ (T = "set" ∧ ∃ S n, H p = some (.set S n))
  | _ => False
theorem tyV_is {pins : List (Addr × Obj)} {σ : St} {H : Hp} {s : Shared} {T : String} {x : V} {v : Value} (I : Inv X pins σ H s) (r : RelV x v) (ty : tyV X.K T x H) :
    s.TypeIs v T ∧ ∀ a, v = .ref a → ∃ ob, s.heap.get? a = some ob ∧ ob.dict = none := by
  cases x with
  | str z =>
    obtain ⟨t, rfl⟩ := r
    cases (show T = "str" from ty)
    exact ⟨typeIs_str s z t, fun _ e => nomatch e⟩
  | int i =>
    obtain ⟨t, rfl⟩ := r
    cases (show T = "int" from ty)
    exact ⟨typeIs_int s i t, fun _ e => nomatch e⟩
  | ref p =>
    cases r
    rcases ty with ⟨rfl, xs, hq⟩ | ⟨rfl, o, hk, hc, hd⟩ | ⟨rfl, hk⟩ | ⟨rfl, S, n, hk⟩
    · obtain ⟨its, _, pl, _⟩ := I.list hq
      refine ⟨pl.isList.typeIs, fun a e => ?_⟩
      cases e
      obtain ⟨o, n, e, c, hd, _⟩ := pl
      exact ⟨o, e, hd⟩
    · refine ⟨⟨o, I.kIn p o hk, hc⟩, fun a e => ?_⟩
      cases e
      exact ⟨o, I.kIn _ o hk, hd⟩
    · have z : ∃ o, s.heap.get? p = some o ∧ o.ExactDict := by
        rcases hk with ⟨kvs, hk⟩ | ⟨kvs, hk⟩
        · obtain ⟨_, _, _, _, o, _, _, e, ex, _⟩ := I.hok p _ hk
          exact ⟨o, e, ex⟩
        · obtain ⟨_, _, _, _, o, _, _, e, ex, _⟩ := I.hok p _ hk
          exact ⟨o, e, ex⟩
      obtain ⟨o, e, ex⟩ := z
      refine ⟨⟨o, e, ex.1⟩, fun a e2 => ?_⟩
      cases e2
      exact ⟨o, e, ex.2.1⟩
    · obtain ⟨o, _, _, _, e, ex, _⟩ := I.hok p _ hk
      refine ⟨⟨o, e, ex.1⟩, fun a e2 => ?_⟩
      cases e2
      exact ⟨o, e, ex.2.1⟩
  | _ => exact False.elim ty
def tBM0 (K : PySem.W.Frag) (T : String) (r : V → List V → Hp → VK → Prop) (to : TE) : TE := fun σ H Q => to σ H fun x H1 => tyV K T x H1 ∧ r x [] H1 Q
def tBM (K : PySem.W.Frag) (T : String) (r : V → List V → Hp → VK → Prop) (to : TE) (t : TA) : TE := fun σ H Q => to σ H fun x H1 => tyV K T x H1 ∧ t σ H1 fun xs H2 => r x xs H2 Q
variable {o e : Expr} {es : List Expr} {to : TE} {t : TA} {name : Str} {apos cpos : Pos} {T id : String} {r : V → List V → Hp → VK → Prop}
theorem pe_bm0 (pa : PlainAttrs T) (slot : Slot T name id) (hty : typeOf (.builtin id) = pure (.type "method_descriptor")) (hm : MtR X id r) (ho : PE X o to)
    (hbase : attributeBase o name X.env (eval o X.env) = eval o X.env := by rfl) (hline : (apos.endLine == cpos.line) = true := by rfl) : PE X (.Call (.Attribute o name apos) [] [] cpos) (tBM0 X.K T r to) := by
  intro pins s σ H Q I h
  refine wpAny_Call_method0_late hbase hline (thn (ho pins s σ H _ I h) fun v s1 ⟨x, H1, I1, r1, ty, q1⟩ => ?_)
  obtain ⟨h1, h2⟩ := tyV_is I1 r1 ty
  exact ⟨T, id, pa, slot, hty, h1, h2, Calls.callWith_builtin rfl (PySem.evalArgs_none (hm pins s1 σ H1 x [] v [] Q I1 r1 .nil q1))⟩
theorem pe_bm (pa : PlainAttrs T) (slot : Slot T name id) (hty : typeOf (.builtin id) = pure (.type "method_descriptor")) (hm : MtR X id r) (ho : PE X o to) (ha : PA X (e :: es) t)
    (hbase : attributeBase o name X.env (eval o X.env) = eval o X.env := by rfl)
    (hfew : ((backTo cpos (starEach (e :: es) X.env)).all (fun x => !x.1) && (backToKw cpos (keywordEach [] X.env)).all (fun x => x.1.isSome)
      && decide ((e :: es).length + ([] : List Keyword).length + (if ([] : List Keyword).isEmpty then 0 else 1) < 30)) = true := by rfl)
    (hline : (apos.endLine == cpos.line) = true := by rfl) (hs : starEach (e :: es) X.env = (false, eval e X.env) :: starEach es X.env := by rfl) (hplain : (backTo cpos (starEach es X.env)).any (·.1) = false := by rfl) :
    PE X (.Call (.Attribute o name apos) (e :: es) [] cpos) (tBM X.K T r to t) := by
  intro pins s σ H Q I h
  refine wpAny_Call_method_late hbase hfew hline rfl (thn (ho pins s σ H _ I h) fun v s1 ⟨x, H1, I1, r1, ty, q1⟩ => ?_)
  obtain ⟨h1, h2⟩ := tyV_is I1 r1 ty
  refine ⟨T, id, pa, slot, hty, h1, h2, ?_⟩
  have hA := ha cpos pins s1 σ H1 _ I1 q1
  rw [hs] at hA ⊢
  refine Calls.callWith_builtin (by show (false || (backTo cpos (starEach es X.env)).any (·.1)) = false; rw [hplain] <;> rfl) (Calls.evalArgs_plain ?_)
  exact thn hA fun us s2 ⟨vs, H2, I2, r2, q2⟩ => hm pins s2 σ H2 x vs v us Q I2 r1 r2 q2
end
end L2
namespace L2
open PySem PySem.Spec PyProof.Rows
def MtM (X : Cx) (id : String) (r : V → List V → Hp → VK → Prop) : Prop :=
  ∀ (pins : List (Addr × Obj)) (s : Shared) (σ : St) (H : Hp) (x : V) (xs : List V) (v : Value) (us : List Value) (Q : VK), Inv X pins σ H s → RelV x v → Vals xs us → r x xs H Q →
    wpAny (model X.prog X.w) X.A (call (.builtin id) (v :: us)) (EP X pins σ Q) X.xe s
theorem Vals.one : ∀ {x : V} {us : List Value}, Vals [x] us → ∃ u, us = [u] ∧ RelV x u
  | _, _, .cons r .nil => ⟨_, rfl, r⟩
theorem Vals.zero : ∀ {us : List Value}, Vals [] us → us = []
  | _, .nil => rfl
theorem Vals.dropLast {xs : List V} {us : List Value} (h : Vals xs us) : Vals xs.dropLast us.dropLast := by
  induction h with
  | nil => exact .nil
  | cons r t ih =>
    cases t with
    | nil => exact .nil
    | cons q t' => exact .cons r ih
theorem erase_last {α : Type} (l : List α) : l.eraseIdx (l.length - 1) = l.dropLast := by
  induction l with
  | nil => rfl
  | cons a r ih =>
    cases r with
    | nil => rfl
    | cons b r =>
      have e : (a :: b :: r).length - 1 = ((b :: r).length - 1) + 1 := by
        have h1 : (a :: b :: r).length = r.length + 2 := rfl
        have h2 : (b :: r).length = r.length + 1 := rfl
        omega
      rw [e, List.eraseIdx_cons_succ, ih]
      all_goals rfl
section
variable {X : Cx} {pins : List (Addr × Obj)} {σ : St} {H : Hp} {s : Shared} {l b : Addr} {xs ys zs : List V}
theorem Inv.lset {its its' : List Value} {n : Nat} {f : Array Value → Array Value} {t' : Nat} (I : Inv X pins σ H s) (hH : H l = some (.lst xs))
    (e : s.heap.get? l = some { cls := .type "list", data := .seq its.toArray n }) (hf : f its.toArray = its'.toArray) (hv : Vals ys its') (hz : ys.length ≤ sizeLine) :
    Inv X pins σ (upd H l (.lst ys)) { s with heap := s.heap.update l (Obj.mapSeq f), toks := t' } := by
  have q := PySem.IsL.update e f
  rw [hf] at q
  refine I.write (x := l) (e := l) (by rw [hH]; exact trivial) (.inl rfl) (fun b' u hb hu => (Heap.get?_update_other s.heap (Obj.mapSeq f) (Ne.symm hb)).trans hu) ⟨_, q⟩ ?_
  exact ⟨hz, its', _, hv, q⟩
theorem Inv.lnew {its : List Value} {t' : Nat} (I : Inv X pins σ H s) (hv : Vals ys its) (hz : ys.length ≤ sizeLine) :
    Inv X pins σ (upd H s.heap.objs.size (.lst ys)) { s with heap := s.heap.push { cls := .type "list", data := .seq its.toArray }, toks := t' } :=
  I.laid (fun _ _ q => Heap.get?_push_of_some _ q) (Nat.le_refl _) ⟨hz, its, 0, hv, Heap.get?_push_size _ rfl⟩
theorem Inv.fresh (I : Inv X pins σ H s) : H s.heap.objs.size = none := I.hok.fresh (Nat.le_refl _)
theorem Inv.lstM (I : Inv X pins σ H s) (hH : H l = some (.lst xs)) : xs.length ≤ sizeLine ∧ ∃ (its : List Value) (n : Nat), Vals xs its ∧ xs.length = its.length ∧ s.heap.get? l = some { cls := .type "list", data := .seq its.toArray n } := by
  obtain ⟨z, its, n, r, e⟩ := I.hok l _ hH
  exact ⟨z, its, n, r, r.length, e⟩
end
section
variable {X : Cx}
def rAppend : V → List V → Hp → VK → Prop := fun x vs H Q => ∃ l xs y, x = .ref l ∧ vs = [y] ∧ H l = some (.lst xs) ∧ xs.length < sizeLine ∧ Q .non (upd H l (.lst (xs ++ [y])))
theorem mt_append : MtM X "list.append" rAppend := by
  intro pins s σ H x vs v us Q I rx rv h
  obtain ⟨l, xs, y, rfl, rfl, hH, hz, q⟩ := h
  cases rx
  obtain ⟨u, rfl, ru⟩ := rv.one
  obtain ⟨z, its, n, r, hl, e⟩ := I.lstM hH
  refine call_meets F.slot_list_append ⟨_, e, rfl⟩ F.entry_list_append (F.args_list_append_2 _ _) (PySem.list_append l its.toArray n u (by rw [List.size_toArray]; omega)) ⟨e, ?_⟩
  refine ⟨.non, _, I.lset (its' := its ++ [u]) hH e (by simp) (r.append (.cons ru .nil)) ?_, rfl, q⟩
  rw [List.length_append, List.length_singleton]
  omega
def rPop : V → List V → Hp → VK → Prop := fun x vs H Q => ∃ l xs y, x = .ref l ∧ vs = [] ∧ H l = some (.lst xs) ∧ xs[xs.length - 1]? = some y ∧ Q y (upd H l (.lst xs.dropLast))
theorem mt_pop : MtM X "list.pop" rPop := by
  intro pins s σ H x vs v us Q I rx rv h
  obtain ⟨l, xs, y, rfl, rfl, hH, hy, q⟩ := h
  cases rx
  have hus := rv.zero
  subst hus
  obtain ⟨z, its, n, r, hl, e⟩ := I.lstM hH
  obtain ⟨u, hu, ru⟩ := r.get hy
  have hy' : its.toArray[its.toArray.size - 1]? = some u := by
    show its.toArray[its.length - 1]? = some u
    rw [← Array.getElem?_toList, ← hl]
    exact hu
  refine call_meets F.slot_list_pop ⟨_, e, rfl⟩ F.entry_list_pop (F.args_list_pop_1 _) (MeetsSeq.list_pop_last l its.toArray n u hy' (by rw [List.size_toArray]; omega)) ⟨e, ?_⟩
  refine ⟨y, _, I.lset (its' := its.dropLast) hH e ?_ r.dropLast ?_, ru, q⟩
  · show its.toArray.eraseIdxIfInBounds (its.toArray.size - 1) = its.dropLast.toArray
    rw [List.size_toArray, List.eraseIdxIfInBounds_toArray, erase_last]
  · rw [List.length_dropLast]
    omega
end
section
variable {prog : Program} {w : World} {A : Around} {E : Value → Shared → Prop} {s : Shared}
end
section
variable {X : Cx}
end
end L2
namespace Att
open PySem PySem.W PySem.Calls PyProof.Rows
theorem ints_of_wellAll {P : Params} {h : Heap} : ∀ (ns : List Int) (vs : List Value), WellAll P h vs (ns.map WData.int) → IntsAre vs ns := by
  intro ns
  induction ns with
  | nil =>
    intro vs w
    rw [List.map_nil] at w
    cases w
    exact .nil
  | cons n ns ih =>
    intro vs w
    rw [List.map_cons] at w
    cases w with
    | cons a b =>
      cases a
      exact .cons _ _ (ih _ b)
theorem script_of {l : OpenLaw} {n : Nat} (hn : l.most = some n) {P : Params} {h : Heap} {args : List WData} {vals : List Value}
    (hpre : l.row.toRowW.claim.pre args = true) (hwl : WellAll P h vals args) :
    ∃ a vs ns, vals = [Value.ref a] ∧ args = [WData.list (ns.map WData.int)] ∧ h.get? a = some { cls := .type "list", data := .seq vs.toArray } ∧ IntsAre vs ns ∧ ns.length ≤ n := by
  have hsh : WShape.hasAll [] args [.list .int] = true := (pre_splitW hpre).1
  have hc : l.pre.holds [] { args := args } = true := (pre_splitW hpre).2
  obtain ⟨d, r, rfl, h1, h2⟩ := hasAllW_cons hsh
  obtain rfl := hasAllW_nil h2
  obtain ⟨xs, rfl, h3⟩ := hasW_list h1
  obtain ⟨ns, rfl⟩ := items_int h3
  have hlen : ns.length ≤ n := by
    unfold OpenLaw.pre at hc
    have h4 : (WTm.not (.lt (.lit (.int (n : Int))) (.len (.arg 0)))).holds [] { args := [.list (ns.map .int)] } = true := by
      have h4 := (holds_andW hc).1
      rw [hn] at h4
      exact h4
    have h5 := condW_of h4 (w_not (w_lt w_lit (w_len_list (w_arg rfl))))
    rw [List.length_map] at h5
    refine Nat.le_of_not_lt fun q => ?_
    have q' : (n : Int) < ((ns.length : Nat) : Int) := by omega
    first
      | (rw [decide_eq_true q'] at h5; exact absurd h5 (by decide))
      | (simp at h5; omega)
  cases hwl with
  | cons w1 w2 =>
    cases w2
    cases w1 with
    | list ho hall => exact ⟨_, _, ns, rfl, rfl, ho, ints_of_wellAll ns _ hall, hlen⟩
theorem post_true (l : OpenLaw) (args : List WData) : l.row.toRowW.claim.post args (.bool true) args = true :=
  postW_of (r := l.row.toRowW) (X := (true == true))
    (show WShape.has [] (.bool true) .bool = true by first | rfl | decide | simp [WShape.has, WShape.arms, WShape.armsAll])
    (show (WTm.eq .res (.lit (.bool true))).value [] { args := args, res := some (.bool true), after := args } = some (.bool (true == true)) from w_eq_bool (w_res rfl) w_lit) rfl
theorem attach_call {l : OpenLaw} {n : Nat} {q : Program} {loose : List Str} {XP : (Str → Option Value) → Heap → Prop} {YP : World → Heap → Prop} {d : DefRec}
    (hn : l.most = some n) (hdf : d.params.defaults = [])
    (call : ∀ (w : World) (s₀ s₁ : Shared) (mg mb : Str → Option Value) (fa : Addr) (o : Obj) (pm cd doc : Value) (a : Addr) (vs : List Value) (ns : List Int),
      Ground q loose [] XP w s₀ mg mb s₁.heap → YP w s₁.heap →
      s₁.heap.get? fa = some o → o.data = .func (docDef d.name d.params d.body d.scope pm cd doc) → s₁.heap.CodeRec cd d.name → mg d.name = some (.ref fa) →
      s₁.heap.get? a = some { cls := .type "list", data := .seq vs.toArray } → IntsAre vs ns → ns.length ≤ n → s₁.gens = #[] →
      codeAny (model l.prog w) callerA (.call (.ref fa) ⟨[.ref a], []⟩) (fun r s' => r = .ok (.ret (.bool true)) ∧ OldK s₁.heap s'.heap ∧ s'.os = s₁.os ∧ AllBare s'.gens) s₁) :
    WalkO q loose XP YP l.row.toRowW d [] (fun f vs => PySem.call f vs) := by
  intro w s₀ s₁ mg mb G Y fa o pm cd doc dV kV ho hd hcd hD hmg hg args vals as hpre hlay hrd hwl hlo
  obtain rfl : dV = .none := Dflts.none hD hdf
  obtain rfl : kV = .none := Dflts.noKw hD
  obtain ⟨a, vs, ns, rfl, rfl, hobj, hints, hlen⟩ := script_of hn hpre hwl
  refine enter_call (codeAny_mono (call w s₀ s₁ mg mb fa o pm cd doc a vs ns G Y ho (fd_plain hd) hcd hmg hobj hints hlen hg) fun r s' hq => ?_)
  obtain ⟨rfl, h2, h3, h4⟩ := hq
  exact ⟨.inl ⟨.bool true, .bool true, [], rfl, fun _ => rfl, .bool true, post_true l _, fun _ => ⟨List.Pairwise.nil, fun _ hm => (nomatch hm)⟩⟩, h2, h3, h4⟩
section
variable {prog : Program} {w : World} {A : Around} {E : Value → Shared → Prop} {s : Shared} {K : Frag}
end
end Att
namespace L2
open PySem PySem.Spec PyProof.Rows
theorem vals_ints : ∀ {vs : List Value} {ns : List Int}, IntsAre vs ns → Vals (ns.map V.int) vs
  | _, _, .nil => .nil
  | _, _, .cons n t h => .cons ⟨t, rfl⟩ (vals_ints h)
def Only (H : Hp) : Prop := ∀ b, H b = none ∨ (∃ o xs, H b = some (.frz o (.lst xs))) ∨ ∃ q, H b = some (.tbl q)
theorem law_call {P : Program} {w : World} {K : PySem.W.Frag} {mg mb : Str → Option Value} {CX : CXT} {k : Nat} {fa a : Addr} {fd : FuncData} {x : Str} {sp : Sp} {s₁ : Shared} {vs : List Value} {ns : List Int} {tb : List (Addr × Str)}
    (hT : ∀ b q, tb.lookup b = some q → s₁.heap.get? b = some { cls := .none, data := .fields #[] } ∧ K.lookup b = none ∧ ∃ c, s₁.heap.TableAt c b #[]) (hLm : ∀ T q, LamTab K T q → tb.lookup T = some q)
    (KX : K.In s₁.heap) (hns : s₁.heap.Ns mainGlobals mg) (hb : s₁.heap.Ns builtinsNs mb) (hbb : ∀ x : Str, x ≠ "__name__" → mb x = bootBuiltins x) (hlim : s₁.heap.NoLimit) (hbm : ∃ bm ob, mg "__builtins__" = some (.ref bm) ∧ bm ≠ builtinsNs ∧ s₁.heap.get? bm = some ob ∧ ob.cls = .type "module" ∧ ob.dict = some builtinsNs ∧ ob.data = .plain) (hg : s₁.gens = #[])
    (ha : s₁.heap.get? a = some { cls := .type "list", data := .seq vs.toArray }) (hi : IntsAre vs ns) (hl : ns.length ≤ sizeLine) (hr : Room k callerA)
    (F : ∀ base : Heap, K.In base → base.Ns mainGlobals mg → FnOk P w K mg base CX k fa fd [x] sp) (hbind : ∀ (s : Shared) (u : Value), BindsTo s fd ⟨[u], []⟩ [(x, u)])
    (hsp : ∀ H : Hp, Only H → SqL K H a (ns.map V.int) → sp [.ref a] H (fun v _ => v = .bl true) fun _ _ _ => False)
    (hCX : ∀ H e s', CX [] H s₁ (fun _ _ _ => False) e s' → False) :
    codeAny (model P w) callerA (.call (.ref fa) ⟨[.ref a], []⟩) (fun r s' => r = .ok (.ret (.bool true)) ∧ OldK s₁.heap s'.heap ∧ s'.os = s₁.os ∧ AllBare s'.gens) s₁ := by
  have rv := vals_ints hi
  have lenV := hi.length
  have core : ∀ H : Hp, Only H → SqL K H a (ns.map V.int) → HOk P w H s₁.heap → (∀ b u, H b = some u → (b = a ∧ K.lookup a = none) ∨ ∃ q, tb.lookup b = some q ∧ u = .tbl q) → (∀ b q, tb.lookup b = some q → H b = some (.tbl q)) →
      codeAny (model P w) callerA (.call (.ref fa) ⟨[.ref a], []⟩) (fun r s' => r = .ok (.ret (.bool true)) ∧ OldK s₁.heap s'.heap ∧ s'.os = s₁.os ∧ AllBare s'.gens) s₁ := by
    intro H hO hS hok hA hB
    have base_of : ∀ {b : Addr} {o : Obj}, s₁.heap.get? b = some o → H b = none → (hidT s₁.heap H).get? b = some o := fun e n => hidT_get e n
    have noA : ∀ {b : Addr} {o : Obj} {es : Array DictEntry} {ep : Nat}, s₁.heap.get? b = some o → o.data = .dict es ep → H b = none := fun {b o es ep} e d => by
      cases q : H b with
      | none => rfl
      | some u =>
        rcases hA b u q with ⟨e', _⟩ | ⟨q', e', _⟩
        · subst e'
          rw [ha] at e; cases e
          have d' : Data.seq vs.toArray _ = Data.dict es ep := d
          cases d'
        · rw [(hT b q' e').1] at e; cases e
          have d' : Data.fields _ = Data.dict es ep := d
          cases d'
    have nsK : ∀ {b : Addr} {m : Str → Option Value}, s₁.heap.Ns b m → (hidT s₁.heap H).Ns b m := fun {b m} ⟨o, es, ep, e, d, r⟩ => ⟨o, es, ep, base_of e (noA e d), d, r⟩
    have hKb : K.In (hidT s₁.heap H) := fun b o e => base_of (KX b o e) (by
      cases q : H b with
      | none => rfl
      | some u =>
        rcases hA b u q with ⟨e', hk⟩ | ⟨q', e', _⟩
        · subst e'
          rw [hk] at e; cases e
        · rw [(hT b q' e').2.1] at e; cases e)
    have hbmK : ∃ bm ob, mg "__builtins__" = some (.ref bm) ∧ bm ≠ builtinsNs ∧ (hidT s₁.heap H).get? bm = some ob ∧ ob.cls = .type "module" ∧ ob.dict = some builtinsNs ∧ ob.data = .plain := by
      obtain ⟨bm, ob, b1, b2, b3, b4, b5, b6⟩ := hbm
      refine ⟨bm, ob, b1, b2, base_of b3 ?_, b4, b5, b6⟩
      cases q : H bm with
      | none => rfl
      | some u =>
        rcases hA bm u q with ⟨e', _⟩ | ⟨q', e', _⟩
        · subst e'
          rw [ha] at b3; cases b3; cases b6
        · rw [(hT bm q' e').1] at b3; cases b3; cases b6
    have hM : Mod K mg (hidT s₁.heap H) := ⟨hKb, nsK hns, ⟨mb, nsK hb, hbb⟩, let ⟨mc, h1, h2⟩ := hlim; ⟨mc, nsK h1, h2⟩, hbmK⟩
    have e0 : Env0 P w K mg (hidT s₁.heap H) callerA [] s₁ H := ⟨rfl, hM, fun b o e => of_hidT e, Nat.le_of_eq (hidT_size _ _), trivial, fun b hb => absurd (show b ∈ ([] : List Addr) from hb) (by simp), hok, .of_eq hg, fun T q h => hB T q (hLm T q h)⟩
    refine codeAny_mono ((F _ hKb (nsK hns)).run callerA [] s₁ H ⟨[.ref a], []⟩ [.ref a] [.ref a] _ _ hr e0 (hbind s₁ (.ref a)) (.cons rfl .nil) (hsp H hO hS)) fun r s' h => ?_
    cases r with
    | error e => exact (hCX H e s' h).elim
    | ok fl =>
      cases fl with
      | next => exact False.elim h
      | brk => exact False.elim h
      | cont => exact False.elim h
      | ret u =>
        obtain ⟨v, H', os, bare, un, hok', r', q⟩ := h
        have q' : v = .bl true := q
        subst q'
        obtain rfl : u = Value.bool true := r'
        refine ⟨rfl, ⟨fun b o e => ?_, fun b o e => un.there b o e (by simp)⟩, os, bare⟩
        cases q : H b with
        | none => exact .inl (un.keep b o e q (by intro z; exact absurd (show b ∈ ([] : List Addr) from z) (by simp)) (by simp))
        | some u =>
          rcases hO b with z | ⟨ob, xs, z⟩ | ⟨q', z⟩
          · rw [q] at z; cases z
          · have z2 := un.frzs b ob _ z
            obtain ⟨e1, _⟩ := hok b _ z
            obtain ⟨e2, _⟩ := hok' b _ z2
            rw [e] at e1; cases e1
            exact .inl e2
          · obtain ⟨ps, e2, _⟩ := hok' b _ (un.tbls b q' z)
            rcases hA b _ z with ⟨e', _⟩ | ⟨q2, e', _⟩
            · obtain ⟨ps0, e0, _⟩ := hok b _ z
              subst e'
              rw [ha] at e0; cases e0
            · obtain ⟨t1, _, c, t2⟩ := hT b q2 e'
              rw [e] at t1; cases t1
              exact .inr (.inl ⟨t2.isCodeTable, rfl, #[], ps, rfl, by simpa using e2⟩)
  cases hk : K.lookup a with
  | some o =>
    have e := KX a o hk
    rw [ha] at e
    cases e
    refine core (fun b => (tb.lookup b).map .tbl) (fun b => ?_) (.inr ⟨_, vs.toArray, _, hk, rfl, rfl, rfl, by rw [List.size_toArray, lenV]; exact hl, by simpa using rv⟩) (fun b u z => ?_) (fun b u z => ?_) fun b q z => by show (tb.lookup b).map HO.tbl = _; rw [z]; rfl
    · cases z : tb.lookup b with
      | none => exact .inl (by show (tb.lookup b).map HO.tbl = _; rw [z]; rfl)
      | some q => exact .inr (.inr ⟨q, by show (tb.lookup b).map HO.tbl = _; rw [z]; rfl⟩)
    · have z : (tb.lookup b).map HO.tbl = some u := z
      cases q : tb.lookup b with
      | none => rw [q] at z; cases z
      | some q' =>
        rw [q] at z; cases z
        exact ⟨#[], (hT b q' q).1, trivial, fun pos cv h => by cases (show (none : Option Value) = some cv from h)⟩
    · have z : (tb.lookup b).map HO.tbl = some u := z
      cases q : tb.lookup b with
      | none => rw [q] at z; cases z
      | some q' => rw [q] at z; cases z; exact .inr ⟨q', rfl, rfl⟩
  | none =>
    have hna : tb.lookup a = none := by
      cases z : tb.lookup a with
      | none => rfl
      | some q =>
        have e := (hT a q z).1
        rw [ha] at e
        cases e
    have hne : ∀ b, b ≠ a → (if b = a then some (HO.frz { cls := .type "list", data := .seq vs.toArray } (.lst (ns.map V.int))) else (tb.lookup b).map .tbl) = (tb.lookup b).map .tbl := fun b hb => if_neg hb
    refine core (fun b => if b = a then some (.frz { cls := .type "list", data := .seq vs.toArray } (.lst (ns.map V.int))) else (tb.lookup b).map .tbl) (fun b => ?_) (.inl (.inr ⟨{ cls := .type "list", data := .seq vs.toArray }, if_pos rfl⟩)) (fun b u z => ?_) (fun b u z => ?_) fun b q z => ?_
    · by_cases hb : b = a
      · exact .inr (.inl ⟨_, _, if_pos hb⟩)
      · dsimp only
        rw [hne b hb]
        cases z : tb.lookup b with
        | none => exact .inl rfl
        | some q => exact .inr (.inr ⟨q, rfl⟩)
    · by_cases hb : b = a
      · have z' := (if_pos hb).symm.trans z
        cases z'
        subst hb
        exact ⟨ha, by rw [List.length_map]; exact hl, vs, _, rv, ha⟩
      · have z : (tb.lookup b).map HO.tbl = some u := (hne b hb).symm.trans z
        cases q : tb.lookup b with
        | none => rw [q] at z; cases z
        | some q' =>
          rw [q] at z; cases z
          exact ⟨#[], (hT b q' q).1, trivial, fun pos cv h => by cases (show (none : Option Value) = some cv from h)⟩
    · by_cases hb : b = a
      · exact .inl ⟨hb, hk⟩
      · have z : (tb.lookup b).map HO.tbl = some u := (hne b hb).symm.trans z
        cases q : tb.lookup b with
        | none => rw [q] at z; cases z
        | some q' => rw [q] at z; cases z; exact .inr ⟨q', rfl, rfl⟩
    · have hb : b ≠ a := fun e => by subst e; rw [hna] at z; cases z
      exact (hne b hb).trans (by rw [z]; rfl)
end L2
namespace L2
open PySem PySem.Spec PyProof.Rows
theorem walk_of {l : PySem.W.OpenLaw} {n k : Nat} {q : Program} {loose : List Str} {XP : (Str → Option Value) → Heap → Prop} {YP : World → Heap → Prop} {d : DefRec} {K : Params → PySem.W.Frag} {CX : World → CXT} {sp : World → Sp} {x : Str}
    (hn : l.most = some n) (hn2 : n ≤ sizeLine) (hdf : d.params.defaults = []) (hr : Room k callerA)
    (hTb : ∀ (w : World) (s₀ : Shared) (mg mb : Str → Option Value) (h : Heap), PySem.W.Ground q loose [] XP w s₀ mg mb h → (K w.params).In h → ∃ tb : List (Addr × Str), (∀ b q, tb.lookup b = some q → h.get? b = some { cls := .none, data := .fields #[] } ∧ (K w.params).lookup b = none ∧ ∃ c, h.TableAt c b #[]) ∧ ∀ T q, LamTab (K w.params) T q → tb.lookup T = some q)
    (hY : ∀ (w : World) (h : Heap), YP w h → (K w.params).In h)
    (F : ∀ (w : World) (mg : Str → Option Value) (fa : Addr) (h : Heap), (K w.params).In h → h.Ns mainGlobals mg → mg d.name = some (.ref fa) →
      ∃ fd : FuncData, (∀ (s : Shared) (u : Value), BindsTo s fd ⟨[u], []⟩ [(x, u)]) ∧
        ∀ base : Heap, (K w.params).In base → base.Ns mainGlobals mg → FnOk l.prog w (K w.params) mg base (CX w) k fa fd [x] (sp w))
    (hsp : ∀ (w : World) (H : Hp) (a : Addr) (ns : List Int), ns.length ≤ n → Only H → SqL (K w.params) H a (ns.map V.int) → sp w [.ref a] H (fun v _ => v = .bl true) fun _ _ _ => False)
    (hCX : ∀ (w : World) (H : Hp) (s : Shared) (e : Value) (s' : Shared), CX w [] H s (fun _ _ _ => False) e s' → False) :
    PySem.W.WalkO q loose XP YP l.row.toRowW d [] (fun f vs => PySem.call f vs) := by
  refine Att.attach_call hn hdf fun w s₀ s₁ mg mb fa o pm cd doc a vs ns G Y ho hd hcd hmg hobj hints hlen hg => ?_
  have KX := hY w _ Y
  obtain ⟨fd, hb, hF⟩ := F w mg fa _ KX G.T.g hmg
  obtain ⟨tb, hT, hLm⟩ := hTb w s₀ mg mb _ G KX
  exact law_call hT hLm KX G.T.g G.T.b G.T.builtins G.T.nolimit G.T.bmain hg hobj hints (Nat.le_trans hlen hn2) hr hF hb (fun H hO hS => hsp w H a ns hlen hO hS) fun H e s' => hCX w H s₁ e s'
end L2
namespace L2
open PySem PySem.Spec PyProof.Rows
def inClass (s : Stmt) (j : Nat) : Stmt := match s with
  | .ClassDef _ _ _ body _ _ _ _ _ _ _ => body.getD j (.Pass ⟨0, 0, 0, 0⟩)
  | _ => .Pass ⟨0, 0, 0, 0⟩
def defArgs (s : Stmt) : Arguments := match s with
  | .FunctionDef _ a _ _ _ _ _ _ _ _ => a
  | _ => { posonlyargs := [], args := [], vararg := none, kwonlyargs := [], kw_defaults := [], kwarg := none, defaults := [] }
def defBody (s : Stmt) : List Stmt := match s with
  | .FunctionDef _ _ b _ _ _ _ _ _ _ => b
  | _ => []
def defScope (s : Stmt) : Scope := match s with
  | .FunctionDef _ _ _ _ _ _ sc _ _ _ => sc
  | _ => { kind := .function, names := [], isGenerator := false, isCoroutine := false }
abbrev CX0 : CXT := fun _ _ _ _ _ _ => False
abbrev E0 : XK := fun _ _ _ => False
theorem pass0 {X : Cx} : Passes CX0 X E0 := fun _ _ _ _ _ _ _ h => h.elim
structure Fun (K : PySem.W.Frag) (x qual : Str) (st : Stmt) (f : Addr) (fd : FuncData) : Prop where
  ex : ∃ (oc : Value) (od : Option Addr) (kV doc pm : Value) (an : Option Addr) (cdv ct : Value) (osl : Array (Option Value)),
    fd = PySem.W.fnOf x qual (defArgs st) (defBody st) (defScope st) .none kV doc pm an cdv ct ∧ K.lookup f = some ⟨oc, od, .func fd, osl⟩ ∧ PySem.W.codeIn K cdv qual = true
  kp : PySem.W.keepIn K (.ref f) = true
section
variable {P : Program} {w : World} {K : PySem.W.Frag} {mg : Str → Option Value} {base : Heap}
theorem Fun.ok {x qual : Str} {st : Stmt} {f : Addr} {fd : FuncData} {N ps : List Str} {k : Nat} {sp : Sp} (F : Fun K x qual st f fd) (S : FnScope N ps (defScope st)) (len : ∀ vs H Q E, sp vs H Q E → vs.length = ps.length)
    (hbody : ∀ (cdv : Value) (A : Around) (outer : List Env) (s : Shared) (H : Hp) (vs : List V) (Q : VK) (E : XK), Room k (A.deeper (envOfC qual (defScope st) s.heap.objs.size f cdv)) → sp vs H Q E →
      ∃ t, PSs (cxOf CX0 P w K mg base N qual (defScope st) f cdv A outer s H E).nox (defBody st) t ∧ t { nx := fun _ H' => Q .non H', rt := Q } (start N vs) H) : FnOk P w K mg base CX0 (k + 1) f fd ps sp := by
  obtain ⟨oc, od, kV, doc, pm, an, cdv, ct, osl, rfl, lk, hcd⟩ := F.ex
  refine fn_of lk hcd S len fun A outer s H vs Q E hr hsp => ?_
  obtain ⟨t, h, q⟩ := hbody cdv A outer s H vs Q E hr hsp
  exact ⟨t, h.nox, q⟩
theorem Fun.binds {x qual : Str} {st : Stmt} {f : Addr} {fd : FuncData} {ps : List Str} (F : Fun K x qual st f fd)
    (h : ∀ (kV doc pm : Value) (an : Option Addr) (cdv ct : Value) (us : List Value), us.length = ps.length → bindArgs (PySem.W.fnOf x qual (defArgs st) (defBody st) (defScope st) .none kV doc pm an cdv ct) ⟨us, []⟩ = pure (ps.zip us)) : Binds K fd ps [] := by
  obtain ⟨oc, od, kV, doc, pm, an, cdv, ct, osl, rfl, lk, hcd⟩ := F.ex
  exact .all (h kV doc pm an cdv ct)
theorem fun_mk {x qual : Str} {st : Stmt} {f : Addr} {oc : Value} {od an : Option Addr} {osl : Array (Option Value)} {kV doc pm cdv ct : Value} (l : K.lookup f = some ⟨oc, od, .func (PySem.W.fnOf x qual (defArgs st) (defBody st) (defScope st) .none kV doc pm an cdv ct), osl⟩)
    (c : PySem.W.codeIn K cdv qual = true) (k : PySem.W.keepIn K (.ref f) = true) : Fun K x qual st f (PySem.W.fnOf x qual (defArgs st) (defBody st) (defScope st) .none kV doc pm an cdv ct) := ⟨⟨oc, od, kV, doc, pm, an, cdv, ct, osl, rfl, l, c⟩, k⟩
end
section
variable {X : Cx}
theorem pv (i : Nat) {x : Str} {pos : Pos} (hN : X.N[i]? = some x := by rfl) (hv : Vis X.env.scope x := by first | exact Or.inl rfl | exact Or.inr (Or.inl rfl) | exact Or.inr (Or.inr rfl)) (hd : (x == ("__debug__" : Str)) = false := by decide)
    (hcd : (x == ("__classdict__" : Str)) = false := by decide) : PE X (.Name x pos) (tVar i) := pe_var hN hv hd hcd
end
theorem ite2 {c A B : Prop} [Decidable c] (h1 : c → A) (h2 : ¬ c → B) : if c then A else B := by
  by_cases h : c
  · rw [if_pos h]
    exact h1 h
  · rw [if_neg h]
    exact h2 h
def Same (H H' : Hp) : Prop := ∀ b o, H b = some o → H' b = some o
theorem Same.refl (H : Hp) : Same H H := fun _ _ h => h
theorem Same.trans {H H1 H2 : Hp} (a : Same H H1) (b : Same H1 H2) : Same H H2 := fun c o h => b c o (a c o h)
theorem Same.free {H H' : Hp} (e : Same H H') {l : Addr} (h : H' l = Option.none) : H l = Option.none := by
  cases q : H l with
  | none => rfl
  | some o =>
    rw [e l o q] at h
    cases h
end L2
set_option maxHeartbeats 4000000
namespace L2
open PySem PySem.Spec PyProof.Rows
def clFrom (env : Env) : List (Str × NameKind) → List (Str × Addr) → List (Str × Addr)
  | [], acc => acc
  | (n, k) :: r, acc => if (k == .free) = true then clFrom env r ((n, (env.cells.lookup n).getD 0) :: acc) else clFrom env r acc
theorem closure_go {env : Env} (f : Str × NameKind → List (Str × Addr) → Sem (ForInStep (List (Str × Addr))))
    (hf : ∀ name kind cs, f (name, kind) cs = if (kind == .free) = true then (do let c ← cellOf env name; pure (.yield ((name, c) :: cs))) else pure (.yield cs)) :
    ∀ (names : List (Str × NameKind)) (acc : List (Str × Addr)), (∀ y ∈ names, y.2 = .free → (env.cells.lookup y.1).isSome = true) → forIn names acc f = (pure (clFrom env names acc) : Sem _)
  | [], acc, _ => by rw [List.forIn_nil]; rfl
  | (n, k) :: r, acc, h => by
    rw [List.forIn_cons, hf]
    unfold clFrom
    by_cases hk : (k == NameKind.free) = true
    · rw [if_pos hk, if_pos hk]
      obtain ⟨c, hc⟩ := Option.isSome_iff_exists.mp (h (n, k) List.mem_cons_self (by simpa using hk))
      have e : cellOf env n = pure c := by unfold cellOf; rw [hc]
      rw [e, hc]
      simp only [pure_bind]
      exact closure_go f hf r _ fun y hy => h y (List.mem_cons_of_mem _ hy)
    · rw [if_neg hk, if_neg hk]
      simp only [pure_bind]
      exact closure_go f hf r _ fun y hy => h y (List.mem_cons_of_mem _ hy)
theorem closureFor_cl {scope : Scope} {env : Env} (h : ∀ y ∈ scope.names, y.2 = .free → (env.cells.lookup y.1).isSome = true) : closureFor scope env = pure (clFrom env scope.names []) := by
  simp only [closureFor]
  rw [closure_go (env := env) _ (fun name kind cs => by cases hk : kind == NameKind.free <;> simp [hk]) scope.names [] h]
  rfl
theorem clFrom_lookup (env : Env) (x : Str) : ∀ (names : List (Str × NameKind)) (acc : List (Str × Addr)), (clFrom env names acc).lookup x = if (x, NameKind.free) ∈ names then some ((env.cells.lookup x).getD 0) else acc.lookup x
  | [], acc => by simp [clFrom]
  | (n, k) :: r, acc => by
    unfold clFrom
    by_cases hk : (k == NameKind.free) = true
    · have ek : k = NameKind.free := by simpa using hk
      subst ek
      rw [if_pos hk, clFrom_lookup env x r]
      by_cases hr : (x, NameKind.free) ∈ r
      · rw [if_pos hr, if_pos (List.mem_cons_of_mem _ hr)]
      · rw [if_neg hr, List.lookup_cons]
        by_cases hx : x = n
        · subst hx
          simp
        · have e1 : (x == n) = false := beq_eq_false_iff_ne.mpr hx
          rw [e1]
          have e2 : ¬ (x, NameKind.free) ∈ (n, NameKind.free) :: r := by
            intro z
            rcases List.mem_cons.mp z with z | z
            · exact hx (Prod.mk.inj z).1
            · exact hr z
          rw [if_neg e2]
    · rw [if_neg hk, clFrom_lookup env x r]
      have e2 : (x, NameKind.free) ∈ (n, k) :: r ↔ (x, NameKind.free) ∈ r := by
        constructor
        · intro z
          rcases List.mem_cons.mp z with z | z
          · exact absurd (by rw [(Prod.mk.inj z).2.symm]; rfl) hk
          · exact z
        · exact List.mem_cons_of_mem _
      by_cases hr : (x, NameKind.free) ∈ r
      · rw [if_pos hr, if_pos (e2.mpr hr)]
      · rw [if_neg hr, if_neg (fun z => hr (e2.mp z))]
theorem cellsFrom_app : ∀ (names : List (Str × NameKind)) (n : Nat) (acc : List (Str × Addr)), cellsFrom n names acc = cellsFrom n names [] ++ acc
  | [], n, acc => by simp [cellsFrom]
  | (x, k) :: r, n, acc => by
    unfold cellsFrom
    split
    · rw [cellsFrom_app r (n + 1) ((x, n) :: acc), cellsFrom_app r (n + 1) [(x, n)]]
      simp
    · exact cellsFrom_app r n acc
theorem cellsFrom_mem : ∀ (names : List (Str × NameKind)) (n : Nat) (x : Str) (c : Addr), (x, c) ∈ cellsFrom n names [] → (x, NameKind.cell) ∈ names ∧ n ≤ c
  | [], n, x, c, h => by simp [cellsFrom] at h
  | (y, k) :: r, n, x, c, h => by
    unfold cellsFrom at h
    split at h
    · rename_i hk
      rw [cellsFrom_app] at h
      rcases List.mem_append.mp h with h | h
      · have q := cellsFrom_mem r (n + 1) x c h
        exact ⟨List.mem_cons_of_mem _ q.1, by omega⟩
      · have e : (x, c) = (y, n) := by simpa using h
        cases e
        have ek : k = NameKind.cell := by simpa using hk
        subst ek
        exact ⟨List.mem_cons_self, Nat.le_refl _⟩
    · have q := cellsFrom_mem r n x c h
      exact ⟨List.mem_cons_of_mem _ q.1, q.2⟩
theorem lookup_of_mem_nodup {α : Type} : ∀ {l : List (Str × α)} {x : Str} {k : α}, (l.map (·.1)).Nodup → (x, k) ∈ l → l.lookup x = some k
  | (y, j) :: r, x, k, nd, h => by
    rw [List.lookup_cons]
    rcases List.mem_cons.mp h with e | h
    · cases e; simp
    · have nd' := List.nodup_cons.mp nd
      have this : x ≠ y := fun z => nd'.1 (by
        rw [← z]
        exact List.mem_map.mpr ⟨(x, k), h, rfl⟩)
      rw [beq_eq_false_iff_ne.mpr this]
      exact lookup_of_mem_nodup nd'.2 h
theorem newBlockEnv {M : Model} {A : Around} {E : Value → Shared → Prop} {s : Shared} {scope : Scope} {globals : Addr} {cl : List (Str × Addr)} {qual : Str} {env : Env} {Q : Env → Shared → Prop}
    (h : Q (newEnv scope s.heap.objs.size globals (cellsFrom (s.heap.objs.size + 1) scope.names cl) qual none .none (some env) builtinsNs) { s with heap := pushCells (s.heap.push { cls := .type "dict", data := .dict #[] }) scope.names }) :
    wpAny M A (newFunctionEnv scope globals cl [] qual none .none (some env)) Q E s := by
  simp only [newFunctionEnv, Option.isSome_some, if_true]
  refine wpAny_bind (wpAny_alloc ?_)
  refine wpAny_bind (wpAny_layCells _ (fun name kind cells => by cases hkc : kind == NameKind.cell <;> simp [hkc]) _ _ _ _ ?_)
  rw [show ({ s with heap := s.heap.push { cls := .type "dict", data := .dict #[] } } : Shared).heap.objs.size = s.heap.objs.size + 1 from Heap.size_push ..]
  rw [List.forIn_nil]
  exact wpAny_bind (wpAny_pure (wpAny_pure h))
structure BScope (N : List Str) (env : Env) (N' : List Str) (ix : List (Option Nat)) (sc : Scope) : Prop where
  kind : sc.kind = .function
  ndn : (sc.names.map (·.1)).Nodup
  free : ∀ y ∈ sc.names, y.2 = .free → env.kindOf y.1 = some .cell ∨ env.kindOf y.1 = some .free
  len : ix.length = N'.length
  cap : ∀ (i j : Nat), ix[i]? = some (some j) → ∃ x, N'[i]? = some x ∧ N[j]? = some x ∧ sc.names.lookup x = some .free
theorem BScope.names {N : List Str} {env : Env} {N' : List Str} {ix : List (Option Nat)} {sc : Scope} (S : BScope N env N' ix sc) : ∀ y ∈ sc.names, y.2 = .local → sc.names.lookup y.1 = some .local := fun y hy e => by
  obtain ⟨x, k⟩ := y
  cases e
  exact lookup_of_mem_nodup S.ndn hy
def capS (σ : St) (ix : List (Option Nat)) : St := ix.map fun o => o.bind fun j => (σ[j]?).join
def bEnv (sc : Scope) (C : Addr) (env : Env) : Env := compEnvC sc (cellsFrom (C + 1) sc.names (clFrom env sc.names [])) C env
def bCx (X : Cx) (N' : List Str) (sc : Scope) (s : Shared) (H : Hp) (C : Addr) (fp : List Addr) : Cx where
  prog := X.prog
  w := X.w
  K := X.K
  mg := X.mg
  base := X.base
  A := X.A
  N := N'
  s₀ := s
  H₀ := H
  env := bEnv sc C X.env
  outer := X.stack
  stack := X.stack
  ex := fp
  fn := fun x => decide (sc.names.lookup x = some .cell)
  calm := X.calm
  pn := []
  xe := fun _ _ => False
theorem lookup_relabel {env : Env} : ∀ {names : List (Str × NameKind)} {x : Str} {k : NameKind}, names.lookup x = some k →
    (names.map fun (n, k) => if (k == NameKind.free && env.scope.kind == .function && env.kindOf n == some .cell) then (n, NameKind.cell) else (n, k)).lookup x = some (if (k == NameKind.free && env.scope.kind == .function && env.kindOf x == some .cell) = true then .cell else k)
  | [], _, _, h => by simp at h
  | (n, j) :: r, x, k, h => by
    have ih := @lookup_relabel env r x k
    show List.lookup x ((if (j == NameKind.free && env.scope.kind == .function && env.kindOf n == some .cell) = true then (n, NameKind.cell) else (n, j)) :: _) = _
    cases hx : x == n with
    | true =>
      have e : x = n := by simpa using hx
      subst e
      simp only [List.lookup_cons, hx] at h
      have ej : j = k := Option.some.inj h
      subst ej
      by_cases hc : (j == NameKind.free && env.scope.kind == .function && env.kindOf x == some .cell) = true
      · rw [if_pos hc, if_pos hc]; simp [List.lookup_cons]
      · rw [if_neg hc, if_neg hc]; simp [List.lookup_cons]
    | false =>
      simp only [List.lookup_cons, hx] at h
      by_cases hc : (j == NameKind.free && env.scope.kind == .function && env.kindOf n == some .cell) = true
      · rw [if_pos hc]; simp only [List.lookup_cons, hx]; exact ih h
      · rw [if_neg hc]; simp only [List.lookup_cons, hx]; exact ih h
theorem lookup_relabel_none {env : Env} : ∀ {names : List (Str × NameKind)} {x : Str}, names.lookup x = none →
    (names.map fun (n, k) => if (k == NameKind.free && env.scope.kind == .function && env.kindOf n == some .cell) then (n, NameKind.cell) else (n, k)).lookup x = none
  | [], _, _ => rfl
  | (n, j) :: r, x, h => by
    have ih := @lookup_relabel_none env r x
    show List.lookup x ((if (j == NameKind.free && env.scope.kind == .function && env.kindOf n == some .cell) = true then (n, NameKind.cell) else (n, j)) :: _) = _
    cases hx : x == n with
    | true => simp only [List.lookup_cons, hx] at h; cases h
    | false =>
      simp only [List.lookup_cons, hx] at h
      by_cases hc : (j == NameKind.free && env.scope.kind == .function && env.kindOf n == some .cell) = true
      · rw [if_pos hc]; simp only [List.lookup_cons, hx]; exact ih h
      · rw [if_neg hc]; simp only [List.lookup_cons, hx]; exact ih h
theorem bEnv_kind {sc : Scope} {C : Addr} {env : Env} {x : Str} {k : NameKind} (h : sc.names.lookup x = some k) : (bEnv sc C env).kindOf x = some (if (k == NameKind.free && env.scope.kind == .function && env.kindOf x == some .cell) = true then .cell else k) := lookup_relabel h
theorem bEnv_none {sc : Scope} {C : Addr} {env : Env} {x : Str} (h : sc.names.lookup x = none) : (bEnv sc C env).kindOf x = none := lookup_relabel_none h
section
variable {X : Cx} {N' : List Str} {ix : List (Option Nat)} {sc : Scope}
theorem bCells (S : BScope X.N X.env N' ix sc) {C : Addr} {x : Str} {c : Addr} (h : (bEnv sc C X.env).cells.lookup x = some c) :
    (sc.names.lookup x = some .cell ∧ C + 1 ≤ c ∧ (x, c) ∈ cellsFrom (C + 1) sc.names []) ∨ (sc.names.lookup x = some .free ∧ c = (X.env.cells.lookup x).getD 0) := by
  have e : (bEnv sc C X.env).cells = cellsFrom (C + 1) sc.names [] ++ clFrom X.env sc.names [] := cellsFrom_app _ _ _
  rw [e] at h
  rcases List.mem_append.mp (mem_of_lookup h) with q | q
  · obtain ⟨a, b⟩ := cellsFrom_mem _ _ _ _ q
    exact .inl ⟨lookup_of_mem_nodup S.ndn a, b, q⟩
  · have fr : (x, NameKind.free) ∈ sc.names := by
      have z : ∀ (names : List (Str × NameKind)) (acc : List (Str × Addr)), (x, c) ∈ clFrom X.env names acc → (x, c) ∈ acc ∨ (x, NameKind.free) ∈ names := by
        intro names
        induction names with
        | nil => intro acc h; exact .inl h
        | cons y r ih =>
          obtain ⟨n, k⟩ := y
          intro acc h
          unfold clFrom at h
          split at h
          · rename_i hk
            have ek : k = NameKind.free := by simpa using hk
            subst ek
            rcases ih _ h with h | h
            · rcases List.mem_cons.mp h with h | h
              · cases h; exact .inr List.mem_cons_self
              · exact .inl h
            · exact .inr (List.mem_cons_of_mem _ h)
          · rcases ih _ h with h | h
            · exact .inl h
            · exact .inr (List.mem_cons_of_mem _ h)
      rcases z _ _ q with q | q
      · simp at q
      · exact q
    have hf := lookup_of_mem_nodup S.ndn fr
    have hn : (cellsFrom (C + 1) sc.names []).lookup x = none := by
      cases z : (cellsFrom (C + 1) sc.names []).lookup x with
      | none => rfl
      | some d =>
        have q' := cellsFrom_mem _ _ _ _ (mem_of_lookup z)
        have := lookup_of_mem_nodup S.ndn q'.1
        rw [hf] at this; cases this
    rw [List.lookup_append, hn, clFrom_lookup, if_pos fr] at h
    exact .inr ⟨hf, (Option.some.inj (by simpa using h)).symm⟩
theorem bCells_free (S : BScope X.N X.env N' ix sc) {C : Addr} {x : Str} (h : sc.names.lookup x = some .free) : (bEnv sc C X.env).cells.lookup x = some ((X.env.cells.lookup x).getD 0) := by
  have e : (bEnv sc C X.env).cells = cellsFrom (C + 1) sc.names [] ++ clFrom X.env sc.names [] := cellsFrom_app _ _ _
  have hn : (cellsFrom (C + 1) sc.names []).lookup x = none := by
    cases z : (cellsFrom (C + 1) sc.names []).lookup x with
    | none => rfl
    | some d =>
      have q' := cellsFrom_mem _ _ _ _ (mem_of_lookup z)
      have := lookup_of_mem_nodup S.ndn q'.1
      rw [h] at this; cases this
  rw [e, List.lookup_append, hn, clFrom_lookup, if_pos (mem_of_lookup h)]
  rfl
theorem bCells_own {C : Addr} {env : Env} {x : Str} (h : sc.names.lookup x = some .cell) : ∃ c, (bEnv sc C env).cells.lookup x = some c := by
  have e : (bEnv sc C env).cells = cellsFrom (C + 1) sc.names [] ++ clFrom env sc.names [] := cellsFrom_app _ _ _
  obtain ⟨c, hc⟩ := cell_has (n := C + 1) h
  exact ⟨c, by rw [e, List.lookup_append, hc]; rfl⟩
theorem block_start {pins : List (Addr × Obj)} {σ : St} {H : Hp} {s : Shared} {fp : List Addr} (S : BScope X.N X.env N' ix sc) (I : Inv X pins σ H s) (hf : ∀ b ∈ fp, FpOk X pins H b) (hlt : ∀ b ∈ fp, b < s.heap.objs.size) :
    Inv (bCx X N' sc s H (s.heap.objs.size + 1) fp) [] (capS σ ix) H
      { s with heap := pushCells ((s.heap.push { cls := .type "list", data := .seq #[] }).push { cls := .type "dict", data := .dict #[] }) sc.names } := by
  have sz1 : (s.heap.push { cls := .type "list", data := .seq #[] }).objs.size = s.heap.objs.size + 1 := Heap.size_push ..
  have keep : ∀ b o, s.heap.get? b = some o → (pushCells ((s.heap.push { cls := .type "list", data := .seq #[] }).push { cls := .type "dict", data := .dict #[] }) sc.names).get? b = some o := fun b o e =>
    pushCells_keeps _ _ b o (Heap.get?_push_of_some _ (Heap.get?_push_of_some _ e))
  have ok := cellsFrom_ok sc.names ((s.heap.push { cls := .type "list", data := .seq #[] }).push { cls := .type "dict", data := .dict #[] }) (s.heap.objs.size + 2) [] ⟨fun _ _ hm => (nomatch hm), List.Pairwise.nil⟩ (by rw [Heap.size_push, sz1]; exact Nat.le_refl _)
  rw [Heap.size_push, sz1] at ok
  have cOld : ∀ x c, sc.names.lookup x = some .free → c = (X.env.cells.lookup x).getD 0 → X.env.cells.lookup x = some c := fun x c h1 h2 => by
    obtain ⟨d, hd⟩ := I.ok.has x (S.free (x, .free) (mem_of_lookup h1) rfl)
    rw [hd] at h2 ⊢
    rw [h2]; rfl
  have hold : ∀ x c, X.env.cells.lookup x = some c → c < s.heap.objs.size := fun x c e => by
    obtain ⟨v, q⟩ := I.cell x c e
    exact q.lt
  refine ⟨⟨I.ok.mod, S.kind, I.ok.glob, I.ok.blt, Nat.le_succ _, fun x y c h1 h2 => ?_, fun x hx => ?_, fun x c hx h => ?_, I.ok.hd, I.ok.frames, .inl rfl, fun b hb => ⟨?_, fun x c h => ?_⟩, I.bs, Nat.le_trans I.ok.bsz I.sz, fun b o e hb => ?_, fun b hb => ?_, I.stack, I.stkFree, fun T q h => I.base.tbls T q (I.ok.tab T q h)⟩,
    rfl, I.bare, Un.kept keep, ⟨fun _ => none, ?_, fun i x v e1 e2 e3 => ?_⟩, fun x c h => ?_, I.hok.fresh (Nat.le_succ _), fun x c h => ?_, fun p hp => absurd (show p ∈ ([] : List (Addr × Obj)) from hp) (by simp), I.hok.kept keep, ?_⟩
  · rcases bCells S h1 with ⟨a1, b1, q1⟩ | ⟨a1, b1⟩ <;> rcases bCells S h2 with ⟨a2, b2, q2⟩ | ⟨a2, b2⟩
    · exact name_of_addr ok.apart q1 q2
    · exact absurd (hold y c (cOld y c a2 b2)) (Nat.not_lt.mpr (Nat.le_trans (Nat.le_add_right _ 2) b1))
    · exact absurd (hold x c (cOld x c a1 b1)) (Nat.not_lt.mpr (Nat.le_trans (Nat.le_add_right _ 2) b2))
    · exact I.ok.inj x y c (cOld x c a1 b1) (cOld y c a2 b2)
  · cases q : sc.names.lookup x with
    | none =>
      have z := bEnv_none (C := s.heap.objs.size + 1) (env := X.env) q
      rcases hx with hx | hx
      · exact absurd (hx.symm.trans z) (by simp)
      · exact absurd (hx.symm.trans z) (by simp)
    | some k =>
      have z := bEnv_kind (C := s.heap.objs.size + 1) (env := X.env) q
      cases k with
      | free => exact ⟨_, bCells_free S q⟩
      | cell => exact bCells_own q
      | _ =>
        rcases hx with hx | hx
        · have := hx.symm.trans z
          simp at this
        · have := hx.symm.trans z
          simp at this
  · have hx' : sc.names.lookup x = some .cell := of_decide_eq_true hx
    rcases bCells S h with ⟨_, b1, _⟩ | ⟨a1, _⟩
    · exact Nat.le_trans (by omega : s.heap.objs.size ≤ s.heap.objs.size + 1 + 1) b1
    · rw [hx'] at a1; cases a1
  · exact Nat.ne_of_lt (Nat.lt_succ_of_lt (hlt b hb))
  · obtain ⟨f0, f1, f2, f3, f4, f5⟩ := hf b hb
    rcases bCells S h with ⟨_, b1, _⟩ | ⟨a1, b1⟩
    · exact Nat.ne_of_gt (Nat.lt_of_lt_of_le (hlt b hb) (Nat.le_trans (Nat.le_add_right _ 2) b1))
    · exact f4 x c (cOld x c a1 b1)
  · obtain ⟨f0, f1, f2, f3, f4, f5⟩ := hf b hb
    rcases f3 with f3 | f3
    · exact I.ok.noex b o e f3
    · exact absurd (Nat.lt_of_lt_of_le (Heap.lt_size e) (Nat.le_trans I.ok.bsz f3)) (Nat.lt_irrefl _)
  · obtain ⟨f0, f1, f2, f3, f4, f5⟩ := hf b hb
    intro z
    rcases List.mem_cons.mp (I.stkSub b z) with z | z
    · exact f1 z
    · exact f2 z
  · have q := (Heap.Ns.new (s.heap.push { cls := .type "list", data := .seq #[] }) (.type "dict")).keeps (pushCells_keeps sc.names _)
    rw [sz1] at q
    exact q
  · have hi : i < ix.length := by
      have z := (List.getElem?_eq_some_iff.mp e2).1
      simpa [capS] using z
    have e2' : (capS σ ix)[i]? = (ix[i]?).map fun o => o.bind fun j => (σ[j]?).join := List.getElem?_map ..
    rw [e2', List.getElem?_eq_getElem hi] at e2
    have e2 : (ix[i]).bind (fun j => (σ[j]?).join) = some v := Option.some.inj e2
    cases q : ix[i] with
    | none => rw [q] at e2; cases e2
    | some j =>
      rw [q] at e2
      have e2 : (σ[j]?).join = some v := e2
      have e2 : σ[j]? = some (some v) := by
        cases z : σ[j]? with
        | none => rw [z] at e2; cases e2
        | some w' => rw [z] at e2; have e2 : w' = some v := e2; rw [e2]
      obtain ⟨y, c1, c2, c3⟩ := S.cap i j (by rw [List.getElem?_eq_getElem hi, q])
      have exy : x = y := Option.some.inj (e1.symm.trans c1)
      subst exy
      have kd := S.free (x, .free) (mem_of_lookup c3) rfl
      obtain ⟨m, hn, hl⟩ := I.loc
      obtain ⟨u, ru, lu⟩ := hl j x v c2 e2 (by rcases kd with k | k; exact .inr (.inl k); exact .inr (.inr k))
      refine ⟨u, ru, .inr ⟨?_, ?_⟩⟩
      · rw [show (bCx X N' sc s H (s.heap.objs.size + 1) fp).env.kindOf x = _ from bEnv_kind (C := s.heap.objs.size + 1) (env := X.env) c3]
        split
        · exact .inl rfl
        · exact .inr rfl
      · rcases lu with ⟨k, _⟩ | ⟨_, c, hc, hcell⟩
        · rcases kd with k' | k' <;> rw [k] at k' <;> cases k'
        · refine ⟨c, ?_, hcell.keeps keep⟩
          have := bCells_free S (C := s.heap.objs.size + 1) c3
          rw [hc] at this
          exact this
  · rcases bCells S h with ⟨_, b1, q⟩ | ⟨a1, b1⟩
    · exact ⟨none, (ok.empty x c q).1⟩
    · obtain ⟨v, q⟩ := I.cell x c (cOld x c a1 b1)
      exact ⟨v, q.keeps keep⟩
  · rcases bCells S h with ⟨_, b1, q⟩ | ⟨a1, b1⟩
    · exact I.hok.fresh (Nat.le_trans (Nat.le_add_right _ 2) b1)
    · exact I.freeC x c (cOld x c a1 b1)
  · show (capS σ ix).length = N'.length
    simp [capS, S.len]
theorem block_again {pins pins' : List (Addr × Obj)} {σ σ2 : St} {H H' : Hp} {s s' : Shared} {fp : List Addr} {C : Addr} (S : BScope X.N X.env N' ix sc) (I : Inv X pins σ H s) (hf : ∀ b ∈ fp, FpOk X pins H b)
    (I' : Inv (bCx X N' sc s H C fp) pins' σ2 H' s') : Inv (bCx X N' sc s H C fp) pins' (capS σ ix) H' s' := by
  refine ⟨I'.ok, I'.os, I'.bare, I'.base, ?_, I'.cell, I'.free, I'.freeC, I'.pin, I'.hok, by show (capS σ ix).length = N'.length; simp [capS, S.len]⟩
  obtain ⟨m', hn', _⟩ := I'.loc
  refine ⟨m', hn', fun i x v e1 e2 e3 => ?_⟩
  have hi : i < ix.length := by
    have z := (List.getElem?_eq_some_iff.mp e2).1
    simpa [capS] using z
  have e2' : (capS σ ix)[i]? = (ix[i]?).map fun o => o.bind fun j => (σ[j]?).join := List.getElem?_map ..
  rw [e2', List.getElem?_eq_getElem hi] at e2
  have e2 : (ix[i]).bind (fun j => (σ[j]?).join) = some v := Option.some.inj e2
  cases q : ix[i] with
  | none => rw [q] at e2; cases e2
  | some j =>
    rw [q] at e2
    have e2 : (σ[j]?).join = some v := e2
    have e2 : σ[j]? = some (some v) := by
      cases z : σ[j]? with
      | none => rw [z] at e2; cases e2
      | some w' => rw [z] at e2; have e2 : w' = some v := e2; rw [e2]
    obtain ⟨y, c1, c2, c3⟩ := S.cap i j (by rw [List.getElem?_eq_getElem hi, q])
    have exy : x = y := Option.some.inj (e1.symm.trans c1)
    subst exy
    have kd := S.free (x, .free) (mem_of_lookup c3) rfl
    obtain ⟨m, hn, hl⟩ := I.loc
    obtain ⟨u, ru, lu⟩ := hl j x v c2 e2 (by rcases kd with k | k; exact .inr (.inl k); exact .inr (.inr k))
    refine ⟨u, ru, .inr ⟨?_, ?_⟩⟩
    · rw [show (bCx X N' sc s H C fp).env.kindOf x = _ from bEnv_kind (C := C) (env := X.env) c3]
      split
      · exact .inl rfl
      · exact .inr rfl
    · rcases lu with ⟨k, _⟩ | ⟨_, c, hc, o, ho, hd⟩
      · rcases kd with k' | k' <;> rw [k] at k' <;> cases k'
      · refine ⟨c, ?_, ?_⟩
        · have := bCells_free S (C := C) c3
          rw [hc] at this
          exact this
        · obtain ⟨sl, e⟩ := I'.base.any ho (I.freeC x c hc) fun z => (hf c z).2.2.2.2.1 x c hc rfl
          exact ⟨_, e, hd⟩
def PIf (X : Cx) (ifs : List Expr) (t : TT) : Prop :=
  ∀ (pins : List (Addr × Obj)) (s : Shared) (σ : St) (H : Hp) (Q : Bool → Hp → Prop), Inv X pins σ H s → t σ H Q →
    wpAny (model X.prog X.w) X.A (forIn ifs true fun c r => if r = true then do let ok ← isTrue c X.env (eval c X.env); pure (ForInStep.yield ok) else pure (ForInStep.yield r)) (TP X pins σ Q) X.xe s
def tYes : TT := fun _ H Q => Q true H
theorem pif_nil {X : Cx} : PIf X [] tYes := fun _ _ _ H _ I h => wpAny_tests_nil ⟨H, I, h⟩
theorem pif_one {X : Cx} {c : Expr} {t : TT} (h : PT X c t) : PIf X [c] t := fun pins s σ H Q I hw => wpAny_tests_one (h pins s σ H Q I hw)
theorem compLoop_any {prog : Program} {w : World} {A : Around} {R : Result → Shared → Prop} {s : Shared} {elt target iter : Expr} {ifs : List Expr} {scope : Scope} {pos : Pos} {it acc : Value} {env : Env} (I : Nat → Shared → Prop)
    (turn : ∀ n s, I n s → wpAny (model prog w) A (pyNext it) (fun r s₁ => match r with
      | none => R (.ok .next) s₁
      | some v => wpAny (model prog w) A (letOwnedTupleGo target it v) (fun _ s₁' => wpAny (model prog w) A (assign target env v) (fun _ s₂ =>
          wpAny (model prog w) A (forIn ifs true fun c r => if r = true then do let ok ← isTrue c env (eval c env); pure (ForInStep.yield ok) else pure (ForInStep.yield r)) (fun ok s₃ =>
            if ok = true then wpAny (model prog w) A (eval elt env) (fun x s₄ =>
              wpAny (model prog w) A (call (.builtin "list.append") [acc, x]) (fun _ s₅ => ∃ m, m < n ∧ I m s₅) (fun _ _ => False) s₄) (fun _ _ => False) s₃
            else ∃ m, m < n ∧ I m s₃) (fun _ _ => False) s₂) (fun _ _ => False) s₁') (fun _ _ => False) s₁) (fun _ _ => False) s)
    (n : Nat) (h : I n s) : codeAny (model prog w) A (.compLoop (.ListComp elt [⟨target, iter, ifs, 0⟩] scope pos) 0 it acc env) R s := by
  refine codeAny_loop rfl I (fun n s hI => ?_) n h
  show wpAny _ A ((compTurn (.ListComp elt [⟨target, iter, ifs, 0⟩] scope pos) 0 it acc env).onRaise (fun x => do noteFrame x env; theTreesLotGoes x)) _ _ s
  refine wpAny_noted ?_
  rw [compTurn_list]
  refine wpAny_bind (wpAny_standAt (wpAny_bind (wpAny_mono (turn n s hI) (fun r s₁ h₁ => ?_) fun _ _ h' => h'.elim)))
  cases r with
  | none => exact wpAny_pure h₁
  | some v =>
    refine wpAny_bind (wpAny_mono h₁ (fun _ s₁' h₁' => wpAny_bind (wpAny_mono h₁' (fun _ s₂ h₂ => wpAny_bind (wpAny_mono h₂ (fun ok s₃ h₃ => ?_) fun _ _ h' => h'.elim)) fun _ _ h' => h'.elim)) fun _ _ h' => h'.elim)
    cases ok with
    | false => exact wpAny_pure ⟨rfl, h₃⟩
    | true =>
      exact wpAny_bind (wpAny_bind (wpAny_mono h₃ (fun x s₄ h₄ => wpAny_bind (wpAny_mono h₄ (fun _ s₅ h₅ => wpAny_pure (wpAny_pure ⟨rfl, h₅⟩)) fun _ _ h' => h'.elim)) fun _ _ h' => h'.elim))
def tCompW (J : It) (σ0 : St) (g : TG) (tt : TT) (te : TE) (H1 : Hp) (Qe : List V → Hp → Prop) : Prop :=
  ∃ W : Nat → Nat → List V → Hp → Prop, (∃ m, W 0 m [] H1) ∧ ∀ i m ys H, W i m ys H →
    (J.stop i H ∧ Qe ys H) ∨
    (J.go i H ∧ ys.length < sizeLine ∧ ∃ N : List V → Hp → Prop, (∀ ys' H', N ys' H' → ∃ m', m' < m ∧ W (i + 1) m' ys' H') ∧
      ∀ x H', J.yld i H x H' → g x σ0 H' fun σ2 H2 => tt σ2 H2 fun b H3 => if b = true then te σ2 H3 fun y H4 => N (ys ++ [y]) H4 else N ys H3)
theorem comp_run {tg iter elt : Expr} {ifs : List Expr} {pos : Pos} {g : TG} {tt : TT} {te : TE} {pins : List (Addr × Obj)} {σ : St} {H : Hp} {s : Shared} {it : Addr} {fp : List Addr} {tn : Nat → Heap → Prop} {J : It} {Qe : List V → Hp → Prop}
    {RR : Value → Addr → Result → Shared → Prop} {E : Value → Shared → Prop}
    (hc : X.calm = true) (S : BScope X.N X.env N' ix sc) (hg : ∀ s H C fp, PG (bCx X N' sc s H C fp) tg g) (ht : ∀ s H C fp, PIf (bCx X N' sc s H C fp) ifs tt) (he : ∀ s H C fp, PE (bCx X N' sc s H C fp) elt te)
    (I : Inv X pins σ H s) (T : Turn X.prog X.w X.K tg J fp it tn) (st : tn 0 s.heap) (hf : ∀ b ∈ fp, FpOk X pins H b) (hw : tCompW J (capS σ ix) g tt te H Qe)
    (fin : ∀ s' H' ys m, s'.heap.Ns (s.heap.objs.size + 1) m → H' s.heap.objs.size = none → H' (s.heap.objs.size + 1) = none → Qe ys H' → Inv X pins σ (upd H' s.heap.objs.size (.lst ys)) s' → RR (.ref s.heap.objs.size) (s.heap.objs.size + 1) (.ok .next) s') :
    wpAny (model X.prog X.w) X.A (newList []) (fun acc s₃ => wpAny (model X.prog X.w) X.A (newFunctionEnv sc X.env.globals (clFrom X.env sc.names []) [] X.env.qual none .none (some X.env)) (fun cenv s₄ =>
      codeAny (model X.prog X.w) X.A (.compStart (.ListComp elt [⟨tg, iter, ifs, 0⟩] sc pos) 0 (.ref it) acc { cenv with scope := relabel sc X.env }) (RR acc cenv.locals) s₄) E s₃) E s := by
  have hlt : ∀ b ∈ fp, b < s.heap.objs.size := fun b hb => by
    obtain ⟨o, e, _⟩ := T.obj _ _ st b hb
    exact Heap.lt_size e
  refine wpAny_newObj_type (newBlockEnv ?_)
  have sz1 : (s.heap.push { cls := .type "list", dict := none, data := .seq ([] : List Value).toArray }).objs.size = s.heap.objs.size + 1 := Heap.size_push ..
  have I0 := block_start S I hf hlt
  obtain ⟨W, ⟨m0, w0⟩, turn⟩ := hw
  have nD : ∀ b ∈ fp, s.heap.objs.size ≠ b := fun b hb => Nat.ne_of_gt (hlt b hb)
  have freshD : H s.heap.objs.size = none := I.hok.fresh (Nat.le_refl _)
  have cellD : ∀ x c, (bEnv sc (s.heap.objs.size + 1) X.env).cells.lookup x = some c → c ≠ s.heap.objs.size := fun x c h => by
    rcases bCells S h with ⟨_, b1, _⟩ | ⟨a1, b1⟩
    · exact Nat.ne_of_gt (Nat.lt_of_lt_of_le (Nat.lt_succ_of_lt (Nat.lt_succ_self _)) b1)
    · obtain ⟨d, hd⟩ := I.ok.has x (S.free (x, .free) (mem_of_lookup a1) rfl)
      rw [hd] at b1
      obtain ⟨v, q⟩ := I.cell x d hd
      have e : c = d := b1
      rw [e]
      exact Nat.ne_of_lt q.lt
  have fsD : s.heap.objs.size ∉ frs X.stack := fun z => by
    rcases List.mem_cons.mp (I.stkSub _ z) with z | z
    · exact absurd I.lt (by rw [← z]; exact Nat.lt_irrefl _)
    · exact I.nofs (Nat.le_refl _) z
  have fpB : ∀ {pins' : List (Addr × Obj)} {H' : Hp}, (∀ b ∈ fp, H' b = none) → (∀ p ∈ pins', ∀ b ∈ fp, p.1 ≠ b) → ∀ b ∈ fp, FpOk (bCx X N' sc s H (s.heap.objs.size + 1) fp) pins' H' b := fun {pins' H'} h1 h2 b hb =>
    ⟨h1 b hb, (I0.ok.exf b hb).1, I0.ok.exfs b hb, .inl hb, (I0.ok.exf b hb).2, fun p hp => h2 p (by simpa [bCx] using hp) b hb⟩
  have getD0 : (pushCells ((s.heap.push { cls := .type "list", data := .seq #[] }).push { cls := .type "dict", data := .dict #[] }) sc.names).get? s.heap.objs.size = some { cls := .type "list", data := .seq #[] } :=
    pushCells_keeps _ _ _ _ (Heap.get?_push_of_some _ (Heap.get?_push_size _ rfl))
  have I0' : Inv (bCx X N' sc s H (s.heap.objs.size + 1) fp) [(s.heap.objs.size, { cls := .type "list", data := .seq #[] })] (capS σ ix) H _ := I0.pins_of (pins' := [(s.heap.objs.size, { cls := .type "list", data := .seq #[] })]) fun p hp => by
    have e : p = (s.heap.objs.size, { cls := .type "list", data := .seq #[] }) := by simpa using hp
    subst e
    exact ⟨getD0, freshD, Nat.ne_of_lt (Nat.lt_succ_self _), fsD, fun v z => by cases z⟩
  have st0 : tn 0 (pushCells ((s.heap.push { cls := .type "list", data := .seq #[] }).push { cls := .type "dict", data := .dict #[] }) sc.names) := T.keep _ _ _ st fun b hb o e => pushCells_keeps _ _ _ _ (Heap.get?_push_of_some _ (Heap.get?_push_of_some _ e))
  have loop : ∀ s4 : Shared, s4 = { s with heap := pushCells ((s.heap.push { cls := .type "list", data := .seq #[] }).push { cls := .type "dict", data := .dict #[] }) sc.names } →
      codeAny (model X.prog X.w) X.A (.compLoop (.ListComp elt [⟨tg, iter, ifs, 0⟩] sc pos) 0 (.ref it) (.ref s.heap.objs.size) (bEnv sc (s.heap.objs.size + 1) X.env)) (RR (.ref s.heap.objs.size) (s.heap.objs.size + 1)) s4 := by
    rintro s4 rfl
    refine compLoop_any (fun n s' => ∃ (i : Nat) (ys : List V) (its : List Value) (k : Nat) (H' : Hp), Inv (bCx X N' sc s H (s.heap.objs.size + 1) fp) [(s.heap.objs.size, { cls := .type "list", data := .seq its.toArray k })] (capS σ ix) H' s' ∧
      tn i s'.heap ∧ (∀ b ∈ fp, H' b = none) ∧ Vals ys its ∧ ys.length ≤ sizeLine ∧ W i n ys H') ?_ m0 ⟨0, [], [], 0, H, I0', st0, fun b hb => (hf b hb).1, .nil, Nat.zero_le _, w0⟩
    rintro n s3 ⟨i, ys, its, k, H3, I3, st3, fr3, rv, hz, w3⟩
    have fp3 := fpB (pins' := [(s.heap.objs.size, { cls := .type "list", data := .seq its.toArray k })]) fr3 (fun p hp b hb => by
      have e : p = (s.heap.objs.size, { cls := .type "list", data := .seq its.toArray k }) := by simpa using hp
      rw [e]; exact nD b hb)
    rcases turn i n ys H3 w3 with ⟨stop, qe⟩ | ⟨go, hz3, N, hN, step⟩
    · refine thn (T.done (bCx X N' sc s H (s.heap.objs.size + 1) fp) rfl rfl rfl hc i _ s3 _ H3 (fun _ _ => False) I3 fp3 st3 stop) fun r s4 ⟨hr, I4⟩ => ?_
      subst hr
      obtain ⟨pg, pn, _⟩ := I4.pin (s.heap.objs.size, { cls := .type "list", data := .seq its.toArray k }) (List.mem_append_right _ List.mem_cons_self)
      obtain ⟨m, hm, _⟩ := I4.loc
      refine fin s4 H3 ys m hm pn I4.free qe ?_
      refine I.call' (ch := fp) I4.os ⟨I4.base.keep, I4.base.slot, fun b o e n hx => ?_, I4.base.there, fun b xs q => ?_, fun b o u q => ?_, fun b ps q => ?_⟩ (fun b o e => ?_) I4.bare fun b hb => ?_
      · rw [upd_ne (Nat.ne_of_lt (Heap.lt_size e))]
        exact I4.base.free b o e n hx
      · have q' := I4.base.tups b xs q
        rw [upd_ne (ne_of_none q' pn)]
        exact q'
      · have q' := I4.base.frzs b o u q
        rw [upd_ne (ne_of_none q' pn)]
        exact q'
      · have q' := I4.base.tbls b ps q
        rw [upd_ne (ne_of_none q' pn)]
        exact q'
      · by_cases hb : b = s.heap.objs.size
        · subst hb
          rw [upd_same] at e
          cases e
          exact ⟨hz, its, k, rv, pg⟩
        · rw [upd_ne hb] at e
          exact (I4.hok b o e).stay (fun c v _ q => q) (fun c q => by rw [upd_ne (ne_of_none q pn)]; exact q) fun c xs _ q => by rw [upd_ne (ne_of_none q pn)]; exact q
      · obtain ⟨f0, f1, f2, f3, f4, f5⟩ := hf b hb
        exact ⟨f3, f1, f4, f5⟩
    · refine thn (T.item (bCx X N' sc s H (s.heap.objs.size + 1) fp) rfl rfl rfl hc i _ s3 _ H3 (fun _ _ => False) I3 fp3 st3 go) fun r s4 ⟨u, hr, h4⟩ => ?_
      subst hr
      refine thn h4 fun _ s5 ⟨x, H5, I5, r5, y5, st5, fr5⟩ => ?_
      have fp5 := fpB (pins' := [(s.heap.objs.size, { cls := .type "list", data := .seq its.toArray k })]) fr5 (fun p hp b hb => by
        have e : p = (s.heap.objs.size, { cls := .type "list", data := .seq its.toArray k }) := by simpa using hp
        rw [e]; exact nD b hb)
      have I5' := I5.pinned fp5 (T.obj _ _ st5)
      refine thn (hg s H _ fp _ s5 _ H5 x u _ I5' r5 (step x H5 y5)) fun _ s6 ⟨σ6, H6, I6, q6⟩ => ?_
      have back : ∀ {σ7 : St} {H7 : Hp} {s7 : Shared}, Inv (bCx X N' sc s H (s.heap.objs.size + 1) fp) ([(s.heap.objs.size, { cls := .type "list", data := .seq its.toArray k })] ++ pinsAt fp s5.heap) σ7 H7 s7 →
          tn (i + 1) s7.heap ∧ (∀ b ∈ fp, H7 b = none) := fun {σ7 H7 s7} I7 => by
        refine ⟨T.keep _ _ _ st5 fun b hb o e => (I7.pin (b, o) (List.mem_append_right _ (List.mem_append_right _ (mem_pinsAt hb e)))).1, fun b hb => ?_⟩
        obtain ⟨o, e, d⟩ := T.obj _ _ st5 b hb
        exact (I7.pin (b, o) (List.mem_append_right _ (List.mem_append_right _ (mem_pinsAt hb e)))).2.1
      refine thn (ht s H _ fp _ s6 σ6 H6 _ I6 q6) fun ok s7 ⟨H7, I7, q7⟩ => ?_
      cases ok with
      | false =>
        rw [if_neg Bool.false_ne_true] at q7 ⊢
        obtain ⟨m', hm', w7⟩ := hN _ _ q7
        exact ⟨m', hm', i + 1, ys, its, k, H7, block_again S I hf I7.unpinned, (back I7).1, (back I7).2, rv, hz, w7⟩
      | true =>
        rw [if_pos rfl] at q7 ⊢
        refine thn (he s H _ fp _ s7 σ6 H7 _ I7 q7) fun xv s8 ⟨y, H8, I8, r8, q8⟩ => ?_
        obtain ⟨m', hm', w8⟩ := hN _ _ q8
        obtain ⟨pg, pn, _⟩ := I8.pin (s.heap.objs.size, { cls := .type "list", data := .seq its.toArray k }) (List.mem_append_right _ (List.mem_append_left _ List.mem_cons_self))
        refine wpAny_list_append_plain (l := s.heap.objs.size) (items := its.toArray) ⟨k, pg⟩ (fun h9 hl9 hs9 => ?_) (by have := rv.length; simp; omega)
        obtain ⟨k9, g9⟩ := hl9
        have I8' : Inv (bCx X N' sc s H (s.heap.objs.size + 1) fp) (pinsAt fp s5.heap) σ6 H8 s8 := I8.pins_of fun p hp => I8.pin p (List.mem_append_right _ (List.mem_append_right _ hp))
        have I9 : Inv (bCx X N' sc s H (s.heap.objs.size + 1) fp) (pinsAt fp s5.heap) σ6 H8 { s8 with heap := h9 } := I8'.turned (t' := s8.toks) (it := s.heap.objs.size) (fun b o hb e => hs9.extBut b o hb e) pn (Nat.ne_of_lt (Nat.lt_succ_self _)) (.inr (Nat.le_refl _)) cellD
          fun p hp => by
            have hp' : p ∈ pinsAt fp s5.heap := by simpa [bCx] using hp
            exact (nD _ (of_pinsAt hp').1).symm
        have I9' : Inv (bCx X N' sc s H (s.heap.objs.size + 1) fp) [(s.heap.objs.size, { cls := .type "list", data := .seq (its ++ [xv]).toArray k9 })] σ6 H8 { s8 with heap := h9 } := I9.pins_of fun p hp => by
          have e : p = (s.heap.objs.size, { cls := .type "list", data := .seq (its ++ [xv]).toArray k9 }) := by simpa using hp
          subst e
          refine ⟨?_, pn, Nat.ne_of_lt (Nat.lt_succ_self _), fsD, fun v z => by cases z⟩
          simpa using g9
        refine ⟨m', hm', i + 1, ys ++ [y], its ++ [xv], k9, H8, block_again S I hf I9', ?_, (back I8).2, rv.append (.cons r8 .nil), by simp; omega, w8⟩
        exact T.keep _ _ _ (back I8).1 fun b hb o e => hs9.extBut b o (nD b hb).symm e
  have key := codeAny_compStart_list (iter := iter) (loop _ rfl) (T.self X.A 0 { s with heap := pushCells ((s.heap.push { cls := .type "list", data := .seq #[] }).push { cls := .type "dict", data := .dict #[] }) sc.names } _ _ st0 (loop _ rfl))
  simpa only [newEnv, sz1, bEnv, compEnvC] using key
def tComp (wi : TI) (ix : List (Option Nat)) (g : TG) (tt : TT) (te : TE) : TE := fun σ H Q => wi σ H fun J H1 => tCompW J (capS σ ix) g tt te H1 fun ys H2 => ∀ p, H2 p = none → Q (.ref p) (upd H2 p (.lst ys))
theorem BScope.clos {pins : List (Addr × Obj)} {σ : St} {H : Hp} {s : Shared} (S : BScope X.N X.env N' ix sc) (I : Inv X pins σ H s) : closureFor sc X.env = pure (clFrom X.env sc.names []) :=
  closureFor_cl fun y hy e => by
    obtain ⟨c, hc⟩ := I.ok.has y.1 (S.free y hy e)
    rw [hc]; rfl
theorem pe_comp {tg iter elt : Expr} {ifs : List Expr} {pos : Pos} {wi : TI} {g : TG} {tt : TT} {te : TE} (hc : X.calm = true) (S : BScope X.N X.env N' ix sc) (hi : PI X tg iter wi)
    (hg : ∀ s H C fp, PG (bCx X N' sc s H C fp) tg g) (ht : ∀ s H C fp, PIf (bCx X N' sc s H C fp) ifs tt) (he : ∀ s H C fp, PE (bCx X N' sc s H C fp) elt te)
    (hs : ∀ x, foldedSetIterable iter X.env x = pure x := by intro _; rfl) : PE X (.ListComp elt [⟨tg, iter, ifs, 0⟩] sc pos) (tComp wi ix g tt te) := by
  intro pins s σ H Q I h
  rw [eval_ListComp]
  refine wpAny_comprehension_free (use := none) rfl hs (S.clos I) S.kind S.names (thn (hi pins s σ H _ I h) fun v s1 h1 => thn h1 fun itv s2 ⟨it, fp, tn, J, H2, e, I2, T, st2, f2, hw⟩ => ?_)
  subst e
  refine comp_run (RR := fun acc C => compPost (model X.prog X.w) X.A X.xe none (EP X pins σ Q) acc C) hc S hg ht he I2 T st2 f2 hw fun s' H' ys m hn hD hC q I' => ?_
  refine ⟨m, hn, fun h' hs' => ?_⟩
  have nn : (upd H' s2.heap.objs.size (.lst ys)) (s2.heap.objs.size + 1) = none := by
    rw [upd_ne (Nat.ne_of_gt (Nat.lt_succ_self _))]; exact hC
  obtain ⟨f0, f1, f2, f3, f4, f5⟩ := I2.fpOk (H' := upd H' s2.heap.objs.size (.lst ys)) (b := s2.heap.objs.size + 1) (Nat.le_succ _) nn
  exact ⟨.ref s2.heap.objs.size, _, I'.turned (t' := s'.toks) (it := s2.heap.objs.size + 1) (fun b o hb e => hs'.extBut b o hb e) f0 f1 f3 f4 f5, rfl, q _ hD⟩
theorem ps_setComp {i : Nat} {y : Str} {tg iter elt : Expr} {ifs : List Expr} {pos spos py : Pos} {wi : TI} {g : TG} {tt : TT} {te : TE} (hN : X.N.Nodup) (hi' : X.N[i]? = some y) (hy : X.env.scope.names.lookup y = some .local)
    (hc : X.calm = true) (S : BScope X.N X.env N' ix sc) (hi : PI X tg iter wi)
    (hg : ∀ s H C fp, PG (bCx X N' sc s H C fp) tg g) (ht : ∀ s H C fp, PIf (bCx X N' sc s H C fp) ifs tt) (he : ∀ s H C fp, PE (bCx X N' sc s H C fp) elt te)
    (hsw : swapsWith (.ListComp elt [⟨tg, iter, ifs, 0⟩] sc pos) (some (.Name y py)) spos.line X.env = pure true := by rfl)
    (hs : ∀ x, foldedSetIterable iter X.env x = pure x := by intro _; rfl) : PS X (.Assign [.Name y py] (.ListComp elt [⟨tg, iter, ifs, 0⟩] sc pos) spos) (tAsg (tComp wi ix g tt te) (gName i)) := by
  intro pins s σ H D I h
  rw [exec_Assign_Name_used _ _ _ _ hsw]
  refine wpAny_bind (wpAny_standAt (wpAny_bind ?_))
  show wpAny _ X.A (do let _ ← comprehension (.ListComp elt [⟨tg, iter, ifs, 0⟩] sc pos) sc X.env _ (newList []) false (eval iter X.env) (some (assign (.Name y py) X.env))) _ _ s
  refine wpAny_bind (wpAny_mono (wpAny_comprehension_free (use := some (assign (.Name y py) X.env)) (Q := fun _ s' => SP X pins D .next s') rfl hs (S.clos I) S.kind S.names
    (thn (hi pins s σ H _ I h) fun v s1 h1 => thn h1 fun itv s2 ⟨it, fp, tn, J, H2, e, I2, T, st2, f2, hw⟩ => ?_)) (fun _ s' hq => wpAny_pure (wpAny_pure hq)) fun _ _ e => e)
  subst e
  refine comp_run (RR := fun acc C => compPost (model X.prog X.w) X.A X.xe (some (assign (.Name y py) X.env)) (fun _ s' => SP X pins D .next s') acc C) hc S hg ht he I2 T st2 f2 hw fun s' H' ys m hn hD hC q I' => ?_
  have nn : (upd H' s2.heap.objs.size (.lst ys)) (s2.heap.objs.size + 1) = none := by
    rw [upd_ne (Nat.ne_of_gt (Nat.lt_succ_self _))]; exact hC
  obtain ⟨f0, f1, f2, f3, f4, f5⟩ := I2.fpOk (H' := upd H' s2.heap.objs.size (.lst ys)) (b := s2.heap.objs.size + 1) (Nat.le_succ _) nn
  show wpAny _ X.A (assign (.Name y py) X.env (.ref s2.heap.objs.size)) _ _ _
  refine wpAny_assign_Name (store_ok2 (v := .ref s2.heap.objs.size) I' hN hi' (.inl hy) rfl (fun s'' I'' ⟨a, hsb, ha⟩ => ?_) (.inr hy))
  have ne : s2.heap.objs.size + 1 ≠ a := by
    rcases ha with rfl | ha
    · exact f1
    · exact fun z => f4 y a ha z.symm
  refine ⟨m, hn.sameBut hsb ne, fun h' hs' => ?_⟩
  exact ⟨_, _, I''.turned (t' := s''.toks) (it := s2.heap.objs.size + 1) (fun b o hb e => hs'.extBut b o hb e) f0 f1 f3 f4 f5, q _ hD⟩
end
end L2
namespace L2
open PySem PySem.Spec PyProof.Rows
def ExcAt (e C : Addr) (dx : Option Addr) (h : Heap) : Prop := ∃ vs sl, h.get? e = some { cls := .ref C, dict := dx, data := .fields vs, slots := sl }
abbrev excD (C : Addr) (n : Int) : PyData := .dict [(.int (C : Nat), .int n)]
mutual
inductive DV (K : PySem.W.Frag) (H : Hp) : V → PyData → Prop
  | non : DV K H .non .none
  | bl (b : Bool) : DV K H (.bl b) (.bool b)
  | int (i : Int) : DV K H (.int i) (.int i)
  | str (x : Str) : DV K H (.str x) (.str x)
  | lst {a : Addr} {xs : List V} {ds : List PyData} : SqL K H a xs → DVs K H xs ds → DV K H (.ref a) (.list ds)
  | tup {a : Addr} {xs : List V} {ds : List PyData} : SqT K H a xs → DVs K H xs ds → DV K H (.ref a) (.tuple ds)
  | exc {a C dx : Addr} {n : Int} : H a = some (.ext (ExcAt a C (some dx))) → H dx = some (.xd [("day", .int n)]) → DV K H (.ref a) (excD C n)
inductive DVs (K : PySem.W.Frag) (H : Hp) : List V → List PyData → Prop
  | nil : DVs K H [] []
  | cons {x : V} {xs : List V} {d : PyData} {ds : List PyData} : DV K H x d → DVs K H xs ds → DVs K H (x :: xs) (d :: ds)
end
section
variable {X : Cx} {pins : List (Addr × Obj)} {σ : St} {H : Hp} {s : Shared}
mutual
theorem DV.reads (I : Inv X pins σ H s) : ∀ {x : V} {d : PyData} {u : Value}, DV X.K H x d → RelV x u → d.canLay0 = true → ∃ as, Reads s.heap u d as
  | _, _, _, .non, r, _ => by cases (show _ = Value.none from r); exact ⟨_, .none⟩
  | _, _, _, .bl b, r, _ => by cases (show _ = Value.bool b from r); exact ⟨_, .bool b⟩
  | _, _, _, .int i, r, _ => by obtain ⟨t, rfl⟩ := r; exact ⟨_, .int i t⟩
  | _, _, _, .str x, r, _ => by obtain ⟨t, rfl⟩ := r; exact ⟨_, .str x t⟩
  | _, _, _, @DV.lst _ _ a xs ds h q, r, l => by
    cases (show _ = Value.ref a from r)
    obtain ⟨its, rv, ⟨o, n, e, c, _, hd⟩, _⟩ := I.list h
    obtain ⟨as, ra⟩ := DVs.reads I q rv (by simpa only [PyData.canLay0] using l)
    exact ⟨_, .list e c hd (by simpa using ra)⟩
  | _, _, _, @DV.tup _ _ a xs ds h q, r, l => by
    cases (show _ = Value.ref a from r)
    obtain ⟨its, rv, ⟨o, e, c, n, hd⟩, _⟩ := I.tuple h
    obtain ⟨as, ra⟩ := DVs.reads I q rv (by simpa only [PyData.canLay0] using l)
    exact ⟨_, .tuple e c hd (by simpa using ra)⟩
  | _, _, _, .exc _ _, _, l => by simp [PyData.canLay0] at l
theorem DVs.reads (I : Inv X pins σ H s) : ∀ {xs : List V} {ds : List PyData} {us : List Value}, DVs X.K H xs ds → Vals xs us → PyData.canLayAll0 ds = true → ∃ as, ReadsAll s.heap us ds as
  | _, _, _, .nil, .nil, _ => ⟨_, .nil⟩
  | _, _, _, .cons h q, .cons r t, l => by
    simp only [PyData.canLayAll0, Bool.and_eq_true] at l
    obtain ⟨as, ra⟩ := DV.reads I h r l.1
    obtain ⟨bs, rb⟩ := DVs.reads I q t l.2
    exact ⟨_, .cons ra rb⟩
end
theorem lay0_ints : ∀ ns : List Int, PyData.canLayAll0 (ns.map PyData.int) = true
  | [] => rfl
  | n :: ns => by simp only [List.map_cons, PyData.canLayAll0, PyData.canLay0, Bool.true_and, lay0_ints ns]
abbrev shp (d : PyData) : Prop := SeqAt.shaped d = true
def rEqD (K : PySem.W.Frag) : R2 := fun x y H Q => ∃ d e, DV K H x d ∧ DV K H y e ∧ shp d ∧ shp e ∧ Q (.bl (PyData.eqv d e)) H
def rNeD (K : PySem.W.Frag) : R2 := fun x y H Q => ∃ d e, DV K H x d ∧ DV K H y e ∧ shp d ∧ shp e ∧ Q (.bl (!PyData.eqv d e)) H
theorem op_eqD (hu : X.A.units + 64 < cLine) : OpR X (compareOp .Eq) (rEqD X.K) := by
  intro pins s σ H x y v u Q I r1 r2 h
  obtain ⟨d, e, h1, h2, s1, s2, q⟩ := h
  obtain ⟨as, ra⟩ := h1.reads I r1 (SeqAt.canLay_of_shaped s1)
  obtain ⟨bs, rb⟩ := h2.reads I r2 (SeqAt.canLay_of_shaped s2)
  exact eq_dataH ra rb s1 s2 hu ⟨.bl _, H, I, rfl, q⟩
theorem op_neD (hu : X.A.units + 64 < cLine) : OpR X (compareOp .NotEq) (rNeD X.K) := by
  intro pins s σ H x y v u Q I r1 r2 h
  obtain ⟨d, e, h1, h2, s1, s2, q⟩ := h
  obtain ⟨as, ra⟩ := h1.reads I r1 (SeqAt.canLay_of_shaped s1)
  obtain ⟨bs, rb⟩ := h2.reads I r2 (SeqAt.canLay_of_shaped s2)
  exact ne_dataH ra rb s1 s2 hu ⟨.bl _, H, I, rfl, q⟩
def rNotInD (K : PySem.W.Frag) : R2 := fun x y H Q => ∃ d ds, DV K H x d ∧ DV K H y (.list ds) ∧ shp d ∧ shp (.list ds) ∧ Q (.bl (!ds.any fun e => PyData.eqv e d)) H
theorem shp_list {ds : List PyData} (h : shp (.list ds)) : PyData.canLayAll0 ds = true ∧ PyData.depthAll ds ≤ 63 := by
  have a := SeqAt.canLay_of_shaped h
  have b := SeqAt.depth_of_shaped h
  simp only [PyData.depth] at b
  exact ⟨a, by omega⟩
theorem op_notInD (hu : X.A.units + 80 < cLine) : OpR X (compareOp .NotIn) (rNotInD X.K) := by
  intro pins s σ H x y v u Q I r1 r2 h
  obtain ⟨d, ds, h1, h2, s1, s2, q⟩ := h
  obtain ⟨as, ra⟩ := h1.reads I r1 (SeqAt.canLay_of_shaped s1)
  obtain ⟨bs, rb⟩ := h2.reads I r2 (SeqAt.canLay_of_shaped s2)
  obtain ⟨l1, l2⟩ := shp_list s2
  have := Nat.min_le_left (PyData.depthAll ds) d.depth
  exact SeqAt.notIn_list_reads rb ra l1 (SeqAt.canLay_of_shaped s1) (by omega) ⟨.bl _, H, I, rfl, q⟩
theorem bools_are : ∀ {bs : List Bool} {us : List Value}, Vals (bs.map V.bl) us → LSm.BoolsAre us bs
  | [], _, .nil => .nil
  | b :: bs, _, .cons r t => by
    cases (show _ = Value.bool b from r)
    exact .cons b (bools_are t)
theorem call_all (hc : X.calm = true) : CallR X (.builtin "all") (fun xs H Q => ∃ (a : Addr) (bs : List Bool), xs = [.ref a] ∧ SqL X.K H a (bs.map V.bl) ∧ Q (.bl (bs.all id)) H) := by
  intro pins s σ H xs us Q I r h
  obtain ⟨a, bs, rfl, hs, q⟩ := h
  obtain ⟨u, rfl, ru⟩ := vals1 r
  cases (show u = Value.ref a from ru)
  obtain ⟨its, rv, p, _⟩ := I.list hs
  have hb := bools_are rv
  have hl := p.isList
  have hlt : a < s.heap.objs.size := by obtain ⟨_, e, _⟩ := hl; exact Heap.lt_size e
  refine call_all_walk (wpAny_pyIter_list hl ?_)
  refine ⟨s.heap.objs.size, [s.heap.objs.size, a], [s.heap.objs.size], its.toArray.size, _, _, fun i => (bs[i]?).getD true, rfl, Walks.list (A := X.A.in1) (I.ok.hd hc) _ a (Nat.ne_of_lt hlt) its.toArray,
    ⟨⟨_, Heap.get?_push_size _ rfl, rfl, rfl⟩, hl.push _⟩, fun i v s' Q' E' hP hQ => ?_, fun h' tk hk => ?_⟩
  · obtain ⟨b, e, rfl⟩ := hb.get i v (by simpa using hP)
    simp only [e, Option.getD_some] at hQ
    exact wpAny_truthy_bool hQ
  · have e : ((List.range its.toArray.size).all fun i => (bs[i]?).getD true) = bs.all id := by
      rw [List.size_toArray, hb.length]
      exact LSm.range_all bs
    rw [e]
    exact ⟨.bl _, H, I.kept (LSm.kept_iter hk), rfl, q⟩
def rCatA (K : PySem.W.Frag) : R2 := fun x y H Q => ∃ a b xs ys, x = .ref a ∧ y = .ref b ∧ SqT K H a xs ∧ SqT K H b ys ∧ xs.length + ys.length ≤ sizeLine ∧
  (xs = [] → Q (.ref b) H) ∧ (xs ≠ [] → ys = [] → Q (.ref a) H) ∧ (xs ≠ [] → ys ≠ [] → ∀ p, H p = none → Q (.ref p) (upd H p (.tup (xs ++ ys))))
theorem op_catA : OpR X (binaryOp .Add) (rCatA X.K) := by
  intro pins s σ H x y v u Q I r1 r2 h
  obtain ⟨a, b, xs, ys, rfl, rfl, ha, hb, hz, q0, q1, q2⟩ := h
  by_cases hx : xs = []
  · subst hx
    cases (show v = Value.ref a from r1)
    cases (show u = Value.ref b from r2)
    obtain ⟨its, v1, p1, _⟩ := I.tuple ha
    obtain ⟨its2, v2, p2, _⟩ := I.tuple hb
    cases v1
    obtain ⟨⟨cls, dd, data, sl⟩, ho, hc, n, hd⟩ := id p1
    obtain ⟨⟨cls2, dd2, data2, sl2⟩, ho2, hc2, n2, hd2⟩ := id p2
    simp only at hc hd hc2 hd2
    subst hc hd hc2 hd2
    exact concat_meets ⟨_, ho, rfl⟩ ⟨_, ho2, rfl⟩ noFill_tuple_add seq_tuple_add PySem.F.slot_tuple_add PySem.F.entry_tuple_add (PySem.F.args_tuple_add_2 _ _)
      (tuple_addW0 a b #[] its2.toArray n n2 dd dd2 sl sl2 rfl) ⟨ho, ho2, .ref b, H, I, rfl, q0 rfl⟩
  · exact op_catT pins s σ H _ _ v u Q I r1 r2 ⟨a, b, xs, ys, rfl, rfl, ha, hb, hx, hz, q1 hx, q2 hx⟩
end
end L2
namespace L2
open PySem PySem.Spec PyProof.Rows
def SeqOf : Bool → Heap → Addr → Array Value → Prop
  | false, h, a, xs => h.IsList a xs
  | true, h, a, xs => h.IsTuple a xs
def SeqIt : Bool → Heap → Addr → Addr → Nat → Prop
  | false, h, it, a, i => h.IsListIter it a i
  | true, h, it, a, i => h.IsTupleIter it a i
theorem SeqOf.at {b : Bool} {h h' : Heap} {a : Addr} {xs : Array Value} (p : SeqOf b h a xs) (k : ∀ o, h.get? a = some o → h'.get? a = some o) : SeqOf b h' a xs := by
  cases b with
  | false => obtain ⟨o, e, r⟩ := p; exact ⟨o, k o e, r⟩
  | true => obtain ⟨o, e, r⟩ := p; exact ⟨o, k o e, r⟩
theorem SeqIt.at {b : Bool} {h h' : Heap} {it a : Addr} {i : Nat} (p : SeqIt b h it a i) (k : ∀ o, h.get? it = some o → h'.get? it = some o) : SeqIt b h' it a i := by
  cases b with
  | false => obtain ⟨o, e, r⟩ := p; exact ⟨o, k o e, r⟩
  | true => obtain ⟨o, e, r⟩ := p; exact ⟨o, k o e, r⟩
theorem SeqOf.obj {b : Bool} {h : Heap} {a : Addr} {xs : Array Value} (p : SeqOf b h a xs) : ∃ o n, h.get? a = some o ∧ o.data = .seq xs n := by
  cases b with
  | false => obtain ⟨o, e, _, n, d⟩ := p; exact ⟨o, n, e, d⟩
  | true => obtain ⟨o, e, _, n, d⟩ := p; exact ⟨o, n, e, d⟩
theorem SeqIt.obj {b : Bool} {h : Heap} {it a : Addr} {i : Nat} (p : SeqIt b h it a i) : ∃ o, h.get? it = some o ∧ o.data = .fields #[.ref a, .int i 0] := by
  cases b with
  | false => obtain ⟨o, e, _, d⟩ := p; exact ⟨o, e, d⟩
  | true => obtain ⟨o, e, _, d⟩ := p; exact ⟨o, e, d⟩
section
variable {prog : Program} {w : World} {A : Around} {E : Value → Shared → Prop} {s : Shared}
theorem next_tup {it t : Addr} {i : Nat} {items : Array Value} {x : Value} {Q : Value → Shared → Prop} (hit : s.heap.IsTupleIter it t i) (ht : s.heap.IsTuple t items) (hx : items[i]? = some x)
    (hQ : ∀ h', h'.IsTupleIter it t (i + 1) → Heap.SameBut it s.heap h' → Q x { s with heap := h' }) : wpAny (model prog w) A (Builtin.SmallTypes.nextOf (.ref it)) Q E s := by
  obtain ⟨o, ho, hc, hd⟩ := id hit
  obtain ⟨ol, hol, _, nl, hdl⟩ := ht
  unfold Builtin.SmallTypes.nextOf
  refine wpAny_bind (wpAny_callSpecial?_slot (name := Str.ofString "__next__") hit.typeIs F.slot_tuple_iterator_next (wpAny_call_entry F.slot_tuple_iterator_next hit.typeIs F.entry_tuple_iterator_next ?_ (F.args_tuple_iterator_next_1 _)))
  show wpAny _ _ (field (.ref it) 0 >>= _) _ _ s
  refine wpAny_bind (wpAny_field ho hd (x := .ref t) rfl ?_)
  show wpAny _ _ (if (Value.ref t == Value.none) = true then _ else _) _ _ s
  rw [if_neg (show ¬ ((Value.ref t == Value.none) = true) from Bool.false_ne_true)]
  show wpAny _ _ (field (.ref it) 1 >>= _) _ _ s
  refine wpAny_bind (wpAny_field ho hd (x := .int i 0) rfl ?_)
  show wpAny _ _ (seqItems? (.ref t) >>= _) _ _ s
  refine wpAny_bind (wpAny_seqItems hol hdl ?_)
  simp only [Int.toNat_natCast, hx]
  refine wpAny_bind (wpAny_setField ho hd (by simp) (wpAny_pure ⟨x, rfl, wpAny_pure (hQ _ ?_ (Heap.SameBut.update ..))⟩))
  refine ⟨_, Heap.get?_update_self _ ho (Obj.isFreed_of_fields (Obj.data_mapFields hd _)), (Obj.cls_mapFields ..).trans hc, ?_⟩
  rw [Obj.data_mapFields hd]
  simp [rawInt]
theorem next_tupEnd {it t : Addr} {i : Nat} {items : Array Value} {Q : Value → Shared → Prop} (hh : A.handled = none) (hit : s.heap.IsTupleIter it t i) (ht : s.heap.IsTuple t items) (hx : items[i]? = none)
    (hE : ∀ h' e, Heap.ExtBut it s.heap h' → (∃ o, h'.get? e = some o ∧ o.cls = .type "StopIteration") → E (.ref e) { s with heap := h' }) : wpAny (model prog w) A (Builtin.SmallTypes.nextOf (.ref it)) Q E s := by
  obtain ⟨o, ho, hc, hd⟩ := id hit
  obtain ⟨ol, hol, _, nl, hdl⟩ := ht
  unfold Builtin.SmallTypes.nextOf
  refine wpAny_bind (wpAny_callSpecial?_slot (name := Str.ofString "__next__") hit.typeIs F.slot_tuple_iterator_next (wpAny_call_entry F.slot_tuple_iterator_next hit.typeIs F.entry_tuple_iterator_next ?_ (F.args_tuple_iterator_next_1 _)))
  show wpAny _ _ (field (.ref it) 0 >>= _) _ _ s
  refine wpAny_bind (wpAny_field ho hd (x := .ref t) rfl ?_)
  show wpAny _ _ (if (Value.ref t == Value.none) = true then _ else _) _ _ s
  rw [if_neg (show ¬ ((Value.ref t == Value.none) = true) from Bool.false_ne_true)]
  show wpAny _ _ (field (.ref it) 1 >>= _) _ _ s
  refine wpAny_bind (wpAny_field ho hd (x := .int i 0) rfl ?_)
  show wpAny _ _ (seqItems? (.ref t) >>= _) _ _ s
  refine wpAny_bind (wpAny_seqItems hol hdl ?_)
  simp only [Int.toNat_natCast, hx]
  refine wpAny_bind (wpAny_rule (wpAny_bind (wpAny_setField ho hd (by simp) ?_)))
  show wpAny _ _ (newExc (.type "StopIteration") [] >>= _) _ _ _
  refine wpAny_bind ?_
  simp only [newExc, newTuple]
  refine wpAny_bind (wpAny_newObj_type ?_ (by size_fits))
  refine wpAny_bind (m := firstArgMember _ _) (wpAny_of_eq (a := Value.none) (by first | rfl | (simp only [firstArgMember]; rfl)) ?_)
  refine wpAny_newObj_type ?_ (by size_fits)
  simp only [raiseNew]
  refine wpAny_bind (wpAny_handled ?_)
  first | rw [show A.in1.handled = none from hh] | rw [hh]
  exact wpAny_bind (wpAny_pure (wpAny_throw (hE _ _ (((Heap.SameBut.update ..).extBut.push _).push _) ⟨_, Heap.get?_push_size _ rfl, rfl⟩)))
theorem next_seq {b : Bool} {it a : Addr} {i : Nat} {items : Array Value} {x : Value} {Q : Value → Shared → Prop} (hit : SeqIt b s.heap it a i) (ha : SeqOf b s.heap a items) (hx : items[i]? = some x)
    (hQ : ∀ h', SeqIt b h' it a (i + 1) → Heap.SameBut it s.heap h' → Q x { s with heap := h' }) : wpAny (model prog w) A (Builtin.SmallTypes.nextOf (.ref it)) Q E s := by
  cases b with
  | false => exact wpAny_nextOf_list_item hit ha hx hQ
  | true => exact next_tup hit ha hx hQ
theorem next_seqEnd {b : Bool} {it a : Addr} {i : Nat} {items : Array Value} {Q : Value → Shared → Prop} (hh : A.handled = none) (hit : SeqIt b s.heap it a i) (ha : SeqOf b s.heap a items) (hx : items[i]? = none)
    (hE : ∀ h' e, Heap.ExtBut it s.heap h' → (∃ o, h'.get? e = some o ∧ o.cls = .type "StopIteration") → E (.ref e) { s with heap := h' }) : wpAny (model prog w) A (Builtin.SmallTypes.nextOf (.ref it)) Q E s := by
  cases b with
  | false => exact wpAny_nextOf_list_end hh hit ha hx hE
  | true => exact next_tupEnd hh hit ha hx hE
end
theorem draws_seq {prog : Program} {w : World} {A : Around} (b : Bool) (hh : A.handled = none) (it a : Addr) (hne : a ≠ it) (items : Array Value) :
    Draws prog w A it [it, a] items.size (fun i v => items[i]? = some v) (fun i h => SeqIt b h it a i ∧ SeqOf b h a items) where
  live := fun _ _ st => by obtain ⟨o, e, _⟩ := st.1.obj; exact ⟨o, e⟩
  frame := fun _ _ _ st hk => ⟨st.1.at fun o e => hk it (by simp) o e, st.2.at fun o e => hk a (by simp) o e⟩
  item := fun i s Q E hi st hQ => next_seq st.1 st.2 (x := items[i]) (by simp [hi]) fun h' st' sb => hQ _ h' s.toks (by simp [hi]) ⟨st', st.2.at fun o e => sb.extBut a o hne e⟩ sb
  done := fun s Q E st hE => next_seqEnd hh st.1 st.2 (by simp) hE
def SqB (K : PySem.W.Frag) (H : Hp) : Bool → Addr → List V → Prop
  | false, a, xs => SqL K H a xs
  | true, a, xs => SqT K H a xs
section
variable {X : Cx} {pins : List (Addr × Obj)} {σ : St} {H : Hp} {s : Shared}
theorem Inv.seq (I : Inv X pins σ H s) {b : Bool} {a : Addr} {xs : List V} (h : SqB X.K H b a xs) : ∃ its : List Value, Vals xs its ∧ SeqOf b s.heap a its.toArray := by
  cases b with
  | false => obtain ⟨its, r, p, _⟩ := I.list h; exact ⟨its, r, p.isList⟩
  | true => obtain ⟨its, r, p, _⟩ := I.tuple h; exact ⟨its, r, p⟩
theorem Inv.seq_inj (I : Inv X pins σ H s) {b : Bool} {a : Addr} {xs ys : List V} (h : SqB X.K H b a xs) (h' : SqB X.K H b a ys) : xs = ys := by
  cases b with
  | false => exact I.list_inj h h'
  | true => exact I.tuple_inj h h'
theorem Inv.turnedN {fp : List Addr} {h' : Heap} {t' : Nat} (I : Inv X pins σ H s) (hf : ∀ b ∈ fp, FpOk X pins H b) (k : ∀ b o, b ∉ fp → s.heap.get? b = some o → h'.get? b = some o) : Inv X pins σ H { s with heap := h', toks := t' } := by
  have nfp : ∀ b u, H b = some u → b ∉ fp := fun b u e z => by rw [(hf b z).1] at e; cases e
  refine I.step (g' := s.gens) (d' := s.drawn) (ch := fp) (fun b hb => ?_) (fun b o _ _ hc e _ => k b o hc e) (fun b o _ _ hc e _ => ⟨o.slots, k b o hc e⟩) (fun _ _ _ _ n => n) (fun b o hc e => ⟨o, k b o hc e⟩) (fun _ _ e => e) (fun _ _ _ e => e)
    (fun _ _ e => e) (fun m hm => ?_) (fun b u e => ?_) I.bare
  · obtain ⟨f0, f1, f2, f3, f4, f5⟩ := hf b hb
    exact ⟨f3, f1, f4, f5⟩
  · obtain ⟨o, es, ep, ho, r⟩ := hm
    exact ⟨o, es, ep, k _ o (fun z => (hf _ z).2.1 rfl) ho, r⟩
  · refine (I.hok b u e).stay (fun c v hc q => k c v ?_ q) (fun _ q => q) fun _ _ _ q => q
    rcases hc with z | z
    · rw [z]; exact nfp b u e
    · exact nfp c _ z
theorem Inv.track {T : Addr} {o : HO} (I : Inv X pins σ H s) (hf : FpOk X pins H T) (new : ObjOk X.prog X.w (upd H T o) s.heap T o) : Inv X pins σ (upd H T o) s := by
  obtain ⟨f0, f1, f2, f3, f4, f5⟩ := hf
  have nT : ∀ b u, H b = some u → b ≠ T := fun b u e z => by rw [z, f0] at e; cases e
  have q := I.step (h' := s.heap) (H' := upd H T o) (g' := s.gens) (d' := s.drawn) (t' := s.toks) (ch := [T]) (fun b hb => by
      have e : b = T := by simpa using hb
      rw [e]; exact ⟨f3, f1, f4, f5⟩) (fun b o _ _ _ e _ => e) (fun b o _ _ _ e _ => ⟨o.slots, e⟩) (fun b o' hc _ n => by rw [upd_ne (fun z => hc (by simp [z]))]; exact n) (fun b o' _ e => ⟨o', e⟩)
    (fun b xs e => by rw [upd_ne (nT b _ e)]; exact e) (fun b o' u e => by rw [upd_ne (nT b _ e)]; exact e) (fun b ps e => by rw [upd_ne (nT b _ e)]; exact e) (fun m hm => hm) (fun b u e => ?_) I.bare
  · exact q
  · by_cases hb : b = T
    · subst hb; rw [upd_same] at e; cases e; exact new
    · rw [upd_ne hb] at e
      exact (I.hok b u e).stay (fun _ _ _ q => q) (fun c q => by rw [upd_ne (nT c _ q)]; exact q) fun c xs _ q => by rw [upd_ne (nT c _ q)]; exact q
end
def Ite (K : PySem.W.Frag) (b : Bool) (a : Addr) : It :=
  ⟨fun i H => ∃ xs x, SqB K H b a xs ∧ xs[i]? = some x, fun i H v H' => ∃ p x, v = .ref p ∧ H p = none ∧ H' = upd H p (.tup [.int i, x]) ∧ ∀ xs, SqB K H b a xs → xs[i]? = some x, fun i H => ∃ xs, SqB K H b a xs ∧ xs.length = i⟩
theorem turn_enum {P : Program} {w : World} {K : PySem.W.Frag} {es : List Expr} {kk : Nat} {pos : Pos} (b : Bool) (a it e : Addr) (hei : e ≠ it) :
    Turn P w K (.Tuple es kk pos) (Ite K b a) [e, it] e (fun i h => (∃ old, IsEnum h e it i old) ∧ SeqIt b h it a i) where
  mem := by simp
  obj := fun i h st c hc => by
    obtain ⟨⟨old, he⟩, st⟩ := st
    rcases List.mem_cons.mp hc with rfl | hc
    · exact ⟨_, he, fun v z => by
        have z' : Data.fields _ = Data.cell v := z
        cases z'⟩
    · have e' : c = it := by simpa using hc
      subst e'
      obtain ⟨o, ho, hd⟩ := st.obj
      exact ⟨o, ho, fun v z => by rw [hd] at z; cases z⟩
  keep := fun i h h' st k => by
    obtain ⟨⟨old, he⟩, st⟩ := st
    exact ⟨⟨old, k e (by simp) _ he⟩, st.at fun o q => k it (by simp) o q⟩
  item := by
    intro X hP hw hK hc i pins s σ H E I hf st hg
    subst hP hw hK
    obtain ⟨xs, x, hq, hx⟩ := hg
    obtain ⟨⟨old, he⟩, st⟩ := st
    obtain ⟨its, rv, ha⟩ := I.seq hq
    obtain ⟨u, hu, ru⟩ := rv.get hx
    obtain ⟨oa, na, ea, da⟩ := ha.obj
    obtain ⟨oi, ei, di⟩ := st.obj
    have hai : a ≠ it := fun z => by rw [z, ei] at ea; cases ea; rw [di] at da; cases da
    have hea : e ≠ a := fun z => by rw [← z, he] at ea; cases ea; cases da
    have hlt : i < its.toArray.size := by
      have := (List.getElem?_eq_some_iff.mp hu).1
      simpa using this
    refine wpAny_pyNext_enum_itemD (draws_seq (A := X.A.in1) b (I.ok.hd hc) it a hai its.toArray) he ⟨st, ha⟩ hlt hei (by simp [hei, hea]) fun y h1 tk hy hout st1 hT hz hk => ?_
    have ey : y = u := by
      have : its[i]? = some y := by simpa using hy
      rw [hu] at this
      exact (Option.some.inj this).symm
    subst ey
    refine ⟨_, rfl, wpAny_letOwnedTupleGo_enum hout fun h2 he2 hs2 => ?_⟩
    have elt : e < s.heap.objs.size := Heap.lt_size he
    have ilt : it < s.heap.objs.size := Heap.lt_size ei
    have I2 : Inv X pins σ H { s with heap := h2, toks := tk + 1 } := I.turnedN hf fun c o hc q => hs2.extBut c o (fun z => hc (by simp [z])) (hk c o (fun z => hc (by simp [z])) (fun z => hc (by simp [z])) q)
    have g2 : h2.get? s.heap.objs.size = some { cls := .type "tuple", data := .seq #[.int i tk, y] } := hs2.extBut _ _ (Nat.ne_of_gt elt) hT
    have hn : H s.heap.objs.size = none := I.hok.fresh (Nat.le_refl _)
    refine ⟨.ref s.heap.objs.size, upd H s.heap.objs.size (.tup [.int i, x]), I2.track (T := s.heap.objs.size) (o := .tup [.int i, x]) (I.fpOk (Nat.le_refl _) hn) ?_, rfl, ?_, ⟨⟨y, he2⟩, ?_⟩, fun c hc => ?_⟩
    · exact ⟨by show 2 ≤ sizeLine; decide, [.int i tk, y], .cons ⟨tk, rfl⟩ (.cons ru .nil), _, g2, rfl, _, rfl⟩
    · exact ⟨_, x, rfl, hn, rfl, fun ys hy => by rw [I.seq_inj hy hq]; exact hx⟩
    · exact st1.1.at fun o q => hs2.extBut it o (Ne.symm hei) q
    · have : c < s.heap.objs.size := by
        rcases List.mem_cons.mp hc with rfl | hc
        · exact elt
        · have e' : c = it := by simpa using hc
          rw [e']; exact ilt
      rw [upd_ne (Nat.ne_of_lt this)]
      exact (hf c hc).1
  done := by
    intro X hP hw hK hc i pins s σ H E I hf st hg
    subst hP hw hK
    obtain ⟨xs, hq, hx⟩ := hg
    obtain ⟨⟨old, he⟩, st⟩ := st
    obtain ⟨its, rv, ha⟩ := I.seq hq
    obtain ⟨oa, na, ea, da⟩ := ha.obj
    obtain ⟨oi, ei, di⟩ := st.obj
    have hai : a ≠ it := fun z => by rw [z, ei] at ea; cases ea; rw [di] at da; cases da
    have hl := rv.length
    have ez : its.toArray.size = i := by simp; omega
    refine wpAny_pyNext_enum_endD (draws_seq (A := X.A.in1) b (I.ok.hd hc) it a hai its.toArray) he (by rw [ez]; exact ⟨st, ha⟩) fun h' hx' => ⟨rfl, ?_⟩
    exact I.turnedN (t' := s.toks) hf fun c o hc q => hx' c o (fun z => hc (by simp [z])) q
  self := fun A i s Q E st h => by
    obtain ⟨⟨old, he⟩, st⟩ := st
    exact wpAny_pyIter_enum he h
end L2
namespace L2
open PySem PySem.Spec PyProof.Rows
abbrev itObj (b : Bool) (a : Addr) : Obj := { cls := .type (if b then "tuple_iterator" else "list_iterator"), data := .fields #[.ref a, .int 0 0] }
theorem itObj_at {b : Bool} {h : Heap} {it a : Addr} (e : h.get? it = some (itObj b a)) : SeqIt b h it a 0 := by
  cases b with
  | false => exact ⟨_, e, rfl, rfl⟩
  | true => exact ⟨_, e, rfl, rfl⟩
theorem iter_seqE {prog : Program} {w : World} {A : Around} {E : Value → Shared → Prop} {s : Shared} {b : Bool} {a : Addr} {items : Array Value} {Q : Value → Shared → Prop} (ha : SeqOf b s.heap a items)
    (hQ : Q (.ref s.heap.objs.size) { s with heap := s.heap.push (itObj b a) }) : wpAny (model prog w) A (pyIter (.ref a)) Q E s := by
  cases b with
  | false => exact wpAny_pyIter_list ha hQ
  | true => exact wpAny_pyIter_tuple ha hQ
open AutoSeq1 (wpAny_loadPart') in
theorem enum_newT (l : Addr) (items : Array Value) (n : Nat) (dct : Option Addr) (sl : Array (Option Value)) :
    Meets (Builtin.«enumerate.__new__» ⟨[.type "enumerate", .ref l], []⟩) (fun _ R s => s.heap.get? l = some { cls := .type "tuple", dict := dct, data := .seq items n, slots := sl } ∧
      R (.ok (.ret (.ref (s.heap.push (itObj true l)).objs.size))) { s with heap := (s.heap.push (itObj true l)).push { cls := .type "enumerate", data := .fields #[.none, .bool false, .ref s.heap.objs.size, rawInt 0, .none, .none] } }) :=
  .of_wp fun prog w A R s h => by
    obtain ⟨hp, g, d, tk, os⟩ := s
    obtain ⟨hl, h⟩ := h
    have hsub := sub_enumerate
    have hL : SeqOf true (Shared.heap ⟨hp, g, d, tk, os⟩) l items := ⟨_, hl, rfl, n, rfl⟩
    wp_walk using wpAny_loadPart' hl
    refine wpAny_stack_any fun st => wpAny_pure ?_
    split
    · rename_i c _ _ _ _ _
      cases (c == Value.type "enumerate") <;> (wp_walk using wpAny_loadPart' hl, iter_seqE hL) <;> exact ⟨_, rfl, h⟩
    · wp_walk using wpAny_loadPart' hl, iter_seqE hL
      exact ⟨_, rfl, h⟩
section
variable {prog : Program} {w : World} {A : Around} {E : Value → Shared → Prop} {s : Shared}
theorem enum_call {b : Bool} {l : Addr} {items : Array Value} {Q : Value → Shared → Prop} (hL : SeqOf b s.heap l items)
    (h : ∀ h', IsEnum h' (s.heap.objs.size + 1) s.heap.objs.size 0 .none → SeqIt b h' s.heap.objs.size l 0 → h'.objs.size = s.heap.objs.size + 2 → (∀ c o, s.heap.get? c = some o → h'.get? c = some o) → Q (.ref (s.heap.objs.size + 1)) { s with heap := h' }) :
    wpAny (model prog w) A (call (.type "enumerate") [.ref l]) Q E s := by
  cases b with
  | false => exact call_enumerate_list hL h
  | true =>
    obtain ⟨⟨c, dct, dt, sl⟩, hl, hc, n, hd⟩ := hL
    replace hc : c = .type "tuple" := hc
    replace hd : dt = .seq items n := hd
    subst hc hd
    refine callType_new F.called_enumerate (by decide) (F.typeCall_enumerate_1 _) (F.newCall_enumerate_1 _) (fun obj => F.args_object_init_2 obj _) F.entry_enumerate_new (enum_newT l items n dct sl) ⟨hl, ?_⟩
    have hz : (s.heap.push (itObj true l)).objs.size = s.heap.objs.size + 1 := Heap.size_push ..
    show _ ∧ _
    rw [hz]
    have he : IsEnum ((s.heap.push (itObj true l)).push { cls := .type "enumerate", data := .fields #[.none, .bool false, .ref s.heap.objs.size, rawInt 0, .none, .none] }) (s.heap.objs.size + 1) s.heap.objs.size 0 .none := by
      have q := Heap.get?_push_size (s.heap.push (itObj true l)) (o := { cls := .type "enumerate", data := .fields #[.none, .bool false, .ref s.heap.objs.size, rawInt 0, .none, .none] }) rfl
      rw [hz] at q
      exact q
    exact ⟨⟨_, he, rfl⟩, h _ he (itObj_at (Heap.get?_push_of_some _ (Heap.get?_push_size _ rfl))) (by rw [Heap.size_push, hz]) fun c o x => Heap.get?_push_of_some _ (Heap.get?_push_of_some _ x)⟩
end
section
variable {X : Cx}
def iEnum (K : PySem.W.Frag) (b : Bool) (ta : TA) : TI := fun σ H R => ta σ H fun vs H1 => ∃ a xs, vs = [.ref a] ∧ SqB K H1 b a xs ∧ R (Ite K b a) H1
theorem pi_enum (b : Bool) {es : List Expr} {kk : Nat} {tpos : Pos} {a : Expr} {ta : TA} {p pos : Pos} (hg : Gl X "enumerate") (hm : X.mg "enumerate" = none) (hbt : bootBuiltins "enumerate" = some (.type "enumerate")) (ha : PA X [a] ta) (hs : starEach [a] X.env = [(false, eval a X.env)] := by rfl) :
    PI X (.Tuple es kk tpos) (.Call (.Name "enumerate" p) [a] [] pos) (iEnum X.K b ta) := by
  intro pins s σ H R I h
  refine Call_ (ld_blt I hg hm hbt (PyProof.Rows.callWith_type1 (thn (ha pos pins s σ H _ I h) fun us s1 ⟨vs, H1, I1, r1, q1⟩ => ?_) hs rfl))
  obtain ⟨l, xs, rfl, hq, q⟩ := q1
  obtain ⟨u, rfl, ru⟩ := vals1 r1
  cases (show u = Value.ref l from ru)
  obtain ⟨its, rv, hL⟩ := I1.seq hq
  refine enum_call hL fun h' he hit hz hk => wpAny_pyIter_enum he ?_
  have I2 : Inv X pins σ H1 { s1 with heap := h' } := I1.kept (t' := s1.toks) hk
  refine ⟨s1.heap.objs.size + 1, [s1.heap.objs.size + 1, s1.heap.objs.size], _, _, H1, rfl, I2, turn_enum b l s1.heap.objs.size (s1.heap.objs.size + 1) (Nat.ne_of_gt (Nat.lt_succ_self _)), ⟨⟨_, he⟩, hit⟩, fun c hc => ?_, q⟩
  rcases List.mem_cons.mp hc with rfl | hc
  · exact I1.fpOk (Nat.le_succ _) (I1.hok.fresh (Nat.le_succ _))
  · have e : c = s1.heap.objs.size := by simpa using hc
    rw [e]
    exact I1.fpOk (Nat.le_refl _) (I1.hok.fresh (Nat.le_refl _))
end
abbrev zH1 (h : Heap) (b : Bool) (l1 : Addr) : Heap := h.push (itObj b l1)
abbrev zH2 (h : Heap) (b c : Bool) (l1 l2 : Addr) : Heap := (zH1 h b l1).push (itObj c l2)
abbrev zH3 (h : Heap) (b c : Bool) (l1 l2 : Addr) : Heap := (zH2 h b c l1 l2).push { cls := .type "tuple", data := .seq #[.ref h.objs.size, .ref (zH1 h b l1).objs.size] }
abbrev zH4 (h : Heap) (b c : Bool) (l1 l2 : Addr) : Heap := (zH3 h b c l1 l2).push { cls := .type "tuple", data := .seq #[.none, .none] }
abbrev zH5 (h : Heap) (b c : Bool) (l1 l2 : Addr) : Heap := (zH4 h b c l1 l2).push { cls := .type "zip", data := .fields #[.none, .bool false, .bool false, .ref (zH2 h b c l1 l2).objs.size, .ref (zH3 h b c l1 l2).objs.size] }
theorem zip_newB (b c : Bool) (l1 l2 : Addr) (xs ys : Array Value) :
    Meets (Builtin.«zip.__new__» ⟨[.type "zip", .ref l1, .ref l2], []⟩) (fun _ R s => SeqOf b s.heap l1 xs ∧ SeqOf c s.heap l2 ys ∧ R (.ok (.ret (.ref (zH4 s.heap b c l1 l2).objs.size))) { s with heap := zH5 s.heap b c l1 l2 }) :=
  .of_wp fun prog w A R s h => by
    obtain ⟨hp, g, d, tk, os⟩ := s
    obtain ⟨hl1, hl2, h⟩ := h
    have hsub := sub_zip
    have hL1 : SeqOf b (Shared.heap ⟨hp, g, d, tk, os⟩) l1 xs := hl1
    have hL2 : SeqOf c (Shared.heap ⟨hp.push (itObj b l1), g, d, tk, os⟩) l2 ys := SeqOf.at hl2 fun o e => Heap.get?_push_of_some _ e
    wp_walk using iter_seqE hL1, iter_seqE hL2
    exact ⟨_, rfl, h⟩
section
variable {prog : Program} {w : World} {A : Around} {E : Value → Shared → Prop} {s : Shared}
theorem zip_call {b c : Bool} {l1 l2 : Addr} {xs ys : Array Value} {Q : Value → Shared → Prop} (hl1 : SeqOf b s.heap l1 xs) (hl2 : SeqOf c s.heap l2 ys)
    (h : ∀ h', IsZip h' (s.heap.objs.size + 4) (s.heap.objs.size + 2) (s.heap.objs.size + 3) .none → IsPair h' (s.heap.objs.size + 2) (.ref s.heap.objs.size) (.ref (s.heap.objs.size + 1)) → IsPair h' (s.heap.objs.size + 3) .none .none →
      SeqIt b h' s.heap.objs.size l1 0 → SeqIt c h' (s.heap.objs.size + 1) l2 0 → (∀ c o, s.heap.get? c = some o → h'.get? c = some o) → Q (.ref (s.heap.objs.size + 4)) { s with heap := h' }) :
    wpAny (model prog w) A (call (.type "zip") [.ref l1, .ref l2]) Q E s := by
  refine callType_new F.called_zip (by decide) (F.typeCall_zip_2 _ _) (F.newCall_zip_2 _ _) (fun obj => F.args_object_init_3 obj _ _) F.entry_zip_new (zip_newB b c l1 l2 xs ys) ⟨hl1, hl2, ?_⟩
  have z1 : (zH1 s.heap b l1).objs.size = s.heap.objs.size + 1 := Heap.size_push ..
  have z2 : (zH2 s.heap b c l1 l2).objs.size = s.heap.objs.size + 2 := by rw [Heap.size_push, z1]
  have z3 : (zH3 s.heap b c l1 l2).objs.size = s.heap.objs.size + 3 := by rw [Heap.size_push, z2]
  have z4 : (zH4 s.heap b c l1 l2).objs.size = s.heap.objs.size + 4 := by rw [Heap.size_push, z3]
  have g5 : (zH5 s.heap b c l1 l2).get? (zH4 s.heap b c l1 l2).objs.size = some _ := Heap.get?_push_size _ rfl
  have g4 : (zH5 s.heap b c l1 l2).get? (zH3 s.heap b c l1 l2).objs.size = some _ := Heap.get?_push_of_some _ (Heap.get?_push_size _ rfl)
  have g3 : (zH5 s.heap b c l1 l2).get? (zH2 s.heap b c l1 l2).objs.size = some _ := Heap.get?_push_of_some _ (Heap.get?_push_of_some _ (Heap.get?_push_size _ rfl))
  have g2 : (zH5 s.heap b c l1 l2).get? (zH1 s.heap b l1).objs.size = some _ := Heap.get?_push_of_some _ (Heap.get?_push_of_some _ (Heap.get?_push_of_some _ (Heap.get?_push_size _ rfl)))
  have g1 : (zH5 s.heap b c l1 l2).get? s.heap.objs.size = some _ := Heap.get?_push_of_some _ (Heap.get?_push_of_some _ (Heap.get?_push_of_some _ (Heap.get?_push_of_some _ (Heap.get?_push_size _ rfl))))
  show _ ∧ _
  rw [z2, z3, z4] at g5
  rw [z1, z2] at g3
  rw [z3] at g4
  rw [z1] at g2
  rw [z4]
  exact ⟨⟨_, g5, rfl⟩, h _ g5 g3 g4 (itObj_at g1) (itObj_at g2) fun c o x => Heap.get?_push_of_some _ (Heap.get?_push_of_some _ (Heap.get?_push_of_some _ (Heap.get?_push_of_some _ (Heap.get?_push_of_some _ x))))⟩
abbrev ZKeep (z TO i1 i2 : Addr) (h h' : Heap) : Prop := ∀ c o, c ≠ z → c ≠ TO → c ≠ i1 → c ≠ i2 → h.get? c = some o → h'.get? c = some o
theorem zip_item {b c : Bool} {z TI TO i1 i2 l1 l2 : Addr} {k : Nat} {xs ys : Array Value} {x y p q : Value} {Q : Option Value → Shared → Prop} (D : ZipApart z TI TO i1 i2 l1 l2)
    (hz : IsZip s.heap z TI TO .none) (hTI : IsPair s.heap TI (.ref i1) (.ref i2)) (hTO : IsPair s.heap TO p q) (h1 : SeqIt b s.heap i1 l1 k) (h2 : SeqIt c s.heap i2 l2 k) (hl1 : SeqOf b s.heap l1 xs) (hl2 : SeqOf c s.heap l2 ys) (hx : xs[k]? = some x) (hy : ys[k]? = some y)
    (hQ : ∀ h', IsZip h' z TI TO (rawInt s.heap.objs.size) → IsPair h' TO x y → SeqIt b h' i1 l1 (k + 1) → SeqIt c h' i2 l2 (k + 1) → IsPair h' s.heap.objs.size x y → ZKeep z TO i1 i2 s.heap h' → Q (some (.ref s.heap.objs.size)) { s with heap := h' }) :
    wpAny (model prog w) A (pyNext (.ref z)) Q E s := by
  have hT : s.TypeIs (.ref z) "zip" := ⟨_, hz, rfl⟩
  unfold pyNext
  refine wpAny_bind (wpAny_attempt (wpAny_callSpecial?_slot (name := Str.ofString "__next__") hT F.slot_zip_next (wpAny_call_entry F.slot_zip_next hT F.entry_zip_next ?_ (F.args_zip_next_1 _))))
  show wpAny _ _ (field (.ref z) 2 >>= _) _ _ _
  refine wpAny_bind (wpAny_field hz rfl (x := .bool false) rfl ?_)
  show wpAny _ _ (field (.ref z) 3 >>= _) _ _ _
  refine wpAny_bind (wpAny_field hz rfl (x := .ref TI) rfl (wpAny_bind (wpAny_seqItems hTI rfl ?_)))
  show wpAny _ _ (Builtin.SmallTypes.ownedTupleIsFree (.ref z) >>= _) _ _ _
  refine wpAny_bind ?_
  unfold Builtin.SmallTypes.ownedTupleIsFree
  refine wpAny_bind (wpAny_field hz rfl (x := .none) rfl (wpAny_pure ?_))
  simp only [if_true]
  refine wpAny_bind (wpAny_rule (wpAny_bind (wpAny_field hz rfl (x := .ref TO) rfl (wpAny_bind (wpAny_setField_rec hz (by simp) fun ha hza sa => ?_)))))
  replace hza : IsZip ha z TI TO .ellipsis := hza
  refine wpAny_bind ?_
  simp only [List.zipIdx_cons, List.zipIdx_nil, List.forIn_cons, List.forIn_nil]
  refine wpAny_bind (wpAny_bind (wpAny_onRaise ?_))
  show wpAny _ _ (Builtin.SmallTypes.nextOf (.ref i1) >>= _) _ _ _
  refine wpAny_bind (next_seq (h1.at fun o e => sa.extBut _ o D.i1z e) (hl1.at fun o e => sa.extBut _ o D.l1z e) hx fun hb h1b sb => wpAny_pure ?_)
  have tb : IsPair hb TO p q := sb.extBut _ _ D.TOi1 (sa.extBut _ _ D.TOz hTO)
  refine wpAny_bind (wpAny_seqItems tb rfl (wpAny_bind (wpAny_updateSeq_pair tb fun hc tc sc => ?_)))
  replace tc : IsPair hc TO x q := tc
  refine wpAny_bind (wpAny_letGo (wpAny_pure ?_))
  refine wpAny_bind (wpAny_bind (wpAny_onRaise ?_))
  show wpAny _ _ (Builtin.SmallTypes.nextOf (.ref i2) >>= _) _ _ _
  refine wpAny_bind (next_seq (h2.at fun o e => sc.extBut _ o D.TOi2.symm (sb.extBut _ o D.i12.symm (sa.extBut _ o D.i2z e))) (hl2.at fun o e => sc.extBut _ o D.l2TO (sb.extBut _ o D.l2i1 (sa.extBut _ o D.l2z e))) hy fun hd h2d sd => wpAny_pure ?_)
  have td : IsPair hd TO x q := sd.extBut _ _ D.TOi2 tc
  refine wpAny_bind (wpAny_seqItems td rfl (wpAny_bind (wpAny_updateSeq_pair td fun he te se => ?_)))
  replace te : IsPair he TO x y := te
  refine wpAny_bind (wpAny_letGo (wpAny_pure (wpAny_pure ?_)))
  refine wpAny_bind (wpAny_seqItems te rfl (wpAny_bind (wpAny_newTuple ?_)))
  have sz : he.objs.size = s.heap.objs.size := by rw [se.1, sd.1, sc.1, sb.1, sa.1]
  have ze : IsZip he z TI TO .ellipsis := se.extBut _ _ D.TOz.symm (sd.extBut _ _ D.i2z.symm (sc.extBut _ _ D.TOz.symm (sb.extBut _ _ D.i1z.symm hza)))
  have ke : ZKeep z TO i1 i2 s.heap he := fun c o c1 c2 c3 c4 e => se.extBut _ _ c2 (sd.extBut _ _ c4 (sc.extBut _ _ c2 (sb.extBut _ _ c3 (sa.extBut _ _ c1 e))))
  have h1e : SeqIt b he i1 l1 (k + 1) := h1b.at fun o e => se.extBut _ o D.TOi1.symm (sd.extBut _ o D.i12 (sc.extBut _ o D.TOi1.symm e))
  have h2e : SeqIt c he i2 l2 (k + 1) := h2d.at fun o e => se.extBut _ o D.TOi2.symm e
  have zlt : z < he.objs.size := Heap.lt_size ze
  show wpAny _ _ (Builtin.SmallTypes.ownedTupleHandOut (.ref z) (.ref he.objs.size) >>= _) _ _ _
  refine wpAny_bind ?_
  unfold Builtin.SmallTypes.ownedTupleHandOut
  have zf : IsZip (he.push { cls := .type "tuple", data := .seq #[x, y] }) z TI TO .ellipsis := Heap.get?_push_of_some _ ze
  refine wpAny_bind (wpAny_setField_rec zf (by simp) fun hg zg sg => ?_)
  replace zg : IsZip hg z TI TO (rawInt he.objs.size) := zg
  refine wpAny_setField_rec zg (by simp) fun hh zh sh => ?_
  replace zh : IsZip hh z TI TO (rawInt he.objs.size) := zh
  have up : ∀ c o, c ≠ z → he.get? c = some o → hh.get? c = some o := fun c o c1 e => sh.extBut _ _ c1 (sg.extBut _ _ c1 (Heap.get?_push_of_some _ e))
  have th : IsPair hh he.objs.size x y := sh.extBut _ _ (Nat.ne_of_gt zlt) (sg.extBut _ _ (Nat.ne_of_gt zlt) (Heap.get?_push_size _ rfl))
  rw [sz] at zh th
  refine wpAny_pure ⟨_, rfl, wpAny_pure ?_⟩
  show Q (some (.ref he.objs.size)) _
  rw [sz]
  exact hQ hh zh (up _ _ D.TOz te) (h1e.at fun o e => up _ o D.i1z e) (h2e.at fun o e => up _ o D.i2z e) th fun c o c1 c2 c3 c4 e => up c o c1 (ke c o c1 c2 c3 c4 e)
theorem zip_end {b c : Bool} {z TI TO i1 i2 l1 l2 : Addr} {k : Nat} {xs ys : Array Value} {p q : Value} {Q : Option Value → Shared → Prop} (hh : A.handled = none) (D : ZipApart z TI TO i1 i2 l1 l2)
    (hz : IsZip s.heap z TI TO .none) (hTI : IsPair s.heap TI (.ref i1) (.ref i2)) (hTO : IsPair s.heap TO p q) (h1 : SeqIt b s.heap i1 l1 k) (h2 : SeqIt c s.heap i2 l2 k) (hl1 : SeqOf b s.heap l1 xs) (hl2 : SeqOf c s.heap l2 ys) (hend : xs[k]? = none ∨ ys[k]? = none)
    (hQ : ∀ h', ZKeep z TO i1 i2 s.heap h' → Q none { s with heap := h' }) : wpAny (model prog w) A (pyNext (.ref z)) Q E s := by
  have hT : s.TypeIs (.ref z) "zip" := ⟨_, hz, rfl⟩
  unfold pyNext
  refine wpAny_bind (wpAny_attempt (wpAny_callSpecial?_slot (name := Str.ofString "__next__") hT F.slot_zip_next (wpAny_call_entry F.slot_zip_next hT F.entry_zip_next ?_ (F.args_zip_next_1 _))))
  show wpAny _ _ (field (.ref z) 2 >>= _) _ _ _
  refine wpAny_bind (wpAny_field hz rfl (x := .bool false) rfl ?_)
  show wpAny _ _ (field (.ref z) 3 >>= _) _ _ _
  refine wpAny_bind (wpAny_field hz rfl (x := .ref TI) rfl (wpAny_bind (wpAny_seqItems hTI rfl ?_)))
  show wpAny _ _ (Builtin.SmallTypes.ownedTupleIsFree (.ref z) >>= _) _ _ _
  refine wpAny_bind ?_
  unfold Builtin.SmallTypes.ownedTupleIsFree
  refine wpAny_bind (wpAny_field hz rfl (x := .none) rfl (wpAny_pure ?_))
  simp only [if_true]
  refine wpAny_bind (wpAny_rule (wpAny_bind (wpAny_field hz rfl (x := .ref TO) rfl (wpAny_bind (wpAny_setField_rec hz (by simp) fun ha hza sa => ?_)))))
  replace hza : IsZip ha z TI TO .ellipsis := hza
  refine wpAny_bind ?_
  simp only [List.zipIdx_cons, List.zipIdx_nil, List.forIn_cons, List.forIn_nil]
  refine wpAny_bind (wpAny_bind (wpAny_onRaise ?_))
  show wpAny _ _ (Builtin.SmallTypes.nextOf (.ref i1) >>= _) _ _ _
  cases hx : xs[k]? with
  | none =>
    refine wpAny_bind (next_seqEnd hh (h1.at fun o e => sa.extBut _ o D.i1z e) (hl1.at fun o e => sa.extBut _ o D.l1z e) hx fun hb e sb ⟨oe, hoe, hce⟩ => ?_)
    have zb : IsZip hb z TI TO .ellipsis := sb _ _ D.i1z.symm hza
    have ez : e ≠ z := fun w' => by subst w'; rw [zb] at hoe; cases hoe; simp at hce
    exact wpAny_setField_rec zb (by simp) fun hc _ sc => wpAny_bind (wpAny_isInstance (T := "StopIteration") (b := true) ⟨oe, sc.extBut _ _ ez hoe, hce⟩ isSubtype_stop (wpAny_pure (hQ hc fun c o c1 _ c3 _ x => sc.extBut _ _ c1 (sb _ _ c3 (sa.extBut _ _ c1 x)))))
  | some x =>
    have hy : ys[k]? = none := by
      rcases hend with h | h
      · rw [hx] at h; cases h
      · exact h
    refine wpAny_bind (next_seq (h1.at fun o e => sa.extBut _ o D.i1z e) (hl1.at fun o e => sa.extBut _ o D.l1z e) hx fun hb h1b sb => wpAny_pure ?_)
    have tb : IsPair hb TO p q := sb.extBut _ _ D.TOi1 (sa.extBut _ _ D.TOz hTO)
    refine wpAny_bind (wpAny_seqItems tb rfl (wpAny_bind (wpAny_updateSeq_pair tb fun hc tc sc => ?_)))
    refine wpAny_bind (wpAny_letGo (wpAny_pure ?_))
    refine wpAny_bind (wpAny_bind (wpAny_onRaise ?_))
    show wpAny _ _ (Builtin.SmallTypes.nextOf (.ref i2) >>= _) _ _ _
    refine wpAny_bind (next_seqEnd hh (h2.at fun o e => sc.extBut _ o D.TOi2.symm (sb.extBut _ o D.i12.symm (sa.extBut _ o D.i2z e))) (hl2.at fun o e => sc.extBut _ o D.l2TO (sb.extBut _ o D.l2i1 (sa.extBut _ o D.l2z e))) hy fun hd e sd ⟨oe, hoe, hce⟩ => ?_)
    have zd : IsZip hd z TI TO .ellipsis := sd _ _ D.i2z.symm (sc.extBut _ _ D.TOz.symm (sb.extBut _ _ D.i1z.symm hza))
    have ez : e ≠ z := fun w' => by subst w'; rw [zd] at hoe; cases hoe; simp at hce
    exact wpAny_setField_rec zd (by simp) fun he _ se => wpAny_bind (wpAny_isInstance (T := "StopIteration") (b := true) ⟨oe, se.extBut _ _ ez hoe, hce⟩ isSubtype_stop (wpAny_pure (hQ he fun c o c1 c2 c3 c4 x => se.extBut _ _ c1 (sd _ _ c4 (sc.extBut _ _ c2 (sb.extBut _ _ c3 (sa.extBut _ _ c1 x)))))))
end
end L2
namespace L2
open PySem PySem.Spec PyProof.Rows
theorem sq_ne_fp {X : Cx} {pins : List (Addr × Obj)} {σ : St} {H : Hp} {s : Shared} {b : Bool} {a c : Addr} {xs : List V} (I : Inv X pins σ H s) (h : SqB X.K H b a xs) (f : FpOk X pins H c) : a ≠ c := by
  obtain ⟨f0, f1, f2, f3, f4, f5⟩ := f
  have key : (∃ o, H a = some o) ∨ ∃ o, X.K.lookup a = some o := by
    cases b with
    | false =>
      rcases h with (h | ⟨o, h⟩) | ⟨o, _, _, hk, _⟩
      · exact .inl ⟨_, h⟩
      · exact .inl ⟨_, h⟩
      · exact .inr ⟨o, hk⟩
    | true =>
      rcases h with (h | ⟨o, h⟩) | ⟨o, _, _, hk, _⟩
      · exact .inl ⟨_, h⟩
      · exact .inl ⟨_, h⟩
      · exact .inr ⟨o, hk⟩
  rintro rfl
  rcases key with ⟨o, e⟩ | ⟨o, e⟩
  · rw [f0] at e; cases e
  · have q := I.ok.mod.kin a o e
    rcases f3 with f3 | f3
    · exact I.ok.noex a o q f3
    · exact absurd (Nat.lt_of_lt_of_le (Heap.lt_size q) (Nat.le_trans I.ok.bsz f3)) (Nat.lt_irrefl _)
def Itz (K : PySem.W.Frag) (b c : Bool) (l1 l2 : Addr) : It :=
  ⟨fun i H => ∃ xs ys x y, SqB K H b l1 xs ∧ SqB K H c l2 ys ∧ xs[i]? = some x ∧ ys[i]? = some y,
   fun i H v H' => ∃ p x y, v = .ref p ∧ H p = none ∧ H' = upd H p (.tup [x, y]) ∧ (∀ xs, SqB K H b l1 xs → xs[i]? = some x) ∧ ∀ ys, SqB K H c l2 ys → ys[i]? = some y,
   fun i H => ∃ xs ys, SqB K H b l1 xs ∧ SqB K H c l2 ys ∧ (xs.length ≤ i ∨ ys.length ≤ i)⟩
structure ZAp (z TI TO i1 i2 : Addr) : Prop where
  TIz : TI ≠ z
  TOz : TO ≠ z
  i1z : i1 ≠ z
  i2z : i2 ≠ z
  TITO : TI ≠ TO
  TIi1 : TI ≠ i1
  TIi2 : TI ≠ i2
  TOi1 : TO ≠ i1
  TOi2 : TO ≠ i2
  i12 : i1 ≠ i2
theorem turn_zip {P : Program} {w : World} {K : PySem.W.Frag} {es : List Expr} {kk : Nat} {pos : Pos} (b c : Bool) (z TI TO i1 i2 l1 l2 : Addr) (ap : ZAp z TI TO i1 i2) :
    Turn P w K (.Tuple es kk pos) (Itz K b c l1 l2) [z, TI, TO, i1, i2] z
      (fun i h => IsZip h z TI TO .none ∧ IsPair h TI (.ref i1) (.ref i2) ∧ (∃ p q, IsPair h TO p q) ∧ SeqIt b h i1 l1 i ∧ SeqIt c h i2 l2 i) where
  mem := by simp
  obj := fun i h st d hd => by
    obtain ⟨hz, hTI, ⟨p, q, hTO⟩, h1, h2⟩ := st
    obtain ⟨o1, e1, d1⟩ := h1.obj
    obtain ⟨o2, e2, d2⟩ := h2.obj
    simp only [List.mem_cons, List.not_mem_nil, or_false] at hd
    rcases hd with rfl | rfl | rfl | rfl | rfl
    · exact ⟨_, hz, fun v e => by
        have e' : Data.fields _ = Data.cell v := e
        cases e'⟩
    · exact ⟨_, hTI, fun v e => by
        have e' : Data.seq _ _ = Data.cell v := e
        cases e'⟩
    · exact ⟨_, hTO, fun v e => by
        have e' : Data.seq _ _ = Data.cell v := e
        cases e'⟩
    · exact ⟨o1, e1, fun v e => by rw [d1] at e; cases e⟩
    · exact ⟨o2, e2, fun v e => by rw [d2] at e; cases e⟩
  keep := fun i h h' st k => by
    obtain ⟨hz, hTI, ⟨p, q, hTO⟩, h1, h2⟩ := st
    exact ⟨k z (by simp) _ hz, k TI (by simp) _ hTI, ⟨p, q, k TO (by simp) _ hTO⟩, h1.at fun o e => k i1 (by simp) o e, h2.at fun o e => k i2 (by simp) o e⟩
  item := by
    intro X hP hw hK hc i pins s σ H E I hf st hg
    subst hP hw hK
    obtain ⟨xs, ys, x, y, hq1, hq2, hx, hy⟩ := hg
    obtain ⟨hz, hTI, ⟨p, q, hTO⟩, h1, h2⟩ := st
    obtain ⟨its1, rv1, ha1⟩ := I.seq hq1
    obtain ⟨its2, rv2, ha2⟩ := I.seq hq2
    obtain ⟨u, hu, ru⟩ := rv1.get hx
    obtain ⟨v, hv, rv⟩ := rv2.get hy
    have D : ZipApart z TI TO i1 i2 l1 l2 := ⟨ap.TIz, ap.TOz, ap.i1z, ap.i2z, ap.TITO, ap.TIi1, ap.TIi2, ap.TOi1, ap.TOi2, ap.i12,
      sq_ne_fp I hq1 (hf z (by simp)), sq_ne_fp I hq1 (hf TO (by simp)), sq_ne_fp I hq1 (hf i1 (by simp)), sq_ne_fp I hq1 (hf i2 (by simp)), sq_ne_fp I hq2 (hf z (by simp)), sq_ne_fp I hq2 (hf TO (by simp)), sq_ne_fp I hq2 (hf i1 (by simp)), sq_ne_fp I hq2 (hf i2 (by simp))⟩
    refine zip_item D hz hTI hTO h1 h2 ha1 ha2 (x := u) (y := v) (by simpa using hu) (by simpa using hv) fun h' a1 a2 a3 a4 a5 hk => ⟨_, rfl, wpAny_letOwnedTupleGo_zip a1 fun h2' hz2 hs2 => ?_⟩
    have zlt : z < s.heap.objs.size := Heap.lt_size hz
    have I2 : Inv X pins σ H { s with heap := h2' } := I.turnedN (t' := s.toks) hf fun d o hd e => hs2.extBut d o (fun w' => hd (by simp [w'])) (hk d o (fun w' => hd (by simp [w'])) (fun w' => hd (by simp [w'])) (fun w' => hd (by simp [w'])) (fun w' => hd (by simp [w'])) e)
    have g2 : h2'.get? s.heap.objs.size = some { cls := .type "tuple", data := .seq #[u, v] } := hs2.extBut _ _ (Nat.ne_of_gt zlt) a5
    have hn : H s.heap.objs.size = none := I.hok.fresh (Nat.le_refl _)
    refine ⟨.ref s.heap.objs.size, upd H s.heap.objs.size (.tup [x, y]), I2.track (T := s.heap.objs.size) (o := .tup [x, y]) (I.fpOk (Nat.le_refl _) hn) ?_, rfl, ?_, ⟨hz2, ?_, ⟨u, v, ?_⟩, ?_, ?_⟩, fun d hd => ?_⟩
    · exact ⟨by show 2 ≤ sizeLine; decide, [u, v], .cons ru (.cons rv .nil), _, g2, rfl, _, rfl⟩
    · exact ⟨_, x, y, rfl, hn, rfl, fun zs hy' => by rw [I.seq_inj hy' hq1]; exact hx, fun zs hy' => by rw [I.seq_inj hy' hq2]; exact hy⟩
    · exact hs2.extBut _ _ ap.TIz (hk _ _ ap.TIz ap.TITO ap.TIi1 ap.TIi2 hTI)
    · exact hs2.extBut _ _ ap.TOz a2
    · exact a3.at fun o e => hs2.extBut _ o ap.i1z e
    · exact a4.at fun o e => hs2.extBut _ o ap.i2z e
    · have hlt : d < s.heap.objs.size := by
        obtain ⟨o1, e1, _⟩ := h1.obj
        obtain ⟨o2, e2, _⟩ := h2.obj
        simp only [List.mem_cons, List.not_mem_nil, or_false] at hd
        rcases hd with rfl | rfl | rfl | rfl | rfl
        · exact zlt
        · exact Heap.lt_size hTI
        · exact Heap.lt_size hTO
        · exact Heap.lt_size e1
        · exact Heap.lt_size e2
      rw [upd_ne (Nat.ne_of_lt hlt)]
      exact (hf d hd).1
  done := by
    intro X hP hw hK hc i pins s σ H E I hf st hg
    subst hP hw hK
    obtain ⟨xs, ys, hq1, hq2, hend⟩ := hg
    obtain ⟨hz, hTI, ⟨p, q, hTO⟩, h1, h2⟩ := st
    obtain ⟨its1, rv1, ha1⟩ := I.seq hq1
    obtain ⟨its2, rv2, ha2⟩ := I.seq hq2
    have D : ZipApart z TI TO i1 i2 l1 l2 := ⟨ap.TIz, ap.TOz, ap.i1z, ap.i2z, ap.TITO, ap.TIi1, ap.TIi2, ap.TOi1, ap.TOi2, ap.i12,
      sq_ne_fp I hq1 (hf z (by simp)), sq_ne_fp I hq1 (hf TO (by simp)), sq_ne_fp I hq1 (hf i1 (by simp)), sq_ne_fp I hq1 (hf i2 (by simp)), sq_ne_fp I hq2 (hf z (by simp)), sq_ne_fp I hq2 (hf TO (by simp)), sq_ne_fp I hq2 (hf i1 (by simp)), sq_ne_fp I hq2 (hf i2 (by simp))⟩
    have l1' := rv1.length
    have l2' := rv2.length
    have hend' : its1.toArray[i]? = none ∨ its2.toArray[i]? = none := by
      rcases hend with h | h
      · exact .inl (by simp; omega)
      · exact .inr (by simp; omega)
    refine zip_end (I.ok.hd hc) D hz hTI hTO h1 h2 ha1 ha2 hend' fun h' hk => ⟨rfl, ?_⟩
    exact I.turnedN (t' := s.toks) hf fun d o hd e => hk d o (fun w' => hd (by simp [w'])) (fun w' => hd (by simp [w'])) (fun w' => hd (by simp [w'])) (fun w' => hd (by simp [w'])) e
  self := fun A i s Q E st h => wpAny_pyIter_zip st.1 h
section
variable {X : Cx}
def iZip (K : PySem.W.Frag) (b c : Bool) (ta : TA) : TI := fun σ H R => ta σ H fun vs H1 => ∃ l1 l2 xs ys, vs = [.ref l1, .ref l2] ∧ SqB K H1 b l1 xs ∧ SqB K H1 c l2 ys ∧ R (Itz K b c l1 l2) H1
theorem pi_zip (b c : Bool) {es : List Expr} {kk : Nat} {tpos : Pos} {e1 e2 : Expr} {ta : TA} {p pos : Pos} (hg : Gl X "zip") (hm : X.mg "zip" = none) (hbt : bootBuiltins "zip" = some (.type "zip")) (ha : PA X [e1, e2] ta)
    (hs : starEach [e1, e2] X.env = [(false, eval e1 X.env), (false, eval e2 X.env)] := by rfl) (hs2 : starEach [e2] X.env = [(false, eval e2 X.env)] := by rfl) :
    PI X (.Tuple es kk tpos) (.Call (.Name "zip" p) [e1, e2] [] pos) (iZip X.K b c ta) := by
  intro pins s σ H R I h
  refine Call_ (ld_blt I hg hm hbt (PyProof.Rows.callWith_type1 (thn (ha pos pins s σ H _ I h) fun us s1 ⟨vs, H1, I1, r1, q1⟩ => ?_) (by rw [hs, hs2]) (by rw [hs2]; rfl)))
  obtain ⟨l1, l2, xs, ys, rfl, hq1, hq2, q⟩ := q1
  obtain ⟨u, v, rfl, ru, rv⟩ := vals2 r1
  cases (show u = Value.ref l1 from ru)
  cases (show v = Value.ref l2 from rv)
  obtain ⟨its1, rv1, ha1⟩ := I1.seq hq1
  obtain ⟨its2, rv2, ha2⟩ := I1.seq hq2
  refine zip_call ha1 ha2 fun h' hz hTI hTO h1 h2 hk => wpAny_pyIter_zip hz ?_
  have I2 : Inv X pins σ H1 { s1 with heap := h' } := I1.kept (t' := s1.toks) hk
  have ap : ZAp (s1.heap.objs.size + 4) (s1.heap.objs.size + 2) (s1.heap.objs.size + 3) s1.heap.objs.size (s1.heap.objs.size + 1) := by
    refine ⟨?_, ?_, ?_, ?_, ?_, ?_, ?_, ?_, ?_, ?_⟩ <;> (intro z; exact absurd (congrArg (fun (n : Nat) => n - s1.heap.objs.size) z) (by simp))
  refine ⟨s1.heap.objs.size + 4, [s1.heap.objs.size + 4, s1.heap.objs.size + 2, s1.heap.objs.size + 3, s1.heap.objs.size, s1.heap.objs.size + 1], _, _, H1, rfl, I2, turn_zip b c _ _ _ _ _ l1 l2 ap, ⟨hz, hTI, ⟨_, _, hTO⟩, h1, h2⟩, fun d hd => ?_, q⟩
  have hle : s1.heap.objs.size ≤ d := by
    simp only [List.mem_cons, List.not_mem_nil, or_false] at hd
    rcases hd with rfl | rfl | rfl | rfl | rfl
    · exact Nat.le_add_right _ _
    · exact Nat.le_add_right _ _
    · exact Nat.le_add_right _ _
    · exact Nat.le_refl _
    · exact Nat.le_add_right _ _
  exact I1.fpOk hle (I1.hok.fresh hle)
end
end L2
namespace L2
open PySem PySem.Spec PyProof.Rows
def SnL (K : PySem.W.Frag) (N : Addr → Prop) (H : Hp) (a : Addr) (xs : List V) : Prop :=
  (Rd H a (.lst xs) ∧ ¬ N a) ∨ ∃ (o : Obj) (its : Array Value) (n : Nat), K.lookup a = some o ∧ o.cls = .type "list" ∧ o.dict = none ∧ o.data = .seq its n ∧ its.size ≤ sizeLine ∧ Vals xs its.toList
def SnT (K : PySem.W.Frag) (N : Addr → Prop) (H : Hp) (a : Addr) (xs : List V) : Prop :=
  (Rd H a (.tup xs) ∧ ¬ N a) ∨ ∃ (o : Obj) (its : Array Value) (n : Nat), K.lookup a = some o ∧ o.cls = .type "tuple" ∧ o.data = .seq its n ∧ its.size ≤ sizeLine ∧ Vals xs its.toList
def Keep (N : Addr → Prop) (H H' : Hp) : Prop := ∀ b o, ¬ N b → H b = some o → H' b = some o
theorem Keep.refl {N : Addr → Prop} {H : Hp} : Keep N H H := fun _ _ _ e => e
theorem Keep.trans {N : Addr → Prop} {H H1 H2 : Hp} (a : Keep N H H1) (b : Keep N H1 H2) : Keep N H H2 := fun c o n e => b c o n (a c o n e)
theorem Keep.own {N : Addr → Prop} {H : Hp} {p : Addr} {o : HO} (h : N p) : Keep N H (upd H p o) := fun b u n e => by
  have q : b ≠ p := fun z => n (by rw [z]; exact h)
  rw [upd_ne q]
  exact e
theorem Keep.mono {N M : Addr → Prop} {H H' : Hp} (a : Keep N H H') (h : ∀ b, N b → M b) : Keep M H H' := fun b o n e => a b o (fun z => n (h b z)) e
theorem Keep.same {N : Addr → Prop} {H H' : Hp} (a : Same H H') : Keep N H H' := fun b o _ e => a b o e
abbrev N0 : Addr → Prop := fun _ => False
abbrev N1 (d : Addr) : Addr → Prop := fun b => b = d
theorem Keep.none {H H' : Hp} (a : Keep N0 H H') : Same H H' := fun b o e => a b o (fun z => z) e
section
variable {K : PySem.W.Frag} {N M : Addr → Prop} {H H' : Hp} {a : Addr} {xs : List V}
theorem SnL.of (h : H a = some (.lst xs)) (n : ¬ N a) : SnL K N H a xs := .inl ⟨.inl h, n⟩
theorem SnT.of (h : H a = some (.tup xs)) (n : ¬ N a) : SnT K N H a xs := .inl ⟨.inl h, n⟩
theorem SnL.sq (h : SnL K N H a xs) : SqL K H a xs := by
  rcases h with ⟨h, _⟩ | h
  · exact .inl h
  · exact .inr h
theorem SnT.sq (h : SnT K N H a xs) : SqT K H a xs := by
  rcases h with ⟨h, _⟩ | h
  · exact .inl h
  · exact .inr h
theorem SnL.keep (h : SnL K N H a xs) (k : Keep N H H') : SnL K N H' a xs := by
  rcases h with ⟨h | ⟨o, h⟩, n⟩ | h
  · exact .inl ⟨.inl (k _ _ n h), n⟩
  · exact .inl ⟨.inr ⟨o, k _ _ n h⟩, n⟩
  · exact .inr h
theorem SnT.keep (h : SnT K N H a xs) (k : Keep N H H') : SnT K N H' a xs := by
  rcases h with ⟨h | ⟨o, h⟩, n⟩ | h
  · exact .inl ⟨.inl (k _ _ n h), n⟩
  · exact .inl ⟨.inr ⟨o, k _ _ n h⟩, n⟩
  · exact .inr h
theorem SnL.to (h : SnL K N H a xs) (m : ∀ b o, H b = some o → M b → N b) : SnL K M H a xs := by
  rcases h with ⟨h | ⟨o, h⟩, n⟩ | h
  · exact .inl ⟨.inl h, fun z => n (m _ _ h z)⟩
  · exact .inl ⟨.inr ⟨o, h⟩, fun z => n (m _ _ h z)⟩
  · exact .inr h
theorem SnT.to (h : SnT K N H a xs) (m : ∀ b o, H b = some o → M b → N b) : SnT K M H a xs := by
  rcases h with ⟨h | ⟨o, h⟩, n⟩ | h
  · exact .inl ⟨.inl h, fun z => n (m _ _ h z)⟩
  · exact .inl ⟨.inr ⟨o, h⟩, fun z => n (m _ _ h z)⟩
  · exact .inr h
end
mutual
inductive DN (K : PySem.W.Frag) (N : Addr → Prop) (H : Hp) : V → PyData → Prop
  | non : DN K N H .non .none
  | bl (b : Bool) : DN K N H (.bl b) (.bool b)
  | int (i : Int) : DN K N H (.int i) (.int i)
  | str (x : Str) : DN K N H (.str x) (.str x)
  | lst {a : Addr} {xs : List V} {ds : List PyData} : SnL K N H a xs → DNs K N H xs ds → DN K N H (.ref a) (.list ds)
  | tup {a : Addr} {xs : List V} {ds : List PyData} : SnT K N H a xs → DNs K N H xs ds → DN K N H (.ref a) (.tuple ds)
  | exc {a C dx : Addr} {n : Int} : ¬ N a → ¬ N dx → H a = some (.ext (ExcAt a C (some dx))) → H dx = some (.xd [("day", .int n)]) → DN K N H (.ref a) (excD C n)
inductive DNs (K : PySem.W.Frag) (N : Addr → Prop) (H : Hp) : List V → List PyData → Prop
  | nil : DNs K N H [] []
  | cons {x : V} {xs : List V} {d : PyData} {ds : List PyData} : DN K N H x d → DNs K N H xs ds → DNs K N H (x :: xs) (d :: ds)
end
section
variable {K : PySem.W.Frag} {N M : Addr → Prop} {H H' : Hp}
mutual
theorem DN.dv : ∀ {v : V} {d : PyData}, DN K N H v d → DV K H v d
  | _, _, .non => .non
  | _, _, .bl b => .bl b
  | _, _, .int i => .int i
  | _, _, .str x => .str x
  | _, _, .lst h q => .lst h.sq q.dv
  | _, _, .tup h q => .tup h.sq q.dv
  | _, _, .exc _ _ h q => .exc h q
theorem DNs.dv : ∀ {v : List V} {d : List PyData}, DNs K N H v d → DVs K H v d
  | _, _, .nil => .nil
  | _, _, .cons h q => .cons h.dv q.dv
end
mutual
theorem DN.keep (k : Keep N H H') : ∀ {v : V} {d : PyData}, DN K N H v d → DN K N H' v d
  | _, _, .non => .non
  | _, _, .bl b => .bl b
  | _, _, .int i => .int i
  | _, _, .str x => .str x
  | _, _, .lst h q => .lst (h.keep k) (DNs.keep k q)
  | _, _, .tup h q => .tup (h.keep k) (DNs.keep k q)
  | _, _, .exc n1 n2 h q => .exc n1 n2 (k _ _ n1 h) (k _ _ n2 q)
theorem DNs.keep (k : Keep N H H') : ∀ {v : List V} {d : List PyData}, DNs K N H v d → DNs K N H' v d
  | _, _, .nil => .nil
  | _, _, .cons h q => .cons (DN.keep k h) (DNs.keep k q)
end
mutual
theorem DN.to (m : ∀ b o, H b = some o → M b → N b) : ∀ {v : V} {d : PyData}, DN K N H v d → DN K M H v d
  | _, _, .non => .non
  | _, _, .bl b => .bl b
  | _, _, .int i => .int i
  | _, _, .str x => .str x
  | _, _, .lst h q => .lst (h.to m) (DNs.to m q)
  | _, _, .tup h q => .tup (h.to m) (DNs.to m q)
  | _, _, .exc n1 n2 h q => .exc (fun z => n1 (m _ _ h z)) (fun z => n2 (m _ _ q z)) h q
theorem DNs.to (m : ∀ b o, H b = some o → M b → N b) : ∀ {v : List V} {d : List PyData}, DNs K N H v d → DNs K M H v d
  | _, _, .nil => .nil
  | _, _, .cons h q => .cons (DN.to m h) (DNs.to m q)
end
theorem DNs.len : ∀ {v : List V} {d : List PyData}, DNs K N H v d → v.length = d.length
  | _, _, .nil => rfl
  | _, _, .cons _ q => by simp [DNs.len q]
theorem DNs.get : ∀ {v : List V} {d : List PyData} {i : Nat} {x : V}, DNs K N H v d → v[i]? = some x → ∃ e, d[i]? = some e ∧ DN K N H x e
  | _, _, _, _, .nil, e => by simp at e
  | _, _, 0, _, .cons h _, e => by simp at e; subst e; exact ⟨_, rfl, h⟩
  | _, _, i + 1, _, .cons _ q, e => by
    obtain ⟨d, h1, h2⟩ := DNs.get (i := i) q (by simpa using e)
    exact ⟨d, by simpa using h1, h2⟩
theorem DNs.app : ∀ {v w : List V} {d e : List PyData}, DNs K N H v d → DNs K N H w e → DNs K N H (v ++ w) (d ++ e)
  | _, _, _, _, .nil, q => q
  | _, _, _, _, .cons h t, q => .cons h (t.app q)
abbrev pI (ns : List Int) : PyData := .list (ns.map .int)
abbrev pT (ns : List Int) : PyData := .tuple (ns.map .int)
theorem dns_ints : ∀ ns : List Int, DNs K N H (ns.map V.int) (ns.map .int)
  | [] => .nil
  | n :: r => .cons (.int n) (dns_ints r)
theorem DNs.ints : ∀ {ns : List Int} {v : List V}, DNs K N H v (ns.map .int) → v = ns.map V.int
  | [], _, .nil => rfl
  | n :: r, _, .cons h q => by
    cases h
    rw [q.ints]; rfl
theorem DN.ofI {a : Addr} {ns : List Int} (h : SnL K N H a (ns.map V.int)) : DN K N H (.ref a) (pI ns) := .lst h (dns_ints ns)
theorem DN.list {v : V} {ds : List PyData} (h : DN K N H v (.list ds)) : ∃ a xs, v = .ref a ∧ SnL K N H a xs ∧ DNs K N H xs ds := by
  cases h with | lst h q => exact ⟨_, _, rfl, h, q⟩
theorem DN.tuple {v : V} {ds : List PyData} (h : DN K N H v (.tuple ds)) : ∃ a xs, v = .ref a ∧ SnT K N H a xs ∧ DNs K N H xs ds := by
  cases h with | tup h q => exact ⟨_, _, rfl, h, q⟩
theorem DN.of2 {a : Addr} {x y : V} {d e : PyData} (s : SnT K N H a [x, y]) (h1 : DN K N H x d) (h2 : DN K N H y e) : DN K N H (.ref a) (.tuple [d, e]) := .tup s (.cons h1 (.cons h2 .nil))
end
theorem eqvAll_ints : ∀ a b : List Int, PyData.eqvAll (a.map .int) (b.map .int) = decide (a = b)
  | [], [] => by simp [PyData.eqvAll]
  | [], _ :: _ => by simp [PyData.eqvAll]
  | _ :: _, [] => by simp [PyData.eqvAll]
  | x :: a, y :: b => by
    rw [List.map_cons, List.map_cons, PyData.eqvAll, eqvAll_ints a b]
    simp only [PyData.eqv]
    by_cases h : x = y <;> by_cases h' : a = b <;> simp [h, h']
theorem eqv_I (a b : List Int) : PyData.eqv (pI a) (pI b) = decide (a = b) := by
  show PyData.eqvAll _ _ = _
  exact eqvAll_ints a b
theorem lay_ints (a : List Int) : PyData.canLayAll0 (a.map .int) = true := PySem.W.ke_canLayAll0 a
theorem dep_ints (a : List Int) : PyData.depthAll (a.map .int) = 0 := PySem.W.ke_depthAll a
theorem shp_I (a : List Int) : shp (pI a) := by simp [shp, SeqAt.shaped, PyData.canLay0, PyData.depth, lay_ints, dep_ints]
section
variable {K : PySem.W.Frag} {a : Addr} {xs : List V} {g : TG} {tt : TT} {te : TE} {σ0 : St} {H : Hp} {Qe : List V → Hp → Prop}
end
end L2
namespace L2
open PySem PySem.Spec PyProof.Rows
def Cal (P : Program) (w : World) (K : PySem.W.Frag) (mg : Str → Option Value) (base : Heap) (x : Str) (k : Nat) (sp : Sp) : Prop :=
  ∃ (f : Addr) (fd : FuncData) (ps : List Str), FnOk P w K mg base CX0 k f fd ps sp ∧ Binds K fd ps [] ∧ PySem.W.keepIn K (.ref f) = true ∧ mg x = some (.ref f)
section
variable {X : Cx} {x : Str} {p pos : Pos} {e : Expr} {es : List Expr} {t : TA} {k : Nat} {sp : Sp}
theorem pe_cal (C : Cal X.prog X.w X.K X.mg X.base x k sp) (hr : Room k X.A) (hg : Gl X x) (ha : PA X (e :: es) t) (hd : (x == ("__debug__" : Str)) = false := by decide)
    (he : starEach (e :: es) X.env = (false, eval e X.env) :: starEach es X.env := by rfl) (hpl : (backTo pos (starEach es X.env)).any (·.1) = false := by rfl) : PE X (.Call (.Name x p) (e :: es) [] pos) (tCall sp [] E0 t) := by
  obtain ⟨f, fd, ps, F, b, kp, m⟩ := C
  exact pe_call F hr hg m kp b .nil pass0 ha hd he hpl
end
def bOk (N : List Str) (sc0 : Scope) (N' : List Str) (ix : List (Option Nat)) (sc : Scope) : Bool :=
  decide (sc.kind = .function) && decide ((sc.names.map (·.1)).Nodup) && sc.names.all (fun y => !(y.2 == .free) || decide (sc0.names.lookup y.1 = some .cell) || decide (sc0.names.lookup y.1 = some .free)) && decide (ix.length = N'.length) &&
  (ix.zip N').all fun q => match q.1 with
    | none => true
    | some j => decide (N[j]? = some q.2) && decide (sc.names.lookup q.2 = some .free)
theorem bs_of {X : Cx} {N N' : List Str} {ix : List (Option Nat)} {sc sc0 : Scope} (hN : X.N = N) (h0 : X.env.scope = sc0) (h : bOk N sc0 N' ix sc = true) : BScope X.N X.env N' ix sc := by
  rw [← hN] at h
  unfold bOk at h
  simp only [Bool.and_eq_true, decide_eq_true_eq] at h
  obtain ⟨⟨⟨⟨h1, h2⟩, h3⟩, h4⟩, h5⟩ := h
  refine ⟨h1, h2, fun y hy hf => ?_, h4, fun i j hij => ?_⟩
  · have q := List.all_eq_true.mp h3 y hy
    rw [hf] at q
    have e : ∀ z, X.env.kindOf z = sc0.names.lookup z := fun z => by
      show X.env.scope.names.lookup z = _
      rw [h0]
    rw [e]
    simpa using q
  · have hi : i < ix.length := (List.getElem?_eq_some_iff.mp hij).1
    have hi' : i < N'.length := by omega
    have hm : (some j, N'[i]) ∈ ix.zip N' := by
      rw [List.mem_iff_getElem?]
      refine ⟨i, ?_⟩
      rw [List.getElem?_zip_eq_some]
      exact ⟨hij, List.getElem?_eq_getElem hi'⟩
    have q := List.all_eq_true.mp h5 _ hm
    simp only [Bool.and_eq_true, decide_eq_true_eq] at q
    exact ⟨N'[i], List.getElem?_eq_getElem hi', q.1, q.2⟩
structure Bn (mg : Str → Option Value) : Prop where
  len : mg "len" = none
  range : mg "range" = none
  min : mg "min" = none
  max : mg "max" = none
  enumerate : mg "enumerate" = none
  zip : mg "zip" = none
  all : mg "all" = none
  any : mg "any" = none
  isinstance : mg "isinstance" = none
  bool : mg "bool" = none
  int : mg "int" = none
  list : mg "list" = none
  tuple : mg "tuple" = none
  sorted : mg "sorted" = none
  str : mg "str" = none
  sum : mg "sum" = none
  abs : mg "abs" = none
end L2
namespace L2
open PySem PySem.Spec PyProof.Rows
def SnB (K : PySem.W.Frag) (N : Addr → Prop) (H : Hp) : Bool → Addr → List V → Prop
  | false, a, xs => SnL K N H a xs
  | true, a, xs => SnT K N H a xs
theorem Same.new {H : Hp} {p : Addr} {o : HO} (h : H p = none) : Same H (upd H p o) := fun b u e => by rw [upd_ne (ne_of_none e h)]; exact e
theorem Cal.mk {P : Program} {w : World} {K : PySem.W.Frag} {mg : Str → Option Value} {base : Heap} {x : Str} {st : Stmt} {f : Addr} {fd : FuncData} {k : Nat} {ps : List Str} {sp : Sp} (F : Fun K x x st f fd) (m : mg x = some (.ref f)) (b : Binds K fd ps [])
    (G : FnOk P w K mg base CX0 k f fd ps sp) : Cal P w K mg base x k sp := ⟨f, fd, ps, G, b, F.kp, m⟩
theorem line_big : 1000000 ≤ sizeLine := by decide
section
variable {X : Cx} {K : PySem.W.Frag} (hK : X.K = K)
include hK
theorem kLen : CallR X (.builtin "len") (fun xs H Q => ∃ p ys, xs = [.ref p] ∧ (SqL K H p ys ∨ SqT K H p ys) ∧ Q (.int ys.length) H) := by subst hK; exact call_len_seq
theorem kSlL : SlR X (rSlL K) := by subst hK; exact sl_list
theorem kCatA : OpR X (binaryOp .Add) (rCatA K) := by subst hK; exact op_catA
theorem kEqD (hu : X.A.units + 64 < cLine) : OpR X (compareOp .Eq) (rEqD K) := by subst hK; exact op_eqD hu
theorem kNeD (hu : X.A.units + 64 < cLine) : OpR X (compareOp .NotEq) (rNeD K) := by subst hK; exact op_neD hu
theorem kNotInD (hu : X.A.units + 80 < cLine) : OpR X (compareOp .NotIn) (rNotInD K) := by subst hK; exact op_notInD hu
theorem kIn : OpR X (compareOp .In) (rIn K false) := by subst hK; exact op_in_seq
theorem kNotIn : OpR X (compareOp .NotIn) (rIn K true) := by subst hK; exact op_notIn_seq
theorem kAll (hc : X.calm = true) : CallR X (.builtin "all") (fun xs H Q => ∃ (a : Addr) (bs : List Bool), xs = [.ref a] ∧ SqL K H a (bs.map V.bl) ∧ Q (.bl (bs.all id)) H) := by subst hK; exact call_all hc
theorem kList : CallR X (.type "list") (fun xs H Q => ∃ p ys, xs = [.ref p] ∧ (SqL K H p ys ∨ SqT K H p ys) ∧ ∀ l, H l = none → Q (.ref l) (upd H l (.lst ys))) := by subst hK; exact call_list_of
theorem kTuple : CallR X (.type "tuple") (fun xs H Q => ∃ p ys, xs = [.ref p] ∧ ((SqL K H p ys ∧ ∀ l, H l = none → Q (.ref l) (upd H l (.tup ys))) ∨ (SqT K H p ys ∧ Q (.ref p) H))) := by subst hK; exact call_tuple_of
variable {tg : Expr}
theorem kiList {l : Expr} {tl : TE} (hl : PE X l tl) : PI X tg l (iList K tl) := by subst hK; exact pi_list hl
theorem kiTup {l : Expr} {tl : TE} (hl : PE X l tl) : PI X tg l (iTup K tl) := by subst hK; exact pi_tup hl
theorem kiEnum (b : Bool) {es : List Expr} {kk : Nat} {tpos : Pos} {a : Expr} {ta : TA} {p pos : Pos} (hg : Gl X "enumerate") (hm : X.mg "enumerate" = none) (ha : PA X [a] ta) (hs : starEach [a] X.env = [(false, eval a X.env)] := by rfl) :
    PI X (.Tuple es kk tpos) (.Call (.Name "enumerate" p) [a] [] pos) (iEnum K b ta) := by subst hK; exact pi_enum b hg hm PyProof.Rows.boot_enumerate ha hs
theorem kiZip (b c : Bool) {es : List Expr} {kk : Nat} {tpos : Pos} {e1 e2 : Expr} {ta : TA} {p pos : Pos} (hg : Gl X "zip") (hm : X.mg "zip" = none) (ha : PA X [e1, e2] ta)
    (hs : starEach [e1, e2] X.env = [(false, eval e1 X.env), (false, eval e2 X.env)] := by rfl) (hs2 : starEach [e2] X.env = [(false, eval e2 X.env)] := by rfl) :
    PI X (.Tuple es kk tpos) (.Call (.Name "zip" p) [e1, e2] [] pos) (iZip K b c ta) := by subst hK; exact pi_zip b c hg hm PyProof.Rows.boot_zip ha hs hs2
theorem kgTup {pos : Pos} {es : List Expr} {k : Nat} {t : TGs} {n : Nat} (hc : X.calm = true) (h : PGs X es t) (hn : (assignEach es X.env).length = n := by rfl) (hst : (assignEach es X.env).findIdx? (·.1) = none := by rfl) : PG X (.Tuple es k pos) (gTup K n t) := by
  subst hK; exact pg_tup hc h hn hst
variable {o e : Expr} {es : List Expr} {to : TE} {t : TA} {name : Str} {apos cpos : Pos} {T id : String} {r : V → List V → Hp → VK → Prop}
theorem kBm0 (pa : PlainAttrs T) (slot : Slot T name id) (hty : typeOf (.builtin id) = pure (.type "method_descriptor")) (hm : MtR X id r) (ho : PE X o to)
    (hbase : attributeBase o name X.env (eval o X.env) = eval o X.env := by rfl) (hline : (apos.endLine == cpos.line) = true := by rfl) : PE X (.Call (.Attribute o name apos) [] [] cpos) (tBM0 K T r to) := by
  subst hK; exact pe_bm0 pa slot hty hm ho hbase hline
theorem kBm (pa : PlainAttrs T) (slot : Slot T name id) (hty : typeOf (.builtin id) = pure (.type "method_descriptor")) (hm : MtR X id r) (ho : PE X o to) (ha : PA X (e :: es) t)
    (hbase : attributeBase o name X.env (eval o X.env) = eval o X.env := by rfl)
    (hfew : ((backTo cpos (starEach (e :: es) X.env)).all (fun x => !x.1) && (backToKw cpos (keywordEach [] X.env)).all (fun x => x.1.isSome) && decide ((e :: es).length + ([] : List Keyword).length + (if ([] : List Keyword).isEmpty then 0 else 1) < 30)) = true := by rfl)
    (hline : (apos.endLine == cpos.line) = true := by rfl) (hs : starEach (e :: es) X.env = (false, eval e X.env) :: starEach es X.env := by rfl) (hplain : (backTo cpos (starEach es X.env)).any (·.1) = false := by rfl) :
    PE X (.Call (.Attribute o name apos) (e :: es) [] cpos) (tBM K T r to t) := by
  subst hK; exact pe_bm pa slot hty hm ho ha hbase hfew hline hs hplain
end
end L2
namespace L2
open PySem
theorem room80 {A : Around} {k : Nat} (hr : Room k A) : A.units + 80 < cLine := by have := hr.un; omega
end L2
namespace L2
open PySem
section
variable {K : PySem.W.Frag} {a : Addr} {xs : List V} {g : TG} {tb : TS} {D : Ends} {σ : St} {H : Hp} (Pv : Nat → St → Hp → Prop)
end
end L2
namespace L2
open PySem
theorem ixN_nat {n j : Nat} (h : j < n) : ixN n (j : Int) = some j := by
  unfold ixN
  rw [if_pos (by omega), if_pos (by omega), Int.toNat_natCast]
end L2
namespace L2
open PySem PySem.Spec PyProof.Rows
def tCut (t u : TS) : TS := fun D σ H => ∃ R : St → Hp → Prop, t { D with nx := R } σ H ∧ ∀ σ' H', R σ' H' → u D σ' H'
theorem pss_cut {X : Cx} {st : Stmt} {rest : List Stmt} {t u : TS} (h1 : PS X st t) (h2 : PSs X rest u) : PSs X (st :: rest) (tCut t u) := by
  intro pins s σ H D I h
  obtain ⟨R, h, hR⟩ := h
  refine wpAny_execs_cons (thn (h1 pins s σ H { D with nx := R } I h) fun f s1 q => ?_)
  cases f with
  | next =>
    obtain ⟨σ', H', I', q⟩ := q
    exact h2 pins s1 σ' H' D I' (hR _ _ q)
  | ret v => exact q
  | brk => exact q
  | cont => exact q
theorem mem_dropLast {α : Type} {x : α} {l : List α} (h : x ∈ l.dropLast) : x ∈ l := by
  rw [List.dropLast_eq_take] at h
  exact List.mem_of_mem_take h
end L2
namespace L2
open PySem
theorem Keep.put {N : Addr → Prop} {H H' : Hp} {p : Addr} {o : HO} (k : Keep N H H') (h : H p = Option.none) : Keep N H (upd H' p o) := fun b u n e => by
  rw [upd_ne (ne_of_none e h)]
  exact k b u n e
end L2
namespace L2
open PySem
theorem DN.sqL {K : PySem.W.Frag} {H : Hp} {a : Addr} {ns : List Int} (h : SqL K H a (ns.map V.int)) : DN K N0 H (.ref a) (pI ns) := DN.ofI (by
  rcases h with h | h
  · exact .inl ⟨h, fun z => z⟩
  · exact .inr h)
end L2
namespace L2
end L2
namespace L2
open PySem PySem.Spec PyProof.Rows
mutual
inductive OT (K : PySem.W.Frag) (N : Addr → Prop) (H : Hp) : V → PyData → List Addr → Prop
  | non : OT K N H .non .none []
  | bl (b : Bool) : OT K N H (.bl b) (.bool b) []
  | int (i : Int) : OT K N H (.int i) (.int i) []
  | str (x : Str) : OT K N H (.str x) (.str x) []
  | lst {a : Addr} {xs : List V} {ds : List PyData} {S : List Addr} : H a = some (.lst xs) → OTs K N H xs ds S → OT K N H (.ref a) (.list ds) (a :: S)
  | tup {a : Addr} {xs : List V} {ds : List PyData} {S : List Addr} : SnT K N H a xs → OTs K N H xs ds S → OT K N H (.ref a) (.tuple ds) S
inductive OTs (K : PySem.W.Frag) (N : Addr → Prop) (H : Hp) : List V → List PyData → List Addr → Prop
  | nil : OTs K N H [] [] []
  | cons {x : V} {xs : List V} {d : PyData} {ds : List PyData} {S S' : List Addr} : OT K N H x d S → OTs K N H xs ds S' → OTs K N H (x :: xs) (d :: ds) (S ++ S')
end
section
variable {K : PySem.W.Frag} {N M : Addr → Prop} {H H' : Hp}
mutual
theorem OT.keep (k : Keep N H H') : ∀ {v : V} {d : PyData} {S : List Addr}, OT K N H v d S → (∀ a ∈ S, H' a = H a) → OT K N H' v d S
  | _, _, _, .non, _ => .non
  | _, _, _, .bl b, _ => .bl b
  | _, _, _, .int i, _ => .int i
  | _, _, _, .str x, _ => .str x
  | _, _, _, .lst h q, s => .lst (by rw [s _ List.mem_cons_self]; exact h) (OTs.keep k q fun a ha => s a (List.mem_cons_of_mem _ ha))
  | _, _, _, .tup h q, s => .tup (h.keep k) (OTs.keep k q s)
theorem OTs.keep (k : Keep N H H') : ∀ {v : List V} {d : List PyData} {S : List Addr}, OTs K N H v d S → (∀ a ∈ S, H' a = H a) → OTs K N H' v d S
  | _, _, _, .nil, _ => .nil
  | _, _, _, .cons h q, s => .cons (OT.keep k h fun a ha => s a (List.mem_append_left _ ha)) (OTs.keep k q fun a ha => s a (List.mem_append_right _ ha))
end
mutual
theorem OT.to (m : ∀ b o, H b = some o → M b → N b) : ∀ {v : V} {d : PyData} {S : List Addr}, OT K N H v d S → OT K M H v d S
  | _, _, _, .non => .non
  | _, _, _, .bl b => .bl b
  | _, _, _, .int i => .int i
  | _, _, _, .str x => .str x
  | _, _, _, .lst h q => .lst h (OTs.to m q)
  | _, _, _, .tup h q => .tup (h.to m) (OTs.to m q)
theorem OTs.to (m : ∀ b o, H b = some o → M b → N b) : ∀ {v : List V} {d : List PyData} {S : List Addr}, OTs K N H v d S → OTs K M H v d S
  | _, _, _, .nil => .nil
  | _, _, _, .cons h q => .cons (OT.to m h) (OTs.to m q)
end
mutual
theorem OT.lives : ∀ {v : V} {d : PyData} {S : List Addr}, OT K N H v d S → ∀ a ∈ S, ∃ xs, H a = some (.lst xs)
  | _, _, _, .non, _, h => by cases h
  | _, _, _, .bl b, _, h => by cases h
  | _, _, _, .int i, _, h => by cases h
  | _, _, _, .str x, _, h => by cases h
  | _, _, _, .lst h q, a, ha => by
    rcases List.mem_cons.mp ha with e | ha
    · subst e; exact ⟨_, h⟩
    · exact OTs.lives q a ha
  | _, _, _, .tup h q, a, ha => OTs.lives q a ha
theorem OTs.lives : ∀ {v : List V} {d : List PyData} {S : List Addr}, OTs K N H v d S → ∀ a ∈ S, ∃ xs, H a = some (.lst xs)
  | _, _, _, .nil, _, h => by cases h
  | _, _, _, .cons h q, a, ha => by
    rcases List.mem_append.mp ha with ha | ha
    · exact OT.lives h a ha
    · exact OTs.lives q a ha
end
mutual
theorem OT.dn (n : ∀ b, M b → N b) : ∀ {v : V} {d : PyData} {S : List Addr}, OT K N H v d S → (∀ a ∈ S, ¬ M a) → DN K M H v d
  | _, _, _, .non, _ => .non
  | _, _, _, .bl b, _ => .bl b
  | _, _, _, .int i, _ => .int i
  | _, _, _, .str x, _ => .str x
  | _, _, _, .lst h q, s => .lst (SnL.of h (s _ List.mem_cons_self)) (OTs.dn n q fun a ha => s a (List.mem_cons_of_mem _ ha))
  | _, _, _, .tup h q, s => .tup (h.to fun b _ _ z => n b z) (OTs.dn n q s)
theorem OTs.dn (n : ∀ b, M b → N b) : ∀ {v : List V} {d : List PyData} {S : List Addr}, OTs K N H v d S → (∀ a ∈ S, ¬ M a) → DNs K M H v d
  | _, _, _, .nil, _ => .nil
  | _, _, _, .cons h q, s => .cons (OT.dn n h fun a ha => s a (List.mem_append_left _ ha)) (OTs.dn n q fun a ha => s a (List.mem_append_right _ ha))
end
end
end L2
namespace L2
open PySem PySem.Spec PyProof.Rows
inductive Sl where
  | un | fr (d : PyData) | ow (ds : List PyData) | io (ds : List PyData) | vw (i : Nat) | tr (S : List Addr) (d : PyData)
abbrev Ent := Option V × Sl
def own1 : Ent → List Addr
  | (some (.ref a), .ow _) => [a]
  | (some (.ref a), .io _) => [a]
  | (some _, .tr S _) => S
  | _ => []
def oas (E : List Ent) : List Addr := E.flatMap own1
def Nw (M : Addr → Prop) (E : List Ent) : Addr → Prop := fun a => M a ∨ a ∈ oas E
abbrev tmp (ts : List (V × Sl)) : List Ent := ts.map fun t => (some t.1, t.2)
def ents (σ : St) (env : List Sl) (ts : List (V × Sl)) : List Ent := σ.zip env ++ tmp ts
theorem oas_app (A B : List Ent) : oas (A ++ B) = oas A ++ oas B := List.flatMap_append
theorem oas_cons (e : Ent) (B : List Ent) : oas (e :: B) = own1 e ++ oas B := List.flatMap_cons ..
theorem mem_oas {a : Addr} {E : List Ent} : a ∈ oas E ↔ ∃ e ∈ E, a ∈ own1 e := List.mem_flatMap
theorem own1_some {e : Ent} {a : Addr} (h : a ∈ own1 e) : (e.1 = some (.ref a) ∧ ((∃ ds, e.2 = .ow ds) ∨ ∃ ds, e.2 = .io ds)) ∨ ∃ S d, e.2 = .tr S d ∧ a ∈ S := by
  obtain ⟨x, s⟩ := e
  cases s with
  | ow ds =>
    cases x with
    | none => cases h
    | some v => cases v with
      | ref b => cases List.mem_singleton.mp h; exact .inl ⟨rfl, .inl ⟨ds, rfl⟩⟩
      | _ => cases h
  | io ds =>
    cases x with
    | none => cases h
    | some v => cases v with
      | ref b => cases List.mem_singleton.mp h; exact .inl ⟨rfl, .inr ⟨ds, rfl⟩⟩
      | _ => cases h
  | tr S d =>
    cases x with
    | none => cases h
    | some v => exact .inr ⟨S, d, rfl, by cases v <;> exact h⟩
  | _ => cases x with
    | none => cases h
    | some v => cases v <;> cases h
theorem own1_un (x : Option V) : own1 (x, .un) = [] := by
  cases x with
  | none => rfl
  | some v => cases v <;> rfl
theorem own1_vw (x : Option V) (i : Nat) : own1 (x, .vw i) = [] := by
  cases x with
  | none => rfl
  | some v => cases v <;> rfl
theorem own1_fr (x : Option V) (d : PyData) : own1 (x, .fr d) = [] := by
  cases x with
  | none => rfl
  | some v => cases v <;> rfl
theorem own1_tr (v : V) (S : List Addr) (d : PyData) : own1 (some v, .tr S d) = S := by cases v <;> rfl
structure RelE (K : PySem.W.Frag) (M P : Addr → Prop) (H0 : Hp) (E : List Ent) (H : Hp) : Prop where
  keep : Keep P H0 H
  live : ∀ a, H0 a ≠ none → H a ≠ none
  mt : ∀ a, M a → H0 a ≠ none
  pm : ∀ a, P a → M a
  fr : ∀ x d, (x, Sl.fr d) ∈ E → ∃ v, x = some v ∧ DN K (Nw M E) H v d
  ow : ∀ x ds, (x, Sl.ow ds) ∈ E → ∃ a vs, x = some (.ref a) ∧ H a = some (.lst vs) ∧ DNs K (Nw M E) H vs ds ∧ H0 a = none
  io : ∀ x ds, (x, Sl.io ds) ∈ E → ∃ a vs, x = some (.ref a) ∧ H a = some (.lst vs) ∧ DNs K (Nw M E) H vs ds ∧ P a
  tr : ∀ x S d, (x, Sl.tr S d) ∈ E → ∃ v, x = some v ∧ OT K (Nw M E) H v d S ∧ ∀ a ∈ S, H0 a = none
  nd : (oas E).Nodup
section
variable {K : PySem.W.Frag} {M P : Addr → Prop} {H0 H H' : Hp} {E E' A B : List Ent} {e e' : Ent}
theorem RelE.own (h : RelE K M P H0 E H) {a : Addr} (ha : a ∈ oas E) : ∃ vs, H a = some (.lst vs) ∧ (H0 a = none ∨ P a) := by
  obtain ⟨⟨x, s⟩, he, eo⟩ := mem_oas.mp ha
  rcases own1_some eo with ⟨e1, e2⟩ | ⟨S, d, e2, ms⟩
  rotate_left
  · simp only at e2; subst e2
    obtain ⟨v, _, q, r⟩ := h.tr _ _ _ he
    obtain ⟨vs, z⟩ := q.lives a ms
    exact ⟨vs, z, .inl (r a ms)⟩
  rcases e2 with ⟨ds, e2⟩ | ⟨ds, e2⟩
  · simp only at e1 e2; subst e1 e2
    obtain ⟨b, vs, z, q, _, r⟩ := h.ow _ _ he
    cases z
    exact ⟨vs, q, .inl r⟩
  · simp only at e1 e2; subst e1 e2
    obtain ⟨b, vs, z, q, _, r⟩ := h.io _ _ he
    cases z
    exact ⟨vs, q, .inr r⟩
theorem Nw.sub (h : ∀ a, a ∈ oas E' → a ∈ oas E) : ∀ b, Nw M E' b → Nw M E b := fun b z => by
  rcases z with z | z
  · exact .inl z
  · exact .inr (h b z)
theorem RelE.sub (h : RelE K M P H0 E H) (hm : ∀ x s, (x, s) ∈ E' → (x, s) ∈ E ∨ s = .un ∨ ∃ i, s = .vw i) (nd : (oas E').Nodup) : RelE K M P H0 E' H := by
  have os : ∀ a, a ∈ oas E' → a ∈ oas E := fun a ha => by
    obtain ⟨⟨x, s⟩, he, eo⟩ := mem_oas.mp ha
    rcases hm x s he with q | q | ⟨i, q⟩
    · exact mem_oas.mpr ⟨_, q, eo⟩
    · subst q; rw [own1_un] at eo; cases eo
    · subst q; rw [own1_vw] at eo; cases eo
  have up := Nw.sub (M := M) os
  refine ⟨h.keep, h.live, h.mt, h.pm, fun x d m => ?_, fun x d m => ?_, fun x d m => ?_, fun x S d m => ?_, nd⟩
  rotate_right
  · rcases hm _ _ m with q | q | ⟨i, q⟩
    · obtain ⟨v, e, dn, r⟩ := h.tr x S d q
      exact ⟨v, e, dn.to fun b _ _ z => up b z, r⟩
    · cases q
    · cases q
  · rcases hm _ _ m with q | q | ⟨i, q⟩
    · obtain ⟨v, e, dn⟩ := h.fr x d q
      exact ⟨v, e, dn.to fun b _ _ z => up b z⟩
    · cases q
    · cases q
  · rcases hm _ _ m with q | q | ⟨i, q⟩
    · obtain ⟨a, vs, e, e2, dn, r⟩ := h.ow x d q
      exact ⟨a, vs, e, e2, dn.to fun b _ _ z => up b z, r⟩
    · cases q
    · cases q
  · rcases hm _ _ m with q | q | ⟨i, q⟩
    · obtain ⟨a, vs, e, e2, dn, r⟩ := h.io x d q
      exact ⟨a, vs, e, e2, dn.to fun b _ _ z => up b z, r⟩
    · cases q
    · cases q
theorem RelE.drop (h : RelE K M P H0 (E ++ B) H) : RelE K M P H0 E H := h.sub (fun x s m => .inl (List.mem_append_left _ m)) (by
  have := h.nd
  rw [oas_app] at this
  exact (List.nodup_append.mp this).1)
theorem RelE.same (h : RelE K M P H0 E H) (k : Same H H') : RelE K M P H0 E H' := by
  refine ⟨h.keep.trans (Keep.same k), fun a q z => ?_, h.mt, h.pm, fun x d m => ?_, fun x d m => ?_, fun x d m => ?_, fun x S d m => ?_, h.nd⟩
  rotate_right
  · obtain ⟨v, e, dn, r⟩ := h.tr x S d m
    exact ⟨v, e, dn.keep (Keep.same k) fun a ha => by
      obtain ⟨xs, z⟩ := dn.lives a ha
      rw [k a _ z, z], r⟩
  · have q1 := h.live a q
    cases e : H a with
    | none => exact q1 e
    | some o => rw [k a o e] at z; cases z
  · obtain ⟨v, e, dn⟩ := h.fr x d m
    exact ⟨v, e, dn.keep (Keep.same k)⟩
  · obtain ⟨a, vs, e, e2, dn, r⟩ := h.ow x d m
    exact ⟨a, vs, e, k _ _ e2, dn.keep (Keep.same k), r⟩
  · obtain ⟨a, vs, e, e2, dn, r⟩ := h.io x d m
    exact ⟨a, vs, e, k _ _ e2, dn.keep (Keep.same k), r⟩
theorem RelE.addFr (h : RelE K M P H0 E H) {v : V} {d : PyData} (dn : DN K (Nw M E) H v d) : RelE K M P H0 (E ++ [(some v, .fr d)]) H := by
  have oe : oas (E ++ [(some v, Sl.fr d)]) = oas E := by
    rw [oas_app, oas_cons, own1_fr]
    simp [oas]
  have ne : Nw M (E ++ [(some v, Sl.fr d)]) = Nw M E := by unfold Nw; rw [oe]
  refine ⟨h.keep, h.live, h.mt, h.pm, fun x d' m => ?_, fun x d' m => ?_, fun x d' m => ?_, fun x S d' m => ?_, by rw [oe]; exact h.nd⟩
  rotate_right
  · rw [ne]
    rcases List.mem_append.mp m with m | m
    · exact h.tr x S d' m
    · rw [List.mem_singleton] at m
      cases m
  · rw [ne]
    rcases List.mem_append.mp m with m | m
    · exact h.fr x d' m
    · rw [List.mem_singleton] at m
      cases m
      exact ⟨v, rfl, dn⟩
  · rw [ne]
    rcases List.mem_append.mp m with m | m
    · exact h.ow x d' m
    · rw [List.mem_singleton] at m
      cases m
  · rw [ne]
    rcases List.mem_append.mp m with m | m
    · exact h.io x d' m
    · rw [List.mem_singleton] at m
      cases m
theorem RelE.addVw (h : RelE K M P H0 E H) {v : V} {i : Nat} : RelE K M P H0 (E ++ [(some v, .vw i)]) H := by
  refine h.sub (fun x s m => ?_) ?_
  · rcases List.mem_append.mp m with m | m
    · exact .inl m
    · rw [List.mem_singleton] at m
      cases m
      exact .inr (.inr ⟨i, rfl⟩)
  · rw [oas_app, oas_cons, own1_vw]
    simpa [oas] using h.nd
theorem RelE.addOw (h : RelE K M P H0 E H) {p : Addr} {vs : List V} {ds : List PyData} (hp : H p = none) (dns : DNs K (Nw M E) H vs ds) : RelE K M P H0 (E ++ [(some (.ref p), .ow ds)]) (upd H p (.lst vs)) := by
  have oe : oas (E ++ [(some (.ref p), Sl.ow ds)]) = oas E ++ [p] := by
    rw [oas_app]
    rfl
  have np : p ∉ oas E := fun z => by
    obtain ⟨vs', q, _⟩ := h.own z
    rw [hp] at q
    cases q
  have h0 : H0 p = none := by
    cases e : H0 p with
    | none => rfl
    | some o => exact absurd hp (h.live p (by rw [e]; simp))
  have up : ∀ b o, H b = some o → Nw M (E ++ [(some (.ref p), Sl.ow ds)]) b → Nw M E b := fun b o e z => by
    rcases z with z | z
    · exact .inl z
    · rw [oe] at z
      rcases List.mem_append.mp z with z | z
      · exact .inr z
      · rw [List.mem_singleton.mp z, hp] at e
        cases e
  have h' := h.same (Same.new (o := .lst vs) hp)
  refine ⟨h'.keep, h'.live, h.mt, h.pm, fun x d' m => ?_, fun x d' m => ?_, fun x d' m => ?_, fun x S d' m => ?_, ?_⟩
  rotate_right 2
  · rcases List.mem_append.mp m with m | m
    · obtain ⟨v, e, dn, r⟩ := h.tr x S d' m
      exact ⟨v, e, (dn.to up).keep (Keep.same (Same.new hp)) fun a ha => by
        obtain ⟨xs, z⟩ := dn.lives a ha
        rw [Same.new hp _ _ z, z], r⟩
    · rw [List.mem_singleton] at m
      cases m
  rotate_left
  · rcases List.mem_append.mp m with m | m
    · obtain ⟨v, e, dn⟩ := h.fr x d' m
      exact ⟨v, e, (dn.to up).keep (Keep.same (Same.new hp))⟩
    · rw [List.mem_singleton] at m
      cases m
  · rcases List.mem_append.mp m with m | m
    · obtain ⟨a, ws, e, e2, dn, r⟩ := h.ow x d' m
      exact ⟨a, ws, e, Same.new hp _ _ e2, (dn.to up).keep (Keep.same (Same.new hp)), r⟩
    · rw [List.mem_singleton] at m
      cases m
      exact ⟨p, vs, rfl, upd_same, (dns.to up).keep (Keep.same (Same.new hp)), h0⟩
  · rcases List.mem_append.mp m with m | m
    · obtain ⟨a, ws, e, e2, dn, r⟩ := h.io x d' m
      exact ⟨a, ws, e, Same.new hp _ _ e2, (dn.to up).keep (Keep.same (Same.new hp)), r⟩
    · rw [List.mem_singleton] at m
      cases m
  · rw [oe]
    exact List.nodup_append.mpr ⟨h.nd, by simp, fun a ha b hb => by rw [List.mem_singleton.mp hb]; exact fun z => np (z ▸ ha)⟩
theorem RelE.freeze {a : Addr} {ds : List PyData} (h : RelE K M P H0 (A ++ (some (.ref a), .ow ds) :: B) H) : RelE K M P H0 (A ++ (some (.ref a), .fr (.list ds)) :: B) H := by
  have oe : oas (A ++ (some (.ref a), Sl.ow ds) :: B) = oas A ++ a :: oas B := by rw [oas_app, oas_cons]; rfl
  have oe' : oas (A ++ (some (.ref a), Sl.fr (.list ds)) :: B) = oas A ++ oas B := by rw [oas_app, oas_cons]; rfl
  have nd := h.nd
  rw [oe] at nd
  obtain ⟨n1, n2, n3⟩ := List.nodup_append.mp nd
  obtain ⟨n4, n5⟩ := List.nodup_cons.mp n2
  have up : ∀ b, Nw M (A ++ (some (.ref a), Sl.fr (.list ds)) :: B) b → Nw M (A ++ (some (.ref a), Sl.ow ds) :: B) b := Nw.sub fun b z => by
    rw [oe'] at z
    rw [oe]
    rcases List.mem_append.mp z with z | z
    · exact List.mem_append_left _ z
    · exact List.mem_append_right _ (List.mem_cons_of_mem _ z)
  have me : (some (.ref a), Sl.ow ds) ∈ A ++ (some (.ref a), Sl.ow ds) :: B := List.mem_append_right _ List.mem_cons_self
  obtain ⟨a', vs, z, ha, dns, h0⟩ := h.ow _ _ me
  cases z
  have na : ¬ Nw M (A ++ (some (.ref a), Sl.fr (.list ds)) :: B) a := fun z => by
    rcases z with z | z
    · exact h.mt a z h0
    · rw [oe'] at z
      rcases List.mem_append.mp z with z | z
      · exact n3 a z a List.mem_cons_self rfl
      · exact n4 z
  have old : ∀ x s, (x, s) ∈ A ++ (some (.ref a), Sl.fr (.list ds)) :: B → (x, s) = (some (.ref a), Sl.fr (.list ds)) ∨ (x, s) ∈ A ++ (some (.ref a), Sl.ow ds) :: B := fun x s m => by
    rcases List.mem_append.mp m with m | m
    · exact .inr (List.mem_append_left _ m)
    · rcases List.mem_cons.mp m with m | m
      · exact .inl m
      · exact .inr (List.mem_append_right _ (List.mem_cons_of_mem _ m))
  refine ⟨h.keep, h.live, h.mt, h.pm, fun x d m => ?_, fun x d m => ?_, fun x d m => ?_, fun x S d m => ?_, ?_⟩
  rotate_right 2
  · rcases old _ _ m with m | m
    · cases m
    · obtain ⟨v, e, dn, r⟩ := h.tr x S d m
      exact ⟨v, e, dn.to fun b _ _ z => up b z, r⟩
  rotate_left
  · rcases old _ _ m with m | m
    · cases m
      exact ⟨_, rfl, .lst (SnL.of ha na) (dns.to fun b _ _ z => up b z)⟩
    · obtain ⟨v, e, dn⟩ := h.fr x d m
      exact ⟨v, e, dn.to fun b _ _ z => up b z⟩
  · rcases old _ _ m with m | m
    · cases m
    · obtain ⟨b, ws, e, e2, dn, r⟩ := h.ow x d m
      exact ⟨b, ws, e, e2, dn.to fun b _ _ z => up b z, r⟩
  · rcases old _ _ m with m | m
    · cases m
    · obtain ⟨b, ws, e, e2, dn, r⟩ := h.io x d m
      exact ⟨b, ws, e, e2, dn.to fun b _ _ z => up b z, r⟩
  · rw [oe']
    exact List.nodup_append.mpr ⟨n1, n5, fun x hx y hy => n3 x hx y (List.mem_cons_of_mem _ hy)⟩
theorem RelE.freezeT {v : V} {S : List Addr} {d : PyData} (h : RelE K M P H0 (A ++ (some v, .tr S d) :: B) H) : RelE K M P H0 (A ++ (some v, .fr d) :: B) H := by
  have oe : oas (A ++ (some v, Sl.tr S d) :: B) = oas A ++ (S ++ oas B) := by rw [oas_app, oas_cons, own1_tr]
  have oe' : oas (A ++ (some v, Sl.fr d) :: B) = oas A ++ oas B := by rw [oas_app, oas_cons, own1_fr]; rfl
  have nd := h.nd
  rw [oe] at nd
  obtain ⟨n1, n2, n3⟩ := List.nodup_append.mp nd
  obtain ⟨n4, n5, n6⟩ := List.nodup_append.mp n2
  have up : ∀ b, Nw M (A ++ (some v, Sl.fr d) :: B) b → Nw M (A ++ (some v, Sl.tr S d) :: B) b := Nw.sub fun b z => by
    rw [oe'] at z
    rw [oe]
    rcases List.mem_append.mp z with z | z
    · exact List.mem_append_left _ z
    · exact List.mem_append_right _ (List.mem_append_right _ z)
  have me : (some v, Sl.tr S d) ∈ A ++ (some v, Sl.tr S d) :: B := List.mem_append_right _ List.mem_cons_self
  obtain ⟨v', z, ot, h0⟩ := h.tr _ _ _ me
  cases z
  have na : ∀ a ∈ S, ¬ Nw M (A ++ (some v, Sl.fr d) :: B) a := fun a ha z => by
    rcases z with z | z
    · exact h.mt a z (h0 a ha)
    · rw [oe'] at z
      rcases List.mem_append.mp z with z | z
      · exact n3 a z a (List.mem_append_left _ ha) rfl
      · exact n6 a ha a z rfl
  have old : ∀ x s, (x, s) ∈ A ++ (some v, Sl.fr d) :: B → (x, s) = (some v, Sl.fr d) ∨ (x, s) ∈ A ++ (some v, Sl.tr S d) :: B := fun x s m => by
    rcases List.mem_append.mp m with m | m
    · exact .inr (List.mem_append_left _ m)
    · rcases List.mem_cons.mp m with m | m
      · exact .inl m
      · exact .inr (List.mem_append_right _ (List.mem_cons_of_mem _ m))
  refine ⟨h.keep, h.live, h.mt, h.pm, fun x d' m => ?_, fun x d' m => ?_, fun x d' m => ?_, fun x S' d' m => ?_, ?_⟩
  · rcases old _ _ m with m | m
    · cases m
      exact ⟨_, rfl, ot.dn up na⟩
    · obtain ⟨v, e, dn⟩ := h.fr x d' m
      exact ⟨v, e, dn.to fun b _ _ z => up b z⟩
  · rcases old _ _ m with m | m
    · cases m
    · obtain ⟨b, ws, e, e2, dn, r⟩ := h.ow x d' m
      exact ⟨b, ws, e, e2, dn.to fun b _ _ z => up b z, r⟩
  · rcases old _ _ m with m | m
    · cases m
    · obtain ⟨b, ws, e, e2, dn, r⟩ := h.io x d' m
      exact ⟨b, ws, e, e2, dn.to fun b _ _ z => up b z, r⟩
  · rcases old _ _ m with m | m
    · cases m
    · obtain ⟨v, e, dn, r⟩ := h.tr x S' d' m
      exact ⟨v, e, dn.to fun b _ _ z => up b z, r⟩
  · rw [oe']
    exact List.nodup_append.mpr ⟨n1, n5, fun x hx y hy => n3 x hx y (List.mem_append_right _ hy)⟩
def isOw : Sl → List PyData → Sl → Prop
  | .ow _, ds', s' => s' = .ow ds'
  | .io _, ds', s' => s' = .io ds'
  | _, _, _ => False
theorem RelE.mut {a : Addr} {s s' : Sl} {vs' : List V} {ds' : List PyData} (h : RelE K M P H0 (A ++ (some (.ref a), s) :: B) H) (hs : isOw s ds' s') (dns : DNs K (Nw M (A ++ (some (.ref a), s) :: B)) H vs' ds') :
    RelE K M P H0 (A ++ (some (.ref a), s') :: B) (upd H a (.lst vs')) := by
  have oa : own1 (some (.ref a), s) = [a] ∧ own1 (some (.ref a), s') = [a] := by
    cases s <;> first | exact hs.elim | (cases hs; exact ⟨rfl, rfl⟩)
  have oe : oas (A ++ (some (.ref a), s) :: B) = oas A ++ a :: oas B := by rw [oas_app, oas_cons, oa.1]; rfl
  have oe' : oas (A ++ (some (.ref a), s') :: B) = oas A ++ a :: oas B := by rw [oas_app, oas_cons, oa.2]; rfl
  have ne : Nw M (A ++ (some (.ref a), s') :: B) = Nw M (A ++ (some (.ref a), s) :: B) := by unfold Nw; rw [oe, oe']
  have na : Nw M (A ++ (some (.ref a), s) :: B) a := .inr (by rw [oe]; simp)
  have nd := h.nd
  rw [oe] at nd
  obtain ⟨n1, n2, n3⟩ := List.nodup_append.mp nd
  obtain ⟨n4, n5⟩ := List.nodup_cons.mp n2
  have kN : Keep (Nw M (A ++ (some (.ref a), s) :: B)) H (upd H a (.lst vs')) := Keep.own na
  obtain ⟨ws, hw, hP⟩ := h.own (a := a) (by rw [oe]; simp)
  have other : ∀ x t b, (x, t) ∈ A ∨ (x, t) ∈ B → b ∈ own1 (x, t) → b ≠ a := fun x t b m eo z => by
    subst z
    rcases m with m | m
    · exact n3 b (mem_oas.mpr ⟨_, m, eo⟩) b List.mem_cons_self rfl
    · exact n4 (mem_oas.mpr ⟨_, m, eo⟩)
  have old : ∀ x t, (x, t) ∈ A ++ (some (.ref a), s') :: B → (x, t) = (some (.ref a), s') ∨ ((x, t) ∈ A ∨ (x, t) ∈ B) := fun x t m => by
    rcases List.mem_append.mp m with m | m
    · exact .inr (.inl m)
    · rcases List.mem_cons.mp m with m | m
      · exact .inl m
      · exact .inr (.inr m)
  have back : ∀ x t, (x, t) ∈ A ∨ (x, t) ∈ B → (x, t) ∈ A ++ (some (.ref a), s) :: B := fun x t m => by
    rcases m with m | m
    · exact List.mem_append_left _ m
    · exact List.mem_append_right _ (List.mem_cons_of_mem _ m)
  have me : (some (.ref a), s) ∈ A ++ (some (.ref a), s) :: B := List.mem_append_right _ List.mem_cons_self
  refine ⟨?_, fun b q z => ?_, h.mt, h.pm, fun x d m => ?_, fun x d m => ?_, fun x d m => ?_, fun x S d m => ?_, by rw [oe']; exact nd⟩
  rotate_right
  · rw [ne]
    rcases old _ _ m with m | m
    · cases s <;> first | exact hs.elim | (have hs : s' = _ := hs; rw [hs] at m; cases m)
    · obtain ⟨v, e, dn, r⟩ := h.tr x S d (back _ _ m)
      subst e
      exact ⟨v, rfl, dn.keep kN fun b hb => upd_ne (other _ _ b m (by rw [own1_tr]; exact hb)), r⟩
  · rcases hP with q | q
    · exact h.keep.put q
    · exact h.keep.trans (Keep.own q)
  · have q1 := h.live b q
    by_cases hb : b = a
    · subst hb; rw [upd_same] at z; cases z
    · rw [upd_ne hb] at z; exact q1 z
  · rw [ne]
    rcases old _ _ m with m | m
    · cases s <;> first | exact hs.elim | (have hs : s' = _ := hs; rw [hs] at m; cases m)
    · obtain ⟨v, e, dn⟩ := h.fr x d (back _ _ m)
      exact ⟨v, e, dn.keep kN⟩
  · rw [ne]
    rcases old _ _ m with m | m
    · cases s with
      | ow ds =>
        have hs : s' = _ := hs
        rw [hs] at m
        cases m
        obtain ⟨b, us, e, e2, dn, r⟩ := h.ow _ _ me
        cases e
        exact ⟨a, vs', rfl, upd_same, dns.keep kN, r⟩
      | io ds => have hs : s' = _ := hs; rw [hs] at m; cases m
      | _ => exact hs.elim
    · obtain ⟨b, us, e, e2, dn, r⟩ := h.ow x d (back _ _ m)
      subst e
      exact ⟨b, us, rfl, by rw [upd_ne (other _ _ b m (List.mem_singleton.mpr rfl))]; exact e2, dn.keep kN, r⟩
  · rw [ne]
    rcases old _ _ m with m | m
    · cases s with
      | io ds =>
        have hs : s' = _ := hs
        rw [hs] at m
        cases m
        obtain ⟨b, us, e, e2, dn, r⟩ := h.io _ _ me
        cases e
        exact ⟨a, vs', rfl, upd_same, dns.keep kN, r⟩
      | ow ds => have hs : s' = _ := hs; rw [hs] at m; cases m
      | _ => exact hs.elim
    · obtain ⟨b, us, e, e2, dn, r⟩ := h.io x d (back _ _ m)
      subst e
      exact ⟨b, us, rfl, by rw [upd_ne (other _ _ b m (List.mem_singleton.mpr rfl))]; exact e2, dn.keep kN, r⟩
theorem RelE.move {t : Ent} (h : RelE K M P H0 (A ++ e :: (B ++ [t])) H) : RelE K M P H0 (A ++ t :: B) H := by
  refine h.sub (fun x s m => .inl ?_) ?_
  · rcases List.mem_append.mp m with m | m
    · exact List.mem_append_left _ m
    · rcases List.mem_cons.mp m with m | m
      · exact List.mem_append_right _ (List.mem_cons_of_mem _ (List.mem_append_right _ (by rw [m]; simp)))
      · exact List.mem_append_right _ (List.mem_cons_of_mem _ (List.mem_append_left _ m))
  · have nd := h.nd
    have eq1 : oas (A ++ e :: (B ++ [t])) = oas A ++ (oas [e] ++ (oas B ++ oas [t])) := by
      rw [oas_app, show e :: (B ++ [t]) = [e] ++ (B ++ [t]) from rfl, oas_app, oas_app]
    have eq2 : oas (A ++ t :: B) = oas A ++ (oas [t] ++ oas B) := by
      rw [oas_app, show t :: B = [t] ++ B from rfl, oas_app]
    rw [eq1] at nd
    rw [eq2]
    obtain ⟨n1, n2, n3⟩ := List.nodup_append.mp nd
    obtain ⟨_, n4, _⟩ := List.nodup_append.mp n2
    obtain ⟨n5, n6, n7⟩ := List.nodup_append.mp n4
    refine List.nodup_append.mpr ⟨n1, List.nodup_append.mpr ⟨n6, n5, fun x hx y hy z => n7 y hy x hx z.symm⟩, fun x hx y hy => ?_⟩
    refine n3 x hx y (List.mem_append_right _ ?_)
    rcases List.mem_append.mp hy with hy | hy
    · exact List.mem_append_right _ hy
    · exact List.mem_append_left _ hy
theorem RelE.kill {x : Option V} {s : Sl} (h : RelE K M P H0 (A ++ (x, s) :: B) H) {y : Option V} : RelE K M P H0 (A ++ (y, .un) :: B) H := by
  refine h.sub (fun x' s' m => ?_) ?_
  · rcases List.mem_append.mp m with m | m
    · exact .inl (List.mem_append_left _ m)
    · rcases List.mem_cons.mp m with m | m
      · cases m; exact .inr (.inl rfl)
      · exact .inl (List.mem_append_right _ (List.mem_cons_of_mem _ m))
  · have nd := h.nd
    have eq1 : oas (A ++ (x, s) :: B) = oas A ++ (oas [(x, s)] ++ oas B) := by
      rw [oas_app, show (x, s) :: B = [(x, s)] ++ B from rfl, oas_app]
    have eq2 : oas (A ++ (y, .un) :: B) = oas A ++ oas B := by
      rw [oas_app, oas_cons]
      cases y with
      | none => rfl
      | some v => cases v <;> rfl
    rw [eq1] at nd
    rw [eq2]
    obtain ⟨n1, n2, n3⟩ := List.nodup_append.mp nd
    obtain ⟨_, n4, _⟩ := List.nodup_append.mp n2
    exact List.nodup_append.mpr ⟨n1, n4, fun a ha b hb => n3 a ha b (List.mem_append_right _ hb)⟩
end
end L2
namespace L2
open PySem PySem.Spec PyProof.Rows
structure Rel (K : PySem.W.Frag) (M P : Addr → Prop) (H0 : Hp) (σ0 σ : St) (env : List Sl) (ts : List (V × Sl)) (H : Hp) : Prop where
  e : RelE K M P H0 (ents σ env ts) H
  len : σ.length = env.length
  vw : ∀ (v : V) (i : Nat), (v, Sl.vw i) ∈ ts → σ[i]? = some (some v)
  ios : ∀ (i : Nat) (ds : List PyData), env[i]? = some (Sl.io ds) → σ[i]? = σ0[i]?
inductive Vw (K : PySem.W.Frag) (N : Addr → Prop) (H : Hp) : V → PyData → Prop
  | dn {v d} : DN K N H v d → Vw K N H v d
  | ow {a vs ds} : H a = some (.lst vs) → DNs K N H vs ds → Vw K N H (.ref a) (.list ds)
def slD : Sl → Option PyData
  | .fr d => some d
  | .ow ds => some (.list ds)
  | .io ds => some (.list ds)
  | _ => none
def valOf (env : List Sl) : Sl → Option PyData
  | .vw i => (env[i]?).bind slD
  | .fr d => some d
  | .ow ds => some (.list ds)
  | .io ds => some (.list ds)
  | _ => none
def slK : Sl → Option PyData
  | .fr d => some d
  | _ => none
def keepOf (env : List Sl) : Sl → Option PyData
  | .vw i => (env[i]?).bind slK
  | .fr d => some d
  | .ow ds => some (.list ds)
  | .tr _ d => some d
  | _ => none
section
variable {K : PySem.W.Frag} {M P N : Addr → Prop} {H0 H H' : Hp} {σ0 σ : St} {env : List Sl} {ts tt : List (V × Sl)} {v : V} {s : Sl} {d : PyData}
theorem ents_app : ents σ env (ts ++ tt) = ents σ env ts ++ tmp tt := by
  unfold ents
  rw [List.append_assoc]
  simp [tmp]
theorem Vw.dv (h : Vw K N H v d) : DV K H v d := by
  cases h with
  | dn h => exact h.dv
  | ow h q => exact .lst (SqL.of h) q.dv
theorem Vw.list {ds : List PyData} (h : Vw K N H v (.list ds)) : ∃ a vs, v = .ref a ∧ SqL K H a vs ∧ DNs K N H vs ds := by
  cases h with
  | dn h => obtain ⟨a, vs, e, s, q⟩ := h.list; exact ⟨a, vs, e, s.sq, q⟩
  | ow h q => exact ⟨_, _, rfl, SqL.of h, q⟩
theorem Vw.tuple {ds : List PyData} (h : Vw K N H v (.tuple ds)) : ∃ a vs, v = .ref a ∧ SqT K H a vs ∧ DNs K N H vs ds := by
  cases h with
  | dn h => obtain ⟨a, vs, e, s, q⟩ := h.tuple; exact ⟨a, vs, e, s.sq, q⟩
theorem Vw.int {i : Int} (h : Vw K N H v (.int i)) : v = .int i := by
  cases h with
  | dn h => cases h; rfl
theorem Vw.bool {i : Bool} (h : Vw K N H v (.bool i)) : v = .bl i := by
  cases h with
  | dn h => cases h; rfl
theorem Vw.none (h : Vw K N H v .none) : v = .non := by
  cases h with
  | dn h => cases h; rfl
theorem Vw.str {i : Str} (h : Vw K N H v (.str i)) : v = .str i := by
  cases h with
  | dn h => cases h; rfl
theorem zip_at (h : σ.length = env.length) {i : Nat} (e : env[i]? = some s) : ∃ x, σ[i]? = some x ∧ (x, s) ∈ σ.zip env := by
  have hi : i < env.length := (List.getElem?_eq_some_iff.mp e).1
  have hj : i < σ.length := by omega
  refine ⟨σ[i], List.getElem?_eq_getElem hj, ?_⟩
  have hz : i < (σ.zip env).length := by rw [List.length_zip]; omega
  have := List.getElem_mem hz
  rw [List.getElem_zip] at this
  rwa [(List.getElem?_eq_some_iff.mp e).2] at this
theorem mem_tmp (m : (v, s) ∈ ts) : ((some v, s) : Ent) ∈ ents σ env ts := List.mem_append_right _ (List.mem_map.mpr ⟨(v, s), m, rfl⟩)
theorem Rel.slot (h : Rel K M P H0 σ0 σ env ts H) {i : Nat} (e : env[i]? = some s) : ∃ x, σ[i]? = some x ∧ (x, s) ∈ ents σ env ts := by
  obtain ⟨x, e1, m⟩ := zip_at h.len e
  exact ⟨x, e1, List.mem_append_left _ m⟩
theorem RelE.viewE {E : List Ent} (h : RelE K M P H0 E H) {x : Option V} (m : (x, s) ∈ E) (e : slD s = some d) : ∃ v, x = some v ∧ Vw K (Nw M E) H v d := by
  cases s with
  | fr d' =>
    cases e
    obtain ⟨v, e1, dn⟩ := h.fr _ _ m
    exact ⟨v, e1, .dn dn⟩
  | ow ds =>
    cases e
    obtain ⟨a, vs, e1, e2, dn, _⟩ := h.ow _ _ m
    exact ⟨_, e1, .ow e2 dn⟩
  | io ds =>
    cases e
    obtain ⟨a, vs, e1, e2, dn, _⟩ := h.io _ _ m
    exact ⟨_, e1, .ow e2 dn⟩
  | un => cases e
  | vw i => cases e
  | tr S d' => cases e
theorem Rel.there (h : Rel K M P H0 σ0 σ env ts H) {i : Nat} (e : (env[i]?).bind slD = some d) : ∃ v, σ[i]? = some (some v) ∧ Vw K (Nw M (ents σ env ts)) H v d := by
  cases q : env[i]? with
  | none => rw [q] at e; cases e
  | some s =>
    rw [q] at e
    obtain ⟨x, e1, m⟩ := h.slot q
    obtain ⟨v, e2, w⟩ := h.e.viewE m e
    exact ⟨v, by rw [e1, e2], w⟩
theorem Rel.view (h : Rel K M P H0 σ0 σ env ts H) (m : (v, s) ∈ ts) (e : valOf env s = some d) : Vw K (Nw M (ents σ env ts)) H v d := by
  cases s with
  | vw i =>
    obtain ⟨w, e1, q⟩ := h.there e
    rw [h.vw v i m] at e1
    cases e1
    exact q
  | un => cases e
  | tr S d' => cases e
  | fr d' => obtain ⟨w, e1, q⟩ := h.e.viewE (mem_tmp m) e; cases e1; exact q
  | ow d' => obtain ⟨w, e1, q⟩ := h.e.viewE (mem_tmp m) e; cases e1; exact q
  | io d' => obtain ⟨w, e1, q⟩ := h.e.viewE (mem_tmp m) e; cases e1; exact q
theorem nw_app {E B : List Ent} {b : Addr} (h : Nw M E b) : Nw M (E ++ B) b := by
  rcases h with h | h
  · exact .inl h
  · exact .inr (by rw [oas_app]; exact List.mem_append_left _ h)
theorem Rel.drop (h : Rel K M P H0 σ0 σ env (ts ++ tt) H) : Rel K M P H0 σ0 σ env ts H :=
  ⟨by have := h.e; rw [ents_app] at this; exact this.drop, h.len, fun v i m => h.vw v i (List.mem_append_left _ m), h.ios⟩
theorem Rel.same (h : Rel K M P H0 σ0 σ env ts H) (k : Same H H') : Rel K M P H0 σ0 σ env ts H' := ⟨h.e.same k, h.len, h.vw, h.ios⟩
theorem Rel.addFr (h : Rel K M P H0 σ0 σ env ts H) (dn : DN K (Nw M (ents σ env ts)) H v d) : Rel K M P H0 σ0 σ env (ts ++ [(v, .fr d)]) H :=
  ⟨by rw [ents_app]; exact h.e.addFr dn, h.len, (fun w i m => by
    rcases List.mem_append.mp m with m | m
    · exact h.vw w i m
    · rw [List.mem_singleton] at m; cases m), h.ios⟩
theorem Rel.addVw (h : Rel K M P H0 σ0 σ env ts H) {i : Nat} (e : σ[i]? = some (some v)) : Rel K M P H0 σ0 σ env (ts ++ [(v, .vw i)]) H :=
  ⟨by rw [ents_app]; exact h.e.addVw, h.len, (fun w i m => by
    rcases List.mem_append.mp m with m | m
    · exact h.vw w i m
    · rw [List.mem_singleton] at m; cases m; exact e), h.ios⟩
theorem Rel.addOw (h : Rel K M P H0 σ0 σ env ts H) {p : Addr} {vs : List V} {ds : List PyData} (hp : H p = none) (dns : DNs K (Nw M (ents σ env ts)) H vs ds) : Rel K M P H0 σ0 σ env (ts ++ [(.ref p, .ow ds)]) (upd H p (.lst vs)) :=
  ⟨by rw [ents_app]; exact h.e.addOw hp dns, h.len, (fun w i m => by
    rcases List.mem_append.mp m with m | m
    · exact h.vw w i m
    · rw [List.mem_singleton] at m; cases m), h.ios⟩
theorem Rel.res (h : Rel K M P H0 σ0 σ env (ts ++ tt) H) (k : Same H H') (dn : DN K (Nw M (ents σ env (ts ++ tt))) H' v d) : Rel K M P H0 σ0 σ env (ts ++ [(v, .fr d)]) H' :=
  (h.drop.same k).addFr (dn.to fun b _ _ z => by rw [ents_app]; exact nw_app z)
theorem Rel.resOw (h : Rel K M P H0 σ0 σ env (ts ++ tt) H) {p : Addr} {vs : List V} {ds : List PyData} (hp : H p = none) (dns : DNs K (Nw M (ents σ env (ts ++ tt))) H vs ds) : Rel K M P H0 σ0 σ env (ts ++ [(.ref p, .ow ds)]) (upd H p (.lst vs)) :=
  h.drop.addOw hp (dns.to fun b _ _ z => by rw [ents_app]; exact nw_app z)
end
abbrev DE := List Sl → (Sl → List Sl → Prop) → Prop
abbrev DT := List Sl → (Bool → List Sl → Prop) → Prop
abbrev DA := List Sl → (List Sl → List Sl → Prop) → Prop
def up (K : PySem.W.Frag) (t : DE) : TE := fun σ H Q => ∃ (M P : Addr → Prop) (H0 : Hp) (σ0 : St) (env : List Sl) (ts : List (V × Sl)) (R : Sl → List Sl → Prop), Rel K M P H0 σ0 σ env ts H ∧ t env R ∧
  ∀ s env' v H', R s env' → Rel K M P H0 σ0 σ env' (ts ++ [(v, s)]) H' → Q v H'
def upT (K : PySem.W.Frag) (t : DT) : TT := fun σ H Q => ∃ (M P : Addr → Prop) (H0 : Hp) (σ0 : St) (env : List Sl) (ts : List (V × Sl)) (R : Bool → List Sl → Prop), Rel K M P H0 σ0 σ env ts H ∧ t env R ∧
  ∀ b env' H', R b env' → Rel K M P H0 σ0 σ env' ts H' → Q b H'
def upA (K : PySem.W.Frag) (t : DA) : TA := fun σ H Q => ∃ (M P : Addr → Prop) (H0 : Hp) (σ0 : St) (env : List Sl) (ts : List (V × Sl)) (R : List Sl → List Sl → Prop), Rel K M P H0 σ0 σ env ts H ∧ t env R ∧
  ∀ ss env' vs H', R ss env' → vs.length = ss.length → Rel K M P H0 σ0 σ env' (ts ++ vs.zip ss) H' → Q vs H'
theorem PE.imp {X : Cx} {e : Expr} {t t' : TE} (h : PE X e t) (k : ∀ σ H Q, t' σ H Q → t σ H Q) : PE X e t' := fun pins s σ H Q I hw => h pins s σ H Q I (k σ H Q hw)
theorem PT.imp {X : Cx} {e : Expr} {t t' : TT} (h : PT X e t) (k : ∀ σ H Q, t' σ H Q → t σ H Q) : PT X e t' := fun pins s σ H Q I hw => h pins s σ H Q I (k σ H Q hw)
theorem PW.imp {X : Cx} {e : Expr} {t t' : TT} (h : PW X e t) (k : ∀ σ H Q, t' σ H Q → t σ H Q) : PW X e t' := fun wh pins s σ H Q I hw => h wh pins s σ H Q I (k σ H Q hw)
theorem PA.imp {X : Cx} {e : List Expr} {t t' : TA} (h : PA X e t) (k : ∀ σ H Q, t' σ H Q → t σ H Q) : PA X e t' := fun pos pins s σ H Q I hw => h pos pins s σ H Q I (k σ H Q hw)
section
variable {X : Cx} {K : PySem.W.Frag} {pos : Pos} {a b c : Expr} {ta tb tc : DE} {es : List Expr} {tA tB' : DT} {tl : DA}
def dVar (i : Nat) : DE := fun env R => ∃ d, (env[i]?).bind slD = some d ∧ R (.vw i) env
theorem qv (i : Nat) {x : Str} (hN : X.N[i]? = some x := by rfl) (hv : Vis X.env.scope x := by first | exact Or.inl rfl | exact Or.inr (Or.inl rfl) | exact Or.inr (Or.inr rfl)) (hd : (x == ("__debug__" : Str)) = false := by decide)
    (hcd : (x == ("__classdict__" : Str)) = false := by decide) : PE X (.Name x pos) (up K (dVar i)) := (pe_var hN hv hd hcd).imp fun σ H Q h => by
  obtain ⟨M, P, H0, σ0, env, ts, R, rel, ⟨d, e, hR⟩, hq⟩ := h
  obtain ⟨v, e1, _⟩ := rel.there e
  exact ⟨v, e1, hq _ _ _ _ hR (rel.addVw e1)⟩
theorem mem_split {α : Type} : ∀ {l : List α} {i : Nat} {x : α}, l[i]? = some x → ∃ A B, l = A ++ x :: B ∧ ∀ y, l.set i y = A ++ y :: B
  | [], i, x, h => by simp at h
  | z :: l, 0, x, h => by
    simp at h
    subst h
    exact ⟨[], l, rfl, fun y => rfl⟩
  | z :: l, i + 1, x, h => by
    obtain ⟨A, B, e1, e2⟩ := mem_split (l := l) (i := i) (x := x) (by simpa using h)
    exact ⟨z :: A, B, by rw [e1]; rfl, fun y => by rw [List.set_cons_succ, e2 y]; rfl⟩
theorem zip_get {α β : Type} (l : List α) (m : List β) (j : Nat) : (l.zip m)[j]? = (l[j]?).bind fun a => (m[j]?).map fun b => (a, b) := by
  rw [List.zip, List.getElem?_zipWith]
  cases l[j]? <;> cases m[j]? <;> rfl
theorem zip_set {σ : St} {env : List Sl} {i : Nat} {x : Option V} {s' : Sl} (h : σ[i]? = some x) : σ.zip (env.set i s') = (σ.zip env).set i (x, s') := by
  apply List.ext_getElem?
  intro j
  by_cases hj : i = j
  · subst hj
    rw [List.getElem?_set_self', zip_get, zip_get, h]
    by_cases hi : i < env.length
    · rw [List.getElem?_set_self hi, List.getElem?_eq_getElem hi]
      rfl
    · rw [List.getElem?_eq_none (by simp; omega), List.getElem?_eq_none (by omega)]
      rfl
  · rw [List.getElem?_set_ne hj, zip_get, zip_get, List.getElem?_set_ne hj]
theorem Rel.split {M P : Addr → Prop} {H0 H : Hp} {σ0 σ : St} {env : List Sl} {ts : List (V × Sl)} {i : Nat} {s : Sl} (h : Rel K M P H0 σ0 σ env ts H) (e : env[i]? = some s) :
    ∃ x A B, σ[i]? = some x ∧ ents σ env ts = A ++ (x, s) :: B ∧ ∀ s', ents σ (env.set i s') ts = A ++ (x, s') :: B := by
  obtain ⟨x, e1, m⟩ := zip_at h.len e
  have ez : (σ.zip env)[i]? = some (x, s) := by rw [List.zip, List.getElem?_zipWith, e1, e]
  obtain ⟨A, B, q1, q2⟩ := mem_split ez
  refine ⟨x, A, B ++ tmp ts, e1, by unfold ents; rw [q1]; simp, fun s' => ?_⟩
  unfold ents
  rw [zip_set e1, q2]
  simp
def dFrz (i : Nat) : DE := fun env R => match env[i]? with
  | some (.fr d) => R (.fr d) env
  | some (.tr _ d) => R (.fr d) (env.set i (.fr d))
  | some (.ow ds) => R (.fr (.list ds)) (env.set i (.fr (.list ds)))
  | _ => False
theorem Rel.frz {M P : Addr → Prop} {H0 H : Hp} {σ0 σ : St} {env : List Sl} {ts : List (V × Sl)} {i : Nat} {ds : List PyData} (h : Rel K M P H0 σ0 σ env ts H) (e : env[i]? = some (.ow ds)) : Rel K M P H0 σ0 σ (env.set i (.fr (.list ds))) ts H := by
  obtain ⟨x, A, B, e1, q1, q2⟩ := h.split e
  have r := h.e
  rw [q1] at r
  obtain ⟨a, vs, z, _⟩ := r.ow _ _ (List.mem_append_right _ List.mem_cons_self)
  subst z
  refine ⟨by rw [q2]; exact r.freeze, by simp [h.len], h.vw, fun j ds' e' => ?_⟩
  by_cases hj : i = j
  · subst hj
    have hi : i < env.length := (List.getElem?_eq_some_iff.mp e).1
    rw [List.getElem?_set_self hi] at e'
    cases e'
  · rw [List.getElem?_set_ne hj] at e'
    exact h.ios j ds' e'
theorem Rel.frzT {M P : Addr → Prop} {H0 H : Hp} {σ0 σ : St} {env : List Sl} {ts : List (V × Sl)} {i : Nat} {S : List Addr} {d : PyData} (h : Rel K M P H0 σ0 σ env ts H) (e : env[i]? = some (.tr S d)) : Rel K M P H0 σ0 σ (env.set i (.fr d)) ts H := by
  obtain ⟨x, A, B, e1, q1, q2⟩ := h.split e
  have r := h.e
  rw [q1] at r
  obtain ⟨v, z, _⟩ := r.tr _ _ _ (List.mem_append_right _ List.mem_cons_self)
  subst z
  refine ⟨by rw [q2]; exact r.freezeT, by simp [h.len], h.vw, fun j ds' e' => ?_⟩
  by_cases hj : i = j
  · subst hj
    have hi : i < env.length := (List.getElem?_eq_some_iff.mp e).1
    rw [List.getElem?_set_self hi] at e'
    cases e'
  · rw [List.getElem?_set_ne hj] at e'
    exact h.ios j ds' e'
theorem qf (i : Nat) {x : Str} (hN : X.N[i]? = some x := by rfl) (hv : Vis X.env.scope x := by first | exact Or.inl rfl | exact Or.inr (Or.inl rfl) | exact Or.inr (Or.inr rfl)) (hd : (x == ("__debug__" : Str)) = false := by decide)
    (hcd : (x == ("__classdict__" : Str)) = false := by decide) : PE X (.Name x pos) (up K (dFrz i)) := (pe_var hN hv hd hcd).imp fun σ H Q h => by
  obtain ⟨M, P, H0, σ0, env, ts, R, rel, ht, hq⟩ := h
  have key : ∀ env' d, Rel K M P H0 σ0 σ env' ts H → env'[i]? = some (.fr d) → R (.fr d) env' → tVar i σ H Q := fun env' d rel' e' hR => by
    obtain ⟨x', e1, m⟩ := rel'.slot e'
    obtain ⟨v, e2, dn⟩ := rel'.e.fr _ _ m
    subst e2
    exact ⟨v, e1, hq _ _ _ _ hR (rel'.addFr dn)⟩
  unfold dFrz at ht
  split at ht
  · rename_i d e
    exact key env d rel e ht
  · rename_i S d e
    have hi : i < env.length := (List.getElem?_eq_some_iff.mp e).1
    exact key _ _ (rel.frzT e) (List.getElem?_set_self hi) ht
  · rename_i ds e
    have hi : i < env.length := (List.getElem?_eq_some_iff.mp e).1
    exact key _ _ (rel.frz e) (List.getElem?_set_self hi) ht
  · exact ht.elim
def dC (d : PyData) : DE := fun env R => R (.fr d) env
theorem q_int {i j} : PE X (.Constant (.int i) j pos) (up K (dC (.int i))) := pe_int.imp fun σ H Q h => by
  obtain ⟨M, P, H0, σ0, env, ts, R, rel, ht, hq⟩ := h
  exact hq _ _ _ _ ht (rel.addFr (.int i))
theorem q_bl {i j} : PE X (.Constant (.bool i) j pos) (up K (dC (.bool i))) := pe_bl.imp fun σ H Q h => by
  obtain ⟨M, P, H0, σ0, env, ts, R, rel, ht, hq⟩ := h
  exact hq _ _ _ _ ht (rel.addFr (.bl i))
theorem q_non {j} : PE X (.Constant .none j pos) (up K (dC .none)) := pe_non.imp fun σ H Q h => by
  obtain ⟨M, P, H0, σ0, env, ts, R, rel, ht, hq⟩ := h
  exact hq _ _ _ _ ht (rel.addFr .non)
abbrev G2 := PyData → PyData → (PyData → Prop) → Prop
def dOp (g : G2) (ta tb : DE) : DE := fun env R => ta env fun s1 env1 => tb env1 fun s2 env2 => ∃ d1 d2, valOf env2 s1 = some d1 ∧ valOf env2 s2 = some d2 ∧ g d1 d2 fun d => R (.fr d) env2
def Means (K : PySem.W.Frag) (r : R2) (g : G2) : Prop := ∀ (N : Addr → Prop) (H : Hp) (x y : V) (d1 d2 : PyData) (R : PyData → Prop) (Q : VK), Vw K N H x d1 → Vw K N H y d2 → g d1 d2 R → (∀ d v, R d → DN K N H v d → Q v H) → r x y H Q
theorem op_up {r : R2} {g : G2} (m : Means K r g) : ∀ σ H Q, up K (dOp g ta tb) σ H Q → tOp r (up K ta) (up K tb) σ H Q := fun σ H Q h => by
  obtain ⟨M, P, H0, σ0, env, ts, R, rel, ht, hq⟩ := h
  refine ⟨M, P, H0, σ0, env, ts, _, rel, ht, fun s1 env1 v1 H1 h1 rel1 => ⟨M, P, H0, σ0, env1, ts ++ [(v1, s1)], _, rel1, h1, fun s2 env2 v2 H2 h2 rel2 => ?_⟩⟩
  obtain ⟨d1, d2, e1, e2, g⟩ := h2
  refine m _ H2 v1 v2 d1 d2 _ Q (rel2.view (by simp) e1) (rel2.view (by simp) e2) g fun d v hR dn => hq _ _ _ _ hR ?_
  have rel2' : Rel K M P H0 σ0 σ env2 (ts ++ [(v1, s1), (v2, s2)]) H2 := by simpa using rel2
  exact rel2'.res (Same.refl _) (by simpa using dn)
theorem q_op {op : Operator} {r : R2} {g : G2} (ho : OpR X (binaryOp op) r) (m : Means K r g) (ha : PE X a (up K ta)) (hb : PE X b (up K tb)) : PE X (.BinOp a op b pos) (up K (dOp g ta tb)) := (pe_op ho ha hb).imp (op_up m)
theorem q_cmp {op : CmpOp} {r : R2} {g : G2} (ho : OpR X (compareOp op) r) (m : Means K r g) (ha : PE X a (up K ta)) (hb : PE X b (up K tb)) (hm : behindInMarks op b = false) : PE X (.Compare a [op] [b] pos) (up K (dOp g ta tb)) := (pe_cmpR ho ha hb hm).imp (op_up m)
def dTest (t : DE) : DT := fun env R => t env fun s env1 => ∃ k, valOf env1 s = some (.bool k) ∧ R k env1
theorem test_up {t : TE} {td : DE} (h : ∀ σ H Q, up K td σ H Q → t σ H Q) : ∀ σ H Q, upT K (dTest td) σ H Q → tTest t σ H Q := fun σ H Q hh => by
  obtain ⟨M, P, H0, σ0, env, ts, R, rel, ht, hq⟩ := hh
  refine h σ H _ ⟨M, P, H0, σ0, env, ts, _, rel, ht, fun s1 env1 v1 H1 h1 rel1 => ?_⟩
  obtain ⟨k, e, hR⟩ := h1
  exact ⟨k, (rel1.view (by simp) e).bool, hq _ _ _ hR rel1.drop⟩
theorem qt_cmp {op : CmpOp} {r : R2} {g : G2} (ho : OpR X (compareOp op) r) (m : Means K r g) (ha : PE X a (up K ta)) (hb : PE X b (up K tb)) (hm : behindInMarks op b = false) : PT X (.Compare a [op] [b] pos) (upT K (dTest (dOp g ta tb))) := (pt_cmpR ho ha hb hm).imp (test_up (op_up m))
theorem q_ix {r : R2} {g : G2} (hr : IxR X r) (m : Means K r g) (ha : PE X a (up K ta)) (hb : PE X b (up K tb)) (hs : PlainIx b) : PE X (.Subscript a b pos) (up K (dOp g ta tb)) := (pe_ix hr ha hb hs).imp (op_up m)
theorem qt_val {e : Expr} {t : DE} (h : PE X e (up K t)) (he : ∀ whole, isTrue e X.env whole = (do let v ← whole; standAt e.pos; holding [v] (truthy v)) := by intro _; rfl) : PT X e (upT K (dTest t)) := (pt_val h he).imp (test_up fun _ _ _ h => h)
def dAnd (t u : DT) : DT := fun env R => t env fun k env1 => if k = true then u env1 R else R false env1
def dOr (t u : DT) : DT := fun env R => t env fun k env1 => if k = true then R true env1 else u env1 R
def dNot (t : DT) : DT := fun env R => t env fun k env1 => R (!k) env1
theorem qw_and1 (ha : PT X a (upT K tA)) : PW X (.BoolOp .And [a] pos) (upT K tA) := pw_and1 ha
theorem qw_or1 (ha : PT X a (upT K tA)) : PW X (.BoolOp .Or [a] pos) (upT K tA) := pw_or1 ha
theorem qw_and (ha : PT X a (upT K tA)) (hb : PW X (.BoolOp .And (b :: es) pos) (upT K tB')) : PW X (.BoolOp .And (a :: b :: es) pos) (upT K (dAnd tA tB')) := (pw_and ha hb).imp fun σ H Q h => by
  obtain ⟨M, P, H0, σ0, env, ts, R, rel, ht, hq⟩ := h
  refine ⟨M, P, H0, σ0, env, ts, _, rel, ht, fun k env1 H1 h1 rel1 => ?_⟩
  cases k with
  | true => exact ⟨M, P, H0, σ0, env1, ts, R, rel1, h1, hq⟩
  | false => exact hq _ _ _ h1 rel1
theorem qw_or (ha : PT X a (upT K tA)) (hb : PW X (.BoolOp .Or (b :: es) pos) (upT K tB')) : PW X (.BoolOp .Or (a :: b :: es) pos) (upT K (dOr tA tB')) := (pw_or ha hb).imp fun σ H Q h => by
  obtain ⟨M, P, H0, σ0, env, ts, R, rel, ht, hq⟩ := h
  refine ⟨M, P, H0, σ0, env, ts, _, rel, ht, fun k env1 H1 h1 rel1 => ?_⟩
  cases k with
  | false => exact ⟨M, P, H0, σ0, env1, ts, R, rel1, h1, hq⟩
  | true => exact hq _ _ _ h1 rel1
theorem qt_not (ha : PT X a (upT K tA)) : PT X (.UnaryOp .Not a pos) (upT K (dNot tA)) := (pt_not ha).imp fun σ H Q h => by
  obtain ⟨M, P, H0, σ0, env, ts, R, rel, ht, hq⟩ := h
  exact ⟨M, P, H0, σ0, env, ts, _, rel, ht, fun k env1 H1 h1 rel1 => hq _ _ _ h1 rel1⟩
def dAndV (t u : DE) : DE := fun env R => t env fun s env1 => ∃ k, valOf env1 s = some (.bool k) ∧ if k = true then u env1 R else R (.fr (.bool false)) env1
def dOrV (t u : DE) : DE := fun env R => t env fun s env1 => ∃ k, valOf env1 s = some (.bool k) ∧ if k = true then R (.fr (.bool true)) env1 else u env1 R
def dNotV (t : DE) : DE := fun env R => t env fun s env1 => ∃ k, valOf env1 s = some (.bool k) ∧ R (.fr (.bool (!k))) env1
theorem q_one {op} (h : PE X a (up K ta)) : PE X (.BoolOp op [a] pos) (up K ta) := pe_one h
theorem q_and (ha : PE X a (up K ta)) (hb : PE X (.BoolOp .And (b :: es) pos) (up K tb)) : PE X (.BoolOp .And (a :: b :: es) pos) (up K (dAndV ta tb)) := (pe_and ha hb).imp fun σ H Q h => by
  obtain ⟨M, P, H0, σ0, env, ts, R, rel, ht, hq⟩ := h
  refine ⟨M, P, H0, σ0, env, ts, _, rel, ht, fun s1 env1 v1 H1 h1 rel1 => ?_⟩
  obtain ⟨k, e, h1⟩ := h1
  refine ⟨k, (rel1.view (by simp) e).bool, ?_⟩
  cases k with
  | true => exact ⟨M, P, H0, σ0, env1, ts, R, rel1.drop, h1, hq⟩
  | false => exact hq _ _ _ _ h1 (rel1.drop.addFr (.bl false))
theorem q_not (ha : PE X a (up K ta)) : PE X (.UnaryOp .Not a pos) (up K (dNotV ta)) := (pe_not ha).imp fun σ H Q h => by
  obtain ⟨M, P, H0, σ0, env, ts, R, rel, ht, hq⟩ := h
  refine ⟨M, P, H0, σ0, env, ts, _, rel, ht, fun s1 env1 v1 H1 h1 rel1 => ?_⟩
  obtain ⟨k, e, h1⟩ := h1
  exact ⟨k, (rel1.view (by simp) e).bool, hq _ _ _ _ h1 (rel1.drop.addFr (.bl _))⟩
def dIf (t : DT) (ta tb : DE) : DE := fun env R => t env fun k env1 => if k = true then ta env1 R else tb env1 R
theorem q_ifExp (hc : PT X c (upT K tA)) (ha : PE X a (up K ta)) (hb : PE X b (up K tb)) : PE X (.IfExp c a b pos) (up K (dIf tA ta tb)) := (pe_ifExp hc ha hb).imp fun σ H Q h => by
  obtain ⟨M, P, H0, σ0, env, ts, R, rel, ht, hq⟩ := h
  refine ⟨M, P, H0, σ0, env, ts, _, rel, ht, fun k env1 H1 h1 rel1 => ?_⟩
  cases k with
  | true => exact ⟨M, P, H0, σ0, env1, ts, R, rel1, h1, hq⟩
  | false => exact ⟨M, P, H0, σ0, env1, ts, R, rel1, h1, hq⟩
def dChain (g g' : G2) (ta tb tc : DE) : DE := fun env R => ta env fun s1 env1 => tb env1 fun s2 env2 => ∃ d1 d2, valOf env2 s1 = some d1 ∧ valOf env2 s2 = some d2 ∧ g d1 d2 fun d => ∃ k, d = .bool k ∧
  if k = true then tc env2 fun s3 env3 => ∃ d2' d3, valOf env3 s2 = some d2' ∧ valOf env3 s3 = some d3 ∧ g' d2' d3 fun d' => R (.fr d') env3 else R (.fr (.bool false)) env2
theorem chain_up {r r' : R2} {g g' : G2} (m : Means K r g) (m' : Means K r' g') : ∀ σ H Q, up K (dChain g g' ta tb tc) σ H Q → tChain r r' (up K ta) (up K tb) (up K tc) σ H Q := fun σ H Q h => by
  obtain ⟨M, P, H0, σ0, env, ts, R, rel, ht, hq⟩ := h
  refine ⟨M, P, H0, σ0, env, ts, _, rel, ht, fun s1 env1 v1 H1 h1 rel1 => ⟨M, P, H0, σ0, env1, ts ++ [(v1, s1)], _, rel1, h1, fun s2 env2 v2 H2 h2 rel2 => ?_⟩⟩
  obtain ⟨d1, d2, e1, e2, g⟩ := h2
  have rel2' : Rel K M P H0 σ0 σ env2 (ts ++ [(v1, s1), (v2, s2)]) H2 := by simpa using rel2
  refine m _ H2 v1 v2 d1 d2 _ _ (rel2.view (by simp) e1) (rel2.view (by simp) e2) g fun d v hR dn => ?_
  obtain ⟨k, rfl, hR⟩ := hR
  cases dn
  refine ⟨k, rfl, ?_⟩
  cases k with
  | false => exact hq _ _ _ _ hR (rel2'.drop.addFr (.bl false))
  | true =>
    refine ⟨M, P, H0, σ0, env2, ts ++ [(v1, s1), (v2, s2)], _, rel2', hR, fun s3 env3 v3 H3 h3 rel3 => ?_⟩
    obtain ⟨d2', d3, e2', e3, g'⟩ := h3
    refine m' _ H3 v2 v3 d2' d3 _ Q (rel3.view (by simp) e2') (rel3.view (by simp) e3) g' fun d v hR dn => hq _ _ _ _ hR ?_
    have rel3' : Rel K M P H0 σ0 σ env3 (ts ++ [(v1, s1), (v2, s2), (v3, s3)]) H3 := by simpa using rel3
    exact rel3'.res (Same.refl _) (by simpa using dn)
theorem q_chain {op op' : CmpOp} {r r' : R2} {g g' : G2} (ho : OpR X (compareOp op) r) (m : Means K r g) (ho' : OpR X (compareOp op') r') (m' : Means K r' g') (ha : PE X a (up K ta)) (hb : PE X b (up K tb)) (hc : PE X c (up K tc))
    (hm : lastMarks [op, op'] [b, c] = false := by with_unfolding_all rfl) : PE X (.Compare a [op, op'] [b, c] pos) (up K (dChain g g' ta tb tc)) := (pe_chain ho ho' ha hb hc hm).imp (chain_up m m')
abbrev G1 := PyData → (PyData → Prop) → Prop
def dUn (g : G1) (ta : DE) : DE := fun env R => ta env fun s1 env1 => ∃ d1, valOf env1 s1 = some d1 ∧ g d1 fun d => R (.fr d) env1
theorem q_un {op : UnaryOp} {r : V → Hp → VK → Prop} {g : G1} (ho : UnR X (unaryOp op) r) (m : ∀ (N : Addr → Prop) (H : Hp) (x : V) (d1 : PyData) (R : PyData → Prop) (Q : VK), Vw K N H x d1 → g d1 R → (∀ d v, R d → DN K N H v d → Q v H) → r x H Q)
    (ha : PE X a (up K ta)) : PE X (.UnaryOp op a pos) (up K (dUn g ta)) := (pe_un ho ha).imp fun σ H Q h => by
  obtain ⟨M, P, H0, σ0, env, ts, R, rel, ht, hq⟩ := h
  refine ⟨M, P, H0, σ0, env, ts, _, rel, ht, fun s1 env1 v1 H1 h1 rel1 => ?_⟩
  obtain ⟨d1, e1, g⟩ := h1
  exact m _ H1 v1 d1 _ Q (rel1.view (by simp) e1) g fun d v hR dn => hq _ _ _ _ hR (rel1.res (Same.refl _) dn)
def dNil : DA := fun env R => R [] env
def dCons (t : DE) (u : DA) : DA := fun env R => t env fun s env1 => u env1 fun ss env2 => R (s :: ss) env2
theorem qa_nil : PA X [] (upA K dNil) := pa_nil.imp fun σ H Q h => by
  obtain ⟨M, P, H0, σ0, env, ts, R, rel, ht, hq⟩ := h
  exact hq [] env [] H ht rfl (by simpa using rel)
theorem qa_cons (ha : PE X a (up K ta)) (hr : PA X es (upA K tl)) (hs : starEach (a :: es) X.env = (false, eval a X.env) :: starEach es X.env := by rfl) : PA X (a :: es) (upA K (dCons ta tl)) := (pa_cons ha hr hs).imp fun σ H Q h => by
  obtain ⟨M, P, H0, σ0, env, ts, R, rel, ht, hq⟩ := h
  refine ⟨M, P, H0, σ0, env, ts, _, rel, ht, fun s1 env1 v1 H1 h1 rel1 => ⟨M, P, H0, σ0, env1, ts ++ [(v1, s1)], _, rel1, h1, fun ss env2 vs H2 h2 hl rel2 => ?_⟩⟩
  exact hq (s1 :: ss) env2 (v1 :: vs) H2 h2 (by simp [hl]) (by simpa using rel2)
end
end L2
namespace L2
open PySem PySem.Spec PyProof.Rows
section
variable {K : PySem.W.Frag} {M P N : Addr → Prop} {H0 H H' : Hp} {σ0 σ : St} {env : List Sl} {ts tt : List (V × Sl)} {v : V} {s : Sl} {d : PyData}
def gI (f : Int → Int → Int) : G2 := fun d e R => ∃ i j, d = .int i ∧ e = .int j ∧ R (.int (f i j))
def gIC (C : Int → Int → Prop) (f : Int → Int → Int) : G2 := fun d e R => ∃ i j, d = .int i ∧ e = .int j ∧ C i j ∧ R (.int (f i j))
def gB (f : Int → Int → Bool) : G2 := fun d e R => ∃ i j, d = .int i ∧ e = .int j ∧ R (.bool (f i j))
theorem mI {f : Int → Int → Int} : Means K (rI0 fun i j => .int (f i j)) (gI f) := by
  rintro N H x y d e R Q w1 w2 ⟨i, j, rfl, rfl, hR⟩ hq
  exact ⟨i, j, w1.int, w2.int, hq _ _ hR (.int _)⟩
theorem mIC {C : Int → Int → Prop} {f : Int → Int → Int} : Means K (rI C fun i j => .int (f i j)) (gIC C f) := by
  rintro N H x y d e R Q w1 w2 ⟨i, j, rfl, rfl, hC, hR⟩ hq
  exact ⟨i, j, w1.int, w2.int, hC, hq _ _ hR (.int _)⟩
theorem mB {f : Int → Int → Bool} : Means K (rI0 fun i j => .bl (f i j)) (gB f) := by
  rintro N H x y d e R Q w1 w2 ⟨i, j, rfl, rfl, hR⟩ hq
  exact ⟨i, j, w1.int, w2.int, hq _ _ hR (.bl _)⟩
theorem mEqI : Means K rEq (gB fun i j => decide (i = j)) := by
  rintro N H x y d e R Q w1 w2 ⟨i, j, rfl, rfl, hR⟩ hq
  rw [w1.int, w2.int]
  refine ⟨by simp [scal], ?_⟩
  have q := hq _ _ hR (.bl _)
  rwa [show decide (V.int i = V.int j) = decide (i = j) by simp]
theorem mNeI : Means K rNe (gB fun i j => !decide (i = j)) := by
  rintro N H x y d e R Q w1 w2 ⟨i, j, rfl, rfl, hR⟩ hq
  rw [w1.int, w2.int]
  refine ⟨by simp [scal], ?_⟩
  have q := hq _ _ hR (.bl _)
  rwa [show decide (V.int i = V.int j) = decide (i = j) by simp]
def gBB (f : Bool → Bool → Bool) : G2 := fun d e R => ∃ i j, d = .bool i ∧ e = .bool j ∧ R (.bool (f i j))
def gEq : G2 := fun d e R => shp d ∧ shp e ∧ R (.bool (PyData.eqv d e))
def gNe : G2 := fun d e R => shp d ∧ shp e ∧ R (.bool (!PyData.eqv d e))
theorem mEq : Means K (rEqD K) gEq := fun N H x y d e R Q w1 w2 ⟨h1, h2, hR⟩ hq => ⟨d, e, w1.dv, w2.dv, h1, h2, hq _ _ hR (.bl _)⟩
theorem mNe : Means K (rNeD K) gNe := fun N H x y d e R Q w1 w2 ⟨h1, h2, hR⟩ hq => ⟨d, e, w1.dv, w2.dv, h1, h2, hq _ _ hR (.bl _)⟩
def isNn : PyData → Bool
  | .none => true
  | _ => false
theorem Vw.isNon (w : Vw K N H v d) : decide (v = .non) = isNn d := by
  cases w with
  | dn h => cases h <;> simp [isNn]
  | ow h q => simp [isNn]
def gIsN : G2 := fun d e R => e = .none ∧ R (.bool (isNn d))
theorem mIsN : Means K (fun x y H Q => y = .non ∧ Q (.bl (decide (x = .non))) H) gIsN := by
  rintro N H x y d e R Q w1 w2 ⟨rfl, hR⟩ hq
  exact ⟨w2.none, by rw [w1.isNon]; exact hq _ _ hR (.bl _)⟩
def seqOf : PyData → Option (List PyData)
  | .list ds => some ds
  | .tuple ds => some ds
  | _ => none
def intOf : PyData → Option Int
  | .int i => some i
  | _ => none
def intsOf : List PyData → Option (List Int)
  | [] => some []
  | d :: ds => (intOf d).bind fun i => (intsOf ds).map (i :: ·)
theorem intsOf_map : ∀ ns : List Int, intsOf (ns.map .int) = some ns
  | [] => rfl
  | n :: ns => by rw [List.map_cons, intsOf, intsOf_map ns]; rfl
theorem intsOf_some : ∀ {ds : List PyData} {ns : List Int}, intsOf ds = some ns → ds = ns.map .int
  | [], ns, h => by cases h; rfl
  | d :: ds, ns, h => by
    unfold intsOf at h
    cases d <;> simp [intOf] at h
    obtain ⟨ms, h1, rfl⟩ := h
    rw [intsOf_some h1]; rfl
theorem Vw.seq {ds : List PyData} (w : Vw K N H v d) (e : seqOf d = some ds) : ∃ a vs, v = .ref a ∧ (SqL K H a vs ∨ SqT K H a vs) ∧ DNs K N H vs ds := by
  cases d <;> simp [seqOf] at e
  · subst e
    obtain ⟨a, vs, e1, s, q⟩ := w.list
    exact ⟨a, vs, e1, .inl s, q⟩
  · subst e
    obtain ⟨a, vs, e1, s, q⟩ := w.tuple
    exact ⟨a, vs, e1, .inr s, q⟩
theorem inV_ints (i : Int) (ns : List Int) : inV (.int i) (ns.map V.int) = decide (i ∈ ns) := by
  unfold inV
  induction ns with
  | nil => rfl
  | cons n r ih =>
    rw [List.map_cons, List.any_cons, ih]
    have : eqV (.int n) (.int i) = decide (n = i) := by
      by_cases h : n = i <;> simp [eqV, h]
    rw [this]
    by_cases h1 : n = i
    · simp [h1]
    · have : ¬ i = n := fun z => h1 z.symm
      simp [h1, this]
theorem flat_ints (ns : List Int) : (ns.map V.int).all flatV = true := by
  rw [List.all_eq_true]
  intro x hx
  obtain ⟨n, _, rfl⟩ := List.mem_map.mp hx
  rfl
def gIn : G2 := fun d e R => ∃ i ds ns, d = .int i ∧ seqOf e = some ds ∧ intsOf ds = some ns ∧ R (.bool (decide (i ∈ ns)))
def gNotIn : G2 := fun d e R => ∃ i ds ns, d = .int i ∧ seqOf e = some ds ∧ intsOf ds = some ns ∧ R (.bool (!decide (i ∈ ns)))
theorem mIn : Means K (rIn K false) gIn := by
  rintro N H x y d e R Q w1 w2 ⟨i, ds, ns, rfl, e1, e2, hR⟩ hq
  obtain ⟨a, vs, rfl, s, q⟩ := w2.seq e1
  rw [intsOf_some e2] at q
  rw [q.ints] at s
  rw [w1.int]
  refine ⟨a, _, rfl, s, rfl, flat_ints ns, ?_⟩
  rw [inV_ints]
  exact hq _ _ hR (.bl _)
theorem mNotIn : Means K (rIn K true) gNotIn := by
  rintro N H x y d e R Q w1 w2 ⟨i, ds, ns, rfl, e1, e2, hR⟩ hq
  obtain ⟨a, vs, rfl, s, q⟩ := w2.seq e1
  rw [intsOf_some e2] at q
  rw [q.ints] at s
  rw [w1.int]
  refine ⟨a, _, rfl, s, rfl, flat_ints ns, ?_⟩
  rw [inV_ints]
  exact hq _ _ hR (.bl _)
def gNotInD : G2 := fun d e R => ∃ ds, e = .list ds ∧ shp d ∧ shp e ∧ R (.bool (!ds.any fun x => PyData.eqv x d))
theorem mNotInD : Means K (rNotInD K) gNotInD := by
  rintro N H x y d e R Q w1 w2 ⟨ds, rfl, h1, h2, hR⟩ hq
  exact ⟨d, ds, w1.dv, w2.dv, h1, h2, hq _ _ hR (.bl _)⟩
theorem DNs.atI {vs : List V} {ds : List PyData} {i : Int} {e : PyData} (q : DNs K N H vs ds) (h : L2.atI ds i = some e) : ∃ v, L2.atI vs i = some v ∧ DN K N H v e := by
  unfold L2.atI at h ⊢
  rw [q.len]
  cases hj : ixN ds.length i with
  | none => rw [hj] at h; cases h
  | some j =>
    rw [hj] at h
    have h : ds[j]? = some e := h
    have hlt : j < vs.length := by rw [q.len]; exact (List.getElem?_eq_some_iff.mp h).1
    obtain ⟨e', h1, h2⟩ := q.get (List.getElem?_eq_getElem hlt)
    rw [h] at h1
    cases h1
    exact ⟨vs[j], List.getElem?_eq_getElem hlt, h2⟩
def gIx : G2 := fun d e R => ∃ ds i x, seqOf d = some ds ∧ e = .int i ∧ atI ds i = some x ∧ R x
def rIxA (K : PySem.W.Frag) : R2 := fun x y H Q => rIxL K x y H Q ∨ rIxT K x y H Q
theorem ix_any {X : Cx} (hK : X.K = K) : IxR X (rIxA K) := by subst hK; exact IxR.or ix_list ix_tup
theorem mIx : Means K (rIxA K) gIx := by
  rintro N H x y d e R Q w1 w2 ⟨ds, i, z, e1, rfl, e2, hR⟩ hq
  obtain ⟨a, vs, rfl, s, q⟩ := w1.seq e1
  obtain ⟨u, e3, dn⟩ := q.atI e2
  rcases s with s | s
  · exact .inl ⟨a, vs, i, u, rfl, w2.int, s, e3, hq _ _ hR dn⟩
  · exact .inr ⟨a, vs, i, u, rfl, w2.int, s, e3, hq _ _ hR dn⟩
inductive Vws (K : PySem.W.Frag) (N : Addr → Prop) (H : Hp) : List V → List PyData → Prop
  | nil : Vws K N H [] []
  | cons {v d vs ds} : Vw K N H v d → Vws K N H vs ds → Vws K N H (v :: vs) (d :: ds)
def valsOf (env : List Sl) : List Sl → Option (List PyData)
  | [] => some []
  | s :: ss => (valOf env s).bind fun d => (valsOf env ss).bind fun ds => some (d :: ds)
theorem Rel.views (h : Rel K M P H0 σ0 σ env ts H) : ∀ {vs : List V} {ss : List Sl} {ds : List PyData}, vs.length = ss.length → (∀ p ∈ vs.zip ss, p ∈ ts) → valsOf env ss = some ds → Vws K (Nw M (ents σ env ts)) H vs ds
  | [], [], _, _, _, e => by cases e; exact .nil
  | v :: vs, s :: ss, ds, hl, hm, e => by
    unfold valsOf at e
    cases e1 : valOf env s with
    | none => rw [e1] at e; cases e
    | some d =>
      rw [e1] at e
      cases e2 : valsOf env ss with
      | none => rw [e2] at e; cases e
      | some ds' =>
        rw [e2] at e
        cases e
        exact .cons (h.view (hm _ (by simp)) e1) (h.views (by simpa using hl) (fun p hp => hm p (by simp [hp])) e2)
  | [], _ :: _, _, hl, _, _ => by simp at hl
  | _ :: _, [], _, hl, _, _ => by simp at hl
abbrev GB := List PyData → (PyData → Prop) → Prop
def dCB (g : GB) (t : DA) : DE := fun env R => t env fun ss env1 => ∃ ds, valsOf env1 ss = some ds ∧ g ds fun d => R (.fr d) env1
def MeansB (K : PySem.W.Frag) (r : List V → Hp → VK → Prop) (g : GB) : Prop := ∀ (N : Addr → Prop) (H : Hp) (xs : List V) (ds : List PyData) (R : PyData → Prop) (Q : VK), Vws K N H xs ds → g ds R → (∀ d v, R d → DN K N H v d → Q v H) → r xs H Q
theorem cb_up {r : List V → Hp → VK → Prop} {g : GB} {tl : DA} (m : MeansB K r g) : ∀ σ H Q, up K (dCB g tl) σ H Q → tCB r (upA K tl) σ H Q := fun σ H Q h => by
  obtain ⟨M, P, H0, σ0, env, ts, R, rel, ht, hq⟩ := h
  refine ⟨M, P, H0, σ0, env, ts, _, rel, ht, fun ss env1 vs H1 h1 hl rel1 => ?_⟩
  obtain ⟨ds, e, g⟩ := h1
  exact m _ H1 vs ds _ Q (rel1.views hl (fun p hp => List.mem_append_right _ hp) e) g fun d v hR dn => hq _ _ _ _ hR (rel1.res (Same.refl _) dn)
section
variable {X : Cx} {x : Str} {p pos : Pos} {e : Expr} {es : List Expr} {tl : DA} {id T : String} {r : List V → Hp → VK → Prop} {g : GB}
theorem q_cb (hc : CallR X (.builtin id) r) (m : MeansB K r g) (hg : Gl X x) (hm : X.mg x = none) (hv : bootBuiltins x = some (.builtin id)) (ha : PA X (e :: es) (upA K tl)) (hn : x ≠ "__name__" := by decide) (hdb : (x == ("__debug__" : Str)) = false := by decide)
    (he : starEach (e :: es) X.env = (false, eval e X.env) :: starEach es X.env := by rfl) (hpl : (backTo pos (starEach es X.env)).any (·.1) = false := by rfl) : PE X (.Call (.Name x p) (e :: es) [] pos) (up K (dCB g tl)) :=
  (pe_callB hc hg hm hv ha hn hdb he hpl).imp (cb_up m)
end
def gLen : GB := fun ds R => ∃ d es, ds = [d] ∧ seqOf d = some es ∧ R (.int es.length)
theorem mLen : MeansB K (fun xs H Q => ∃ p ys, xs = [.ref p] ∧ (SqL K H p ys ∨ SqT K H p ys) ∧ Q (.int ys.length) H) gLen := by
  rintro N H xs ds R Q w ⟨d, es, rfl, e1, hR⟩ hq
  cases w with
  | cons w1 w2 =>
    cases w2
    obtain ⟨a, vs, rfl, s, q⟩ := w1.seq e1
    refine ⟨a, vs, rfl, s, ?_⟩
    rw [q.len]
    exact hq _ _ hR (.int _)
def gMin : GB := fun ds R => ∃ i j, ds = [.int i, .int j] ∧ R (.int (if j < i then j else i))
theorem mMin : MeansB K (fun xs H Q => ∃ i j, xs = [.int i, .int j] ∧ Q (.int (if j < i then j else i)) H) gMin := by
  rintro N H xs ds R Q w ⟨i, j, rfl, hR⟩ hq
  cases w with
  | cons w1 w2 =>
    cases w2 with
    | cons w2 w3 =>
      cases w3
      exact ⟨i, j, by rw [w1.int, w2.int], hq _ _ hR (.int _)⟩
def boolOf : PyData → Option Bool
  | .bool i => some i
  | _ => none
def boolsOf : List PyData → Option (List Bool)
  | [] => some []
  | d :: ds => (boolOf d).bind fun i => (boolsOf ds).map (i :: ·)
theorem boolsOf_map : ∀ ns : List Bool, boolsOf (ns.map .bool) = some ns
  | [] => rfl
  | n :: ns => by rw [List.map_cons, boolsOf, boolsOf_map ns]; rfl
theorem boolsOf_some : ∀ {ds : List PyData} {ns : List Bool}, boolsOf ds = some ns → ds = ns.map .bool
  | [], ns, h => by cases h; rfl
  | d :: ds, ns, h => by
    unfold boolsOf at h
    cases d <;> simp [boolOf] at h
    obtain ⟨ms, h1, rfl⟩ := h
    rw [boolsOf_some h1]; rfl
theorem DNs.bools : ∀ {ns : List Bool} {v : List V}, DNs K N H v (ns.map .bool) → v = ns.map V.bl
  | [], _, .nil => rfl
  | n :: r, _, .cons h q => by
    cases h
    rw [q.bools]; rfl
def gAll : GB := fun ds R => ∃ es bs, ds = [.list es] ∧ boolsOf es = some bs ∧ R (.bool (bs.all id))
theorem mAll : MeansB K (fun xs H Q => ∃ (a : Addr) (bs : List Bool), xs = [.ref a] ∧ SqL K H a (bs.map V.bl) ∧ Q (.bl (bs.all id)) H) gAll := by
  rintro N H xs ds R Q w ⟨es, bs, rfl, e1, hR⟩ hq
  cases w with
  | cons w1 w2 =>
    cases w2
    obtain ⟨a, vs, rfl, s, q⟩ := w1.list
    rw [boolsOf_some e1] at q
    rw [q.bools] at s
    exact ⟨a, bs, rfl, s, hq _ _ hR (.bl _)⟩
def keepsOf (env : List Sl) : List Sl → Option (List PyData)
  | [] => some []
  | s :: ss => (keepOf env s).bind fun d => (keepsOf env ss).bind fun ds => some (d :: ds)
theorem Rel.kept (h : Rel K M P H0 σ0 σ env (ts ++ tt) H) (m : (v, s) ∈ tt) (e : keepOf env s = some d) : DN K (Nw M (ents σ env ts)) H v d := by
  have hE := h.e
  rw [ents_app] at hE
  have sub : ∀ b, Nw M (ents σ env ts) b → Nw M (ents σ env ts ++ tmp tt) b := fun b z => nw_app z
  have mm : ((some v, s) : Ent) ∈ ents σ env ts ++ tmp tt := List.mem_append_right _ (List.mem_map.mpr ⟨(v, s), m, rfl⟩)
  cases s with
  | fr d' =>
    cases e
    obtain ⟨v', e1, dn⟩ := hE.fr _ _ mm
    cases e1
    exact dn.to fun b _ _ z => sub b z
  | ow ds =>
    cases e
    obtain ⟨a, vs, e1, e2, dn, h0⟩ := hE.ow _ _ mm
    cases e1
    refine .lst (SnL.of e2 ?_) (dn.to fun b _ _ z => sub b z)
    rintro (z | z)
    · exact hE.mt a z h0
    · have nd := hE.nd
      rw [oas_app] at nd
      exact (List.nodup_append.mp nd).2.2 a z a (mem_oas.mpr ⟨_, List.mem_map.mpr ⟨_, m, rfl⟩, List.mem_singleton.mpr rfl⟩) rfl
  | tr S d' =>
    cases e
    obtain ⟨v', e1, ot, h0⟩ := hE.tr _ _ _ mm
    cases e1
    refine ot.dn sub fun a ha => ?_
    rintro (z | z)
    · exact hE.mt a z (h0 a ha)
    · have nd := hE.nd
      rw [oas_app] at nd
      exact (List.nodup_append.mp nd).2.2 a z a (mem_oas.mpr ⟨_, List.mem_map.mpr ⟨_, m, rfl⟩, by rw [own1_tr]; exact ha⟩) rfl
  | vw i =>
    have e : (env[i]?).bind slK = some d := e
    cases q : env[i]? with
    | none => rw [q] at e; cases e
    | some s' =>
      rw [q] at e
      cases s' with
      | fr d' =>
        cases e
        obtain ⟨x, e1, m1⟩ := h.slot q
        rw [ents_app] at m1
        obtain ⟨v', e2, dn⟩ := hE.fr _ _ m1
        have e3 := h.vw v i (List.mem_append_right _ m)
        rw [e1, e2] at e3
        cases e3
        exact dn.to fun b _ _ z => sub b z
      | _ => cases e
  | _ => cases e
theorem Rel.keptAll (h : Rel K M P H0 σ0 σ env (ts ++ tt) H) : ∀ {vs : List V} {ss : List Sl} {ds : List PyData}, vs.length = ss.length → (∀ p ∈ vs.zip ss, p ∈ tt) → keepsOf env ss = some ds → DNs K (Nw M (ents σ env ts)) H vs ds
  | [], [], _, _, _, e => by cases e; exact .nil
  | v :: vs, s :: ss, ds, hl, hm, e => by
    unfold keepsOf at e
    cases e1 : keepOf env s with
    | none => rw [e1] at e; cases e
    | some d =>
      rw [e1] at e
      cases e2 : keepsOf env ss with
      | none => rw [e2] at e; cases e
      | some ds' =>
        rw [e2] at e
        cases e
        exact .cons (h.kept (hm _ (by simp)) e1) (h.keptAll (by simpa using hl) (fun p hp => hm p (by simp [hp])) e2)
  | [], _ :: _, _, hl, _, _ => by simp at hl
  | _ :: _, [], _, hl, _, _ => by simp at hl
theorem Rel.newAddr (h : Rel K M P H0 σ0 σ env ts H) {p : Addr} (hp : H p = none) : ¬ Nw M (ents σ env ts) p := by
  rintro (z | z)
  · exact h.e.live p (h.e.mt p z) hp
  · obtain ⟨vs, q, _⟩ := h.e.own z
    rw [hp] at q
    cases q
theorem Rel.resTup (h : Rel K M P H0 σ0 σ env (ts ++ tt) H) {p : Addr} {vs : List V} {ds : List PyData} (hp : H p = none) (dns : DNs K (Nw M (ents σ env ts)) H vs ds) : Rel K M P H0 σ0 σ env (ts ++ [(.ref p, .fr (.tuple ds))]) (upd H p (.tup vs)) :=
  (h.drop.same (Same.new hp)).addFr (.tup (SnT.of upd_same (h.drop.newAddr hp)) (dns.keep (Keep.same (Same.new hp))))
section
variable {X : Cx} {x : Str} {p pos : Pos} {e : Expr} {es : List Expr} {tl : DA} {id T : String}
def dTup (t : DA) : DE := fun env R => t env fun ss env1 => ∃ ds, keepsOf env1 ss = some ds ∧ ss.length ≤ sizeLine ∧ R (.fr (.tuple ds)) env1
def dLst (t : DA) : DE := fun env R => t env fun ss env1 => ∃ ds, keepsOf env1 ss = some ds ∧ ss.length ≤ sizeLine ∧ R (.ow ds) env1
theorem q_tup {x1} (h : PA X es (upA K tl)) : PE X (.Tuple es x1 pos) (up K (dTup tl)) := (pe_tup h).imp fun σ H Q h => by
  obtain ⟨M, P, H0, σ0, env, ts, R, rel, ht, hq⟩ := h
  refine ⟨M, P, H0, σ0, env, ts, _, rel, ht, fun ss env1 vs H1 h1 hl rel1 => ?_⟩
  obtain ⟨ds, e, hz, hR⟩ := h1
  exact ⟨by omega, fun p hp => hq _ _ _ _ hR (rel1.resTup hp (rel1.keptAll hl (fun p hp => hp) e))⟩
theorem q_lst (h : PA X es (upA K tl)) : PE X (.List es pos) (up K (dLst tl)) := (pe_lst h).imp fun σ H Q h => by
  obtain ⟨M, P, H0, σ0, env, ts, R, rel, ht, hq⟩ := h
  refine ⟨M, P, H0, σ0, env, ts, _, rel, ht, fun ss env1 vs H1 h1 hl rel1 => ?_⟩
  obtain ⟨ds, e, hz, hR⟩ := h1
  exact ⟨by omega, fun p hp => hq _ _ _ _ hR (rel1.drop.addOw hp (rel1.keptAll hl (fun p hp => hp) e))⟩
end
end
end L2
namespace L2
open PySem PySem.Spec PyProof.Rows
def rCatS (K : PySem.W.Frag) : R2 := fun x y H Q => ∃ l b xs zs, x = .ref l ∧ y = .ref b ∧ SqL K H l xs ∧ SqL K H b zs ∧ xs.length + zs.length ≤ sizeLine ∧ ∀ p, H p = none → Q (.ref p) (upd H p (.lst (xs ++ zs)))
theorem op_catS {X : Cx} {K : PySem.W.Frag} (hK : X.K = K) : OpR X (binaryOp .Add) (rCatS K) := by
  subst hK
  intro pins s σ H x y v u Q I rx ry h
  obtain ⟨l, b, xs, zs, rfl, rfl, hH, hB, hz, q⟩ := h
  cases rx
  cases ry
  obtain ⟨its, r, ⟨⟨cls, dd, data, sl⟩, n, ho, hc, _, hd⟩, z⟩ := I.list hH
  obtain ⟨its2, r2, ⟨⟨cls2, dd2, data2, sl2⟩, n2, ho2, hc2, _, hd2⟩, z2⟩ := I.list hB
  simp only at hc hd hc2 hd2
  subst hc hd hc2 hd2
  have hl := r.length
  have hl2 := r2.length
  refine concat_meets ⟨_, ho, rfl⟩ ⟨_, ho2, rfl⟩ noFill_list_add seq_list_add PySem.F.slot_list_add PySem.F.entry_list_add (PySem.F.args_list_add_2 _ _) (list_addW l b its.toArray its2.toArray n n2 dd dd2 sl sl2 (by rw [List.size_toArray, List.size_toArray]; omega)) ⟨ho, ho2, ?_⟩
  have ea : its.toArray ++ its2.toArray = (its ++ its2).toArray := by simp
  rw [ea]
  exact ⟨.ref _, _, I.lnew (t' := s.toks) (r.append r2) (by rw [List.length_append]; omega), rfl, q _ I.fresh⟩
section
variable {K : PySem.W.Frag} {M P N : Addr → Prop} {H0 H H' : Hp} {σ0 σ : St} {env : List Sl} {ts tt : List (V × Sl)} {v : V} {s : Sl} {d : PyData}
variable {X : Cx} {x : Str} {p pos : Pos} {a b e : Expr} {es : List Expr} {ta tb : DE} {tl : DA}
def dOpL (g : PyData → PyData → (List PyData → Prop) → Prop) (ta tb : DE) : DE := fun env R => ta env fun s1 env1 => tb env1 fun s2 env2 => ∃ d1 d2, valOf env2 s1 = some d1 ∧ valOf env2 s2 = some d2 ∧ g d1 d2 fun ds => R (.ow ds) env2
def MeansL (K : PySem.W.Frag) (r : R2) (g : PyData → PyData → (List PyData → Prop) → Prop) : Prop := ∀ (N : Addr → Prop) (H : Hp) (x y : V) (d1 d2 : PyData) (R : List PyData → Prop) (Q : VK), Vw K N H x d1 → Vw K N H y d2 → g d1 d2 R →
  (∀ ds vs p, R ds → DNs K N H vs ds → H p = none → Q (.ref p) (upd H p (.lst vs))) → r x y H Q
theorem opL_up {r : R2} {g : PyData → PyData → (List PyData → Prop) → Prop} (m : MeansL K r g) : ∀ σ H Q, up K (dOpL g ta tb) σ H Q → tOp r (up K ta) (up K tb) σ H Q := fun σ H Q h => by
  obtain ⟨M, P, H0, σ0, env, ts, R, rel, ht, hq⟩ := h
  refine ⟨M, P, H0, σ0, env, ts, _, rel, ht, fun s1 env1 v1 H1 h1 rel1 => ⟨M, P, H0, σ0, env1, ts ++ [(v1, s1)], _, rel1, h1, fun s2 env2 v2 H2 h2 rel2 => ?_⟩⟩
  obtain ⟨d1, d2, e1, e2, g⟩ := h2
  refine m _ H2 v1 v2 d1 d2 _ Q (rel2.view (by simp) e1) (rel2.view (by simp) e2) g fun ds vs p hR dns hp => hq _ _ _ _ hR ?_
  have rel2' : Rel K M P H0 σ0 σ env2 (ts ++ [(v1, s1), (v2, s2)]) H2 := by simpa using rel2
  exact rel2'.resOw hp (by simpa using dns)
theorem q_opL {op : Operator} {r : R2} {g : PyData → PyData → (List PyData → Prop) → Prop} (ho : OpR X (binaryOp op) r) (m : MeansL K r g) (ha : PE X a (up K ta)) (hb : PE X b (up K tb)) : PE X (.BinOp a op b pos) (up K (dOpL g ta tb)) := (pe_op ho ha hb).imp (opL_up m)
def gCat : PyData → PyData → (List PyData → Prop) → Prop := fun d e R => ∃ xs ys, d = .list xs ∧ e = .list ys ∧ xs.length + ys.length ≤ sizeLine ∧ R (xs ++ ys)
theorem mCat : MeansL K (rCatS K) gCat := by
  rintro N H x y d e R Q w1 w2 ⟨xs, ys, rfl, rfl, hz, hR⟩ hq
  obtain ⟨a1, v1, rfl, s1, q1⟩ := w1.list
  obtain ⟨a2, v2, rfl, s2, q2⟩ := w2.list
  exact ⟨a1, a2, v1, v2, rfl, rfl, s1, s2, by rw [q1.len, q2.len]; exact hz, fun p hp => hq _ _ p hR (q1.app q2) hp⟩
def dCatT (ta tb : DE) : DE := fun env R => ta env fun s1 env1 => tb env1 fun s2 env2 => ∃ xs ys, valOf env2 s1 = some (.tuple xs) ∧ valOf env2 s2 = some (.tuple ys) ∧ xs.length + ys.length ≤ sizeLine ∧ R (.fr (.tuple (xs ++ ys))) env2
theorem q_catT (hK : X.K = K) (ha : PE X a (up K ta)) (hb : PE X b (up K tb)) : PE X (.BinOp a .Add b pos) (up K (dCatT ta tb)) := (pe_op (kCatA (K := K) hK) ha hb).imp fun σ H Q h => by
  obtain ⟨M, P, H0, σ0, env, ts, R, rel, ht, hq⟩ := h
  refine ⟨M, P, H0, σ0, env, ts, _, rel, ht, fun s1 env1 v1 H1 h1 rel1 => ⟨M, P, H0, σ0, env1, ts ++ [(v1, s1)], _, rel1, h1, fun s2 env2 v2 H2 h2 rel2 => ?_⟩⟩
  obtain ⟨xs, ys, e1, e2, hz, hR⟩ := h2
  have w1 := rel2.view (v := v1) (by simp) e1
  have w2 := rel2.view (v := v2) (by simp) e2
  have rel2' : Rel K M P H0 σ0 σ env2 (ts ++ [(v1, s1), (v2, s2)]) H2 := by simpa using rel2
  have ee : ts ++ [(v1, s1)] ++ [(v2, s2)] = ts ++ [(v1, s1), (v2, s2)] := by simp
  rw [ee] at w1 w2
  obtain ⟨a1, u1, rfl, t1, q1⟩ := w1.tuple
  obtain ⟨a2, u2, rfl, t2, q2⟩ := w2.tuple
  refine ⟨a1, a2, u1, u2, rfl, rfl, t1, t2, by rw [q1.len, q2.len]; exact hz, fun z => ?_, fun _ z => ?_, fun _ _ p hp => ?_⟩
  · subst z
    have : xs = [] := by
      have := q1.len
      exact List.eq_nil_of_length_eq_zero this.symm
    subst this
    cases w2 with
    | dn dn => exact hq _ _ _ _ hR (rel2'.res (Same.refl _) dn)
  · subst z
    have : ys = [] := by
      have := q2.len
      exact List.eq_nil_of_length_eq_zero this.symm
    subst this
    rw [List.append_nil] at hR
    cases w1 with
    | dn dn => exact hq _ _ _ _ hR (rel2'.res (Same.refl _) dn)
  · exact hq _ _ _ _ hR (rel2'.resTup hp ((q1.app q2).to fun b _ _ z => by rw [ents_app]; exact nw_app z))
abbrev DO := List Sl → (Option Int → List Sl → Prop) → Prop
def upO (K : PySem.W.Frag) (t : DO) : TO := fun σ H Q => ∃ (M P : Addr → Prop) (H0 : Hp) (σ0 : St) (env : List Sl) (ts : List (V × Sl)) (R : Option Int → List Sl → Prop), Rel K M P H0 σ0 σ env ts H ∧ t env R ∧
  ∀ o env' H', R o env' → Rel K M P H0 σ0 σ env' ts H' → Q o H'
theorem PO.imp {e : Option Expr} {t t' : TO} (h : PO X e t) (k : ∀ σ H Q, t' σ H Q → t σ H Q) : PO X e t' := fun pins s σ H Q I hw => h pins s σ H Q I (k σ H Q hw)
def dNoPart : DO := fun env R => R none env
def dPart (t : DE) : DO := fun env R => t env fun s env1 => ∃ i, valOf env1 s = some (.int i) ∧ R (some i) env1
theorem qo_none : PO X none (upO K dNoPart) := po_none.imp fun σ H Q h => by
  obtain ⟨M, P, H0, σ0, env, ts, R, rel, ht, hq⟩ := h
  exact hq _ _ _ ht rel
theorem qo_some (h : PE X e (up K ta)) : PO X (some e) (upO K (dPart ta)) := (po_some h).imp fun σ H Q h => by
  obtain ⟨M, P, H0, σ0, env, ts, R, rel, ht, hq⟩ := h
  refine ⟨M, P, H0, σ0, env, ts, _, rel, ht, fun s1 env1 v1 H1 h1 rel1 => ?_⟩
  obtain ⟨i, e1, hR⟩ := h1
  exact ⟨i, (rel1.view (by simp) e1).int, hq _ _ _ hR rel1.drop⟩
def cutD {α : Type} (xs : List α) (lo hi : Option Int) : List α := (xs.drop (HT.sIx xs.length 0 lo)).take (HT.sIx xs.length xs.length hi - HT.sIx xs.length 0 lo)
theorem DNs.drop : ∀ {vs : List V} {ds : List PyData} (n : Nat), DNs K N H vs ds → DNs K N H (vs.drop n) (ds.drop n)
  | _, _, 0, q => q
  | _, _, _ + 1, .nil => .nil
  | _, _, n + 1, .cons _ q => q.drop n
theorem DNs.take : ∀ {vs : List V} {ds : List PyData} (n : Nat), DNs K N H vs ds → DNs K N H (vs.take n) (ds.take n)
  | _, _, 0, _ => .nil
  | _, _, _ + 1, .nil => .nil
  | _, _, n + 1, .cons h q => .cons h (q.take n)
theorem DNs.cut {vs : List V} {ds : List PyData} (q : DNs K N H vs ds) (lo hi : Option Int) : DNs K N H (cutV vs lo hi) (cutD ds lo hi) := by
  unfold cutV cutD
  rw [q.len]
  exact (q.drop _).take _
def dSlL (te : DE) (tl th : DO) : DE := fun env R => te env fun s env1 => tl env1 fun l env2 => th env2 fun h env3 => ∃ ds, valOf env3 s = some (.list ds) ∧ R (.ow (cutD ds l h)) env3
variable {lo hi : Option Expr} {tlo thi : DO} {p2 : Pos}
theorem q_slL (hK : X.K = K) (he : PE X e (up K ta)) (hl : PO X lo (upO K tlo)) (hu : PO X hi (upO K thi)) : PE X (.Subscript e (.Slice lo hi none p2) pos) (up K (dSlL ta tlo thi)) := (pe_slice (kSlL (K := K) hK) he hl hu).imp fun σ H Q h => by
  obtain ⟨M, P, H0, σ0, env, ts, R, rel, ht, hq⟩ := h
  refine ⟨M, P, H0, σ0, env, ts, _, rel, ht, fun s1 env1 v1 H1 h1 rel1 => ⟨M, P, H0, σ0, env1, ts ++ [(v1, s1)], _, rel1, h1, fun l env2 H2 h2 rel2 => ⟨M, P, H0, σ0, env2, ts ++ [(v1, s1)], _, rel2, h2, fun u env3 H3 h3 rel3 => ?_⟩⟩⟩
  obtain ⟨ds, e1, hR⟩ := h3
  obtain ⟨a, vs, rfl, sq, q⟩ := (rel3.view (v := v1) (by simp) e1).list
  exact ⟨a, vs, rfl, sq, fun p hp => hq _ _ _ _ hR (rel3.resOw hp (q.cut l u))⟩
def dListOf (t : DA) : DE := fun env R => t env fun ss env1 => ∃ s d ds, ss = [s] ∧ valOf env1 s = some d ∧ seqOf d = some ds ∧ R (.ow ds) env1
theorem q_listOf (hK : X.K = K) (hg : Gl X "list") (hm : X.mg "list" = none) (ha : PA X [e] (upA K tl)) (he : starEach [e] X.env = [(false, eval e X.env)] := by rfl) : PE X (.Call (.Name "list" p) [e] [] pos) (up K (dListOf tl)) :=
  (pe_callTy (kList (K := K) hK) hg hm PyProof.Rows.boot_list ha (by decide) (by decide) he rfl).imp fun σ H Q h => by
  obtain ⟨M, P, H0, σ0, env, ts, R, rel, ht, hq⟩ := h
  refine ⟨M, P, H0, σ0, env, ts, _, rel, ht, fun ss env1 vs H1 h1 hl rel1 => ?_⟩
  obtain ⟨s, d, ds, rfl, e1, e2, hR⟩ := h1
  match vs, hl with
  | [v], _ =>
    obtain ⟨a, us, rfl, sq, q⟩ := (rel1.view (v := v) (by simp) e1).seq e2
    exact ⟨a, us, rfl, sq, fun l hl' => hq _ _ _ _ hR (rel1.resOw hl' q)⟩
def dTupOf (t : DA) : DE := fun env R => t env fun ss env1 => ∃ s d ds, ss = [s] ∧ valOf env1 s = some d ∧ seqOf d = some ds ∧ R (.fr (.tuple ds)) env1
theorem q_tupOf (hK : X.K = K) (hg : Gl X "tuple") (hm : X.mg "tuple" = none) (ha : PA X [e] (upA K tl)) (he : starEach [e] X.env = [(false, eval e X.env)] := by rfl) : PE X (.Call (.Name "tuple" p) [e] [] pos) (up K (dTupOf tl)) :=
  (pe_callTy (kTuple (K := K) hK) hg hm PyProof.Rows.boot_tuple ha (by decide) (by decide) he rfl).imp fun σ H Q h => by
  obtain ⟨M, P, H0, σ0, env, ts, R, rel, ht, hq⟩ := h
  refine ⟨M, P, H0, σ0, env, ts, _, rel, ht, fun ss env1 vs H1 h1 hl rel1 => ?_⟩
  obtain ⟨s, d, ds, rfl, e1, e2, hR⟩ := h1
  match vs, hl with
  | [v], _ =>
    have w := rel1.view (v := v) (by simp) e1
    cases d <;> simp [seqOf] at e2
    · subst e2
      obtain ⟨a, us, rfl, sq, q⟩ := w.list
      exact ⟨a, us, rfl, .inl ⟨sq, fun l hl' => hq _ _ _ _ hR (rel1.resTup hl' (q.to fun b _ _ z => by rw [ents_app]; exact nw_app z))⟩⟩
    · subst e2
      obtain ⟨a, us, rfl, sq, q⟩ := w.tuple
      refine ⟨a, us, rfl, .inr ⟨sq, hq _ _ _ _ hR ?_⟩⟩
      cases w with
      | dn dn => exact rel1.res (Same.refl _) dn
def setSl : Sl → List PyData → Option Sl
  | .ow _, ds => some (.ow ds)
  | .io _, ds => some (.io ds)
  | _, _ => none
def ownD : Sl → Option (List PyData)
  | .ow ds => some ds
  | .io ds => some ds
  | _ => none
theorem Rel.mut {i : Nat} {s s' : Sl} {ds ds' : List PyData} (h : Rel K M P H0 σ0 σ env ts H) (e : env[i]? = some s) (es : setSl s ds' = some s') {a : Addr} (ea : σ[i]? = some (some (.ref a))) {vs' : List V} (dns : DNs K (Nw M (ents σ env ts)) H vs' ds') :
    Rel K M P H0 σ0 σ (env.set i s') ts (upd H a (.lst vs')) := by
  obtain ⟨x, A, B, e1, q1, q2⟩ := h.split e
  rw [ea] at e1
  cases e1
  have r := h.e
  rw [q1] at r dns
  refine ⟨by rw [q2]; exact r.mut (by cases s <;> simp [setSl] at es <;> (subst es; rfl)) dns, by simp [h.len], h.vw, fun j ds'' e' => ?_⟩
  by_cases hj : i = j
  · subst hj
    have hi : i < env.length := (List.getElem?_eq_some_iff.mp e).1
    rw [List.getElem?_set_self hi] at e'
    cases e'
    cases s with
    | io ds0 => exact h.ios i ds0 e
    | _ => simp [setSl] at es
  · rw [List.getElem?_set_ne hj] at e'
    exact h.ios j ds'' e'
theorem Rel.mine {i : Nat} {s : Sl} {ds : List PyData} (h : Rel K M P H0 σ0 σ env ts H) (e : env[i]? = some s) (eo : ownD s = some ds) : ∃ a vs, σ[i]? = some (some (.ref a)) ∧ H a = some (.lst vs) ∧ DNs K (Nw M (ents σ env ts)) H vs ds := by
  obtain ⟨x, e1, m⟩ := h.slot e
  cases s with
  | ow d =>
    cases eo
    obtain ⟨a, vs, z, q1, q2, _⟩ := h.e.ow _ _ m
    subst z
    exact ⟨a, vs, e1, q1, q2⟩
  | io d =>
    cases eo
    obtain ⟨a, vs, z, q1, q2, _⟩ := h.e.io _ _ m
    subst z
    exact ⟨a, vs, e1, q1, q2⟩
  | _ => cases eo
def dApp (i : Nat) (te : DE) : DE := fun env R => (∃ ds, (env[i]?).bind ownD = some ds) ∧ te env fun s env1 => ∃ d s0 ds s', keepOf env1 s = some d ∧ env1[i]? = some s0 ∧ ownD s0 = some ds ∧ ds.length < sizeLine ∧ setSl s0 (ds ++ [d]) = some s' ∧ R (.fr .none) (env1.set i s')
theorem bind_own {i : Nat} {ds : List PyData} (h : (env[i]?).bind ownD = some ds) : ∃ s, env[i]? = some s ∧ ownD s = some ds := by
  cases e : env[i]? with
  | none => rw [e] at h; cases h
  | some s => rw [e] at h; exact ⟨s, rfl, h⟩
theorem q_app (i : Nat) {y : Str} {apos cpos npos : Pos} (hK : X.K = K) (hN : X.N[i]? = some y) (ha : PE X e (up K ta))
    (hv : Vis X.env.scope y := by first | exact Or.inl rfl | exact Or.inr (Or.inl rfl) | exact Or.inr (Or.inr rfl)) (hd : (y == ("__debug__" : Str)) = false := by decide)
    (hcd : (y == ("__classdict__" : Str)) = false := by decide)
    (hs0 : starEach [e] X.env = [(false, eval e X.env)] := by rfl)
    (hbase : attributeBase (.Name y npos) "append" X.env (eval (.Name y npos) X.env) = eval (.Name y npos) X.env := by rfl)
    (hfew : ((backTo cpos (starEach [e] X.env)).all (fun x => !x.1) && (backToKw cpos (keywordEach [] X.env)).all (fun x => x.1.isSome) && decide ([e].length + ([] : List Keyword).length + (if ([] : List Keyword).isEmpty then 0 else 1) < 30)) = true := by rfl)
    (hline : (apos.endLine == cpos.line) = true := by rfl) (hplain : (backTo cpos (starEach [] X.env)).any (·.1) = false := by rfl) :
    PE X (.Call (.Attribute (.Name y npos) "append" apos) [e] [] cpos) (up K (dApp i ta)) :=
  (kBm (K := K) hK PySem.F.plainAttrs_list PySem.F.slot_list_append PySem.F.type_list_append mt_append (pe_var hN hv hd hcd) (pa_cons ha pa_nil hs0) hbase hfew hline hs0 hplain).imp fun σ H Q h => by
  obtain ⟨M, P, H0, σ0, env, ts, R, rel, ⟨⟨ds0, h0⟩, ht⟩, hq⟩ := h
  obtain ⟨s0, e0, o0⟩ := bind_own h0
  obtain ⟨a, vs, ea, hH, _⟩ := rel.mine e0 o0
  refine ⟨.ref a, ea, .inl ⟨rfl, vs, SqL.of hH⟩, M, P, H0, σ0, env, ts, _, rel, ht, fun s1 env1 v1 H1 h1 rel1 => ?_⟩
  obtain ⟨d, s2, ds, s', k, e2, o2, hz, es, hR⟩ := h1
  obtain ⟨a', us, ea', hH', q⟩ := rel1.drop.mine e2 o2
  rw [ea] at ea'
  cases ea'
  refine ⟨a, us, v1, rfl, rfl, hH', by rw [q.len]; exact hz, ?_⟩
  have dn := rel1.kept (v := v1) (s := s1) (by simp) k
  exact hq _ _ _ _ hR ((rel1.drop.mut (ds := ds) e2 es ea (q.app (.cons dn .nil))).addFr .non)
def dPop (i : Nat) : DE := fun env R => ∃ s0 ds d s', env[i]? = some s0 ∧ ownD s0 = some ds ∧ ds.getLast? = some d ∧ setSl s0 ds.dropLast = some s' ∧ R (.fr d) (env.set i s')
theorem DNs.dropLast : ∀ {vs : List V} {ds : List PyData}, DNs K N H vs ds → DNs K N H vs.dropLast ds.dropLast := fun {vs ds} q => by
  rw [List.dropLast_eq_take, List.dropLast_eq_take, q.len]
  exact q.take _
theorem q_pop (i : Nat) {y : Str} {apos cpos npos : Pos} (hK : X.K = K) (hN : X.N[i]? = some y)
    (hv : Vis X.env.scope y := by first | exact Or.inl rfl | exact Or.inr (Or.inl rfl) | exact Or.inr (Or.inr rfl)) (hd : (y == ("__debug__" : Str)) = false := by decide)
    (hcd : (y == ("__classdict__" : Str)) = false := by decide)
    (hbase : attributeBase (.Name y npos) "pop" X.env (eval (.Name y npos) X.env) = eval (.Name y npos) X.env := by rfl) (hline : (apos.endLine == cpos.line) = true := by rfl) :
    PE X (.Call (.Attribute (.Name y npos) "pop" apos) [] [] cpos) (up K (dPop i)) :=
  (kBm0 (K := K) hK PySem.F.plainAttrs_list PySem.F.slot_list_pop PySem.F.type_list_pop mt_pop (pe_var hN hv hd hcd) hbase hline).imp fun σ H Q h => by
  obtain ⟨M, P, H0, σ0, env, ts, R, rel, ⟨s0, ds, d, s', e0, o0, hl, es, hR⟩, hq⟩ := h
  obtain ⟨a, vs, ea, hH, q⟩ := rel.mine e0 o0
  have hn : ds.length - 1 < ds.length := by
    cases ds with
    | nil => simp at hl
    | cons z r => simp
  rw [List.getLast?_eq_getElem?] at hl
  have hlt : vs.length - 1 < vs.length := by rw [q.len]; exact hn
  obtain ⟨d', h1, dn⟩ := q.get (List.getElem?_eq_getElem hlt)
  rw [q.len, hl] at h1
  cases h1
  refine ⟨.ref a, ea, .inl ⟨rfl, vs, SqL.of hH⟩, a, vs, vs[vs.length - 1], rfl, rfl, hH, List.getElem?_eq_getElem hlt, ?_⟩
  have rel2 := rel.addFr dn
  have m := rel2.mut (ds := ds) (vs' := vs.dropLast) (ds' := ds.dropLast) e0 es ea (by
    have : Nw M (ents σ env (ts ++ [(vs[vs.length - 1], Sl.fr d)])) = Nw M (ents σ env ts) := by
      rw [ents_app]
      unfold Nw
      have : oas (ents σ env ts ++ tmp [(vs[vs.length - 1], Sl.fr d)]) = oas (ents σ env ts) := by
        rw [oas_app]
        have : oas (tmp [(vs[vs.length - 1], Sl.fr d)]) = [] := by
          show oas [(some vs[vs.length - 1], Sl.fr d)] = []
          rw [oas_cons]
          cases vs[vs.length - 1] <;> rfl
        rw [this, List.append_nil]
      rw [this]
    rw [this]
    exact q.dropLast)
  exact hq _ _ _ _ hR m
end
end L2
namespace L2
open PySem PySem.Spec PyProof.Rows
section
variable {K : PySem.W.Frag} {M P N : Addr → Prop} {H0 H H' : Hp} {E A B : List Ent} {σ0 σ : St} {env : List Sl} {ts tt : List (V × Sl)} {v : V} {s : Sl} {d : PyData}
theorem RelE.muted {a : Addr} {s s' : Sl} {vs' : List V} {ds' : List PyData} (h : RelE K M P H0 (A ++ (some (.ref a), s) :: B) H) (hs : isOw s ds' s') (k : Keep (fun b => b = a) H H') (lv : ∀ b, H b ≠ none → H' b ≠ none)
    (ha : H' a = some (.lst vs')) (dns : DNs K (Nw M (A ++ (some (.ref a), s) :: B)) H' vs' ds') : RelE K M P H0 (A ++ (some (.ref a), s') :: B) H' := by
  have oa : own1 (some (.ref a), s) = [a] ∧ own1 (some (.ref a), s') = [a] := by
    cases s <;> first | exact hs.elim | (cases hs; exact ⟨rfl, rfl⟩)
  have oe : oas (A ++ (some (.ref a), s) :: B) = oas A ++ a :: oas B := by rw [oas_app, oas_cons, oa.1]; rfl
  have oe' : oas (A ++ (some (.ref a), s') :: B) = oas A ++ a :: oas B := by rw [oas_app, oas_cons, oa.2]; rfl
  have ne : Nw M (A ++ (some (.ref a), s') :: B) = Nw M (A ++ (some (.ref a), s) :: B) := by unfold Nw; rw [oe, oe']
  have na : Nw M (A ++ (some (.ref a), s) :: B) a := .inr (by rw [oe]; simp)
  have nd := h.nd
  rw [oe] at nd
  obtain ⟨n1, n2, n3⟩ := List.nodup_append.mp nd
  obtain ⟨n4, n5⟩ := List.nodup_cons.mp n2
  have kN : Keep (Nw M (A ++ (some (.ref a), s) :: B)) H H' := k.mono fun b z => by rw [z]; exact na
  obtain ⟨ws, hw, hP⟩ := h.own (a := a) (by rw [oe]; simp)
  have other : ∀ x t b, (x, t) ∈ A ∨ (x, t) ∈ B → b ∈ own1 (x, t) → b ≠ a := fun x t b m eo z => by
    subst z
    rcases m with m | m
    · exact n3 b (mem_oas.mpr ⟨_, m, eo⟩) b List.mem_cons_self rfl
    · exact n4 (mem_oas.mpr ⟨_, m, eo⟩)
  have old : ∀ x t, (x, t) ∈ A ++ (some (.ref a), s') :: B → (x, t) = (some (.ref a), s') ∨ ((x, t) ∈ A ∨ (x, t) ∈ B) := fun x t m => by
    rcases List.mem_append.mp m with m | m
    · exact .inr (.inl m)
    · rcases List.mem_cons.mp m with m | m
      · exact .inl m
      · exact .inr (.inr m)
  have back : ∀ x t, (x, t) ∈ A ∨ (x, t) ∈ B → (x, t) ∈ A ++ (some (.ref a), s) :: B := fun x t m => by
    rcases m with m | m
    · exact List.mem_append_left _ m
    · exact List.mem_append_right _ (List.mem_cons_of_mem _ m)
  have me : (some (.ref a), s) ∈ A ++ (some (.ref a), s) :: B := List.mem_append_right _ List.mem_cons_self
  refine ⟨?_, fun b q => lv b (h.live b q), h.mt, h.pm, fun x d m => ?_, fun x d m => ?_, fun x d m => ?_, fun x S d m => ?_, by rw [oe']; exact nd⟩
  rotate_right
  · rw [ne]
    rcases old _ _ m with m | m
    · cases s <;> first | exact hs.elim | (have hs : s' = _ := hs; rw [hs] at m; cases m)
    · obtain ⟨v, e, dn, r⟩ := h.tr x S d (back _ _ m)
      subst e
      refine ⟨v, rfl, dn.keep kN fun b hb => ?_, r⟩
      obtain ⟨xs, z⟩ := dn.lives b hb
      rw [k _ _ (other _ _ b m (by rw [own1_tr]; exact hb)) z, z]
  · intro b o np e
    by_cases hb : b = a
    · subst hb
      rcases hP with q | q
      · rw [q] at e; cases e
      · exact absurd q np
    · exact k b o hb (h.keep b o np e)
  · rw [ne]
    rcases old _ _ m with m | m
    · cases s <;> first | exact hs.elim | (have hs : s' = _ := hs; rw [hs] at m; cases m)
    · obtain ⟨v, e, dn⟩ := h.fr x d (back _ _ m)
      exact ⟨v, e, dn.keep kN⟩
  · rw [ne]
    rcases old _ _ m with m | m
    · cases s with
      | ow ds =>
        have hs : s' = _ := hs
        rw [hs] at m
        cases m
        obtain ⟨b, us, e, e2, dn, r⟩ := h.ow _ _ me
        cases e
        exact ⟨a, vs', rfl, ha, dns, r⟩
      | io ds => have hs : s' = _ := hs; rw [hs] at m; cases m
      | _ => exact hs.elim
    · obtain ⟨b, us, e, e2, dn, r⟩ := h.ow x d (back _ _ m)
      subst e
      exact ⟨b, us, rfl, k _ _ (other _ _ b m (List.mem_singleton.mpr rfl)) e2, dn.keep kN, r⟩
  · rw [ne]
    rcases old _ _ m with m | m
    · cases s with
      | io ds =>
        have hs : s' = _ := hs
        rw [hs] at m
        cases m
        obtain ⟨b, us, e, e2, dn, r⟩ := h.io _ _ me
        cases e
        exact ⟨a, vs', rfl, ha, dns, r⟩
      | ow ds => have hs : s' = _ := hs; rw [hs] at m; cases m
      | _ => exact hs.elim
    · obtain ⟨b, us, e, e2, dn, r⟩ := h.io x d (back _ _ m)
      subst e
      exact ⟨b, us, rfl, k _ _ (other _ _ b m (List.mem_singleton.mpr rfl)) e2, dn.keep kN, r⟩
end
abbrev DSp := List Sl → (Sl → List Sl → Prop) → Prop
def isRes : Sl → Bool
  | .fr _ => true
  | .ow _ => true
  | .tr _ _ => true
  | _ => false
def ioOf (vs : List V) (ss : List Sl) : Addr → Prop := fun a => a ∈ oas (tmp (vs.zip ss))
def spD (K : PySem.W.Frag) (sp : DSp) : Sp := fun vs H Q _ => ∃ (M : Addr → Prop) (ss : List Sl) (R : Sl → List Sl → Prop), vs.length = ss.length ∧ RelE K M (ioOf vs ss) H (tmp (vs.zip ss)) H ∧ sp ss R ∧
  ∀ r ss' v H', R r ss' → isRes r = true → RelE K M (ioOf vs ss) H (tmp ((v, r) :: vs.zip ss')) H' → Q v H'
section
variable {K : PySem.W.Frag} {M P N : Addr → Prop} {H0 H H' : Hp} {E A B : List Ent} {σ0 σ : St} {env : List Sl} {ts tt : List (V × Sl)} {v : V} {s : Sl} {d : PyData}
theorem oas_fr : ∀ (vs : List V) (ds : List PyData), oas (tmp (vs.zip (ds.map Sl.fr))) = []
  | [], _ => by simp [oas, tmp]
  | _ :: _, [] => by simp [oas, tmp]
  | v :: vs, d :: ds => by
    show oas ((some v, Sl.fr d) :: tmp (vs.zip (ds.map Sl.fr))) = []
    rw [oas_cons, own1_fr, oas_fr vs ds]
    rfl
theorem mem_frs : ∀ {vs : List V} {ds : List PyData} {x : Option V} {s : Sl}, DNs K N H vs ds → (x, s) ∈ tmp (vs.zip (ds.map Sl.fr)) → ∃ v d, x = some v ∧ s = .fr d ∧ DN K N H v d
  | _, _, _, _, .nil, m => by simp [tmp] at m
  | _, _, x, s, @DNs.cons _ _ _ v vs d ds h q, m => by
    have m : (x, s) ∈ (some v, Sl.fr d) :: tmp (vs.zip (ds.map Sl.fr)) := m
    rcases List.mem_cons.mp m with m | m
    · cases m; exact ⟨v, d, rfl, rfl, h⟩
    · exact mem_frs q m
inductive ResOk (K : PySem.W.Frag) (N : Addr → Prop) (Hc H' : Hp) : V → Sl → Prop
  | fr {v : V} {d : PyData} : DN K N H' v d → ResOk K N Hc H' v (.fr d)
  | ow {a : Addr} {vs : List V} {ds : List PyData} : H' a = some (.lst vs) → DNs K (fun b => N b ∨ b = a) H' vs ds → Hc a = none → ¬ N a → ResOk K N Hc H' (.ref a) (.ow ds)
  | tr {v : V} {d : PyData} {S : List Addr} : OT K (fun b => N b ∨ b ∈ S) H' v d S → (∀ a ∈ S, Hc a = none ∧ ¬ N a) → S.Nodup → ResOk K N Hc H' v (.tr S d)
theorem RelE.resOk {Hc : Hp} {Pc : Addr → Prop} {r : Sl} {T : List Ent} (hc : RelE K N Pc Hc ((some v, r) :: T) H') (hr : isRes r = true) : ResOk K N Hc H' v r := by
  cases r with
  | fr d =>
    obtain ⟨w, e, dn⟩ := hc.fr _ _ List.mem_cons_self
    cases e
    exact .fr (dn.to fun b _ _ z => .inl z)
  | ow ds =>
    obtain ⟨a, vs, e, ha, dns, hn⟩ := hc.ow _ _ List.mem_cons_self
    cases e
    refine .ow ha (dns.to fun b _ _ z => ?_) hn fun z => hc.mt a z hn
    rcases z with z | z
    · exact .inl z
    · rw [z]
      exact .inr (by rw [oas_cons]; simp [own1])
  | tr S d =>
    obtain ⟨w, e, ot, hn⟩ := hc.tr _ _ _ List.mem_cons_self
    cases e
    refine .tr (ot.to fun b _ _ z => ?_) (fun a ha => ⟨hn a ha, fun z => hc.mt a z (hn a ha)⟩) ?_
    · rcases z with z | z
      · exact .inl z
      · exact .inr (by rw [oas_cons, own1_tr]; exact List.mem_append_left _ z)
    · have nd := hc.nd
      rw [oas_cons, own1_tr] at nd
      exact (List.nodup_append.mp nd).1
  | _ => cases hr
theorem ResOk.to {Hc : Hp} {r : Sl} {N2 : Addr → Prop} (h : ResOk K N Hc H' v r) (m : ∀ b, N2 b → N b) : ResOk K N2 Hc H' v r := by
  cases h with
  | fr dn => exact .fr (dn.to fun b _ _ z => m b z)
  | ow ha dns hn nn => exact .ow ha (dns.to fun b _ _ z => z.elim (fun z => .inl (m b z)) .inr) hn fun z => nn (m _ z)
  | tr ot hn nd => exact .tr (ot.to fun b _ _ z => z.elim (fun z => .inl (m b z)) .inr) (fun a ha => ⟨(hn a ha).1, fun z => (hn a ha).2 (m a z)⟩) nd
theorem RelE.getRes {r : Sl} (h : RelE K M P H0 E H') {Hc : Hp} (hlive : ∀ b, H0 b ≠ none → Hc b ≠ none) (hres : ResOk K (Nw M E) Hc H' v r)
    (frs : ∀ x d, (x, Sl.fr d) ∈ E → ∃ w, x = some w ∧ DN K (fun b => Nw M E b ∨ (b ∈ own1 (some v, r) ∧ Hc b = none)) H' w d)
    (its : ∀ x s ds, (x, s) ∈ E → ownD s = some ds → ∃ a vs, x = some (.ref a) ∧ H' a = some (.lst vs) ∧ DNs K (fun b => Nw M E b ∨ (b ∈ own1 (some v, r) ∧ Hc b = none)) H' vs ds)
    (ots : ∀ x S d, (x, Sl.tr S d) ∈ E → ∃ w, x = some w ∧ OT K (fun b => Nw M E b ∨ (b ∈ own1 (some v, r) ∧ Hc b = none)) H' w d S) : RelE K M P H0 (E ++ [(some v, r)]) H' := by
  have hown : ∀ b ∈ own1 (some v, r), Hc b = none ∧ ¬ Nw M E b := by
    cases hres with
    | fr dn => intro b hb; rw [own1_fr] at hb; cases hb
    | ow ha dns hn nN => intro b hb; rw [List.mem_singleton.mp hb]; exact ⟨hn, nN⟩
    | tr ot hn nd => intro b hb; rw [own1_tr] at hb; exact hn b hb
  have hnod : (own1 (some v, r)).Nodup := by
    cases hres with
    | fr dn => rw [own1_fr]; exact List.nodup_nil
    | ow ha dns hn nN => exact List.nodup_cons.mpr ⟨by simp, List.nodup_nil⟩
    | tr ot hn nd => rw [own1_tr]; exact nd
  have oe : oas (E ++ [(some v, r)]) = oas E ++ own1 (some v, r) := by
    rw [oas_app, oas_cons]
    simp [oas]
  have up : ∀ b, Nw M (E ++ [(some v, r)]) b → Nw M E b ∨ b ∈ own1 (some v, r) := fun b z => by
    rcases z with z | z
    · exact .inl (.inl z)
    · rw [oe] at z
      rcases List.mem_append.mp z with z | z
      · exact .inl (.inr z)
      · exact .inr z
  have up2 : ∀ b, Nw M (E ++ [(some v, r)]) b → Nw M E b ∨ (b ∈ own1 (some v, r) ∧ Hc b = none) := fun b z => (up b z).elim .inl fun z => .inr ⟨z, (hown b z).1⟩
  have h0 : ∀ b, Hc b = none → H0 b = none := fun b hn => by
    cases e : H0 b with
    | none => rfl
    | some o => exact absurd hn (hlive b (by rw [e]; simp))
  refine ⟨h.keep, h.live, h.mt, h.pm, fun x d' m => ?_, fun x d' m => ?_, fun x d' m => ?_, fun x S d' m => ?_, ?_⟩
  · rcases List.mem_append.mp m with m | m
    · obtain ⟨w, e, dn⟩ := frs x d' m
      exact ⟨w, e, dn.to fun b _ _ z => up2 b z⟩
    · rw [List.mem_singleton] at m
      cases m
      cases hres with
      | fr dn => exact ⟨v, rfl, dn.to fun b _ _ z => (up b z).elim id fun z => by rw [own1_fr] at z; cases z⟩
  · rcases List.mem_append.mp m with m | m
    · obtain ⟨b, us, e, e2, dn⟩ := its x _ d' m rfl
      obtain ⟨b', us', e', e2', _, r⟩ := h.ow x d' m
      rw [e] at e'
      cases e'
      exact ⟨b, us, e, e2, dn.to fun b _ _ z => up2 b z, r⟩
    · rw [List.mem_singleton] at m
      cases m
      cases hres with
      | ow ha dns hn nN => exact ⟨_, _, rfl, ha, dns.to fun b _ _ z => (up b z).elim .inl fun z => .inr (List.mem_singleton.mp z), h0 _ hn⟩
  · rcases List.mem_append.mp m with m | m
    · obtain ⟨b, us, e, e2, dn⟩ := its x _ d' m rfl
      obtain ⟨b', us', e', e2', _, r⟩ := h.io x d' m
      rw [e] at e'
      cases e'
      exact ⟨b, us, e, e2, dn.to fun b _ _ z => up2 b z, r⟩
    · rw [List.mem_singleton] at m
      cases m
      cases hres
  · rcases List.mem_append.mp m with m | m
    · obtain ⟨w, e, dn⟩ := ots x S d' m
      obtain ⟨w', e', _, r⟩ := h.tr x S d' m
      exact ⟨w, e, dn.to fun b _ _ z => up2 b z, r⟩
    · rw [List.mem_singleton] at m
      cases m
      cases hres with
      | tr ot hn nd => exact ⟨v, rfl, ot.to fun b _ _ z => (up b z).elim .inl fun z => .inr (by rw [own1_tr] at z; exact z), fun a ha => h0 _ (hn a ha).1⟩
  · rw [oe]
    exact List.nodup_append.mpr ⟨h.nd, hnod, fun b hb c hc' z => (hown c hc').2 (.inr (z ▸ hb))⟩
theorem DN.past {Hc : Hp} {N2 : Addr → Prop} (h : DN K N Hc v d) (n2 : ∀ b, N2 b → N b ∨ Hc b = none) {Pc : Addr → Prop} (k : Keep Pc Hc H') (hp : ∀ b, Pc b → N2 b) : DN K N2 H' v d :=
  (h.to fun b o e z => (n2 b z).elim id fun z => by rw [z] at e; cases e).keep (k.mono hp)
theorem DNs.past {Hc : Hp} {N2 : Addr → Prop} {vs : List V} {ds : List PyData} (h : DNs K N Hc vs ds) (n2 : ∀ b, N2 b → N b ∨ Hc b = none) {Pc : Addr → Prop} (k : Keep Pc Hc H') (hp : ∀ b, Pc b → N2 b) : DNs K N2 H' vs ds :=
  (h.to fun b o e z => (n2 b z).elim id fun z => by rw [z] at e; cases e).keep (k.mono hp)
theorem OT.past {Hc : Hp} {N2 : Addr → Prop} {S : List Addr} (h : OT K N Hc v d S) (n2 : ∀ b, N2 b → N b ∨ Hc b = none) {Pc : Addr → Prop} (k : Keep Pc Hc H') (hp : ∀ b, Pc b → N2 b) (hs : ∀ b ∈ S, ¬ Pc b) : OT K N2 H' v d S :=
  (h.to fun b o e z => (n2 b z).elim id fun z => by rw [z] at e; cases e).keep (k.mono hp) fun a ha => by
    obtain ⟨xs, z⟩ := h.lives a ha
    rw [k _ _ (hs a ha) z, z]
theorem RelE.called {r : Sl} (h : RelE K M P H0 E H) (k : Same H H') (hres : ResOk K (Nw M E) H H' v r) : RelE K M P H0 (E ++ [(some v, r)]) H' := by
  refine (h.same k).getRes h.live hres (fun x d m => ?_) (fun x s ds m eo => ?_) fun x S d m => ?_
  rotate_right
  · obtain ⟨w, e, dn, _⟩ := h.tr x S d m
    exact ⟨w, e, dn.past (fun b z => z.elim .inl fun z => .inr z.2) (Keep.same (N := N0) k) (fun b z => z.elim) fun b _ z => z.elim⟩
  · obtain ⟨w, e, dn⟩ := h.fr x d m
    exact ⟨w, e, dn.past (fun b z => z.elim .inl fun z => .inr z.2) (Keep.same (N := N0) k) fun b z => z.elim⟩
  · cases s with
    | ow l =>
      cases eo
      obtain ⟨a, vs, e, e2, dn, _⟩ := h.ow x _ m
      exact ⟨a, vs, e, k _ _ e2, dn.past (fun b z => z.elim .inl fun z => .inr z.2) (Keep.same (N := N0) k) fun b z => z.elim⟩
    | io l =>
      cases eo
      obtain ⟨a, vs, e, e2, dn, _⟩ := h.io x _ m
      exact ⟨a, vs, e, k _ _ e2, dn.past (fun b z => z.elim .inl fun z => .inr z.2) (Keep.same (N := N0) k) fun b z => z.elim⟩
    | _ => cases eo
theorem Rel.withRes {r : Sl} (h : Rel K M P H0 σ0 σ env ts H) (e : RelE K M P H0 (ents σ env ts ++ [(some v, r)]) H') (hr : isRes r = true) : Rel K M P H0 σ0 σ env (ts ++ [(v, r)]) H' :=
  ⟨by rw [ents_app]; exact e, h.len, (fun w i m => by
    rcases List.mem_append.mp m with m | m
    · exact h.vw w i m
    · rw [List.mem_singleton] at m
      cases m
      cases hr), h.ios⟩
def dCall (sp : DSp) (t : DA) : DE := fun env R => t env fun ss env1 => ∃ ds, keepsOf env1 ss = some ds ∧ sp (ds.map .fr) fun r _ => R r env1
theorem argsFr {M' : Addr → Prop} {vs : List V} {ds : List PyData} (dns : DNs K M' H vs ds) (hm : ∀ a, M' a → H a ≠ none) : RelE K M' (ioOf vs (ds.map .fr)) H (tmp (vs.zip (ds.map .fr))) H := by
  have oe := oas_fr vs ds
  have ne : ∀ b, Nw M' (tmp (vs.zip (ds.map .fr))) b → M' b := fun b z => z.elim id fun z => by rw [oe] at z; cases z
  refine ⟨Keep.refl, fun a q => q, hm, fun a z => ?_, fun x d m => ?_, fun x l m => ?_, fun x l m => ?_, fun x S l m => ?_, by rw [oe]; exact List.nodup_nil⟩
  rotate_right
  · obtain ⟨w, d', e1, e2, dn⟩ := mem_frs dns m
    cases e2
  · have z : a ∈ oas (tmp (vs.zip (ds.map .fr))) := z
    rw [oe] at z
    cases z
  · obtain ⟨w, d', e1, e2, dn⟩ := mem_frs dns m
    cases e2
    exact ⟨w, e1, dn.to fun b _ _ z => ne b z⟩
  · obtain ⟨w, d', e1, e2, dn⟩ := mem_frs dns m
    cases e2
  · obtain ⟨w, d', e1, e2, dn⟩ := mem_frs dns m
    cases e2
theorem call_up {sp : DSp} {tl : DA} : ∀ σ H Q, up K (dCall sp tl) σ H Q → tCall (spD K sp) [] E0 (upA K tl) σ H Q := fun σ H Q h => by
  obtain ⟨M, P, H0, σ0, env, ts, R, rel, ht, hq⟩ := h
  refine ⟨M, P, H0, σ0, env, ts, _, rel, ht, fun ss env1 vs H1 h1 hl rel1 => ?_⟩
  obtain ⟨ds, ek, hsp⟩ := h1
  rw [List.append_nil]
  have dns := rel1.keptAll hl (fun p hp => hp) ek
  have oe := oas_fr vs ds
  refine ⟨Nw M (ents σ env1 ts), ds.map .fr, fun r _ => R r env1, by simp [dns.len], argsFr dns fun a z hn => rel1.drop.newAddr hn z, hsp, fun r ss' v H' hR hr post => hq _ _ _ _ hR ?_⟩
  have k : Same H1 H' := (post.keep.mono (M := N0) fun b z => by
    have z : b ∈ oas (tmp (vs.zip (ds.map .fr))) := z
    rw [oe] at z
    cases z).none
  exact (rel1.drop).withRes (rel1.drop.e.called k (post.resOk hr)) hr
end
end L2
namespace L2
open PySem PySem.Spec PyProof.Rows
section
variable {K : PySem.W.Frag} {M P N : Addr → Prop} {H0 H H' : Hp} {E A B : List Ent} {σ0 σ : St} {env : List Sl} {ts tt : List (V × Sl)} {v : V} {s : Sl} {d : PyData}
theorem tmp_cons (t : V × Sl) (ts : List (V × Sl)) : tmp (t :: ts) = (some t.1, t.2) :: tmp ts := rfl
theorem tmp_app (ts tt : List (V × Sl)) : tmp (ts ++ tt) = tmp ts ++ tmp tt := by simp [tmp]
theorem zip_split {α β : Type} : ∀ {l1 : List α} {m1 : List β} (x : α) (y : β) (l2 : List α) (m2 : List β), l1.length = m1.length → (l1 ++ x :: l2).zip (m1 ++ y :: m2) = l1.zip m1 ++ (x, y) :: l2.zip m2
  | [], [], _, _, _, _, _ => rfl
  | a :: l1, b :: m1, x, y, l2, m2, h => by
    show (a, b) :: (l1 ++ x :: l2).zip (m1 ++ y :: m2) = _
    rw [zip_split x y l2 m2 (by simpa using h)]
    rfl
  | [], _ :: _, _, _, _, _, h => by simp at h
  | _ :: _, [], _, _, _, _, h => by simp at h
theorem argsIo {M' : Addr → Prop} {v1 v2 us : List V} {d1 d2 l : List PyData} {a : Addr} (q1 : DNs K M' H v1 d1) (q2 : DNs K M' H v2 d2) (hm : ∀ a, M' a → H a ≠ none) (ha : M' a) (hH : H a = some (.lst us)) (ql : DNs K M' H us l) :
    oas (tmp ((v1 ++ .ref a :: v2).zip (d1.map .fr ++ .io l :: d2.map .fr))) = [a] ∧
    RelE K M' (ioOf (v1 ++ .ref a :: v2) (d1.map .fr ++ .io l :: d2.map .fr)) H (tmp ((v1 ++ .ref a :: v2).zip (d1.map .fr ++ .io l :: d2.map .fr))) H := by
  have ez : (v1 ++ .ref a :: v2).zip (d1.map Sl.fr ++ .io l :: d2.map .fr) = v1.zip (d1.map .fr) ++ (.ref a, .io l) :: v2.zip (d2.map .fr) := zip_split _ _ _ _ (by simp [q1.len])
  have oe : oas (tmp ((v1 ++ .ref a :: v2).zip (d1.map .fr ++ .io l :: d2.map .fr))) = [a] := by
    rw [ez, tmp_app, tmp_cons, oas_app, oas_cons, oas_fr, oas_fr]
    rfl
  have ne : ∀ b, Nw M' (tmp ((v1 ++ .ref a :: v2).zip (d1.map .fr ++ .io l :: d2.map .fr))) b → M' b := fun b z => z.elim id fun z => by rw [oe, List.mem_singleton] at z; rw [z]; exact ha
  have cs : ∀ x s, (x, s) ∈ tmp ((v1 ++ .ref a :: v2).zip (d1.map .fr ++ .io l :: d2.map .fr)) → (∃ w d, x = some w ∧ s = .fr d ∧ DN K M' H w d) ∨ (x = some (.ref a) ∧ s = .io l) := fun x s m => by
    rw [ez, tmp_app, tmp_cons] at m
    rcases List.mem_append.mp m with m | m
    · exact .inl (mem_frs q1 m)
    · rcases List.mem_cons.mp m with m | m
      · cases m; exact .inr ⟨rfl, rfl⟩
      · exact .inl (mem_frs q2 m)
  refine ⟨oe, Keep.refl, fun a q => q, hm, fun b z => ?_, fun x d m => ?_, fun x l' m => ?_, fun x l' m => ?_, fun x S l' m => ?_, by rw [oe]; simp⟩
  rotate_right
  · rcases cs x _ m with ⟨w, d', e1, e2, dn⟩ | ⟨_, e2⟩
    · cases e2
    · cases e2
  · have z : b ∈ oas (tmp ((v1 ++ .ref a :: v2).zip (d1.map .fr ++ .io l :: d2.map .fr))) := z
    rw [oe, List.mem_singleton] at z
    rw [z]; exact ha
  · rcases cs x _ m with ⟨w, d', e1, e2, dn⟩ | ⟨_, e2⟩
    · cases e2; exact ⟨w, e1, dn.to fun b _ _ z => ne b z⟩
    · cases e2
  · rcases cs x _ m with ⟨w, d', e1, e2, dn⟩ | ⟨_, e2⟩
    · cases e2
    · cases e2
  · rcases cs x _ m with ⟨w, d', e1, e2, dn⟩ | ⟨e1, e2⟩
    · cases e2
    · cases e2
      exact ⟨a, us, e1, hH, ql.to fun b _ _ z => ne b z, by show a ∈ oas _; rw [oe]; simp⟩
theorem RelE.lost {a : Addr} {l : List PyData} (h : RelE K M P H0 (E ++ [(some (.ref a), .ow l)]) H) (k : Keep (fun b => b = a) H H') (lv : ∀ b, H b ≠ none → H' b ≠ none) : RelE K M P H0 E H' ∧
    (∀ x d, (x, Sl.fr d) ∈ E → ∃ w, x = some w ∧ ∀ N2 : Addr → Prop, (∀ b, N2 b → Nw M (E ++ [(some (.ref a), .ow l)]) b ∨ H b = none) → N2 a → DN K N2 H' w d) ∧
    (∀ x s ds, (x, s) ∈ E → ownD s = some ds → ∃ b vs, x = some (.ref b) ∧ H' b = some (.lst vs) ∧ ∀ N2 : Addr → Prop, (∀ b, N2 b → Nw M (E ++ [(some (.ref a), .ow l)]) b ∨ H b = none) → N2 a → DNs K N2 H' vs ds) ∧
    (∀ x S d, (x, Sl.tr S d) ∈ E → ∃ w, x = some w ∧ ∀ N2 : Addr → Prop, (∀ b, N2 b → Nw M (E ++ [(some (.ref a), .ow l)]) b ∨ H b = none) → N2 a → OT K N2 H' w d S) := by
  have oe : oas (E ++ [(some (.ref a), Sl.ow l)]) = oas E ++ [a] := by
    rw [oas_app]
    rfl
  have nd := h.nd
  rw [oe] at nd
  obtain ⟨n1, _, n3⟩ := List.nodup_append.mp nd
  have na : Nw M (E ++ [(some (.ref a), Sl.ow l)]) a := .inr (by rw [oe]; simp)
  obtain ⟨_, _, z, _, _, h0⟩ := h.ow _ _ (List.mem_append_right _ List.mem_cons_self)
  cases z
  have sub : ∀ b, Nw M E b → Nw M (E ++ [(some (.ref a), Sl.ow l)]) b := fun b z => nw_app z
  have kk : ∀ b, b = a → Nw M (E ++ [(some (.ref a), Sl.ow l)]) b := fun b z => by rw [z]; exact na
  have other : ∀ b x s, (x, s) ∈ E → b ∈ own1 (x, s) → b ≠ a := fun b x s m eo z => n3 b (mem_oas.mpr ⟨_, m, eo⟩) a (by simp) z
  refine ⟨⟨?_, fun b q => lv b (h.live b q), h.mt, h.pm, fun x d m => ?_, fun x d m => ?_, fun x d m => ?_, fun x S d m => ?_, n1⟩, fun x d m => ?_, fun x s ds m eo => ?_, fun x S d m => ?_⟩
  rotate_right
  · obtain ⟨v, e, dn, r⟩ := h.tr x S d (List.mem_append_left _ m)
    subst e
    exact ⟨v, rfl, fun N2 n2 n2a => dn.past n2 k (fun b z => by rw [z]; exact n2a) fun b hb z => other b _ _ m (by rw [own1_tr]; exact hb) z⟩
  rotate_right 3
  · obtain ⟨v, e, dn, r⟩ := h.tr x S d (List.mem_append_left _ m)
    subst e
    refine ⟨v, rfl, (dn.keep (k.mono kk) fun b hb => ?_).to fun b _ _ z => sub b z, r⟩
    obtain ⟨xs, z⟩ := dn.lives b hb
    rw [k _ _ (other b _ _ m (by rw [own1_tr]; exact hb)) z, z]
  rotate_left 2
  · intro b o np e
    refine k b o (fun z => ?_) (h.keep b o np e)
    rw [z, h0] at e
    cases e
  · obtain ⟨v, e, dn⟩ := h.fr x d (List.mem_append_left _ m)
    exact ⟨v, e, (dn.keep (k.mono kk)).to fun b _ _ z => sub b z⟩
  · obtain ⟨b, us, e, e2, dn, r⟩ := h.ow x d (List.mem_append_left _ m)
    subst e
    exact ⟨b, us, rfl, k _ _ (other b _ _ m (List.mem_singleton.mpr rfl)) e2, (dn.keep (k.mono kk)).to fun b _ _ z => sub b z, r⟩
  · obtain ⟨b, us, e, e2, dn, r⟩ := h.io x d (List.mem_append_left _ m)
    subst e
    exact ⟨b, us, rfl, k _ _ (other b _ _ m (List.mem_singleton.mpr rfl)) e2, (dn.keep (k.mono kk)).to fun b _ _ z => sub b z, r⟩
  · obtain ⟨v, e, dn⟩ := h.fr x d (List.mem_append_left _ m)
    exact ⟨v, e, fun N2 n2 n2a => dn.past n2 k fun b z => by rw [z]; exact n2a⟩
  · cases s with
    | ow l' =>
      cases eo
      obtain ⟨b, us, e, e2, dn, r⟩ := h.ow x _ (List.mem_append_left _ m)
      subst e
      exact ⟨b, us, rfl, k _ _ (other b _ _ m (List.mem_singleton.mpr rfl)) e2, fun N2 n2 n2a => dn.past n2 k fun b z => by rw [z]; exact n2a⟩
    | io l' =>
      cases eo
      obtain ⟨b, us, e, e2, dn, r⟩ := h.io x _ (List.mem_append_left _ m)
      subst e
      exact ⟨b, us, rfl, k _ _ (other b _ _ m (List.mem_singleton.mpr rfl)) e2, fun N2 n2 n2a => dn.past n2 k fun b z => by rw [z]; exact n2a⟩
    | _ => cases eo
def dCallT (sp : DSp) (t : DA) : DE := fun env R => t env fun ss env1 => ∃ l ss' ds, ss = .ow l :: ss' ∧ keepsOf env1 ss' = some ds ∧ sp (.io l :: ds.map .fr) fun r _ => R r env1
theorem callT_up {sp : DSp} {tl : DA} : ∀ σ H Q, up K (dCallT sp tl) σ H Q → tCall (spD K sp) [] E0 (upA K tl) σ H Q := fun σ H Q h => by
  obtain ⟨M, P, H0, σ0, env, ts, R, rel, ht, hq⟩ := h
  refine ⟨M, P, H0, σ0, env, ts, _, rel, ht, fun ss env1 vs H1 h1 hl rel1 => ?_⟩
  obtain ⟨l, ss', ds, rfl, ek, hsp⟩ := h1
  rw [List.append_nil]
  match vs, hl with
  | v1 :: vs', hl =>
    have rel1' : Rel K M P H0 σ0 σ env1 ((ts ++ [(v1, .ow l)]) ++ vs'.zip ss') H1 := by simpa using rel1
    have dns := rel1'.keptAll (by simpa using hl) (fun p hp => hp) ek
    have relT := rel1'.drop
    have hE := relT.e
    rw [ents_app] at hE
    obtain ⟨a, us, ea, hH, ql, h0⟩ := hE.ow (some v1) l (List.mem_append_right _ (by simp [tmp]))
    cases ea
    have hE : RelE K M P H0 (ents σ env1 ts ++ [(some (.ref a), .ow l)]) H1 := hE
    have eqN : Nw M (ents σ env1 (ts ++ [(.ref a, .ow l)])) = Nw M (ents σ env1 ts ++ [(some (.ref a), .ow l)]) := by rw [ents_app]; rfl
    rw [eqN] at dns
    have ma : Nw M (ents σ env1 ts ++ [(some (.ref a), .ow l)]) a := .inr (by rw [oas_app]; exact List.mem_append_right _ (by simp [oas, own1]))
    have arg := argsIo (v1 := []) (d1 := []) (l := l) (us := us) (a := a) (K := K) (M' := Nw M (ents σ env1 ts ++ [(some (.ref a), .ow l)])) (H := H1) .nil dns (fun b z hn => relT.newAddr hn (by rw [eqN]; exact z)) ma hH ql
    refine ⟨_, .io l :: ds.map .fr, fun r _ => R r env1, by simp [dns.len], arg.2, hsp, fun r ss2 v H' hR hr post => hq _ _ _ _ hR ?_⟩
    have k : Keep (fun b => b = a) H1 H' := post.keep.mono fun b z => by
      have z : b ∈ oas (tmp ((.ref a :: vs').zip (.io l :: ds.map .fr))) := z
      have oe := arg.1
      simp only [List.nil_append, List.map_nil] at oe
      rw [oe, List.mem_singleton] at z
      exact z
    obtain ⟨rel', f1, f2, f3⟩ := hE.lost k post.live
    have rk := post.resOk hr
    have rk' : ResOk K (Nw M (ents σ env1 ts)) H1 H' v r := rk.to fun b z => nw_app z
    have n2 : ∀ b, ((Nw M (ents σ env1 ts) b ∨ (b ∈ own1 (some v, r) ∧ H1 b = none)) ∨ b = a) → Nw M (ents σ env1 ts ++ [(some (.ref a), .ow l)]) b ∨ H1 b = none := fun b z => by
      rcases z with (z | z) | z
      · exact .inl (nw_app z)
      · exact .inr z.2
      · rw [z]; exact .inl ma
    refine relT.drop.withRes ?_ hr
    refine rel'.getRes relT.e.live rk' (fun x d m => ?_) (fun x s ds' m eo => ?_) fun x S d m => ?_
    rotate_right
    · obtain ⟨w, e, f⟩ := f3 x S d m
      exact ⟨w, e, (f (fun b => (Nw M (ents σ env1 ts) b ∨ (b ∈ own1 (some v, r) ∧ H1 b = none)) ∨ b = a) n2 (.inr rfl)).to fun b _ _ z => .inl z⟩
    · obtain ⟨w, e, f⟩ := f1 x d m
      exact ⟨w, e, (f (fun b => (Nw M (ents σ env1 ts) b ∨ (b ∈ own1 (some v, r) ∧ H1 b = none)) ∨ b = a) n2 (.inr rfl)).to fun b _ _ z => .inl z⟩
    · obtain ⟨b, us', e, e2, f⟩ := f2 x s ds' m eo
      exact ⟨b, us', e, e2, (f (fun b => (Nw M (ents σ env1 ts) b ∨ (b ∈ own1 (some v, r) ∧ H1 b = none)) ∨ b = a) n2 (.inr rfl)).to fun b _ _ z => .inl z⟩
def dCallS (sp : DSp) (m : Nat) (t : DA) : DE := fun env R => t env fun ss env1 => ∃ i s0 l d1 d2, ss[m]? = some (.vw i) ∧ env1[i]? = some s0 ∧ ownD s0 = some l ∧ keepsOf env1 (ss.take m) = some d1 ∧ keepsOf env1 (ss.drop (m + 1)) = some d2 ∧
  sp (d1.map .fr ++ .io l :: d2.map .fr) fun r as => ∃ l' s', as[m]? = some (.io l') ∧ setSl s0 l' = some s' ∧ R r (env1.set i s')
theorem take_zip {α β : Type} (l : List α) (m : List β) (n : Nat) : ∀ p ∈ (l.take n).zip (m.take n), p ∈ l.zip m := fun p hp => by
  rw [List.zip, ← List.take_zipWith] at hp
  exact List.mem_of_mem_take hp
theorem drop_zip {α β : Type} (l : List α) (m : List β) (n : Nat) : ∀ p ∈ (l.drop n).zip (m.drop n), p ∈ l.zip m := fun p hp => by
  rw [List.zip, ← List.drop_zipWith] at hp
  exact List.mem_of_mem_drop hp
theorem cut_at {α : Type} {l : List α} {m : Nat} {x : α} (h : l[m]? = some x) : l = l.take m ++ x :: l.drop (m + 1) := by
  obtain ⟨hm, e⟩ := List.getElem?_eq_some_iff.mp h
  rw [← e, List.getElem_cons_drop, List.take_append_drop]
theorem callS_up {sp : DSp} {m : Nat} {tl : DA} : ∀ σ H Q, up K (dCallS sp m tl) σ H Q → tCall (spD K sp) [] E0 (upA K tl) σ H Q := fun σ H Q h => by
  obtain ⟨M, P, H0, σ0, env, ts, R, rel, ht, hq⟩ := h
  refine ⟨M, P, H0, σ0, env, ts, _, rel, ht, fun ss env1 vs H1 h1 hl rel1 => ?_⟩
  obtain ⟨i, s0, l, d1, d2, em, ei, eo, k1, k2, hsp⟩ := h1
  rw [List.append_nil]
  have relT := rel1.drop
  obtain ⟨a, us, ea, hH, ql⟩ := relT.mine ei eo
  have hm : m < ss.length := (List.getElem?_eq_some_iff.mp em).1
  have hmv : m < vs.length := by omega
  have va : vs[m]? = some (.ref a) := by
    have mz : (vs[m], ss[m]) ∈ vs.zip ss := by
      have hz : m < (vs.zip ss).length := by rw [List.length_zip]; omega
      have := List.getElem_mem hz
      rwa [List.getElem_zip] at this
    rw [(List.getElem?_eq_some_iff.mp em).2] at mz
    have q := rel1.vw _ _ (List.mem_append_right _ mz)
    rw [ea] at q
    rw [List.getElem?_eq_getElem hmv]
    exact congrArg some (Option.some.inj (Option.some.inj q)).symm
  have ev := cut_at va
  have q1 := rel1.keptAll (vs := vs.take m) (ss := ss.take m) (by simp; omega) (take_zip _ _ _) k1
  have q2 := rel1.keptAll (vs := vs.drop (m + 1)) (ss := ss.drop (m + 1)) (by simp; omega) (drop_zip _ _ _) k2
  have hE := relT.e
  have ma : Nw M (ents σ env1 ts) a := by
    obtain ⟨x, e1, mm⟩ := relT.slot ei
    rw [ea] at e1
    cases e1
    refine .inr (mem_oas.mpr ⟨_, mm, ?_⟩)
    cases s0 <;> simp [ownD] at eo <;> exact List.mem_singleton.mpr rfl
  have arg := argsIo (l := l) (us := us) (a := a) q1 q2 (fun b z hn => relT.newAddr hn z) ma hH ql
  rw [← ev] at arg
  have ld1 := q1.len
  have ld2 := q2.len
  refine ⟨_, d1.map .fr ++ .io l :: d2.map .fr, _, ?_, arg.2, hsp, fun r ss2 v H' hR hr post => ?_⟩
  · rw [ev]
    simp only [List.length_append, List.length_cons, List.length_map]
    omega
  obtain ⟨l', s', e2, es, hR⟩ := hR
  refine hq _ _ _ _ hR ?_
  have k : Keep (fun b => b = a) H1 H' := post.keep.mono fun b z => by
    have z : b ∈ oas (tmp (vs.zip (d1.map .fr ++ .io l :: d2.map .fr))) := z
    rw [arg.1, List.mem_singleton] at z
    exact z
  have mp : ((some (.ref a), .io l') : Ent) ∈ tmp ((v, r) :: vs.zip ss2) := by
    rw [tmp_cons]
    refine List.mem_cons_of_mem _ (List.mem_map.mpr ⟨(.ref a, .io l'), ?_, rfl⟩)
    have h2 : m < ss2.length := (List.getElem?_eq_some_iff.mp e2).1
    have hz : m < (vs.zip ss2).length := by rw [List.length_zip]; omega
    have := List.getElem_mem hz
    rw [List.getElem_zip, (List.getElem?_eq_some_iff.mp va).2, (List.getElem?_eq_some_iff.mp e2).2] at this
    exact this
  obtain ⟨a', us', z, hH', ql', _⟩ := post.io _ _ mp
  cases z
  obtain ⟨x, A, B, e3, sp1, sp2⟩ := relT.split ei
  rw [ea] at e3
  cases e3
  have iso : isOw s0 l' s' := by cases s0 <;> simp [setSl] at es <;> (subst es; rfl)
  rw [sp1] at hE
  have dnl : DNs K (Nw M (A ++ (some (.ref a), s0) :: B)) H' us' l' := ql'.to fun b _ _ z => .inl (by rw [sp1]; exact z)
  have hM := hE.muted iso k post.live hH' dnl
  have neq : Nw M (ents σ (env1.set i s') ts) = Nw M (ents σ env1 ts) := by
    rw [sp1, sp2]
    have oa : own1 (some (.ref a), s0) = [a] ∧ own1 (some (.ref a), s') = [a] := by
      cases s0 <;> first | exact iso.elim | (cases iso; exact ⟨rfl, rfl⟩)
    unfold Nw
    rw [oas_app, oas_app, oas_cons, oas_cons, oa.1, oa.2]
  rw [← sp2] at hM
  have rk : ResOk K (Nw M (ents σ (env1.set i s') ts)) H1 H' v r := by rw [neq]; exact post.resOk hr
  have relB : Rel K M P H0 σ0 σ (env1.set i s') ts H' := ⟨hM, by simp [relT.len], relT.vw, fun j ds'' e' => by
    by_cases hj : i = j
    · subst hj
      have hi : i < env1.length := (List.getElem?_eq_some_iff.mp ei).1
      rw [List.getElem?_set_self hi] at e'
      cases e'
      cases s0 with
      | io ds0 => exact relT.ios i ds0 ei
      | _ => simp [setSl] at es
    · rw [List.getElem?_set_ne hj] at e'
      exact relT.ios j ds'' e'⟩
  refine relB.withRes ?_ hr
  have old : ∀ x t, (x, t) ∈ ents σ (env1.set i s') ts → (x, t) = (some (.ref a), s') ∨ ((x, t) ∈ A ∨ (x, t) ∈ B) := fun x t m => by
    rw [sp2] at m
    rcases List.mem_append.mp m with m | m
    · exact .inr (.inl m)
    · rcases List.mem_cons.mp m with m | m
      · exact .inl m
      · exact .inr (.inr m)
  have back : ∀ x t, (x, t) ∈ A ∨ (x, t) ∈ B → (x, t) ∈ A ++ (some (.ref a), s0) :: B := fun x t m => by
    rcases m with m | m
    · exact List.mem_append_left _ m
    · exact List.mem_append_right _ (List.mem_cons_of_mem _ m)
  have n2 : ∀ b, (Nw M (ents σ (env1.set i s') ts) b ∨ (b ∈ own1 (some v, r) ∧ H1 b = none)) → Nw M (A ++ (some (.ref a), s0) :: B) b ∨ H1 b = none := fun b z => by
    rw [neq, sp1] at z
    exact z.elim .inl fun z => .inr z.2
  have pa : ∀ b, b = a → (Nw M (ents σ (env1.set i s') ts) b ∨ (b ∈ own1 (some v, r) ∧ H1 b = none)) := fun b z => by rw [z, neq]; exact .inl ma
  have oa0 : own1 (some (.ref a), s0) = [a] := by cases s0 <;> first | exact iso.elim | rfl
  have nd := hE.nd
  rw [oas_app, oas_cons, oa0] at nd
  obtain ⟨_, nd2, nd3⟩ := List.nodup_append.mp nd
  obtain ⟨nd4, _⟩ := List.nodup_cons.mp nd2
  have other : ∀ x t b, (x, t) ∈ A ∨ (x, t) ∈ B → b ∈ own1 (x, t) → b ≠ a := fun x t b m eo z => by
    subst z
    rcases m with m | m
    · exact nd3 b (mem_oas.mpr ⟨_, m, eo⟩) b List.mem_cons_self rfl
    · exact nd4 (mem_oas.mpr ⟨_, m, eo⟩)
  refine hM.getRes relT.e.live rk (fun x d mm => ?_) (fun x t ds' mm eo' => ?_) fun x S d mm => ?_
  rotate_right
  · rcases old _ _ mm with mm | mm
    · cases s0 <;> first | exact iso.elim | (have iso : s' = _ := iso; rw [iso] at mm; cases mm)
    · obtain ⟨w, e, dn, _⟩ := hE.tr x S d (back _ _ mm)
      subst e
      exact ⟨w, rfl, dn.past n2 k pa fun b hb z => other _ _ b mm (by rw [own1_tr]; exact hb) z⟩
  · rcases old _ _ mm with mm | mm
    · cases s0 <;> first | exact iso.elim | (have iso : s' = _ := iso; rw [iso] at mm; cases mm)
    · obtain ⟨w, e, dn⟩ := hE.fr x d (back _ _ mm)
      exact ⟨w, e, dn.past n2 k pa⟩
  · rcases old _ _ mm with mm | mm
    · cases mm
      have el : ds' = l' := by cases s0 <;> simp [setSl] at es <;> (subst es; exact (Option.some.inj eo').symm)
      subst el
      refine ⟨a, us', rfl, hH', ql'.to fun b _ _ z => ?_⟩
      rcases z with z | z
      · exact .inl (by rw [← neq]; exact z)
      · exact .inr (by rw [tmp_cons, oas_cons]; exact List.mem_append_left _ z.1)
    · cases t with
      | ow l2 =>
        cases eo'
        obtain ⟨b, us2, e, e2', dn, _⟩ := hE.ow x _ (back _ _ mm)
        subst e
        exact ⟨b, us2, rfl, k _ _ (other _ _ b mm (List.mem_singleton.mpr rfl)) e2', dn.past n2 k pa⟩
      | io l2 =>
        cases eo'
        obtain ⟨b, us2, e, e2', dn, _⟩ := hE.io x _ (back _ _ mm)
        subst e
        exact ⟨b, us2, rfl, k _ _ (other _ _ b mm (List.mem_singleton.mpr rfl)) e2', dn.past n2 k pa⟩
      | _ => cases eo'
end
end L2
namespace L2
open PySem PySem.Spec PyProof.Rows
structure DEnds where
  nx : List Sl → Prop
  rt : Sl → List Sl → Prop
  bk : List Sl → Prop := fun _ => False
  ct : List Sl → Prop := fun _ => False
abbrev DS := DEnds → List Sl → Prop
def NoVw (ts : List (V × Sl)) : Prop := ∀ v i, (v, Sl.vw i) ∉ ts
structure EndsOk (K : PySem.W.Frag) (M P : Addr → Prop) (H0 : Hp) (σ0 : St) (ts : List (V × Sl)) (DD : DEnds) (D : Ends) : Prop where
  nx : ∀ σ' env' H', DD.nx env' → Rel K M P H0 σ0 σ' env' ts H' → D.nx σ' H'
  rt : ∀ s env' v σ' H', DD.rt s env' → Rel K M P H0 σ0 σ' env' (ts ++ [(v, s)]) H' → D.rt v H'
  bk : ∀ σ' env' H', DD.bk env' → Rel K M P H0 σ0 σ' env' ts H' → D.bk σ' H'
  ct : ∀ σ' env' H', DD.ct env' → Rel K M P H0 σ0 σ' env' ts H' → D.ct σ' H'
def upS (K : PySem.W.Frag) (t : DS) : TS := fun D σ H => ∃ (M P : Addr → Prop) (H0 : Hp) (σ0 : St) (env : List Sl) (ts : List (V × Sl)) (DD : DEnds), NoVw ts ∧ Rel K M P H0 σ0 σ env ts H ∧ t DD env ∧ EndsOk K M P H0 σ0 ts DD D
theorem PS.imp {X : Cx} {e : Stmt} {t t' : TS} (h : PS X e t) (k : ∀ D σ H, t' D σ H → t D σ H) : PS X e t' := fun pins s σ H D I hw => h pins s σ H D I (k D σ H hw)
theorem PSs.imp {X : Cx} {e : List Stmt} {t t' : TS} (h : PSs X e t) (k : ∀ D σ H, t' D σ H → t D σ H) : PSs X e t' := fun pins s σ H D I hw => h pins s σ H D I (k D σ H hw)
section
variable {K : PySem.W.Frag} {M P N : Addr → Prop} {H0 H H' : Hp} {σ0 σ : St} {env : List Sl} {ts tt : List (V × Sl)} {v : V} {s : Sl} {d : PyData}
def stoOf (env : List Sl) : Sl → Option Sl
  | .fr d => some (.fr d)
  | .ow ds => some (.ow ds)
  | .tr S d => some (.tr S d)
  | .vw i => ((env[i]?).bind slK).map .fr
  | _ => none
theorem Rel.unVw (h : Rel K M P H0 σ0 σ env (ts ++ [(v, s)]) H) {s' : Sl} (e : stoOf env s = some s') : Rel K M P H0 σ0 σ env (ts ++ [(v, s')]) H ∧ isRes s' = true := by
  cases s with
  | fr d => cases e; exact ⟨h, rfl⟩
  | ow ds => cases e; exact ⟨h, rfl⟩
  | tr S d => cases e; exact ⟨h, rfl⟩
  | vw i =>
    have e : ((env[i]?).bind slK).map Sl.fr = some s' := e
    cases q : (env[i]?).bind slK with
    | none => rw [q] at e; cases e
    | some d =>
      rw [q] at e
      cases e
      exact ⟨h.drop.addFr (h.kept (tt := [(v, .vw i)]) (s := .vw i) (by simp) q), rfl⟩
  | _ => cases e
theorem zip_set2 {σ : St} {env : List Sl} {i : Nat} {x : Option V} {s' : Sl} : (σ.set i x).zip (env.set i s') = (σ.zip env).set i (x, s') := by
  apply List.ext_getElem?
  intro j
  rw [zip_get]
  by_cases hj : i = j
  · subst hj
    rw [List.getElem?_set_self', List.getElem?_set_self', List.getElem?_set_self', zip_get]
    cases σ[i]? <;> cases env[i]? <;> rfl
  · rw [List.getElem?_set_ne hj, List.getElem?_set_ne hj, List.getElem?_set_ne hj, zip_get]
theorem Rel.store (h : Rel K M P H0 σ0 σ env (ts ++ [(v, s)]) H) (nv : NoVw ts) {i : Nat} (hi : i < env.length) (hs : isRes s = true) : Rel K M P H0 σ0 (σ.set i (some v)) (env.set i s) ts H := by
  have hiz : i < (σ.zip env).length := by rw [List.length_zip, h.len]; omega
  obtain ⟨A, B, q1, q2⟩ := mem_split (List.getElem?_eq_getElem hiz)
  refine ⟨?_, by simp [h.len], fun w j m => absurd m (nv w j), fun j ds e => ?_⟩
  · have hE := h.e
    unfold ents at hE ⊢
    rw [q1, tmp_app, List.append_assoc] at hE
    rw [zip_set2, q2, List.append_assoc]
    have e2 : ((σ.zip env)[i] :: B) ++ (tmp ts ++ tmp [(v, s)]) = (σ.zip env)[i] :: ((B ++ tmp ts) ++ [(some v, s)]) := by simp [tmp]
    rw [e2] at hE
    have := hE.move
    simpa using this
  · by_cases hj : i = j
    · subst hj
      rw [List.getElem?_set_self hi] at e
      cases e
      cases hs
    · rw [List.getElem?_set_ne hj] at e
      rw [List.getElem?_set_ne hj]
      exact h.ios j ds e
end
section
variable {X : Cx} {K : PySem.W.Frag} {pos : Pos} {st : Stmt} {rest a b : List Stmt} {t u : DS} {e c : Expr} {te : DE} {tc : DT}
def dNext : DS := fun DD env => DD.nx env
def dSeq (t u : DS) : DS := fun DD env => t { DD with nx := u DD } env
def dCut (t u : DS) : DS := fun DD env => ∃ R : List Sl → Prop, t { DD with nx := R } env ∧ ∀ env', R env' → u DD env'
theorem qs_nil : PSs X [] (upS K dNext) := pss_nil.imp fun D σ H h => by
  obtain ⟨M, P, H0, σ0, env, ts, DD, nv, rel, ht, ok⟩ := h
  exact ok.nx _ _ _ ht rel
theorem qs_cons (h1 : PS X st (upS K t)) (h2 : PSs X rest (upS K u)) : PSs X (st :: rest) (upS K (dSeq t u)) := (pss_cons h1 h2).imp fun D σ H h => by
  obtain ⟨M, P, H0, σ0, env, ts, DD, nv, rel, ht, ok⟩ := h
  exact ⟨M, P, H0, σ0, env, ts, _, nv, rel, ht, ⟨fun σ' env' H' q r => ⟨M, P, H0, σ0, env', ts, DD, nv, r, q, ok⟩, ok.rt, ok.bk, ok.ct⟩⟩
theorem qs_cut (h1 : PS X st (upS K t)) (h2 : PSs X rest (upS K u)) : PSs X (st :: rest) (upS K (dCut t u)) := (pss_cut h1 h2).imp fun D σ H h => by
  obtain ⟨M, P, H0, σ0, env, ts, DD, nv, rel, ⟨R, ht, hR⟩, ok⟩ := h
  exact ⟨fun σ' H' => ∃ env', R env' ∧ Rel K M P H0 σ0 σ' env' ts H', ⟨M, P, H0, σ0, env, ts, _, nv, rel, ht, ⟨fun σ' env' H' q r => ⟨env', q, r⟩, ok.rt, ok.bk, ok.ct⟩⟩,
    fun σ' H' ⟨env', q, r⟩ => ⟨M, P, H0, σ0, env', ts, DD, nv, r, hR env' q, ok⟩⟩
theorem qs_one (h1 : PS X st (upS K t)) : PSs X [st] (upS K t) := pss_one h1
def dDrop (te : DE) : DS := fun DD env => te env fun _ env1 => DD.nx env1
theorem q_expr (he : PE X e (up K te)) (hs : swapsWith e none pos.line X.env = pure false := by rfl) : PS X (.Expr e pos) (upS K (dDrop te)) := (ps_expr he hs).imp fun D σ H h => by
  obtain ⟨M, P, H0, σ0, env, ts, DD, nv, rel, ht, ok⟩ := h
  exact ⟨M, P, H0, σ0, env, ts, _, rel, ht, fun s1 env1 v1 H1 h1 rel1 => ok.nx _ _ _ h1 rel1.drop⟩
def dRet (te : DE) : DS := fun DD env => te env DD.rt
theorem q_ret (he : PE X e (up K te)) : PS X (.Return (some e) pos) (upS K (dRet te)) := (ps_ret he).imp fun D σ H h => by
  obtain ⟨M, P, H0, σ0, env, ts, DD, nv, rel, ht, ok⟩ := h
  exact ⟨M, P, H0, σ0, env, ts, _, rel, ht, fun s1 env1 v1 H1 h1 rel1 => ok.rt _ _ _ _ _ h1 rel1⟩
def dIfS (c : DT) (t u : DS) : DS := fun DD env => c env fun k env1 => if k = true then t DD env1 else u DD env1
theorem q_if (hc : PT X c (upT K tc)) (ha : PSs X a (upS K t)) (hb : PSs X b (upS K u)) : PS X (.If c a b pos) (upS K (dIfS tc t u)) := (ps_if hc ha hb).imp fun D σ H h => by
  obtain ⟨M, P, H0, σ0, env, ts, DD, nv, rel, ht, ok⟩ := h
  refine ⟨M, P, H0, σ0, env, ts, _, rel, ht, fun k env1 H1 h1 rel1 => ?_⟩
  cases k with
  | true => exact ⟨M, P, H0, σ0, env1, ts, DD, nv, rel1, h1, ok⟩
  | false => exact ⟨M, P, H0, σ0, env1, ts, DD, nv, rel1, h1, ok⟩
def dSet (i : Nat) (te : DE) : DS := fun DD env => te env fun s env1 => ∃ s', i < env1.length ∧ stoOf env1 s = some s' ∧ DD.nx (env1.set i s')
theorem q_set {i : Nat} {x : Str} {pos' : Pos} (hN : X.N.Nodup) (hi : X.N[i]? = some x) (hx : Loc X.env.scope x) (he : PE X e (up K te)) (hs : swapsWith e (some (.Name x pos')) pos.line X.env = pure false := by rfl) (hf : X.fn x = true ∨ X.env.scope.names.lookup x = some .local := by first | exact .inl rfl | exact .inr rfl | assumption) : PS X (.Assign [.Name x pos'] e pos) (upS K (dSet i te)) :=
  (ps_set hN hi hx he hs hf).imp fun D σ H h => by
  obtain ⟨M, P, H0, σ0, env, ts, DD, nv, rel, ht, ok⟩ := h
  refine ⟨M, P, H0, σ0, env, ts, _, rel, ht, fun s1 env1 v1 H1 h1 rel1 => ?_⟩
  obtain ⟨s', hl, es, hR⟩ := h1
  obtain ⟨r, cs⟩ := rel1.unVw es
  exact ok.nx _ _ _ hR (r.store nv hl cs)
end
end L2
namespace L2
open PySem PySem.Spec PyProof.Rows
abbrev DG := PyData → List Sl → (List Sl → Prop) → Prop
abbrev DGs := List PyData → List Sl → (List Sl → Prop) → Prop
def upG (K : PySem.W.Frag) (g : DG) : TG := fun v σ H Q => ∃ (M P : Addr → Prop) (H0 : Hp) (σ0 : St) (env : List Sl) (ts : List (V × Sl)) (d : PyData) (R : List Sl → Prop), NoVw ts ∧ Rel K M P H0 σ0 σ env ts H ∧ DN K (Nw M (ents σ env ts)) H v d ∧ g d env R ∧
  ∀ σ' env' H', R env' → Rel K M P H0 σ0 σ' env' ts H' → Q σ' H'
def upGs (K : PySem.W.Frag) (g : DGs) : TGs := fun vs σ H Q => ∃ (M P : Addr → Prop) (H0 : Hp) (σ0 : St) (env : List Sl) (ts : List (V × Sl)) (ds : List PyData) (R : List Sl → Prop), NoVw ts ∧ Rel K M P H0 σ0 σ env ts H ∧ DNs K (Nw M (ents σ env ts)) H vs ds ∧ g ds env R ∧
  ∀ σ' env' H', R env' → Rel K M P H0 σ0 σ' env' ts H' → Q σ' H'
theorem PG.imp {X : Cx} {e : Expr} {t t' : TG} (h : PG X e t) (k : ∀ v σ H Q, t' v σ H Q → t v σ H Q) : PG X e t' := fun pins s σ H v u Q I r hw => h pins s σ H v u Q I r (k v σ H Q hw)
theorem PGs.imp {X : Cx} {e : List Expr} {t t' : TGs} (h : PGs X e t) (k : ∀ v σ H Q, t' v σ H Q → t v σ H Q) : PGs X e t' := fun pins s σ H v u Q I r hw => h pins s σ H v u Q I r (k v σ H Q hw)
section
variable {K : PySem.W.Frag} {M P N : Addr → Prop} {H0 H H' : Hp} {σ0 σ : St} {env : List Sl} {ts tt kp : List (V × Sl)} {v : V} {s : Sl} {d : PyData} {X : Cx} {pos : Pos} {e : Expr} {es : List Expr}
theorem oas_tmpFr (v : V) (d : PyData) : oas (tmp [(v, Sl.fr d)]) = [] := by
  show oas [(some v, Sl.fr d)] = []
  rw [oas_cons]
  cases v <;> rfl
theorem nw_tmpFr {E : List Ent} {v : V} {d : PyData} : Nw M (E ++ tmp [(v, Sl.fr d)]) = Nw M E := by
  unfold Nw
  rw [oas_app, oas_tmpFr, List.append_nil]
def dgName (i : Nat) : DG := fun d env R => i < env.length ∧ R (env.set i (.fr d))
theorem qg_name {i : Nat} {x : Str} (hN : X.N.Nodup) (hi : X.N[i]? = some x) (hx : Loc X.env.scope x) (hf : X.fn x = true ∨ X.env.scope.names.lookup x = some .local := by first | exact .inl rfl | exact .inr rfl | assumption) : PG X (.Name x pos) (upG K (dgName i)) :=
  (pg_name hN hi hx hf).imp fun v σ H Q h => by
  obtain ⟨M, P, H0, σ0, env, ts, d, R, nv, rel, dn, ⟨hl, hR⟩, hq⟩ := h
  exact hq _ _ _ hR ((rel.addFr dn).store nv hl rfl)
def dgNil : DGs := fun ds env R => ds = [] ∧ R env
def dgCons (g : DG) (gs : DGs) : DGs := fun ds env R => ∃ d r, ds = d :: r ∧ g d env fun env1 => gs r env1 R
theorem qgs_nil : PGs X [] (upGs K dgNil) := pgs_nil.imp fun v σ H Q h => by
  obtain ⟨M, P, H0, σ0, env, ts, ds, R, nv, rel, dn, ⟨rfl, hR⟩, hq⟩ := h
  cases dn
  exact ⟨rfl, hq _ _ _ hR rel⟩
theorem keeps_fr (env : List Sl) : ∀ ds : List PyData, keepsOf env (ds.map .fr) = some ds
  | [] => rfl
  | d :: ds => by
    show (keepOf env (Sl.fr d)).bind _ = _
    rw [keeps_fr env ds]
    rfl
theorem noVw_fr (vs : List V) (ds : List PyData) (nv : NoVw ts) : NoVw (ts ++ vs.zip (ds.map .fr)) := fun w i m => by
  rcases List.mem_append.mp m with m | m
  · exact nv w i m
  · obtain ⟨d, _, e⟩ := List.mem_map.mp (List.of_mem_zip m).2
    cases e
theorem Rel.addFrs : ∀ {vs : List V} {ds : List PyData} {ts : List (V × Sl)}, Rel K M P H0 σ0 σ env ts H → DNs K (Nw M (ents σ env ts)) H vs ds → Rel K M P H0 σ0 σ env (ts ++ vs.zip (ds.map .fr)) H
  | _, _, ts, rel, .nil => by simpa using rel
  | _, _, ts, rel, @DNs.cons _ _ _ v vs d ds h q => by
    have r := rel.addFr h
    have q' : DNs K (Nw M (ents σ env (ts ++ [(v, .fr d)]))) H vs ds := q.to fun b _ _ z => by rw [ents_app, nw_tmpFr] at z; exact z
    have := Rel.addFrs r q'
    simpa using this
theorem qgs_cons {g : DG} {gs : DGs} (h1 : PG X e (upG K g)) (h2 : PGs X es (upGs K gs)) (hs : (assignEach (e :: es) X.env).map (·.2) = assign e X.env :: (assignEach es X.env).map (·.2) := by rfl) : PGs X (e :: es) (upGs K (dgCons g gs)) :=
  (pgs_cons h1 h2 hs).imp fun vs σ H Q h => by
  obtain ⟨M, P, H0, σ0, env, ts, ds, R, nv, rel, dn, ⟨d, r, rfl, hg⟩, hq⟩ := h
  cases dn with
  | @cons v vs _ _ h q =>
    have relA := rel.addFrs q
    have hN : DN K (Nw M (ents σ env (ts ++ vs.zip (r.map .fr)))) H v d := h.to fun b _ _ z => by
      rw [ents_app] at z
      rcases z with z | z
      · exact .inl z
      · rw [oas_app, oas_fr, List.append_nil] at z
        exact .inr z
    refine ⟨v, vs, rfl, M, P, H0, σ0, env, ts ++ vs.zip (r.map .fr), d, _, noVw_fr _ _ nv, relA, hN, hg, fun σ' env' H' hR' rel' => ?_⟩
    exact ⟨M, P, H0, σ0, env', ts, r, R, nv, rel'.drop, rel'.keptAll (by simp [q.len]) (fun p hp => hp) (keeps_fr _ _), hR', hq⟩
def dgTup (n : Nat) (gs : DGs) : DG := fun d env R => ∃ ds, d = .tuple ds ∧ ds.length = n ∧ gs ds env R
theorem qg_tup {k : Nat} {gs : DGs} {n : Nat} (hK : X.K = K) (hc : X.calm = true) (h : PGs X es (upGs K gs)) (hn : (assignEach es X.env).length = n := by rfl) (hst : (assignEach es X.env).findIdx? (·.1) = none := by rfl) : PG X (.Tuple es k pos) (upG K (dgTup n gs)) :=
  (kgTup (K := K) hK hc h hn hst).imp fun v σ H Q h => by
  obtain ⟨M, P, H0, σ0, env, ts, d, R, nv, rel, dn, ⟨ds, rfl, hl, hg⟩, hq⟩ := h
  obtain ⟨a, xs, rfl, sn, q⟩ := dn.tuple
  exact ⟨a, xs, rfl, sn.sq, by rw [q.len]; exact hl, M, P, H0, σ0, env, ts, ds, R, nv, rel, q, hg, hq⟩
def dAsg (te : DE) (g : DG) : DS := fun DD env => te env fun s env1 => ∃ d, keepOf env1 s = some d ∧ g d env1 DD.nx
structure IterOk (K : PySem.W.Frag) (J : It) (kp : List (V × Sl)) (ds : List PyData) : Prop where
  go : ∀ {M P : Addr → Prop} {H0 H : Hp} {σ0 σ : St} {env : List Sl} {ts : List (V × Sl)}, Rel K M P H0 σ0 σ env (ts ++ kp) H → ∀ i, i < ds.length → J.go i H
  yld : ∀ {M P : Addr → Prop} {H0 H : Hp} {σ0 σ : St} {env : List Sl} {ts : List (V × Sl)}, Rel K M P H0 σ0 σ env (ts ++ kp) H → ∀ i x H', (hi : i < ds.length) → J.yld i H x H' → Same H H' ∧ DN K (Nw M (ents σ env (ts ++ kp))) H' x ds[i]
  stop : ∀ {M P : Addr → Prop} {H0 H : Hp} {σ0 σ : St} {env : List Sl} {ts : List (V × Sl)}, Rel K M P H0 σ0 σ env (ts ++ kp) H → J.stop ds.length H
  nv : NoVw kp
abbrev DI := List Sl → (List PyData → List Sl → Prop) → Prop
def upI (K : PySem.W.Frag) (t : DI) : TI := fun σ H R => ∃ (M P : Addr → Prop) (H0 : Hp) (σ0 : St) (env : List Sl) (ts : List (V × Sl)) (RR : List PyData → List Sl → Prop), Rel K M P H0 σ0 σ env ts H ∧ t env RR ∧
  ∀ ds env' J H' kp, RR ds env' → Rel K M P H0 σ0 σ env' (ts ++ kp) H' → IterOk K J kp ds → R J H'
theorem PI.imp {tg iter : Expr} {t t' : TI} (h : PI X tg iter t) (k : ∀ σ H R, t' σ H R → t σ H R) : PI X tg iter t' := fun pins s σ H R I hw => h pins s σ H R I (k σ H R hw)
theorem seq_item {b : Bool} {a : Addr} {ds : List PyData} (rel : Rel K M P H0 σ0 σ env ts H) (m : (.ref a, .fr (if b then .tuple ds else .list ds)) ∈ ts) : ∃ xs, SqB K H b a xs ∧ DNs K (Nw M (ents σ env ts)) H xs ds := by
  obtain ⟨v, e, dn⟩ := rel.e.fr _ _ (mem_tmp m)
  cases e
  cases b with
  | false =>
    obtain ⟨a', xs, e, sn, q⟩ := DN.list dn
    cases e
    exact ⟨xs, sn.sq, q⟩
  | true =>
    obtain ⟨a', xs, e, sn, q⟩ := DN.tuple dn
    cases e
    exact ⟨xs, sn.sq, q⟩
theorem DNs.item {vs : List V} {ds : List PyData} (q : DNs K N H vs ds) {i : Nat} (hi : i < ds.length) : ∃ x, vs[i]? = some x ∧ DN K N H x ds[i] := by
  have hv : i < vs.length := by rw [q.len]; exact hi
  obtain ⟨e, h1, h2⟩ := q.get (List.getElem?_eq_getElem hv)
  rw [List.getElem?_eq_getElem hi] at h1
  cases h1
  exact ⟨vs[i], List.getElem?_eq_getElem hv, h2⟩
theorem noVw1 {v : V} {d : PyData} : NoVw [(v, Sl.fr d)] := fun w i m => by rw [List.mem_singleton] at m; cases m
theorem iter_list {a : Addr} {ds : List PyData} : IterOk K (Itl K a) [(.ref a, .fr (.list ds))] ds where
  go := fun rel i hi => by
    obtain ⟨xs, s, q⟩ := seq_item (b := false) (a := a) (ds := ds) rel (List.mem_append_right _ (by simp))
    obtain ⟨x, e, _⟩ := q.item hi
    exact ⟨xs, x, s, e⟩
  yld := fun rel i x H' hi y => by
    obtain ⟨xs, s, q⟩ := seq_item (b := false) (a := a) (ds := ds) rel (List.mem_append_right _ (by simp))
    obtain ⟨e, y⟩ := y
    subst e
    obtain ⟨x', e', dn⟩ := q.item hi
    rw [y xs s] at e'
    cases e'
    exact ⟨Same.refl _, dn⟩
  stop := fun rel => by
    obtain ⟨xs, s, q⟩ := seq_item (b := false) (a := a) (ds := ds) rel (List.mem_append_right _ (by simp))
    exact ⟨xs, s, by rw [q.len]; exact Nat.le_refl _⟩
  nv := noVw1
theorem iter_tup {a : Addr} {ds : List PyData} : IterOk K (Itt K a) [(.ref a, .fr (.tuple ds))] ds where
  go := fun rel i hi => by
    obtain ⟨xs, s, q⟩ := seq_item (b := true) (a := a) (ds := ds) rel (List.mem_append_right _ (by simp))
    obtain ⟨x, e, _⟩ := q.item hi
    exact ⟨xs, x, s, e⟩
  yld := fun rel i x H' hi y => by
    obtain ⟨xs, s, q⟩ := seq_item (b := true) (a := a) (ds := ds) rel (List.mem_append_right _ (by simp))
    obtain ⟨e, y⟩ := y
    subst e
    obtain ⟨x', e', dn⟩ := q.item hi
    rw [y xs s] at e'
    cases e'
    exact ⟨Same.refl _, dn⟩
  stop := fun rel => by
    obtain ⟨xs, s, q⟩ := seq_item (b := true) (a := a) (ds := ds) rel (List.mem_append_right _ (by simp))
    exact ⟨xs, s, by rw [q.len]; exact Nat.le_refl _⟩
  nv := noVw1
def rangeD (lo : Int) (n : Nat) : List PyData := (List.range n).map fun (k : Nat) => PyData.int (lo + k)
theorem rangeD_len (lo : Int) (n : Nat) : (rangeD lo n).length = n := by simp [rangeD]
theorem rangeD_get (lo : Int) (n i : Nat) (h : i < (rangeD lo n).length) : (rangeD lo n)[i] = .int (lo + i) := by simp [rangeD]
theorem iter_range {lo : Int} {n : Nat} : IterOk K (Itr lo n) [] (rangeD lo n) where
  go := fun rel i hi => by rw [rangeD_len] at hi; exact hi
  yld := fun rel i x H' hi y => by
    obtain ⟨e, y⟩ := y
    subst e
    rw [rangeD_get, y]
    exact ⟨Same.refl _, .int _⟩
  stop := fun rel => by rw [rangeD_len]; exact Nat.le_refl _
  nv := fun w i m => by cases m
def enumD (ds : List PyData) : List PyData := ds.zipIdx.map fun (p : PyData × Nat) => PyData.tuple [.int p.2, p.1]
theorem enumD_len (ds : List PyData) : (enumD ds).length = ds.length := by simp [enumD]
theorem enumD_get (ds : List PyData) (i : Nat) (h : i < (enumD ds).length) : (enumD ds)[i] = .tuple [.int i, ds[i]'(by rw [enumD_len] at h; exact h)] := by simp [enumD]
theorem iter_enum {b : Bool} {a : Addr} {ds : List PyData} : IterOk K (Ite K b a) [(.ref a, .fr (if b then .tuple ds else .list ds))] (enumD ds) where
  go := fun rel i hi => by
    rw [enumD_len] at hi
    obtain ⟨xs, s, q⟩ := seq_item (b := b) (a := a) (ds := ds) rel (List.mem_append_right _ (by simp))
    obtain ⟨x, e, _⟩ := q.item hi
    exact ⟨xs, x, s, e⟩
  yld := fun {M P H0 H σ0 σ env ts} rel i x H' hi y => by
    rw [enumD_get]
    rw [enumD_len] at hi
    obtain ⟨xs, s, q⟩ := seq_item (b := b) (a := a) (ds := ds) rel (List.mem_append_right _ (by simp))
    obtain ⟨p, x1, rfl, hp, rfl, y⟩ := y
    obtain ⟨x', e', dn⟩ := q.item hi
    rw [y xs s] at e'
    cases e'
    exact ⟨Same.new hp, DN.of2 (SnT.of upd_same (rel.newAddr hp)) (.int _) (dn.keep (Keep.same (Same.new hp)))⟩
  stop := fun rel => by
    obtain ⟨xs, s, q⟩ := seq_item (b := b) (a := a) (ds := ds) rel (List.mem_append_right _ (by simp))
    exact ⟨xs, s, by rw [q.len, enumD_len]⟩
  nv := noVw1
def zipD (ds es : List PyData) : List PyData := List.zipWith (fun d e => PyData.tuple [d, e]) ds es
theorem zipD_len (ds es : List PyData) : (zipD ds es).length = min ds.length es.length := by simp [zipD]
theorem iter_zip {b c : Bool} {a a' : Addr} {ds es : List PyData} : IterOk K (Itz K b c a a') [(.ref a, .fr (if b then .tuple ds else .list ds)), (.ref a', .fr (if c then .tuple es else .list es))] (zipD ds es) where
  go := fun rel i hi => by
    rw [zipD_len] at hi
    obtain ⟨xs, s, q⟩ := seq_item (b := b) (a := a) (ds := ds) rel (List.mem_append_right _ (by simp))
    obtain ⟨xs', s', q'⟩ := seq_item (b := c) (a := a') (ds := es) rel (List.mem_append_right _ (by simp))
    obtain ⟨x, e, _⟩ := q.item (i := i) (by omega)
    obtain ⟨x', e', _⟩ := q'.item (i := i) (by omega)
    exact ⟨xs, xs', x, x', s, s', e, e'⟩
  yld := fun {M P H0 H σ0 σ env ts} rel i x H' hi y => by
    have hi' := hi
    rw [zipD_len] at hi'
    obtain ⟨xs, s, q⟩ := seq_item (b := b) (a := a) (ds := ds) rel (List.mem_append_right _ (by simp))
    obtain ⟨xs', s', q'⟩ := seq_item (b := c) (a := a') (ds := es) rel (List.mem_append_right _ (by simp))
    obtain ⟨p, x1, x2, rfl, hp, rfl, y1, y2⟩ := y
    obtain ⟨u1, e1, dn1⟩ := q.item (i := i) (by omega)
    obtain ⟨u2, e2, dn2⟩ := q'.item (i := i) (by omega)
    rw [y1 xs s] at e1
    rw [y2 xs' s'] at e2
    cases e1
    cases e2
    have eg : (zipD ds es)[i] = .tuple [ds[i]'(by omega), es[i]'(by omega)] := by simp [zipD]
    rw [eg]
    exact ⟨Same.new hp, DN.of2 (SnT.of upd_same (rel.newAddr hp)) (dn1.keep (Keep.same (Same.new hp))) (dn2.keep (Keep.same (Same.new hp)))⟩
  stop := fun rel => by
    obtain ⟨xs, s, q⟩ := seq_item (b := b) (a := a) (ds := ds) rel (List.mem_append_right _ (by simp))
    obtain ⟨xs', s', q'⟩ := seq_item (b := c) (a := a') (ds := es) rel (List.mem_append_right _ (by simp))
    refine ⟨xs, xs', s, s', ?_⟩
    rw [q.len, q'.len, zipD_len]
    omega
  nv := fun w i m => by
    simp only [List.mem_cons, List.not_mem_nil, or_false] at m
    rcases m with m | m <;> cases m
end
end L2
namespace L2
open PySem PySem.Spec PyProof.Rows
section
variable {K : PySem.W.Frag} {M P N : Addr → Prop} {H0 H H' : Hp} {σ0 σ : St} {env : List Sl} {ts tt kp : List (V × Sl)} {v : V} {s : Sl} {d : PyData} {X : Cx} {pos p : Pos} {e e1 e2 tg iter : Expr} {es : List Expr} {te : DE} {tl : DA}
def dIList (te : DE) : DI := fun env RR => te env fun s env1 => ∃ ds, keepOf env1 s = some (.list ds) ∧ RR ds env1
def dITup (te : DE) : DI := fun env RR => te env fun s env1 => ∃ ds, keepOf env1 s = some (.tuple ds) ∧ RR ds env1
theorem qi_list (hK : X.K = K) (h : PE X e (up K te)) : PI X tg e (upI K (dIList te)) := (kiList (K := K) hK h).imp fun σ H R h => by
  obtain ⟨M, P, H0, σ0, env, ts, RR, rel, ht, hq⟩ := h
  refine ⟨M, P, H0, σ0, env, ts, _, rel, ht, fun s1 env1 v1 H1 h1 rel1 => ?_⟩
  obtain ⟨ds, k, hR⟩ := h1
  have dn := rel1.kept (v := v1) (s := s1) (by simp) k
  obtain ⟨a, xs, rfl, sn, q⟩ := dn.list
  exact ⟨a, rfl, ⟨xs, sn.sq⟩, hq _ _ _ _ _ hR (rel1.drop.addFr dn) iter_list⟩
theorem qi_tup (hK : X.K = K) (h : PE X e (up K te)) : PI X tg e (upI K (dITup te)) := (kiTup (K := K) hK h).imp fun σ H R h => by
  obtain ⟨M, P, H0, σ0, env, ts, RR, rel, ht, hq⟩ := h
  refine ⟨M, P, H0, σ0, env, ts, _, rel, ht, fun s1 env1 v1 H1 h1 rel1 => ?_⟩
  obtain ⟨ds, k, hR⟩ := h1
  have dn := rel1.kept (v := v1) (s := s1) (by simp) k
  obtain ⟨a, xs, rfl, sn, q⟩ := dn.tuple
  exact ⟨a, rfl, ⟨xs, sn.sq⟩, hq _ _ _ _ _ hR (rel1.drop.addFr dn) iter_tup⟩
def dRng1 (ta : DA) : DI := fun env RR => ta env fun ss env1 => ∃ s j, ss = [s] ∧ valOf env1 s = some (.int j) ∧ -4611686018427387904 ≤ j ∧ j < 4611686018427387904 ∧ RR (rangeD 0 j.toNat) env1
theorem qi_rng1 (hg : Gl X "range") (hm : X.mg "range" = none) (ha : PA X [e] (upA K tl)) (hs : starEach [e] X.env = [(false, eval e X.env)] := by rfl) : PI X tg (.Call (.Name "range" p) [e] [] pos) (upI K (dRng1 tl)) := (pi_range1 hg hm ha hs).imp fun σ H R h => by
  obtain ⟨M, P, H0, σ0, env, ts, RR, rel, ht, hq⟩ := h
  refine ⟨M, P, H0, σ0, env, ts, _, rel, ht, fun ss env1 vs H1 h1 hl rel1 => ?_⟩
  obtain ⟨s, j, rfl, e1, b1, b2, hR⟩ := h1
  match vs, hl with
  | [v], _ =>
    have w := (rel1.view (v := v) (by simp) e1).int
    exact ⟨j, by rw [w], b1, b2, hq _ _ _ _ [] hR (by simpa using rel1.drop) iter_range⟩
def sqD (b : Bool) (ds : List PyData) : PyData := if b then .tuple ds else .list ds
def dEnum (b : Bool) (ta : DA) : DI := fun env RR => ta env fun ss env1 => ∃ s ds, ss = [s] ∧ keepOf env1 s = some (sqD b ds) ∧ RR (enumD ds) env1
theorem qi_enum (b : Bool) {es : List Expr} {kk : Nat} {tpos : Pos} (hK : X.K = K) (hg : Gl X "enumerate") (hm : X.mg "enumerate" = none) (ha : PA X [e] (upA K tl)) (hs : starEach [e] X.env = [(false, eval e X.env)] := by rfl) :
    PI X (.Tuple es kk tpos) (.Call (.Name "enumerate" p) [e] [] pos) (upI K (dEnum b tl)) := (kiEnum (K := K) hK b hg hm ha hs).imp fun σ H R h => by
  obtain ⟨M, P, H0, σ0, env, ts, RR, rel, ht, hq⟩ := h
  refine ⟨M, P, H0, σ0, env, ts, _, rel, ht, fun ss env1 vs H1 h1 hl rel1 => ?_⟩
  obtain ⟨s, ds, rfl, k, hR⟩ := h1
  match vs, hl with
  | [v], _ =>
    have dn := rel1.kept (v := v) (s := s) (by simp) k
    have r2 := rel1.drop.addFr dn
    have hv : ∃ a, v = .ref a := by
      cases b with
      | false => obtain ⟨a, _, e, _⟩ := DN.list dn; exact ⟨a, e⟩
      | true => obtain ⟨a, _, e, _⟩ := DN.tuple dn; exact ⟨a, e⟩
    obtain ⟨a, rfl⟩ := hv
    obtain ⟨xs, sq, _⟩ := seq_item (b := b) (a := a) (ds := ds) r2 (List.mem_append_right _ (by simp [sqD]))
    exact ⟨a, xs, rfl, sq, hq _ _ _ _ _ hR r2 iter_enum⟩
def dZip (b c : Bool) (ta : DA) : DI := fun env RR => ta env fun ss env1 => ∃ s s' ds es, ss = [s, s'] ∧ keepOf env1 s = some (sqD b ds) ∧ keepOf env1 s' = some (sqD c es) ∧ RR (zipD ds es) env1
theorem qi_zip (b c : Bool) {es : List Expr} {kk : Nat} {tpos : Pos} (hK : X.K = K) (hg : Gl X "zip") (hm : X.mg "zip" = none) (ha : PA X [e1, e2] (upA K tl))
    (hs : starEach [e1, e2] X.env = [(false, eval e1 X.env), (false, eval e2 X.env)] := by rfl) (hs2 : starEach [e2] X.env = [(false, eval e2 X.env)] := by rfl) :
    PI X (.Tuple es kk tpos) (.Call (.Name "zip" p) [e1, e2] [] pos) (upI K (dZip b c tl)) := (kiZip (K := K) hK b c hg hm ha hs hs2).imp fun σ H R h => by
  obtain ⟨M, P, H0, σ0, env, ts, RR, rel, ht, hq⟩ := h
  refine ⟨M, P, H0, σ0, env, ts, _, rel, ht, fun ss env1 vs H1 h1 hl rel1 => ?_⟩
  obtain ⟨s, s', ds, es', rfl, k1, k2, hR⟩ := h1
  match vs, hl, rel1 with
  | [v, v'], hl, rel1 =>
    have dns := rel1.keptAll (vs := [v, v']) (ds := [sqD b ds, sqD c es']) hl (fun p hp => hp) (by simp [keepsOf, k1, k2])
    have r2 := rel1.drop.addFrs dns
    have r2 : Rel K M P H0 σ0 σ env1 (ts ++ [(v, .fr (sqD b ds)), (v', .fr (sqD c es'))]) H1 := by simpa using r2
    cases dns with
    | cons dn q =>
      cases q with
      | cons dn' q =>
        cases q
        have hv : ∃ a, v = .ref a := by
          cases b with
          | false => obtain ⟨a, _, e, _⟩ := DN.list dn; exact ⟨a, e⟩
          | true => obtain ⟨a, _, e, _⟩ := DN.tuple dn; exact ⟨a, e⟩
        have hv' : ∃ a, v' = .ref a := by
          cases c with
          | false => obtain ⟨a, _, e, _⟩ := DN.list dn'; exact ⟨a, e⟩
          | true => obtain ⟨a, _, e, _⟩ := DN.tuple dn'; exact ⟨a, e⟩
        obtain ⟨a, rfl⟩ := hv
        obtain ⟨a', rfl⟩ := hv'
        obtain ⟨xs, sq, _⟩ := seq_item (b := b) (a := a) (ds := ds) r2 (List.mem_append_right _ (by simp [sqD]))
        obtain ⟨xs', sq', _⟩ := seq_item (b := c) (a := a') (ds := es') r2 (List.mem_append_right _ (by simp [sqD]))
        exact ⟨a, a', xs, xs', rfl, sq, sq', hq _ _ _ _ _ hR r2 iter_zip⟩
theorem Rel.dropMid {t : V × Sl} (h : Rel K M P H0 σ0 σ env (ts ++ kp ++ [t]) H) : Rel K M P H0 σ0 σ env (ts ++ [t]) H := by
  refine ⟨?_, h.len, fun w i m => h.vw w i (by
    rcases List.mem_append.mp m with m | m
    · exact List.mem_append_left _ (List.mem_append_left _ m)
    · exact List.mem_append_right _ m), h.ios⟩
  have hE := h.e
  rw [ents_app, ents_app] at hE
  rw [ents_app]
  refine hE.sub (fun x s m => .inl ?_) ?_
  · rcases List.mem_append.mp m with m | m
    · exact List.mem_append_left _ (List.mem_append_left _ m)
    · exact List.mem_append_right _ m
  · have nd := hE.nd
    rw [oas_app, oas_app] at nd
    rw [oas_app]
    obtain ⟨n1, n2, n3⟩ := List.nodup_append.mp nd
    exact List.nodup_append.mpr ⟨(List.nodup_append.mp n1).1, n2, fun x hx y hy => n3 x (List.mem_append_left _ hx) y hy⟩
def FD (ds : List PyData) (g : DG) (tb : DS) : DS := fun DD env => ∃ W : Nat → List Sl → Prop, W 0 env ∧
  (∀ i env, (h : i < ds.length) → W i env → g ds[i] env fun env2 => tb { DD with nx := W (i + 1), ct := W (i + 1), bk := DD.nx } env2) ∧ ∀ env, W ds.length env → DD.nx env
def dFor (it : DI) (g : DG) (tb : DS) : DS := fun DD env => it env fun ds env1 => FD ds g tb DD env1
theorem q_for {body : List Stmt} {it : DI} {g : DG} {tb : DS} (hp : PassesOwn (model X.prog X.w) X.A X.env X.xe) (hc : X.calm = true) (hi : PI X tg iter (upI K it)) (hg : PG X tg (upG K g)) (hb : PSs X body (upS K tb)) (hs : ∀ x, foldedSetIterable iter X.env x = pure x := by intro _; rfl) :
    PS X (.For tg iter body [] pos) (upS K (dFor it g tb)) := (ps_for hp hc hi hg hb hs).imp fun D σ H h => by
  obtain ⟨M, P, H0, σ0, env, ts, DD, nv, rel, ht, ok⟩ := h
  refine ⟨M, P, H0, σ0, env, ts, _, rel, ht, fun ds env1 J H1 kp hF rel1 io => ?_⟩
  obtain ⟨W, w0, turn, done⟩ := hF
  have nv2 : NoVw (ts ++ kp) := fun w i m => by
    rcases List.mem_append.mp m with m | m
    · exact nv w i m
    · exact io.nv w i m
  refine ⟨fun i m σ H => m = ds.length - i ∧ i ≤ ds.length ∧ ∃ env, W i env ∧ Rel K M P H0 σ0 σ env (ts ++ kp) H, ⟨_, rfl, Nat.zero_le _, env1, w0, rel1⟩, ?_⟩
  rintro i m σ2 H2 ⟨rfl, hle, env2, w2, rel2⟩
  by_cases hlt : i < ds.length
  · refine .inr ⟨io.go rel2 i hlt, fun σ' H' => ∃ env', W (i + 1) env' ∧ Rel K M P H0 σ0 σ' env' (ts ++ kp) H', fun σ' H' ⟨env', w', r'⟩ => ⟨ds.length - (i + 1), by omega, rfl, hlt, env', w', r'⟩, fun x H3 y => ?_⟩
    obtain ⟨sm, dn⟩ := io.yld rel2 i x H3 hlt y
    have rel3 := rel2.same sm
    refine ⟨M, P, H0, σ0, env2, ts ++ kp, ds[i], _, nv2, rel3, dn, turn i env2 hlt w2, fun σ' env' H' hR r => ?_⟩
    refine ⟨M, P, H0, σ0, env', ts ++ kp, _, nv2, r, hR, ⟨fun σ' env' H' q r => ⟨env', q, r⟩, fun s env' v σ' H' q r => ok.rt s env' v σ' H' q r.dropMid, fun σ' env' H' q r => ok.nx _ _ _ q r.drop, fun σ' env' H' q r => ⟨env', q, r⟩⟩⟩
  · have e : i = ds.length := by omega
    subst e
    exact .inl ⟨io.stop rel2, ok.nx _ _ _ (done _ w2) rel2.drop⟩
end
end L2
namespace L2
open PySem PySem.Spec PyProof.Rows
def capSl : Option Sl → Sl
  | some (.fr d) => .fr d
  | _ => .un
def capD (env : List Sl) : Option Nat → Sl
  | none => .un
  | some j => capSl env[j]?
def capE (ix : List (Option Nat)) (env : List Sl) : List Sl := ix.map (capD env)
theorem mem_zip_maps {α β γ : Type} {f : α → β} {g : α → γ} : ∀ {l : List α} {x : β} {y : γ}, (x, y) ∈ (l.map f).zip (l.map g) → ∃ o ∈ l, x = f o ∧ y = g o
  | [], _, _, h => by simp at h
  | a :: l, x, y, h => by
    have h : (x, y) ∈ (f a, g a) :: (l.map f).zip (l.map g) := h
    rcases List.mem_cons.mp h with h | h
    · cases h; exact ⟨a, List.mem_cons_self, rfl, rfl⟩
    · obtain ⟨o, ho, e⟩ := mem_zip_maps h
      exact ⟨o, List.mem_cons_of_mem _ ho, e⟩
def dYes : DT := fun env R => R true env
theorem PIf.imp {X : Cx} {ifs : List Expr} {t t' : TT} (h : PIf X ifs t) (k : ∀ σ H Q, t' σ H Q → t σ H Q) : PIf X ifs t' := fun pins s σ H Q I hw => h pins s σ H Q I (k σ H Q hw)
theorem qif_nil {X : Cx} {K : PySem.W.Frag} : PIf X [] (upT K dYes) := pif_nil.imp fun σ H Q h => by
  obtain ⟨M, P, H0, σ0, env, ts, R, rel, ht, hq⟩ := h
  exact hq _ _ _ ht rel
theorem qif_one {X : Cx} {K : PySem.W.Frag} {c : Expr} {t : DT} (h : PT X c (upT K t)) : PIf X [c] (upT K t) := pif_one h
section
variable {K : PySem.W.Frag} {M P N : Addr → Prop} {H0 H H' : Hp} {σ0 σ : St} {env : List Sl} {ts tt kp : List (V × Sl)} {v : V} {s : Sl} {d : PyData}
theorem cap_mem {ix : List (Option Nat)} {x : Option V} (rel : Rel K M P H0 σ0 σ env ts H) (m : (x, s) ∈ (capS σ ix).zip (capE ix env)) : s = .un ∨ ∃ d v, s = .fr d ∧ x = some v ∧ DN K (Nw M (ents σ env ts)) H v d := by
  obtain ⟨o, _, e1, e2⟩ := mem_zip_maps m
  cases o with
  | none => exact .inl e2
  | some j =>
    have e2 : s = capSl env[j]? := e2
    cases q : env[j]? with
    | none => rw [q] at e2; exact .inl e2
    | some s' =>
      rw [q] at e2
      cases s' with
      | fr d =>
        obtain ⟨x', e3, m3⟩ := rel.slot q
        obtain ⟨v, e4, dn⟩ := rel.e.fr _ _ m3
        refine .inr ⟨d, v, e2, ?_, dn⟩
        rw [e1]
        show (σ[j]?).join = _
        rw [e3, e4]
        rfl
      | _ => exact .inl e2
theorem cap_oas {ix : List (Option Nat)} (rel : Rel K M P H0 σ0 σ env ts H) : oas ((capS σ ix).zip (capE ix env)) = [] := by
  unfold oas
  rw [List.flatMap_eq_nil_iff]
  rintro ⟨x, s⟩ m
  rcases cap_mem rel m with e | ⟨d, v, e, e2, _⟩
  · subst e
    exact own1_un _
  · subst e e2
    exact own1_fr _ _
theorem cap_rel {ix : List (Option Nat)} (rel : Rel K M P H0 σ0 σ env ts H) : Rel K (Nw M (ents σ env ts)) (fun _ => False) H (capS σ ix) (capS σ ix) (capE ix env) [] H := by
  have oe := cap_oas (ix := ix) rel
  have ee : ents (capS σ ix) (capE ix env) [] = (capS σ ix).zip (capE ix env) := by simp [ents, tmp]
  refine ⟨⟨Keep.refl, fun a q => q, fun a z hn => rel.newAddr hn z, fun a z => z.elim, fun x d m => ?_, fun x l m => ?_, fun x l m => ?_, fun x S l m => ?_, by rw [ee, oe]; exact List.nodup_nil⟩, by simp [capS, capE], fun w i m => (by cases m), fun i l e => rfl⟩
  rotate_right
  · rw [ee] at m
    rcases cap_mem rel m with e | ⟨d', v, e, e2, dn⟩ <;> cases e
  · rw [ee] at m
    rcases cap_mem rel m with e | ⟨d', v, e, e2, dn⟩
    · cases e
    · cases e
      refine ⟨v, e2, dn.to fun b _ _ z => ?_⟩
      rcases z with z | z
      · exact z
      · rw [ee, oe] at z; cases z
  · rw [ee] at m
    rcases cap_mem rel m with e | ⟨d', v, e, e2, dn⟩ <;> cases e
  · rw [ee] at m
    rcases cap_mem rel m with e | ⟨d', v, e, e2, dn⟩ <;> cases e
theorem cap_rel1 {ix : List (Option Nat)} {k j : Nat} {s0 : Sl} {l : List PyData} (rel : Rel K M P H0 σ0 σ env ts H) (hk : ix[k]? = some (some j)) (ej : env[j]? = some s0) (eo : ownD s0 = some l) {a : Addr} (ea : σ[j]? = some (some (.ref a))) :
    Rel K (Nw M (ents σ env ts)) (fun b => b = a) H (capS σ ix) (capS σ ix) ((capE ix env).set k (.io l)) [] H := by
  have oe := cap_oas (ix := ix) rel
  have r0 := cap_rel (ix := ix) rel
  have hkl : k < ix.length := (List.getElem?_eq_some_iff.mp hk).1
  have ek : (capE ix env)[k]? = some .un := by
    unfold capE
    rw [List.getElem?_map, hk]
    show some (capSl env[j]?) = _
    rw [ej]
    cases s0 <;> first | rfl | cases eo
  have es : (capS σ ix)[k]? = some (some (.ref a)) := by
    unfold capS
    rw [List.getElem?_map, hk]
    show some ((σ[j]?).join) = _
    rw [ea]; rfl
  obtain ⟨x, A, B, e1, q1, q2⟩ := r0.split ek
  rw [es] at e1
  cases e1
  have ee : ents (capS σ ix) (capE ix env) [] = (capS σ ix).zip (capE ix env) := by simp [ents, tmp]
  have oAB : oas A = [] ∧ oas B = [] := by
    rw [← ee, q1, oas_app, oas_cons] at oe
    have oe : oas A ++ oas B = [] := oe
    exact List.append_eq_nil_iff.mp oe
  obtain ⟨a', us, ea', hH, ql⟩ := rel.mine ej eo
  rw [ea] at ea'
  cases ea'
  have ma : Nw M (ents σ env ts) a := by
    obtain ⟨x, e1, mm⟩ := rel.slot ej
    rw [ea] at e1
    cases e1
    refine .inr (mem_oas.mpr ⟨_, mm, ?_⟩)
    cases s0 <;> simp [ownD] at eo <;> exact List.mem_singleton.mpr rfl
  have oe2 : oas (A ++ (some (.ref a), Sl.io l) :: B) = [a] := by
    rw [oas_app, oas_cons, oAB.1, oAB.2]
    rfl
  have ne : ∀ b, Nw (Nw M (ents σ env ts)) (A ++ (some (.ref a), Sl.io l) :: B) b → Nw M (ents σ env ts) b := fun b z => by
    rcases z with z | z
    · exact z
    · rw [oe2, List.mem_singleton] at z; rw [z]; exact ma
  have old : ∀ x t, (x, t) ∈ A ++ (some (.ref a), Sl.io l) :: B → (x, t) = (some (.ref a), Sl.io l) ∨ (x, t) ∈ (capS σ ix).zip (capE ix env) := fun x t m => by
    rw [← ee, q1]
    rcases List.mem_append.mp m with m | m
    · exact .inr (List.mem_append_left _ m)
    · rcases List.mem_cons.mp m with m | m
      · exact .inl m
      · exact .inr (List.mem_append_right _ (List.mem_cons_of_mem _ m))
  refine ⟨⟨Keep.refl, fun a q => q, fun a z hn => rel.newAddr hn z, fun b z => by rw [z]; exact ma, fun x d m => ?_, fun x l' m => ?_, fun x l' m => ?_, fun x S l' m => ?_, by rw [q2, oe2]; simp⟩, by simp [capS, capE], fun w i m => (by cases m), fun i l' e => rfl⟩
  rotate_right
  · rw [q2] at m
    rcases old _ _ m with m | m
    · cases m
    · rcases cap_mem rel m with e | ⟨d', v, e, e2, dn⟩ <;> cases e
  · rw [q2] at m ⊢
    rcases old _ _ m with m | m
    · cases m
    · rcases cap_mem rel m with e | ⟨d', v, e, e2, dn⟩
      · cases e
      · cases e
        exact ⟨v, e2, dn.to fun b _ _ z => ne b z⟩
  · rw [q2] at m
    rcases old _ _ m with m | m
    · cases m
    · rcases cap_mem rel m with e | ⟨d', v, e, e2, dn⟩ <;> cases e
  · rw [q2] at m ⊢
    rcases old _ _ m with m | m
    · cases m
      exact ⟨a, us, rfl, hH, ql.to fun b _ _ z => ne b z, rfl⟩
    · rcases cap_mem rel m with e | ⟨d', v, e, e2, dn⟩ <;> cases e
end
def CD (ds : List PyData) (ix : List (Option Nat)) (g : DG) (tt : DT) (te : DE) (env : List Sl) (R : Sl → List Sl → Prop) : Prop := ∃ W : Nat → List PyData → Prop, W 0 [] ∧
  (∀ i rs, (h : i < ds.length) → W i rs → rs.length < sizeLine ∧ g ds[i] (capE ix env) fun b1 => tt b1 fun k b2 => if k = true then te b2 fun s b3 => ∃ d, keepOf b3 s = some d ∧ W (i + 1) (rs ++ [d]) else W (i + 1) rs) ∧ ∀ rs, W ds.length rs → R (.ow rs) env
def dComp (it : DI) (ix : List (Option Nat)) (g : DG) (tt : DT) (te : DE) : DE := fun env R => it env fun ds env1 => CD ds ix g tt te env1 R
def CD1 (k j : Nat) (ds : List PyData) (ix : List (Option Nat)) (g : DG) (tt : DT) (te : DE) (env : List Sl) (R : Sl → List Sl → Prop) : Prop := ∃ W : Nat → List PyData → List PyData → Prop, ∃ s0 l0, env[j]? = some s0 ∧ ownD s0 = some l0 ∧ W 0 [] l0 ∧
  (∀ i rs l, (h : i < ds.length) → W i rs l → rs.length < sizeLine ∧ ∃ s, setSl s0 l = some s ∧ g ds[i] ((capE ix (env.set j s)).set k (.io l)) fun b1 => tt b1 fun kk b2 => if kk = true then te b2 fun s b3 => ∃ d l', keepOf b3 s = some d ∧ b3[k]? = some (.io l') ∧ W (i + 1) (rs ++ [d]) l' else ∃ l', b2[k]? = some (.io l') ∧ W (i + 1) rs l') ∧
  ∀ rs l, W ds.length rs l → ∃ s, setSl s0 l = some s ∧ R (.ow rs) (env.set j s)
def dComp1 (k j : Nat) (it : DI) (ix : List (Option Nat)) (g : DG) (tt : DT) (te : DE) : DE := fun env R => it env fun ds env1 => CD1 k j ds ix g tt te env1 R
section
variable {K : PySem.W.Frag}
theorem comp_up {it : DI} {ix : List (Option Nat)} {g : DG} {tt : DT} {te : DE} : ∀ σ H Q, up K (dComp it ix g tt te) σ H Q → tComp (upI K it) ix (upG K g) (upT K tt) (up K te) σ H Q := fun σ H Q h => by
  obtain ⟨M, P, H0, σ0, env, ts, R, rel, ht, hq⟩ := h
  refine ⟨M, P, H0, σ0, env, ts, _, rel, ht, fun ds env1 J H1 kp hF rel1 io => ?_⟩
  obtain ⟨W, w0, turn, done⟩ := hF
  refine ⟨fun i m ys H => m = ds.length - i ∧ i ≤ ds.length ∧ ∃ rs, W i rs ∧ DNs K (Nw M (ents σ env1 (ts ++ kp))) H ys rs ∧ Rel K M P H0 σ0 σ env1 (ts ++ kp) H, ⟨_, rfl, Nat.zero_le _, [], w0, .nil, rel1⟩, ?_⟩
  rintro i m ys H2 ⟨rfl, hle, rs, w2, dns, rel2⟩
  by_cases hlt : i < ds.length
  · obtain ⟨hz, tr⟩ := turn i rs hlt w2
    refine .inr ⟨io.go rel2 i hlt, by rw [dns.len]; exact hz, fun ys' H' => ∃ rs', W (i + 1) rs' ∧ DNs K (Nw M (ents σ env1 (ts ++ kp))) H' ys' rs' ∧ Rel K M P H0 σ0 σ env1 (ts ++ kp) H', fun ys' H' ⟨rs', a, b, c⟩ => ⟨ds.length - (i + 1), by omega, rfl, hlt, rs', a, b, c⟩, fun x H3 y => ?_⟩
    obtain ⟨sm, dn⟩ := io.yld rel2 i x H3 hlt y
    have rel3 := rel2.same sm
    have rb := cap_rel (ix := ix) rel3
    have oe := cap_oas (ix := ix) rel3
    have nb : ∀ b, Nw (Nw M (ents σ env1 (ts ++ kp))) (ents (capS σ ix) (capE ix env1) []) b → Nw M (ents σ env1 (ts ++ kp)) b := fun b z => by
      rcases z with z | z
      · exact z
      · have ee : ents (capS σ ix) (capE ix env1) [] = (capS σ ix).zip (capE ix env1) := by simp [ents, tmp]
        rw [ee, oe] at z; cases z
    refine ⟨_, _, _, _, capE ix env1, [], ds[i], _, fun w i m => (by cases m), rb, dn.to fun b _ _ z => nb b z, tr, fun σ2 b1 H4 h4 rel4 => ?_⟩
    refine ⟨_, _, _, _, b1, [], _, rel4, h4, fun kk b2 H5 h5 rel5 => ?_⟩
    cases kk with
    | false =>
      have k5 : Same H3 H5 := (rel5.e.keep.mono (M := N0) fun b z => z).none
      exact ⟨rs, h5, dns.keep (Keep.same (sm.trans k5)), rel3.same k5⟩
    | true =>
      refine ⟨_, _, _, _, b2, [], _, rel5, h5, fun s b3 v H6 h6 rel6 => ?_⟩
      obtain ⟨d, kd, w6⟩ := h6
      have k6 : Same H3 H6 := (rel6.e.keep.mono (M := N0) fun b z => z).none
      have dn6 := rel6.kept (ts := []) (tt := [] ++ [(v, s)]) (v := v) (s := s) (by simp) kd
      exact ⟨rs ++ [d], w6, (dns.keep (Keep.same (sm.trans k6))).app (.cons (dn6.to fun b _ _ z => .inl z) .nil), rel3.same k6⟩
  · have e : i = ds.length := by omega
    subst e
    exact .inl ⟨io.stop rel2, fun p hp => hq _ _ _ _ (done _ w2) (rel2.resOw hp dns)⟩
theorem comp1_up {k j : Nat} {it : DI} {ix : List (Option Nat)} {g : DG} {tt : DT} {te : DE} (hk : ix[k]? = some (some j)) : ∀ σ H Q, up K (dComp1 k j it ix g tt te) σ H Q → tComp (upI K it) ix (upG K g) (upT K tt) (up K te) σ H Q := fun σ H Q h => by
  obtain ⟨M, P, H0, σ0, env, ts, R, rel, ht, hq⟩ := h
  refine ⟨M, P, H0, σ0, env, ts, _, rel, ht, fun ds env1 J H1 kp hF rel1 io => ?_⟩
  obtain ⟨W, s0, l0, ej, eo, w0, turn, done⟩ := hF
  have hjl : j < env1.length := (List.getElem?_eq_some_iff.mp ej).1
  have set0 : setSl s0 l0 = some s0 := by cases s0 <;> simp [ownD] at eo <;> (subst eo; rfl)
  have env0 : env1.set j s0 = env1 := by
    rw [← (List.getElem?_eq_some_iff.mp ej).2]
    exact List.set_getElem_self hjl
  obtain ⟨a, us0, ea, _, _⟩ := rel1.mine ej eo
  have neq : ∀ {ls : List PyData} {s : Sl}, setSl s0 ls = some s → Nw M (ents σ (env1.set j s) (ts ++ kp)) = Nw M (ents σ env1 (ts ++ kp)) := fun {ls s} es => by
    obtain ⟨x, A, B, e3, sp1, sp2⟩ := rel1.split ej
    rw [ea] at e3
    cases e3
    rw [sp1, sp2]
    have oa : own1 (some (.ref a), s0) = [a] ∧ own1 (some (.ref a), s) = [a] := by
      cases s0 <;> simp [setSl] at es <;> (subst es; exact ⟨rfl, rfl⟩)
    unfold Nw
    rw [oas_app, oas_app, oas_cons, oas_cons, oa.1, oa.2]
  refine ⟨fun i m ys H => m = ds.length - i ∧ i ≤ ds.length ∧ ∃ rs l s, setSl s0 l = some s ∧ W i rs l ∧ DNs K (Nw M (ents σ env1 (ts ++ kp))) H ys rs ∧ Rel K M P H0 σ0 σ (env1.set j s) (ts ++ kp) H, ⟨_, rfl, Nat.zero_le _, [], l0, s0, set0, w0, .nil, by rw [env0]; exact rel1⟩, ?_⟩
  rintro i m ys H2 ⟨rfl, hle, rs, l, s, es, w2, dns, rel2⟩
  by_cases hlt : i < ds.length
  · obtain ⟨hz, s', es', tr⟩ := turn i rs l hlt w2
    rw [es] at es'
    cases es'
    have eos : ownD s = some l := by cases s0 <;> simp [setSl] at es <;> (subst es; rfl)
    have ejs : (env1.set j s)[j]? = some s := List.getElem?_set_self hjl
    refine .inr ⟨io.go rel2 i hlt, by rw [dns.len]; exact hz, fun ys' H' => ∃ rs' l' s', setSl s0 l' = some s' ∧ W (i + 1) rs' l' ∧ DNs K (Nw M (ents σ env1 (ts ++ kp))) H' ys' rs' ∧ Rel K M P H0 σ0 σ (env1.set j s') (ts ++ kp) H',
      fun ys' H' ⟨rs', l', s', z, a, b, c⟩ => ⟨ds.length - (i + 1), by omega, rfl, hlt, rs', l', s', z, a, b, c⟩, fun x H3 y => ?_⟩
    obtain ⟨sm, dn⟩ := io.yld rel2 i x H3 hlt y
    have rel3 := rel2.same sm
    have rb := cap_rel1 (ix := ix) rel3 hk ejs eos ea
    have ma : Nw M (ents σ (env1.set j s) (ts ++ kp)) a := by
      obtain ⟨x, e1, mm⟩ := rel3.slot ejs
      rw [ea] at e1
      cases e1
      refine .inr (mem_oas.mpr ⟨_, mm, ?_⟩)
      cases s <;> simp [ownD] at eos <;> exact List.mem_singleton.mpr rfl
    have nb : ∀ b, Nw (Nw M (ents σ (env1.set j s) (ts ++ kp))) (ents (capS σ ix) ((capE ix (env1.set j s)).set k (.io l)) []) b → Nw M (ents σ (env1.set j s) (ts ++ kp)) b := fun b z => by
      rcases z with z | z
      · exact z
      · obtain ⟨_, _, hP⟩ := rb.e.own z
        rcases hP with q | q
        · obtain ⟨vs, q2, _⟩ := rb.e.own z
          rw [q] at q2; cases q2
        · rw [q]; exact ma
    have after : ∀ {σ2 : St} {b3 : List Sl} {t3 : List (V × Sl)} {H6 : Hp} {l' : List PyData}, Rel K (Nw M (ents σ (env1.set j s) (ts ++ kp))) (fun b => b = a) H3 (capS σ ix) σ2 b3 t3 H6 → b3[k]? = some (.io l') →
        ∃ s', setSl s0 l' = some s' ∧ Rel K M P H0 σ0 σ (env1.set j s') (ts ++ kp) H6 ∧ ∀ {ys : List V} {rs : List PyData}, DNs K (Nw M (ents σ env1 (ts ++ kp))) H3 ys rs → DNs K (Nw M (ents σ env1 (ts ++ kp))) H6 ys rs := fun {σ2 b3 t3 H6 l'} r6 e6 => by
      obtain ⟨x6, e7, m7⟩ := r6.slot e6
      have e8 := r6.ios _ _ e6
      have ecap : (capS σ ix)[k]? = some (some (.ref a)) := by
        unfold capS
        rw [List.getElem?_map, hk]
        show some ((σ[j]?).join) = _
        rw [ea]; rfl
      rw [e7, ecap] at e8
      cases e8
      obtain ⟨a', us', z, hH', ql', _⟩ := r6.e.io _ _ m7
      cases z
      obtain ⟨x, A, B, e3, sp1, sp2⟩ := rel3.split ejs
      rw [ea] at e3
      cases e3
      have hs' : ∃ s', setSl s0 l' = some s' ∧ isOw s l' s' := by
        cases s0 <;> simp [setSl] at es <;> (subst es; exact ⟨_, rfl, rfl⟩)
      obtain ⟨s', es', iso⟩ := hs'
      have hE := rel3.e
      rw [sp1] at hE
      have dnl : DNs K (Nw M (A ++ (some (.ref a), s) :: B)) H6 us' l' := ql'.to fun b _ _ z => .inl (by rw [sp1]; exact z)
      have hM := hE.muted iso r6.e.keep r6.e.live hH' dnl
      rw [← sp2] at hM
      have e9 : (env1.set j s).set j s' = env1.set j s' := List.set_set ..
      refine ⟨s', es', ⟨by rw [← e9]; exact hM, by simp [rel1.len], rel3.vw, fun q l2 e' => ?_⟩, fun {ys rs} q => q.keep (r6.e.keep.mono fun b z => ?_)⟩
      · by_cases hj : j = q
        · subst hj
          rw [List.getElem?_set_self hjl] at e'
          cases e'
          cases s0 with
          | io ds0 => exact rel1.ios _ ds0 ej
          | _ => simp [setSl] at es'
        · rw [List.getElem?_set_ne hj] at e'
          exact rel1.ios q l2 e'
      · rw [z, ← neq es]; exact ma
    have dn3 := dns.keep (Keep.same sm)
    refine ⟨_, _, _, _, _, [], ds[i], _, fun w i m => (by cases m), rb, dn.to fun b _ _ z => nb b z, tr, fun σ2 b1 H4 h4 rel4 => ?_⟩
    refine ⟨_, _, _, _, b1, [], _, rel4, h4, fun kk b2 H5 h5 rel5 => ?_⟩
    cases kk with
    | false =>
      obtain ⟨l', e5, w5⟩ := h5
      obtain ⟨s', es', r', kd⟩ := after rel5 e5
      exact ⟨rs, l', s', es', w5, kd dn3, r'⟩
    | true =>
      refine ⟨_, _, _, _, b2, [], _, rel5, h5, fun s6 b3 v H6 h6 rel6 => ?_⟩
      obtain ⟨d, l', kdd, e6, w6⟩ := h6
      obtain ⟨s', es', r', kd⟩ := after rel6 e6
      have dn6 := rel6.kept (ts := []) (tt := [] ++ [(v, s6)]) (v := v) (s := s6) (by simp) kdd
      exact ⟨rs ++ [d], l', s', es', w6, (kd dn3).app (.cons (dn6.to fun b _ _ z => .inl (by rw [neq es]; exact z)) .nil), r'⟩
  · have e : i = ds.length := by omega
    subst e
    refine .inl ⟨io.stop rel2, fun p hp => ?_⟩
    obtain ⟨s', es', hR⟩ := done _ _ w2
    rw [es] at es'
    cases es'
    exact hq _ _ _ _ hR (rel2.resOw hp (by rw [neq es]; exact dns))
end
section
variable {K : PySem.W.Frag} {X : Cx} {N' : List Str} {ix : List (Option Nat)} {sc : Scope} {tg iter elt : Expr} {ifs : List Expr} {pos : Pos} {it : DI} {g : DG} {tt : DT} {te : DE}
theorem q_comp (hc : X.calm = true) (S : BScope X.N X.env N' ix sc) (hi : PI X tg iter (upI K it))
    (hg : ∀ s H C fp, PG (bCx X N' sc s H C fp) tg (upG K g)) (ht : ∀ s H C fp, PIf (bCx X N' sc s H C fp) ifs (upT K tt)) (he : ∀ s H C fp, PE (bCx X N' sc s H C fp) elt (up K te))
    (hs : ∀ x, foldedSetIterable iter X.env x = pure x := by intro _; rfl) : PE X (.ListComp elt [⟨tg, iter, ifs, 0⟩] sc pos) (up K (dComp it ix g tt te)) := (pe_comp hc S hi hg ht he hs).imp comp_up
theorem set_up {i : Nat} {t : TE} {td : DE} (h : ∀ σ H Q, up K td σ H Q → t σ H Q) : ∀ D σ H, upS K (dSet i td) D σ H → tAsg t (gName i) D σ H := fun D σ H hh => by
  obtain ⟨M, P, H0, σ0, env, ts, DD, nv, rel, ht, ok⟩ := hh
  refine h _ _ _ ⟨M, P, H0, σ0, env, ts, _, rel, ht, fun s1 env1 v1 H1 h1 rel1 => ?_⟩
  obtain ⟨s', hl, es, hR⟩ := h1
  obtain ⟨r, cs⟩ := rel1.unVw es
  exact ok.nx _ _ _ hR (r.store nv hl cs)
theorem q_setComp {i : Nat} {y : Str} {spos py : Pos} (hN : X.N.Nodup) (hi' : X.N[i]? = some y) (hy : X.env.scope.names.lookup y = some .local) (hc : X.calm = true) (S : BScope X.N X.env N' ix sc) (hi : PI X tg iter (upI K it))
    (hg : ∀ s H C fp, PG (bCx X N' sc s H C fp) tg (upG K g)) (ht : ∀ s H C fp, PIf (bCx X N' sc s H C fp) ifs (upT K tt)) (he : ∀ s H C fp, PE (bCx X N' sc s H C fp) elt (up K te))
    (hsw : swapsWith (.ListComp elt [⟨tg, iter, ifs, 0⟩] sc pos) (some (.Name y py)) spos.line X.env = pure true := by rfl)
    (hs : ∀ x, foldedSetIterable iter X.env x = pure x := by intro _; rfl) : PS X (.Assign [.Name y py] (.ListComp elt [⟨tg, iter, ifs, 0⟩] sc pos) spos) (upS K (dSet i (dComp it ix g tt te))) := (ps_setComp hN hi' hy hc S hi hg ht he hsw hs).imp (set_up comp_up)
theorem q_setComp1 {i : Nat} {y : Str} {spos py : Pos} (k j : Nat) (hk : ix[k]? = some (some j)) (hN : X.N.Nodup) (hi' : X.N[i]? = some y) (hy : X.env.scope.names.lookup y = some .local) (hc : X.calm = true) (S : BScope X.N X.env N' ix sc) (hi : PI X tg iter (upI K it))
    (hg : ∀ s H C fp, PG (bCx X N' sc s H C fp) tg (upG K g)) (ht : ∀ s H C fp, PIf (bCx X N' sc s H C fp) ifs (upT K tt)) (he : ∀ s H C fp, PE (bCx X N' sc s H C fp) elt (up K te))
    (hsw : swapsWith (.ListComp elt [⟨tg, iter, ifs, 0⟩] sc pos) (some (.Name y py)) spos.line X.env = pure true := by rfl)
    (hs : ∀ x, foldedSetIterable iter X.env x = pure x := by intro _; rfl) : PS X (.Assign [.Name y py] (.ListComp elt [⟨tg, iter, ifs, 0⟩] sc pos) spos) (upS K (dSet i (dComp1 k j it ix g tt te))) := (ps_setComp hN hi' hy hc S hi hg ht he hsw hs).imp (set_up (comp1_up hk))
end
end L2
namespace L2
open PySem PySem.Spec PyProof.Rows
def truD : PyData → Option Bool
  | .none => some false
  | .bool b => some b
  | .int i => some (i != 0)
  | .list ds => some (!ds.isEmpty)
  | .tuple ds => some (!ds.isEmpty)
  | _ => none
section
variable {K : PySem.W.Frag} {M P N : Addr → Prop} {H0 H H' : Hp} {E A B : List Ent} {σ0 σ : St} {env : List Sl} {ts tt kp : List (V × Sl)} {v : V} {s : Sl} {d : PyData} {X : Cx} {pos p : Pos} {e e1 e2 a : Expr} {es : List Expr} {te tj : DE} {tl : DA}
def kindS : PyData → String
  | .none => "NoneType"
  | .bool _ => "bool"
  | .int _ => "int"
  | .str _ => "str"
  | .list _ => "list"
  | .tuple _ => "tuple"
  | .dict _ => "dict"
inductive KindV (K : PySem.W.Frag) (H : Hp) : V → String → Prop
  | non : KindV K H .non "NoneType"
  | bl (b : Bool) : KindV K H (.bl b) "bool"
  | int (b : Int) : KindV K H (.int b) "int"
  | str (b : Str) : KindV K H (.str b) "str"
  | lst {a : Addr} {xs : List V} : SqL K H a xs → KindV K H (.ref a) "list"
  | tup {a : Addr} {xs : List V} : SqT K H a xs → KindV K H (.ref a) "tuple"
theorem call_isK (hK : X.K = K) : CallR X (.builtin "isinstance") (fun xs H Q => ∃ (x : V) (t n : String) (b : Bool), xs = [x, .ty n] ∧ KindV K H x t ∧ PySem.W.kitOne K (.type t) (.type n) = some b ∧ Q (.bl b) H) := by
  subst hK
  intro pins s σ H xs us Q I r h
  obtain ⟨x, t, n, b, rfl, ty, e, q⟩ := h
  obtain ⟨u, w', rfl, ru, rw'⟩ := vals2 r
  cases (show w' = Value.type n from rw')
  have fin : ∀ tk, EP X pins σ Q (.bool b) { s with toks := tk } := fun tk => ⟨.bl b, H, I.tok tk, rfl, q⟩
  cases ty with
  | non => cases (show u = Value.none from ru); exact PySem.W.kia_one PySem.W.kitx_none I.kIn True.intro e (fun z => nomatch z) fin
  | bl y => cases (show u = Value.bool y from ru); exact PySem.W.kia_one PySem.W.kitx_bool I.kIn True.intro e (fun z => nomatch z) fin
  | int i => obtain ⟨t, q⟩ := (show ∃ t, u = Value.int i t from ru); cases q; exact PySem.W.kia_one PySem.W.kitx_int I.kIn True.intro e (fun z => nomatch z) fin
  | str y => obtain ⟨t, q⟩ := (show ∃ t, u = Value.str y t from ru); cases q; exact PySem.W.kia_one PySem.W.kitx_str I.kIn True.intro e (fun z => nomatch z) fin
  | @lst a xs hs =>
    cases (show u = Value.ref a from ru)
    obtain ⟨its, _, ⟨o, n', h1, h2, _, _⟩, _⟩ := I.list hs
    exact PySem.W.kia_one PySem.W.kitx_list I.kIn ⟨o, h1, h2⟩ e (fun z => nomatch z) fin
  | @tup a xs hs =>
    cases (show u = Value.ref a from ru)
    obtain ⟨its, _, ⟨o, h1, h2, _⟩, _⟩ := I.tuple hs
    exact PySem.W.kia_one PySem.W.kitx_tuple I.kIn ⟨o, h1, h2⟩ e (fun z => nomatch z) fin
def isK (n : String) (d : PyData) : Bool := (kindS d == n) || (n == "int" && kindS d == "bool")
theorem kit_int (d : PyData) : PySem.W.kitOne K (.type (kindS d)) (.type "int") = some (isK "int" d) := by cases d <;> rfl
theorem kit_bool (d : PyData) : PySem.W.kitOne K (.type (kindS d)) (.type "bool") = some (isK "bool" d) := by cases d <;> rfl
theorem kit_tuple (d : PyData) : PySem.W.kitOne K (.type (kindS d)) (.type "tuple") = some (isK "tuple" d) := by cases d <;> rfl
theorem Vw.kind (w : Vw K N H v d) (hd : ∀ kvs, d ≠ .dict kvs) : KindV K H v (kindS d) := by
  cases d with
  | none => rw [w.none]; exact .non
  | bool b => rw [w.bool]; exact .bl b
  | int b => rw [w.int]; exact .int b
  | str b => rw [w.str]; exact .str b
  | list ds => obtain ⟨a, vs, rfl, s, q⟩ := w.list; exact .lst s
  | tuple ds => obtain ⟨a, vs, rfl, s, q⟩ := w.tuple; exact .tup s
  | dict kvs => exact absurd rfl (hd kvs)
def notD : PyData → Bool
  | .dict _ => false
  | _ => true
theorem notD.no {d : PyData} (h : notD d = true) : ∀ kvs, d ≠ .dict kvs := fun kvs e => by subst e; cases h
def dIs (n : String) (te : DE) : DE := fun env R => te env fun s env1 => ∃ d, valOf env1 s = some d ∧ notD d = true ∧ R (.fr (.bool (isK n d))) env1
theorem q_isT {n : Str} {T : String} {np : Pos} (hK : X.K = K) (kit : ∀ d, PySem.W.kitOne K (.type (kindS d)) (.type T) = some (isK T d)) (hg : Gl X "isinstance") (hm : X.mg "isinstance" = none) (hgn : Gl X n) (hmn : X.mg n = none) (hbn : bootBuiltins n = some (.type T)) (ha : PE X a (up K te))
    (he : starEach [a, .Name n np] X.env = (false, eval a X.env) :: starEach [.Name n np] X.env := by rfl) (he2 : starEach [.Name n np] X.env = (false, eval (.Name n np) X.env) :: starEach [] X.env := by rfl)
    (hnn : n ≠ "__name__" := by decide) (hnd : (n == ("__debug__" : Str)) = false := by decide) (hpl : (backTo pos (starEach [.Name n np] X.env)).any (·.1) = false := by rfl) :
    PE X (.Call (.Name "isinstance" p) [a, .Name n np] [] pos) (up K (dIs T te)) :=
  (pe_callB (call_isK hK) hg hm PyProof.Rows.boot_isinstance (pa_cons ha (pa_cons (pe_bltn (v := .ty T) hgn hmn hbn rfl hnn hnd) pa_nil he2) he) (by decide) (by decide) he hpl).imp fun σ H Q h => by
  obtain ⟨M, P, H0, σ0, env, ts, R, rel, ht, hq⟩ := h
  refine ⟨M, P, H0, σ0, env, ts, _, rel, ht, fun s1 env1 v1 H1 h1 rel1 => ?_⟩
  obtain ⟨d, e1, nd, hR⟩ := h1
  have w := rel1.view (v := v1) (by simp) e1
  exact ⟨v1, kindS d, T, isK T d, rfl, w.kind (notD.no nd), kit d, hq _ _ _ _ hR (rel1.drop.addFr (.bl _))⟩
def dSetIx (i : Nat) (tj te : DE) : DS := fun DD env => te env fun s env1 => (∃ ds, (env1[i]?).bind ownD = some ds) ∧ tj env1 fun sj env2 => ∃ d s0 ds z j s', keepOf env2 s = some d ∧ valOf env2 sj = some (.int z) ∧ env2[i]? = some s0 ∧ ownD s0 = some ds ∧ ixN ds.length z = some j ∧
  setSl s0 (ds.set j d) = some s' ∧ DD.nx (env2.set i s')
theorem DNs.set : ∀ {vs : List V} {ds : List PyData} {x : V} {d : PyData} (j : Nat), DNs K N H vs ds → DN K N H x d → DNs K N H (vs.set j x) (ds.set j d)
  | _, _, _, _, _, .nil, _ => .nil
  | _, _, _, _, 0, .cons _ q, h => .cons h q
  | _, _, _, _, j + 1, .cons g q, h => .cons g (q.set j h)
theorem q_setIx (i : Nat) {y : Str} {npos spos : Pos} {j : Expr} (hN : X.N[i]? = some y) (hj : PE X j (up K tj)) (he : PE X e (up K te))
    (hv : Vis X.env.scope y := by first | exact Or.inl rfl | exact Or.inr (Or.inl rfl) | exact Or.inr (Or.inr rfl)) (hd : (y == ("__debug__" : Str)) = false := by decide)
    (hcd : (y == ("__classdict__" : Str)) = false := by decide)
    (ha : ∀ v, assign (.Subscript (.Name y npos) j spos) X.env v = (do
      let ov ← holding [v] (eval (.Name y npos) X.env)
      let iv ← holding [v, ov] (eval j X.env)
      standAt spos
      holding [v, ov, iv] (setItem ov iv v)
      release [v, ov, iv] []) := by intro _; rfl)
    (hs : swapsWithSole [.Subscript (.Name y npos) j spos] e pos.line X.env = pure false := by rfl) (hw : swappedStores [.Subscript (.Name y npos) j spos] e X.env = pure none := by rfl)
    (h1 : (assignEach [.Subscript (.Name y npos) j spos] X.env).map (·.2) = [assign (.Subscript (.Name y npos) j spos) X.env] := by rfl) : PS X (.Assign [.Subscript (.Name y npos) j spos] e pos) (upS K (dSetIx i tj te)) :=
  (ps_asg he (pg_sub (pe_var hN hv hd hcd) hj set_list ha) hs hw h1).imp fun D σ H h => by
  obtain ⟨M, P, H0, σ0, env, ts, DD, nv, rel, ht, ok⟩ := h
  refine ⟨M, P, H0, σ0, env, ts, _, rel, ht, fun s1 env1 v1 H1 h1 rel1 => ?_⟩
  obtain ⟨⟨ds0, h0⟩, h1⟩ := h1
  obtain ⟨s0, e0, o0⟩ := bind_own h0
  obtain ⟨a, vs, ea, hH, _⟩ := rel1.mine e0 o0
  refine ⟨.ref a, ea, M, P, H0, σ0, env1, ts ++ [(v1, s1)], _, rel1, h1, fun s2 env2 v2 H2 h2 rel2 => ?_⟩
  obtain ⟨d, s3, ds, z, jj, s', k, ez, e2, o2, ix, es, hR⟩ := h2
  have rel2' : Rel K M P H0 σ0 σ env2 (ts ++ [(v1, s1), (v2, s2)]) H2 := by simpa using rel2
  obtain ⟨a', us, ea', hH', q⟩ := rel2'.drop.mine e2 o2
  rw [ea] at ea'
  cases ea'
  have dn := rel2'.kept (v := v1) (s := s1) (by simp) k
  refine ⟨a, us, z, jj, rfl, (rel2.view (v := v2) (by simp) ez).int, hH', by rw [q.len]; exact ix, ok.nx _ _ _ hR (rel2'.drop.mut (ds := ds) e2 es ea (q.set jj dn))⟩
def resOf (env : List Sl) : Sl → Option Sl
  | .fr d => some (.fr d)
  | .ow l => some (.ow l)
  | .tr S d => some (.tr S d)
  | .vw i => (env[i]?).bind fun s => match s with
    | .fr d => some (.fr d)
    | .ow l => some (.ow l)
    | _ => none
  | _ => none
def ioOnly : Sl → Sl
  | .io l => .io l
  | _ => .un
def finD (n : Nat) (env : List Sl) : List Sl := (env.take n).map ioOnly
def endsD (n : Nat) (R : Sl → List Sl → Prop) : DEnds where
  nx := fun env => R (.fr .none) (finD n env)
  rt := fun s env => ∃ r, resOf env s = some r ∧ R r (finD n env)
def startD (n : Nat) (ss : List Sl) : List Sl := ss ++ List.replicate (n - ss.length) .un
theorem zip_start (m : Nat) : ∀ {vs : List V} {ss : List Sl}, vs.length = ss.length → (vs.map some ++ List.replicate m none).zip (ss ++ List.replicate m Sl.un) = tmp (vs.zip ss) ++ List.replicate m (none, Sl.un)
  | [], [], _ => by simp [tmp]
  | v :: vs, s :: ss, h => by
    show (some v, s) :: (vs.map some ++ List.replicate m none).zip (ss ++ List.replicate m Sl.un) = _
    rw [zip_start m (by simpa using h)]
    rfl
  | [], _ :: _, h => by simp at h
  | _ :: _, [], h => by simp at h
theorem oas_rep (m : Nat) : oas (List.replicate m ((none, Sl.un) : Ent)) = [] := by
  unfold oas
  rw [List.flatMap_eq_nil_iff]
  intro e he
  rw [(List.mem_replicate.mp he).2]
  rfl
theorem fin_sub : ∀ {vs : List V} {σ : St} {env : List Sl}, σ.length = env.length → (∀ (j : Nat) (l : List PyData), env[j]? = some (.io l) → j < vs.length → σ[j]? = (vs[j]?).map some) → (oas (tmp (vs.zip (finD vs.length env)))).Sublist (oas (σ.zip env))
  | [], σ, env, _, _ => by simp [tmp, oas]
  | v :: vs, [], [], _, _ => by simp [tmp, oas, finD]
  | v :: vs, x :: σ, s :: env, hl, h => by
    have ih := fin_sub (vs := vs) (σ := σ) (env := env) (by simpa using hl) fun j l e hj => by
      have := h (j + 1) l (by simpa using e) (by simpa using hj)
      simpa using this
    show (oas ((some v, ioOnly s) :: tmp (vs.zip (finD vs.length env)))).Sublist (oas ((x, s) :: σ.zip env))
    rw [oas_cons, oas_cons]
    cases s with
    | io l =>
      have e0 := h 0 l rfl (by simp)
      simp at e0
      subst e0
      exact List.Sublist.append (List.Sublist.refl _) ih
    | _ =>
      simp only [ioOnly, own1_un]
      exact ih.trans (List.sublist_append_right _ _)
  | _ :: _, [], _ :: _, hl, _ => by simp at hl
  | _ :: _, _ :: _, [], hl, _ => by simp at hl
theorem Rel.fin {vs : List V} {r : Sl} {n : Nat} (rel : Rel K M P H0 (start N' vs) σ env [(v, r)] H) (hn : n = vs.length) (hr : isRes r = true) : RelE K M P H0 (tmp ((v, r) :: vs.zip (finD n env))) H := by
  subst hn
  have hio : ∀ (j : Nat) (l : List PyData), env[j]? = some (.io l) → j < vs.length → σ[j]? = (vs[j]?).map some := fun j l e hj => by
    rw [rel.ios j l e]
    unfold start
    rw [List.getElem?_append_left (by simpa using hj), List.getElem?_map]
  have hE := rel.e
  refine hE.sub (fun x s m => ?_) ?_
  · rw [tmp_cons] at m
    rcases List.mem_cons.mp m with m | m
    · cases m
      exact .inl (mem_tmp (by simp))
    · obtain ⟨⟨w, s'⟩, m1, e⟩ := List.mem_map.mp m
      cases e
      obtain ⟨j, hj, e⟩ := List.getElem_of_mem m1
      rw [List.getElem_zip] at e
      have hj' := hj
      rw [List.length_zip] at hj'
      have e1 : vs[j]'(by omega) = w := (Prod.mk.inj e).1
      have e2 : (finD vs.length env)[j]'(by omega) = s' := (Prod.mk.inj e).2
      have hje : j < env.length := by
        have : (finD vs.length env).length = min vs.length env.length := by simp [finD]
        omega
      have e3 : s' = ioOnly env[j] := by
        rw [← e2]
        simp [finD]
      cases q : env[j] with
      | io l =>
        rw [q] at e3
        subst e3
        have eq : env[j]? = some (.io l) := by rw [List.getElem?_eq_getElem hje, q]
        have e4 := hio j l eq (by omega)
        obtain ⟨x, e5, m5⟩ := rel.slot eq
        rw [e5, List.getElem?_eq_getElem (by omega : j < vs.length), e1] at e4
        have e4 : x = some w := Option.some.inj e4
        subst e4
        exact .inl m5
      | _ => rw [q] at e3; subst e3; exact .inr (.inl rfl)
  · have nd := hE.nd
    have eE : ents σ env [(v, r)] = σ.zip env ++ [(some v, r)] := rfl
    rw [eE, oas_app] at nd
    obtain ⟨n1, n2, n3⟩ := List.nodup_append.mp nd
    have sub := fin_sub rel.len hio
    rw [tmp_cons, show ((some (v, r).1, (v, r).2) : Ent) :: tmp (vs.zip (finD vs.length env)) = [(some v, r)] ++ tmp (vs.zip (finD vs.length env)) from rfl, oas_app]
    exact List.nodup_append.mpr ⟨n2, n1.sublist sub, fun x hx y hy z => n3 y (sub.subset hy) x hx z.symm⟩
end
end L2
namespace L2
open PySem PySem.Spec PyProof.Rows
section
variable {K : PySem.W.Frag} {M P N : Addr → Prop} {H0 H H' : Hp} {E A B : List Ent} {σ0 σ : St} {env : List Sl} {ts tt kp : List (V × Sl)} {v : V} {s : Sl} {d : PyData}
theorem Rel.take {i : Nat} {l : List PyData} (h : Rel K M P H0 σ0 σ env [(v, .vw i)] H) (e : env[i]? = some (.ow l)) : Rel K M P H0 σ0 σ (env.set i .un) [(v, .ow l)] H := by
  obtain ⟨x, A, B, e1, q1, q2⟩ := h.split e
  have ev := h.vw v i (by simp)
  rw [e1] at ev
  have ev : x = some v := Option.some.inj ev
  subst ev
  have z1 : ents σ env [(v, .vw i)] = σ.zip env ++ [(some v, .vw i)] := rfl
  obtain ⟨x2, e3, m2⟩ := zip_at h.len e
  have ez : (σ.zip env)[i]? = some (some v, .ow l) := by rw [zip_get, e1, e]; rfl
  obtain ⟨A2, B2, r1, r2⟩ := mem_split ez
  have hE := h.e
  rw [z1, r1] at hE
  have en : ents σ (env.set i .un) [(v, .ow l)] = (A2 ++ (some v, .un) :: B2) ++ [(some v, .ow l)] := by
    show σ.zip (env.set i .un) ++ [(some v, .ow l)] = _
    rw [zip_set e1, r2]
  refine ⟨?_, by simp [h.len], fun w j m => (by rw [List.mem_singleton] at m; cases m), fun j l' e' => ?_⟩
  · rw [en]
    refine hE.sub (fun x s m => ?_) ?_
    · rcases List.mem_append.mp m with m | m
      · rcases List.mem_append.mp m with m | m
        · exact .inl (List.mem_append_left _ (List.mem_append_left _ m))
        · rcases List.mem_cons.mp m with m | m
          · cases m; exact .inr (.inl rfl)
          · exact .inl (List.mem_append_left _ (List.mem_append_right _ (List.mem_cons_of_mem _ m)))
      · rw [List.mem_singleton] at m
        cases m
        exact .inl (List.mem_append_left _ (List.mem_append_right _ List.mem_cons_self))
    · have nd := hE.nd
      have ov : oas [(some v, Sl.vw i)] = [] := by rw [oas_cons, own1_vw]; rfl
      rw [oas_app, oas_app, oas_cons, ov, List.append_nil] at nd
      have oo : oas [(some v, Sl.ow l)] = own1 (some v, Sl.ow l) := by rw [oas_cons]; simp [oas]
      rw [oas_app, oas_app, oas_cons, own1_un, oo]
      obtain ⟨n1, n2, n3⟩ := List.nodup_append.mp nd
      obtain ⟨n4, n5, n6⟩ := List.nodup_append.mp n2
      refine List.nodup_append.mpr ⟨List.nodup_append.mpr ⟨n1, n5, fun x hx y hy => n3 x hx y (List.mem_append_right _ hy)⟩, n4, fun x hx y hy z => ?_⟩
      subst z
      rcases List.mem_append.mp hx with hx | hx
      · exact n3 x hx x (List.mem_append_left _ hy) rfl
      · exact n6 x hy x hx rfl
  · by_cases hj : i = j
    · subst hj
      rw [List.getElem?_set_self (List.getElem?_eq_some_iff.mp e).1] at e'
      cases e'
    · rw [List.getElem?_set_ne hj] at e'
      exact h.ios j l' e'
theorem finD_un {i n : Nat} {l : List PyData} (e : env[i]? = some (.ow l)) : finD n (env.set i .un) = finD n env := by
  unfold finD
  apply List.ext_getElem?
  intro j
  rw [List.getElem?_map, List.getElem?_map, List.getElem?_take, List.getElem?_take]
  by_cases hj : i = j
  · subst hj
    rw [List.getElem?_set_self (List.getElem?_eq_some_iff.mp e).1, e]
    split <;> rfl
  · rw [List.getElem?_set_ne hj]
theorem Rel.told {n : Nat} {r : Sl} (h : Rel K M P H0 σ0 σ env [(v, s)] H) (e : resOf env s = some r) : ∃ env', Rel K M P H0 σ0 σ env' [(v, r)] H ∧ finD n env' = finD n env ∧ isRes r = true := by
  cases s with
  | fr d => cases e; exact ⟨env, h, rfl, rfl⟩
  | tr S d => cases e; exact ⟨env, h, rfl, rfl⟩
  | ow l => cases e; exact ⟨env, h, rfl, rfl⟩
  | vw i =>
    have e : (env[i]?).bind _ = some r := e
    cases q : env[i]? with
    | none => rw [q] at e; cases e
    | some s' =>
      rw [q] at e
      cases s' with
      | fr d =>
        cases e
        have hs : stoOf env (.vw i) = some (.fr d) := by
          show ((env[i]?).bind slK).map Sl.fr = _
          rw [q]; rfl
        have := (Rel.unVw (ts := []) (by simpa using h) hs).1
        exact ⟨env, by simpa using this, rfl, rfl⟩
      | ow l => cases e; exact ⟨env.set i .un, h.take q, finD_un q, rfl⟩
      | _ => cases e
  | _ => cases e
end
section
variable {P : Program} {w : World} {K : PySem.W.Frag} {mg : Str → Option Value} {base : Heap}
theorem okD {x : Str} {st : Stmt} {f : Addr} {fd : FuncData} {N ps : List Str} {k : Nat} {sp : DSp} (F : Fun K x x st f fd) (S : FnScope N ps (defScope st)) (len : ∀ ss R, sp ss R → ss.length = ps.length) (hN : ps.length ≤ N.length)
    (hb : ∀ (cdv : Value) (A : Around) (outer : List Env) (s : Shared) (H : Hp) (E : XK), Room k (A.deeper (envOfC x (defScope st) s.heap.objs.size f cdv)) →
      ∃ t : DS, PSs (cxOf CX0 P w K mg base N x (defScope st) f cdv A outer s H E).nox (defBody st) (upS K t) ∧ ∀ ss R, sp ss R → t (endsD ps.length R) (startD N.length ss)) : FnOk P w K mg base CX0 (k + 1) f fd ps (spD K sp) := by
  refine F.ok S (fun vs H Q E h => ?_) fun cdv A outer s H vs Q E hr h => ?_
  · obtain ⟨M, ss, R, hl, _, hsp, _⟩ := h
    rw [hl]
    exact len ss R hsp
  obtain ⟨M, ss, R, hl, hE, hsp, hq⟩ := h
  have hn := len ss R hsp
  obtain ⟨t, ht, hr'⟩ := hb cdv A outer s H E hr
  have ez : ents (start N vs) (startD N.length ss) [] = tmp (vs.zip ss) ++ List.replicate (N.length - vs.length) (none, Sl.un) := by
    show (start N vs).zip (startD N.length ss) ++ [] = _
    unfold start startD
    rw [List.append_nil, ← hl]
    exact zip_start _ hl
  refine ⟨_, ht, M, ioOf vs ss, H, start N vs, startD N.length ss, [], endsD ps.length R, fun w i m => (by cases m), ⟨?_, by simp [start, startD, hl], fun w i m => (by cases m), fun i l e => rfl⟩, hr' ss R hsp, ⟨fun σ' env' H' q r => ?_, fun s env' v σ' H' q r => ?_, fun σ' env' H' q r => (show False from q), fun σ' env' H' q r => (show False from q)⟩⟩
  · rw [ez]
    refine hE.sub (fun x s m => ?_) (by rw [oas_app, oas_rep, List.append_nil]; exact hE.nd)
    rcases List.mem_append.mp m with m | m
    · exact .inl m
    · have := (List.mem_replicate.mp m).2
      cases this
      exact .inr (.inl rfl)
  · have r2 := (Rel.addFr r (v := .non) (d := .none) .non)
    have r2 : Rel K M (ioOf vs ss) H (start N vs) σ' env' [(.non, .fr .none)] H' := by simpa using r2
    exact hq _ _ _ _ q rfl (r2.fin (by omega) rfl)
  · obtain ⟨r0, e0, hR⟩ := q
    have r1 : Rel K M (ioOf vs ss) H (start N vs) σ' env' [(v, s)] H' := by simpa using r
    obtain ⟨env2, r2, ef, hr0⟩ := r1.told (n := ps.length) e0
    exact hq r0 _ v H' hR hr0 (by rw [← ef]; exact r2.fin (by omega) hr0)
theorem calD {x : Str} {st : Stmt} {f : Addr} {fd : FuncData} {k : Nat} {ps : List Str} {sp : DSp} (F : Fun K x x st f fd) (m : mg x = some (.ref f)) (b : Binds K fd ps []) (G : FnOk P w K mg base CX0 k f fd ps (spD K sp)) : Cal P w K mg base x k (spD K sp) := Cal.mk F m b G
end
section
variable {X : Cx} {x : Str} {p pos : Pos} {e : Expr} {es : List Expr} {k : Nat} {sp : DSp} {K : PySem.W.Frag} {tl : DA}
theorem q_call (C : Cal X.prog X.w X.K X.mg X.base x k (spD K sp)) (hr : Room k X.A) (hg : Gl X x) (ha : PA X (e :: es) (upA K tl)) (hd : (x == ("__debug__" : Str)) = false := by decide)
    (he : starEach (e :: es) X.env = (false, eval e X.env) :: starEach es X.env := by rfl) (hpl : (backTo pos (starEach es X.env)).any (·.1) = false := by rfl) : PE X (.Call (.Name x p) (e :: es) [] pos) (up K (dCall sp tl)) := (pe_cal C hr hg ha hd he hpl).imp call_up
theorem q_callS (m : Nat) (C : Cal X.prog X.w X.K X.mg X.base x k (spD K sp)) (hr : Room k X.A) (hg : Gl X x) (ha : PA X (e :: es) (upA K tl)) (hd : (x == ("__debug__" : Str)) = false := by decide)
    (he : starEach (e :: es) X.env = (false, eval e X.env) :: starEach es X.env := by rfl) (hpl : (backTo pos (starEach es X.env)).any (·.1) = false := by rfl) : PE X (.Call (.Name x p) (e :: es) [] pos) (up K (dCallS sp m tl)) := (pe_cal C hr hg ha hd he hpl).imp callS_up
theorem q_callT (C : Cal X.prog X.w X.K X.mg X.base x k (spD K sp)) (hr : Room k X.A) (hg : Gl X x) (ha : PA X (e :: es) (upA K tl)) (hd : (x == ("__debug__" : Str)) = false := by decide)
    (he : starEach (e :: es) X.env = (false, eval e X.env) :: starEach es X.env := by rfl) (hpl : (backTo pos (starEach es X.env)).any (·.1) = false := by rfl) : PE X (.Call (.Name x p) (e :: es) [] pos) (up K (dCallT sp tl)) := (pe_cal C hr hg ha hd he hpl).imp callT_up
end
end L2
namespace L2
open PySem PySem.Spec PyProof.Rows
def gNeg : G1 := fun d R => ∃ i, d = .int i ∧ R (.int (-i))
theorem mNeg {K : PySem.W.Frag} : ∀ (N : Addr → Prop) (H : Hp) (x : V) (d1 : PyData) (R : PyData → Prop) (Q : VK), Vw K N H x d1 → gNeg d1 R → (∀ d v, R d → DN K N H v d → Q v H) → (rU fun i => .int (-i)) x H Q := by
  rintro N H x d R Q w ⟨i, rfl, hR⟩ hq
  exact ⟨i, w.int, hq _ _ hR (.int _)⟩
abbrev li (ns : List Int) : List PyData := ns.map .int
theorem fd_intro {ds : List PyData} {g : DG} {tb : DS} {DD : DEnds} {env : List Sl} (W : Nat → List Sl → Prop) (h0 : W 0 env)
    (hs : ∀ i env, (h : i < ds.length) → W i env → g ds[i] env fun env2 => tb { DD with nx := W (i + 1), ct := W (i + 1), bk := DD.nx } env2) (hd : ∀ env, W ds.length env → DD.nx env) : FD ds g tb DD env := ⟨W, h0, hs, hd⟩
theorem cd_map {ds : List PyData} {ix : List (Option Nat)} {g : DG} {te : DE} {env : List Sl} {R : Sl → List Sl → Prop} (f : Nat → PyData) (hz : ds.length ≤ 1000000)
    (h : ∀ i, (h : i < ds.length) → ∀ Q : PyData → Prop, Q (f i) → g ds[i] (capE ix env) fun b1 => te b1 fun s b3 => ∃ d, keepOf b3 s = some d ∧ Q d) (hR : R (.ow ((List.range ds.length).map f)) env) : CD ds ix g dYes te env R := by
  refine ⟨fun i rs => rs = (List.range i).map f ∧ i ≤ ds.length, ⟨rfl, Nat.zero_le _⟩, fun i rs hi w => ?_, fun rs w => by rw [w.1]; exact hR⟩
  obtain ⟨rfl, _⟩ := w
  refine ⟨by rw [List.length_map, List.length_range]; exact Nat.lt_of_lt_of_le (by omega) line_big, ?_⟩
  have := h i hi (fun d => (List.range i).map f ++ [d] = (List.range (i + 1)).map f ∧ i + 1 ≤ ds.length) ⟨by rw [List.range_succ, List.map_append]; rfl, hi⟩
  simpa only [dYes, if_true] using this
theorem cd_filter {ds : List PyData} {ix : List (Option Nat)} {g : DG} {tt : DT} {te : DE} {env : List Sl} {R : Sl → List Sl → Prop} (p : Nat → Bool) (f : Nat → PyData) (hz : ds.length ≤ 1000000)
    (h : ∀ i, (h : i < ds.length) → ∀ (Q : PyData → Prop) (Q' : Prop), (p i = true → Q (f i)) → (p i = false → Q') → g ds[i] (capE ix env) fun b1 => tt b1 fun k b2 => if k = true then te b2 fun s b3 => ∃ d, keepOf b3 s = some d ∧ Q d else Q')
    (hR : R (.ow (((List.range ds.length).filter p).map f)) env) : CD ds ix g tt te env R := by
  refine ⟨fun i rs => rs = ((List.range i).filter p).map f ∧ i ≤ ds.length, ⟨rfl, Nat.zero_le _⟩, fun i rs hi w => ?_, fun rs w => by rw [w.1]; exact hR⟩
  obtain ⟨rfl, _⟩ := w
  refine ⟨?_, ?_⟩
  · have := List.length_filter_le p (List.range i)
    rw [List.length_range] at this
    rw [List.length_map]
    exact Nat.lt_of_lt_of_le (by omega) line_big
  · refine h i hi _ _ (fun e => ⟨?_, hi⟩) (fun e => ⟨?_, hi⟩)
    · rw [List.range_succ, List.filter_append, List.map_append]
      simp [e]
    · rw [List.range_succ, List.filter_append, List.map_append]
      simp [e]
end L2
namespace L2
open PySem PySem.Spec PyProof.Rows
def Bg (i : Int) : Prop := i.natAbs < 2 ^ 8000
def CMulB (i j : Int) : Prop := Bg i ∧ Bg j
section
variable {X : Cx} {K : PySem.W.Frag}
end
end L2
namespace L2
open PySem
end L2
namespace L2
open PySem PySem.Spec PyProof.Rows
section
variable (env : List Sl) (d : PyData) (l : List PyData) (i n : Nat) (s : Sl) (R : Sl → List Sl → Prop)
theorem valOf_fr : valOf env (.fr d) = some d := rfl
theorem valOf_ow : valOf env (.ow l) = some (.list l) := rfl
theorem valOf_io : valOf env (.io l) = some (.list l) := rfl
theorem valOf_vw : valOf env (.vw i) = (env[i]?).bind slD := rfl
theorem slD_fr : slD (.fr d) = some d := rfl
theorem slD_ow : slD (.ow l) = some (.list l) := rfl
theorem slD_io : slD (.io l) = some (.list l) := rfl
theorem slD_un : slD .un = none := rfl
theorem slK_fr : slK (.fr d) = some d := rfl
theorem slK_ow : slK (.ow l) = none := rfl
theorem slK_io : slK (.io l) = none := rfl
theorem slK_un : slK .un = none := rfl
theorem keepOf_fr : keepOf env (.fr d) = some d := rfl
theorem keepOf_ow : keepOf env (.ow l) = some (.list l) := rfl
theorem keepOf_vw : keepOf env (.vw i) = (env[i]?).bind slK := rfl
theorem stoOf_fr : stoOf env (.fr d) = some (.fr d) := rfl
theorem stoOf_ow : stoOf env (.ow l) = some (.ow l) := rfl
theorem stoOf_vw : stoOf env (.vw i) = ((env[i]?).bind slK).map .fr := rfl
def resS : Sl → Option Sl
  | .fr d => some (.fr d)
  | .ow l => some (.ow l)
  | _ => none
theorem resOf_fr : resOf env (.fr d) = some (.fr d) := rfl
theorem resOf_ow : resOf env (.ow l) = some (.ow l) := rfl
theorem resOf_vw : resOf env (.vw i) = (env[i]?).bind resS := by
  show (env[i]?).bind _ = _
  congr 1
theorem resS_fr : resS (.fr d) = some (.fr d) := rfl
theorem resS_ow : resS (.ow l) = some (.ow l) := rfl
theorem ioOnly_fr : ioOnly (.fr d) = .un := rfl
theorem ioOnly_ow : ioOnly (.ow l) = .un := rfl
theorem ioOnly_io : ioOnly (.io l) = .io l := rfl
theorem ioOnly_un : ioOnly .un = .un := rfl
theorem endsD_rt : (endsD n R).rt s env = ∃ r, resOf env s = some r ∧ R r (finD n env) := rfl
theorem endsD_nx : (endsD n R).nx env = R (.fr .none) (finD n env) := rfl
theorem setSl_ow : setSl (.ow l) d' = some (.ow d') := rfl
theorem setSl_io : setSl (.io l) d' = some (.io d') := rfl
theorem ownD_ow : ownD (.ow l) = some l := rfl
theorem ownD_io : ownD (.io l) = some l := rfl
theorem ownD_fr : ownD (.fr d) = none := rfl
theorem ownD_un : ownD .un = none := rfl
theorem capSl_fr : capSl (some (.fr d)) = .fr d := rfl
theorem capSl_ow : capSl (some (.ow l)) = .un := rfl
theorem capSl_io : capSl (some (.io l)) = .un := rfl
theorem capSl_un : capSl (some .un) = .un := rfl
theorem capD_none : capD env none = .un := rfl
theorem capD_some : capD env (some i) = capSl env[i]? := rfl
theorem seqOf_list : seqOf (.list l) = some l := rfl
theorem seqOf_tuple : seqOf (.tuple l) = some l := rfl
theorem truD_none : truD .none = some false := rfl
theorem truD_bool (b : Bool) : truD (.bool b) = some b := rfl
theorem truD_int (i : Int) : truD (.int i) = some (i != 0) := rfl
theorem truD_list : truD (.list l) = some (!l.isEmpty) := rfl
theorem truD_tuple : truD (.tuple l) = some (!l.isEmpty) := rfl
theorem isNn_none : isNn .none = true := rfl
theorem isNn_int (i : Int) : isNn (.int i) = false := rfl
theorem isNn_bool (i : Bool) : isNn (.bool i) = false := rfl
theorem isNn_list : isNn (.list l) = false := rfl
theorem isNn_tuple : isNn (.tuple l) = false := rfl
theorem isK_int (i : Int) : isK "int" (.int i) = true := rfl
theorem isK_bool (b : Bool) : isK "bool" (.bool b) = true := rfl
theorem isK_ib (b : Bool) : isK "int" (.bool b) = true := rfl
theorem isK_bi (i : Int) : isK "bool" (.int i) = false := rfl
theorem isK_list : isK "list" (.list l) = true := rfl
theorem isK_tuple : isK "tuple" (.tuple l) = true := rfl
theorem isK_lt : isK "list" (.tuple l) = false := rfl
theorem isK_tl : isK "tuple" (.list l) = false := rfl
theorem isK_in : isK "int" .none = false := rfl
theorem isK_bn : isK "bool" .none = false := rfl
theorem keepsOf_nil : keepsOf env [] = some [] := rfl
theorem keepsOf_cons (s : Sl) (ss : List Sl) : keepsOf env (s :: ss) = (keepOf env s).bind fun d => (keepsOf env ss).bind fun ds => some (d :: ds) := rfl
theorem valsOf_nil : valsOf env [] = some [] := rfl
theorem valsOf_cons (s : Sl) (ss : List Sl) : valsOf env (s :: ss) = (valOf env s).bind fun d => (valsOf env ss).bind fun ds => some (d :: ds) := rfl
theorem eqv_ints (i j : Int) : PyData.eqv (.int i) (.int j) = decide (i = j) := by
  show (i == j) = _
  by_cases h : i = j <;> simp [h]
end
section
variable {X : Cx} {K : PySem.W.Frag} {ta : DA} {a b : Expr} {pos : Pos}
end
end L2
namespace L2
open PySem PySem.Spec PyProof.Rows
theorem atI_c0 {α : Type} (x : α) (l : List α) : atI (x :: l) 0 = some x := atI_nat (j := 0) rfl
theorem atI_c1 {α : Type} (x y : α) (l : List α) : atI (x :: y :: l) 1 = some y := atI_nat (j := 1) rfl
theorem atI_c2 {α : Type} (x y z : α) (l : List α) : atI (x :: y :: z :: l) 2 = some z := atI_nat (j := 2) rfl
theorem eqv_none : PyData.eqv .none .none = true := rfl
theorem eqv_ni (i : Int) : PyData.eqv .none (.int i) = false := rfl
theorem eqv_in (i : Int) : PyData.eqv (.int i) .none = false := rfl
theorem shp_int (i : Int) : shp (.int i) = True := by simp [shp, SeqAt.shaped, PySem.PyData.canLay0, PySem.PyData.depth]
theorem shp_none : shp .none = True := by simp [shp, SeqAt.shaped, PySem.PyData.canLay0, PySem.PyData.depth]
theorem shp_bool (b : Bool) : shp (.bool b) = True := by simp [shp, SeqAt.shaped, PySem.PyData.canLay0, PySem.PyData.depth]
end L2
namespace L2
open PySem PySem.Spec PyProof.Rows
theorem law_sp {K : PySem.W.Frag} {H : Hp} {a : Addr} {ns : List Int} {E : XK} (hS : SqL K H a (ns.map V.int)) {sp : DSp} (h : sp [.fr (.list (li ns))] (fun r _ => r = .fr (.bool true))) : spD K sp [.ref a] H (fun v _ => v = .bl true) E := by
  have dns : DNs K (fun _ => False) H [.ref a] [.list (li ns)] := .cons (DN.sqL hS) .nil
  refine ⟨fun _ => False, [.fr (.list (li ns))], _, rfl, argsFr (ds := [.list (li ns)]) dns (fun a z => z.elim), h, fun r ss' v H' hR _ post => ?_⟩
  subst hR
  obtain ⟨w, e, dn⟩ := post.fr _ _ List.mem_cons_self
  cases e
  cases dn
  rfl
theorem walkD {l : PySem.W.OpenLaw} {q : Program} {loose : List Str} {XP : (Str → Option Value) → Heap → Prop} {YP : World → Heap → Prop} {d : DefRec} {K : Params → PySem.W.Frag} {sp : DSp} {k : Nat} (hk : k ≤ 40) (hn : l.most = some 63) (hdf : d.params.defaults = [])
    (hsp : ∀ ns : List Int, ns.length ≤ 63 → sp [.fr (.list (li ns))] (fun r _ => r = .fr (.bool true)))
    (hTb : ∀ (w : World) (s₀ : Shared) (mg mb : Str → Option Value) (h : Heap), PySem.W.Ground q loose [] XP w s₀ mg mb h → (K w.params).In h → ∃ tb : List (Addr × Str), (∀ b q, tb.lookup b = some q → h.get? b = some { cls := .none, data := .fields #[] } ∧ (K w.params).lookup b = none ∧ ∃ c, h.TableAt c b #[]) ∧ ∀ T q, LamTab (K w.params) T q → tb.lookup T = some q)
    (hY : ∀ (w : World) (h : Heap), YP w h → (K w.params).In h)
    (F : ∀ (w : World) (mg : Str → Option Value) (fa : Addr) (h : Heap), (K w.params).In h → h.Ns mainGlobals mg → mg d.name = some (.ref fa) →
      ∃ fd : FuncData, (∀ (s : Shared) (u : Value), BindsTo s fd ⟨[u], []⟩ [("_law_script", u)]) ∧ ∀ base : Heap, (K w.params).In base → base.Ns mainGlobals mg → FnOk l.prog w (K w.params) mg base CX0 k fa fd ["_law_script"] (spD (K w.params) sp)) :
    PySem.W.WalkO q loose XP YP l.row.toRowW d [] (fun f vs => PySem.call f vs) := by
  refine L2.walk_of (n := 63) (k := 40) (x := "_law_script") (CX := fun _ => CX0) (sp := fun w => spD (K w.params) sp) hn (by decide) hdf ⟨rfl, by decide, by decide⟩ hTb hY (fun w mg fa h a b c => ?_) (fun w H a ns hl _ hS => law_sp hS (hsp ns hl)) fun _ _ _ _ _ z => z
  obtain ⟨fd, h1, h2⟩ := F w mg fa h a b c
  exact ⟨fd, h1, fun base x y => (h2 base x y).mono hk⟩
end L2
namespace L2
open PySem PySem.Spec PyProof.Rows
def Sh (n : Nat) (d : PyData) : Prop := d.canLay0 = true ∧ d.depth ≤ n
theorem Sh.int (n : Nat) (i : Int) : Sh n (.int i) := ⟨by simp [PyData.canLay0], by simp [PyData.depth]⟩
theorem Sh.all {n : Nat} : ∀ {ds : List PyData}, (∀ x ∈ ds, Sh n x) → PyData.canLayAll0 ds = true ∧ PyData.depthAll ds ≤ n
  | [], _ => ⟨by simp [PyData.canLayAll0], by simp [PyData.depthAll]⟩
  | d :: ds, h => by
    have h1 := h d List.mem_cons_self
    have h2 := Sh.all fun x hx => h x (List.mem_cons_of_mem _ hx)
    refine ⟨by rw [PyData.canLayAll0, h1.1, h2.1]; rfl, ?_⟩
    rw [PyData.depthAll]
    have a := h1.2
    have b := h2.2
    omega
theorem Sh.list {n : Nat} {ds : List PyData} (h : ∀ x ∈ ds, Sh n x) : Sh (n + 1) (.list ds) := by
  obtain ⟨a, b⟩ := Sh.all h
  exact ⟨by rw [PyData.canLay0]; exact a, by rw [PyData.depth]; omega⟩
theorem Sh.tuple {n : Nat} {ds : List PyData} (h : ∀ x ∈ ds, Sh n x) : Sh (n + 1) (.tuple ds) := by
  obtain ⟨a, b⟩ := Sh.all h
  exact ⟨by rw [PyData.canLay0]; exact a, by rw [PyData.depth]; omega⟩
theorem Sh.ints (n : Nat) (ns : List Int) : Sh (n + 1) (.list (li ns)) := Sh.list fun x hx => by
  obtain ⟨i, _, rfl⟩ := List.mem_map.mp hx
  exact Sh.int _ _
theorem Sh.intT (n : Nat) (ns : List Int) : Sh (n + 1) (.tuple (li ns)) := Sh.tuple fun x hx => by
  obtain ⟨i, _, rfl⟩ := List.mem_map.mp hx
  exact Sh.int _ _
theorem Sh.shp {n : Nat} {d : PyData} (h : Sh n d) (hn : n ≤ 64) : shp d := by
  show SeqAt.shaped d = true
  unfold SeqAt.shaped
  rw [h.1, decide_eq_true (Nat.le_trans h.2 hn)]
  rfl
theorem atI_li {ns : List Int} {k : Nat} (h : k < ns.length) : atI (li ns) (k : Int) = some (.int (ns.getD k 0)) := atI_nat (by
  rw [List.getElem?_map, List.getElem?_eq_getElem h, List.getD_eq_getElem?_getD, List.getElem?_eq_getElem h]
  rfl)
theorem li_get {ns : List Int} {i : Nat} (h : i < (li ns).length) : (li ns)[i] = .int (ns.getD i 0) := by
  have h' : i < ns.length := by simpa using h
  simp [List.getD_eq_getElem?_getD, List.getElem?_eq_getElem h']
theorem li_set (ns : List Int) (i : Nat) (x : Int) : (li ns).set i (.int x) = li (ns.set i x) := by simp [List.map_set]
theorem li_snoc (ns : List Int) (x : Int) : li ns ++ [.int x] = li (ns ++ [x]) := by simp
theorem li_range (n : Nat) (f : Nat → Int) : (List.range n).map (fun i => PyData.int (f i)) = li ((List.range n).map f) := by
  show _ = List.map _ (List.map _ _)
  rw [List.map_map]
  rfl
theorem cmul_l {i j : Int} (h0 : -18446744073709551616 < i) (h1 : i < 18446744073709551616) : CMul i j := .inl ⟨h0, h1⟩
theorem cmul_r {i j : Int} (h0 : -18446744073709551616 < j) (h1 : j < 18446744073709551616) : CMul i j := .inr ⟨h0, h1⟩
end L2
namespace L2
open PySem PySem.Spec PyProof.Rows
@[irreducible] def dNx (u : DS) : DS := u
theorem dNx_eq (u : DS) : dNx u = u := by unfold dNx; rfl
theorem nx {u : DS} {DD : DEnds} {env : List Sl} (h : u DD env) : dNx u DD env := by rw [dNx_eq]; exact h
theorem qs_bar {X : Cx} {K : PySem.W.Frag} {st : Stmt} {rest : List Stmt} {t u : DS} (h1 : PS X st (upS K t)) (h2 : PSs X rest (upS K u)) : PSs X (st :: rest) (upS K (dSeq t (dNx u))) := by rw [dNx_eq]; exact qs_cons h1 h2
end L2
namespace L2
end L2
namespace L2
open PySem PySem.Spec PyProof.Rows
section
variable {X : Cx} {K : PySem.W.Frag}
end
end L2
namespace L2
open PySem PySem.Spec PyProof.Rows
def Pl : Nat → PyData → Prop
  | 0, d => ∃ i, d = .int i
  | n + 1, d => (∃ i, d = .int i) ∨ ∃ ds : List PyData, (d = .list ds ∨ d = .tuple ds) ∧ ds.length ≤ 1000000 ∧ ∀ x ∈ ds, Pl n x
theorem isK_il (l : List PyData) : isK "int" (.list l) = false := rfl
theorem isK_it (l : List PyData) : isK "int" (.tuple l) = false := rfl
end L2
namespace L2
open PySem PySem.Spec PyProof.Rows
section
variable {K : PySem.W.Frag} {N : Addr → Prop} {H : Hp}
end
end L2
namespace L2
open PySem PySem.Spec PyProof.Rows
mutual
def noL : PyData → Bool
  | .none => true
  | .bool _ => true
  | .int _ => true
  | .str _ => true
  | .tuple ds => noLs ds
  | _ => false
def noLs : List PyData → Bool
  | [] => true
  | d :: ds => noL d && noLs ds
end
section
variable {K : PySem.W.Frag} {M P N : Addr → Prop} {H0 H H' : Hp} {E T A B : List Ent} {σ0 σ : St} {env : List Sl} {ts tt : List (V × Sl)} {v : V} {s : Sl} {d : PyData}
end
section
variable {X : Cx} {K : PySem.W.Frag} {pos : Pos} {es : List Expr} {tl : DA}
end
end L2
namespace L2
open PySem PySem.Spec PyProof.Rows
section
variable {K : PySem.W.Frag} {M P N : Addr → Prop} {H0 H H' : Hp} {E T A B : List Ent} {σ0 σ : St} {env : List Sl} {ts tt kp : List (V × Sl)} {v : V} {s : Sl} {d : PyData}
end
section
variable {K : PySem.W.Frag}
section
variable {X : Cx} {pos spos : Pos} {N' : List Str} {ix : List (Option Nat)} {it : DI} {g : DG} {tt : DT} {te : DE} {tg iter elt : Expr} {ifs : List Expr}
end
end
end L2
namespace L2
open PySem PySem.Spec PyProof.Rows
section
variable {K : PySem.W.Frag} {M P N : Addr → Prop} {H0 H H' : Hp} {E T A B : List Ent} {σ0 σ : St} {env : List Sl} {ts tt kp : List (V × Sl)} {v : V} {s : Sl} {d : PyData}
end
section
variable {X : Cx} {K : PySem.W.Frag} {pos p : Pos} {tl : DA} {sp : DSp} {x : Str} {k : Nat} {e : Expr} {es : List Expr}
end
end L2
namespace L2
open PySem PySem.Spec PyProof.Rows
section
variable {K : PySem.W.Frag} {N : Addr → Prop} {H H' : Hp}
end
end L2
namespace L2
open PySem PySem.Spec PyProof.Rows
section
variable {K : PySem.W.Frag} {M P N : Addr → Prop} {H0 H H' : Hp} {E T A B : List Ent} {σ0 σ : St} {env : List Sl} {ts tt kp : List (V × Sl)} {v : V} {s : Sl} {d : PyData}
end
end L2
namespace L2
open PySem PySem.Spec PyProof.Rows
section
variable {X : Cx} {K : PySem.W.Frag} {pos : Pos} {M P N : Addr → Prop} {H0 H H' : Hp} {σ0 σ : St} {env : List Sl} {ts : List (V × Sl)}
end
end L2
namespace L2
open PySem PySem.Spec PyProof.Rows
section
variable {X : Cx} {K : PySem.W.Frag} {pos : Pos} {M P N : Addr → Prop} {H0 H H' : Hp} {σ0 σ : St} {env : List Sl} {ts : List (V × Sl)}
end
end L2
namespace L2
open PySem PySem.Spec PyProof.Rows
section
variable {K : PySem.W.Frag} {H : Hp}
end
section
variable {X : Cx} {K : PySem.W.Frag} {pos : Pos} {M P N : Addr → Prop} {H0 H H' : Hp} {σ0 σ : St} {env : List Sl} {ts : List (V × Sl)}
end
end L2
namespace L2
open PySem PySem.Spec PyProof.Rows
section
variable {K : PySem.W.Frag} {M P N : Addr → Prop} {H0 H H' : Hp} {E T A B : List Ent} {σ0 σ : St} {env : List Sl} {ts tt kp : List (V × Sl)} {v : V} {s : Sl} {d : PyData}
end
end L2
namespace L2
open PySem PySem.Spec PyProof.Rows
section
variable {K : PySem.W.Frag} {M P N : Addr → Prop} {H0 H H' : Hp} {σ0 σ : St} {env : List Sl} {ts tt kp : List (V × Sl)} {v : V} {s : Sl} {d : PyData}
theorem Rel.setUn (h : Rel K M P H0 σ0 σ env ts H) (nv : NoVw ts) {j : Nat} (hj : j < env.length) (y : Option V) : Rel K M P H0 σ0 (σ.set j y) (env.set j .un) ts H ∧ ∀ b, Nw M (ents (σ.set j y) (env.set j .un) ts) b → Nw M (ents σ env ts) b := by
  have hiz : j < (σ.zip env).length := by rw [List.length_zip, h.len]; omega
  obtain ⟨ent, hent⟩ : ∃ e, (σ.zip env)[j]? = some e := ⟨_, List.getElem?_eq_getElem hiz⟩
  obtain ⟨A, B, q1, q2⟩ := mem_split hent
  have e1 : ents σ env ts = A ++ ent :: (B ++ tmp ts) := by
    unfold ents
    rw [q1]
    simp
  have e2 : ents (σ.set j y) (env.set j .un) ts = A ++ (y, .un) :: (B ++ tmp ts) := by
    unfold ents
    rw [zip_set2, q2]
    simp
  have hE := h.e
  rw [e1] at hE
  refine ⟨⟨by rw [e2]; exact RelE.kill (x := ent.1) (s := ent.2) hE, by simp [h.len], fun w i m => absurd m (nv w i), fun i ds e => ?_⟩, fun b z => ?_⟩
  · by_cases hi : j = i
    · subst hi
      rw [List.getElem?_set_self hj] at e
      cases e
    · rw [List.getElem?_set_ne hi] at e
      rw [List.getElem?_set_ne hi]
      exact h.ios i ds e
  · rw [e2] at z
    rw [e1]
    rcases z with z | z
    · exact .inl z
    · refine .inr ?_
      rw [oas_app, oas_cons, own1_un] at z
      rw [oas_app, oas_cons]
      rcases List.mem_append.mp z with z | z
      · exact List.mem_append_left _ z
      · exact List.mem_append_right _ (List.mem_append_right _ z)
end
section
variable {X : Cx} {K : PySem.W.Frag} {pos : Pos}
end
end L2
namespace L2
open PySem PySem.Spec PyProof.Rows
theorem range_getD {α : Type} (l : List α) (z : α) : (List.range l.length).map (fun i => l.getD i z) = l := by
  refine List.ext_getElem (by simp) fun i h1 h2 => ?_
  simp [List.getD_eq_getElem?_getD, List.getElem?_eq_getElem h2]
theorem range_mapD {α β : Type} (l : List α) (z : α) (g : α → β) : (List.range l.length).map (fun i => g (l.getD i z)) = l.map g := by
  conv => rhs; rw [← range_getD l z, List.map_map]
  rfl
theorem range_filterD {α β : Type} (l : List α) (z : α) (p : α → Bool) (g : α → β) : ((List.range l.length).filter fun i => p (l.getD i z)).map (fun i => g (l.getD i z)) = (l.filter p).map g := by
  conv => rhs; rw [← range_getD l z, List.filter_map, List.map_map]
  rfl
abbrev lr (rs : List (List Int)) : List PyData := rs.map fun r => .list (li r)
theorem lr_get {rs : List (List Int)} {i : Nat} {h : i < (lr rs).length} : (lr rs)[i] = .list (li (rs.getD i [])) := by
  have h' : i < rs.length := by simpa using h
  rw [List.getElem_map, List.getD_eq_getElem?_getD, List.getElem?_eq_getElem h']
  rfl
theorem Sh.lr (n : Nat) (rs : List (List Int)) : Sh (n + 2) (.list (lr rs)) := Sh.list fun x hx => by
  obtain ⟨r, _, rfl⟩ := List.mem_map.mp hx
  exact Sh.ints n r
theorem Sh.two {n : Nat} {a b : PyData} (ha : Sh n a) (hb : Sh n b) : Sh (n + 1) (.tuple [a, b]) := Sh.tuple fun x hx => by
  simp only [List.mem_cons, List.not_mem_nil, or_false] at hx
  rcases hx with rfl | rfl <;> assumption
theorem eqv_same {d : PyData} {n : Nat} (h : Sh n d) (hn : n ≤ 64) : PyData.eqv d d = true := SeqAt.eqv_refl _ (SeqAt.canLay_of_shaped (h.shp hn))
end L2
namespace L2
open PySem PySem.Spec PyProof.Rows
section
variable {X : Cx} {K : PySem.W.Frag} {pos : Pos} {es : List Expr} {tl : DA} {e : Expr} {ta : DE} {M P N : Addr → Prop} {H0 H H' : Hp} {σ0 σ : St} {env : List Sl} {ts : List (V × Sl)}
end
section
variable {K : PySem.W.Frag} {N : Addr → Prop} {H : Hp}
end
section
variable {K : PySem.W.Frag} {M P N : Addr → Prop} {H0 H H' : Hp} {A B : List Ent} {σ0 σ : St} {env : List Sl} {ts : List (V × Sl)} {v v' : V} {d d' : PyData} {S S' : List Addr} {y : Option V}
end
section
variable {X : Cx} {K : PySem.W.Frag} {pos : Pos} {M P N : Addr → Prop} {H0 H H' : Hp} {σ0 σ : St} {env : List Sl} {ts : List (V × Sl)}
end
end L2
namespace L2
open PySem PySem.Spec PyProof.Rows
def movS : Sl → Bool
  | .ow _ => true
  | .tr _ _ => true
  | .fr _ => true
  | _ => false
section
variable {X : Cx} {K : PySem.W.Frag} {pos : Pos} {M P N : Addr → Prop} {H0 H H' : Hp} {σ0 σ : St} {env : List Sl} {ts : List (V × Sl)} {v : V}
end
end L2
namespace L2
open PySem Builtin Builtin.Str StrLaws PySem.NumText PySem.W
def num (n : Int) : Str := Str.ofString (toString n)
end L2
namespace L2
open PySem Builtin Builtin.Str StrLaws
def rowOk (x : Nat) : Prop := x = 44 ∨ x = 45 ∨ (48 ≤ x ∧ x ≤ 57)
end L2
namespace L2
open PySem PySem.Spec PyProof.Rows
section
variable {X : Cx} {K : PySem.W.Frag}
end
section
variable {X : Cx} {K : PySem.W.Frag} {pos : Pos} {e o : Expr} {ta to : DE} {M P N : Addr → Prop} {H0 H H' : Hp} {σ0 σ : St} {env : List Sl} {ts : List (V × Sl)}
end
end L2
namespace L2
open PySem PySem.Spec PyProof.Rows
section
variable {X : Cx} {K : PySem.W.Frag} {pos : Pos} {M P N : Addr → Prop} {H0 H H' : Hp} {σ0 σ : St} {env : List Sl} {ts : List (V × Sl)}
end
end L2
namespace L2
open PySem PySem.Spec PyProof.Rows
section
variable {X : Cx} {K : PySem.W.Frag} {pos : Pos} {M P N : Addr → Prop} {H0 H H' : Hp} {σ0 σ : St} {env : List Sl} {ts : List (V × Sl)}
end
end L2
namespace L2
open PySem PySem.Spec PyProof.Rows
section
variable {X : Cx} {K : PySem.W.Frag} {pos : Pos} {N' : List Str} {ix : List (Option Nat)} {it : DI} {g : DG} {tt : DT} {te : DE} {tg iter elt : Expr} {ifs : List Expr}
end
end L2
namespace L2
open PySem PySem.Spec PyProof.Rows
section
variable {prog : Program} {w : World} {A : Around} {E : Value → Shared → Prop} {s : Shared}
end
section
variable {X : Cx} {K : PySem.W.Frag} {pos : Pos} {es : List Expr}
end
end L2
namespace L2
open PySem PySem.Spec PyProof.Rows
section
variable {X : Cx} {K : PySem.W.Frag} {pos : Pos} {N : Addr → Prop} {H : Hp}
end
end L2
namespace L2
open PySem PySem.Spec PyProof.Rows
section
variable {X : Cx} {K : PySem.W.Frag} {pos ip lp p' : Pos} {c : Expr} {tc : DT}
def dFz (i : Nat) (u : DS) : DS := fun DD env => ∃ ds, env[i]? = some (.ow ds) ∧ u DD (env.set i (.fr (.list ds)))
end
end L2
namespace L2
open PySem PySem.W PyProof.Rows
def KAll {α : Type} (n : Nat) (P : α → Prop) : KasT α → Prop
  | .ret a => P a
  | .ask i j k => i < n ∧ j < n ∧ ∀ b, KAll n P (k b)
theorem KAll.bind {α β : Type} {n : Nat} {P : α → Prop} {R : β → Prop} {f : α → KasT β} (hf : ∀ a, P a → KAll n R (f a)) : ∀ {t : KasT α}, KAll n P t → KAll n R (t.bind f)
  | .ret a, h => hf a h
  | .ask i j k, h => ⟨h.1, h.2.1, fun b => KAll.bind hf (h.2.2 b)⟩
def Pn (n : Nat) (p : Array Nat) : Prop := p.Perm (List.range n).toArray
theorem Pn.rev {n i j : Nat} {p : Array Nat} (h : Pn n p) : Pn n (kas_rev p i j) := (mirror_perm _ _ _ _).trans h
theorem Pn.bub {n i j : Nat} {p : Array Nat} (h : Pn n p) : Pn n (bubble p i j) := (bubble_perm _ _ _).trans h
theorem Pn.list {n : Nat} {p : Array Nat} (h : Pn n p) : p.toList.Perm (List.range n) := by
  have := Array.perm_iff_toList_perm.mp h
  simpa using this
theorem Pn.lt {n : Nat} {p : Array Nat} (h : Pn n p) (h1 : 1 ≤ n) (k : Nat) : p.getD k 0 < n := by
  by_cases hk : k < p.size
  · have e : p.getD k 0 = p[k] := by simp [Array.getD, hk]
    rw [e]
    have m : p[k] ∈ p.toList := by simp
    exact List.mem_range.mp (h.list.mem_iff.mp m)
  · have e : p.getD k 0 = 0 := by simp [Array.getD, hk]
    omega
section
variable {n : Nat} {p : Array Nat} (h1 : 1 ≤ n)
include h1
theorem asc_all (h : Pn n p) : ∀ (f k : Nat), KAll n (fun _ => True) (kas_asc p f k)
  | 0, k => trivial
  | f + 1, k => ⟨h.lt h1 _, h.lt h1 _, fun b => by
    cases b with
    | true => exact trivial
    | false => exact asc_all h f (k + 1)⟩
theorem desc_all : ∀ (f : Nat) (p : Array Nat) (k q : Nat), Pn n p → KAll n (fun r => Pn n r.1) (kas_desc f p k q)
  | 0, p, k, q, h => h
  | f + 1, p, k, q, h => ⟨h.lt h1 _, h.lt h1 _, fun b => by
    cases b with
    | true =>
      show KAll n _ (if q > 0 then _ else _)
      split
      · exact desc_all f _ _ _ h.rev
      · exact desc_all f _ _ _ h
    | false =>
      refine ⟨h.lt h1 _, h.lt h1 _, fun d => ?_⟩
      cases d with
      | true => exact h
      | false => exact desc_all f _ _ _ h⟩
theorem tail3_all {k r : Nat} (h : Pn n p) : KAll n (fun r => Pn n r.2) (kas_tail3 k r p) := by
  unfold kas_tail3
  refine KAll.bind (P := fun _ => True) (fun m _ => ?_) (asc_all h1 h.rev _ _)
  exact (h.rev : Pn n (kas_rev p 0 k))
theorem descPart_all {k r : Nat} (h : Pn n p) : KAll n (fun r => Pn n r.2) (kas_descPart k r p) := (desc_all h1 _ _ _ _ h).bind fun a ha => by
  show KAll n _ (if a.2.2 > 0 then _ else _)
  split
  · exact tail3_all h1 (Pn.rev ha)
  · exact tail3_all h1 ha
theorem count_all {r : Nat} (h : Pn n p) : KAll n (fun r => Pn n r.2) (kas_count r p) := (asc_all h1 h _ _).bind fun k _ => by
  show KAll n _ (if (k == r) = true then _ else _)
  split
  · exact h
  · split
    · refine ⟨h.lt h1 _, h.lt h1 _, fun b => ?_⟩
      cases b with
      | true => exact h
      | false => exact descPart_all h1 h.rev
    · exact descPart_all h1 h
theorem place_all (h : Pn n p) (k : Nat) : ∀ f l r, KAll n (fun _ => True) (kas_place p k f l r)
  | 0, l, r => trivial
  | f + 1, l, r => by
    show KAll n _ (if l ≥ r then _ else _)
    split
    · exact trivial
    · refine ⟨h.lt h1 _, h.lt h1 _, fun b => ?_⟩
      cases b with
      | true => exact place_all h k f _ _
      | false => exact place_all h k f _ _
theorem bin_all : ∀ (f : Nat) (p : Array Nat) (k : Nat), Pn n p → KAll n (Pn n) (kas_bin f p k)
  | 0, p, k, h => h
  | f + 1, p, k, h => (place_all h1 h _ _ _ _).bind fun l _ => bin_all f _ _ h.bub
theorem sort_all : KAll n (Pn n) (kas_sort n) := (count_all h1 (p := (List.range n).toArray) (Array.Perm.refl _)).bind fun r hr => by
  show KAll n _ (if r.1 < n then _ else _)
  split
  · exact bin_all h1 _ _ _ hr
  · exact hr
end
theorem kas_all {α : Type} {n : Nat} {cmp : Nat → Nat → (Bool → Shared → Prop) → Shared → Prop} {P : α → Prop} {Q : α → Shared → Prop} (I : Shared → Prop)
    (hc : ∀ i j C s, i < n → j < n → I s → (∀ b s', I s' → C b s') → cmp i j C s) (hQ : ∀ a s, P a → I s → Q a s) : ∀ {t : KasT α} {s : Shared}, KAll n P t → I s → t.kasWp cmp Q s
  | .ret a, s, h, i => hQ a s h i
  | .ask x y k, s, h, i => hc x y _ s h.1 h.2.1 i fun b s' i' => kas_all I hc hQ (h.2.2 b) i'
end L2
namespace L2
open PySem PySem.Spec PyProof.Rows PySem.W
open PySem.SeqAt PySem.MeetsSeq PySem.MeetsSeq2 PySem.MeetsSeq3 PySem.SeqRoads2
open PySem.AutoSeq1 (wpAny_loadPart')
theorem lt_loopAt (l b : Addr) (items items2 : Array Value) (n n2 : Nat) (dd dd2 : Option Addr) (sl sl2 : Array (Option Value)) (at1 : ∀ j (h : j < items.size), ∃ x t, items[j] = Value.int x t) (at2 : ∀ j (h : j < items2.size), ∃ x t, items2[j] = Value.int x t) (k : Nat) :
    ∀ i : Nat, items.size - i = k → Meets (Builtin.«list.__eq__.loop» ⟨[.ref l, .ref b, rawInt i, rawInt 0], []⟩)
      (fun A R s => s.heap.get? l = some { cls := .type "list", dict := dd, data := .seq items n, slots := sl } ∧ s.heap.get? b = some { cls := .type "list", dict := dd2, data := .seq items2 n2, slots := sl2 } ∧
        ∀ c : Bool, R (.ok (.ret (.bool c))) s) := by
  induction k with
  | zero =>
    intro i hk prog w A R s h
    obtain ⟨hp, g, d, tk, os⟩ := s; obtain ⟨hl, hb, h⟩ := h
    wp_walk using wpAny_loadPart' hl, wpAny_loadPart' hb
    have hi1 : items[((i : Nat) : Int).toNat]? = none := by simp; omega
    rw [hi1]
    wp_walk using wpAny_loadPart' hl, wpAny_loadPart' hb
    exact h _
  | succ k ih =>
    intro i hk prog w A R s h
    obtain ⟨hp, g, d, tk, os⟩ := s; obtain ⟨hl, hb, h⟩ := h
    wp_walk using wpAny_loadPart' hl, wpAny_loadPart' hb
    have hlt : i < items.size := by omega
    have hi1 : items[((i : Nat) : Int).toNat]? = some items[i] := by simp [hlt]
    have hc : ((i : Int) + 1) = ((i + 1 : Nat) : Int) := by push_cast; rfl
    rw [hi1]
    by_cases hlt2 : i < items2.size
    · have hi2 : items2[((i : Nat) : Int).toNat]? = some items2[i] := by simp [hlt2]
      rw [hi2]
      obtain ⟨x, t, e1⟩ := at1 i hlt
      obtain ⟨y, u, e2⟩ := at2 i hlt2
      rw [e1, e2]
      refine wpAny_bind (wpAny_eqBool_int ?_)
      cases hb' : (x == y) with
      | true =>
        wp_walk
        rw [hc]
        exact ⟨plainId_quiet plain_eq_loop _, codeAny_builtin entry_eq_loop (by
          rw [Around.under_plainId plain_eq_loop _]
          exact ih (i + 1) (by omega) prog w A R _ ⟨hl, hb, h⟩)⟩
      | false =>
        wp_walk using wpAny_loadPart' hl, wpAny_loadPart' hb
        rw [hi1, hi2, e1, e2]
        refine wpAny_bind (show wpAny (model prog w) A.in1 (compareOp .Lt (.int x t) (.int y u)) _ _ _ from wpAny_lt_int (wpAny_pure (h _)))
    · have hi2 : items2[((i : Nat) : Int).toNat]? = none := by simp; omega
      rw [hi2]
      wp_walk using wpAny_loadPart' hl, wpAny_loadPart' hb
      exact h _
theorem list_ltAt (l b : Addr) (items items2 : Array Value) (n n2 : Nat) (dd dd2 : Option Addr) (sl sl2 : Array (Option Value)) (at1 : ∀ j (h : j < items.size), ∃ x t, items[j] = Value.int x t) (at2 : ∀ j (h : j < items2.size), ∃ x t, items2[j] = Value.int x t) :
    Meets (Builtin.«list.__lt__» ⟨[.ref l, .ref b], []⟩)
      (fun A R s => s.heap.get? l = some { cls := .type "list", dict := dd, data := .seq items n, slots := sl } ∧ s.heap.get? b = some { cls := .type "list", dict := dd2, data := .seq items2 n2, slots := sl2 } ∧
        ∀ c : Bool, R (.ok (.ret (.bool c))) s) := by
  intro prog w A R s h
  obtain ⟨hp, g, d, tk, os⟩ := s; obtain ⟨hl, hb, h⟩ := h
  have f3 := AutoSeq1.sub_list_list
  wp_walk using wpAny_loadPart' hl, wpAny_loadPart' hb
  exact ⟨plainId_quiet plain_eq_loop _, codeAny_builtin entry_eq_loop (by
    rw [Around.under_plainId plain_eq_loop _]
    exact lt_loopAt l b items items2 n n2 dd dd2 sl sl2 at1 at2 _ 0 rfl prog w A R _ ⟨hl, hb, h⟩)⟩
section
variable {prog : Program} {w : World} {A : Around} {E : Value → Shared → Prop} {s : Shared}
theorem lt_lists {l b : Addr} {items items2 : Array Value} {Q : Value → Shared → Prop} (hl : s.heap.IsList l items) (hb : s.heap.IsList b items2) (at1 : ∀ j (h : j < items.size), ∃ x t, items[j] = Value.int x t) (at2 : ∀ j (h : j < items2.size), ∃ x t, items2[j] = Value.int x t)
    (hu : A.units < cLine) (h : ∀ c : Bool, Q (.bool c) s) : wpAny (model prog w) A (compareOp .Lt (.ref l) (.ref b)) Q E s := by
  obtain ⟨⟨cls, dd, data, sl⟩, ho, hc, n, hd⟩ := id hl
  obtain ⟨⟨cls2, dd2, data2, sl2⟩, ho2, hc2, n2, hd2⟩ := id hb
  simp only at hc hd hc2 hd2
  subst hc hd hc2 hd2
  exact richCompare_meets_room (op := .Lt) ⟨_, ho, rfl⟩ ⟨_, ho2, rfl⟩ F.slot_list_lt F.entry_list_lt (F.args_list_lt_2 _ _) (list_ltAt l b items items2 n n2 dd dd2 sl sl2 at1 at2)
    ⟨ho, ho2, fun c => show Value.bool c ≠ Value.notImplemented ∧ Q (.bool c) s from ⟨(fun x => nomatch x), h c⟩⟩ hu
def KeyOk (prog : Program) (w : World) (A : Around) (vs : List Value) (s : Shared) : Prop :=
  wpAny (model prog w) A (keyKind' vs.toArray) (fun κ s' => s' = s ∧ ∀ i j (C : Bool → Shared → Prop), i < vs.length → j < vs.length → (∀ b, C b s) → kas_ask prog w A κ vs i j C s) (fun _ _ => False) s
theorem perm_vals {vs : List Value} {p : Array Nat} (h : Pn vs.length p) : (p.toList.map fun i => vs.getD i Value.none).Perm vs := by
  have h1 := (h.list).map fun i => vs.getD i Value.none
  refine h1.trans (List.Perm.of_eq ?_)
  apply List.ext_getElem
  · simp
  · intro i a b
    simp at a
    simp [a]
theorem srt_list {a : Addr} {vs : List Value} {n : Nat} {P : PySem.Fin → Shared → Prop} (ho : s.heap.get? a = some (seqObj "list" vs.toArray n)) (h64 : vs.length < 64)
    (hk : 2 ≤ vs.length → ∀ h', (∀ b o, b ≠ a → s.heap.get? b = some o → h'.get? b = some o) → KeyOk prog w A vs { s with heap := h' })
    (h : ∀ (ws : List Value) h' c, ws.Perm vs → (∀ b o, b ≠ a → s.heap.get? b = some o → h'.get? b = some o) → h'.get? a = some (seqObj "list" ws.toArray c) → P (.done (.ret .none)) { s with heap := h' }) :
    wpAny (model prog w) A (Builtin.«list.sort» ⟨[.ref a], []⟩) P E s := by
  have ha : a < s.heap.objs.size := Heap.lt_size ho
  have s1 := Heap.SameBut.update s.heap a (Obj.mapSeq fun _ => (#[] : Array Value))
  obtain ⟨e1, ho1⟩ : ∃ e1, (s.heap.update a (Obj.mapSeq fun _ => (#[] : Array Value))).get? a = some (seqObj "list" #[] e1) := ⟨_, get?_update_seq ho fun _ => #[]⟩
  have keep : ∀ b o, b ≠ a → s.heap.get? b = some o → (((s.heap.update a (Obj.mapSeq fun _ => (#[] : Array Value))).push (seqObj "tuple" vs.toArray 0)).push (seqObj "list" #[] 0)).get? b = some o := fun b o hb e =>
    Heap.get?_push_of_some _ (Heap.get?_push_of_some _ ((s1.2 b hb).trans e))
  have ho3 : (((s.heap.update a (Obj.mapSeq fun _ => (#[] : Array Value))).push (seqObj "tuple" vs.toArray 0)).push (seqObj "list" #[] 0)).get? a = some (seqObj "list" #[] e1) := Heap.get?_push_of_some _ (Heap.get?_push_of_some _ ho1)
  have fin : ∀ (ws : List Value), ws.Perm vs → ∃ c, (((((s.heap.update a (Obj.mapSeq fun _ => (#[] : Array Value))).push (seqObj "tuple" vs.toArray 0)).push (seqObj "list" #[] 0))).update a (Obj.mapSeq fun _ => ws.toArray)).get? a = some (seqObj "list" ws.toArray c) := fun ws _ => ⟨_, get?_update_seq ho3 fun _ => ws.toArray⟩
  rw [list_sort_plain]
  refine wpAny_bind (listItems_at ho rfl ?_)
  refine wpAny_bind (listUpdate_at ho rfl ?_ (by rw [List.size_toArray, sizeLine_eq]; omega) (Nat.zero_le _))
  refine wpAny_bind (seqEpoch_at ho1 rfl ?_)
  refine wpAny_bind (wpAny_newTuple ?_ (by show vs.length ≤ _; rw [sizeLine_eq]; omega))
  refine wpAny_bind (wpAny_newList ?_ (Nat.zero_le _))
  refine wpAny_holding ?_
  show wpAny (model prog w) A _ P E { s with heap := ((s.heap.update a (Obj.mapSeq fun _ => (#[] : Array Value))).push (seqObj "tuple" vs.toArray 0)).push (seqObj "list" #[] 0) }
  dsimp only
  by_cases h2 : 2 ≤ vs.length
  · have hn2 : ¬ vs.toArray.size < 2 := by rw [List.size_toArray]; omega
    rw [if_neg hn2, if_neg hn2]
    refine wpAny_bind (wpAny_mono (hk h2 _ keep) (fun κ s0 hk => ?_) fun _ _ x => x.elim)
    obtain ⟨rfl, hask⟩ := hk
    refine wpAny_bind (wpAny_mono (kat_run (κ := κ) (A := A) (prog := prog) (w := w) (ks := vs) (vs := vs) (G := fun p s' => Pn vs.length p ∧ s' = { s with heap := ((s.heap.update a (Obj.mapSeq fun _ => (#[] : Array Value))).push (seqObj "tuple" vs.toArray 0)).push (seqObj "list" #[] 0) })
      (Q := fun st' s' => ∃ p : Array Nat, Pn vs.length p ∧ p.size = vs.length ∧ arrOf st' = p.map (kas_item (vs.toArray.zip vs.toArray)) ∧ failedOf st' = none ∧ s' = { s with heap := ((s.heap.update a (Obj.mapSeq fun _ => (#[] : Array Value))).push (seqObj "tuple" vs.toArray 0)).push (seqObj "list" #[] 0) })
      rfl h2 h64 (fun p' st' s' a1 a2 a3 a4 => ⟨p', a4.1, a1, a2, a3, a4.2⟩) (kas_all (fun s' => s' = { s with heap := ((s.heap.update a (Obj.mapSeq fun _ => (#[] : Array Value))).push (seqObj "tuple" vs.toArray 0)).push (seqObj "list" #[] 0) }) (fun i j C s' hi hj e hc => by subst e; exact hask i j C hi hj fun b => hc b _ rfl) (fun p s' hp e => ⟨hp, e⟩) (sort_all (n := vs.length) (by omega)) rfl)) ?_ fun _ _ e => e)
    rintro ⟨⟨⟩, st'⟩ s' ⟨p, hpn, hp, har, hf, rfl⟩
    dsimp only
    have hout := kat_snds rfl har
    have hsz : (List.toArray (p.toList.map fun i => vs.getD i Value.none)).size = vs.length := by rw [List.size_toArray, List.length_map, Array.length_toList, hp]
    rw [hout]
    obtain ⟨c2, hc2⟩ := fin (p.toList.map fun i => vs.getD i Value.none) (perm_vals hpn)
    refine wpAny_bind (seqEpoch_at ho3 rfl ?_)
    refine wpAny_bind (listUpdate_at ho3 rfl ?_ (Nat.zero_le _) (Nat.le_trans (Nat.le_of_eq hsz) (by rw [sizeLine_eq]; omega)))
    rw [hf]
    simp only [bne_self_eq_false, Bool.false_eq_true, if_false]
    refine wpAny_pure (h _ _ c2 (perm_vals hpn) (fun b o hb e => ?_) hc2)
    exact ((Heap.SameBut.update _ a _).2 b hb).trans (keep b o hb e)
  · have hn2 : vs.toArray.size < 2 := by rw [List.size_toArray]; omega
    rw [if_pos hn2, if_pos hn2]
    refine wpAny_bind (wpAny_pure ?_)
    refine wpAny_bind (wpAny_pure ?_)
    have hout : (arrOf (SortSt.mk' general' (vs.toArray.zip vs.toArray) #[] 7 none)).map (·.2) = vs.toArray := by
      show (vs.toArray.zip vs.toArray).map (·.2) = _
      apply Array.toList_inj.mp
      simp
      exact List.map_snd_zip (Nat.le_refl _)
    dsimp only
    rw [hout]
    obtain ⟨c2, hc2⟩ := fin vs (List.Perm.refl _)
    refine wpAny_bind (seqEpoch_at ho3 rfl ?_)
    refine wpAny_bind (listUpdate_at ho3 rfl ?_ (Nat.zero_le _) (by rw [List.size_toArray, sizeLine_eq]; omega))
    simp only [bne_self_eq_false, Bool.false_eq_true, if_false]
    refine wpAny_pure (h _ _ c2 (List.Perm.refl _) (fun b o hb e => ?_) hc2)
    exact ((Heap.SameBut.update _ a _).2 b hb).trans (keep b o hb e)
theorem srt_sorted {l : Addr} {vs : List Value} {Q : Value → Shared → Prop} (hl : s.heap.IsList l vs.toArray) (h64 : vs.length < 64)
    (hk : 2 ≤ vs.length → ∀ h', (∀ b o, s.heap.get? b = some o → h'.get? b = some o) → KeyOk prog w A.in1.in1 vs { s with heap := h' })
    (h : ∀ (ws : List Value) D h' c, ws.Perm vs → (∀ b o, s.heap.get? b = some o → h'.get? b = some o) → s.heap.objs.size ≤ D → h'.get? D = some (seqObj "list" ws.toArray c) → Q (.ref D) { s with heap := h' }) :
    wpAny (model prog w) A (call (.builtin "sorted") [.ref l]) Q E s := by
  refine Calls.call_function_entry kind_sorted plain_sorted entry_sorted (args_sorted1 _) ?_
  unfold Builtin.«sorted»
  refine wpAny_bind (m := checkCount "sorted" 1 1 _) (wpAny_pure ?_)
  refine wpAny_bind (collect_list hl ?_ (by rw [sizeLine_eq]; omega))
  refine wpAny_bind (wpAny_newList ?_ (by rw [sizeLine_eq]; omega))
  have hsz : ((s.heap.push (seqObj "list" #[] 0)).update s.heap.objs.size (Obj.mapSeq (· ++ vs.toArray))).objs.size = s.heap.objs.size + 1 := by
    rw [Heap.size_update, size_push']
  have hoL : (((s.heap.push (seqObj "list" #[] 0)).update s.heap.objs.size (Obj.mapSeq (· ++ vs.toArray))).push (seqObj "list" vs.toArray 0)).get? (s.heap.objs.size + 1) = some (seqObj "list" vs.toArray 0) := by
    rw [← hsz]; exact Heap.get?_push_size _ rfl
  have keep : ∀ b o, s.heap.get? b = some o → (((s.heap.push (seqObj "list" #[] 0)).update s.heap.objs.size (Obj.mapSeq (· ++ vs.toArray))).push (seqObj "list" vs.toArray 0)).get? b = some o := fun b o q => by
    have hlt : b < s.heap.objs.size := Heap.lt_size q
    rw [Heap.get?_push_ne _ _ _ (by rw [hsz]; exact Nat.ne_of_lt (Nat.lt_succ_of_lt hlt)), Heap.get?_update_ne _ _ _ _ (Nat.ne_of_lt hlt), Heap.get?_push_ne _ _ _ (Nat.ne_of_lt hlt)]
    exact q
  have ne : ∀ b o, s.heap.get? b = some o → b ≠ s.heap.objs.size + 1 := fun b o q => by
    exact Nat.ne_of_lt (Nat.lt_succ_of_lt (Heap.lt_size q))
  show wpAny _ _ _ _ _ { s with heap := ((s.heap.push (seqObj "list" #[] 0)).update s.heap.objs.size (Obj.mapSeq (· ++ vs.toArray))).push (seqObj "list" vs.toArray 0) }
  rw [hsz]
  refine wpAny_bind (wpAny_holding (wpAny_call_entry slot_list_sort ⟨_, hoL, rfl⟩ entry_list_sort ?body (args_list_sort _)))
  case body =>
    refine srt_list (s := { s with heap := ((s.heap.push (seqObj "list" #[] 0)).update s.heap.objs.size (Obj.mapSeq (· ++ vs.toArray))).push (seqObj "list" vs.toArray 0) }) hoL h64
      (fun h2 h' k => hk h2 h' fun b o e => k b o (ne b o e) (keep b o e)) fun ws h' c hp k hD => ⟨_, rfl, wpAny_pure ⟨_, rfl, ?_⟩⟩
    exact h ws _ h' c hp (fun b o e => k b o (ne b o e) (keep b o e)) (Nat.le_succ _) hD
end
end L2
namespace L2
open PySem PySem.Spec PyProof.Rows PySem.W
def KeyV (h : Heap) (v : Value) : Prop := ∃ (a : Addr) (o : Obj) (n : Nat) (x : Int) (t : Tok) (l : Addr) (its : Array Value) (ns : List Int) (as : List Addr), v = .ref a ∧ h.get? a = some o ∧ o.cls = .type "tuple" ∧ o.data = .seq #[.int x t, .ref l] n ∧ h.IsList l its ∧ (∀ j (h : j < its.size), ∃ x t, its[j] = Value.int x t) ∧ Reads h (.ref l) (.list (ns.map PyData.int)) as
def isKey (d : PyData) : Prop := ∃ (n : Int) (ns : List Int), d = .tuple [.int n, .list (ns.map .int)]
section
variable {X : Cx} {pins : List (Addr × Obj)} {σ : St} {H : Hp} {s : Shared}
theorem key_ints : ∀ {ns : List Int} {vs : List V} {us : List Value}, DVs X.K H vs (ns.map .int) → Vals vs us → ∀ j (h : j < us.length), ∃ x t, us[j] = Value.int x t
  | [], _, _, .nil, .nil, j, h => by simp at h
  | n :: ns, _, _, .cons d q, .cons r t, 0, h => by
    cases d
    obtain ⟨t, rfl⟩ := r
    exact ⟨_, _, rfl⟩
  | n :: ns, _, _, .cons d q, .cons r t, j + 1, h => by
    obtain ⟨x, u, e⟩ := key_ints q t j (by simpa using h)
    exact ⟨x, u, by simpa using e⟩
theorem key_of (I : Inv X pins σ H s) {v : V} {d : PyData} {u : Value} (hd : DV X.K H v d) (r : RelV v u) (k : isKey d) : KeyV s.heap u := by
  obtain ⟨n, ns, rfl⟩ := k
  cases hd with
  | @tup a xs _ h q =>
    cases (show _ = Value.ref a from r)
    obtain ⟨its, rv, ⟨o, e, c, m, hd⟩, _⟩ := I.tuple h
    cases q with
    | cons q1 q2 =>
      cases q2 with
      | cons q2 q3 =>
        cases q3
        cases q1
        cases rv with
        | cons r1 rv =>
          cases rv with
          | cons r2 rv =>
            cases rv
            obtain ⟨t, rfl⟩ := r1
            obtain ⟨as, ra⟩ := q2.reads I r2 (by simpa only [PyData.canLay0] using lay0_ints _)
            cases q2 with
            | @lst l ys _ h2 q2 =>
              cases (show _ = Value.ref l from r2)
              obtain ⟨jts, rj, pl, _⟩ := I.list h2
              exact ⟨a, o, m, n, t, l, jts.toArray, ns, as, rfl, e, c, hd, pl.isList, fun j hj => key_ints q2 rj j (by simpa using hj), ra⟩
theorem keys_of (I : Inv X pins σ H s) : ∀ {vs : List V} {ds : List PyData} {us : List Value}, DVs X.K H vs ds → Vals vs us → (∀ d ∈ ds, isKey d) → ∀ u ∈ us, KeyV s.heap u
  | _, _, _, .nil, .nil, _, u, hu => by simp at hu
  | _, _, _, .cons d q, .cons r t, k, u, hu => by
    rcases List.mem_cons.mp hu with rfl | hu
    · exact key_of I d r (k _ (by simp))
    · exact keys_of I q t (fun d hd => k d (by simp [hd])) u hu
end
section
variable {prog : Program} {w : World} {A : Around} {s : Shared}
theorem key_firsts {h : Heap} : ∀ {us : List Value}, (∀ u ∈ us, KeyV h u) → ∃ fs, KatTups h us fs ∧ fs.length = us.length ∧ ∀ f ∈ fs, ∃ x t, f = Value.int x t
  | [], _ => ⟨[], .nil, rfl, fun f hf => by simp at hf⟩
  | u :: us, k => by
    obtain ⟨fs, h1, h2, h3⟩ := key_firsts (us := us) fun v hv => k v (by simp [hv])
    obtain ⟨a, o, n, x, t, l, its, ns, as, rfl, e, c, d, _⟩ := k u (by simp)
    refine ⟨.int x t :: fs, .cons e c d (by rfl) h1, by simp [h2], fun f hf => ?_⟩
    rcases List.mem_cons.mp hf with rfl | hf
    · exact ⟨x, t, rfl⟩
    · exact h3 f hf
theorem key_lt {u v : Value} {C : Bool → Shared → Prop} {E : Value → Shared → Prop} (hu : A.units + 64 < cLine) (k1 : KeyV s.heap u) (k2 : KeyV s.heap v) (h : ∀ b, C b s) : wpAny (model prog w) A (keyLt' (tuples' true) u v) C E s := by
  obtain ⟨a, o, n, x, t, l, its, ns, as, rfl, e, c, d, i1, i2, i3⟩ := k1
  obtain ⟨a', o', n', x', t', l', its', ns', as', rfl, e', c', d', j1, j2, j3⟩ := k2
  refine kat_lt e d e' d' ?_
  refine kat_cons (wpAny_eqBool_int ?_)
  refine kat_go (fun _ => kat_yes ?_) fun _ => kat_no (oneLt_int (h _))
  refine kat_cons (SeqAt.eqBoolOverData _ _ _ _ _ _ _ _ _ _ _ _ i3 j3 ?_ ?_ ?_ ?_)
  · simp [PyData.canLay0, lay0_ints]
  · simp [PyData.canLay0, lay0_ints]
  · have : ∀ ns : List Int, (PyData.list (ns.map PyData.int)).depth ≤ 64 := fun ns => by
      have := shp_I ns
      exact SeqAt.depth_of_shaped this
    have := this ns
    have := Nat.min_le_left (PyData.list (ns.map PyData.int)).depth (PyData.list (ns'.map PyData.int)).depth
    omega
  · refine kat_go (fun _ => kat_yes (kat_nil (h _))) fun _ => kat_no (kat_one _ _ ?_)
    exact lt_lists i1 j1 i2 j2 (by omega) fun b => h b
theorem key_ok {us : List Value} (hu : A.units + 64 < cLine) (h2 : 2 ≤ us.length) (k : ∀ u ∈ us, KeyV s.heap u) : KeyOk prog w A us s := by
  obtain ⟨fs, h1, h3, h4⟩ := key_firsts k
  refine kat_kind (T := .type "int") h1 (by omega) (fun v hv => ?_) (by rfl) ⟨rfl, fun i j C hi hj hc => ?_⟩
  · obtain ⟨x, t, rfl⟩ := h4 v hv
    exact .now
  · have e1 : us.getD i Value.none = us[i] := by simp [hi]
    have e2 : us.getD j Value.none = us[j] := by simp [hj]
    show wpAny (model prog w) A (keyLt' _ (us.getD i Value.none) (us.getD j Value.none)) C (fun _ _ => False) s
    rw [e1, e2]
    exact key_lt hu (k _ (List.getElem_mem hi)) (k _ (List.getElem_mem hj)) hc
end
theorem perm_lift {α β : Type} {f : α → β} {ws bs : List β} (h : ws.Perm bs) : ∀ t : List α, bs = t.map f → ∃ t' : List α, t'.Perm t ∧ ws = t'.map f := by
  induction h with
  | nil =>
    intro t e
    cases t with
    | nil => exact ⟨[], .refl _, rfl⟩
    | cons _ _ => cases e
  | cons x _ ih =>
    intro t e
    cases t with
    | nil => cases e
    | cons y t =>
      injection e with e1 e2
      obtain ⟨t', p, e'⟩ := ih t e2
      exact ⟨y :: t', p.cons y, by rw [e1, e']; rfl⟩
  | swap x y l =>
    intro t e
    match t, e with
    | z1 :: z2 :: t, e =>
      injection e with e1 e2
      injection e2 with e2 e3
      exact ⟨z2 :: z1 :: t, .swap .., by rw [e1, e2, e3]; rfl⟩
  | trans _ _ ih1 ih2 =>
    intro t e
    obtain ⟨t1, p1, e1⟩ := ih2 t e
    obtain ⟨t2, p2, e2⟩ := ih1 t1 e1
    exact ⟨t2, p2.trans p1, e2⟩
theorem vals_of : ∀ {t : List (Value × V × PyData)}, (∀ x ∈ t, RelV x.2.1 x.1) → Vals (t.map (·.2.1)) (t.map (·.1))
  | [], _ => .nil
  | x :: t, h => .cons (h x (by simp)) (vals_of fun y hy => h y (by simp [hy]))
theorem vals_zip : ∀ {vs : List V} {us : List Value} {ds : List PyData}, Vals vs us → ∀ x ∈ us.zip (vs.zip ds), RelV x.2.1 x.1
  | _, _, _, .nil, x, h => by simp at h
  | _, _, [], .cons r t, x, h => by simp at h
  | _, _, d :: ds, .cons r t, x, h => by
    simp only [List.zip_cons_cons] at h
    rcases List.mem_cons.mp h with rfl | h
    · exact r
    · exact vals_zip t x h
theorem dvs_len {K : PySem.W.Frag} {H : Hp} : ∀ {vs : List V} {ds : List PyData}, DVs K H vs ds → vs.length = ds.length
  | _, _, .nil => rfl
  | _, _, .cons _ q => by simp [dvs_len q]
theorem dns_zip {K : PySem.W.Frag} {N : Addr → Prop} {H : Hp} : ∀ {vs : List V} {ds : List PyData}, DNs K N H vs ds → ∀ z ∈ vs.zip ds, DN K N H z.1 z.2
  | _, _, .nil, z, h => by simp at h
  | _, _, .cons d q, z, h => by
    simp only [List.zip_cons_cons] at h
    rcases List.mem_cons.mp h with rfl | h
    · exact d
    · exact dns_zip q z h
theorem dns_all {K : PySem.W.Frag} {N : Addr → Prop} {H : Hp} : ∀ {zs : List (V × PyData)}, (∀ z ∈ zs, DN K N H z.1 z.2) → DNs K N H (zs.map (·.1)) (zs.map (·.2))
  | [], _ => .nil
  | x :: t, h => .cons (h x (by simp)) (dns_all fun y hy => h y (by simp [hy]))
section
variable {X : Cx} {K : PySem.W.Frag}
theorem call_srt (hK : X.K = K) (hu : X.A.units + 80 < cLine) : CallR X (.builtin "sorted") (fun xs H Q => ∃ (p : Addr) (vs : List V) (ds : List PyData), xs = [.ref p] ∧ SqL K H p vs ∧ DVs K H vs ds ∧ (∀ d ∈ ds, isKey d) ∧ vs.length < 64 ∧
    ∀ (zs : List (V × PyData)), zs.Perm (vs.zip ds) → ∀ q, H q = none → Q (.ref q) (upd H q (.lst (zs.map (·.1))))) := by
  subst hK
  intro pins s σ H xs us Q I r h
  obtain ⟨p, vs, ds, rfl, hs, hd, hk, h64, q⟩ := h
  obtain ⟨u, rfl, ru⟩ := vals1 r
  cases (show u = Value.ref p from ru)
  obtain ⟨its, rv, hp, _⟩ := I.list hs
  have hlen := rv.length
  refine srt_sorted (vs := its) hp.isList (by omega) (fun h2 h' k => ?_) fun ws D h' c hperm k hD hD2 => ?_
  · have I' := I.kept (t' := s.toks) (h' := h') k
    exact key_ok (by show X.A.in1.in1.units + 64 < cLine; simp [Around.in1] at *; omega) h2 (keys_of I' hd rv hk)
  · have hdl : ds.length = vs.length := (dvs_len hd).symm
    obtain ⟨t, pt, rfl⟩ := perm_lift hperm (its.zip (vs.zip ds)) (by
      rw [List.map_fst_zip]
      simp
      omega)
    have hv : ∀ x ∈ t, RelV x.2.1 x.1 := fun x hx => vals_zip rv x (pt.mem_iff.mp hx)
    have hz : (t.map (·.2)).Perm (vs.zip ds) := by
      have := pt.map (·.2)
      rwa [List.map_snd_zip (by simp; omega)] at this
    have hl := hz.length_eq
    refine ⟨.ref D, upd H D (.lst ((t.map (·.2)).map (·.1))), I.laid (t' := s.toks) (o := .lst ((t.map (·.2)).map (·.1))) k hD ⟨?_, t.map (·.1), c, ?_, hD2⟩, rfl, q _ hz _ (I.hok.fresh hD)⟩
    · rw [List.length_map, hl, sizeLine_eq]
      simp
      omega
    · rw [List.map_map]
      exact vals_of hv
def dSrt (t : DA) : DE := fun env R => t env fun ss env1 => ∃ s ds, ss = [s] ∧ valOf env1 s = some (.list ds) ∧ (∀ d ∈ ds, isKey d) ∧ ds.length < 64 ∧ ∀ es : List PyData, es.Perm ds → R (.ow es) env1
variable {e : Expr} {p pos : Pos} {tl : DA}
theorem q_srt (hK : X.K = K) (hu : X.A.units + 80 < cLine) (hg : Gl X "sorted") (hm : X.mg "sorted" = none) (ha : PA X [e] (upA K tl)) (he : starEach [e] X.env = [(false, eval e X.env)] := by rfl) : PE X (.Call (.Name "sorted" p) [e] [] pos) (up K (dSrt tl)) :=
  (pe_callB (call_srt (K := K) hK hu) hg hm boot_sorted ha (by decide) (by decide) he rfl).imp fun σ H Q h => by
  obtain ⟨M, P, H0, σ0, env, ts, R, rel, ht, hq⟩ := h
  refine ⟨M, P, H0, σ0, env, ts, _, rel, ht, fun ss env1 vs H1 h1 hl rel1 => ?_⟩
  obtain ⟨s, ds, rfl, e1, hk, h64, hR⟩ := h1
  match vs, hl with
  | [v], _ =>
    obtain ⟨a, us, rfl, sq, q⟩ := (rel1.view (v := v) (by simp) e1).list
    refine ⟨a, us, ds, rfl, sq, q.dv, hk, by rw [q.len]; exact h64, fun zs hz p' hp => hq _ _ _ _ (hR (zs.map (·.2)) ?_) (rel1.resOw hp ?_)⟩
    · have := hz.map (·.2)
      rwa [List.map_snd_zip (by rw [q.len]; exact Nat.le_refl _)] at this
    · exact dns_all fun z hz' => dns_zip q z (hz.mem_iff.mp hz')
end
end L2
namespace L2
open PySem PySem.Spec PyProof.Rows PySem.W
section
variable {X : Cx} {K : PySem.W.Frag} {e o : Expr} {pos p2 : Pos}
theorem picks {N : Addr → Prop} {H : Hp} {vs : List V} {ds : List PyData} {its : List Value} (q : DNs K N H vs ds) (r : Vals vs its) : ∀ js : List Nat, ∃ zs : List (V × PyData), (∀ z ∈ zs, DN K N H z.1 z.2 ∧ z.2 ∈ ds) ∧ Vals (zs.map (·.1)) (js.filterMap (its[·]?))
  | [] => ⟨[], by simp, .nil⟩
  | j :: js => by
    obtain ⟨zs, h1, h2⟩ := picks q r js
    cases e : its[j]? with
    | none => exact ⟨zs, h1, by simpa [e] using h2⟩
    | some u =>
      have hj : j < its.length := (List.getElem?_eq_some_iff.mp e).1
      have hl := r.length
      have hl2 := q.len
      obtain ⟨u', e', ru⟩ := r.get (i := j) (x := vs[j]) (by simp)
      rw [e] at e'
      cases e'
      have hm : (vs[j], ds[j]) ∈ vs.zip ds := by
        rw [List.mem_iff_getElem?]
        exact ⟨j, by rw [List.getElem?_zip_eq_some]; exact ⟨List.getElem?_eq_getElem _, List.getElem?_eq_getElem _⟩⟩
      refine ⟨(vs[j], ds[j]) :: zs, fun z hz => ?_, by simpa [e] using (.cons ru h2 : Vals (vs[j] :: zs.map (·.1)) (u :: js.filterMap (its[·]?)))⟩
      rcases List.mem_cons.mp hz with rfl | hz
      · exact ⟨dns_zip q _ hm, List.getElem_mem _⟩
      · exact h1 z hz
def tStep (K : PySem.W.Frag) (te : TE) : TE := fun σ H Q => te σ H fun x H1 => ∃ a xs N ds, x = .ref a ∧ SqL K H1 a xs ∧ DNs K N H1 xs ds ∧ ∀ zs : List (V × PyData), (∀ z ∈ zs, DN K N H1 z.1 z.2 ∧ z.2 ∈ ds) → zs.length ≤ ds.length → ∀ p, H1 p = none → Q (.ref p) (upd H1 p (.lst (zs.map (·.1))))
theorem pe_step {st : Expr} {te : TE} (hK : X.K = K) (he : PE X e te) (hst : PE X st (tC (.int (-1)))) : PE X (.Subscript e (.Slice none none (some st) p2) pos) (tStep K te) := by
  subst hK
  intro pins s σ H Q I h
  refine Subscript_ (thn (he pins s σ H _ I h) fun v s1 ⟨x, H1, I1, r1, q1⟩ => ?_)
  refine wpAny_Slice ?_
  rw [evalPart_none]
  refine wpAny_pure ?_
  refine wpAny_pure ?_
  rw [evalPart_some]
  refine thn (hst pins s1 σ H1 _ I1 (show tC (.int (-1)) σ H1 (fun y H2 => y = .int (-1) ∧ H2 = H1) from ⟨rfl, rfl⟩)) fun vst s3 ⟨y, H3, I3, r3, ey, eH⟩ => ?_
  subst ey eH
  obtain ⟨t, rfl⟩ := r3
  obtain ⟨a, xs, N, ds, rfl, hx, hd, q⟩ := q1
  cases r1
  have I4 : Inv X pins σ H3 { s3 with heap := s3.heap.push { cls := .type "slice", data := .fields #[.none, .none, .int (-1) t] } } := I3.kept (t' := s3.toks) fun b ob q => Heap.get?_push_of_some _ q
  obtain ⟨its, r, ht, hz⟩ := I4.list hx
  have hlen := r.length
  have hsl : Heap.IsSliceOf (s3.heap.push { cls := .type "slice", data := .fields #[.none, .none, .int (-1) t] }) s3.heap.objs.size .none .none (.int (-1) t) := Heap.IsSliceOf.new ..
  show wpAny (model X.prog X.w) X.A (subscriptTail e (.Slice none none (some st) p2) (.ref a) (.ref s3.heap.objs.size)) (EP X pins σ Q) X.xe { s3 with heap := s3.heap.push { cls := .type "slice", data := .fields #[.none, .none, .int (-1) t] } }
  refine tail_any (ops := [.ref a, .ref s3.heap.objs.size]) ht.isList.typeIs slot_list_getitem.lookup ?_ (by with_unfolding_all rfl)
  refine wpAny_getItem_list_slice (lo := none) (hi := none) (st := some (-1)) ht.isList hsl .none .none (.int _ t) (by decide) ?_ (by rw [List.size_toArray]; omega)
  obtain ⟨zs, h1, h2⟩ := picks hd r (sliceRange (sliceBounds none none (some (-1)) its.toArray.size).1 (sliceBounds none none (some (-1)) its.toArray.size).2.1 (sliceBounds none none (some (-1)) its.toArray.size).2.2)
  have hp : (slicePick its.toArray none none (some (-1))) = (List.filterMap (fun x => its[x]?) (sliceRange (sliceBounds none none (some (-1)) its.toArray.size).1 (sliceBounds none none (some (-1)) its.toArray.size).2.1 (sliceBounds none none (some (-1)) its.toArray.size).2.2)).toArray := by
    unfold slicePick
    simp
  have hle := slicePick_size_le its.toArray none none (some (-1))
  have hl2 : zs.length ≤ its.length := by
    have := h2.length
    rw [hp] at hle
    simp at hle this
    omega
  rw [hp]
  have hd2 := hd.len
  refine ⟨.ref _, _, I4.laid (t' := s3.toks) (o := .lst (zs.map (·.1))) (fun b ob q => Heap.get?_push_of_some _ q) (Nat.le_refl _) ⟨?_, _, 0, h2, Heap.get?_push_size _ rfl⟩, rfl, q zs h1 (by omega) _ (I4.hok.fresh (Nat.le_refl _))⟩
  rw [List.length_map]
  omega
variable {ta to : DE} {tl : DA}
def dStep (te : DE) : DE := fun env R => te env fun s env1 => ∃ ds, valOf env1 s = some (.list ds) ∧ ∀ es : List PyData, (∀ x ∈ es, x ∈ ds) → es.length ≤ ds.length → R (.ow es) env1
theorem q_step {st : Expr} (hK : X.K = K) (he : PE X e (up K ta)) (hst : PE X st (tC (.int (-1)))) : PE X (.Subscript e (.Slice none none (some st) p2) pos) (up K (dStep ta)) := (pe_step (K := K) hK he hst).imp fun σ H Q h => by
  obtain ⟨M, P, H0, σ0, env, ts, R, rel, ht, hq⟩ := h
  refine ⟨M, P, H0, σ0, env, ts, _, rel, ht, fun s1 env1 v1 H1 h1 rel1 => ?_⟩
  obtain ⟨ds, e1, hR⟩ := h1
  obtain ⟨a, vs, rfl, sq, q⟩ := (rel1.view (v := v1) (by simp) e1).list
  refine ⟨a, vs, _, ds, rfl, sq, q, fun zs hz hl p hp => hq _ _ _ _ (hR (zs.map (·.2)) (fun x hx => ?_) (by rw [List.length_map]; exact hl)) (rel1.resOw hp (dns_all fun z hz' => (hz z hz').1))⟩
  obtain ⟨z, hz1, rfl⟩ := List.mem_map.mp hx
  exact (hz z hz1).2
theorem pe_neg1 {j p3 p4} : PE X (.UnaryOp .USub (.Constant (.int 1) j p3) p4) (tC (.int (-1))) := (pe_un un_neg pe_int).imp fun σ H Q h => ⟨1, rfl, h⟩
end
end L2
namespace L2
open PySem PySem.Spec PyProof.Rows PySem.W PySem.Calls
section
variable {prog : Program} {w : World} {A : Around} {R : Result → Shared → Prop} {I : Addr} {fp wr : List Addr} {n : Nat} {P : Nat → Value → Prop} {St : Nat → Heap → Prop}
end
section
variable {X : Cx} {K : PySem.W.Frag} {e : Expr} {tl : DA} {p pos kpos p3 : Pos}
end
end L2
namespace L2
open PySem PySem.Spec PyProof.Rows
section
variable {ds : List PyData} {ix : List (Option Nat)} {g : DG} {tt : DT} {te : DE} {env : List Sl} {R : Sl → List Sl → Prop}
theorem cd_all (P : PyData → Prop) (hz : ds.length ≤ 1000000) (h : ∀ i, (h : i < ds.length) → ∀ Q : PyData → Prop, (∀ d, P d → Q d) → g ds[i] (capE ix env) fun b1 => te b1 fun s b3 => ∃ d, keepOf b3 s = some d ∧ Q d)
    (hR : ∀ rs : List PyData, rs.length = ds.length → (∀ d ∈ rs, P d) → R (.ow rs) env) : CD ds ix g dYes te env R := by
  refine ⟨fun i rs => rs.length = i ∧ i ≤ ds.length ∧ ∀ d ∈ rs, P d, ⟨rfl, Nat.zero_le _, by simp⟩, fun i rs hi w => ?_, fun rs w => hR rs w.1 w.2.2⟩
  obtain ⟨w1, w2, w3⟩ := w
  refine ⟨by rw [w1]; exact Nat.lt_of_lt_of_le (by omega) line_big, ?_⟩
  have := h i hi (fun d => (rs ++ [d]).length = i + 1 ∧ i + 1 ≤ ds.length ∧ ∀ x ∈ rs ++ [d], P x) fun d hd => ⟨by simp [w1], hi, fun x hx => by
    rcases List.mem_append.mp hx with hx | hx
    · exact w3 x hx
    · rw [List.mem_singleton.mp hx]; exact hd⟩
  simpa only [dYes, if_true] using this
theorem cd_some (P : PyData → Prop) (hz : ds.length ≤ 1000000) (h : ∀ i, (h : i < ds.length) → ∀ (Q : PyData → Prop) (Q' : Prop), (∀ d, P d → Q d) → Q' → g ds[i] (capE ix env) fun b1 => tt b1 fun k b2 => if k = true then te b2 fun s b3 => ∃ d, keepOf b3 s = some d ∧ Q d else Q')
    (hR : ∀ rs : List PyData, rs.length ≤ ds.length → (∀ d ∈ rs, P d) → R (.ow rs) env) : CD ds ix g tt te env R := by
  refine ⟨fun i rs => rs.length ≤ i ∧ i ≤ ds.length ∧ ∀ d ∈ rs, P d, ⟨Nat.zero_le _, Nat.zero_le _, by simp⟩, fun i rs hi w => ?_, fun rs w => hR rs w.1 w.2.2⟩
  obtain ⟨w1, w2, w3⟩ := w
  refine ⟨Nat.lt_of_lt_of_le (by omega) line_big, ?_⟩
  exact h i hi (fun d => (rs ++ [d]).length ≤ i + 1 ∧ i + 1 ≤ ds.length ∧ ∀ x ∈ rs ++ [d], P x) _ (fun d hd => ⟨by simp; omega, hi, fun x hx => by
    rcases List.mem_append.mp hx with hx | hx
    · exact w3 x hx
    · rw [List.mem_singleton.mp hx]; exact hd⟩) ⟨by omega, hi, w3⟩
end
theorem all_ints {p : Int → Prop} : ∀ {rs : List PyData}, (∀ d ∈ rs, ∃ x : Int, d = .int x ∧ p x) → ∃ ns : List Int, rs = li ns ∧ ∀ x ∈ ns, p x
  | [], _ => ⟨[], rfl, by simp⟩
  | d :: rs, h => by
    obtain ⟨ns, rfl, h2⟩ := all_ints (rs := rs) fun e he => h e (by simp [he])
    obtain ⟨x, rfl, hx⟩ := h d (by simp)
    exact ⟨x :: ns, rfl, fun y hy => by
      rcases List.mem_cons.mp hy with rfl | hy
      · exact hx
      · exact h2 y hy⟩
end L2
namespace L2
open PySem PySem.Spec PyProof.Rows PySem.W
section
variable {CX : CXT} {P : Program} {w : World} {K : PySem.W.Frag} {mg : Str → Option Value} {base : Heap} {k : Nat} {f c' : Addr} {qual : Str} {params : Arguments} {body : Expr} {scope : Scope} {pm ctv : Value} {N ps : List Str}
  {A : Around} {outer : List Env} {s : Shared} {H : Hp} {us : List Value} {vs : List V} {Q : VK} {E : XK} {t : TE}
end
section
variable {X : Cx} {pins : List (Addr × Obj)} {σ : St} {H : Hp} {s : Shared}
variable {params : Arguments} {body : Expr} {scope : Scope} {pos : Pos} {E : Value → Shared → Prop}
end
end L2
namespace L2
open PySem PySem.Spec PyProof.Rows PySem.W
section
variable {X : Cx} {pins : List (Addr × Obj)} {σ : St} {H : Hp} {s : Shared} {params : Arguments} {scope : Scope} {p1 p2 p3 p4 p5 : Pos} {kk : Nat} {f c' : Addr} {qual : Str} {pm ctv : Value} {k : Nat} {A : Around}
end
section
variable {X : Cx} {pins : List (Addr × Obj)} {σ : St} {H0 : Hp} {f : Value} {vs : List Value} {A : Around} {E : Value → Shared → Prop} {a kS : Addr}
end
end L2
namespace L2
open PySem PySem.Spec PyProof.Rows PySem.W
section
variable {X : Cx} {pins : List (Addr × Obj)} {σ : St} {H0 : Hp} {f : Addr} {vs : List Value} {A : Around} {E : Value → Shared → Prop} {s : Shared}
end
section
variable {X : Cx} {K : PySem.W.Frag} {e : Expr} {t : TA} {p pos kpos lpos p1 p2 p3 p4 p5 : Pos} {kk : Nat} {params : Arguments} {scope : Scope}
variable {tl : DA}
end
section
variable {P : Program} {w : World} {K : PySem.W.Frag} {mg : Str → Option Value} {base : Heap}
end
end L2
namespace L2
open PySem PySem.Spec PyProof.Rows PySem.W
section
variable {X : Cx} {K : PySem.W.Frag} {e1 e2 : Expr} {tl : DA} {p pos : Pos}
end
end L2
namespace L2
open PySem PySem.Spec PyProof.Rows PySem.W
open PySem.SeqAt PySem.MeetsSeq PySem.MeetsSeq2 PySem.MeetsSeq3 PySem.SeqRoads2
open PySem.AutoSeq1 (wpAny_loadPart')
def At (items : Array Value) (ns : List Int) : Prop := ns.length = items.size ∧ ∀ j (h : j < items.size), ∃ t, items[j] = Value.int (ns.getD j 0) t
section
variable {prog : Program} {w : World} {A : Around} {E : Value → Shared → Prop} {s : Shared}
def KeyX (h : Heap) (v : Value) (k : Int × List Int) : Prop := ∃ (a : Addr) (o : Obj) (n : Nat) (t : Tok) (l : Addr) (its : Array Value) (as : List Addr), v = .ref a ∧ h.get? a = some o ∧ o.cls = .type "tuple" ∧ o.data = .seq #[.int k.1 t, .ref l] n ∧ h.IsList l its ∧ At its k.2 ∧ Reads h (.ref l) (.list (k.2.map PyData.int)) as
def kasRun {α : Type} (lt : Nat → Nat → Bool) : KasT α → α
  | .ret a => a
  | .ask i j k => kasRun lt (k (lt i j))
end
end L2
namespace L2
open PySem PySem.Spec PyProof.Rows PySem.W
section
variable {X : Cx} {pins : List (Addr × Obj)} {σ : St} {H : Hp} {s : Shared}
end
section
variable {prog : Program} {w : World} {A : Around} {E : Value → Shared → Prop} {s : Shared}
end
end L2
namespace L2
open PySem PySem.Spec PyProof.Rows PySem.W
section
variable {X : Cx} {K : PySem.W.Frag}
variable {e : Expr} {p pos : Pos} {tl : DA}
end
section
variable {X : Cx} {pins : List (Addr × Obj)} {σ : St} {H0 : Hp} {f : Value} {vs : List Value} {A : Around} {E : Value → Shared → Prop} {a kS : Addr}
end
section
variable {X : Cx} {pins : List (Addr × Obj)} {σ : St} {H0 : Hp} {f : Addr} {vs : List Value} {A : Around} {E : Value → Shared → Prop} {s : Shared}
end
section
variable {X : Cx} {K : PySem.W.Frag} {e : Expr} {t : TA} {p pos kpos lpos p1 p2 p3 p4 p5 : Pos} {kk : Nat} {params : Arguments} {scope : Scope}
variable {tl : DA}
end
end L2
namespace L2
open PySem PySem.Spec PyProof.Rows PySem.W
section
variable {prog : Program} {w : World} {A : Around} {E : Value → Shared → Prop} {h : Heap} {g : Array GenState} {d : Drawn} {t : Nat} {os : OsState}
variable {nm q : Str} {C N : Addr} {bs bm bmB : List Value} {hdct : Bool} {sn : List Str} {sub : List Value} {ab : Bool} {col : Option Bool} {dd : Option Addr} {k0 k1 k2 k3 k5 : Option Value} {B newId initId : String}
theorem type_call_init (F : ExcBaseFacts B newId initId bmB) (T : OwnTail h bmB bm) {rest : List Value} {fI : Addr} {oI : Obj} {Q : Fin → Shared → Prop}
    (hC : h.get? C = some (excClassObj nm q C N bs bm hdct sn sub ab col dd k0 k1 k2 k3 k5 newId)) (hi : Looks (model prog w) h (typeLookup (.ref C) "__init__") (some (.ref fI)))
    (hfI : h.get? fI = some oI) (hfc : oI.cls = .type "function")
    (hq : ∀ h' e, Heap.MadeExcOf h h' e (.ref C) rest → h.objs.size ≤ e → h'.objs.size = h.objs.size + 2 →
      wpAny (model prog w) A (call (.ref fI) (.ref e :: rest)) (fun r s' => r = .none ∧ Q (.done (.ret (.ref e))) s') E ⟨h', g, d, t, os⟩) (hrest : rest.length ≤ sizeLine := by size_fits) :
    wpAny (model prog w) A (Builtin.«type.__call__» ⟨.ref C :: rest, []⟩) Q E ⟨h, g, d, t, os⟩ := by
  repeat (first | with_reducible refine wpAny_loadPart_at hC ?_ | with_reducible refine wpAny_madeBy_exc hC ?_ | wp_step)
  refine codeAny_call_builtin_code (Code.quiet_builtin _ F.quiet) (wpAny_check_new_subU F F.hasB T hC ?_)
  refine codeAny_exc_new_subU F F.hasB F T hC ?_ hrest
  show wpAny _ _ _ _ _ _
  have hC₁ := Heap.get?_push_of_some { cls := .ref C, data := .fields #[.ref h.objs.size, .none, .none, .none, .bool false, .none] }
    (Heap.get?_push_of_some { cls := .type "tuple", data := .seq rest.toArray } hC)
  have hfI₁ := Heap.get?_push_of_some { cls := .ref C, data := .fields #[.ref h.objs.size, .none, .none, .none, .bool false, .none] }
    (Heap.get?_push_of_some { cls := .type "tuple", data := .seq rest.toArray } hfI)
  have hget : ((h.push { cls := .type "tuple", data := .seq rest.toArray }).push
      { cls := .ref C, data := .fields #[.ref h.objs.size, .none, .none, .none, .bool false, .none] }).get? (h.objs.size + 1) = some
      { cls := .ref C, data := .fields #[.ref h.objs.size, .none, .none, .none, .bool false, .none] } := by heap_get
  have hcC : (Value.ref C :: bm).contains (.ref C) = true := by simp
  unfold isInstance
  repeat (first | with_reducible refine wpAny_loadPart_at hget ?_ | (with_reducible refine wpAny_isSubtype_exc hC₁ ?_; rw [hcC]) | wp_step)
  show wpAny _ _ (typeLookup (.ref C) _) _ _ _
  refine (hi.keeps (h' := (h.push { cls := .type "tuple", data := .seq rest.toArray }).push { cls := .ref C, data := .fields #[.ref h.objs.size, .none, .none, .none, .bool false, .none] }) fun b o e => Heap.get?_push_of_some _ (Heap.get?_push_of_some _ e)).at ?_
  dsimp only
  refine wpAny_holding (wpAny_bind ?_)
  unfold bindSpecial
  refine wpAny_bind (wpAny_typeOf (T := "function") ⟨_, hfI₁, hfc⟩ ?_)
  rw [if_pos (by decide)]
  refine wpAny_pure (wpAny_bind (wpAny_mono (hq _ (h.objs.size + 1) ⟨fun b o hb => Heap.get?_push_of_some _ (Heap.get?_push_of_some _ hb), Heap.get?_none_of_le (Nat.le_succ _), h.objs.size, hget, Heap.get?_none_of_le (Nat.le_refl _), ?_⟩ (Nat.le_succ _) (by rw [Heap.size_push, Heap.size_push])) (fun r s' hr => ?_) fun _ _ x => x))
  · exact Heap.get?_push_of_some _ (Heap.get?_push_at rfl rfl)
  · obtain ⟨rfl, hQ⟩ := hr
    wp_walk
    exact hQ
theorem call_init (F : ExcBaseFacts B newId initId bmB) (T : OwnTail h bmB bm) {rest : List Value} {fI : Addr} {oI : Obj} {Q : Value → Shared → Prop}
    (hC : h.get? C = some (excClassObj nm q C N bs bm hdct sn sub ab col dd k0 k1 k2 k3 k5 newId)) (hi : Looks (model prog w) h (typeLookup (.ref C) "__init__") (some (.ref fI)))
    (hfI : h.get? fI = some oI) (hfc : oI.cls = .type "function")
    (hq : ∀ h' e, Heap.MadeExcOf h h' e (.ref C) rest → h.objs.size ≤ e → h'.objs.size = h.objs.size + 2 →
      wpAny (model prog w) (A.under (.builtin "type.__call__" ⟨.ref C :: rest, []⟩)) (call (.ref fI) (.ref e :: rest)) (fun r s' => r = .none ∧ Q (.ref e) s') E ⟨h', g, d, t, os⟩) (hrest : rest.length ≤ sizeLine := by size_fits) :
    wpAny (model prog w) A (call (.ref C) rest) Q E ⟨h, g, d, t, os⟩ := by
  have f1 := tc_lookup
  have f2 := tc_bind (.ref C)
  have hT : (⟨h, g, d, t, os⟩ : Shared).TypeIs (.ref C) "type" := ⟨_, hC, rfl⟩
  refine wpAny_call (codeAny_of_tree ?_)
  show wpAny _ _ (callAny (.ref C) _) _ _ _
  repeat (any_goals (first | assumption | with_reducible refine wpAny_loadPart_at hC ?_ | wp_step))
  refine ⟨rfl, ?_⟩
  refine codeAny_call_builtin_at (Code.quiet_builtin _ (by decide +kernel)) entry_typeCall (wpAny_check_type_call_sub hC (type_call_init (hrest := hrest) F T hC hi hfI hfc fun h' e hm h1 h2 => ?_))
  exact hq h' e hm h1 h2
end
section
variable {M : Model} {A : Around} {E : Value → Shared → Prop} {env : Env} {nm q : Str} {C N : Addr} {bs bm : List Value} {hdct : Bool} {sn : List Str} {sub : List Value} {ab : Bool} {col : Option Bool} {dd : Option Addr} {k0 k1 k2 k3 k5 : Option Value} {newId : String}
theorem raise_made {s : Shared} {x : Sem Value} {Q : Flow → Shared → Prop} (hbase : bm.contains (.type "BaseException") = true) (hh : A.handled = none)
    (h : wpAny M A x (fun v s₁ => ∃ e t dx sl, v = .ref e ∧ s₁.heap.get? C = some (excClassObj nm q C N bs bm hdct sn sub ab col dd k0 k1 k2 k3 k5 newId) ∧
      s₁.heap.get? e = some { cls := .ref C, dict := dx, data := .fields #[.ref t, .none, .none, .none, .bool false, .none], slots := sl } ∧ E (.ref e) s₁) E s) :
    wpAny M A (raiseStmt env (some x) none) Q E s := by
  have hcB : (Value.ref C :: bm).contains (.type "BaseException") = true := by rw [List.contains_cons, hbase, Bool.or_true]
  unfold raiseStmt
  refine wpAny_bind (wpAny_mono h (fun v s₁ h₁ => ?_) fun _ _ x => x)
  obtain ⟨e, t, dx, sl, rfl, hC, he, hE⟩ := h₁
  obtain ⟨hp, g, d, tk, os⟩ := s₁
  repeat (first | with_reducible refine wpAny_loadPart_at he ?_ | with_reducible refine wpAny_loadPart_at hC ?_ | (with_reducible refine wpAny_isSubtype_exc hC ?_; rw [hcB]) | wp_step)
  exact wpAny_raiseNew_none hh hE
end
end L2
namespace L2
open PySem PySem.Spec PyProof.Rows PySem.W
open Builtin Builtin.ObjectAttr
section
variable {prog : Program} {w : World} {A : Around} {E : Value → Shared → Prop} {h : Heap} {g : Array GenState} {d : Drawn} {t : Nat} {os : OsState}
variable {nm q : Str} {C N x : Addr} {bs bm : List Value} {sn : List Str} {sub : List Value} {ab : Bool} {col : Option Bool} {dd : Option Addr} {k0 k1 k2 k3 k5 : Option Value} {newId : String} {name : Str} {v : Value} {o : Obj}
def Stored (h : Heap) (x : Addr) (o : Obj) (name : Str) (v : Value) (h' : Heap) : Prop :=
  h'.get? x = some { cls := o.cls, dict := some h.objs.size, data := o.data, slots := o.slots } ∧ h'.Ns1 h.objs.size (fun y => if y = name then some v else none) ∧ (∀ b ob, b ≠ x → h.get? b = some ob → h'.get? b = some ob)
theorem exc_entry {tk : Tok} {Q : Fin → Shared → Prop} (hpass : refuseLoop (.ref x) "__setattr__" bm = pure ()) (hC : h.get? C = some (excClassObj nm q C N bs bm true sn sub ab col dd k0 k1 k2 k3 k5 newId))
    (hn : Looks (model prog w) h (typeLookup (.ref C) name) none) (hx : h.get? x = some o) (hc : o.cls = .ref C) (hnc : ∀ c, o.data ≠ .cls c) (hdn : o.dict = none)
    (hq : ∀ h' tk', Stored h x o name v h' → Q (.done (.ret .none)) ⟨h', g, d, tk', os⟩) :
    wpAny (model prog w) A (Builtin.«object.__setattr__» ⟨[.ref x, .str name tk, v], []⟩) Q E ⟨h, g, d, t, os⟩ := by
  unfold Builtin.«object.__setattr__»
  repeat (first | rw [refuse_eq] | (rw [refuseLoop_ref, hpass]) | (with_reducible refine wpAny_loadPart_at hx ?_; rw [hc]) | with_reducible refine wpAny_mroOf_exc hC ?_ | with_reducible refine hn.at ?_ | wp_step)
  rw [hdn, if_neg (by simp [typeHasDict])]
  split
  · rename_i hcd
    cases hcd
  split
  · rename_i c hcd
    exact absurd hcd (hnc c)
  · have hx₁ : (h.push { cls := .type "dict", data := .dict #[] }).get? x = some o := Heap.get?_push_of_some _ hx
    have hxs : x ≠ h.objs.size := Nat.ne_of_lt (Heap.lt_size hx)
    refine wpAny_bind (wpAny_alloc' ?_)
    refine wpAny_bind (wpAny_update' hx₁ ?_)
    refine wpAny_pure ?_
    have hgd : ((h.push { cls := .type "dict", data := .dict #[] }).update x fun o => { cls := o.cls, dict := some h.objs.size, data := o.data, slots := o.slots }).get? h.objs.size
        = some { cls := .type "dict", data := .dict #[] } :=
      (Heap.get?_update_ne _ _ _ _ hxs.symm).trans (Heap.get?_push_at rfl rfl)
    have hnd : ((h.push { cls := .type "dict", data := .dict #[] }).update x fun o => { cls := o.cls, dict := some h.objs.size, data := o.data, slots := o.slots }).Ns h.objs.size (fun _ => none) :=
      ⟨_, #[], _, hgd, rfl, fun e he => absurd he (by simp), fun _ => rfl⟩
    show wpAny _ _ (storeInDict h.objs.size (.str name tk) name v) _ _ _
    unfold storeInDict newKeyGuard
    refine wpAny_bind (wpAny_pure (wpAny_bind (wpAny_nsSet1 (Heap.Ns1.of_empty hnd) fun h' hn' hs => ?_)))
    obtain ⟨oD, esD, epD, hoD, hdD, hcD⟩ := hn'.count (Within.cons name v Within.nil)
    refine wpAny_bind (wpAny_lookBehind hoD (by rw [hdD]; exact pastItsLine_dict (Nat.le_trans hcD (by rw [List.length_cons, List.length_nil, sizeLine_eq]; omega))) ?_)
    wp_walk
    refine hq h' _ ⟨?_, hn', fun b ob hbx hb => ?_⟩
    · refine (hs.2 x hxs).trans (Heap.get?_update_self _ hx₁ ?_)
      have hfr := (Heap.get?_some_iff.mp hx).2
      obtain ⟨oc, od, odt, osl⟩ := o
      cases odt <;> first | rfl | exact hfr
    · exact (hs.2 b (Nat.ne_of_lt (Heap.lt_size hb))).trans ((Heap.get?_update_ne _ _ _ _ hbx).trans (Heap.get?_push_of_some _ hb))
theorem exc_check {M : Model} {nameV : Value} {Q : Unit → Shared → Prop} (hob : bm.contains (.type "object") = true)
    (hC : h.get? C = some (excClassObj nm q C N bs bm true sn sub ab col dd k0 k1 k2 k3 k5 newId)) (hx : h.get? x = some o) (hc : o.cls = .ref C) (hq : Q () ⟨h, g, d, t, os⟩) :
    wpAny M A (checkBuiltinCall "object.__setattr__" ⟨[.ref x, nameV, v], []⟩) Q E ⟨h, g, d, t, os⟩ := by
  have SF := PySem.F.store_object
  have hcB : (Value.ref C :: bm).contains (.type "object") = true := by rw [List.contains_cons, hob, Bool.or_true]
  have ha := SF.args (.ref x) nameV v
  simp only [checkBuiltinCall, SF.kind, SF.split]
  refine wpAny_bind ?_
  · unfold isInstance
    repeat (first | (with_reducible refine wpAny_loadPart_at hx ?_; rw [hc]) | (with_reducible refine wpAny_isSubtype_exc hC ?_; rw [hcB]) | wp_step)
    exact hq
theorem exc_store {Q : Unit → Shared → Prop} (hpass : refuseLoop (.ref x) "__setattr__" bm = pure ()) (hob : bm.contains (.type "object") = true) (hC : h.get? C = some (excClassObj nm q C N bs bm true sn sub ab col dd k0 k1 k2 k3 k5 newId))
    (hsa : Looks (model prog w) h (typeLookup (.ref C) "__setattr__") (some (.builtin "object.__setattr__"))) (hn : Looks (model prog w) h (typeLookup (.ref C) name) none) (hx : h.get? x = some o) (hc : o.cls = .ref C) (hnc : ∀ c, o.data ≠ .cls c) (hdn : o.dict = none)
    (hq : ∀ h' tk', Stored h x o name v h' → Q () ⟨h', g, d, tk', os⟩) : wpAny (model prog w) A (setAttr (.ref x) name v) Q E ⟨h, g, d, t, os⟩ := by
  have SF := PySem.F.store_object
  have f3 := SF.slot.bind (.ref x)
  unfold setAttr callSpecial? specialOf
  repeat (any_goals (first | assumption | (with_reducible refine wpAny_loadPart_at hx ?_; rw [hc]) | with_reducible refine hsa.at ?_ | wp_step))
  refine codeAny_call_builtin SF.slot.plain SF.entry (exc_check hob hC hx hc (exc_entry hpass hC hn hx hc hnc hdn fun h' tk' hst => ?_))
  repeat (any_goals (first | assumption | wp_step))
  exact hq h' tk' hst
end
end L2
namespace L2
open PySem PySem.Spec PyProof.Rows PySem.W
structure LeftX (l : List Env) (e old : Addr) (oe : Obj) (vs : Array Value) (fl : Value) (h h' : Heap) (T : Addr) : Prop where
  self : h'.get? e = some { cls := oe.cls, dict := oe.dict, data := .fields (vs.setIfInBounds 1 (.ref T)), slots := oe.slots }
  new : h.objs.size ≤ T
  ent : ∃ oT ts, h'.get? T = some oT ∧ oT.data = .fields ts ∧ ts[3]? = some fl
  keep : ∀ b o, b ≠ e → b ≠ old → b ∉ frs l → h.get? b = some o → h'.get? b = some o
  slot : ∀ b o, b ≠ e → b ≠ old → h.get? b = some o → ∃ sl, h'.get? b = some { o with slots := sl }
  sz : h.objs.size ≤ h'.objs.size
section
variable {M : Model} {A : Around} {E : Value → Shared → Prop} {s : Shared}
theorem entry_any {base : Heap} {env : Env} {outer : List Env} {L e : Addr} {oe : Obj} {vs : Array Value} {head : Value} {hadNext : Bool} {Q : Unit → Shared → Prop}
    (hfr : A.frames = some (env :: outer)) (hl : s.heap.FunFrames base (env :: outer)) (hf : env.frame = some L) (he : s.heap.get? e = some oe) (hd : oe.data = .fields vs) (hsz : 1 < vs.size)
    (h : ∀ h' T, LeftX (env :: outer) e e oe vs (rawInt L) s.heap h' T → Q () { s with heap := h' }) :
    wpAny M A (do let a ← frameOf env; let pl ← entryPlaceOf L hadNext; let b ← EntryCells.newEntry head a .none (rawInt L) .none pl; setField (.ref e) 1 b) Q E s := by
  have hene : e ∉ (env :: outer).filterMap (·.frame) := fun hm => by
    obtain ⟨_, o, ho, hnf⟩ := hl.mem hm
    rw [he] at ho; injection ho with ho; subst ho; exact hnf vs hd
  refine wpAny_bind (wpAny_frameOf_fun hfr hl hf fun h₁ hs₁ => ?_)
  refine wpAny_bind (wpAny_entryPlaceOf fun pl hpl => ?_)
  unfold EntryCells.newEntry newFields
  refine wpAny_bind (wpAny_newObj_type ?_ (hpl.sizeOk5 _ _ _ _ _))
  have he₁ : h₁.get? e = some oe := (hs₁.2.1 e hene).trans he
  have he₂ := Heap.get?_push_of_some (h := h₁) { cls := .type "traceback", dict := none, data := .fields ([head, .ref L, .none, rawInt L, .none] ++ (if pl.isEmpty then List.replicate 6 Value.none else pl)).toArray } he₁
  refine wpAny_setField he₂ hd hsz (h _ h₁.objs.size ?_)
  have hTe : h₁.objs.size ≠ e := Nat.ne_of_gt (Heap.lt_size he₁)
  have hd₃ := Obj.data_mapFields hd (·.setIfInBounds 1 (Value.ref h₁.objs.size))
  have he₃ := Heap.get?_update_self (Obj.mapFields (·.setIfInBounds 1 (Value.ref h₁.objs.size))) he₂ (Obj.isFreed_of_fields hd₃)
  have hT₃ := (Heap.get?_update_other (h₁.push { cls := .type "traceback", dict := none, data := .fields ([head, .ref L, .none, rawInt L, .none] ++ (if pl.isEmpty then List.replicate 6 Value.none else pl)).toArray })
    (Obj.mapFields (·.setIfInBounds 1 (Value.ref h₁.objs.size))) (Ne.symm hTe)).trans (Heap.get?_push_size h₁ rfl)
  have keep : ∀ b o, b ≠ e → h₁.get? b = some o →
      ((h₁.push { cls := .type "traceback", dict := none, data := .fields ([head, .ref L, .none, rawInt L, .none] ++ (if pl.isEmpty then List.replicate 6 Value.none else pl)).toArray }).update e (Obj.mapFields (·.setIfInBounds 1 (Value.ref h₁.objs.size)))).get? b = some o :=
    fun b o hbe hb => by
      rw [Heap.get?_update_other _ _ (Ne.symm hbe)]
      exact Heap.get?_push_of_some _ hb
  have hszs : s.heap.objs.size ≤ h₁.objs.size := Nat.le_of_eq hs₁.1.symm
  refine ⟨?_, hszs, ⟨_, _, hT₃, rfl, by first | (simp; done) | (rcases hpl with rfl | ⟨_, _, _, _, _, _, _, rfl⟩ <;> simp)⟩, fun b o hbe _ hb ho => ?_, fun b o hbe _ ho => ?_, ?_⟩
  · rw [he₃]
    obtain ⟨oc, od, oda, osl⟩ := oe
    dsimp only at hd
    subst hd
    rfl
  · exact keep b o hbe ((hs₁.2.1 b hb).trans ho)
  · obtain ⟨sl, hs⟩ := hs₁.2.2 b o ho
    exact ⟨sl, keep b _ hbe hs⟩
  · rw [Heap.size_update, Heap.size_push]
    exact Nat.le_succ_of_le hszs
def Trc (h : Heap) (e : Addr) (oe : Obj) (vs : Array Value) (T : Addr) (fl : Value) : Prop :=
  h.get? e = some oe ∧ oe.data = .fields vs ∧ vs[1]? = some (.ref T) ∧ T ≠ e ∧ ∃ oT ts, h.get? T = some oT ∧ oT.data = .fields ts ∧ ts[3]? = some fl
theorem LeftX.trc {l : List Env} {e old : Addr} {oe : Obj} {vs : Array Value} {fl : Value} {h h' : Heap} {T : Addr} (x : LeftX l e old oe vs fl h h' T) (he : h.get? e = some oe) (hsz : 1 < vs.size) :
    Trc h' e { cls := oe.cls, dict := oe.dict, data := .fields (vs.setIfInBounds 1 (.ref T)), slots := oe.slots } (vs.setIfInBounds 1 (.ref T)) T fl :=
  ⟨x.self, rfl, by simp [hsz], Nat.ne_of_gt (Nat.lt_of_lt_of_le (Heap.lt_size he) x.new), x.ent⟩
theorem flight_off {e T : Addr} {oe : Obj} {vs : Array Value} {fl : Value} {Q : Unit → Shared → Prop} (x : Trc s.heap e oe vs T fl)
    (h : ∀ h', Trc h' e oe vs T .none → (∀ b o, b ≠ T → s.heap.get? b = some o → h'.get? b = some o) → h'.objs.size = s.heap.objs.size → Q () { s with heap := h' }) : wpAny M A (setFlight (.ref e) none) Q E s := by
  obtain ⟨he, hd, h1, hTe, oT, ts, hT, hdT, h3⟩ := x
  have hsz3 : 3 < ts.size := (Array.getElem?_eq_some_iff.mp h3).1
  have other : ∀ b, b ≠ T → (s.heap.update T (Obj.mapFields (·.setIfInBounds 3 ((none : Option Addr).elim Value.none fun f => rawInt f)))).get? b = s.heap.get? b :=
    fun b hb => Heap.get?_update_other _ _ (Ne.symm hb)
  unfold setFlight
  refine wpAny_bind (wpAny_field he hd h1 ?_)
  rw [if_pos (show (Value.ref T != Value.none) = true from by simp)]
  refine wpAny_setField hT hdT hsz3 (h _ ⟨(other e (Ne.symm hTe)).trans he, hd, h1, hTe, _, _, Heap.get?_update_self _ hT (Obj.isFreed_of_fields (Obj.data_mapFields hdT _)), Obj.data_mapFields hdT _, by simp [hsz3]⟩ (fun b o hb ho => (other b hb).trans ho) (Heap.size_update _ _ _))
inductive Fly (h : Heap) (e : Addr) (oe : Obj) (vs : Array Value) : Addr → Prop
  | new : h.get? e = some oe → oe.data = .fields vs → vs[1]? = some .none → Fly h e oe vs e
  | on {T : Addr} : Trc h e oe vs T .none → Fly h e oe vs T
theorem note_frame {base : Heap} {env : Env} {outer : List Env} {L e old : Addr} {oe : Obj} {vs : Array Value} {Q : Unit → Shared → Prop}
    (hfr : A.frames = some (env :: outer)) (hl : s.heap.FunFrames base (env :: outer)) (hf : env.frame = some L) (x : Fly s.heap e oe vs old)
    (h : ∀ h' T, LeftX (env :: outer) e old oe vs (rawInt L) s.heap h' T → Q () { s with heap := h' }) : wpAny M A (noteFrame (.ref e) env) Q E s := by
  unfold noteFrame
  simp only [hf]
  cases x with
  | new he hd h1 =>
    refine wpAny_bind (wpAny_field he hd h1 ?_)
    rw [if_neg (by decide)]
    exact entry_any hfr hl hf he hd (Array.getElem?_eq_some_iff.mp h1).1 h
  | on x =>
    obtain ⟨he, hd, h1, hTe, oT, ts, hT, hdT, h3⟩ := x
    refine wpAny_bind (wpAny_field he hd h1 ?_)
    rw [if_pos (show (Value.ref old != Value.none) = true from by simp)]
    refine wpAny_bind (wpAny_field hT hdT h3 ?_)
    rw [if_neg (show ¬ ((Value.none == rawInt L) = true) from by simp [rawInt])]
    refine wpAny_bind (wpAny_setField hT hdT (Array.getElem?_eq_some_iff.mp h3).1 ?_)
    have other : ∀ b, b ≠ old → (s.heap.update old (Obj.mapFields (·.setIfInBounds 3 Value.none))).get? b = s.heap.get? b := fun b hb => Heap.get?_update_other _ _ (Ne.symm hb)
    have noRecord : ∀ b o, s.heap.get? b = some o → (∀ vs, o.data ≠ .fields vs) → b ≠ old := fun b o hb hnf q => by
      rw [q, hT] at hb; injection hb with hb; subst hb; exact hnf ts hdT
    refine entry_any (s := { s with heap := s.heap.update old (Obj.mapFields (·.setIfInBounds 3 Value.none)) }) hfr (hl.of_keeps fun b o hb hnf => ⟨o, (other b (noRecord b o hb hnf)).trans hb, rfl⟩) hf ((other e (Ne.symm hTe)).trans he) hd (Array.getElem?_eq_some_iff.mp h1).1 fun h' T y => h h' T ?_
    have hsz : (s.heap.update old (Obj.mapFields (·.setIfInBounds 3 Value.none))).objs.size = s.heap.objs.size := Heap.size_update _ _ _
    exact ⟨y.self, by have := y.new; rw [← hsz]; exact this, y.ent, fun b o h1 h2 h3 ho => y.keep b o h1 h1 h3 ((other b h2).trans ho), fun b o h1 h2 ho => y.slot b o h1 h1 ((other b h2).trans ho), by have := y.sz; rw [← hsz]; exact this⟩
theorem leave_frame {base : Heap} {env : Env} {outer : List Env} {L e old : Addr} {oe : Obj} {vs : Array Value} {Q : Unit → Shared → Prop}
    (hfr : A.frames = some (env :: outer)) (hl : s.heap.FunFrames base (env :: outer)) (hf : env.frame = some L) (x : Fly s.heap e oe vs old)
    (h : ∀ h' T, LeftX (env :: outer) e old oe vs .none s.heap h' T → Q () { s with heap := h' }) : wpAny M A (leaving env (.ref e)) Q E s := by
  have hx : s.heap.get? e = some oe ∧ 1 < vs.size := by
    cases x with
    | new he hd h1 => exact ⟨he, (Array.getElem?_eq_some_iff.mp h1).1⟩
    | on x => exact ⟨x.1, (Array.getElem?_eq_some_iff.mp x.2.2.1).1⟩
  unfold leaving
  refine wpAny_bind (note_frame hfr hl hf x fun h1 T y => ?_)
  refine flight_off (y.trc hx.1 hx.2) fun h2 z k hsz => ?_
  have hT : ∀ b o, s.heap.get? b = some o → b ≠ T := fun b o ho => Nat.ne_of_lt (Nat.lt_of_lt_of_le (Heap.lt_size ho) y.new)
  refine h h2 T ⟨z.1, y.new, z.2.2.2.2, fun b o h1 h2 h3 ho => k b o (hT b o ho) (y.keep b o h1 h2 h3 ho), fun b o h1 h2 ho => ?_, Nat.le_trans y.sz (Nat.le_of_eq hsz.symm)⟩
  obtain ⟨sl, q⟩ := y.slot b o h1 h2 ho
  exact ⟨sl, k b _ (hT b o ho) q⟩
end
end L2
namespace L2
open PySem PySem.Spec PyProof.Rows PySem.W
abbrev bmV : List Value := [.type "ValueError", .type "Exception", .type "BaseException", .type "object"]
def ExcNew (e C : Addr) (dx : Option Addr) (h : Heap) : Prop := ∃ t sl, h.get? e = some { cls := .ref C, dict := dx, data := .fields #[.ref t, .none, .none, .none, .bool false, .none], slots := sl }
theorem ExcNew.ok {P : Program} {w : World} {H : Hp} {h : Heap} {e C : Addr} {dx : Option Addr} (x : ExcNew e C dx h) : ObjOk P w H h e (.ext (ExcNew e C dx)) := by
  obtain ⟨t, sl, q⟩ := id x
  exact ⟨x, ⟨_, q⟩, fun h1 h2 ⟨t, sl, q⟩ k => ⟨t, sl, k _ q⟩⟩
theorem ExcAt.ok {P : Program} {w : World} {H : Hp} {h : Heap} {e C : Addr} {dx : Option Addr} (x : ExcAt e C dx h) : ObjOk P w H h e (.ext (ExcAt e C dx)) := by
  obtain ⟨t, sl, q⟩ := id x
  exact ⟨x, ⟨_, q⟩, fun h1 h2 ⟨t, sl, q⟩ k => ⟨t, sl, k _ q⟩⟩
structure ExcCls (K : PySem.W.Frag) (C fI : Addr) : Prop where
  obj : ∃ nm q N bs D sn sub ab col dd k0 k1 k2 k3 k5, K.lookup C = some (excClassObj nm q C N bs (.ref D :: bmV) true sn sub ab col dd k0 k1 k2 k3 k5 "ValueError.__new__") ∧ tailIn K bmV (.ref D :: bmV) = true
  init : PySem.W.findIn K (.ref C) "__init__" = some (some (.ref fI))
  fn : ∃ oI, K.lookup fI = some oI ∧ oI.cls = .type "function"
  kp : PySem.W.keepIn K (.ref C) = true
  sa : PySem.W.findIn K (.ref C) "__setattr__" = some (some (.builtin "object.__setattr__"))
  da : PySem.W.findIn K (.ref C) "day" = some none
section
variable {X : Cx} {o value : Expr} {ta tv : TE} {pos pos' : Pos}
def sExc (K : PySem.W.Frag) (ta tv : TE) : TS := fun D σ H => tv σ H fun y H1 => ta σ H1 fun x H2 => ∃ a C fI, x = .ref a ∧ ExcCls K C fI ∧ H2 a = some (.ext (ExcNew a C none)) ∧
  ∀ dx, H2 dx = none → dx ≠ a → D.nx σ (upd (upd H2 a (.ext (ExcNew a C (some dx)))) dx (.xd [("day", y)]))
theorem ps_exc (ha : PE X o ta) (hv : PE X value tv) (hs : swapsWith value (some (.Attribute o "day" pos')) pos.line X.env = pure false) : PS X (.Assign [.Attribute o "day" pos'] value pos) (sExc X.K ta tv) := by
  intro pins s σ H D I h
  refine plainObj_wpAny_Assign_Attribute (thn (hv pins s σ H _ I h) fun u s1 ⟨y, H1, I1, ry, q⟩ => thn (ha pins s1 σ H1 _ I1 q) fun ov s2 ⟨x, H2, I2, rx, a, C, fI, ex, cls, ea, q2⟩ => ?_) hs
  subst ex
  obtain rfl : ov = Value.ref a := rx
  obtain ⟨nm, qn, N, bs, Dd, sn, sub, ab, col, dd, k0, k1, k2, k3, k5, lk, tl⟩ := cls.obj
  have KX := I2.kIn
  obtain ⟨⟨t, sl, go⟩, _⟩ := I2.hok a _ ea
  obtain ⟨h2, g2, d2, t2, os2⟩ := s2
  have hpass : ∀ x : Addr, refuseLoop (.ref x) "__setattr__" (.ref Dd :: bmV) = pure () := fun x => by rw [refuseLoop_ref]; exact PySem.F.store_ValueError.passes _
  refine exc_store (hpass a) (by rfl) (KX _ _ lk) (looks_findIn KX cls.sa) (looks_findIn KX cls.da) go rfl (fun c z => by cases z) rfl fun h' tk' hst => ?_
  obtain ⟨z1, z2, z3⟩ := hst
  have hn : H2 h2.objs.size = none := I2.hok.fresh (Nat.le_refl _)
  have hne : h2.objs.size ≠ a := Nat.ne_of_gt (Heap.lt_size go)
  have I3 := I2.write (x := a) (e := a) (t' := tk') (o := .ext (ExcNew a C (some h2.objs.size))) (h' := h') (by rw [ea]; trivial) (.inl rfl) z3 ⟨_, z1⟩ (ExcNew.ok ⟨_, _, z1⟩)
  have fp : FpOk X pins (upd H2 a (.ext (ExcNew a C (some h2.objs.size)))) h2.objs.size := I2.fpOk (Nat.le_refl _) (by rw [upd_ne hne]; exact hn)
  have I4 := I3.track (o := .xd [("day", y)]) fp ⟨_, z2, fun f => ?_⟩
  · exact ⟨σ, _, I4, q2 _ hn hne⟩
  · by_cases hf : f = "day"
    · subst hf
      simp [List.lookup_cons]; exact ry
    · have : (f == ("day" : Str)) = false := by simpa using hf
      simp [List.lookup_cons, this, hf]
      trivial
end
end L2
namespace L2
open PySem PySem.Spec PyProof.Rows PySem.W
def CXE (P : Program) (w : World) : CXT := fun outer H s E e s' => ∃ a C dx T H', e = .ref a ∧ s'.os = s.os ∧ AllBare s'.gens ∧ Un (frs outer) [] H H' s.heap s'.heap ∧ HOk P w H' s'.heap ∧
  s.heap.get? a = none ∧ s.heap.get? T = none ∧ H' T = none ∧ H' a = some (.ext (ExcAt a C dx)) ∧ (∃ oe vs, Trc s'.heap a oe vs T .none) ∧ E (.ref C) dx H'
section
variable {P : Program} {w : World} {K : PySem.W.Frag} {mg : Str → Option Value} {base : Heap} {N : List Str} {qual : Str} {scope : Scope} {f : Addr} {cd : Value} {A : Around} {outer : List Env} {s : Shared} {H : Hp} {E : XK}
theorem leave_cx {pins : List (Addr × Obj)} {σ : St} {H1 : Hp} {s1 : Shared} {a C old : Addr} {dx : Option Addr} {oe : Obj} {vs : Array Value} (I : Inv (cxOf (CXE P w) P w K mg base N qual scope f cd A outer s H E) pins σ H1 s1)
    (ea : H1 a = some (.ext (ExcAt a C dx))) (na : s.heap.get? a = none) (fl : Fly s1.heap a oe vs old) (ho : old = a ∨ H1 old = none ∧ s.heap.get? old = none) (q : E (.ref C) dx H1) :
    (cxOf (CXE P w) P w K mg base N qual scope f cd A outer s H E).xe (.ref a) s1 := by
  obtain ⟨X, eX⟩ : ∃ X, X = cxOf (CXE P w) P w K mg base N qual scope f cd A outer s H E := ⟨_, rfl⟩
  have nold : s.heap.get? old = none := by
    rcases ho with rfl | ho
    · exact na
    · exact ho.2
  have hx : s1.heap.get? a = some oe ∧ oe.data = .fields vs ∧ 1 < vs.size := by
    cases fl with
    | new he hd h1 => exact ⟨he, hd, (Array.getElem?_eq_some_iff.mp h1).1⟩
    | on x => exact ⟨x.1, x.2.1, (Array.getElem?_eq_some_iff.mp x.2.2.1).1⟩
  obtain ⟨⟨vs', sl, g⟩, _⟩ := I.hok a _ ea
  have eo : oe = { cls := .ref C, dict := dx, data := .fields vs', slots := sl } := by
    have := hx.1
    rw [g] at this
    exact (Option.some.inj this).symm
  subst eo
  show wpAny (model P w) (A.deeper (envOfC qual scope s.heap.objs.size f cd)) (leaving (envOfC qual scope s.heap.objs.size f cd) (.ref a)) _ _ s1
  refine leave_frame (base := base) (L := s.heap.objs.size) I.ok.frames I.stack rfl fl fun h2 T y => ?_
  have hlt : ∀ b o, s.heap.get? b = some o → b ≠ a ∧ b ≠ old ∧ b ≠ s.heap.objs.size := fun b o e => by
    have := Heap.lt_size e
    exact ⟨(fun z => by rw [z, na] at e; cases e), (fun z => by rw [z, nold] at e; cases e), Nat.ne_of_lt this⟩
  have efr : frs (envOfC qual scope s.heap.objs.size f cd :: outer) = s.heap.objs.size :: frs outer := rfl
  have tr : ∀ b o, H1 b = some o → b ∉ frs (envOfC qual scope s.heap.objs.size f cd :: outer) := fun b o e z => by
    have := I.stkFree b z
    rw [e] at this
    cases this
  have nT : H1 T = none := I.hok.fresh y.new
  refine ⟨a, C, dx, T, H1, rfl, I.os, I.bare, ⟨fun b o e n hb hx => ?_, fun b o e n hb hx => ?_, I.base.free, fun b o e hx => ?_, I.base.tups, I.base.frzs, I.base.tbls⟩, fun b o e => ?_, na, Heap.get?_none_of_le (Nat.le_trans I.sz y.new), nT, ea, ⟨_, _, y.trc hx.1 hx.2.2⟩, q⟩
  · obtain ⟨z1, z2, z3⟩ := hlt b o e
    refine y.keep b o z1 z2 ?_ (I.base.keep b o e n hb hx)
    rw [efr]
    exact fun z => (List.mem_cons.mp z).elim z3 hb
  · obtain ⟨z1, z2, z3⟩ := hlt b o e
    obtain ⟨sl1, e1⟩ := I.base.slot b o e n hb hx
    obtain ⟨sl2, e2⟩ := y.slot b _ z1 z2 e1
    exact ⟨sl2, e2⟩
  · obtain ⟨z1, z2, z3⟩ := hlt b o e
    obtain ⟨o1, e1⟩ := I.base.there b o e hx
    obtain ⟨sl2, e2⟩ := y.slot b _ z1 z2 e1
    exact ⟨_, e2⟩
  · by_cases hb : b = a
    · subst hb
      rw [ea] at e
      cases e
      exact ExcAt.ok ⟨_, _, y.self⟩
    · refine (I.hok b o e).stay (fun c u hc gu => ?_) (fun c hc => hc) fun c u _ hc => hc
      have hc' : ∃ u, H1 c = some u := by
        rcases hc with rfl | hc
        · exact ⟨_, e⟩
        · exact ⟨_, hc⟩
      obtain ⟨u', hu'⟩ := hc'
      refine y.keep c u ?_ ?_ (tr c u' hu') gu
      · rcases hc with rfl | hc
        · exact hb
        · intro z
          rw [z, ea] at hc
          cases hc
      · intro z
        rcases ho with ho | ho
        · rcases hc with rfl | hc
          · exact hb (z.trans ho)
          · rw [z, ho, ea] at hc
            cases hc
        · rw [z, ho.1] at hu'
          cases hu'
theorem passE : Passes (CXE P w) (cxOf (CXE P w) P w K mg base N qual scope f cd A outer s H E) E := by
  intro pins σ H1 s1 e s' I ⟨a, C, dx, T, H', ee, os, bare, un, hok, na, nT, hT, ea, ⟨oe, vs, tr⟩, q⟩
  subst ee
  have up : ∀ b, s1.heap.get? b = none → s.heap.get? b = none := fun b z => by
    cases e : s.heap.get? b with
    | none => rfl
    | some o =>
      obtain ⟨o', e'⟩ := I.base.there b o e (fun z => nomatch z)
      rw [z] at e'
      cases e'
  exact leave_cx (I.call' (ch := []) os un hok bare (fun b z => nomatch z)) ea (up a na) (.on tr) (.inr ⟨hT, up T nT⟩) q
end
section
variable {K : PySem.W.Frag} {P : Program} {w : World} {mg : Str → Option Value} {base : Heap}
def spInit (K : PySem.W.Frag) (fI : Addr) : Sp := fun vs H Q E => ∃ a C y, vs = [.ref a, y] ∧ ExcCls K C fI ∧ H a = some (.ext (ExcNew a C none)) ∧
  ∀ dx, H dx = none → dx ≠ a → Q .non (upd (upd H a (.ext (ExcNew a C (some dx)))) dx (.xd [("day", y)]))
theorem init_ok {x qual : Str} {st : Stmt} {f : Addr} {fd : FuncData} {k : Nat} {p1 p2 p3 p4 : Pos} (F : Fun K x qual st f fd) (S : FnScope ["self", "day"] ["self", "day"] (defScope st)) (hb : defBody st = [.Assign [.Attribute (.Name "self" p1) "day" p2] (.Name "day" p3) p4])
    (hs : ∀ L f cdv, swapsWith (.Name "day" p3) (some (.Attribute (.Name "self" p1) "day" p2)) p4.line (envOfC qual (defScope st) L f cdv) = pure false) :
    FnOk P w K mg base CX0 (k + 1) f fd ["self", "day"] (spInit K f) := by
  have v0 : Vis (defScope st) "self" := (S.par "self" (by simp)).elim .inl fun h => .inr (.inl h)
  have v1 : Vis (defScope st) "day" := (S.par "day" (by simp)).elim .inl fun h => .inr (.inl h)
  refine Fun.ok F S (fun vs H Q E ⟨a, C, y, e, _⟩ => by rw [e]; rfl) fun cdv A outer s H vs Q E hr ⟨a, C, y, e, cls, ea, q⟩ => ?_
  subst e
  rw [hb]
  refine ⟨_, pss_one (ps_exc (pv 0 rfl v0) (pv 1 rfl v1) (hs _ _ _)), ?_⟩
  exact ⟨y, rfl, .ref a, rfl, a, C, f, rfl, cls, ea, q⟩
end
section
variable {X : Cx} {C fI : Addr} {fd : FuncData} {x : Str} {k : Nat} {e : Expr} {t : TA} {p pos : Pos}
def tExc (C : Addr) (t : TA) : TE := fun σ H Q => t σ H fun vs H1 => ∃ y, vs = [y] ∧ ∀ a dx, H1 a = none → H1 dx = none → dx ≠ a → Q (.ref a) (upd (upd H1 a (.ext (ExcNew a C (some dx)))) dx (.xd [("day", y)]))
theorem pe_exc (cls : ExcCls X.K C fI) (F : FnOk X.prog X.w X.K X.mg X.base CX0 k fI fd ["self", "day"] (spInit X.K fI)) (hb : Binds X.K fd ["self", "day"] []) (hr : Room (k + 1) X.A) (hg : Gl X x) (hm : X.mg x = some (.ref C)) (ha : PA X [e] t)
    (hdb : (x == ("__debug__" : Str)) = false := by decide) (he : starEach [e] X.env = (false, eval e X.env) :: starEach [] X.env := by rfl) (hpl : (backTo pos (starEach [] X.env)).any (·.1) = false := by rfl) :
    PE X (.Call (.Name x p) [e] [] pos) (tExc C t) := by
  intro pins s σ H Q I h
  refine wpAny_Call_Name_kw (ld_glob I hg hm ?_ hdb)
  refine PySem.W.callWith_K (h₀ := X.base) I.ok.mod.kin cls.kp (thn (ha pos pins s σ H _ I h) fun us s1 ⟨vs, H1, I1, r, y, ev, q⟩ => ⟨I1.kIn, ?_⟩) he hpl
  subst ev
  obtain ⟨u, rfl, ry⟩ := Vals.one r
  obtain ⟨nm, qn, N, bs, Dd, sn, sub, ab, col, dd, k0, k1, k2, k3, k5, lk, tl⟩ := cls.obj
  obtain ⟨oI, lI, cI⟩ := cls.fn
  obtain ⟨h1, g1, d1, t1, os1⟩ := s1
  refine call_init (F := PySem.F.excBase_ValueError) (bmB := bmV) (tail_of_in I1.kIn tl) (I1.kIn _ _ lk) (looks_findIn I1.kIn cls.init) (I1.kIn _ _ lI) cI fun h' a hm1 hle hsz => ?_
  obtain ⟨ta, ga, _, _⟩ := hm1.there
  have ha1 : H1 a = none := I1.hok.fresh hle
  have I2 := I1.laid (t' := t1) (a := a) (o := .ext (ExcNew a C none)) (h' := h') hm1.keeps hle (ExcNew.ok ⟨_, _, ga⟩)
  refine wpAny_call (codeAny_mono (F.run _ X.stack _ _ ⟨[.ref a, u], []⟩ [.ref a, u] [.ref a, y] (fun v H2 => v = .non ∧ Q (.ref a) H2) E0 (hr.make C [u] []) (I2.env0.make C [u] []) (hb _ [.ref a, u] I2.kIn rfl) (.cons rfl (.cons ry .nil)) ?_) fun r s' hq => ?_)
  · refine ⟨a, C, y, rfl, cls, upd_same, fun dx hdx hne => ⟨rfl, ?_⟩⟩
    rw [upd_ne hne] at hdx
    rw [upd_upd]
    exact q a dx ha1 hdx hne
  · cases r with
    | error e => exact False.elim hq
    | ok fl =>
      cases fl with
      | ret u2 =>
        obtain ⟨v, H', I3, rv, ev, q3⟩ := I2.after hq
        subst ev
        exact ⟨rv, ⟨V.ref a, H', I3, rfl, q3⟩⟩
      | next => exact False.elim hq
      | brk => exact False.elim hq
      | cont => exact False.elim hq
end
end L2
namespace L2
open PySem PySem.Spec PyProof.Rows PySem.W
section
variable {P : Program} {w : World} {K : PySem.W.Frag} {mg : Str → Option Value} {base : Heap} {N : List Str} {qual : Str} {scope : Scope} {f : Addr} {cd : Value} {A : Around} {outer : List Env} {s : Shared} {H : Hp} {E : XK}
def sRaise (C : Addr) (E : XK) (Hs : Hp) (te : TE) : TS := fun _ σ H => te σ H fun v H1 => ∃ a dx, v = .ref a ∧ Hs a = none ∧ H1 a = some (.ext (ExcNew a C (some dx))) ∧ E (.ref C) (some dx) (upd H1 a (.ext (ExcAt a C (some dx))))
theorem ps_raise {e : Expr} {te : TE} {pos : Pos} {C fI : Addr} (hh : A.handled = none) (cls : ExcCls K C fI) (he : PE (cxOf (CXE P w) P w K mg base N qual scope f cd A outer s H E) e te) :
    PS (cxOf (CXE P w) P w K mg base N qual scope f cd A outer s H E) (.Raise (some e) none pos) (sRaise C E H te) := by
  intro pins s0 σ H0 D I h
  rw [arm_exec_Raise]
  refine wpAny_bind (wpAny_standAt ?_)
  obtain ⟨nm, qn, NN, bs, Dd, sn, sub, ab, col, dd, k0, k1, k2, k3, k5, lk, tl⟩ := cls.obj
  show wpAny _ _ (raiseStmt _ (some (do let v ← eval e _; standAt pos; pure v)) none) _ _ _
  refine raise_made (bm := .ref Dd :: bmV) (C := C) (nm := nm) (q := qn) (N := NN) (bs := bs) (hdct := true) (sn := sn) (sub := sub) (ab := ab) (col := col) (dd := dd) (k0 := k0) (k1 := k1) (k2 := k2) (k3 := k3) (k5 := k5) (newId := "ValueError.__new__") rfl hh ?_
  refine wpAny_bind (thn (he pins s0 σ H0 _ I h) fun u s1 ⟨v, H1, I1, rv, a, dx, ev, nHa, ea, qE⟩ => ?_)
  refine wpAny_bind (wpAny_standAt (wpAny_pure ?_))
  subst ev
  obtain rfl : u = Value.ref a := rv
  obtain ⟨⟨t, sl, g⟩, _⟩ := I1.hok a _ ea
  refine ⟨a, t, some dx, sl, rfl, I1.kIn _ _ lk, g, ?_⟩
  have I2 := I1.write (x := a) (e := a) (t' := s1.toks) (o := .ext (ExcAt a C (some dx))) (h' := s1.heap) (by rw [ea]; trivial) (.inl rfl) (fun b u _ e => e) ⟨_, g⟩ (ExcAt.ok ⟨_, _, g⟩)
  have na : s.heap.get? a = none := by
    cases e : s.heap.get? a with
    | none => rfl
    | some o =>
      have := I1.base.free a o e nHa (fun z => nomatch z)
      rw [ea] at this
      cases this
  exact leave_cx I2 upd_same na (.new g rfl rfl) (.inl rfl) qE
end
abbrev Cx.marked (X : Cx) (e : Value) : Cx := { X with A := X.A.mark (some e), calm := false, xe := fun _ _ => False }
section
variable {X : Cx} {pins : List (Addr × Obj)} {σ : St} {H : Hp} {s : Shared} {e : Value}
theorem Cx.Ok.marked (ok : X.Ok) (e : Value) : (X.marked e).Ok :=
  ⟨ok.mod, ok.kind, ok.glob, ok.blt, ok.above, ok.inj, ok.has, ok.cab, (fun z => by cases z), ok.frames, ok.stk, ok.exf, ok.bs, ok.bsz, ok.noex, ok.exfs, ok.funs, ok.frf, ok.tab⟩
theorem Inv.marked (I : Inv X pins σ H s) (e : Value) : Inv (X.marked e) pins σ H s := ⟨I.ok.marked e, I.os, I.bare, I.base, I.loc, I.cell, I.free, I.freeC, I.pin, I.hok, I.len⟩
theorem Inv.unmarked (I : Inv (X.marked e) pins σ H s) (ok : X.Ok) : Inv X pins σ H s := ⟨ok, I.os, I.bare, I.base, I.loc, I.cell, I.free, I.freeC, I.pin, I.hok, I.len⟩
theorem SP.unmarked {D : Ends} {f : Flow} {s' : Shared} (h : SP (X.marked e) pins D f s') (ok : X.Ok) : SP X pins D f s' := by
  cases f with
  | next => obtain ⟨σ', H', I, q⟩ := h; exact ⟨σ', H', I.unmarked ok, q⟩
  | brk => obtain ⟨σ', H', I, q⟩ := h; exact ⟨σ', H', I.unmarked ok, q⟩
  | cont => obtain ⟨σ', H', I, q⟩ := h; exact ⟨σ', H', I.unmarked ok, q⟩
  | ret u => obtain ⟨v, σ', H', I, r, q⟩ := h; exact ⟨v, σ', H', I.unmarked ok, r, q⟩
end
section
variable {P : Program} {w : World} {H H' : Hp} {h0 h h2 : Heap} {a old C T : Addr} {dx : Option Addr} {oe : Obj} {vs : Array Value} {fl : Value} {outer : List Env}
theorem left_un (un : Un (frs outer) [] H H' h0 h) (hok : HOk P w H' h) (na : h0.get? a = none) (no : h0.get? old = none) (ea : H' a = some (.ext (ExcAt a C dx))) (ho : old = a ∨ H' old = none) (frf : ∀ b ∈ frs outer, H' b = none)
    (y : LeftX outer a old oe vs fl h h2 T) (ec : oe.cls = .ref C) (ed : oe.dict = dx) : Un (frs outer) [] H H' h0 h2 ∧ HOk P w H' h2 := by
  have hlt : ∀ b o, h0.get? b = some o → b ≠ a ∧ b ≠ old := fun b o e => by
    exact ⟨(fun z => by rw [z, na] at e; cases e), (fun z => by rw [z, no] at e; cases e)⟩
  refine ⟨⟨fun b o e n hb hx => ?_, fun b o e n hb hx => ?_, un.free, fun b o e hx => ?_, un.tups, un.frzs, un.tbls⟩, fun b o e => ?_⟩
  · obtain ⟨z1, z2⟩ := hlt b o e
    exact y.keep b o z1 z2 hb (un.keep b o e n hb hx)
  · obtain ⟨z1, z2⟩ := hlt b o e
    obtain ⟨sl1, e1⟩ := un.slot b o e n hb hx
    obtain ⟨sl2, e2⟩ := y.slot b _ z1 z2 e1
    exact ⟨sl2, e2⟩
  · obtain ⟨z1, z2⟩ := hlt b o e
    obtain ⟨o1, e1⟩ := un.there b o e hx
    obtain ⟨sl2, e2⟩ := y.slot b _ z1 z2 e1
    exact ⟨_, e2⟩
  · by_cases hb : b = a
    · subst hb
      rw [ea] at e
      cases e
      refine ExcAt.ok ⟨vs.setIfInBounds 1 (.ref T), oe.slots, ?_⟩
      rw [← ec, ← ed]
      exact y.self
    · refine (hok b o e).stay (fun c u hc gu => ?_) (fun c hc => hc) fun c u _ hc => hc
      have hc' : ∃ u, H' c = some u := by
        rcases hc with rfl | hc
        · exact ⟨_, e⟩
        · exact ⟨_, hc⟩
      obtain ⟨u', hu'⟩ := hc'
      refine y.keep c u ?_ ?_ (fun z => by rw [frf c z] at hu'; cases hu') gu
      · rcases hc with rfl | hc
        · exact hb
        · intro z
          rw [z, ea] at hc
          cases hc
      · intro z
        rcases ho with ho | ho
        · rcases hc with rfl | hc
          · exact hb (z.trans ho)
          · rw [z, ho, ea] at hc
            cases hc
        · rw [z, ho] at hu'
          cases hu'
theorem off_un (un : Un (frs outer) [] H H' h0 h) (hok : HOk P w H' h) (nT : h0.get? T = none) (hT : H' T = none) (k : ∀ b o, b ≠ T → h.get? b = some o → h2.get? b = some o) : Un (frs outer) [] H H' h0 h2 ∧ HOk P w H' h2 := by
  have hlt : ∀ b o, h0.get? b = some o → b ≠ T := fun b o e z => by rw [z, nT] at e; cases e
  refine ⟨⟨fun b o e n hb hx => k _ _ (hlt b o e) (un.keep b o e n hb hx), fun b o e n hb hx => ?_, un.free, fun b o e hx => ?_, un.tups, un.frzs, un.tbls⟩, fun b o e => ?_⟩
  · obtain ⟨sl1, e1⟩ := un.slot b o e n hb hx
    exact ⟨sl1, k _ _ (hlt b o e) e1⟩
  · obtain ⟨o1, e1⟩ := un.there b o e hx
    exact ⟨o1, k _ _ (hlt b o e) e1⟩
  · refine (hok b o e).stay (fun c u hc gu => k c u ?_ gu) (fun c hc => hc) fun c u _ hc => hc
    intro z
    rcases hc with rfl | hc
    · rw [z, hT] at e; cases e
    · rw [z, hT] at hc; cases hc
end
section
variable {X : Cx} {k : Nat} {f C fI : Addr} {fd : FuncData} {ps : List Str} {sp : Sp} {x xn : Str} {p pos pos2 pn ph pt : Pos} {e : Expr} {es : List Expr} {t : TA} {b₀ : Stmt} {th : TS}
end
end L2
namespace L2
open PySem PySem.Spec PyProof.Rows PySem.W
abbrev DSpX := List Sl → (Sl → List Sl → Prop) → (Int → Prop) → Prop
def XOk (C : Addr) (H : Hp) (RX : Int → Prop) (E : XK) : Prop := ∀ n, RX n → ∀ dx H', Same H H' → H dx = none → H' dx = some (.xd [("day", .int n)]) → E (.ref C) (some dx) H'
def spX (K : PySem.W.Frag) (C : Addr) (sp : DSpX) : Sp := fun vs H Q E => ∃ (M : Addr → Prop) (ss : List Sl) (R : Sl → List Sl → Prop) (RX : Int → Prop), vs.length = ss.length ∧ RelE K M (ioOf vs ss) H (tmp (vs.zip ss)) H ∧ sp ss R RX ∧ (∀ b, ¬ ioOf vs ss b) ∧
  (∀ r ss' v H', R r ss' → isRes r = true → RelE K M (ioOf vs ss) H (tmp ((v, r) :: vs.zip ss')) H' → Q v H') ∧ XOk C H RX E
def NoDayCls (P : Program) (w : World) (K : PySem.W.Frag) (mg : Str → Option Value) (base : Heap) (C : Addr) : Prop :=
  ∃ fI fd, ExcCls K C fI ∧ FnOk P w K mg base CX0 1 fI fd ["self", "day"] (spInit K fI) ∧ Binds K fd ["self", "day"] [] ∧ mg "NoDay" = some (.ref C)
def CalX (P : Program) (w : World) (K : PySem.W.Frag) (mg : Str → Option Value) (base : Heap) (C : Addr) (x : Str) (k : Nat) (sp : DSpX) : Prop :=
  ∃ (f : Addr) (fd : FuncData) (ps : List Str), FnOk P w K mg base (CXE P w) k f fd ps (spX K C sp) ∧ Binds K fd ps [] ∧ PySem.W.keepIn K (.ref f) = true ∧ mg x = some (.ref f)
def upL (K : PySem.W.Frag) (Hs : Hp) (t : DS) : TS := fun D σ H => ∃ (M P : Addr → Prop) (H0 : Hp) (σ0 : St) (env : List Sl) (ts : List (V × Sl)) (DD : DEnds), (H0 = Hs ∧ ∀ b, ¬ P b) ∧ NoVw ts ∧ Rel K M P H0 σ0 σ env ts H ∧ t DD env ∧ EndsOk K M P H0 σ0 ts DD D
section
variable {X : Cx} {K : PySem.W.Frag} {Hs : Hp} {pos : Pos} {st : Stmt} {rest a b : List Stmt} {t u : DS} {e c tg iter : Expr} {te : DE} {tc : DT}
theorem liftL (h : PS X st (upS K t)) : PS X st (upL K Hs t) := h.imp fun D σ H ⟨M, P, H0, σ0, env, ts, DD, _, r⟩ => ⟨M, P, H0, σ0, env, ts, DD, r⟩
theorem liftsL (h : PSs X rest (upS K t)) : PSs X rest (upL K Hs t) := h.imp fun D σ H ⟨M, P, H0, σ0, env, ts, DD, _, r⟩ => ⟨M, P, H0, σ0, env, ts, DD, r⟩
theorem qs_consL (h1 : PS X st (upL K Hs t)) (h2 : PSs X rest (upL K Hs u)) : PSs X (st :: rest) (upL K Hs (dSeq t u)) := (pss_cons h1 h2).imp fun D σ H h => by
  obtain ⟨M, P, H0, σ0, env, ts, DD, j, nv, rel, ht, ok⟩ := h
  exact ⟨M, P, H0, σ0, env, ts, _, j, nv, rel, ht, ⟨fun σ' env' H' q r => ⟨M, P, H0, σ0, env', ts, DD, j, nv, r, q, ok⟩, ok.rt, ok.bk, ok.ct⟩⟩
theorem qs_oneL (h1 : PS X st (upL K Hs t)) : PSs X [st] (upL K Hs t) := pss_one h1
theorem q_ifL (hc : PT X c (upT K tc)) (ha : PSs X a (upL K Hs t)) (hb : PSs X b (upL K Hs u)) : PS X (.If c a b pos) (upL K Hs (dIfS tc t u)) := (ps_if hc ha hb).imp fun D σ H h => by
  obtain ⟨M, P, H0, σ0, env, ts, DD, j, nv, rel, ht, ok⟩ := h
  refine ⟨M, P, H0, σ0, env, ts, _, rel, ht, fun k env1 H1 h1 rel1 => ?_⟩
  cases k with
  | true => exact ⟨M, P, H0, σ0, env1, ts, DD, j, nv, rel1, h1, ok⟩
  | false => exact ⟨M, P, H0, σ0, env1, ts, DD, j, nv, rel1, h1, ok⟩
theorem q_forL {body : List Stmt} {it : DI} {g : DG} {tb : DS} (hp : PassesOwn (model X.prog X.w) X.A X.env X.xe) (hc : X.calm = true) (hi : PI X tg iter (upI K it)) (hg : PG X tg (upG K g)) (hb : PSs X body (upL K Hs tb)) (hs : ∀ x, foldedSetIterable iter X.env x = pure x := by intro _; rfl) :
    PS X (.For tg iter body [] pos) (upL K Hs (dFor it g tb)) := (ps_for hp hc hi hg hb hs).imp fun D σ H h => by
  obtain ⟨M, P, H0, σ0, env, ts, DD, j, nv, rel, ht, ok⟩ := h
  refine ⟨M, P, H0, σ0, env, ts, _, rel, ht, fun ds env1 J H1 kp hF rel1 io => ?_⟩
  obtain ⟨W, w0, turn, done⟩ := hF
  have nv2 : NoVw (ts ++ kp) := fun w i m => by
    rcases List.mem_append.mp m with m | m
    · exact nv w i m
    · exact io.nv w i m
  refine ⟨fun i m σ H => m = ds.length - i ∧ i ≤ ds.length ∧ ∃ env, W i env ∧ Rel K M P H0 σ0 σ env (ts ++ kp) H, ⟨_, rfl, Nat.zero_le _, env1, w0, rel1⟩, ?_⟩
  rintro i m σ2 H2 ⟨rfl, hle, env2, w2, rel2⟩
  by_cases hlt : i < ds.length
  · refine .inr ⟨io.go rel2 i hlt, fun σ' H' => ∃ env', W (i + 1) env' ∧ Rel K M P H0 σ0 σ' env' (ts ++ kp) H', fun σ' H' ⟨env', w', r'⟩ => ⟨ds.length - (i + 1), by omega, rfl, hlt, env', w', r'⟩, fun x H3 y => ?_⟩
    obtain ⟨sm, dn⟩ := io.yld rel2 i x H3 hlt y
    have rel3 := rel2.same sm
    refine ⟨M, P, H0, σ0, env2, ts ++ kp, ds[i], _, nv2, rel3, dn, turn i env2 hlt w2, fun σ' env' H' hR r => ?_⟩
    refine ⟨M, P, H0, σ0, env', ts ++ kp, _, j, nv2, r, hR, ⟨fun σ' env' H' q r => ⟨env', q, r⟩, fun s env' v σ' H' q r => ok.rt s env' v σ' H' q r.dropMid, fun σ' env' H' q r => ok.nx _ _ _ q r.drop, fun σ' env' H' q r => ⟨env', q, r⟩⟩⟩
  · have e : i = ds.length := by omega
    subst e
    exact .inl ⟨io.stop rel2, ok.nx _ _ _ (done _ w2) rel2.drop⟩
end
section
variable {P : Program} {w : World} {K : PySem.W.Frag} {mg : Str → Option Value} {base : Heap} {N : List Str} {qual : Str} {scope : Scope} {f : Addr} {cd : Value} {A : Around} {outer : List Env} {s : Shared} {H : Hp} {E : XK} {C : Addr} {RX : Int → Prop} {tl : DA} {k : Nat}
def dRaise (RX : Int → Prop) (tl : DA) : DS := fun _ env => tl env fun ss env1 => ∃ s n, ss = [s] ∧ valOf env1 s = some (.int n) ∧ RX n
theorem q_raise {e : Expr} {pos p pos' : Pos} (hE : XOk C H RX E) (cl : NoDayCls P w K mg base C) (hr : Room (k + 2) (A.deeper (envOfC qual scope s.heap.objs.size f cd))) (hg : Gl (cxOf (CXE P w) P w K mg base N qual scope f cd A outer s H E) "NoDay")
    (ha : PA (cxOf (CXE P w) P w K mg base N qual scope f cd A outer s H E) [e] (upA K tl))
    (he : starEach [e] (cxOf (CXE P w) P w K mg base N qual scope f cd A outer s H E).env = (false, eval e (cxOf (CXE P w) P w K mg base N qual scope f cd A outer s H E).env) :: starEach [] (cxOf (CXE P w) P w K mg base N qual scope f cd A outer s H E).env := by rfl) :
    PS (cxOf (CXE P w) P w K mg base N qual scope f cd A outer s H E) (.Raise (some (.Call (.Name "NoDay" p) [e] [] pos)) none pos') (upL K H (dRaise RX tl)) := by
  obtain ⟨fI, fd, cls, F, b, m⟩ := cl
  refine (ps_raise (A := A) (te := tExc C (upA K tl)) (show A.handled = none from hr.hd) cls (pe_exc (k := 1) cls F b (Room.mono (j := 2) hr (by omega)) hg m ha (by decide) he)).imp fun D σ H1 h => ?_
  obtain ⟨M, PP, H0, σ0, env, ts, DD, ⟨rfl, np⟩, nv, rel, ht, ok⟩ := h
  refine ⟨M, PP, H0, σ0, env, ts, _, rel, ht, fun ss env1 vs H2 h1 hl rel1 => ?_⟩
  obtain ⟨s1, n, rfl, ev, hR⟩ := h1
  match vs, hl with
  | [y], _ =>
    have wv := (rel1.view (v := y) (by simp) ev).int
    subst wv
    have sm : Same H0 H2 := fun b o e => rel1.e.keep b o (np b) e
    refine ⟨_, rfl, fun a dx ha hdx hne => ⟨a, dx, rfl, ?_, ?_, ?_⟩⟩
    · exact sm.free ha
    · rw [upd_ne (Ne.symm hne), upd_same]
    · refine hE n hR dx _ (fun b o e => ?_) (sm.free hdx) ?_
      · have e2 := sm b o e
        have z1 : b ≠ a := fun z => by rw [z, ha] at e2; cases e2
        have z2 : b ≠ dx := fun z => by rw [z, hdx] at e2; cases e2
        rw [upd_ne z1, upd_ne z2, upd_ne z1]
        exact e2
      · rw [upd_ne hne, upd_same]
theorem okX {x : Str} {st : Stmt} {f : Addr} {fd : FuncData} {N ps : List Str} {k : Nat} {sp : DSpX} (F : Fun K x x st f fd) (S : FnScope N ps (defScope st)) (len : ∀ ss R RX, sp ss R RX → ss.length = ps.length) (hN : ps.length ≤ N.length)
    (hb : ∀ (cdv : Value) (A : Around) (outer : List Env) (s : Shared) (H : Hp) (E : XK) (RX : Int → Prop), Room k (A.deeper (envOfC x (defScope st) s.heap.objs.size f cdv)) → XOk C H RX E →
      ∃ t : DS, PSs (cxOf (CXE P w) P w K mg base N x (defScope st) f cdv A outer s H E) (defBody st) (upL K H t) ∧ ∀ ss R, sp ss R RX → t (endsD ps.length R) (startD N.length ss)) : FnOk P w K mg base (CXE P w) (k + 1) f fd ps (spX K C sp) := by
  obtain ⟨oc, od, kV, doc, pm, an, cdv, ct, osl, rfl, lk, hcd⟩ := F.ex
  refine fn_of lk hcd S (fun vs H Q E h => ?_) fun A outer s H vs Q E hr h => ?_
  · obtain ⟨M, ss, R, RX, hl, _, hsp, _⟩ := h
    rw [hl]
    exact len ss R RX hsp
  obtain ⟨M, ss, R, RX, hl, hE, hsp, np, hq, hx⟩ := h
  have hn := len ss R RX hsp
  obtain ⟨t, ht, hr'⟩ := hb cdv A outer s H E RX hr hx
  have ez : ents (start N vs) (startD N.length ss) [] = tmp (vs.zip ss) ++ List.replicate (N.length - vs.length) (none, Sl.un) := by
    show (start N vs).zip (startD N.length ss) ++ [] = _
    unfold start startD
    rw [List.append_nil, ← hl]
    exact zip_start _ hl
  refine ⟨_, ht, M, ioOf vs ss, H, start N vs, startD N.length ss, [], endsD ps.length R, ⟨rfl, np⟩, fun w i m => (by cases m), ⟨?_, by simp [start, startD, hl], fun w i m => (by cases m), fun i l e => rfl⟩, hr' ss R hsp, ⟨fun σ' env' H' q r => ?_, fun s env' v σ' H' q r => ?_, fun σ' env' H' q r => (show False from q), fun σ' env' H' q r => (show False from q)⟩⟩
  · rw [ez]
    refine hE.sub (fun x s m => ?_) (by rw [oas_app, oas_rep, List.append_nil]; exact hE.nd)
    rcases List.mem_append.mp m with m | m
    · exact .inl m
    · have := (List.mem_replicate.mp m).2
      cases this
      exact .inr (.inl rfl)
  · have r2 := (Rel.addFr r (v := .non) (d := .none) .non)
    have r2 : Rel K M (ioOf vs ss) H (start N vs) σ' env' [(.non, .fr .none)] H' := by simpa using r2
    exact hq _ _ _ _ q rfl (r2.fin (by omega) rfl)
  · obtain ⟨r0, e0, hR⟩ := q
    have r1 : Rel K M (ioOf vs ss) H (start N vs) σ' env' [(v, s)] H' := by simpa using r
    obtain ⟨env2, r2, ef, hr0⟩ := r1.told (n := ps.length) e0
    exact hq r0 _ v H' hR hr0 (by rw [← ef]; exact r2.fin (by omega) hr0)
theorem calX {x : Str} {st : Stmt} {f : Addr} {fd : FuncData} {k : Nat} {ps : List Str} {sp : DSpX} (F : Fun K x x st f fd) (m : mg x = some (.ref f)) (b : Binds K fd ps []) (G : FnOk P w K mg base (CXE P w) k f fd ps (spX K C sp)) : CalX P w K mg base C x k sp := ⟨f, fd, ps, G, b, F.kp, m⟩
end
section
variable {X : Cx} {x : Str} {p pos pos2 pn ph pt : Pos} {e : Expr} {es : List Expr} {k : Nat} {sp : DSpX} {K : PySem.W.Frag} {tl : DA} {C : Addr} {b₀ : Stmt} {th : DS}
end
end L2
namespace L2
open PySem PySem.Spec PyProof.Rows PySem.W
section
variable {K : PySem.W.Frag} {M P N : Addr → Prop} {H0 H H' : Hp} {σ0 σ : St} {env : List Sl} {ts tt : List (V × Sl)} {v : V} {s : Sl} {d : PyData}
end
section
variable {X : Cx} {x : Str} {p pos : Pos} {e : Expr} {es : List Expr} {k : Nat} {sp : DSp} {K : PySem.W.Frag} {tl : DA}
end
end L2
namespace L2
open PySem PySem.Spec PyProof.Rows PySem.W
theorem us1 {Q : List Value → Prop} : ∀ {us : List Value}, us.length = 1 → (∀ a : Value, Q [a]) → Q us
  | [a], _, h => h a
theorem us2 {Q : List Value → Prop} : ∀ {us : List Value}, us.length = 2 → (∀ a b : Value, Q [a, b]) → Q us
  | [a, b], _, h => h a b
theorem us3 {Q : List Value → Prop} : ∀ {us : List Value}, us.length = 3 → (∀ a b c : Value, Q [a, b, c]) → Q us
  | [a, b, c], _, h => h a b c
section
variable {X : Cx} {x : Str} {p pos : Pos} {e : Expr} {es : List Expr} {k : Nat} {sp : DSpX} {K : PySem.W.Frag} {tl : DA} {C : Addr}
theorem passN {P : Program} {w : World} : Passes (CXE P w) X E0 := fun _ _ _ _ _ _ _ h => by
  obtain ⟨a, C, dx, T, H', _, _, _, _, _, _, _, _, _, _, q⟩ := h
  exact q.elim
def dCallN (sp : DSpX) (t : DA) : DE := fun env R => t env fun ss env1 => ∃ ds, keepsOf env1 ss = some ds ∧ sp (ds.map .fr) (fun r _ => R r env1) fun _ => False
theorem callN_up : ∀ σ H Q, up K (dCallN sp tl) σ H Q → tCall (spX K C sp) [] E0 (upA K tl) σ H Q := fun σ H Q h => by
  obtain ⟨M, P, H0, σ0, env, ts, R, rel, ht, hq⟩ := h
  refine ⟨M, P, H0, σ0, env, ts, _, rel, ht, fun ss env1 vs H1 h1 hl rel1 => ?_⟩
  obtain ⟨ds, ek, hsp⟩ := h1
  rw [List.append_nil]
  have dns := rel1.keptAll hl (fun p hp => hp) ek
  have oe := oas_fr vs ds
  have no : ∀ b, ¬ ioOf vs (ds.map .fr) b := fun b z => by
    have z : b ∈ oas (tmp (vs.zip (ds.map .fr))) := z
    rw [oe] at z
    cases z
  refine ⟨Nw M (ents σ env1 ts), ds.map .fr, fun r _ => R r env1, fun _ => False, by simp [dns.len], argsFr dns fun a z hn => rel1.drop.newAddr hn z, hsp, no, fun r ss' v H' hR hr post => hq _ _ _ _ hR ?_, fun n hn => hn.elim⟩
  have k : Same H1 H' := (post.keep.mono (M := N0) fun b z => (no b z).elim).none
  exact (rel1.drop).withRes (rel1.drop.e.called k (post.resOk hr)) hr
theorem q_callN (G : CalX X.prog X.w X.K X.mg X.base C x k sp) (hr : Room k X.A) (hg : Gl X x) (hK : X.K = K) (ha : PA X (e :: es) (upA K tl)) (hd : (x == ("__debug__" : Str)) = false := by decide)
    (he : starEach (e :: es) X.env = (false, eval e X.env) :: starEach es X.env := by rfl) (hpl : (backTo pos (starEach es X.env)).any (·.1) = false := by rfl) : PE X (.Call (.Name x p) (e :: es) [] pos) (up K (dCallN sp tl)) := by
  subst hK
  obtain ⟨f, fd, ps, F, b, kp, m⟩ := G
  exact (pe_call F hr hg m kp b .nil passN ha hd he hpl).imp callN_up
end
end L2
namespace L2
open PySem PySem.Spec PyProof.Rows PySem.W
theorem ObjOk.here {P : Program} {w : World} {H : Hp} {h : Heap} {a : Addr} {o : HO} (x : ObjOk P w H h a o) : ∃ u, h.get? a = some u := by
  cases o with
  | lst xs => obtain ⟨_, _, _, _, e⟩ := x; exact ⟨_, e⟩
  | tup xs => obtain ⟨_, _, _, ⟨_, e, _⟩⟩ := x; exact ⟨_, e⟩
  | dK kvs => obtain ⟨_, _, _, _, o, _, _, e, _⟩ := x; exact ⟨_, e⟩
  | dT kvs => obtain ⟨_, _, _, _, o, _, _, e, _⟩ := x; exact ⟨_, e⟩
  | set S n => obtain ⟨o, _, _, _, e, _⟩ := x; exact ⟨_, e⟩
  | ins C dx fs => obtain ⟨_, _, _, e, _⟩ := x; exact ⟨_, e⟩
  | own y => obtain ⟨_, e⟩ := x; exact ⟨_, e⟩
  | xd fs => obtain ⟨_, ⟨_, _, _, e, _⟩, _⟩ := x; exact ⟨_, e⟩
  | rng lo hi => obtain ⟨_, _, _, e⟩ := x; exact ⟨_, e⟩
  | frz ob u => obtain ⟨e, _⟩ := x; exact ⟨_, e⟩
  | tbl q => obtain ⟨_, e, _⟩ := x; exact ⟨_, e⟩
  | met f y => exact ⟨_, (show h.get? a = some _ from x)⟩
  | ext φ => obtain ⟨_, ⟨_, e⟩, _⟩ := x; exact ⟨_, e⟩
section
variable {X : Cx} {pins : List (Addr × Obj)} {σ : St} {H : Hp} {s : Shared}
theorem goes_ok {M : Model} {A : Around} {E : Value → Shared → Prop} {i : Nat} {x : Str} {pos : Pos} {Q : Unit → Shared → Prop} (I : Inv X pins σ H s) (hN : X.N.Nodup) (hi : X.N[i]? = some x) (hk : X.env.kindOf x = some .local)
    (h : ∀ s', Inv X pins (σ.set i none) H s' → Q () s') : wpAny M A (do bindName X.env x .none; unbindBehindTheSuite X.env x pos) Q E s := by
  obtain ⟨m, hn, hl⟩ := id I.loc
  have hcls : (X.env.scope.kind == .class || (X.env.scope.kind == .module && X.env.locals != X.env.globals)) = false := by rw [I.ok.kind]; rfl
  have hiσ : i < σ.length := by rw [I.len]; exact (List.getElem?_eq_some_iff.mp hi).1
  have cne := I.cne
  refine wpAny_nameGoes_keeps hk hn hcls fun h' v hn' hs => ?_
  obtain ⟨oL, _, _, hoL, _⟩ := id hn
  have tracked : HOk X.prog X.w H h' := fun b ob e => by
    refine (I.hok b ob e).stay (fun c w' hc q => (hs.2 c ?_).trans q) (fun _ q => q) fun _ _ _ q => q
    rintro rfl
    rcases hc with hc | hc
    · rw [← hc, I.free] at e; cases e
    · rw [I.free] at hc; cases hc
  refine h _ ⟨I.ok, I.os, I.bare, ⟨fun b o e n hb hx => ?_, fun b o e n hb hx => ?_, I.base.free, fun b o e hx => ?_, I.base.tups, I.base.frzs, I.base.tbls⟩, ⟨_, hn', fun j y v' e1 e2 e3 => ?_⟩, fun y c e => ?_, I.free, I.freeC, fun p hp => ?_, tracked, by simpa using I.len⟩
  · exact (hs.2 b (Nat.ne_of_lt (Nat.lt_of_lt_of_le (Heap.lt_size e) I.ok.above))).trans (I.base.keep b o e n hb hx)
  · obtain ⟨sl, e1⟩ := I.base.slot b o e n hb hx
    exact ⟨sl, (hs.2 b (Nat.ne_of_lt (Nat.lt_of_lt_of_le (Heap.lt_size e) I.ok.above))).trans e1⟩
  · obtain ⟨o', e1⟩ := I.base.there b o e hx
    exact ⟨o', (hs.2 b (Nat.ne_of_lt (Nat.lt_of_lt_of_le (Heap.lt_size e) I.ok.above))).trans e1⟩
  · by_cases hj : j = i
    · subst hj
      rw [List.getElem?_set_self hiσ] at e2
      cases e2
    · rw [List.getElem?_set_ne (Ne.symm hj)] at e2
      obtain ⟨u', r', q⟩ := hl j y v' e1 e2 e3
      refine ⟨u', r', ?_⟩
      rcases q with ⟨k, e⟩ | ⟨k, c, e, z⟩
      · refine .inl ⟨k, ?_⟩
        have : y ≠ x := fun e => hj (nodup_ix hN e1 (e ▸ hi))
        simp [this, e]
      · exact .inr ⟨k, c, e, z.sameBut hs (cne y c e)⟩
  · obtain ⟨w', z⟩ := I.cell y c e
    exact ⟨w', z.sameBut hs (cne y c e)⟩
  · obtain ⟨e, n, ne, nf, d⟩ := I.pin p hp
    exact ⟨(hs.2 p.1 ne).trans e, n, ne, nf, d⟩
end
def Ends.off (D : Ends) (i : Nat) : Ends := ⟨fun σ H => D.nx (σ.set i none) H, D.rt, fun σ H => D.bk (σ.set i none) H, fun σ H => D.ct (σ.set i none) H⟩
section
variable {X : Cx} {k : Nat} {f C fI : Addr} {fd : FuncData} {ps : List Str} {sp : Sp} {x xn xe : Str} {p pos pos2 pn ph pt : Pos} {e tg : Expr} {es : List Expr} {t : TA} {b₀ : Stmt} {bs : List Stmt} {th : TS} {g : TG} {i : Nat} {hs' : List ExceptHandler}
def sTryAs (C : Addr) (sp : Sp) (t : TA) (g : TG) (i : Nat) (th : TS) : TS := fun D σ H => t σ H fun vs H1 => sp vs H1 (fun v H2 => g v σ H2 D.nx) fun c dx H2 => c = .ref C ∧ ∀ a, H1 a = none → H2 a = some (.ext (ExcAt a C dx)) → th (D.off i) (σ.set i (some (.ref a))) H2
theorem caughtAs_cx (hst : X.stack = X.env :: X.outer) (hfr : X.env.frame = some X.env.locals) (cls : ExcCls X.K C fI) (hgn : Gl X xn) (hmn : X.mg xn = some (.ref C)) (hh : ∀ e, PSs (X.marked e) (b₀ :: bs) th) (hdn : (xn == ("__debug__" : Str)) = false)
    (hN : X.N.Nodup) (hi : X.N[i]? = some xe) (hk : X.env.kindOf xe = some .local)
    {pins : List (Addr × Obj)} {σ : St} {H : Hp} {s s' : Shared} {ev : Value} {D : Ends} (I : Inv X pins σ H s) (hx : CXE X.prog X.w X.stack H s (fun c dx H2 => c = .ref C ∧ ∀ a, H a = none → H2 a = some (.ext (ExcAt a C dx)) → th (D.off i) (σ.set i (some (.ref a))) H2) ev s') :
    wpAny (model X.prog X.w) X.A (noteFrame ev X.env) (fun _ s₂ => wpAny (model X.prog X.w) X.A (setFlight ev none) (fun _ s₃ => wpAny (model X.prog X.w) X.A (handleBy ev X.env (.ExceptHandler (some (.Name xn pn)) (some xe) (b₀ :: bs) ph :: hs')) (SP X pins D) X.xe s₃) X.xe s₂) X.xe s' := by
  obtain ⟨a, C', dx, T, H', ee, os, bare, un, hok, na, nT, hT, ea, ⟨oe, vs, tr⟩, ec, hth⟩ := hx
  subst ee
  cases ec
  have hna : H a = none := by
    cases q : H a with
    | none => rfl
    | some o =>
      obtain ⟨u, e⟩ := (I.hok a o q).here
      rw [na] at e
      cases e
  have hth := hth a hna ea
  have frf : ∀ b ∈ frs X.stack, H' b = none := fun b hb => by
    obtain ⟨_, o, ho, _⟩ := I.stack.mem hb
    exact un.free b o ho (I.stkFree b hb) (by simp)
  have I1 : Inv X pins σ H' s' := I.call' (ch := []) os un hok bare (fun b z => nomatch z)
  obtain ⟨⟨vs', sl, g⟩, _⟩ := hok a _ ea
  have eo : oe = { cls := .ref C, dict := dx, data := .fields vs', slots := sl } := by
    have := tr.1
    rw [g] at this
    exact (Option.some.inj this).symm
  subst eo
  have hsz : 1 < vs.size := (Array.getElem?_eq_some_iff.mp tr.2.2.1).1
  have ev1 : vs = vs' := by
    have := tr.2.1
    injection this with this
    exact this.symm
  subst ev1
  obtain ⟨hp', g', d', tk', os'⟩ := s'
  have fs := I1.stack
  have hfm := I1.ok.frames
  rw [hst] at fs hfm
  refine note_frame (base := X.base) (L := X.env.locals) (outer := X.outer) hfm fs hfr (.on tr) fun h2 T2 y => ?_
  have nT2 : s.heap.get? T2 = none := by
    cases e : s.heap.get? T2 with
    | none => rfl
    | some o =>
      obtain ⟨o', e'⟩ := un.there T2 o e (fun z => nomatch z)
      exact absurd (Heap.lt_size e') (Nat.not_lt.mpr y.new)
  have hT2 : H' T2 = none := hok.fresh y.new
  rw [← hst] at y
  obtain ⟨un2, hok2⟩ := left_un un hok na nT ea (.inr hT) frf y rfl rfl
  refine flight_off (y.trc g hsz) fun h3 z k3 _ => ?_
  obtain ⟨un3, hok3⟩ := off_un un2 hok2 nT2 hT2 k3
  have I3 : Inv X pins σ H' ⟨h3, g', d', tk', os'⟩ := I.call' (ch := []) os un3 hok3 bare (fun b z => nomatch z)
  obtain ⟨nm, qn, NN, bs', Dd, sn, sub, ab, col, dd, k0, k1, k2, k3', k5, lk, tl⟩ := cls.obj
  refine wpAny_handleBy_cons (codeAny_handlers_test (ld_glob (I3.marked (.ref a)) hgn hmn ?_ hdn)) (by intro q; cases q)
  refine wpAny_excMatches_sub_self (bm := .ref Dd :: bmV) (I3.kIn _ _ lk) z.1 rfl rfl (codeAny_handlers_suite_as ?_)
  refine flight_off z fun h4 z4 k4 _ => ?_
  obtain ⟨un4, hok4⟩ := off_un un3 hok3 nT2 hT2 k4
  have I4 : Inv X pins σ H' ⟨h4, g', d', tk', os'⟩ := I.call' (ch := []) os un4 hok4 bare (fun b z => nomatch z)
  refine store_ok (X := X.marked (.ref a)) (v := .ref a) (I4.marked (.ref a)) hN hi (.inl hk) rfl (fun s5 I5 => ?_) (.inr hk)
  refine wpAny_mono (hh (.ref a) pins _ _ H' (D.off i) I5 hth) (fun f s6 q => ?_) fun _ _ q => q.elim
  have q := q.unmarked I.ok
  cases f with
  | next => obtain ⟨σ', H2, I6, q⟩ := q; exact goes_ok I6 hN hi hk fun s7 I7 => ⟨_, H2, I7, q⟩
  | brk => obtain ⟨σ', H2, I6, q⟩ := q; exact goes_ok I6 hN hi hk fun s7 I7 => ⟨_, H2, I7, q⟩
  | cont => obtain ⟨σ', H2, I6, q⟩ := q; exact goes_ok I6 hN hi hk fun s7 I7 => ⟨_, H2, I7, q⟩
  | ret u => obtain ⟨v, σ', H2, I6, r, q⟩ := q; exact goes_ok I6 hN hi hk fun s7 I7 => ⟨v, _, H2, I7, r, q⟩
theorem ps_tryAs (hst : X.stack = X.env :: X.outer) (hfr : X.env.frame = some X.env.locals) (cls : ExcCls X.K C fI) (F : FnOk X.prog X.w X.K X.mg X.base (CXE X.prog X.w) k f fd ps sp) (hr : Room k X.A) (hg : Gl X x) (hm : X.mg x = some (.ref f)) (hk : PySem.W.keepIn X.K (.ref f) = true) (hb : Binds X.K fd ps [])
    (hgn : Gl X xn) (hmn : X.mg xn = some (.ref C)) (ha : PA X.nox (e :: es) t) (hgt : PG X.nox tg g) (hh : ∀ e, PSs (X.marked e) (b₀ :: bs) th)
    (hN : X.N.Nodup) (hi : X.N[i]? = some xe) (hke : X.env.kindOf xe = some .local)
    (hdb : (x == ("__debug__" : Str)) = false := by decide) (hdn : (xn == ("__debug__" : Str)) = false := by decide) (he : starEach (e :: es) X.env = (false, eval e X.env) :: starEach es X.env := by rfl) (hpl : (backTo pos (starEach es X.env)).any (·.1) = false := by rfl)
    (hs : swapsWithSole [tg] (.Call (.Name x p) (e :: es) [] pos) pos2.line X.env = pure false := by rfl) (hw : swappedStores [tg] (.Call (.Name x p) (e :: es) [] pos) X.env = pure none := by rfl) (h1 : (assignEach [tg] X.env).map (·.2) = [assign tg X.env] := by rfl) :
    PS X (.Try [.Assign [tg] (.Call (.Name x p) (e :: es) [] pos) pos2] (.ExceptHandler (some (.Name xn pn)) (some xe) (b₀ :: bs) ph :: hs') [] [] pt) (sTryAs C sp t g i th) := by
  intro pins s σ H D I h
  refine wpAny_Try_except (wpAny_execs_cons (wpAny_Assign_stores (wpAny_Call_Name_kw (ld_glob I hg hm (PySem.W.callWith_K (h₀ := X.base) I.ok.mod.kin hk ?_ he hpl) hdb)) hs hw))
  refine wpAny_mono (ha pos pins s σ H _ (I.wish _) h) (fun us s1 ⟨vs, H1, I1, r, q⟩ => ⟨I1.kIn, ?_⟩) fun _ _ z => False.elim z
  have I1 := I1.unwish
  have hl : us.length = ps.length := by rw [← r.length]; exact F.len _ _ _ _ q
  have hbb := hb s1 us I1.kIn (by simpa using hl)
  rw [List.append_nil] at hbb
  refine wpAny_call (codeAny_mono (F.run X.A X.stack s1 H1 ⟨us, []⟩ us vs _ _ hr I1.env0 hbb r q) fun r s' hq => ?_)
  cases r with
  | error ev => exact caughtAs_cx hst hfr cls hgn hmn hh hdn hN hi hke I1 hq
  | ok fl =>
    cases fl with
    | ret u =>
      obtain ⟨v, H', I2, rv, q2⟩ := I1.after hq
      rw [h1]
      refine wpAny_mono (hgt pins s' σ H' v u _ (I2.wish _) rv q2) (fun _ s2 ⟨σ', H3, I3, q3⟩ => ?_) fun _ _ z => False.elim z
      exact wpAny_execs_nil (wpAny_execs_nil ⟨σ', H3, I3.unwish, q3⟩)
    | next => exact False.elim hq
    | brk => exact False.elim hq
    | cont => exact False.elim hq
end
section
variable {X : Cx} {x xe : Str} {p pos pos2 pn ph pt : Pos} {e tg : Expr} {es : List Expr} {k i : Nat} {sp : DSpX} {K : PySem.W.Frag} {tl : DA} {C : Addr} {b₀ : Stmt} {bs : List Stmt} {th : DS} {g : DG} {hs' : List ExceptHandler}
def dTryAs (C : Addr) (sp : DSpX) (tl : DA) (g : DG) (i : Nat) (th : DS) : DS := fun DD env => tl env fun ss env1 => i < env1.length ∧ ∃ ds, keepsOf env1 ss = some ds ∧
  sp (ds.map .fr) (fun r _ => ∃ d, r = .fr d ∧ g d env1 DD.nx) fun n => th ⟨fun env => i < env.length ∧ DD.nx (env.set i .un), fun _ _ => False, fun _ => False, fun _ => False⟩ (env1.set i (.fr (excD C n)))
theorem q_tryAs (hK : X.K = K) (hst : X.stack = X.env :: X.outer) (hfr : X.env.frame = some X.env.locals) (cl : NoDayCls X.prog X.w X.K X.mg X.base C) (G : CalX X.prog X.w X.K X.mg X.base C x k sp) (hr : Room k X.A) (hg : Gl X x) (hgn : Gl X "NoDay")
    (ha : PA X.nox (e :: es) (upA K tl)) (hgt : PG X.nox tg (upG K g)) (hh : ∀ e, PSs (X.marked e) (b₀ :: bs) (upS K th)) (hN : X.N.Nodup) (hi : X.N[i]? = some xe) (hke : X.env.kindOf xe = some .local)
    (hdb : (x == ("__debug__" : Str)) = false := by decide) (he : starEach (e :: es) X.env = (false, eval e X.env) :: starEach es X.env := by rfl) (hpl : (backTo pos (starEach es X.env)).any (·.1) = false := by rfl)
    (hs : swapsWithSole [tg] (.Call (.Name x p) (e :: es) [] pos) pos2.line X.env = pure false := by rfl) (hw : swappedStores [tg] (.Call (.Name x p) (e :: es) [] pos) X.env = pure none := by rfl) (h1 : (assignEach [tg] X.env).map (·.2) = [assign tg X.env] := by rfl) :
    PS X (.Try [.Assign [tg] (.Call (.Name x p) (e :: es) [] pos) pos2] (.ExceptHandler (some (.Name "NoDay" pn)) (some xe) (b₀ :: bs) ph :: hs') [] [] pt) (upS K (dTryAs C sp tl g i th)) := by
  subst hK
  obtain ⟨fI, fdI, cls, _, _, mC⟩ := cl
  obtain ⟨f, fd, ps, F, bi, kp, m⟩ := G
  refine (ps_tryAs hst hfr cls F hr hg m kp bi hgn mC ha hgt hh hN hi hke hdb (by decide) he hpl hs hw h1).imp fun D σ H h => ?_
  obtain ⟨M, P, H0, σ0, env, ts, DD, nv, rel, ht, ok⟩ := h
  refine ⟨M, P, H0, σ0, env, ts, _, rel, ht, fun ss env1 vs H1 h1 hl rel1 => ?_⟩
  obtain ⟨hi1, ds, ek, hsp⟩ := h1
  have dns := rel1.keptAll hl (fun p hp => hp) ek
  have oe := oas_fr vs ds
  have no : ∀ b, ¬ ioOf vs (ds.map .fr) b := fun b z => by
    have z : b ∈ oas (tmp (vs.zip (ds.map .fr))) := z
    rw [oe] at z
    cases z
  have rel1 := rel1.drop
  refine ⟨Nw M (ents σ env1 ts), ds.map .fr, _, _, by simp [dns.len], argsFr dns fun a z hn => rel1.newAddr hn z, hsp, no, fun r ss' v H' hR hr post => ?_, fun n hR dx H' sm hdx hd => ⟨rfl, fun a ha ea => ?_⟩⟩
  · obtain ⟨d, rfl, hR⟩ := hR
    have k : Same H1 H' := (post.keep.mono (M := N0) fun b z => (no b z).elim).none
    have rel2 := rel1.withRes (rel1.e.called k (post.resOk hr)) hr
    exact ⟨M, P, H0, σ0, env1, ts, d, _, nv, rel2.drop, rel2.kept (v := v) (s := .fr d) (by simp) rfl, hR, fun σ' env' H' hR r => ok.nx _ _ _ hR r⟩
  · have rel2 := rel1.same sm
    have dn : DN X.K (Nw M (ents σ env1 ts)) H' (.ref a) (excD C n) := .exc (fun z => rel1.newAddr ha z) (fun z => rel1.newAddr hdx z) ea hd
    refine ⟨M, P, H0, σ0, _, ts, _, nv, (rel2.addFr dn).store nv hi1 rfl, hR, ⟨fun σ' env' H2 q r => ?_, fun s env' v σ' H' q r => q.elim, fun σ' env' H' q r => q.elim, fun σ' env' H' q r => q.elim⟩⟩
    exact ok.nx _ _ _ q.2 (r.setUn nv q.1 none).1
end
end L2
namespace L2
open PySem PySem.Spec PyProof.Rows PySem.W
section
variable {prog : Program} {w : World} {A : Around} {E : Value → Shared → Prop} {h : Heap} {g : Array GenState} {d : Drawn} {t : Nat} {os : OsState}
variable {nm q : Str} {C N x : Addr} {bs bm : List Value} {sn : List Str} {sub : List Value} {ab : Bool} {col : Option Bool} {dd : Option Addr} {k0 k1 k2 k3 k5 : Option Value} {newId : String} {name : Str} {v : Value} {o : Obj}
theorem ga_check {M : Model} {nameV : Value} {Q : Unit → Shared → Prop} (hcB : (Value.ref C :: bm).contains (.type "BaseException") = true)
    (hC : h.get? C = some (excClassObj nm q C N bs bm true sn sub ab col dd k0 k1 k2 k3 k5 newId)) (hx : h.get? x = some o) (hc : o.cls = .ref C) (hq : Q () ⟨h, g, d, t, os⟩) :
    wpAny M A (checkBuiltinCall "BaseException.__getattribute__" ⟨[.ref x, nameV], []⟩) Q E ⟨h, g, d, t, os⟩ := by
  have hk : builtinKind "BaseException.__getattribute__" = some .slot := by decide +kernel
  have hsplit : splitId "BaseException.__getattribute__" = some ("BaseException", "__getattribute__") := by decide +kernel
  have ha := PySem.F.args_bexc_ga (.ref x) nameV
  simp only [checkBuiltinCall, hk, hsplit]
  refine wpAny_bind ?_
  · unfold isInstance
    repeat (first | (with_reducible refine wpAny_loadPart_at hx ?_; rw [hc]) | (with_reducible refine wpAny_isSubtype_exc hC ?_; rw [hcB]) | wp_step)
    exact hq
theorem exc_getBy {fill expr : Bool} {tk : Tok} {Q : Value → Shared → Prop} (hcB : (Value.ref C :: bm).contains (.type "BaseException") = true)
    (hC : h.get? C = some (excClassObj nm q C N bs bm true sn sub ab col dd k0 k1 k2 k3 k5 newId)) (hx : h.get? x = some o) (hc : o.cls = .ref C)
    (hga : Looks (model prog w) h (typeLookup (.ref C) "__getattribute__") (some (.builtin "BaseException.__getattribute__"))) (hgn : Looks (model prog w) h (typeLookup (.ref C) "__getattr__") none)
    (hent : ∀ A' E', wpAny (model prog w) A' (Builtin.«object.__getattribute__» ⟨[.ref x, .str name tk], []⟩) (fun f s => f = .done (.ret v) ∧ s = ⟨h, g, d, t, os⟩) E' ⟨h, g, d, t, os⟩) (hv : handedIn v = true) (hq : Q v ⟨h, g, d, t, os⟩) :
    wpAny (model prog w) A (getAttrBy (.ref x) (.str name tk) fill expr) Q E ⟨h, g, d, t, os⟩ := by
  have FB := PySem.F.attrBase_ValueError
  have f3 := FB.ga.bind (.ref x)
  have hx0 : (expr && onTheHeap (Value.builtin "BaseException.__getattribute__")) = false := by cases expr <;> rfl
  have hx2 : (Value.builtin "BaseException.__getattribute__" == Value.builtin "object.__getattribute__") = false := by decide +kernel
  have hx1 : (onTheHeap (Value.ref C) && Value.builtin "BaseException.__getattribute__" == Value.builtin "object.__getattribute__") = false := by rw [hx2]; rfl
  repeat (any_goals (first | assumption | (with_reducible refine wpAny_loadPart_at hx ?_; rw [hc]) | with_reducible refine hga.at ?_ | with_reducible refine hgn.at ?_ | wp_step))
  refine codeAny_call_builtin FB.ga.plain PySem.F.entry_bexc_ga (ga_check hcB hC hx hc ?_)
  refine wpAny_mono (hent _ _) (fun f s ⟨e1, e2⟩ => ?_) fun _ _ z => z
  subst e1 e2
  have ho := handedOut_of hv
  repeat (any_goals (first | assumption | rw [ho] | wp_step))
theorem exc_get {K : PySem.W.Frag} {s : Shared} {od : Obj} {Q : Value → Shared → Prop} (KX : K.In s.heap) (hcB : (Value.ref C :: bm).contains (.type "BaseException") = true)
    (lk : K.lookup C = some (excClassObj nm q C N bs bm true sn sub ab col dd k0 k1 k2 k3 k5 newId)) (I : PySem.W.InstAt s.heap x o C (some od))
    (hga : PySem.W.findIn K (.ref C) "__getattribute__" = some (some (.builtin "BaseException.__getattribute__"))) (hgn : PySem.W.findIn K (.ref C) "__getattr__" = some none)
    (hf : PySem.W.findObj K C (some od) name = some (.value v)) (hv : handedIn v = true) (hq : Q v { s with toks := s.toks + 1 }) : wpAny (model prog w) A (getAttr (.ref x) name true) Q E s := by
  obtain ⟨h, g, d, t, os⟩ := s
  unfold getAttr
  refine wpAny_bind (wpAny_mkText ?_)
  refine exc_getBy hcB (KX _ _ lk) I.at_ I.cls (looks_findIn KX hga) (looks_findIn KX hgn) (fun A' E' => ?_) hv hq
  have L0 := I.type (M := model prog w)
  have L1 := looks_find (M := model prog w) KX I hf
  unfold Builtin.«object.__getattribute__»
  refine wpAny_bind (wpAny_pure (wpAny_bind (wpAny_pure (wpAny_bind (L0.at (wpAny_bind (L1.at ?_)))))))
  exact wpAny_pure ⟨rfl, rfl⟩
end
end L2
namespace L2
open PySem PySem.Spec PyProof.Rows PySem.W
section
variable {prog : Program} {w : World} {A : Around} {E : Value → Shared → Prop} {h : Heap} {g : Array GenState} {d : Drawn} {t : Nat} {os : OsState}
variable {nm q : Str} {C N x : Addr} {bs bm : List Value} {sn : List Str} {sub : List Value} {ab : Bool} {col : Option Bool} {dd : Option Addr} {k0 k1 k2 k3 k5 : Option Value} {newId : String} {name : Str} {v c : Value} {o : Obj}
theorem cls_entry {tk : Tok} {Q : Fin → Shared → Prop} (hC : h.get? C = some (excClassObj nm q C N bs bm true sn sub ab col dd k0 k1 k2 k3 k5 newId)) (hx : h.get? x = some o) (hc : o.cls = .ref C) (hcO : (Value.ref C :: bm).contains (.type "object") = true)
    (hl : Looks (model prog w) h (typeLookup (.ref C) "__class__") (some (.builtin "object.__class__"))) (hq : Q (.done (.ret (.ref C))) ⟨h, g, d, t, os⟩) :
    wpAny (model prog w) A (Builtin.«object.__getattribute__» ⟨[.ref x, .str "__class__" tk], []⟩) Q E ⟨h, g, d, t, os⟩ := by
  have hT5 : (⟨h, g, d, t, os⟩ : Shared).TypeIs (.builtin "object.__class__") "getset_descriptor" := PySem.F.typeOf_object_class
  have f5 := PySem.F.typeOf_object_class
  have f6 := PySem.F.slot_gs_get.lookup
  have f7 := PySem.F.slot_gs_set.lookup
  repeat (any_goals (first | assumption | (with_reducible refine wpAny_loadPart_at hx ?_; rw [hc]) | with_reducible refine hl.at ?_ | wp_step))
  have hcB : (Value.ref C :: bm).contains (.type (".".intercalate ("object.__class__".cutAt '.').dropLast)) = true := by rw [PySem.F.owner_object_class]; exact hcO
  refine codeAny_call_builtin PySem.F.slot_gs_get.plain PySem.F.entry_gs_get (PySem.F.slot_gs_get.check _ _ _ _ _ _ _ _ hT5 (PySem.F.args_gs_get _ _ _) ?_)
  repeat (any_goals (first | assumption | (with_reducible refine wpAny_loadPart_at hx ?_; rw [hc]) | (with_reducible refine wpAny_isSubtype_exc hC ?_; rw [hcB]) | wp_step))
  refine ⟨Code.quiet_builtin _ (by decide +kernel), codeAny_builtin PySem.F.entry_object_class ?_⟩
  unfold Builtin.«object.__class__»
  repeat (any_goals (first | assumption | (with_reducible refine wpAny_loadPart_at hx ?_; rw [hc]) | wp_step))
theorem isi_own {Q : Value → Shared → Prop} (hx : h.get? x = some o) (hc : o.cls = .ref C) (hq : Q (.bool true) ⟨h, g, d, t, os⟩) :
    wpAny (model prog w) A (call (.builtin "isinstance") [.ref x, .ref C]) Q E ⟨h, g, d, t, os⟩ := by
  refine call_isinstance_of ?_ (by intro e; cases e)
  have e1 : (Value.ref C == Value.ref C) = true := beq_self_eq_true _
  unfold Builtin.«isinstance.nested»
  repeat (any_goals (first | assumption | (with_reducible refine wpAny_loadPart_at hx ?_; rw [hc]) | wp_step))
theorem isi_sub {Q : Value → Shared → Prop} (hC : h.get? C = some (excClassObj nm q C N bs bm true sn sub ab col dd k0 k1 k2 k3 k5 newId)) (hx : h.get? x = some o) (hc : o.cls = .ref C) (hne : (Value.ref C == c) = false)
    (hty : Looks (model prog w) h (typeOf c) (.type "type")) (hit : Looks (model prog w) h (isType c) true) (hsub : (Value.ref C :: bm).contains c = true) (hq : Q (.bool true) ⟨h, g, d, t, os⟩) :
    wpAny (model prog w) A (call (.builtin "isinstance") [.ref x, c]) Q E ⟨h, g, d, t, os⟩ := by
  refine call_isinstance_of ?_ (by intro e; cases e)
  unfold Builtin.«isinstance.nested»
  repeat (any_goals (first | assumption | (with_reducible refine wpAny_loadPart_at hx ?_; rw [hc]) | with_reducible refine hty.at ?_ | with_reducible refine hit.at ?_ | (with_reducible refine wpAny_isSubtype_exc hC ?_; rw [hsub]) | wp_step))
theorem isi_not {Q : Value → Shared → Prop} (hC : h.get? C = some (excClassObj nm q C N bs bm true sn sub ab col dd k0 k1 k2 k3 k5 newId)) (hx : h.get? x = some o) (hc : o.cls = .ref C) (hne : (Value.ref C == c) = false)
    (hty : Looks (model prog w) h (typeOf c) (.type "type")) (hit : Looks (model prog w) h (isType c) true) (hsub : (Value.ref C :: bm).contains c = false) (hitC : Looks (model prog w) h (isType (.ref C)) true)
    (hcl : ∀ A' E' Q' t', Q' (.ref C) ⟨h, g, d, t' + 1, os⟩ → wpAny (model prog w) A' (getAttrBy (.ref x) (.str "__class__" t') false) Q' E' ⟨h, g, d, t' + 1, os⟩) (hq : ∀ t', Q (.bool false) ⟨h, g, d, t', os⟩) :
    wpAny (model prog w) A (call (.builtin "isinstance") [.ref x, c]) Q E ⟨h, g, d, t, os⟩ := by
  refine call_isinstance_of ?_ (by intro e; cases e)
  unfold Builtin.«isinstance.nested»
  have hq' := hq (t + 1)
  repeat (any_goals (first | assumption | (with_reducible refine wpAny_loadPart_at hx ?_; rw [hc]) | with_reducible refine hty.at ?_ | with_reducible refine hit.at ?_ | with_reducible refine hitC.at ?_ | (with_reducible refine wpAny_isSubtype_exc hC ?_; rw [hsub]) | with_reducible refine hcl _ _ _ _ ?_ | wp_step))
end
end L2
namespace L2
open PySem PySem.Spec PyProof.Rows PySem.W
structure ExcLook (K : PySem.W.Frag) (C : Addr) : Prop where
  ga : PySem.W.findIn K (.ref C) "__getattribute__" = some (some (.builtin "BaseException.__getattribute__"))
  gn : PySem.W.findIn K (.ref C) "__getattr__" = some none
  hd : PySem.W.hasDictIn K C = true
  cl : PySem.W.findIn K (.ref C) "__class__" = some (some (.builtin "object.__class__"))
section
variable {X : Cx} {C fI : Addr} {e : Expr} {te : TE} {pos : Pos}
def tDay (C : Addr) (te : TE) : TE := fun σ H Q => te σ H fun v H1 => ∃ a dx n, v = .ref a ∧ H1 a = some (.ext (ExcAt a C (some dx))) ∧ H1 dx = some (.xd [("day", .int n)]) ∧ Q (.int n) H1
theorem pe_day (cls : ExcCls X.K C fI) (lo : ExcLook X.K C) (he : PE X e te) (hb : attributeBase e "day" X.env (eval e X.env) = eval e X.env := by rfl) : PE X (.Attribute e "day" pos) (tDay C te) := by
  intro pins s σ H Q I h
  refine attr_of hb (thn (he pins s σ H _ I h) fun u s1 ⟨v, H1, I1, rv, a, dx, n, ev, ea, ed, q⟩ => ?_)
  subst ev
  obtain rfl : u = Value.ref a := rv
  obtain ⟨nm, qn, NN, bs, Dd, sn, sub, ab, col, dd, k0, k1, k2, k3, k5, lk, tl⟩ := cls.obj
  obtain ⟨⟨vs, sl, go⟩, _⟩ := I1.hok a _ ea
  obtain ⟨mA, ns, rl⟩ := I1.hok dx _ ed
  obtain ⟨od, hod, hl⟩ := lookIn_ns ns
  have r1 := rl "day"
  simp only [List.lookup_cons, beq_self_eq_true] at r1
  obtain ⟨u, hu, ru⟩ := RelO.some_of (v := V.int n) (o := mA "day") r1
  have inst : PySem.W.InstAt s1.heap a { cls := .ref C, dict := some dx, data := .fields vs, slots := sl } C (some od) := ⟨go, rfl, rfl, hod⟩
  exact exc_get I1.kIn (by rfl) lk inst lo.ga lo.gn (PySem.W.findObj_own lo.hd cls.da rfl (by rw [hl, hu])) (handed_of ru) ⟨V.int n, H1, I1.tok _, ru, q⟩
def ExcMro (K : PySem.W.Frag) (C Dd : Addr) : Prop := ∃ nm q N bs sn sub ab col dd k0 k1 k2 k3 k5, K.lookup C = some (excClassObj nm q C N bs (.ref Dd :: bmV) true sn sub ab col dd k0 k1 k2 k3 k5 "ValueError.__new__")
inductive IsiF (K : PySem.W.Frag) (C Dd : Addr) : V → Bool → Prop
  | own : IsiF K C Dd (.ref C) true
  | ref {D : Addr} {oD : Obj} : D ≠ C → K.lookup D = some oD → oD.cls = .type "type" → PySem.W.hasDictIn K D = true → IsiF K C Dd (.ref D) ((Value.ref Dd :: bmV).contains (.ref D))
  | ty {T : String} : typeOf (.type T) = pure (.type "type") → IsiF K C Dd (.ty T) ((Value.ref Dd :: bmV).contains (.type T))
theorem call_isX {Dd : Addr} (mro : ExcMro X.K C Dd) (lo : ExcLook X.K C) : CallR X (.builtin "isinstance") (fun xs H Q => ∃ a dx c b, xs = [.ref a, c] ∧ H a = some (.ext (ExcAt a C dx)) ∧ IsiF X.K C Dd c b ∧ Q (.bl b) H) := by
  intro pins s σ H xs us Q I r h
  obtain ⟨a, dx, c, b, rfl, ea, f, q⟩ := h
  obtain ⟨u, w', rfl, ru, rw'⟩ := vals2 r
  obtain rfl : u = Value.ref a := ru
  obtain ⟨nm, qn, NN, bs, sn, sub, ab, col, dd, k0, k1, k2, k3, k5, lk⟩ := mro
  obtain ⟨⟨vs, sl, go⟩, _⟩ := I.hok a _ ea
  have fin : ∀ tk, EP X pins σ Q (.bool b) { s with toks := tk } := fun tk => ⟨.bl b, H, I.tok tk, rfl, q⟩
  have KX := I.kIn
  have isC := PySem.W.mc_isType (M := model X.prog X.w) KX lo.hd
  have any : ∀ u, (Value.ref C == u) = false → Looks (model X.prog X.w) s.heap (typeOf u) (.type "type") → Looks (model X.prog X.w) s.heap (isType u) true → (Value.ref Dd :: bmV).contains u = b →
      wpAny (model X.prog X.w) X.A (call (.builtin "isinstance") [.ref a, u]) (EP X pins σ Q) X.xe s := fun u hne hty hit hb => by
    have hsub : (Value.ref C :: Value.ref Dd :: bmV).contains u = b := by
      rw [List.contains_cons, hb, show (u == Value.ref C) = false by rw [BEq.comm]; exact hne, Bool.false_or]
    obtain ⟨h, g, d, t, os⟩ := s
    cases b with
    | true => exact isi_sub (KX _ _ lk) go rfl hne hty hit hsub (fin t)
    | false =>
      refine isi_not (KX _ _ lk) go rfl hne hty hit hsub isC (fun A' E' Q' t' hq => ?_) fun t' => fin t'
      exact exc_getBy (by rfl) (KX _ _ lk) go rfl (looks_findIn KX lo.ga) (looks_findIn KX lo.gn) (fun A2 E2 => cls_entry (KX _ _ lk) go rfl (by rfl) (looks_findIn KX lo.cl) ⟨rfl, rfl⟩) rfl hq
  cases f with
  | own =>
    obtain rfl : w' = Value.ref C := rw'
    obtain ⟨h, g, d, t, os⟩ := s
    exact isi_own go rfl (fin t)
  | @ref D oD ne ld hc hd =>
    obtain rfl : w' = Value.ref D := rw'
    refine any _ ?_ (hc ▸ (Looks.ld (KX _ _ ld)).andThen .now) (PySem.W.mc_isType (M := model X.prog X.w) KX hd) rfl
    exact beq_false_of_ne fun z => ne (by cases z; rfl)
  | @ty T hT =>
    obtain rfl : w' = Value.type T := rw'
    refine any _ (by rfl) (by rw [hT]; exact .now) .now rfl
end
end L2
namespace L2
open PySem PySem.Spec PyProof.Rows PySem.W
theorem DN.exc_of {K : PySem.W.Frag} {N : Addr → Prop} {H : Hp} {v : V} {d : PyData} {C : Addr} {n : Int} (h : DN K N H v d) (e : d = excD C n) : ∃ a dx, v = .ref a ∧ H a = some (.ext (ExcAt a C (some dx))) ∧ H dx = some (.xd [("day", .int n)]) := by
  cases h with
  | @exc a C' dx n' n1 n2 h1 h2 =>
    have e1 : (C' : Int) = (C : Int) ∧ n' = n := by
      simp only [excD, PyData.dict.injEq, List.cons.injEq, Prod.mk.injEq, PyData.int.injEq, and_true] at e
      exact e
    obtain ⟨ec, rfl⟩ := e1
    obtain rfl : C' = C := Int.ofNat.inj ec
    exact ⟨a, dx, rfl, h1, h2⟩
  | _ => cases e
section
variable {X : Cx} {K : PySem.W.Frag} {C Dd fI : Addr} {e : Expr} {te : DE} {pos p : Pos}
def dDay (C : Addr) (te : DE) : DE := fun env R => te env fun s env1 => ∃ n, valOf env1 s = some (excD C n) ∧ R (.fr (.int n)) env1
theorem q_day (hK : X.K = K) (cls : ExcCls X.K C fI) (lo : ExcLook X.K C) (he : PE X e (up K te)) (hb : attributeBase e "day" X.env (eval e X.env) = eval e X.env := by rfl) : PE X (.Attribute e "day" pos) (up K (dDay C te)) :=
  (pe_day cls lo he hb).imp fun σ H Q h => by
  obtain ⟨M, P, H0, σ0, env, ts, R, rel, ht, hq⟩ := h
  refine ⟨M, P, H0, σ0, env, ts, _, rel, ht, fun s1 env1 v1 H1 h1 rel1 => ?_⟩
  obtain ⟨n, e1, hR⟩ := h1
  have w := rel1.view (v := v1) (by simp) e1
  cases w with
  | dn h =>
    obtain ⟨a, dx, ev, ea, ed⟩ := h.exc_of rfl
    exact ⟨a, dx, n, ev, ea, ed, hq _ _ _ _ hR (rel1.drop.addFr (.int n))⟩
def dIsX (C : Addr) (b : Bool) (te : DE) : DE := fun env R => te env fun s env1 => ∃ n, valOf env1 s = some (excD C n) ∧ R (.fr (.bool b)) env1
theorem q_isO {n : Str} {np : Pos} {D : Addr} {b : Bool} (hK : X.K = K) (mro : ExcMro X.K C Dd) (lo : ExcLook X.K C) (f : IsiF X.K C Dd (.ref D) b) (hg : Gl X "isinstance") (hm : X.mg "isinstance" = none) (hgn : Gl X n) (hmn : X.mg n = some (.ref D)) (ha : PE X e (up K te))
    (he : starEach [e, .Name n np] X.env = (false, eval e X.env) :: starEach [.Name n np] X.env := by rfl) (he2 : starEach [.Name n np] X.env = (false, eval (.Name n np) X.env) :: starEach [] X.env := by rfl)
    (hnd : (n == ("__debug__" : Str)) = false := by decide) (hpl : (backTo pos (starEach [.Name n np] X.env)).any (·.1) = false := by rfl) :
    PE X (.Call (.Name "isinstance" p) [e, .Name n np] [] pos) (up K (dIsX C b te)) :=
  (pe_callB (call_isX mro lo) hg hm PyProof.Rows.boot_isinstance (pa_cons ha (pa_cons (show PE X (.Name n np) (tC (.ref D)) from fun pins s σ H Q I h => ld_glob I hgn hmn ⟨.ref D, H, I, rfl, h⟩ hnd) pa_nil he2) he) (by decide) (by decide) he hpl).imp fun σ H Q h => by
  obtain ⟨M, P, H0, σ0, env, ts, R, rel, ht, hq⟩ := h
  refine ⟨M, P, H0, σ0, env, ts, _, rel, ht, fun s1 env1 v1 H1 h1 rel1 => ?_⟩
  obtain ⟨n, e1, hR⟩ := h1
  have w := rel1.view (v := v1) (by simp) e1
  cases w with
  | dn h =>
    obtain ⟨a, dx, ev, ea, ed⟩ := h.exc_of rfl
    exact ⟨a, _, _, b, by rw [ev], ea, f, hq _ _ _ _ hR (rel1.drop.addFr (.bl b))⟩
theorem q_isB {n : Str} {T : String} {np : Pos} {b : Bool} (hK : X.K = K) (mro : ExcMro X.K C Dd) (lo : ExcLook X.K C) (f : IsiF X.K C Dd (.ty T) b) (hg : Gl X "isinstance") (hm : X.mg "isinstance" = none) (hgn : Gl X n) (hmn : X.mg n = none) (hbn : bootBuiltins n = some (.type T)) (ha : PE X e (up K te))
    (he : starEach [e, .Name n np] X.env = (false, eval e X.env) :: starEach [.Name n np] X.env := by rfl) (he2 : starEach [.Name n np] X.env = (false, eval (.Name n np) X.env) :: starEach [] X.env := by rfl)
    (hnn : n ≠ "__name__" := by decide) (hnd : (n == ("__debug__" : Str)) = false := by decide) (hpl : (backTo pos (starEach [.Name n np] X.env)).any (·.1) = false := by rfl) :
    PE X (.Call (.Name "isinstance" p) [e, .Name n np] [] pos) (up K (dIsX C b te)) :=
  (pe_callB (call_isX mro lo) hg hm PyProof.Rows.boot_isinstance (pa_cons ha (pa_cons (pe_bltn (v := .ty T) hgn hmn hbn rfl hnn hnd) pa_nil he2) he) (by decide) (by decide) he hpl).imp fun σ H Q h => by
  obtain ⟨M, P, H0, σ0, env, ts, R, rel, ht, hq⟩ := h
  refine ⟨M, P, H0, σ0, env, ts, _, rel, ht, fun s1 env1 v1 H1 h1 rel1 => ?_⟩
  obtain ⟨n, e1, hR⟩ := h1
  have w := rel1.view (v := v1) (by simp) e1
  cases w with
  | dn h =>
    obtain ⟨a, dx, ev, ea, ed⟩ := h.exc_of rfl
    exact ⟨a, _, _, b, by rw [ev], ea, f, hq _ _ _ _ hR (rel1.drop.addFr (.bl b))⟩
end
end L2
namespace L2
open PySem PySem.Spec PyProof.Rows PySem.W
section
variable {P : Program} {w : World} {K : PySem.W.Frag} {mg : Str → Option Value} {base : Heap} {N : List Str} {qual : Str} {scope : Scope} {f : Addr} {cd : Value} {A : Around} {outer : List Env} {s : Shared} {H : Hp} {E : XK} {C : Addr} {RX : Int → Prop} {tl : DA} {k : Nat}
def dRetX (RX : Int → Prop) (sp : DSpX) (tl : DA) : DS := fun DD env => tl env fun ss env1 => ∃ ds, keepsOf env1 ss = some ds ∧ sp (ds.map .fr) (fun r _ => DD.rt r env1) RX
theorem q_retX {x : Str} {sp : DSpX} {e : Expr} {es : List Expr} {p pos pos' : Pos} (hE : XOk C H RX E) (G : CalX P w K mg base C x k sp) (hr : Room k (A.deeper (envOfC qual scope s.heap.objs.size f cd))) (hg : Gl (cxOf (CXE P w) P w K mg base N qual scope f cd A outer s H E) x)
    (ha : PA (cxOf (CXE P w) P w K mg base N qual scope f cd A outer s H E) (e :: es) (upA K tl)) (hd : (x == ("__debug__" : Str)) = false := by decide)
    (he : starEach (e :: es) (cxOf (CXE P w) P w K mg base N qual scope f cd A outer s H E).env = (false, eval e (cxOf (CXE P w) P w K mg base N qual scope f cd A outer s H E).env) :: starEach es (cxOf (CXE P w) P w K mg base N qual scope f cd A outer s H E).env := by rfl)
    (hpl : (backTo pos (starEach es (cxOf (CXE P w) P w K mg base N qual scope f cd A outer s H E).env)).any (·.1) = false := by rfl) :
    PS (cxOf (CXE P w) P w K mg base N qual scope f cd A outer s H E) (.Return (some (.Call (.Name x p) (e :: es) [] pos)) pos') (upL K H (dRetX RX sp tl)) := by
  obtain ⟨f1, fd, ps, F, b, kp, m⟩ := G
  refine (ps_ret (pe_call F hr hg m kp b .nil passE ha hd he hpl)).imp fun D σ H1 h => ?_
  obtain ⟨M, PP, H0, σ0, env, ts, DD, ⟨rfl, np⟩, nv, rel, ht, ok⟩ := h
  refine ⟨M, PP, H0, σ0, env, ts, _, rel, ht, fun ss env1 vs H2 h1 hl rel1 => ?_⟩
  obtain ⟨ds, ek, hsp⟩ := h1
  rw [List.append_nil]
  have dns := rel1.keptAll hl (fun p hp => hp) ek
  have oe := oas_fr vs ds
  have no : ∀ b, ¬ ioOf vs (ds.map .fr) b := fun b z => by
    have z : b ∈ oas (tmp (vs.zip (ds.map .fr))) := z
    rw [oe] at z
    cases z
  have sm : Same H0 H2 := fun b o e => rel1.e.keep b o (np b) e
  refine ⟨Nw M (ents σ env1 ts), ds.map .fr, fun r _ => DD.rt r env1, RX, by simp [dns.len], argsFr dns fun a z hn => rel1.drop.newAddr hn z, hsp, no, fun r ss' v H' hR hr post => ?_, fun n hn dx H' s2 hdx hd => hE n hn dx H' (fun b o e => s2 _ _ (sm _ _ e)) (sm.free hdx) hd⟩
  have k : Same H2 H' := (post.keep.mono (M := N0) fun b z => (no b z).elim).none
  exact ok.rt _ _ _ _ _ hR ((rel1.drop).withRes (rel1.drop.e.called k (post.resOk hr)) hr)
end
end L2
namespace L2
open PySem PySem.Spec PyProof.Rows PySem.W
def PackN (K : PySem.W.Frag) (mg : Str → Option Value) (C Dd : Addr) (n : Str) (b : Bool) : Prop := ∃ D, mg n = some (.ref D) ∧ IsiF K C Dd (.ref D) b
structure ExcPack (K : PySem.W.Frag) (mg : Str → Option Value) (C Dd : Addr) : Prop where
  lo : ExcLook K C
  mro : ExcMro K C Dd
  NoDay : PackN K mg C Dd "NoDay" true
  NoHands : PackN K mg C Dd "NoHands" false
  NoText : PackN K mg C Dd "NoText" false
  NoTown : PackN K mg C Dd "NoTown" false
  Taken : PackN K mg C Dd "Taken" false
  TownError : PackN K mg C Dd "TownError" true
  vErr : mg "ValueError" = none
theorem pack_no {K : PySem.W.Frag} {mg : Str → Option Value} {C Dd D : Addr} {oD : Obj} {n : Str} (m : mg n = some (.ref D)) (ne : D ≠ C) (nd : D ≠ Dd) (lk : K.lookup D = some oD) (hc : oD.cls = .type "type") (hd : PySem.W.hasDictIn K D = true) : PackN K mg C Dd n false := by
  refine ⟨D, m, ?_⟩
  have e : (Value.ref Dd :: bmV).contains (.ref D) = false := by
    rw [List.contains_cons, show (Value.ref D == Value.ref Dd) = false from beq_false_of_ne fun z => nd (by cases z; rfl)]
    rfl
  rw [← e]
  exact .ref ne lk hc hd
theorem pack_up {K : PySem.W.Frag} {mg : Str → Option Value} {C Dd : Addr} {oD : Obj} {n : Str} (m : mg n = some (.ref Dd)) (ne : Dd ≠ C) (lk : K.lookup Dd = some oD) (hc : oD.cls = .type "type") (hd : PySem.W.hasDictIn K Dd = true) : PackN K mg C Dd n true := by
  refine ⟨Dd, m, ?_⟩
  have e : (Value.ref Dd :: bmV).contains (.ref Dd) = true := by
    rw [List.contains_cons, beq_self_eq_true]
    rfl
  rw [← e]
  exact .ref ne lk hc hd
theorem pack_own {K : PySem.W.Frag} {mg : Str → Option Value} {C Dd : Addr} {n : Str} (m : mg n = some (.ref C)) : PackN K mg C Dd n true := ⟨C, m, .own⟩
section
variable {X : Cx} {K : PySem.W.Frag} {C Dd : Addr} {e : Expr} {te : DE} {pos p : Pos}
theorem q_dayN (hK : X.K = K) (cl : NoDayCls X.prog X.w X.K X.mg X.base C) (px : ExcPack X.K X.mg C Dd) (he : PE X e (up K te)) (hb : attributeBase e "day" X.env (eval e X.env) = eval e X.env := by rfl) : PE X (.Attribute e "day" pos) (up K (dDay C te)) := by
  obtain ⟨fI, fd, cls, _⟩ := cl
  exact q_day hK cls px.lo he hb
theorem q_isN {n : Str} {np : Pos} {b : Bool} (hK : X.K = K) (px : ExcPack X.K X.mg C Dd) (f : PackN X.K X.mg C Dd n b) (hg : Gl X "isinstance") (hm : X.mg "isinstance" = none) (hgn : Gl X n) (ha : PE X e (up K te))
    (he : starEach [e, .Name n np] X.env = (false, eval e X.env) :: starEach [.Name n np] X.env := by rfl) (he2 : starEach [.Name n np] X.env = (false, eval (.Name n np) X.env) :: starEach [] X.env := by rfl)
    (hnd : (n == ("__debug__" : Str)) = false := by decide) (hpl : (backTo pos (starEach [.Name n np] X.env)).any (·.1) = false := by rfl) :
    PE X (.Call (.Name "isinstance" p) [e, .Name n np] [] pos) (up K (dIsX C b te)) := by
  obtain ⟨D, m, f⟩ := f
  exact q_isO hK px.mro px.lo f hg hm hgn m ha he he2 hnd hpl
end
end L2
namespace W
open PySem L2
local macro_rules | `(tactic| walk_at "dd") => do
  let l ← (("dTryAs,dDay,dIsX,dRetX,notD,dCallN,dRaise,dSrt,dStep,dSeq,dSet,dAsg,dgName,dgTup,dFz,dgCons,dgNil,dRet,dDrop,dNext,dIfS,dSetIx,dFor,dOp,dOpL,dCatT,dUn,dVar,dFrz,dC,dTest,dAnd,dOr,dNot,dAndV,dOrV,dNotV,dIf,dChain,dTup,dLst,dCons,dNil,dCall,dCallS,dCallT,dCB,dIs,dSlL,dPart,dNoPart,dListOf,dTupOf,dApp,dPop,dIList,dITup,dRng1,dEnum,dZip,dComp,dComp1,dYes,sqD,gI,gIC,gB,gBB,gEq,gNe,gIsN,gIn,gNotIn,gNotInD,gIx,gCat,gLen,gMin,gAll,gNeg,Sl.tr.injEq,valOf_fr,valOf_ow,valOf_io,valOf_vw,valsOf_nil,valsOf_cons,keepOf_fr,keepOf_ow,keepOf_vw,keepsOf_nil,keepsOf_cons,slD_fr,slD_ow,slD_io,slD_un,slK_fr,slK_ow,slK_io,slK_un,stoOf_fr,stoOf_ow,stoOf_vw,resOf_fr,resOf_ow,resOf_vw,resS_fr,resS_ow,finD,ioOnly_fr,ioOnly_ow,ioOnly_io,ioOnly_un,endsD_rt,endsD_nx,startD,setSl_ow,setSl_io,ownD_ow,ownD_io,ownD_fr,ownD_un,capE,capD_none,capD_some,capSl_fr,capSl_ow,capSl_io,capSl_un,seqOf_list,seqOf_tuple,truD_none,truD_bool,truD_int,truD_list,truD_tuple,isNn_none,isNn_int,isNn_bool,isNn_list,isNn_tuple,isK_int,isK_bool,isK_ib,isK_bi,isK_list,isK_tuple,isK_lt,isK_tl,isK_in,isK_bn,isK_il,isK_it,intsOf_map,boolsOf_map,eqv_ints,atI_c0,atI_c1,atI_c2,eqv_none,eqv_ni,eqv_in,shp_int,shp_none,shp_bool,List.map_cons,List.map_nil,List.length_cons,List.length_nil,List.cons_append,List.nil_append,List.append_nil,List.replicate_succ,List.replicate_zero,List.set_cons_succ,List.set_cons_zero,List.getElem?_cons_zero,List.getElem?_cons_succ,List.getElem?_nil,List.take_succ_cons,List.take_zero,List.take_nil,List.drop_succ_cons,List.drop_zero,List.drop_nil,Option.some.injEq,Option.bind_some,Option.bind_none,Option.map_some,Option.map_none,Sl.fr.injEq,Sl.ow.injEq,Sl.io.injEq,Sl.vw.injEq,PyData.int.injEq,PyData.bool.injEq,PyData.list.injEq,PyData.tuple.injEq,PyData.str.injEq,List.cons.injEq,reduceCtorEq,and_true,true_and,and_false,false_and,and_assoc,exists_eq_left',exists_eq_left,exists_and_left,exists_eq',exists_eq,exists_false,exists_const,Nat.reduceSub,Nat.reduceAdd,Nat.reduceLT,Nat.zero_add,Nat.lt_add_left_iff_pos,decide_eq_true_eq,ite_true,ite_false,Bool.false_eq_true,if_true,if_false,Bool.not_eq_true',Bool.not_eq_true,decide_eq_false_iff_not,Int.zero_add,String.reduceBEq,Bool.true_and,Bool.and_true,Bool.or_false,Bool.false_or,Bool.or_true,Bool.true_or,Bool.and_false,Bool.false_and,Bool.not_true,Bool.not_false,id_eq,Sl.ctorIdx,Nat.succ_eq_add_one".splitOn ",").toArray.mapM fun s => `(Lean.Parser.Tactic.simpLemma| $(Lean.mkIdent s.toName):ident))
  `(tactic| simp only [$l,*])
local macro_rules | `(tactic| walk_at "dx") => `(tactic| (first | (with_reducible refine nx ?_; try walk_at "dd") | walk_at "dd"); repeat (with_reducible refine nx ?_; try walk_at "dd"))
def top (i : Nat) : Stmt := PySem.Challenge.pw_windround_k03_days_are_gone.main.body.getD i (.Pass ⟨0, 0, 0, 0⟩)
section
variable {P : Program} {w : World} {K : PySem.W.Frag} {mg : Str → Option Value} {base : Heap}
abbrev s__law_pop : Stmt := top 18
theorem sc__law_pop : FnScope ["_law_draws_here"] ["_law_draws_here"] (defScope s__law_pop) := ⟨rfl, rfl, rfl, by decide +kernel, rfl, by decide +kernel, by decide +kernel⟩
def popV (ds : List Int) : Int := ds.getLastD 0
def spPop : DSp := fun ss R => ∃ ds : List Int, ss = [.io (li ds)] ∧ R (.fr (.int (popV ds))) [.io (li ds.dropLast)]
theorem eqv_li (a b : List Int) : PyData.eqv (.list (li a)) (.list (li b)) = decide (a = b) := eqv_I a b
theorem last_li {ds : List Int} (h : ds ≠ []) : (li ds).getLast? = some (.int (popV ds)) := by
  unfold popV
  rw [List.getLast?_map, List.getLastD_eq_getLast?]
  cases e : ds.getLast? with
  | none => exact absurd (List.getLast?_eq_none_iff.mp e) h
  | some x => rfl
theorem drop_li (ds : List Int) : (li ds).dropLast = li ds.dropLast := by simp [List.map_dropLast]
theorem bi__law_pop {f : Addr} {fd : FuncData} (F : Fun K "_law_pop" "_law_pop" s__law_pop f fd) : Binds K fd ["_law_draws_here"] [] := F.binds (ps := ["_law_draws_here"]) fun _ _ _ _ _ _ us hl => us1 (Q := fun us => bindArgs _ ⟨us, []⟩ = pure (List.zip _ us)) hl fun _ => rfl
theorem ok__law_pop {f : Addr} {fd : FuncData} (F : Fun K "_law_pop" "_law_pop" s__law_pop f fd) (B : Bn mg) : FnOk P w K mg base CX0 1 f fd ["_law_draws_here"] (spD K spPop) := by
  refine okD (k := 0) F sc__law_pop (fun ss R h => ?_) (by decide) (fun cdv A outer s H E hr => ⟨_, (qs_cons (q_if (qt_cmp (kEqD (K := K) rfl hr.units) mEq (qv 0) (q_lst qa_nil) (nomark _)) (qs_one (q_ret q_int)) qs_nil)
      (qs_one (q_ret (q_pop 0 (K := K) rfl rfl)))), fun ss R h => ?_⟩)
  · obtain ⟨ds, rfl, _⟩ := h
    rfl
  obtain ⟨ds, rfl, q⟩ := h
  walk_at "dd"
  refine ⟨Nat.zero_le _, (Sh.ints 0 ds).shp (by decide), (Sh.ints 0 []).shp (by decide), ?_⟩
  rw [show PyData.list [] = PyData.list (li []) from rfl, eqv_li]
  by_cases e : ds = []
  · subst e
    rw [if_pos (by simp)]
    exact q
  · rw [if_neg (by simp [e])]
    exact ⟨_, last_li e, by rw [drop_li]; exact q⟩
theorem cut_li (ns : List Int) (a b : Option Int) : cutD (li ns) a b = li ((ns.drop (HT.sIx ns.length 0 a)).take (HT.sIx ns.length ns.length b - HT.sIx ns.length 0 a)) := by
  unfold cutD
  show (List.drop _ (List.map PyData.int ns)).take _ = List.map PyData.int _
  rw [List.length_map, List.map_take, List.map_drop]
theorem cut_from (ns : List Int) (c : Nat) : cutD (li ns) (some (c : Int)) none = li (ns.drop c) := by
  rw [cut_li, HT.sIx_none, HT.sIx_nat]
  by_cases h : c ≤ ns.length
  · rw [Nat.min_eq_left h, List.take_of_length_le (by simp)]
  · rw [Nat.min_eq_right (by omega), List.drop_of_length_le (Nat.le_refl _), List.drop_of_length_le (by omega)]
    simp
def RB (rs : List (List Int)) : Prop := rs.length ≤ 1000 ∧ ∀ r ∈ rs, r.length ≤ 1000
theorem getD_memL {l : List (List Int)} {k : Nat} (h : k < l.length) : l.getD k [] ∈ l := by
  rw [List.getD_eq_getElem?_getD, List.getElem?_eq_getElem h]
  exact List.getElem_mem h
abbrev s__law_mix : Stmt := top 16
theorem sc__law_mix : FnScope ["_law_cell", "_law_turn", "_law_number"] ["_law_cell", "_law_turn"] (defScope s__law_mix) := ⟨rfl, rfl, rfl, by decide +kernel, rfl, by decide +kernel, by decide +kernel⟩
def spMix : DSp := fun ss R => ∃ c t : Int, ss = [.fr (.int c), .fr (.int t)] ∧ 0 ≤ t ∧ t < 100000 ∧ ∀ x : Int, 0 ≤ x → x < 2147483648 → R (.fr (.int x)) [.un, .un]
theorem bi__law_mix {f : Addr} {fd : FuncData} (F : Fun K "_law_mix" "_law_mix" s__law_mix f fd) : Binds K fd ["_law_cell", "_law_turn"] [] := F.binds (ps := ["_law_cell", "_law_turn"]) fun _ _ _ _ _ _ us hl => us2 (Q := fun us => bindArgs _ ⟨us, []⟩ = pure (List.zip _ us)) hl fun _ _ => rfl
theorem ok__law_mix {f : Addr} {fd : FuncData} (F : Fun K "_law_mix" "_law_mix" s__law_mix f fd) (B : Bn mg) : FnOk P w K mg base CX0 1 f fd ["_law_cell", "_law_turn"] (spD K spMix) := by
  refine okD (k := 0) F sc__law_mix (fun ss R h => ?_) (by decide) (fun cdv A outer s H E hr => ⟨_, (qs_cons (q_set (i := 2) sc__law_mix.nd rfl (Or.inl rfl) (q_op op_mod mIC (q_op op_mul mIC (q_op op_add mI (q_op op_add mI (q_op op_mod mIC (qv 0) q_int) (q_op op_mul mIC (q_op op_mul mIC (qv 1) (qv 1)) q_int)) q_int) q_int) q_int))
      (qs_one (q_ret (q_op op_mod mIC (q_op op_add mI (q_op op_mul mIC (qv 2) (qv 2)) (q_op op_mul mIC q_int (qv 1))) q_int)))), fun ss R h => ?_⟩)
  · obtain ⟨c, t, rfl, _⟩ := h
    rfl
  obtain ⟨c, t, rfl, h0, h1, q⟩ := h
  walk_at "dx"
  have a1 := Int.emod_nonneg ((c % 2147483647 + t * t * 7919 + 104729) * 48271) (show (2147483647 : Int) ≠ 0 by decide)
  have a2 := Int.emod_lt_of_pos ((c % 2147483647 + t * t * 7919 + 104729) * 48271) (show (0 : Int) < 2147483647 by decide)
  refine ⟨by decide, cmul_l (by omega) (by omega), cmul_r (by decide) (by decide), cmul_r (by decide) (by decide), by decide, ?_⟩
  have b1 := Int.emod_nonneg ((c % 2147483647 + t * t * 7919 + 104729) * 48271 % 2147483647 * ((c % 2147483647 + t * t * 7919 + 104729) * 48271 % 2147483647) + 69621 * t) (show (2147483629 : Int) ≠ 0 by decide)
  have b2 := Int.emod_lt_of_pos ((c % 2147483647 + t * t * 7919 + 104729) * 48271 % 2147483647 * ((c % 2147483647 + t * t * 7919 + 104729) * 48271 % 2147483647) + 69621 * t) (show (0 : Int) < 2147483629 by decide)
  exact ⟨cmul_l (by omega) (by omega), cmul_l (by decide) (by decide), by decide, q _ b1 (by omega)⟩
abbrev s__law_draws : Stmt := top 17
theorem sc__law_draws : FnScope ["_law_script", "_law_turn", "_law_many", "_law_cells", "_law_found", "_law_k", "_law_at", "_law_number", "_law_cell"] ["_law_script", "_law_turn", "_law_many"] (defScope s__law_draws) := ⟨rfl, rfl, rfl, by decide +kernel, rfl, by decide +kernel, by decide +kernel⟩
def Ds (l : List Int) : Prop := ∀ x ∈ l, 0 ≤ x ∧ x < 2147483648
theorem Ds.app {l : List Int} {x : Int} (h : Ds l) (h0 : 0 ≤ x) (h1 : x < 2147483648) : Ds (l ++ [x]) := fun y hy => by
  rcases List.mem_append.mp hy with hy | hy
  · exact h y hy
  · rw [List.mem_singleton.mp hy]; exact ⟨h0, h1⟩
theorem Ds.drop {l : List Int} (h : Ds l) : Ds l.dropLast := fun x hx => h x (mem_dropLast hx)
theorem Ds.pop {l : List Int} (h : Ds l) : 0 ≤ popV l ∧ popV l < 2147483648 := by
  unfold popV
  rw [List.getLastD_eq_getLast?]
  cases e : l.getLast? with
  | none => exact ⟨Int.le_refl 0, by decide⟩
  | some x => exact h x (List.mem_of_getLast? e)
def spDraws : DSp := fun ss R => ∃ (ns : List Int) (t m : Nat), ss = [.fr (.list (li ns)), .fr (.int t), .fr (.int m)] ∧ ns.length ≤ 63 ∧ t ≤ 5000 ∧ m ≤ 5000 ∧ ∀ l, Ds l → R (.ow (li l)) [.un, .un, .un]
theorem cut63 (ns : List Int) (h : ns.length ≤ 63) : cutD (li ns) none (some 63) = li ns := by
  unfold cutD
  have e : HT.sIx (li ns).length (li ns).length (some 63) = min 63 (li ns).length := HT.sIx_nat _ _ 63
  rw [e, HT.sIx_none, List.length_map, List.drop_zero, Nat.sub_zero, Nat.min_eq_right h]
  exact List.take_of_length_le (by simp)
theorem bi__law_draws {f : Addr} {fd : FuncData} (F : Fun K "_law_draws" "_law_draws" s__law_draws f fd) : Binds K fd ["_law_script", "_law_turn", "_law_many"] [] := F.binds (ps := ["_law_script", "_law_turn", "_law_many"]) fun _ _ _ _ _ _ us hl => us3 (Q := fun us => bindArgs _ ⟨us, []⟩ = pure (List.zip _ us)) hl fun _ _ _ => rfl
theorem ok__law_draws {f : Addr} {fd : FuncData} (F : Fun K "_law_draws" "_law_draws" s__law_draws f fd) (B : Bn mg) (G__law_mix : Cal P w K mg base "_law_mix" 1 (spD K spMix)) : FnOk P w K mg base CX0 2 f fd ["_law_script", "_law_turn", "_law_many"] (spD K spDraws) := by
  refine okD (k := 1) F sc__law_draws (fun ss R h => ?_) (by decide) (fun cdv A outer s H E hr => ⟨_, (qs_bar (q_set (i := 3) sc__law_draws.nd rfl (Or.inr rfl) (q_opL (op_catS (K := K) rfl) mCat (q_slL (K := K) rfl (qv 0) qo_none (qo_some q_int)) (q_lst (qa_cons (qf 1) qa_nil))))
      (qs_bar (q_if (qt_cmp op_eq mEqI (q_op op_mod mIC (q_op op_fdiv mIC (q_ix (ix_any (K := K) rfl) mIx (qv 3) q_int (fun _ _ => rfl)) q_int) q_int) q_int (nomark _)) (qs_bar (q_set (i := 4) sc__law_draws.nd rfl (Or.inl rfl) (q_lst qa_nil))
      (qs_bar (q_for PassesOwn.never rfl (qi_rng1 rfl B.range (qa_cons (q_op op_add mI (q_op op_fdiv mIC (qv 1) q_int) (qv 2)) qa_nil)) (qg_name (i := 5) sc__law_draws.nd rfl (Or.inl rfl)) (qs_bar (q_set (i := 6) sc__law_draws.nd rfl (Or.inl rfl) (q_op op_mod mIC (qv 5) (q_cb (kLen (K := K) rfl) mLen rfl B.len PySem.boot_len (qa_cons (qv 3) qa_nil))))
      (qs_bar (q_expr (q_app 4 (K := K) rfl rfl (q_op op_mod mIC (q_ix (ix_any (K := K) rfl) mIx (qv 3) (qv 6) (fun _ _ => rfl)) q_int)))
      (qs_one (q_setIx 3 rfl (qv 6) (q_op op_fdiv mIC (q_ix (ix_any (K := K) rfl) mIx (qv 3) (qv 6) (fun _ _ => rfl)) q_int))))))
      (qs_one (q_ret (q_slL (K := K) rfl (qv 4) (qo_some (q_op op_fdiv mIC (qv 1) q_int)) qo_none))))) qs_nil)
      (qs_bar (q_set (i := 7) sc__law_draws.nd rfl (Or.inr rfl) (qf 1))
      (qs_bar (q_for PassesOwn.never rfl (qi_enum false (K := K) rfl rfl B.enumerate (qa_cons (qf 3) qa_nil)) (qg_tup (K := K) (n := 2) rfl rfl (qgs_cons (qg_name (i := 5) sc__law_draws.nd rfl (Or.inl rfl)) (qgs_cons (qg_name (i := 8) sc__law_draws.nd rfl (Or.inl rfl)) qgs_nil))) (qs_one (q_set (i := 7) sc__law_draws.nd rfl (Or.inr rfl) (q_op op_mod mIC (q_op op_add mI (q_op op_mul mIC (qv 7) q_int) (q_call G__law_mix (hr.mono (by decide)) rfl (qa_cons (qf 8) (qa_cons (q_op op_add mI (qv 5) (qv 1)) qa_nil)))) q_int))))
      (qs_one (q_ret (q_comp (N' := ["_law_k", "_law_turn", "_law_cells", "_law_number"]) (ix := [none, some 1, some 3, some 7]) rfl (bs_of (N := ["_law_script", "_law_turn", "_law_many", "_law_cells", "_law_found", "_law_k", "_law_at", "_law_number", "_law_cell"]) (sc0 := defScope s__law_draws) rfl rfl (by decide +kernel)) (qi_rng1 rfl B.range (qa_cons (qv 2) qa_nil)) (fun _ _ _ _ => (qg_name (i := 0) (show List.Nodup (["_law_k", "_law_turn", "_law_cells", "_law_number"] : List Str) by decide +kernel) rfl (Or.inl rfl))) (fun _ _ _ _ => qif_nil) (fun _ _ _ _ => (q_call G__law_mix (hr.mono (by decide)) rfl (qa_cons (q_ix (ix_any (K := K) rfl) mIx (qv 2) (q_op op_mod mIC (qv 0) (q_cb (kLen (K := K) rfl) mLen rfl B.len PySem.boot_len (qa_cons (qv 2) qa_nil))) (fun _ _ => rfl)) (qa_cons (q_op op_add mI (q_op op_add mI (q_op op_mod mIC (qv 3) q_int) (qv 0)) (qv 1)) qa_nil))))))))))), fun ss R h => ?_⟩)
  · obtain ⟨ns, t, m, rfl, _⟩ := h
    rfl
  obtain ⟨ns, t, m, rfl, h63, ht, hm, q⟩ := h
  walk_at "dx"
  rw [cut63 ns h63]
  have ec : li ns ++ [PyData.int (t : Int)] = li (ns ++ [(t : Int)]) := by simp
  rw [ec]
  obtain ⟨cs, hcs⟩ : ∃ cs : List Int, cs = ns ++ [(t : Int)] := ⟨_, rfl⟩
  have hlen : cs.length = ns.length + 1 := by rw [hcs]; simp
  rw [← hcs]
  refine ⟨Nat.le_trans (by decide) line_big, ?_, ?_⟩
  · rw [List.length_map]
    exact Nat.le_trans (by omega) line_big
  walk_at "dx"
  refine ⟨_, atI_li (k := 0) (by omega), ?_⟩
  walk_at "dx"
  refine ⟨⟨by decide, by decide⟩, by decide, ite2 (fun _ => ?_) (fun _ => ?_)⟩
  · have e4 : (t : Int) / 4 = ((t / 4 : Nat) : Int) := rfl
    refine ⟨Nat.zero_le _, ?_⟩
    walk_at "dx"
    refine ⟨⟨by decide, by decide⟩, by omega, by omega, fd_intro (fun i env => ∃ (fs ls : List Int) (kv av : Sl), env = [.fr (.list (li ns)), .fr (.int t), .fr (.int m), .ow (li ls), .ow (li fs), kv, av, .un, .un] ∧ ls.length = cs.length ∧ fs.length = i ∧ Ds fs) ⟨[], cs, _, _, rfl, rfl, rfl, fun x hx => by cases hx⟩ ?_ ?_⟩
    · rintro i env hi ⟨fs, ls, kv, av, rfl, hl, hf, hd⟩
      rw [rangeD_len] at hi
      rw [rangeD_get]
      have hmod : i % ls.length < ls.length := Nat.mod_lt _ (by omega)
      walk_at "dx"
      rw [List.length_map]
      have ei : ((i : Nat) : Int) % ((ls.length : Nat) : Int) = ((i % ls.length : Nat) : Int) := rfl
      rw [ei]
      refine ⟨by omega, ?_⟩
      walk_at "dx"
      refine ⟨_, atI_li hmod, ?_⟩
      walk_at "dx"
      refine ⟨by decide, by rw [List.length_map, hf]; exact Nat.lt_of_lt_of_le (by omega) line_big, ?_⟩
      walk_at "dx"
      refine ⟨_, atI_li hmod, ?_⟩
      walk_at "dx"
      have b1 := Int.emod_nonneg (ls.getD (i % ls.length) 0) (show (1000003 : Int) ≠ 0 by decide)
      have b2 := Int.emod_lt_of_pos (ls.getD (i % ls.length) 0) (show (0 : Int) < 1000003 by decide)
      exact ⟨⟨by decide, by decide⟩, _, ixN_nat (by rw [List.length_map]; exact hmod), fs ++ [ls.getD (i % ls.length) 0 % 1000003], ls.set (i % ls.length) (ls.getD (i % ls.length) 0 / 1000003), li_set _ _ _, by simp, by rw [List.length_set]; exact hl, by simp [hf], hd.app b1 (by omega)⟩
    · rintro env ⟨fs, ls, kv, av, rfl, hl, hf, hd⟩
      walk_at "dx"
      rw [e4, cut_from]
      exact ⟨⟨by decide, by decide⟩, q _ fun x hx => hd x (List.mem_of_mem_drop hx)⟩
  · walk_at "dx"
    refine fd_intro (fun i env => ∃ (n : Int) (kv cv : Sl), env = [.fr (.list (li ns)), .fr (.int t), .fr (.int m), .fr (.list (li cs)), .un, kv, .un, .fr (.int n), cv] ∧ 0 ≤ n ∧ n < 2147483648) ⟨t, _, _, rfl, by omega, by omega⟩ ?_ ?_
    · rintro i env hi ⟨n, kv, cv, rfl, n0, n1⟩
      rw [enumD_get, li_get]
      rw [enumD_len, List.length_map] at hi
      walk_at "dx"
      refine ⟨cmul_l (by omega +splitDisjunctions) (by omega +splitDisjunctions), _, _, rfl, by omega +splitDisjunctions, by omega +splitDisjunctions, fun x x0 x1 => ?_⟩
      walk_at "dx"
      have b1 := Int.emod_nonneg (n * 31 + x) (show (2147483629 : Int) ≠ 0 by decide)
      have b2 := Int.emod_lt_of_pos (n * 31 + x) (show (0 : Int) < 2147483629 by decide)
      exact ⟨by decide, b1, by omega⟩
    · rintro env ⟨n, kv, cv, rfl, n0, n1⟩
      walk_at "dx"
      refine ⟨by omega +splitDisjunctions, by omega +splitDisjunctions, cd_all (fun d => ∃ x : Int, d = .int x ∧ 0 ≤ x ∧ x < 2147483648) (by rw [rangeD_len]; omega) (fun i hi Q hQ => ?_) fun rs _ hrs => ?_⟩
      · rw [rangeD_len] at hi
        rw [rangeD_get]
        walk_at "dx"
        rw [List.length_map]
        have hmod : i % cs.length < cs.length := Nat.mod_lt _ (by omega)
        rw [show ((i : Nat) : Int) % ((cs.length : Nat) : Int) = ((i % cs.length : Nat) : Int) from rfl]
        have b1 := Int.emod_nonneg n (show (1009 : Int) ≠ 0 by decide)
        have b2 := Int.emod_lt_of_pos n (show (0 : Int) < 1009 by decide)
        refine ⟨by omega, _, atI_li hmod, by decide, _, _, rfl, by omega, by omega, fun x x0 x1 => ?_⟩
        walk_at "dx"
        exact hQ _ ⟨x, rfl, x0, x1⟩
      · obtain ⟨l, rfl, hl⟩ := all_ints hrs
        walk_at "dx"
        exact q l hl
abbrev s__law_town : Stmt := top 21
theorem sc__law_town : FnScope ["_law_draws_here", "_law_most", "_law_number", "_law_hands", "_law_left", "_law_spans", "_law_k"] ["_law_draws_here", "_law_most"] (defScope s__law_town) := ⟨rfl, rfl, rfl, by decide +kernel, rfl, by decide +kernel, by decide +kernel⟩
def TB (s o : List Int) : Prop := 1 ≤ s.length ∧ s.length ≤ 6 ∧ 1 ≤ o.length ∧ o.length ≤ 6 ∧ (∀ x ∈ s, 1 ≤ x ∧ x ≤ 12) ∧ (∀ x ∈ o, 0 ≤ x ∧ x ≤ 6) ∧ (s.length ≤ 4 ∨ ∀ x ∈ o, x ≤ 2)
def spTown : DSp := fun ss R => ∃ (l : List Int) (m : Nat), ss = [.io (li l), .fr (.int m)] ∧ Ds l ∧ 6 ≤ m ∧ m ≤ 100000 ∧ ∀ s o l' : List Int, Ds l' → TB s o → R (.fr (.tuple [.list (li s), .list (li o)])) [.io (li l'), .un]
theorem atI_snoc {α : Type} (xs : List α) (v : α) : atI (xs ++ [v]) (-1) = some v := by
  unfold atI ixN
  rw [if_neg (by decide), if_pos (by rw [List.length_append]; simp; omega)]
  show (xs ++ [v])[(-1 + ((xs ++ [v]).length : Int)).toNat]? = some v
  rw [show (-1 + ((xs ++ [v]).length : Int)).toNat = xs.length by rw [List.length_append]; simp; omega]
  simp
theorem bi__law_town {f : Addr} {fd : FuncData} (F : Fun K "_law_town" "_law_town" s__law_town f fd) : Binds K fd ["_law_draws_here", "_law_most"] [] := F.binds (ps := ["_law_draws_here", "_law_most"]) fun _ _ _ _ _ _ us hl => us2 (Q := fun us => bindArgs _ ⟨us, []⟩ = pure (List.zip _ us)) hl fun _ _ => rfl
theorem ok__law_town {f : Addr} {fd : FuncData} (F : Fun K "_law_town" "_law_town" s__law_town f fd) (B : Bn mg) (G__law_pop : Cal P w K mg base "_law_pop" 1 (spD K spPop)) : FnOk P w K mg base CX0 2 f fd ["_law_draws_here", "_law_most"] (spD K spTown) := by
  refine okD (k := 1) F sc__law_town (fun ss R h => ?_) (by decide) (fun cdv A outer s H E hr => ⟨_, (qs_bar (q_set (i := 2) sc__law_town.nd rfl (Or.inl rfl) (q_callS 0 G__law_pop (hr.mono (by decide)) rfl (qa_cons (qv 0) qa_nil)))
      (qs_bar (q_setComp1 (i := 3) 1 0 rfl sc__law_town.nd rfl rfl (N' := ["_law_k", "_law_draws_here"]) (ix := [none, some 0]) rfl (bs_of (N := ["_law_draws_here", "_law_most", "_law_number", "_law_hands", "_law_left", "_law_spans", "_law_k"]) (sc0 := defScope s__law_town) rfl rfl (by decide +kernel)) (qi_rng1 rfl B.range (qa_cons (q_op op_add mI q_int (q_op op_mod mIC (qv 2) q_int)) qa_nil)) (fun _ _ _ _ => (qg_name (i := 0) (show List.Nodup (["_law_k", "_law_draws_here"] : List Str) by decide +kernel) rfl (Or.inl rfl))) (fun _ _ _ _ => qif_nil) (fun _ _ _ _ => (q_op op_mod mIC (q_callS 0 G__law_pop (hr.mono (by decide)) rfl (qa_cons (qv 1) qa_nil)) q_int)))
      (qs_cut (q_if (qt_cmp op_gt mB (q_op op_mod mIC (q_op op_fdiv mIC (qv 2) q_int) q_int) q_int (nomark _)) (qs_one (q_setComp (i := 3)  sc__law_town.nd rfl rfl (N' := ["_law_one"]) (ix := [none]) rfl (bs_of (N := ["_law_draws_here", "_law_most", "_law_number", "_law_hands", "_law_left", "_law_spans", "_law_k"]) (sc0 := defScope s__law_town) rfl rfl (by decide +kernel)) (qi_list (K := K) rfl (qf 3)) (fun _ _ _ _ => (qg_name (i := 0) (show List.Nodup (["_law_one"] : List Str) by decide +kernel) rfl (Or.inl rfl))) (fun _ _ _ _ => qif_nil) (fun _ _ _ _ => (q_op op_add mI q_int (q_op op_mod mIC (qv 0) q_int))))) qs_nil)
      (qs_cut (q_if (qt_cmp op_eq mEqI (q_op op_mod mIC (q_op op_fdiv mIC (qv 2) q_int) q_int) q_int (nomark _)) (qs_one (q_setComp1 (i := 3) 1 0 rfl sc__law_town.nd rfl rfl (N' := ["_law_k", "_law_draws_here"]) (ix := [none, some 0]) rfl (bs_of (N := ["_law_draws_here", "_law_most", "_law_number", "_law_hands", "_law_left", "_law_spans", "_law_k"]) (sc0 := defScope s__law_town) rfl rfl (by decide +kernel)) (qi_rng1 rfl B.range (qa_cons (q_op op_add mI q_int (q_op op_mod mIC (q_op op_fdiv mIC (qv 2) q_int) q_int)) qa_nil)) (fun _ _ _ _ => (qg_name (i := 0) (show List.Nodup (["_law_k", "_law_draws_here"] : List Str) by decide +kernel) rfl (Or.inl rfl))) (fun _ _ _ _ => qif_nil) (fun _ _ _ _ => (q_op op_mod mIC (q_callS 0 G__law_pop (hr.mono (by decide)) rfl (qa_cons (qv 1) qa_nil)) q_int)))) qs_nil)
      (qs_bar (q_set (i := 4) sc__law_town.nd rfl (Or.inl rfl) (q_op op_fdiv mIC (qv 1) (q_cb (kLen (K := K) rfl) mLen rfl B.len PySem.boot_len (qa_cons (qv 3) qa_nil))))
      (qs_bar (q_set (i := 5) sc__law_town.nd rfl (Or.inl rfl) (q_lst qa_nil))
      (qs_bar (q_for PassesOwn.never rfl (qi_rng1 rfl B.range (qa_cons (q_op op_add mI q_int (q_op op_mod mIC (q_callS 0 G__law_pop (hr.mono (by decide)) rfl (qa_cons (qv 0) qa_nil)) (q_ix (ix_any (K := K) rfl) mIx (q_lst (qa_cons q_int (qa_cons q_int (qa_cons q_int qa_nil)))) (q_op op_mod mIC (q_op op_fdiv mIC (qv 2) q_int) q_int) (fun _ _ => rfl)))) qa_nil)) (qg_name (i := 6) sc__law_town.nd rfl (Or.inl rfl)) (qs_bar (q_expr (q_app 5 (K := K) rfl rfl (q_op op_add mI q_int (q_op op_mod mIC (q_callS 0 G__law_pop (hr.mono (by decide)) rfl (qa_cons (qv 0) qa_nil)) (q_cb (call_min2 rfl) mMin rfl B.min PyProof.Rows.boot_min (qa_cons q_int (qa_cons (qv 4) qa_nil)))))))
      (qs_one (q_set (i := 4) sc__law_town.nd rfl (Or.inl rfl) (q_op op_fdiv mIC (qv 4) (q_ix (ix_any (K := K) rfl) mIx (qv 5) (q_un un_neg mNeg q_int) (fun _ _ => rfl)))))))
      (qs_one (q_ret (q_tup (qa_cons (qf 5) (qa_cons (qf 3) qa_nil)))))))))))), fun ss R h => ?_⟩)
  · obtain ⟨l, m, rfl, _⟩ := h
    rfl
  obtain ⟨l, m, rfl, dl, hm0, hm, q⟩ := h
  walk_at "dx"
  refine ⟨l, rfl, ?_⟩
  walk_at "dx"
  have p0 := dl.pop
  have dl1 := dl.drop
  generalize popV l = num at *
  generalize l.dropLast = l1 at *
  refine ⟨by decide, by omega, by omega, fun i rs l => ∃ (hds l' : List Int), rs = li hds ∧ l = li l' ∧ hds.length = i ∧ Ds l' ∧ ∀ x ∈ hds, 0 ≤ x ∧ x ≤ 2, _, _, rfl, rfl, ⟨[], l1, rfl, rfl, rfl, dl1, by simp⟩, ?_, ?_⟩
  · rintro i rs l hi ⟨hds, l', rfl, rfl, hl, dl', hh⟩
    rw [rangeD_len] at hi
    rw [rangeD_get]
    refine ⟨by rw [List.length_map, hl]; exact Nat.lt_of_lt_of_le (by omega) line_big, _, rfl, ?_⟩
    walk_at "dx"
    refine ⟨l', rfl, ?_⟩
    walk_at "dx"
    refine ⟨by decide, hds ++ [popV l' % 3], by simp, l'.dropLast, rfl, by simp [hl], dl'.drop, fun x hx => ?_⟩
    rcases List.mem_append.mp hx with hx | hx
    · exact hh x hx
    · rw [List.mem_singleton.mp hx]; omega
  rintro rs l ⟨hds, l2, rfl, rfl, hl, dl2, hh⟩
  rw [rangeD_len] at hl
  refine ⟨_, rfl, ?_⟩
  walk_at "dx"
  refine ⟨fun env => ∃ hs : List Int, env = [.io (li l2), .fr (.int m), .fr (.int num), .ow (li hs), .un, .un, .un] ∧ 1 ≤ hs.length ∧ hs.length ≤ 6 ∧ ∀ x ∈ hs, 0 ≤ x ∧ x ≤ 2, ?_, ?_⟩
  · walk_at "dx"
    refine ⟨⟨by decide, by decide⟩, by decide, ite2 (fun _ => ?_) (fun _ => ⟨hds, rfl, by omega, by omega, hh⟩)⟩
    refine cd_all (fun d => ∃ x : Int, d = .int x ∧ 0 ≤ x ∧ x ≤ 2) (by rw [List.length_map]; omega) (fun i hi Q hQ => ?_) fun rs hl2 hrs => ?_
    · rw [li_get]
      walk_at "dx"
      exact ⟨by decide, hQ _ ⟨_, rfl, by omega, by omega⟩⟩
    · obtain ⟨hs, rfl, hhs⟩ := all_ints hrs
      walk_at "dx"
      rw [List.length_map, List.length_map] at hl2
      exact ⟨hs, rfl, by omega, by omega, hhs⟩
  rintro env ⟨hs, rfl, h1, h6, hhs⟩
  refine ⟨fun env => ∃ (hs l3 : List Int), env = [.io (li l3), .fr (.int m), .fr (.int num), .ow (li hs), .un, .un, .un] ∧ Ds l3 ∧ 1 ≤ hs.length ∧ hs.length ≤ 6 ∧ (∀ x ∈ hs, 0 ≤ x ∧ x ≤ 6) ∧ (num / 27 % 3 = 1 ∨ ∀ x ∈ hs, x ≤ 2), ?_, ?_⟩
  · walk_at "dx"
    refine ⟨⟨by decide, by decide⟩, by decide, ite2 (fun c4 => ?_) (fun _ => ⟨hs, l2, rfl, rfl, dl2, h1, h6, fun x hx => by have := hhs x hx; omega, .inr fun x hx => (hhs x hx).2⟩)⟩
    refine ⟨⟨by decide, by decide⟩, by decide, by omega, by omega, fun i rs l => ∃ (hds l' : List Int), rs = li hds ∧ l = li l' ∧ hds.length = i ∧ Ds l' ∧ ∀ x ∈ hds, 0 ≤ x ∧ x ≤ 6, _, _, rfl, rfl, ⟨[], l2, rfl, rfl, rfl, dl2, by simp⟩, ?_, ?_⟩
    · rintro i rs l hi ⟨hds, l', rfl, rfl, hl, dl', hh⟩
      rw [rangeD_len] at hi
      rw [rangeD_get]
      refine ⟨by rw [List.length_map, hl]; exact Nat.lt_of_lt_of_le (by omega) line_big, _, rfl, ?_⟩
      walk_at "dx"
      refine ⟨l', rfl, ?_⟩
      walk_at "dx"
      refine ⟨by decide, hds ++ [popV l' % 7], by simp, l'.dropLast, rfl, by simp [hl], dl'.drop, fun x hx => ?_⟩
      rcases List.mem_append.mp hx with hx | hx
      · exact hh x hx
      · rw [List.mem_singleton.mp hx]; omega
    rintro rs l ⟨hd2, l3, rfl, rfl, hl, dl3, hh⟩
    rw [rangeD_len] at hl
    refine ⟨_, rfl, ?_⟩
    walk_at "dx"
    exact ⟨hd2, l3, rfl, rfl, dl3, by omega, by omega, hh, .inl (by omega)⟩
  rintro env ⟨hs, l3, rfl, dl3, h1, h6, hh6, h27⟩
  walk_at "dx"
  rw [List.length_map]
  obtain ⟨c, ec, c3, c6, c4⟩ : ∃ c : Int, atI [PyData.int 3, PyData.int 4, PyData.int 6] (num / 27 % 3) = some (.int c) ∧ 3 ≤ c ∧ c ≤ 6 ∧ (num / 27 % 3 = 1 → c = 4) := by
    have : num / 27 % 3 = 0 ∨ num / 27 % 3 = 1 ∨ num / 27 % 3 = 2 := by omega
    rcases this with e | e | e
    · rw [e]; exact ⟨3, rfl, by decide, by decide, by decide⟩
    · rw [e]; exact ⟨4, rfl, by decide, by decide, fun _ => rfl⟩
    · rw [e]; exact ⟨6, rfl, by decide, by decide, by decide⟩
  have hp := dl3.pop
  have hd4 := dl3.drop
  refine ⟨⟨by omega +splitDisjunctions, by omega +splitDisjunctions⟩, ?_⟩
  walk_at "dx"
  refine ⟨Nat.zero_le _, ?_⟩
  walk_at "dx"
  refine ⟨l3, rfl, ?_⟩
  walk_at "dx"
  refine ⟨Nat.le_trans (by decide) line_big, ⟨by decide, by decide⟩, by decide, _, ec, _, rfl, by omega +splitDisjunctions, ?_⟩
  generalize popV l3 = p3 at *
  generalize l3.dropLast = l4 at *
  have u0 := Int.emod_nonneg p3 (show c ≠ 0 by omega)
  have u1 := Int.emod_lt_of_pos p3 (show 0 < c by omega)
  have m1 : 1 ≤ (m : Int) / (hs.length : Int) := by
    rw [Int.le_ediv_iff_mul_le (by omega)]
    omega
  refine ⟨by omega, by omega, fd_intro (fun i env => ∃ (l sp : List Int) (left : Int) (kv : Sl), env = [.io (li l), .fr (.int m), .fr (.int num), .ow (li hs), .fr (.int left), .ow (li sp), kv] ∧ Ds l ∧ sp.length = i ∧ 1 ≤ left ∧ ∀ x ∈ sp, 1 ≤ x ∧ x ≤ 12) ⟨l4, [], _, _, rfl, hd4, rfl, m1, by simp⟩ ?_ ?_⟩
  · rintro i env hi ⟨l, sp, left, kv, rfl, dl, hl, l1, hsp⟩
    rw [rangeD_len] at hi
    rw [rangeD_get]
    walk_at "dx"
    refine ⟨l, rfl, ?_⟩
    walk_at "dx"
    have dl' := dl.drop
    generalize popV l = p at *
    generalize l.dropLast = l5 at *
    obtain ⟨w, hw⟩ : ∃ w : Int, w = if left < 12 then left else 12 := ⟨_, rfl⟩
    rw [← hw]
    have w1 : 1 ≤ w ∧ w ≤ 12 ∧ w ≤ left := by
      rw [hw]
      split <;> omega
    have y0 := Int.emod_nonneg p (show w ≠ 0 by omega)
    have y1 := Int.emod_lt_of_pos p (show 0 < w by omega)
    generalize p % w = y at *
    refine ⟨by omega, by rw [List.length_map, hl]; exact Nat.lt_of_lt_of_le (by omega) line_big, ?_⟩
    walk_at "dx"
    refine ⟨_, atI_snoc _ _, _, rfl, ⟨by omega, by omega⟩, l5, rfl, sp ++ [1 + y], by simp, dl', by simp [hl], ?_, fun x hx => ?_⟩
    · rw [Int.le_ediv_iff_mul_le (by omega)]
      omega
    · rcases List.mem_append.mp hx with hx | hx
      · exact hsp x hx
      · rw [List.mem_singleton.mp hx]; omega
  · rintro env ⟨l, sp, left, kv, rfl, dl, hl, l1, hsp⟩
    rw [rangeD_len] at hl
    walk_at "dx"
    refine ⟨Nat.le_trans (by decide) line_big, q sp hs l dl ⟨by omega, by omega, h1, h6, hsp, hh6, ?_⟩⟩
    rcases h27 with h | h
    · have := c4 h
      exact .inl (by omega)
    · exact .inr h
def subs : Nat → List (List Int)
  | 0 => [[]]
  | k + 1 => subs k ++ (subs k).map (· ++ [(k : Int)])
def dueL (l : List Int) (n : Nat) : List Int := ((List.range n).filter fun i => decide (l.getD i 0 = 1)).map (Nat.cast : Nat → Int)
def goodR (h : Int) (due r : List Int) : Bool := decide ((r.length : Int) ≤ h) && decide ((due.filter fun c => decide (c ∉ r)) = [])
def fitR (n : Nat) (h : Int) (l : List Int) : List (List Int) := (subs n).filter (goodR h (dueL l n))
def keyR (r : List Int) : PyData := .tuple [.int r.length, .list (li r)]
theorem subs_len : ∀ n, (subs n).length = 2 ^ n
  | 0 => rfl
  | n + 1 => by
    show (subs n ++ (subs n).map _).length = _
    rw [List.length_append, List.length_map, subs_len n, Nat.pow_succ]
    omega
theorem subs_row : ∀ n, ∀ r ∈ subs n, r.length ≤ n ∧ r.Pairwise (· < ·) ∧ ∀ x ∈ r, 0 ≤ x ∧ x < n
  | 0, r, h => by
    rw [List.mem_singleton.mp h]
    simp
  | n + 1, r, h => by
    rcases List.mem_append.mp h with h | h
    · obtain ⟨a, b, c⟩ := subs_row n r h
      exact ⟨by omega, b, fun x hx => by have := c x hx; omega⟩
    · obtain ⟨r', h', rfl⟩ := List.mem_map.mp h
      obtain ⟨a, b, c⟩ := subs_row n r' h'
      refine ⟨by simp; omega, List.pairwise_append.mpr ⟨b, by simp, fun x hx y hy => ?_⟩, fun x hx => ?_⟩
      · rw [List.mem_singleton.mp hy]
        have := c x hx
        omega
      · rcases List.mem_append.mp hx with hx | hx
        · have := c x hx; omega
        · rw [List.mem_singleton.mp hx]; omega
theorem filter_le_of {α : Type} {p q : α → Bool} (h : ∀ x, p x = true → q x = true) : ∀ l : List α, (l.filter p).length ≤ (l.filter q).length
  | [] => Nat.le_refl _
  | x :: l => by
    have ih := filter_le_of h l
    by_cases hp : p x = true
    · rw [List.filter_cons_of_pos hp, List.filter_cons_of_pos (h x hp)]
      simpa using ih
    · rw [List.filter_cons_of_neg hp]
      by_cases hq : q x = true
      · rw [List.filter_cons_of_pos hq]; simp; omega
      · rw [List.filter_cons_of_neg hq]; exact ih
theorem fit_few {n : Nat} {h : Int} {l : List Int} (hn : n ≤ 6) (hh : n ≤ 4 ∨ h ≤ 3) : (fitR n h l).length < 64 := by
  rcases hh with h4 | h2
  · have a := List.length_filter_le (goodR h (dueL l n)) (subs n)
    rw [subs_len] at a
    have : 2 ^ n ≤ 2 ^ 4 := Nat.pow_le_pow_right (by decide) h4
    unfold fitR
    omega
  · have a : (fitR n h l).length ≤ ((subs n).filter fun r => decide (r.length ≤ 3)).length := filter_le_of (fun r hr => by
      unfold goodR at hr
      rw [Bool.and_eq_true, decide_eq_true_eq] at hr
      rw [decide_eq_true_eq]
      omega) _
    have b : ∀ n : Nat, n ≤ 6 → ((subs n).filter fun r => decide (r.length ≤ 3)).length ≤ 42 := by
      intro n hn
      match n, hn with
      | 0, _ => decide
      | 1, _ => decide
      | 2, _ => decide
      | 3, _ => decide
      | 4, _ => decide
      | 5, _ => decide +kernel
      | 6, _ => decide +kernel
    have := b n hn
    omega
theorem getD_mem' {l : List Int} {k : Nat} (h : k < l.length) : l.getD k 0 ∈ l := by
  rw [List.getD_eq_getElem?_getD, List.getElem?_eq_getElem h]
  exact List.getElem_mem h
def StB (s o : List Int) (d : Nat) (l : List Int) : Prop := d < o.length ∧ l.length = s.length
abbrev s__law_rows : Stmt := top 23
theorem sc__law_rows : FnScope ["_law_town_here", "_law_standing_here", "_law_found", "_law_clocks", "_law_due", "_law_rows_here", "_law_clock", "_law_row"] ["_law_town_here", "_law_standing_here"] (defScope s__law_rows) := ⟨rfl, rfl, rfl, by decide +kernel, rfl, by decide +kernel, by decide +kernel⟩
def spRows : DSp := fun ss R => ∃ (s o l : List Int) (d : Nat), ss = [.fr (.tuple [.list (li s), .list (li o)]), .fr (.tuple [.int d, .tuple (li l)])] ∧ TB s o ∧ StB s o d l ∧
  ∀ rr : List (List Int), rr.Perm (fitR s.length (o.getD d 0) l) → R (.ow (lr rr)) [.un, .un]
theorem bi__law_rows {f : Addr} {fd : FuncData} (F : Fun K "_law_rows" "_law_rows" s__law_rows f fd) : Binds K fd ["_law_town_here", "_law_standing_here"] [] := F.binds (ps := ["_law_town_here", "_law_standing_here"]) fun _ _ _ _ _ _ us hl => us2 (Q := fun us => bindArgs _ ⟨us, []⟩ = pure (List.zip _ us)) hl fun _ _ => rfl
theorem ok__law_rows {f : Addr} {fd : FuncData} (F : Fun K "_law_rows" "_law_rows" s__law_rows f fd) (B : Bn mg) : FnOk P w K mg base CX0 1 f fd ["_law_town_here", "_law_standing_here"] (spD K spRows) := by
  refine okD (k := 0) F sc__law_rows (fun ss R h => ?_) (by decide) (fun cdv A outer s H E hr => ⟨_, (qs_bar (q_set (i := 2) sc__law_rows.nd rfl (Or.inl rfl) (q_lst qa_nil))
      (qs_bar (q_setComp (i := 3)  sc__law_rows.nd rfl rfl (N' := ["_law_clock"]) (ix := [none]) rfl (bs_of (N := ["_law_town_here", "_law_standing_here", "_law_found", "_law_clocks", "_law_due", "_law_rows_here", "_law_clock", "_law_row"]) (sc0 := defScope s__law_rows) rfl rfl (by decide +kernel)) (qi_rng1 rfl B.range (qa_cons (q_cb (kLen (K := K) rfl) mLen rfl B.len PySem.boot_len (qa_cons (q_ix (ix_any (K := K) rfl) mIx (qv 0) q_int (fun _ _ => rfl)) qa_nil)) qa_nil)) (fun _ _ _ _ => (qg_name (i := 0) (show List.Nodup (["_law_clock"] : List Str) by decide +kernel) rfl (Or.inl rfl))) (fun _ _ _ _ => qif_nil) (fun _ _ _ _ => (qf 0)))
      (qs_bar (q_setComp (i := 4)  sc__law_rows.nd rfl rfl (N' := ["_law_clock", "_law_standing_here"]) (ix := [none, some 1]) rfl (bs_of (N := ["_law_town_here", "_law_standing_here", "_law_found", "_law_clocks", "_law_due", "_law_rows_here", "_law_clock", "_law_row"]) (sc0 := defScope s__law_rows) rfl rfl (by decide +kernel)) (qi_list (K := K) rfl (qf 3)) (fun _ _ _ _ => (qg_name (i := 0) (show List.Nodup (["_law_clock", "_law_standing_here"] : List Str) by decide +kernel) rfl (Or.inl rfl))) (fun _ _ _ _ => (qif_one (qt_cmp op_eq mEqI (q_ix (ix_any (K := K) rfl) mIx (q_ix (ix_any (K := K) rfl) mIx (qv 1) q_int (fun _ _ => rfl)) (qv 0) (fun _ _ => rfl)) q_int (nomark _)))) (fun _ _ _ _ => (qf 0)))
      (qs_bar (q_set (i := 5) sc__law_rows.nd rfl (Or.inl rfl) (q_lst (qa_cons (q_lst qa_nil) qa_nil)))
      (qs_bar (q_for PassesOwn.never rfl (qi_list (K := K) rfl (qf 3)) (qg_name (i := 6) sc__law_rows.nd rfl (Or.inr rfl)) (qs_one (q_set (i := 5) sc__law_rows.nd rfl (Or.inl rfl) (q_opL (op_catS (K := K) rfl) mCat (qv 5) (q_comp (N' := ["_law_row", "_law_clock"]) (ix := [none, some 6]) rfl (bs_of (N := ["_law_town_here", "_law_standing_here", "_law_found", "_law_clocks", "_law_due", "_law_rows_here", "_law_clock", "_law_row"]) (sc0 := defScope s__law_rows) rfl rfl (by decide +kernel)) (qi_list (K := K) rfl (qf 5)) (fun _ _ _ _ => (qg_name (i := 0) (show List.Nodup (["_law_row", "_law_clock"] : List Str) by decide +kernel) rfl (Or.inl rfl))) (fun _ _ _ _ => qif_nil) (fun _ _ _ _ => (q_opL (op_catS (K := K) rfl) mCat (qv 0) (q_lst (qa_cons (qf 1) qa_nil)))))))))
      (qs_bar (q_for PassesOwn.never rfl (qi_list (K := K) rfl (qf 5)) (qg_name (i := 7) sc__law_rows.nd rfl (Or.inr rfl)) (qs_one (q_if (PW.pt (qw_and (qt_cmp op_le mB (q_cb (kLen (K := K) rfl) mLen rfl B.len PySem.boot_len (qa_cons (qv 7) qa_nil)) (q_ix (ix_any (K := K) rfl) mIx (q_ix (ix_any (K := K) rfl) mIx (qv 0) q_int (fun _ _ => rfl)) (q_ix (ix_any (K := K) rfl) mIx (qv 1) q_int (fun _ _ => rfl)) (fun _ _ => rfl)) (nomark _)) (qw_and1 (qt_cmp (kEqD (K := K) rfl hr.units) mEq (q_comp (N' := ["_law_clock", "_law_row"]) (ix := [none, some 7]) rfl (bs_of (N := ["_law_town_here", "_law_standing_here", "_law_found", "_law_clocks", "_law_due", "_law_rows_here", "_law_clock", "_law_row"]) (sc0 := defScope s__law_rows) rfl rfl (by decide +kernel)) (qi_list (K := K) rfl (qf 4)) (fun _ _ _ _ => (qg_name (i := 0) (show List.Nodup (["_law_clock", "_law_row"] : List Str) by decide +kernel) rfl (Or.inl rfl))) (fun _ _ _ _ => (qif_one (qt_cmp (kNotIn (K := K) rfl) mNotIn (qv 0) (qv 1) (by with_unfolding_all rfl)))) (fun _ _ _ _ => (qf 0))) (q_lst qa_nil) (nomark _))))) (qs_one (q_expr (q_app 2 (K := K) rfl rfl (q_tup (qa_cons (q_cb (kLen (K := K) rfl) mLen rfl B.len PySem.boot_len (qa_cons (qv 7) qa_nil)) (qa_cons (qf 7) qa_nil)))))) qs_nil)))
      (qs_one (q_ret (q_comp (N' := ["_law_many", "_law_row"]) (ix := [none, none]) rfl (bs_of (N := ["_law_town_here", "_law_standing_here", "_law_found", "_law_clocks", "_law_due", "_law_rows_here", "_law_clock", "_law_row"]) (sc0 := defScope s__law_rows) rfl rfl (by decide +kernel)) (qi_list (K := K) rfl (q_srt (K := K) rfl (room80 hr) rfl B.sorted (qa_cons (qv 2) qa_nil))) (fun _ _ _ _ => (qg_tup (K := K) (n := 2) rfl rfl (qgs_cons (qg_name (i := 0) (show List.Nodup (["_law_many", "_law_row"] : List Str) by decide +kernel) rfl (Or.inl rfl)) (qgs_cons (qg_name (i := 1) (show List.Nodup (["_law_many", "_law_row"] : List Str) by decide +kernel) rfl (Or.inl rfl)) qgs_nil)))) (fun _ _ _ _ => qif_nil) (fun _ _ _ _ => (qf 1))))))))))), fun ss R h => ?_⟩)
  · obtain ⟨s, o, l, d, rfl, _⟩ := h
    rfl
  obtain ⟨s, o, l, d, rfl, tb, sb, q⟩ := h
  obtain ⟨t1, t2, t3, t4, t5, t6, t7⟩ := tb
  obtain ⟨s1, s2⟩ := sb
  walk_at "dx"
  refine ⟨Nat.zero_le _, ?_⟩
  walk_at "dx"
  rw [List.length_map]
  refine ⟨by omega, by omega, cd_map (fun i => .int (i : Int)) (by rw [rangeD_len]; omega) (fun i hi Q hQ => ?_) ?_⟩
  · rw [rangeD_get]
    walk_at "dx"
    exact hQ
  rw [rangeD_len, Int.toNat_natCast, li_range]
  walk_at "dx"
  refine cd_filter (fun i => decide (l.getD i 0 = 1)) (fun i => .int (i : Int)) (by simp; omega) (fun i hi Q Q' h1 h2 => ?_) ?_
  · rw [List.length_map, List.length_map, List.length_range] at hi
    rw [li_get]
    have ei : (List.map (Nat.cast : Nat → Int) (List.range s.length)).getD i 0 = (i : Int) := by simp [List.getD_eq_getElem?_getD, hi]
    rw [ei]
    walk_at "dx"
    refine ⟨_, atI_li (k := i) (by omega), ?_⟩
    walk_at "dx"
    exact ite2 (fun h => h1 (by simpa using h)) (fun h => h2 (by simpa using h))
  walk_at "dx"
  have ed : List.map (fun (i : Nat) => PyData.int (i : Int)) (List.filter (fun (i : Nat) => decide (l.getD i 0 = 1)) (List.range (li (List.map (Nat.cast : Nat → Int) (List.range s.length))).length)) = li (dueL l s.length) := by
    rw [List.length_map, List.length_map, List.length_range]
    unfold dueL
    show _ = List.map _ (List.map _ _)
    rw [List.map_map]
    rfl
  rw [ed]
  refine ⟨Nat.zero_le _, Nat.le_trans (by decide) line_big, ?_⟩
  walk_at "dx"
  refine fd_intro (fun i env => ∃ cv : Sl, env = [.fr (.tuple [.list (li s), .list (li o)]), .fr (.tuple [.int d, .tuple (li l)]), .ow [], .fr (.list (li (List.map (Nat.cast : Nat → Int) (List.range s.length)))), .ow (li (dueL l s.length)), .ow (lr (subs i)), cv, .un]) ⟨_, rfl⟩ ?_ ?_
  · rintro i env hi ⟨cv, rfl⟩
    rw [List.length_map, List.length_map, List.length_range] at hi
    rw [li_get]
    have ei : (List.map (Nat.cast : Nat → Int) (List.range s.length)).getD i 0 = (i : Int) := by simp [List.getD_eq_getElem?_getD, hi]
    rw [ei]
    have hz : (subs i).length ≤ 32 := by
      rw [subs_len]
      have : 2 ^ i ≤ 2 ^ 5 := Nat.pow_le_pow_right (by decide) (by omega)
      omega
    walk_at "dx"
    refine cd_map (fun j => .list (li ((subs i).getD j [] ++ [(i : Int)]))) (by rw [List.length_map]; omega) (fun j hj Q hQ => ?_) ?_
    · rw [List.length_map] at hj
      rw [lr_get]
      have hr := (subs_row i _ (getD_memL (l := subs i) hj)).1
      walk_at "dx"
      refine ⟨Nat.le_trans (by decide) line_big, by rw [List.length_map]; exact Nat.le_trans (by omega) line_big, ?_⟩
      rw [li_snoc]
      exact hQ
    · rw [List.length_map, range_mapD (subs i) [] (fun r => PyData.list (li (r ++ [(i : Int)])))]
      have e : lr (subs i) ++ (subs i).map (fun r => PyData.list (li (r ++ [(i : Int)]))) = lr (subs (i + 1)) := by
        show _ = List.map _ (subs i ++ _)
        rw [List.map_append, List.map_map]
        rfl
      walk_at "dx"
      rw [e]
      refine ⟨?_, rfl⟩
      rw [List.length_map, List.length_map]
      exact Nat.le_trans (by omega) line_big
  rintro env ⟨cv, rfl⟩
  rw [List.length_map, List.length_map, List.length_range]
  walk_at "dx"
  refine fd_intro (fun i env => ∃ rv dv : Sl, env = [.fr (.tuple [.list (li s), .list (li o)]), .fr (.tuple [.int d, .tuple (li l)]), .ow ((((subs s.length).take i).filter (goodR (o.getD d 0) (dueL l s.length))).map keyR), .fr (.list (li (List.map (Nat.cast : Nat → Int) (List.range s.length)))), dv, .fr (.list (lr (subs s.length))), cv, rv] ∧ (dv = .ow (li (dueL l s.length)) ∨ dv = .fr (.list (li (dueL l s.length))))) ⟨_, _, rfl, .inl rfl⟩ ?_ ?_
  · rintro i env hi ⟨rv, dv, rfl, hdv⟩
    rw [List.length_map] at hi
    rw [lr_get]
    have hm := getD_memL (l := subs s.length) hi
    obtain ⟨r1, r2, r3⟩ := subs_row _ _ hm
    have et : ((subs s.length).take (i + 1)).filter (goodR (o.getD d 0) (dueL l s.length)) = ((subs s.length).take i).filter (goodR (o.getD d 0) (dueL l s.length)) ++ (if goodR (o.getD d 0) (dueL l s.length) ((subs s.length).getD i []) = true then [(subs s.length).getD i []] else []) := by
      have eg : (subs s.length).getD i [] = (subs s.length)[i] := by simp [List.getD_eq_getElem?_getD, hi]
      rw [List.take_add_one, List.getElem?_eq_getElem hi, eg, List.filter_append]
      show _ ++ List.filter _ [_] = _
      generalize o.getD d 0 = oh
      cases hg : goodR oh (dueL l s.length) (subs s.length)[i] <;> simp [hg]
    rw [et]
    have hz : (((subs s.length).take i).filter (goodR (o.getD d 0) (dueL l s.length))).length ≤ 64 := by
      refine Nat.le_trans (List.length_filter_le _ _) ?_
      rw [List.length_take, subs_len]
      have : 2 ^ s.length ≤ 2 ^ 6 := Nat.pow_le_pow_right (by decide) t2
      omega
    generalize ((subs s.length).take i).filter (goodR (o.getD d 0) (dueL l s.length)) = fs at *
    generalize (subs s.length).getD i [] = r at *
    have hdz : (dueL l s.length).length ≤ 6 := by
      unfold dueL
      rw [List.length_map]
      refine Nat.le_trans (List.length_filter_le _ _) ?_
      rw [List.length_range]
      exact t2
    rcases hdv with rfl | rfl
    all_goals
      walk_at "dx"
      refine ⟨_, atI_li s1, ?_⟩
      walk_at "dx"
      rw [List.length_map]
      refine ite2 (fun hlen => ?_) (fun hlen => ?_)
      rotate_left
      · have eg : goodR (o.getD d 0) (dueL l s.length) r = false := by
          unfold goodR
          rw [decide_eq_false hlen, Bool.false_and]
        rw [eg, if_neg (by decide), List.append_nil]
        exact ⟨rfl, by simp⟩
      refine cd_filter (fun j => decide ((dueL l s.length).getD j 0 ∉ r)) (fun j => .int ((dueL l s.length).getD j 0)) (by rw [List.length_map]; omega) (fun j hj Q Q' h1 h2 => ?_) ?_
      · rw [li_get]
        walk_at "dx"
        generalize (dueL l s.length).getD j 0 = c at *
        exact ite2 (fun h => h1 (decide_eq_true h)) (fun h => h2 (decide_eq_false h))
      rw [List.length_map, range_filterD (dueL l s.length) 0 (fun c => decide (c ∉ r)) (fun c => PyData.int c)]
      walk_at "dx"
      rw [show PyData.list [] = PyData.list (li []) from rfl, eqv_li]
      refine ⟨Nat.zero_le _, (Sh.ints 0 _).shp (by decide), (Sh.ints 0 []).shp (by decide), ?_⟩
      have eg : goodR (o.getD d 0) (dueL l s.length) r = decide (((dueL l s.length).filter fun c => decide (c ∉ r)) = []) := by
        unfold goodR
        rw [decide_eq_true hlen, Bool.true_and]
      rw [eg]
      refine ite2 (fun hm => ?_) (fun hm => ?_)
      · rw [if_pos hm, List.map_append]
        refine ⟨Nat.le_trans (by decide) line_big, by rw [List.length_map]; exact Nat.lt_of_lt_of_le (by omega) line_big, ?_⟩
        refine ⟨?_, by simp⟩
        rw [List.length_map]
        rfl
      · rw [if_neg hm, List.append_nil]
        exact ⟨rfl, by simp⟩
  · rintro env ⟨rv, dv, rfl, _⟩
    rw [List.length_map, List.take_of_length_le (Nat.le_refl _)]
    walk_at "dx"
    have hs : ∀ r ∈ (subs s.length).filter (goodR (o.getD d 0) (dueL l s.length)), r.length ≤ 1000 := fun r hr => by
      have := (subs_row _ r (List.mem_filter.mp hr).1).1
      omega
    refine ⟨fun x hx => ?_, ?_, fun es hes => ?_⟩
    · obtain ⟨r, _, rfl⟩ := List.mem_map.mp hx
      exact ⟨r.length, r, rfl⟩
    · rw [List.length_map]
      refine fit_few t2 (t7.imp (fun h => h) fun h => by have := h _ (getD_mem' s1); omega)
    · obtain ⟨rr, hp, rfl⟩ := perm_lift hes _ rfl
      have hl := hp.length_eq
      have hf : ((subs s.length).filter (goodR (o.getD d 0) (dueL l s.length))).length < 64 := fit_few t2 (t7.imp (fun h => h) fun h => by have := h _ (getD_mem' s1); omega)
      refine cd_map (fun j => .list (li (rr.getD j []))) (by rw [List.length_map]; omega) (fun j hj Q hQ => ?_) ?_
      · rw [List.length_map] at hj
        have ek : (List.map keyR rr)[j]'(by simpa using hj) = keyR (rr.getD j []) := by simp [List.getD_eq_getElem?_getD, hj]
        rw [ek]
        unfold keyR
        walk_at "dx"
        exact hQ
      · rw [List.length_map, range_mapD rr [] (fun r => PyData.list (li r))]
        walk_at "dx"
        exact q rr hp
def aftL (s l r : List Int) (n : Nat) : List Int := (List.range n).map fun (i : Nat) => if (i : Int) ∈ r then s.getD i 0 else l.getD i 0 - 1
theorem aftL_len (s l r : List Int) (n : Nat) : (aftL s l r n).length = n := by simp [aftL]
theorem aftL_succ (s l r : List Int) (n : Nat) : aftL s l r (n + 1) = aftL s l r n ++ [if (n : Int) ∈ r then s.getD n 0 else l.getD n 0 - 1] := by
  unfold aftL
  rw [List.range_succ, List.map_append]
  rfl
abbrev s__law_after : Stmt := top 24
theorem sc__law_after : FnScope ["_law_town_here", "_law_standing_here", "_law_row", "_law_lefts", "_law_clock"] ["_law_town_here", "_law_standing_here", "_law_row"] (defScope s__law_after) := ⟨rfl, rfl, rfl, by decide +kernel, rfl, by decide +kernel, by decide +kernel⟩
def spAfter : DSp := fun ss R => ∃ (s o l r : List Int) (d : Nat), ss = [.fr (.tuple [.list (li s), .list (li o)]), .fr (.tuple [.int d, .tuple (li l)]), .fr (.list (li r))] ∧ s.length ≤ 1000 ∧ 1 ≤ o.length ∧ l.length = s.length ∧ R (.fr (.tuple [.int (((d + 1) % o.length : Nat) : Int), .tuple (li (aftL s l r s.length))])) [.un, .un, .un]
theorem bi__law_after {f : Addr} {fd : FuncData} (F : Fun K "_law_after" "_law_after" s__law_after f fd) : Binds K fd ["_law_town_here", "_law_standing_here", "_law_row"] [] := F.binds (ps := ["_law_town_here", "_law_standing_here", "_law_row"]) fun _ _ _ _ _ _ us hl => us3 (Q := fun us => bindArgs _ ⟨us, []⟩ = pure (List.zip _ us)) hl fun _ _ _ => rfl
theorem ok__law_after {f : Addr} {fd : FuncData} (F : Fun K "_law_after" "_law_after" s__law_after f fd) (B : Bn mg) : FnOk P w K mg base CX0 1 f fd ["_law_town_here", "_law_standing_here", "_law_row"] (spD K spAfter) := by
  refine okD (k := 0) F sc__law_after (fun ss R h => ?_) (by decide) (fun cdv A outer s H E hr => ⟨_, (qs_cons (q_set (i := 3) sc__law_after.nd rfl (Or.inl rfl) (q_tup qa_nil))
      (qs_cons (q_for PassesOwn.never rfl (qi_rng1 rfl B.range (qa_cons (q_cb (kLen (K := K) rfl) mLen rfl B.len PySem.boot_len (qa_cons (q_ix (ix_any (K := K) rfl) mIx (qv 0) q_int (fun _ _ => rfl)) qa_nil)) qa_nil)) (qg_name (i := 4) sc__law_after.nd rfl (Or.inl rfl)) (qs_one (q_if (qt_cmp (kIn (K := K) rfl) mIn (qv 4) (qv 2) (by with_unfolding_all rfl)) (qs_one (q_set (i := 3) sc__law_after.nd rfl (Or.inl rfl) (q_catT (K := K) rfl (qv 3) (q_tup (qa_cons (q_ix (ix_any (K := K) rfl) mIx (q_ix (ix_any (K := K) rfl) mIx (qv 0) q_int (fun _ _ => rfl)) (qv 4) (fun _ _ => rfl)) qa_nil))))) (qs_one (q_set (i := 3) sc__law_after.nd rfl (Or.inl rfl) (q_catT (K := K) rfl (qv 3) (q_tup (qa_cons (q_op op_sub mI (q_ix (ix_any (K := K) rfl) mIx (q_ix (ix_any (K := K) rfl) mIx (qv 1) q_int (fun _ _ => rfl)) (qv 4) (fun _ _ => rfl)) q_int) qa_nil))))))))
      (qs_one (q_ret (q_tup (qa_cons (q_op op_mod mIC (q_op op_add mI (q_ix (ix_any (K := K) rfl) mIx (qv 1) q_int (fun _ _ => rfl)) q_int) (q_cb (kLen (K := K) rfl) mLen rfl B.len PySem.boot_len (qa_cons (q_ix (ix_any (K := K) rfl) mIx (qv 0) q_int (fun _ _ => rfl)) qa_nil))) (qa_cons (qf 3) qa_nil))))))), fun ss R h => ?_⟩)
  · obtain ⟨s, o, l, r, d, rfl, _⟩ := h
    rfl
  obtain ⟨s, o, l, r, d, rfl, h1, h2, h3, q⟩ := h
  walk_at "dx"
  rw [List.length_map]
  refine ⟨Nat.zero_le _, by omega, by omega, fd_intro (fun i env => ∃ cv : Sl, env = [.fr (.tuple [.list (li s), .list (li o)]), .fr (.tuple [.int d, .tuple (li l)]), .fr (.list (li r)), .fr (.tuple (li (aftL s l r i))), cv]) ⟨_, rfl⟩ ?_ ?_⟩
  · rintro i env hi ⟨cv, rfl⟩
    rw [rangeD_len, Int.toNat_natCast] at hi
    rw [rangeD_get]
    walk_at "dx"
    have hz : (li (aftL s l r i)).length + 1 ≤ sizeLine := by
      rw [List.length_map, aftL_len]
      exact Nat.le_trans (by omega) line_big
    rw [aftL_succ]
    refine ite2 (fun hm => ?_) (fun hm => ?_)
    · refine ⟨_, atI_li hi, Nat.le_trans (by decide) line_big, hz, ?_⟩
      rw [if_pos hm]
      exact li_snoc _ _
    · refine ⟨_, atI_li (by omega), _, rfl, Nat.le_trans (by decide) line_big, hz, ?_⟩
      rw [if_neg hm]
      exact li_snoc _ _
  · rintro env ⟨cv, rfl⟩
    rw [rangeD_len, Int.toNat_natCast]
    walk_at "dx"
    rw [List.length_map]
    exact ⟨by omega, Nat.le_trans (by decide) line_big, q⟩
abbrev s__law_odd_row : Stmt := top 27
theorem sc__law_odd_row : FnScope ["_law_town_here", "_law_draws_here", "_law_number", "_law_row", "_law_kind"] ["_law_town_here", "_law_draws_here"] (defScope s__law_odd_row) := ⟨rfl, rfl, rfl, by decide +kernel, rfl, by decide +kernel, by decide +kernel⟩
def spOdd : DSp := fun ss R => ∃ (s o l : List Int), ss = [.fr (.tuple [.list (li s), .list (li o)]), .io (li l)] ∧ s.length ≤ 6 ∧ Ds l ∧ ∀ r l' : List Int, Ds l' → r.length ≤ 10 → R (.ow (li r)) [.un, .io (li l')]
theorem bi__law_odd_row {f : Addr} {fd : FuncData} (F : Fun K "_law_odd_row" "_law_odd_row" s__law_odd_row f fd) : Binds K fd ["_law_town_here", "_law_draws_here"] [] := F.binds (ps := ["_law_town_here", "_law_draws_here"]) fun _ _ _ _ _ _ us hl => us2 (Q := fun us => bindArgs _ ⟨us, []⟩ = pure (List.zip _ us)) hl fun _ _ => rfl
theorem ok__law_odd_row {f : Addr} {fd : FuncData} (F : Fun K "_law_odd_row" "_law_odd_row" s__law_odd_row f fd) (B : Bn mg) (G__law_pop : Cal P w K mg base "_law_pop" 1 (spD K spPop)) : FnOk P w K mg base CX0 2 f fd ["_law_town_here", "_law_draws_here"] (spD K spOdd) := by
  refine okD (k := 1) F sc__law_odd_row (fun ss R h => ?_) (by decide) (fun cdv A outer s H E hr => ⟨_, (qs_bar (q_set (i := 2) sc__law_odd_row.nd rfl (Or.inr rfl) (q_callS 0 G__law_pop (hr.mono (by decide)) rfl (qa_cons (qv 1) qa_nil)))
      (qs_bar (q_setComp (i := 3)  sc__law_odd_row.nd rfl rfl (N' := ["_law_clock", "_law_number"]) (ix := [none, some 2]) rfl (bs_of (N := ["_law_town_here", "_law_draws_here", "_law_number", "_law_row", "_law_kind"]) (sc0 := defScope s__law_odd_row) rfl rfl (by decide +kernel)) (qi_rng1 rfl B.range (qa_cons (q_cb (kLen (K := K) rfl) mLen rfl B.len PySem.boot_len (qa_cons (q_ix (ix_any (K := K) rfl) mIx (qv 0) q_int (fun _ _ => rfl)) qa_nil)) qa_nil)) (fun _ _ _ _ => (qg_name (i := 0) (show List.Nodup (["_law_clock", "_law_number"] : List Str) by decide +kernel) rfl (Or.inl rfl))) (fun _ _ _ _ => (qif_one (qt_cmp op_eq mEqI (q_op op_mod mIC (q_op op_fdiv mIC (qv 1) (q_op op_add mI (qv 0) q_int)) q_int) q_int (nomark _)))) (fun _ _ _ _ => (qf 0)))
      (qs_bar (q_set (i := 4) sc__law_odd_row.nd rfl (Or.inl rfl) (q_op op_mod mIC (q_op op_fdiv mIC (qv 2) q_int) q_int))
      (qs_bar (q_if (qt_cmp op_eq mEqI (qv 4) q_int (nomark _)) (qs_one (q_ret (q_step (K := K) rfl (qv 3) pe_neg1))) qs_nil)
      (qs_bar (q_if (qt_cmp op_eq mEqI (qv 4) q_int (nomark _)) (qs_one (q_ret (q_opL (op_catS (K := K) rfl) mCat (qv 3) (q_lst (qa_cons (q_cb (kLen (K := K) rfl) mLen rfl B.len PySem.boot_len (qa_cons (q_ix (ix_any (K := K) rfl) mIx (qv 0) q_int (fun _ _ => rfl)) qa_nil)) qa_nil))))) qs_nil)
      (qs_bar (q_if (qt_cmp op_eq mEqI (qv 4) q_int (nomark _)) (qs_one (q_ret (q_opL (op_catS (K := K) rfl) mCat (q_lst (qa_cons (q_un un_neg mNeg q_int) qa_nil)) (qv 3)))) qs_nil)
      (qs_bar (q_if (PW.pt (qw_and (qt_cmp op_eq mEqI (qv 4) q_int (nomark _)) (qw_and1 (qt_cmp (kNeD (K := K) rfl hr.units) mNe (qv 3) (q_lst qa_nil) (nomark _))))) (qs_one (q_ret (q_opL (op_catS (K := K) rfl) mCat (qv 3) (q_lst (qa_cons (q_ix (ix_any (K := K) rfl) mIx (qv 3) (q_un un_neg mNeg q_int) (fun _ _ => rfl)) qa_nil))))) qs_nil)
      (qs_one (q_ret (qv 3)))))))))), fun ss R h => ?_⟩)
  · obtain ⟨s, o, l, rfl, _⟩ := h
    rfl
  obtain ⟨s, o, l, rfl, h1, dl, q⟩ := h
  walk_at "dx"
  refine ⟨l, rfl, ?_⟩
  walk_at "dx"
  rw [List.length_map]
  have dl1 := dl.drop
  generalize popV l = num at *
  generalize l.dropLast = l1 at *
  refine ⟨by omega, by omega, cd_some (fun d => ∃ x : Int, d = .int x ∧ True) (by rw [rangeD_len]; omega) (fun i hi Q Q' h1 h2 => ?_) fun rs hl hrs => ?_⟩
  · rw [rangeD_len] at hi
    rw [rangeD_get]
    walk_at "dx"
    refine ⟨?_, by decide, ite2 (fun _ => h1 _ ⟨_, rfl, trivial⟩) (fun _ => h2)⟩
    exact ⟨by omega, by omega⟩
  rw [rangeD_len] at hl
  obtain ⟨r, rfl, _⟩ := all_ints hrs
  rw [List.length_map] at hl
  walk_at "dx"
  have hz : ∀ k, k ≤ 1000 → k ≤ sizeLine := fun k hk => Nat.le_trans (by omega) line_big
  refine ⟨⟨by decide, by decide⟩, by decide, ?_⟩
  walk_at "dx"
  refine ite2 (fun _ es he hle => ?_) (fun _ => ?_)
  · obtain ⟨ns, rfl, _⟩ := all_ints (rs := es) (p := fun _ => True) fun d hd => by
      obtain ⟨x, _, rfl⟩ := List.mem_map.mp (he d hd)
      exact ⟨x, rfl, trivial⟩
    rw [List.length_map, List.length_map] at hle
    exact q ns l1 dl1 (by omega)
  walk_at "dx"
  refine ite2 (fun _ => ?_) (fun _ => ?_)
  · refine ⟨hz _ (by decide), hz _ (by rw [List.length_map]; omega), ?_⟩
    rw [li_snoc]
    exact q _ l1 dl1 (by simp; omega)
  walk_at "dx"
  refine ite2 (fun _ => ?_) (fun _ => ?_)
  · exact ⟨hz _ (by decide), hz _ (by rw [List.length_map]; omega), q (-1 :: r) l1 dl1 (by simp; omega)⟩
  walk_at "dx"
  refine ite2 (fun _ => ?_) (fun _ => ?_)
  · rw [show PyData.list [] = PyData.list (li []) from rfl, eqv_li]
    refine ⟨Nat.zero_le _, (Sh.ints 0 r).shp (by decide), (Sh.ints 0 []).shp (by decide), ?_⟩
    by_cases hr0 : r = []
    · rw [if_neg (by simp [hr0])]
      walk_at "dx"
      exact q r l1 dl1 (by omega)
    · rw [if_pos (by simp [hr0])]
      obtain ⟨r', x, rfl⟩ : ∃ r' x, r = r' ++ [x] := ⟨r.dropLast, r.getLast hr0, (List.dropLast_concat_getLast hr0).symm⟩
      rw [List.length_append, List.length_singleton] at hl
      refine ⟨.int x, ?_, hz _ (by decide), hz _ (by rw [List.length_map, List.length_append, List.length_singleton]; omega), ?_⟩
      · rw [← li_snoc]
        exact atI_snoc _ _
      · rw [li_snoc]
        exact q _ l1 dl1 (by simp; omega)
  walk_at "dx"
  exact q r l1 dl1 (by omega)
abbrev s__law_standing : Stmt := top 22
theorem sc__law_standing : FnScope ["_law_town_here", "_law_draws_here", "_law_lefts", "_law_lean", "_law_span", "_law_number", "_law_some"] ["_law_town_here", "_law_draws_here"] (defScope s__law_standing) := ⟨rfl, rfl, rfl, by decide +kernel, rfl, by decide +kernel, by decide +kernel⟩
def LfB (s l : List Int) : Prop := l.length = s.length ∧ ∀ i, i < s.length → 1 ≤ l.getD i 0 ∧ l.getD i 0 ≤ s.getD i 0
def spStanding : DSp := fun ss R => ∃ (s o l : List Int), ss = [.fr (.tuple [.list (li s), .list (li o)]), .io (li l)] ∧ Ds l ∧ TB s o ∧ ∀ (d : Nat) (lf l' : List Int), Ds l' → d < o.length → LfB s lf → R (.fr (.tuple [.int d, .tuple (li lf)])) [.un, .io (li l')]
theorem bi__law_standing {f : Addr} {fd : FuncData} (F : Fun K "_law_standing" "_law_standing" s__law_standing f fd) : Binds K fd ["_law_town_here", "_law_draws_here"] [] := F.binds (ps := ["_law_town_here", "_law_draws_here"]) fun _ _ _ _ _ _ us hl => us2 (Q := fun us => bindArgs _ ⟨us, []⟩ = pure (List.zip _ us)) hl fun _ _ => rfl
theorem ok__law_standing {f : Addr} {fd : FuncData} (F : Fun K "_law_standing" "_law_standing" s__law_standing f fd) (B : Bn mg) (G__law_pop : Cal P w K mg base "_law_pop" 1 (spD K spPop)) : FnOk P w K mg base CX0 2 f fd ["_law_town_here", "_law_draws_here"] (spD K spStanding) := by
  refine okD (k := 1) F sc__law_standing (fun ss R h => ?_) (by decide) (fun cdv A outer s H E hr => ⟨_, (qs_cons (q_set (i := 2) sc__law_standing.nd rfl (Or.inl rfl) (q_tup qa_nil))
      (qs_cons (q_set (i := 3) sc__law_standing.nd rfl (Or.inl rfl) (q_op op_mod mIC (q_callS 0 G__law_pop (hr.mono (by decide)) rfl (qa_cons (qv 1) qa_nil)) q_int))
      (qs_cons (q_for PassesOwn.never rfl (qi_list (K := K) rfl (q_ix (ix_any (K := K) rfl) mIx (qv 0) q_int (fun _ _ => rfl))) (qg_name (i := 4) sc__law_standing.nd rfl (Or.inl rfl)) (qs_cons (q_set (i := 5) sc__law_standing.nd rfl (Or.inl rfl) (q_callS 0 G__law_pop (hr.mono (by decide)) rfl (qa_cons (qv 1) qa_nil)))
      (qs_cons (q_set (i := 6) sc__law_standing.nd rfl (Or.inl rfl) (q_lst (qa_cons (q_op op_add mI q_int (q_op op_mod mIC (qv 5) (qv 4))) (qa_cons (q_op op_add mI q_int (q_op op_mod mIC (qv 5) (q_cb (call_min2 rfl) mMin rfl B.min PyProof.Rows.boot_min (qa_cons (qv 4) (qa_cons q_int qa_nil))))) (qa_cons (q_op op_sub mI (qv 4) (q_op op_mod mIC (qv 5) (q_cb (call_min2 rfl) mMin rfl B.min PyProof.Rows.boot_min (qa_cons (qv 4) (qa_cons q_int qa_nil))))) qa_nil)))))
      (qs_one (q_set (i := 2) sc__law_standing.nd rfl (Or.inl rfl) (q_catT (K := K) rfl (qv 2) (q_tup (qa_cons (q_ix (ix_any (K := K) rfl) mIx (qv 6) (qv 3) (fun _ _ => rfl)) qa_nil))))))))
      (qs_one (q_ret (q_tup (qa_cons (q_op op_mod mIC (q_callS 0 G__law_pop (hr.mono (by decide)) rfl (qa_cons (qv 1) qa_nil)) (q_cb (kLen (K := K) rfl) mLen rfl B.len PySem.boot_len (qa_cons (q_ix (ix_any (K := K) rfl) mIx (qv 0) q_int (fun _ _ => rfl)) qa_nil))) (qa_cons (qf 2) qa_nil)))))))), fun ss R h => ?_⟩)
  · obtain ⟨s, o, l, rfl, _⟩ := h
    rfl
  obtain ⟨s, o, l, rfl, dl, tb, q⟩ := h
  obtain ⟨t1, t2, t3, t4, t5, t6, t7⟩ := tb
  walk_at "dd"
  refine ⟨Nat.zero_le _, l, rfl, ?_⟩
  walk_at "dd"
  have dl1 := dl.drop
  generalize popV l = p0 at *
  generalize l.dropLast = l1 at *
  refine ⟨by decide, fd_intro (fun i env => ∃ (ld lf : List Int) (a b c : Sl), env = [.fr (.tuple [.list (li s), .list (li o)]), .io (li ld), .fr (.tuple (li lf)), .fr (.int (p0 % 3)), a, b, c] ∧ Ds ld ∧ lf.length = i ∧ ∀ j, j < i → 1 ≤ lf.getD j 0 ∧ lf.getD j 0 ≤ s.getD j 0) ⟨l1, [], _, _, _, rfl, dl1, rfl, by omega⟩ ?_ ?_⟩
  · rintro i env hi ⟨ld, lf, a, b, c, rfl, dld, hlf, hb⟩
    rw [li_get]
    rw [List.length_map] at hi
    walk_at "dd"
    refine ⟨ld, rfl, ?_⟩
    walk_at "dd"
    have dl2 := dld.drop
    generalize popV ld = num at *
    generalize ld.dropLast = l2 at *
    obtain ⟨sp, hsp⟩ : ∃ sp, sp = s.getD i 0 := ⟨_, rfl⟩
    have hs1 := t5 _ (getD_mem' hi)
    rw [← hsp] at hs1 ⊢
    obtain ⟨w3, hw3⟩ : ∃ w : Int, w = if 3 < sp then 3 else sp := ⟨_, rfl⟩
    obtain ⟨w2, hw2⟩ : ∃ w : Int, w = if 2 < sp then 2 else sp := ⟨_, rfl⟩
    rw [← hw3, ← hw2]
    have b3 : 1 ≤ w3 ∧ w3 ≤ sp := by rw [hw3]; split <;> omega
    have b2 : 1 ≤ w2 ∧ w2 ≤ sp := by rw [hw2]; split <;> omega
    have x0 := Int.emod_nonneg num (show sp ≠ 0 by omega)
    have x1 := Int.emod_lt_of_pos num (show 0 < sp by omega)
    have y0 := Int.emod_nonneg num (show w3 ≠ 0 by omega)
    have y1 := Int.emod_lt_of_pos num (show 0 < w3 by omega)
    have z0 := Int.emod_nonneg num (show w2 ≠ 0 by omega)
    have z1 := Int.emod_lt_of_pos num (show 0 < w2 by omega)
    obtain ⟨v, ev, v1, v2⟩ : ∃ v : Int, atI [PyData.int (1 + num % sp), PyData.int (1 + num % w3), PyData.int (sp - num % w2)] (p0 % 3) = some (.int v) ∧ 1 ≤ v ∧ v ≤ sp := by
      have : p0 % 3 = 0 ∨ p0 % 3 = 1 ∨ p0 % 3 = 2 := by omega
      rcases this with e | e | e
      · rw [e]; exact ⟨_, rfl, by omega, by omega⟩
      · rw [e]; exact ⟨_, rfl, by omega, by omega⟩
      · rw [e]; exact ⟨_, rfl, by omega, by omega⟩
    refine ⟨by omega, by omega, by omega, Nat.le_trans (by decide) line_big, _, ev, Nat.le_trans (by decide) line_big, by rw [List.length_map, hlf]; exact Nat.le_trans (by omega) line_big, l2, rfl, lf ++ [v], li_snoc _ _, dl2, by simp [hlf], fun j hj => ?_⟩
    by_cases hji : j < i
    · have := hb j hji
      rw [show (lf ++ [v]).getD j 0 = lf.getD j 0 by simp [List.getD_eq_getElem?_getD, List.getElem?_append_left (show j < lf.length by omega)]]
      exact this
    · have : j = i := by omega
      subst this
      rw [show (lf ++ [v]).getD j 0 = v by rw [← hlf]; simp [List.getD_eq_getElem?_getD], ← hsp]
      exact ⟨v1, v2⟩
  · rintro env ⟨ld, lf, a, b, c, rfl, dld, hlf, hb⟩
    rw [List.length_map] at hlf hb
    walk_at "dd"
    refine ⟨ld, rfl, ?_⟩
    walk_at "dd"
    have dl2 := dld.drop
    generalize popV ld = num at *
    generalize ld.dropLast = l2 at *
    rw [List.length_map]
    have x0 := Int.emod_nonneg num (show (o.length : Int) ≠ 0 by omega)
    have x1 := Int.emod_lt_of_pos num (show 0 < (o.length : Int) by omega)
    refine ⟨by omega, Nat.le_trans (by decide) line_big, ?_⟩
    have e : num % (o.length : Int) = (((num % (o.length : Int)).toNat : Nat) : Int) := by omega
    rw [e]
    exact q _ lf l2 dl2 (by omega) ⟨hlf, hb⟩
abbrev s_NoDay_init : Stmt := inClass (top 2) 0
theorem sc_NoDay_init : FnScope ["self", "day"] ["self", "day"] (defScope s_NoDay_init) := ⟨rfl, rfl, rfl, by decide +kernel, rfl, by decide +kernel, by decide +kernel⟩
theorem noday_mk {CN fN DN NN : Addr} {nmN qN : Str} {bsN : List Value} {snN : List Str} {subN : List Value} {abN : Bool} {colN : Option Bool} {ddN odN anN : Option Addr} {k0N k1N k2N k3N k5N : Option Value} {slN : Array (Option Value)} {kVN dcN pmN cdN ctN : Value}
    (oN : K.lookup CN = some (excClassObj nmN qN CN NN bsN (.ref DN :: bmV) true snN subN abN colN ddN k0N k1N k2N k3N k5N "ValueError.__new__")) (tN : PySem.W.tailIn K bmV (.ref DN :: bmV) = true)
    (iN : PySem.W.findIn K (.ref CN) "__init__" = some (some (.ref fN))) (lN : K.lookup fN = some ⟨.type "function", odN, .func (PySem.W.fnOf "__init__" "NoDay.__init__" (defArgs s_NoDay_init) (defBody s_NoDay_init) (defScope s_NoDay_init) .none kVN dcN pmN anN cdN ctN), slN⟩)
    (cN : PySem.W.codeIn K cdN "NoDay.__init__" = true) (kN : PySem.W.keepIn K (.ref fN) = true) (kC : PySem.W.keepIn K (.ref CN) = true) (saN : PySem.W.findIn K (.ref CN) "__setattr__" = some (some (.builtin "object.__setattr__"))) (daN : PySem.W.findIn K (.ref CN) "day" = some none)
    (m : mg "NoDay" = some (.ref CN)) : NoDayCls P w K mg base CN := by
  have F := fun_mk (st := s_NoDay_init) lN cN kN
  have cls : ExcCls K CN fN := ⟨⟨_, _, _, _, _, _, _, _, _, _, _, _, _, _, _, oN, tN⟩, iN, ⟨_, lN, rfl⟩, kC, saN, daN⟩
  exact ⟨fN, _, cls, init_ok (k := 0) F sc_NoDay_init rfl (fun _ _ _ => rfl), F.binds (ps := ["self", "day"]) fun _ _ _ _ _ _ us hl => us2 (Q := fun us => bindArgs _ ⟨us, []⟩ = pure (List.zip _ us)) hl fun _ _ => rfl, m⟩
abbrev s_hands_on : Stmt := top 9
theorem sc_hands_on : FnScope ["town", "standing"] ["town", "standing"] (defScope s_hands_on) := ⟨rfl, rfl, rfl, by decide +kernel, rfl, by decide +kernel, by decide +kernel⟩
def spHandsOn : DSp := fun ss R => ∃ (s o l : List Int) (d : Nat), ss = [.fr (.tuple [.list (li s), .list (li o)]), .fr (.tuple [.int d, .tuple (li l)])] ∧ d < o.length ∧ R (.fr (.int (o.getD d 0))) [.un, .un]
theorem bi_hands_on {f : Addr} {fd : FuncData} (F : Fun K "hands_on" "hands_on" s_hands_on f fd) : Binds K fd ["town", "standing"] [] := F.binds (ps := ["town", "standing"]) fun _ _ _ _ _ _ us hl => us2 (Q := fun us => bindArgs _ ⟨us, []⟩ = pure (List.zip _ us)) hl fun _ _ => rfl
theorem ok_hands_on {f : Addr} {fd : FuncData} (F : Fun K "hands_on" "hands_on" s_hands_on f fd) (B : Bn mg) : FnOk P w K mg base CX0 1 f fd ["town", "standing"] (spD K spHandsOn) := by
  refine okD (k := 0) F sc_hands_on (fun ss R h => ?_) (by decide) (fun cdv A outer s H E hr => ⟨_, (qs_one (q_ret (q_ix (ix_any (K := K) rfl) mIx (q_ix (ix_any (K := K) rfl) mIx (qv 0) q_int (fun _ _ => rfl)) (q_ix (ix_any (K := K) rfl) mIx (qv 1) q_int (fun _ _ => rfl)) (fun _ _ => rfl)))), fun ss R h => ?_⟩)
  · obtain ⟨s, o, l, d, rfl, _⟩ := h
    rfl
  obtain ⟨s, o, l, d, rfl, hd, q⟩ := h
  walk_at "dd"
  exact ⟨_, atI_li hd, q⟩
theorem zipP_get {xs ys : List PyData} {i : Nat} (h : i < (zipD xs ys).length) : (zipD xs ys)[i] = .tuple [xs[i]'(by rw [zipD_len] at h; omega), ys[i]'(by rw [zipD_len] at h; omega)] := by
  simp [zipD]
theorem map_bool (g : Nat → Bool) (L : List Nat) : L.map (fun i => PyData.bool (g i)) = (L.map g).map PyData.bool := by rw [List.map_map]; rfl
def risesR (r : List Int) : Bool := ((List.range (r.length - 1)).map fun i => decide (r.getD i 0 < r.getD (i + 1) 0)).all id
def insR (n : Nat) (r : List Int) : Bool := ((List.range r.length).map fun i => decide (0 ≤ r.getD i 0) && decide (r.getD i 0 < n)).all id
def rowOk (n : Nat) (r : List Int) : Bool := risesR r && insR n r
abbrev s_is_row : Stmt := top 10
theorem sc_is_row : FnScope ["row", "clocks", "rising"] ["row", "clocks"] (defScope s_is_row) := ⟨rfl, rfl, rfl, by decide +kernel, rfl, by decide +kernel, by decide +kernel⟩
def spIsRow : DSp := fun ss R => ∃ (r : List Int) (n : Nat), ss = [.fr (.list (li r)), .fr (.int n)] ∧ r.length ≤ 1000 ∧ R (.fr (.bool (rowOk n r))) [.un, .un]
theorem bi_is_row {f : Addr} {fd : FuncData} (F : Fun K "is_row" "is_row" s_is_row f fd) : Binds K fd ["row", "clocks"] [] := F.binds (ps := ["row", "clocks"]) fun _ _ _ _ _ _ us hl => us2 (Q := fun us => bindArgs _ ⟨us, []⟩ = pure (List.zip _ us)) hl fun _ _ => rfl
theorem ok_is_row {f : Addr} {fd : FuncData} (F : Fun K "is_row" "is_row" s_is_row f fd) (B : Bn mg) : FnOk P w K mg base CX0 1 f fd ["row", "clocks"] (spD K spIsRow) := by
  refine okD (k := 0) F sc_is_row (fun ss R h => ?_) (by decide) (fun cdv A outer s H E hr => ⟨_, (qs_cons (q_set (i := 2) sc_is_row.nd rfl (Or.inl rfl) (q_cb (kAll (K := K) rfl rfl) mAll rfl B.all PyProof.Rows.boot_all (qa_cons (q_comp (N' := ["one", "other"]) (ix := [none, none]) rfl (bs_of (N := ["row", "clocks", "rising"]) (sc0 := defScope s_is_row) rfl rfl (by decide +kernel)) (qi_zip false false (K := K) rfl rfl B.zip (qa_cons (qf 0) (qa_cons (q_slL (K := K) rfl (qv 0) (qo_some q_int) qo_none) qa_nil))) (fun _ _ _ _ => (qg_tup (K := K) (n := 2) rfl rfl (qgs_cons (qg_name (i := 0) (show List.Nodup (["one", "other"] : List Str) by decide +kernel) rfl (Or.inl rfl)) (qgs_cons (qg_name (i := 1) (show List.Nodup (["one", "other"] : List Str) by decide +kernel) rfl (Or.inl rfl)) qgs_nil)))) (fun _ _ _ _ => qif_nil) (fun _ _ _ _ => (q_cmp op_lt mB (qv 0) (qv 1) (nomark _)))) qa_nil)))
      (qs_one (q_ret (q_and (qv 2) (q_one (q_cb (kAll (K := K) rfl rfl) mAll rfl B.all PyProof.Rows.boot_all (qa_cons (q_comp (N' := ["clock", "clocks"]) (ix := [none, some 1]) rfl (bs_of (N := ["row", "clocks", "rising"]) (sc0 := defScope s_is_row) rfl rfl (by decide +kernel)) (qi_list (K := K) rfl (qf 0)) (fun _ _ _ _ => (qg_name (i := 0) (show List.Nodup (["clock", "clocks"] : List Str) by decide +kernel) rfl (Or.inl rfl))) (fun _ _ _ _ => qif_nil) (fun _ _ _ _ => (q_chain op_le mB op_lt mB q_int (qv 0) (qv 1)))) qa_nil))))))), fun ss R h => ?_⟩)
  · obtain ⟨r, n, rfl, _⟩ := h
    rfl
  obtain ⟨r, n, rfl, h1, q⟩ := h
  walk_at "dd"
  rw [show (some (1 : Int)) = some ((1 : Nat) : Int) from rfl, cut_from]
  refine cd_map (fun i => .bool (decide (r.getD i 0 < r.getD (i + 1) 0))) (by rw [zipD_len, List.length_map]; omega) (fun i hi Q hQ => ?_) ?_
  · rw [zipP_get, li_get, li_get]
    rw [zipD_len, List.length_map, List.length_map, List.length_drop] at hi
    have e : (r.drop 1).getD i 0 = r.getD (i + 1) 0 := by simp [List.getD_eq_getElem?_getD, List.getElem?_drop, Nat.add_comm]
    rw [e]
    walk_at "dd"
    exact hQ
  rw [map_bool, zipD_len, List.length_map, List.length_map, List.length_drop, Nat.min_eq_right (Nat.sub_le _ _)]
  walk_at "dd"
  have e : ((List.range (r.length - 1)).map fun i => decide (r.getD i 0 < r.getD (i + 1) 0)).all id = risesR r := rfl
  simp only [e]
  unfold rowOk at q
  generalize risesR r = b at *
  refine ite2 (fun hb => ?_) (fun hb => ?_)
  · refine cd_map (fun i => .bool (decide (0 ≤ r.getD i 0) && decide (r.getD i 0 < n))) (by rw [List.length_map]; omega) (fun i hi Q hQ => ?_) ?_
    · rw [li_get]
      walk_at "dd"
      refine ite2 (fun h0 => ?_) (fun h0 => ?_)
      · rw [decide_eq_true h0, Bool.true_and] at hQ
        exact hQ
      · rw [decide_eq_false h0, Bool.false_and] at hQ
        exact hQ
    rw [map_bool, List.length_map]
    walk_at "dd"
    rw [hb, Bool.true_and] at q
    exact q
  · rw [Bool.not_eq_true] at hb
    rw [hb, Bool.false_and] at q
    exact q
def dueIn (l r : List Int) : Bool := (((List.range l.length).filter fun i => decide (l.getD i 0 = 1)).map fun (i : Nat) => decide ((i : Int) ∈ r)).all id
def mayW (s o l r : List Int) (d : Nat) : Bool := rowOk s.length r && (decide ((r.length : Int) ≤ o.getD d 0) && dueIn l r)
abbrev s_may_wind : Stmt := top 11
theorem sc_may_wind : FnScope ["town", "standing", "row"] ["town", "standing", "row"] (defScope s_may_wind) := ⟨rfl, rfl, rfl, by decide +kernel, rfl, by decide +kernel, by decide +kernel⟩
def spMayWind : DSp := fun ss R => ∃ (s o l r : List Int) (d : Nat), ss = [.fr (.tuple [.list (li s), .list (li o)]), .fr (.tuple [.int d, .tuple (li l)]), .fr (.list (li r))] ∧ d < o.length ∧ l.length ≤ 1000 ∧ r.length ≤ 1000 ∧ R (.fr (.bool (mayW s o l r d))) [.un, .un, .un]
theorem bi_may_wind {f : Addr} {fd : FuncData} (F : Fun K "may_wind" "may_wind" s_may_wind f fd) : Binds K fd ["town", "standing", "row"] [] := F.binds (ps := ["town", "standing", "row"]) fun _ _ _ _ _ _ us hl => us3 (Q := fun us => bindArgs _ ⟨us, []⟩ = pure (List.zip _ us)) hl fun _ _ _ => rfl
theorem ok_may_wind {f : Addr} {fd : FuncData} (F : Fun K "may_wind" "may_wind" s_may_wind f fd) (B : Bn mg) (G_is_row : Cal P w K mg base "is_row" 1 (spD K spIsRow)) (G_hands_on : Cal P w K mg base "hands_on" 1 (spD K spHandsOn)) : FnOk P w K mg base CX0 2 f fd ["town", "standing", "row"] (spD K spMayWind) := by
  refine okD (k := 1) F sc_may_wind (fun ss R h => ?_) (by decide) (fun cdv A outer s H E hr => ⟨_, (qs_cons (q_if (PW.pt (qw_or (qt_not (qt_val (q_call G_is_row (hr.mono (by decide)) rfl (qa_cons (qf 2) (qa_cons (q_cb (kLen (K := K) rfl) mLen rfl B.len PySem.boot_len (qa_cons (q_ix (ix_any (K := K) rfl) mIx (qv 0) q_int (fun _ _ => rfl)) qa_nil)) qa_nil))))) (qw_or1 (qt_cmp op_gt mB (q_cb (kLen (K := K) rfl) mLen rfl B.len PySem.boot_len (qa_cons (qv 2) qa_nil)) (q_call G_hands_on (hr.mono (by decide)) rfl (qa_cons (qf 0) (qa_cons (qf 1) qa_nil))) (nomark _))))) (qs_one (q_ret q_bl)) qs_nil)
      (qs_one (q_ret (q_cb (kAll (K := K) rfl rfl) mAll rfl B.all PyProof.Rows.boot_all (qa_cons (q_comp (N' := ["clock", "left", "row"]) (ix := [none, none, some 2]) rfl (bs_of (N := ["town", "standing", "row"]) (sc0 := defScope s_may_wind) rfl rfl (by decide +kernel)) (qi_enum true (K := K) rfl rfl B.enumerate (qa_cons (q_ix (ix_any (K := K) rfl) mIx (qv 1) q_int (fun _ _ => rfl)) qa_nil)) (fun _ _ _ _ => (qg_tup (K := K) (n := 2) rfl rfl (qgs_cons (qg_name (i := 0) (show List.Nodup (["clock", "left", "row"] : List Str) by decide +kernel) rfl (Or.inl rfl)) (qgs_cons (qg_name (i := 1) (show List.Nodup (["clock", "left", "row"] : List Str) by decide +kernel) rfl (Or.inl rfl)) qgs_nil)))) (fun _ _ _ _ => (qif_one (qt_cmp op_eq mEqI (qv 1) q_int (nomark _)))) (fun _ _ _ _ => (q_cmp (kIn (K := K) rfl) mIn (qv 0) (qv 2) (by with_unfolding_all rfl)))) qa_nil))))), fun ss R h => ?_⟩)
  · obtain ⟨s, o, l, r, d, rfl, _⟩ := h
    rfl
  obtain ⟨s, o, l, r, d, rfl, hd, hl, hr1, q⟩ := h
  walk_at "dd"
  rw [List.length_map]
  refine ⟨r, s.length, rfl, by omega, _, rfl, ?_⟩
  unfold mayW at q
  generalize rowOk s.length r = b at *
  refine ite2 (fun hb => ?_) (fun hb => ?_)
  · have hb : b = false := by simpa using hb
    rw [hb, Bool.false_and] at q
    exact q
  have hb : b = true := by simpa using hb
  rw [hb, Bool.true_and] at q
  refine ⟨s, o, l, d, rfl, hd, _, rfl, _, rfl, ?_⟩
  rw [List.length_map]
  refine ite2 (fun hg => ?_) (fun hg => ?_)
  · rw [decide_eq_false (by omega), Bool.false_and] at q
    exact q
  rw [decide_eq_true (by omega), Bool.true_and] at q
  refine cd_filter (fun i => decide (l.getD i 0 = 1)) (fun i => .bool (decide ((i : Int) ∈ r))) (by rw [enumD_len, List.length_map]; omega) (fun i hi Q Q' h1 h2 => ?_) ?_
  · rw [enumD_len, List.length_map] at hi
    rw [enumD_get, li_get]
    walk_at "dd"
    exact ite2 (fun h => h1 (by simpa using h)) (fun h => h2 (by simpa using h))
  rw [map_bool, enumD_len, List.length_map]
  walk_at "dd"
  exact q
abbrev s_behind : Stmt := top 12
theorem sc_behind : FnScope ["town", "standing", "row", "spans", "lefts"] ["town", "standing", "row"] (defScope s_behind) := ⟨rfl, rfl, rfl, by decide +kernel, rfl, by decide +kernel, by decide +kernel⟩
def spBehind : DSp := fun ss R => ∃ (s o l r : List Int) (d : Nat), ss = [.fr (.tuple [.list (li s), .list (li o)]), .fr (.tuple [.int d, .tuple (li l)]), .fr (.list (li r))] ∧ 1 ≤ o.length ∧ l.length = s.length ∧ s.length ≤ 1000 ∧ R (.fr (.tuple [.int (((d + 1) % o.length : Nat) : Int), .tuple (li (aftL s l r s.length))])) [.un, .un, .un]
theorem bi_behind {f : Addr} {fd : FuncData} (F : Fun K "behind" "behind" s_behind f fd) : Binds K fd ["town", "standing", "row"] [] := F.binds (ps := ["town", "standing", "row"]) fun _ _ _ _ _ _ us hl => us3 (Q := fun us => bindArgs _ ⟨us, []⟩ = pure (List.zip _ us)) hl fun _ _ _ => rfl
theorem ok_behind {f : Addr} {fd : FuncData} (F : Fun K "behind" "behind" s_behind f fd) (B : Bn mg) : FnOk P w K mg base CX0 1 f fd ["town", "standing", "row"] (spD K spBehind) := by
  refine okD (k := 0) F sc_behind (fun ss R h => ?_) (by decide) (fun cdv A outer s H E hr => ⟨_, (qs_cons (q_set (i := 3) sc_behind.nd rfl (Or.inr rfl) (q_ix (ix_any (K := K) rfl) mIx (qv 0) q_int (fun _ _ => rfl)))
      (qs_cons (q_setComp (i := 4)  sc_behind.nd rfl rfl (N' := ["clock", "left", "row", "spans"]) (ix := [none, none, some 2, some 3]) rfl (bs_of (N := ["town", "standing", "row", "spans", "lefts"]) (sc0 := defScope s_behind) rfl rfl (by decide +kernel)) (qi_enum true (K := K) rfl rfl B.enumerate (qa_cons (q_ix (ix_any (K := K) rfl) mIx (qv 1) q_int (fun _ _ => rfl)) qa_nil)) (fun _ _ _ _ => (qg_tup (K := K) (n := 2) rfl rfl (qgs_cons (qg_name (i := 0) (show List.Nodup (["clock", "left", "row", "spans"] : List Str) by decide +kernel) rfl (Or.inl rfl)) (qgs_cons (qg_name (i := 1) (show List.Nodup (["clock", "left", "row", "spans"] : List Str) by decide +kernel) rfl (Or.inl rfl)) qgs_nil)))) (fun _ _ _ _ => qif_nil) (fun _ _ _ _ => (q_ifExp (qt_cmp (kIn (K := K) rfl) mIn (qv 0) (qv 2) (by with_unfolding_all rfl)) (q_ix (ix_any (K := K) rfl) mIx (qv 3) (qv 0) (fun _ _ => rfl)) (q_op op_sub mI (qv 1) q_int))))
      (qs_one (q_ret (q_tup (qa_cons (q_op op_mod mIC (q_op op_add mI (q_ix (ix_any (K := K) rfl) mIx (qv 1) q_int (fun _ _ => rfl)) q_int) (q_cb (kLen (K := K) rfl) mLen rfl B.len PySem.boot_len (qa_cons (q_ix (ix_any (K := K) rfl) mIx (qv 0) q_int (fun _ _ => rfl)) qa_nil))) (qa_cons (q_tupOf (K := K) rfl rfl B.tuple (qa_cons (qv 4) qa_nil)) qa_nil))))))), fun ss R h => ?_⟩)
  · obtain ⟨s, o, l, r, d, rfl, _⟩ := h
    rfl
  obtain ⟨s, o, l, r, d, rfl, ho, hl, hs, q⟩ := h
  walk_at "dd"
  refine cd_map (fun i => .int (if (i : Int) ∈ r then s.getD i 0 else l.getD i 0 - 1)) (by rw [enumD_len, List.length_map]; omega) (fun i hi Q hQ => ?_) ?_
  · rw [enumD_len, List.length_map] at hi
    rw [enumD_get, li_get]
    walk_at "dd"
    refine ite2 (fun h => ?_) (fun h => ?_)
    · rw [if_pos h] at hQ
      exact ⟨_, atI_li (by omega), hQ⟩
    · rw [if_neg h] at hQ
      exact hQ
  have e : (List.range (enumD (li l)).length).map (fun i : Nat => PyData.int (if (i : Int) ∈ r then s.getD i 0 else l.getD i 0 - 1)) = li (aftL s l r s.length) := by
    rw [enumD_len, List.length_map, hl]
    show _ = List.map _ (List.map _ _)
    rw [List.map_map]
    rfl
  rw [e]
  walk_at "dd"
  rw [List.length_map]
  exact ⟨by omega, Nat.le_trans (by decide) line_big, q⟩
def lfAt (s l : List Int) (rows : List (List Int)) : Nat → List Int
  | 0 => l
  | i + 1 => aftL s (lfAt s l rows i) (rows.getD i []) s.length
theorem lfAt_len {s l : List Int} (h : l.length = s.length) (rows : List (List Int)) : ∀ i, (lfAt s l rows i).length = s.length
  | 0 => h
  | i + 1 => aftL_len _ _ _ _
def mayAtD (s o l : List Int) (rows : List (List Int)) (d i : Nat) : Bool := mayW s o (lfAt s l rows i) (rows.getD i []) ((d + i) % o.length)
abbrev s_gone : Stmt := top 14
theorem sc_gone : FnScope ["town", "standing", "rows", "here", "number", "row"] ["town", "standing", "rows"] (defScope s_gone) := ⟨rfl, rfl, rfl, by decide +kernel, rfl, by decide +kernel, by decide +kernel⟩
def spGone : DSpX := fun ss R RX => ∃ (s o l : List Int) (rows : List (List Int)) (d : Nat), ss = [.fr (.tuple [.list (li s), .list (li o)]), .fr (.tuple [.int d, .tuple (li l)]), .fr (.list (lr rows))] ∧ d < o.length ∧ l.length = s.length ∧ s.length ≤ 1000 ∧ (∀ r ∈ rows, r.length ≤ 1000) ∧
  ((∀ i, i < rows.length → mayAtD s o l rows d i = true) → R (.fr (.tuple [.int (((d + rows.length) % o.length : Nat) : Int), .tuple (li (lfAt s l rows rows.length))])) [.un, .un, .un]) ∧
  ∀ i : Nat, i < rows.length → (∀ j, j < i → mayAtD s o l rows d j = true) → mayAtD s o l rows d i = false → RX i
theorem bi_gone {f : Addr} {fd : FuncData} (F : Fun K "gone" "gone" s_gone f fd) : Binds K fd ["town", "standing", "rows"] [] := F.binds (ps := ["town", "standing", "rows"]) fun _ _ _ _ _ _ us hl => us3 (Q := fun us => bindArgs _ ⟨us, []⟩ = pure (List.zip _ us)) hl fun _ _ _ => rfl
theorem ok_gone {f : Addr} {fd : FuncData} (F : Fun K "gone" "gone" s_gone f fd) (B : Bn mg) {C : Addr} (cl : NoDayCls P w K mg base C) (G_may_wind : Cal P w K mg base "may_wind" 2 (spD K spMayWind)) (G_behind : Cal P w K mg base "behind" 1 (spD K spBehind)) : FnOk P w K mg base (CXE P w) 4 f fd ["town", "standing", "rows"] (spX K C spGone) := by
  refine okX (k := 3) F sc_gone (fun ss R RX h => ?_) (by decide) (fun cdv A outer s H E RX hr hx => ⟨_, (qs_consL (liftL (q_set (i := 3) sc_gone.nd rfl (Or.inl rfl) (qf 1)))
      (qs_consL (q_forL PassesOwn.leaving rfl (qi_enum false (K := K) rfl rfl B.enumerate (qa_cons (qf 2) qa_nil)) (qg_tup (K := K) (n := 2) rfl rfl (qgs_cons (qg_name (i := 4) sc_gone.nd rfl (Or.inl rfl)) (qgs_cons (qg_name (i := 5) sc_gone.nd rfl (Or.inl rfl)) qgs_nil))) (qs_consL (q_ifL (qt_not (qt_val (q_call G_may_wind (hr.mono (by decide)) rfl (qa_cons (qf 0) (qa_cons (qf 3) (qa_cons (qf 5) qa_nil)))))) (qs_oneL (q_raise (k := 0) hx cl (hr.mono (by decide)) rfl (qa_cons (qv 4) qa_nil))) (liftsL qs_nil))
      (qs_oneL (liftL (q_set (i := 3) sc_gone.nd rfl (Or.inl rfl) (q_call G_behind (hr.mono (by decide)) rfl (qa_cons (qf 0) (qa_cons (qf 3) (qa_cons (qf 5) qa_nil)))))))))
      (qs_oneL (liftL (q_ret (qv 3)))))), fun ss R h => ?_⟩)
  · obtain ⟨s, o, l, rows, d, rfl, _⟩ := h
    rfl
  obtain ⟨s, o, l, rows, d, rfl, hd, hl, hs, hrw, q, qx⟩ := h
  walk_at "dd"
  refine fd_intro (fun i env => i ≤ rows.length ∧ (∀ j, j < i → mayAtD s o l rows d j = true) ∧ ∃ (a b : Sl), env = [.fr (.tuple [.list (li s), .list (li o)]), .fr (.tuple [.int d, .tuple (li l)]), .fr (.list (lr rows)), .fr (.tuple [.int (((d + i) % o.length : Nat) : Int), .tuple (li (lfAt s l rows i))]), a, b]) ⟨by omega, fun j hj => by omega, _, _, by rw [Nat.add_zero, Nat.mod_eq_of_lt hd]; rfl⟩ ?_ ?_
  · rintro i env hi ⟨hle, hj, a, b, rfl⟩
    rw [enumD_len, List.length_map] at hi
    rw [enumD_get, lr_get]
    have hm := hrw _ (getD_memL (l := rows) hi)
    have hlf := lfAt_len hl rows i
    walk_at "dd"
    refine ⟨s, o, lfAt s l rows i, rows.getD i [], (d + i) % o.length, rfl, Nat.mod_lt _ (by omega), by omega, hm, _, rfl, ?_⟩
    have e : mayW s o (lfAt s l rows i) (rows.getD i []) ((d + i) % o.length) = mayAtD s o l rows d i := rfl
    rw [e]
    refine ite2 (fun hf => ?_) (fun hf => ?_)
    · exact qx i hi hj (by simpa using hf)
    · have hf : mayAtD s o l rows d i = true := by simpa using hf
      refine ⟨s, o, lfAt s l rows i, rows.getD i [], (d + i) % o.length, rfl, by omega, hlf, hs, ?_⟩
      refine ⟨_, rfl, by omega, fun j hj2 => ?_, ?_⟩
      · by_cases hji : j < i
        · exact hj j hji
        · have : j = i := by omega
          rw [this]; exact hf
      · rw [Nat.mod_add_mod]
        exact rfl
  · rintro env ⟨hle, hj, a, b, rfl⟩
    rw [enumD_len, List.length_map] at hj ⊢
    walk_at "dd"
    exact q hj
abbrev s_wound : Stmt := top 13
theorem sc_wound : FnScope ["town", "standing", "row"] ["town", "standing", "row"] (defScope s_wound) := ⟨rfl, rfl, rfl, by decide +kernel, rfl, by decide +kernel, by decide +kernel⟩
def spWoundX : DSpX := fun ss R RX => ∃ (s o l r : List Int) (d : Nat), ss = [.fr (.tuple [.list (li s), .list (li o)]), .fr (.tuple [.int d, .tuple (li l)]), .fr (.list (li r))] ∧ d < o.length ∧ l.length = s.length ∧ s.length ≤ 1000 ∧ r.length ≤ 1000 ∧
  (mayW s o l r d = true → R (.fr (.tuple [.int (((d + 1) % o.length : Nat) : Int), .tuple (li (aftL s l r s.length))])) [.un, .un, .un]) ∧ (mayW s o l r d = false → RX 0)
theorem bi_wound {f : Addr} {fd : FuncData} (F : Fun K "wound" "wound" s_wound f fd) : Binds K fd ["town", "standing", "row"] [] := F.binds (ps := ["town", "standing", "row"]) fun _ _ _ _ _ _ us hl => us3 (Q := fun us => bindArgs _ ⟨us, []⟩ = pure (List.zip _ us)) hl fun _ _ _ => rfl
theorem ok_wound {f : Addr} {fd : FuncData} (F : Fun K "wound" "wound" s_wound f fd) (B : Bn mg) {C : Addr} (cl : NoDayCls P w K mg base C) (G_gone : CalX P w K mg base C "gone" 4 spGone) : FnOk P w K mg base (CXE P w) 5 f fd ["town", "standing", "row"] (spX K C spWoundX) := by
  refine okX (k := 4) F sc_wound (fun ss R RX h => ?_) (by decide) (fun cdv A outer s H E RX hr hx => ⟨_, (qs_oneL (q_retX hx G_gone (hr.mono (by decide)) rfl (qa_cons (qf 0) (qa_cons (qf 1) (qa_cons (q_lst (qa_cons (qf 2) qa_nil)) qa_nil))))), fun ss R h => ?_⟩)
  · obtain ⟨s, o, l, r, d, rfl, _⟩ := h
    rfl
  obtain ⟨s, o, l, r, d, rfl, hd, hl, hs, hr1, q, qx⟩ := h
  walk_at "dd"
  have e0 : mayAtD s o l [r] d 0 = mayW s o l r d := by
    unfold mayAtD
    rw [Nat.add_zero, Nat.mod_eq_of_lt hd]
    rfl
  refine ⟨Nat.le_trans (by decide) line_big, s, o, l, [r], d, rfl, hd, hl, hs, fun x hx => by rw [List.mem_singleton.mp hx]; exact hr1, fun ha => ?_, fun i hi _ hn => ?_⟩
  · exact ⟨_, rfl, q (by rw [← e0]; exact ha 0 (by simp))⟩
  · have : i = 0 := by simpa using hi
    subst this
    rw [e0] at hn
    exact qx hn
abbrev s__law_only : Stmt := top 20
theorem sc__law_only : FnScope ["_law_error", "_law_which", "_law_found", "_law_due"] ["_law_error", "_law_which"] (defScope s__law_only) := ⟨rfl, rfl, rfl, by decide +kernel, rfl, by decide +kernel, by decide +kernel⟩
def spOnly (C : Addr) : DSp := fun ss R => ∃ n : Int, ss = [.fr (excD C n), .fr (.int 0)] ∧ R (.fr (.bool true)) [.un, .un]
theorem bi__law_only {f : Addr} {fd : FuncData} (F : Fun K "_law_only" "_law_only" s__law_only f fd) : Binds K fd ["_law_error", "_law_which"] [] := F.binds (ps := ["_law_error", "_law_which"]) fun _ _ _ _ _ _ us hl => us2 (Q := fun us => bindArgs _ ⟨us, []⟩ = pure (List.zip _ us)) hl fun _ _ => rfl
theorem ok__law_only {f : Addr} {fd : FuncData} (F : Fun K "_law_only" "_law_only" s__law_only f fd) (B : Bn mg) {C : Addr} (cl : NoDayCls P w K mg base C) {Dd : Addr} (px : ExcPack K mg C Dd) : FnOk P w K mg base CX0 2 f fd ["_law_error", "_law_which"] (spD K (spOnly C)) := by
  refine okD (k := 1) F sc__law_only (fun ss R h => ?_) (by decide) (fun cdv A outer s H E hr => ⟨_, (qs_cons (q_set (i := 2) sc__law_only.nd rfl (Or.inl rfl) (q_lst (qa_cons (q_isN rfl px px.NoDay rfl B.isinstance rfl (qf 0)) (qa_cons (q_isN rfl px px.NoHands rfl B.isinstance rfl (qf 0)) (qa_cons (q_isN rfl px px.NoText rfl B.isinstance rfl (qf 0)) qa_nil)))))
      (qs_cons (q_set (i := 2) sc__law_only.nd rfl (Or.inl rfl) (q_opL (op_catS (K := K) rfl) mCat (qv 2) (q_lst (qa_cons (q_isN rfl px px.NoTown rfl B.isinstance rfl (qf 0)) (qa_cons (q_isN rfl px px.Taken rfl B.isinstance rfl (qf 0)) qa_nil)))))
      (qs_cons (q_setComp (i := 3)  sc__law_only.nd rfl rfl (N' := ["_law_k", "_law_which"]) (ix := [none, some 1]) rfl (bs_of (N := ["_law_error", "_law_which", "_law_found", "_law_due"]) (sc0 := defScope s__law_only) rfl rfl (by decide +kernel)) (qi_rng1 rfl B.range (qa_cons q_int qa_nil)) (fun _ _ _ _ => (qg_name (i := 0) (show List.Nodup (["_law_k", "_law_which"] : List Str) by decide +kernel) rfl (Or.inl rfl))) (fun _ _ _ _ => qif_nil) (fun _ _ _ _ => (q_cmp op_eq mEqI (qv 0) (qv 1) (nomark _))))
      (qs_one (q_ret (q_and (q_cmp (kEqD (K := K) rfl hr.units) mEq (qv 2) (qv 3) (nomark _)) (q_and (q_isB (T := "ValueError") rfl px.mro px.lo (.ty (by kernel_rfl)) rfl B.isinstance rfl px.vErr (by rfl) (qf 0)) (q_one (q_isN rfl px px.TownError rfl B.isinstance rfl (qf 0)))))))))), fun ss R h => ?_⟩)
  · obtain ⟨n, rfl, _⟩ := h
    rfl
  obtain ⟨n, rfl, q⟩ := h
  walk_at "dd"
  have hz : ∀ k, k ≤ 1000 → k ≤ sizeLine := fun k hk => Nat.le_trans (by omega) line_big
  refine ⟨n, rfl, n, rfl, n, rfl, hz _ (by decide), n, rfl, n, rfl, hz _ (by decide), hz _ (by decide), by decide, by decide, cd_map (fun i => .bool (decide ((i : Int) = 0))) (by rw [rangeD_len]; decide) (fun i hi Q hQ => ?_) ?_⟩
  · rw [rangeD_get]
    walk_at "dd"
    exact hQ
  rw [rangeD_len]
  walk_at "dd"
  have e1 : (Value.ref Dd :: bmV).contains (.type "ValueError") = true := rfl
  rw [e1]
  refine ⟨by decide, by decide, ?_⟩
  rw [if_pos (by decide)]
  exact ⟨n, rfl, by rw [if_pos rfl]; exact ⟨n, rfl, q⟩⟩
abbrev s__law_whole : Stmt := top 19
theorem sc__law_whole : FnScope ["_law_found"] ["_law_found"] (defScope s__law_whole) := ⟨rfl, rfl, rfl, by decide +kernel, rfl, by decide +kernel, by decide +kernel⟩
def spWhole : DSp := fun ss R => ∃ i : Int, ss = [.fr (.int i)] ∧ R (.fr (.bool true)) [.un]
theorem bi__law_whole {f : Addr} {fd : FuncData} (F : Fun K "_law_whole" "_law_whole" s__law_whole f fd) : Binds K fd ["_law_found"] [] := F.binds (ps := ["_law_found"]) fun _ _ _ _ _ _ us hl => us1 (Q := fun us => bindArgs _ ⟨us, []⟩ = pure (List.zip _ us)) hl fun _ => rfl
theorem ok__law_whole {f : Addr} {fd : FuncData} (F : Fun K "_law_whole" "_law_whole" s__law_whole f fd) (B : Bn mg) : FnOk P w K mg base CX0 1 f fd ["_law_found"] (spD K spWhole) := by
  refine okD (k := 0) F sc__law_whole (fun ss R h => ?_) (by decide) (fun cdv A outer s H E hr => ⟨_, (qs_one (q_ret (q_and (q_isT (K := K) rfl kit_int rfl B.isinstance rfl B.int PyProof.Rows.boot_int (qv 0)) (q_one (q_not (q_isT (K := K) rfl kit_bool rfl B.isinstance rfl B.bool PyProof.Rows.boot_bool (qv 0))))))), fun ss R h => ?_⟩)
  · obtain ⟨i, rfl, _⟩ := h
    rfl
  obtain ⟨i, rfl, q⟩ := h
  walk_at "dd"
  exact q
abbrev s__law_told : Stmt := top 25
theorem sc__law_told : FnScope ["_law_found", "_law_due"] ["_law_found", "_law_due"] (defScope s__law_told) := ⟨rfl, rfl, rfl, by decide +kernel, rfl, by decide +kernel, by decide +kernel⟩
def spTold : DSp := fun ss R => ∃ (d : Int) (l : List Int), ss = [.fr (.tuple [.int d, .tuple (li l)]), .fr (.tuple [.int d, .tuple (li l)])] ∧ l.length ≤ 1000 ∧ R (.fr (.bool true)) [.un, .un]
theorem bi__law_told {f : Addr} {fd : FuncData} (F : Fun K "_law_told" "_law_told" s__law_told f fd) : Binds K fd ["_law_found", "_law_due"] [] := F.binds (ps := ["_law_found", "_law_due"]) fun _ _ _ _ _ _ us hl => us2 (Q := fun us => bindArgs _ ⟨us, []⟩ = pure (List.zip _ us)) hl fun _ _ => rfl
theorem ok__law_told {f : Addr} {fd : FuncData} (F : Fun K "_law_told" "_law_told" s__law_told f fd) (B : Bn mg) (G__law_whole : Cal P w K mg base "_law_whole" 1 (spD K spWhole)) : FnOk P w K mg base CX0 2 f fd ["_law_found", "_law_due"] (spD K spTold) := by
  refine okD (k := 1) F sc__law_told (fun ss R h => ?_) (by decide) (fun cdv A outer s H E hr => ⟨_, (qs_cons (q_if (PW.pt (qw_or (qt_not (qt_val (q_isT (K := K) rfl kit_tuple rfl B.isinstance rfl B.tuple PyProof.Rows.boot_tuple (qv 0)))) (qw_or (qt_cmp op_ne mNeI (q_cb (kLen (K := K) rfl) mLen rfl B.len PySem.boot_len (qa_cons (qv 0) qa_nil)) q_int (nomark _)) (qw_or (qt_not (qt_val (q_call G__law_whole (hr.mono (by decide)) rfl (qa_cons (q_ix (ix_any (K := K) rfl) mIx (qv 0) q_int (fun _ _ => rfl)) qa_nil)))) (qw_or1 (qt_not (qt_val (q_isT (K := K) rfl kit_tuple rfl B.isinstance rfl B.tuple PyProof.Rows.boot_tuple (q_ix (ix_any (K := K) rfl) mIx (qv 0) q_int (fun _ _ => rfl)))))))))) (qs_one (q_ret q_bl)) qs_nil)
      (qs_one (q_ret (q_and (q_cmp (kEqD (K := K) rfl hr.units) mEq (qv 0) (qv 1) (nomark _)) (q_one (q_cmp (kEqD (K := K) rfl hr.units) mEq (q_comp (N' := ["_law_left"]) (ix := [none]) rfl (bs_of (N := ["_law_found", "_law_due"]) (sc0 := defScope s__law_told) rfl rfl (by decide +kernel)) (qi_tup (K := K) rfl (q_ix (ix_any (K := K) rfl) mIx (qv 0) q_int (fun _ _ => rfl))) (fun _ _ _ _ => (qg_name (i := 0) (show List.Nodup (["_law_left"] : List Str) by decide +kernel) rfl (Or.inl rfl))) (fun _ _ _ _ => (qif_one (qt_not (qt_val (q_call G__law_whole (hr.mono (by decide)) rfl (qa_cons (qf 0) qa_nil)))))) (fun _ _ _ _ => (qf 0))) (q_lst qa_nil) (nomark _))))))), fun ss R h => ?_⟩)
  · obtain ⟨d, l, rfl, _⟩ := h
    rfl
  obtain ⟨d, l, rfl, hl, q⟩ := h
  walk_at "dd"
  rw [if_neg (by decide)]
  refine ⟨d, rfl, true, rfl, ?_⟩
  rw [if_neg (by decide)]
  have sh : Sh 3 (.tuple [.int d, .tuple (li l)]) := Sh.two (Sh.int 2 d) ((Sh.intT 1 l))
  refine ⟨sh.shp (by decide), sh.shp (by decide), ?_⟩
  rw [eqv_same sh (by decide), if_pos rfl]
  refine cd_filter (fun _ => false) (fun i => .int (l.getD i 0)) (by rw [List.length_map]; omega) (fun i hi Q Q' h1 h2 => ?_) ?_
  · rw [li_get]
    walk_at "dd"
    exact ⟨_, rfl, true, rfl, h2 rfl⟩
  have ef : List.filter (fun _ => false) (List.range (li l).length) = [] := by simp
  rw [ef]
  walk_at "dd"
  exact ⟨Nat.zero_le _, (Sh.ints 0 []).shp (by decide), (Sh.ints 0 []).shp (by decide), q⟩
theorem due_iff' (l r : List Int) : dueIn l r = true ↔ ∀ c, c < l.length → l.getD c 0 = 1 → (c : Int) ∈ r := by
  unfold dueIn
  rw [List.all_eq_true]
  constructor
  · intro h c hc e
    have := h (decide ((c : Int) ∈ r)) (List.mem_map.mpr ⟨c, List.mem_filter.mpr ⟨List.mem_range.mpr hc, decide_eq_true e⟩, rfl⟩)
    exact of_decide_eq_true this
  · intro h x hx
    obtain ⟨c, hc, rfl⟩ := List.mem_map.mp hx
    obtain ⟨h1, h2⟩ := List.mem_filter.mp hc
    exact decide_eq_true (h c (List.mem_range.mp h1) (of_decide_eq_true h2))
theorem ins_iff (n : Nat) (r : List Int) : insR n r = true ↔ ∀ x ∈ r, 0 ≤ x ∧ x < n := by
  unfold insR
  rw [List.all_eq_true]
  constructor
  · intro h x hx
    obtain ⟨i, hi, rfl⟩ := List.getElem_of_mem hx
    have := h _ (List.mem_map.mpr ⟨i, List.mem_range.mpr hi, rfl⟩)
    rw [List.getD_eq_getElem?_getD, List.getElem?_eq_getElem hi] at this
    simpa using this
  · intro h y hy
    obtain ⟨i, hi, rfl⟩ := List.mem_map.mp hy
    have := h _ (getD_mem' (List.mem_range.mp hi))
    simpa using this
theorem rises_iff : ∀ r : List Int, risesR r = true ↔ r.Pairwise (· < ·)
  | [] => ⟨fun _ => .nil, fun _ => rfl⟩
  | [x] => ⟨fun _ => by simp, fun _ => rfl⟩
  | x :: y :: r => by
    have ih := rises_iff (y :: r)
    have e : risesR (x :: y :: r) = (decide (x < y) && risesR (y :: r)) := by
      unfold risesR
      show ((List.range (r.length + 1)).map _).all id = _
      rw [List.range_succ_eq_map, List.map_cons, List.all_cons, List.map_map]
      rfl
    rw [e, Bool.and_eq_true, decide_eq_true_eq, ih]
    constructor
    · rintro ⟨h1, h2⟩
      refine List.pairwise_cons.mpr ⟨fun z hz => ?_, h2⟩
      rcases List.mem_cons.mp hz with hz | hz
      · rw [hz]; exact h1
      · exact Int.lt_trans h1 ((List.pairwise_cons.mp h2).1 z hz)
    · intro h
      have := List.pairwise_cons.mp h
      exact ⟨this.1 y (by simp), this.2⟩
theorem mem_subs : ∀ (n : Nat) (r : List Int), r.Pairwise (· < ·) → (∀ x ∈ r, 0 ≤ x ∧ x < n) → r ∈ subs n
  | 0, r, _, h => by
    cases r with
    | nil => simp [subs]
    | cons x r => have := h x (by simp); omega
  | n + 1, r, hp, h => by
    refine List.mem_append.mpr ?_
    by_cases hr : r = []
    · subst hr
      exact .inl (mem_subs n [] .nil (by simp))
    obtain ⟨r', x, rfl⟩ : ∃ r' x, r = r' ++ [x] := ⟨r.dropLast, r.getLast hr, (List.dropLast_concat_getLast hr).symm⟩
    obtain ⟨p1, _, p3⟩ := List.pairwise_append.mp hp
    have hx := h x (by simp)
    have hlt : ∀ y ∈ r', 0 ≤ y ∧ y < x := fun y hy => ⟨(h y (by simp [hy])).1, p3 y hy x (by simp)⟩
    by_cases hxn : x = (n : Int)
    · refine .inr (List.mem_map.mpr ⟨r', mem_subs n r' p1 fun y hy => by have := hlt y hy; omega, by rw [hxn]⟩)
    · refine .inl (mem_subs n _ hp fun y hy => ?_)
      rcases List.mem_append.mp hy with hy | hy
      · have := hlt y hy; omega
      · rw [List.mem_singleton.mp hy]; omega
theorem fit_iff {s o l r : List Int} {d : Nat} (hl : l.length = s.length) : r ∈ fitR s.length (o.getD d 0) l ↔ mayW s o l r d = true := by
  unfold fitR mayW rowOk goodR
  rw [List.mem_filter, Bool.and_eq_true, Bool.and_eq_true, Bool.and_eq_true, Bool.and_eq_true, rises_iff, ins_iff, due_iff', hl]
  simp only [decide_eq_true_eq, List.filter_eq_nil_iff]
  unfold dueL
  constructor
  · rintro ⟨h1, h2, h3⟩
    obtain ⟨_, a, b⟩ := subs_row _ _ h1
    refine ⟨⟨a, b⟩, h2, fun c hc e => ?_⟩
    have := h3 (c : Int) (List.mem_map.mpr ⟨c, List.mem_filter.mpr ⟨List.mem_range.mpr hc, decide_eq_true e⟩, rfl⟩)
    simpa using this
  · rintro ⟨⟨a, b⟩, h2, h3⟩
    refine ⟨mem_subs _ _ a b, h2, fun x hx => ?_⟩
    obtain ⟨c, hc, rfl⟩ := List.mem_map.mp hx
    obtain ⟨h4, h5⟩ := List.mem_filter.mp hc
    have := h3 c (List.mem_range.mp h4) (of_decide_eq_true h5)
    simpa using this
abbrev s_begun : Stmt := top 8
theorem sc_begun : FnScope ["town"] ["town"] (defScope s_begun) := ⟨rfl, rfl, rfl, by decide +kernel, rfl, by decide +kernel, by decide +kernel⟩
def spBegun : DSp := fun ss R => ∃ (s o : List Int), ss = [.fr (.tuple [.list (li s), .list (li o)])] ∧ R (.fr (.tuple [.int 0, .tuple (li s)])) [.un]
theorem bi_begun {f : Addr} {fd : FuncData} (F : Fun K "begun" "begun" s_begun f fd) : Binds K fd ["town"] [] := F.binds (ps := ["town"]) fun _ _ _ _ _ _ us hl => us1 (Q := fun us => bindArgs _ ⟨us, []⟩ = pure (List.zip _ us)) hl fun _ => rfl
theorem ok_begun {f : Addr} {fd : FuncData} (F : Fun K "begun" "begun" s_begun f fd) (B : Bn mg) : FnOk P w K mg base CX0 1 f fd ["town"] (spD K spBegun) := by
  refine okD (k := 0) F sc_begun (fun ss R h => ?_) (by decide) (fun cdv A outer s H E hr => ⟨_, (qs_one (q_ret (q_tup (qa_cons q_int (qa_cons (q_tupOf (K := K) rfl rfl B.tuple (qa_cons (q_ix (ix_any (K := K) rfl) mIx (qv 0) q_int (fun _ _ => rfl)) qa_nil)) qa_nil))))), fun ss R h => ?_⟩)
  · obtain ⟨s, o, rfl, _⟩ := h
    rfl
  obtain ⟨s, o, rfl, q⟩ := h
  walk_at "dd"
  exact ⟨Nat.le_trans (by decide) line_big, q⟩
theorem eqv_lr_nil (rr : List (List Int)) : PyData.eqv (.list (lr rr)) (.list []) = decide (rr = []) := by
  cases rr with
  | nil => rfl
  | cons r rr => rfl
theorem lrAt {rr : List (List Int)} {k : Nat} (h : k < rr.length) : atI (lr rr) (k : Int) = some (.list (li (rr.getD k []))) := atI_nat (by
  rw [List.getElem?_map, List.getElem?_eq_getElem h, List.getD_eq_getElem?_getD, List.getElem?_eq_getElem h]
  rfl)
theorem cut_lr (ns : List (List Int)) (a b : Option Int) : cutD (lr ns) a b = lr ((ns.drop (HT.sIx ns.length 0 a)).take (HT.sIx ns.length ns.length b - HT.sIx ns.length 0 a)) := by
  unfold cutD
  show (List.drop _ (List.map (fun r => PyData.list (li r)) ns)).take _ = List.map _ _
  rw [List.length_map, List.map_take, List.map_drop]
theorem cutR_some (ns : List (List Int)) (a b : Option Int) : ∃ ms : List (List Int), cutD (lr ns) a b = lr ms ∧ ms.length ≤ ns.length ∧ ∀ r ∈ ms, r ∈ ns := by
  refine ⟨_, cut_lr ns a b, ?_, fun r hr => List.mem_of_mem_drop (List.mem_of_mem_take hr)⟩
  rw [List.length_take, List.length_drop]
  omega
abbrev s__law_drawn : Stmt := top 28
theorem sc__law_drawn : FnScope ["_law_town_here", "_law_standing_here", "_law_draws_here", "_law_rows_here", "_law_k", "_law_fit", "_law_number", "_law_at"] ["_law_town_here", "_law_standing_here", "_law_draws_here"] (defScope s__law_drawn) := ⟨rfl, rfl, rfl, by decide +kernel, rfl, by decide +kernel, by decide +kernel⟩
def spDrawn : DSp := fun ss R => ∃ (s o lf l : List Int) (d : Nat), ss = [.fr (.tuple [.list (li s), .list (li o)]), .fr (.tuple [.int d, .tuple (li lf)]), .io (li l)] ∧ TB s o ∧ StB s o d lf ∧ Ds l ∧
  ∀ (rs : List (List Int)) (l' : List Int), Ds l' → rs.length ≤ 60 → (∀ r ∈ rs, r.length ≤ 10) → R (.ow (lr rs)) [.un, .un, .io (li l')]
theorem bi__law_drawn {f : Addr} {fd : FuncData} (F : Fun K "_law_drawn" "_law_drawn" s__law_drawn f fd) : Binds K fd ["_law_town_here", "_law_standing_here", "_law_draws_here"] [] := F.binds (ps := ["_law_town_here", "_law_standing_here", "_law_draws_here"]) fun _ _ _ _ _ _ us hl => us3 (Q := fun us => bindArgs _ ⟨us, []⟩ = pure (List.zip _ us)) hl fun _ _ _ => rfl
theorem ok__law_drawn {f : Addr} {fd : FuncData} (F : Fun K "_law_drawn" "_law_drawn" s__law_drawn f fd) (B : Bn mg) (G__law_pop : Cal P w K mg base "_law_pop" 1 (spD K spPop)) (G__law_rows : Cal P w K mg base "_law_rows" 1 (spD K spRows)) (G__law_after : Cal P w K mg base "_law_after" 1 (spD K spAfter)) (G__law_odd_row : Cal P w K mg base "_law_odd_row" 2 (spD K spOdd)) : FnOk P w K mg base CX0 3 f fd ["_law_town_here", "_law_standing_here", "_law_draws_here"] (spD K spDrawn) := by
  refine okD (k := 2) F sc__law_drawn (fun ss R h => ?_) (by decide) (fun cdv A outer s H E hr => ⟨_, (qs_bar (q_set (i := 3) sc__law_drawn.nd rfl (Or.inl rfl) (q_lst qa_nil))
      (qs_bar (q_for PassesOwn.never rfl (qi_rng1 rfl B.range (qa_cons (q_op op_mod mIC (q_callS 0 G__law_pop (hr.mono (by decide)) rfl (qa_cons (qv 2) qa_nil)) q_int) qa_nil)) (qg_name (i := 4) sc__law_drawn.nd rfl (Or.inl rfl)) (qs_bar (q_set (i := 5) sc__law_drawn.nd rfl (Or.inl rfl) (q_call G__law_rows (hr.mono (by decide)) rfl (qa_cons (qf 0) (qa_cons (qf 1) qa_nil))))
      (qs_one (q_if (qt_cmp (kNeD (K := K) rfl hr.units) mNe (qv 5) (q_lst qa_nil) (nomark _)) (qs_bar (q_expr (q_app 3 (K := K) rfl rfl (q_listOf (K := K) rfl rfl B.list (qa_cons (q_ix (ix_any (K := K) rfl) mIx (qv 5) (q_op op_mod mIC (q_callS 0 G__law_pop (hr.mono (by decide)) rfl (qa_cons (qv 2) qa_nil)) (q_cb (kLen (K := K) rfl) mLen rfl B.len PySem.boot_len (qa_cons (qv 5) qa_nil))) (fun _ _ => rfl)) qa_nil))))
      (qs_one (q_set (i := 1) sc__law_drawn.nd rfl (Or.inl rfl) (q_call G__law_after (hr.mono (by decide)) rfl (qa_cons (qf 0) (qa_cons (qf 1) (qa_cons (q_ix (ix_any (K := K) rfl) mIx (qv 3) (q_un un_neg mNeg q_int) (fun _ _ => rfl)) qa_nil))))))) qs_nil))))
      (qs_bar (q_set (i := 6) sc__law_drawn.nd rfl (Or.inl rfl) (q_callS 0 G__law_pop (hr.mono (by decide)) rfl (qa_cons (qv 2) qa_nil)))
      (qs_cut (q_if (qt_cmp op_eq mEqI (q_op op_mod mIC (qv 6) q_int) q_int (nomark _)) (qs_bar (q_set (i := 7) sc__law_drawn.nd rfl (Or.inl rfl) (q_op op_mod mIC (q_op op_fdiv mIC (qv 6) q_int) (q_op op_add mI (q_cb (kLen (K := K) rfl) mLen rfl B.len PySem.boot_len (qa_cons (qv 3) qa_nil)) q_int)))
      (qs_one (q_set (i := 3) sc__law_drawn.nd rfl (Or.inl rfl) (q_opL (op_catS (K := K) rfl) mCat (q_opL (op_catS (K := K) rfl) mCat (q_slL (K := K) rfl (qv 3) qo_none (qo_some (qv 7))) (q_lst (qa_cons (q_callS 1 G__law_odd_row (hr.mono (by decide)) rfl (qa_cons (qf 0) (qa_cons (qv 2) qa_nil))) qa_nil))) (q_slL (K := K) rfl (qv 3) (qo_some (qv 7)) qo_none))))) qs_nil)
      (qs_one (q_ret (qv 3))))))), fun ss R h => ?_⟩)
  · obtain ⟨s, o, lf, l, d, rfl, _⟩ := h
    rfl
  obtain ⟨s, o, lf, l, d, rfl, tb, sb, dl, q⟩ := h
  obtain ⟨t1, t2, t3, t4, t5, t6, t7⟩ := id tb
  walk_at "dx"
  refine ⟨Nat.zero_le _, ?_⟩
  walk_at "dx"
  refine ⟨l, rfl, ?_⟩
  walk_at "dx"
  have dl1 := dl.drop
  generalize popV l = p0 at *
  generalize l.dropLast = l1 at *
  refine ⟨by decide, by omega, by omega, fd_intro (fun i env => ∃ (lf ld : List Int) (d : Nat) (rs : List (List Int)) (a b : Sl), env = [.fr (.tuple [.list (li s), .list (li o)]), .fr (.tuple [.int d, .tuple (li lf)]), .io (li ld), .ow (lr rs), a, b, .un, .un] ∧ Ds ld ∧ StB s o d lf ∧ rs.length ≤ i ∧ ∀ r ∈ rs, r.length ≤ 10) ⟨lf, l1, d, [], _, _, rfl, dl1, sb, Nat.le_refl _, by simp⟩ ?_ ?_⟩
  · rintro i env hi ⟨lf, ld, d, rs, a, b, rfl, dld, sb, hrs, hrow⟩
    rw [rangeD_len] at hi
    rw [rangeD_get]
    have hi20 : i < 21 := by omega
    obtain ⟨hd, hlf⟩ := id sb
    walk_at "dx"
    refine ⟨s, o, lf, d, rfl, tb, sb, fun rr hrr => ?_⟩
    walk_at "dx"
    have hlen : rr.length < 64 := by
      rw [hrr.length_eq]
      exact fit_few t2 (t7.imp (fun h => h) fun h => by have := h _ (getD_mem' hd); omega)
    have hrl : ∀ r ∈ rr, r.length ≤ 6 := fun r hr => by
      have := (subs_row _ r (List.mem_filter.mp (hrr.mem_iff.mp hr)).1).1
      omega
    rw [eqv_lr_nil]
    refine ⟨Nat.zero_le _, (Sh.lr 0 rr).shp (by decide), (Sh.ints 0 []).shp (by decide), ite2 (fun hne => ?_) (fun _ => ⟨lf, ld, d, rfl, rfl, rfl, rs, rfl, dld, sb, by omega, hrow⟩)⟩
    have hne : rr ≠ [] := by simpa using hne
    have hpos : 0 < rr.length := List.length_pos_iff.mpr hne
    refine ⟨ld, rfl, ?_⟩
    walk_at "dx"
    rw [List.length_map]
    have dl2 := dld.drop
    generalize popV ld = num at *
    generalize ld.dropLast = l2 at *
    have x0 := Int.emod_nonneg num (show (rr.length : Int) ≠ 0 by omega)
    have x1 := Int.emod_lt_of_pos num (show 0 < (rr.length : Int) by omega)
    obtain ⟨k, hk⟩ : ∃ k : Nat, num % (rr.length : Int) = (k : Int) := ⟨(num % (rr.length : Int)).toNat, by omega⟩
    rw [hk] at x1 ⊢
    have hkl : k < rr.length := by omega
    have hm := hrl _ (getD_memL (l := rr) hkl)
    generalize hr : rr.getD k [] = r at *
    refine ⟨by omega, _, by rw [lrAt hkl, hr], _, rfl, by rw [List.length_map]; exact Nat.lt_of_lt_of_le (by omega) line_big, ?_⟩
    walk_at "dx"
    refine ⟨_, atI_snoc _ _, ?_⟩
    refine ⟨s, o, lf, r, d, rfl, by omega, t3, hlf, _, rfl, _, l2, (d + 1) % o.length, rfl, rfl, rs ++ [r], by simp, dl2, ⟨Nat.mod_lt _ (by omega), aftL_len _ _ _ _⟩, by simp; omega, fun y hy => ?_⟩
    rcases List.mem_append.mp hy with hy | hy
    · exact hrow y hy
    · rw [List.mem_singleton.mp hy]; omega
  · rintro env ⟨lf, ld, d, rs, a, b, rfl, dld, sb, hrs, hrow⟩
    walk_at "dx"
    have hrs : rs.length ≤ 21 := by rw [rangeD_len] at hrs; omega
    refine ⟨ld, rfl, ?_⟩
    walk_at "dx"
    have dl2 := dld.drop
    generalize popV ld = num at *
    generalize ld.dropLast = l2 at *
    refine ⟨fun env => ∃ (rs : List (List Int)) (l3 : List Int) (c3 : Sl), env = [.fr (.tuple [.list (li s), .list (li o)]), .fr (.tuple [.int d, .tuple (li lf)]), .io (li l3), .ow (lr rs), a, b, .fr (.int num), c3] ∧ Ds l3 ∧ rs.length ≤ 60 ∧ ∀ r ∈ rs, r.length ≤ 10, ?_, ?_⟩
    · walk_at "dx"
      refine ⟨by decide, ite2 (fun _ => ?_) (fun _ => ⟨rs, l2, rfl, rfl, dl2, by omega, hrow⟩)⟩
      rw [List.length_map]
      refine ⟨⟨by decide, by decide⟩, by omega, ?_⟩
      walk_at "dx"
      obtain ⟨m1, e1, b1, c1⟩ := cutR_some rs none (some (num / 2 % ((rs.length : Int) + 1)))
      obtain ⟨m2, e2, b2, c2⟩ := cutR_some rs (some (num / 2 % ((rs.length : Int) + 1))) none
      refine ⟨s, o, l2, rfl, t2, dl2, fun r0 l3 dl3 hr0 => ?_⟩
      walk_at "dx"
      rw [e1, e2]
      have hz : ∀ k, k ≤ 1000 → k ≤ sizeLine := fun k hk => Nat.le_trans (by omega) line_big
      refine ⟨hz _ (by decide), hz _ (by simp; omega), hz _ (by simp; omega), m1 ++ [r0] ++ m2, l3, rfl, by simp, dl3, by simp; omega, fun y hy => ?_⟩
      rcases List.mem_append.mp hy with hy | hy
      · rcases List.mem_append.mp hy with hy | hy
        · exact hrow y (c1 y hy)
        · rw [List.mem_singleton.mp hy]; exact hr0
      · exact hrow y (c2 y hy)
    · rintro env ⟨rs, l3, c3, rfl, dl3, h60, hrow⟩
      walk_at "dx"
      exact q rs l3 dl3 h60 hrow
theorem any_lr (rr : List (List Int)) (r : List Int) : ((lr rr).any fun x => PyData.eqv x (.list (li r))) = decide (r ∈ rr) := by
  induction rr with
  | nil => rfl
  | cons x rr ih =>
    show (PyData.eqv (.list (li x)) (.list (li r)) || (lr rr).any _) = _
    rw [ih, eqv_li]
    by_cases h : x = r
    · simp [h]
    · have : ¬ r = x := fun z => h z.symm
      simp [h, this]
def Seen (s o lf : List Int) (rs : List (List Int)) (d i : Nat) (wv : Sl) (dd : Nat) (lh : List Int) : Prop :=
  dd < o.length ∧ lh.length = s.length ∧ ((wv = .fr .none ∧ dd = (d + i) % o.length ∧ lh = lfAt s lf rs i ∧ ∀ j, j < i → mayAtD s o lf rs d j = true) ∨ ∃ w : Nat, wv = .fr (.int w) ∧ w < i ∧ (∀ j, j < w → mayAtD s o lf rs d j = true) ∧ mayAtD s o lf rs d w = false)
abbrev s_law : Stmt := top 29
theorem sc_law : FnScope ["_law_script", "_law_town_here", "_law_draws_here", "_law_standing_here", "_law_rows_here", "_law_handed", "_law_here", "_law_wrong", "_law_day", "_law_row", "_law_kept", "_law_found", "e"] ["_law_script"] (defScope s_law) := ⟨rfl, rfl, rfl, by decide +kernel, rfl, by decide +kernel, by decide +kernel⟩
def spLaw : DSp := fun ss R => ∃ ns : List Int, ss = [.fr (.list (li ns))] ∧ ns.length ≤ 63 ∧ R (.fr (.bool true)) [.un]
theorem ok_law {f : Addr} {fd : FuncData} (F : Fun K "law" "law" s_law f fd) (B : Bn mg) {C : Addr} (cl : NoDayCls P w K mg base C) {Dd : Addr} (px : ExcPack K mg C Dd) (G__law_draws : Cal P w K mg base "_law_draws" 2 (spD K spDraws)) (G__law_pop : Cal P w K mg base "_law_pop" 1 (spD K spPop)) (G__law_town : Cal P w K mg base "_law_town" 2 (spD K spTown)) (G__law_standing : Cal P w K mg base "_law_standing" 2 (spD K spStanding)) (G_begun : Cal P w K mg base "begun" 1 (spD K spBegun)) (G__law_drawn : Cal P w K mg base "_law_drawn" 3 (spD K spDrawn)) (G__law_rows : Cal P w K mg base "_law_rows" 1 (spD K spRows)) (G_wound : CalX P w K mg base C "wound" 5 spWoundX) (G_gone : CalX P w K mg base C "gone" 4 spGone) (G__law_whole : Cal P w K mg base "_law_whole" 1 (spD K spWhole)) (G__law_told : Cal P w K mg base "_law_told" 2 (spD K spTold)) (G__law_only : Cal P w K mg base "_law_only" 2 (spD K (spOnly C))) : FnOk P w K mg base CX0 9 f fd ["_law_script"] (spD K spLaw) := by
  refine okD (k := 8) F sc_law (fun ss R h => ?_) (by decide) (fun cdv A outer s H E hr => ⟨_, (qs_bar (q_set (i := 1) sc_law.nd rfl (Or.inl rfl) (q_callT G__law_town (hr.mono (by decide)) rfl (qa_cons (q_call G__law_draws (hr.mono (by decide)) rfl (qa_cons (qf 0) (qa_cons q_int (qa_cons q_int qa_nil)))) (qa_cons q_int qa_nil))))
      (qs_bar (q_set (i := 2) sc_law.nd rfl (Or.inl rfl) (q_call G__law_draws (hr.mono (by decide)) rfl (qa_cons (qf 0) (qa_cons q_int (qa_cons q_int qa_nil)))))
      (qs_bar (q_set (i := 3) sc_law.nd rfl (Or.inl rfl) (q_callS 1 G__law_standing (hr.mono (by decide)) rfl (qa_cons (qf 1) (qa_cons (qv 2) qa_nil))))
      (qs_cut (q_if (qt_cmp op_eq mEqI (q_op op_mod mIC (q_callS 0 G__law_pop (hr.mono (by decide)) rfl (qa_cons (qv 2) qa_nil)) q_int) q_int (nomark _)) (qs_one (q_set (i := 3) sc_law.nd rfl (Or.inl rfl) (q_call G_begun (hr.mono (by decide)) rfl (qa_cons (qf 1) qa_nil)))) qs_nil)
      (qs_bar (q_set (i := 4) sc_law.nd rfl (Or.inl rfl) (q_callS 2 G__law_drawn (hr.mono (by decide)) rfl (qa_cons (qf 1) (qa_cons (qf 3) (qa_cons (qv 2) qa_nil)))))
      (qs_bar (q_setComp (i := 5)  sc_law.nd rfl rfl (N' := ["_law_row"]) (ix := [none]) rfl (bs_of (N := ["_law_script", "_law_town_here", "_law_draws_here", "_law_standing_here", "_law_rows_here", "_law_handed", "_law_here", "_law_wrong", "_law_day", "_law_row", "_law_kept", "_law_found", "e"]) (sc0 := defScope s_law) rfl rfl (by decide +kernel)) (qi_list (K := K) rfl (qf 4)) (fun _ _ _ _ => (qg_name (i := 0) (show List.Nodup (["_law_row"] : List Str) by decide +kernel) rfl (Or.inl rfl))) (fun _ _ _ _ => qif_nil) (fun _ _ _ _ => (q_listOf (K := K) rfl rfl B.list (qa_cons (qv 0) qa_nil))))
      (qs_cons (q_set (i := 6) sc_law.nd rfl (Or.inl rfl) (qf 3))
      (qs_cons (q_set (i := 7) sc_law.nd rfl (Or.inl rfl) q_non)
      (qs_bar (q_for PassesOwn.never rfl (qi_enum false (K := K) rfl rfl B.enumerate (qa_cons (qf 4) qa_nil)) (qg_tup (K := K) (n := 2) rfl rfl (qgs_cons (qg_name (i := 8) sc_law.nd rfl (Or.inl rfl)) (qgs_cons (qg_name (i := 9) sc_law.nd rfl (Or.inl rfl)) qgs_nil))) (qs_cut (q_if (PW.pt (qw_and (qt_cmp op_isN mIsN (qv 7) q_non (nomark _)) (qw_and1 (qt_cmp (kNotInD (K := K) rfl (room80 hr)) mNotInD (qv 9) (q_call G__law_rows (hr.mono (by decide)) rfl (qa_cons (qf 1) (qa_cons (qf 6) qa_nil))) (by with_unfolding_all rfl))))) (qs_one (q_set (i := 7) sc_law.nd rfl (Or.inl rfl) (qf 8))) qs_nil)
      (qs_one (q_if (qt_cmp op_isN mIsN (qv 7) q_non (nomark _)) (qs_one (q_set (i := 6) sc_law.nd rfl (Or.inl rfl) (q_callN G_wound (hr.mono (by decide)) rfl rfl (qa_cons (qf 1) (qa_cons (qf 6) (qa_cons (qf 9) qa_nil)))))) qs_nil))))
      (qs_cons (q_set (i := 10) sc_law.nd rfl (Or.inl rfl) q_non)
      (qs_cons (q_set (i := 8) sc_law.nd rfl (Or.inl rfl) q_non)
      (qs_cons (q_set (i := 11) sc_law.nd rfl (Or.inl rfl) q_non)
      (qs_bar (q_tryAs (K := K) (i := 12) rfl rfl rfl cl G_gone (hr.mono (by decide)) rfl rfl (qa_cons (qf 1) (qa_cons (qf 3) (qa_cons (qf 5) qa_nil))) (qg_name (i := 11) sc_law.nd rfl (Or.inl rfl)) (fun _ => (qs_cons (q_set (i := 10) sc_law.nd rfl (Or.inl rfl) (qf 12))
      (qs_one (q_set (i := 8) sc_law.nd rfl (Or.inl rfl) (q_dayN rfl cl px (qf 12)))))) sc_law.nd rfl rfl)
      (qs_cons (q_if (qt_cmp (kNeD (K := K) rfl hr.units) mNe (qv 5) (qv 4) (nomark _)) (qs_one (q_ret q_bl)) qs_nil)
      (qs_bar (q_if (qt_cmp op_isN mIsN (qv 7) q_non (nomark _)) (qs_one (q_ret (q_and (q_cmp op_isN mIsN (qv 10) q_non (nomark _)) (q_one (q_call G__law_told (hr.mono (by decide)) rfl (qa_cons (qf 11) (qa_cons (qf 6) qa_nil))))))) qs_nil)
      (qs_one (q_ret (q_and (q_call G__law_only (hr.mono (by decide)) rfl (qa_cons (qf 10) (qa_cons q_int qa_nil))) (q_and (q_call G__law_whole (hr.mono (by decide)) rfl (qa_cons (qf 8) qa_nil)) (q_one (q_cmp op_eq mEqI (qv 8) (qv 7) (nomark _)))))))))))))))))))))), fun ss R h => ?_⟩)
  · obtain ⟨ns, rfl, _⟩ := h
    rfl
  obtain ⟨ns, rfl, h63, q⟩ := h
  walk_at "dd"
  refine ⟨ns, 1, 30, rfl, h63, by omega, by omega, fun l dl => ⟨_, rfl, l, 2000, rfl, dl, by omega, by omega, fun s o l' _ tb => ?_⟩⟩
  walk_at "dd"
  refine nx ?_
  walk_at "dd"
  refine ⟨ns, 200, 60, rfl, h63, by omega, by omega, fun ld dld => ?_⟩
  walk_at "dd"
  refine nx ?_
  walk_at "dd"
  refine ⟨s, o, ld, rfl, dld, tb, fun d0 lf0 l2 dl2 hd0 hlf0 => ?_⟩
  obtain ⟨t1, t2, t3, t4, t5, t6, t7⟩ := id tb
  walk_at "dd"
  refine nx ?_
  refine ⟨fun env => ∃ (d : Nat) (lf l3 : List Int), env = [.fr (.list (li ns)), .fr (.tuple [.list (li s), .list (li o)]), .ow (li l3), .fr (.tuple [.int d, .tuple (li lf)]), .un, .un, .un, .un, .un, .un, .un, .un, .un] ∧ Ds l3 ∧ d < o.length ∧ lf.length = s.length, ?_, ?_⟩
  · walk_at "dd"
    refine ⟨l2, rfl, ?_⟩
    walk_at "dd"
    have dl3 := dl2.drop
    generalize popV l2 = p2 at *
    generalize l2.dropLast = l3 at *
    refine ⟨by decide, ite2 (fun _ => ?_) (fun _ => ⟨d0, lf0, l3, rfl, rfl, rfl, dl3, hd0, hlf0.1⟩)⟩
    refine ⟨s, o, rfl, ?_⟩
    walk_at "dd"
    exact ⟨0, s, l3, rfl, rfl, rfl, dl3, by omega, rfl⟩
  rintro env ⟨d, lf, l3, rfl, dl3, hd, hlf⟩
  walk_at "dd"
  refine ⟨s, o, lf, l3, d, rfl, tb, ⟨hd, hlf⟩, dl3, fun rs l4 dl4 hrs hrow => ?_⟩
  walk_at "dd"
  refine nx ?_
  walk_at "dd"
  refine cd_map (fun j => .list (li (rs.getD j []))) (by rw [List.length_map]; omega) (fun j hj Q hQ => ?_) ?_
  · rw [lr_get]
    walk_at "dd"
    exact hQ
  rw [List.length_map, range_mapD rs [] (fun r => PyData.list (li r))]
  walk_at "dd"
  refine nx ?_
  walk_at "dd"
  have shrs : Sh 2 (.list (lr rs)) := Sh.lr 0 rs
  have gd : ∀ i, i < rs.length → rs.getD i [] ∈ rs := fun i hi => getD_memL (l := rs) hi
  refine fd_intro (fun i env => i ≤ rs.length ∧ ∃ (wv dv rv : Sl) (dd : Nat) (lh : List Int), env = [.fr (.list (li ns)), .fr (.tuple [.list (li s), .list (li o)]), .ow (li l4), .fr (.tuple [.int d, .tuple (li lf)]), .fr (.list (lr rs)), .ow (lr rs), .fr (.tuple [.int dd, .tuple (li lh)]), wv, dv, rv, .un, .un, .un] ∧ Seen s o lf rs d i wv dd lh) ⟨Nat.zero_le _, _, _, _, d, lf, rfl, hd, hlf, .inl ⟨rfl, by rw [Nat.add_zero, Nat.mod_eq_of_lt hd], rfl, fun j hj => by omega⟩⟩ ?_ ?_
  · rintro i env hi ⟨hle, wv, dv, rv, dd, lh, rfl, hdd, hlh, hw⟩
    rw [enumD_len, List.length_map] at hi
    rw [enumD_get, lr_get]
    have hrm := hrow _ (gd i hi)
    have shr : Sh 1 (.list (li (rs.getD i []))) := Sh.ints 0 _
    rcases hw with ⟨rfl, e1, e2, hall⟩ | ⟨w, rfl, hwi, hall, hbad⟩
    · walk_at "dd"
      refine ⟨fun env => ∃ wv : Sl, env = [.fr (.list (li ns)), .fr (.tuple [.list (li s), .list (li o)]), .ow (li l4), .fr (.tuple [.int d, .tuple (li lf)]), .fr (.list (lr rs)), .ow (lr rs), .fr (.tuple [.int dd, .tuple (li lh)]), wv, .fr (.int i), .fr (.list (li (rs.getD i []))), .un, .un, .un] ∧ (wv = .fr .none ∧ mayAtD s o lf rs d i = true ∨ wv = .fr (.int i) ∧ mayAtD s o lf rs d i = false), ?_, ?_⟩
      · walk_at "dd"
        refine ⟨s, o, lh, dd, rfl, tb, ⟨hdd, hlh⟩, fun rr hrr => ?_⟩
        walk_at "dd"
        rw [any_lr]
        have hmem : rs.getD i [] ∈ rr ↔ mayAtD s o lf rs d i = true := by
          unfold mayAtD
          rw [← e1, ← e2]
          exact hrr.mem_iff.trans (fit_iff hlh)
        refine ⟨shr.shp (by decide), (Sh.lr 0 rr).shp (by decide), ite2 (fun h => .inr ?_) (fun h => .inl ?_)⟩
        · have h := of_decide_eq_false h
          cases e : mayAtD s o lf rs d i with
          | false => rfl
          | true => exact absurd (hmem.mpr e) h
        · exact hmem.mp (by simpa using h)
      · rintro env ⟨wv, rfl, hwv⟩
        rcases hwv with ⟨rfl, hm⟩ | ⟨rfl, hm⟩
        · walk_at "dd"
          have hm' : mayW s o lh (rs.getD i []) dd = true := by
            unfold mayAtD at hm
            rw [← e1, ← e2] at hm
            exact hm
          refine ⟨s, o, lh, rs.getD i [], dd, rfl, hdd, hlh, by omega, by omega, fun _ => ?_, fun hf => ?_⟩
          · refine ⟨_, rfl, by omega, _, _, _, (dd + 1) % o.length, aftL s lh (rs.getD i []) s.length, rfl, rfl, rfl, rfl, Nat.mod_lt _ (by omega), aftL_len _ _ _ _, .inl ⟨rfl, ?_, ?_, fun j hj => ?_⟩⟩
            · rw [e1, Nat.mod_add_mod, Nat.add_assoc]
            · rw [e2]; rfl
            · by_cases hji : j < i
              · exact hall j hji
              · rw [show j = i by omega]; exact hm
          · rw [hm'] at hf
            cases hf
        · walk_at "dd"
          exact ⟨by omega, _, _, _, dd, rfl, lh, rfl, rfl, rfl, rfl, hdd, hlh, .inr ⟨i, rfl, by omega, hall, hm⟩⟩
    · walk_at "dd"
      refine ⟨fun env => env = [.fr (.list (li ns)), .fr (.tuple [.list (li s), .list (li o)]), .ow (li l4), .fr (.tuple [.int d, .tuple (li lf)]), .fr (.list (lr rs)), .ow (lr rs), .fr (.tuple [.int dd, .tuple (li lh)]), .fr (.int w), .fr (.int i), .fr (.list (li (rs.getD i []))), .un, .un, .un], ?_, ?_⟩
      · walk_at "dd"
      · rintro env rfl
        walk_at "dd"
        exact ⟨by omega, _, _, _, dd, rfl, lh, rfl, rfl, rfl, rfl, hdd, hlh, .inr ⟨w, rfl, by omega, hall, hbad⟩⟩
  · rintro env ⟨hle, wv, dv, rv, dd, lh, rfl, hdd, hlh, hw⟩
    rw [enumD_len, List.length_map] at hw
    refine nx ?_
    walk_at "dd"
    refine ⟨s, o, lf, rs, d, rfl, hd, hlf, by omega, fun r hr => by have := hrow r hr; omega, fun hall => ⟨_, rfl, nx ?_⟩, fun i hi hb hbad => ⟨i, rfl, nx ?_⟩⟩
    · rcases hw with ⟨rfl, e1, e2, _⟩ | ⟨w, rfl, hwi, _, hbad⟩
      · rw [e1, e2]
        walk_at "dd"
        rw [eqv_same shrs (by decide), if_neg (by decide)]
        exact ⟨shrs.shp (by decide), shrs.shp (by decide), _, _, rfl, by rw [lfAt_len hlf]; omega, _, rfl, q⟩
      · rw [hall w hwi] at hbad
        cases hbad
    · rcases hw with ⟨rfl, e1, e2, hall⟩ | ⟨w, rfl, hwi, hall, hbad2⟩
      · rw [hall i hi] at hbad
        cases hbad
      · have hwi2 : w = i := by
          by_cases h1 : w < i
          · rw [hb w h1] at hbad2; cases hbad2
          · by_cases h2 : i < w
            · rw [hall i h2] at hbad; cases hbad
            · omega
        subst hwi2
        walk_at "dd"
        rw [eqv_same shrs (by decide), if_neg (by decide)]
        refine ⟨shrs.shp (by decide), shrs.shp (by decide), nx ?_⟩
        walk_at "dd"
        refine ⟨_, rfl, true, rfl, ?_⟩
        walk_at "dd"
        refine ⟨_, rfl, true, rfl, ?_⟩
        rw [if_pos rfl]
        exact q
end
theorem tb_none {K : PySem.W.Frag} {h : Heap} (z : PySem.W.nsIn K mainGlobals "choices" = some none) : ∃ tb : List (Addr × Str), (∀ b q, tb.lookup b = some q → h.get? b = some { cls := .none, data := .fields #[] } ∧ K.lookup b = none ∧ ∃ c, h.TableAt c b #[]) ∧ ∀ T q, LamTab K T q → tb.lookup T = some q :=
  ⟨[], (fun _ _ h => nomatch (show (none : Option Str) = some _ from h)), fun T q hL => by
    obtain ⟨x, hx, f, o, fd, c, oc, vs, e, _⟩ := hL
    rw [show x = "choices" from List.mem_singleton.mp hx, z] at e
    cases e⟩
theorem all_mk {l : PySem.W.OpenLaw} {w : World} {K : PySem.W.Frag} {h : Heap} {mg : Str → Option Value} {fa : Addr} (X : K.In h) (G : h.Ns mainGlobals mg) (hfa : mg "law" = some (.ref fa))
    {f0 : Addr} {od0 an0 : Option Addr} {sl0 : Array (Option Value)} {oc0 kV0 dc0 pm0 cd0 ct0 : Value}
    {f1 : Addr} {od1 an1 : Option Addr} {sl1 : Array (Option Value)} {oc1 kV1 dc1 pm1 cd1 ct1 : Value}
    {f2 : Addr} {od2 an2 : Option Addr} {sl2 : Array (Option Value)} {oc2 kV2 dc2 pm2 cd2 ct2 : Value}
    {f3 : Addr} {od3 an3 : Option Addr} {sl3 : Array (Option Value)} {oc3 kV3 dc3 pm3 cd3 ct3 : Value}
    {f4 : Addr} {od4 an4 : Option Addr} {sl4 : Array (Option Value)} {oc4 kV4 dc4 pm4 cd4 ct4 : Value}
    {f5 : Addr} {od5 an5 : Option Addr} {sl5 : Array (Option Value)} {oc5 kV5 dc5 pm5 cd5 ct5 : Value}
    {f6 : Addr} {od6 an6 : Option Addr} {sl6 : Array (Option Value)} {oc6 kV6 dc6 pm6 cd6 ct6 : Value}
    {f7 : Addr} {od7 an7 : Option Addr} {sl7 : Array (Option Value)} {oc7 kV7 dc7 pm7 cd7 ct7 : Value}
    {f8 : Addr} {od8 an8 : Option Addr} {sl8 : Array (Option Value)} {oc8 kV8 dc8 pm8 cd8 ct8 : Value}
    {f9 : Addr} {od9 an9 : Option Addr} {sl9 : Array (Option Value)} {oc9 kV9 dc9 pm9 cd9 ct9 : Value}
    {f10 : Addr} {od10 an10 : Option Addr} {sl10 : Array (Option Value)} {oc10 kV10 dc10 pm10 cd10 ct10 : Value}
    {f11 : Addr} {od11 an11 : Option Addr} {sl11 : Array (Option Value)} {oc11 kV11 dc11 pm11 cd11 ct11 : Value}
    {f12 : Addr} {od12 an12 : Option Addr} {sl12 : Array (Option Value)} {oc12 kV12 dc12 pm12 cd12 ct12 : Value}
    {f13 : Addr} {od13 an13 : Option Addr} {sl13 : Array (Option Value)} {oc13 kV13 dc13 pm13 cd13 ct13 : Value}
    {f14 : Addr} {od14 an14 : Option Addr} {sl14 : Array (Option Value)} {oc14 kV14 dc14 pm14 cd14 ct14 : Value}
    {f15 : Addr} {od15 an15 : Option Addr} {sl15 : Array (Option Value)} {oc15 kV15 dc15 pm15 cd15 ct15 : Value}
    {f16 : Addr} {od16 an16 : Option Addr} {sl16 : Array (Option Value)} {oc16 kV16 dc16 pm16 cd16 ct16 : Value}
    {f17 : Addr} {od17 an17 : Option Addr} {sl17 : Array (Option Value)} {oc17 kV17 dc17 pm17 cd17 ct17 : Value}
    {f18 : Addr} {od18 an18 : Option Addr} {sl18 : Array (Option Value)} {oc18 kV18 dc18 pm18 cd18 ct18 : Value}
    {f19 : Addr} {od19 an19 : Option Addr} {sl19 : Array (Option Value)} {oc19 kV19 dc19 pm19 cd19 ct19 : Value}
    (a0 : PySem.W.nsIn K mainGlobals "_law_pop" = some (some (.ref f0))) (l0 : K.lookup f0 = some ⟨oc0, od0, .func (PySem.W.fnOf "_law_pop" "_law_pop" (defArgs s__law_pop) (defBody s__law_pop) (defScope s__law_pop) .none kV0 dc0 pm0 an0 cd0 ct0), sl0⟩) (c0 : PySem.W.codeIn K cd0 "_law_pop" = true) (k0 : PySem.W.keepIn K (.ref f0) = true)
    (a1 : PySem.W.nsIn K mainGlobals "_law_mix" = some (some (.ref f1))) (l1 : K.lookup f1 = some ⟨oc1, od1, .func (PySem.W.fnOf "_law_mix" "_law_mix" (defArgs s__law_mix) (defBody s__law_mix) (defScope s__law_mix) .none kV1 dc1 pm1 an1 cd1 ct1), sl1⟩) (c1 : PySem.W.codeIn K cd1 "_law_mix" = true) (k1 : PySem.W.keepIn K (.ref f1) = true)
    (a2 : PySem.W.nsIn K mainGlobals "_law_draws" = some (some (.ref f2))) (l2 : K.lookup f2 = some ⟨oc2, od2, .func (PySem.W.fnOf "_law_draws" "_law_draws" (defArgs s__law_draws) (defBody s__law_draws) (defScope s__law_draws) .none kV2 dc2 pm2 an2 cd2 ct2), sl2⟩) (c2 : PySem.W.codeIn K cd2 "_law_draws" = true) (k2 : PySem.W.keepIn K (.ref f2) = true)
    (a3 : PySem.W.nsIn K mainGlobals "_law_town" = some (some (.ref f3))) (l3 : K.lookup f3 = some ⟨oc3, od3, .func (PySem.W.fnOf "_law_town" "_law_town" (defArgs s__law_town) (defBody s__law_town) (defScope s__law_town) .none kV3 dc3 pm3 an3 cd3 ct3), sl3⟩) (c3 : PySem.W.codeIn K cd3 "_law_town" = true) (k3 : PySem.W.keepIn K (.ref f3) = true)
    (a4 : PySem.W.nsIn K mainGlobals "_law_rows" = some (some (.ref f4))) (l4 : K.lookup f4 = some ⟨oc4, od4, .func (PySem.W.fnOf "_law_rows" "_law_rows" (defArgs s__law_rows) (defBody s__law_rows) (defScope s__law_rows) .none kV4 dc4 pm4 an4 cd4 ct4), sl4⟩) (c4 : PySem.W.codeIn K cd4 "_law_rows" = true) (k4 : PySem.W.keepIn K (.ref f4) = true)
    (a5 : PySem.W.nsIn K mainGlobals "_law_after" = some (some (.ref f5))) (l5 : K.lookup f5 = some ⟨oc5, od5, .func (PySem.W.fnOf "_law_after" "_law_after" (defArgs s__law_after) (defBody s__law_after) (defScope s__law_after) .none kV5 dc5 pm5 an5 cd5 ct5), sl5⟩) (c5 : PySem.W.codeIn K cd5 "_law_after" = true) (k5 : PySem.W.keepIn K (.ref f5) = true)
    (a6 : PySem.W.nsIn K mainGlobals "_law_odd_row" = some (some (.ref f6))) (l6 : K.lookup f6 = some ⟨oc6, od6, .func (PySem.W.fnOf "_law_odd_row" "_law_odd_row" (defArgs s__law_odd_row) (defBody s__law_odd_row) (defScope s__law_odd_row) .none kV6 dc6 pm6 an6 cd6 ct6), sl6⟩) (c6 : PySem.W.codeIn K cd6 "_law_odd_row" = true) (k6 : PySem.W.keepIn K (.ref f6) = true)
    (a7 : PySem.W.nsIn K mainGlobals "_law_standing" = some (some (.ref f7))) (l7 : K.lookup f7 = some ⟨oc7, od7, .func (PySem.W.fnOf "_law_standing" "_law_standing" (defArgs s__law_standing) (defBody s__law_standing) (defScope s__law_standing) .none kV7 dc7 pm7 an7 cd7 ct7), sl7⟩) (c7 : PySem.W.codeIn K cd7 "_law_standing" = true) (k7 : PySem.W.keepIn K (.ref f7) = true)
    (a8 : PySem.W.nsIn K mainGlobals "hands_on" = some (some (.ref f8))) (l8 : K.lookup f8 = some ⟨oc8, od8, .func (PySem.W.fnOf "hands_on" "hands_on" (defArgs s_hands_on) (defBody s_hands_on) (defScope s_hands_on) .none kV8 dc8 pm8 an8 cd8 ct8), sl8⟩) (c8 : PySem.W.codeIn K cd8 "hands_on" = true) (k8 : PySem.W.keepIn K (.ref f8) = true)
    (a9 : PySem.W.nsIn K mainGlobals "is_row" = some (some (.ref f9))) (l9 : K.lookup f9 = some ⟨oc9, od9, .func (PySem.W.fnOf "is_row" "is_row" (defArgs s_is_row) (defBody s_is_row) (defScope s_is_row) .none kV9 dc9 pm9 an9 cd9 ct9), sl9⟩) (c9 : PySem.W.codeIn K cd9 "is_row" = true) (k9 : PySem.W.keepIn K (.ref f9) = true)
    (a10 : PySem.W.nsIn K mainGlobals "may_wind" = some (some (.ref f10))) (l10 : K.lookup f10 = some ⟨oc10, od10, .func (PySem.W.fnOf "may_wind" "may_wind" (defArgs s_may_wind) (defBody s_may_wind) (defScope s_may_wind) .none kV10 dc10 pm10 an10 cd10 ct10), sl10⟩) (c10 : PySem.W.codeIn K cd10 "may_wind" = true) (k10 : PySem.W.keepIn K (.ref f10) = true)
    (a11 : PySem.W.nsIn K mainGlobals "behind" = some (some (.ref f11))) (l11 : K.lookup f11 = some ⟨oc11, od11, .func (PySem.W.fnOf "behind" "behind" (defArgs s_behind) (defBody s_behind) (defScope s_behind) .none kV11 dc11 pm11 an11 cd11 ct11), sl11⟩) (c11 : PySem.W.codeIn K cd11 "behind" = true) (k11 : PySem.W.keepIn K (.ref f11) = true)
    (a12 : PySem.W.nsIn K mainGlobals "gone" = some (some (.ref f12))) (l12 : K.lookup f12 = some ⟨oc12, od12, .func (PySem.W.fnOf "gone" "gone" (defArgs s_gone) (defBody s_gone) (defScope s_gone) .none kV12 dc12 pm12 an12 cd12 ct12), sl12⟩) (c12 : PySem.W.codeIn K cd12 "gone" = true) (k12 : PySem.W.keepIn K (.ref f12) = true)
    (a13 : PySem.W.nsIn K mainGlobals "wound" = some (some (.ref f13))) (l13 : K.lookup f13 = some ⟨oc13, od13, .func (PySem.W.fnOf "wound" "wound" (defArgs s_wound) (defBody s_wound) (defScope s_wound) .none kV13 dc13 pm13 an13 cd13 ct13), sl13⟩) (c13 : PySem.W.codeIn K cd13 "wound" = true) (k13 : PySem.W.keepIn K (.ref f13) = true)
    (a14 : PySem.W.nsIn K mainGlobals "_law_only" = some (some (.ref f14))) (l14 : K.lookup f14 = some ⟨oc14, od14, .func (PySem.W.fnOf "_law_only" "_law_only" (defArgs s__law_only) (defBody s__law_only) (defScope s__law_only) .none kV14 dc14 pm14 an14 cd14 ct14), sl14⟩) (c14 : PySem.W.codeIn K cd14 "_law_only" = true) (k14 : PySem.W.keepIn K (.ref f14) = true)
    (a15 : PySem.W.nsIn K mainGlobals "_law_whole" = some (some (.ref f15))) (l15 : K.lookup f15 = some ⟨oc15, od15, .func (PySem.W.fnOf "_law_whole" "_law_whole" (defArgs s__law_whole) (defBody s__law_whole) (defScope s__law_whole) .none kV15 dc15 pm15 an15 cd15 ct15), sl15⟩) (c15 : PySem.W.codeIn K cd15 "_law_whole" = true) (k15 : PySem.W.keepIn K (.ref f15) = true)
    (a16 : PySem.W.nsIn K mainGlobals "_law_told" = some (some (.ref f16))) (l16 : K.lookup f16 = some ⟨oc16, od16, .func (PySem.W.fnOf "_law_told" "_law_told" (defArgs s__law_told) (defBody s__law_told) (defScope s__law_told) .none kV16 dc16 pm16 an16 cd16 ct16), sl16⟩) (c16 : PySem.W.codeIn K cd16 "_law_told" = true) (k16 : PySem.W.keepIn K (.ref f16) = true)
    (a17 : PySem.W.nsIn K mainGlobals "begun" = some (some (.ref f17))) (l17 : K.lookup f17 = some ⟨oc17, od17, .func (PySem.W.fnOf "begun" "begun" (defArgs s_begun) (defBody s_begun) (defScope s_begun) .none kV17 dc17 pm17 an17 cd17 ct17), sl17⟩) (c17 : PySem.W.codeIn K cd17 "begun" = true) (k17 : PySem.W.keepIn K (.ref f17) = true)
    (a18 : PySem.W.nsIn K mainGlobals "_law_drawn" = some (some (.ref f18))) (l18 : K.lookup f18 = some ⟨oc18, od18, .func (PySem.W.fnOf "_law_drawn" "_law_drawn" (defArgs s__law_drawn) (defBody s__law_drawn) (defScope s__law_drawn) .none kV18 dc18 pm18 an18 cd18 ct18), sl18⟩) (c18 : PySem.W.codeIn K cd18 "_law_drawn" = true) (k18 : PySem.W.keepIn K (.ref f18) = true)
    (a19 : PySem.W.nsIn K mainGlobals "law" = some (some (.ref f19))) (l19 : K.lookup f19 = some ⟨oc19, od19, .func (PySem.W.fnOf "law" "law" (defArgs s_law) (defBody s_law) (defScope s_law) .none kV19 dc19 pm19 an19 cd19 ct19), sl19⟩) (c19 : PySem.W.codeIn K cd19 "law" = true) (k19 : PySem.W.keepIn K (.ref f19) = true)
    {CN fN DN NN : Addr} {nmN qN : Str} {bsN : List Value} {snN : List Str} {subN : List Value} {abN : Bool} {colN : Option Bool} {ddN odN anN : Option Addr} {k0N k1N k2N k3N k5N : Option Value} {slN : Array (Option Value)} {kVN dcN pmN cdN ctN : Value}
    (aN : PySem.W.nsIn K mainGlobals "NoDay" = some (some (.ref CN))) (oN : K.lookup CN = some (excClassObj nmN qN CN NN bsN (.ref DN :: bmV) true snN subN abN colN ddN k0N k1N k2N k3N k5N "ValueError.__new__")) (tN : PySem.W.tailIn K bmV (.ref DN :: bmV) = true)
    (iN : PySem.W.findIn K (.ref CN) "__init__" = some (some (.ref fN))) (lN : K.lookup fN = some ⟨.type "function", odN, .func (PySem.W.fnOf "__init__" "NoDay.__init__" (defArgs s_NoDay_init) (defBody s_NoDay_init) (defScope s_NoDay_init) .none kVN dcN pmN anN cdN ctN), slN⟩)
    (cN : PySem.W.codeIn K cdN "NoDay.__init__" = true) (kN : PySem.W.keepIn K (.ref fN) = true) (kC : PySem.W.keepIn K (.ref CN) = true) (saN : PySem.W.findIn K (.ref CN) "__setattr__" = some (some (.builtin "object.__setattr__"))) (daN : PySem.W.findIn K (.ref CN) "day" = some none)
    {C_NoHands : Addr} {o_NoHands : Obj} (a_NoHands : PySem.W.nsIn K mainGlobals "NoHands" = some (some (.ref C_NoHands))) (l_NoHands : K.lookup C_NoHands = some o_NoHands) (t_NoHands : o_NoHands.cls = .type "type") (h_NoHands : PySem.W.hasDictIn K C_NoHands = true) (n_NoHands : C_NoHands ≠ CN) (m_NoHands : C_NoHands ≠ DN)
    {C_NoText : Addr} {o_NoText : Obj} (a_NoText : PySem.W.nsIn K mainGlobals "NoText" = some (some (.ref C_NoText))) (l_NoText : K.lookup C_NoText = some o_NoText) (t_NoText : o_NoText.cls = .type "type") (h_NoText : PySem.W.hasDictIn K C_NoText = true) (n_NoText : C_NoText ≠ CN) (m_NoText : C_NoText ≠ DN)
    {C_NoTown : Addr} {o_NoTown : Obj} (a_NoTown : PySem.W.nsIn K mainGlobals "NoTown" = some (some (.ref C_NoTown))) (l_NoTown : K.lookup C_NoTown = some o_NoTown) (t_NoTown : o_NoTown.cls = .type "type") (h_NoTown : PySem.W.hasDictIn K C_NoTown = true) (n_NoTown : C_NoTown ≠ CN) (m_NoTown : C_NoTown ≠ DN)
    {C_Taken : Addr} {o_Taken : Obj} (a_Taken : PySem.W.nsIn K mainGlobals "Taken" = some (some (.ref C_Taken))) (l_Taken : K.lookup C_Taken = some o_Taken) (t_Taken : o_Taken.cls = .type "type") (h_Taken : PySem.W.hasDictIn K C_Taken = true) (n_Taken : C_Taken ≠ CN) (m_Taken : C_Taken ≠ DN)
    {o_TE : Obj} (a_TE : PySem.W.nsIn K mainGlobals "TownError" = some (some (.ref DN))) (l_TE : K.lookup DN = some o_TE) (t_TE : o_TE.cls = .type "type") (h_TE : PySem.W.hasDictIn K DN = true) (n_TE : DN ≠ CN)
    (gaN : PySem.W.findIn K (.ref CN) "__getattribute__" = some (some (.builtin "BaseException.__getattribute__"))) (gnN : PySem.W.findIn K (.ref CN) "__getattr__" = some none) (hdN : PySem.W.hasDictIn K CN = true) (clN : PySem.W.findIn K (.ref CN) "__class__" = some (some (.builtin "object.__class__"))) (zVE : PySem.W.nsIn K mainGlobals "ValueError" = some none)
    (z_len : PySem.W.nsIn K mainGlobals "len" = some none)
    (z_range : PySem.W.nsIn K mainGlobals "range" = some none)
    (z_min : PySem.W.nsIn K mainGlobals "min" = some none)
    (z_max : PySem.W.nsIn K mainGlobals "max" = some none)
    (z_enumerate : PySem.W.nsIn K mainGlobals "enumerate" = some none)
    (z_zip : PySem.W.nsIn K mainGlobals "zip" = some none)
    (z_all : PySem.W.nsIn K mainGlobals "all" = some none)
    (z_any : PySem.W.nsIn K mainGlobals "any" = some none)
    (z_isinstance : PySem.W.nsIn K mainGlobals "isinstance" = some none)
    (z_bool : PySem.W.nsIn K mainGlobals "bool" = some none)
    (z_int : PySem.W.nsIn K mainGlobals "int" = some none)
    (z_list : PySem.W.nsIn K mainGlobals "list" = some none)
    (z_tuple : PySem.W.nsIn K mainGlobals "tuple" = some none)
    (z_sorted : PySem.W.nsIn K mainGlobals "sorted" = some none)
    (z_str : PySem.W.nsIn K mainGlobals "str" = some none)
    (z_sum : PySem.W.nsIn K mainGlobals "sum" = some none)
    (z_abs : PySem.W.nsIn K mainGlobals "abs" = some none)
    : ∃ fd : FuncData, (∀ (s : Shared) (v : Value), BindsTo s fd ⟨[v], []⟩ [("_law_script", v)]) ∧ ∀ base : Heap, K.In base → base.Ns mainGlobals mg → FnOk l.prog w K mg base CX0 9 fa fd ["_law_script"] (spD K spLaw) := by
  have e := hfa.symm.trans (PySem.W.mg_of X G a19)
  cases e
  have B : Bn mg := ⟨PySem.W.mg_none_of X G z_len, PySem.W.mg_none_of X G z_range, PySem.W.mg_none_of X G z_min, PySem.W.mg_none_of X G z_max, PySem.W.mg_none_of X G z_enumerate, PySem.W.mg_none_of X G z_zip, PySem.W.mg_none_of X G z_all, PySem.W.mg_none_of X G z_any, PySem.W.mg_none_of X G z_isinstance, PySem.W.mg_none_of X G z_bool, PySem.W.mg_none_of X G z_int, PySem.W.mg_none_of X G z_list, PySem.W.mg_none_of X G z_tuple, PySem.W.mg_none_of X G z_sorted, PySem.W.mg_none_of X G z_str, PySem.W.mg_none_of X G z_sum, PySem.W.mg_none_of X G z_abs⟩
  refine ⟨PySem.W.fnOf "law" "law" (defArgs s_law) (defBody s_law) (defScope s_law) .none kV19 dc19 pm19 an19 cd19 ct19, fun s v => .of_eq rfl, fun base Xb _ => ?_⟩
  have cl := noday_mk (P := l.prog) (w := w) (base := base) oN tN iN lN cN kN kC saN daN (PySem.W.mg_of X G aN)
  have px : ExcPack K mg CN DN := ⟨⟨gaN, gnN, hdN, clN⟩, ⟨_, _, _, _, _, _, _, _, _, _, _, _, _, _, oN⟩, pack_own (PySem.W.mg_of X G aN), pack_no (PySem.W.mg_of X G a_NoHands) n_NoHands m_NoHands l_NoHands t_NoHands h_NoHands, pack_no (PySem.W.mg_of X G a_NoText) n_NoText m_NoText l_NoText t_NoText h_NoText, pack_no (PySem.W.mg_of X G a_NoTown) n_NoTown m_NoTown l_NoTown t_NoTown h_NoTown, pack_no (PySem.W.mg_of X G a_Taken) n_Taken m_Taken l_Taken t_Taken h_Taken, pack_up (PySem.W.mg_of X G a_TE) n_TE l_TE t_TE h_TE, PySem.W.mg_none_of X G zVE⟩
  have F__law_pop := fun_mk (st := s__law_pop) l0 c0 k0
  have G__law_pop := calD F__law_pop (PySem.W.mg_of X G a0) (bi__law_pop F__law_pop) (ok__law_pop (P := l.prog) (w := w) (base := base) F__law_pop B)
  have F__law_mix := fun_mk (st := s__law_mix) l1 c1 k1
  have G__law_mix := calD F__law_mix (PySem.W.mg_of X G a1) (bi__law_mix F__law_mix) (ok__law_mix (P := l.prog) (w := w) (base := base) F__law_mix B)
  have F__law_draws := fun_mk (st := s__law_draws) l2 c2 k2
  have G__law_draws := calD F__law_draws (PySem.W.mg_of X G a2) (bi__law_draws F__law_draws) (ok__law_draws (P := l.prog) (w := w) (base := base) F__law_draws B G__law_mix)
  have F__law_town := fun_mk (st := s__law_town) l3 c3 k3
  have G__law_town := calD F__law_town (PySem.W.mg_of X G a3) (bi__law_town F__law_town) (ok__law_town (P := l.prog) (w := w) (base := base) F__law_town B G__law_pop)
  have F__law_rows := fun_mk (st := s__law_rows) l4 c4 k4
  have G__law_rows := calD F__law_rows (PySem.W.mg_of X G a4) (bi__law_rows F__law_rows) (ok__law_rows (P := l.prog) (w := w) (base := base) F__law_rows B)
  have F__law_after := fun_mk (st := s__law_after) l5 c5 k5
  have G__law_after := calD F__law_after (PySem.W.mg_of X G a5) (bi__law_after F__law_after) (ok__law_after (P := l.prog) (w := w) (base := base) F__law_after B)
  have F__law_odd_row := fun_mk (st := s__law_odd_row) l6 c6 k6
  have G__law_odd_row := calD F__law_odd_row (PySem.W.mg_of X G a6) (bi__law_odd_row F__law_odd_row) (ok__law_odd_row (P := l.prog) (w := w) (base := base) F__law_odd_row B G__law_pop)
  have F__law_standing := fun_mk (st := s__law_standing) l7 c7 k7
  have G__law_standing := calD F__law_standing (PySem.W.mg_of X G a7) (bi__law_standing F__law_standing) (ok__law_standing (P := l.prog) (w := w) (base := base) F__law_standing B G__law_pop)
  have F_hands_on := fun_mk (st := s_hands_on) l8 c8 k8
  have G_hands_on := calD F_hands_on (PySem.W.mg_of X G a8) (bi_hands_on F_hands_on) (ok_hands_on (P := l.prog) (w := w) (base := base) F_hands_on B)
  have F_is_row := fun_mk (st := s_is_row) l9 c9 k9
  have G_is_row := calD F_is_row (PySem.W.mg_of X G a9) (bi_is_row F_is_row) (ok_is_row (P := l.prog) (w := w) (base := base) F_is_row B)
  have F_may_wind := fun_mk (st := s_may_wind) l10 c10 k10
  have G_may_wind := calD F_may_wind (PySem.W.mg_of X G a10) (bi_may_wind F_may_wind) (ok_may_wind (P := l.prog) (w := w) (base := base) F_may_wind B G_is_row G_hands_on)
  have F_behind := fun_mk (st := s_behind) l11 c11 k11
  have G_behind := calD F_behind (PySem.W.mg_of X G a11) (bi_behind F_behind) (ok_behind (P := l.prog) (w := w) (base := base) F_behind B)
  have F_gone := fun_mk (st := s_gone) l12 c12 k12
  have G_gone := calX F_gone (PySem.W.mg_of X G a12) (bi_gone F_gone) (ok_gone (P := l.prog) (w := w) (base := base) F_gone B cl G_may_wind G_behind)
  have F_wound := fun_mk (st := s_wound) l13 c13 k13
  have G_wound := calX F_wound (PySem.W.mg_of X G a13) (bi_wound F_wound) (ok_wound (P := l.prog) (w := w) (base := base) F_wound B cl G_gone)
  have F__law_only := fun_mk (st := s__law_only) l14 c14 k14
  have G__law_only := calD F__law_only (PySem.W.mg_of X G a14) (bi__law_only F__law_only) (ok__law_only (P := l.prog) (w := w) (base := base) F__law_only B cl px)
  have F__law_whole := fun_mk (st := s__law_whole) l15 c15 k15
  have G__law_whole := calD F__law_whole (PySem.W.mg_of X G a15) (bi__law_whole F__law_whole) (ok__law_whole (P := l.prog) (w := w) (base := base) F__law_whole B)
  have F__law_told := fun_mk (st := s__law_told) l16 c16 k16
  have G__law_told := calD F__law_told (PySem.W.mg_of X G a16) (bi__law_told F__law_told) (ok__law_told (P := l.prog) (w := w) (base := base) F__law_told B G__law_whole)
  have F_begun := fun_mk (st := s_begun) l17 c17 k17
  have G_begun := calD F_begun (PySem.W.mg_of X G a17) (bi_begun F_begun) (ok_begun (P := l.prog) (w := w) (base := base) F_begun B)
  have F__law_drawn := fun_mk (st := s__law_drawn) l18 c18 k18
  have G__law_drawn := calD F__law_drawn (PySem.W.mg_of X G a18) (bi__law_drawn F__law_drawn) (ok__law_drawn (P := l.prog) (w := w) (base := base) F__law_drawn B G__law_pop G__law_rows G__law_after G__law_odd_row)
  have F_law := fun_mk (st := s_law) l19 c19 k19
  exact ok_law (P := l.prog) (w := w) (base := base) F_law B cl px G__law_draws G__law_pop G__law_town G__law_standing G_begun G__law_drawn G__law_rows G_wound G_gone G__law_whole G__law_told G__law_only
end W
open PySem PySem.W PyProof.Rows
set_option maxRecDepth 100000 in
set_option maxHeartbeats 0 in
theorem PySem.Challenge.cw_windround_k03_days_are_gone_holds : PySem.Challenge.rw_windround_k03_days_are_gone.Holds := by
  w_on; o_law; k_head; (case hw => w_witness2)
  k_fill
  refine L2.walkD (l := PySem.Challenge.rw_windround_k03_days_are_gone) (sp := W.spLaw) (k := 9) (by decide) rfl rfl (fun ns h => ⟨ns, rfl, h, rfl⟩) ?TB (fun w h Y => PySem.W.kIn_of Y) ?F
  case TB =>
    intro w s₀ mg mb h G KX
    refine' W.tb_none ?z
    (case z => k_is)
  case F =>
    intro w mg fa h KX G hmg
    refine' W.all_mk KX G hmg ?a0 ?l0 ?c0 ?k0 ?a1 ?l1 ?c1 ?k1 ?a2 ?l2 ?c2 ?k2 ?a3 ?l3 ?c3 ?k3 ?a4 ?l4 ?c4 ?k4 ?a5 ?l5 ?c5 ?k5 ?a6 ?l6 ?c6 ?k6 ?a7 ?l7 ?c7 ?k7 ?a8 ?l8 ?c8 ?k8 ?a9 ?l9 ?c9 ?k9 ?a10 ?l10 ?c10 ?k10 ?a11 ?l11 ?c11 ?k11 ?a12 ?l12 ?c12 ?k12 ?a13 ?l13 ?c13 ?k13 ?a14 ?l14 ?c14 ?k14 ?a15 ?l15 ?c15 ?k15 ?a16 ?l16 ?c16 ?k16 ?a17 ?l17 ?c17 ?k17 ?a18 ?l18 ?c18 ?k18 ?a19 ?l19 ?c19 ?k19 ?aN ?oN ?tN ?iN ?lN ?cN ?kN ?kC ?saN ?daN ?a_NoHands ?l_NoHands ?t_NoHands ?h_NoHands ?n_NoHands ?m_NoHands ?a_NoText ?l_NoText ?t_NoText ?h_NoText ?n_NoText ?m_NoText ?a_NoTown ?l_NoTown ?t_NoTown ?h_NoTown ?n_NoTown ?m_NoTown ?a_Taken ?l_Taken ?t_Taken ?h_Taken ?n_Taken ?m_Taken ?a_TE ?l_TE ?t_TE ?h_TE ?n_TE ?gaN ?gnN ?hdN ?clN ?zVE ?z_len ?z_range ?z_min ?z_max ?z_enumerate ?z_zip ?z_all ?z_any ?z_isinstance ?z_bool ?z_int ?z_list ?z_tuple ?z_sorted ?z_str ?z_sum ?z_abs
    (case a0 => k_is); (case l0 => k_is); (case c0 => k_is); (case k0 => k_is)
    (case a1 => k_is); (case l1 => k_is); (case c1 => k_is); (case k1 => k_is)
    (case a2 => k_is); (case l2 => k_is); (case c2 => k_is); (case k2 => k_is)
    (case a3 => k_is); (case l3 => k_is); (case c3 => k_is); (case k3 => k_is)
    (case a4 => k_is); (case l4 => k_is); (case c4 => k_is); (case k4 => k_is)
    (case a5 => k_is); (case l5 => k_is); (case c5 => k_is); (case k5 => k_is)
    (case a6 => k_is); (case l6 => k_is); (case c6 => k_is); (case k6 => k_is)
    (case a7 => k_is); (case l7 => k_is); (case c7 => k_is); (case k7 => k_is)
    (case a8 => k_is); (case l8 => k_is); (case c8 => k_is); (case k8 => k_is)
    (case a9 => k_is); (case l9 => k_is); (case c9 => k_is); (case k9 => k_is)
    (case a10 => k_is); (case l10 => k_is); (case c10 => k_is); (case k10 => k_is)
    (case a11 => k_is); (case l11 => k_is); (case c11 => k_is); (case k11 => k_is)
    (case a12 => k_is); (case l12 => k_is); (case c12 => k_is); (case k12 => k_is)
    (case a13 => k_is); (case l13 => k_is); (case c13 => k_is); (case k13 => k_is)
    (case a14 => k_is); (case l14 => k_is); (case c14 => k_is); (case k14 => k_is)
    (case a15 => k_is); (case l15 => k_is); (case c15 => k_is); (case k15 => k_is)
    (case a16 => k_is); (case l16 => k_is); (case c16 => k_is); (case k16 => k_is)
    (case a17 => k_is); (case l17 => k_is); (case c17 => k_is); (case k17 => k_is)
    (case a18 => k_is); (case l18 => k_is); (case c18 => k_is); (case k18 => k_is)
    (case a19 => k_is); (case l19 => k_is); (case c19 => k_is); (case k19 => k_is)
    (case aN => k_is); (case oN => k_is); (case tN => kernel_rfl); (case iN => k_is); (case lN => k_is); (case cN => k_is); (case kN => k_is); (case kC => k_is); (case saN => k_is); (case daN => k_is)
    (case a_NoHands => k_is); (case l_NoHands => k_is); (case t_NoHands => exact rfl); (case h_NoHands => k_is); (case n_NoHands => decide); (case m_NoHands => decide)
    (case a_NoText => k_is); (case l_NoText => k_is); (case t_NoText => exact rfl); (case h_NoText => k_is); (case n_NoText => decide); (case m_NoText => decide)
    (case a_NoTown => k_is); (case l_NoTown => k_is); (case t_NoTown => exact rfl); (case h_NoTown => k_is); (case n_NoTown => decide); (case m_NoTown => decide)
    (case a_Taken => k_is); (case l_Taken => k_is); (case t_Taken => exact rfl); (case h_Taken => k_is); (case n_Taken => decide); (case m_Taken => decide)
    (case a_TE => k_is); (case l_TE => k_is); (case t_TE => exact rfl); (case h_TE => k_is); (case n_TE => decide); (case gaN => k_is); (case gnN => k_is); (case hdN => k_is); (case clN => k_is); (case zVE => k_is)
    (case z_len => k_is)
    (case z_range => k_is)
    (case z_min => k_is)
    (case z_max => k_is)
    (case z_enumerate => k_is)
    (case z_zip => k_is)
    (case z_all => k_is)
    (case z_any => k_is)
    (case z_isinstance => k_is)
    (case z_bool => k_is)
    (case z_int => k_is)
    (case z_list => k_is)
    (case z_tuple => k_is)
    (case z_sorted => k_is)
    (case z_str => k_is)
    (case z_sum => k_is)
    (case z_abs => k_is)
