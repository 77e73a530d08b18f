import PyProof.Rows.All
import Wide.All
import OpenK.AllK
import Wide.FinOn
import Lean
import PyProof.EqAt
import PyProof.EqKinds
import PyProof.TupleCall
import PySem.Challenge.RW_windround_k14_shares_and_supplies
set_option Elab.async false
set_option linter.all false
set_option maxRecDepth 100000
/-! THE HAND LAYER, for ints, bools, texts, own classes, LISTS and tuples (index, slices, in, append, pop ..), calls, loops. Paste it whole ahead of your own text; what your proof does not reach may be deleted. -/
namespace L2
open PySem PySem.Spec PyProof.Rows

/-- a key: an int or a str -/
abbrev Key := Sum Int Str
def keyIs : Key → Value → Bool
  | .inl k, v => Value.isInt k v
  | .inr x, v => Value.isStrOf x v
def keyH (w : World) : Key → Int
  | .inl k => hashInt k
  | .inr x => hashStr w x
theorem keyIs_shape : ∀ {k : Key} {v : Value}, keyIs k v = true → (∃ i t, k = Sum.inl i ∧ v = Value.int i t) ∨ (∃ x t, k = Sum.inr x ∧ v = Value.str x t)
  | .inl i, v, h => by
    obtain ⟨t, e⟩ := Value.isInt_shape (k := i) (v := v) h
    exact .inl ⟨i, t, rfl, e⟩
  | .inr x, v, h => by
    obtain ⟨t, e⟩ := Value.isStrOf_shape (x := x) (v := v) h
    exact .inr ⟨x, t, rfl, e⟩
theorem keyIs_int (i : Int) (t : Tok) : keyIs (.inl i) (.int i t) = true := by simp [keyIs, Value.isInt]
theorem keyIs_str (x : Str) (t : Tok) : keyIs (.inr x) (.str x t) = true := by simp [keyIs, Value.isStrOf]
theorem key_ll (a b : Int) : decide ((Sum.inl a : Key) = Sum.inl b) = (a == b) := by
  by_cases e : a = b
  · subst e; simp
  · have h : ¬ (Sum.inl a : Key) = Sum.inl b := fun q => e (Sum.inl.inj q)
    rw [decide_eq_false h]
    exact (beq_eq_false_iff_ne.mpr e).symm
theorem key_rr (a b : Str) : decide ((Sum.inr a : Key) = Sum.inr b) = decide (a = b) := by
  by_cases e : a = b
  · subst e; simp
  · have h : ¬ (Sum.inr a : Key) = Sum.inr b := fun q => e (Sum.inr.inj q)
    rw [decide_eq_false h, decide_eq_false e]
theorem key_lr (a : Int) (b : Str) : decide ((Sum.inl a : Key) = Sum.inr b) = false := decide_eq_false (fun q => nomatch q)
theorem key_rl (a : Str) (b : Int) : decide ((Sum.inr a : Key) = Sum.inl b) = false := decide_eq_false (fun q => nomatch q)

def mixKind (prog : Program) (w : World) : PySem.KeyKind prog w Key where
  is := keyIs
  hash := keyH w
  inj := fun v a b ha hb => by
    rcases keyIs_shape ha with ⟨i, t, rfl, rfl⟩ | ⟨x, t, rfl, rfl⟩
    · rcases keyIs_shape hb with ⟨j, u, rfl, e⟩ | ⟨y, u, rfl, e⟩
      · injection e with e1 _; rw [e1]
      · exact nomatch e
    · rcases keyIs_shape hb with ⟨j, u, rfl, e⟩ | ⟨y, u, rfl, e⟩
      · exact nomatch e
      · injection e with e1 _; rw [e1]
  byValue := fun k v h => by
    rcases keyIs_shape h with ⟨i, t, rfl, rfl⟩ | ⟨x, t, rfl, rfl⟩ <;> rfl
  pyHash := fun hv h => by
    rcases keyIs_shape hv with ⟨i, t, rfl, rfl⟩ | ⟨x, t, rfl, rfl⟩
    · exact wpAny_pyHash_int h
    · exact wpAny_pyHash_str h
  eqBool := fun hu hv h => by
    rcases keyIs_shape hu with ⟨i, t, rfl, rfl⟩ | ⟨x, t, rfl, rfl⟩
    · rcases keyIs_shape hv with ⟨j, u, rfl, rfl⟩ | ⟨y, u, rfl, rfl⟩
      · rw [key_ll] at h; exact wpAny_eqBool_int h
      · rw [key_lr] at h; exact SeqAt.EqAt.int_str i t y u _ _ _ _ h
    · rcases keyIs_shape hv with ⟨j, u, rfl, rfl⟩ | ⟨y, u, rfl, rfl⟩
      · rw [key_rl] at h; exact SeqAt.EqAt.str_int x t j u _ _ _ _ h
      · rw [key_rr] at h; exact wpAny_eqBool_str h
  «strs» := fun k x t v h => by
    rcases keyIs_shape h with ⟨i, u, rfl, e⟩ | ⟨y, u, rfl, e⟩
    · exact nomatch e
    · injection e with e1 _
      subst e1
      cases v <;> rfl

theorem mixKind_is (prog : Program) (w : World) (k : Key) (v : Value) : (mixKind prog w).is k v = keyIs k v := rfl
theorem mixKind_int (prog : Program) (w : World) (i : Int) (t : Tok) : (mixKind prog w).is (.inl i) (.int i t) = true := keyIs_int i t
theorem mixKind_str (prog : Program) (w : World) (x : Str) (t : Tok) : (mixKind prog w).is (.inr x) (.str x t) = true := keyIs_str x t
end L2

namespace L2
open PySem PySem.Spec PyProof.Rows

/-- a value, without the heap -/
inductive V where
  | non | bl (b : Bool) | int (i : Int) | str (x : Str) | byt (b : Array UInt8) | flt (b : UInt64) | ref (a : Addr) | ty (n : String)
  deriving DecidableEq

def RelV : V → Value → Prop
  | .non, u => u = Value.none
  | .bl b, u => u = Value.bool b
  | .int i, u => ∃ t, u = Value.int i t
  | .str x, u => ∃ t, u = Value.str x t
  | .byt b, u => ∃ t, u = Value.bytes b t
  | .flt b, u => ∃ t, u = Value.float b t
  | .ref a, u => u = Value.ref a
  | .ty n, u => u = Value.type n

abbrev Vals : List V → List Value → Prop := Paired RelV
theorem Vals.length {xs : List V} {us : List Value} (r : Vals xs us) : xs.length = us.length := Paired.length r
theorem Vals.get : ∀ {xs : List V} {us : List Value} {i : Nat} {x : V}, Vals xs us → xs[i]? = some x → ∃ u, us[i]? = some u ∧ RelV x u
  | _, _, _, _, .nil, e => by simp at e
  | _, _, 0, _, .cons r _, e => by simp at e; subst e; exact ⟨_, rfl, r⟩
  | _, _, i + 1, x, .cons _ t, e => by
    obtain ⟨u, h1, h2⟩ := Vals.get (i := i) (x := x) t (by simpa using e)
    exact ⟨u, by simpa using h1, h2⟩
theorem Vals.set {x : V} {u : Value} (r : RelV x u) : ∀ {xs : List V} {us : List Value} (i : Nat), Vals xs us → Vals (xs.set i x) (us.set i u)
  | _, _, _, .nil => .nil
  | _, _, 0, .cons _ t => .cons r t
  | _, _, i + 1, .cons q t => .cons q (Vals.set r i t)
theorem Vals.append : ∀ {xs ys : List V} {us ws : List Value}, Vals xs us → Vals ys ws → Vals (xs ++ ys) (us ++ ws)
  | _, _, _, _, .nil, s => s
  | _, _, _, _, .cons r t, s => .cons r (Vals.append t s)
theorem Vals.take : ∀ {xs : List V} {us : List Value} (n : Nat), Vals xs us → Vals (xs.take n) (us.take n)
  | _, _, 0, _ => .nil
  | _, _, _ + 1, .nil => .nil
  | _, _, n + 1, .cons r t => .cons r (Vals.take n t)
theorem Vals.drop : ∀ {xs : List V} {us : List Value} (n : Nat), Vals xs us → Vals (xs.drop n) (us.drop n)
  | _, _, 0, r => r
  | _, _, _ + 1, .nil => .nil
  | _, _, n + 1, .cons _ t => Vals.drop n t
theorem Vals.none_of : ∀ {xs : List V} {us : List Value} {i : Nat}, Vals xs us → xs[i]? = none → us[i]? = none := fun {xs us i} r e => by
  have h1 := r.length
  have h2 : xs.length ≤ i := List.getElem?_eq_none_iff.mp e
  exact List.getElem?_eq_none_iff.mpr (by omega)

def RelO : Option V → Option Value → Prop
  | some v, some u => RelV v u
  | none, none => True
  | _, _ => False
def KV {κ : Type} : List (κ × V) → List (κ × Value) → Prop := Paired fun (p : κ × V) (q : κ × Value) => p.1 = q.1 ∧ RelV p.2 q.2

/-- a key of a dict (00_mix): an int or a text -/
def kV : Key → V
  | .inl i => .int i
  | .inr x => .str x

/-- what stands at a tracked address -/
inductive HO where
  /-- a list -/
  | lst (xs : List V)
  /-- a tuple (never changes) -/
  | tup (xs : List V)
  /-- a dict whose keys are ints and texts; one whose keys are tuples of ints and texts (the empty one is both) -/
  | dK (kvs : List (Key × V)) | dT (kvs : List (List Key × V))
  /-- a set of ints: its members, its size -/
  | set (S : Int → Bool) (n : Nat)
  /-- an instance of the class at C, its dict at dx, its attributes -/
  | ins (C dx : Addr) (fs : List (Str × V))
  /-- the dict of the instance at x -/
  | own (x : Addr)
  /-- the dict of an exception -/
  | xd (fs : List (Str × V))
  /-- a bound method, f of x -/
  | met (f x : Addr)
  /-- a range object lo, lo + 1, .. below hi -/
  | rng (lo hi : Int)
  /-- a thing that is known to the object (the script; a dict while a loop walks it): read, never written while it is so -/
  | frz (o : Obj) (u : HO)
  /-- a code object's table -/
  | tbl (ps : Array Value)
  /-- any other thing, by what is true of its one object (a def of one's own: SetO a S n := HO.ext fun h => ..) -/
  | ext (φ : Heap → Prop)

abbrev Hp := Addr → Option HO
def upd (H : Hp) (a : Addr) (o : HO) : Hp := fun b => if b = a then some o else H b
theorem upd_same {H : Hp} {a : Addr} {o : HO} : upd H a o a = some o := by unfold upd; rw [if_pos rfl]
theorem upd_ne {H : Hp} {a b : Addr} {o : HO} (h : b ≠ a) : upd H a o b = H b := by unfold upd; rw [if_neg h]
theorem upd_upd {H : Hp} {a : Addr} {o u : HO} : upd (upd H a o) a u = upd H a u := by
  funext b; unfold upd; split <;> rfl
/-- two objects of different content stand apart -/
theorem ne_of {H : Hp} {a b : Addr} {o u : HO} (h : H a = some o) (h' : H b = some u) (d : o ≠ u) : a ≠ b := by
  intro e; subst e; rw [h] at h'; exact d (Option.some.inj h')
theorem ne_of_none {H : Hp} {a b : Addr} {o : HO} (h : H a = some o) (h' : H b = none) : a ≠ b := by
  intro e; subst e; rw [h] at h'; cases h'

section
variable (P : Program) (w : World)
def ObjOk (H : Hp) (h : Heap) (a : Addr) : HO → Prop
  | .lst xs => xs.length ≤ sizeLine ∧ ∃ (its : List Value) (n : Nat), Vals xs its ∧ h.get? a = some { cls := .type "list", data := .seq its.toArray n }
  | .tup xs => xs.length ≤ sizeLine ∧ ∃ its : List Value, Vals xs its ∧ IsTup h a its.toArray
  | .dK kvs => kvs.length ≤ sizeLine ∧ (a == sysModules) = false ∧ ∃ vs, KV kvs vs ∧ h.DictOf (mixKind P w) a vs
  | .dT kvs => kvs.length ≤ sizeLine ∧ (a == sysModules) = false ∧ ∃ xs : List (List Key × Addr × Value),
      Paired (fun (p : List Key × V) (q : List Key × Addr × Value) => p.1 = q.1 ∧ H q.2.1 = some (.tup (p.1.map kV)) ∧ RelV p.2 q.2.2) kvs xs ∧
      ∃ o es ep, h.get? a = some o ∧ o.ExactDict ∧ o.data = .dict es ep ∧ es.toList = xs.map (entryOfKey (tupleKind (mixKind P w))) ∧ (xs.map (·.1)).Nodup
  | .set S n => h.SetOf (intKind P w) a S n
  | .ins C dx fs => H dx = some (.own a) ∧ fs.length ≤ 1000 ∧ dx ≠ a ∧ h.get? a = some (PySem.W.instObj C dx) ∧
      ∃ mA, h.Ns1 dx mA ∧ (∀ f, RelO (fs.lookup f) (mA f)) ∧ PySem.Within mA (fs.map (·.1))
  | .own _ => ∃ o, h.get? a = some o
  | .xd fs => ∃ mA, h.Ns1 a mA ∧ ∀ f, RelO (fs.lookup f) (mA f)
  | .rng lo hi => ∃ t u v, h.get? a = some { cls := .type "range", data := .fields #[.int lo t, .int hi u, .int 1 v] }
  | .frz o u => h.get? a = some o ∧ ObjOk H h a u
  | .tbl ps => h.get? a = some { cls := .none, data := .fields ps }
  | .met f x => h.get? a = some (PySem.W.methodObj (.ref f) (.ref x))
  | .ext φ => φ h ∧ (∃ o, h.get? a = some o) ∧ ∀ h1 h2 : Heap, φ h1 → (∀ o, h1.get? a = some o → h2.get? a = some o) → φ h2
/-- the abstract heap is held -/
def HOk (H : Hp) (h : Heap) : Prop := ∀ a o, H a = some o → ObjOk P w H h a o
end

section
variable {P : Program} {w : World} {H H' : Hp} {h h' : Heap} {a : Addr} {o : HO}
theorem ObjOk.lt (x : ObjOk P w H h a o) : a < h.objs.size := by
  cases o with
  | lst xs => obtain ⟨_, _, _, _, e⟩ := x; exact Heap.lt_size e
  | tup xs => obtain ⟨_, _, _, p⟩ := x; exact p.lt
  | dK kvs => obtain ⟨_, _, _, _, o, _, _, e, _⟩ := x; exact Heap.lt_size e
  | dT kvs => obtain ⟨_, _, _, _, o, _, _, e, _⟩ := x; exact Heap.lt_size e
  | set S n => obtain ⟨o, _, _, _, e, _⟩ := x; exact Heap.lt_size e
  | ins C dx fs => obtain ⟨_, _, _, e, _⟩ := x; exact Heap.lt_size e
  | own y => obtain ⟨_, e⟩ := x; exact Heap.lt_size e
  | xd fs => obtain ⟨_, ⟨_, _, _, e, _⟩, _⟩ := x; exact Heap.lt_size e
  | rng lo hi => obtain ⟨_, _, _, e⟩ := x; exact Heap.lt_size e
  | frz ob u => obtain ⟨e, _⟩ := x; exact Heap.lt_size e
  | tbl ps => exact Heap.lt_size (show h.get? a = some _ from x)
  | met f y => exact Heap.lt_size (show h.get? a = some _ from x)
  | ext φ => obtain ⟨_, ⟨_, e⟩, _⟩ := x; exact Heap.lt_size e
theorem Paired.mapP {α β : Type} {F G : α → β → Prop} : ∀ {l₁ : List α} {l₂ : List β}, Paired F l₁ l₂ → (∀ a b, F a b → G a b) → Paired G l₁ l₂
  | _, _, .nil, _ => .nil
  | _, _, .cons r t, f => .cons (f _ _ r) (Paired.mapP t f)
theorem Paired.imp' {α β : Type} {F G : α → β → Prop} (f : ∀ a b, F a b → G a b) {l₁ : List α} {l₂ : List β} (r : Paired F l₁ l₂) : Paired G l₁ l₂ := Paired.mapP r f
/-- what an object's description leans on: its own object, its own dict, the tuples -/
theorem ObjOk.stay (x : ObjOk P w H h a o) (k : ∀ b u, (b = a ∨ H b = some (.own a)) → h.get? b = some u → h'.get? b = some u)
    (ho : ∀ b, H b = some (.own a) → H' b = some (.own a)) (ht : ∀ b xs, H b = some (.tup xs) → H' b = some (.tup xs)) : ObjOk P w H' h' a o := by
  induction o with
  | lst xs => obtain ⟨z, its, n, r, e⟩ := x; exact ⟨z, its, n, r, k _ _ (.inl rfl) e⟩
  | tup xs => obtain ⟨z, its, r, ob, e, c⟩ := x; exact ⟨z, its, r, ob, k _ _ (.inl rfl) e, c⟩
  | dK kvs => obtain ⟨z, y, vs, r, ob, es, ep, e, c⟩ := x; exact ⟨z, y, vs, r, ob, es, ep, k _ _ (.inl rfl) e, c⟩
  | dT kvs =>
    obtain ⟨z, y, xs, r, ob, es, ep, e, c⟩ := x
    exact ⟨z, y, xs, Paired.mapP r fun p q z => ⟨z.1, ht _ _ z.2.1, z.2.2⟩, ob, es, ep, k _ _ (.inl rfl) e, c⟩
  | set S n => obtain ⟨ob, es, ep, t, e, c⟩ := x; exact ⟨ob, es, ep, t, k _ _ (.inl rfl) e, c⟩
  | ins C dx fs =>
    obtain ⟨d, z, ne, e, mA, ⟨od, es, ep, e2, c⟩, r⟩ := x
    exact ⟨ho _ d, z, ne, k _ _ (.inl rfl) e, mA, ⟨od, es, ep, k _ _ (.inr d) e2, c⟩, r⟩
  | own y => obtain ⟨ob, e⟩ := x; exact ⟨ob, k _ _ (.inl rfl) e⟩
  | xd fs => obtain ⟨mA, ⟨od, es, ep, e, c⟩, r⟩ := x; exact ⟨mA, ⟨od, es, ep, k _ _ (.inl rfl) e, c⟩, r⟩
  | rng lo hi => obtain ⟨t, u, v, e⟩ := x; exact ⟨t, u, v, k _ _ (.inl rfl) e⟩
  | frz ob u ih => obtain ⟨e, q⟩ := x; exact ⟨k _ _ (.inl rfl) e, ih q⟩
  | tbl ps =>
    have e : h.get? a = some { cls := .none, data := .fields ps } := x
    show h'.get? a = some { cls := .none, data := .fields ps }
    exact k a _ (.inl rfl) e
  | met f y =>
    have e : h.get? a = some (PySem.W.methodObj (.ref f) (.ref y)) := x
    show h'.get? a = some (PySem.W.methodObj (.ref f) (.ref y))
    exact k a _ (.inl rfl) e
  | ext φ => obtain ⟨p, ⟨o, e⟩, st⟩ := x; exact ⟨st _ _ p fun o q => k _ _ (.inl rfl) q, ⟨o, k _ _ (.inl rfl) e⟩, st⟩
theorem HOk.lt (x : HOk P w H h) (e : H a = some o) : a < h.objs.size := (x a o e).lt
theorem HOk.fresh (x : HOk P w H h) (e : h.objs.size ≤ a) : H a = none := by
  cases q : H a with
  | none => rfl
  | some u => exact absurd (Nat.lt_of_lt_of_le (x.lt q) e) (Nat.lt_irrefl _)
/-- every object of the heap is kept -/
theorem HOk.kept (x : HOk P w H h) (k : ∀ b u, h.get? b = some u → h'.get? b = some u) : HOk P w H h' := fun a o e =>
  (x a o e).stay (fun b u _ q => k b u q) (fun _ q => q) fun _ _ q => q
/-- a new object is laid and tracked -/
theorem HOk.laid (x : HOk P w H h) (k : ∀ b u, h.get? b = some u → h'.get? b = some u) (hp : h.objs.size ≤ a) (new : ObjOk P w (upd H a o) h' a o) : HOk P w (upd H a o) h' := fun b u e => by
  have hn := x.fresh hp
  by_cases hb : b = a
  · subst hb; rw [upd_same] at e; cases e; exact new
  · rw [upd_ne hb] at e
    exact (x b u e).stay (fun c v _ q => k c v q) (fun c q => by rw [upd_ne (ne_of_none q hn)]; exact q) fun c xs q => by rw [upd_ne (ne_of_none q hn)]; exact q
end

/-- what may be read as u: it is u, or a known u -/
def Rd (H : Hp) (a : Addr) (u : HO) : Prop := H a = some u ∨ ∃ o, H a = some (.frz o u)
theorem Rd.of {H : Hp} {a : Addr} {u : HO} (h : H a = some u) : Rd H a u := .inl h
theorem Rd.ok {P : Program} {w : World} {H : Hp} {h : Heap} {a : Addr} {u : HO} (r : Rd H a u) (x : HOk P w H h) : ObjOk P w H h a u := by
  rcases r with r | ⟨o, r⟩
  · exact x a u r
  · obtain ⟨_, q⟩ := x a _ r
    exact q
/-- what may be written -/
def Mut : Option HO → Prop
  | some (.lst _) => True
  | some (.dK _) => True
  | some (.dT _) => True
  | some (.set _ _) => True
  | some (.ins _ _ _) => True
  | some (.ext _) => True
  | _ => False
section
variable {P : Program} {w : World} {H : Hp} {h h' : Heap} {x e : Addr} {o' : HO}
/-- the object at e is changed: x itself, or the dict of the instance x -/
theorem HOk.write (ok : HOk P w H h) (mu : Mut (H x)) (he : e = x ∨ H e = some (.own x)) (k : ∀ b u, b ≠ e → h.get? b = some u → h'.get? b = some u) (heo : ∃ u, h'.get? e = some u)
    (new : ObjOk P w (upd H x o') h' x o') : HOk P w (upd H x o') h' := fun b u q => by
  have nown : ∀ c y, H c = some (.own y) → c ≠ x := fun c y r z => by subst z; rw [r] at mu; exact mu
  have ntup : ∀ c xs, H c = some (.tup xs) → c ≠ x := fun c xs r z => by subst z; rw [r] at mu; exact mu
  by_cases hb : b = x
  · subst hb; rw [upd_same] at q; cases q; exact new
  · rw [upd_ne hb] at q
    by_cases hbe : b = e
    · have q' : H b = some (.own x) := by
        rcases he with z | z
        · exact absurd (hbe.trans z) hb
        · rw [hbe]; exact z
      rw [q] at q'; cases q'
      obtain ⟨v, hv⟩ := heo
      exact ⟨v, by rw [hbe]; exact hv⟩
    · refine (ok b u q).stay (fun c v hc r => k c v ?_ r) (fun c r => by rw [upd_ne (nown c b r)]; exact r) fun c xs r => by rw [upd_ne (ntup c xs r)]; exact r
      rcases hc with rfl | hc
      · exact hbe
      · rintro rfl
        rcases he with z | z
        · exact nown c b hc z
        · rw [hc] at z; cases z; exact hb rfl
end

/-! ### kept unless tracked; of the frames at fs (the callers') the slots may change (an exception that passes writes there); of the records at ex (iterators) nothing is said -/
structure Un (fs ex : List Addr) (H H' : Hp) (h h' : Heap) : Prop where
  keep : ∀ b o, h.get? b = some o → H b = none → b ∉ fs → b ∉ ex → h'.get? b = some o
  slot : ∀ b o, h.get? b = some o → H b = none → b ∈ fs → b ∉ ex → ∃ sl, h'.get? b = some { o with slots := sl }
  free : ∀ b o, h.get? b = some o → H b = none → b ∉ ex → H' b = none
  there : ∀ b o, h.get? b = some o → b ∉ ex → ∃ o', h'.get? b = some o'
  tups : ∀ b xs, H b = some (.tup xs) → H' b = some (.tup xs)
  frzs : ∀ b o u, H b = some (.frz o u) → H' b = some (.frz o u)
  tbls : ∀ b ps, H b = some (.tbl ps) → ∃ more, H' b = some (.tbl (ps ++ more))
section
variable {fs fs' ex ex' : List Addr} {H H1 H2 : Hp} {h h1 h2 h' : Heap} {a x e : Addr} {o : HO}
theorem Un.any (u : Un fs ex H H1 h h1) {b : Addr} {ob : Obj} (q : h.get? b = some ob) (n : H b = none) (hx : b ∉ ex) : ∃ sl, h1.get? b = some { ob with slots := sl } := by
  by_cases hb : b ∈ fs
  · exact u.slot b ob q n hb hx
  · exact ⟨ob.slots, u.keep b ob q n hb hx⟩
theorem Un.trans (a : Un fs ex H H1 h h1) (b : Un fs ex H1 H2 h1 h2) : Un fs ex H H2 h h2 where
  keep := fun c ob q n hc hx => b.keep c ob (a.keep c ob q n hc hx) (a.free c ob q n hx) hc hx
  slot := fun c ob q n hc hx => by
    obtain ⟨sl, e1⟩ := a.slot c ob q n hc hx
    obtain ⟨sl', e2⟩ := b.slot c _ e1 (a.free c ob q n hx) hc hx
    exact ⟨sl', e2⟩
  free := fun c ob q n hx => by
    obtain ⟨o', e1⟩ := a.there c ob q hx
    exact b.free c o' e1 (a.free c ob q n hx) hx
  there := fun c ob q hx => by
    obtain ⟨o', e1⟩ := a.there c ob q hx
    exact b.there c o' e1 hx
  tups := fun c xs q => b.tups c xs (a.tups c xs q)
  frzs := fun c ob xs q => b.frzs c ob xs (a.frzs c ob xs q)
  tbls := fun c ps q => by
    obtain ⟨m1, e1⟩ := a.tbls c ps q
    obtain ⟨m2, e2⟩ := b.tbls c _ e1
    exact ⟨m1 ++ m2, by rw [e2, Array.append_assoc]⟩
theorem Un.kept (k : ∀ b u, h.get? b = some u → h'.get? b = some u) : Un fs ex H H h h' :=
  ⟨fun b ob q _ _ _ => k b ob q, fun b ob q _ _ _ => ⟨ob.slots, k b ob q⟩, fun _ _ _ n _ => n, fun b ob q _ => ⟨ob, k b ob q⟩, fun _ _ q => q, fun _ _ _ q => q, fun _ ps q => ⟨#[], by rw [q]; simp⟩⟩
theorem Un.refl : Un fs ex H H h h := Un.kept fun _ _ q => q
theorem Un.laid (k : ∀ b u, h.get? b = some u → h'.get? b = some u) (hp : h.objs.size ≤ a) (hn : H a = none) : Un fs ex H (upd H a o) h h' where
  keep := fun b u q _ _ _ => k b u q
  slot := fun b u q _ _ _ => ⟨u.slots, k b u q⟩
  free := fun b u q n _ => by rw [upd_ne (Nat.ne_of_lt (Nat.lt_of_lt_of_le (Heap.lt_size q) hp))]; exact n
  there := fun b u q _ => ⟨u, k b u q⟩
  tups := fun b xs q => by rw [upd_ne (ne_of_none q hn)]; exact q
  frzs := fun b u xs q => by rw [upd_ne (ne_of_none q hn)]; exact q
  tbls := fun b ps q => ⟨#[], by rw [upd_ne (ne_of_none q hn), q]; simp⟩
theorem Un.write (mu : Mut (H x)) (he : e = x ∨ H e = some (.own x)) (k : ∀ b u, b ≠ e → h.get? b = some u → h'.get? b = some u) (heo : ∃ u, h'.get? e = some u) : Un fs ex H (upd H x o) h h' := by
  have hx : ∀ b, H b = none → b ≠ x := fun b n z => by subst z; rw [n] at mu; exact mu
  have hb : ∀ b, H b = none → b ≠ e := fun b n z => by
    subst z
    rcases he with r | r
    · exact hx b n r
    · rw [n] at r; cases r
  have hm : ∀ b u, H b = some u → ¬ Mut (some u) → b ≠ x := fun b u q nm z => by subst z; rw [q] at mu; exact nm mu
  refine ⟨fun b u q n _ _ => k b u (hb b n) q, fun b u q n _ _ => ⟨u.slots, k b u (hb b n) q⟩, fun b u q n _ => by rw [upd_ne (hx b n)]; exact n, fun b u q _ => ?_,
    fun b xs q => by rw [upd_ne (hm b _ q fun z => z)]; exact q, fun b u xs q => by rw [upd_ne (hm b _ q fun z => z)]; exact q, fun b ps q => ⟨#[], by rw [upd_ne (hm b _ q fun z => z), q]; simp⟩⟩
  by_cases hbe : b = e
  · subst hbe; exact heo
  · exact ⟨u, k b u hbe q⟩
theorem Un.mono (u : Un fs ex H H1 h h1) (hs : ∀ b ∈ fs, b ∈ fs') (hx : ∀ b ∈ ex, b ∈ ex') : Un fs' ex' H H1 h h1 :=
  ⟨fun b ob q n hb he => u.keep b ob q n (fun z => hb (hs b z)) fun z => he (hx b z), fun _ _ q n _ he => u.any q n fun z => he (hx _ z), fun b ob q n he => u.free b ob q n fun z => he (hx b z), fun b ob q he => u.there b ob q fun z => he (hx b z), u.tups, u.frzs, u.tbls⟩
end

/-! ### the heap without what is tracked -/
def trk (h : Heap) (H : Hp) : List Addr := (List.range h.objs.size).filter fun a => (H a).isSome
def hidT (h : Heap) (H : Hp) : Heap := PySem.W.hideAll h (trk h H)
theorem hidT_size (h : Heap) (H : Hp) : (hidT h H).objs.size = h.objs.size := PySem.W.hideAll_size _ _
theorem hidT_get {h : Heap} {H : Hp} {b : Addr} {o : Obj} (e : h.get? b = some o) (n : H b = none) : (hidT h H).get? b = some o :=
  PySem.W.hideAll_get _ e fun hm => by
    have q : (H b).isSome = true := (List.mem_filter.mp hm).2
    rw [n] at q; simp at q
theorem of_hidT {h : Heap} {H : Hp} {b : Addr} {o : Obj} (e : (hidT h H).get? b = some o) : h.get? b = some o ∧ H b = none := by
  have e' : h.get? b = some o := PySem.W.of_hideAll (trk h H) e
  refine ⟨e', ?_⟩
  cases q : H b with
  | none => rfl
  | some x =>
    have hm : b ∈ trk h H := List.mem_filter.mpr ⟨List.mem_range.mpr (Heap.lt_size e'), by simp [q]⟩
    have z : (hidT h H).get? b = none := PySem.W.hideAll_none (trk h H) hm
    rw [z] at e; cases e

/-! ### OpenK's ledger, filled with every new object but one -/
def allNews (g h : Heap) (L : Addr) : List (Addr × Obj) := (List.range h.objs.size).filterMap fun a => if a = L ∨ (g.get? a).isSome = true then none else (h.get? a).map fun o => (a, o)
theorem mem_allNews {g h : Heap} {L a : Addr} {o : Obj} (h1 : a ≠ L) (h2 : g.get? a = none) (h3 : h.get? a = some o) : (a, o) ∈ allNews g h L :=
  List.mem_filterMap.mpr ⟨a, List.mem_range.mpr (Heap.lt_size h3), by simp [h1, h2, h3]⟩
theorem of_mem_allNews {g h : Heap} {L : Addr} {p : Addr × Obj} (hp : p ∈ allNews g h L) : p.1 ≠ L ∧ g.get? p.1 = none ∧ h.get? p.1 = some p.2 := by
  obtain ⟨b, _, e⟩ := List.mem_filterMap.mp hp
  split at e
  · cases e
  · rename_i hn
    cases q : h.get? b with
    | none => rw [q] at e; simp at e
    | some u =>
      rw [q] at e
      simp only [Option.map_some, Option.some.injEq] at e
      subst e
      refine ⟨fun z => hn (.inl z), ?_, q⟩
      show g.get? b = none
      cases r : g.get? b with
      | none => rfl
      | some v => exact (hn (.inr (by simp [r]))).elim
def rest (g h : Heap) (L d : Addr) : List (Addr × Obj) := (allNews g h L).filter fun p => decide (p.1 ≠ d)
theorem rest_ne {g h : Heap} {L d : Addr} : ∀ p ∈ rest g h L d, p.1 ≠ d := fun p hp => of_decide_eq_true (List.mem_filter.mp hp).2
theorem mem_rest {g h : Heap} {L d a : Addr} {o : Obj} (h1 : a ≠ L) (h2 : g.get? a = none) (h3 : h.get? a = some o) (h4 : a ≠ d) : (a, o) ∈ rest g h L d :=
  List.mem_filter.mpr ⟨mem_allNews h1 h2 h3, decide_eq_true h4⟩
theorem news_all {g h : Heap} {L : Addr} : News g L h (allNews g h L) := fun p hp => let ⟨a, b, c⟩ := of_mem_allNews hp; ⟨c, a, b⟩
theorem news_at {g h : Heap} {L d : Addr} {o : Obj} (h1 : d ≠ L) (h2 : g.get? d = none) (h3 : h.get? d = some o) : News g L h ((d, o) :: rest g h L d) := fun p hp => by
  rcases List.mem_cons.mp hp with rfl | hp
  · exact ⟨h3, h1, h2⟩
  · exact news_all p (List.mem_filter.mp hp).1
/-- behind a rule that changed d alone: all else but the frame is kept -/
theorem kept_of_news {g h h' : Heap} {L d : Addr} {m : Str → Option Value} (k : ∀ b o, g.get? b = some o → h.get? b = some o) (F : Fr g L h' m) (N : News g L h' (rest g h L d)) :
    ∀ b o, b ≠ L → b ≠ d → h.get? b = some o → h'.get? b = some o := fun b o h1 h2 e => by
  cases q : g.get? b with
  | some u =>
    have := k b u q
    rw [e] at this; cases this
    exact F.keep b _ q
  | none => exact (N (b, o) (mem_rest h1 q e h2)).1
end L2

namespace L2
open PySem PySem.Spec PyProof.Rows

/-- the module's facts, over the base: the heap at the law's entry without what is tracked there -/
structure Mod (K : PySem.W.Frag) (mg : Str → Option Value) (base : Heap) : Prop where
  kin : K.In base
  glob : base.Ns mainGlobals mg
  blt : ∃ mb, base.Ns builtinsNs mb ∧ ∀ x : Str, x ≠ "__name__" → mb x = bootBuiltins x
  nolimit : base.NoLimit

/-- the context: a def's body (or a comprehension's block) running. base: fixed through the whole law; s₀, H₀: the entry; outer: the frames whose slots others may change (a def's callers); stack: all frames that run;
   ex: iterators that were made ahead of the entry and are walked here (a comprehension's); fn: the names whose cells were made at the entry (a def: all; a comprehension's block: its own); calm: not within an except suite; pn: pins that every state bears; xe: what is wanted of an exception that leaves the code -/
structure Cx where
  prog : Program
  w : World
  K : PySem.W.Frag
  mg : Str → Option Value
  base : Heap
  A : Around
  N : List Str
  s₀ : Shared
  H₀ : Hp
  env : Env
  outer : List Env
  stack : List Env
  ex : List Addr
  fn : Str → Bool
  calm : Bool
  pn : List (Addr × Obj)
  xe : Value → Shared → Prop
/-- the callers' frames -/
def frs (l : List Env) : List Addr := l.filterMap (·.frame)
abbrev Cx.fs (X : Cx) : List Addr := frs X.outer

def Vis (sc : Scope) (x : Str) : Prop := sc.names.lookup x = some .local ∨ sc.names.lookup x = some .cell ∨ sc.names.lookup x = some .free
def Loc (sc : Scope) (x : Str) : Prop := sc.names.lookup x = some .local ∨ sc.names.lookup x = some .cell
def Look (env : Env) (h : Heap) (m : Str → Option Value) (x : Str) (u : Value) : Prop :=
  (env.kindOf x = some .local ∧ m x = some u) ∨ ((env.kindOf x = some .cell ∨ env.kindOf x = some .free) ∧ ∃ c, env.cells.lookup x = some c ∧ h.IsCell c (some u))

structure Cx.Ok (X : Cx) : Prop where
  mod : Mod X.K X.mg X.base
  kind : X.env.scope.kind = .function
  glob : X.env.globals = mainGlobals
  blt : X.env.builtins = builtinsNs
  above : X.s₀.heap.objs.size ≤ X.env.locals
  inj : ∀ x y c, X.env.cells.lookup x = some c → X.env.cells.lookup y = some c → x = y
  has : ∀ x, (X.env.kindOf x = some .cell ∨ X.env.kindOf x = some .free) → ∃ c, X.env.cells.lookup x = some c
  cab : ∀ x c, X.fn x = true → X.env.cells.lookup x = some c → X.s₀.heap.objs.size ≤ c
  hd : X.calm = true → X.A.handled = none
  frames : X.A.frames = some X.stack
  stk : X.stack = X.outer ∨ (X.stack = X.env :: X.outer ∧ X.env.frame = some X.env.locals)
  exf : ∀ b ∈ X.ex, b ≠ X.env.locals ∧ ∀ x c, X.env.cells.lookup x = some c → c ≠ b
  bs : ∀ b o, X.base.get? b = some o → X.s₀.heap.get? b = some o ∧ X.H₀ b = none
  bsz : X.base.objs.size ≤ X.s₀.heap.objs.size
  noex : ∀ b o, X.base.get? b = some o → b ∉ X.ex
  exfs : ∀ b ∈ X.ex, b ∉ X.fs
  funs : X.s₀.heap.FunFrames X.base X.outer
  frf : ∀ b ∈ X.fs, X.H₀ b = none

structure Inv (X : Cx) (pins : List (Addr × Obj)) (σ : List (Option V)) (H : Hp) (s : Shared) : Prop where
  ok : X.Ok
  os : s.os = X.s₀.os
  bare : AllBare s.gens
  base : Un X.fs X.ex X.H₀ H X.s₀.heap s.heap
  loc : ∃ m, s.heap.Ns X.env.locals m ∧ ∀ (i : Nat) (x : Str) (v : V), X.N[i]? = some x → σ[i]? = some (some v) → Vis X.env.scope x → ∃ u, RelV v u ∧ Look X.env s.heap m x u
  cell : ∀ x c, X.env.cells.lookup x = some c → ∃ v, s.heap.IsCell c v
  free : H X.env.locals = none
  freeC : ∀ x c, X.env.cells.lookup x = some c → H c = none
  pin : ∀ p ∈ X.pn ++ pins, s.heap.get? p.1 = some p.2 ∧ H p.1 = none ∧ p.1 ≠ X.env.locals ∧ p.1 ∉ X.fs ∧ ∀ v, p.2.data ≠ .cell v
  hok : HOk X.prog X.w H s.heap
  len : σ.length = X.N.length

section
variable {X : Cx} {pins : List (Addr × Obj)} {σ : List (Option V)} {H H' : Hp} {s : Shared} {h' : Heap}

theorem Cx.Ok.nofr (ok : X.Ok) {b : Addr} {o : Obj} (e : X.base.get? b = some o) : b ∉ X.fs := fun hb => by
  have := (ok.funs.mem hb).1
  rw [e] at this; cases this
theorem Inv.bs (I : Inv X pins σ H s) : ∀ b o, X.base.get? b = some o → s.heap.get? b = some o ∧ H b = none := fun b o e =>
  ⟨I.base.keep b o (I.ok.bs b o e).1 (I.ok.bs b o e).2 (I.ok.nofr e) (I.ok.noex b o e), I.base.free b o (I.ok.bs b o e).1 (I.ok.bs b o e).2 (I.ok.noex b o e)⟩
theorem Inv.bk (I : Inv X pins σ H s) : ∀ b o, X.base.get? b = some o → s.heap.get? b = some o := fun b o e => (I.bs b o e).1
theorem Inv.mod (I : Inv X pins σ H s) : Mod X.K X.mg X.base := I.ok.mod
theorem Inv.kIn (I : Inv X pins σ H s) : X.K.In s.heap := I.ok.mod.kin.keeps I.bk
theorem Inv.nolimit (I : Inv X pins σ H s) : s.heap.NoLimit := I.ok.mod.nolimit.keeps I.bk
/-- the frame over the base: for OpenK's rules (K.In X.base is I.mod.kin) -/
theorem Inv.fr (I : Inv X pins σ H s) : ∃ m, Fr X.base X.env.locals s.heap m :=
  let ⟨m, hn, _⟩ := I.loc
  ⟨m, hn, I.bk, Nat.le_trans I.ok.bsz I.ok.above⟩
theorem Inv.lt (I : Inv X pins σ H s) : X.env.locals < s.heap.objs.size := let ⟨_, hn, _⟩ := I.loc; hn.lt
theorem Inv.sz (I : Inv X pins σ H s) : X.s₀.heap.objs.size ≤ s.heap.objs.size := Nat.le_trans I.ok.above (Nat.le_of_lt I.lt)
theorem Inv.nofs (I : Inv X pins σ H s) {a : Addr} (h : s.heap.objs.size ≤ a) : a ∉ X.fs := fun hb => by
  obtain ⟨_, o, ho, _⟩ := I.ok.funs.mem hb
  exact absurd (Nat.lt_of_lt_of_le (Heap.lt_size ho) (Nat.le_trans I.sz h)) (Nat.lt_irrefl _)
theorem Inv.cne (I : Inv X pins σ H s) : ∀ x c, X.env.cells.lookup x = some c → c ≠ X.env.locals := fun x c e z => by
  obtain ⟨v, o, ho, hd⟩ := I.cell x c e
  obtain ⟨m, ⟨o', es, ep, ho', hd', _⟩, _⟩ := I.loc
  rw [z, ho'] at ho; cases ho; rw [hd'] at hd; cases hd
theorem Inv.funs (I : Inv X pins σ H s) : s.heap.FunFrames X.base X.outer := by
  have all : ∀ (l : List Env), (∀ b ∈ frs l, b ∈ X.fs) → X.s₀.heap.FunFrames X.base l → s.heap.FunFrames X.base l := by
    intro l
    induction l with
    | nil => intro _ _; trivial
    | cons env r ih =>
      intro hs hl
      obtain ⟨hk, ⟨L, o, hf, hn, ho, hd⟩, hr⟩ := hl
      have hL : L ∈ X.fs := hs L (by unfold frs; rw [List.filterMap_cons, hf]; exact List.mem_cons_self)
      obtain ⟨sl, e⟩ := I.base.slot L o ho (I.ok.frf L hL) hL fun z => I.ok.exfs L z hL
      exact ⟨hk, ⟨L, _, hf, hn, e, hd⟩, ih (fun b hb => hs b (by unfold frs; rw [List.filterMap_cons, hf]; exact List.mem_cons_of_mem _ hb)) hr⟩
  exact all X.outer (fun _ hb => hb) I.ok.funs

/-- the frames that run, for a call -/
theorem Inv.stack (I : Inv X pins σ H s) : s.heap.FunFrames X.base X.stack := by
  rcases I.ok.stk with e | ⟨e, hf⟩
  · rw [e]; exact I.funs
  · rw [e]
    obtain ⟨m, hn, _⟩ := I.loc
    refine .cons (by rw [I.ok.kind]; decide) hf hn ?_ I.funs
    exact Heap.get?_none_of_le (Nat.le_trans I.ok.bsz I.ok.above)
theorem Inv.stkSub (I : Inv X pins σ H s) : ∀ b ∈ frs X.stack, b ∈ X.env.locals :: X.fs := fun b hb => by
  rcases I.ok.stk with e | ⟨e, hf⟩
  · rw [e] at hb; exact List.mem_cons_of_mem _ hb
  · rw [e] at hb
    unfold frs at hb
    rw [List.filterMap_cons, hf] at hb
    exact hb
theorem Inv.stkFree (I : Inv X pins σ H s) : ∀ b ∈ frs X.stack, H b = none := fun b hb => by
  rcases List.mem_cons.mp (I.stkSub b hb) with e | hb
  · rw [e]; exact I.free
  · obtain ⟨_, o, ho, _⟩ := I.ok.funs.mem hb
    exact I.base.free b o ho (I.ok.frf b hb) fun z => I.ok.exfs b z hb

/-- THE STEP: the untracked objects but the frame and the records at ch are kept (the callers' frames up to slots), the frame's map is kept, the new abstract heap is held -/
theorem Inv.step {g' : Array GenState} {t' : Nat} {d' : Drawn} {ch : List Addr} (I : Inv X pins σ H s)
    (hch : ∀ b ∈ ch, (b ∈ X.ex ∨ X.s₀.heap.objs.size ≤ b) ∧ b ≠ X.env.locals ∧ (∀ x c, X.env.cells.lookup x = some c → c ≠ b) ∧ ∀ p ∈ X.pn ++ pins, p.1 ≠ b)
    (keep : ∀ b o, b ≠ X.env.locals → b ∉ X.fs → b ∉ ch → s.heap.get? b = some o → H b = none → h'.get? b = some o)
    (slot : ∀ b o, b ≠ X.env.locals → b ∈ X.fs → b ∉ ch → s.heap.get? b = some o → H b = none → ∃ sl, h'.get? b = some { o with slots := sl }) (free : ∀ b o, b ∉ ch → s.heap.get? b = some o → H b = none → H' b = none)
    (there : ∀ b o, b ∉ ch → s.heap.get? b = some o → ∃ o', h'.get? b = some o')
    (tups : ∀ b xs, H b = some (.tup xs) → H' b = some (.tup xs)) (frzs : ∀ b o u, H b = some (.frz o u) → H' b = some (.frz o u)) (tbls : ∀ b ps, H b = some (.tbl ps) → ∃ more, H' b = some (.tbl (ps ++ more)))
    (ns : ∀ m, s.heap.Ns X.env.locals m → h'.Ns X.env.locals m) (hok : HOk X.prog X.w H' h') (hg : AllBare g') :
    Inv X pins σ H' { s with heap := h', gens := g', drawn := d', toks := t' } := by
  have neL : ∀ b o, X.s₀.heap.get? b = some o → b ≠ X.env.locals := fun b o e => Nat.ne_of_lt (Nat.lt_of_lt_of_le (Heap.lt_size e) I.ok.above)
  have neC : ∀ b o, X.s₀.heap.get? b = some o → b ∉ X.ex → b ∉ ch := fun b o e hx hb => by
    rcases (hch b hb).1 with z | z
    · exact hx z
    · exact absurd (Nat.lt_of_lt_of_le (Heap.lt_size e) z) (Nat.lt_irrefl _)
  have cellK : ∀ x c, X.env.cells.lookup x = some c → ∀ v, s.heap.IsCell c v → h'.IsCell c v := fun x c e v ⟨o, ho, hd⟩ => by
    have nch : c ∉ ch := fun z => (hch c z).2.2.1 x c e rfl
    by_cases hc : c ∈ X.fs
    · obtain ⟨sl, q⟩ := slot c o (I.cne x c e) hc nch ho (I.freeC x c e)
      exact ⟨_, q, hd⟩
    · exact ⟨o, keep c o (I.cne x c e) hc nch ho (I.freeC x c e), hd⟩
  refine ⟨I.ok, I.os, hg, ⟨fun b o e n hb hx => ?_, fun b o e n hb hx => ?_, fun b o e n hx => ?_, fun b o e hx => ?_, fun b xs e => tups b xs (I.base.tups b xs e), fun b o xs e => frzs b o xs (I.base.frzs b o xs e), fun b ps e => ?_⟩, ?_, fun x c e => ?_, ?_, fun x c e => ?_, fun p hp => ?_, hok, I.len⟩
  · exact keep b o (neL b o e) hb (neC b o e hx) (I.base.keep b o e n hb hx) (I.base.free b o e n hx)
  · obtain ⟨sl, e1⟩ := I.base.slot b o e n hb hx
    obtain ⟨sl', e2⟩ := slot b _ (neL b o e) hb (neC b o e hx) e1 (I.base.free b o e n hx)
    exact ⟨sl', e2⟩
  · obtain ⟨o', e1⟩ := I.base.there b o e hx
    exact free b o' (neC b o e hx) e1 (I.base.free b o e n hx)
  · obtain ⟨o', e1⟩ := I.base.there b o e hx
    exact there b o' (neC b o e hx) e1
  · obtain ⟨m1, e1⟩ := I.base.tbls b ps e
    obtain ⟨m2, e2⟩ := tbls b _ e1
    exact ⟨m1 ++ m2, by rw [e2, Array.append_assoc]⟩
  · obtain ⟨m, hn, hl⟩ := I.loc
    refine ⟨m, ns m hn, fun i x v e1 e2 e3 => ?_⟩
    obtain ⟨u, r, l⟩ := hl i x v e1 e2 e3
    refine ⟨u, r, ?_⟩
    rcases l with l | ⟨k, c, e, z⟩
    · exact .inl l
    · exact .inr ⟨k, c, e, cellK x c e _ z⟩
  · obtain ⟨v, z⟩ := I.cell x c e
    exact ⟨v, cellK x c e v z⟩
  · obtain ⟨m, ⟨o, _, _, ho, _⟩, _⟩ := I.loc
    exact free _ o (fun z => (hch _ z).2.1 rfl) ho I.free
  · obtain ⟨v, o, ho, hd⟩ := I.cell x c e
    exact free c o (fun z => (hch c z).2.2.1 x c e rfl) ho (I.freeC x c e)
  · obtain ⟨e, n, ne, nf, d⟩ := I.pin p hp
    have nch : p.1 ∉ ch := fun z => (hch p.1 z).2.2.2 p hp rfl
    exact ⟨keep p.1 p.2 ne nf nch e n, free p.1 p.2 nch e n, ne, nf, d⟩
/-- .. where the frame's own object is kept too -/
theorem Inv.un {t' : Nat} (I : Inv X pins σ H s) (u : Un X.fs [] H H' s.heap h') (hok : HOk X.prog X.w H' h') : Inv X pins σ H' { s with heap := h', toks := t' } := by
  obtain ⟨m, ⟨o, es, ep, ho, r⟩, _⟩ := id I.loc
  obtain ⟨sl, hL⟩ := u.any ho I.free (by simp)
  exact I.step (g' := s.gens) (d' := s.drawn) (ch := []) (fun _ z => nomatch z) (fun b o _ hb _ e n => u.keep b o e n hb (by simp)) (fun b o _ hb _ e n => u.slot b o e n hb (by simp)) (fun b o _ e n => u.free b o e n (by simp)) (fun b o _ e => u.there b o e (by simp)) u.tups u.frzs u.tbls (fun m' hm => by
    obtain ⟨o', es', ep', ho', r'⟩ := hm
    rw [ho] at ho'; cases ho'
    exact ⟨_, es', ep', hL, r'⟩) hok I.bare
/-- behind a call (or a comprehension's block): the slots of this frame may have changed too, the records at ch may have turned -/
theorem Inv.call {g' : Array GenState} {t' : Nat} {d' : Drawn} {ch : List Addr} (I : Inv X pins σ H s) (u : Un (frs X.stack) ch H H' s.heap h') (hok : HOk X.prog X.w H' h') (hg : AllBare g')
    (hch : ∀ b ∈ ch, (b ∈ X.ex ∨ X.s₀.heap.objs.size ≤ b) ∧ b ≠ X.env.locals ∧ (∀ x c, X.env.cells.lookup x = some c → c ≠ b) ∧ ∀ p ∈ X.pn ++ pins, p.1 ≠ b) :
    Inv X pins σ H' { s with heap := h', gens := g', drawn := d', toks := t' } := by
  obtain ⟨m, ⟨o, es, ep, ho, r⟩, _⟩ := id I.loc
  obtain ⟨sl, hL⟩ := u.any ho I.free fun z => (hch _ z).2.1 rfl
  exact I.step (ch := ch) hch (fun b o hL hb hc e n => u.keep b o e n (fun z => (List.mem_cons.mp (I.stkSub b z)).elim hL hb) hc) (fun b o _ _ hc e n => u.any e n hc) (fun b o hc e n => u.free b o e n hc) (fun b o hc e => u.there b o e hc) u.tups u.frzs u.tbls (fun m' hm => by
    obtain ⟨o', es', ep', ho', r'⟩ := hm
    rw [ho] at ho'; cases ho'
    exact ⟨_, es', ep', hL, r'⟩) hok hg
/-- an untracked record of ours (an iterator) has turned -/
theorem Inv.turned {t' : Nat} {it : Addr} (I : Inv X pins σ H s) (k : ∀ b o, b ≠ it → s.heap.get? b = some o → h'.get? b = some o) (hn : H it = none) (hL : it ≠ X.env.locals)
    (h1 : it ∈ X.ex ∨ X.s₀.heap.objs.size ≤ it) (h2 : ∀ x c, X.env.cells.lookup x = some c → c ≠ it) (h3 : ∀ p ∈ X.pn ++ pins, p.1 ≠ it) : Inv X pins σ H { s with heap := h', toks := t' } := by
  have nit : ∀ b u, H b = some u → b ≠ it := fun b u e z => by rw [z, hn] at e; cases e
  refine I.step (g' := s.gens) (d' := s.drawn) (ch := [it]) (fun b hb => ?_) (fun b o _ _ hc e _ => k b o (fun z => hc (by simp [z])) e) (fun b o _ _ hc e _ => ⟨o.slots, k b o (fun z => hc (by simp [z])) e⟩) (fun _ _ _ _ n => n)
    (fun b o hc e => ⟨o, k b o (fun z => hc (by simp [z])) e⟩) (fun _ _ e => e) (fun _ _ _ e => e) (fun b ps e => ⟨#[], by rw [e]; simp⟩) (fun m hm => ?_) (fun b u e => ?_) I.bare
  · have e : b = it := by simpa using hb
    subst e
    exact ⟨h1, hL, h2, h3⟩
  · obtain ⟨o, es, ep, ho, r⟩ := hm
    exact ⟨o, es, ep, k _ o (Ne.symm hL) ho, r⟩
  · refine (I.hok b u e).stay (fun c v hc q => k c v ?_ q) (fun _ q => q) fun _ _ q => q
    rcases hc with z | z
    · rw [z]; exact nit b u e
    · exact nit c _ z
theorem Inv.tok (I : Inv X pins σ H s) (t : Nat) : Inv X pins σ H { s with toks := t } := I.un (h' := s.heap) (t' := t) Un.refl I.hok
/-- all objects kept -/
theorem Inv.kept {t' : Nat} (I : Inv X pins σ H s) (k : ∀ b u, s.heap.get? b = some u → h'.get? b = some u) : Inv X pins σ H { s with heap := h', toks := t' } := I.un (Un.kept k) (I.hok.kept k)
/-- a new object laid and tracked -/
theorem Inv.laid {a : Addr} {o : HO} {t' : Nat} (I : Inv X pins σ H s) (k : ∀ b u, s.heap.get? b = some u → h'.get? b = some u) (hp : s.heap.objs.size ≤ a) (new : ObjOk X.prog X.w (upd H a o) h' a o) :
    Inv X pins σ (upd H a o) { s with heap := h', toks := t' } := I.un (Un.laid k hp (I.hok.fresh hp)) (I.hok.laid k hp new)
/-- an object written -/
theorem Inv.write {x e : Addr} {o : HO} {t' : Nat} (I : Inv X pins σ H s) (mu : Mut (H x)) (he : e = x ∨ H e = some (.own x)) (k : ∀ b u, b ≠ e → s.heap.get? b = some u → h'.get? b = some u) (heo : ∃ u, h'.get? e = some u)
    (new : ObjOk X.prog X.w (upd H x o) h' x o) : Inv X pins σ (upd H x o) { s with heap := h', toks := t' } := I.un (Un.write mu he k heo) (I.hok.write mu he k heo new)
/-- forgetting slots, pins -/
theorem Inv.weak {σ' : List (Option V)} (I : Inv X pins σ H s) (hl : σ'.length = σ.length) (w : ∀ (i : Nat) v, σ'[i]? = some (some v) → σ[i]? = some (some v)) : Inv X pins σ' H s :=
  ⟨I.ok, I.os, I.bare, I.base, let ⟨m, hn, hl'⟩ := I.loc; ⟨m, hn, fun i x v e1 e2 e3 => hl' i x v e1 (w i v e2) e3⟩, I.cell, I.free, I.freeC, I.pin, I.hok, hl.trans I.len⟩
theorem Inv.pins_of {pins' : List (Addr × Obj)} (I : Inv X pins σ H s) (h : ∀ p ∈ pins', s.heap.get? p.1 = some p.2 ∧ H p.1 = none ∧ p.1 ≠ X.env.locals ∧ p.1 ∉ X.fs ∧ ∀ v, p.2.data ≠ .cell v) : Inv X pins' σ H s :=
  ⟨I.ok, I.os, I.bare, I.base, I.loc, I.cell, I.free, I.freeC, fun p hp => (List.mem_append.mp hp).elim (fun z => I.pin p (List.mem_append_left _ z)) (h p), I.hok, I.len⟩

theorem nodup_ix {N : List Str} (hN : N.Nodup) {i j : Nat} {x : Str} (a : N[i]? = some x) (b : N[j]? = some x) : i = j := by
  obtain ⟨h1, e1⟩ := List.getElem?_eq_some_iff.mp a
  obtain ⟨h2, e2⟩ := List.getElem?_eq_some_iff.mp b
  exact (List.getElem_inj hN).mp (e1.trans e2.symm)

/-- a name is stored; what changed -/
theorem store_ok2 {M : Model} {A : Around} {E : Value → Shared → Prop} {i : Nat} {x : Str} {v : V} {u : Value} {Q : Unit → Shared → Prop} (I : Inv X pins σ H s) (hN : X.N.Nodup) (hi : X.N[i]? = some x) (hx : Loc X.env.scope x) (r : RelV v u)
    (h : ∀ s', Inv X pins (σ.set i (some v)) H s' → (∃ a, Heap.SameBut a s.heap s'.heap ∧ (a = X.env.locals ∨ X.env.cells.lookup x = some a)) → Q () s') (hf : X.fn x = true ∨ X.env.scope.names.lookup x = some .local := by first | exact .inl rfl | exact .inr rfl | assumption) : wpAny M A (storeName X.env x u) Q E s := by
  obtain ⟨m, hn, hl⟩ := id I.loc
  have hcls : (X.env.scope.kind == .class || (X.env.scope.kind == .module && X.env.locals != X.env.globals)) = false := by rw [I.ok.kind]; rfl
  have hiσ : i < σ.length := by rw [I.len]; exact (List.getElem?_eq_some_iff.mp hi).1
  have cne := I.cne
  have tracked : ∀ {a : Addr} {h' : Heap}, (∃ o, s.heap.get? a = some o ∧ H a = none) → Heap.SameBut a s.heap h' → HOk X.prog X.w H h' := fun {a h'} ha hs b ob e => by
    obtain ⟨_, _, hfree⟩ := ha
    refine (I.hok b ob e).stay (fun c w' hc q => (hs.2 c ?_).trans q) (fun _ q => q) fun _ _ q => q
    rintro rfl
    rcases hc with rfl | hc
    · rw [hfree] at e; cases e
    · rw [hfree] at hc; cases hc
  rcases hx with hk | hk
  · refine wpAny_storeName_local hk hn (fun h' hn' hs => ?_) hcls
    obtain ⟨oL, _, _, hoL, _⟩ := id hn
    refine h _ ⟨I.ok, I.os, I.bare, ⟨fun b o e n hb hx => ?_, fun b o e n hb hx => ?_, I.base.free, fun b o e hx => ?_, I.base.tups, I.base.frzs, I.base.tbls⟩, ⟨_, hn', fun j y v' e1 e2 e3 => ?_⟩, fun y c e => ?_, I.free, I.freeC, fun p hp => ?_, tracked ⟨oL, hoL, I.free⟩ hs, by simpa using I.len⟩ ⟨_, hs, .inl rfl⟩
    · exact (hs.2 b (Nat.ne_of_lt (Nat.lt_of_lt_of_le (Heap.lt_size e) I.ok.above))).trans (I.base.keep b o e n hb hx)
    · obtain ⟨sl, e1⟩ := I.base.slot b o e n hb hx
      exact ⟨sl, (hs.2 b (Nat.ne_of_lt (Nat.lt_of_lt_of_le (Heap.lt_size e) I.ok.above))).trans e1⟩
    · obtain ⟨o', e1⟩ := I.base.there b o e hx
      exact ⟨o', (hs.2 b (Nat.ne_of_lt (Nat.lt_of_lt_of_le (Heap.lt_size e) I.ok.above))).trans e1⟩
    · by_cases hj : j = i
      · subst hj
        rw [hi] at e1; cases e1
        rw [List.getElem?_set_self hiσ] at e2
        cases e2
        exact ⟨u, r, .inl ⟨hk, by simp⟩⟩
      · rw [List.getElem?_set_ne (Ne.symm hj)] at e2
        obtain ⟨u', r', q⟩ := hl j y v' e1 e2 e3
        refine ⟨u', r', ?_⟩
        rcases q with ⟨k, e⟩ | ⟨k, c, e, z⟩
        · refine .inl ⟨k, ?_⟩
          have : y ≠ x := fun e => hj (nodup_ix hN e1 (e ▸ hi))
          simp [this, e]
        · exact .inr ⟨k, c, e, z.sameBut hs (cne y c e)⟩
    · obtain ⟨w', z⟩ := I.cell y c e
      exact ⟨w', z.sameBut hs (cne y c e)⟩
    · obtain ⟨e, n, ne, nf, d⟩ := I.pin p hp
      exact ⟨(hs.2 p.1 ne).trans e, n, ne, nf, d⟩
  · have hfn : X.fn x = true := by
      rcases hf with z | z
      · exact z
      · rw [z] at hk; cases hk
    obtain ⟨c, hc⟩ := I.ok.has x (.inl hk)
    obtain ⟨w', z⟩ := I.cell x c hc
    refine wpAny_storeName_cell I.ok.kind hk hc z (fun h' hc' hs => ?_)
    obtain ⟨oc, hoc, hocd⟩ := id z
    refine h { s with heap := h' } ⟨I.ok, I.os, I.bare, ⟨fun b o e n hb hx => ?_, fun b o e n hb hx => ?_, I.base.free, fun b o e hx => ?_, I.base.tups, I.base.frzs, I.base.tbls⟩, ⟨m, hn.sameBut hs (Ne.symm (cne x c hc)), fun j y v' e1 e2 e3 => ?_⟩, fun y c' e => ?_, I.free, I.freeC, fun p hp => ?_, tracked ⟨oc, hoc, I.freeC x c hc⟩ hs, by simpa using I.len⟩ ⟨c, hs, .inr hc⟩
    · exact (hs.2 b (Nat.ne_of_lt (Nat.lt_of_lt_of_le (Heap.lt_size e) (I.ok.cab x c hfn hc)))).trans (I.base.keep b o e n hb hx)
    · obtain ⟨sl, e1⟩ := I.base.slot b o e n hb hx
      exact ⟨sl, (hs.2 b (Nat.ne_of_lt (Nat.lt_of_lt_of_le (Heap.lt_size e) (I.ok.cab x c hfn hc)))).trans e1⟩
    · obtain ⟨o', e1⟩ := I.base.there b o e hx
      exact ⟨o', (hs.2 b (Nat.ne_of_lt (Nat.lt_of_lt_of_le (Heap.lt_size e) (I.ok.cab x c hfn hc)))).trans e1⟩
    · by_cases hj : j = i
      · subst hj
        rw [hi] at e1; cases e1
        rw [List.getElem?_set_self hiσ] at e2
        cases e2
        exact ⟨u, r, .inr ⟨.inl hk, c, hc, hc'⟩⟩
      · rw [List.getElem?_set_ne (Ne.symm hj)] at e2
        obtain ⟨u', r', q⟩ := hl j y v' e1 e2 e3
        refine ⟨u', r', ?_⟩
        rcases q with q | ⟨k, c', e, z'⟩
        · exact .inl q
        · refine .inr ⟨k, c', e, z'.sameBut hs ?_⟩
          rintro rfl
          exact hj (nodup_ix hN e1 (I.ok.inj _ _ _ e hc ▸ hi))
    · by_cases hcc : c' = c
      · subst hcc; exact ⟨_, hc'⟩
      · obtain ⟨w2, z2⟩ := I.cell y c' e
        exact ⟨w2, z2.sameBut hs hcc⟩
    · obtain ⟨e, n, ne, nf, d⟩ := I.pin p hp
      refine ⟨(hs.2 p.1 ?_).trans e, n, ne, nf, d⟩
      intro q
      rw [q, hoc] at e
      have q' : oc = p.2 := Option.some.inj e
      exact d w' (by rw [← q']; exact hocd)
theorem store_ok {M : Model} {A : Around} {E : Value → Shared → Prop} {i : Nat} {x : Str} {v : V} {u : Value} {Q : Unit → Shared → Prop} (I : Inv X pins σ H s) (hN : X.N.Nodup) (hi : X.N[i]? = some x) (hx : Loc X.env.scope x) (r : RelV v u)
    (h : ∀ s', Inv X pins (σ.set i (some v)) H s' → Q () s') (hf : X.fn x = true ∨ X.env.scope.names.lookup x = some .local := by first | exact .inl rfl | exact .inr rfl | assumption) : wpAny M A (storeName X.env x u) Q E s :=
  store_ok2 I hN hi hx r (fun s' I' _ => h s' I') hf
/-- behind a call or a block, the state as it is -/
theorem Inv.call' {s' : Shared} {ch : List Addr} (I : Inv X pins σ H s) (ho : s'.os = s.os) (u : Un (frs X.stack) ch H H' s.heap s'.heap) (hok : HOk X.prog X.w H' s'.heap) (hg : AllBare s'.gens)
    (hch : ∀ b ∈ ch, (b ∈ X.ex ∨ X.s₀.heap.objs.size ≤ b) ∧ b ≠ X.env.locals ∧ (∀ x c, X.env.cells.lookup x = some c → c ≠ b) ∧ ∀ p ∈ X.pn ++ pins, p.1 ≠ b) : Inv X pins σ H' s' := by
  obtain ⟨h', g', d', t', o'⟩ := s'
  have e : o' = s.os := ho
  subst e
  exact I.call (g' := g') (t' := t') (d' := d') u hok hg hch
end

/-! ### the judgements -/
/-- an exception: its class, its own dict's address (where it has one), the abstract heap behind it -/
abbrev XK := Value → Option Addr → Hp → Prop
abbrev St := List (Option V)
abbrev VK := V → Hp → Prop
/-- an expression's reading; a test's; an argument list's -/
abbrev TE := St → Hp → VK → Prop
abbrev TT := St → Hp → (Bool → Hp → Prop) → Prop
abbrev TA := St → Hp → (List V → Hp → Prop) → Prop
/-- what is wanted behind a statement -/
structure Ends where
  nx : St → Hp → Prop
  rt : VK
  bk : St → Hp → Prop := fun _ _ => False
  ct : St → Hp → Prop := fun _ _ => False
abbrev TS := Ends → St → Hp → Prop

def EP (X : Cx) (pins : List (Addr × Obj)) (σ : St) (Q : VK) (u : Value) (s' : Shared) : Prop := ∃ v H', Inv X pins σ H' s' ∧ RelV v u ∧ Q v H'
def TP (X : Cx) (pins : List (Addr × Obj)) (σ : St) (Q : Bool → Hp → Prop) (b : Bool) (s' : Shared) : Prop := ∃ H', Inv X pins σ H' s' ∧ Q b H'
def AP (X : Cx) (pins : List (Addr × Obj)) (σ : St) (Q : List V → Hp → Prop) (us : List Value) (s' : Shared) : Prop := ∃ vs H', Inv X pins σ H' s' ∧ Vals vs us ∧ Q vs H'
def SP (X : Cx) (pins : List (Addr × Obj)) (D : Ends) (f : Flow) (s' : Shared) : Prop :=
  match f with
  | .next => ∃ σ' H', Inv X pins σ' H' s' ∧ D.nx σ' H'
  | .brk => ∃ σ' H', Inv X pins σ' H' s' ∧ D.bk σ' H'
  | .cont => ∃ σ' H', Inv X pins σ' H' s' ∧ D.ct σ' H'
  | .ret u => ∃ v σ' H', Inv X pins σ' H' s' ∧ RelV v u ∧ D.rt v H'

def PE (X : Cx) (e : Expr) (t : TE) : Prop :=
  ∀ (pins : List (Addr × Obj)) (s : Shared) (σ : St) (H : Hp) (Q : VK), Inv X pins σ H s → t σ H Q → wpAny (model X.prog X.w) X.A (eval e X.env) (EP X pins σ Q) X.xe s
def PT (X : Cx) (e : Expr) (t : TT) : Prop :=
  ∀ (pins : List (Addr × Obj)) (s : Shared) (σ : St) (H : Hp) (Q : Bool → Hp → Prop), Inv X pins σ H s → t σ H Q → wpAny (model X.prog X.w) X.A (isTrue e X.env (eval e X.env)) (TP X pins σ Q) X.xe s
/-- a test whatever its 'whole' is (and, or) -/
def PW (X : Cx) (e : Expr) (t : TT) : Prop :=
  ∀ (whole : Sem Value) (pins : List (Addr × Obj)) (s : Shared) (σ : St) (H : Hp) (Q : Bool → Hp → Prop), Inv X pins σ H s → t σ H Q → wpAny (model X.prog X.w) X.A (isTrue e X.env whole) (TP X pins σ Q) X.xe s
theorem PW.pt {X : Cx} {e : Expr} {t : TT} (h : PW X e t) : PT X e t := h _
/-- an argument list (no star), from the left -/
def PA (X : Cx) (es : List Expr) (t : TA) : Prop :=
  ∀ (pos : Pos) (pins : List (Addr × Obj)) (s : Shared) (σ : St) (H : Hp) (Q : List V → Hp → Prop), Inv X pins σ H s → t σ H Q → wpAny (model X.prog X.w) X.A (spliced (backTo pos (starEach es X.env))) (AP X pins σ Q) X.xe s
def PS (X : Cx) (st : Stmt) (t : TS) : Prop :=
  ∀ (pins : List (Addr × Obj)) (s : Shared) (σ : St) (H : Hp) (D : Ends), Inv X pins σ H s → t D σ H → wpAny (model X.prog X.w) X.A (exec st X.env) (SP X pins D) X.xe s
def PSs (X : Cx) (st : List Stmt) (t : TS) : Prop :=
  ∀ (pins : List (Addr × Obj)) (s : Shared) (σ : St) (H : Hp) (D : Ends), Inv X pins σ H s → t D σ H → wpAny (model X.prog X.w) X.A (execs st X.env) (SP X pins D) X.xe s
/-- weaken the end -/
theorem thn {α : Type} {t : Sem α} {Q Q' : α → Shared → Prop} {M : Model} {A : Around} {E : Value → Shared → Prop} {s : Shared} (h : wpAny M A t Q E s) (hQ : ∀ a s, Q a s → Q' a s) : wpAny M A t Q' E s := wpAny_mono h hQ fun _ _ x => x
end L2

namespace L2
open PySem PySem.Spec PyProof.Rows
section
variable {X : Cx}

/-- two expressions in a row -/
theorem bin {a b : Expr} {ta tb : TE} (ha : PE X a ta) (hb : PE X b tb) {pins : List (Addr × Obj)} {s : Shared} {σ : St} {H : Hp} {R : V → V → Hp → Prop} (I : Inv X pins σ H s) (h : ta σ H fun x H1 => tb σ H1 fun y H2 => R x y H2)
    {α : Type} {Q : α → Shared → Prop} {f : Value → Value → Sem α}
    (hf : ∀ v u s2 x y H2, Inv X pins σ H2 s2 → RelV x v → RelV y u → R x y H2 → wpAny (model X.prog X.w) X.A (f v u) Q X.xe s2) :
    wpAny (model X.prog X.w) X.A (eval a X.env) (fun v s₁ => wpAny (model X.prog X.w) X.A (eval b X.env) (fun u s₂ => wpAny (model X.prog X.w) X.A (f v u) Q X.xe s₂) X.xe s₁) X.xe s := by
  refine thn (ha pins s σ H _ I h) fun v s1 ⟨x, H1, I1, r1, q1⟩ => ?_
  refine thn (hb pins s1 σ H1 _ I1 q1) fun u s2 ⟨y, H2, I2, r2, q2⟩ => ?_
  exact hf v u s2 x y H2 I2 r1 r2 q2

/-! ### names and constants -/
def tVar (i : Nat) : TE := fun σ H Q => ∃ v, σ[i]? = some (some v) ∧ Q v H
def tC (v : V) : TE := fun _ H Q => Q v H
theorem pe_var {i : Nat} {x : Str} {pos : Pos} (hN : X.N[i]? = some x) (hv : Vis X.env.scope x) (hd : (x == ("__debug__" : Str)) = false := by decide) (hcd : (x == ("__classdict__" : Str)) = false := by decide) : PE X (.Name x pos) (tVar i) := by
  intro pins s σ H Q I h
  obtain ⟨v, e, h⟩ := h
  obtain ⟨m, hn, hl⟩ := I.loc
  obtain ⟨u, r, l⟩ := hl i x v hN e hv
  have fin : EP X pins σ Q u s := ⟨v, H, I, r, h⟩
  rcases l with ⟨hk, hm⟩ | ⟨hk, c, hc, hcell⟩
  · exact wpAny_Name (wpAny_loadName_local I.ok.kind hk hn hm fin) hd
  · rcases hk with hk | hk
    · exact wpAny_Name (wpAny_loadName_cell I.ok.kind hk hc hcell fin) hd
    · exact wpAny_Name (wpAny_loadName_free I.ok.kind hk hc hcell fin hcd) hd
theorem pe_int {i j pos} : PE X (.Constant (.int i) j pos) (tC (.int i)) := fun _ _ _ H _ I h => wpAny_Constant_int ⟨.int i, H, I.tok _, ⟨_, rfl⟩, h⟩
theorem pe_bl {b j pos} : PE X (.Constant (.bool b) j pos) (tC (.bl b)) := fun _ _ _ H _ I h => Constant_bool ⟨.bl b, H, I, rfl, h⟩
theorem pe_non {j pos} : PE X (.Constant .none j pos) (tC .non) := fun _ _ _ H _ I h => Constant_none ⟨.non, H, I, rfl, h⟩
theorem pe_str {x j pos} : PE X (.Constant (.str x) j pos) (tC (.str x)) := fun _ _ _ H _ I h => Calls.Constant_str ⟨.str x, H, I.tok _, ⟨_, rfl⟩, h⟩

/-- a global name of the def -/
def Gl (X : Cx) (x : Str) : Prop := X.env.kindOf x = some .globalImplicit
theorem ld_glob {E : Value → Shared → Prop} {pins : List (Addr × Obj)} {s : Shared} {σ : St} {H : Hp} {x : Str} {u : Value} {pos : Pos} {Q : Value → Shared → Prop} (I : Inv X pins σ H s) (hg : Gl X x) (hm : X.mg x = some u) (h : Q u s)
    (hd : (x == ("__debug__" : Str)) = false := by decide) : wpAny (model X.prog X.w) X.A (eval (.Name x pos) X.env) Q E s :=
  Calls.Name_function_global I.ok.kind hg (Calls.loadGlobal_global (by rw [I.ok.glob]; exact I.mod.glob.keeps I.bk) hm h) hd
theorem ld_blt {E : Value → Shared → Prop} {pins : List (Addr × Obj)} {s : Shared} {σ : St} {H : Hp} {x : Str} {u : Value} {pos : Pos} {Q : Value → Shared → Prop} (I : Inv X pins σ H s) (hg : Gl X x) (hm : X.mg x = none) (hv : bootBuiltins x = some u) (h : Q u s)
    (hn : x ≠ "__name__" := by decide) (hd : (x == ("__debug__" : Str)) = false := by decide) : wpAny (model X.prog X.w) X.A (eval (.Name x pos) X.env) Q E s := by
  obtain ⟨mb, h1, h2⟩ := I.mod.blt
  exact Calls.Name_function_global I.ok.kind hg (Calls.loadGlobal_builtin (by rw [I.ok.glob]; exact I.mod.glob.keeps I.bk) hm (by rw [I.ok.blt]; exact h1.keeps I.bk) ((h2 x hn).trans hv) h) hd
/-- a module's constant, a class, a function, as a value -/
theorem pe_glob {x : Str} {v : V} {u : Value} {pos : Pos} (hg : Gl X x) (hm : X.mg x = some u) (r : RelV v u) (hd : (x == ("__debug__" : Str)) = false := by decide) : PE X (.Name x pos) (tC v) :=
  fun _ _ _ H _ I h => ld_glob I hg hm ⟨v, H, I, r, h⟩ hd
theorem pe_bltn {x : Str} {v : V} {u : Value} {pos : Pos} (hg : Gl X x) (hm : X.mg x = none) (hv : bootBuiltins x = some u) (r : RelV v u) (hn : x ≠ "__name__" := by decide) (hd : (x == ("__debug__" : Str)) = false := by decide) : PE X (.Name x pos) (tC v) :=
  fun _ _ _ H _ I h => ld_blt I hg hm hv ⟨v, H, I, r, h⟩ hn hd

/-! ### arithmetic -/
/-- two ints -/
def t2I (ta tb : TE) (k : Int → Int → Hp → Prop) : St → Hp → Prop := fun σ H => ta σ H fun x H1 => tb σ H1 fun y H2 => ∃ i j, x = .int i ∧ y = .int j ∧ k i j H2
def tAdd (ta tb : TE) : TE := fun σ H Q => t2I ta tb (fun i j H2 => Q (.int (i + j)) H2) σ H
def tSub (ta tb : TE) : TE := fun σ H Q => t2I ta tb (fun i j H2 => Q (.int (i - j)) H2) σ H
/-- the left factor below 2^64 -/
def tMul (ta tb : TE) : TE := fun σ H Q => t2I ta tb (fun i j H2 => (-(2 ^ 64) < i ∧ i < 2 ^ 64) ∧ Q (.int (i * j)) H2) σ H
variable {a b : Expr} {ta tb : TE} {pos : Pos}
theorem pe_add (ha : PE X a ta) (hb : PE X b tb) : PE X (.BinOp a .Add b pos) (tAdd ta tb) := by
  intro pins s σ H Q I h
  refine wpAny_BinOp (bin ha hb I h fun v u s2 x y H2 I2 rx ry q => ?_)
  obtain ⟨i, j, rfl, rfl, q⟩ := q
  obtain ⟨t, rfl⟩ := rx
  obtain ⟨t', rfl⟩ := ry
  exact add_int ⟨.int _, H2, I2.tok _, ⟨_, rfl⟩, q⟩
theorem pe_sub (ha : PE X a ta) (hb : PE X b tb) : PE X (.BinOp a .Sub b pos) (tSub ta tb) := by
  intro pins s σ H Q I h
  refine wpAny_BinOp (bin ha hb I h fun v u s2 x y H2 I2 rx ry q => ?_)
  obtain ⟨i, j, rfl, rfl, q⟩ := q
  obtain ⟨t, rfl⟩ := rx
  obtain ⟨t', rfl⟩ := ry
  exact sub_int ⟨.int _, H2, I2.tok _, ⟨_, rfl⟩, q⟩
theorem pe_mul (ha : PE X a ta) (hb : PE X b tb) : PE X (.BinOp a .Mult b pos) (tMul ta tb) := by
  intro pins s σ H Q I h
  refine wpAny_BinOp (bin ha hb I h fun v u s2 x y H2 I2 rx ry q => ?_)
  obtain ⟨i, j, rfl, rfl, ⟨q1, q2⟩, q⟩ := q
  obtain ⟨t, rfl⟩ := rx
  obtain ⟨t', rfl⟩ := ry
  exact mul_int ⟨.int _, H2, I2.tok _, ⟨_, rfl⟩, q⟩ (.of_left (intBits_le_64 q1 q2))

/-! ### comparisons -/
def PC (X : Cx) (op : CmpOp) (a b : Expr) (t : TE) : Prop :=
  ∀ (pins : List (Addr × Obj)) (s : Shared) (σ : St) (H : Hp) (Q : VK), Inv X pins σ H s → t σ H Q →
    wpAny (model X.prog X.w) X.A (eval a X.env) (fun v s₁ => wpAny (model X.prog X.w) X.A (eval b X.env) (fun u s₂ => wpAny (model X.prog X.w) X.A (compareOp op v u) (EP X pins σ Q) X.xe s₂) X.xe s₁) X.xe s
theorem nobehind (b : Expr) {op : CmpOp} (h : op ≠ .In) (h2 : op ≠ .NotIn) : behindInMarks op b = false := by
  have e1 : (op == CmpOp.In) = false := by cases op <;> first | rfl | exact absurd rfl h
  have e2 : (op == CmpOp.NotIn) = false := by cases op <;> first | rfl | exact absurd rfl h2
  cases b <;> simp [behindInMarks, e1, e2]
def tCmp (p : Int → Int → Bool) (ta tb : TE) : TE := fun σ H Q => t2I ta tb (fun i j H2 => Q (.bl (p i j)) H2) σ H
abbrev tLt : TE → TE → TE := tCmp fun i j => decide (i < j)
abbrev tLe : TE → TE → TE := tCmp fun i j => decide (i ≤ j)
abbrev tGt : TE → TE → TE := tCmp fun i j => decide (j < i)
abbrev tGe : TE → TE → TE := tCmp fun i j => decide (j ≤ i)
abbrev tEqI : TE → TE → TE := tCmp fun i j => decide (i = j)
abbrev tNeI : TE → TE → TE := tCmp fun i j => !decide (i = j)
/-- a comparison of two ints, by its rule -/
theorem pc_int {op : CmpOp} {p : Int → Int → Bool} (ha : PE X a ta) (hb : PE X b tb)
    (rule : ∀ (i j : Int) (t u : Tok) (Q : Value → Shared → Prop) (s : Shared), Q (.bool (p i j)) s → wpAny (model X.prog X.w) X.A (compareOp op (.int i t) (.int j u)) Q X.xe s) : PC X op a b (tCmp p ta tb) := by
  intro pins s σ H Q I h
  refine bin ha hb I h fun v u s2 x y H2 I2 rx ry q => ?_
  obtain ⟨i, j, rfl, rfl, q⟩ := q
  obtain ⟨t, rfl⟩ := rx
  obtain ⟨t', rfl⟩ := ry
  exact rule i j t t' _ s2 ⟨.bl _, H2, I2, rfl, q⟩
theorem pc_lt (ha : PE X a ta) (hb : PE X b tb) : PC X .Lt a b (tLt ta tb) := pc_int ha hb fun _ _ _ _ _ _ h => lt_int h
theorem pc_le (ha : PE X a ta) (hb : PE X b tb) : PC X .LtE a b (tLe ta tb) := pc_int ha hb fun _ _ _ _ _ _ h => le_int h
theorem pc_gt (ha : PE X a ta) (hb : PE X b tb) : PC X .Gt a b (tGt ta tb) := pc_int ha hb fun _ _ _ _ _ _ h => gt_int h
theorem pc_ge (ha : PE X a ta) (hb : PE X b tb) : PC X .GtE a b (tGe ta tb) := pc_int ha hb fun _ _ _ _ _ _ h => ge_int h
theorem pc_eqI (ha : PE X a ta) (hb : PE X b tb) : PC X .Eq a b (tEqI ta tb) := pc_int ha hb fun _ _ _ _ _ _ h => eq_int (by rw [Bool.beq_eq_decide_eq]; exact h)
theorem pc_neI (ha : PE X a ta) (hb : PE X b tb) : PC X .NotEq a b (tNeI ta tb) := pc_int ha hb fun _ _ _ _ _ _ h => ne_int (by rw [bne, Bool.beq_eq_decide_eq]; exact h)
/-- is None -/
def tIsN (ta : TE) : TE := fun σ H Q => ta σ H fun x H1 => Q (.bl (decide (x = .non))) H1
def tNotN (ta : TE) : TE := fun σ H Q => ta σ H fun x H1 => Q (.bl (!decide (x = .non))) H1
theorem RelV.none_iff {x : V} {v : Value} (r : RelV x v) : (v == Value.none) = decide (x = .non) := by
  cases x with
  | non => cases r; rfl
  | bl _ => cases r; rfl
  | int _ => obtain ⟨t, rfl⟩ := r; rfl
  | str _ => obtain ⟨t, rfl⟩ := r; rfl
  | byt _ => obtain ⟨t, rfl⟩ := r; rfl
  | flt _ => obtain ⟨t, rfl⟩ := r; rfl
  | ref _ => cases r; rfl
  | ty _ => cases r; rfl
theorem pc_isN {j pos'} (ha : PE X a ta) : PC X .Is a (.Constant .none j pos') (tIsN ta) := by
  intro pins s σ H Q I h
  refine thn (ha pins s σ H _ I h) fun v s1 ⟨x, H1, I1, r1, q1⟩ => ?_
  exact Constant_none (is_none_gen ⟨.bl _, H1, I1, by rw [r1.none_iff]; rfl, q1⟩)
theorem pc_notN {j pos'} (ha : PE X a ta) : PC X .IsNot a (.Constant .none j pos') (tNotN ta) := by
  intro pins s σ H Q I h
  refine thn (ha pins s σ H _ I h) fun v s1 ⟨x, H1, I1, r1, q1⟩ => ?_
  exact Constant_none (isnot_none_gen ⟨.bl _, H1, I1, by rw [r1.none_iff]; rfl, q1⟩)
/-- a comparison as a value, as a test -/
def tB (t : TE) : TT := fun σ H Q => t σ H fun x H1 => ∃ c, x = .bl c ∧ Q c H1
theorem pe_cmp {op : CmpOp} {t : TE} (h : PC X op a b t) (h1 : behindInMarks op b = false := by first | exact nobehind _ (by decide) (by decide) | rfl) : PE X (.Compare a [op] [b] pos) t := fun pins s σ H Q I hw => wpAny_Compare1 (h pins s σ H Q I hw) h1
theorem pt_cmp {op : CmpOp} {t : TE} (h : PC X op a b t) (h1 : behindInMarks op b = false := by first | exact nobehind _ (by decide) (by decide) | rfl) : PT X (.Compare a [op] [b] pos) (tB t) := by
  intro pins s σ H Q I hw
  refine wpAny_isTrue_Compare1 (thn (h pins s σ H _ I hw) fun v s1 h1 => thn h1 fun u s2 h2 => thn h2 fun c s3 ⟨x, H1, I1, r1, q1⟩ => ?_) h1
  obtain ⟨d, rfl, q⟩ := q1
  cases r1
  exact wpAny_truthy_bool ⟨H1, I1, q⟩
/-- an expression whose value is a bool, as a test -/
theorem pt_val {e : Expr} {t : TE} (h : PE X e t) (he : ∀ whole, isTrue e X.env whole = (do let v ← whole; standAt e.pos; holding [v] (truthy v)) := by intro _; rfl) : PT X e (tB t) := by
  intro pins s σ H Q I hw
  refine isTrue_plain (thn (h pins s σ H _ I hw) fun v s1 ⟨x, H1, I1, r1, q1⟩ => ?_) (he _)
  obtain ⟨d, rfl, q⟩ := q1
  cases r1
  exact wpAny_truthy_bool ⟨H1, I1, q⟩

/-! ### and, or, not -/
variable {tA tB' : TT} {rest : List Expr}
def tAnd (t u : TT) : TT := fun σ H Q => t σ H fun c H1 => if c = true then u σ H1 Q else Q false H1
def tOr (t u : TT) : TT := fun σ H Q => t σ H fun c H1 => if c = true then Q true H1 else u σ H1 Q
def tNot (t : TT) : TT := fun σ H Q => t σ H fun c H1 => Q (!c) H1
theorem pw_and1 (ha : PT X a tA) : PW X (.BoolOp .And [a] pos) tA := by
  intro wh pins s σ H Q I h
  refine isTrue_and (thn (ha pins s σ H Q I h) fun c s1 e => ?_)
  cases c with
  | true => exact isTrue_and_nil e
  | false => exact e
theorem pw_or1 (ha : PT X a tA) : PW X (.BoolOp .Or [a] pos) tA := by
  intro wh pins s σ H Q I h
  refine isTrue_or (thn (ha pins s σ H Q I h) fun c s1 e => ?_)
  cases c with
  | false => exact isTrue_or_nil e
  | true => exact e
theorem pw_and (ha : PT X a tA) (hb : PW X (.BoolOp .And (b :: rest) pos) tB') : PW X (.BoolOp .And (a :: b :: rest) pos) (tAnd tA tB') := by
  intro wh pins s σ H Q I h
  refine isTrue_and (thn (ha pins s σ H _ I h) fun c s1 ⟨H1, I1, q1⟩ => ?_)
  cases c with
  | true => exact hb wh pins s1 σ H1 Q I1 q1
  | false => exact ⟨H1, I1, q1⟩
theorem pw_or (ha : PT X a tA) (hb : PW X (.BoolOp .Or (b :: rest) pos) tB') : PW X (.BoolOp .Or (a :: b :: rest) pos) (tOr tA tB') := by
  intro wh pins s σ H Q I h
  refine isTrue_or (thn (ha pins s σ H _ I h) fun c s1 ⟨H1, I1, q1⟩ => ?_)
  cases c with
  | true => exact ⟨H1, I1, q1⟩
  | false => exact hb wh pins s1 σ H1 Q I1 q1
theorem pt_not (ha : PT X a tA) : PT X (.UnaryOp .Not a pos) (tNot tA) := by
  intro pins s σ H Q I h
  exact isTrue_not (ha pins s σ H (fun c H1 => Q (!c) H1) I h)
/-- .. as values (bools) -/
def tAndV (ta tb : TE) : TE := fun σ H Q => ta σ H fun x H1 => ∃ c, x = .bl c ∧ if c = true then tb σ H1 Q else Q (.bl false) H1
def tOrV (ta tb : TE) : TE := fun σ H Q => ta σ H fun x H1 => ∃ c, x = .bl c ∧ if c = true then Q (.bl true) H1 else tb σ H1 Q
def tNotV (ta : TE) : TE := fun σ H Q => ta σ H fun x H1 => ∃ c, x = .bl c ∧ Q (.bl (!c)) H1
theorem pe_one {op} {t : TE} (h : PE X a t) : PE X (.BoolOp op [a] pos) t := fun pins s σ H Q I hw => BoolOp_one (h pins s σ H Q I hw)
theorem pe_and (ha : PE X a ta) (hb : PE X (.BoolOp .And (b :: rest) pos) tb) : PE X (.BoolOp .And (a :: b :: rest) pos) (tAndV ta tb) := by
  intro pins s σ H Q I h
  refine BoolOp_and (thn (ha pins s σ H _ I h) fun v s1 ⟨x, H1, I1, r1, q1⟩ => ?_)
  obtain ⟨c, rfl, q1⟩ := q1
  cases r1
  refine wpAny_truthy_bool ?_
  cases c with
  | true => exact hb pins s1 σ H1 Q I1 q1
  | false => exact ⟨.bl false, H1, I1, rfl, q1⟩
theorem pe_or (ha : PE X a ta) (hb : PE X (.BoolOp .Or (b :: rest) pos) tb) : PE X (.BoolOp .Or (a :: b :: rest) pos) (tOrV ta tb) := by
  intro pins s σ H Q I h
  refine BoolOp_or (thn (ha pins s σ H _ I h) fun v s1 ⟨x, H1, I1, r1, q1⟩ => ?_)
  obtain ⟨c, rfl, q1⟩ := q1
  cases r1
  refine wpAny_truthy_bool ?_
  cases c with
  | false => exact hb pins s1 σ H1 Q I1 q1
  | true => exact ⟨.bl true, H1, I1, rfl, q1⟩
theorem pe_not (ha : PE X a ta) : PE X (.UnaryOp .Not a pos) (tNotV ta) := by
  intro pins s σ H Q I h
  refine UnaryOp_ (thn (ha pins s σ H _ I h) fun v s1 ⟨x, H1, I1, r1, q1⟩ => ?_)
  obtain ⟨c, rfl, q1⟩ := q1
  cases r1
  exact not_of (wpAny_truthy_bool ⟨.bl (!c), H1, I1, rfl, q1⟩)
/-- a if t else b -/
def tIf (t : TT) (ta tb : TE) : TE := fun σ H Q => t σ H fun c H1 => if c = true then ta σ H1 Q else tb σ H1 Q
theorem pe_ifExp {c : Expr} (hc : PT X c tA) (ha : PE X a ta) (hb : PE X b tb) : PE X (.IfExp c a b pos) (tIf tA ta tb) := by
  intro pins s σ H Q I h
  refine wpAny_IfExp (thn (hc pins s σ H _ I h) fun d s1 ⟨H1, I1, q1⟩ => ?_)
  cases d with
  | true => exact ha pins s1 σ H1 Q I1 q1
  | false => exact hb pins s1 σ H1 Q I1 q1
end
end L2

namespace L2
open PySem PySem.Spec PyProof.Rows

/-! ### a list, a tuple that is read: tracked, frozen, or an object of the module -/
def SqL (K : PySem.W.Frag) (H : Hp) (a : Addr) (xs : List V) : Prop :=
  Rd H a (.lst xs) ∨
    ∃ (o : Obj) (its : Array Value) (n : Nat), K.lookup a = some o ∧ o.cls = .type "list" ∧ o.dict = none ∧ o.data = .seq its n ∧ its.size ≤ sizeLine ∧ Vals xs its.toList
def SqT (K : PySem.W.Frag) (H : Hp) (a : Addr) (xs : List V) : Prop :=
  Rd H a (.tup xs) ∨
    ∃ (o : Obj) (its : Array Value) (n : Nat), K.lookup a = some o ∧ o.cls = .type "tuple" ∧ o.data = .seq its n ∧ its.size ≤ sizeLine ∧ Vals xs its.toList
def absV : Value → Option V
  | .none => some .non
  | .bool b => some (.bl b)
  | .int i _ => some (.int i)
  | .str x _ => some (.str x)
  | .bytes b _ => some (.byt b)
  | .float b _ => some (.flt b)
  | .ref a => some (.ref a)
  | .type n => some (.ty n)
  | _ => none
theorem RelV.abs {x : V} {u : Value} (r : RelV x u) : absV u = some x := by
  cases x with
  | non => cases r; rfl
  | bl _ => cases r; rfl
  | int _ => obtain ⟨t, rfl⟩ := r; rfl
  | str _ => obtain ⟨t, rfl⟩ := r; rfl
  | byt _ => obtain ⟨t, rfl⟩ := r; rfl
  | flt _ => obtain ⟨t, rfl⟩ := r; rfl
  | ref _ => cases r; rfl
  | ty _ => cases r; rfl
theorem RelV.inj {x y : V} {u : Value} (r : RelV x u) (q : RelV y u) : x = y := Option.some.inj (r.abs.symm.trans q.abs)
theorem Vals.inj : ∀ {xs ys : List V} {us : List Value}, Vals xs us → Vals ys us → xs = ys
  | _, _, _, .nil, .nil => rfl
  | _, _, _, .cons r t, .cons r' t' => by rw [r.inj r', Vals.inj t t']
section
variable {X : Cx} {pins : List (Addr × Obj)} {σ : St} {H : Hp} {s : Shared} {a : Addr} {xs ys : List V}
theorem SqL.of {K : PySem.W.Frag} (h : H a = some (.lst xs)) : SqL K H a xs := .inl (.inl h)
theorem SqT.of {K : PySem.W.Frag} (h : H a = some (.tup xs)) : SqT K H a xs := .inl (.inl h)
theorem Inv.list (I : Inv X pins σ H s) (h : SqL X.K H a xs) : ∃ its : List Value, Vals xs its ∧ PlainL s.heap a its.toArray ∧ xs.length ≤ sizeLine := by
  rcases h with h | ⟨o, its, n, hk, hc, hd, hs, hz, r⟩
  · obtain ⟨z, its, n, r, e⟩ := h.ok I.hok
    exact ⟨its, r, ⟨_, n, e, rfl, rfl, rfl⟩, z⟩
  · refine ⟨its.toList, r, ⟨o, n, I.kIn a o hk, hc, hd, by simpa using hs⟩, ?_⟩
    have e := r.length
    simp only [Array.length_toList] at e
    omega
theorem Inv.tuple (I : Inv X pins σ H s) (h : SqT X.K H a xs) : ∃ its : List Value, Vals xs its ∧ IsTup s.heap a its.toArray ∧ xs.length ≤ sizeLine := by
  rcases h with h | ⟨o, its, n, hk, hc, hs, hz, r⟩
  · obtain ⟨z, its, r, p⟩ := h.ok I.hok
    exact ⟨its, r, p, z⟩
  · refine ⟨its.toList, r, ⟨o, I.kIn a o hk, hc, n, by simpa using hs⟩, ?_⟩
    have e := r.length
    simp only [Array.length_toList] at e
    omega
theorem Inv.list_inj (I : Inv X pins σ H s) (h : SqL X.K H a xs) (h' : SqL X.K H a ys) : xs = ys := by
  obtain ⟨its, r, ⟨o, n, e, _, _, d⟩, _⟩ := I.list h
  obtain ⟨its', r', ⟨o', n', e', _, _, d'⟩, _⟩ := I.list h'
  rw [e] at e'; cases e'
  rw [d] at d'
  injection d' with d1 _
  have : its = its' := by simpa using congrArg Array.toList d1
  subst this
  exact r.inj r'
theorem Inv.tuple_inj (I : Inv X pins σ H s) (h : SqT X.K H a xs) (h' : SqT X.K H a ys) : xs = ys := by
  obtain ⟨its, r, ⟨o, e, _, n, d⟩, _⟩ := I.tuple h
  obtain ⟨its', r', ⟨o', e', _, n', d'⟩, _⟩ := I.tuple h'
  rw [e] at e'; cases e'
  rw [d] at d'
  injection d' with d1 _
  have : its = its' := by simpa using congrArg Array.toList d1
  subst this
  exact r.inj r'
end

/-! ### another wish about exceptions -/
abbrev Cx.wish (X : Cx) (E : Value → Shared → Prop) : Cx := { X with xe := E }
/-- no exception leaves -/
abbrev Cx.nox (X : Cx) : Cx := X.wish fun _ _ => False
theorem Cx.Ok.wish {X : Cx} (ok : X.Ok) (E : Value → Shared → Prop) : (X.wish E).Ok :=
  ⟨ok.mod, ok.kind, ok.glob, ok.blt, ok.above, ok.inj, ok.has, ok.cab, ok.hd, ok.frames, ok.stk, ok.exf, ok.bs, ok.bsz, ok.noex, ok.exfs, ok.funs, ok.frf⟩
theorem Cx.Ok.unwish {X : Cx} {E : Value → Shared → Prop} (ok : (X.wish E).Ok) : X.Ok :=
  ⟨ok.mod, ok.kind, ok.glob, ok.blt, ok.above, ok.inj, ok.has, ok.cab, ok.hd, ok.frames, ok.stk, ok.exf, ok.bs, ok.bsz, ok.noex, ok.exfs, ok.funs, ok.frf⟩
section
variable {X : Cx} {pins : List (Addr × Obj)} {σ : St} {H : Hp} {s : Shared} {E : Value → Shared → Prop}
theorem Inv.wish (I : Inv X pins σ H s) (E : Value → Shared → Prop) : Inv (X.wish E) pins σ H s := ⟨I.ok.wish E, I.os, I.bare, I.base, I.loc, I.cell, I.free, I.freeC, I.pin, I.hok, I.len⟩
theorem Inv.unwish (I : Inv (X.wish E) pins σ H s) : Inv X pins σ H s := ⟨I.ok.unwish, I.os, I.bare, I.base, I.loc, I.cell, I.free, I.freeC, I.pin, I.hok, I.len⟩
theorem SP.unwish {D : Ends} {f : Flow} {s' : Shared} (h : SP (X.wish E) pins D f s') : SP X pins D f s' := by
  cases f with
  | next => obtain ⟨σ', H', I, q⟩ := h; exact ⟨σ', H', I.unwish, q⟩
  | brk => obtain ⟨σ', H', I, q⟩ := h; exact ⟨σ', H', I.unwish, q⟩
  | cont => obtain ⟨σ', H', I, q⟩ := h; exact ⟨σ', H', I.unwish, q⟩
  | ret u => obtain ⟨v, σ', H', I, r, q⟩ := h; exact ⟨v, σ', H', I.unwish, r, q⟩
theorem PE.nox {e : Expr} {t : TE} (h : PE X.nox e t) : PE X e t := fun pins s σ H Q I hw =>
  wpAny_mono (h pins s σ H Q (I.wish _) hw) (fun _ _ ⟨v, H', I', r, q⟩ => ⟨v, H', I'.unwish, r, q⟩) fun _ _ z => False.elim z
theorem PT.nox {e : Expr} {t : TT} (h : PT X.nox e t) : PT X e t := fun pins s σ H Q I hw =>
  wpAny_mono (h pins s σ H Q (I.wish _) hw) (fun _ _ ⟨H', I', q⟩ => ⟨H', I'.unwish, q⟩) fun _ _ z => False.elim z
theorem PSs.nox {st : List Stmt} {t : TS} (h : PSs X.nox st t) : PSs X st t := fun pins s σ H D I hw =>
  wpAny_mono (h pins s σ H D (I.wish _) hw) (fun _ _ q => q.unwish) fun _ _ z => False.elim z
end

/-! ### blocks and small statements -/
section
variable {X : Cx} {st : Stmt} {rest : List Stmt} {t u : TS} {e : Expr} {te : TE} {pos : Pos}
def tNext : TS := fun D σ H => D.nx σ H
def tSeq (t u : TS) : TS := fun D σ H => t { D with nx := u D } σ H
theorem pss_nil : PSs X [] tNext := fun _ _ σ H _ I h => wpAny_execs_nil ⟨σ, H, I, h⟩
theorem pss_cons (h1 : PS X st t) (h2 : PSs X rest u) : PSs X (st :: rest) (tSeq t u) := by
  intro pins s σ H D I h
  refine wpAny_execs_cons (thn (h1 pins s σ H { D with nx := u D } I h) fun f s1 q => ?_)
  cases f with
  | next =>
    obtain ⟨σ', H', I', q⟩ := q
    exact h2 pins s1 σ' H' D I' q
  | ret v => exact q
  | brk => exact q
  | cont => exact q
theorem pss_one (h1 : PS X st t) : PSs X [st] t := by
  intro pins s σ H D I h
  refine wpAny_execs_cons (thn (h1 pins s σ H D I h) fun f s1 q => ?_)
  cases f with
  | next => exact wpAny_execs_nil q
  | ret v => exact q
  | brk => exact q
  | cont => exact q
def tBreak : TS := fun D σ H => D.bk σ H
def tCont : TS := fun D σ H => D.ct σ H
theorem ps_pass : PS X (.Pass pos) tNext := fun _ _ σ H _ I h => wpAny_Pass ⟨σ, H, I, h⟩
theorem ps_break : PS X (.Break pos) tBreak := fun _ _ σ H _ I h => wpAny_Break ⟨σ, H, I, h⟩
theorem ps_continue : PS X (.Continue pos) tCont := fun _ _ σ H _ I h => wpAny_Continue ⟨σ, H, I, h⟩
/-- in a def's body nothing is shown -/
theorem Inv.quiet {pins : List (Addr × Obj)} {σ : St} {H : Hp} {s : Shared} (I : Inv X pins σ H s) : interactive X.env = false := by simp [interactive, I.ok.kind]
/-- a docstring -/
theorem ps_doc {x j pos pos'} : PS X (.Expr (.Constant (.str x) j pos) pos') tNext := fun _ s σ H _ I h => wpAny_Expr (Calls.Constant_str (show SP X _ _ .next { s with toks := s.toks + 1 } from ⟨σ, H, I.tok _, h⟩)) I.quiet
/-- an expression whose value is dropped -/
def tDrop (te : TE) : TS := fun D σ H => te σ H fun _ H1 => D.nx σ H1
theorem ps_expr (he : PE X e te) (hs : swapsWith e none pos.line X.env = pure false := by rfl) : PS X (.Expr e pos) (tDrop te) := by
  intro pins s σ H D I h
  exact wpAny_Expr_any (thn (he pins s σ H _ I h) fun v s1 ⟨x, H1, I1, r1, q1⟩ => ⟨σ, H1, I1, q1⟩) I.quiet hs
def tRet (te : TE) : TS := fun D σ H => te σ H D.rt
theorem ps_ret (he : PE X e te) : PS X (.Return (some e) pos) (tRet te) := by
  intro pins s σ H D I h
  exact wpAny_Return_some (thn (he pins s σ H _ I h) fun v s1 ⟨x, H1, I1, r1, q1⟩ => ⟨x, σ, H1, I1, r1, q1⟩)
def tRetN : TS := fun D _ H => D.rt .non H
theorem ps_retN : PS X (.Return none pos) tRetN := fun _ _ σ H _ I h => wpAny_Return_none ⟨.non, σ, H, I, rfl, h⟩
def tIfS (c : TT) (t u : TS) : TS := fun D σ H => c σ H fun b H1 => if b = true then t D σ H1 else u D σ H1
theorem ps_if {c : Expr} {a b : List Stmt} {tc : TT} (hc : PT X c tc) (ha : PSs X a t) (hb : PSs X b u) : PS X (.If c a b pos) (tIfS tc t u) := by
  intro pins s σ H D I h
  refine wpAny_If (thn (hc pins s σ H _ I h) fun d s1 ⟨H1, I1, q1⟩ => ?_)
  cases d with
  | true => exact ha pins s1 σ H1 D I1 q1
  | false => exact hb pins s1 σ H1 D I1 q1
/-- code that the proof never comes to -/
def tNever : TS := fun _ _ _ => False
theorem ps_never : PS X st tNever := fun _ _ _ _ _ _ h => h.elim
theorem pss_never {sts : List Stmt} : PSs X sts tNever := fun _ _ _ _ _ _ h => h.elim
end

/-! ### targets -/
abbrev TG := V → St → Hp → (St → Hp → Prop) → Prop
abbrev TGs := List V → St → Hp → (St → Hp → Prop) → Prop
def PG (X : Cx) (target : Expr) (t : TG) : Prop :=
  ∀ (pins : List (Addr × Obj)) (s : Shared) (σ : St) (H : Hp) (v : V) (u : Value) (Q : St → Hp → Prop), Inv X pins σ H s → RelV v u → t v σ H Q →
    wpAny (model X.prog X.w) X.A (assign target X.env u) (fun _ s' => ∃ σ' H', Inv X pins σ' H' s' ∧ Q σ' H') X.xe s
/-- several targets, one after another -/
def PGs (X : Cx) (ts : List Expr) (t : TGs) : Prop :=
  ∀ (pins : List (Addr × Obj)) (s : Shared) (σ : St) (H : Hp) (vs : List V) (us : List Value) (Q : St → Hp → Prop), Inv X pins σ H s → Vals vs us → t vs σ H Q →
    wpAny (model X.prog X.w) X.A (assignInOrder ((assignEach ts X.env).map (·.2)) us) (fun _ s' => ∃ σ' H', Inv X pins σ' H' s' ∧ Q σ' H') X.xe s
/-- o[i] = v, by values -/
abbrev TSet := V → V → V → Hp → (Hp → Prop) → Prop
def PSet (X : Cx) (t : TSet) : Prop :=
  ∀ (pins : List (Addr × Obj)) (s : Shared) (σ : St) (H : Hp) (o i v : V) (ov iv u : Value) (Q : Hp → Prop), Inv X pins σ H s → RelV o ov → RelV i iv → RelV v u → t o i v H Q →
    wpAny (model X.prog X.w) X.A (setItem ov iv u) (fun _ s' => ∃ H', Inv X pins σ H' s' ∧ Q H') X.xe s
/-- a op= b, by values -/
abbrev TIp := V → V → Hp → VK → Prop
def PIp (X : Cx) (op : Operator) (t : TIp) : Prop :=
  ∀ (pins : List (Addr × Obj)) (s : Shared) (σ : St) (H : Hp) (x y : V) (v u : Value) (Q : VK), Inv X pins σ H s → RelV x v → RelV y u → t x y H Q →
    wpAny (model X.prog X.w) X.A (inplaceOp op v u) (EP X pins σ Q) X.xe s
section
variable {X : Cx} {pos : Pos}
def gName (i : Nat) : TG := fun v σ H Q => Q (σ.set i (some v)) H
theorem pg_name {i : Nat} {x : Str} (hN : X.N.Nodup) (hi : X.N[i]? = some x) (hx : Loc X.env.scope x) (hf : X.fn x = true ∨ X.env.scope.names.lookup x = some .local := by first | exact .inl rfl | exact .inr rfl | assumption) : PG X (.Name x pos) (gName i) := by
  intro pins s σ H v u Q I r h
  exact wpAny_assign_Name (store_ok I hN hi hx r (fun s' I' => ⟨_, H, I', h⟩) hf)
def gNil : TGs := fun vs σ H Q => vs = [] ∧ Q σ H
def gCons (t : TG) (u : TGs) : TGs := fun vs σ H Q => ∃ v r, vs = v :: r ∧ t v σ H fun σ' H' => u r σ' H' Q
theorem pgs_nil : PGs X [] gNil := by
  intro pins s σ H vs us Q I r h
  obtain ⟨e, h⟩ := h
  subst e
  cases r
  exact assignInOrder_nil ⟨σ, H, I, h⟩
theorem pgs_cons {e : Expr} {es : List Expr} {t : TG} {u : TGs} (h1 : PG X e t) (h2 : PGs X es u)
    (hs : (assignEach (e :: es) X.env).map (·.2) = assign e X.env :: (assignEach es X.env).map (·.2) := by rfl) : PGs X (e :: es) (gCons t u) := by
  intro pins s σ H vs us Q I r h
  obtain ⟨v, vr, e1, h⟩ := h
  subst e1
  cases r with
  | cons r rr =>
    rw [hs]
    refine assignInOrder_cons (thn (h1 pins s σ H _ _ _ I r h) fun _ s1 ⟨σ1, H1, I1, q1⟩ => ?_)
    exact h2 pins s1 σ1 H1 _ _ Q I1 rr q1
/-- (a, b, ..) = a tuple of that length -/
def gTup (K : PySem.W.Frag) (n : Nat) (t : TGs) : TG := fun v σ H Q => ∃ a xs, v = .ref a ∧ SqT K H a xs ∧ xs.length = n ∧ t xs σ H Q
theorem pg_tup {es : List Expr} {k : Nat} {t : TGs} {n : Nat} (hc : X.calm = true) (h : PGs X es t)
    (hn : (assignEach es X.env).length = n := by rfl) (hst : (assignEach es X.env).findIdx? (·.1) = none := by rfl) : PG X (.Tuple es k pos) (gTup X.K n t) := by
  intro pins s σ H v u Q I r hw
  obtain ⟨a, xs, e1, hq, hl, hw⟩ := hw
  subst e1
  cases r
  obtain ⟨its, rv, ht, hz⟩ := I.tuple hq
  refine assign_Tuple_tuple (I.ok.hd hc) ht (by simp [hn, ← hl, rv.length]) hst fun h' hx => ?_
  have I1 : Inv X pins σ H { s with heap := h' } := I.kept (t' := s.toks) fun b o e => hx b o (Nat.ne_of_lt (Heap.lt_size e)) e
  exact h pins _ σ H xs _ Q I1 (by simpa using rv) hw
/-- o[i] = .. -/
def gSub (to ti : TE) (t : TSet) : TG := fun v σ H Q => to σ H fun o H1 => ti σ H1 fun i H2 => t o i v H2 fun H3 => Q σ H3
theorem pg_sub {o i : Expr} {to ti : TE} {t : TSet} (ho : PE X o to) (hi : PE X i ti) (hs : PSet X t)
    (ha : ∀ v, assign (.Subscript o i pos) X.env v = (do
      let ov ← holding [v] (eval o X.env)
      let iv ← holding [v, ov] (eval i X.env)
      standAt pos
      holding [v, ov, iv] (setItem ov iv v)
      release [v, ov, iv] []) := by intro _; rfl) : PG X (.Subscript o i pos) (gSub to ti t) := by
  intro pins s σ H v u Q I r h
  rw [ha]
  refine wpAny_bind (wpAny_holding (thn (ho pins s σ H _ I h) fun ov s1 ⟨x, H1, I1, r1, q1⟩ => ?_))
  refine wpAny_bind (wpAny_holding (thn (hi pins s1 σ H1 _ I1 q1) fun iv s2 ⟨y, H2, I2, r2, q2⟩ => ?_))
  refine wpAny_bind (wpAny_standAt (wpAny_bind (wpAny_holding (thn (hs pins s2 σ H2 x y v ov iv u _ I2 r1 r2 r q2) fun _ s3 ⟨H3, I3, q3⟩ => ?_))))
  exact wpAny_release ⟨σ, H3, I3, q3⟩
/-- target = value -/
def tAsg (te : TE) (g : TG) : TS := fun D σ H => te σ H fun x H1 => g x σ H1 D.nx
theorem ps_asg {tg e : Expr} {te : TE} {g : TG} (he : PE X e te) (hg : PG X tg g) (hs : swapsWithSole [tg] e pos.line X.env = pure false := by rfl) (hw : swappedStores [tg] e X.env = pure none := by rfl)
    (h1 : (assignEach [tg] X.env).map (·.2) = [assign tg X.env] := by rfl) : PS X (.Assign [tg] e pos) (tAsg te g) := by
  intro pins s σ H D I h
  refine wpAny_Assign_stores (thn (he pins s σ H _ I h) fun v s1 ⟨x, H1, I1, r1, q1⟩ => ?_) hs hw
  rw [h1]
  exact thn (hg pins s1 σ H1 x v _ I1 r1 q1) fun _ s2 q => q
/-- name = value -/
theorem ps_set {i : Nat} {x : Str} {e : Expr} {te : TE} {pos' : Pos} (hN : X.N.Nodup) (hi : X.N[i]? = some x) (hx : Loc X.env.scope x) (he : PE X e te) (hs : swapsWith e (some (.Name x pos')) pos.line X.env = pure false := by rfl) (hf : X.fn x = true ∨ X.env.scope.names.lookup x = some .local := by first | exact .inl rfl | exact .inr rfl | assumption) :
    PS X (.Assign [.Name x pos'] e pos) (tAsg te (gName i)) := by
  intro pins s σ H D I h
  refine wpAny_Assign_Name (thn (he pins s σ H _ I h) fun v s1 ⟨y, H1, I1, r1, q1⟩ => ?_) hs
  exact store_ok I1 hN hi hx r1 (fun s2 I2 => ⟨_, H1, I2, q1⟩) hf
/-- a, b = x, y with plain local names: stored from the right; the pair itself is not tracked (the opening rows as in PyProof/Rows/TupAssign.lean:23) -/
def tPar (i j : Nat) (ta : TA) : TS := fun D σ H => ta σ H fun vs H1 => ∃ v w, vs = [v, w] ∧ D.nx ((σ.set i (some v)).set j (some w)) H1
theorem ps_par {i j : Nat} {x y : Str} {a b : Expr} {ta : TA} {px py pt : Pos} {kt k2 pt2} (hc : X.calm = true) (hN : X.N.Nodup) (hi : X.N[i]? = some x) (hj : X.N[j]? = some y) (hij : i ≠ j)
    (hx : X.env.scope.names.lookup x = some .local) (hy : X.env.scope.names.lookup y = some .local) (ha : PA X [a, b] ta)
    (hw : swappedStores [.Tuple [.Name x px, .Name y py] kt pt] (.Tuple [a, b] k2 pt2) X.env = pure (some [x, y]))
    (hs : swapsWithSole [.Tuple [.Name x px, .Name y py] kt pt] (.Tuple [a, b] k2 pt2) pos.line X.env = pure false := by rfl) :
    PS X (.Assign [.Tuple [.Name x px, .Name y py] kt pt] (.Tuple [a, b] k2 pt2) pos) (tPar i j ta) := by
  intro pins s σ H D I h
  rw [exec_Assign_arm]
  refine wpAny_bind (wpAny_standAt ?_)
  rw [hs]
  refine wpAny_bind (wpAny_pure ?_)
  rw [if_neg (by decide)]
  refine wpAny_bind (Tuple_ (thn (ha _ pins s σ H _ I h) fun us s1 ⟨vs, H1, I1, r1, q1⟩ => ?_))
  obtain ⟨v, w, e1, q1⟩ := q1
  subst e1
  obtain ⟨u1, u2, rfl, rv, rw'⟩ : ∃ u1 u2, us = [u1, u2] ∧ RelV v u1 ∧ RelV w u2 := by
    cases r1 with
    | cons p q =>
      cases q with
      | cons p' q' =>
        cases q'
        exact ⟨_, _, rfl, p, p'⟩
  refine wpAny_newObj_type ?_ (by show 2 ≤ sizeLine; decide)
  have I2 : Inv X pins σ H1 { s1 with heap := s1.heap.push { cls := .type "tuple", data := .seq [u1, u2].toArray } } := I1.kept (t' := s1.toks) fun b o e => Heap.get?_push_of_some _ e
  rw [hw]
  refine wpAny_bind (wpAny_pure ?_)
  show wpAny (model X.prog X.w) X.A (do rule "assign.swapped-stores"; let items ← unpackItems (.ref s1.heap.objs.size) 2 none; assignInOrder [fun v => bindName X.env y v, fun v => bindName X.env x v] items.reverse; pure Flow.next) _ _ _
  refine wpAny_bind (wpAny_rule (wpAny_bind (unpackItems_tuple (items := #[u1, u2]) (I.ok.hd hc) (IsTup.new s1.heap _) fun h' hx' => ?_)))
  have I3 := I2.kept (h' := h') (t' := s1.toks) fun b o e => hx' b o (Nat.ne_of_lt (Heap.lt_size e)) e
  show wpAny _ _ (assignInOrder [fun v => bindName X.env y v, fun v => bindName X.env x v] [u2, u1] >>= fun _ => pure Flow.next) _ _ _
  refine wpAny_bind (assignInOrder_cons (wpAny_bindName (store_ok I3 hN hj (.inl hy) rw' (fun s2 I4 => ?_) (.inr hy))))
  refine assignInOrder_cons (wpAny_bindName (store_ok I4 hN hi (.inl hx) rv (fun s3 I5 => assignInOrder_nil (wpAny_pure ?_)) (.inr hx)))
  rw [List.set_comm _ _ (Ne.symm hij)] at I5
  exact ⟨_, H1, I5, q1⟩
/-- name op= e -/
def tAug (i : Nat) (te : TE) (ti : TIp) : TS := fun D σ H => ∃ x, σ[i]? = some (some x) ∧ te σ H fun y H1 => ti x y H1 fun z H2 => D.nx (σ.set i (some z)) H2
theorem ps_aug {i : Nat} {x : Str} {e : Expr} {te : TE} {op : Operator} {ti : TIp} {pos' : Pos} (hN : X.N.Nodup) (hi : X.N[i]? = some x) (hx : Loc X.env.scope x) (he : PE X e te) (ho : PIp X op ti) (hf : X.fn x = true ∨ X.env.scope.names.lookup x = some .local := by first | exact .inl rfl | exact .inr rfl | assumption) :
    PS X (.AugAssign (.Name x pos') op e pos) (tAug i te ti) := by
  intro pins s σ H D I h
  obtain ⟨v, e1, h⟩ := h
  obtain ⟨m, hn, hl⟩ := I.loc
  have vis : Vis X.env.scope x := by rcases hx with k | k; exact .inl k; exact .inr (.inl k)
  obtain ⟨u, r, l⟩ := hl i x v hi e1 vis
  refine wpAny_AugAssign_Name ?_
  have go : wpAny (model X.prog X.w) X.A (eval e X.env) (fun w s₂ => wpAny (model X.prog X.w) X.A (inplaceOp op u w) (fun r s₃ => wpAny (model X.prog X.w) X.A (storeName X.env x r) (fun _ => SP X pins D .next) X.xe s₃) X.xe s₂) X.xe s := by
    refine thn (he pins s σ H _ I h) fun w s1 ⟨y, H1, I1, r1, q1⟩ => ?_
    refine thn (ho pins s1 σ H1 v y u w _ I1 r r1 q1) fun z s2 ⟨zv, H2, I2, r2, q2⟩ => ?_
    exact store_ok I2 hN hi hx r2 (fun s3 I3 => ⟨_, H2, I3, q2⟩) hf
  rcases l with ⟨hk, hm⟩ | ⟨hk, c, hc, hcell⟩
  · exact wpAny_loadName_local I.ok.kind hk hn hm go
  · rcases hk with hk | hk
    · exact wpAny_loadName_cell I.ok.kind hk hc hcell go
    · rcases hx with k | k
      · have : X.env.scope.names.lookup x = some .free := hk
        rw [k] at this; cases this
      · have : X.env.scope.names.lookup x = some .free := hk
        rw [k] at this; cases this
/-- o[i] op= e -/
def tAugS (to ti te : TE) (tget : V → V → Hp → VK → Prop) (tip : TIp) (tset : TSet) : TS := fun D σ H => to σ H fun o H1 => ti σ H1 fun i H2 => tget o i H2 fun x H3 => te σ H3 fun y H4 => tip x y H4 fun z H5 => tset o i z H5 fun H6 => D.nx σ H6
/-- o[i], by values -/
def PGet (X : Cx) (t : V → V → Hp → VK → Prop) : Prop :=
  ∀ (pins : List (Addr × Obj)) (s : Shared) (σ : St) (H : Hp) (o i : V) (ov iv : Value) (Q : VK), Inv X pins σ H s → RelV o ov → RelV i iv → t o i H Q →
    wpAny (model X.prog X.w) X.A (getItem ov iv) (EP X pins σ Q) X.xe s
theorem ps_augS {o i e : Expr} {to ti te : TE} {tget : V → V → Hp → VK → Prop} {tip : TIp} {tset : TSet} {op : Operator} {tpos : Pos} (ho : PE X o to) (hi : PE X i ti) (hg : PGet X tget) (he : PE X e te) (hp : PIp X op tip) (hs : PSet X tset)
    (ha : ∀ ov iv new, augStore i ov iv new = (do holding [new, ov, iv] (setItem ov iv new); release [new, ov, iv] []; pure .next) := by intros; rfl) : PS X (.AugAssign (.Subscript o i tpos) op e pos) (tAugS to ti te tget tip tset) := by
  intro pins s σ H D I h
  refine wpAny_AugAssign_SubscriptAny (thn (ho pins s σ H _ I h) fun ov s1 ⟨x1, H1, I1, r1, q1⟩ => ?_) ha
  refine thn (hi pins s1 σ H1 _ I1 q1) fun iv s2 ⟨x2, H2, I2, r2, q2⟩ => ?_
  refine thn (hg pins s2 σ H2 x1 x2 ov iv _ I2 r1 r2 q2) fun old s3 ⟨x3, H3, I3, r3, q3⟩ => ?_
  refine thn (he pins s3 σ H3 _ I3 q3) fun v s4 ⟨x4, H4, I4, r4, q4⟩ => ?_
  refine thn (hp pins s4 σ H4 x3 x4 old v _ I4 r3 r4 q4) fun new s5 ⟨x5, H5, I5, r5, q5⟩ => ?_
  exact thn (hs pins s5 σ H5 x1 x2 x5 ov iv new _ I5 r1 r2 r5 q5) fun _ s6 ⟨H6, I6, q6⟩ => ⟨σ, H6, I6, q6⟩
/-- ints -/
def ipI (f : Int → Int → Int) : TIp := fun x y H Q => ∃ i j, x = .int i ∧ y = .int j ∧ Q (.int (f i j)) H
theorem ip_add : PIp X .Add (ipI fun i j => i + j) := by
  intro pins s σ H x y v u Q I r1 r2 h
  obtain ⟨i, j, e1, e2, q⟩ := h
  subst e1; subst e2
  obtain ⟨t, rfl⟩ := r1
  obtain ⟨t', rfl⟩ := r2
  exact iadd_int ⟨.int _, H, I.tok _, ⟨_, rfl⟩, q⟩
theorem ip_sub : PIp X .Sub (ipI fun i j => i - j) := by
  intro pins s σ H x y v u Q I r1 r2 h
  obtain ⟨i, j, e1, e2, q⟩ := h
  subst e1; subst e2
  obtain ⟨t, rfl⟩ := r1
  obtain ⟨t', rfl⟩ := r2
  exact isub_int ⟨.int _, H, I.tok _, ⟨_, rfl⟩, q⟩
end

/-! ### while -/
section
variable {X : Cx} {pos : Pos}
/-- the invariant W with its measure -/
def tWhile (c : TT) (tb : TS) : TS := fun D σ H => ∃ W : Nat → St → Hp → Prop, (∃ m, W m σ H) ∧ ∀ m σ H, W m σ H →
  c σ H fun b H1 => if b = true then ∃ N : St → Hp → Prop, (∀ σ' H', N σ' H' → ∃ m', m' < m ∧ W m' σ' H') ∧ tb { D with nx := N, ct := N, bk := D.nx } σ H1 else D.nx σ H1
theorem ps_while {c : Expr} {body : List Stmt} {tc : TT} {tb : TS} (hp : PassesOwn (model X.prog X.w) X.A X.env X.xe) (hc : PT X c tc) (hb : PSs X body tb) : PS X (.While c body [] pos) (tWhile tc tb) := by
  intro pins s σ H D I h
  obtain ⟨W, ⟨m0, w0⟩, turn⟩ := h
  refine wpAny_While (codeAny_whileLoop (fun n s' => ∃ σ' H', Inv X pins σ' H' s' ∧ W n σ' H') ?_ m0 ⟨σ, H, I, w0⟩)
  rintro n s1 ⟨σ1, H1, I1, w1⟩
  refine wpAny_passesOwn hp (thn (hc pins s1 σ1 H1 _ I1 (turn n σ1 H1 w1)) fun b s2 ⟨H2, I2, q2⟩ => ?_)
  cases b with
  | true =>
    obtain ⟨N, hN, q2⟩ := q2
    rw [if_pos rfl]
    refine wpAny_passesOwn hp (thn (hb pins s2 σ1 H2 _ I2 q2) fun f s3 q3 => ?_)
    cases f with
    | next =>
      obtain ⟨σ3, H3, I3, n3⟩ := q3
      obtain ⟨m', hm, w3⟩ := hN σ3 H3 n3
      exact ⟨m', hm, σ3, H3, I3, w3⟩
    | cont =>
      obtain ⟨σ3, H3, I3, n3⟩ := q3
      obtain ⟨m', hm, w3⟩ := hN σ3 H3 n3
      exact ⟨m', hm, σ3, H3, I3, w3⟩
    | brk => exact q3
    | ret v => exact q3
  | false =>
    rw [if_neg Bool.false_ne_true]
    exact wpAny_execs_nil ⟨σ1, H2, I2, q2⟩
end

/-! ### what a loop or a comprehension walks -/
/-- at turn i: it yields x (the heap may grow), or it stops -/
structure It where
  go : Nat → Hp → Prop
  yld : Nat → Hp → V → Hp → Prop
  stop : Nat → Hp → Prop
/-- the iterator's own objects may turn: they are not the frame's, not pinned, younger than the entry (or a comprehension's own) -/
def FpOk (X : Cx) (pins : List (Addr × Obj)) (H : Hp) (b : Addr) : Prop :=
  H b = none ∧ b ≠ X.env.locals ∧ b ∉ X.fs ∧ (b ∈ X.ex ∨ X.s₀.heap.objs.size ≤ b) ∧ (∀ x c, X.env.cells.lookup x = some c → c ≠ b) ∧ ∀ p ∈ X.pn ++ pins, p.1 ≠ b
theorem Inv.fpOk {X : Cx} {pins : List (Addr × Obj)} {σ : St} {H H' : Hp} {s : Shared} {b : Addr} (I : Inv X pins σ H s) (hb : s.heap.objs.size ≤ b) (hn : H' b = none) : FpOk X pins H' b := by
  refine ⟨hn, Nat.ne_of_gt (Nat.lt_of_lt_of_le I.lt hb), I.nofs hb, .inr (Nat.le_trans I.sz hb), fun x c e z => ?_, fun p hp z => ?_⟩
  · obtain ⟨v, q⟩ := I.cell x c e
    exact absurd (Nat.lt_of_lt_of_le q.lt (by rw [z]; exact hb)) (Nat.lt_irrefl _)
  · exact absurd (Nat.lt_of_lt_of_le (Heap.lt_size (I.pin p hp).1) (by rw [z]; exact hb)) (Nat.lt_irrefl _)
structure Turn (P : Program) (w : World) (K : PySem.W.Frag) (tg : Expr) (J : It) (fp : List Addr) (it : Addr) (tn : Nat → Heap → Prop) : Prop where
  mem : it ∈ fp
  obj : ∀ i h, tn i h → ∀ b ∈ fp, ∃ o, h.get? b = some o ∧ ∀ v, o.data ≠ .cell v
  keep : ∀ i h h', tn i h → (∀ b ∈ fp, ∀ o, h.get? b = some o → h'.get? b = some o) → tn i h'
  item : ∀ (X : Cx), X.prog = P → X.w = w → X.K = K → X.calm = true → ∀ (i : Nat) (pins : List (Addr × Obj)) (s : Shared) (σ : St) (H : Hp) (E : Value → Shared → Prop), Inv X pins σ H s → (∀ b ∈ fp, FpOk X pins H b) → tn i s.heap → J.go i H →
    wpAny (model P w) X.A (pyNext (.ref it)) (fun r s1 => ∃ u, r = some u ∧
      wpAny (model P w) X.A (letOwnedTupleGo tg (.ref it) u) (fun _ s2 => ∃ x H', Inv X pins σ H' s2 ∧ RelV x u ∧ J.yld i H x H' ∧ tn (i + 1) s2.heap ∧ ∀ b ∈ fp, H' b = none) E s1) E s
  done : ∀ (X : Cx), X.prog = P → X.w = w → X.K = K → X.calm = true → ∀ (i : Nat) (pins : List (Addr × Obj)) (s : Shared) (σ : St) (H : Hp) (E : Value → Shared → Prop), Inv X pins σ H s → (∀ b ∈ fp, FpOk X pins H b) → tn i s.heap → J.stop i H →
    wpAny (model P w) X.A (pyNext (.ref it)) (fun r s1 => r = none ∧ Inv X pins σ H s1) E s
  self : ∀ (A : Around) (i : Nat) (s : Shared) (Q : Value → Shared → Prop) (E : Value → Shared → Prop), tn i s.heap → Q (.ref it) s → wpAny (model P w) A (pyIter (.ref it)) Q E s
abbrev TI := St → Hp → (It → Hp → Prop) → Prop
/-- an iterator has come -/
def PIE (X : Cx) (pins : List (Addr × Obj)) (σ : St) (tg : Expr) (R : It → Hp → Prop) (itv : Value) (s2 : Shared) : Prop :=
  ∃ (it : Addr) (fp : List Addr) (tn : Nat → Heap → Prop) (J : It) (H' : Hp), itv = .ref it ∧ Inv X pins σ H' s2 ∧ Turn X.prog X.w X.K tg J fp it tn ∧ tn 0 s2.heap ∧ (∀ b ∈ fp, FpOk X pins H' b) ∧ R J H'
def PI (X : Cx) (tg iter : Expr) (wi : TI) : Prop :=
  ∀ (pins : List (Addr × Obj)) (s : Shared) (σ : St) (H : Hp) (R : It → Hp → Prop), Inv X pins σ H s → wi σ H R →
    wpAny (model X.prog X.w) X.A (eval iter X.env) (fun v s1 => wpAny (model X.prog X.w) X.A (pyIter v) (PIE X pins σ tg R) X.xe s1) X.xe s

/-- the step ahead of the store is nothing for an iterator that keeps no tuple -/
theorem go_of {M : Model} {A : Around} {E : Value → Shared → Prop} {s : Shared} {tg : Expr} {it : Addr} {u : Value} {o : Obj} {n : String} {vs : Array Value} {Q : Unit → Shared → Prop} (ho : s.heap.get? it = some o) (hc : o.cls = .type n) (hd : o.data = .fields vs)
    (hn : ["enumerate", "zip", "dict_itemiterator", "dict_reverseitemiterator", "odict_iterator", "itertools.zip_longest", "itertools.pairwise"].contains n = false) (hQ : Q () s) : wpAny M A (letOwnedTupleGo tg (.ref it) u) Q E s := by
  unfold letOwnedTupleGo
  cases tg <;> first
    | exact wpAny_pure hQ
    | (cases u <;> first
        | exact wpAny_pure hQ
        | (refine wpAny_bind (wpAny_load ho ?_)
           rw [hc, hd]
           show wpAny M A (if (["enumerate", "zip", "dict_itemiterator", "dict_reverseitemiterator", "odict_iterator", "itertools.zip_longest", "itertools.pairwise"].contains n && vs[0]? == some (rawInt _)) = true then _ else _) Q E s
           rw [if_neg (by intro h; rw [hn, Bool.false_and] at h; cases h)]
           exact wpAny_pure hQ))

/-- the list at a, as it stands at each turn (a loop may append to it) -/
def Itl (K : PySem.W.Frag) (a : Addr) : It :=
  ⟨fun i H => ∃ xs x, SqL K H a xs ∧ xs[i]? = some x, fun i H x H' => H' = H ∧ ∀ xs, SqL K H a xs → xs[i]? = some x, fun i H => ∃ xs, SqL K H a xs ∧ xs.length ≤ i⟩
def Itt (K : PySem.W.Frag) (a : Addr) : It :=
  ⟨fun i H => ∃ xs x, SqT K H a xs ∧ xs[i]? = some x, fun i H x H' => H' = H ∧ ∀ xs, SqT K H a xs → xs[i]? = some x, fun i H => ∃ xs, SqT K H a xs ∧ xs.length ≤ i⟩
/-- lo, lo + 1, .. (n of them) -/
def Itr (lo : Int) (n : Nat) : It := ⟨fun i _ => i < n, fun i H x H' => H' = H ∧ x = .int (lo + i), fun i _ => n ≤ i⟩
theorem turn_list {P : Program} {w : World} {K : PySem.W.Frag} {tg : Expr} (a it : Addr) : Turn P w K tg (Itl K a) [it] it (fun i h => h.IsListIter it a i) where
  mem := by simp
  obj := fun i h st b hb => by
    have e : b = it := by simpa using hb
    subst e
    obtain ⟨o, e, c, d⟩ := st
    exact ⟨o, e, fun v z => by rw [d] at z; cases z⟩
  keep := fun i h h' st k => st.at fun o e => k it (by simp) o e
  item := by
    intro X hP hw hK hc i pins s σ H E I hf st hg
    subst hP hw hK
    obtain ⟨xs, x, hq, hx⟩ := hg
    obtain ⟨its, rv, p, hz⟩ := I.list hq
    obtain ⟨u, hu, ru⟩ := rv.get hx
    obtain ⟨f0, f1, f2, f3, f4, f5⟩ := hf it (by simp)
    refine wpAny_pyNext_list_item st p.isList (x := u) (by simpa using hu) fun h' st' sb => ?_
    have I1 : Inv X pins σ H { s with heap := h' } := I.turned (t' := s.toks) (fun b o hb e => (sb.2 b hb).trans e) f0 f1 f3 f4 f5
    obtain ⟨o, e, c, d⟩ := id st'
    exact ⟨u, rfl, go_of (s := { s with heap := h' }) e c d (by decide) ⟨x, H, I1, ru, ⟨rfl, fun ys hy => by rw [I.list_inj hy hq]; exact hx⟩, st', fun b hb => (hf b hb).1⟩⟩
  done := by
    intro X hP hw hK hc i pins s σ H E I hf st hg
    subst hP hw hK
    obtain ⟨xs, hq, hx⟩ := hg
    obtain ⟨its, rv, p, hz⟩ := I.list hq
    obtain ⟨f0, f1, f2, f3, f4, f5⟩ := hf it (by simp)
    have hl := rv.length
    exact wpAny_pyNext_list_end (I.ok.hd hc) st p.isList (by simp; omega) fun h' eb => ⟨rfl, I.turned (t' := s.toks) (fun b o hb e => eb b o hb e) f0 f1 f3 f4 f5⟩
  self := fun _ _ _ _ _ st h => wpAny_pyIter_listiter st h
theorem turn_tuple {P : Program} {w : World} {K : PySem.W.Frag} {tg : Expr} (a it : Addr) : Turn P w K tg (Itt K a) [it] it (fun i h => h.IsTupleIter it a i) where
  mem := by simp
  obj := fun i h st b hb => by
    have e : b = it := by simpa using hb
    subst e
    obtain ⟨o, e, c, d⟩ := st
    exact ⟨o, e, fun v z => by rw [d] at z; cases z⟩
  keep := fun i h h' st k => st.at fun o e => k it (by simp) o e
  item := by
    intro X hP hw hK hc i pins s σ H E I hf st hg
    subst hP hw hK
    obtain ⟨xs, x, hq, hx⟩ := hg
    obtain ⟨its, rv, p, hz⟩ := I.tuple hq
    obtain ⟨u, hu, ru⟩ := rv.get hx
    obtain ⟨f0, f1, f2, f3, f4, f5⟩ := hf it (by simp)
    refine wpAny_pyNext_tuple_item st (show s.heap.IsTuple a its.toArray from p) (x := u) (by simpa using hu) fun h' st' sb => ?_
    have I1 : Inv X pins σ H { s with heap := h' } := I.turned (t' := s.toks) (fun b o hb e => (sb.2 b hb).trans e) f0 f1 f3 f4 f5
    obtain ⟨o, e, c, d⟩ := id st'
    exact ⟨u, rfl, go_of (s := { s with heap := h' }) e c d (by decide) ⟨x, H, I1, ru, ⟨rfl, fun ys hy => by rw [I.tuple_inj hy hq]; exact hx⟩, st', fun b hb => (hf b hb).1⟩⟩
  done := by
    intro X hP hw hK hc i pins s σ H E I hf st hg
    subst hP hw hK
    obtain ⟨xs, hq, hx⟩ := hg
    obtain ⟨its, rv, p, hz⟩ := I.tuple hq
    obtain ⟨f0, f1, f2, f3, f4, f5⟩ := hf it (by simp)
    have hl := rv.length
    exact wpAny_pyNext_tuple_end (I.ok.hd hc) st (show s.heap.IsTuple a its.toArray from p) (by simp; omega) fun h' eb => ⟨rfl, I.turned (t' := s.toks) (fun b o hb e => eb b o hb e) f0 f1 f3 f4 f5⟩
  self := fun _ _ _ _ _ st h => wpAny_pyIter_tupleiter st h
theorem turn_range {P : Program} {w : World} {K : PySem.W.Frag} {tg : Expr} (it : Addr) (lo : Int) (n : Nat) : Turn P w K tg (Itr lo n) [it] it (fun i h => IsRangeIter h it (lo + (i : Nat) * 1) ((n : Int) - (i : Nat)) 1) where
  mem := by simp
  obj := fun i h st b hb => by
    have e : b = it := by simpa using hb
    subst e
    exact ⟨_, st, fun v z => by
      have z' : Data.fields _ = Data.cell v := z
      cases z'⟩
  keep := fun i h h' st k => k it (by simp) _ st
  item := by
    intro X hP hw hK hc i pins s σ H E I hf st hg
    subst hP hw hK
    obtain ⟨f0, f1, f2, f3, f4, f5⟩ := hf it (by simp)
    have W := Walks.range (prog := X.prog) (w := X.w) (I.ok.hd hc) it lo 1 n
    refine W.item i s _ _ hg st fun v h' tk hv st' kk => ?_
    obtain ⟨t, rfl⟩ := hv
    have I1 : Inv X pins σ H { s with heap := h', toks := tk } := I.turned (fun b o hb e => kk b o (by simpa using hb) e) f0 f1 f3 f4 f5
    refine ⟨_, rfl, go_of (s := { s with heap := h', toks := tk }) (n := "range_iterator") st' rfl rfl (by decide) ⟨.int (lo + i), H, I1, ⟨t, ?_⟩, ⟨rfl, rfl⟩, st', fun b hb => (hf b hb).1⟩⟩
    rw [Int.mul_one]
  done := by
    intro X hP hw hK hc i pins s σ H E I hf st hg
    subst hP hw hK
    obtain ⟨f0, f1, f2, f3, f4, f5⟩ := hf it (by simp)
    exact wpAny_pyNext_range_end (I.ok.hd hc) st (by have : n ≤ i := hg; omega) fun h' eb => ⟨rfl, I.turned (t' := s.toks) (fun b o hb e => eb b o hb e) f0 f1 f3 f4 f5⟩
  self := fun _ _ _ _ _ st h => wpAny_pyIter_rangeiter st h
end L2

namespace L2
open PySem PySem.Spec PyProof.Rows
section
variable {X : Cx} {tg : Expr}
def iList (K : PySem.W.Frag) (tl : TE) : TI := fun σ H R => tl σ H fun x H1 => ∃ a, x = .ref a ∧ (∃ xs, SqL K H1 a xs) ∧ R (Itl K a) H1
def iTup (K : PySem.W.Frag) (tl : TE) : TI := fun σ H R => tl σ H fun x H1 => ∃ a, x = .ref a ∧ (∃ xs, SqT K H1 a xs) ∧ R (Itt K a) H1
theorem pi_list {l : Expr} {tl : TE} (hl : PE X l tl) : PI X tg l (iList X.K tl) := by
  intro pins s σ H R I h
  refine thn (hl pins s σ H _ I h) fun v s1 ⟨x, H1, I1, r1, q1⟩ => ?_
  obtain ⟨a, e, ⟨xs, hq⟩, q⟩ := q1
  subst e
  cases r1
  obtain ⟨its, rv, p, hz⟩ := I1.list hq
  refine wpAny_pyIter_list p.isList ?_
  refine ⟨s1.heap.objs.size, [s1.heap.objs.size], _, _, H1, rfl, I1.kept (t' := s1.toks) fun b o e => Heap.get?_push_of_some _ e, turn_list a _, ⟨_, Heap.get?_push_size _ rfl, rfl, rfl⟩, fun b hb => ?_, q⟩
  have e : b = s1.heap.objs.size := by simpa using hb
  subst e
  exact I1.fpOk (Nat.le_refl _) (I1.hok.fresh (Nat.le_refl _))
theorem pi_tup {l : Expr} {tl : TE} (hl : PE X l tl) : PI X tg l (iTup X.K tl) := by
  intro pins s σ H R I h
  refine thn (hl pins s σ H _ I h) fun v s1 ⟨x, H1, I1, r1, q1⟩ => ?_
  obtain ⟨a, e, ⟨xs, hq⟩, q⟩ := q1
  subst e
  cases r1
  obtain ⟨its, rv, p, hz⟩ := I1.tuple hq
  refine wpAny_pyIter_tuple (show s1.heap.IsTuple a its.toArray from p) ?_
  refine ⟨s1.heap.objs.size, [s1.heap.objs.size], _, _, H1, rfl, I1.kept (t' := s1.toks) fun b o e => Heap.get?_push_of_some _ e, turn_tuple a _, ⟨_, Heap.get?_push_size _ rfl, rfl, rfl⟩, fun b hb => ?_, q⟩
  have e : b = s1.heap.objs.size := by simpa using hb
  subst e
  exact I1.fpOk (Nat.le_refl _) (I1.hok.fresh (Nat.le_refl _))
/-- a range object just made, walked -/
theorem range_it {pins : List (Addr × Obj)} {σ : St} {H : Hp} {s : Shared} {R : It → Hp → Prop} {E : Value → Shared → Prop} {lo hi : Int} {t u v : Tok} {tk : Nat} (I : Inv X pins σ H s) (h1 : -(2 ^ 62) ≤ lo) (h2 : lo < 2 ^ 62) (h3 : -(2 ^ 62) ≤ hi) (h4 : hi < 2 ^ 62)
    (q : R (Itr lo (hi - lo).toNat) H) : wpAny (model X.prog X.w) X.A (pyIter (.ref s.heap.objs.size)) (PIE X pins σ tg R) E { s with heap := s.heap.push { cls := .type "range", data := .fields #[.int lo t, .int hi u, .int 1 v] }, toks := tk } := by
  refine wpAny_pyIter_range (IsRange.new ..) (small_one h1 h2 h3 h4) ?_
  have I1 : Inv X pins σ H { s with heap := s.heap.push { cls := .type "range", data := .fields #[.int lo t, .int hi u, .int 1 v] }, toks := tk } := I.kept fun b o e => Heap.get?_push_of_some _ e
  refine ⟨(s.heap.push { cls := .type "range", data := .fields #[.int lo t, .int hi u, .int 1 v] }).objs.size, [(s.heap.push { cls := .type "range", data := .fields #[.int lo t, .int hi u, .int 1 v] }).objs.size], _, _, H, rfl,
    I1.kept (t' := tk) fun b o e => Heap.get?_push_of_some _ e, turn_range _ lo (hi - lo).toNat, ?_, fun b hb => ?_, q⟩
  · have e1 : lo + ((0 : Nat) : Int) * 1 = lo := by simp
    have e2 : (((hi - lo).toNat : Nat) : Int) - ((0 : Nat) : Int) = Builtin.Range.rangeSize lo hi 1 := by rw [rangeSize_one]; split <;> omega
    show IsRangeIter _ _ (lo + ((0 : Nat) : Int) * 1) ((((hi - lo).toNat : Nat) : Int) - ((0 : Nat) : Int)) 1
    rw [e1, e2]
    exact Heap.get?_push_size _ rfl
  · have e : b = (s.heap.push { cls := .type "range", data := .fields #[.int lo t, .int hi u, .int 1 v] }).objs.size := by simpa using hb
    subst e
    exact I1.fpOk (Nat.le_refl _) (I1.hok.fresh (Nat.le_refl _))
def iRng1 (ta : TA) : TI := fun σ H R => ta σ H fun vs H1 => ∃ j : Int, vs = [.int j] ∧ -(2 ^ 62) ≤ j ∧ j < 2 ^ 62 ∧ R (Itr 0 j.toNat) H1
def iRng2 (ta : TA) : TI := fun σ H R => ta σ H fun vs H1 => ∃ i j : Int, vs = [.int i, .int j] ∧ (-(2 ^ 62) ≤ i ∧ i < 2 ^ 62 ∧ -(2 ^ 62) ≤ j ∧ j < 2 ^ 62) ∧ R (Itr i (j - i).toNat) H1
theorem pi_range1 {a : Expr} {ta : TA} {p pos : Pos} (hg : Gl X "range") (hm : X.mg "range" = none) (ha : PA X [a] ta) (hs : starEach [a] X.env = [(false, eval a X.env)] := by rfl) : PI X tg (.Call (.Name "range" p) [a] [] pos) (iRng1 ta) := by
  intro pins s σ H R I h
  refine Call_ (ld_blt I hg hm boot_range (PyProof.Rows.callWith_type1 (thn (ha pos pins s σ H _ I h) fun us s1 ⟨vs, H1, I1, r1, q1⟩ => ?_) hs rfl))
  obtain ⟨j, e, q1, q2, q⟩ := q1
  subst e
  cases r1 with
  | cons r rr =>
    cases rr
    obtain ⟨t, rfl⟩ := r
    exact call_range_1 (range_it I1 (by omega) (by omega) q1 q2 (by simpa using q))
theorem pi_range2 {a b : Expr} {ta : TA} {p pos : Pos} (hg : Gl X "range") (hm : X.mg "range" = none) (ha : PA X [a, b] ta) (hs : starEach [a, b] X.env = [(false, eval a X.env), (false, eval b X.env)] := by rfl) (hs2 : starEach [b] X.env = [(false, eval b X.env)] := by rfl) :
    PI X tg (.Call (.Name "range" p) [a, b] [] pos) (iRng2 ta) := by
  intro pins s σ H R I h
  refine Call_ (ld_blt I hg hm boot_range (PyProof.Rows.callWith_type1 (thn (ha pos pins s σ H _ I h) fun us s1 ⟨vs, H1, I1, r1, q1⟩ => ?_) (by rw [hs, hs2]) (by rw [hs2]; rfl)))
  obtain ⟨i, j, e, ⟨q1, q2, q3, q4⟩, q⟩ := q1
  subst e
  cases r1 with
  | cons r rr =>
    cases rr with
    | cons r' rr =>
      cases rr
      obtain ⟨t, rfl⟩ := r
      obtain ⟨t', rfl⟩ := r'
      exact call_range_2 (range_it I1 q1 q2 q3 q4 q)

/-! ### for -/
/-- W: the invariant by the turn and a measure; N: what the body is to reach -/
def tFor (wi : TI) (g : TG) (tb : TS) : TS := fun D σ H => wi σ H fun J H1 => ∃ W : Nat → Nat → St → Hp → Prop, (∃ m, W 0 m σ H1) ∧ ∀ i m σ H, W i m σ H →
  (J.stop i H ∧ D.nx σ H) ∨ (J.go i H ∧ ∃ N : St → Hp → Prop, (∀ σ' H', N σ' H' → ∃ m', m' < m ∧ W (i + 1) m' σ' H') ∧ ∀ x H', J.yld i H x H' → g x σ H' fun σ2 H2 => tb { D with nx := N, ct := N, bk := D.nx } σ2 H2)
/-- the records at fp as they stand -/
def pinsAt (fp : List Addr) (h : Heap) : List (Addr × Obj) := fp.filterMap fun b => (h.get? b).map fun o => (b, o)
theorem mem_pinsAt {fp : List Addr} {h : Heap} {b : Addr} {o : Obj} (hb : b ∈ fp) (e : h.get? b = some o) : (b, o) ∈ pinsAt fp h := List.mem_filterMap.mpr ⟨b, hb, by rw [e]; rfl⟩
theorem of_pinsAt {fp : List Addr} {h : Heap} {p : Addr × Obj} (hp : p ∈ pinsAt fp h) : p.1 ∈ fp ∧ h.get? p.1 = some p.2 := by
  obtain ⟨b, hb, e⟩ := List.mem_filterMap.mp hp
  cases q : h.get? b with
  | none => rw [q] at e; cases e
  | some o =>
    rw [q] at e
    have e' : (b, o) = p := Option.some.inj e
    subst e'
    exact ⟨hb, q⟩
theorem Inv.pinned {pins : List (Addr × Obj)} {σ : St} {H : Hp} {s : Shared} {fp : List Addr} (I : Inv X pins σ H s) (hf : ∀ b ∈ fp, FpOk X pins H b) (ho : ∀ b ∈ fp, ∃ o, s.heap.get? b = some o ∧ ∀ v, o.data ≠ .cell v) : Inv X (pins ++ pinsAt fp s.heap) σ H s :=
  I.pins_of fun p hp => (List.mem_append.mp hp).elim (fun z => I.pin p (List.mem_append_right _ z)) fun z => by
    obtain ⟨hb, e⟩ := of_pinsAt z
    obtain ⟨f0, f1, f2, _⟩ := hf p.1 hb
    obtain ⟨o, e', d⟩ := ho p.1 hb
    rw [e] at e'; cases e'
    exact ⟨e, f0, f1, f2, d⟩
theorem Inv.unpinned {pins pl : List (Addr × Obj)} {σ : St} {H : Hp} {s : Shared} (I : Inv X (pins ++ pl) σ H s) : Inv X pins σ H s := I.pins_of fun p hp => I.pin p (List.mem_append_right _ (List.mem_append_left _ hp))
theorem ps_for {iter : Expr} {body : List Stmt} {wi : TI} {g : TG} {tb : TS} {pos : Pos} (hp : PassesOwn (model X.prog X.w) X.A X.env X.xe) (hc : X.calm = true) (hi : PI X tg iter wi) (hg : PG X tg g) (hb : PSs X body tb)
    (hs : ∀ x, foldedSetIterable iter X.env x = pure x := by intro _; rfl) : PS X (.For tg iter body [] pos) (tFor wi g tb) := by
  intro pins s σ H D I h
  refine wpAny_For (thn (hi pins s σ H _ I h) fun v s1 h1 => thn h1 fun itv s2 h2 => ?_) hs
  obtain ⟨it, fp, tn, J, H2, e, I2, T, st2, f2, W, ⟨m0, w0⟩, turn⟩ := h2
  subst e
  -- what stays true of the iterator's objects through the loop
  have stat : ∀ {H' : Hp}, (∀ b ∈ fp, H' b = none) → ∀ b ∈ fp, FpOk X pins H' b := fun hn b hb => ⟨hn b hb, (f2 b hb).2⟩
  refine codeAny_forLoop_any (fun n s' => ∃ i σ' H', Inv X pins σ' H' s' ∧ tn i s'.heap ∧ (∀ b ∈ fp, H' b = none) ∧ W i n σ' H') ?_ m0 ⟨0, σ, H2, I2, st2, fun b hb => (f2 b hb).1, w0⟩
  rintro n s3 ⟨i, σ3, H3, I3, st3, fr3, w3⟩
  rcases turn i n σ3 H3 w3 with ⟨stop, qn⟩ | ⟨go, N, hN, step⟩
  · refine wpAny_passesOwn hp (thn (T.done X rfl rfl rfl hc i pins s3 σ3 H3 X.xe I3 (stat fr3) st3 stop) fun r s4 ⟨hr, I4⟩ => ?_)
    subst hr
    exact wpAny_execs_nil ⟨σ3, H3, I4, qn⟩
  · refine wpAny_passesOwn hp (thn (T.item X rfl rfl rfl hc i pins s3 σ3 H3 X.xe I3 (stat fr3) st3 go) fun r s4 ⟨u, hr, h4⟩ => ?_)
    subst hr
    refine wpAny_passesOwn hp (thn h4 fun _ s5 ⟨x, H5, I5, r5, y5, st5, fr5⟩ => ?_)
    have I5' := I5.pinned (stat fr5) (T.obj _ _ st5)
    refine wpAny_passesOwn hp (thn (hg _ s5 σ3 H5 x u _ I5' r5 (step x H5 y5)) fun _ s6 ⟨σ6, H6, I6, q6⟩ => ?_)
    refine wpAny_passesOwn hp (thn (hb _ s6 σ6 H6 _ I6 q6) fun f s7 q7 => ?_)
    have again : ∀ {σ7 : St} {H7 : Hp}, Inv X (pins ++ pinsAt fp s5.heap) σ7 H7 s7 → N σ7 H7 → ∃ m, m < n ∧ ∃ i σ' H', Inv X pins σ' H' s7 ∧ tn i s7.heap ∧ (∀ b ∈ fp, H' b = none) ∧ W i m σ' H' := fun {σ7 H7} I7 n7 => by
      obtain ⟨m', hm, w7⟩ := hN σ7 H7 n7
      refine ⟨m', hm, i + 1, σ7, H7, I7.unpinned, T.keep _ _ _ st5 fun b hb o e => (I7.pin (b, o) (List.mem_append_right _ (List.mem_append_right _ (mem_pinsAt hb e)))).1, fun b hb => ?_, w7⟩
      obtain ⟨o, e, d⟩ := T.obj _ _ st5 b hb
      exact (I7.pin (b, o) (List.mem_append_right _ (List.mem_append_right _ (mem_pinsAt hb e)))).2.1
    cases f with
    | next => obtain ⟨σ7, H7, I7, n7⟩ := q7; exact again I7 n7
    | cont => obtain ⟨σ7, H7, I7, n7⟩ := q7; exact again I7 n7
    | brk => obtain ⟨σ7, H7, I7, q7⟩ := q7; exact ⟨σ7, H7, I7.unpinned, q7⟩
    | ret v => obtain ⟨x7, σ7, H7, I7, r7, q7⟩ := q7; exact ⟨x7, σ7, H7, I7.unpinned, r7, q7⟩
end

/-! ### the forms one uses -/
/-- over a list that the body leaves as it is -/
theorem for_list {K : PySem.W.Frag} {a : Addr} {xs : List V} {g : TG} {tb : TS} {D : Ends} {σ : St} {H : Hp} (Pv : Nat → St → Hp → Prop) (h0 : Pv 0 σ H) (hl : ∀ i σ H, i ≤ xs.length → Pv i σ H → SqL K H a xs)
    (hs : ∀ i x σ H, xs[i]? = some x → Pv i σ H → g x σ H fun σ2 H2 => tb { D with nx := Pv (i + 1), ct := Pv (i + 1), bk := D.nx } σ2 H2) (hd : ∀ σ H, Pv xs.length σ H → D.nx σ H) :
    ∃ W : Nat → Nat → St → Hp → Prop, (∃ m, W 0 m σ H) ∧ ∀ i m σ H, W i m σ H →
      ((Itl K a).stop i H ∧ D.nx σ H) ∨ ((Itl K a).go i H ∧ ∃ N : St → Hp → Prop, (∀ σ' H', N σ' H' → ∃ m', m' < m ∧ W (i + 1) m' σ' H') ∧ ∀ x H', (Itl K a).yld i H x H' → g x σ H' fun σ2 H2 => tb { D with nx := N, ct := N, bk := D.nx } σ2 H2) := by
  refine ⟨fun i m σ H => m = xs.length - i ∧ i ≤ xs.length ∧ Pv i σ H, ⟨xs.length, by simp, Nat.zero_le _, h0⟩, ?_⟩
  rintro i m σ H ⟨rfl, hi, p⟩
  have q := hl i σ H hi p
  by_cases hlt : i < xs.length
  · refine .inr ⟨⟨xs, xs[i], q, by simp [hlt]⟩, Pv (i + 1), fun σ' H' p' => ⟨xs.length - (i + 1), by omega, rfl, hlt, p'⟩, fun x H' y => ?_⟩
    obtain ⟨e, y⟩ := y
    subst e
    exact hs i x σ _ (y xs q) p
  · have e : i = xs.length := by omega
    subst e
    exact .inl ⟨⟨xs, q, Nat.le_refl _⟩, hd σ H p⟩
theorem for_tup {K : PySem.W.Frag} {a : Addr} {xs : List V} {g : TG} {tb : TS} {D : Ends} {σ : St} {H : Hp} (Pv : Nat → St → Hp → Prop) (h0 : Pv 0 σ H) (hl : ∀ i σ H, i ≤ xs.length → Pv i σ H → SqT K H a xs)
    (hs : ∀ i x σ H, xs[i]? = some x → Pv i σ H → g x σ H fun σ2 H2 => tb { D with nx := Pv (i + 1), ct := Pv (i + 1), bk := D.nx } σ2 H2) (hd : ∀ σ H, Pv xs.length σ H → D.nx σ H) :
    ∃ W : Nat → Nat → St → Hp → Prop, (∃ m, W 0 m σ H) ∧ ∀ i m σ H, W i m σ H →
      ((Itt K a).stop i H ∧ D.nx σ H) ∨ ((Itt K a).go i H ∧ ∃ N : St → Hp → Prop, (∀ σ' H', N σ' H' → ∃ m', m' < m ∧ W (i + 1) m' σ' H') ∧ ∀ x H', (Itt K a).yld i H x H' → g x σ H' fun σ2 H2 => tb { D with nx := N, ct := N, bk := D.nx } σ2 H2) := by
  refine ⟨fun i m σ H => m = xs.length - i ∧ i ≤ xs.length ∧ Pv i σ H, ⟨xs.length, by simp, Nat.zero_le _, h0⟩, ?_⟩
  rintro i m σ H ⟨rfl, hi, p⟩
  have q := hl i σ H hi p
  by_cases hlt : i < xs.length
  · refine .inr ⟨⟨xs, xs[i], q, by simp [hlt]⟩, Pv (i + 1), fun σ' H' p' => ⟨xs.length - (i + 1), by omega, rfl, hlt, p'⟩, fun x H' y => ?_⟩
    obtain ⟨e, y⟩ := y
    subst e
    exact hs i x σ _ (y xs q) p
  · have e : i = xs.length := by omega
    subst e
    exact .inl ⟨⟨xs, q, Nat.le_refl _⟩, hd σ H p⟩
theorem for_range {lo : Int} {n : Nat} {g : TG} {tb : TS} {D : Ends} {σ : St} {H : Hp} (Pv : Nat → St → Hp → Prop) (h0 : Pv 0 σ H)
    (hs : ∀ i σ H, i < n → Pv i σ H → g (.int (lo + i)) σ H fun σ2 H2 => tb { D with nx := Pv (i + 1), ct := Pv (i + 1), bk := D.nx } σ2 H2) (hd : ∀ σ H, Pv n σ H → D.nx σ H) :
    ∃ W : Nat → Nat → St → Hp → Prop, (∃ m, W 0 m σ H) ∧ ∀ i m σ H, W i m σ H →
      ((Itr lo n).stop i H ∧ D.nx σ H) ∨ ((Itr lo n).go i H ∧ ∃ N : St → Hp → Prop, (∀ σ' H', N σ' H' → ∃ m', m' < m ∧ W (i + 1) m' σ' H') ∧ ∀ x H', (Itr lo n).yld i H x H' → g x σ H' fun σ2 H2 => tb { D with nx := N, ct := N, bk := D.nx } σ2 H2) := by
  refine ⟨fun i m σ H => m = n - i ∧ i ≤ n ∧ Pv i σ H, ⟨n, by simp, Nat.zero_le _, h0⟩, ?_⟩
  rintro i m σ H ⟨rfl, hi, p⟩
  by_cases hlt : i < n
  · refine .inr ⟨hlt, Pv (i + 1), fun σ' H' p' => ⟨n - (i + 1), by omega, rfl, hlt, p'⟩, fun x H' y => ?_⟩
    obtain ⟨e, y⟩ := y
    subst e y
    exact hs i σ _ hlt p
  · have e : i = n := by omega
    subst e
    exact .inl ⟨Nat.le_refl _, hd σ H p⟩
/-- while, by a word and a measure of the state -/
theorem while_by {c : TT} {tb : TS} {D : Ends} {σ : St} {H : Hp} (Pv : St → Hp → Prop) (μ : St → Hp → Nat) (h0 : Pv σ H)
    (hs : ∀ σ H, Pv σ H → c σ H fun b H1 => if b = true then tb { D with nx := fun σ' H' => Pv σ' H' ∧ μ σ' H' < μ σ H, ct := fun σ' H' => Pv σ' H' ∧ μ σ' H' < μ σ H, bk := D.nx } σ H1 else D.nx σ H1)
    (mono : ∀ σ H Q Q', (∀ b H1, Q b H1 → Q' b H1) → c σ H Q → c σ H Q') : tWhile c tb D σ H := by
  refine ⟨fun m σ H => m = μ σ H ∧ Pv σ H, ⟨_, rfl, h0⟩, ?_⟩
  rintro m σ H ⟨rfl, p⟩
  refine mono σ H _ _ (fun b H1 q => ?_) (hs σ H p)
  cases b with
  | true => exact ⟨_, fun σ' H' ⟨p', l⟩ => ⟨_, l, rfl, p'⟩, q⟩
  | false => exact q
end L2

namespace L2
open PySem PySem.Spec PyProof.Rows

abbrev R2 := V → V → Hp → VK → Prop
/-- a two-place operation on values: f is binaryOp op, inplaceOp op or compareOp op -/
def OpR (X : Cx) (f : Value → Value → Sem Value) (r : R2) : Prop :=
  ∀ (pins : List (Addr × Obj)) (s : Shared) (σ : St) (H : Hp) (x y : V) (v u : Value) (Q : VK), Inv X pins σ H s → RelV x v → RelV y u → r x y H Q →
    wpAny (model X.prog X.w) X.A (f v u) (EP X pins σ Q) X.xe s
/-- a one-place operation -/
def UnR (X : Cx) (f : Value → Sem Value) (r : V → Hp → VK → Prop) : Prop :=
  ∀ (pins : List (Addr × Obj)) (s : Shared) (σ : St) (H : Hp) (x : V) (v : Value) (Q : VK), Inv X pins σ H s → RelV x v → r x H Q →
    wpAny (model X.prog X.w) X.A (f v) (EP X pins σ Q) X.xe s
/-- a call of a value that is known (a builtin, a type) with values -/
def CallR (X : Cx) (f : Value) (r : List V → Hp → VK → Prop) : Prop :=
  ∀ (pins : List (Addr × Obj)) (s : Shared) (σ : St) (H : Hp) (xs : List V) (us : List Value) (Q : VK), Inv X pins σ H s → Vals xs us → r xs H Q →
    wpAny (model X.prog X.w) X.A (call f us) (EP X pins σ Q) X.xe s
/-- a value's truth -/
def TruR (X : Cx) (r : V → Hp → (Bool → Hp → Prop) → Prop) : Prop :=
  ∀ (pins : List (Addr × Obj)) (s : Shared) (σ : St) (H : Hp) (x : V) (v : Value) (Q : Bool → Hp → Prop), Inv X pins σ H s → RelV x v → r x H Q →
    wpAny (model X.prog X.w) X.A (truthy v) (TP X pins σ Q) X.xe s

def tOp (r : R2) (ta tb : TE) : TE := fun σ H Q => ta σ H fun x H1 => tb σ H1 fun y H2 => r x y H2 Q
def tUn (r : V → Hp → VK → Prop) (ta : TE) : TE := fun σ H Q => ta σ H fun x H1 => r x H1 Q
/-- ints in, under C, and a value out -/
def rI (C : Int → Int → Prop) (g : Int → Int → V) : R2 := fun x y H Q => ∃ i j, x = .int i ∧ y = .int j ∧ C i j ∧ Q (g i j) H
def rI0 (g : Int → Int → V) : R2 := fun x y H Q => ∃ i j, x = .int i ∧ y = .int j ∧ Q (g i j) H
def rU (g : Int → V) : V → Hp → VK → Prop := fun x H Q => ∃ i, x = .int i ∧ Q (g i) H

section
variable {X : Cx} {a b c : Expr} {ta tb tc : TE} {pos : Pos}

theorem binT (ha : PE X a ta) (hb : PE X b tb) {pins : List (Addr × Obj)} {s : Shared} {σ : St} {H : Hp} {R : V → V → Hp → Prop} (I : Inv X pins σ H s)
    (h : ta σ H fun x H1 => tb σ H1 fun y H2 => R x y H2) {Q : Value → Shared → Prop} {f : Value → Value → Sem Value}
    (hf : ∀ v u s2 x y H2, Inv X pins σ H2 s2 → RelV x v → RelV y u → R x y H2 → wpAny (model X.prog X.w) X.A (f v u) Q X.xe s2) :
    wpAny (model X.prog X.w) X.A (eval a X.env) (fun v s₁ => wpAny (model X.prog X.w) X.A (eval b X.env) (fun u s₂ => wpAny (model X.prog X.w) X.A (f v u) Q X.xe s₂) X.xe s₁) X.xe s := by
  refine thn (ha pins s σ H _ I h) fun v s1 ⟨x, H1, I1, r1, q1⟩ => ?_
  refine thn (hb pins s1 σ H1 _ I1 q1) fun u s2 ⟨y, H2, I2, r2, q2⟩ => ?_
  exact hf v u s2 x y H2 I2 r1 r2 q2

theorem pe_op {op : Operator} {r : R2} (ho : OpR X (binaryOp op) r) (ha : PE X a ta) (hb : PE X b tb) : PE X (.BinOp a op b pos) (tOp r ta tb) := by
  intro pins s σ H Q I h
  exact wpAny_BinOp (binT ha hb I h fun v u s2 x y H2 I2 rx ry q => ho pins s2 σ H2 x y v u Q I2 rx ry q)
theorem pe_un {op : UnaryOp} {r : V → Hp → VK → Prop} (ho : UnR X (unaryOp op) r) (ha : PE X a ta) : PE X (.UnaryOp op a pos) (tUn r ta) := by
  intro pins s σ H Q I h
  exact UnaryOp_ (thn (ha pins s σ H _ I h) fun v s1 ⟨x, H1, I1, r1, q1⟩ => ho pins s1 σ H1 x v Q I1 r1 q1)
/-- a op= e at a name: the name's slot i -/
theorem augR {op : Operator} {r : R2} (ho : OpR X (inplaceOp op) r) {pins : List (Addr × Obj)} {s : Shared} {σ : St} {H : Hp} {x y : V} {v u : Value} {Q : VK} (I : Inv X pins σ H s)
    (rx : RelV x v) (ry : RelV y u) (q : r x y H Q) : wpAny (model X.prog X.w) X.A (inplaceOp op v u) (EP X pins σ Q) X.xe s := ho pins s σ H x y v u Q I rx ry q

/-! ### ints -/
theorem opI {f : Value → Value → Sem Value} {C : Int → Int → Prop} {g : Int → Int → Int}
    (rule : ∀ (i j : Int) (t u : Tok) (s : Shared) (Q : Value → Shared → Prop) (E : Value → Shared → Prop), C i j → Q (.int (g i j) s.toks) { s with toks := s.toks + 1 } → wpAny (model X.prog X.w) X.A (f (.int i t) (.int j u)) Q E s) :
    OpR X f (rI C fun i j => .int (g i j)) := by
  intro pins s σ H x y v u Q I rx ry h
  obtain ⟨i, j, rfl, rfl, hc, q⟩ := h
  obtain ⟨t, rfl⟩ := rx
  obtain ⟨t', rfl⟩ := ry
  exact rule i j t t' s _ _ hc ⟨.int (g i j), H, I.tok _, ⟨_, rfl⟩, q⟩
theorem opI0 {f : Value → Value → Sem Value} {g : Int → Int → Int}
    (rule : ∀ (i j : Int) (t u : Tok) (s : Shared) (Q : Value → Shared → Prop) (E : Value → Shared → Prop), Q (.int (g i j) s.toks) { s with toks := s.toks + 1 } → wpAny (model X.prog X.w) X.A (f (.int i t) (.int j u)) Q E s) :
    OpR X f (rI0 fun i j => .int (g i j)) := by
  intro pins s σ H x y v u Q I rx ry h
  obtain ⟨i, j, rfl, rfl, q⟩ := h
  obtain ⟨t, rfl⟩ := rx
  obtain ⟨t', rfl⟩ := ry
  exact rule i j t t' s _ _ ⟨.int (g i j), H, I.tok _, ⟨_, rfl⟩, q⟩
theorem opB0 {f : Value → Value → Sem Value} {g : Int → Int → Bool}
    (rule : ∀ (i j : Int) (t u : Tok) (s : Shared) (Q : Value → Shared → Prop) (E : Value → Shared → Prop), Q (.bool (g i j)) s → wpAny (model X.prog X.w) X.A (f (.int i t) (.int j u)) Q E s) :
    OpR X f (rI0 fun i j => .bl (g i j)) := by
  intro pins s σ H x y v u Q I rx ry h
  obtain ⟨i, j, rfl, rfl, q⟩ := h
  obtain ⟨t, rfl⟩ := rx
  obtain ⟨t', rfl⟩ := ry
  exact rule i j t t' s _ _ ⟨.bl (g i j), H, I, rfl, q⟩

def CDiv (i j : Int) : Prop := 0 < j ∧ j < 1073741824
def CDivN (i j : Int) : Prop := j ≠ 0 ∧ j.natAbs < 1073741824
def CPow (i j : Int) : Prop := 0 ≤ j ∧ j ≤ 1000000 ∧ i.natAbs < 2 ^ 64
def CMul (i j : Int) : Prop := (-(2 ^ 64) < i ∧ i < 2 ^ 64) ∨ (-(2 ^ 64) < j ∧ j < 2 ^ 64)
theorem CMul.ok {i j : Int} (h : CMul i j) : IntMulOk i j := by
  rcases h with ⟨h1, h2⟩ | ⟨h1, h2⟩
  · exact .of_left (intBits_le_64 h1 h2)
  · exact .of_right (intBits_le_64 h1 h2)
theorem two_pow_nn (k : Nat) : (0 : Int) ≤ 2 ^ k := by
  rw [two_pow_cast]
  exact Int.natCast_nonneg _

theorem op_add : OpR X (binaryOp .Add) (rI0 fun i j => .int (i + j)) := opI0 fun _ _ _ _ _ _ _ q => add_int q
theorem op_sub : OpR X (binaryOp .Sub) (rI0 fun i j => .int (i - j)) := opI0 fun _ _ _ _ _ _ _ q => sub_int q
theorem op_mul : OpR X (binaryOp .Mult) (rI CMul fun i j => .int (i * j)) := opI fun _ _ _ _ _ _ _ hc q => mul_int q hc.ok
/-- // by a positive divisor -/
theorem op_fdiv : OpR X (binaryOp .FloorDiv) (rI CDiv fun i j => .int (i / j)) := opI fun i j _ _ _ _ _ hc q => by
  have h1 : (0 : Int) < j := hc.1
  have h2 : j < 1073741824 := hc.2
  exact floordiv_int (by omega) (by rw [Int.fdiv_eq_ediv_of_nonneg i (by omega)]; exact q) (.inl (PyProof.noPylong_small (by omega)))
theorem op_fdivN : OpR X (binaryOp .FloorDiv) (rI CDivN fun i j => .int (i.fdiv j)) := opI fun _ _ _ _ _ _ _ hc q => floordiv_int hc.1 q (.inl (PyProof.noPylong_small hc.2))
/-- % by a positive divisor of any size -/
theorem op_mod : OpR X (binaryOp .Mod) (rI (fun _ j => 0 < j) fun i j => .int (i % j)) := opI fun i j _ _ _ _ _ hc q => by
  have h1 : (0 : Int) < j := hc
  exact mod_int' (by omega) (by rw [Int.fmod_eq_emod_of_nonneg i (by omega)]; exact q)
theorem op_modN : OpR X (binaryOp .Mod) (rI (fun _ j => j ≠ 0) fun i j => .int (i.fmod j)) := opI fun _ _ _ _ _ _ _ hc q => mod_int' hc q
theorem op_pow : OpR X (binaryOp .Pow) (rI CPow fun i j => .int (i ^ j.toNat)) := opI fun _ _ _ _ _ _ _ hc q => pow_int_small hc.1 hc.2.1 hc.2.2 q
theorem op_shl : OpR X (binaryOp .LShift) (rI CPow fun i j => .int (i * 2 ^ j.toNat)) := opI fun _ _ _ _ _ _ _ hc q => lshift_int_small hc.1 hc.2.1 hc.2.2 q
theorem op_shr : OpR X (binaryOp .RShift) (rI (fun _ j => 0 ≤ j) fun i j => .int (i / 2 ^ j.toNat)) := opI fun i j _ _ _ _ _ hc q =>
  rshift_int hc (by rw [Int.fdiv_eq_ediv_of_nonneg i (two_pow_nn _)]; exact q)
theorem op_and : OpR X (binaryOp .BitAnd) (rI0 fun i j => .int (Builtin.bitAnd i j)) := opI0 fun _ _ _ _ _ _ _ q => and_int q
theorem op_or : OpR X (binaryOp .BitOr) (rI0 fun i j => .int (Builtin.bitOr i j)) := opI0 fun _ _ _ _ _ _ _ q => or_int q
theorem op_xor : OpR X (binaryOp .BitXor) (rI0 fun i j => .int (Builtin.bitXor i j)) := opI0 fun _ _ _ _ _ _ _ q => xor_int q

theorem iop_add : OpR X (inplaceOp .Add) (rI0 fun i j => .int (i + j)) := opI0 fun _ _ _ _ _ _ _ q => iadd_int q
theorem iop_sub : OpR X (inplaceOp .Sub) (rI0 fun i j => .int (i - j)) := opI0 fun _ _ _ _ _ _ _ q => isub_int q
theorem iop_mul : OpR X (inplaceOp .Mult) (rI CMul fun i j => .int (i * j)) := opI fun _ _ _ _ _ _ _ hc q => imul_int q hc.ok
theorem iop_fdiv : OpR X (inplaceOp .FloorDiv) (rI CDiv fun i j => .int (i / j)) := opI fun i j _ _ _ _ _ hc q => by
  have h1 : (0 : Int) < j := hc.1
  have h2 : j < 1073741824 := hc.2
  exact ifloordiv_int (by omega) (by rw [Int.fdiv_eq_ediv_of_nonneg i (by omega)]; exact q) (.inl (PyProof.noPylong_small (by omega)))
theorem iop_mod : OpR X (inplaceOp .Mod) (rI (fun _ j => 0 < j) fun i j => .int (i % j)) := opI fun i j _ _ _ _ _ hc q => by
  have h1 : (0 : Int) < j := hc
  exact imod_int (by omega) (by rw [Int.fmod_eq_emod_of_nonneg i (by omega)]; exact q)
theorem iop_shl : OpR X (inplaceOp .LShift) (rI CPow fun i j => .int (i * 2 ^ j.toNat)) := opI fun _ _ _ _ _ _ _ hc q => ilshift_int_small hc.1 hc.2.1 hc.2.2 q
theorem iop_shr : OpR X (inplaceOp .RShift) (rI (fun _ j => 0 ≤ j) fun i j => .int (i / 2 ^ j.toNat)) := opI fun i j _ _ _ _ _ hc q =>
  irshift_int hc (by rw [Int.fdiv_eq_ediv_of_nonneg i (two_pow_nn _)]; exact q)
theorem iop_and : OpR X (inplaceOp .BitAnd) (rI0 fun i j => .int (Builtin.bitAnd i j)) := opI0 fun _ _ _ _ _ _ _ q => iand_int q
theorem iop_or : OpR X (inplaceOp .BitOr) (rI0 fun i j => .int (Builtin.bitOr i j)) := opI0 fun _ _ _ _ _ _ _ q => ior_int q
theorem iop_xor : OpR X (inplaceOp .BitXor) (rI0 fun i j => .int (Builtin.bitXor i j)) := opI0 fun _ _ _ _ _ _ _ q => ixor_int q

theorem unI {f : Value → Sem Value} {g : Int → Int}
    (rule : ∀ (i : Int) (t : Tok) (s : Shared) (Q : Value → Shared → Prop) (E : Value → Shared → Prop), Q (.int (g i) s.toks) { s with toks := s.toks + 1 } → wpAny (model X.prog X.w) X.A (f (.int i t)) Q E s) :
    UnR X f (rU fun i => .int (g i)) := by
  intro pins s σ H x v Q I rx h
  obtain ⟨i, rfl, q⟩ := h
  obtain ⟨t, rfl⟩ := rx
  exact rule i t s _ _ ⟨.int (g i), H, I.tok _, ⟨_, rfl⟩, q⟩
theorem un_neg : UnR X (unaryOp .USub) (rU fun i => .int (-i)) := unI fun _ _ _ _ _ q => neg_int q
theorem un_inv : UnR X (unaryOp .Invert) (rU fun i => .int (Builtin.bitNot i)) := unI fun _ _ _ _ _ q => invert_int q

/-! ### bools among ints: n += (a < b) -/
theorem op_add_ib : OpR X (binaryOp .Add) (fun x y H Q => ∃ i k, x = .int i ∧ y = .bl k ∧ Q (.int (i + b2i k)) H) := by
  intro pins s σ H x y v u Q I rx ry h
  obtain ⟨i, k, rfl, rfl, q⟩ := h
  obtain ⟨t, rfl⟩ := rx
  cases ry
  exact add_int_bool ⟨.int (i + b2i k), H, I.tok _, ⟨_, rfl⟩, q⟩
end

/-! ### comparisons -/
/-- the scalars that == tells apart as data does -/
def scal : V → V → Bool
  | .non, .non => true | .non, .int _ => true | .int _, .non => true | .non, .bl _ => true | .bl _, .non => true | .non, .str _ => true | .str _, .non => true
  | .int _, .int _ => true | .bl _, .bl _ => true | .str _, .str _ => true | .byt _, .byt _ => true
  | .int _, .str _ => true | .str _, .int _ => true | .bl _, .str _ => true | .str _, .bl _ => true
  | _, _ => false
def rEq : R2 := fun x y H Q => scal x y = true ∧ Q (.bl (decide (x = y))) H
def rNe : R2 := fun x y H Q => scal x y = true ∧ Q (.bl (!decide (x = y))) H

theorem dec_int {i j : Int} : decide (V.int i = V.int j) = (i == j) := by
  rw [Bool.eq_iff_iff]
  simp
theorem dec_bl {i j : Bool} : decide (V.bl i = V.bl j) = (i == j) := by
  rw [Bool.eq_iff_iff]
  simp
theorem dec_str {i j : Str} : decide (V.str i = V.str j) = (i == j) := by
  rw [Bool.eq_iff_iff]
  simp
theorem dec_byt {i j : Array UInt8} : decide (V.byt i = V.byt j) = (i.toList == j.toList) := by
  rw [Bool.eq_iff_iff]
  cases i
  cases j
  simp

section
variable {X : Cx} {a b c : Expr} {ta tb tc : TE} {pos : Pos}
theorem fin_bl {pins : List (Addr × Obj)} {σ : St} {H : Hp} {s : Shared} {Q : VK} {k k' : Bool} (I : Inv X pins σ H s) (q : Q (.bl k) H) (e : k = k') : EP X pins σ Q (.bool k') s := by
  subst e
  exact ⟨.bl k, H, I, rfl, q⟩
theorem op_eq : OpR X (compareOp .Eq) rEq := by
  intro pins s σ H x y v u Q I rx ry h
  obtain ⟨hs, q⟩ := h
  cases x with
  | non =>
    cases rx
    cases y with
    | non => cases ry; exact PySem.EqNone.eq_none_none (fin_bl I q (by simp))
    | bl j => cases ry; exact PySem.EqNone.eq_none_bool (fin_bl I q (by simp))
    | int j => obtain ⟨t', rfl⟩ := ry; exact PySem.EqNone.eq_none_int (fin_bl I q (by simp))
    | str j => obtain ⟨t', rfl⟩ := ry; exact PySem.EqNone.eq_none_str (fin_bl I q (by simp))
    | _ => exact absurd (show false = true from hs) Bool.false_ne_true
  | bl i =>
    cases rx
    cases y with
    | non => cases ry; exact PySem.EqNone.eq_bool_none (fin_bl I q (by simp))
    | bl j => cases ry; exact eq_bool (fin_bl I q dec_bl)
    | str j => obtain ⟨t', rfl⟩ := ry; exact PySem.EqMixed.eq_bool_str (fin_bl I q (by simp))
    | _ => exact absurd (show false = true from hs) Bool.false_ne_true
  | int i =>
    obtain ⟨t, rfl⟩ := rx
    cases y with
    | non => cases ry; exact PySem.EqNone.eq_int_none (fin_bl I q (by simp))
    | int j => obtain ⟨t', rfl⟩ := ry; exact eq_int (fin_bl I q dec_int)
    | str j => obtain ⟨t', rfl⟩ := ry; exact PySem.EqMixed.eq_int_str (fin_bl I q (by simp))
    | _ => exact absurd (show false = true from hs) Bool.false_ne_true
  | str i =>
    obtain ⟨t, rfl⟩ := rx
    cases y with
    | non => cases ry; exact PySem.EqNone.eq_str_none (fin_bl I q (by simp))
    | bl j => cases ry; exact PySem.EqMixed.eq_str_bool (fin_bl I q (by simp))
    | int j => obtain ⟨t', rfl⟩ := ry; exact PySem.EqMixed.eq_str_int (fin_bl I q (by simp))
    | str j => obtain ⟨t', rfl⟩ := ry; exact eq_str (fin_bl I q dec_str)
    | _ => exact absurd (show false = true from hs) Bool.false_ne_true
  | byt i =>
    obtain ⟨t, rfl⟩ := rx
    cases y with
    | byt j => obtain ⟨t', rfl⟩ := ry; exact PySem.W.eq_bytes (fin_bl I q dec_byt)
    | _ => exact absurd (show false = true from hs) Bool.false_ne_true
  | _ => cases y <;> exact absurd (show false = true from hs) Bool.false_ne_true
theorem op_ne : OpR X (compareOp .NotEq) rNe := by
  intro pins s σ H x y v u Q I rx ry h
  obtain ⟨hs, q⟩ := h
  cases x with
  | non =>
    cases rx
    cases y with
    | non => cases ry; exact PySem.EqNone.ne_none_none (fin_bl I q (by simp))
    | bl j => cases ry; exact PySem.EqNone.ne_none_bool (fin_bl I q (by simp))
    | int j => obtain ⟨t', rfl⟩ := ry; exact PySem.EqNone.ne_none_int (fin_bl I q (by simp))
    | str j => obtain ⟨t', rfl⟩ := ry; exact PySem.EqNone.ne_none_str (fin_bl I q (by simp))
    | _ => exact absurd (show false = true from hs) Bool.false_ne_true
  | bl i =>
    cases rx
    cases y with
    | non => cases ry; exact PySem.EqNone.ne_bool_none (fin_bl I q (by simp))
    | bl j => cases ry; exact ne_bool (fin_bl I q (congrArg not dec_bl))
    | str j => obtain ⟨t', rfl⟩ := ry; exact PySem.EqMixed.ne_bool_str (fin_bl I q (by simp))
    | _ => exact absurd (show false = true from hs) Bool.false_ne_true
  | int i =>
    obtain ⟨t, rfl⟩ := rx
    cases y with
    | non => cases ry; exact PySem.EqNone.ne_int_none (fin_bl I q (by simp))
    | int j => obtain ⟨t', rfl⟩ := ry; exact ne_int (fin_bl I q (congrArg not dec_int))
    | str j => obtain ⟨t', rfl⟩ := ry; exact PySem.EqMixed.ne_int_str (fin_bl I q (by simp))
    | _ => exact absurd (show false = true from hs) Bool.false_ne_true
  | str i =>
    obtain ⟨t, rfl⟩ := rx
    cases y with
    | non => cases ry; exact PySem.EqNone.ne_str_none (fin_bl I q (by simp))
    | bl j => cases ry; exact PySem.EqMixed.ne_str_bool (fin_bl I q (by simp))
    | int j => obtain ⟨t', rfl⟩ := ry; exact PySem.EqMixed.ne_str_int (fin_bl I q (by simp))
    | str j => obtain ⟨t', rfl⟩ := ry; exact ne_str (fin_bl I q (congrArg not dec_str))
    | _ => exact absurd (show false = true from hs) Bool.false_ne_true
  | byt i =>
    obtain ⟨t, rfl⟩ := rx
    cases y with
    | byt j => obtain ⟨t', rfl⟩ := ry; exact PySem.W.ne_bytes (fin_bl I q (congrArg not dec_byt))
    | _ => exact absurd (show false = true from hs) Bool.false_ne_true
  | _ => cases y <;> exact absurd (show false = true from hs) Bool.false_ne_true

theorem op_lt : OpR X (compareOp .Lt) (rI0 fun i j => .bl (decide (i < j))) := opB0 fun _ _ _ _ _ _ _ q => lt_int q
theorem op_le : OpR X (compareOp .LtE) (rI0 fun i j => .bl (decide (i ≤ j))) := opB0 fun _ _ _ _ _ _ _ q => le_int q
theorem op_gt : OpR X (compareOp .Gt) (rI0 fun i j => .bl (decide (j < i))) := opB0 fun _ _ _ _ _ _ _ q => gt_int q
theorem op_ge : OpR X (compareOp .GtE) (rI0 fun i j => .bl (decide (j ≤ i))) := opB0 fun _ _ _ _ _ _ _ q => ge_int q
theorem op_lt_str : OpR X (compareOp .Lt) (fun x y H Q => ∃ i j, x = .str i ∧ y = .str j ∧ Q (.bl (decide (i.cps.toList < j.cps.toList))) H) := by
  intro pins s σ H x y v u Q I rx ry h
  obtain ⟨i, j, rfl, rfl, q⟩ := h
  obtain ⟨t, rfl⟩ := rx
  obtain ⟨t', rfl⟩ := ry
  exact lt_str (fin_bl I q rfl)
/-- the one string within the other -/
theorem op_in_str : OpR X (compareOp .In) (fun x y H Q => ∃ i j, x = .str i ∧ y = .str j ∧ Q (.bl (!(Builtin.Str.occurrences j i 0 j.length 1).isEmpty)) H) := by
  intro pins s σ H x y v u Q I rx ry h
  obtain ⟨i, j, rfl, rfl, q⟩ := h
  obtain ⟨t, rfl⟩ := rx
  obtain ⟨t', rfl⟩ := ry
  exact in_str (fin_bl I q rfl)

/-- is None, is not None: the right side a value none -/
theorem op_isN : OpR X (compareOp .Is) (fun x y H Q => y = .non ∧ Q (.bl (decide (x = .non))) H) := by
  intro pins s σ H x y v u Q I rx ry h
  obtain ⟨rfl, q⟩ := h
  cases ry
  refine is_none_gen (fin_bl I q ?_)
  cases x <;> first
    | (cases rx; rfl)
    | (obtain ⟨t, rfl⟩ := rx; rfl)
theorem op_notN : OpR X (compareOp .IsNot) (fun x y H Q => y = .non ∧ Q (.bl (!decide (x = .non))) H) := by
  intro pins s σ H x y v u Q I rx ry h
  obtain ⟨rfl, q⟩ := h
  cases ry
  refine isnot_none_gen (fin_bl I q ?_)
  cases x <;> first
    | (cases rx; rfl)
    | (obtain ⟨t, rfl⟩ := rx; rfl)

theorem op_notin_str : OpR X (compareOp .NotIn) (fun x y H Q => ∃ i j, x = .str i ∧ y = .str j ∧ Q (.bl (!(!(Builtin.Str.occurrences j i 0 j.length 1).isEmpty))) H) := by
  intro pins s σ H x y v u Q I rx ry h
  obtain ⟨i, j, rfl, rfl, q⟩ := h
  obtain ⟨t, rfl⟩ := rx
  obtain ⟨t', rfl⟩ := ry
  exact notIn_str (fin_bl I q rfl)
/-- is, is not of two objects that are tracked lists or instances -/
def isObj : HO → Bool
  | .lst _ => true
  | .ins _ _ _ => true
  | _ => false
theorem obj_there {pins : List (Addr × Obj)} {s : Shared} {σ : St} {H : Hp} {a : Addr} {o : HO} (I : Inv X pins σ H s) (h : H a = some o) (p : isObj o = true) : ∃ ob, s.heap.get? a = some ob ∧ ob.cls ≠ .type "tuple" := by
  cases o with
  | lst xs =>
    obtain ⟨_, its, n, _, e⟩ : xs.length ≤ sizeLine ∧ ∃ (its : List Value) (n : Nat), Vals xs its ∧ s.heap.get? a = some { cls := .type "list", data := .seq its.toArray n } := I.hok a _ h
    exact ⟨_, e, (by show Value.type "list" ≠ .type "tuple"; decide +kernel)⟩
  | ins C dx fs =>
    have x := I.hok a _ h
    obtain ⟨_, _, _, e, _⟩ := x
    exact ⟨_, e, (by show Value.ref C ≠ .type "tuple"; exact fun z => by cases z)⟩
  | _ => exact absurd (show false = true from p) Bool.false_ne_true
theorem op_is_ref : OpR X (compareOp .Is) (fun x y H Q => ∃ a b oa ob, x = .ref a ∧ y = .ref b ∧ H a = some oa ∧ isObj oa = true ∧ H b = some ob ∧ isObj ob = true ∧ Q (.bl (decide (a = b))) H) := by
  intro pins s σ H x y v u Q I rx ry h
  obtain ⟨a, b, oa, ob, rfl, rfl, ha, pa, hb, pb, q⟩ := h
  cases rx
  cases ry
  obtain ⟨o1, e1, n1⟩ := obj_there I ha pa
  obtain ⟨o2, e2, _⟩ := obj_there I hb pb
  by_cases z : a = b
  · subst z
    exact wpAny_is_ref_self (fin_bl I q (by simp))
  · exact wpAny_is_ref_other z e1 e2 n1 (fin_bl I q (by simp [z]))
theorem op_isnot_ref : OpR X (compareOp .IsNot) (fun x y H Q => ∃ a b oa ob, x = .ref a ∧ y = .ref b ∧ H a = some oa ∧ isObj oa = true ∧ H b = some ob ∧ isObj ob = true ∧ Q (.bl (!decide (a = b))) H) := by
  intro pins s σ H x y v u Q I rx ry h
  obtain ⟨a, b, oa, ob, rfl, rfl, ha, pa, hb, pb, q⟩ := h
  cases rx
  cases ry
  obtain ⟨o1, e1, n1⟩ := obj_there I ha pa
  obtain ⟨o2, e2, _⟩ := obj_there I hb pb
  by_cases z : a = b
  · subst z
    exact wpAny_isNot_ref_self (fin_bl I q (by simp))
  · exact wpAny_isNot_ref_other z e1 e2 n1 (fin_bl I q (by simp [z]))

/-- two rules for one operation: by cases -/
theorem OpR.or {f : Value → Value → Sem Value} {r r' : R2} (h : OpR X f r) (h' : OpR X f r') : OpR X f (fun x y H Q => r x y H Q ∨ r' x y H Q) := by
  intro pins s σ H x y v u Q I rx ry q
  rcases q with q | q
  · exact h pins s σ H x y v u Q I rx ry q
  · exact h' pins s σ H x y v u Q I rx ry q

theorem nomark (b : Expr) {op : CmpOp} (h : op ≠ .In := by decide) (h2 : op ≠ .NotIn := by decide) : behindInMarks op b = false := by
  have e1 : (op == CmpOp.In) = false := by cases op <;> first | rfl | exact absurd rfl h
  have e2 : (op == CmpOp.NotIn) = false := by cases op <;> first | rfl | exact absurd rfl h2
  cases b <;> simp [behindInMarks, e1, e2]
/-- a comparison as a value; hm: nomark b, or (for in, not in) by with_unfolding_all rfl -/
theorem pe_cmpR {op : CmpOp} {r : R2} (ho : OpR X (compareOp op) r) (ha : PE X a ta) (hb : PE X b tb) (hm : behindInMarks op b = false) : PE X (.Compare a [op] [b] pos) (tOp r ta tb) := by
  intro pins s σ H Q I h
  exact wpAny_Compare1 (binT ha hb I h fun v u s2 x y H2 I2 rx ry q => ho pins s2 σ H2 x y v u Q I2 rx ry q) hm
/-- a reading of a value as a test -/
def tTest (t : TE) : TT := fun σ H Q => t σ H fun x H' => ∃ k, x = .bl k ∧ Q k H'
theorem pt_cmpR {op : CmpOp} {r : R2} (ho : OpR X (compareOp op) r) (ha : PE X a ta) (hb : PE X b tb) (hm : behindInMarks op b = false) : PT X (.Compare a [op] [b] pos) (tTest (tOp r ta tb)) := by
  intro pins s σ H Q I h
  refine wpAny_isTrue_Compare1 (thn (ha pins s σ H _ I h) fun v s1 ⟨x, H1, I1, r1, q1⟩ => thn (hb pins s1 σ H1 _ I1 q1) fun u s2 ⟨y, H2, I2, r2, q2⟩ =>
    thn (ho pins s2 σ H2 x y v u _ I2 r1 r2 q2) fun c s3 ⟨z, H3, I3, r3, k, e, q3⟩ => ?_) hm
  subst e
  cases r3
  exact wpAny_truthy_bool ⟨H3, I3, q3⟩
/-- a op1 b op2 c -/
def tChain (r r' : R2) (ta tb tc : TE) : TE := fun σ H Q => ta σ H fun x H1 => tb σ H1 fun y H2 => r x y H2 fun z H3 => ∃ k, z = .bl k ∧
  (if k = true then tc σ H3 fun w' H4 => r' y w' H4 Q else Q (.bl false) H3)
theorem pe_chain {op op' : CmpOp} {r r' : R2} (ho : OpR X (compareOp op) r) (ho' : OpR X (compareOp op') r') (ha : PE X a ta) (hb : PE X b tb) (hc : PE X c tc)
    (hm : lastMarks [op, op'] [b, c] = false := by with_unfolding_all rfl) : PE X (.Compare a [op, op'] [b, c] pos) (tChain r r' ta tb tc) := by
  intro pins s σ H Q I h
  refine Compare_chain (thn (ha pins s σ H _ I h) fun v s1 ⟨x, H1, I1, r1, q1⟩ => chain_link (thn (hb pins s1 σ H1 _ I1 q1) fun u s2 ⟨y, H2, I2, r2, q2⟩ =>
    thn (ho pins s2 σ H2 x y v u _ I2 r1 r2 q2) fun d s3 ⟨z, H3, I3, r3, k, e, q3⟩ => ?_)) hm
  subst e
  cases r3
  refine wpAny_truthy_bool ?_
  cases k with
  | false => exact ite_ff ⟨.bl false, H3, I3, rfl, q3⟩
  | true => exact ite_tt (chain_last (thn (hc pins s3 σ H3 _ I3 q3) fun w' s4 ⟨z', H4, I4, r4, q4⟩ => ho' pins s4 σ H4 y z' u w' Q I4 r2 r4 q4))
theorem pt_chain {op op' : CmpOp} {r r' : R2} (ho : OpR X (compareOp op) r) (ho' : OpR X (compareOp op') r') (ha : PE X a ta) (hb : PE X b tb) (hc : PE X c tc)
    (hm : lastMarks [op, op'] [b, c] = false := by with_unfolding_all rfl) : PT X (.Compare a [op, op'] [b, c] pos) (tTest (tChain r r' ta tb tc)) := by
  intro pins s σ H Q I h
  refine isTrue_chain (thn (ha pins s σ H _ I h) fun v s1 ⟨x, H1, I1, r1, q1⟩ => test_link (thn (hb pins s1 σ H1 _ I1 q1) fun u s2 ⟨y, H2, I2, r2, q2⟩ =>
    thn (ho pins s2 σ H2 x y v u _ I2 r1 r2 q2) fun d s3 ⟨z, H3, I3, r3, k, e, q3⟩ => ?_)) hm
  subst e
  cases r3
  refine wpAny_truthy_bool ?_
  cases k with
  | false =>
    obtain ⟨k', e', q'⟩ := q3
    cases e'
    exact ite_ff ⟨H3, I3, q'⟩
  | true =>
    refine ite_tt (test_last (thn (hc pins s3 σ H3 _ I3 q3) fun w' s4 ⟨z', H4, I4, r4, q4⟩ => thn (ho' pins s4 σ H4 y z' u w' _ I4 r2 r4 q4) fun d' s5 ⟨z2, H5, I5, r5, k2, e2, q5⟩ => ?_))
    subst e2
    cases r5
    exact wpAny_truthy_bool ⟨H5, I5, q5⟩

/-! ### truth -/
/-- a value's truth by the abstract heap -/
def TruV (K : PySem.W.Frag) (x : V) (H : Hp) (k : Bool) : Prop :=
  match x with
  | .non => k = false
  | .bl b => k = b
  | .int i => k = (i != 0)
  | .str y => y.length ≤ sizeLine ∧ k = ((y.length : Int) != 0)
  | .byt y => y.size ≤ sizeLine ∧ k = ((y.size : Int) != 0)
  | .ref p => (∃ xs, SqL K H p xs ∧ k = !xs.isEmpty) ∨ (∃ xs, SqT K H p xs ∧ k = !xs.isEmpty) ∨ ∃ kvs, H p = some (.dK kvs) ∧ k = !kvs.isEmpty
  | _ => False
theorem isEmpty_kv {κ : Type} {kvs : List (κ × V)} {vs : List (κ × Value)} (r : KV kvs vs) : (!vs.isEmpty) = !kvs.isEmpty := by
  cases r <;> rfl
theorem isEmpty_of {xs : List V} {its : List Value} (r : Vals xs its) : (!its.toArray.isEmpty) = !xs.isEmpty := by
  cases r <;> simp
theorem line63 : (sizeLine : Nat) < 2 ^ 63 := by rw [sizeLine_eq]; decide
theorem tru_ok : TruR X (fun x H Q => ∃ k, TruV X.K x H k ∧ Q k H) := by
  intro pins s σ H x v Q I rx h
  obtain ⟨k, e, q⟩ := h
  have hl := line63
  have hs : sizeLine = 16777216 := sizeLine_eq
  cases x with
  | non =>
    cases rx
    have e' : k = false := e
    subst e'
    exact truthy_none ⟨H, I, q⟩
  | bl b =>
    cases rx
    have e' : k = b := e
    subst e'
    exact wpAny_truthy_bool ⟨H, I, q⟩
  | int i =>
    obtain ⟨t, rfl⟩ := rx
    have e' : k = (i != 0) := e
    subst e'
    exact PySem.P.truthy_int ⟨H, I, q⟩
  | str y =>
    obtain ⟨t, rfl⟩ := rx
    obtain ⟨hy, e'⟩ : y.length ≤ sizeLine ∧ k = ((y.length : Int) != 0) := e
    subst e'
    exact PySem.P.truthy_str (by omega) ⟨H, I.tok _, q⟩
  | byt y =>
    obtain ⟨t, rfl⟩ := rx
    obtain ⟨hy, e'⟩ : y.size ≤ sizeLine ∧ k = ((y.size : Int) != 0) := e
    subst e'
    exact PySem.W.truthy_bytes (by omega) ⟨H, I.tok _, q⟩
  | ref p =>
    cases rx
    have e' : (∃ xs, SqL X.K H p xs ∧ k = !xs.isEmpty) ∨ (∃ xs, SqT X.K H p xs ∧ k = !xs.isEmpty) ∨ ∃ kvs, H p = some (.dK kvs) ∧ k = !kvs.isEmpty := e
    rcases e' with ⟨xs, hx, e'⟩ | ⟨xs, hx, e'⟩ | ⟨kvs, hx, e'⟩
    · subst e'
      obtain ⟨its, r, pl, hz⟩ := I.list hx
      have hlen := r.length
      exact wpAny_truthy_list pl.isList (by simp only [List.size_toArray]; omega) ⟨H, I.tok _, by rw [isEmpty_of r]; exact q⟩
    · subst e'
      obtain ⟨its, r, pl, hz⟩ := I.tuple hx
      have hlen := r.length
      exact truthy_tuple pl (by simp only [List.size_toArray]; omega) ⟨H, I.tok _, by rw [isEmpty_of r]; exact q⟩
    · subst e'
      obtain ⟨hz, hS, vs, r, m⟩ : kvs.length ≤ sizeLine ∧ (p == sysModules) = false ∧ ∃ vs, KV kvs vs ∧ s.heap.DictOf (mixKind X.prog X.w) p vs := I.hok p _ hx
      have hlen : kvs.length = vs.length := Paired.length r
      exact wpAny_truthy_dict hS m (by omega) ⟨H, I.tok _, by rw [isEmpty_kv r]; exact q⟩
  | _ => exact (show False from e).elim
/-- any expression whose test is its value's truth (a name, a call, a subscript, a field ..: he by fun _ => rfl) -/
theorem pt_truth (ha : PE X a ta) (he : ∀ whole, isTrue a X.env whole = (do let v ← whole; standAt a.pos; holding [v] (truthy v))) :
    PT X a (fun σ H Q => ta σ H fun x H' => ∃ k, TruV X.K x H' k ∧ Q k H') := by
  intro pins s σ H Q I h
  exact isTrue_plain (thn (ha pins s σ H _ I h) fun v s1 ⟨x, H1, I1, r1, q1⟩ => tru_ok pins s1 σ H1 x v Q I1 r1 q1) (he _)

/-! ### strs and bytes -/
theorem pe_byt {x : List UInt8} {k : Nat} : PE X (.Constant (.bytes x) k pos) (fun _ H Q => Q (.byt x.toArray) H) := fun _ _ _ H _ I h => PySem.W.Constant_bytes ⟨.byt x.toArray, H, I.tok _, ⟨_, rfl⟩, h⟩
theorem op_add_str : OpR X (binaryOp .Add) (fun x y H Q => ∃ i j, x = .str i ∧ y = .str j ∧ i.length + j.length ≤ sizeLine ∧ Q (.str (i ++ j)) H) := by
  intro pins s σ H x y v u Q I rx ry h
  obtain ⟨i, j, rfl, rfl, hz, q⟩ := h
  obtain ⟨t, rfl⟩ := rx
  obtain ⟨t', rfl⟩ := ry
  exact add_str (fun t' tk => ⟨.str (i ++ j), H, I.tok _, ⟨_, rfl⟩, q⟩) hz
theorem iop_add_str : OpR X (inplaceOp .Add) (fun x y H Q => ∃ i j, x = .str i ∧ y = .str j ∧ i.length + j.length ≤ sizeLine ∧ Q (.str (i ++ j)) H) := by
  intro pins s σ H x y v u Q I rx ry h
  obtain ⟨i, j, rfl, rfl, hz, q⟩ := h
  obtain ⟨t, rfl⟩ := rx
  obtain ⟨t', rfl⟩ := ry
  exact iadd_str (fun t' tk => ⟨.str (i ++ j), H, I.tok _, ⟨_, rfl⟩, q⟩) hz
theorem op_add_byt : OpR X (binaryOp .Add) (fun x y H Q => ∃ i j, x = .byt i ∧ y = .byt j ∧ i.size + j.size ≤ 16777216 ∧ Q (.byt (i ++ j)) H) := by
  intro pins s σ H x y v u Q I rx ry h
  obtain ⟨i, j, rfl, rfl, hz, q⟩ := h
  obtain ⟨t, rfl⟩ := rx
  obtain ⟨t', rfl⟩ := ry
  exact PySem.W.KBy.add_bytes hz (fun t' tk => ⟨.byt (i ++ j), H, I.tok _, ⟨_, rfl⟩, q⟩)

def PlainIxT (b : Expr) : Prop := ∀ o i, subscripted b false o i = operate [o, i] (getItem o i)
/-- s[i], 0 ≤ i < len -/
theorem pe_item_str (ha : PE X a ta) (hb : PE X b tb) (hs : PlainIxT b) :
    PE X (.Subscript a b pos) (tOp (fun x y H Q => ∃ z i c, x = .str z ∧ y = .int i ∧ 0 ≤ i ∧ i < 2 ^ 63 ∧ i < z.length ∧ z.cps[i.toNat]? = some c ∧ Q (.str ⟨#[c]⟩) H) ta tb) := by
  intro pins s σ H Q I h
  refine Subscript_ (binT ha hb I h fun v u s2 x y H2 I2 rx ry q => ?_)
  obtain ⟨z, i, c, rfl, rfl, h0, h63, h1, hc, q⟩ := q
  obtain ⟨t, rfl⟩ := rx
  obtain ⟨t', rfl⟩ := ry
  have e : seqIndex? i z.length = some i.toNat := PySem.StrLaws.seqIndex_nonneg h0 h1
  exact tail_any (typeIs_str s2 z t) slot_str_getitem.lookup (getItem_str (c := c) (by
    have e1 : decide (i < -(2 ^ 63 : Int)) = false := decide_eq_false (by omega)
    have e2 : decide (i ≥ 2 ^ 63) = false := decide_eq_false (by omega)
    rw [e1, e2] <;> rfl) (by rw [e]; exact hc) ⟨.str ⟨#[c]⟩, H2, I2.tok _, ⟨_, rfl⟩, q⟩) (hs _ _)
/-- b[i], 0 ≤ i < len -/
theorem pe_item_byt (ha : PE X a ta) (hb : PE X b tb) (hs : PlainIxT b) :
    PE X (.Subscript a b pos) (tOp (fun x y H Q => ∃ (z : List UInt8) (i : Int), x = .byt z.toArray ∧ y = .int i ∧ z.length ≤ sizeLine ∧ 0 ≤ i ∧ i < z.length ∧ Q (.int ((z.getD i.toNat 0).toNat : Nat)) H) ta tb) := by
  intro pins s σ H Q I h
  refine Subscript_ (binT ha hb I h fun v u s2 x y H2 I2 rx ry q => ?_)
  obtain ⟨z, i, rfl, rfl, hz, h0, h1, q⟩ := q
  obtain ⟨t, rfl⟩ := rx
  obtain ⟨t', rfl⟩ := ry
  have hl : sizeLine = 16777216 := sizeLine_eq
  exact tail_any (PySem.W.typeIs_bytes s2 z.toArray t) PySem.W.FB.slot_bytes_getitem.lookup (PySem.W.getItem_bytes (by omega) h0 h1 ⟨.int ((z.getD i.toNat 0).toNat : Nat), H2, I2.tok _, ⟨_, rfl⟩, q⟩) (hs _ _)

/-! ### scalar builtins, by CallR -/
theorem vals1 {x : V} {us : List Value} (r : Vals [x] us) : ∃ u, us = [u] ∧ RelV x u := by
  cases r with
  | cons r1 r2 => cases r2; exact ⟨_, rfl, r1⟩
theorem vals2 {x y : V} {us : List Value} (r : Vals [x, y] us) : ∃ u w', us = [u, w'] ∧ RelV x u ∧ RelV y w' := by
  cases r with
  | cons r1 r2 =>
    cases r2 with
    | cons r3 r4 => cases r4; exact ⟨_, _, rfl, r1, r3⟩
theorem call_abs : CallR X (.builtin "abs") (fun xs H Q => ∃ i, xs = [.int i] ∧ Q (.int (if i < 0 then -i else i)) H) := by
  intro pins s σ H xs us Q I r h
  obtain ⟨i, rfl, q⟩ := h
  obtain ⟨u, rfl, t, rfl⟩ := vals1 r
  exact call_abs_int fun u tk => ⟨.int (if i < 0 then -i else i), H, I.tok _, ⟨_, rfl⟩, q⟩
theorem call_max2 (hc : X.calm = true) : CallR X (.builtin "max") (fun xs H Q => ∃ i j, xs = [.int i, .int j] ∧ Q (.int (if j > i then j else i)) H) := by
  intro pins s σ H xs us Q I r h
  obtain ⟨i, j, rfl, q⟩ := h
  obtain ⟨u, w', rfl, ⟨t, rfl⟩, ⟨t', rfl⟩⟩ := vals2 r
  refine max_two_ints (I.ok.hd hc) fun h' tk k => ⟨_, H, I.kept k, ?_, q⟩
  by_cases hj : j > i
  · rw [if_pos hj, if_pos hj]; exact ⟨_, rfl⟩
  · rw [if_neg hj, if_neg hj]; exact ⟨_, rfl⟩
theorem call_min2 (hc : X.calm = true) : CallR X (.builtin "min") (fun xs H Q => ∃ i j, xs = [.int i, .int j] ∧ Q (.int (if j < i then j else i)) H) := by
  intro pins s σ H xs us Q I r h
  obtain ⟨i, j, rfl, q⟩ := h
  obtain ⟨u, w', rfl, ⟨t, rfl⟩, ⟨t', rfl⟩⟩ := vals2 r
  refine min_two_ints (I.ok.hd hc) fun h' tk k => ⟨_, H, I.kept k, ?_, q⟩
  by_cases hj : j < i
  · rw [if_pos hj, if_pos hj]; exact ⟨_, rfl⟩
  · rw [if_neg hj, if_neg hj]; exact ⟨_, rfl⟩
theorem call_int1 : CallR X (.type "int") (fun xs H Q => (∃ i, xs = [.int i] ∧ Q (.int i) H) ∨ ∃ k, xs = [.bl k] ∧ Q (.int (if k then 1 else 0)) H) := by
  intro pins s σ H xs us Q I r h
  rcases h with ⟨i, rfl, q⟩ | ⟨k, rfl, q⟩
  · obtain ⟨u, rfl, t, rfl⟩ := vals1 r
    exact call_int_int ⟨.int i, H, I, ⟨_, rfl⟩, q⟩
  · obtain ⟨u, rfl, r1⟩ := vals1 r
    cases r1
    exact call_int_bool ⟨.int (if k then 1 else 0), H, I.tok _, ⟨_, rfl⟩, q⟩
theorem call_bool1 : CallR X (.type "bool") (fun xs H Q => (∃ i, xs = [.int i] ∧ Q (.bl (i != 0)) H) ∨ ∃ k, xs = [.bl k] ∧ Q (.bl k) H) := by
  intro pins s σ H xs us Q I r h
  rcases h with ⟨i, rfl, q⟩ | ⟨k, rfl, q⟩
  · obtain ⟨u, rfl, t, rfl⟩ := vals1 r
    exact call_bool_int ⟨.bl (i != 0), H, I, rfl, q⟩
  · obtain ⟨u, rfl, r1⟩ := vals1 r
    cases r1
    exact call_bool_bool ⟨.bl k, H, I, rfl, q⟩
theorem call_str_int : CallR X (.type "str") (fun xs H Q => ∃ i, xs = [.int i] ∧ i.natAbs.log2 < 1920 ∧ Q (.str (toString i)) H) := by
  intro pins s σ H xs us Q I r h
  obtain ⟨i, rfl, hz, q⟩ := h
  obtain ⟨u, rfl, t, rfl⟩ := vals1 r
  exact PySem.P.str_of_int hz ⟨.str _, H, I.tok _, ⟨_, rfl⟩, q⟩
theorem call_ord : CallR X (.builtin "ord") (fun xs H Q => ∃ x, xs = [.str x] ∧ x.length = 1 ∧ Q (.int (x.cps.getD 0 0 : Nat)) H) := by
  intro pins s σ H xs us Q I r h
  obtain ⟨x, rfl, hz, q⟩ := h
  obtain ⟨u, rfl, t, rfl⟩ := vals1 r
  exact ord_of_one hz ⟨.int _, H, I.tok _, ⟨_, rfl⟩, q⟩
theorem call_chr : CallR X (.builtin "chr") (fun xs H Q => ∃ i, xs = [.int i] ∧ 0 ≤ i ∧ i ≤ 1114111 ∧ Q (.str ⟨#[i.toNat]⟩) H) := by
  intro pins s σ H xs us Q I r h
  obtain ⟨i, rfl, h0, h1, q⟩ := h
  obtain ⟨u, rfl, t, rfl⟩ := vals1 r
  exact chr_of_range h0 h1 ⟨.str _, H, I.tok _, ⟨_, rfl⟩, q⟩
/-- len of a str, a bytes, a list, a tuple -/
def LenV (K : PySem.W.Frag) (x : V) (H : Hp) (n : Nat) : Prop :=
  match x with
  | .str y => y.length ≤ sizeLine ∧ n = y.length
  | .byt y => y.size ≤ sizeLine ∧ n = y.size
  | .ref p => (∃ xs, SqL K H p xs ∧ n = xs.length) ∨ ∃ xs, SqT K H p xs ∧ n = xs.length
  | _ => False
theorem call_len : CallR X (.builtin "len") (fun xs H Q => ∃ x n, xs = [x] ∧ LenV X.K x H n ∧ Q (.int n) H) := by
  intro pins s σ H xs us Q I r h
  obtain ⟨x, n, rfl, e, q⟩ := h
  obtain ⟨u, rfl, rx⟩ := vals1 r
  have hl := line63
  have hs : sizeLine = 16777216 := sizeLine_eq
  cases x with
  | str y =>
    obtain ⟨t, rfl⟩ := rx
    obtain ⟨hy, e'⟩ : y.length ≤ sizeLine ∧ n = y.length := e
    subst e'
    exact len_str (by omega) ⟨.int _, H, I.tok _, ⟨_, rfl⟩, q⟩
  | byt y =>
    obtain ⟨t, rfl⟩ := rx
    obtain ⟨hy, e'⟩ : y.size ≤ sizeLine ∧ n = y.size := e
    subst e'
    exact PySem.W.len_bytes (by omega) ⟨.int _, H, I.tok _, ⟨_, rfl⟩, q⟩
  | ref p =>
    cases rx
    have e' : (∃ xs, SqL X.K H p xs ∧ n = xs.length) ∨ ∃ xs, SqT X.K H p xs ∧ n = xs.length := e
    rcases e' with ⟨xs, hx, e'⟩ | ⟨xs, hx, e'⟩
    · subst e'
      obtain ⟨its, r', pl, hz⟩ := I.list hx
      have hlen := r'.length
      exact Calls.call_len_list pl.isList (by simp only [List.size_toArray]; omega) ⟨.int xs.length, H, I.tok _, ⟨_, by simp only [List.size_toArray]; rw [hlen]⟩, q⟩
    · subst e'
      obtain ⟨its, r', pl, hz⟩ := I.tuple hx
      have hlen := r'.length
      exact len_tuple pl (by simp only [List.size_toArray]; omega) ⟨.int xs.length, H, I.tok _, ⟨_, by simp only [List.size_toArray]; rw [hlen]⟩, q⟩
  | _ => exact (show False from e).elim
/-- divmod: a new tuple -/
theorem call_divmod : CallR X (.builtin "divmod") (fun xs H Q => ∃ i j, xs = [.int i, .int j] ∧ CDiv i j ∧ ∀ p, H p = none → Q (.ref p) (upd H p (.tup [.int (i / j), .int (i % j)]))) := by
  intro pins s σ H xs us Q I r h
  obtain ⟨i, j, rfl, ⟨h1, h2⟩, q⟩ := h
  obtain ⟨u, w', rfl, ⟨t, rfl⟩, ⟨t', rfl⟩⟩ := vals2 r
  refine divmod_int (by omega) ?_ (.inl (PyProof.noPylong_small (by omega)))
  rw [Int.fdiv_eq_ediv_of_nonneg i (by omega), Int.fmod_eq_emod_of_nonneg i (by omega)]
  have hn : H s.heap.objs.size = none := I.hok.fresh (Nat.le_refl _)
  refine ⟨.ref s.heap.objs.size, _, ?_, rfl, q _ hn⟩
  refine I.laid (fun b o e => Heap.get?_push_of_some _ e) (Nat.le_refl _) ⟨by simp only [List.length_cons, List.length_nil]; rw [sizeLine_eq]; decide, [.int (i / j) s.toks, .int (i % j) (s.toks + 1)], .cons ⟨_, rfl⟩ (.cons ⟨_, rfl⟩ .nil), ?_⟩
  exact ⟨_, Heap.get?_push_size s.heap rfl, rfl, 0, rfl⟩
end
end L2

namespace L2
open PySem PySem.Spec PyProof.Rows

/-! ### an instance, its attributes a map -/
structure ObjM (h : Heap) (x dx C : Addr) (mA : Str → Option Value) : Prop where
  obj : h.get? x = some (PySem.W.instObj C dx)
  ns : h.Ns1 dx mA
  ne : dx ≠ x

theorem lookIn_ns {h : Heap} {dx : Addr} {mA : Str → Option Value} (n : h.Ns1 dx mA) : ∃ od, h.get? dx = some od ∧ ∀ name, PySem.W.lookIn name od = some (mA name) := by
  obtain ⟨o, es, ep, ho, hd, hk, _, hm⟩ := n
  refine ⟨o, ho, fun name => ?_⟩
  have e := hm name
  unfold nsFind findBy at e
  rw [← Array.find?_toList] at e
  unfold PySem.W.lookIn
  rw [hd]
  dsimp only
  split
  · rename_i y q
    rw [q] at e
    exact congrArg some e
  · rename_i q
    rw [q] at e
    have a : es.toList.any (·.refKey) = false := by
      rw [List.any_eq_false]
      intro y hy
      obtain ⟨z, t, hkey⟩ := hk y (Array.mem_toList_iff.mp hy)
      simp [DictEntry.refKey, hkey]
    have a' : ¬ es.toList.any (·.refKey) = true := by rw [a]; exact Bool.false_ne_true
    rw [if_neg a']
    exact congrArg some e

theorem ObjM.look {h : Heap} {x dx C : Addr} {mA : Str → Option Value} (I : ObjM h x dx C mA) : ∃ od, PySem.W.InstAt h x (PySem.W.instObj C dx) C (some od) ∧ ∀ name, PySem.W.lookIn name od = some (mA name) :=
  let ⟨od, ho, hl⟩ := lookIn_ns I.ns
  ⟨od, ⟨I.obj, rfl, rfl, ho⟩, hl⟩

section
variable {prog : Program} {w : World} {A : Around} {E : Value → Shared → Prop} {s : Shared} {K : PySem.W.Frag} {x dx C f : Addr} {mA : Str → Option Value} {name : Str} {v : Value}

theorem get_map {expr : Bool} {Q : Value → Shared → Prop} (X : K.In s.heap) (I : ObjM s.heap x dx C mA) (hg : PySem.W.plainGet K C name = true) (hh : PySem.W.hasDictIn K C = true)
    (ha : PySem.W.findIn K (.ref C) name = some none) (hv : mA name = some v) (hv' : PySem.W.handedIn v = true) (h : Q v { s with toks := s.toks + 1 }) :
    wpAny (model prog w) A (getAttr (.ref x) name expr) Q E s := by
  obtain ⟨od, J, hl⟩ := I.look
  exact PySem.W.get_value X J (PySem.W.plainGet_of hg).1 (PySem.W.findObj_own hh ha rfl (by rw [hl, hv])) hv' h

theorem get_const {expr : Bool} {a : Value} {Q : Value → Shared → Prop} (X : K.In s.heap) (I : ObjM s.heap x dx C mA) (hg : PySem.W.plainGet K C name = true) (hh : PySem.W.hasDictIn K C = true)
    (ha : PySem.W.findIn K (.ref C) name = some (some a)) (hn : PySem.W.specialIn K a "__get__" = some none) (hc : PySem.W.copiedNames.contains name = false) (hv : mA name = none) (hv' : PySem.W.handedIn a = true)
    (h : Q a { s with toks := s.toks + 1 }) : wpAny (model prog w) A (getAttr (.ref x) name expr) Q E s := by
  obtain ⟨od, J, hl⟩ := I.look
  exact PySem.W.get_value X J (PySem.W.plainGet_of hg).1 (PySem.W.findObj_cls hh ha hn hv' hc (by rw [hl, hv])) hv' h

theorem get_meth {pl : Sem Bool} {Q : Value × List Value → Shared → Prop} (X : K.In s.heap) (I : ObjM s.heap x dx C mA) (hg : PySem.W.plainGet K C name = true)
    (hf : PySem.W.findIn K (.ref C) name = some (some (.ref f))) (ht : PySem.W.isFn K (.ref f) = true) (hv : mA name = none) (h : Q (.ref f, [.ref x]) s) :
    wpAny (model prog w) A (getMethod (.ref x) name pl) Q E s := by
  obtain ⟨od, J, hl⟩ := I.look
  exact PySem.W.method_fn X J (PySem.W.plainGet_of hg).1 (PySem.W.plainGet_of hg).2 hf (beq_iff_eq.mp ht) (by show (PySem.W.lookIn name od).map (·.isSome) = some false; rw [hl, hv]; rfl) h

theorem set_map {ns : List Str} {Q : Unit → Shared → Prop} (X : K.In s.heap) (I : ObjM s.heap x dx C mA)
    (hs : PySem.W.findIn K (.ref C) "__setattr__" = some (some (.builtin "object.__setattr__"))) (hp : PySem.W.plainOver K C = true) (ht : PySem.W.takerIn K C name = some none) (hh : PySem.W.hasDictIn K C = true)
    (hw : PySem.Within mA ns) (hsz : ns.length ≤ sizeLine)
    (h : ∀ h', ObjM h' x dx C (fun y => if y = name then some v else mA y) → Heap.SameBut dx s.heap h' → Q () { s with heap := h', toks := s.toks + 2 }) :
    wpAny (model prog w) A (setAttr (.ref x) name v) Q E s := by
  obtain ⟨od, J, hl⟩ := I.look
  refine PySem.W.set_plain X J hs (PySem.W.osa_open (s := { s with toks := s.toks + 1 }) (r := none) X J hp ht fun b => ?_)
  obtain ⟨cd, hc, hd'⟩ := PySem.W.any_some hh
  have hx : s.heap.get? x = some ⟨.ref C, some dx, .plain, #[]⟩ := I.obj
  refine wpAny_bind (wpAny_pure (wpAny_bind (wpAny_bind (wpAny_loadPart hx (wpAny_bind (PySem.W.Looks.here (s := { s with toks := s.toks + 1 }) (PySem.W.looks_clsIn X hc) ?_))))))
  rw [hd']
  refine wpAny_pure (a := some dx) (wpAny_bind (wpAny_pure (wpAny_bind ?_)))
  refine wpAny_nsSet1 (s := { s with toks := s.toks + 1 }) I.ns fun h' hn2 hs2 => ?_
  obtain ⟨oD, esD, epD, hoD, hdD, hcD⟩ := hn2.count (PySem.Within.cons name v hw)
  refine wpAny_bind (wpAny_lookBehind hoD (by rw [hdD]; exact pastItsLine_dict (Nat.le_trans hcD (by rw [List.length_cons]; omega))) ?_)
  exact wpAny_pure (h _ ⟨(hs2.2 _ (Ne.symm I.ne)).trans I.obj, hn2, I.ne⟩ hs2)

/-- C(..): the dict at the heap's end, the instance behind it; then its __init__ -/
theorem make_map {R : Result → Shared → Prop} {vs : List Value} {kw : List (Str × Value)} (X : K.In s.heap) (hm : PySem.W.makesIn K C = true)
    (hi : PySem.W.findIn K (.ref C) "__init__" = some (some (.ref f))) (hf : PySem.W.typeIn K (.ref f) = some (.type "function"))
    (h : codeAny (model prog w) (A.under (.builtin "type.__call__" ⟨.ref C :: vs, kw⟩)) (.call (.ref f) ⟨.ref (s.heap.objs.size + 1) :: vs, kw⟩) (PySem.W.InitBack (s.heap.objs.size + 1) R)
      { s with heap := (s.heap.push PySem.W.emptyDict).push (PySem.W.instObj C s.heap.objs.size) }) :
    codeAny (model prog w) A (.call (.ref C) ⟨vs, kw⟩) R s := by
  obtain ⟨hh, g, d, t, os⟩ := s
  exact PySem.W.make_core (PySem.W.makes_of X hm) (PySem.W.looks_findIn X hi) (fun self => PySem.W.bind_fn X self hf) (.inl rfl) h
/-- C() where there is no __init__ but object's -/
theorem make_map0 {R : Result → Shared → Prop} (X : K.In s.heap) (hm : PySem.W.makesIn K C = true)
    (hi : PySem.W.findIn K (.ref C) "__init__" = some (some (.builtin "object.__init__")))
    (hb : ∀ self, PySem.W.Looks (model prog w) s.heap (bindSpecial (.builtin "object.__init__") self) (.builtin "object.__init__", [self]))
    (h : codeAny (model prog w) (A.under (.builtin "type.__call__" ⟨[.ref C], []⟩)) (.call (.builtin "object.__init__") ⟨[.ref (s.heap.objs.size + 1)], []⟩) (PySem.W.InitBack (s.heap.objs.size + 1) R)
      { s with heap := (s.heap.push PySem.W.emptyDict).push (PySem.W.instObj C s.heap.objs.size) }) :
    codeAny (model prog w) A (.call (.ref C) ⟨[], []⟩) R s := by
  obtain ⟨hh, g, d, t, os⟩ := s
  exact PySem.W.make_core (PySem.W.makes_of X hm) (PySem.W.looks_findIn X hi) hb (.inr ⟨rfl, rfl⟩) h
end

/-! ### the attributes as a list of pairs -/
def putF (f : Str) (v : V) : List (Str × V) → List (Str × V)
  | [] => [(f, v)]
  | (g, x) :: r => if g = f then (g, v) :: r else (g, x) :: putF f v r
theorem lookup_putF (f g : Str) (v : V) : ∀ fs : List (Str × V), (putF f v fs).lookup g = if g = f then some v else fs.lookup g
  | [] => by
    show List.lookup g [(f, v)] = _
    by_cases h : g = f
    · have hb : (g == f) = true := beq_iff_eq.mpr h
      simp only [List.lookup, hb, if_pos h]
    · have hb : (g == f) = false := beq_eq_false_iff_ne.mpr h
      simp only [List.lookup, hb, if_neg h]
  | (k, x) :: r => by
    have ih := lookup_putF f g v r
    rw [show putF f v ((k, x) :: r) = (if k = f then (k, v) :: r else (k, x) :: putF f v r) from rfl]
    by_cases hk : k = f
    · rw [if_pos hk]
      by_cases h : g = k
      · have hb : (g == k) = true := beq_iff_eq.mpr h
        simp only [List.lookup, hb, if_pos (h.trans hk)]
      · have hb : (g == k) = false := beq_eq_false_iff_ne.mpr h
        simp only [List.lookup, hb, if_neg (fun e : g = f => h (e.trans hk.symm))]
    · rw [if_neg hk]
      by_cases h : g = k
      · have hb : (g == k) = true := beq_iff_eq.mpr h
        simp only [List.lookup, hb, if_neg (fun e : g = f => hk (h.symm.trans e))]
      · have hb : (g == k) = false := beq_eq_false_iff_ne.mpr h
        simp only [List.lookup, hb]
        exact ih
theorem keys_putF (f : Str) (v : V) : ∀ fs : List (Str × V), f ∈ (putF f v fs).map (·.1) ∧ ∀ g, g ∈ fs.map (·.1) → g ∈ (putF f v fs).map (·.1)
  | [] => ⟨by simp [putF], fun g h => by simp at h⟩
  | (k, x) :: r => by
    obtain ⟨i1, i2⟩ := keys_putF f v r
    rw [show putF f v ((k, x) :: r) = (if k = f then (k, v) :: r else (k, x) :: putF f v r) from rfl]
    by_cases hk : k = f
    · rw [if_pos hk]
      subst hk
      exact ⟨by simp, fun g h => by simpa using h⟩
    · rw [if_neg hk]
      refine ⟨?_, fun g h => ?_⟩
      · rw [List.map_cons]
        exact List.mem_cons_of_mem _ i1
      · rw [List.map_cons] at h ⊢
        rcases List.mem_cons.mp h with e | e
        · exact List.mem_cons.mpr (.inl e)
        · exact List.mem_cons_of_mem _ (i2 g e)
theorem length_putF (f : Str) (v : V) : ∀ fs : List (Str × V), (putF f v fs).length ≤ fs.length + 1
  | [] => by simp [putF]
  | (k, x) :: r => by
    have ih := length_putF f v r
    rw [show putF f v ((k, x) :: r) = (if k = f then (k, v) :: r else (k, x) :: putF f v r) from rfl]
    by_cases hk : k = f
    · rw [if_pos hk, List.length_cons, List.length_cons]; omega
    · rw [if_neg hk, List.length_cons, List.length_cons]; omega

theorem RelO.some_of {v : V} {o : Option Value} (r : RelO (some v) o) : ∃ u, o = some u ∧ RelV v u := by
  cases o with
  | none => exact (show False from r).elim
  | some u => exact ⟨u, rfl, r⟩
theorem RelO.none_of {o : Option Value} (r : RelO none o) : o = none := by
  cases o with
  | none => rfl
  | some u => exact (show False from r).elim
theorem handed_of {v : V} {u : Value} (r : RelV v u) : PySem.W.handedIn u = true := by
  cases v with
  | non => cases (show u = Value.none from r); rfl
  | bl b => cases (show u = Value.bool b from r); rfl
  | int i => obtain ⟨t, e⟩ := (show ∃ t, u = Value.int i t from r); cases e; rfl
  | str x => obtain ⟨t, e⟩ := (show ∃ t, u = Value.str x t from r); cases e; rfl
  | byt b => obtain ⟨t, e⟩ := (show ∃ t, u = Value.bytes b t from r); cases e; rfl
  | flt b => obtain ⟨t, e⟩ := (show ∃ t, u = Value.float b t from r); cases e; rfl
  | ref a => cases (show u = Value.ref a from r); rfl
  | ty n => cases (show u = Value.type n from r); rfl

section
variable {P : Program} {w : World} {H H' : Hp} {h h' : Heap} {a C dx : Addr} {fs fs' : List (Str × V)}
theorem ins_get (hok : HOk P w H h) (e : H a = some (.ins C dx fs)) : ∃ mA, ObjM h a dx C mA ∧ (∀ f, RelO (fs.lookup f) (mA f)) ∧ PySem.Within mA (fs.map (·.1)) ∧ fs.length ≤ 1000 ∧ H dx = some (.own a) := by
  obtain ⟨d, z, ne, ob, mA, n, r, q⟩ := (show ObjOk P w H h a (.ins C dx fs) from hok a _ e)
  exact ⟨mA, ⟨ob, n, ne⟩, r, q, z, d⟩
end

/-! ### what of the text a class must have -/
structure Cls (K : PySem.W.Frag) (C : Addr) : Prop where
  pg : PySem.W.plainGet K C Str.empty = true
  hd : PySem.W.hasDictIn K C = true
  po : PySem.W.plainOver K C = true
  sa : PySem.W.findIn K (.ref C) "__setattr__" = some (some (.builtin "object.__setattr__"))
theorem Cls.get {K : PySem.W.Frag} {C : Addr} (c : Cls K C) (f : Str) : PySem.W.plainGet K C f = true := c.pg
/-- no class of it has the name -/
def NoAttr (K : PySem.W.Frag) (C : Addr) (f : Str) : Prop := PySem.W.findIn K (.ref C) f = some none
theorem NoAttr.taker {K : PySem.W.Frag} {C : Addr} {f : Str} (n : NoAttr K C f) : PySem.W.takerIn K C f = some none := by
  unfold PySem.W.takerIn
  rw [show PySem.W.findIn K (.ref C) f = some none from n]
  rfl
/-- a constant of the class -/
structure Con (K : PySem.W.Frag) (C : Addr) (f : Str) (v : V) (u : Value) : Prop where
  at_ : PySem.W.findIn K (.ref C) f = some (some u)
  rel : RelV v u
  get : PySem.W.specialIn K u "__get__" = some none
  cp : PySem.W.copiedNames.contains f = false
/-- a method: a plain def of the class or of one above it -/
structure Meth (K : PySem.W.Frag) (C : Addr) (m : Str) (f : Addr) : Prop where
  at_ : PySem.W.findIn K (.ref C) m = some (some (.ref f))
  fn : PySem.W.isFn K (.ref f) = true
  kp : PySem.W.keepIn K (.ref f) = true

section
variable {X : Cx} {pins : List (Addr × Obj)} {σ : St} {H : Hp} {s : Shared} {a C dx : Addr} {fs : List (Str × V)} {f : Str} {v : V} {A : Around} {E : Value → Shared → Prop}

theorem getattr_ok {b : Bool} {Q : Value → Shared → Prop} (I : Inv X pins σ H s) (e : H a = some (.ins C dx fs)) (c : Cls X.K C) (n : NoAttr X.K C f) (l : fs.lookup f = some v)
    (h : ∀ u s', Inv X pins σ H s' → RelV v u → Q u s') : wpAny (model X.prog X.w) A (getAttr (.ref a) f b) Q E s := by
  obtain ⟨mA, O, r, _, _, _⟩ := ins_get I.hok e
  obtain ⟨u, hu, ru⟩ := RelO.some_of (v := v) (o := mA f) (by rw [← l]; exact r f)
  exact get_map I.kIn O (c.get f) c.hd n hu (handed_of ru) (h u _ (I.tok _) ru)

theorem getcon_ok {b : Bool} {u : Value} {Q : Value → Shared → Prop} (I : Inv X pins σ H s) (e : H a = some (.ins C dx fs)) (c : Cls X.K C) (k : Con X.K C f v u) (l : fs.lookup f = none)
    (h : ∀ s', Inv X pins σ H s' → Q u s') : wpAny (model X.prog X.w) A (getAttr (.ref a) f b) Q E s := by
  obtain ⟨mA, O, r, _, _, _⟩ := ins_get I.hok e
  have hn : mA f = none := RelO.none_of (by rw [← l]; exact r f)
  exact get_const I.kIn O (c.get f) c.hd k.at_ k.get k.cp hn (handed_of k.rel) (h _ (I.tok _))

theorem getmeth_ok {m : Str} {g : Addr} {pl : Sem Bool} {Q : Value × List Value → Shared → Prop} (I : Inv X pins σ H s) (e : H a = some (.ins C dx fs)) (c : Cls X.K C) (k : Meth X.K C m g) (l : fs.lookup m = none)
    (h : Q (.ref g, [.ref a]) s) : wpAny (model X.prog X.w) A (getMethod (.ref a) m pl) Q E s := by
  obtain ⟨mA, O, r, _, _, _⟩ := ins_get I.hok e
  have hn : mA m = none := RelO.none_of (by rw [← l]; exact r m)
  exact get_meth I.kIn O (c.get m) k.at_ k.fn hn h

theorem setattr_ok {y : V} {u : Value} {Q : Unit → Shared → Prop} (I : Inv X pins σ H s) (e : H a = some (.ins C dx fs)) (c : Cls X.K C) (n : NoAttr X.K C f) (hl : fs.length < 1000) (ry : RelV y u)
    (h : ∀ s', Inv X pins σ (upd H a (.ins C dx (putF f y fs))) s' → Q () s') : wpAny (model X.prog X.w) A (setAttr (.ref a) f u) Q E s := by
  obtain ⟨mA, O, r, wi, _, ho⟩ := ins_get I.hok e
  have hz : (fs.map (·.1)).length ≤ sizeLine := by rw [List.length_map, sizeLine_eq]; omega
  refine set_map I.kIn O c.sa c.po n.taker c.hd wi hz fun h' O' sb => h _ ?_
  have hd : ∃ o, h'.get? dx = some o := let ⟨o, _, _, e', _⟩ := O'.ns; ⟨o, e'⟩
  refine I.write (x := a) (e := dx) (by rw [e]; exact True.intro) (.inr ho) (fun b q hb z => (sb.2 b hb).trans z) hd ?_
  refine ⟨by rw [upd_ne O.ne]; exact ho, ?_, O.ne, O'.obj, _, O'.ns, fun g => ?_, fun g hg => ?_⟩
  · have := length_putF f y fs; omega
  · show RelO ((putF f y fs).lookup g) (if g = f then some u else mA g)
    rw [lookup_putF]
    by_cases q : g = f
    · rw [if_pos q, if_pos q]; exact ry
    · rw [if_neg q, if_neg q]; exact r g
  · by_cases q : g = f
    · rw [q]; exact (keys_putF f y fs).1
    · refine (keys_putF f y fs).2 g (wi g fun z => hg ?_)
      show (if g = f then some u else mA g) = none
      rw [if_neg q]; exact z

/-- a new instance, tracked, without attributes -/
theorem Inv.made (I : Inv X pins σ H s) : Inv X pins σ (upd (upd H s.heap.objs.size (.own (s.heap.objs.size + 1))) (s.heap.objs.size + 1) (.ins C s.heap.objs.size []))
    { s with heap := (s.heap.push PySem.W.emptyDict).push (PySem.W.instObj C s.heap.objs.size) } := by
  have e1 : (s.heap.push PySem.W.emptyDict).get? s.heap.objs.size = some PySem.W.emptyDict := Heap.get?_push_size s.heap rfl
  have e2 : ((s.heap.push PySem.W.emptyDict).push (PySem.W.instObj C s.heap.objs.size)).get? (s.heap.objs.size + 1) = some (PySem.W.instObj C s.heap.objs.size) := by
    have := Heap.get?_push_size (s.heap.push PySem.W.emptyDict) (o := PySem.W.instObj C s.heap.objs.size) rfl
    rwa [Heap.size_push] at this
  have e3 : (s.heap.push PySem.W.emptyDict).Ns s.heap.objs.size (fun _ => none) := ⟨PySem.W.emptyDict, #[], _, e1, rfl, (fun e he => absurd he (by simp)), fun _ => rfl⟩
  have I1 := I.laid (a := s.heap.objs.size) (o := .own (s.heap.objs.size + 1)) (h' := s.heap.push PySem.W.emptyDict) (t' := s.toks) (fun b u q => Heap.get?_push_of_some _ q) (Nat.le_refl _) ⟨_, e1⟩
  refine I1.laid (a := s.heap.objs.size + 1) (o := .ins C s.heap.objs.size []) (t' := s.toks) (fun b u q => Heap.get?_push_of_some _ q) (Nat.le_of_eq (Heap.size_push _ _)) ?_
  have ne : s.heap.objs.size ≠ s.heap.objs.size + 1 := Nat.ne_of_lt (Nat.lt_succ_self _)
  refine ⟨by rw [upd_ne ne, upd_same], Nat.zero_le _, ne, e2, fun _ => none, (Heap.Ns1.of_empty e3).at fun o q => Heap.get?_push_of_some _ q, fun _ => True.intro, fun y hy => absurd rfl hy⟩

/-- e.f where nothing but the object is asked: through attributeBase (super) and the last hold -/
theorem attr_of {prog : Program} {w : World} {env : Env} {e : Expr} {f : Str} {pos : Pos} {s : Shared} {Q : Value → Shared → Prop} (hb : attributeBase e f env (eval e env) = eval e env)
    (h : wpAny (model prog w) A (eval e env) (fun o s₁ => wpAny (model prog w) A (getAttr o f true) Q E s₁) E s) : wpAny (model prog w) A (eval (.Attribute e f pos) env) Q E s :=
  Attribute_any_ h (by rw [arm_eval_Attribute, hb])
end

/-! ### readings and rules -/
/-- e.f, an attribute of the instance -/
def tFld (K : PySem.W.Frag) (ta : TE) (f : Str) : TE := fun σ H Q => ta σ H fun x H1 => ∃ a C dx fs v, x = .ref a ∧ H1 a = some (.ins C dx fs) ∧ Cls K C ∧ NoAttr K C f ∧ fs.lookup f = some v ∧ Q v H1
/-- e.f, a constant of the class -/
def tCon (K : PySem.W.Frag) (ta : TE) (f : Str) : TE := fun σ H Q => ta σ H fun x H1 => ∃ a C dx fs v u, x = .ref a ∧ H1 a = some (.ins C dx fs) ∧ Cls K C ∧ Con K C f v u ∧ fs.lookup f = none ∧ Q v H1
/-- e.f = value -/
def sFld (K : PySem.W.Frag) (ta tv : TE) (f : Str) : TS := fun D σ H => tv σ H fun y H1 => ta σ H1 fun x H2 => ∃ a C dx fs, x = .ref a ∧ H2 a = some (.ins C dx fs) ∧ Cls K C ∧ NoAttr K C f ∧ fs.length < 1000 ∧
  D.nx σ (upd H2 a (.ins C dx (putF f y fs)))
/-- an augmented operator on two values -/
def InOp (X : Cx) (op : Operator) (rd : V → V → Hp → VK → Prop) : Prop :=
  ∀ (pins : List (Addr × Obj)) (s : Shared) (σ : St) (H : Hp) (x y : V) (u v : Value) (Q : VK), Inv X pins σ H s → RelV x u → RelV y v → rd x y H Q → wpAny (model X.prog X.w) X.A (inplaceOp op u v) (EP X pins σ Q) X.xe s
/-- e.f op= value -/
def sFldAug (K : PySem.W.Frag) (ta tv : TE) (rd : V → V → Hp → VK → Prop) (f : Str) : TS := fun D σ H => ta σ H fun x H1 => ∃ a C dx fs v, x = .ref a ∧ H1 a = some (.ins C dx fs) ∧ Cls K C ∧ NoAttr K C f ∧ fs.lookup f = some v ∧
  tv σ H1 fun y H2 => rd v y H2 fun z H3 => ∃ dx' fs', H3 a = some (.ins C dx' fs') ∧ fs'.length < 1000 ∧ D.nx σ (upd H3 a (.ins C dx' (putF f z fs')))

section
variable {X : Cx} {o e value : Expr} {f : Str} {pos pos' tpos : Pos} {ta tv : TE}
theorem pe_fld (he : PE X e ta) (hb : attributeBase e f X.env (eval e X.env) = eval e X.env) : PE X (.Attribute e f pos) (tFld X.K ta f) := by
  intro pins s σ H Q I h
  refine attr_of hb (thn (he pins s σ H _ I h) fun u s1 ⟨x, H1, I1, rx, a, C, dx, fs, v, ex, ea, c, n, l, q⟩ => ?_)
  subst ex
  obtain rfl : u = Value.ref a := rx
  exact getattr_ok I1 ea c n l fun u' s2 I2 ru => ⟨v, H1, I2, ru, q⟩
theorem pe_con (he : PE X e ta) (hb : attributeBase e f X.env (eval e X.env) = eval e X.env) : PE X (.Attribute e f pos) (tCon X.K ta f) := by
  intro pins s σ H Q I h
  refine attr_of hb (thn (he pins s σ H _ I h) fun u s1 ⟨x, H1, I1, rx, a, C, dx, fs, v, u0, ex, ea, c, k, l, q⟩ => ?_)
  subst ex
  obtain rfl : u = Value.ref a := rx
  exact getcon_ok I1 ea c k l fun s2 I2 => ⟨v, H1, I2, k.rel, q⟩
theorem ps_fld (ha : PE X o ta) (hv : PE X value tv) (hs : swapsWith value (some (.Attribute o f pos')) pos.line X.env = pure false) : PS X (.Assign [.Attribute o f pos'] value pos) (sFld X.K ta tv f) := by
  intro pins s σ H D I h
  refine plainObj_wpAny_Assign_Attribute (thn (hv pins s σ H _ I h) fun u s1 ⟨y, H1, I1, ry, q⟩ => thn (ha pins s1 σ H1 _ I1 q) fun ov s2 ⟨x, H2, I2, rx, a, C, dx, fs, ex, ea, c, n, l, q2⟩ => ?_) hs
  subst ex
  obtain rfl : ov = Value.ref a := rx
  exact setattr_ok I2 ea c n l ry fun s3 I3 => ⟨σ, _, I3, q2⟩
theorem ps_fldaug {op : Operator} {rd : V → V → Hp → VK → Prop} (ha : PE X o ta) (hv : PE X value tv) (hop : InOp X op rd) : PS X (.AugAssign (.Attribute o f tpos) op value pos) (sFldAug X.K ta tv rd f) := by
  intro pins s σ H D I h
  refine wpAny_AugAssign_AttributeAny (thn (ha pins s σ H _ I h) fun ov s1 ⟨x, H1, I1, rx, a, C, dx, fs, v, ex, ea, c, n, l, q⟩ => ?_)
  subst ex
  obtain rfl : ov = Value.ref a := rx
  refine getattr_ok I1 ea c n l fun u s2 I2 ru => thn (hv pins s2 σ H1 _ I2 q) fun w3 s3 ⟨y, H2, I3, ry, q3⟩ => thn (hop pins s3 σ H2 v y u w3 _ I3 ru ry q3) fun w4 s4 ⟨z, H3, I4, rz, dx', fs', ea', l', q4⟩ => ?_
  exact setattr_ok I4 ea' c n l' rz fun s5 I5 => ⟨σ, _, I5, q4⟩
def rAdd : V → V → Hp → VK → Prop := fun x y H Q => ∃ i j, x = .int i ∧ y = .int j ∧ Q (.int (i + j)) H
def rSub : V → V → Hp → VK → Prop := fun x y H Q => ∃ i j, x = .int i ∧ y = .int j ∧ Q (.int (i - j)) H
theorem in_add : InOp X .Add rAdd := by
  rintro pins s σ H x y u v Q I rx ry ⟨i, j, rfl, rfl, q⟩
  obtain ⟨t, rfl⟩ := (show ∃ t, u = Value.int i t from rx)
  obtain ⟨t', rfl⟩ := (show ∃ t', v = Value.int j t' from ry)
  exact PyProof.Rows.iadd_int ⟨.int (i + j), H, I.tok _, ⟨_, rfl⟩, q⟩
theorem in_sub : InOp X .Sub rSub := by
  rintro pins s σ H x y u v Q I rx ry ⟨i, j, rfl, rfl, q⟩
  obtain ⟨t, rfl⟩ := (show ∃ t, u = Value.int i t from rx)
  obtain ⟨t', rfl⟩ := (show ∃ t', v = Value.int j t' from ry)
  exact PyProof.Rows.isub_int ⟨.int (i - j), H, I.tok _, ⟨_, rfl⟩, q⟩

/-- what is between an instance and its method: the tree of a method call -/
theorem methcall_of {pl : Sem Bool} {m : Str} {apos : Pos} {args : List Expr} {pins : List (Addr × Obj)} {s : Shared} {σ : St} {H : Hp} {Q : Value → Shared → Prop} {te : TE} (he : PE X e te) (I : Inv X pins σ H s)
    (h : te σ H fun x H1 => ∃ a C dx fs g, x = .ref a ∧ H1 a = some (.ins C dx fs) ∧ Cls X.K C ∧ Meth X.K C m g ∧ fs.lookup m = none ∧
      ∀ s1, Inv X pins σ H1 s1 → wpAny (model X.prog X.w) X.A (callWith pos (.ref g) [.ref a] (backTo pos (starEach args X.env)) (backToKw pos (keywordEach [] X.env))) Q X.xe s1)
    (ht : eval (.Call (.Attribute e m apos) args [] pos) X.env = (do
      let ov ← eval e X.env
      standAt apos.atName
      let (f, first) ← holding [ov] (getMethod ov m pl)
      callWith pos f first (backTo pos (starEach args X.env)) (backToKw pos (keywordEach [] X.env)))) :
    wpAny (model X.prog X.w) X.A (eval (.Call (.Attribute e m apos) args [] pos) X.env) Q X.xe s := by
  refine PySem.W.methodCall_KW (pl := pl) (thn (he pins s σ H _ I h) fun u s1 ⟨x, H1, I1, rx, a, C, dx, fs, g, ex, ea, c, k, l, q⟩ => ?_) ht
  subst ex
  obtain rfl : u = Value.ref a := rx
  exact getmeth_ok I1 ea c k l (q s1 I1)
end

/-! ### isinstance -/
section
variable {X : Cx} {pins : List (Addr × Obj)} {σ : St} {H : Hp} {s : Shared} {A : Around} {E : Value → Shared → Prop} {Q : Value → Shared → Prop} {c : Value} {b : Bool}
/-- the type of a value, as the fragment's deciders take it; for an instance its class -/
inductive TyOf (K : PySem.W.Frag) (H : Hp) : V → Value → Prop where
  | non : TyOf K H .non (.type "NoneType")
  | bl (x : Bool) : TyOf K H (.bl x) (.type "bool")
  | int (i : Int) : TyOf K H (.int i) (.type "int")
  | str (x : Str) : TyOf K H (.str x) (.type "str")
  | flt (x : UInt64) : TyOf K H (.flt x) (.type "float")
  | lst {a : Addr} {xs : List V} (e : H a = some (.lst xs)) : TyOf K H (.ref a) (.type "list")
  | frz {a : Addr} {o : Obj} {xs : List V} (e : H a = some (.frz o (.lst xs))) : TyOf K H (.ref a) (.type "list")
  | tup {a : Addr} {xs : List V} (e : H a = some (.tup xs)) : TyOf K H (.ref a) (.type "tuple")
  | dK {a : Addr} {kvs : List (Key × V)} (e : H a = some (.dK kvs)) : TyOf K H (.ref a) (.type "dict")
  | dT {a : Addr} {kvs : List (List Key × V)} (e : H a = some (.dT kvs)) : TyOf K H (.ref a) (.type "dict")
  | ins {a C dx : Addr} {fs : List (Str × V)} (e : H a = some (.ins C dx fs)) (cl : Cls K C) (ha : PySem.W.findIn K (.ref C) "__class__" = some (some (.builtin "object.__class__")))
      (hn : PySem.W.specialIn K (.builtin "object.__class__") "__get__" = some (some (.builtin "getset_descriptor.__get__"))) (htk : PySem.W.takesIn K (.builtin "object.__class__") = some true)
      (hm : PySem.W.mroIn K C (.type "object") = some true) : TyOf K H (.ref a) (.ref C)
/-- isinstance(x, c) for one class c, a built-in or an own one: kitOne's answer -/
theorem isinst_ok {x : V} {u t : Value} (I : Inv X pins σ H s) (rx : RelV x u) (ty : TyOf X.K H x t) (e : PySem.W.kitOne X.K t c = some b) (h : ∀ tk, Q (.bool b) { s with toks := tk }) :
    wpAny (model X.prog X.w) A (call (.builtin "isinstance") [u, c]) Q E s := by
  cases ty with
  | non => cases (show u = Value.none from rx); exact PySem.W.kia_one PySem.W.kitx_none I.kIn True.intro e (fun z => nomatch z) h
  | bl y => cases (show u = Value.bool y from rx); exact PySem.W.kia_one PySem.W.kitx_bool I.kIn True.intro e (fun z => nomatch z) h
  | int i => obtain ⟨t, q⟩ := (show ∃ t, u = Value.int i t from rx); cases q; exact PySem.W.kia_one PySem.W.kitx_int I.kIn True.intro e (fun z => nomatch z) h
  | str y => obtain ⟨t, q⟩ := (show ∃ t, u = Value.str y t from rx); cases q; exact PySem.W.kia_one PySem.W.kitx_str I.kIn True.intro e (fun z => nomatch z) h
  | flt y => obtain ⟨t, q⟩ := (show ∃ t, u = Value.float y t from rx); cases q; exact PySem.W.kia_one PySem.W.kitx_float I.kIn True.intro e (fun z => nomatch z) h
  | @lst a xs ea =>
    cases (show u = Value.ref a from rx)
    obtain ⟨_, _, n, _, h1⟩ := (show ObjOk X.prog X.w H s.heap a (.lst xs) from I.hok a _ ea)
    exact PySem.W.kia_one PySem.W.kitx_list I.kIn ⟨_, h1, rfl⟩ e (fun z => nomatch z) h
  | @frz a ob xs ea =>
    cases (show u = Value.ref a from rx)
    obtain ⟨_, _, _, n, _, h1⟩ := (show ObjOk X.prog X.w H s.heap a (.frz ob (.lst xs)) from I.hok a _ ea)
    exact PySem.W.kia_one PySem.W.kitx_list I.kIn ⟨_, h1, rfl⟩ e (fun z => nomatch z) h
  | @tup a xs ea =>
    cases (show u = Value.ref a from rx)
    obtain ⟨_, _, _, p⟩ := (show ObjOk X.prog X.w H s.heap a (.tup xs) from I.hok a _ ea)
    obtain ⟨o, h1, h2, _⟩ := p
    exact PySem.W.kia_one PySem.W.kitx_tuple I.kIn ⟨o, h1, h2⟩ e (fun z => nomatch z) h
  | @dK a kvs ea =>
    cases (show u = Value.ref a from rx)
    obtain ⟨_, _, vs, _, p⟩ := (show ObjOk X.prog X.w H s.heap a (.dK kvs) from I.hok a _ ea)
    obtain ⟨o, es, ep, h1, h2, _⟩ := p
    exact PySem.W.kia_one PySem.W.kitx_dict I.kIn ⟨o, h1, h2.1⟩ e (fun z => nomatch z) h
  | @dT a kvs ea =>
    cases (show u = Value.ref a from rx)
    obtain ⟨_, _, xs, _, o, es, ep, h1, h2, _⟩ := (show ObjOk X.prog X.w H s.heap a (.dT kvs) from I.hok a _ ea)
    exact PySem.W.kia_one PySem.W.kitx_dict I.kIn ⟨o, h1, h2.1⟩ e (fun z => nomatch z) h
  | @ins a C dx fs ea cl ha hn htk hm =>
    cases (show u = Value.ref a from rx)
    obtain ⟨mA, O, _⟩ := ins_get I.hok ea
    obtain ⟨od, J, _⟩ := O.look
    exact PySem.W.kia_one (PySem.W.kitx_own (cl.get _) cl.hd ha hn htk hm) I.kIn J e (fun z => nomatch z) h
end
end L2

namespace L2
open PySem PySem.Spec PyProof.Rows

/-! ### room -/
structure Room (k : Nat) (A : Around) : Prop where
  hd : A.handled = none
  dp : A.depth + 3 * k + 5 < recursionLimit
  un : A.units + 16 * k + 200 < cLine
theorem Room.mono {j k : Nat} {A : Around} (r : Room k A) (h : j ≤ k) : Room j A := ⟨r.hd, by have := r.dp; omega, by have := r.un; omega⟩
theorem Room.deeper {k : Nat} {A : Around} (r : Room (k + 1) A) (env : Env) : Room k (A.deeper env) :=
  ⟨r.hd, by have := r.dp; show A.depth + 1 + 3 * k + 5 < _; omega, by have := r.un; show A.units + 3 + 16 * k + 200 < _; omega⟩
theorem Room.in1 {k : Nat} {A : Around} (r : Room (k + 1) A) : Room k A.in1 :=
  ⟨r.hd, by have := r.dp; show A.depth + 3 * k + 5 < _; omega, by have := r.un; show A.units + 1 + 16 * k + 200 < _; omega⟩
theorem make_depth {A : Around} {C : Addr} {us : List Value} {kw : List (Str × Value)} : (A.under (.builtin "type.__call__" ⟨.ref C :: us, kw⟩)).depth = A.depth + 1 := by
  first | rfl | simp [Around.under, Code.weight, Code.isCreation, Code.isGuard, Code.isCaller, Code.frames, Code.isFrame, guardIds]
theorem make_units {A : Around} {C : Addr} {us : List Value} {kw : List (Str × Value)} : (A.under (.builtin "type.__call__" ⟨.ref C :: us, kw⟩)).units = A.units + 1 := by
  first | rfl | simp [Around.under, Code.cUnits, Code.frames, Code.isFrame]
theorem Room.make {k : Nat} {A : Around} (r : Room (k + 1) A) (C : Addr) (us : List Value) (kw : List (Str × Value)) : Room k (A.under (.builtin "type.__call__" ⟨.ref C :: us, kw⟩)) :=
  ⟨r.hd, by have := r.dp; rw [make_depth]; omega, by have := r.un; rw [make_units]; omega⟩
theorem Room.depth {k : Nat} {A : Around} (r : Room k A) : A.depth < recursionLimit := by have := r.dp; omega
theorem Room.units {k : Nat} {A : Around} (r : Room k A) : A.units + 64 < cLine := by have := r.un; omega
theorem Room.units0 {k : Nat} {A : Around} (r : Room k A) : A.units < cLine := by have := r.un; omega

/-! ### argument lists and displays -/
def tNil : TA := fun _ H Q => Q [] H
def tCons (ta : TE) (tr : TA) : TA := fun σ H Q => ta σ H fun x H1 => tr σ H1 fun xs H2 => Q (x :: xs) H2
section
variable {X : Cx} {e : Expr} {es : List Expr} {te : TE} {t : TA} {pos : Pos}
theorem pa_nil : PA X [] tNil := fun _ _ _ _ H Q I h => Calls.spliced_nil ⟨[], H, I, .nil, h⟩
theorem pa_cons (ha : PE X e te) (hr : PA X es t) (hs : starEach (e :: es) X.env = (false, eval e X.env) :: starEach es X.env := by rfl) : PA X (e :: es) (tCons te t) := by
  intro pos pins s σ H Q I h
  rw [hs]
  show wpAny _ _ (spliced ((false, eval e X.env) :: backTo pos (starEach es X.env))) _ _ s
  refine Calls.spliced_cons (thn (ha pins s σ H _ I h) fun u s1 ⟨x, H1, I1, r1, q1⟩ => ?_)
  exact thn (hr pos pins s1 σ H1 _ I1 q1) fun us s2 ⟨xs, H2, I2, r2, q2⟩ => ⟨x :: xs, H2, I2, .cons r1 r2, q2⟩

/-- a tuple, a list of written items -/
def tTup (t : TA) : TE := fun σ H Q => t σ H fun xs H1 => xs.length ≤ sizeLine ∧ ∀ p, H1 p = none → Q (.ref p) (upd H1 p (.tup xs))
def tLst (t : TA) : TE := fun σ H Q => t σ H fun xs H1 => xs.length ≤ sizeLine ∧ ∀ p, H1 p = none → Q (.ref p) (upd H1 p (.lst xs))
theorem pe_tup {x1} (h : PA X es t) : PE X (.Tuple es x1 pos) (tTup t) := by
  intro pins s σ H Q I hq
  refine wpAny_Tuple_spliced (thn (h pos pins s σ H _ I hq) fun us s1 ⟨xs, H1, I1, r, z, q⟩ => ⟨by rw [← r.length]; exact z, ?_⟩)
  have hf : H1 s1.heap.objs.size = none := I1.hok.fresh (Nat.le_refl _)
  refine ⟨.ref s1.heap.objs.size, upd H1 s1.heap.objs.size (.tup xs), I1.laid (t' := s1.toks) (fun b u e => Heap.get?_push_of_some _ e) (Nat.le_refl _) ?_, rfl, q _ hf⟩
  exact ⟨z, us, r, ⟨_, Heap.get?_push_size _ rfl, rfl, _, rfl⟩⟩
theorem pe_lst (h : PA X es t) : PE X (.List es pos) (tLst t) := by
  intro pins s σ H Q I hq
  refine wpAny_List_spliced (thn (h pos pins s σ H _ I hq) fun us s1 ⟨xs, H1, I1, r, z, q⟩ => ⟨by rw [← r.length]; exact z, ?_⟩)
  have hf : H1 s1.heap.objs.size = none := I1.hok.fresh (Nat.le_refl _)
  refine ⟨.ref s1.heap.objs.size, upd H1 s1.heap.objs.size (.lst xs), I1.laid (t' := s1.toks) (fun b u e => Heap.get?_push_of_some _ e) (Nat.le_refl _) ?_, rfl, q _ hf⟩
  exact ⟨z, us, 0, r, Heap.get?_push_size _ rfl⟩
end

/-! ### what a def promises -/
/-- a def's promise: the bound arguments in the parameters' order, the heap, the wanted end, the wanted exception -/
abbrev Sp := List V → Hp → VK → XK → Prop
/-- how an exception lies behind a call (file 08 gives it): the callers' frames, abstract heap and state ahead of the call, the wish, the exception, the state -/
abbrev CXT := List Env → Hp → Shared → XK → Value → Shared → Prop

/-- the state at a call -/
structure Env0 (P : Program) (w : World) (K : PySem.W.Frag) (mg : Str → Option Value) (base : Heap) (A : Around) (outer : List Env) (s : Shared) (H : Hp) : Prop where
  frames : A.frames = some outer
  mod : Mod K mg base
  bs : ∀ b o, base.get? b = some o → s.heap.get? b = some o ∧ H b = none
  bsz : base.objs.size ≤ s.heap.objs.size
  funs : s.heap.FunFrames base outer
  frf : ∀ b ∈ frs outer, H b = none
  hok : HOk P w H s.heap
  bare : AllBare s.gens
/-- a call's end -/
def CE (outer : List Env) (P : Program) (w : World) (H : Hp) (s : Shared) (Q : VK) (u : Value) (s' : Shared) : Prop :=
  ∃ v H', s'.os = s.os ∧ AllBare s'.gens ∧ Un (frs outer) [] H H' s.heap s'.heap ∧ HOk P w H' s'.heap ∧ RelV v u ∧ Q v H'
def CR (CX : CXT) (outer : List Env) (P : Program) (w : World) (H : Hp) (s : Shared) (Q : VK) (E : XK) (r : Result) (s' : Shared) : Prop :=
  match r with
  | .ok (.ret u) => CE outer P w H s Q u s'
  | .ok _ => False
  | .error e => CX outer H s E e s'
structure FnOk (P : Program) (w : World) (K : PySem.W.Frag) (mg : Str → Option Value) (base : Heap) (CX : CXT) (k : Nat) (f : Addr) (fd : FuncData) (ps : List Str) (sp : Sp) : Prop where
  len : ∀ vs H Q E, sp vs H Q E → vs.length = ps.length
  run : ∀ (A : Around) (outer : List Env) (s : Shared) (H : Hp) (args : Args) (us : List Value) (vs : List V) (Q : VK) (E : XK), Room k A → Env0 P w K mg base A outer s H → BindsTo s fd args (ps.zip us) → Vals vs us → sp vs H Q E →
    codeAny (model P w) A (.call (.ref f) args) (CR CX outer P w H s Q E) s
theorem FnOk.mono {P : Program} {w : World} {K : PySem.W.Frag} {mg : Str → Option Value} {base : Heap} {CX : CXT} {j k : Nat} {f : Addr} {fd : FuncData} {ps : List Str} {sp : Sp} (F : FnOk P w K mg base CX j f fd ps sp) (h : j ≤ k) :
    FnOk P w K mg base CX k f fd ps sp := ⟨F.len, fun A outer s H args us vs Q E hr => F.run A outer s H args us vs Q E (hr.mono h)⟩
/-- a weaker promise -/
theorem FnOk.imp {P : Program} {w : World} {K : PySem.W.Frag} {mg : Str → Option Value} {base : Heap} {CX : CXT} {k : Nat} {f : Addr} {fd : FuncData} {ps : List Str} {sp sp' : Sp} (F : FnOk P w K mg base CX k f fd ps sp)
    (h : ∀ vs H Q E, sp' vs H Q E → sp vs H Q E) : FnOk P w K mg base CX k f fd ps sp' :=
  ⟨fun vs H Q E q => F.len vs H Q E (h _ _ _ _ q), fun A outer s H args us vs Q E hr he hb hv hs => F.run A outer s H args us vs Q E hr he hb hv (h _ _ _ _ hs)⟩

theorem Env0.make {P : Program} {w : World} {K : PySem.W.Frag} {mg : Str → Option Value} {base : Heap} {A : Around} {outer : List Env} {s : Shared} {H : Hp} (e : Env0 P w K mg base A outer s H) (C : Addr) (us : List Value) (kw : List (Str × Value)) :
    Env0 P w K mg base (A.under (.builtin "type.__call__" ⟨.ref C :: us, kw⟩)) outer s H := ⟨by first | exact e.frames | (simpa [Around.under, Code.envs, Code.isFrame, pushEnvs] using e.frames), e.mod, e.bs, e.bsz, e.funs, e.frf, e.hok, e.bare⟩
theorem Env0.in1 {P : Program} {w : World} {K : PySem.W.Frag} {mg : Str → Option Value} {base : Heap} {A : Around} {outer : List Env} {s : Shared} {H : Hp} (e : Env0 P w K mg base A outer s H) :
    Env0 P w K mg base A.in1 outer s H := ⟨e.frames, e.mod, e.bs, e.bsz, e.funs, e.frf, e.hok, e.bare⟩

section
variable {X : Cx} {pins : List (Addr × Obj)} {σ : St} {H : Hp} {s s' : Shared}
/-- from a body: what a callee wants -/
theorem Inv.env0 (I : Inv X pins σ H s) : Env0 X.prog X.w X.K X.mg X.base X.A X.stack s H :=
  ⟨I.ok.frames, I.ok.mod, I.bs, Nat.le_trans I.ok.bsz I.sz, I.stack, I.stkFree, I.hok, I.bare⟩
/-- behind a call -/
theorem Inv.after {Q : VK} {u : Value} (I : Inv X pins σ H s) (h : CE X.stack X.prog X.w H s Q u s') : EP X pins σ Q u s' := by
  obtain ⟨v, H', os, bare, un, hok, r, q⟩ := h
  obtain ⟨hh, g, d, t, os'⟩ := s'
  obtain rfl : os' = s.os := os
  exact ⟨v, H', I.call (h' := hh) (g' := g) (d' := d) (t' := t) (ch := []) un hok bare (fun b z => absurd z (by simp)), r, q⟩
end

/-! ### calls -/
/-- f(..): the written arguments, then the defaults dvs; E: what is wanted of an exception -/
def tCall (sp : Sp) (dvs : List V) (E : XK) (t : TA) : TE := fun σ H Q => t σ H fun vs H1 => sp (vs ++ dvs) H1 Q E
/-- o.m(..) of an instance of the class at C -/
def tMeth (C : Addr) (m : Str) (sp : Sp) (dvs : List V) (E : XK) (ta : TE) (t : TA) : TE := fun σ H Q => ta σ H fun x H1 => ∃ a dx fs, x = .ref a ∧ H1 a = some (.ins C dx fs) ∧ fs.lookup m = none ∧
  t σ H1 fun vs H2 => sp (x :: (vs ++ dvs)) H2 Q E
/-- C(..): a new instance and its dict, then __init__ -/
def tMake (C : Addr) (sp : Sp) (dvs : List V) (E : XK) (t : TA) : TE := fun σ H Q => t σ H fun vs H1 => ∀ x dx, H1 x = none → H1 dx = none → dx ≠ x →
  sp (.ref x :: (vs ++ dvs)) (upd (upd H1 dx (.own x)) x (.ins C dx [])) (fun v H2 => v = .non ∧ Q (.ref x) H2) E

/-- how the parameters are bound: us the positional arguments, kw the keywords' values by name, ds the defaults that fill up -/
def Binds (K : PySem.W.Frag) (fd : FuncData) (ps : List Str) (ds : List Value) : Prop :=
  ∀ (s : Shared) (us : List Value), K.In s.heap → (us ++ ds).length = ps.length → BindsTo s fd ⟨us, []⟩ (ps.zip (us ++ ds))
/-- every parameter is given -/
theorem Binds.all {K : PySem.W.Frag} {fd : FuncData} {ps : List Str} (h : ∀ us : List Value, us.length = ps.length → bindArgs fd ⟨us, []⟩ = pure (ps.zip us)) : Binds K fd ps [] := fun s us _ hl => by
  rw [List.append_nil] at hl ⊢
  exact .of_eq (h us hl)

/-- an exception of a callee reaches what this body wants of exceptions -/
def Passes (CX : CXT) (X : Cx) (E : XK) : Prop := ∀ (pins : List (Addr × Obj)) (σ : St) (H : Hp) (s : Shared) (e : Value) (s' : Shared), Inv X pins σ H s → CX X.stack H s E e s' → X.xe e s'

section
variable {X : Cx} {CX : CXT} {k : Nat} {f C : Addr} {fd : FuncData} {ps : List Str} {sp : Sp} {dvs : List V} {ds : List Value} {E : XK} {x m : Str} {p pos apos : Pos} {e o : Expr} {es : List Expr} {ta : TE} {t : TA}

/-- the callee runs -/
theorem run_fn {pins : List (Addr × Obj)} {σ : St} {H : Hp} {s : Shared} {Q : VK} {us : List Value} {vs : List V} (F : FnOk X.prog X.w X.K X.mg X.base CX k f fd ps sp) (hr : Room k X.A) (hb : Binds X.K fd ps ds) (hd : Vals dvs ds) (hx : Passes CX X E)
    (I : Inv X pins σ H s) (r : Vals vs us) (h : sp (vs ++ dvs) H Q E) : wpAny (model X.prog X.w) X.A (call (.ref f) us) (EP X pins σ Q) X.xe s := by
  have r2 : Vals (vs ++ dvs) (us ++ ds) := r.append hd
  have hl : (us ++ ds).length = ps.length := by rw [← r2.length]; exact F.len _ _ _ _ h
  refine wpAny_call (codeAny_mono (F.run X.A X.stack s H ⟨us, []⟩ (us ++ ds) (vs ++ dvs) Q E hr I.env0 (hb s us I.kIn hl) r2 h) fun r s' hq => ?_)
  cases r with
  | error e => exact hx pins σ H s e s' I hq
  | ok fl =>
    cases fl with
    | ret u => exact I.after hq
    | next => exact False.elim hq
    | brk => exact False.elim hq
    | cont => exact False.elim hq

theorem pe_call (F : FnOk X.prog X.w X.K X.mg X.base CX k f fd ps sp) (hr : Room k X.A) (hg : Gl X x) (hm : X.mg x = some (.ref f)) (hk : PySem.W.keepIn X.K (.ref f) = true) (hb : Binds X.K fd ps ds) (hd : Vals dvs ds) (hx : Passes CX X E)
    (ha : PA X (e :: es) t) (hdb : (x == ("__debug__" : Str)) = false := by decide) (he : starEach (e :: es) X.env = (false, eval e X.env) :: starEach es X.env := by rfl) (hpl : (backTo pos (starEach es X.env)).any (·.1) = false := by rfl) :
    PE X (.Call (.Name x p) (e :: es) [] pos) (tCall sp dvs E t) := by
  intro pins s σ H Q I h
  refine wpAny_Call_Name_kw (ld_glob I hg hm ?_ hdb)
  refine PySem.W.callWith_K (h₀ := X.base) I.ok.mod.kin hk (thn (ha pos pins s σ H _ I h) fun us s1 ⟨vs, H1, I1, r, q⟩ => ⟨I1.kIn, ?_⟩) he hpl
  exact run_fn F hr hb hd hx I1 r q
theorem pe_call0 (F : FnOk X.prog X.w X.K X.mg X.base CX k f fd ps sp) (hr : Room k X.A) (hg : Gl X x) (hm : X.mg x = some (.ref f)) (hk : PySem.W.keepIn X.K (.ref f) = true) (hb : Binds X.K fd ps ds) (hd : Vals dvs ds) (hx : Passes CX X E)
    (hdb : (x == ("__debug__" : Str)) = false := by decide) : PE X (.Call (.Name x p) [] [] pos) (tCall sp dvs E tNil) := by
  intro pins s σ H Q I h
  refine wpAny_Call_Name_kw (ld_glob I hg hm ?_ hdb)
  exact PySem.W.callWith_K0 I.kIn hk (run_fn (us := []) F hr hb hd hx I .nil h)

/-- o.m(e, ..) -/
theorem pe_meth {pl : Sem Bool} (he : PE X o ta) (c : Cls X.K C) (hm : Meth X.K C m f) (F : FnOk X.prog X.w X.K X.mg X.base CX k f fd ps sp) (hr : Room k X.A) (hb : Binds X.K fd ps ds) (hd : Vals dvs ds) (hx : Passes CX X E) (ha : PA X (e :: es) t)
    (hst : starEach (e :: es) X.env = (false, eval e X.env) :: starEach es X.env := by rfl) (hpl : (backTo pos (starEach es X.env)).any (·.1) = false := by rfl)
    (ht : eval (.Call (.Attribute o m apos) (e :: es) [] pos) X.env = (do
      let ov ← eval o X.env
      standAt apos.atName
      let (f, first) ← holding [ov] (getMethod ov m pl)
      callWith pos f first (backTo pos (starEach (e :: es) X.env)) (backToKw pos (keywordEach [] X.env))) := by rfl) :
    PE X (.Call (.Attribute o m apos) (e :: es) [] pos) (tMeth C m sp dvs E ta t) := by
  intro pins s σ H Q I h
  refine PySem.W.methodCall_KW (pl := pl) (thn (he pins s σ H _ I h) fun u s1 ⟨x, H1, I1, rx, a, dx, fs, ex, ea, l, q⟩ => ?_) ht
  subst ex
  obtain rfl : u = Value.ref a := rx
  refine getmeth_ok I1 ea c hm l ?_
  refine PySem.W.callWith_K (first := [.ref a]) (h₀ := X.base) I.ok.mod.kin hm.kp (thn (ha pos pins s1 σ H1 _ I1 q) fun us s2 ⟨vs, H2, I2, r, q2⟩ => ⟨I2.kIn, ?_⟩) hst hpl
  exact run_fn (us := .ref a :: us) (vs := .ref a :: vs) F hr hb hd hx I2 (.cons rfl r) q2
/-- o.m() -/
theorem pe_meth0 {pl : Sem Bool} (he : PE X o ta) (c : Cls X.K C) (hm : Meth X.K C m f) (F : FnOk X.prog X.w X.K X.mg X.base CX k f fd ps sp) (hr : Room k X.A) (hb : Binds X.K fd ps ds) (hd : Vals dvs ds) (hx : Passes CX X E)
    (ht : eval (.Call (.Attribute o m apos) [] [] pos) X.env = (do
      let ov ← eval o X.env
      standAt apos.atName
      let (f, first) ← holding [ov] (getMethod ov m pl)
      callWith pos f first (backTo pos (starEach [] X.env)) (backToKw pos (keywordEach [] X.env))) := by rfl) :
    PE X (.Call (.Attribute o m apos) [] [] pos) (tMeth C m sp dvs E ta tNil) := by
  intro pins s σ H Q I h
  refine PySem.W.methodCall_KW (pl := pl) (thn (he pins s σ H _ I h) fun u s1 ⟨x, H1, I1, rx, a, dx, fs, ex, ea, l, q⟩ => ?_) ht
  subst ex
  obtain rfl : u = Value.ref a := rx
  refine getmeth_ok I1 ea c hm l ?_
  exact PySem.W.callWith_K0 (first := [.ref a]) I1.kIn hm.kp (run_fn (us := [.ref a]) (vs := [.ref a]) F hr hb hd hx I1 (.cons rfl .nil) q)

/-- what a class must have to be made -/
structure Mk (K : PySem.W.Frag) (C f : Addr) : Prop where
  makes : PySem.W.makesIn K C = true
  init : PySem.W.findIn K (.ref C) "__init__" = some (some (.ref f))
  fn : PySem.W.isFn K (.ref f) = true
  kp : PySem.W.keepIn K (.ref C) = true

theorem run_make {pins : List (Addr × Obj)} {σ : St} {H : Hp} {s : Shared} {Q : VK} {us : List Value} {vs : List V} (M : Mk X.K C f) (F : FnOk X.prog X.w X.K X.mg X.base CX k f fd ps sp) (hr : Room (k + 1) X.A) (hb : Binds X.K fd ps ds) (hd : Vals dvs ds)
    (hx : Passes CX X E) (I : Inv X pins σ H s) (r : Vals vs us)
    (h : ∀ x dx, H x = none → H dx = none → dx ≠ x → sp (.ref x :: (vs ++ dvs)) (upd (upd H dx (.own x)) x (.ins C dx [])) (fun v H2 => v = .non ∧ Q (.ref x) H2) E) :
    wpAny (model X.prog X.w) X.A (call (.ref C) us) (EP X pins σ Q) X.xe s := by
  have hq := h (s.heap.objs.size + 1) s.heap.objs.size (I.hok.fresh (Nat.le_succ _)) (I.hok.fresh (Nat.le_refl _)) (Nat.ne_of_lt (Nat.lt_succ_self _))
  have I2 := Inv.made (C := C) I
  have r2 : Vals (V.ref (s.heap.objs.size + 1) :: (vs ++ dvs)) (Value.ref (s.heap.objs.size + 1) :: (us ++ ds)) := .cons rfl (r.append hd)
  have hl : (Value.ref (s.heap.objs.size + 1) :: us ++ ds).length = ps.length := by
    have e := r2.length
    rw [F.len _ _ _ _ hq] at e
    exact e.symm
  refine wpAny_call (make_map (f := f) I.kIn M.makes M.init (beq_iff_eq.mp M.fn) (codeAny_mono (F.run _ X.stack _ _ ⟨Value.ref (s.heap.objs.size + 1) :: us, []⟩ (Value.ref (s.heap.objs.size + 1) :: (us ++ ds)) _ _ E (hr.make C us [])
    (I2.env0.make C us []) (hb _ (Value.ref (s.heap.objs.size + 1) :: us) I2.kIn hl) r2 hq) fun r s' hq' => ?_))
  cases r with
  | error e => exact hx pins σ _ _ e s' I2 hq'
  | ok fl =>
    cases fl with
    | ret u =>
      obtain ⟨v, H', I3, rv, ev, q3⟩ := I2.after hq'
      subst ev
      exact ⟨rv, ⟨V.ref (s.heap.objs.size + 1), H', I3, rfl, q3⟩⟩
    | next => exact False.elim hq'
    | brk => exact False.elim hq'
    | cont => exact False.elim hq'
theorem pe_make (M : Mk X.K C f) (F : FnOk X.prog X.w X.K X.mg X.base CX k f fd ps sp) (hr : Room (k + 1) X.A) (hg : Gl X x) (hm : X.mg x = some (.ref C)) (hb : Binds X.K fd ps ds) (hd : Vals dvs ds) (hx : Passes CX X E)
    (ha : PA X (e :: es) t) (hdb : (x == ("__debug__" : Str)) = false := by decide) (he : starEach (e :: es) X.env = (false, eval e X.env) :: starEach es X.env := by rfl) (hpl : (backTo pos (starEach es X.env)).any (·.1) = false := by rfl) :
    PE X (.Call (.Name x p) (e :: es) [] pos) (tMake C sp dvs E t) := by
  intro pins s σ H Q I h
  refine wpAny_Call_Name_kw (ld_glob I hg hm ?_ hdb)
  refine PySem.W.callWith_K (h₀ := X.base) I.ok.mod.kin M.kp (thn (ha pos pins s σ H _ I h) fun us s1 ⟨vs, H1, I1, r, q⟩ => ⟨I1.kIn, ?_⟩) he hpl
  exact run_make M F hr hb hd hx I1 r q
theorem pe_make0 (M : Mk X.K C f) (F : FnOk X.prog X.w X.K X.mg X.base CX k f fd ps sp) (hr : Room (k + 1) X.A) (hg : Gl X x) (hm : X.mg x = some (.ref C)) (hb : Binds X.K fd ps ds) (hd : Vals dvs ds) (hx : Passes CX X E)
    (hdb : (x == ("__debug__" : Str)) = false := by decide) : PE X (.Call (.Name x p) [] [] pos) (tMake C sp dvs E tNil) := by
  intro pins s σ H Q I h
  refine wpAny_Call_Name_kw (ld_glob I hg hm ?_ hdb)
  exact PySem.W.callWith_K0 I.kIn M.kp (run_make (us := []) M F hr hb hd hx I .nil h)
end

/-! ### keywords -/
/-- the values of the keywords, from the left -/
def PK (X : Cx) (kws : List Keyword) (t : TA) : Prop :=
  ∀ (pos : Pos) (pins : List (Addr × Obj)) (s : Shared) (σ : St) (H : Hp) (Q : List V → Hp → Prop), Inv X pins σ H s → t σ H Q → wpAny (model X.prog X.w) X.A (evalAll ((backToKw pos (keywordEach kws X.env)).map (·.2))) (AP X pins σ Q) X.xe s
section
variable {X : Cx} {CX : CXT} {k : Nat} {f C : Addr} {fd : FuncData} {ps ks : List Str} {sp : Sp} {E : XK} {x m : Str} {p pos apos kpos : Pos} {e o : Expr} {es : List Expr} {kws : List Keyword} {te ta : TE} {t tk : TA} {nm : Option Str}
theorem pk_nil : PK X [] tNil := fun _ _ _ _ H Q I h => wpAny_evalAll_nil ⟨[], H, I, .nil, h⟩
theorem pk_cons (ha : PE X e te) (hr : PK X kws t) : PK X (⟨nm, e, kpos⟩ :: kws) (tCons te t) := by
  intro pos pins s σ H Q I h
  show wpAny _ _ (evalAll ((do let v ← eval e X.env; standAt pos; pure v) :: (backToKw pos (keywordEach kws X.env)).map (·.2))) _ _ s
  refine wpAny_evalAll_cons (wpAny_bind (thn (ha pins s σ H _ I h) fun u s1 ⟨x, H1, I1, r1, q1⟩ => wpAny_bind (wpAny_standAt (wpAny_pure ?_))))
  exact thn (hr pos pins s1 σ H1 _ I1 q1) fun us s2 ⟨xs, H2, I2, r2, q2⟩ => ⟨x :: xs, H2, I2, .cons r1 r2, q2⟩

/-- how a call with keywords binds: g puts the positional values us and the keywords' values ws (names ks) in the parameters' order, defaults among them -/
structure KBinds (K : PySem.W.Frag) (fd : FuncData) (ps ks : List Str) (g : List Value → List Value → List Value) (gV : List V → List V → List V) : Prop where
  to : ∀ (s : Shared) (us ws : List Value), K.In s.heap → (g us ws).length = ps.length → BindsTo s fd ⟨us, ks.zip ws⟩ (ps.zip (g us ws))
  rel : ∀ {vs : List V} {us : List Value} {zs : List V} {ws : List Value}, Vals vs us → Vals zs ws → Vals (gV vs zs) (g us ws)
def tCallK (sp : Sp) (gV : List V → List V → List V) (E : XK) (t tk : TA) : TE := fun σ H Q => t σ H fun vs H1 => tk σ H1 fun zs H2 => sp (gV vs zs) H2 Q E
variable {g : List Value → List Value → List Value} {gV : List V → List V → List V}
theorem run_fnk {pins : List (Addr × Obj)} {σ : St} {H : Hp} {s : Shared} {Q : VK} {us ws : List Value} {vs zs : List V} (F : FnOk X.prog X.w X.K X.mg X.base CX k f fd ps sp) (hr : Room k X.A) (hb : KBinds X.K fd ps ks g gV) (hx : Passes CX X E)
    (I : Inv X pins σ H s) (r : Vals vs us) (rz : Vals zs ws) (h : sp (gV vs zs) H Q E) : wpAny (model X.prog X.w) X.A (call (.ref f) us (ks.zip ws)) (EP X pins σ Q) X.xe s := by
  have r2 := hb.rel r rz
  have hl : (g us ws).length = ps.length := by rw [← r2.length]; exact F.len _ _ _ _ h
  refine wpAny_call (codeAny_mono (F.run X.A X.stack s H ⟨us, ks.zip ws⟩ (g us ws) (gV vs zs) Q E hr I.env0 (hb.to s us ws I.kIn hl) r2 h) fun r s' hq => ?_)
  cases r with
  | error e => exact hx pins σ H s e s' I hq
  | ok fl =>
    cases fl with
    | ret u => exact I.after hq
    | next => exact False.elim hq
    | brk => exact False.elim hq
    | cont => exact False.elim hq
/-- f(e, .., k = v, ..) -/
theorem pe_callK (F : FnOk X.prog X.w X.K X.mg X.base CX k f fd ps sp) (hr : Room k X.A) (hg : Gl X x) (hm : X.mg x = some (.ref f)) (hk : PySem.W.keepIn X.K (.ref f) = true) (hb : KBinds X.K fd ps ks g gV) (hx : Passes CX X E)
    (ha : PA X (e :: es) t) (hkw : PK X kws tk) (hall : (backToKw pos (keywordEach kws X.env)).all (·.1.isSome) = true := by rfl) (hks : (backToKw pos (keywordEach kws X.env)).filterMap (·.1) = ks := by rfl)
    (hdb : (x == ("__debug__" : Str)) = false := by decide) (he : starEach (e :: es) X.env = (false, eval e X.env) :: starEach es X.env := by rfl)
    (hpl : ((backTo pos (starEach (e :: es) X.env)).any (·.1) || (backToKw pos (keywordEach kws X.env)).any (·.1.isNone)) = false := by rfl) :
    PE X (.Call (.Name x p) (e :: es) kws pos) (tCallK sp gV E t tk) := by
  intro pins s σ H Q I h
  refine wpAny_Call_Name_kw (ld_glob I hg hm ?_ hdb)
  refine PySem.W.callWith_KW (h₀ := X.base) I.ok.mod.kin hk hall (thn (ha pos pins s σ H _ I h) fun us s1 ⟨vs, H1, I1, r, q⟩ => ?_) hpl he
  refine thn (hkw pos pins s1 σ H1 _ I1 q) fun ws s2 ⟨zs, H2, I2, rz, q2⟩ => ⟨I2.kIn, ?_⟩
  rw [hks]
  exact run_fnk F hr hb hx I2 r rz q2
end

/-! ### a def's body keeps its promise -/
/-- names: the parameters first -/
structure FnScope (N P : List Str) (sc : Scope) : Prop where
  kind : sc.kind = .function
  co : sc.isCoroutine = false
  gen : sc.isGenerator = false
  nd : N.Nodup
  pre : N.take P.length = P
  par : ∀ x ∈ P, sc.names.lookup x = some .local ∨ sc.names.lookup x = some .cell
  nofree : ∀ y ∈ sc.names, y.2 ≠ .free

theorem bindL_out {kindOf : Str → Option NameKind} {x : Str} : ∀ {binds : List (Str × Value)} {m : Str → Option Value}, (∀ v, (x, v) ∉ binds) → bindL kindOf binds m x = m x
  | [], _, _ => rfl
  | (n, v) :: r, m, h => by
    unfold bindL
    rw [bindL_out fun w hw => h w (List.mem_cons_of_mem _ hw)]
    split
    · have : x ≠ n := by rintro rfl; exact h v List.mem_cons_self
      simp [this]
    · rfl
theorem bindC_out {kindOf : Str → Option NameKind} {x : Str} : ∀ {binds : List (Str × Value)} {m : Str → Option Value}, (∀ v, (x, v) ∉ binds) → bindC kindOf binds m x = m x
  | [], _, _ => rfl
  | (n, v) :: r, m, h => by
    unfold bindC
    rw [bindC_out fun w hw => h w (List.mem_cons_of_mem _ hw)]
    split
    · rfl
    · have : x ≠ n := by rintro rfl; exact h v List.mem_cons_self
      simp [this]
theorem bindL_get {kindOf : Str → Option NameKind} {x : Str} {v : Value} : ∀ {P : List Str} {vs : List Value} {i : Nat} {m : Str → Option Value}, P.Nodup → P[i]? = some x → vs[i]? = some v → kindOf x = some .local →
    bindL kindOf (P.zip vs) m x = some v
  | [], _, _, _, _, h, _, _ => by simp at h
  | _ :: _, [], _, _, _, _, h, _ => by simp at h
  | p :: P, w :: vs, 0, m, nd, h1, h2, hk => by
    simp at h1 h2; subst h1; subst h2
    show bindL kindOf ((p, w) :: P.zip vs) m p = _
    unfold bindL
    rw [bindL_out fun v hv => (List.nodup_cons.mp nd).1 (List.of_mem_zip hv).1, if_pos hk]
    simp
  | p :: P, w :: vs, i + 1, m, nd, h1, h2, hk => by
    show bindL kindOf ((p, w) :: P.zip vs) m x = _
    unfold bindL
    exact bindL_get (i := i) (List.nodup_cons.mp nd).2 (by simpa using h1) (by simpa using h2) hk
theorem bindC_get {kindOf : Str → Option NameKind} {x : Str} {v : Value} : ∀ {P : List Str} {vs : List Value} {i : Nat} {m : Str → Option Value}, P.Nodup → P[i]? = some x → vs[i]? = some v → kindOf x ≠ some .local →
    bindC kindOf (P.zip vs) m x = some v
  | [], _, _, _, _, h, _, _ => by simp at h
  | _ :: _, [], _, _, _, _, h, _ => by simp at h
  | p :: P, w :: vs, 0, m, nd, h1, h2, hk => by
    simp at h1 h2; subst h1; subst h2
    show bindC kindOf ((p, w) :: P.zip vs) m p = _
    unfold bindC
    rw [bindC_out fun v hv => (List.nodup_cons.mp nd).1 (List.of_mem_zip hv).1, if_neg hk]
    simp
  | p :: P, w :: vs, i + 1, m, nd, h1, h2, hk => by
    show bindC kindOf ((p, w) :: P.zip vs) m x = _
    unfold bindC
    exact bindC_get (i := i) (List.nodup_cons.mp nd).2 (by simpa using h1) (by simpa using h2) hk

/-- the names' values at the entry -/
def start (N : List Str) (vs : List V) : St := vs.map some ++ List.replicate (N.length - vs.length) none

/-- the context of a def's body, at its entry; an exception leaves the frame, then lies as CX says -/
def cxOf (CX : CXT) (P : Program) (w : World) (K : PySem.W.Frag) (mg : Str → Option Value) (base : Heap) (N : List Str) (qual : Str) (scope : Scope) (f : Addr) (cd : Value) (A : Around) (outer : List Env) (s : Shared) (H : Hp) (E : XK) : Cx where
  prog := P
  w := w
  K := K
  mg := mg
  base := base
  A := A.deeper (envOfC qual scope s.heap.objs.size f cd)
  N := N
  s₀ := s
  H₀ := H
  env := envOfC qual scope s.heap.objs.size f cd
  outer := outer
  stack := envOfC qual scope s.heap.objs.size f cd :: outer
  ex := []
  calm := true
  fn := fun _ => true
  pn := []
  xe := fun e s' => wpAny (model P w) (A.deeper (envOfC qual scope s.heap.objs.size f cd)) (leaving (envOfC qual scope s.heap.objs.size f cd) e) (fun _ s'' => CX outer H s E e s'') (fun e' s'' => CX outer H s E e' s'') s'

theorem cell_has {sc : Scope} {n : Nat} {x : Str} (h : sc.names.lookup x = some .cell) : ∃ c, (cellsFrom n sc.names []).lookup x = some c := by
  have q := PySem.W.cellsFrom_some sc.names n [] (.inl h)
  exact Option.isSome_iff_exists.mp q

theorem inv_start {CX : CXT} {P : Program} {w : World} {K : PySem.W.Frag} {mg : Str → Option Value} {base : Heap} {N ps : List Str} {qual : Str} {scope : Scope} {f : Addr} {cd : Value} {A : Around} {outer : List Env} {s s1 : Shared} {H : Hp} {E : XK} {us : List Value} {vs : List V}
    (S : FnScope N ps scope) (hd : A.handled = none) (e0 : Env0 P w K mg base A outer s H) (hl : vs.length = ps.length) (r : Vals vs us)
    (x : InCallC s s.heap.objs.size (bindL (envOfC qual scope s.heap.objs.size f cd).kindOf (ps.zip us) fun _ => none) (cellsFrom (s.heap.objs.size + 1) scope.names []) (bindC (envOfC qual scope s.heap.objs.size f cd).kindOf (ps.zip us) fun _ => none) s1) :
    Inv (cxOf CX P w K mg base N qual scope f cd A outer s H E) [] (start N vs) H s1 := by
  have hpl : ps.length ≤ N.length := by have := congrArg List.length S.pre; rw [List.length_take] at this; omega
  obtain ⟨h1, tk, rfl, hk⟩ := x.done
  have noA : ∀ b : Addr, b ∉ (cxOf CX P w K mg base N qual scope f cd A outer s H E).ex := fun b z => absurd (show b ∈ ([] : List Addr) from z) (by simp)
  refine ⟨⟨e0.mod, S.kind, rfl, rfl, Nat.le_refl _, fun y z c h1 h2 => ?_, fun y hy => ?_, fun y c _ h => ?_, fun _ => hd, Around.frames_deeper e0.frames, .inr ⟨rfl, rfl⟩, fun b z => absurd z (noA b), e0.bs, e0.bsz, fun b _ _ => noA b, fun b z => absurd z (noA b), e0.funs, e0.frf⟩,
    rfl, e0.bare, Un.kept hk, ⟨_, x.toInCall.ns, fun i y v h1 h2 h3 => ?_⟩, fun y c h => ⟨_, x.cell y c h⟩, e0.hok.fresh (Nat.le_refl _), fun y c h => ?_, fun p hp => absurd (show p ∈ ([] : List (Addr × Obj)) from hp) (by simp), e0.hok.kept hk, ?_⟩
  · exact name_of_addr x.apart (PySem.mem_of_lookup h1) (PySem.mem_of_lookup h2)
  · have hy : scope.names.lookup y = some .cell ∨ scope.names.lookup y = some .free := hy
    rcases hy with hy | hy
    · exact cell_has hy
    · exact absurd rfl (S.nofree _ (PySem.mem_of_lookup hy))
  · exact Nat.le_of_lt (x.above y c (PySem.mem_of_lookup h))
  · have hi : i < vs.length := by
      unfold start at h2
      by_cases hi : i < vs.length
      · exact hi
      · rw [List.getElem?_append_right (by simpa using hi)] at h2
        rw [List.getElem?_replicate] at h2
        split at h2 <;> cases h2
    have ha : vs[i]? = some v := by
      unfold start at h2
      rw [List.getElem?_append_left (by simpa using hi), List.getElem?_map] at h2
      cases e : vs[i]? with
      | none => rw [e] at h2; cases h2
      | some a => rw [e] at h2; cases h2; rfl
    obtain ⟨u, hu, rv⟩ := r.get ha
    have hp : ps[i]? = some y := by
      rw [← S.pre, List.getElem?_take_of_lt (by omega)]; exact h1
    have ndP : ps.Nodup := by rw [← S.pre]; exact S.nd.sublist (List.take_sublist _ _)
    refine ⟨u, rv, ?_⟩
    rcases S.par y (List.mem_of_getElem? hp) with k | k
    · exact .inl ⟨k, bindL_get ndP hp hu k⟩
    · obtain ⟨c, e⟩ := cell_has (n := s.heap.objs.size + 1) k
      refine .inr ⟨.inl k, c, e, ?_⟩
      have q := x.cell y c e
      rw [bindC_get ndP hp hu (by show scope.names.lookup y ≠ _; rw [k]; decide)] at q
      exact q
  · exact e0.hok.fresh (Nat.le_of_lt (x.above y c (PySem.mem_of_lookup h)))
  · unfold start
    show _ = N.length
    rw [List.length_append, List.length_map, List.length_replicate]
    omega

/-- THE RULE: a def (or a method) of the text, by its body. The body's reading t is chosen for each entry; it is run at the parameters' values -/
theorem fn_of {CX : CXT} {P : Program} {w : World} {K : PySem.W.Frag} {mg : Str → Option Value} {base : Heap} {k : Nat} {f : Addr} {name qual : Str} {params : Arguments} {body : List Stmt} {scope : Scope} {dV kV doc pm cdv ct oc : Value} {an od : Option Addr}
    {osl : Array (Option Value)} {N ps : List Str} {sp : Sp} (lk : K.lookup f = some ⟨oc, od, .func (PySem.W.fnOf name qual params body scope dV kV doc pm an cdv ct), osl⟩) (hcd : PySem.W.codeIn K cdv qual = true) (S : FnScope N ps scope)
    (len : ∀ vs H Q E, sp vs H Q E → vs.length = ps.length)
    (hbody : ∀ (A : Around) (outer : List Env) (s : Shared) (H : Hp) (vs : List V) (Q : VK) (E : XK), Room k (A.deeper (envOfC qual scope s.heap.objs.size f cdv)) → sp vs H Q E →
      ∃ t, PSs (cxOf CX P w K mg base N qual scope f cdv A outer s H E) body t ∧ t { nx := fun _ H' => Q .non H', rt := Q } (start N vs) H) :
    FnOk P w K mg base CX (k + 1) f (PySem.W.fnOf name qual params body scope dV kV doc pm an cdv ct) ps sp := by
  refine ⟨len, fun A outer s H args us vs Q E hr e0 hb r hsp => ?_⟩
  have hl := len _ _ _ _ hsp
  have KX : K.In s.heap := e0.mod.kin.keeps fun b o e => (e0.bs b o e).1
  have lim : s.heap.NoLimit := e0.mod.nolimit.keeps fun b o e => (e0.bs b o e).1
  have hkind : ∀ y ∈ ps.zip us, scope.names.lookup y.1 = some .local ∨ (scope.names.lookup y.1 = some .cell ∧ ((cellsFrom (s.heap.objs.size + 1) scope.names []).lookup y.1).isSome = true) := fun ⟨n, v⟩ hy => by
    rcases S.par n (List.of_mem_zip hy).1 with q | q
    · exact .inl q
    · exact .inr ⟨q, PySem.W.cellsFrom_some _ _ _ (.inl q)⟩
  refine codeAny_call_function hr.depth (KX _ _ lk) rfl S.co S.gen rfl (PySem.W.codeRec_of KX hcd) (hb _ _ _ _ ?_)
  refine wpAny_newFunctionEnv_cells S.kind hkind fun env he s1 x => ?_
  subst he
  refine ⟨lim.keeps x.toInCall.keep, codeAny_func ?_⟩
  obtain ⟨t, ht, hq⟩ := hbody A outer s H vs Q E (hr.deeper _) hsp
  have I : Inv (cxOf CX P w K mg base N qual scope f cdv A outer s H E) [] (start N vs) H s1 := inv_start S hr.hd e0 hl r x
  refine wpAny_mono (ht [] s1 (start N vs) H _ I hq) (fun fl s' hs => ?_) fun e s' hs => hs
  have fin : ∀ {σ' : St} {H' : Hp} {v : V} {u : Value}, Inv (cxOf CX P w K mg base N qual scope f cdv A outer s H E) [] σ' H' s' → RelV v u → Q v H' → CE outer P w H s Q u s' :=
    fun {σ' H' v u} J rv q => ⟨v, H', J.os, J.bare, J.base, J.hok, rv, q⟩
  cases fl with
  | ret u =>
    obtain ⟨v, σ', H', J, rv, q⟩ := hs
    exact fin J rv q
  | next =>
    obtain ⟨σ', H', J, q⟩ := hs
    exact fin (v := V.non) (u := Value.none) J rfl q
  | brk =>
    obtain ⟨_, _, _, q⟩ := hs
    exact False.elim q
  | cont =>
    obtain ⟨_, _, _, q⟩ := hs
    exact False.elim q
end L2

namespace L2
open PySem PySem.Spec PyProof.Rows
section
variable {X : Cx} {x : Str} {p pos : Pos} {e : Expr} {es : List Expr} {t : TA} {id T : String} {r : List V → Hp → VK → Prop}

def tCB (r : List V → Hp → VK → Prop) (t : TA) : TE := fun σ H Q => t σ H fun vs H1 => r vs H1 Q
/-- f(e, ..), f a built-in function -/
theorem pe_callB (hc : CallR X (.builtin id) r) (hg : Gl X x) (hm : X.mg x = none) (hv : bootBuiltins x = some (.builtin id)) (ha : PA X (e :: es) t) (hn : x ≠ "__name__" := by decide) (hdb : (x == ("__debug__" : Str)) = false := by decide)
    (he : starEach (e :: es) X.env = (false, eval e X.env) :: starEach es X.env := by rfl) (hpl : (backTo pos (starEach es X.env)).any (·.1) = false := by rfl) : PE X (.Call (.Name x p) (e :: es) [] pos) (tCB r t) := by
  intro pins s σ H Q I h
  refine wpAny_Call_Name_kw (ld_blt I hg hm hv ?_ hn hdb)
  exact PyProof.Rows.callWith_builtin1 (thn (ha pos pins s σ H _ I h) fun us s1 ⟨vs, H1, I1, r1, q1⟩ => hc pins s1 σ H1 vs us Q I1 r1 q1) he hpl
/-- T(e, ..), T a built-in type -/
theorem pe_callTy (hc : CallR X (.type T) r) (hg : Gl X x) (hm : X.mg x = none) (hv : bootBuiltins x = some (.type T)) (ha : PA X (e :: es) t) (hn : x ≠ "__name__" := by decide) (hdb : (x == ("__debug__" : Str)) = false := by decide)
    (he : starEach (e :: es) X.env = (false, eval e X.env) :: starEach es X.env := by rfl) (hpl : (backTo pos (starEach es X.env)).any (·.1) = false := by rfl) : PE X (.Call (.Name x p) (e :: es) [] pos) (tCB r t) := by
  intro pins s σ H Q I h
  refine wpAny_Call_Name_kw (ld_blt I hg hm hv ?_ hn hdb)
  exact PyProof.Rows.callWith_type1 (thn (ha pos pins s σ H _ I h) fun us s1 ⟨vs, H1, I1, r1, q1⟩ => hc pins s1 σ H1 vs us Q I1 r1 q1) he hpl
/-- T() -/
theorem pe_callTy0 (hc : CallR X (.type T) r) (hg : Gl X x) (hm : X.mg x = none) (hv : bootBuiltins x = some (.type T)) (hn : x ≠ "__name__" := by decide) (hdb : (x == ("__debug__" : Str)) = false := by decide) :
    PE X (.Call (.Name x p) [] [] pos) (tCB r tNil) := by
  intro pins s σ H Q I h
  refine wpAny_Call_Name_kw (ld_blt I hg hm hv ?_ hn hdb)
  exact PyProof.Rows.callWith_type0 (hc pins s σ H [] [] Q I .nil h)
end
end L2

namespace HT
open PySem PyProof.Rows

/-- t < u of tuples of ints -/
def lexLt : List Int → List Int → Bool
  | [], [] => false
  | [], _ :: _ => true
  | _ :: _, [] => false
  | x :: xs, y :: ys => if x = y then lexLt xs ys else decide (x < y)
theorem lexLt_cons (x y : Int) (xs ys : List Int) : lexLt (x :: xs) (y :: ys) = if x = y then lexLt xs ys else decide (x < y) := rfl
theorem lexLt_nil_nil : lexLt [] [] = false := rfl
theorem lexLt_nil_cons (y : Int) (ys : List Int) : lexLt [] (y :: ys) = true := rfl
theorem lexLt_cons_nil (x : Int) (xs : List Int) : lexLt (x :: xs) [] = false := rfl

theorem eqAt_int (A : Around) (s : Shared) (a : Int) (t : Tok) (c : Int) (u : Tok) : ∃ e, SeqAt.EqAt A s (.int a t) (.int c u) e ∧ (e = true ↔ a = c) :=
  ⟨(a == c), SeqAt.EqAt.int_int a t c u, by simp⟩
theorem rcLt_int (A : Around) (s : Shared) (a : Int) (t : Tok) (c : Int) (u : Tok) (prog : Program) (w : World) (E : Value → Shared → Prop) (Q : Value → Shared → Prop) (h : Q (.bool (decide (a < c))) s) :
    wpAny (model prog w) A (richCompare .Lt (.int a t) (.int c u)) Q E s :=
  (PyProof.Rows.lt_int h : wpAny (model prog w) A (compareOp .Lt (.int a t) (.int c u)) Q E s)

section
open PySem.SeqAt
open PySem.AutoSeq1 (wpAny_loadPart')
open PySem.MeetsSeq PySem.MeetsSeq2 PySem.MeetsSeq3

theorem tuple_lt_ints (l b : Addr) (items items2 : Array Value) (n n2 : Nat) (dd dd2 : Option Addr) (sl sl2 : Array (Option Value)) (ns ms : List Int) (hi : IntsAre items.toList ns) (hj : IntsAre items2.toList ms) :
    Meets (Builtin.«tuple.__lt__» ⟨[.ref l, .ref b], []⟩)
      (fun _ R s => s.heap.get? l = some { cls := .type "tuple", dict := dd, data := .seq items n, slots := sl } ∧ s.heap.get? b = some { cls := .type "tuple", dict := dd2, data := .seq items2 n2, slots := sl2 } ∧
        R (.ok (.ret (.bool (lexLt ns ms)))) s) :=
  .of_wp fun prog w A R s h => by
    obtain ⟨hp, g, d, tk, os⟩ := s; obtain ⟨hl, hb, h⟩ := h
    have f2 := AutoSeq1.sub_tuple_tuple
    have z1 : items.size = ns.length := by rw [← hi.length]; simp
    have z2 : items2.size = ms.length := by rw [← hj.length]; simp
    wp_walk using wpAny_loadPart' hl, wpAny_loadPart' hb, wpAny_forIn_list _ (fun rest b s' => b.1 = none ∧ s' = ⟨hp, g, d, tk, os⟩ ∧ ∃ (vs ws : List Value) (ns' ms' : List Int), rest = vs.zip ws ∧
      IntsAre vs ns' ∧ IntsAre ws ms' ∧ ns'.length + items2.size = ms'.length + items.size ∧ R (.ok (.ret (.bool (lexLt ns' ms')))) ⟨hp, g, d, tk, os⟩) _
    case turn =>
      rintro ⟨y, x⟩ rest b s' ⟨hb', rfl, vs, ws, ns', ms', hz, hvi, hwi, hlen, hR⟩
      cases hvi with
      | nil => rw [List.zip_nil_left] at hz; cases hz
      | cons a t hvi' =>
        cases hwi with
        | nil => rw [List.zip_nil_right] at hz; cases hz
        | cons c u hwi' =>
          rw [List.zip_cons_cons] at hz
          injection hz with hyx hrest
          injection hyx with hy hx
          subst hy hx
          rw [lexLt_cons] at hR
          simp only [List.length_cons] at hlen
          obtain ⟨e, he, hiff⟩ := eqAt_int A.in1 ⟨hp, g, d, tk, os⟩ a t c u
          refine wpAny_bind (he prog w _ _ ?_)
          cases e with
          | true =>
            rw [if_pos (hiff.mp rfl)] at hR
            wp_walk
            exact ⟨rfl, rfl, _, _, _, _, hrest, hvi', hwi', by omega, hR⟩
          | false =>
            rw [if_neg (fun q => absurd (hiff.mpr q) Bool.false_ne_true)] at hR
            have hri := rcLt_int A.in1 ⟨hp, g, d, tk, os⟩ a t c u prog w
            wp_walk using hri
            exact ⟨_, rfl, by simpa using hR⟩
    case fin =>
      rintro ⟨b1, b2⟩ s' ⟨hb', rfl, vs, ws, ns', ms', hz, hvi, hwi, hlen, hR⟩
      simp only at hb'
      subst hb'
      have hv : lexLt ns' ms' = decide (items.size < items2.size) := by
        cases hvi with
        | nil =>
          cases hwi with
          | nil =>
            simp only [List.length_nil] at hlen
            rw [lexLt_nil_nil]
            exact (decide_eq_false (by omega)).symm
          | cons c u hw =>
            simp only [List.length_nil, List.length_cons] at hlen
            rw [lexLt_nil_cons]
            exact (decide_eq_true (by omega)).symm
        | cons a t hv =>
          cases hwi with
          | nil =>
            simp only [List.length_nil, List.length_cons] at hlen
            rw [lexLt_cons_nil]
            exact (decide_eq_false (by omega)).symm
          | cons c u hw =>
            rw [List.zip_cons_cons] at hz
            cases hz
      rw [hv] at hR
      wp_walk
      exact ⟨_, rfl, by simpa [Builtin.Tuple.tupleCompareSizes] using hR⟩
    case h =>
      exact ⟨rfl, rfl, items.toList, items2.toList, ns, ms, rfl, hi, hj, by omega, h⟩
end

section
variable {prog : Program} {w : World} {A : Around} {E : Value → Shared → Prop} {s : Shared}

theorem lt_tupInts {l b : Addr} {items items2 : Array Value} {ns ms : List Int} {Q : Value → Shared → Prop} (hl : IsTup s.heap l items) (hb : IsTup s.heap b items2) (hi : IntsAre items.toList ns) (hj : IntsAre items2.toList ms)
    (hu : A.units < cLine) (h : Q (.bool (lexLt ns ms)) s) : wpAny (model prog w) A (compareOp .Lt (.ref l) (.ref b)) Q E s := by
  obtain ⟨⟨cls, dd, data, sl⟩, ho, hc, n, hd⟩ := id hl
  obtain ⟨⟨cls2, dd2, data2, sl2⟩, ho2, hc2, n2, hd2⟩ := id hb
  simp only at hc hd hc2 hd2
  subst hc hd hc2 hd2
  exact richCompare_meets_room (op := .Lt) ⟨_, ho, rfl⟩ ⟨_, ho2, rfl⟩ PySem.F.slot_tuple_lt PySem.F.entry_tuple_lt (PySem.F.args_tuple_lt_2 _ _) (tuple_lt_ints l b items items2 n n2 dd dd2 sl sl2 ns ms hi hj)
    ⟨ho, ho2, show Value.bool (lexLt ns ms) ≠ Value.notImplemented ∧ Q (.bool (lexLt ns ms)) s from ⟨(fun x => nomatch x), h⟩⟩ hu

/-- t + u, t not empty -/
theorem cat_tup {t b : Addr} {vs ws : List Value} {Q : Value → Shared → Prop} (ht : IsTup s.heap t vs.toArray) (hb : IsTup s.heap b ws.toArray) (hv : vs ≠ [])
    (h1 : ws = [] → Q (.ref t) s) (h2 : ws ≠ [] → Q (.ref s.heap.objs.size) { s with heap := s.heap.push { cls := .type "tuple", data := .seq (vs ++ ws).toArray } })
    (hsz : vs.length + ws.length ≤ sizeLine) : wpAny (model prog w) A (binaryOp .Add (.ref t) (.ref b)) Q E s := by
  obtain ⟨⟨cls, dd, data, sl⟩, ho, hc, n, hd⟩ := id ht
  obtain ⟨⟨cls2, dd2, data2, sl2⟩, ho2, hc2, n2, hd2⟩ := id hb
  simp only at hc hd hc2 hd2
  subst hc hd hc2 hd2
  have e : vs.toArray ++ ws.toArray = (vs ++ ws).toArray := by simp
  by_cases hw : ws = []
  · exact concat_meets ⟨_, ho, rfl⟩ ⟨_, ho2, rfl⟩ noFill_tuple_add seq_tuple_add PySem.F.slot_tuple_add PySem.F.entry_tuple_add (PySem.F.args_tuple_add_2 _ _)
      (tuple_addW1 t b vs.toArray ws.toArray n n2 dd dd2 sl sl2 (by simpa using hv) (by simp [hw])) ⟨ho, ho2, h1 hw⟩
  · refine concat_meets ⟨_, ho, rfl⟩ ⟨_, ho2, rfl⟩ noFill_tuple_add seq_tuple_add PySem.F.slot_tuple_add PySem.F.entry_tuple_add (PySem.F.args_tuple_add_2 _ _)
      (tuple_addW2 t b vs.toArray ws.toArray n n2 dd dd2 sl sl2 (by simpa using hv) (by simpa using hw) (by rw [List.size_toArray, List.size_toArray]; exact hsz)) ⟨ho, ho2, ?_⟩
    rw [e]
    exact h2 hw

/-! ### t[a:b], not the whole -/
/-- a slice's bound as a place among n (d where it is left out) -/
def sIx (n d : Nat) : Option Int → Nat
  | none => d
  | some v => if v < 0 then (v + (n : Int)).toNat else min v.toNat n
theorem sIx_none (n d : Nat) : sIx n d none = d := rfl
theorem sIx_nat (n d k : Nat) : sIx n d (some (k : Int)) = min k n := by
  show (if (k : Int) < 0 then ((k : Int) + (n : Int)).toNat else min (k : Int).toNat n) = min k n
  rw [if_neg (by omega), Int.toNat_natCast]
theorem sIx_le (n d : Nat) (hd : d ≤ n) (o : Option Int) : sIx n d o ≤ n := by
  cases o with
  | none => exact hd
  | some v =>
    show (if v < 0 then (v + (n : Int)).toNat else min v.toNat n) ≤ n
    by_cases hv : v < 0
    · rw [if_pos hv]; omega
    · rw [if_neg hv]; exact Nat.min_le_right _ _
theorem clip_eq (v : Int) (n d : Nat) : (if v < 0 then max (v + (n : Int)) 0 else min v (n : Int)) = ((sIx n d (some v) : Nat) : Int) := by
  show (if v < 0 then max (v + (n : Int)) 0 else min v (n : Int)) = (((if v < 0 then (v + (n : Int)).toNat else min v.toNat n) : Nat) : Int)
  by_cases hv : v < 0
  · simp only [if_pos hv]; omega
  · simp only [if_neg hv]; omega
theorem adjust_gen (lo hi : Option Int) (n : Nat) : Builtin.Slice.sliceAdjust lo hi 1 (n : Int) = (((sIx n 0 lo : Nat) : Int), ((sIx n n hi : Nat) : Int)) := by
  have h1 : ¬ ((1 : Int) < 0) := by omega
  unfold Builtin.Slice.sliceAdjust
  simp only [h1, if_false]
  refine Prod.ext ?_ ?_
  · cases lo with
    | none => rfl
    | some v => exact clip_eq v n 0
  · cases hi with
    | none => rfl
    | some v => exact clip_eq v n n
theorem places_gen (i j : Nat) : Builtin.Slice.slicePlaces (i : Int) (j : Int) 1 = j - i := by
  unfold Builtin.Slice.slicePlaces
  have h1 : (1 : Int) > 0 := by omega
  simp only [h1, if_true, Int.ediv_one]
  split <;> omega
theorem slicePart_ {v : Value} {o : Option Int} {Q : Option Int → Shared → Prop} (p : IsPart v o) (h : Q o s) : wpAny (model prog w) A (Builtin.Slice.slicePartIndex v) Q E s := by
  cases p with
  | none => exact slicePart_none h
  | int i t => exact slicePart_int h
theorem sliceApplied_gen {sl : Addr} {vl vu : Value} {lo hi : Option Int} {n : Nat} {Q : Int × Int × Nat → Shared → Prop} (hs : s.heap.IsSliceOf sl vl vu .none) (pl : IsPart vl lo) (pu : IsPart vu hi)
    (h : Q (((sIx n 0 lo : Nat) : Int), 1, sIx n n hi - sIx n 0 lo) s) : wpAny (model prog w) A (Builtin.Slice.sliceApplied (.ref sl) (pure (n : Int))) Q E s := by
  obtain ⟨os, hos, hcs, hds⟩ := id hs
  unfold Builtin.Slice.sliceApplied Builtin.Slice.sliceFields
  refine wpAny_bind (wpAny_bind (wpAny_field hos hds (x := vl) rfl (wpAny_bind (wpAny_field hos hds (x := vu) rfl (wpAny_bind (wpAny_field hos hds (x := .none) rfl (wpAny_pure ?_)))))))
  refine wpAny_bind (slicePart_none ?_)
  show wpAny _ _ (if ((1 : Int) == 0) = true then _ else _) _ _ s
  rw [if_neg (by decide)]
  refine wpAny_bind (slicePart_ pl (wpAny_bind (slicePart_ pu (wpAny_bind (wpAny_pure ?_)))))
  show wpAny _ _ (match Builtin.Slice.sliceAdjust lo hi 1 (n : Int) with | (lo, hi) => pure (lo, (1 : Int), Builtin.Slice.slicePlaces lo hi 1)) _ _ s
  rw [adjust_gen lo hi n]
  show wpAny _ _ (pure (((sIx n 0 lo : Nat) : Int), (1 : Int), Builtin.Slice.slicePlaces ((sIx n 0 lo : Nat) : Int) ((sIx n n hi : Nat) : Int) 1)) _ _ s
  rw [places_gen]
  exact wpAny_pure h
theorem pick_gen (xs : Array Value) (i k : Nat) : ((List.range k).filterMap fun (m : Nat) => xs[((i : Int) + (m : Int) * 1).toNat]?).toArray = ((xs.toList.drop i).take k).toArray := by
  have e : (fun (m : Nat) => xs[((i : Int) + (m : Int) * 1).toNat]?) = fun m => xs[i + m]? := by
    funext m
    have : ((i : Int) + (m : Int) * 1).toNat = i + m := by omega
    rw [this]
  rw [e]
  have := pick_run xs i k
  rw [List.filterMap_map] at this
  have e2 : ((fun x => xs[x]?) ∘ fun x => i + x) = fun m => xs[i + m]? := rfl
  rw [e2] at this
  rw [this]

theorem getItem_tuple_cut {t sl : Addr} {items : Array Value} {vl vu : Value} {lo hi : Option Int} {Q : Value → Shared → Prop} (ht : IsTup s.heap t items) (hs : s.heap.IsSliceOf sl vl vu .none) (pl : IsPart vl lo) (pu : IsPart vu hi)
    (hw : ¬ (sIx items.size 0 lo = 0 ∧ sIx items.size items.size hi = items.size))
    (h : Q (.ref s.heap.objs.size) { s with heap := s.heap.push { cls := .type "tuple", data := .seq ((items.toList.drop (sIx items.size 0 lo)).take (sIx items.size items.size hi - sIx items.size 0 lo)).toArray } })
    (hsz : items.size ≤ sizeLine) : wpAny (model prog w) A (getItem (.ref t) (.ref sl)) Q E s := by
  have htake : sizeOk (.seq ((items.toList.drop (sIx items.size 0 lo)).take (sIx items.size items.size hi - sIx items.size 0 lo)).toArray) := by
    show ((items.toList.drop (sIx items.size 0 lo)).take (sIx items.size items.size hi - sIx items.size 0 lo)).toArray.size ≤ sizeLine
    rw [List.size_toArray, List.length_take, List.length_drop, Array.length_toList]
    omega
  have hj : sIx items.size items.size hi ≤ items.size := sIx_le _ _ (Nat.le_refl _) hi
  obtain ⟨os, hos, hcs, hds⟩ := id hs
  have hTs : s.TypeIs (.ref sl) "slice" := ⟨os, hos, hcs⟩
  unfold getItem
  try with_reducible refine wpAny_holding ?_
  first | refine wpAny_bind (wpAny_pure ?_) | skip
  refine wpAny_bind (wpAny_sequenceKey ht.typeIs (by decide) ?_)
  refine wpAny_bind (wpAny_callSpecial?_slot (name := Str.ofString "__getitem__") ht.typeIs PyProof.Rows.slot_tuple_getitem
    (wpAny_call_entry PyProof.Rows.slot_tuple_getitem ht.typeIs entry_tuple_getitem ?_ (args_tuple_getitem _ _)))
  show wpAny _ _ (Builtin.Tuple.tupleItemsOf (.ref t) >>= _) _ _ s
  refine wpAny_bind (tupleItemsOf_ ht ?_)
  refine wpAny_bind (wpAny_typeOf hTs ?_)
  rw [if_pos (by decide)]
  refine wpAny_bind (sliceApplied_gen hs pl pu ?_)
  have hno : ¬ ((((sIx items.size 0 lo : Nat) : Int) == 0 && (1 : Int) == 1 && (sIx items.size items.size hi - sIx items.size 0 lo) == items.size) = true) := by
    intro q
    rw [Bool.and_eq_true, Bool.and_eq_true] at q
    have q1 : ((sIx items.size 0 lo : Nat) : Int) = 0 := eq_of_beq q.1.1
    have q2 : sIx items.size items.size hi - sIx items.size 0 lo = items.size := eq_of_beq q.2
    exact hw ⟨by omega, by omega⟩
  show wpAny _ _ (if (((sIx items.size 0 lo : Nat) : Int) == 0 && (1 : Int) == 1 && (sIx items.size items.size hi - sIx items.size 0 lo) == items.size) = true then _ else _) _ _ s
  rw [if_neg hno, pick_gen]
  first
    | exact wpAny_bind (m := Builtin.Tuple.tupleExact _) (wpAny_newObj_type (wpAny_pure ⟨_, rfl, wpAny_pure h⟩) htake)
    | exact wpAny_bind (m := Builtin.Tuple.tupleExact _) (wpAny_newObj_type (wpAny_bind (wpAny_pure (wpAny_pure ⟨_, rfl, wpAny_pure h⟩))) htake)
    | exact wpAny_bind (wpAny_bind (m := Builtin.Tuple.tupleExact _) (wpAny_newObj_type (wpAny_pure (wpAny_pure ⟨_, rfl, wpAny_pure h⟩)) htake))
    | exact wpAny_bind (wpAny_bind (m := Builtin.Tuple.tupleExact _) (wpAny_newObj_type (wpAny_pure ⟨_, rfl, wpAny_pure h⟩) htake))
end
end HT

namespace L2
open PySem PySem.Spec PyProof.Rows

/-! ### the parts of a slice -/
abbrev TO := St → Hp → (Option Int → Hp → Prop) → Prop
/-- a slice's part (left out, or an int) -/
def PO (X : Cx) (e : Option Expr) (t : TO) : Prop :=
  ∀ (pins : List (Addr × Obj)) (s : Shared) (σ : St) (H : Hp) (Q : Option Int → Hp → Prop), Inv X pins σ H s → t σ H Q →
    wpAny (model X.prog X.w) X.A (evalPart e X.env) (fun u s' => ∃ o H', Inv X pins σ H' s' ∧ IsPart u o ∧ Q o H') X.xe s
def tNoPart : TO := fun _ H Q => Q none H
def tPart (t : TE) : TO := fun σ H Q => t σ H fun x H1 => ∃ i, x = .int i ∧ Q (some i) H1

theorem intsAre_of {ns : List Int} : ∀ {us : List Value}, Vals (ns.map V.int) us → IntsAre us ns := by
  induction ns with
  | nil => intro us r; rw [List.map_nil] at r; cases r; exact .nil
  | cons n ns ih =>
    intro us r
    rw [List.map_cons] at r
    cases r with
    | cons r1 r2 =>
      obtain ⟨t, e⟩ := r1
      subst e
      exact .cons n t (ih r2)

section
variable {X : Cx} {e : Expr} {te : TE} {lo hi : Option Expr} {tl th : TO} {pos p2 : Pos}

theorem po_none : PO X none tNoPart := by
  intro pins s σ H Q I h
  rw [evalPart_none]
  exact wpAny_pure ⟨none, H, I, .none, h⟩
theorem po_some (h : PE X e te) : PO X (some e) (tPart te) := by
  intro pins s σ H Q I hw
  rw [evalPart_some]
  refine thn (h pins s σ H _ I hw) fun u s1 ⟨x, H1, I1, r1, q1⟩ => ?_
  obtain ⟨i, rfl, q⟩ := q1
  obtain ⟨t, rfl⟩ := r1
  exact ⟨some i, H1, I1, .int i t, q⟩

/-- what a slice of a value is, by values: the slice object stands at sl -/
def SlR (X : Cx) (r : V → Option Int → Option Int → Hp → VK → Prop) : Prop :=
  ∀ (pins : List (Addr × Obj)) (s : Shared) (σ : St) (H : Hp) (x : V) (v vl vu : Value) (lo hi : Option Int) (sl : Addr) (Q : VK), Inv X pins σ H s → RelV x v → s.heap.IsSliceOf sl vl vu .none → IsPart vl lo → IsPart vu hi → r x lo hi H Q →
    ∃ T id, typeLookup (.type T) "__getitem__" = pure (some (.builtin id)) ∧ s.TypeIs v T ∧ wpAny (model X.prog X.w) X.A (getItem v (.ref sl)) (EP X pins σ Q) X.xe s
theorem SlR.or {r r' : V → Option Int → Option Int → Hp → VK → Prop} (h : SlR X r) (h' : SlR X r') : SlR X (fun x lo hi H Q => r x lo hi H Q ∨ r' x lo hi H Q) := by
  intro pins s σ H x v vl vu lo hi sl Q I rx hs pl pu q
  rcases q with q | q
  · exact h pins s σ H x v vl vu lo hi sl Q I rx hs pl pu q
  · exact h' pins s σ H x v vl vu lo hi sl Q I rx hs pl pu q
def tSl (r : V → Option Int → Option Int → Hp → VK → Prop) (te : TE) (tl th : TO) : TE := fun σ H Q => te σ H fun x H1 => tl σ H1 fun l H2 => th σ H2 fun u H3 => r x l u H3 Q
/-- a[lo:hi], any a -/
theorem pe_slice {r : V → Option Int → Option Int → Hp → VK → Prop} (hr : SlR X r) (he : PE X e te) (hl : PO X lo tl) (hu : PO X hi th) : PE X (.Subscript e (.Slice lo hi none p2) pos) (tSl r te tl th) := by
  intro pins s σ H Q I h
  refine Subscript_ (thn (he pins s σ H _ I h) fun v s1 ⟨x, H1, I1, r1, q1⟩ => ?_)
  refine wpAny_Slice (thn (hl pins s1 σ H1 _ I1 q1) fun vl s2 ⟨l, H2, I2, pl, q2⟩ => thn (hu pins s2 σ H2 _ I2 q2) fun vu s3 ⟨u, H3, I3, pu, q3⟩ => ?_)
  rw [evalPart_none]
  refine wpAny_pure ?_
  have I4 : Inv X pins σ H3 { s3 with heap := s3.heap.push { cls := .type "slice", data := .fields #[vl, vu, .none] } } := I3.kept (t' := s3.toks) fun b ob q => Heap.get?_push_of_some _ q
  obtain ⟨T, id, hT, ht, hg⟩ := hr pins { s3 with heap := s3.heap.push { cls := .type "slice", data := .fields #[vl, vu, .none] } } σ H3 x v vl vu l u s3.heap.objs.size Q I4 r1 (Heap.IsSliceOf.new ..) pl pu q3
  show wpAny (model X.prog X.w) X.A (subscriptTail e (.Slice lo hi none p2) v (.ref s3.heap.objs.size)) (EP X pins σ Q) X.xe { s3 with heap := s3.heap.push { cls := .type "slice", data := .fields #[vl, vu, .none] } }
  exact tail_any (ops := [.ref s3.heap.objs.size, v]) ht hT hg (by with_unfolding_all rfl)

/-- the items of xs[lo:hi] -/
def cutV (xs : List V) (lo hi : Option Int) : List V := (xs.drop (HT.sIx xs.length 0 lo)).take (HT.sIx xs.length xs.length hi - HT.sIx xs.length 0 lo)
theorem cutV_length (xs : List V) (lo hi : Option Int) : (cutV xs lo hi).length ≤ xs.length := by
  unfold cutV
  rw [List.length_take, List.length_drop]
  omega
/-- t[lo:hi], not the whole of it (the whole would be t itself) -/
def rSlT (K : PySem.W.Frag) : V → Option Int → Option Int → Hp → VK → Prop := fun x lo hi H Q => ∃ a xs, x = .ref a ∧ SqT K H a xs ∧
  ¬ (HT.sIx xs.length 0 lo = 0 ∧ HT.sIx xs.length xs.length hi = xs.length) ∧ ∀ p, H p = none → Q (.ref p) (upd H p (.tup (cutV xs lo hi)))
theorem sl_tup : SlR X (rSlT X.K) := by
  intro pins s σ H x v vl vu lo hi sl Q I rx hs pl pu h
  obtain ⟨a, xs, rfl, hx, hw, q⟩ := h
  cases rx
  obtain ⟨its, r, ht, hz⟩ := I.tuple hx
  have hlen : its.toArray.size = xs.length := by rw [List.size_toArray]; exact r.length.symm
  refine ⟨"tuple", _, PyProof.Rows.slot_tuple_getitem.lookup, ht.typeIs, ?_⟩
  refine HT.getItem_tuple_cut ht hs pl pu (by rw [hlen]; exact hw) ?_ (by rw [hlen]; exact hz)
  rw [hlen]
  refine ⟨.ref s.heap.objs.size, _, I.laid (t' := s.toks) (o := .tup (cutV xs lo hi)) (fun b ob q => Heap.get?_push_of_some _ q) (Nat.le_refl _) ?_, rfl, q _ (I.hok.fresh (Nat.le_refl _))⟩
  exact ⟨Nat.le_trans (cutV_length xs lo hi) hz, _, (r.drop (HT.sIx xs.length 0 lo)).take (HT.sIx xs.length xs.length hi - HT.sIx xs.length 0 lo), IsTup.new _ _⟩

/-! ### t < u, t + u -/
def rLtT (K : PySem.W.Frag) : R2 := fun x y H Q => ∃ a b ns ms, x = .ref a ∧ y = .ref b ∧ SqT K H a (ns.map V.int) ∧ SqT K H b (ms.map V.int) ∧ Q (.bl (HT.lexLt ns ms)) H
theorem op_ltT (hu : X.A.units < cLine) : OpR X (compareOp .Lt) (rLtT X.K) := by
  intro pins s σ H x y v u Q I rx ry h
  obtain ⟨a, b, ns, ms, rfl, rfl, ha, hb, q⟩ := h
  cases rx
  cases ry
  obtain ⟨its, r1, p1, _⟩ := I.tuple ha
  obtain ⟨its2, r2, p2, _⟩ := I.tuple hb
  have i1 : IntsAre its.toArray.toList ns := intsAre_of r1
  have i2 : IntsAre its2.toArray.toList ms := intsAre_of r2
  exact HT.lt_tupInts p1 p2 i1 i2 hu ⟨.bl (HT.lexLt ns ms), H, I, rfl, q⟩
/-- t + u, t not empty: u empty gives t itself -/
def rCatT (K : PySem.W.Frag) : R2 := fun x y H Q => ∃ a b xs ys, x = .ref a ∧ y = .ref b ∧ SqT K H a xs ∧ SqT K H b ys ∧ xs ≠ [] ∧ xs.length + ys.length ≤ sizeLine ∧
  (ys = [] → Q (.ref a) H) ∧ (ys ≠ [] → ∀ p, H p = none → Q (.ref p) (upd H p (.tup (xs ++ ys))))
theorem Vals.nil_iff {xs : List V} {us : List Value} (r : Vals xs us) : us = [] ↔ xs = [] := by
  cases r with
  | nil => simp
  | cons _ _ => simp
theorem op_catT : OpR X (binaryOp .Add) (rCatT X.K) := by
  intro pins s σ H x y v u Q I rx ry h
  obtain ⟨a, b, xs, ys, rfl, rfl, ha, hb, hx, hz, q1, q2⟩ := h
  cases rx
  cases ry
  obtain ⟨its, r1, p1, _⟩ := I.tuple ha
  obtain ⟨its2, r2, p2, _⟩ := I.tuple hb
  refine HT.cat_tup p1 p2 (fun z => hx (r1.nil_iff.mp z)) (fun z => ⟨.ref a, H, I, rfl, q1 (r2.nil_iff.mp z)⟩) (fun z => ?_) (by rw [← r1.length, ← r2.length]; exact hz)
  refine ⟨.ref s.heap.objs.size, _, I.laid (t' := s.toks) (o := .tup (xs ++ ys)) (fun b ob q => Heap.get?_push_of_some _ q) (Nat.le_refl _) ?_, rfl, q2 (fun w => z (r2.nil_iff.mpr w)) _ (I.hok.fresh (Nat.le_refl _))⟩
  exact ⟨by rw [List.length_append]; exact hz, _, r1.append r2, IsTup.new _ _⟩
/-- tuple(t) -/
theorem call_tupleT : CallR X (.type "tuple") (fun xs H Q => ∃ a ys, xs = [.ref a] ∧ SqT X.K H a ys ∧ Q (.ref a) H) := by
  intro pins s σ H xs us Q I r h
  obtain ⟨a, ys, rfl, ha, q⟩ := h
  obtain ⟨u, rfl, ru⟩ := vals1 r
  cases ru
  obtain ⟨its, _, p1, _⟩ := I.tuple ha
  exact call_tuple_same (items := its.toArray) p1 ⟨.ref a, H, I, rfl, q⟩
end
end L2

namespace L2
open PySem PySem.Spec PyProof.Rows

/-! ### places -/
/-- the place that an index of any sign means -/
def ixN (n : Nat) (i : Int) : Option Nat := if 0 ≤ i then (if i < n then some i.toNat else none) else if -(n : Int) ≤ i then some (i + n).toNat else none
def atI {α : Type} (xs : List α) (i : Int) : Option α := (ixN xs.length i).bind fun j => xs[j]?
theorem ixN_seq {n : Nat} {i : Int} {j : Nat} (h : ixN n i = some j) : seqIndex? i n = some j ∧ j < n ∧ -(n : Int) ≤ i ∧ i < n := by
  unfold ixN at h
  by_cases h0 : 0 ≤ i
  · rw [if_pos h0] at h
    by_cases h1 : i < n
    · rw [if_pos h1] at h
      have e : i.toNat = j := Option.some.inj h
      exact ⟨by rw [seqIndex_of h0 h1, e], by omega, by omega, h1⟩
    · rw [if_neg h1] at h; cases h
  · rw [if_neg h0] at h
    by_cases h1 : -(n : Int) ≤ i
    · rw [if_pos h1] at h
      have e : (i + n).toNat = j := Option.some.inj h
      exact ⟨by rw [seqIndex_neg (by omega) h1, e], by omega, h1, by omega⟩
    · rw [if_neg h1] at h; cases h
theorem atI_get {α : Type} {xs : List α} {i : Int} {v : α} (h : atI xs i = some v) : ∃ j, seqIndex? i xs.length = some j ∧ xs[j]? = some v ∧ j < xs.length ∧ -(xs.length : Int) ≤ i ∧ i < xs.length := by
  unfold atI at h
  cases e : ixN xs.length i with
  | none => rw [e] at h; cases h
  | some j =>
    rw [e] at h
    obtain ⟨h1, h2, h3, h4⟩ := ixN_seq e
    exact ⟨j, h1, h, h2, h3, h4⟩
theorem atI_nat {α : Type} {xs : List α} {j : Nat} {v : α} (h : xs[j]? = some v) : atI xs (j : Int) = some v := by
  have hj : j < xs.length := (List.getElem?_eq_some_iff.mp h).1
  have e : ixN xs.length (j : Int) = some j := by
    unfold ixN
    rw [if_pos (by omega), if_pos (by omega)]; simp
  unfold atI; rw [e]; exact h
theorem atI_last {α : Type} (xs : List α) (v : α) : atI (xs ++ [v]) (-1) = some v := by
  have hl : (xs ++ [v]).length = xs.length + 1 := by simp
  have e : ixN (xs ++ [v]).length (-1) = some xs.length := by
    unfold ixN
    rw [hl, if_neg (by decide), if_pos (by omega)]
    congr 1
    omega
  unfold atI
  rw [e]
  show (xs ++ [v])[xs.length]? = some v
  simp

/-! ### what may be subscripted -/
/-- what stands as an index of a plain subscript -/
def PlainIx (b : Expr) : Prop := ∀ o i, subscripted b false o i = operate [o, i] (getItem o i)
/-- a subscript by values -/
def IxR (X : Cx) (r : R2) : Prop :=
  ∀ (value slice : Expr) (pins : List (Addr × Obj)) (s : Shared) (σ : St) (H : Hp) (x y : V) (v u : Value) (Q : VK), Inv X pins σ H s → RelV x v → RelV y u → r x y H Q →
    subscripted slice false v u = operate [v, u] (getItem v u) → wpAny (model X.prog X.w) X.A (subscriptTail value slice v u) (EP X pins σ Q) X.xe s
/-- a call of a builtin's method by values: the receiver, the arguments -/
def MtR (X : Cx) (id : String) (r : V → List V → Hp → VK → Prop) : Prop :=
  ∀ (pins : List (Addr × Obj)) (s : Shared) (σ : St) (H : Hp) (x : V) (xs : List V) (v : Value) (us : List Value) (Q : VK), Inv X pins σ H s → RelV x v → Vals xs us → r x xs H Q →
    wpAny (model X.prog X.w) X.A (call (.builtin id) (v :: us)) (EP X pins σ Q) X.xe s
section
variable {X : Cx} {a b : Expr} {ta tb : TE} {pos : Pos}
theorem IxR.or {r r' : R2} (h : IxR X r) (h' : IxR X r') : IxR X (fun x y H Q => r x y H Q ∨ r' x y H Q) := by
  intro value slice pins s σ H x y v u Q I rx ry q hs
  rcases q with q | q
  · exact h value slice pins s σ H x y v u Q I rx ry q hs
  · exact h' value slice pins s σ H x y v u Q I rx ry q hs
theorem MtR.or {id : String} {r r' : V → List V → Hp → VK → Prop} (h : MtR X id r) (h' : MtR X id r') : MtR X id (fun x xs H Q => r x xs H Q ∨ r' x xs H Q) := by
  intro pins s σ H x xs v us Q I rx rs q
  rcases q with q | q
  · exact h pins s σ H x xs v us Q I rx rs q
  · exact h' pins s σ H x xs v us Q I rx rs q
/-- a[b] -/
theorem pe_ix {r : R2} (hr : IxR X r) (ha : PE X a ta) (hb : PE X b tb) (hs : PlainIx b) : PE X (.Subscript a b pos) (tOp r ta tb) := by
  intro pins s σ H Q I h
  exact Subscript_ (binT ha hb I h fun v u s2 x y H2 I2 rx ry q => hr a b pins s2 σ H2 x y v u Q I2 rx ry q (hs _ _))

def rIxL (K : PySem.W.Frag) : R2 := fun x y H Q => ∃ p xs i v, x = .ref p ∧ y = .int i ∧ SqL K H p xs ∧ atI xs i = some v ∧ Q v H
def rIxT (K : PySem.W.Frag) : R2 := fun x y H Q => ∃ p xs i v, x = .ref p ∧ y = .int i ∧ SqT K H p xs ∧ atI xs i = some v ∧ Q v H
def rIxS : R2 := fun x y H Q => ∃ z i c, x = .str z ∧ y = .int i ∧ z.length ≤ sizeLine ∧ atI z.cps.toList i = some c ∧ Q (.str ⟨#[c]⟩) H
theorem ix_list : IxR X (rIxL X.K) := by
  intro value slice pins s σ H x y v u Q I rx ry h hs
  obtain ⟨p, xs, i, z, rfl, rfl, hq, he, q⟩ := h
  cases rx
  obtain ⟨t, rfl⟩ := ry
  obtain ⟨its, r, pl, hz⟩ := I.list hq
  obtain ⟨j, h1, h2, h3, h4, h5⟩ := atI_get he
  obtain ⟨w, ew, rw'⟩ := r.get h2
  have hl := r.length
  have hn := line63
  have fin : EP X pins σ Q w s := ⟨z, H, I, rw', q⟩
  by_cases h0 : 0 ≤ i
  · have hj : i.toNat = j := by
      rw [seqIndex_of h0 h5] at h1
      exact Option.some.inj h1
    exact item_listR pl.isList h0 (by omega) (by rw [hj]; simpa using ew) fin hs
  · have hj : (i + (its.toArray.size : Int)).toNat = j := by
      rw [seqIndex_neg (by omega) h4] at h1
      rw [List.size_toArray, ← hl]
      exact Option.some.inj h1
    exact subscriptTail_builtinR (x := w) pl.isList.typeIs slot_list_getitem.lookup
      (wpAny_getItem_list_neg (Q := fun r s' => r = w ∧ EP X pins σ Q r s') pl.isList (by omega) (by rw [List.size_toArray] <;> omega) (by omega) (by rw [hj]; simpa using ew) ⟨rfl, fin⟩) hs
theorem ix_tup : IxR X (rIxT X.K) := by
  intro value slice pins s σ H x y v u Q I rx ry h hs
  obtain ⟨p, xs, i, z, rfl, rfl, hq, he, q⟩ := h
  cases rx
  obtain ⟨t, rfl⟩ := ry
  obtain ⟨its, r, pl, hz⟩ := I.tuple hq
  obtain ⟨j, h1, h2, h3, h4, h5⟩ := atI_get he
  obtain ⟨w, ew, rw'⟩ := r.get h2
  have hl := r.length
  have hn := line63
  have fin : EP X pins σ Q w s := ⟨z, H, I, rw', q⟩
  exact subscriptTail_builtinR (x := w) pl.typeIs slot_tuple_getitem.lookup
    (getItem_tuple (j := j) (Q := fun r s' => r = w ∧ EP X pins σ Q r s') pl (by omega) (by omega) (by rw [List.size_toArray, ← hl]; exact h1) (by simpa using ew) ⟨rfl, fin⟩) hs
theorem ix_str : IxR X rIxS := by
  intro value slice pins s σ H x y v u Q I rx ry h hs
  obtain ⟨z, i, c, rfl, rfl, hz, he, q⟩ := h
  obtain ⟨t, rfl⟩ := rx
  obtain ⟨t', rfl⟩ := ry
  obtain ⟨j, h1, h2, h3, h4, h5⟩ := atI_get he
  have hl : z.cps.toList.length = z.length := by simp [Str.length]
  rw [hl] at h1 h4 h5
  have hn := line63
  exact tail_any (typeIs_str s z t) slot_str_getitem.lookup (getItem_str (c := c) (by
    have e1 : decide (i < -(2 ^ 63 : Int)) = false := decide_eq_false (by omega)
    have e2 : decide (i ≥ 2 ^ 63) = false := decide_eq_false (by omega)
    rw [e1, e2, Bool.or_false]) (by rw [h1]; simpa using h2) ⟨.str ⟨#[c]⟩, H, I.tok _, ⟨_, rfl⟩, q⟩) hs
/-- list, tuple or str -/
def rIx (K : PySem.W.Frag) : R2 := fun x y H Q => rIxL K x y H Q ∨ rIxT K x y H Q ∨ rIxS x y H Q
theorem ix_seq : IxR X (rIx X.K) := ix_list.or (ix_tup.or ix_str)

/-! ### xs[i] = v, any sign -/
/-- the list's object behind a store -/
theorem mapSeq_set (its : List Value) (n j : Nat) (u : Value) : Obj.mapSeq (·.setIfInBounds j u) { cls := .type "list", data := .seq its.toArray n } = { cls := .type "list", data := .seq (its.set j u).toArray n } := by
  simp [Obj.mapSeq]
theorem Inv.lst {pins : List (Addr × Obj)} {σ : St} {H : Hp} {s : Shared} {p : Addr} {xs : List V} (I : Inv X pins σ H s) (h : H p = some (.lst xs)) :
    ∃ (its : List Value) (n : Nat), Vals xs its ∧ s.heap.get? p = some { cls := .type "list", data := .seq its.toArray n } ∧ xs.length ≤ sizeLine := by
  obtain ⟨z, its, n, r, e⟩ := I.hok p _ h
  exact ⟨its, n, r, e, z⟩
/-- the list at p is written by an update of its object -/
theorem Inv.lstUpd {pins : List (Addr × Obj)} {σ : St} {H : Hp} {s : Shared} {p : Addr} {xs ys : List V} {its its' : List Value} {n n' : Nat} {f : Obj → Obj} (I : Inv X pins σ H s) (h : H p = some (.lst xs))
    (ho : s.heap.get? p = some { cls := .type "list", data := .seq its.toArray n }) (hf : f { cls := .type "list", data := .seq its.toArray n } = { cls := .type "list", data := .seq its'.toArray n' }) (r : Vals ys its') (hz : ys.length ≤ sizeLine) (t : Nat) :
    Inv X pins σ (upd H p (.lst ys)) { s with heap := s.heap.update p f, toks := t } := by
  have e : (s.heap.update p f).get? p = some { cls := .type "list", data := .seq its'.toArray n' } := by
    rw [Heap.get?_update_self f ho (by rw [hf] <;> rfl), hf]
  refine I.write (x := p) (e := p) (by rw [h]; trivial) (.inl rfl) (fun b u hb q => (Heap.get?_update_other _ _ (Ne.symm hb)).trans q) ⟨_, e⟩ ?_
  exact ⟨hz, its', n', r, e⟩
def rSetL : V → V → V → Hp → (Hp → Prop) → Prop := fun o i v H Q => ∃ p xs k j, o = .ref p ∧ i = .int k ∧ H p = some (.lst xs) ∧ ixN xs.length k = some j ∧ Q (upd H p (.lst (xs.set j v)))
theorem set_list : PSet X rSetL := by
  intro pins s σ H o i v ov iv u Q I ro ri rv h
  obtain ⟨p, xs, k, j, rfl, rfl, hp, hj, q⟩ := h
  cases ro
  obtain ⟨t, rfl⟩ := ri
  obtain ⟨its, n, r, ho, hz⟩ := I.lst hp
  obtain ⟨h1, h2, h3, h4⟩ := ixN_seq hj
  have hl := r.length
  have hn := line63
  have I' : Inv X pins σ (upd H p (.lst (xs.set j v))) { s with heap := s.heap.update p (Obj.mapSeq (·.setIfInBounds j u)) } :=
    I.lstUpd hp ho (mapSeq_set its n j u) (r.set rv j) (by rw [List.length_set]; exact hz) s.toks
  by_cases h0 : 0 ≤ k
  · have hk : k.toNat = j := by
      rw [seqIndex_of h0 h4] at h1
      exact Option.some.inj h1
    exact PySem.W.ki_setAt ho h0 (by omega) (by rw [List.size_toArray, ← hl]; exact h4) (by rw [hk]; exact ⟨_, I', q⟩)
  · have hk : (k + (its.toArray.size : Int)).toNat = j := by
      rw [seqIndex_neg (by omega) h3] at h1
      rw [List.size_toArray, ← hl]
      exact Option.some.inj h1
    exact PySem.W.ki_setBack ho (by omega) (by rw [List.size_toArray, ← hl]; exact h3) (by omega) (by rw [hk]; exact ⟨_, I', q⟩)

/-! ### slices -/
theorem slice_bounds (lo hi : Option Int) (n : Nat) : (sliceBounds lo hi none n).1 = ((HT.sIx n 0 lo : Nat) : Int) ∧ (sliceBounds lo hi none n).2.1 = ((HT.sIx n n hi : Nat) : Int) ∧ (sliceBounds lo hi none n).2.2 = 1 := by
  refine ⟨?_, ?_, rfl⟩
  · cases lo with
    | none => simp [sliceBounds, HT.sIx]
    | some i =>
      simp only [sliceBounds, HT.sIx, Option.getD_none, show (1 : Int) > 0 by decide, if_true]
      by_cases h : i < 0
      · simp only [h, if_true] <;> omega
      · simp only [h, if_false] <;> omega
  · cases hi with
    | none => simp [sliceBounds, HT.sIx]
    | some i =>
      simp only [sliceBounds, HT.sIx, Option.getD_none, show (1 : Int) > 0 by decide, if_true]
      by_cases h : i < 0
      · simp only [h, if_true] <;> omega
      · simp only [h, if_false] <;> omega
theorem slicePick_cut (its : List Value) (lo hi : Option Int) : slicePick its.toArray lo hi none = ((its.drop (HT.sIx its.length 0 lo)).take (HT.sIx its.length its.length hi - HT.sIx its.length 0 lo)).toArray := by
  obtain ⟨h1, h2, h3⟩ := slice_bounds lo hi its.toArray.size
  unfold slicePick
  rw [h1, h2, h3]
  simp only [sliceRange_one, pick_run, List.size_toArray] <;> rfl
/-- xs[lo:hi] of a list: a new list -/
def rSlL (K : PySem.W.Frag) : V → Option Int → Option Int → Hp → VK → Prop := fun x lo hi H Q => ∃ a xs, x = .ref a ∧ SqL K H a xs ∧ ∀ p, H p = none → Q (.ref p) (upd H p (.lst (cutV xs lo hi)))
theorem sl_list : SlR X (rSlL X.K) := by
  intro pins s σ H x v vl vu lo hi sl Q I rx hs pl pu h
  obtain ⟨a, xs, rfl, hx, q⟩ := h
  cases rx
  obtain ⟨its, r, ht, hz⟩ := I.list hx
  have hlen := r.length
  refine ⟨"list", _, slot_list_getitem.lookup, ht.isList.typeIs, ?_⟩
  refine wpAny_getItem_list_slice ht.isList hs pl pu .none (by simp) ?_ (by rw [List.size_toArray] <;> omega)
  rw [slicePick_cut, ← hlen]
  refine ⟨.ref s.heap.objs.size, _, I.laid (t' := s.toks) (o := .lst (cutV xs lo hi)) (fun b ob q => Heap.get?_push_of_some _ q) (Nat.le_refl _) ?_, rfl, q _ (I.hok.fresh (Nat.le_refl _))⟩
  exact ⟨Nat.le_trans (cutV_length xs lo hi) hz, _, 0, (r.drop (HT.sIx xs.length 0 lo)).take (HT.sIx xs.length xs.length hi - HT.sIx xs.length 0 lo), Heap.get?_push_size _ rfl⟩

/-! ### in, not in: flat items -/
def flatV : V → Bool
  | .non => true
  | .bl _ => true
  | .int _ => true
  | .str _ => true
  | _ => false
/-- == of flat values -/
def eqV : V → V → Bool
  | .non, .non => true
  | .bl a, .bl b => a == b
  | .bl a, .int b => (if a then 1 else 0) == b
  | .int a, .bl b => a == (if b then 1 else 0)
  | .int a, .int b => a == b
  | .str a, .str b => a == b
  | _, _ => false
theorem eqAt_V {A : Around} {s : Shared} {y x : V} {u v : Value} (ry : RelV y u) (rx : RelV x v) (fy : flatV y = true) (fx : flatV x = true) : SeqAt.EqAt A s u v (eqV y x) := by
  cases y with
  | non =>
    cases ry
    cases x with
    | non => cases rx; exact SeqAt.EqAt.same _
    | bl b => cases rx; exact SeqAt.EqAt.none_bool b
    | int b => obtain ⟨t, rfl⟩ := rx; exact SeqAt.EqAt.none_int b t
    | str b => obtain ⟨t, rfl⟩ := rx; exact SeqAt.EqAt.none_str b t
    | _ => exact absurd (show false = true from fx) Bool.false_ne_true
  | bl a =>
    cases ry
    cases x with
    | non => cases rx; exact SeqAt.EqAt.bool_none a
    | bl b => cases rx; exact SeqAt.EqAt.bool_bool a b
    | int b => obtain ⟨t, rfl⟩ := rx; exact SeqAt.EqAt.bool_int a b t
    | str b => obtain ⟨t, rfl⟩ := rx; exact SeqAt.EqAt.bool_str a b t
    | _ => exact absurd (show false = true from fx) Bool.false_ne_true
  | int a =>
    obtain ⟨t', rfl⟩ := ry
    cases x with
    | non => cases rx; exact SeqAt.EqAt.int_none a t'
    | bl b => cases rx; exact SeqAt.EqAt.int_bool a t' b
    | int b => obtain ⟨t, rfl⟩ := rx; exact SeqAt.EqAt.int_int a t' b t
    | str b => obtain ⟨t, rfl⟩ := rx; exact SeqAt.EqAt.int_str a t' b t
    | _ => exact absurd (show false = true from fx) Bool.false_ne_true
  | str a =>
    obtain ⟨t', rfl⟩ := ry
    cases x with
    | non => cases rx; exact SeqAt.EqAt.str_none a t'
    | bl b => cases rx; exact SeqAt.EqAt.str_bool a t' b
    | int b => obtain ⟨t, rfl⟩ := rx; exact SeqAt.EqAt.str_int a t' b t
    | str b => obtain ⟨t, rfl⟩ := rx; exact SeqAt.EqAt.str_str a t' b t
    | _ => exact absurd (show false = true from fx) Bool.false_ne_true
  | _ => exact absurd (show false = true from fy) Bool.false_ne_true
/-- the items' answers, read off the values (a value's own answer does not lean on its token) -/
def eqU (x : V) (u : Value) : Bool := match u with
  | .none => eqV .non x
  | .bool b => eqV (.bl b) x
  | .int i _ => eqV (.int i) x
  | .str z _ => eqV (.str z) x
  | _ => false
theorem eqU_of {x y : V} {u : Value} (r : RelV y u) (f : flatV y = true) : eqU x u = eqV y x := by
  cases y with
  | non => cases r; rfl
  | bl b => cases r; rfl
  | int i => obtain ⟨t, rfl⟩ := r; rfl
  | str z => obtain ⟨t, rfl⟩ := r; rfl
  | _ => exact absurd (show false = true from f) Bool.false_ne_true
theorem any_eqU {x : V} : ∀ {xs : List V} {us : List Value}, Vals xs us → xs.all flatV = true → us.any (eqU x) = xs.any fun y => eqV y x
  | _, _, .nil, _ => rfl
  | y :: xs, u :: us, .cons r t, f => by
    rw [List.all_cons, Bool.and_eq_true] at f
    rw [List.any_cons, List.any_cons, eqU_of r f.1, any_eqU t f.2]
theorem mem_eqAt {A : Around} {s : Shared} {x : V} {v : Value} (rx : RelV x v) (fx : flatV x = true) : ∀ {xs : List V} {us : List Value}, Vals xs us → xs.all flatV = true → ∀ u ∈ us, SeqAt.EqAt A s u v (eqU x u)
  | _, _, .nil, _ => fun u hu => by cases hu
  | y :: xs, u :: us, .cons r t, f => fun u' hu => by
    rw [List.all_cons, Bool.and_eq_true] at f
    rcases List.mem_cons.mp hu with rfl | hu
    · rw [eqU_of r f.1]; exact eqAt_V r rx f.1 fx
    · exact mem_eqAt rx fx t f.2 u' hu
def inV (x : V) (xs : List V) : Bool := xs.any fun y => eqV y x
/-- x in a list or tuple of flat items -/
def rIn (K : PySem.W.Frag) (neg : Bool) : R2 := fun x y H Q => ∃ p xs, y = .ref p ∧ (SqL K H p xs ∨ SqT K H p xs) ∧ flatV x = true ∧ xs.all flatV = true ∧ Q (.bl (if neg then !inV x xs else inV x xs)) H
theorem op_in_seq : OpR X (compareOp .In) (rIn X.K false) := by
  intro pins s σ H x y v u Q I rx ry h
  obtain ⟨p, xs, rfl, hq, fx, fs, q⟩ := h
  cases ry
  rcases hq with hq | hq
  · obtain ⟨its, r, pl, hz⟩ := I.list hq
    refine SeqAt.in_listAt (eqU x) pl.isList (fun w hw => mem_eqAt rx fx r fs w (by simpa using hw)) ⟨.bl _, H, I, rfl, ?_⟩
    rw [show its.toArray.any (eqU x) = its.any (eqU x) by simp, any_eqU r fs]
    exact q
  · obtain ⟨its, r, pl, hz⟩ := I.tuple hq
    refine SeqAt.in_tupleAt (eqU x) pl (fun w hw => mem_eqAt rx fx r fs w (by simpa using hw)) ⟨.bl _, H, I, rfl, ?_⟩
    rw [show its.toArray.any (eqU x) = its.any (eqU x) by simp, any_eqU r fs]
    exact q
theorem op_notIn_seq : OpR X (compareOp .NotIn) (rIn X.K true) := by
  intro pins s σ H x y v u Q I rx ry h
  obtain ⟨p, xs, rfl, hq, fx, fs, q⟩ := h
  cases ry
  rcases hq with hq | hq
  · obtain ⟨its, r, pl, hz⟩ := I.list hq
    refine SeqAt.notIn_listAt (eqU x) pl.isList (fun w hw => mem_eqAt rx fx r fs w (by simpa using hw)) ⟨.bl _, H, I, rfl, ?_⟩
    rw [show its.toArray.any (eqU x) = its.any (eqU x) by simp, any_eqU r fs]
    exact q
  · obtain ⟨its, r, pl, hz⟩ := I.tuple hq
    refine SeqAt.notIn_tupleAt (eqU x) pl (fun w hw => mem_eqAt rx fx r fs w (by simpa using hw)) ⟨.bl _, H, I, rfl, ?_⟩
    rw [show its.toArray.any (eqU x) = its.any (eqU x) by simp, any_eqU r fs]
    exact q
theorem op_notIn_str : OpR X (compareOp .NotIn) (fun x y H Q => ∃ i j, x = .str i ∧ y = .str j ∧ Q (.bl (!(!(Builtin.Str.occurrences j i 0 j.length 1).isEmpty))) H) := by
  intro pins s σ H x y v u Q I rx ry h
  obtain ⟨i, j, rfl, rfl, q⟩ := h
  obtain ⟨t, rfl⟩ := rx
  obtain ⟨t', rfl⟩ := ry
  exact notIn_str ⟨.bl _, H, I, rfl, q⟩

/-! ### len, list(x), tuple(x) of any list or tuple that is read -/
theorem call_len_seq : CallR X (.builtin "len") (fun xs H Q => ∃ p ys, xs = [.ref p] ∧ (SqL X.K H p ys ∨ SqT X.K H p ys) ∧ Q (.int ys.length) H) := by
  intro pins s σ H xs us Q I r h
  obtain ⟨p, ys, rfl, hq, q⟩ := h
  obtain ⟨u, rfl, rx⟩ := vals1 r
  cases rx
  have hn := line63
  rcases hq with hq | hq
  · obtain ⟨its, r', pl, hz⟩ := I.list hq
    have hlen := r'.length
    exact Calls.call_len_list pl.isList (by simp only [List.size_toArray] <;> omega) ⟨.int ys.length, H, I.tok _, ⟨s.toks + 1, by rw [List.size_toArray, hlen]⟩, q⟩
  · obtain ⟨its, r', pl, hz⟩ := I.tuple hq
    have hlen := r'.length
    exact len_tuple pl (by simp only [List.size_toArray] <;> omega) ⟨.int ys.length, H, I.tok _, ⟨s.toks + 1, by rw [List.size_toArray, hlen]⟩, q⟩
theorem call_len_str : CallR X (.builtin "len") (fun xs H Q => ∃ z, xs = [.str z] ∧ z.length ≤ sizeLine ∧ Q (.int z.length) H) := by
  intro pins s σ H xs us Q I r h
  obtain ⟨z, rfl, hz, q⟩ := h
  obtain ⟨u, rfl, t, rfl⟩ := vals1 r
  have hn := line63
  exact len_str (by omega) ⟨.int z.length, H, I.tok _, ⟨_, rfl⟩, q⟩
theorem CallR.or {f : Value} {r r' : List V → Hp → VK → Prop} (h : CallR X f r) (h' : CallR X f r') : CallR X f (fun xs H Q => r xs H Q ∨ r' xs H Q) := by
  intro pins s σ H xs us Q I rs q
  rcases q with q | q
  · exact h pins s σ H xs us Q I rs q
  · exact h' pins s σ H xs us Q I rs q
theorem call_list_of : CallR X (.type "list") (fun xs H Q => ∃ p ys, xs = [.ref p] ∧ (SqL X.K H p ys ∨ SqT X.K H p ys) ∧ ∀ l, H l = none → Q (.ref l) (upd H l (.lst ys))) := by
  intro pins s σ H xs us Q I r h
  obtain ⟨p, ys, rfl, hq, q⟩ := h
  obtain ⟨u, rfl, rx⟩ := vals1 r
  cases rx
  have fin : ∀ (its : List Value), Vals ys its → ys.length ≤ sizeLine → ∀ (h' : Heap) (c' : Nat), (∀ b o', s.heap.get? b = some o' → h'.get? b = some o') →
      h'.get? s.heap.objs.size = some { cls := .type "list", dict := none, data := .seq its.toArray c', slots := #[] } → EP X pins σ Q (.ref s.heap.objs.size) { s with heap := h' } := fun its r' hz h' c' kp e =>
    ⟨.ref s.heap.objs.size, _, I.laid (t' := s.toks) kp (Nat.le_refl _) (show ObjOk X.prog X.w _ h' _ (.lst ys) from ⟨hz, its, c', r', e⟩), rfl, q _ (I.hok.fresh (Nat.le_refl _))⟩
  rcases hq with hq | hq
  · obtain ⟨its, r', pl, hz⟩ := I.list hq
    have hlen := r'.length
    obtain ⟨o, ho, hc, n, hd⟩ := pl.isList
    exact call_list_seq p (.inl rfl) ho hc hd (fun h' c' kp e => fin its r' hz h' c' kp e) (by simp only [List.size_toArray] <;> omega)
  · obtain ⟨its, r', pl, hz⟩ := I.tuple hq
    have hlen := r'.length
    obtain ⟨o, ho, hc, n, hd⟩ := pl
    exact call_list_seq p (.inr rfl) ho hc hd (fun h' c' kp e => fin its r' hz h' c' kp e) (by simp only [List.size_toArray] <;> omega)
theorem call_tuple_of : CallR X (.type "tuple") (fun xs H Q => ∃ p ys, xs = [.ref p] ∧ ((SqL X.K H p ys ∧ ∀ l, H l = none → Q (.ref l) (upd H l (.tup ys))) ∨ (SqT X.K H p ys ∧ Q (.ref p) H))) := by
  intro pins s σ H xs us Q I r h
  obtain ⟨p, ys, rfl, h⟩ := h
  obtain ⟨u, rfl, rx⟩ := vals1 r
  cases rx
  rcases h with ⟨hq, q⟩ | ⟨hq, q⟩
  · obtain ⟨its, r', pl, hz⟩ := I.list hq
    have hlen := r'.length
    refine call_tuple_list pl.isList (fun h' kp => ?_) (by simp only [List.size_toArray] <;> omega)
    have I1 : Inv X pins σ H { s with heap := h' } := I.kept (t' := s.toks) kp
    have I2 : Inv X pins σ (upd H h'.objs.size (.tup ys)) { s with heap := h'.push { cls := .type "tuple", data := .seq its.toArray } } :=
      I1.laid (t' := s.toks) (fun b o e => Heap.get?_push_of_some _ e) (Nat.le_refl _) (show ObjOk X.prog X.w _ _ _ (.tup ys) from ⟨hz, its, r', IsTup.new _ _⟩)
    exact ⟨.ref h'.objs.size, _, I2, rfl, q _ (I1.hok.fresh (Nat.le_refl _))⟩
  · obtain ⟨its, r', pl, hz⟩ := I.tuple hq
    exact call_tuple_same pl ⟨.ref p, H, I, rfl, q⟩

/-! ### the call of a builtin's method: o.m(..) -/
/-- the value is of that builtin type -/
def tyV (K : PySem.W.Frag) (T : String) (x : V) (H : Hp) : Prop := match x with
  | .str _ => T = "str"
  | .int _ => T = "int"
  | .ref p => (T = "list" ∧ ∃ xs, SqL K H p xs) ∨ (T = "tuple" ∧ ∃ o, K.lookup p = some o ∧ o.cls = .type "tuple" ∧ o.dict = none) ∨
      (T = "dict" ∧ ((∃ kvs, H p = some (.dK kvs)) ∨ ∃ kvs, H p = some (.dT kvs))) ∨ (T = "set" ∧ ∃ S n, H p = some (.set S n))
  | _ => False
theorem tyV_is {pins : List (Addr × Obj)} {σ : St} {H : Hp} {s : Shared} {T : String} {x : V} {v : Value} (I : Inv X pins σ H s) (r : RelV x v) (ty : tyV X.K T x H) :
    s.TypeIs v T ∧ ∀ a, v = .ref a → ∃ ob, s.heap.get? a = some ob ∧ ob.dict = none := by
  cases x with
  | str z =>
    obtain ⟨t, rfl⟩ := r
    cases (show T = "str" from ty)
    exact ⟨typeIs_str s z t, fun _ e => nomatch e⟩
  | int i =>
    obtain ⟨t, rfl⟩ := r
    cases (show T = "int" from ty)
    exact ⟨typeIs_int s i t, fun _ e => nomatch e⟩
  | ref p =>
    cases r
    rcases ty with ⟨rfl, xs, hq⟩ | ⟨rfl, o, hk, hc, hd⟩ | ⟨rfl, hk⟩ | ⟨rfl, S, n, hk⟩
    · obtain ⟨its, _, pl, _⟩ := I.list hq
      refine ⟨pl.isList.typeIs, fun a e => ?_⟩
      cases e
      obtain ⟨o, n, e, c, hd, _⟩ := pl
      exact ⟨o, e, hd⟩
    · refine ⟨⟨o, I.kIn p o hk, hc⟩, fun a e => ?_⟩
      cases e
      exact ⟨o, I.kIn _ o hk, hd⟩
    · have z : ∃ o, s.heap.get? p = some o ∧ o.ExactDict := by
        rcases hk with ⟨kvs, hk⟩ | ⟨kvs, hk⟩
        · obtain ⟨_, _, _, _, o, _, _, e, ex, _⟩ := I.hok p _ hk
          exact ⟨o, e, ex⟩
        · obtain ⟨_, _, _, _, o, _, _, e, ex, _⟩ := I.hok p _ hk
          exact ⟨o, e, ex⟩
      obtain ⟨o, e, ex⟩ := z
      refine ⟨⟨o, e, ex.1⟩, fun a e2 => ?_⟩
      cases e2
      exact ⟨o, e, ex.2.1⟩
    · obtain ⟨o, _, _, _, e, ex, _⟩ := I.hok p _ hk
      refine ⟨⟨o, e, ex.1⟩, fun a e2 => ?_⟩
      cases e2
      exact ⟨o, e, ex.2.1⟩
  | _ => exact False.elim ty
def tBM0 (K : PySem.W.Frag) (T : String) (r : V → List V → Hp → VK → Prop) (to : TE) : TE := fun σ H Q => to σ H fun x H1 => tyV K T x H1 ∧ r x [] H1 Q
def tBM (K : PySem.W.Frag) (T : String) (r : V → List V → Hp → VK → Prop) (to : TE) (t : TA) : TE := fun σ H Q => to σ H fun x H1 => tyV K T x H1 ∧ t σ H1 fun xs H2 => r x xs H2 Q
variable {o e : Expr} {es : List Expr} {to : TE} {t : TA} {name : Str} {apos cpos : Pos} {T id : String} {r : V → List V → Hp → VK → Prop}
theorem pe_bm0 (pa : PlainAttrs T) (slot : Slot T name id) (hty : typeOf (.builtin id) = pure (.type "method_descriptor")) (hm : MtR X id r) (ho : PE X o to)
    (hbase : attributeBase o name X.env (eval o X.env) = eval o X.env := by rfl) (hline : (apos.endLine == cpos.line) = true := by rfl) : PE X (.Call (.Attribute o name apos) [] [] cpos) (tBM0 X.K T r to) := by
  intro pins s σ H Q I h
  refine wpAny_Call_method0_late hbase hline (thn (ho pins s σ H _ I h) fun v s1 ⟨x, H1, I1, r1, ty, q1⟩ => ?_)
  obtain ⟨h1, h2⟩ := tyV_is I1 r1 ty
  exact ⟨T, id, pa, slot, hty, h1, h2, Calls.callWith_builtin rfl (PySem.evalArgs_none (hm pins s1 σ H1 x [] v [] Q I1 r1 .nil q1))⟩
theorem pe_bm (pa : PlainAttrs T) (slot : Slot T name id) (hty : typeOf (.builtin id) = pure (.type "method_descriptor")) (hm : MtR X id r) (ho : PE X o to) (ha : PA X (e :: es) t)
    (hbase : attributeBase o name X.env (eval o X.env) = eval o X.env := by rfl)
    (hfew : ((backTo cpos (starEach (e :: es) X.env)).all (fun x => !x.1) && (backToKw cpos (keywordEach [] X.env)).all (fun x => x.1.isSome)
      && decide ((e :: es).length + ([] : List Keyword).length + (if ([] : List Keyword).isEmpty then 0 else 1) < 30)) = true := by rfl)
    (hline : (apos.endLine == cpos.line) = true := by rfl) (hs : starEach (e :: es) X.env = (false, eval e X.env) :: starEach es X.env := by rfl) (hplain : (backTo cpos (starEach es X.env)).any (·.1) = false := by rfl) :
    PE X (.Call (.Attribute o name apos) (e :: es) [] cpos) (tBM X.K T r to t) := by
  intro pins s σ H Q I h
  refine wpAny_Call_method_late hbase hfew hline rfl (thn (ho pins s σ H _ I h) fun v s1 ⟨x, H1, I1, r1, ty, q1⟩ => ?_)
  obtain ⟨h1, h2⟩ := tyV_is I1 r1 ty
  refine ⟨T, id, pa, slot, hty, h1, h2, ?_⟩
  have hA := ha cpos pins s1 σ H1 _ I1 q1
  rw [hs] at hA ⊢
  refine Calls.callWith_builtin (by show (false || (backTo cpos (starEach es X.env)).any (·.1)) = false; rw [hplain] <;> rfl) (Calls.evalArgs_plain ?_)
  exact thn hA fun us s2 ⟨vs, H2, I2, r2, q2⟩ => hm pins s2 σ H2 x vs v us Q I2 r1 r2 q2
/- xs.append(e), list.index on a module's tuple .. are MtR facts of 06m -/
end
end L2

namespace L2
open PySem PySem.Spec PyProof.Rows

def MtM (X : Cx) (id : String) (r : V → List V → Hp → VK → Prop) : Prop :=
  ∀ (pins : List (Addr × Obj)) (s : Shared) (σ : St) (H : Hp) (x : V) (xs : List V) (v : Value) (us : List Value) (Q : VK), Inv X pins σ H s → RelV x v → Vals xs us → r x xs H Q →
    wpAny (model X.prog X.w) X.A (call (.builtin id) (v :: us)) (EP X pins σ Q) X.xe s

/-! ### lists of values -/
theorem Vals.one : ∀ {x : V} {us : List Value}, Vals [x] us → ∃ u, us = [u] ∧ RelV x u
  | _, _, .cons r .nil => ⟨_, rfl, r⟩
theorem Vals.two : ∀ {x y : V} {us : List Value}, Vals [x, y] us → ∃ u v, us = [u, v] ∧ RelV x u ∧ RelV y v
  | _, _, _, .cons r (.cons q .nil) => ⟨_, _, rfl, r, q⟩
theorem Vals.zero : ∀ {us : List Value}, Vals [] us → us = []
  | _, .nil => rfl
theorem Vals.dropLast {xs : List V} {us : List Value} (h : Vals xs us) : Vals xs.dropLast us.dropLast := by
  induction h with
  | nil => exact .nil
  | cons r t ih =>
    cases t with
    | nil => exact .nil
    | cons q t' => exact .cons r ih
theorem Vals.eraseIdx : ∀ {xs : List V} {us : List Value} (i : Nat), Vals xs us → Vals (xs.eraseIdx i) (us.eraseIdx i)
  | _, _, _, .nil => .nil
  | _, _, 0, .cons _ t => t
  | _, _, i + 1, .cons r t => .cons r (Vals.eraseIdx i t)
theorem Vals.reverse {xs : List V} {us : List Value} (h : Vals xs us) : Vals xs.reverse us.reverse := by
  induction h with
  | nil => exact .nil
  | cons r t ih => rw [List.reverse_cons, List.reverse_cons]; exact Vals.append ih (.cons r .nil)
theorem Vals.rep {xs : List V} {us : List Value} (h : Vals xs us) : ∀ k : Nat, Vals (List.replicate k xs).flatten (List.replicate k us).flatten
  | 0 => .nil
  | k + 1 => by
    rw [List.replicate_succ, List.replicate_succ, List.flatten_cons, List.flatten_cons]
    exact Vals.append h (Vals.rep h k)
theorem erase_last {α : Type} (l : List α) : l.eraseIdx (l.length - 1) = l.dropLast := by
  induction l with
  | nil => rfl
  | cons a r ih =>
    cases r with
    | nil => rfl
    | cons b r =>
      have e : (a :: b :: r).length - 1 = ((b :: r).length - 1) + 1 := by
        have h1 : (a :: b :: r).length = r.length + 2 := rfl
        have h2 : (b :: r).length = r.length + 1 := rfl
        omega
      rw [e, List.eraseIdx_cons_succ, ih]
      all_goals rfl
theorem len_erase {α : Type} : ∀ (l : List α) (i : Nat), (l.eraseIdx i).length ≤ l.length
  | [], _ => Nat.le_refl _
  | _ :: _, 0 => Nat.le_succ _
  | _ :: r, i + 1 => Nat.succ_le_succ (len_erase r i)
theorem foldl_rep (its : List Value) : ∀ (k : Nat) (acc : List Value),
    List.foldl (fun x1 x2 => x1 ++ x2) acc.toArray (List.replicate k its.toArray) = (acc ++ (List.replicate k its).flatten).toArray
  | 0, acc => by simp
  | k + 1, acc => by
    have e : acc.toArray ++ its.toArray = (acc ++ its).toArray := by simp
    have e2 : (acc ++ its) ++ (List.replicate k its).flatten = acc ++ (List.replicate (k + 1) its).flatten := by
      rw [List.replicate_succ, List.flatten_cons, List.append_assoc]
    rw [← e2, ← foldl_rep its k (acc ++ its), ← e, List.replicate_succ, List.foldl_cons]

section
variable {X : Cx} {pins : List (Addr × Obj)} {σ : St} {H : Hp} {s : Shared} {l b : Addr} {xs ys zs : List V}

/-! ### the two steps: a tracked list is rewritten, a new list is laid -/
theorem Inv.lset {its its' : List Value} {n : Nat} {f : Array Value → Array Value} {t' : Nat} (I : Inv X pins σ H s) (hH : H l = some (.lst xs))
    (e : s.heap.get? l = some { cls := .type "list", data := .seq its.toArray n }) (hf : f its.toArray = its'.toArray) (hv : Vals ys its') (hz : ys.length ≤ sizeLine) :
    Inv X pins σ (upd H l (.lst ys)) { s with heap := s.heap.update l (Obj.mapSeq f), toks := t' } := by
  have q := PySem.IsL.update e f
  rw [hf] at q
  refine I.write (x := l) (e := l) (by rw [hH]; exact trivial) (.inl rfl) (fun b' u hb hu => (Heap.get?_update_other s.heap (Obj.mapSeq f) (Ne.symm hb)).trans hu) ⟨_, q⟩ ?_
  exact ⟨hz, its', _, hv, q⟩
theorem Inv.lnew {its : List Value} {t' : Nat} (I : Inv X pins σ H s) (hv : Vals ys its) (hz : ys.length ≤ sizeLine) :
    Inv X pins σ (upd H s.heap.objs.size (.lst ys)) { s with heap := s.heap.push { cls := .type "list", data := .seq its.toArray }, toks := t' } :=
  I.laid (fun _ _ q => Heap.get?_push_of_some _ q) (Nat.le_refl _) ⟨hz, its, 0, hv, Heap.get?_push_size _ rfl⟩
theorem Inv.fresh (I : Inv X pins σ H s) : H s.heap.objs.size = none := I.hok.fresh (Nat.le_refl _)
theorem Inv.lstM (I : Inv X pins σ H s) (hH : H l = some (.lst xs)) : xs.length ≤ sizeLine ∧ ∃ (its : List Value) (n : Nat), Vals xs its ∧ xs.length = its.length ∧ s.heap.get? l = some { cls := .type "list", data := .seq its.toArray n } := by
  obtain ⟨z, its, n, r, e⟩ := I.hok l _ hH
  exact ⟨z, its, n, r, r.length, e⟩

theorem notLongL {n : Nat} (h : n ≤ sizeLine) : Builtin.List.listTooLong n = false := by
  unfold Builtin.List.listTooLong
  exact decide_eq_false (by omega)
end

section
variable {X : Cx}

/-! ### methods -/
def rAppend : V → List V → Hp → VK → Prop := fun x vs H Q => ∃ l xs y, x = .ref l ∧ vs = [y] ∧ H l = some (.lst xs) ∧ xs.length < sizeLine ∧ Q .non (upd H l (.lst (xs ++ [y])))
theorem mt_append : MtM X "list.append" rAppend := by
  intro pins s σ H x vs v us Q I rx rv h
  obtain ⟨l, xs, y, rfl, rfl, hH, hz, q⟩ := h
  cases rx
  obtain ⟨u, rfl, ru⟩ := rv.one
  obtain ⟨z, its, n, r, hl, e⟩ := I.lstM hH
  refine call_meets F.slot_list_append ⟨_, e, rfl⟩ F.entry_list_append (F.args_list_append_2 _ _) (PySem.list_append l its.toArray n u (by rw [List.size_toArray]; omega)) ⟨e, ?_⟩
  refine ⟨.non, _, I.lset (its' := its ++ [u]) hH e (by simp) (r.append (.cons ru .nil)) ?_, rfl, q⟩
  rw [List.length_append, List.length_singleton]
  omega

def rExtend : V → List V → Hp → VK → Prop := fun x vs H Q => ∃ l b xs zs, x = .ref l ∧ vs = [.ref b] ∧ H l = some (.lst xs) ∧ H b = some (.lst zs) ∧ xs.length + zs.length ≤ sizeLine ∧ Q .non (upd H l (.lst (xs ++ zs)))
theorem mt_extend : MtM X "list.extend" rExtend := by
  intro pins s σ H x vs v us Q I rx rv h
  obtain ⟨l, b, xs, zs, rfl, rfl, hH, hB, hz, q⟩ := h
  cases rx
  obtain ⟨u, rfl, ru⟩ := rv.one
  cases ru
  obtain ⟨z, its, n, r, hl, e⟩ := I.lstM hH
  obtain ⟨z2, its2, n2, r2, hl2, e2⟩ := I.lstM hB
  have hsz : its.toArray.size + its2.toArray.size ≤ sizeLine := by rw [List.size_toArray, List.size_toArray]; omega
  have hlong : ¬ (!its.toArray.isEmpty && Builtin.List.listTooLong (its.toArray.size + its2.toArray.size)) = true := by
    rw [notLongL hsz, Bool.and_false]
    exact Bool.false_ne_true
  refine call_meets F.slot_list_extend ⟨_, e, rfl⟩ F.entry_list_extend (F.args_list_extend_2 _ _)
    (AutoSeq1.list_extend_list_list_0 l its.toArray n b its2.toArray n2 hlong (by rw [List.size_toArray]; omega) (by omega)) ⟨e, e2, ?_⟩
  refine ⟨.non, _, I.lset (its' := its ++ its2) hH e (by simp) (r.append r2) ?_, rfl, q⟩
  rw [List.length_append]
  omega

def rPop : V → List V → Hp → VK → Prop := fun x vs H Q => ∃ l xs y, x = .ref l ∧ vs = [] ∧ H l = some (.lst xs) ∧ xs[xs.length - 1]? = some y ∧ Q y (upd H l (.lst xs.dropLast))
theorem mt_pop : MtM X "list.pop" rPop := by
  intro pins s σ H x vs v us Q I rx rv h
  obtain ⟨l, xs, y, rfl, rfl, hH, hy, q⟩ := h
  cases rx
  have hus := rv.zero
  subst hus
  obtain ⟨z, its, n, r, hl, e⟩ := I.lstM hH
  obtain ⟨u, hu, ru⟩ := r.get hy
  have hy' : its.toArray[its.toArray.size - 1]? = some u := by
    show its.toArray[its.length - 1]? = some u
    rw [← Array.getElem?_toList, ← hl]
    exact hu
  refine call_meets F.slot_list_pop ⟨_, e, rfl⟩ F.entry_list_pop (F.args_list_pop_1 _) (MeetsSeq.list_pop_last l its.toArray n u hy' (by rw [List.size_toArray]; omega)) ⟨e, ?_⟩
  refine ⟨y, _, I.lset (its' := its.dropLast) hH e ?_ r.dropLast ?_, ru, q⟩
  · show its.toArray.eraseIdxIfInBounds (its.toArray.size - 1) = its.dropLast.toArray
    rw [List.size_toArray, List.eraseIdxIfInBounds_toArray, erase_last]
  · rw [List.length_dropLast]
    omega

def rPopAt : V → List V → Hp → VK → Prop := fun x vs H Q => ∃ l xs i k y, x = .ref l ∧ vs = [.int i] ∧ H l = some (.lst xs) ∧ -(2 ^ 63) ≤ i ∧ i < 2 ^ 63 ∧ seqIndex? i xs.length = some k ∧ xs[k]? = some y ∧ Q y (upd H l (.lst (xs.eraseIdx k)))
theorem mt_popAt : MtM X "list.pop" rPopAt := by
  intro pins s σ H x vs v us Q I rx rv h
  obtain ⟨l, xs, i, k, y, rfl, rfl, hH, h1, h2, hk, hy, q⟩ := h
  cases rx
  obtain ⟨u, rfl, ru⟩ := rv.one
  obtain ⟨t, rfl⟩ := ru
  obtain ⟨z, its, n, r, hl, e⟩ := I.lstM hH
  obtain ⟨w, hw, rw'⟩ := r.get hy
  refine call_meets F.slot_list_pop ⟨_, e, rfl⟩ F.entry_list_pop (F.args_list_pop_2 _ _)
    (MeetsSeq.list_pop_at l its.toArray n i t k w (fitsIndex_both h1 h2) (by rw [List.size_toArray, ← hl]; exact hk) (by rw [← Array.getElem?_toList]; exact hw) (by rw [List.size_toArray]; omega)) ⟨e, ?_⟩
  refine ⟨y, _, I.lset (its' := its.eraseIdx k) hH e ?_ (r.eraseIdx k) ?_, rw', q⟩
  · show its.toArray.eraseIdxIfInBounds k = (its.eraseIdx k).toArray
    rw [List.eraseIdxIfInBounds_toArray]
  · have := len_erase xs k
    omega

def rReverse : V → List V → Hp → VK → Prop := fun x vs H Q => ∃ l xs, x = .ref l ∧ vs = [] ∧ H l = some (.lst xs) ∧ Q .non (upd H l (.lst xs.reverse))
theorem mt_reverse : MtM X "list.reverse" rReverse := by
  intro pins s σ H x vs v us Q I rx rv h
  obtain ⟨l, xs, rfl, rfl, hH, q⟩ := h
  cases rx
  have hus := rv.zero
  subst hus
  obtain ⟨z, its, n, r, hl, e⟩ := I.lstM hH
  refine call_meets F.slot_list_reverse ⟨_, e, rfl⟩ F.entry_list_reverse (F.args_list_reverse_1 _) (AutoSeq1.list_reverse_list_0 l its.toArray n (by rw [List.size_toArray]; omega)) ⟨e, ?_⟩
  refine ⟨.non, _, I.lset (its' := its.reverse) hH e (by simp) r.reverse ?_, rfl, q⟩
  rw [List.length_reverse]
  omega

def rClear : V → List V → Hp → VK → Prop := fun x vs H Q => ∃ l xs, x = .ref l ∧ vs = [] ∧ H l = some (.lst xs) ∧ Q .non (upd H l (.lst []))
theorem mt_clear : MtM X "list.clear" rClear := by
  intro pins s σ H x vs v us Q I rx rv h
  obtain ⟨l, xs, rfl, rfl, hH, q⟩ := h
  cases rx
  have hus := rv.zero
  subst hus
  obtain ⟨z, its, n, r, hl, e⟩ := I.lstM hH
  refine call_meets F.slot_list_clear ⟨_, e, rfl⟩ F.entry_list_clear (F.args_list_clear_1 _) (AutoSeq1.list_clear_list_0 l its.toArray n (by rw [List.size_toArray]; omega)) ⟨e, ?_⟩
  exact ⟨.non, _, I.lset (its' := []) (ys := []) hH e rfl .nil (Nat.zero_le _), rfl, q⟩

/-! ### list + list, list += list, list * int -/
def rCat : R2 := fun x y H Q => ∃ l b xs zs, x = .ref l ∧ y = .ref b ∧ H l = some (.lst xs) ∧ H b = some (.lst zs) ∧ xs.length + zs.length ≤ sizeLine ∧ ∀ p, H p = none → Q (.ref p) (upd H p (.lst (xs ++ zs)))
theorem op_cat : OpR X (binaryOp .Add) rCat := by
  intro pins s σ H x y v u Q I rx ry h
  obtain ⟨l, b, xs, zs, rfl, rfl, hH, hB, hz, q⟩ := h
  cases rx
  cases ry
  obtain ⟨z, its, n, r, hl, e⟩ := I.lstM hH
  obtain ⟨z2, its2, n2, r2, hl2, e2⟩ := I.lstM hB
  refine PySem.P.add_list e e2 ?_ (by rw [List.size_toArray, List.size_toArray]; omega)
  have ea : its.toArray ++ its2.toArray = (its ++ its2).toArray := by simp
  rw [ea]
  exact ⟨.ref _, _, I.lnew (t' := s.toks) (r.append r2) (by rw [List.length_append]; omega), rfl, q _ I.fresh⟩
/-- a list times an int (a negative one is nothing) -/
def rRep : R2 := fun x y H Q => ∃ l k xs, x = .ref l ∧ y = .int k ∧ H l = some (.lst xs) ∧ -(2 ^ 63) ≤ k ∧ k < 2 ^ 63 ∧ xs.length * k.toNat ≤ sizeLine ∧
  ∀ p, H p = none → Q (.ref p) (upd H p (.lst (List.replicate k.toNat xs).flatten))
theorem len_rep {α : Type} (xs : List α) (k : Nat) : (List.replicate k xs).flatten.length = k * xs.length := by
  induction k with
  | zero => simp
  | succ k ih => rw [List.replicate_succ, List.flatten_cons, List.length_append, ih, Nat.succ_mul, Nat.add_comm]
theorem op_rep : OpR X (binaryOp .Mult) rRep := by
  intro pins s σ H x y v u Q I rx ry h
  obtain ⟨l, k, xs, rfl, rfl, hH, h1, h2, hz, q⟩ := h
  cases rx
  obtain ⟨t, rfl⟩ := ry
  obtain ⟨z, its, n, r, hl, e⟩ := I.lstM hH
  have hlen : its.toArray.size * k.toNat ≤ sizeLine := by rw [List.size_toArray, ← hl]; exact hz
  have hcap : ¬ its.toArray.size * k.toNat > (2 ^ 63 - 1) / 8 := by
    have : (sizeLine : Nat) ≤ (2 ^ 63 - 1) / 8 := by decide
    omega
  have hfit : ¬ (!Builtin.List.listFitsIndex k) = true := by
    rw [fitsIndex_both h1 h2]
    exact Bool.false_ne_true
  have hlong : ¬ Builtin.List.listTooLong (its.toArray.size * k.toNat) = true := by
    rw [notLongL hlen]
    exact Bool.false_ne_true
  have hnew : List.foldl (fun x1 x2 => x1 ++ x2) #[] (List.replicate (if its.toArray.isEmpty = true then 0 else k.toNat) its.toArray) = (List.replicate k.toNat its).flatten.toArray := by
    have f0 : ∀ m : Nat, List.foldl (fun x1 x2 => x1 ++ x2) #[] (List.replicate m its.toArray) = (List.replicate m its).flatten.toArray := fun m => by
      have := foldl_rep its m []
      rw [List.nil_append] at this
      exact this
    rw [f0]
    cases its with
    | nil => simp
    | cons a r' => rw [if_neg (by simp)]
  refine wpAny_binaryOp_repeat_ref (T := "list") (U := "int") (by decide) ⟨_, e, rfl⟩ (fun s' => typeIs_int s' k t) noFill_list_mul F.fills_int_mul F.slot_int_rmul repeat_list F.slot_int_index.lookup
    (call_meets F.slot_int_rmul (typeIs_int s k t) F.entry_int_rmul (F.args_int_rmul_2 _ _) (int___rmul___int_list k t l its.toArray n)
      ⟨e, rfl, ⟨_, e, rfl⟩, call_meets F.slot_list_mul ⟨_, e, rfl⟩ F.entry_list_mul (F.args_list_mul_2 _ _) (AutoListH.list___mul___list_int_3 l its.toArray n k t hfit hcap hlong) ⟨e, ?_⟩⟩)
  rw [hnew]
  exact ⟨.ref _, _, I.lnew (t' := s.toks) (r.rep k.toNat) (by rw [len_rep, Nat.mul_comm]; exact hz), rfl, q _ I.fresh⟩

/-! ### del xs[i] -/
theorem del_list {pins : List (Addr × Obj)} {s : Shared} {σ : St} {H : Hp} {l : Addr} {xs : List V} {i : Int} {t : Tok} {k : Nat} {Q : Unit → Shared → Prop} (I : Inv X pins σ H s) (hH : H l = some (.lst xs))
    (h1 : -(2 ^ 63) ≤ i) (h2 : i < 2 ^ 63) (hk : seqIndex? i xs.length = some k) (h : ∀ s', Inv X pins σ (upd H l (.lst (xs.eraseIdx k))) s' → Q () s') :
    wpAny (model X.prog X.w) X.A (delItem (.ref l) (.int i t)) Q X.xe s := by
  obtain ⟨z, its, n, r, hl, e⟩ := I.lstM hH
  refine PySem.P.delItem_list (k := k) e (fitsIndex_both h1 h2) (by rw [List.size_toArray, ← hl]; exact hk) (h _ ?_) (by rw [List.size_toArray]; omega)
  refine I.lset (its' := its.eraseIdx k) (t' := s.toks) hH e ?_ (r.eraseIdx k) ?_
  · show its.toArray.eraseIdxIfInBounds k = (its.eraseIdx k).toArray
    rw [List.eraseIdxIfInBounds_toArray]
  · have := len_erase xs k
    omega
end

/-! ### xs[a:b] = ys -/
section
variable {prog : Program} {w : World} {A : Around} {E : Value → Shared → Prop} {s : Shared}
theorem splice_eq (its its2 : List Value) (a c : Nat) : its.toArray.extract 0 a ++ its2.toArray ++ its.toArray.extract c its.toArray.size = (its.take a ++ its2 ++ its.drop c).toArray := by
  apply Array.toList_inj.mp
  first
    | (simp
       exact List.take_of_length_le (by simp))
    | simp [List.take_of_length_le]
    | simp
theorem bounds_run {a c n : Nat} (hac : a ≤ c) (hc : c ≤ n) : sliceBounds (some (a : Int)) (some (c : Int)) none n = ((a : Int), (c : Int), 1) := by
  simp only [sliceBounds, Option.getD_none]
  have h1 : ¬ ((a : Int) < 0) := by omega
  have h2 : ¬ ((c : Int) < 0) := by omega
  simp only [h1, h2, if_false, show (1 : Int) > 0 by decide, if_true]
  congr 1
  · omega
  · congr 1; omega
set_option maxRecDepth 100000 in
/-- list.__setitem__ with a slice of step one and another list -/
theorem setItem_slice {l b sl : Addr} {items new : Array Value} {n n2 : Nat} {vl vu : Value} {a c : Nat} {Q : Unit → Shared → Prop}
    (e : s.heap.get? l = some { cls := .type "list", data := .seq items n }) (e2 : s.heap.get? b = some { cls := .type "list", data := .seq new n2 }) (hne : l ≠ b)
    (hs : s.heap.IsSliceOf sl vl vu .none) (pl : IsPart vl (some (a : Int))) (pu : IsPart vu (some (c : Int))) (hac : a ≤ c) (hc : c ≤ items.size)
    (hsz : items.size + new.size ≤ sizeLine) (h : Q () { s with heap := s.heap.update l (Obj.mapSeq fun xs => xs.extract 0 a ++ new ++ xs.extract c xs.size) }) :
    wpAny (model prog w) A (setItem (.ref l) (.ref sl) (.ref b)) Q E s := by
  have hl : s.heap.IsList l items := PySem.IsL.isList e
  have hb : s.heap.IsList b new := PySem.IsL.isList e2
  obtain ⟨os, hos, hcs, hds⟩ := id hs
  have hTs : s.TypeIs (.ref sl) "slice" := ⟨os, hos, hcs⟩
  have hstep : ¬ ((rawPart none == rawInt 0) = true) := Bool.false_ne_true
  have hsame : Builtin.List.listSameRef (.ref l) (.ref b) = false := by
    unfold Builtin.List.listSameRef
    exact beq_eq_false_iff_ne.mpr hne
  have hmax : (max (a : Int) (c : Int)).toNat = c := by omega
  have hz' : ((fun xs : Array Value => xs.extract 0 a ++ new ++ xs.extract c xs.size) items).size ≤ sizeLine + 1 := by
    simp only [Array.size_append, Array.size_extract]
    omega
  unfold setItem
  try with_reducible refine wpAny_holding ?_
  first | refine wpAny_bind (wpAny_pure ?_) | skip
  refine wpAny_bind (wpAny_sequenceKey hl.typeIs (by decide) ?_)
  refine wpAny_bind (wpAny_callSpecial?_slot (name := Str.ofString "__setitem__") hl.typeIs slot_list_setitem
    (wpAny_call_entry slot_list_setitem hl.typeIs entry_list_setitem ?_ (args_list_setitem _ _ _)))
  show wpAny _ _ (Builtin.List.listSubscript? (.ref sl) >>= _) _ _ s
  refine wpAny_bind ?_
  unfold Builtin.List.listSubscript?
  refine wpAny_bind (wpAny_specialOf hTs slice_no_index ?_)
  simp only [Option.isNone_none, if_true]
  refine wpAny_pure ?_
  show wpAny _ _ (typeOf (.ref sl) >>= _) _ _ s
  refine wpAny_bind (wpAny_typeOf hTs ?_)
  first
    | rw [if_neg (by decide)]
    | refine PySem.W.KFB.if_not (by decide) ?_
  rw [listSliceParts_eq]
  refine wpAny_bind (wpAny_bind (wpAny_field hos hds (x := .none) rfl (wpAny_bind (wpAny_listPart .none ?_))))
  rw [if_neg hstep]
  refine wpAny_bind (wpAny_field hos hds (x := vl) rfl (wpAny_bind (wpAny_listPart pl ?_)))
  refine wpAny_bind (wpAny_field hos hds (x := vu) rfl (wpAny_bind (wpAny_listPart pu (wpAny_pure ?_))))
  first
    | simp only [hsame, Bool.false_eq_true, if_false]
    | refine PySem.W.KFB.if_not hsame ?_
    | (dsimp only
       rw [if_neg (by rw [hsame]; exact Bool.false_ne_true)])
  refine wpAny_bind (m := Builtin.List.listAllItems (.ref b) "must assign iterable to extended slice") ?_
  unfold Builtin.List.listAllItems
  refine wpAny_bind (wpAny_typeOf hb.typeIs ?_)
  first
    | refine PySem.W.KFB.if_so (by decide) ?_
    | rw [if_pos (by decide)]
    | simp only [beq_self_eq_true, Bool.true_or, if_true]
  unfold Builtin.List.listItems
  refine wpAny_bind (wpAny_seqItems e2 rfl (wpAny_pure ?_))
  refine wpAny_bind (wpAny_bind (wpAny_seqItems e rfl (wpAny_pure ?_)))
  refine wpAny_bind (wpAny_of_eq ((sliceIndices_raw (some (a : Int)) (some (c : Int)) none items.size (by simp)).trans (congrArg (pure : Int × Int × Int → Sem (Int × Int × Int)) (bounds_run hac hc))) ?_)
  show wpAny _ _ (if ((1 : Int) == 1) = true then _ else _) _ _ s
  rw [if_pos (by decide)]
  refine wpAny_bind (wpAny_rule ?_)
  first
    | simp only [notLongL hsz, Bool.false_eq_true, if_false]
    | refine PySem.W.KFB.if_not (notLongL hsz) ?_
  first | refine wpAny_bind (wpAny_pure ?_) | skip
  show wpAny _ _ (updateSeq l (fun xs => xs.extract 0 ((a : Int)).toNat ++ new ++ xs.extract (max (a : Int) (c : Int)).toNat xs.size) >>= _) _ _ s
  rw [hmax, Int.toNat_natCast]
  refine wpAny_bind (wpAny_updateSeq (hz := Nat.le_trans (Nat.le_add_right _ _) hsz) (_hz' := hz') e rfl ?_)
  refine wpAny_bind (wpAny_letGo ?_)
  first
    | exact wpAny_bind (wpAny_pure (wpAny_pure ⟨.none, rfl, wpAny_pure h⟩))
    | exact wpAny_pure ⟨.none, rfl, wpAny_pure h⟩
end

section
variable {X : Cx}
/-- xs[a:c] = ys of another list, at the value level: sl is the slice object that was just made -/
theorem set_slice {pins : List (Addr × Obj)} {s : Shared} {σ : St} {H : Hp} {l b sl : Addr} {xs ys : List V} {a c : Int} {vl vu : Value} {Q : Unit → Shared → Prop} (I : Inv X pins σ H s)
    (hH : H l = some (.lst xs)) (hB : H b = some (.lst ys)) (hne : l ≠ b) (hs : s.heap.IsSliceOf sl vl vu .none) (ra : RelV (.int a) vl) (rc : RelV (.int c) vu) (h0 : 0 ≤ a) (hac : a ≤ c) (hc : c ≤ xs.length)
    (hz : xs.length + ys.length ≤ sizeLine) (h : ∀ s', Inv X pins σ (upd H l (.lst (xs.take a.toNat ++ ys ++ xs.drop c.toNat))) s' → Q () s') :
    wpAny (model X.prog X.w) X.A (setItem (.ref l) (.ref sl) (.ref b)) Q X.xe s := by
  obtain ⟨ta, rfl⟩ := ra
  obtain ⟨tc, rfl⟩ := rc
  obtain ⟨z, its, n, r, hl, e⟩ := I.lstM hH
  obtain ⟨z2, its2, n2, r2, hl2, e2⟩ := I.lstM hB
  obtain ⟨a', rfl⟩ := Int.eq_ofNat_of_zero_le h0
  obtain ⟨c', rfl⟩ := Int.eq_ofNat_of_zero_le (Int.le_trans h0 hac)
  simp only [Int.toNat_natCast] at h
  refine setItem_slice (a := a') (c := c') e e2 hne hs (.int _ _) (.int _ _) (by omega) (by rw [List.size_toArray]; omega) (by rw [List.size_toArray, List.size_toArray]; omega) (h _ ?_)
  refine I.lset (its' := its.take a' ++ its2 ++ its.drop c') (t' := s.toks) hH e ?_ (Vals.append (Vals.append (r.take _) r2) (r.drop _)) ?_
  · exact splice_eq its its2 a' c'
  · rw [List.length_append, List.length_append, List.length_take, List.length_drop]
    omega
end
end L2

namespace Att
open PySem PySem.W PySem.Calls PyProof.Rows

/-! ### the script -/
theorem ints_of_wellAll {P : Params} {h : Heap} : ∀ (ns : List Int) (vs : List Value), WellAll P h vs (ns.map WData.int) → IntsAre vs ns := by
  intro ns
  induction ns with
  | nil =>
    intro vs w
    rw [List.map_nil] at w
    cases w
    exact .nil
  | cons n ns ih =>
    intro vs w
    rw [List.map_cons] at w
    cases w with
    | cons a b =>
      cases a
      exact .cons _ _ (ih _ b)

theorem script_of {l : OpenLaw} {n : Nat} (hn : l.most = some n) {P : Params} {h : Heap} {args : List WData} {vals : List Value}
    (hpre : l.row.toRowW.claim.pre args = true) (hwl : WellAll P h vals args) :
    ∃ a vs ns, vals = [Value.ref a] ∧ args = [WData.list (ns.map WData.int)] ∧ h.get? a = some { cls := .type "list", data := .seq vs.toArray } ∧ IntsAre vs ns ∧ ns.length ≤ n := by
  have hsh : WShape.hasAll [] args [.list .int] = true := (pre_splitW hpre).1
  have hc : l.pre.holds [] { args := args } = true := (pre_splitW hpre).2
  obtain ⟨d, r, rfl, h1, h2⟩ := hasAllW_cons hsh
  obtain rfl := hasAllW_nil h2
  obtain ⟨xs, rfl, h3⟩ := hasW_list h1
  obtain ⟨ns, rfl⟩ := items_int h3
  have hlen : ns.length ≤ n := by
    unfold OpenLaw.pre at hc
    have h4 : (WTm.not (.lt (.lit (.int (n : Int))) (.len (.arg 0)))).holds [] { args := [.list (ns.map .int)] } = true := by
      have h4 := (holds_andW hc).1
      rw [hn] at h4
      exact h4
    have h5 := condW_of h4 (w_not (w_lt w_lit (w_len_list (w_arg rfl))))
    rw [List.length_map] at h5
    refine Nat.le_of_not_lt fun q => ?_
    have q' : (n : Int) < ((ns.length : Nat) : Int) := by omega
    first
      | (rw [decide_eq_true q'] at h5; exact absurd h5 (by decide))
      | (simp at h5; omega)
  cases hwl with
  | cons w1 w2 =>
    cases w2
    cases w1 with
    | list ho hall => exact ⟨_, _, ns, rfl, rfl, ho, ints_of_wellAll ns _ hall, hlen⟩

theorem post_true (l : OpenLaw) (args : List WData) : l.row.toRowW.claim.post args (.bool true) args = true :=
  postW_of (r := l.row.toRowW) (X := (true == true))
    (show WShape.has [] (.bool true) .bool = true by first | rfl | decide | simp [WShape.has, WShape.arms, WShape.armsAll])
    (show (WTm.eq .res (.lit (.bool true))).value [] { args := args, res := some (.bool true), after := args } = some (.bool (true == true)) from w_eq_bool (w_res rfl) w_lit) rfl

/-! ### the attachment: holds_open's last premise (the goal 'hc' behind k_head) from a wpAny of the law's body -/
theorem attach {l : OpenLaw} {n : Nat} {q : Program} {loose : List Str} {XP : (Str → Option Value) → Heap → Prop} {YP : World → Heap → Prop} {d : DefRec} {x : Str}
    (hn : l.most = some n) (hdf : d.params.defaults = [])
    (hbind : ∀ pm cd doc v : Value, bindArgs (docDef d.name d.params d.body d.scope pm cd doc) ⟨[v], []⟩ = pure [(x, v)])
    (hx : d.scope.names.lookup x = some .local ∨ d.scope.names.lookup x = some .cell)
    (hk : d.scope.kind = .function) (hco : d.scope.isCoroutine = false) (hgen : d.scope.isGenerator = false)
    (body : ∀ (w : World) (s₀ s₁ s : Shared) (mg mb : Str → Option Value) (fa : Addr) (o : Obj) (pm cd doc : Value) (a : Addr) (vs : List Value) (ns : List Int),
      Ground q loose [] XP w s₀ mg mb s₁.heap → YP w s₁.heap →
      s₁.heap.get? fa = some o → o.data = .func (docDef d.name d.params d.body d.scope pm cd doc) → s₁.heap.CodeRec cd d.name → mg d.name = some (.ref fa) →
      s₁.heap.get? a = some { cls := .type "list", data := .seq vs.toArray } → IntsAre vs ns → ns.length ≤ n →
      s.gens = #[] → s.os = s₁.os →
      Fr s₁.heap s₁.heap.objs.size s.heap (bindL (envOfC d.name d.scope s₁.heap.objs.size fa cd).kindOf [(x, .ref a)] fun _ => none) →
      Cl s₁.heap.objs.size (cellsFrom (s₁.heap.objs.size + 1) d.scope.names []) s.heap (bindC (envOfC d.name d.scope s₁.heap.objs.size fa cd).kindOf [(x, .ref a)] fun _ => none) →
      wpAny (model l.prog w) (callerA.deeper (envOfC d.name d.scope s₁.heap.objs.size fa cd)) (execs d.body (envOfC d.name d.scope s₁.heap.objs.size fa cd))
        (fun f s' => f = .ret (.bool true) ∧ OldK s₁.heap s'.heap ∧ s'.os = s₁.os ∧ AllBare s'.gens) (fun _ _ => False) s) :
    WalkO q loose XP YP l.row.toRowW d [] (fun f vs => PySem.call f vs) := by
  intro w s₀ s₁ mg mb G Y fa o pm cd doc dV kV ho hd hcd hD hmg hg args vals as hpre hlay hrd hwl hlo
  obtain rfl : dV = .none := Dflts.none hD hdf
  obtain rfl : kV = .none := Dflts.noKw hD
  obtain ⟨a, vs, ns, rfl, rfl, hobj, hints, hlen⟩ := script_of hn hpre hwl
  refine enter_call ?_
  refine call_cells_ret (o := o) (by rw [depth_caller]; decide) ho (fd_plain hd) G.T.nolimit hcd (hbind pm cd doc (.ref a)) (fun y hy => ?_) (fun h₁ tk F X => ?_) hco hgen hk
  · obtain rfl : y = (x, Value.ref a) := List.mem_singleton.mp hy
    rcases hx with e | e
    · exact .inl e
    · exact .inr ⟨e, cellsFrom_some _ _ _ (.inl e)⟩
  · refine wpAny_mono (body w s₀ s₁ { s₁ with heap := h₁, toks := tk } mg mb fa o pm cd doc a vs ns G Y ho (fd_plain hd) hcd hmg hobj hints hlen hg rfl F X) (fun f s' hq => ?_) (fun _ _ hq => hq)
    obtain ⟨rfl, h2, h3, h4⟩ := hq
    exact ⟨.inl ⟨.bool true, .bool true, [], rfl, fun _ => rfl, .bool true, post_true l _, fun _ => ⟨List.Pairwise.nil, fun _ hm => (nomatch hm)⟩⟩, h2, h3, h4⟩

/-- the same from a codeAny of the CALL (for a layer whose function contracts speak of calls) -/
theorem attach_call {l : OpenLaw} {n : Nat} {q : Program} {loose : List Str} {XP : (Str → Option Value) → Heap → Prop} {YP : World → Heap → Prop} {d : DefRec}
    (hn : l.most = some n) (hdf : d.params.defaults = [])
    (call : ∀ (w : World) (s₀ s₁ : Shared) (mg mb : Str → Option Value) (fa : Addr) (o : Obj) (pm cd doc : Value) (a : Addr) (vs : List Value) (ns : List Int),
      Ground q loose [] XP w s₀ mg mb s₁.heap → YP w s₁.heap →
      s₁.heap.get? fa = some o → o.data = .func (docDef d.name d.params d.body d.scope pm cd doc) → s₁.heap.CodeRec cd d.name → mg d.name = some (.ref fa) →
      s₁.heap.get? a = some { cls := .type "list", data := .seq vs.toArray } → IntsAre vs ns → ns.length ≤ n → s₁.gens = #[] →
      codeAny (model l.prog w) callerA (.call (.ref fa) ⟨[.ref a], []⟩) (fun r s' => r = .ok (.ret (.bool true)) ∧ OldK s₁.heap s'.heap ∧ s'.os = s₁.os ∧ AllBare s'.gens) s₁) :
    WalkO q loose XP YP l.row.toRowW d [] (fun f vs => PySem.call f vs) := by
  intro w s₀ s₁ mg mb G Y fa o pm cd doc dV kV ho hd hcd hD hmg hg args vals as hpre hlay hrd hwl hlo
  obtain rfl : dV = .none := Dflts.none hD hdf
  obtain rfl : kV = .none := Dflts.noKw hD
  obtain ⟨a, vs, ns, rfl, rfl, hobj, hints, hlen⟩ := script_of hn hpre hwl
  refine enter_call (codeAny_mono (call w s₀ s₁ mg mb fa o pm cd doc a vs ns G Y ho (fd_plain hd) hcd hmg hobj hints hlen hg) fun r s' hq => ?_)
  obtain ⟨rfl, h2, h3, h4⟩ := hq
  exact ⟨.inl ⟨.bool true, .bool true, [], rfl, fun _ => rfl, .bool true, post_true l _, fun _ => ⟨List.Pairwise.nil, fun _ hm => (nomatch hm)⟩⟩, h2, h3, h4⟩

/-- the same where the top left finished generators (o_head chose holds_openN): nothing may have changed at all and no generator may be left -/
theorem attachN {l : OpenLaw} {n : Nat} {q : Program} {loose : List Str} {XP : (Str → Option Value) → Heap → Prop} {YP : World → Heap → Prop} {d : DefRec} {x : Str}
    (hn : l.most = some n) (hdf : d.params.defaults = [])
    (hbind : ∀ pm cd doc v : Value, bindArgs (docDef d.name d.params d.body d.scope pm cd doc) ⟨[v], []⟩ = pure [(x, v)])
    (hx : d.scope.names.lookup x = some .local ∨ d.scope.names.lookup x = some .cell)
    (hk : d.scope.kind = .function) (hco : d.scope.isCoroutine = false) (hgen : d.scope.isGenerator = false)
    (body : ∀ (w : World) (s₀ s₁ s : Shared) (mg mb : Str → Option Value) (fa : Addr) (o : Obj) (pm cd doc : Value) (a : Addr) (vs : List Value) (ns : List Int),
      Ground q loose [] XP w s₀ mg mb s₁.heap → YP w s₁.heap →
      s₁.heap.get? fa = some o → o.data = .func (docDef d.name d.params d.body d.scope pm cd doc) → s₁.heap.CodeRec cd d.name → mg d.name = some (.ref fa) →
      s₁.heap.get? a = some { cls := .type "list", data := .seq vs.toArray } → IntsAre vs ns → ns.length ≤ n →
      s.gens = #[] → s.os = s₁.os →
      Fr s₁.heap s₁.heap.objs.size s.heap (bindL (envOfC d.name d.scope s₁.heap.objs.size fa cd).kindOf [(x, .ref a)] fun _ => none) →
      Cl s₁.heap.objs.size (cellsFrom (s₁.heap.objs.size + 1) d.scope.names []) s.heap (bindC (envOfC d.name d.scope s₁.heap.objs.size fa cd).kindOf [(x, .ref a)] fun _ => none) →
      wpAny (model l.prog w) (callerA.deeper (envOfC d.name d.scope s₁.heap.objs.size fa cd)) (execs d.body (envOfC d.name d.scope s₁.heap.objs.size fa cd))
        (fun f s' => f = .ret (.bool true) ∧ (∀ b o, s₁.heap.get? b = some o → s'.heap.get? b = some o) ∧ s'.os = s₁.os ∧ s'.gens = #[]) (fun _ _ => False) s) :
    WalkN q loose XP YP l.row.toRowW d [] (fun f vs => PySem.call f vs) := by
  intro w s₀ s₁ mg mb G Y fa o pm cd doc dV kV ho hd hcd hD hmg hg args vals as hpre hlay hrd hwl hlo
  obtain rfl : dV = .none := Dflts.none hD hdf
  obtain rfl : kV = .none := Dflts.noKw hD
  obtain ⟨a, vs, ns, rfl, rfl, hobj, hints, hlen⟩ := script_of hn hpre hwl
  refine enter_callW ?_
  refine call_cells_ret (o := o) (by rw [depth_caller]; decide) ho (fd_plain hd) G.T.nolimit hcd (hbind pm cd doc (.ref a)) (fun y hy => ?_) (fun h₁ tk F X => ?_) hco hgen hk
  · obtain rfl : y = (x, Value.ref a) := List.mem_singleton.mp hy
    rcases hx with e | e
    · exact .inl e
    · exact .inr ⟨e, cellsFrom_some _ _ _ (.inl e)⟩
  · refine wpAny_mono (body w s₀ s₁ { s₁ with heap := h₁, toks := tk } mg mb fa o pm cd doc a vs ns G Y ho (fd_plain hd) hcd hmg hobj hints hlen hg rfl F X) (fun f s' hq => ?_) (fun _ _ hq => hq)
    obtain ⟨rfl, h2, h3, h4⟩ := hq
    exact ⟨.inl ⟨.bool true, .bool true, [], rfl, fun _ => rfl, .bool true, post_true l _, fun _ => ⟨List.Pairwise.nil, fun _ hm => (nomatch hm)⟩⟩, h2, h3, h4⟩

/-! ### rules over ANY heap (no ledger) from facts about the written part K: the library's own take a ledger (News) for what they write -/
section
variable {prog : Program} {w : World} {A : Around} {E : Value → Shared → Prop} {s : Shared} {K : Frag}

/-- a def of the module, or a method (qual 'C.m'), entered: the frame is the next address; cells behind it -/
theorem call_fn {R : Result → Shared → Prop} {name qual : Str} {params : Arguments} {body : List Stmt} {scope : Scope} {dV kV doc pm cdv ct oc : Value} {an od : Option Addr} {osl : Array (Option Value)} {f : Addr} {args : Args} {binds : List (Str × Value)}
    (X : K.In s.heap) (hlim : s.heap.NoLimit) (ho : K.lookup f = some ⟨oc, od, .func (fnOf name qual params body scope dV kV doc pm an cdv ct), osl⟩) (hcd : codeIn K cdv qual = true) (hroom : A.depth < recursionLimit)
    (hbind : BindsTo s (fnOf name qual params body scope dV kV doc pm an cdv ct) args binds)
    (hkind : (binds.all fun y => scope.names.lookup y.1 == some .local || scope.names.lookup y.1 == some .cell) = true)
    (h : ∀ s₁, InCallC s s.heap.objs.size (bindL (envOfC qual scope s.heap.objs.size f cdv).kindOf binds fun _ => none) (cellsFrom (s.heap.objs.size + 1) scope.names [])
        (bindC (envOfC qual scope s.heap.objs.size f cdv).kindOf binds fun _ => none) s₁ →
      wpAny (model prog w) (A.deeper (envOfC qual scope s.heap.objs.size f cdv)) (execs body (envOfC qual scope s.heap.objs.size f cdv))
        (fun fl s' => R (.ok (.ret (match fl with | .ret v => v | _ => .none))) s')
        (fun e s' => wpAny (model prog w) (A.deeper (envOfC qual scope s.heap.objs.size f cdv)) (leaving (envOfC qual scope s.heap.objs.size f cdv) e) (fun _ s'' => R (.error e) s'') (fun e' s'' => R (.error e') s'') s') s₁)
    (hco : scope.isCoroutine = false) (hgen : scope.isGenerator = false) (hk : scope.kind = .function) : codeAny (model prog w) A (.call (.ref f) args) R s := by
  refine codeAny_call_function hroom (X _ _ ho) rfl hco hgen rfl (codeRec_of X hcd) (hbind _ _ _ _ ?_)
  refine wpAny_newFunctionEnv_cells hk (kindsX hkind _) fun env he s₁ x => ?_
  subst he
  exact ⟨hlim.keeps x.toInCall.keep, codeAny_func (h s₁ x)⟩

/-- C(..): dict at size, instance at size + 1, then __init__ -/
theorem make_obj {R : Result → Shared → Prop} {C fI : Addr} {rest : List Value} {kw : List (Str × Value)}
    (X : K.In s.heap) (hm : makesIn K C = true) (hi : findIn K (.ref C) "__init__" = some (some (.ref fI))) (hf : isFn K (.ref fI) = true)
    (h : codeAny (model prog w) (A.under (.builtin "type.__call__" ⟨.ref C :: rest, kw⟩)) (.call (.ref fI) ⟨.ref (s.heap.objs.size + 1) :: rest, kw⟩) (InitBack (s.heap.objs.size + 1) R)
      { s with heap := (s.heap.push emptyDict).push (instObj C s.heap.objs.size) }) : codeAny (model prog w) A (.call (.ref C) ⟨rest, kw⟩) R s := by
  obtain ⟨hh, g, d, t, os⟩ := s
  exact make_core (makes_of X hm) (looks_findIn X hi) (fun self => bind_fn X self (beq_iff_eq.mp hf)) (.inl rfl) h

/-- x.name where the instance's dict holds the name and the class does not -/
theorem get_field {x C : Addr} {ox : Obj} {es : List DictEntry} {n : Nat} {name : Str} {expr : Bool} {v : Value} {Q : Value → Shared → Prop}
    (X : K.In s.heap) (I : PySem.W.InstAt s.heap x ox C (some (dictOf es n))) (hg : plainGet K C name = true) (hh : hasDictIn K C = true) (ha : findIn K (.ref C) name = some none)
    (hl : getL name es = some (some v)) (hv : handedIn v = true) (h : Q v { s with toks := s.toks + 1 }) : wpAny (model prog w) A (getAttr (.ref x) name expr) Q E s :=
  get_value X I (plainGet_of hg).1 (findObj_own hh ha rfl hl) hv h

/-- x.m(..): the method found in the class -/
theorem get_method {x C f : Addr} {ox : Obj} {es : List DictEntry} {n : Nat} {name : Str} {pl : Sem Bool} {Q : Value × List Value → Shared → Prop}
    (X : K.In s.heap) (I : PySem.W.InstAt s.heap x ox C (some (dictOf es n))) (hg : plainGet K C name = true) (hf : findIn K (.ref C) name = some (some (.ref f))) (ht : isFn K (.ref f) = true)
    (hl : getL name es = some none) (h : Q (.ref f, [.ref x]) s) : wpAny (model prog w) A (getMethod (.ref x) name pl) Q E s :=
  method_fn X I (plainGet_of hg).1 (plainGet_of hg).2 hf (beq_iff_eq.mp ht) (by show (lookIn name (dictOf es n)).map _ = _; rw [lookIn_dict, hl]; rfl) h

/-! the whole heap as the ledger: makes every rule that writes through a ledger a rule over any heap -/
def noObjs (h : Heap) : Heap := { h with objs := #[] }
theorem noObjs_get (h : Heap) (b : Addr) : (noObjs h).get? b = none := by
  cases e : (noObjs h).get? b with
  | none => rfl
  | some o => exact absurd (Heap.lt_size e) (Nat.not_lt_zero _)
def ledger (h : Heap) (L d : Addr) : List (Addr × Obj) := (List.range h.objs.size).filterMap fun a => if a = L ∨ a = d then none else (h.get? a).map fun o => (a, o)
theorem mem_ledger {h : Heap} {L d a : Addr} {o : Obj} : (a, o) ∈ ledger h L d ↔ a ≠ L ∧ a ≠ d ∧ h.get? a = some o := by
  unfold ledger
  rw [List.mem_filterMap]
  constructor
  · rintro ⟨b, _, e⟩
    split at e
    · cases e
    · rename_i hb
      obtain ⟨o', ho, e'⟩ := Option.map_eq_some_iff.mp e
      cases e'
      exact ⟨fun q => hb (.inl q), fun q => hb (.inr q), ho⟩
  · rintro ⟨n1, n2, ho⟩
    refine ⟨a, List.mem_range.mpr (Heap.lt_size ho), ?_⟩
    rw [if_neg (show ¬ (a = L ∨ a = d) from fun q => q.elim n1 n2), ho] <;> rfl
theorem news_ledger {h : Heap} {L d : Addr} {od : Obj} (hne : d ≠ L) (ho : h.get? d = some od) : News (noObjs h) L h ([] ++ (d, od) :: ledger h L d) := by
  rintro ⟨a, o⟩ hp
  rcases List.mem_cons.mp hp with e | hp
  · cases e
    exact ⟨ho, hne, noObjs_get _ _⟩
  · obtain ⟨n1, n2, e⟩ := mem_ledger.mp hp
    exact ⟨e, n1, noObjs_get _ _⟩
theorem fr_all {h : Heap} {L : Addr} {m : Str → Option Value} (n : h.Ns L m) : Fr (noObjs h) L h m :=
  ⟨n, fun b o e => (by rw [noObjs_get] at e; cases e), Nat.zero_le _⟩
/-- Upd of the head entry (for append_K, setItem_K ..) -/
theorem upd_ledger {h : Heap} {L d : Addr} {o o' : Obj} : Upd d o o' ((d, o) :: ledger h L d) ((d, o') :: ledger h L d) :=
  .head fun ⟨_, _⟩ hp => (mem_ledger.mp hp).2.1

/-- x.name = v over any heap: L is any namespace of the heap (the frame's, say): its map stays, its object is not told; all else but the dict stays -/
theorem set_field {x C dx L : Addr} {ox : Obj} {m : Str → Option Value} {es es' : List DictEntry} {n n' : Nat} {name : Str} {v : Value} {Q : Unit → Shared → Prop}
    (X : K.In s.heap) (I : PySem.W.InstAt s.heap x ox C (some (dictOf es n))) (hd : ox.dict = some dx) (hL : s.heap.Ns L m) (hne : dx ≠ L)
    (hs : findIn K (.ref C) "__setattr__" = some (some (.builtin "object.__setattr__"))) (hp : plainOver K C = true) (ht : takerIn K C name = some none) (hh : hasDictIn K C = true) (hl : (getL name es).isSome = true)
    (e : (putL name (PyData.keyHash w.params name) (.str name (s.toks + 1)) v es, putN name es n) = (es', n')) (hz : es'.length ≤ 1000)
    (h : ∀ h' : Heap, h'.Ns L m → h'.get? dx = some (dictOf es' n') → (∀ b o, b ≠ dx → b ≠ L → s.heap.get? b = some o → h'.get? b = some o) → Q () { s with heap := h', toks := s.toks + 2 }) :
    wpAny (model prog w) A (setAttr (.ref x) name v) Q E s := by
  obtain ⟨e1, e2⟩ := Prod.mk.inj e
  have hdx : s.heap.get? dx = some (dictOf es n) := by
    have := I.dict
    rw [hd] at this
    exact this
  refine set_plain X I hs (osa_dict (s := { s with toks := s.toks + 1 }) (h₀ := noObjs s.heap) (L := L) (m := m) (od := dictOf es n) (od' := dictOf es' n') (es := es') (n := n') (pre := []) (post := ledger s.heap L dx)
    (fr_all hL) (news_ledger hne hdx) X I hd hp ht hh hl (fun _ q => nomatch q) (fun ⟨_, _⟩ q => (mem_ledger.mp q).2.1) (by rw [putName_dict, e1, e2]) rfl hz fun h' F' N' => ?_)
  exact h h' F'.ns (N'.get (List.Mem.head _)) fun b o n1 n2 ho => N'.get (List.Mem.tail _ (mem_ledger.mpr ⟨n2, n1, ho⟩))
end
end Att

namespace L2
open PySem PySem.Spec PyProof.Rows

theorem vals_ints : ∀ {vs : List Value} {ns : List Int}, IntsAre vs ns → Vals (ns.map V.int) vs
  | _, _, .nil => .nil
  | _, _, .cons n t h => .cons ⟨t, rfl⟩ (vals_ints h)

/-- nothing is tracked but the script, known to the object (or it is an object of the module) -/
def Only (H : Hp) : Prop := ∀ b, H b = none ∨ ∃ o xs, H b = some (.frz o (.lst xs))

/-- THE HEAD: the law's promise, at the heap behind the top. F, the promise of the law's def, may use that base is part of the heap (so K.In base, base.Ns mainGlobals mg stand in Mod) -/
theorem law_call {P : Program} {w : World} {K : PySem.W.Frag} {mg mb : Str → Option Value} {CX : CXT} {k : Nat} {fa a : Addr} {fd : FuncData} {x : Str} {sp : Sp} {s₁ : Shared} {vs : List Value} {ns : List Int}
    (KX : K.In s₁.heap) (hns : s₁.heap.Ns mainGlobals mg) (hb : s₁.heap.Ns builtinsNs mb) (hbb : ∀ x : Str, x ≠ "__name__" → mb x = bootBuiltins x) (hlim : s₁.heap.NoLimit) (hg : s₁.gens = #[])
    (ha : s₁.heap.get? a = some { cls := .type "list", data := .seq vs.toArray }) (hi : IntsAre vs ns) (hl : ns.length ≤ sizeLine) (hr : Room k callerA)
    (F : ∀ base : Heap, K.In base → base.Ns mainGlobals mg → FnOk P w K mg base CX k fa fd [x] sp) (hbind : ∀ (s : Shared) (u : Value), BindsTo s fd ⟨[u], []⟩ [(x, u)])
    (hsp : ∀ H : Hp, Only H → SqL K H a (ns.map V.int) → sp [.ref a] H (fun v _ => v = .bl true) fun _ _ _ => False)
    (hCX : ∀ H e s', CX [] H s₁ (fun _ _ _ => False) e s' → False) :
    codeAny (model P w) callerA (.call (.ref fa) ⟨[.ref a], []⟩) (fun r s' => r = .ok (.ret (.bool true)) ∧ OldK s₁.heap s'.heap ∧ s'.os = s₁.os ∧ AllBare s'.gens) s₁ := by
  have rv := vals_ints hi
  have lenV := hi.length
  -- from an abstract heap in which nothing but the script may be tracked
  have core : ∀ H : Hp, Only H → SqL K H a (ns.map V.int) → HOk P w H s₁.heap → (∀ b, H b ≠ none → b = a) → (H a ≠ none → K.lookup a = none) →
      codeAny (model P w) callerA (.call (.ref fa) ⟨[.ref a], []⟩) (fun r s' => r = .ok (.ret (.bool true)) ∧ OldK s₁.heap s'.heap ∧ s'.os = s₁.os ∧ AllBare s'.gens) s₁ := by
    intro H hO hS hok hA hK
    have base_of : ∀ {b : Addr} {o : Obj}, s₁.heap.get? b = some o → H b = none → (hidT s₁.heap H).get? b = some o := fun e n => hidT_get e n
    have noA : ∀ {b : Addr} {o : Obj} {es : Array DictEntry} {ep : Nat}, s₁.heap.get? b = some o → o.data = .dict es ep → H b = none := fun {b o es ep} e d => by
      cases q : H b with
      | none => rfl
      | some u =>
        have e' : b = a := hA b (by rw [q]; simp)
        subst e'
        rw [ha] at e; cases e
        have d' : Data.seq vs.toArray _ = Data.dict es ep := d
        cases d'
    have nsK : ∀ {b : Addr} {m : Str → Option Value}, s₁.heap.Ns b m → (hidT s₁.heap H).Ns b m := fun {b m} ⟨o, es, ep, e, d, r⟩ => ⟨o, es, ep, base_of e (noA e d), d, r⟩
    have hKb : K.In (hidT s₁.heap H) := fun b o e => base_of (KX b o e) (by
      cases q : H b with
      | none => rfl
      | some u =>
        have e' : b = a := hA b (by rw [q]; simp)
        subst e'
        rw [hK (by rw [q]; simp)] at e; cases e)
    have hM : Mod K mg (hidT s₁.heap H) := ⟨hKb, nsK hns, ⟨mb, nsK hb, hbb⟩, let ⟨mc, h1, h2⟩ := hlim; ⟨mc, nsK h1, h2⟩⟩
    have e0 : Env0 P w K mg (hidT s₁.heap H) callerA [] s₁ H := ⟨rfl, hM, fun b o e => of_hidT e, Nat.le_of_eq (hidT_size _ _), trivial, fun b hb => absurd (show b ∈ ([] : List Addr) from hb) (by simp), hok, .of_eq hg⟩
    refine codeAny_mono ((F _ hKb (nsK hns)).run callerA [] s₁ H ⟨[.ref a], []⟩ [.ref a] [.ref a] _ _ hr e0 (hbind s₁ (.ref a)) (.cons rfl .nil) (hsp H hO hS)) fun r s' h => ?_
    cases r with
    | error e => exact (hCX H e s' h).elim
    | ok fl =>
      cases fl with
      | next => exact False.elim h
      | brk => exact False.elim h
      | cont => exact False.elim h
      | ret u =>
        obtain ⟨v, H', os, bare, un, hok', r', q⟩ := h
        have q' : v = .bl true := q
        subst q'
        obtain rfl : u = Value.bool true := r'
        refine ⟨rfl, OldK.of_keep fun b o e => ?_, os, bare⟩
        cases q : H b with
        | none => exact un.keep b o e q (by intro z; exact absurd (show b ∈ ([] : List Addr) from z) (by simp)) (by simp)
        | some u =>
          rcases hO b with z | ⟨ob, xs, z⟩
          · rw [q] at z; cases z
          · have z2 := un.frzs b ob _ z
            obtain ⟨e1, _⟩ := hok b _ z
            obtain ⟨e2, _⟩ := hok' b _ z2
            rw [e] at e1; cases e1
            exact e2
  cases hk : K.lookup a with
  | some o =>
    -- the script is one of the module's own objects
    have e := KX a o hk
    rw [ha] at e
    cases e
    refine core (fun _ => none) (fun _ => .inl rfl) (.inr ⟨_, vs.toArray, _, hk, rfl, rfl, rfl, by rw [List.size_toArray, lenV]; exact hl, by simpa using rv⟩) (fun b u z => by have z' : (none : Option HO) = some u := z; cases z') (fun b z => absurd rfl z) fun z => absurd rfl z
  | none =>
    refine core (fun b => if b = a then some (.frz { cls := .type "list", data := .seq vs.toArray } (.lst (ns.map V.int))) else none) (fun b => ?_) (.inl (.inr ⟨{ cls := .type "list", data := .seq vs.toArray }, if_pos rfl⟩)) (fun b u z => ?_) (fun b z => ?_) fun _ => hk
    · by_cases hb : b = a
      · exact .inr ⟨_, _, if_pos hb⟩
      · exact .inl (if_neg hb)
    · by_cases hb : b = a
      · have z' := (if_pos hb).symm.trans z
        cases z'
        subst hb
        exact ⟨ha, by rw [List.length_map]; exact hl, vs, _, rv, ha⟩
      · have z' := (if_neg hb).symm.trans z
        cases z'
    · by_cases hb : b = a
      · exact hb
      · exact absurd (if_neg hb) z
end L2

namespace L2
open PySem PySem.Spec PyProof.Rows

abbrev KOf {K : PySem.W.Frag} {h : Heap} (_ : K.In h) : PySem.W.Frag := K

/-- the goal that k_head leaves (case hc), from the law's promise. F gives the function object fd (K's own) once, then the promise over every base -/
theorem walk_of {l : PySem.W.OpenLaw} {n k : Nat} {q : Program} {loose : List Str} {XP : (Str → Option Value) → Heap → Prop} {YP : World → Heap → Prop} {d : DefRec} {K : Params → PySem.W.Frag} {CX : World → CXT} {sp : World → Sp} {x : Str}
    (hn : l.most = some n) (hn2 : n ≤ sizeLine) (hdf : d.params.defaults = []) (hr : Room k callerA)
    (hY : ∀ (w : World) (h : Heap), YP w h → (K w.params).In h)
    (F : ∀ (w : World) (mg : Str → Option Value) (fa : Addr) (h : Heap), (K w.params).In h → h.Ns mainGlobals mg → mg d.name = some (.ref fa) →
      ∃ fd : FuncData, (∀ (s : Shared) (u : Value), BindsTo s fd ⟨[u], []⟩ [(x, u)]) ∧
        ∀ base : Heap, (K w.params).In base → base.Ns mainGlobals mg → FnOk l.prog w (K w.params) mg base (CX w) k fa fd [x] (sp w))
    (hsp : ∀ (w : World) (H : Hp) (a : Addr) (ns : List Int), ns.length ≤ n → Only H → SqL (K w.params) H a (ns.map V.int) → sp w [.ref a] H (fun v _ => v = .bl true) fun _ _ _ => False)
    (hCX : ∀ (w : World) (H : Hp) (s : Shared) (e : Value) (s' : Shared), CX w [] H s (fun _ _ _ => False) e s' → False) :
    PySem.W.WalkO q loose XP YP l.row.toRowW d [] (fun f vs => PySem.call f vs) := by
  refine Att.attach_call hn hdf fun w s₀ s₁ mg mb fa o pm cd doc a vs ns G Y ho hd hcd hmg hobj hints hlen hg => ?_
  have KX := hY w _ Y
  obtain ⟨fd, hb, hF⟩ := F w mg fa _ KX G.T.g hmg
  exact law_call KX G.T.g G.T.b G.T.builtins G.T.nolimit hg hobj hints (Nat.le_trans hlen hn2) hr hF hb (fun H hO hS => hsp w H a ns hlen hO hS) fun H e s' => hCX w H s₁ e s'
/-- the same where the promise hangs on the written part alone: (sp := My.sp_law), no hole under a binder -/
theorem walk_ofK {l : PySem.W.OpenLaw} {n k : Nat} {q : Program} {loose : List Str} {XP : (Str → Option Value) → Heap → Prop} {YP : World → Heap → Prop} {d : DefRec} {K : Params → PySem.W.Frag} {CX : CXT} {sp : PySem.W.Frag → Sp} {x : Str}
    (hn : l.most = some n) (hn2 : n ≤ sizeLine) (hdf : d.params.defaults = []) (hr : Room k callerA)
    (hY : ∀ (w : World) (h : Heap), YP w h → (K w.params).In h)
    (F : ∀ (w : World) (mg : Str → Option Value) (fa : Addr) (h : Heap), (K w.params).In h → h.Ns mainGlobals mg → mg d.name = some (.ref fa) →
      ∃ fd : FuncData, (∀ (s : Shared) (u : Value), BindsTo s fd ⟨[u], []⟩ [(x, u)]) ∧
        ∀ base : Heap, (K w.params).In base → base.Ns mainGlobals mg → FnOk l.prog w (K w.params) mg base CX k fa fd [x] (sp (K w.params)))
    (hsp : ∀ (K : PySem.W.Frag) (H : Hp) (a : Addr) (ns : List Int), ns.length ≤ n → Only H → SqL K H a (ns.map V.int) → sp K [.ref a] H (fun v _ => v = .bl true) fun _ _ _ => False)
    (hCX : ∀ (H : Hp) (s : Shared) (e : Value) (s' : Shared), CX [] H s (fun _ _ _ => False) e s' → False) :
    PySem.W.WalkO q loose XP YP l.row.toRowW d [] (fun f vs => PySem.call f vs) :=
  walk_of (K := K) (CX := fun _ => CX) (sp := fun w => sp (K w.params)) hn hn2 hdf hr hY F (fun w H a ns h1 h2 h3 => hsp (K w.params) H a ns h1 h2 h3) fun _ H s e s' => hCX H s e s'
end L2

/- THE LAST THEOREM (shape; LID, My.* are yours):
   My.Adr: a structure of the addresses that your layer names (classes, functions); My.Txt K t: a structure (Prop) of the equations over K;
   My.txt_mk : {K} {implicit addresses ..} (e1 : nsIn K mainGlobals "law" = some (some (.ref f))) (e2 : K.lookup f = some ⟨oc, od, .func (fnOf "law" "law" params body scope dV kV doc pm an cdv ct), sl⟩) (e3 : codeIn K cdv "law" = true) .. : ∃ t, My.Txt K t

set_option maxRecDepth 100000 in
set_option maxHeartbeats 0 in
theorem PySem.Challenge.cw_LID_holds : PySem.Challenge.rw_LID.Holds := by
  w_on; o_law; k_head; (case hw => w_witness2)
  k_fill
  refine L2.walk_of (l := PySem.Challenge.rw_LID) (n := 63) (k := 40) (x := "script") (CX := fun w => ..) (sp := fun _ => My.sp_law) rfl (by decide) rfl ⟨rfl, by decide, by decide⟩ (fun w h Y => PySem.W.kIn_of Y) ?F ?S ?C
  case F =>
    intro w mg fa h KX G hmg
    have T : ∃ t, My.Txt (L2.KOf KX) t := by
      dsimp only [L2.KOf]                          -- K must stand as «<heap const> w.params» for k_is
      refine' My.txt_mk ?e1 ?e2 ?e3 ..
      (case e1 => PySem.W.k_is)                    -- in the order: a name -> its address -> its object -> its parts
      (case e2 => PySem.W.k_is)
      ..
    obtain ⟨t, T⟩ := T
    have e0 := hmg.symm.trans (PySem.W.mg_of KX G T.law)
    cases e0                                       -- fa is the law's own address
    exact ⟨_, fun s u => .of_eq rfl, fun base kb nb => My.law_fn T kb nb⟩     -- if «.of_eq rfl» comes too early: refine' ⟨_, ?b, fun base kb nb => My.law_fn T kb nb⟩; exact fun s u => .of_eq rfl
  case S => exact fun w H a ns hl hO hS => ..
  case C => exact ..
(the tactic k_is has no namespace: write k_is) -/

/-! SHORT WORDS over the layer: a def of the text, its body, what a loop and a test want. -/
namespace L2
open PySem PySem.Spec PyProof.Rows

/-! ### the text by places -/
/-- the j-th statement of a class's body -/
def inClass (s : Stmt) (j : Nat) : Stmt := match s with
  | .ClassDef _ _ _ body _ _ _ _ _ _ _ => body.getD j (.Pass ⟨0, 0, 0, 0⟩)
  | _ => .Pass ⟨0, 0, 0, 0⟩
def defArgs (s : Stmt) : Arguments := match s with
  | .FunctionDef _ a _ _ _ _ _ _ _ _ => a
  | _ => { posonlyargs := [], args := [], vararg := none, kwonlyargs := [], kw_defaults := [], kwarg := none, defaults := [] }
def defBody (s : Stmt) : List Stmt := match s with
  | .FunctionDef _ _ b _ _ _ _ _ _ _ => b
  | _ => []
def defScope (s : Stmt) : Scope := match s with
  | .FunctionDef _ _ _ _ _ _ sc _ _ _ => sc
  | _ => { kind := .function, names := [], isGenerator := false, isCoroutine := false }

/-! ### no exception leaves a def -/
abbrev CX0 : CXT := fun _ _ _ _ _ _ => False
abbrev E0 : XK := fun _ _ _ => False
theorem pass0 {X : Cx} : Passes CX0 X E0 := fun _ _ _ _ _ _ _ h => h.elim

/-! ### a def (or method) of the text as it stands behind the top -/
structure Fun (K : PySem.W.Frag) (x qual : Str) (st : Stmt) (f : Addr) (fd : FuncData) : Prop where
  ex : ∃ (oc : Value) (od : Option Addr) (kV doc pm : Value) (an : Option Addr) (cdv ct : Value) (osl : Array (Option Value)),
    fd = PySem.W.fnOf x qual (defArgs st) (defBody st) (defScope st) .none kV doc pm an cdv ct ∧ K.lookup f = some ⟨oc, od, .func fd, osl⟩ ∧ PySem.W.codeIn K cdv qual = true
  kp : PySem.W.keepIn K (.ref f) = true
section
variable {P : Program} {w : World} {K : PySem.W.Frag} {mg : Str → Option Value} {base : Heap}
/-- THE RULE for a def: its body as a term of rules, and the reading of that term -/
theorem Fun.ok {x qual : Str} {st : Stmt} {f : Addr} {fd : FuncData} {N ps : List Str} {k : Nat} {sp : Sp} (F : Fun K x qual st f fd) (S : FnScope N ps (defScope st)) (len : ∀ vs H Q E, sp vs H Q E → vs.length = ps.length)
    (hbody : ∀ (cdv : Value) (A : Around) (outer : List Env) (s : Shared) (H : Hp) (vs : List V) (Q : VK) (E : XK), Room k (A.deeper (envOfC qual (defScope st) s.heap.objs.size f cdv)) → sp vs H Q E →
      ∃ t, PSs (cxOf CX0 P w K mg base N qual (defScope st) f cdv A outer s H E).nox (defBody st) t ∧ t { nx := fun _ H' => Q .non H', rt := Q } (start N vs) H) : FnOk P w K mg base CX0 (k + 1) f fd ps sp := by
  obtain ⟨oc, od, kV, doc, pm, an, cdv, ct, osl, rfl, lk, hcd⟩ := F.ex
  refine fn_of lk hcd S len fun A outer s H vs Q E hr hsp => ?_
  obtain ⟨t, h, q⟩ := hbody cdv A outer s H vs Q E hr hsp
  exact ⟨t, h.nox, q⟩
/-- how its arguments bind (no defaults): h is «fun _ _ _ _ _ _ us hl => match us, hl with | [_, _], _ => rfl», one _ a parameter -/
theorem Fun.binds {x qual : Str} {st : Stmt} {f : Addr} {fd : FuncData} {ps : List Str} (F : Fun K x qual st f fd)
    (h : ∀ (kV doc pm : Value) (an : Option Addr) (cdv ct : Value) (us : List Value), us.length = ps.length → bindArgs (PySem.W.fnOf x qual (defArgs st) (defBody st) (defScope st) .none kV doc pm an cdv ct) ⟨us, []⟩ = pure (ps.zip us)) : Binds K fd ps [] := by
  obtain ⟨oc, od, kV, doc, pm, an, cdv, ct, osl, rfl, lk, hcd⟩ := F.ex
  exact .all (h kV doc pm an cdv ct)
theorem fun_mk {x qual : Str} {st : Stmt} {f : Addr} {oc : Value} {od an : Option Addr} {osl : Array (Option Value)} {kV doc pm cdv ct : Value} (l : K.lookup f = some ⟨oc, od, .func (PySem.W.fnOf x qual (defArgs st) (defBody st) (defScope st) .none kV doc pm an cdv ct), osl⟩)
    (c : PySem.W.codeIn K cdv qual = true) (k : PySem.W.keepIn K (.ref f) = true) : Fun K x qual st f (PySem.W.fnOf x qual (defArgs st) (defBody st) (defScope st) .none kV doc pm an cdv ct) := ⟨⟨oc, od, kV, doc, pm, an, cdv, ct, osl, rfl, l, c⟩, k⟩
end
theorem hu_of {A : Around} {k : Nat} (hr : Room k A) : A.units + 1 < cLine := Nat.lt_of_le_of_lt (Nat.add_le_add_left (by decide : 1 ≤ 64) _) hr.units
theorem small1000 {n : Nat} (h : n ≤ 1000) : n < sizeLine := Nat.lt_of_le_of_lt h (by decide)

/-! ### expressions in short: the name that stands in the i-th slot -/
section
variable {X : Cx}
theorem pv (i : Nat) {x : Str} {pos : Pos} (hN : X.N[i]? = some x := by rfl) (hv : Vis X.env.scope x := by first | exact Or.inl rfl | exact Or.inr (Or.inl rfl) | exact Or.inr (Or.inr rfl)) (hd : (x == ("__debug__" : Str)) = false := by decide)
    (hcd : (x == ("__classdict__" : Str)) = false := by decide) : PE X (.Name x pos) (tVar i) := pe_var hN hv hd hcd
end

/-! ### tests -/
theorem iteF {A B : Prop} (h : B) : if false = true then A else B := by
  rw [if_neg Bool.false_ne_true]
  exact h
theorem iteT {A B : Prop} (h : A) : if true = true then A else B := by
  rw [if_pos rfl]
  exact h
theorem ite2 {c A B : Prop} [Decidable c] (h1 : c → A) (h2 : ¬ c → B) : if c then A else B := by
  by_cases h : c
  · rw [if_pos h]
    exact h1 h
  · rw [if_neg h]
    exact h2 h
theorem iteNS {c A B : Prop} [Decidable c] (hc : c) (h : B) : if (!decide c) = true then A else B := by
  rw [decide_eq_true hc]
  exact iteF h

/-! ### heaps -/
/-- all that was tracked is as it was -/
def Same (H H' : Hp) : Prop := ∀ b o, H b = some o → H' b = some o
theorem Same.refl (H : Hp) : Same H H := fun _ _ h => h
theorem Same.trans {H H1 H2 : Hp} (a : Same H H1) (b : Same H1 H2) : Same H H2 := fun c o h => b c o (a c o h)
theorem Same.free {H H' : Hp} (e : Same H H') {l : Addr} (h : H' l = Option.none) : H l = Option.none := by
  cases q : H l with
  | none => rfl
  | some o =>
    rw [e l o q] at h
    cases h
theorem Same.seq {K : PySem.W.Frag} {H H' : Hp} {a : Addr} {xs : List V} (e : Same H H') (h : SqL K H a xs) : SqL K H' a xs := by
  rcases h with (h | ⟨o, h⟩) | h
  · exact .inl (.inl (e _ _ h))
  · exact .inl (.inr ⟨o, e _ _ h⟩)
  · exact .inr h

end L2
set_option Elab.async false
set_option linter.all false
set_option maxRecDepth 100000
set_option maxHeartbeats 4000000
/-! A LIST COMPREHENSION of one clause, in the hand layer: its block's context, its rule as an expression and as «name = [..]». -/
namespace L2
open PySem PySem.Spec PyProof.Rows

/-! ### the cells that a block takes over, and its own -/
def clFrom (env : Env) : List (Str × NameKind) → List (Str × Addr) → List (Str × Addr)
  | [], acc => acc
  | (n, k) :: r, acc => if (k == .free) = true then clFrom env r ((n, (env.cells.lookup n).getD 0) :: acc) else clFrom env r acc
theorem closure_go {env : Env} (f : Str × NameKind → List (Str × Addr) → Sem (ForInStep (List (Str × Addr))))
    (hf : ∀ name kind cs, f (name, kind) cs = if (kind == .free) = true then (do let c ← cellOf env name; pure (.yield ((name, c) :: cs))) else pure (.yield cs)) :
    ∀ (names : List (Str × NameKind)) (acc : List (Str × Addr)), (∀ y ∈ names, y.2 = .free → (env.cells.lookup y.1).isSome = true) → forIn names acc f = (pure (clFrom env names acc) : Sem _)
  | [], acc, _ => by rw [List.forIn_nil]; rfl
  | (n, k) :: r, acc, h => by
    rw [List.forIn_cons, hf]
    unfold clFrom
    by_cases hk : (k == NameKind.free) = true
    · rw [if_pos hk, if_pos hk]
      obtain ⟨c, hc⟩ := Option.isSome_iff_exists.mp (h (n, k) List.mem_cons_self (by simpa using hk))
      have e : cellOf env n = pure c := by unfold cellOf; rw [hc]
      rw [e, hc]
      simp only [pure_bind]
      exact closure_go f hf r _ fun y hy => h y (List.mem_cons_of_mem _ hy)
    · rw [if_neg hk, if_neg hk]
      simp only [pure_bind]
      exact closure_go f hf r _ fun y hy => h y (List.mem_cons_of_mem _ hy)
theorem closureFor_cl {scope : Scope} {env : Env} (h : ∀ y ∈ scope.names, y.2 = .free → (env.cells.lookup y.1).isSome = true) : closureFor scope env = pure (clFrom env scope.names []) := by
  simp only [closureFor]
  rw [closure_go (env := env) _ (fun name kind cs => by cases hk : kind == NameKind.free <;> simp [hk]) scope.names [] h]
  rfl
theorem clFrom_lookup (env : Env) (x : Str) : ∀ (names : List (Str × NameKind)) (acc : List (Str × Addr)), (clFrom env names acc).lookup x = if (x, NameKind.free) ∈ names then some ((env.cells.lookup x).getD 0) else acc.lookup x
  | [], acc => by simp [clFrom]
  | (n, k) :: r, acc => by
    unfold clFrom
    by_cases hk : (k == NameKind.free) = true
    · have ek : k = NameKind.free := by simpa using hk
      subst ek
      rw [if_pos hk, clFrom_lookup env x r]
      by_cases hr : (x, NameKind.free) ∈ r
      · rw [if_pos hr, if_pos (List.mem_cons_of_mem _ hr)]
      · rw [if_neg hr, List.lookup_cons]
        by_cases hx : x = n
        · subst hx
          simp
        · have e1 : (x == n) = false := beq_eq_false_iff_ne.mpr hx
          rw [e1]
          have e2 : ¬ (x, NameKind.free) ∈ (n, NameKind.free) :: r := by
            intro z
            rcases List.mem_cons.mp z with z | z
            · exact hx (Prod.mk.inj z).1
            · exact hr z
          rw [if_neg e2]
    · rw [if_neg hk, clFrom_lookup env x r]
      have e2 : (x, NameKind.free) ∈ (n, k) :: r ↔ (x, NameKind.free) ∈ r := by
        constructor
        · intro z
          rcases List.mem_cons.mp z with z | z
          · exact absurd (by rw [(Prod.mk.inj z).2.symm]; rfl) hk
          · exact z
        · exact List.mem_cons_of_mem _
      by_cases hr : (x, NameKind.free) ∈ r
      · rw [if_pos hr, if_pos (e2.mpr hr)]
      · rw [if_neg hr, if_neg (fun z => hr (e2.mp z))]
theorem cellsFrom_app : ∀ (names : List (Str × NameKind)) (n : Nat) (acc : List (Str × Addr)), cellsFrom n names acc = cellsFrom n names [] ++ acc
  | [], n, acc => by simp [cellsFrom]
  | (x, k) :: r, n, acc => by
    unfold cellsFrom
    split
    · rw [cellsFrom_app r (n + 1) ((x, n) :: acc), cellsFrom_app r (n + 1) [(x, n)]]
      simp
    · exact cellsFrom_app r n acc
theorem cellsFrom_mem : ∀ (names : List (Str × NameKind)) (n : Nat) (x : Str) (c : Addr), (x, c) ∈ cellsFrom n names [] → (x, NameKind.cell) ∈ names ∧ n ≤ c
  | [], n, x, c, h => by simp [cellsFrom] at h
  | (y, k) :: r, n, x, c, h => by
    unfold cellsFrom at h
    split at h
    · rename_i hk
      rw [cellsFrom_app] at h
      rcases List.mem_append.mp h with h | h
      · have q := cellsFrom_mem r (n + 1) x c h
        exact ⟨List.mem_cons_of_mem _ q.1, by omega⟩
      · have e : (x, c) = (y, n) := by simpa using h
        cases e
        have ek : k = NameKind.cell := by simpa using hk
        subst ek
        exact ⟨List.mem_cons_self, Nat.le_refl _⟩
    · have q := cellsFrom_mem r n x c h
      exact ⟨List.mem_cons_of_mem _ q.1, q.2⟩
theorem lookup_of_mem_nodup {α : Type} : ∀ {l : List (Str × α)} {x : Str} {k : α}, (l.map (·.1)).Nodup → (x, k) ∈ l → l.lookup x = some k
  | (y, j) :: r, x, k, nd, h => by
    rw [List.lookup_cons]
    rcases List.mem_cons.mp h with e | h
    · cases e; simp
    · have nd' := List.nodup_cons.mp nd
      have this : x ≠ y := fun z => nd'.1 (by
        rw [← z]
        exact List.mem_map.mpr ⟨(x, k), h, rfl⟩)
      rw [beq_eq_false_iff_ne.mpr this]
      exact lookup_of_mem_nodup nd'.2 h

/-- the block's new env: a dict for its locals, cells for its own names that inner blocks take -/
theorem newBlockEnv {M : Model} {A : Around} {E : Value → Shared → Prop} {s : Shared} {scope : Scope} {globals : Addr} {cl : List (Str × Addr)} {qual : Str} {env : Env} {Q : Env → Shared → Prop}
    (h : Q (newEnv scope s.heap.objs.size globals (cellsFrom (s.heap.objs.size + 1) scope.names cl) qual none .none (some env) builtinsNs) { s with heap := pushCells (s.heap.push { cls := .type "dict", data := .dict #[] }) scope.names }) :
    wpAny M A (newFunctionEnv scope globals cl [] qual none .none (some env)) Q E s := by
  simp only [newFunctionEnv, Option.isSome_some, if_true]
  refine wpAny_bind (wpAny_alloc ?_)
  refine wpAny_bind (wpAny_layCells _ (fun name kind cells => by cases hkc : kind == NameKind.cell <;> simp [hkc]) _ _ _ _ ?_)
  rw [show ({ s with heap := s.heap.push { cls := .type "dict", data := .dict #[] } } : Shared).heap.objs.size = s.heap.objs.size + 1 from Heap.size_push ..]
  rw [List.forIn_nil]
  exact wpAny_bind (wpAny_pure (wpAny_pure h))

/-! ### a block's scope: N' its names, ix where each of them comes from (a slot of the frame around, or its own) -/
structure BScope (N : List Str) (env : Env) (N' : List Str) (ix : List (Option Nat)) (sc : Scope) : Prop where
  kind : sc.kind = .function
  ndn : (sc.names.map (·.1)).Nodup
  free : ∀ y ∈ sc.names, y.2 = .free → env.kindOf y.1 = some .cell ∨ env.kindOf y.1 = some .free
  len : ix.length = N'.length
  cap : ∀ (i j : Nat), ix[i]? = some (some j) → ∃ x, N'[i]? = some x ∧ N[j]? = some x ∧ sc.names.lookup x = some .free
theorem BScope.names {N : List Str} {env : Env} {N' : List Str} {ix : List (Option Nat)} {sc : Scope} (S : BScope N env N' ix sc) : ∀ y ∈ sc.names, y.2 = .local → sc.names.lookup y.1 = some .local := fun y hy e => by
  obtain ⟨x, k⟩ := y
  cases e
  exact lookup_of_mem_nodup S.ndn hy
/-- the block's slots at a turn's start -/
def capS (σ : St) (ix : List (Option Nat)) : St := ix.map fun o => o.bind fun j => (σ[j]?).join
def bEnv (sc : Scope) (C : Addr) (env : Env) : Env := compEnvC sc (cellsFrom (C + 1) sc.names (clFrom env sc.names [])) C env
/-- the context of a comprehension's block; s, H: ahead of its list and its locals; C: its locals; fp: the iterator's objects -/
def bCx (X : Cx) (N' : List Str) (sc : Scope) (s : Shared) (H : Hp) (C : Addr) (fp : List Addr) : Cx where
  prog := X.prog
  w := X.w
  K := X.K
  mg := X.mg
  base := X.base
  A := X.A
  N := N'
  s₀ := s
  H₀ := H
  env := bEnv sc C X.env
  outer := X.stack
  stack := X.stack
  ex := fp
  fn := fun x => decide (sc.names.lookup x = some .cell)
  calm := X.calm
  pn := []
  xe := fun _ _ => False

theorem lookup_relabel {env : Env} : ∀ {names : List (Str × NameKind)} {x : Str} {k : NameKind}, names.lookup x = some k →
    (names.map fun (n, k) => if (k == NameKind.free && env.scope.kind == .function && env.kindOf n == some .cell) then (n, NameKind.cell) else (n, k)).lookup x = some (if (k == NameKind.free && env.scope.kind == .function && env.kindOf x == some .cell) = true then .cell else k)
  | [], _, _, h => by simp at h
  | (n, j) :: r, x, k, h => by
    have ih := @lookup_relabel env r x k
    show List.lookup x ((if (j == NameKind.free && env.scope.kind == .function && env.kindOf n == some .cell) = true then (n, NameKind.cell) else (n, j)) :: _) = _
    cases hx : x == n with
    | true =>
      have e : x = n := by simpa using hx
      subst e
      simp only [List.lookup_cons, hx] at h
      have ej : j = k := Option.some.inj h
      subst ej
      by_cases hc : (j == NameKind.free && env.scope.kind == .function && env.kindOf x == some .cell) = true
      · rw [if_pos hc, if_pos hc]; simp [List.lookup_cons]
      · rw [if_neg hc, if_neg hc]; simp [List.lookup_cons]
    | false =>
      simp only [List.lookup_cons, hx] at h
      by_cases hc : (j == NameKind.free && env.scope.kind == .function && env.kindOf n == some .cell) = true
      · rw [if_pos hc]; simp only [List.lookup_cons, hx]; exact ih h
      · rw [if_neg hc]; simp only [List.lookup_cons, hx]; exact ih h
theorem lookup_relabel_none {env : Env} : ∀ {names : List (Str × NameKind)} {x : Str}, names.lookup x = none →
    (names.map fun (n, k) => if (k == NameKind.free && env.scope.kind == .function && env.kindOf n == some .cell) then (n, NameKind.cell) else (n, k)).lookup x = none
  | [], _, _ => rfl
  | (n, j) :: r, x, h => by
    have ih := @lookup_relabel_none env r x
    show List.lookup x ((if (j == NameKind.free && env.scope.kind == .function && env.kindOf n == some .cell) = true then (n, NameKind.cell) else (n, j)) :: _) = _
    cases hx : x == n with
    | true => simp only [List.lookup_cons, hx] at h; cases h
    | false =>
      simp only [List.lookup_cons, hx] at h
      by_cases hc : (j == NameKind.free && env.scope.kind == .function && env.kindOf n == some .cell) = true
      · rw [if_pos hc]; simp only [List.lookup_cons, hx]; exact ih h
      · rw [if_neg hc]; simp only [List.lookup_cons, hx]; exact ih h
theorem bEnv_kind {sc : Scope} {C : Addr} {env : Env} {x : Str} {k : NameKind} (h : sc.names.lookup x = some k) : (bEnv sc C env).kindOf x = some (if (k == NameKind.free && env.scope.kind == .function && env.kindOf x == some .cell) = true then .cell else k) := lookup_relabel h
theorem bEnv_none {sc : Scope} {C : Addr} {env : Env} {x : Str} (h : sc.names.lookup x = none) : (bEnv sc C env).kindOf x = none := lookup_relabel_none h

section
variable {X : Cx} {N' : List Str} {ix : List (Option Nat)} {sc : Scope}
/-- the cells of a block: its own, or the frame's -/
theorem bCells (S : BScope X.N X.env N' ix sc) {C : Addr} {x : Str} {c : Addr} (h : (bEnv sc C X.env).cells.lookup x = some c) :
    (sc.names.lookup x = some .cell ∧ C + 1 ≤ c ∧ (x, c) ∈ cellsFrom (C + 1) sc.names []) ∨ (sc.names.lookup x = some .free ∧ c = (X.env.cells.lookup x).getD 0) := by
  have e : (bEnv sc C X.env).cells = cellsFrom (C + 1) sc.names [] ++ clFrom X.env sc.names [] := cellsFrom_app _ _ _
  rw [e] at h
  rcases List.mem_append.mp (mem_of_lookup h) with q | q
  · obtain ⟨a, b⟩ := cellsFrom_mem _ _ _ _ q
    exact .inl ⟨lookup_of_mem_nodup S.ndn a, b, q⟩
  · have fr : (x, NameKind.free) ∈ sc.names := by
      have z : ∀ (names : List (Str × NameKind)) (acc : List (Str × Addr)), (x, c) ∈ clFrom X.env names acc → (x, c) ∈ acc ∨ (x, NameKind.free) ∈ names := by
        intro names
        induction names with
        | nil => intro acc h; exact .inl h
        | cons y r ih =>
          obtain ⟨n, k⟩ := y
          intro acc h
          unfold clFrom at h
          split at h
          · rename_i hk
            have ek : k = NameKind.free := by simpa using hk
            subst ek
            rcases ih _ h with h | h
            · rcases List.mem_cons.mp h with h | h
              · cases h; exact .inr List.mem_cons_self
              · exact .inl h
            · exact .inr (List.mem_cons_of_mem _ h)
          · rcases ih _ h with h | h
            · exact .inl h
            · exact .inr (List.mem_cons_of_mem _ h)
      rcases z _ _ q with q | q
      · simp at q
      · exact q
    have hf := lookup_of_mem_nodup S.ndn fr
    have hn : (cellsFrom (C + 1) sc.names []).lookup x = none := by
      cases z : (cellsFrom (C + 1) sc.names []).lookup x with
      | none => rfl
      | some d =>
        have q' := cellsFrom_mem _ _ _ _ (mem_of_lookup z)
        have := lookup_of_mem_nodup S.ndn q'.1
        rw [hf] at this; cases this
    rw [List.lookup_append, hn, clFrom_lookup, if_pos fr] at h
    exact .inr ⟨hf, (Option.some.inj (by simpa using h)).symm⟩
theorem bCells_free (S : BScope X.N X.env N' ix sc) {C : Addr} {x : Str} (h : sc.names.lookup x = some .free) : (bEnv sc C X.env).cells.lookup x = some ((X.env.cells.lookup x).getD 0) := by
  have e : (bEnv sc C X.env).cells = cellsFrom (C + 1) sc.names [] ++ clFrom X.env sc.names [] := cellsFrom_app _ _ _
  have hn : (cellsFrom (C + 1) sc.names []).lookup x = none := by
    cases z : (cellsFrom (C + 1) sc.names []).lookup x with
    | none => rfl
    | some d =>
      have q' := cellsFrom_mem _ _ _ _ (mem_of_lookup z)
      have := lookup_of_mem_nodup S.ndn q'.1
      rw [h] at this; cases this
  rw [e, List.lookup_append, hn, clFrom_lookup, if_pos (mem_of_lookup h)]
  rfl
theorem bCells_own {C : Addr} {env : Env} {x : Str} (h : sc.names.lookup x = some .cell) : ∃ c, (bEnv sc C env).cells.lookup x = some c := by
  have e : (bEnv sc C env).cells = cellsFrom (C + 1) sc.names [] ++ clFrom env sc.names [] := cellsFrom_app _ _ _
  obtain ⟨c, hc⟩ := cell_has (n := C + 1) h
  exact ⟨c, by rw [e, List.lookup_append, hc]; rfl⟩
/-- THE BLOCK's START: the frame's invariant gives the block's -/
theorem block_start {pins : List (Addr × Obj)} {σ : St} {H : Hp} {s : Shared} {fp : List Addr} (S : BScope X.N X.env N' ix sc) (I : Inv X pins σ H s) (hf : ∀ b ∈ fp, FpOk X pins H b) (hlt : ∀ b ∈ fp, b < s.heap.objs.size) :
    Inv (bCx X N' sc s H (s.heap.objs.size + 1) fp) [] (capS σ ix) H
      { s with heap := pushCells ((s.heap.push { cls := .type "list", data := .seq #[] }).push { cls := .type "dict", data := .dict #[] }) sc.names } := by
  have sz1 : (s.heap.push { cls := .type "list", data := .seq #[] }).objs.size = s.heap.objs.size + 1 := Heap.size_push ..
  have keep : ∀ b o, s.heap.get? b = some o → (pushCells ((s.heap.push { cls := .type "list", data := .seq #[] }).push { cls := .type "dict", data := .dict #[] }) sc.names).get? b = some o := fun b o e =>
    pushCells_keeps _ _ b o (Heap.get?_push_of_some _ (Heap.get?_push_of_some _ e))
  have ok := cellsFrom_ok sc.names ((s.heap.push { cls := .type "list", data := .seq #[] }).push { cls := .type "dict", data := .dict #[] }) (s.heap.objs.size + 2) [] ⟨fun _ _ hm => (nomatch hm), List.Pairwise.nil⟩ (by rw [Heap.size_push, sz1]; exact Nat.le_refl _)
  rw [Heap.size_push, sz1] at ok
  have cOld : ∀ x c, sc.names.lookup x = some .free → c = (X.env.cells.lookup x).getD 0 → X.env.cells.lookup x = some c := fun x c h1 h2 => by
    obtain ⟨d, hd⟩ := I.ok.has x (S.free (x, .free) (mem_of_lookup h1) rfl)
    rw [hd] at h2 ⊢
    rw [h2]; rfl
  have hold : ∀ x c, X.env.cells.lookup x = some c → c < s.heap.objs.size := fun x c e => by
    obtain ⟨v, q⟩ := I.cell x c e
    exact q.lt
  refine ⟨⟨I.ok.mod, S.kind, I.ok.glob, I.ok.blt, Nat.le_succ _, fun x y c h1 h2 => ?_, fun x hx => ?_, fun x c hx h => ?_, I.ok.hd, I.ok.frames, .inl rfl, fun b hb => ⟨?_, fun x c h => ?_⟩, I.bs, Nat.le_trans I.ok.bsz I.sz, fun b o e hb => ?_, fun b hb => ?_, I.stack, I.stkFree⟩,
    rfl, I.bare, Un.kept keep, ⟨fun _ => none, ?_, fun i x v e1 e2 e3 => ?_⟩, fun x c h => ?_, I.hok.fresh (Nat.le_succ _), fun x c h => ?_, fun p hp => absurd (show p ∈ ([] : List (Addr × Obj)) from hp) (by simp), I.hok.kept keep, ?_⟩
  · rcases bCells S h1 with ⟨a1, b1, q1⟩ | ⟨a1, b1⟩ <;> rcases bCells S h2 with ⟨a2, b2, q2⟩ | ⟨a2, b2⟩
    · exact name_of_addr ok.apart q1 q2
    · exact absurd (hold y c (cOld y c a2 b2)) (Nat.not_lt.mpr (Nat.le_trans (Nat.le_add_right _ 2) b1))
    · exact absurd (hold x c (cOld x c a1 b1)) (Nat.not_lt.mpr (Nat.le_trans (Nat.le_add_right _ 2) b2))
    · exact I.ok.inj x y c (cOld x c a1 b1) (cOld y c a2 b2)
  · cases q : sc.names.lookup x with
    | none =>
      have z := bEnv_none (C := s.heap.objs.size + 1) (env := X.env) q
      rcases hx with hx | hx
      · exact absurd (hx.symm.trans z) (by simp)
      · exact absurd (hx.symm.trans z) (by simp)
    | some k =>
      have z := bEnv_kind (C := s.heap.objs.size + 1) (env := X.env) q
      cases k with
      | free => exact ⟨_, bCells_free S q⟩
      | cell => exact bCells_own q
      | _ =>
        rcases hx with hx | hx
        · have := hx.symm.trans z
          simp at this
        · have := hx.symm.trans z
          simp at this
  · have hx' : sc.names.lookup x = some .cell := of_decide_eq_true hx
    rcases bCells S h with ⟨_, b1, _⟩ | ⟨a1, _⟩
    · exact Nat.le_trans (by omega : s.heap.objs.size ≤ s.heap.objs.size + 1 + 1) b1
    · rw [hx'] at a1; cases a1
  · exact Nat.ne_of_lt (Nat.lt_succ_of_lt (hlt b hb))
  · obtain ⟨f0, f1, f2, f3, f4, f5⟩ := hf b hb
    rcases bCells S h with ⟨_, b1, _⟩ | ⟨a1, b1⟩
    · exact Nat.ne_of_gt (Nat.lt_of_lt_of_le (hlt b hb) (Nat.le_trans (Nat.le_add_right _ 2) b1))
    · exact f4 x c (cOld x c a1 b1)
  · obtain ⟨f0, f1, f2, f3, f4, f5⟩ := hf b hb
    rcases f3 with f3 | f3
    · exact I.ok.noex b o e f3
    · exact absurd (Nat.lt_of_lt_of_le (Heap.lt_size e) (Nat.le_trans I.ok.bsz f3)) (Nat.lt_irrefl _)
  · obtain ⟨f0, f1, f2, f3, f4, f5⟩ := hf b hb
    intro z
    rcases List.mem_cons.mp (I.stkSub b z) with z | z
    · exact f1 z
    · exact f2 z
  · have q := (Heap.Ns.new (s.heap.push { cls := .type "list", data := .seq #[] }) (.type "dict")).keeps (pushCells_keeps sc.names _)
    rw [sz1] at q
    exact q
  · have hi : i < ix.length := by
      have z := (List.getElem?_eq_some_iff.mp e2).1
      simpa [capS] using z
    have e2' : (capS σ ix)[i]? = (ix[i]?).map fun o => o.bind fun j => (σ[j]?).join := List.getElem?_map ..
    rw [e2', List.getElem?_eq_getElem hi] at e2
    have e2 : (ix[i]).bind (fun j => (σ[j]?).join) = some v := Option.some.inj e2
    cases q : ix[i] with
    | none => rw [q] at e2; cases e2
    | some j =>
      rw [q] at e2
      have e2 : (σ[j]?).join = some v := e2
      have e2 : σ[j]? = some (some v) := by
        cases z : σ[j]? with
        | none => rw [z] at e2; cases e2
        | some w' => rw [z] at e2; have e2 : w' = some v := e2; rw [e2]
      obtain ⟨y, c1, c2, c3⟩ := S.cap i j (by rw [List.getElem?_eq_getElem hi, q])
      have exy : x = y := Option.some.inj (e1.symm.trans c1)
      subst exy
      have kd := S.free (x, .free) (mem_of_lookup c3) rfl
      obtain ⟨m, hn, hl⟩ := I.loc
      obtain ⟨u, ru, lu⟩ := hl j x v c2 e2 (by rcases kd with k | k; exact .inr (.inl k); exact .inr (.inr k))
      refine ⟨u, ru, .inr ⟨?_, ?_⟩⟩
      · rw [show (bCx X N' sc s H (s.heap.objs.size + 1) fp).env.kindOf x = _ from bEnv_kind (C := s.heap.objs.size + 1) (env := X.env) c3]
        split
        · exact .inl rfl
        · exact .inr rfl
      · rcases lu with ⟨k, _⟩ | ⟨_, c, hc, hcell⟩
        · rcases kd with k' | k' <;> rw [k] at k' <;> cases k'
        · refine ⟨c, ?_, hcell.keeps keep⟩
          have := bCells_free S (C := s.heap.objs.size + 1) c3
          rw [hc] at this
          exact this
  · rcases bCells S h with ⟨_, b1, q⟩ | ⟨a1, b1⟩
    · exact ⟨none, (ok.empty x c q).1⟩
    · obtain ⟨v, q⟩ := I.cell x c (cOld x c a1 b1)
      exact ⟨v, q.keeps keep⟩
  · rcases bCells S h with ⟨_, b1, q⟩ | ⟨a1, b1⟩
    · exact I.hok.fresh (Nat.le_trans (Nat.le_add_right _ 2) b1)
    · exact I.freeC x c (cOld x c a1 b1)
  · show (capS σ ix).length = N'.length
    simp [capS, S.len]
/-- between two turns the block's slots are as at its start -/
theorem block_again {pins pins' : List (Addr × Obj)} {σ σ2 : St} {H H' : Hp} {s s' : Shared} {fp : List Addr} {C : Addr} (S : BScope X.N X.env N' ix sc) (I : Inv X pins σ H s) (hf : ∀ b ∈ fp, FpOk X pins H b)
    (I' : Inv (bCx X N' sc s H C fp) pins' σ2 H' s') : Inv (bCx X N' sc s H C fp) pins' (capS σ ix) H' s' := by
  refine ⟨I'.ok, I'.os, I'.bare, I'.base, ?_, I'.cell, I'.free, I'.freeC, I'.pin, I'.hok, by show (capS σ ix).length = N'.length; simp [capS, S.len]⟩
  obtain ⟨m', hn', _⟩ := I'.loc
  refine ⟨m', hn', fun i x v e1 e2 e3 => ?_⟩
  have hi : i < ix.length := by
    have z := (List.getElem?_eq_some_iff.mp e2).1
    simpa [capS] using z
  have e2' : (capS σ ix)[i]? = (ix[i]?).map fun o => o.bind fun j => (σ[j]?).join := List.getElem?_map ..
  rw [e2', List.getElem?_eq_getElem hi] at e2
  have e2 : (ix[i]).bind (fun j => (σ[j]?).join) = some v := Option.some.inj e2
  cases q : ix[i] with
  | none => rw [q] at e2; cases e2
  | some j =>
    rw [q] at e2
    have e2 : (σ[j]?).join = some v := e2
    have e2 : σ[j]? = some (some v) := by
      cases z : σ[j]? with
      | none => rw [z] at e2; cases e2
      | some w' => rw [z] at e2; have e2 : w' = some v := e2; rw [e2]
    obtain ⟨y, c1, c2, c3⟩ := S.cap i j (by rw [List.getElem?_eq_getElem hi, q])
    have exy : x = y := Option.some.inj (e1.symm.trans c1)
    subst exy
    have kd := S.free (x, .free) (mem_of_lookup c3) rfl
    obtain ⟨m, hn, hl⟩ := I.loc
    obtain ⟨u, ru, lu⟩ := hl j x v c2 e2 (by rcases kd with k | k; exact .inr (.inl k); exact .inr (.inr k))
    refine ⟨u, ru, .inr ⟨?_, ?_⟩⟩
    · rw [show (bCx X N' sc s H C fp).env.kindOf x = _ from bEnv_kind (C := C) (env := X.env) c3]
      split
      · exact .inl rfl
      · exact .inr rfl
    · rcases lu with ⟨k, _⟩ | ⟨_, c, hc, o, ho, hd⟩
      · rcases kd with k' | k' <;> rw [k] at k' <;> cases k'
      · refine ⟨c, ?_, ?_⟩
        · have := bCells_free S (C := C) c3
          rw [hc] at this
          exact this
        · obtain ⟨sl, e⟩ := I'.base.any ho (I.freeC x c hc) fun z => (hf c z).2.2.2.2.1 x c hc rfl
          exact ⟨_, e, hd⟩
/-! ### the tests of a clause -/
def PIf (X : Cx) (ifs : List Expr) (t : TT) : Prop :=
  ∀ (pins : List (Addr × Obj)) (s : Shared) (σ : St) (H : Hp) (Q : Bool → Hp → Prop), Inv X pins σ H s → t σ H Q →
    wpAny (model X.prog X.w) X.A (forIn ifs true fun c r => if r = true then do let ok ← isTrue c X.env (eval c X.env); pure (ForInStep.yield ok) else pure (ForInStep.yield r)) (TP X pins σ Q) X.xe s
def tYes : TT := fun _ H Q => Q true H
theorem pif_nil {X : Cx} : PIf X [] tYes := fun _ _ _ H _ I h => wpAny_tests_nil ⟨H, I, h⟩
theorem pif_one {X : Cx} {c : Expr} {t : TT} (h : PT X c t) : PIf X [c] t := fun pins s σ H Q I hw => wpAny_tests_one (h pins s σ H Q I hw)
/-- the loop of a comprehension, whatever its target -/
theorem compLoop_any {prog : Program} {w : World} {A : Around} {R : Result → Shared → Prop} {s : Shared} {elt target iter : Expr} {ifs : List Expr} {scope : Scope} {pos : Pos} {it acc : Value} {env : Env} (I : Nat → Shared → Prop)
    (turn : ∀ n s, I n s → wpAny (model prog w) A (pyNext it) (fun r s₁ => match r with
      | none => R (.ok .next) s₁
      | some v => wpAny (model prog w) A (letOwnedTupleGo target it v) (fun _ s₁' => wpAny (model prog w) A (assign target env v) (fun _ s₂ =>
          wpAny (model prog w) A (forIn ifs true fun c r => if r = true then do let ok ← isTrue c env (eval c env); pure (ForInStep.yield ok) else pure (ForInStep.yield r)) (fun ok s₃ =>
            if ok = true then wpAny (model prog w) A (eval elt env) (fun x s₄ =>
              wpAny (model prog w) A (call (.builtin "list.append") [acc, x]) (fun _ s₅ => ∃ m, m < n ∧ I m s₅) (fun _ _ => False) s₄) (fun _ _ => False) s₃
            else ∃ m, m < n ∧ I m s₃) (fun _ _ => False) s₂) (fun _ _ => False) s₁') (fun _ _ => False) s₁) (fun _ _ => False) s)
    (n : Nat) (h : I n s) : codeAny (model prog w) A (.compLoop (.ListComp elt [⟨target, iter, ifs, 0⟩] scope pos) 0 it acc env) R s := by
  refine codeAny_loop rfl I (fun n s hI => ?_) n h
  show wpAny _ A ((compTurn (.ListComp elt [⟨target, iter, ifs, 0⟩] scope pos) 0 it acc env).onRaise (fun x => do noteFrame x env; theTreesLotGoes x)) _ _ s
  refine wpAny_noted ?_
  rw [compTurn_list]
  refine wpAny_bind (wpAny_standAt (wpAny_bind (wpAny_mono (turn n s hI) (fun r s₁ h₁ => ?_) fun _ _ h' => h'.elim)))
  cases r with
  | none => exact wpAny_pure h₁
  | some v =>
    refine wpAny_bind (wpAny_mono h₁ (fun _ s₁' h₁' => wpAny_bind (wpAny_mono h₁' (fun _ s₂ h₂ => wpAny_bind (wpAny_mono h₂ (fun ok s₃ h₃ => ?_) fun _ _ h' => h'.elim)) fun _ _ h' => h'.elim)) fun _ _ h' => h'.elim)
    cases ok with
    | false => exact wpAny_pure ⟨rfl, h₃⟩
    | true =>
      exact wpAny_bind (wpAny_bind (wpAny_mono h₃ (fun x s₄ h₄ => wpAny_bind (wpAny_mono h₄ (fun _ s₅ h₅ => wpAny_pure (wpAny_pure ⟨rfl, h₅⟩)) fun _ _ h' => h'.elim)) fun _ _ h' => h'.elim))
/-- what a comprehension asks: W the invariant by the turn, a measure, the items so far, the heap -/
def tCompW (J : It) (σ0 : St) (g : TG) (tt : TT) (te : TE) (H1 : Hp) (Qe : List V → Hp → Prop) : Prop :=
  ∃ W : Nat → Nat → List V → Hp → Prop, (∃ m, W 0 m [] H1) ∧ ∀ i m ys H, W i m ys H →
    (J.stop i H ∧ Qe ys H) ∨
    (J.go i H ∧ ys.length < sizeLine ∧ ∃ N : List V → Hp → Prop, (∀ ys' H', N ys' H' → ∃ m', m' < m ∧ W (i + 1) m' ys' H') ∧
      ∀ x H', J.yld i H x H' → g x σ0 H' fun σ2 H2 => tt σ2 H2 fun b H3 => if b = true then te σ2 H3 fun y H4 => N (ys ++ [y]) H4 else N ys H3)
theorem comp_run {tg iter elt : Expr} {ifs : List Expr} {pos : Pos} {g : TG} {tt : TT} {te : TE} {pins : List (Addr × Obj)} {σ : St} {H : Hp} {s : Shared} {it : Addr} {fp : List Addr} {tn : Nat → Heap → Prop} {J : It} {Qe : List V → Hp → Prop}
    {RR : Value → Addr → Result → Shared → Prop} {E : Value → Shared → Prop}
    (hc : X.calm = true) (S : BScope X.N X.env N' ix sc) (hg : ∀ s H C fp, PG (bCx X N' sc s H C fp) tg g) (ht : ∀ s H C fp, PIf (bCx X N' sc s H C fp) ifs tt) (he : ∀ s H C fp, PE (bCx X N' sc s H C fp) elt te)
    (I : Inv X pins σ H s) (T : Turn X.prog X.w X.K tg J fp it tn) (st : tn 0 s.heap) (hf : ∀ b ∈ fp, FpOk X pins H b) (hw : tCompW J (capS σ ix) g tt te H Qe)
    (fin : ∀ s' H' ys m, s'.heap.Ns (s.heap.objs.size + 1) m → H' s.heap.objs.size = none → H' (s.heap.objs.size + 1) = none → Qe ys H' → Inv X pins σ (upd H' s.heap.objs.size (.lst ys)) s' → RR (.ref s.heap.objs.size) (s.heap.objs.size + 1) (.ok .next) s') :
    wpAny (model X.prog X.w) X.A (newList []) (fun acc s₃ => wpAny (model X.prog X.w) X.A (newFunctionEnv sc X.env.globals (clFrom X.env sc.names []) [] X.env.qual none .none (some X.env)) (fun cenv s₄ =>
      codeAny (model X.prog X.w) X.A (.compStart (.ListComp elt [⟨tg, iter, ifs, 0⟩] sc pos) 0 (.ref it) acc { cenv with scope := relabel sc X.env }) (RR acc cenv.locals) s₄) E s₃) E s := by
  have hlt : ∀ b ∈ fp, b < s.heap.objs.size := fun b hb => by
    obtain ⟨o, e, _⟩ := T.obj _ _ st b hb
    exact Heap.lt_size e
  refine wpAny_newObj_type (newBlockEnv ?_)
  have sz1 : (s.heap.push { cls := .type "list", dict := none, data := .seq ([] : List Value).toArray }).objs.size = s.heap.objs.size + 1 := Heap.size_push ..
  have I0 := block_start S I hf hlt
  obtain ⟨W, ⟨m0, w0⟩, turn⟩ := hw
  have nD : ∀ b ∈ fp, s.heap.objs.size ≠ b := fun b hb => Nat.ne_of_gt (hlt b hb)
  have freshD : H s.heap.objs.size = none := I.hok.fresh (Nat.le_refl _)
  have cellD : ∀ x c, (bEnv sc (s.heap.objs.size + 1) X.env).cells.lookup x = some c → c ≠ s.heap.objs.size := fun x c h => by
    rcases bCells S h with ⟨_, b1, _⟩ | ⟨a1, b1⟩
    · exact Nat.ne_of_gt (Nat.lt_of_lt_of_le (Nat.lt_succ_of_lt (Nat.lt_succ_self _)) b1)
    · obtain ⟨d, hd⟩ := I.ok.has x (S.free (x, .free) (mem_of_lookup a1) rfl)
      rw [hd] at b1
      obtain ⟨v, q⟩ := I.cell x d hd
      have e : c = d := b1
      rw [e]
      exact Nat.ne_of_lt q.lt
  have fsD : s.heap.objs.size ∉ frs X.stack := fun z => by
    rcases List.mem_cons.mp (I.stkSub _ z) with z | z
    · exact absurd I.lt (by rw [← z]; exact Nat.lt_irrefl _)
    · exact I.nofs (Nat.le_refl _) z
  -- the iterator's objects in the block
  have fpB : ∀ {pins' : List (Addr × Obj)} {H' : Hp}, (∀ b ∈ fp, H' b = none) → (∀ p ∈ pins', ∀ b ∈ fp, p.1 ≠ b) → ∀ b ∈ fp, FpOk (bCx X N' sc s H (s.heap.objs.size + 1) fp) pins' H' b := fun {pins' H'} h1 h2 b hb =>
    ⟨h1 b hb, (I0.ok.exf b hb).1, I0.ok.exfs b hb, .inl hb, (I0.ok.exf b hb).2, fun p hp => h2 p (by simpa [bCx] using hp) b hb⟩
  have getD0 : (pushCells ((s.heap.push { cls := .type "list", data := .seq #[] }).push { cls := .type "dict", data := .dict #[] }) sc.names).get? s.heap.objs.size = some { cls := .type "list", data := .seq #[] } :=
    pushCells_keeps _ _ _ _ (Heap.get?_push_of_some _ (Heap.get?_push_size _ rfl))
  have I0' : Inv (bCx X N' sc s H (s.heap.objs.size + 1) fp) [(s.heap.objs.size, { cls := .type "list", data := .seq #[] })] (capS σ ix) H _ := I0.pins_of (pins' := [(s.heap.objs.size, { cls := .type "list", data := .seq #[] })]) fun p hp => by
    have e : p = (s.heap.objs.size, { cls := .type "list", data := .seq #[] }) := by simpa using hp
    subst e
    exact ⟨getD0, freshD, Nat.ne_of_lt (Nat.lt_succ_self _), fsD, fun v z => by cases z⟩
  have st0 : tn 0 (pushCells ((s.heap.push { cls := .type "list", data := .seq #[] }).push { cls := .type "dict", data := .dict #[] }) sc.names) := T.keep _ _ _ st fun b hb o e => pushCells_keeps _ _ _ _ (Heap.get?_push_of_some _ (Heap.get?_push_of_some _ e))
  have loop : ∀ s4 : Shared, s4 = { s with heap := pushCells ((s.heap.push { cls := .type "list", data := .seq #[] }).push { cls := .type "dict", data := .dict #[] }) sc.names } →
      codeAny (model X.prog X.w) X.A (.compLoop (.ListComp elt [⟨tg, iter, ifs, 0⟩] sc pos) 0 (.ref it) (.ref s.heap.objs.size) (bEnv sc (s.heap.objs.size + 1) X.env)) (RR (.ref s.heap.objs.size) (s.heap.objs.size + 1)) s4 := by
    rintro s4 rfl
    refine compLoop_any (fun n s' => ∃ (i : Nat) (ys : List V) (its : List Value) (k : Nat) (H' : Hp), Inv (bCx X N' sc s H (s.heap.objs.size + 1) fp) [(s.heap.objs.size, { cls := .type "list", data := .seq its.toArray k })] (capS σ ix) H' s' ∧
      tn i s'.heap ∧ (∀ b ∈ fp, H' b = none) ∧ Vals ys its ∧ ys.length ≤ sizeLine ∧ W i n ys H') ?_ m0 ⟨0, [], [], 0, H, I0', st0, fun b hb => (hf b hb).1, .nil, Nat.zero_le _, w0⟩
    rintro n s3 ⟨i, ys, its, k, H3, I3, st3, fr3, rv, hz, w3⟩
    have fp3 := fpB (pins' := [(s.heap.objs.size, { cls := .type "list", data := .seq its.toArray k })]) fr3 (fun p hp b hb => by
      have e : p = (s.heap.objs.size, { cls := .type "list", data := .seq its.toArray k }) := by simpa using hp
      rw [e]; exact nD b hb)
    rcases turn i n ys H3 w3 with ⟨stop, qe⟩ | ⟨go, hz3, N, hN, step⟩
    · refine thn (T.done (bCx X N' sc s H (s.heap.objs.size + 1) fp) rfl rfl rfl hc i _ s3 _ H3 (fun _ _ => False) I3 fp3 st3 stop) fun r s4 ⟨hr, I4⟩ => ?_
      subst hr
      obtain ⟨pg, pn, _⟩ := I4.pin (s.heap.objs.size, { cls := .type "list", data := .seq its.toArray k }) (List.mem_append_right _ List.mem_cons_self)
      obtain ⟨m, hm, _⟩ := I4.loc
      refine fin s4 H3 ys m hm pn I4.free qe ?_
      refine I.call' (ch := fp) I4.os ⟨I4.base.keep, I4.base.slot, fun b o e n hx => ?_, I4.base.there, fun b xs q => ?_, fun b o u q => ?_, fun b ps q => ?_⟩ (fun b o e => ?_) I4.bare fun b hb => ?_
      · rw [upd_ne (Nat.ne_of_lt (Heap.lt_size e))]
        exact I4.base.free b o e n hx
      · have q' := I4.base.tups b xs q
        rw [upd_ne (ne_of_none q' pn)]
        exact q'
      · have q' := I4.base.frzs b o u q
        rw [upd_ne (ne_of_none q' pn)]
        exact q'
      · obtain ⟨more, q'⟩ := I4.base.tbls b ps q
        exact ⟨more, by rw [upd_ne (ne_of_none q' pn)]; exact q'⟩
      · by_cases hb : b = s.heap.objs.size
        · subst hb
          rw [upd_same] at e
          cases e
          exact ⟨hz, its, k, rv, pg⟩
        · rw [upd_ne hb] at e
          exact (I4.hok b o e).stay (fun c v _ q => q) (fun c q => by rw [upd_ne (ne_of_none q pn)]; exact q) fun c xs q => by rw [upd_ne (ne_of_none q pn)]; exact q
      · obtain ⟨f0, f1, f2, f3, f4, f5⟩ := hf b hb
        exact ⟨f3, f1, f4, f5⟩
    · refine thn (T.item (bCx X N' sc s H (s.heap.objs.size + 1) fp) rfl rfl rfl hc i _ s3 _ H3 (fun _ _ => False) I3 fp3 st3 go) fun r s4 ⟨u, hr, h4⟩ => ?_
      subst hr
      refine thn h4 fun _ s5 ⟨x, H5, I5, r5, y5, st5, fr5⟩ => ?_
      have fp5 := fpB (pins' := [(s.heap.objs.size, { cls := .type "list", data := .seq its.toArray k })]) fr5 (fun p hp b hb => by
        have e : p = (s.heap.objs.size, { cls := .type "list", data := .seq its.toArray k }) := by simpa using hp
        rw [e]; exact nD b hb)
      have I5' := I5.pinned fp5 (T.obj _ _ st5)
      refine thn (hg s H _ fp _ s5 _ H5 x u _ I5' r5 (step x H5 y5)) fun _ s6 ⟨σ6, H6, I6, q6⟩ => ?_
      have back : ∀ {σ7 : St} {H7 : Hp} {s7 : Shared}, Inv (bCx X N' sc s H (s.heap.objs.size + 1) fp) ([(s.heap.objs.size, { cls := .type "list", data := .seq its.toArray k })] ++ pinsAt fp s5.heap) σ7 H7 s7 →
          tn (i + 1) s7.heap ∧ (∀ b ∈ fp, H7 b = none) := fun {σ7 H7 s7} I7 => by
        refine ⟨T.keep _ _ _ st5 fun b hb o e => (I7.pin (b, o) (List.mem_append_right _ (List.mem_append_right _ (mem_pinsAt hb e)))).1, fun b hb => ?_⟩
        obtain ⟨o, e, d⟩ := T.obj _ _ st5 b hb
        exact (I7.pin (b, o) (List.mem_append_right _ (List.mem_append_right _ (mem_pinsAt hb e)))).2.1
      refine thn (ht s H _ fp _ s6 σ6 H6 _ I6 q6) fun ok s7 ⟨H7, I7, q7⟩ => ?_
      cases ok with
      | false =>
        rw [if_neg Bool.false_ne_true] at q7 ⊢
        obtain ⟨m', hm', w7⟩ := hN _ _ q7
        exact ⟨m', hm', i + 1, ys, its, k, H7, block_again S I hf I7.unpinned, (back I7).1, (back I7).2, rv, hz, w7⟩
      | true =>
        rw [if_pos rfl] at q7 ⊢
        refine thn (he s H _ fp _ s7 σ6 H7 _ I7 q7) fun xv s8 ⟨y, H8, I8, r8, q8⟩ => ?_
        obtain ⟨m', hm', w8⟩ := hN _ _ q8
        obtain ⟨pg, pn, _⟩ := I8.pin (s.heap.objs.size, { cls := .type "list", data := .seq its.toArray k }) (List.mem_append_right _ (List.mem_append_left _ List.mem_cons_self))
        refine wpAny_list_append_plain (l := s.heap.objs.size) (items := its.toArray) ⟨k, pg⟩ (fun h9 hl9 hs9 => ?_) (by have := rv.length; simp; omega)
        obtain ⟨k9, g9⟩ := hl9
        have I8' : Inv (bCx X N' sc s H (s.heap.objs.size + 1) fp) (pinsAt fp s5.heap) σ6 H8 s8 := I8.pins_of fun p hp => I8.pin p (List.mem_append_right _ (List.mem_append_right _ hp))
        have I9 : Inv (bCx X N' sc s H (s.heap.objs.size + 1) fp) (pinsAt fp s5.heap) σ6 H8 { s8 with heap := h9 } := I8'.turned (t' := s8.toks) (it := s.heap.objs.size) (fun b o hb e => hs9.extBut b o hb e) pn (Nat.ne_of_lt (Nat.lt_succ_self _)) (.inr (Nat.le_refl _)) cellD
          fun p hp => by
            have hp' : p ∈ pinsAt fp s5.heap := by simpa [bCx] using hp
            exact (nD _ (of_pinsAt hp').1).symm
        have I9' : Inv (bCx X N' sc s H (s.heap.objs.size + 1) fp) [(s.heap.objs.size, { cls := .type "list", data := .seq (its ++ [xv]).toArray k9 })] σ6 H8 { s8 with heap := h9 } := I9.pins_of fun p hp => by
          have e : p = (s.heap.objs.size, { cls := .type "list", data := .seq (its ++ [xv]).toArray k9 }) := by simpa using hp
          subst e
          refine ⟨?_, pn, Nat.ne_of_lt (Nat.lt_succ_self _), fsD, fun v z => by cases z⟩
          simpa using g9
        refine ⟨m', hm', i + 1, ys ++ [y], its ++ [xv], k9, H8, block_again S I hf I9', ?_, (back I8).2, rv.append (.cons r8 .nil), by simp; omega, w8⟩
        exact T.keep _ _ _ (back I8).1 fun b hb o e => hs9.extBut b o (nD b hb).symm e
  have key := codeAny_compStart_list (iter := iter) (loop _ rfl) (T.self X.A 0 { s with heap := pushCells ((s.heap.push { cls := .type "list", data := .seq #[] }).push { cls := .type "dict", data := .dict #[] }) sc.names } _ _ st0 (loop _ rfl))
  simpa only [newEnv, sz1, bEnv, compEnvC] using key
/-- [elt for tg in iter if ..]; ix: the block's slots (none: its own name; some j: the frame's slot j) -/
def tComp (wi : TI) (ix : List (Option Nat)) (g : TG) (tt : TT) (te : TE) : TE := fun σ H Q => wi σ H fun J H1 => tCompW J (capS σ ix) g tt te H1 fun ys H2 => ∀ p, H2 p = none → Q (.ref p) (upd H2 p (.lst ys))
theorem BScope.clos {pins : List (Addr × Obj)} {σ : St} {H : Hp} {s : Shared} (S : BScope X.N X.env N' ix sc) (I : Inv X pins σ H s) : closureFor sc X.env = pure (clFrom X.env sc.names []) :=
  closureFor_cl fun y hy e => by
    obtain ⟨c, hc⟩ := I.ok.has y.1 (S.free y hy e)
    rw [hc]; rfl
theorem pe_comp {tg iter elt : Expr} {ifs : List Expr} {pos : Pos} {wi : TI} {g : TG} {tt : TT} {te : TE} (hc : X.calm = true) (S : BScope X.N X.env N' ix sc) (hi : PI X tg iter wi)
    (hg : ∀ s H C fp, PG (bCx X N' sc s H C fp) tg g) (ht : ∀ s H C fp, PIf (bCx X N' sc s H C fp) ifs tt) (he : ∀ s H C fp, PE (bCx X N' sc s H C fp) elt te)
    (hs : ∀ x, foldedSetIterable iter X.env x = pure x := by intro _; rfl) : PE X (.ListComp elt [⟨tg, iter, ifs, 0⟩] sc pos) (tComp wi ix g tt te) := by
  intro pins s σ H Q I h
  rw [eval_ListComp]
  refine wpAny_comprehension_free (use := none) rfl hs (S.clos I) S.kind S.names (thn (hi pins s σ H _ I h) fun v s1 h1 => thn h1 fun itv s2 ⟨it, fp, tn, J, H2, e, I2, T, st2, f2, hw⟩ => ?_)
  subst e
  refine comp_run (RR := fun acc C => compPost (model X.prog X.w) X.A X.xe none (EP X pins σ Q) acc C) hc S hg ht he I2 T st2 f2 hw fun s' H' ys m hn hD hC q I' => ?_
  refine ⟨m, hn, fun h' hs' => ?_⟩
  have nn : (upd H' s2.heap.objs.size (.lst ys)) (s2.heap.objs.size + 1) = none := by
    rw [upd_ne (Nat.ne_of_gt (Nat.lt_succ_self _))]; exact hC
  obtain ⟨f0, f1, f2, f3, f4, f5⟩ := I2.fpOk (H' := upd H' s2.heap.objs.size (.lst ys)) (b := s2.heap.objs.size + 1) (Nat.le_succ _) nn
  exact ⟨.ref s2.heap.objs.size, _, I'.turned (t' := s'.toks) (it := s2.heap.objs.size + 1) (fun b o hb e => hs'.extBut b o hb e) f0 f1 f3 f4 f5, rfl, q _ hD⟩
/-- name = [..], the name a plain local one of the same line -/
theorem ps_setComp {i : Nat} {y : Str} {tg iter elt : Expr} {ifs : List Expr} {pos spos py : Pos} {wi : TI} {g : TG} {tt : TT} {te : TE} (hN : X.N.Nodup) (hi' : X.N[i]? = some y) (hy : X.env.scope.names.lookup y = some .local)
    (hc : X.calm = true) (S : BScope X.N X.env N' ix sc) (hi : PI X tg iter wi)
    (hg : ∀ s H C fp, PG (bCx X N' sc s H C fp) tg g) (ht : ∀ s H C fp, PIf (bCx X N' sc s H C fp) ifs tt) (he : ∀ s H C fp, PE (bCx X N' sc s H C fp) elt te)
    (hsw : swapsWith (.ListComp elt [⟨tg, iter, ifs, 0⟩] sc pos) (some (.Name y py)) spos.line X.env = pure true := by rfl)
    (hs : ∀ x, foldedSetIterable iter X.env x = pure x := by intro _; rfl) : PS X (.Assign [.Name y py] (.ListComp elt [⟨tg, iter, ifs, 0⟩] sc pos) spos) (tAsg (tComp wi ix g tt te) (gName i)) := by
  intro pins s σ H D I h
  rw [exec_Assign_Name_used _ _ _ _ hsw]
  refine wpAny_bind (wpAny_standAt (wpAny_bind ?_))
  show wpAny _ X.A (do let _ ← comprehension (.ListComp elt [⟨tg, iter, ifs, 0⟩] sc pos) sc X.env _ (newList []) false (eval iter X.env) (some (assign (.Name y py) X.env))) _ _ s
  refine wpAny_bind (wpAny_mono (wpAny_comprehension_free (use := some (assign (.Name y py) X.env)) (Q := fun _ s' => SP X pins D .next s') rfl hs (S.clos I) S.kind S.names
    (thn (hi pins s σ H _ I h) fun v s1 h1 => thn h1 fun itv s2 ⟨it, fp, tn, J, H2, e, I2, T, st2, f2, hw⟩ => ?_)) (fun _ s' hq => wpAny_pure (wpAny_pure hq)) fun _ _ e => e)
  subst e
  refine comp_run (RR := fun acc C => compPost (model X.prog X.w) X.A X.xe (some (assign (.Name y py) X.env)) (fun _ s' => SP X pins D .next s') acc C) hc S hg ht he I2 T st2 f2 hw fun s' H' ys m hn hD hC q I' => ?_
  have nn : (upd H' s2.heap.objs.size (.lst ys)) (s2.heap.objs.size + 1) = none := by
    rw [upd_ne (Nat.ne_of_gt (Nat.lt_succ_self _))]; exact hC
  obtain ⟨f0, f1, f2, f3, f4, f5⟩ := I2.fpOk (H' := upd H' s2.heap.objs.size (.lst ys)) (b := s2.heap.objs.size + 1) (Nat.le_succ _) nn
  show wpAny _ X.A (assign (.Name y py) X.env (.ref s2.heap.objs.size)) _ _ _
  refine wpAny_assign_Name (store_ok2 (v := .ref s2.heap.objs.size) I' hN hi' (.inl hy) rfl (fun s'' I'' ⟨a, hsb, ha⟩ => ?_) (.inr hy))
  have ne : s2.heap.objs.size + 1 ≠ a := by
    rcases ha with rfl | ha
    · exact f1
    · exact fun z => f4 y a ha z.symm
  refine ⟨m, hn.sameBut hsb ne, fun h' hs' => ?_⟩
  exact ⟨_, _, I''.turned (t' := s''.toks) (it := s2.heap.objs.size + 1) (fun b o hb e => hs'.extBut b o hb e) f0 f1 f3 f4 f5, q _ hD⟩
end
end L2
set_option Elab.async false
set_option linter.all false
set_option maxRecDepth 100000
set_option maxHeartbeats 4000000
/-! ==, !=, in, not in of deep data; all, any of bools; isinstance; () + t: in the hand layer -/
namespace L2
open PySem PySem.Spec PyProof.Rows
mutual
/-- the value bears that datum in the abstract heap -/
inductive DV (K : PySem.W.Frag) (H : Hp) : V → PyData → Prop
  | non : DV K H .non .none
  | bl (b : Bool) : DV K H (.bl b) (.bool b)
  | int (i : Int) : DV K H (.int i) (.int i)
  | str (x : Str) : DV K H (.str x) (.str x)
  | lst {a : Addr} {xs : List V} {ds : List PyData} : SqL K H a xs → DVs K H xs ds → DV K H (.ref a) (.list ds)
  | tup {a : Addr} {xs : List V} {ds : List PyData} : SqT K H a xs → DVs K H xs ds → DV K H (.ref a) (.tuple ds)
inductive DVs (K : PySem.W.Frag) (H : Hp) : List V → List PyData → Prop
  | nil : DVs K H [] []
  | cons {x : V} {xs : List V} {d : PyData} {ds : List PyData} : DV K H x d → DVs K H xs ds → DVs K H (x :: xs) (d :: ds)
end
section
variable {X : Cx} {pins : List (Addr × Obj)} {σ : St} {H : Hp} {s : Shared}
mutual
theorem DV.reads (I : Inv X pins σ H s) : ∀ {x : V} {d : PyData} {u : Value}, DV X.K H x d → RelV x u → ∃ as, Reads s.heap u d as
  | _, _, _, .non, r => by cases (show _ = Value.none from r); exact ⟨_, .none⟩
  | _, _, _, .bl b, r => by cases (show _ = Value.bool b from r); exact ⟨_, .bool b⟩
  | _, _, _, .int i, r => by obtain ⟨t, rfl⟩ := r; exact ⟨_, .int i t⟩
  | _, _, _, .str x, r => by obtain ⟨t, rfl⟩ := r; exact ⟨_, .str x t⟩
  | _, _, _, @DV.lst _ _ a xs ds h q, r => by
    cases (show _ = Value.ref a from r)
    obtain ⟨its, rv, ⟨o, n, e, c, _, hd⟩, _⟩ := I.list h
    obtain ⟨as, ra⟩ := DVs.reads I q rv
    exact ⟨_, .list e c hd (by simpa using ra)⟩
  | _, _, _, @DV.tup _ _ a xs ds h q, r => by
    cases (show _ = Value.ref a from r)
    obtain ⟨its, rv, ⟨o, e, c, n, hd⟩, _⟩ := I.tuple h
    obtain ⟨as, ra⟩ := DVs.reads I q rv
    exact ⟨_, .tuple e c hd (by simpa using ra)⟩
theorem DVs.reads (I : Inv X pins σ H s) : ∀ {xs : List V} {ds : List PyData} {us : List Value}, DVs X.K H xs ds → Vals xs us → ∃ as, ReadsAll s.heap us ds as
  | _, _, _, .nil, .nil => ⟨_, .nil⟩
  | _, _, _, .cons h q, .cons r t => by
    obtain ⟨as, ra⟩ := DV.reads I h r
    obtain ⟨bs, rb⟩ := DVs.reads I q t
    exact ⟨_, .cons ra rb⟩
end
/-- what may be compared: texts as Python has them, at most 64 deep -/
abbrev shp (d : PyData) : Prop := SeqAt.shaped d = true
def rEqD (K : PySem.W.Frag) : R2 := fun x y H Q => ∃ d e, DV K H x d ∧ DV K H y e ∧ shp d ∧ shp e ∧ Q (.bl (PyData.eqv d e)) H
def rNeD (K : PySem.W.Frag) : R2 := fun x y H Q => ∃ d e, DV K H x d ∧ DV K H y e ∧ shp d ∧ shp e ∧ Q (.bl (!PyData.eqv d e)) H
theorem op_eqD (hu : X.A.units + 64 < cLine) : OpR X (compareOp .Eq) (rEqD X.K) := by
  intro pins s σ H x y v u Q I r1 r2 h
  obtain ⟨d, e, h1, h2, s1, s2, q⟩ := h
  obtain ⟨as, ra⟩ := h1.reads I r1
  obtain ⟨bs, rb⟩ := h2.reads I r2
  exact eq_dataH ra rb s1 s2 hu ⟨.bl _, H, I, rfl, q⟩
theorem op_neD (hu : X.A.units + 64 < cLine) : OpR X (compareOp .NotEq) (rNeD X.K) := by
  intro pins s σ H x y v u Q I r1 r2 h
  obtain ⟨d, e, h1, h2, s1, s2, q⟩ := h
  obtain ⟨as, ra⟩ := h1.reads I r1
  obtain ⟨bs, rb⟩ := h2.reads I r2
  exact ne_dataH ra rb s1 s2 hu ⟨.bl _, H, I, rfl, q⟩
/-- x in xs, x not in xs: xs a list of deep data -/
def rInD (K : PySem.W.Frag) : R2 := fun x y H Q => ∃ d ds, DV K H x d ∧ DV K H y (.list ds) ∧ shp d ∧ shp (.list ds) ∧ Q (.bl (ds.any fun e => PyData.eqv e d)) H
def rNotInD (K : PySem.W.Frag) : R2 := fun x y H Q => ∃ d ds, DV K H x d ∧ DV K H y (.list ds) ∧ shp d ∧ shp (.list ds) ∧ Q (.bl (!ds.any fun e => PyData.eqv e d)) H
theorem shp_list {ds : List PyData} (h : shp (.list ds)) : PyData.canLayAll0 ds = true ∧ PyData.depthAll ds ≤ 63 := by
  have a := SeqAt.canLay_of_shaped h
  have b := SeqAt.depth_of_shaped h
  simp only [PyData.depth] at b
  exact ⟨a, by omega⟩
theorem op_inD (hu : X.A.units + 80 < cLine) : OpR X (compareOp .In) (rInD X.K) := by
  intro pins s σ H x y v u Q I r1 r2 h
  obtain ⟨d, ds, h1, h2, s1, s2, q⟩ := h
  obtain ⟨as, ra⟩ := h1.reads I r1
  obtain ⟨bs, rb⟩ := h2.reads I r2
  obtain ⟨l1, l2⟩ := shp_list s2
  have := Nat.min_le_left (PyData.depthAll ds) d.depth
  exact SeqAt.in_list_reads rb ra l1 (SeqAt.canLay_of_shaped s1) (by omega) ⟨.bl _, H, I, rfl, q⟩
theorem op_notInD (hu : X.A.units + 80 < cLine) : OpR X (compareOp .NotIn) (rNotInD X.K) := by
  intro pins s σ H x y v u Q I r1 r2 h
  obtain ⟨d, ds, h1, h2, s1, s2, q⟩ := h
  obtain ⟨as, ra⟩ := h1.reads I r1
  obtain ⟨bs, rb⟩ := h2.reads I r2
  obtain ⟨l1, l2⟩ := shp_list s2
  have := Nat.min_le_left (PyData.depthAll ds) d.depth
  exact SeqAt.notIn_list_reads rb ra l1 (SeqAt.canLay_of_shaped s1) (by omega) ⟨.bl _, H, I, rfl, q⟩

/-! ### all, any of a list of bools -/
theorem bools_are : ∀ {bs : List Bool} {us : List Value}, Vals (bs.map V.bl) us → LSm.BoolsAre us bs
  | [], _, .nil => .nil
  | b :: bs, _, .cons r t => by
    cases (show _ = Value.bool b from r)
    exact .cons b (bools_are t)
theorem call_all (hc : X.calm = true) : CallR X (.builtin "all") (fun xs H Q => ∃ (a : Addr) (bs : List Bool), xs = [.ref a] ∧ SqL X.K H a (bs.map V.bl) ∧ Q (.bl (bs.all id)) H) := by
  intro pins s σ H xs us Q I r h
  obtain ⟨a, bs, rfl, hs, q⟩ := h
  obtain ⟨u, rfl, ru⟩ := vals1 r
  cases (show u = Value.ref a from ru)
  obtain ⟨its, rv, p, _⟩ := I.list hs
  have hb := bools_are rv
  have hl := p.isList
  have hlt : a < s.heap.objs.size := by obtain ⟨_, e, _⟩ := hl; exact Heap.lt_size e
  refine call_all_walk (wpAny_pyIter_list hl ?_)
  refine ⟨s.heap.objs.size, [s.heap.objs.size, a], [s.heap.objs.size], its.toArray.size, _, _, fun i => (bs[i]?).getD true, rfl, Walks.list (A := X.A.in1) (I.ok.hd hc) _ a (Nat.ne_of_lt hlt) its.toArray,
    ⟨⟨_, Heap.get?_push_size _ rfl, rfl, rfl⟩, hl.push _⟩, fun i v s' Q' E' hP hQ => ?_, fun h' tk hk => ?_⟩
  · obtain ⟨b, e, rfl⟩ := hb.get i v (by simpa using hP)
    simp only [e, Option.getD_some] at hQ
    exact wpAny_truthy_bool hQ
  · have e : ((List.range its.toArray.size).all fun i => (bs[i]?).getD true) = bs.all id := by
      rw [List.size_toArray, hb.length]
      exact LSm.range_all bs
    rw [e]
    exact ⟨.bl _, H, I.kept (LSm.kept_iter hk), rfl, q⟩
theorem call_any (hc : X.calm = true) : CallR X (.builtin "any") (fun xs H Q => ∃ (a : Addr) (bs : List Bool), xs = [.ref a] ∧ SqL X.K H a (bs.map V.bl) ∧ Q (.bl (bs.any id)) H) := by
  intro pins s σ H xs us Q I r h
  obtain ⟨a, bs, rfl, hs, q⟩ := h
  obtain ⟨u, rfl, ru⟩ := vals1 r
  cases (show u = Value.ref a from ru)
  obtain ⟨its, rv, p, _⟩ := I.list hs
  have hb := bools_are rv
  have hl := p.isList
  have hlt : a < s.heap.objs.size := by obtain ⟨_, e, _⟩ := hl; exact Heap.lt_size e
  refine call_any_walk (wpAny_pyIter_list hl ?_)
  refine ⟨s.heap.objs.size, [s.heap.objs.size, a], [s.heap.objs.size], its.toArray.size, _, _, fun i => (bs[i]?).getD false, rfl, Walks.list (A := X.A.in1) (I.ok.hd hc) _ a (Nat.ne_of_lt hlt) its.toArray,
    ⟨⟨_, Heap.get?_push_size _ rfl, rfl, rfl⟩, hl.push _⟩, fun i v s' Q' E' hP hQ => ?_, fun h' tk hk => ?_⟩
  · obtain ⟨b, e, rfl⟩ := hb.get i v (by simpa using hP)
    simp only [e, Option.getD_some] at hQ
    exact wpAny_truthy_bool hQ
  · have e : ((List.range its.toArray.size).any fun i => (bs[i]?).getD false) = bs.any id := by
      rw [List.size_toArray, hb.length]
      exact LSm.range_any bs
    rw [e]
    exact ⟨.bl _, H, I.kept (LSm.kept_iter hk), rfl, q⟩

/-! ### isinstance(x, C), C a built-in class or one of the text -/
theorem call_isT : CallR X (.builtin "isinstance") (fun xs H Q => ∃ (x : V) (t : Value) (n : String) (b : Bool), xs = [x, .ty n] ∧ TyOf X.K H x t ∧ PySem.W.kitOne X.K t (.type n) = some b ∧ Q (.bl b) H) := by
  intro pins s σ H xs us Q I r h
  obtain ⟨x, t, n, b, rfl, ty, e, q⟩ := h
  obtain ⟨u, w', rfl, ru, rw'⟩ := vals2 r
  cases (show w' = Value.type n from rw')
  exact isinst_ok I ru ty e fun tk => ⟨.bl b, H, I.tok tk, rfl, q⟩
theorem call_isC : CallR X (.builtin "isinstance") (fun xs H Q => ∃ (x : V) (t : Value) (C : Addr) (b : Bool), xs = [x, .ref C] ∧ TyOf X.K H x t ∧ PySem.W.kitOne X.K t (.ref C) = some b ∧ Q (.bl b) H) := by
  intro pins s σ H xs us Q I r h
  obtain ⟨x, t, C, b, rfl, ty, e, q⟩ := h
  obtain ⟨u, w', rfl, ru, rw'⟩ := vals2 r
  cases (show w' = Value.ref C from rw')
  exact isinst_ok I ru ty e fun tk => ⟨.bl b, H, I.tok tk, rfl, q⟩

/-! ### t + u, whatever is empty -/
def rCatA (K : PySem.W.Frag) : R2 := fun x y H Q => ∃ a b xs ys, x = .ref a ∧ y = .ref b ∧ SqT K H a xs ∧ SqT K H b ys ∧ xs.length + ys.length ≤ sizeLine ∧
  (xs = [] → Q (.ref b) H) ∧ (xs ≠ [] → ys = [] → Q (.ref a) H) ∧ (xs ≠ [] → ys ≠ [] → ∀ p, H p = none → Q (.ref p) (upd H p (.tup (xs ++ ys))))
theorem op_catA : OpR X (binaryOp .Add) (rCatA X.K) := by
  intro pins s σ H x y v u Q I r1 r2 h
  obtain ⟨a, b, xs, ys, rfl, rfl, ha, hb, hz, q0, q1, q2⟩ := h
  by_cases hx : xs = []
  · subst hx
    cases (show v = Value.ref a from r1)
    cases (show u = Value.ref b from r2)
    obtain ⟨its, v1, p1, _⟩ := I.tuple ha
    obtain ⟨its2, v2, p2, _⟩ := I.tuple hb
    cases v1
    obtain ⟨⟨cls, dd, data, sl⟩, ho, hc, n, hd⟩ := id p1
    obtain ⟨⟨cls2, dd2, data2, sl2⟩, ho2, hc2, n2, hd2⟩ := id p2
    simp only at hc hd hc2 hd2
    subst hc hd hc2 hd2
    exact concat_meets ⟨_, ho, rfl⟩ ⟨_, ho2, rfl⟩ noFill_tuple_add seq_tuple_add PySem.F.slot_tuple_add PySem.F.entry_tuple_add (PySem.F.args_tuple_add_2 _ _)
      (tuple_addW0 a b #[] its2.toArray n n2 dd dd2 sl sl2 rfl) ⟨ho, ho2, .ref b, H, I, rfl, q0 rfl⟩
  · exact op_catT pins s σ H _ _ v u Q I r1 r2 ⟨a, b, xs, ys, rfl, rfl, ha, hb, hx, hz, q1 hx, q2 hx⟩
end
end L2
set_option Elab.async false
set_option linter.all false
set_option maxRecDepth 100000
set_option maxHeartbeats 4000000
/-! enumerate(xs), zip(xs, ys) of lists and tuples, with a target of two names: in the hand layer -/
namespace L2
open PySem PySem.Spec PyProof.Rows

/-! ### a list (false) or a tuple (true), its iterator -/
def SeqOf : Bool → Heap → Addr → Array Value → Prop
  | false, h, a, xs => h.IsList a xs
  | true, h, a, xs => h.IsTuple a xs
def SeqIt : Bool → Heap → Addr → Addr → Nat → Prop
  | false, h, it, a, i => h.IsListIter it a i
  | true, h, it, a, i => h.IsTupleIter it a i
theorem SeqOf.at {b : Bool} {h h' : Heap} {a : Addr} {xs : Array Value} (p : SeqOf b h a xs) (k : ∀ o, h.get? a = some o → h'.get? a = some o) : SeqOf b h' a xs := by
  cases b with
  | false => obtain ⟨o, e, r⟩ := p; exact ⟨o, k o e, r⟩
  | true => obtain ⟨o, e, r⟩ := p; exact ⟨o, k o e, r⟩
theorem SeqIt.at {b : Bool} {h h' : Heap} {it a : Addr} {i : Nat} (p : SeqIt b h it a i) (k : ∀ o, h.get? it = some o → h'.get? it = some o) : SeqIt b h' it a i := by
  cases b with
  | false => obtain ⟨o, e, r⟩ := p; exact ⟨o, k o e, r⟩
  | true => obtain ⟨o, e, r⟩ := p; exact ⟨o, k o e, r⟩
/-- what the object of a sequence, of its iterator looks like -/
theorem SeqOf.obj {b : Bool} {h : Heap} {a : Addr} {xs : Array Value} (p : SeqOf b h a xs) : ∃ o n, h.get? a = some o ∧ o.data = .seq xs n := by
  cases b with
  | false => obtain ⟨o, e, _, n, d⟩ := p; exact ⟨o, n, e, d⟩
  | true => obtain ⟨o, e, _, n, d⟩ := p; exact ⟨o, n, e, d⟩
theorem SeqIt.obj {b : Bool} {h : Heap} {it a : Addr} {i : Nat} (p : SeqIt b h it a i) : ∃ o, h.get? it = some o ∧ o.data = .fields #[.ref a, .int i 0] := by
  cases b with
  | false => obtain ⟨o, e, _, d⟩ := p; exact ⟨o, e, d⟩
  | true => obtain ⟨o, e, _, d⟩ := p; exact ⟨o, e, d⟩
section
variable {prog : Program} {w : World} {A : Around} {E : Value → Shared → Prop} {s : Shared}
theorem next_tup {it t : Addr} {i : Nat} {items : Array Value} {x : Value} {Q : Value → Shared → Prop} (hit : s.heap.IsTupleIter it t i) (ht : s.heap.IsTuple t items) (hx : items[i]? = some x)
    (hQ : ∀ h', h'.IsTupleIter it t (i + 1) → Heap.SameBut it s.heap h' → Q x { s with heap := h' }) : wpAny (model prog w) A (Builtin.SmallTypes.nextOf (.ref it)) Q E s := by
  obtain ⟨o, ho, hc, hd⟩ := id hit
  obtain ⟨ol, hol, _, nl, hdl⟩ := ht
  unfold Builtin.SmallTypes.nextOf
  refine wpAny_bind (wpAny_callSpecial?_slot (name := Str.ofString "__next__") hit.typeIs F.slot_tuple_iterator_next (wpAny_call_entry F.slot_tuple_iterator_next hit.typeIs F.entry_tuple_iterator_next ?_ (F.args_tuple_iterator_next_1 _)))
  show wpAny _ _ (field (.ref it) 0 >>= _) _ _ s
  refine wpAny_bind (wpAny_field ho hd (x := .ref t) rfl ?_)
  show wpAny _ _ (if (Value.ref t == Value.none) = true then _ else _) _ _ s
  rw [if_neg (show ¬ ((Value.ref t == Value.none) = true) from Bool.false_ne_true)]
  show wpAny _ _ (field (.ref it) 1 >>= _) _ _ s
  refine wpAny_bind (wpAny_field ho hd (x := .int i 0) rfl ?_)
  show wpAny _ _ (seqItems? (.ref t) >>= _) _ _ s
  refine wpAny_bind (wpAny_seqItems hol hdl ?_)
  simp only [Int.toNat_natCast, hx]
  refine wpAny_bind (wpAny_setField ho hd (by simp) (wpAny_pure ⟨x, rfl, wpAny_pure (hQ _ ?_ (Heap.SameBut.update ..))⟩))
  refine ⟨_, Heap.get?_update_self _ ho (Obj.isFreed_of_fields (Obj.data_mapFields hd _)), (Obj.cls_mapFields ..).trans hc, ?_⟩
  rw [Obj.data_mapFields hd]
  simp [rawInt]
theorem next_tupEnd {it t : Addr} {i : Nat} {items : Array Value} {Q : Value → Shared → Prop} (hh : A.handled = none) (hit : s.heap.IsTupleIter it t i) (ht : s.heap.IsTuple t items) (hx : items[i]? = none)
    (hE : ∀ h' e, Heap.ExtBut it s.heap h' → (∃ o, h'.get? e = some o ∧ o.cls = .type "StopIteration") → E (.ref e) { s with heap := h' }) : wpAny (model prog w) A (Builtin.SmallTypes.nextOf (.ref it)) Q E s := by
  obtain ⟨o, ho, hc, hd⟩ := id hit
  obtain ⟨ol, hol, _, nl, hdl⟩ := ht
  unfold Builtin.SmallTypes.nextOf
  refine wpAny_bind (wpAny_callSpecial?_slot (name := Str.ofString "__next__") hit.typeIs F.slot_tuple_iterator_next (wpAny_call_entry F.slot_tuple_iterator_next hit.typeIs F.entry_tuple_iterator_next ?_ (F.args_tuple_iterator_next_1 _)))
  show wpAny _ _ (field (.ref it) 0 >>= _) _ _ s
  refine wpAny_bind (wpAny_field ho hd (x := .ref t) rfl ?_)
  show wpAny _ _ (if (Value.ref t == Value.none) = true then _ else _) _ _ s
  rw [if_neg (show ¬ ((Value.ref t == Value.none) = true) from Bool.false_ne_true)]
  show wpAny _ _ (field (.ref it) 1 >>= _) _ _ s
  refine wpAny_bind (wpAny_field ho hd (x := .int i 0) rfl ?_)
  show wpAny _ _ (seqItems? (.ref t) >>= _) _ _ s
  refine wpAny_bind (wpAny_seqItems hol hdl ?_)
  simp only [Int.toNat_natCast, hx]
  refine wpAny_bind (wpAny_rule (wpAny_bind (wpAny_setField ho hd (by simp) ?_)))
  show wpAny _ _ (newExc (.type "StopIteration") [] >>= _) _ _ _
  refine wpAny_bind ?_
  simp only [newExc, newTuple]
  refine wpAny_bind (wpAny_newObj_type ?_ (by size_fits))
  refine wpAny_bind (m := firstArgMember _ _) (wpAny_of_eq (a := Value.none) (by first | rfl | (simp only [firstArgMember]; rfl)) ?_)
  refine wpAny_newObj_type ?_ (by size_fits)
  simp only [raiseNew]
  refine wpAny_bind (wpAny_handled ?_)
  first | rw [show A.in1.handled = none from hh] | rw [hh]
  exact wpAny_bind (wpAny_pure (wpAny_throw (hE _ _ (((Heap.SameBut.update ..).extBut.push _).push _) ⟨_, Heap.get?_push_size _ rfl, rfl⟩)))
theorem next_seq {b : Bool} {it a : Addr} {i : Nat} {items : Array Value} {x : Value} {Q : Value → Shared → Prop} (hit : SeqIt b s.heap it a i) (ha : SeqOf b s.heap a items) (hx : items[i]? = some x)
    (hQ : ∀ h', SeqIt b h' it a (i + 1) → Heap.SameBut it s.heap h' → Q x { s with heap := h' }) : wpAny (model prog w) A (Builtin.SmallTypes.nextOf (.ref it)) Q E s := by
  cases b with
  | false => exact wpAny_nextOf_list_item hit ha hx hQ
  | true => exact next_tup hit ha hx hQ
theorem next_seqEnd {b : Bool} {it a : Addr} {i : Nat} {items : Array Value} {Q : Value → Shared → Prop} (hh : A.handled = none) (hit : SeqIt b s.heap it a i) (ha : SeqOf b s.heap a items) (hx : items[i]? = none)
    (hE : ∀ h' e, Heap.ExtBut it s.heap h' → (∃ o, h'.get? e = some o ∧ o.cls = .type "StopIteration") → E (.ref e) { s with heap := h' }) : wpAny (model prog w) A (Builtin.SmallTypes.nextOf (.ref it)) Q E s := by
  cases b with
  | false => exact wpAny_nextOf_list_end hh hit ha hx hE
  | true => exact next_tupEnd hh hit ha hx hE
theorem iter_seq {b : Bool} {a : Addr} {items : Array Value} {Q : Value → Shared → Prop} (ha : SeqOf b s.heap a items)
    (hQ : ∀ h', SeqIt b h' s.heap.objs.size a 0 → h'.objs.size = s.heap.objs.size + 1 → (∀ c o, s.heap.get? c = some o → h'.get? c = some o) → Q (.ref s.heap.objs.size) { s with heap := h' }) : wpAny (model prog w) A (pyIter (.ref a)) Q E s := by
  cases b with
  | false => exact wpAny_pyIter_list ha (hQ _ ⟨_, Heap.get?_push_size _ rfl, rfl, rfl⟩ (Heap.size_push ..) fun c o e => Heap.get?_push_of_some _ e)
  | true => exact wpAny_pyIter_tuple ha (hQ _ ⟨_, Heap.get?_push_size _ rfl, rfl, rfl⟩ (Heap.size_push ..) fun c o e => Heap.get?_push_of_some _ e)
end
theorem draws_seq {prog : Program} {w : World} {A : Around} (b : Bool) (hh : A.handled = none) (it a : Addr) (hne : a ≠ it) (items : Array Value) :
    Draws prog w A it [it, a] items.size (fun i v => items[i]? = some v) (fun i h => SeqIt b h it a i ∧ SeqOf b h a items) where
  live := fun _ _ st => by obtain ⟨o, e, _⟩ := st.1.obj; exact ⟨o, e⟩
  frame := fun _ _ _ st hk => ⟨st.1.at fun o e => hk it (by simp) o e, st.2.at fun o e => hk a (by simp) o e⟩
  item := fun i s Q E hi st hQ => next_seq st.1 st.2 (x := items[i]) (by simp [hi]) fun h' st' sb => hQ _ h' s.toks (by simp [hi]) ⟨st', st.2.at fun o e => sb.extBut a o hne e⟩ sb
  done := fun s Q E st hE => next_seqEnd hh st.1 st.2 (by simp) hE

/-- a list or a tuple that is read -/
def SqB (K : PySem.W.Frag) (H : Hp) : Bool → Addr → List V → Prop
  | false, a, xs => SqL K H a xs
  | true, a, xs => SqT K H a xs
section
variable {X : Cx} {pins : List (Addr × Obj)} {σ : St} {H : Hp} {s : Shared}
theorem Inv.seq (I : Inv X pins σ H s) {b : Bool} {a : Addr} {xs : List V} (h : SqB X.K H b a xs) : ∃ its : List Value, Vals xs its ∧ SeqOf b s.heap a its.toArray := by
  cases b with
  | false => obtain ⟨its, r, p, _⟩ := I.list h; exact ⟨its, r, p.isList⟩
  | true => obtain ⟨its, r, p, _⟩ := I.tuple h; exact ⟨its, r, p⟩
theorem Inv.seq_inj (I : Inv X pins σ H s) {b : Bool} {a : Addr} {xs ys : List V} (h : SqB X.K H b a xs) (h' : SqB X.K H b a ys) : xs = ys := by
  cases b with
  | false => exact I.list_inj h h'
  | true => exact I.tuple_inj h h'
/-- records of ours have turned -/
theorem Inv.turnedN {fp : List Addr} {h' : Heap} {t' : Nat} (I : Inv X pins σ H s) (hf : ∀ b ∈ fp, FpOk X pins H b) (k : ∀ b o, b ∉ fp → s.heap.get? b = some o → h'.get? b = some o) : Inv X pins σ H { s with heap := h', toks := t' } := by
  have nfp : ∀ b u, H b = some u → b ∉ fp := fun b u e z => by rw [(hf b z).1] at e; cases e
  refine I.step (g' := s.gens) (d' := s.drawn) (ch := fp) (fun b hb => ?_) (fun b o _ _ hc e _ => k b o hc e) (fun b o _ _ hc e _ => ⟨o.slots, k b o hc e⟩) (fun _ _ _ _ n => n) (fun b o hc e => ⟨o, k b o hc e⟩) (fun _ _ e => e) (fun _ _ _ e => e)
    (fun b ps e => ⟨#[], by rw [e]; simp⟩) (fun m hm => ?_) (fun b u e => ?_) I.bare
  · obtain ⟨f0, f1, f2, f3, f4, f5⟩ := hf b hb
    exact ⟨f3, f1, f4, f5⟩
  · obtain ⟨o, es, ep, ho, r⟩ := hm
    exact ⟨o, es, ep, k _ o (fun z => (hf _ z).2.1 rfl) ho, r⟩
  · refine (I.hok b u e).stay (fun c v hc q => k c v ?_ q) (fun _ q => q) fun _ _ q => q
    rcases hc with z | z
    · rw [z]; exact nfp b u e
    · exact nfp c _ z
/-- an object of ours is tracked from here on -/
theorem Inv.track {T : Addr} {o : HO} (I : Inv X pins σ H s) (hf : FpOk X pins H T) (new : ObjOk X.prog X.w (upd H T o) s.heap T o) : Inv X pins σ (upd H T o) s := by
  obtain ⟨f0, f1, f2, f3, f4, f5⟩ := hf
  have nT : ∀ b u, H b = some u → b ≠ T := fun b u e z => by rw [z, f0] at e; cases e
  have q := I.step (h' := s.heap) (H' := upd H T o) (g' := s.gens) (d' := s.drawn) (t' := s.toks) (ch := [T]) (fun b hb => by
      have e : b = T := by simpa using hb
      rw [e]; exact ⟨f3, f1, f4, f5⟩) (fun b o _ _ _ e _ => e) (fun b o _ _ _ e _ => ⟨o.slots, e⟩) (fun b o' hc _ n => by rw [upd_ne (fun z => hc (by simp [z]))]; exact n) (fun b o' _ e => ⟨o', e⟩)
    (fun b xs e => by rw [upd_ne (nT b _ e)]; exact e) (fun b o' u e => by rw [upd_ne (nT b _ e)]; exact e) (fun b ps e => ⟨#[], by rw [upd_ne (nT b _ e), e]; simp⟩) (fun m hm => hm) (fun b u e => ?_) I.bare
  · exact q
  · by_cases hb : b = T
    · subst hb; rw [upd_same] at e; cases e; exact new
    · rw [upd_ne hb] at e
      exact (I.hok b u e).stay (fun _ _ _ q => q) (fun c q => by rw [upd_ne (nT c _ q)]; exact q) fun c xs q => by rw [upd_ne (nT c _ q)]; exact q
end
/-- enumerate: at turn i a new pair (i, item i) -/
def Ite (K : PySem.W.Frag) (b : Bool) (a : Addr) : It :=
  ⟨fun i H => ∃ xs x, SqB K H b a xs ∧ xs[i]? = some x, fun i H v H' => ∃ p x, v = .ref p ∧ H p = none ∧ H' = upd H p (.tup [.int i, x]) ∧ ∀ xs, SqB K H b a xs → xs[i]? = some x, fun i H => ∃ xs, SqB K H b a xs ∧ xs.length = i⟩
theorem turn_enum {P : Program} {w : World} {K : PySem.W.Frag} {es : List Expr} {kk : Nat} {pos : Pos} (b : Bool) (a it e : Addr) (hei : e ≠ it) :
    Turn P w K (.Tuple es kk pos) (Ite K b a) [e, it] e (fun i h => (∃ old, IsEnum h e it i old) ∧ SeqIt b h it a i) where
  mem := by simp
  obj := fun i h st c hc => by
    obtain ⟨⟨old, he⟩, st⟩ := st
    rcases List.mem_cons.mp hc with rfl | hc
    · exact ⟨_, he, fun v z => by
        have z' : Data.fields _ = Data.cell v := z
        cases z'⟩
    · have e' : c = it := by simpa using hc
      subst e'
      obtain ⟨o, ho, hd⟩ := st.obj
      exact ⟨o, ho, fun v z => by rw [hd] at z; cases z⟩
  keep := fun i h h' st k => by
    obtain ⟨⟨old, he⟩, st⟩ := st
    exact ⟨⟨old, k e (by simp) _ he⟩, st.at fun o q => k it (by simp) o q⟩
  item := by
    intro X hP hw hK hc i pins s σ H E I hf st hg
    subst hP hw hK
    obtain ⟨xs, x, hq, hx⟩ := hg
    obtain ⟨⟨old, he⟩, st⟩ := st
    obtain ⟨its, rv, ha⟩ := I.seq hq
    obtain ⟨u, hu, ru⟩ := rv.get hx
    obtain ⟨oa, na, ea, da⟩ := ha.obj
    obtain ⟨oi, ei, di⟩ := st.obj
    have hai : a ≠ it := fun z => by rw [z, ei] at ea; cases ea; rw [di] at da; cases da
    have hea : e ≠ a := fun z => by rw [← z, he] at ea; cases ea; cases da
    have hlt : i < its.toArray.size := by
      have := (List.getElem?_eq_some_iff.mp hu).1
      simpa using this
    refine wpAny_pyNext_enum_itemD (draws_seq (A := X.A.in1) b (I.ok.hd hc) it a hai its.toArray) he ⟨st, ha⟩ hlt hei (by simp [hei, hea]) fun y h1 tk hy hout st1 hT hz hk => ?_
    have ey : y = u := by
      have : its[i]? = some y := by simpa using hy
      rw [hu] at this
      exact (Option.some.inj this).symm
    subst ey
    refine ⟨_, rfl, wpAny_letOwnedTupleGo_enum hout fun h2 he2 hs2 => ?_⟩
    have elt : e < s.heap.objs.size := Heap.lt_size he
    have ilt : it < s.heap.objs.size := Heap.lt_size ei
    have I2 : Inv X pins σ H { s with heap := h2, toks := tk + 1 } := I.turnedN hf fun c o hc q => hs2.extBut c o (fun z => hc (by simp [z])) (hk c o (fun z => hc (by simp [z])) (fun z => hc (by simp [z])) q)
    have g2 : h2.get? s.heap.objs.size = some { cls := .type "tuple", data := .seq #[.int i tk, y] } := hs2.extBut _ _ (Nat.ne_of_gt elt) hT
    have hn : H s.heap.objs.size = none := I.hok.fresh (Nat.le_refl _)
    refine ⟨.ref s.heap.objs.size, upd H s.heap.objs.size (.tup [.int i, x]), I2.track (T := s.heap.objs.size) (o := .tup [.int i, x]) (I.fpOk (Nat.le_refl _) hn) ?_, rfl, ?_, ⟨⟨y, he2⟩, ?_⟩, fun c hc => ?_⟩
    · exact ⟨by show 2 ≤ sizeLine; decide, [.int i tk, y], .cons ⟨tk, rfl⟩ (.cons ru .nil), _, g2, rfl, _, rfl⟩
    · exact ⟨_, x, rfl, hn, rfl, fun ys hy => by rw [I.seq_inj hy hq]; exact hx⟩
    · exact st1.1.at fun o q => hs2.extBut it o (Ne.symm hei) q
    · have : c < s.heap.objs.size := by
        rcases List.mem_cons.mp hc with rfl | hc
        · exact elt
        · have e' : c = it := by simpa using hc
          rw [e']; exact ilt
      rw [upd_ne (Nat.ne_of_lt this)]
      exact (hf c hc).1
  done := by
    intro X hP hw hK hc i pins s σ H E I hf st hg
    subst hP hw hK
    obtain ⟨xs, hq, hx⟩ := hg
    obtain ⟨⟨old, he⟩, st⟩ := st
    obtain ⟨its, rv, ha⟩ := I.seq hq
    obtain ⟨oa, na, ea, da⟩ := ha.obj
    obtain ⟨oi, ei, di⟩ := st.obj
    have hai : a ≠ it := fun z => by rw [z, ei] at ea; cases ea; rw [di] at da; cases da
    have hl := rv.length
    have ez : its.toArray.size = i := by simp; omega
    refine wpAny_pyNext_enum_endD (draws_seq (A := X.A.in1) b (I.ok.hd hc) it a hai its.toArray) he (by rw [ez]; exact ⟨st, ha⟩) fun h' hx' => ⟨rfl, ?_⟩
    exact I.turnedN (t' := s.toks) hf fun c o hc q => hx' c o (fun z => hc (by simp [z])) q
  self := fun A i s Q E st h => by
    obtain ⟨⟨old, he⟩, st⟩ := st
    exact wpAny_pyIter_enum he h
end L2
set_option Elab.async false
set_option linter.all false
set_option maxRecDepth 100000
set_option maxHeartbeats 4000000
namespace L2
open PySem PySem.Spec PyProof.Rows
/-! ### making enumerate(xs), zip(xs, ys) -/
abbrev itObj (b : Bool) (a : Addr) : Obj := { cls := .type (if b then "tuple_iterator" else "list_iterator"), data := .fields #[.ref a, .int 0 0] }
theorem itObj_at {b : Bool} {h : Heap} {it a : Addr} (e : h.get? it = some (itObj b a)) : SeqIt b h it a 0 := by
  cases b with
  | false => exact ⟨_, e, rfl, rfl⟩
  | true => exact ⟨_, e, rfl, rfl⟩
theorem iter_seqE {prog : Program} {w : World} {A : Around} {E : Value → Shared → Prop} {s : Shared} {b : Bool} {a : Addr} {items : Array Value} {Q : Value → Shared → Prop} (ha : SeqOf b s.heap a items)
    (hQ : Q (.ref s.heap.objs.size) { s with heap := s.heap.push (itObj b a) }) : wpAny (model prog w) A (pyIter (.ref a)) Q E s := by
  cases b with
  | false => exact wpAny_pyIter_list ha hQ
  | true => exact wpAny_pyIter_tuple ha hQ
open AutoSeq1 (wpAny_loadPart') in
theorem enum_newT (l : Addr) (items : Array Value) (n : Nat) (dct : Option Addr) (sl : Array (Option Value)) :
    Meets (Builtin.«enumerate.__new__» ⟨[.type "enumerate", .ref l], []⟩) (fun _ R s => s.heap.get? l = some { cls := .type "tuple", dict := dct, data := .seq items n, slots := sl } ∧
      R (.ok (.ret (.ref (s.heap.push (itObj true l)).objs.size))) { s with heap := (s.heap.push (itObj true l)).push { cls := .type "enumerate", data := .fields #[.none, .bool false, .ref s.heap.objs.size, rawInt 0, .none, .none] } }) :=
  .of_wp fun prog w A R s h => by
    obtain ⟨hp, g, d, tk, os⟩ := s
    obtain ⟨hl, h⟩ := h
    have hsub := sub_enumerate
    have hL : SeqOf true (Shared.heap ⟨hp, g, d, tk, os⟩) l items := ⟨_, hl, rfl, n, rfl⟩
    wp_walk using wpAny_loadPart' hl
    refine wpAny_stack_any fun st => wpAny_pure ?_
    split
    · rename_i c _ _ _ _ _
      cases (c == Value.type "enumerate") <;> (wp_walk using wpAny_loadPart' hl, iter_seqE hL) <;> exact ⟨_, rfl, h⟩
    · wp_walk using wpAny_loadPart' hl, iter_seqE hL
      exact ⟨_, rfl, h⟩
section
variable {prog : Program} {w : World} {A : Around} {E : Value → Shared → Prop} {s : Shared}
theorem enum_call {b : Bool} {l : Addr} {items : Array Value} {Q : Value → Shared → Prop} (hL : SeqOf b s.heap l items)
    (h : ∀ h', IsEnum h' (s.heap.objs.size + 1) s.heap.objs.size 0 .none → SeqIt b h' s.heap.objs.size l 0 → h'.objs.size = s.heap.objs.size + 2 → (∀ c o, s.heap.get? c = some o → h'.get? c = some o) → Q (.ref (s.heap.objs.size + 1)) { s with heap := h' }) :
    wpAny (model prog w) A (call (.type "enumerate") [.ref l]) Q E s := by
  cases b with
  | false => exact call_enumerate_list hL h
  | true =>
    obtain ⟨⟨c, dct, dt, sl⟩, hl, hc, n, hd⟩ := hL
    replace hc : c = .type "tuple" := hc
    replace hd : dt = .seq items n := hd
    subst hc hd
    refine callType_new F.called_enumerate (by decide) (F.typeCall_enumerate_1 _) (F.newCall_enumerate_1 _) (fun obj => F.args_object_init_2 obj _) F.entry_enumerate_new (enum_newT l items n dct sl) ⟨hl, ?_⟩
    have hz : (s.heap.push (itObj true l)).objs.size = s.heap.objs.size + 1 := Heap.size_push ..
    show _ ∧ _
    rw [hz]
    have he : IsEnum ((s.heap.push (itObj true l)).push { cls := .type "enumerate", data := .fields #[.none, .bool false, .ref s.heap.objs.size, rawInt 0, .none, .none] }) (s.heap.objs.size + 1) s.heap.objs.size 0 .none := by
      have q := Heap.get?_push_size (s.heap.push (itObj true l)) (o := { cls := .type "enumerate", data := .fields #[.none, .bool false, .ref s.heap.objs.size, rawInt 0, .none, .none] }) rfl
      rw [hz] at q
      exact q
    exact ⟨⟨_, he, rfl⟩, h _ he (itObj_at (Heap.get?_push_of_some _ (Heap.get?_push_size _ rfl))) (by rw [Heap.size_push, hz]) fun c o x => Heap.get?_push_of_some _ (Heap.get?_push_of_some _ x)⟩
end
section
variable {X : Cx}
def iEnum (K : PySem.W.Frag) (b : Bool) (ta : TA) : TI := fun σ H R => ta σ H fun vs H1 => ∃ a xs, vs = [.ref a] ∧ SqB K H1 b a xs ∧ R (Ite K b a) H1
/-- for i, x in enumerate(xs) -/
theorem pi_enum (b : Bool) {es : List Expr} {kk : Nat} {tpos : Pos} {a : Expr} {ta : TA} {p pos : Pos} (hg : Gl X "enumerate") (hm : X.mg "enumerate" = none) (hbt : bootBuiltins "enumerate" = some (.type "enumerate")) (ha : PA X [a] ta) (hs : starEach [a] X.env = [(false, eval a X.env)] := by rfl) :
    PI X (.Tuple es kk tpos) (.Call (.Name "enumerate" p) [a] [] pos) (iEnum X.K b ta) := by
  intro pins s σ H R I h
  refine Call_ (ld_blt I hg hm hbt (PyProof.Rows.callWith_type1 (thn (ha pos pins s σ H _ I h) fun us s1 ⟨vs, H1, I1, r1, q1⟩ => ?_) hs rfl))
  obtain ⟨l, xs, rfl, hq, q⟩ := q1
  obtain ⟨u, rfl, ru⟩ := vals1 r1
  cases (show u = Value.ref l from ru)
  obtain ⟨its, rv, hL⟩ := I1.seq hq
  refine enum_call hL fun h' he hit hz hk => wpAny_pyIter_enum he ?_
  have I2 : Inv X pins σ H1 { s1 with heap := h' } := I1.kept (t' := s1.toks) hk
  refine ⟨s1.heap.objs.size + 1, [s1.heap.objs.size + 1, s1.heap.objs.size], _, _, H1, rfl, I2, turn_enum b l s1.heap.objs.size (s1.heap.objs.size + 1) (Nat.ne_of_gt (Nat.lt_succ_self _)), ⟨⟨_, he⟩, hit⟩, fun c hc => ?_, q⟩
  rcases List.mem_cons.mp hc with rfl | hc
  · exact I1.fpOk (Nat.le_succ _) (I1.hok.fresh (Nat.le_succ _))
  · have e : c = s1.heap.objs.size := by simpa using hc
    rw [e]
    exact I1.fpOk (Nat.le_refl _) (I1.hok.fresh (Nat.le_refl _))
end

/-! ### zip(xs, ys) -/
abbrev zH1 (h : Heap) (b : Bool) (l1 : Addr) : Heap := h.push (itObj b l1)
abbrev zH2 (h : Heap) (b c : Bool) (l1 l2 : Addr) : Heap := (zH1 h b l1).push (itObj c l2)
abbrev zH3 (h : Heap) (b c : Bool) (l1 l2 : Addr) : Heap := (zH2 h b c l1 l2).push { cls := .type "tuple", data := .seq #[.ref h.objs.size, .ref (zH1 h b l1).objs.size] }
abbrev zH4 (h : Heap) (b c : Bool) (l1 l2 : Addr) : Heap := (zH3 h b c l1 l2).push { cls := .type "tuple", data := .seq #[.none, .none] }
abbrev zH5 (h : Heap) (b c : Bool) (l1 l2 : Addr) : Heap := (zH4 h b c l1 l2).push { cls := .type "zip", data := .fields #[.none, .bool false, .bool false, .ref (zH2 h b c l1 l2).objs.size, .ref (zH3 h b c l1 l2).objs.size] }
theorem zip_newB (b c : Bool) (l1 l2 : Addr) (xs ys : Array Value) :
    Meets (Builtin.«zip.__new__» ⟨[.type "zip", .ref l1, .ref l2], []⟩) (fun _ R s => SeqOf b s.heap l1 xs ∧ SeqOf c s.heap l2 ys ∧ R (.ok (.ret (.ref (zH4 s.heap b c l1 l2).objs.size))) { s with heap := zH5 s.heap b c l1 l2 }) :=
  .of_wp fun prog w A R s h => by
    obtain ⟨hp, g, d, tk, os⟩ := s
    obtain ⟨hl1, hl2, h⟩ := h
    have hsub := sub_zip
    have hL1 : SeqOf b (Shared.heap ⟨hp, g, d, tk, os⟩) l1 xs := hl1
    have hL2 : SeqOf c (Shared.heap ⟨hp.push (itObj b l1), g, d, tk, os⟩) l2 ys := SeqOf.at hl2 fun o e => Heap.get?_push_of_some _ e
    wp_walk using iter_seqE hL1, iter_seqE hL2
    exact ⟨_, rfl, h⟩
section
variable {prog : Program} {w : World} {A : Around} {E : Value → Shared → Prop} {s : Shared}
theorem zip_call {b c : Bool} {l1 l2 : Addr} {xs ys : Array Value} {Q : Value → Shared → Prop} (hl1 : SeqOf b s.heap l1 xs) (hl2 : SeqOf c s.heap l2 ys)
    (h : ∀ h', IsZip h' (s.heap.objs.size + 4) (s.heap.objs.size + 2) (s.heap.objs.size + 3) .none → IsPair h' (s.heap.objs.size + 2) (.ref s.heap.objs.size) (.ref (s.heap.objs.size + 1)) → IsPair h' (s.heap.objs.size + 3) .none .none →
      SeqIt b h' s.heap.objs.size l1 0 → SeqIt c h' (s.heap.objs.size + 1) l2 0 → (∀ c o, s.heap.get? c = some o → h'.get? c = some o) → Q (.ref (s.heap.objs.size + 4)) { s with heap := h' }) :
    wpAny (model prog w) A (call (.type "zip") [.ref l1, .ref l2]) Q E s := by
  refine callType_new F.called_zip (by decide) (F.typeCall_zip_2 _ _) (F.newCall_zip_2 _ _) (fun obj => F.args_object_init_3 obj _ _) F.entry_zip_new (zip_newB b c l1 l2 xs ys) ⟨hl1, hl2, ?_⟩
  have z1 : (zH1 s.heap b l1).objs.size = s.heap.objs.size + 1 := Heap.size_push ..
  have z2 : (zH2 s.heap b c l1 l2).objs.size = s.heap.objs.size + 2 := by rw [Heap.size_push, z1]
  have z3 : (zH3 s.heap b c l1 l2).objs.size = s.heap.objs.size + 3 := by rw [Heap.size_push, z2]
  have z4 : (zH4 s.heap b c l1 l2).objs.size = s.heap.objs.size + 4 := by rw [Heap.size_push, z3]
  have g5 : (zH5 s.heap b c l1 l2).get? (zH4 s.heap b c l1 l2).objs.size = some _ := Heap.get?_push_size _ rfl
  have g4 : (zH5 s.heap b c l1 l2).get? (zH3 s.heap b c l1 l2).objs.size = some _ := Heap.get?_push_of_some _ (Heap.get?_push_size _ rfl)
  have g3 : (zH5 s.heap b c l1 l2).get? (zH2 s.heap b c l1 l2).objs.size = some _ := Heap.get?_push_of_some _ (Heap.get?_push_of_some _ (Heap.get?_push_size _ rfl))
  have g2 : (zH5 s.heap b c l1 l2).get? (zH1 s.heap b l1).objs.size = some _ := Heap.get?_push_of_some _ (Heap.get?_push_of_some _ (Heap.get?_push_of_some _ (Heap.get?_push_size _ rfl)))
  have g1 : (zH5 s.heap b c l1 l2).get? s.heap.objs.size = some _ := Heap.get?_push_of_some _ (Heap.get?_push_of_some _ (Heap.get?_push_of_some _ (Heap.get?_push_of_some _ (Heap.get?_push_size _ rfl))))
  show _ ∧ _
  rw [z2, z3, z4] at g5
  rw [z1, z2] at g3
  rw [z3] at g4
  rw [z1] at g2
  rw [z4]
  exact ⟨⟨_, g5, rfl⟩, h _ g5 g3 g4 (itObj_at g1) (itObj_at g2) fun c o x => Heap.get?_push_of_some _ (Heap.get?_push_of_some _ (Heap.get?_push_of_some _ (Heap.get?_push_of_some _ (Heap.get?_push_of_some _ x))))⟩
/-- all but the zip's own records -/
abbrev ZKeep (z TO i1 i2 : Addr) (h h' : Heap) : Prop := ∀ c o, c ≠ z → c ≠ TO → c ≠ i1 → c ≠ i2 → h.get? c = some o → h'.get? c = some o
theorem zip_item {b c : Bool} {z TI TO i1 i2 l1 l2 : Addr} {k : Nat} {xs ys : Array Value} {x y p q : Value} {Q : Option Value → Shared → Prop} (D : ZipApart z TI TO i1 i2 l1 l2)
    (hz : IsZip s.heap z TI TO .none) (hTI : IsPair s.heap TI (.ref i1) (.ref i2)) (hTO : IsPair s.heap TO p q) (h1 : SeqIt b s.heap i1 l1 k) (h2 : SeqIt c s.heap i2 l2 k) (hl1 : SeqOf b s.heap l1 xs) (hl2 : SeqOf c s.heap l2 ys) (hx : xs[k]? = some x) (hy : ys[k]? = some y)
    (hQ : ∀ h', IsZip h' z TI TO (rawInt s.heap.objs.size) → IsPair h' TO x y → SeqIt b h' i1 l1 (k + 1) → SeqIt c h' i2 l2 (k + 1) → IsPair h' s.heap.objs.size x y → ZKeep z TO i1 i2 s.heap h' → Q (some (.ref s.heap.objs.size)) { s with heap := h' }) :
    wpAny (model prog w) A (pyNext (.ref z)) Q E s := by
  have hT : s.TypeIs (.ref z) "zip" := ⟨_, hz, rfl⟩
  unfold pyNext
  refine wpAny_bind (wpAny_attempt (wpAny_callSpecial?_slot (name := Str.ofString "__next__") hT F.slot_zip_next (wpAny_call_entry F.slot_zip_next hT F.entry_zip_next ?_ (F.args_zip_next_1 _))))
  show wpAny _ _ (field (.ref z) 2 >>= _) _ _ _
  refine wpAny_bind (wpAny_field hz rfl (x := .bool false) rfl ?_)
  show wpAny _ _ (field (.ref z) 3 >>= _) _ _ _
  refine wpAny_bind (wpAny_field hz rfl (x := .ref TI) rfl (wpAny_bind (wpAny_seqItems hTI rfl ?_)))
  show wpAny _ _ (Builtin.SmallTypes.ownedTupleIsFree (.ref z) >>= _) _ _ _
  refine wpAny_bind ?_
  unfold Builtin.SmallTypes.ownedTupleIsFree
  refine wpAny_bind (wpAny_field hz rfl (x := .none) rfl (wpAny_pure ?_))
  simp only [if_true]
  refine wpAny_bind (wpAny_rule (wpAny_bind (wpAny_field hz rfl (x := .ref TO) rfl (wpAny_bind (wpAny_setField_rec hz (by simp) fun ha hza sa => ?_)))))
  replace hza : IsZip ha z TI TO .ellipsis := hza
  refine wpAny_bind ?_
  simp only [List.zipIdx_cons, List.zipIdx_nil, List.forIn_cons, List.forIn_nil]
  -- the one
  refine wpAny_bind (wpAny_bind (wpAny_onRaise ?_))
  show wpAny _ _ (Builtin.SmallTypes.nextOf (.ref i1) >>= _) _ _ _
  refine wpAny_bind (next_seq (h1.at fun o e => sa.extBut _ o D.i1z e) (hl1.at fun o e => sa.extBut _ o D.l1z e) hx fun hb h1b sb => wpAny_pure ?_)
  have tb : IsPair hb TO p q := sb.extBut _ _ D.TOi1 (sa.extBut _ _ D.TOz hTO)
  refine wpAny_bind (wpAny_seqItems tb rfl (wpAny_bind (wpAny_updateSeq_pair tb fun hc tc sc => ?_)))
  replace tc : IsPair hc TO x q := tc
  refine wpAny_bind (wpAny_letGo (wpAny_pure ?_))
  -- the other
  refine wpAny_bind (wpAny_bind (wpAny_onRaise ?_))
  show wpAny _ _ (Builtin.SmallTypes.nextOf (.ref i2) >>= _) _ _ _
  refine wpAny_bind (next_seq (h2.at fun o e => sc.extBut _ o D.TOi2.symm (sb.extBut _ o D.i12.symm (sa.extBut _ o D.i2z e))) (hl2.at fun o e => sc.extBut _ o D.l2TO (sb.extBut _ o D.l2i1 (sa.extBut _ o D.l2z e))) hy fun hd h2d sd => wpAny_pure ?_)
  have td : IsPair hd TO x q := sd.extBut _ _ D.TOi2 tc
  refine wpAny_bind (wpAny_seqItems td rfl (wpAny_bind (wpAny_updateSeq_pair td fun he te se => ?_)))
  replace te : IsPair he TO x y := te
  refine wpAny_bind (wpAny_letGo (wpAny_pure (wpAny_pure ?_)))
  -- the pair
  refine wpAny_bind (wpAny_seqItems te rfl (wpAny_bind (wpAny_newTuple ?_)))
  have sz : he.objs.size = s.heap.objs.size := by rw [se.1, sd.1, sc.1, sb.1, sa.1]
  have ze : IsZip he z TI TO .ellipsis := se.extBut _ _ D.TOz.symm (sd.extBut _ _ D.i2z.symm (sc.extBut _ _ D.TOz.symm (sb.extBut _ _ D.i1z.symm hza)))
  have ke : ZKeep z TO i1 i2 s.heap he := fun c o c1 c2 c3 c4 e => se.extBut _ _ c2 (sd.extBut _ _ c4 (sc.extBut _ _ c2 (sb.extBut _ _ c3 (sa.extBut _ _ c1 e))))
  have h1e : SeqIt b he i1 l1 (k + 1) := h1b.at fun o e => se.extBut _ o D.TOi1.symm (sd.extBut _ o D.i12 (sc.extBut _ o D.TOi1.symm e))
  have h2e : SeqIt c he i2 l2 (k + 1) := h2d.at fun o e => se.extBut _ o D.TOi2.symm e
  have zlt : z < he.objs.size := Heap.lt_size ze
  show wpAny _ _ (Builtin.SmallTypes.ownedTupleHandOut (.ref z) (.ref he.objs.size) >>= _) _ _ _
  refine wpAny_bind ?_
  unfold Builtin.SmallTypes.ownedTupleHandOut
  have zf : IsZip (he.push { cls := .type "tuple", data := .seq #[x, y] }) z TI TO .ellipsis := Heap.get?_push_of_some _ ze
  refine wpAny_bind (wpAny_setField_rec zf (by simp) fun hg zg sg => ?_)
  replace zg : IsZip hg z TI TO (rawInt he.objs.size) := zg
  refine wpAny_setField_rec zg (by simp) fun hh zh sh => ?_
  replace zh : IsZip hh z TI TO (rawInt he.objs.size) := zh
  have up : ∀ c o, c ≠ z → he.get? c = some o → hh.get? c = some o := fun c o c1 e => sh.extBut _ _ c1 (sg.extBut _ _ c1 (Heap.get?_push_of_some _ e))
  have th : IsPair hh he.objs.size x y := sh.extBut _ _ (Nat.ne_of_gt zlt) (sg.extBut _ _ (Nat.ne_of_gt zlt) (Heap.get?_push_size _ rfl))
  rw [sz] at zh th
  refine wpAny_pure ⟨_, rfl, wpAny_pure ?_⟩
  show Q (some (.ref he.objs.size)) _
  rw [sz]
  exact hQ hh zh (up _ _ D.TOz te) (h1e.at fun o e => up _ o D.i1z e) (h2e.at fun o e => up _ o D.i2z e) th fun c o c1 c2 c3 c4 e => up c o c1 (ke c o c1 c2 c3 c4 e)
theorem zip_end {b c : Bool} {z TI TO i1 i2 l1 l2 : Addr} {k : Nat} {xs ys : Array Value} {p q : Value} {Q : Option Value → Shared → Prop} (hh : A.handled = none) (D : ZipApart z TI TO i1 i2 l1 l2)
    (hz : IsZip s.heap z TI TO .none) (hTI : IsPair s.heap TI (.ref i1) (.ref i2)) (hTO : IsPair s.heap TO p q) (h1 : SeqIt b s.heap i1 l1 k) (h2 : SeqIt c s.heap i2 l2 k) (hl1 : SeqOf b s.heap l1 xs) (hl2 : SeqOf c s.heap l2 ys) (hend : xs[k]? = none ∨ ys[k]? = none)
    (hQ : ∀ h', ZKeep z TO i1 i2 s.heap h' → Q none { s with heap := h' }) : wpAny (model prog w) A (pyNext (.ref z)) Q E s := by
  have hT : s.TypeIs (.ref z) "zip" := ⟨_, hz, rfl⟩
  unfold pyNext
  refine wpAny_bind (wpAny_attempt (wpAny_callSpecial?_slot (name := Str.ofString "__next__") hT F.slot_zip_next (wpAny_call_entry F.slot_zip_next hT F.entry_zip_next ?_ (F.args_zip_next_1 _))))
  show wpAny _ _ (field (.ref z) 2 >>= _) _ _ _
  refine wpAny_bind (wpAny_field hz rfl (x := .bool false) rfl ?_)
  show wpAny _ _ (field (.ref z) 3 >>= _) _ _ _
  refine wpAny_bind (wpAny_field hz rfl (x := .ref TI) rfl (wpAny_bind (wpAny_seqItems hTI rfl ?_)))
  show wpAny _ _ (Builtin.SmallTypes.ownedTupleIsFree (.ref z) >>= _) _ _ _
  refine wpAny_bind ?_
  unfold Builtin.SmallTypes.ownedTupleIsFree
  refine wpAny_bind (wpAny_field hz rfl (x := .none) rfl (wpAny_pure ?_))
  simp only [if_true]
  refine wpAny_bind (wpAny_rule (wpAny_bind (wpAny_field hz rfl (x := .ref TO) rfl (wpAny_bind (wpAny_setField_rec hz (by simp) fun ha hza sa => ?_)))))
  replace hza : IsZip ha z TI TO .ellipsis := hza
  refine wpAny_bind ?_
  simp only [List.zipIdx_cons, List.zipIdx_nil, List.forIn_cons, List.forIn_nil]
  refine wpAny_bind (wpAny_bind (wpAny_onRaise ?_))
  show wpAny _ _ (Builtin.SmallTypes.nextOf (.ref i1) >>= _) _ _ _
  cases hx : xs[k]? with
  | none =>
    refine wpAny_bind (next_seqEnd hh (h1.at fun o e => sa.extBut _ o D.i1z e) (hl1.at fun o e => sa.extBut _ o D.l1z e) hx fun hb e sb ⟨oe, hoe, hce⟩ => ?_)
    have zb : IsZip hb z TI TO .ellipsis := sb _ _ D.i1z.symm hza
    have ez : e ≠ z := fun w' => by subst w'; rw [zb] at hoe; cases hoe; simp at hce
    exact wpAny_setField_rec zb (by simp) fun hc _ sc => wpAny_bind (wpAny_isInstance (T := "StopIteration") (b := true) ⟨oe, sc.extBut _ _ ez hoe, hce⟩ isSubtype_stop (wpAny_pure (hQ hc fun c o c1 _ c3 _ x => sc.extBut _ _ c1 (sb _ _ c3 (sa.extBut _ _ c1 x)))))
  | some x =>
    have hy : ys[k]? = none := by
      rcases hend with h | h
      · rw [hx] at h; cases h
      · exact h
    refine wpAny_bind (next_seq (h1.at fun o e => sa.extBut _ o D.i1z e) (hl1.at fun o e => sa.extBut _ o D.l1z e) hx fun hb h1b sb => wpAny_pure ?_)
    have tb : IsPair hb TO p q := sb.extBut _ _ D.TOi1 (sa.extBut _ _ D.TOz hTO)
    refine wpAny_bind (wpAny_seqItems tb rfl (wpAny_bind (wpAny_updateSeq_pair tb fun hc tc sc => ?_)))
    refine wpAny_bind (wpAny_letGo (wpAny_pure ?_))
    refine wpAny_bind (wpAny_bind (wpAny_onRaise ?_))
    show wpAny _ _ (Builtin.SmallTypes.nextOf (.ref i2) >>= _) _ _ _
    refine wpAny_bind (next_seqEnd hh (h2.at fun o e => sc.extBut _ o D.TOi2.symm (sb.extBut _ o D.i12.symm (sa.extBut _ o D.i2z e))) (hl2.at fun o e => sc.extBut _ o D.l2TO (sb.extBut _ o D.l2i1 (sa.extBut _ o D.l2z e))) hy fun hd e sd ⟨oe, hoe, hce⟩ => ?_)
    have zd : IsZip hd z TI TO .ellipsis := sd _ _ D.i2z.symm (sc.extBut _ _ D.TOz.symm (sb.extBut _ _ D.i1z.symm hza))
    have ez : e ≠ z := fun w' => by subst w'; rw [zd] at hoe; cases hoe; simp at hce
    exact wpAny_setField_rec zd (by simp) fun he _ se => wpAny_bind (wpAny_isInstance (T := "StopIteration") (b := true) ⟨oe, se.extBut _ _ ez hoe, hce⟩ isSubtype_stop (wpAny_pure (hQ he fun c o c1 c2 c3 c4 x => se.extBut _ _ c1 (sd _ _ c4 (sc.extBut _ _ c2 (sb.extBut _ _ c3 (sa.extBut _ _ c1 x)))))))
end
end L2
set_option Elab.async false
set_option linter.all false
set_option maxRecDepth 100000
set_option maxHeartbeats 4000000
namespace L2
open PySem PySem.Spec PyProof.Rows
theorem sq_ne_fp {X : Cx} {pins : List (Addr × Obj)} {σ : St} {H : Hp} {s : Shared} {b : Bool} {a c : Addr} {xs : List V} (I : Inv X pins σ H s) (h : SqB X.K H b a xs) (f : FpOk X pins H c) : a ≠ c := by
  obtain ⟨f0, f1, f2, f3, f4, f5⟩ := f
  have key : (∃ o, H a = some o) ∨ ∃ o, X.K.lookup a = some o := by
    cases b with
    | false =>
      rcases h with (h | ⟨o, h⟩) | ⟨o, _, _, hk, _⟩
      · exact .inl ⟨_, h⟩
      · exact .inl ⟨_, h⟩
      · exact .inr ⟨o, hk⟩
    | true =>
      rcases h with (h | ⟨o, h⟩) | ⟨o, _, _, hk, _⟩
      · exact .inl ⟨_, h⟩
      · exact .inl ⟨_, h⟩
      · exact .inr ⟨o, hk⟩
  rintro rfl
  rcases key with ⟨o, e⟩ | ⟨o, e⟩
  · rw [f0] at e; cases e
  · have q := I.ok.mod.kin a o e
    rcases f3 with f3 | f3
    · exact I.ok.noex a o q f3
    · exact absurd (Nat.lt_of_lt_of_le (Heap.lt_size q) (Nat.le_trans I.ok.bsz f3)) (Nat.lt_irrefl _)
/-- zip: at turn i a new pair (item i of the one, item i of the other) -/
def Itz (K : PySem.W.Frag) (b c : Bool) (l1 l2 : Addr) : It :=
  ⟨fun i H => ∃ xs ys x y, SqB K H b l1 xs ∧ SqB K H c l2 ys ∧ xs[i]? = some x ∧ ys[i]? = some y,
   fun i H v H' => ∃ p x y, v = .ref p ∧ H p = none ∧ H' = upd H p (.tup [x, y]) ∧ (∀ xs, SqB K H b l1 xs → xs[i]? = some x) ∧ ∀ ys, SqB K H c l2 ys → ys[i]? = some y,
   fun i H => ∃ xs ys, SqB K H b l1 xs ∧ SqB K H c l2 ys ∧ (xs.length ≤ i ∨ ys.length ≤ i)⟩
/-- the zip's own records lie apart -/
structure ZAp (z TI TO i1 i2 : Addr) : Prop where
  TIz : TI ≠ z
  TOz : TO ≠ z
  i1z : i1 ≠ z
  i2z : i2 ≠ z
  TITO : TI ≠ TO
  TIi1 : TI ≠ i1
  TIi2 : TI ≠ i2
  TOi1 : TO ≠ i1
  TOi2 : TO ≠ i2
  i12 : i1 ≠ i2
theorem turn_zip {P : Program} {w : World} {K : PySem.W.Frag} {es : List Expr} {kk : Nat} {pos : Pos} (b c : Bool) (z TI TO i1 i2 l1 l2 : Addr) (ap : ZAp z TI TO i1 i2) :
    Turn P w K (.Tuple es kk pos) (Itz K b c l1 l2) [z, TI, TO, i1, i2] z
      (fun i h => IsZip h z TI TO .none ∧ IsPair h TI (.ref i1) (.ref i2) ∧ (∃ p q, IsPair h TO p q) ∧ SeqIt b h i1 l1 i ∧ SeqIt c h i2 l2 i) where
  mem := by simp
  obj := fun i h st d hd => by
    obtain ⟨hz, hTI, ⟨p, q, hTO⟩, h1, h2⟩ := st
    obtain ⟨o1, e1, d1⟩ := h1.obj
    obtain ⟨o2, e2, d2⟩ := h2.obj
    simp only [List.mem_cons, List.not_mem_nil, or_false] at hd
    rcases hd with rfl | rfl | rfl | rfl | rfl
    · exact ⟨_, hz, fun v e => by
        have e' : Data.fields _ = Data.cell v := e
        cases e'⟩
    · exact ⟨_, hTI, fun v e => by
        have e' : Data.seq _ _ = Data.cell v := e
        cases e'⟩
    · exact ⟨_, hTO, fun v e => by
        have e' : Data.seq _ _ = Data.cell v := e
        cases e'⟩
    · exact ⟨o1, e1, fun v e => by rw [d1] at e; cases e⟩
    · exact ⟨o2, e2, fun v e => by rw [d2] at e; cases e⟩
  keep := fun i h h' st k => by
    obtain ⟨hz, hTI, ⟨p, q, hTO⟩, h1, h2⟩ := st
    exact ⟨k z (by simp) _ hz, k TI (by simp) _ hTI, ⟨p, q, k TO (by simp) _ hTO⟩, h1.at fun o e => k i1 (by simp) o e, h2.at fun o e => k i2 (by simp) o e⟩
  item := by
    intro X hP hw hK hc i pins s σ H E I hf st hg
    subst hP hw hK
    obtain ⟨xs, ys, x, y, hq1, hq2, hx, hy⟩ := hg
    obtain ⟨hz, hTI, ⟨p, q, hTO⟩, h1, h2⟩ := st
    obtain ⟨its1, rv1, ha1⟩ := I.seq hq1
    obtain ⟨its2, rv2, ha2⟩ := I.seq hq2
    obtain ⟨u, hu, ru⟩ := rv1.get hx
    obtain ⟨v, hv, rv⟩ := rv2.get hy
    have D : ZipApart z TI TO i1 i2 l1 l2 := ⟨ap.TIz, ap.TOz, ap.i1z, ap.i2z, ap.TITO, ap.TIi1, ap.TIi2, ap.TOi1, ap.TOi2, ap.i12,
      sq_ne_fp I hq1 (hf z (by simp)), sq_ne_fp I hq1 (hf TO (by simp)), sq_ne_fp I hq1 (hf i1 (by simp)), sq_ne_fp I hq1 (hf i2 (by simp)), sq_ne_fp I hq2 (hf z (by simp)), sq_ne_fp I hq2 (hf TO (by simp)), sq_ne_fp I hq2 (hf i1 (by simp)), sq_ne_fp I hq2 (hf i2 (by simp))⟩
    refine zip_item D hz hTI hTO h1 h2 ha1 ha2 (x := u) (y := v) (by simpa using hu) (by simpa using hv) fun h' a1 a2 a3 a4 a5 hk => ⟨_, rfl, wpAny_letOwnedTupleGo_zip a1 fun h2' hz2 hs2 => ?_⟩
    have zlt : z < s.heap.objs.size := Heap.lt_size hz
    have I2 : Inv X pins σ H { s with heap := h2' } := I.turnedN (t' := s.toks) hf fun d o hd e => hs2.extBut d o (fun w' => hd (by simp [w'])) (hk d o (fun w' => hd (by simp [w'])) (fun w' => hd (by simp [w'])) (fun w' => hd (by simp [w'])) (fun w' => hd (by simp [w'])) e)
    have g2 : h2'.get? s.heap.objs.size = some { cls := .type "tuple", data := .seq #[u, v] } := hs2.extBut _ _ (Nat.ne_of_gt zlt) a5
    have hn : H s.heap.objs.size = none := I.hok.fresh (Nat.le_refl _)
    refine ⟨.ref s.heap.objs.size, upd H s.heap.objs.size (.tup [x, y]), I2.track (T := s.heap.objs.size) (o := .tup [x, y]) (I.fpOk (Nat.le_refl _) hn) ?_, rfl, ?_, ⟨hz2, ?_, ⟨u, v, ?_⟩, ?_, ?_⟩, fun d hd => ?_⟩
    · exact ⟨by show 2 ≤ sizeLine; decide, [u, v], .cons ru (.cons rv .nil), _, g2, rfl, _, rfl⟩
    · exact ⟨_, x, y, rfl, hn, rfl, fun zs hy' => by rw [I.seq_inj hy' hq1]; exact hx, fun zs hy' => by rw [I.seq_inj hy' hq2]; exact hy⟩
    · exact hs2.extBut _ _ ap.TIz (hk _ _ ap.TIz ap.TITO ap.TIi1 ap.TIi2 hTI)
    · exact hs2.extBut _ _ ap.TOz a2
    · exact a3.at fun o e => hs2.extBut _ o ap.i1z e
    · exact a4.at fun o e => hs2.extBut _ o ap.i2z e
    · have hlt : d < s.heap.objs.size := by
        obtain ⟨o1, e1, _⟩ := h1.obj
        obtain ⟨o2, e2, _⟩ := h2.obj
        simp only [List.mem_cons, List.not_mem_nil, or_false] at hd
        rcases hd with rfl | rfl | rfl | rfl | rfl
        · exact zlt
        · exact Heap.lt_size hTI
        · exact Heap.lt_size hTO
        · exact Heap.lt_size e1
        · exact Heap.lt_size e2
      rw [upd_ne (Nat.ne_of_lt hlt)]
      exact (hf d hd).1
  done := by
    intro X hP hw hK hc i pins s σ H E I hf st hg
    subst hP hw hK
    obtain ⟨xs, ys, hq1, hq2, hend⟩ := hg
    obtain ⟨hz, hTI, ⟨p, q, hTO⟩, h1, h2⟩ := st
    obtain ⟨its1, rv1, ha1⟩ := I.seq hq1
    obtain ⟨its2, rv2, ha2⟩ := I.seq hq2
    have D : ZipApart z TI TO i1 i2 l1 l2 := ⟨ap.TIz, ap.TOz, ap.i1z, ap.i2z, ap.TITO, ap.TIi1, ap.TIi2, ap.TOi1, ap.TOi2, ap.i12,
      sq_ne_fp I hq1 (hf z (by simp)), sq_ne_fp I hq1 (hf TO (by simp)), sq_ne_fp I hq1 (hf i1 (by simp)), sq_ne_fp I hq1 (hf i2 (by simp)), sq_ne_fp I hq2 (hf z (by simp)), sq_ne_fp I hq2 (hf TO (by simp)), sq_ne_fp I hq2 (hf i1 (by simp)), sq_ne_fp I hq2 (hf i2 (by simp))⟩
    have l1' := rv1.length
    have l2' := rv2.length
    have hend' : its1.toArray[i]? = none ∨ its2.toArray[i]? = none := by
      rcases hend with h | h
      · exact .inl (by simp; omega)
      · exact .inr (by simp; omega)
    refine zip_end (I.ok.hd hc) D hz hTI hTO h1 h2 ha1 ha2 hend' fun h' hk => ⟨rfl, ?_⟩
    exact I.turnedN (t' := s.toks) hf fun d o hd e => hk d o (fun w' => hd (by simp [w'])) (fun w' => hd (by simp [w'])) (fun w' => hd (by simp [w'])) (fun w' => hd (by simp [w'])) e
  self := fun A i s Q E st h => wpAny_pyIter_zip st.1 h
section
variable {X : Cx}
def iZip (K : PySem.W.Frag) (b c : Bool) (ta : TA) : TI := fun σ H R => ta σ H fun vs H1 => ∃ l1 l2 xs ys, vs = [.ref l1, .ref l2] ∧ SqB K H1 b l1 xs ∧ SqB K H1 c l2 ys ∧ R (Itz K b c l1 l2) H1
/-- for x, y in zip(xs, ys) -/
theorem pi_zip (b c : Bool) {es : List Expr} {kk : Nat} {tpos : Pos} {e1 e2 : Expr} {ta : TA} {p pos : Pos} (hg : Gl X "zip") (hm : X.mg "zip" = none) (hbt : bootBuiltins "zip" = some (.type "zip")) (ha : PA X [e1, e2] ta)
    (hs : starEach [e1, e2] X.env = [(false, eval e1 X.env), (false, eval e2 X.env)] := by rfl) (hs2 : starEach [e2] X.env = [(false, eval e2 X.env)] := by rfl) :
    PI X (.Tuple es kk tpos) (.Call (.Name "zip" p) [e1, e2] [] pos) (iZip X.K b c ta) := by
  intro pins s σ H R I h
  refine Call_ (ld_blt I hg hm hbt (PyProof.Rows.callWith_type1 (thn (ha pos pins s σ H _ I h) fun us s1 ⟨vs, H1, I1, r1, q1⟩ => ?_) (by rw [hs, hs2]) (by rw [hs2]; rfl)))
  obtain ⟨l1, l2, xs, ys, rfl, hq1, hq2, q⟩ := q1
  obtain ⟨u, v, rfl, ru, rv⟩ := vals2 r1
  cases (show u = Value.ref l1 from ru)
  cases (show v = Value.ref l2 from rv)
  obtain ⟨its1, rv1, ha1⟩ := I1.seq hq1
  obtain ⟨its2, rv2, ha2⟩ := I1.seq hq2
  refine zip_call ha1 ha2 fun h' hz hTI hTO h1 h2 hk => wpAny_pyIter_zip hz ?_
  have I2 : Inv X pins σ H1 { s1 with heap := h' } := I1.kept (t' := s1.toks) hk
  have ap : ZAp (s1.heap.objs.size + 4) (s1.heap.objs.size + 2) (s1.heap.objs.size + 3) s1.heap.objs.size (s1.heap.objs.size + 1) := by
    refine ⟨?_, ?_, ?_, ?_, ?_, ?_, ?_, ?_, ?_, ?_⟩ <;> (intro z; exact absurd (congrArg (fun (n : Nat) => n - s1.heap.objs.size) z) (by simp))
  refine ⟨s1.heap.objs.size + 4, [s1.heap.objs.size + 4, s1.heap.objs.size + 2, s1.heap.objs.size + 3, s1.heap.objs.size, s1.heap.objs.size + 1], _, _, H1, rfl, I2, turn_zip b c _ _ _ _ _ l1 l2 ap, ⟨hz, hTI, ⟨_, _, hTO⟩, h1, h2⟩, fun d hd => ?_, q⟩
  have hle : s1.heap.objs.size ≤ d := by
    simp only [List.mem_cons, List.not_mem_nil, or_false] at hd
    rcases hd with rfl | rfl | rfl | rfl | rfl
    · exact Nat.le_add_right _ _
    · exact Nat.le_add_right _ _
    · exact Nat.le_add_right _ _
    · exact Nat.le_refl _
    · exact Nat.le_add_right _ _
  exact I1.fpOk hle (I1.hok.fresh hle)
end
end L2
set_option Elab.async false
set_option linter.all false
set_option maxRecDepth 100000
set_option maxHeartbeats 4000000
/-! data that stay while lists of ours (N) change; the forms of comprehensions and loops -/
namespace L2
open PySem PySem.Spec PyProof.Rows
/-- a list, a tuple that is read, none of N -/
def SnL (K : PySem.W.Frag) (N : Addr → Prop) (H : Hp) (a : Addr) (xs : List V) : Prop :=
  (Rd H a (.lst xs) ∧ ¬ N a) ∨ ∃ (o : Obj) (its : Array Value) (n : Nat), K.lookup a = some o ∧ o.cls = .type "list" ∧ o.dict = none ∧ o.data = .seq its n ∧ its.size ≤ sizeLine ∧ Vals xs its.toList
def SnT (K : PySem.W.Frag) (N : Addr → Prop) (H : Hp) (a : Addr) (xs : List V) : Prop :=
  (Rd H a (.tup xs) ∧ ¬ N a) ∨ ∃ (o : Obj) (its : Array Value) (n : Nat), K.lookup a = some o ∧ o.cls = .type "tuple" ∧ o.data = .seq its n ∧ its.size ≤ sizeLine ∧ Vals xs its.toList
/-- all that is tracked stays but for N -/
def Keep (N : Addr → Prop) (H H' : Hp) : Prop := ∀ b o, ¬ N b → H b = some o → H' b = some o
theorem Keep.refl {N : Addr → Prop} {H : Hp} : Keep N H H := fun _ _ _ e => e
theorem Keep.trans {N : Addr → Prop} {H H1 H2 : Hp} (a : Keep N H H1) (b : Keep N H1 H2) : Keep N H H2 := fun c o n e => b c o n (a c o n e)
theorem Keep.new {N : Addr → Prop} {H : Hp} {p : Addr} {o : HO} (h : H p = none) : Keep N H (upd H p o) := fun b u _ e => by rw [upd_ne (ne_of_none e h)]; exact e
theorem Keep.own {N : Addr → Prop} {H : Hp} {p : Addr} {o : HO} (h : N p) : Keep N H (upd H p o) := fun b u n e => by
  have q : b ≠ p := fun z => n (by rw [z]; exact h)
  rw [upd_ne q]
  exact e
theorem Keep.mono {N M : Addr → Prop} {H H' : Hp} (a : Keep N H H') (h : ∀ b, N b → M b) : Keep M H H' := fun b o n e => a b o (fun z => n (h b z)) e
theorem Keep.same {N : Addr → Prop} {H H' : Hp} (a : Same H H') : Keep N H H' := fun b o _ e => a b o e
abbrev N0 : Addr → Prop := fun _ => False
abbrev N1 (d : Addr) : Addr → Prop := fun b => b = d
theorem Keep.none {H H' : Hp} (a : Keep N0 H H') : Same H H' := fun b o e => a b o (fun z => z) e
section
variable {K : PySem.W.Frag} {N M : Addr → Prop} {H H' : Hp} {a : Addr} {xs : List V}
theorem SnL.of (h : H a = some (.lst xs)) (n : ¬ N a) : SnL K N H a xs := .inl ⟨.inl h, n⟩
theorem SnT.of (h : H a = some (.tup xs)) (n : ¬ N a) : SnT K N H a xs := .inl ⟨.inl h, n⟩
theorem SnL.sq (h : SnL K N H a xs) : SqL K H a xs := by
  rcases h with ⟨h, _⟩ | h
  · exact .inl h
  · exact .inr h
theorem SnT.sq (h : SnT K N H a xs) : SqT K H a xs := by
  rcases h with ⟨h, _⟩ | h
  · exact .inl h
  · exact .inr h
theorem SnL.keep (h : SnL K N H a xs) (k : Keep N H H') : SnL K N H' a xs := by
  rcases h with ⟨h | ⟨o, h⟩, n⟩ | h
  · exact .inl ⟨.inl (k _ _ n h), n⟩
  · exact .inl ⟨.inr ⟨o, k _ _ n h⟩, n⟩
  · exact .inr h
theorem SnT.keep (h : SnT K N H a xs) (k : Keep N H H') : SnT K N H' a xs := by
  rcases h with ⟨h | ⟨o, h⟩, n⟩ | h
  · exact .inl ⟨.inl (k _ _ n h), n⟩
  · exact .inl ⟨.inr ⟨o, k _ _ n h⟩, n⟩
  · exact .inr h
/-- M: what of N∪M is tracked here was in N -/
theorem SnL.to (h : SnL K N H a xs) (m : ∀ b o, H b = some o → M b → N b) : SnL K M H a xs := by
  rcases h with ⟨h | ⟨o, h⟩, n⟩ | h
  · exact .inl ⟨.inl h, fun z => n (m _ _ h z)⟩
  · exact .inl ⟨.inr ⟨o, h⟩, fun z => n (m _ _ h z)⟩
  · exact .inr h
theorem SnT.to (h : SnT K N H a xs) (m : ∀ b o, H b = some o → M b → N b) : SnT K M H a xs := by
  rcases h with ⟨h | ⟨o, h⟩, n⟩ | h
  · exact .inl ⟨.inl h, fun z => n (m _ _ h z)⟩
  · exact .inl ⟨.inr ⟨o, h⟩, fun z => n (m _ _ h z)⟩
  · exact .inr h
end
mutual
inductive DN (K : PySem.W.Frag) (N : Addr → Prop) (H : Hp) : V → PyData → Prop
  | non : DN K N H .non .none
  | bl (b : Bool) : DN K N H (.bl b) (.bool b)
  | int (i : Int) : DN K N H (.int i) (.int i)
  | str (x : Str) : DN K N H (.str x) (.str x)
  | lst {a : Addr} {xs : List V} {ds : List PyData} : SnL K N H a xs → DNs K N H xs ds → DN K N H (.ref a) (.list ds)
  | tup {a : Addr} {xs : List V} {ds : List PyData} : SnT K N H a xs → DNs K N H xs ds → DN K N H (.ref a) (.tuple ds)
inductive DNs (K : PySem.W.Frag) (N : Addr → Prop) (H : Hp) : List V → List PyData → Prop
  | nil : DNs K N H [] []
  | cons {x : V} {xs : List V} {d : PyData} {ds : List PyData} : DN K N H x d → DNs K N H xs ds → DNs K N H (x :: xs) (d :: ds)
end
section
variable {K : PySem.W.Frag} {N M : Addr → Prop} {H H' : Hp}
mutual
theorem DN.dv : ∀ {v : V} {d : PyData}, DN K N H v d → DV K H v d
  | _, _, .non => .non
  | _, _, .bl b => .bl b
  | _, _, .int i => .int i
  | _, _, .str x => .str x
  | _, _, .lst h q => .lst h.sq q.dv
  | _, _, .tup h q => .tup h.sq q.dv
theorem DNs.dv : ∀ {v : List V} {d : List PyData}, DNs K N H v d → DVs K H v d
  | _, _, .nil => .nil
  | _, _, .cons h q => .cons h.dv q.dv
end
mutual
theorem DN.keep (k : Keep N H H') : ∀ {v : V} {d : PyData}, DN K N H v d → DN K N H' v d
  | _, _, .non => .non
  | _, _, .bl b => .bl b
  | _, _, .int i => .int i
  | _, _, .str x => .str x
  | _, _, .lst h q => .lst (h.keep k) (DNs.keep k q)
  | _, _, .tup h q => .tup (h.keep k) (DNs.keep k q)
theorem DNs.keep (k : Keep N H H') : ∀ {v : List V} {d : List PyData}, DNs K N H v d → DNs K N H' v d
  | _, _, .nil => .nil
  | _, _, .cons h q => .cons (DN.keep k h) (DNs.keep k q)
end
mutual
theorem DN.to (m : ∀ b o, H b = some o → M b → N b) : ∀ {v : V} {d : PyData}, DN K N H v d → DN K M H v d
  | _, _, .non => .non
  | _, _, .bl b => .bl b
  | _, _, .int i => .int i
  | _, _, .str x => .str x
  | _, _, .lst h q => .lst (h.to m) (DNs.to m q)
  | _, _, .tup h q => .tup (h.to m) (DNs.to m q)
theorem DNs.to (m : ∀ b o, H b = some o → M b → N b) : ∀ {v : List V} {d : List PyData}, DNs K N H v d → DNs K M H v d
  | _, _, .nil => .nil
  | _, _, .cons h q => .cons (DN.to m h) (DNs.to m q)
end
theorem DNs.len : ∀ {v : List V} {d : List PyData}, DNs K N H v d → v.length = d.length
  | _, _, .nil => rfl
  | _, _, .cons _ q => by simp [DNs.len q]
theorem DNs.get : ∀ {v : List V} {d : List PyData} {i : Nat} {x : V}, DNs K N H v d → v[i]? = some x → ∃ e, d[i]? = some e ∧ DN K N H x e
  | _, _, _, _, .nil, e => by simp at e
  | _, _, 0, _, .cons h _, e => by simp at e; subst e; exact ⟨_, rfl, h⟩
  | _, _, i + 1, _, .cons _ q, e => by
    obtain ⟨d, h1, h2⟩ := DNs.get (i := i) q (by simpa using e)
    exact ⟨d, by simpa using h1, h2⟩
theorem DNs.app : ∀ {v w : List V} {d e : List PyData}, DNs K N H v d → DNs K N H w e → DNs K N H (v ++ w) (d ++ e)
  | _, _, _, _, .nil, q => q
  | _, _, _, _, .cons h t, q => .cons h (t.app q)
/-- lists, tuples of ints -/
abbrev pI (ns : List Int) : PyData := .list (ns.map .int)
abbrev pT (ns : List Int) : PyData := .tuple (ns.map .int)
theorem dns_ints : ∀ ns : List Int, DNs K N H (ns.map V.int) (ns.map .int)
  | [] => .nil
  | n :: r => .cons (.int n) (dns_ints r)
theorem DNs.ints : ∀ {ns : List Int} {v : List V}, DNs K N H v (ns.map .int) → v = ns.map V.int
  | [], _, .nil => rfl
  | n :: r, _, .cons h q => by
    cases h
    rw [q.ints]; rfl
theorem DN.ofI {a : Addr} {ns : List Int} (h : SnL K N H a (ns.map V.int)) : DN K N H (.ref a) (pI ns) := .lst h (dns_ints ns)
theorem DN.ofT {a : Addr} {ns : List Int} (h : SnT K N H a (ns.map V.int)) : DN K N H (.ref a) (pT ns) := .tup h (dns_ints ns)
theorem DN.list {v : V} {ds : List PyData} (h : DN K N H v (.list ds)) : ∃ a xs, v = .ref a ∧ SnL K N H a xs ∧ DNs K N H xs ds := by
  cases h with | lst h q => exact ⟨_, _, rfl, h, q⟩
theorem DN.tuple {v : V} {ds : List PyData} (h : DN K N H v (.tuple ds)) : ∃ a xs, v = .ref a ∧ SnT K N H a xs ∧ DNs K N H xs ds := by
  cases h with | tup h q => exact ⟨_, _, rfl, h, q⟩
theorem DN.I {v : V} {ns : List Int} (h : DN K N H v (pI ns)) : ∃ a, v = .ref a ∧ SnL K N H a (ns.map V.int) := by
  obtain ⟨a, xs, e, s, q⟩ := h.list
  rw [q.ints] at s
  exact ⟨a, e, s⟩
theorem DN.T {v : V} {ns : List Int} (h : DN K N H v (pT ns)) : ∃ a, v = .ref a ∧ SnT K N H a (ns.map V.int) := by
  obtain ⟨a, xs, e, s, q⟩ := h.tuple
  rw [q.ints] at s
  exact ⟨a, e, s⟩
theorem DN.int' {v : V} {i : Int} (h : DN K N H v (.int i)) : v = .int i := by cases h; rfl
/-- a pair -/
theorem DN.two {v : V} {d e : PyData} (h : DN K N H v (.tuple [d, e])) : ∃ a x y, v = .ref a ∧ SnT K N H a [x, y] ∧ DN K N H x d ∧ DN K N H y e := by
  obtain ⟨a, xs, e, s, q⟩ := h.tuple
  cases q with
  | cons h1 q =>
    cases q with
    | cons h2 q => cases q; exact ⟨a, _, _, e, s, h1, h2⟩
theorem DN.of2 {a : Addr} {x y : V} {d e : PyData} (s : SnT K N H a [x, y]) (h1 : DN K N H x d) (h2 : DN K N H y e) : DN K N H (.ref a) (.tuple [d, e]) := .tup s (.cons h1 (.cons h2 .nil))
/-- a town, a standing -/
abbrev pTown (T : List Int × List Int) : PyData := .tuple [pI T.1, pI T.2]
abbrev pStd (S : Int × List Int) : PyData := .tuple [.int S.1, pT S.2]
end
/-! ### how deep data compare -/
theorem eqvAll_ints : ∀ a b : List Int, PyData.eqvAll (a.map .int) (b.map .int) = decide (a = b)
  | [], [] => by simp [PyData.eqvAll]
  | [], _ :: _ => by simp [PyData.eqvAll]
  | _ :: _, [] => by simp [PyData.eqvAll]
  | x :: a, y :: b => by
    rw [List.map_cons, List.map_cons, PyData.eqvAll, eqvAll_ints a b]
    simp only [PyData.eqv]
    by_cases h : x = y <;> by_cases h' : a = b <;> simp [h, h']
theorem eqv_I (a b : List Int) : PyData.eqv (pI a) (pI b) = decide (a = b) := by
  show PyData.eqvAll _ _ = _
  exact eqvAll_ints a b
theorem eqv_T (a b : List Int) : PyData.eqv (pT a) (pT b) = decide (a = b) := by
  show PyData.eqvAll _ _ = _
  exact eqvAll_ints a b
theorem eqv_town (S T : List Int × List Int) : PyData.eqv (pTown S) (pTown T) = decide (S = T) := by
  show PyData.eqvAll [pI S.1, pI S.2] [pI T.1, pI T.2] = _
  simp only [PyData.eqvAll, eqv_I, Bool.and_true]
  by_cases h : S.1 = T.1 <;> by_cases h' : S.2 = T.2 <;> simp [h, h', Prod.ext_iff]
theorem eqv_std (S T : Int × List Int) : PyData.eqv (pStd S) (pStd T) = decide (S = T) := by
  show PyData.eqvAll [.int S.1, pT S.2] [.int T.1, pT T.2] = _
  have e1 : PyData.eqv (.int S.1) (.int T.1) = (S.1 == T.1) := rfl
  rw [PyData.eqvAll, PyData.eqvAll, PyData.eqvAll, eqv_T, e1]
  by_cases h : S.1 = T.1 <;> by_cases h' : S.2 = T.2 <;> simp [h, h', Prod.ext_iff]
theorem lay_ints (a : List Int) : PyData.canLayAll0 (a.map .int) = true := PySem.W.ke_canLayAll0 a
theorem dep_ints (a : List Int) : PyData.depthAll (a.map .int) = 0 := PySem.W.ke_depthAll a
theorem shp_I (a : List Int) : shp (pI a) := by simp [shp, SeqAt.shaped, PyData.canLay0, PyData.depth, lay_ints, dep_ints]
theorem shp_T (a : List Int) : shp (pT a) := by simp [shp, SeqAt.shaped, PyData.canLay0, PyData.depth, lay_ints, dep_ints]
theorem shp_town (S : List Int × List Int) : shp (pTown S) := by simp [shp, SeqAt.shaped, PyData.canLay0, PyData.canLayAll0, PyData.depth, PyData.depthAll, lay_ints, dep_ints]
theorem shp_std (S : Int × List Int) : shp (pStd S) := by simp [shp, SeqAt.shaped, PyData.canLay0, PyData.canLayAll0, PyData.depth, PyData.depthAll, lay_ints, dep_ints]

/-! ### comprehensions: the forms one uses -/
section
variable {K : PySem.W.Frag} {a : Addr} {xs : List V} {g : TG} {tt : TT} {te : TE} {σ0 : St} {H : Hp} {Qe : List V → Hp → Prop}
theorem comp_list (Pv : Nat → List V → Hp → Prop) (h0 : Pv 0 [] H) (hl : ∀ i ys H, i ≤ xs.length → Pv i ys H → SqL K H a xs ∧ ys.length < sizeLine)
    (hs : ∀ i x ys H, xs[i]? = some x → Pv i ys H → g x σ0 H fun σ2 H2 => tt σ2 H2 fun b H3 => if b = true then te σ2 H3 fun y H4 => Pv (i + 1) (ys ++ [y]) H4 else Pv (i + 1) ys H3)
    (hd : ∀ ys H, Pv xs.length ys H → Qe ys H) : tCompW (Itl K a) σ0 g tt te H Qe := by
  refine ⟨fun i m ys H => m = xs.length - i ∧ i ≤ xs.length ∧ Pv i ys H, ⟨xs.length, by simp, Nat.zero_le _, h0⟩, ?_⟩
  rintro i m ys H ⟨rfl, hi, p⟩
  have q := hl i ys H hi p
  by_cases hlt : i < xs.length
  · refine .inr ⟨⟨xs, xs[i], q.1, by simp [hlt]⟩, q.2, fun ys' H' => Pv (i + 1) ys' H', fun ys' H' p' => ⟨xs.length - (i + 1), by omega, rfl, hlt, p'⟩, fun x H' y => ?_⟩
    obtain ⟨e, y⟩ := y
    subst e
    exact hs i x ys _ (y xs q.1) p
  · have e : i = xs.length := by omega
    subst e
    exact .inl ⟨⟨xs, q.1, Nat.le_refl _⟩, hd ys H p⟩
theorem comp_tup (Pv : Nat → List V → Hp → Prop) (h0 : Pv 0 [] H) (hl : ∀ i ys H, i ≤ xs.length → Pv i ys H → SqT K H a xs ∧ ys.length < sizeLine)
    (hs : ∀ i x ys H, xs[i]? = some x → Pv i ys H → g x σ0 H fun σ2 H2 => tt σ2 H2 fun b H3 => if b = true then te σ2 H3 fun y H4 => Pv (i + 1) (ys ++ [y]) H4 else Pv (i + 1) ys H3)
    (hd : ∀ ys H, Pv xs.length ys H → Qe ys H) : tCompW (Itt K a) σ0 g tt te H Qe := by
  refine ⟨fun i m ys H => m = xs.length - i ∧ i ≤ xs.length ∧ Pv i ys H, ⟨xs.length, by simp, Nat.zero_le _, h0⟩, ?_⟩
  rintro i m ys H ⟨rfl, hi, p⟩
  have q := hl i ys H hi p
  by_cases hlt : i < xs.length
  · refine .inr ⟨⟨xs, xs[i], q.1, by simp [hlt]⟩, q.2, fun ys' H' => Pv (i + 1) ys' H', fun ys' H' p' => ⟨xs.length - (i + 1), by omega, rfl, hlt, p'⟩, fun x H' y => ?_⟩
    obtain ⟨e, y⟩ := y
    subst e
    exact hs i x ys _ (y xs q.1) p
  · have e : i = xs.length := by omega
    subst e
    exact .inl ⟨⟨xs, q.1, Nat.le_refl _⟩, hd ys H p⟩
theorem comp_range {lo : Int} {n : Nat} (Pv : Nat → List V → Hp → Prop) (h0 : Pv 0 [] H) (hl : ∀ i ys H, i ≤ n → Pv i ys H → ys.length < sizeLine)
    (hs : ∀ i ys H, i < n → Pv i ys H → g (.int (lo + i)) σ0 H fun σ2 H2 => tt σ2 H2 fun b H3 => if b = true then te σ2 H3 fun y H4 => Pv (i + 1) (ys ++ [y]) H4 else Pv (i + 1) ys H3)
    (hd : ∀ ys H, Pv n ys H → Qe ys H) : tCompW (Itr lo n) σ0 g tt te H Qe := by
  refine ⟨fun i m ys H => m = n - i ∧ i ≤ n ∧ Pv i ys H, ⟨n, by simp, Nat.zero_le _, h0⟩, ?_⟩
  rintro i m ys H ⟨rfl, hi, p⟩
  have q := hl i ys H hi p
  by_cases hlt : i < n
  · refine .inr ⟨hlt, q, fun ys' H' => Pv (i + 1) ys' H', fun ys' H' p' => ⟨n - (i + 1), by omega, rfl, hlt, p'⟩, fun x H' y => ?_⟩
    obtain ⟨e, y⟩ := y
    subst e y
    exact hs i ys _ hlt p
  · have e : i = n := by omega
    subst e
    exact .inl ⟨Nat.le_refl _, hd ys H p⟩
theorem comp_enum {b : Bool} (Pv : Nat → List V → Hp → Prop) (h0 : Pv 0 [] H) (hl : ∀ i ys H, i ≤ xs.length → Pv i ys H → SqB K H b a xs ∧ ys.length < sizeLine)
    (hs : ∀ i x ys H p, xs[i]? = some x → Pv i ys H → H p = none → g (.ref p) σ0 (upd H p (.tup [.int i, x])) fun σ2 H2 => tt σ2 H2 fun b H3 => if b = true then te σ2 H3 fun y H4 => Pv (i + 1) (ys ++ [y]) H4 else Pv (i + 1) ys H3)
    (hd : ∀ ys H, Pv xs.length ys H → Qe ys H) : tCompW (Ite K b a) σ0 g tt te H Qe := by
  refine ⟨fun i m ys H => m = xs.length - i ∧ i ≤ xs.length ∧ Pv i ys H, ⟨xs.length, by simp, Nat.zero_le _, h0⟩, ?_⟩
  rintro i m ys H ⟨rfl, hi, p⟩
  have q := hl i ys H hi p
  by_cases hlt : i < xs.length
  · refine .inr ⟨⟨xs, xs[i], q.1, by simp [hlt]⟩, q.2, fun ys' H' => Pv (i + 1) ys' H', fun ys' H' p' => ⟨xs.length - (i + 1), by omega, rfl, hlt, p'⟩, fun v H' y => ?_⟩
    obtain ⟨r, x, rfl, hr, rfl, y⟩ := y
    exact hs i x ys _ r (y xs q.1) p hr
  · have e : i = xs.length := by omega
    subst e
    exact .inl ⟨⟨xs, q.1, rfl⟩, hd ys H p⟩
theorem comp_zip {b c : Bool} {a' : Addr} {zs : List V} (Pv : Nat → List V → Hp → Prop) (h0 : Pv 0 [] H) (hl : ∀ i ys H, i ≤ min xs.length zs.length → Pv i ys H → SqB K H b a xs ∧ SqB K H c a' zs ∧ ys.length < sizeLine)
    (hs : ∀ i x z ys H p, xs[i]? = some x → zs[i]? = some z → Pv i ys H → H p = none → g (.ref p) σ0 (upd H p (.tup [x, z])) fun σ2 H2 => tt σ2 H2 fun b H3 => if b = true then te σ2 H3 fun y H4 => Pv (i + 1) (ys ++ [y]) H4 else Pv (i + 1) ys H3)
    (hd : ∀ ys H, Pv (min xs.length zs.length) ys H → Qe ys H) : tCompW (Itz K b c a a') σ0 g tt te H Qe := by
  refine ⟨fun i m ys H => m = min xs.length zs.length - i ∧ i ≤ min xs.length zs.length ∧ Pv i ys H, ⟨min xs.length zs.length, by simp, Nat.zero_le _, h0⟩, ?_⟩
  rintro i m ys H ⟨rfl, hi, p⟩
  have q := hl i ys H hi p
  by_cases hlt : i < min xs.length zs.length
  · have h1 : i < xs.length := Nat.lt_of_lt_of_le hlt (Nat.min_le_left _ _)
    have h2 : i < zs.length := Nat.lt_of_lt_of_le hlt (Nat.min_le_right _ _)
    refine .inr ⟨⟨xs, zs, xs[i], zs[i], q.1, q.2.1, by simp [h1], by simp [h2]⟩, q.2.2, fun ys' H' => Pv (i + 1) ys' H', fun ys' H' p' => ⟨min xs.length zs.length - (i + 1), by omega, rfl, hlt, p'⟩, fun v H' y => ?_⟩
    obtain ⟨r, x, z, rfl, hr, rfl, y1, y2⟩ := y
    exact hs i x z ys _ r (y1 xs q.1) (y2 zs q.2.1) p hr
  · have e : i = min xs.length zs.length := by omega
    subst e
    exact .inl ⟨⟨xs, zs, q.1, q.2.1, by omega⟩, hd ys H p⟩
/-- for i, x in enumerate(xs) -/
theorem for_enum {b : Bool} {tb : TS} {D : Ends} {σ : St} (Pv : Nat → St → Hp → Prop) (h0 : Pv 0 σ H) (hl : ∀ i σ H, i ≤ xs.length → Pv i σ H → SqB K H b a xs)
    (hs : ∀ i x σ H p, xs[i]? = some x → Pv i σ H → H p = none → g (.ref p) σ (upd H p (.tup [.int i, x])) fun σ2 H2 => tb { D with nx := Pv (i + 1), ct := Pv (i + 1), bk := D.nx } σ2 H2) (hd : ∀ σ H, Pv xs.length σ H → D.nx σ H) :
    ∃ W : Nat → Nat → St → Hp → Prop, (∃ m, W 0 m σ H) ∧ ∀ i m σ H, W i m σ H →
      ((Ite K b a).stop i H ∧ D.nx σ H) ∨ ((Ite K b a).go i H ∧ ∃ N : St → Hp → Prop, (∀ σ' H', N σ' H' → ∃ m', m' < m ∧ W (i + 1) m' σ' H') ∧ ∀ x H', (Ite K b a).yld i H x H' → g x σ H' fun σ2 H2 => tb { D with nx := N, ct := N, bk := D.nx } σ2 H2) := by
  refine ⟨fun i m σ H => m = xs.length - i ∧ i ≤ xs.length ∧ Pv i σ H, ⟨xs.length, by simp, Nat.zero_le _, h0⟩, ?_⟩
  rintro i m σ H ⟨rfl, hi, p⟩
  have q := hl i σ H hi p
  by_cases hlt : i < xs.length
  · refine .inr ⟨⟨xs, xs[i], q, by simp [hlt]⟩, Pv (i + 1), fun σ' H' p' => ⟨xs.length - (i + 1), by omega, rfl, hlt, p'⟩, fun v H' y => ?_⟩
    obtain ⟨r, x, rfl, hr, rfl, y⟩ := y
    exact hs i x σ _ r (y xs q) p hr
  · have e : i = xs.length := by omega
    subst e
    exact .inl ⟨⟨xs, q, rfl⟩, hd σ H p⟩
end
end L2
set_option Elab.async false
set_option linter.all false
set_option maxRecDepth 100000
set_option maxHeartbeats 4000000
/-! a def by its contract alone; a block's scope by one look; the built-in names -/
namespace L2
open PySem PySem.Spec PyProof.Rows
def Cal (P : Program) (w : World) (K : PySem.W.Frag) (mg : Str → Option Value) (base : Heap) (x : Str) (k : Nat) (sp : Sp) : Prop :=
  ∃ (f : Addr) (fd : FuncData) (ps : List Str), FnOk P w K mg base CX0 k f fd ps sp ∧ Binds K fd ps [] ∧ PySem.W.keepIn K (.ref f) = true ∧ mg x = some (.ref f)
theorem Cal.mono {P : Program} {w : World} {K : PySem.W.Frag} {mg : Str → Option Value} {base : Heap} {x : Str} {j k : Nat} {sp : Sp} (C : Cal P w K mg base x j sp) (h : j ≤ k) : Cal P w K mg base x k sp := by
  obtain ⟨f, fd, ps, F, b, kp, m⟩ := C
  exact ⟨f, fd, ps, F.mono h, b, kp, m⟩
section
variable {X : Cx} {x : Str} {p pos : Pos} {e : Expr} {es : List Expr} {t : TA} {k : Nat} {sp : Sp}
theorem pe_cal (C : Cal X.prog X.w X.K X.mg X.base x k sp) (hr : Room k X.A) (hg : Gl X x) (ha : PA X (e :: es) t) (hd : (x == ("__debug__" : Str)) = false := by decide)
    (he : starEach (e :: es) X.env = (false, eval e X.env) :: starEach es X.env := by rfl) (hpl : (backTo pos (starEach es X.env)).any (·.1) = false := by rfl) : PE X (.Call (.Name x p) (e :: es) [] pos) (tCall sp [] E0 t) := by
  obtain ⟨f, fd, ps, F, b, kp, m⟩ := C
  exact pe_call F hr hg m kp b .nil pass0 ha hd he hpl
end
/-- the names and places of a block, looked at once -/
def bOk (N : List Str) (sc0 : Scope) (N' : List Str) (ix : List (Option Nat)) (sc : Scope) : Bool :=
  decide (sc.kind = .function) && decide ((sc.names.map (·.1)).Nodup) && sc.names.all (fun y => !(y.2 == .free) || decide (sc0.names.lookup y.1 = some .cell) || decide (sc0.names.lookup y.1 = some .free)) && decide (ix.length = N'.length) &&
  (ix.zip N').all fun q => match q.1 with
    | none => true
    | some j => decide (N[j]? = some q.2) && decide (sc.names.lookup q.2 = some .free)
theorem bs_of {X : Cx} {N N' : List Str} {ix : List (Option Nat)} {sc sc0 : Scope} (hN : X.N = N) (h0 : X.env.scope = sc0) (h : bOk N sc0 N' ix sc = true) : BScope X.N X.env N' ix sc := by
  rw [← hN] at h
  unfold bOk at h
  simp only [Bool.and_eq_true, decide_eq_true_eq] at h
  obtain ⟨⟨⟨⟨h1, h2⟩, h3⟩, h4⟩, h5⟩ := h
  refine ⟨h1, h2, fun y hy hf => ?_, h4, fun i j hij => ?_⟩
  · have q := List.all_eq_true.mp h3 y hy
    rw [hf] at q
    have e : ∀ z, X.env.kindOf z = sc0.names.lookup z := fun z => by
      show X.env.scope.names.lookup z = _
      rw [h0]
    rw [e]
    simpa using q
  · have hi : i < ix.length := (List.getElem?_eq_some_iff.mp hij).1
    have hi' : i < N'.length := by omega
    have hm : (some j, N'[i]) ∈ ix.zip N' := by
      rw [List.mem_iff_getElem?]
      refine ⟨i, ?_⟩
      rw [List.getElem?_zip_eq_some]
      exact ⟨hij, List.getElem?_eq_getElem hi'⟩
    have q := List.all_eq_true.mp h5 _ hm
    simp only [Bool.and_eq_true, decide_eq_true_eq] at q
    exact ⟨N'[i], List.getElem?_eq_getElem hi', q.1, q.2⟩
/-- .. of a block within a block -/
theorem bs_in {X : Cx} {N1 N' : List Str} {ix : List (Option Nat)} {sc1 sc : Scope} {s : Shared} {H : Hp} {C : Addr} {fp : List Addr} (h : bOk N1 sc1 N' ix sc = true) : BScope (bCx X N1 sc1 s H C fp).N (bCx X N1 sc1 s H C fp).env N' ix sc := by
  unfold bOk at h
  simp only [Bool.and_eq_true, decide_eq_true_eq] at h
  obtain ⟨⟨⟨⟨h1, h2⟩, h3⟩, h4⟩, h5⟩ := h
  refine ⟨h1, h2, fun y hy hf => ?_, h4, fun i j hij => ?_⟩
  · have q := List.all_eq_true.mp h3 y hy
    rw [hf] at q
    have q' : sc1.names.lookup y.1 = some .cell ∨ sc1.names.lookup y.1 = some .free := by simpa using q
    rcases q' with q' | q'
    · exact .inl (by rw [show (bCx X N1 sc1 s H C fp).env.kindOf y.1 = _ from bEnv_kind (C := C) (env := X.env) q']; rfl)
    · rw [show (bCx X N1 sc1 s H C fp).env.kindOf y.1 = _ from bEnv_kind (C := C) (env := X.env) q']
      split
      · exact .inl rfl
      · exact .inr rfl
  · have hi : i < ix.length := (List.getElem?_eq_some_iff.mp hij).1
    have hi' : i < N'.length := by omega
    have hm : (some j, N'[i]) ∈ ix.zip N' := by
      rw [List.mem_iff_getElem?]
      refine ⟨i, ?_⟩
      rw [List.getElem?_zip_eq_some]
      exact ⟨hij, List.getElem?_eq_getElem hi'⟩
    have q := List.all_eq_true.mp h5 _ hm
    simp only [Bool.and_eq_true, decide_eq_true_eq] at q
    exact ⟨N'[i], List.getElem?_eq_getElem hi', q.1, q.2⟩
/-- the built-in names that a text uses are its own nowhere -/
structure Bn (mg : Str → Option Value) : Prop where
  len : mg "len" = none
  range : mg "range" = none
  min : mg "min" = none
  max : mg "max" = none
  enumerate : mg "enumerate" = none
  zip : mg "zip" = none
  all : mg "all" = none
  any : mg "any" = none
  isinstance : mg "isinstance" = none
  bool : mg "bool" = none
  int : mg "int" = none
  list : mg "list" = none
  tuple : mg "tuple" = none
  sorted : mg "sorted" = none
  str : mg "str" = none
  sum : mg "sum" = none
  abs : mg "abs" = none
/-- is True, is False -/
theorem op_isB {X : Cx} : OpR X (compareOp .Is) (fun x y H Q => ∃ b c, x = .bl b ∧ y = .bl c ∧ Q (.bl (b == c)) H) := by
  intro pins s σ H x y v u Q I r1 r2 h
  obtain ⟨b, c, rfl, rfl, q⟩ := h
  cases (show v = Value.bool b from r1)
  cases (show u = Value.bool c from r2)
  exact is_bool ⟨.bl _, H, I, rfl, q⟩
theorem op_isnotB {X : Cx} : OpR X (compareOp .IsNot) (fun x y H Q => ∃ b c, x = .bl b ∧ y = .bl c ∧ Q (.bl (b != c)) H) := by
  intro pins s σ H x y v u Q I r1 r2 h
  obtain ⟨b, c, rfl, rfl, q⟩ := h
  cases (show v = Value.bool b from r1)
  cases (show u = Value.bool c from r2)
  exact isnot_bool ⟨.bl _, H, I, rfl, q⟩
end L2
namespace L2
open PySem PySem.Spec PyProof.Rows
/-- xs[i] of a list (false) or a tuple (true) -/
def rIxB (K : PySem.W.Frag) (b : Bool) : R2 := fun x y H Q => ∃ p xs i v, x = .ref p ∧ y = .int i ∧ SqB K H b p xs ∧ atI xs i = some v ∧ Q v H
theorem ix_b {X : Cx} (b : Bool) : IxR X (rIxB X.K b) := by
  cases b with
  | false => exact ix_list
  | true => exact ix_tup
theorem SqB.of {K : PySem.W.Frag} {N : Addr → Prop} {H : Hp} {a : Addr} {xs : List V} (h : SnL K N H a xs) : SqB K H false a xs := h.sq
theorem SqB.ofT {K : PySem.W.Frag} {N : Addr → Prop} {H : Hp} {a : Addr} {xs : List V} (h : SnT K N H a xs) : SqB K H true a xs := h.sq
/-- a list or tuple of ints that stays -/
def SnB (K : PySem.W.Frag) (N : Addr → Prop) (H : Hp) : Bool → Addr → List V → Prop
  | false, a, xs => SnL K N H a xs
  | true, a, xs => SnT K N H a xs
theorem SnB.sq {K : PySem.W.Frag} {N : Addr → Prop} {H : Hp} {b : Bool} {a : Addr} {xs : List V} (h : SnB K N H b a xs) : SqB K H b a xs := by
  cases b with
  | false => exact SnL.sq h
  | true => exact SnT.sq h
theorem SqB.len {K : PySem.W.Frag} {H : Hp} {b : Bool} {a : Addr} {xs : List V} (h : SqB K H b a xs) : SqL K H a xs ∨ SqT K H a xs := by
  cases b with
  | false => exact .inl h
  | true => exact .inr h
theorem SqB.keep {K : PySem.W.Frag} {H H' : Hp} {b : Bool} {a : Addr} {xs : List V} (h : SqB K H b a xs) (k : Same H H') : SqB K H' b a xs := by
  cases b with
  | false => exact (show SnL K N0 H a xs from by rcases h with h | h; exact .inl ⟨h, fun z => z⟩; exact .inr h).keep (Keep.same k) |>.sq
  | true => exact (show SnT K N0 H a xs from by rcases h with h | h; exact .inl ⟨h, fun z => z⟩; exact .inr h).keep (Keep.same k) |>.sq
theorem SqL.keep {K : PySem.W.Frag} {H H' : Hp} {a : Addr} {xs : List V} (h : SqL K H a xs) (k : Same H H') : SqL K H' a xs := SqB.keep (b := false) h k
theorem SqT.keep {K : PySem.W.Frag} {H H' : Hp} {a : Addr} {xs : List V} (h : SqT K H a xs) (k : Same H H') : SqT K H' a xs := SqB.keep (b := true) h k
theorem Same.new {H : Hp} {p : Addr} {o : HO} (h : H p = none) : Same H (upd H p o) := fun b u e => by rw [upd_ne (ne_of_none e h)]; exact e
theorem Cal.mk {P : Program} {w : World} {K : PySem.W.Frag} {mg : Str → Option Value} {base : Heap} {x : Str} {st : Stmt} {f : Addr} {fd : FuncData} {k : Nat} {ps : List Str} {sp : Sp} (F : Fun K x x st f fd) (m : mg x = some (.ref f)) (b : Binds K fd ps [])
    (G : FnOk P w K mg base CX0 k f fd ps sp) : Cal P w K mg base x k sp := ⟨f, fd, ps, G, b, F.kp, m⟩
theorem atI_int {ns : List Int} {i : Int} (h0 : 0 ≤ i) (h : i < ns.length) : atI (ns.map V.int) i = some (.int (ns.getD i.toNat 0)) := by
  have hk : i.toNat < ns.length := by omega
  have q : atI (ns.map V.int) ((i.toNat : Nat) : Int) = some (.int (ns.getD i.toNat 0)) := atI_nat (by
    rw [List.getElem?_map, List.getElem?_eq_getElem hk, List.getD_eq_getElem?_getD, List.getElem?_eq_getElem hk]
    rfl)
  rwa [show ((i.toNat : Nat) : Int) = i by omega] at q
theorem atI_v {xs : List V} {i : Int} {x : V} (h0 : 0 ≤ i) (h : xs[i.toNat]? = some x) : atI xs i = some x := by
  have q := atI_nat h
  rwa [show ((i.toNat : Nat) : Int) = i by omega] at q
theorem line_big : 1000000 ≤ sizeLine := by decide
/-! ### the rules whose reading names the written part, by its own letter -/
section
variable {X : Cx} {K : PySem.W.Frag} (hK : X.K = K)
include hK
theorem kLen : CallR X (.builtin "len") (fun xs H Q => ∃ p ys, xs = [.ref p] ∧ (SqL K H p ys ∨ SqT K H p ys) ∧ Q (.int ys.length) H) := by subst hK; exact call_len_seq
theorem kIxL : IxR X (rIxL K) := by subst hK; exact ix_list
theorem kIxT : IxR X (rIxT K) := by subst hK; exact ix_tup
theorem kIxB (b : Bool) : IxR X (rIxB K b) := by subst hK; exact ix_b b
theorem kSlL : SlR X (rSlL K) := by subst hK; exact sl_list
theorem kSlT : SlR X (rSlT K) := by subst hK; exact sl_tup
theorem kCatA : OpR X (binaryOp .Add) (rCatA K) := by subst hK; exact op_catA
theorem kEqD (hu : X.A.units + 64 < cLine) : OpR X (compareOp .Eq) (rEqD K) := by subst hK; exact op_eqD hu
theorem kNeD (hu : X.A.units + 64 < cLine) : OpR X (compareOp .NotEq) (rNeD K) := by subst hK; exact op_neD hu
theorem kInD (hu : X.A.units + 80 < cLine) : OpR X (compareOp .In) (rInD K) := by subst hK; exact op_inD hu
theorem kNotInD (hu : X.A.units + 80 < cLine) : OpR X (compareOp .NotIn) (rNotInD K) := by subst hK; exact op_notInD hu
theorem kIn : OpR X (compareOp .In) (rIn K false) := by subst hK; exact op_in_seq
theorem kNotIn : OpR X (compareOp .NotIn) (rIn K true) := by subst hK; exact op_notIn_seq
theorem kAll (hc : X.calm = true) : CallR X (.builtin "all") (fun xs H Q => ∃ (a : Addr) (bs : List Bool), xs = [.ref a] ∧ SqL K H a (bs.map V.bl) ∧ Q (.bl (bs.all id)) H) := by subst hK; exact call_all hc
theorem kAny (hc : X.calm = true) : CallR X (.builtin "any") (fun xs H Q => ∃ (a : Addr) (bs : List Bool), xs = [.ref a] ∧ SqL K H a (bs.map V.bl) ∧ Q (.bl (bs.any id)) H) := by subst hK; exact call_any hc
theorem kIsT : CallR X (.builtin "isinstance") (fun xs H Q => ∃ (x : V) (t : Value) (n : String) (b : Bool), xs = [x, .ty n] ∧ TyOf K H x t ∧ PySem.W.kitOne K t (.type n) = some b ∧ Q (.bl b) H) := by subst hK; exact call_isT
theorem kIsC : CallR X (.builtin "isinstance") (fun xs H Q => ∃ (x : V) (t : Value) (C : Addr) (b : Bool), xs = [x, .ref C] ∧ TyOf K H x t ∧ PySem.W.kitOne K t (.ref C) = some b ∧ Q (.bl b) H) := by subst hK; exact call_isC
theorem kList : CallR X (.type "list") (fun xs H Q => ∃ p ys, xs = [.ref p] ∧ (SqL K H p ys ∨ SqT K H p ys) ∧ ∀ l, H l = none → Q (.ref l) (upd H l (.lst ys))) := by subst hK; exact call_list_of
theorem kTuple : CallR X (.type "tuple") (fun xs H Q => ∃ p ys, xs = [.ref p] ∧ ((SqL K H p ys ∧ ∀ l, H l = none → Q (.ref l) (upd H l (.tup ys))) ∨ (SqT K H p ys ∧ Q (.ref p) H))) := by subst hK; exact call_tuple_of
variable {tg : Expr}
theorem kiList {l : Expr} {tl : TE} (hl : PE X l tl) : PI X tg l (iList K tl) := by subst hK; exact pi_list hl
theorem kiTup {l : Expr} {tl : TE} (hl : PE X l tl) : PI X tg l (iTup K tl) := by subst hK; exact pi_tup hl
theorem kiEnum (b : Bool) {es : List Expr} {kk : Nat} {tpos : Pos} {a : Expr} {ta : TA} {p pos : Pos} (hg : Gl X "enumerate") (hm : X.mg "enumerate" = none) (ha : PA X [a] ta) (hs : starEach [a] X.env = [(false, eval a X.env)] := by rfl) :
    PI X (.Tuple es kk tpos) (.Call (.Name "enumerate" p) [a] [] pos) (iEnum K b ta) := by subst hK; exact pi_enum b hg hm PyProof.Rows.boot_enumerate ha hs
theorem kiZip (b c : Bool) {es : List Expr} {kk : Nat} {tpos : Pos} {e1 e2 : Expr} {ta : TA} {p pos : Pos} (hg : Gl X "zip") (hm : X.mg "zip" = none) (ha : PA X [e1, e2] ta)
    (hs : starEach [e1, e2] X.env = [(false, eval e1 X.env), (false, eval e2 X.env)] := by rfl) (hs2 : starEach [e2] X.env = [(false, eval e2 X.env)] := by rfl) :
    PI X (.Tuple es kk tpos) (.Call (.Name "zip" p) [e1, e2] [] pos) (iZip K b c ta) := by subst hK; exact pi_zip b c hg hm PyProof.Rows.boot_zip ha hs hs2
theorem kgTup {pos : Pos} {es : List Expr} {k : Nat} {t : TGs} {n : Nat} (hc : X.calm = true) (h : PGs X es t) (hn : (assignEach es X.env).length = n := by rfl) (hst : (assignEach es X.env).findIdx? (·.1) = none := by rfl) : PG X (.Tuple es k pos) (gTup K n t) := by
  subst hK; exact pg_tup hc h hn hst
theorem kTruth {a : Expr} {ta : TE} (ha : PE X a ta) (he : ∀ whole, isTrue a X.env whole = (do let v ← whole; standAt a.pos; holding [v] (truthy v))) : PT X a (fun σ H Q => ta σ H fun x H' => ∃ k, TruV K x H' k ∧ Q k H') := by
  subst hK; exact pt_truth ha he
variable {o e : Expr} {es : List Expr} {to : TE} {t : TA} {name : Str} {apos cpos : Pos} {T id : String} {r : V → List V → Hp → VK → Prop}
theorem kBm0 (pa : PlainAttrs T) (slot : Slot T name id) (hty : typeOf (.builtin id) = pure (.type "method_descriptor")) (hm : MtR X id r) (ho : PE X o to)
    (hbase : attributeBase o name X.env (eval o X.env) = eval o X.env := by rfl) (hline : (apos.endLine == cpos.line) = true := by rfl) : PE X (.Call (.Attribute o name apos) [] [] cpos) (tBM0 K T r to) := by
  subst hK; exact pe_bm0 pa slot hty hm ho hbase hline
theorem kBm (pa : PlainAttrs T) (slot : Slot T name id) (hty : typeOf (.builtin id) = pure (.type "method_descriptor")) (hm : MtR X id r) (ho : PE X o to) (ha : PA X (e :: es) t)
    (hbase : attributeBase o name X.env (eval o X.env) = eval o X.env := by rfl)
    (hfew : ((backTo cpos (starEach (e :: es) X.env)).all (fun x => !x.1) && (backToKw cpos (keywordEach [] X.env)).all (fun x => x.1.isSome) && decide ((e :: es).length + ([] : List Keyword).length + (if ([] : List Keyword).isEmpty then 0 else 1) < 30)) = true := by rfl)
    (hline : (apos.endLine == cpos.line) = true := by rfl) (hs : starEach (e :: es) X.env = (false, eval e X.env) :: starEach es X.env := by rfl) (hplain : (backTo cpos (starEach es X.env)).any (·.1) = false := by rfl) :
    PE X (.Call (.Attribute o name apos) (e :: es) [] cpos) (tBM K T r to t) := by
  subst hK; exact pe_bm pa slot hty hm ho ha hbase hfew hline hs hplain
end
end L2
namespace L2
open PySem
theorem room80 {A : Around} {k : Nat} (hr : Room k A) : A.units + 80 < cLine := by have := hr.un; omega
end L2
namespace L2
open PySem
/-! ### loops: what is asked of a for's turns, as one word -/
def FW (J : It) (g : TG) (tb : TS) (D : Ends) (σ : St) (H : Hp) : Prop := ∃ W : Nat → Nat → St → Hp → Prop, (∃ m, W 0 m σ H) ∧ ∀ i m σ H, W i m σ H →
  (J.stop i H ∧ D.nx σ H) ∨ (J.go i H ∧ ∃ N : St → Hp → Prop, (∀ σ' H', N σ' H' → ∃ m', m' < m ∧ W (i + 1) m' σ' H') ∧ ∀ x H', J.yld i H x H' → g x σ H' fun σ2 H2 => tb { D with nx := N, ct := N, bk := D.nx } σ2 H2)
theorem tFor_eq (wi : TI) (g : TG) (tb : TS) (D : Ends) (σ : St) (H : Hp) : tFor wi g tb D σ H = wi σ H fun J H1 => FW J g tb D σ H1 := rfl
section
variable {K : PySem.W.Frag} {a : Addr} {xs : List V} {g : TG} {tb : TS} {D : Ends} {σ : St} {H : Hp} (Pv : Nat → St → Hp → Prop)
theorem fw_list (h0 : Pv 0 σ H) (hl : ∀ i σ H, i ≤ xs.length → Pv i σ H → SqL K H a xs) (hs : ∀ i x σ H, xs[i]? = some x → Pv i σ H → g x σ H fun σ2 H2 => tb { D with nx := Pv (i + 1), ct := Pv (i + 1), bk := D.nx } σ2 H2)
    (hd : ∀ σ H, Pv xs.length σ H → D.nx σ H) : FW (Itl K a) g tb D σ H := for_list Pv h0 hl hs hd
theorem fw_tup (h0 : Pv 0 σ H) (hl : ∀ i σ H, i ≤ xs.length → Pv i σ H → SqT K H a xs) (hs : ∀ i x σ H, xs[i]? = some x → Pv i σ H → g x σ H fun σ2 H2 => tb { D with nx := Pv (i + 1), ct := Pv (i + 1), bk := D.nx } σ2 H2)
    (hd : ∀ σ H, Pv xs.length σ H → D.nx σ H) : FW (Itt K a) g tb D σ H := for_tup Pv h0 hl hs hd
theorem fw_range {lo : Int} {n : Nat} (h0 : Pv 0 σ H) (hs : ∀ i σ H, i < n → Pv i σ H → g (.int (lo + i)) σ H fun σ2 H2 => tb { D with nx := Pv (i + 1), ct := Pv (i + 1), bk := D.nx } σ2 H2)
    (hd : ∀ σ H, Pv n σ H → D.nx σ H) : FW (Itr lo n) g tb D σ H := for_range Pv h0 hs hd
theorem fw_enum {b : Bool} (h0 : Pv 0 σ H) (hl : ∀ i σ H, i ≤ xs.length → Pv i σ H → SqB K H b a xs)
    (hs : ∀ i x σ H p, xs[i]? = some x → Pv i σ H → H p = none → g (.ref p) σ (upd H p (.tup [.int i, x])) fun σ2 H2 => tb { D with nx := Pv (i + 1), ct := Pv (i + 1), bk := D.nx } σ2 H2) (hd : ∀ σ H, Pv xs.length σ H → D.nx σ H) :
    FW (Ite K b a) g tb D σ H := for_enum Pv h0 hl hs hd
end
end L2
namespace L2
open PySem
theorem atI_natI {ns : List Int} {j : Nat} (h : j < ns.length) : atI (ns.map V.int) (j : Int) = some (.int (ns.getD j 0)) := by
  have q := atI_int (ns := ns) (i := (j : Int)) (by omega) (by omega)
  rwa [Int.toNat_natCast] at q
theorem ixN_nat {n j : Nat} (h : j < n) : ixN n (j : Int) = some j := by
  unfold ixN
  rw [if_pos (by omega), if_pos (by omega), Int.toNat_natCast]
end L2
namespace L2
open PySem PySem.Spec PyProof.Rows
/-- a statement and the rest, with a word R between them -/
def tCut (t u : TS) : TS := fun D σ H => ∃ R : St → Hp → Prop, t { D with nx := R } σ H ∧ ∀ σ' H', R σ' H' → u D σ' H'
theorem pss_cut {X : Cx} {st : Stmt} {rest : List Stmt} {t u : TS} (h1 : PS X st t) (h2 : PSs X rest u) : PSs X (st :: rest) (tCut t u) := by
  intro pins s σ H D I h
  obtain ⟨R, h, hR⟩ := h
  refine wpAny_execs_cons (thn (h1 pins s σ H { D with nx := R } I h) fun f s1 q => ?_)
  cases f with
  | next =>
    obtain ⟨σ', H', I', q⟩ := q
    exact h2 pins s1 σ' H' D I' (hR _ _ q)
  | ret v => exact q
  | brk => exact q
  | cont => exact q
theorem mem_dropLast {α : Type} {x : α} {l : List α} (h : x ∈ l.dropLast) : x ∈ l := by
  rw [List.dropLast_eq_take] at h
  exact List.mem_of_mem_take h
end L2
namespace L2
open PySem
theorem Keep.free {N : Addr → Prop} {H H' : Hp} (k : Keep N H H') {p : Addr} (n : ¬ N p) (h : H' p = Option.none) : H p = Option.none := by
  cases e : H p with
  | none => rfl
  | some o => rw [k p o n e] at h; cases h
/-- something else is written -/
theorem Keep.put {N : Addr → Prop} {H H' : Hp} {p : Addr} {o : HO} (k : Keep N H H') (h : H p = Option.none) : Keep N H (upd H' p o) := fun b u n e => by
  rw [upd_ne (ne_of_none e h)]
  exact k b u n e
end L2
namespace L2
open PySem
/-- a new list of ours: what stood before stays apart from it -/
theorem DN.own {K : PySem.W.Frag} {N : Addr → Prop} {H H' : Hp} {d : Addr} {v : V} {D : PyData} (h : DN K N H v D) (hd : H d = none) (k : Same H H') : DN K (N1 d) H' v D :=
  (h.to fun b o e (z : b = d) => by rw [z, hd] at e; cases e).keep (Keep.same k)
theorem DN.sqL {K : PySem.W.Frag} {H : Hp} {a : Addr} {ns : List Int} (h : SqL K H a (ns.map V.int)) : DN K N0 H (.ref a) (pI ns) := DN.ofI (by
  rcases h with h | h
  · exact .inl ⟨h, fun z => z⟩
  · exact .inr h)
end L2
namespace L2
theorem scal_ii (i j : Int) : (scal (.int i) (.int j) = true) = True := by simp [scal]
theorem scal_bb (i j : Bool) : (scal (.bl i) (.bl j) = true) = True := by simp [scal]
end L2
set_option Elab.async false
set_option linter.all false
set_option maxRecDepth 100000
set_option maxHeartbeats 4000000
/-! THE DATA LAYER: a def's meaning over plain data. A slot: nothing known; a datum that nobody changes; a list of ours (made here); a list handed in to be changed; a temporary that stands for a slot. -/
namespace L2
open PySem PySem.Spec PyProof.Rows
inductive Sl where
  | un | fr (d : PyData) | ow (ds : List PyData) | io (ds : List PyData) | vw (i : Nat)
abbrev Ent := Option V × Sl
def own1 : Ent → Option Addr
  | (some (.ref a), .ow _) => some a
  | (some (.ref a), .io _) => some a
  | _ => none
def oas (E : List Ent) : List Addr := E.filterMap own1
def Nw (M : Addr → Prop) (E : List Ent) : Addr → Prop := fun a => M a ∨ a ∈ oas E
abbrev tmp (ts : List (V × Sl)) : List Ent := ts.map fun t => (some t.1, t.2)
def ents (σ : St) (env : List Sl) (ts : List (V × Sl)) : List Ent := σ.zip env ++ tmp ts
theorem oas_app (A B : List Ent) : oas (A ++ B) = oas A ++ oas B := List.filterMap_append
theorem oas_cons (e : Ent) (B : List Ent) : oas (e :: B) = (match own1 e with | some a => a :: oas B | none => oas B) := by
  unfold oas
  rw [List.filterMap_cons]
  cases own1 e <;> rfl
theorem mem_oas {a : Addr} {E : List Ent} : a ∈ oas E ↔ ∃ e ∈ E, own1 e = some a := List.mem_filterMap
theorem own1_some {e : Ent} {a : Addr} (h : own1 e = some a) : e.1 = some (.ref a) ∧ ((∃ ds, e.2 = .ow ds) ∨ ∃ ds, e.2 = .io ds) := by
  obtain ⟨x, s⟩ := e
  cases s with
  | ow ds =>
    cases x with
    | none => cases h
    | some v => cases v with
      | ref b => cases h; exact ⟨rfl, .inl ⟨ds, rfl⟩⟩
      | _ => cases h
  | io ds =>
    cases x with
    | none => cases h
    | some v => cases v with
      | ref b => cases h; exact ⟨rfl, .inr ⟨ds, rfl⟩⟩
      | _ => cases h
  | _ => cases x with
    | none => cases h
    | some v => cases v <;> cases h
structure RelE (K : PySem.W.Frag) (M P : Addr → Prop) (H0 : Hp) (E : List Ent) (H : Hp) : Prop where
  keep : Keep P H0 H
  live : ∀ a, H0 a ≠ none → H a ≠ none
  mt : ∀ a, M a → H0 a ≠ none
  pm : ∀ a, P a → M a
  fr : ∀ x d, (x, Sl.fr d) ∈ E → ∃ v, x = some v ∧ DN K (Nw M E) H v d
  ow : ∀ x ds, (x, Sl.ow ds) ∈ E → ∃ a vs, x = some (.ref a) ∧ H a = some (.lst vs) ∧ DNs K (Nw M E) H vs ds ∧ H0 a = none
  io : ∀ x ds, (x, Sl.io ds) ∈ E → ∃ a vs, x = some (.ref a) ∧ H a = some (.lst vs) ∧ DNs K (Nw M E) H vs ds ∧ P a
  nd : (oas E).Nodup
section
variable {K : PySem.W.Frag} {M P : Addr → Prop} {H0 H H' : Hp} {E E' A B : List Ent} {e e' : Ent}
theorem RelE.own (h : RelE K M P H0 E H) {a : Addr} (ha : a ∈ oas E) : ∃ vs, H a = some (.lst vs) ∧ (H0 a = none ∨ P a) := by
  obtain ⟨⟨x, s⟩, he, eo⟩ := mem_oas.mp ha
  obtain ⟨e1, e2⟩ := own1_some eo
  rcases e2 with ⟨ds, e2⟩ | ⟨ds, e2⟩
  · simp only at e1 e2; subst e1 e2
    obtain ⟨b, vs, z, q, _, r⟩ := h.ow _ _ he
    cases z
    exact ⟨vs, q, .inl r⟩
  · simp only at e1 e2; subst e1 e2
    obtain ⟨b, vs, z, q, _, r⟩ := h.io _ _ he
    cases z
    exact ⟨vs, q, .inr r⟩
theorem Nw.sub (h : ∀ a, a ∈ oas E' → a ∈ oas E) : ∀ b, Nw M E' b → Nw M E b := fun b z => by
  rcases z with z | z
  · exact .inl z
  · exact .inr (h b z)
/-- fewer entries; idle ones count for nothing -/
theorem RelE.sub (h : RelE K M P H0 E H) (hm : ∀ x s, (x, s) ∈ E' → (x, s) ∈ E ∨ s = .un ∨ ∃ i, s = .vw i) (nd : (oas E').Nodup) : RelE K M P H0 E' H := by
  have os : ∀ a, a ∈ oas E' → a ∈ oas E := fun a ha => by
    obtain ⟨⟨x, s⟩, he, eo⟩ := mem_oas.mp ha
    rcases hm x s he with q | q | ⟨i, q⟩
    · exact mem_oas.mpr ⟨_, q, eo⟩
    · subst q; cases x with
      | none => cases eo
      | some v => cases v <;> cases eo
    · subst q; cases x with
      | none => cases eo
      | some v => cases v <;> cases eo
  have up := Nw.sub (M := M) os
  refine ⟨h.keep, h.live, h.mt, h.pm, fun x d m => ?_, fun x d m => ?_, fun x d m => ?_, nd⟩
  · rcases hm _ _ m with q | q | ⟨i, q⟩
    · obtain ⟨v, e, dn⟩ := h.fr x d q
      exact ⟨v, e, dn.to fun b _ _ z => up b z⟩
    · cases q
    · cases q
  · rcases hm _ _ m with q | q | ⟨i, q⟩
    · obtain ⟨a, vs, e, e2, dn, r⟩ := h.ow x d q
      exact ⟨a, vs, e, e2, dn.to fun b _ _ z => up b z, r⟩
    · cases q
    · cases q
  · rcases hm _ _ m with q | q | ⟨i, q⟩
    · obtain ⟨a, vs, e, e2, dn, r⟩ := h.io x d q
      exact ⟨a, vs, e, e2, dn.to fun b _ _ z => up b z, r⟩
    · cases q
    · cases q
theorem RelE.drop (h : RelE K M P H0 (E ++ B) H) : RelE K M P H0 E H := h.sub (fun x s m => .inl (List.mem_append_left _ m)) (by
  have := h.nd
  rw [oas_app] at this
  exact (List.nodup_append.mp this).1)
theorem RelE.same (h : RelE K M P H0 E H) (k : Same H H') : RelE K M P H0 E H' := by
  refine ⟨h.keep.trans (Keep.same k), fun a q z => ?_, h.mt, h.pm, fun x d m => ?_, fun x d m => ?_, fun x d m => ?_, h.nd⟩
  · have q1 := h.live a q
    cases e : H a with
    | none => exact q1 e
    | some o => rw [k a o e] at z; cases z
  · obtain ⟨v, e, dn⟩ := h.fr x d m
    exact ⟨v, e, dn.keep (Keep.same k)⟩
  · obtain ⟨a, vs, e, e2, dn, r⟩ := h.ow x d m
    exact ⟨a, vs, e, k _ _ e2, dn.keep (Keep.same k), r⟩
  · obtain ⟨a, vs, e, e2, dn, r⟩ := h.io x d m
    exact ⟨a, vs, e, k _ _ e2, dn.keep (Keep.same k), r⟩
/-- one more: a datum -/
theorem RelE.addFr (h : RelE K M P H0 E H) {v : V} {d : PyData} (dn : DN K (Nw M E) H v d) : RelE K M P H0 (E ++ [(some v, .fr d)]) H := by
  have oe : oas (E ++ [(some v, Sl.fr d)]) = oas E := by
    rw [oas_app, oas_cons]
    cases v <;> simp [own1, oas]
  have ne : Nw M (E ++ [(some v, Sl.fr d)]) = Nw M E := by unfold Nw; rw [oe]
  refine ⟨h.keep, h.live, h.mt, h.pm, fun x d' m => ?_, fun x d' m => ?_, fun x d' m => ?_, by rw [oe]; exact h.nd⟩
  · rw [ne]
    rcases List.mem_append.mp m with m | m
    · exact h.fr x d' m
    · rw [List.mem_singleton] at m
      cases m
      exact ⟨v, rfl, dn⟩
  · rw [ne]
    rcases List.mem_append.mp m with m | m
    · exact h.ow x d' m
    · rw [List.mem_singleton] at m
      cases m
  · rw [ne]
    rcases List.mem_append.mp m with m | m
    · exact h.io x d' m
    · rw [List.mem_singleton] at m
      cases m
/-- one more: an idle one -/
theorem RelE.addVw (h : RelE K M P H0 E H) {v : V} {i : Nat} : RelE K M P H0 (E ++ [(some v, .vw i)]) H := by
  refine h.sub (fun x s m => ?_) ?_
  · rcases List.mem_append.mp m with m | m
    · exact .inl m
    · rw [List.mem_singleton] at m
      cases m
      exact .inr (.inr ⟨i, rfl⟩)
  · rw [oas_app, oas_cons]
    cases v <;> simpa [own1, oas] using h.nd
/-- one more: a new list of ours -/
theorem RelE.addOw (h : RelE K M P H0 E H) {p : Addr} {vs : List V} {ds : List PyData} (hp : H p = none) (dns : DNs K (Nw M E) H vs ds) : RelE K M P H0 (E ++ [(some (.ref p), .ow ds)]) (upd H p (.lst vs)) := by
  have oe : oas (E ++ [(some (.ref p), Sl.ow ds)]) = oas E ++ [p] := by
    rw [oas_app]
    rfl
  have np : p ∉ oas E := fun z => by
    obtain ⟨vs', q, _⟩ := h.own z
    rw [hp] at q
    cases q
  have h0 : H0 p = none := by
    cases e : H0 p with
    | none => rfl
    | some o => exact absurd hp (h.live p (by rw [e]; simp))
  have up : ∀ b o, H b = some o → Nw M (E ++ [(some (.ref p), Sl.ow ds)]) b → Nw M E b := fun b o e z => by
    rcases z with z | z
    · exact .inl z
    · rw [oe] at z
      rcases List.mem_append.mp z with z | z
      · exact .inr z
      · rw [List.mem_singleton.mp z, hp] at e
        cases e
  have h' := h.same (Same.new (o := .lst vs) hp)
  refine ⟨h'.keep, h'.live, h.mt, h.pm, fun x d' m => ?_, fun x d' m => ?_, fun x d' m => ?_, ?_⟩
  · rcases List.mem_append.mp m with m | m
    · obtain ⟨v, e, dn⟩ := h.fr x d' m
      exact ⟨v, e, (dn.to up).keep (Keep.same (Same.new hp))⟩
    · rw [List.mem_singleton] at m
      cases m
  · rcases List.mem_append.mp m with m | m
    · obtain ⟨a, ws, e, e2, dn, r⟩ := h.ow x d' m
      exact ⟨a, ws, e, Same.new hp _ _ e2, (dn.to up).keep (Keep.same (Same.new hp)), r⟩
    · rw [List.mem_singleton] at m
      cases m
      exact ⟨p, vs, rfl, upd_same, (dns.to up).keep (Keep.same (Same.new hp)), h0⟩
  · rcases List.mem_append.mp m with m | m
    · obtain ⟨a, ws, e, e2, dn, r⟩ := h.io x d' m
      exact ⟨a, ws, e, Same.new hp _ _ e2, (dn.to up).keep (Keep.same (Same.new hp)), r⟩
    · rw [List.mem_singleton] at m
      cases m
  · rw [oe]
    exact List.nodup_append.mpr ⟨h.nd, by simp, fun a ha b hb => by rw [List.mem_singleton.mp hb]; exact fun z => np (z ▸ ha)⟩
/-- a list of ours is no more ours -/
theorem RelE.freeze {a : Addr} {ds : List PyData} (h : RelE K M P H0 (A ++ (some (.ref a), .ow ds) :: B) H) : RelE K M P H0 (A ++ (some (.ref a), .fr (.list ds)) :: B) H := by
  have oe : oas (A ++ (some (.ref a), Sl.ow ds) :: B) = oas A ++ a :: oas B := by rw [oas_app, oas_cons]; rfl
  have oe' : oas (A ++ (some (.ref a), Sl.fr (.list ds)) :: B) = oas A ++ oas B := by rw [oas_app, oas_cons]; rfl
  have nd := h.nd
  rw [oe] at nd
  obtain ⟨n1, n2, n3⟩ := List.nodup_append.mp nd
  obtain ⟨n4, n5⟩ := List.nodup_cons.mp n2
  have up : ∀ b, Nw M (A ++ (some (.ref a), Sl.fr (.list ds)) :: B) b → Nw M (A ++ (some (.ref a), Sl.ow ds) :: B) b := Nw.sub fun b z => by
    rw [oe'] at z
    rw [oe]
    rcases List.mem_append.mp z with z | z
    · exact List.mem_append_left _ z
    · exact List.mem_append_right _ (List.mem_cons_of_mem _ z)
  have me : (some (.ref a), Sl.ow ds) ∈ A ++ (some (.ref a), Sl.ow ds) :: B := List.mem_append_right _ List.mem_cons_self
  obtain ⟨a', vs, z, ha, dns, h0⟩ := h.ow _ _ me
  cases z
  have na : ¬ Nw M (A ++ (some (.ref a), Sl.fr (.list ds)) :: B) a := fun z => by
    rcases z with z | z
    · exact h.mt a z h0
    · rw [oe'] at z
      rcases List.mem_append.mp z with z | z
      · exact n3 a z a List.mem_cons_self rfl
      · exact n4 z
  have old : ∀ x s, (x, s) ∈ A ++ (some (.ref a), Sl.fr (.list ds)) :: B → (x, s) = (some (.ref a), Sl.fr (.list ds)) ∨ (x, s) ∈ A ++ (some (.ref a), Sl.ow ds) :: B := fun x s m => by
    rcases List.mem_append.mp m with m | m
    · exact .inr (List.mem_append_left _ m)
    · rcases List.mem_cons.mp m with m | m
      · exact .inl m
      · exact .inr (List.mem_append_right _ (List.mem_cons_of_mem _ m))
  refine ⟨h.keep, h.live, h.mt, h.pm, fun x d m => ?_, fun x d m => ?_, fun x d m => ?_, ?_⟩
  · rcases old _ _ m with m | m
    · cases m
      exact ⟨_, rfl, .lst (SnL.of ha na) (dns.to fun b _ _ z => up b z)⟩
    · obtain ⟨v, e, dn⟩ := h.fr x d m
      exact ⟨v, e, dn.to fun b _ _ z => up b z⟩
  · rcases old _ _ m with m | m
    · cases m
    · obtain ⟨b, ws, e, e2, dn, r⟩ := h.ow x d m
      exact ⟨b, ws, e, e2, dn.to fun b _ _ z => up b z, r⟩
  · rcases old _ _ m with m | m
    · cases m
    · obtain ⟨b, ws, e, e2, dn, r⟩ := h.io x d m
      exact ⟨b, ws, e, e2, dn.to fun b _ _ z => up b z, r⟩
  · rw [oe']
    exact List.nodup_append.mpr ⟨n1, n5, fun x hx y hy => n3 x hx y (List.mem_cons_of_mem _ hy)⟩
/-- what an entry that is changed may be -/
def isOw : Sl → List PyData → Sl → Prop
  | .ow _, ds', s' => s' = .ow ds'
  | .io _, ds', s' => s' = .io ds'
  | _, _, _ => False
/-- a list of ours is changed -/
theorem RelE.mut {a : Addr} {s s' : Sl} {vs' : List V} {ds' : List PyData} (h : RelE K M P H0 (A ++ (some (.ref a), s) :: B) H) (hs : isOw s ds' s') (dns : DNs K (Nw M (A ++ (some (.ref a), s) :: B)) H vs' ds') :
    RelE K M P H0 (A ++ (some (.ref a), s') :: B) (upd H a (.lst vs')) := by
  have oa : own1 (some (.ref a), s) = some a ∧ own1 (some (.ref a), s') = some a := by
    cases s <;> first | exact hs.elim | (cases hs; exact ⟨rfl, rfl⟩)
  have oe : oas (A ++ (some (.ref a), s) :: B) = oas A ++ a :: oas B := by rw [oas_app, oas_cons, oa.1]
  have oe' : oas (A ++ (some (.ref a), s') :: B) = oas A ++ a :: oas B := by rw [oas_app, oas_cons, oa.2]
  have ne : Nw M (A ++ (some (.ref a), s') :: B) = Nw M (A ++ (some (.ref a), s) :: B) := by unfold Nw; rw [oe, oe']
  have na : Nw M (A ++ (some (.ref a), s) :: B) a := .inr (by rw [oe]; simp)
  have nd := h.nd
  rw [oe] at nd
  obtain ⟨n1, n2, n3⟩ := List.nodup_append.mp nd
  obtain ⟨n4, n5⟩ := List.nodup_cons.mp n2
  have kN : Keep (Nw M (A ++ (some (.ref a), s) :: B)) H (upd H a (.lst vs')) := Keep.own na
  obtain ⟨ws, hw, hP⟩ := h.own (a := a) (by rw [oe]; simp)
  -- another entry that is ours lies elsewhere
  have other : ∀ x t b, (x, t) ∈ A ∨ (x, t) ∈ B → own1 (x, t) = some b → b ≠ a := fun x t b m eo z => by
    subst z
    rcases m with m | m
    · exact n3 b (mem_oas.mpr ⟨_, m, eo⟩) b List.mem_cons_self rfl
    · exact n4 (mem_oas.mpr ⟨_, m, eo⟩)
  have old : ∀ x t, (x, t) ∈ A ++ (some (.ref a), s') :: B → (x, t) = (some (.ref a), s') ∨ ((x, t) ∈ A ∨ (x, t) ∈ B) := fun x t m => by
    rcases List.mem_append.mp m with m | m
    · exact .inr (.inl m)
    · rcases List.mem_cons.mp m with m | m
      · exact .inl m
      · exact .inr (.inr m)
  have back : ∀ x t, (x, t) ∈ A ∨ (x, t) ∈ B → (x, t) ∈ A ++ (some (.ref a), s) :: B := fun x t m => by
    rcases m with m | m
    · exact List.mem_append_left _ m
    · exact List.mem_append_right _ (List.mem_cons_of_mem _ m)
  have me : (some (.ref a), s) ∈ A ++ (some (.ref a), s) :: B := List.mem_append_right _ List.mem_cons_self
  refine ⟨?_, fun b q z => ?_, h.mt, h.pm, fun x d m => ?_, fun x d m => ?_, fun x d m => ?_, by rw [oe']; exact nd⟩
  · rcases hP with q | q
    · exact h.keep.put q
    · exact h.keep.trans (Keep.own q)
  · have q1 := h.live b q
    by_cases hb : b = a
    · subst hb; rw [upd_same] at z; cases z
    · rw [upd_ne hb] at z; exact q1 z
  · rw [ne]
    rcases old _ _ m with m | m
    · cases s <;> first | exact hs.elim | (have hs : s' = _ := hs; rw [hs] at m; cases m)
    · obtain ⟨v, e, dn⟩ := h.fr x d (back _ _ m)
      exact ⟨v, e, dn.keep kN⟩
  · rw [ne]
    rcases old _ _ m with m | m
    · cases s with
      | ow ds =>
        have hs : s' = _ := hs
        rw [hs] at m
        cases m
        obtain ⟨b, us, e, e2, dn, r⟩ := h.ow _ _ me
        cases e
        exact ⟨a, vs', rfl, upd_same, dns.keep kN, r⟩
      | io ds => have hs : s' = _ := hs; rw [hs] at m; cases m
      | _ => exact hs.elim
    · obtain ⟨b, us, e, e2, dn, r⟩ := h.ow x d (back _ _ m)
      subst e
      exact ⟨b, us, rfl, by rw [upd_ne (other _ _ b m rfl)]; exact e2, dn.keep kN, r⟩
  · rw [ne]
    rcases old _ _ m with m | m
    · cases s with
      | io ds =>
        have hs : s' = _ := hs
        rw [hs] at m
        cases m
        obtain ⟨b, us, e, e2, dn, r⟩ := h.io _ _ me
        cases e
        exact ⟨a, vs', rfl, upd_same, dns.keep kN, r⟩
      | ow ds => have hs : s' = _ := hs; rw [hs] at m; cases m
      | _ => exact hs.elim
    · obtain ⟨b, us, e, e2, dn, r⟩ := h.io x d (back _ _ m)
      subst e
      exact ⟨b, us, rfl, by rw [upd_ne (other _ _ b m rfl)]; exact e2, dn.keep kN, r⟩
/-- a temporary goes into a slot -/
theorem RelE.move {t : Ent} (h : RelE K M P H0 (A ++ e :: (B ++ [t])) H) : RelE K M P H0 (A ++ t :: B) H := by
  refine h.sub (fun x s m => .inl ?_) ?_
  · rcases List.mem_append.mp m with m | m
    · exact List.mem_append_left _ m
    · rcases List.mem_cons.mp m with m | m
      · exact List.mem_append_right _ (List.mem_cons_of_mem _ (List.mem_append_right _ (by rw [m]; simp)))
      · exact List.mem_append_right _ (List.mem_cons_of_mem _ (List.mem_append_left _ m))
  · have nd := h.nd
    have eq1 : oas (A ++ e :: (B ++ [t])) = oas A ++ (oas [e] ++ (oas B ++ oas [t])) := by
      rw [oas_app, show e :: (B ++ [t]) = [e] ++ (B ++ [t]) from rfl, oas_app, oas_app]
    have eq2 : oas (A ++ t :: B) = oas A ++ (oas [t] ++ oas B) := by
      rw [oas_app, show t :: B = [t] ++ B from rfl, oas_app]
    rw [eq1] at nd
    rw [eq2]
    obtain ⟨n1, n2, n3⟩ := List.nodup_append.mp nd
    obtain ⟨_, n4, _⟩ := List.nodup_append.mp n2
    obtain ⟨n5, n6, n7⟩ := List.nodup_append.mp n4
    refine List.nodup_append.mpr ⟨n1, List.nodup_append.mpr ⟨n6, n5, fun x hx y hy z => n7 y hy x hx z.symm⟩, fun x hx y hy => ?_⟩
    refine n3 x hx y (List.mem_append_right _ ?_)
    rcases List.mem_append.mp hy with hy | hy
    · exact List.mem_append_right _ hy
    · exact List.mem_append_left _ hy
/-- an entry is forgotten -/
theorem RelE.kill {x : Option V} {s : Sl} (h : RelE K M P H0 (A ++ (x, s) :: B) H) {y : Option V} : RelE K M P H0 (A ++ (y, .un) :: B) H := by
  refine h.sub (fun x' s' m => ?_) ?_
  · rcases List.mem_append.mp m with m | m
    · exact .inl (List.mem_append_left _ m)
    · rcases List.mem_cons.mp m with m | m
      · cases m; exact .inr (.inl rfl)
      · exact .inl (List.mem_append_right _ (List.mem_cons_of_mem _ m))
  · have nd := h.nd
    have eq1 : oas (A ++ (x, s) :: B) = oas A ++ (oas [(x, s)] ++ oas B) := by
      rw [oas_app, show (x, s) :: B = [(x, s)] ++ B from rfl, oas_app]
    have eq2 : oas (A ++ (y, .un) :: B) = oas A ++ oas B := by
      rw [oas_app, oas_cons]
      cases y with
      | none => rfl
      | some v => cases v <;> rfl
    rw [eq1] at nd
    rw [eq2]
    obtain ⟨n1, n2, n3⟩ := List.nodup_append.mp nd
    obtain ⟨_, n4, _⟩ := List.nodup_append.mp n2
    exact List.nodup_append.mpr ⟨n1, n4, fun a ha b hb => n3 a ha b (List.mem_append_right _ hb)⟩
end
end L2
set_option Elab.async false
set_option linter.all false
set_option maxRecDepth 100000
set_option maxHeartbeats 4000000
namespace L2
open PySem PySem.Spec PyProof.Rows
structure Rel (K : PySem.W.Frag) (M P : Addr → Prop) (H0 : Hp) (σ0 σ : St) (env : List Sl) (ts : List (V × Sl)) (H : Hp) : Prop where
  e : RelE K M P H0 (ents σ env ts) H
  len : σ.length = env.length
  vw : ∀ (v : V) (i : Nat), (v, Sl.vw i) ∈ ts → σ[i]? = some (some v)
  ios : ∀ (i : Nat) (ds : List PyData), env[i]? = some (Sl.io ds) → σ[i]? = σ0[i]?
/-- what a value shows: a datum, or a list of ours -/
inductive Vw (K : PySem.W.Frag) (N : Addr → Prop) (H : Hp) : V → PyData → Prop
  | dn {v d} : DN K N H v d → Vw K N H v d
  | ow {a vs ds} : H a = some (.lst vs) → DNs K N H vs ds → Vw K N H (.ref a) (.list ds)
def slD : Sl → Option PyData
  | .fr d => some d
  | .ow ds => some (.list ds)
  | .io ds => some (.list ds)
  | _ => none
def valOf (env : List Sl) : Sl → Option PyData
  | .vw i => (env[i]?).bind slD
  | .fr d => some d
  | .ow ds => some (.list ds)
  | .io ds => some (.list ds)
  | .un => none
def slK : Sl → Option PyData
  | .fr d => some d
  | _ => none
/-- what a value is that may be kept elsewhere -/
def keepOf (env : List Sl) : Sl → Option PyData
  | .vw i => (env[i]?).bind slK
  | .fr d => some d
  | .ow ds => some (.list ds)
  | _ => none
section
variable {K : PySem.W.Frag} {M P N : Addr → Prop} {H0 H H' : Hp} {σ0 σ : St} {env : List Sl} {ts tt : List (V × Sl)} {v : V} {s : Sl} {d : PyData}
theorem ents_app : ents σ env (ts ++ tt) = ents σ env ts ++ tmp tt := by
  unfold ents
  rw [List.append_assoc]
  simp [tmp]
theorem Vw.dv (h : Vw K N H v d) : DV K H v d := by
  cases h with
  | dn h => exact h.dv
  | ow h q => exact .lst (SqL.of h) q.dv
theorem Vw.list {ds : List PyData} (h : Vw K N H v (.list ds)) : ∃ a vs, v = .ref a ∧ SqL K H a vs ∧ DNs K N H vs ds := by
  cases h with
  | dn h => obtain ⟨a, vs, e, s, q⟩ := h.list; exact ⟨a, vs, e, s.sq, q⟩
  | ow h q => exact ⟨_, _, rfl, SqL.of h, q⟩
theorem Vw.tuple {ds : List PyData} (h : Vw K N H v (.tuple ds)) : ∃ a vs, v = .ref a ∧ SqT K H a vs ∧ DNs K N H vs ds := by
  cases h with
  | dn h => obtain ⟨a, vs, e, s, q⟩ := h.tuple; exact ⟨a, vs, e, s.sq, q⟩
theorem Vw.int {i : Int} (h : Vw K N H v (.int i)) : v = .int i := by
  cases h with
  | dn h => cases h; rfl
theorem Vw.bool {i : Bool} (h : Vw K N H v (.bool i)) : v = .bl i := by
  cases h with
  | dn h => cases h; rfl
theorem Vw.none (h : Vw K N H v .none) : v = .non := by
  cases h with
  | dn h => cases h; rfl
theorem Vw.str {i : Str} (h : Vw K N H v (.str i)) : v = .str i := by
  cases h with
  | dn h => cases h; rfl
theorem zip_at (h : σ.length = env.length) {i : Nat} (e : env[i]? = some s) : ∃ x, σ[i]? = some x ∧ (x, s) ∈ σ.zip env := by
  have hi : i < env.length := (List.getElem?_eq_some_iff.mp e).1
  have hj : i < σ.length := by omega
  refine ⟨σ[i], List.getElem?_eq_getElem hj, ?_⟩
  have hz : i < (σ.zip env).length := by rw [List.length_zip]; omega
  have := List.getElem_mem hz
  rw [List.getElem_zip] at this
  rwa [(List.getElem?_eq_some_iff.mp e).2] at this
theorem mem_tmp (m : (v, s) ∈ ts) : ((some v, s) : Ent) ∈ ents σ env ts := List.mem_append_right _ (List.mem_map.mpr ⟨(v, s), m, rfl⟩)
theorem Rel.slot (h : Rel K M P H0 σ0 σ env ts H) {i : Nat} (e : env[i]? = some s) : ∃ x, σ[i]? = some x ∧ (x, s) ∈ ents σ env ts := by
  obtain ⟨x, e1, m⟩ := zip_at h.len e
  exact ⟨x, e1, List.mem_append_left _ m⟩
theorem RelE.viewE {E : List Ent} (h : RelE K M P H0 E H) {x : Option V} (m : (x, s) ∈ E) (e : slD s = some d) : ∃ v, x = some v ∧ Vw K (Nw M E) H v d := by
  cases s with
  | fr d' =>
    cases e
    obtain ⟨v, e1, dn⟩ := h.fr _ _ m
    exact ⟨v, e1, .dn dn⟩
  | ow ds =>
    cases e
    obtain ⟨a, vs, e1, e2, dn, _⟩ := h.ow _ _ m
    exact ⟨_, e1, .ow e2 dn⟩
  | io ds =>
    cases e
    obtain ⟨a, vs, e1, e2, dn, _⟩ := h.io _ _ m
    exact ⟨_, e1, .ow e2 dn⟩
  | un => cases e
  | vw i => cases e
/-- a slot that bears something has a value -/
theorem Rel.there (h : Rel K M P H0 σ0 σ env ts H) {i : Nat} (e : (env[i]?).bind slD = some d) : ∃ v, σ[i]? = some (some v) ∧ Vw K (Nw M (ents σ env ts)) H v d := by
  cases q : env[i]? with
  | none => rw [q] at e; cases e
  | some s =>
    rw [q] at e
    obtain ⟨x, e1, m⟩ := h.slot q
    obtain ⟨v, e2, w⟩ := h.e.viewE m e
    exact ⟨v, by rw [e1, e2], w⟩
theorem Rel.view (h : Rel K M P H0 σ0 σ env ts H) (m : (v, s) ∈ ts) (e : valOf env s = some d) : Vw K (Nw M (ents σ env ts)) H v d := by
  cases s with
  | vw i =>
    obtain ⟨w, e1, q⟩ := h.there e
    rw [h.vw v i m] at e1
    cases e1
    exact q
  | un => cases e
  | fr d' => obtain ⟨w, e1, q⟩ := h.e.viewE (mem_tmp m) e; cases e1; exact q
  | ow d' => obtain ⟨w, e1, q⟩ := h.e.viewE (mem_tmp m) e; cases e1; exact q
  | io d' => obtain ⟨w, e1, q⟩ := h.e.viewE (mem_tmp m) e; cases e1; exact q
theorem nw_app {E B : List Ent} {b : Addr} (h : Nw M E b) : Nw M (E ++ B) b := by
  rcases h with h | h
  · exact .inl h
  · exact .inr (by rw [oas_app]; exact List.mem_append_left _ h)
/-- temporaries go -/
theorem Rel.drop (h : Rel K M P H0 σ0 σ env (ts ++ tt) H) : Rel K M P H0 σ0 σ env ts H :=
  ⟨by have := h.e; rw [ents_app] at this; exact this.drop, h.len, fun v i m => h.vw v i (List.mem_append_left _ m), h.ios⟩
theorem Rel.same (h : Rel K M P H0 σ0 σ env ts H) (k : Same H H') : Rel K M P H0 σ0 σ env ts H' := ⟨h.e.same k, h.len, h.vw, h.ios⟩
theorem Rel.addFr (h : Rel K M P H0 σ0 σ env ts H) (dn : DN K (Nw M (ents σ env ts)) H v d) : Rel K M P H0 σ0 σ env (ts ++ [(v, .fr d)]) H :=
  ⟨by rw [ents_app]; exact h.e.addFr dn, h.len, (fun w i m => by
    rcases List.mem_append.mp m with m | m
    · exact h.vw w i m
    · rw [List.mem_singleton] at m; cases m), h.ios⟩
theorem Rel.addVw (h : Rel K M P H0 σ0 σ env ts H) {i : Nat} (e : σ[i]? = some (some v)) : Rel K M P H0 σ0 σ env (ts ++ [(v, .vw i)]) H :=
  ⟨by rw [ents_app]; exact h.e.addVw, h.len, (fun w i m => by
    rcases List.mem_append.mp m with m | m
    · exact h.vw w i m
    · rw [List.mem_singleton] at m; cases m; exact e), h.ios⟩
theorem Rel.addOw (h : Rel K M P H0 σ0 σ env ts H) {p : Addr} {vs : List V} {ds : List PyData} (hp : H p = none) (dns : DNs K (Nw M (ents σ env ts)) H vs ds) : Rel K M P H0 σ0 σ env (ts ++ [(.ref p, .ow ds)]) (upd H p (.lst vs)) :=
  ⟨by rw [ents_app]; exact h.e.addOw hp dns, h.len, (fun w i m => by
    rcases List.mem_append.mp m with m | m
    · exact h.vw w i m
    · rw [List.mem_singleton] at m; cases m), h.ios⟩
/-- the operands go, the value comes -/
theorem Rel.res (h : Rel K M P H0 σ0 σ env (ts ++ tt) H) (k : Same H H') (dn : DN K (Nw M (ents σ env (ts ++ tt))) H' v d) : Rel K M P H0 σ0 σ env (ts ++ [(v, .fr d)]) H' :=
  (h.drop.same k).addFr (dn.to fun b _ _ z => by rw [ents_app]; exact nw_app z)
theorem Rel.resOw (h : Rel K M P H0 σ0 σ env (ts ++ tt) H) {p : Addr} {vs : List V} {ds : List PyData} (hp : H p = none) (dns : DNs K (Nw M (ents σ env (ts ++ tt))) H vs ds) : Rel K M P H0 σ0 σ env (ts ++ [(.ref p, .ow ds)]) (upd H p (.lst vs)) :=
  h.drop.addOw hp (dns.to fun b _ _ z => by rw [ents_app]; exact nw_app z)
end
/-! ### readings over data -/
abbrev DE := List Sl → (Sl → List Sl → Prop) → Prop
abbrev DT := List Sl → (Bool → List Sl → Prop) → Prop
abbrev DA := List Sl → (List Sl → List Sl → Prop) → Prop
def up (K : PySem.W.Frag) (t : DE) : TE := fun σ H Q => ∃ (M P : Addr → Prop) (H0 : Hp) (σ0 : St) (env : List Sl) (ts : List (V × Sl)) (R : Sl → List Sl → Prop), Rel K M P H0 σ0 σ env ts H ∧ t env R ∧
  ∀ s env' v H', R s env' → Rel K M P H0 σ0 σ env' (ts ++ [(v, s)]) H' → Q v H'
def upT (K : PySem.W.Frag) (t : DT) : TT := fun σ H Q => ∃ (M P : Addr → Prop) (H0 : Hp) (σ0 : St) (env : List Sl) (ts : List (V × Sl)) (R : Bool → List Sl → Prop), Rel K M P H0 σ0 σ env ts H ∧ t env R ∧
  ∀ b env' H', R b env' → Rel K M P H0 σ0 σ env' ts H' → Q b H'
def upA (K : PySem.W.Frag) (t : DA) : TA := fun σ H Q => ∃ (M P : Addr → Prop) (H0 : Hp) (σ0 : St) (env : List Sl) (ts : List (V × Sl)) (R : List Sl → List Sl → Prop), Rel K M P H0 σ0 σ env ts H ∧ t env R ∧
  ∀ ss env' vs H', R ss env' → vs.length = ss.length → Rel K M P H0 σ0 σ env' (ts ++ vs.zip ss) H' → Q vs H'
theorem PE.imp {X : Cx} {e : Expr} {t t' : TE} (h : PE X e t) (k : ∀ σ H Q, t' σ H Q → t σ H Q) : PE X e t' := fun pins s σ H Q I hw => h pins s σ H Q I (k σ H Q hw)
theorem PT.imp {X : Cx} {e : Expr} {t t' : TT} (h : PT X e t) (k : ∀ σ H Q, t' σ H Q → t σ H Q) : PT X e t' := fun pins s σ H Q I hw => h pins s σ H Q I (k σ H Q hw)
theorem PW.imp {X : Cx} {e : Expr} {t t' : TT} (h : PW X e t) (k : ∀ σ H Q, t' σ H Q → t σ H Q) : PW X e t' := fun wh pins s σ H Q I hw => h wh pins s σ H Q I (k σ H Q hw)
theorem PA.imp {X : Cx} {e : List Expr} {t t' : TA} (h : PA X e t) (k : ∀ σ H Q, t' σ H Q → t σ H Q) : PA X e t' := fun pos pins s σ H Q I hw => h pos pins s σ H Q I (k σ H Q hw)
section
variable {X : Cx} {K : PySem.W.Frag} {pos : Pos} {a b c : Expr} {ta tb tc : DE} {es : List Expr} {tA tB' : DT} {tl : DA}
/-! names and constants -/
def dVar (i : Nat) : DE := fun env R => ∃ d, (env[i]?).bind slD = some d ∧ R (.vw i) env
theorem qv (i : Nat) {x : Str} (hN : X.N[i]? = some x := by rfl) (hv : Vis X.env.scope x := by first | exact Or.inl rfl | exact Or.inr (Or.inl rfl) | exact Or.inr (Or.inr rfl)) (hd : (x == ("__debug__" : Str)) = false := by decide)
    (hcd : (x == ("__classdict__" : Str)) = false := by decide) : PE X (.Name x pos) (up K (dVar i)) := (pe_var hN hv hd hcd).imp fun σ H Q h => by
  obtain ⟨M, P, H0, σ0, env, ts, R, rel, ⟨d, e, hR⟩, hq⟩ := h
  obtain ⟨v, e1, _⟩ := rel.there e
  exact ⟨v, e1, hq _ _ _ _ hR (rel.addVw e1)⟩
theorem mem_split {α : Type} : ∀ {l : List α} {i : Nat} {x : α}, l[i]? = some x → ∃ A B, l = A ++ x :: B ∧ ∀ y, l.set i y = A ++ y :: B
  | [], i, x, h => by simp at h
  | z :: l, 0, x, h => by
    simp at h
    subst h
    exact ⟨[], l, rfl, fun y => rfl⟩
  | z :: l, i + 1, x, h => by
    obtain ⟨A, B, e1, e2⟩ := mem_split (l := l) (i := i) (x := x) (by simpa using h)
    exact ⟨z :: A, B, by rw [e1]; rfl, fun y => by rw [List.set_cons_succ, e2 y]; rfl⟩
theorem zip_get {α β : Type} (l : List α) (m : List β) (j : Nat) : (l.zip m)[j]? = (l[j]?).bind fun a => (m[j]?).map fun b => (a, b) := by
  rw [List.zip, List.getElem?_zipWith]
  cases l[j]? <;> cases m[j]? <;> rfl
theorem zip_set {σ : St} {env : List Sl} {i : Nat} {x : Option V} {s' : Sl} (h : σ[i]? = some x) : σ.zip (env.set i s') = (σ.zip env).set i (x, s') := by
  apply List.ext_getElem?
  intro j
  by_cases hj : i = j
  · subst hj
    rw [List.getElem?_set_self', zip_get, zip_get, h]
    by_cases hi : i < env.length
    · rw [List.getElem?_set_self hi, List.getElem?_eq_getElem hi]
      rfl
    · rw [List.getElem?_eq_none (by simp; omega), List.getElem?_eq_none (by omega)]
      rfl
  · rw [List.getElem?_set_ne hj, zip_get, zip_get, List.getElem?_set_ne hj]
/-- a slot's entry amid all -/
theorem Rel.split {M P : Addr → Prop} {H0 H : Hp} {σ0 σ : St} {env : List Sl} {ts : List (V × Sl)} {i : Nat} {s : Sl} (h : Rel K M P H0 σ0 σ env ts H) (e : env[i]? = some s) :
    ∃ x A B, σ[i]? = some x ∧ ents σ env ts = A ++ (x, s) :: B ∧ ∀ s', ents σ (env.set i s') ts = A ++ (x, s') :: B := by
  obtain ⟨x, e1, m⟩ := zip_at h.len e
  have ez : (σ.zip env)[i]? = some (x, s) := by rw [List.zip, List.getElem?_zipWith, e1, e]
  obtain ⟨A, B, q1, q2⟩ := mem_split ez
  refine ⟨x, A, B ++ tmp ts, e1, by unfold ents; rw [q1]; simp, fun s' => ?_⟩
  unfold ents
  rw [zip_set e1, q2]
  simp
def dFrz (i : Nat) : DE := fun env R => match env[i]? with
  | some (.fr d) => R (.fr d) env
  | some (.ow ds) => R (.fr (.list ds)) (env.set i (.fr (.list ds)))
  | _ => False
/-- a list of ours in a slot is no more ours -/
theorem Rel.frz {M P : Addr → Prop} {H0 H : Hp} {σ0 σ : St} {env : List Sl} {ts : List (V × Sl)} {i : Nat} {ds : List PyData} (h : Rel K M P H0 σ0 σ env ts H) (e : env[i]? = some (.ow ds)) : Rel K M P H0 σ0 σ (env.set i (.fr (.list ds))) ts H := by
  obtain ⟨x, A, B, e1, q1, q2⟩ := h.split e
  have r := h.e
  rw [q1] at r
  obtain ⟨a, vs, z, _⟩ := r.ow _ _ (List.mem_append_right _ List.mem_cons_self)
  subst z
  refine ⟨by rw [q2]; exact r.freeze, by simp [h.len], h.vw, fun j ds' e' => ?_⟩
  by_cases hj : i = j
  · subst hj
    have hi : i < env.length := (List.getElem?_eq_some_iff.mp e).1
    rw [List.getElem?_set_self hi] at e'
    cases e'
  · rw [List.getElem?_set_ne hj] at e'
    exact h.ios j ds' e'
theorem qf (i : Nat) {x : Str} (hN : X.N[i]? = some x := by rfl) (hv : Vis X.env.scope x := by first | exact Or.inl rfl | exact Or.inr (Or.inl rfl) | exact Or.inr (Or.inr rfl)) (hd : (x == ("__debug__" : Str)) = false := by decide)
    (hcd : (x == ("__classdict__" : Str)) = false := by decide) : PE X (.Name x pos) (up K (dFrz i)) := (pe_var hN hv hd hcd).imp fun σ H Q h => by
  obtain ⟨M, P, H0, σ0, env, ts, R, rel, ht, hq⟩ := h
  have key : ∀ env' d, Rel K M P H0 σ0 σ env' ts H → env'[i]? = some (.fr d) → R (.fr d) env' → tVar i σ H Q := fun env' d rel' e' hR => by
    obtain ⟨x', e1, m⟩ := rel'.slot e'
    obtain ⟨v, e2, dn⟩ := rel'.e.fr _ _ m
    subst e2
    exact ⟨v, e1, hq _ _ _ _ hR (rel'.addFr dn)⟩
  unfold dFrz at ht
  split at ht
  · rename_i d e
    exact key env d rel e ht
  · rename_i ds e
    have hi : i < env.length := (List.getElem?_eq_some_iff.mp e).1
    exact key _ _ (rel.frz e) (List.getElem?_set_self hi) ht
  · exact ht.elim
def dC (d : PyData) : DE := fun env R => R (.fr d) env
theorem q_int {i j} : PE X (.Constant (.int i) j pos) (up K (dC (.int i))) := pe_int.imp fun σ H Q h => by
  obtain ⟨M, P, H0, σ0, env, ts, R, rel, ht, hq⟩ := h
  exact hq _ _ _ _ ht (rel.addFr (.int i))
theorem q_bl {i j} : PE X (.Constant (.bool i) j pos) (up K (dC (.bool i))) := pe_bl.imp fun σ H Q h => by
  obtain ⟨M, P, H0, σ0, env, ts, R, rel, ht, hq⟩ := h
  exact hq _ _ _ _ ht (rel.addFr (.bl i))
theorem q_non {j} : PE X (.Constant .none j pos) (up K (dC .none)) := pe_non.imp fun σ H Q h => by
  obtain ⟨M, P, H0, σ0, env, ts, R, rel, ht, hq⟩ := h
  exact hq _ _ _ _ ht (rel.addFr .non)
theorem q_str {i j} : PE X (.Constant (.str i) j pos) (up K (dC (.str i))) := pe_str.imp fun σ H Q h => by
  obtain ⟨M, P, H0, σ0, env, ts, R, rel, ht, hq⟩ := h
  exact hq _ _ _ _ ht (rel.addFr (.str i))
/-! two operands -/
abbrev G2 := PyData → PyData → (PyData → Prop) → Prop
def dOp (g : G2) (ta tb : DE) : DE := fun env R => ta env fun s1 env1 => tb env1 fun s2 env2 => ∃ d1 d2, valOf env2 s1 = some d1 ∧ valOf env2 s2 = some d2 ∧ g d1 d2 fun d => R (.fr d) env2
/-- a rule of the layer means g, and makes nothing new -/
def Means (K : PySem.W.Frag) (r : R2) (g : G2) : Prop := ∀ (N : Addr → Prop) (H : Hp) (x y : V) (d1 d2 : PyData) (R : PyData → Prop) (Q : VK), Vw K N H x d1 → Vw K N H y d2 → g d1 d2 R → (∀ d v, R d → DN K N H v d → Q v H) → r x y H Q
theorem op_up {r : R2} {g : G2} (m : Means K r g) : ∀ σ H Q, up K (dOp g ta tb) σ H Q → tOp r (up K ta) (up K tb) σ H Q := fun σ H Q h => by
  obtain ⟨M, P, H0, σ0, env, ts, R, rel, ht, hq⟩ := h
  refine ⟨M, P, H0, σ0, env, ts, _, rel, ht, fun s1 env1 v1 H1 h1 rel1 => ⟨M, P, H0, σ0, env1, ts ++ [(v1, s1)], _, rel1, h1, fun s2 env2 v2 H2 h2 rel2 => ?_⟩⟩
  obtain ⟨d1, d2, e1, e2, g⟩ := h2
  refine m _ H2 v1 v2 d1 d2 _ Q (rel2.view (by simp) e1) (rel2.view (by simp) e2) g fun d v hR dn => hq _ _ _ _ hR ?_
  have rel2' : Rel K M P H0 σ0 σ env2 (ts ++ [(v1, s1), (v2, s2)]) H2 := by simpa using rel2
  exact rel2'.res (Same.refl _) (by simpa using dn)
theorem q_op {op : Operator} {r : R2} {g : G2} (ho : OpR X (binaryOp op) r) (m : Means K r g) (ha : PE X a (up K ta)) (hb : PE X b (up K tb)) : PE X (.BinOp a op b pos) (up K (dOp g ta tb)) := (pe_op ho ha hb).imp (op_up m)
theorem q_cmp {op : CmpOp} {r : R2} {g : G2} (ho : OpR X (compareOp op) r) (m : Means K r g) (ha : PE X a (up K ta)) (hb : PE X b (up K tb)) (hm : behindInMarks op b = false) : PE X (.Compare a [op] [b] pos) (up K (dOp g ta tb)) := (pe_cmpR ho ha hb hm).imp (op_up m)
def dTest (t : DE) : DT := fun env R => t env fun s env1 => ∃ k, valOf env1 s = some (.bool k) ∧ R k env1
theorem test_up {t : TE} {td : DE} (h : ∀ σ H Q, up K td σ H Q → t σ H Q) : ∀ σ H Q, upT K (dTest td) σ H Q → tTest t σ H Q := fun σ H Q hh => by
  obtain ⟨M, P, H0, σ0, env, ts, R, rel, ht, hq⟩ := hh
  refine h σ H _ ⟨M, P, H0, σ0, env, ts, _, rel, ht, fun s1 env1 v1 H1 h1 rel1 => ?_⟩
  obtain ⟨k, e, hR⟩ := h1
  exact ⟨k, (rel1.view (by simp) e).bool, hq _ _ _ hR rel1.drop⟩
theorem qt_cmp {op : CmpOp} {r : R2} {g : G2} (ho : OpR X (compareOp op) r) (m : Means K r g) (ha : PE X a (up K ta)) (hb : PE X b (up K tb)) (hm : behindInMarks op b = false) : PT X (.Compare a [op] [b] pos) (upT K (dTest (dOp g ta tb))) := (pt_cmpR ho ha hb hm).imp (test_up (op_up m))
theorem q_ix {r : R2} {g : G2} (hr : IxR X r) (m : Means K r g) (ha : PE X a (up K ta)) (hb : PE X b (up K tb)) (hs : PlainIx b) : PE X (.Subscript a b pos) (up K (dOp g ta tb)) := (pe_ix hr ha hb hs).imp (op_up m)
/-- an expression whose value is a bool, as a test -/
theorem qt_val {e : Expr} {t : DE} (h : PE X e (up K t)) (he : ∀ whole, isTrue e X.env whole = (do let v ← whole; standAt e.pos; holding [v] (truthy v)) := by intro _; rfl) : PT X e (upT K (dTest t)) := (pt_val h he).imp (test_up fun _ _ _ h => h)
/-! and, or, not, if -/
def dAnd (t u : DT) : DT := fun env R => t env fun k env1 => if k = true then u env1 R else R false env1
def dOr (t u : DT) : DT := fun env R => t env fun k env1 => if k = true then R true env1 else u env1 R
def dNot (t : DT) : DT := fun env R => t env fun k env1 => R (!k) env1
theorem qw_and1 (ha : PT X a (upT K tA)) : PW X (.BoolOp .And [a] pos) (upT K tA) := pw_and1 ha
theorem qw_or1 (ha : PT X a (upT K tA)) : PW X (.BoolOp .Or [a] pos) (upT K tA) := pw_or1 ha
theorem qw_and (ha : PT X a (upT K tA)) (hb : PW X (.BoolOp .And (b :: es) pos) (upT K tB')) : PW X (.BoolOp .And (a :: b :: es) pos) (upT K (dAnd tA tB')) := (pw_and ha hb).imp fun σ H Q h => by
  obtain ⟨M, P, H0, σ0, env, ts, R, rel, ht, hq⟩ := h
  refine ⟨M, P, H0, σ0, env, ts, _, rel, ht, fun k env1 H1 h1 rel1 => ?_⟩
  cases k with
  | true => exact ⟨M, P, H0, σ0, env1, ts, R, rel1, h1, hq⟩
  | false => exact hq _ _ _ h1 rel1
theorem qw_or (ha : PT X a (upT K tA)) (hb : PW X (.BoolOp .Or (b :: es) pos) (upT K tB')) : PW X (.BoolOp .Or (a :: b :: es) pos) (upT K (dOr tA tB')) := (pw_or ha hb).imp fun σ H Q h => by
  obtain ⟨M, P, H0, σ0, env, ts, R, rel, ht, hq⟩ := h
  refine ⟨M, P, H0, σ0, env, ts, _, rel, ht, fun k env1 H1 h1 rel1 => ?_⟩
  cases k with
  | false => exact ⟨M, P, H0, σ0, env1, ts, R, rel1, h1, hq⟩
  | true => exact hq _ _ _ h1 rel1
theorem qt_not (ha : PT X a (upT K tA)) : PT X (.UnaryOp .Not a pos) (upT K (dNot tA)) := (pt_not ha).imp fun σ H Q h => by
  obtain ⟨M, P, H0, σ0, env, ts, R, rel, ht, hq⟩ := h
  exact ⟨M, P, H0, σ0, env, ts, _, rel, ht, fun k env1 H1 h1 rel1 => hq _ _ _ h1 rel1⟩
def dAndV (t u : DE) : DE := fun env R => t env fun s env1 => ∃ k, valOf env1 s = some (.bool k) ∧ if k = true then u env1 R else R (.fr (.bool false)) env1
def dOrV (t u : DE) : DE := fun env R => t env fun s env1 => ∃ k, valOf env1 s = some (.bool k) ∧ if k = true then R (.fr (.bool true)) env1 else u env1 R
def dNotV (t : DE) : DE := fun env R => t env fun s env1 => ∃ k, valOf env1 s = some (.bool k) ∧ R (.fr (.bool (!k))) env1
theorem q_one {op} (h : PE X a (up K ta)) : PE X (.BoolOp op [a] pos) (up K ta) := pe_one h
theorem q_and (ha : PE X a (up K ta)) (hb : PE X (.BoolOp .And (b :: es) pos) (up K tb)) : PE X (.BoolOp .And (a :: b :: es) pos) (up K (dAndV ta tb)) := (pe_and ha hb).imp fun σ H Q h => by
  obtain ⟨M, P, H0, σ0, env, ts, R, rel, ht, hq⟩ := h
  refine ⟨M, P, H0, σ0, env, ts, _, rel, ht, fun s1 env1 v1 H1 h1 rel1 => ?_⟩
  obtain ⟨k, e, h1⟩ := h1
  refine ⟨k, (rel1.view (by simp) e).bool, ?_⟩
  cases k with
  | true => exact ⟨M, P, H0, σ0, env1, ts, R, rel1.drop, h1, hq⟩
  | false => exact hq _ _ _ _ h1 (rel1.drop.addFr (.bl false))
theorem q_or (ha : PE X a (up K ta)) (hb : PE X (.BoolOp .Or (b :: es) pos) (up K tb)) : PE X (.BoolOp .Or (a :: b :: es) pos) (up K (dOrV ta tb)) := (pe_or ha hb).imp fun σ H Q h => by
  obtain ⟨M, P, H0, σ0, env, ts, R, rel, ht, hq⟩ := h
  refine ⟨M, P, H0, σ0, env, ts, _, rel, ht, fun s1 env1 v1 H1 h1 rel1 => ?_⟩
  obtain ⟨k, e, h1⟩ := h1
  refine ⟨k, (rel1.view (by simp) e).bool, ?_⟩
  cases k with
  | false => exact ⟨M, P, H0, σ0, env1, ts, R, rel1.drop, h1, hq⟩
  | true => exact hq _ _ _ _ h1 (rel1.drop.addFr (.bl true))
theorem q_not (ha : PE X a (up K ta)) : PE X (.UnaryOp .Not a pos) (up K (dNotV ta)) := (pe_not ha).imp fun σ H Q h => by
  obtain ⟨M, P, H0, σ0, env, ts, R, rel, ht, hq⟩ := h
  refine ⟨M, P, H0, σ0, env, ts, _, rel, ht, fun s1 env1 v1 H1 h1 rel1 => ?_⟩
  obtain ⟨k, e, h1⟩ := h1
  exact ⟨k, (rel1.view (by simp) e).bool, hq _ _ _ _ h1 (rel1.drop.addFr (.bl _))⟩
def dIf (t : DT) (ta tb : DE) : DE := fun env R => t env fun k env1 => if k = true then ta env1 R else tb env1 R
theorem q_ifExp (hc : PT X c (upT K tA)) (ha : PE X a (up K ta)) (hb : PE X b (up K tb)) : PE X (.IfExp c a b pos) (up K (dIf tA ta tb)) := (pe_ifExp hc ha hb).imp fun σ H Q h => by
  obtain ⟨M, P, H0, σ0, env, ts, R, rel, ht, hq⟩ := h
  refine ⟨M, P, H0, σ0, env, ts, _, rel, ht, fun k env1 H1 h1 rel1 => ?_⟩
  cases k with
  | true => exact ⟨M, P, H0, σ0, env1, ts, R, rel1, h1, hq⟩
  | false => exact ⟨M, P, H0, σ0, env1, ts, R, rel1, h1, hq⟩
/-- a op1 b op2 c -/
def dChain (g g' : G2) (ta tb tc : DE) : DE := fun env R => ta env fun s1 env1 => tb env1 fun s2 env2 => ∃ d1 d2, valOf env2 s1 = some d1 ∧ valOf env2 s2 = some d2 ∧ g d1 d2 fun d => ∃ k, d = .bool k ∧
  if k = true then tc env2 fun s3 env3 => ∃ d2' d3, valOf env3 s2 = some d2' ∧ valOf env3 s3 = some d3 ∧ g' d2' d3 fun d' => R (.fr d') env3 else R (.fr (.bool false)) env2
theorem chain_up {r r' : R2} {g g' : G2} (m : Means K r g) (m' : Means K r' g') : ∀ σ H Q, up K (dChain g g' ta tb tc) σ H Q → tChain r r' (up K ta) (up K tb) (up K tc) σ H Q := fun σ H Q h => by
  obtain ⟨M, P, H0, σ0, env, ts, R, rel, ht, hq⟩ := h
  refine ⟨M, P, H0, σ0, env, ts, _, rel, ht, fun s1 env1 v1 H1 h1 rel1 => ⟨M, P, H0, σ0, env1, ts ++ [(v1, s1)], _, rel1, h1, fun s2 env2 v2 H2 h2 rel2 => ?_⟩⟩
  obtain ⟨d1, d2, e1, e2, g⟩ := h2
  have rel2' : Rel K M P H0 σ0 σ env2 (ts ++ [(v1, s1), (v2, s2)]) H2 := by simpa using rel2
  refine m _ H2 v1 v2 d1 d2 _ _ (rel2.view (by simp) e1) (rel2.view (by simp) e2) g fun d v hR dn => ?_
  obtain ⟨k, rfl, hR⟩ := hR
  cases dn
  refine ⟨k, rfl, ?_⟩
  cases k with
  | false => exact hq _ _ _ _ hR (rel2'.drop.addFr (.bl false))
  | true =>
    refine ⟨M, P, H0, σ0, env2, ts ++ [(v1, s1), (v2, s2)], _, rel2', hR, fun s3 env3 v3 H3 h3 rel3 => ?_⟩
    obtain ⟨d2', d3, e2', e3, g'⟩ := h3
    refine m' _ H3 v2 v3 d2' d3 _ Q (rel3.view (by simp) e2') (rel3.view (by simp) e3) g' fun d v hR dn => hq _ _ _ _ hR ?_
    have rel3' : Rel K M P H0 σ0 σ env3 (ts ++ [(v1, s1), (v2, s2), (v3, s3)]) H3 := by simpa using rel3
    exact rel3'.res (Same.refl _) (by simpa using dn)
theorem q_chain {op op' : CmpOp} {r r' : R2} {g g' : G2} (ho : OpR X (compareOp op) r) (m : Means K r g) (ho' : OpR X (compareOp op') r') (m' : Means K r' g') (ha : PE X a (up K ta)) (hb : PE X b (up K tb)) (hc : PE X c (up K tc))
    (hm : lastMarks [op, op'] [b, c] = false := by with_unfolding_all rfl) : PE X (.Compare a [op, op'] [b, c] pos) (up K (dChain g g' ta tb tc)) := (pe_chain ho ho' ha hb hc hm).imp (chain_up m m')
theorem qt_chain {op op' : CmpOp} {r r' : R2} {g g' : G2} (ho : OpR X (compareOp op) r) (m : Means K r g) (ho' : OpR X (compareOp op') r') (m' : Means K r' g') (ha : PE X a (up K ta)) (hb : PE X b (up K tb)) (hc : PE X c (up K tc))
    (hm : lastMarks [op, op'] [b, c] = false := by with_unfolding_all rfl) : PT X (.Compare a [op, op'] [b, c] pos) (upT K (dTest (dChain g g' ta tb tc))) := (pt_chain ho ho' ha hb hc hm).imp (test_up (chain_up m m'))
/-! one operand -/
abbrev G1 := PyData → (PyData → Prop) → Prop
def dUn (g : G1) (ta : DE) : DE := fun env R => ta env fun s1 env1 => ∃ d1, valOf env1 s1 = some d1 ∧ g d1 fun d => R (.fr d) env1
theorem q_un {op : UnaryOp} {r : V → Hp → VK → Prop} {g : G1} (ho : UnR X (unaryOp op) r) (m : ∀ (N : Addr → Prop) (H : Hp) (x : V) (d1 : PyData) (R : PyData → Prop) (Q : VK), Vw K N H x d1 → g d1 R → (∀ d v, R d → DN K N H v d → Q v H) → r x H Q)
    (ha : PE X a (up K ta)) : PE X (.UnaryOp op a pos) (up K (dUn g ta)) := (pe_un ho ha).imp fun σ H Q h => by
  obtain ⟨M, P, H0, σ0, env, ts, R, rel, ht, hq⟩ := h
  refine ⟨M, P, H0, σ0, env, ts, _, rel, ht, fun s1 env1 v1 H1 h1 rel1 => ?_⟩
  obtain ⟨d1, e1, g⟩ := h1
  exact m _ H1 v1 d1 _ Q (rel1.view (by simp) e1) g fun d v hR dn => hq _ _ _ _ hR (rel1.res (Same.refl _) dn)
/-! argument lists -/
def dNil : DA := fun env R => R [] env
def dCons (t : DE) (u : DA) : DA := fun env R => t env fun s env1 => u env1 fun ss env2 => R (s :: ss) env2
theorem qa_nil : PA X [] (upA K dNil) := pa_nil.imp fun σ H Q h => by
  obtain ⟨M, P, H0, σ0, env, ts, R, rel, ht, hq⟩ := h
  exact hq [] env [] H ht rfl (by simpa using rel)
theorem qa_cons (ha : PE X a (up K ta)) (hr : PA X es (upA K tl)) (hs : starEach (a :: es) X.env = (false, eval a X.env) :: starEach es X.env := by rfl) : PA X (a :: es) (upA K (dCons ta tl)) := (pa_cons ha hr hs).imp fun σ H Q h => by
  obtain ⟨M, P, H0, σ0, env, ts, R, rel, ht, hq⟩ := h
  refine ⟨M, P, H0, σ0, env, ts, _, rel, ht, fun s1 env1 v1 H1 h1 rel1 => ⟨M, P, H0, σ0, env1, ts ++ [(v1, s1)], _, rel1, h1, fun ss env2 vs H2 h2 hl rel2 => ?_⟩⟩
  exact hq (s1 :: ss) env2 (v1 :: vs) H2 h2 (by simp [hl]) (by simpa using rel2)
end
end L2
set_option Elab.async false
set_option linter.all false
set_option maxRecDepth 100000
set_option maxHeartbeats 4000000
namespace L2
open PySem PySem.Spec PyProof.Rows
section
variable {K : PySem.W.Frag} {M P N : Addr → Prop} {H0 H H' : Hp} {σ0 σ : St} {env : List Sl} {ts tt : List (V × Sl)} {v : V} {s : Sl} {d : PyData}
/-! ### what the layer's operations mean -/
def gI (f : Int → Int → Int) : G2 := fun d e R => ∃ i j, d = .int i ∧ e = .int j ∧ R (.int (f i j))
def gIC (C : Int → Int → Prop) (f : Int → Int → Int) : G2 := fun d e R => ∃ i j, d = .int i ∧ e = .int j ∧ C i j ∧ R (.int (f i j))
def gB (f : Int → Int → Bool) : G2 := fun d e R => ∃ i j, d = .int i ∧ e = .int j ∧ R (.bool (f i j))
theorem mI {f : Int → Int → Int} : Means K (rI0 fun i j => .int (f i j)) (gI f) := by
  rintro N H x y d e R Q w1 w2 ⟨i, j, rfl, rfl, hR⟩ hq
  exact ⟨i, j, w1.int, w2.int, hq _ _ hR (.int _)⟩
theorem mIC {C : Int → Int → Prop} {f : Int → Int → Int} : Means K (rI C fun i j => .int (f i j)) (gIC C f) := by
  rintro N H x y d e R Q w1 w2 ⟨i, j, rfl, rfl, hC, hR⟩ hq
  exact ⟨i, j, w1.int, w2.int, hC, hq _ _ hR (.int _)⟩
theorem mB {f : Int → Int → Bool} : Means K (rI0 fun i j => .bl (f i j)) (gB f) := by
  rintro N H x y d e R Q w1 w2 ⟨i, j, rfl, rfl, hR⟩ hq
  exact ⟨i, j, w1.int, w2.int, hq _ _ hR (.bl _)⟩
theorem mEqI : Means K rEq (gB fun i j => decide (i = j)) := by
  rintro N H x y d e R Q w1 w2 ⟨i, j, rfl, rfl, hR⟩ hq
  rw [w1.int, w2.int]
  refine ⟨by simp [scal], ?_⟩
  have q := hq _ _ hR (.bl _)
  rwa [show decide (V.int i = V.int j) = decide (i = j) by simp]
theorem mNeI : Means K rNe (gB fun i j => !decide (i = j)) := by
  rintro N H x y d e R Q w1 w2 ⟨i, j, rfl, rfl, hR⟩ hq
  rw [w1.int, w2.int]
  refine ⟨by simp [scal], ?_⟩
  have q := hq _ _ hR (.bl _)
  rwa [show decide (V.int i = V.int j) = decide (i = j) by simp]
def gBB (f : Bool → Bool → Bool) : G2 := fun d e R => ∃ i j, d = .bool i ∧ e = .bool j ∧ R (.bool (f i j))
theorem mEqB : Means K rEq (gBB fun i j => decide (i = j)) := by
  rintro N H x y d e R Q w1 w2 ⟨i, j, rfl, rfl, hR⟩ hq
  rw [w1.bool, w2.bool]
  refine ⟨by simp [scal], ?_⟩
  have q := hq _ _ hR (.bl _)
  rwa [show decide (V.bl i = V.bl j) = decide (i = j) by simp]
theorem mNeB : Means K rNe (gBB fun i j => !decide (i = j)) := by
  rintro N H x y d e R Q w1 w2 ⟨i, j, rfl, rfl, hR⟩ hq
  rw [w1.bool, w2.bool]
  refine ⟨by simp [scal], ?_⟩
  have q := hq _ _ hR (.bl _)
  rwa [show decide (V.bl i = V.bl j) = decide (i = j) by simp]
theorem mIsB : Means K (fun x y H Q => ∃ b c, x = .bl b ∧ y = .bl c ∧ Q (.bl (b == c)) H) (gBB fun i j => i == j) := by
  rintro N H x y d e R Q w1 w2 ⟨i, j, rfl, rfl, hR⟩ hq
  exact ⟨i, j, w1.bool, w2.bool, hq _ _ hR (.bl _)⟩
theorem mIsnB : Means K (fun x y H Q => ∃ b c, x = .bl b ∧ y = .bl c ∧ Q (.bl (b != c)) H) (gBB fun i j => i != j) := by
  rintro N H x y d e R Q w1 w2 ⟨i, j, rfl, rfl, hR⟩ hq
  exact ⟨i, j, w1.bool, w2.bool, hq _ _ hR (.bl _)⟩
def gEq : G2 := fun d e R => shp d ∧ shp e ∧ R (.bool (PyData.eqv d e))
def gNe : G2 := fun d e R => shp d ∧ shp e ∧ R (.bool (!PyData.eqv d e))
theorem mEq : Means K (rEqD K) gEq := fun N H x y d e R Q w1 w2 ⟨h1, h2, hR⟩ hq => ⟨d, e, w1.dv, w2.dv, h1, h2, hq _ _ hR (.bl _)⟩
theorem mNe : Means K (rNeD K) gNe := fun N H x y d e R Q w1 w2 ⟨h1, h2, hR⟩ hq => ⟨d, e, w1.dv, w2.dv, h1, h2, hq _ _ hR (.bl _)⟩
def isNn : PyData → Bool
  | .none => true
  | _ => false
theorem Vw.isNon (w : Vw K N H v d) : decide (v = .non) = isNn d := by
  cases w with
  | dn h => cases h <;> simp [isNn]
  | ow h q => simp [isNn]
def gIsN : G2 := fun d e R => e = .none ∧ R (.bool (isNn d))
def gNotN : G2 := fun d e R => e = .none ∧ R (.bool (!isNn d))
theorem mIsN : Means K (fun x y H Q => y = .non ∧ Q (.bl (decide (x = .non))) H) gIsN := by
  rintro N H x y d e R Q w1 w2 ⟨rfl, hR⟩ hq
  exact ⟨w2.none, by rw [w1.isNon]; exact hq _ _ hR (.bl _)⟩
theorem mNotN : Means K (fun x y H Q => y = .non ∧ Q (.bl (!decide (x = .non))) H) gNotN := by
  rintro N H x y d e R Q w1 w2 ⟨rfl, hR⟩ hq
  exact ⟨w2.none, by rw [w1.isNon]; exact hq _ _ hR (.bl _)⟩
def seqOf : PyData → Option (List PyData)
  | .list ds => some ds
  | .tuple ds => some ds
  | _ => none
def intOf : PyData → Option Int
  | .int i => some i
  | _ => none
def intsOf : List PyData → Option (List Int)
  | [] => some []
  | d :: ds => (intOf d).bind fun i => (intsOf ds).map (i :: ·)
theorem intsOf_map : ∀ ns : List Int, intsOf (ns.map .int) = some ns
  | [] => rfl
  | n :: ns => by rw [List.map_cons, intsOf, intsOf_map ns]; rfl
theorem intsOf_some : ∀ {ds : List PyData} {ns : List Int}, intsOf ds = some ns → ds = ns.map .int
  | [], ns, h => by cases h; rfl
  | d :: ds, ns, h => by
    unfold intsOf at h
    cases d <;> simp [intOf] at h
    obtain ⟨ms, h1, rfl⟩ := h
    rw [intsOf_some h1]; rfl
theorem Vw.seq {ds : List PyData} (w : Vw K N H v d) (e : seqOf d = some ds) : ∃ a vs, v = .ref a ∧ (SqL K H a vs ∨ SqT K H a vs) ∧ DNs K N H vs ds := by
  cases d <;> simp [seqOf] at e
  · subst e
    obtain ⟨a, vs, e1, s, q⟩ := w.list
    exact ⟨a, vs, e1, .inl s, q⟩
  · subst e
    obtain ⟨a, vs, e1, s, q⟩ := w.tuple
    exact ⟨a, vs, e1, .inr s, q⟩
theorem inV_ints (i : Int) (ns : List Int) : inV (.int i) (ns.map V.int) = decide (i ∈ ns) := by
  unfold inV
  induction ns with
  | nil => rfl
  | cons n r ih =>
    rw [List.map_cons, List.any_cons, ih]
    have : eqV (.int n) (.int i) = decide (n = i) := by
      by_cases h : n = i <;> simp [eqV, h]
    rw [this]
    by_cases h1 : n = i
    · simp [h1]
    · have : ¬ i = n := fun z => h1 z.symm
      simp [h1, this]
theorem flat_ints (ns : List Int) : (ns.map V.int).all flatV = true := by
  rw [List.all_eq_true]
  intro x hx
  obtain ⟨n, _, rfl⟩ := List.mem_map.mp hx
  rfl
def gIn : G2 := fun d e R => ∃ i ds ns, d = .int i ∧ seqOf e = some ds ∧ intsOf ds = some ns ∧ R (.bool (decide (i ∈ ns)))
def gNotIn : G2 := fun d e R => ∃ i ds ns, d = .int i ∧ seqOf e = some ds ∧ intsOf ds = some ns ∧ R (.bool (!decide (i ∈ ns)))
theorem mIn : Means K (rIn K false) gIn := by
  rintro N H x y d e R Q w1 w2 ⟨i, ds, ns, rfl, e1, e2, hR⟩ hq
  obtain ⟨a, vs, rfl, s, q⟩ := w2.seq e1
  rw [intsOf_some e2] at q
  rw [q.ints] at s
  rw [w1.int]
  refine ⟨a, _, rfl, s, rfl, flat_ints ns, ?_⟩
  rw [inV_ints]
  exact hq _ _ hR (.bl _)
theorem mNotIn : Means K (rIn K true) gNotIn := by
  rintro N H x y d e R Q w1 w2 ⟨i, ds, ns, rfl, e1, e2, hR⟩ hq
  obtain ⟨a, vs, rfl, s, q⟩ := w2.seq e1
  rw [intsOf_some e2] at q
  rw [q.ints] at s
  rw [w1.int]
  refine ⟨a, _, rfl, s, rfl, flat_ints ns, ?_⟩
  rw [inV_ints]
  exact hq _ _ hR (.bl _)
def gInD : G2 := fun d e R => ∃ ds, e = .list ds ∧ shp d ∧ shp e ∧ R (.bool (ds.any fun x => PyData.eqv x d))
def gNotInD : G2 := fun d e R => ∃ ds, e = .list ds ∧ shp d ∧ shp e ∧ R (.bool (!ds.any fun x => PyData.eqv x d))
theorem mInD : Means K (rInD K) gInD := by
  rintro N H x y d e R Q w1 w2 ⟨ds, rfl, h1, h2, hR⟩ hq
  exact ⟨d, ds, w1.dv, w2.dv, h1, h2, hq _ _ hR (.bl _)⟩
theorem mNotInD : Means K (rNotInD K) gNotInD := by
  rintro N H x y d e R Q w1 w2 ⟨ds, rfl, h1, h2, hR⟩ hq
  exact ⟨d, ds, w1.dv, w2.dv, h1, h2, hq _ _ hR (.bl _)⟩
/-! items -/
theorem DNs.atI {vs : List V} {ds : List PyData} {i : Int} {e : PyData} (q : DNs K N H vs ds) (h : L2.atI ds i = some e) : ∃ v, L2.atI vs i = some v ∧ DN K N H v e := by
  unfold L2.atI at h ⊢
  rw [q.len]
  cases hj : ixN ds.length i with
  | none => rw [hj] at h; cases h
  | some j =>
    rw [hj] at h
    have h : ds[j]? = some e := h
    have hlt : j < vs.length := by rw [q.len]; exact (List.getElem?_eq_some_iff.mp h).1
    obtain ⟨e', h1, h2⟩ := q.get (List.getElem?_eq_getElem hlt)
    rw [h] at h1
    cases h1
    exact ⟨vs[j], List.getElem?_eq_getElem hlt, h2⟩
def gIx : G2 := fun d e R => ∃ ds i x, seqOf d = some ds ∧ e = .int i ∧ atI ds i = some x ∧ R x
def rIxA (K : PySem.W.Frag) : R2 := fun x y H Q => rIxL K x y H Q ∨ rIxT K x y H Q
theorem ix_any {X : Cx} (hK : X.K = K) : IxR X (rIxA K) := by subst hK; exact IxR.or ix_list ix_tup
theorem mIx : Means K (rIxA K) gIx := by
  rintro N H x y d e R Q w1 w2 ⟨ds, i, z, e1, rfl, e2, hR⟩ hq
  obtain ⟨a, vs, rfl, s, q⟩ := w1.seq e1
  obtain ⟨u, e3, dn⟩ := q.atI e2
  rcases s with s | s
  · exact .inl ⟨a, vs, i, u, rfl, w2.int, s, e3, hq _ _ hR dn⟩
  · exact .inr ⟨a, vs, i, u, rfl, w2.int, s, e3, hq _ _ hR dn⟩
/-! ### calls of built-ins that make nothing new -/
inductive Vws (K : PySem.W.Frag) (N : Addr → Prop) (H : Hp) : List V → List PyData → Prop
  | nil : Vws K N H [] []
  | cons {v d vs ds} : Vw K N H v d → Vws K N H vs ds → Vws K N H (v :: vs) (d :: ds)
def valsOf (env : List Sl) : List Sl → Option (List PyData)
  | [] => some []
  | s :: ss => (valOf env s).bind fun d => (valsOf env ss).bind fun ds => some (d :: ds)
theorem Rel.views (h : Rel K M P H0 σ0 σ env ts H) : ∀ {vs : List V} {ss : List Sl} {ds : List PyData}, vs.length = ss.length → (∀ p ∈ vs.zip ss, p ∈ ts) → valsOf env ss = some ds → Vws K (Nw M (ents σ env ts)) H vs ds
  | [], [], _, _, _, e => by cases e; exact .nil
  | v :: vs, s :: ss, ds, hl, hm, e => by
    unfold valsOf at e
    cases e1 : valOf env s with
    | none => rw [e1] at e; cases e
    | some d =>
      rw [e1] at e
      cases e2 : valsOf env ss with
      | none => rw [e2] at e; cases e
      | some ds' =>
        rw [e2] at e
        cases e
        exact .cons (h.view (hm _ (by simp)) e1) (h.views (by simpa using hl) (fun p hp => hm p (by simp [hp])) e2)
  | [], _ :: _, _, hl, _, _ => by simp at hl
  | _ :: _, [], _, hl, _, _ => by simp at hl
abbrev GB := List PyData → (PyData → Prop) → Prop
def dCB (g : GB) (t : DA) : DE := fun env R => t env fun ss env1 => ∃ ds, valsOf env1 ss = some ds ∧ g ds fun d => R (.fr d) env1
def MeansB (K : PySem.W.Frag) (r : List V → Hp → VK → Prop) (g : GB) : Prop := ∀ (N : Addr → Prop) (H : Hp) (xs : List V) (ds : List PyData) (R : PyData → Prop) (Q : VK), Vws K N H xs ds → g ds R → (∀ d v, R d → DN K N H v d → Q v H) → r xs H Q
theorem cb_up {r : List V → Hp → VK → Prop} {g : GB} {tl : DA} (m : MeansB K r g) : ∀ σ H Q, up K (dCB g tl) σ H Q → tCB r (upA K tl) σ H Q := fun σ H Q h => by
  obtain ⟨M, P, H0, σ0, env, ts, R, rel, ht, hq⟩ := h
  refine ⟨M, P, H0, σ0, env, ts, _, rel, ht, fun ss env1 vs H1 h1 hl rel1 => ?_⟩
  obtain ⟨ds, e, g⟩ := h1
  exact m _ H1 vs ds _ Q (rel1.views hl (fun p hp => List.mem_append_right _ hp) e) g fun d v hR dn => hq _ _ _ _ hR (rel1.res (Same.refl _) dn)
section
variable {X : Cx} {x : Str} {p pos : Pos} {e : Expr} {es : List Expr} {tl : DA} {id T : String} {r : List V → Hp → VK → Prop} {g : GB}
theorem q_cb (hc : CallR X (.builtin id) r) (m : MeansB K r g) (hg : Gl X x) (hm : X.mg x = none) (hv : bootBuiltins x = some (.builtin id)) (ha : PA X (e :: es) (upA K tl)) (hn : x ≠ "__name__" := by decide) (hdb : (x == ("__debug__" : Str)) = false := by decide)
    (he : starEach (e :: es) X.env = (false, eval e X.env) :: starEach es X.env := by rfl) (hpl : (backTo pos (starEach es X.env)).any (·.1) = false := by rfl) : PE X (.Call (.Name x p) (e :: es) [] pos) (up K (dCB g tl)) :=
  (pe_callB hc hg hm hv ha hn hdb he hpl).imp (cb_up m)
theorem q_cty (hc : CallR X (.type T) r) (m : MeansB K r g) (hg : Gl X x) (hm : X.mg x = none) (hv : bootBuiltins x = some (.type T)) (ha : PA X (e :: es) (upA K tl)) (hn : x ≠ "__name__" := by decide) (hdb : (x == ("__debug__" : Str)) = false := by decide)
    (he : starEach (e :: es) X.env = (false, eval e X.env) :: starEach es X.env := by rfl) (hpl : (backTo pos (starEach es X.env)).any (·.1) = false := by rfl) : PE X (.Call (.Name x p) (e :: es) [] pos) (up K (dCB g tl)) :=
  (pe_callTy hc hg hm hv ha hn hdb he hpl).imp (cb_up m)
end
def gLen : GB := fun ds R => ∃ d es, ds = [d] ∧ seqOf d = some es ∧ R (.int es.length)
theorem mLen : MeansB K (fun xs H Q => ∃ p ys, xs = [.ref p] ∧ (SqL K H p ys ∨ SqT K H p ys) ∧ Q (.int ys.length) H) gLen := by
  rintro N H xs ds R Q w ⟨d, es, rfl, e1, hR⟩ hq
  cases w with
  | cons w1 w2 =>
    cases w2
    obtain ⟨a, vs, rfl, s, q⟩ := w1.seq e1
    refine ⟨a, vs, rfl, s, ?_⟩
    rw [q.len]
    exact hq _ _ hR (.int _)
def gMin : GB := fun ds R => ∃ i j, ds = [.int i, .int j] ∧ R (.int (if j < i then j else i))
def gMax : GB := fun ds R => ∃ i j, ds = [.int i, .int j] ∧ R (.int (if j > i then j else i))
theorem mMin : MeansB K (fun xs H Q => ∃ i j, xs = [.int i, .int j] ∧ Q (.int (if j < i then j else i)) H) gMin := by
  rintro N H xs ds R Q w ⟨i, j, rfl, hR⟩ hq
  cases w with
  | cons w1 w2 =>
    cases w2 with
    | cons w2 w3 =>
      cases w3
      exact ⟨i, j, by rw [w1.int, w2.int], hq _ _ hR (.int _)⟩
theorem mMax : MeansB K (fun xs H Q => ∃ i j, xs = [.int i, .int j] ∧ Q (.int (if j > i then j else i)) H) gMax := by
  rintro N H xs ds R Q w ⟨i, j, rfl, hR⟩ hq
  cases w with
  | cons w1 w2 =>
    cases w2 with
    | cons w2 w3 =>
      cases w3
      exact ⟨i, j, by rw [w1.int, w2.int], hq _ _ hR (.int _)⟩
def gAbs : GB := fun ds R => ∃ i, ds = [.int i] ∧ R (.int (if i < 0 then -i else i))
theorem mAbs : MeansB K (fun xs H Q => ∃ i, xs = [.int i] ∧ Q (.int (if i < 0 then -i else i)) H) gAbs := by
  rintro N H xs ds R Q w ⟨i, rfl, hR⟩ hq
  cases w with
  | cons w1 w2 =>
    cases w2
    exact ⟨i, by rw [w1.int], hq _ _ hR (.int _)⟩
def gInt : GB := fun ds R => (∃ i, ds = [.int i] ∧ R (.int i)) ∨ ∃ k, ds = [.bool k] ∧ R (.int (if k then 1 else 0))
theorem mInt : MeansB K (fun xs H Q => (∃ i, xs = [.int i] ∧ Q (.int i) H) ∨ ∃ k, xs = [.bl k] ∧ Q (.int (if k then 1 else 0)) H) gInt := by
  rintro N H xs ds R Q w (⟨i, rfl, hR⟩ | ⟨k, rfl, hR⟩) hq
  · cases w with
    | cons w1 w2 => cases w2; exact .inl ⟨i, by rw [w1.int], hq _ _ hR (.int _)⟩
  · cases w with
    | cons w1 w2 => cases w2; exact .inr ⟨k, by rw [w1.bool], hq _ _ hR (.int _)⟩
def boolOf : PyData → Option Bool
  | .bool i => some i
  | _ => none
def boolsOf : List PyData → Option (List Bool)
  | [] => some []
  | d :: ds => (boolOf d).bind fun i => (boolsOf ds).map (i :: ·)
theorem boolsOf_map : ∀ ns : List Bool, boolsOf (ns.map .bool) = some ns
  | [] => rfl
  | n :: ns => by rw [List.map_cons, boolsOf, boolsOf_map ns]; rfl
theorem boolsOf_some : ∀ {ds : List PyData} {ns : List Bool}, boolsOf ds = some ns → ds = ns.map .bool
  | [], ns, h => by cases h; rfl
  | d :: ds, ns, h => by
    unfold boolsOf at h
    cases d <;> simp [boolOf] at h
    obtain ⟨ms, h1, rfl⟩ := h
    rw [boolsOf_some h1]; rfl
theorem DNs.bools : ∀ {ns : List Bool} {v : List V}, DNs K N H v (ns.map .bool) → v = ns.map V.bl
  | [], _, .nil => rfl
  | n :: r, _, .cons h q => by
    cases h
    rw [q.bools]; rfl
def gAll : GB := fun ds R => ∃ es bs, ds = [.list es] ∧ boolsOf es = some bs ∧ R (.bool (bs.all id))
def gAny : GB := fun ds R => ∃ es bs, ds = [.list es] ∧ boolsOf es = some bs ∧ R (.bool (bs.any id))
theorem mAll : MeansB K (fun xs H Q => ∃ (a : Addr) (bs : List Bool), xs = [.ref a] ∧ SqL K H a (bs.map V.bl) ∧ Q (.bl (bs.all id)) H) gAll := by
  rintro N H xs ds R Q w ⟨es, bs, rfl, e1, hR⟩ hq
  cases w with
  | cons w1 w2 =>
    cases w2
    obtain ⟨a, vs, rfl, s, q⟩ := w1.list
    rw [boolsOf_some e1] at q
    rw [q.bools] at s
    exact ⟨a, bs, rfl, s, hq _ _ hR (.bl _)⟩
theorem mAny : MeansB K (fun xs H Q => ∃ (a : Addr) (bs : List Bool), xs = [.ref a] ∧ SqL K H a (bs.map V.bl) ∧ Q (.bl (bs.any id)) H) gAny := by
  rintro N H xs ds R Q w ⟨es, bs, rfl, e1, hR⟩ hq
  cases w with
  | cons w1 w2 =>
    cases w2
    obtain ⟨a, vs, rfl, s, q⟩ := w1.list
    rw [boolsOf_some e1] at q
    rw [q.bools] at s
    exact ⟨a, bs, rfl, s, hq _ _ hR (.bl _)⟩
/-! ### what is kept elsewhere -/
def keepsOf (env : List Sl) : List Sl → Option (List PyData)
  | [] => some []
  | s :: ss => (keepOf env s).bind fun d => (keepsOf env ss).bind fun ds => some (d :: ds)
theorem Rel.kept (h : Rel K M P H0 σ0 σ env (ts ++ tt) H) (m : (v, s) ∈ tt) (e : keepOf env s = some d) : DN K (Nw M (ents σ env ts)) H v d := by
  have hE := h.e
  rw [ents_app] at hE
  have sub : ∀ b, Nw M (ents σ env ts) b → Nw M (ents σ env ts ++ tmp tt) b := fun b z => nw_app z
  have mm : ((some v, s) : Ent) ∈ ents σ env ts ++ tmp tt := List.mem_append_right _ (List.mem_map.mpr ⟨(v, s), m, rfl⟩)
  cases s with
  | fr d' =>
    cases e
    obtain ⟨v', e1, dn⟩ := hE.fr _ _ mm
    cases e1
    exact dn.to fun b _ _ z => sub b z
  | ow ds =>
    cases e
    obtain ⟨a, vs, e1, e2, dn, h0⟩ := hE.ow _ _ mm
    cases e1
    refine .lst (SnL.of e2 ?_) (dn.to fun b _ _ z => sub b z)
    rintro (z | z)
    · exact hE.mt a z h0
    · have nd := hE.nd
      rw [oas_app] at nd
      exact (List.nodup_append.mp nd).2.2 a z a (mem_oas.mpr ⟨_, List.mem_map.mpr ⟨_, m, rfl⟩, rfl⟩) rfl
  | vw i =>
    have e : (env[i]?).bind slK = some d := e
    cases q : env[i]? with
    | none => rw [q] at e; cases e
    | some s' =>
      rw [q] at e
      cases s' with
      | fr d' =>
        cases e
        obtain ⟨x, e1, m1⟩ := h.slot q
        rw [ents_app] at m1
        obtain ⟨v', e2, dn⟩ := hE.fr _ _ m1
        have e3 := h.vw v i (List.mem_append_right _ m)
        rw [e1, e2] at e3
        cases e3
        exact dn.to fun b _ _ z => sub b z
      | _ => cases e
  | _ => cases e
theorem Rel.keptAll (h : Rel K M P H0 σ0 σ env (ts ++ tt) H) : ∀ {vs : List V} {ss : List Sl} {ds : List PyData}, vs.length = ss.length → (∀ p ∈ vs.zip ss, p ∈ tt) → keepsOf env ss = some ds → DNs K (Nw M (ents σ env ts)) H vs ds
  | [], [], _, _, _, e => by cases e; exact .nil
  | v :: vs, s :: ss, ds, hl, hm, e => by
    unfold keepsOf at e
    cases e1 : keepOf env s with
    | none => rw [e1] at e; cases e
    | some d =>
      rw [e1] at e
      cases e2 : keepsOf env ss with
      | none => rw [e2] at e; cases e
      | some ds' =>
        rw [e2] at e
        cases e
        exact .cons (h.kept (hm _ (by simp)) e1) (h.keptAll (by simpa using hl) (fun p hp => hm p (by simp [hp])) e2)
  | [], _ :: _, _, hl, _, _ => by simp at hl
  | _ :: _, [], _, hl, _, _ => by simp at hl
/-- a new address is none of ours -/
theorem Rel.newAddr (h : Rel K M P H0 σ0 σ env ts H) {p : Addr} (hp : H p = none) : ¬ Nw M (ents σ env ts) p := by
  rintro (z | z)
  · exact h.e.live p (h.e.mt p z) hp
  · obtain ⟨vs, q, _⟩ := h.e.own z
    rw [hp] at q
    cases q
/-- a new tuple -/
theorem Rel.resTup (h : Rel K M P H0 σ0 σ env (ts ++ tt) H) {p : Addr} {vs : List V} {ds : List PyData} (hp : H p = none) (dns : DNs K (Nw M (ents σ env ts)) H vs ds) : Rel K M P H0 σ0 σ env (ts ++ [(.ref p, .fr (.tuple ds))]) (upd H p (.tup vs)) :=
  (h.drop.same (Same.new hp)).addFr (.tup (SnT.of upd_same (h.drop.newAddr hp)) (dns.keep (Keep.same (Same.new hp))))
section
variable {X : Cx} {x : Str} {p pos : Pos} {e : Expr} {es : List Expr} {tl : DA} {id T : String}
def dTup (t : DA) : DE := fun env R => t env fun ss env1 => ∃ ds, keepsOf env1 ss = some ds ∧ ss.length ≤ sizeLine ∧ R (.fr (.tuple ds)) env1
def dLst (t : DA) : DE := fun env R => t env fun ss env1 => ∃ ds, keepsOf env1 ss = some ds ∧ ss.length ≤ sizeLine ∧ R (.ow ds) env1
theorem q_tup {x1} (h : PA X es (upA K tl)) : PE X (.Tuple es x1 pos) (up K (dTup tl)) := (pe_tup h).imp fun σ H Q h => by
  obtain ⟨M, P, H0, σ0, env, ts, R, rel, ht, hq⟩ := h
  refine ⟨M, P, H0, σ0, env, ts, _, rel, ht, fun ss env1 vs H1 h1 hl rel1 => ?_⟩
  obtain ⟨ds, e, hz, hR⟩ := h1
  exact ⟨by omega, fun p hp => hq _ _ _ _ hR (rel1.resTup hp (rel1.keptAll hl (fun p hp => hp) e))⟩
theorem q_lst (h : PA X es (upA K tl)) : PE X (.List es pos) (up K (dLst tl)) := (pe_lst h).imp fun σ H Q h => by
  obtain ⟨M, P, H0, σ0, env, ts, R, rel, ht, hq⟩ := h
  refine ⟨M, P, H0, σ0, env, ts, _, rel, ht, fun ss env1 vs H1 h1 hl rel1 => ?_⟩
  obtain ⟨ds, e, hz, hR⟩ := h1
  exact ⟨by omega, fun p hp => hq _ _ _ _ hR (rel1.drop.addOw hp (rel1.keptAll hl (fun p hp => hp) e))⟩
end
end
end L2
set_option Elab.async false
set_option linter.all false
set_option maxRecDepth 100000
set_option maxHeartbeats 4000000
namespace L2
open PySem PySem.Spec PyProof.Rows
/-! ### list + list, whatever they are read from -/
def rCatS (K : PySem.W.Frag) : R2 := fun x y H Q => ∃ l b xs zs, x = .ref l ∧ y = .ref b ∧ SqL K H l xs ∧ SqL K H b zs ∧ xs.length + zs.length ≤ sizeLine ∧ ∀ p, H p = none → Q (.ref p) (upd H p (.lst (xs ++ zs)))
theorem op_catS {X : Cx} {K : PySem.W.Frag} (hK : X.K = K) : OpR X (binaryOp .Add) (rCatS K) := by
  subst hK
  intro pins s σ H x y v u Q I rx ry h
  obtain ⟨l, b, xs, zs, rfl, rfl, hH, hB, hz, q⟩ := h
  cases rx
  cases ry
  obtain ⟨its, r, ⟨⟨cls, dd, data, sl⟩, n, ho, hc, _, hd⟩, z⟩ := I.list hH
  obtain ⟨its2, r2, ⟨⟨cls2, dd2, data2, sl2⟩, n2, ho2, hc2, _, hd2⟩, z2⟩ := I.list hB
  simp only at hc hd hc2 hd2
  subst hc hd hc2 hd2
  have hl := r.length
  have hl2 := r2.length
  refine concat_meets ⟨_, ho, rfl⟩ ⟨_, ho2, rfl⟩ noFill_list_add seq_list_add PySem.F.slot_list_add PySem.F.entry_list_add (PySem.F.args_list_add_2 _ _) (list_addW l b its.toArray its2.toArray n n2 dd dd2 sl sl2 (by rw [List.size_toArray, List.size_toArray]; omega)) ⟨ho, ho2, ?_⟩
  have ea : its.toArray ++ its2.toArray = (its ++ its2).toArray := by simp
  rw [ea]
  exact ⟨.ref _, _, I.lnew (t' := s.toks) (r.append r2) (by rw [List.length_append]; omega), rfl, q _ I.fresh⟩
section
variable {K : PySem.W.Frag} {M P N : Addr → Prop} {H0 H H' : Hp} {σ0 σ : St} {env : List Sl} {ts tt : List (V × Sl)} {v : V} {s : Sl} {d : PyData}
variable {X : Cx} {x : Str} {p pos : Pos} {a b e : Expr} {es : List Expr} {ta tb : DE} {tl : DA}
/-- an operation that makes a new list -/
def dOpL (g : PyData → PyData → (List PyData → Prop) → Prop) (ta tb : DE) : DE := fun env R => ta env fun s1 env1 => tb env1 fun s2 env2 => ∃ d1 d2, valOf env2 s1 = some d1 ∧ valOf env2 s2 = some d2 ∧ g d1 d2 fun ds => R (.ow ds) env2
def MeansL (K : PySem.W.Frag) (r : R2) (g : PyData → PyData → (List PyData → Prop) → Prop) : Prop := ∀ (N : Addr → Prop) (H : Hp) (x y : V) (d1 d2 : PyData) (R : List PyData → Prop) (Q : VK), Vw K N H x d1 → Vw K N H y d2 → g d1 d2 R →
  (∀ ds vs p, R ds → DNs K N H vs ds → H p = none → Q (.ref p) (upd H p (.lst vs))) → r x y H Q
theorem opL_up {r : R2} {g : PyData → PyData → (List PyData → Prop) → Prop} (m : MeansL K r g) : ∀ σ H Q, up K (dOpL g ta tb) σ H Q → tOp r (up K ta) (up K tb) σ H Q := fun σ H Q h => by
  obtain ⟨M, P, H0, σ0, env, ts, R, rel, ht, hq⟩ := h
  refine ⟨M, P, H0, σ0, env, ts, _, rel, ht, fun s1 env1 v1 H1 h1 rel1 => ⟨M, P, H0, σ0, env1, ts ++ [(v1, s1)], _, rel1, h1, fun s2 env2 v2 H2 h2 rel2 => ?_⟩⟩
  obtain ⟨d1, d2, e1, e2, g⟩ := h2
  refine m _ H2 v1 v2 d1 d2 _ Q (rel2.view (by simp) e1) (rel2.view (by simp) e2) g fun ds vs p hR dns hp => hq _ _ _ _ hR ?_
  have rel2' : Rel K M P H0 σ0 σ env2 (ts ++ [(v1, s1), (v2, s2)]) H2 := by simpa using rel2
  exact rel2'.resOw hp (by simpa using dns)
theorem q_opL {op : Operator} {r : R2} {g : PyData → PyData → (List PyData → Prop) → Prop} (ho : OpR X (binaryOp op) r) (m : MeansL K r g) (ha : PE X a (up K ta)) (hb : PE X b (up K tb)) : PE X (.BinOp a op b pos) (up K (dOpL g ta tb)) := (pe_op ho ha hb).imp (opL_up m)
def gCat : PyData → PyData → (List PyData → Prop) → Prop := fun d e R => ∃ xs ys, d = .list xs ∧ e = .list ys ∧ xs.length + ys.length ≤ sizeLine ∧ R (xs ++ ys)
theorem mCat : MeansL K (rCatS K) gCat := by
  rintro N H x y d e R Q w1 w2 ⟨xs, ys, rfl, rfl, hz, hR⟩ hq
  obtain ⟨a1, v1, rfl, s1, q1⟩ := w1.list
  obtain ⟨a2, v2, rfl, s2, q2⟩ := w2.list
  exact ⟨a1, a2, v1, v2, rfl, rfl, s1, s2, by rw [q1.len, q2.len]; exact hz, fun p hp => hq _ _ p hR (q1.app q2) hp⟩
/-- tuple + tuple -/
def dCatT (ta tb : DE) : DE := fun env R => ta env fun s1 env1 => tb env1 fun s2 env2 => ∃ xs ys, valOf env2 s1 = some (.tuple xs) ∧ valOf env2 s2 = some (.tuple ys) ∧ xs.length + ys.length ≤ sizeLine ∧ R (.fr (.tuple (xs ++ ys))) env2
theorem q_catT (hK : X.K = K) (ha : PE X a (up K ta)) (hb : PE X b (up K tb)) : PE X (.BinOp a .Add b pos) (up K (dCatT ta tb)) := (pe_op (kCatA (K := K) hK) ha hb).imp fun σ H Q h => by
  obtain ⟨M, P, H0, σ0, env, ts, R, rel, ht, hq⟩ := h
  refine ⟨M, P, H0, σ0, env, ts, _, rel, ht, fun s1 env1 v1 H1 h1 rel1 => ⟨M, P, H0, σ0, env1, ts ++ [(v1, s1)], _, rel1, h1, fun s2 env2 v2 H2 h2 rel2 => ?_⟩⟩
  obtain ⟨xs, ys, e1, e2, hz, hR⟩ := h2
  have w1 := rel2.view (v := v1) (by simp) e1
  have w2 := rel2.view (v := v2) (by simp) e2
  have rel2' : Rel K M P H0 σ0 σ env2 (ts ++ [(v1, s1), (v2, s2)]) H2 := by simpa using rel2
  have ee : ts ++ [(v1, s1)] ++ [(v2, s2)] = ts ++ [(v1, s1), (v2, s2)] := by simp
  rw [ee] at w1 w2
  obtain ⟨a1, u1, rfl, t1, q1⟩ := w1.tuple
  obtain ⟨a2, u2, rfl, t2, q2⟩ := w2.tuple
  refine ⟨a1, a2, u1, u2, rfl, rfl, t1, t2, by rw [q1.len, q2.len]; exact hz, fun z => ?_, fun _ z => ?_, fun _ _ p hp => ?_⟩
  · subst z
    have : xs = [] := by
      have := q1.len
      exact List.eq_nil_of_length_eq_zero this.symm
    subst this
    cases w2 with
    | dn dn => exact hq _ _ _ _ hR (rel2'.res (Same.refl _) dn)
  · subst z
    have : ys = [] := by
      have := q2.len
      exact List.eq_nil_of_length_eq_zero this.symm
    subst this
    rw [List.append_nil] at hR
    cases w1 with
    | dn dn => exact hq _ _ _ _ hR (rel2'.res (Same.refl _) dn)
  · exact hq _ _ _ _ hR (rel2'.resTup hp ((q1.app q2).to fun b _ _ z => by rw [ents_app]; exact nw_app z))
/-! ### slices -/
abbrev DO := List Sl → (Option Int → List Sl → Prop) → Prop
def upO (K : PySem.W.Frag) (t : DO) : TO := fun σ H Q => ∃ (M P : Addr → Prop) (H0 : Hp) (σ0 : St) (env : List Sl) (ts : List (V × Sl)) (R : Option Int → List Sl → Prop), Rel K M P H0 σ0 σ env ts H ∧ t env R ∧
  ∀ o env' H', R o env' → Rel K M P H0 σ0 σ env' ts H' → Q o H'
theorem PO.imp {e : Option Expr} {t t' : TO} (h : PO X e t) (k : ∀ σ H Q, t' σ H Q → t σ H Q) : PO X e t' := fun pins s σ H Q I hw => h pins s σ H Q I (k σ H Q hw)
def dNoPart : DO := fun env R => R none env
def dPart (t : DE) : DO := fun env R => t env fun s env1 => ∃ i, valOf env1 s = some (.int i) ∧ R (some i) env1
theorem qo_none : PO X none (upO K dNoPart) := po_none.imp fun σ H Q h => by
  obtain ⟨M, P, H0, σ0, env, ts, R, rel, ht, hq⟩ := h
  exact hq _ _ _ ht rel
theorem qo_some (h : PE X e (up K ta)) : PO X (some e) (upO K (dPart ta)) := (po_some h).imp fun σ H Q h => by
  obtain ⟨M, P, H0, σ0, env, ts, R, rel, ht, hq⟩ := h
  refine ⟨M, P, H0, σ0, env, ts, _, rel, ht, fun s1 env1 v1 H1 h1 rel1 => ?_⟩
  obtain ⟨i, e1, hR⟩ := h1
  exact ⟨i, (rel1.view (by simp) e1).int, hq _ _ _ hR rel1.drop⟩
def cutD {α : Type} (xs : List α) (lo hi : Option Int) : List α := (xs.drop (HT.sIx xs.length 0 lo)).take (HT.sIx xs.length xs.length hi - HT.sIx xs.length 0 lo)
theorem DNs.drop : ∀ {vs : List V} {ds : List PyData} (n : Nat), DNs K N H vs ds → DNs K N H (vs.drop n) (ds.drop n)
  | _, _, 0, q => q
  | _, _, _ + 1, .nil => .nil
  | _, _, n + 1, .cons _ q => q.drop n
theorem DNs.take : ∀ {vs : List V} {ds : List PyData} (n : Nat), DNs K N H vs ds → DNs K N H (vs.take n) (ds.take n)
  | _, _, 0, _ => .nil
  | _, _, _ + 1, .nil => .nil
  | _, _, n + 1, .cons h q => .cons h (q.take n)
theorem DNs.cut {vs : List V} {ds : List PyData} (q : DNs K N H vs ds) (lo hi : Option Int) : DNs K N H (cutV vs lo hi) (cutD ds lo hi) := by
  unfold cutV cutD
  rw [q.len]
  exact (q.drop _).take _
def dSlL (te : DE) (tl th : DO) : DE := fun env R => te env fun s env1 => tl env1 fun l env2 => th env2 fun h env3 => ∃ ds, valOf env3 s = some (.list ds) ∧ R (.ow (cutD ds l h)) env3
def dSlT (te : DE) (tl th : DO) : DE := fun env R => te env fun s env1 => tl env1 fun l env2 => th env2 fun h env3 => ∃ ds, valOf env3 s = some (.tuple ds) ∧ ¬ (HT.sIx ds.length 0 l = 0 ∧ HT.sIx ds.length ds.length h = ds.length) ∧ R (.fr (.tuple (cutD ds l h))) env3
variable {lo hi : Option Expr} {tlo thi : DO} {p2 : Pos}
theorem q_slL (hK : X.K = K) (he : PE X e (up K ta)) (hl : PO X lo (upO K tlo)) (hu : PO X hi (upO K thi)) : PE X (.Subscript e (.Slice lo hi none p2) pos) (up K (dSlL ta tlo thi)) := (pe_slice (kSlL (K := K) hK) he hl hu).imp fun σ H Q h => by
  obtain ⟨M, P, H0, σ0, env, ts, R, rel, ht, hq⟩ := h
  refine ⟨M, P, H0, σ0, env, ts, _, rel, ht, fun s1 env1 v1 H1 h1 rel1 => ⟨M, P, H0, σ0, env1, ts ++ [(v1, s1)], _, rel1, h1, fun l env2 H2 h2 rel2 => ⟨M, P, H0, σ0, env2, ts ++ [(v1, s1)], _, rel2, h2, fun u env3 H3 h3 rel3 => ?_⟩⟩⟩
  obtain ⟨ds, e1, hR⟩ := h3
  obtain ⟨a, vs, rfl, sq, q⟩ := (rel3.view (v := v1) (by simp) e1).list
  exact ⟨a, vs, rfl, sq, fun p hp => hq _ _ _ _ hR (rel3.resOw hp (q.cut l u))⟩
theorem q_slT (hK : X.K = K) (he : PE X e (up K ta)) (hl : PO X lo (upO K tlo)) (hu : PO X hi (upO K thi)) : PE X (.Subscript e (.Slice lo hi none p2) pos) (up K (dSlT ta tlo thi)) := (pe_slice (kSlT (K := K) hK) he hl hu).imp fun σ H Q h => by
  obtain ⟨M, P, H0, σ0, env, ts, R, rel, ht, hq⟩ := h
  refine ⟨M, P, H0, σ0, env, ts, _, rel, ht, fun s1 env1 v1 H1 h1 rel1 => ⟨M, P, H0, σ0, env1, ts ++ [(v1, s1)], _, rel1, h1, fun l env2 H2 h2 rel2 => ⟨M, P, H0, σ0, env2, ts ++ [(v1, s1)], _, rel2, h2, fun u env3 H3 h3 rel3 => ?_⟩⟩⟩
  obtain ⟨ds, e1, hw, hR⟩ := h3
  obtain ⟨a, vs, rfl, sq, q⟩ := (rel3.view (v := v1) (by simp) e1).tuple
  exact ⟨a, vs, rfl, sq, by rw [q.len]; exact hw, fun p hp => hq _ _ _ _ hR (rel3.resTup hp ((q.cut l u).to fun b _ _ z => by rw [ents_app]; exact nw_app z))⟩
/-! ### list(x), tuple(x) -/
def dListOf (t : DA) : DE := fun env R => t env fun ss env1 => ∃ s d ds, ss = [s] ∧ valOf env1 s = some d ∧ seqOf d = some ds ∧ R (.ow ds) env1
theorem q_listOf (hK : X.K = K) (hg : Gl X "list") (hm : X.mg "list" = none) (ha : PA X [e] (upA K tl)) (he : starEach [e] X.env = [(false, eval e X.env)] := by rfl) : PE X (.Call (.Name "list" p) [e] [] pos) (up K (dListOf tl)) :=
  (pe_callTy (kList (K := K) hK) hg hm PyProof.Rows.boot_list ha (by decide) (by decide) he rfl).imp fun σ H Q h => by
  obtain ⟨M, P, H0, σ0, env, ts, R, rel, ht, hq⟩ := h
  refine ⟨M, P, H0, σ0, env, ts, _, rel, ht, fun ss env1 vs H1 h1 hl rel1 => ?_⟩
  obtain ⟨s, d, ds, rfl, e1, e2, hR⟩ := h1
  match vs, hl with
  | [v], _ =>
    obtain ⟨a, us, rfl, sq, q⟩ := (rel1.view (v := v) (by simp) e1).seq e2
    exact ⟨a, us, rfl, sq, fun l hl' => hq _ _ _ _ hR (rel1.resOw hl' q)⟩
def dTupOf (t : DA) : DE := fun env R => t env fun ss env1 => ∃ s d ds, ss = [s] ∧ valOf env1 s = some d ∧ seqOf d = some ds ∧ R (.fr (.tuple ds)) env1
theorem q_tupOf (hK : X.K = K) (hg : Gl X "tuple") (hm : X.mg "tuple" = none) (ha : PA X [e] (upA K tl)) (he : starEach [e] X.env = [(false, eval e X.env)] := by rfl) : PE X (.Call (.Name "tuple" p) [e] [] pos) (up K (dTupOf tl)) :=
  (pe_callTy (kTuple (K := K) hK) hg hm PyProof.Rows.boot_tuple ha (by decide) (by decide) he rfl).imp fun σ H Q h => by
  obtain ⟨M, P, H0, σ0, env, ts, R, rel, ht, hq⟩ := h
  refine ⟨M, P, H0, σ0, env, ts, _, rel, ht, fun ss env1 vs H1 h1 hl rel1 => ?_⟩
  obtain ⟨s, d, ds, rfl, e1, e2, hR⟩ := h1
  match vs, hl with
  | [v], _ =>
    have w := rel1.view (v := v) (by simp) e1
    cases d <;> simp [seqOf] at e2
    · subst e2
      obtain ⟨a, us, rfl, sq, q⟩ := w.list
      exact ⟨a, us, rfl, .inl ⟨sq, fun l hl' => hq _ _ _ _ hR (rel1.resTup hl' (q.to fun b _ _ z => by rw [ents_app]; exact nw_app z))⟩⟩
    · subst e2
      obtain ⟨a, us, rfl, sq, q⟩ := w.tuple
      refine ⟨a, us, rfl, .inr ⟨sq, hq _ _ _ _ hR ?_⟩⟩
      cases w with
      | dn dn => exact rel1.res (Same.refl _) dn
/-! ### a list of ours is changed -/
def setSl : Sl → List PyData → Option Sl
  | .ow _, ds => some (.ow ds)
  | .io _, ds => some (.io ds)
  | _, _ => none
def ownD : Sl → Option (List PyData)
  | .ow ds => some ds
  | .io ds => some ds
  | _ => none
theorem Rel.mut {i : Nat} {s s' : Sl} {ds ds' : List PyData} (h : Rel K M P H0 σ0 σ env ts H) (e : env[i]? = some s) (es : setSl s ds' = some s') {a : Addr} (ea : σ[i]? = some (some (.ref a))) {vs' : List V} (dns : DNs K (Nw M (ents σ env ts)) H vs' ds') :
    Rel K M P H0 σ0 σ (env.set i s') ts (upd H a (.lst vs')) := by
  obtain ⟨x, A, B, e1, q1, q2⟩ := h.split e
  rw [ea] at e1
  cases e1
  have r := h.e
  rw [q1] at r dns
  refine ⟨by rw [q2]; exact r.mut (by cases s <;> simp [setSl] at es <;> (subst es; rfl)) dns, by simp [h.len], h.vw, fun j ds'' e' => ?_⟩
  by_cases hj : i = j
  · subst hj
    have hi : i < env.length := (List.getElem?_eq_some_iff.mp e).1
    rw [List.getElem?_set_self hi] at e'
    cases e'
    cases s with
    | io ds0 => exact h.ios i ds0 e
    | _ => simp [setSl] at es
  · rw [List.getElem?_set_ne hj] at e'
    exact h.ios j ds'' e'
/-- a list of ours in a slot -/
theorem Rel.mine {i : Nat} {s : Sl} {ds : List PyData} (h : Rel K M P H0 σ0 σ env ts H) (e : env[i]? = some s) (eo : ownD s = some ds) : ∃ a vs, σ[i]? = some (some (.ref a)) ∧ H a = some (.lst vs) ∧ DNs K (Nw M (ents σ env ts)) H vs ds := by
  obtain ⟨x, e1, m⟩ := h.slot e
  cases s with
  | ow d =>
    cases eo
    obtain ⟨a, vs, z, q1, q2, _⟩ := h.e.ow _ _ m
    subst z
    exact ⟨a, vs, e1, q1, q2⟩
  | io d =>
    cases eo
    obtain ⟨a, vs, z, q1, q2, _⟩ := h.e.io _ _ m
    subst z
    exact ⟨a, vs, e1, q1, q2⟩
  | _ => cases eo
/-- x.append(e), x in slot i -/
def dApp (i : Nat) (te : DE) : DE := fun env R => (∃ ds, (env[i]?).bind ownD = some ds) ∧ te env fun s env1 => ∃ d s0 ds s', keepOf env1 s = some d ∧ env1[i]? = some s0 ∧ ownD s0 = some ds ∧ ds.length < sizeLine ∧ setSl s0 (ds ++ [d]) = some s' ∧ R (.fr .none) (env1.set i s')
theorem bind_own {i : Nat} {ds : List PyData} (h : (env[i]?).bind ownD = some ds) : ∃ s, env[i]? = some s ∧ ownD s = some ds := by
  cases e : env[i]? with
  | none => rw [e] at h; cases h
  | some s => rw [e] at h; exact ⟨s, rfl, h⟩
theorem q_app (i : Nat) {y : Str} {apos cpos npos : Pos} (hK : X.K = K) (hN : X.N[i]? = some y) (ha : PE X e (up K ta))
    (hv : Vis X.env.scope y := by first | exact Or.inl rfl | exact Or.inr (Or.inl rfl) | exact Or.inr (Or.inr rfl)) (hd : (y == ("__debug__" : Str)) = false := by decide)
    (hcd : (y == ("__classdict__" : Str)) = false := by decide)
    (hs0 : starEach [e] X.env = [(false, eval e X.env)] := by rfl)
    (hbase : attributeBase (.Name y npos) "append" X.env (eval (.Name y npos) X.env) = eval (.Name y npos) X.env := by rfl)
    (hfew : ((backTo cpos (starEach [e] X.env)).all (fun x => !x.1) && (backToKw cpos (keywordEach [] X.env)).all (fun x => x.1.isSome) && decide ([e].length + ([] : List Keyword).length + (if ([] : List Keyword).isEmpty then 0 else 1) < 30)) = true := by rfl)
    (hline : (apos.endLine == cpos.line) = true := by rfl) (hplain : (backTo cpos (starEach [] X.env)).any (·.1) = false := by rfl) :
    PE X (.Call (.Attribute (.Name y npos) "append" apos) [e] [] cpos) (up K (dApp i ta)) :=
  (kBm (K := K) hK PySem.F.plainAttrs_list PySem.F.slot_list_append PySem.F.type_list_append mt_append (pe_var hN hv hd hcd) (pa_cons ha pa_nil hs0) hbase hfew hline hs0 hplain).imp fun σ H Q h => by
  obtain ⟨M, P, H0, σ0, env, ts, R, rel, ⟨⟨ds0, h0⟩, ht⟩, hq⟩ := h
  obtain ⟨s0, e0, o0⟩ := bind_own h0
  obtain ⟨a, vs, ea, hH, _⟩ := rel.mine e0 o0
  refine ⟨.ref a, ea, .inl ⟨rfl, vs, SqL.of hH⟩, M, P, H0, σ0, env, ts, _, rel, ht, fun s1 env1 v1 H1 h1 rel1 => ?_⟩
  obtain ⟨d, s2, ds, s', k, e2, o2, hz, es, hR⟩ := h1
  obtain ⟨a', us, ea', hH', q⟩ := rel1.drop.mine e2 o2
  rw [ea] at ea'
  cases ea'
  refine ⟨a, us, v1, rfl, rfl, hH', by rw [q.len]; exact hz, ?_⟩
  have dn := rel1.kept (v := v1) (s := s1) (by simp) k
  exact hq _ _ _ _ hR ((rel1.drop.mut (ds := ds) e2 es ea (q.app (.cons dn .nil))).addFr .non)
/-- x.pop(), x in slot i -/
def dPop (i : Nat) : DE := fun env R => ∃ s0 ds d s', env[i]? = some s0 ∧ ownD s0 = some ds ∧ ds.getLast? = some d ∧ setSl s0 ds.dropLast = some s' ∧ R (.fr d) (env.set i s')
theorem DNs.dropLast : ∀ {vs : List V} {ds : List PyData}, DNs K N H vs ds → DNs K N H vs.dropLast ds.dropLast := fun {vs ds} q => by
  rw [List.dropLast_eq_take, List.dropLast_eq_take, q.len]
  exact q.take _
theorem q_pop (i : Nat) {y : Str} {apos cpos npos : Pos} (hK : X.K = K) (hN : X.N[i]? = some y)
    (hv : Vis X.env.scope y := by first | exact Or.inl rfl | exact Or.inr (Or.inl rfl) | exact Or.inr (Or.inr rfl)) (hd : (y == ("__debug__" : Str)) = false := by decide)
    (hcd : (y == ("__classdict__" : Str)) = false := by decide)
    (hbase : attributeBase (.Name y npos) "pop" X.env (eval (.Name y npos) X.env) = eval (.Name y npos) X.env := by rfl) (hline : (apos.endLine == cpos.line) = true := by rfl) :
    PE X (.Call (.Attribute (.Name y npos) "pop" apos) [] [] cpos) (up K (dPop i)) :=
  (kBm0 (K := K) hK PySem.F.plainAttrs_list PySem.F.slot_list_pop PySem.F.type_list_pop mt_pop (pe_var hN hv hd hcd) hbase hline).imp fun σ H Q h => by
  obtain ⟨M, P, H0, σ0, env, ts, R, rel, ⟨s0, ds, d, s', e0, o0, hl, es, hR⟩, hq⟩ := h
  obtain ⟨a, vs, ea, hH, q⟩ := rel.mine e0 o0
  have hn : ds.length - 1 < ds.length := by
    cases ds with
    | nil => simp at hl
    | cons z r => simp
  rw [List.getLast?_eq_getElem?] at hl
  have hlt : vs.length - 1 < vs.length := by rw [q.len]; exact hn
  obtain ⟨d', h1, dn⟩ := q.get (List.getElem?_eq_getElem hlt)
  rw [q.len, hl] at h1
  cases h1
  refine ⟨.ref a, ea, .inl ⟨rfl, vs, SqL.of hH⟩, a, vs, vs[vs.length - 1], rfl, rfl, hH, List.getElem?_eq_getElem hlt, ?_⟩
  have rel2 := rel.addFr dn
  have m := rel2.mut (ds := ds) (vs' := vs.dropLast) (ds' := ds.dropLast) e0 es ea (by
    have : Nw M (ents σ env (ts ++ [(vs[vs.length - 1], Sl.fr d)])) = Nw M (ents σ env ts) := by
      rw [ents_app]
      unfold Nw
      have : oas (ents σ env ts ++ tmp [(vs[vs.length - 1], Sl.fr d)]) = oas (ents σ env ts) := by
        rw [oas_app]
        have : oas (tmp [(vs[vs.length - 1], Sl.fr d)]) = [] := by
          show oas [(some vs[vs.length - 1], Sl.fr d)] = []
          rw [oas_cons]
          cases vs[vs.length - 1] <;> rfl
        rw [this, List.append_nil]
      rw [this]
    rw [this]
    exact q.dropLast)
  exact hq _ _ _ _ hR m
end
end L2
set_option Elab.async false
set_option linter.all false
set_option maxRecDepth 100000
set_option maxHeartbeats 4000000
namespace L2
open PySem PySem.Spec PyProof.Rows
section
variable {K : PySem.W.Frag} {M P N : Addr → Prop} {H0 H H' : Hp} {E A B : List Ent} {σ0 σ : St} {env : List Sl} {ts tt : List (V × Sl)} {v : V} {s : Sl} {d : PyData}
/-- a list of ours has been changed by another (a def that was called) -/
theorem RelE.muted {a : Addr} {s s' : Sl} {vs' : List V} {ds' : List PyData} (h : RelE K M P H0 (A ++ (some (.ref a), s) :: B) H) (hs : isOw s ds' s') (k : Keep (fun b => b = a) H H') (lv : ∀ b, H b ≠ none → H' b ≠ none)
    (ha : H' a = some (.lst vs')) (dns : DNs K (Nw M (A ++ (some (.ref a), s) :: B)) H' vs' ds') : RelE K M P H0 (A ++ (some (.ref a), s') :: B) H' := by
  have oa : own1 (some (.ref a), s) = some a ∧ own1 (some (.ref a), s') = some a := by
    cases s <;> first | exact hs.elim | (cases hs; exact ⟨rfl, rfl⟩)
  have oe : oas (A ++ (some (.ref a), s) :: B) = oas A ++ a :: oas B := by rw [oas_app, oas_cons, oa.1]
  have oe' : oas (A ++ (some (.ref a), s') :: B) = oas A ++ a :: oas B := by rw [oas_app, oas_cons, oa.2]
  have ne : Nw M (A ++ (some (.ref a), s') :: B) = Nw M (A ++ (some (.ref a), s) :: B) := by unfold Nw; rw [oe, oe']
  have na : Nw M (A ++ (some (.ref a), s) :: B) a := .inr (by rw [oe]; simp)
  have nd := h.nd
  rw [oe] at nd
  obtain ⟨n1, n2, n3⟩ := List.nodup_append.mp nd
  obtain ⟨n4, n5⟩ := List.nodup_cons.mp n2
  have kN : Keep (Nw M (A ++ (some (.ref a), s) :: B)) H H' := k.mono fun b z => by rw [z]; exact na
  obtain ⟨ws, hw, hP⟩ := h.own (a := a) (by rw [oe]; simp)
  have other : ∀ x t b, (x, t) ∈ A ∨ (x, t) ∈ B → own1 (x, t) = some b → b ≠ a := fun x t b m eo z => by
    subst z
    rcases m with m | m
    · exact n3 b (mem_oas.mpr ⟨_, m, eo⟩) b List.mem_cons_self rfl
    · exact n4 (mem_oas.mpr ⟨_, m, eo⟩)
  have old : ∀ x t, (x, t) ∈ A ++ (some (.ref a), s') :: B → (x, t) = (some (.ref a), s') ∨ ((x, t) ∈ A ∨ (x, t) ∈ B) := fun x t m => by
    rcases List.mem_append.mp m with m | m
    · exact .inr (.inl m)
    · rcases List.mem_cons.mp m with m | m
      · exact .inl m
      · exact .inr (.inr m)
  have back : ∀ x t, (x, t) ∈ A ∨ (x, t) ∈ B → (x, t) ∈ A ++ (some (.ref a), s) :: B := fun x t m => by
    rcases m with m | m
    · exact List.mem_append_left _ m
    · exact List.mem_append_right _ (List.mem_cons_of_mem _ m)
  have me : (some (.ref a), s) ∈ A ++ (some (.ref a), s) :: B := List.mem_append_right _ List.mem_cons_self
  refine ⟨?_, fun b q => lv b (h.live b q), h.mt, h.pm, fun x d m => ?_, fun x d m => ?_, fun x d m => ?_, by rw [oe']; exact nd⟩
  · intro b o np e
    by_cases hb : b = a
    · subst hb
      rcases hP with q | q
      · rw [q] at e; cases e
      · exact absurd q np
    · exact k b o hb (h.keep b o np e)
  · rw [ne]
    rcases old _ _ m with m | m
    · cases s <;> first | exact hs.elim | (have hs : s' = _ := hs; rw [hs] at m; cases m)
    · obtain ⟨v, e, dn⟩ := h.fr x d (back _ _ m)
      exact ⟨v, e, dn.keep kN⟩
  · rw [ne]
    rcases old _ _ m with m | m
    · cases s with
      | ow ds =>
        have hs : s' = _ := hs
        rw [hs] at m
        cases m
        obtain ⟨b, us, e, e2, dn, r⟩ := h.ow _ _ me
        cases e
        exact ⟨a, vs', rfl, ha, dns, r⟩
      | io ds => have hs : s' = _ := hs; rw [hs] at m; cases m
      | _ => exact hs.elim
    · obtain ⟨b, us, e, e2, dn, r⟩ := h.ow x d (back _ _ m)
      subst e
      exact ⟨b, us, rfl, k _ _ (other _ _ b m rfl) e2, dn.keep kN, r⟩
  · rw [ne]
    rcases old _ _ m with m | m
    · cases s with
      | io ds =>
        have hs : s' = _ := hs
        rw [hs] at m
        cases m
        obtain ⟨b, us, e, e2, dn, r⟩ := h.io _ _ me
        cases e
        exact ⟨a, vs', rfl, ha, dns, r⟩
      | ow ds => have hs : s' = _ := hs; rw [hs] at m; cases m
      | _ => exact hs.elim
    · obtain ⟨b, us, e, e2, dn, r⟩ := h.io x d (back _ _ m)
      subst e
      exact ⟨b, us, rfl, k _ _ (other _ _ b m rfl) e2, dn.keep kN, r⟩
end
/-! ### what a def promises, over data -/
abbrev DSp := List Sl → (Sl → List Sl → Prop) → Prop
def isRes : Sl → Bool
  | .fr _ => true
  | .ow _ => true
  | _ => false
def ioOf (vs : List V) (ss : List Sl) : Addr → Prop := fun a => a ∈ oas (tmp (vs.zip ss))
def spD (K : PySem.W.Frag) (sp : DSp) : Sp := fun vs H Q _ => ∃ (M : Addr → Prop) (ss : List Sl) (R : Sl → List Sl → Prop), vs.length = ss.length ∧ RelE K M (ioOf vs ss) H (tmp (vs.zip ss)) H ∧ sp ss R ∧
  ∀ r ss' v H', R r ss' → isRes r = true → RelE K M (ioOf vs ss) H (tmp ((v, r) :: vs.zip ss')) H' → Q v H'
section
variable {K : PySem.W.Frag} {M P N : Addr → Prop} {H0 H H' : Hp} {E A B : List Ent} {σ0 σ : St} {env : List Sl} {ts tt : List (V × Sl)} {v : V} {s : Sl} {d : PyData}
theorem oas_fr : ∀ (vs : List V) (ds : List PyData), oas (tmp (vs.zip (ds.map Sl.fr))) = []
  | [], _ => by simp [oas, tmp]
  | _ :: _, [] => by simp [oas, tmp]
  | v :: vs, d :: ds => by
    show oas ((some v, Sl.fr d) :: tmp (vs.zip (ds.map Sl.fr))) = []
    rw [oas_cons, oas_fr vs ds]
    cases v <;> rfl
theorem mem_frs : ∀ {vs : List V} {ds : List PyData} {x : Option V} {s : Sl}, DNs K N H vs ds → (x, s) ∈ tmp (vs.zip (ds.map Sl.fr)) → ∃ v d, x = some v ∧ s = .fr d ∧ DN K N H v d
  | _, _, _, _, .nil, m => by simp [tmp] at m
  | _, _, x, s, @DNs.cons _ _ _ v vs d ds h q, m => by
    have m : (x, s) ∈ (some v, Sl.fr d) :: tmp (vs.zip (ds.map Sl.fr)) := m
    rcases List.mem_cons.mp m with m | m
    · cases m; exact ⟨v, d, rfl, rfl, h⟩
    · exact mem_frs q m
/-- what a call tells: a datum, or a new list -/
inductive ResOk (K : PySem.W.Frag) (N : Addr → Prop) (Hc H' : Hp) : V → Sl → Prop
  | fr {v : V} {d : PyData} : DN K N H' v d → ResOk K N Hc H' v (.fr d)
  | ow {a : Addr} {vs : List V} {ds : List PyData} : H' a = some (.lst vs) → DNs K (fun b => N b ∨ b = a) H' vs ds → Hc a = none → ¬ N a → ResOk K N Hc H' (.ref a) (.ow ds)
theorem RelE.resOk {Hc : Hp} {Pc : Addr → Prop} {r : Sl} {T : List Ent} (hc : RelE K N Pc Hc ((some v, r) :: T) H') (hr : isRes r = true) : ResOk K N Hc H' v r := by
  cases r with
  | fr d =>
    obtain ⟨w, e, dn⟩ := hc.fr _ _ List.mem_cons_self
    cases e
    exact .fr (dn.to fun b _ _ z => .inl z)
  | ow ds =>
    obtain ⟨a, vs, e, ha, dns, hn⟩ := hc.ow _ _ List.mem_cons_self
    cases e
    refine .ow ha (dns.to fun b _ _ z => ?_) hn fun z => hc.mt a z hn
    rcases z with z | z
    · exact .inl z
    · rw [z]
      exact .inr (by rw [oas_cons]; simp [own1])
  | _ => cases hr
theorem ResOk.to {Hc : Hp} {r : Sl} {N2 : Addr → Prop} (h : ResOk K N Hc H' v r) (m : ∀ b, N2 b → N b) : ResOk K N2 Hc H' v r := by
  cases h with
  | fr dn => exact .fr (dn.to fun b _ _ z => m b z)
  | ow ha dns hn nn => exact .ow ha (dns.to fun b _ _ z => z.elim (fun z => .inl (m b z)) .inr) hn fun z => nn (m _ z)
/-- what the callee told comes to the caller's entries; Hc: the heap ahead of the call -/
theorem RelE.getRes {r : Sl} (h : RelE K M P H0 E H') {Hc : Hp} (hlive : ∀ b, H0 b ≠ none → Hc b ≠ none) (hres : ResOk K (Nw M E) Hc H' v r)
    (frs : ∀ l, r = .ow l → ∀ x d, (x, Sl.fr d) ∈ E → ∃ w, x = some w ∧ DN K (fun b => Nw M E b ∨ (v = .ref b ∧ Hc b = none)) H' w d)
    (its : ∀ l, r = .ow l → ∀ x s ds, (x, s) ∈ E → ownD s = some ds → ∃ a vs, x = some (.ref a) ∧ H' a = some (.lst vs) ∧ DNs K (fun b => Nw M E b ∨ (v = .ref b ∧ Hc b = none)) H' vs ds) : RelE K M P H0 (E ++ [(some v, r)]) H' := by
  cases hres with
  | fr dn => exact h.addFr dn
  | @ow a vs ds ha dns hn nN =>
    have oe : oas (E ++ [(some (.ref a), Sl.ow ds)]) = oas E ++ [a] := by
      rw [oas_app]
      rfl
    have up : ∀ b, Nw M (E ++ [(some (.ref a), Sl.ow ds)]) b → Nw M E b ∨ b = a := fun b z => by
      rcases z with z | z
      · exact .inl (.inl z)
      · rw [oe] at z
        rcases List.mem_append.mp z with z | z
        · exact .inl (.inr z)
        · exact .inr (List.mem_singleton.mp z)
    have up2 : ∀ b, Nw M (E ++ [(some (.ref a), Sl.ow ds)]) b → Nw M E b ∨ (V.ref a = .ref b ∧ Hc b = none) := fun b z => by
      rcases up b z with z | z
      · exact .inl z
      · subst z; exact .inr ⟨rfl, hn⟩
    have h0 : H0 a = none := by
      cases e : H0 a with
      | none => rfl
      | some o => exact absurd hn (hlive a (by rw [e]; simp))
    refine ⟨h.keep, h.live, h.mt, h.pm, fun x d' m => ?_, fun x d' m => ?_, fun x d' m => ?_, ?_⟩
    · rcases List.mem_append.mp m with m | m
      · obtain ⟨w, e, dn⟩ := frs _ rfl x d' m
        exact ⟨w, e, dn.to fun b _ _ z => up2 b z⟩
      · rw [List.mem_singleton] at m; cases m
    · rcases List.mem_append.mp m with m | m
      · obtain ⟨b, us, e, e2, dn⟩ := its _ rfl x _ d' m rfl
        obtain ⟨b', us', e', e2', _, r⟩ := h.ow x d' m
        rw [e] at e'
        cases e'
        exact ⟨b, us, e, e2, dn.to fun b _ _ z => up2 b z, r⟩
      · rw [List.mem_singleton] at m
        cases m
        exact ⟨a, vs, rfl, ha, dns.to fun b _ _ z => up b z, h0⟩
    · rcases List.mem_append.mp m with m | m
      · obtain ⟨b, us, e, e2, dn⟩ := its _ rfl x _ d' m rfl
        obtain ⟨b', us', e', e2', _, r⟩ := h.io x d' m
        rw [e] at e'
        cases e'
        exact ⟨b, us, e, e2, dn.to fun b _ _ z => up2 b z, r⟩
      · rw [List.mem_singleton] at m; cases m
    · rw [oe]
      refine List.nodup_append.mpr ⟨h.nd, by simp, fun b hb c hc' z => ?_⟩
      rw [List.mem_singleton.mp hc'] at z
      subst z
      exact nN (.inr hb)
/-- data that stood ahead of the call -/
theorem DN.past {Hc : Hp} {N2 : Addr → Prop} (h : DN K N Hc v d) (n2 : ∀ b, N2 b → N b ∨ Hc b = none) {Pc : Addr → Prop} (k : Keep Pc Hc H') (hp : ∀ b, Pc b → N2 b) : DN K N2 H' v d :=
  (h.to fun b o e z => (n2 b z).elim id fun z => by rw [z] at e; cases e).keep (k.mono hp)
theorem DNs.past {Hc : Hp} {N2 : Addr → Prop} {vs : List V} {ds : List PyData} (h : DNs K N Hc vs ds) (n2 : ∀ b, N2 b → N b ∨ Hc b = none) {Pc : Addr → Prop} (k : Keep Pc Hc H') (hp : ∀ b, Pc b → N2 b) : DNs K N2 H' vs ds :=
  (h.to fun b o e z => (n2 b z).elim id fun z => by rw [z] at e; cases e).keep (k.mono hp)
/-- a call that changes nothing of ours -/
theorem RelE.called {r : Sl} (h : RelE K M P H0 E H) (k : Same H H') (hres : ResOk K (Nw M E) H H' v r) : RelE K M P H0 (E ++ [(some v, r)]) H' := by
  refine (h.same k).getRes h.live hres (fun _ _ x d m => ?_) fun _ _ x s ds m eo => ?_
  · obtain ⟨w, e, dn⟩ := h.fr x d m
    exact ⟨w, e, dn.past (fun b z => z.elim .inl fun z => .inr z.2) (Keep.same (N := N0) k) fun b z => z.elim⟩
  · cases s with
    | ow l =>
      cases eo
      obtain ⟨a, vs, e, e2, dn, _⟩ := h.ow x _ m
      exact ⟨a, vs, e, k _ _ e2, dn.past (fun b z => z.elim .inl fun z => .inr z.2) (Keep.same (N := N0) k) fun b z => z.elim⟩
    | io l =>
      cases eo
      obtain ⟨a, vs, e, e2, dn, _⟩ := h.io x _ m
      exact ⟨a, vs, e, k _ _ e2, dn.past (fun b z => z.elim .inl fun z => .inr z.2) (Keep.same (N := N0) k) fun b z => z.elim⟩
    | _ => cases eo
theorem isRes_vw {r : Sl} (h : isRes r = true) : ∀ i, r ≠ .vw i := fun i z => by subst z; cases h
theorem Rel.withRes {r : Sl} (h : Rel K M P H0 σ0 σ env ts H) (e : RelE K M P H0 (ents σ env ts ++ [(some v, r)]) H') (hr : isRes r = true) : Rel K M P H0 σ0 σ env (ts ++ [(v, r)]) H' :=
  ⟨by rw [ents_app]; exact e, h.len, (fun w i m => by
    rcases List.mem_append.mp m with m | m
    · exact h.vw w i m
    · rw [List.mem_singleton] at m
      cases m
      cases hr), h.ios⟩
/-! f(..), every argument by its value -/
def dCall (sp : DSp) (t : DA) : DE := fun env R => t env fun ss env1 => ∃ ds, keepsOf env1 ss = some ds ∧ sp (ds.map .fr) fun r _ => R r env1
theorem argsFr {M' : Addr → Prop} {vs : List V} {ds : List PyData} (dns : DNs K M' H vs ds) (hm : ∀ a, M' a → H a ≠ none) : RelE K M' (ioOf vs (ds.map .fr)) H (tmp (vs.zip (ds.map .fr))) H := by
  have oe := oas_fr vs ds
  have ne : ∀ b, Nw M' (tmp (vs.zip (ds.map .fr))) b → M' b := fun b z => z.elim id fun z => by rw [oe] at z; cases z
  refine ⟨Keep.refl, fun a q => q, hm, fun a z => ?_, fun x d m => ?_, fun x l m => ?_, fun x l m => ?_, by rw [oe]; exact List.nodup_nil⟩
  · have z : a ∈ oas (tmp (vs.zip (ds.map .fr))) := z
    rw [oe] at z
    cases z
  · obtain ⟨w, d', e1, e2, dn⟩ := mem_frs dns m
    cases e2
    exact ⟨w, e1, dn.to fun b _ _ z => ne b z⟩
  · obtain ⟨w, d', e1, e2, dn⟩ := mem_frs dns m
    cases e2
  · obtain ⟨w, d', e1, e2, dn⟩ := mem_frs dns m
    cases e2
theorem call_up {sp : DSp} {tl : DA} : ∀ σ H Q, up K (dCall sp tl) σ H Q → tCall (spD K sp) [] E0 (upA K tl) σ H Q := fun σ H Q h => by
  obtain ⟨M, P, H0, σ0, env, ts, R, rel, ht, hq⟩ := h
  refine ⟨M, P, H0, σ0, env, ts, _, rel, ht, fun ss env1 vs H1 h1 hl rel1 => ?_⟩
  obtain ⟨ds, ek, hsp⟩ := h1
  rw [List.append_nil]
  have dns := rel1.keptAll hl (fun p hp => hp) ek
  have oe := oas_fr vs ds
  refine ⟨Nw M (ents σ env1 ts), ds.map .fr, fun r _ => R r env1, by simp [dns.len], argsFr dns fun a z hn => rel1.drop.newAddr hn z, hsp, fun r ss' v H' hR hr post => hq _ _ _ _ hR ?_⟩
  have k : Same H1 H' := (post.keep.mono (M := N0) fun b z => by
    have z : b ∈ oas (tmp (vs.zip (ds.map .fr))) := z
    rw [oe] at z
    cases z).none
  exact (rel1.drop).withRes (rel1.drop.e.called k (post.resOk hr)) hr
end
end L2
set_option Elab.async false
set_option linter.all false
set_option maxRecDepth 100000
set_option maxHeartbeats 4000000
namespace L2
open PySem PySem.Spec PyProof.Rows
section
variable {K : PySem.W.Frag} {M P N : Addr → Prop} {H0 H H' : Hp} {E A B : List Ent} {σ0 σ : St} {env : List Sl} {ts tt : List (V × Sl)} {v : V} {s : Sl} {d : PyData}
theorem tmp_cons (t : V × Sl) (ts : List (V × Sl)) : tmp (t :: ts) = (some t.1, t.2) :: tmp ts := rfl
theorem tmp_app (ts tt : List (V × Sl)) : tmp (ts ++ tt) = tmp ts ++ tmp tt := by simp [tmp]
theorem zip_split {α β : Type} : ∀ {l1 : List α} {m1 : List β} (x : α) (y : β) (l2 : List α) (m2 : List β), l1.length = m1.length → (l1 ++ x :: l2).zip (m1 ++ y :: m2) = l1.zip m1 ++ (x, y) :: l2.zip m2
  | [], [], _, _, _, _, _ => rfl
  | a :: l1, b :: m1, x, y, l2, m2, h => by
    show (a, b) :: (l1 ++ x :: l2).zip (m1 ++ y :: m2) = _
    rw [zip_split x y l2 m2 (by simpa using h)]
    rfl
  | [], _ :: _, _, _, _, _, h => by simp at h
  | _ :: _, [], _, _, _, _, h => by simp at h
/-- the callee's entries: data, one list that it may change, data -/
theorem argsIo {M' : Addr → Prop} {v1 v2 us : List V} {d1 d2 l : List PyData} {a : Addr} (q1 : DNs K M' H v1 d1) (q2 : DNs K M' H v2 d2) (hm : ∀ a, M' a → H a ≠ none) (ha : M' a) (hH : H a = some (.lst us)) (ql : DNs K M' H us l) :
    oas (tmp ((v1 ++ .ref a :: v2).zip (d1.map .fr ++ .io l :: d2.map .fr))) = [a] ∧
    RelE K M' (ioOf (v1 ++ .ref a :: v2) (d1.map .fr ++ .io l :: d2.map .fr)) H (tmp ((v1 ++ .ref a :: v2).zip (d1.map .fr ++ .io l :: d2.map .fr))) H := by
  have ez : (v1 ++ .ref a :: v2).zip (d1.map Sl.fr ++ .io l :: d2.map .fr) = v1.zip (d1.map .fr) ++ (.ref a, .io l) :: v2.zip (d2.map .fr) := zip_split _ _ _ _ (by simp [q1.len])
  have oe : oas (tmp ((v1 ++ .ref a :: v2).zip (d1.map .fr ++ .io l :: d2.map .fr))) = [a] := by
    rw [ez, tmp_app, tmp_cons, oas_app, oas_cons, oas_fr, oas_fr]
    rfl
  have ne : ∀ b, Nw M' (tmp ((v1 ++ .ref a :: v2).zip (d1.map .fr ++ .io l :: d2.map .fr))) b → M' b := fun b z => z.elim id fun z => by rw [oe, List.mem_singleton] at z; rw [z]; exact ha
  have cs : ∀ x s, (x, s) ∈ tmp ((v1 ++ .ref a :: v2).zip (d1.map .fr ++ .io l :: d2.map .fr)) → (∃ w d, x = some w ∧ s = .fr d ∧ DN K M' H w d) ∨ (x = some (.ref a) ∧ s = .io l) := fun x s m => by
    rw [ez, tmp_app, tmp_cons] at m
    rcases List.mem_append.mp m with m | m
    · exact .inl (mem_frs q1 m)
    · rcases List.mem_cons.mp m with m | m
      · cases m; exact .inr ⟨rfl, rfl⟩
      · exact .inl (mem_frs q2 m)
  refine ⟨oe, Keep.refl, fun a q => q, hm, fun b z => ?_, fun x d m => ?_, fun x l' m => ?_, fun x l' m => ?_, by rw [oe]; simp⟩
  · have z : b ∈ oas (tmp ((v1 ++ .ref a :: v2).zip (d1.map .fr ++ .io l :: d2.map .fr))) := z
    rw [oe, List.mem_singleton] at z
    rw [z]; exact ha
  · rcases cs x _ m with ⟨w, d', e1, e2, dn⟩ | ⟨_, e2⟩
    · cases e2; exact ⟨w, e1, dn.to fun b _ _ z => ne b z⟩
    · cases e2
  · rcases cs x _ m with ⟨w, d', e1, e2, dn⟩ | ⟨_, e2⟩
    · cases e2
    · cases e2
  · rcases cs x _ m with ⟨w, d', e1, e2, dn⟩ | ⟨e1, e2⟩
    · cases e2
    · cases e2
      exact ⟨a, us, e1, hH, ql.to fun b _ _ z => ne b z, by show a ∈ oas _; rw [oe]; simp⟩
/-- a temporary list of ours that another has changed is dropped -/
theorem RelE.lost {a : Addr} {l : List PyData} (h : RelE K M P H0 (E ++ [(some (.ref a), .ow l)]) H) (k : Keep (fun b => b = a) H H') (lv : ∀ b, H b ≠ none → H' b ≠ none) : RelE K M P H0 E H' ∧
    (∀ x d, (x, Sl.fr d) ∈ E → ∃ w, x = some w ∧ ∀ N2 : Addr → Prop, (∀ b, N2 b → Nw M (E ++ [(some (.ref a), .ow l)]) b ∨ H b = none) → N2 a → DN K N2 H' w d) ∧
    (∀ x s ds, (x, s) ∈ E → ownD s = some ds → ∃ b vs, x = some (.ref b) ∧ H' b = some (.lst vs) ∧ ∀ N2 : Addr → Prop, (∀ b, N2 b → Nw M (E ++ [(some (.ref a), .ow l)]) b ∨ H b = none) → N2 a → DNs K N2 H' vs ds) := by
  have oe : oas (E ++ [(some (.ref a), Sl.ow l)]) = oas E ++ [a] := by
    rw [oas_app]
    rfl
  have nd := h.nd
  rw [oe] at nd
  obtain ⟨n1, _, n3⟩ := List.nodup_append.mp nd
  have na : Nw M (E ++ [(some (.ref a), Sl.ow l)]) a := .inr (by rw [oe]; simp)
  obtain ⟨_, _, z, _, _, h0⟩ := h.ow _ _ (List.mem_append_right _ List.mem_cons_self)
  cases z
  have sub : ∀ b, Nw M E b → Nw M (E ++ [(some (.ref a), Sl.ow l)]) b := fun b z => nw_app z
  have kk : ∀ b, b = a → Nw M (E ++ [(some (.ref a), Sl.ow l)]) b := fun b z => by rw [z]; exact na
  have other : ∀ b x s, (x, s) ∈ E → own1 (x, s) = some b → b ≠ a := fun b x s m eo z => n3 b (mem_oas.mpr ⟨_, m, eo⟩) a (by simp) z
  refine ⟨⟨?_, fun b q => lv b (h.live b q), h.mt, h.pm, fun x d m => ?_, fun x d m => ?_, fun x d m => ?_, n1⟩, fun x d m => ?_, fun x s ds m eo => ?_⟩
  · intro b o np e
    refine k b o (fun z => ?_) (h.keep b o np e)
    rw [z, h0] at e
    cases e
  · obtain ⟨v, e, dn⟩ := h.fr x d (List.mem_append_left _ m)
    exact ⟨v, e, (dn.keep (k.mono kk)).to fun b _ _ z => sub b z⟩
  · obtain ⟨b, us, e, e2, dn, r⟩ := h.ow x d (List.mem_append_left _ m)
    subst e
    exact ⟨b, us, rfl, k _ _ (other b _ _ m rfl) e2, (dn.keep (k.mono kk)).to fun b _ _ z => sub b z, r⟩
  · obtain ⟨b, us, e, e2, dn, r⟩ := h.io x d (List.mem_append_left _ m)
    subst e
    exact ⟨b, us, rfl, k _ _ (other b _ _ m rfl) e2, (dn.keep (k.mono kk)).to fun b _ _ z => sub b z, r⟩
  · obtain ⟨v, e, dn⟩ := h.fr x d (List.mem_append_left _ m)
    exact ⟨v, e, fun N2 n2 n2a => dn.past n2 k fun b z => by rw [z]; exact n2a⟩
  · cases s with
    | ow l' =>
      cases eo
      obtain ⟨b, us, e, e2, dn, r⟩ := h.ow x _ (List.mem_append_left _ m)
      subst e
      exact ⟨b, us, rfl, k _ _ (other b _ _ m rfl) e2, fun N2 n2 n2a => dn.past n2 k fun b z => by rw [z]; exact n2a⟩
    | io l' =>
      cases eo
      obtain ⟨b, us, e, e2, dn, r⟩ := h.io x _ (List.mem_append_left _ m)
      subst e
      exact ⟨b, us, rfl, k _ _ (other b _ _ m rfl) e2, fun N2 n2 n2a => dn.past n2 k fun b z => by rw [z]; exact n2a⟩
    | _ => cases eo
/-! f(new list that it may change, ..) -/
def dCallT (sp : DSp) (t : DA) : DE := fun env R => t env fun ss env1 => ∃ l ss' ds, ss = .ow l :: ss' ∧ keepsOf env1 ss' = some ds ∧ sp (.io l :: ds.map .fr) fun r _ => R r env1
theorem callT_up {sp : DSp} {tl : DA} : ∀ σ H Q, up K (dCallT sp tl) σ H Q → tCall (spD K sp) [] E0 (upA K tl) σ H Q := fun σ H Q h => by
  obtain ⟨M, P, H0, σ0, env, ts, R, rel, ht, hq⟩ := h
  refine ⟨M, P, H0, σ0, env, ts, _, rel, ht, fun ss env1 vs H1 h1 hl rel1 => ?_⟩
  obtain ⟨l, ss', ds, rfl, ek, hsp⟩ := h1
  rw [List.append_nil]
  match vs, hl with
  | v1 :: vs', hl =>
    have rel1' : Rel K M P H0 σ0 σ env1 ((ts ++ [(v1, .ow l)]) ++ vs'.zip ss') H1 := by simpa using rel1
    have dns := rel1'.keptAll (by simpa using hl) (fun p hp => hp) ek
    have relT := rel1'.drop
    have hE := relT.e
    rw [ents_app] at hE
    obtain ⟨a, us, ea, hH, ql, h0⟩ := hE.ow (some v1) l (List.mem_append_right _ (by simp [tmp]))
    cases ea
    have hE : RelE K M P H0 (ents σ env1 ts ++ [(some (.ref a), .ow l)]) H1 := hE
    have eqN : Nw M (ents σ env1 (ts ++ [(.ref a, .ow l)])) = Nw M (ents σ env1 ts ++ [(some (.ref a), .ow l)]) := by rw [ents_app]; rfl
    rw [eqN] at dns
    have ma : Nw M (ents σ env1 ts ++ [(some (.ref a), .ow l)]) a := .inr (by rw [oas_app]; exact List.mem_append_right _ (by simp [oas, own1]))
    have arg := argsIo (v1 := []) (d1 := []) (l := l) (us := us) (a := a) (K := K) (M' := Nw M (ents σ env1 ts ++ [(some (.ref a), .ow l)])) (H := H1) .nil dns (fun b z hn => relT.newAddr hn (by rw [eqN]; exact z)) ma hH ql
    refine ⟨_, .io l :: ds.map .fr, fun r _ => R r env1, by simp [dns.len], arg.2, hsp, fun r ss2 v H' hR hr post => hq _ _ _ _ hR ?_⟩
    have k : Keep (fun b => b = a) H1 H' := post.keep.mono fun b z => by
      have z : b ∈ oas (tmp ((.ref a :: vs').zip (.io l :: ds.map .fr))) := z
      have oe := arg.1
      simp only [List.nil_append, List.map_nil] at oe
      rw [oe, List.mem_singleton] at z
      exact z
    obtain ⟨rel', f1, f2⟩ := hE.lost k post.live
    have rk := post.resOk hr
    have rk' : ResOk K (Nw M (ents σ env1 ts)) H1 H' v r := rk.to fun b z => nw_app z
    have n2 : ∀ b, ((Nw M (ents σ env1 ts) b ∨ (v = .ref b ∧ H1 b = none)) ∨ b = a) → Nw M (ents σ env1 ts ++ [(some (.ref a), .ow l)]) b ∨ H1 b = none := fun b z => by
      rcases z with (z | z) | z
      · exact .inl (nw_app z)
      · exact .inr z.2
      · rw [z]; exact .inl ma
    refine relT.drop.withRes ?_ hr
    refine rel'.getRes relT.e.live rk' (fun _ _ x d m => ?_) fun _ _ x s ds' m eo => ?_
    · obtain ⟨w, e, f⟩ := f1 x d m
      exact ⟨w, e, (f (fun b => (Nw M (ents σ env1 ts) b ∨ (v = .ref b ∧ H1 b = none)) ∨ b = a) n2 (.inr rfl)).to fun b _ _ z => .inl z⟩
    · obtain ⟨b, us', e, e2, f⟩ := f2 x s ds' m eo
      exact ⟨b, us', e, e2, (f (fun b => (Nw M (ents σ env1 ts) b ∨ (v = .ref b ∧ H1 b = none)) ∨ b = a) n2 (.inr rfl)).to fun b _ _ z => .inl z⟩
/-! f(.., x, ..), x a list of ours in a slot that it may change -/
def dCallS (sp : DSp) (m : Nat) (t : DA) : DE := fun env R => t env fun ss env1 => ∃ i s0 l d1 d2, ss[m]? = some (.vw i) ∧ env1[i]? = some s0 ∧ ownD s0 = some l ∧ keepsOf env1 (ss.take m) = some d1 ∧ keepsOf env1 (ss.drop (m + 1)) = some d2 ∧
  sp (d1.map .fr ++ .io l :: d2.map .fr) fun r as => ∃ l' s', as[m]? = some (.io l') ∧ setSl s0 l' = some s' ∧ R r (env1.set i s')
theorem take_zip {α β : Type} (l : List α) (m : List β) (n : Nat) : ∀ p ∈ (l.take n).zip (m.take n), p ∈ l.zip m := fun p hp => by
  rw [List.zip, ← List.take_zipWith] at hp
  exact List.mem_of_mem_take hp
theorem drop_zip {α β : Type} (l : List α) (m : List β) (n : Nat) : ∀ p ∈ (l.drop n).zip (m.drop n), p ∈ l.zip m := fun p hp => by
  rw [List.zip, ← List.drop_zipWith] at hp
  exact List.mem_of_mem_drop hp
theorem cut_at {α : Type} {l : List α} {m : Nat} {x : α} (h : l[m]? = some x) : l = l.take m ++ x :: l.drop (m + 1) := by
  obtain ⟨hm, e⟩ := List.getElem?_eq_some_iff.mp h
  rw [← e, List.getElem_cons_drop, List.take_append_drop]
theorem callS_up {sp : DSp} {m : Nat} {tl : DA} : ∀ σ H Q, up K (dCallS sp m tl) σ H Q → tCall (spD K sp) [] E0 (upA K tl) σ H Q := fun σ H Q h => by
  obtain ⟨M, P, H0, σ0, env, ts, R, rel, ht, hq⟩ := h
  refine ⟨M, P, H0, σ0, env, ts, _, rel, ht, fun ss env1 vs H1 h1 hl rel1 => ?_⟩
  obtain ⟨i, s0, l, d1, d2, em, ei, eo, k1, k2, hsp⟩ := h1
  rw [List.append_nil]
  have relT := rel1.drop
  obtain ⟨a, us, ea, hH, ql⟩ := relT.mine ei eo
  have hm : m < ss.length := (List.getElem?_eq_some_iff.mp em).1
  have hmv : m < vs.length := by omega
  have va : vs[m]? = some (.ref a) := by
    have mz : (vs[m], ss[m]) ∈ vs.zip ss := by
      have hz : m < (vs.zip ss).length := by rw [List.length_zip]; omega
      have := List.getElem_mem hz
      rwa [List.getElem_zip] at this
    rw [(List.getElem?_eq_some_iff.mp em).2] at mz
    have q := rel1.vw _ _ (List.mem_append_right _ mz)
    rw [ea] at q
    rw [List.getElem?_eq_getElem hmv]
    exact congrArg some (Option.some.inj (Option.some.inj q)).symm
  have ev := cut_at va
  have q1 := rel1.keptAll (vs := vs.take m) (ss := ss.take m) (by simp; omega) (take_zip _ _ _) k1
  have q2 := rel1.keptAll (vs := vs.drop (m + 1)) (ss := ss.drop (m + 1)) (by simp; omega) (drop_zip _ _ _) k2
  have hE := relT.e
  have ma : Nw M (ents σ env1 ts) a := by
    obtain ⟨x, e1, mm⟩ := relT.slot ei
    rw [ea] at e1
    cases e1
    refine .inr (mem_oas.mpr ⟨_, mm, ?_⟩)
    cases s0 <;> simp [ownD] at eo <;> rfl
  have arg := argsIo (l := l) (us := us) (a := a) q1 q2 (fun b z hn => relT.newAddr hn z) ma hH ql
  rw [← ev] at arg
  have ld1 := q1.len
  have ld2 := q2.len
  refine ⟨_, d1.map .fr ++ .io l :: d2.map .fr, _, ?_, arg.2, hsp, fun r ss2 v H' hR hr post => ?_⟩
  · rw [ev]
    simp only [List.length_append, List.length_cons, List.length_map]
    omega
  obtain ⟨l', s', e2, es, hR⟩ := hR
  refine hq _ _ _ _ hR ?_
  have k : Keep (fun b => b = a) H1 H' := post.keep.mono fun b z => by
    have z : b ∈ oas (tmp (vs.zip (d1.map .fr ++ .io l :: d2.map .fr))) := z
    rw [arg.1, List.mem_singleton] at z
    exact z
  -- the changed list
  have mp : ((some (.ref a), .io l') : Ent) ∈ tmp ((v, r) :: vs.zip ss2) := by
    rw [tmp_cons]
    refine List.mem_cons_of_mem _ (List.mem_map.mpr ⟨(.ref a, .io l'), ?_, rfl⟩)
    have h2 : m < ss2.length := (List.getElem?_eq_some_iff.mp e2).1
    have hz : m < (vs.zip ss2).length := by rw [List.length_zip]; omega
    have := List.getElem_mem hz
    rw [List.getElem_zip, (List.getElem?_eq_some_iff.mp va).2, (List.getElem?_eq_some_iff.mp e2).2] at this
    exact this
  obtain ⟨a', us', z, hH', ql', _⟩ := post.io _ _ mp
  cases z
  obtain ⟨x, A, B, e3, sp1, sp2⟩ := relT.split ei
  rw [ea] at e3
  cases e3
  have iso : isOw s0 l' s' := by cases s0 <;> simp [setSl] at es <;> (subst es; rfl)
  rw [sp1] at hE
  have dnl : DNs K (Nw M (A ++ (some (.ref a), s0) :: B)) H' us' l' := ql'.to fun b _ _ z => .inl (by rw [sp1]; exact z)
  have hM := hE.muted iso k post.live hH' dnl
  have neq : Nw M (ents σ (env1.set i s') ts) = Nw M (ents σ env1 ts) := by
    rw [sp1, sp2]
    have oa : own1 (some (.ref a), s0) = some a ∧ own1 (some (.ref a), s') = some a := by
      cases s0 <;> first | exact iso.elim | (cases iso; exact ⟨rfl, rfl⟩)
    unfold Nw
    rw [oas_app, oas_app, oas_cons, oas_cons, oa.1, oa.2]
  rw [← sp2] at hM
  have rk : ResOk K (Nw M (ents σ (env1.set i s') ts)) H1 H' v r := by rw [neq]; exact post.resOk hr
  have relB : Rel K M P H0 σ0 σ (env1.set i s') ts H' := ⟨hM, by simp [relT.len], relT.vw, fun j ds'' e' => by
    by_cases hj : i = j
    · subst hj
      have hi : i < env1.length := (List.getElem?_eq_some_iff.mp ei).1
      rw [List.getElem?_set_self hi] at e'
      cases e'
      cases s0 with
      | io ds0 => exact relT.ios i ds0 ei
      | _ => simp [setSl] at es
    · rw [List.getElem?_set_ne hj] at e'
      exact relT.ios j ds'' e'⟩
  refine relB.withRes ?_ hr
  have old : ∀ x t, (x, t) ∈ ents σ (env1.set i s') ts → (x, t) = (some (.ref a), s') ∨ ((x, t) ∈ A ∨ (x, t) ∈ B) := fun x t m => by
    rw [sp2] at m
    rcases List.mem_append.mp m with m | m
    · exact .inr (.inl m)
    · rcases List.mem_cons.mp m with m | m
      · exact .inl m
      · exact .inr (.inr m)
  have back : ∀ x t, (x, t) ∈ A ∨ (x, t) ∈ B → (x, t) ∈ A ++ (some (.ref a), s0) :: B := fun x t m => by
    rcases m with m | m
    · exact List.mem_append_left _ m
    · exact List.mem_append_right _ (List.mem_cons_of_mem _ m)
  have n2 : ∀ b, (Nw M (ents σ (env1.set i s') ts) b ∨ (v = .ref b ∧ H1 b = none)) → Nw M (A ++ (some (.ref a), s0) :: B) b ∨ H1 b = none := fun b z => by
    rw [neq, sp1] at z
    exact z.elim .inl fun z => .inr z.2
  have pa : ∀ b, b = a → (Nw M (ents σ (env1.set i s') ts) b ∨ (v = .ref b ∧ H1 b = none)) := fun b z => by rw [z, neq]; exact .inl ma
  have oa0 : own1 (some (.ref a), s0) = some a := by cases s0 <;> first | exact iso.elim | rfl
  have nd := hE.nd
  rw [oas_app, oas_cons, oa0] at nd
  obtain ⟨_, nd2, nd3⟩ := List.nodup_append.mp nd
  obtain ⟨nd4, _⟩ := List.nodup_cons.mp nd2
  have other : ∀ x t b, (x, t) ∈ A ∨ (x, t) ∈ B → own1 (x, t) = some b → b ≠ a := fun x t b m eo z => by
    subst z
    rcases m with m | m
    · exact nd3 b (mem_oas.mpr ⟨_, m, eo⟩) b List.mem_cons_self rfl
    · exact nd4 (mem_oas.mpr ⟨_, m, eo⟩)
  refine hM.getRes relT.e.live rk (fun _ _ x d mm => ?_) fun lr er x t ds' mm eo' => ?_
  · rcases old _ _ mm with mm | mm
    · cases s0 <;> first | exact iso.elim | (have iso : s' = _ := iso; rw [iso] at mm; cases mm)
    · obtain ⟨w, e, dn⟩ := hE.fr x d (back _ _ mm)
      exact ⟨w, e, dn.past n2 k pa⟩
  · rcases old _ _ mm with mm | mm
    · cases mm
      have el : ds' = l' := by cases s0 <;> simp [setSl] at es <;> (subst es; exact (Option.some.inj eo').symm)
      subst el
      refine ⟨a, us', rfl, hH', ql'.to fun b _ _ z => ?_⟩
      rcases z with z | z
      · exact .inl (by rw [← neq]; exact z)
      · obtain ⟨z1, z2⟩ := z
        subst z1
        subst er
        exact .inr (by rw [tmp_cons, oas_cons]; simp [own1])
    · cases t with
      | ow l2 =>
        cases eo'
        obtain ⟨b, us2, e, e2', dn, _⟩ := hE.ow x _ (back _ _ mm)
        subst e
        exact ⟨b, us2, rfl, k _ _ (other _ _ b mm rfl) e2', dn.past n2 k pa⟩
      | io l2 =>
        cases eo'
        obtain ⟨b, us2, e, e2', dn, _⟩ := hE.io x _ (back _ _ mm)
        subst e
        exact ⟨b, us2, rfl, k _ _ (other _ _ b mm rfl) e2', dn.past n2 k pa⟩
      | _ => cases eo'
end
end L2
set_option Elab.async false
set_option linter.all false
set_option maxRecDepth 100000
set_option maxHeartbeats 4000000
namespace L2
open PySem PySem.Spec PyProof.Rows
/-! ### statements over data -/
structure DEnds where
  nx : List Sl → Prop
  rt : Sl → List Sl → Prop
  bk : List Sl → Prop := fun _ => False
  ct : List Sl → Prop := fun _ => False
abbrev DS := DEnds → List Sl → Prop
def NoVw (ts : List (V × Sl)) : Prop := ∀ v i, (v, Sl.vw i) ∉ ts
/-- the ends over data lead to the wanted ends -/
structure EndsOk (K : PySem.W.Frag) (M P : Addr → Prop) (H0 : Hp) (σ0 : St) (ts : List (V × Sl)) (DD : DEnds) (D : Ends) : Prop where
  nx : ∀ σ' env' H', DD.nx env' → Rel K M P H0 σ0 σ' env' ts H' → D.nx σ' H'
  rt : ∀ s env' v σ' H', DD.rt s env' → Rel K M P H0 σ0 σ' env' (ts ++ [(v, s)]) H' → D.rt v H'
  bk : ∀ σ' env' H', DD.bk env' → Rel K M P H0 σ0 σ' env' ts H' → D.bk σ' H'
  ct : ∀ σ' env' H', DD.ct env' → Rel K M P H0 σ0 σ' env' ts H' → D.ct σ' H'
def upS (K : PySem.W.Frag) (t : DS) : TS := fun D σ H => ∃ (M P : Addr → Prop) (H0 : Hp) (σ0 : St) (env : List Sl) (ts : List (V × Sl)) (DD : DEnds), NoVw ts ∧ Rel K M P H0 σ0 σ env ts H ∧ t DD env ∧ EndsOk K M P H0 σ0 ts DD D
theorem PS.imp {X : Cx} {e : Stmt} {t t' : TS} (h : PS X e t) (k : ∀ D σ H, t' D σ H → t D σ H) : PS X e t' := fun pins s σ H D I hw => h pins s σ H D I (k D σ H hw)
theorem PSs.imp {X : Cx} {e : List Stmt} {t t' : TS} (h : PSs X e t) (k : ∀ D σ H, t' D σ H → t D σ H) : PSs X e t' := fun pins s σ H D I hw => h pins s σ H D I (k D σ H hw)
section
variable {K : PySem.W.Frag} {M P N : Addr → Prop} {H0 H H' : Hp} {σ0 σ : St} {env : List Sl} {ts tt : List (V × Sl)} {v : V} {s : Sl} {d : PyData}
/-- what may be stored in a slot -/
def stoOf (env : List Sl) : Sl → Option Sl
  | .fr d => some (.fr d)
  | .ow ds => some (.ow ds)
  | .vw i => ((env[i]?).bind slK).map .fr
  | _ => none
theorem Rel.unVw (h : Rel K M P H0 σ0 σ env (ts ++ [(v, s)]) H) {s' : Sl} (e : stoOf env s = some s') : Rel K M P H0 σ0 σ env (ts ++ [(v, s')]) H ∧ ((∃ d, s' = .fr d) ∨ ∃ l, s' = .ow l) := by
  cases s with
  | fr d => cases e; exact ⟨h, .inl ⟨d, rfl⟩⟩
  | ow ds => cases e; exact ⟨h, .inr ⟨ds, rfl⟩⟩
  | vw i =>
    have e : ((env[i]?).bind slK).map Sl.fr = some s' := e
    cases q : (env[i]?).bind slK with
    | none => rw [q] at e; cases e
    | some d =>
      rw [q] at e
      cases e
      exact ⟨h.drop.addFr (h.kept (tt := [(v, .vw i)]) (s := .vw i) (by simp) q), .inl ⟨d, rfl⟩⟩
  | _ => cases e
theorem zip_set2 {σ : St} {env : List Sl} {i : Nat} {x : Option V} {s' : Sl} : (σ.set i x).zip (env.set i s') = (σ.zip env).set i (x, s') := by
  apply List.ext_getElem?
  intro j
  rw [zip_get]
  by_cases hj : i = j
  · subst hj
    rw [List.getElem?_set_self', List.getElem?_set_self', List.getElem?_set_self', zip_get]
    cases σ[i]? <;> cases env[i]? <;> rfl
  · rw [List.getElem?_set_ne hj, List.getElem?_set_ne hj, List.getElem?_set_ne hj, zip_get]
/-- the temporary goes into slot i -/
theorem Rel.store (h : Rel K M P H0 σ0 σ env (ts ++ [(v, s)]) H) (nv : NoVw ts) {i : Nat} (hi : i < env.length) (hs : (∃ d, s = .fr d) ∨ ∃ l, s = .ow l) : Rel K M P H0 σ0 (σ.set i (some v)) (env.set i s) ts H := by
  have hiz : i < (σ.zip env).length := by rw [List.length_zip, h.len]; omega
  obtain ⟨A, B, q1, q2⟩ := mem_split (List.getElem?_eq_getElem hiz)
  refine ⟨?_, by simp [h.len], fun w j m => absurd m (nv w j), fun j ds e => ?_⟩
  · have hE := h.e
    unfold ents at hE ⊢
    rw [q1, tmp_app, List.append_assoc] at hE
    rw [zip_set2, q2, List.append_assoc]
    have e2 : ((σ.zip env)[i] :: B) ++ (tmp ts ++ tmp [(v, s)]) = (σ.zip env)[i] :: ((B ++ tmp ts) ++ [(some v, s)]) := by simp [tmp]
    rw [e2] at hE
    have := hE.move
    simpa using this
  · by_cases hj : i = j
    · subst hj
      rw [List.getElem?_set_self hi] at e
      cases e
      rcases hs with ⟨_, z⟩ | ⟨_, z⟩ <;> cases z
    · rw [List.getElem?_set_ne hj] at e
      rw [List.getElem?_set_ne hj]
      exact h.ios j ds e
end
section
variable {X : Cx} {K : PySem.W.Frag} {pos : Pos} {st : Stmt} {rest a b : List Stmt} {t u : DS} {e c : Expr} {te : DE} {tc : DT}
def dNext : DS := fun DD env => DD.nx env
def dSeq (t u : DS) : DS := fun DD env => t { DD with nx := u DD } env
def dCut (t u : DS) : DS := fun DD env => ∃ R : List Sl → Prop, t { DD with nx := R } env ∧ ∀ env', R env' → u DD env'
theorem qs_nil : PSs X [] (upS K dNext) := pss_nil.imp fun D σ H h => by
  obtain ⟨M, P, H0, σ0, env, ts, DD, nv, rel, ht, ok⟩ := h
  exact ok.nx _ _ _ ht rel
theorem qs_cons (h1 : PS X st (upS K t)) (h2 : PSs X rest (upS K u)) : PSs X (st :: rest) (upS K (dSeq t u)) := (pss_cons h1 h2).imp fun D σ H h => by
  obtain ⟨M, P, H0, σ0, env, ts, DD, nv, rel, ht, ok⟩ := h
  exact ⟨M, P, H0, σ0, env, ts, _, nv, rel, ht, ⟨fun σ' env' H' q r => ⟨M, P, H0, σ0, env', ts, DD, nv, r, q, ok⟩, ok.rt, ok.bk, ok.ct⟩⟩
theorem qs_cut (h1 : PS X st (upS K t)) (h2 : PSs X rest (upS K u)) : PSs X (st :: rest) (upS K (dCut t u)) := (pss_cut h1 h2).imp fun D σ H h => by
  obtain ⟨M, P, H0, σ0, env, ts, DD, nv, rel, ⟨R, ht, hR⟩, ok⟩ := h
  exact ⟨fun σ' H' => ∃ env', R env' ∧ Rel K M P H0 σ0 σ' env' ts H', ⟨M, P, H0, σ0, env, ts, _, nv, rel, ht, ⟨fun σ' env' H' q r => ⟨env', q, r⟩, ok.rt, ok.bk, ok.ct⟩⟩,
    fun σ' H' ⟨env', q, r⟩ => ⟨M, P, H0, σ0, env', ts, DD, nv, r, hR env' q, ok⟩⟩
theorem qs_one (h1 : PS X st (upS K t)) : PSs X [st] (upS K t) := pss_one h1
theorem q_pass : PS X (.Pass pos) (upS K dNext) := ps_pass.imp fun D σ H h => by
  obtain ⟨M, P, H0, σ0, env, ts, DD, nv, rel, ht, ok⟩ := h
  exact ok.nx _ _ _ ht rel
def dBrk : DS := fun DD env => DD.bk env
def dCont : DS := fun DD env => DD.ct env
theorem q_break : PS X (.Break pos) (upS K dBrk) := ps_break.imp fun D σ H h => by
  obtain ⟨M, P, H0, σ0, env, ts, DD, nv, rel, ht, ok⟩ := h
  exact ok.bk _ _ _ ht rel
theorem q_continue : PS X (.Continue pos) (upS K dCont) := ps_continue.imp fun D σ H h => by
  obtain ⟨M, P, H0, σ0, env, ts, DD, nv, rel, ht, ok⟩ := h
  exact ok.ct _ _ _ ht rel
def dDrop (te : DE) : DS := fun DD env => te env fun _ env1 => DD.nx env1
theorem q_expr (he : PE X e (up K te)) (hs : swapsWith e none pos.line X.env = pure false := by rfl) : PS X (.Expr e pos) (upS K (dDrop te)) := (ps_expr he hs).imp fun D σ H h => by
  obtain ⟨M, P, H0, σ0, env, ts, DD, nv, rel, ht, ok⟩ := h
  exact ⟨M, P, H0, σ0, env, ts, _, rel, ht, fun s1 env1 v1 H1 h1 rel1 => ok.nx _ _ _ h1 rel1.drop⟩
def dRet (te : DE) : DS := fun DD env => te env DD.rt
theorem q_ret (he : PE X e (up K te)) : PS X (.Return (some e) pos) (upS K (dRet te)) := (ps_ret he).imp fun D σ H h => by
  obtain ⟨M, P, H0, σ0, env, ts, DD, nv, rel, ht, ok⟩ := h
  exact ⟨M, P, H0, σ0, env, ts, _, rel, ht, fun s1 env1 v1 H1 h1 rel1 => ok.rt _ _ _ _ _ h1 rel1⟩
def dRetN : DS := fun DD env => DD.rt (.fr .none) env
theorem q_retN : PS X (.Return none pos) (upS K dRetN) := ps_retN.imp fun D σ H h => by
  obtain ⟨M, P, H0, σ0, env, ts, DD, nv, rel, ht, ok⟩ := h
  exact ok.rt _ _ _ σ _ ht (rel.addFr .non)
def dIfS (c : DT) (t u : DS) : DS := fun DD env => c env fun k env1 => if k = true then t DD env1 else u DD env1
theorem q_if (hc : PT X c (upT K tc)) (ha : PSs X a (upS K t)) (hb : PSs X b (upS K u)) : PS X (.If c a b pos) (upS K (dIfS tc t u)) := (ps_if hc ha hb).imp fun D σ H h => by
  obtain ⟨M, P, H0, σ0, env, ts, DD, nv, rel, ht, ok⟩ := h
  refine ⟨M, P, H0, σ0, env, ts, _, rel, ht, fun k env1 H1 h1 rel1 => ?_⟩
  cases k with
  | true => exact ⟨M, P, H0, σ0, env1, ts, DD, nv, rel1, h1, ok⟩
  | false => exact ⟨M, P, H0, σ0, env1, ts, DD, nv, rel1, h1, ok⟩
/-- x = e, x in slot i -/
def dSet (i : Nat) (te : DE) : DS := fun DD env => te env fun s env1 => ∃ s', i < env1.length ∧ stoOf env1 s = some s' ∧ DD.nx (env1.set i s')
theorem q_set {i : Nat} {x : Str} {pos' : Pos} (hN : X.N.Nodup) (hi : X.N[i]? = some x) (hx : Loc X.env.scope x) (he : PE X e (up K te)) (hs : swapsWith e (some (.Name x pos')) pos.line X.env = pure false := by rfl) (hf : X.fn x = true ∨ X.env.scope.names.lookup x = some .local := by first | exact .inl rfl | exact .inr rfl | assumption) : PS X (.Assign [.Name x pos'] e pos) (upS K (dSet i te)) :=
  (ps_set hN hi hx he hs hf).imp fun D σ H h => by
  obtain ⟨M, P, H0, σ0, env, ts, DD, nv, rel, ht, ok⟩ := h
  refine ⟨M, P, H0, σ0, env, ts, _, rel, ht, fun s1 env1 v1 H1 h1 rel1 => ?_⟩
  obtain ⟨s', hl, es, hR⟩ := h1
  obtain ⟨r, cs⟩ := rel1.unVw es
  exact ok.nx _ _ _ hR (r.store nv hl cs)
end
end L2
set_option Elab.async false
set_option linter.all false
set_option maxRecDepth 100000
set_option maxHeartbeats 4000000
namespace L2
open PySem PySem.Spec PyProof.Rows
/-! ### targets -/
abbrev DG := PyData → List Sl → (List Sl → Prop) → Prop
abbrev DGs := List PyData → List Sl → (List Sl → Prop) → Prop
def upG (K : PySem.W.Frag) (g : DG) : TG := fun v σ H Q => ∃ (M P : Addr → Prop) (H0 : Hp) (σ0 : St) (env : List Sl) (ts : List (V × Sl)) (d : PyData) (R : List Sl → Prop), NoVw ts ∧ Rel K M P H0 σ0 σ env ts H ∧ DN K (Nw M (ents σ env ts)) H v d ∧ g d env R ∧
  ∀ σ' env' H', R env' → Rel K M P H0 σ0 σ' env' ts H' → Q σ' H'
def upGs (K : PySem.W.Frag) (g : DGs) : TGs := fun vs σ H Q => ∃ (M P : Addr → Prop) (H0 : Hp) (σ0 : St) (env : List Sl) (ts : List (V × Sl)) (ds : List PyData) (R : List Sl → Prop), NoVw ts ∧ Rel K M P H0 σ0 σ env ts H ∧ DNs K (Nw M (ents σ env ts)) H vs ds ∧ g ds env R ∧
  ∀ σ' env' H', R env' → Rel K M P H0 σ0 σ' env' ts H' → Q σ' H'
theorem PG.imp {X : Cx} {e : Expr} {t t' : TG} (h : PG X e t) (k : ∀ v σ H Q, t' v σ H Q → t v σ H Q) : PG X e t' := fun pins s σ H v u Q I r hw => h pins s σ H v u Q I r (k v σ H Q hw)
theorem PGs.imp {X : Cx} {e : List Expr} {t t' : TGs} (h : PGs X e t) (k : ∀ v σ H Q, t' v σ H Q → t v σ H Q) : PGs X e t' := fun pins s σ H v u Q I r hw => h pins s σ H v u Q I r (k v σ H Q hw)
section
variable {K : PySem.W.Frag} {M P N : Addr → Prop} {H0 H H' : Hp} {σ0 σ : St} {env : List Sl} {ts tt kp : List (V × Sl)} {v : V} {s : Sl} {d : PyData} {X : Cx} {pos : Pos} {e : Expr} {es : List Expr}
theorem oas_tmpFr (v : V) (d : PyData) : oas (tmp [(v, Sl.fr d)]) = [] := by
  show oas [(some v, Sl.fr d)] = []
  rw [oas_cons]
  cases v <;> rfl
theorem nw_tmpFr {E : List Ent} {v : V} {d : PyData} : Nw M (E ++ tmp [(v, Sl.fr d)]) = Nw M E := by
  unfold Nw
  rw [oas_app, oas_tmpFr, List.append_nil]
def dgName (i : Nat) : DG := fun d env R => i < env.length ∧ R (env.set i (.fr d))
theorem qg_name {i : Nat} {x : Str} (hN : X.N.Nodup) (hi : X.N[i]? = some x) (hx : Loc X.env.scope x) (hf : X.fn x = true ∨ X.env.scope.names.lookup x = some .local := by first | exact .inl rfl | exact .inr rfl | assumption) : PG X (.Name x pos) (upG K (dgName i)) :=
  (pg_name hN hi hx hf).imp fun v σ H Q h => by
  obtain ⟨M, P, H0, σ0, env, ts, d, R, nv, rel, dn, ⟨hl, hR⟩, hq⟩ := h
  exact hq _ _ _ hR ((rel.addFr dn).store nv hl (.inl ⟨d, rfl⟩))
def dgNil : DGs := fun ds env R => ds = [] ∧ R env
def dgCons (g : DG) (gs : DGs) : DGs := fun ds env R => ∃ d r, ds = d :: r ∧ g d env fun env1 => gs r env1 R
theorem qgs_nil : PGs X [] (upGs K dgNil) := pgs_nil.imp fun v σ H Q h => by
  obtain ⟨M, P, H0, σ0, env, ts, ds, R, nv, rel, dn, ⟨rfl, hR⟩, hq⟩ := h
  cases dn
  exact ⟨rfl, hq _ _ _ hR rel⟩
theorem keeps_fr (env : List Sl) : ∀ ds : List PyData, keepsOf env (ds.map .fr) = some ds
  | [] => rfl
  | d :: ds => by
    show (keepOf env (Sl.fr d)).bind _ = _
    rw [keeps_fr env ds]
    rfl
theorem noVw_fr (vs : List V) (ds : List PyData) (nv : NoVw ts) : NoVw (ts ++ vs.zip (ds.map .fr)) := fun w i m => by
  rcases List.mem_append.mp m with m | m
  · exact nv w i m
  · obtain ⟨d, _, e⟩ := List.mem_map.mp (List.of_mem_zip m).2
    cases e
theorem Rel.addFrs : ∀ {vs : List V} {ds : List PyData} {ts : List (V × Sl)}, Rel K M P H0 σ0 σ env ts H → DNs K (Nw M (ents σ env ts)) H vs ds → Rel K M P H0 σ0 σ env (ts ++ vs.zip (ds.map .fr)) H
  | _, _, ts, rel, .nil => by simpa using rel
  | _, _, ts, rel, @DNs.cons _ _ _ v vs d ds h q => by
    have r := rel.addFr h
    have q' : DNs K (Nw M (ents σ env (ts ++ [(v, .fr d)]))) H vs ds := q.to fun b _ _ z => by rw [ents_app, nw_tmpFr] at z; exact z
    have := Rel.addFrs r q'
    simpa using this
theorem qgs_cons {g : DG} {gs : DGs} (h1 : PG X e (upG K g)) (h2 : PGs X es (upGs K gs)) (hs : (assignEach (e :: es) X.env).map (·.2) = assign e X.env :: (assignEach es X.env).map (·.2) := by rfl) : PGs X (e :: es) (upGs K (dgCons g gs)) :=
  (pgs_cons h1 h2 hs).imp fun vs σ H Q h => by
  obtain ⟨M, P, H0, σ0, env, ts, ds, R, nv, rel, dn, ⟨d, r, rfl, hg⟩, hq⟩ := h
  cases dn with
  | @cons v vs _ _ h q =>
    have relA := rel.addFrs q
    have hN : DN K (Nw M (ents σ env (ts ++ vs.zip (r.map .fr)))) H v d := h.to fun b _ _ z => by
      rw [ents_app] at z
      rcases z with z | z
      · exact .inl z
      · rw [oas_app, oas_fr, List.append_nil] at z
        exact .inr z
    refine ⟨v, vs, rfl, M, P, H0, σ0, env, ts ++ vs.zip (r.map .fr), d, _, noVw_fr _ _ nv, relA, hN, hg, fun σ' env' H' hR' rel' => ?_⟩
    exact ⟨M, P, H0, σ0, env', ts, r, R, nv, rel'.drop, rel'.keptAll (by simp [q.len]) (fun p hp => hp) (keeps_fr _ _), hR', hq⟩
def dgTup (n : Nat) (gs : DGs) : DG := fun d env R => ∃ ds, d = .tuple ds ∧ ds.length = n ∧ gs ds env R
theorem qg_tup {k : Nat} {gs : DGs} {n : Nat} (hK : X.K = K) (hc : X.calm = true) (h : PGs X es (upGs K gs)) (hn : (assignEach es X.env).length = n := by rfl) (hst : (assignEach es X.env).findIdx? (·.1) = none := by rfl) : PG X (.Tuple es k pos) (upG K (dgTup n gs)) :=
  (kgTup (K := K) hK hc h hn hst).imp fun v σ H Q h => by
  obtain ⟨M, P, H0, σ0, env, ts, d, R, nv, rel, dn, ⟨ds, rfl, hl, hg⟩, hq⟩ := h
  obtain ⟨a, xs, rfl, sn, q⟩ := dn.tuple
  exact ⟨a, xs, rfl, sn.sq, by rw [q.len]; exact hl, M, P, H0, σ0, env, ts, ds, R, nv, rel, q, hg, hq⟩
/-- target = e, any target: the value is a datum -/
def dAsg (te : DE) (g : DG) : DS := fun DD env => te env fun s env1 => ∃ d, keepOf env1 s = some d ∧ g d env1 DD.nx
theorem q_asg {tg : Expr} {te : DE} {g : DG} (he : PE X e (up K te)) (hg : PG X tg (upG K g)) (hs : swapsWithSole [tg] e pos.line X.env = pure false := by rfl) (hw : swappedStores [tg] e X.env = pure none := by rfl)
    (h1 : (assignEach [tg] X.env).map (·.2) = [assign tg X.env] := by rfl) : PS X (.Assign [tg] e pos) (upS K (dAsg te g)) := (ps_asg he hg hs hw h1).imp fun D σ H h => by
  obtain ⟨M, P, H0, σ0, env, ts, DD, nv, rel, ht, ok⟩ := h
  refine ⟨M, P, H0, σ0, env, ts, _, rel, ht, fun s1 env1 v1 H1 h1 rel1 => ?_⟩
  obtain ⟨d, k, hg⟩ := h1
  exact ⟨M, P, H0, σ0, env1, ts, d, _, nv, rel1.drop, rel1.kept (v := v1) (s := s1) (by simp) k, hg, fun σ' env' H' hR r => ok.nx _ _ _ hR r⟩
/-! ### what is walked through -/
structure IterOk (K : PySem.W.Frag) (J : It) (kp : List (V × Sl)) (ds : List PyData) : Prop where
  go : ∀ {M P : Addr → Prop} {H0 H : Hp} {σ0 σ : St} {env : List Sl} {ts : List (V × Sl)}, Rel K M P H0 σ0 σ env (ts ++ kp) H → ∀ i, i < ds.length → J.go i H
  yld : ∀ {M P : Addr → Prop} {H0 H : Hp} {σ0 σ : St} {env : List Sl} {ts : List (V × Sl)}, Rel K M P H0 σ0 σ env (ts ++ kp) H → ∀ i x H', (hi : i < ds.length) → J.yld i H x H' → Same H H' ∧ DN K (Nw M (ents σ env (ts ++ kp))) H' x ds[i]
  stop : ∀ {M P : Addr → Prop} {H0 H : Hp} {σ0 σ : St} {env : List Sl} {ts : List (V × Sl)}, Rel K M P H0 σ0 σ env (ts ++ kp) H → J.stop ds.length H
  nv : NoVw kp
abbrev DI := List Sl → (List PyData → List Sl → Prop) → Prop
def upI (K : PySem.W.Frag) (t : DI) : TI := fun σ H R => ∃ (M P : Addr → Prop) (H0 : Hp) (σ0 : St) (env : List Sl) (ts : List (V × Sl)) (RR : List PyData → List Sl → Prop), Rel K M P H0 σ0 σ env ts H ∧ t env RR ∧
  ∀ ds env' J H' kp, RR ds env' → Rel K M P H0 σ0 σ env' (ts ++ kp) H' → IterOk K J kp ds → R J H'
theorem PI.imp {tg iter : Expr} {t t' : TI} (h : PI X tg iter t) (k : ∀ σ H R, t' σ H R → t σ H R) : PI X tg iter t' := fun pins s σ H R I hw => h pins s σ H R I (k σ H R hw)
theorem seq_item {b : Bool} {a : Addr} {ds : List PyData} (rel : Rel K M P H0 σ0 σ env ts H) (m : (.ref a, .fr (if b then .tuple ds else .list ds)) ∈ ts) : ∃ xs, SqB K H b a xs ∧ DNs K (Nw M (ents σ env ts)) H xs ds := by
  obtain ⟨v, e, dn⟩ := rel.e.fr _ _ (mem_tmp m)
  cases e
  cases b with
  | false =>
    obtain ⟨a', xs, e, sn, q⟩ := DN.list dn
    cases e
    exact ⟨xs, sn.sq, q⟩
  | true =>
    obtain ⟨a', xs, e, sn, q⟩ := DN.tuple dn
    cases e
    exact ⟨xs, sn.sq, q⟩
theorem DNs.item {vs : List V} {ds : List PyData} (q : DNs K N H vs ds) {i : Nat} (hi : i < ds.length) : ∃ x, vs[i]? = some x ∧ DN K N H x ds[i] := by
  have hv : i < vs.length := by rw [q.len]; exact hi
  obtain ⟨e, h1, h2⟩ := q.get (List.getElem?_eq_getElem hv)
  rw [List.getElem?_eq_getElem hi] at h1
  cases h1
  exact ⟨vs[i], List.getElem?_eq_getElem hv, h2⟩
theorem noVw1 {v : V} {d : PyData} : NoVw [(v, Sl.fr d)] := fun w i m => by rw [List.mem_singleton] at m; cases m
theorem iter_list {a : Addr} {ds : List PyData} : IterOk K (Itl K a) [(.ref a, .fr (.list ds))] ds where
  go := fun rel i hi => by
    obtain ⟨xs, s, q⟩ := seq_item (b := false) (a := a) (ds := ds) rel (List.mem_append_right _ (by simp))
    obtain ⟨x, e, _⟩ := q.item hi
    exact ⟨xs, x, s, e⟩
  yld := fun rel i x H' hi y => by
    obtain ⟨xs, s, q⟩ := seq_item (b := false) (a := a) (ds := ds) rel (List.mem_append_right _ (by simp))
    obtain ⟨e, y⟩ := y
    subst e
    obtain ⟨x', e', dn⟩ := q.item hi
    rw [y xs s] at e'
    cases e'
    exact ⟨Same.refl _, dn⟩
  stop := fun rel => by
    obtain ⟨xs, s, q⟩ := seq_item (b := false) (a := a) (ds := ds) rel (List.mem_append_right _ (by simp))
    exact ⟨xs, s, by rw [q.len]; exact Nat.le_refl _⟩
  nv := noVw1
theorem iter_tup {a : Addr} {ds : List PyData} : IterOk K (Itt K a) [(.ref a, .fr (.tuple ds))] ds where
  go := fun rel i hi => by
    obtain ⟨xs, s, q⟩ := seq_item (b := true) (a := a) (ds := ds) rel (List.mem_append_right _ (by simp))
    obtain ⟨x, e, _⟩ := q.item hi
    exact ⟨xs, x, s, e⟩
  yld := fun rel i x H' hi y => by
    obtain ⟨xs, s, q⟩ := seq_item (b := true) (a := a) (ds := ds) rel (List.mem_append_right _ (by simp))
    obtain ⟨e, y⟩ := y
    subst e
    obtain ⟨x', e', dn⟩ := q.item hi
    rw [y xs s] at e'
    cases e'
    exact ⟨Same.refl _, dn⟩
  stop := fun rel => by
    obtain ⟨xs, s, q⟩ := seq_item (b := true) (a := a) (ds := ds) rel (List.mem_append_right _ (by simp))
    exact ⟨xs, s, by rw [q.len]; exact Nat.le_refl _⟩
  nv := noVw1
def rangeD (lo : Int) (n : Nat) : List PyData := (List.range n).map fun (k : Nat) => PyData.int (lo + k)
theorem rangeD_len (lo : Int) (n : Nat) : (rangeD lo n).length = n := by simp [rangeD]
theorem rangeD_get (lo : Int) (n i : Nat) (h : i < (rangeD lo n).length) : (rangeD lo n)[i] = .int (lo + i) := by simp [rangeD]
theorem iter_range {lo : Int} {n : Nat} : IterOk K (Itr lo n) [] (rangeD lo n) where
  go := fun rel i hi => by rw [rangeD_len] at hi; exact hi
  yld := fun rel i x H' hi y => by
    obtain ⟨e, y⟩ := y
    subst e
    rw [rangeD_get, y]
    exact ⟨Same.refl _, .int _⟩
  stop := fun rel => by rw [rangeD_len]; exact Nat.le_refl _
  nv := fun w i m => by cases m
def enumD (ds : List PyData) : List PyData := ds.zipIdx.map fun (p : PyData × Nat) => PyData.tuple [.int p.2, p.1]
theorem enumD_len (ds : List PyData) : (enumD ds).length = ds.length := by simp [enumD]
theorem enumD_get (ds : List PyData) (i : Nat) (h : i < (enumD ds).length) : (enumD ds)[i] = .tuple [.int i, ds[i]'(by rw [enumD_len] at h; exact h)] := by simp [enumD]
theorem iter_enum {b : Bool} {a : Addr} {ds : List PyData} : IterOk K (Ite K b a) [(.ref a, .fr (if b then .tuple ds else .list ds))] (enumD ds) where
  go := fun rel i hi => by
    rw [enumD_len] at hi
    obtain ⟨xs, s, q⟩ := seq_item (b := b) (a := a) (ds := ds) rel (List.mem_append_right _ (by simp))
    obtain ⟨x, e, _⟩ := q.item hi
    exact ⟨xs, x, s, e⟩
  yld := fun {M P H0 H σ0 σ env ts} rel i x H' hi y => by
    rw [enumD_get]
    rw [enumD_len] at hi
    obtain ⟨xs, s, q⟩ := seq_item (b := b) (a := a) (ds := ds) rel (List.mem_append_right _ (by simp))
    obtain ⟨p, x1, rfl, hp, rfl, y⟩ := y
    obtain ⟨x', e', dn⟩ := q.item hi
    rw [y xs s] at e'
    cases e'
    exact ⟨Same.new hp, DN.of2 (SnT.of upd_same (rel.newAddr hp)) (.int _) (dn.keep (Keep.same (Same.new hp)))⟩
  stop := fun rel => by
    obtain ⟨xs, s, q⟩ := seq_item (b := b) (a := a) (ds := ds) rel (List.mem_append_right _ (by simp))
    exact ⟨xs, s, by rw [q.len, enumD_len]⟩
  nv := noVw1
def zipD (ds es : List PyData) : List PyData := List.zipWith (fun d e => PyData.tuple [d, e]) ds es
theorem zipD_len (ds es : List PyData) : (zipD ds es).length = min ds.length es.length := by simp [zipD]
theorem iter_zip {b c : Bool} {a a' : Addr} {ds es : List PyData} : IterOk K (Itz K b c a a') [(.ref a, .fr (if b then .tuple ds else .list ds)), (.ref a', .fr (if c then .tuple es else .list es))] (zipD ds es) where
  go := fun rel i hi => by
    rw [zipD_len] at hi
    obtain ⟨xs, s, q⟩ := seq_item (b := b) (a := a) (ds := ds) rel (List.mem_append_right _ (by simp))
    obtain ⟨xs', s', q'⟩ := seq_item (b := c) (a := a') (ds := es) rel (List.mem_append_right _ (by simp))
    obtain ⟨x, e, _⟩ := q.item (i := i) (by omega)
    obtain ⟨x', e', _⟩ := q'.item (i := i) (by omega)
    exact ⟨xs, xs', x, x', s, s', e, e'⟩
  yld := fun {M P H0 H σ0 σ env ts} rel i x H' hi y => by
    have hi' := hi
    rw [zipD_len] at hi'
    obtain ⟨xs, s, q⟩ := seq_item (b := b) (a := a) (ds := ds) rel (List.mem_append_right _ (by simp))
    obtain ⟨xs', s', q'⟩ := seq_item (b := c) (a := a') (ds := es) rel (List.mem_append_right _ (by simp))
    obtain ⟨p, x1, x2, rfl, hp, rfl, y1, y2⟩ := y
    obtain ⟨u1, e1, dn1⟩ := q.item (i := i) (by omega)
    obtain ⟨u2, e2, dn2⟩ := q'.item (i := i) (by omega)
    rw [y1 xs s] at e1
    rw [y2 xs' s'] at e2
    cases e1
    cases e2
    have eg : (zipD ds es)[i] = .tuple [ds[i]'(by omega), es[i]'(by omega)] := by simp [zipD]
    rw [eg]
    exact ⟨Same.new hp, DN.of2 (SnT.of upd_same (rel.newAddr hp)) (dn1.keep (Keep.same (Same.new hp))) (dn2.keep (Keep.same (Same.new hp)))⟩
  stop := fun rel => by
    obtain ⟨xs, s, q⟩ := seq_item (b := b) (a := a) (ds := ds) rel (List.mem_append_right _ (by simp))
    obtain ⟨xs', s', q'⟩ := seq_item (b := c) (a := a') (ds := es) rel (List.mem_append_right _ (by simp))
    refine ⟨xs, xs', s, s', ?_⟩
    rw [q.len, q'.len, zipD_len]
    omega
  nv := fun w i m => by
    simp only [List.mem_cons, List.not_mem_nil, or_false] at m
    rcases m with m | m <;> cases m
end
end L2
set_option Elab.async false
set_option linter.all false
set_option maxRecDepth 100000
set_option maxHeartbeats 4000000
namespace L2
open PySem PySem.Spec PyProof.Rows
section
variable {K : PySem.W.Frag} {M P N : Addr → Prop} {H0 H H' : Hp} {σ0 σ : St} {env : List Sl} {ts tt kp : List (V × Sl)} {v : V} {s : Sl} {d : PyData} {X : Cx} {pos p : Pos} {e e1 e2 tg iter : Expr} {es : List Expr} {te : DE} {tl : DA}
def dIList (te : DE) : DI := fun env RR => te env fun s env1 => ∃ ds, keepOf env1 s = some (.list ds) ∧ RR ds env1
def dITup (te : DE) : DI := fun env RR => te env fun s env1 => ∃ ds, keepOf env1 s = some (.tuple ds) ∧ RR ds env1
theorem qi_list (hK : X.K = K) (h : PE X e (up K te)) : PI X tg e (upI K (dIList te)) := (kiList (K := K) hK h).imp fun σ H R h => by
  obtain ⟨M, P, H0, σ0, env, ts, RR, rel, ht, hq⟩ := h
  refine ⟨M, P, H0, σ0, env, ts, _, rel, ht, fun s1 env1 v1 H1 h1 rel1 => ?_⟩
  obtain ⟨ds, k, hR⟩ := h1
  have dn := rel1.kept (v := v1) (s := s1) (by simp) k
  obtain ⟨a, xs, rfl, sn, q⟩ := dn.list
  exact ⟨a, rfl, ⟨xs, sn.sq⟩, hq _ _ _ _ _ hR (rel1.drop.addFr dn) iter_list⟩
theorem qi_tup (hK : X.K = K) (h : PE X e (up K te)) : PI X tg e (upI K (dITup te)) := (kiTup (K := K) hK h).imp fun σ H R h => by
  obtain ⟨M, P, H0, σ0, env, ts, RR, rel, ht, hq⟩ := h
  refine ⟨M, P, H0, σ0, env, ts, _, rel, ht, fun s1 env1 v1 H1 h1 rel1 => ?_⟩
  obtain ⟨ds, k, hR⟩ := h1
  have dn := rel1.kept (v := v1) (s := s1) (by simp) k
  obtain ⟨a, xs, rfl, sn, q⟩ := dn.tuple
  exact ⟨a, rfl, ⟨xs, sn.sq⟩, hq _ _ _ _ _ hR (rel1.drop.addFr dn) iter_tup⟩
def dRng1 (ta : DA) : DI := fun env RR => ta env fun ss env1 => ∃ s j, ss = [s] ∧ valOf env1 s = some (.int j) ∧ -4611686018427387904 ≤ j ∧ j < 4611686018427387904 ∧ RR (rangeD 0 j.toNat) env1
def dRng2 (ta : DA) : DI := fun env RR => ta env fun ss env1 => ∃ s s' i j, ss = [s, s'] ∧ valOf env1 s = some (.int i) ∧ valOf env1 s' = some (.int j) ∧ (-4611686018427387904 ≤ i ∧ i < 4611686018427387904 ∧ -4611686018427387904 ≤ j ∧ j < 4611686018427387904) ∧ RR (rangeD i (j - i).toNat) env1
theorem qi_rng1 (hg : Gl X "range") (hm : X.mg "range" = none) (ha : PA X [e] (upA K tl)) (hs : starEach [e] X.env = [(false, eval e X.env)] := by rfl) : PI X tg (.Call (.Name "range" p) [e] [] pos) (upI K (dRng1 tl)) := (pi_range1 hg hm ha hs).imp fun σ H R h => by
  obtain ⟨M, P, H0, σ0, env, ts, RR, rel, ht, hq⟩ := h
  refine ⟨M, P, H0, σ0, env, ts, _, rel, ht, fun ss env1 vs H1 h1 hl rel1 => ?_⟩
  obtain ⟨s, j, rfl, e1, b1, b2, hR⟩ := h1
  match vs, hl with
  | [v], _ =>
    have w := (rel1.view (v := v) (by simp) e1).int
    exact ⟨j, by rw [w], b1, b2, hq _ _ _ _ [] hR (by simpa using rel1.drop) iter_range⟩
theorem qi_rng2 (hg : Gl X "range") (hm : X.mg "range" = none) (ha : PA X [e1, e2] (upA K tl)) (hs : starEach [e1, e2] X.env = [(false, eval e1 X.env), (false, eval e2 X.env)] := by rfl) (hs2 : starEach [e2] X.env = [(false, eval e2 X.env)] := by rfl) :
    PI X tg (.Call (.Name "range" p) [e1, e2] [] pos) (upI K (dRng2 tl)) := (pi_range2 hg hm ha hs hs2).imp fun σ H R h => by
  obtain ⟨M, P, H0, σ0, env, ts, RR, rel, ht, hq⟩ := h
  refine ⟨M, P, H0, σ0, env, ts, _, rel, ht, fun ss env1 vs H1 h1 hl rel1 => ?_⟩
  obtain ⟨s, s', i, j, rfl, e1, e2, b, hR⟩ := h1
  match vs, hl with
  | [v, v'], _ =>
    have w := (rel1.view (v := v) (by simp) e1).int
    have w' := (rel1.view (v := v') (by simp) e2).int
    exact ⟨i, j, by rw [w, w'], b, hq _ _ _ _ [] hR (by simpa using rel1.drop) iter_range⟩
def sqD (b : Bool) (ds : List PyData) : PyData := if b then .tuple ds else .list ds
def dEnum (b : Bool) (ta : DA) : DI := fun env RR => ta env fun ss env1 => ∃ s ds, ss = [s] ∧ keepOf env1 s = some (sqD b ds) ∧ RR (enumD ds) env1
theorem qi_enum (b : Bool) {es : List Expr} {kk : Nat} {tpos : Pos} (hK : X.K = K) (hg : Gl X "enumerate") (hm : X.mg "enumerate" = none) (ha : PA X [e] (upA K tl)) (hs : starEach [e] X.env = [(false, eval e X.env)] := by rfl) :
    PI X (.Tuple es kk tpos) (.Call (.Name "enumerate" p) [e] [] pos) (upI K (dEnum b tl)) := (kiEnum (K := K) hK b hg hm ha hs).imp fun σ H R h => by
  obtain ⟨M, P, H0, σ0, env, ts, RR, rel, ht, hq⟩ := h
  refine ⟨M, P, H0, σ0, env, ts, _, rel, ht, fun ss env1 vs H1 h1 hl rel1 => ?_⟩
  obtain ⟨s, ds, rfl, k, hR⟩ := h1
  match vs, hl with
  | [v], _ =>
    have dn := rel1.kept (v := v) (s := s) (by simp) k
    have r2 := rel1.drop.addFr dn
    have hv : ∃ a, v = .ref a := by
      cases b with
      | false => obtain ⟨a, _, e, _⟩ := DN.list dn; exact ⟨a, e⟩
      | true => obtain ⟨a, _, e, _⟩ := DN.tuple dn; exact ⟨a, e⟩
    obtain ⟨a, rfl⟩ := hv
    obtain ⟨xs, sq, _⟩ := seq_item (b := b) (a := a) (ds := ds) r2 (List.mem_append_right _ (by simp [sqD]))
    exact ⟨a, xs, rfl, sq, hq _ _ _ _ _ hR r2 iter_enum⟩
def dZip (b c : Bool) (ta : DA) : DI := fun env RR => ta env fun ss env1 => ∃ s s' ds es, ss = [s, s'] ∧ keepOf env1 s = some (sqD b ds) ∧ keepOf env1 s' = some (sqD c es) ∧ RR (zipD ds es) env1
theorem qi_zip (b c : Bool) {es : List Expr} {kk : Nat} {tpos : Pos} (hK : X.K = K) (hg : Gl X "zip") (hm : X.mg "zip" = none) (ha : PA X [e1, e2] (upA K tl))
    (hs : starEach [e1, e2] X.env = [(false, eval e1 X.env), (false, eval e2 X.env)] := by rfl) (hs2 : starEach [e2] X.env = [(false, eval e2 X.env)] := by rfl) :
    PI X (.Tuple es kk tpos) (.Call (.Name "zip" p) [e1, e2] [] pos) (upI K (dZip b c tl)) := (kiZip (K := K) hK b c hg hm ha hs hs2).imp fun σ H R h => by
  obtain ⟨M, P, H0, σ0, env, ts, RR, rel, ht, hq⟩ := h
  refine ⟨M, P, H0, σ0, env, ts, _, rel, ht, fun ss env1 vs H1 h1 hl rel1 => ?_⟩
  obtain ⟨s, s', ds, es', rfl, k1, k2, hR⟩ := h1
  match vs, hl, rel1 with
  | [v, v'], hl, rel1 =>
    have dns := rel1.keptAll (vs := [v, v']) (ds := [sqD b ds, sqD c es']) hl (fun p hp => hp) (by simp [keepsOf, k1, k2])
    have r2 := rel1.drop.addFrs dns
    have r2 : Rel K M P H0 σ0 σ env1 (ts ++ [(v, .fr (sqD b ds)), (v', .fr (sqD c es'))]) H1 := by simpa using r2
    cases dns with
    | cons dn q =>
      cases q with
      | cons dn' q =>
        cases q
        have hv : ∃ a, v = .ref a := by
          cases b with
          | false => obtain ⟨a, _, e, _⟩ := DN.list dn; exact ⟨a, e⟩
          | true => obtain ⟨a, _, e, _⟩ := DN.tuple dn; exact ⟨a, e⟩
        have hv' : ∃ a, v' = .ref a := by
          cases c with
          | false => obtain ⟨a, _, e, _⟩ := DN.list dn'; exact ⟨a, e⟩
          | true => obtain ⟨a, _, e, _⟩ := DN.tuple dn'; exact ⟨a, e⟩
        obtain ⟨a, rfl⟩ := hv
        obtain ⟨a', rfl⟩ := hv'
        obtain ⟨xs, sq, _⟩ := seq_item (b := b) (a := a) (ds := ds) r2 (List.mem_append_right _ (by simp [sqD]))
        obtain ⟨xs', sq', _⟩ := seq_item (b := c) (a := a') (ds := es') r2 (List.mem_append_right _ (by simp [sqD]))
        exact ⟨a, a', xs, xs', rfl, sq, sq', hq _ _ _ _ _ hR r2 iter_zip⟩
/-! ### for, while -/
theorem Rel.dropMid {t : V × Sl} (h : Rel K M P H0 σ0 σ env (ts ++ kp ++ [t]) H) : Rel K M P H0 σ0 σ env (ts ++ [t]) H := by
  refine ⟨?_, h.len, fun w i m => h.vw w i (by
    rcases List.mem_append.mp m with m | m
    · exact List.mem_append_left _ (List.mem_append_left _ m)
    · exact List.mem_append_right _ m), h.ios⟩
  have hE := h.e
  rw [ents_app, ents_app] at hE
  rw [ents_app]
  refine hE.sub (fun x s m => .inl ?_) ?_
  · rcases List.mem_append.mp m with m | m
    · exact List.mem_append_left _ (List.mem_append_left _ m)
    · exact List.mem_append_right _ m
  · have nd := hE.nd
    rw [oas_app, oas_app] at nd
    rw [oas_app]
    obtain ⟨n1, n2, n3⟩ := List.nodup_append.mp nd
    exact List.nodup_append.mpr ⟨(List.nodup_append.mp n1).1, n2, fun x hx y hy => n3 x (List.mem_append_left _ hx) y hy⟩
def FD (ds : List PyData) (g : DG) (tb : DS) : DS := fun DD env => ∃ W : Nat → List Sl → Prop, W 0 env ∧
  (∀ i env, (h : i < ds.length) → W i env → g ds[i] env fun env2 => tb { DD with nx := W (i + 1), ct := W (i + 1), bk := DD.nx } env2) ∧ ∀ env, W ds.length env → DD.nx env
def dFor (it : DI) (g : DG) (tb : DS) : DS := fun DD env => it env fun ds env1 => FD ds g tb DD env1
theorem q_for {body : List Stmt} {it : DI} {g : DG} {tb : DS} (hp : PassesOwn (model X.prog X.w) X.A X.env X.xe) (hc : X.calm = true) (hi : PI X tg iter (upI K it)) (hg : PG X tg (upG K g)) (hb : PSs X body (upS K tb)) (hs : ∀ x, foldedSetIterable iter X.env x = pure x := by intro _; rfl) :
    PS X (.For tg iter body [] pos) (upS K (dFor it g tb)) := (ps_for hp hc hi hg hb hs).imp fun D σ H h => by
  obtain ⟨M, P, H0, σ0, env, ts, DD, nv, rel, ht, ok⟩ := h
  refine ⟨M, P, H0, σ0, env, ts, _, rel, ht, fun ds env1 J H1 kp hF rel1 io => ?_⟩
  obtain ⟨W, w0, turn, done⟩ := hF
  have nv2 : NoVw (ts ++ kp) := fun w i m => by
    rcases List.mem_append.mp m with m | m
    · exact nv w i m
    · exact io.nv w i m
  refine ⟨fun i m σ H => m = ds.length - i ∧ i ≤ ds.length ∧ ∃ env, W i env ∧ Rel K M P H0 σ0 σ env (ts ++ kp) H, ⟨_, rfl, Nat.zero_le _, env1, w0, rel1⟩, ?_⟩
  rintro i m σ2 H2 ⟨rfl, hle, env2, w2, rel2⟩
  by_cases hlt : i < ds.length
  · refine .inr ⟨io.go rel2 i hlt, fun σ' H' => ∃ env', W (i + 1) env' ∧ Rel K M P H0 σ0 σ' env' (ts ++ kp) H', fun σ' H' ⟨env', w', r'⟩ => ⟨ds.length - (i + 1), by omega, rfl, hlt, env', w', r'⟩, fun x H3 y => ?_⟩
    obtain ⟨sm, dn⟩ := io.yld rel2 i x H3 hlt y
    have rel3 := rel2.same sm
    refine ⟨M, P, H0, σ0, env2, ts ++ kp, ds[i], _, nv2, rel3, dn, turn i env2 hlt w2, fun σ' env' H' hR r => ?_⟩
    refine ⟨M, P, H0, σ0, env', ts ++ kp, _, nv2, r, hR, ⟨fun σ' env' H' q r => ⟨env', q, r⟩, fun s env' v σ' H' q r => ok.rt s env' v σ' H' q r.dropMid, fun σ' env' H' q r => ok.nx _ _ _ q r.drop, fun σ' env' H' q r => ⟨env', q, r⟩⟩⟩
  · have e : i = ds.length := by omega
    subst e
    exact .inl ⟨io.stop rel2, ok.nx _ _ _ (done _ w2) rel2.drop⟩
def dWhile (c : DT) (tb : DS) : DS := fun DD env => ∃ W : Nat → List Sl → Prop, (∃ m, W m env) ∧ ∀ m env, W m env →
  c env fun k env1 => if k = true then tb { DD with nx := fun env' => ∃ m', m' < m ∧ W m' env', ct := fun env' => ∃ m', m' < m ∧ W m' env', bk := DD.nx } env1 else DD.nx env1
theorem q_while {c : Expr} {body : List Stmt} {tc : DT} {tb : DS} (hp : PassesOwn (model X.prog X.w) X.A X.env X.xe) (hc : PT X c (upT K tc)) (hb : PSs X body (upS K tb)) : PS X (.While c body [] pos) (upS K (dWhile tc tb)) := (ps_while hp hc hb).imp fun D σ H h => by
  obtain ⟨M, P, H0, σ0, env, ts, DD, nv, rel, ⟨W, ⟨m0, w0⟩, turn⟩, ok⟩ := h
  refine ⟨fun m σ H => ∃ env, W m env ∧ Rel K M P H0 σ0 σ env ts H, ⟨m0, env, w0, rel⟩, ?_⟩
  rintro m σ2 H2 ⟨env2, w2, rel2⟩
  refine ⟨M, P, H0, σ0, env2, ts, _, rel2, turn m env2 w2, fun k env3 H3 h3 rel3 => ?_⟩
  cases k with
  | false => exact ok.nx _ _ _ h3 rel3
  | true =>
    refine ⟨fun σ' H' => ∃ env', (∃ m', m' < m ∧ W m' env') ∧ Rel K M P H0 σ0 σ' env' ts H', fun σ' H' ⟨env', ⟨m', hm, w'⟩, r'⟩ => ⟨m', hm, env', w', r'⟩, ?_⟩
    exact ⟨M, P, H0, σ0, env3, ts, _, nv, rel3, h3, ⟨fun σ' env' H' q r => ⟨env', q, r⟩, ok.rt, fun σ' env' H' q r => ok.nx _ _ _ q r, fun σ' env' H' q r => ⟨env', q, r⟩⟩⟩
end
end L2
set_option Elab.async false
set_option linter.all false
set_option maxRecDepth 100000
set_option maxHeartbeats 4000000
namespace L2
open PySem PySem.Spec PyProof.Rows
/-! ### comprehensions -/
def capSl : Option Sl → Sl
  | some (.fr d) => .fr d
  | _ => .un
def capD (env : List Sl) : Option Nat → Sl
  | none => .un
  | some j => capSl env[j]?
def capE (ix : List (Option Nat)) (env : List Sl) : List Sl := ix.map (capD env)
theorem mem_zip_maps {α β γ : Type} {f : α → β} {g : α → γ} : ∀ {l : List α} {x : β} {y : γ}, (x, y) ∈ (l.map f).zip (l.map g) → ∃ o ∈ l, x = f o ∧ y = g o
  | [], _, _, h => by simp at h
  | a :: l, x, y, h => by
    have h : (x, y) ∈ (f a, g a) :: (l.map f).zip (l.map g) := h
    rcases List.mem_cons.mp h with h | h
    · cases h; exact ⟨a, List.mem_cons_self, rfl, rfl⟩
    · obtain ⟨o, ho, e⟩ := mem_zip_maps h
      exact ⟨o, List.mem_cons_of_mem _ ho, e⟩
def dYes : DT := fun env R => R true env
theorem PIf.imp {X : Cx} {ifs : List Expr} {t t' : TT} (h : PIf X ifs t) (k : ∀ σ H Q, t' σ H Q → t σ H Q) : PIf X ifs t' := fun pins s σ H Q I hw => h pins s σ H Q I (k σ H Q hw)
theorem qif_nil {X : Cx} {K : PySem.W.Frag} : PIf X [] (upT K dYes) := pif_nil.imp fun σ H Q h => by
  obtain ⟨M, P, H0, σ0, env, ts, R, rel, ht, hq⟩ := h
  exact hq _ _ _ ht rel
theorem qif_one {X : Cx} {K : PySem.W.Frag} {c : Expr} {t : DT} (h : PT X c (upT K t)) : PIf X [c] (upT K t) := pif_one h
section
variable {K : PySem.W.Frag} {M P N : Addr → Prop} {H0 H H' : Hp} {σ0 σ : St} {env : List Sl} {ts tt kp : List (V × Sl)} {v : V} {s : Sl} {d : PyData}
theorem cap_mem {ix : List (Option Nat)} {x : Option V} (rel : Rel K M P H0 σ0 σ env ts H) (m : (x, s) ∈ (capS σ ix).zip (capE ix env)) : s = .un ∨ ∃ d v, s = .fr d ∧ x = some v ∧ DN K (Nw M (ents σ env ts)) H v d := by
  obtain ⟨o, _, e1, e2⟩ := mem_zip_maps m
  cases o with
  | none => exact .inl e2
  | some j =>
    have e2 : s = capSl env[j]? := e2
    cases q : env[j]? with
    | none => rw [q] at e2; exact .inl e2
    | some s' =>
      rw [q] at e2
      cases s' with
      | fr d =>
        obtain ⟨x', e3, m3⟩ := rel.slot q
        obtain ⟨v, e4, dn⟩ := rel.e.fr _ _ m3
        refine .inr ⟨d, v, e2, ?_, dn⟩
        rw [e1]
        show (σ[j]?).join = _
        rw [e3, e4]
        rfl
      | _ => exact .inl e2
theorem cap_oas {ix : List (Option Nat)} (rel : Rel K M P H0 σ0 σ env ts H) : oas ((capS σ ix).zip (capE ix env)) = [] := by
  unfold oas
  rw [List.filterMap_eq_nil_iff]
  rintro ⟨x, s⟩ m
  rcases cap_mem rel m with e | ⟨d, v, e, e2, _⟩
  · subst e
    cases x with
    | none => rfl
    | some v => cases v <;> rfl
  · subst e e2
    cases v <;> rfl
/-- the block's slots at a turn's start: data alone -/
theorem cap_rel {ix : List (Option Nat)} (rel : Rel K M P H0 σ0 σ env ts H) : Rel K (Nw M (ents σ env ts)) (fun _ => False) H (capS σ ix) (capS σ ix) (capE ix env) [] H := by
  have oe := cap_oas (ix := ix) rel
  have ee : ents (capS σ ix) (capE ix env) [] = (capS σ ix).zip (capE ix env) := by simp [ents, tmp]
  refine ⟨⟨Keep.refl, fun a q => q, fun a z hn => rel.newAddr hn z, fun a z => z.elim, fun x d m => ?_, fun x l m => ?_, fun x l m => ?_, by rw [ee, oe]; exact List.nodup_nil⟩, by simp [capS, capE], fun w i m => (by cases m), fun i l e => rfl⟩
  · rw [ee] at m
    rcases cap_mem rel m with e | ⟨d', v, e, e2, dn⟩
    · cases e
    · cases e
      refine ⟨v, e2, dn.to fun b _ _ z => ?_⟩
      rcases z with z | z
      · exact z
      · rw [ee, oe] at z; cases z
  · rw [ee] at m
    rcases cap_mem rel m with e | ⟨d', v, e, e2, dn⟩ <;> cases e
  · rw [ee] at m
    rcases cap_mem rel m with e | ⟨d', v, e, e2, dn⟩ <;> cases e
/-- .. and one list of ours, at k, that the block may change (slot j of the frame) -/
theorem cap_rel1 {ix : List (Option Nat)} {k j : Nat} {s0 : Sl} {l : List PyData} (rel : Rel K M P H0 σ0 σ env ts H) (hk : ix[k]? = some (some j)) (ej : env[j]? = some s0) (eo : ownD s0 = some l) {a : Addr} (ea : σ[j]? = some (some (.ref a))) :
    Rel K (Nw M (ents σ env ts)) (fun b => b = a) H (capS σ ix) (capS σ ix) ((capE ix env).set k (.io l)) [] H := by
  have oe := cap_oas (ix := ix) rel
  have r0 := cap_rel (ix := ix) rel
  have hkl : k < ix.length := (List.getElem?_eq_some_iff.mp hk).1
  have ek : (capE ix env)[k]? = some .un := by
    unfold capE
    rw [List.getElem?_map, hk]
    show some (capSl env[j]?) = _
    rw [ej]
    cases s0 <;> first | rfl | cases eo
  have es : (capS σ ix)[k]? = some (some (.ref a)) := by
    unfold capS
    rw [List.getElem?_map, hk]
    show some ((σ[j]?).join) = _
    rw [ea]; rfl
  obtain ⟨x, A, B, e1, q1, q2⟩ := r0.split ek
  rw [es] at e1
  cases e1
  have ee : ents (capS σ ix) (capE ix env) [] = (capS σ ix).zip (capE ix env) := by simp [ents, tmp]
  have oAB : oas A = [] ∧ oas B = [] := by
    rw [← ee, q1, oas_app, oas_cons] at oe
    have oe : oas A ++ oas B = [] := oe
    exact List.append_eq_nil_iff.mp oe
  obtain ⟨a', us, ea', hH, ql⟩ := rel.mine ej eo
  rw [ea] at ea'
  cases ea'
  have ma : Nw M (ents σ env ts) a := by
    obtain ⟨x, e1, mm⟩ := rel.slot ej
    rw [ea] at e1
    cases e1
    refine .inr (mem_oas.mpr ⟨_, mm, ?_⟩)
    cases s0 <;> simp [ownD] at eo <;> rfl
  have oe2 : oas (A ++ (some (.ref a), Sl.io l) :: B) = [a] := by
    rw [oas_app, oas_cons, oAB.1, oAB.2]
    rfl
  have ne : ∀ b, Nw (Nw M (ents σ env ts)) (A ++ (some (.ref a), Sl.io l) :: B) b → Nw M (ents σ env ts) b := fun b z => by
    rcases z with z | z
    · exact z
    · rw [oe2, List.mem_singleton] at z; rw [z]; exact ma
  have old : ∀ x t, (x, t) ∈ A ++ (some (.ref a), Sl.io l) :: B → (x, t) = (some (.ref a), Sl.io l) ∨ (x, t) ∈ (capS σ ix).zip (capE ix env) := fun x t m => by
    rw [← ee, q1]
    rcases List.mem_append.mp m with m | m
    · exact .inr (List.mem_append_left _ m)
    · rcases List.mem_cons.mp m with m | m
      · exact .inl m
      · exact .inr (List.mem_append_right _ (List.mem_cons_of_mem _ m))
  refine ⟨⟨Keep.refl, fun a q => q, fun a z hn => rel.newAddr hn z, fun b z => by rw [z]; exact ma, fun x d m => ?_, fun x l' m => ?_, fun x l' m => ?_, by rw [q2, oe2]; simp⟩, by simp [capS, capE], fun w i m => (by cases m), fun i l' e => rfl⟩
  · rw [q2] at m ⊢
    rcases old _ _ m with m | m
    · cases m
    · rcases cap_mem rel m with e | ⟨d', v, e, e2, dn⟩
      · cases e
      · cases e
        exact ⟨v, e2, dn.to fun b _ _ z => ne b z⟩
  · rw [q2] at m
    rcases old _ _ m with m | m
    · cases m
    · rcases cap_mem rel m with e | ⟨d', v, e, e2, dn⟩ <;> cases e
  · rw [q2] at m ⊢
    rcases old _ _ m with m | m
    · cases m
      exact ⟨a, us, rfl, hH, ql.to fun b _ _ z => ne b z, rfl⟩
    · rcases cap_mem rel m with e | ⟨d', v, e, e2, dn⟩ <;> cases e
end
/-- the turns of a comprehension whose block sees data alone -/
def CD (ds : List PyData) (ix : List (Option Nat)) (g : DG) (tt : DT) (te : DE) (env : List Sl) (R : Sl → List Sl → Prop) : Prop := ∃ W : Nat → List PyData → Prop, W 0 [] ∧
  (∀ i rs, (h : i < ds.length) → W i rs → rs.length < sizeLine ∧ g ds[i] (capE ix env) fun b1 => tt b1 fun k b2 => if k = true then te b2 fun s b3 => ∃ d, keepOf b3 s = some d ∧ W (i + 1) (rs ++ [d]) else W (i + 1) rs) ∧ ∀ rs, W ds.length rs → R (.ow rs) env
def dComp (it : DI) (ix : List (Option Nat)) (g : DG) (tt : DT) (te : DE) : DE := fun env R => it env fun ds env1 => CD ds ix g tt te env1 R
/-- .. whose block may change one list of ours -/
def CD1 (k j : Nat) (ds : List PyData) (ix : List (Option Nat)) (g : DG) (tt : DT) (te : DE) (env : List Sl) (R : Sl → List Sl → Prop) : Prop := ∃ W : Nat → List PyData → List PyData → Prop, ∃ s0 l0, env[j]? = some s0 ∧ ownD s0 = some l0 ∧ W 0 [] l0 ∧
  (∀ i rs l, (h : i < ds.length) → W i rs l → rs.length < sizeLine ∧ ∃ s, setSl s0 l = some s ∧ g ds[i] ((capE ix (env.set j s)).set k (.io l)) fun b1 => tt b1 fun kk b2 => if kk = true then te b2 fun s b3 => ∃ d l', keepOf b3 s = some d ∧ b3[k]? = some (.io l') ∧ W (i + 1) (rs ++ [d]) l' else ∃ l', b2[k]? = some (.io l') ∧ W (i + 1) rs l') ∧
  ∀ rs l, W ds.length rs l → ∃ s, setSl s0 l = some s ∧ R (.ow rs) (env.set j s)
def dComp1 (k j : Nat) (it : DI) (ix : List (Option Nat)) (g : DG) (tt : DT) (te : DE) : DE := fun env R => it env fun ds env1 => CD1 k j ds ix g tt te env1 R
section
variable {K : PySem.W.Frag}
theorem comp_up {it : DI} {ix : List (Option Nat)} {g : DG} {tt : DT} {te : DE} : ∀ σ H Q, up K (dComp it ix g tt te) σ H Q → tComp (upI K it) ix (upG K g) (upT K tt) (up K te) σ H Q := fun σ H Q h => by
  obtain ⟨M, P, H0, σ0, env, ts, R, rel, ht, hq⟩ := h
  refine ⟨M, P, H0, σ0, env, ts, _, rel, ht, fun ds env1 J H1 kp hF rel1 io => ?_⟩
  obtain ⟨W, w0, turn, done⟩ := hF
  refine ⟨fun i m ys H => m = ds.length - i ∧ i ≤ ds.length ∧ ∃ rs, W i rs ∧ DNs K (Nw M (ents σ env1 (ts ++ kp))) H ys rs ∧ Rel K M P H0 σ0 σ env1 (ts ++ kp) H, ⟨_, rfl, Nat.zero_le _, [], w0, .nil, rel1⟩, ?_⟩
  rintro i m ys H2 ⟨rfl, hle, rs, w2, dns, rel2⟩
  by_cases hlt : i < ds.length
  · obtain ⟨hz, tr⟩ := turn i rs hlt w2
    refine .inr ⟨io.go rel2 i hlt, by rw [dns.len]; exact hz, fun ys' H' => ∃ rs', W (i + 1) rs' ∧ DNs K (Nw M (ents σ env1 (ts ++ kp))) H' ys' rs' ∧ Rel K M P H0 σ0 σ env1 (ts ++ kp) H', fun ys' H' ⟨rs', a, b, c⟩ => ⟨ds.length - (i + 1), by omega, rfl, hlt, rs', a, b, c⟩, fun x H3 y => ?_⟩
    obtain ⟨sm, dn⟩ := io.yld rel2 i x H3 hlt y
    have rel3 := rel2.same sm
    have rb := cap_rel (ix := ix) rel3
    have oe := cap_oas (ix := ix) rel3
    have nb : ∀ b, Nw (Nw M (ents σ env1 (ts ++ kp))) (ents (capS σ ix) (capE ix env1) []) b → Nw M (ents σ env1 (ts ++ kp)) b := fun b z => by
      rcases z with z | z
      · exact z
      · have ee : ents (capS σ ix) (capE ix env1) [] = (capS σ ix).zip (capE ix env1) := by simp [ents, tmp]
        rw [ee, oe] at z; cases z
    refine ⟨_, _, _, _, capE ix env1, [], ds[i], _, fun w i m => (by cases m), rb, dn.to fun b _ _ z => nb b z, tr, fun σ2 b1 H4 h4 rel4 => ?_⟩
    refine ⟨_, _, _, _, b1, [], _, rel4, h4, fun kk b2 H5 h5 rel5 => ?_⟩
    cases kk with
    | false =>
      have k5 : Same H3 H5 := (rel5.e.keep.mono (M := N0) fun b z => z).none
      exact ⟨rs, h5, dns.keep (Keep.same (sm.trans k5)), rel3.same k5⟩
    | true =>
      refine ⟨_, _, _, _, b2, [], _, rel5, h5, fun s b3 v H6 h6 rel6 => ?_⟩
      obtain ⟨d, kd, w6⟩ := h6
      have k6 : Same H3 H6 := (rel6.e.keep.mono (M := N0) fun b z => z).none
      have dn6 := rel6.kept (ts := []) (tt := [] ++ [(v, s)]) (v := v) (s := s) (by simp) kd
      exact ⟨rs ++ [d], w6, (dns.keep (Keep.same (sm.trans k6))).app (.cons (dn6.to fun b _ _ z => .inl z) .nil), rel3.same k6⟩
  · have e : i = ds.length := by omega
    subst e
    exact .inl ⟨io.stop rel2, fun p hp => hq _ _ _ _ (done _ w2) (rel2.resOw hp dns)⟩
theorem comp1_up {k j : Nat} {it : DI} {ix : List (Option Nat)} {g : DG} {tt : DT} {te : DE} (hk : ix[k]? = some (some j)) : ∀ σ H Q, up K (dComp1 k j it ix g tt te) σ H Q → tComp (upI K it) ix (upG K g) (upT K tt) (up K te) σ H Q := fun σ H Q h => by
  obtain ⟨M, P, H0, σ0, env, ts, R, rel, ht, hq⟩ := h
  refine ⟨M, P, H0, σ0, env, ts, _, rel, ht, fun ds env1 J H1 kp hF rel1 io => ?_⟩
  obtain ⟨W, s0, l0, ej, eo, w0, turn, done⟩ := hF
  have hjl : j < env1.length := (List.getElem?_eq_some_iff.mp ej).1
  have set0 : setSl s0 l0 = some s0 := by cases s0 <;> simp [ownD] at eo <;> (subst eo; rfl)
  have env0 : env1.set j s0 = env1 := by
    rw [← (List.getElem?_eq_some_iff.mp ej).2]
    exact List.set_getElem_self hjl
  obtain ⟨a, us0, ea, _, _⟩ := rel1.mine ej eo
  -- the same set of ours all the way
  have neq : ∀ {ls : List PyData} {s : Sl}, setSl s0 ls = some s → Nw M (ents σ (env1.set j s) (ts ++ kp)) = Nw M (ents σ env1 (ts ++ kp)) := fun {ls s} es => by
    obtain ⟨x, A, B, e3, sp1, sp2⟩ := rel1.split ej
    rw [ea] at e3
    cases e3
    rw [sp1, sp2]
    have oa : own1 (some (.ref a), s0) = some a ∧ own1 (some (.ref a), s) = some a := by
      cases s0 <;> simp [setSl] at es <;> (subst es; exact ⟨rfl, rfl⟩)
    unfold Nw
    rw [oas_app, oas_app, oas_cons, oas_cons, oa.1, oa.2]
  refine ⟨fun i m ys H => m = ds.length - i ∧ i ≤ ds.length ∧ ∃ rs l s, setSl s0 l = some s ∧ W i rs l ∧ DNs K (Nw M (ents σ env1 (ts ++ kp))) H ys rs ∧ Rel K M P H0 σ0 σ (env1.set j s) (ts ++ kp) H, ⟨_, rfl, Nat.zero_le _, [], l0, s0, set0, w0, .nil, by rw [env0]; exact rel1⟩, ?_⟩
  rintro i m ys H2 ⟨rfl, hle, rs, l, s, es, w2, dns, rel2⟩
  by_cases hlt : i < ds.length
  · obtain ⟨hz, s', es', tr⟩ := turn i rs l hlt w2
    rw [es] at es'
    cases es'
    have eos : ownD s = some l := by cases s0 <;> simp [setSl] at es <;> (subst es; rfl)
    have ejs : (env1.set j s)[j]? = some s := List.getElem?_set_self hjl
    refine .inr ⟨io.go rel2 i hlt, by rw [dns.len]; exact hz, fun ys' H' => ∃ rs' l' s', setSl s0 l' = some s' ∧ W (i + 1) rs' l' ∧ DNs K (Nw M (ents σ env1 (ts ++ kp))) H' ys' rs' ∧ Rel K M P H0 σ0 σ (env1.set j s') (ts ++ kp) H',
      fun ys' H' ⟨rs', l', s', z, a, b, c⟩ => ⟨ds.length - (i + 1), by omega, rfl, hlt, rs', l', s', z, a, b, c⟩, fun x H3 y => ?_⟩
    obtain ⟨sm, dn⟩ := io.yld rel2 i x H3 hlt y
    have rel3 := rel2.same sm
    have rb := cap_rel1 (ix := ix) rel3 hk ejs eos ea
    have ma : Nw M (ents σ (env1.set j s) (ts ++ kp)) a := by
      obtain ⟨x, e1, mm⟩ := rel3.slot ejs
      rw [ea] at e1
      cases e1
      refine .inr (mem_oas.mpr ⟨_, mm, ?_⟩)
      cases s <;> simp [ownD] at eos <;> rfl
    have nb : ∀ b, Nw (Nw M (ents σ (env1.set j s) (ts ++ kp))) (ents (capS σ ix) ((capE ix (env1.set j s)).set k (.io l)) []) b → Nw M (ents σ (env1.set j s) (ts ++ kp)) b := fun b z => by
      rcases z with z | z
      · exact z
      · obtain ⟨_, _, hP⟩ := rb.e.own z
        rcases hP with q | q
        · obtain ⟨vs, q2, _⟩ := rb.e.own z
          rw [q] at q2; cases q2
        · rw [q]; exact ma
    -- behind the block
    have after : ∀ {σ2 : St} {b3 : List Sl} {t3 : List (V × Sl)} {H6 : Hp} {l' : List PyData}, Rel K (Nw M (ents σ (env1.set j s) (ts ++ kp))) (fun b => b = a) H3 (capS σ ix) σ2 b3 t3 H6 → b3[k]? = some (.io l') →
        ∃ s', setSl s0 l' = some s' ∧ Rel K M P H0 σ0 σ (env1.set j s') (ts ++ kp) H6 ∧ ∀ {ys : List V} {rs : List PyData}, DNs K (Nw M (ents σ env1 (ts ++ kp))) H3 ys rs → DNs K (Nw M (ents σ env1 (ts ++ kp))) H6 ys rs := fun {σ2 b3 t3 H6 l'} r6 e6 => by
      obtain ⟨x6, e7, m7⟩ := r6.slot e6
      have e8 := r6.ios _ _ e6
      have ecap : (capS σ ix)[k]? = some (some (.ref a)) := by
        unfold capS
        rw [List.getElem?_map, hk]
        show some ((σ[j]?).join) = _
        rw [ea]; rfl
      rw [e7, ecap] at e8
      cases e8
      obtain ⟨a', us', z, hH', ql', _⟩ := r6.e.io _ _ m7
      cases z
      obtain ⟨x, A, B, e3, sp1, sp2⟩ := rel3.split ejs
      rw [ea] at e3
      cases e3
      have hs' : ∃ s', setSl s0 l' = some s' ∧ isOw s l' s' := by
        cases s0 <;> simp [setSl] at es <;> (subst es; exact ⟨_, rfl, rfl⟩)
      obtain ⟨s', es', iso⟩ := hs'
      have hE := rel3.e
      rw [sp1] at hE
      have dnl : DNs K (Nw M (A ++ (some (.ref a), s) :: B)) H6 us' l' := ql'.to fun b _ _ z => .inl (by rw [sp1]; exact z)
      have hM := hE.muted iso r6.e.keep r6.e.live hH' dnl
      rw [← sp2] at hM
      have e9 : (env1.set j s).set j s' = env1.set j s' := List.set_set ..
      refine ⟨s', es', ⟨by rw [← e9]; exact hM, by simp [rel1.len], rel3.vw, fun q l2 e' => ?_⟩, fun {ys rs} q => q.keep (r6.e.keep.mono fun b z => ?_)⟩
      · by_cases hj : j = q
        · subst hj
          rw [List.getElem?_set_self hjl] at e'
          cases e'
          cases s0 with
          | io ds0 => exact rel1.ios _ ds0 ej
          | _ => simp [setSl] at es'
        · rw [List.getElem?_set_ne hj] at e'
          exact rel1.ios q l2 e'
      · rw [z, ← neq es]; exact ma
    have dn3 := dns.keep (Keep.same sm)
    refine ⟨_, _, _, _, _, [], ds[i], _, fun w i m => (by cases m), rb, dn.to fun b _ _ z => nb b z, tr, fun σ2 b1 H4 h4 rel4 => ?_⟩
    refine ⟨_, _, _, _, b1, [], _, rel4, h4, fun kk b2 H5 h5 rel5 => ?_⟩
    cases kk with
    | false =>
      obtain ⟨l', e5, w5⟩ := h5
      obtain ⟨s', es', r', kd⟩ := after rel5 e5
      exact ⟨rs, l', s', es', w5, kd dn3, r'⟩
    | true =>
      refine ⟨_, _, _, _, b2, [], _, rel5, h5, fun s6 b3 v H6 h6 rel6 => ?_⟩
      obtain ⟨d, l', kdd, e6, w6⟩ := h6
      obtain ⟨s', es', r', kd⟩ := after rel6 e6
      have dn6 := rel6.kept (ts := []) (tt := [] ++ [(v, s6)]) (v := v) (s := s6) (by simp) kdd
      exact ⟨rs ++ [d], l', s', es', w6, (kd dn3).app (.cons (dn6.to fun b _ _ z => .inl (by rw [neq es]; exact z)) .nil), r'⟩
  · have e : i = ds.length := by omega
    subst e
    refine .inl ⟨io.stop rel2, fun p hp => ?_⟩
    obtain ⟨s', es', hR⟩ := done _ _ w2
    rw [es] at es'
    cases es'
    exact hq _ _ _ _ hR (rel2.resOw hp (by rw [neq es]; exact dns))
end
section
variable {K : PySem.W.Frag} {X : Cx} {N' : List Str} {ix : List (Option Nat)} {sc : Scope} {tg iter elt : Expr} {ifs : List Expr} {pos : Pos} {it : DI} {g : DG} {tt : DT} {te : DE}
theorem q_comp (hc : X.calm = true) (S : BScope X.N X.env N' ix sc) (hi : PI X tg iter (upI K it))
    (hg : ∀ s H C fp, PG (bCx X N' sc s H C fp) tg (upG K g)) (ht : ∀ s H C fp, PIf (bCx X N' sc s H C fp) ifs (upT K tt)) (he : ∀ s H C fp, PE (bCx X N' sc s H C fp) elt (up K te))
    (hs : ∀ x, foldedSetIterable iter X.env x = pure x := by intro _; rfl) : PE X (.ListComp elt [⟨tg, iter, ifs, 0⟩] sc pos) (up K (dComp it ix g tt te)) := (pe_comp hc S hi hg ht he hs).imp comp_up
theorem q_comp1 (k j : Nat) (hk : ix[k]? = some (some j)) (hc : X.calm = true) (S : BScope X.N X.env N' ix sc) (hi : PI X tg iter (upI K it))
    (hg : ∀ s H C fp, PG (bCx X N' sc s H C fp) tg (upG K g)) (ht : ∀ s H C fp, PIf (bCx X N' sc s H C fp) ifs (upT K tt)) (he : ∀ s H C fp, PE (bCx X N' sc s H C fp) elt (up K te))
    (hs : ∀ x, foldedSetIterable iter X.env x = pure x := by intro _; rfl) : PE X (.ListComp elt [⟨tg, iter, ifs, 0⟩] sc pos) (up K (dComp1 k j it ix g tt te)) := (pe_comp hc S hi hg ht he hs).imp (comp1_up hk)
theorem set_up {i : Nat} {t : TE} {td : DE} (h : ∀ σ H Q, up K td σ H Q → t σ H Q) : ∀ D σ H, upS K (dSet i td) D σ H → tAsg t (gName i) D σ H := fun D σ H hh => by
  obtain ⟨M, P, H0, σ0, env, ts, DD, nv, rel, ht, ok⟩ := hh
  refine h _ _ _ ⟨M, P, H0, σ0, env, ts, _, rel, ht, fun s1 env1 v1 H1 h1 rel1 => ?_⟩
  obtain ⟨s', hl, es, hR⟩ := h1
  obtain ⟨r, cs⟩ := rel1.unVw es
  exact ok.nx _ _ _ hR (r.store nv hl cs)
theorem q_setComp {i : Nat} {y : Str} {spos py : Pos} (hN : X.N.Nodup) (hi' : X.N[i]? = some y) (hy : X.env.scope.names.lookup y = some .local) (hc : X.calm = true) (S : BScope X.N X.env N' ix sc) (hi : PI X tg iter (upI K it))
    (hg : ∀ s H C fp, PG (bCx X N' sc s H C fp) tg (upG K g)) (ht : ∀ s H C fp, PIf (bCx X N' sc s H C fp) ifs (upT K tt)) (he : ∀ s H C fp, PE (bCx X N' sc s H C fp) elt (up K te))
    (hsw : swapsWith (.ListComp elt [⟨tg, iter, ifs, 0⟩] sc pos) (some (.Name y py)) spos.line X.env = pure true := by rfl)
    (hs : ∀ x, foldedSetIterable iter X.env x = pure x := by intro _; rfl) : PS X (.Assign [.Name y py] (.ListComp elt [⟨tg, iter, ifs, 0⟩] sc pos) spos) (upS K (dSet i (dComp it ix g tt te))) := (ps_setComp hN hi' hy hc S hi hg ht he hsw hs).imp (set_up comp_up)
theorem q_setComp1 {i : Nat} {y : Str} {spos py : Pos} (k j : Nat) (hk : ix[k]? = some (some j)) (hN : X.N.Nodup) (hi' : X.N[i]? = some y) (hy : X.env.scope.names.lookup y = some .local) (hc : X.calm = true) (S : BScope X.N X.env N' ix sc) (hi : PI X tg iter (upI K it))
    (hg : ∀ s H C fp, PG (bCx X N' sc s H C fp) tg (upG K g)) (ht : ∀ s H C fp, PIf (bCx X N' sc s H C fp) ifs (upT K tt)) (he : ∀ s H C fp, PE (bCx X N' sc s H C fp) elt (up K te))
    (hsw : swapsWith (.ListComp elt [⟨tg, iter, ifs, 0⟩] sc pos) (some (.Name y py)) spos.line X.env = pure true := by rfl)
    (hs : ∀ x, foldedSetIterable iter X.env x = pure x := by intro _; rfl) : PS X (.Assign [.Name y py] (.ListComp elt [⟨tg, iter, ifs, 0⟩] sc pos) spos) (upS K (dSet i (dComp1 k j it ix g tt te))) := (ps_setComp hN hi' hy hc S hi hg ht he hsw hs).imp (set_up (comp1_up hk))
end
end L2
set_option Elab.async false
set_option linter.all false
set_option maxRecDepth 100000
set_option maxHeartbeats 4000000
namespace L2
open PySem PySem.Spec PyProof.Rows
/-! ### truth -/
def truD : PyData → Option Bool
  | .none => some false
  | .bool b => some b
  | .int i => some (i != 0)
  | .list ds => some (!ds.isEmpty)
  | .tuple ds => some (!ds.isEmpty)
  | _ => none
section
variable {K : PySem.W.Frag} {M P N : Addr → Prop} {H0 H H' : Hp} {E A B : List Ent} {σ0 σ : St} {env : List Sl} {ts tt kp : List (V × Sl)} {v : V} {s : Sl} {d : PyData} {X : Cx} {pos p : Pos} {e e1 e2 a : Expr} {es : List Expr} {te tj : DE} {tl : DA}
theorem DNs.emp {vs : List V} {ds : List PyData} (q : DNs K N H vs ds) : vs.isEmpty = ds.isEmpty := by cases q <;> rfl
theorem Vw.tru (w : Vw K N H v d) {k : Bool} (e : truD d = some k) : TruV K v H k := by
  cases d with
  | none => cases e; rw [w.none]; rfl
  | bool b => cases e; rw [w.bool]; rfl
  | int b => cases e; rw [w.int]; rfl
  | list ds =>
    cases e
    obtain ⟨a, vs, rfl, s, q⟩ := w.list
    exact .inl ⟨vs, s, by rw [q.emp]⟩
  | tuple ds =>
    cases e
    obtain ⟨a, vs, rfl, s, q⟩ := w.tuple
    exact .inr (.inl ⟨vs, s, by rw [q.emp]⟩)
  | _ => cases e
def dTruth (te : DE) : DT := fun env R => te env fun s env1 => ∃ d k, valOf env1 s = some d ∧ truD d = some k ∧ R k env1
theorem qt_truth (hK : X.K = K) (ha : PE X a (up K te)) (he : ∀ whole, isTrue a X.env whole = (do let v ← whole; standAt a.pos; holding [v] (truthy v)) := by intro _; rfl) : PT X a (upT K (dTruth te)) := (kTruth (K := K) hK ha he).imp fun σ H Q h => by
  obtain ⟨M, P, H0, σ0, env, ts, R, rel, ht, hq⟩ := h
  refine ⟨M, P, H0, σ0, env, ts, _, rel, ht, fun s1 env1 v1 H1 h1 rel1 => ?_⟩
  obtain ⟨d, k, e1, e2, hR⟩ := h1
  exact ⟨k, (rel1.view (v := v1) (by simp) e1).tru e2, hq _ _ _ hR rel1.drop⟩
/-! ### isinstance(x, T), T a built-in type -/
def kindS : PyData → String
  | .none => "NoneType"
  | .bool _ => "bool"
  | .int _ => "int"
  | .str _ => "str"
  | .list _ => "list"
  | .tuple _ => "tuple"
  | .dict _ => "dict"
inductive KindV (K : PySem.W.Frag) (H : Hp) : V → String → Prop
  | non : KindV K H .non "NoneType"
  | bl (b : Bool) : KindV K H (.bl b) "bool"
  | int (b : Int) : KindV K H (.int b) "int"
  | str (b : Str) : KindV K H (.str b) "str"
  | lst {a : Addr} {xs : List V} : SqL K H a xs → KindV K H (.ref a) "list"
  | tup {a : Addr} {xs : List V} : SqT K H a xs → KindV K H (.ref a) "tuple"
theorem call_isK (hK : X.K = K) : CallR X (.builtin "isinstance") (fun xs H Q => ∃ (x : V) (t n : String) (b : Bool), xs = [x, .ty n] ∧ KindV K H x t ∧ PySem.W.kitOne K (.type t) (.type n) = some b ∧ Q (.bl b) H) := by
  subst hK
  intro pins s σ H xs us Q I r h
  obtain ⟨x, t, n, b, rfl, ty, e, q⟩ := h
  obtain ⟨u, w', rfl, ru, rw'⟩ := vals2 r
  cases (show w' = Value.type n from rw')
  have fin : ∀ tk, EP X pins σ Q (.bool b) { s with toks := tk } := fun tk => ⟨.bl b, H, I.tok tk, rfl, q⟩
  cases ty with
  | non => cases (show u = Value.none from ru); exact PySem.W.kia_one PySem.W.kitx_none I.kIn True.intro e (fun z => nomatch z) fin
  | bl y => cases (show u = Value.bool y from ru); exact PySem.W.kia_one PySem.W.kitx_bool I.kIn True.intro e (fun z => nomatch z) fin
  | int i => obtain ⟨t, q⟩ := (show ∃ t, u = Value.int i t from ru); cases q; exact PySem.W.kia_one PySem.W.kitx_int I.kIn True.intro e (fun z => nomatch z) fin
  | str y => obtain ⟨t, q⟩ := (show ∃ t, u = Value.str y t from ru); cases q; exact PySem.W.kia_one PySem.W.kitx_str I.kIn True.intro e (fun z => nomatch z) fin
  | @lst a xs hs =>
    cases (show u = Value.ref a from ru)
    obtain ⟨its, _, ⟨o, n', h1, h2, _, _⟩, _⟩ := I.list hs
    exact PySem.W.kia_one PySem.W.kitx_list I.kIn ⟨o, h1, h2⟩ e (fun z => nomatch z) fin
  | @tup a xs hs =>
    cases (show u = Value.ref a from ru)
    obtain ⟨its, _, ⟨o, h1, h2, _⟩, _⟩ := I.tuple hs
    exact PySem.W.kia_one PySem.W.kitx_tuple I.kIn ⟨o, h1, h2⟩ e (fun z => nomatch z) fin
def isK (n : String) (d : PyData) : Bool := (kindS d == n) || (n == "int" && kindS d == "bool")
theorem kit_int (d : PyData) : PySem.W.kitOne K (.type (kindS d)) (.type "int") = some (isK "int" d) := by cases d <;> rfl
theorem kit_bool (d : PyData) : PySem.W.kitOne K (.type (kindS d)) (.type "bool") = some (isK "bool" d) := by cases d <;> rfl
theorem kit_list (d : PyData) : PySem.W.kitOne K (.type (kindS d)) (.type "list") = some (isK "list" d) := by cases d <;> rfl
theorem kit_tuple (d : PyData) : PySem.W.kitOne K (.type (kindS d)) (.type "tuple") = some (isK "tuple" d) := by cases d <;> rfl
theorem kit_str (d : PyData) : PySem.W.kitOne K (.type (kindS d)) (.type "str") = some (isK "str" d) := by cases d <;> rfl
theorem Vw.kind (w : Vw K N H v d) (hd : ∀ kvs, d ≠ .dict kvs) : KindV K H v (kindS d) := by
  cases d with
  | none => rw [w.none]; exact .non
  | bool b => rw [w.bool]; exact .bl b
  | int b => rw [w.int]; exact .int b
  | str b => rw [w.str]; exact .str b
  | list ds => obtain ⟨a, vs, rfl, s, q⟩ := w.list; exact .lst s
  | tuple ds => obtain ⟨a, vs, rfl, s, q⟩ := w.tuple; exact .tup s
  | dict kvs => exact absurd rfl (hd kvs)
theorem Vw.noDict (w : Vw K N H v d) : ∀ kvs, d ≠ .dict kvs := fun kvs e => by
  subst e
  cases w with
  | dn h => cases h
def dIs (n : String) (te : DE) : DE := fun env R => te env fun s env1 => ∃ d, valOf env1 s = some d ∧ R (.fr (.bool (isK n d))) env1
theorem q_isT {n : Str} {T : String} {np : Pos} (hK : X.K = K) (kit : ∀ d, PySem.W.kitOne K (.type (kindS d)) (.type T) = some (isK T d)) (hg : Gl X "isinstance") (hm : X.mg "isinstance" = none) (hgn : Gl X n) (hmn : X.mg n = none) (hbn : bootBuiltins n = some (.type T)) (ha : PE X a (up K te))
    (he : starEach [a, .Name n np] X.env = (false, eval a X.env) :: starEach [.Name n np] X.env := by rfl) (he2 : starEach [.Name n np] X.env = (false, eval (.Name n np) X.env) :: starEach [] X.env := by rfl)
    (hnn : n ≠ "__name__" := by decide) (hnd : (n == ("__debug__" : Str)) = false := by decide) (hpl : (backTo pos (starEach [.Name n np] X.env)).any (·.1) = false := by rfl) :
    PE X (.Call (.Name "isinstance" p) [a, .Name n np] [] pos) (up K (dIs T te)) :=
  (pe_callB (call_isK hK) hg hm PyProof.Rows.boot_isinstance (pa_cons ha (pa_cons (pe_bltn (v := .ty T) hgn hmn hbn rfl hnn hnd) pa_nil he2) he) (by decide) (by decide) he hpl).imp fun σ H Q h => by
  obtain ⟨M, P, H0, σ0, env, ts, R, rel, ht, hq⟩ := h
  refine ⟨M, P, H0, σ0, env, ts, _, rel, ht, fun s1 env1 v1 H1 h1 rel1 => ?_⟩
  obtain ⟨d, e1, hR⟩ := h1
  have w := rel1.view (v := v1) (by simp) e1
  exact ⟨v1, kindS d, T, isK T d, rfl, w.kind w.noDict, kit d, hq _ _ _ _ hR (rel1.drop.addFr (.bl _))⟩
/-! ### x[j] = e, x in slot i -/
def dSetIx (i : Nat) (tj te : DE) : DS := fun DD env => te env fun s env1 => (∃ ds, (env1[i]?).bind ownD = some ds) ∧ tj env1 fun sj env2 => ∃ d s0 ds z j s', keepOf env2 s = some d ∧ valOf env2 sj = some (.int z) ∧ env2[i]? = some s0 ∧ ownD s0 = some ds ∧ ixN ds.length z = some j ∧
  setSl s0 (ds.set j d) = some s' ∧ DD.nx (env2.set i s')
theorem DNs.set : ∀ {vs : List V} {ds : List PyData} {x : V} {d : PyData} (j : Nat), DNs K N H vs ds → DN K N H x d → DNs K N H (vs.set j x) (ds.set j d)
  | _, _, _, _, _, .nil, _ => .nil
  | _, _, _, _, 0, .cons _ q, h => .cons h q
  | _, _, _, _, j + 1, .cons g q, h => .cons g (q.set j h)
theorem q_setIx (i : Nat) {y : Str} {npos spos : Pos} {j : Expr} (hN : X.N[i]? = some y) (hj : PE X j (up K tj)) (he : PE X e (up K te))
    (hv : Vis X.env.scope y := by first | exact Or.inl rfl | exact Or.inr (Or.inl rfl) | exact Or.inr (Or.inr rfl)) (hd : (y == ("__debug__" : Str)) = false := by decide)
    (hcd : (y == ("__classdict__" : Str)) = false := by decide)
    (ha : ∀ v, assign (.Subscript (.Name y npos) j spos) X.env v = (do
      let ov ← holding [v] (eval (.Name y npos) X.env)
      let iv ← holding [v, ov] (eval j X.env)
      standAt spos
      holding [v, ov, iv] (setItem ov iv v)
      release [v, ov, iv] []) := by intro _; rfl)
    (hs : swapsWithSole [.Subscript (.Name y npos) j spos] e pos.line X.env = pure false := by rfl) (hw : swappedStores [.Subscript (.Name y npos) j spos] e X.env = pure none := by rfl)
    (h1 : (assignEach [.Subscript (.Name y npos) j spos] X.env).map (·.2) = [assign (.Subscript (.Name y npos) j spos) X.env] := by rfl) : PS X (.Assign [.Subscript (.Name y npos) j spos] e pos) (upS K (dSetIx i tj te)) :=
  (ps_asg he (pg_sub (pe_var hN hv hd hcd) hj set_list ha) hs hw h1).imp fun D σ H h => by
  obtain ⟨M, P, H0, σ0, env, ts, DD, nv, rel, ht, ok⟩ := h
  refine ⟨M, P, H0, σ0, env, ts, _, rel, ht, fun s1 env1 v1 H1 h1 rel1 => ?_⟩
  obtain ⟨⟨ds0, h0⟩, h1⟩ := h1
  obtain ⟨s0, e0, o0⟩ := bind_own h0
  obtain ⟨a, vs, ea, hH, _⟩ := rel1.mine e0 o0
  refine ⟨.ref a, ea, M, P, H0, σ0, env1, ts ++ [(v1, s1)], _, rel1, h1, fun s2 env2 v2 H2 h2 rel2 => ?_⟩
  obtain ⟨d, s3, ds, z, jj, s', k, ez, e2, o2, ix, es, hR⟩ := h2
  have rel2' : Rel K M P H0 σ0 σ env2 (ts ++ [(v1, s1), (v2, s2)]) H2 := by simpa using rel2
  obtain ⟨a', us, ea', hH', q⟩ := rel2'.drop.mine e2 o2
  rw [ea] at ea'
  cases ea'
  have dn := rel2'.kept (v := v1) (s := s1) (by simp) k
  refine ⟨a, us, z, jj, rfl, (rel2.view (v := v2) (by simp) ez).int, hH', by rw [q.len]; exact ix, ok.nx _ _ _ hR (rel2'.drop.mut (ds := ds) e2 es ea (q.set jj dn))⟩
/-! ### a def of the text, by its body over data -/
def resOf (env : List Sl) : Sl → Option Sl
  | .fr d => some (.fr d)
  | .ow l => some (.ow l)
  | .vw i => (env[i]?).bind fun s => match s with
    | .fr d => some (.fr d)
    | .ow l => some (.ow l)
    | _ => none
  | _ => none
def ioOnly : Sl → Sl
  | .io l => .io l
  | _ => .un
def finD (n : Nat) (env : List Sl) : List Sl := (env.take n).map ioOnly
def endsD (n : Nat) (R : Sl → List Sl → Prop) : DEnds where
  nx := fun env => R (.fr .none) (finD n env)
  rt := fun s env => ∃ r, resOf env s = some r ∧ R r (finD n env)
def startD (n : Nat) (ss : List Sl) : List Sl := ss ++ List.replicate (n - ss.length) .un
theorem zip_start (m : Nat) : ∀ {vs : List V} {ss : List Sl}, vs.length = ss.length → (vs.map some ++ List.replicate m none).zip (ss ++ List.replicate m Sl.un) = tmp (vs.zip ss) ++ List.replicate m (none, Sl.un)
  | [], [], _ => by simp [tmp]
  | v :: vs, s :: ss, h => by
    show (some v, s) :: (vs.map some ++ List.replicate m none).zip (ss ++ List.replicate m Sl.un) = _
    rw [zip_start m (by simpa using h)]
    rfl
  | [], _ :: _, h => by simp at h
  | _ :: _, [], h => by simp at h
theorem oas_rep (m : Nat) : oas (List.replicate m ((none, Sl.un) : Ent)) = [] := by
  unfold oas
  rw [List.filterMap_eq_nil_iff]
  intro e he
  rw [(List.mem_replicate.mp he).2]
  rfl
theorem fin_sub : ∀ {vs : List V} {σ : St} {env : List Sl}, σ.length = env.length → (∀ (j : Nat) (l : List PyData), env[j]? = some (.io l) → j < vs.length → σ[j]? = (vs[j]?).map some) → (oas (tmp (vs.zip (finD vs.length env)))).Sublist (oas (σ.zip env))
  | [], σ, env, _, _ => by simp [tmp, oas]
  | v :: vs, [], [], _, _ => by simp [tmp, oas, finD]
  | v :: vs, x :: σ, s :: env, hl, h => by
    have ih := fin_sub (vs := vs) (σ := σ) (env := env) (by simpa using hl) fun j l e hj => by
      have := h (j + 1) l (by simpa using e) (by simpa using hj)
      simpa using this
    show (oas ((some v, ioOnly s) :: tmp (vs.zip (finD vs.length env)))).Sublist (oas ((x, s) :: σ.zip env))
    rw [oas_cons, oas_cons]
    cases s with
    | io l =>
      have e0 := h 0 l rfl (by simp)
      simp at e0
      subst e0
      show (match own1 (some v, Sl.io l) with | some a => a :: _ | none => _).Sublist _
      cases own1 (some v, Sl.io l) with
      | none => exact ih
      | some a => exact ih.cons₂ a
    | _ =>
      have e1 : own1 (some v, Sl.un) = none := by cases v <;> rfl
      simp only [ioOnly, e1]
      split
      · exact ih.cons _
      · exact ih
  | _ :: _, [], _ :: _, hl, _ => by simp at hl
  | _ :: _, _ :: _, [], hl, _ => by simp at hl
/-- the frame's end: what is told, and the lists that were handed in to be changed -/
theorem Rel.fin {vs : List V} {r : Sl} {n : Nat} (rel : Rel K M P H0 (start N' vs) σ env [(v, r)] H) (hn : n = vs.length) (hr : isRes r = true) : RelE K M P H0 (tmp ((v, r) :: vs.zip (finD n env))) H := by
  subst hn
  have hio : ∀ (j : Nat) (l : List PyData), env[j]? = some (.io l) → j < vs.length → σ[j]? = (vs[j]?).map some := fun j l e hj => by
    rw [rel.ios j l e]
    unfold start
    rw [List.getElem?_append_left (by simpa using hj), List.getElem?_map]
  have hE := rel.e
  refine hE.sub (fun x s m => ?_) ?_
  · rw [tmp_cons] at m
    rcases List.mem_cons.mp m with m | m
    · cases m
      exact .inl (mem_tmp (by simp))
    · obtain ⟨⟨w, s'⟩, m1, e⟩ := List.mem_map.mp m
      cases e
      obtain ⟨j, hj, e⟩ := List.getElem_of_mem m1
      rw [List.getElem_zip] at e
      have hj' := hj
      rw [List.length_zip] at hj'
      have e1 : vs[j]'(by omega) = w := (Prod.mk.inj e).1
      have e2 : (finD vs.length env)[j]'(by omega) = s' := (Prod.mk.inj e).2
      have hje : j < env.length := by
        have : (finD vs.length env).length = min vs.length env.length := by simp [finD]
        omega
      have e3 : s' = ioOnly env[j] := by
        rw [← e2]
        simp [finD]
      cases q : env[j] with
      | io l =>
        rw [q] at e3
        subst e3
        have eq : env[j]? = some (.io l) := by rw [List.getElem?_eq_getElem hje, q]
        have e4 := hio j l eq (by omega)
        obtain ⟨x, e5, m5⟩ := rel.slot eq
        rw [e5, List.getElem?_eq_getElem (by omega : j < vs.length), e1] at e4
        have e4 : x = some w := Option.some.inj e4
        subst e4
        exact .inl m5
      | _ => rw [q] at e3; subst e3; exact .inr (.inl rfl)
  · have nd := hE.nd
    have eE : ents σ env [(v, r)] = σ.zip env ++ [(some v, r)] := rfl
    rw [eE, oas_app] at nd
    obtain ⟨n1, n2, n3⟩ := List.nodup_append.mp nd
    have sub := fin_sub rel.len hio
    rw [tmp_cons, show ((some (v, r).1, (v, r).2) : Ent) :: tmp (vs.zip (finD vs.length env)) = [(some v, r)] ++ tmp (vs.zip (finD vs.length env)) from rfl, oas_app]
    exact List.nodup_append.mpr ⟨n2, n1.sublist sub, fun x hx y hy z => n3 y (sub.subset hy) x hx z.symm⟩
end
end L2
set_option Elab.async false
set_option linter.all false
set_option maxRecDepth 100000
set_option maxHeartbeats 4000000
namespace L2
open PySem PySem.Spec PyProof.Rows
section
variable {K : PySem.W.Frag} {M P N : Addr → Prop} {H0 H H' : Hp} {E A B : List Ent} {σ0 σ : St} {env : List Sl} {ts tt kp : List (V × Sl)} {v : V} {s : Sl} {d : PyData}
/-- a list of ours leaves its slot -/
theorem Rel.take {i : Nat} {l : List PyData} (h : Rel K M P H0 σ0 σ env [(v, .vw i)] H) (e : env[i]? = some (.ow l)) : Rel K M P H0 σ0 σ (env.set i .un) [(v, .ow l)] H := by
  obtain ⟨x, A, B, e1, q1, q2⟩ := h.split e
  have ev := h.vw v i (by simp)
  rw [e1] at ev
  have ev : x = some v := Option.some.inj ev
  subst ev
  have z1 : ents σ env [(v, .vw i)] = σ.zip env ++ [(some v, .vw i)] := rfl
  obtain ⟨x2, e3, m2⟩ := zip_at h.len e
  have ez : (σ.zip env)[i]? = some (some v, .ow l) := by rw [zip_get, e1, e]; rfl
  obtain ⟨A2, B2, r1, r2⟩ := mem_split ez
  have hE := h.e
  rw [z1, r1] at hE
  have en : ents σ (env.set i .un) [(v, .ow l)] = (A2 ++ (some v, .un) :: B2) ++ [(some v, .ow l)] := by
    show σ.zip (env.set i .un) ++ [(some v, .ow l)] = _
    rw [zip_set e1, r2]
  refine ⟨?_, by simp [h.len], fun w j m => (by rw [List.mem_singleton] at m; cases m), fun j l' e' => ?_⟩
  · rw [en]
    refine hE.sub (fun x s m => ?_) ?_
    · rcases List.mem_append.mp m with m | m
      · rcases List.mem_append.mp m with m | m
        · exact .inl (List.mem_append_left _ (List.mem_append_left _ m))
        · rcases List.mem_cons.mp m with m | m
          · cases m; exact .inr (.inl rfl)
          · exact .inl (List.mem_append_left _ (List.mem_append_right _ (List.mem_cons_of_mem _ m)))
      · rw [List.mem_singleton] at m
        cases m
        exact .inl (List.mem_append_left _ (List.mem_append_right _ List.mem_cons_self))
    · have nd := hE.nd
      have ov : oas [(some v, Sl.vw i)] = [] := by rw [oas_cons]; cases v <;> rfl
      have ou : own1 (some v, Sl.un) = none := by cases v <;> rfl
      rw [oas_app, oas_app, oas_cons, ov, List.append_nil] at nd
      rw [oas_app, oas_app, oas_cons, ou]
      have oo : oas [(some v, Sl.ow l)] = (match own1 (some v, Sl.ow l) with | some a => [a] | none => []) := by rw [oas_cons]; rfl
      rw [oo]
      cases q : own1 (some v, Sl.ow l) with
      | none => rw [q] at nd; simpa using nd
      | some a =>
        rw [q] at nd
        obtain ⟨n1, n2, n3⟩ := List.nodup_append.mp nd
        obtain ⟨n4, n5⟩ := List.nodup_cons.mp n2
        refine List.nodup_append.mpr ⟨List.nodup_append.mpr ⟨n1, n5, fun x hx y hy => n3 x hx y (List.mem_cons_of_mem _ hy)⟩, by simp, fun x hx y hy z => ?_⟩
        rw [List.mem_singleton.mp hy] at z
        subst z
        rcases List.mem_append.mp hx with hx | hx
        · exact n3 x hx x List.mem_cons_self rfl
        · exact n4 hx
  · by_cases hj : i = j
    · subst hj
      rw [List.getElem?_set_self (List.getElem?_eq_some_iff.mp e).1] at e'
      cases e'
    · rw [List.getElem?_set_ne hj] at e'
      exact h.ios j l' e'
theorem finD_un {i n : Nat} {l : List PyData} (e : env[i]? = some (.ow l)) : finD n (env.set i .un) = finD n env := by
  unfold finD
  apply List.ext_getElem?
  intro j
  rw [List.getElem?_map, List.getElem?_map, List.getElem?_take, List.getElem?_take]
  by_cases hj : i = j
  · subst hj
    rw [List.getElem?_set_self (List.getElem?_eq_some_iff.mp e).1, e]
    split <;> rfl
  · rw [List.getElem?_set_ne hj]
theorem Rel.told {n : Nat} {r : Sl} (h : Rel K M P H0 σ0 σ env [(v, s)] H) (e : resOf env s = some r) : ∃ env', Rel K M P H0 σ0 σ env' [(v, r)] H ∧ finD n env' = finD n env ∧ isRes r = true := by
  cases s with
  | fr d => cases e; exact ⟨env, h, rfl, rfl⟩
  | ow l => cases e; exact ⟨env, h, rfl, rfl⟩
  | vw i =>
    have e : (env[i]?).bind _ = some r := e
    cases q : env[i]? with
    | none => rw [q] at e; cases e
    | some s' =>
      rw [q] at e
      cases s' with
      | fr d =>
        cases e
        have hs : stoOf env (.vw i) = some (.fr d) := by
          show ((env[i]?).bind slK).map Sl.fr = _
          rw [q]; rfl
        have := (Rel.unVw (ts := []) (by simpa using h) hs).1
        exact ⟨env, by simpa using this, rfl, rfl⟩
      | ow l => cases e; exact ⟨env.set i .un, h.take q, finD_un q, rfl⟩
      | _ => cases e
  | _ => cases e
end
section
variable {P : Program} {w : World} {K : PySem.W.Frag} {mg : Str → Option Value} {base : Heap}
theorem okD {x : Str} {st : Stmt} {f : Addr} {fd : FuncData} {N ps : List Str} {k : Nat} {sp : DSp} (F : Fun K x x st f fd) (S : FnScope N ps (defScope st)) (len : ∀ ss R, sp ss R → ss.length = ps.length) (hN : ps.length ≤ N.length)
    (hb : ∀ (cdv : Value) (A : Around) (outer : List Env) (s : Shared) (H : Hp) (E : XK), Room k (A.deeper (envOfC x (defScope st) s.heap.objs.size f cdv)) →
      ∃ t : DS, PSs (cxOf CX0 P w K mg base N x (defScope st) f cdv A outer s H E).nox (defBody st) (upS K t) ∧ ∀ ss R, sp ss R → t (endsD ps.length R) (startD N.length ss)) : FnOk P w K mg base CX0 (k + 1) f fd ps (spD K sp) := by
  refine F.ok S (fun vs H Q E h => ?_) fun cdv A outer s H vs Q E hr h => ?_
  · obtain ⟨M, ss, R, hl, _, hsp, _⟩ := h
    rw [hl]
    exact len ss R hsp
  obtain ⟨M, ss, R, hl, hE, hsp, hq⟩ := h
  have hn := len ss R hsp
  obtain ⟨t, ht, hr'⟩ := hb cdv A outer s H E hr
  have ez : ents (start N vs) (startD N.length ss) [] = tmp (vs.zip ss) ++ List.replicate (N.length - vs.length) (none, Sl.un) := by
    show (start N vs).zip (startD N.length ss) ++ [] = _
    unfold start startD
    rw [List.append_nil, ← hl]
    exact zip_start _ hl
  refine ⟨_, ht, M, ioOf vs ss, H, start N vs, startD N.length ss, [], endsD ps.length R, fun w i m => (by cases m), ⟨?_, by simp [start, startD, hl], fun w i m => (by cases m), fun i l e => rfl⟩, hr' ss R hsp, ⟨fun σ' env' H' q r => ?_, fun s env' v σ' H' q r => ?_, fun σ' env' H' q r => (show False from q), fun σ' env' H' q r => (show False from q)⟩⟩
  · rw [ez]
    refine hE.sub (fun x s m => ?_) (by rw [oas_app, oas_rep, List.append_nil]; exact hE.nd)
    rcases List.mem_append.mp m with m | m
    · exact .inl m
    · have := (List.mem_replicate.mp m).2
      cases this
      exact .inr (.inl rfl)
  · have r2 := (Rel.addFr r (v := .non) (d := .none) .non)
    have r2 : Rel K M (ioOf vs ss) H (start N vs) σ' env' [(.non, .fr .none)] H' := by simpa using r2
    exact hq _ _ _ _ q rfl (r2.fin (by omega) rfl)
  · obtain ⟨r0, e0, hR⟩ := q
    have r1 : Rel K M (ioOf vs ss) H (start N vs) σ' env' [(v, s)] H' := by simpa using r
    obtain ⟨env2, r2, ef, hr0⟩ := r1.told (n := ps.length) e0
    exact hq r0 _ v H' hR hr0 (by rw [← ef]; exact r2.fin (by omega) hr0)
theorem calD {x : Str} {st : Stmt} {f : Addr} {fd : FuncData} {k : Nat} {ps : List Str} {sp : DSp} (F : Fun K x x st f fd) (m : mg x = some (.ref f)) (b : Binds K fd ps []) (G : FnOk P w K mg base CX0 k f fd ps (spD K sp)) : Cal P w K mg base x k (spD K sp) := Cal.mk F m b G
end
section
variable {X : Cx} {x : Str} {p pos : Pos} {e : Expr} {es : List Expr} {k : Nat} {sp : DSp} {K : PySem.W.Frag} {tl : DA}
theorem q_call (C : Cal X.prog X.w X.K X.mg X.base x k (spD K sp)) (hr : Room k X.A) (hg : Gl X x) (ha : PA X (e :: es) (upA K tl)) (hd : (x == ("__debug__" : Str)) = false := by decide)
    (he : starEach (e :: es) X.env = (false, eval e X.env) :: starEach es X.env := by rfl) (hpl : (backTo pos (starEach es X.env)).any (·.1) = false := by rfl) : PE X (.Call (.Name x p) (e :: es) [] pos) (up K (dCall sp tl)) := (pe_cal C hr hg ha hd he hpl).imp call_up
theorem q_callS (m : Nat) (C : Cal X.prog X.w X.K X.mg X.base x k (spD K sp)) (hr : Room k X.A) (hg : Gl X x) (ha : PA X (e :: es) (upA K tl)) (hd : (x == ("__debug__" : Str)) = false := by decide)
    (he : starEach (e :: es) X.env = (false, eval e X.env) :: starEach es X.env := by rfl) (hpl : (backTo pos (starEach es X.env)).any (·.1) = false := by rfl) : PE X (.Call (.Name x p) (e :: es) [] pos) (up K (dCallS sp m tl)) := (pe_cal C hr hg ha hd he hpl).imp callS_up
theorem q_callT (C : Cal X.prog X.w X.K X.mg X.base x k (spD K sp)) (hr : Room k X.A) (hg : Gl X x) (ha : PA X (e :: es) (upA K tl)) (hd : (x == ("__debug__" : Str)) = false := by decide)
    (he : starEach (e :: es) X.env = (false, eval e X.env) :: starEach es X.env := by rfl) (hpl : (backTo pos (starEach es X.env)).any (·.1) = false := by rfl) : PE X (.Call (.Name x p) (e :: es) [] pos) (up K (dCallT sp tl)) := (pe_cal C hr hg ha hd he hpl).imp callT_up
end
end L2
set_option Elab.async false
set_option linter.all false
set_option maxRecDepth 100000
set_option maxHeartbeats 4000000
namespace L2
open PySem PySem.Spec PyProof.Rows
def gNeg : G1 := fun d R => ∃ i, d = .int i ∧ R (.int (-i))
theorem mNeg {K : PySem.W.Frag} : ∀ (N : Addr → Prop) (H : Hp) (x : V) (d1 : PyData) (R : PyData → Prop) (Q : VK), Vw K N H x d1 → gNeg d1 R → (∀ d v, R d → DN K N H v d → Q v H) → (rU fun i => .int (-i)) x H Q := by
  rintro N H x d R Q w ⟨i, rfl, hR⟩ hq
  exact ⟨i, w.int, hq _ _ hR (.int _)⟩
/-! ### readings in short -/
/-- a list of ints -/
abbrev li (ns : List Int) : List PyData := ns.map .int
theorem fd_intro {ds : List PyData} {g : DG} {tb : DS} {DD : DEnds} {env : List Sl} (W : Nat → List Sl → Prop) (h0 : W 0 env)
    (hs : ∀ i env, (h : i < ds.length) → W i env → g ds[i] env fun env2 => tb { DD with nx := W (i + 1), ct := W (i + 1), bk := DD.nx } env2) (hd : ∀ env, W ds.length env → DD.nx env) : FD ds g tb DD env := ⟨W, h0, hs, hd⟩
/-- a comprehension without a test, over data alone -/
theorem cd_map {ds : List PyData} {ix : List (Option Nat)} {g : DG} {te : DE} {env : List Sl} {R : Sl → List Sl → Prop} (f : Nat → PyData) (hz : ds.length ≤ 1000000)
    (h : ∀ i, (h : i < ds.length) → ∀ Q : PyData → Prop, Q (f i) → g ds[i] (capE ix env) fun b1 => te b1 fun s b3 => ∃ d, keepOf b3 s = some d ∧ Q d) (hR : R (.ow ((List.range ds.length).map f)) env) : CD ds ix g dYes te env R := by
  refine ⟨fun i rs => rs = (List.range i).map f ∧ i ≤ ds.length, ⟨rfl, Nat.zero_le _⟩, fun i rs hi w => ?_, fun rs w => by rw [w.1]; exact hR⟩
  obtain ⟨rfl, _⟩ := w
  refine ⟨by rw [List.length_map, List.length_range]; exact Nat.lt_of_lt_of_le (by omega) line_big, ?_⟩
  have := h i hi (fun d => (List.range i).map f ++ [d] = (List.range (i + 1)).map f ∧ i + 1 ≤ ds.length) ⟨by rw [List.range_succ, List.map_append]; rfl, hi⟩
  simpa only [dYes, if_true] using this
/-- .. with a test -/
theorem cd_filter {ds : List PyData} {ix : List (Option Nat)} {g : DG} {tt : DT} {te : DE} {env : List Sl} {R : Sl → List Sl → Prop} (p : Nat → Bool) (f : Nat → PyData) (hz : ds.length ≤ 1000000)
    (h : ∀ i, (h : i < ds.length) → ∀ (Q : PyData → Prop) (Q' : Prop), (p i = true → Q (f i)) → (p i = false → Q') → g ds[i] (capE ix env) fun b1 => tt b1 fun k b2 => if k = true then te b2 fun s b3 => ∃ d, keepOf b3 s = some d ∧ Q d else Q')
    (hR : R (.ow (((List.range ds.length).filter p).map f)) env) : CD ds ix g tt te env R := by
  refine ⟨fun i rs => rs = ((List.range i).filter p).map f ∧ i ≤ ds.length, ⟨rfl, Nat.zero_le _⟩, fun i rs hi w => ?_, fun rs w => by rw [w.1]; exact hR⟩
  obtain ⟨rfl, _⟩ := w
  refine ⟨?_, ?_⟩
  · have := List.length_filter_le p (List.range i)
    rw [List.length_range] at this
    rw [List.length_map]
    exact Nat.lt_of_lt_of_le (by omega) line_big
  · refine h i hi _ _ (fun e => ⟨?_, hi⟩) (fun e => ⟨?_, hi⟩)
    · rw [List.range_succ, List.filter_append, List.map_append]
      simp [e]
    · rw [List.range_succ, List.filter_append, List.map_append]
      simp [e]
end L2
set_option Elab.async false
set_option linter.all false
set_option maxRecDepth 100000
set_option maxHeartbeats 4000000
namespace L2
open PySem PySem.Spec PyProof.Rows
/-! ### great ints -/
def Bg (i : Int) : Prop := i.natAbs < 2 ^ 8000
def CMulB (i j : Int) : Prop := Bg i ∧ Bg j
def CDivB (i j : Int) : Prop := 0 < j ∧ Bg j
theorem CMulB.ok {i j : Int} (h : CMulB i j) : IntMulOk i j := by
  have up : ∀ x : Int, Bg x → Builtin.Int.intBits x ≤ 2 ^ 20 := fun x hx => by
    refine PySem.intBits_le_iff.mpr (Nat.lt_of_lt_of_le hx (Nat.pow_le_pow_right (by decide) (by decide)))
  exact IntMulOk.of_bits (up _ h.1) (up _ h.2)
theorem Bg.log {j : Int} (h : Bg j) : j.natAbs.log2 < 9000 := by
  by_cases h0 : j.natAbs = 0
  · rw [h0]; decide
  · have h1 := Nat.log2_self_le h0
    have h : j.natAbs < 2 ^ 8000 := h
    have h2 : (2 : Nat) ^ j.natAbs.log2 < 2 ^ 8000 := Nat.lt_of_le_of_lt h1 h
    have h3 := (Nat.pow_lt_pow_iff_right (by decide : 1 < 2)).mp h2
    exact Nat.lt_trans h3 (by decide)
section
variable {X : Cx} {K : PySem.W.Frag}
theorem op_mulB : OpR X (binaryOp .Mult) (rI CMulB fun i j => .int (i * j)) := opI fun _ _ _ _ _ _ _ hc q => mul_int q hc.ok
theorem op_fdivB : OpR X (binaryOp .FloorDiv) (rI CDivB fun i j => .int (i / j)) := opI fun i j _ _ _ _ _ hc q => by
  refine floordiv_int (Int.ne_of_gt hc.1) ?_ (.inl (PyProof.noPylong_of_log2 hc.2.log))
  rw [Int.fdiv_eq_ediv_of_nonneg _ (Int.le_of_lt hc.1)]
  exact q
/-! ### sum of a list of ints -/
theorem preSum_list (ns : List Int) : ∀ n, n ≤ ns.length → preSum (fun i => ns.getD i 0) n = (ns.take n).sum
  | 0, _ => rfl
  | n + 1, h => by
    rw [preSum, preSum_list ns n (by omega), List.take_add_one, List.sum_append, List.getElem?_eq_getElem (by omega : n < ns.length)]
    simp [List.getD_eq_getElem?_getD, List.getElem?_eq_getElem (by omega : n < ns.length)]
theorem call_sumI (hK : X.K = K) (hc : X.calm = true) : CallR X (.builtin "sum") (fun xs H Q => ∃ (p : Addr) (ns : List Int), xs = [.ref p] ∧ SqL K H p (ns.map V.int) ∧ Q (.int ns.sum) H) := by
  subst hK
  intro pins s σ H xs us Q I r h
  obtain ⟨p, ns, rfl, hs, q⟩ := h
  obtain ⟨u, rfl, ru⟩ := vals1 r
  cases (show u = Value.ref p from ru)
  obtain ⟨its, rv, hp, _⟩ := I.list hs
  have hl := hp.isList
  have hlt : p < s.heap.objs.size := by obtain ⟨_, e, _⟩ := hl; exact Heap.lt_size e
  have hsz : its.toArray.size = ns.length := by
    have := rv.length
    simp at this ⊢
    omega
  have W := (Walks.list (prog := X.prog) (w := X.w) (A := X.A.in1) (I.ok.hd hc) s.heap.objs.size p (Nat.ne_of_lt hlt) its.toArray).toS
  rw [hsz] at W
  refine call_sum_walkAnyS (wpAny_pyIter_list hl ?_)
  refine ⟨s.heap.objs.size, _, _, _, _, _, _, fun i => ns.getD i 0, rfl, W, ⟨⟨_, Heap.get?_push_size _ rfl, rfl, rfl⟩, hl.push _⟩, fun b hb => ?_, fun i v hP => ?_, fun s' t' hm => ?_⟩
  · rcases List.mem_cons.mp hb with rfl | hb
    · exact Heap.lt_size (Heap.get?_push_size _ rfl)
    · obtain rfl := List.mem_singleton.mp hb
      exact Heap.lt_size (Heap.get?_push_of_some _ (id hl).choose_spec.1)
  · have hP : its.toArray[i]? = some v := hP
    have hP : its[i]? = some v := by simpa using hP
    have hi : i < its.length := (List.getElem?_eq_some_iff.mp hP).1
    have hi2 : i < ns.length := by simp at hsz; omega
    obtain ⟨u, e1, ⟨t, e2⟩⟩ := rv.get (i := i) (x := .int ns[i]) (by rw [List.getElem?_map, List.getElem?_eq_getElem hi2]; rfl)
    rw [hP] at e1
    cases e1
    refine ⟨t, ?_⟩
    rw [e2]
    show _ = Value.int (ns.getD i 0) t
    rw [List.getD_eq_getElem?_getD, List.getElem?_eq_getElem hi2]
    rfl
  · obtain ⟨h', g', d', tk', os'⟩ := s'
    have e1 : g' = s.gens := hm.gens
    have e2 : d' = s.drawn := hm.drawn
    have e3 : os' = s.os := hm.os
    subst e1 e2 e3
    have ep := preSum_list ns ns.length (Nat.le_refl _)
    rw [List.take_length] at ep
    rw [ep]
    exact ⟨.int ns.sum, H, I.kept fun b o e => hm.heap b o (fun hb => absurd (Heap.lt_size e) ((List.mem_singleton.mp hb) ▸ Nat.lt_irrefl _)) (Heap.get?_push_of_some _ e), ⟨_, rfl⟩, q⟩
def gSum : GB := fun ds R => ∃ es ns, ds = [.list es] ∧ intsOf es = some ns ∧ R (.int ns.sum)
theorem mSum : MeansB K (fun xs H Q => ∃ (p : Addr) (ns : List Int), xs = [.ref p] ∧ SqL K H p (ns.map V.int) ∧ Q (.int ns.sum) H) gSum := by
  rintro N H xs ds R Q w ⟨es, ns, rfl, e1, hR⟩ hq
  cases w with
  | cons w1 w2 =>
    cases w2
    obtain ⟨a, vs, rfl, s, q⟩ := w1.list
    rw [intsOf_some e1] at q
    rw [q.ints] at s
    exact ⟨a, ns, rfl, s, hq _ _ hR (.int _)⟩
end
end L2
namespace L2
open PySem
theorem Bg.of {i : Int} (h1 : -1000000000000000000000000000000000000000000000 ≤ i) (h2 : i ≤ 1000000000000000000000000000000000000000000000) : Bg i := by
  have h : i.natAbs < 2 ^ 200 := by
    have : (2 : Nat) ^ 200 = 1606938044258990275541962092341162602522202993782792835301376 := by decide
    rw [this]
    omega
  exact Nat.lt_of_lt_of_le h (Nat.pow_le_pow_right (by decide) (by decide))
end L2
set_option Elab.async false
set_option linter.all false
set_option maxRecDepth 100000
set_option maxHeartbeats 4000000
namespace L2
open PySem PySem.Spec PyProof.Rows
section
variable (env : List Sl) (d : PyData) (l : List PyData) (i n : Nat) (s : Sl) (R : Sl → List Sl → Prop)
theorem valOf_fr : valOf env (.fr d) = some d := rfl
theorem valOf_ow : valOf env (.ow l) = some (.list l) := rfl
theorem valOf_io : valOf env (.io l) = some (.list l) := rfl
theorem valOf_vw : valOf env (.vw i) = (env[i]?).bind slD := rfl
theorem slD_fr : slD (.fr d) = some d := rfl
theorem slD_ow : slD (.ow l) = some (.list l) := rfl
theorem slD_io : slD (.io l) = some (.list l) := rfl
theorem slD_un : slD .un = none := rfl
theorem slK_fr : slK (.fr d) = some d := rfl
theorem slK_ow : slK (.ow l) = none := rfl
theorem slK_io : slK (.io l) = none := rfl
theorem slK_un : slK .un = none := rfl
theorem keepOf_fr : keepOf env (.fr d) = some d := rfl
theorem keepOf_ow : keepOf env (.ow l) = some (.list l) := rfl
theorem keepOf_vw : keepOf env (.vw i) = (env[i]?).bind slK := rfl
theorem stoOf_fr : stoOf env (.fr d) = some (.fr d) := rfl
theorem stoOf_ow : stoOf env (.ow l) = some (.ow l) := rfl
theorem stoOf_vw : stoOf env (.vw i) = ((env[i]?).bind slK).map .fr := rfl
def resS : Sl → Option Sl
  | .fr d => some (.fr d)
  | .ow l => some (.ow l)
  | _ => none
theorem resOf_fr : resOf env (.fr d) = some (.fr d) := rfl
theorem resOf_ow : resOf env (.ow l) = some (.ow l) := rfl
theorem resOf_vw : resOf env (.vw i) = (env[i]?).bind resS := by
  show (env[i]?).bind _ = _
  congr 1
theorem resS_fr : resS (.fr d) = some (.fr d) := rfl
theorem resS_ow : resS (.ow l) = some (.ow l) := rfl
theorem ioOnly_fr : ioOnly (.fr d) = .un := rfl
theorem ioOnly_ow : ioOnly (.ow l) = .un := rfl
theorem ioOnly_io : ioOnly (.io l) = .io l := rfl
theorem ioOnly_un : ioOnly .un = .un := rfl
theorem endsD_rt : (endsD n R).rt s env = ∃ r, resOf env s = some r ∧ R r (finD n env) := rfl
theorem endsD_nx : (endsD n R).nx env = R (.fr .none) (finD n env) := rfl
theorem setSl_ow : setSl (.ow l) d' = some (.ow d') := rfl
theorem setSl_io : setSl (.io l) d' = some (.io d') := rfl
theorem ownD_ow : ownD (.ow l) = some l := rfl
theorem ownD_io : ownD (.io l) = some l := rfl
theorem ownD_fr : ownD (.fr d) = none := rfl
theorem ownD_un : ownD .un = none := rfl
theorem capSl_fr : capSl (some (.fr d)) = .fr d := rfl
theorem capSl_ow : capSl (some (.ow l)) = .un := rfl
theorem capSl_io : capSl (some (.io l)) = .un := rfl
theorem capSl_un : capSl (some .un) = .un := rfl
theorem capD_none : capD env none = .un := rfl
theorem capD_some : capD env (some i) = capSl env[i]? := rfl
theorem seqOf_list : seqOf (.list l) = some l := rfl
theorem seqOf_tuple : seqOf (.tuple l) = some l := rfl
theorem truD_none : truD .none = some false := rfl
theorem truD_bool (b : Bool) : truD (.bool b) = some b := rfl
theorem truD_int (i : Int) : truD (.int i) = some (i != 0) := rfl
theorem truD_list : truD (.list l) = some (!l.isEmpty) := rfl
theorem truD_tuple : truD (.tuple l) = some (!l.isEmpty) := rfl
theorem isNn_none : isNn .none = true := rfl
theorem isNn_int (i : Int) : isNn (.int i) = false := rfl
theorem isNn_bool (i : Bool) : isNn (.bool i) = false := rfl
theorem isNn_list : isNn (.list l) = false := rfl
theorem isNn_tuple : isNn (.tuple l) = false := rfl
theorem isK_int (i : Int) : isK "int" (.int i) = true := rfl
theorem isK_bool (b : Bool) : isK "bool" (.bool b) = true := rfl
theorem isK_ib (b : Bool) : isK "int" (.bool b) = true := rfl
theorem isK_bi (i : Int) : isK "bool" (.int i) = false := rfl
theorem isK_list : isK "list" (.list l) = true := rfl
theorem isK_tuple : isK "tuple" (.tuple l) = true := rfl
theorem isK_lt : isK "list" (.tuple l) = false := rfl
theorem isK_tl : isK "tuple" (.list l) = false := rfl
theorem isK_in : isK "int" .none = false := rfl
theorem isK_bn : isK "bool" .none = false := rfl
theorem dFrz_eq : dFrz i env R = (match env[i]? with | some (.fr d) => R (.fr d) env | some (.ow ds) => R (.fr (.list ds)) (env.set i (.fr (.list ds))) | _ => False) := rfl
theorem keepsOf_nil : keepsOf env [] = some [] := rfl
theorem keepsOf_cons (s : Sl) (ss : List Sl) : keepsOf env (s :: ss) = (keepOf env s).bind fun d => (keepsOf env ss).bind fun ds => some (d :: ds) := rfl
theorem valsOf_nil : valsOf env [] = some [] := rfl
theorem valsOf_cons (s : Sl) (ss : List Sl) : valsOf env (s :: ss) = (valOf env s).bind fun d => (valsOf env ss).bind fun ds => some (d :: ds) := rfl
theorem eqv_ints (i j : Int) : PyData.eqv (.int i) (.int j) = decide (i = j) := by
  show (i == j) = _
  by_cases h : i = j <;> simp [h]
end
/-! a, b = x, y -/
section
variable {X : Cx} {K : PySem.W.Frag} {ta : DA} {a b : Expr} {pos : Pos}
def dPar (i j : Nat) (ta : DA) : DS := fun DD env => ta env fun ss env1 => ∃ s1 s2 d1 d2, ss = [s1, s2] ∧ keepOf env1 s1 = some d1 ∧ keepOf env1 s2 = some d2 ∧ i < env1.length ∧ j < env1.length ∧ DD.nx ((env1.set i (.fr d1)).set j (.fr d2))
theorem par_up {i j : Nat} : ∀ D σ H, upS K (dPar i j ta) D σ H → tPar i j (upA K ta) D σ H := fun D σ H h => by
  obtain ⟨M, P, H0, σ0, env, ts, DD, nv, rel, ht, ok⟩ := h
  refine ⟨M, P, H0, σ0, env, ts, _, rel, ht, fun ss env1 vs H1 h1 hl rel1 => ?_⟩
  obtain ⟨s1, s2, d1, d2, rfl, k1, k2, hi, hj, hR⟩ := h1
  match vs, hl, rel1 with
  | [v, v'], hl, rel1 =>
    have dns := rel1.keptAll (vs := [v, v']) (ds := [d1, d2]) hl (fun p hp => hp) (by simp [keepsOf, k1, k2])
    have r2 := rel1.drop.addFrs dns
    have r2 : Rel K M P H0 σ0 σ env1 (ts ++ [(v, .fr d1), (v', .fr d2)]) H1 := by simpa using r2
    cases dns with
    | cons dn q =>
      cases q with
      | cons dn' q =>
        refine ⟨v, v', rfl, ok.nx _ _ _ hR ?_⟩
        -- the second as a temporary below the first
        have r3 : Rel K M P H0 σ0 σ env1 ((ts ++ [(v', .fr d2)]) ++ [(v, .fr d1)]) H1 := (rel1.drop.addFr dn').addFr (dn.to fun b _ _ z => by rw [ents_app, nw_tmpFr] at z; exact z)
        have nv2 : NoVw (ts ++ [(v', .fr d2)]) := fun w i m => by
          rcases List.mem_append.mp m with m | m
          · exact nv w i m
          · rw [List.mem_singleton] at m; cases m
        have r4 := r3.store nv2 hi (.inl ⟨d1, rfl⟩)
        exact r4.store nv (by simpa using hj) (.inl ⟨d2, rfl⟩)
theorem q_par {i j : Nat} {x y : Str} {px py pt : Pos} {kt k2 pt2} (hc : X.calm = true) (hN : X.N.Nodup) (hi : X.N[i]? = some x) (hj : X.N[j]? = some y) (hij : i ≠ j)
    (hx : X.env.scope.names.lookup x = some .local) (hy : X.env.scope.names.lookup y = some .local) (ha : PA X [a, b] (upA K ta))
    (hw : swappedStores [.Tuple [.Name x px, .Name y py] kt pt] (.Tuple [a, b] k2 pt2) X.env = pure (some [x, y]) := by rfl)
    (hs : swapsWithSole [.Tuple [.Name x px, .Name y py] kt pt] (.Tuple [a, b] k2 pt2) pos.line X.env = pure false := by rfl) :
    PS X (.Assign [.Tuple [.Name x px, .Name y py] kt pt] (.Tuple [a, b] k2 pt2) pos) (upS K (dPar i j ta)) := (ps_par hc hN hi hj hij hx hy ha hw hs).imp par_up
end
end L2
namespace L2
open PySem PySem.Spec PyProof.Rows
theorem atI_c0 {α : Type} (x : α) (l : List α) : atI (x :: l) 0 = some x := atI_nat (j := 0) rfl
theorem atI_c1 {α : Type} (x y : α) (l : List α) : atI (x :: y :: l) 1 = some y := atI_nat (j := 1) rfl
theorem atI_c2 {α : Type} (x y z : α) (l : List α) : atI (x :: y :: z :: l) 2 = some z := atI_nat (j := 2) rfl
theorem atI_c4 {α : Type} (a b c d x : α) (l : List α) : atI (a :: b :: c :: d :: x :: l) 4 = some x := atI_nat (j := 4) rfl
theorem atI_c5 {α : Type} (a b c d e x : α) (l : List α) : atI (a :: b :: c :: d :: e :: x :: l) 5 = some x := atI_nat (j := 5) rfl
theorem atI_c6 {α : Type} (a b c d e f x : α) (l : List α) : atI (a :: b :: c :: d :: e :: f :: x :: l) 6 = some x := atI_nat (j := 6) rfl
theorem atI_c7 {α : Type} (a b c d e f g x : α) (l : List α) : atI (a :: b :: c :: d :: e :: f :: g :: x :: l) 7 = some x := atI_nat (j := 7) rfl
theorem eqv_none : PyData.eqv .none .none = true := rfl
theorem eqv_ni (i : Int) : PyData.eqv .none (.int i) = false := rfl
theorem eqv_in (i : Int) : PyData.eqv (.int i) .none = false := rfl
theorem shp_int (i : Int) : shp (.int i) = True := by simp [shp, SeqAt.shaped, PySem.PyData.canLay0, PySem.PyData.depth]
theorem shp_none : shp .none = True := by simp [shp, SeqAt.shaped, PySem.PyData.canLay0, PySem.PyData.depth]
theorem shp_bool (b : Bool) : shp (.bool b) = True := by simp [shp, SeqAt.shaped, PySem.PyData.canLay0, PySem.PyData.depth]
theorem atI_c3 {α : Type} (x y z u : α) (l : List α) : atI (x :: y :: z :: u :: l) 3 = some u := atI_nat (j := 3) rfl
end L2
set_option Elab.async false
set_option linter.all false
set_option maxRecDepth 100000
set_option maxHeartbeats 4000000
namespace L2
open PySem PySem.Spec PyProof.Rows
theorem law_sp {K : PySem.W.Frag} {H : Hp} {a : Addr} {ns : List Int} {E : XK} (hS : SqL K H a (ns.map V.int)) {sp : DSp} (h : sp [.fr (.list (li ns))] (fun r _ => r = .fr (.bool true))) : spD K sp [.ref a] H (fun v _ => v = .bl true) E := by
  have dns : DNs K (fun _ => False) H [.ref a] [.list (li ns)] := .cons (DN.sqL hS) .nil
  refine ⟨fun _ => False, [.fr (.list (li ns))], _, rfl, argsFr (ds := [.list (li ns)]) dns (fun a z => z.elim), h, fun r ss' v H' hR _ post => ?_⟩
  subst hR
  obtain ⟨w, e, dn⟩ := post.fr _ _ List.mem_cons_self
  cases e
  cases dn
  rfl
theorem walkD {l : PySem.W.OpenLaw} {q : Program} {loose : List Str} {XP : (Str → Option Value) → Heap → Prop} {YP : World → Heap → Prop} {d : DefRec} {K : Params → PySem.W.Frag} {sp : DSp} {k : Nat} (hk : k ≤ 40) (hn : l.most = some 63) (hdf : d.params.defaults = [])
    (hsp : ∀ ns : List Int, ns.length ≤ 63 → sp [.fr (.list (li ns))] (fun r _ => r = .fr (.bool true)))
    (hY : ∀ (w : World) (h : Heap), YP w h → (K w.params).In h)
    (F : ∀ (w : World) (mg : Str → Option Value) (fa : Addr) (h : Heap), (K w.params).In h → h.Ns mainGlobals mg → mg d.name = some (.ref fa) →
      ∃ fd : FuncData, (∀ (s : Shared) (u : Value), BindsTo s fd ⟨[u], []⟩ [("_law_script", u)]) ∧ ∀ base : Heap, (K w.params).In base → base.Ns mainGlobals mg → FnOk l.prog w (K w.params) mg base CX0 k fa fd ["_law_script"] (spD (K w.params) sp)) :
    PySem.W.WalkO q loose XP YP l.row.toRowW d [] (fun f vs => PySem.call f vs) := by
  refine L2.walk_of (n := 63) (k := 40) (x := "_law_script") (CX := fun _ => CX0) (sp := fun w => spD (K w.params) sp) hn (by decide) hdf ⟨rfl, by decide, by decide⟩ hY (fun w mg fa h a b c => ?_) (fun w H a ns hl _ hS => law_sp hS (hsp ns hl)) fun _ _ _ _ _ z => z
  obtain ⟨fd, h1, h2⟩ := F w mg fa h a b c
  exact ⟨fd, h1, fun base x y => (h2 base x y).mono hk⟩
end L2
set_option Elab.async false
set_option linter.all false
set_option maxRecDepth 100000
set_option maxHeartbeats 4000000
namespace L2
open PySem PySem.Spec PyProof.Rows
/-! ### how deep data are; what is like itself -/
def Sh (n : Nat) (d : PyData) : Prop := d.canLay0 = true ∧ d.depth ≤ n
theorem Sh.int (n : Nat) (i : Int) : Sh n (.int i) := ⟨by simp [PyData.canLay0], by simp [PyData.depth]⟩
theorem Sh.bool (n : Nat) (i : Bool) : Sh n (.bool i) := ⟨by simp [PyData.canLay0], by simp [PyData.depth]⟩
theorem Sh.none (n : Nat) : Sh n .none := ⟨by simp [PyData.canLay0], by simp [PyData.depth]⟩
theorem Sh.all {n : Nat} : ∀ {ds : List PyData}, (∀ x ∈ ds, Sh n x) → PyData.canLayAll0 ds = true ∧ PyData.depthAll ds ≤ n
  | [], _ => ⟨by simp [PyData.canLayAll0], by simp [PyData.depthAll]⟩
  | d :: ds, h => by
    have h1 := h d List.mem_cons_self
    have h2 := Sh.all fun x hx => h x (List.mem_cons_of_mem _ hx)
    refine ⟨by rw [PyData.canLayAll0, h1.1, h2.1]; rfl, ?_⟩
    rw [PyData.depthAll]
    have a := h1.2
    have b := h2.2
    omega
theorem Sh.list {n : Nat} {ds : List PyData} (h : ∀ x ∈ ds, Sh n x) : Sh (n + 1) (.list ds) := by
  obtain ⟨a, b⟩ := Sh.all h
  exact ⟨by rw [PyData.canLay0]; exact a, by rw [PyData.depth]; omega⟩
theorem Sh.tuple {n : Nat} {ds : List PyData} (h : ∀ x ∈ ds, Sh n x) : Sh (n + 1) (.tuple ds) := by
  obtain ⟨a, b⟩ := Sh.all h
  exact ⟨by rw [PyData.canLay0]; exact a, by rw [PyData.depth]; omega⟩
theorem Sh.mono {n m : Nat} {d : PyData} (h : Sh n d) (hm : n ≤ m) : Sh m d := ⟨h.1, Nat.le_trans h.2 hm⟩
theorem Sh.ints (n : Nat) (ns : List Int) : Sh (n + 1) (.list (li ns)) := Sh.list fun x hx => by
  obtain ⟨i, _, rfl⟩ := List.mem_map.mp hx
  exact Sh.int _ _
theorem Sh.intT (n : Nat) (ns : List Int) : Sh (n + 1) (.tuple (li ns)) := Sh.tuple fun x hx => by
  obtain ⟨i, _, rfl⟩ := List.mem_map.mp hx
  exact Sh.int _ _
theorem Sh.shp {n : Nat} {d : PyData} (h : Sh n d) (hn : n ≤ 64) : shp d := by
  show SeqAt.shaped d = true
  unfold SeqAt.shaped
  rw [h.1, decide_eq_true (Nat.le_trans h.2 hn)]
  rfl
theorem atI_li {ns : List Int} {k : Nat} (h : k < ns.length) : atI (li ns) (k : Int) = some (.int (ns.getD k 0)) := atI_nat (by
  rw [List.getElem?_map, List.getElem?_eq_getElem h, List.getD_eq_getElem?_getD, List.getElem?_eq_getElem h]
  rfl)
theorem li_get {ns : List Int} {i : Nat} (h : i < (li ns).length) : (li ns)[i] = .int (ns.getD i 0) := by
  have h' : i < ns.length := by simpa using h
  simp [List.getD_eq_getElem?_getD, List.getElem?_eq_getElem h']
theorem li_set (ns : List Int) (i : Nat) (x : Int) : (li ns).set i (.int x) = li (ns.set i x) := by simp [List.map_set]
theorem li_app (ns ms : List Int) : li ns ++ li ms = li (ns ++ ms) := by simp
theorem li_snoc (ns : List Int) (x : Int) : li ns ++ [.int x] = li (ns ++ [x]) := by simp
theorem li_range (n : Nat) (f : Nat → Int) : (List.range n).map (fun i => PyData.int (f i)) = li ((List.range n).map f) := by
  show _ = List.map _ (List.map _ _)
  rw [List.map_map]
  rfl
theorem p20 : (10 : Int) ^ Int.toNat 20 = 100000000000000000000 := by decide
theorem p40 : (10 : Int) ^ Int.toNat 40 = 10000000000000000000000000000000000000000 := by decide
theorem cpow10 {j : Int} (h : 0 ≤ j) (h' : j ≤ 1000000) : CPow 10 j := ⟨h, h', by decide⟩
theorem cmul_l {i j : Int} (h0 : -18446744073709551616 < i) (h1 : i < 18446744073709551616) : CMul i j := .inl ⟨h0, h1⟩
theorem cmul_r {i j : Int} (h0 : -18446744073709551616 < j) (h1 : j < 18446744073709551616) : CMul i j := .inr ⟨h0, h1⟩
end L2
namespace L2
open PySem PySem.Spec PyProof.Rows
/-- the rest of a block, not looked into yet -/
@[irreducible] def dNx (u : DS) : DS := u
theorem dNx_eq (u : DS) : dNx u = u := by unfold dNx; rfl
theorem nx {u : DS} {DD : DEnds} {env : List Sl} (h : u DD env) : dNx u DD env := by rw [dNx_eq]; exact h
theorem qs_bar {X : Cx} {K : PySem.W.Frag} {st : Stmt} {rest : List Stmt} {t u : DS} (h1 : PS X st (upS K t)) (h2 : PSs X rest (upS K u)) : PSs X (st :: rest) (upS K (dSeq t (dNx u))) := by rw [dNx_eq]; exact qs_cons h1 h2
end L2
namespace L2
theorem cutD_map {α β : Type} (f : α → β) (xs : List α) (lo hi : Option Int) : cutD (xs.map f) lo hi = (cutD xs lo hi).map f := by
  unfold cutD
  rw [List.length_map, List.map_take, List.map_drop]
theorem cutD_len {α : Type} (xs : List α) (lo hi : Option Int) : (cutD xs lo hi).length ≤ xs.length := by
  unfold cutD
  rw [List.length_take, List.length_drop]
  omega
theorem atI_map {α β : Type} (f : α → β) (xs : List α) (d : α) {k : Nat} (h : k < xs.length) : atI (xs.map f) (k : Int) = some (f (xs.getD k d)) := atI_nat (by
  rw [List.getElem?_map, List.getElem?_eq_getElem h, List.getD_eq_getElem?_getD, List.getElem?_eq_getElem h]
  rfl)
/-- a place in a list of that length -/
theorem place {x : Int} {n : Nat} (h : 0 < n) : ∃ a : Nat, x % (n : Int) = (a : Int) ∧ a < n := by
  have h0 := Int.emod_nonneg x (show (n : Int) ≠ 0 by omega)
  have h1 := Int.emod_lt_of_pos x (show (0 : Int) < n by omega)
  exact ⟨(x % (n : Int)).toNat, by omega, by omega⟩
end L2
set_option Elab.async false
set_option linter.all false
set_option maxRecDepth 100000
set_option maxHeartbeats 4000000
namespace W
open PySem L2
local macro_rules | `(tactic| walk_at "dd") => `(tactic| simp only [dSeq, dSet, dAsg, dgName, dgTup, dgCons, dgNil, dRet, dRetN, dDrop, dNext, dIfS, dBrk, dCont, dSetIx, dFor, dOp, dOpL, dCatT, dUn, dVar, dFrz, dC, dTest, dAnd, dOr, dNot, dAndV, dOrV, dNotV, dIf, dChain, dTup, dLst, dCons, dNil, dCall, dCallS, dCallT, dCB, dIs, dTruth, dSlL, dSlT, dPart, dNoPart, dListOf, dTupOf, dApp, dPop, dIList, dITup, dRng1, dRng2, dEnum, dZip, dComp, dComp1, dYes, sqD, gI, gIC, gB, gBB, gEq, gNe, gIsN, gNotN, gIn, gNotIn, gInD, gNotInD, gIx, gCat, gLen, gMin, gMax, gAbs, gInt, gAll, gAny, gNeg, gSum, dPar, valOf_fr, valOf_ow, valOf_io, valOf_vw, valsOf_nil, valsOf_cons, keepOf_fr, keepOf_ow, keepOf_vw, keepsOf_nil, keepsOf_cons, slD_fr, slD_ow, slD_io, slD_un, slK_fr, slK_ow, slK_io, slK_un, stoOf_fr, stoOf_ow, stoOf_vw, resOf_fr, resOf_ow, resOf_vw, resS_fr, resS_ow, finD, ioOnly_fr, ioOnly_ow, ioOnly_io, ioOnly_un, endsD_rt, endsD_nx, startD, setSl_ow, setSl_io, ownD_ow, ownD_io, ownD_fr, ownD_un, capE, capD_none, capD_some, capSl_fr, capSl_ow, capSl_io, capSl_un, seqOf_list, seqOf_tuple, truD_none, truD_bool, truD_int, truD_list, truD_tuple, isNn_none, isNn_int, isNn_bool, isNn_list, isNn_tuple, isK_int, isK_bool, isK_ib, isK_bi, isK_list, isK_tuple, isK_lt, isK_tl, isK_in, isK_bn, intsOf_map, boolsOf_map, eqv_ints, atI_c0, atI_c1, atI_c2, atI_c3, atI_c4, atI_c5, atI_c6, atI_c7, eqv_none, eqv_ni, eqv_in, shp_int, shp_none, shp_bool, List.map_cons, List.map_nil, List.length_cons, List.length_nil, List.cons_append, List.nil_append, List.append_nil, List.replicate_succ, List.replicate_zero, List.set_cons_succ, List.set_cons_zero, List.getElem?_cons_zero, List.getElem?_cons_succ, List.getElem?_nil, List.take_succ_cons, List.take_zero, List.take_nil, List.drop_succ_cons, List.drop_zero, List.drop_nil, Option.some.injEq, Option.bind_some, Option.bind_none, Option.map_some, Option.map_none, Sl.fr.injEq, Sl.ow.injEq, Sl.io.injEq, Sl.vw.injEq, PyData.int.injEq, PyData.bool.injEq, PyData.list.injEq, PyData.tuple.injEq, PyData.str.injEq, List.cons.injEq, reduceCtorEq, and_true, true_and, and_false, false_and, and_assoc, exists_eq_left', exists_eq_left, exists_and_left, exists_eq', exists_eq, exists_false, exists_const, Nat.reduceSub, Nat.reduceAdd, Nat.reduceLT, Nat.zero_add, Nat.lt_add_left_iff_pos, decide_eq_true_eq, ite_true, ite_false, Bool.false_eq_true, if_true, if_false, Bool.not_eq_true', Bool.not_eq_true, decide_eq_false_iff_not, Int.zero_add, String.reduceBEq, Bool.true_and, Bool.and_true, Bool.or_false, Bool.false_or, Bool.or_true, Bool.true_or, Bool.and_false, Bool.false_and, Bool.not_true, Bool.not_false, id_eq, Sl.ctorIdx, Nat.succ_eq_add_one])
def top (i : Nat) : Stmt := PySem.Challenge.pw_windround_k14_shares_and_supplies.main.body.getD i (.Pass ⟨0, 0, 0, 0⟩)
section
variable {P : Program} {w : World} {K : PySem.W.Frag} {mg : Str → Option Value} {base : Heap}
/-! ### _law_draws (of the second kind): so many numbers, from 0 to below 2147483587 -/
abbrev s__law_draws : Stmt := top 9
theorem sc__law_draws : FnScope ["_law_script", "_law_turn", "_law_many", "_law_cells", "_law_found", "_law_left", "_law_k", "_law_at", "_law_place", "_law_number"] ["_law_script", "_law_turn", "_law_many"] (defScope s__law_draws) := ⟨rfl, rfl, rfl, by decide +kernel, rfl, by decide +kernel, by decide +kernel⟩
def Dr (m : Nat) (l : List Int) : Prop := l.length = m ∧ ∀ x ∈ l, 0 ≤ x ∧ x < 2147483587
theorem Dr.app {m : Nat} {l : List Int} {x : Int} (h : Dr m l) (h0 : 0 ≤ x) (h1 : x < 2147483587) : Dr (m + 1) (l ++ [x]) := by
  refine ⟨by simp [h.1], fun y hy => ?_⟩
  rcases List.mem_append.mp hy with hy | hy
  · exact h.2 y hy
  · rw [List.mem_singleton.mp hy]; exact ⟨h0, h1⟩
def spDraws : DSp := fun ss R => ∃ (ns : List Int) (t m : Nat), ss = [.fr (.list (li ns)), .fr (.int t), .fr (.int m)] ∧ ns.length ≤ 63 ∧ t ≤ 5000 ∧ m ≤ 5000 ∧ ∀ l, Dr m l → R (.ow (li l)) [.un, .un, .un]
theorem cut63 (ns : List Int) (h : ns.length ≤ 63) : cutD (li ns) none (some 63) = li ns := by
  unfold cutD
  have e : HT.sIx (li ns).length (li ns).length (some 63) = min 63 (li ns).length := HT.sIx_nat _ _ 63
  rw [e, HT.sIx_none, List.length_map, List.drop_zero, Nat.sub_zero, Nat.min_eq_right h]
  exact List.take_of_length_le (by simp)
theorem bi__law_draws {f : Addr} {fd : FuncData} (F : Fun K "_law_draws" "_law_draws" s__law_draws f fd) : Binds K fd ["_law_script", "_law_turn", "_law_many"] [] := F.binds (ps := ["_law_script", "_law_turn", "_law_many"]) fun _ _ _ _ _ _ us hl => match us, hl with | [_, _, _], _ => rfl
theorem ok__law_draws {f : Addr} {fd : FuncData} (F : Fun K "_law_draws" "_law_draws" s__law_draws f fd) (B : Bn mg) : FnOk P w K mg base CX0 2 f fd ["_law_script", "_law_turn", "_law_many"] (spD K spDraws) := by
  refine okD (k := 1) F sc__law_draws (fun ss R h => ?_) (by decide) (fun cdv A outer s H E hr => ⟨_, (qs_cons (q_set (i := 3) sc__law_draws.nd rfl (Or.inl rfl) (q_opL (op_catS (K := K) rfl) mCat (q_slL (K := K) rfl (qv 0) qo_none (qo_some q_int)) (q_lst (qa_cons (qf 1) qa_nil))))
      (qs_cons (q_set (i := 4) sc__law_draws.nd rfl (Or.inl rfl) (q_lst qa_nil))
      (qs_cons (q_if (qt_cmp op_eq mEqI (q_op op_mod mIC (q_op op_fdiv mIC (q_ix (ix_any (K := K) rfl) mIx (qv 3) q_int (fun _ _ => rfl)) q_int) q_int) q_int (nomark _)) (qs_cons (q_setComp (i := 5)  sc__law_draws.nd rfl rfl (N' := ["_law_cell"]) (ix := [none]) rfl (bs_of (N := ["_law_script", "_law_turn", "_law_many", "_law_cells", "_law_found", "_law_left", "_law_k", "_law_at", "_law_place", "_law_number"]) (sc0 := defScope s__law_draws) rfl rfl (by decide +kernel)) (qi_list (K := K) rfl (qf 3)) (fun _ _ _ _ => (qg_name (i := 0) (show List.Nodup (["_law_cell"] : List Str) by decide +kernel) rfl (Or.inl rfl))) (fun _ _ _ _ => qif_nil) (fun _ _ _ _ => (q_op op_fdiv mIC (qv 0) q_int)))
      (qs_cons (q_for PassesOwn.never rfl (qi_rng1 rfl B.range (qa_cons (q_op op_add mI (qv 1) (qv 2)) qa_nil)) (qg_name (i := 6) sc__law_draws.nd rfl (Or.inl rfl)) (qs_cons (q_set (i := 7) sc__law_draws.nd rfl (Or.inl rfl) (q_op op_mod mIC (qv 6) (q_cb (kLen (K := K) rfl) mLen rfl B.len PySem.boot_len (qa_cons (qv 5) qa_nil))))
      (qs_cut (q_if (qt_cmp op_ge mB (qv 6) (qv 1) (nomark _)) (qs_one (q_expr (q_app 4 (K := K) rfl rfl (q_op op_mod mIC (q_ix (ix_any (K := K) rfl) mIx (qv 5) (qv 7) (fun _ _ => rfl)) q_int)))) qs_nil)
      (qs_one (q_setIx 5 rfl (qv 7) (q_op op_fdivB mIC (q_ix (ix_any (K := K) rfl) mIx (qv 5) (qv 7) (fun _ _ => rfl)) q_int))))))
      (qs_one (q_ret (qv 4))))) qs_nil)
      (qs_cons (q_for PassesOwn.never rfl (qi_rng1 rfl B.range (qa_cons (qv 2) qa_nil)) (qg_name (i := 6) sc__law_draws.nd rfl (Or.inl rfl)) (qs_cons (q_set (i := 8) sc__law_draws.nd rfl (Or.inl rfl) (q_op op_add mI (q_op op_mul mIC (q_op op_mul mIC (q_op op_add mI (qv 6) (qv 1)) (q_op op_add mI (qv 6) (qv 1))) q_int) q_int))
      (qs_cons (q_set (i := 9) sc__law_draws.nd rfl (Or.inl rfl) (q_op op_mod mIC (q_op op_mul mIC (q_op op_add mI (q_op op_mod mIC (q_ix (ix_any (K := K) rfl) mIx (qv 3) (q_op op_mod mIC (qv 6) (q_cb (kLen (K := K) rfl) mLen rfl B.len PySem.boot_len (qa_cons (qv 3) qa_nil))) (fun _ _ => rfl)) q_int) (qv 8)) q_int) q_int))
      (qs_cons (q_set (i := 9) sc__law_draws.nd rfl (Or.inl rfl) (q_op op_mod mIC (q_op op_add mI (q_op op_mul mIC (qv 9) (qv 9)) (q_op op_mul mIC q_int (qv 6))) q_int))
      (qs_one (q_expr (q_app 4 (K := K) rfl rfl (q_op op_mod mIC (q_op op_mul mIC (qv 9) (qv 9)) q_int))))))))
      (qs_one (q_ret (qv 4))))))), fun ss R h => ?_⟩)
  · obtain ⟨ns, t, m, rfl, _⟩ := h
    rfl
  obtain ⟨ns, t, m, rfl, h63, ht, hm, q⟩ := h
  walk_at "dd"
  rw [cut63 ns h63]
  have ec : li ns ++ [PyData.int (t : Int)] = li (ns ++ [(t : Int)]) := by simp
  rw [ec]
  obtain ⟨cs, hcs⟩ : ∃ cs : List Int, cs = ns ++ [(t : Int)] := ⟨_, rfl⟩
  have hlen : cs.length = ns.length + 1 := by rw [hcs]; simp
  rw [← hcs]
  refine ⟨by decide, ?_, by decide, _, atI_li (k := 0) (by omega), ?_⟩
  · rw [List.length_map]
    exact Nat.le_trans (by omega) line_big
  walk_at "dd"
  refine ⟨⟨by decide, by decide⟩, by decide, ite2 (fun _ => ?_) (fun _ => ?_)⟩
  · refine cd_map (fun i => .int (cs.getD i 0 / 100000)) (by rw [List.length_map]; omega) (fun i hi Q hQ => ?_) ?_
    · rw [li_get]
      walk_at "dd"
      exact ⟨⟨by decide, by decide⟩, hQ⟩
    walk_at "dd"
    have el : (List.range (li cs).length).map (fun i => PyData.int (cs.getD i 0 / 100000)) = li ((List.range cs.length).map fun i => cs.getD i 0 / 100000) := by
      rw [List.length_map]
      show _ = List.map _ (List.map _ _)
      rw [List.map_map]
      rfl
    rw [el]
    refine ⟨by omega, by omega, fd_intro (fun i env => ∃ (fs ls : List Int) (kv av : Sl), env = [.fr (.list (li ns)), .fr (.int t), .fr (.int m), .fr (.list (li cs)), .ow (li fs), .ow (li ls), kv, av, .un, .un] ∧ ls.length = cs.length ∧ Dr (i - t) fs) ⟨[], _, _, _, rfl, by simp, ⟨by simp, fun x hx => by cases hx⟩⟩ ?_ ?_⟩
    · rintro i env hi ⟨fs, ls, kv, av, rfl, hl, hf⟩
      rw [rangeD_len] at hi
      rw [rangeD_get]
      have hmod : i % ls.length < ls.length := Nat.mod_lt _ (by omega)
      have hk : i - t ≤ 5000 := by omega
      walk_at "dd"
      rw [List.length_map]
      have ei : ((i : Nat) : Int) % ((ls.length : Nat) : Int) = ((i % ls.length : Nat) : Int) := rfl
      refine ⟨by omega, fun env' => ∃ fs' : List Int, env' = [.fr (.list (li ns)), .fr (.int t), .fr (.int m), .fr (.list (li cs)), .ow (li fs'), .ow (li ls), .fr (.int i), .fr (.int ((i % ls.length : Nat) : Int)), .un, .un] ∧ Dr (i + 1 - t) fs', ?_, ?_⟩
      · rw [ei]
        walk_at "dd"
        refine ite2 (fun c => ?_) (fun c => ?_)
        · refine ⟨_, atI_li hmod, ?_⟩
          walk_at "dd"
          refine ⟨by decide, by rw [List.length_map, hf.1]; exact Nat.lt_of_lt_of_le (by omega) line_big, fs ++ [ls.getD (i % ls.length) 0 % 2147483587], by simp, ?_⟩
          have := hf.app (Int.emod_nonneg (ls.getD (i % ls.length) 0) (by decide : (2147483587 : Int) ≠ 0)) (Int.emod_lt_of_pos _ (by decide))
          rwa [show i + 1 - t = i - t + 1 by omega]
        · refine ⟨fs, rfl, ?_⟩
          rwa [show i + 1 - t = i - t by omega]
      · rintro env' ⟨fs', rfl, hf'⟩
        walk_at "dd"
        refine ⟨_, atI_li hmod, ?_⟩
        walk_at "dd"
        exact ⟨⟨by decide, Bg.of (by decide) (by decide)⟩, _, by rw [List.length_map]; exact ixN_nat hmod, fs', rfl, ls.set (i % ls.length) (ls.getD (i % ls.length) 0 / 2147483587), li_set _ _ _, by rw [List.length_set]; exact hl, hf'⟩
    · rintro env ⟨fs, ls, kv, av, rfl, hl, hf⟩
      rw [rangeD_len] at hf
      walk_at "dd"
      exact q fs (by rwa [show ((t : Int) + (m : Int)).toNat - t = m by omega] at hf)
  · refine ⟨by omega, by omega, fd_intro (fun i env => ∃ (fs : List Int) (kv pv nv : Sl), env = [.fr (.list (li ns)), .fr (.int t), .fr (.int m), .ow (li cs), .ow (li fs), .un, kv, .un, pv, nv] ∧ Dr i fs) ⟨[], _, _, _, rfl, rfl, fun x hx => by cases hx⟩ ?_ ?_⟩
    · rintro i env hi ⟨fs, kv, pv, nv, rfl, hf⟩
      rw [rangeD_len] at hi
      rw [rangeD_get]
      have hi : i < m := by omega
      have hmod : i % cs.length < cs.length := Nat.mod_lt _ (by omega)
      walk_at "dd"
      rw [List.length_map]
      have ei : ((i : Nat) : Int) % ((cs.length : Nat) : Int) = ((i % cs.length : Nat) : Int) := rfl
      rw [ei]
      refine ⟨cmul_l (by omega) (by omega), cmul_r (by decide) (by decide), by omega, _, atI_li hmod, ?_⟩
      walk_at "dd"
      generalize (cs.getD (i % cs.length) 0 % 2147483647 + (((i : Int) + t) * (i + t) * 7919 + 104729)) * 48271 = a
      have a0 := Int.emod_nonneg a (by decide : (2147483647 : Int) ≠ 0)
      have a1 := Int.emod_lt_of_pos a (by decide : (0 : Int) < 2147483647)
      generalize a % 2147483647 = a at *
      have b0 := Int.emod_nonneg (a * a + 69621 * i) (by decide : (2147483629 : Int) ≠ 0)
      have b1 := Int.emod_lt_of_pos (a * a + 69621 * i) (by decide : (0 : Int) < 2147483629)
      generalize (a * a + 69621 * i) % 2147483629 = b at *
      refine ⟨by decide, cmul_r (by decide) (by decide), by decide, cmul_l (by omega) (by omega), cmul_l (by decide) (by decide), by decide, cmul_l (by omega) (by omega), by decide, by rw [List.length_map, hf.1]; exact Nat.lt_of_lt_of_le (by omega) line_big, fs ++ [b * b % 2147483587], by simp, hf.app (Int.emod_nonneg _ (by decide)) (Int.emod_lt_of_pos _ (by decide))⟩
    · rintro env ⟨fs, kv, pv, nv, rfl, hf⟩
      rw [rangeD_len] at hf
      walk_at "dd"
      exact q fs (by simpa using hf)
/-! ### _law_pop -/
abbrev s__law_pop : Stmt := top 10
theorem sc__law_pop : FnScope ["_law_draws_here"] ["_law_draws_here"] (defScope s__law_pop) := ⟨rfl, rfl, rfl, by decide +kernel, rfl, by decide +kernel, by decide +kernel⟩
def popV (ds : List Int) : Int := ds.getLastD 0
def spPop : DSp := fun ss R => ∃ ds : List Int, ss = [.io (li ds)] ∧ R (.fr (.int (popV ds))) [.io (li ds.dropLast)]
theorem eqv_li (a b : List Int) : PyData.eqv (.list (li a)) (.list (li b)) = decide (a = b) := eqv_I a b
theorem last_li {ds : List Int} (h : ds ≠ []) : (li ds).getLast? = some (.int (popV ds)) := by
  unfold popV
  rw [List.getLast?_map, List.getLastD_eq_getLast?]
  cases e : ds.getLast? with
  | none => exact absurd (List.getLast?_eq_none_iff.mp e) h
  | some x => rfl
theorem drop_li (ds : List Int) : (li ds).dropLast = li ds.dropLast := by simp [List.map_dropLast]
theorem bi__law_pop {f : Addr} {fd : FuncData} (F : Fun K "_law_pop" "_law_pop" s__law_pop f fd) : Binds K fd ["_law_draws_here"] [] := F.binds (ps := ["_law_draws_here"]) fun _ _ _ _ _ _ us hl => match us, hl with | [_], _ => rfl
theorem ok__law_pop {f : Addr} {fd : FuncData} (F : Fun K "_law_pop" "_law_pop" s__law_pop f fd) (B : Bn mg) : FnOk P w K mg base CX0 1 f fd ["_law_draws_here"] (spD K spPop) := by
  refine okD (k := 0) F sc__law_pop (fun ss R h => ?_) (by decide) (fun cdv A outer s H E hr => ⟨_, (qs_cons (q_if (qt_cmp (kEqD (K := K) rfl hr.units) mEq (qv 0) (q_lst qa_nil) (nomark _)) (qs_one (q_ret q_int)) qs_nil)
      (qs_one (q_ret (q_pop 0 (K := K) rfl rfl)))), fun ss R h => ?_⟩)
  · obtain ⟨ds, rfl, _⟩ := h
    rfl
  obtain ⟨ds, rfl, q⟩ := h
  walk_at "dd"
  refine ⟨Nat.zero_le _, (Sh.ints 0 ds).shp (by decide), (Sh.ints 0 []).shp (by decide), ?_⟩
  rw [show PyData.list [] = PyData.list (li []) from rfl, eqv_li]
  by_cases e : ds = []
  · subst e
    rw [if_pos (by simp)]
    exact q
  · rw [if_neg (by simp [e])]
    exact ⟨_, last_li e, by rw [drop_li]; exact q⟩
/-! ### draws that are left -/
def Bd (l : List Int) : Prop := ∀ x ∈ l, 0 ≤ x ∧ x < 2147483587
theorem Bd.drop {l : List Int} (h : Bd l) : Bd l.dropLast := fun x hx => h x (mem_dropLast hx)
theorem Bd.pop {l : List Int} (h : Bd l) : 0 ≤ popV l ∧ popV l < 2147483587 := by
  unfold popV
  rw [List.getLastD_eq_getLast?]
  cases e : l.getLast? with
  | none => exact ⟨Int.le_refl 0, by decide⟩
  | some x => exact h x (List.mem_of_getLast? e)
/-! ### _law_spans -/
abbrev s__law_spans : Stmt := top 13
theorem sc__law_spans : FnScope ["_law_script", "_law_draws_here", "_law_number", "_law_many", "_law_cells", "_law_spans_here", "_law_k", "_law_one", "_law_span"] ["_law_script", "_law_draws_here"] (defScope s__law_spans) := ⟨rfl, rfl, rfl, by decide +kernel, rfl, by decide +kernel, by decide +kernel⟩
def Sps (l : List Int) : Prop := ∀ x ∈ l, 1 ≤ x ∧ x ≤ 10000000000000000000000000000000000000000
def spSpans : DSp := fun ss R => ∃ ns l : List Int, ss = [.fr (.list (li ns)), .io (li l)] ∧ ns.length ≤ 63 ∧ Bd l ∧ ∀ sps l' : List Int, 1 ≤ sps.length → sps.length ≤ 40 → Sps sps → Bd l' → R (.ow (li sps)) [.un, .io (li l')]
theorem getD_mem' {l : List Int} {k : Nat} (h : k < l.length) : l.getD k 0 ∈ l := by
  rw [List.getD_eq_getElem?_getD, List.getElem?_eq_getElem h]
  exact List.getElem_mem h
theorem bi__law_spans {f : Addr} {fd : FuncData} (F : Fun K "_law_spans" "_law_spans" s__law_spans f fd) : Binds K fd ["_law_script", "_law_draws_here"] [] := F.binds (ps := ["_law_script", "_law_draws_here"]) fun _ _ _ _ _ _ us hl => match us, hl with | [_, _], _ => rfl
theorem ok__law_spans {f : Addr} {fd : FuncData} (F : Fun K "_law_spans" "_law_spans" s__law_spans f fd) (B : Bn mg) (G__law_pop : Cal P w K mg base "_law_pop" 1 (spD K spPop)) : FnOk P w K mg base CX0 2 f fd ["_law_script", "_law_draws_here"] (spD K spSpans) := by
  refine okD (k := 1) F sc__law_spans (fun ss R h => ?_) (by decide) (fun cdv A outer s H E hr => ⟨_, (qs_bar (q_set (i := 2) sc__law_spans.nd rfl (Or.inl rfl) (q_callS 0 G__law_pop (hr.mono (by decide)) rfl (qa_cons (qv 1) qa_nil)))
      (qs_cons (q_set (i := 3) sc__law_spans.nd rfl (Or.inl rfl) (q_op op_add mI q_int (q_op op_mod mIC (qv 2) q_int)))
      (qs_cut (q_if (qt_cmp op_eq mEqI (q_op op_mod mIC (q_op op_fdiv mIC (qv 2) q_int) q_int) q_int (nomark _)) (qs_one (q_set (i := 3) sc__law_spans.nd rfl (Or.inl rfl) (q_op op_add mI q_int (q_op op_mod mIC (q_op op_fdiv mIC (qv 2) q_int) q_int)))) qs_nil)
      (qs_cons (q_set (i := 4) sc__law_spans.nd rfl (Or.inl rfl) (q_opL (op_catS (K := K) rfl) mCat (q_slL (K := K) rfl (qv 0) qo_none (qo_some q_int)) (q_lst (qa_cons (qf 2) qa_nil))))
      (qs_cons (q_set (i := 5) sc__law_spans.nd rfl (Or.inl rfl) (q_lst qa_nil))
      (qs_bar (q_for PassesOwn.never rfl (qi_rng1 rfl B.range (qa_cons (qv 3) qa_nil)) (qg_name (i := 6) sc__law_spans.nd rfl (Or.inl rfl)) (qs_bar (q_set (i := 7) sc__law_spans.nd rfl (Or.inl rfl) (q_callS 0 G__law_pop (hr.mono (by decide)) rfl (qa_cons (qv 1) qa_nil)))
      (qs_cons (q_set (i := 8) sc__law_spans.nd rfl (Or.inl rfl) (q_op op_add mI q_int (q_op op_mod mIC (q_op op_fdiv mIC (qv 7) q_int) q_int)))
      (qs_cut (q_if (qt_cmp op_eq mEqI (q_op op_mod mIC (qv 7) q_int) q_int (nomark _)) (qs_one (q_set (i := 8) sc__law_spans.nd rfl (Or.inl rfl) (q_op op_add mI q_int (q_op op_mod mIC (q_op op_add mI (q_op op_mod mIC (q_ix (ix_any (K := K) rfl) mIx (qv 4) (q_op op_mod mIC (q_op op_add mI (qv 6) q_int) (q_cb (kLen (K := K) rfl) mLen rfl B.len PySem.boot_len (qa_cons (qv 4) qa_nil))) (fun _ _ => rfl)) (q_op op_pow mIC q_int q_int)) (q_op op_mul mIC (qv 7) (qv 7))) (q_op op_sub mI (q_op op_pow mIC q_int q_int) q_int))))) qs_nil)
      (qs_cut (q_if (PW.pt (qw_and (qt_cmp op_eq mEqI (q_op op_mod mIC (qv 7) q_int) q_int (nomark _)) (qw_and1 (qt_cmp (kNeD (K := K) rfl hr.units) mNe (qv 5) (q_lst qa_nil) (nomark _))))) (qs_one (q_set (i := 8) sc__law_spans.nd rfl (Or.inl rfl) (q_ix (ix_any (K := K) rfl) mIx (qv 5) (q_op op_mod mIC (q_op op_fdiv mIC (qv 7) q_int) (q_cb (kLen (K := K) rfl) mLen rfl B.len PySem.boot_len (qa_cons (qv 5) qa_nil))) (fun _ _ => rfl)))) qs_nil)
      (qs_one (q_expr (q_app 5 (K := K) rfl rfl (qf 8)))))))))
      (qs_one (q_ret (qv 5))))))))), fun ss R h => ?_⟩)
  · obtain ⟨ns, l, rfl, _⟩ := h
    rfl
  obtain ⟨ns, l, rfl, h63, bl, q⟩ := h
  walk_at "dd"
  refine ⟨l, rfl, ?_⟩
  walk_at "dd"
  refine nx ?_
  have n0 := bl.pop
  have bl1 := bl.drop
  generalize popV l = num at *
  generalize l.dropLast = l1 at *
  walk_at "dd"
  refine ⟨by decide, fun env => ∃ many : Int, env = [.fr (.list (li ns)), .io (li l1), .fr (.int num), .fr (.int many), .un, .un, .un, .un, .un] ∧ 1 ≤ many ∧ many ≤ 40, ?_, ?_⟩
  · walk_at "dd"
    refine ⟨⟨by decide, by decide⟩, by decide, ite2 (fun _ => ?_) (fun _ => by omega)⟩
    exact ⟨⟨by decide, by decide⟩, by decide, by omega, by omega⟩
  rintro env ⟨many, rfl, hm1, hm2⟩
  walk_at "dd"
  rw [cut63 ns h63]
  have ec : li ns ++ [PyData.int num] = li (ns ++ [num]) := by simp
  rw [ec]
  obtain ⟨cs, hcs⟩ : ∃ cs : List Int, cs = ns ++ [num] := ⟨_, rfl⟩
  have hlen : cs.length = ns.length + 1 := by rw [hcs]; simp
  rw [← hcs]
  refine ⟨by decide, ?_, Nat.zero_le _, by omega, by omega, ?_⟩
  · refine Nat.le_trans ?_ line_big
    simp
    omega
  refine fd_intro (fun i env => ∃ (l sps : List Int) (a b c : Sl), env = [.fr (.list (li ns)), .io (li l), .fr (.int num), .fr (.int many), .ow (li cs), .ow (li sps), a, b, c] ∧ Bd l ∧ sps.length = i ∧ Sps sps) ⟨l1, [], _, _, _, rfl, bl1, rfl, fun x hx => by cases hx⟩ ?_ ?_
  · rintro i env hi ⟨l, sps, a, b, c, rfl, bl, hl, hs⟩
    rw [rangeD_len] at hi
    rw [rangeD_get]
    walk_at "dd"
    refine ⟨l, rfl, ?_⟩
    walk_at "dd"
    refine nx ?_
    have o0 := bl.pop
    have bl2 := bl.drop
    generalize popV l = one at *
    generalize l.dropLast = l2 at *
    walk_at "dd"
    refine ⟨⟨by decide, by decide⟩, by decide, fun env => ∃ sp : Int, env = [.fr (.list (li ns)), .io (li l2), .fr (.int num), .fr (.int many), .ow (li cs), .ow (li sps), .fr (.int i), .fr (.int one), .fr (.int sp)] ∧ 1 ≤ sp ∧ sp ≤ 10000000000000000000000000000000000000000, ?_, ?_⟩
    · walk_at "dd"
      refine ⟨by decide, ite2 (fun _ => ?_) (fun _ => by omega)⟩
      rw [List.length_map, p40]
      obtain ⟨k, ek, hk⟩ := place (x := (i : Int) + 31) (n := cs.length) (by omega)
      rw [ek]
      refine ⟨by omega, _, atI_li hk, ?_⟩
      walk_at "dd"
      have e1 := Int.emod_nonneg (cs.getD k 0 % 10000000000000000000000000000000000000000 + one * one) (show (10000000000000000000000000000000000000000 - 1 : Int) ≠ 0 by decide)
      have e2 := Int.emod_lt_of_pos (cs.getD k 0 % 10000000000000000000000000000000000000000 + one * one) (show (0 : Int) < 10000000000000000000000000000000000000000 - 1 by decide)
      exact ⟨cpow10 (by decide) (by decide), by decide, cmul_l (by omega) (by omega), cpow10 (by decide) (by decide), by decide, by omega, by omega⟩
    rintro env ⟨sp, rfl, s1, s2⟩
    refine ⟨fun env => ∃ sp : Int, env = [.fr (.list (li ns)), .io (li l2), .fr (.int num), .fr (.int many), .ow (li cs), .ow (li sps), .fr (.int i), .fr (.int one), .fr (.int sp)] ∧ 1 ≤ sp ∧ sp ≤ 10000000000000000000000000000000000000000, ?_, ?_⟩
    · walk_at "dd"
      refine ⟨by decide, ite2 (fun _ => ?_) (fun _ => ⟨s1, s2⟩)⟩
      rw [show PyData.list [] = PyData.list (li []) from rfl, eqv_li]
      refine ⟨Nat.zero_le _, (Sh.ints 0 sps).shp (by decide), (Sh.ints 0 []).shp (by decide), ?_⟩
      by_cases e : sps = []
      · rw [if_neg (by simp [e])]
        exact ⟨s1, s2⟩
      · rw [if_pos (by simp [e])]
        have hp : 0 < sps.length := List.length_pos_iff.mpr e
        rw [List.length_map]
        obtain ⟨k, ek, hk⟩ := place (x := one / 9) hp
        rw [ek]
        exact ⟨⟨by decide, by decide⟩, by omega, _, atI_li hk, _, rfl, hs _ (getD_mem' hk)⟩
    rintro env ⟨sp, rfl, s1, s2⟩
    walk_at "dd"
    refine ⟨by rw [List.length_map, hl]; exact Nat.lt_of_lt_of_le (by omega) line_big, l2, rfl, sps ++ [sp], by simp, bl2, by simp [hl], fun x hx => ?_⟩
    rcases List.mem_append.mp hx with hx | hx
    · exact hs x hx
    · rw [List.mem_singleton.mp hx]; exact ⟨s1, s2⟩
  · rintro env ⟨l, sps, a, b, c, rfl, bl, hl, hs⟩
    rw [rangeD_len] at hl
    refine nx ?_
    walk_at "dd"
    exact q sps l (by omega) (by omega) hs bl
/-! ### _law_divisor -/
abbrev s__law_divisor : Stmt := top 11
theorem sc__law_divisor : FnScope ["_law_one", "_law_other"] ["_law_one", "_law_other"] (defScope s__law_divisor) := ⟨rfl, rfl, rfl, by decide +kernel, rfl, by decide +kernel, by decide +kernel⟩
theorem gcd_facts {s s' : Int} (hs : 0 < s) : 0 < (Int.gcd s s' : Int) ∧ (∃ a, s = (Int.gcd s s' : Int) * a) ∧ ∃ b, s' = (Int.gcd s s' : Int) * b := by
  refine ⟨?_, ?_, ?_⟩
  · have : Int.gcd s s' ≠ 0 := fun z => by
      have := (Int.gcd_eq_zero_iff.mp z).1
      omega
    omega
  · exact Int.gcd_dvd_left s s'
  · exact Int.gcd_dvd_right s s'
theorem gcd_step {x y : Int} (hx : 0 ≤ x) (hy : 0 ≤ y) : Int.gcd y (x % y) = Int.gcd x y := by
  obtain ⟨a, rfl⟩ := Int.eq_ofNat_of_zero_le hx
  obtain ⟨b, rfl⟩ := Int.eq_ofNat_of_zero_le hy
  show Nat.gcd b (a % b) = Nat.gcd a b
  rw [Nat.gcd_comm b, ← Nat.gcd_rec, Nat.gcd_comm]
def spGcd : DSp := fun ss R => ∃ a b : Int, ss = [.fr (.int a), .fr (.int b)] ∧ 0 ≤ a ∧ 0 ≤ b ∧ R (.fr (.int (Int.gcd a b))) [.un, .un]
theorem bi__law_divisor {f : Addr} {fd : FuncData} (F : Fun K "_law_divisor" "_law_divisor" s__law_divisor f fd) : Binds K fd ["_law_one", "_law_other"] [] := F.binds (ps := ["_law_one", "_law_other"]) fun _ _ _ _ _ _ us hl => match us, hl with | [_, _], _ => rfl
theorem ok__law_divisor {f : Addr} {fd : FuncData} (F : Fun K "_law_divisor" "_law_divisor" s__law_divisor f fd) (B : Bn mg) : FnOk P w K mg base CX0 1 f fd ["_law_one", "_law_other"] (spD K spGcd) := by
  refine okD (k := 0) F sc__law_divisor (fun ss R h => ?_) (by decide) (fun cdv A outer s H E hr => ⟨_, (qs_cons (q_while PassesOwn.never (qt_cmp op_ne mNeI (qv 1) q_int (nomark _)) (qs_one (q_par (i := 0) (j := 1) rfl sc__law_divisor.nd rfl rfl (by decide) rfl rfl (qa_cons (qf 1) (qa_cons (q_op op_mod mIC (qv 0) (qv 1)) qa_nil)))))
      (qs_one (q_ret (qv 0)))), fun ss R h => ?_⟩)
  · obtain ⟨a, b, rfl, _⟩ := h
    rfl
  obtain ⟨a, b, rfl, ha, hb, q⟩ := h
  walk_at "dd"
  refine ⟨fun m env => ∃ x y : Int, env = [.fr (.int x), .fr (.int y)] ∧ 0 ≤ x ∧ 0 ≤ y ∧ m = y.toNat ∧ Int.gcd x y = Int.gcd a b, ⟨_, a, b, rfl, ha, hb, rfl, rfl⟩, ?_⟩
  rintro m env ⟨x, y, rfl, hx, hy, rfl, hg⟩
  walk_at "dd"
  refine ite2 (fun c => ?_) (fun c => ?_)
  · have h1 := Int.emod_nonneg x (show y ≠ 0 from c)
    have h2 := Int.emod_lt_of_pos x (show 0 < y by omega)
    exact ⟨by omega, _, by omega, hy, h1, rfl, (gcd_step hx hy).trans hg⟩
  · have c : y = 0 := by simpa using c
    subst c
    rw [← hg, Int.gcd_zero_right, Int.natAbs_of_nonneg hx] at q
    exact q
/-! ### greatest_divisor, least_multiple, fraction, wanted_in -/
abbrev s_greatest_divisor : Stmt := top 1
theorem sc_greatest_divisor : FnScope ["one", "other", "rest"] ["one", "other"] (defScope s_greatest_divisor) := ⟨rfl, rfl, rfl, by decide +kernel, rfl, by decide +kernel, by decide +kernel⟩
theorem bi_greatest_divisor {f : Addr} {fd : FuncData} (F : Fun K "greatest_divisor" "greatest_divisor" s_greatest_divisor f fd) : Binds K fd ["one", "other"] [] := F.binds (ps := ["one", "other"]) fun _ _ _ _ _ _ us hl => match us, hl with | [_, _], _ => rfl
theorem ok_greatest_divisor {f : Addr} {fd : FuncData} (F : Fun K "greatest_divisor" "greatest_divisor" s_greatest_divisor f fd) (B : Bn mg) : FnOk P w K mg base CX0 1 f fd ["one", "other"] (spD K spGcd) := by
  refine okD (k := 0) F sc_greatest_divisor (fun ss R h => ?_) (by decide) (fun cdv A outer s H E hr => ⟨_, (qs_cons (q_while PassesOwn.never (qt_cmp op_ne mNeI (qv 1) q_int (nomark _)) (qs_cons (q_set (i := 2) sc_greatest_divisor.nd rfl (Or.inl rfl) (q_op op_mod mIC (qv 0) (qv 1)))
      (qs_cons (q_set (i := 0) sc_greatest_divisor.nd rfl (Or.inl rfl) (qf 1))
      (qs_one (q_set (i := 1) sc_greatest_divisor.nd rfl (Or.inl rfl) (qf 2))))))
      (qs_one (q_ret (qv 0)))), fun ss R h => ?_⟩)
  · obtain ⟨a, b, rfl, _⟩ := h
    rfl
  obtain ⟨a, b, rfl, ha, hb, q⟩ := h
  walk_at "dd"
  refine ⟨fun m env => ∃ (x y : Int) (r : Sl), env = [.fr (.int x), .fr (.int y), r] ∧ 0 ≤ x ∧ 0 ≤ y ∧ m = y.toNat ∧ Int.gcd x y = Int.gcd a b, ⟨_, a, b, _, rfl, ha, hb, rfl, rfl⟩, ?_⟩
  rintro m env ⟨x, y, r, rfl, hx, hy, rfl, hg⟩
  walk_at "dd"
  refine ite2 (fun c => ?_) (fun c => ?_)
  · have h1 := Int.emod_nonneg x (show y ≠ 0 from c)
    have h2 := Int.emod_lt_of_pos x (show 0 < y by omega)
    exact ⟨by omega, _, by omega, hy, h1, rfl, (gcd_step hx hy).trans hg⟩
  · have c : y = 0 := by simpa using c
    subst c
    rw [← hg, Int.gcd_zero_right, Int.natAbs_of_nonneg hx] at q
    exact q
/-- so great: at most that many factors of 40 figures -/
def Bk (k : Nat) (i : Int) : Prop := 0 ≤ i ∧ i ≤ 10000000000000000000000000000000000000000 ^ k
theorem Bk.bg {k : Nat} {i : Int} (h : Bk k i) (hk : k ≤ 45) : Bg i := by
  have h1 : i.natAbs ≤ 10000000000000000000000000000000000000000 ^ k := by
    have h2 := h.2
    have h3 : ((10000000000000000000000000000000000000000 ^ k : Nat) : Int) = (10000000000000000000000000000000000000000 : Int) ^ k := by simp
    have := h.1
    omega
  have h4 : (10000000000000000000000000000000000000000 : Nat) ^ k ≤ (2 ^ 140) ^ 45 := Nat.le_trans (Nat.pow_le_pow_left (by decide) k) (Nat.pow_le_pow_right (by decide) hk)
  rw [← Nat.pow_mul] at h4
  exact Nat.lt_of_le_of_lt (Nat.le_trans h1 h4) (Nat.pow_lt_pow_right (by decide) (by decide))
theorem Bk.mul {k : Nat} {i j : Int} (h : Bk k i) (h0 : 0 ≤ j) (h1 : j ≤ 10000000000000000000000000000000000000000) : Bk (k + 1) (i * j) := by
  refine ⟨Int.mul_nonneg h.1 h0, ?_⟩
  rw [Int.pow_succ]
  exact Int.mul_le_mul h.2 h1 h0 (Int.le_trans h.1 h.2)
theorem Bk.le {k : Nat} {i j : Int} (h : Bk k i) (h0 : 0 ≤ j) (h1 : j ≤ i) : Bk k j := ⟨h0, Int.le_trans h1 h.2⟩
theorem lcm_eq {s s' : Int} (h : 0 < s) (h' : 0 < s') : ((Nat.lcm s.natAbs s'.natAbs : Nat) : Int) = s / (Int.gcd s s' : Int) * s' := by
  obtain ⟨i, rfl⟩ := Int.eq_ofNat_of_zero_le (Int.le_of_lt h)
  obtain ⟨j, rfl⟩ := Int.eq_ofNat_of_zero_le (Int.le_of_lt h')
  show ((i * j / Nat.gcd i j : Nat) : Int) = ((i / Nat.gcd i j * j : Nat) : Int)
  rw [Nat.div_mul_right_comm (Nat.gcd_dvd_left i j)]
abbrev s_least_multiple : Stmt := top 2
theorem sc_least_multiple : FnScope ["numbers", "found", "number"] ["numbers"] (defScope s_least_multiple) := ⟨rfl, rfl, rfl, by decide +kernel, rfl, by decide +kernel, by decide +kernel⟩
/-- a common multiple that divides every other -/
structure Lm (ns : List Int) (m : Int) : Prop where
  pos : 1 ≤ m
  bk : Bk ns.length m
  dvd : ∀ x ∈ ns, x ∣ m
  least : ∀ k : Int, (∀ x ∈ ns, x ∣ k) → m ∣ k
def spLm : DSp := fun ss R => ∃ ns : List Int, ss = [.fr (.list (li ns))] ∧ ns.length ≤ 41 ∧ (∀ x ∈ ns, 1 ≤ x ∧ x ≤ 10000000000000000000000000000000000000000) ∧ ∀ m : Int, Lm ns m → R (.fr (.int m)) [.un]
theorem Lm.nil : Lm [] 1 := ⟨Int.le_refl 1, ⟨by decide, by simp⟩, fun x hx => (by cases hx), fun k _ => Int.one_dvd k⟩
theorem Lm.snoc {ns : List Int} {m n : Int} (h : Lm ns m) (h1 : 1 ≤ n) (h2 : n ≤ 10000000000000000000000000000000000000000) : Lm (ns ++ [n]) (m / (Int.gcd m n : Int) * n) := by
  have hp := h.pos
  have e := lcm_eq (show 0 < m by omega) (show 0 < n by omega)
  have g := (gcd_facts (s := m) (s' := n) (by omega)).1
  have d1 : m ∣ m / (Int.gcd m n : Int) * n := by
    rw [← e]
    exact Int.natAbs_dvd_natAbs.mp (Nat.dvd_lcm_left _ _)
  have d2 : n ∣ m / (Int.gcd m n : Int) * n := by
    rw [← e]
    exact Int.natAbs_dvd_natAbs.mp (Nat.dvd_lcm_right _ _)
  have q0 : 1 ≤ m / (Int.gcd m n : Int) := by
    refine (Int.le_ediv_iff_mul_le g).mpr ?_
    rw [Int.one_mul]
    exact Int.le_of_dvd (by omega) (Int.gcd_dvd_left m n)
  have p0 := Int.mul_le_mul q0 h1 (by omega) (by omega)
  refine ⟨by omega, ?_, fun x hx => ?_, fun k hk => ?_⟩
  · rw [List.length_append]
    exact (h.bk.le (by omega) (Int.ediv_le_self _ (by omega))).mul (by omega) h2
  · rcases List.mem_append.mp hx with hx | hx
    · exact Int.dvd_trans (h.dvd x hx) d1
    · rw [List.mem_singleton.mp hx]; exact d2
  · rw [← e]
    have k1 := h.least k fun x hx => hk x (List.mem_append_left _ hx)
    have k2 := hk n (List.mem_append_right _ (by simp))
    exact Int.natAbs_dvd_natAbs.mp (Nat.lcm_dvd (Int.natAbs_dvd_natAbs.mpr k1) (Int.natAbs_dvd_natAbs.mpr k2))
theorem bi_least_multiple {f : Addr} {fd : FuncData} (F : Fun K "least_multiple" "least_multiple" s_least_multiple f fd) : Binds K fd ["numbers"] [] := F.binds (ps := ["numbers"]) fun _ _ _ _ _ _ us hl => match us, hl with | [_], _ => rfl
theorem ok_least_multiple {f : Addr} {fd : FuncData} (F : Fun K "least_multiple" "least_multiple" s_least_multiple f fd) (B : Bn mg) (G_greatest_divisor : Cal P w K mg base "greatest_divisor" 1 (spD K spGcd)) : FnOk P w K mg base CX0 2 f fd ["numbers"] (spD K spLm) := by
  refine okD (k := 1) F sc_least_multiple (fun ss R h => ?_) (by decide) (fun cdv A outer s H E hr => ⟨_, (qs_cons (q_set (i := 1) sc_least_multiple.nd rfl (Or.inl rfl) q_int)
      (qs_cons (q_for PassesOwn.never rfl (qi_list (K := K) rfl (qf 0)) (qg_name (i := 2) sc_least_multiple.nd rfl (Or.inl rfl)) (qs_one (q_set (i := 1) sc_least_multiple.nd rfl (Or.inl rfl) (q_op op_mulB mIC (q_op op_fdivB mIC (qv 1) (q_call G_greatest_divisor (hr.mono (by decide)) rfl (qa_cons (qf 1) (qa_cons (qf 2) qa_nil)))) (qv 2)))))
      (qs_one (q_ret (qv 1))))), fun ss R h => ?_⟩)
  · obtain ⟨ns, rfl, _⟩ := h
    rfl
  obtain ⟨ns, rfl, hl, hb, q⟩ := h
  walk_at "dd"
  refine fd_intro (fun i env => ∃ (m : Int) (v : Sl), env = [.fr (.list (li ns)), .fr (.int m), v] ∧ Lm (ns.take i) m) ⟨1, _, rfl, Lm.nil⟩ ?_ ?_
  · rintro i env hi ⟨m, v, rfl, hm⟩
    have hi' : i < ns.length := by simpa using hi
    rw [li_get]
    have bn := hb _ (by rw [List.getD_eq_getElem?_getD, List.getElem?_eq_getElem hi']; exact List.getElem_mem hi' : ns.getD i 0 ∈ ns)
    have et : ns.take (i + 1) = ns.take i ++ [ns.getD i 0] := by
      rw [List.take_add_one, List.getElem?_eq_getElem hi', List.getD_eq_getElem?_getD, List.getElem?_eq_getElem hi']
      rfl
    walk_at "dd"
    have hp := hm.pos
    refine ⟨_, _, rfl, by omega, by omega, ?_⟩
    walk_at "dd"
    have g := (gcd_facts (s := m) (s' := ns.getD i 0) (by omega)).1
    have gl : (Int.gcd m (ns.getD i 0) : Int) ≤ m := Int.le_of_dvd (by omega) (Int.gcd_dvd_left _ _)
    have hk : (ns.take i).length ≤ 45 := by rw [List.length_take]; omega
    have bm := hm.bk.bg hk
    refine ⟨⟨g, (hm.bk.le (by omega) gl).bg hk⟩, ⟨(hm.bk.le (Int.ediv_nonneg (by omega) (by omega)) (Int.ediv_le_self _ (by omega))).bg hk, Bg.of (by omega) (by omega)⟩, ?_⟩
    rw [et]
    exact hm.snoc bn.1 bn.2
  · rintro env ⟨m, v, rfl, hm⟩
    rw [List.length_map, List.take_length] at hm
    walk_at "dd"
    exact q m hm
abbrev s_wanted_in : Stmt := top 5
theorem sc_wanted_in : FnScope ["spans", "days"] ["spans", "days"] (defScope s_wanted_in) := ⟨rfl, rfl, rfl, by decide +kernel, rfl, by decide +kernel, by decide +kernel⟩
def spWant : DSp := fun ss R => ∃ (ns : List Int) (d : Int), ss = [.fr (.list (li ns)), .fr (.int d)] ∧ ns.length ≤ 1000 ∧ (∀ x ∈ ns, 1 ≤ x ∧ x ≤ 10000000000000000000000000000000000000000) ∧ R (.fr (.int ((ns.map (d / ·)).sum))) [.un, .un]
theorem map_range_getD (ns : List Int) (f : Int → Int) : (List.range ns.length).map (fun i => f (ns.getD i 0)) = ns.map f := by
  apply List.ext_getElem?
  intro i
  rw [List.getElem?_map, List.getElem?_map]
  by_cases h : i < ns.length
  · rw [List.getElem?_range h, List.getElem?_eq_getElem h]
    simp [List.getD_eq_getElem?_getD, List.getElem?_eq_getElem h]
  · rw [List.getElem?_eq_none (by simp; omega), List.getElem?_eq_none (by omega)]
    rfl
theorem bi_wanted_in {f : Addr} {fd : FuncData} (F : Fun K "wanted_in" "wanted_in" s_wanted_in f fd) : Binds K fd ["spans", "days"] [] := F.binds (ps := ["spans", "days"]) fun _ _ _ _ _ _ us hl => match us, hl with | [_, _], _ => rfl
theorem ok_wanted_in {f : Addr} {fd : FuncData} (F : Fun K "wanted_in" "wanted_in" s_wanted_in f fd) (B : Bn mg) : FnOk P w K mg base CX0 1 f fd ["spans", "days"] (spD K spWant) := by
  refine okD (k := 0) F sc_wanted_in (fun ss R h => ?_) (by decide) (fun cdv A outer s H E hr => ⟨_, (qs_one (q_ret (q_cb (call_sumI (K := K) rfl rfl) mSum rfl B.sum PyProof.Rows.boot_sum (qa_cons (q_comp (N' := ["span", "days"]) (ix := [none, some 1]) rfl (bs_of (N := ["spans", "days"]) (sc0 := defScope s_wanted_in) rfl rfl (by decide +kernel)) (qi_list (K := K) rfl (qf 0)) (fun _ _ _ _ => (qg_name (i := 0) (show List.Nodup (["span", "days"] : List Str) by decide +kernel) rfl (Or.inl rfl))) (fun _ _ _ _ => qif_nil) (fun _ _ _ _ => (q_op op_fdivB mIC (qv 1) (qv 0)))) qa_nil)))), fun ss R h => ?_⟩)
  · obtain ⟨ns, d, rfl, _⟩ := h
    rfl
  obtain ⟨ns, d, rfl, hl, hb, q⟩ := h
  walk_at "dd"
  refine cd_map (fun i => .int (d / ns.getD i 0)) (by rw [List.length_map]; omega) (fun i hi Q hQ => ?_) ?_
  · have hi' : i < ns.length := by simpa using hi
    rw [li_get]
    have bn := hb _ (by rw [List.getD_eq_getElem?_getD, List.getElem?_eq_getElem hi']; exact List.getElem_mem hi' : ns.getD i 0 ∈ ns)
    walk_at "dd"
    exact ⟨⟨by omega, Bg.of (by omega) (by omega)⟩, hQ⟩
  rw [List.length_map, li_range]
  walk_at "dd"
  rw [map_range_getD ns (d / ·)]
  exact q
abbrev s_fraction : Stmt := top 3
theorem sc_fraction : FnScope ["above", "below", "divisor"] ["above", "below"] (defScope s_fraction) := ⟨rfl, rfl, rfl, by decide +kernel, rfl, by decide +kernel, by decide +kernel⟩
def spFrac : DSp := fun ss R => ∃ a b : Int, ss = [.fr (.int a), .fr (.int b)] ∧ 0 ≤ a ∧ 1 ≤ b ∧ Bg b ∧ ∀ g p r : Int, 1 ≤ g → g * p = a → g * r = b → 0 ≤ p → 1 ≤ r → Int.gcd p r = 1 → R (.fr (.tuple [.int p, .int r])) [.un, .un]
theorem bi_fraction {f : Addr} {fd : FuncData} (F : Fun K "lowest_terms" "lowest_terms" s_fraction f fd) : Binds K fd ["above", "below"] [] := F.binds (ps := ["above", "below"]) fun _ _ _ _ _ _ us hl => match us, hl with | [_, _], _ => rfl
theorem ok_fraction {f : Addr} {fd : FuncData} (F : Fun K "lowest_terms" "lowest_terms" s_fraction f fd) (B : Bn mg) (G_greatest_divisor : Cal P w K mg base "greatest_divisor" 1 (spD K spGcd)) : FnOk P w K mg base CX0 2 f fd ["above", "below"] (spD K spFrac) := by
  refine okD (k := 1) F sc_fraction (fun ss R h => ?_) (by decide) (fun cdv A outer s H E hr => ⟨_, (qs_bar (q_set (i := 2) sc_fraction.nd rfl (Or.inl rfl) (q_call G_greatest_divisor (hr.mono (by decide)) rfl (qa_cons (qf 0) (qa_cons (qf 1) qa_nil))))
      (qs_one (q_ret (q_tup (qa_cons (q_op op_fdivB mIC (qv 0) (qv 2)) (qa_cons (q_op op_fdivB mIC (qv 1) (qv 2)) qa_nil)))))), fun ss R h => ?_⟩)
  · obtain ⟨a, b, rfl, _⟩ := h
    rfl
  obtain ⟨a, b, rfl, ha, hb, bb, q⟩ := h
  walk_at "dd"
  refine ⟨a, b, rfl, ha, by omega, ?_⟩
  walk_at "dd"
  refine nx ?_
  walk_at "dd"
  have gc : Int.gcd b a = Int.gcd a b := Int.gcd_comm _ _
  have g0 := (gcd_facts (s := b) (s' := a) (by omega)).1
  rw [gc] at g0
  have gl : (Int.gcd a b : Int) ≤ b := Int.le_of_dvd (by omega) (Int.gcd_dvd_right a b)
  have bg : Bg (Int.gcd a b : Int) := by
    have : b.natAbs < 2 ^ 8000 := bb
    show (Int.gcd a b : Int).natAbs < 2 ^ 8000
    omega
  have e1 : (Int.gcd a b : Int) * (a / (Int.gcd a b : Int)) = a := Int.mul_ediv_cancel' (Int.gcd_dvd_left a b)
  have e2 : (Int.gcd a b : Int) * (b / (Int.gcd a b : Int)) = b := Int.mul_ediv_cancel' (Int.gcd_dvd_right a b)
  refine ⟨⟨g0, bg⟩, ⟨g0, bg⟩, by decide, q (Int.gcd a b) _ _ (by omega) e1 e2 (Int.ediv_nonneg ha (by omega)) ?_ ?_⟩
  · exact (Int.le_ediv_iff_mul_le g0).mpr (by omega)
  · exact Int.gcd_ediv_gcd_ediv_gcd (by omega)
/-! ### share, supply -/
abbrev s_share : Stmt := top 6
theorem sc_share : FnScope ["spans", "days"] ["spans"] (defScope s_share) := ⟨rfl, rfl, rfl, by decide +kernel, rfl, by decide +kernel, by decide +kernel⟩
/-- a fraction in lowest terms that stands for a by b -/
structure Fr (a b p r : Int) : Prop where
  p0 : 0 ≤ p
  r1 : 1 ≤ r
  gcd : Int.gcd p r = 1
  eq : p * b = r * a
  pa : p ≤ a
  rb : r ≤ b
theorem Fr.mk' {a b g p r : Int} (g1 : 1 ≤ g) (e1 : g * p = a) (e2 : g * r = b) (p0 : 0 ≤ p) (r1 : 1 ≤ r) (hg : Int.gcd p r = 1) : Fr a b p r := by
  have m1 := Int.mul_le_mul_of_nonneg_right g1 p0
  have m2 := Int.mul_le_mul_of_nonneg_right g1 (show 0 ≤ r by omega)
  refine ⟨p0, r1, hg, ?_, by omega, by omega⟩
  rw [← e1, ← e2]
  grind
def spShare : DSp := fun ss R => ∃ ns : List Int, ss = [.fr (.list (li ns))] ∧ ns.length ≤ 40 ∧ Sps ns ∧ ∀ d p r : Int, Lm ns d → Fr ((ns.map (d / ·)).sum) d p r → R (.fr (.tuple [.int p, .int r])) [.un]
theorem sum_nn {l : List Int} (h : ∀ x ∈ l, 0 ≤ x) : 0 ≤ l.sum := by
  induction l with
  | nil => simp
  | cons x l ih =>
    rw [List.sum_cons]
    have h1 := h x List.mem_cons_self
    have h2 := ih fun y hy => h y (List.mem_cons_of_mem _ hy)
    omega
theorem bi_share {f : Addr} {fd : FuncData} (F : Fun K "share" "share" s_share f fd) : Binds K fd ["spans"] [] := F.binds (ps := ["spans"]) fun _ _ _ _ _ _ us hl => match us, hl with | [_], _ => rfl
theorem ok_share {f : Addr} {fd : FuncData} (F : Fun K "share" "share" s_share f fd) (B : Bn mg) (G_least_multiple : Cal P w K mg base "least_multiple" 2 (spD K spLm)) (G_wanted_in : Cal P w K mg base "wanted_in" 1 (spD K spWant)) (G_fraction : Cal P w K mg base "lowest_terms" 2 (spD K spFrac)) : FnOk P w K mg base CX0 3 f fd ["spans"] (spD K spShare) := by
  refine okD (k := 2) F sc_share (fun ss R h => ?_) (by decide) (fun cdv A outer s H E hr => ⟨_, (qs_bar (q_set (i := 1) sc_share.nd rfl (Or.inl rfl) (q_call G_least_multiple (hr.mono (by decide)) rfl (qa_cons (qf 0) qa_nil)))
      (qs_one (q_ret (q_call G_fraction (hr.mono (by decide)) rfl (qa_cons (q_call G_wanted_in (hr.mono (by decide)) rfl (qa_cons (qf 0) (qa_cons (qf 1) qa_nil))) (qa_cons (qf 1) qa_nil)))))), fun ss R h => ?_⟩)
  · obtain ⟨ns, rfl, _⟩ := h
    rfl
  obtain ⟨ns, rfl, hl, hs, q⟩ := h
  walk_at "dd"
  refine ⟨ns, rfl, by omega, hs, fun d hd => ?_⟩
  walk_at "dd"
  refine nx ?_
  walk_at "dd"
  refine ⟨ns, d, rfl, by omega, hs, ?_⟩
  walk_at "dd"
  have d1 := hd.pos
  refine ⟨_, d, rfl, sum_nn fun x hx => ?_, d1, hd.bk.bg (by omega), fun g p r g1 e1 e2 p0 r1 hg => ?_⟩
  · obtain ⟨y, hy, rfl⟩ := List.mem_map.mp hx
    have := hs y hy
    exact Int.ediv_nonneg (by omega) (by omega)
  · walk_at "dd"
    exact q d p r hd (Fr.mk' g1 e1 e2 p0 r1 hg)
abbrev s_supply : Stmt := top 7
theorem sc_supply : FnScope ["hands"] ["hands"] (defScope s_supply) := ⟨rfl, rfl, rfl, by decide +kernel, rfl, by decide +kernel, by decide +kernel⟩
def spSupply : DSp := fun ss R => ∃ ns : List Int, ss = [.fr (.list (li ns))] ∧ 1 ≤ ns.length ∧ ns.length ≤ 1000 ∧ (∀ x ∈ ns, 0 ≤ x) ∧ ∀ p r : Int, Fr ns.sum ns.length p r → R (.fr (.tuple [.int p, .int r])) [.un]
theorem bi_supply {f : Addr} {fd : FuncData} (F : Fun K "supply" "supply" s_supply f fd) : Binds K fd ["hands"] [] := F.binds (ps := ["hands"]) fun _ _ _ _ _ _ us hl => match us, hl with | [_], _ => rfl
theorem ok_supply {f : Addr} {fd : FuncData} (F : Fun K "supply" "supply" s_supply f fd) (B : Bn mg) (G_fraction : Cal P w K mg base "lowest_terms" 2 (spD K spFrac)) : FnOk P w K mg base CX0 3 f fd ["hands"] (spD K spSupply) := by
  refine okD (k := 2) F sc_supply (fun ss R h => ?_) (by decide) (fun cdv A outer s H E hr => ⟨_, (qs_one (q_ret (q_call G_fraction (hr.mono (by decide)) rfl (qa_cons (q_cb (call_sumI (K := K) rfl rfl) mSum rfl B.sum PyProof.Rows.boot_sum (qa_cons (qv 0) qa_nil)) (qa_cons (q_cb (kLen (K := K) rfl) mLen rfl B.len PySem.boot_len (qa_cons (qv 0) qa_nil)) qa_nil))))), fun ss R h => ?_⟩)
  · obtain ⟨ns, rfl, _⟩ := h
    rfl
  obtain ⟨ns, rfl, h1, hl, hs, q⟩ := h
  walk_at "dd"
  rw [List.length_map]
  refine ⟨_, _, rfl, sum_nn hs, by omega, Bg.of (by omega) (by omega), fun g p r g1 e1 e2 p0 r1 hg => ?_⟩
  walk_at "dd"
  exact q p r (Fr.mk' g1 e1 e2 p0 r1 hg)
abbrev s__law_is_fraction : Stmt := top 12
theorem sc__law_is_fraction : FnScope ["_law_found", "_law_number"] ["_law_found"] (defScope s__law_is_fraction) := ⟨rfl, rfl, rfl, by decide +kernel, rfl, by decide +kernel, by decide +kernel⟩
def spIsF : DSp := fun ss R => ∃ p r : Int, ss = [.fr (.tuple [.int p, .int r])] ∧ 0 ≤ p ∧ 1 ≤ r ∧ Int.gcd p r = 1 ∧ R (.fr (.bool true)) [.un]
theorem bi__law_is_fraction {f : Addr} {fd : FuncData} (F : Fun K "_law_is_fraction" "_law_is_fraction" s__law_is_fraction f fd) : Binds K fd ["_law_found"] [] := F.binds (ps := ["_law_found"]) fun _ _ _ _ _ _ us hl => match us, hl with | [_], _ => rfl
theorem ok__law_is_fraction {f : Addr} {fd : FuncData} (F : Fun K "_law_is_fraction" "_law_is_fraction" s__law_is_fraction f fd) (B : Bn mg) (G__law_divisor : Cal P w K mg base "_law_divisor" 1 (spD K spGcd)) : FnOk P w K mg base CX0 2 f fd ["_law_found"] (spD K spIsF) := by
  refine okD (k := 1) F sc__law_is_fraction (fun ss R h => ?_) (by decide) (fun cdv A outer s H E hr => ⟨_, (qs_cons (q_if (PW.pt (qw_or (qt_not (qt_val (q_isT (K := K) rfl kit_tuple rfl B.isinstance rfl B.tuple PyProof.Rows.boot_tuple (qv 0)))) (qw_or1 (qt_cmp op_ne mNeI (q_cb (kLen (K := K) rfl) mLen rfl B.len PySem.boot_len (qa_cons (qv 0) qa_nil)) q_int (nomark _))))) (qs_one (q_ret q_bl)) qs_nil)
      (qs_cons (q_for PassesOwn.never rfl (qi_tup (K := K) rfl (qf 0)) (qg_name (i := 1) sc__law_is_fraction.nd rfl (Or.inl rfl)) (qs_one (q_if (PW.pt (qw_or (qt_not (qt_val (q_isT (K := K) rfl kit_int rfl B.isinstance rfl B.int PyProof.Rows.boot_int (qv 1)))) (qw_or1 (qt_val (q_isT (K := K) rfl kit_bool rfl B.isinstance rfl B.bool PyProof.Rows.boot_bool (qv 1)))))) (qs_one (q_ret q_bl)) qs_nil)))
      (qs_one (q_ret (q_and (q_cmp op_gt mB (q_ix (ix_any (K := K) rfl) mIx (qv 0) q_int (fun _ _ => rfl)) q_int (nomark _)) (q_one (q_cmp op_eq mEqI (q_call G__law_divisor (hr.mono (by decide)) rfl (qa_cons (q_cb call_abs mAbs rfl B.abs PyProof.Rows.boot_abs (qa_cons (q_ix (ix_any (K := K) rfl) mIx (qv 0) q_int (fun _ _ => rfl)) qa_nil)) (qa_cons (q_ix (ix_any (K := K) rfl) mIx (qv 0) q_int (fun _ _ => rfl)) qa_nil))) q_int (nomark _)))))))), fun ss R h => ?_⟩)
  · obtain ⟨p, r, rfl, _⟩ := h
    rfl
  obtain ⟨p, r, rfl, p0, r1, hg, q⟩ := h
  walk_at "dd"
  rw [if_neg (by decide)]
  refine fd_intro (fun i env => ∃ v : Sl, env = [.fr (.tuple [.int p, .int r]), v]) ⟨_, rfl⟩ ?_ ?_
  · rintro i env hi ⟨v, rfl⟩
    have : i = 0 ∨ i = 1 := by
      simp at hi
      omega
    rcases this with rfl | rfl
    · show dgName 1 (.int p) _ _
      walk_at "dd"
    · show dgName 1 (.int r) _ _
      walk_at "dd"
  · rintro env ⟨v, rfl⟩
    walk_at "dd"
    rw [if_pos (by omega), if_neg (by omega)]
    refine ⟨p, r, rfl, p0, by omega, ?_⟩
    walk_at "dd"
    rw [hg]
    exact q
theorem sum_le {l : List Int} {B : Int} (h : ∀ x ∈ l, x ≤ B) : l.sum ≤ (l.length : Int) * B := by
  induction l with
  | nil => simp
  | cons x l ih =>
    rw [List.sum_cons, List.length_cons]
    have h1 := h x List.mem_cons_self
    have h2 := ih fun y hy => h y (List.mem_cons_of_mem _ hy)
    have e : ((l.length + 1 : Nat) : Int) * B = (l.length : Int) * B + B := by
      rw [show ((l.length + 1 : Nat) : Int) = (l.length : Int) + 1 by omega, Int.add_mul, Int.one_mul]
    omega
theorem Bk.sum {k : Nat} {ns : List Int} {d : Int} (h : Bk k d) (hl : ns.length ≤ 1000) (hx : ∀ x ∈ ns, 1 ≤ x) : Bk (k + 1) ((ns.map (d / ·)).sum) := by
  have h1 : (ns.map (d / ·)).sum ≤ (ns.length : Int) * d := by
    have := sum_le (l := ns.map (d / ·)) (B := d) fun x hx' => by
      obtain ⟨y, hy, rfl⟩ := List.mem_map.mp hx'
      exact Int.ediv_le_self _ h.1
    rwa [List.length_map] at this
  refine (h.mul (j := ns.length) (by omega) (by omega)).le (sum_nn fun x hx' => ?_) (by rw [Int.mul_comm]; exact h1)
  obtain ⟨y, hy, rfl⟩ := List.mem_map.mp hx'
  exact Int.ediv_nonneg h.1 (by have := hx y hy; omega)
theorem sum_cross {ns : List Int} {d m : Int} (hx : ∀ x ∈ ns, 1 ≤ x) (hd : ∀ x ∈ ns, x ∣ d) (hm : ∀ x ∈ ns, x ∣ m) : m * (ns.map (d / ·)).sum = d * (ns.map (m / ·)).sum := by
  induction ns with
  | nil => simp
  | cons x ns ih =>
    have e := ih (fun y hy => hx y (List.mem_cons_of_mem _ hy)) (fun y hy => hd y (List.mem_cons_of_mem _ hy)) (fun y hy => hm y (List.mem_cons_of_mem _ hy))
    rw [List.map_cons, List.map_cons, List.sum_cons, List.sum_cons, Int.mul_add, Int.mul_add, e]
    obtain ⟨a, ea⟩ := hd x List.mem_cons_self
    obtain ⟨b, eb⟩ := hm x List.mem_cons_self
    have x1 := hx x List.mem_cons_self
    have q1 : d / x = a := by rw [ea, Int.mul_ediv_cancel_left _ (by omega)]
    have q2 : m / x = b := by rw [eb, Int.mul_ediv_cancel_left _ (by omega)]
    rw [q1, q2, ea, eb]
    grind
abbrev s_law : Stmt := top 14
theorem sc_law : FnScope ["_law_script", "_law_draws_here", "_law_spans_here", "_law_hands", "_law_handed", "_law_found", "_law_told", "_law_whole", "_law_span"] ["_law_script"] (defScope s_law) := ⟨rfl, rfl, rfl, by decide +kernel, rfl, by decide +kernel, by decide +kernel⟩
def spLaw : DSp := fun ss R => ∃ ns : List Int, ss = [.fr (.list (li ns))] ∧ ns.length ≤ 63 ∧ R (.fr (.bool true)) [.un]
theorem bi_law {f : Addr} {fd : FuncData} (F : Fun K "law" "law" s_law f fd) : Binds K fd ["_law_script"] [] := F.binds (ps := ["_law_script"]) fun _ _ _ _ _ _ us hl => match us, hl with | [_], _ => rfl
theorem ok_law {f : Addr} {fd : FuncData} (F : Fun K "law" "law" s_law f fd) (B : Bn mg) (G__law_draws : Cal P w K mg base "_law_draws" 2 (spD K spDraws)) (G__law_spans : Cal P w K mg base "_law_spans" 2 (spD K spSpans)) (G_share : Cal P w K mg base "share" 3 (spD K spShare)) (G_supply : Cal P w K mg base "supply" 3 (spD K spSupply)) (G__law_is_fraction : Cal P w K mg base "_law_is_fraction" 2 (spD K spIsF)) : FnOk P w K mg base CX0 9 f fd ["_law_script"] (spD K spLaw) := by
  refine okD (k := 8) F sc_law (fun ss R h => ?_) (by decide) (fun cdv A outer s H E hr => ⟨_, (qs_bar (q_set (i := 1) sc_law.nd rfl (Or.inl rfl) (q_call G__law_draws (hr.mono (by decide)) rfl (qa_cons (qf 0) (qa_cons q_int (qa_cons q_int qa_nil)))))
      (qs_bar (q_set (i := 2) sc_law.nd rfl (Or.inl rfl) (q_callS 1 G__law_spans (hr.mono (by decide)) rfl (qa_cons (qf 0) (qa_cons (qv 1) qa_nil))))
      (qs_bar (q_setComp (i := 3)  sc_law.nd rfl rfl (N' := ["_law_one"]) (ix := [none]) rfl (bs_of (N := ["_law_script", "_law_draws_here", "_law_spans_here", "_law_hands", "_law_handed", "_law_found", "_law_told", "_law_whole", "_law_span"]) (sc0 := defScope s_law) rfl rfl (by decide +kernel)) (qi_list (K := K) rfl (q_callS 1 G__law_spans (hr.mono (by decide)) rfl (qa_cons (qf 0) (qa_cons (qv 1) qa_nil)))) (fun _ _ _ _ => (qg_name (i := 0) (show List.Nodup (["_law_one"] : List Str) by decide +kernel) rfl (Or.inl rfl))) (fun _ _ _ _ => qif_nil) (fun _ _ _ _ => (q_op op_sub mI (qv 0) q_int)))
      (qs_cons (q_set (i := 4) sc_law.nd rfl (Or.inl rfl) (q_lst (qa_cons (q_listOf (K := K) rfl rfl B.list (qa_cons (qv 2) qa_nil)) (qa_cons (q_listOf (K := K) rfl rfl B.list (qa_cons (qv 3) qa_nil)) qa_nil))))
      (qs_bar (q_set (i := 5) sc_law.nd rfl (Or.inl rfl) (q_call G_share (hr.mono (by decide)) rfl (qa_cons (q_ix (ix_any (K := K) rfl) mIx (qv 4) q_int (fun _ _ => rfl)) qa_nil)))
      (qs_bar (q_set (i := 6) sc_law.nd rfl (Or.inl rfl) (q_call G_supply (hr.mono (by decide)) rfl (qa_cons (q_ix (ix_any (K := K) rfl) mIx (qv 4) q_int (fun _ _ => rfl)) qa_nil)))
      (qs_bar (q_if (PW.pt (qw_or (qt_not (qt_val (q_call G__law_is_fraction (hr.mono (by decide)) rfl (qa_cons (qf 5) qa_nil)))) (qw_or (qt_not (qt_val (q_call G__law_is_fraction (hr.mono (by decide)) rfl (qa_cons (qf 6) qa_nil)))) (qw_or1 (qt_cmp (kNeD (K := K) rfl hr.units) mNe (qv 4) (q_lst (qa_cons (qf 2) (qa_cons (qf 3) qa_nil))) (nomark _)))))) (qs_one (q_ret q_bl)) qs_nil)
      (qs_cons (q_set (i := 7) sc_law.nd rfl (Or.inr rfl) q_int)
      (qs_cons (q_for PassesOwn.never rfl (qi_list (K := K) rfl (qf 2)) (qg_name (i := 8) sc_law.nd rfl (Or.inl rfl)) (qs_one (q_set (i := 7) sc_law.nd rfl (Or.inr rfl) (q_op op_mulB mIC (qv 7) (qv 8)))))
      (qs_bar (q_if (qt_cmp op_ne mNeI (q_op op_mulB mIC (q_ix (ix_any (K := K) rfl) mIx (qv 5) q_int (fun _ _ => rfl)) (qv 7)) (q_op op_mulB mIC (q_ix (ix_any (K := K) rfl) mIx (qv 5) q_int (fun _ _ => rfl)) (q_cb (call_sumI (K := K) rfl rfl) mSum rfl B.sum PyProof.Rows.boot_sum (qa_cons (q_comp (N' := ["_law_span", "_law_whole"]) (ix := [none, some 7]) rfl (bs_of (N := ["_law_script", "_law_draws_here", "_law_spans_here", "_law_hands", "_law_handed", "_law_found", "_law_told", "_law_whole", "_law_span"]) (sc0 := defScope s_law) rfl rfl (by decide +kernel)) (qi_list (K := K) rfl (qf 2)) (fun _ _ _ _ => (qg_name (i := 0) (show List.Nodup (["_law_span", "_law_whole"] : List Str) by decide +kernel) rfl (Or.inl rfl))) (fun _ _ _ _ => qif_nil) (fun _ _ _ _ => (q_op op_fdivB mIC (qv 1) (qv 0)))) qa_nil))) (nomark _)) (qs_one (q_ret q_bl)) qs_nil)
      (qs_one (q_ret (q_cmp op_eq mEqI (q_op op_mulB mIC (q_ix (ix_any (K := K) rfl) mIx (qv 6) q_int (fun _ _ => rfl)) (q_cb (kLen (K := K) rfl) mLen rfl B.len PySem.boot_len (qa_cons (qv 3) qa_nil))) (q_op op_mulB mIC (q_ix (ix_any (K := K) rfl) mIx (qv 6) q_int (fun _ _ => rfl)) (q_cb (call_sumI (K := K) rfl rfl) mSum rfl B.sum PyProof.Rows.boot_sum (qa_cons (qv 3) qa_nil))) (nomark _)))))))))))))), fun ss R h => ?_⟩)
  · obtain ⟨ns, rfl, _⟩ := h
    rfl
  obtain ⟨ns, rfl, h63, q⟩ := h
  walk_at "dd"
  refine ⟨ns, 2, 100, rfl, h63, by decide, by decide, fun ds hd => ?_⟩
  walk_at "dd"
  refine nx ?_
  walk_at "dd"
  refine ⟨ns, ds, rfl, h63, hd.2, fun sps l1 s1 s40 hs b1 => ?_⟩
  walk_at "dd"
  refine nx ?_
  walk_at "dd"
  refine ⟨ns, l1, rfl, h63, b1, fun hps l2 t1 t40 ht b2 => ?_⟩
  walk_at "dd"
  refine cd_map (fun i => .int (hps.getD i 0 - 1)) (by rw [List.length_map]; omega) (fun i hi Q hQ => ?_) ?_
  · rw [li_get]
    walk_at "dd"
    exact hQ
  rw [List.length_map, li_range, map_range_getD hps (· - 1)]
  walk_at "dd"
  refine nx ?_
  have hh : ∀ x ∈ hps.map (· - 1), 0 ≤ x ∧ x ≤ 10000000000000000000000000000000000000000 := fun x hx => by
    obtain ⟨y, hy, rfl⟩ := List.mem_map.mp hx
    have := ht y hy
    omega
  have hhl : (hps.map (· - 1)).length = hps.length := List.length_map ..
  generalize hps.map (· - 1) = hs' at *
  walk_at "dd"
  refine ⟨by decide, sps, rfl, s40, hs, fun d p r hd hf => ?_⟩
  walk_at "dd"
  refine nx ?_
  walk_at "dd"
  refine ⟨hs', rfl, by omega, by omega, fun x hx => (hh x hx).1, fun p' r' hf' => ?_⟩
  walk_at "dd"
  refine nx ?_
  walk_at "dd"
  refine ⟨p, r, rfl, hf.p0, hf.r1, hf.gcd, ?_⟩
  walk_at "dd"
  refine ⟨p', r', rfl, hf'.p0, hf'.r1, hf'.gcd, ?_⟩
  walk_at "dd"
  have sh : shp (.list [.list (li sps), .list (li hs')]) := (Sh.list (n := 1) fun x hx => by
    simp only [List.mem_cons, List.not_mem_nil, or_false] at hx
    rcases hx with rfl | rfl
    · exact Sh.ints 0 _
    · exact Sh.ints 0 _).shp (by decide)
  rw [SeqAt.eqv_refl _ (SeqAt.canLay_of_shaped sh)]
  refine ⟨by decide, sh, sh, ?_⟩
  rw [if_neg (by decide)]
  refine nx ?_
  walk_at "dd"
  refine fd_intro (fun i env => ∃ (m : Int) (v : Sl), env = [.fr (.list (li ns)), .ow (li l2), .fr (.list (li sps)), .fr (.list (li hs')), .ow [.list (li sps), .list (li hs')], .fr (.tuple [.int p, .int r]), .fr (.tuple [.int p', .int r']), .fr (.int m), v] ∧ 1 ≤ m ∧ Bk i m ∧ ∀ x ∈ sps.take i, x ∣ m) ⟨1, _, rfl, by decide, ⟨by decide, by simp⟩, fun x hx => (by simp at hx)⟩ ?_ ?_
  · rintro i env hi ⟨m, v, rfl, m1, bm, dm⟩
    have hi' : i < sps.length := by simpa using hi
    rw [li_get]
    have bn := hs _ (getD_mem' hi')
    have et : sps.take (i + 1) = sps.take i ++ [sps.getD i 0] := by
      rw [List.take_add_one, List.getElem?_eq_getElem hi', List.getD_eq_getElem?_getD, List.getElem?_eq_getElem hi']
      rfl
    have p0 := Int.mul_le_mul m1 bn.1 (by omega) (by omega)
    walk_at "dd"
    refine ⟨⟨bm.bg (by omega), Bg.of (by omega) (by omega)⟩, by omega, bm.mul (by omega) bn.2, fun x hx => ?_⟩
    rw [et] at hx
    rcases List.mem_append.mp hx with hx | hx
    · exact Int.dvd_trans (dm x hx) (Int.dvd_mul_right _ _)
    · rw [List.mem_singleton.mp hx]; exact Int.dvd_mul_left _ _
  · rintro env ⟨m, v, rfl, m1, bm, dm⟩
    rw [List.length_map] at bm dm
    rw [List.take_length] at dm
    walk_at "dd"
    have d1 := hd.pos
    have x1 : ∀ x ∈ sps, 1 ≤ x := fun x hx => (hs x hx).1
    have bW := hd.bk.sum (by omega) x1
    have bX := bm.sum (by omega) x1
    have bp := (bW.le hf.p0 hf.pa).bg (by omega)
    have br := (hd.bk.le (by have := hf.r1; omega) hf.rb).bg (by omega)
    refine ⟨⟨bp, bm.bg (by omega)⟩, ?_⟩
    refine cd_map (fun i => .int (m / sps.getD i 0)) (by rw [List.length_map]; omega) (fun i hi Q hQ => ?_) ?_
    · have hi' : i < sps.length := by simpa using hi
      rw [li_get]
      have bn := hs _ (getD_mem' hi')
      walk_at "dd"
      exact ⟨⟨by omega, Bg.of (by omega) (by omega)⟩, hQ⟩
    rw [List.length_map, li_range, map_range_getD sps (m / ·)]
    walk_at "dd"
    refine ⟨⟨br, bX.bg (by omega)⟩, ?_⟩
    have cross : m * (sps.map (d / ·)).sum = d * (sps.map (m / ·)).sum := sum_cross x1 hd.dvd dm
    have key : p * m = r * (sps.map (m / ·)).sum := by
      have e := hf.eq
      have e2 : d * (p * m) = d * (r * (sps.map (m / ·)).sum) := by grind
      exact Int.eq_of_mul_eq_mul_left (by omega) e2
    rw [if_neg (by simpa using key)]
    refine nx ?_
    walk_at "dd"
    have sl := sum_le fun x hx => (hh x hx).2
    have s0 := sum_nn fun x hx => (hh x hx).1
    have hl' : hs'.length ≤ 40 := by omega
    have sl2 : (hs'.length : Int) * 10000000000000000000000000000000000000000 ≤ 40 * 10000000000000000000000000000000000000000 := Int.mul_le_mul_of_nonneg_right (by omega) (by decide)
    have pa := hf'.pa
    have p0 := hf'.p0
    have rb := hf'.rb
    have r1 := hf'.r1
    rw [List.length_map]
    refine ⟨⟨Bg.of (by omega) (by omega), Bg.of (by omega) (by omega)⟩, ⟨Bg.of (by omega) (by omega), Bg.of (by omega) (by omega)⟩, ?_⟩
    rw [decide_eq_true hf'.eq]
    exact q
end
/-! ### what the top has written, and the law's head -/
theorem all_mk {l : PySem.W.OpenLaw} {w : World} {K : PySem.W.Frag} {h : Heap} {mg : Str → Option Value} {fa : Addr} (X : K.In h) (G : h.Ns mainGlobals mg) (hfa : mg "law" = some (.ref fa))
    {f0 : Addr} {od0 an0 : Option Addr} {sl0 : Array (Option Value)} {oc0 kV0 dc0 pm0 cd0 ct0 : Value}
    {f1 : Addr} {od1 an1 : Option Addr} {sl1 : Array (Option Value)} {oc1 kV1 dc1 pm1 cd1 ct1 : Value}
    {f2 : Addr} {od2 an2 : Option Addr} {sl2 : Array (Option Value)} {oc2 kV2 dc2 pm2 cd2 ct2 : Value}
    {f3 : Addr} {od3 an3 : Option Addr} {sl3 : Array (Option Value)} {oc3 kV3 dc3 pm3 cd3 ct3 : Value}
    {f4 : Addr} {od4 an4 : Option Addr} {sl4 : Array (Option Value)} {oc4 kV4 dc4 pm4 cd4 ct4 : Value}
    {f5 : Addr} {od5 an5 : Option Addr} {sl5 : Array (Option Value)} {oc5 kV5 dc5 pm5 cd5 ct5 : Value}
    {f6 : Addr} {od6 an6 : Option Addr} {sl6 : Array (Option Value)} {oc6 kV6 dc6 pm6 cd6 ct6 : Value}
    {f7 : Addr} {od7 an7 : Option Addr} {sl7 : Array (Option Value)} {oc7 kV7 dc7 pm7 cd7 ct7 : Value}
    {f8 : Addr} {od8 an8 : Option Addr} {sl8 : Array (Option Value)} {oc8 kV8 dc8 pm8 cd8 ct8 : Value}
    {f9 : Addr} {od9 an9 : Option Addr} {sl9 : Array (Option Value)} {oc9 kV9 dc9 pm9 cd9 ct9 : Value}
    {f10 : Addr} {od10 an10 : Option Addr} {sl10 : Array (Option Value)} {oc10 kV10 dc10 pm10 cd10 ct10 : Value}
    {f11 : Addr} {od11 an11 : Option Addr} {sl11 : Array (Option Value)} {oc11 kV11 dc11 pm11 cd11 ct11 : Value}
    (a0 : PySem.W.nsIn K mainGlobals "_law_draws" = some (some (.ref f0))) (l0 : K.lookup f0 = some ⟨oc0, od0, .func (PySem.W.fnOf "_law_draws" "_law_draws" (defArgs s__law_draws) (defBody s__law_draws) (defScope s__law_draws) .none kV0 dc0 pm0 an0 cd0 ct0), sl0⟩) (c0 : PySem.W.codeIn K cd0 "_law_draws" = true) (k0 : PySem.W.keepIn K (.ref f0) = true)
    (a1 : PySem.W.nsIn K mainGlobals "_law_pop" = some (some (.ref f1))) (l1 : K.lookup f1 = some ⟨oc1, od1, .func (PySem.W.fnOf "_law_pop" "_law_pop" (defArgs s__law_pop) (defBody s__law_pop) (defScope s__law_pop) .none kV1 dc1 pm1 an1 cd1 ct1), sl1⟩) (c1 : PySem.W.codeIn K cd1 "_law_pop" = true) (k1 : PySem.W.keepIn K (.ref f1) = true)
    (a2 : PySem.W.nsIn K mainGlobals "_law_spans" = some (some (.ref f2))) (l2 : K.lookup f2 = some ⟨oc2, od2, .func (PySem.W.fnOf "_law_spans" "_law_spans" (defArgs s__law_spans) (defBody s__law_spans) (defScope s__law_spans) .none kV2 dc2 pm2 an2 cd2 ct2), sl2⟩) (c2 : PySem.W.codeIn K cd2 "_law_spans" = true) (k2 : PySem.W.keepIn K (.ref f2) = true)
    (a3 : PySem.W.nsIn K mainGlobals "_law_divisor" = some (some (.ref f3))) (l3 : K.lookup f3 = some ⟨oc3, od3, .func (PySem.W.fnOf "_law_divisor" "_law_divisor" (defArgs s__law_divisor) (defBody s__law_divisor) (defScope s__law_divisor) .none kV3 dc3 pm3 an3 cd3 ct3), sl3⟩) (c3 : PySem.W.codeIn K cd3 "_law_divisor" = true) (k3 : PySem.W.keepIn K (.ref f3) = true)
    (a4 : PySem.W.nsIn K mainGlobals "greatest_divisor" = some (some (.ref f4))) (l4 : K.lookup f4 = some ⟨oc4, od4, .func (PySem.W.fnOf "greatest_divisor" "greatest_divisor" (defArgs s_greatest_divisor) (defBody s_greatest_divisor) (defScope s_greatest_divisor) .none kV4 dc4 pm4 an4 cd4 ct4), sl4⟩) (c4 : PySem.W.codeIn K cd4 "greatest_divisor" = true) (k4 : PySem.W.keepIn K (.ref f4) = true)
    (a5 : PySem.W.nsIn K mainGlobals "least_multiple" = some (some (.ref f5))) (l5 : K.lookup f5 = some ⟨oc5, od5, .func (PySem.W.fnOf "least_multiple" "least_multiple" (defArgs s_least_multiple) (defBody s_least_multiple) (defScope s_least_multiple) .none kV5 dc5 pm5 an5 cd5 ct5), sl5⟩) (c5 : PySem.W.codeIn K cd5 "least_multiple" = true) (k5 : PySem.W.keepIn K (.ref f5) = true)
    (a6 : PySem.W.nsIn K mainGlobals "wanted_in" = some (some (.ref f6))) (l6 : K.lookup f6 = some ⟨oc6, od6, .func (PySem.W.fnOf "wanted_in" "wanted_in" (defArgs s_wanted_in) (defBody s_wanted_in) (defScope s_wanted_in) .none kV6 dc6 pm6 an6 cd6 ct6), sl6⟩) (c6 : PySem.W.codeIn K cd6 "wanted_in" = true) (k6 : PySem.W.keepIn K (.ref f6) = true)
    (a7 : PySem.W.nsIn K mainGlobals "lowest_terms" = some (some (.ref f7))) (l7 : K.lookup f7 = some ⟨oc7, od7, .func (PySem.W.fnOf "lowest_terms" "lowest_terms" (defArgs s_fraction) (defBody s_fraction) (defScope s_fraction) .none kV7 dc7 pm7 an7 cd7 ct7), sl7⟩) (c7 : PySem.W.codeIn K cd7 "lowest_terms" = true) (k7 : PySem.W.keepIn K (.ref f7) = true)
    (a8 : PySem.W.nsIn K mainGlobals "share" = some (some (.ref f8))) (l8 : K.lookup f8 = some ⟨oc8, od8, .func (PySem.W.fnOf "share" "share" (defArgs s_share) (defBody s_share) (defScope s_share) .none kV8 dc8 pm8 an8 cd8 ct8), sl8⟩) (c8 : PySem.W.codeIn K cd8 "share" = true) (k8 : PySem.W.keepIn K (.ref f8) = true)
    (a9 : PySem.W.nsIn K mainGlobals "supply" = some (some (.ref f9))) (l9 : K.lookup f9 = some ⟨oc9, od9, .func (PySem.W.fnOf "supply" "supply" (defArgs s_supply) (defBody s_supply) (defScope s_supply) .none kV9 dc9 pm9 an9 cd9 ct9), sl9⟩) (c9 : PySem.W.codeIn K cd9 "supply" = true) (k9 : PySem.W.keepIn K (.ref f9) = true)
    (a10 : PySem.W.nsIn K mainGlobals "_law_is_fraction" = some (some (.ref f10))) (l10 : K.lookup f10 = some ⟨oc10, od10, .func (PySem.W.fnOf "_law_is_fraction" "_law_is_fraction" (defArgs s__law_is_fraction) (defBody s__law_is_fraction) (defScope s__law_is_fraction) .none kV10 dc10 pm10 an10 cd10 ct10), sl10⟩) (c10 : PySem.W.codeIn K cd10 "_law_is_fraction" = true) (k10 : PySem.W.keepIn K (.ref f10) = true)
    (a11 : PySem.W.nsIn K mainGlobals "law" = some (some (.ref f11))) (l11 : K.lookup f11 = some ⟨oc11, od11, .func (PySem.W.fnOf "law" "law" (defArgs s_law) (defBody s_law) (defScope s_law) .none kV11 dc11 pm11 an11 cd11 ct11), sl11⟩) (c11 : PySem.W.codeIn K cd11 "law" = true) (k11 : PySem.W.keepIn K (.ref f11) = true)
    (z_len : PySem.W.nsIn K mainGlobals "len" = some none)
    (z_range : PySem.W.nsIn K mainGlobals "range" = some none)
    (z_min : PySem.W.nsIn K mainGlobals "min" = some none)
    (z_max : PySem.W.nsIn K mainGlobals "max" = some none)
    (z_enumerate : PySem.W.nsIn K mainGlobals "enumerate" = some none)
    (z_zip : PySem.W.nsIn K mainGlobals "zip" = some none)
    (z_all : PySem.W.nsIn K mainGlobals "all" = some none)
    (z_any : PySem.W.nsIn K mainGlobals "any" = some none)
    (z_isinstance : PySem.W.nsIn K mainGlobals "isinstance" = some none)
    (z_bool : PySem.W.nsIn K mainGlobals "bool" = some none)
    (z_int : PySem.W.nsIn K mainGlobals "int" = some none)
    (z_list : PySem.W.nsIn K mainGlobals "list" = some none)
    (z_tuple : PySem.W.nsIn K mainGlobals "tuple" = some none)
    (z_sorted : PySem.W.nsIn K mainGlobals "sorted" = some none)
    (z_str : PySem.W.nsIn K mainGlobals "str" = some none)
    (z_sum : PySem.W.nsIn K mainGlobals "sum" = some none)
    (z_abs : PySem.W.nsIn K mainGlobals "abs" = some none)
    : ∃ fd : FuncData, (∀ (s : Shared) (v : Value), BindsTo s fd ⟨[v], []⟩ [("_law_script", v)]) ∧ ∀ base : Heap, K.In base → base.Ns mainGlobals mg → FnOk l.prog w K mg base CX0 9 fa fd ["_law_script"] (spD K spLaw) := by
  have e := hfa.symm.trans (PySem.W.mg_of X G a11)
  cases e
  have B : Bn mg := ⟨PySem.W.mg_none_of X G z_len, PySem.W.mg_none_of X G z_range, PySem.W.mg_none_of X G z_min, PySem.W.mg_none_of X G z_max, PySem.W.mg_none_of X G z_enumerate, PySem.W.mg_none_of X G z_zip, PySem.W.mg_none_of X G z_all, PySem.W.mg_none_of X G z_any, PySem.W.mg_none_of X G z_isinstance, PySem.W.mg_none_of X G z_bool, PySem.W.mg_none_of X G z_int, PySem.W.mg_none_of X G z_list, PySem.W.mg_none_of X G z_tuple, PySem.W.mg_none_of X G z_sorted, PySem.W.mg_none_of X G z_str, PySem.W.mg_none_of X G z_sum, PySem.W.mg_none_of X G z_abs⟩
  refine ⟨PySem.W.fnOf "law" "law" (defArgs s_law) (defBody s_law) (defScope s_law) .none kV11 dc11 pm11 an11 cd11 ct11, fun s v => .of_eq rfl, fun base _ _ => ?_⟩
  have F__law_draws := fun_mk (st := s__law_draws) l0 c0 k0
  have G__law_draws := calD F__law_draws (PySem.W.mg_of X G a0) (bi__law_draws F__law_draws) (ok__law_draws (P := l.prog) (w := w) (base := base) F__law_draws B)
  have F__law_pop := fun_mk (st := s__law_pop) l1 c1 k1
  have G__law_pop := calD F__law_pop (PySem.W.mg_of X G a1) (bi__law_pop F__law_pop) (ok__law_pop (P := l.prog) (w := w) (base := base) F__law_pop B)
  have F__law_spans := fun_mk (st := s__law_spans) l2 c2 k2
  have G__law_spans := calD F__law_spans (PySem.W.mg_of X G a2) (bi__law_spans F__law_spans) (ok__law_spans (P := l.prog) (w := w) (base := base) F__law_spans B G__law_pop)
  have F__law_divisor := fun_mk (st := s__law_divisor) l3 c3 k3
  have G__law_divisor := calD F__law_divisor (PySem.W.mg_of X G a3) (bi__law_divisor F__law_divisor) (ok__law_divisor (P := l.prog) (w := w) (base := base) F__law_divisor B)
  have F_greatest_divisor := fun_mk (st := s_greatest_divisor) l4 c4 k4
  have G_greatest_divisor := calD F_greatest_divisor (PySem.W.mg_of X G a4) (bi_greatest_divisor F_greatest_divisor) (ok_greatest_divisor (P := l.prog) (w := w) (base := base) F_greatest_divisor B)
  have F_least_multiple := fun_mk (st := s_least_multiple) l5 c5 k5
  have G_least_multiple := calD F_least_multiple (PySem.W.mg_of X G a5) (bi_least_multiple F_least_multiple) (ok_least_multiple (P := l.prog) (w := w) (base := base) F_least_multiple B G_greatest_divisor)
  have F_wanted_in := fun_mk (st := s_wanted_in) l6 c6 k6
  have G_wanted_in := calD F_wanted_in (PySem.W.mg_of X G a6) (bi_wanted_in F_wanted_in) (ok_wanted_in (P := l.prog) (w := w) (base := base) F_wanted_in B)
  have F_fraction := fun_mk (st := s_fraction) l7 c7 k7
  have G_fraction := calD F_fraction (PySem.W.mg_of X G a7) (bi_fraction F_fraction) (ok_fraction (P := l.prog) (w := w) (base := base) F_fraction B G_greatest_divisor)
  have F_share := fun_mk (st := s_share) l8 c8 k8
  have G_share := calD F_share (PySem.W.mg_of X G a8) (bi_share F_share) (ok_share (P := l.prog) (w := w) (base := base) F_share B G_least_multiple G_wanted_in G_fraction)
  have F_supply := fun_mk (st := s_supply) l9 c9 k9
  have G_supply := calD F_supply (PySem.W.mg_of X G a9) (bi_supply F_supply) (ok_supply (P := l.prog) (w := w) (base := base) F_supply B G_fraction)
  have F__law_is_fraction := fun_mk (st := s__law_is_fraction) l10 c10 k10
  have G__law_is_fraction := calD F__law_is_fraction (PySem.W.mg_of X G a10) (bi__law_is_fraction F__law_is_fraction) (ok__law_is_fraction (P := l.prog) (w := w) (base := base) F__law_is_fraction B G__law_divisor)
  have F_law := fun_mk (st := s_law) l11 c11 k11
  exact ok_law (P := l.prog) (w := w) (base := base) F_law B G__law_draws G__law_spans G_share G_supply G__law_is_fraction
end W
open PySem PySem.W PyProof.Rows
set_option maxRecDepth 100000 in
set_option maxHeartbeats 0 in
theorem PySem.Challenge.cw_windround_k14_shares_and_supplies_holds : PySem.Challenge.rw_windround_k14_shares_and_supplies.Holds := by
  w_on; o_law; k_head; (case hw => w_witness2)
  k_fill
  refine L2.walkD (l := PySem.Challenge.rw_windround_k14_shares_and_supplies) (sp := W.spLaw) (k := 9) (by decide) rfl rfl (fun ns h => ⟨ns, rfl, h, rfl⟩) (fun w h Y => PySem.W.kIn_of Y) ?F
  case F =>
    intro w mg fa h KX G hmg
    refine' W.all_mk KX G hmg ?a0 ?l0 ?c0 ?k0 ?a1 ?l1 ?c1 ?k1 ?a2 ?l2 ?c2 ?k2 ?a3 ?l3 ?c3 ?k3 ?a4 ?l4 ?c4 ?k4 ?a5 ?l5 ?c5 ?k5 ?a6 ?l6 ?c6 ?k6 ?a7 ?l7 ?c7 ?k7 ?a8 ?l8 ?c8 ?k8 ?a9 ?l9 ?c9 ?k9 ?a10 ?l10 ?c10 ?k10 ?a11 ?l11 ?c11 ?k11 ?z_len ?z_range ?z_min ?z_max ?z_enumerate ?z_zip ?z_all ?z_any ?z_isinstance ?z_bool ?z_int ?z_list ?z_tuple ?z_sorted ?z_str ?z_sum ?z_abs
    (case a0 => k_is); (case l0 => k_is); (case c0 => k_is); (case k0 => k_is)
    (case a1 => k_is); (case l1 => k_is); (case c1 => k_is); (case k1 => k_is)
    (case a2 => k_is); (case l2 => k_is); (case c2 => k_is); (case k2 => k_is)
    (case a3 => k_is); (case l3 => k_is); (case c3 => k_is); (case k3 => k_is)
    (case a4 => k_is); (case l4 => k_is); (case c4 => k_is); (case k4 => k_is)
    (case a5 => k_is); (case l5 => k_is); (case c5 => k_is); (case k5 => k_is)
    (case a6 => k_is); (case l6 => k_is); (case c6 => k_is); (case k6 => k_is)
    (case a7 => k_is); (case l7 => k_is); (case c7 => k_is); (case k7 => k_is)
    (case a8 => k_is); (case l8 => k_is); (case c8 => k_is); (case k8 => k_is)
    (case a9 => k_is); (case l9 => k_is); (case c9 => k_is); (case k9 => k_is)
    (case a10 => k_is); (case l10 => k_is); (case c10 => k_is); (case k10 => k_is)
    (case a11 => k_is); (case l11 => k_is); (case c11 => k_is); (case k11 => k_is)
    (case z_len => k_is)
    (case z_range => k_is)
    (case z_min => k_is)
    (case z_max => k_is)
    (case z_enumerate => k_is)
    (case z_zip => k_is)
    (case z_all => k_is)
    (case z_any => k_is)
    (case z_isinstance => k_is)
    (case z_bool => k_is)
    (case z_int => k_is)
    (case z_list => k_is)
    (case z_tuple => k_is)
    (case z_sorted => k_is)
    (case z_str => k_is)
    (case z_sum => k_is)
    (case z_abs => k_is)
