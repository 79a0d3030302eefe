import PyProof.Rows.All
import Wide.All
import OpenK.AllK
import Wide.FinOn
import Lean
import PyProof.EqAt
import PyProof.EqKinds
import PyProof.TupleCall
import PySem.Challenge.RW_rowwright_k01_rows_and_lots
set_option Elab.async false
set_option linter.all false
set_option maxRecDepth 100000
/-! THE HAND LAYER, for ints, bools, texts, own classes, LISTS and tuples (index, slices, in, append, pop ..), calls, loops. Paste it whole ahead of your own text; what your proof does not reach may be deleted. -/
namespace L2
open PySem PySem.Spec PyProof.Rows

/-- a key: an int or a str -/
abbrev Key := Sum Int Str
def keyIs : Key → Value → Bool
  | .inl k, v => Value.isInt k v
  | .inr x, v => Value.isStrOf x v
def keyH (w : World) : Key → Int
  | .inl k => hashInt k
  | .inr x => hashStr w x
theorem keyIs_shape : ∀ {k : Key} {v : Value}, keyIs k v = true → (∃ i t, k = Sum.inl i ∧ v = Value.int i t) ∨ (∃ x t, k = Sum.inr x ∧ v = Value.str x t)
  | .inl i, v, h => by
    obtain ⟨t, e⟩ := Value.isInt_shape (k := i) (v := v) h
    exact .inl ⟨i, t, rfl, e⟩
  | .inr x, v, h => by
    obtain ⟨t, e⟩ := Value.isStrOf_shape (x := x) (v := v) h
    exact .inr ⟨x, t, rfl, e⟩
theorem keyIs_int (i : Int) (t : Tok) : keyIs (.inl i) (.int i t) = true := by simp [keyIs, Value.isInt]
theorem keyIs_str (x : Str) (t : Tok) : keyIs (.inr x) (.str x t) = true := by simp [keyIs, Value.isStrOf]
theorem key_ll (a b : Int) : decide ((Sum.inl a : Key) = Sum.inl b) = (a == b) := by
  by_cases e : a = b
  · subst e; simp
  · have h : ¬ (Sum.inl a : Key) = Sum.inl b := fun q => e (Sum.inl.inj q)
    rw [decide_eq_false h]
    exact (beq_eq_false_iff_ne.mpr e).symm
theorem key_rr (a b : Str) : decide ((Sum.inr a : Key) = Sum.inr b) = decide (a = b) := by
  by_cases e : a = b
  · subst e; simp
  · have h : ¬ (Sum.inr a : Key) = Sum.inr b := fun q => e (Sum.inr.inj q)
    rw [decide_eq_false h, decide_eq_false e]
theorem key_lr (a : Int) (b : Str) : decide ((Sum.inl a : Key) = Sum.inr b) = false := decide_eq_false (fun q => nomatch q)
theorem key_rl (a : Str) (b : Int) : decide ((Sum.inr a : Key) = Sum.inl b) = false := decide_eq_false (fun q => nomatch q)

def mixKind (prog : Program) (w : World) : PySem.KeyKind prog w Key where
  is := keyIs
  hash := keyH w
  inj := fun v a b ha hb => by
    rcases keyIs_shape ha with ⟨i, t, rfl, rfl⟩ | ⟨x, t, rfl, rfl⟩
    · rcases keyIs_shape hb with ⟨j, u, rfl, e⟩ | ⟨y, u, rfl, e⟩
      · injection e with e1 _; rw [e1]
      · exact nomatch e
    · rcases keyIs_shape hb with ⟨j, u, rfl, e⟩ | ⟨y, u, rfl, e⟩
      · exact nomatch e
      · injection e with e1 _; rw [e1]
  byValue := fun k v h => by
    rcases keyIs_shape h with ⟨i, t, rfl, rfl⟩ | ⟨x, t, rfl, rfl⟩ <;> rfl
  pyHash := fun hv h => by
    rcases keyIs_shape hv with ⟨i, t, rfl, rfl⟩ | ⟨x, t, rfl, rfl⟩
    · exact wpAny_pyHash_int h
    · exact wpAny_pyHash_str h
  eqBool := fun hu hv h => by
    rcases keyIs_shape hu with ⟨i, t, rfl, rfl⟩ | ⟨x, t, rfl, rfl⟩
    · rcases keyIs_shape hv with ⟨j, u, rfl, rfl⟩ | ⟨y, u, rfl, rfl⟩
      · rw [key_ll] at h; exact wpAny_eqBool_int h
      · rw [key_lr] at h; exact SeqAt.EqAt.int_str i t y u _ _ _ _ h
    · rcases keyIs_shape hv with ⟨j, u, rfl, rfl⟩ | ⟨y, u, rfl, rfl⟩
      · rw [key_rl] at h; exact SeqAt.EqAt.str_int x t j u _ _ _ _ h
      · rw [key_rr] at h; exact wpAny_eqBool_str h
  «strs» := fun k x t v h => by
    rcases keyIs_shape h with ⟨i, u, rfl, e⟩ | ⟨y, u, rfl, e⟩
    · exact nomatch e
    · injection e with e1 _
      subst e1
      cases v <;> rfl

theorem mixKind_is (prog : Program) (w : World) (k : Key) (v : Value) : (mixKind prog w).is k v = keyIs k v := rfl
theorem mixKind_int (prog : Program) (w : World) (i : Int) (t : Tok) : (mixKind prog w).is (.inl i) (.int i t) = true := keyIs_int i t
theorem mixKind_str (prog : Program) (w : World) (x : Str) (t : Tok) : (mixKind prog w).is (.inr x) (.str x t) = true := keyIs_str x t
end L2

namespace L2
open PySem PySem.Spec PyProof.Rows

/-- a value, without the heap -/
inductive V where
  | non | bl (b : Bool) | int (i : Int) | str (x : Str) | byt (b : Array UInt8) | flt (b : UInt64) | ref (a : Addr) | ty (n : String)
  deriving DecidableEq

def RelV : V → Value → Prop
  | .non, u => u = Value.none
  | .bl b, u => u = Value.bool b
  | .int i, u => ∃ t, u = Value.int i t
  | .str x, u => ∃ t, u = Value.str x t
  | .byt b, u => ∃ t, u = Value.bytes b t
  | .flt b, u => ∃ t, u = Value.float b t
  | .ref a, u => u = Value.ref a
  | .ty n, u => u = Value.type n

abbrev Vals : List V → List Value → Prop := Paired RelV
theorem Vals.length {xs : List V} {us : List Value} (r : Vals xs us) : xs.length = us.length := Paired.length r
theorem Vals.get : ∀ {xs : List V} {us : List Value} {i : Nat} {x : V}, Vals xs us → xs[i]? = some x → ∃ u, us[i]? = some u ∧ RelV x u
  | _, _, _, _, .nil, e => by simp at e
  | _, _, 0, _, .cons r _, e => by simp at e; subst e; exact ⟨_, rfl, r⟩
  | _, _, i + 1, x, .cons _ t, e => by
    obtain ⟨u, h1, h2⟩ := Vals.get (i := i) (x := x) t (by simpa using e)
    exact ⟨u, by simpa using h1, h2⟩
theorem Vals.set {x : V} {u : Value} (r : RelV x u) : ∀ {xs : List V} {us : List Value} (i : Nat), Vals xs us → Vals (xs.set i x) (us.set i u)
  | _, _, _, .nil => .nil
  | _, _, 0, .cons _ t => .cons r t
  | _, _, i + 1, .cons q t => .cons q (Vals.set r i t)
theorem Vals.append : ∀ {xs ys : List V} {us ws : List Value}, Vals xs us → Vals ys ws → Vals (xs ++ ys) (us ++ ws)
  | _, _, _, _, .nil, s => s
  | _, _, _, _, .cons r t, s => .cons r (Vals.append t s)
theorem Vals.take : ∀ {xs : List V} {us : List Value} (n : Nat), Vals xs us → Vals (xs.take n) (us.take n)
  | _, _, 0, _ => .nil
  | _, _, _ + 1, .nil => .nil
  | _, _, n + 1, .cons r t => .cons r (Vals.take n t)
theorem Vals.drop : ∀ {xs : List V} {us : List Value} (n : Nat), Vals xs us → Vals (xs.drop n) (us.drop n)
  | _, _, 0, r => r
  | _, _, _ + 1, .nil => .nil
  | _, _, n + 1, .cons _ t => Vals.drop n t
theorem Vals.none_of : ∀ {xs : List V} {us : List Value} {i : Nat}, Vals xs us → xs[i]? = none → us[i]? = none := fun {xs us i} r e => by
  have h1 := r.length
  have h2 : xs.length ≤ i := List.getElem?_eq_none_iff.mp e
  exact List.getElem?_eq_none_iff.mpr (by omega)

def RelO : Option V → Option Value → Prop
  | some v, some u => RelV v u
  | none, none => True
  | _, _ => False
def KV {κ : Type} : List (κ × V) → List (κ × Value) → Prop := Paired fun (p : κ × V) (q : κ × Value) => p.1 = q.1 ∧ RelV p.2 q.2

/-- a key of a dict (00_mix): an int or a text -/
def kV : Key → V
  | .inl i => .int i
  | .inr x => .str x

/-- what stands at a tracked address -/
inductive HO where
  /-- a list -/
  | lst (xs : List V)
  /-- a tuple (never changes) -/
  | tup (xs : List V)
  /-- a dict whose keys are ints and texts; one whose keys are tuples of ints and texts (the empty one is both) -/
  | dK (kvs : List (Key × V)) | dT (kvs : List (List Key × V))
  /-- a set of ints: its members, its size -/
  | set (S : Int → Bool) (n : Nat)
  /-- an instance of the class at C, its dict at dx, its attributes -/
  | ins (C dx : Addr) (fs : List (Str × V))
  /-- the dict of the instance at x -/
  | own (x : Addr)
  /-- the dict of an exception -/
  | xd (fs : List (Str × V))
  /-- a bound method, f of x -/
  | met (f x : Addr)
  /-- a range object lo, lo + 1, .. below hi -/
  | rng (lo hi : Int)
  /-- a thing that is known to the object (the script; a dict while a loop walks it): read, never written while it is so -/
  | frz (o : Obj) (u : HO)
  /-- a code object's table -/
  | tbl (ps : Array Value)
  /-- any other thing, by what is true of its one object (a def of one's own: SetO a S n := HO.ext fun h => ..) -/
  | ext (φ : Heap → Prop)

abbrev Hp := Addr → Option HO
def upd (H : Hp) (a : Addr) (o : HO) : Hp := fun b => if b = a then some o else H b
theorem upd_same {H : Hp} {a : Addr} {o : HO} : upd H a o a = some o := by unfold upd; rw [if_pos rfl]
theorem upd_ne {H : Hp} {a b : Addr} {o : HO} (h : b ≠ a) : upd H a o b = H b := by unfold upd; rw [if_neg h]
theorem upd_upd {H : Hp} {a : Addr} {o u : HO} : upd (upd H a o) a u = upd H a u := by
  funext b; unfold upd; split <;> rfl
/-- two objects of different content stand apart -/
theorem ne_of {H : Hp} {a b : Addr} {o u : HO} (h : H a = some o) (h' : H b = some u) (d : o ≠ u) : a ≠ b := by
  intro e; subst e; rw [h] at h'; exact d (Option.some.inj h')
theorem ne_of_none {H : Hp} {a b : Addr} {o : HO} (h : H a = some o) (h' : H b = none) : a ≠ b := by
  intro e; subst e; rw [h] at h'; cases h'

section
variable (P : Program) (w : World)
def ObjOk (H : Hp) (h : Heap) (a : Addr) : HO → Prop
  | .lst xs => xs.length ≤ sizeLine ∧ ∃ (its : List Value) (n : Nat), Vals xs its ∧ h.get? a = some { cls := .type "list", data := .seq its.toArray n }
  | .tup xs => xs.length ≤ sizeLine ∧ ∃ its : List Value, Vals xs its ∧ IsTup h a its.toArray
  | .dK kvs => kvs.length ≤ sizeLine ∧ (a == sysModules) = false ∧ ∃ vs, KV kvs vs ∧ h.DictOf (mixKind P w) a vs
  | .dT kvs => kvs.length ≤ sizeLine ∧ (a == sysModules) = false ∧ ∃ xs : List (List Key × Addr × Value),
      Paired (fun (p : List Key × V) (q : List Key × Addr × Value) => p.1 = q.1 ∧ H q.2.1 = some (.tup (p.1.map kV)) ∧ RelV p.2 q.2.2) kvs xs ∧
      ∃ o es ep, h.get? a = some o ∧ o.ExactDict ∧ o.data = .dict es ep ∧ es.toList = xs.map (entryOfKey (tupleKind (mixKind P w))) ∧ (xs.map (·.1)).Nodup
  | .set S n => h.SetOf (intKind P w) a S n
  | .ins C dx fs => H dx = some (.own a) ∧ fs.length ≤ 1000 ∧ dx ≠ a ∧ h.get? a = some (PySem.W.instObj C dx) ∧
      ∃ mA, h.Ns1 dx mA ∧ (∀ f, RelO (fs.lookup f) (mA f)) ∧ PySem.Within mA (fs.map (·.1))
  | .own _ => ∃ o, h.get? a = some o
  | .xd fs => ∃ mA, h.Ns1 a mA ∧ ∀ f, RelO (fs.lookup f) (mA f)
  | .rng lo hi => ∃ t u v, h.get? a = some { cls := .type "range", data := .fields #[.int lo t, .int hi u, .int 1 v] }
  | .frz o u => h.get? a = some o ∧ ObjOk H h a u
  | .tbl ps => h.get? a = some { cls := .none, data := .fields ps }
  | .met f x => h.get? a = some (PySem.W.methodObj (.ref f) (.ref x))
  | .ext φ => φ h ∧ (∃ o, h.get? a = some o) ∧ ∀ h1 h2 : Heap, φ h1 → (∀ o, h1.get? a = some o → h2.get? a = some o) → φ h2
/-- the abstract heap is held -/
def HOk (H : Hp) (h : Heap) : Prop := ∀ a o, H a = some o → ObjOk P w H h a o
end

section
variable {P : Program} {w : World} {H H' : Hp} {h h' : Heap} {a : Addr} {o : HO}
theorem ObjOk.lt (x : ObjOk P w H h a o) : a < h.objs.size := by
  cases o with
  | lst xs => obtain ⟨_, _, _, _, e⟩ := x; exact Heap.lt_size e
  | tup xs => obtain ⟨_, _, _, p⟩ := x; exact p.lt
  | dK kvs => obtain ⟨_, _, _, _, o, _, _, e, _⟩ := x; exact Heap.lt_size e
  | dT kvs => obtain ⟨_, _, _, _, o, _, _, e, _⟩ := x; exact Heap.lt_size e
  | set S n => obtain ⟨o, _, _, _, e, _⟩ := x; exact Heap.lt_size e
  | ins C dx fs => obtain ⟨_, _, _, e, _⟩ := x; exact Heap.lt_size e
  | own y => obtain ⟨_, e⟩ := x; exact Heap.lt_size e
  | xd fs => obtain ⟨_, ⟨_, _, _, e, _⟩, _⟩ := x; exact Heap.lt_size e
  | rng lo hi => obtain ⟨_, _, _, e⟩ := x; exact Heap.lt_size e
  | frz ob u => obtain ⟨e, _⟩ := x; exact Heap.lt_size e
  | tbl ps => exact Heap.lt_size (show h.get? a = some _ from x)
  | met f y => exact Heap.lt_size (show h.get? a = some _ from x)
  | ext φ => obtain ⟨_, ⟨_, e⟩, _⟩ := x; exact Heap.lt_size e
theorem Paired.mapP {α β : Type} {F G : α → β → Prop} : ∀ {l₁ : List α} {l₂ : List β}, Paired F l₁ l₂ → (∀ a b, F a b → G a b) → Paired G l₁ l₂
  | _, _, .nil, _ => .nil
  | _, _, .cons r t, f => .cons (f _ _ r) (Paired.mapP t f)
theorem Paired.imp' {α β : Type} {F G : α → β → Prop} (f : ∀ a b, F a b → G a b) {l₁ : List α} {l₂ : List β} (r : Paired F l₁ l₂) : Paired G l₁ l₂ := Paired.mapP r f
/-- what an object's description leans on: its own object, its own dict, the tuples -/
theorem ObjOk.stay (x : ObjOk P w H h a o) (k : ∀ b u, (b = a ∨ H b = some (.own a)) → h.get? b = some u → h'.get? b = some u)
    (ho : ∀ b, H b = some (.own a) → H' b = some (.own a)) (ht : ∀ b xs, H b = some (.tup xs) → H' b = some (.tup xs)) : ObjOk P w H' h' a o := by
  induction o with
  | lst xs => obtain ⟨z, its, n, r, e⟩ := x; exact ⟨z, its, n, r, k _ _ (.inl rfl) e⟩
  | tup xs => obtain ⟨z, its, r, ob, e, c⟩ := x; exact ⟨z, its, r, ob, k _ _ (.inl rfl) e, c⟩
  | dK kvs => obtain ⟨z, y, vs, r, ob, es, ep, e, c⟩ := x; exact ⟨z, y, vs, r, ob, es, ep, k _ _ (.inl rfl) e, c⟩
  | dT kvs =>
    obtain ⟨z, y, xs, r, ob, es, ep, e, c⟩ := x
    exact ⟨z, y, xs, Paired.mapP r fun p q z => ⟨z.1, ht _ _ z.2.1, z.2.2⟩, ob, es, ep, k _ _ (.inl rfl) e, c⟩
  | set S n => obtain ⟨ob, es, ep, t, e, c⟩ := x; exact ⟨ob, es, ep, t, k _ _ (.inl rfl) e, c⟩
  | ins C dx fs =>
    obtain ⟨d, z, ne, e, mA, ⟨od, es, ep, e2, c⟩, r⟩ := x
    exact ⟨ho _ d, z, ne, k _ _ (.inl rfl) e, mA, ⟨od, es, ep, k _ _ (.inr d) e2, c⟩, r⟩
  | own y => obtain ⟨ob, e⟩ := x; exact ⟨ob, k _ _ (.inl rfl) e⟩
  | xd fs => obtain ⟨mA, ⟨od, es, ep, e, c⟩, r⟩ := x; exact ⟨mA, ⟨od, es, ep, k _ _ (.inl rfl) e, c⟩, r⟩
  | rng lo hi => obtain ⟨t, u, v, e⟩ := x; exact ⟨t, u, v, k _ _ (.inl rfl) e⟩
  | frz ob u ih => obtain ⟨e, q⟩ := x; exact ⟨k _ _ (.inl rfl) e, ih q⟩
  | tbl ps =>
    have e : h.get? a = some { cls := .none, data := .fields ps } := x
    show h'.get? a = some { cls := .none, data := .fields ps }
    exact k a _ (.inl rfl) e
  | met f y =>
    have e : h.get? a = some (PySem.W.methodObj (.ref f) (.ref y)) := x
    show h'.get? a = some (PySem.W.methodObj (.ref f) (.ref y))
    exact k a _ (.inl rfl) e
  | ext φ => obtain ⟨p, ⟨o, e⟩, st⟩ := x; exact ⟨st _ _ p fun o q => k _ _ (.inl rfl) q, ⟨o, k _ _ (.inl rfl) e⟩, st⟩
theorem HOk.lt (x : HOk P w H h) (e : H a = some o) : a < h.objs.size := (x a o e).lt
theorem HOk.fresh (x : HOk P w H h) (e : h.objs.size ≤ a) : H a = none := by
  cases q : H a with
  | none => rfl
  | some u => exact absurd (Nat.lt_of_lt_of_le (x.lt q) e) (Nat.lt_irrefl _)
/-- every object of the heap is kept -/
theorem HOk.kept (x : HOk P w H h) (k : ∀ b u, h.get? b = some u → h'.get? b = some u) : HOk P w H h' := fun a o e =>
  (x a o e).stay (fun b u _ q => k b u q) (fun _ q => q) fun _ _ q => q
/-- a new object is laid and tracked -/
theorem HOk.laid (x : HOk P w H h) (k : ∀ b u, h.get? b = some u → h'.get? b = some u) (hp : h.objs.size ≤ a) (new : ObjOk P w (upd H a o) h' a o) : HOk P w (upd H a o) h' := fun b u e => by
  have hn := x.fresh hp
  by_cases hb : b = a
  · subst hb; rw [upd_same] at e; cases e; exact new
  · rw [upd_ne hb] at e
    exact (x b u e).stay (fun c v _ q => k c v q) (fun c q => by rw [upd_ne (ne_of_none q hn)]; exact q) fun c xs q => by rw [upd_ne (ne_of_none q hn)]; exact q
end

/-- what may be read as u: it is u, or a known u -/
def Rd (H : Hp) (a : Addr) (u : HO) : Prop := H a = some u ∨ ∃ o, H a = some (.frz o u)
theorem Rd.of {H : Hp} {a : Addr} {u : HO} (h : H a = some u) : Rd H a u := .inl h
theorem Rd.ok {P : Program} {w : World} {H : Hp} {h : Heap} {a : Addr} {u : HO} (r : Rd H a u) (x : HOk P w H h) : ObjOk P w H h a u := by
  rcases r with r | ⟨o, r⟩
  · exact x a u r
  · obtain ⟨_, q⟩ := x a _ r
    exact q
/-- what may be written -/
def Mut : Option HO → Prop
  | some (.lst _) => True
  | some (.dK _) => True
  | some (.dT _) => True
  | some (.set _ _) => True
  | some (.ins _ _ _) => True
  | some (.ext _) => True
  | _ => False
section
variable {P : Program} {w : World} {H : Hp} {h h' : Heap} {x e : Addr} {o' : HO}
/-- the object at e is changed: x itself, or the dict of the instance x -/
theorem HOk.write (ok : HOk P w H h) (mu : Mut (H x)) (he : e = x ∨ H e = some (.own x)) (k : ∀ b u, b ≠ e → h.get? b = some u → h'.get? b = some u) (heo : ∃ u, h'.get? e = some u)
    (new : ObjOk P w (upd H x o') h' x o') : HOk P w (upd H x o') h' := fun b u q => by
  have nown : ∀ c y, H c = some (.own y) → c ≠ x := fun c y r z => by subst z; rw [r] at mu; exact mu
  have ntup : ∀ c xs, H c = some (.tup xs) → c ≠ x := fun c xs r z => by subst z; rw [r] at mu; exact mu
  by_cases hb : b = x
  · subst hb; rw [upd_same] at q; cases q; exact new
  · rw [upd_ne hb] at q
    by_cases hbe : b = e
    · have q' : H b = some (.own x) := by
        rcases he with z | z
        · exact absurd (hbe.trans z) hb
        · rw [hbe]; exact z
      rw [q] at q'; cases q'
      obtain ⟨v, hv⟩ := heo
      exact ⟨v, by rw [hbe]; exact hv⟩
    · refine (ok b u q).stay (fun c v hc r => k c v ?_ r) (fun c r => by rw [upd_ne (nown c b r)]; exact r) fun c xs r => by rw [upd_ne (ntup c xs r)]; exact r
      rcases hc with rfl | hc
      · exact hbe
      · rintro rfl
        rcases he with z | z
        · exact nown c b hc z
        · rw [hc] at z; cases z; exact hb rfl
end

/-! ### kept unless tracked; of the frames at fs (the callers') the slots may change (an exception that passes writes there); of the records at ex (iterators) nothing is said -/
structure Un (fs ex : List Addr) (H H' : Hp) (h h' : Heap) : Prop where
  keep : ∀ b o, h.get? b = some o → H b = none → b ∉ fs → b ∉ ex → h'.get? b = some o
  slot : ∀ b o, h.get? b = some o → H b = none → b ∈ fs → b ∉ ex → ∃ sl, h'.get? b = some { o with slots := sl }
  free : ∀ b o, h.get? b = some o → H b = none → b ∉ ex → H' b = none
  there : ∀ b o, h.get? b = some o → b ∉ ex → ∃ o', h'.get? b = some o'
  tups : ∀ b xs, H b = some (.tup xs) → H' b = some (.tup xs)
  frzs : ∀ b o u, H b = some (.frz o u) → H' b = some (.frz o u)
  tbls : ∀ b ps, H b = some (.tbl ps) → ∃ more, H' b = some (.tbl (ps ++ more))
section
variable {fs fs' ex ex' : List Addr} {H H1 H2 : Hp} {h h1 h2 h' : Heap} {a x e : Addr} {o : HO}
theorem Un.any (u : Un fs ex H H1 h h1) {b : Addr} {ob : Obj} (q : h.get? b = some ob) (n : H b = none) (hx : b ∉ ex) : ∃ sl, h1.get? b = some { ob with slots := sl } := by
  by_cases hb : b ∈ fs
  · exact u.slot b ob q n hb hx
  · exact ⟨ob.slots, u.keep b ob q n hb hx⟩
theorem Un.trans (a : Un fs ex H H1 h h1) (b : Un fs ex H1 H2 h1 h2) : Un fs ex H H2 h h2 where
  keep := fun c ob q n hc hx => b.keep c ob (a.keep c ob q n hc hx) (a.free c ob q n hx) hc hx
  slot := fun c ob q n hc hx => by
    obtain ⟨sl, e1⟩ := a.slot c ob q n hc hx
    obtain ⟨sl', e2⟩ := b.slot c _ e1 (a.free c ob q n hx) hc hx
    exact ⟨sl', e2⟩
  free := fun c ob q n hx => by
    obtain ⟨o', e1⟩ := a.there c ob q hx
    exact b.free c o' e1 (a.free c ob q n hx) hx
  there := fun c ob q hx => by
    obtain ⟨o', e1⟩ := a.there c ob q hx
    exact b.there c o' e1 hx
  tups := fun c xs q => b.tups c xs (a.tups c xs q)
  frzs := fun c ob xs q => b.frzs c ob xs (a.frzs c ob xs q)
  tbls := fun c ps q => by
    obtain ⟨m1, e1⟩ := a.tbls c ps q
    obtain ⟨m2, e2⟩ := b.tbls c _ e1
    exact ⟨m1 ++ m2, by rw [e2, Array.append_assoc]⟩
theorem Un.kept (k : ∀ b u, h.get? b = some u → h'.get? b = some u) : Un fs ex H H h h' :=
  ⟨fun b ob q _ _ _ => k b ob q, fun b ob q _ _ _ => ⟨ob.slots, k b ob q⟩, fun _ _ _ n _ => n, fun b ob q _ => ⟨ob, k b ob q⟩, fun _ _ q => q, fun _ _ _ q => q, fun _ ps q => ⟨#[], by rw [q]; simp⟩⟩
theorem Un.refl : Un fs ex H H h h := Un.kept fun _ _ q => q
theorem Un.laid (k : ∀ b u, h.get? b = some u → h'.get? b = some u) (hp : h.objs.size ≤ a) (hn : H a = none) : Un fs ex H (upd H a o) h h' where
  keep := fun b u q _ _ _ => k b u q
  slot := fun b u q _ _ _ => ⟨u.slots, k b u q⟩
  free := fun b u q n _ => by rw [upd_ne (Nat.ne_of_lt (Nat.lt_of_lt_of_le (Heap.lt_size q) hp))]; exact n
  there := fun b u q _ => ⟨u, k b u q⟩
  tups := fun b xs q => by rw [upd_ne (ne_of_none q hn)]; exact q
  frzs := fun b u xs q => by rw [upd_ne (ne_of_none q hn)]; exact q
  tbls := fun b ps q => ⟨#[], by rw [upd_ne (ne_of_none q hn), q]; simp⟩
theorem Un.write (mu : Mut (H x)) (he : e = x ∨ H e = some (.own x)) (k : ∀ b u, b ≠ e → h.get? b = some u → h'.get? b = some u) (heo : ∃ u, h'.get? e = some u) : Un fs ex H (upd H x o) h h' := by
  have hx : ∀ b, H b = none → b ≠ x := fun b n z => by subst z; rw [n] at mu; exact mu
  have hb : ∀ b, H b = none → b ≠ e := fun b n z => by
    subst z
    rcases he with r | r
    · exact hx b n r
    · rw [n] at r; cases r
  have hm : ∀ b u, H b = some u → ¬ Mut (some u) → b ≠ x := fun b u q nm z => by subst z; rw [q] at mu; exact nm mu
  refine ⟨fun b u q n _ _ => k b u (hb b n) q, fun b u q n _ _ => ⟨u.slots, k b u (hb b n) q⟩, fun b u q n _ => by rw [upd_ne (hx b n)]; exact n, fun b u q _ => ?_,
    fun b xs q => by rw [upd_ne (hm b _ q fun z => z)]; exact q, fun b u xs q => by rw [upd_ne (hm b _ q fun z => z)]; exact q, fun b ps q => ⟨#[], by rw [upd_ne (hm b _ q fun z => z), q]; simp⟩⟩
  by_cases hbe : b = e
  · subst hbe; exact heo
  · exact ⟨u, k b u hbe q⟩
theorem Un.mono (u : Un fs ex H H1 h h1) (hs : ∀ b ∈ fs, b ∈ fs') (hx : ∀ b ∈ ex, b ∈ ex') : Un fs' ex' H H1 h h1 :=
  ⟨fun b ob q n hb he => u.keep b ob q n (fun z => hb (hs b z)) fun z => he (hx b z), fun _ _ q n _ he => u.any q n fun z => he (hx _ z), fun b ob q n he => u.free b ob q n fun z => he (hx b z), fun b ob q he => u.there b ob q fun z => he (hx b z), u.tups, u.frzs, u.tbls⟩
end

/-! ### the heap without what is tracked -/
def trk (h : Heap) (H : Hp) : List Addr := (List.range h.objs.size).filter fun a => (H a).isSome
def hidT (h : Heap) (H : Hp) : Heap := PySem.W.hideAll h (trk h H)
theorem hidT_size (h : Heap) (H : Hp) : (hidT h H).objs.size = h.objs.size := PySem.W.hideAll_size _ _
theorem hidT_get {h : Heap} {H : Hp} {b : Addr} {o : Obj} (e : h.get? b = some o) (n : H b = none) : (hidT h H).get? b = some o :=
  PySem.W.hideAll_get _ e fun hm => by
    have q : (H b).isSome = true := (List.mem_filter.mp hm).2
    rw [n] at q; simp at q
theorem of_hidT {h : Heap} {H : Hp} {b : Addr} {o : Obj} (e : (hidT h H).get? b = some o) : h.get? b = some o ∧ H b = none := by
  have e' : h.get? b = some o := PySem.W.of_hideAll (trk h H) e
  refine ⟨e', ?_⟩
  cases q : H b with
  | none => rfl
  | some x =>
    have hm : b ∈ trk h H := List.mem_filter.mpr ⟨List.mem_range.mpr (Heap.lt_size e'), by simp [q]⟩
    have z : (hidT h H).get? b = none := PySem.W.hideAll_none (trk h H) hm
    rw [z] at e; cases e

/-! ### OpenK's ledger, filled with every new object but one -/
def allNews (g h : Heap) (L : Addr) : List (Addr × Obj) := (List.range h.objs.size).filterMap fun a => if a = L ∨ (g.get? a).isSome = true then none else (h.get? a).map fun o => (a, o)
theorem mem_allNews {g h : Heap} {L a : Addr} {o : Obj} (h1 : a ≠ L) (h2 : g.get? a = none) (h3 : h.get? a = some o) : (a, o) ∈ allNews g h L :=
  List.mem_filterMap.mpr ⟨a, List.mem_range.mpr (Heap.lt_size h3), by simp [h1, h2, h3]⟩
theorem of_mem_allNews {g h : Heap} {L : Addr} {p : Addr × Obj} (hp : p ∈ allNews g h L) : p.1 ≠ L ∧ g.get? p.1 = none ∧ h.get? p.1 = some p.2 := by
  obtain ⟨b, _, e⟩ := List.mem_filterMap.mp hp
  split at e
  · cases e
  · rename_i hn
    cases q : h.get? b with
    | none => rw [q] at e; simp at e
    | some u =>
      rw [q] at e
      simp only [Option.map_some, Option.some.injEq] at e
      subst e
      refine ⟨fun z => hn (.inl z), ?_, q⟩
      show g.get? b = none
      cases r : g.get? b with
      | none => rfl
      | some v => exact (hn (.inr (by simp [r]))).elim
def rest (g h : Heap) (L d : Addr) : List (Addr × Obj) := (allNews g h L).filter fun p => decide (p.1 ≠ d)
theorem rest_ne {g h : Heap} {L d : Addr} : ∀ p ∈ rest g h L d, p.1 ≠ d := fun p hp => of_decide_eq_true (List.mem_filter.mp hp).2
theorem mem_rest {g h : Heap} {L d a : Addr} {o : Obj} (h1 : a ≠ L) (h2 : g.get? a = none) (h3 : h.get? a = some o) (h4 : a ≠ d) : (a, o) ∈ rest g h L d :=
  List.mem_filter.mpr ⟨mem_allNews h1 h2 h3, decide_eq_true h4⟩
theorem news_all {g h : Heap} {L : Addr} : News g L h (allNews g h L) := fun p hp => let ⟨a, b, c⟩ := of_mem_allNews hp; ⟨c, a, b⟩
theorem news_at {g h : Heap} {L d : Addr} {o : Obj} (h1 : d ≠ L) (h2 : g.get? d = none) (h3 : h.get? d = some o) : News g L h ((d, o) :: rest g h L d) := fun p hp => by
  rcases List.mem_cons.mp hp with rfl | hp
  · exact ⟨h3, h1, h2⟩
  · exact news_all p (List.mem_filter.mp hp).1
/-- behind a rule that changed d alone: all else but the frame is kept -/
theorem kept_of_news {g h h' : Heap} {L d : Addr} {m : Str → Option Value} (k : ∀ b o, g.get? b = some o → h.get? b = some o) (F : Fr g L h' m) (N : News g L h' (rest g h L d)) :
    ∀ b o, b ≠ L → b ≠ d → h.get? b = some o → h'.get? b = some o := fun b o h1 h2 e => by
  cases q : g.get? b with
  | some u =>
    have := k b u q
    rw [e] at this; cases this
    exact F.keep b _ q
  | none => exact (N (b, o) (mem_rest h1 q e h2)).1
end L2

namespace L2
open PySem PySem.Spec PyProof.Rows

/-- the module's facts, over the base: the heap at the law's entry without what is tracked there -/
structure Mod (K : PySem.W.Frag) (mg : Str → Option Value) (base : Heap) : Prop where
  kin : K.In base
  glob : base.Ns mainGlobals mg
  blt : ∃ mb, base.Ns builtinsNs mb ∧ ∀ x : Str, x ≠ "__name__" → mb x = bootBuiltins x
  nolimit : base.NoLimit

/-- the context: a def's body (or a comprehension's block) running. base: fixed through the whole law; s₀, H₀: the entry; outer: the frames whose slots others may change (a def's callers); stack: all frames that run;
   ex: iterators that were made ahead of the entry and are walked here (a comprehension's); fn: the names whose cells were made at the entry (a def: all; a comprehension's block: its own); calm: not within an except suite; pn: pins that every state bears; xe: what is wanted of an exception that leaves the code -/
structure Cx where
  prog : Program
  w : World
  K : PySem.W.Frag
  mg : Str → Option Value
  base : Heap
  A : Around
  N : List Str
  s₀ : Shared
  H₀ : Hp
  env : Env
  outer : List Env
  stack : List Env
  ex : List Addr
  fn : Str → Bool
  calm : Bool
  pn : List (Addr × Obj)
  xe : Value → Shared → Prop
/-- the callers' frames -/
def frs (l : List Env) : List Addr := l.filterMap (·.frame)
abbrev Cx.fs (X : Cx) : List Addr := frs X.outer

def Vis (sc : Scope) (x : Str) : Prop := sc.names.lookup x = some .local ∨ sc.names.lookup x = some .cell ∨ sc.names.lookup x = some .free
def Loc (sc : Scope) (x : Str) : Prop := sc.names.lookup x = some .local ∨ sc.names.lookup x = some .cell
def Look (env : Env) (h : Heap) (m : Str → Option Value) (x : Str) (u : Value) : Prop :=
  (env.kindOf x = some .local ∧ m x = some u) ∨ ((env.kindOf x = some .cell ∨ env.kindOf x = some .free) ∧ ∃ c, env.cells.lookup x = some c ∧ h.IsCell c (some u))

structure Cx.Ok (X : Cx) : Prop where
  mod : Mod X.K X.mg X.base
  kind : X.env.scope.kind = .function
  glob : X.env.globals = mainGlobals
  blt : X.env.builtins = builtinsNs
  above : X.s₀.heap.objs.size ≤ X.env.locals
  inj : ∀ x y c, X.env.cells.lookup x = some c → X.env.cells.lookup y = some c → x = y
  has : ∀ x, (X.env.kindOf x = some .cell ∨ X.env.kindOf x = some .free) → ∃ c, X.env.cells.lookup x = some c
  cab : ∀ x c, X.fn x = true → X.env.cells.lookup x = some c → X.s₀.heap.objs.size ≤ c
  hd : X.calm = true → X.A.handled = none
  frames : X.A.frames = some X.stack
  stk : X.stack = X.outer ∨ (X.stack = X.env :: X.outer ∧ X.env.frame = some X.env.locals)
  exf : ∀ b ∈ X.ex, b ≠ X.env.locals ∧ ∀ x c, X.env.cells.lookup x = some c → c ≠ b
  bs : ∀ b o, X.base.get? b = some o → X.s₀.heap.get? b = some o ∧ X.H₀ b = none
  bsz : X.base.objs.size ≤ X.s₀.heap.objs.size
  noex : ∀ b o, X.base.get? b = some o → b ∉ X.ex
  exfs : ∀ b ∈ X.ex, b ∉ X.fs
  funs : X.s₀.heap.FunFrames X.base X.outer
  frf : ∀ b ∈ X.fs, X.H₀ b = none

structure Inv (X : Cx) (pins : List (Addr × Obj)) (σ : List (Option V)) (H : Hp) (s : Shared) : Prop where
  ok : X.Ok
  os : s.os = X.s₀.os
  bare : AllBare s.gens
  base : Un X.fs X.ex X.H₀ H X.s₀.heap s.heap
  loc : ∃ m, s.heap.Ns X.env.locals m ∧ ∀ (i : Nat) (x : Str) (v : V), X.N[i]? = some x → σ[i]? = some (some v) → Vis X.env.scope x → ∃ u, RelV v u ∧ Look X.env s.heap m x u
  cell : ∀ x c, X.env.cells.lookup x = some c → ∃ v, s.heap.IsCell c v
  free : H X.env.locals = none
  freeC : ∀ x c, X.env.cells.lookup x = some c → H c = none
  pin : ∀ p ∈ X.pn ++ pins, s.heap.get? p.1 = some p.2 ∧ H p.1 = none ∧ p.1 ≠ X.env.locals ∧ p.1 ∉ X.fs ∧ ∀ v, p.2.data ≠ .cell v
  hok : HOk X.prog X.w H s.heap
  len : σ.length = X.N.length

section
variable {X : Cx} {pins : List (Addr × Obj)} {σ : List (Option V)} {H H' : Hp} {s : Shared} {h' : Heap}

theorem Cx.Ok.nofr (ok : X.Ok) {b : Addr} {o : Obj} (e : X.base.get? b = some o) : b ∉ X.fs := fun hb => by
  have := (ok.funs.mem hb).1
  rw [e] at this; cases this
theorem Inv.bs (I : Inv X pins σ H s) : ∀ b o, X.base.get? b = some o → s.heap.get? b = some o ∧ H b = none := fun b o e =>
  ⟨I.base.keep b o (I.ok.bs b o e).1 (I.ok.bs b o e).2 (I.ok.nofr e) (I.ok.noex b o e), I.base.free b o (I.ok.bs b o e).1 (I.ok.bs b o e).2 (I.ok.noex b o e)⟩
theorem Inv.bk (I : Inv X pins σ H s) : ∀ b o, X.base.get? b = some o → s.heap.get? b = some o := fun b o e => (I.bs b o e).1
theorem Inv.mod (I : Inv X pins σ H s) : Mod X.K X.mg X.base := I.ok.mod
theorem Inv.kIn (I : Inv X pins σ H s) : X.K.In s.heap := I.ok.mod.kin.keeps I.bk
theorem Inv.nolimit (I : Inv X pins σ H s) : s.heap.NoLimit := I.ok.mod.nolimit.keeps I.bk
/-- the frame over the base: for OpenK's rules (K.In X.base is I.mod.kin) -/
theorem Inv.fr (I : Inv X pins σ H s) : ∃ m, Fr X.base X.env.locals s.heap m :=
  let ⟨m, hn, _⟩ := I.loc
  ⟨m, hn, I.bk, Nat.le_trans I.ok.bsz I.ok.above⟩
theorem Inv.lt (I : Inv X pins σ H s) : X.env.locals < s.heap.objs.size := let ⟨_, hn, _⟩ := I.loc; hn.lt
theorem Inv.sz (I : Inv X pins σ H s) : X.s₀.heap.objs.size ≤ s.heap.objs.size := Nat.le_trans I.ok.above (Nat.le_of_lt I.lt)
theorem Inv.nofs (I : Inv X pins σ H s) {a : Addr} (h : s.heap.objs.size ≤ a) : a ∉ X.fs := fun hb => by
  obtain ⟨_, o, ho, _⟩ := I.ok.funs.mem hb
  exact absurd (Nat.lt_of_lt_of_le (Heap.lt_size ho) (Nat.le_trans I.sz h)) (Nat.lt_irrefl _)
theorem Inv.cne (I : Inv X pins σ H s) : ∀ x c, X.env.cells.lookup x = some c → c ≠ X.env.locals := fun x c e z => by
  obtain ⟨v, o, ho, hd⟩ := I.cell x c e
  obtain ⟨m, ⟨o', es, ep, ho', hd', _⟩, _⟩ := I.loc
  rw [z, ho'] at ho; cases ho; rw [hd'] at hd; cases hd
theorem Inv.funs (I : Inv X pins σ H s) : s.heap.FunFrames X.base X.outer := by
  have all : ∀ (l : List Env), (∀ b ∈ frs l, b ∈ X.fs) → X.s₀.heap.FunFrames X.base l → s.heap.FunFrames X.base l := by
    intro l
    induction l with
    | nil => intro _ _; trivial
    | cons env r ih =>
      intro hs hl
      obtain ⟨hk, ⟨L, o, hf, hn, ho, hd⟩, hr⟩ := hl
      have hL : L ∈ X.fs := hs L (by unfold frs; rw [List.filterMap_cons, hf]; exact List.mem_cons_self)
      obtain ⟨sl, e⟩ := I.base.slot L o ho (I.ok.frf L hL) hL fun z => I.ok.exfs L z hL
      exact ⟨hk, ⟨L, _, hf, hn, e, hd⟩, ih (fun b hb => hs b (by unfold frs; rw [List.filterMap_cons, hf]; exact List.mem_cons_of_mem _ hb)) hr⟩
  exact all X.outer (fun _ hb => hb) I.ok.funs

/-- the frames that run, for a call -/
theorem Inv.stack (I : Inv X pins σ H s) : s.heap.FunFrames X.base X.stack := by
  rcases I.ok.stk with e | ⟨e, hf⟩
  · rw [e]; exact I.funs
  · rw [e]
    obtain ⟨m, hn, _⟩ := I.loc
    refine .cons (by rw [I.ok.kind]; decide) hf hn ?_ I.funs
    exact Heap.get?_none_of_le (Nat.le_trans I.ok.bsz I.ok.above)
theorem Inv.stkSub (I : Inv X pins σ H s) : ∀ b ∈ frs X.stack, b ∈ X.env.locals :: X.fs := fun b hb => by
  rcases I.ok.stk with e | ⟨e, hf⟩
  · rw [e] at hb; exact List.mem_cons_of_mem _ hb
  · rw [e] at hb
    unfold frs at hb
    rw [List.filterMap_cons, hf] at hb
    exact hb
theorem Inv.stkFree (I : Inv X pins σ H s) : ∀ b ∈ frs X.stack, H b = none := fun b hb => by
  rcases List.mem_cons.mp (I.stkSub b hb) with e | hb
  · rw [e]; exact I.free
  · obtain ⟨_, o, ho, _⟩ := I.ok.funs.mem hb
    exact I.base.free b o ho (I.ok.frf b hb) fun z => I.ok.exfs b z hb

/-- THE STEP: the untracked objects but the frame and the records at ch are kept (the callers' frames up to slots), the frame's map is kept, the new abstract heap is held -/
theorem Inv.step {g' : Array GenState} {t' : Nat} {d' : Drawn} {ch : List Addr} (I : Inv X pins σ H s)
    (hch : ∀ b ∈ ch, (b ∈ X.ex ∨ X.s₀.heap.objs.size ≤ b) ∧ b ≠ X.env.locals ∧ (∀ x c, X.env.cells.lookup x = some c → c ≠ b) ∧ ∀ p ∈ X.pn ++ pins, p.1 ≠ b)
    (keep : ∀ b o, b ≠ X.env.locals → b ∉ X.fs → b ∉ ch → s.heap.get? b = some o → H b = none → h'.get? b = some o)
    (slot : ∀ b o, b ≠ X.env.locals → b ∈ X.fs → b ∉ ch → s.heap.get? b = some o → H b = none → ∃ sl, h'.get? b = some { o with slots := sl }) (free : ∀ b o, b ∉ ch → s.heap.get? b = some o → H b = none → H' b = none)
    (there : ∀ b o, b ∉ ch → s.heap.get? b = some o → ∃ o', h'.get? b = some o')
    (tups : ∀ b xs, H b = some (.tup xs) → H' b = some (.tup xs)) (frzs : ∀ b o u, H b = some (.frz o u) → H' b = some (.frz o u)) (tbls : ∀ b ps, H b = some (.tbl ps) → ∃ more, H' b = some (.tbl (ps ++ more)))
    (ns : ∀ m, s.heap.Ns X.env.locals m → h'.Ns X.env.locals m) (hok : HOk X.prog X.w H' h') (hg : AllBare g') :
    Inv X pins σ H' { s with heap := h', gens := g', drawn := d', toks := t' } := by
  have neL : ∀ b o, X.s₀.heap.get? b = some o → b ≠ X.env.locals := fun b o e => Nat.ne_of_lt (Nat.lt_of_lt_of_le (Heap.lt_size e) I.ok.above)
  have neC : ∀ b o, X.s₀.heap.get? b = some o → b ∉ X.ex → b ∉ ch := fun b o e hx hb => by
    rcases (hch b hb).1 with z | z
    · exact hx z
    · exact absurd (Nat.lt_of_lt_of_le (Heap.lt_size e) z) (Nat.lt_irrefl _)
  have cellK : ∀ x c, X.env.cells.lookup x = some c → ∀ v, s.heap.IsCell c v → h'.IsCell c v := fun x c e v ⟨o, ho, hd⟩ => by
    have nch : c ∉ ch := fun z => (hch c z).2.2.1 x c e rfl
    by_cases hc : c ∈ X.fs
    · obtain ⟨sl, q⟩ := slot c o (I.cne x c e) hc nch ho (I.freeC x c e)
      exact ⟨_, q, hd⟩
    · exact ⟨o, keep c o (I.cne x c e) hc nch ho (I.freeC x c e), hd⟩
  refine ⟨I.ok, I.os, hg, ⟨fun b o e n hb hx => ?_, fun b o e n hb hx => ?_, fun b o e n hx => ?_, fun b o e hx => ?_, fun b xs e => tups b xs (I.base.tups b xs e), fun b o xs e => frzs b o xs (I.base.frzs b o xs e), fun b ps e => ?_⟩, ?_, fun x c e => ?_, ?_, fun x c e => ?_, fun p hp => ?_, hok, I.len⟩
  · exact keep b o (neL b o e) hb (neC b o e hx) (I.base.keep b o e n hb hx) (I.base.free b o e n hx)
  · obtain ⟨sl, e1⟩ := I.base.slot b o e n hb hx
    obtain ⟨sl', e2⟩ := slot b _ (neL b o e) hb (neC b o e hx) e1 (I.base.free b o e n hx)
    exact ⟨sl', e2⟩
  · obtain ⟨o', e1⟩ := I.base.there b o e hx
    exact free b o' (neC b o e hx) e1 (I.base.free b o e n hx)
  · obtain ⟨o', e1⟩ := I.base.there b o e hx
    exact there b o' (neC b o e hx) e1
  · obtain ⟨m1, e1⟩ := I.base.tbls b ps e
    obtain ⟨m2, e2⟩ := tbls b _ e1
    exact ⟨m1 ++ m2, by rw [e2, Array.append_assoc]⟩
  · obtain ⟨m, hn, hl⟩ := I.loc
    refine ⟨m, ns m hn, fun i x v e1 e2 e3 => ?_⟩
    obtain ⟨u, r, l⟩ := hl i x v e1 e2 e3
    refine ⟨u, r, ?_⟩
    rcases l with l | ⟨k, c, e, z⟩
    · exact .inl l
    · exact .inr ⟨k, c, e, cellK x c e _ z⟩
  · obtain ⟨v, z⟩ := I.cell x c e
    exact ⟨v, cellK x c e v z⟩
  · obtain ⟨m, ⟨o, _, _, ho, _⟩, _⟩ := I.loc
    exact free _ o (fun z => (hch _ z).2.1 rfl) ho I.free
  · obtain ⟨v, o, ho, hd⟩ := I.cell x c e
    exact free c o (fun z => (hch c z).2.2.1 x c e rfl) ho (I.freeC x c e)
  · obtain ⟨e, n, ne, nf, d⟩ := I.pin p hp
    have nch : p.1 ∉ ch := fun z => (hch p.1 z).2.2.2 p hp rfl
    exact ⟨keep p.1 p.2 ne nf nch e n, free p.1 p.2 nch e n, ne, nf, d⟩
/-- .. where the frame's own object is kept too -/
theorem Inv.un {t' : Nat} (I : Inv X pins σ H s) (u : Un X.fs [] H H' s.heap h') (hok : HOk X.prog X.w H' h') : Inv X pins σ H' { s with heap := h', toks := t' } := by
  obtain ⟨m, ⟨o, es, ep, ho, r⟩, _⟩ := id I.loc
  obtain ⟨sl, hL⟩ := u.any ho I.free (by simp)
  exact I.step (g' := s.gens) (d' := s.drawn) (ch := []) (fun _ z => nomatch z) (fun b o _ hb _ e n => u.keep b o e n hb (by simp)) (fun b o _ hb _ e n => u.slot b o e n hb (by simp)) (fun b o _ e n => u.free b o e n (by simp)) (fun b o _ e => u.there b o e (by simp)) u.tups u.frzs u.tbls (fun m' hm => by
    obtain ⟨o', es', ep', ho', r'⟩ := hm
    rw [ho] at ho'; cases ho'
    exact ⟨_, es', ep', hL, r'⟩) hok I.bare
/-- behind a call (or a comprehension's block): the slots of this frame may have changed too, the records at ch may have turned -/
theorem Inv.call {g' : Array GenState} {t' : Nat} {d' : Drawn} {ch : List Addr} (I : Inv X pins σ H s) (u : Un (frs X.stack) ch H H' s.heap h') (hok : HOk X.prog X.w H' h') (hg : AllBare g')
    (hch : ∀ b ∈ ch, (b ∈ X.ex ∨ X.s₀.heap.objs.size ≤ b) ∧ b ≠ X.env.locals ∧ (∀ x c, X.env.cells.lookup x = some c → c ≠ b) ∧ ∀ p ∈ X.pn ++ pins, p.1 ≠ b) :
    Inv X pins σ H' { s with heap := h', gens := g', drawn := d', toks := t' } := by
  obtain ⟨m, ⟨o, es, ep, ho, r⟩, _⟩ := id I.loc
  obtain ⟨sl, hL⟩ := u.any ho I.free fun z => (hch _ z).2.1 rfl
  exact I.step (ch := ch) hch (fun b o hL hb hc e n => u.keep b o e n (fun z => (List.mem_cons.mp (I.stkSub b z)).elim hL hb) hc) (fun b o _ _ hc e n => u.any e n hc) (fun b o hc e n => u.free b o e n hc) (fun b o hc e => u.there b o e hc) u.tups u.frzs u.tbls (fun m' hm => by
    obtain ⟨o', es', ep', ho', r'⟩ := hm
    rw [ho] at ho'; cases ho'
    exact ⟨_, es', ep', hL, r'⟩) hok hg
/-- an untracked record of ours (an iterator) has turned -/
theorem Inv.turned {t' : Nat} {it : Addr} (I : Inv X pins σ H s) (k : ∀ b o, b ≠ it → s.heap.get? b = some o → h'.get? b = some o) (hn : H it = none) (hL : it ≠ X.env.locals)
    (h1 : it ∈ X.ex ∨ X.s₀.heap.objs.size ≤ it) (h2 : ∀ x c, X.env.cells.lookup x = some c → c ≠ it) (h3 : ∀ p ∈ X.pn ++ pins, p.1 ≠ it) : Inv X pins σ H { s with heap := h', toks := t' } := by
  have nit : ∀ b u, H b = some u → b ≠ it := fun b u e z => by rw [z, hn] at e; cases e
  refine I.step (g' := s.gens) (d' := s.drawn) (ch := [it]) (fun b hb => ?_) (fun b o _ _ hc e _ => k b o (fun z => hc (by simp [z])) e) (fun b o _ _ hc e _ => ⟨o.slots, k b o (fun z => hc (by simp [z])) e⟩) (fun _ _ _ _ n => n)
    (fun b o hc e => ⟨o, k b o (fun z => hc (by simp [z])) e⟩) (fun _ _ e => e) (fun _ _ _ e => e) (fun b ps e => ⟨#[], by rw [e]; simp⟩) (fun m hm => ?_) (fun b u e => ?_) I.bare
  · have e : b = it := by simpa using hb
    subst e
    exact ⟨h1, hL, h2, h3⟩
  · obtain ⟨o, es, ep, ho, r⟩ := hm
    exact ⟨o, es, ep, k _ o (Ne.symm hL) ho, r⟩
  · refine (I.hok b u e).stay (fun c v hc q => k c v ?_ q) (fun _ q => q) fun _ _ q => q
    rcases hc with z | z
    · rw [z]; exact nit b u e
    · exact nit c _ z
theorem Inv.tok (I : Inv X pins σ H s) (t : Nat) : Inv X pins σ H { s with toks := t } := I.un (h' := s.heap) (t' := t) Un.refl I.hok
/-- all objects kept -/
theorem Inv.kept {t' : Nat} (I : Inv X pins σ H s) (k : ∀ b u, s.heap.get? b = some u → h'.get? b = some u) : Inv X pins σ H { s with heap := h', toks := t' } := I.un (Un.kept k) (I.hok.kept k)
/-- a new object laid and tracked -/
theorem Inv.laid {a : Addr} {o : HO} {t' : Nat} (I : Inv X pins σ H s) (k : ∀ b u, s.heap.get? b = some u → h'.get? b = some u) (hp : s.heap.objs.size ≤ a) (new : ObjOk X.prog X.w (upd H a o) h' a o) :
    Inv X pins σ (upd H a o) { s with heap := h', toks := t' } := I.un (Un.laid k hp (I.hok.fresh hp)) (I.hok.laid k hp new)
/-- an object written -/
theorem Inv.write {x e : Addr} {o : HO} {t' : Nat} (I : Inv X pins σ H s) (mu : Mut (H x)) (he : e = x ∨ H e = some (.own x)) (k : ∀ b u, b ≠ e → s.heap.get? b = some u → h'.get? b = some u) (heo : ∃ u, h'.get? e = some u)
    (new : ObjOk X.prog X.w (upd H x o) h' x o) : Inv X pins σ (upd H x o) { s with heap := h', toks := t' } := I.un (Un.write mu he k heo) (I.hok.write mu he k heo new)
/-- forgetting slots, pins -/
theorem Inv.weak {σ' : List (Option V)} (I : Inv X pins σ H s) (hl : σ'.length = σ.length) (w : ∀ (i : Nat) v, σ'[i]? = some (some v) → σ[i]? = some (some v)) : Inv X pins σ' H s :=
  ⟨I.ok, I.os, I.bare, I.base, let ⟨m, hn, hl'⟩ := I.loc; ⟨m, hn, fun i x v e1 e2 e3 => hl' i x v e1 (w i v e2) e3⟩, I.cell, I.free, I.freeC, I.pin, I.hok, hl.trans I.len⟩
theorem Inv.pins_of {pins' : List (Addr × Obj)} (I : Inv X pins σ H s) (h : ∀ p ∈ pins', s.heap.get? p.1 = some p.2 ∧ H p.1 = none ∧ p.1 ≠ X.env.locals ∧ p.1 ∉ X.fs ∧ ∀ v, p.2.data ≠ .cell v) : Inv X pins' σ H s :=
  ⟨I.ok, I.os, I.bare, I.base, I.loc, I.cell, I.free, I.freeC, fun p hp => (List.mem_append.mp hp).elim (fun z => I.pin p (List.mem_append_left _ z)) (h p), I.hok, I.len⟩

theorem nodup_ix {N : List Str} (hN : N.Nodup) {i j : Nat} {x : Str} (a : N[i]? = some x) (b : N[j]? = some x) : i = j := by
  obtain ⟨h1, e1⟩ := List.getElem?_eq_some_iff.mp a
  obtain ⟨h2, e2⟩ := List.getElem?_eq_some_iff.mp b
  exact (List.getElem_inj hN).mp (e1.trans e2.symm)

/-- a name is stored; what changed -/
theorem store_ok2 {M : Model} {A : Around} {E : Value → Shared → Prop} {i : Nat} {x : Str} {v : V} {u : Value} {Q : Unit → Shared → Prop} (I : Inv X pins σ H s) (hN : X.N.Nodup) (hi : X.N[i]? = some x) (hx : Loc X.env.scope x) (r : RelV v u)
    (h : ∀ s', Inv X pins (σ.set i (some v)) H s' → (∃ a, Heap.SameBut a s.heap s'.heap ∧ (a = X.env.locals ∨ X.env.cells.lookup x = some a)) → Q () s') (hf : X.fn x = true ∨ X.env.scope.names.lookup x = some .local := by first | exact .inl rfl | exact .inr rfl | assumption) : wpAny M A (storeName X.env x u) Q E s := by
  obtain ⟨m, hn, hl⟩ := id I.loc
  have hcls : (X.env.scope.kind == .class || (X.env.scope.kind == .module && X.env.locals != X.env.globals)) = false := by rw [I.ok.kind]; rfl
  have hiσ : i < σ.length := by rw [I.len]; exact (List.getElem?_eq_some_iff.mp hi).1
  have cne := I.cne
  have tracked : ∀ {a : Addr} {h' : Heap}, (∃ o, s.heap.get? a = some o ∧ H a = none) → Heap.SameBut a s.heap h' → HOk X.prog X.w H h' := fun {a h'} ha hs b ob e => by
    obtain ⟨_, _, hfree⟩ := ha
    refine (I.hok b ob e).stay (fun c w' hc q => (hs.2 c ?_).trans q) (fun _ q => q) fun _ _ q => q
    rintro rfl
    rcases hc with rfl | hc
    · rw [hfree] at e; cases e
    · rw [hfree] at hc; cases hc
  rcases hx with hk | hk
  · refine wpAny_storeName_local hk hn (fun h' hn' hs => ?_) hcls
    obtain ⟨oL, _, _, hoL, _⟩ := id hn
    refine h _ ⟨I.ok, I.os, I.bare, ⟨fun b o e n hb hx => ?_, fun b o e n hb hx => ?_, I.base.free, fun b o e hx => ?_, I.base.tups, I.base.frzs, I.base.tbls⟩, ⟨_, hn', fun j y v' e1 e2 e3 => ?_⟩, fun y c e => ?_, I.free, I.freeC, fun p hp => ?_, tracked ⟨oL, hoL, I.free⟩ hs, by simpa using I.len⟩ ⟨_, hs, .inl rfl⟩
    · exact (hs.2 b (Nat.ne_of_lt (Nat.lt_of_lt_of_le (Heap.lt_size e) I.ok.above))).trans (I.base.keep b o e n hb hx)
    · obtain ⟨sl, e1⟩ := I.base.slot b o e n hb hx
      exact ⟨sl, (hs.2 b (Nat.ne_of_lt (Nat.lt_of_lt_of_le (Heap.lt_size e) I.ok.above))).trans e1⟩
    · obtain ⟨o', e1⟩ := I.base.there b o e hx
      exact ⟨o', (hs.2 b (Nat.ne_of_lt (Nat.lt_of_lt_of_le (Heap.lt_size e) I.ok.above))).trans e1⟩
    · by_cases hj : j = i
      · subst hj
        rw [hi] at e1; cases e1
        rw [List.getElem?_set_self hiσ] at e2
        cases e2
        exact ⟨u, r, .inl ⟨hk, by simp⟩⟩
      · rw [List.getElem?_set_ne (Ne.symm hj)] at e2
        obtain ⟨u', r', q⟩ := hl j y v' e1 e2 e3
        refine ⟨u', r', ?_⟩
        rcases q with ⟨k, e⟩ | ⟨k, c, e, z⟩
        · refine .inl ⟨k, ?_⟩
          have : y ≠ x := fun e => hj (nodup_ix hN e1 (e ▸ hi))
          simp [this, e]
        · exact .inr ⟨k, c, e, z.sameBut hs (cne y c e)⟩
    · obtain ⟨w', z⟩ := I.cell y c e
      exact ⟨w', z.sameBut hs (cne y c e)⟩
    · obtain ⟨e, n, ne, nf, d⟩ := I.pin p hp
      exact ⟨(hs.2 p.1 ne).trans e, n, ne, nf, d⟩
  · have hfn : X.fn x = true := by
      rcases hf with z | z
      · exact z
      · rw [z] at hk; cases hk
    obtain ⟨c, hc⟩ := I.ok.has x (.inl hk)
    obtain ⟨w', z⟩ := I.cell x c hc
    refine wpAny_storeName_cell I.ok.kind hk hc z (fun h' hc' hs => ?_)
    obtain ⟨oc, hoc, hocd⟩ := id z
    refine h { s with heap := h' } ⟨I.ok, I.os, I.bare, ⟨fun b o e n hb hx => ?_, fun b o e n hb hx => ?_, I.base.free, fun b o e hx => ?_, I.base.tups, I.base.frzs, I.base.tbls⟩, ⟨m, hn.sameBut hs (Ne.symm (cne x c hc)), fun j y v' e1 e2 e3 => ?_⟩, fun y c' e => ?_, I.free, I.freeC, fun p hp => ?_, tracked ⟨oc, hoc, I.freeC x c hc⟩ hs, by simpa using I.len⟩ ⟨c, hs, .inr hc⟩
    · exact (hs.2 b (Nat.ne_of_lt (Nat.lt_of_lt_of_le (Heap.lt_size e) (I.ok.cab x c hfn hc)))).trans (I.base.keep b o e n hb hx)
    · obtain ⟨sl, e1⟩ := I.base.slot b o e n hb hx
      exact ⟨sl, (hs.2 b (Nat.ne_of_lt (Nat.lt_of_lt_of_le (Heap.lt_size e) (I.ok.cab x c hfn hc)))).trans e1⟩
    · obtain ⟨o', e1⟩ := I.base.there b o e hx
      exact ⟨o', (hs.2 b (Nat.ne_of_lt (Nat.lt_of_lt_of_le (Heap.lt_size e) (I.ok.cab x c hfn hc)))).trans e1⟩
    · by_cases hj : j = i
      · subst hj
        rw [hi] at e1; cases e1
        rw [List.getElem?_set_self hiσ] at e2
        cases e2
        exact ⟨u, r, .inr ⟨.inl hk, c, hc, hc'⟩⟩
      · rw [List.getElem?_set_ne (Ne.symm hj)] at e2
        obtain ⟨u', r', q⟩ := hl j y v' e1 e2 e3
        refine ⟨u', r', ?_⟩
        rcases q with q | ⟨k, c', e, z'⟩
        · exact .inl q
        · refine .inr ⟨k, c', e, z'.sameBut hs ?_⟩
          rintro rfl
          exact hj (nodup_ix hN e1 (I.ok.inj _ _ _ e hc ▸ hi))
    · by_cases hcc : c' = c
      · subst hcc; exact ⟨_, hc'⟩
      · obtain ⟨w2, z2⟩ := I.cell y c' e
        exact ⟨w2, z2.sameBut hs hcc⟩
    · obtain ⟨e, n, ne, nf, d⟩ := I.pin p hp
      refine ⟨(hs.2 p.1 ?_).trans e, n, ne, nf, d⟩
      intro q
      rw [q, hoc] at e
      have q' : oc = p.2 := Option.some.inj e
      exact d w' (by rw [← q']; exact hocd)
theorem store_ok {M : Model} {A : Around} {E : Value → Shared → Prop} {i : Nat} {x : Str} {v : V} {u : Value} {Q : Unit → Shared → Prop} (I : Inv X pins σ H s) (hN : X.N.Nodup) (hi : X.N[i]? = some x) (hx : Loc X.env.scope x) (r : RelV v u)
    (h : ∀ s', Inv X pins (σ.set i (some v)) H s' → Q () s') (hf : X.fn x = true ∨ X.env.scope.names.lookup x = some .local := by first | exact .inl rfl | exact .inr rfl | assumption) : wpAny M A (storeName X.env x u) Q E s :=
  store_ok2 I hN hi hx r (fun s' I' _ => h s' I') hf
/-- behind a call or a block, the state as it is -/
theorem Inv.call' {s' : Shared} {ch : List Addr} (I : Inv X pins σ H s) (ho : s'.os = s.os) (u : Un (frs X.stack) ch H H' s.heap s'.heap) (hok : HOk X.prog X.w H' s'.heap) (hg : AllBare s'.gens)
    (hch : ∀ b ∈ ch, (b ∈ X.ex ∨ X.s₀.heap.objs.size ≤ b) ∧ b ≠ X.env.locals ∧ (∀ x c, X.env.cells.lookup x = some c → c ≠ b) ∧ ∀ p ∈ X.pn ++ pins, p.1 ≠ b) : Inv X pins σ H' s' := by
  obtain ⟨h', g', d', t', o'⟩ := s'
  have e : o' = s.os := ho
  subst e
  exact I.call (g' := g') (t' := t') (d' := d') u hok hg hch
end

/-! ### the judgements -/
/-- an exception: its class, its own dict's address (where it has one), the abstract heap behind it -/
abbrev XK := Value → Option Addr → Hp → Prop
abbrev St := List (Option V)
abbrev VK := V → Hp → Prop
/-- an expression's reading; a test's; an argument list's -/
abbrev TE := St → Hp → VK → Prop
abbrev TT := St → Hp → (Bool → Hp → Prop) → Prop
abbrev TA := St → Hp → (List V → Hp → Prop) → Prop
/-- what is wanted behind a statement -/
structure Ends where
  nx : St → Hp → Prop
  rt : VK
  bk : St → Hp → Prop := fun _ _ => False
  ct : St → Hp → Prop := fun _ _ => False
abbrev TS := Ends → St → Hp → Prop

def EP (X : Cx) (pins : List (Addr × Obj)) (σ : St) (Q : VK) (u : Value) (s' : Shared) : Prop := ∃ v H', Inv X pins σ H' s' ∧ RelV v u ∧ Q v H'
def TP (X : Cx) (pins : List (Addr × Obj)) (σ : St) (Q : Bool → Hp → Prop) (b : Bool) (s' : Shared) : Prop := ∃ H', Inv X pins σ H' s' ∧ Q b H'
def AP (X : Cx) (pins : List (Addr × Obj)) (σ : St) (Q : List V → Hp → Prop) (us : List Value) (s' : Shared) : Prop := ∃ vs H', Inv X pins σ H' s' ∧ Vals vs us ∧ Q vs H'
def SP (X : Cx) (pins : List (Addr × Obj)) (D : Ends) (f : Flow) (s' : Shared) : Prop :=
  match f with
  | .next => ∃ σ' H', Inv X pins σ' H' s' ∧ D.nx σ' H'
  | .brk => ∃ σ' H', Inv X pins σ' H' s' ∧ D.bk σ' H'
  | .cont => ∃ σ' H', Inv X pins σ' H' s' ∧ D.ct σ' H'
  | .ret u => ∃ v σ' H', Inv X pins σ' H' s' ∧ RelV v u ∧ D.rt v H'

def PE (X : Cx) (e : Expr) (t : TE) : Prop :=
  ∀ (pins : List (Addr × Obj)) (s : Shared) (σ : St) (H : Hp) (Q : VK), Inv X pins σ H s → t σ H Q → wpAny (model X.prog X.w) X.A (eval e X.env) (EP X pins σ Q) X.xe s
def PT (X : Cx) (e : Expr) (t : TT) : Prop :=
  ∀ (pins : List (Addr × Obj)) (s : Shared) (σ : St) (H : Hp) (Q : Bool → Hp → Prop), Inv X pins σ H s → t σ H Q → wpAny (model X.prog X.w) X.A (isTrue e X.env (eval e X.env)) (TP X pins σ Q) X.xe s
/-- a test whatever its 'whole' is (and, or) -/
def PW (X : Cx) (e : Expr) (t : TT) : Prop :=
  ∀ (whole : Sem Value) (pins : List (Addr × Obj)) (s : Shared) (σ : St) (H : Hp) (Q : Bool → Hp → Prop), Inv X pins σ H s → t σ H Q → wpAny (model X.prog X.w) X.A (isTrue e X.env whole) (TP X pins σ Q) X.xe s
theorem PW.pt {X : Cx} {e : Expr} {t : TT} (h : PW X e t) : PT X e t := h _
/-- an argument list (no star), from the left -/
def PA (X : Cx) (es : List Expr) (t : TA) : Prop :=
  ∀ (pos : Pos) (pins : List (Addr × Obj)) (s : Shared) (σ : St) (H : Hp) (Q : List V → Hp → Prop), Inv X pins σ H s → t σ H Q → wpAny (model X.prog X.w) X.A (spliced (backTo pos (starEach es X.env))) (AP X pins σ Q) X.xe s
def PS (X : Cx) (st : Stmt) (t : TS) : Prop :=
  ∀ (pins : List (Addr × Obj)) (s : Shared) (σ : St) (H : Hp) (D : Ends), Inv X pins σ H s → t D σ H → wpAny (model X.prog X.w) X.A (exec st X.env) (SP X pins D) X.xe s
def PSs (X : Cx) (st : List Stmt) (t : TS) : Prop :=
  ∀ (pins : List (Addr × Obj)) (s : Shared) (σ : St) (H : Hp) (D : Ends), Inv X pins σ H s → t D σ H → wpAny (model X.prog X.w) X.A (execs st X.env) (SP X pins D) X.xe s
/-- weaken the end -/
theorem thn {α : Type} {t : Sem α} {Q Q' : α → Shared → Prop} {M : Model} {A : Around} {E : Value → Shared → Prop} {s : Shared} (h : wpAny M A t Q E s) (hQ : ∀ a s, Q a s → Q' a s) : wpAny M A t Q' E s := wpAny_mono h hQ fun _ _ x => x
end L2

namespace L2
open PySem PySem.Spec PyProof.Rows
section
variable {X : Cx}

/-- two expressions in a row -/
theorem bin {a b : Expr} {ta tb : TE} (ha : PE X a ta) (hb : PE X b tb) {pins : List (Addr × Obj)} {s : Shared} {σ : St} {H : Hp} {R : V → V → Hp → Prop} (I : Inv X pins σ H s) (h : ta σ H fun x H1 => tb σ H1 fun y H2 => R x y H2)
    {α : Type} {Q : α → Shared → Prop} {f : Value → Value → Sem α}
    (hf : ∀ v u s2 x y H2, Inv X pins σ H2 s2 → RelV x v → RelV y u → R x y H2 → wpAny (model X.prog X.w) X.A (f v u) Q X.xe s2) :
    wpAny (model X.prog X.w) X.A (eval a X.env) (fun v s₁ => wpAny (model X.prog X.w) X.A (eval b X.env) (fun u s₂ => wpAny (model X.prog X.w) X.A (f v u) Q X.xe s₂) X.xe s₁) X.xe s := by
  refine thn (ha pins s σ H _ I h) fun v s1 ⟨x, H1, I1, r1, q1⟩ => ?_
  refine thn (hb pins s1 σ H1 _ I1 q1) fun u s2 ⟨y, H2, I2, r2, q2⟩ => ?_
  exact hf v u s2 x y H2 I2 r1 r2 q2

/-! ### names and constants -/
def tVar (i : Nat) : TE := fun σ H Q => ∃ v, σ[i]? = some (some v) ∧ Q v H
def tC (v : V) : TE := fun _ H Q => Q v H
theorem pe_var {i : Nat} {x : Str} {pos : Pos} (hN : X.N[i]? = some x) (hv : Vis X.env.scope x) (hd : (x == ("__debug__" : Str)) = false := by decide) (hcd : (x == ("__classdict__" : Str)) = false := by decide) : PE X (.Name x pos) (tVar i) := by
  intro pins s σ H Q I h
  obtain ⟨v, e, h⟩ := h
  obtain ⟨m, hn, hl⟩ := I.loc
  obtain ⟨u, r, l⟩ := hl i x v hN e hv
  have fin : EP X pins σ Q u s := ⟨v, H, I, r, h⟩
  rcases l with ⟨hk, hm⟩ | ⟨hk, c, hc, hcell⟩
  · exact wpAny_Name (wpAny_loadName_local I.ok.kind hk hn hm fin) hd
  · rcases hk with hk | hk
    · exact wpAny_Name (wpAny_loadName_cell I.ok.kind hk hc hcell fin) hd
    · exact wpAny_Name (wpAny_loadName_free I.ok.kind hk hc hcell fin hcd) hd
theorem pe_int {i j pos} : PE X (.Constant (.int i) j pos) (tC (.int i)) := fun _ _ _ H _ I h => wpAny_Constant_int ⟨.int i, H, I.tok _, ⟨_, rfl⟩, h⟩
theorem pe_bl {b j pos} : PE X (.Constant (.bool b) j pos) (tC (.bl b)) := fun _ _ _ H _ I h => Constant_bool ⟨.bl b, H, I, rfl, h⟩
theorem pe_non {j pos} : PE X (.Constant .none j pos) (tC .non) := fun _ _ _ H _ I h => Constant_none ⟨.non, H, I, rfl, h⟩
theorem pe_str {x j pos} : PE X (.Constant (.str x) j pos) (tC (.str x)) := fun _ _ _ H _ I h => Calls.Constant_str ⟨.str x, H, I.tok _, ⟨_, rfl⟩, h⟩

/-- a global name of the def -/
def Gl (X : Cx) (x : Str) : Prop := X.env.kindOf x = some .globalImplicit
theorem ld_glob {E : Value → Shared → Prop} {pins : List (Addr × Obj)} {s : Shared} {σ : St} {H : Hp} {x : Str} {u : Value} {pos : Pos} {Q : Value → Shared → Prop} (I : Inv X pins σ H s) (hg : Gl X x) (hm : X.mg x = some u) (h : Q u s)
    (hd : (x == ("__debug__" : Str)) = false := by decide) : wpAny (model X.prog X.w) X.A (eval (.Name x pos) X.env) Q E s :=
  Calls.Name_function_global I.ok.kind hg (Calls.loadGlobal_global (by rw [I.ok.glob]; exact I.mod.glob.keeps I.bk) hm h) hd
theorem ld_blt {E : Value → Shared → Prop} {pins : List (Addr × Obj)} {s : Shared} {σ : St} {H : Hp} {x : Str} {u : Value} {pos : Pos} {Q : Value → Shared → Prop} (I : Inv X pins σ H s) (hg : Gl X x) (hm : X.mg x = none) (hv : bootBuiltins x = some u) (h : Q u s)
    (hn : x ≠ "__name__" := by decide) (hd : (x == ("__debug__" : Str)) = false := by decide) : wpAny (model X.prog X.w) X.A (eval (.Name x pos) X.env) Q E s := by
  obtain ⟨mb, h1, h2⟩ := I.mod.blt
  exact Calls.Name_function_global I.ok.kind hg (Calls.loadGlobal_builtin (by rw [I.ok.glob]; exact I.mod.glob.keeps I.bk) hm (by rw [I.ok.blt]; exact h1.keeps I.bk) ((h2 x hn).trans hv) h) hd
/-- a module's constant, a class, a function, as a value -/
theorem pe_glob {x : Str} {v : V} {u : Value} {pos : Pos} (hg : Gl X x) (hm : X.mg x = some u) (r : RelV v u) (hd : (x == ("__debug__" : Str)) = false := by decide) : PE X (.Name x pos) (tC v) :=
  fun _ _ _ H _ I h => ld_glob I hg hm ⟨v, H, I, r, h⟩ hd
theorem pe_bltn {x : Str} {v : V} {u : Value} {pos : Pos} (hg : Gl X x) (hm : X.mg x = none) (hv : bootBuiltins x = some u) (r : RelV v u) (hn : x ≠ "__name__" := by decide) (hd : (x == ("__debug__" : Str)) = false := by decide) : PE X (.Name x pos) (tC v) :=
  fun _ _ _ H _ I h => ld_blt I hg hm hv ⟨v, H, I, r, h⟩ hn hd

/-! ### arithmetic -/
/-- two ints -/
def t2I (ta tb : TE) (k : Int → Int → Hp → Prop) : St → Hp → Prop := fun σ H => ta σ H fun x H1 => tb σ H1 fun y H2 => ∃ i j, x = .int i ∧ y = .int j ∧ k i j H2
def tAdd (ta tb : TE) : TE := fun σ H Q => t2I ta tb (fun i j H2 => Q (.int (i + j)) H2) σ H
def tSub (ta tb : TE) : TE := fun σ H Q => t2I ta tb (fun i j H2 => Q (.int (i - j)) H2) σ H
/-- the left factor below 2^64 -/
def tMul (ta tb : TE) : TE := fun σ H Q => t2I ta tb (fun i j H2 => (-(2 ^ 64) < i ∧ i < 2 ^ 64) ∧ Q (.int (i * j)) H2) σ H
variable {a b : Expr} {ta tb : TE} {pos : Pos}
theorem pe_add (ha : PE X a ta) (hb : PE X b tb) : PE X (.BinOp a .Add b pos) (tAdd ta tb) := by
  intro pins s σ H Q I h
  refine wpAny_BinOp (bin ha hb I h fun v u s2 x y H2 I2 rx ry q => ?_)
  obtain ⟨i, j, rfl, rfl, q⟩ := q
  obtain ⟨t, rfl⟩ := rx
  obtain ⟨t', rfl⟩ := ry
  exact add_int ⟨.int _, H2, I2.tok _, ⟨_, rfl⟩, q⟩
theorem pe_sub (ha : PE X a ta) (hb : PE X b tb) : PE X (.BinOp a .Sub b pos) (tSub ta tb) := by
  intro pins s σ H Q I h
  refine wpAny_BinOp (bin ha hb I h fun v u s2 x y H2 I2 rx ry q => ?_)
  obtain ⟨i, j, rfl, rfl, q⟩ := q
  obtain ⟨t, rfl⟩ := rx
  obtain ⟨t', rfl⟩ := ry
  exact sub_int ⟨.int _, H2, I2.tok _, ⟨_, rfl⟩, q⟩
theorem pe_mul (ha : PE X a ta) (hb : PE X b tb) : PE X (.BinOp a .Mult b pos) (tMul ta tb) := by
  intro pins s σ H Q I h
  refine wpAny_BinOp (bin ha hb I h fun v u s2 x y H2 I2 rx ry q => ?_)
  obtain ⟨i, j, rfl, rfl, ⟨q1, q2⟩, q⟩ := q
  obtain ⟨t, rfl⟩ := rx
  obtain ⟨t', rfl⟩ := ry
  exact mul_int ⟨.int _, H2, I2.tok _, ⟨_, rfl⟩, q⟩ (.of_left (intBits_le_64 q1 q2))

/-! ### comparisons -/
def PC (X : Cx) (op : CmpOp) (a b : Expr) (t : TE) : Prop :=
  ∀ (pins : List (Addr × Obj)) (s : Shared) (σ : St) (H : Hp) (Q : VK), Inv X pins σ H s → t σ H Q →
    wpAny (model X.prog X.w) X.A (eval a X.env) (fun v s₁ => wpAny (model X.prog X.w) X.A (eval b X.env) (fun u s₂ => wpAny (model X.prog X.w) X.A (compareOp op v u) (EP X pins σ Q) X.xe s₂) X.xe s₁) X.xe s
theorem nobehind (b : Expr) {op : CmpOp} (h : op ≠ .In) (h2 : op ≠ .NotIn) : behindInMarks op b = false := by
  have e1 : (op == CmpOp.In) = false := by cases op <;> first | rfl | exact absurd rfl h
  have e2 : (op == CmpOp.NotIn) = false := by cases op <;> first | rfl | exact absurd rfl h2
  cases b <;> simp [behindInMarks, e1, e2]
def tCmp (p : Int → Int → Bool) (ta tb : TE) : TE := fun σ H Q => t2I ta tb (fun i j H2 => Q (.bl (p i j)) H2) σ H
abbrev tLt : TE → TE → TE := tCmp fun i j => decide (i < j)
abbrev tLe : TE → TE → TE := tCmp fun i j => decide (i ≤ j)
abbrev tGt : TE → TE → TE := tCmp fun i j => decide (j < i)
abbrev tGe : TE → TE → TE := tCmp fun i j => decide (j ≤ i)
abbrev tEqI : TE → TE → TE := tCmp fun i j => decide (i = j)
abbrev tNeI : TE → TE → TE := tCmp fun i j => !decide (i = j)
/-- a comparison of two ints, by its rule -/
theorem pc_int {op : CmpOp} {p : Int → Int → Bool} (ha : PE X a ta) (hb : PE X b tb)
    (rule : ∀ (i j : Int) (t u : Tok) (Q : Value → Shared → Prop) (s : Shared), Q (.bool (p i j)) s → wpAny (model X.prog X.w) X.A (compareOp op (.int i t) (.int j u)) Q X.xe s) : PC X op a b (tCmp p ta tb) := by
  intro pins s σ H Q I h
  refine bin ha hb I h fun v u s2 x y H2 I2 rx ry q => ?_
  obtain ⟨i, j, rfl, rfl, q⟩ := q
  obtain ⟨t, rfl⟩ := rx
  obtain ⟨t', rfl⟩ := ry
  exact rule i j t t' _ s2 ⟨.bl _, H2, I2, rfl, q⟩
theorem pc_lt (ha : PE X a ta) (hb : PE X b tb) : PC X .Lt a b (tLt ta tb) := pc_int ha hb fun _ _ _ _ _ _ h => lt_int h
theorem pc_le (ha : PE X a ta) (hb : PE X b tb) : PC X .LtE a b (tLe ta tb) := pc_int ha hb fun _ _ _ _ _ _ h => le_int h
theorem pc_gt (ha : PE X a ta) (hb : PE X b tb) : PC X .Gt a b (tGt ta tb) := pc_int ha hb fun _ _ _ _ _ _ h => gt_int h
theorem pc_ge (ha : PE X a ta) (hb : PE X b tb) : PC X .GtE a b (tGe ta tb) := pc_int ha hb fun _ _ _ _ _ _ h => ge_int h
theorem pc_eqI (ha : PE X a ta) (hb : PE X b tb) : PC X .Eq a b (tEqI ta tb) := pc_int ha hb fun _ _ _ _ _ _ h => eq_int (by rw [Bool.beq_eq_decide_eq]; exact h)
theorem pc_neI (ha : PE X a ta) (hb : PE X b tb) : PC X .NotEq a b (tNeI ta tb) := pc_int ha hb fun _ _ _ _ _ _ h => ne_int (by rw [bne, Bool.beq_eq_decide_eq]; exact h)
/-- is None -/
def tIsN (ta : TE) : TE := fun σ H Q => ta σ H fun x H1 => Q (.bl (decide (x = .non))) H1
def tNotN (ta : TE) : TE := fun σ H Q => ta σ H fun x H1 => Q (.bl (!decide (x = .non))) H1
theorem RelV.none_iff {x : V} {v : Value} (r : RelV x v) : (v == Value.none) = decide (x = .non) := by
  cases x with
  | non => cases r; rfl
  | bl _ => cases r; rfl
  | int _ => obtain ⟨t, rfl⟩ := r; rfl
  | str _ => obtain ⟨t, rfl⟩ := r; rfl
  | byt _ => obtain ⟨t, rfl⟩ := r; rfl
  | flt _ => obtain ⟨t, rfl⟩ := r; rfl
  | ref _ => cases r; rfl
  | ty _ => cases r; rfl
theorem pc_isN {j pos'} (ha : PE X a ta) : PC X .Is a (.Constant .none j pos') (tIsN ta) := by
  intro pins s σ H Q I h
  refine thn (ha pins s σ H _ I h) fun v s1 ⟨x, H1, I1, r1, q1⟩ => ?_
  exact Constant_none (is_none_gen ⟨.bl _, H1, I1, by rw [r1.none_iff]; rfl, q1⟩)
theorem pc_notN {j pos'} (ha : PE X a ta) : PC X .IsNot a (.Constant .none j pos') (tNotN ta) := by
  intro pins s σ H Q I h
  refine thn (ha pins s σ H _ I h) fun v s1 ⟨x, H1, I1, r1, q1⟩ => ?_
  exact Constant_none (isnot_none_gen ⟨.bl _, H1, I1, by rw [r1.none_iff]; rfl, q1⟩)
/-- a comparison as a value, as a test -/
def tB (t : TE) : TT := fun σ H Q => t σ H fun x H1 => ∃ c, x = .bl c ∧ Q c H1
theorem pe_cmp {op : CmpOp} {t : TE} (h : PC X op a b t) (h1 : behindInMarks op b = false := by first | exact nobehind _ (by decide) (by decide) | rfl) : PE X (.Compare a [op] [b] pos) t := fun pins s σ H Q I hw => wpAny_Compare1 (h pins s σ H Q I hw) h1
theorem pt_cmp {op : CmpOp} {t : TE} (h : PC X op a b t) (h1 : behindInMarks op b = false := by first | exact nobehind _ (by decide) (by decide) | rfl) : PT X (.Compare a [op] [b] pos) (tB t) := by
  intro pins s σ H Q I hw
  refine wpAny_isTrue_Compare1 (thn (h pins s σ H _ I hw) fun v s1 h1 => thn h1 fun u s2 h2 => thn h2 fun c s3 ⟨x, H1, I1, r1, q1⟩ => ?_) h1
  obtain ⟨d, rfl, q⟩ := q1
  cases r1
  exact wpAny_truthy_bool ⟨H1, I1, q⟩
/-- an expression whose value is a bool, as a test -/
theorem pt_val {e : Expr} {t : TE} (h : PE X e t) (he : ∀ whole, isTrue e X.env whole = (do let v ← whole; standAt e.pos; holding [v] (truthy v)) := by intro _; rfl) : PT X e (tB t) := by
  intro pins s σ H Q I hw
  refine isTrue_plain (thn (h pins s σ H _ I hw) fun v s1 ⟨x, H1, I1, r1, q1⟩ => ?_) (he _)
  obtain ⟨d, rfl, q⟩ := q1
  cases r1
  exact wpAny_truthy_bool ⟨H1, I1, q⟩

/-! ### and, or, not -/
variable {tA tB' : TT} {rest : List Expr}
def tAnd (t u : TT) : TT := fun σ H Q => t σ H fun c H1 => if c = true then u σ H1 Q else Q false H1
def tOr (t u : TT) : TT := fun σ H Q => t σ H fun c H1 => if c = true then Q true H1 else u σ H1 Q
def tNot (t : TT) : TT := fun σ H Q => t σ H fun c H1 => Q (!c) H1
theorem pw_and1 (ha : PT X a tA) : PW X (.BoolOp .And [a] pos) tA := by
  intro wh pins s σ H Q I h
  refine isTrue_and (thn (ha pins s σ H Q I h) fun c s1 e => ?_)
  cases c with
  | true => exact isTrue_and_nil e
  | false => exact e
theorem pw_or1 (ha : PT X a tA) : PW X (.BoolOp .Or [a] pos) tA := by
  intro wh pins s σ H Q I h
  refine isTrue_or (thn (ha pins s σ H Q I h) fun c s1 e => ?_)
  cases c with
  | false => exact isTrue_or_nil e
  | true => exact e
theorem pw_and (ha : PT X a tA) (hb : PW X (.BoolOp .And (b :: rest) pos) tB') : PW X (.BoolOp .And (a :: b :: rest) pos) (tAnd tA tB') := by
  intro wh pins s σ H Q I h
  refine isTrue_and (thn (ha pins s σ H _ I h) fun c s1 ⟨H1, I1, q1⟩ => ?_)
  cases c with
  | true => exact hb wh pins s1 σ H1 Q I1 q1
  | false => exact ⟨H1, I1, q1⟩
theorem pw_or (ha : PT X a tA) (hb : PW X (.BoolOp .Or (b :: rest) pos) tB') : PW X (.BoolOp .Or (a :: b :: rest) pos) (tOr tA tB') := by
  intro wh pins s σ H Q I h
  refine isTrue_or (thn (ha pins s σ H _ I h) fun c s1 ⟨H1, I1, q1⟩ => ?_)
  cases c with
  | true => exact ⟨H1, I1, q1⟩
  | false => exact hb wh pins s1 σ H1 Q I1 q1
theorem pt_not (ha : PT X a tA) : PT X (.UnaryOp .Not a pos) (tNot tA) := by
  intro pins s σ H Q I h
  exact isTrue_not (ha pins s σ H (fun c H1 => Q (!c) H1) I h)
/-- .. as values (bools) -/
def tAndV (ta tb : TE) : TE := fun σ H Q => ta σ H fun x H1 => ∃ c, x = .bl c ∧ if c = true then tb σ H1 Q else Q (.bl false) H1
def tOrV (ta tb : TE) : TE := fun σ H Q => ta σ H fun x H1 => ∃ c, x = .bl c ∧ if c = true then Q (.bl true) H1 else tb σ H1 Q
def tNotV (ta : TE) : TE := fun σ H Q => ta σ H fun x H1 => ∃ c, x = .bl c ∧ Q (.bl (!c)) H1
theorem pe_one {op} {t : TE} (h : PE X a t) : PE X (.BoolOp op [a] pos) t := fun pins s σ H Q I hw => BoolOp_one (h pins s σ H Q I hw)
theorem pe_and (ha : PE X a ta) (hb : PE X (.BoolOp .And (b :: rest) pos) tb) : PE X (.BoolOp .And (a :: b :: rest) pos) (tAndV ta tb) := by
  intro pins s σ H Q I h
  refine BoolOp_and (thn (ha pins s σ H _ I h) fun v s1 ⟨x, H1, I1, r1, q1⟩ => ?_)
  obtain ⟨c, rfl, q1⟩ := q1
  cases r1
  refine wpAny_truthy_bool ?_
  cases c with
  | true => exact hb pins s1 σ H1 Q I1 q1
  | false => exact ⟨.bl false, H1, I1, rfl, q1⟩
theorem pe_or (ha : PE X a ta) (hb : PE X (.BoolOp .Or (b :: rest) pos) tb) : PE X (.BoolOp .Or (a :: b :: rest) pos) (tOrV ta tb) := by
  intro pins s σ H Q I h
  refine BoolOp_or (thn (ha pins s σ H _ I h) fun v s1 ⟨x, H1, I1, r1, q1⟩ => ?_)
  obtain ⟨c, rfl, q1⟩ := q1
  cases r1
  refine wpAny_truthy_bool ?_
  cases c with
  | false => exact hb pins s1 σ H1 Q I1 q1
  | true => exact ⟨.bl true, H1, I1, rfl, q1⟩
theorem pe_not (ha : PE X a ta) : PE X (.UnaryOp .Not a pos) (tNotV ta) := by
  intro pins s σ H Q I h
  refine UnaryOp_ (thn (ha pins s σ H _ I h) fun v s1 ⟨x, H1, I1, r1, q1⟩ => ?_)
  obtain ⟨c, rfl, q1⟩ := q1
  cases r1
  exact not_of (wpAny_truthy_bool ⟨.bl (!c), H1, I1, rfl, q1⟩)
/-- a if t else b -/
def tIf (t : TT) (ta tb : TE) : TE := fun σ H Q => t σ H fun c H1 => if c = true then ta σ H1 Q else tb σ H1 Q
theorem pe_ifExp {c : Expr} (hc : PT X c tA) (ha : PE X a ta) (hb : PE X b tb) : PE X (.IfExp c a b pos) (tIf tA ta tb) := by
  intro pins s σ H Q I h
  refine wpAny_IfExp (thn (hc pins s σ H _ I h) fun d s1 ⟨H1, I1, q1⟩ => ?_)
  cases d with
  | true => exact ha pins s1 σ H1 Q I1 q1
  | false => exact hb pins s1 σ H1 Q I1 q1
end
end L2

namespace L2
open PySem PySem.Spec PyProof.Rows

/-! ### a list, a tuple that is read: tracked, frozen, or an object of the module -/
def SqL (K : PySem.W.Frag) (H : Hp) (a : Addr) (xs : List V) : Prop :=
  Rd H a (.lst xs) ∨
    ∃ (o : Obj) (its : Array Value) (n : Nat), K.lookup a = some o ∧ o.cls = .type "list" ∧ o.dict = none ∧ o.data = .seq its n ∧ its.size ≤ sizeLine ∧ Vals xs its.toList
def SqT (K : PySem.W.Frag) (H : Hp) (a : Addr) (xs : List V) : Prop :=
  Rd H a (.tup xs) ∨
    ∃ (o : Obj) (its : Array Value) (n : Nat), K.lookup a = some o ∧ o.cls = .type "tuple" ∧ o.data = .seq its n ∧ its.size ≤ sizeLine ∧ Vals xs its.toList
def absV : Value → Option V
  | .none => some .non
  | .bool b => some (.bl b)
  | .int i _ => some (.int i)
  | .str x _ => some (.str x)
  | .bytes b _ => some (.byt b)
  | .float b _ => some (.flt b)
  | .ref a => some (.ref a)
  | .type n => some (.ty n)
  | _ => none
theorem RelV.abs {x : V} {u : Value} (r : RelV x u) : absV u = some x := by
  cases x with
  | non => cases r; rfl
  | bl _ => cases r; rfl
  | int _ => obtain ⟨t, rfl⟩ := r; rfl
  | str _ => obtain ⟨t, rfl⟩ := r; rfl
  | byt _ => obtain ⟨t, rfl⟩ := r; rfl
  | flt _ => obtain ⟨t, rfl⟩ := r; rfl
  | ref _ => cases r; rfl
  | ty _ => cases r; rfl
theorem RelV.inj {x y : V} {u : Value} (r : RelV x u) (q : RelV y u) : x = y := Option.some.inj (r.abs.symm.trans q.abs)
theorem Vals.inj : ∀ {xs ys : List V} {us : List Value}, Vals xs us → Vals ys us → xs = ys
  | _, _, _, .nil, .nil => rfl
  | _, _, _, .cons r t, .cons r' t' => by rw [r.inj r', Vals.inj t t']
section
variable {X : Cx} {pins : List (Addr × Obj)} {σ : St} {H : Hp} {s : Shared} {a : Addr} {xs ys : List V}
theorem SqL.of {K : PySem.W.Frag} (h : H a = some (.lst xs)) : SqL K H a xs := .inl (.inl h)
theorem SqT.of {K : PySem.W.Frag} (h : H a = some (.tup xs)) : SqT K H a xs := .inl (.inl h)
theorem Inv.list (I : Inv X pins σ H s) (h : SqL X.K H a xs) : ∃ its : List Value, Vals xs its ∧ PlainL s.heap a its.toArray ∧ xs.length ≤ sizeLine := by
  rcases h with h | ⟨o, its, n, hk, hc, hd, hs, hz, r⟩
  · obtain ⟨z, its, n, r, e⟩ := h.ok I.hok
    exact ⟨its, r, ⟨_, n, e, rfl, rfl, rfl⟩, z⟩
  · refine ⟨its.toList, r, ⟨o, n, I.kIn a o hk, hc, hd, by simpa using hs⟩, ?_⟩
    have e := r.length
    simp only [Array.length_toList] at e
    omega
theorem Inv.tuple (I : Inv X pins σ H s) (h : SqT X.K H a xs) : ∃ its : List Value, Vals xs its ∧ IsTup s.heap a its.toArray ∧ xs.length ≤ sizeLine := by
  rcases h with h | ⟨o, its, n, hk, hc, hs, hz, r⟩
  · obtain ⟨z, its, r, p⟩ := h.ok I.hok
    exact ⟨its, r, p, z⟩
  · refine ⟨its.toList, r, ⟨o, I.kIn a o hk, hc, n, by simpa using hs⟩, ?_⟩
    have e := r.length
    simp only [Array.length_toList] at e
    omega
theorem Inv.list_inj (I : Inv X pins σ H s) (h : SqL X.K H a xs) (h' : SqL X.K H a ys) : xs = ys := by
  obtain ⟨its, r, ⟨o, n, e, _, _, d⟩, _⟩ := I.list h
  obtain ⟨its', r', ⟨o', n', e', _, _, d'⟩, _⟩ := I.list h'
  rw [e] at e'; cases e'
  rw [d] at d'
  injection d' with d1 _
  have : its = its' := by simpa using congrArg Array.toList d1
  subst this
  exact r.inj r'
theorem Inv.tuple_inj (I : Inv X pins σ H s) (h : SqT X.K H a xs) (h' : SqT X.K H a ys) : xs = ys := by
  obtain ⟨its, r, ⟨o, e, _, n, d⟩, _⟩ := I.tuple h
  obtain ⟨its', r', ⟨o', e', _, n', d'⟩, _⟩ := I.tuple h'
  rw [e] at e'; cases e'
  rw [d] at d'
  injection d' with d1 _
  have : its = its' := by simpa using congrArg Array.toList d1
  subst this
  exact r.inj r'
end

/-! ### another wish about exceptions -/
abbrev Cx.wish (X : Cx) (E : Value → Shared → Prop) : Cx := { X with xe := E }
/-- no exception leaves -/
abbrev Cx.nox (X : Cx) : Cx := X.wish fun _ _ => False
theorem Cx.Ok.wish {X : Cx} (ok : X.Ok) (E : Value → Shared → Prop) : (X.wish E).Ok :=
  ⟨ok.mod, ok.kind, ok.glob, ok.blt, ok.above, ok.inj, ok.has, ok.cab, ok.hd, ok.frames, ok.stk, ok.exf, ok.bs, ok.bsz, ok.noex, ok.exfs, ok.funs, ok.frf⟩
theorem Cx.Ok.unwish {X : Cx} {E : Value → Shared → Prop} (ok : (X.wish E).Ok) : X.Ok :=
  ⟨ok.mod, ok.kind, ok.glob, ok.blt, ok.above, ok.inj, ok.has, ok.cab, ok.hd, ok.frames, ok.stk, ok.exf, ok.bs, ok.bsz, ok.noex, ok.exfs, ok.funs, ok.frf⟩
section
variable {X : Cx} {pins : List (Addr × Obj)} {σ : St} {H : Hp} {s : Shared} {E : Value → Shared → Prop}
theorem Inv.wish (I : Inv X pins σ H s) (E : Value → Shared → Prop) : Inv (X.wish E) pins σ H s := ⟨I.ok.wish E, I.os, I.bare, I.base, I.loc, I.cell, I.free, I.freeC, I.pin, I.hok, I.len⟩
theorem Inv.unwish (I : Inv (X.wish E) pins σ H s) : Inv X pins σ H s := ⟨I.ok.unwish, I.os, I.bare, I.base, I.loc, I.cell, I.free, I.freeC, I.pin, I.hok, I.len⟩
theorem SP.unwish {D : Ends} {f : Flow} {s' : Shared} (h : SP (X.wish E) pins D f s') : SP X pins D f s' := by
  cases f with
  | next => obtain ⟨σ', H', I, q⟩ := h; exact ⟨σ', H', I.unwish, q⟩
  | brk => obtain ⟨σ', H', I, q⟩ := h; exact ⟨σ', H', I.unwish, q⟩
  | cont => obtain ⟨σ', H', I, q⟩ := h; exact ⟨σ', H', I.unwish, q⟩
  | ret u => obtain ⟨v, σ', H', I, r, q⟩ := h; exact ⟨v, σ', H', I.unwish, r, q⟩
theorem PE.nox {e : Expr} {t : TE} (h : PE X.nox e t) : PE X e t := fun pins s σ H Q I hw =>
  wpAny_mono (h pins s σ H Q (I.wish _) hw) (fun _ _ ⟨v, H', I', r, q⟩ => ⟨v, H', I'.unwish, r, q⟩) fun _ _ z => False.elim z
theorem PT.nox {e : Expr} {t : TT} (h : PT X.nox e t) : PT X e t := fun pins s σ H Q I hw =>
  wpAny_mono (h pins s σ H Q (I.wish _) hw) (fun _ _ ⟨H', I', q⟩ => ⟨H', I'.unwish, q⟩) fun _ _ z => False.elim z
theorem PSs.nox {st : List Stmt} {t : TS} (h : PSs X.nox st t) : PSs X st t := fun pins s σ H D I hw =>
  wpAny_mono (h pins s σ H D (I.wish _) hw) (fun _ _ q => q.unwish) fun _ _ z => False.elim z
end

/-! ### blocks and small statements -/
section
variable {X : Cx} {st : Stmt} {rest : List Stmt} {t u : TS} {e : Expr} {te : TE} {pos : Pos}
def tNext : TS := fun D σ H => D.nx σ H
def tSeq (t u : TS) : TS := fun D σ H => t { D with nx := u D } σ H
theorem pss_nil : PSs X [] tNext := fun _ _ σ H _ I h => wpAny_execs_nil ⟨σ, H, I, h⟩
theorem pss_cons (h1 : PS X st t) (h2 : PSs X rest u) : PSs X (st :: rest) (tSeq t u) := by
  intro pins s σ H D I h
  refine wpAny_execs_cons (thn (h1 pins s σ H { D with nx := u D } I h) fun f s1 q => ?_)
  cases f with
  | next =>
    obtain ⟨σ', H', I', q⟩ := q
    exact h2 pins s1 σ' H' D I' q
  | ret v => exact q
  | brk => exact q
  | cont => exact q
theorem pss_one (h1 : PS X st t) : PSs X [st] t := by
  intro pins s σ H D I h
  refine wpAny_execs_cons (thn (h1 pins s σ H D I h) fun f s1 q => ?_)
  cases f with
  | next => exact wpAny_execs_nil q
  | ret v => exact q
  | brk => exact q
  | cont => exact q
def tBreak : TS := fun D σ H => D.bk σ H
def tCont : TS := fun D σ H => D.ct σ H
theorem ps_pass : PS X (.Pass pos) tNext := fun _ _ σ H _ I h => wpAny_Pass ⟨σ, H, I, h⟩
theorem ps_break : PS X (.Break pos) tBreak := fun _ _ σ H _ I h => wpAny_Break ⟨σ, H, I, h⟩
theorem ps_continue : PS X (.Continue pos) tCont := fun _ _ σ H _ I h => wpAny_Continue ⟨σ, H, I, h⟩
/-- in a def's body nothing is shown -/
theorem Inv.quiet {pins : List (Addr × Obj)} {σ : St} {H : Hp} {s : Shared} (I : Inv X pins σ H s) : interactive X.env = false := by simp [interactive, I.ok.kind]
/-- a docstring -/
theorem ps_doc {x j pos pos'} : PS X (.Expr (.Constant (.str x) j pos) pos') tNext := fun _ s σ H _ I h => wpAny_Expr (Calls.Constant_str (show SP X _ _ .next { s with toks := s.toks + 1 } from ⟨σ, H, I.tok _, h⟩)) I.quiet
/-- an expression whose value is dropped -/
def tDrop (te : TE) : TS := fun D σ H => te σ H fun _ H1 => D.nx σ H1
theorem ps_expr (he : PE X e te) (hs : swapsWith e none pos.line X.env = pure false := by rfl) : PS X (.Expr e pos) (tDrop te) := by
  intro pins s σ H D I h
  exact wpAny_Expr_any (thn (he pins s σ H _ I h) fun v s1 ⟨x, H1, I1, r1, q1⟩ => ⟨σ, H1, I1, q1⟩) I.quiet hs
def tRet (te : TE) : TS := fun D σ H => te σ H D.rt
theorem ps_ret (he : PE X e te) : PS X (.Return (some e) pos) (tRet te) := by
  intro pins s σ H D I h
  exact wpAny_Return_some (thn (he pins s σ H _ I h) fun v s1 ⟨x, H1, I1, r1, q1⟩ => ⟨x, σ, H1, I1, r1, q1⟩)
def tRetN : TS := fun D _ H => D.rt .non H
theorem ps_retN : PS X (.Return none pos) tRetN := fun _ _ σ H _ I h => wpAny_Return_none ⟨.non, σ, H, I, rfl, h⟩
def tIfS (c : TT) (t u : TS) : TS := fun D σ H => c σ H fun b H1 => if b = true then t D σ H1 else u D σ H1
theorem ps_if {c : Expr} {a b : List Stmt} {tc : TT} (hc : PT X c tc) (ha : PSs X a t) (hb : PSs X b u) : PS X (.If c a b pos) (tIfS tc t u) := by
  intro pins s σ H D I h
  refine wpAny_If (thn (hc pins s σ H _ I h) fun d s1 ⟨H1, I1, q1⟩ => ?_)
  cases d with
  | true => exact ha pins s1 σ H1 D I1 q1
  | false => exact hb pins s1 σ H1 D I1 q1
/-- code that the proof never comes to -/
def tNever : TS := fun _ _ _ => False
theorem ps_never : PS X st tNever := fun _ _ _ _ _ _ h => h.elim
theorem pss_never {sts : List Stmt} : PSs X sts tNever := fun _ _ _ _ _ _ h => h.elim
end

/-! ### targets -/
abbrev TG := V → St → Hp → (St → Hp → Prop) → Prop
abbrev TGs := List V → St → Hp → (St → Hp → Prop) → Prop
def PG (X : Cx) (target : Expr) (t : TG) : Prop :=
  ∀ (pins : List (Addr × Obj)) (s : Shared) (σ : St) (H : Hp) (v : V) (u : Value) (Q : St → Hp → Prop), Inv X pins σ H s → RelV v u → t v σ H Q →
    wpAny (model X.prog X.w) X.A (assign target X.env u) (fun _ s' => ∃ σ' H', Inv X pins σ' H' s' ∧ Q σ' H') X.xe s
/-- several targets, one after another -/
def PGs (X : Cx) (ts : List Expr) (t : TGs) : Prop :=
  ∀ (pins : List (Addr × Obj)) (s : Shared) (σ : St) (H : Hp) (vs : List V) (us : List Value) (Q : St → Hp → Prop), Inv X pins σ H s → Vals vs us → t vs σ H Q →
    wpAny (model X.prog X.w) X.A (assignInOrder ((assignEach ts X.env).map (·.2)) us) (fun _ s' => ∃ σ' H', Inv X pins σ' H' s' ∧ Q σ' H') X.xe s
/-- o[i] = v, by values -/
abbrev TSet := V → V → V → Hp → (Hp → Prop) → Prop
def PSet (X : Cx) (t : TSet) : Prop :=
  ∀ (pins : List (Addr × Obj)) (s : Shared) (σ : St) (H : Hp) (o i v : V) (ov iv u : Value) (Q : Hp → Prop), Inv X pins σ H s → RelV o ov → RelV i iv → RelV v u → t o i v H Q →
    wpAny (model X.prog X.w) X.A (setItem ov iv u) (fun _ s' => ∃ H', Inv X pins σ H' s' ∧ Q H') X.xe s
/-- a op= b, by values -/
abbrev TIp := V → V → Hp → VK → Prop
def PIp (X : Cx) (op : Operator) (t : TIp) : Prop :=
  ∀ (pins : List (Addr × Obj)) (s : Shared) (σ : St) (H : Hp) (x y : V) (v u : Value) (Q : VK), Inv X pins σ H s → RelV x v → RelV y u → t x y H Q →
    wpAny (model X.prog X.w) X.A (inplaceOp op v u) (EP X pins σ Q) X.xe s
section
variable {X : Cx} {pos : Pos}
def gName (i : Nat) : TG := fun v σ H Q => Q (σ.set i (some v)) H
theorem pg_name {i : Nat} {x : Str} (hN : X.N.Nodup) (hi : X.N[i]? = some x) (hx : Loc X.env.scope x) (hf : X.fn x = true ∨ X.env.scope.names.lookup x = some .local := by first | exact .inl rfl | exact .inr rfl | assumption) : PG X (.Name x pos) (gName i) := by
  intro pins s σ H v u Q I r h
  exact wpAny_assign_Name (store_ok I hN hi hx r (fun s' I' => ⟨_, H, I', h⟩) hf)
def gNil : TGs := fun vs σ H Q => vs = [] ∧ Q σ H
def gCons (t : TG) (u : TGs) : TGs := fun vs σ H Q => ∃ v r, vs = v :: r ∧ t v σ H fun σ' H' => u r σ' H' Q
theorem pgs_nil : PGs X [] gNil := by
  intro pins s σ H vs us Q I r h
  obtain ⟨e, h⟩ := h
  subst e
  cases r
  exact assignInOrder_nil ⟨σ, H, I, h⟩
theorem pgs_cons {e : Expr} {es : List Expr} {t : TG} {u : TGs} (h1 : PG X e t) (h2 : PGs X es u)
    (hs : (assignEach (e :: es) X.env).map (·.2) = assign e X.env :: (assignEach es X.env).map (·.2) := by rfl) : PGs X (e :: es) (gCons t u) := by
  intro pins s σ H vs us Q I r h
  obtain ⟨v, vr, e1, h⟩ := h
  subst e1
  cases r with
  | cons r rr =>
    rw [hs]
    refine assignInOrder_cons (thn (h1 pins s σ H _ _ _ I r h) fun _ s1 ⟨σ1, H1, I1, q1⟩ => ?_)
    exact h2 pins s1 σ1 H1 _ _ Q I1 rr q1
/-- (a, b, ..) = a tuple of that length -/
def gTup (K : PySem.W.Frag) (n : Nat) (t : TGs) : TG := fun v σ H Q => ∃ a xs, v = .ref a ∧ SqT K H a xs ∧ xs.length = n ∧ t xs σ H Q
theorem pg_tup {es : List Expr} {k : Nat} {t : TGs} {n : Nat} (hc : X.calm = true) (h : PGs X es t)
    (hn : (assignEach es X.env).length = n := by rfl) (hst : (assignEach es X.env).findIdx? (·.1) = none := by rfl) : PG X (.Tuple es k pos) (gTup X.K n t) := by
  intro pins s σ H v u Q I r hw
  obtain ⟨a, xs, e1, hq, hl, hw⟩ := hw
  subst e1
  cases r
  obtain ⟨its, rv, ht, hz⟩ := I.tuple hq
  refine assign_Tuple_tuple (I.ok.hd hc) ht (by simp [hn, ← hl, rv.length]) hst fun h' hx => ?_
  have I1 : Inv X pins σ H { s with heap := h' } := I.kept (t' := s.toks) fun b o e => hx b o (Nat.ne_of_lt (Heap.lt_size e)) e
  exact h pins _ σ H xs _ Q I1 (by simpa using rv) hw
/-- o[i] = .. -/
def gSub (to ti : TE) (t : TSet) : TG := fun v σ H Q => to σ H fun o H1 => ti σ H1 fun i H2 => t o i v H2 fun H3 => Q σ H3
theorem pg_sub {o i : Expr} {to ti : TE} {t : TSet} (ho : PE X o to) (hi : PE X i ti) (hs : PSet X t)
    (ha : ∀ v, assign (.Subscript o i pos) X.env v = (do
      let ov ← holding [v] (eval o X.env)
      let iv ← holding [v, ov] (eval i X.env)
      standAt pos
      holding [v, ov, iv] (setItem ov iv v)
      release [v, ov, iv] []) := by intro _; rfl) : PG X (.Subscript o i pos) (gSub to ti t) := by
  intro pins s σ H v u Q I r h
  rw [ha]
  refine wpAny_bind (wpAny_holding (thn (ho pins s σ H _ I h) fun ov s1 ⟨x, H1, I1, r1, q1⟩ => ?_))
  refine wpAny_bind (wpAny_holding (thn (hi pins s1 σ H1 _ I1 q1) fun iv s2 ⟨y, H2, I2, r2, q2⟩ => ?_))
  refine wpAny_bind (wpAny_standAt (wpAny_bind (wpAny_holding (thn (hs pins s2 σ H2 x y v ov iv u _ I2 r1 r2 r q2) fun _ s3 ⟨H3, I3, q3⟩ => ?_))))
  exact wpAny_release ⟨σ, H3, I3, q3⟩
/-- target = value -/
def tAsg (te : TE) (g : TG) : TS := fun D σ H => te σ H fun x H1 => g x σ H1 D.nx
theorem ps_asg {tg e : Expr} {te : TE} {g : TG} (he : PE X e te) (hg : PG X tg g) (hs : swapsWithSole [tg] e pos.line X.env = pure false := by rfl) (hw : swappedStores [tg] e X.env = pure none := by rfl)
    (h1 : (assignEach [tg] X.env).map (·.2) = [assign tg X.env] := by rfl) : PS X (.Assign [tg] e pos) (tAsg te g) := by
  intro pins s σ H D I h
  refine wpAny_Assign_stores (thn (he pins s σ H _ I h) fun v s1 ⟨x, H1, I1, r1, q1⟩ => ?_) hs hw
  rw [h1]
  exact thn (hg pins s1 σ H1 x v _ I1 r1 q1) fun _ s2 q => q
/-- name = value -/
theorem ps_set {i : Nat} {x : Str} {e : Expr} {te : TE} {pos' : Pos} (hN : X.N.Nodup) (hi : X.N[i]? = some x) (hx : Loc X.env.scope x) (he : PE X e te) (hs : swapsWith e (some (.Name x pos')) pos.line X.env = pure false := by rfl) (hf : X.fn x = true ∨ X.env.scope.names.lookup x = some .local := by first | exact .inl rfl | exact .inr rfl | assumption) :
    PS X (.Assign [.Name x pos'] e pos) (tAsg te (gName i)) := by
  intro pins s σ H D I h
  refine wpAny_Assign_Name (thn (he pins s σ H _ I h) fun v s1 ⟨y, H1, I1, r1, q1⟩ => ?_) hs
  exact store_ok I1 hN hi hx r1 (fun s2 I2 => ⟨_, H1, I2, q1⟩) hf
/-- a, b = x, y with plain local names: stored from the right; the pair itself is not tracked (the opening rows as in PyProof/Rows/TupAssign.lean:23) -/
def tPar (i j : Nat) (ta : TA) : TS := fun D σ H => ta σ H fun vs H1 => ∃ v w, vs = [v, w] ∧ D.nx ((σ.set i (some v)).set j (some w)) H1
theorem ps_par {i j : Nat} {x y : Str} {a b : Expr} {ta : TA} {px py pt : Pos} {kt k2 pt2} (hc : X.calm = true) (hN : X.N.Nodup) (hi : X.N[i]? = some x) (hj : X.N[j]? = some y) (hij : i ≠ j)
    (hx : X.env.scope.names.lookup x = some .local) (hy : X.env.scope.names.lookup y = some .local) (ha : PA X [a, b] ta)
    (hw : swappedStores [.Tuple [.Name x px, .Name y py] kt pt] (.Tuple [a, b] k2 pt2) X.env = pure (some [x, y]))
    (hs : swapsWithSole [.Tuple [.Name x px, .Name y py] kt pt] (.Tuple [a, b] k2 pt2) pos.line X.env = pure false := by rfl) :
    PS X (.Assign [.Tuple [.Name x px, .Name y py] kt pt] (.Tuple [a, b] k2 pt2) pos) (tPar i j ta) := by
  intro pins s σ H D I h
  rw [exec_Assign_arm]
  refine wpAny_bind (wpAny_standAt ?_)
  rw [hs]
  refine wpAny_bind (wpAny_pure ?_)
  rw [if_neg (by decide)]
  refine wpAny_bind (Tuple_ (thn (ha _ pins s σ H _ I h) fun us s1 ⟨vs, H1, I1, r1, q1⟩ => ?_))
  obtain ⟨v, w, e1, q1⟩ := q1
  subst e1
  obtain ⟨u1, u2, rfl, rv, rw'⟩ : ∃ u1 u2, us = [u1, u2] ∧ RelV v u1 ∧ RelV w u2 := by
    cases r1 with
    | cons p q =>
      cases q with
      | cons p' q' =>
        cases q'
        exact ⟨_, _, rfl, p, p'⟩
  refine wpAny_newObj_type ?_ (by show 2 ≤ sizeLine; decide)
  have I2 : Inv X pins σ H1 { s1 with heap := s1.heap.push { cls := .type "tuple", data := .seq [u1, u2].toArray } } := I1.kept (t' := s1.toks) fun b o e => Heap.get?_push_of_some _ e
  rw [hw]
  refine wpAny_bind (wpAny_pure ?_)
  show wpAny (model X.prog X.w) X.A (do rule "assign.swapped-stores"; let items ← unpackItems (.ref s1.heap.objs.size) 2 none; assignInOrder [fun v => bindName X.env y v, fun v => bindName X.env x v] items.reverse; pure Flow.next) _ _ _
  refine wpAny_bind (wpAny_rule (wpAny_bind (unpackItems_tuple (items := #[u1, u2]) (I.ok.hd hc) (IsTup.new s1.heap _) fun h' hx' => ?_)))
  have I3 := I2.kept (h' := h') (t' := s1.toks) fun b o e => hx' b o (Nat.ne_of_lt (Heap.lt_size e)) e
  show wpAny _ _ (assignInOrder [fun v => bindName X.env y v, fun v => bindName X.env x v] [u2, u1] >>= fun _ => pure Flow.next) _ _ _
  refine wpAny_bind (assignInOrder_cons (wpAny_bindName (store_ok I3 hN hj (.inl hy) rw' (fun s2 I4 => ?_) (.inr hy))))
  refine assignInOrder_cons (wpAny_bindName (store_ok I4 hN hi (.inl hx) rv (fun s3 I5 => assignInOrder_nil (wpAny_pure ?_)) (.inr hx)))
  rw [List.set_comm _ _ (Ne.symm hij)] at I5
  exact ⟨_, H1, I5, q1⟩
/-- name op= e -/
def tAug (i : Nat) (te : TE) (ti : TIp) : TS := fun D σ H => ∃ x, σ[i]? = some (some x) ∧ te σ H fun y H1 => ti x y H1 fun z H2 => D.nx (σ.set i (some z)) H2
theorem ps_aug {i : Nat} {x : Str} {e : Expr} {te : TE} {op : Operator} {ti : TIp} {pos' : Pos} (hN : X.N.Nodup) (hi : X.N[i]? = some x) (hx : Loc X.env.scope x) (he : PE X e te) (ho : PIp X op ti) (hf : X.fn x = true ∨ X.env.scope.names.lookup x = some .local := by first | exact .inl rfl | exact .inr rfl | assumption) :
    PS X (.AugAssign (.Name x pos') op e pos) (tAug i te ti) := by
  intro pins s σ H D I h
  obtain ⟨v, e1, h⟩ := h
  obtain ⟨m, hn, hl⟩ := I.loc
  have vis : Vis X.env.scope x := by rcases hx with k | k; exact .inl k; exact .inr (.inl k)
  obtain ⟨u, r, l⟩ := hl i x v hi e1 vis
  refine wpAny_AugAssign_Name ?_
  have go : wpAny (model X.prog X.w) X.A (eval e X.env) (fun w s₂ => wpAny (model X.prog X.w) X.A (inplaceOp op u w) (fun r s₃ => wpAny (model X.prog X.w) X.A (storeName X.env x r) (fun _ => SP X pins D .next) X.xe s₃) X.xe s₂) X.xe s := by
    refine thn (he pins s σ H _ I h) fun w s1 ⟨y, H1, I1, r1, q1⟩ => ?_
    refine thn (ho pins s1 σ H1 v y u w _ I1 r r1 q1) fun z s2 ⟨zv, H2, I2, r2, q2⟩ => ?_
    exact store_ok I2 hN hi hx r2 (fun s3 I3 => ⟨_, H2, I3, q2⟩) hf
  rcases l with ⟨hk, hm⟩ | ⟨hk, c, hc, hcell⟩
  · exact wpAny_loadName_local I.ok.kind hk hn hm go
  · rcases hk with hk | hk
    · exact wpAny_loadName_cell I.ok.kind hk hc hcell go
    · rcases hx with k | k
      · have : X.env.scope.names.lookup x = some .free := hk
        rw [k] at this; cases this
      · have : X.env.scope.names.lookup x = some .free := hk
        rw [k] at this; cases this
/-- o[i] op= e -/
def tAugS (to ti te : TE) (tget : V → V → Hp → VK → Prop) (tip : TIp) (tset : TSet) : TS := fun D σ H => to σ H fun o H1 => ti σ H1 fun i H2 => tget o i H2 fun x H3 => te σ H3 fun y H4 => tip x y H4 fun z H5 => tset o i z H5 fun H6 => D.nx σ H6
/-- o[i], by values -/
def PGet (X : Cx) (t : V → V → Hp → VK → Prop) : Prop :=
  ∀ (pins : List (Addr × Obj)) (s : Shared) (σ : St) (H : Hp) (o i : V) (ov iv : Value) (Q : VK), Inv X pins σ H s → RelV o ov → RelV i iv → t o i H Q →
    wpAny (model X.prog X.w) X.A (getItem ov iv) (EP X pins σ Q) X.xe s
theorem ps_augS {o i e : Expr} {to ti te : TE} {tget : V → V → Hp → VK → Prop} {tip : TIp} {tset : TSet} {op : Operator} {tpos : Pos} (ho : PE X o to) (hi : PE X i ti) (hg : PGet X tget) (he : PE X e te) (hp : PIp X op tip) (hs : PSet X tset)
    (ha : ∀ ov iv new, augStore i ov iv new = (do holding [new, ov, iv] (setItem ov iv new); release [new, ov, iv] []; pure .next) := by intros; rfl) : PS X (.AugAssign (.Subscript o i tpos) op e pos) (tAugS to ti te tget tip tset) := by
  intro pins s σ H D I h
  refine wpAny_AugAssign_SubscriptAny (thn (ho pins s σ H _ I h) fun ov s1 ⟨x1, H1, I1, r1, q1⟩ => ?_) ha
  refine thn (hi pins s1 σ H1 _ I1 q1) fun iv s2 ⟨x2, H2, I2, r2, q2⟩ => ?_
  refine thn (hg pins s2 σ H2 x1 x2 ov iv _ I2 r1 r2 q2) fun old s3 ⟨x3, H3, I3, r3, q3⟩ => ?_
  refine thn (he pins s3 σ H3 _ I3 q3) fun v s4 ⟨x4, H4, I4, r4, q4⟩ => ?_
  refine thn (hp pins s4 σ H4 x3 x4 old v _ I4 r3 r4 q4) fun new s5 ⟨x5, H5, I5, r5, q5⟩ => ?_
  exact thn (hs pins s5 σ H5 x1 x2 x5 ov iv new _ I5 r1 r2 r5 q5) fun _ s6 ⟨H6, I6, q6⟩ => ⟨σ, H6, I6, q6⟩
/-- ints -/
def ipI (f : Int → Int → Int) : TIp := fun x y H Q => ∃ i j, x = .int i ∧ y = .int j ∧ Q (.int (f i j)) H
theorem ip_add : PIp X .Add (ipI fun i j => i + j) := by
  intro pins s σ H x y v u Q I r1 r2 h
  obtain ⟨i, j, e1, e2, q⟩ := h
  subst e1; subst e2
  obtain ⟨t, rfl⟩ := r1
  obtain ⟨t', rfl⟩ := r2
  exact iadd_int ⟨.int _, H, I.tok _, ⟨_, rfl⟩, q⟩
theorem ip_sub : PIp X .Sub (ipI fun i j => i - j) := by
  intro pins s σ H x y v u Q I r1 r2 h
  obtain ⟨i, j, e1, e2, q⟩ := h
  subst e1; subst e2
  obtain ⟨t, rfl⟩ := r1
  obtain ⟨t', rfl⟩ := r2
  exact isub_int ⟨.int _, H, I.tok _, ⟨_, rfl⟩, q⟩
end

/-! ### while -/
section
variable {X : Cx} {pos : Pos}
/-- the invariant W with its measure -/
def tWhile (c : TT) (tb : TS) : TS := fun D σ H => ∃ W : Nat → St → Hp → Prop, (∃ m, W m σ H) ∧ ∀ m σ H, W m σ H →
  c σ H fun b H1 => if b = true then ∃ N : St → Hp → Prop, (∀ σ' H', N σ' H' → ∃ m', m' < m ∧ W m' σ' H') ∧ tb { D with nx := N, ct := N, bk := D.nx } σ H1 else D.nx σ H1
theorem ps_while {c : Expr} {body : List Stmt} {tc : TT} {tb : TS} (hp : PassesOwn (model X.prog X.w) X.A X.env X.xe) (hc : PT X c tc) (hb : PSs X body tb) : PS X (.While c body [] pos) (tWhile tc tb) := by
  intro pins s σ H D I h
  obtain ⟨W, ⟨m0, w0⟩, turn⟩ := h
  refine wpAny_While (codeAny_whileLoop (fun n s' => ∃ σ' H', Inv X pins σ' H' s' ∧ W n σ' H') ?_ m0 ⟨σ, H, I, w0⟩)
  rintro n s1 ⟨σ1, H1, I1, w1⟩
  refine wpAny_passesOwn hp (thn (hc pins s1 σ1 H1 _ I1 (turn n σ1 H1 w1)) fun b s2 ⟨H2, I2, q2⟩ => ?_)
  cases b with
  | true =>
    obtain ⟨N, hN, q2⟩ := q2
    rw [if_pos rfl]
    refine wpAny_passesOwn hp (thn (hb pins s2 σ1 H2 _ I2 q2) fun f s3 q3 => ?_)
    cases f with
    | next =>
      obtain ⟨σ3, H3, I3, n3⟩ := q3
      obtain ⟨m', hm, w3⟩ := hN σ3 H3 n3
      exact ⟨m', hm, σ3, H3, I3, w3⟩
    | cont =>
      obtain ⟨σ3, H3, I3, n3⟩ := q3
      obtain ⟨m', hm, w3⟩ := hN σ3 H3 n3
      exact ⟨m', hm, σ3, H3, I3, w3⟩
    | brk => exact q3
    | ret v => exact q3
  | false =>
    rw [if_neg Bool.false_ne_true]
    exact wpAny_execs_nil ⟨σ1, H2, I2, q2⟩
end

/-! ### what a loop or a comprehension walks -/
/-- at turn i: it yields x (the heap may grow), or it stops -/
structure It where
  go : Nat → Hp → Prop
  yld : Nat → Hp → V → Hp → Prop
  stop : Nat → Hp → Prop
/-- the iterator's own objects may turn: they are not the frame's, not pinned, younger than the entry (or a comprehension's own) -/
def FpOk (X : Cx) (pins : List (Addr × Obj)) (H : Hp) (b : Addr) : Prop :=
  H b = none ∧ b ≠ X.env.locals ∧ b ∉ X.fs ∧ (b ∈ X.ex ∨ X.s₀.heap.objs.size ≤ b) ∧ (∀ x c, X.env.cells.lookup x = some c → c ≠ b) ∧ ∀ p ∈ X.pn ++ pins, p.1 ≠ b
theorem Inv.fpOk {X : Cx} {pins : List (Addr × Obj)} {σ : St} {H H' : Hp} {s : Shared} {b : Addr} (I : Inv X pins σ H s) (hb : s.heap.objs.size ≤ b) (hn : H' b = none) : FpOk X pins H' b := by
  refine ⟨hn, Nat.ne_of_gt (Nat.lt_of_lt_of_le I.lt hb), I.nofs hb, .inr (Nat.le_trans I.sz hb), fun x c e z => ?_, fun p hp z => ?_⟩
  · obtain ⟨v, q⟩ := I.cell x c e
    exact absurd (Nat.lt_of_lt_of_le q.lt (by rw [z]; exact hb)) (Nat.lt_irrefl _)
  · exact absurd (Nat.lt_of_lt_of_le (Heap.lt_size (I.pin p hp).1) (by rw [z]; exact hb)) (Nat.lt_irrefl _)
structure Turn (P : Program) (w : World) (K : PySem.W.Frag) (tg : Expr) (J : It) (fp : List Addr) (it : Addr) (tn : Nat → Heap → Prop) : Prop where
  mem : it ∈ fp
  obj : ∀ i h, tn i h → ∀ b ∈ fp, ∃ o, h.get? b = some o ∧ ∀ v, o.data ≠ .cell v
  keep : ∀ i h h', tn i h → (∀ b ∈ fp, ∀ o, h.get? b = some o → h'.get? b = some o) → tn i h'
  item : ∀ (X : Cx), X.prog = P → X.w = w → X.K = K → X.calm = true → ∀ (i : Nat) (pins : List (Addr × Obj)) (s : Shared) (σ : St) (H : Hp) (E : Value → Shared → Prop), Inv X pins σ H s → (∀ b ∈ fp, FpOk X pins H b) → tn i s.heap → J.go i H →
    wpAny (model P w) X.A (pyNext (.ref it)) (fun r s1 => ∃ u, r = some u ∧
      wpAny (model P w) X.A (letOwnedTupleGo tg (.ref it) u) (fun _ s2 => ∃ x H', Inv X pins σ H' s2 ∧ RelV x u ∧ J.yld i H x H' ∧ tn (i + 1) s2.heap ∧ ∀ b ∈ fp, H' b = none) E s1) E s
  done : ∀ (X : Cx), X.prog = P → X.w = w → X.K = K → X.calm = true → ∀ (i : Nat) (pins : List (Addr × Obj)) (s : Shared) (σ : St) (H : Hp) (E : Value → Shared → Prop), Inv X pins σ H s → (∀ b ∈ fp, FpOk X pins H b) → tn i s.heap → J.stop i H →
    wpAny (model P w) X.A (pyNext (.ref it)) (fun r s1 => r = none ∧ Inv X pins σ H s1) E s
  self : ∀ (A : Around) (i : Nat) (s : Shared) (Q : Value → Shared → Prop) (E : Value → Shared → Prop), tn i s.heap → Q (.ref it) s → wpAny (model P w) A (pyIter (.ref it)) Q E s
abbrev TI := St → Hp → (It → Hp → Prop) → Prop
/-- an iterator has come -/
def PIE (X : Cx) (pins : List (Addr × Obj)) (σ : St) (tg : Expr) (R : It → Hp → Prop) (itv : Value) (s2 : Shared) : Prop :=
  ∃ (it : Addr) (fp : List Addr) (tn : Nat → Heap → Prop) (J : It) (H' : Hp), itv = .ref it ∧ Inv X pins σ H' s2 ∧ Turn X.prog X.w X.K tg J fp it tn ∧ tn 0 s2.heap ∧ (∀ b ∈ fp, FpOk X pins H' b) ∧ R J H'
def PI (X : Cx) (tg iter : Expr) (wi : TI) : Prop :=
  ∀ (pins : List (Addr × Obj)) (s : Shared) (σ : St) (H : Hp) (R : It → Hp → Prop), Inv X pins σ H s → wi σ H R →
    wpAny (model X.prog X.w) X.A (eval iter X.env) (fun v s1 => wpAny (model X.prog X.w) X.A (pyIter v) (PIE X pins σ tg R) X.xe s1) X.xe s

/-- the step ahead of the store is nothing for an iterator that keeps no tuple -/
theorem go_of {M : Model} {A : Around} {E : Value → Shared → Prop} {s : Shared} {tg : Expr} {it : Addr} {u : Value} {o : Obj} {n : String} {vs : Array Value} {Q : Unit → Shared → Prop} (ho : s.heap.get? it = some o) (hc : o.cls = .type n) (hd : o.data = .fields vs)
    (hn : ["enumerate", "zip", "dict_itemiterator", "dict_reverseitemiterator", "odict_iterator", "itertools.zip_longest", "itertools.pairwise"].contains n = false) (hQ : Q () s) : wpAny M A (letOwnedTupleGo tg (.ref it) u) Q E s := by
  unfold letOwnedTupleGo
  cases tg <;> first
    | exact wpAny_pure hQ
    | (cases u <;> first
        | exact wpAny_pure hQ
        | (refine wpAny_bind (wpAny_load ho ?_)
           rw [hc, hd]
           show wpAny M A (if (["enumerate", "zip", "dict_itemiterator", "dict_reverseitemiterator", "odict_iterator", "itertools.zip_longest", "itertools.pairwise"].contains n && vs[0]? == some (rawInt _)) = true then _ else _) Q E s
           rw [if_neg (by intro h; rw [hn, Bool.false_and] at h; cases h)]
           exact wpAny_pure hQ))

/-- the list at a, as it stands at each turn (a loop may append to it) -/
def Itl (K : PySem.W.Frag) (a : Addr) : It :=
  ⟨fun i H => ∃ xs x, SqL K H a xs ∧ xs[i]? = some x, fun i H x H' => H' = H ∧ ∀ xs, SqL K H a xs → xs[i]? = some x, fun i H => ∃ xs, SqL K H a xs ∧ xs.length ≤ i⟩
def Itt (K : PySem.W.Frag) (a : Addr) : It :=
  ⟨fun i H => ∃ xs x, SqT K H a xs ∧ xs[i]? = some x, fun i H x H' => H' = H ∧ ∀ xs, SqT K H a xs → xs[i]? = some x, fun i H => ∃ xs, SqT K H a xs ∧ xs.length ≤ i⟩
/-- lo, lo + 1, .. (n of them) -/
def Itr (lo : Int) (n : Nat) : It := ⟨fun i _ => i < n, fun i H x H' => H' = H ∧ x = .int (lo + i), fun i _ => n ≤ i⟩
theorem turn_list {P : Program} {w : World} {K : PySem.W.Frag} {tg : Expr} (a it : Addr) : Turn P w K tg (Itl K a) [it] it (fun i h => h.IsListIter it a i) where
  mem := by simp
  obj := fun i h st b hb => by
    have e : b = it := by simpa using hb
    subst e
    obtain ⟨o, e, c, d⟩ := st
    exact ⟨o, e, fun v z => by rw [d] at z; cases z⟩
  keep := fun i h h' st k => st.at fun o e => k it (by simp) o e
  item := by
    intro X hP hw hK hc i pins s σ H E I hf st hg
    subst hP hw hK
    obtain ⟨xs, x, hq, hx⟩ := hg
    obtain ⟨its, rv, p, hz⟩ := I.list hq
    obtain ⟨u, hu, ru⟩ := rv.get hx
    obtain ⟨f0, f1, f2, f3, f4, f5⟩ := hf it (by simp)
    refine wpAny_pyNext_list_item st p.isList (x := u) (by simpa using hu) fun h' st' sb => ?_
    have I1 : Inv X pins σ H { s with heap := h' } := I.turned (t' := s.toks) (fun b o hb e => (sb.2 b hb).trans e) f0 f1 f3 f4 f5
    obtain ⟨o, e, c, d⟩ := id st'
    exact ⟨u, rfl, go_of (s := { s with heap := h' }) e c d (by decide) ⟨x, H, I1, ru, ⟨rfl, fun ys hy => by rw [I.list_inj hy hq]; exact hx⟩, st', fun b hb => (hf b hb).1⟩⟩
  done := by
    intro X hP hw hK hc i pins s σ H E I hf st hg
    subst hP hw hK
    obtain ⟨xs, hq, hx⟩ := hg
    obtain ⟨its, rv, p, hz⟩ := I.list hq
    obtain ⟨f0, f1, f2, f3, f4, f5⟩ := hf it (by simp)
    have hl := rv.length
    exact wpAny_pyNext_list_end (I.ok.hd hc) st p.isList (by simp; omega) fun h' eb => ⟨rfl, I.turned (t' := s.toks) (fun b o hb e => eb b o hb e) f0 f1 f3 f4 f5⟩
  self := fun _ _ _ _ _ st h => wpAny_pyIter_listiter st h
theorem turn_tuple {P : Program} {w : World} {K : PySem.W.Frag} {tg : Expr} (a it : Addr) : Turn P w K tg (Itt K a) [it] it (fun i h => h.IsTupleIter it a i) where
  mem := by simp
  obj := fun i h st b hb => by
    have e : b = it := by simpa using hb
    subst e
    obtain ⟨o, e, c, d⟩ := st
    exact ⟨o, e, fun v z => by rw [d] at z; cases z⟩
  keep := fun i h h' st k => st.at fun o e => k it (by simp) o e
  item := by
    intro X hP hw hK hc i pins s σ H E I hf st hg
    subst hP hw hK
    obtain ⟨xs, x, hq, hx⟩ := hg
    obtain ⟨its, rv, p, hz⟩ := I.tuple hq
    obtain ⟨u, hu, ru⟩ := rv.get hx
    obtain ⟨f0, f1, f2, f3, f4, f5⟩ := hf it (by simp)
    refine wpAny_pyNext_tuple_item st (show s.heap.IsTuple a its.toArray from p) (x := u) (by simpa using hu) fun h' st' sb => ?_
    have I1 : Inv X pins σ H { s with heap := h' } := I.turned (t' := s.toks) (fun b o hb e => (sb.2 b hb).trans e) f0 f1 f3 f4 f5
    obtain ⟨o, e, c, d⟩ := id st'
    exact ⟨u, rfl, go_of (s := { s with heap := h' }) e c d (by decide) ⟨x, H, I1, ru, ⟨rfl, fun ys hy => by rw [I.tuple_inj hy hq]; exact hx⟩, st', fun b hb => (hf b hb).1⟩⟩
  done := by
    intro X hP hw hK hc i pins s σ H E I hf st hg
    subst hP hw hK
    obtain ⟨xs, hq, hx⟩ := hg
    obtain ⟨its, rv, p, hz⟩ := I.tuple hq
    obtain ⟨f0, f1, f2, f3, f4, f5⟩ := hf it (by simp)
    have hl := rv.length
    exact wpAny_pyNext_tuple_end (I.ok.hd hc) st (show s.heap.IsTuple a its.toArray from p) (by simp; omega) fun h' eb => ⟨rfl, I.turned (t' := s.toks) (fun b o hb e => eb b o hb e) f0 f1 f3 f4 f5⟩
  self := fun _ _ _ _ _ st h => wpAny_pyIter_tupleiter st h
theorem turn_range {P : Program} {w : World} {K : PySem.W.Frag} {tg : Expr} (it : Addr) (lo : Int) (n : Nat) : Turn P w K tg (Itr lo n) [it] it (fun i h => IsRangeIter h it (lo + (i : Nat) * 1) ((n : Int) - (i : Nat)) 1) where
  mem := by simp
  obj := fun i h st b hb => by
    have e : b = it := by simpa using hb
    subst e
    exact ⟨_, st, fun v z => by
      have z' : Data.fields _ = Data.cell v := z
      cases z'⟩
  keep := fun i h h' st k => k it (by simp) _ st
  item := by
    intro X hP hw hK hc i pins s σ H E I hf st hg
    subst hP hw hK
    obtain ⟨f0, f1, f2, f3, f4, f5⟩ := hf it (by simp)
    have W := Walks.range (prog := X.prog) (w := X.w) (I.ok.hd hc) it lo 1 n
    refine W.item i s _ _ hg st fun v h' tk hv st' kk => ?_
    obtain ⟨t, rfl⟩ := hv
    have I1 : Inv X pins σ H { s with heap := h', toks := tk } := I.turned (fun b o hb e => kk b o (by simpa using hb) e) f0 f1 f3 f4 f5
    refine ⟨_, rfl, go_of (s := { s with heap := h', toks := tk }) (n := "range_iterator") st' rfl rfl (by decide) ⟨.int (lo + i), H, I1, ⟨t, ?_⟩, ⟨rfl, rfl⟩, st', fun b hb => (hf b hb).1⟩⟩
    rw [Int.mul_one]
  done := by
    intro X hP hw hK hc i pins s σ H E I hf st hg
    subst hP hw hK
    obtain ⟨f0, f1, f2, f3, f4, f5⟩ := hf it (by simp)
    exact wpAny_pyNext_range_end (I.ok.hd hc) st (by have : n ≤ i := hg; omega) fun h' eb => ⟨rfl, I.turned (t' := s.toks) (fun b o hb e => eb b o hb e) f0 f1 f3 f4 f5⟩
  self := fun _ _ _ _ _ st h => wpAny_pyIter_rangeiter st h
end L2

namespace L2
open PySem PySem.Spec PyProof.Rows
section
variable {X : Cx} {tg : Expr}
def iList (K : PySem.W.Frag) (tl : TE) : TI := fun σ H R => tl σ H fun x H1 => ∃ a, x = .ref a ∧ (∃ xs, SqL K H1 a xs) ∧ R (Itl K a) H1
def iTup (K : PySem.W.Frag) (tl : TE) : TI := fun σ H R => tl σ H fun x H1 => ∃ a, x = .ref a ∧ (∃ xs, SqT K H1 a xs) ∧ R (Itt K a) H1
theorem pi_list {l : Expr} {tl : TE} (hl : PE X l tl) : PI X tg l (iList X.K tl) := by
  intro pins s σ H R I h
  refine thn (hl pins s σ H _ I h) fun v s1 ⟨x, H1, I1, r1, q1⟩ => ?_
  obtain ⟨a, e, ⟨xs, hq⟩, q⟩ := q1
  subst e
  cases r1
  obtain ⟨its, rv, p, hz⟩ := I1.list hq
  refine wpAny_pyIter_list p.isList ?_
  refine ⟨s1.heap.objs.size, [s1.heap.objs.size], _, _, H1, rfl, I1.kept (t' := s1.toks) fun b o e => Heap.get?_push_of_some _ e, turn_list a _, ⟨_, Heap.get?_push_size _ rfl, rfl, rfl⟩, fun b hb => ?_, q⟩
  have e : b = s1.heap.objs.size := by simpa using hb
  subst e
  exact I1.fpOk (Nat.le_refl _) (I1.hok.fresh (Nat.le_refl _))
theorem pi_tup {l : Expr} {tl : TE} (hl : PE X l tl) : PI X tg l (iTup X.K tl) := by
  intro pins s σ H R I h
  refine thn (hl pins s σ H _ I h) fun v s1 ⟨x, H1, I1, r1, q1⟩ => ?_
  obtain ⟨a, e, ⟨xs, hq⟩, q⟩ := q1
  subst e
  cases r1
  obtain ⟨its, rv, p, hz⟩ := I1.tuple hq
  refine wpAny_pyIter_tuple (show s1.heap.IsTuple a its.toArray from p) ?_
  refine ⟨s1.heap.objs.size, [s1.heap.objs.size], _, _, H1, rfl, I1.kept (t' := s1.toks) fun b o e => Heap.get?_push_of_some _ e, turn_tuple a _, ⟨_, Heap.get?_push_size _ rfl, rfl, rfl⟩, fun b hb => ?_, q⟩
  have e : b = s1.heap.objs.size := by simpa using hb
  subst e
  exact I1.fpOk (Nat.le_refl _) (I1.hok.fresh (Nat.le_refl _))
/-- a range object just made, walked -/
theorem range_it {pins : List (Addr × Obj)} {σ : St} {H : Hp} {s : Shared} {R : It → Hp → Prop} {E : Value → Shared → Prop} {lo hi : Int} {t u v : Tok} {tk : Nat} (I : Inv X pins σ H s) (h1 : -(2 ^ 62) ≤ lo) (h2 : lo < 2 ^ 62) (h3 : -(2 ^ 62) ≤ hi) (h4 : hi < 2 ^ 62)
    (q : R (Itr lo (hi - lo).toNat) H) : wpAny (model X.prog X.w) X.A (pyIter (.ref s.heap.objs.size)) (PIE X pins σ tg R) E { s with heap := s.heap.push { cls := .type "range", data := .fields #[.int lo t, .int hi u, .int 1 v] }, toks := tk } := by
  refine wpAny_pyIter_range (IsRange.new ..) (small_one h1 h2 h3 h4) ?_
  have I1 : Inv X pins σ H { s with heap := s.heap.push { cls := .type "range", data := .fields #[.int lo t, .int hi u, .int 1 v] }, toks := tk } := I.kept fun b o e => Heap.get?_push_of_some _ e
  refine ⟨(s.heap.push { cls := .type "range", data := .fields #[.int lo t, .int hi u, .int 1 v] }).objs.size, [(s.heap.push { cls := .type "range", data := .fields #[.int lo t, .int hi u, .int 1 v] }).objs.size], _, _, H, rfl,
    I1.kept (t' := tk) fun b o e => Heap.get?_push_of_some _ e, turn_range _ lo (hi - lo).toNat, ?_, fun b hb => ?_, q⟩
  · have e1 : lo + ((0 : Nat) : Int) * 1 = lo := by simp
    have e2 : (((hi - lo).toNat : Nat) : Int) - ((0 : Nat) : Int) = Builtin.Range.rangeSize lo hi 1 := by rw [rangeSize_one]; split <;> omega
    show IsRangeIter _ _ (lo + ((0 : Nat) : Int) * 1) ((((hi - lo).toNat : Nat) : Int) - ((0 : Nat) : Int)) 1
    rw [e1, e2]
    exact Heap.get?_push_size _ rfl
  · have e : b = (s.heap.push { cls := .type "range", data := .fields #[.int lo t, .int hi u, .int 1 v] }).objs.size := by simpa using hb
    subst e
    exact I1.fpOk (Nat.le_refl _) (I1.hok.fresh (Nat.le_refl _))
def iRng1 (ta : TA) : TI := fun σ H R => ta σ H fun vs H1 => ∃ j : Int, vs = [.int j] ∧ -(2 ^ 62) ≤ j ∧ j < 2 ^ 62 ∧ R (Itr 0 j.toNat) H1
def iRng2 (ta : TA) : TI := fun σ H R => ta σ H fun vs H1 => ∃ i j : Int, vs = [.int i, .int j] ∧ (-(2 ^ 62) ≤ i ∧ i < 2 ^ 62 ∧ -(2 ^ 62) ≤ j ∧ j < 2 ^ 62) ∧ R (Itr i (j - i).toNat) H1
theorem pi_range1 {a : Expr} {ta : TA} {p pos : Pos} (hg : Gl X "range") (hm : X.mg "range" = none) (ha : PA X [a] ta) (hs : starEach [a] X.env = [(false, eval a X.env)] := by rfl) : PI X tg (.Call (.Name "range" p) [a] [] pos) (iRng1 ta) := by
  intro pins s σ H R I h
  refine Call_ (ld_blt I hg hm boot_range (PyProof.Rows.callWith_type1 (thn (ha pos pins s σ H _ I h) fun us s1 ⟨vs, H1, I1, r1, q1⟩ => ?_) hs rfl))
  obtain ⟨j, e, q1, q2, q⟩ := q1
  subst e
  cases r1 with
  | cons r rr =>
    cases rr
    obtain ⟨t, rfl⟩ := r
    exact call_range_1 (range_it I1 (by omega) (by omega) q1 q2 (by simpa using q))
theorem pi_range2 {a b : Expr} {ta : TA} {p pos : Pos} (hg : Gl X "range") (hm : X.mg "range" = none) (ha : PA X [a, b] ta) (hs : starEach [a, b] X.env = [(false, eval a X.env), (false, eval b X.env)] := by rfl) (hs2 : starEach [b] X.env = [(false, eval b X.env)] := by rfl) :
    PI X tg (.Call (.Name "range" p) [a, b] [] pos) (iRng2 ta) := by
  intro pins s σ H R I h
  refine Call_ (ld_blt I hg hm boot_range (PyProof.Rows.callWith_type1 (thn (ha pos pins s σ H _ I h) fun us s1 ⟨vs, H1, I1, r1, q1⟩ => ?_) (by rw [hs, hs2]) (by rw [hs2]; rfl)))
  obtain ⟨i, j, e, ⟨q1, q2, q3, q4⟩, q⟩ := q1
  subst e
  cases r1 with
  | cons r rr =>
    cases rr with
    | cons r' rr =>
      cases rr
      obtain ⟨t, rfl⟩ := r
      obtain ⟨t', rfl⟩ := r'
      exact call_range_2 (range_it I1 q1 q2 q3 q4 q)

/-! ### for -/
/-- W: the invariant by the turn and a measure; N: what the body is to reach -/
def tFor (wi : TI) (g : TG) (tb : TS) : TS := fun D σ H => wi σ H fun J H1 => ∃ W : Nat → Nat → St → Hp → Prop, (∃ m, W 0 m σ H1) ∧ ∀ i m σ H, W i m σ H →
  (J.stop i H ∧ D.nx σ H) ∨ (J.go i H ∧ ∃ N : St → Hp → Prop, (∀ σ' H', N σ' H' → ∃ m', m' < m ∧ W (i + 1) m' σ' H') ∧ ∀ x H', J.yld i H x H' → g x σ H' fun σ2 H2 => tb { D with nx := N, ct := N, bk := D.nx } σ2 H2)
/-- the records at fp as they stand -/
def pinsAt (fp : List Addr) (h : Heap) : List (Addr × Obj) := fp.filterMap fun b => (h.get? b).map fun o => (b, o)
theorem mem_pinsAt {fp : List Addr} {h : Heap} {b : Addr} {o : Obj} (hb : b ∈ fp) (e : h.get? b = some o) : (b, o) ∈ pinsAt fp h := List.mem_filterMap.mpr ⟨b, hb, by rw [e]; rfl⟩
theorem of_pinsAt {fp : List Addr} {h : Heap} {p : Addr × Obj} (hp : p ∈ pinsAt fp h) : p.1 ∈ fp ∧ h.get? p.1 = some p.2 := by
  obtain ⟨b, hb, e⟩ := List.mem_filterMap.mp hp
  cases q : h.get? b with
  | none => rw [q] at e; cases e
  | some o =>
    rw [q] at e
    have e' : (b, o) = p := Option.some.inj e
    subst e'
    exact ⟨hb, q⟩
theorem Inv.pinned {pins : List (Addr × Obj)} {σ : St} {H : Hp} {s : Shared} {fp : List Addr} (I : Inv X pins σ H s) (hf : ∀ b ∈ fp, FpOk X pins H b) (ho : ∀ b ∈ fp, ∃ o, s.heap.get? b = some o ∧ ∀ v, o.data ≠ .cell v) : Inv X (pins ++ pinsAt fp s.heap) σ H s :=
  I.pins_of fun p hp => (List.mem_append.mp hp).elim (fun z => I.pin p (List.mem_append_right _ z)) fun z => by
    obtain ⟨hb, e⟩ := of_pinsAt z
    obtain ⟨f0, f1, f2, _⟩ := hf p.1 hb
    obtain ⟨o, e', d⟩ := ho p.1 hb
    rw [e] at e'; cases e'
    exact ⟨e, f0, f1, f2, d⟩
theorem Inv.unpinned {pins pl : List (Addr × Obj)} {σ : St} {H : Hp} {s : Shared} (I : Inv X (pins ++ pl) σ H s) : Inv X pins σ H s := I.pins_of fun p hp => I.pin p (List.mem_append_right _ (List.mem_append_left _ hp))
theorem ps_for {iter : Expr} {body : List Stmt} {wi : TI} {g : TG} {tb : TS} {pos : Pos} (hp : PassesOwn (model X.prog X.w) X.A X.env X.xe) (hc : X.calm = true) (hi : PI X tg iter wi) (hg : PG X tg g) (hb : PSs X body tb)
    (hs : ∀ x, foldedSetIterable iter X.env x = pure x := by intro _; rfl) : PS X (.For tg iter body [] pos) (tFor wi g tb) := by
  intro pins s σ H D I h
  refine wpAny_For (thn (hi pins s σ H _ I h) fun v s1 h1 => thn h1 fun itv s2 h2 => ?_) hs
  obtain ⟨it, fp, tn, J, H2, e, I2, T, st2, f2, W, ⟨m0, w0⟩, turn⟩ := h2
  subst e
  -- what stays true of the iterator's objects through the loop
  have stat : ∀ {H' : Hp}, (∀ b ∈ fp, H' b = none) → ∀ b ∈ fp, FpOk X pins H' b := fun hn b hb => ⟨hn b hb, (f2 b hb).2⟩
  refine codeAny_forLoop_any (fun n s' => ∃ i σ' H', Inv X pins σ' H' s' ∧ tn i s'.heap ∧ (∀ b ∈ fp, H' b = none) ∧ W i n σ' H') ?_ m0 ⟨0, σ, H2, I2, st2, fun b hb => (f2 b hb).1, w0⟩
  rintro n s3 ⟨i, σ3, H3, I3, st3, fr3, w3⟩
  rcases turn i n σ3 H3 w3 with ⟨stop, qn⟩ | ⟨go, N, hN, step⟩
  · refine wpAny_passesOwn hp (thn (T.done X rfl rfl rfl hc i pins s3 σ3 H3 X.xe I3 (stat fr3) st3 stop) fun r s4 ⟨hr, I4⟩ => ?_)
    subst hr
    exact wpAny_execs_nil ⟨σ3, H3, I4, qn⟩
  · refine wpAny_passesOwn hp (thn (T.item X rfl rfl rfl hc i pins s3 σ3 H3 X.xe I3 (stat fr3) st3 go) fun r s4 ⟨u, hr, h4⟩ => ?_)
    subst hr
    refine wpAny_passesOwn hp (thn h4 fun _ s5 ⟨x, H5, I5, r5, y5, st5, fr5⟩ => ?_)
    have I5' := I5.pinned (stat fr5) (T.obj _ _ st5)
    refine wpAny_passesOwn hp (thn (hg _ s5 σ3 H5 x u _ I5' r5 (step x H5 y5)) fun _ s6 ⟨σ6, H6, I6, q6⟩ => ?_)
    refine wpAny_passesOwn hp (thn (hb _ s6 σ6 H6 _ I6 q6) fun f s7 q7 => ?_)
    have again : ∀ {σ7 : St} {H7 : Hp}, Inv X (pins ++ pinsAt fp s5.heap) σ7 H7 s7 → N σ7 H7 → ∃ m, m < n ∧ ∃ i σ' H', Inv X pins σ' H' s7 ∧ tn i s7.heap ∧ (∀ b ∈ fp, H' b = none) ∧ W i m σ' H' := fun {σ7 H7} I7 n7 => by
      obtain ⟨m', hm, w7⟩ := hN σ7 H7 n7
      refine ⟨m', hm, i + 1, σ7, H7, I7.unpinned, T.keep _ _ _ st5 fun b hb o e => (I7.pin (b, o) (List.mem_append_right _ (List.mem_append_right _ (mem_pinsAt hb e)))).1, fun b hb => ?_, w7⟩
      obtain ⟨o, e, d⟩ := T.obj _ _ st5 b hb
      exact (I7.pin (b, o) (List.mem_append_right _ (List.mem_append_right _ (mem_pinsAt hb e)))).2.1
    cases f with
    | next => obtain ⟨σ7, H7, I7, n7⟩ := q7; exact again I7 n7
    | cont => obtain ⟨σ7, H7, I7, n7⟩ := q7; exact again I7 n7
    | brk => obtain ⟨σ7, H7, I7, q7⟩ := q7; exact ⟨σ7, H7, I7.unpinned, q7⟩
    | ret v => obtain ⟨x7, σ7, H7, I7, r7, q7⟩ := q7; exact ⟨x7, σ7, H7, I7.unpinned, r7, q7⟩
end

/-! ### the forms one uses -/
/-- over a list that the body leaves as it is -/
theorem for_list {K : PySem.W.Frag} {a : Addr} {xs : List V} {g : TG} {tb : TS} {D : Ends} {σ : St} {H : Hp} (Pv : Nat → St → Hp → Prop) (h0 : Pv 0 σ H) (hl : ∀ i σ H, i ≤ xs.length → Pv i σ H → SqL K H a xs)
    (hs : ∀ i x σ H, xs[i]? = some x → Pv i σ H → g x σ H fun σ2 H2 => tb { D with nx := Pv (i + 1), ct := Pv (i + 1), bk := D.nx } σ2 H2) (hd : ∀ σ H, Pv xs.length σ H → D.nx σ H) :
    ∃ W : Nat → Nat → St → Hp → Prop, (∃ m, W 0 m σ H) ∧ ∀ i m σ H, W i m σ H →
      ((Itl K a).stop i H ∧ D.nx σ H) ∨ ((Itl K a).go i H ∧ ∃ N : St → Hp → Prop, (∀ σ' H', N σ' H' → ∃ m', m' < m ∧ W (i + 1) m' σ' H') ∧ ∀ x H', (Itl K a).yld i H x H' → g x σ H' fun σ2 H2 => tb { D with nx := N, ct := N, bk := D.nx } σ2 H2) := by
  refine ⟨fun i m σ H => m = xs.length - i ∧ i ≤ xs.length ∧ Pv i σ H, ⟨xs.length, by simp, Nat.zero_le _, h0⟩, ?_⟩
  rintro i m σ H ⟨rfl, hi, p⟩
  have q := hl i σ H hi p
  by_cases hlt : i < xs.length
  · refine .inr ⟨⟨xs, xs[i], q, by simp [hlt]⟩, Pv (i + 1), fun σ' H' p' => ⟨xs.length - (i + 1), by omega, rfl, hlt, p'⟩, fun x H' y => ?_⟩
    obtain ⟨e, y⟩ := y
    subst e
    exact hs i x σ _ (y xs q) p
  · have e : i = xs.length := by omega
    subst e
    exact .inl ⟨⟨xs, q, Nat.le_refl _⟩, hd σ H p⟩
theorem for_tup {K : PySem.W.Frag} {a : Addr} {xs : List V} {g : TG} {tb : TS} {D : Ends} {σ : St} {H : Hp} (Pv : Nat → St → Hp → Prop) (h0 : Pv 0 σ H) (hl : ∀ i σ H, i ≤ xs.length → Pv i σ H → SqT K H a xs)
    (hs : ∀ i x σ H, xs[i]? = some x → Pv i σ H → g x σ H fun σ2 H2 => tb { D with nx := Pv (i + 1), ct := Pv (i + 1), bk := D.nx } σ2 H2) (hd : ∀ σ H, Pv xs.length σ H → D.nx σ H) :
    ∃ W : Nat → Nat → St → Hp → Prop, (∃ m, W 0 m σ H) ∧ ∀ i m σ H, W i m σ H →
      ((Itt K a).stop i H ∧ D.nx σ H) ∨ ((Itt K a).go i H ∧ ∃ N : St → Hp → Prop, (∀ σ' H', N σ' H' → ∃ m', m' < m ∧ W (i + 1) m' σ' H') ∧ ∀ x H', (Itt K a).yld i H x H' → g x σ H' fun σ2 H2 => tb { D with nx := N, ct := N, bk := D.nx } σ2 H2) := by
  refine ⟨fun i m σ H => m = xs.length - i ∧ i ≤ xs.length ∧ Pv i σ H, ⟨xs.length, by simp, Nat.zero_le _, h0⟩, ?_⟩
  rintro i m σ H ⟨rfl, hi, p⟩
  have q := hl i σ H hi p
  by_cases hlt : i < xs.length
  · refine .inr ⟨⟨xs, xs[i], q, by simp [hlt]⟩, Pv (i + 1), fun σ' H' p' => ⟨xs.length - (i + 1), by omega, rfl, hlt, p'⟩, fun x H' y => ?_⟩
    obtain ⟨e, y⟩ := y
    subst e
    exact hs i x σ _ (y xs q) p
  · have e : i = xs.length := by omega
    subst e
    exact .inl ⟨⟨xs, q, Nat.le_refl _⟩, hd σ H p⟩
theorem for_range {lo : Int} {n : Nat} {g : TG} {tb : TS} {D : Ends} {σ : St} {H : Hp} (Pv : Nat → St → Hp → Prop) (h0 : Pv 0 σ H)
    (hs : ∀ i σ H, i < n → Pv i σ H → g (.int (lo + i)) σ H fun σ2 H2 => tb { D with nx := Pv (i + 1), ct := Pv (i + 1), bk := D.nx } σ2 H2) (hd : ∀ σ H, Pv n σ H → D.nx σ H) :
    ∃ W : Nat → Nat → St → Hp → Prop, (∃ m, W 0 m σ H) ∧ ∀ i m σ H, W i m σ H →
      ((Itr lo n).stop i H ∧ D.nx σ H) ∨ ((Itr lo n).go i H ∧ ∃ N : St → Hp → Prop, (∀ σ' H', N σ' H' → ∃ m', m' < m ∧ W (i + 1) m' σ' H') ∧ ∀ x H', (Itr lo n).yld i H x H' → g x σ H' fun σ2 H2 => tb { D with nx := N, ct := N, bk := D.nx } σ2 H2) := by
  refine ⟨fun i m σ H => m = n - i ∧ i ≤ n ∧ Pv i σ H, ⟨n, by simp, Nat.zero_le _, h0⟩, ?_⟩
  rintro i m σ H ⟨rfl, hi, p⟩
  by_cases hlt : i < n
  · refine .inr ⟨hlt, Pv (i + 1), fun σ' H' p' => ⟨n - (i + 1), by omega, rfl, hlt, p'⟩, fun x H' y => ?_⟩
    obtain ⟨e, y⟩ := y
    subst e y
    exact hs i σ _ hlt p
  · have e : i = n := by omega
    subst e
    exact .inl ⟨Nat.le_refl _, hd σ H p⟩
/-- while, by a word and a measure of the state -/
theorem while_by {c : TT} {tb : TS} {D : Ends} {σ : St} {H : Hp} (Pv : St → Hp → Prop) (μ : St → Hp → Nat) (h0 : Pv σ H)
    (hs : ∀ σ H, Pv σ H → c σ H fun b H1 => if b = true then tb { D with nx := fun σ' H' => Pv σ' H' ∧ μ σ' H' < μ σ H, ct := fun σ' H' => Pv σ' H' ∧ μ σ' H' < μ σ H, bk := D.nx } σ H1 else D.nx σ H1)
    (mono : ∀ σ H Q Q', (∀ b H1, Q b H1 → Q' b H1) → c σ H Q → c σ H Q') : tWhile c tb D σ H := by
  refine ⟨fun m σ H => m = μ σ H ∧ Pv σ H, ⟨_, rfl, h0⟩, ?_⟩
  rintro m σ H ⟨rfl, p⟩
  refine mono σ H _ _ (fun b H1 q => ?_) (hs σ H p)
  cases b with
  | true => exact ⟨_, fun σ' H' ⟨p', l⟩ => ⟨_, l, rfl, p'⟩, q⟩
  | false => exact q
end L2

namespace L2
open PySem PySem.Spec PyProof.Rows

abbrev R2 := V → V → Hp → VK → Prop
/-- a two-place operation on values: f is binaryOp op, inplaceOp op or compareOp op -/
def OpR (X : Cx) (f : Value → Value → Sem Value) (r : R2) : Prop :=
  ∀ (pins : List (Addr × Obj)) (s : Shared) (σ : St) (H : Hp) (x y : V) (v u : Value) (Q : VK), Inv X pins σ H s → RelV x v → RelV y u → r x y H Q →
    wpAny (model X.prog X.w) X.A (f v u) (EP X pins σ Q) X.xe s
/-- a one-place operation -/
def UnR (X : Cx) (f : Value → Sem Value) (r : V → Hp → VK → Prop) : Prop :=
  ∀ (pins : List (Addr × Obj)) (s : Shared) (σ : St) (H : Hp) (x : V) (v : Value) (Q : VK), Inv X pins σ H s → RelV x v → r x H Q →
    wpAny (model X.prog X.w) X.A (f v) (EP X pins σ Q) X.xe s
/-- a call of a value that is known (a builtin, a type) with values -/
def CallR (X : Cx) (f : Value) (r : List V → Hp → VK → Prop) : Prop :=
  ∀ (pins : List (Addr × Obj)) (s : Shared) (σ : St) (H : Hp) (xs : List V) (us : List Value) (Q : VK), Inv X pins σ H s → Vals xs us → r xs H Q →
    wpAny (model X.prog X.w) X.A (call f us) (EP X pins σ Q) X.xe s
/-- a value's truth -/
def TruR (X : Cx) (r : V → Hp → (Bool → Hp → Prop) → Prop) : Prop :=
  ∀ (pins : List (Addr × Obj)) (s : Shared) (σ : St) (H : Hp) (x : V) (v : Value) (Q : Bool → Hp → Prop), Inv X pins σ H s → RelV x v → r x H Q →
    wpAny (model X.prog X.w) X.A (truthy v) (TP X pins σ Q) X.xe s

def tOp (r : R2) (ta tb : TE) : TE := fun σ H Q => ta σ H fun x H1 => tb σ H1 fun y H2 => r x y H2 Q
def tUn (r : V → Hp → VK → Prop) (ta : TE) : TE := fun σ H Q => ta σ H fun x H1 => r x H1 Q
/-- ints in, under C, and a value out -/
def rI (C : Int → Int → Prop) (g : Int → Int → V) : R2 := fun x y H Q => ∃ i j, x = .int i ∧ y = .int j ∧ C i j ∧ Q (g i j) H
def rI0 (g : Int → Int → V) : R2 := fun x y H Q => ∃ i j, x = .int i ∧ y = .int j ∧ Q (g i j) H
def rU (g : Int → V) : V → Hp → VK → Prop := fun x H Q => ∃ i, x = .int i ∧ Q (g i) H

section
variable {X : Cx} {a b c : Expr} {ta tb tc : TE} {pos : Pos}

theorem binT (ha : PE X a ta) (hb : PE X b tb) {pins : List (Addr × Obj)} {s : Shared} {σ : St} {H : Hp} {R : V → V → Hp → Prop} (I : Inv X pins σ H s)
    (h : ta σ H fun x H1 => tb σ H1 fun y H2 => R x y H2) {Q : Value → Shared → Prop} {f : Value → Value → Sem Value}
    (hf : ∀ v u s2 x y H2, Inv X pins σ H2 s2 → RelV x v → RelV y u → R x y H2 → wpAny (model X.prog X.w) X.A (f v u) Q X.xe s2) :
    wpAny (model X.prog X.w) X.A (eval a X.env) (fun v s₁ => wpAny (model X.prog X.w) X.A (eval b X.env) (fun u s₂ => wpAny (model X.prog X.w) X.A (f v u) Q X.xe s₂) X.xe s₁) X.xe s := by
  refine thn (ha pins s σ H _ I h) fun v s1 ⟨x, H1, I1, r1, q1⟩ => ?_
  refine thn (hb pins s1 σ H1 _ I1 q1) fun u s2 ⟨y, H2, I2, r2, q2⟩ => ?_
  exact hf v u s2 x y H2 I2 r1 r2 q2

theorem pe_op {op : Operator} {r : R2} (ho : OpR X (binaryOp op) r) (ha : PE X a ta) (hb : PE X b tb) : PE X (.BinOp a op b pos) (tOp r ta tb) := by
  intro pins s σ H Q I h
  exact wpAny_BinOp (binT ha hb I h fun v u s2 x y H2 I2 rx ry q => ho pins s2 σ H2 x y v u Q I2 rx ry q)
theorem pe_un {op : UnaryOp} {r : V → Hp → VK → Prop} (ho : UnR X (unaryOp op) r) (ha : PE X a ta) : PE X (.UnaryOp op a pos) (tUn r ta) := by
  intro pins s σ H Q I h
  exact UnaryOp_ (thn (ha pins s σ H _ I h) fun v s1 ⟨x, H1, I1, r1, q1⟩ => ho pins s1 σ H1 x v Q I1 r1 q1)
/-- a op= e at a name: the name's slot i -/
theorem augR {op : Operator} {r : R2} (ho : OpR X (inplaceOp op) r) {pins : List (Addr × Obj)} {s : Shared} {σ : St} {H : Hp} {x y : V} {v u : Value} {Q : VK} (I : Inv X pins σ H s)
    (rx : RelV x v) (ry : RelV y u) (q : r x y H Q) : wpAny (model X.prog X.w) X.A (inplaceOp op v u) (EP X pins σ Q) X.xe s := ho pins s σ H x y v u Q I rx ry q

/-! ### ints -/
theorem opI {f : Value → Value → Sem Value} {C : Int → Int → Prop} {g : Int → Int → Int}
    (rule : ∀ (i j : Int) (t u : Tok) (s : Shared) (Q : Value → Shared → Prop) (E : Value → Shared → Prop), C i j → Q (.int (g i j) s.toks) { s with toks := s.toks + 1 } → wpAny (model X.prog X.w) X.A (f (.int i t) (.int j u)) Q E s) :
    OpR X f (rI C fun i j => .int (g i j)) := by
  intro pins s σ H x y v u Q I rx ry h
  obtain ⟨i, j, rfl, rfl, hc, q⟩ := h
  obtain ⟨t, rfl⟩ := rx
  obtain ⟨t', rfl⟩ := ry
  exact rule i j t t' s _ _ hc ⟨.int (g i j), H, I.tok _, ⟨_, rfl⟩, q⟩
theorem opI0 {f : Value → Value → Sem Value} {g : Int → Int → Int}
    (rule : ∀ (i j : Int) (t u : Tok) (s : Shared) (Q : Value → Shared → Prop) (E : Value → Shared → Prop), Q (.int (g i j) s.toks) { s with toks := s.toks + 1 } → wpAny (model X.prog X.w) X.A (f (.int i t) (.int j u)) Q E s) :
    OpR X f (rI0 fun i j => .int (g i j)) := by
  intro pins s σ H x y v u Q I rx ry h
  obtain ⟨i, j, rfl, rfl, q⟩ := h
  obtain ⟨t, rfl⟩ := rx
  obtain ⟨t', rfl⟩ := ry
  exact rule i j t t' s _ _ ⟨.int (g i j), H, I.tok _, ⟨_, rfl⟩, q⟩
theorem opB0 {f : Value → Value → Sem Value} {g : Int → Int → Bool}
    (rule : ∀ (i j : Int) (t u : Tok) (s : Shared) (Q : Value → Shared → Prop) (E : Value → Shared → Prop), Q (.bool (g i j)) s → wpAny (model X.prog X.w) X.A (f (.int i t) (.int j u)) Q E s) :
    OpR X f (rI0 fun i j => .bl (g i j)) := by
  intro pins s σ H x y v u Q I rx ry h
  obtain ⟨i, j, rfl, rfl, q⟩ := h
  obtain ⟨t, rfl⟩ := rx
  obtain ⟨t', rfl⟩ := ry
  exact rule i j t t' s _ _ ⟨.bl (g i j), H, I, rfl, q⟩

def CDiv (i j : Int) : Prop := 0 < j ∧ j < 1073741824
def CDivN (i j : Int) : Prop := j ≠ 0 ∧ j.natAbs < 1073741824
def CPow (i j : Int) : Prop := 0 ≤ j ∧ j ≤ 1000000 ∧ i.natAbs < 2 ^ 64
def CMul (i j : Int) : Prop := (-(2 ^ 64) < i ∧ i < 2 ^ 64) ∨ (-(2 ^ 64) < j ∧ j < 2 ^ 64)
theorem CMul.ok {i j : Int} (h : CMul i j) : IntMulOk i j := by
  rcases h with ⟨h1, h2⟩ | ⟨h1, h2⟩
  · exact .of_left (intBits_le_64 h1 h2)
  · exact .of_right (intBits_le_64 h1 h2)
theorem two_pow_nn (k : Nat) : (0 : Int) ≤ 2 ^ k := by
  rw [two_pow_cast]
  exact Int.natCast_nonneg _

theorem op_add : OpR X (binaryOp .Add) (rI0 fun i j => .int (i + j)) := opI0 fun _ _ _ _ _ _ _ q => add_int q
theorem op_sub : OpR X (binaryOp .Sub) (rI0 fun i j => .int (i - j)) := opI0 fun _ _ _ _ _ _ _ q => sub_int q
theorem op_mul : OpR X (binaryOp .Mult) (rI CMul fun i j => .int (i * j)) := opI fun _ _ _ _ _ _ _ hc q => mul_int q hc.ok
/-- // by a positive divisor -/
theorem op_fdiv : OpR X (binaryOp .FloorDiv) (rI CDiv fun i j => .int (i / j)) := opI fun i j _ _ _ _ _ hc q => by
  have h1 : (0 : Int) < j := hc.1
  have h2 : j < 1073741824 := hc.2
  exact floordiv_int (by omega) (by rw [Int.fdiv_eq_ediv_of_nonneg i (by omega)]; exact q) (.inl (PyProof.noPylong_small (by omega)))
theorem op_fdivN : OpR X (binaryOp .FloorDiv) (rI CDivN fun i j => .int (i.fdiv j)) := opI fun _ _ _ _ _ _ _ hc q => floordiv_int hc.1 q (.inl (PyProof.noPylong_small hc.2))
/-- % by a positive divisor of any size -/
theorem op_mod : OpR X (binaryOp .Mod) (rI (fun _ j => 0 < j) fun i j => .int (i % j)) := opI fun i j _ _ _ _ _ hc q => by
  have h1 : (0 : Int) < j := hc
  exact mod_int' (by omega) (by rw [Int.fmod_eq_emod_of_nonneg i (by omega)]; exact q)
theorem op_modN : OpR X (binaryOp .Mod) (rI (fun _ j => j ≠ 0) fun i j => .int (i.fmod j)) := opI fun _ _ _ _ _ _ _ hc q => mod_int' hc q
theorem op_pow : OpR X (binaryOp .Pow) (rI CPow fun i j => .int (i ^ j.toNat)) := opI fun _ _ _ _ _ _ _ hc q => pow_int_small hc.1 hc.2.1 hc.2.2 q
theorem op_shl : OpR X (binaryOp .LShift) (rI CPow fun i j => .int (i * 2 ^ j.toNat)) := opI fun _ _ _ _ _ _ _ hc q => lshift_int_small hc.1 hc.2.1 hc.2.2 q
theorem op_shr : OpR X (binaryOp .RShift) (rI (fun _ j => 0 ≤ j) fun i j => .int (i / 2 ^ j.toNat)) := opI fun i j _ _ _ _ _ hc q =>
  rshift_int hc (by rw [Int.fdiv_eq_ediv_of_nonneg i (two_pow_nn _)]; exact q)
theorem op_and : OpR X (binaryOp .BitAnd) (rI0 fun i j => .int (Builtin.bitAnd i j)) := opI0 fun _ _ _ _ _ _ _ q => and_int q
theorem op_or : OpR X (binaryOp .BitOr) (rI0 fun i j => .int (Builtin.bitOr i j)) := opI0 fun _ _ _ _ _ _ _ q => or_int q
theorem op_xor : OpR X (binaryOp .BitXor) (rI0 fun i j => .int (Builtin.bitXor i j)) := opI0 fun _ _ _ _ _ _ _ q => xor_int q

theorem iop_add : OpR X (inplaceOp .Add) (rI0 fun i j => .int (i + j)) := opI0 fun _ _ _ _ _ _ _ q => iadd_int q
theorem iop_sub : OpR X (inplaceOp .Sub) (rI0 fun i j => .int (i - j)) := opI0 fun _ _ _ _ _ _ _ q => isub_int q
theorem iop_mul : OpR X (inplaceOp .Mult) (rI CMul fun i j => .int (i * j)) := opI fun _ _ _ _ _ _ _ hc q => imul_int q hc.ok
theorem iop_fdiv : OpR X (inplaceOp .FloorDiv) (rI CDiv fun i j => .int (i / j)) := opI fun i j _ _ _ _ _ hc q => by
  have h1 : (0 : Int) < j := hc.1
  have h2 : j < 1073741824 := hc.2
  exact ifloordiv_int (by omega) (by rw [Int.fdiv_eq_ediv_of_nonneg i (by omega)]; exact q) (.inl (PyProof.noPylong_small (by omega)))
theorem iop_mod : OpR X (inplaceOp .Mod) (rI (fun _ j => 0 < j) fun i j => .int (i % j)) := opI fun i j _ _ _ _ _ hc q => by
  have h1 : (0 : Int) < j := hc
  exact imod_int (by omega) (by rw [Int.fmod_eq_emod_of_nonneg i (by omega)]; exact q)
theorem iop_shl : OpR X (inplaceOp .LShift) (rI CPow fun i j => .int (i * 2 ^ j.toNat)) := opI fun _ _ _ _ _ _ _ hc q => ilshift_int_small hc.1 hc.2.1 hc.2.2 q
theorem iop_shr : OpR X (inplaceOp .RShift) (rI (fun _ j => 0 ≤ j) fun i j => .int (i / 2 ^ j.toNat)) := opI fun i j _ _ _ _ _ hc q =>
  irshift_int hc (by rw [Int.fdiv_eq_ediv_of_nonneg i (two_pow_nn _)]; exact q)
theorem iop_and : OpR X (inplaceOp .BitAnd) (rI0 fun i j => .int (Builtin.bitAnd i j)) := opI0 fun _ _ _ _ _ _ _ q => iand_int q
theorem iop_or : OpR X (inplaceOp .BitOr) (rI0 fun i j => .int (Builtin.bitOr i j)) := opI0 fun _ _ _ _ _ _ _ q => ior_int q
theorem iop_xor : OpR X (inplaceOp .BitXor) (rI0 fun i j => .int (Builtin.bitXor i j)) := opI0 fun _ _ _ _ _ _ _ q => ixor_int q

theorem unI {f : Value → Sem Value} {g : Int → Int}
    (rule : ∀ (i : Int) (t : Tok) (s : Shared) (Q : Value → Shared → Prop) (E : Value → Shared → Prop), Q (.int (g i) s.toks) { s with toks := s.toks + 1 } → wpAny (model X.prog X.w) X.A (f (.int i t)) Q E s) :
    UnR X f (rU fun i => .int (g i)) := by
  intro pins s σ H x v Q I rx h
  obtain ⟨i, rfl, q⟩ := h
  obtain ⟨t, rfl⟩ := rx
  exact rule i t s _ _ ⟨.int (g i), H, I.tok _, ⟨_, rfl⟩, q⟩
theorem un_neg : UnR X (unaryOp .USub) (rU fun i => .int (-i)) := unI fun _ _ _ _ _ q => neg_int q
theorem un_inv : UnR X (unaryOp .Invert) (rU fun i => .int (Builtin.bitNot i)) := unI fun _ _ _ _ _ q => invert_int q

/-! ### bools among ints: n += (a < b) -/
theorem op_add_ib : OpR X (binaryOp .Add) (fun x y H Q => ∃ i k, x = .int i ∧ y = .bl k ∧ Q (.int (i + b2i k)) H) := by
  intro pins s σ H x y v u Q I rx ry h
  obtain ⟨i, k, rfl, rfl, q⟩ := h
  obtain ⟨t, rfl⟩ := rx
  cases ry
  exact add_int_bool ⟨.int (i + b2i k), H, I.tok _, ⟨_, rfl⟩, q⟩
end

/-! ### comparisons -/
/-- the scalars that == tells apart as data does -/
def scal : V → V → Bool
  | .non, .non => true | .non, .int _ => true | .int _, .non => true | .non, .bl _ => true | .bl _, .non => true | .non, .str _ => true | .str _, .non => true
  | .int _, .int _ => true | .bl _, .bl _ => true | .str _, .str _ => true | .byt _, .byt _ => true
  | .int _, .str _ => true | .str _, .int _ => true | .bl _, .str _ => true | .str _, .bl _ => true
  | _, _ => false
def rEq : R2 := fun x y H Q => scal x y = true ∧ Q (.bl (decide (x = y))) H
def rNe : R2 := fun x y H Q => scal x y = true ∧ Q (.bl (!decide (x = y))) H

theorem dec_int {i j : Int} : decide (V.int i = V.int j) = (i == j) := by
  rw [Bool.eq_iff_iff]
  simp
theorem dec_bl {i j : Bool} : decide (V.bl i = V.bl j) = (i == j) := by
  rw [Bool.eq_iff_iff]
  simp
theorem dec_str {i j : Str} : decide (V.str i = V.str j) = (i == j) := by
  rw [Bool.eq_iff_iff]
  simp
theorem dec_byt {i j : Array UInt8} : decide (V.byt i = V.byt j) = (i.toList == j.toList) := by
  rw [Bool.eq_iff_iff]
  cases i
  cases j
  simp

section
variable {X : Cx} {a b c : Expr} {ta tb tc : TE} {pos : Pos}
theorem fin_bl {pins : List (Addr × Obj)} {σ : St} {H : Hp} {s : Shared} {Q : VK} {k k' : Bool} (I : Inv X pins σ H s) (q : Q (.bl k) H) (e : k = k') : EP X pins σ Q (.bool k') s := by
  subst e
  exact ⟨.bl k, H, I, rfl, q⟩
theorem op_eq : OpR X (compareOp .Eq) rEq := by
  intro pins s σ H x y v u Q I rx ry h
  obtain ⟨hs, q⟩ := h
  cases x with
  | non =>
    cases rx
    cases y with
    | non => cases ry; exact PySem.EqNone.eq_none_none (fin_bl I q (by simp))
    | bl j => cases ry; exact PySem.EqNone.eq_none_bool (fin_bl I q (by simp))
    | int j => obtain ⟨t', rfl⟩ := ry; exact PySem.EqNone.eq_none_int (fin_bl I q (by simp))
    | str j => obtain ⟨t', rfl⟩ := ry; exact PySem.EqNone.eq_none_str (fin_bl I q (by simp))
    | _ => exact absurd (show false = true from hs) Bool.false_ne_true
  | bl i =>
    cases rx
    cases y with
    | non => cases ry; exact PySem.EqNone.eq_bool_none (fin_bl I q (by simp))
    | bl j => cases ry; exact eq_bool (fin_bl I q dec_bl)
    | str j => obtain ⟨t', rfl⟩ := ry; exact PySem.EqMixed.eq_bool_str (fin_bl I q (by simp))
    | _ => exact absurd (show false = true from hs) Bool.false_ne_true
  | int i =>
    obtain ⟨t, rfl⟩ := rx
    cases y with
    | non => cases ry; exact PySem.EqNone.eq_int_none (fin_bl I q (by simp))
    | int j => obtain ⟨t', rfl⟩ := ry; exact eq_int (fin_bl I q dec_int)
    | str j => obtain ⟨t', rfl⟩ := ry; exact PySem.EqMixed.eq_int_str (fin_bl I q (by simp))
    | _ => exact absurd (show false = true from hs) Bool.false_ne_true
  | str i =>
    obtain ⟨t, rfl⟩ := rx
    cases y with
    | non => cases ry; exact PySem.EqNone.eq_str_none (fin_bl I q (by simp))
    | bl j => cases ry; exact PySem.EqMixed.eq_str_bool (fin_bl I q (by simp))
    | int j => obtain ⟨t', rfl⟩ := ry; exact PySem.EqMixed.eq_str_int (fin_bl I q (by simp))
    | str j => obtain ⟨t', rfl⟩ := ry; exact eq_str (fin_bl I q dec_str)
    | _ => exact absurd (show false = true from hs) Bool.false_ne_true
  | byt i =>
    obtain ⟨t, rfl⟩ := rx
    cases y with
    | byt j => obtain ⟨t', rfl⟩ := ry; exact PySem.W.eq_bytes (fin_bl I q dec_byt)
    | _ => exact absurd (show false = true from hs) Bool.false_ne_true
  | _ => cases y <;> exact absurd (show false = true from hs) Bool.false_ne_true
theorem op_ne : OpR X (compareOp .NotEq) rNe := by
  intro pins s σ H x y v u Q I rx ry h
  obtain ⟨hs, q⟩ := h
  cases x with
  | non =>
    cases rx
    cases y with
    | non => cases ry; exact PySem.EqNone.ne_none_none (fin_bl I q (by simp))
    | bl j => cases ry; exact PySem.EqNone.ne_none_bool (fin_bl I q (by simp))
    | int j => obtain ⟨t', rfl⟩ := ry; exact PySem.EqNone.ne_none_int (fin_bl I q (by simp))
    | str j => obtain ⟨t', rfl⟩ := ry; exact PySem.EqNone.ne_none_str (fin_bl I q (by simp))
    | _ => exact absurd (show false = true from hs) Bool.false_ne_true
  | bl i =>
    cases rx
    cases y with
    | non => cases ry; exact PySem.EqNone.ne_bool_none (fin_bl I q (by simp))
    | bl j => cases ry; exact ne_bool (fin_bl I q (congrArg not dec_bl))
    | str j => obtain ⟨t', rfl⟩ := ry; exact PySem.EqMixed.ne_bool_str (fin_bl I q (by simp))
    | _ => exact absurd (show false = true from hs) Bool.false_ne_true
  | int i =>
    obtain ⟨t, rfl⟩ := rx
    cases y with
    | non => cases ry; exact PySem.EqNone.ne_int_none (fin_bl I q (by simp))
    | int j => obtain ⟨t', rfl⟩ := ry; exact ne_int (fin_bl I q (congrArg not dec_int))
    | str j => obtain ⟨t', rfl⟩ := ry; exact PySem.EqMixed.ne_int_str (fin_bl I q (by simp))
    | _ => exact absurd (show false = true from hs) Bool.false_ne_true
  | str i =>
    obtain ⟨t, rfl⟩ := rx
    cases y with
    | non => cases ry; exact PySem.EqNone.ne_str_none (fin_bl I q (by simp))
    | bl j => cases ry; exact PySem.EqMixed.ne_str_bool (fin_bl I q (by simp))
    | int j => obtain ⟨t', rfl⟩ := ry; exact PySem.EqMixed.ne_str_int (fin_bl I q (by simp))
    | str j => obtain ⟨t', rfl⟩ := ry; exact ne_str (fin_bl I q (congrArg not dec_str))
    | _ => exact absurd (show false = true from hs) Bool.false_ne_true
  | byt i =>
    obtain ⟨t, rfl⟩ := rx
    cases y with
    | byt j => obtain ⟨t', rfl⟩ := ry; exact PySem.W.ne_bytes (fin_bl I q (congrArg not dec_byt))
    | _ => exact absurd (show false = true from hs) Bool.false_ne_true
  | _ => cases y <;> exact absurd (show false = true from hs) Bool.false_ne_true

theorem op_lt : OpR X (compareOp .Lt) (rI0 fun i j => .bl (decide (i < j))) := opB0 fun _ _ _ _ _ _ _ q => lt_int q
theorem op_le : OpR X (compareOp .LtE) (rI0 fun i j => .bl (decide (i ≤ j))) := opB0 fun _ _ _ _ _ _ _ q => le_int q
theorem op_gt : OpR X (compareOp .Gt) (rI0 fun i j => .bl (decide (j < i))) := opB0 fun _ _ _ _ _ _ _ q => gt_int q
theorem op_ge : OpR X (compareOp .GtE) (rI0 fun i j => .bl (decide (j ≤ i))) := opB0 fun _ _ _ _ _ _ _ q => ge_int q
theorem op_lt_str : OpR X (compareOp .Lt) (fun x y H Q => ∃ i j, x = .str i ∧ y = .str j ∧ Q (.bl (decide (i.cps.toList < j.cps.toList))) H) := by
  intro pins s σ H x y v u Q I rx ry h
  obtain ⟨i, j, rfl, rfl, q⟩ := h
  obtain ⟨t, rfl⟩ := rx
  obtain ⟨t', rfl⟩ := ry
  exact lt_str (fin_bl I q rfl)
/-- the one string within the other -/
theorem op_in_str : OpR X (compareOp .In) (fun x y H Q => ∃ i j, x = .str i ∧ y = .str j ∧ Q (.bl (!(Builtin.Str.occurrences j i 0 j.length 1).isEmpty)) H) := by
  intro pins s σ H x y v u Q I rx ry h
  obtain ⟨i, j, rfl, rfl, q⟩ := h
  obtain ⟨t, rfl⟩ := rx
  obtain ⟨t', rfl⟩ := ry
  exact in_str (fin_bl I q rfl)

/-- is None, is not None: the right side a value none -/
theorem op_isN : OpR X (compareOp .Is) (fun x y H Q => y = .non ∧ Q (.bl (decide (x = .non))) H) := by
  intro pins s σ H x y v u Q I rx ry h
  obtain ⟨rfl, q⟩ := h
  cases ry
  refine is_none_gen (fin_bl I q ?_)
  cases x <;> first
    | (cases rx; rfl)
    | (obtain ⟨t, rfl⟩ := rx; rfl)
theorem op_notN : OpR X (compareOp .IsNot) (fun x y H Q => y = .non ∧ Q (.bl (!decide (x = .non))) H) := by
  intro pins s σ H x y v u Q I rx ry h
  obtain ⟨rfl, q⟩ := h
  cases ry
  refine isnot_none_gen (fin_bl I q ?_)
  cases x <;> first
    | (cases rx; rfl)
    | (obtain ⟨t, rfl⟩ := rx; rfl)

theorem op_notin_str : OpR X (compareOp .NotIn) (fun x y H Q => ∃ i j, x = .str i ∧ y = .str j ∧ Q (.bl (!(!(Builtin.Str.occurrences j i 0 j.length 1).isEmpty))) H) := by
  intro pins s σ H x y v u Q I rx ry h
  obtain ⟨i, j, rfl, rfl, q⟩ := h
  obtain ⟨t, rfl⟩ := rx
  obtain ⟨t', rfl⟩ := ry
  exact notIn_str (fin_bl I q rfl)
/-- is, is not of two objects that are tracked lists or instances -/
def isObj : HO → Bool
  | .lst _ => true
  | .ins _ _ _ => true
  | _ => false
theorem obj_there {pins : List (Addr × Obj)} {s : Shared} {σ : St} {H : Hp} {a : Addr} {o : HO} (I : Inv X pins σ H s) (h : H a = some o) (p : isObj o = true) : ∃ ob, s.heap.get? a = some ob ∧ ob.cls ≠ .type "tuple" := by
  cases o with
  | lst xs =>
    obtain ⟨_, its, n, _, e⟩ : xs.length ≤ sizeLine ∧ ∃ (its : List Value) (n : Nat), Vals xs its ∧ s.heap.get? a = some { cls := .type "list", data := .seq its.toArray n } := I.hok a _ h
    exact ⟨_, e, (by show Value.type "list" ≠ .type "tuple"; decide +kernel)⟩
  | ins C dx fs =>
    have x := I.hok a _ h
    obtain ⟨_, _, _, e, _⟩ := x
    exact ⟨_, e, (by show Value.ref C ≠ .type "tuple"; exact fun z => by cases z)⟩
  | _ => exact absurd (show false = true from p) Bool.false_ne_true
theorem op_is_ref : OpR X (compareOp .Is) (fun x y H Q => ∃ a b oa ob, x = .ref a ∧ y = .ref b ∧ H a = some oa ∧ isObj oa = true ∧ H b = some ob ∧ isObj ob = true ∧ Q (.bl (decide (a = b))) H) := by
  intro pins s σ H x y v u Q I rx ry h
  obtain ⟨a, b, oa, ob, rfl, rfl, ha, pa, hb, pb, q⟩ := h
  cases rx
  cases ry
  obtain ⟨o1, e1, n1⟩ := obj_there I ha pa
  obtain ⟨o2, e2, _⟩ := obj_there I hb pb
  by_cases z : a = b
  · subst z
    exact wpAny_is_ref_self (fin_bl I q (by simp))
  · exact wpAny_is_ref_other z e1 e2 n1 (fin_bl I q (by simp [z]))
theorem op_isnot_ref : OpR X (compareOp .IsNot) (fun x y H Q => ∃ a b oa ob, x = .ref a ∧ y = .ref b ∧ H a = some oa ∧ isObj oa = true ∧ H b = some ob ∧ isObj ob = true ∧ Q (.bl (!decide (a = b))) H) := by
  intro pins s σ H x y v u Q I rx ry h
  obtain ⟨a, b, oa, ob, rfl, rfl, ha, pa, hb, pb, q⟩ := h
  cases rx
  cases ry
  obtain ⟨o1, e1, n1⟩ := obj_there I ha pa
  obtain ⟨o2, e2, _⟩ := obj_there I hb pb
  by_cases z : a = b
  · subst z
    exact wpAny_isNot_ref_self (fin_bl I q (by simp))
  · exact wpAny_isNot_ref_other z e1 e2 n1 (fin_bl I q (by simp [z]))

/-- two rules for one operation: by cases -/
theorem OpR.or {f : Value → Value → Sem Value} {r r' : R2} (h : OpR X f r) (h' : OpR X f r') : OpR X f (fun x y H Q => r x y H Q ∨ r' x y H Q) := by
  intro pins s σ H x y v u Q I rx ry q
  rcases q with q | q
  · exact h pins s σ H x y v u Q I rx ry q
  · exact h' pins s σ H x y v u Q I rx ry q

theorem nomark (b : Expr) {op : CmpOp} (h : op ≠ .In := by decide) (h2 : op ≠ .NotIn := by decide) : behindInMarks op b = false := by
  have e1 : (op == CmpOp.In) = false := by cases op <;> first | rfl | exact absurd rfl h
  have e2 : (op == CmpOp.NotIn) = false := by cases op <;> first | rfl | exact absurd rfl h2
  cases b <;> simp [behindInMarks, e1, e2]
/-- a comparison as a value; hm: nomark b, or (for in, not in) by with_unfolding_all rfl -/
theorem pe_cmpR {op : CmpOp} {r : R2} (ho : OpR X (compareOp op) r) (ha : PE X a ta) (hb : PE X b tb) (hm : behindInMarks op b = false) : PE X (.Compare a [op] [b] pos) (tOp r ta tb) := by
  intro pins s σ H Q I h
  exact wpAny_Compare1 (binT ha hb I h fun v u s2 x y H2 I2 rx ry q => ho pins s2 σ H2 x y v u Q I2 rx ry q) hm
/-- a reading of a value as a test -/
def tTest (t : TE) : TT := fun σ H Q => t σ H fun x H' => ∃ k, x = .bl k ∧ Q k H'
theorem pt_cmpR {op : CmpOp} {r : R2} (ho : OpR X (compareOp op) r) (ha : PE X a ta) (hb : PE X b tb) (hm : behindInMarks op b = false) : PT X (.Compare a [op] [b] pos) (tTest (tOp r ta tb)) := by
  intro pins s σ H Q I h
  refine wpAny_isTrue_Compare1 (thn (ha pins s σ H _ I h) fun v s1 ⟨x, H1, I1, r1, q1⟩ => thn (hb pins s1 σ H1 _ I1 q1) fun u s2 ⟨y, H2, I2, r2, q2⟩ =>
    thn (ho pins s2 σ H2 x y v u _ I2 r1 r2 q2) fun c s3 ⟨z, H3, I3, r3, k, e, q3⟩ => ?_) hm
  subst e
  cases r3
  exact wpAny_truthy_bool ⟨H3, I3, q3⟩
/-- a op1 b op2 c -/
def tChain (r r' : R2) (ta tb tc : TE) : TE := fun σ H Q => ta σ H fun x H1 => tb σ H1 fun y H2 => r x y H2 fun z H3 => ∃ k, z = .bl k ∧
  (if k = true then tc σ H3 fun w' H4 => r' y w' H4 Q else Q (.bl false) H3)
theorem pe_chain {op op' : CmpOp} {r r' : R2} (ho : OpR X (compareOp op) r) (ho' : OpR X (compareOp op') r') (ha : PE X a ta) (hb : PE X b tb) (hc : PE X c tc)
    (hm : lastMarks [op, op'] [b, c] = false := by with_unfolding_all rfl) : PE X (.Compare a [op, op'] [b, c] pos) (tChain r r' ta tb tc) := by
  intro pins s σ H Q I h
  refine Compare_chain (thn (ha pins s σ H _ I h) fun v s1 ⟨x, H1, I1, r1, q1⟩ => chain_link (thn (hb pins s1 σ H1 _ I1 q1) fun u s2 ⟨y, H2, I2, r2, q2⟩ =>
    thn (ho pins s2 σ H2 x y v u _ I2 r1 r2 q2) fun d s3 ⟨z, H3, I3, r3, k, e, q3⟩ => ?_)) hm
  subst e
  cases r3
  refine wpAny_truthy_bool ?_
  cases k with
  | false => exact ite_ff ⟨.bl false, H3, I3, rfl, q3⟩
  | true => exact ite_tt (chain_last (thn (hc pins s3 σ H3 _ I3 q3) fun w' s4 ⟨z', H4, I4, r4, q4⟩ => ho' pins s4 σ H4 y z' u w' Q I4 r2 r4 q4))
theorem pt_chain {op op' : CmpOp} {r r' : R2} (ho : OpR X (compareOp op) r) (ho' : OpR X (compareOp op') r') (ha : PE X a ta) (hb : PE X b tb) (hc : PE X c tc)
    (hm : lastMarks [op, op'] [b, c] = false := by with_unfolding_all rfl) : PT X (.Compare a [op, op'] [b, c] pos) (tTest (tChain r r' ta tb tc)) := by
  intro pins s σ H Q I h
  refine isTrue_chain (thn (ha pins s σ H _ I h) fun v s1 ⟨x, H1, I1, r1, q1⟩ => test_link (thn (hb pins s1 σ H1 _ I1 q1) fun u s2 ⟨y, H2, I2, r2, q2⟩ =>
    thn (ho pins s2 σ H2 x y v u _ I2 r1 r2 q2) fun d s3 ⟨z, H3, I3, r3, k, e, q3⟩ => ?_)) hm
  subst e
  cases r3
  refine wpAny_truthy_bool ?_
  cases k with
  | false =>
    obtain ⟨k', e', q'⟩ := q3
    cases e'
    exact ite_ff ⟨H3, I3, q'⟩
  | true =>
    refine ite_tt (test_last (thn (hc pins s3 σ H3 _ I3 q3) fun w' s4 ⟨z', H4, I4, r4, q4⟩ => thn (ho' pins s4 σ H4 y z' u w' _ I4 r2 r4 q4) fun d' s5 ⟨z2, H5, I5, r5, k2, e2, q5⟩ => ?_))
    subst e2
    cases r5
    exact wpAny_truthy_bool ⟨H5, I5, q5⟩

/-! ### truth -/
/-- a value's truth by the abstract heap -/
def TruV (K : PySem.W.Frag) (x : V) (H : Hp) (k : Bool) : Prop :=
  match x with
  | .non => k = false
  | .bl b => k = b
  | .int i => k = (i != 0)
  | .str y => y.length ≤ sizeLine ∧ k = ((y.length : Int) != 0)
  | .byt y => y.size ≤ sizeLine ∧ k = ((y.size : Int) != 0)
  | .ref p => (∃ xs, SqL K H p xs ∧ k = !xs.isEmpty) ∨ (∃ xs, SqT K H p xs ∧ k = !xs.isEmpty) ∨ ∃ kvs, H p = some (.dK kvs) ∧ k = !kvs.isEmpty
  | _ => False
theorem isEmpty_kv {κ : Type} {kvs : List (κ × V)} {vs : List (κ × Value)} (r : KV kvs vs) : (!vs.isEmpty) = !kvs.isEmpty := by
  cases r <;> rfl
theorem isEmpty_of {xs : List V} {its : List Value} (r : Vals xs its) : (!its.toArray.isEmpty) = !xs.isEmpty := by
  cases r <;> simp
theorem line63 : (sizeLine : Nat) < 2 ^ 63 := by rw [sizeLine_eq]; decide
theorem tru_ok : TruR X (fun x H Q => ∃ k, TruV X.K x H k ∧ Q k H) := by
  intro pins s σ H x v Q I rx h
  obtain ⟨k, e, q⟩ := h
  have hl := line63
  have hs : sizeLine = 16777216 := sizeLine_eq
  cases x with
  | non =>
    cases rx
    have e' : k = false := e
    subst e'
    exact truthy_none ⟨H, I, q⟩
  | bl b =>
    cases rx
    have e' : k = b := e
    subst e'
    exact wpAny_truthy_bool ⟨H, I, q⟩
  | int i =>
    obtain ⟨t, rfl⟩ := rx
    have e' : k = (i != 0) := e
    subst e'
    exact PySem.P.truthy_int ⟨H, I, q⟩
  | str y =>
    obtain ⟨t, rfl⟩ := rx
    obtain ⟨hy, e'⟩ : y.length ≤ sizeLine ∧ k = ((y.length : Int) != 0) := e
    subst e'
    exact PySem.P.truthy_str (by omega) ⟨H, I.tok _, q⟩
  | byt y =>
    obtain ⟨t, rfl⟩ := rx
    obtain ⟨hy, e'⟩ : y.size ≤ sizeLine ∧ k = ((y.size : Int) != 0) := e
    subst e'
    exact PySem.W.truthy_bytes (by omega) ⟨H, I.tok _, q⟩
  | ref p =>
    cases rx
    have e' : (∃ xs, SqL X.K H p xs ∧ k = !xs.isEmpty) ∨ (∃ xs, SqT X.K H p xs ∧ k = !xs.isEmpty) ∨ ∃ kvs, H p = some (.dK kvs) ∧ k = !kvs.isEmpty := e
    rcases e' with ⟨xs, hx, e'⟩ | ⟨xs, hx, e'⟩ | ⟨kvs, hx, e'⟩
    · subst e'
      obtain ⟨its, r, pl, hz⟩ := I.list hx
      have hlen := r.length
      exact wpAny_truthy_list pl.isList (by simp only [List.size_toArray]; omega) ⟨H, I.tok _, by rw [isEmpty_of r]; exact q⟩
    · subst e'
      obtain ⟨its, r, pl, hz⟩ := I.tuple hx
      have hlen := r.length
      exact truthy_tuple pl (by simp only [List.size_toArray]; omega) ⟨H, I.tok _, by rw [isEmpty_of r]; exact q⟩
    · subst e'
      obtain ⟨hz, hS, vs, r, m⟩ : kvs.length ≤ sizeLine ∧ (p == sysModules) = false ∧ ∃ vs, KV kvs vs ∧ s.heap.DictOf (mixKind X.prog X.w) p vs := I.hok p _ hx
      have hlen : kvs.length = vs.length := Paired.length r
      exact wpAny_truthy_dict hS m (by omega) ⟨H, I.tok _, by rw [isEmpty_kv r]; exact q⟩
  | _ => exact (show False from e).elim
/-- any expression whose test is its value's truth (a name, a call, a subscript, a field ..: he by fun _ => rfl) -/
theorem pt_truth (ha : PE X a ta) (he : ∀ whole, isTrue a X.env whole = (do let v ← whole; standAt a.pos; holding [v] (truthy v))) :
    PT X a (fun σ H Q => ta σ H fun x H' => ∃ k, TruV X.K x H' k ∧ Q k H') := by
  intro pins s σ H Q I h
  exact isTrue_plain (thn (ha pins s σ H _ I h) fun v s1 ⟨x, H1, I1, r1, q1⟩ => tru_ok pins s1 σ H1 x v Q I1 r1 q1) (he _)

/-! ### strs and bytes -/
theorem pe_byt {x : List UInt8} {k : Nat} : PE X (.Constant (.bytes x) k pos) (fun _ H Q => Q (.byt x.toArray) H) := fun _ _ _ H _ I h => PySem.W.Constant_bytes ⟨.byt x.toArray, H, I.tok _, ⟨_, rfl⟩, h⟩
theorem op_add_str : OpR X (binaryOp .Add) (fun x y H Q => ∃ i j, x = .str i ∧ y = .str j ∧ i.length + j.length ≤ sizeLine ∧ Q (.str (i ++ j)) H) := by
  intro pins s σ H x y v u Q I rx ry h
  obtain ⟨i, j, rfl, rfl, hz, q⟩ := h
  obtain ⟨t, rfl⟩ := rx
  obtain ⟨t', rfl⟩ := ry
  exact add_str (fun t' tk => ⟨.str (i ++ j), H, I.tok _, ⟨_, rfl⟩, q⟩) hz
theorem iop_add_str : OpR X (inplaceOp .Add) (fun x y H Q => ∃ i j, x = .str i ∧ y = .str j ∧ i.length + j.length ≤ sizeLine ∧ Q (.str (i ++ j)) H) := by
  intro pins s σ H x y v u Q I rx ry h
  obtain ⟨i, j, rfl, rfl, hz, q⟩ := h
  obtain ⟨t, rfl⟩ := rx
  obtain ⟨t', rfl⟩ := ry
  exact iadd_str (fun t' tk => ⟨.str (i ++ j), H, I.tok _, ⟨_, rfl⟩, q⟩) hz
theorem op_add_byt : OpR X (binaryOp .Add) (fun x y H Q => ∃ i j, x = .byt i ∧ y = .byt j ∧ i.size + j.size ≤ 16777216 ∧ Q (.byt (i ++ j)) H) := by
  intro pins s σ H x y v u Q I rx ry h
  obtain ⟨i, j, rfl, rfl, hz, q⟩ := h
  obtain ⟨t, rfl⟩ := rx
  obtain ⟨t', rfl⟩ := ry
  exact PySem.W.KBy.add_bytes hz (fun t' tk => ⟨.byt (i ++ j), H, I.tok _, ⟨_, rfl⟩, q⟩)

def PlainIxT (b : Expr) : Prop := ∀ o i, subscripted b false o i = operate [o, i] (getItem o i)
/-- s[i], 0 ≤ i < len -/
theorem pe_item_str (ha : PE X a ta) (hb : PE X b tb) (hs : PlainIxT b) :
    PE X (.Subscript a b pos) (tOp (fun x y H Q => ∃ z i c, x = .str z ∧ y = .int i ∧ 0 ≤ i ∧ i < 2 ^ 63 ∧ i < z.length ∧ z.cps[i.toNat]? = some c ∧ Q (.str ⟨#[c]⟩) H) ta tb) := by
  intro pins s σ H Q I h
  refine Subscript_ (binT ha hb I h fun v u s2 x y H2 I2 rx ry q => ?_)
  obtain ⟨z, i, c, rfl, rfl, h0, h63, h1, hc, q⟩ := q
  obtain ⟨t, rfl⟩ := rx
  obtain ⟨t', rfl⟩ := ry
  have e : seqIndex? i z.length = some i.toNat := PySem.StrLaws.seqIndex_nonneg h0 h1
  exact tail_any (typeIs_str s2 z t) slot_str_getitem.lookup (getItem_str (c := c) (by
    have e1 : decide (i < -(2 ^ 63 : Int)) = false := decide_eq_false (by omega)
    have e2 : decide (i ≥ 2 ^ 63) = false := decide_eq_false (by omega)
    rw [e1, e2] <;> rfl) (by rw [e]; exact hc) ⟨.str ⟨#[c]⟩, H2, I2.tok _, ⟨_, rfl⟩, q⟩) (hs _ _)
/-- b[i], 0 ≤ i < len -/
theorem pe_item_byt (ha : PE X a ta) (hb : PE X b tb) (hs : PlainIxT b) :
    PE X (.Subscript a b pos) (tOp (fun x y H Q => ∃ (z : List UInt8) (i : Int), x = .byt z.toArray ∧ y = .int i ∧ z.length ≤ sizeLine ∧ 0 ≤ i ∧ i < z.length ∧ Q (.int ((z.getD i.toNat 0).toNat : Nat)) H) ta tb) := by
  intro pins s σ H Q I h
  refine Subscript_ (binT ha hb I h fun v u s2 x y H2 I2 rx ry q => ?_)
  obtain ⟨z, i, rfl, rfl, hz, h0, h1, q⟩ := q
  obtain ⟨t, rfl⟩ := rx
  obtain ⟨t', rfl⟩ := ry
  have hl : sizeLine = 16777216 := sizeLine_eq
  exact tail_any (PySem.W.typeIs_bytes s2 z.toArray t) PySem.W.FB.slot_bytes_getitem.lookup (PySem.W.getItem_bytes (by omega) h0 h1 ⟨.int ((z.getD i.toNat 0).toNat : Nat), H2, I2.tok _, ⟨_, rfl⟩, q⟩) (hs _ _)

/-! ### scalar builtins, by CallR -/
theorem vals1 {x : V} {us : List Value} (r : Vals [x] us) : ∃ u, us = [u] ∧ RelV x u := by
  cases r with
  | cons r1 r2 => cases r2; exact ⟨_, rfl, r1⟩
theorem vals2 {x y : V} {us : List Value} (r : Vals [x, y] us) : ∃ u w', us = [u, w'] ∧ RelV x u ∧ RelV y w' := by
  cases r with
  | cons r1 r2 =>
    cases r2 with
    | cons r3 r4 => cases r4; exact ⟨_, _, rfl, r1, r3⟩
theorem call_abs : CallR X (.builtin "abs") (fun xs H Q => ∃ i, xs = [.int i] ∧ Q (.int (if i < 0 then -i else i)) H) := by
  intro pins s σ H xs us Q I r h
  obtain ⟨i, rfl, q⟩ := h
  obtain ⟨u, rfl, t, rfl⟩ := vals1 r
  exact call_abs_int fun u tk => ⟨.int (if i < 0 then -i else i), H, I.tok _, ⟨_, rfl⟩, q⟩
theorem call_max2 (hc : X.calm = true) : CallR X (.builtin "max") (fun xs H Q => ∃ i j, xs = [.int i, .int j] ∧ Q (.int (if j > i then j else i)) H) := by
  intro pins s σ H xs us Q I r h
  obtain ⟨i, j, rfl, q⟩ := h
  obtain ⟨u, w', rfl, ⟨t, rfl⟩, ⟨t', rfl⟩⟩ := vals2 r
  refine max_two_ints (I.ok.hd hc) fun h' tk k => ⟨_, H, I.kept k, ?_, q⟩
  by_cases hj : j > i
  · rw [if_pos hj, if_pos hj]; exact ⟨_, rfl⟩
  · rw [if_neg hj, if_neg hj]; exact ⟨_, rfl⟩
theorem call_min2 (hc : X.calm = true) : CallR X (.builtin "min") (fun xs H Q => ∃ i j, xs = [.int i, .int j] ∧ Q (.int (if j < i then j else i)) H) := by
  intro pins s σ H xs us Q I r h
  obtain ⟨i, j, rfl, q⟩ := h
  obtain ⟨u, w', rfl, ⟨t, rfl⟩, ⟨t', rfl⟩⟩ := vals2 r
  refine min_two_ints (I.ok.hd hc) fun h' tk k => ⟨_, H, I.kept k, ?_, q⟩
  by_cases hj : j < i
  · rw [if_pos hj, if_pos hj]; exact ⟨_, rfl⟩
  · rw [if_neg hj, if_neg hj]; exact ⟨_, rfl⟩
theorem call_int1 : CallR X (.type "int") (fun xs H Q => (∃ i, xs = [.int i] ∧ Q (.int i) H) ∨ ∃ k, xs = [.bl k] ∧ Q (.int (if k then 1 else 0)) H) := by
  intro pins s σ H xs us Q I r h
  rcases h with ⟨i, rfl, q⟩ | ⟨k, rfl, q⟩
  · obtain ⟨u, rfl, t, rfl⟩ := vals1 r
    exact call_int_int ⟨.int i, H, I, ⟨_, rfl⟩, q⟩
  · obtain ⟨u, rfl, r1⟩ := vals1 r
    cases r1
    exact call_int_bool ⟨.int (if k then 1 else 0), H, I.tok _, ⟨_, rfl⟩, q⟩
theorem call_bool1 : CallR X (.type "bool") (fun xs H Q => (∃ i, xs = [.int i] ∧ Q (.bl (i != 0)) H) ∨ ∃ k, xs = [.bl k] ∧ Q (.bl k) H) := by
  intro pins s σ H xs us Q I r h
  rcases h with ⟨i, rfl, q⟩ | ⟨k, rfl, q⟩
  · obtain ⟨u, rfl, t, rfl⟩ := vals1 r
    exact call_bool_int ⟨.bl (i != 0), H, I, rfl, q⟩
  · obtain ⟨u, rfl, r1⟩ := vals1 r
    cases r1
    exact call_bool_bool ⟨.bl k, H, I, rfl, q⟩
theorem call_str_int : CallR X (.type "str") (fun xs H Q => ∃ i, xs = [.int i] ∧ i.natAbs.log2 < 1920 ∧ Q (.str (toString i)) H) := by
  intro pins s σ H xs us Q I r h
  obtain ⟨i, rfl, hz, q⟩ := h
  obtain ⟨u, rfl, t, rfl⟩ := vals1 r
  exact PySem.P.str_of_int hz ⟨.str _, H, I.tok _, ⟨_, rfl⟩, q⟩
theorem call_ord : CallR X (.builtin "ord") (fun xs H Q => ∃ x, xs = [.str x] ∧ x.length = 1 ∧ Q (.int (x.cps.getD 0 0 : Nat)) H) := by
  intro pins s σ H xs us Q I r h
  obtain ⟨x, rfl, hz, q⟩ := h
  obtain ⟨u, rfl, t, rfl⟩ := vals1 r
  exact ord_of_one hz ⟨.int _, H, I.tok _, ⟨_, rfl⟩, q⟩
theorem call_chr : CallR X (.builtin "chr") (fun xs H Q => ∃ i, xs = [.int i] ∧ 0 ≤ i ∧ i ≤ 1114111 ∧ Q (.str ⟨#[i.toNat]⟩) H) := by
  intro pins s σ H xs us Q I r h
  obtain ⟨i, rfl, h0, h1, q⟩ := h
  obtain ⟨u, rfl, t, rfl⟩ := vals1 r
  exact chr_of_range h0 h1 ⟨.str _, H, I.tok _, ⟨_, rfl⟩, q⟩
/-- len of a str, a bytes, a list, a tuple -/
def LenV (K : PySem.W.Frag) (x : V) (H : Hp) (n : Nat) : Prop :=
  match x with
  | .str y => y.length ≤ sizeLine ∧ n = y.length
  | .byt y => y.size ≤ sizeLine ∧ n = y.size
  | .ref p => (∃ xs, SqL K H p xs ∧ n = xs.length) ∨ ∃ xs, SqT K H p xs ∧ n = xs.length
  | _ => False
theorem call_len : CallR X (.builtin "len") (fun xs H Q => ∃ x n, xs = [x] ∧ LenV X.K x H n ∧ Q (.int n) H) := by
  intro pins s σ H xs us Q I r h
  obtain ⟨x, n, rfl, e, q⟩ := h
  obtain ⟨u, rfl, rx⟩ := vals1 r
  have hl := line63
  have hs : sizeLine = 16777216 := sizeLine_eq
  cases x with
  | str y =>
    obtain ⟨t, rfl⟩ := rx
    obtain ⟨hy, e'⟩ : y.length ≤ sizeLine ∧ n = y.length := e
    subst e'
    exact len_str (by omega) ⟨.int _, H, I.tok _, ⟨_, rfl⟩, q⟩
  | byt y =>
    obtain ⟨t, rfl⟩ := rx
    obtain ⟨hy, e'⟩ : y.size ≤ sizeLine ∧ n = y.size := e
    subst e'
    exact PySem.W.len_bytes (by omega) ⟨.int _, H, I.tok _, ⟨_, rfl⟩, q⟩
  | ref p =>
    cases rx
    have e' : (∃ xs, SqL X.K H p xs ∧ n = xs.length) ∨ ∃ xs, SqT X.K H p xs ∧ n = xs.length := e
    rcases e' with ⟨xs, hx, e'⟩ | ⟨xs, hx, e'⟩
    · subst e'
      obtain ⟨its, r', pl, hz⟩ := I.list hx
      have hlen := r'.length
      exact Calls.call_len_list pl.isList (by simp only [List.size_toArray]; omega) ⟨.int xs.length, H, I.tok _, ⟨_, by simp only [List.size_toArray]; rw [hlen]⟩, q⟩
    · subst e'
      obtain ⟨its, r', pl, hz⟩ := I.tuple hx
      have hlen := r'.length
      exact len_tuple pl (by simp only [List.size_toArray]; omega) ⟨.int xs.length, H, I.tok _, ⟨_, by simp only [List.size_toArray]; rw [hlen]⟩, q⟩
  | _ => exact (show False from e).elim
/-- divmod: a new tuple -/
theorem call_divmod : CallR X (.builtin "divmod") (fun xs H Q => ∃ i j, xs = [.int i, .int j] ∧ CDiv i j ∧ ∀ p, H p = none → Q (.ref p) (upd H p (.tup [.int (i / j), .int (i % j)]))) := by
  intro pins s σ H xs us Q I r h
  obtain ⟨i, j, rfl, ⟨h1, h2⟩, q⟩ := h
  obtain ⟨u, w', rfl, ⟨t, rfl⟩, ⟨t', rfl⟩⟩ := vals2 r
  refine divmod_int (by omega) ?_ (.inl (PyProof.noPylong_small (by omega)))
  rw [Int.fdiv_eq_ediv_of_nonneg i (by omega), Int.fmod_eq_emod_of_nonneg i (by omega)]
  have hn : H s.heap.objs.size = none := I.hok.fresh (Nat.le_refl _)
  refine ⟨.ref s.heap.objs.size, _, ?_, rfl, q _ hn⟩
  refine I.laid (fun b o e => Heap.get?_push_of_some _ e) (Nat.le_refl _) ⟨by simp only [List.length_cons, List.length_nil]; rw [sizeLine_eq]; decide, [.int (i / j) s.toks, .int (i % j) (s.toks + 1)], .cons ⟨_, rfl⟩ (.cons ⟨_, rfl⟩ .nil), ?_⟩
  exact ⟨_, Heap.get?_push_size s.heap rfl, rfl, 0, rfl⟩
end
end L2

namespace L2
open PySem PySem.Spec PyProof.Rows

/-! ### an instance, its attributes a map -/
structure ObjM (h : Heap) (x dx C : Addr) (mA : Str → Option Value) : Prop where
  obj : h.get? x = some (PySem.W.instObj C dx)
  ns : h.Ns1 dx mA
  ne : dx ≠ x

theorem lookIn_ns {h : Heap} {dx : Addr} {mA : Str → Option Value} (n : h.Ns1 dx mA) : ∃ od, h.get? dx = some od ∧ ∀ name, PySem.W.lookIn name od = some (mA name) := by
  obtain ⟨o, es, ep, ho, hd, hk, _, hm⟩ := n
  refine ⟨o, ho, fun name => ?_⟩
  have e := hm name
  unfold nsFind findBy at e
  rw [← Array.find?_toList] at e
  unfold PySem.W.lookIn
  rw [hd]
  dsimp only
  split
  · rename_i y q
    rw [q] at e
    exact congrArg some e
  · rename_i q
    rw [q] at e
    have a : es.toList.any (·.refKey) = false := by
      rw [List.any_eq_false]
      intro y hy
      obtain ⟨z, t, hkey⟩ := hk y (Array.mem_toList_iff.mp hy)
      simp [DictEntry.refKey, hkey]
    have a' : ¬ es.toList.any (·.refKey) = true := by rw [a]; exact Bool.false_ne_true
    rw [if_neg a']
    exact congrArg some e

theorem ObjM.look {h : Heap} {x dx C : Addr} {mA : Str → Option Value} (I : ObjM h x dx C mA) : ∃ od, PySem.W.InstAt h x (PySem.W.instObj C dx) C (some od) ∧ ∀ name, PySem.W.lookIn name od = some (mA name) :=
  let ⟨od, ho, hl⟩ := lookIn_ns I.ns
  ⟨od, ⟨I.obj, rfl, rfl, ho⟩, hl⟩

section
variable {prog : Program} {w : World} {A : Around} {E : Value → Shared → Prop} {s : Shared} {K : PySem.W.Frag} {x dx C f : Addr} {mA : Str → Option Value} {name : Str} {v : Value}

theorem get_map {expr : Bool} {Q : Value → Shared → Prop} (X : K.In s.heap) (I : ObjM s.heap x dx C mA) (hg : PySem.W.plainGet K C name = true) (hh : PySem.W.hasDictIn K C = true)
    (ha : PySem.W.findIn K (.ref C) name = some none) (hv : mA name = some v) (hv' : PySem.W.handedIn v = true) (h : Q v { s with toks := s.toks + 1 }) :
    wpAny (model prog w) A (getAttr (.ref x) name expr) Q E s := by
  obtain ⟨od, J, hl⟩ := I.look
  exact PySem.W.get_value X J (PySem.W.plainGet_of hg).1 (PySem.W.findObj_own hh ha rfl (by rw [hl, hv])) hv' h

theorem get_const {expr : Bool} {a : Value} {Q : Value → Shared → Prop} (X : K.In s.heap) (I : ObjM s.heap x dx C mA) (hg : PySem.W.plainGet K C name = true) (hh : PySem.W.hasDictIn K C = true)
    (ha : PySem.W.findIn K (.ref C) name = some (some a)) (hn : PySem.W.specialIn K a "__get__" = some none) (hc : PySem.W.copiedNames.contains name = false) (hv : mA name = none) (hv' : PySem.W.handedIn a = true)
    (h : Q a { s with toks := s.toks + 1 }) : wpAny (model prog w) A (getAttr (.ref x) name expr) Q E s := by
  obtain ⟨od, J, hl⟩ := I.look
  exact PySem.W.get_value X J (PySem.W.plainGet_of hg).1 (PySem.W.findObj_cls hh ha hn hv' hc (by rw [hl, hv])) hv' h

theorem get_meth {pl : Sem Bool} {Q : Value × List Value → Shared → Prop} (X : K.In s.heap) (I : ObjM s.heap x dx C mA) (hg : PySem.W.plainGet K C name = true)
    (hf : PySem.W.findIn K (.ref C) name = some (some (.ref f))) (ht : PySem.W.isFn K (.ref f) = true) (hv : mA name = none) (h : Q (.ref f, [.ref x]) s) :
    wpAny (model prog w) A (getMethod (.ref x) name pl) Q E s := by
  obtain ⟨od, J, hl⟩ := I.look
  exact PySem.W.method_fn X J (PySem.W.plainGet_of hg).1 (PySem.W.plainGet_of hg).2 hf (beq_iff_eq.mp ht) (by show (PySem.W.lookIn name od).map (·.isSome) = some false; rw [hl, hv]; rfl) h

theorem set_map {ns : List Str} {Q : Unit → Shared → Prop} (X : K.In s.heap) (I : ObjM s.heap x dx C mA)
    (hs : PySem.W.findIn K (.ref C) "__setattr__" = some (some (.builtin "object.__setattr__"))) (hp : PySem.W.plainOver K C = true) (ht : PySem.W.takerIn K C name = some none) (hh : PySem.W.hasDictIn K C = true)
    (hw : PySem.Within mA ns) (hsz : ns.length ≤ sizeLine)
    (h : ∀ h', ObjM h' x dx C (fun y => if y = name then some v else mA y) → Heap.SameBut dx s.heap h' → Q () { s with heap := h', toks := s.toks + 2 }) :
    wpAny (model prog w) A (setAttr (.ref x) name v) Q E s := by
  obtain ⟨od, J, hl⟩ := I.look
  refine PySem.W.set_plain X J hs (PySem.W.osa_open (s := { s with toks := s.toks + 1 }) (r := none) X J hp ht fun b => ?_)
  obtain ⟨cd, hc, hd'⟩ := PySem.W.any_some hh
  have hx : s.heap.get? x = some ⟨.ref C, some dx, .plain, #[]⟩ := I.obj
  refine wpAny_bind (wpAny_pure (wpAny_bind (wpAny_bind (wpAny_loadPart hx (wpAny_bind (PySem.W.Looks.here (s := { s with toks := s.toks + 1 }) (PySem.W.looks_clsIn X hc) ?_))))))
  rw [hd']
  refine wpAny_pure (a := some dx) (wpAny_bind (wpAny_pure (wpAny_bind ?_)))
  refine wpAny_nsSet1 (s := { s with toks := s.toks + 1 }) I.ns fun h' hn2 hs2 => ?_
  obtain ⟨oD, esD, epD, hoD, hdD, hcD⟩ := hn2.count (PySem.Within.cons name v hw)
  refine wpAny_bind (wpAny_lookBehind hoD (by rw [hdD]; exact pastItsLine_dict (Nat.le_trans hcD (by rw [List.length_cons]; omega))) ?_)
  exact wpAny_pure (h _ ⟨(hs2.2 _ (Ne.symm I.ne)).trans I.obj, hn2, I.ne⟩ hs2)

/-- C(..): the dict at the heap's end, the instance behind it; then its __init__ -/
theorem make_map {R : Result → Shared → Prop} {vs : List Value} {kw : List (Str × Value)} (X : K.In s.heap) (hm : PySem.W.makesIn K C = true)
    (hi : PySem.W.findIn K (.ref C) "__init__" = some (some (.ref f))) (hf : PySem.W.typeIn K (.ref f) = some (.type "function"))
    (h : codeAny (model prog w) (A.under (.builtin "type.__call__" ⟨.ref C :: vs, kw⟩)) (.call (.ref f) ⟨.ref (s.heap.objs.size + 1) :: vs, kw⟩) (PySem.W.InitBack (s.heap.objs.size + 1) R)
      { s with heap := (s.heap.push PySem.W.emptyDict).push (PySem.W.instObj C s.heap.objs.size) }) :
    codeAny (model prog w) A (.call (.ref C) ⟨vs, kw⟩) R s := by
  obtain ⟨hh, g, d, t, os⟩ := s
  exact PySem.W.make_core (PySem.W.makes_of X hm) (PySem.W.looks_findIn X hi) (fun self => PySem.W.bind_fn X self hf) (.inl rfl) h
/-- C() where there is no __init__ but object's -/
theorem make_map0 {R : Result → Shared → Prop} (X : K.In s.heap) (hm : PySem.W.makesIn K C = true)
    (hi : PySem.W.findIn K (.ref C) "__init__" = some (some (.builtin "object.__init__")))
    (hb : ∀ self, PySem.W.Looks (model prog w) s.heap (bindSpecial (.builtin "object.__init__") self) (.builtin "object.__init__", [self]))
    (h : codeAny (model prog w) (A.under (.builtin "type.__call__" ⟨[.ref C], []⟩)) (.call (.builtin "object.__init__") ⟨[.ref (s.heap.objs.size + 1)], []⟩) (PySem.W.InitBack (s.heap.objs.size + 1) R)
      { s with heap := (s.heap.push PySem.W.emptyDict).push (PySem.W.instObj C s.heap.objs.size) }) :
    codeAny (model prog w) A (.call (.ref C) ⟨[], []⟩) R s := by
  obtain ⟨hh, g, d, t, os⟩ := s
  exact PySem.W.make_core (PySem.W.makes_of X hm) (PySem.W.looks_findIn X hi) hb (.inr ⟨rfl, rfl⟩) h
end

/-! ### the attributes as a list of pairs -/
def putF (f : Str) (v : V) : List (Str × V) → List (Str × V)
  | [] => [(f, v)]
  | (g, x) :: r => if g = f then (g, v) :: r else (g, x) :: putF f v r
theorem lookup_putF (f g : Str) (v : V) : ∀ fs : List (Str × V), (putF f v fs).lookup g = if g = f then some v else fs.lookup g
  | [] => by
    show List.lookup g [(f, v)] = _
    by_cases h : g = f
    · have hb : (g == f) = true := beq_iff_eq.mpr h
      simp only [List.lookup, hb, if_pos h]
    · have hb : (g == f) = false := beq_eq_false_iff_ne.mpr h
      simp only [List.lookup, hb, if_neg h]
  | (k, x) :: r => by
    have ih := lookup_putF f g v r
    rw [show putF f v ((k, x) :: r) = (if k = f then (k, v) :: r else (k, x) :: putF f v r) from rfl]
    by_cases hk : k = f
    · rw [if_pos hk]
      by_cases h : g = k
      · have hb : (g == k) = true := beq_iff_eq.mpr h
        simp only [List.lookup, hb, if_pos (h.trans hk)]
      · have hb : (g == k) = false := beq_eq_false_iff_ne.mpr h
        simp only [List.lookup, hb, if_neg (fun e : g = f => h (e.trans hk.symm))]
    · rw [if_neg hk]
      by_cases h : g = k
      · have hb : (g == k) = true := beq_iff_eq.mpr h
        simp only [List.lookup, hb, if_neg (fun e : g = f => hk (h.symm.trans e))]
      · have hb : (g == k) = false := beq_eq_false_iff_ne.mpr h
        simp only [List.lookup, hb]
        exact ih
theorem keys_putF (f : Str) (v : V) : ∀ fs : List (Str × V), f ∈ (putF f v fs).map (·.1) ∧ ∀ g, g ∈ fs.map (·.1) → g ∈ (putF f v fs).map (·.1)
  | [] => ⟨by simp [putF], fun g h => by simp at h⟩
  | (k, x) :: r => by
    obtain ⟨i1, i2⟩ := keys_putF f v r
    rw [show putF f v ((k, x) :: r) = (if k = f then (k, v) :: r else (k, x) :: putF f v r) from rfl]
    by_cases hk : k = f
    · rw [if_pos hk]
      subst hk
      exact ⟨by simp, fun g h => by simpa using h⟩
    · rw [if_neg hk]
      refine ⟨?_, fun g h => ?_⟩
      · rw [List.map_cons]
        exact List.mem_cons_of_mem _ i1
      · rw [List.map_cons] at h ⊢
        rcases List.mem_cons.mp h with e | e
        · exact List.mem_cons.mpr (.inl e)
        · exact List.mem_cons_of_mem _ (i2 g e)
theorem length_putF (f : Str) (v : V) : ∀ fs : List (Str × V), (putF f v fs).length ≤ fs.length + 1
  | [] => by simp [putF]
  | (k, x) :: r => by
    have ih := length_putF f v r
    rw [show putF f v ((k, x) :: r) = (if k = f then (k, v) :: r else (k, x) :: putF f v r) from rfl]
    by_cases hk : k = f
    · rw [if_pos hk, List.length_cons, List.length_cons]; omega
    · rw [if_neg hk, List.length_cons, List.length_cons]; omega

theorem RelO.some_of {v : V} {o : Option Value} (r : RelO (some v) o) : ∃ u, o = some u ∧ RelV v u := by
  cases o with
  | none => exact (show False from r).elim
  | some u => exact ⟨u, rfl, r⟩
theorem RelO.none_of {o : Option Value} (r : RelO none o) : o = none := by
  cases o with
  | none => rfl
  | some u => exact (show False from r).elim
theorem handed_of {v : V} {u : Value} (r : RelV v u) : PySem.W.handedIn u = true := by
  cases v with
  | non => cases (show u = Value.none from r); rfl
  | bl b => cases (show u = Value.bool b from r); rfl
  | int i => obtain ⟨t, e⟩ := (show ∃ t, u = Value.int i t from r); cases e; rfl
  | str x => obtain ⟨t, e⟩ := (show ∃ t, u = Value.str x t from r); cases e; rfl
  | byt b => obtain ⟨t, e⟩ := (show ∃ t, u = Value.bytes b t from r); cases e; rfl
  | flt b => obtain ⟨t, e⟩ := (show ∃ t, u = Value.float b t from r); cases e; rfl
  | ref a => cases (show u = Value.ref a from r); rfl
  | ty n => cases (show u = Value.type n from r); rfl

section
variable {P : Program} {w : World} {H H' : Hp} {h h' : Heap} {a C dx : Addr} {fs fs' : List (Str × V)}
theorem ins_get (hok : HOk P w H h) (e : H a = some (.ins C dx fs)) : ∃ mA, ObjM h a dx C mA ∧ (∀ f, RelO (fs.lookup f) (mA f)) ∧ PySem.Within mA (fs.map (·.1)) ∧ fs.length ≤ 1000 ∧ H dx = some (.own a) := by
  obtain ⟨d, z, ne, ob, mA, n, r, q⟩ := (show ObjOk P w H h a (.ins C dx fs) from hok a _ e)
  exact ⟨mA, ⟨ob, n, ne⟩, r, q, z, d⟩
end

/-! ### what of the text a class must have -/
structure Cls (K : PySem.W.Frag) (C : Addr) : Prop where
  pg : PySem.W.plainGet K C Str.empty = true
  hd : PySem.W.hasDictIn K C = true
  po : PySem.W.plainOver K C = true
  sa : PySem.W.findIn K (.ref C) "__setattr__" = some (some (.builtin "object.__setattr__"))
theorem Cls.get {K : PySem.W.Frag} {C : Addr} (c : Cls K C) (f : Str) : PySem.W.plainGet K C f = true := c.pg
/-- no class of it has the name -/
def NoAttr (K : PySem.W.Frag) (C : Addr) (f : Str) : Prop := PySem.W.findIn K (.ref C) f = some none
theorem NoAttr.taker {K : PySem.W.Frag} {C : Addr} {f : Str} (n : NoAttr K C f) : PySem.W.takerIn K C f = some none := by
  unfold PySem.W.takerIn
  rw [show PySem.W.findIn K (.ref C) f = some none from n]
  rfl
/-- a constant of the class -/
structure Con (K : PySem.W.Frag) (C : Addr) (f : Str) (v : V) (u : Value) : Prop where
  at_ : PySem.W.findIn K (.ref C) f = some (some u)
  rel : RelV v u
  get : PySem.W.specialIn K u "__get__" = some none
  cp : PySem.W.copiedNames.contains f = false
/-- a method: a plain def of the class or of one above it -/
structure Meth (K : PySem.W.Frag) (C : Addr) (m : Str) (f : Addr) : Prop where
  at_ : PySem.W.findIn K (.ref C) m = some (some (.ref f))
  fn : PySem.W.isFn K (.ref f) = true
  kp : PySem.W.keepIn K (.ref f) = true

section
variable {X : Cx} {pins : List (Addr × Obj)} {σ : St} {H : Hp} {s : Shared} {a C dx : Addr} {fs : List (Str × V)} {f : Str} {v : V} {A : Around} {E : Value → Shared → Prop}

theorem getattr_ok {b : Bool} {Q : Value → Shared → Prop} (I : Inv X pins σ H s) (e : H a = some (.ins C dx fs)) (c : Cls X.K C) (n : NoAttr X.K C f) (l : fs.lookup f = some v)
    (h : ∀ u s', Inv X pins σ H s' → RelV v u → Q u s') : wpAny (model X.prog X.w) A (getAttr (.ref a) f b) Q E s := by
  obtain ⟨mA, O, r, _, _, _⟩ := ins_get I.hok e
  obtain ⟨u, hu, ru⟩ := RelO.some_of (v := v) (o := mA f) (by rw [← l]; exact r f)
  exact get_map I.kIn O (c.get f) c.hd n hu (handed_of ru) (h u _ (I.tok _) ru)

theorem getcon_ok {b : Bool} {u : Value} {Q : Value → Shared → Prop} (I : Inv X pins σ H s) (e : H a = some (.ins C dx fs)) (c : Cls X.K C) (k : Con X.K C f v u) (l : fs.lookup f = none)
    (h : ∀ s', Inv X pins σ H s' → Q u s') : wpAny (model X.prog X.w) A (getAttr (.ref a) f b) Q E s := by
  obtain ⟨mA, O, r, _, _, _⟩ := ins_get I.hok e
  have hn : mA f = none := RelO.none_of (by rw [← l]; exact r f)
  exact get_const I.kIn O (c.get f) c.hd k.at_ k.get k.cp hn (handed_of k.rel) (h _ (I.tok _))

theorem getmeth_ok {m : Str} {g : Addr} {pl : Sem Bool} {Q : Value × List Value → Shared → Prop} (I : Inv X pins σ H s) (e : H a = some (.ins C dx fs)) (c : Cls X.K C) (k : Meth X.K C m g) (l : fs.lookup m = none)
    (h : Q (.ref g, [.ref a]) s) : wpAny (model X.prog X.w) A (getMethod (.ref a) m pl) Q E s := by
  obtain ⟨mA, O, r, _, _, _⟩ := ins_get I.hok e
  have hn : mA m = none := RelO.none_of (by rw [← l]; exact r m)
  exact get_meth I.kIn O (c.get m) k.at_ k.fn hn h

theorem setattr_ok {y : V} {u : Value} {Q : Unit → Shared → Prop} (I : Inv X pins σ H s) (e : H a = some (.ins C dx fs)) (c : Cls X.K C) (n : NoAttr X.K C f) (hl : fs.length < 1000) (ry : RelV y u)
    (h : ∀ s', Inv X pins σ (upd H a (.ins C dx (putF f y fs))) s' → Q () s') : wpAny (model X.prog X.w) A (setAttr (.ref a) f u) Q E s := by
  obtain ⟨mA, O, r, wi, _, ho⟩ := ins_get I.hok e
  have hz : (fs.map (·.1)).length ≤ sizeLine := by rw [List.length_map, sizeLine_eq]; omega
  refine set_map I.kIn O c.sa c.po n.taker c.hd wi hz fun h' O' sb => h _ ?_
  have hd : ∃ o, h'.get? dx = some o := let ⟨o, _, _, e', _⟩ := O'.ns; ⟨o, e'⟩
  refine I.write (x := a) (e := dx) (by rw [e]; exact True.intro) (.inr ho) (fun b q hb z => (sb.2 b hb).trans z) hd ?_
  refine ⟨by rw [upd_ne O.ne]; exact ho, ?_, O.ne, O'.obj, _, O'.ns, fun g => ?_, fun g hg => ?_⟩
  · have := length_putF f y fs; omega
  · show RelO ((putF f y fs).lookup g) (if g = f then some u else mA g)
    rw [lookup_putF]
    by_cases q : g = f
    · rw [if_pos q, if_pos q]; exact ry
    · rw [if_neg q, if_neg q]; exact r g
  · by_cases q : g = f
    · rw [q]; exact (keys_putF f y fs).1
    · refine (keys_putF f y fs).2 g (wi g fun z => hg ?_)
      show (if g = f then some u else mA g) = none
      rw [if_neg q]; exact z

/-- a new instance, tracked, without attributes -/
theorem Inv.made (I : Inv X pins σ H s) : Inv X pins σ (upd (upd H s.heap.objs.size (.own (s.heap.objs.size + 1))) (s.heap.objs.size + 1) (.ins C s.heap.objs.size []))
    { s with heap := (s.heap.push PySem.W.emptyDict).push (PySem.W.instObj C s.heap.objs.size) } := by
  have e1 : (s.heap.push PySem.W.emptyDict).get? s.heap.objs.size = some PySem.W.emptyDict := Heap.get?_push_size s.heap rfl
  have e2 : ((s.heap.push PySem.W.emptyDict).push (PySem.W.instObj C s.heap.objs.size)).get? (s.heap.objs.size + 1) = some (PySem.W.instObj C s.heap.objs.size) := by
    have := Heap.get?_push_size (s.heap.push PySem.W.emptyDict) (o := PySem.W.instObj C s.heap.objs.size) rfl
    rwa [Heap.size_push] at this
  have e3 : (s.heap.push PySem.W.emptyDict).Ns s.heap.objs.size (fun _ => none) := ⟨PySem.W.emptyDict, #[], _, e1, rfl, (fun e he => absurd he (by simp)), fun _ => rfl⟩
  have I1 := I.laid (a := s.heap.objs.size) (o := .own (s.heap.objs.size + 1)) (h' := s.heap.push PySem.W.emptyDict) (t' := s.toks) (fun b u q => Heap.get?_push_of_some _ q) (Nat.le_refl _) ⟨_, e1⟩
  refine I1.laid (a := s.heap.objs.size + 1) (o := .ins C s.heap.objs.size []) (t' := s.toks) (fun b u q => Heap.get?_push_of_some _ q) (Nat.le_of_eq (Heap.size_push _ _)) ?_
  have ne : s.heap.objs.size ≠ s.heap.objs.size + 1 := Nat.ne_of_lt (Nat.lt_succ_self _)
  refine ⟨by rw [upd_ne ne, upd_same], Nat.zero_le _, ne, e2, fun _ => none, (Heap.Ns1.of_empty e3).at fun o q => Heap.get?_push_of_some _ q, fun _ => True.intro, fun y hy => absurd rfl hy⟩

/-- e.f where nothing but the object is asked: through attributeBase (super) and the last hold -/
theorem attr_of {prog : Program} {w : World} {env : Env} {e : Expr} {f : Str} {pos : Pos} {s : Shared} {Q : Value → Shared → Prop} (hb : attributeBase e f env (eval e env) = eval e env)
    (h : wpAny (model prog w) A (eval e env) (fun o s₁ => wpAny (model prog w) A (getAttr o f true) Q E s₁) E s) : wpAny (model prog w) A (eval (.Attribute e f pos) env) Q E s :=
  Attribute_any_ h (by rw [arm_eval_Attribute, hb])
end

/-! ### readings and rules -/
/-- e.f, an attribute of the instance -/
def tFld (K : PySem.W.Frag) (ta : TE) (f : Str) : TE := fun σ H Q => ta σ H fun x H1 => ∃ a C dx fs v, x = .ref a ∧ H1 a = some (.ins C dx fs) ∧ Cls K C ∧ NoAttr K C f ∧ fs.lookup f = some v ∧ Q v H1
/-- e.f, a constant of the class -/
def tCon (K : PySem.W.Frag) (ta : TE) (f : Str) : TE := fun σ H Q => ta σ H fun x H1 => ∃ a C dx fs v u, x = .ref a ∧ H1 a = some (.ins C dx fs) ∧ Cls K C ∧ Con K C f v u ∧ fs.lookup f = none ∧ Q v H1
/-- e.f = value -/
def sFld (K : PySem.W.Frag) (ta tv : TE) (f : Str) : TS := fun D σ H => tv σ H fun y H1 => ta σ H1 fun x H2 => ∃ a C dx fs, x = .ref a ∧ H2 a = some (.ins C dx fs) ∧ Cls K C ∧ NoAttr K C f ∧ fs.length < 1000 ∧
  D.nx σ (upd H2 a (.ins C dx (putF f y fs)))
/-- an augmented operator on two values -/
def InOp (X : Cx) (op : Operator) (rd : V → V → Hp → VK → Prop) : Prop :=
  ∀ (pins : List (Addr × Obj)) (s : Shared) (σ : St) (H : Hp) (x y : V) (u v : Value) (Q : VK), Inv X pins σ H s → RelV x u → RelV y v → rd x y H Q → wpAny (model X.prog X.w) X.A (inplaceOp op u v) (EP X pins σ Q) X.xe s
/-- e.f op= value -/
def sFldAug (K : PySem.W.Frag) (ta tv : TE) (rd : V → V → Hp → VK → Prop) (f : Str) : TS := fun D σ H => ta σ H fun x H1 => ∃ a C dx fs v, x = .ref a ∧ H1 a = some (.ins C dx fs) ∧ Cls K C ∧ NoAttr K C f ∧ fs.lookup f = some v ∧
  tv σ H1 fun y H2 => rd v y H2 fun z H3 => ∃ dx' fs', H3 a = some (.ins C dx' fs') ∧ fs'.length < 1000 ∧ D.nx σ (upd H3 a (.ins C dx' (putF f z fs')))

section
variable {X : Cx} {o e value : Expr} {f : Str} {pos pos' tpos : Pos} {ta tv : TE}
theorem pe_fld (he : PE X e ta) (hb : attributeBase e f X.env (eval e X.env) = eval e X.env) : PE X (.Attribute e f pos) (tFld X.K ta f) := by
  intro pins s σ H Q I h
  refine attr_of hb (thn (he pins s σ H _ I h) fun u s1 ⟨x, H1, I1, rx, a, C, dx, fs, v, ex, ea, c, n, l, q⟩ => ?_)
  subst ex
  obtain rfl : u = Value.ref a := rx
  exact getattr_ok I1 ea c n l fun u' s2 I2 ru => ⟨v, H1, I2, ru, q⟩
theorem pe_con (he : PE X e ta) (hb : attributeBase e f X.env (eval e X.env) = eval e X.env) : PE X (.Attribute e f pos) (tCon X.K ta f) := by
  intro pins s σ H Q I h
  refine attr_of hb (thn (he pins s σ H _ I h) fun u s1 ⟨x, H1, I1, rx, a, C, dx, fs, v, u0, ex, ea, c, k, l, q⟩ => ?_)
  subst ex
  obtain rfl : u = Value.ref a := rx
  exact getcon_ok I1 ea c k l fun s2 I2 => ⟨v, H1, I2, k.rel, q⟩
theorem ps_fld (ha : PE X o ta) (hv : PE X value tv) (hs : swapsWith value (some (.Attribute o f pos')) pos.line X.env = pure false) : PS X (.Assign [.Attribute o f pos'] value pos) (sFld X.K ta tv f) := by
  intro pins s σ H D I h
  refine plainObj_wpAny_Assign_Attribute (thn (hv pins s σ H _ I h) fun u s1 ⟨y, H1, I1, ry, q⟩ => thn (ha pins s1 σ H1 _ I1 q) fun ov s2 ⟨x, H2, I2, rx, a, C, dx, fs, ex, ea, c, n, l, q2⟩ => ?_) hs
  subst ex
  obtain rfl : ov = Value.ref a := rx
  exact setattr_ok I2 ea c n l ry fun s3 I3 => ⟨σ, _, I3, q2⟩
theorem ps_fldaug {op : Operator} {rd : V → V → Hp → VK → Prop} (ha : PE X o ta) (hv : PE X value tv) (hop : InOp X op rd) : PS X (.AugAssign (.Attribute o f tpos) op value pos) (sFldAug X.K ta tv rd f) := by
  intro pins s σ H D I h
  refine wpAny_AugAssign_AttributeAny (thn (ha pins s σ H _ I h) fun ov s1 ⟨x, H1, I1, rx, a, C, dx, fs, v, ex, ea, c, n, l, q⟩ => ?_)
  subst ex
  obtain rfl : ov = Value.ref a := rx
  refine getattr_ok I1 ea c n l fun u s2 I2 ru => thn (hv pins s2 σ H1 _ I2 q) fun w3 s3 ⟨y, H2, I3, ry, q3⟩ => thn (hop pins s3 σ H2 v y u w3 _ I3 ru ry q3) fun w4 s4 ⟨z, H3, I4, rz, dx', fs', ea', l', q4⟩ => ?_
  exact setattr_ok I4 ea' c n l' rz fun s5 I5 => ⟨σ, _, I5, q4⟩
def rAdd : V → V → Hp → VK → Prop := fun x y H Q => ∃ i j, x = .int i ∧ y = .int j ∧ Q (.int (i + j)) H
def rSub : V → V → Hp → VK → Prop := fun x y H Q => ∃ i j, x = .int i ∧ y = .int j ∧ Q (.int (i - j)) H
theorem in_add : InOp X .Add rAdd := by
  rintro pins s σ H x y u v Q I rx ry ⟨i, j, rfl, rfl, q⟩
  obtain ⟨t, rfl⟩ := (show ∃ t, u = Value.int i t from rx)
  obtain ⟨t', rfl⟩ := (show ∃ t', v = Value.int j t' from ry)
  exact PyProof.Rows.iadd_int ⟨.int (i + j), H, I.tok _, ⟨_, rfl⟩, q⟩
theorem in_sub : InOp X .Sub rSub := by
  rintro pins s σ H x y u v Q I rx ry ⟨i, j, rfl, rfl, q⟩
  obtain ⟨t, rfl⟩ := (show ∃ t, u = Value.int i t from rx)
  obtain ⟨t', rfl⟩ := (show ∃ t', v = Value.int j t' from ry)
  exact PyProof.Rows.isub_int ⟨.int (i - j), H, I.tok _, ⟨_, rfl⟩, q⟩

/-- what is between an instance and its method: the tree of a method call -/
theorem methcall_of {pl : Sem Bool} {m : Str} {apos : Pos} {args : List Expr} {pins : List (Addr × Obj)} {s : Shared} {σ : St} {H : Hp} {Q : Value → Shared → Prop} {te : TE} (he : PE X e te) (I : Inv X pins σ H s)
    (h : te σ H fun x H1 => ∃ a C dx fs g, x = .ref a ∧ H1 a = some (.ins C dx fs) ∧ Cls X.K C ∧ Meth X.K C m g ∧ fs.lookup m = none ∧
      ∀ s1, Inv X pins σ H1 s1 → wpAny (model X.prog X.w) X.A (callWith pos (.ref g) [.ref a] (backTo pos (starEach args X.env)) (backToKw pos (keywordEach [] X.env))) Q X.xe s1)
    (ht : eval (.Call (.Attribute e m apos) args [] pos) X.env = (do
      let ov ← eval e X.env
      standAt apos.atName
      let (f, first) ← holding [ov] (getMethod ov m pl)
      callWith pos f first (backTo pos (starEach args X.env)) (backToKw pos (keywordEach [] X.env)))) :
    wpAny (model X.prog X.w) X.A (eval (.Call (.Attribute e m apos) args [] pos) X.env) Q X.xe s := by
  refine PySem.W.methodCall_KW (pl := pl) (thn (he pins s σ H _ I h) fun u s1 ⟨x, H1, I1, rx, a, C, dx, fs, g, ex, ea, c, k, l, q⟩ => ?_) ht
  subst ex
  obtain rfl : u = Value.ref a := rx
  exact getmeth_ok I1 ea c k l (q s1 I1)
end

/-! ### isinstance -/
section
variable {X : Cx} {pins : List (Addr × Obj)} {σ : St} {H : Hp} {s : Shared} {A : Around} {E : Value → Shared → Prop} {Q : Value → Shared → Prop} {c : Value} {b : Bool}
/-- the type of a value, as the fragment's deciders take it; for an instance its class -/
inductive TyOf (K : PySem.W.Frag) (H : Hp) : V → Value → Prop where
  | non : TyOf K H .non (.type "NoneType")
  | bl (x : Bool) : TyOf K H (.bl x) (.type "bool")
  | int (i : Int) : TyOf K H (.int i) (.type "int")
  | str (x : Str) : TyOf K H (.str x) (.type "str")
  | flt (x : UInt64) : TyOf K H (.flt x) (.type "float")
  | lst {a : Addr} {xs : List V} (e : H a = some (.lst xs)) : TyOf K H (.ref a) (.type "list")
  | frz {a : Addr} {o : Obj} {xs : List V} (e : H a = some (.frz o (.lst xs))) : TyOf K H (.ref a) (.type "list")
  | tup {a : Addr} {xs : List V} (e : H a = some (.tup xs)) : TyOf K H (.ref a) (.type "tuple")
  | dK {a : Addr} {kvs : List (Key × V)} (e : H a = some (.dK kvs)) : TyOf K H (.ref a) (.type "dict")
  | dT {a : Addr} {kvs : List (List Key × V)} (e : H a = some (.dT kvs)) : TyOf K H (.ref a) (.type "dict")
  | ins {a C dx : Addr} {fs : List (Str × V)} (e : H a = some (.ins C dx fs)) (cl : Cls K C) (ha : PySem.W.findIn K (.ref C) "__class__" = some (some (.builtin "object.__class__")))
      (hn : PySem.W.specialIn K (.builtin "object.__class__") "__get__" = some (some (.builtin "getset_descriptor.__get__"))) (htk : PySem.W.takesIn K (.builtin "object.__class__") = some true)
      (hm : PySem.W.mroIn K C (.type "object") = some true) : TyOf K H (.ref a) (.ref C)
/-- isinstance(x, c) for one class c, a built-in or an own one: kitOne's answer -/
theorem isinst_ok {x : V} {u t : Value} (I : Inv X pins σ H s) (rx : RelV x u) (ty : TyOf X.K H x t) (e : PySem.W.kitOne X.K t c = some b) (h : ∀ tk, Q (.bool b) { s with toks := tk }) :
    wpAny (model X.prog X.w) A (call (.builtin "isinstance") [u, c]) Q E s := by
  cases ty with
  | non => cases (show u = Value.none from rx); exact PySem.W.kia_one PySem.W.kitx_none I.kIn True.intro e (fun z => nomatch z) h
  | bl y => cases (show u = Value.bool y from rx); exact PySem.W.kia_one PySem.W.kitx_bool I.kIn True.intro e (fun z => nomatch z) h
  | int i => obtain ⟨t, q⟩ := (show ∃ t, u = Value.int i t from rx); cases q; exact PySem.W.kia_one PySem.W.kitx_int I.kIn True.intro e (fun z => nomatch z) h
  | str y => obtain ⟨t, q⟩ := (show ∃ t, u = Value.str y t from rx); cases q; exact PySem.W.kia_one PySem.W.kitx_str I.kIn True.intro e (fun z => nomatch z) h
  | flt y => obtain ⟨t, q⟩ := (show ∃ t, u = Value.float y t from rx); cases q; exact PySem.W.kia_one PySem.W.kitx_float I.kIn True.intro e (fun z => nomatch z) h
  | @lst a xs ea =>
    cases (show u = Value.ref a from rx)
    obtain ⟨_, _, n, _, h1⟩ := (show ObjOk X.prog X.w H s.heap a (.lst xs) from I.hok a _ ea)
    exact PySem.W.kia_one PySem.W.kitx_list I.kIn ⟨_, h1, rfl⟩ e (fun z => nomatch z) h
  | @frz a ob xs ea =>
    cases (show u = Value.ref a from rx)
    obtain ⟨_, _, _, n, _, h1⟩ := (show ObjOk X.prog X.w H s.heap a (.frz ob (.lst xs)) from I.hok a _ ea)
    exact PySem.W.kia_one PySem.W.kitx_list I.kIn ⟨_, h1, rfl⟩ e (fun z => nomatch z) h
  | @tup a xs ea =>
    cases (show u = Value.ref a from rx)
    obtain ⟨_, _, _, p⟩ := (show ObjOk X.prog X.w H s.heap a (.tup xs) from I.hok a _ ea)
    obtain ⟨o, h1, h2, _⟩ := p
    exact PySem.W.kia_one PySem.W.kitx_tuple I.kIn ⟨o, h1, h2⟩ e (fun z => nomatch z) h
  | @dK a kvs ea =>
    cases (show u = Value.ref a from rx)
    obtain ⟨_, _, vs, _, p⟩ := (show ObjOk X.prog X.w H s.heap a (.dK kvs) from I.hok a _ ea)
    obtain ⟨o, es, ep, h1, h2, _⟩ := p
    exact PySem.W.kia_one PySem.W.kitx_dict I.kIn ⟨o, h1, h2.1⟩ e (fun z => nomatch z) h
  | @dT a kvs ea =>
    cases (show u = Value.ref a from rx)
    obtain ⟨_, _, xs, _, o, es, ep, h1, h2, _⟩ := (show ObjOk X.prog X.w H s.heap a (.dT kvs) from I.hok a _ ea)
    exact PySem.W.kia_one PySem.W.kitx_dict I.kIn ⟨o, h1, h2.1⟩ e (fun z => nomatch z) h
  | @ins a C dx fs ea cl ha hn htk hm =>
    cases (show u = Value.ref a from rx)
    obtain ⟨mA, O, _⟩ := ins_get I.hok ea
    obtain ⟨od, J, _⟩ := O.look
    exact PySem.W.kia_one (PySem.W.kitx_own (cl.get _) cl.hd ha hn htk hm) I.kIn J e (fun z => nomatch z) h
end
end L2

namespace L2
open PySem PySem.Spec PyProof.Rows

/-! ### room -/
structure Room (k : Nat) (A : Around) : Prop where
  hd : A.handled = none
  dp : A.depth + 3 * k + 5 < recursionLimit
  un : A.units + 16 * k + 200 < cLine
theorem Room.mono {j k : Nat} {A : Around} (r : Room k A) (h : j ≤ k) : Room j A := ⟨r.hd, by have := r.dp; omega, by have := r.un; omega⟩
theorem Room.deeper {k : Nat} {A : Around} (r : Room (k + 1) A) (env : Env) : Room k (A.deeper env) :=
  ⟨r.hd, by have := r.dp; show A.depth + 1 + 3 * k + 5 < _; omega, by have := r.un; show A.units + 3 + 16 * k + 200 < _; omega⟩
theorem Room.in1 {k : Nat} {A : Around} (r : Room (k + 1) A) : Room k A.in1 :=
  ⟨r.hd, by have := r.dp; show A.depth + 3 * k + 5 < _; omega, by have := r.un; show A.units + 1 + 16 * k + 200 < _; omega⟩
theorem make_depth {A : Around} {C : Addr} {us : List Value} {kw : List (Str × Value)} : (A.under (.builtin "type.__call__" ⟨.ref C :: us, kw⟩)).depth = A.depth + 1 := by
  first | rfl | simp [Around.under, Code.weight, Code.isCreation, Code.isGuard, Code.isCaller, Code.frames, Code.isFrame, guardIds]
theorem make_units {A : Around} {C : Addr} {us : List Value} {kw : List (Str × Value)} : (A.under (.builtin "type.__call__" ⟨.ref C :: us, kw⟩)).units = A.units + 1 := by
  first | rfl | simp [Around.under, Code.cUnits, Code.frames, Code.isFrame]
theorem Room.make {k : Nat} {A : Around} (r : Room (k + 1) A) (C : Addr) (us : List Value) (kw : List (Str × Value)) : Room k (A.under (.builtin "type.__call__" ⟨.ref C :: us, kw⟩)) :=
  ⟨r.hd, by have := r.dp; rw [make_depth]; omega, by have := r.un; rw [make_units]; omega⟩
theorem Room.depth {k : Nat} {A : Around} (r : Room k A) : A.depth < recursionLimit := by have := r.dp; omega
theorem Room.units {k : Nat} {A : Around} (r : Room k A) : A.units + 64 < cLine := by have := r.un; omega
theorem Room.units0 {k : Nat} {A : Around} (r : Room k A) : A.units < cLine := by have := r.un; omega

/-! ### argument lists and displays -/
def tNil : TA := fun _ H Q => Q [] H
def tCons (ta : TE) (tr : TA) : TA := fun σ H Q => ta σ H fun x H1 => tr σ H1 fun xs H2 => Q (x :: xs) H2
section
variable {X : Cx} {e : Expr} {es : List Expr} {te : TE} {t : TA} {pos : Pos}
theorem pa_nil : PA X [] tNil := fun _ _ _ _ H Q I h => Calls.spliced_nil ⟨[], H, I, .nil, h⟩
theorem pa_cons (ha : PE X e te) (hr : PA X es t) (hs : starEach (e :: es) X.env = (false, eval e X.env) :: starEach es X.env := by rfl) : PA X (e :: es) (tCons te t) := by
  intro pos pins s σ H Q I h
  rw [hs]
  show wpAny _ _ (spliced ((false, eval e X.env) :: backTo pos (starEach es X.env))) _ _ s
  refine Calls.spliced_cons (thn (ha pins s σ H _ I h) fun u s1 ⟨x, H1, I1, r1, q1⟩ => ?_)
  exact thn (hr pos pins s1 σ H1 _ I1 q1) fun us s2 ⟨xs, H2, I2, r2, q2⟩ => ⟨x :: xs, H2, I2, .cons r1 r2, q2⟩

/-- a tuple, a list of written items -/
def tTup (t : TA) : TE := fun σ H Q => t σ H fun xs H1 => xs.length ≤ sizeLine ∧ ∀ p, H1 p = none → Q (.ref p) (upd H1 p (.tup xs))
def tLst (t : TA) : TE := fun σ H Q => t σ H fun xs H1 => xs.length ≤ sizeLine ∧ ∀ p, H1 p = none → Q (.ref p) (upd H1 p (.lst xs))
theorem pe_tup {x1} (h : PA X es t) : PE X (.Tuple es x1 pos) (tTup t) := by
  intro pins s σ H Q I hq
  refine wpAny_Tuple_spliced (thn (h pos pins s σ H _ I hq) fun us s1 ⟨xs, H1, I1, r, z, q⟩ => ⟨by rw [← r.length]; exact z, ?_⟩)
  have hf : H1 s1.heap.objs.size = none := I1.hok.fresh (Nat.le_refl _)
  refine ⟨.ref s1.heap.objs.size, upd H1 s1.heap.objs.size (.tup xs), I1.laid (t' := s1.toks) (fun b u e => Heap.get?_push_of_some _ e) (Nat.le_refl _) ?_, rfl, q _ hf⟩
  exact ⟨z, us, r, ⟨_, Heap.get?_push_size _ rfl, rfl, _, rfl⟩⟩
theorem pe_lst (h : PA X es t) : PE X (.List es pos) (tLst t) := by
  intro pins s σ H Q I hq
  refine wpAny_List_spliced (thn (h pos pins s σ H _ I hq) fun us s1 ⟨xs, H1, I1, r, z, q⟩ => ⟨by rw [← r.length]; exact z, ?_⟩)
  have hf : H1 s1.heap.objs.size = none := I1.hok.fresh (Nat.le_refl _)
  refine ⟨.ref s1.heap.objs.size, upd H1 s1.heap.objs.size (.lst xs), I1.laid (t' := s1.toks) (fun b u e => Heap.get?_push_of_some _ e) (Nat.le_refl _) ?_, rfl, q _ hf⟩
  exact ⟨z, us, 0, r, Heap.get?_push_size _ rfl⟩
end

/-! ### what a def promises -/
/-- a def's promise: the bound arguments in the parameters' order, the heap, the wanted end, the wanted exception -/
abbrev Sp := List V → Hp → VK → XK → Prop
/-- how an exception lies behind a call (file 08 gives it): the callers' frames, abstract heap and state ahead of the call, the wish, the exception, the state -/
abbrev CXT := List Env → Hp → Shared → XK → Value → Shared → Prop

/-- the state at a call -/
structure Env0 (P : Program) (w : World) (K : PySem.W.Frag) (mg : Str → Option Value) (base : Heap) (A : Around) (outer : List Env) (s : Shared) (H : Hp) : Prop where
  frames : A.frames = some outer
  mod : Mod K mg base
  bs : ∀ b o, base.get? b = some o → s.heap.get? b = some o ∧ H b = none
  bsz : base.objs.size ≤ s.heap.objs.size
  funs : s.heap.FunFrames base outer
  frf : ∀ b ∈ frs outer, H b = none
  hok : HOk P w H s.heap
  bare : AllBare s.gens
/-- a call's end -/
def CE (outer : List Env) (P : Program) (w : World) (H : Hp) (s : Shared) (Q : VK) (u : Value) (s' : Shared) : Prop :=
  ∃ v H', s'.os = s.os ∧ AllBare s'.gens ∧ Un (frs outer) [] H H' s.heap s'.heap ∧ HOk P w H' s'.heap ∧ RelV v u ∧ Q v H'
def CR (CX : CXT) (outer : List Env) (P : Program) (w : World) (H : Hp) (s : Shared) (Q : VK) (E : XK) (r : Result) (s' : Shared) : Prop :=
  match r with
  | .ok (.ret u) => CE outer P w H s Q u s'
  | .ok _ => False
  | .error e => CX outer H s E e s'
structure FnOk (P : Program) (w : World) (K : PySem.W.Frag) (mg : Str → Option Value) (base : Heap) (CX : CXT) (k : Nat) (f : Addr) (fd : FuncData) (ps : List Str) (sp : Sp) : Prop where
  len : ∀ vs H Q E, sp vs H Q E → vs.length = ps.length
  run : ∀ (A : Around) (outer : List Env) (s : Shared) (H : Hp) (args : Args) (us : List Value) (vs : List V) (Q : VK) (E : XK), Room k A → Env0 P w K mg base A outer s H → BindsTo s fd args (ps.zip us) → Vals vs us → sp vs H Q E →
    codeAny (model P w) A (.call (.ref f) args) (CR CX outer P w H s Q E) s
theorem FnOk.mono {P : Program} {w : World} {K : PySem.W.Frag} {mg : Str → Option Value} {base : Heap} {CX : CXT} {j k : Nat} {f : Addr} {fd : FuncData} {ps : List Str} {sp : Sp} (F : FnOk P w K mg base CX j f fd ps sp) (h : j ≤ k) :
    FnOk P w K mg base CX k f fd ps sp := ⟨F.len, fun A outer s H args us vs Q E hr => F.run A outer s H args us vs Q E (hr.mono h)⟩
/-- a weaker promise -/
theorem FnOk.imp {P : Program} {w : World} {K : PySem.W.Frag} {mg : Str → Option Value} {base : Heap} {CX : CXT} {k : Nat} {f : Addr} {fd : FuncData} {ps : List Str} {sp sp' : Sp} (F : FnOk P w K mg base CX k f fd ps sp)
    (h : ∀ vs H Q E, sp' vs H Q E → sp vs H Q E) : FnOk P w K mg base CX k f fd ps sp' :=
  ⟨fun vs H Q E q => F.len vs H Q E (h _ _ _ _ q), fun A outer s H args us vs Q E hr he hb hv hs => F.run A outer s H args us vs Q E hr he hb hv (h _ _ _ _ hs)⟩

theorem Env0.make {P : Program} {w : World} {K : PySem.W.Frag} {mg : Str → Option Value} {base : Heap} {A : Around} {outer : List Env} {s : Shared} {H : Hp} (e : Env0 P w K mg base A outer s H) (C : Addr) (us : List Value) (kw : List (Str × Value)) :
    Env0 P w K mg base (A.under (.builtin "type.__call__" ⟨.ref C :: us, kw⟩)) outer s H := ⟨by first | exact e.frames | (simpa [Around.under, Code.envs, Code.isFrame, pushEnvs] using e.frames), e.mod, e.bs, e.bsz, e.funs, e.frf, e.hok, e.bare⟩
theorem Env0.in1 {P : Program} {w : World} {K : PySem.W.Frag} {mg : Str → Option Value} {base : Heap} {A : Around} {outer : List Env} {s : Shared} {H : Hp} (e : Env0 P w K mg base A outer s H) :
    Env0 P w K mg base A.in1 outer s H := ⟨e.frames, e.mod, e.bs, e.bsz, e.funs, e.frf, e.hok, e.bare⟩

section
variable {X : Cx} {pins : List (Addr × Obj)} {σ : St} {H : Hp} {s s' : Shared}
/-- from a body: what a callee wants -/
theorem Inv.env0 (I : Inv X pins σ H s) : Env0 X.prog X.w X.K X.mg X.base X.A X.stack s H :=
  ⟨I.ok.frames, I.ok.mod, I.bs, Nat.le_trans I.ok.bsz I.sz, I.stack, I.stkFree, I.hok, I.bare⟩
/-- behind a call -/
theorem Inv.after {Q : VK} {u : Value} (I : Inv X pins σ H s) (h : CE X.stack X.prog X.w H s Q u s') : EP X pins σ Q u s' := by
  obtain ⟨v, H', os, bare, un, hok, r, q⟩ := h
  obtain ⟨hh, g, d, t, os'⟩ := s'
  obtain rfl : os' = s.os := os
  exact ⟨v, H', I.call (h' := hh) (g' := g) (d' := d) (t' := t) (ch := []) un hok bare (fun b z => absurd z (by simp)), r, q⟩
end

/-! ### calls -/
/-- f(..): the written arguments, then the defaults dvs; E: what is wanted of an exception -/
def tCall (sp : Sp) (dvs : List V) (E : XK) (t : TA) : TE := fun σ H Q => t σ H fun vs H1 => sp (vs ++ dvs) H1 Q E
/-- o.m(..) of an instance of the class at C -/
def tMeth (C : Addr) (m : Str) (sp : Sp) (dvs : List V) (E : XK) (ta : TE) (t : TA) : TE := fun σ H Q => ta σ H fun x H1 => ∃ a dx fs, x = .ref a ∧ H1 a = some (.ins C dx fs) ∧ fs.lookup m = none ∧
  t σ H1 fun vs H2 => sp (x :: (vs ++ dvs)) H2 Q E
/-- C(..): a new instance and its dict, then __init__ -/
def tMake (C : Addr) (sp : Sp) (dvs : List V) (E : XK) (t : TA) : TE := fun σ H Q => t σ H fun vs H1 => ∀ x dx, H1 x = none → H1 dx = none → dx ≠ x →
  sp (.ref x :: (vs ++ dvs)) (upd (upd H1 dx (.own x)) x (.ins C dx [])) (fun v H2 => v = .non ∧ Q (.ref x) H2) E

/-- how the parameters are bound: us the positional arguments, kw the keywords' values by name, ds the defaults that fill up -/
def Binds (K : PySem.W.Frag) (fd : FuncData) (ps : List Str) (ds : List Value) : Prop :=
  ∀ (s : Shared) (us : List Value), K.In s.heap → (us ++ ds).length = ps.length → BindsTo s fd ⟨us, []⟩ (ps.zip (us ++ ds))
/-- every parameter is given -/
theorem Binds.all {K : PySem.W.Frag} {fd : FuncData} {ps : List Str} (h : ∀ us : List Value, us.length = ps.length → bindArgs fd ⟨us, []⟩ = pure (ps.zip us)) : Binds K fd ps [] := fun s us _ hl => by
  rw [List.append_nil] at hl ⊢
  exact .of_eq (h us hl)

/-- an exception of a callee reaches what this body wants of exceptions -/
def Passes (CX : CXT) (X : Cx) (E : XK) : Prop := ∀ (pins : List (Addr × Obj)) (σ : St) (H : Hp) (s : Shared) (e : Value) (s' : Shared), Inv X pins σ H s → CX X.stack H s E e s' → X.xe e s'

section
variable {X : Cx} {CX : CXT} {k : Nat} {f C : Addr} {fd : FuncData} {ps : List Str} {sp : Sp} {dvs : List V} {ds : List Value} {E : XK} {x m : Str} {p pos apos : Pos} {e o : Expr} {es : List Expr} {ta : TE} {t : TA}

/-- the callee runs -/
theorem run_fn {pins : List (Addr × Obj)} {σ : St} {H : Hp} {s : Shared} {Q : VK} {us : List Value} {vs : List V} (F : FnOk X.prog X.w X.K X.mg X.base CX k f fd ps sp) (hr : Room k X.A) (hb : Binds X.K fd ps ds) (hd : Vals dvs ds) (hx : Passes CX X E)
    (I : Inv X pins σ H s) (r : Vals vs us) (h : sp (vs ++ dvs) H Q E) : wpAny (model X.prog X.w) X.A (call (.ref f) us) (EP X pins σ Q) X.xe s := by
  have r2 : Vals (vs ++ dvs) (us ++ ds) := r.append hd
  have hl : (us ++ ds).length = ps.length := by rw [← r2.length]; exact F.len _ _ _ _ h
  refine wpAny_call (codeAny_mono (F.run X.A X.stack s H ⟨us, []⟩ (us ++ ds) (vs ++ dvs) Q E hr I.env0 (hb s us I.kIn hl) r2 h) fun r s' hq => ?_)
  cases r with
  | error e => exact hx pins σ H s e s' I hq
  | ok fl =>
    cases fl with
    | ret u => exact I.after hq
    | next => exact False.elim hq
    | brk => exact False.elim hq
    | cont => exact False.elim hq

theorem pe_call (F : FnOk X.prog X.w X.K X.mg X.base CX k f fd ps sp) (hr : Room k X.A) (hg : Gl X x) (hm : X.mg x = some (.ref f)) (hk : PySem.W.keepIn X.K (.ref f) = true) (hb : Binds X.K fd ps ds) (hd : Vals dvs ds) (hx : Passes CX X E)
    (ha : PA X (e :: es) t) (hdb : (x == ("__debug__" : Str)) = false := by decide) (he : starEach (e :: es) X.env = (false, eval e X.env) :: starEach es X.env := by rfl) (hpl : (backTo pos (starEach es X.env)).any (·.1) = false := by rfl) :
    PE X (.Call (.Name x p) (e :: es) [] pos) (tCall sp dvs E t) := by
  intro pins s σ H Q I h
  refine wpAny_Call_Name_kw (ld_glob I hg hm ?_ hdb)
  refine PySem.W.callWith_K (h₀ := X.base) I.ok.mod.kin hk (thn (ha pos pins s σ H _ I h) fun us s1 ⟨vs, H1, I1, r, q⟩ => ⟨I1.kIn, ?_⟩) he hpl
  exact run_fn F hr hb hd hx I1 r q
theorem pe_call0 (F : FnOk X.prog X.w X.K X.mg X.base CX k f fd ps sp) (hr : Room k X.A) (hg : Gl X x) (hm : X.mg x = some (.ref f)) (hk : PySem.W.keepIn X.K (.ref f) = true) (hb : Binds X.K fd ps ds) (hd : Vals dvs ds) (hx : Passes CX X E)
    (hdb : (x == ("__debug__" : Str)) = false := by decide) : PE X (.Call (.Name x p) [] [] pos) (tCall sp dvs E tNil) := by
  intro pins s σ H Q I h
  refine wpAny_Call_Name_kw (ld_glob I hg hm ?_ hdb)
  exact PySem.W.callWith_K0 I.kIn hk (run_fn (us := []) F hr hb hd hx I .nil h)

/-- o.m(e, ..) -/
theorem pe_meth {pl : Sem Bool} (he : PE X o ta) (c : Cls X.K C) (hm : Meth X.K C m f) (F : FnOk X.prog X.w X.K X.mg X.base CX k f fd ps sp) (hr : Room k X.A) (hb : Binds X.K fd ps ds) (hd : Vals dvs ds) (hx : Passes CX X E) (ha : PA X (e :: es) t)
    (hst : starEach (e :: es) X.env = (false, eval e X.env) :: starEach es X.env := by rfl) (hpl : (backTo pos (starEach es X.env)).any (·.1) = false := by rfl)
    (ht : eval (.Call (.Attribute o m apos) (e :: es) [] pos) X.env = (do
      let ov ← eval o X.env
      standAt apos.atName
      let (f, first) ← holding [ov] (getMethod ov m pl)
      callWith pos f first (backTo pos (starEach (e :: es) X.env)) (backToKw pos (keywordEach [] X.env))) := by rfl) :
    PE X (.Call (.Attribute o m apos) (e :: es) [] pos) (tMeth C m sp dvs E ta t) := by
  intro pins s σ H Q I h
  refine PySem.W.methodCall_KW (pl := pl) (thn (he pins s σ H _ I h) fun u s1 ⟨x, H1, I1, rx, a, dx, fs, ex, ea, l, q⟩ => ?_) ht
  subst ex
  obtain rfl : u = Value.ref a := rx
  refine getmeth_ok I1 ea c hm l ?_
  refine PySem.W.callWith_K (first := [.ref a]) (h₀ := X.base) I.ok.mod.kin hm.kp (thn (ha pos pins s1 σ H1 _ I1 q) fun us s2 ⟨vs, H2, I2, r, q2⟩ => ⟨I2.kIn, ?_⟩) hst hpl
  exact run_fn (us := .ref a :: us) (vs := .ref a :: vs) F hr hb hd hx I2 (.cons rfl r) q2
/-- o.m() -/
theorem pe_meth0 {pl : Sem Bool} (he : PE X o ta) (c : Cls X.K C) (hm : Meth X.K C m f) (F : FnOk X.prog X.w X.K X.mg X.base CX k f fd ps sp) (hr : Room k X.A) (hb : Binds X.K fd ps ds) (hd : Vals dvs ds) (hx : Passes CX X E)
    (ht : eval (.Call (.Attribute o m apos) [] [] pos) X.env = (do
      let ov ← eval o X.env
      standAt apos.atName
      let (f, first) ← holding [ov] (getMethod ov m pl)
      callWith pos f first (backTo pos (starEach [] X.env)) (backToKw pos (keywordEach [] X.env))) := by rfl) :
    PE X (.Call (.Attribute o m apos) [] [] pos) (tMeth C m sp dvs E ta tNil) := by
  intro pins s σ H Q I h
  refine PySem.W.methodCall_KW (pl := pl) (thn (he pins s σ H _ I h) fun u s1 ⟨x, H1, I1, rx, a, dx, fs, ex, ea, l, q⟩ => ?_) ht
  subst ex
  obtain rfl : u = Value.ref a := rx
  refine getmeth_ok I1 ea c hm l ?_
  exact PySem.W.callWith_K0 (first := [.ref a]) I1.kIn hm.kp (run_fn (us := [.ref a]) (vs := [.ref a]) F hr hb hd hx I1 (.cons rfl .nil) q)

/-- what a class must have to be made -/
structure Mk (K : PySem.W.Frag) (C f : Addr) : Prop where
  makes : PySem.W.makesIn K C = true
  init : PySem.W.findIn K (.ref C) "__init__" = some (some (.ref f))
  fn : PySem.W.isFn K (.ref f) = true
  kp : PySem.W.keepIn K (.ref C) = true

theorem run_make {pins : List (Addr × Obj)} {σ : St} {H : Hp} {s : Shared} {Q : VK} {us : List Value} {vs : List V} (M : Mk X.K C f) (F : FnOk X.prog X.w X.K X.mg X.base CX k f fd ps sp) (hr : Room (k + 1) X.A) (hb : Binds X.K fd ps ds) (hd : Vals dvs ds)
    (hx : Passes CX X E) (I : Inv X pins σ H s) (r : Vals vs us)
    (h : ∀ x dx, H x = none → H dx = none → dx ≠ x → sp (.ref x :: (vs ++ dvs)) (upd (upd H dx (.own x)) x (.ins C dx [])) (fun v H2 => v = .non ∧ Q (.ref x) H2) E) :
    wpAny (model X.prog X.w) X.A (call (.ref C) us) (EP X pins σ Q) X.xe s := by
  have hq := h (s.heap.objs.size + 1) s.heap.objs.size (I.hok.fresh (Nat.le_succ _)) (I.hok.fresh (Nat.le_refl _)) (Nat.ne_of_lt (Nat.lt_succ_self _))
  have I2 := Inv.made (C := C) I
  have r2 : Vals (V.ref (s.heap.objs.size + 1) :: (vs ++ dvs)) (Value.ref (s.heap.objs.size + 1) :: (us ++ ds)) := .cons rfl (r.append hd)
  have hl : (Value.ref (s.heap.objs.size + 1) :: us ++ ds).length = ps.length := by
    have e := r2.length
    rw [F.len _ _ _ _ hq] at e
    exact e.symm
  refine wpAny_call (make_map (f := f) I.kIn M.makes M.init (beq_iff_eq.mp M.fn) (codeAny_mono (F.run _ X.stack _ _ ⟨Value.ref (s.heap.objs.size + 1) :: us, []⟩ (Value.ref (s.heap.objs.size + 1) :: (us ++ ds)) _ _ E (hr.make C us [])
    (I2.env0.make C us []) (hb _ (Value.ref (s.heap.objs.size + 1) :: us) I2.kIn hl) r2 hq) fun r s' hq' => ?_))
  cases r with
  | error e => exact hx pins σ _ _ e s' I2 hq'
  | ok fl =>
    cases fl with
    | ret u =>
      obtain ⟨v, H', I3, rv, ev, q3⟩ := I2.after hq'
      subst ev
      exact ⟨rv, ⟨V.ref (s.heap.objs.size + 1), H', I3, rfl, q3⟩⟩
    | next => exact False.elim hq'
    | brk => exact False.elim hq'
    | cont => exact False.elim hq'
theorem pe_make (M : Mk X.K C f) (F : FnOk X.prog X.w X.K X.mg X.base CX k f fd ps sp) (hr : Room (k + 1) X.A) (hg : Gl X x) (hm : X.mg x = some (.ref C)) (hb : Binds X.K fd ps ds) (hd : Vals dvs ds) (hx : Passes CX X E)
    (ha : PA X (e :: es) t) (hdb : (x == ("__debug__" : Str)) = false := by decide) (he : starEach (e :: es) X.env = (false, eval e X.env) :: starEach es X.env := by rfl) (hpl : (backTo pos (starEach es X.env)).any (·.1) = false := by rfl) :
    PE X (.Call (.Name x p) (e :: es) [] pos) (tMake C sp dvs E t) := by
  intro pins s σ H Q I h
  refine wpAny_Call_Name_kw (ld_glob I hg hm ?_ hdb)
  refine PySem.W.callWith_K (h₀ := X.base) I.ok.mod.kin M.kp (thn (ha pos pins s σ H _ I h) fun us s1 ⟨vs, H1, I1, r, q⟩ => ⟨I1.kIn, ?_⟩) he hpl
  exact run_make M F hr hb hd hx I1 r q
theorem pe_make0 (M : Mk X.K C f) (F : FnOk X.prog X.w X.K X.mg X.base CX k f fd ps sp) (hr : Room (k + 1) X.A) (hg : Gl X x) (hm : X.mg x = some (.ref C)) (hb : Binds X.K fd ps ds) (hd : Vals dvs ds) (hx : Passes CX X E)
    (hdb : (x == ("__debug__" : Str)) = false := by decide) : PE X (.Call (.Name x p) [] [] pos) (tMake C sp dvs E tNil) := by
  intro pins s σ H Q I h
  refine wpAny_Call_Name_kw (ld_glob I hg hm ?_ hdb)
  exact PySem.W.callWith_K0 I.kIn M.kp (run_make (us := []) M F hr hb hd hx I .nil h)
end

/-! ### keywords -/
/-- the values of the keywords, from the left -/
def PK (X : Cx) (kws : List Keyword) (t : TA) : Prop :=
  ∀ (pos : Pos) (pins : List (Addr × Obj)) (s : Shared) (σ : St) (H : Hp) (Q : List V → Hp → Prop), Inv X pins σ H s → t σ H Q → wpAny (model X.prog X.w) X.A (evalAll ((backToKw pos (keywordEach kws X.env)).map (·.2))) (AP X pins σ Q) X.xe s
section
variable {X : Cx} {CX : CXT} {k : Nat} {f C : Addr} {fd : FuncData} {ps ks : List Str} {sp : Sp} {E : XK} {x m : Str} {p pos apos kpos : Pos} {e o : Expr} {es : List Expr} {kws : List Keyword} {te ta : TE} {t tk : TA} {nm : Option Str}
theorem pk_nil : PK X [] tNil := fun _ _ _ _ H Q I h => wpAny_evalAll_nil ⟨[], H, I, .nil, h⟩
theorem pk_cons (ha : PE X e te) (hr : PK X kws t) : PK X (⟨nm, e, kpos⟩ :: kws) (tCons te t) := by
  intro pos pins s σ H Q I h
  show wpAny _ _ (evalAll ((do let v ← eval e X.env; standAt pos; pure v) :: (backToKw pos (keywordEach kws X.env)).map (·.2))) _ _ s
  refine wpAny_evalAll_cons (wpAny_bind (thn (ha pins s σ H _ I h) fun u s1 ⟨x, H1, I1, r1, q1⟩ => wpAny_bind (wpAny_standAt (wpAny_pure ?_))))
  exact thn (hr pos pins s1 σ H1 _ I1 q1) fun us s2 ⟨xs, H2, I2, r2, q2⟩ => ⟨x :: xs, H2, I2, .cons r1 r2, q2⟩

/-- how a call with keywords binds: g puts the positional values us and the keywords' values ws (names ks) in the parameters' order, defaults among them -/
structure KBinds (K : PySem.W.Frag) (fd : FuncData) (ps ks : List Str) (g : List Value → List Value → List Value) (gV : List V → List V → List V) : Prop where
  to : ∀ (s : Shared) (us ws : List Value), K.In s.heap → (g us ws).length = ps.length → BindsTo s fd ⟨us, ks.zip ws⟩ (ps.zip (g us ws))
  rel : ∀ {vs : List V} {us : List Value} {zs : List V} {ws : List Value}, Vals vs us → Vals zs ws → Vals (gV vs zs) (g us ws)
def tCallK (sp : Sp) (gV : List V → List V → List V) (E : XK) (t tk : TA) : TE := fun σ H Q => t σ H fun vs H1 => tk σ H1 fun zs H2 => sp (gV vs zs) H2 Q E
variable {g : List Value → List Value → List Value} {gV : List V → List V → List V}
theorem run_fnk {pins : List (Addr × Obj)} {σ : St} {H : Hp} {s : Shared} {Q : VK} {us ws : List Value} {vs zs : List V} (F : FnOk X.prog X.w X.K X.mg X.base CX k f fd ps sp) (hr : Room k X.A) (hb : KBinds X.K fd ps ks g gV) (hx : Passes CX X E)
    (I : Inv X pins σ H s) (r : Vals vs us) (rz : Vals zs ws) (h : sp (gV vs zs) H Q E) : wpAny (model X.prog X.w) X.A (call (.ref f) us (ks.zip ws)) (EP X pins σ Q) X.xe s := by
  have r2 := hb.rel r rz
  have hl : (g us ws).length = ps.length := by rw [← r2.length]; exact F.len _ _ _ _ h
  refine wpAny_call (codeAny_mono (F.run X.A X.stack s H ⟨us, ks.zip ws⟩ (g us ws) (gV vs zs) Q E hr I.env0 (hb.to s us ws I.kIn hl) r2 h) fun r s' hq => ?_)
  cases r with
  | error e => exact hx pins σ H s e s' I hq
  | ok fl =>
    cases fl with
    | ret u => exact I.after hq
    | next => exact False.elim hq
    | brk => exact False.elim hq
    | cont => exact False.elim hq
/-- f(e, .., k = v, ..) -/
theorem pe_callK (F : FnOk X.prog X.w X.K X.mg X.base CX k f fd ps sp) (hr : Room k X.A) (hg : Gl X x) (hm : X.mg x = some (.ref f)) (hk : PySem.W.keepIn X.K (.ref f) = true) (hb : KBinds X.K fd ps ks g gV) (hx : Passes CX X E)
    (ha : PA X (e :: es) t) (hkw : PK X kws tk) (hall : (backToKw pos (keywordEach kws X.env)).all (·.1.isSome) = true := by rfl) (hks : (backToKw pos (keywordEach kws X.env)).filterMap (·.1) = ks := by rfl)
    (hdb : (x == ("__debug__" : Str)) = false := by decide) (he : starEach (e :: es) X.env = (false, eval e X.env) :: starEach es X.env := by rfl)
    (hpl : ((backTo pos (starEach (e :: es) X.env)).any (·.1) || (backToKw pos (keywordEach kws X.env)).any (·.1.isNone)) = false := by rfl) :
    PE X (.Call (.Name x p) (e :: es) kws pos) (tCallK sp gV E t tk) := by
  intro pins s σ H Q I h
  refine wpAny_Call_Name_kw (ld_glob I hg hm ?_ hdb)
  refine PySem.W.callWith_KW (h₀ := X.base) I.ok.mod.kin hk hall (thn (ha pos pins s σ H _ I h) fun us s1 ⟨vs, H1, I1, r, q⟩ => ?_) hpl he
  refine thn (hkw pos pins s1 σ H1 _ I1 q) fun ws s2 ⟨zs, H2, I2, rz, q2⟩ => ⟨I2.kIn, ?_⟩
  rw [hks]
  exact run_fnk F hr hb hx I2 r rz q2
end

/-! ### a def's body keeps its promise -/
/-- names: the parameters first -/
structure FnScope (N P : List Str) (sc : Scope) : Prop where
  kind : sc.kind = .function
  co : sc.isCoroutine = false
  gen : sc.isGenerator = false
  nd : N.Nodup
  pre : N.take P.length = P
  par : ∀ x ∈ P, sc.names.lookup x = some .local ∨ sc.names.lookup x = some .cell
  nofree : ∀ y ∈ sc.names, y.2 ≠ .free

theorem bindL_out {kindOf : Str → Option NameKind} {x : Str} : ∀ {binds : List (Str × Value)} {m : Str → Option Value}, (∀ v, (x, v) ∉ binds) → bindL kindOf binds m x = m x
  | [], _, _ => rfl
  | (n, v) :: r, m, h => by
    unfold bindL
    rw [bindL_out fun w hw => h w (List.mem_cons_of_mem _ hw)]
    split
    · have : x ≠ n := by rintro rfl; exact h v List.mem_cons_self
      simp [this]
    · rfl
theorem bindC_out {kindOf : Str → Option NameKind} {x : Str} : ∀ {binds : List (Str × Value)} {m : Str → Option Value}, (∀ v, (x, v) ∉ binds) → bindC kindOf binds m x = m x
  | [], _, _ => rfl
  | (n, v) :: r, m, h => by
    unfold bindC
    rw [bindC_out fun w hw => h w (List.mem_cons_of_mem _ hw)]
    split
    · rfl
    · have : x ≠ n := by rintro rfl; exact h v List.mem_cons_self
      simp [this]
theorem bindL_get {kindOf : Str → Option NameKind} {x : Str} {v : Value} : ∀ {P : List Str} {vs : List Value} {i : Nat} {m : Str → Option Value}, P.Nodup → P[i]? = some x → vs[i]? = some v → kindOf x = some .local →
    bindL kindOf (P.zip vs) m x = some v
  | [], _, _, _, _, h, _, _ => by simp at h
  | _ :: _, [], _, _, _, _, h, _ => by simp at h
  | p :: P, w :: vs, 0, m, nd, h1, h2, hk => by
    simp at h1 h2; subst h1; subst h2
    show bindL kindOf ((p, w) :: P.zip vs) m p = _
    unfold bindL
    rw [bindL_out fun v hv => (List.nodup_cons.mp nd).1 (List.of_mem_zip hv).1, if_pos hk]
    simp
  | p :: P, w :: vs, i + 1, m, nd, h1, h2, hk => by
    show bindL kindOf ((p, w) :: P.zip vs) m x = _
    unfold bindL
    exact bindL_get (i := i) (List.nodup_cons.mp nd).2 (by simpa using h1) (by simpa using h2) hk
theorem bindC_get {kindOf : Str → Option NameKind} {x : Str} {v : Value} : ∀ {P : List Str} {vs : List Value} {i : Nat} {m : Str → Option Value}, P.Nodup → P[i]? = some x → vs[i]? = some v → kindOf x ≠ some .local →
    bindC kindOf (P.zip vs) m x = some v
  | [], _, _, _, _, h, _, _ => by simp at h
  | _ :: _, [], _, _, _, _, h, _ => by simp at h
  | p :: P, w :: vs, 0, m, nd, h1, h2, hk => by
    simp at h1 h2; subst h1; subst h2
    show bindC kindOf ((p, w) :: P.zip vs) m p = _
    unfold bindC
    rw [bindC_out fun v hv => (List.nodup_cons.mp nd).1 (List.of_mem_zip hv).1, if_neg hk]
    simp
  | p :: P, w :: vs, i + 1, m, nd, h1, h2, hk => by
    show bindC kindOf ((p, w) :: P.zip vs) m x = _
    unfold bindC
    exact bindC_get (i := i) (List.nodup_cons.mp nd).2 (by simpa using h1) (by simpa using h2) hk

/-- the names' values at the entry -/
def start (N : List Str) (vs : List V) : St := vs.map some ++ List.replicate (N.length - vs.length) none

/-- the context of a def's body, at its entry; an exception leaves the frame, then lies as CX says -/
def cxOf (CX : CXT) (P : Program) (w : World) (K : PySem.W.Frag) (mg : Str → Option Value) (base : Heap) (N : List Str) (qual : Str) (scope : Scope) (f : Addr) (cd : Value) (A : Around) (outer : List Env) (s : Shared) (H : Hp) (E : XK) : Cx where
  prog := P
  w := w
  K := K
  mg := mg
  base := base
  A := A.deeper (envOfC qual scope s.heap.objs.size f cd)
  N := N
  s₀ := s
  H₀ := H
  env := envOfC qual scope s.heap.objs.size f cd
  outer := outer
  stack := envOfC qual scope s.heap.objs.size f cd :: outer
  ex := []
  calm := true
  fn := fun _ => true
  pn := []
  xe := fun e s' => wpAny (model P w) (A.deeper (envOfC qual scope s.heap.objs.size f cd)) (leaving (envOfC qual scope s.heap.objs.size f cd) e) (fun _ s'' => CX outer H s E e s'') (fun e' s'' => CX outer H s E e' s'') s'

theorem cell_has {sc : Scope} {n : Nat} {x : Str} (h : sc.names.lookup x = some .cell) : ∃ c, (cellsFrom n sc.names []).lookup x = some c := by
  have q := PySem.W.cellsFrom_some sc.names n [] (.inl h)
  exact Option.isSome_iff_exists.mp q

theorem inv_start {CX : CXT} {P : Program} {w : World} {K : PySem.W.Frag} {mg : Str → Option Value} {base : Heap} {N ps : List Str} {qual : Str} {scope : Scope} {f : Addr} {cd : Value} {A : Around} {outer : List Env} {s s1 : Shared} {H : Hp} {E : XK} {us : List Value} {vs : List V}
    (S : FnScope N ps scope) (hd : A.handled = none) (e0 : Env0 P w K mg base A outer s H) (hl : vs.length = ps.length) (r : Vals vs us)
    (x : InCallC s s.heap.objs.size (bindL (envOfC qual scope s.heap.objs.size f cd).kindOf (ps.zip us) fun _ => none) (cellsFrom (s.heap.objs.size + 1) scope.names []) (bindC (envOfC qual scope s.heap.objs.size f cd).kindOf (ps.zip us) fun _ => none) s1) :
    Inv (cxOf CX P w K mg base N qual scope f cd A outer s H E) [] (start N vs) H s1 := by
  have hpl : ps.length ≤ N.length := by have := congrArg List.length S.pre; rw [List.length_take] at this; omega
  obtain ⟨h1, tk, rfl, hk⟩ := x.done
  have noA : ∀ b : Addr, b ∉ (cxOf CX P w K mg base N qual scope f cd A outer s H E).ex := fun b z => absurd (show b ∈ ([] : List Addr) from z) (by simp)
  refine ⟨⟨e0.mod, S.kind, rfl, rfl, Nat.le_refl _, fun y z c h1 h2 => ?_, fun y hy => ?_, fun y c _ h => ?_, fun _ => hd, Around.frames_deeper e0.frames, .inr ⟨rfl, rfl⟩, fun b z => absurd z (noA b), e0.bs, e0.bsz, fun b _ _ => noA b, fun b z => absurd z (noA b), e0.funs, e0.frf⟩,
    rfl, e0.bare, Un.kept hk, ⟨_, x.toInCall.ns, fun i y v h1 h2 h3 => ?_⟩, fun y c h => ⟨_, x.cell y c h⟩, e0.hok.fresh (Nat.le_refl _), fun y c h => ?_, fun p hp => absurd (show p ∈ ([] : List (Addr × Obj)) from hp) (by simp), e0.hok.kept hk, ?_⟩
  · exact name_of_addr x.apart (PySem.mem_of_lookup h1) (PySem.mem_of_lookup h2)
  · have hy : scope.names.lookup y = some .cell ∨ scope.names.lookup y = some .free := hy
    rcases hy with hy | hy
    · exact cell_has hy
    · exact absurd rfl (S.nofree _ (PySem.mem_of_lookup hy))
  · exact Nat.le_of_lt (x.above y c (PySem.mem_of_lookup h))
  · have hi : i < vs.length := by
      unfold start at h2
      by_cases hi : i < vs.length
      · exact hi
      · rw [List.getElem?_append_right (by simpa using hi)] at h2
        rw [List.getElem?_replicate] at h2
        split at h2 <;> cases h2
    have ha : vs[i]? = some v := by
      unfold start at h2
      rw [List.getElem?_append_left (by simpa using hi), List.getElem?_map] at h2
      cases e : vs[i]? with
      | none => rw [e] at h2; cases h2
      | some a => rw [e] at h2; cases h2; rfl
    obtain ⟨u, hu, rv⟩ := r.get ha
    have hp : ps[i]? = some y := by
      rw [← S.pre, List.getElem?_take_of_lt (by omega)]; exact h1
    have ndP : ps.Nodup := by rw [← S.pre]; exact S.nd.sublist (List.take_sublist _ _)
    refine ⟨u, rv, ?_⟩
    rcases S.par y (List.mem_of_getElem? hp) with k | k
    · exact .inl ⟨k, bindL_get ndP hp hu k⟩
    · obtain ⟨c, e⟩ := cell_has (n := s.heap.objs.size + 1) k
      refine .inr ⟨.inl k, c, e, ?_⟩
      have q := x.cell y c e
      rw [bindC_get ndP hp hu (by show scope.names.lookup y ≠ _; rw [k]; decide)] at q
      exact q
  · exact e0.hok.fresh (Nat.le_of_lt (x.above y c (PySem.mem_of_lookup h)))
  · unfold start
    show _ = N.length
    rw [List.length_append, List.length_map, List.length_replicate]
    omega

/-- THE RULE: a def (or a method) of the text, by its body. The body's reading t is chosen for each entry; it is run at the parameters' values -/
theorem fn_of {CX : CXT} {P : Program} {w : World} {K : PySem.W.Frag} {mg : Str → Option Value} {base : Heap} {k : Nat} {f : Addr} {name qual : Str} {params : Arguments} {body : List Stmt} {scope : Scope} {dV kV doc pm cdv ct oc : Value} {an od : Option Addr}
    {osl : Array (Option Value)} {N ps : List Str} {sp : Sp} (lk : K.lookup f = some ⟨oc, od, .func (PySem.W.fnOf name qual params body scope dV kV doc pm an cdv ct), osl⟩) (hcd : PySem.W.codeIn K cdv qual = true) (S : FnScope N ps scope)
    (len : ∀ vs H Q E, sp vs H Q E → vs.length = ps.length)
    (hbody : ∀ (A : Around) (outer : List Env) (s : Shared) (H : Hp) (vs : List V) (Q : VK) (E : XK), Room k (A.deeper (envOfC qual scope s.heap.objs.size f cdv)) → sp vs H Q E →
      ∃ t, PSs (cxOf CX P w K mg base N qual scope f cdv A outer s H E) body t ∧ t { nx := fun _ H' => Q .non H', rt := Q } (start N vs) H) :
    FnOk P w K mg base CX (k + 1) f (PySem.W.fnOf name qual params body scope dV kV doc pm an cdv ct) ps sp := by
  refine ⟨len, fun A outer s H args us vs Q E hr e0 hb r hsp => ?_⟩
  have hl := len _ _ _ _ hsp
  have KX : K.In s.heap := e0.mod.kin.keeps fun b o e => (e0.bs b o e).1
  have lim : s.heap.NoLimit := e0.mod.nolimit.keeps fun b o e => (e0.bs b o e).1
  have hkind : ∀ y ∈ ps.zip us, scope.names.lookup y.1 = some .local ∨ (scope.names.lookup y.1 = some .cell ∧ ((cellsFrom (s.heap.objs.size + 1) scope.names []).lookup y.1).isSome = true) := fun ⟨n, v⟩ hy => by
    rcases S.par n (List.of_mem_zip hy).1 with q | q
    · exact .inl q
    · exact .inr ⟨q, PySem.W.cellsFrom_some _ _ _ (.inl q)⟩
  refine codeAny_call_function hr.depth (KX _ _ lk) rfl S.co S.gen rfl (PySem.W.codeRec_of KX hcd) (hb _ _ _ _ ?_)
  refine wpAny_newFunctionEnv_cells S.kind hkind fun env he s1 x => ?_
  subst he
  refine ⟨lim.keeps x.toInCall.keep, codeAny_func ?_⟩
  obtain ⟨t, ht, hq⟩ := hbody A outer s H vs Q E (hr.deeper _) hsp
  have I : Inv (cxOf CX P w K mg base N qual scope f cdv A outer s H E) [] (start N vs) H s1 := inv_start S hr.hd e0 hl r x
  refine wpAny_mono (ht [] s1 (start N vs) H _ I hq) (fun fl s' hs => ?_) fun e s' hs => hs
  have fin : ∀ {σ' : St} {H' : Hp} {v : V} {u : Value}, Inv (cxOf CX P w K mg base N qual scope f cdv A outer s H E) [] σ' H' s' → RelV v u → Q v H' → CE outer P w H s Q u s' :=
    fun {σ' H' v u} J rv q => ⟨v, H', J.os, J.bare, J.base, J.hok, rv, q⟩
  cases fl with
  | ret u =>
    obtain ⟨v, σ', H', J, rv, q⟩ := hs
    exact fin J rv q
  | next =>
    obtain ⟨σ', H', J, q⟩ := hs
    exact fin (v := V.non) (u := Value.none) J rfl q
  | brk =>
    obtain ⟨_, _, _, q⟩ := hs
    exact False.elim q
  | cont =>
    obtain ⟨_, _, _, q⟩ := hs
    exact False.elim q
end L2

namespace L2
open PySem PySem.Spec PyProof.Rows
section
variable {X : Cx} {x : Str} {p pos : Pos} {e : Expr} {es : List Expr} {t : TA} {id T : String} {r : List V → Hp → VK → Prop}

def tCB (r : List V → Hp → VK → Prop) (t : TA) : TE := fun σ H Q => t σ H fun vs H1 => r vs H1 Q
/-- f(e, ..), f a built-in function -/
theorem pe_callB (hc : CallR X (.builtin id) r) (hg : Gl X x) (hm : X.mg x = none) (hv : bootBuiltins x = some (.builtin id)) (ha : PA X (e :: es) t) (hn : x ≠ "__name__" := by decide) (hdb : (x == ("__debug__" : Str)) = false := by decide)
    (he : starEach (e :: es) X.env = (false, eval e X.env) :: starEach es X.env := by rfl) (hpl : (backTo pos (starEach es X.env)).any (·.1) = false := by rfl) : PE X (.Call (.Name x p) (e :: es) [] pos) (tCB r t) := by
  intro pins s σ H Q I h
  refine wpAny_Call_Name_kw (ld_blt I hg hm hv ?_ hn hdb)
  exact PyProof.Rows.callWith_builtin1 (thn (ha pos pins s σ H _ I h) fun us s1 ⟨vs, H1, I1, r1, q1⟩ => hc pins s1 σ H1 vs us Q I1 r1 q1) he hpl
/-- T(e, ..), T a built-in type -/
theorem pe_callTy (hc : CallR X (.type T) r) (hg : Gl X x) (hm : X.mg x = none) (hv : bootBuiltins x = some (.type T)) (ha : PA X (e :: es) t) (hn : x ≠ "__name__" := by decide) (hdb : (x == ("__debug__" : Str)) = false := by decide)
    (he : starEach (e :: es) X.env = (false, eval e X.env) :: starEach es X.env := by rfl) (hpl : (backTo pos (starEach es X.env)).any (·.1) = false := by rfl) : PE X (.Call (.Name x p) (e :: es) [] pos) (tCB r t) := by
  intro pins s σ H Q I h
  refine wpAny_Call_Name_kw (ld_blt I hg hm hv ?_ hn hdb)
  exact PyProof.Rows.callWith_type1 (thn (ha pos pins s σ H _ I h) fun us s1 ⟨vs, H1, I1, r1, q1⟩ => hc pins s1 σ H1 vs us Q I1 r1 q1) he hpl
/-- T() -/
theorem pe_callTy0 (hc : CallR X (.type T) r) (hg : Gl X x) (hm : X.mg x = none) (hv : bootBuiltins x = some (.type T)) (hn : x ≠ "__name__" := by decide) (hdb : (x == ("__debug__" : Str)) = false := by decide) :
    PE X (.Call (.Name x p) [] [] pos) (tCB r tNil) := by
  intro pins s σ H Q I h
  refine wpAny_Call_Name_kw (ld_blt I hg hm hv ?_ hn hdb)
  exact PyProof.Rows.callWith_type0 (hc pins s σ H [] [] Q I .nil h)
end
end L2

namespace HT
open PySem PyProof.Rows

/-- t < u of tuples of ints -/
def lexLt : List Int → List Int → Bool
  | [], [] => false
  | [], _ :: _ => true
  | _ :: _, [] => false
  | x :: xs, y :: ys => if x = y then lexLt xs ys else decide (x < y)
theorem lexLt_cons (x y : Int) (xs ys : List Int) : lexLt (x :: xs) (y :: ys) = if x = y then lexLt xs ys else decide (x < y) := rfl
theorem lexLt_nil_nil : lexLt [] [] = false := rfl
theorem lexLt_nil_cons (y : Int) (ys : List Int) : lexLt [] (y :: ys) = true := rfl
theorem lexLt_cons_nil (x : Int) (xs : List Int) : lexLt (x :: xs) [] = false := rfl

theorem eqAt_int (A : Around) (s : Shared) (a : Int) (t : Tok) (c : Int) (u : Tok) : ∃ e, SeqAt.EqAt A s (.int a t) (.int c u) e ∧ (e = true ↔ a = c) :=
  ⟨(a == c), SeqAt.EqAt.int_int a t c u, by simp⟩
theorem rcLt_int (A : Around) (s : Shared) (a : Int) (t : Tok) (c : Int) (u : Tok) (prog : Program) (w : World) (E : Value → Shared → Prop) (Q : Value → Shared → Prop) (h : Q (.bool (decide (a < c))) s) :
    wpAny (model prog w) A (richCompare .Lt (.int a t) (.int c u)) Q E s :=
  (PyProof.Rows.lt_int h : wpAny (model prog w) A (compareOp .Lt (.int a t) (.int c u)) Q E s)

section
open PySem.SeqAt
open PySem.AutoSeq1 (wpAny_loadPart')
open PySem.MeetsSeq PySem.MeetsSeq2 PySem.MeetsSeq3

theorem tuple_lt_ints (l b : Addr) (items items2 : Array Value) (n n2 : Nat) (dd dd2 : Option Addr) (sl sl2 : Array (Option Value)) (ns ms : List Int) (hi : IntsAre items.toList ns) (hj : IntsAre items2.toList ms) :
    Meets (Builtin.«tuple.__lt__» ⟨[.ref l, .ref b], []⟩)
      (fun _ R s => s.heap.get? l = some { cls := .type "tuple", dict := dd, data := .seq items n, slots := sl } ∧ s.heap.get? b = some { cls := .type "tuple", dict := dd2, data := .seq items2 n2, slots := sl2 } ∧
        R (.ok (.ret (.bool (lexLt ns ms)))) s) :=
  .of_wp fun prog w A R s h => by
    obtain ⟨hp, g, d, tk, os⟩ := s; obtain ⟨hl, hb, h⟩ := h
    have f2 := AutoSeq1.sub_tuple_tuple
    have z1 : items.size = ns.length := by rw [← hi.length]; simp
    have z2 : items2.size = ms.length := by rw [← hj.length]; simp
    wp_walk using wpAny_loadPart' hl, wpAny_loadPart' hb, wpAny_forIn_list _ (fun rest b s' => b.1 = none ∧ s' = ⟨hp, g, d, tk, os⟩ ∧ ∃ (vs ws : List Value) (ns' ms' : List Int), rest = vs.zip ws ∧
      IntsAre vs ns' ∧ IntsAre ws ms' ∧ ns'.length + items2.size = ms'.length + items.size ∧ R (.ok (.ret (.bool (lexLt ns' ms')))) ⟨hp, g, d, tk, os⟩) _
    case turn =>
      rintro ⟨y, x⟩ rest b s' ⟨hb', rfl, vs, ws, ns', ms', hz, hvi, hwi, hlen, hR⟩
      cases hvi with
      | nil => rw [List.zip_nil_left] at hz; cases hz
      | cons a t hvi' =>
        cases hwi with
        | nil => rw [List.zip_nil_right] at hz; cases hz
        | cons c u hwi' =>
          rw [List.zip_cons_cons] at hz
          injection hz with hyx hrest
          injection hyx with hy hx
          subst hy hx
          rw [lexLt_cons] at hR
          simp only [List.length_cons] at hlen
          obtain ⟨e, he, hiff⟩ := eqAt_int A.in1 ⟨hp, g, d, tk, os⟩ a t c u
          refine wpAny_bind (he prog w _ _ ?_)
          cases e with
          | true =>
            rw [if_pos (hiff.mp rfl)] at hR
            wp_walk
            exact ⟨rfl, rfl, _, _, _, _, hrest, hvi', hwi', by omega, hR⟩
          | false =>
            rw [if_neg (fun q => absurd (hiff.mpr q) Bool.false_ne_true)] at hR
            have hri := rcLt_int A.in1 ⟨hp, g, d, tk, os⟩ a t c u prog w
            wp_walk using hri
            exact ⟨_, rfl, by simpa using hR⟩
    case fin =>
      rintro ⟨b1, b2⟩ s' ⟨hb', rfl, vs, ws, ns', ms', hz, hvi, hwi, hlen, hR⟩
      simp only at hb'
      subst hb'
      have hv : lexLt ns' ms' = decide (items.size < items2.size) := by
        cases hvi with
        | nil =>
          cases hwi with
          | nil =>
            simp only [List.length_nil] at hlen
            rw [lexLt_nil_nil]
            exact (decide_eq_false (by omega)).symm
          | cons c u hw =>
            simp only [List.length_nil, List.length_cons] at hlen
            rw [lexLt_nil_cons]
            exact (decide_eq_true (by omega)).symm
        | cons a t hv =>
          cases hwi with
          | nil =>
            simp only [List.length_nil, List.length_cons] at hlen
            rw [lexLt_cons_nil]
            exact (decide_eq_false (by omega)).symm
          | cons c u hw =>
            rw [List.zip_cons_cons] at hz
            cases hz
      rw [hv] at hR
      wp_walk
      exact ⟨_, rfl, by simpa [Builtin.Tuple.tupleCompareSizes] using hR⟩
    case h =>
      exact ⟨rfl, rfl, items.toList, items2.toList, ns, ms, rfl, hi, hj, by omega, h⟩
end

section
variable {prog : Program} {w : World} {A : Around} {E : Value → Shared → Prop} {s : Shared}

theorem lt_tupInts {l b : Addr} {items items2 : Array Value} {ns ms : List Int} {Q : Value → Shared → Prop} (hl : IsTup s.heap l items) (hb : IsTup s.heap b items2) (hi : IntsAre items.toList ns) (hj : IntsAre items2.toList ms)
    (hu : A.units < cLine) (h : Q (.bool (lexLt ns ms)) s) : wpAny (model prog w) A (compareOp .Lt (.ref l) (.ref b)) Q E s := by
  obtain ⟨⟨cls, dd, data, sl⟩, ho, hc, n, hd⟩ := id hl
  obtain ⟨⟨cls2, dd2, data2, sl2⟩, ho2, hc2, n2, hd2⟩ := id hb
  simp only at hc hd hc2 hd2
  subst hc hd hc2 hd2
  exact richCompare_meets_room (op := .Lt) ⟨_, ho, rfl⟩ ⟨_, ho2, rfl⟩ PySem.F.slot_tuple_lt PySem.F.entry_tuple_lt (PySem.F.args_tuple_lt_2 _ _) (tuple_lt_ints l b items items2 n n2 dd dd2 sl sl2 ns ms hi hj)
    ⟨ho, ho2, show Value.bool (lexLt ns ms) ≠ Value.notImplemented ∧ Q (.bool (lexLt ns ms)) s from ⟨(fun x => nomatch x), h⟩⟩ hu

/-- t + u, t not empty -/
theorem cat_tup {t b : Addr} {vs ws : List Value} {Q : Value → Shared → Prop} (ht : IsTup s.heap t vs.toArray) (hb : IsTup s.heap b ws.toArray) (hv : vs ≠ [])
    (h1 : ws = [] → Q (.ref t) s) (h2 : ws ≠ [] → Q (.ref s.heap.objs.size) { s with heap := s.heap.push { cls := .type "tuple", data := .seq (vs ++ ws).toArray } })
    (hsz : vs.length + ws.length ≤ sizeLine) : wpAny (model prog w) A (binaryOp .Add (.ref t) (.ref b)) Q E s := by
  obtain ⟨⟨cls, dd, data, sl⟩, ho, hc, n, hd⟩ := id ht
  obtain ⟨⟨cls2, dd2, data2, sl2⟩, ho2, hc2, n2, hd2⟩ := id hb
  simp only at hc hd hc2 hd2
  subst hc hd hc2 hd2
  have e : vs.toArray ++ ws.toArray = (vs ++ ws).toArray := by simp
  by_cases hw : ws = []
  · exact concat_meets ⟨_, ho, rfl⟩ ⟨_, ho2, rfl⟩ noFill_tuple_add seq_tuple_add PySem.F.slot_tuple_add PySem.F.entry_tuple_add (PySem.F.args_tuple_add_2 _ _)
      (tuple_addW1 t b vs.toArray ws.toArray n n2 dd dd2 sl sl2 (by simpa using hv) (by simp [hw])) ⟨ho, ho2, h1 hw⟩
  · refine concat_meets ⟨_, ho, rfl⟩ ⟨_, ho2, rfl⟩ noFill_tuple_add seq_tuple_add PySem.F.slot_tuple_add PySem.F.entry_tuple_add (PySem.F.args_tuple_add_2 _ _)
      (tuple_addW2 t b vs.toArray ws.toArray n n2 dd dd2 sl sl2 (by simpa using hv) (by simpa using hw) (by rw [List.size_toArray, List.size_toArray]; exact hsz)) ⟨ho, ho2, ?_⟩
    rw [e]
    exact h2 hw

/-! ### t[a:b], not the whole -/
/-- a slice's bound as a place among n (d where it is left out) -/
def sIx (n d : Nat) : Option Int → Nat
  | none => d
  | some v => if v < 0 then (v + (n : Int)).toNat else min v.toNat n
theorem sIx_none (n d : Nat) : sIx n d none = d := rfl
theorem sIx_nat (n d k : Nat) : sIx n d (some (k : Int)) = min k n := by
  show (if (k : Int) < 0 then ((k : Int) + (n : Int)).toNat else min (k : Int).toNat n) = min k n
  rw [if_neg (by omega), Int.toNat_natCast]
theorem sIx_le (n d : Nat) (hd : d ≤ n) (o : Option Int) : sIx n d o ≤ n := by
  cases o with
  | none => exact hd
  | some v =>
    show (if v < 0 then (v + (n : Int)).toNat else min v.toNat n) ≤ n
    by_cases hv : v < 0
    · rw [if_pos hv]; omega
    · rw [if_neg hv]; exact Nat.min_le_right _ _
theorem clip_eq (v : Int) (n d : Nat) : (if v < 0 then max (v + (n : Int)) 0 else min v (n : Int)) = ((sIx n d (some v) : Nat) : Int) := by
  show (if v < 0 then max (v + (n : Int)) 0 else min v (n : Int)) = (((if v < 0 then (v + (n : Int)).toNat else min v.toNat n) : Nat) : Int)
  by_cases hv : v < 0
  · simp only [if_pos hv]; omega
  · simp only [if_neg hv]; omega
theorem adjust_gen (lo hi : Option Int) (n : Nat) : Builtin.Slice.sliceAdjust lo hi 1 (n : Int) = (((sIx n 0 lo : Nat) : Int), ((sIx n n hi : Nat) : Int)) := by
  have h1 : ¬ ((1 : Int) < 0) := by omega
  unfold Builtin.Slice.sliceAdjust
  simp only [h1, if_false]
  refine Prod.ext ?_ ?_
  · cases lo with
    | none => rfl
    | some v => exact clip_eq v n 0
  · cases hi with
    | none => rfl
    | some v => exact clip_eq v n n
theorem places_gen (i j : Nat) : Builtin.Slice.slicePlaces (i : Int) (j : Int) 1 = j - i := by
  unfold Builtin.Slice.slicePlaces
  have h1 : (1 : Int) > 0 := by omega
  simp only [h1, if_true, Int.ediv_one]
  split <;> omega
theorem slicePart_ {v : Value} {o : Option Int} {Q : Option Int → Shared → Prop} (p : IsPart v o) (h : Q o s) : wpAny (model prog w) A (Builtin.Slice.slicePartIndex v) Q E s := by
  cases p with
  | none => exact slicePart_none h
  | int i t => exact slicePart_int h
theorem sliceApplied_gen {sl : Addr} {vl vu : Value} {lo hi : Option Int} {n : Nat} {Q : Int × Int × Nat → Shared → Prop} (hs : s.heap.IsSliceOf sl vl vu .none) (pl : IsPart vl lo) (pu : IsPart vu hi)
    (h : Q (((sIx n 0 lo : Nat) : Int), 1, sIx n n hi - sIx n 0 lo) s) : wpAny (model prog w) A (Builtin.Slice.sliceApplied (.ref sl) (pure (n : Int))) Q E s := by
  obtain ⟨os, hos, hcs, hds⟩ := id hs
  unfold Builtin.Slice.sliceApplied Builtin.Slice.sliceFields
  refine wpAny_bind (wpAny_bind (wpAny_field hos hds (x := vl) rfl (wpAny_bind (wpAny_field hos hds (x := vu) rfl (wpAny_bind (wpAny_field hos hds (x := .none) rfl (wpAny_pure ?_)))))))
  refine wpAny_bind (slicePart_none ?_)
  show wpAny _ _ (if ((1 : Int) == 0) = true then _ else _) _ _ s
  rw [if_neg (by decide)]
  refine wpAny_bind (slicePart_ pl (wpAny_bind (slicePart_ pu (wpAny_bind (wpAny_pure ?_)))))
  show wpAny _ _ (match Builtin.Slice.sliceAdjust lo hi 1 (n : Int) with | (lo, hi) => pure (lo, (1 : Int), Builtin.Slice.slicePlaces lo hi 1)) _ _ s
  rw [adjust_gen lo hi n]
  show wpAny _ _ (pure (((sIx n 0 lo : Nat) : Int), (1 : Int), Builtin.Slice.slicePlaces ((sIx n 0 lo : Nat) : Int) ((sIx n n hi : Nat) : Int) 1)) _ _ s
  rw [places_gen]
  exact wpAny_pure h
theorem pick_gen (xs : Array Value) (i k : Nat) : ((List.range k).filterMap fun (m : Nat) => xs[((i : Int) + (m : Int) * 1).toNat]?).toArray = ((xs.toList.drop i).take k).toArray := by
  have e : (fun (m : Nat) => xs[((i : Int) + (m : Int) * 1).toNat]?) = fun m => xs[i + m]? := by
    funext m
    have : ((i : Int) + (m : Int) * 1).toNat = i + m := by omega
    rw [this]
  rw [e]
  have := pick_run xs i k
  rw [List.filterMap_map] at this
  have e2 : ((fun x => xs[x]?) ∘ fun x => i + x) = fun m => xs[i + m]? := rfl
  rw [e2] at this
  rw [this]

theorem getItem_tuple_cut {t sl : Addr} {items : Array Value} {vl vu : Value} {lo hi : Option Int} {Q : Value → Shared → Prop} (ht : IsTup s.heap t items) (hs : s.heap.IsSliceOf sl vl vu .none) (pl : IsPart vl lo) (pu : IsPart vu hi)
    (hw : ¬ (sIx items.size 0 lo = 0 ∧ sIx items.size items.size hi = items.size))
    (h : Q (.ref s.heap.objs.size) { s with heap := s.heap.push { cls := .type "tuple", data := .seq ((items.toList.drop (sIx items.size 0 lo)).take (sIx items.size items.size hi - sIx items.size 0 lo)).toArray } })
    (hsz : items.size ≤ sizeLine) : wpAny (model prog w) A (getItem (.ref t) (.ref sl)) Q E s := by
  have htake : sizeOk (.seq ((items.toList.drop (sIx items.size 0 lo)).take (sIx items.size items.size hi - sIx items.size 0 lo)).toArray) := by
    show ((items.toList.drop (sIx items.size 0 lo)).take (sIx items.size items.size hi - sIx items.size 0 lo)).toArray.size ≤ sizeLine
    rw [List.size_toArray, List.length_take, List.length_drop, Array.length_toList]
    omega
  have hj : sIx items.size items.size hi ≤ items.size := sIx_le _ _ (Nat.le_refl _) hi
  obtain ⟨os, hos, hcs, hds⟩ := id hs
  have hTs : s.TypeIs (.ref sl) "slice" := ⟨os, hos, hcs⟩
  unfold getItem
  try with_reducible refine wpAny_holding ?_
  first | refine wpAny_bind (wpAny_pure ?_) | skip
  refine wpAny_bind (wpAny_sequenceKey ht.typeIs (by decide) ?_)
  refine wpAny_bind (wpAny_callSpecial?_slot (name := Str.ofString "__getitem__") ht.typeIs PyProof.Rows.slot_tuple_getitem
    (wpAny_call_entry PyProof.Rows.slot_tuple_getitem ht.typeIs entry_tuple_getitem ?_ (args_tuple_getitem _ _)))
  show wpAny _ _ (Builtin.Tuple.tupleItemsOf (.ref t) >>= _) _ _ s
  refine wpAny_bind (tupleItemsOf_ ht ?_)
  refine wpAny_bind (wpAny_typeOf hTs ?_)
  rw [if_pos (by decide)]
  refine wpAny_bind (sliceApplied_gen hs pl pu ?_)
  have hno : ¬ ((((sIx items.size 0 lo : Nat) : Int) == 0 && (1 : Int) == 1 && (sIx items.size items.size hi - sIx items.size 0 lo) == items.size) = true) := by
    intro q
    rw [Bool.and_eq_true, Bool.and_eq_true] at q
    have q1 : ((sIx items.size 0 lo : Nat) : Int) = 0 := eq_of_beq q.1.1
    have q2 : sIx items.size items.size hi - sIx items.size 0 lo = items.size := eq_of_beq q.2
    exact hw ⟨by omega, by omega⟩
  show wpAny _ _ (if (((sIx items.size 0 lo : Nat) : Int) == 0 && (1 : Int) == 1 && (sIx items.size items.size hi - sIx items.size 0 lo) == items.size) = true then _ else _) _ _ s
  rw [if_neg hno, pick_gen]
  first
    | exact wpAny_bind (m := Builtin.Tuple.tupleExact _) (wpAny_newObj_type (wpAny_pure ⟨_, rfl, wpAny_pure h⟩) htake)
    | exact wpAny_bind (m := Builtin.Tuple.tupleExact _) (wpAny_newObj_type (wpAny_bind (wpAny_pure (wpAny_pure ⟨_, rfl, wpAny_pure h⟩))) htake)
    | exact wpAny_bind (wpAny_bind (m := Builtin.Tuple.tupleExact _) (wpAny_newObj_type (wpAny_pure (wpAny_pure ⟨_, rfl, wpAny_pure h⟩)) htake))
    | exact wpAny_bind (wpAny_bind (m := Builtin.Tuple.tupleExact _) (wpAny_newObj_type (wpAny_pure ⟨_, rfl, wpAny_pure h⟩) htake))
end
end HT

namespace L2
open PySem PySem.Spec PyProof.Rows

/-! ### the parts of a slice -/
abbrev TO := St → Hp → (Option Int → Hp → Prop) → Prop
/-- a slice's part (left out, or an int) -/
def PO (X : Cx) (e : Option Expr) (t : TO) : Prop :=
  ∀ (pins : List (Addr × Obj)) (s : Shared) (σ : St) (H : Hp) (Q : Option Int → Hp → Prop), Inv X pins σ H s → t σ H Q →
    wpAny (model X.prog X.w) X.A (evalPart e X.env) (fun u s' => ∃ o H', Inv X pins σ H' s' ∧ IsPart u o ∧ Q o H') X.xe s
def tNoPart : TO := fun _ H Q => Q none H
def tPart (t : TE) : TO := fun σ H Q => t σ H fun x H1 => ∃ i, x = .int i ∧ Q (some i) H1

theorem intsAre_of {ns : List Int} : ∀ {us : List Value}, Vals (ns.map V.int) us → IntsAre us ns := by
  induction ns with
  | nil => intro us r; rw [List.map_nil] at r; cases r; exact .nil
  | cons n ns ih =>
    intro us r
    rw [List.map_cons] at r
    cases r with
    | cons r1 r2 =>
      obtain ⟨t, e⟩ := r1
      subst e
      exact .cons n t (ih r2)

section
variable {X : Cx} {e : Expr} {te : TE} {lo hi : Option Expr} {tl th : TO} {pos p2 : Pos}

theorem po_none : PO X none tNoPart := by
  intro pins s σ H Q I h
  rw [evalPart_none]
  exact wpAny_pure ⟨none, H, I, .none, h⟩
theorem po_some (h : PE X e te) : PO X (some e) (tPart te) := by
  intro pins s σ H Q I hw
  rw [evalPart_some]
  refine thn (h pins s σ H _ I hw) fun u s1 ⟨x, H1, I1, r1, q1⟩ => ?_
  obtain ⟨i, rfl, q⟩ := q1
  obtain ⟨t, rfl⟩ := r1
  exact ⟨some i, H1, I1, .int i t, q⟩

/-- what a slice of a value is, by values: the slice object stands at sl -/
def SlR (X : Cx) (r : V → Option Int → Option Int → Hp → VK → Prop) : Prop :=
  ∀ (pins : List (Addr × Obj)) (s : Shared) (σ : St) (H : Hp) (x : V) (v vl vu : Value) (lo hi : Option Int) (sl : Addr) (Q : VK), Inv X pins σ H s → RelV x v → s.heap.IsSliceOf sl vl vu .none → IsPart vl lo → IsPart vu hi → r x lo hi H Q →
    ∃ T id, typeLookup (.type T) "__getitem__" = pure (some (.builtin id)) ∧ s.TypeIs v T ∧ wpAny (model X.prog X.w) X.A (getItem v (.ref sl)) (EP X pins σ Q) X.xe s
theorem SlR.or {r r' : V → Option Int → Option Int → Hp → VK → Prop} (h : SlR X r) (h' : SlR X r') : SlR X (fun x lo hi H Q => r x lo hi H Q ∨ r' x lo hi H Q) := by
  intro pins s σ H x v vl vu lo hi sl Q I rx hs pl pu q
  rcases q with q | q
  · exact h pins s σ H x v vl vu lo hi sl Q I rx hs pl pu q
  · exact h' pins s σ H x v vl vu lo hi sl Q I rx hs pl pu q
def tSl (r : V → Option Int → Option Int → Hp → VK → Prop) (te : TE) (tl th : TO) : TE := fun σ H Q => te σ H fun x H1 => tl σ H1 fun l H2 => th σ H2 fun u H3 => r x l u H3 Q
/-- a[lo:hi], any a -/
theorem pe_slice {r : V → Option Int → Option Int → Hp → VK → Prop} (hr : SlR X r) (he : PE X e te) (hl : PO X lo tl) (hu : PO X hi th) : PE X (.Subscript e (.Slice lo hi none p2) pos) (tSl r te tl th) := by
  intro pins s σ H Q I h
  refine Subscript_ (thn (he pins s σ H _ I h) fun v s1 ⟨x, H1, I1, r1, q1⟩ => ?_)
  refine wpAny_Slice (thn (hl pins s1 σ H1 _ I1 q1) fun vl s2 ⟨l, H2, I2, pl, q2⟩ => thn (hu pins s2 σ H2 _ I2 q2) fun vu s3 ⟨u, H3, I3, pu, q3⟩ => ?_)
  rw [evalPart_none]
  refine wpAny_pure ?_
  have I4 : Inv X pins σ H3 { s3 with heap := s3.heap.push { cls := .type "slice", data := .fields #[vl, vu, .none] } } := I3.kept (t' := s3.toks) fun b ob q => Heap.get?_push_of_some _ q
  obtain ⟨T, id, hT, ht, hg⟩ := hr pins { s3 with heap := s3.heap.push { cls := .type "slice", data := .fields #[vl, vu, .none] } } σ H3 x v vl vu l u s3.heap.objs.size Q I4 r1 (Heap.IsSliceOf.new ..) pl pu q3
  show wpAny (model X.prog X.w) X.A (subscriptTail e (.Slice lo hi none p2) v (.ref s3.heap.objs.size)) (EP X pins σ Q) X.xe { s3 with heap := s3.heap.push { cls := .type "slice", data := .fields #[vl, vu, .none] } }
  exact tail_any (ops := [.ref s3.heap.objs.size, v]) ht hT hg (by with_unfolding_all rfl)

/-- the items of xs[lo:hi] -/
def cutV (xs : List V) (lo hi : Option Int) : List V := (xs.drop (HT.sIx xs.length 0 lo)).take (HT.sIx xs.length xs.length hi - HT.sIx xs.length 0 lo)
theorem cutV_length (xs : List V) (lo hi : Option Int) : (cutV xs lo hi).length ≤ xs.length := by
  unfold cutV
  rw [List.length_take, List.length_drop]
  omega
/-- t[lo:hi], not the whole of it (the whole would be t itself) -/
def rSlT (K : PySem.W.Frag) : V → Option Int → Option Int → Hp → VK → Prop := fun x lo hi H Q => ∃ a xs, x = .ref a ∧ SqT K H a xs ∧
  ¬ (HT.sIx xs.length 0 lo = 0 ∧ HT.sIx xs.length xs.length hi = xs.length) ∧ ∀ p, H p = none → Q (.ref p) (upd H p (.tup (cutV xs lo hi)))
theorem sl_tup : SlR X (rSlT X.K) := by
  intro pins s σ H x v vl vu lo hi sl Q I rx hs pl pu h
  obtain ⟨a, xs, rfl, hx, hw, q⟩ := h
  cases rx
  obtain ⟨its, r, ht, hz⟩ := I.tuple hx
  have hlen : its.toArray.size = xs.length := by rw [List.size_toArray]; exact r.length.symm
  refine ⟨"tuple", _, PyProof.Rows.slot_tuple_getitem.lookup, ht.typeIs, ?_⟩
  refine HT.getItem_tuple_cut ht hs pl pu (by rw [hlen]; exact hw) ?_ (by rw [hlen]; exact hz)
  rw [hlen]
  refine ⟨.ref s.heap.objs.size, _, I.laid (t' := s.toks) (o := .tup (cutV xs lo hi)) (fun b ob q => Heap.get?_push_of_some _ q) (Nat.le_refl _) ?_, rfl, q _ (I.hok.fresh (Nat.le_refl _))⟩
  exact ⟨Nat.le_trans (cutV_length xs lo hi) hz, _, (r.drop (HT.sIx xs.length 0 lo)).take (HT.sIx xs.length xs.length hi - HT.sIx xs.length 0 lo), IsTup.new _ _⟩

/-! ### t < u, t + u -/
def rLtT (K : PySem.W.Frag) : R2 := fun x y H Q => ∃ a b ns ms, x = .ref a ∧ y = .ref b ∧ SqT K H a (ns.map V.int) ∧ SqT K H b (ms.map V.int) ∧ Q (.bl (HT.lexLt ns ms)) H
theorem op_ltT (hu : X.A.units < cLine) : OpR X (compareOp .Lt) (rLtT X.K) := by
  intro pins s σ H x y v u Q I rx ry h
  obtain ⟨a, b, ns, ms, rfl, rfl, ha, hb, q⟩ := h
  cases rx
  cases ry
  obtain ⟨its, r1, p1, _⟩ := I.tuple ha
  obtain ⟨its2, r2, p2, _⟩ := I.tuple hb
  have i1 : IntsAre its.toArray.toList ns := intsAre_of r1
  have i2 : IntsAre its2.toArray.toList ms := intsAre_of r2
  exact HT.lt_tupInts p1 p2 i1 i2 hu ⟨.bl (HT.lexLt ns ms), H, I, rfl, q⟩
/-- t + u, t not empty: u empty gives t itself -/
def rCatT (K : PySem.W.Frag) : R2 := fun x y H Q => ∃ a b xs ys, x = .ref a ∧ y = .ref b ∧ SqT K H a xs ∧ SqT K H b ys ∧ xs ≠ [] ∧ xs.length + ys.length ≤ sizeLine ∧
  (ys = [] → Q (.ref a) H) ∧ (ys ≠ [] → ∀ p, H p = none → Q (.ref p) (upd H p (.tup (xs ++ ys))))
theorem Vals.nil_iff {xs : List V} {us : List Value} (r : Vals xs us) : us = [] ↔ xs = [] := by
  cases r with
  | nil => simp
  | cons _ _ => simp
theorem op_catT : OpR X (binaryOp .Add) (rCatT X.K) := by
  intro pins s σ H x y v u Q I rx ry h
  obtain ⟨a, b, xs, ys, rfl, rfl, ha, hb, hx, hz, q1, q2⟩ := h
  cases rx
  cases ry
  obtain ⟨its, r1, p1, _⟩ := I.tuple ha
  obtain ⟨its2, r2, p2, _⟩ := I.tuple hb
  refine HT.cat_tup p1 p2 (fun z => hx (r1.nil_iff.mp z)) (fun z => ⟨.ref a, H, I, rfl, q1 (r2.nil_iff.mp z)⟩) (fun z => ?_) (by rw [← r1.length, ← r2.length]; exact hz)
  refine ⟨.ref s.heap.objs.size, _, I.laid (t' := s.toks) (o := .tup (xs ++ ys)) (fun b ob q => Heap.get?_push_of_some _ q) (Nat.le_refl _) ?_, rfl, q2 (fun w => z (r2.nil_iff.mpr w)) _ (I.hok.fresh (Nat.le_refl _))⟩
  exact ⟨by rw [List.length_append]; exact hz, _, r1.append r2, IsTup.new _ _⟩
/-- tuple(t) -/
theorem call_tupleT : CallR X (.type "tuple") (fun xs H Q => ∃ a ys, xs = [.ref a] ∧ SqT X.K H a ys ∧ Q (.ref a) H) := by
  intro pins s σ H xs us Q I r h
  obtain ⟨a, ys, rfl, ha, q⟩ := h
  obtain ⟨u, rfl, ru⟩ := vals1 r
  cases ru
  obtain ⟨its, _, p1, _⟩ := I.tuple ha
  exact call_tuple_same (items := its.toArray) p1 ⟨.ref a, H, I, rfl, q⟩
end
end L2

namespace L2
open PySem PySem.Spec PyProof.Rows

/-! ### places -/
/-- the place that an index of any sign means -/
def ixN (n : Nat) (i : Int) : Option Nat := if 0 ≤ i then (if i < n then some i.toNat else none) else if -(n : Int) ≤ i then some (i + n).toNat else none
def atI {α : Type} (xs : List α) (i : Int) : Option α := (ixN xs.length i).bind fun j => xs[j]?
theorem ixN_seq {n : Nat} {i : Int} {j : Nat} (h : ixN n i = some j) : seqIndex? i n = some j ∧ j < n ∧ -(n : Int) ≤ i ∧ i < n := by
  unfold ixN at h
  by_cases h0 : 0 ≤ i
  · rw [if_pos h0] at h
    by_cases h1 : i < n
    · rw [if_pos h1] at h
      have e : i.toNat = j := Option.some.inj h
      exact ⟨by rw [seqIndex_of h0 h1, e], by omega, by omega, h1⟩
    · rw [if_neg h1] at h; cases h
  · rw [if_neg h0] at h
    by_cases h1 : -(n : Int) ≤ i
    · rw [if_pos h1] at h
      have e : (i + n).toNat = j := Option.some.inj h
      exact ⟨by rw [seqIndex_neg (by omega) h1, e], by omega, h1, by omega⟩
    · rw [if_neg h1] at h; cases h
theorem atI_get {α : Type} {xs : List α} {i : Int} {v : α} (h : atI xs i = some v) : ∃ j, seqIndex? i xs.length = some j ∧ xs[j]? = some v ∧ j < xs.length ∧ -(xs.length : Int) ≤ i ∧ i < xs.length := by
  unfold atI at h
  cases e : ixN xs.length i with
  | none => rw [e] at h; cases h
  | some j =>
    rw [e] at h
    obtain ⟨h1, h2, h3, h4⟩ := ixN_seq e
    exact ⟨j, h1, h, h2, h3, h4⟩
theorem atI_nat {α : Type} {xs : List α} {j : Nat} {v : α} (h : xs[j]? = some v) : atI xs (j : Int) = some v := by
  have hj : j < xs.length := (List.getElem?_eq_some_iff.mp h).1
  have e : ixN xs.length (j : Int) = some j := by
    unfold ixN
    rw [if_pos (by omega), if_pos (by omega)]; simp
  unfold atI; rw [e]; exact h
theorem atI_last {α : Type} (xs : List α) (v : α) : atI (xs ++ [v]) (-1) = some v := by
  have hl : (xs ++ [v]).length = xs.length + 1 := by simp
  have e : ixN (xs ++ [v]).length (-1) = some xs.length := by
    unfold ixN
    rw [hl, if_neg (by decide), if_pos (by omega)]
    congr 1
    omega
  unfold atI
  rw [e]
  show (xs ++ [v])[xs.length]? = some v
  simp

/-! ### what may be subscripted -/
/-- what stands as an index of a plain subscript -/
def PlainIx (b : Expr) : Prop := ∀ o i, subscripted b false o i = operate [o, i] (getItem o i)
/-- a subscript by values -/
def IxR (X : Cx) (r : R2) : Prop :=
  ∀ (value slice : Expr) (pins : List (Addr × Obj)) (s : Shared) (σ : St) (H : Hp) (x y : V) (v u : Value) (Q : VK), Inv X pins σ H s → RelV x v → RelV y u → r x y H Q →
    subscripted slice false v u = operate [v, u] (getItem v u) → wpAny (model X.prog X.w) X.A (subscriptTail value slice v u) (EP X pins σ Q) X.xe s
/-- a call of a builtin's method by values: the receiver, the arguments -/
def MtR (X : Cx) (id : String) (r : V → List V → Hp → VK → Prop) : Prop :=
  ∀ (pins : List (Addr × Obj)) (s : Shared) (σ : St) (H : Hp) (x : V) (xs : List V) (v : Value) (us : List Value) (Q : VK), Inv X pins σ H s → RelV x v → Vals xs us → r x xs H Q →
    wpAny (model X.prog X.w) X.A (call (.builtin id) (v :: us)) (EP X pins σ Q) X.xe s
section
variable {X : Cx} {a b : Expr} {ta tb : TE} {pos : Pos}
theorem IxR.or {r r' : R2} (h : IxR X r) (h' : IxR X r') : IxR X (fun x y H Q => r x y H Q ∨ r' x y H Q) := by
  intro value slice pins s σ H x y v u Q I rx ry q hs
  rcases q with q | q
  · exact h value slice pins s σ H x y v u Q I rx ry q hs
  · exact h' value slice pins s σ H x y v u Q I rx ry q hs
theorem MtR.or {id : String} {r r' : V → List V → Hp → VK → Prop} (h : MtR X id r) (h' : MtR X id r') : MtR X id (fun x xs H Q => r x xs H Q ∨ r' x xs H Q) := by
  intro pins s σ H x xs v us Q I rx rs q
  rcases q with q | q
  · exact h pins s σ H x xs v us Q I rx rs q
  · exact h' pins s σ H x xs v us Q I rx rs q
/-- a[b] -/
theorem pe_ix {r : R2} (hr : IxR X r) (ha : PE X a ta) (hb : PE X b tb) (hs : PlainIx b) : PE X (.Subscript a b pos) (tOp r ta tb) := by
  intro pins s σ H Q I h
  exact Subscript_ (binT ha hb I h fun v u s2 x y H2 I2 rx ry q => hr a b pins s2 σ H2 x y v u Q I2 rx ry q (hs _ _))

def rIxL (K : PySem.W.Frag) : R2 := fun x y H Q => ∃ p xs i v, x = .ref p ∧ y = .int i ∧ SqL K H p xs ∧ atI xs i = some v ∧ Q v H
def rIxT (K : PySem.W.Frag) : R2 := fun x y H Q => ∃ p xs i v, x = .ref p ∧ y = .int i ∧ SqT K H p xs ∧ atI xs i = some v ∧ Q v H
def rIxS : R2 := fun x y H Q => ∃ z i c, x = .str z ∧ y = .int i ∧ z.length ≤ sizeLine ∧ atI z.cps.toList i = some c ∧ Q (.str ⟨#[c]⟩) H
theorem ix_list : IxR X (rIxL X.K) := by
  intro value slice pins s σ H x y v u Q I rx ry h hs
  obtain ⟨p, xs, i, z, rfl, rfl, hq, he, q⟩ := h
  cases rx
  obtain ⟨t, rfl⟩ := ry
  obtain ⟨its, r, pl, hz⟩ := I.list hq
  obtain ⟨j, h1, h2, h3, h4, h5⟩ := atI_get he
  obtain ⟨w, ew, rw'⟩ := r.get h2
  have hl := r.length
  have hn := line63
  have fin : EP X pins σ Q w s := ⟨z, H, I, rw', q⟩
  by_cases h0 : 0 ≤ i
  · have hj : i.toNat = j := by
      rw [seqIndex_of h0 h5] at h1
      exact Option.some.inj h1
    exact item_listR pl.isList h0 (by omega) (by rw [hj]; simpa using ew) fin hs
  · have hj : (i + (its.toArray.size : Int)).toNat = j := by
      rw [seqIndex_neg (by omega) h4] at h1
      rw [List.size_toArray, ← hl]
      exact Option.some.inj h1
    exact subscriptTail_builtinR (x := w) pl.isList.typeIs slot_list_getitem.lookup
      (wpAny_getItem_list_neg (Q := fun r s' => r = w ∧ EP X pins σ Q r s') pl.isList (by omega) (by rw [List.size_toArray] <;> omega) (by omega) (by rw [hj]; simpa using ew) ⟨rfl, fin⟩) hs
theorem ix_tup : IxR X (rIxT X.K) := by
  intro value slice pins s σ H x y v u Q I rx ry h hs
  obtain ⟨p, xs, i, z, rfl, rfl, hq, he, q⟩ := h
  cases rx
  obtain ⟨t, rfl⟩ := ry
  obtain ⟨its, r, pl, hz⟩ := I.tuple hq
  obtain ⟨j, h1, h2, h3, h4, h5⟩ := atI_get he
  obtain ⟨w, ew, rw'⟩ := r.get h2
  have hl := r.length
  have hn := line63
  have fin : EP X pins σ Q w s := ⟨z, H, I, rw', q⟩
  exact subscriptTail_builtinR (x := w) pl.typeIs slot_tuple_getitem.lookup
    (getItem_tuple (j := j) (Q := fun r s' => r = w ∧ EP X pins σ Q r s') pl (by omega) (by omega) (by rw [List.size_toArray, ← hl]; exact h1) (by simpa using ew) ⟨rfl, fin⟩) hs
theorem ix_str : IxR X rIxS := by
  intro value slice pins s σ H x y v u Q I rx ry h hs
  obtain ⟨z, i, c, rfl, rfl, hz, he, q⟩ := h
  obtain ⟨t, rfl⟩ := rx
  obtain ⟨t', rfl⟩ := ry
  obtain ⟨j, h1, h2, h3, h4, h5⟩ := atI_get he
  have hl : z.cps.toList.length = z.length := by simp [Str.length]
  rw [hl] at h1 h4 h5
  have hn := line63
  exact tail_any (typeIs_str s z t) slot_str_getitem.lookup (getItem_str (c := c) (by
    have e1 : decide (i < -(2 ^ 63 : Int)) = false := decide_eq_false (by omega)
    have e2 : decide (i ≥ 2 ^ 63) = false := decide_eq_false (by omega)
    rw [e1, e2, Bool.or_false]) (by rw [h1]; simpa using h2) ⟨.str ⟨#[c]⟩, H, I.tok _, ⟨_, rfl⟩, q⟩) hs
/-- list, tuple or str -/
def rIx (K : PySem.W.Frag) : R2 := fun x y H Q => rIxL K x y H Q ∨ rIxT K x y H Q ∨ rIxS x y H Q
theorem ix_seq : IxR X (rIx X.K) := ix_list.or (ix_tup.or ix_str)

/-! ### xs[i] = v, any sign -/
/-- the list's object behind a store -/
theorem mapSeq_set (its : List Value) (n j : Nat) (u : Value) : Obj.mapSeq (·.setIfInBounds j u) { cls := .type "list", data := .seq its.toArray n } = { cls := .type "list", data := .seq (its.set j u).toArray n } := by
  simp [Obj.mapSeq]
theorem Inv.lst {pins : List (Addr × Obj)} {σ : St} {H : Hp} {s : Shared} {p : Addr} {xs : List V} (I : Inv X pins σ H s) (h : H p = some (.lst xs)) :
    ∃ (its : List Value) (n : Nat), Vals xs its ∧ s.heap.get? p = some { cls := .type "list", data := .seq its.toArray n } ∧ xs.length ≤ sizeLine := by
  obtain ⟨z, its, n, r, e⟩ := I.hok p _ h
  exact ⟨its, n, r, e, z⟩
/-- the list at p is written by an update of its object -/
theorem Inv.lstUpd {pins : List (Addr × Obj)} {σ : St} {H : Hp} {s : Shared} {p : Addr} {xs ys : List V} {its its' : List Value} {n n' : Nat} {f : Obj → Obj} (I : Inv X pins σ H s) (h : H p = some (.lst xs))
    (ho : s.heap.get? p = some { cls := .type "list", data := .seq its.toArray n }) (hf : f { cls := .type "list", data := .seq its.toArray n } = { cls := .type "list", data := .seq its'.toArray n' }) (r : Vals ys its') (hz : ys.length ≤ sizeLine) (t : Nat) :
    Inv X pins σ (upd H p (.lst ys)) { s with heap := s.heap.update p f, toks := t } := by
  have e : (s.heap.update p f).get? p = some { cls := .type "list", data := .seq its'.toArray n' } := by
    rw [Heap.get?_update_self f ho (by rw [hf] <;> rfl), hf]
  refine I.write (x := p) (e := p) (by rw [h]; trivial) (.inl rfl) (fun b u hb q => (Heap.get?_update_other _ _ (Ne.symm hb)).trans q) ⟨_, e⟩ ?_
  exact ⟨hz, its', n', r, e⟩
def rSetL : V → V → V → Hp → (Hp → Prop) → Prop := fun o i v H Q => ∃ p xs k j, o = .ref p ∧ i = .int k ∧ H p = some (.lst xs) ∧ ixN xs.length k = some j ∧ Q (upd H p (.lst (xs.set j v)))
theorem set_list : PSet X rSetL := by
  intro pins s σ H o i v ov iv u Q I ro ri rv h
  obtain ⟨p, xs, k, j, rfl, rfl, hp, hj, q⟩ := h
  cases ro
  obtain ⟨t, rfl⟩ := ri
  obtain ⟨its, n, r, ho, hz⟩ := I.lst hp
  obtain ⟨h1, h2, h3, h4⟩ := ixN_seq hj
  have hl := r.length
  have hn := line63
  have I' : Inv X pins σ (upd H p (.lst (xs.set j v))) { s with heap := s.heap.update p (Obj.mapSeq (·.setIfInBounds j u)) } :=
    I.lstUpd hp ho (mapSeq_set its n j u) (r.set rv j) (by rw [List.length_set]; exact hz) s.toks
  by_cases h0 : 0 ≤ k
  · have hk : k.toNat = j := by
      rw [seqIndex_of h0 h4] at h1
      exact Option.some.inj h1
    exact PySem.W.ki_setAt ho h0 (by omega) (by rw [List.size_toArray, ← hl]; exact h4) (by rw [hk]; exact ⟨_, I', q⟩)
  · have hk : (k + (its.toArray.size : Int)).toNat = j := by
      rw [seqIndex_neg (by omega) h3] at h1
      rw [List.size_toArray, ← hl]
      exact Option.some.inj h1
    exact PySem.W.ki_setBack ho (by omega) (by rw [List.size_toArray, ← hl]; exact h3) (by omega) (by rw [hk]; exact ⟨_, I', q⟩)

/-! ### slices -/
theorem slice_bounds (lo hi : Option Int) (n : Nat) : (sliceBounds lo hi none n).1 = ((HT.sIx n 0 lo : Nat) : Int) ∧ (sliceBounds lo hi none n).2.1 = ((HT.sIx n n hi : Nat) : Int) ∧ (sliceBounds lo hi none n).2.2 = 1 := by
  refine ⟨?_, ?_, rfl⟩
  · cases lo with
    | none => simp [sliceBounds, HT.sIx]
    | some i =>
      simp only [sliceBounds, HT.sIx, Option.getD_none, show (1 : Int) > 0 by decide, if_true]
      by_cases h : i < 0
      · simp only [h, if_true] <;> omega
      · simp only [h, if_false] <;> omega
  · cases hi with
    | none => simp [sliceBounds, HT.sIx]
    | some i =>
      simp only [sliceBounds, HT.sIx, Option.getD_none, show (1 : Int) > 0 by decide, if_true]
      by_cases h : i < 0
      · simp only [h, if_true] <;> omega
      · simp only [h, if_false] <;> omega
theorem slicePick_cut (its : List Value) (lo hi : Option Int) : slicePick its.toArray lo hi none = ((its.drop (HT.sIx its.length 0 lo)).take (HT.sIx its.length its.length hi - HT.sIx its.length 0 lo)).toArray := by
  obtain ⟨h1, h2, h3⟩ := slice_bounds lo hi its.toArray.size
  unfold slicePick
  rw [h1, h2, h3]
  simp only [sliceRange_one, pick_run, List.size_toArray] <;> rfl
/-- xs[lo:hi] of a list: a new list -/
def rSlL (K : PySem.W.Frag) : V → Option Int → Option Int → Hp → VK → Prop := fun x lo hi H Q => ∃ a xs, x = .ref a ∧ SqL K H a xs ∧ ∀ p, H p = none → Q (.ref p) (upd H p (.lst (cutV xs lo hi)))
theorem sl_list : SlR X (rSlL X.K) := by
  intro pins s σ H x v vl vu lo hi sl Q I rx hs pl pu h
  obtain ⟨a, xs, rfl, hx, q⟩ := h
  cases rx
  obtain ⟨its, r, ht, hz⟩ := I.list hx
  have hlen := r.length
  refine ⟨"list", _, slot_list_getitem.lookup, ht.isList.typeIs, ?_⟩
  refine wpAny_getItem_list_slice ht.isList hs pl pu .none (by simp) ?_ (by rw [List.size_toArray] <;> omega)
  rw [slicePick_cut, ← hlen]
  refine ⟨.ref s.heap.objs.size, _, I.laid (t' := s.toks) (o := .lst (cutV xs lo hi)) (fun b ob q => Heap.get?_push_of_some _ q) (Nat.le_refl _) ?_, rfl, q _ (I.hok.fresh (Nat.le_refl _))⟩
  exact ⟨Nat.le_trans (cutV_length xs lo hi) hz, _, 0, (r.drop (HT.sIx xs.length 0 lo)).take (HT.sIx xs.length xs.length hi - HT.sIx xs.length 0 lo), Heap.get?_push_size _ rfl⟩

/-! ### in, not in: flat items -/
def flatV : V → Bool
  | .non => true
  | .bl _ => true
  | .int _ => true
  | .str _ => true
  | _ => false
/-- == of flat values -/
def eqV : V → V → Bool
  | .non, .non => true
  | .bl a, .bl b => a == b
  | .bl a, .int b => (if a then 1 else 0) == b
  | .int a, .bl b => a == (if b then 1 else 0)
  | .int a, .int b => a == b
  | .str a, .str b => a == b
  | _, _ => false
theorem eqAt_V {A : Around} {s : Shared} {y x : V} {u v : Value} (ry : RelV y u) (rx : RelV x v) (fy : flatV y = true) (fx : flatV x = true) : SeqAt.EqAt A s u v (eqV y x) := by
  cases y with
  | non =>
    cases ry
    cases x with
    | non => cases rx; exact SeqAt.EqAt.same _
    | bl b => cases rx; exact SeqAt.EqAt.none_bool b
    | int b => obtain ⟨t, rfl⟩ := rx; exact SeqAt.EqAt.none_int b t
    | str b => obtain ⟨t, rfl⟩ := rx; exact SeqAt.EqAt.none_str b t
    | _ => exact absurd (show false = true from fx) Bool.false_ne_true
  | bl a =>
    cases ry
    cases x with
    | non => cases rx; exact SeqAt.EqAt.bool_none a
    | bl b => cases rx; exact SeqAt.EqAt.bool_bool a b
    | int b => obtain ⟨t, rfl⟩ := rx; exact SeqAt.EqAt.bool_int a b t
    | str b => obtain ⟨t, rfl⟩ := rx; exact SeqAt.EqAt.bool_str a b t
    | _ => exact absurd (show false = true from fx) Bool.false_ne_true
  | int a =>
    obtain ⟨t', rfl⟩ := ry
    cases x with
    | non => cases rx; exact SeqAt.EqAt.int_none a t'
    | bl b => cases rx; exact SeqAt.EqAt.int_bool a t' b
    | int b => obtain ⟨t, rfl⟩ := rx; exact SeqAt.EqAt.int_int a t' b t
    | str b => obtain ⟨t, rfl⟩ := rx; exact SeqAt.EqAt.int_str a t' b t
    | _ => exact absurd (show false = true from fx) Bool.false_ne_true
  | str a =>
    obtain ⟨t', rfl⟩ := ry
    cases x with
    | non => cases rx; exact SeqAt.EqAt.str_none a t'
    | bl b => cases rx; exact SeqAt.EqAt.str_bool a t' b
    | int b => obtain ⟨t, rfl⟩ := rx; exact SeqAt.EqAt.str_int a t' b t
    | str b => obtain ⟨t, rfl⟩ := rx; exact SeqAt.EqAt.str_str a t' b t
    | _ => exact absurd (show false = true from fx) Bool.false_ne_true
  | _ => exact absurd (show false = true from fy) Bool.false_ne_true
/-- the items' answers, read off the values (a value's own answer does not lean on its token) -/
def eqU (x : V) (u : Value) : Bool := match u with
  | .none => eqV .non x
  | .bool b => eqV (.bl b) x
  | .int i _ => eqV (.int i) x
  | .str z _ => eqV (.str z) x
  | _ => false
theorem eqU_of {x y : V} {u : Value} (r : RelV y u) (f : flatV y = true) : eqU x u = eqV y x := by
  cases y with
  | non => cases r; rfl
  | bl b => cases r; rfl
  | int i => obtain ⟨t, rfl⟩ := r; rfl
  | str z => obtain ⟨t, rfl⟩ := r; rfl
  | _ => exact absurd (show false = true from f) Bool.false_ne_true
theorem any_eqU {x : V} : ∀ {xs : List V} {us : List Value}, Vals xs us → xs.all flatV = true → us.any (eqU x) = xs.any fun y => eqV y x
  | _, _, .nil, _ => rfl
  | y :: xs, u :: us, .cons r t, f => by
    rw [List.all_cons, Bool.and_eq_true] at f
    rw [List.any_cons, List.any_cons, eqU_of r f.1, any_eqU t f.2]
theorem mem_eqAt {A : Around} {s : Shared} {x : V} {v : Value} (rx : RelV x v) (fx : flatV x = true) : ∀ {xs : List V} {us : List Value}, Vals xs us → xs.all flatV = true → ∀ u ∈ us, SeqAt.EqAt A s u v (eqU x u)
  | _, _, .nil, _ => fun u hu => by cases hu
  | y :: xs, u :: us, .cons r t, f => fun u' hu => by
    rw [List.all_cons, Bool.and_eq_true] at f
    rcases List.mem_cons.mp hu with rfl | hu
    · rw [eqU_of r f.1]; exact eqAt_V r rx f.1 fx
    · exact mem_eqAt rx fx t f.2 u' hu
def inV (x : V) (xs : List V) : Bool := xs.any fun y => eqV y x
/-- x in a list or tuple of flat items -/
def rIn (K : PySem.W.Frag) (neg : Bool) : R2 := fun x y H Q => ∃ p xs, y = .ref p ∧ (SqL K H p xs ∨ SqT K H p xs) ∧ flatV x = true ∧ xs.all flatV = true ∧ Q (.bl (if neg then !inV x xs else inV x xs)) H
theorem op_in_seq : OpR X (compareOp .In) (rIn X.K false) := by
  intro pins s σ H x y v u Q I rx ry h
  obtain ⟨p, xs, rfl, hq, fx, fs, q⟩ := h
  cases ry
  rcases hq with hq | hq
  · obtain ⟨its, r, pl, hz⟩ := I.list hq
    refine SeqAt.in_listAt (eqU x) pl.isList (fun w hw => mem_eqAt rx fx r fs w (by simpa using hw)) ⟨.bl _, H, I, rfl, ?_⟩
    rw [show its.toArray.any (eqU x) = its.any (eqU x) by simp, any_eqU r fs]
    exact q
  · obtain ⟨its, r, pl, hz⟩ := I.tuple hq
    refine SeqAt.in_tupleAt (eqU x) pl (fun w hw => mem_eqAt rx fx r fs w (by simpa using hw)) ⟨.bl _, H, I, rfl, ?_⟩
    rw [show its.toArray.any (eqU x) = its.any (eqU x) by simp, any_eqU r fs]
    exact q
theorem op_notIn_seq : OpR X (compareOp .NotIn) (rIn X.K true) := by
  intro pins s σ H x y v u Q I rx ry h
  obtain ⟨p, xs, rfl, hq, fx, fs, q⟩ := h
  cases ry
  rcases hq with hq | hq
  · obtain ⟨its, r, pl, hz⟩ := I.list hq
    refine SeqAt.notIn_listAt (eqU x) pl.isList (fun w hw => mem_eqAt rx fx r fs w (by simpa using hw)) ⟨.bl _, H, I, rfl, ?_⟩
    rw [show its.toArray.any (eqU x) = its.any (eqU x) by simp, any_eqU r fs]
    exact q
  · obtain ⟨its, r, pl, hz⟩ := I.tuple hq
    refine SeqAt.notIn_tupleAt (eqU x) pl (fun w hw => mem_eqAt rx fx r fs w (by simpa using hw)) ⟨.bl _, H, I, rfl, ?_⟩
    rw [show its.toArray.any (eqU x) = its.any (eqU x) by simp, any_eqU r fs]
    exact q
theorem op_notIn_str : OpR X (compareOp .NotIn) (fun x y H Q => ∃ i j, x = .str i ∧ y = .str j ∧ Q (.bl (!(!(Builtin.Str.occurrences j i 0 j.length 1).isEmpty))) H) := by
  intro pins s σ H x y v u Q I rx ry h
  obtain ⟨i, j, rfl, rfl, q⟩ := h
  obtain ⟨t, rfl⟩ := rx
  obtain ⟨t', rfl⟩ := ry
  exact notIn_str ⟨.bl _, H, I, rfl, q⟩

/-! ### len, list(x), tuple(x) of any list or tuple that is read -/
theorem call_len_seq : CallR X (.builtin "len") (fun xs H Q => ∃ p ys, xs = [.ref p] ∧ (SqL X.K H p ys ∨ SqT X.K H p ys) ∧ Q (.int ys.length) H) := by
  intro pins s σ H xs us Q I r h
  obtain ⟨p, ys, rfl, hq, q⟩ := h
  obtain ⟨u, rfl, rx⟩ := vals1 r
  cases rx
  have hn := line63
  rcases hq with hq | hq
  · obtain ⟨its, r', pl, hz⟩ := I.list hq
    have hlen := r'.length
    exact Calls.call_len_list pl.isList (by simp only [List.size_toArray] <;> omega) ⟨.int ys.length, H, I.tok _, ⟨s.toks + 1, by rw [List.size_toArray, hlen]⟩, q⟩
  · obtain ⟨its, r', pl, hz⟩ := I.tuple hq
    have hlen := r'.length
    exact len_tuple pl (by simp only [List.size_toArray] <;> omega) ⟨.int ys.length, H, I.tok _, ⟨s.toks + 1, by rw [List.size_toArray, hlen]⟩, q⟩
theorem call_len_str : CallR X (.builtin "len") (fun xs H Q => ∃ z, xs = [.str z] ∧ z.length ≤ sizeLine ∧ Q (.int z.length) H) := by
  intro pins s σ H xs us Q I r h
  obtain ⟨z, rfl, hz, q⟩ := h
  obtain ⟨u, rfl, t, rfl⟩ := vals1 r
  have hn := line63
  exact len_str (by omega) ⟨.int z.length, H, I.tok _, ⟨_, rfl⟩, q⟩
theorem CallR.or {f : Value} {r r' : List V → Hp → VK → Prop} (h : CallR X f r) (h' : CallR X f r') : CallR X f (fun xs H Q => r xs H Q ∨ r' xs H Q) := by
  intro pins s σ H xs us Q I rs q
  rcases q with q | q
  · exact h pins s σ H xs us Q I rs q
  · exact h' pins s σ H xs us Q I rs q
theorem call_list_of : CallR X (.type "list") (fun xs H Q => ∃ p ys, xs = [.ref p] ∧ (SqL X.K H p ys ∨ SqT X.K H p ys) ∧ ∀ l, H l = none → Q (.ref l) (upd H l (.lst ys))) := by
  intro pins s σ H xs us Q I r h
  obtain ⟨p, ys, rfl, hq, q⟩ := h
  obtain ⟨u, rfl, rx⟩ := vals1 r
  cases rx
  have fin : ∀ (its : List Value), Vals ys its → ys.length ≤ sizeLine → ∀ (h' : Heap) (c' : Nat), (∀ b o', s.heap.get? b = some o' → h'.get? b = some o') →
      h'.get? s.heap.objs.size = some { cls := .type "list", dict := none, data := .seq its.toArray c', slots := #[] } → EP X pins σ Q (.ref s.heap.objs.size) { s with heap := h' } := fun its r' hz h' c' kp e =>
    ⟨.ref s.heap.objs.size, _, I.laid (t' := s.toks) kp (Nat.le_refl _) (show ObjOk X.prog X.w _ h' _ (.lst ys) from ⟨hz, its, c', r', e⟩), rfl, q _ (I.hok.fresh (Nat.le_refl _))⟩
  rcases hq with hq | hq
  · obtain ⟨its, r', pl, hz⟩ := I.list hq
    have hlen := r'.length
    obtain ⟨o, ho, hc, n, hd⟩ := pl.isList
    exact call_list_seq p (.inl rfl) ho hc hd (fun h' c' kp e => fin its r' hz h' c' kp e) (by simp only [List.size_toArray] <;> omega)
  · obtain ⟨its, r', pl, hz⟩ := I.tuple hq
    have hlen := r'.length
    obtain ⟨o, ho, hc, n, hd⟩ := pl
    exact call_list_seq p (.inr rfl) ho hc hd (fun h' c' kp e => fin its r' hz h' c' kp e) (by simp only [List.size_toArray] <;> omega)
theorem call_tuple_of : CallR X (.type "tuple") (fun xs H Q => ∃ p ys, xs = [.ref p] ∧ ((SqL X.K H p ys ∧ ∀ l, H l = none → Q (.ref l) (upd H l (.tup ys))) ∨ (SqT X.K H p ys ∧ Q (.ref p) H))) := by
  intro pins s σ H xs us Q I r h
  obtain ⟨p, ys, rfl, h⟩ := h
  obtain ⟨u, rfl, rx⟩ := vals1 r
  cases rx
  rcases h with ⟨hq, q⟩ | ⟨hq, q⟩
  · obtain ⟨its, r', pl, hz⟩ := I.list hq
    have hlen := r'.length
    refine call_tuple_list pl.isList (fun h' kp => ?_) (by simp only [List.size_toArray] <;> omega)
    have I1 : Inv X pins σ H { s with heap := h' } := I.kept (t' := s.toks) kp
    have I2 : Inv X pins σ (upd H h'.objs.size (.tup ys)) { s with heap := h'.push { cls := .type "tuple", data := .seq its.toArray } } :=
      I1.laid (t' := s.toks) (fun b o e => Heap.get?_push_of_some _ e) (Nat.le_refl _) (show ObjOk X.prog X.w _ _ _ (.tup ys) from ⟨hz, its, r', IsTup.new _ _⟩)
    exact ⟨.ref h'.objs.size, _, I2, rfl, q _ (I1.hok.fresh (Nat.le_refl _))⟩
  · obtain ⟨its, r', pl, hz⟩ := I.tuple hq
    exact call_tuple_same pl ⟨.ref p, H, I, rfl, q⟩

/-! ### the call of a builtin's method: o.m(..) -/
/-- the value is of that builtin type -/
def tyV (K : PySem.W.Frag) (T : String) (x : V) (H : Hp) : Prop := match x with
  | .str _ => T = "str"
  | .int _ => T = "int"
  | .ref p => (T = "list" ∧ ∃ xs, SqL K H p xs) ∨ (T = "tuple" ∧ ∃ o, K.lookup p = some o ∧ o.cls = .type "tuple" ∧ o.dict = none) ∨
      (T = "dict" ∧ ((∃ kvs, H p = some (.dK kvs)) ∨ ∃ kvs, H p = some (.dT kvs))) ∨ (T = "set" ∧ ∃ S n, H p = some (.set S n))
  | _ => False
theorem tyV_is {pins : List (Addr × Obj)} {σ : St} {H : Hp} {s : Shared} {T : String} {x : V} {v : Value} (I : Inv X pins σ H s) (r : RelV x v) (ty : tyV X.K T x H) :
    s.TypeIs v T ∧ ∀ a, v = .ref a → ∃ ob, s.heap.get? a = some ob ∧ ob.dict = none := by
  cases x with
  | str z =>
    obtain ⟨t, rfl⟩ := r
    cases (show T = "str" from ty)
    exact ⟨typeIs_str s z t, fun _ e => nomatch e⟩
  | int i =>
    obtain ⟨t, rfl⟩ := r
    cases (show T = "int" from ty)
    exact ⟨typeIs_int s i t, fun _ e => nomatch e⟩
  | ref p =>
    cases r
    rcases ty with ⟨rfl, xs, hq⟩ | ⟨rfl, o, hk, hc, hd⟩ | ⟨rfl, hk⟩ | ⟨rfl, S, n, hk⟩
    · obtain ⟨its, _, pl, _⟩ := I.list hq
      refine ⟨pl.isList.typeIs, fun a e => ?_⟩
      cases e
      obtain ⟨o, n, e, c, hd, _⟩ := pl
      exact ⟨o, e, hd⟩
    · refine ⟨⟨o, I.kIn p o hk, hc⟩, fun a e => ?_⟩
      cases e
      exact ⟨o, I.kIn _ o hk, hd⟩
    · have z : ∃ o, s.heap.get? p = some o ∧ o.ExactDict := by
        rcases hk with ⟨kvs, hk⟩ | ⟨kvs, hk⟩
        · obtain ⟨_, _, _, _, o, _, _, e, ex, _⟩ := I.hok p _ hk
          exact ⟨o, e, ex⟩
        · obtain ⟨_, _, _, _, o, _, _, e, ex, _⟩ := I.hok p _ hk
          exact ⟨o, e, ex⟩
      obtain ⟨o, e, ex⟩ := z
      refine ⟨⟨o, e, ex.1⟩, fun a e2 => ?_⟩
      cases e2
      exact ⟨o, e, ex.2.1⟩
    · obtain ⟨o, _, _, _, e, ex, _⟩ := I.hok p _ hk
      refine ⟨⟨o, e, ex.1⟩, fun a e2 => ?_⟩
      cases e2
      exact ⟨o, e, ex.2.1⟩
  | _ => exact False.elim ty
def tBM0 (K : PySem.W.Frag) (T : String) (r : V → List V → Hp → VK → Prop) (to : TE) : TE := fun σ H Q => to σ H fun x H1 => tyV K T x H1 ∧ r x [] H1 Q
def tBM (K : PySem.W.Frag) (T : String) (r : V → List V → Hp → VK → Prop) (to : TE) (t : TA) : TE := fun σ H Q => to σ H fun x H1 => tyV K T x H1 ∧ t σ H1 fun xs H2 => r x xs H2 Q
variable {o e : Expr} {es : List Expr} {to : TE} {t : TA} {name : Str} {apos cpos : Pos} {T id : String} {r : V → List V → Hp → VK → Prop}
theorem pe_bm0 (pa : PlainAttrs T) (slot : Slot T name id) (hty : typeOf (.builtin id) = pure (.type "method_descriptor")) (hm : MtR X id r) (ho : PE X o to)
    (hbase : attributeBase o name X.env (eval o X.env) = eval o X.env := by rfl) (hline : (apos.endLine == cpos.line) = true := by rfl) : PE X (.Call (.Attribute o name apos) [] [] cpos) (tBM0 X.K T r to) := by
  intro pins s σ H Q I h
  refine wpAny_Call_method0_late hbase hline (thn (ho pins s σ H _ I h) fun v s1 ⟨x, H1, I1, r1, ty, q1⟩ => ?_)
  obtain ⟨h1, h2⟩ := tyV_is I1 r1 ty
  exact ⟨T, id, pa, slot, hty, h1, h2, Calls.callWith_builtin rfl (PySem.evalArgs_none (hm pins s1 σ H1 x [] v [] Q I1 r1 .nil q1))⟩
theorem pe_bm (pa : PlainAttrs T) (slot : Slot T name id) (hty : typeOf (.builtin id) = pure (.type "method_descriptor")) (hm : MtR X id r) (ho : PE X o to) (ha : PA X (e :: es) t)
    (hbase : attributeBase o name X.env (eval o X.env) = eval o X.env := by rfl)
    (hfew : ((backTo cpos (starEach (e :: es) X.env)).all (fun x => !x.1) && (backToKw cpos (keywordEach [] X.env)).all (fun x => x.1.isSome)
      && decide ((e :: es).length + ([] : List Keyword).length + (if ([] : List Keyword).isEmpty then 0 else 1) < 30)) = true := by rfl)
    (hline : (apos.endLine == cpos.line) = true := by rfl) (hs : starEach (e :: es) X.env = (false, eval e X.env) :: starEach es X.env := by rfl) (hplain : (backTo cpos (starEach es X.env)).any (·.1) = false := by rfl) :
    PE X (.Call (.Attribute o name apos) (e :: es) [] cpos) (tBM X.K T r to t) := by
  intro pins s σ H Q I h
  refine wpAny_Call_method_late hbase hfew hline rfl (thn (ho pins s σ H _ I h) fun v s1 ⟨x, H1, I1, r1, ty, q1⟩ => ?_)
  obtain ⟨h1, h2⟩ := tyV_is I1 r1 ty
  refine ⟨T, id, pa, slot, hty, h1, h2, ?_⟩
  have hA := ha cpos pins s1 σ H1 _ I1 q1
  rw [hs] at hA ⊢
  refine Calls.callWith_builtin (by show (false || (backTo cpos (starEach es X.env)).any (·.1)) = false; rw [hplain] <;> rfl) (Calls.evalArgs_plain ?_)
  exact thn hA fun us s2 ⟨vs, H2, I2, r2, q2⟩ => hm pins s2 σ H2 x vs v us Q I2 r1 r2 q2
/- xs.append(e), list.index on a module's tuple .. are MtR facts of 06m -/
end
end L2

namespace L2
open PySem PySem.Spec PyProof.Rows

def MtM (X : Cx) (id : String) (r : V → List V → Hp → VK → Prop) : Prop :=
  ∀ (pins : List (Addr × Obj)) (s : Shared) (σ : St) (H : Hp) (x : V) (xs : List V) (v : Value) (us : List Value) (Q : VK), Inv X pins σ H s → RelV x v → Vals xs us → r x xs H Q →
    wpAny (model X.prog X.w) X.A (call (.builtin id) (v :: us)) (EP X pins σ Q) X.xe s

/-! ### lists of values -/
theorem Vals.one : ∀ {x : V} {us : List Value}, Vals [x] us → ∃ u, us = [u] ∧ RelV x u
  | _, _, .cons r .nil => ⟨_, rfl, r⟩
theorem Vals.two : ∀ {x y : V} {us : List Value}, Vals [x, y] us → ∃ u v, us = [u, v] ∧ RelV x u ∧ RelV y v
  | _, _, _, .cons r (.cons q .nil) => ⟨_, _, rfl, r, q⟩
theorem Vals.zero : ∀ {us : List Value}, Vals [] us → us = []
  | _, .nil => rfl
theorem Vals.dropLast {xs : List V} {us : List Value} (h : Vals xs us) : Vals xs.dropLast us.dropLast := by
  induction h with
  | nil => exact .nil
  | cons r t ih =>
    cases t with
    | nil => exact .nil
    | cons q t' => exact .cons r ih
theorem Vals.eraseIdx : ∀ {xs : List V} {us : List Value} (i : Nat), Vals xs us → Vals (xs.eraseIdx i) (us.eraseIdx i)
  | _, _, _, .nil => .nil
  | _, _, 0, .cons _ t => t
  | _, _, i + 1, .cons r t => .cons r (Vals.eraseIdx i t)
theorem Vals.reverse {xs : List V} {us : List Value} (h : Vals xs us) : Vals xs.reverse us.reverse := by
  induction h with
  | nil => exact .nil
  | cons r t ih => rw [List.reverse_cons, List.reverse_cons]; exact Vals.append ih (.cons r .nil)
theorem Vals.rep {xs : List V} {us : List Value} (h : Vals xs us) : ∀ k : Nat, Vals (List.replicate k xs).flatten (List.replicate k us).flatten
  | 0 => .nil
  | k + 1 => by
    rw [List.replicate_succ, List.replicate_succ, List.flatten_cons, List.flatten_cons]
    exact Vals.append h (Vals.rep h k)
theorem erase_last {α : Type} (l : List α) : l.eraseIdx (l.length - 1) = l.dropLast := by
  induction l with
  | nil => rfl
  | cons a r ih =>
    cases r with
    | nil => rfl
    | cons b r =>
      have e : (a :: b :: r).length - 1 = ((b :: r).length - 1) + 1 := by
        have h1 : (a :: b :: r).length = r.length + 2 := rfl
        have h2 : (b :: r).length = r.length + 1 := rfl
        omega
      rw [e, List.eraseIdx_cons_succ, ih]
      all_goals rfl
theorem len_erase {α : Type} : ∀ (l : List α) (i : Nat), (l.eraseIdx i).length ≤ l.length
  | [], _ => Nat.le_refl _
  | _ :: _, 0 => Nat.le_succ _
  | _ :: r, i + 1 => Nat.succ_le_succ (len_erase r i)
theorem foldl_rep (its : List Value) : ∀ (k : Nat) (acc : List Value),
    List.foldl (fun x1 x2 => x1 ++ x2) acc.toArray (List.replicate k its.toArray) = (acc ++ (List.replicate k its).flatten).toArray
  | 0, acc => by simp
  | k + 1, acc => by
    have e : acc.toArray ++ its.toArray = (acc ++ its).toArray := by simp
    have e2 : (acc ++ its) ++ (List.replicate k its).flatten = acc ++ (List.replicate (k + 1) its).flatten := by
      rw [List.replicate_succ, List.flatten_cons, List.append_assoc]
    rw [← e2, ← foldl_rep its k (acc ++ its), ← e, List.replicate_succ, List.foldl_cons]

section
variable {X : Cx} {pins : List (Addr × Obj)} {σ : St} {H : Hp} {s : Shared} {l b : Addr} {xs ys zs : List V}

/-! ### the two steps: a tracked list is rewritten, a new list is laid -/
theorem Inv.lset {its its' : List Value} {n : Nat} {f : Array Value → Array Value} {t' : Nat} (I : Inv X pins σ H s) (hH : H l = some (.lst xs))
    (e : s.heap.get? l = some { cls := .type "list", data := .seq its.toArray n }) (hf : f its.toArray = its'.toArray) (hv : Vals ys its') (hz : ys.length ≤ sizeLine) :
    Inv X pins σ (upd H l (.lst ys)) { s with heap := s.heap.update l (Obj.mapSeq f), toks := t' } := by
  have q := PySem.IsL.update e f
  rw [hf] at q
  refine I.write (x := l) (e := l) (by rw [hH]; exact trivial) (.inl rfl) (fun b' u hb hu => (Heap.get?_update_other s.heap (Obj.mapSeq f) (Ne.symm hb)).trans hu) ⟨_, q⟩ ?_
  exact ⟨hz, its', _, hv, q⟩
theorem Inv.lnew {its : List Value} {t' : Nat} (I : Inv X pins σ H s) (hv : Vals ys its) (hz : ys.length ≤ sizeLine) :
    Inv X pins σ (upd H s.heap.objs.size (.lst ys)) { s with heap := s.heap.push { cls := .type "list", data := .seq its.toArray }, toks := t' } :=
  I.laid (fun _ _ q => Heap.get?_push_of_some _ q) (Nat.le_refl _) ⟨hz, its, 0, hv, Heap.get?_push_size _ rfl⟩
theorem Inv.fresh (I : Inv X pins σ H s) : H s.heap.objs.size = none := I.hok.fresh (Nat.le_refl _)
theorem Inv.lstM (I : Inv X pins σ H s) (hH : H l = some (.lst xs)) : xs.length ≤ sizeLine ∧ ∃ (its : List Value) (n : Nat), Vals xs its ∧ xs.length = its.length ∧ s.heap.get? l = some { cls := .type "list", data := .seq its.toArray n } := by
  obtain ⟨z, its, n, r, e⟩ := I.hok l _ hH
  exact ⟨z, its, n, r, r.length, e⟩

theorem notLongL {n : Nat} (h : n ≤ sizeLine) : Builtin.List.listTooLong n = false := by
  unfold Builtin.List.listTooLong
  exact decide_eq_false (by omega)
end

section
variable {X : Cx}

/-! ### methods -/
def rAppend : V → List V → Hp → VK → Prop := fun x vs H Q => ∃ l xs y, x = .ref l ∧ vs = [y] ∧ H l = some (.lst xs) ∧ xs.length < sizeLine ∧ Q .non (upd H l (.lst (xs ++ [y])))
theorem mt_append : MtM X "list.append" rAppend := by
  intro pins s σ H x vs v us Q I rx rv h
  obtain ⟨l, xs, y, rfl, rfl, hH, hz, q⟩ := h
  cases rx
  obtain ⟨u, rfl, ru⟩ := rv.one
  obtain ⟨z, its, n, r, hl, e⟩ := I.lstM hH
  refine call_meets F.slot_list_append ⟨_, e, rfl⟩ F.entry_list_append (F.args_list_append_2 _ _) (PySem.list_append l its.toArray n u (by rw [List.size_toArray]; omega)) ⟨e, ?_⟩
  refine ⟨.non, _, I.lset (its' := its ++ [u]) hH e (by simp) (r.append (.cons ru .nil)) ?_, rfl, q⟩
  rw [List.length_append, List.length_singleton]
  omega

def rExtend : V → List V → Hp → VK → Prop := fun x vs H Q => ∃ l b xs zs, x = .ref l ∧ vs = [.ref b] ∧ H l = some (.lst xs) ∧ H b = some (.lst zs) ∧ xs.length + zs.length ≤ sizeLine ∧ Q .non (upd H l (.lst (xs ++ zs)))
theorem mt_extend : MtM X "list.extend" rExtend := by
  intro pins s σ H x vs v us Q I rx rv h
  obtain ⟨l, b, xs, zs, rfl, rfl, hH, hB, hz, q⟩ := h
  cases rx
  obtain ⟨u, rfl, ru⟩ := rv.one
  cases ru
  obtain ⟨z, its, n, r, hl, e⟩ := I.lstM hH
  obtain ⟨z2, its2, n2, r2, hl2, e2⟩ := I.lstM hB
  have hsz : its.toArray.size + its2.toArray.size ≤ sizeLine := by rw [List.size_toArray, List.size_toArray]; omega
  have hlong : ¬ (!its.toArray.isEmpty && Builtin.List.listTooLong (its.toArray.size + its2.toArray.size)) = true := by
    rw [notLongL hsz, Bool.and_false]
    exact Bool.false_ne_true
  refine call_meets F.slot_list_extend ⟨_, e, rfl⟩ F.entry_list_extend (F.args_list_extend_2 _ _)
    (AutoSeq1.list_extend_list_list_0 l its.toArray n b its2.toArray n2 hlong (by rw [List.size_toArray]; omega) (by omega)) ⟨e, e2, ?_⟩
  refine ⟨.non, _, I.lset (its' := its ++ its2) hH e (by simp) (r.append r2) ?_, rfl, q⟩
  rw [List.length_append]
  omega

def rPop : V → List V → Hp → VK → Prop := fun x vs H Q => ∃ l xs y, x = .ref l ∧ vs = [] ∧ H l = some (.lst xs) ∧ xs[xs.length - 1]? = some y ∧ Q y (upd H l (.lst xs.dropLast))
theorem mt_pop : MtM X "list.pop" rPop := by
  intro pins s σ H x vs v us Q I rx rv h
  obtain ⟨l, xs, y, rfl, rfl, hH, hy, q⟩ := h
  cases rx
  have hus := rv.zero
  subst hus
  obtain ⟨z, its, n, r, hl, e⟩ := I.lstM hH
  obtain ⟨u, hu, ru⟩ := r.get hy
  have hy' : its.toArray[its.toArray.size - 1]? = some u := by
    show its.toArray[its.length - 1]? = some u
    rw [← Array.getElem?_toList, ← hl]
    exact hu
  refine call_meets F.slot_list_pop ⟨_, e, rfl⟩ F.entry_list_pop (F.args_list_pop_1 _) (MeetsSeq.list_pop_last l its.toArray n u hy' (by rw [List.size_toArray]; omega)) ⟨e, ?_⟩
  refine ⟨y, _, I.lset (its' := its.dropLast) hH e ?_ r.dropLast ?_, ru, q⟩
  · show its.toArray.eraseIdxIfInBounds (its.toArray.size - 1) = its.dropLast.toArray
    rw [List.size_toArray, List.eraseIdxIfInBounds_toArray, erase_last]
  · rw [List.length_dropLast]
    omega

def rPopAt : V → List V → Hp → VK → Prop := fun x vs H Q => ∃ l xs i k y, x = .ref l ∧ vs = [.int i] ∧ H l = some (.lst xs) ∧ -(2 ^ 63) ≤ i ∧ i < 2 ^ 63 ∧ seqIndex? i xs.length = some k ∧ xs[k]? = some y ∧ Q y (upd H l (.lst (xs.eraseIdx k)))
theorem mt_popAt : MtM X "list.pop" rPopAt := by
  intro pins s σ H x vs v us Q I rx rv h
  obtain ⟨l, xs, i, k, y, rfl, rfl, hH, h1, h2, hk, hy, q⟩ := h
  cases rx
  obtain ⟨u, rfl, ru⟩ := rv.one
  obtain ⟨t, rfl⟩ := ru
  obtain ⟨z, its, n, r, hl, e⟩ := I.lstM hH
  obtain ⟨w, hw, rw'⟩ := r.get hy
  refine call_meets F.slot_list_pop ⟨_, e, rfl⟩ F.entry_list_pop (F.args_list_pop_2 _ _)
    (MeetsSeq.list_pop_at l its.toArray n i t k w (fitsIndex_both h1 h2) (by rw [List.size_toArray, ← hl]; exact hk) (by rw [← Array.getElem?_toList]; exact hw) (by rw [List.size_toArray]; omega)) ⟨e, ?_⟩
  refine ⟨y, _, I.lset (its' := its.eraseIdx k) hH e ?_ (r.eraseIdx k) ?_, rw', q⟩
  · show its.toArray.eraseIdxIfInBounds k = (its.eraseIdx k).toArray
    rw [List.eraseIdxIfInBounds_toArray]
  · have := len_erase xs k
    omega

def rReverse : V → List V → Hp → VK → Prop := fun x vs H Q => ∃ l xs, x = .ref l ∧ vs = [] ∧ H l = some (.lst xs) ∧ Q .non (upd H l (.lst xs.reverse))
theorem mt_reverse : MtM X "list.reverse" rReverse := by
  intro pins s σ H x vs v us Q I rx rv h
  obtain ⟨l, xs, rfl, rfl, hH, q⟩ := h
  cases rx
  have hus := rv.zero
  subst hus
  obtain ⟨z, its, n, r, hl, e⟩ := I.lstM hH
  refine call_meets F.slot_list_reverse ⟨_, e, rfl⟩ F.entry_list_reverse (F.args_list_reverse_1 _) (AutoSeq1.list_reverse_list_0 l its.toArray n (by rw [List.size_toArray]; omega)) ⟨e, ?_⟩
  refine ⟨.non, _, I.lset (its' := its.reverse) hH e (by simp) r.reverse ?_, rfl, q⟩
  rw [List.length_reverse]
  omega

def rClear : V → List V → Hp → VK → Prop := fun x vs H Q => ∃ l xs, x = .ref l ∧ vs = [] ∧ H l = some (.lst xs) ∧ Q .non (upd H l (.lst []))
theorem mt_clear : MtM X "list.clear" rClear := by
  intro pins s σ H x vs v us Q I rx rv h
  obtain ⟨l, xs, rfl, rfl, hH, q⟩ := h
  cases rx
  have hus := rv.zero
  subst hus
  obtain ⟨z, its, n, r, hl, e⟩ := I.lstM hH
  refine call_meets F.slot_list_clear ⟨_, e, rfl⟩ F.entry_list_clear (F.args_list_clear_1 _) (AutoSeq1.list_clear_list_0 l its.toArray n (by rw [List.size_toArray]; omega)) ⟨e, ?_⟩
  exact ⟨.non, _, I.lset (its' := []) (ys := []) hH e rfl .nil (Nat.zero_le _), rfl, q⟩

/-! ### list + list, list += list, list * int -/
def rCat : R2 := fun x y H Q => ∃ l b xs zs, x = .ref l ∧ y = .ref b ∧ H l = some (.lst xs) ∧ H b = some (.lst zs) ∧ xs.length + zs.length ≤ sizeLine ∧ ∀ p, H p = none → Q (.ref p) (upd H p (.lst (xs ++ zs)))
theorem op_cat : OpR X (binaryOp .Add) rCat := by
  intro pins s σ H x y v u Q I rx ry h
  obtain ⟨l, b, xs, zs, rfl, rfl, hH, hB, hz, q⟩ := h
  cases rx
  cases ry
  obtain ⟨z, its, n, r, hl, e⟩ := I.lstM hH
  obtain ⟨z2, its2, n2, r2, hl2, e2⟩ := I.lstM hB
  refine PySem.P.add_list e e2 ?_ (by rw [List.size_toArray, List.size_toArray]; omega)
  have ea : its.toArray ++ its2.toArray = (its ++ its2).toArray := by simp
  rw [ea]
  exact ⟨.ref _, _, I.lnew (t' := s.toks) (r.append r2) (by rw [List.length_append]; omega), rfl, q _ I.fresh⟩
/-- a list times an int (a negative one is nothing) -/
def rRep : R2 := fun x y H Q => ∃ l k xs, x = .ref l ∧ y = .int k ∧ H l = some (.lst xs) ∧ -(2 ^ 63) ≤ k ∧ k < 2 ^ 63 ∧ xs.length * k.toNat ≤ sizeLine ∧
  ∀ p, H p = none → Q (.ref p) (upd H p (.lst (List.replicate k.toNat xs).flatten))
theorem len_rep {α : Type} (xs : List α) (k : Nat) : (List.replicate k xs).flatten.length = k * xs.length := by
  induction k with
  | zero => simp
  | succ k ih => rw [List.replicate_succ, List.flatten_cons, List.length_append, ih, Nat.succ_mul, Nat.add_comm]
theorem op_rep : OpR X (binaryOp .Mult) rRep := by
  intro pins s σ H x y v u Q I rx ry h
  obtain ⟨l, k, xs, rfl, rfl, hH, h1, h2, hz, q⟩ := h
  cases rx
  obtain ⟨t, rfl⟩ := ry
  obtain ⟨z, its, n, r, hl, e⟩ := I.lstM hH
  have hlen : its.toArray.size * k.toNat ≤ sizeLine := by rw [List.size_toArray, ← hl]; exact hz
  have hcap : ¬ its.toArray.size * k.toNat > (2 ^ 63 - 1) / 8 := by
    have : (sizeLine : Nat) ≤ (2 ^ 63 - 1) / 8 := by decide
    omega
  have hfit : ¬ (!Builtin.List.listFitsIndex k) = true := by
    rw [fitsIndex_both h1 h2]
    exact Bool.false_ne_true
  have hlong : ¬ Builtin.List.listTooLong (its.toArray.size * k.toNat) = true := by
    rw [notLongL hlen]
    exact Bool.false_ne_true
  have hnew : List.foldl (fun x1 x2 => x1 ++ x2) #[] (List.replicate (if its.toArray.isEmpty = true then 0 else k.toNat) its.toArray) = (List.replicate k.toNat its).flatten.toArray := by
    have f0 : ∀ m : Nat, List.foldl (fun x1 x2 => x1 ++ x2) #[] (List.replicate m its.toArray) = (List.replicate m its).flatten.toArray := fun m => by
      have := foldl_rep its m []
      rw [List.nil_append] at this
      exact this
    rw [f0]
    cases its with
    | nil => simp
    | cons a r' => rw [if_neg (by simp)]
  refine wpAny_binaryOp_repeat_ref (T := "list") (U := "int") (by decide) ⟨_, e, rfl⟩ (fun s' => typeIs_int s' k t) noFill_list_mul F.fills_int_mul F.slot_int_rmul repeat_list F.slot_int_index.lookup
    (call_meets F.slot_int_rmul (typeIs_int s k t) F.entry_int_rmul (F.args_int_rmul_2 _ _) (int___rmul___int_list k t l its.toArray n)
      ⟨e, rfl, ⟨_, e, rfl⟩, call_meets F.slot_list_mul ⟨_, e, rfl⟩ F.entry_list_mul (F.args_list_mul_2 _ _) (AutoListH.list___mul___list_int_3 l its.toArray n k t hfit hcap hlong) ⟨e, ?_⟩⟩)
  rw [hnew]
  exact ⟨.ref _, _, I.lnew (t' := s.toks) (r.rep k.toNat) (by rw [len_rep, Nat.mul_comm]; exact hz), rfl, q _ I.fresh⟩

/-! ### del xs[i] -/
theorem del_list {pins : List (Addr × Obj)} {s : Shared} {σ : St} {H : Hp} {l : Addr} {xs : List V} {i : Int} {t : Tok} {k : Nat} {Q : Unit → Shared → Prop} (I : Inv X pins σ H s) (hH : H l = some (.lst xs))
    (h1 : -(2 ^ 63) ≤ i) (h2 : i < 2 ^ 63) (hk : seqIndex? i xs.length = some k) (h : ∀ s', Inv X pins σ (upd H l (.lst (xs.eraseIdx k))) s' → Q () s') :
    wpAny (model X.prog X.w) X.A (delItem (.ref l) (.int i t)) Q X.xe s := by
  obtain ⟨z, its, n, r, hl, e⟩ := I.lstM hH
  refine PySem.P.delItem_list (k := k) e (fitsIndex_both h1 h2) (by rw [List.size_toArray, ← hl]; exact hk) (h _ ?_) (by rw [List.size_toArray]; omega)
  refine I.lset (its' := its.eraseIdx k) (t' := s.toks) hH e ?_ (r.eraseIdx k) ?_
  · show its.toArray.eraseIdxIfInBounds k = (its.eraseIdx k).toArray
    rw [List.eraseIdxIfInBounds_toArray]
  · have := len_erase xs k
    omega
end

/-! ### xs[a:b] = ys -/
section
variable {prog : Program} {w : World} {A : Around} {E : Value → Shared → Prop} {s : Shared}
theorem splice_eq (its its2 : List Value) (a c : Nat) : its.toArray.extract 0 a ++ its2.toArray ++ its.toArray.extract c its.toArray.size = (its.take a ++ its2 ++ its.drop c).toArray := by
  apply Array.toList_inj.mp
  first
    | (simp
       exact List.take_of_length_le (by simp))
    | simp [List.take_of_length_le]
    | simp
theorem bounds_run {a c n : Nat} (hac : a ≤ c) (hc : c ≤ n) : sliceBounds (some (a : Int)) (some (c : Int)) none n = ((a : Int), (c : Int), 1) := by
  simp only [sliceBounds, Option.getD_none]
  have h1 : ¬ ((a : Int) < 0) := by omega
  have h2 : ¬ ((c : Int) < 0) := by omega
  simp only [h1, h2, if_false, show (1 : Int) > 0 by decide, if_true]
  congr 1
  · omega
  · congr 1; omega
set_option maxRecDepth 100000 in
/-- list.__setitem__ with a slice of step one and another list -/
theorem setItem_slice {l b sl : Addr} {items new : Array Value} {n n2 : Nat} {vl vu : Value} {a c : Nat} {Q : Unit → Shared → Prop}
    (e : s.heap.get? l = some { cls := .type "list", data := .seq items n }) (e2 : s.heap.get? b = some { cls := .type "list", data := .seq new n2 }) (hne : l ≠ b)
    (hs : s.heap.IsSliceOf sl vl vu .none) (pl : IsPart vl (some (a : Int))) (pu : IsPart vu (some (c : Int))) (hac : a ≤ c) (hc : c ≤ items.size)
    (hsz : items.size + new.size ≤ sizeLine) (h : Q () { s with heap := s.heap.update l (Obj.mapSeq fun xs => xs.extract 0 a ++ new ++ xs.extract c xs.size) }) :
    wpAny (model prog w) A (setItem (.ref l) (.ref sl) (.ref b)) Q E s := by
  have hl : s.heap.IsList l items := PySem.IsL.isList e
  have hb : s.heap.IsList b new := PySem.IsL.isList e2
  obtain ⟨os, hos, hcs, hds⟩ := id hs
  have hTs : s.TypeIs (.ref sl) "slice" := ⟨os, hos, hcs⟩
  have hstep : ¬ ((rawPart none == rawInt 0) = true) := Bool.false_ne_true
  have hsame : Builtin.List.listSameRef (.ref l) (.ref b) = false := by
    unfold Builtin.List.listSameRef
    exact beq_eq_false_iff_ne.mpr hne
  have hmax : (max (a : Int) (c : Int)).toNat = c := by omega
  have hz' : ((fun xs : Array Value => xs.extract 0 a ++ new ++ xs.extract c xs.size) items).size ≤ sizeLine + 1 := by
    simp only [Array.size_append, Array.size_extract]
    omega
  unfold setItem
  try with_reducible refine wpAny_holding ?_
  first | refine wpAny_bind (wpAny_pure ?_) | skip
  refine wpAny_bind (wpAny_sequenceKey hl.typeIs (by decide) ?_)
  refine wpAny_bind (wpAny_callSpecial?_slot (name := Str.ofString "__setitem__") hl.typeIs slot_list_setitem
    (wpAny_call_entry slot_list_setitem hl.typeIs entry_list_setitem ?_ (args_list_setitem _ _ _)))
  show wpAny _ _ (Builtin.List.listSubscript? (.ref sl) >>= _) _ _ s
  refine wpAny_bind ?_
  unfold Builtin.List.listSubscript?
  refine wpAny_bind (wpAny_specialOf hTs slice_no_index ?_)
  simp only [Option.isNone_none, if_true]
  refine wpAny_pure ?_
  show wpAny _ _ (typeOf (.ref sl) >>= _) _ _ s
  refine wpAny_bind (wpAny_typeOf hTs ?_)
  first
    | rw [if_neg (by decide)]
    | refine PySem.W.KFB.if_not (by decide) ?_
  rw [listSliceParts_eq]
  refine wpAny_bind (wpAny_bind (wpAny_field hos hds (x := .none) rfl (wpAny_bind (wpAny_listPart .none ?_))))
  rw [if_neg hstep]
  refine wpAny_bind (wpAny_field hos hds (x := vl) rfl (wpAny_bind (wpAny_listPart pl ?_)))
  refine wpAny_bind (wpAny_field hos hds (x := vu) rfl (wpAny_bind (wpAny_listPart pu (wpAny_pure ?_))))
  first
    | simp only [hsame, Bool.false_eq_true, if_false]
    | refine PySem.W.KFB.if_not hsame ?_
    | (dsimp only
       rw [if_neg (by rw [hsame]; exact Bool.false_ne_true)])
  refine wpAny_bind (m := Builtin.List.listAllItems (.ref b) "must assign iterable to extended slice") ?_
  unfold Builtin.List.listAllItems
  refine wpAny_bind (wpAny_typeOf hb.typeIs ?_)
  first
    | refine PySem.W.KFB.if_so (by decide) ?_
    | rw [if_pos (by decide)]
    | simp only [beq_self_eq_true, Bool.true_or, if_true]
  unfold Builtin.List.listItems
  refine wpAny_bind (wpAny_seqItems e2 rfl (wpAny_pure ?_))
  refine wpAny_bind (wpAny_bind (wpAny_seqItems e rfl (wpAny_pure ?_)))
  refine wpAny_bind (wpAny_of_eq ((sliceIndices_raw (some (a : Int)) (some (c : Int)) none items.size (by simp)).trans (congrArg (pure : Int × Int × Int → Sem (Int × Int × Int)) (bounds_run hac hc))) ?_)
  show wpAny _ _ (if ((1 : Int) == 1) = true then _ else _) _ _ s
  rw [if_pos (by decide)]
  refine wpAny_bind (wpAny_rule ?_)
  first
    | simp only [notLongL hsz, Bool.false_eq_true, if_false]
    | refine PySem.W.KFB.if_not (notLongL hsz) ?_
  first | refine wpAny_bind (wpAny_pure ?_) | skip
  show wpAny _ _ (updateSeq l (fun xs => xs.extract 0 ((a : Int)).toNat ++ new ++ xs.extract (max (a : Int) (c : Int)).toNat xs.size) >>= _) _ _ s
  rw [hmax, Int.toNat_natCast]
  refine wpAny_bind (wpAny_updateSeq (hz := Nat.le_trans (Nat.le_add_right _ _) hsz) (_hz' := hz') e rfl ?_)
  refine wpAny_bind (wpAny_letGo ?_)
  first
    | exact wpAny_bind (wpAny_pure (wpAny_pure ⟨.none, rfl, wpAny_pure h⟩))
    | exact wpAny_pure ⟨.none, rfl, wpAny_pure h⟩
end

section
variable {X : Cx}
/-- xs[a:c] = ys of another list, at the value level: sl is the slice object that was just made -/
theorem set_slice {pins : List (Addr × Obj)} {s : Shared} {σ : St} {H : Hp} {l b sl : Addr} {xs ys : List V} {a c : Int} {vl vu : Value} {Q : Unit → Shared → Prop} (I : Inv X pins σ H s)
    (hH : H l = some (.lst xs)) (hB : H b = some (.lst ys)) (hne : l ≠ b) (hs : s.heap.IsSliceOf sl vl vu .none) (ra : RelV (.int a) vl) (rc : RelV (.int c) vu) (h0 : 0 ≤ a) (hac : a ≤ c) (hc : c ≤ xs.length)
    (hz : xs.length + ys.length ≤ sizeLine) (h : ∀ s', Inv X pins σ (upd H l (.lst (xs.take a.toNat ++ ys ++ xs.drop c.toNat))) s' → Q () s') :
    wpAny (model X.prog X.w) X.A (setItem (.ref l) (.ref sl) (.ref b)) Q X.xe s := by
  obtain ⟨ta, rfl⟩ := ra
  obtain ⟨tc, rfl⟩ := rc
  obtain ⟨z, its, n, r, hl, e⟩ := I.lstM hH
  obtain ⟨z2, its2, n2, r2, hl2, e2⟩ := I.lstM hB
  obtain ⟨a', rfl⟩ := Int.eq_ofNat_of_zero_le h0
  obtain ⟨c', rfl⟩ := Int.eq_ofNat_of_zero_le (Int.le_trans h0 hac)
  simp only [Int.toNat_natCast] at h
  refine setItem_slice (a := a') (c := c') e e2 hne hs (.int _ _) (.int _ _) (by omega) (by rw [List.size_toArray]; omega) (by rw [List.size_toArray, List.size_toArray]; omega) (h _ ?_)
  refine I.lset (its' := its.take a' ++ its2 ++ its.drop c') (t' := s.toks) hH e ?_ (Vals.append (Vals.append (r.take _) r2) (r.drop _)) ?_
  · exact splice_eq its its2 a' c'
  · rw [List.length_append, List.length_append, List.length_take, List.length_drop]
    omega
end
end L2

namespace Att
open PySem PySem.W PySem.Calls PyProof.Rows

/-! ### the script -/
theorem ints_of_wellAll {P : Params} {h : Heap} : ∀ (ns : List Int) (vs : List Value), WellAll P h vs (ns.map WData.int) → IntsAre vs ns := by
  intro ns
  induction ns with
  | nil =>
    intro vs w
    rw [List.map_nil] at w
    cases w
    exact .nil
  | cons n ns ih =>
    intro vs w
    rw [List.map_cons] at w
    cases w with
    | cons a b =>
      cases a
      exact .cons _ _ (ih _ b)

theorem script_of {l : OpenLaw} {n : Nat} (hn : l.most = some n) {P : Params} {h : Heap} {args : List WData} {vals : List Value}
    (hpre : l.row.toRowW.claim.pre args = true) (hwl : WellAll P h vals args) :
    ∃ a vs ns, vals = [Value.ref a] ∧ args = [WData.list (ns.map WData.int)] ∧ h.get? a = some { cls := .type "list", data := .seq vs.toArray } ∧ IntsAre vs ns ∧ ns.length ≤ n := by
  have hsh : WShape.hasAll [] args [.list .int] = true := (pre_splitW hpre).1
  have hc : l.pre.holds [] { args := args } = true := (pre_splitW hpre).2
  obtain ⟨d, r, rfl, h1, h2⟩ := hasAllW_cons hsh
  obtain rfl := hasAllW_nil h2
  obtain ⟨xs, rfl, h3⟩ := hasW_list h1
  obtain ⟨ns, rfl⟩ := items_int h3
  have hlen : ns.length ≤ n := by
    unfold OpenLaw.pre at hc
    have h4 : (WTm.not (.lt (.lit (.int (n : Int))) (.len (.arg 0)))).holds [] { args := [.list (ns.map .int)] } = true := by
      have h4 := (holds_andW hc).1
      rw [hn] at h4
      exact h4
    have h5 := condW_of h4 (w_not (w_lt w_lit (w_len_list (w_arg rfl))))
    rw [List.length_map] at h5
    refine Nat.le_of_not_lt fun q => ?_
    have q' : (n : Int) < ((ns.length : Nat) : Int) := by omega
    first
      | (rw [decide_eq_true q'] at h5; exact absurd h5 (by decide))
      | (simp at h5; omega)
  cases hwl with
  | cons w1 w2 =>
    cases w2
    cases w1 with
    | list ho hall => exact ⟨_, _, ns, rfl, rfl, ho, ints_of_wellAll ns _ hall, hlen⟩

theorem post_true (l : OpenLaw) (args : List WData) : l.row.toRowW.claim.post args (.bool true) args = true :=
  postW_of (r := l.row.toRowW) (X := (true == true))
    (show WShape.has [] (.bool true) .bool = true by first | rfl | decide | simp [WShape.has, WShape.arms, WShape.armsAll])
    (show (WTm.eq .res (.lit (.bool true))).value [] { args := args, res := some (.bool true), after := args } = some (.bool (true == true)) from w_eq_bool (w_res rfl) w_lit) rfl

/-! ### the attachment: holds_open's last premise (the goal 'hc' behind k_head) from a wpAny of the law's body -/
theorem attach {l : OpenLaw} {n : Nat} {q : Program} {loose : List Str} {XP : (Str → Option Value) → Heap → Prop} {YP : World → Heap → Prop} {d : DefRec} {x : Str}
    (hn : l.most = some n) (hdf : d.params.defaults = [])
    (hbind : ∀ pm cd doc v : Value, bindArgs (docDef d.name d.params d.body d.scope pm cd doc) ⟨[v], []⟩ = pure [(x, v)])
    (hx : d.scope.names.lookup x = some .local ∨ d.scope.names.lookup x = some .cell)
    (hk : d.scope.kind = .function) (hco : d.scope.isCoroutine = false) (hgen : d.scope.isGenerator = false)
    (body : ∀ (w : World) (s₀ s₁ s : Shared) (mg mb : Str → Option Value) (fa : Addr) (o : Obj) (pm cd doc : Value) (a : Addr) (vs : List Value) (ns : List Int),
      Ground q loose [] XP w s₀ mg mb s₁.heap → YP w s₁.heap →
      s₁.heap.get? fa = some o → o.data = .func (docDef d.name d.params d.body d.scope pm cd doc) → s₁.heap.CodeRec cd d.name → mg d.name = some (.ref fa) →
      s₁.heap.get? a = some { cls := .type "list", data := .seq vs.toArray } → IntsAre vs ns → ns.length ≤ n →
      s.gens = #[] → s.os = s₁.os →
      Fr s₁.heap s₁.heap.objs.size s.heap (bindL (envOfC d.name d.scope s₁.heap.objs.size fa cd).kindOf [(x, .ref a)] fun _ => none) →
      Cl s₁.heap.objs.size (cellsFrom (s₁.heap.objs.size + 1) d.scope.names []) s.heap (bindC (envOfC d.name d.scope s₁.heap.objs.size fa cd).kindOf [(x, .ref a)] fun _ => none) →
      wpAny (model l.prog w) (callerA.deeper (envOfC d.name d.scope s₁.heap.objs.size fa cd)) (execs d.body (envOfC d.name d.scope s₁.heap.objs.size fa cd))
        (fun f s' => f = .ret (.bool true) ∧ OldK s₁.heap s'.heap ∧ s'.os = s₁.os ∧ AllBare s'.gens) (fun _ _ => False) s) :
    WalkO q loose XP YP l.row.toRowW d [] (fun f vs => PySem.call f vs) := by
  intro w s₀ s₁ mg mb G Y fa o pm cd doc dV kV ho hd hcd hD hmg hg args vals as hpre hlay hrd hwl hlo
  obtain rfl : dV = .none := Dflts.none hD hdf
  obtain rfl : kV = .none := Dflts.noKw hD
  obtain ⟨a, vs, ns, rfl, rfl, hobj, hints, hlen⟩ := script_of hn hpre hwl
  refine enter_call ?_
  refine call_cells_ret (o := o) (by rw [depth_caller]; decide) ho (fd_plain hd) G.T.nolimit hcd (hbind pm cd doc (.ref a)) (fun y hy => ?_) (fun h₁ tk F X => ?_) hco hgen hk
  · obtain rfl : y = (x, Value.ref a) := List.mem_singleton.mp hy
    rcases hx with e | e
    · exact .inl e
    · exact .inr ⟨e, cellsFrom_some _ _ _ (.inl e)⟩
  · refine wpAny_mono (body w s₀ s₁ { s₁ with heap := h₁, toks := tk } mg mb fa o pm cd doc a vs ns G Y ho (fd_plain hd) hcd hmg hobj hints hlen hg rfl F X) (fun f s' hq => ?_) (fun _ _ hq => hq)
    obtain ⟨rfl, h2, h3, h4⟩ := hq
    exact ⟨.inl ⟨.bool true, .bool true, [], rfl, fun _ => rfl, .bool true, post_true l _, fun _ => ⟨List.Pairwise.nil, fun _ hm => (nomatch hm)⟩⟩, h2, h3, h4⟩

/-- the same from a codeAny of the CALL (for a layer whose function contracts speak of calls) -/
theorem attach_call {l : OpenLaw} {n : Nat} {q : Program} {loose : List Str} {XP : (Str → Option Value) → Heap → Prop} {YP : World → Heap → Prop} {d : DefRec}
    (hn : l.most = some n) (hdf : d.params.defaults = [])
    (call : ∀ (w : World) (s₀ s₁ : Shared) (mg mb : Str → Option Value) (fa : Addr) (o : Obj) (pm cd doc : Value) (a : Addr) (vs : List Value) (ns : List Int),
      Ground q loose [] XP w s₀ mg mb s₁.heap → YP w s₁.heap →
      s₁.heap.get? fa = some o → o.data = .func (docDef d.name d.params d.body d.scope pm cd doc) → s₁.heap.CodeRec cd d.name → mg d.name = some (.ref fa) →
      s₁.heap.get? a = some { cls := .type "list", data := .seq vs.toArray } → IntsAre vs ns → ns.length ≤ n → s₁.gens = #[] →
      codeAny (model l.prog w) callerA (.call (.ref fa) ⟨[.ref a], []⟩) (fun r s' => r = .ok (.ret (.bool true)) ∧ OldK s₁.heap s'.heap ∧ s'.os = s₁.os ∧ AllBare s'.gens) s₁) :
    WalkO q loose XP YP l.row.toRowW d [] (fun f vs => PySem.call f vs) := by
  intro w s₀ s₁ mg mb G Y fa o pm cd doc dV kV ho hd hcd hD hmg hg args vals as hpre hlay hrd hwl hlo
  obtain rfl : dV = .none := Dflts.none hD hdf
  obtain rfl : kV = .none := Dflts.noKw hD
  obtain ⟨a, vs, ns, rfl, rfl, hobj, hints, hlen⟩ := script_of hn hpre hwl
  refine enter_call (codeAny_mono (call w s₀ s₁ mg mb fa o pm cd doc a vs ns G Y ho (fd_plain hd) hcd hmg hobj hints hlen hg) fun r s' hq => ?_)
  obtain ⟨rfl, h2, h3, h4⟩ := hq
  exact ⟨.inl ⟨.bool true, .bool true, [], rfl, fun _ => rfl, .bool true, post_true l _, fun _ => ⟨List.Pairwise.nil, fun _ hm => (nomatch hm)⟩⟩, h2, h3, h4⟩

/-- the same where the top left finished generators (o_head chose holds_openN): nothing may have changed at all and no generator may be left -/
theorem attachN {l : OpenLaw} {n : Nat} {q : Program} {loose : List Str} {XP : (Str → Option Value) → Heap → Prop} {YP : World → Heap → Prop} {d : DefRec} {x : Str}
    (hn : l.most = some n) (hdf : d.params.defaults = [])
    (hbind : ∀ pm cd doc v : Value, bindArgs (docDef d.name d.params d.body d.scope pm cd doc) ⟨[v], []⟩ = pure [(x, v)])
    (hx : d.scope.names.lookup x = some .local ∨ d.scope.names.lookup x = some .cell)
    (hk : d.scope.kind = .function) (hco : d.scope.isCoroutine = false) (hgen : d.scope.isGenerator = false)
    (body : ∀ (w : World) (s₀ s₁ s : Shared) (mg mb : Str → Option Value) (fa : Addr) (o : Obj) (pm cd doc : Value) (a : Addr) (vs : List Value) (ns : List Int),
      Ground q loose [] XP w s₀ mg mb s₁.heap → YP w s₁.heap →
      s₁.heap.get? fa = some o → o.data = .func (docDef d.name d.params d.body d.scope pm cd doc) → s₁.heap.CodeRec cd d.name → mg d.name = some (.ref fa) →
      s₁.heap.get? a = some { cls := .type "list", data := .seq vs.toArray } → IntsAre vs ns → ns.length ≤ n →
      s.gens = #[] → s.os = s₁.os →
      Fr s₁.heap s₁.heap.objs.size s.heap (bindL (envOfC d.name d.scope s₁.heap.objs.size fa cd).kindOf [(x, .ref a)] fun _ => none) →
      Cl s₁.heap.objs.size (cellsFrom (s₁.heap.objs.size + 1) d.scope.names []) s.heap (bindC (envOfC d.name d.scope s₁.heap.objs.size fa cd).kindOf [(x, .ref a)] fun _ => none) →
      wpAny (model l.prog w) (callerA.deeper (envOfC d.name d.scope s₁.heap.objs.size fa cd)) (execs d.body (envOfC d.name d.scope s₁.heap.objs.size fa cd))
        (fun f s' => f = .ret (.bool true) ∧ (∀ b o, s₁.heap.get? b = some o → s'.heap.get? b = some o) ∧ s'.os = s₁.os ∧ s'.gens = #[]) (fun _ _ => False) s) :
    WalkN q loose XP YP l.row.toRowW d [] (fun f vs => PySem.call f vs) := by
  intro w s₀ s₁ mg mb G Y fa o pm cd doc dV kV ho hd hcd hD hmg hg args vals as hpre hlay hrd hwl hlo
  obtain rfl : dV = .none := Dflts.none hD hdf
  obtain rfl : kV = .none := Dflts.noKw hD
  obtain ⟨a, vs, ns, rfl, rfl, hobj, hints, hlen⟩ := script_of hn hpre hwl
  refine enter_callW ?_
  refine call_cells_ret (o := o) (by rw [depth_caller]; decide) ho (fd_plain hd) G.T.nolimit hcd (hbind pm cd doc (.ref a)) (fun y hy => ?_) (fun h₁ tk F X => ?_) hco hgen hk
  · obtain rfl : y = (x, Value.ref a) := List.mem_singleton.mp hy
    rcases hx with e | e
    · exact .inl e
    · exact .inr ⟨e, cellsFrom_some _ _ _ (.inl e)⟩
  · refine wpAny_mono (body w s₀ s₁ { s₁ with heap := h₁, toks := tk } mg mb fa o pm cd doc a vs ns G Y ho (fd_plain hd) hcd hmg hobj hints hlen hg rfl F X) (fun f s' hq => ?_) (fun _ _ hq => hq)
    obtain ⟨rfl, h2, h3, h4⟩ := hq
    exact ⟨.inl ⟨.bool true, .bool true, [], rfl, fun _ => rfl, .bool true, post_true l _, fun _ => ⟨List.Pairwise.nil, fun _ hm => (nomatch hm)⟩⟩, h2, h3, h4⟩

/-! ### rules over ANY heap (no ledger) from facts about the written part K: the library's own take a ledger (News) for what they write -/
section
variable {prog : Program} {w : World} {A : Around} {E : Value → Shared → Prop} {s : Shared} {K : Frag}

/-- a def of the module, or a method (qual 'C.m'), entered: the frame is the next address; cells behind it -/
theorem call_fn {R : Result → Shared → Prop} {name qual : Str} {params : Arguments} {body : List Stmt} {scope : Scope} {dV kV doc pm cdv ct oc : Value} {an od : Option Addr} {osl : Array (Option Value)} {f : Addr} {args : Args} {binds : List (Str × Value)}
    (X : K.In s.heap) (hlim : s.heap.NoLimit) (ho : K.lookup f = some ⟨oc, od, .func (fnOf name qual params body scope dV kV doc pm an cdv ct), osl⟩) (hcd : codeIn K cdv qual = true) (hroom : A.depth < recursionLimit)
    (hbind : BindsTo s (fnOf name qual params body scope dV kV doc pm an cdv ct) args binds)
    (hkind : (binds.all fun y => scope.names.lookup y.1 == some .local || scope.names.lookup y.1 == some .cell) = true)
    (h : ∀ s₁, InCallC s s.heap.objs.size (bindL (envOfC qual scope s.heap.objs.size f cdv).kindOf binds fun _ => none) (cellsFrom (s.heap.objs.size + 1) scope.names [])
        (bindC (envOfC qual scope s.heap.objs.size f cdv).kindOf binds fun _ => none) s₁ →
      wpAny (model prog w) (A.deeper (envOfC qual scope s.heap.objs.size f cdv)) (execs body (envOfC qual scope s.heap.objs.size f cdv))
        (fun fl s' => R (.ok (.ret (match fl with | .ret v => v | _ => .none))) s')
        (fun e s' => wpAny (model prog w) (A.deeper (envOfC qual scope s.heap.objs.size f cdv)) (leaving (envOfC qual scope s.heap.objs.size f cdv) e) (fun _ s'' => R (.error e) s'') (fun e' s'' => R (.error e') s'') s') s₁)
    (hco : scope.isCoroutine = false) (hgen : scope.isGenerator = false) (hk : scope.kind = .function) : codeAny (model prog w) A (.call (.ref f) args) R s := by
  refine codeAny_call_function hroom (X _ _ ho) rfl hco hgen rfl (codeRec_of X hcd) (hbind _ _ _ _ ?_)
  refine wpAny_newFunctionEnv_cells hk (kindsX hkind _) fun env he s₁ x => ?_
  subst he
  exact ⟨hlim.keeps x.toInCall.keep, codeAny_func (h s₁ x)⟩

/-- C(..): dict at size, instance at size + 1, then __init__ -/
theorem make_obj {R : Result → Shared → Prop} {C fI : Addr} {rest : List Value} {kw : List (Str × Value)}
    (X : K.In s.heap) (hm : makesIn K C = true) (hi : findIn K (.ref C) "__init__" = some (some (.ref fI))) (hf : isFn K (.ref fI) = true)
    (h : codeAny (model prog w) (A.under (.builtin "type.__call__" ⟨.ref C :: rest, kw⟩)) (.call (.ref fI) ⟨.ref (s.heap.objs.size + 1) :: rest, kw⟩) (InitBack (s.heap.objs.size + 1) R)
      { s with heap := (s.heap.push emptyDict).push (instObj C s.heap.objs.size) }) : codeAny (model prog w) A (.call (.ref C) ⟨rest, kw⟩) R s := by
  obtain ⟨hh, g, d, t, os⟩ := s
  exact make_core (makes_of X hm) (looks_findIn X hi) (fun self => bind_fn X self (beq_iff_eq.mp hf)) (.inl rfl) h

/-- x.name where the instance's dict holds the name and the class does not -/
theorem get_field {x C : Addr} {ox : Obj} {es : List DictEntry} {n : Nat} {name : Str} {expr : Bool} {v : Value} {Q : Value → Shared → Prop}
    (X : K.In s.heap) (I : PySem.W.InstAt s.heap x ox C (some (dictOf es n))) (hg : plainGet K C name = true) (hh : hasDictIn K C = true) (ha : findIn K (.ref C) name = some none)
    (hl : getL name es = some (some v)) (hv : handedIn v = true) (h : Q v { s with toks := s.toks + 1 }) : wpAny (model prog w) A (getAttr (.ref x) name expr) Q E s :=
  get_value X I (plainGet_of hg).1 (findObj_own hh ha rfl hl) hv h

/-- x.m(..): the method found in the class -/
theorem get_method {x C f : Addr} {ox : Obj} {es : List DictEntry} {n : Nat} {name : Str} {pl : Sem Bool} {Q : Value × List Value → Shared → Prop}
    (X : K.In s.heap) (I : PySem.W.InstAt s.heap x ox C (some (dictOf es n))) (hg : plainGet K C name = true) (hf : findIn K (.ref C) name = some (some (.ref f))) (ht : isFn K (.ref f) = true)
    (hl : getL name es = some none) (h : Q (.ref f, [.ref x]) s) : wpAny (model prog w) A (getMethod (.ref x) name pl) Q E s :=
  method_fn X I (plainGet_of hg).1 (plainGet_of hg).2 hf (beq_iff_eq.mp ht) (by show (lookIn name (dictOf es n)).map _ = _; rw [lookIn_dict, hl]; rfl) h

/-! the whole heap as the ledger: makes every rule that writes through a ledger a rule over any heap -/
def noObjs (h : Heap) : Heap := { h with objs := #[] }
theorem noObjs_get (h : Heap) (b : Addr) : (noObjs h).get? b = none := by
  cases e : (noObjs h).get? b with
  | none => rfl
  | some o => exact absurd (Heap.lt_size e) (Nat.not_lt_zero _)
def ledger (h : Heap) (L d : Addr) : List (Addr × Obj) := (List.range h.objs.size).filterMap fun a => if a = L ∨ a = d then none else (h.get? a).map fun o => (a, o)
theorem mem_ledger {h : Heap} {L d a : Addr} {o : Obj} : (a, o) ∈ ledger h L d ↔ a ≠ L ∧ a ≠ d ∧ h.get? a = some o := by
  unfold ledger
  rw [List.mem_filterMap]
  constructor
  · rintro ⟨b, _, e⟩
    split at e
    · cases e
    · rename_i hb
      obtain ⟨o', ho, e'⟩ := Option.map_eq_some_iff.mp e
      cases e'
      exact ⟨fun q => hb (.inl q), fun q => hb (.inr q), ho⟩
  · rintro ⟨n1, n2, ho⟩
    refine ⟨a, List.mem_range.mpr (Heap.lt_size ho), ?_⟩
    rw [if_neg (show ¬ (a = L ∨ a = d) from fun q => q.elim n1 n2), ho] <;> rfl
theorem news_ledger {h : Heap} {L d : Addr} {od : Obj} (hne : d ≠ L) (ho : h.get? d = some od) : News (noObjs h) L h ([] ++ (d, od) :: ledger h L d) := by
  rintro ⟨a, o⟩ hp
  rcases List.mem_cons.mp hp with e | hp
  · cases e
    exact ⟨ho, hne, noObjs_get _ _⟩
  · obtain ⟨n1, n2, e⟩ := mem_ledger.mp hp
    exact ⟨e, n1, noObjs_get _ _⟩
theorem fr_all {h : Heap} {L : Addr} {m : Str → Option Value} (n : h.Ns L m) : Fr (noObjs h) L h m :=
  ⟨n, fun b o e => (by rw [noObjs_get] at e; cases e), Nat.zero_le _⟩
/-- Upd of the head entry (for append_K, setItem_K ..) -/
theorem upd_ledger {h : Heap} {L d : Addr} {o o' : Obj} : Upd d o o' ((d, o) :: ledger h L d) ((d, o') :: ledger h L d) :=
  .head fun ⟨_, _⟩ hp => (mem_ledger.mp hp).2.1

/-- x.name = v over any heap: L is any namespace of the heap (the frame's, say): its map stays, its object is not told; all else but the dict stays -/
theorem set_field {x C dx L : Addr} {ox : Obj} {m : Str → Option Value} {es es' : List DictEntry} {n n' : Nat} {name : Str} {v : Value} {Q : Unit → Shared → Prop}
    (X : K.In s.heap) (I : PySem.W.InstAt s.heap x ox C (some (dictOf es n))) (hd : ox.dict = some dx) (hL : s.heap.Ns L m) (hne : dx ≠ L)
    (hs : findIn K (.ref C) "__setattr__" = some (some (.builtin "object.__setattr__"))) (hp : plainOver K C = true) (ht : takerIn K C name = some none) (hh : hasDictIn K C = true) (hl : (getL name es).isSome = true)
    (e : (putL name (PyData.keyHash w.params name) (.str name (s.toks + 1)) v es, putN name es n) = (es', n')) (hz : es'.length ≤ 1000)
    (h : ∀ h' : Heap, h'.Ns L m → h'.get? dx = some (dictOf es' n') → (∀ b o, b ≠ dx → b ≠ L → s.heap.get? b = some o → h'.get? b = some o) → Q () { s with heap := h', toks := s.toks + 2 }) :
    wpAny (model prog w) A (setAttr (.ref x) name v) Q E s := by
  obtain ⟨e1, e2⟩ := Prod.mk.inj e
  have hdx : s.heap.get? dx = some (dictOf es n) := by
    have := I.dict
    rw [hd] at this
    exact this
  refine set_plain X I hs (osa_dict (s := { s with toks := s.toks + 1 }) (h₀ := noObjs s.heap) (L := L) (m := m) (od := dictOf es n) (od' := dictOf es' n') (es := es') (n := n') (pre := []) (post := ledger s.heap L dx)
    (fr_all hL) (news_ledger hne hdx) X I hd hp ht hh hl (fun _ q => nomatch q) (fun ⟨_, _⟩ q => (mem_ledger.mp q).2.1) (by rw [putName_dict, e1, e2]) rfl hz fun h' F' N' => ?_)
  exact h h' F'.ns (N'.get (List.Mem.head _)) fun b o n1 n2 ho => N'.get (List.Mem.tail _ (mem_ledger.mpr ⟨n2, n1, ho⟩))
end
end Att

namespace L2
open PySem PySem.Spec PyProof.Rows

theorem vals_ints : ∀ {vs : List Value} {ns : List Int}, IntsAre vs ns → Vals (ns.map V.int) vs
  | _, _, .nil => .nil
  | _, _, .cons n t h => .cons ⟨t, rfl⟩ (vals_ints h)

/-- nothing is tracked but the script, known to the object (or it is an object of the module) -/
def Only (H : Hp) : Prop := ∀ b, H b = none ∨ ∃ o xs, H b = some (.frz o (.lst xs))

/-- THE HEAD: the law's promise, at the heap behind the top. F, the promise of the law's def, may use that base is part of the heap (so K.In base, base.Ns mainGlobals mg stand in Mod) -/
theorem law_call {P : Program} {w : World} {K : PySem.W.Frag} {mg mb : Str → Option Value} {CX : CXT} {k : Nat} {fa a : Addr} {fd : FuncData} {x : Str} {sp : Sp} {s₁ : Shared} {vs : List Value} {ns : List Int}
    (KX : K.In s₁.heap) (hns : s₁.heap.Ns mainGlobals mg) (hb : s₁.heap.Ns builtinsNs mb) (hbb : ∀ x : Str, x ≠ "__name__" → mb x = bootBuiltins x) (hlim : s₁.heap.NoLimit) (hg : s₁.gens = #[])
    (ha : s₁.heap.get? a = some { cls := .type "list", data := .seq vs.toArray }) (hi : IntsAre vs ns) (hl : ns.length ≤ sizeLine) (hr : Room k callerA)
    (F : ∀ base : Heap, K.In base → base.Ns mainGlobals mg → FnOk P w K mg base CX k fa fd [x] sp) (hbind : ∀ (s : Shared) (u : Value), BindsTo s fd ⟨[u], []⟩ [(x, u)])
    (hsp : ∀ H : Hp, Only H → SqL K H a (ns.map V.int) → sp [.ref a] H (fun v _ => v = .bl true) fun _ _ _ => False)
    (hCX : ∀ H e s', CX [] H s₁ (fun _ _ _ => False) e s' → False) :
    codeAny (model P w) callerA (.call (.ref fa) ⟨[.ref a], []⟩) (fun r s' => r = .ok (.ret (.bool true)) ∧ OldK s₁.heap s'.heap ∧ s'.os = s₁.os ∧ AllBare s'.gens) s₁ := by
  have rv := vals_ints hi
  have lenV := hi.length
  -- from an abstract heap in which nothing but the script may be tracked
  have core : ∀ H : Hp, Only H → SqL K H a (ns.map V.int) → HOk P w H s₁.heap → (∀ b, H b ≠ none → b = a) → (H a ≠ none → K.lookup a = none) →
      codeAny (model P w) callerA (.call (.ref fa) ⟨[.ref a], []⟩) (fun r s' => r = .ok (.ret (.bool true)) ∧ OldK s₁.heap s'.heap ∧ s'.os = s₁.os ∧ AllBare s'.gens) s₁ := by
    intro H hO hS hok hA hK
    have base_of : ∀ {b : Addr} {o : Obj}, s₁.heap.get? b = some o → H b = none → (hidT s₁.heap H).get? b = some o := fun e n => hidT_get e n
    have noA : ∀ {b : Addr} {o : Obj} {es : Array DictEntry} {ep : Nat}, s₁.heap.get? b = some o → o.data = .dict es ep → H b = none := fun {b o es ep} e d => by
      cases q : H b with
      | none => rfl
      | some u =>
        have e' : b = a := hA b (by rw [q]; simp)
        subst e'
        rw [ha] at e; cases e
        have d' : Data.seq vs.toArray _ = Data.dict es ep := d
        cases d'
    have nsK : ∀ {b : Addr} {m : Str → Option Value}, s₁.heap.Ns b m → (hidT s₁.heap H).Ns b m := fun {b m} ⟨o, es, ep, e, d, r⟩ => ⟨o, es, ep, base_of e (noA e d), d, r⟩
    have hKb : K.In (hidT s₁.heap H) := fun b o e => base_of (KX b o e) (by
      cases q : H b with
      | none => rfl
      | some u =>
        have e' : b = a := hA b (by rw [q]; simp)
        subst e'
        rw [hK (by rw [q]; simp)] at e; cases e)
    have hM : Mod K mg (hidT s₁.heap H) := ⟨hKb, nsK hns, ⟨mb, nsK hb, hbb⟩, let ⟨mc, h1, h2⟩ := hlim; ⟨mc, nsK h1, h2⟩⟩
    have e0 : Env0 P w K mg (hidT s₁.heap H) callerA [] s₁ H := ⟨rfl, hM, fun b o e => of_hidT e, Nat.le_of_eq (hidT_size _ _), trivial, fun b hb => absurd (show b ∈ ([] : List Addr) from hb) (by simp), hok, .of_eq hg⟩
    refine codeAny_mono ((F _ hKb (nsK hns)).run callerA [] s₁ H ⟨[.ref a], []⟩ [.ref a] [.ref a] _ _ hr e0 (hbind s₁ (.ref a)) (.cons rfl .nil) (hsp H hO hS)) fun r s' h => ?_
    cases r with
    | error e => exact (hCX H e s' h).elim
    | ok fl =>
      cases fl with
      | next => exact False.elim h
      | brk => exact False.elim h
      | cont => exact False.elim h
      | ret u =>
        obtain ⟨v, H', os, bare, un, hok', r', q⟩ := h
        have q' : v = .bl true := q
        subst q'
        obtain rfl : u = Value.bool true := r'
        refine ⟨rfl, OldK.of_keep fun b o e => ?_, os, bare⟩
        cases q : H b with
        | none => exact un.keep b o e q (by intro z; exact absurd (show b ∈ ([] : List Addr) from z) (by simp)) (by simp)
        | some u =>
          rcases hO b with z | ⟨ob, xs, z⟩
          · rw [q] at z; cases z
          · have z2 := un.frzs b ob _ z
            obtain ⟨e1, _⟩ := hok b _ z
            obtain ⟨e2, _⟩ := hok' b _ z2
            rw [e] at e1; cases e1
            exact e2
  cases hk : K.lookup a with
  | some o =>
    -- the script is one of the module's own objects
    have e := KX a o hk
    rw [ha] at e
    cases e
    refine core (fun _ => none) (fun _ => .inl rfl) (.inr ⟨_, vs.toArray, _, hk, rfl, rfl, rfl, by rw [List.size_toArray, lenV]; exact hl, by simpa using rv⟩) (fun b u z => by have z' : (none : Option HO) = some u := z; cases z') (fun b z => absurd rfl z) fun z => absurd rfl z
  | none =>
    refine core (fun b => if b = a then some (.frz { cls := .type "list", data := .seq vs.toArray } (.lst (ns.map V.int))) else none) (fun b => ?_) (.inl (.inr ⟨{ cls := .type "list", data := .seq vs.toArray }, if_pos rfl⟩)) (fun b u z => ?_) (fun b z => ?_) fun _ => hk
    · by_cases hb : b = a
      · exact .inr ⟨_, _, if_pos hb⟩
      · exact .inl (if_neg hb)
    · by_cases hb : b = a
      · have z' := (if_pos hb).symm.trans z
        cases z'
        subst hb
        exact ⟨ha, by rw [List.length_map]; exact hl, vs, _, rv, ha⟩
      · have z' := (if_neg hb).symm.trans z
        cases z'
    · by_cases hb : b = a
      · exact hb
      · exact absurd (if_neg hb) z
end L2

namespace L2
open PySem PySem.Spec PyProof.Rows

abbrev KOf {K : PySem.W.Frag} {h : Heap} (_ : K.In h) : PySem.W.Frag := K

/-- the goal that k_head leaves (case hc), from the law's promise. F gives the function object fd (K's own) once, then the promise over every base -/
theorem walk_of {l : PySem.W.OpenLaw} {n k : Nat} {q : Program} {loose : List Str} {XP : (Str → Option Value) → Heap → Prop} {YP : World → Heap → Prop} {d : DefRec} {K : Params → PySem.W.Frag} {CX : World → CXT} {sp : World → Sp} {x : Str}
    (hn : l.most = some n) (hn2 : n ≤ sizeLine) (hdf : d.params.defaults = []) (hr : Room k callerA)
    (hY : ∀ (w : World) (h : Heap), YP w h → (K w.params).In h)
    (F : ∀ (w : World) (mg : Str → Option Value) (fa : Addr) (h : Heap), (K w.params).In h → h.Ns mainGlobals mg → mg d.name = some (.ref fa) →
      ∃ fd : FuncData, (∀ (s : Shared) (u : Value), BindsTo s fd ⟨[u], []⟩ [(x, u)]) ∧
        ∀ base : Heap, (K w.params).In base → base.Ns mainGlobals mg → FnOk l.prog w (K w.params) mg base (CX w) k fa fd [x] (sp w))
    (hsp : ∀ (w : World) (H : Hp) (a : Addr) (ns : List Int), ns.length ≤ n → Only H → SqL (K w.params) H a (ns.map V.int) → sp w [.ref a] H (fun v _ => v = .bl true) fun _ _ _ => False)
    (hCX : ∀ (w : World) (H : Hp) (s : Shared) (e : Value) (s' : Shared), CX w [] H s (fun _ _ _ => False) e s' → False) :
    PySem.W.WalkO q loose XP YP l.row.toRowW d [] (fun f vs => PySem.call f vs) := by
  refine Att.attach_call hn hdf fun w s₀ s₁ mg mb fa o pm cd doc a vs ns G Y ho hd hcd hmg hobj hints hlen hg => ?_
  have KX := hY w _ Y
  obtain ⟨fd, hb, hF⟩ := F w mg fa _ KX G.T.g hmg
  exact law_call KX G.T.g G.T.b G.T.builtins G.T.nolimit hg hobj hints (Nat.le_trans hlen hn2) hr hF hb (fun H hO hS => hsp w H a ns hlen hO hS) fun H e s' => hCX w H s₁ e s'
/-- the same where the promise hangs on the written part alone: (sp := My.sp_law), no hole under a binder -/
theorem walk_ofK {l : PySem.W.OpenLaw} {n k : Nat} {q : Program} {loose : List Str} {XP : (Str → Option Value) → Heap → Prop} {YP : World → Heap → Prop} {d : DefRec} {K : Params → PySem.W.Frag} {CX : CXT} {sp : PySem.W.Frag → Sp} {x : Str}
    (hn : l.most = some n) (hn2 : n ≤ sizeLine) (hdf : d.params.defaults = []) (hr : Room k callerA)
    (hY : ∀ (w : World) (h : Heap), YP w h → (K w.params).In h)
    (F : ∀ (w : World) (mg : Str → Option Value) (fa : Addr) (h : Heap), (K w.params).In h → h.Ns mainGlobals mg → mg d.name = some (.ref fa) →
      ∃ fd : FuncData, (∀ (s : Shared) (u : Value), BindsTo s fd ⟨[u], []⟩ [(x, u)]) ∧
        ∀ base : Heap, (K w.params).In base → base.Ns mainGlobals mg → FnOk l.prog w (K w.params) mg base CX k fa fd [x] (sp (K w.params)))
    (hsp : ∀ (K : PySem.W.Frag) (H : Hp) (a : Addr) (ns : List Int), ns.length ≤ n → Only H → SqL K H a (ns.map V.int) → sp K [.ref a] H (fun v _ => v = .bl true) fun _ _ _ => False)
    (hCX : ∀ (H : Hp) (s : Shared) (e : Value) (s' : Shared), CX [] H s (fun _ _ _ => False) e s' → False) :
    PySem.W.WalkO q loose XP YP l.row.toRowW d [] (fun f vs => PySem.call f vs) :=
  walk_of (K := K) (CX := fun _ => CX) (sp := fun w => sp (K w.params)) hn hn2 hdf hr hY F (fun w H a ns h1 h2 h3 => hsp (K w.params) H a ns h1 h2 h3) fun _ H s e s' => hCX H s e s'
end L2

/- THE LAST THEOREM (shape; LID, My.* are yours):
   My.Adr: a structure of the addresses that your layer names (classes, functions); My.Txt K t: a structure (Prop) of the equations over K;
   My.txt_mk : {K} {implicit addresses ..} (e1 : nsIn K mainGlobals "law" = some (some (.ref f))) (e2 : K.lookup f = some ⟨oc, od, .func (fnOf "law" "law" params body scope dV kV doc pm an cdv ct), sl⟩) (e3 : codeIn K cdv "law" = true) .. : ∃ t, My.Txt K t

set_option maxRecDepth 100000 in
set_option maxHeartbeats 0 in
theorem PySem.Challenge.cw_LID_holds : PySem.Challenge.rw_LID.Holds := by
  w_on; o_law; k_head; (case hw => w_witness2)
  k_fill
  refine L2.walk_of (l := PySem.Challenge.rw_LID) (n := 63) (k := 40) (x := "script") (CX := fun w => ..) (sp := fun _ => My.sp_law) rfl (by decide) rfl ⟨rfl, by decide, by decide⟩ (fun w h Y => PySem.W.kIn_of Y) ?F ?S ?C
  case F =>
    intro w mg fa h KX G hmg
    have T : ∃ t, My.Txt (L2.KOf KX) t := by
      dsimp only [L2.KOf]                          -- K must stand as «<heap const> w.params» for k_is
      refine' My.txt_mk ?e1 ?e2 ?e3 ..
      (case e1 => PySem.W.k_is)                    -- in the order: a name -> its address -> its object -> its parts
      (case e2 => PySem.W.k_is)
      ..
    obtain ⟨t, T⟩ := T
    have e0 := hmg.symm.trans (PySem.W.mg_of KX G T.law)
    cases e0                                       -- fa is the law's own address
    exact ⟨_, fun s u => .of_eq rfl, fun base kb nb => My.law_fn T kb nb⟩     -- if «.of_eq rfl» comes too early: refine' ⟨_, ?b, fun base kb nb => My.law_fn T kb nb⟩; exact fun s u => .of_eq rfl
  case S => exact fun w H a ns hl hO hS => ..
  case C => exact ..
(the tactic k_is has no namespace: write k_is) -/

/-! SHORT WORDS over the layer: a def of the text, its body, what a loop and a test want. -/
namespace L2
open PySem PySem.Spec PyProof.Rows

/-! ### the text by places -/
/-- the j-th statement of a class's body -/
def inClass (s : Stmt) (j : Nat) : Stmt := match s with
  | .ClassDef _ _ _ body _ _ _ _ _ _ _ => body.getD j (.Pass ⟨0, 0, 0, 0⟩)
  | _ => .Pass ⟨0, 0, 0, 0⟩
def defArgs (s : Stmt) : Arguments := match s with
  | .FunctionDef _ a _ _ _ _ _ _ _ _ => a
  | _ => { posonlyargs := [], args := [], vararg := none, kwonlyargs := [], kw_defaults := [], kwarg := none, defaults := [] }
def defBody (s : Stmt) : List Stmt := match s with
  | .FunctionDef _ _ b _ _ _ _ _ _ _ => b
  | _ => []
def defScope (s : Stmt) : Scope := match s with
  | .FunctionDef _ _ _ _ _ _ sc _ _ _ => sc
  | _ => { kind := .function, names := [], isGenerator := false, isCoroutine := false }

/-! ### no exception leaves a def -/
abbrev CX0 : CXT := fun _ _ _ _ _ _ => False
abbrev E0 : XK := fun _ _ _ => False
theorem pass0 {X : Cx} : Passes CX0 X E0 := fun _ _ _ _ _ _ _ h => h.elim

/-! ### a def (or method) of the text as it stands behind the top -/
structure Fun (K : PySem.W.Frag) (x qual : Str) (st : Stmt) (f : Addr) (fd : FuncData) : Prop where
  ex : ∃ (oc : Value) (od : Option Addr) (kV doc pm : Value) (an : Option Addr) (cdv ct : Value) (osl : Array (Option Value)),
    fd = PySem.W.fnOf x qual (defArgs st) (defBody st) (defScope st) .none kV doc pm an cdv ct ∧ K.lookup f = some ⟨oc, od, .func fd, osl⟩ ∧ PySem.W.codeIn K cdv qual = true
  kp : PySem.W.keepIn K (.ref f) = true
section
variable {P : Program} {w : World} {K : PySem.W.Frag} {mg : Str → Option Value} {base : Heap}
/-- THE RULE for a def: its body as a term of rules, and the reading of that term -/
theorem Fun.ok {x qual : Str} {st : Stmt} {f : Addr} {fd : FuncData} {N ps : List Str} {k : Nat} {sp : Sp} (F : Fun K x qual st f fd) (S : FnScope N ps (defScope st)) (len : ∀ vs H Q E, sp vs H Q E → vs.length = ps.length)
    (hbody : ∀ (cdv : Value) (A : Around) (outer : List Env) (s : Shared) (H : Hp) (vs : List V) (Q : VK) (E : XK), Room k (A.deeper (envOfC qual (defScope st) s.heap.objs.size f cdv)) → sp vs H Q E →
      ∃ t, PSs (cxOf CX0 P w K mg base N qual (defScope st) f cdv A outer s H E).nox (defBody st) t ∧ t { nx := fun _ H' => Q .non H', rt := Q } (start N vs) H) : FnOk P w K mg base CX0 (k + 1) f fd ps sp := by
  obtain ⟨oc, od, kV, doc, pm, an, cdv, ct, osl, rfl, lk, hcd⟩ := F.ex
  refine fn_of lk hcd S len fun A outer s H vs Q E hr hsp => ?_
  obtain ⟨t, h, q⟩ := hbody cdv A outer s H vs Q E hr hsp
  exact ⟨t, h.nox, q⟩
/-- how its arguments bind (no defaults): h is «fun _ _ _ _ _ _ us hl => match us, hl with | [_, _], _ => rfl», one _ a parameter -/
theorem Fun.binds {x qual : Str} {st : Stmt} {f : Addr} {fd : FuncData} {ps : List Str} (F : Fun K x qual st f fd)
    (h : ∀ (kV doc pm : Value) (an : Option Addr) (cdv ct : Value) (us : List Value), us.length = ps.length → bindArgs (PySem.W.fnOf x qual (defArgs st) (defBody st) (defScope st) .none kV doc pm an cdv ct) ⟨us, []⟩ = pure (ps.zip us)) : Binds K fd ps [] := by
  obtain ⟨oc, od, kV, doc, pm, an, cdv, ct, osl, rfl, lk, hcd⟩ := F.ex
  exact .all (h kV doc pm an cdv ct)
theorem fun_mk {x qual : Str} {st : Stmt} {f : Addr} {oc : Value} {od an : Option Addr} {osl : Array (Option Value)} {kV doc pm cdv ct : Value} (l : K.lookup f = some ⟨oc, od, .func (PySem.W.fnOf x qual (defArgs st) (defBody st) (defScope st) .none kV doc pm an cdv ct), osl⟩)
    (c : PySem.W.codeIn K cdv qual = true) (k : PySem.W.keepIn K (.ref f) = true) : Fun K x qual st f (PySem.W.fnOf x qual (defArgs st) (defBody st) (defScope st) .none kV doc pm an cdv ct) := ⟨⟨oc, od, kV, doc, pm, an, cdv, ct, osl, rfl, l, c⟩, k⟩
end
theorem hu_of {A : Around} {k : Nat} (hr : Room k A) : A.units + 1 < cLine := Nat.lt_of_le_of_lt (Nat.add_le_add_left (by decide : 1 ≤ 64) _) hr.units
theorem small1000 {n : Nat} (h : n ≤ 1000) : n < sizeLine := Nat.lt_of_le_of_lt h (by decide)

/-! ### expressions in short: the name that stands in the i-th slot -/
section
variable {X : Cx}
theorem pv (i : Nat) {x : Str} {pos : Pos} (hN : X.N[i]? = some x := by rfl) (hv : Vis X.env.scope x := by first | exact Or.inl rfl | exact Or.inr (Or.inl rfl) | exact Or.inr (Or.inr rfl)) (hd : (x == ("__debug__" : Str)) = false := by decide)
    (hcd : (x == ("__classdict__" : Str)) = false := by decide) : PE X (.Name x pos) (tVar i) := pe_var hN hv hd hcd
end

/-! ### tests -/
theorem iteF {A B : Prop} (h : B) : if false = true then A else B := by
  rw [if_neg Bool.false_ne_true]
  exact h
theorem iteT {A B : Prop} (h : A) : if true = true then A else B := by
  rw [if_pos rfl]
  exact h
theorem ite2 {c A B : Prop} [Decidable c] (h1 : c → A) (h2 : ¬ c → B) : if c then A else B := by
  by_cases h : c
  · rw [if_pos h]
    exact h1 h
  · rw [if_neg h]
    exact h2 h
theorem iteNS {c A B : Prop} [Decidable c] (hc : c) (h : B) : if (!decide c) = true then A else B := by
  rw [decide_eq_true hc]
  exact iteF h

/-! ### heaps -/
/-- all that was tracked is as it was -/
def Same (H H' : Hp) : Prop := ∀ b o, H b = some o → H' b = some o
theorem Same.refl (H : Hp) : Same H H := fun _ _ h => h
theorem Same.trans {H H1 H2 : Hp} (a : Same H H1) (b : Same H1 H2) : Same H H2 := fun c o h => b c o (a c o h)
theorem Same.free {H H' : Hp} (e : Same H H') {l : Addr} (h : H' l = Option.none) : H l = Option.none := by
  cases q : H l with
  | none => rfl
  | some o =>
    rw [e l o q] at h
    cases h
theorem Same.seq {K : PySem.W.Frag} {H H' : Hp} {a : Addr} {xs : List V} (e : Same H H') (h : SqL K H a xs) : SqL K H' a xs := by
  rcases h with (h | ⟨o, h⟩) | h
  · exact .inl (.inl (e _ _ h))
  · exact .inl (.inr ⟨o, e _ _ h⟩)
  · exact .inr h

end L2

set_option Elab.async false
set_option linter.all false
set_option maxRecDepth 100000
/-! Pure data over the hand layer: every expression is told by a function from the slots' data to data. -/
namespace L2
open PySem PySem.Spec PyProof.Rows

inductive D where
  | non | bl (b : Bool) | int (i : Int) | str (x : Str) | ty (n : String) | tup (xs : List D) | lst (xs : List D) | fro (xs : List D)

/-- a list that is never written -/
def SqF (K : PySem.W.Frag) (H : Hp) (a : Addr) (xs : List V) : Prop :=
  (∃ o, H a = some (.frz o (.lst xs))) ∨
    ∃ (o : Obj) (its : Array Value) (n : Nat), K.lookup a = some o ∧ o.cls = .type "list" ∧ o.dict = none ∧ o.data = .seq its n ∧ its.size ≤ sizeLine ∧ Vals xs its.toList
theorem SqF.sq {K : PySem.W.Frag} {H : Hp} {a : Addr} {xs : List V} (h : SqF K H a xs) : SqL K H a xs := by
  rcases h with h | h
  · exact .inl (.inr h)
  · exact .inr h

mutual
def Rep (K : PySem.W.Frag) (H : Hp) : D → V → Prop
  | .non, v => v = .non
  | .bl b, v => v = .bl b
  | .int i, v => v = .int i
  | .str x, v => v = .str x
  | .ty n, v => v = .ty n
  | .tup ds, v => ∃ a xs, v = .ref a ∧ H a = some (.tup xs) ∧ Reps K H ds xs
  | .lst ds, v => ∃ a xs, v = .ref a ∧ H a = some (.lst xs) ∧ Reps K H ds xs
  | .fro ds, v => ∃ a xs, v = .ref a ∧ SqF K H a xs ∧ Reps K H ds xs
def Reps (K : PySem.W.Frag) (H : Hp) : List D → List V → Prop
  | [], vs => vs = []
  | d :: ds, vs => ∃ v r, vs = v :: r ∧ Rep K H d v ∧ Reps K H ds r
end

section
variable {K : PySem.W.Frag} {H H' H1 H2 : Hp}
theorem SqF.mono {a : Addr} {xs : List V} (s : Same H H') (h : SqF K H a xs) : SqF K H' a xs := by
  rcases h with ⟨o, h⟩ | h
  · exact .inl ⟨o, s _ _ h⟩
  · exact .inr h
mutual
theorem Rep.mono (s : Same H H') : ∀ {d : D} {v : V}, Rep K H d v → Rep K H' d v
  | .non, _, h => by simpa only [Rep] using h
  | .bl _, _, h => by simpa only [Rep] using h
  | .int _, _, h => by simpa only [Rep] using h
  | .str _, _, h => by simpa only [Rep] using h
  | .ty _, _, h => by simpa only [Rep] using h
  | .tup ds, _, h => by
    simp only [Rep] at h ⊢
    obtain ⟨a, xs, e, q, r⟩ := h
    exact ⟨a, xs, e, s _ _ q, Reps.mono s r⟩
  | .lst ds, _, h => by
    simp only [Rep] at h ⊢
    obtain ⟨a, xs, e, q, r⟩ := h
    exact ⟨a, xs, e, s _ _ q, Reps.mono s r⟩
  | .fro ds, _, h => by
    simp only [Rep] at h ⊢
    obtain ⟨a, xs, e, q, r⟩ := h
    exact ⟨a, xs, e, q.mono s, Reps.mono s r⟩
theorem Reps.mono (s : Same H H') : ∀ {ds : List D} {vs : List V}, Reps K H ds vs → Reps K H' ds vs
  | [], _, h => by simpa only [Reps] using h
  | d :: ds, _, h => by
    simp only [Reps] at h ⊢
    obtain ⟨v, r, e, q, t⟩ := h
    exact ⟨v, r, e, Rep.mono s q, Reps.mono s t⟩
end

theorem rep_non : Rep K H .non .non := by simp only [Rep]
theorem rep_bl {b : Bool} : Rep K H (.bl b) (.bl b) := by simp only [Rep]
theorem rep_int {i : Int} : Rep K H (.int i) (.int i) := by simp only [Rep]
theorem rep_str {x : Str} : Rep K H (.str x) (.str x) := by simp only [Rep]
theorem rep_ty {n : String} : Rep K H (.ty n) (.ty n) := by simp only [Rep]
theorem Rep.ty_of {n : String} {v : V} (h : Rep K H (.ty n) v) : v = .ty n := by simpa only [Rep] using h
theorem rep_tup {a : Addr} {xs : List V} {ds : List D} (h : H a = some (.tup xs)) (r : Reps K H ds xs) : Rep K H (.tup ds) (.ref a) := by
  simp only [Rep]; exact ⟨a, xs, rfl, h, r⟩
theorem rep_lst {a : Addr} {xs : List V} {ds : List D} (h : H a = some (.lst xs)) (r : Reps K H ds xs) : Rep K H (.lst ds) (.ref a) := by
  simp only [Rep]; exact ⟨a, xs, rfl, h, r⟩
theorem rep_fro {a : Addr} {xs : List V} {ds : List D} (h : SqF K H a xs) (r : Reps K H ds xs) : Rep K H (.fro ds) (.ref a) := by
  simp only [Rep]; exact ⟨a, xs, rfl, h, r⟩
theorem Rep.int_of {i : Int} {v : V} (h : Rep K H (.int i) v) : v = .int i := by simpa only [Rep] using h
theorem Rep.bl_of {b : Bool} {v : V} (h : Rep K H (.bl b) v) : v = .bl b := by simpa only [Rep] using h
theorem Rep.non_of {v : V} (h : Rep K H .non v) : v = .non := by simpa only [Rep] using h
theorem Rep.str_of {x : Str} {v : V} (h : Rep K H (.str x) v) : v = .str x := by simpa only [Rep] using h
theorem Rep.tup_of {ds : List D} {v : V} (h : Rep K H (.tup ds) v) : ∃ a xs, v = .ref a ∧ H a = some (.tup xs) ∧ Reps K H ds xs := by simpa only [Rep] using h
theorem Rep.lst_of {ds : List D} {v : V} (h : Rep K H (.lst ds) v) : ∃ a xs, v = .ref a ∧ H a = some (.lst xs) ∧ Reps K H ds xs := by simpa only [Rep] using h
theorem Rep.fro_of {ds : List D} {v : V} (h : Rep K H (.fro ds) v) : ∃ a xs, v = .ref a ∧ SqF K H a xs ∧ Reps K H ds xs := by simpa only [Rep] using h

theorem reps_nil : Reps K H [] [] := by simp only [Reps]
theorem reps_cons {d : D} {ds : List D} {v : V} {vs : List V} (h : Rep K H d v) (t : Reps K H ds vs) : Reps K H (d :: ds) (v :: vs) := by
  simp only [Reps]; exact ⟨v, vs, rfl, h, t⟩
theorem Reps.nil_of {vs : List V} (h : Reps K H [] vs) : vs = [] := by simpa only [Reps] using h
theorem Reps.cons_of {d : D} {ds : List D} {vs : List V} (h : Reps K H (d :: ds) vs) : ∃ v r, vs = v :: r ∧ Rep K H d v ∧ Reps K H ds r := by simpa only [Reps] using h
theorem Reps.length : ∀ {ds : List D} {vs : List V}, Reps K H ds vs → vs.length = ds.length
  | [], _, h => by rw [h.nil_of]; rfl
  | d :: ds, _, h => by
    obtain ⟨v, r, rfl, _, t⟩ := h.cons_of
    simp only [List.length_cons, Reps.length t]
theorem Reps.append : ∀ {ds es : List D} {vs us : List V}, Reps K H ds vs → Reps K H es us → Reps K H (ds ++ es) (vs ++ us)
  | [], _, _, _, h, g => by rw [h.nil_of]; exact g
  | d :: ds, _, _, _, h, g => by
    obtain ⟨v, r, rfl, q, t⟩ := h.cons_of
    exact reps_cons q (Reps.append t g)
theorem Reps.take : ∀ {ds : List D} {vs : List V} (n : Nat), Reps K H ds vs → Reps K H (ds.take n) (vs.take n)
  | _, _, 0, _ => by rw [List.take_zero, List.take_zero]; exact reps_nil
  | [], _, n + 1, h => by rw [h.nil_of]; exact reps_nil
  | d :: ds, _, n + 1, h => by
    obtain ⟨v, r, rfl, q, t⟩ := h.cons_of
    exact reps_cons q (Reps.take n t)
theorem Reps.drop : ∀ {ds : List D} {vs : List V} (n : Nat), Reps K H ds vs → Reps K H (ds.drop n) (vs.drop n)
  | _, _, 0, h => h
  | [], _, n + 1, h => by rw [h.nil_of]; exact reps_nil
  | d :: ds, _, n + 1, h => by
    obtain ⟨v, r, rfl, q, t⟩ := h.cons_of
    exact Reps.drop n t
theorem Reps.get : ∀ {ds : List D} {vs : List V} {i : Nat} {d : D}, Reps K H ds vs → ds[i]? = some d → ∃ v, vs[i]? = some v ∧ Rep K H d v
  | [], _, _, _, _, e => by simp at e
  | d :: ds, _, 0, _, h, e => by
    obtain ⟨v, r, rfl, q, t⟩ := h.cons_of
    simp at e; subst e
    exact ⟨v, rfl, q⟩
  | d :: ds, _, i + 1, _, h, e => by
    obtain ⟨v, r, rfl, q, t⟩ := h.cons_of
    obtain ⟨u, h1, h2⟩ := Reps.get (i := i) t (by simpa using e)
    exact ⟨u, by simpa using h1, h2⟩
theorem Reps.get' : ∀ {ds : List D} {vs : List V} {i : Nat} {v : V}, Reps K H ds vs → vs[i]? = some v → ∃ d, ds[i]? = some d ∧ Rep K H d v
  | [], _, _, _, h, e => by rw [h.nil_of] at e; simp at e
  | d :: ds, _, 0, _, h, e => by
    obtain ⟨v, r, rfl, q, t⟩ := h.cons_of
    simp at e; subst e
    exact ⟨d, rfl, q⟩
  | d :: ds, _, i + 1, _, h, e => by
    obtain ⟨v, r, rfl, q, t⟩ := h.cons_of
    obtain ⟨u, h1, h2⟩ := Reps.get' (i := i) t (by simpa using e)
    exact ⟨u, by simpa using h1, h2⟩
theorem Reps.set {d : D} {v : V} (q : Rep K H d v) : ∀ {ds : List D} {vs : List V} (i : Nat), Reps K H ds vs → Reps K H (ds.set i d) (vs.set i v)
  | [], _, i, h => by rw [h.nil_of]; exact reps_nil
  | e :: ds, _, 0, h => by
    obtain ⟨u, r, rfl, _, t⟩ := h.cons_of
    exact reps_cons q t
  | e :: ds, _, i + 1, h => by
    obtain ⟨u, r, rfl, q', t⟩ := h.cons_of
    exact reps_cons q' (Reps.set q i t)
theorem reps_ints : ∀ (ns : List Int), Reps K H (ns.map D.int) (ns.map V.int)
  | [] => reps_nil
  | n :: ns => reps_cons rep_int (reps_ints ns)
end

/-! ### slots -/
abbrev DS := List (Option D)
def SRep (K : PySem.W.Frag) (H : Hp) (σ : St) (δ : DS) : Prop := σ.length = δ.length ∧ ∀ (i : Nat) (d : D), δ[i]? = some (some d) → ∃ v, σ[i]? = some (some v) ∧ Rep K H d v
theorem SRep.mono {K : PySem.W.Frag} {H H' : Hp} {σ : St} {δ : DS} (s : Same H H') (h : SRep K H σ δ) : SRep K H' σ δ :=
  ⟨h.1, fun i d e => let ⟨v, a, b⟩ := h.2 i d e; ⟨v, a, b.mono s⟩⟩
theorem SRep.set {K : PySem.W.Frag} {H : Hp} {σ : St} {δ : DS} {d : D} {v : V} (h : SRep K H σ δ) (q : Rep K H d v) (i : Nat) : SRep K H (σ.set i (some v)) (δ.set i (some d)) := by
  refine ⟨by rw [List.length_set, List.length_set]; exact h.1, fun j e hj => ?_⟩
  rw [List.getElem?_set] at hj ⊢
  by_cases hij : i = j
  · rw [if_pos hij] at hj ⊢
    subst hij
    by_cases hl : i < δ.length
    · rw [if_pos hl] at hj
      rw [if_pos (by rw [h.1]; exact hl)]
      cases hj
      exact ⟨v, rfl, q⟩
    · rw [if_neg hl] at hj; cases hj
  · rw [if_neg hij] at hj ⊢
    exact h.2 j e hj
theorem SRep.get {K : PySem.W.Frag} {H : Hp} {σ : St} {δ : DS} (h : SRep K H σ δ) {i : Nat} {d : D} (e : (δ[i]?).join = some d) : ∃ v, σ[i]? = some (some v) ∧ Rep K H d v := by
  refine h.2 i d ?_
  cases q : δ[i]? with
  | none => rw [q] at e; cases e
  | some o => rw [q] at e; exact congrArg some e

theorem same_new {H : Hp} {p : Addr} (h : H p = none) (o : HO) : Same H (upd H p o) := fun b u q => by rw [upd_ne (ne_of_none q h)]; exact q

/-! ### readings -/
def tD (K : PySem.W.Frag) (f : DS → Option D) : TE := fun σ H Q => ∃ δ d, SRep K H σ δ ∧ f δ = some d ∧ ∀ v H', Same H H' → Rep K H' d v → Q v H'
/-- a list just made -/
def tF (K : PySem.W.Frag) (f : DS → Option (List D)) : TE := fun σ H Q => ∃ δ ds, SRep K H σ δ ∧ f δ = some ds ∧ ∀ a xs H', H a = none → Same H H' → H' a = some (.lst xs) → Reps K H' ds xs → Q (.ref a) H'
def tT (K : PySem.W.Frag) (f : DS → Option Bool) : TT := fun σ H Q => ∃ δ b, SRep K H σ δ ∧ f δ = some b ∧ ∀ H', Same H H' → Q b H'
def tDA (K : PySem.W.Frag) (f : DS → Option (List D)) : TA := fun σ H Q => ∃ δ ds, SRep K H σ δ ∧ f δ = some ds ∧ ∀ vs H', Same H H' → Reps K H' ds vs → Q vs H'

theorem PE.imp {X : Cx} {e : Expr} {t t' : TE} (h : PE X e t) (i : ∀ σ H Q, t' σ H Q → t σ H Q) : PE X e t' := fun pins s σ H Q I q => h pins s σ H Q I (i σ H Q q)
theorem PT.imp {X : Cx} {e : Expr} {t t' : TT} (h : PT X e t) (i : ∀ σ H Q, t' σ H Q → t σ H Q) : PT X e t' := fun pins s σ H Q I q => h pins s σ H Q I (i σ H Q q)
theorem PW.imp {X : Cx} {e : Expr} {t t' : TT} (h : PW X e t) (i : ∀ σ H Q, t' σ H Q → t σ H Q) : PW X e t' := fun w pins s σ H Q I q => h w pins s σ H Q I (i σ H Q q)
theorem PA.imp {X : Cx} {e : List Expr} {t t' : TA} (h : PA X e t) (i : ∀ σ H Q, t' σ H Q → t σ H Q) : PA X e t' := fun p pins s σ H Q I q => h p pins s σ H Q I (i σ H Q q)
theorem PS.imp {X : Cx} {e : Stmt} {t t' : TS} (h : PS X e t) (i : ∀ E σ H, t' E σ H → t E σ H) : PS X e t' := fun pins s σ H E I q => h pins s σ H E I (i E σ H q)
theorem PSs.imp {X : Cx} {e : List Stmt} {t t' : TS} (h : PSs X e t) (i : ∀ E σ H, t' E σ H → t E σ H) : PSs X e t' := fun pins s σ H E I q => h pins s σ H E I (i E σ H q)

section
variable {X : Cx} {a b e : Expr} {es : List Expr} {pos p : Pos} {fa fb : DS → Option D}

theorem d_of_f {f : DS → Option (List D)} (h : PE X e (tF X.K f)) : PE X e (tD X.K fun δ => (f δ).map D.lst) := h.imp fun σ H Q ⟨δ, d, sr, ef, q⟩ => by
  try dsimp only at e
  try dsimp only at ef
  cases z : f δ with
  | none => rw [z] at ef; cases ef
  | some ds =>
    rw [z] at ef; cases ef
    exact ⟨δ, ds, sr, z, fun a xs H' _ s ha r => q _ H' s (rep_lst ha r)⟩

theorem d_var (i : Nat) {x : Str} (hN : X.N[i]? = some x := by rfl) (hv : Vis X.env.scope x := by first | exact Or.inl rfl | exact Or.inr (Or.inl rfl) | exact Or.inr (Or.inr rfl)) (hd : (x == ("__debug__" : Str)) = false := by decide)
    (hcd : (x == ("__classdict__" : Str)) = false := by decide) : PE X (.Name x pos) (tD X.K fun δ => (δ[i]?).join) := (pe_var hN hv hd hcd).imp fun σ H Q ⟨δ, d, sr, e, q⟩ => by
  obtain ⟨v, h1, h2⟩ := sr.get e
  exact ⟨v, h1, q v H (Same.refl H) h2⟩
theorem d_int {i : Int} {j : Nat} : PE X (.Constant (.int i) j pos) (tD X.K fun _ => some (.int i)) := pe_int.imp fun σ H Q ⟨δ, d, sr, e, q⟩ => by cases e; exact q _ H (Same.refl H) rep_int
theorem d_bl {b : Bool} {j : Nat} : PE X (.Constant (.bool b) j pos) (tD X.K fun _ => some (.bl b)) := pe_bl.imp fun σ H Q ⟨δ, d, sr, e, q⟩ => by cases e; exact q _ H (Same.refl H) rep_bl
theorem d_non {j : Nat} : PE X (.Constant .none j pos) (tD X.K fun _ => some .non) := pe_non.imp fun σ H Q ⟨δ, d, sr, e, q⟩ => by cases e; exact q _ H (Same.refl H) rep_non
theorem d_str {x : Str} {j : Nat} : PE X (.Constant (.str x) j pos) (tD X.K fun _ => some (.str x)) := pe_str.imp fun σ H Q ⟨δ, d, sr, e, q⟩ => by cases e; exact q _ H (Same.refl H) rep_str
/-- a module's whole number -/
theorem d_glob_int {x : Str} {i : Int} (hg : Gl X x) (hm : ∃ t : Tok, X.mg x = some (.int i t)) (hd : (x == ("__debug__" : Str)) = false := by decide) : PE X (.Name x pos) (tD X.K fun _ => some (.int i)) :=
  let ⟨t, hm⟩ := hm; (pe_glob (v := .int i) hg hm ⟨t, rfl⟩ hd).imp fun σ H Q ⟨δ, d, sr, e, q⟩ => by cases e; exact q _ H (Same.refl H) rep_int

/-! two expressions, by values -/
def bind2 (fa fb : DS → Option D) (g : D → D → Option D) : DS → Option D := fun δ => (fa δ).bind fun x => (fb δ).bind fun y => g x y
theorem bind2_some {fa fb : DS → Option D} {g : D → D → Option D} {δ : DS} {d : D} (h : bind2 fa fb g δ = some d) : ∃ x y, fa δ = some x ∧ fb δ = some y ∧ g x y = some d := by
  unfold bind2 at h
  try dsimp only at e
  try dsimp only at ef
  cases ex : fa δ with
  | none => rw [ex] at h; cases h
  | some x =>
    rw [ex] at h
    cases ey : fb δ with
    | none => rw [ey] at h; cases h
    | some y => rw [ey] at h; exact ⟨x, y, rfl, rfl, h⟩
/-- what a two-place rule needs to be told by g -/
def Told2 (K : PySem.W.Frag) (r : R2) (g : D → D → Option D) : Prop := ∀ (H : Hp) (x y d : D) (vx vy : V) (Q : VK), Rep K H x vx → Rep K H y vy → g x y = some d → (∀ v H', Same H H' → Rep K H' d v → Q v H') → r vx vy H Q
theorem told2_op {r : R2} {g : D → D → Option D} (hr : Told2 X.K r g) : ∀ σ H Q, tD X.K (bind2 fa fb g) σ H Q → tOp r (tD X.K fa) (tD X.K fb) σ H Q := fun σ H Q ⟨δ, d, sr, e, q⟩ => by
  obtain ⟨x, y, ex, ey, eg⟩ := bind2_some e
  exact ⟨δ, x, sr, ex, fun vx H1 s1 rx => ⟨δ, y, sr.mono s1, ey, fun vy H2 s2 ry => hr H2 x y d vx vy Q (rx.mono s2) ry eg fun v H' s3 rv => q v H' (s1.trans (s2.trans s3)) rv⟩⟩
theorem d_op {op : Operator} {r : R2} {g : D → D → Option D} (ho : OpR X (binaryOp op) r) (hr : Told2 X.K r g) (ha : PE X a (tD X.K fa)) (hb : PE X b (tD X.K fb)) : PE X (.BinOp a op b pos) (tD X.K (bind2 fa fb g)) :=
  (pe_op ho ha hb).imp (told2_op hr)
theorem d_cmp {op : CmpOp} {r : R2} {g : D → D → Option D} (ho : OpR X (compareOp op) r) (hr : Told2 X.K r g) (ha : PE X a (tD X.K fa)) (hb : PE X b (tD X.K fb)) (hm : behindInMarks op b = false) : PE X (.Compare a [op] [b] pos) (tD X.K (bind2 fa fb g)) :=
  (pe_cmpR ho ha hb hm).imp (told2_op hr)
def asB : Option D → Option Bool
  | some (.bl b) => some b
  | _ => none
theorem asB_some {o : Option D} {b : Bool} (h : asB o = some b) : o = some (.bl b) := by
  unfold asB at h
  split at h
  · cases h; rfl
  · cases h
theorem t_cmp {op : CmpOp} {r : R2} {g : D → D → Option D} (ho : OpR X (compareOp op) r) (hr : Told2 X.K r g) (ha : PE X a (tD X.K fa)) (hb : PE X b (tD X.K fb)) (hm : behindInMarks op b = false) : PT X (.Compare a [op] [b] pos) (tT X.K fun δ => asB (bind2 fa fb g δ)) :=
  (pt_cmpR ho ha hb hm).imp fun σ H Q ⟨δ, c, sr, e, q⟩ => told2_op hr σ H _ ⟨δ, .bl c, sr, asB_some e, fun v H' s rv => ⟨c, rv.bl_of, q H' s⟩⟩
theorem d_un {op : UnaryOp} {r : V → Hp → VK → Prop} {g : D → Option D} (ho : UnR X (unaryOp op) r) (hr : ∀ (H : Hp) (x d : D) (vx : V) (Q : VK), Rep X.K H x vx → g x = some d → (∀ v H', Same H H' → Rep X.K H' d v → Q v H') → r vx H Q)
    (ha : PE X a (tD X.K fa)) : PE X (.UnaryOp op a pos) (tD X.K fun δ => (fa δ).bind g) := (pe_un ho ha).imp fun σ H Q ⟨δ, d, sr, e, q⟩ => by
  try dsimp only at e
  try dsimp only at ef
  cases ex : fa δ with
  | none => rw [ex] at e; cases e
  | some x =>
    rw [ex] at e
    exact ⟨δ, x, sr, ex, fun vx H1 s1 rx => hr H1 x d vx Q rx e fun v H' s2 rv => q v H' (s1.trans s2) rv⟩

/-! arithmetic -/
def okI (i : Int) : Bool := decide (i.natAbs.log2 < 8000)
def okMul (i j : Int) : Bool := decide ((-(2 ^ 64) < i ∧ i < 2 ^ 64) ∨ (-(2 ^ 64) < j ∧ j < 2 ^ 64)) || (okI i && okI j)
theorem okI_bits {i : Int} (h : okI i = true) : Builtin.Int.intBits i ≤ 2 ^ 20 := by
  have h' : i.natAbs.log2 < 8000 := of_decide_eq_true h
  have e : (2 : Nat) ^ 20 = 1048576 := by decide
  unfold Builtin.Int.intBits
  split
  · exact Nat.zero_le _
  · omega
theorem okMul_ok {i j : Int} (h : okMul i j = true) : IntMulOk i j := by
  unfold okMul at h
  rcases Bool.or_eq_true_iff.mp h with h | h
  · exact CMul.ok (show (-(2 ^ 64) < i ∧ i < 2 ^ 64) ∨ (-(2 ^ 64) < j ∧ j < 2 ^ 64) from of_decide_eq_true h)
  · have h := Bool.and_eq_true_iff.mp h
    exact IntMulOk.of_bits (okI_bits h.1) (okI_bits h.2)
theorem op_mulR : OpR X (binaryOp .Mult) (rI (fun i j => okMul i j = true) fun i j => .int (i * j)) := opI fun _ _ _ _ _ _ _ hc q => mul_int q (okMul_ok hc)
def fit (n : Nat) : Bool := decide (n ≤ 1000)
theorem fit_le {n : Nat} (h : fit n = true) : n ≤ sizeLine := Nat.le_of_lt (small1000 (of_decide_eq_true h))
def addD : D → D → Option D
  | .int i, .int j => some (.int (i + j))
  | .tup xs, .tup ys => if fit (xs.length + ys.length) = true then some (.tup (xs ++ ys)) else none
  | .lst xs, .lst ys => if fit (xs.length + ys.length) = true then some (.lst (xs ++ ys)) else none
  | _, _ => none
def subD : D → D → Option D
  | .int i, .int j => some (.int (i - j))
  | _, _ => none
def mulD : D → D → Option D
  | .int i, .int j => if okMul i j = true then some (.int (i * j)) else none
  | .lst xs, .int k => if fit k.natAbs = true ∧ fit (xs.length * k.toNat) = true then some (.lst (List.replicate k.toNat xs).flatten) else none
  | _, _ => none
def modD : D → D → Option D
  | .int i, .int j => if j = 0 then none else some (.int (i.fmod j))
  | _, _ => none
def ltD : D → D → Option D
  | .int i, .int j => some (.bl (decide (i < j)))
  | _, _ => none
def leD : D → D → Option D
  | .int i, .int j => some (.bl (decide (i ≤ j)))
  | _, _ => none
def gtD : D → D → Option D
  | .int i, .int j => some (.bl (decide (j < i)))
  | _, _ => none
def geD : D → D → Option D
  | .int i, .int j => some (.bl (decide (j ≤ i)))
  | _, _ => none
def negD : D → Option D
  | .int i => some (.int (-i))
  | _ => none

theorem told_int2 {g : D → D → Option D} {k : Int → Int → V} {kd : Int → Int → D} (hg : ∀ x y d, g x y = some d → ∃ i j, x = .int i ∧ y = .int j ∧ d = kd i j) (hk : ∀ H i j, Rep X.K H (kd i j) (k i j)) : Told2 X.K (rI0 k) g := fun H x y d vx vy Q rx ry e q => by
  obtain ⟨i, j, rfl, rfl, rfl⟩ := hg x y d e
  exact ⟨i, j, rx.int_of, ry.int_of, q _ H (Same.refl H) (hk H i j)⟩
theorem int2_of {g : D → D → Option D} {kd : Int → Int → D} (h1 : ∀ i j, g (.int i) (.int j) = some (kd i j)) (h2 : ∀ x y, (¬ ∃ i j, x = .int i ∧ y = .int j) → g x y = none) (x y d : D) (e : g x y = some d) : ∃ i j, x = .int i ∧ y = .int j ∧ d = kd i j := by
  by_cases h : ∃ i j, x = .int i ∧ y = .int j
  · obtain ⟨i, j, rfl, rfl⟩ := h
    rw [h1] at e; cases e
    exact ⟨i, j, rfl, rfl, rfl⟩
  · rw [h2 x y h] at e; cases e
theorem d_sub (ha : PE X a (tD X.K fa)) (hb : PE X b (tD X.K fb)) : PE X (.BinOp a .Sub b pos) (tD X.K (bind2 fa fb subD)) :=
  d_op op_sub (told_int2 (kd := fun i j => .int (i - j)) (int2_of (fun _ _ => rfl) fun x y h => by unfold subD; split <;> first | rfl | exact absurd ⟨_, _, rfl, rfl⟩ h) fun _ _ _ => rep_int) ha hb
theorem d_lt (ha : PE X a (tD X.K fa)) (hb : PE X b (tD X.K fb)) : PE X (.Compare a [.Lt] [b] pos) (tD X.K (bind2 fa fb ltD)) :=
  d_cmp op_lt (told_int2 (kd := fun i j => .bl (decide (i < j))) (int2_of (fun _ _ => rfl) fun x y h => by unfold ltD; split <;> first | rfl | exact absurd ⟨_, _, rfl, rfl⟩ h) fun _ _ _ => rep_bl) ha hb (nomark _)
theorem d_le (ha : PE X a (tD X.K fa)) (hb : PE X b (tD X.K fb)) : PE X (.Compare a [.LtE] [b] pos) (tD X.K (bind2 fa fb leD)) :=
  d_cmp op_le (told_int2 (kd := fun i j => .bl (decide (i ≤ j))) (int2_of (fun _ _ => rfl) fun x y h => by unfold leD; split <;> first | rfl | exact absurd ⟨_, _, rfl, rfl⟩ h) fun _ _ _ => rep_bl) ha hb (nomark _)
theorem d_gt (ha : PE X a (tD X.K fa)) (hb : PE X b (tD X.K fb)) : PE X (.Compare a [.Gt] [b] pos) (tD X.K (bind2 fa fb gtD)) :=
  d_cmp op_gt (told_int2 (kd := fun i j => .bl (decide (j < i))) (int2_of (fun _ _ => rfl) fun x y h => by unfold gtD; split <;> first | rfl | exact absurd ⟨_, _, rfl, rfl⟩ h) fun _ _ _ => rep_bl) ha hb (nomark _)
theorem d_ge (ha : PE X a (tD X.K fa)) (hb : PE X b (tD X.K fb)) : PE X (.Compare a [.GtE] [b] pos) (tD X.K (bind2 fa fb geD)) :=
  d_cmp op_ge (told_int2 (kd := fun i j => .bl (decide (j ≤ i))) (int2_of (fun _ _ => rfl) fun x y h => by unfold geD; split <;> first | rfl | exact absurd ⟨_, _, rfl, rfl⟩ h) fun _ _ _ => rep_bl) ha hb (nomark _)
theorem t_lt (ha : PE X a (tD X.K fa)) (hb : PE X b (tD X.K fb)) : PT X (.Compare a [.Lt] [b] pos) (tT X.K fun δ => asB (bind2 fa fb ltD δ)) :=
  t_cmp op_lt (told_int2 (kd := fun i j => .bl (decide (i < j))) (int2_of (fun _ _ => rfl) fun x y h => by unfold ltD; split <;> first | rfl | exact absurd ⟨_, _, rfl, rfl⟩ h) fun _ _ _ => rep_bl) ha hb (nomark _)
theorem t_le (ha : PE X a (tD X.K fa)) (hb : PE X b (tD X.K fb)) : PT X (.Compare a [.LtE] [b] pos) (tT X.K fun δ => asB (bind2 fa fb leD δ)) :=
  t_cmp op_le (told_int2 (kd := fun i j => .bl (decide (i ≤ j))) (int2_of (fun _ _ => rfl) fun x y h => by unfold leD; split <;> first | rfl | exact absurd ⟨_, _, rfl, rfl⟩ h) fun _ _ _ => rep_bl) ha hb (nomark _)
theorem t_gt (ha : PE X a (tD X.K fa)) (hb : PE X b (tD X.K fb)) : PT X (.Compare a [.Gt] [b] pos) (tT X.K fun δ => asB (bind2 fa fb gtD δ)) :=
  t_cmp op_gt (told_int2 (kd := fun i j => .bl (decide (j < i))) (int2_of (fun _ _ => rfl) fun x y h => by unfold gtD; split <;> first | rfl | exact absurd ⟨_, _, rfl, rfl⟩ h) fun _ _ _ => rep_bl) ha hb (nomark _)
theorem t_ge (ha : PE X a (tD X.K fa)) (hb : PE X b (tD X.K fb)) : PT X (.Compare a [.GtE] [b] pos) (tT X.K fun δ => asB (bind2 fa fb geD δ)) :=
  t_cmp op_ge (told_int2 (kd := fun i j => .bl (decide (j ≤ i))) (int2_of (fun _ _ => rfl) fun x y h => by unfold geD; split <;> first | rfl | exact absurd ⟨_, _, rfl, rfl⟩ h) fun _ _ _ => rep_bl) ha hb (nomark _)
theorem d_neg (ha : PE X a (tD X.K fa)) : PE X (.UnaryOp .USub a pos) (tD X.K fun δ => (fa δ).bind negD) :=
  d_un un_neg (fun H x d vx Q rx e q => by
    unfold negD at e
    split at e
    · cases e; exact ⟨_, rx.int_of, q _ H (Same.refl H) rep_int⟩
    · cases e) ha
theorem d_mod (ha : PE X a (tD X.K fa)) (hb : PE X b (tD X.K fb)) : PE X (.BinOp a .Mod b pos) (tD X.K (bind2 fa fb modD)) :=
  d_op op_modN (fun H x y d vx vy Q rx ry e q => by
    unfold modD at e
    split at e
    · split at e
      · cases e
      · cases e; exact ⟨_, _, rx.int_of, ry.int_of, ‹_›, q _ H (Same.refl H) rep_int⟩
    · cases e) ha hb
/-- int * int, list * int -/
theorem d_mul (ha : PE X a (tD X.K fa)) (hb : PE X b (tD X.K fb)) : PE X (.BinOp a .Mult b pos) (tD X.K (bind2 fa fb mulD)) :=
  d_op (op_mulR.or op_rep) (fun H x y d vx vy Q rx ry e q => by
    unfold mulD at e
    split at e
    · split at e
      · cases e; exact .inl ⟨_, _, rx.int_of, ry.int_of, ‹_›, q _ H (Same.refl H) rep_int⟩
      · cases e
    · rename_i xs k
      split at e
      · rename_i hk
        cases e
        obtain ⟨l, vs, e1, e2, e3⟩ := rx.lst_of
        have hl := e3.length
        have hk1 : k.natAbs ≤ 1000 := of_decide_eq_true hk.1
        have rr : ∀ n, Reps X.K H (List.replicate n xs).flatten (List.replicate n vs).flatten := fun n => by
          induction n with
          | zero => exact reps_nil
          | succ n ih => rw [List.replicate_succ, List.replicate_succ, List.flatten_cons, List.flatten_cons]; exact e3.append ih
        exact .inr ⟨l, k, vs, e1, ry.int_of, e2, by omega, by omega, by rw [hl]; exact fit_le hk.2, fun p hp => q _ _ (same_new hp _) (rep_lst upd_same ((rr _).mono (same_new hp _)))⟩
      · cases e
    · cases e) ha hb
end
end L2

set_option Elab.async false
set_option linter.all false
set_option maxRecDepth 100000
namespace L2
open PySem PySem.Spec PyProof.Rows

section
variable {prog : Program} {w : World} {A : Around} {E : Value → Shared → Prop} {s : Shared}
/-- () + u is u -/
theorem cat_tup0 {t b : Addr} {vs ws : List Value} {Q : Value → Shared → Prop} (ht : IsTup s.heap t vs.toArray) (hb : IsTup s.heap b ws.toArray) (hv : vs = [])
    (h1 : Q (.ref b) s) : wpAny (model prog w) A (binaryOp .Add (.ref t) (.ref b)) Q E s := by
  obtain ⟨⟨cls, dd, data, sl⟩, ho, hc, n, hd⟩ := id ht
  obtain ⟨⟨cls2, dd2, data2, sl2⟩, ho2, hc2, n2, hd2⟩ := id hb
  simp only at hc hd hc2 hd2
  subst hc hd hc2 hd2
  exact concat_meets ⟨_, ho, rfl⟩ ⟨_, ho2, rfl⟩ noFill_tuple_add seq_tuple_add PySem.F.slot_tuple_add PySem.F.entry_tuple_add (PySem.F.args_tuple_add_2 _ _)
      (tuple_addW0 t b vs.toArray ws.toArray n n2 dd dd2 sl sl2 (by simp [hv])) ⟨ho, ho2, h1⟩
/-- t[:] is t -/
theorem getItem_tuple_whole {t sl : Addr} {items : Array Value} {vl vu : Value} {lo hi : Option Int} {Q : Value → Shared → Prop} (ht : IsTup s.heap t items) (hs : s.heap.IsSliceOf sl vl vu .none) (pl : IsPart vl lo) (pu : IsPart vu hi)
    (hw : HT.sIx items.size 0 lo = 0 ∧ HT.sIx items.size items.size hi = items.size) (h : Q (.ref t) s) : wpAny (model prog w) A (getItem (.ref t) (.ref sl)) Q E s := by
  obtain ⟨os, hos, hcs, hds⟩ := id hs
  have hTs : s.TypeIs (.ref sl) "slice" := ⟨os, hos, hcs⟩
  unfold getItem
  try with_reducible refine wpAny_holding ?_
  first | refine wpAny_bind (wpAny_pure ?_) | skip
  refine wpAny_bind (wpAny_sequenceKey ht.typeIs (by decide) ?_)
  refine wpAny_bind (wpAny_callSpecial?_slot (name := Str.ofString "__getitem__") ht.typeIs PyProof.Rows.slot_tuple_getitem
    (wpAny_call_entry PyProof.Rows.slot_tuple_getitem ht.typeIs entry_tuple_getitem ?_ (args_tuple_getitem _ _)))
  show wpAny _ _ (Builtin.Tuple.tupleItemsOf (.ref t) >>= _) _ _ s
  refine wpAny_bind (tupleItemsOf_ ht ?_)
  refine wpAny_bind (wpAny_typeOf hTs ?_)
  rw [if_pos (by decide)]
  refine wpAny_bind (HT.sliceApplied_gen hs pl pu ?_)
  have hyes : (((HT.sIx items.size 0 lo : Nat) : Int) == 0 && (1 : Int) == 1 && (HT.sIx items.size items.size hi - HT.sIx items.size 0 lo) == items.size) = true := by
    rw [hw.1, hw.2]; simp
  show wpAny _ _ (if (((HT.sIx items.size 0 lo : Nat) : Int) == 0 && (1 : Int) == 1 && (HT.sIx items.size items.size hi - HT.sIx items.size 0 lo) == items.size) = true then _ else _) _ _ s
  rw [if_pos hyes]
  refine wpAny_bind ?_
  unfold Builtin.Tuple.tupleIsExact
  refine wpAny_bind (wpAny_typeOf ht.typeIs (wpAny_pure ?_))
  rw [if_pos (by decide)]
  exact wpAny_bind (wpAny_rule (wpAny_bind (wpAny_pure (wpAny_pure ⟨_, rfl, wpAny_pure h⟩))))
end

section
variable {X : Cx}
def rCatT0 : R2 := fun x y H Q => ∃ a b xs ys, x = .ref a ∧ y = .ref b ∧ H a = some (.tup xs) ∧ H b = some (.tup ys) ∧ xs = [] ∧ Q (.ref b) H
theorem op_catT0 : OpR X (binaryOp .Add) rCatT0 := by
  intro pins s σ H x y v u Q I rx ry h
  obtain ⟨a, b, xs, ys, rfl, rfl, ha, hb, hx, q⟩ := h
  cases rx
  cases ry
  obtain ⟨its, r1, p1, _⟩ := I.tuple (SqT.of ha)
  obtain ⟨its2, r2, p2, _⟩ := I.tuple (SqT.of hb)
  exact cat_tup0 p1 p2 (r1.nil_iff.mpr hx) ⟨.ref b, H, I, rfl, q⟩
def rSlT0 : V → Option Int → Option Int → Hp → VK → Prop := fun x lo hi H Q => ∃ a xs, x = .ref a ∧ H a = some (.tup xs) ∧
  (HT.sIx xs.length 0 lo = 0 ∧ HT.sIx xs.length xs.length hi = xs.length) ∧ Q (.ref a) H
theorem sl_tup0 : SlR X rSlT0 := by
  intro pins s σ H x v vl vu lo hi sl Q I rx hs pl pu h
  obtain ⟨a, xs, rfl, hx, hw, q⟩ := h
  cases rx
  obtain ⟨its, r, ht, hz⟩ := I.tuple (SqT.of hx)
  have hlen : its.toArray.size = xs.length := by rw [List.size_toArray]; exact r.length.symm
  exact ⟨"tuple", _, PyProof.Rows.slot_tuple_getitem.lookup, ht.typeIs, getItem_tuple_whole ht hs pl pu (by rw [hlen]; exact hw) ⟨.ref a, H, I, rfl, q⟩⟩

variable {a b e : Expr} {es : List Expr} {pos p : Pos} {fa fb : DS → Option D}
theorem d_add (ha : PE X a (tD X.K fa)) (hb : PE X b (tD X.K fb)) : PE X (.BinOp a .Add b pos) (tD X.K (bind2 fa fb addD)) :=
  d_op (op_add.or (op_catT0.or (op_catT.or op_cat))) (fun H x y d vx vy Q rx ry e q => by
    unfold addD at e
    split at e
    · cases e; exact .inl ⟨_, _, rx.int_of, ry.int_of, q _ H (Same.refl H) rep_int⟩
    · rename_i xs ys
      split at e
      · rename_i hf
        cases e
        obtain ⟨a, us, e1, e2, e3⟩ := rx.tup_of
        obtain ⟨b, ws, g1, g2, g3⟩ := ry.tup_of
        by_cases hx : us = []
        · subst hx
          have : xs = [] := by have := e3.length; cases xs with | nil => rfl | cons _ _ => simp at this
          subst this
          exact .inr (.inl ⟨a, b, [], ws, e1, g1, e2, g2, rfl, q _ H (Same.refl H) (rep_tup g2 g3)⟩)
        · refine .inr (.inr (.inl ⟨a, b, us, ws, e1, g1, SqT.of e2, SqT.of g2, hx, by rw [e3.length, g3.length]; exact fit_le hf, fun hw => ?_, fun hw p hp => ?_⟩))
          · subst hw
            have : ys = [] := by have := g3.length; cases ys with | nil => rfl | cons _ _ => simp at this
            subst this
            exact q _ H (Same.refl H) (rep_tup e2 (by rw [List.append_nil]; exact e3))
          · exact q _ _ (same_new hp _) (rep_tup upd_same ((e3.append g3).mono (same_new hp _)))
      · cases e
    · rename_i xs ys
      split at e
      · rename_i hf
        cases e
        obtain ⟨a, us, e1, e2, e3⟩ := rx.lst_of
        obtain ⟨b, ws, g1, g2, g3⟩ := ry.lst_of
        exact .inr (.inr (.inr ⟨a, b, us, ws, e1, g1, e2, g2, by rw [e3.length, g3.length]; exact fit_le hf, fun p hp => q _ _ (same_new hp _) (rep_lst upd_same ((e3.append g3).mono (same_new hp _)))⟩))
      · cases e
    · cases e) ha hb

/-! ### floor division, any size -/
def CDivR (i j : Int) : Prop := j ≠ 0 ∧ okI j = true
theorem op_fdivR : OpR X (binaryOp .FloorDiv) (rI CDivR fun i j => .int (i.fdiv j)) := by
  intro pins s σ H x y v u Q I rx ry h
  obtain ⟨i, j, rfl, rfl, hc, q⟩ := h
  obtain ⟨t, rfl⟩ := rx
  obtain ⟨t', rfl⟩ := ry
  have hl : j.natAbs.log2 < 8000 := of_decide_eq_true hc.2
  exact floordiv_int hc.1 ⟨.int (i.fdiv j), H, I.tok _, ⟨_, rfl⟩, q⟩ (.inl (PyProof.noPylong_of_log2 (by omega)))
def fdivD : D → D → Option D
  | .int i, .int j => if j ≠ 0 ∧ okI j = true then some (.int (i.fdiv j)) else none
  | _, _ => none
theorem d_fdiv (ha : PE X a (tD X.K fa)) (hb : PE X b (tD X.K fb)) : PE X (.BinOp a .FloorDiv b pos) (tD X.K (bind2 fa fb fdivD)) :=
  d_op op_fdivR (fun H x y d vx vy Q rx ry e q => by
    unfold fdivD at e
    split at e
    · split at e
      · cases e; exact ⟨_, _, rx.int_of, ry.int_of, ‹_›, q _ H (Same.refl H) rep_int⟩
      · cases e
    · cases e) ha hb

/-! ### is, is not: against True, False, None -/
def isV : V → V → Option Bool
  | .bl a, .bl b => some (a == b)
  | .bl _, .non => some false
  | .non, .bl _ => some false
  | .non, .non => some true
  | _, _ => none
theorem op_isB : OpR X (compareOp .Is) (fun x y H Q => ∃ k, isV x y = some k ∧ Q (.bl k) H) := by
  intro pins s σ H x y v u Q I rx ry h
  obtain ⟨k, hk, q⟩ := h
  unfold isV at hk
  split at hk
  · rename_i a b; cases rx; cases ry; cases hk
    exact wpAny_is_plain rfl ⟨.bl (a == b), H, I, (by cases a <;> cases b <;> rfl), q⟩
  · cases rx; cases ry; cases hk
    exact wpAny_is_plain rfl ⟨.bl false, H, I, rfl, q⟩
  · cases rx; cases ry; cases hk
    exact wpAny_is_plain rfl ⟨.bl false, H, I, rfl, q⟩
  · cases rx; cases ry; cases hk
    exact wpAny_is_plain rfl ⟨.bl true, H, I, rfl, q⟩
  · cases hk
theorem op_isnotB : OpR X (compareOp .IsNot) (fun x y H Q => ∃ k, isV x y = some k ∧ Q (.bl (!k)) H) := by
  intro pins s σ H x y v u Q I rx ry h
  obtain ⟨k, hk, q⟩ := h
  unfold isV at hk
  split at hk
  · rename_i a b; cases rx; cases ry; cases hk
    exact wpAny_isNot_plain rfl ⟨.bl (!(a == b)), H, I, (by cases a <;> cases b <;> rfl), q⟩
  · cases rx; cases ry; cases hk
    exact wpAny_isNot_plain rfl ⟨.bl true, H, I, rfl, q⟩
  · cases rx; cases ry; cases hk
    exact wpAny_isNot_plain rfl ⟨.bl true, H, I, rfl, q⟩
  · cases rx; cases ry; cases hk
    exact wpAny_isNot_plain rfl ⟨.bl false, H, I, rfl, q⟩
  · cases hk
def isD0 : D → D → Option Bool
  | .bl a, .bl b => some (a == b)
  | .bl _, .non => some false
  | .non, .bl _ => some false
  | .non, .non => some true
  | _, _ => none
def isD (x y : D) : Option D := (isD0 x y).map D.bl
def isnotD (x y : D) : Option D := (isD0 x y).map fun k => D.bl (!k)
theorem isV_of {K : PySem.W.Frag} {H : Hp} {x y : D} {vx vy : V} {k : Bool} (rx : Rep K H x vx) (ry : Rep K H y vy) (h : isD0 x y = some k) : isV vx vy = some k := by
  unfold isD0 at h
  split at h
  · cases rx.bl_of; cases ry.bl_of; exact h
  · cases rx.bl_of; cases ry.non_of; exact h
  · cases rx.non_of; cases ry.bl_of; exact h
  · cases rx.non_of; cases ry.non_of; exact h
  · cases h
theorem told_is : Told2 X.K (fun x y H Q => ∃ k, isV x y = some k ∧ Q (.bl k) H) isD := fun H x y d vx vy Q rx ry e q => by
  unfold isD at e
  cases hk : isD0 x y with
  | none => rw [hk] at e; cases e
  | some k => rw [hk] at e; cases e; exact ⟨k, isV_of rx ry hk, q _ H (Same.refl H) rep_bl⟩
theorem told_isnot : Told2 X.K (fun x y H Q => ∃ k, isV x y = some k ∧ Q (.bl (!k)) H) isnotD := fun H x y d vx vy Q rx ry e q => by
  unfold isnotD at e
  cases hk : isD0 x y with
  | none => rw [hk] at e; cases e
  | some k => rw [hk] at e; cases e; exact ⟨k, isV_of rx ry hk, q _ H (Same.refl H) rep_bl⟩
theorem d_is (ha : PE X a (tD X.K fa)) (hb : PE X b (tD X.K fb)) : PE X (.Compare a [.Is] [b] pos) (tD X.K (bind2 fa fb isD)) := d_cmp op_isB told_is ha hb (nomark _)
theorem d_isnot (ha : PE X a (tD X.K fa)) (hb : PE X b (tD X.K fb)) : PE X (.Compare a [.IsNot] [b] pos) (tD X.K (bind2 fa fb isnotD)) := d_cmp op_isnotB told_isnot ha hb (nomark _)
theorem t_is (ha : PE X a (tD X.K fa)) (hb : PE X b (tD X.K fb)) : PT X (.Compare a [.Is] [b] pos) (tT X.K fun δ => asB (bind2 fa fb isD δ)) := t_cmp op_isB told_is ha hb (nomark _)
theorem t_isnot (ha : PE X a (tD X.K fa)) (hb : PE X b (tD X.K fb)) : PT X (.Compare a [.IsNot] [b] pos) (tT X.K fun δ => asB (bind2 fa fb isnotD δ)) := t_cmp op_isnotB told_isnot ha hb (nomark _)

/-! ### ==, !=, by depth -/
def ceqL (f : D → D → Option Bool) : List D → List D → Option Bool
  | [], [] => some true
  | [], _ :: _ => some false
  | _ :: _, [] => some false
  | x :: xs, y :: ys => (f x y).bind fun a => (ceqL f xs ys).map fun b => a && b
def ceqN : Nat → D → D → Option Bool
  | 0, _, _ => none
  | _ + 1, .int i, .int j => some (i == j)
  | _ + 1, .bl i, .bl j => some (i == j)
  | _ + 1, .str i, .str j => some (i == j)
  | _ + 1, .non, .non => some true
  | n + 1, .tup xs, .tup ys => ceqL (ceqN n) xs ys
  | n + 1, .lst xs, .lst ys => ceqL (ceqN n) xs ys
  | _ + 1, _, _ => none
def ceqAt (f : D → D → Option Bool) (xs ys : List D) (j : Nat) : Bool := match xs[j]?, ys[j]? with | some x, some y => (f x y).getD false | _, _ => false
theorem ceqL_len {f : D → D → Option Bool} : ∀ {xs ys : List D} {k : Bool}, ceqL f xs ys = some k → k = (((List.range (min xs.length ys.length)).all (ceqAt f xs ys)) && (xs.length == ys.length))
  | [], [], k, h => by simp [ceqL] at h; subst h; rfl
  | [], _ :: _, k, h => by simp [ceqL] at h; subst h; simp
  | _ :: _, [], k, h => by simp [ceqL] at h; subst h; simp
  | x :: xs, y :: ys, k, h => by
    unfold ceqL at h
    cases ha : f x y with
    | none => rw [ha] at h; cases h
    | some a =>
      rw [ha] at h
      cases hb : ceqL f xs ys with
      | none => rw [hb] at h; cases h
      | some b =>
        rw [hb] at h
        have h' : (a && b) = k := by simpa using h
        have ih := ceqL_len hb
        subst h'
        rw [ih]
        have hm : min (x :: xs).length (y :: ys).length = min xs.length ys.length + 1 := by simp only [List.length_cons]; omega
        rw [hm, List.range_succ_eq_map]
        simp only [List.all_cons, List.all_map, List.length_cons]
        have e0 : ceqAt f (x :: xs) (y :: ys) 0 = a := by simp [ceqAt, ha]
        have e1 : (ceqAt f (x :: xs) (y :: ys) ∘ Nat.succ) = ceqAt f xs ys := by funext j; simp [ceqAt]
        rw [e0, e1, Bool.and_assoc]
        simp
theorem ceqL_get {f : D → D → Option Bool} : ∀ {xs ys : List D} {k : Bool}, ceqL f xs ys = some k → ∀ (j : Nat) (x y : D), xs[j]? = some x → ys[j]? = some y → ∃ b, f x y = some b
  | [], _, k, h, j, x, y, h1, h2 => by simp at h1
  | _ :: _, [], k, h, j, x, y, h1, h2 => by simp at h2
  | x' :: xs, y' :: ys, k, h, j, x, y, h1, h2 => by
    unfold ceqL at h
    cases ha : f x' y' with
    | none => rw [ha] at h; cases h
    | some a =>
      rw [ha] at h
      cases hb : ceqL f xs ys with
      | none => rw [hb] at h; cases h
      | some b =>
        cases j with
        | zero => simp at h1 h2; subst h1 h2; exact ⟨a, ha⟩
        | succ j => exact ceqL_get hb j x y (by simpa using h1) (by simpa using h2)
theorem ceqL_self {f : D → D → Option Bool} : ∀ {xs : List D} {ys : List D} {k : Bool}, ceqL f xs ys = some k → xs.length = ys.length → (∀ (j : Nat) (x y : D) (b : Bool), xs[j]? = some x → ys[j]? = some y → f x y = some b → b = true) → k = true
  | [], [], k, h, _, _ => by cases h; rfl
  | [], _ :: _, k, h, hl, _ => by simp at hl
  | _ :: _, [], k, h, hl, _ => by simp at hl
  | x :: xs, y :: ys, k, h, hl, hj => by
    unfold ceqL at h
    cases ha : f x y with
    | none => rw [ha] at h; cases h
    | some a =>
      rw [ha] at h
      cases hb : ceqL f xs ys with
      | none => rw [hb] at h; cases h
      | some b =>
        rw [hb] at h
        have h' : (a && b) = k := by simpa using h
        have e1 := hj 0 x y a rfl rfl ha
        have e2 := ceqL_self hb (by simpa using hl) fun j x' y' b' h1 h2 h3 => hj (j + 1) x' y' b' (by simpa using h1) (by simpa using h2) h3
        rw [← h', e1, e2]; rfl
theorem ceqN_self {K : PySem.W.Frag} {H : Hp} : ∀ (n : Nat) {d e : D} {v : V} {k : Bool}, Rep K H d v → Rep K H e v → ceqN n d e = some k → k = true
  | 0, _, _, _, _, _, _, h => by simp [ceqN] at h
  | n + 1, d, e, v, k, r1, r2, h => by
    unfold ceqN at h
    split at h
    · cases h
    · have := r1.int_of; subst this; have := r2.int_of; injection this with this; subst this; simpa using h.symm
    · have := r1.bl_of; subst this; have := r2.bl_of; injection this with this; subst this; simpa using h.symm
    · have := r1.str_of; subst this; have := r2.str_of; injection this with this; subst this; simpa using h.symm
    · simpa using h.symm
    · rename_i m xs ys hm
      cases hm
      obtain ⟨a, us, e1, e2, e3⟩ := r1.tup_of
      obtain ⟨b, ws, g1, g2, g3⟩ := r2.tup_of
      subst e1; injection g1 with g1; subst g1
      rw [e2] at g2; cases g2
      exact ceqL_self h (by rw [← e3.length, ← g3.length]) fun j x y b' h1 h2 h3 => by
        obtain ⟨v1, z1, z2⟩ := e3.get h1
        obtain ⟨v2, y1, y2⟩ := g3.get h2
        rw [z1] at y1; cases y1
        exact ceqN_self n z2 y2 h3
    · rename_i m xs ys hm
      cases hm
      obtain ⟨a, us, e1, e2, e3⟩ := r1.lst_of
      obtain ⟨b, ws, g1, g2, g3⟩ := r2.lst_of
      subst e1; injection g1 with g1; subst g1
      rw [e2] at g2; cases g2
      exact ceqL_self h (by rw [← e3.length, ← g3.length]) fun j x y b' h1 h2 h3 => by
        obtain ⟨v1, z1, z2⟩ := e3.get h1
        obtain ⟨v2, y1, y2⟩ := g3.get h2
        rw [z1] at y1; cases y1
        exact ceqN_self n z2 y2 h3
    · cases h
theorem vals_at {xs : List V} {its : List Value} (r : Vals xs its) {j : Nat} (h : j < its.toArray.size) : ∃ x, xs[j]? = some x ∧ RelV x its.toArray[j] := by
  have hl := r.length
  have hj : j < xs.length := by simpa [hl] using h
  obtain ⟨u, h1, h2⟩ := r.get (i := j) (x := xs[j]) (List.getElem?_eq_getElem hj)
  refine ⟨xs[j], List.getElem?_eq_getElem hj, ?_⟩
  have hj' : j < its.length := by simpa using h
  rw [List.getElem?_eq_getElem hj'] at h1
  cases h1
  simpa using h2
/-- what == says of two items -/
theorem eqAt_D {pins : List (Addr × Obj)} {σ : St} {H : Hp} {s : Shared} (I : Inv X pins σ H s) : ∀ (n : Nat) (A : Around) {d e : D} {x y : V} {v u : Value} {k : Bool}, A.units + n < cLine → Rep X.K H d x → Rep X.K H e y → RelV x v → RelV y u → ceqN n d e = some k → SeqAt.EqAt A s v u k
  | 0, _, _, _, _, _, _, _, _, _, _, _, _, _, h => by simp [ceqN] at h
  | n + 1, A, d, e, x, y, v, u, k, hu, r1, r2, rx, ry, h => by
    have whole := h
    unfold ceqN at h
    split at h
    · cases h
    · have z1 := r1.int_of; subst z1; have z2 := r2.int_of; subst z2
      obtain ⟨t, rfl⟩ := rx; obtain ⟨t', rfl⟩ := ry; cases h
      exact SeqAt.EqAt.int_int _ _ _ _
    · have z1 := r1.bl_of; subst z1; have z2 := r2.bl_of; subst z2
      cases rx; cases ry; cases h
      exact SeqAt.EqAt.bool_bool _ _
    · have z1 := r1.str_of; subst z1; have z2 := r2.str_of; subst z2
      obtain ⟨t, rfl⟩ := rx; obtain ⟨t', rfl⟩ := ry; cases h
      exact SeqAt.EqAt.str_str _ _ _ _
    · have z1 := r1.non_of; subst z1; have z2 := r2.non_of; subst z2
      cases rx; cases ry; cases h
      exact SeqAt.EqAt.same _
    · rename_i m xs ys hm
      cases hm
      obtain ⟨a, us, e1, e2, e3⟩ := r1.tup_of
      obtain ⟨b, ws, g1, g2, g3⟩ := r2.tup_of
      subst e1 g1
      cases rx; cases ry
      by_cases hab : a = b
      · subst hab
        rw [ceqN_self _ r1 r2 whole]
        exact SeqAt.EqAt.same _
      · refine SeqAt.EqAt.of_refs hab ?_
        obtain ⟨its, q1, p1, _⟩ := I.tuple (SqT.of e2)
        obtain ⟨its2, q2, p2, _⟩ := I.tuple (SqT.of g2)
        have l1 : its.toArray.size = xs.length := by rw [List.size_toArray, ← q1.length, e3.length]
        have l2 : its2.toArray.size = ys.length := by rw [List.size_toArray, ← q2.length, g3.length]
        have key := ceqL_len h
        have R := SeqAt.RcAt.tuples (A := A) (s := s) (e := ceqAt (ceqN n) xs ys) p1 p2 (by omega) (fun j h1 h2 => ?_)
        · rw [l1, l2] at R
          rw [key]; exact R
        · obtain ⟨x1, y1, y2⟩ := vals_at q1 h1
          obtain ⟨x2, y3, y4⟩ := vals_at q2 h2
          obtain ⟨d1, w1, w2⟩ := e3.get' y1
          obtain ⟨d2, w3, w4⟩ := g3.get' y3
          obtain ⟨b', hb'⟩ := ceqL_get h j d1 d2 w1 w3
          have := eqAt_D I n A.in1 (by show A.units + 1 + n < cLine; omega) w2 w4 y2 y4 hb'
          simp only [ceqAt, w1, w3, hb', Option.getD_some]
          exact this
    · rename_i m xs ys hm
      cases hm
      obtain ⟨a, us, e1, e2, e3⟩ := r1.lst_of
      obtain ⟨b, ws, g1, g2, g3⟩ := r2.lst_of
      subst e1 g1
      cases rx; cases ry
      by_cases hab : a = b
      · subst hab
        rw [ceqN_self _ r1 r2 whole]
        exact SeqAt.EqAt.same _
      · refine SeqAt.EqAt.of_refs hab ?_
        obtain ⟨its, q1, p1, _⟩ := I.list (SqL.of e2)
        obtain ⟨its2, q2, p2, _⟩ := I.list (SqL.of g2)
        have l1 : its.toArray.size = xs.length := by rw [List.size_toArray, ← q1.length, e3.length]
        have l2 : its2.toArray.size = ys.length := by rw [List.size_toArray, ← q2.length, g3.length]
        have key := ceqL_len h
        by_cases hsz : its.toArray.size = its2.toArray.size
        · have R := SeqAt.RcAt.lists (A := A) (s := s) (e := ceqAt (ceqN n) xs ys) p1.isList p2.isList hsz (by omega) (fun j h1 h2 => ?_)
          · have hxy : xs.length = ys.length := by omega
            rw [l1] at R
            rw [key, hxy]
            rw [hxy] at R
            simpa using R
          · obtain ⟨x1, y1, y2⟩ := vals_at q1 h1
            obtain ⟨x2, y3, y4⟩ := vals_at q2 h2
            obtain ⟨d1, w1, w2⟩ := e3.get' y1
            obtain ⟨d2, w3, w4⟩ := g3.get' y3
            obtain ⟨b', hb'⟩ := ceqL_get h j d1 d2 w1 w3
            have := eqAt_D I n A.in1 (by show A.units + 1 + n < cLine; omega) w2 w4 y2 y4 hb'
            simp only [ceqAt, w1, w3, hb', Option.getD_some]
            exact this
        · have hne : (xs.length == ys.length) = false := by rw [beq_eq_false_iff_ne]; omega
          rw [key, hne, Bool.and_false]
          exact SeqAt.RcAt.lists_lengths p1.isList p2.isList (by simpa using hsz) (by omega)
    · cases h
end
end L2

set_option Elab.async false
set_option linter.all false
set_option maxRecDepth 100000
namespace L2
open PySem PySem.Spec PyProof.Rows
section
variable {X : Cx} {a b e : Expr} {es : List Expr} {pos p : Pos} {fa fb : DS → Option D}

/-! ### == and != -/
/-- two things that == tells apart, at the top -/
theorem rcAt_D {pins : List (Addr × Obj)} {σ : St} {H : Hp} {s : Shared} (I : Inv X pins σ H s) (n : Nat) (A : Around) {d e : D} {x y : V} {v u : Value} {k : Bool} (hu : A.units + n < cLine) (r1 : Rep X.K H d x) (r2 : Rep X.K H e y) (rx : RelV x v) (ry : RelV y u)
    (h : ceqN n d e = some k) : SeqAt.RcAt A s v u k ∧ SeqAt.RcNeAt A s v u (!k) := by
  cases n with
  | zero => simp [ceqN] at h
  | succ n =>
    unfold ceqN at h
    split at h
    · cases h
    · have z1 := r1.int_of; subst z1; have z2 := r2.int_of; subst z2
      obtain ⟨t, rfl⟩ := rx; obtain ⟨t', rfl⟩ := ry; cases h
      exact ⟨SeqAt.RcAt.int_int _ _ _ _, SeqAt.RcNeAt.int_int _ _ _ _⟩
    · have z1 := r1.bl_of; subst z1; have z2 := r2.bl_of; subst z2
      cases rx; cases ry; cases h
      exact ⟨SeqAt.RcAt.bool_bool _ _, SeqAt.RcNeAt.bool_bool _ _⟩
    · have z1 := r1.str_of; subst z1; have z2 := r2.str_of; subst z2
      obtain ⟨t, rfl⟩ := rx; obtain ⟨t', rfl⟩ := ry; cases h
      exact ⟨SeqAt.RcAt.str_str _ _ _ _, SeqAt.RcNeAt.str_str _ _ _ _⟩
    · have z1 := r1.non_of; subst z1; have z2 := r2.non_of; subst z2
      cases rx; cases ry; cases h
      exact ⟨SeqAt.RcAt.none_none, SeqAt.RcNeAt.none_none⟩
    · rename_i m xs ys hm
      cases hm
      obtain ⟨a, us, e1, e2, e3⟩ := r1.tup_of
      obtain ⟨b, ws, g1, g2, g3⟩ := r2.tup_of
      subst e1 g1
      cases rx; cases ry
      obtain ⟨its, q1, p1, _⟩ := I.tuple (SqT.of e2)
      obtain ⟨its2, q2, p2, _⟩ := I.tuple (SqT.of g2)
      have l1 : its.toArray.size = xs.length := by rw [List.size_toArray, ← q1.length, e3.length]
      have l2 : its2.toArray.size = ys.length := by rw [List.size_toArray, ← q2.length, g3.length]
      have key := ceqL_len h
      have he : ∀ j (h1 : j < its.toArray.size) (h2 : j < its2.toArray.size), SeqAt.EqAt A.in1 s its.toArray[j] its2.toArray[j] (ceqAt (ceqN n) xs ys j) := fun j h1 h2 => by
        obtain ⟨x1, y1, y2⟩ := vals_at q1 h1
        obtain ⟨x2, y3, y4⟩ := vals_at q2 h2
        obtain ⟨d1, w1, w2⟩ := e3.get' y1
        obtain ⟨d2, w3, w4⟩ := g3.get' y3
        obtain ⟨b', hb'⟩ := ceqL_get h j d1 d2 w1 w3
        have := eqAt_D I n A.in1 (by show A.units + 1 + n < cLine; omega) w2 w4 y2 y4 hb'
        simp only [ceqAt, w1, w3, hb', Option.getD_some]
        exact this
      have R := SeqAt.RcAt.tuples (A := A) (s := s) p1 p2 (by omega) he
      have R2 := SeqAt.RcNeAt.tuples (A := A) (s := s) p1 p2 (by omega) he
      rw [l1, l2] at R R2
      rw [key]; exact ⟨R, R2⟩
    · rename_i m xs ys hm
      cases hm
      obtain ⟨a, us, e1, e2, e3⟩ := r1.lst_of
      obtain ⟨b, ws, g1, g2, g3⟩ := r2.lst_of
      subst e1 g1
      cases rx; cases ry
      obtain ⟨its, q1, p1, _⟩ := I.list (SqL.of e2)
      obtain ⟨its2, q2, p2, _⟩ := I.list (SqL.of g2)
      have l1 : its.toArray.size = xs.length := by rw [List.size_toArray, ← q1.length, e3.length]
      have l2 : its2.toArray.size = ys.length := by rw [List.size_toArray, ← q2.length, g3.length]
      have key := ceqL_len h
      have he : ∀ j (h1 : j < its.toArray.size) (h2 : j < its2.toArray.size), SeqAt.EqAt A.in1 s its.toArray[j] its2.toArray[j] (ceqAt (ceqN n) xs ys j) := fun j h1 h2 => by
        obtain ⟨x1, y1, y2⟩ := vals_at q1 h1
        obtain ⟨x2, y3, y4⟩ := vals_at q2 h2
        obtain ⟨d1, w1, w2⟩ := e3.get' y1
        obtain ⟨d2, w3, w4⟩ := g3.get' y3
        obtain ⟨b', hb'⟩ := ceqL_get h j d1 d2 w1 w3
        have := eqAt_D I n A.in1 (by show A.units + 1 + n < cLine; omega) w2 w4 y2 y4 hb'
        simp only [ceqAt, w1, w3, hb', Option.getD_some]
        exact this
      by_cases hsz : its.toArray.size = its2.toArray.size
      · have R := SeqAt.RcAt.lists (A := A) (s := s) p1.isList p2.isList hsz (by omega) he
        have R2 := SeqAt.RcNeAt.lists (A := A) (s := s) p1.isList p2.isList hsz (by omega) he
        have hxy : xs.length = ys.length := by omega
        rw [l1] at R R2
        rw [key, hxy]
        rw [hxy] at R R2
        exact ⟨by simpa using R, by simpa using R2⟩
      · have hne : (xs.length == ys.length) = false := by rw [beq_eq_false_iff_ne]; omega
        rw [key, hne, Bool.and_false]
        exact ⟨SeqAt.RcAt.lists_lengths p1.isList p2.isList (by simpa using hsz) (by omega), SeqAt.RcNeAt.lists_lengths p1.isList p2.isList (by simpa using hsz) (by omega)⟩
    · cases h
theorem op_eqD (hu : X.A.units + 64 < cLine) : OpR X (compareOp .Eq) (fun x y H Q => ∃ d e k, Rep X.K H d x ∧ Rep X.K H e y ∧ ceqN 9 d e = some k ∧ Q (.bl k) H) := by
  intro pins s σ H x y v u Q I rx ry h
  obtain ⟨d, e, k, r1, r2, h, q⟩ := h
  exact (rcAt_D I 9 X.A (by omega) r1 r2 rx ry h).1 X.prog X.w X.xe _ ⟨.bl k, H, I, rfl, q⟩
theorem op_neD (hu : X.A.units + 64 < cLine) : OpR X (compareOp .NotEq) (fun x y H Q => ∃ d e k, Rep X.K H d x ∧ Rep X.K H e y ∧ ceqN 9 d e = some k ∧ Q (.bl (!k)) H) := by
  intro pins s σ H x y v u Q I rx ry h
  obtain ⟨d, e, k, r1, r2, h, q⟩ := h
  exact (rcAt_D I 9 X.A (by omega) r1 r2 rx ry h).2 X.prog X.w X.xe _ ⟨.bl (!k), H, I, rfl, q⟩
def eqD (x y : D) : Option D := (ceqN 9 x y).map D.bl
def neD (x y : D) : Option D := (ceqN 9 x y).map fun k => D.bl (!k)
theorem told_eq : Told2 X.K (fun x y H Q => ∃ d e k, Rep X.K H d x ∧ Rep X.K H e y ∧ ceqN 9 d e = some k ∧ Q (.bl k) H) eqD := fun H x y d vx vy Q rx ry e q => by
  unfold eqD at e
  cases hk : ceqN 9 x y with
  | none => rw [hk] at e; cases e
  | some k => rw [hk] at e; cases e; exact ⟨x, y, k, rx, ry, hk, q _ H (Same.refl H) rep_bl⟩
theorem told_ne : Told2 X.K (fun x y H Q => ∃ d e k, Rep X.K H d x ∧ Rep X.K H e y ∧ ceqN 9 d e = some k ∧ Q (.bl (!k)) H) neD := fun H x y d vx vy Q rx ry e q => by
  unfold neD at e
  cases hk : ceqN 9 x y with
  | none => rw [hk] at e; cases e
  | some k => rw [hk] at e; cases e; exact ⟨x, y, k, rx, ry, hk, q _ H (Same.refl H) rep_bl⟩
theorem d_eq {k : Nat} (hr : Room k X.A) (ha : PE X a (tD X.K fa)) (hb : PE X b (tD X.K fb)) : PE X (.Compare a [.Eq] [b] pos) (tD X.K (bind2 fa fb eqD)) := d_cmp (op_eqD hr.units) told_eq ha hb (nomark _)
theorem d_ne {k : Nat} (hr : Room k X.A) (ha : PE X a (tD X.K fa)) (hb : PE X b (tD X.K fb)) : PE X (.Compare a [.NotEq] [b] pos) (tD X.K (bind2 fa fb neD)) := d_cmp (op_neD hr.units) told_ne ha hb (nomark _)
theorem t_eq {k : Nat} (hr : Room k X.A) (ha : PE X a (tD X.K fa)) (hb : PE X b (tD X.K fb)) : PT X (.Compare a [.Eq] [b] pos) (tT X.K fun δ => asB (bind2 fa fb eqD δ)) := t_cmp (op_eqD hr.units) told_eq ha hb (nomark _)
theorem t_ne {k : Nat} (hr : Room k X.A) (ha : PE X a (tD X.K fa)) (hb : PE X b (tD X.K fb)) : PT X (.Compare a [.NotEq] [b] pos) (tT X.K fun δ => asB (bind2 fa fb neD δ)) := t_cmp (op_neD hr.units) told_ne ha hb (nomark _)

/-! ### and, or, not -/
def andD (fa fb : DS → Option D) : DS → Option D := fun δ => (asB (fa δ)).bind fun k => if k = true then fb δ else some (.bl false)
def orD (fa fb : DS → Option D) : DS → Option D := fun δ => (asB (fa δ)).bind fun k => if k = true then some (.bl true) else fb δ
def notD (fa : DS → Option D) : DS → Option D := fun δ => (asB (fa δ)).map fun k => .bl (!k)
theorem d_one {op} (h : PE X a (tD X.K fa)) : PE X (.BoolOp op [a] pos) (tD X.K fa) := pe_one h
theorem d_and {rest : List Expr} (ha : PE X a (tD X.K fa)) (hb : PE X (.BoolOp .And (b :: rest) pos) (tD X.K fb)) : PE X (.BoolOp .And (a :: b :: rest) pos) (tD X.K (andD fa fb)) :=
  (pe_and ha hb).imp fun σ H Q ⟨δ, d, sr, e, q⟩ => by
    unfold andD at e
    try dsimp only at e
    try dsimp only at ef
    cases ex : asB (fa δ) with
    | none => rw [ex] at e; cases e
    | some k =>
      rw [ex] at e
      refine ⟨δ, .bl k, sr, asB_some ex, fun v H1 s1 rv => ⟨k, rv.bl_of, ?_⟩⟩
      have e' : (if k = true then fb δ else some (.bl false)) = some d := e
      cases k with
      | true => exact iteT ⟨δ, d, sr.mono s1, e', fun v H' s2 rv => q v H' (s1.trans s2) rv⟩
      | false => refine iteF ?_; have e2 : some (D.bl false) = some d := e'; cases e2; exact q _ H1 s1 rep_bl
theorem d_or {rest : List Expr} (ha : PE X a (tD X.K fa)) (hb : PE X (.BoolOp .Or (b :: rest) pos) (tD X.K fb)) : PE X (.BoolOp .Or (a :: b :: rest) pos) (tD X.K (orD fa fb)) :=
  (pe_or ha hb).imp fun σ H Q ⟨δ, d, sr, e, q⟩ => by
    unfold orD at e
    try dsimp only at e
    try dsimp only at ef
    cases ex : asB (fa δ) with
    | none => rw [ex] at e; cases e
    | some k =>
      rw [ex] at e
      refine ⟨δ, .bl k, sr, asB_some ex, fun v H1 s1 rv => ⟨k, rv.bl_of, ?_⟩⟩
      have e' : (if k = true then some (.bl true) else fb δ) = some d := e
      cases k with
      | true => refine iteT ?_; have e2 : some (D.bl true) = some d := e'; cases e2; exact q _ H1 s1 rep_bl
      | false => exact iteF ⟨δ, d, sr.mono s1, e', fun v H' s2 rv => q v H' (s1.trans s2) rv⟩
theorem d_not (ha : PE X a (tD X.K fa)) : PE X (.UnaryOp .Not a pos) (tD X.K (notD fa)) :=
  (pe_not ha).imp fun σ H Q ⟨δ, d, sr, e, q⟩ => by
    unfold notD at e
    try dsimp only at e
    try dsimp only at ef
    cases ex : asB (fa δ) with
    | none => rw [ex] at e; cases e
    | some k =>
      rw [ex] at e
      cases e
      exact ⟨δ, .bl k, sr, asB_some ex, fun v H1 s1 rv => ⟨k, rv.bl_of, q _ H1 s1 rep_bl⟩⟩
/-! tests -/
section
variable {ta tb : DS → Option Bool}
theorem PT.pw_and1 (h : PT X a (tT X.K ta)) : PW X (.BoolOp .And [a] pos) (tT X.K ta) := L2.pw_and1 h
theorem PT.pw_or1 (h : PT X a (tT X.K ta)) : PW X (.BoolOp .Or [a] pos) (tT X.K ta) := L2.pw_or1 h
theorem w_and {rest : List Expr} (ha : PT X a (tT X.K ta)) (hb : PW X (.BoolOp .And (b :: rest) pos) (tT X.K tb)) : PW X (.BoolOp .And (a :: b :: rest) pos) (tT X.K fun δ => (ta δ).bind fun k => if k = true then tb δ else some false) :=
  PW.imp (L2.pw_and ha hb) fun σ H Q ⟨δ, c, sr, e, q⟩ => by
    try dsimp only at e
    try dsimp only at ef
    cases ex : ta δ with
    | none => rw [ex] at e; cases e
    | some k =>
      rw [ex] at e
      refine ⟨δ, k, sr, ex, fun H1 s1 => ?_⟩
      have e' : (if k = true then tb δ else some false) = some c := e
      cases k with
      | true => exact iteT ⟨δ, c, sr.mono s1, e', fun H' s2 => q H' (s1.trans s2)⟩
      | false => refine iteF ?_; have e2 : some false = some c := e'; cases e2; exact q H1 s1
theorem w_or {rest : List Expr} (ha : PT X a (tT X.K ta)) (hb : PW X (.BoolOp .Or (b :: rest) pos) (tT X.K tb)) : PW X (.BoolOp .Or (a :: b :: rest) pos) (tT X.K fun δ => (ta δ).bind fun k => if k = true then some true else tb δ) :=
  PW.imp (L2.pw_or ha hb) fun σ H Q ⟨δ, c, sr, e, q⟩ => by
    try dsimp only at e
    try dsimp only at ef
    cases ex : ta δ with
    | none => rw [ex] at e; cases e
    | some k =>
      rw [ex] at e
      refine ⟨δ, k, sr, ex, fun H1 s1 => ?_⟩
      have e' : (if k = true then some true else tb δ) = some c := e
      cases k with
      | true => refine iteT ?_; have e2 : some true = some c := e'; cases e2; exact q H1 s1
      | false => exact iteF ⟨δ, c, sr.mono s1, e', fun H' s2 => q H' (s1.trans s2)⟩
theorem t_not (ha : PT X a (tT X.K ta)) : PT X (.UnaryOp .Not a pos) (tT X.K fun δ => (ta δ).map (!·)) := PT.imp (L2.pt_not ha) fun σ H Q ⟨δ, c, sr, e, q⟩ => by
  try dsimp only at e
  try dsimp only at ef
  cases ex : ta δ with
  | none => rw [ex] at e; cases e
  | some k => rw [ex] at e; cases e; exact ⟨δ, k, sr, ex, fun H1 s1 => q H1 s1⟩
end
/-- the truth of data -/
def truD : D → Option Bool
  | .non => some false
  | .bl b => some b
  | .int i => some (i != 0)
  | .tup xs => some (!xs.isEmpty)
  | .lst xs => some (!xs.isEmpty)
  | .fro xs => some (!xs.isEmpty)
  | _ => none
theorem isEmpty_reps {K : PySem.W.Frag} {H : Hp} {ds : List D} {vs : List V} (h : Reps K H ds vs) : (!ds.isEmpty) = !vs.isEmpty := by
  cases ds with
  | nil => rw [h.nil_of]; rfl
  | cons d ds => obtain ⟨v, r, rfl, _, _⟩ := h.cons_of; rfl
theorem t_truth (ha : PE X a (tD X.K fa)) (he : ∀ whole, isTrue a X.env whole = (do let v ← whole; standAt a.pos; holding [v] (truthy v)) := by intro _; rfl) : PT X a (tT X.K fun δ => (fa δ).bind truD) :=
  PT.imp (pt_truth ha he) fun σ H Q ⟨δ, c, sr, e, q⟩ => by
    try dsimp only at e
    try dsimp only at ef
    cases ex : fa δ with
    | none => rw [ex] at e; cases e
    | some x =>
      rw [ex] at e
      refine ⟨δ, x, sr, ex, fun v H1 s1 rv => ⟨c, ?_, q H1 s1⟩⟩
      have e' : truD x = some c := e
      cases x with
      | non => cases rv.non_of; cases e'; rfl
      | bl b => cases rv.bl_of; cases e'; rfl
      | int i => cases rv.int_of; cases e'; rfl
      | str _ => cases e'
      | ty _ => cases e'
      | tup xs => obtain ⟨p, us, rfl, h1, h2⟩ := rv.tup_of; cases e'; exact .inr (.inl ⟨us, SqT.of h1, isEmpty_reps h2⟩)
      | lst xs => obtain ⟨p, us, rfl, h1, h2⟩ := rv.lst_of; cases e'; exact .inl ⟨us, SqL.of h1, isEmpty_reps h2⟩
      | fro xs => obtain ⟨p, us, rfl, h1, h2⟩ := rv.fro_of; cases e'; exact .inl ⟨us, h1.sq, isEmpty_reps h2⟩

/-! ### argument lists, displays -/
theorem da_nil : PA X [] (tDA X.K fun _ => some []) := PA.imp pa_nil fun σ H Q ⟨δ, ds, sr, e, q⟩ => by cases e; exact q [] H (Same.refl H) reps_nil
def consD (fa : DS → Option D) (fs : DS → Option (List D)) : DS → Option (List D) := fun δ => (fa δ).bind fun x => (fs δ).map fun xs => x :: xs
theorem consD_some {fa : DS → Option D} {fs : DS → Option (List D)} {δ : DS} {ds : List D} (h : consD fa fs δ = some ds) : ∃ x xs, fa δ = some x ∧ fs δ = some xs ∧ ds = x :: xs := by
  unfold consD at h
  try dsimp only at e
  try dsimp only at ef
  cases ex : fa δ with
  | none => rw [ex] at h; cases h
  | some x =>
    rw [ex] at h
    cases ey : fs δ with
    | none => rw [ey] at h; cases h
    | some xs => rw [ey] at h; cases h; exact ⟨x, xs, rfl, rfl, rfl⟩
theorem da_cons {fs : DS → Option (List D)} (ha : PE X e (tD X.K fa)) (hr : PA X es (tDA X.K fs)) (hs : starEach (e :: es) X.env = (false, eval e X.env) :: starEach es X.env := by rfl) : PA X (e :: es) (tDA X.K (consD fa fs)) :=
  PA.imp (pa_cons ha hr hs) fun σ H Q ⟨δ, ds, sr, ef, q⟩ => by
    obtain ⟨x, xs, ex, ey, rfl⟩ := consD_some ef
    exact ⟨δ, x, sr, ex, fun v H1 s1 rv => ⟨δ, xs, sr.mono s1, ey, fun vs H2 s2 rs => q (v :: vs) H2 (s1.trans s2) (reps_cons (rv.mono s2) rs)⟩⟩
theorem d_tup {x1} {fs : DS → Option (List D)} (h : PA X es (tDA X.K fs)) (hl : es.length ≤ 1000 := by decide) : PE X (.Tuple es x1 pos) (tD X.K fun δ => (fs δ).bind fun ds => if fit ds.length = true then some (.tup ds) else none) :=
  (pe_tup h).imp fun σ H Q ⟨δ, d, sr, e, q⟩ => by
    try dsimp only at e
    try dsimp only at ef
    cases ex : fs δ with
    | none => rw [ex] at e; cases e
    | some ds =>
      rw [ex] at e
      have e' : (if fit ds.length = true then some (D.tup ds) else none) = some d := e
      by_cases hf : fit ds.length = true
      · rw [if_pos hf] at e'; cases e'
        exact ⟨δ, ds, sr, ex, fun vs H1 s1 rs => ⟨by rw [rs.length]; exact fit_le hf, fun p hp => q _ _ (s1.trans (same_new hp _)) (rep_tup upd_same (rs.mono (same_new hp _)))⟩⟩
      · rw [if_neg hf] at e'; cases e'
theorem f_lst {fs : DS → Option (List D)} (h : PA X es (tDA X.K fs)) : PE X (.List es pos) (tF X.K fun δ => (fs δ).bind fun ds => if fit ds.length = true then some ds else none) :=
  (pe_lst h).imp fun σ H Q ⟨δ, ds', sr, e, q⟩ => by
    try dsimp only at e
    try dsimp only at ef
    cases ex : fs δ with
    | none => rw [ex] at e; cases e
    | some ds =>
      rw [ex] at e
      have e' : (if fit ds.length = true then some ds else none) = some ds' := e
      by_cases hf : fit ds.length = true
      · rw [if_pos hf] at e'; cases e'
        exact ⟨δ, ds', sr, ex, fun vs H1 s1 rs => ⟨by rw [rs.length]; exact fit_le hf, fun p hp => q p vs _ (s1.free hp) (s1.trans (same_new hp _)) upd_same (rs.mono (same_new hp _))⟩⟩
      · rw [if_neg hf] at e'; cases e'
theorem d_lst {fs : DS → Option (List D)} (h : PA X es (tDA X.K fs)) : PE X (.List es pos) (tD X.K fun δ => ((fs δ).bind fun ds => if fit ds.length = true then some ds else none).map D.lst) := d_of_f (f_lst h)

/-! ### a call of a builtin -/
def ToldC (K : PySem.W.Frag) (r : List V → Hp → VK → Prop) (g : List D → Option D) : Prop := ∀ (H : Hp) (ds : List D) (d : D) (vs : List V) (Q : VK), Reps K H ds vs → g ds = some d → (∀ v H', Same H H' → Rep K H' d v → Q v H') → r vs H Q
theorem toldC_ok {r : List V → Hp → VK → Prop} {g : List D → Option D} {fs : DS → Option (List D)} (hr : ToldC X.K r g) : ∀ σ H Q, tD X.K (fun δ => (fs δ).bind g) σ H Q → tCB r (tDA X.K fs) σ H Q := fun σ H Q ⟨δ, d, sr, e, q⟩ => by
  try dsimp only at e
  try dsimp only at ef
  cases ex : fs δ with
  | none => rw [ex] at e; cases e
  | some ds =>
    rw [ex] at e
    exact ⟨δ, ds, sr, ex, fun vs H1 s1 rs => hr H1 ds d vs Q rs e fun v H' s2 rv => q v H' (s1.trans s2) rv⟩
theorem d_callB {x : Str} {id : String} {r : List V → Hp → VK → Prop} {g : List D → Option D} {fs : DS → Option (List D)} (hc : CallR X (.builtin id) r) (hr : ToldC X.K r g) (hg : Gl X x) (hm : X.mg x = none) (hv : bootBuiltins x = some (.builtin id)) (ha : PA X (e :: es) (tDA X.K fs))
    (hn : x ≠ "__name__" := by decide) (hdb : (x == ("__debug__" : Str)) = false := by decide)
    (he : starEach (e :: es) X.env = (false, eval e X.env) :: starEach es X.env := by rfl) (hpl : (backTo pos (starEach es X.env)).any (·.1) = false := by rfl) : PE X (.Call (.Name x p) (e :: es) [] pos) (tD X.K fun δ => (fs δ).bind g) :=
  (pe_callB hc hg hm hv ha hn hdb he hpl).imp (toldC_ok hr)
theorem d_callTy {x : Str} {T : String} {r : List V → Hp → VK → Prop} {g : List D → Option D} {fs : DS → Option (List D)} (hc : CallR X (.type T) r) (hr : ToldC X.K r g) (hg : Gl X x) (hm : X.mg x = none) (hv : bootBuiltins x = some (.type T)) (ha : PA X (e :: es) (tDA X.K fs))
    (hn : x ≠ "__name__" := by decide) (hdb : (x == ("__debug__" : Str)) = false := by decide)
    (he : starEach (e :: es) X.env = (false, eval e X.env) :: starEach es X.env := by rfl) (hpl : (backTo pos (starEach es X.env)).any (·.1) = false := by rfl) : PE X (.Call (.Name x p) (e :: es) [] pos) (tD X.K fun δ => (fs δ).bind g) :=
  (pe_callTy hc hg hm hv ha hn hdb he hpl).imp (toldC_ok hr)
/-- a builtin class by its name -/
theorem d_ty {x : Str} {n : String} (hg : Gl X x) (hm : X.mg x = none) (hv : bootBuiltins x = some (.type n)) (hn : x ≠ "__name__" := by decide) (hd : (x == ("__debug__" : Str)) = false := by decide) : PE X (.Name x pos) (tD X.K fun _ => some (.ty n)) :=
  (pe_bltn (v := .ty n) hg hm hv rfl hn hd).imp fun σ H Q ⟨δ, d, sr, e, q⟩ => by cases e; exact q _ H (Same.refl H) rep_ty

/-- the items of a list or tuple -/
def itemsD : D → Option (List D)
  | .tup xs => some xs
  | .lst xs => some xs
  | .fro xs => some xs
  | _ => none
theorem items_seq {K : PySem.W.Frag} {H : Hp} {d : D} {ds : List D} {v : V} (h : itemsD d = some ds) (r : Rep K H d v) : ∃ a xs, v = .ref a ∧ (SqL K H a xs ∨ SqT K H a xs) ∧ Reps K H ds xs := by
  cases d with
  | tup xs => cases h; obtain ⟨a, us, e1, e2, e3⟩ := r.tup_of; exact ⟨a, us, e1, .inr (SqT.of e2), e3⟩
  | lst xs => cases h; obtain ⟨a, us, e1, e2, e3⟩ := r.lst_of; exact ⟨a, us, e1, .inl (SqL.of e2), e3⟩
  | fro xs => cases h; obtain ⟨a, us, e1, e2, e3⟩ := r.fro_of; exact ⟨a, us, e1, .inl e2.sq, e3⟩
  | _ => cases h
def lenD : List D → Option D
  | [d] => (itemsD d).map fun xs => .int xs.length
  | _ => none
theorem told_len : ToldC X.K (fun xs H Q => ∃ p ys, xs = [.ref p] ∧ (SqL X.K H p ys ∨ SqT X.K H p ys) ∧ Q (.int ys.length) H) lenD := fun H ds d vs Q rs e q => by
  unfold lenD at e
  split at e
  · rename_i d'
    obtain ⟨v, r, rfl, rv, rn⟩ := rs.cons_of
    cases rn.nil_of
    cases hi : itemsD d' with
    | none => rw [hi] at e; cases e
    | some xs =>
      rw [hi] at e; cases e
      obtain ⟨a, us, rfl, hs, r'⟩ := items_seq hi rv
      exact ⟨a, us, rfl, hs, q _ H (Same.refl H) (by rw [r'.length]; exact rep_int)⟩
  · cases e
theorem d_len {fs : DS → Option (List D)} (hg : Gl X "len") (hm : X.mg "len" = none) (ha : PA X [e] (tDA X.K fs)) (he : starEach [e] X.env = (false, eval e X.env) :: starEach [] X.env := by rfl) : PE X (.Call (.Name "len" p) [e] [] pos) (tD X.K fun δ => (fs δ).bind lenD) :=
  d_callB call_len_seq told_len hg hm PySem.boot_len ha (he := he)
def tupleD : List D → Option D
  | [d] => (itemsD d).map .tup
  | _ => none
theorem told_tuple : ToldC X.K (fun xs H Q => ∃ p ys, xs = [.ref p] ∧ ((SqL X.K H p ys ∧ ∀ l, H l = none → Q (.ref l) (upd H l (.tup ys))) ∨ (SqT X.K H p ys ∧ Q (.ref p) H))) tupleD := fun H ds d vs Q rs e q => by
  unfold tupleD at e
  split at e
  · rename_i d'
    obtain ⟨v, r, rfl, rv, rn⟩ := rs.cons_of
    cases rn.nil_of
    cases hi : itemsD d' with
    | none => rw [hi] at e; cases e
    | some xs =>
      rw [hi] at e; cases e
      cases d' with
      | tup ys => cases hi; obtain ⟨a, us, rfl, e2, e3⟩ := rv.tup_of; exact ⟨a, us, rfl, .inr ⟨SqT.of e2, q _ H (Same.refl H) (rep_tup e2 e3)⟩⟩
      | lst ys => cases hi; obtain ⟨a, us, rfl, e2, e3⟩ := rv.lst_of; exact ⟨a, us, rfl, .inl ⟨SqL.of e2, fun l hl => q _ _ (same_new hl _) (rep_tup upd_same (e3.mono (same_new hl _)))⟩⟩
      | fro ys => cases hi; obtain ⟨a, us, rfl, e2, e3⟩ := rv.fro_of; exact ⟨a, us, rfl, .inl ⟨e2.sq, fun l hl => q _ _ (same_new hl _) (rep_tup upd_same (e3.mono (same_new hl _)))⟩⟩
      | _ => cases hi
  · cases e
theorem d_tuple {fs : DS → Option (List D)} (hg : Gl X "tuple") (hm : X.mg "tuple" = none) (ha : PA X [e] (tDA X.K fs)) (he : starEach [e] X.env = (false, eval e X.env) :: starEach [] X.env := by rfl) (hv : bootBuiltins "tuple" = some (.type "tuple") := by decide +kernel) : PE X (.Call (.Name "tuple" p) [e] [] pos) (tD X.K fun δ => (fs δ).bind tupleD) :=
  d_callTy call_tuple_of told_tuple hg hm hv ha (he := he)
def list1 : List D → Option (List D)
  | [d] => itemsD d
  | _ => none
theorem f_list {fs : DS → Option (List D)} (hg : Gl X "list") (hm : X.mg "list" = none) (ha : PA X [e] (tDA X.K fs)) (he : starEach [e] X.env = (false, eval e X.env) :: starEach [] X.env := by rfl) (hv : bootBuiltins "list" = some (.type "list") := by decide +kernel) : PE X (.Call (.Name "list" p) [e] [] pos) (tF X.K fun δ => (fs δ).bind list1) :=
  (pe_callTy call_list_of hg hm hv ha (he := he)).imp fun σ H Q ⟨δ, d, sr, e, q⟩ => by
    try dsimp only at e
    try dsimp only at ef
    cases ex : fs δ with
    | none => rw [ex] at e; cases e
    | some ds =>
      rw [ex] at e
      refine ⟨δ, ds, sr, ex, fun vs H1 s1 rs => ?_⟩
      have e' : list1 ds = some d := e
      unfold list1 at e'
      split at e'
      · rename_i d'
        obtain ⟨v, r, rfl, rv, rn⟩ := rs.cons_of
        cases rn.nil_of
        obtain ⟨a, us, rfl, hs, r'⟩ := items_seq e' rv
        exact ⟨a, us, rfl, hs, fun l hl => q l us _ (s1.free hl) (s1.trans (same_new hl _)) upd_same (r'.mono (same_new hl _))⟩
      · cases e'
theorem d_list {fs : DS → Option (List D)} (hg : Gl X "list") (hm : X.mg "list" = none) (ha : PA X [e] (tDA X.K fs)) (he : starEach [e] X.env = (false, eval e X.env) :: starEach [] X.env := by rfl) (hv : bootBuiltins "list" = some (.type "list") := by decide +kernel) : PE X (.Call (.Name "list" p) [e] [] pos) (tD X.K fun δ => ((fs δ).bind list1).map D.lst) :=
  d_of_f (f_list hg hm ha he hv)
end
end L2

set_option Elab.async false
set_option linter.all false
set_option maxRecDepth 100000
namespace L2
open PySem PySem.Spec PyProof.Rows
section
variable {X : Cx} {a b e : Expr} {es : List Expr} {pos p : Pos} {fa fb : DS → Option D}

/-! ### an item -/
theorem reps_atI {K : PySem.W.Frag} {H : Hp} {ds : List D} {vs : List V} {i : Int} {d : D} (r : Reps K H ds vs) (h : atI ds i = some d) : ∃ v, atI vs i = some v ∧ Rep K H d v := by
  unfold atI at h ⊢
  rw [r.length]
  cases hj : ixN ds.length i with
  | none => rw [hj] at h; cases h
  | some j =>
    rw [hj] at h
    obtain ⟨v, h1, h2⟩ := r.get (i := j) (d := d) h
    exact ⟨v, h1, h2⟩
def ixD : D → D → Option D
  | d, .int i => (itemsD d).bind fun xs => atI xs i
  | _, _ => none
theorem told_ix : Told2 X.K (fun x y H Q => rIxL X.K x y H Q ∨ rIxT X.K x y H Q) ixD := fun H x y d vx vy Q rx ry e q => by
  unfold ixD at e
  split at e
  · rename_i i
    cases hi : itemsD x with
    | none => rw [hi] at e; cases e
    | some xs =>
      rw [hi] at e
      obtain ⟨a, us, e1, hs, r'⟩ := items_seq hi rx
      obtain ⟨v, h1, h2⟩ := reps_atI r' e
      rcases hs with hs | hs
      · exact .inl ⟨a, us, i, v, e1, ry.int_of, hs, h1, q v H (Same.refl H) h2⟩
      · exact .inr ⟨a, us, i, v, e1, ry.int_of, hs, h1, q v H (Same.refl H) h2⟩
  · cases e
theorem d_ix (ha : PE X a (tD X.K fa)) (hb : PE X b (tD X.K fb)) (hs : PlainIx b := by intro _ _; rfl) : PE X (.Subscript a b pos) (tD X.K (bind2 fa fb ixD)) :=
  (pe_ix (ix_list.or ix_tup) ha hb hs).imp (told2_op told_ix)

/-! ### a slice -/
def tPD (K : PySem.W.Frag) (f : DS → Option (Option Int)) : TO := fun σ H Q => ∃ δ o, SRep K H σ δ ∧ f δ = some o ∧ ∀ H', Same H H' → Q o H'
theorem o_none : PO X none (tPD X.K fun _ => some none) := fun pins s σ H Q I ⟨δ, o, sr, e, q⟩ => by cases e; exact po_none pins s σ H Q I (q H (Same.refl H))
def asI : Option D → Option (Option Int)
  | some (.int i) => some (some i)
  | _ => none
theorem o_some (h : PE X e (tD X.K fa)) : PO X (some e) (tPD X.K fun δ => asI (fa δ)) := fun pins s σ H Q I ⟨δ, o, sr, ef, q⟩ => by
  refine po_some h pins s σ H Q I ?_
  dsimp only at ef
  unfold asI at ef
  split at ef
  · rename_i i hi
    cases ef
    exact ⟨δ, .int i, sr, hi, fun v H1 s1 rv => ⟨i, rv.int_of, q H1 s1⟩⟩
  · cases ef
/-- the items of xs[lo:hi] -/
def cutD (xs : List D) (lo hi : Option Int) : List D := (xs.drop (HT.sIx xs.length 0 lo)).take (HT.sIx xs.length xs.length hi - HT.sIx xs.length 0 lo)
theorem reps_cut {K : PySem.W.Frag} {H : Hp} {ds : List D} {vs : List V} (r : Reps K H ds vs) (lo hi : Option Int) : Reps K H (cutD ds lo hi) (cutV vs lo hi) := by
  unfold cutD cutV
  rw [r.length]
  exact (r.drop _).take _
def slD (d : D) (lo hi : Option Int) : Option D := match d with
  | .tup xs => some (.tup (cutD xs lo hi))
  | .lst xs => some (.lst (cutD xs lo hi))
  | .fro xs => some (.lst (cutD xs lo hi))
  | _ => none
def slF (fa : DS → Option D) (fl fh : DS → Option (Option Int)) : DS → Option D := fun δ => (fa δ).bind fun d => (fl δ).bind fun l => (fh δ).bind fun h => slD d l h
theorem slF_some {fa : DS → Option D} {fl fh : DS → Option (Option Int)} {δ : DS} {d : D} (h : slF fa fl fh δ = some d) : ∃ x l u, fa δ = some x ∧ fl δ = some l ∧ fh δ = some u ∧ slD x l u = some d := by
  unfold slF at h
  try dsimp only at e
  try dsimp only at ef
  cases ex : fa δ with
  | none => rw [ex] at h; cases h
  | some x =>
    rw [ex] at h
    cases el : fl δ with
    | none => rw [el] at h; cases h
    | some l =>
      rw [el] at h
      cases eh : fh δ with
      | none => rw [eh] at h; cases h
      | some u => rw [eh] at h; exact ⟨x, l, u, rfl, rfl, rfl, h⟩
theorem whole_cut (xs : List D) {lo hi : Option Int} (h : HT.sIx xs.length 0 lo = 0 ∧ HT.sIx xs.length xs.length hi = xs.length) : cutD xs lo hi = xs := by
  unfold cutD
  rw [h.1, h.2, List.drop_zero, Nat.sub_zero, List.take_length]
theorem d_slice {lo hi : Option Expr} {p2 : Pos} {fl fh : DS → Option (Option Int)} (ha : PE X a (tD X.K fa)) (hl : PO X lo (tPD X.K fl)) (hu : PO X hi (tPD X.K fh)) : PE X (.Subscript a (.Slice lo hi none p2) pos) (tD X.K (slF fa fl fh)) :=
  (pe_slice (sl_tup0.or (sl_tup.or sl_list)) ha hl hu).imp fun σ H Q ⟨δ, d, sr, e, q⟩ => by
    obtain ⟨x, l, u, ex, el, eh, es⟩ := slF_some e
    refine ⟨δ, x, sr, ex, fun v H1 s1 rv => ⟨δ, l, sr.mono s1, el, fun H2 s2 => ⟨δ, u, sr.mono (s1.trans s2), eh, fun H3 s3 => ?_⟩⟩⟩
    have S := s1.trans (s2.trans s3)
    have rv := (rv.mono s2).mono s3
    cases x with
    | tup xs =>
      cases es
      obtain ⟨a, us, rfl, e2, e3⟩ := rv.tup_of
      by_cases hw : HT.sIx us.length 0 l = 0 ∧ HT.sIx us.length us.length u = us.length
      · refine .inl ⟨a, us, rfl, e2, hw, q _ H3 S (rep_tup e2 ?_)⟩
        rw [e3.length] at hw
        rw [whole_cut xs hw]; exact e3
      · exact .inr (.inl ⟨a, us, rfl, SqT.of e2, hw, fun p hp => q _ _ (S.trans (same_new hp _)) (rep_tup upd_same ((reps_cut e3 l u).mono (same_new hp _)))⟩)
    | lst xs =>
      cases es
      obtain ⟨a, us, rfl, e2, e3⟩ := rv.lst_of
      exact .inr (.inr ⟨a, us, rfl, SqL.of e2, fun p hp => q _ _ (S.trans (same_new hp _)) (rep_lst upd_same ((reps_cut e3 l u).mono (same_new hp _)))⟩)
    | fro xs =>
      cases es
      obtain ⟨a, us, rfl, e2, e3⟩ := rv.fro_of
      exact .inr (.inr ⟨a, us, rfl, e2.sq, fun p hp => q _ _ (S.trans (same_new hp _)) (rep_lst upd_same ((reps_cut e3 l u).mono (same_new hp _)))⟩)
    | _ => cases es

/-! ### isinstance -/
def kindD : D → Option String
  | .non => some "NoneType"
  | .bl _ => some "bool"
  | .int _ => some "int"
  | .str _ => some "str"
  | .tup _ => some "tuple"
  | .lst _ => some "list"
  | _ => none
def isiD : List D → Option D
  | [d, .ty c] => (kindD d).bind fun t => if c = "int" ∨ c = "bool" ∨ c = "tuple" ∨ c = "list" ∨ c = "str" then some (.bl (t == c || (t == "bool" && c == "int"))) else none
  | _ => none
theorem tyOf_D {K : PySem.W.Frag} {H : Hp} {d : D} {t : String} {v : V} (h : kindD d = some t) (r : Rep K H d v) : TyOf K H v (.type t) := by
  cases d with
  | non => cases h; cases r.non_of; exact .non
  | bl b => cases h; cases r.bl_of; exact .bl b
  | int i => cases h; cases r.int_of; exact .int i
  | str x => cases h; cases r.str_of; exact .str x
  | tup xs => cases h; obtain ⟨a, us, rfl, e2, _⟩ := r.tup_of; exact .tup e2
  | lst xs => cases h; obtain ⟨a, us, rfl, e2, _⟩ := r.lst_of; exact .lst e2
  | _ => cases h
theorem kind_one (K : PySem.W.Frag) {t c : String} (ht : t = "NoneType" ∨ t = "bool" ∨ t = "int" ∨ t = "str" ∨ t = "tuple" ∨ t = "list") (hc : c = "int" ∨ c = "bool" ∨ c = "tuple" ∨ c = "list" ∨ c = "str") :
    PySem.W.kitOne K (.type t) (.type c) = some (t == c || (t == "bool" && c == "int")) := by
  rcases ht with rfl | rfl | rfl | rfl | rfl | rfl <;> rcases hc with rfl | rfl | rfl | rfl | rfl <;> with_unfolding_all rfl
theorem kindD_in {d : D} {t : String} (h : kindD d = some t) : t = "NoneType" ∨ t = "bool" ∨ t = "int" ∨ t = "str" ∨ t = "tuple" ∨ t = "list" := by
  cases d <;> first | (cases h; simp; done) | cases h
theorem call_isi : CallR X (.builtin "isinstance") (fun xs H Q => ∃ d x c t k, xs = [x, .ty c] ∧ Rep X.K H d x ∧ kindD d = some t ∧ PySem.W.kitOne X.K (.type t) (.type c) = some k ∧ Q (.bl k) H) := by
  intro pins s σ H xs us Q I r h
  obtain ⟨d, x, c, t, k, rfl, rd, hk, hkit, q⟩ := h
  obtain ⟨u, w', rfl, rx, ry⟩ := vals2 r
  cases ry
  exact isinst_ok I rx (tyOf_D hk rd) hkit fun tk => ⟨.bl k, H, I.tok tk, rfl, q⟩
theorem told_isi : ToldC X.K (fun xs H Q => ∃ d x c t k, xs = [x, .ty c] ∧ Rep X.K H d x ∧ kindD d = some t ∧ PySem.W.kitOne X.K (.type t) (.type c) = some k ∧ Q (.bl k) H) isiD := fun H ds d vs Q rs e q => by
  unfold isiD at e
  split at e
  · rename_i d' c
    obtain ⟨v, r, rfl, rv, rn⟩ := rs.cons_of
    obtain ⟨v2, r2, rfl, rv2, rn2⟩ := rn.cons_of
    cases rn2.nil_of
    cases rv2.ty_of
    cases hk : kindD d' with
    | none => rw [hk] at e; cases e
    | some t =>
      rw [hk] at e
      have e' : (if c = "int" ∨ c = "bool" ∨ c = "tuple" ∨ c = "list" ∨ c = "str" then some (D.bl (t == c || (t == "bool" && c == "int"))) else none) = some d := e
      by_cases hc : c = "int" ∨ c = "bool" ∨ c = "tuple" ∨ c = "list" ∨ c = "str"
      · rw [if_pos hc] at e'; cases e'
        exact ⟨d', v, c, t, _, rfl, rv, hk, kind_one X.K (kindD_in hk) hc, q _ H (Same.refl H) rep_bl⟩
      · rw [if_neg hc] at e'; cases e'
  · cases e
theorem d_isi {b : Expr} {fs : DS → Option (List D)} (hg : Gl X "isinstance") (hm : X.mg "isinstance" = none) (ha : PA X [e, b] (tDA X.K fs)) (he : starEach [e, b] X.env = (false, eval e X.env) :: starEach [b] X.env := by rfl) (hpl : (backTo pos (starEach [b] X.env)).any (·.1) = false := by rfl)
    (hv : bootBuiltins "isinstance" = some (.builtin "isinstance") := by decide +kernel) : PE X (.Call (.Name "isinstance" p) [e, b] [] pos) (tD X.K fun δ => (fs δ).bind isiD) :=
  d_callB call_isi told_isi hg hm hv ha (he := he) (hpl := hpl)

/-! ### all, any, sum of a list -/
def boolsD : List D → Option (List Bool)
  | [] => some []
  | .bl b :: r => (boolsD r).map fun bs => b :: bs
  | _ => none
theorem bools_reps {K : PySem.W.Frag} {H : Hp} : ∀ {ds : List D} {bs : List Bool} {vs : List V}, boolsD ds = some bs → Reps K H ds vs → vs = bs.map V.bl
  | [], bs, vs, h, r => by cases h; exact r.nil_of
  | d :: ds, bs, vs, h, r => by
    cases d with
    | bl b =>
      unfold boolsD at h
      cases hb : boolsD ds with
      | none => rw [hb] at h; cases h
      | some bs' =>
        rw [hb] at h; cases h
        obtain ⟨v, r', rfl, rv, rn⟩ := r.cons_of
        cases rv.bl_of
        rw [bools_reps hb rn]; rfl
    | _ => cases h
theorem old_keptI {s : Shared} {h' : Heap} {o : Obj} (hk : ∀ b ob, b ∉ [s.heap.objs.size] → (s.heap.push o).get? b = some ob → h'.get? b = some ob) : ∀ b ob, s.heap.get? b = some ob → h'.get? b = some ob := fun b ob e =>
  hk b ob (by simpa using Nat.ne_of_lt (Heap.lt_size e)) (Heap.get?_push_of_some _ e)
theorem call_allB (hc : X.calm = true) : CallR X (.builtin "all") (fun xs H Q => ∃ (a : Addr) (bs : List Bool), xs = [.ref a] ∧ H a = some (.lst (bs.map V.bl)) ∧ Q (.bl (bs.all id)) H) := by
  intro pins s σ H xs us Q I r h
  obtain ⟨a, bs, rfl, ha, q⟩ := h
  obtain ⟨u, rfl, rx⟩ := vals1 r
  cases rx
  obtain ⟨its, rv, pl, hz⟩ := I.list (SqL.of ha)
  have hlen := rv.length
  have hl1 : its.length = bs.length := by rw [← hlen, List.length_map]
  have hne : a ≠ s.heap.objs.size := Nat.ne_of_lt (I.hok.lt ha)
  refine call_all_walk (wpAny_pyIter_list pl.isList ⟨s.heap.objs.size, _, _, _, _, _, fun i => bs.getD i false, rfl, Walks.list (A := X.A.in1) (I.ok.hd hc) s.heap.objs.size a hne its.toArray, ⟨⟨_, Heap.get?_push_size _ rfl, rfl, rfl⟩, pl.isList.push _⟩, ?_, ?_⟩)
  · intro i v s' Q' E' hP hQ'
    have hi : i < its.length := by
      have := hP
      simp at this
      obtain ⟨h1, _⟩ := List.getElem?_eq_some_iff.mp this
      exact h1
    obtain ⟨x, z1, z2⟩ := vals_at rv (j := i) (by simpa using hi)
    rw [List.getElem?_map, List.getElem?_eq_getElem (by omega)] at z1
    have z1' : V.bl bs[i] = x := Option.some.inj z1
    subst z1'
    have hv : v = .bool bs[i] := by
      have h2 : its.toArray[i]? = some v := hP
      rw [Array.getElem?_eq_getElem (by simpa using hi)] at h2
      have h3 := Option.some.inj h2
      rw [← h3]; exact z2
    subst hv
    have hg : bs.getD i false = bs[i] := by simp [List.getD, List.getElem?_eq_getElem (show i < bs.length by omega)]
    exact wpAny_truthy_bool (by rw [← hg]; exact hQ')
  · intro h' tk hk
    have e : (List.range its.toArray.size).all (fun i => bs.getD i false) = bs.all id := by
      rw [List.size_toArray, hl1]
      rw [Bool.eq_iff_iff, List.all_eq_true, List.all_eq_true]
      constructor
      · intro z b hb
        obtain ⟨i, hi, rfl⟩ := List.mem_iff_getElem.mp hb
        have := z i (List.mem_range.mpr hi)
        simpa [List.getD, List.getElem?_eq_getElem hi] using this
      · intro z i hi
        have hi := List.mem_range.mp hi
        have := z bs[i] (List.getElem_mem hi)
        simpa [List.getD, List.getElem?_eq_getElem hi] using this
    rw [e]
    exact ⟨.bl (bs.all id), H, I.kept (old_keptI hk), rfl, q⟩
def allD : List D → Option D
  | [.lst xs] => (boolsD xs).map fun bs => .bl (bs.all id)
  | _ => none
theorem told_all : ToldC X.K (fun xs H Q => ∃ (a : Addr) (bs : List Bool), xs = [.ref a] ∧ H a = some (.lst (bs.map V.bl)) ∧ Q (.bl (bs.all id)) H) allD := fun H ds d vs Q rs e q => by
  unfold allD at e
  split at e
  · rename_i xs
    obtain ⟨v, r, rfl, rv, rn⟩ := rs.cons_of
    cases rn.nil_of
    obtain ⟨a, us, rfl, e2, e3⟩ := rv.lst_of
    cases hb : boolsD xs with
    | none => rw [hb] at e; cases e
    | some bs => rw [hb] at e; cases e; exact ⟨a, bs, rfl, by rw [e2, bools_reps hb e3], q _ H (Same.refl H) rep_bl⟩
  · cases e
theorem d_all {fs : DS → Option (List D)} (hc : X.calm = true) (hg : Gl X "all") (hm : X.mg "all" = none) (ha : PA X [e] (tDA X.K fs)) (he : starEach [e] X.env = (false, eval e X.env) :: starEach [] X.env := by rfl) (hv : bootBuiltins "all" = some (.builtin "all") := by decide +kernel) : PE X (.Call (.Name "all" p) [e] [] pos) (tD X.K fun δ => (fs δ).bind allD) :=
  d_callB (call_allB hc) told_all hg hm hv ha (he := he)

def intsD : List D → Option (List Int)
  | [] => some []
  | .int b :: r => (intsD r).map fun bs => b :: bs
  | _ => none
theorem ints_reps {K : PySem.W.Frag} {H : Hp} : ∀ {ds : List D} {bs : List Int} {vs : List V}, intsD ds = some bs → Reps K H ds vs → vs = bs.map V.int
  | [], bs, vs, h, r => by cases h; exact r.nil_of
  | d :: ds, bs, vs, h, r => by
    cases d with
    | int b =>
      unfold intsD at h
      cases hb : intsD ds with
      | none => rw [hb] at h; cases h
      | some bs' =>
        rw [hb] at h; cases h
        obtain ⟨v, r', rfl, rv, rn⟩ := r.cons_of
        cases rv.int_of
        rw [ints_reps hb rn]; rfl
    | _ => cases h
theorem call_sumI (hc : X.calm = true) : CallR X (.builtin "sum") (fun xs H Q => ∃ (a : Addr) (ns : List Int), xs = [.ref a] ∧ H a = some (.lst (ns.map V.int)) ∧ Q (.int ns.sum) H) := by
  intro pins s σ H xs us Q I r h
  obtain ⟨a, ns, rfl, ha, q⟩ := h
  obtain ⟨u, rfl, rx⟩ := vals1 r
  cases rx
  obtain ⟨its, rv, pl, hz⟩ := I.list (SqL.of ha)
  have hi : IntsAre its ns := intsAre_of rv
  obtain ⟨xs, hx⟩ := hi.allInts.items
  have hn := nums_intItems xs
  refine sum_intListG (xs := xs) (I.ok.hd hc) (by rw [← hx]; exact pl.isList) fun h' tk t' hk => ?_
  refine ⟨.int ns.sum, H, I.kept hk, ⟨t', ?_⟩, q⟩
  have e1 : numsOf its.toArray.toList = ns := by rw [show its.toArray.toList = its from rfl, hi.numsOf]
  rw [hx, nums_intItems] at e1
  rw [preSum_eq, List.take_of_length_le (by simp), ← e1]
def sumD : List D → Option D
  | [.lst xs] => (intsD xs).map fun ns => .int ns.sum
  | _ => none
theorem told_sum : ToldC X.K (fun xs H Q => ∃ (a : Addr) (ns : List Int), xs = [.ref a] ∧ H a = some (.lst (ns.map V.int)) ∧ Q (.int ns.sum) H) sumD := fun H ds d vs Q rs e q => by
  unfold sumD at e
  split at e
  · rename_i xs
    obtain ⟨v, r, rfl, rv, rn⟩ := rs.cons_of
    cases rn.nil_of
    obtain ⟨a, us, rfl, e2, e3⟩ := rv.lst_of
    cases hb : intsD xs with
    | none => rw [hb] at e; cases e
    | some bs => rw [hb] at e; cases e; exact ⟨a, bs, rfl, by rw [e2, ints_reps hb e3], q _ H (Same.refl H) rep_int⟩
  · cases e
theorem d_sum {fs : DS → Option (List D)} (hc : X.calm = true) (hg : Gl X "sum") (hm : X.mg "sum" = none) (ha : PA X [e] (tDA X.K fs)) (he : starEach [e] X.env = (false, eval e X.env) :: starEach [] X.env := by rfl) (hv : bootBuiltins "sum" = some (.builtin "sum") := by decide +kernel) : PE X (.Call (.Name "sum" p) [e] [] pos) (tD X.K fun δ => (fs δ).bind sumD) :=
  d_callB (call_sumI hc) told_sum hg hm hv ha (he := he)

/-! ### a call of the program's own -/
def spD (K : PySem.W.Frag) (F : List D → Option D) : Sp := fun vs H Q _ => ∃ ds d, Reps K H ds vs ∧ F ds = some d ∧ ∀ v H', Same H H' → Rep K H' d v → Q v H'
/-- a def of the program, by its function -/
def Ca (P : Program) (w : World) (K : PySem.W.Frag) (mg : Str → Option Value) (base : Heap) (k : Nat) (x : Str) (F : List D → Option D) : Prop :=
  ∃ (f : Addr) (fd : FuncData) (ps : List Str), mg x = some (.ref f) ∧ FnOk P w K mg base CX0 k f fd ps (spD K F) ∧ Binds K fd ps [] ∧ PySem.W.keepIn K (.ref f) = true
theorem Ca.mono {P : Program} {w : World} {K : PySem.W.Frag} {mg : Str → Option Value} {base : Heap} {j k : Nat} {x : Str} {F : List D → Option D} (c : Ca P w K mg base j x F) (h : j ≤ k) : Ca P w K mg base k x F := by
  obtain ⟨f, fd, ps, h1, h2, h3, h4⟩ := c
  exact ⟨f, fd, ps, h1, h2.mono h, h3, h4⟩
theorem d_call {k : Nat} {x : Str} {F : List D → Option D} {fs : DS → Option (List D)} (c : Ca X.prog X.w X.K X.mg X.base k x F) (hr : Room k X.A) (hg : Gl X x) (ha : PA X (e :: es) (tDA X.K fs))
    (hd : (x == ("__debug__" : Str)) = false := by decide) (he : starEach (e :: es) X.env = (false, eval e X.env) :: starEach es X.env := by rfl) (hpl : (backTo pos (starEach es X.env)).any (·.1) = false := by rfl) : PE X (.Call (.Name x p) (e :: es) [] pos) (tD X.K fun δ => (fs δ).bind F) := by
  obtain ⟨f, fd, ps, h1, h2, h3, h4⟩ := c
  exact (pe_call h2 hr hg h1 h4 h3 .nil pass0 ha hd he hpl).imp fun σ H Q ⟨δ, d, sr, e, q⟩ => by
    try dsimp only at e
    try dsimp only at ef
    cases ex : fs δ with
    | none => rw [ex] at e; cases e
    | some ds =>
      rw [ex] at e
      exact ⟨δ, ds, sr, ex, fun vs H1 s1 rs => ⟨ds, d, by rw [List.append_nil]; exact rs, e, fun v H' s2 rv => q v H' (s1.trans s2) rv⟩⟩
end
end L2

set_option Elab.async false
set_option linter.all false
set_option maxRecDepth 100000
namespace L2
open PySem PySem.Spec PyProof.Rows

/-! ### what is walked, by data -/
def GRep (K : PySem.W.Frag) (H : Hp) (gh : List (V × D)) : Prop := ∀ p ∈ gh, Rep K H p.2 p.1
theorem GRep.mono {K : PySem.W.Frag} {H H' : Hp} {gh : List (V × D)} (s : Same H H') (h : GRep K H gh) : GRep K H' gh := fun p hp => (h p hp).mono s
structure ItD (K : PySem.W.Frag) (J : It) (gh : List (V × D)) (ds : List D) : Prop where
  go : ∀ i H, GRep K H gh → i < ds.length → J.go i H
  yld : ∀ i H x H' d, GRep K H gh → ds[i]? = some d → J.yld i H x H' → Same H H' ∧ Rep K H' d x
  stop : ∀ H, GRep K H gh → J.stop ds.length H
def tI (K : PySem.W.Frag) (f : DS → Option (List D)) : TI := fun σ H R => ∃ δ ds, SRep K H σ δ ∧ f δ = some ds ∧ ∀ J gh H', Same H H' → GRep K H' gh → ItD K J gh ds → ds.length ≤ sizeLine → R J H'
/-- .. that leans on no object -/
def tIR (K : PySem.W.Frag) (f : DS → Option (List D)) : TI := fun σ H R => ∃ δ ds, SRep K H σ δ ∧ f δ = some ds ∧ ∀ J H', Same H H' → ItD K J [] ds → ds.length ≤ sizeLine → R J H'
theorem PI.imp {X : Cx} {tg e : Expr} {t t' : TI} (h : PI X tg e t) (i : ∀ σ H R, t' σ H R → t σ H R) : PI X tg e t' := fun pins s σ H R I q => h pins s σ H R I (i σ H R q)

section
variable {X : Cx} {tg a b e : Expr} {es : List Expr} {pos p : Pos} {fa fb : DS → Option D}
theorem grep_nil {K : PySem.W.Frag} {H : Hp} : GRep K H [] := fun _ h => nomatch h
theorem grep_one {K : PySem.W.Frag} {H : Hp} {v : V} {d : D} (h : Rep K H d v) : GRep K H [(v, d)] := fun p hp => by
  have e : p = (v, d) := by simpa using hp
  subst e; exact h
theorem i_of_r {f : DS → Option (List D)} (h : PI X tg e (tIR X.K f)) : PI X tg e (tI X.K f) := h.imp fun σ H R ⟨δ, ds, sr, ef, q⟩ => ⟨δ, ds, sr, ef, fun J H' s i l => q J [] H' s grep_nil i l⟩

theorem itd_lst {K : PySem.W.Frag} {a : Addr} {ds : List D} : ItD K (Itl K a) [(.ref a, .lst ds)] ds where
  go := fun i H g hi => by
    obtain ⟨a', us, e1, e2, e3⟩ := (g _ (List.mem_singleton.mpr rfl)).lst_of
    injection e1 with e1; subst e1
    have hl := e3.length
    exact ⟨us, us[i], SqL.of e2, List.getElem?_eq_getElem (by omega)⟩
  yld := fun i H x H' d g hd ⟨e, y⟩ => by
    subst e
    obtain ⟨a', us, e1, e2, e3⟩ := (g _ (List.mem_singleton.mpr rfl)).lst_of
    injection e1 with e1; subst e1
    obtain ⟨v, z1, z2⟩ := e3.get hd
    have := y us (SqL.of e2)
    rw [z1] at this; cases this
    exact ⟨Same.refl _, z2⟩
  stop := fun H g => by
    obtain ⟨a', us, e1, e2, e3⟩ := (g _ (List.mem_singleton.mpr rfl)).lst_of
    injection e1 with e1; subst e1
    exact ⟨us, SqL.of e2, Nat.le_of_eq e3.length⟩
theorem itd_fro {K : PySem.W.Frag} {a : Addr} {ds : List D} : ItD K (Itl K a) [(.ref a, .fro ds)] ds where
  go := fun i H g hi => by
    obtain ⟨a', us, e1, e2, e3⟩ := (g _ (List.mem_singleton.mpr rfl)).fro_of
    injection e1 with e1; subst e1
    have hl := e3.length
    exact ⟨us, us[i], e2.sq, List.getElem?_eq_getElem (by omega)⟩
  yld := fun i H x H' d g hd ⟨e, y⟩ => by
    subst e
    obtain ⟨a', us, e1, e2, e3⟩ := (g _ (List.mem_singleton.mpr rfl)).fro_of
    injection e1 with e1; subst e1
    obtain ⟨v, z1, z2⟩ := e3.get hd
    have := y us e2.sq
    rw [z1] at this; cases this
    exact ⟨Same.refl _, z2⟩
  stop := fun H g => by
    obtain ⟨a', us, e1, e2, e3⟩ := (g _ (List.mem_singleton.mpr rfl)).fro_of
    injection e1 with e1; subst e1
    exact ⟨us, e2.sq, Nat.le_of_eq e3.length⟩
theorem itd_tup {K : PySem.W.Frag} {a : Addr} {ds : List D} : ItD K (Itt K a) [(.ref a, .tup ds)] ds where
  go := fun i H g hi => by
    obtain ⟨a', us, e1, e2, e3⟩ := (g _ (List.mem_singleton.mpr rfl)).tup_of
    injection e1 with e1; subst e1
    have hl := e3.length
    exact ⟨us, us[i], SqT.of e2, List.getElem?_eq_getElem (by omega)⟩
  yld := fun i H x H' d g hd ⟨e, y⟩ => by
    subst e
    obtain ⟨a', us, e1, e2, e3⟩ := (g _ (List.mem_singleton.mpr rfl)).tup_of
    injection e1 with e1; subst e1
    obtain ⟨v, z1, z2⟩ := e3.get hd
    have := y us (SqT.of e2)
    rw [z1] at this; cases this
    exact ⟨Same.refl _, z2⟩
  stop := fun H g => by
    obtain ⟨a', us, e1, e2, e3⟩ := (g _ (List.mem_singleton.mpr rfl)).tup_of
    injection e1 with e1; subst e1
    exact ⟨us, SqT.of e2, Nat.le_of_eq e3.length⟩
/-- over a list or a tuple -/
theorem i_seq (ha : PE X a (tD X.K fa)) : PI X tg a (tI X.K fun δ => (fa δ).bind itemsD) := by
  intro pins s σ H R I ⟨δ, ds, sr, e, q⟩
  try dsimp only at e
  try dsimp only at ef
  cases ex : fa δ with
  | none => rw [ex] at e; cases e
  | some x =>
    rw [ex] at e
    have e' : itemsD x = some ds := e
    refine thn (ha pins s σ H (fun v H1 => Same H H1 ∧ Rep X.K H1 x v) I ⟨δ, x, sr, ex, fun v H1 s1 rv => ⟨s1, rv⟩⟩) fun v s1 ⟨vx, H1, I1, r1, S, rv⟩ => ?_
    have fp : ∀ b ∈ [s1.heap.objs.size], FpOk X pins H1 b := fun b hb => by
      have e : b = s1.heap.objs.size := by simpa using hb
      subst e
      exact I1.fpOk (Nat.le_refl _) (I1.hok.fresh (Nat.le_refl _))
    cases x with
    | lst xs =>
      cases e'
      obtain ⟨a, us, rfl, e2, e3⟩ := rv.lst_of
      cases r1
      obtain ⟨its, rv', p, hz⟩ := I1.list (SqL.of e2)
      refine wpAny_pyIter_list p.isList ?_
      exact ⟨s1.heap.objs.size, [s1.heap.objs.size], _, _, H1, rfl, I1.kept (t' := s1.toks) fun b o e => Heap.get?_push_of_some _ e, turn_list a _, ⟨_, Heap.get?_push_size _ rfl, rfl, rfl⟩, fp, q _ _ H1 S (grep_one rv) itd_lst (by rw [← e3.length]; exact hz)⟩
    | fro xs =>
      cases e'
      obtain ⟨a, us, rfl, e2, e3⟩ := rv.fro_of
      cases r1
      obtain ⟨its, rv', p, hz⟩ := I1.list e2.sq
      refine wpAny_pyIter_list p.isList ?_
      exact ⟨s1.heap.objs.size, [s1.heap.objs.size], _, _, H1, rfl, I1.kept (t' := s1.toks) fun b o e => Heap.get?_push_of_some _ e, turn_list a _, ⟨_, Heap.get?_push_size _ rfl, rfl, rfl⟩, fp, q _ _ H1 S (grep_one rv) itd_fro (by rw [← e3.length]; exact hz)⟩
    | tup xs =>
      cases e'
      obtain ⟨a, us, rfl, e2, e3⟩ := rv.tup_of
      cases r1
      obtain ⟨its, rv', p, hz⟩ := I1.tuple (SqT.of e2)
      refine wpAny_pyIter_tuple (show s1.heap.IsTuple a its.toArray from p) ?_
      exact ⟨s1.heap.objs.size, [s1.heap.objs.size], _, _, H1, rfl, I1.kept (t' := s1.toks) fun b o e => Heap.get?_push_of_some _ e, turn_tuple a _, ⟨_, Heap.get?_push_size _ rfl, rfl, rfl⟩, fp, q _ _ H1 S (grep_one rv) itd_tup (by rw [← e3.length]; exact hz)⟩
    | _ => cases e'
theorem itd_range {K : PySem.W.Frag} {lo : Int} {n : Nat} : ItD K (Itr lo n) [] ((List.range n).map fun (k : Nat) => D.int (lo + (k : Int))) where
  go := fun i H _ hi => by show i < n; simpa using hi
  yld := fun i H x H' d _ hd ⟨e, y⟩ => by
    subst e y
    rw [List.getElem?_map] at hd
    have hi : i < n := by
      by_cases h : i < n
      · exact h
      · rw [List.getElem?_eq_none (by simpa using h)] at hd; cases hd
    rw [List.getElem?_range hi] at hd
    cases hd
    exact ⟨Same.refl _, rep_int⟩
  stop := fun H _ => by show n ≤ _; simp
def rangeD (lo : Int) (n : Nat) : List D := (List.range n).map fun (k : Nat) => D.int (lo + (k : Int))
def range1D : List D → Option (List D)
  | [.int j] => if fit j.natAbs = true then some (rangeD 0 j.toNat) else none
  | _ => none
def range2D : List D → Option (List D)
  | [.int i, .int j] => if fit i.natAbs = true ∧ fit j.natAbs = true ∧ fit (j - i).toNat = true then some (rangeD i (j - i).toNat) else none
  | _ => none
theorem r_range1 {fs : DS → Option (List D)} (hg : Gl X "range") (hm : X.mg "range" = none) (ha : PA X [a] (tDA X.K fs)) (hs : starEach [a] X.env = [(false, eval a X.env)] := by rfl) : PI X tg (.Call (.Name "range" p) [a] [] pos) (tIR X.K fun δ => (fs δ).bind range1D) :=
  (pi_range1 hg hm ha hs).imp fun σ H R ⟨δ, ds, sr, e, q⟩ => by
    try dsimp only at e
    try dsimp only at ef
    cases ex : fs δ with
    | none => rw [ex] at e; cases e
    | some xs =>
      rw [ex] at e
      refine ⟨δ, xs, sr, ex, fun vs H1 s1 rs => ?_⟩
      have e' : range1D xs = some ds := e
      unfold range1D at e'
      split at e'
      · rename_i j
        obtain ⟨v, r, rfl, rv, rn⟩ := rs.cons_of
        cases rn.nil_of
        cases rv.int_of
        split at e'
        · rename_i hf
          cases e'
          have hj : j.natAbs ≤ 1000 := of_decide_eq_true hf
          exact ⟨j, rfl, by omega, by omega, q _ H1 s1 itd_range (by unfold rangeD; rw [List.length_map, List.length_range]; exact Nat.le_of_lt (small1000 (by omega)))⟩
        · cases e'
      · cases e'
theorem r_range2 {fs : DS → Option (List D)} (hg : Gl X "range") (hm : X.mg "range" = none) (ha : PA X [a, b] (tDA X.K fs)) (hs : starEach [a, b] X.env = [(false, eval a X.env), (false, eval b X.env)] := by rfl) (hs2 : starEach [b] X.env = [(false, eval b X.env)] := by rfl) : PI X tg (.Call (.Name "range" p) [a, b] [] pos) (tIR X.K fun δ => (fs δ).bind range2D) :=
  (pi_range2 hg hm ha hs hs2).imp fun σ H R ⟨δ, ds, sr, e, q⟩ => by
    try dsimp only at e
    try dsimp only at ef
    cases ex : fs δ with
    | none => rw [ex] at e; cases e
    | some xs =>
      rw [ex] at e
      refine ⟨δ, xs, sr, ex, fun vs H1 s1 rs => ?_⟩
      have e' : range2D xs = some ds := e
      unfold range2D at e'
      split at e'
      · rename_i i j
        obtain ⟨v, r, rfl, rv, rn⟩ := rs.cons_of
        obtain ⟨v2, r2, rfl, rv2, rn2⟩ := rn.cons_of
        cases rn2.nil_of
        cases rv.int_of
        cases rv2.int_of
        split at e'
        · rename_i hf
          cases e'
          have hi : i.natAbs ≤ 1000 := of_decide_eq_true hf.1
          have hj : j.natAbs ≤ 1000 := of_decide_eq_true hf.2.1
          have hn : (j - i).toNat ≤ 1000 := of_decide_eq_true hf.2.2
          exact ⟨i, j, rfl, ⟨by omega, by omega, by omega, by omega⟩, q _ H1 s1 itd_range (by unfold rangeD; rw [List.length_map, List.length_range]; exact Nat.le_of_lt (small1000 hn))⟩
        · cases e'
      · cases e'

/-! ### targets, by data -/
/-- the target binds data: h; the slots that it touches -/
def TgD (X : Cx) (tg : Expr) (h : D → DS → Option DS) (ks : List Nat) : Prop := ∃ g : TG, PG X tg g ∧ ∀ (v : V) (d : D) (σ : St) (H : Hp) (δ δ' : DS) (Q : St → Hp → Prop), Rep X.K H d v → SRep X.K H σ δ → h d δ = some δ' →
  (∀ σ', SRep X.K H σ' δ' → (∀ k, k ∉ ks → σ'[k]? = σ[k]?) → Q σ' H) → g v σ H Q
def bind1 (i : Nat) : D → DS → Option DS := fun d δ => some (δ.set i (some d))
def bindP (i j : Nat) : D → DS → Option DS := fun d δ => match d with
  | .tup [x, y] => some ((δ.set i (some x)).set j (some y))
  | _ => none
theorem g_name {i : Nat} {x : Str} (hN : X.N.Nodup) (hi : X.N[i]? = some x) (hx : Loc X.env.scope x) (hf : X.fn x = true ∨ X.env.scope.names.lookup x = some .local := by first | exact .inl rfl | exact .inr rfl | assumption) : TgD X (.Name x pos) (bind1 i) [i] :=
  ⟨gName i, pg_name hN hi hx hf, fun v d σ H δ δ' Q rv sr e q => by
    cases e
    exact q _ (sr.set rv i) fun k hk => by rw [List.getElem?_set_ne (fun z => hk (by simp [z]))]⟩
theorem g_pair {i j : Nat} {x y : Str} {px py : Pos} {k : Nat} (hc : X.calm = true) (hN : X.N.Nodup) (hi : X.N[i]? = some x) (hj : X.N[j]? = some y) (hx : Loc X.env.scope x) (hy : Loc X.env.scope y)
    (hf : X.fn x = true ∨ X.env.scope.names.lookup x = some .local := by first | exact .inl rfl | exact .inr rfl | assumption) (hf' : X.fn y = true ∨ X.env.scope.names.lookup y = some .local := by first | exact .inl rfl | exact .inr rfl | assumption) : TgD X (.Tuple [.Name x px, .Name y py] k pos) (bindP i j) [i, j] :=
  ⟨_, pg_tup (n := 2) hc (pgs_cons (pg_name hN hi hx hf) (pgs_cons (pg_name hN hj hy hf') pgs_nil)), fun v d σ H δ δ' Q rv sr e q => by
    unfold bindP at e
    split at e
    · rename_i d1 d2
      cases e
      obtain ⟨a, us, rfl, e2, e3⟩ := rv.tup_of
      obtain ⟨v1, r1, rfl, rv1, rn1⟩ := e3.cons_of
      obtain ⟨v2, r2, rfl, rv2, rn2⟩ := rn1.cons_of
      cases rn2.nil_of
      exact ⟨a, [v1, v2], rfl, SqT.of e2, rfl, v1, [v2], rfl, v2, [], rfl, rfl, q _ ((sr.set rv1 i).set rv2 j) fun k hk => by
        rw [List.getElem?_set_ne (fun z => hk (by simp [z])), List.getElem?_set_ne (fun z => hk (by simp [z]))]⟩
    · cases e⟩
end
end L2

set_option Elab.async false
set_option linter.all false
set_option maxRecDepth 100000
namespace L2
open PySem PySem.Spec PyProof.Rows

/-! ### a comprehension's closure -/
def clF (env : Env) : List (Str × NameKind) → List (Str × Addr) → List (Str × Addr)
  | [], acc => acc
  | (n, k) :: r, acc => clF env r (if k == .free then (n, (env.cells.lookup n).getD 0) :: acc else acc)
def clOf (scope : Scope) (env : Env) : List (Str × Addr) := clF env scope.names []
theorem closureFor_clOf {scope : Scope} {env : Env} (h : ∀ n, (n, NameKind.free) ∈ scope.names → ∃ c, env.cells.lookup n = some c) : closureFor scope env = pure (clOf scope env) := by
  have key : ∀ (l : List (Str × NameKind)) (acc : List (Str × Addr)), (∀ n, (n, NameKind.free) ∈ l → ∃ c, env.cells.lookup n = some c) →
      (forIn l acc fun (x : Str × NameKind) (cs : List (Str × Addr)) => (if (x.2 == NameKind.free) = true then do let a ← cellOf env x.1; pure (ForInStep.yield ((x.1, a) :: cs)) else pure (ForInStep.yield cs) : Sem _)) = pure (clF env l acc) := by
    intro l
    induction l with
    | nil => intro acc _; rfl
    | cons x r ih =>
      intro acc hl
      obtain ⟨n, k⟩ := x
      rw [List.forIn_cons]
      by_cases hk : (k == NameKind.free) = true
      · have hk' : k = .free := eq_of_beq hk
        subst hk'
        obtain ⟨c, hc⟩ := hl n List.mem_cons_self
        have e : cellOf env n = pure c := by unfold cellOf; rw [hc]
        simp only [hk, if_true, e, pure_bind]
        rw [ih _ fun m hm => hl m (List.mem_cons_of_mem _ hm)]
        simp [clF, hc]
      · have hk' : (k == NameKind.free) = false := by simpa using hk
        simp only [hk', Bool.false_eq_true, if_false, pure_bind]
        rw [ih _ fun m hm => hl m (List.mem_cons_of_mem _ hm)]
        simp [clF, hk']
  unfold closureFor clOf
  have := key scope.names [] h
  simp only [bind_pure_comp, bind_pure] at this ⊢
  exact this
theorem clF_lookup {env : Env} : ∀ (l : List (Str × NameKind)) (acc : List (Str × Addr)) (x : Str) (c : Addr), (clF env l acc).lookup x = some c →
    (((x, NameKind.free) ∈ l) ∧ c = (env.cells.lookup x).getD 0) ∨ acc.lookup x = some c
  | [], acc, x, c, h => .inr h
  | (n, k) :: r, acc, x, c, h => by
    unfold clF at h
    rcases clF_lookup r _ x c h with ⟨h1, h2⟩ | h1
    · exact .inl ⟨List.mem_cons_of_mem _ h1, h2⟩
    · by_cases hk : (k == NameKind.free) = true
      · rw [if_pos hk] at h1
        rw [List.lookup_cons] at h1
        by_cases hx : (x == n) = true
        · rw [hx] at h1
          have e := eq_of_beq hx
          subst e
          have hk' : k = .free := eq_of_beq hk
          subst hk'
          cases h1
          exact .inl ⟨List.mem_cons_self, rfl⟩
        · have hx' : (x == n) = false := by simpa using hx
          rw [hx'] at h1
          exact .inr h1
      · rw [if_neg hk] at h1; exact .inr h1
theorem clF_has {env : Env} : ∀ (l : List (Str × NameKind)) (acc : List (Str × Addr)) (x : Str), ((x, NameKind.free) ∈ l ∨ ∃ c, acc.lookup x = some c) → ∃ c, (clF env l acc).lookup x = some c
  | [], acc, x, h => by
    rcases h with h | h
    · cases h
    · exact h
  | (n, k) :: r, acc, x, h => by
    unfold clF
    refine clF_has r _ x ?_
    rcases h with h | ⟨c, h⟩
    · rcases List.mem_cons.mp h with e | e
      · cases e
        refine .inr ⟨(env.cells.lookup n).getD 0, ?_⟩
        rw [if_pos (show (NameKind.free == NameKind.free) = true from rfl), List.lookup_cons, beq_self_eq_true]
      · exact .inl e
    · by_cases hk : (k == NameKind.free) = true
      · rw [if_pos hk, List.lookup_cons]
        by_cases hx : (x == n) = true
        · rw [hx]; exact .inr ⟨_, rfl⟩
        · have hx' : (x == n) = false := by simpa using hx
          rw [hx']; exact .inr ⟨c, h⟩
      · rw [if_neg hk]; exact .inr ⟨c, h⟩

/-- the context within a comprehension's block -/
def cxComp (X : Cx) (scope : Scope) (N' : List Str) (s : Shared) (H : Hp) (fp : List Addr) (C : Addr) : Cx where
  prog := X.prog
  w := X.w
  K := X.K
  mg := X.mg
  base := X.base
  A := X.A
  N := N'
  s₀ := s
  H₀ := H
  env := compEnvC scope (clOf scope X.env) C X.env
  outer := X.stack
  stack := X.stack
  ex := fp
  fn := fun _ => false
  calm := true
  pn := []
  xe := fun _ _ => False

/-- what is read off the text: the block's names, where the free ones stand outside -/
structure CompSc (X : Cx) (scope : Scope) (N' : List Str) (inn : List (Option Nat)) : Prop where
  kind : scope.kind = .function
  nocell : ∀ y ∈ scope.names, y.2 ≠ .cell
  locs : ∀ y ∈ scope.names, y.2 = .local → scope.names.lookup y.1 = some .local
  frees : ∀ y, (y, NameKind.free) ∈ scope.names → scope.names.lookup y = some .free ∧ (X.env.kindOf y = some .cell ∨ X.env.kindOf y = some .free)
  nd : N'.Nodup
  len : inn.length = N'.length
  inn : ∀ (i j : Nat), inn[i]? = some (some j) → ∃ y, N'[i]? = some y ∧ X.N[j]? = some y ∧ (y, NameKind.free) ∈ scope.names
def innD (inn : List (Option Nat)) (δ : DS) : DS := inn.map fun o => o.bind fun j => (δ[j]?).join
def innS (inn : List (Option Nat)) (σ : St) : St := inn.map fun o => o.bind fun j => (σ[j]?).join

theorem relabel_look {env : Env} : ∀ (l : List (Str × NameKind)) (x : Str), (l.map fun (n, k) => if (k == NameKind.free && env.scope.kind == .function && env.kindOf n == some .cell) then (n, NameKind.cell) else (n, k)).lookup x =
    (l.lookup x).map fun k => if (k == NameKind.free && env.scope.kind == .function && env.kindOf x == some .cell) then NameKind.cell else k
  | [], x => rfl
  | (n, k) :: r, x => by
    have ih := relabel_look (env := env) r x
    show List.lookup x ((if (k == NameKind.free && env.scope.kind == .function && env.kindOf n == some .cell) = true then (n, NameKind.cell) else (n, k)) :: _) = _
    cases hx : x == n with
    | true =>
      have e := eq_of_beq hx
      subst e
      by_cases hc : (k == NameKind.free && env.scope.kind == .function && env.kindOf x == some .cell) = true
      · rw [if_pos hc, List.lookup_cons, List.lookup_cons, hx]
        show some NameKind.cell = some (if (k == NameKind.free && env.scope.kind == .function && env.kindOf x == some .cell) = true then NameKind.cell else k)
        rw [if_pos hc]
      · rw [if_neg hc, List.lookup_cons, List.lookup_cons, hx]
        show some k = some (if (k == NameKind.free && env.scope.kind == .function && env.kindOf x == some .cell) = true then NameKind.cell else k)
        rw [if_neg hc]
    | false =>
      by_cases hc : (k == NameKind.free && env.scope.kind == .function && env.kindOf n == some .cell) = true
      · rw [if_pos hc, List.lookup_cons, List.lookup_cons, hx]; exact ih
      · rw [if_neg hc, List.lookup_cons, List.lookup_cons, hx]; exact ih

section
variable {X : Cx} {pins : List (Addr × Obj)} {σ : St} {H : Hp} {s : Shared}
/-- the state within the block, at its entry -/
theorem inv_comp {scope : Scope} {N' : List Str} {inn : List (Option Nat)} {fp : List Addr} {h' : Heap} {C : Addr} (S : CompSc X scope N' inn) (I : Inv X pins σ H s) (hc : X.calm = true) (hCs : s.heap.objs.size ≤ C)
    (hfp : ∀ b ∈ fp, FpOk X pins H b) (hft : ∀ b ∈ fp, b < s.heap.objs.size) (hns : h'.Ns C fun _ => none) (hk : ∀ b o, s.heap.get? b = some o → h'.get? b = some o) (tk : Nat) :
    Inv (cxComp X scope N' s H fp C) [] (innS inn σ) H { s with heap := h', toks := tk } := by
  have hfree : ∀ y, (y, NameKind.free) ∈ scope.names → ∃ c, X.env.cells.lookup y = some c := fun y hy => I.ok.has y (S.frees y hy).2
  have look : ∀ x c, (clOf scope X.env).lookup x = some c → (x, NameKind.free) ∈ scope.names ∧ X.env.cells.lookup x = some c := fun x c e => by
    rcases clF_lookup scope.names [] x c e with ⟨h1, h2⟩ | h1
    · obtain ⟨c', hc'⟩ := hfree x h1
      rw [hc'] at h2
      exact ⟨h1, by rw [hc', h2]; rfl⟩
    · cases h1
  have cellLt : ∀ x c, X.env.cells.lookup x = some c → c < s.heap.objs.size := fun x c e => by
    obtain ⟨v, o, ho, _⟩ := I.cell x c e
    exact Heap.lt_size ho
  refine ⟨⟨I.ok.mod, ?kind, I.ok.glob, I.ok.blt, hCs, ?inj, ?has, ?cab, fun _ => I.ok.hd hc, I.ok.frames, .inl rfl, ?exf, I.bs, ?bsz, ?noex, ?exfs, I.stack, I.stkFree⟩, rfl, I.bare, Un.kept hk, ⟨_, hns, ?loc⟩, ?cell, I.hok.fresh hCs, ?freeC, ?pin, I.hok.kept hk, ?len⟩
  case kind => exact S.kind
  case inj => exact fun x y c h1 h2 => I.ok.inj x y c (look x c h1).2 (look y c h2).2
  case has =>
    intro x hx
    have hx' : (relabel scope X.env).names.lookup x = some .cell ∨ (relabel scope X.env).names.lookup x = some .free := hx
    have e : (relabel scope X.env).names.lookup x = (scope.names.lookup x).map fun k => if (k == NameKind.free && X.env.scope.kind == .function && X.env.kindOf x == some .cell) then NameKind.cell else k := relabel_look scope.names x
    rw [e] at hx'
    cases hl : scope.names.lookup x with
    | none => rw [hl] at hx'; rcases hx' with z | z <;> cases z
    | some k =>
      rw [hl] at hx'
      have hk : k = .free := by
        by_cases hkf : k = .free
        · exact hkf
        · exfalso
          have hb : (k == NameKind.free) = false := by simpa using hkf
          simp only [hb, Bool.false_and, if_false, Option.map_some] at hx'
          rcases hx' with z | z
          · have z' : k = .cell := by simpa using z
            exact S.nocell (x, k) (PySem.mem_of_lookup hl) z'
          · have z' : k = .free := by simpa using z
            exact hkf z'
      subst hk
      exact clF_has scope.names [] x (.inl (PySem.mem_of_lookup hl))
  case cab => exact fun x c h1 _ => absurd h1 (by show ¬ (false = true); decide)
  case exf =>
    intro b hb
    exact ⟨Nat.ne_of_lt (Nat.lt_of_lt_of_le (hft b hb) hCs), fun x c e => (hfp b hb).2.2.2.2.1 x c (look x c e).2⟩
  case bsz => exact Nat.le_trans I.ok.bsz I.sz
  case noex =>
    intro b o e hb
    have hz := (hfp b hb)
    rcases hz.2.2.2.1 with z | z
    · exact I.ok.noex b o e z
    · exact absurd (Nat.lt_of_lt_of_le (Heap.lt_size (I.ok.bs b o e).1) z) (Nat.lt_irrefl _)
  case exfs =>
    intro b hb hz
    rcases List.mem_cons.mp (I.stkSub b hz) with z | z
    · exact (hfp b hb).2.1 z
    · exact (hfp b hb).2.2.1 z
  case loc =>
    intro i x v h1 h2 h3
    unfold innS at h2
    rw [List.getElem?_map] at h2
    cases ho : inn[i]? with
    | none => rw [ho] at h2; cases h2
    | some o =>
      rw [ho] at h2
      cases o with
      | none => cases h2
      | some j =>
        obtain ⟨y, e1, e2, e3⟩ := S.inn i j ho
        have e4 : N'[i]? = some x := h1
        have e4' : y = x := by rw [e1] at e4; exact Option.some.inj e4
        subst e4'
        have h2' : (σ[j]?).join = some v := by simpa using h2
        have h2'' : σ[j]? = some (some v) := by
          cases q : σ[j]? with
          | none => rw [q] at h2'; cases h2'
          | some o => rw [q] at h2'; exact congrArg some h2'
        have vis : Vis X.env.scope y := .inr (S.frees y e3).2
        obtain ⟨m, hn, hl⟩ := I.loc
        obtain ⟨u, r, l⟩ := hl j y v e2 h2'' vis
        refine ⟨u, r, .inr ⟨?_, ?_⟩⟩
        · show (relabel scope X.env).names.lookup y = some .cell ∨ (relabel scope X.env).names.lookup y = some .free
          rw [show (relabel scope X.env).names.lookup y = (scope.names.lookup y).map fun k => if (k == NameKind.free && X.env.scope.kind == .function && X.env.kindOf y == some .cell) then NameKind.cell else k from relabel_look scope.names y, (S.frees y e3).1]
          simp only [Option.map_some]
          split
          · exact .inl rfl
          · exact .inr rfl
        · rcases l with ⟨k, _⟩ | ⟨_, c, hcl, hcell⟩
          · rcases (S.frees y e3).2 with z | z <;> rw [k] at z <;> cases z
          · obtain ⟨c', hc'⟩ := clF_has (env := X.env) scope.names [] y (.inl e3)
            have e5 := (look y c' hc').2
            rw [hcl] at e5; cases e5
            exact ⟨c, hc', let ⟨o, ho, hd⟩ := hcell; ⟨o, hk _ _ ho, hd⟩⟩
  case cell =>
    intro x c e
    obtain ⟨v, o, ho, hd⟩ := I.cell x c (look x c e).2
    exact ⟨v, o, hk _ _ ho, hd⟩
  case freeC => exact fun x c e => I.freeC x c (look x c e).2
  case pin => exact fun p hp => absurd (show p ∈ ([] : List (Addr × Obj)) from hp) (by simp)
  case len =>
    show (innS inn σ).length = N'.length
    unfold innS
    rw [List.length_map, S.len]
theorem srep_inn {K : PySem.W.Frag} {H : Hp} {σ : St} {δ : DS} (inn : List (Option Nat)) (h : SRep K H σ δ) : SRep K H (innS inn σ) (innD inn δ) := by
  refine ⟨by unfold innS innD; rw [List.length_map, List.length_map], fun i d e => ?_⟩
  unfold innD at e
  unfold innS
  rw [List.getElem?_map] at e ⊢
  cases ho : inn[i]? with
  | none => rw [ho] at e; cases e
  | some o =>
    rw [ho] at e
    cases o with
    | none => cases e
    | some j =>
      have e' : (δ[j]?).join = some d := by simpa using e
      obtain ⟨v, h1, h2⟩ := h.get e'
      exact ⟨v, by simp [h1], h2⟩
end

/-! ### the block's loop -/
theorem compLoop_own {prog : Program} {w : World} {A : Around} {R : Result → Shared → Prop} {s : Shared} {elt target iter : Expr} {ifs : List Expr} {scope : Scope} {pos : Pos} {it acc : Value} {env : Env} (I : Nat → Shared → Prop)
    (turn : ∀ n s, I n s → wpAny (model prog w) A (pyNext it) (fun r s₁ => match r with
      | none => R (.ok .next) s₁
      | some v => wpAny (model prog w) A (letOwnedTupleGo target it v) (fun _ s₁' => wpAny (model prog w) A (assign target env v) (fun _ s₂ =>
          wpAny (model prog w) A (forIn ifs true fun c r => if r = true then do let ok ← isTrue c env (eval c env); pure (ForInStep.yield ok) else pure (ForInStep.yield r)) (fun ok s₃ =>
            if ok = true then wpAny (model prog w) A (eval elt env) (fun x s₄ =>
              wpAny (model prog w) A (call (.builtin "list.append") [acc, x]) (fun _ s₅ => ∃ m, m < n ∧ I m s₅) (fun _ _ => False) s₄) (fun _ _ => False) s₃
            else ∃ m, m < n ∧ I m s₃) (fun _ _ => False) s₂) (fun _ _ => False) s₁') (fun _ _ => False) s₁) (fun _ _ => False) s)
    (n : Nat) (h : I n s) :
    codeAny (model prog w) A (.compLoop (.ListComp elt [⟨target, iter, ifs, 0⟩] scope pos) 0 it acc env) R s := by
  refine codeAny_loop rfl I (fun n s hI => ?_) n h
  show wpAny _ A ((compTurn (.ListComp elt [⟨target, iter, ifs, 0⟩] scope pos) 0 it acc env).onRaise (fun x => do noteFrame x env; theTreesLotGoes x)) _ _ s
  refine wpAny_noted ?_
  rw [compTurn_list]
  refine wpAny_bind (wpAny_standAt (wpAny_bind (wpAny_mono (turn n s hI) (fun r s₁ h₁ => ?_) fun _ _ h' => h'.elim)))
  cases r with
  | none => exact wpAny_pure h₁
  | some v =>
    refine wpAny_bind (wpAny_mono h₁ (fun _ s₁' h₁' => ?_) fun _ _ h' => h'.elim)
    refine wpAny_bind (wpAny_mono h₁' (fun _ s₂ h₂ => wpAny_bind (wpAny_mono h₂ (fun ok s₃ h₃ => ?_) fun _ _ h' => h'.elim)) fun _ _ h' => h'.elim)
    cases ok with
    | false => exact wpAny_pure ⟨rfl, h₃⟩
    | true =>
      exact wpAny_bind (wpAny_bind (wpAny_mono h₃ (fun x s₄ h₄ => wpAny_bind (wpAny_mono h₄ (fun _ s₅ h₅ => wpAny_pure (wpAny_pure ⟨rfl, h₅⟩)) fun _ _ h' => h'.elim)) fun _ _ h' => h'.elim))

/-- a comprehension's tests -/
def PIfs (X : Cx) (ifs : List Expr) (f : DS → Option Bool) : Prop :=
  ∀ (pins : List (Addr × Obj)) (s : Shared) (σ : St) (H : Hp) (Q : Bool → Hp → Prop), Inv X pins σ H s → tT X.K f σ H Q →
    wpAny (model X.prog X.w) X.A (forIn ifs true fun c r => if r = true then do let ok ← isTrue c X.env (eval c X.env); pure (ForInStep.yield ok) else pure (ForInStep.yield r)) (TP X pins σ Q) X.xe s
theorem ifs_nil {X : Cx} : PIfs X [] (fun _ => some true) := fun pins s σ H Q I ⟨δ, b, sr, e, q⟩ => by
  cases e
  exact wpAny_tests_nil ⟨H, I, q H (Same.refl H)⟩
theorem ifs_one {X : Cx} {c : Expr} {f : DS → Option Bool} (h : PT X c (tT X.K f)) : PIfs X [c] f := fun pins s σ H Q I q => wpAny_tests_one (h pins s σ H Q I q)

/-- what the block makes: h binds an item, fc is the test, fe the element -/
def compD (h : D → DS → Option DS) (fc : DS → Option Bool) (fe : DS → Option D) (δ : DS) : List D → Option (List D)
  | [] => some []
  | d :: ds => (h d δ).bind fun δ1 => (fc δ1).bind fun c => if c = true then (fe δ1).bind fun x => (compD h fc fe δ1 ds).map fun xs => x :: xs else compD h fc fe δ1 ds
theorem compD_len {h : D → DS → Option DS} {fc : DS → Option Bool} {fe : DS → Option D} : ∀ {ds : List D} {δ : DS} {xs : List D}, compD h fc fe δ ds = some xs → xs.length ≤ ds.length
  | [], δ, xs, e => by cases e; exact Nat.le_refl _
  | d :: ds, δ, xs, e => by
    unfold compD at e
    cases e1 : h d δ with
    | none => rw [e1] at e; cases e
    | some δ1 =>
      rw [e1] at e
      cases e2 : fc δ1 with
      | none => simp [e2] at e
      | some c =>
        cases c with
        | false =>
          have e' : compD h fc fe δ1 ds = some xs := by simpa [e2] using e
          have := compD_len e'
          simp only [List.length_cons]; omega
        | true =>
          cases e3 : fe δ1 with
          | none => simp [e2, e3] at e
          | some x =>
            cases e4 : compD h fc fe δ1 ds with
            | none => simp [e2, e3, e4] at e
            | some ys =>
              have e' : x :: ys = xs := by simpa [e2, e3, e4] using e
              subst e'
              have := compD_len e4
              simp only [List.length_cons]; omega

section
variable {X : Cx} {tg iter elt : Expr} {ifs : List Expr} {scope : Scope} {pos : Pos} {N' : List Str} {inn : List (Option Nat)} {fi : DS → Option (List D)} {h : D → DS → Option DS} {fc : DS → Option Bool} {fe : DS → Option D} {ks : List Nat}

theorem HOk.adopt {P : Program} {w : World} {H : Hp} {h : Heap} {a : Addr} {o : HO} (x : HOk P w H h) (hn : H a = none) (new : ObjOk P w (upd H a o) h a o) : HOk P w (upd H a o) h := fun b u e => by
  by_cases hb : b = a
  · subst hb
    rw [upd_same] at e; cases e
    exact new
  · rw [upd_ne hb] at e
    exact (x b u e).stay (fun _ _ _ q => q) (fun c q => by rw [upd_ne (ne_of_none q hn)]; exact q) fun c xs q => by rw [upd_ne (ne_of_none q hn)]; exact q
theorem Un.adopt {fs ex : List Addr} {H H1 : Hp} {h h1 : Heap} {a : Addr} {o : HO} (u : Un fs ex H H1 h h1) (hp : h.objs.size ≤ a) (hn : H a = none) : Un fs ex H (upd H1 a o) h h1 where
  keep := u.keep
  slot := u.slot
  free := fun b ob q n hx => by rw [upd_ne (Nat.ne_of_lt (Nat.lt_of_lt_of_le (Heap.lt_size q) hp))]; exact u.free b ob q n hx
  there := u.there
  tups := fun b xs q => by rw [upd_ne (ne_of_none q hn)]; exact u.tups b xs q
  frzs := fun b ob xs q => by rw [upd_ne (ne_of_none q hn)]; exact u.frzs b ob xs q
  tbls := fun b ps q => by rw [upd_ne (ne_of_none q hn)]; exact u.tbls b ps q
/-- the block from its iterator on: RR is what is wanted behind it, at a state that is the outer one's again -/
theorem comp_block (hc : X.calm = true) (S : CompSc X scope N' inn)
    (hin : ∀ (s : Shared) (H : Hp) (fp : List Addr) (C : Addr), TgD (cxComp X scope N' s H fp C) tg h ks ∧ PIfs (cxComp X scope N' s H fp C) ifs fc ∧ PE (cxComp X scope N' s H fp C) elt (tD X.K fe))
    {pins : List (Addr × Obj)} {σ : St} {H₀ : Hp} {δ : DS} {ds ys : List D} {s₂ : Shared} {it : Addr} {fp : List Addr} {tn : Nat → Heap → Prop} {J : It} {gh : List (V × D)} {E : Value → Shared → Prop} {RR : Value → Addr → Result → Shared → Prop}
    (I : Inv X pins σ H₀ s₂) (T : Turn X.prog X.w X.K tg J fp it tn) (st : tn 0 s₂.heap) (hfp : ∀ b ∈ fp, FpOk X pins H₀ b) (sr : SRep X.K H₀ σ δ) (hg : GRep X.K H₀ gh) (hJ : ItD X.K J gh ds) (hlen : ds.length ≤ sizeLine) (hys : compD h fc fe (innD inn δ) ds = some ys)
    (fin : ∀ (a C : Addr) (xs : List V) (H' : Hp) (s' : Shared) (m : Str → Option Value), H₀ a = none → Same H₀ H' → H' a = some (.lst xs) → Reps X.K H' ys xs → Inv X pins σ H' s' → s'.heap.Ns C m → FpOk X pins H' C → RR (.ref a) C (.ok .next) s') :
    wpAny (model X.prog X.w) X.A (newList []) (fun acc s₃ => wpAny (model X.prog X.w) X.A (newFunctionEnv scope X.env.globals (clOf scope X.env) [] X.env.qual none .none (some X.env)) (fun cenv s₄ =>
      codeAny (model X.prog X.w) X.A (.compStart (.ListComp elt [⟨tg, iter, ifs, 0⟩] scope pos) 0 (.ref it) acc { cenv with scope := relabel scope X.env }) (RR acc cenv.locals) s₄) E s₃) E s₂ := by
  have fpLt : ∀ b ∈ fp, b < s₂.heap.objs.size := fun b hb => by
    obtain ⟨o, e, _⟩ := T.obj 0 _ st b hb
    exact Heap.lt_size e
  refine wpAny_newObj_type ?_
  have hD : H₀ s₂.heap.objs.size = none := I.hok.fresh (Nat.le_refl _)
  refine wpAny_newFunctionEnv S.nocell (by intro y hy; simp at hy) (fun h₁ hns₁ hsb₁ => ?_) S.kind
  dsimp only at hns₁ hsb₁ ⊢
  generalize hH3 : s₂.heap.push { cls := .type "list", dict := none, data := .seq ([] : List Value).toArray } = H3 at hns₁ hsb₁ ⊢
  have hCe : H3.objs.size = s₂.heap.objs.size + 1 := by rw [← hH3, Heap.size_push]
  have hDC : s₂.heap.objs.size ≠ H3.objs.size := by rw [hCe]; exact Nat.ne_of_lt (Nat.lt_succ_self _)
  have hCle : s₂.heap.objs.size ≤ H3.objs.size := by rw [hCe]; exact Nat.le_succ _
  have old : ∀ b o, s₂.heap.get? b = some o → h₁.get? b = some o := fun b o e =>
    hsb₁.extBut b o (by rw [hCe]; exact Nat.ne_of_lt (Nat.lt_succ_of_lt (Heap.lt_size e))) (Heap.get?_push_of_some _ (hH3 ▸ Heap.get?_push_of_some _ e))
  have hacc : h₁.PlainList s₂.heap.objs.size #[] := ⟨_, hsb₁.extBut _ _ hDC (Heap.get?_push_of_some _ (hH3 ▸ Heap.get?_push_size _ rfl))⟩
  have st4 : tn 0 h₁ := T.keep _ _ _ st fun b _ o e => old b o e
  have I4 := inv_comp S I hc hCle hfp fpLt (by simpa using hns₁) old (s₂.toks + ([] : List (Str × Value)).length)
  have sr4 : SRep X.K H₀ (innS inn σ) (innD inn δ) := srep_inn inn sr
  obtain ⟨⟨g, hg1, hg2⟩, hif, hel⟩ := hin s₂ H₀ fp H3.objs.size
  generalize hX' : cxComp X scope N' s₂ H₀ fp H3.objs.size = X' at I4 hg1 hg2 hif hel
  have e1 : X'.prog = X.prog := by rw [← hX']; rfl
  have e2 : X'.w = X.w := by rw [← hX']; rfl
  have e3 : X'.A = X.A := by rw [← hX']; rfl
  have e4 : X'.K = X.K := by rw [← hX']; rfl
  have e5 : X'.calm = true := by rw [← hX']; rfl
  have e6 : X'.env = compEnvC scope (clOf scope X.env) H3.objs.size X.env := by rw [← hX']; rfl
  have e7 : X'.xe = fun _ _ => False := by rw [← hX']; rfl
  have e8 : X'.s₀ = s₂ := by rw [← hX']; rfl
  have e9 : X'.fs = frs X.stack := by rw [← hX']; rfl
  have e10 : X'.pn = [] := by rw [← hX']; rfl
  have e11 : X'.env.locals = H3.objs.size := by rw [e6]; rfl
  have fpx : ∀ b ∈ fp, b ∈ X'.ex := fun b hb => by rw [← hX']; exact hb
  -- the accumulator is a record of the block's own
  have accOk : ∀ {σ' : St} {H' : Hp} {s' : Shared}, Inv X' [] σ' H' s' → s₂.heap.objs.size ≠ X'.env.locals ∧ s₂.heap.objs.size ∉ X'.fs ∧ (s₂.heap.objs.size ∈ X'.ex ∨ X'.s₀.heap.objs.size ≤ s₂.heap.objs.size) ∧ (∀ x c, X'.env.cells.lookup x = some c → c ≠ s₂.heap.objs.size) := fun {σ' H' s'} I' => by
    refine ⟨by rw [e11]; exact hDC, ?_, .inr (by rw [e8]; exact Nat.le_refl _), fun x c e z => ?_⟩
    · rw [e9]
      intro hb
      rcases List.mem_cons.mp (I.stkSub _ hb) with z | z
      · exact absurd I.lt (by rw [← z]; exact Nat.lt_irrefl _)
      · exact I.nofs (Nat.le_refl _) z
    · rw [e6] at e
      rcases clF_lookup scope.names [] x c e with ⟨h1, h2⟩ | h1
      · obtain ⟨c', hc'⟩ := I.ok.has x (S.frees x h1).2
        rw [hc'] at h2
        have h2' : c = c' := h2
        subst h2'
        obtain ⟨v, o, ho, _⟩ := I.cell x c hc'
        exact absurd (Heap.lt_size ho) (by rw [z]; exact Nat.lt_irrefl _)
      · cases h1
  have loop : ∀ s₄ : Shared, s₄ = { s₂ with heap := h₁, toks := s₂.toks + ([] : List (Str × Value)).length } →
      codeAny (model X.prog X.w) X.A (.compLoop (.ListComp elt [⟨tg, iter, ifs, 0⟩] scope pos) 0 (.ref it) (.ref s₂.heap.objs.size) (compEnvC scope (clOf scope X.env) H3.objs.size X.env)) (RR (.ref s₂.heap.objs.size) H3.objs.size) s₄ := by
    rintro s₄ rfl
    have noPin : ∀ p ∈ X'.pn ++ ([] : List (Addr × Obj)), False := fun p hp => by rw [e10] at hp; cases hp
    -- what stays true of the iterator's objects
    have stat : ∀ {σ' : St} {H' : Hp} {s' : Shared}, Inv X' [] σ' H' s' → (∀ b ∈ fp, H' b = none) → ∀ b ∈ fp, FpOk X' [] H' b := fun {σ' H' s'} I' hn b hb =>
      ⟨hn b hb, (I'.ok.exf b (fpx b hb)).1, I'.ok.exfs b (fpx b hb), .inl (fpx b hb), fun x c e => (I'.ok.exf b (fpx b hb)).2 x c e, fun p hp => (noPin p hp).elim⟩
    refine compLoop_own (fun n s' => ∃ (i : Nat) (σ' : St) (H' : Hp) (δ' : DS) (rest : List D) (us : List V) (its : List Value), Inv X' [] σ' H' s' ∧ tn i s'.heap ∧ (∀ b ∈ fp, H' b = none) ∧ H' s₂.heap.objs.size = none ∧ s'.heap.PlainList s₂.heap.objs.size its.toArray ∧ Vals us its ∧
      n = ds.length + 1 - i ∧ i ≤ ds.length ∧ ds.drop i = rest ∧ SRep X.K H' σ' δ' ∧
      GRep X.K H' gh ∧ Same H₀ H' ∧ us.length ≤ i ∧ ∃ ws vs', compD h fc fe δ' rest = some ws ∧ ys = vs' ++ ws ∧ Reps X.K H' vs' us) ?_ (ds.length + 1)
      ⟨0, innS inn σ, H₀, innD inn δ, ds, [], [], I4, st4, fun b hb => (hfp b hb).1, hD, hacc, .nil, rfl, Nat.zero_le _, rfl, sr4, hg, Same.refl _, Nat.zero_le _, ys, [], hys, rfl, reps_nil⟩
    rintro n s' ⟨i, σ', H', δ', rest, us, its, I', st', fr', hDn, hpl, hvs, hn, hi, hrest, sr', hg', same', hul, ws, vs', hws, hyv, hrv⟩
    have hDf : s₂.heap.objs.size ∉ fp := fun z => Nat.lt_irrefl _ (fpLt _ z)
    -- the iterator turns: the accumulator stays
    cases rest with
    | nil =>
      have hil : i = ds.length := by
        have := congrArg List.length hrest
        rw [List.length_drop, List.length_nil] at this; omega
      subst hil
      obtain ⟨na, hna⟩ := id hpl
      have I'p : Inv X' ([(s₂.heap.objs.size, _)]) σ' H' s' := I'.pins_of fun p hp => by
        have e : p = (s₂.heap.objs.size, _) := List.mem_singleton.mp hp
        subst e
        exact ⟨hna, hDn, (accOk I').1, (accOk I').2.1, fun v z => nomatch z⟩
      have fpo : ∀ b ∈ fp, FpOk X' [(s₂.heap.objs.size, { cls := .type "list", data := .seq its.toArray na })] H' b := fun b hb => by
        obtain ⟨f0, f1, f2, f3, f4, f5⟩ := stat I' fr' b hb
        refine ⟨f0, f1, f2, f3, f4, fun p hp => ?_⟩
        rcases List.mem_append.mp hp with z | z
        · exact f5 p (List.mem_append_left _ z)
        · have e : p = _ := List.mem_singleton.mp z
          subst e
          exact Nat.ne_of_gt (fpLt b hb)
      have := T.done X' e1 e2 e4 e5 _ _ s' σ' H' (fun _ _ => False) I'p fpo st' (hJ.stop H' hg')
      rw [e3] at this
      refine thn this fun r s1 ⟨hr, I1⟩ => ?_
      subst hr
      cases hws
      rw [List.append_nil] at hyv
      subst hyv
      have hpin := (I1.pin _ (List.mem_append_right _ (List.mem_singleton.mpr rfl))).1
      have hb := I1.base
      have hsz : us.length ≤ sizeLine := by omega
      have I6 : Inv X pins σ (upd H' s₂.heap.objs.size (.lst us)) s1 := by
        refine I.call' (ch := fp) ?_ (Un.adopt ?_ (Nat.le_refl _) hD) (HOk.adopt ?_ hDn ⟨hsz, its, na, hvs, hpin⟩) I1.bare ?_
        · have := I1.os; rw [e8] at this; exact this
        · rw [← hX'] at hb; exact hb
        · have := I1.hok; rw [e1, e2] at this; exact this
        · intro b hb
          obtain ⟨f0, f1, f2, f3, f4, f5⟩ := hfp b hb
          exact ⟨f3, f1, f4, f5⟩
      obtain ⟨m, hm, _⟩ := I1.loc
      have hfC := I1.free
      rw [e11] at hm hfC
      have SD : Same H' (upd H' s₂.heap.objs.size (.lst us)) := same_new hDn _
      refine fin _ _ us _ s1 m hD (same'.trans SD) upd_same (hrv.mono SD) I6 hm ?_
      exact I.fpOk hCle (by rw [upd_ne (Ne.symm hDC)]; exact hfC)
    | cons d rest =>
      have hlt : i < ds.length := by
        have := congrArg List.length hrest
        rw [List.length_drop, List.length_cons] at this; omega
      have hd : ds[i]? = some d ∧ ds.drop (i + 1) = rest := by
        rw [List.drop_eq_getElem_cons hlt] at hrest
        injection hrest with z1 z2
        exact ⟨by rw [List.getElem?_eq_getElem hlt, z1], z2⟩
      obtain ⟨na, hna⟩ := id hpl
      have I'p : Inv X' ([(s₂.heap.objs.size, { cls := .type "list", data := .seq its.toArray na })]) σ' H' s' := I'.pins_of fun p hp => by
        have e : p = (s₂.heap.objs.size, _) := List.mem_singleton.mp hp
        subst e
        exact ⟨hna, hDn, (accOk I').1, (accOk I').2.1, fun v z => nomatch z⟩
      have stat2 : ∀ {σ' : St} {H' : Hp} {s' : Shared}, Inv X' [] σ' H' s' → (∀ b ∈ fp, H' b = none) → ∀ b ∈ fp, FpOk X' [(s₂.heap.objs.size, { cls := .type "list", data := .seq its.toArray na })] H' b := fun {σ' H' s'} I' hn b hb => by
        obtain ⟨f0, f1, f2, f3, f4, f5⟩ := stat I' hn b hb
        refine ⟨f0, f1, f2, f3, f4, fun p hp => ?_⟩
        rcases List.mem_append.mp hp with z | z
        · exact f5 p (List.mem_append_left _ z)
        · have e : p = _ := List.mem_singleton.mp z
          subst e
          exact Nat.ne_of_gt (fpLt b hb)
      have unp : ∀ {pl : List (Addr × Obj)} {σ' : St} {H' : Hp} {s' : Shared}, Inv X' pl σ' H' s' → Inv X' [] σ' H' s' := fun I' => I'.pins_of fun p hp => nomatch hp
      have := T.item X' e1 e2 e4 e5 i _ s' σ' H' (fun _ _ => False) I'p (stat2 I' fr') st' (hJ.go i H' hg' hlt)
      rw [e3] at this
      refine thn this fun r s1 ⟨u, hr, h1⟩ => ?_
      subst hr
      refine thn h1 fun _ s5 ⟨x, H5, I5, r5, y5, st5, fr5⟩ => ?_
      obtain ⟨S5, rx⟩ := hJ.yld i H' x H5 d hg' hd.1 y5
      unfold compD at hws
      cases eb : h d δ' with
      | none => rw [eb] at hws; cases hws
      | some δ1 =>
        rw [eb] at hws
        cases ec : fc δ1 with
        | none => simp [ec] at hws
        | some c =>
          have I5' := I5.pinned (stat2 (unp I5) fr5) (T.obj _ _ st5)
          have W := hg1 _ s5 σ' H5 x u (fun σ6 H6 => H6 = H5 ∧ SRep X.K H6 σ6 δ1) I5' r5 (by
            refine hg2 x d σ' H5 δ' δ1 _ ?_ ?_ eb fun σ6 sr6 _ => ⟨rfl, by rw [e4] at sr6; exact sr6⟩
            · rw [e4]; exact rx
            · rw [e4]; exact sr'.mono S5)
          rw [e1, e2, e3, e6, e7] at W
          refine thn W fun _ s6 ⟨σ6, H6, I6, hH6, sr6⟩ => ?_
          subst hH6
          have W2 := hif _ s6 σ6 H6 (fun b H7 => b = c ∧ Same H6 H7) I6 (by rw [e4]; exact ⟨δ1, c, sr6, ec, fun H7 s7 => ⟨rfl, s7⟩⟩)
          rw [e1, e2, e3, e6, e7] at W2
          refine thn W2 fun ok s7 ⟨H7, I7, hok, S7⟩ => ?_
          subst hok
          -- the pinned things are as they were
          have again : ∀ {σ8 : St} {H8 : Hp} {s8 : Shared}, Inv X' ([(s₂.heap.objs.size, { cls := .type "list", data := .seq its.toArray na })] ++ pinsAt fp s5.heap) σ8 H8 s8 → Inv X' [] σ8 H8 s8 ∧ tn (i + 1) s8.heap ∧ (∀ b ∈ fp, H8 b = none) ∧ s8.heap.get? s₂.heap.objs.size = some { cls := .type "list", data := .seq its.toArray na } ∧ H8 s₂.heap.objs.size = none := fun {σ8 H8 s8} I8 =>
            ⟨unp I8, T.keep _ _ _ st5 fun b hb o e => (I8.pin (b, o) (List.mem_append_right _ (List.mem_append_right _ (mem_pinsAt hb e)))).1, fun b hb => by
              obtain ⟨o, e, _⟩ := T.obj _ _ st5 b hb
              exact (I8.pin (b, o) (List.mem_append_right _ (List.mem_append_right _ (mem_pinsAt hb e)))).2.1,
              (I8.pin _ (List.mem_append_right _ (List.mem_append_left _ (List.mem_singleton.mpr rfl)))).1, (I8.pin _ (List.mem_append_right _ (List.mem_append_left _ (List.mem_singleton.mpr rfl)))).2.1⟩
          have S57 : Same H' H7 := S5.trans S7
          cases ok with
          | false =>
            rw [if_neg (by decide)]
            have hws' : compD h fc fe δ1 rest = some ws := by simpa [ec] using hws
            obtain ⟨I8, st8, fr8, ha8, hn8⟩ := again I7
            exact ⟨ds.length + 1 - (i + 1), by omega, i + 1, σ6, H7, δ1, rest, us, its, I8, st8, fr8, hn8, ⟨na, ha8⟩, hvs, rfl, hlt, hd.2, sr6.mono S7, hg'.mono S57, same'.trans S57, by omega, ws, vs', hws', hyv, hrv.mono S57⟩
          | true =>
            rw [if_pos rfl]
            cases ee : fe δ1 with
            | none => simp [ec, ee] at hws
            | some z =>
              cases ew : compD h fc fe δ1 rest with
              | none => simp [ec, ee, ew] at hws
              | some ws' =>
                have hws' : z :: ws' = ws := by simpa [ec, ee, ew] using hws
                subst hws'
                have W3 := hel _ s7 σ6 H7 (fun v H8 => Same H7 H8 ∧ Rep X.K H8 z v) I7 ⟨δ1, z, sr6.mono S7, ee, fun v H8 s8 rv => ⟨s8, rv⟩⟩
                rw [e1, e2, e3, e6, e7] at W3
                refine thn W3 fun v8 s8 ⟨vz, H8, I8, rz, S8, rvz⟩ => ?_
                have S08 : Same H' H8 := S57.trans S8
                obtain ⟨I9, st9, fr9, ha9, hn9⟩ := again I8
                have hil : its.length = us.length := hvs.length.symm
                refine wpAny_list_append_plain (hsz := by rw [List.size_toArray]; omega) ⟨na, ha9⟩ fun h₅ hl₅ hs₅ => ?_
                have a9 := accOk I9
                have I10 : Inv X' [] σ6 H8 { s8 with heap := h₅ } := I9.turned (t' := s8.toks) (fun b o hb e => hs₅.extBut b o hb e) hn9 a9.1 a9.2.2.1 a9.2.2.2 fun p hp => (noPin p hp).elim
                refine ⟨ds.length + 1 - (i + 1), by omega, i + 1, σ6, H8, δ1, rest, us ++ [vz], its ++ [v8], I10, T.keep _ _ _ st9 fun b hb o e => hs₅.extBut b o (fun z => hDf (z ▸ hb)) e, fr9, hn9, by simpa using hl₅, hvs.append (.cons rz .nil), rfl, hlt, hd.2, sr6.mono (S7.trans S8), hg'.mono S08, same'.trans S08, ?_, ws', vs' ++ [z], ew, ?_, (hrv.mono S08).append (reps_cons rvz reps_nil)⟩
                · rw [List.length_append, List.length_singleton]; omega
                · rw [hyv, List.append_assoc]; rfl
  exact codeAny_compStart_list (loop _ rfl) (T.self _ 0 _ _ _ st4 (loop _ rfl))

/-- [elt for tg in iter if ..] -/
theorem f_comp (hc : X.calm = true) (S : CompSc X scope N' inn) (hi : PI X tg iter (tI X.K fi))
    (hin : ∀ (s : Shared) (H : Hp) (fp : List Addr) (C : Addr), TgD (cxComp X scope N' s H fp C) tg h ks ∧ PIfs (cxComp X scope N' s H fp C) ifs fc ∧ PE (cxComp X scope N' s H fp C) elt (tD X.K fe))
    (hs : ∀ x, foldedSetIterable iter X.env x = pure x := by intro _; rfl) :
    PE X (.ListComp elt [⟨tg, iter, ifs, 0⟩] scope pos) (tF X.K fun δ => (fi δ).bind fun ds => compD h fc fe (innD inn δ) ds) := by
  intro pins s σ H Q I ⟨δ, ys, sr, e, q⟩
  try dsimp only at e
  try dsimp only at ef
  cases ei : fi δ with
  | none => rw [ei] at e; cases e
  | some ds =>
    rw [ei] at e
    have hys : compD h fc fe (innD inn δ) ds = some ys := e
    have hcl : closureFor scope X.env = pure (clOf scope X.env) := closureFor_clOf fun y hy => I.ok.has y (S.frees y hy).2
    rw [eval_ListComp]
    refine wpAny_comprehension_free (use := none) rfl hs hcl S.kind S.locs (thn (hi pins s σ H (fun J H' => ∃ gh, Same H H' ∧ GRep X.K H' gh ∧ ItD X.K J gh ds ∧ ds.length ≤ sizeLine) I ⟨δ, ds, sr, ei, fun J gh H' s' g i l => ⟨gh, s', g, i, l⟩⟩) fun v s1 h1 => thn h1 fun itv s2 h2 => ?_)
    obtain ⟨it, fp, tn, J, H2, rfl, I2, T, st, hfp, gh, S2, hg, hJ, hl⟩ := h2
    refine comp_block (RR := fun acc C => compPost (model X.prog X.w) X.A X.xe none (EP X pins σ Q) acc C) hc S hin I2 T st hfp (sr.mono S2) hg hJ hl hys ?_
    intro a C xs H' s' m ha S' ha' hr I' hm fC
    refine ⟨m, hm, fun h'' hs'' => ?_⟩
    obtain ⟨f0, f1, f2, f3, f4, f5⟩ := fC
    exact ⟨.ref a, H', I'.turned (t' := s'.toks) (fun b o hb e => hs''.extBut b o hb e) f0 f1 f3 f4 f5, rfl, q a xs H' (S2.free ha) (S2.trans S') ha' hr⟩
theorem d_comp (hc : X.calm = true) (S : CompSc X scope N' inn) (hi : PI X tg iter (tI X.K fi))
    (hin : ∀ (s : Shared) (H : Hp) (fp : List Addr) (C : Addr), TgD (cxComp X scope N' s H fp C) tg h ks ∧ PIfs (cxComp X scope N' s H fp C) ifs fc ∧ PE (cxComp X scope N' s H fp C) elt (tD X.K fe))
    (hs : ∀ x, foldedSetIterable iter X.env x = pure x := by intro _; rfl) :
    PE X (.ListComp elt [⟨tg, iter, ifs, 0⟩] scope pos) (tD X.K fun δ => ((fi δ).bind fun ds => compD h fc fe (innD inn δ) ds).map D.lst) := d_of_f (f_comp hc S hi hin hs)
end
end L2

set_option Elab.async false
set_option linter.all false
set_option maxRecDepth 100000
namespace L2
open PySem PySem.Spec PyProof.Rows

/-! ### statements by data. H₀: the abstract heap at the def's entry; gh: what a loop around walks; ow: the slots whose lists are the def's own -/
inductive DF where
  | nx (δ : DS) | rt (d : D) | bk (δ : DS) | ct (δ : DS)
structure SOk (K : PySem.W.Frag) (H₀ : Hp) (gh : List (V × D)) (ow : List Nat) (H : Hp) (σ : St) (δ : DS) : Prop where
  same : Same H₀ H
  rep : SRep K H σ δ
  gr : GRep K H gh
  own : ∀ i ∈ ow, ∀ a, σ[i]? = some (some (.ref a)) → H₀ a = none
def DF.ok (K : PySem.W.Frag) (H₀ : Hp) (gh : List (V × D)) (ow owL : List Nat) (E : Ends) : DF → Prop
  | .nx δ => ∀ σ H, SOk K H₀ gh ow H σ δ → E.nx σ H
  | .rt d => ∀ v H, Same H₀ H → Rep K H d v → E.rt v H
  | .bk δ => ∀ σ H, SOk K H₀ gh owL H σ δ → E.bk σ H
  | .ct δ => ∀ σ H, SOk K H₀ gh owL H σ δ → E.ct σ H
def tS (K : PySem.W.Frag) (H₀ : Hp) (gh : List (V × D)) (ow ow' owL : List Nat) (g : DS → Option DF) : TS := fun E σ H => ∃ δ fl, SOk K H₀ gh ow H σ δ ∧ g δ = some fl ∧ fl.ok K H₀ gh ow' owL E
theorem SOk.weak {K : PySem.W.Frag} {H₀ : Hp} {gh : List (V × D)} {ow ow' : List Nat} {H : Hp} {σ : St} {δ : DS} (h : SOk K H₀ gh ow H σ δ) (s : ∀ i ∈ ow', i ∈ ow) : SOk K H₀ gh ow' H σ δ := ⟨h.same, h.rep, h.gr, fun i hi => h.own i (s i hi)⟩
theorem SOk.mono {K : PySem.W.Frag} {H₀ : Hp} {gh : List (V × D)} {ow : List Nat} {H H' : Hp} {σ : St} {δ : DS} (h : SOk K H₀ gh ow H σ δ) (s : Same H H') : SOk K H₀ gh ow H' σ δ := ⟨h.same.trans s, h.rep.mono s, h.gr.mono s, h.own⟩
theorem SOk.set {K : PySem.W.Frag} {H₀ : Hp} {gh : List (V × D)} {ow : List Nat} {H : Hp} {σ : St} {δ : DS} {d : D} {v : V} (h : SOk K H₀ gh ow H σ δ) (r : Rep K H d v) (i : Nat) : SOk K H₀ gh (ow.filter (· ≠ i)) H (σ.set i (some v)) (δ.set i (some d)) := by
  refine ⟨h.same, h.rep.set r i, h.gr, fun j hj a e => ?_⟩
  obtain ⟨hj1, hj2⟩ := List.mem_filter.mp hj
  have hne : j ≠ i := of_decide_eq_true hj2
  rw [List.getElem?_set_ne (Ne.symm hne)] at e
  exact h.own j hj1 a e
theorem SOk.setOwn {K : PySem.W.Frag} {H₀ : Hp} {gh : List (V × D)} {ow : List Nat} {H : Hp} {σ : St} {δ : DS} {d : D} {a : Addr} (h : SOk K H₀ gh ow H σ δ) (r : Rep K H d (.ref a)) (ha : H₀ a = none) (i : Nat) : SOk K H₀ gh (i :: ow) H (σ.set i (some (.ref a))) (δ.set i (some d)) := by
  refine ⟨h.same, h.rep.set r i, h.gr, fun j hj b e => ?_⟩
  by_cases hji : j = i
  · subst hji
    rw [List.getElem?_set_self'] at e
    cases hq : σ[j]? with
    | none => rw [hq] at e; cases e
    | some o => rw [hq] at e; cases e; exact ha
  · rw [List.getElem?_set_ne (Ne.symm hji)] at e
    exact h.own j ((List.mem_cons.mp hj).resolve_left hji) b e

section
variable {X : Cx} {H₀ : Hp} {gh : List (V × D)} {ow ow1 ow' owL : List Nat} {a b e : Expr} {es : List Expr} {pos p : Pos} {fa fb : DS → Option D} {st : Stmt} {sts : List Stmt} {g g' : DS → Option DF}

theorem s_nil : PSs X [] (tS X.K H₀ gh ow ow owL fun δ => some (.nx δ)) := PSs.imp pss_nil fun E σ H ⟨δ, fl, so, e, q⟩ => by
  cases e
  exact q σ H so
def seqF (g g' : DS → Option DF) : DS → Option DF := fun δ => (g δ).bind fun fl => match fl with
  | .nx δ' => g' δ'
  | fl => some fl
theorem s_cons (h1 : PS X st (tS X.K H₀ gh ow ow1 owL g)) (h2 : PSs X sts (tS X.K H₀ gh ow1 ow' owL g')) : PSs X (st :: sts) (tS X.K H₀ gh ow ow' owL (seqF g g')) := PSs.imp (pss_cons h1 h2) fun E σ H ⟨δ, fl, so, e, q⟩ => by
  unfold seqF at e
  cases eg : g δ with
  | none => rw [eg] at e; cases e
  | some f1 =>
    rw [eg] at e
    refine ⟨δ, f1, so, eg, ?_⟩
    cases f1 with
    | nx δ' => exact fun σ' H' so' => ⟨δ', fl, so', e, q⟩
    | rt d => cases e; exact q
    | bk δ' => cases e; exact q
    | ct δ' => cases e; exact q
theorem s_one (h1 : PS X st (tS X.K H₀ gh ow ow' owL g)) : PSs X [st] (tS X.K H₀ gh ow ow' owL g) := pss_one h1
theorem s_ret (ha : PE X a (tD X.K fa)) : PS X (.Return (some a) pos) (tS X.K H₀ gh ow ow' owL fun δ => (fa δ).map .rt) := PS.imp (ps_ret ha) fun E σ H ⟨δ, fl, so, e, q⟩ => by
  dsimp only at e
  cases ea : fa δ with
  | none => rw [ea] at e; cases e
  | some d => rw [ea] at e; cases e; exact ⟨δ, d, so.rep, ea, fun v H' s rv => q v H' (so.same.trans s) rv⟩
theorem s_break : PS X (.Break pos) (tS X.K H₀ gh owL ow' owL fun δ => some (.bk δ)) := PS.imp ps_break fun E σ H ⟨δ, fl, so, e, q⟩ => by cases e; exact q σ H so
theorem s_continue : PS X (.Continue pos) (tS X.K H₀ gh owL ow' owL fun δ => some (.ct δ)) := PS.imp ps_continue fun E σ H ⟨δ, fl, so, e, q⟩ => by cases e; exact q σ H so
theorem s_pass : PS X (.Pass pos) (tS X.K H₀ gh ow ow owL fun δ => some (.nx δ)) := PS.imp ps_pass fun E σ H ⟨δ, fl, so, e, q⟩ => by cases e; exact q σ H so
theorem s_doc {x : Str} {j : Nat} {pos' : Pos} : PS X (.Expr (.Constant (.str x) j pos) pos') (tS X.K H₀ gh ow ow owL fun δ => some (.nx δ)) := PS.imp ps_doc fun E σ H ⟨δ, fl, so, e, q⟩ => by cases e; exact q σ H so
/-- fewer own slots -/
theorem ss_weak (ow2 : List Nat) (s : ∀ i ∈ ow2, i ∈ ow') (h : PSs X sts (tS X.K H₀ gh ow ow' owL g)) : PSs X sts (tS X.K H₀ gh ow ow2 owL g) := PSs.imp h fun E σ H ⟨δ, fl, so, e, q⟩ => ⟨δ, fl, so, e, by
  cases fl with
  | nx δ' => exact fun σ' H' so' => q σ' H' (so'.weak s)
  | rt d => exact q
  | bk d => exact q
  | ct d => exact q⟩
theorem s_if {c : Expr} {ys zs : List Stmt} {tc : DS → Option Bool} (hc : PT X c (tT X.K tc)) (hy : PSs X ys (tS X.K H₀ gh ow ow' owL g)) (hz : PSs X zs (tS X.K H₀ gh ow ow' owL g')) :
    PS X (.If c ys zs pos) (tS X.K H₀ gh ow ow' owL fun δ => (tc δ).bind fun k => if k = true then g δ else g' δ) := PS.imp (ps_if hc hy hz) fun E σ H ⟨δ, fl, so, e, q⟩ => by
  dsimp only at e
  cases et : tc δ with
  | none => rw [et] at e; cases e
  | some k =>
    rw [et] at e
    refine ⟨δ, k, so.rep, et, fun H' s => ?_⟩
    have e' : (if k = true then g δ else g' δ) = some fl := e
    cases k with
    | true => exact iteT ⟨δ, fl, so.mono s, e', q⟩
    | false => exact iteF ⟨δ, fl, so.mono s, e', q⟩
/-- x = e -/
theorem s_set (i : Nat) {x : Str} {pos' : Pos} (hN : X.N.Nodup) (hi : X.N[i]? = some x) (hx : Loc X.env.scope x) (ha : PE X a (tD X.K fa)) (hs : swapsWith a (some (.Name x pos')) pos.line X.env = pure false := by rfl)
    (hf : X.fn x = true ∨ X.env.scope.names.lookup x = some .local := by first | exact .inl rfl | exact .inr rfl | assumption) :
    PS X (.Assign [.Name x pos'] a pos) (tS X.K H₀ gh ow (ow.filter (· ≠ i)) owL fun δ => (fa δ).map fun d => .nx (δ.set i (some d))) := PS.imp (ps_set hN hi hx ha hs hf) fun E σ H ⟨δ, fl, so, e, q⟩ => by
  dsimp only at e
  cases ea : fa δ with
  | none => rw [ea] at e; cases e
  | some d => rw [ea] at e; cases e; exact ⟨δ, d, so.rep, ea, fun v H' s rv => q _ H' ((so.mono s).set rv i)⟩
/-- x = a list just made -/
theorem s_setF (i : Nat) {x : Str} {pos' : Pos} {ff : DS → Option (List D)} (hN : X.N.Nodup) (hi : X.N[i]? = some x) (hx : Loc X.env.scope x) (ha : PE X a (tF X.K ff)) (hs : swapsWith a (some (.Name x pos')) pos.line X.env = pure false := by rfl)
    (hf : X.fn x = true ∨ X.env.scope.names.lookup x = some .local := by first | exact .inl rfl | exact .inr rfl | assumption) :
    PS X (.Assign [.Name x pos'] a pos) (tS X.K H₀ gh ow (i :: ow) owL fun δ => (ff δ).map fun ds => .nx (δ.set i (some (.lst ds)))) := PS.imp (ps_set hN hi hx ha hs hf) fun E σ H ⟨δ, fl, so, e, q⟩ => by
  dsimp only at e
  cases ea : ff δ with
  | none => rw [ea] at e; cases e
  | some ds => rw [ea] at e; cases e; exact ⟨δ, ds, so.rep, ea, fun l xs H' hl s hl' rs => q _ H' ((so.mono s).setOwn (rep_lst hl' rs) (so.same.free hl) i)⟩

/-! ### x = [.. for .. in ..], stored before the block's names go -/
section
variable {tg iter elt : Expr} {ifs : List Expr} {scope : Scope} {cpos : Pos} {N' : List Str} {inn : List (Option Nat)} {fi : DS → Option (List D)} {h : D → DS → Option DS} {fc : DS → Option Bool} {fe : DS → Option D} {ks : List Nat}
theorem s_comp (i : Nat) {x : Str} {pos' : Pos} (hN : X.N.Nodup) (hi : X.N[i]? = some x) (hx : Loc X.env.scope x) (hsw : swapsWith (.ListComp elt [⟨tg, iter, ifs, 0⟩] scope cpos) (some (.Name x pos')) pos.line X.env = pure true)
    (hc : X.calm = true) (S : CompSc X scope N' inn) (hit : PI X tg iter (tI X.K fi))
    (hin : ∀ (s : Shared) (H : Hp) (fp : List Addr) (C : Addr), TgD (cxComp X scope N' s H fp C) tg h ks ∧ PIfs (cxComp X scope N' s H fp C) ifs fc ∧ PE (cxComp X scope N' s H fp C) elt (tD X.K fe))
    (hs : ∀ x, foldedSetIterable iter X.env x = pure x := by intro _; rfl)
    (hf : X.fn x = true ∨ X.env.scope.names.lookup x = some .local := by first | exact .inl rfl | exact .inr rfl | assumption) :
    PS X (.Assign [.Name x pos'] (.ListComp elt [⟨tg, iter, ifs, 0⟩] scope cpos) pos) (tS X.K H₀ gh ow (i :: ow) owL fun δ => ((fi δ).bind fun ds => compD h fc fe (innD inn δ) ds).map fun ds => .nx (δ.set i (some (.lst ds)))) := by
  intro pins s σ H E I ⟨δ, fl, so, e, q⟩
  dsimp only at e
  cases ei : fi δ with
  | none => rw [ei] at e; cases e
  | some ds =>
    rw [ei] at e
    cases ey : compD h fc fe (innD inn δ) ds with
    | none => simp [ey] at e
    | some ys =>
      have e' : DF.nx (δ.set i (some (.lst ys))) = fl := by simpa [ey] using e
      subst e'
      have hcl : closureFor scope X.env = pure (clOf scope X.env) := closureFor_clOf fun y hy => I.ok.has y (S.frees y hy).2
      rw [exec_Assign_Name_used _ _ _ _ hsw]
      refine wpAny_bind (wpAny_standAt (wpAny_bind ?_))
      show wpAny _ X.A (do let _ ← comprehension (.ListComp elt [⟨tg, iter, ifs, 0⟩] scope cpos) scope X.env _ (newList []) false (eval iter X.env) (some (assign (.Name x pos') X.env))) _ _ s
      refine wpAny_bind (wpAny_mono (wpAny_comprehension_free (use := some (assign (.Name x pos') X.env)) (Q := fun _ s' => SP X pins E .next s') rfl hs hcl S.kind S.locs
        (thn (hit pins s σ H (fun J H' => ∃ gh', Same H H' ∧ GRep X.K H' gh' ∧ ItD X.K J gh' ds ∧ ds.length ≤ sizeLine) I ⟨δ, ds, so.rep, ei, fun J gh' H' s' g i l => ⟨gh', s', g, i, l⟩⟩) fun v s1 h1 => thn h1 fun itv s2 h2 => ?_))
        (fun _ s' hq => wpAny_pure (wpAny_pure hq)) fun _ _ e => e)
      obtain ⟨it, fp, tn, J, H2, rfl, I2, T, st, hfp, gh', S2, hg, hJ, hl⟩ := h2
      refine comp_block (RR := fun acc C => compPost (model X.prog X.w) X.A X.xe (some (assign (.Name x pos') X.env)) (fun _ s' => SP X pins E .next s') acc C) hc S hin I2 T st hfp (so.rep.mono S2) hg hJ hl ey ?_
      intro l C xs H' s' m hl0 S' hl' hr I' hm fC
      show wpAny (model X.prog X.w) X.A (assign (.Name x pos') X.env (.ref l)) _ X.xe s'
      refine wpAny_assign_Name (store_ok2 I' hN hi hx (v := .ref l) rfl (fun s'' I'' hk => ?_) hf)
      obtain ⟨f0, f1, f2, f3, f4, f5⟩ := fC
      obtain ⟨ad, hsb, had⟩ := hk
      have hCa : C ≠ ad := by
        rcases had with z | z
        · rw [z]; exact f1
        · exact fun w => f4 x ad z w.symm
      refine ⟨m, hm.sameBut hsb hCa, fun h' hs' => ⟨_, H', I''.turned (t' := s''.toks) (fun b o hb e => hs'.extBut b o hb e) f0 f1 f3 f4 f5, q _ H' ?_⟩⟩
      exact (so.mono (S2.trans S')).setOwn (rep_lst hl' hr) (so.same.free (S2.free hl0)) i
end

/-! ### for -/
def forD (h : D → DS → Option DS) (gb : DS → Option DF) : List D → DS → Option DF
  | [], δ => some (.nx δ)
  | d :: ds, δ => (h d δ).bind fun δ1 => (gb δ1).bind fun fl => match fl with
    | .nx δ2 => forD h gb ds δ2
    | .ct δ2 => forD h gb ds δ2
    | .bk δ2 => some (.nx δ2)
    | .rt d => some (.rt d)
theorem for_core {tg iter : Expr} {body : List Stmt} {h : D → DS → Option DS} {ks : List Nat} {gb : DS → Option DF} {ds : List D} {gt : TG} {J : It} {gx : List (V × D)} {E : Ends} {σ : St} {H : Hp} {δ : DS} {fl : DF} {B : TS} (hB : ∀ E σ H, tS X.K H₀ (gx ++ gh) ow ow ow gb E σ H → B E σ H) (hgt : ∀ (v : V) (d : D) (σ : St) (H : Hp) (δ δ' : DS) (Q : St → Hp → Prop), Rep X.K H d v → SRep X.K H σ δ → h d δ = some δ' →
      (∀ σ', SRep X.K H σ' δ' → (∀ k, k ∉ ks → σ'[k]? = σ[k]?) → Q σ' H) → gt v σ H Q) (hks : ∀ k ∈ ks, k ∉ ow)
    (so : SOk X.K H₀ (gx ++ gh) ow H σ δ) (hJ : ItD X.K J gx ds) (e : forD h gb ds δ = some fl) (q : fl.ok X.K H₀ gh ow owL E) :
    ∃ W : Nat → Nat → St → Hp → Prop, (∃ m, W 0 m σ H) ∧ ∀ i m σ H, W i m σ H →
      (J.stop i H ∧ E.nx σ H) ∨ (J.go i H ∧ ∃ N : St → Hp → Prop, (∀ σ' H', N σ' H' → ∃ m', m' < m ∧ W (i + 1) m' σ' H') ∧ ∀ x H', J.yld i H x H' → gt x σ H' fun σ2 H2 => B { E with nx := N, ct := N, bk := E.nx } σ2 H2) := by
  have weakG : ∀ {H : Hp} {σ : St} {δ : DS}, SOk X.K H₀ (gx ++ gh) ow H σ δ → SOk X.K H₀ gh ow H σ δ := fun so => ⟨so.same, so.rep, fun p hp => so.gr p (List.mem_append_right _ hp), so.own⟩
  refine ⟨fun i m σ H => m = ds.length + 1 - i ∧ i ≤ ds.length ∧ ∃ δ, SOk X.K H₀ (gx ++ gh) ow H σ δ ∧ forD h gb (ds.drop i) δ = some fl, ⟨_, rfl, Nat.zero_le _, δ, so, e⟩, ?_⟩
  rintro i m σ H ⟨hm, hi, δ, so, e⟩
  have hg : GRep X.K H gx := fun p hp => so.gr p (List.mem_append_left _ hp)
  by_cases hlt : i < ds.length
  · rw [List.drop_eq_getElem_cons hlt] at e
    unfold forD at e
    cases eb : h ds[i] δ with
    | none => rw [eb] at e; cases e
    | some δ1 =>
      rw [eb] at e
      cases eg : gb δ1 with
      | none => simp [eg] at e
      | some f1 =>
        refine .inr ⟨hJ.go i H hg hlt, fun σ' H' => ∃ δ2, SOk X.K H₀ (gx ++ gh) ow H' σ' δ2 ∧ forD h gb (ds.drop (i + 1)) δ2 = some fl, fun σ' H' ⟨δ2, so2, e2⟩ => ⟨ds.length + 1 - (i + 1), by omega, rfl, hlt, δ2, so2, e2⟩, fun x H' y => ?_⟩
        obtain ⟨S, rx⟩ := hJ.yld i H x H' ds[i] hg (List.getElem?_eq_getElem hlt) y
        have so' := so.mono S
        refine hgt x ds[i] σ H' δ δ1 _ rx so'.rep eb fun σ2 sr2 hk2 => hB _ _ _ ⟨δ1, f1, ⟨so'.same, sr2, so'.gr, fun j hj ad ea => so'.own j hj ad (by rw [← hk2 j fun z => hks j z hj]; exact ea)⟩, eg, ?_⟩
        cases f1 with
        | nx δ2 => exact fun σ3 H3 so3 => ⟨δ2, so3, by simpa [eg] using e⟩
        | ct δ2 => exact fun σ3 H3 so3 => ⟨δ2, so3, by simpa [eg] using e⟩
        | bk δ2 => have e' : DF.nx δ2 = fl := by simpa [eg] using e
                   subst e'; exact fun σ3 H3 so3 => q σ3 H3 (weakG so3)
        | rt d => have e' : DF.rt d = fl := by simpa [eg] using e
                  subst e'; exact q
  · have hil : i = ds.length := by omega
    subst hil
    rw [List.drop_length] at e
    cases e
    exact .inl ⟨hJ.stop H hg, q σ H (weakG so)⟩
/-- for tg in iter: body -/
theorem s_for {tg iter : Expr} {body : List Stmt} {fi : DS → Option (List D)} {h : D → DS → Option DS} {ks : List Nat} {gb : DS → Option DF} (hp : PassesOwn (model X.prog X.w) X.A X.env X.xe) (hc : X.calm = true) (hit : PI X tg iter (tI X.K fi)) (hg : TgD X tg h ks) (hks : ∀ k ∈ ks, k ∉ ow)
    (hb : ∀ gh : List (V × D), PSs X body (tS X.K H₀ gh ow ow ow gb)) (hs : ∀ x, foldedSetIterable iter X.env x = pure x := by intro _; rfl) :
    PS X (.For tg iter body [] pos) (tS X.K H₀ gh ow ow owL fun δ => (fi δ).bind fun ds => forD h gb ds δ) := by
  obtain ⟨gt, hg1, hgt⟩ := hg
  intro pins s σ H E I ⟨δ, fl, so, e, q⟩
  dsimp only at e
  cases ei : fi δ with
  | none => rw [ei] at e; cases e
  | some ds =>
    rw [ei] at e
    refine ps_for hp hc (PI.imp hit (t' := fun σ' H' R => tI X.K fi σ' H' R) fun _ _ _ z => z) hg1 (tb := fun E' σ' H' => ∃ gx : List (V × D), tS X.K H₀ (gx ++ gh) ow ow ow gb E' σ' H') (fun pins s σ H E I ⟨gx, z⟩ => hb (gx ++ gh) pins s σ H E I z) hs pins s σ H E I ?_
    refine ⟨δ, ds, so.rep, ei, fun J gx H' S hgx hJ _ => ?_⟩
    have so' := so.mono S
    exact for_core (E := E) (tg := tg) (iter := iter) (body := body) (owL := owL) (B := fun E' σ' H' => ∃ gx : List (V × D), tS X.K H₀ (gx ++ gh) ow ow ow gb E' σ' H') (fun _ _ _ z => ⟨_, z⟩) hgt hks ⟨so'.same, so'.rep, fun p hp => (List.mem_append.mp hp).elim (hgx p) (so'.gr p), so'.own⟩ hJ e q
end
end L2

set_option Elab.async false
set_option linter.all false
set_option maxRecDepth 100000
namespace L2
open PySem PySem.Spec PyProof.Rows
mutual
/-- no list that may be written lies within -/
def noL : D → Bool
  | .lst _ => false
  | .tup xs => noLs xs
  | .fro xs => noLs xs
  | _ => true
def noLs : List D → Bool
  | [] => true
  | d :: ds => noL d && noLs ds
end
section
variable {K : PySem.W.Frag} {H : Hp} {l : Addr} {xs : List V} {o : HO}
mutual
theorem Rep.upd (hl : H l = some (.lst xs)) : ∀ {d : D} {v : V}, noL d = true → Rep K H d v → Rep K (upd H l o) d v
  | .non, _, _, h => by simpa only [Rep] using h
  | .bl _, _, _, h => by simpa only [Rep] using h
  | .int _, _, _, h => by simpa only [Rep] using h
  | .str _, _, _, h => by simpa only [Rep] using h
  | .ty _, _, _, h => by simpa only [Rep] using h
  | .lst ds, _, n, _ => by simp [noL] at n
  | .tup ds, v, n, h => by
    obtain ⟨a, ys, e, q, r⟩ := h.tup_of
    subst e
    exact rep_tup (by rw [upd_ne (ne_of q hl (by intro z; cases z))]; exact q) (Reps.upd hl (by simpa [noL] using n) r)
  | .fro ds, v, n, h => by
    obtain ⟨a, ys, e, q, r⟩ := h.fro_of
    subst e
    refine rep_fro ?_ (Reps.upd hl (by simpa [noL] using n) r)
    rcases q with ⟨ob, q⟩ | q
    · exact .inl ⟨ob, by rw [upd_ne (ne_of q hl (by intro z; cases z))]; exact q⟩
    · exact .inr q
theorem Reps.upd (hl : H l = some (.lst xs)) : ∀ {ds : List D} {vs : List V}, noLs ds = true → Reps K H ds vs → Reps K (upd H l o) ds vs
  | [], _, _, h => by rw [h.nil_of]; exact reps_nil
  | d :: ds, _, n, h => by
    obtain ⟨v, r, rfl, q, t⟩ := h.cons_of
    have n' : noL d = true ∧ noLs ds = true := by simpa [noLs] using n
    exact reps_cons (Rep.upd hl n'.1 q) (Reps.upd hl n'.2 t)
end
end
/-- every slot but i holds no list that may be written -/
def othersFrom (i : Nat) : Nat → DS → Bool
  | _, [] => true
  | k, o :: r => (decide (k = i) || (match o with | some d => noL d | none => true)) && othersFrom i (k + 1) r
def others (i : Nat) (δ : DS) : Bool := othersFrom i 0 δ
theorem othersFrom_get {i : Nat} : ∀ {k : Nat} {δ : DS}, othersFrom i k δ = true → ∀ (j : Nat) (d : D), δ[j]? = some (some d) → k + j ≠ i → noL d = true
  | _, [], _, j, d, e, _ => by simp at e
  | k, o :: r, h, 0, d, e, ne => by
    simp at e; subst e
    unfold othersFrom at h
    have h1 := (Bool.and_eq_true_iff.mp h).1
    rcases Bool.or_eq_true_iff.mp h1 with z | z
    · exact absurd (of_decide_eq_true z) ne
    · exact z
  | k, o :: r, h, j + 1, d, e, ne => by
    unfold othersFrom at h
    exact othersFrom_get (Bool.and_eq_true_iff.mp h).2 j d (by simpa using e) (by omega)
section
variable {X : Cx} {H₀ : Hp} {gh : List (V × D)} {ow ow1 ow' owL : List Nat} {a b e : Expr} {es : List Expr} {pos p : Pos} {fa fb : DS → Option D} {st : Stmt} {sts : List Stmt} {g g' : DS → Option DF}
/-- the own list in slot i is written -/
theorem SOk.write {K : PySem.W.Frag} {H : Hp} {σ : St} {δ : DS} {i : Nat} {l : Addr} {xs ys : List V} {ds' : List D} (so : SOk K H₀ gh ow H σ δ) (hi : i ∈ ow) (hσ : σ[i]? = some (some (.ref l))) (hl : H l = some (.lst xs)) (ho : others i δ = true) (hgh : ∀ p ∈ gh, noL p.2 = true)
    (rs : Reps K H ds' ys) (nl : noLs ds' = true) : SOk K H₀ gh ow (upd H l (.lst ys)) σ (δ.set i (some (.lst ds'))) := by
  have h0 := so.own i hi l hσ
  refine ⟨fun b o e => ?_, ⟨by rw [List.length_set]; exact so.rep.1, fun j d e => ?_⟩, fun p hp => Rep.upd hl (hgh p hp) (so.gr p hp), so.own⟩
  · rw [upd_ne (ne_of_none e h0)]; exact so.same b o e
  · by_cases hj : j = i
    · subst hj
      rw [List.getElem?_set_self'] at e
      cases q : δ[j]? with
      | none => rw [q] at e; cases e
      | some o => rw [q] at e; cases e; exact ⟨.ref l, hσ, rep_lst upd_same (Reps.upd hl nl rs)⟩
    · rw [List.getElem?_set_ne (Ne.symm hj)] at e
      obtain ⟨v, h1, h2⟩ := so.rep.2 j d e
      exact ⟨v, h1, Rep.upd hl (othersFrom_get ho j d e (by omega)) h2⟩
def appF (i : Nat) (fa : DS → Option D) : DS → Option DF := fun δ => (fa δ).bind fun d => match (δ[i]?).join with
  | some (.lst ds) => if fit (ds.length + 1) = true ∧ noLs ds = true ∧ noL d = true ∧ others i δ = true then some (.nx (δ.set i (some (.lst (ds ++ [d]))))) else none
  | _ => none
theorem noLs_app : ∀ {ds es : List D}, noLs ds = true → noLs es = true → noLs (ds ++ es) = true
  | [], _, _, h => h
  | d :: ds, es, h, g => by
    have n' : noL d = true ∧ noLs ds = true := by simpa [noLs] using h
    simp [noLs, n'.1, noLs_app n'.2 g]
/-- x.append(e) -/
theorem s_append (i : Nat) {x : Str} {px pa pc : Pos} (hi : i ∈ ow) (hN : X.N[i]? = some x) (hv : Vis X.env.scope x) (hgh : ∀ p ∈ gh, noL p.2 = true) (ha : PE X a (tD X.K fa))
    (hd : (x == ("__debug__" : Str)) = false := by decide) (hcd : (x == ("__classdict__" : Str)) = false := by decide)
    (hbase : attributeBase (.Name x px) "append" X.env (eval (.Name x px) X.env) = eval (.Name x px) X.env := by rfl)
    (hfew : ((backTo pc (starEach [a] X.env)).all (fun x => !x.1) && (backToKw pc (keywordEach [] X.env)).all (fun x => x.1.isSome)
      && decide ([a].length + ([] : List Keyword).length + (if ([] : List Keyword).isEmpty then 0 else 1) < 30)) = true := by rfl)
    (hline : (pa.endLine == pc.line) = true := by rfl) (hs : starEach [a] X.env = (false, eval a X.env) :: starEach [] X.env := by rfl) (hplain : (backTo pc (starEach [] X.env)).any (·.1) = false := by rfl) (hsw : swapsWith (.Call (.Attribute (.Name x px) "append" pa) [a] [] pc) none pos.line X.env = pure false := by rfl) :
    PS X (.Expr (.Call (.Attribute (.Name x px) "append" pa) [a] [] pc) pos) (tS X.K H₀ gh ow ow owL (appF i fa)) :=
  PS.imp (ps_expr (pe_bm PySem.F.plainAttrs_list PySem.F.slot_list_append PySem.F.type_list_append mt_append (pe_var hN hv hd hcd) (da_cons ha da_nil hs) hbase hfew hline hs hplain) hsw) fun E σ H ⟨δ, fl, so, e, q⟩ => by
    unfold appF at e
    cases ea : fa δ with
    | none => rw [ea] at e; cases e
    | some d =>
      rw [ea] at e
      cases eo : (δ[i]?).join with
      | none => simp [eo] at e
      | some di =>
        obtain ⟨v, h1, h2⟩ := so.rep.get eo
        cases di with
        | lst ds =>
          have e' : (if fit (ds.length + 1) = true ∧ noLs ds = true ∧ noL d = true ∧ others i δ = true then some (DF.nx (δ.set i (some (.lst (ds ++ [d]))))) else none) = some fl := by simpa [eo] using e
          by_cases hc : fit (ds.length + 1) = true ∧ noLs ds = true ∧ noL d = true ∧ others i δ = true
          · rw [if_pos hc] at e'
            cases e'
            obtain ⟨l, us, rfl, hl, rs⟩ := h2.lst_of
            refine ⟨.ref l, h1, .inl ⟨rfl, us, SqL.of hl⟩, δ, [d], so.rep, by simp [consD, ea], fun vs H' S rv => ?_⟩
            obtain ⟨w, r, rfl, rw', rn⟩ := rv.cons_of
            cases rn.nil_of
            have hz := fit_le hc.1
            refine ⟨l, us, w, rfl, rfl, S _ _ hl, by rw [rs.length]; omega, ?_⟩
            exact q _ _ ((so.mono S).write hi h1 (S _ _ hl) hc.2.2.2 hgh ((rs.mono S).append (reps_cons rw' reps_nil)) (noLs_app hc.2.1 (by simp [noLs, hc.2.2.1])))
          · rw [if_neg hc] at e'; cases e'
        | _ => simp [eo] at e

/-- for k in range(..): a body that may write its own lists -/
theorem s_forR {tg iter : Expr} {body : List Stmt} {fi : DS → Option (List D)} {h : D → DS → Option DS} {ks : List Nat} {gb : DS → Option DF} (hp : PassesOwn (model X.prog X.w) X.A X.env X.xe) (hc : X.calm = true) (hit : PI X tg iter (tIR X.K fi)) (hg : TgD X tg h ks) (hks : ∀ k ∈ ks, k ∉ ow)
    (hb : PSs X body (tS X.K H₀ gh ow ow ow gb)) (hs : ∀ x, foldedSetIterable iter X.env x = pure x := by intro _; rfl) :
    PS X (.For tg iter body [] pos) (tS X.K H₀ gh ow ow owL fun δ => (fi δ).bind fun ds => forD h gb ds δ) := by
  obtain ⟨gt, hg1, hgt⟩ := hg
  intro pins s σ H E I ⟨δ, fl, so, e, q⟩
  dsimp only at e
  cases ei : fi δ with
  | none => rw [ei] at e; cases e
  | some ds =>
    rw [ei] at e
    refine ps_for hp hc hit hg1 hb hs pins s σ H E I ?_
    refine ⟨δ, ds, so.rep, ei, fun J H' S hJ _ => ?_⟩
    have so' := so.mono S
    exact for_core (E := E) (tg := tg) (iter := iter) (body := body) (owL := owL) (B := tS X.K H₀ gh ow ow ow gb) (fun _ _ _ z => z) hgt hks (gx := []) ⟨so'.same, so'.rep, so'.gr, so'.own⟩ hJ e q

/-! ### while -/
def whileD (tc : DS → Option Bool) (gb : DS → Option DF) : Nat → DS → Option DF
  | 0, _ => none
  | n + 1, δ => (tc δ).bind fun k => if k = true then (gb δ).bind fun fl => match fl with
      | .nx δ2 => whileD tc gb n δ2
      | .ct δ2 => whileD tc gb n δ2
      | .bk δ2 => some (.nx δ2)
      | .rt d => some (.rt d)
    else some (.nx δ)
theorem s_while {c : Expr} {body : List Stmt} {tc : DS → Option Bool} {gb : DS → Option DF} (n : DS → Nat) (hp : PassesOwn (model X.prog X.w) X.A X.env X.xe) (hc : PT X c (tT X.K tc)) (hb : PSs X body (tS X.K H₀ gh ow ow ow gb)) :
    PS X (.While c body [] pos) (tS X.K H₀ gh ow ow owL fun δ => whileD tc gb (n δ) δ) := PS.imp (ps_while hp hc hb) fun E σ H ⟨δ, fl, so, e, q⟩ => by
  refine ⟨fun m σ H => ∃ δ, SOk X.K H₀ gh ow H σ δ ∧ whileD tc gb m δ = some fl, ⟨n δ, δ, so, e⟩, ?_⟩
  rintro m σ H ⟨δ, so, e⟩
  cases m with
  | zero => cases e
  | succ m =>
    unfold whileD at e
    cases et : tc δ with
    | none => rw [et] at e; cases e
    | some k =>
      rw [et] at e
      refine ⟨δ, k, so.rep, et, fun H' S => ?_⟩
      cases k with
      | false =>
        have e' : some (DF.nx δ) = some fl := e
        cases e'
        exact iteF (q σ H' (so.mono S))
      | true =>
        refine iteT ⟨fun σ' H' => ∃ δ', SOk X.K H₀ gh ow H' σ' δ' ∧ whileD tc gb m δ' = some fl, fun σ' H' z => ⟨m, Nat.lt_succ_self m, z⟩, ?_⟩
        cases eg : gb δ with
        | none => simp [eg] at e
        | some f1 =>
          refine ⟨δ, f1, so.mono S, eg, ?_⟩
          cases f1 with
          | nx δ2 => exact fun σ3 H3 so3 => ⟨δ2, so3, by simpa [eg] using e⟩
          | ct δ2 => exact fun σ3 H3 so3 => ⟨δ2, so3, by simpa [eg] using e⟩
          | bk δ2 => have e' : DF.nx δ2 = fl := by simpa [eg] using e
                     subst e'; exact fun σ3 H3 so3 => q σ3 H3 so3
          | rt d => have e' : DF.rt d = fl := by simpa [eg] using e
                    subst e'; exact q
end

/-! ### a def -/
/-- what a def answers -/
def runD (n : Nat) (N : List Str) (g : DS → Option DF) (ds : List D) : Option D :=
  if ds.length = n then (g (ds.map some ++ List.replicate (N.length - ds.length) none)).bind fun fl => match fl with
    | .rt d => some d
    | .nx _ => some .non
    | _ => none
  else none
theorem srep_start {K : PySem.W.Frag} {H : Hp} {N : List Str} : ∀ {ds : List D} {vs : List V}, Reps K H ds vs → SRep K H (start N vs) (ds.map some ++ List.replicate (N.length - ds.length) none) := fun {ds vs} r => by
  have hl := r.length
  unfold start
  refine ⟨by rw [List.length_append, List.length_append, List.length_map, List.length_map, List.length_replicate, List.length_replicate, hl], fun i d e => ?_⟩
  by_cases hi : i < ds.length
  · rw [List.getElem?_append_left (by simpa using hi), List.getElem?_map] at e
    rw [List.getElem?_append_left (by rw [List.length_map]; omega), List.getElem?_map]
    have hd : ds[i]? = some d := by
      cases q : ds[i]? with
      | none => rw [q] at e; cases e
      | some x => rw [q] at e; cases e; rfl
    obtain ⟨v, h1, h2⟩ := r.get hd
    exact ⟨v, by rw [h1]; rfl, h2⟩
  · rw [List.getElem?_append_right (by simpa using hi), List.getElem?_replicate] at e
    split at e <;> cases e
theorem def_fn {P : Program} {w : World} {K : PySem.W.Frag} {mg : Str → Option Value} {base : Heap} {x qual : Str} {st : Stmt} {f : Addr} {fd : FuncData} {N ps : List Str} {k : Nat} {g : DS → Option DF} (F : Fun K x qual st f fd) (S : FnScope N ps (defScope st))
    (hb : ∀ (cdv : Value) (A : Around) (outer : List Env) (s : Shared) (H : Hp) (E : XK), Room k (A.deeper (envOfC qual (defScope st) s.heap.objs.size f cdv)) → ∃ ow', PSs (cxOf CX0 P w K mg base N qual (defScope st) f cdv A outer s H E).nox (defBody st) (tS K H [] [] ow' [] g)) :
    FnOk P w K mg base CX0 (k + 1) f fd ps (spD K (runD ps.length N g)) := by
  refine F.ok S (fun vs H Q E h => ?_) (fun cdv A outer s H vs Q E hr h => ?_)
  · obtain ⟨ds, d, rs, e, _⟩ := h
    unfold runD at e
    by_cases hl : ds.length = ps.length
    · rw [← hl]; exact rs.length
    · rw [if_neg hl] at e; cases e
  · obtain ⟨ds, d, rs, e, q⟩ := h
    obtain ⟨ow', B⟩ := hb cdv A outer s H E hr
    refine ⟨_, B, ?_⟩
    unfold runD at e
    by_cases hl : ds.length = ps.length
    · rw [if_pos hl] at e
      cases eg : g (ds.map some ++ List.replicate (N.length - ds.length) none) with
      | none => rw [eg] at e; cases e
      | some fl =>
        rw [eg] at e
        refine ⟨_, fl, ⟨Same.refl H, srep_start rs, grep_nil, fun i hi => nomatch hi⟩, eg, ?_⟩
        cases fl with
        | nx δ => cases e; exact fun σ' H' so => q .non H' so.same rep_non
        | rt d' => cases e; exact fun v H' s rv => q v H' s rv
        | bk δ => cases e
        | ct δ => cases e
    · rw [if_neg hl] at e; cases e
theorem def_ok {P : Program} {w : World} {K : PySem.W.Frag} {mg : Str → Option Value} {base : Heap} {x qual : Str} {st : Stmt} {f : Addr} {fd : FuncData} {N ps : List Str} {k : Nat} {g : DS → Option DF} (F : Fun K x qual st f fd) (S : FnScope N ps (defScope st)) (hm : mg x = some (.ref f)) (hB : Binds K fd ps [])
    (hb : ∀ (cdv : Value) (A : Around) (outer : List Env) (s : Shared) (H : Hp) (E : XK), Room k (A.deeper (envOfC qual (defScope st) s.heap.objs.size f cdv)) → ∃ ow', PSs (cxOf CX0 P w K mg base N qual (defScope st) f cdv A outer s H E).nox (defBody st) (tS K H [] [] ow' [] g)) :
    Ca P w K mg base (k + 1) x (runD ps.length N g) := ⟨f, fd, ps, hm, def_fn F S hb, hB, F.kp⟩
/-- the script, as the law's def takes it -/
theorem script_D {K : PySem.W.Frag} {H : Hp} {a : Addr} {ns : List Int} {F : List D → Option D} (hO : Only H) (hS : SqL K H a (ns.map V.int)) (h : F [.fro (ns.map D.int)] = some (.bl true)) : spD K F [.ref a] H (fun v _ => v = .bl true) fun _ _ _ => False := by
  refine ⟨[.fro (ns.map D.int)], .bl true, reps_cons (rep_fro ?_ (reps_ints ns)) reps_nil, h, fun v H' _ r => r.bl_of⟩
  rcases hS with (hS | ⟨o, hS⟩) | hS
  · rcases hO a with z | ⟨o, xs, z⟩
    · rw [hS] at z; cases z
    · rw [hS] at z; cases z
  · exact .inl ⟨o, hS⟩
  · exact .inr hS
end L2

set_option Elab.async false
set_option linter.all false
set_option maxRecDepth 100000
namespace L2
open PySem PySem.Spec PyProof.Rows

/-! ### an iterator of a list or of a tuple, within zip or enumerate -/
def SubIt (t : Bool) (h : Heap) (i l : Addr) (k : Nat) (xs : Array Value) : Prop := (t = false ∧ h.IsListIter i l k ∧ h.IsList l xs) ∨ (t = true ∧ h.IsTupleIter i l k ∧ h.IsTuple l xs)
theorem SubIt.ext {t : Bool} {h h' : Heap} {i l c : Addr} {k : Nat} {xs : Array Value} (x : SubIt t h i l k xs) (hs : Heap.ExtBut c h h') (h1 : i ≠ c) (h2 : l ≠ c) : SubIt t h' i l k xs := by
  rcases x with ⟨ht, a, b⟩ | ⟨ht, a, b⟩
  · exact .inl ⟨ht, a.extBut hs h1, b.extBut hs h2⟩
  · exact .inr ⟨ht, a.extBut hs h1, b.extBut hs h2⟩
theorem SubIt.objs {t : Bool} {h : Heap} {i l : Addr} {k : Nat} {xs : Array Value} (x : SubIt t h i l k xs) : (∃ o, h.get? i = some o ∧ ∀ v, o.data ≠ .cell v) ∧ ∃ o, h.get? l = some o := by
  rcases x with ⟨_, ⟨o, e, _, d⟩, ⟨o', e', _⟩⟩ | ⟨_, ⟨o, e, _, d⟩, ⟨o', e', _⟩⟩
  · exact ⟨⟨o, e, fun v z => by rw [d] at z; cases z⟩, ⟨o', e'⟩⟩
  · exact ⟨⟨o, e, fun v z => by rw [d] at z; cases z⟩, ⟨o', e'⟩⟩
theorem SubIt.keep {t : Bool} {h h' : Heap} {i l : Addr} {k : Nat} {xs : Array Value} (x : SubIt t h i l k xs) (k1 : ∀ o, h.get? i = some o → h'.get? i = some o) (k2 : ∀ o, h.get? l = some o → h'.get? l = some o) : SubIt t h' i l k xs := by
  rcases x with ⟨ht, a, b⟩ | ⟨ht, a, b⟩
  · exact .inl ⟨ht, a.at k1, b.at k2⟩
  · exact .inr ⟨ht, a.at k1, b.at k2⟩
section
variable {prog : Program} {w : World} {A : Around} {E : Value → Shared → Prop} {s : Shared}
theorem sub_next {t : Bool} {i l : Addr} {k : Nat} {xs : Array Value} {x : Value} {Q : Value → Shared → Prop} (hs : SubIt t s.heap i l k xs) (hx : xs[k]? = some x) (hil : l ≠ i)
    (hQ : ∀ h', SubIt t h' i l (k + 1) xs → Heap.SameBut i s.heap h' → Q x { s with heap := h' }) : wpAny (model prog w) A (Builtin.SmallTypes.nextOf (.ref i)) Q E s := by
  rcases hs with ⟨ht, a, b⟩ | ⟨ht, a, b⟩
  · exact wpAny_nextOf_list_item a b hx fun h' a' sb => hQ h' (.inl ⟨ht, a', b.extBut sb.extBut hil⟩) sb
  · obtain ⟨o, ho, hc, hd⟩ := id a
    obtain ⟨ol, hol, hcl, nl, hdl⟩ := id b
    unfold Builtin.SmallTypes.nextOf
    refine wpAny_bind (wpAny_callSpecial?_slot (name := Str.ofString "__next__") a.typeIs F.slot_tuple_iterator_next (wpAny_call_entry F.slot_tuple_iterator_next a.typeIs F.entry_tuple_iterator_next ?_ (F.args_tuple_iterator_next_1 _)))
    show wpAny _ _ (field (.ref i) 0 >>= _) _ _ s
    refine wpAny_bind (wpAny_field ho hd (x := .ref l) rfl ?_); show wpAny _ _ (if (Value.ref l == Value.none) = true then _ else _) _ _ s
    rw [if_neg (show ¬ ((Value.ref l == Value.none) = true) from fun z => Bool.false_ne_true z)]; show wpAny _ _ (field (.ref i) 1 >>= _) _ _ s
    refine wpAny_bind (wpAny_field ho hd (x := .int k 0) rfl ?_); show wpAny _ _ (seqItems? (.ref l) >>= _) _ _ s
    refine wpAny_bind (wpAny_seqItems hol hdl ?_); simp only [Int.toNat_natCast, hx]
    refine wpAny_bind (wpAny_setField ho hd (by simp) (wpAny_pure ⟨x, rfl, wpAny_pure (hQ _ (.inr ⟨ht, ?_, b.extBut (Heap.SameBut.update ..).extBut hil⟩) (Heap.SameBut.update ..))⟩))
    exact ⟨_, Heap.get?_update_self _ ho (Obj.isFreed_of_fields (Obj.data_mapFields hd _)), (Obj.cls_mapFields ..).trans hc, by rw [Obj.data_mapFields hd]; simp [rawInt]⟩
theorem sub_end {t : Bool} {i l : Addr} {k : Nat} {xs : Array Value} {Q : Value → Shared → Prop} (hh : A.handled = none) (hs : SubIt t s.heap i l k xs) (hx : xs[k]? = none)
    (hE : ∀ h' e, Heap.ExtBut i s.heap h' → (∃ o, h'.get? e = some o ∧ o.cls = .type "StopIteration") → E (.ref e) { s with heap := h' }) : wpAny (model prog w) A (Builtin.SmallTypes.nextOf (.ref i)) Q E s := by
  rcases hs with ⟨ht, a, b⟩ | ⟨ht, a, b⟩
  · exact wpAny_nextOf_list_end hh a b hx hE
  · obtain ⟨o, ho, hc, hd⟩ := id a
    obtain ⟨ol, hol, hcl, nl, hdl⟩ := id b
    unfold Builtin.SmallTypes.nextOf
    refine wpAny_bind (wpAny_callSpecial?_slot (name := Str.ofString "__next__") a.typeIs F.slot_tuple_iterator_next (wpAny_call_entry F.slot_tuple_iterator_next a.typeIs F.entry_tuple_iterator_next ?_ (F.args_tuple_iterator_next_1 _)))
    show wpAny _ _ (field (.ref i) 0 >>= _) _ _ s
    refine wpAny_bind (wpAny_field ho hd (x := .ref l) rfl ?_); show wpAny _ _ (if (Value.ref l == Value.none) = true then _ else _) _ _ s
    rw [if_neg (show ¬ ((Value.ref l == Value.none) = true) from fun z => Bool.false_ne_true z)]; show wpAny _ _ (field (.ref i) 1 >>= _) _ _ s
    refine wpAny_bind (wpAny_field ho hd (x := .int k 0) rfl ?_); show wpAny _ _ (seqItems? (.ref l) >>= _) _ _ s
    refine wpAny_bind (wpAny_seqItems hol hdl ?_); simp only [Int.toNat_natCast, hx]
    refine wpAny_bind (wpAny_rule (wpAny_bind (wpAny_setField ho hd (by simp) ?_))); show wpAny _ _ (newExc (.type "StopIteration") [] >>= _) _ _ _
    refine wpAny_bind ?_; simp only [newExc, newTuple]
    refine wpAny_bind (wpAny_newObj_type ?_ (by size_fits)); refine wpAny_bind (m := firstArgMember _ _) (wpAny_of_eq (a := Value.none) (by first | rfl | (simp only [firstArgMember]; rfl)) ?_)
    refine wpAny_newObj_type ?_ (by size_fits); simp only [raiseNew]
    refine wpAny_bind (wpAny_handled ?_); first | rw [show A.in1.handled = none from hh] | rw [hh]
    refine wpAny_bind (wpAny_pure (wpAny_throw ?_)); exact hE _ _ (((Heap.SameBut.update ..).extBut.push _).push _) ⟨_, Heap.get?_push_size _ rfl, rfl⟩

/-- zip's next item, whatever it walks -/
theorem zip_item {b1 b2 : Bool} {z TI TO i1 i2 l1 l2 : Addr} {k1 k2 : Nat} {xs ys : Array Value} {x y a b : Value} {Q : Value → Shared → Prop} (D : ZipApart z TI TO i1 i2 l1 l2)
    (hz : IsZip s.heap z TI TO .none) (hTI : IsPair s.heap TI (.ref i1) (.ref i2)) (hTO : IsPair s.heap TO a b)
    (h1 : SubIt b1 s.heap i1 l1 k1 xs) (h2 : SubIt b2 s.heap i2 l2 k2 ys) (hx : xs[k1]? = some x) (hy : ys[k2]? = some y)
    (hQ : ∀ h', IsZip h' z TI TO (rawInt s.heap.objs.size) → IsPair h' TO x y → SubIt b1 h' i1 l1 (k1 + 1) xs → SubIt b2 h' i2 l2 (k2 + 1) ys → IsPair h' s.heap.objs.size x y → h'.objs.size = s.heap.objs.size + 1 →
      (∀ c o, c ≠ z → c ≠ TO → c ≠ i1 → c ≠ i2 → s.heap.get? c = some o → h'.get? c = some o) → Q (.ref s.heap.objs.size) { s with heap := h' }) :
    wpAny (model prog w) A (Builtin.«zip.__next__» ⟨[.ref z], []⟩) (fun fin s' => ∃ v, fin = .done (.ret v) ∧ Q v s') E s := by
  show wpAny _ _ (field (.ref z) 2 >>= _) _ _ _
  refine wpAny_bind (wpAny_field hz rfl (x := .bool false) rfl ?_); show wpAny _ _ (field (.ref z) 3 >>= _) _ _ _
  refine wpAny_bind (wpAny_field hz rfl (x := .ref TI) rfl ?_); refine wpAny_bind (wpAny_seqItems hTI rfl ?_)
  show wpAny _ _ (Builtin.SmallTypes.ownedTupleIsFree (.ref z) >>= _) _ _ _; refine wpAny_bind ?_
  unfold Builtin.SmallTypes.ownedTupleIsFree; refine wpAny_bind (wpAny_field hz rfl (x := .none) rfl (wpAny_pure ?_)); simp only [if_true]
  refine wpAny_bind (wpAny_rule ?_); refine wpAny_bind (wpAny_field hz rfl (x := .ref TO) rfl ?_)
  refine wpAny_bind (wpAny_setField_rec hz (by simp) fun g1 z1 s1 => ?_)
  replace z1 : IsZip g1 z TI TO .ellipsis := z1
  refine wpAny_bind ?_; simp only [List.zipIdx_cons, List.zipIdx_nil, List.forIn_cons, List.forIn_nil]
  refine wpAny_bind (wpAny_bind (wpAny_onRaise ?_)); show wpAny _ _ (Builtin.SmallTypes.nextOf (.ref i1) >>= _) _ _ _
  refine wpAny_bind (sub_next (h1.ext s1.extBut D.i1z D.l1z) hx D.l1i1 fun g2 p2 s2 => wpAny_pure ?_)
  have t2 : IsPair g2 TO a b := s2.extBut _ _ D.TOi1 (s1.extBut _ _ D.TOz hTO)
  refine wpAny_bind (wpAny_seqItems t2 rfl ?_); refine wpAny_bind (wpAny_updateSeq_pair t2 fun g3 t3 s3 => ?_)
  replace t3 : IsPair g3 TO x b := t3
  refine wpAny_bind (wpAny_letGo (wpAny_pure ?_)); refine wpAny_bind (wpAny_bind (wpAny_onRaise ?_))
  show wpAny _ _ (Builtin.SmallTypes.nextOf (.ref i2) >>= _) _ _ _
  refine wpAny_bind (sub_next (((h2.ext s1.extBut D.i2z D.l2z).ext s2.extBut D.i12.symm D.l2i1).ext s3.extBut D.TOi2.symm D.l2TO) hy D.l2i2 fun g4 p4 s4 => wpAny_pure ?_)
  have t4 : IsPair g4 TO x b := s4.extBut _ _ D.TOi2 t3
  refine wpAny_bind (wpAny_seqItems t4 rfl ?_); refine wpAny_bind (wpAny_updateSeq_pair t4 fun g5 t5 s5 => ?_)
  replace t5 : IsPair g5 TO x y := t5
  refine wpAny_bind (wpAny_letGo (wpAny_pure (wpAny_pure ?_))); refine wpAny_bind (wpAny_seqItems t5 rfl ?_); refine wpAny_bind (wpAny_newTuple ?_)
  have hsz : g5.objs.size = s.heap.objs.size := by rw [s5.1, s4.1, s3.1, s2.1, s1.1]
  have z5 : IsZip g5 z TI TO .ellipsis := s5.extBut _ _ D.TOz.symm (s4.extBut _ _ D.i2z.symm (s3.extBut _ _ D.TOz.symm (s2.extBut _ _ D.i1z.symm z1)))
  have k5 : ∀ c o, c ≠ z → c ≠ TO → c ≠ i1 → c ≠ i2 → s.heap.get? c = some o → g5.get? c = some o := fun c o c1 c2 c3 c4 e => s5.extBut _ _ c2 (s4.extBut _ _ c4 (s3.extBut _ _ c2 (s2.extBut _ _ c3 (s1.extBut _ _ c1 e))))
  have p1 : SubIt b1 g5 i1 l1 (k1 + 1) xs := ((p2.ext s3.extBut D.TOi1.symm D.l1TO).ext s4.extBut D.i12 D.l1i2).ext s5.extBut D.TOi1.symm D.l1TO
  have p2' : SubIt b2 g5 i2 l2 (k2 + 1) ys := p4.ext s5.extBut D.TOi2.symm D.l2TO
  show wpAny _ _ (Builtin.SmallTypes.ownedTupleHandOut (.ref z) (.ref g5.objs.size) >>= _) _ _ _
  refine wpAny_bind ?_; unfold Builtin.SmallTypes.ownedTupleHandOut
  have z6 : IsZip (g5.push { cls := .type "tuple", data := .seq #[x, y] }) z TI TO .ellipsis := Heap.get?_push_of_some _ z5
  refine wpAny_bind (wpAny_setField_rec z6 (by simp) fun g7 z7 s7 => ?_)
  replace z7 : IsZip g7 z TI TO (rawInt g5.objs.size) := z7
  refine wpAny_setField_rec z7 (by simp) fun g8 z8 s8 => ?_
  replace z8 : IsZip g8 z TI TO (rawInt g5.objs.size) := z8
  have up : ∀ c o, c ≠ z → g5.get? c = some o → g8.get? c = some o := fun c o c1 e => s8.extBut _ _ c1 (s7.extBut _ _ c1 (Heap.get?_push_of_some _ e))
  have zlt : z < g5.objs.size := Heap.lt_size z5
  have t8 : IsPair g8 g5.objs.size x y := s8.extBut _ _ (Nat.ne_of_gt zlt) (s7.extBut _ _ (Nat.ne_of_gt zlt) (Heap.get?_push_size _ rfl))
  have n8 : g8.objs.size = g5.objs.size + 1 := by rw [s8.1, s7.1, Heap.size_push]
  rw [hsz] at z8 t8 n8
  refine wpAny_pure ⟨_, rfl, ?_⟩; show Q (.ref g5.objs.size) _
  rw [hsz]
  exact hQ g8 z8 (up _ _ D.TOz t5) (p1.keep (fun o e => up _ o D.i1z e) fun o e => up _ o D.l1z e) (p2'.keep (fun o e => up _ o D.i2z e) fun o e => up _ o D.l2z e) t8 n8 fun c o c1 c2 c3 c4 e => up c o c1 (k5 c o c1 c2 c3 c4 e)
theorem zip_stop {b1 b2 : Bool} {z TI TO i1 i2 l1 l2 : Addr} {k1 k2 : Nat} {xs ys : Array Value} {a b : Value} {Q : Fin → Shared → Prop} (hh : A.handled = none) (D : ZipApart z TI TO i1 i2 l1 l2)
    (hz : IsZip s.heap z TI TO .none) (hTI : IsPair s.heap TI (.ref i1) (.ref i2)) (hTO : IsPair s.heap TO a b)
    (h1 : SubIt b1 s.heap i1 l1 k1 xs) (h2 : SubIt b2 s.heap i2 l2 k2 ys) (hend : xs[k1]? = none ∨ ys[k2]? = none)
    (hE : ∀ h' e, (∀ c o, c ≠ z → c ≠ TO → c ≠ i1 → c ≠ i2 → s.heap.get? c = some o → h'.get? c = some o) → (∃ o, h'.get? e = some o ∧ o.cls = .type "StopIteration") → E (.ref e) { s with heap := h' }) :
    wpAny (model prog w) A (Builtin.«zip.__next__» ⟨[.ref z], []⟩) Q E s := by
  show wpAny _ _ (field (.ref z) 2 >>= _) _ _ _
  refine wpAny_bind (wpAny_field hz rfl (x := .bool false) rfl ?_); show wpAny _ _ (field (.ref z) 3 >>= _) _ _ _
  refine wpAny_bind (wpAny_field hz rfl (x := .ref TI) rfl ?_); refine wpAny_bind (wpAny_seqItems hTI rfl ?_)
  show wpAny _ _ (Builtin.SmallTypes.ownedTupleIsFree (.ref z) >>= _) _ _ _; refine wpAny_bind ?_
  unfold Builtin.SmallTypes.ownedTupleIsFree; refine wpAny_bind (wpAny_field hz rfl (x := .none) rfl (wpAny_pure ?_)); simp only [if_true]
  refine wpAny_bind (wpAny_rule ?_); refine wpAny_bind (wpAny_field hz rfl (x := .ref TO) rfl ?_)
  refine wpAny_bind (wpAny_setField_rec hz (by simp) fun g1 z1 s1 => ?_)
  replace z1 : IsZip g1 z TI TO .ellipsis := z1
  refine wpAny_bind ?_; simp only [List.zipIdx_cons, List.zipIdx_nil, List.forIn_cons, List.forIn_nil]
  refine wpAny_bind (wpAny_bind (wpAny_onRaise ?_)); show wpAny _ _ (Builtin.SmallTypes.nextOf (.ref i1) >>= _) _ _ _
  cases hx : xs[k1]? with
  | none =>
    refine wpAny_bind (sub_end hh (h1.ext s1.extBut D.i1z D.l1z) hx fun g2 e s2 he => ?_)
    obtain ⟨oe, hoe, hce⟩ := he
    have z2 : IsZip g2 z TI TO .ellipsis := s2 _ _ D.i1z.symm z1
    have hez : e ≠ z := fun q => by subst q; rw [z2] at hoe; cases hoe; simp at hce
    refine wpAny_setField_rec z2 (by simp) fun g3 _ s3 => hE g3 e (fun c o c1 _ c3 _ q => s3.extBut _ _ c1 (s2 _ _ c3 (s1.extBut _ _ c1 q))) ⟨oe, s3.extBut _ _ hez hoe, hce⟩
  | some x =>
    have hy : ys[k2]? = none := by rcases hend with q | q; rw [hx] at q; cases q; exact q
    refine wpAny_bind (sub_next (h1.ext s1.extBut D.i1z D.l1z) hx D.l1i1 fun g2 p2 s2 => wpAny_pure ?_)
    have t2 : IsPair g2 TO a b := s2.extBut _ _ D.TOi1 (s1.extBut _ _ D.TOz hTO)
    refine wpAny_bind (wpAny_seqItems t2 rfl ?_); refine wpAny_bind (wpAny_updateSeq_pair t2 fun g3 t3 s3 => ?_)
    refine wpAny_bind (wpAny_letGo (wpAny_pure ?_)); refine wpAny_bind (wpAny_bind (wpAny_onRaise ?_))
    show wpAny _ _ (Builtin.SmallTypes.nextOf (.ref i2) >>= _) _ _ _
    refine wpAny_bind (sub_end hh (((h2.ext s1.extBut D.i2z D.l2z).ext s2.extBut D.i12.symm D.l2i1).ext s3.extBut D.TOi2.symm D.l2TO) hy fun g4 e s4 he => ?_)
    obtain ⟨oe, hoe, hce⟩ := he
    have z4 : IsZip g4 z TI TO .ellipsis := s4 _ _ D.i2z.symm (s3.extBut _ _ D.TOz.symm (s2.extBut _ _ D.i1z.symm z1))
    have hez : e ≠ z := fun q => by subst q; rw [z4] at hoe; cases hoe; simp at hce
    refine wpAny_setField_rec z4 (by simp) fun g5 _ s5 => hE g5 e (fun c o c1 c2 c3 c4 q => s5.extBut _ _ c1 (s4 _ _ c4 (s3.extBut _ _ c2 (s2.extBut _ _ c3 (s1.extBut _ _ c1 q))))) ⟨oe, s5.extBut _ _ hez hoe, hce⟩
theorem next_zip_item {b1 b2 : Bool} {z TI TO i1 i2 l1 l2 : Addr} {k1 k2 : Nat} {xs ys : Array Value} {x y a b : Value} {Q : Option Value → Shared → Prop} (D : ZipApart z TI TO i1 i2 l1 l2)
    (hz : IsZip s.heap z TI TO .none) (hTI : IsPair s.heap TI (.ref i1) (.ref i2)) (hTO : IsPair s.heap TO a b) (h1 : SubIt b1 s.heap i1 l1 k1 xs) (h2 : SubIt b2 s.heap i2 l2 k2 ys) (hx : xs[k1]? = some x) (hy : ys[k2]? = some y)
    (hQ : ∀ h', IsZip h' z TI TO (rawInt s.heap.objs.size) → IsPair h' TO x y → SubIt b1 h' i1 l1 (k1 + 1) xs → SubIt b2 h' i2 l2 (k2 + 1) ys → IsPair h' s.heap.objs.size x y → h'.objs.size = s.heap.objs.size + 1 →
      (∀ c o, c ≠ z → c ≠ TO → c ≠ i1 → c ≠ i2 → s.heap.get? c = some o → h'.get? c = some o) → Q (some (.ref s.heap.objs.size)) { s with heap := h' }) : wpAny (model prog w) A (pyNext (.ref z)) Q E s := by
  have hT : s.TypeIs (.ref z) "zip" := ⟨_, hz, rfl⟩
  unfold pyNext
  exact wpAny_bind (wpAny_attempt (wpAny_callSpecial?_slot (name := Str.ofString "__next__") hT F.slot_zip_next (wpAny_call_entry F.slot_zip_next hT F.entry_zip_next (zip_item D hz hTI hTO h1 h2 hx hy fun h' a1 a2 a3 a4 a5 a6 a7 => wpAny_pure (hQ h' a1 a2 a3 a4 a5 a6 a7)) (F.args_zip_next_1 _))))
theorem next_zip_end {b1 b2 : Bool} {z TI TO i1 i2 l1 l2 : Addr} {k1 k2 : Nat} {xs ys : Array Value} {a b : Value} {Q : Option Value → Shared → Prop} (hh : A.handled = none) (D : ZipApart z TI TO i1 i2 l1 l2)
    (hz : IsZip s.heap z TI TO .none) (hTI : IsPair s.heap TI (.ref i1) (.ref i2)) (hTO : IsPair s.heap TO a b) (h1 : SubIt b1 s.heap i1 l1 k1 xs) (h2 : SubIt b2 s.heap i2 l2 k2 ys) (hend : xs[k1]? = none ∨ ys[k2]? = none)
    (hQ : ∀ h', (∀ c o, c ≠ z → c ≠ TO → c ≠ i1 → c ≠ i2 → s.heap.get? c = some o → h'.get? c = some o) → Q none { s with heap := h' }) : wpAny (model prog w) A (pyNext (.ref z)) Q E s := by
  have hT : s.TypeIs (.ref z) "zip" := ⟨_, hz, rfl⟩
  unfold pyNext
  refine wpAny_bind (wpAny_attempt (wpAny_callSpecial?_slot (name := Str.ofString "__next__") hT F.slot_zip_next (wpAny_call_entry F.slot_zip_next hT F.entry_zip_next (zip_stop hh D hz hTI hTO h1 h2 hend fun h' e hk he => ?_) (F.args_zip_next_1 _))))
  obtain ⟨o, ho, hc⟩ := he
  exact wpAny_bind (wpAny_isInstance (T := "StopIteration") (b := true) ⟨o, ho, hc⟩ isSubtype_stop (wpAny_pure (hQ _ hk)))

/-! zip(a, b) is made -/
abbrev itObj (c : String) (l : Addr) : Obj := { cls := .type c, data := .fields #[.ref l, .int 0 0] }
abbrev zH1 (h : Heap) (c1 : String) (l1 : Addr) : Heap := h.push (itObj c1 l1)
abbrev zH2 (h : Heap) (c1 c2 : String) (l1 l2 : Addr) : Heap := (zH1 h c1 l1).push (itObj c2 l2)
abbrev zH3 (h : Heap) (c1 c2 : String) (l1 l2 : Addr) : Heap := (zH2 h c1 c2 l1 l2).push { cls := .type "tuple", data := .seq #[.ref h.objs.size, .ref (zH1 h c1 l1).objs.size] }
abbrev zH4 (h : Heap) (c1 c2 : String) (l1 l2 : Addr) : Heap := (zH3 h c1 c2 l1 l2).push { cls := .type "tuple", data := .seq #[.none, .none] }
abbrev zH5 (h : Heap) (c1 c2 : String) (l1 l2 : Addr) : Heap := (zH4 h c1 c2 l1 l2).push { cls := .type "zip", data := .fields #[.none, .bool false, .bool false, .ref (zH2 h c1 c2 l1 l2).objs.size, .ref (zH3 h c1 c2 l1 l2).objs.size] }
/-- what may be walked, and its iterator's class -/
def SeqC (h : Heap) (c : String) (l : Addr) (xs : Array Value) : Prop := (c = "list_iterator" ∧ h.IsList l xs) ∨ (c = "tuple_iterator" ∧ h.IsTuple l xs)
theorem SeqC.push {h : Heap} {c : String} {l : Addr} {xs : Array Value} (x : SeqC h c l xs) (o : Obj) : SeqC (h.push o) c l xs := by
  rcases x with ⟨e, a⟩ | ⟨e, ⟨ob, h1, h2⟩⟩
  · exact .inl ⟨e, a.push o⟩
  · exact .inr ⟨e, ⟨ob, Heap.get?_push_of_some _ h1, h2⟩⟩
theorem iter_seqC {c : String} {l : Addr} {xs : Array Value} {Q : Value → Shared → Prop} (hl : SeqC s.heap c l xs) (hQ : Q (.ref s.heap.objs.size) { s with heap := s.heap.push (itObj c l) }) : wpAny (model prog w) A (pyIter (.ref l)) Q E s := by
  rcases hl with ⟨rfl, a⟩ | ⟨rfl, a⟩
  · exact wpAny_pyIter_list a hQ
  · exact wpAny_pyIter_tuple a hQ
theorem meets_zip (c1 c2 : String) (l1 l2 : Addr) (xs ys : Array Value) :
    Meets (Builtin.«zip.__new__» ⟨[.type "zip", .ref l1, .ref l2], []⟩) (fun _ R s => SeqC s.heap c1 l1 xs ∧ SeqC s.heap c2 l2 ys ∧
      R (.ok (.ret (.ref (zH4 s.heap c1 c2 l1 l2).objs.size))) { s with heap := zH5 s.heap c1 c2 l1 l2 }) :=
  .of_wp fun prog w A R s h => by
    obtain ⟨hp, g, d, tk, os⟩ := s; obtain ⟨hl1, hl2, h⟩ := h
    have hsub := sub_zip
    have L1 : SeqC (Shared.heap ⟨hp, g, d, tk, os⟩) c1 l1 xs := hl1
    have L2 : SeqC (Shared.heap ⟨hp.push (itObj c1 l1), g, d, tk, os⟩) c2 l2 ys := SeqC.push hl2 _
    wp_walk using iter_seqC L1, iter_seqC L2
    exact ⟨_, rfl, h⟩
end
end L2

set_option Elab.async false
set_option linter.all false
set_option maxRecDepth 100000
namespace L2
open PySem PySem.Spec PyProof.Rows
section
variable {prog : Program} {w : World} {A : Around} {E : Value → Shared → Prop} {s : Shared}
theorem call_zipC {c1 c2 : String} {l1 l2 : Addr} {xs ys : Array Value} {Q : Value → Shared → Prop} (hl1 : SeqC s.heap c1 l1 xs) (hl2 : SeqC s.heap c2 l2 ys)
    (h : ∀ h', IsZip h' (s.heap.objs.size + 4) (s.heap.objs.size + 2) (s.heap.objs.size + 3) .none → IsPair h' (s.heap.objs.size + 2) (.ref s.heap.objs.size) (.ref (s.heap.objs.size + 1)) →
      IsPair h' (s.heap.objs.size + 3) .none .none → h'.get? s.heap.objs.size = some (itObj c1 l1) → h'.get? (s.heap.objs.size + 1) = some (itObj c2 l2) → h'.objs.size = s.heap.objs.size + 5 →
      (∀ c o, s.heap.get? c = some o → h'.get? c = some o) → Q (.ref (s.heap.objs.size + 4)) { s with heap := h' }) :
    wpAny (model prog w) A (call (.type "zip") [.ref l1, .ref l2]) Q E s := by
  refine callType_new F.called_zip (by decide) (F.typeCall_zip_2 _ _) (F.newCall_zip_2 _ _) (fun obj => F.args_object_init_3 obj _ _) F.entry_zip_new (meets_zip c1 c2 l1 l2 xs ys) ⟨hl1, hl2, ?_⟩
  have z1 : (zH1 s.heap c1 l1).objs.size = s.heap.objs.size + 1 := Heap.size_push ..
  have z2 : (zH2 s.heap c1 c2 l1 l2).objs.size = s.heap.objs.size + 2 := by rw [Heap.size_push, z1]
  have z3 : (zH3 s.heap c1 c2 l1 l2).objs.size = s.heap.objs.size + 3 := by rw [Heap.size_push, z2]
  have z4 : (zH4 s.heap c1 c2 l1 l2).objs.size = s.heap.objs.size + 4 := by rw [Heap.size_push, z3]
  have z5 : (zH5 s.heap c1 c2 l1 l2).objs.size = s.heap.objs.size + 5 := by rw [Heap.size_push, z4]
  have g5 : (zH5 s.heap c1 c2 l1 l2).get? (zH4 s.heap c1 c2 l1 l2).objs.size = some _ := Heap.get?_push_size _ rfl
  have g4 : (zH5 s.heap c1 c2 l1 l2).get? (zH3 s.heap c1 c2 l1 l2).objs.size = some _ := Heap.get?_push_of_some _ (Heap.get?_push_size _ rfl)
  have g3 : (zH5 s.heap c1 c2 l1 l2).get? (zH2 s.heap c1 c2 l1 l2).objs.size = some _ := Heap.get?_push_of_some _ (Heap.get?_push_of_some _ (Heap.get?_push_size _ rfl))
  have g2 : (zH5 s.heap c1 c2 l1 l2).get? (zH1 s.heap c1 l1).objs.size = some _ := Heap.get?_push_of_some _ (Heap.get?_push_of_some _ (Heap.get?_push_of_some _ (Heap.get?_push_size _ rfl)))
  have g1 : (zH5 s.heap c1 c2 l1 l2).get? s.heap.objs.size = some _ := Heap.get?_push_of_some _ (Heap.get?_push_of_some _ (Heap.get?_push_of_some _ (Heap.get?_push_of_some _ (Heap.get?_push_size _ rfl))))
  show _ ∧ _
  rw [z2, z3, z4] at g5
  rw [z1, z2] at g3
  rw [z3] at g4
  rw [z1] at g2
  rw [z4]
  exact ⟨⟨_, g5, rfl⟩, h _ g5 g3 g4 g1 g2 z5 fun c o q => Heap.get?_push_of_some _ (Heap.get?_push_of_some _ (Heap.get?_push_of_some _ (Heap.get?_push_of_some _ (Heap.get?_push_of_some _ q))))⟩
end
section
variable {X : Cx} {pins : List (Addr × Obj)} {σ : St} {H : Hp} {s : Shared} {h' : Heap}
/-- records of ours have turned, and a new object is laid -/
theorem Inv.turnedNew {chs : List Addr} {o : HO} {t' : Nat} (I : Inv X pins σ H s) (hch : ∀ b ∈ chs, FpOk X pins H b) (k : ∀ b u, b ∉ chs → s.heap.get? b = some u → h'.get? b = some u)
    (new : ObjOk X.prog X.w (upd H s.heap.objs.size o) h' s.heap.objs.size o) : Inv X pins σ (upd H s.heap.objs.size o) { s with heap := h', toks := t' } := by
  have hn := I.hok.fresh (Nat.le_refl s.heap.objs.size)
  have nch : ∀ b u, H b = some u → b ∉ chs := fun b u e z => by rw [(hch b z).1] at e; cases e
  have lt : ∀ b u, s.heap.get? b = some u → b ≠ s.heap.objs.size := fun b u e => Nat.ne_of_lt (Heap.lt_size e)
  refine I.step (g' := s.gens) (d' := s.drawn) (ch := chs) (fun b hb => ⟨(hch b hb).2.2.2.1, (hch b hb).2.1, (hch b hb).2.2.2.2.1, (hch b hb).2.2.2.2.2⟩) (fun b u _ _ hc e _ => k b u hc e) (fun b u _ _ hc e _ => ⟨u.slots, k b u hc e⟩)
    (fun b u _ e n => by rw [upd_ne (lt b u e)]; exact n) (fun b u hc e => ⟨u, k b u hc e⟩) (fun b xs e => by rw [upd_ne (ne_of_none e hn)]; exact e) (fun b u xs e => by rw [upd_ne (ne_of_none e hn)]; exact e)
    (fun b ps e => ⟨#[], by rw [upd_ne (ne_of_none e hn), e]; simp⟩) (fun m hm => ?_) (fun b u e => ?_) I.bare
  · obtain ⟨ob, es, ep, ho, r⟩ := hm
    exact ⟨ob, es, ep, k _ ob (fun z => (hch _ z).2.1 rfl) ho, r⟩
  · by_cases hb : b = s.heap.objs.size
    · subst hb
      rw [upd_same] at e; cases e
      exact new
    · rw [upd_ne hb] at e
      refine (I.hok b u e).stay (fun c v hc q => k c v ?_ q) (fun c q => by rw [upd_ne (ne_of_none q hn)]; exact q) fun c xs q => by rw [upd_ne (ne_of_none q hn)]; exact q
      rcases hc with z | z
      · rw [z]; exact nch b u e
      · exact nch c _ z
/-- records of ours have turned -/
theorem Inv.turnedL {chs : List Addr} {t' : Nat} (I : Inv X pins σ H s) (hch : ∀ b ∈ chs, FpOk X pins H b) (k : ∀ b u, b ∉ chs → s.heap.get? b = some u → h'.get? b = some u) : Inv X pins σ H { s with heap := h', toks := t' } := by
  have nch : ∀ b u, H b = some u → b ∉ chs := fun b u e z => by rw [(hch b z).1] at e; cases e
  refine I.step (g' := s.gens) (d' := s.drawn) (ch := chs) (fun b hb => ⟨(hch b hb).2.2.2.1, (hch b hb).2.1, (hch b hb).2.2.2.2.1, (hch b hb).2.2.2.2.2⟩) (fun b u _ _ hc e _ => k b u hc e) (fun b u _ _ hc e _ => ⟨u.slots, k b u hc e⟩)
    (fun b u _ e n => n) (fun b u hc e => ⟨u, k b u hc e⟩) (fun b xs e => e) (fun b u xs e => e) (fun b ps e => ⟨#[], by rw [e]; simp⟩) (fun m hm => ?_) (fun b u e => ?_) I.bare
  · obtain ⟨ob, es, ep, ho, r⟩ := hm
    exact ⟨ob, es, ep, k _ ob (fun z => (hch _ z).2.1 rfl) ho, r⟩
  · refine (I.hok b u e).stay (fun c v hc q => k c v ?_ q) (fun c q => q) fun c xs q => q
    rcases hc with z | z
    · rw [z]; exact nch b u e
    · exact nch c _ z
end

/-! ### what zip walks -/
inductive Src where
  | L (a : Addr) | T (a : Addr)
def Src.at : Src → Addr
  | .L a => a
  | .T a => a
def Src.b : Src → Bool
  | .L _ => false
  | .T _ => true
def Src.cls : Src → String
  | .L _ => "list_iterator"
  | .T _ => "tuple_iterator"
def SqS (K : PySem.W.Frag) (H : Hp) : Src → List V → Prop
  | .L a, xs => SqL K H a xs
  | .T a, xs => SqT K H a xs
def itAt (h : Heap) (u : Src) (i : Addr) (k : Nat) : Prop := match u with
  | .L a => h.IsListIter i a k
  | .T a => h.IsTupleIter i a k
theorem itAt_obj {h : Heap} {u : Src} {i : Addr} {k : Nat} (x : itAt h u i k) : ∃ o, h.get? i = some o ∧ ∀ v, o.data ≠ .cell v := by
  cases u with
  | L a => obtain ⟨o, e, c, d⟩ := x; exact ⟨o, e, fun v z => by rw [d] at z; cases z⟩
  | T a => obtain ⟨o, e, c, d⟩ := x; exact ⟨o, e, fun v z => by rw [d] at z; cases z⟩
theorem itAt_keep {h h' : Heap} {u : Src} {i : Addr} {k : Nat} (x : itAt h u i k) (kp : ∀ o, h.get? i = some o → h'.get? i = some o) : itAt h' u i k := by
  cases u with
  | L a => exact Heap.IsListIter.at x kp
  | T a => exact Heap.IsTupleIter.at x kp
theorem itAt_new {h : Heap} {u : Src} {i : Addr} (e : h.get? i = some (itObj u.cls u.at)) : itAt h u i 0 := by
  cases u with
  | L a => exact ⟨_, e, rfl, rfl⟩
  | T a => exact ⟨_, e, rfl, rfl⟩
section
variable {X : Cx} {pins : List (Addr × Obj)} {σ : St} {H : Hp} {s : Shared}
theorem Inv.src {u : Src} {xs : List V} (I : Inv X pins σ H s) (h : SqS X.K H u xs) : ∃ its : List Value, Vals xs its ∧ SeqC s.heap u.cls u.at its.toArray ∧ xs.length ≤ sizeLine ∧ u.at < s.heap.objs.size ∧ ∀ (i : Addr) (k : Nat), itAt s.heap u i k → SubIt u.b s.heap i u.at k its.toArray := by
  cases u with
  | L a =>
    obtain ⟨its, r, p, hz⟩ := I.list h
    obtain ⟨o, ho, _⟩ := p.isList
    exact ⟨its, r, .inl ⟨rfl, p.isList⟩, hz, Heap.lt_size ho, fun i k it => .inl ⟨rfl, it, p.isList⟩⟩
  | T a =>
    obtain ⟨its, r, p, hz⟩ := I.tuple h
    obtain ⟨o, ho, _⟩ := id p
    exact ⟨its, r, .inr ⟨rfl, p⟩, hz, Heap.lt_size ho, fun i k it => .inr ⟨rfl, it, p⟩⟩
theorem Inv.src_inj {u : Src} {xs ys : List V} (I : Inv X pins σ H s) (h : SqS X.K H u xs) (h' : SqS X.K H u ys) : xs = ys := by
  cases u with
  | L a => exact I.list_inj h h'
  | T a => exact I.tuple_inj h h'
theorem SubIt.itAt {h : Heap} {u : Src} {i : Addr} {k : Nat} {xs : Array Value} (x : SubIt u.b h i u.at k xs) : itAt h u i k := by
  cases u with
  | L a =>
    rcases x with ⟨_, a', _⟩ | ⟨z, _⟩
    · exact a'
    · cases z
  | T a =>
    rcases x with ⟨z, _⟩ | ⟨_, a', _⟩
    · cases z
    · exact a'
end

def Itz (K : PySem.W.Frag) (u v : Src) : It :=
  ⟨fun i H => ∃ xs ys x y, SqS K H u xs ∧ SqS K H v ys ∧ xs[i]? = some x ∧ ys[i]? = some y,
   fun i H t H' => ∃ p x y, H p = none ∧ t = .ref p ∧ H' = upd H p (.tup [x, y]) ∧ (∀ xs, SqS K H u xs → xs[i]? = some x) ∧ (∀ ys, SqS K H v ys → ys[i]? = some y),
   fun i H => ∃ xs ys, SqS K H u xs ∧ SqS K H v ys ∧ (xs.length ≤ i ∨ ys.length ≤ i)⟩
theorem turn_zip {P : Program} {w : World} {K : PySem.W.Frag} {elts : List Expr} {k : Nat} {pos : Pos} (u v : Src) (z TI TO i1 i2 : Addr) (D : ZipApart z TI TO i1 i2 u.at v.at) :
    Turn P w K (.Tuple elts k pos) (Itz K u v) [z, TI, TO, i1, i2] z (fun i h => IsZip h z TI TO .none ∧ IsPair h TI (.ref i1) (.ref i2) ∧ (∃ a b, IsPair h TO a b) ∧ itAt h u i1 i ∧ itAt h v i2 i) where
  mem := by simp
  obj := fun i h ⟨hz, hTI, ⟨a, b, hTO⟩, h1, h2⟩ c hc => by
    simp only [List.mem_cons, List.not_mem_nil, or_false] at hc
    rcases hc with rfl | rfl | rfl | rfl | rfl
    · exact ⟨_, hz, fun v z => nomatch z⟩
    · exact ⟨_, hTI, fun v z => nomatch z⟩
    · exact ⟨_, hTO, fun v z => nomatch z⟩
    · exact itAt_obj h1
    · exact itAt_obj h2
  keep := fun i h h' ⟨hz, hTI, ⟨a, b, hTO⟩, h1, h2⟩ kp =>
    ⟨kp z (by simp) _ hz, kp TI (by simp) _ hTI, ⟨a, b, kp TO (by simp) _ hTO⟩, itAt_keep h1 fun o e => kp i1 (by simp) o e, itAt_keep h2 fun o e => kp i2 (by simp) o e⟩
  item := by
    intro X hP hw hK hc i pins s σ H E I hf ⟨hz, hTI, ⟨a, b, hTO⟩, h1, h2⟩ hg
    subst hP hw hK
    obtain ⟨xs, ys, x, y, hu, hv, hx, hy⟩ := hg
    obtain ⟨its, r1, _, _, lt1, s1⟩ := I.src hu
    obtain ⟨its2, r2, _, _, lt2, s2⟩ := I.src hv
    obtain ⟨ux, hux, rx⟩ := r1.get hx
    obtain ⟨uy, huy, ry⟩ := r2.get hy
    refine next_zip_item D hz hTI hTO (s1 _ _ h1) (s2 _ _ h2) (x := ux) (y := uy) (by simpa using hux) (by simpa using huy) fun h' a1 a2 a3 a4 a5 a6 a7 => ⟨_, rfl, ?_⟩
    have hch : ∀ b ∈ [z, TO, i1, i2], FpOk X pins H b := fun b hb => hf b (by
      simp only [List.mem_cons, List.not_mem_nil, or_false] at hb ⊢
      rcases hb with rfl | rfl | rfl | rfl <;> simp)
    have k' : ∀ b u, b ∉ [z, TO, i1, i2] → s.heap.get? b = some u → h'.get? b = some u := fun b u hb e => a7 b u (fun q => hb (by simp [q])) (fun q => hb (by simp [q])) (fun q => hb (by simp [q])) (fun q => hb (by simp [q])) e
    have I1 : Inv X pins σ (upd H s.heap.objs.size (.tup [x, y])) { s with heap := h' } := I.turnedNew (t' := s.toks) hch k' ⟨by show 2 ≤ sizeLine; decide, [ux, uy], .cons rx (.cons ry .nil), ⟨_, a5, rfl, _, rfl⟩⟩
    refine wpAny_letOwnedTupleGo_zip (s := { s with heap := h' }) a1 fun h2' hz' hs' => ?_
    have hn := I.hok.fresh (Nat.le_refl s.heap.objs.size)
    have ltf : ∀ b ∈ [z, TI, TO, i1, i2], b ≠ s.heap.objs.size := fun b hb => by
      simp only [List.mem_cons, List.not_mem_nil, or_false] at hb
      rcases hb with rfl | rfl | rfl | rfl | rfl
      · exact Nat.ne_of_lt (Heap.lt_size hz)
      · exact Nat.ne_of_lt (Heap.lt_size hTI)
      · exact Nat.ne_of_lt (Heap.lt_size hTO)
      · obtain ⟨o, e, _⟩ := itAt_obj h1; exact Nat.ne_of_lt (Heap.lt_size e)
      · obtain ⟨o, e, _⟩ := itAt_obj h2; exact Nat.ne_of_lt (Heap.lt_size e)
    obtain ⟨f0, f1, f2, f3, f4, f5⟩ := hf z (by simp)
    have I2 : Inv X pins σ (upd H s.heap.objs.size (.tup [x, y])) { s with heap := h2' } := I1.turned (t' := s.toks) (fun b o hb e => hs'.extBut b o hb e) (by rw [upd_ne (ltf z (by simp))]; exact f0) f1 f3 f4 f5
    refine ⟨.ref s.heap.objs.size, _, I2, rfl, ⟨s.heap.objs.size, x, y, hn, rfl, rfl, fun xs' h => by rw [I.src_inj h hu]; exact hx, fun ys' h => by rw [I.src_inj h hv]; exact hy⟩, ?_, fun b hb => by rw [upd_ne (ltf b hb)]; exact (hf b hb).1⟩
    exact ⟨hz', hs'.extBut _ _ D.TIz (a7 _ _ D.TIz D.TITO D.TIi1 D.TIi2 hTI), ⟨_, _, hs'.extBut _ _ D.TOz a2⟩, itAt_keep a3.itAt fun o e => hs'.extBut _ _ D.i1z e, itAt_keep a4.itAt fun o e => hs'.extBut _ _ D.i2z e⟩
  done := by
    intro X hP hw hK hc i pins s σ H E I hf ⟨hz, hTI, ⟨a, b, hTO⟩, h1, h2⟩ hg
    subst hP hw hK
    obtain ⟨xs, ys, hu, hv, hend⟩ := hg
    obtain ⟨its, r1, _, _, lt1, s1⟩ := I.src hu
    obtain ⟨its2, r2, _, _, lt2, s2⟩ := I.src hv
    have l1 := r1.length
    have l2 := r2.length
    refine next_zip_end (I.ok.hd hc) D hz hTI hTO (s1 _ _ h1) (s2 _ _ h2) (by
      rcases hend with q | q
      · exact .inl (by simp; omega)
      · exact .inr (by simp; omega)) fun h' a7 => ⟨rfl, ?_⟩
    refine I.turnedL (t' := s.toks) (chs := [z, TO, i1, i2]) (fun b hb => hf b (by
      simp only [List.mem_cons, List.not_mem_nil, or_false] at hb ⊢
      rcases hb with rfl | rfl | rfl | rfl <;> simp)) fun b u hb e => a7 b u (fun q => hb (by simp [q])) (fun q => hb (by simp [q])) (fun q => hb (by simp [q])) (fun q => hb (by simp [q])) e
  self := fun _ _ _ _ _ st h => wpAny_pyIter_zip st.1 h
def zipD : List D → List D → List D
  | x :: xs, y :: ys => .tup [x, y] :: zipD xs ys
  | _, _ => []
theorem zipD_len : ∀ (xs ys : List D), (zipD xs ys).length = min xs.length ys.length
  | [], _ => by simp [zipD]
  | _ :: _, [] => by simp [zipD]
  | x :: xs, y :: ys => by simp only [zipD, List.length_cons, zipD_len xs ys]; omega
theorem zipD_get : ∀ (xs ys : List D) (i : Nat) (d : D), (zipD xs ys)[i]? = some d → ∃ x y, xs[i]? = some x ∧ ys[i]? = some y ∧ d = .tup [x, y]
  | [], _, _, _, h => by simp [zipD] at h
  | _ :: _, [], _, _, h => by simp [zipD] at h
  | x :: xs, y :: ys, 0, d, h => by simp [zipD] at h; exact ⟨x, y, rfl, rfl, h.symm⟩
  | x :: xs, y :: ys, i + 1, d, h => by
    obtain ⟨a, b, h1, h2, h3⟩ := zipD_get xs ys i d (by simpa [zipD] using h)
    exact ⟨a, b, by simpa using h1, by simpa using h2, h3⟩
/-- a thing that can be walked, as a source -/
theorem src_of {K : PySem.W.Frag} {H : Hp} {d : D} {ds : List D} {v : V} (h : itemsD d = some ds) (r : Rep K H d v) : ∃ u : Src, v = .ref u.at ∧ ∀ H', Rep K H' d v → ∃ xs, SqS K H' u xs ∧ Reps K H' ds xs := by
  cases d with
  | tup xs => cases h; obtain ⟨a, us, rfl, _⟩ := r.tup_of; exact ⟨.T a, rfl, fun H' r' => by obtain ⟨a', us', e, e2, e3⟩ := r'.tup_of; injection e with e; subst e; exact ⟨us', SqT.of e2, e3⟩⟩
  | lst xs => cases h; obtain ⟨a, us, rfl, _⟩ := r.lst_of; exact ⟨.L a, rfl, fun H' r' => by obtain ⟨a', us', e, e2, e3⟩ := r'.lst_of; injection e with e; subst e; exact ⟨us', SqL.of e2, e3⟩⟩
  | fro xs => cases h; obtain ⟨a, us, rfl, _⟩ := r.fro_of; exact ⟨.L a, rfl, fun H' r' => by obtain ⟨a', us', e, e2, e3⟩ := r'.fro_of; injection e with e; subst e; exact ⟨us', e2.sq, e3⟩⟩
  | _ => cases h
theorem itd_zip {K : PySem.W.Frag} {u v : Src} {d e : D} {ds es : List D} {vx vy : V} (h1 : ∀ H', Rep K H' d vx → ∃ xs, SqS K H' u xs ∧ Reps K H' ds xs) (h2 : ∀ H', Rep K H' e vy → ∃ xs, SqS K H' v xs ∧ Reps K H' es xs) : ItD K (Itz K u v) [(vx, d), (vy, e)] (zipD ds es) where
  go := fun i H g hi => by
    obtain ⟨xs, q1, r1⟩ := h1 H (g (vx, d) (by simp))
    obtain ⟨ys, q2, r2⟩ := h2 H (g (vy, e) (by simp))
    have l1 := r1.length
    have l2 := r2.length
    rw [zipD_len] at hi
    exact ⟨xs, ys, xs[i], ys[i], q1, q2, List.getElem?_eq_getElem (by omega), List.getElem?_eq_getElem (by omega)⟩
  yld := fun i H x H' c g hd ⟨p, x1, y1, hn, hx, hH, k1, k2⟩ => by
    obtain ⟨xs, q1, r1⟩ := h1 H (g (vx, d) (by simp))
    obtain ⟨ys, q2, r2⟩ := h2 H (g (vy, e) (by simp))
    obtain ⟨a, b, e1, e2, rfl⟩ := zipD_get ds es i c hd
    obtain ⟨v1, z1, z2⟩ := r1.get e1
    obtain ⟨v2, z3, z4⟩ := r2.get e2
    have w1 := k1 xs q1
    have w2 := k2 ys q2
    rw [z1] at w1; cases w1
    rw [z3] at w2; cases w2
    subst hx hH
    exact ⟨same_new hn _, rep_tup upd_same (reps_cons (z2.mono (same_new hn _)) (reps_cons (z4.mono (same_new hn _)) reps_nil))⟩
  stop := fun H g => by
    obtain ⟨xs, q1, r1⟩ := h1 H (g (vx, d) (by simp))
    obtain ⟨ys, q2, r2⟩ := h2 H (g (vy, e) (by simp))
    refine ⟨xs, ys, q1, q2, ?_⟩
    rw [zipD_len, r1.length, r2.length]
    omega
def zip2 : List D → Option (List D)
  | [a, b] => (itemsD a).bind fun xs => (itemsD b).map fun ys => zipD xs ys
  | _ => none
section
variable {X : Cx} {a b : Expr} {p pos tpos : Pos} {elts : List Expr} {tk : Nat}
/-- for x, y in zip(a, b) -/
theorem i_zip {fs : DS → Option (List D)} (hg : Gl X "zip") (hm : X.mg "zip" = none) (ha : PA X [a, b] (tDA X.K fs)) (hs : starEach [a, b] X.env = [(false, eval a X.env), (false, eval b X.env)] := by rfl) (hs2 : starEach [b] X.env = [(false, eval b X.env)] := by rfl)
    (hv : bootBuiltins "zip" = some (.type "zip") := by decide +kernel) : PI X (.Tuple elts tk tpos) (.Call (.Name "zip" p) [a, b] [] pos) (tI X.K fun δ => (fs δ).bind zip2) := by
  intro pins s σ H R I ⟨δ, ds, sr, e, q⟩
  dsimp only at e
  cases ex : fs δ with
  | none => rw [ex] at e; cases e
  | some args =>
    rw [ex] at e
    have e' : zip2 args = some ds := e
    unfold zip2 at e'
    split at e'
    · rename_i da db
      cases hda : itemsD da with
      | none => rw [hda] at e'; cases e'
      | some xs =>
        cases hdb : itemsD db with
        | none => simp [hda, hdb] at e'
        | some ys =>
          have e'' : zipD xs ys = ds := by simpa [hda, hdb] using e'
          subst e''
          refine Call_ (ld_blt I hg hm hv (PyProof.Rows.callWith_type1 (thn (ha pos pins s σ H (fun vs H1 => Same H H1 ∧ Reps X.K H1 [da, db] vs) I ⟨δ, _, sr, ex, fun vs H1 s1 rs => ⟨s1, rs⟩⟩) fun us s1 ⟨vs, H1, I1, r1, S, rs⟩ => ?_) (by rw [hs, hs2]) (by rw [hs2]; rfl)))
          obtain ⟨va, rr, rfl, ra, rn⟩ := rs.cons_of
          obtain ⟨vb, rr2, rfl, rb, rn2⟩ := rn.cons_of
          cases rn2.nil_of
          obtain ⟨u, rfl, hu⟩ := src_of hda ra
          obtain ⟨v, rfl, hv'⟩ := src_of hdb rb
          obtain ⟨xsv, qu, ru⟩ := hu H1 ra
          obtain ⟨ysv, qv, rv⟩ := hv' H1 rb
          cases r1 with
          | cons q1 r1 =>
            cases r1 with
            | cons q2 r1 =>
              cases r1
              cases q1
              cases q2
              obtain ⟨its, k1, c1, z1, lt1, _⟩ := I1.src qu
              obtain ⟨its2, k2, c2, z2, lt2, _⟩ := I1.src qv
              refine call_zipC c1 c2 fun h' a1 a2 a3 a4 a5 a6 a7 => ?_
              have I2 : Inv X pins σ H1 { s1 with heap := h' } := I1.kept (t' := s1.toks) a7
              refine wpAny_pyIter_zip (s := { s1 with heap := h' }) a1 ?_
              refine ⟨s1.heap.objs.size + 4, [s1.heap.objs.size + 4, s1.heap.objs.size + 2, s1.heap.objs.size + 3, s1.heap.objs.size, s1.heap.objs.size + 1], _, _, H1, rfl, I2, turn_zip u v _ _ _ _ _ (zipApart_new lt1 lt2), ⟨a1, a2, ⟨_, _, a3⟩, itAt_new a4, itAt_new a5⟩, fun b hb => ?_, q _ _ H1 S (fun p hp => ?_) (itd_zip hu hv') ?_⟩
              · have hb' : s1.heap.objs.size ≤ b := by
                  simp only [List.mem_cons, List.not_mem_nil, or_false] at hb
                  rcases hb with rfl | rfl | rfl | rfl | rfl <;> omega
                exact I1.fpOk hb' (I1.hok.fresh hb')
              · simp only [List.mem_cons, List.not_mem_nil, or_false] at hp
                rcases hp with rfl | rfl
                · exact ra
                · exact rb
              · rw [zipD_len]
                have := ru.length
                omega
    · cases e'
end
end L2

set_option Elab.async false
set_option linter.all false
set_option maxRecDepth 100000
namespace L2
open PySem PySem.Spec PyProof.Rows
/-! ### the functions, by short names -/
def vF (i : Nat) : DS → Option D := fun δ => (δ[i]?).join
def cF (d : D) : DS → Option D := fun _ => some d
def unF (f : DS → Option D) (g : D → Option D) : DS → Option D := fun δ => (f δ).bind g
def nilF : DS → Option (List D) := fun _ => some []
def callF (fs : DS → Option (List D)) (g : List D → Option D) : DS → Option D := fun δ => (fs δ).bind g
def lstF (f : DS → Option (List D)) : DS → Option D := fun δ => (f δ).map D.lst
def dispF (fs : DS → Option (List D)) : DS → Option (List D) := fun δ => (fs δ).bind fun ds => if fit ds.length = true then some ds else none
def tupF (fs : DS → Option (List D)) : DS → Option D := fun δ => (fs δ).bind fun ds => if fit ds.length = true then some (.tup ds) else none
def fsF (fs : DS → Option (List D)) (g : List D → Option (List D)) : DS → Option (List D) := fun δ => (fs δ).bind g
def compF (fi : DS → Option (List D)) (h : D → DS → Option DS) (fc : DS → Option Bool) (fe : DS → Option D) (inn : List (Option Nat)) : DS → Option (List D) := fun δ => (fi δ).bind fun ds => compD h fc fe (innD inn δ) ds
def oN : DS → Option (Option Int) := fun _ => some none
def oS (f : DS → Option D) : DS → Option (Option Int) := fun δ => asI (f δ)
def bT (f : DS → Option D) : DS → Option Bool := fun δ => asB (f δ)
def yesT : DS → Option Bool := fun _ => some true
def truT (f : DS → Option D) : DS → Option Bool := fun δ => (f δ).bind truD
def andT (t u : DS → Option Bool) : DS → Option Bool := fun δ => (t δ).bind fun k => if k = true then u δ else some false
def orT (t u : DS → Option Bool) : DS → Option Bool := fun δ => (t δ).bind fun k => if k = true then some true else u δ
def notT (t : DS → Option Bool) : DS → Option Bool := fun δ => (t δ).map (!·)
def itF (f : DS → Option D) : DS → Option (List D) := fun δ => (f δ).bind itemsD
def nxF : DS → Option DF := fun δ => some (.nx δ)
def retF (f : DS → Option D) : DS → Option DF := fun δ => (f δ).map .rt
def setF (i : Nat) (f : DS → Option D) : DS → Option DF := fun δ => (f δ).map fun d => .nx (δ.set i (some d))
def setL (i : Nat) (f : DS → Option (List D)) : DS → Option DF := fun δ => (f δ).map fun ds => .nx (δ.set i (some (.lst ds)))
def ifF (t : DS → Option Bool) (g g' : DS → Option DF) : DS → Option DF := fun δ => (t δ).bind fun k => if k = true then g δ else g' δ
def forF (fi : DS → Option (List D)) (h : D → DS → Option DS) (gb : DS → Option DF) : DS → Option DF := fun δ => (fi δ).bind fun ds => forD h gb ds δ

/-- the text's part of a comprehension -/
def compOk (sc scope : Scope) (N N' : List Str) (inn : List (Option Nat)) : Bool :=
  scope.kind == .function && scope.names.all (fun y => y.2 != .cell) && scope.names.all (fun y => y.2 != .local || scope.names.lookup y.1 == some .local) &&
  scope.names.all (fun y => y.2 != .free || (scope.names.lookup y.1 == some .free && (sc.names.lookup y.1 == some .cell || sc.names.lookup y.1 == some .free))) &&
  decide N'.Nodup && inn.length == N'.length && (inn.zip N').all (fun p => match p.1 with | none => true | some j => N[j]? == some p.2 && scope.names.contains (p.2, .free))
theorem compSc_mk {X : Cx} {scope : Scope} {N' : List Str} {inn : List (Option Nat)} (sc : Scope) (N : List Str) (h1 : X.env.scope = sc) (h2 : X.N = N) (h : compOk sc scope N N' inn = true) : CompSc X scope N' inn := by
  unfold compOk at h
  simp only [Bool.and_eq_true] at h
  obtain ⟨⟨⟨⟨⟨⟨a1, a2⟩, a3⟩, a4⟩, a5⟩, a6⟩, a7⟩ := h
  refine ⟨eq_of_beq a1, fun y hy => ?_, fun y hy e => ?_, fun y hy => ?_, of_decide_eq_true a5, eq_of_beq a6, fun i j hi => ?_⟩
  · have := List.all_eq_true.mp a2 y hy
    simpa using this
  · have := List.all_eq_true.mp a3 y hy
    rcases Bool.or_eq_true_iff.mp this with z | z
    · simp [e] at z
    · exact eq_of_beq z
  · have := List.all_eq_true.mp a4 (y, .free) hy
    rcases Bool.or_eq_true_iff.mp this with z | z
    · simp at z
    · obtain ⟨z1, z2⟩ := Bool.and_eq_true_iff.mp z
      refine ⟨eq_of_beq z1, ?_⟩
      show X.env.scope.names.lookup y = _ ∨ X.env.scope.names.lookup y = _
      rw [h1]
      rcases Bool.or_eq_true_iff.mp z2 with w | w
      · exact .inl (eq_of_beq w)
      · exact .inr (eq_of_beq w)
  · have hl : inn.length = N'.length := eq_of_beq a6
    have hi1 : i < inn.length := (List.getElem?_eq_some_iff.mp hi).1
    have hz : (inn.zip N')[i]? = some (some j, N'[i]'(by omega)) := by
      rw [List.getElem?_zip_eq_some]
      exact ⟨hi, List.getElem?_eq_getElem (by omega)⟩
    have := List.all_eq_true.mp a7 _ (List.mem_of_getElem? hz)
    obtain ⟨z1, z2⟩ := Bool.and_eq_true_iff.mp this
    exact ⟨_, List.getElem?_eq_getElem (by omega), by rw [h2]; exact eq_of_beq z1, List.contains_iff_mem.mp z2⟩
end L2

set_option maxHeartbeats 4000000
namespace L2.k01
open PySem L2
def top (i : Nat) : Stmt := PySem.Challenge.pw_rowwright_k01_rows_and_lots.main.body.getD i (.Pass ⟨0, 0, 0, 0⟩)
structure Bl (mg : Str → Option Value) : Prop where
  b_all : mg "all" = none
  b_bool : mg "bool" = none
  b_int : mg "int" = none
  b_isinstance : mg "isinstance" = none
  b_len : mg "len" = none
  b_list : mg "list" = none
  b_range : mg "range" = none
  b_tuple : mg "tuple" = none
  b_zip : mg "zip" = none
  c_MOST_ROWS : ∃ t, mg "MOST_ROWS" = some (.int 8 t)
section
variable {P : Program} {w : World} {K : PySem.W.Frag} {mg : Str → Option Value} {base : Heap} {f : Addr} {fd : FuncData}
abbrev s_is_whole : Stmt := top 2
def g_is_whole : DS → Option DF := (retF (andD (callF (consD (vF 0) (consD (cF (.ty "int")) nilF)) isiD) (notD (callF (consD (vF 0) (consD (cF (.ty "bool")) nilF)) isiD))))
def F_is_whole : List D → Option D := runD 1 ["thing"] g_is_whole
theorem sc_is_whole : FnScope ["thing"] ["thing"] (defScope s_is_whole) := ⟨rfl, rfl, rfl, by decide +kernel, rfl, by decide +kernel, by decide +kernel⟩
theorem ok_is_whole (B : Bl mg) (F : Fun K "is_whole" "is_whole" s_is_whole f fd) (hm : mg "is_whole" = some (.ref f))  : Ca P w K mg base 1 "is_whole" F_is_whole :=
  def_ok (g := g_is_whole) F sc_is_whole hm (F.binds fun _ _ _ _ _ _ us hl => match us, hl with | [_], _ => rfl) fun cdv A outer s H E hr => ⟨[], (s_one (s_ret (d_and (d_isi rfl B.b_isinstance (da_cons (d_var 0) (da_cons (d_ty rfl B.b_int (by decide +kernel)) da_nil))) (d_one (d_not (d_isi rfl B.b_isinstance (da_cons (d_var 0) (da_cons (d_ty rfl B.b_bool (by decide +kernel)) da_nil))))))))⟩

abbrev s_is_row : Stmt := top 3
def g_is_row : DS → Option DF := (retF (andD (callF (consD (vF 0) (consD (cF (.ty "tuple")) nilF)) isiD) (andD (bind2 (callF (consD (vF 0) nilF) lenD) (vF 1) eqD) (callF (consD (lstF (compF (itF (vF 0)) (bind1 0) yesT (callF (consD (vF 0) nilF) F_is_whole) [none])) nilF) allD))))
def F_is_row : List D → Option D := runD 2 ["thing", "wide"] g_is_row
theorem sc_is_row : FnScope ["thing", "wide"] ["thing", "wide"] (defScope s_is_row) := ⟨rfl, rfl, rfl, by decide +kernel, rfl, by decide +kernel, by decide +kernel⟩
theorem ok_is_row (B : Bl mg) (F : Fun K "is_row" "is_row" s_is_row f fd) (hm : mg "is_row" = some (.ref f)) (c_is_whole : Ca P w K mg base 1 "is_whole" F_is_whole) : Ca P w K mg base 2 "is_row" F_is_row :=
  def_ok (g := g_is_row) F sc_is_row hm (F.binds fun _ _ _ _ _ _ us hl => match us, hl with | [_, _], _ => rfl) fun cdv A outer s H E hr => ⟨[], (s_one (s_ret (d_and (d_isi rfl B.b_isinstance (da_cons (d_var 0) (da_cons (d_ty rfl B.b_tuple (by decide +kernel)) da_nil))) (d_and (d_eq hr (d_len rfl B.b_len (da_cons (d_var 0) da_nil)) (d_var 1)) (d_one (d_all rfl rfl B.b_all (da_cons (d_comp rfl (compSc_mk (N' := ["part"]) (inn := [none]) (defScope s_is_row) ["thing", "wide"] rfl rfl (by decide +kernel)) (i_seq (d_var 0)) (fun _ _ _ _ => ⟨(g_name (i := 0) (show (["part"] : List Str).Nodup by decide +kernel) rfl (by first | exact Or.inl rfl | exact Or.inr rfl)), ifs_nil, (d_call c_is_whole hr rfl (da_cons (d_var 0) da_nil))⟩)) da_nil)))))))⟩

abbrev s_is_lot : Stmt := top 4
def g_is_lot : DS → Option DF := (retF (andD (callF (consD (vF 0) (consD (cF (.ty "tuple")) nilF)) isiD) (andD (bind2 (callF (consD (vF 0) nilF) lenD) (cF (.int 8)) leD) (callF (consD (lstF (compF (itF (vF 0)) (bind1 0) yesT (callF (consD (vF 0) (consD (vF 1) nilF)) F_is_row) [none, some 1])) nilF) allD))))
def F_is_lot : List D → Option D := runD 2 ["thing", "wide"] g_is_lot
theorem sc_is_lot : FnScope ["thing", "wide"] ["thing", "wide"] (defScope s_is_lot) := ⟨rfl, rfl, rfl, by decide +kernel, rfl, by decide +kernel, by decide +kernel⟩
theorem ok_is_lot (B : Bl mg) (F : Fun K "is_lot" "is_lot" s_is_lot f fd) (hm : mg "is_lot" = some (.ref f)) (c_is_row : Ca P w K mg base 2 "is_row" F_is_row) : Ca P w K mg base 3 "is_lot" F_is_lot :=
  def_ok (g := g_is_lot) F sc_is_lot hm (F.binds fun _ _ _ _ _ _ us hl => match us, hl with | [_, _], _ => rfl) fun cdv A outer s H E hr => ⟨[], (s_one (s_ret (d_and (d_isi rfl B.b_isinstance (da_cons (d_var 0) (da_cons (d_ty rfl B.b_tuple (by decide +kernel)) da_nil))) (d_and (d_le (d_len rfl B.b_len (da_cons (d_var 0) da_nil)) (d_glob_int rfl B.c_MOST_ROWS)) (d_one (d_all rfl rfl B.b_all (da_cons (d_comp rfl (compSc_mk (N' := ["part", "wide"]) (inn := [none, some 1]) (defScope s_is_lot) ["thing", "wide"] rfl rfl (by decide +kernel)) (i_seq (d_var 0)) (fun _ _ _ _ => ⟨(g_name (i := 0) (show (["part", "wide"] : List Str).Nodup by decide +kernel) rfl (by first | exact Or.inl rfl | exact Or.inr rfl)), ifs_nil, (d_call c_is_row hr rfl (da_cons (d_var 0) (da_cons (d_var 1) da_nil)))⟩)) da_nil)))))))⟩

abbrev s__law_cell : Stmt := top 6
def g__law_cell : DS → Option DF := (seqF (ifF (bT (bind2 (vF 1) (callF (consD (vF 0) nilF) lenD) ltD)) (retF (bind2 (vF 0) (vF 1) ixD)) nxF) (retF (cF (.int 0))))
def F__law_cell : List D → Option D := runD 2 ["_law_script", "_law_k"] g__law_cell
theorem sc__law_cell : FnScope ["_law_script", "_law_k"] ["_law_script", "_law_k"] (defScope s__law_cell) := ⟨rfl, rfl, rfl, by decide +kernel, rfl, by decide +kernel, by decide +kernel⟩
theorem ok__law_cell (B : Bl mg) (F : Fun K "_law_cell" "_law_cell" s__law_cell f fd) (hm : mg "_law_cell" = some (.ref f))  : Ca P w K mg base 1 "_law_cell" F__law_cell :=
  def_ok (g := g__law_cell) F sc__law_cell hm (F.binds fun _ _ _ _ _ _ us hl => match us, hl with | [_, _], _ => rfl) fun cdv A outer s H E hr => ⟨[], (s_cons (s_if (t_lt (d_var 1) (d_len rfl B.b_len (da_cons (d_var 0) da_nil))) (s_one (s_ret (d_ix (d_var 0) (d_var 1)))) s_nil) (s_one (s_ret d_int)))⟩

abbrev s__law_mix : Stmt := top 7
def g__law_mix : DS → Option DF := (retF (bind2 (bind2 (bind2 (vF 0) (cF (.int 48271)) mulD) (vF 1) modD) (vF 2) modD))
def F__law_mix : List D → Option D := runD 3 ["_law_cell_here", "_law_prime", "_law_many"] g__law_mix
theorem sc__law_mix : FnScope ["_law_cell_here", "_law_prime", "_law_many"] ["_law_cell_here", "_law_prime", "_law_many"] (defScope s__law_mix) := ⟨rfl, rfl, rfl, by decide +kernel, rfl, by decide +kernel, by decide +kernel⟩
theorem ok__law_mix (B : Bl mg) (F : Fun K "_law_mix" "_law_mix" s__law_mix f fd) (hm : mg "_law_mix" = some (.ref f))  : Ca P w K mg base 1 "_law_mix" F__law_mix :=
  def_ok (g := g__law_mix) F sc__law_mix hm (F.binds fun _ _ _ _ _ _ us hl => match us, hl with | [_, _, _], _ => rfl) fun cdv A outer s H E hr => ⟨[], (s_one (s_ret (d_mod (d_mod (d_mul (d_var 0) d_int) (d_var 1)) (d_var 2))))⟩

abbrev s__law_row : Stmt := top 8
def g__law_row : DS → Option DF := (retF (callF (consD (lstF (compF (fsF (consD (vF 1) nilF) range1D) (bind1 0) yesT (bind2 (callF (consD (bind2 (vF 1) (bind2 (cF (.int 11)) (vF 0) mulD) addD) (consD (cF (.int 9973)) (consD (cF (.int 13)) nilF))) F__law_mix) (cF (.int 6)) subD) [none, some 0])) nilF) tupleD))
def F__law_row : List D → Option D := runD 2 ["_law_cell_here", "_law_wide_here"] g__law_row
theorem sc__law_row : FnScope ["_law_cell_here", "_law_wide_here"] ["_law_cell_here", "_law_wide_here"] (defScope s__law_row) := ⟨rfl, rfl, rfl, by decide +kernel, rfl, by decide +kernel, by decide +kernel⟩
theorem ok__law_row (B : Bl mg) (F : Fun K "_law_row" "_law_row" s__law_row f fd) (hm : mg "_law_row" = some (.ref f)) (c__law_mix : Ca P w K mg base 1 "_law_mix" F__law_mix) : Ca P w K mg base 2 "_law_row" F__law_row :=
  def_ok (g := g__law_row) F sc__law_row hm (F.binds fun _ _ _ _ _ _ us hl => match us, hl with | [_, _], _ => rfl) fun cdv A outer s H E hr => ⟨[], (s_one (s_ret (d_tuple rfl B.b_tuple (da_cons (d_comp rfl (compSc_mk (N' := ["_law_at", "_law_cell_here"]) (inn := [none, some 0]) (defScope s__law_row) ["_law_cell_here", "_law_wide_here"] rfl rfl (by decide +kernel)) (i_of_r (r_range1 rfl B.b_range (da_cons (d_var 1) da_nil))) (fun _ _ _ _ => ⟨(g_name (i := 0) (show (["_law_at", "_law_cell_here"] : List Str).Nodup by decide +kernel) rfl (by first | exact Or.inl rfl | exact Or.inr rfl)), ifs_nil, (d_sub (d_call c__law_mix hr rfl (da_cons (d_add (d_var 1) (d_mul d_int (d_var 0))) (da_cons d_int (da_cons d_int da_nil)))) d_int)⟩)) da_nil))))⟩

abbrev s__law_sum : Stmt := top 9
def g__law_sum : DS → Option DF := (seqF (setL 3 (compF (fsF (consD (vF 2) nilF) range1D) (bind1 0) yesT (cF (.int 0)) [none])) (seqF (forF (fsF (consD (vF 0) (consD (vF 1) nilF)) zip2) (bindP 4 5) (setL 3 (compF (fsF (consD (vF 3) (consD (vF 5) nilF)) zip2) (bindP 0 1) yesT (bind2 (vF 0) (bind2 (vF 2) (vF 1) mulD) addD) [none, none, some 4]))) (retF (callF (consD (vF 3) nilF) tupleD))))
def F__law_sum : List D → Option D := runD 3 ["_law_counts", "_law_lot_here", "_law_wide_here", "_law_found", "_law_count", "_law_row_here"] g__law_sum
theorem sc__law_sum : FnScope ["_law_counts", "_law_lot_here", "_law_wide_here", "_law_found", "_law_count", "_law_row_here"] ["_law_counts", "_law_lot_here", "_law_wide_here"] (defScope s__law_sum) := ⟨rfl, rfl, rfl, by decide +kernel, rfl, by decide +kernel, by decide +kernel⟩
theorem ok__law_sum (B : Bl mg) (F : Fun K "_law_sum" "_law_sum" s__law_sum f fd) (hm : mg "_law_sum" = some (.ref f))  : Ca P w K mg base 1 "_law_sum" F__law_sum :=
  def_ok (g := g__law_sum) F sc__law_sum hm (F.binds fun _ _ _ _ _ _ us hl => match us, hl with | [_, _, _], _ => rfl) fun cdv A outer s H E hr => ⟨[], (s_cons (s_comp 3 sc__law_sum.nd rfl (by first | exact Or.inl rfl | exact Or.inr rfl) rfl rfl (compSc_mk (N' := ["_law_at"]) (inn := [none]) (defScope s__law_sum) ["_law_counts", "_law_lot_here", "_law_wide_here", "_law_found", "_law_count", "_law_row_here"] rfl rfl (by decide +kernel)) (i_of_r (r_range1 rfl B.b_range (da_cons (d_var 2) da_nil))) (fun _ _ _ _ => ⟨(g_name (i := 0) (show (["_law_at"] : List Str).Nodup by decide +kernel) rfl (by first | exact Or.inl rfl | exact Or.inr rfl)), ifs_nil, d_int⟩)) (s_cons (s_for PassesOwn.never rfl (i_zip rfl B.b_zip (da_cons (d_var 0) (da_cons (d_var 1) da_nil))) (g_pair (i := 4) (j := 5) rfl sc__law_sum.nd rfl rfl (by first | exact Or.inl rfl | exact Or.inr rfl) (by first | exact Or.inl rfl | exact Or.inr rfl)) (by decide) (fun _ => (ss_weak [3] (by decide) (s_one (s_comp 3 sc__law_sum.nd rfl (by first | exact Or.inl rfl | exact Or.inr rfl) rfl rfl (compSc_mk (N' := ["_law_a", "_law_b", "_law_count"]) (inn := [none, none, some 4]) (defScope s__law_sum) ["_law_counts", "_law_lot_here", "_law_wide_here", "_law_found", "_law_count", "_law_row_here"] rfl rfl (by decide +kernel)) (i_zip rfl B.b_zip (da_cons (d_var 3) (da_cons (d_var 5) da_nil))) (fun _ _ _ _ => ⟨(g_pair (i := 0) (j := 1) rfl (show (["_law_a", "_law_b", "_law_count"] : List Str).Nodup by decide +kernel) rfl rfl (by first | exact Or.inl rfl | exact Or.inr rfl) (by first | exact Or.inl rfl | exact Or.inr rfl)), ifs_nil, (d_add (d_var 0) (d_mul (d_var 2) (d_var 1)))⟩)))))) (s_one (s_ret (d_tuple rfl B.b_tuple (da_cons (d_var 3) da_nil))))))⟩

abbrev s__law_wide : Stmt := top 10
def g__law_wide : DS → Option DF := (retF (bind2 (cF (.int 1)) (callF (consD (callF (consD (vF 0) (consD (cF (.int 0)) nilF)) F__law_cell) (consD (cF (.int 9967)) (consD (vF 1) nilF))) F__law_mix) addD))
def F__law_wide : List D → Option D := runD 2 ["_law_script", "_law_most"] g__law_wide
theorem sc__law_wide : FnScope ["_law_script", "_law_most"] ["_law_script", "_law_most"] (defScope s__law_wide) := ⟨rfl, rfl, rfl, by decide +kernel, rfl, by decide +kernel, by decide +kernel⟩
theorem ok__law_wide (B : Bl mg) (F : Fun K "_law_wide" "_law_wide" s__law_wide f fd) (hm : mg "_law_wide" = some (.ref f)) (c__law_cell : Ca P w K mg base 1 "_law_cell" F__law_cell) (c__law_mix : Ca P w K mg base 1 "_law_mix" F__law_mix) : Ca P w K mg base 2 "_law_wide" F__law_wide :=
  def_ok (g := g__law_wide) F sc__law_wide hm (F.binds fun _ _ _ _ _ _ us hl => match us, hl with | [_, _], _ => rfl) fun cdv A outer s H E hr => ⟨[], (s_one (s_ret (d_add d_int (d_call c__law_mix hr rfl (da_cons (d_call c__law_cell hr rfl (da_cons (d_var 0) (da_cons d_int da_nil))) (da_cons d_int (da_cons (d_var 1) da_nil)))))))⟩

abbrev s__law_lot : Stmt := top 11
def g__law_lot : DS → Option DF := (seqF (setL 4 (dispF nilF)) (seqF (forF (fsF (consD (callF (consD (callF (consD (vF 0) (consD (vF 1) nilF)) F__law_cell) (consD (cF (.int 9949)) (consD (bind2 (vF 3) (cF (.int 1)) addD) nilF))) F__law_mix) nilF) range1D) (bind1 5) (seqF (setF 6 (bind2 (callF (consD (vF 0) (consD (bind2 (vF 1) (vF 5) addD) nilF)) F__law_cell) (bind2 (cF (.int 101)) (vF 5) mulD) addD)) (ifF (andT (bT (bind2 (vF 5) (cF (.int 0)) gtD)) (bT (bind2 (callF (consD (vF 6) (consD (cF (.int 9941)) (consD (cF (.int 4)) nilF))) F__law_mix) (cF (.int 0)) eqD))) (appF 4 (callF (consD (lstF (compF (fsF (consD (vF 5) nilF) range1D) (bind1 0) yesT (bind2 (callF (consD (bind2 (vF 1) (bind2 (cF (.int 3)) (vF 0) mulD) addD) (consD (cF (.int 9931)) (consD (cF (.int 5)) nilF))) F__law_mix) (cF (.int 2)) subD) [none, some 6])) (consD (vF 4) (consD (vF 2) nilF))) F__law_sum)) (appF 4 (callF (consD (vF 6) (consD (vF 2) nilF)) F__law_row))))) (retF (callF (consD (vF 4) nilF) tupleD))))
def F__law_lot : List D → Option D := runD 4 ["_law_script", "_law_k", "_law_wide_here", "_law_most", "_law_found", "_law_n", "_law_cell_here"] g__law_lot
theorem sc__law_lot : FnScope ["_law_script", "_law_k", "_law_wide_here", "_law_most", "_law_found", "_law_n", "_law_cell_here"] ["_law_script", "_law_k", "_law_wide_here", "_law_most"] (defScope s__law_lot) := ⟨rfl, rfl, rfl, by decide +kernel, rfl, by decide +kernel, by decide +kernel⟩
theorem ok__law_lot (B : Bl mg) (F : Fun K "_law_lot" "_law_lot" s__law_lot f fd) (hm : mg "_law_lot" = some (.ref f)) (c__law_cell : Ca P w K mg base 2 "_law_cell" F__law_cell) (c__law_mix : Ca P w K mg base 2 "_law_mix" F__law_mix) (c__law_row : Ca P w K mg base 2 "_law_row" F__law_row) (c__law_sum : Ca P w K mg base 2 "_law_sum" F__law_sum) : Ca P w K mg base 3 "_law_lot" F__law_lot :=
  def_ok (g := g__law_lot) F sc__law_lot hm (F.binds fun _ _ _ _ _ _ us hl => match us, hl with | [_, _, _, _], _ => rfl) fun cdv A outer s H E hr => ⟨[], (s_cons (s_setF 4 sc__law_lot.nd rfl (by first | exact Or.inl rfl | exact Or.inr rfl) (f_lst da_nil)) (s_cons (s_forR PassesOwn.never rfl (r_range1 rfl B.b_range (da_cons (d_call c__law_mix hr rfl (da_cons (d_call c__law_cell hr rfl (da_cons (d_var 0) (da_cons (d_var 1) da_nil))) (da_cons d_int (da_cons (d_add (d_var 3) d_int) da_nil)))) da_nil)) (g_name (i := 5) sc__law_lot.nd rfl (by first | exact Or.inl rfl | exact Or.inr rfl)) (by decide) (s_cons (s_set 6 sc__law_lot.nd rfl (by first | exact Or.inl rfl | exact Or.inr rfl) (d_add (d_call c__law_cell hr rfl (da_cons (d_var 0) (da_cons (d_add (d_var 1) (d_var 5)) da_nil))) (d_mul d_int (d_var 5)))) (s_one (s_if (PW.pt (w_and (t_gt (d_var 5) d_int) (PT.pw_and1 (t_eq hr (d_call c__law_mix hr rfl (da_cons (d_var 6) (da_cons d_int (da_cons d_int da_nil)))) d_int)))) (s_one (s_append 4 (by decide) rfl (by first | exact Or.inl rfl | exact Or.inr (Or.inl rfl) | exact Or.inr (Or.inr rfl)) (fun _ h => nomatch h) (d_call c__law_sum hr rfl (da_cons (d_comp rfl (compSc_mk (N' := ["_law_j", "_law_cell_here"]) (inn := [none, some 6]) (defScope s__law_lot) ["_law_script", "_law_k", "_law_wide_here", "_law_most", "_law_found", "_law_n", "_law_cell_here"] rfl rfl (by decide +kernel)) (i_of_r (r_range1 rfl B.b_range (da_cons (d_var 5) da_nil))) (fun _ _ _ _ => ⟨(g_name (i := 0) (show (["_law_j", "_law_cell_here"] : List Str).Nodup by decide +kernel) rfl (by first | exact Or.inl rfl | exact Or.inr rfl)), ifs_nil, (d_sub (d_call c__law_mix hr rfl (da_cons (d_add (d_var 1) (d_mul d_int (d_var 0))) (da_cons d_int (da_cons d_int da_nil)))) d_int)⟩)) (da_cons (d_var 4) (da_cons (d_var 2) da_nil)))))) (s_one (s_append 4 (by decide) rfl (by first | exact Or.inl rfl | exact Or.inr (Or.inl rfl) | exact Or.inr (Or.inr rfl)) (fun _ h => nomatch h) (d_call c__law_row hr rfl (da_cons (d_var 6) (da_cons (d_var 2) da_nil))))))))) (s_one (s_ret (d_tuple rfl B.b_tuple (da_cons (d_var 4) da_nil))))))⟩

abbrev s__law_bad_row : Stmt := top 12
def g__law_bad_row : DS → Option DF := (seqF (setF 2 (bind2 (vF 1) (callF (consD (vF 0) nilF) lenD) modD)) (seqF (setF 3 (lstF (dispF (consD (bind2 (vF 0) (tupF (consD (cF (.int 0)) nilF)) addD) (consD (slF (vF 0) (oS (cF (.int 1))) oN) (consD (lstF (fsF (consD (vF 0) nilF) list1)) (consD (bind2 (bind2 (slF (vF 0) oN (oS (vF 2))) (tupF (consD (cF .non) nilF)) addD) (slF (vF 0) (oS (bind2 (vF 2) (cF (.int 1)) addD)) oN) addD) (consD (bind2 (bind2 (slF (vF 0) oN (oS (vF 2))) (tupF (consD (cF (.bl true)) nilF)) addD) (slF (vF 0) (oS (bind2 (vF 2) (cF (.int 1)) addD)) oN) addD) (consD (cF .non) nilF))))))))) (seqF (setF 3 (bind2 (vF 3) (lstF (dispF (consD (bind2 (bind2 (slF (vF 0) oN (oS (vF 2))) (tupF (consD (cF (.str "1")) nilF)) addD) (slF (vF 0) (oS (bind2 (vF 2) (cF (.int 1)) addD)) oN) addD) (consD (bind2 (bind2 (slF (vF 0) oN (oS (vF 2))) (tupF (consD (tupF (consD (cF (.int 1)) nilF)) nilF)) addD) (slF (vF 0) (oS (bind2 (vF 2) (cF (.int 1)) addD)) oN) addD) (consD (cF (.int 7)) (consD (cF (.str "row")) (consD (tupF (consD (vF 0) nilF)) nilF))))))) addD)) (retF (bind2 (vF 3) (bind2 (bind2 (vF 1) (cF (.int 8)) fdivD) (callF (consD (vF 3) nilF) lenD) modD) ixD)))))
def F__law_bad_row : List D → Option D := runD 2 ["_law_row_here", "_law_cell_here", "_law_at", "_law_some"] g__law_bad_row
theorem sc__law_bad_row : FnScope ["_law_row_here", "_law_cell_here", "_law_at", "_law_some"] ["_law_row_here", "_law_cell_here"] (defScope s__law_bad_row) := ⟨rfl, rfl, rfl, by decide +kernel, rfl, by decide +kernel, by decide +kernel⟩
theorem ok__law_bad_row (B : Bl mg) (F : Fun K "_law_bad_row" "_law_bad_row" s__law_bad_row f fd) (hm : mg "_law_bad_row" = some (.ref f))  : Ca P w K mg base 1 "_law_bad_row" F__law_bad_row :=
  def_ok (g := g__law_bad_row) F sc__law_bad_row hm (F.binds fun _ _ _ _ _ _ us hl => match us, hl with | [_, _], _ => rfl) fun cdv A outer s H E hr => ⟨[], (s_cons (s_set 2 sc__law_bad_row.nd rfl (by first | exact Or.inl rfl | exact Or.inr rfl) (d_mod (d_var 1) (d_len rfl B.b_len (da_cons (d_var 0) da_nil)))) (s_cons (s_set 3 sc__law_bad_row.nd rfl (by first | exact Or.inl rfl | exact Or.inr rfl) (d_lst (da_cons (d_add (d_var 0) (d_tup (da_cons d_int da_nil))) (da_cons (d_slice (d_var 0) (o_some d_int) o_none) (da_cons (d_list rfl B.b_list (da_cons (d_var 0) da_nil)) (da_cons (d_add (d_add (d_slice (d_var 0) o_none (o_some (d_var 2))) (d_tup (da_cons d_non da_nil))) (d_slice (d_var 0) (o_some (d_add (d_var 2) d_int)) o_none)) (da_cons (d_add (d_add (d_slice (d_var 0) o_none (o_some (d_var 2))) (d_tup (da_cons d_bl da_nil))) (d_slice (d_var 0) (o_some (d_add (d_var 2) d_int)) o_none)) (da_cons d_non da_nil)))))))) (s_cons (s_set 3 sc__law_bad_row.nd rfl (by first | exact Or.inl rfl | exact Or.inr rfl) (d_add (d_var 3) (d_lst (da_cons (d_add (d_add (d_slice (d_var 0) o_none (o_some (d_var 2))) (d_tup (da_cons d_str da_nil))) (d_slice (d_var 0) (o_some (d_add (d_var 2) d_int)) o_none)) (da_cons (d_add (d_add (d_slice (d_var 0) o_none (o_some (d_var 2))) (d_tup (da_cons (d_tup (da_cons d_int da_nil)) da_nil))) (d_slice (d_var 0) (o_some (d_add (d_var 2) d_int)) o_none)) (da_cons d_int (da_cons d_str (da_cons (d_tup (da_cons (d_var 0) da_nil)) da_nil)))))))) (s_one (s_ret (d_ix (d_var 3) (d_mod (d_fdiv (d_var 1) d_int) (d_len rfl B.b_len (da_cons (d_var 3) da_nil)))))))))⟩

abbrev s_law : Stmt := top 13
def g_law : DS → Option DF := (seqF (setF 1 (callF (consD (vF 0) (consD (cF (.int 4)) nilF)) F__law_wide)) (seqF (setF 2 (callF (consD (vF 0) (consD (cF (.int 1)) (consD (vF 1) (consD (cF (.int 4)) nilF)))) F__law_lot)) (seqF (forF (itF (slF (vF 0) (oS (cF (.int 1))) (oS (cF (.int 9))))) (bind1 3) (seqF (setF 4 (callF (consD (vF 3) (consD (vF 1) nilF)) F__law_row)) (seqF (setF 5 (callF (consD (vF 4) (consD (vF 3) nilF)) F__law_bad_row)) (seqF (ifF (orT (bT (bind2 (callF (consD (vF 4) (consD (vF 1) nilF)) F_is_row) (cF (.bl true)) isnotD)) (bT (bind2 (callF (consD (vF 5) (consD (vF 1) nilF)) F_is_row) (cF (.bl false)) isnotD))) (retF (cF (.bl false))) nxF) (seqF (setF 6 (bind2 (vF 3) (bind2 (callF (consD (vF 2) nilF) lenD) (cF (.int 1)) addD) modD)) (seqF (ifF (bT (bind2 (callF (consD (bind2 (bind2 (slF (vF 2) oN (oS (vF 6))) (tupF (consD (vF 4) nilF)) addD) (slF (vF 2) (oS (vF 6)) oN) addD) (consD (vF 1) nilF)) F_is_lot) (cF (.bl true)) isnotD)) (retF (cF (.bl false))) nxF) (ifF (bT (bind2 (callF (consD (bind2 (bind2 (slF (vF 2) oN (oS (vF 6))) (tupF (consD (vF 5) nilF)) addD) (slF (vF 2) (oS (vF 6)) oN) addD) (consD (vF 1) nilF)) F_is_lot) (cF (.bl false)) isnotD)) (retF (cF (.bl false))) nxF))))))) (seqF (setF 4 (callF (consD (callF (consD (vF 0) (consD (cF (.int 1)) nilF)) F__law_cell) (consD (vF 1) nilF)) F__law_row)) (seqF (ifF (orT (bT (bind2 (callF (consD (callF (consD (lstF (compF (fsF (consD (cF (.int 9)) nilF) range1D) (bind1 0) yesT (vF 1) [none, some 4])) nilF) tupleD) (consD (vF 1) nilF)) F_is_lot) (cF (.bl false)) isnotD)) (bT (bind2 (callF (consD (lstF (fsF (consD (vF 2) nilF) list1)) (consD (vF 1) nilF)) F_is_lot) (cF (.bl false)) isnotD))) (retF (cF (.bl false))) nxF) (seqF (ifF (orT (bT (bind2 (callF (consD (tupF nilF) (consD (vF 1) nilF)) F_is_lot) (cF (.bl true)) isnotD)) (bT (bind2 (callF (consD (cF .non) (consD (vF 1) nilF)) F_is_lot) (cF (.bl false)) isnotD))) (retF (cF (.bl false))) nxF) (retF (bind2 (callF (consD (callF (consD (lstF (compF (fsF (consD (cF (.int 8)) nilF) range1D) (bind1 0) yesT (vF 1) [none, some 4])) nilF) tupleD) (consD (vF 1) nilF)) F_is_lot) (cF (.bl true)) isD))))))))
def F_law : List D → Option D := runD 1 ["_law_script", "_law_wide_here", "_law_lot_here", "_law_cell_here", "_law_row_here", "_law_bad", "_law_at"] g_law
theorem sc_law : FnScope ["_law_script", "_law_wide_here", "_law_lot_here", "_law_cell_here", "_law_row_here", "_law_bad", "_law_at"] ["_law_script"] (defScope s_law) := ⟨rfl, rfl, rfl, by decide +kernel, rfl, by decide +kernel, by decide +kernel⟩
theorem ok_law (B : Bl mg) (F : Fun K "law" "law" s_law f fd) (c_is_row : Ca P w K mg base 3 "is_row" F_is_row) (c_is_lot : Ca P w K mg base 3 "is_lot" F_is_lot) (c__law_cell : Ca P w K mg base 3 "_law_cell" F__law_cell) (c__law_row : Ca P w K mg base 3 "_law_row" F__law_row) (c__law_wide : Ca P w K mg base 3 "_law_wide" F__law_wide) (c__law_lot : Ca P w K mg base 3 "_law_lot" F__law_lot) (c__law_bad_row : Ca P w K mg base 3 "_law_bad_row" F__law_bad_row) : FnOk P w K mg base CX0 4 f fd ["_law_script"] (spD K F_law) :=
  def_fn (g := g_law) F sc_law fun cdv A outer s H E hr => ⟨[], (s_cons (s_set 1 sc_law.nd rfl (by first | exact Or.inl rfl | exact Or.inr rfl) (d_call c__law_wide hr rfl (da_cons (d_var 0) (da_cons d_int da_nil)))) (s_cons (s_set 2 sc_law.nd rfl (by first | exact Or.inl rfl | exact Or.inr rfl) (d_call c__law_lot hr rfl (da_cons (d_var 0) (da_cons d_int (da_cons (d_var 1) (da_cons d_int da_nil)))))) (s_cons (s_for PassesOwn.never rfl (i_seq (d_slice (d_var 0) (o_some d_int) (o_some d_int))) (g_name (i := 3) sc_law.nd rfl (by first | exact Or.inl rfl | exact Or.inr rfl)) (by decide) (fun _ => (s_cons (s_set 4 sc_law.nd rfl (by first | exact Or.inl rfl | exact Or.inr rfl) (d_call c__law_row hr rfl (da_cons (d_var 3) (da_cons (d_var 1) da_nil)))) (s_cons (s_set 5 sc_law.nd rfl (by first | exact Or.inl rfl | exact Or.inr rfl) (d_call c__law_bad_row hr rfl (da_cons (d_var 4) (da_cons (d_var 3) da_nil)))) (s_cons (s_if (PW.pt (w_or (t_isnot (d_call c_is_row hr rfl (da_cons (d_var 4) (da_cons (d_var 1) da_nil))) d_bl) (PT.pw_or1 (t_isnot (d_call c_is_row hr rfl (da_cons (d_var 5) (da_cons (d_var 1) da_nil))) d_bl)))) (s_one (s_ret d_bl)) s_nil) (s_cons (s_set 6 sc_law.nd rfl (by first | exact Or.inl rfl | exact Or.inr rfl) (d_mod (d_var 3) (d_add (d_len rfl B.b_len (da_cons (d_var 2) da_nil)) d_int))) (s_cons (s_if (t_isnot (d_call c_is_lot hr rfl (da_cons (d_add (d_add (d_slice (d_var 2) o_none (o_some (d_var 6))) (d_tup (da_cons (d_var 4) da_nil))) (d_slice (d_var 2) (o_some (d_var 6)) o_none)) (da_cons (d_var 1) da_nil))) d_bl) (s_one (s_ret d_bl)) s_nil) (s_one (s_if (t_isnot (d_call c_is_lot hr rfl (da_cons (d_add (d_add (d_slice (d_var 2) o_none (o_some (d_var 6))) (d_tup (da_cons (d_var 5) da_nil))) (d_slice (d_var 2) (o_some (d_var 6)) o_none)) (da_cons (d_var 1) da_nil))) d_bl) (s_one (s_ret d_bl)) s_nil))))))))) (s_cons (s_set 4 sc_law.nd rfl (by first | exact Or.inl rfl | exact Or.inr rfl) (d_call c__law_row hr rfl (da_cons (d_call c__law_cell hr rfl (da_cons (d_var 0) (da_cons d_int da_nil))) (da_cons (d_var 1) da_nil)))) (s_cons (s_if (PW.pt (w_or (t_isnot (d_call c_is_lot hr rfl (da_cons (d_tuple rfl B.b_tuple (da_cons (d_comp rfl (compSc_mk (N' := ["_law_k", "_law_row_here"]) (inn := [none, some 4]) (defScope s_law) ["_law_script", "_law_wide_here", "_law_lot_here", "_law_cell_here", "_law_row_here", "_law_bad", "_law_at"] rfl rfl (by decide +kernel)) (i_of_r (r_range1 rfl B.b_range (da_cons d_int da_nil))) (fun _ _ _ _ => ⟨(g_name (i := 0) (show (["_law_k", "_law_row_here"] : List Str).Nodup by decide +kernel) rfl (by first | exact Or.inl rfl | exact Or.inr rfl)), ifs_nil, (d_var 1)⟩)) da_nil)) (da_cons (d_var 1) da_nil))) d_bl) (PT.pw_or1 (t_isnot (d_call c_is_lot hr rfl (da_cons (d_list rfl B.b_list (da_cons (d_var 2) da_nil)) (da_cons (d_var 1) da_nil))) d_bl)))) (s_one (s_ret d_bl)) s_nil) (s_cons (s_if (PW.pt (w_or (t_isnot (d_call c_is_lot hr rfl (da_cons (d_tup da_nil) (da_cons (d_var 1) da_nil))) d_bl) (PT.pw_or1 (t_isnot (d_call c_is_lot hr rfl (da_cons d_non (da_cons (d_var 1) da_nil))) d_bl)))) (s_one (s_ret d_bl)) s_nil) (s_one (s_ret (d_is (d_call c_is_lot hr rfl (da_cons (d_tuple rfl B.b_tuple (da_cons (d_comp rfl (compSc_mk (N' := ["_law_k", "_law_row_here"]) (inn := [none, some 4]) (defScope s_law) ["_law_script", "_law_wide_here", "_law_lot_here", "_law_cell_here", "_law_row_here", "_law_bad", "_law_at"] rfl rfl (by decide +kernel)) (i_of_r (r_range1 rfl B.b_range (da_cons d_int da_nil))) (fun _ _ _ _ => ⟨(g_name (i := 0) (show (["_law_k", "_law_row_here"] : List Str).Nodup by decide +kernel) rfl (by first | exact Or.inl rfl | exact Or.inr rfl)), ifs_nil, (d_var 1)⟩)) da_nil)) (da_cons (d_var 1) da_nil))) d_bl)))))))))⟩

end
theorem all_mk {l : PySem.W.OpenLaw} {w : World} {K : PySem.W.Frag} {h : Heap} {mg : Str → Option Value} {fa f0 f1 f2 f3 f4 f5 f6 f7 f8 f9 f10 : Addr} (X : K.In h) (G : h.Ns mainGlobals mg) (hfa : mg "law" = some (.ref fa))
    {od0 an0 od1 an1 od2 an2 od3 an3 od4 an4 od5 an5 od6 an6 od7 an7 od8 an8 od9 an9 od10 an10 : Option Addr} {sl0 sl1 sl2 sl3 sl4 sl5 sl6 sl7 sl8 sl9 sl10 : Array (Option Value)} {oc0 kV0 dc0 pm0 cd0 ct0 oc1 kV1 dc1 pm1 cd1 ct1 oc2 kV2 dc2 pm2 cd2 ct2 oc3 kV3 dc3 pm3 cd3 ct3 oc4 kV4 dc4 pm4 cd4 ct4 oc5 kV5 dc5 pm5 cd5 ct5 oc6 kV6 dc6 pm6 cd6 ct6 oc7 kV7 dc7 pm7 cd7 ct7 oc8 kV8 dc8 pm8 cd8 ct8 oc9 kV9 dc9 pm9 cd9 ct9 oc10 kV10 dc10 pm10 cd10 ct10 : Value} {t_MOST_ROWS : Tok}
    (a0 : PySem.W.nsIn K mainGlobals "is_whole" = some (some (.ref f0))) (l0 : K.lookup f0 = some ⟨oc0, od0, .func (PySem.W.fnOf "is_whole" "is_whole" (defArgs s_is_whole) (defBody s_is_whole) (defScope s_is_whole) .none kV0 dc0 pm0 an0 cd0 ct0), sl0⟩) (q0 : PySem.W.codeIn K cd0 "is_whole" = true) (k0 : PySem.W.keepIn K (.ref f0) = true)
    (a1 : PySem.W.nsIn K mainGlobals "is_row" = some (some (.ref f1))) (l1 : K.lookup f1 = some ⟨oc1, od1, .func (PySem.W.fnOf "is_row" "is_row" (defArgs s_is_row) (defBody s_is_row) (defScope s_is_row) .none kV1 dc1 pm1 an1 cd1 ct1), sl1⟩) (q1 : PySem.W.codeIn K cd1 "is_row" = true) (k1 : PySem.W.keepIn K (.ref f1) = true)
    (a2 : PySem.W.nsIn K mainGlobals "is_lot" = some (some (.ref f2))) (l2 : K.lookup f2 = some ⟨oc2, od2, .func (PySem.W.fnOf "is_lot" "is_lot" (defArgs s_is_lot) (defBody s_is_lot) (defScope s_is_lot) .none kV2 dc2 pm2 an2 cd2 ct2), sl2⟩) (q2 : PySem.W.codeIn K cd2 "is_lot" = true) (k2 : PySem.W.keepIn K (.ref f2) = true)
    (a3 : PySem.W.nsIn K mainGlobals "_law_cell" = some (some (.ref f3))) (l3 : K.lookup f3 = some ⟨oc3, od3, .func (PySem.W.fnOf "_law_cell" "_law_cell" (defArgs s__law_cell) (defBody s__law_cell) (defScope s__law_cell) .none kV3 dc3 pm3 an3 cd3 ct3), sl3⟩) (q3 : PySem.W.codeIn K cd3 "_law_cell" = true) (k3 : PySem.W.keepIn K (.ref f3) = true)
    (a4 : PySem.W.nsIn K mainGlobals "_law_mix" = some (some (.ref f4))) (l4 : K.lookup f4 = some ⟨oc4, od4, .func (PySem.W.fnOf "_law_mix" "_law_mix" (defArgs s__law_mix) (defBody s__law_mix) (defScope s__law_mix) .none kV4 dc4 pm4 an4 cd4 ct4), sl4⟩) (q4 : PySem.W.codeIn K cd4 "_law_mix" = true) (k4 : PySem.W.keepIn K (.ref f4) = true)
    (a5 : PySem.W.nsIn K mainGlobals "_law_row" = some (some (.ref f5))) (l5 : K.lookup f5 = some ⟨oc5, od5, .func (PySem.W.fnOf "_law_row" "_law_row" (defArgs s__law_row) (defBody s__law_row) (defScope s__law_row) .none kV5 dc5 pm5 an5 cd5 ct5), sl5⟩) (q5 : PySem.W.codeIn K cd5 "_law_row" = true) (k5 : PySem.W.keepIn K (.ref f5) = true)
    (a6 : PySem.W.nsIn K mainGlobals "_law_sum" = some (some (.ref f6))) (l6 : K.lookup f6 = some ⟨oc6, od6, .func (PySem.W.fnOf "_law_sum" "_law_sum" (defArgs s__law_sum) (defBody s__law_sum) (defScope s__law_sum) .none kV6 dc6 pm6 an6 cd6 ct6), sl6⟩) (q6 : PySem.W.codeIn K cd6 "_law_sum" = true) (k6 : PySem.W.keepIn K (.ref f6) = true)
    (a7 : PySem.W.nsIn K mainGlobals "_law_wide" = some (some (.ref f7))) (l7 : K.lookup f7 = some ⟨oc7, od7, .func (PySem.W.fnOf "_law_wide" "_law_wide" (defArgs s__law_wide) (defBody s__law_wide) (defScope s__law_wide) .none kV7 dc7 pm7 an7 cd7 ct7), sl7⟩) (q7 : PySem.W.codeIn K cd7 "_law_wide" = true) (k7 : PySem.W.keepIn K (.ref f7) = true)
    (a8 : PySem.W.nsIn K mainGlobals "_law_lot" = some (some (.ref f8))) (l8 : K.lookup f8 = some ⟨oc8, od8, .func (PySem.W.fnOf "_law_lot" "_law_lot" (defArgs s__law_lot) (defBody s__law_lot) (defScope s__law_lot) .none kV8 dc8 pm8 an8 cd8 ct8), sl8⟩) (q8 : PySem.W.codeIn K cd8 "_law_lot" = true) (k8 : PySem.W.keepIn K (.ref f8) = true)
    (a9 : PySem.W.nsIn K mainGlobals "_law_bad_row" = some (some (.ref f9))) (l9 : K.lookup f9 = some ⟨oc9, od9, .func (PySem.W.fnOf "_law_bad_row" "_law_bad_row" (defArgs s__law_bad_row) (defBody s__law_bad_row) (defScope s__law_bad_row) .none kV9 dc9 pm9 an9 cd9 ct9), sl9⟩) (q9 : PySem.W.codeIn K cd9 "_law_bad_row" = true) (k9 : PySem.W.keepIn K (.ref f9) = true)
    (a10 : PySem.W.nsIn K mainGlobals "law" = some (some (.ref f10))) (l10 : K.lookup f10 = some ⟨oc10, od10, .func (PySem.W.fnOf "law" "law" (defArgs s_law) (defBody s_law) (defScope s_law) .none kV10 dc10 pm10 an10 cd10 ct10), sl10⟩) (q10 : PySem.W.codeIn K cd10 "law" = true) (k10 : PySem.W.keepIn K (.ref f10) = true)
    (z_all : PySem.W.nsIn K mainGlobals "all" = some none)
    (z_bool : PySem.W.nsIn K mainGlobals "bool" = some none)
    (z_int : PySem.W.nsIn K mainGlobals "int" = some none)
    (z_isinstance : PySem.W.nsIn K mainGlobals "isinstance" = some none)
    (z_len : PySem.W.nsIn K mainGlobals "len" = some none)
    (z_list : PySem.W.nsIn K mainGlobals "list" = some none)
    (z_range : PySem.W.nsIn K mainGlobals "range" = some none)
    (z_tuple : PySem.W.nsIn K mainGlobals "tuple" = some none)
    (z_zip : PySem.W.nsIn K mainGlobals "zip" = some none)
    (y_MOST_ROWS : PySem.W.nsIn K mainGlobals "MOST_ROWS" = some (some (.int 8 t_MOST_ROWS)))
    : ∃ fd : FuncData, (∀ (s : Shared) (v : Value), BindsTo s fd ⟨[v], []⟩ [("_law_script", v)]) ∧ ∀ base : Heap, K.In base → base.Ns mainGlobals mg → FnOk l.prog w K mg base CX0 4 fa fd ["_law_script"] (spD K F_law) := by
  have e := hfa.symm.trans (PySem.W.mg_of X G a10)
  cases e
  have B : Bl mg := ⟨PySem.W.mg_none_of X G z_all, PySem.W.mg_none_of X G z_bool, PySem.W.mg_none_of X G z_int, PySem.W.mg_none_of X G z_isinstance, PySem.W.mg_none_of X G z_len, PySem.W.mg_none_of X G z_list, PySem.W.mg_none_of X G z_range, PySem.W.mg_none_of X G z_tuple, PySem.W.mg_none_of X G z_zip, ⟨_, PySem.W.mg_of X G y_MOST_ROWS⟩⟩
  refine ⟨PySem.W.fnOf "law" "law" (defArgs s_law) (defBody s_law) (defScope s_law) .none kV10 dc10 pm10 an10 cd10 ct10, fun s v => .of_eq rfl, fun base _ _ => ?_⟩
  have h_is_whole := ok_is_whole (P := l.prog) (w := w) (base := base) B (fun_mk (st := s_is_whole) l0 q0 k0) (PySem.W.mg_of X G a0) 
  have h_is_row := ok_is_row (P := l.prog) (w := w) (base := base) B (fun_mk (st := s_is_row) l1 q1 k1) (PySem.W.mg_of X G a1) (h_is_whole.mono (by decide))
  have h_is_lot := ok_is_lot (P := l.prog) (w := w) (base := base) B (fun_mk (st := s_is_lot) l2 q2 k2) (PySem.W.mg_of X G a2) (h_is_row.mono (by decide))
  have h__law_cell := ok__law_cell (P := l.prog) (w := w) (base := base) B (fun_mk (st := s__law_cell) l3 q3 k3) (PySem.W.mg_of X G a3) 
  have h__law_mix := ok__law_mix (P := l.prog) (w := w) (base := base) B (fun_mk (st := s__law_mix) l4 q4 k4) (PySem.W.mg_of X G a4) 
  have h__law_row := ok__law_row (P := l.prog) (w := w) (base := base) B (fun_mk (st := s__law_row) l5 q5 k5) (PySem.W.mg_of X G a5) (h__law_mix.mono (by decide))
  have h__law_sum := ok__law_sum (P := l.prog) (w := w) (base := base) B (fun_mk (st := s__law_sum) l6 q6 k6) (PySem.W.mg_of X G a6) 
  have h__law_wide := ok__law_wide (P := l.prog) (w := w) (base := base) B (fun_mk (st := s__law_wide) l7 q7 k7) (PySem.W.mg_of X G a7) (h__law_cell.mono (by decide)) (h__law_mix.mono (by decide))
  have h__law_lot := ok__law_lot (P := l.prog) (w := w) (base := base) B (fun_mk (st := s__law_lot) l8 q8 k8) (PySem.W.mg_of X G a8) (h__law_cell.mono (by decide)) (h__law_mix.mono (by decide)) (h__law_row.mono (by decide)) (h__law_sum.mono (by decide))
  have h__law_bad_row := ok__law_bad_row (P := l.prog) (w := w) (base := base) B (fun_mk (st := s__law_bad_row) l9 q9 k9) (PySem.W.mg_of X G a9) 
  exact ok_law (P := l.prog) (w := w) (base := base) B (fun_mk (st := s_law) l10 q10 k10) (h_is_row.mono (by decide)) (h_is_lot.mono (by decide)) (h__law_cell.mono (by decide)) (h__law_row.mono (by decide)) (h__law_wide.mono (by decide)) (h__law_lot.mono (by decide)) (h__law_bad_row.mono (by decide))


theorem okMul_r {i j : Int} (h1 : -(2 ^ 64) < j) (h2 : j < 2 ^ 64) : okMul i j = true := by
  unfold okMul
  rw [decide_eq_true (Or.inr ⟨h1, h2⟩)]; rfl
theorem okMul_l {i j : Int} (h1 : -(2 ^ 64) < i) (h2 : i < 2 ^ 64) : okMul i j = true := by
  unfold okMul
  rw [decide_eq_true (Or.inl ⟨h1, h2⟩)]; rfl
/-- the script's numbers, 0 behind the end -/
def cellZ (ns : List Int) (k : Nat) : Int := ns.getD k 0
theorem atI_map {α β : Type} (f : α → β) (xs : List α) (i : Int) : atI (xs.map f) i = (atI xs i).map f := by
  unfold atI
  rw [List.length_map]
  cases ixN xs.length i with
  | none => rfl
  | some j => simp
theorem F_cell (ns : List Int) (k : Nat) : F__law_cell [.fro (ns.map D.int), .int k] = some (.int (cellZ ns k)) := by
  have e : F__law_cell [.fro (ns.map D.int), .int k] = if (k : Int) < ns.length then atI (ns.map D.int) k else some (.int 0) := by
    simp only [F__law_cell, g__law_cell, vF, cF, unF, nilF, callF, lstF, dispF, tupF, fsF, compF, oN, oS, bT, yesT, truT, andT, orT, notT, itF, nxF, retF, setF, setL, ifF, forF, seqF, consD, bind2, andD, orD, notD, asB, asI, runD, bind1, bindP, List.length_cons, List.length_nil, List.map_cons, List.map_nil, List.getElem?_cons_zero, List.getElem?_cons_succ, List.set_cons_zero, List.set_cons_succ, Option.join_some, Option.bind_some, Option.map_some, Option.join_none, Option.bind_none, Option.map_none, innD, List.cons_append, List.nil_append, List.replicate, Nat.sub_self, Nat.reduceAdd, Nat.reduceSub, if_true, if_false, lenD, itemsD, ltD, ixD, List.length_map]
    by_cases h : (k : Int) < (ns.length : Int)
    · simp only [h, decide_true, if_true]
      rw [atI_map]
      cases atI ns (k : Int) <;> rfl
    · simp only [h, decide_false, if_false, Bool.false_eq_true]; rfl
  rw [e]
  unfold cellZ
  by_cases h : (k : Int) < (ns.length : Int)
  · rw [if_pos h, atI_nat (v := D.int (ns.getD k 0))]
    have hk : k < ns.length := by omega
    simp [List.getD, List.getElem?_eq_getElem hk]
  · rw [if_neg h]
    simp [List.getD, List.getElem?_eq_none (show ns.length ≤ k by omega)]
def mixZ (c p m : Int) : Int := ((c * 48271).fmod p).fmod m
theorem F_mix (c p m : Int) (hp : p ≠ 0) (hm : m ≠ 0) : F__law_mix [.int c, .int p, .int m] = some (.int (mixZ c p m)) := by
  have h0 : okMul c 48271 = true := okMul_r (by decide) (by decide)
  simp only [F__law_mix, g__law_mix, vF, cF, unF, nilF, callF, lstF, dispF, tupF, fsF, compF, oN, oS, bT, yesT, truT, andT, orT, notT, itF, nxF, retF, setF, setL, ifF, forF, seqF, consD, bind2, andD, orD, notD, asB, asI, runD, bind1, bindP, List.length_cons, List.length_nil, List.map_cons, List.map_nil, List.getElem?_cons_zero, List.getElem?_cons_succ, List.set_cons_zero, List.set_cons_succ, Option.join_some, Option.bind_some, Option.map_some, Option.join_none, Option.bind_none, Option.map_none, innD, List.cons_append, List.nil_append, List.replicate, Nat.sub_self, Nat.reduceAdd, Nat.reduceSub, if_true, if_false, mulD, modD, h0, hp, hm, mixZ]
theorem compD_map {h : D → DS → Option DS} {fc : DS → Option Bool} {fe : DS → Option D} {ι : Type} (P : DS → Prop) (g r : ι → D) : ∀ (xs : List ι) (δ : DS), P δ →
    (∀ x ∈ xs, ∀ δ, P δ → ∃ δ1, h (g x) δ = some δ1 ∧ P δ1 ∧ fc δ1 = some true ∧ fe δ1 = some (r x)) → compD h fc fe δ (xs.map g) = some (xs.map r)
  | [], _, _, _ => rfl
  | x :: xs, δ, hP, hs => by
    obtain ⟨δ1, e1, p1, e2, e3⟩ := hs x List.mem_cons_self δ hP
    rw [List.map_cons, List.map_cons]
    unfold compD
    rw [e1, Option.bind_some, e2, Option.bind_some, if_pos rfl, e3, Option.bind_some, compD_map P g r xs δ1 p1 fun y hy => hs y (List.mem_cons_of_mem _ hy)]
    rfl
theorem forD_map {h : D → DS → Option DS} {gb : DS → Option DF} {ι σ : Type} (S : σ → DS → Prop) (g : ι → D) (f : σ → ι → σ) : ∀ (xs : List ι) (s : σ) (δ : DS), S s δ →
    (∀ x ∈ xs, ∀ s δ, S s δ → ∃ δ1 δ2, h (g x) δ = some δ1 ∧ gb δ1 = some (.nx δ2) ∧ S (f s x) δ2) → ∃ δ', forD h gb (xs.map g) δ = some (.nx δ') ∧ S (xs.foldl f s) δ'
  | [], s, δ, hS, _ => ⟨δ, rfl, hS⟩
  | x :: xs, s, δ, hS, hs => by
    obtain ⟨δ1, δ2, e1, e2, p⟩ := hs x List.mem_cons_self s δ hS
    obtain ⟨δ', e3, p'⟩ := forD_map S g f xs (f s x) δ2 p fun y hy => hs y (List.mem_cons_of_mem _ hy)
    refine ⟨δ', ?_, p'⟩
    rw [List.map_cons]
    unfold forD
    rw [e1, Option.bind_some, e2, Option.bind_some]
    exact e3
theorem zipD_map {α β : Type} (f : α → D) (g : β → D) : ∀ (xs : List α) (ys : List β), zipD (xs.map f) (ys.map g) = (xs.zip ys).map fun p => D.tup [f p.1, g p.2]
  | [], _ => by simp [zipD]
  | _ :: _, [] => by simp [zipD]
  | x :: xs, y :: ys => by simp [zipD, zipD_map f g xs ys]
theorem rangeD_map (n : Nat) : rangeD 0 n = (List.range n).map fun (k : Nat) => D.int (k : Int) := by
  unfold rangeD
  apply List.map_congr_left
  intro k _
  rw [Int.zero_add]
theorem fit_of {n : Nat} (h : n ≤ 1000) : fit n = true := decide_eq_true h
def rowD (r : List Int) : D := .tup (r.map D.int)
def rowZ (c : Int) (w : Nat) : List Int := (List.range w).map fun (k : Nat) => mixZ (c + 11 * (k : Int)) 9973 13 - 6
theorem F_row (c : Int) (w : Nat) (hw : w ≤ 1000) : F__law_row [.int c, .int w] = some (rowD (rowZ c w)) := by
  have hf : fit (w : Int).natAbs = true := fit_of (by omega)
  simp only [F__law_row, g__law_row, vF, cF, unF, nilF, callF, lstF, dispF, tupF, fsF, compF, oN, oS, bT, yesT, truT, andT, orT, notT, itF, nxF, retF, setF, setL, ifF, forF, seqF, consD, bind2, andD, orD, notD, asB, asI, runD, bind1, bindP, List.length_cons, List.length_nil, List.map_cons, List.map_nil, List.getElem?_cons_zero, List.getElem?_cons_succ, List.set_cons_zero, List.set_cons_succ, Option.join_some, Option.bind_some, Option.map_some, Option.join_none, Option.bind_none, Option.map_none, innD, List.cons_append, List.nil_append, List.replicate, Nat.sub_self, Nat.reduceAdd, Nat.reduceSub, if_true, if_false, range1D, hf, Int.toNat_natCast, rangeD_map]
  rw [compD_map (fun δ => ∃ a, δ = [a, some (.int c)]) (fun (k : Nat) => D.int (k : Int)) (fun (k : Nat) => D.int (mixZ (c + 11 * (k : Int)) 9973 13 - 6)) (List.range w) _ ⟨none, rfl⟩]
  · simp only [Option.map_some, Option.bind_some, tupleD, itemsD, rowD, rowZ, List.map_map]
    rfl
  · rintro k _ δ ⟨a, rfl⟩
    have h0 : okMul 11 (k : Int) = true := okMul_l (by decide) (by decide)
    refine ⟨[some (.int k), some (.int c)], rfl, ⟨_, rfl⟩, rfl, ?_⟩
    simp only [vF, cF, unF, nilF, callF, lstF, dispF, tupF, fsF, compF, oN, oS, bT, yesT, truT, andT, orT, notT, itF, nxF, retF, setF, setL, ifF, forF, seqF, consD, bind2, andD, orD, notD, asB, asI, runD, bind1, bindP, List.length_cons, List.length_nil, List.map_cons, List.map_nil, List.getElem?_cons_zero, List.getElem?_cons_succ, List.set_cons_zero, List.set_cons_succ, Option.join_some, Option.bind_some, Option.map_some, Option.join_none, Option.bind_none, Option.map_none, innD, List.cons_append, List.nil_append, List.replicate, Nat.sub_self, Nat.reduceAdd, Nat.reduceSub, if_true, if_false, mulD, addD, subD, h0, F_mix _ _ _ (show (9973 : Int) ≠ 0 by decide) (show (13 : Int) ≠ 0 by decide)]
theorem rowZ_len (c : Int) (w : Nat) : (rowZ c w).length = w := by simp [rowZ]
def addZ (acc : List Int) (p : Int × List Int) : List Int := List.zipWith (fun a b => a + p.1 * b) acc p.2
def sumZ (cs : List Int) (rows : List (List Int)) (w : Nat) : List Int := (cs.zip rows).foldl addZ (List.replicate w 0)
def small (c : Int) : Prop := -(2 ^ 64) < c ∧ c < 2 ^ 64
theorem zipWith_zip {α β γ : Type} (f : α → β → γ) (xs : List α) (ys : List β) : List.zipWith f xs ys = (xs.zip ys).map fun p => f p.1 p.2 := by
  rw [List.zip, List.map_zipWith]
theorem F_sum (dc dl : D) (cs : List Int) (rows : List (List Int)) (w : Nat) (hw : w ≤ 1000) (hc : itemsD dc = some (cs.map D.int)) (hl : itemsD dl = some (rows.map rowD)) (hs : ∀ c ∈ cs, small c) :
    F__law_sum [dc, dl, .int w] = some (rowD (sumZ cs rows w)) := by
  have hf : fit (w : Int).natAbs = true := fit_of (by omega)
  have h1 : compD (bind1 0) yesT (cF (.int 0)) [none] ((List.range w).map fun (k : Nat) => D.int (k : Int)) = some ((List.range w).map fun _ => D.int 0) :=
    compD_map (fun δ => ∃ a, δ = [a]) _ _ _ _ ⟨none, rfl⟩ (by rintro k _ δ ⟨a, rfl⟩; exact ⟨_, rfl, ⟨_, rfl⟩, rfl, rfl⟩)
  have h1' : ((List.range w).map fun (_ : Nat) => D.int 0) = (List.replicate w (0 : Int)).map D.int := by
    rw [List.map_const', List.length_range, List.map_replicate]
  obtain ⟨δ', e2, x4, x5, rfl⟩ := forD_map (h := bindP 4 5) (gb := setL 3 (compF (fsF (consD (vF 3) (consD (vF 5) nilF)) zip2) (bindP 0 1) yesT (bind2 (vF 0) (bind2 (vF 2) (vF 1) mulD) addD) [none, none, some 4]))
    (fun (acc : List Int) δ => ∃ x4 x5, δ = [some dc, some dl, some (.int w), some (.lst (acc.map D.int)), x4, x5]) (fun (p : Int × List Int) => D.tup [.int p.1, rowD p.2]) addZ (cs.zip rows) (List.replicate w 0)
    [some dc, some dl, some (.int w), some (.lst ((List.replicate w (0 : Int)).map D.int)), none, none] ⟨_, _, rfl⟩ (by
      rintro ⟨c, r⟩ hm acc δ ⟨x4, x5, rfl⟩
      have hcs := hs c (List.of_mem_zip hm).1
      refine ⟨[some dc, some dl, some (.int w), some (.lst (acc.map D.int)), some (.int c), some (rowD r)], _, rfl, ?_, ⟨some (.int c), some (rowD r), rfl⟩⟩
      have h2 : compD (bindP 0 1) yesT (bind2 (vF 0) (bind2 (vF 2) (vF 1) mulD) addD) [none, none, some (.int c)] ((acc.zip r).map fun p => D.tup [.int p.1, .int p.2]) = some ((acc.zip r).map fun p => D.int (p.1 + c * p.2)) :=
        compD_map (fun δ => ∃ a b, δ = [a, b, some (.int c)]) _ _ _ _ ⟨none, none, rfl⟩ (by
          rintro ⟨a, b⟩ _ δ ⟨y, z, rfl⟩
          refine ⟨[some (.int a), some (.int b), some (.int c)], rfl, ⟨_, _, rfl⟩, rfl, ?_⟩
          simp only [vF, cF, unF, nilF, callF, lstF, dispF, tupF, fsF, compF, oN, oS, bT, yesT, truT, andT, orT, notT, itF, nxF, retF, setF, setL, ifF, forF, seqF, consD, bind2, andD, orD, notD, asB, asI, runD, bind1, bindP, List.length_cons, List.length_nil, List.map_cons, List.map_nil, List.getElem?_cons_zero, List.getElem?_cons_succ, List.set_cons_zero, List.set_cons_succ, Option.join_some, Option.bind_some, Option.map_some, Option.join_none, Option.bind_none, Option.map_none, innD, List.cons_append, List.nil_append, List.replicate, Nat.sub_self, Nat.reduceAdd, Nat.reduceSub, if_true, if_false, mulD, addD, okMul_l hcs.1 hcs.2])
      simp only [setL, compF, fsF, consD, vF, nilF, zip2, itemsD, rowD, List.getElem?_cons_zero, List.getElem?_cons_succ, Option.join_some, Option.bind_some, Option.map_some, zipD_map, innD, List.map_cons, List.map_nil, Option.bind_none, h2]
      simp only [addZ, zipWith_zip, List.map_map]
      rfl)
  simp only [F__law_sum, g__law_sum, seqF, setL, compF, fsF, consD, vF, nilF, runD, List.length_cons, List.length_nil, Nat.reduceAdd, if_true, List.map_cons, List.map_nil, List.replicate, Nat.reduceSub, List.cons_append, List.nil_append, List.getElem?_cons_zero, List.getElem?_cons_succ, Option.join_some, Option.bind_some, Option.map_some, range1D, hf, Int.toNat_natCast, rangeD_map, innD, Option.bind_none, h1, h1', List.set_cons_succ, List.set_cons_zero, forF, zip2, hc, hl, zipD_map]
  rw [e2]
  simp only [vF, cF, unF, nilF, callF, lstF, dispF, tupF, fsF, compF, oN, oS, bT, yesT, truT, andT, orT, notT, itF, nxF, retF, setF, setL, ifF, forF, seqF, consD, bind2, andD, orD, notD, asB, asI, runD, bind1, bindP, List.length_cons, List.length_nil, List.map_cons, List.map_nil, List.getElem?_cons_zero, List.getElem?_cons_succ, List.set_cons_zero, List.set_cons_succ, Option.join_some, Option.bind_some, Option.map_some, Option.join_none, Option.bind_none, Option.map_none, innD, List.cons_append, List.nil_append, List.replicate, Nat.sub_self, Nat.reduceAdd, Nat.reduceSub, if_true, if_false, tupleD, itemsD, rowD, sumZ]
theorem runD_rt {n : Nat} {N : List Str} {g : DS → Option DF} {ds : List D} {d : D} (hl : ds.length = n) (h : g (ds.map some ++ List.replicate (N.length - ds.length) none) = some (.rt d)) : runD n N g ds = some d := by
  unfold runD
  rw [if_pos hl, h]; rfl
theorem seqF_nx {g g' : DS → Option DF} {δ δ' : DS} (h : g δ = some (.nx δ')) : seqF g g' δ = g' δ' := by
  unfold seqF
  rw [h]; rfl
theorem forF_nx {fi : DS → Option (List D)} {h : D → DS → Option DS} {gb : DS → Option DF} {δ : DS} {ds : List D} {fl : DF} (h1 : fi δ = some ds) (h2 : forD h gb ds δ = some fl) : forF fi h gb δ = some fl := by
  unfold forF
  rw [h1]; exact h2
theorem ifF_t {t : DS → Option Bool} {g g' : DS → Option DF} {δ : DS} (h : t δ = some true) : ifF t g g' δ = g δ := by
  unfold ifF
  rw [h]; rfl
theorem ifF_f {t : DS → Option Bool} {g g' : DS → Option DF} {δ : DS} (h : t δ = some false) : ifF t g g' δ = g' δ := by
  unfold ifF
  rw [h]; rfl
theorem retF_rt {f : DS → Option D} {δ : DS} {d : D} (h : f δ = some d) : retF f δ = some (.rt d) := by
  unfold retF
  rw [h]; rfl
theorem setF_nx {i : Nat} {f : DS → Option D} {δ : DS} {d : D} (h : f δ = some d) : setF i f δ = some (.nx (δ.set i (some d))) := by
  unfold setF
  rw [h]; rfl
theorem forD_range {h : D → DS → Option DS} {gb : DS → Option DF} {n : Nat} (S : Nat → DS → Prop) (hs : ∀ k, k < n → ∀ δ, S k δ → ∃ δ1 δ2, h (.int (k : Int)) δ = some δ1 ∧ gb δ1 = some (.nx δ2) ∧ S (k + 1) δ2) :
    ∀ (m k : Nat) (δ : DS), k + m = n → S k δ → ∃ δ', forD h gb ((List.range' k m).map fun (j : Nat) => D.int (j : Int)) δ = some (.nx δ') ∧ S n δ'
  | 0, k, δ, e, hS => by
    have hk : k = n := by omega
    subst hk
    exact ⟨δ, rfl, hS⟩
  | m + 1, k, δ, e, hS => by
    obtain ⟨δ1, δ2, e1, e2, p⟩ := hs k (by omega) δ hS
    obtain ⟨δ', e3, p'⟩ := forD_range S hs m (k + 1) δ2 (by omega) p
    refine ⟨δ', ?_, p'⟩
    rw [List.range'_succ, List.map_cons]
    unfold forD
    rw [e1, Option.bind_some, e2, Option.bind_some]
    exact e3
theorem mixZ_b (c p m : Int) (hm : 0 < m) : 0 ≤ mixZ c p m ∧ mixZ c p m < m := ⟨Int.fmod_nonneg_of_pos _ hm, Int.fmod_lt_of_pos _ hm⟩
theorem noLs_ints : ∀ (r : List Int), noLs (r.map D.int) = true
  | [] => rfl
  | x :: r => by simp [noLs, noL, noLs_ints r]
theorem noL_row (r : List Int) : noL (rowD r) = true := by simp [rowD, noL, noLs_ints]
theorem noLs_rows : ∀ (rs : List (List Int)), noLs (rs.map rowD) = true
  | [] => rfl
  | r :: rs => by simp [noLs, noL_row, noLs_rows rs]
theorem foldl_addZ_len {w : Nat} : ∀ (ps : List (Int × List Int)) (acc : List Int), acc.length = w → (∀ p ∈ ps, p.2.length = w) → (ps.foldl addZ acc).length = w
  | [], acc, h, _ => h
  | p :: ps, acc, h, hp => by
    rw [List.foldl_cons]
    refine foldl_addZ_len ps _ ?_ fun q hq => hp q (List.mem_cons_of_mem _ hq)
    unfold addZ
    rw [List.length_zipWith, h, hp p List.mem_cons_self, Nat.min_self]
theorem sumZ_len (cs : List Int) (rows : List (List Int)) (w : Nat) (h : ∀ r ∈ rows, r.length = w) : (sumZ cs rows w).length = w :=
  foldl_addZ_len _ _ (by simp) fun p hp => h p.2 (List.of_mem_zip hp).2
theorem F_wide (ns : List Int) (m : Nat) (hm : 0 < m) : ∃ w : Nat, 1 ≤ w ∧ w ≤ m ∧ F__law_wide [.fro (ns.map D.int), .int m] = some (.int w) := by
  obtain ⟨h1, h2⟩ := mixZ_b (cellZ ns 0) 9967 m (by omega)
  refine ⟨(1 + mixZ (cellZ ns 0) 9967 m).toNat, by omega, by omega, ?_⟩
  have hc := F_cell ns 0
  rw [show ((0 : Nat) : Int) = 0 from rfl] at hc
  have e : ((1 + mixZ (cellZ ns 0) 9967 m).toNat : Int) = 1 + mixZ (cellZ ns 0) 9967 m := by omega
  rw [e]
  simp only [F__law_wide, g__law_wide, vF, cF, unF, nilF, callF, lstF, dispF, tupF, fsF, compF, oN, oS, bT, yesT, truT, andT, orT, notT, itF, nxF, retF, setF, setL, ifF, forF, seqF, consD, bind2, andD, orD, notD, asB, asI, runD, bind1, bindP, List.length_cons, List.length_nil, List.map_cons, List.map_nil, List.getElem?_cons_zero, List.getElem?_cons_succ, List.set_cons_zero, List.set_cons_succ, Option.join_some, Option.bind_some, Option.map_some, Option.join_none, Option.bind_none, Option.map_none, innD, List.cons_append, List.nil_append, List.replicate, Nat.sub_self, Nat.reduceAdd, Nat.reduceSub, if_true, if_false, hc, F_mix _ _ _ (show (9967 : Int) ≠ 0 by decide) (show (m : Int) ≠ 0 by omega), addD]
theorem ceq_int (i j : Int) : ceqN 9 (.int i) (.int j) = some (i == j) := rfl
theorem F_lot (ns : List Int) (k w m : Nat) (hw : w ≤ 1000) (hm : m ≤ 100) : ∃ rows : List (List Int), F__law_lot [.fro (ns.map D.int), .int k, .int w, .int m] = some (.tup (rows.map rowD)) ∧ rows.length ≤ m ∧ ∀ r ∈ rows, r.length = w := by
  obtain ⟨h1, h2⟩ := mixZ_b (cellZ ns k) 9949 ((m : Int) + 1) (by omega)
  obtain ⟨n, hn⟩ : ∃ n : Nat, mixZ (cellZ ns k) 9949 ((m : Int) + 1) = n := ⟨_, (Int.toNat_of_nonneg h1).symm⟩
  have hf : fit (n : Int).natAbs = true := fit_of (by omega)
  have hmx := F_mix (cellZ ns k) 9949 ((m : Int) + 1) (by decide) (by omega)
  rw [hn] at hmx
  have loop := forD_range (n := n) (h := bind1 5) (gb := seqF (setF 6 (bind2 (callF (consD (vF 0) (consD (bind2 (vF 1) (vF 5) addD) nilF)) F__law_cell) (bind2 (cF (.int 101)) (vF 5) mulD) addD)) (ifF (andT (bT (bind2 (vF 5) (cF (.int 0)) gtD)) (bT (bind2 (callF (consD (vF 6) (consD (cF (.int 9941)) (consD (cF (.int 4)) nilF))) F__law_mix) (cF (.int 0)) eqD))) (appF 4 (callF (consD (lstF (compF (fsF (consD (vF 5) nilF) range1D) (bind1 0) yesT (bind2 (callF (consD (bind2 (vF 1) (bind2 (cF (.int 3)) (vF 0) mulD) addD) (consD (cF (.int 9931)) (consD (cF (.int 5)) nilF))) F__law_mix) (cF (.int 2)) subD) [none, some 6])) (consD (vF 4) (consD (vF 2) nilF))) F__law_sum)) (appF 4 (callF (consD (vF 6) (consD (vF 2) nilF)) F__law_row))))
    (fun j δ => ∃ (rows : List (List Int)) (x5 x6 : Option D), rows.length = j ∧ (∀ r ∈ rows, r.length = w) ∧ (match x5 with | some d => noL d = true | none => True) ∧ (match x6 with | some d => noL d = true | none => True) ∧ δ = [some (.fro (ns.map D.int)), some (.int k), some (.int w), some (.int m), some (.lst (rows.map rowD)), x5, x6]) (by
      rintro j hj δ ⟨rows, x5, x6, hl, hr, h5, h6, rfl⟩
      have hc := F_cell ns (k + j)
      rw [Int.natCast_add] at hc
      have ho : okMul 101 (j : Int) = true := okMul_l (by decide) (by decide)
      have app : ∀ (c : Int) (r : List Int) (fe : DS → Option D), fe [some (.fro (ns.map D.int)), some (.int k), some (.int w), some (.int m), some (.lst (rows.map rowD)), some (.int j), some (.int c)] = some (rowD r) → r.length = w →
          appF 4 fe [some (.fro (ns.map D.int)), some (.int k), some (.int w), some (.int m), some (.lst (rows.map rowD)), some (.int j), some (.int c)] = some (.nx [some (.fro (ns.map D.int)), some (.int k), some (.int w), some (.int m), some (.lst ((rows ++ [r]).map rowD)), some (.int j), some (.int c)]) := by
        intro c r fe hfe _
        unfold appF
        rw [hfe]
        simp only [Option.bind_some, List.getElem?_cons_zero, List.getElem?_cons_succ, Option.join_some]
        rw [if_pos ⟨fit_of (by rw [List.length_map]; omega), noLs_rows rows, noL_row r, by simp [others, othersFrom, noL, noLs_ints]⟩]
        simp only [List.set_cons_zero, List.set_cons_succ, List.map_append, List.map_cons, List.map_nil]
      refine ⟨[some (.fro (ns.map D.int)), some (.int k), some (.int w), some (.int m), some (.lst (rows.map rowD)), some (.int j), x6], ?_⟩
      have e1 : setF 6 (bind2 (callF (consD (vF 0) (consD (bind2 (vF 1) (vF 5) addD) nilF)) F__law_cell) (bind2 (cF (.int 101)) (vF 5) mulD) addD) [some (.fro (ns.map D.int)), some (.int k), some (.int w), some (.int m), some (.lst (rows.map rowD)), some (.int j), x6] = some (.nx [some (.fro (ns.map D.int)), some (.int k), some (.int w), some (.int m), some (.lst (rows.map rowD)), some (.int j), some (.int (cellZ ns (k + j) + 101 * j))]) := by
        simp only [vF, cF, unF, nilF, callF, lstF, dispF, tupF, fsF, compF, oN, oS, bT, yesT, truT, andT, orT, notT, itF, nxF, retF, setF, setL, ifF, forF, seqF, consD, bind2, andD, orD, notD, asB, asI, runD, bind1, bindP, List.length_cons, List.length_nil, List.map_cons, List.map_nil, List.getElem?_cons_zero, List.getElem?_cons_succ, List.set_cons_zero, List.set_cons_succ, Option.join_some, Option.bind_some, Option.map_some, Option.join_none, Option.bind_none, Option.map_none, innD, List.cons_append, List.nil_append, List.replicate, Nat.sub_self, Nat.reduceAdd, Nat.reduceSub, if_true, if_false, addD, mulD, ho, hc]
      generalize cellZ ns (k + j) + 101 * (j : Int) = c at e1
      have e2 : bT (bind2 (callF (consD (vF 6) (consD (cF (.int 9941)) (consD (cF (.int 4)) nilF))) F__law_mix) (cF (.int 0)) eqD) [some (.fro (ns.map D.int)), some (.int k), some (.int w), some (.int m), some (.lst (rows.map rowD)), some (.int j), some (.int c)] = some (mixZ c 9941 4 == 0) := by
        simp only [vF, cF, unF, nilF, callF, lstF, dispF, tupF, fsF, compF, oN, oS, bT, yesT, truT, andT, orT, notT, itF, nxF, retF, setF, setL, ifF, forF, seqF, consD, bind2, andD, orD, notD, asB, asI, runD, bind1, bindP, List.length_cons, List.length_nil, List.map_cons, List.map_nil, List.getElem?_cons_zero, List.getElem?_cons_succ, List.set_cons_zero, List.set_cons_succ, Option.join_some, Option.bind_some, Option.map_some, Option.join_none, Option.bind_none, Option.map_none, innD, List.cons_append, List.nil_append, List.replicate, Nat.sub_self, Nat.reduceAdd, Nat.reduceSub, if_true, if_false, F_mix _ _ _ (show (9941 : Int) ≠ 0 by decide) (show (4 : Int) ≠ 0 by decide), eqD, ceq_int]
      have e3 : bT (bind2 (vF 5) (cF (.int 0)) gtD) [some (.fro (ns.map D.int)), some (.int k), some (.int w), some (.int m), some (.lst (rows.map rowD)), some (.int j), some (.int c)] = some (decide (0 < (j : Int))) := by
        simp only [vF, cF, unF, nilF, callF, lstF, dispF, tupF, fsF, compF, oN, oS, bT, yesT, truT, andT, orT, notT, itF, nxF, retF, setF, setL, ifF, forF, seqF, consD, bind2, andD, orD, notD, asB, asI, runD, bind1, bindP, List.length_cons, List.length_nil, List.map_cons, List.map_nil, List.getElem?_cons_zero, List.getElem?_cons_succ, List.set_cons_zero, List.set_cons_succ, Option.join_some, Option.bind_some, Option.map_some, Option.join_none, Option.bind_none, Option.map_none, innD, List.cons_append, List.nil_append, List.replicate, Nat.sub_self, Nat.reduceAdd, Nat.reduceSub, if_true, if_false, gtD]
      -- the row that is put behind
      have rowCase : ∃ r : List Int, r.length = w ∧ callF (consD (vF 6) (consD (vF 2) nilF)) F__law_row [some (.fro (ns.map D.int)), some (.int k), some (.int w), some (.int m), some (.lst (rows.map rowD)), some (.int j), some (.int c)] = some (rowD r) :=
        ⟨rowZ c w, rowZ_len c w, by simp only [vF, cF, unF, nilF, callF, lstF, dispF, tupF, fsF, compF, oN, oS, bT, yesT, truT, andT, orT, notT, itF, nxF, retF, setF, setL, ifF, forF, seqF, consD, bind2, andD, orD, notD, asB, asI, runD, bind1, bindP, List.length_cons, List.length_nil, List.map_cons, List.map_nil, List.getElem?_cons_zero, List.getElem?_cons_succ, List.set_cons_zero, List.set_cons_succ, Option.join_some, Option.bind_some, Option.map_some, Option.join_none, Option.bind_none, Option.map_none, innD, List.cons_append, List.nil_append, List.replicate, Nat.sub_self, Nat.reduceAdd, Nat.reduceSub, if_true, if_false, F_row c w hw]⟩
      have hfj : fit (j : Int).natAbs = true := fit_of (by omega)
      have sumCase : ∃ r : List Int, r.length = w ∧ callF (consD (lstF (compF (fsF (consD (vF 5) nilF) range1D) (bind1 0) yesT (bind2 (callF (consD (bind2 (vF 1) (bind2 (cF (.int 3)) (vF 0) mulD) addD) (consD (cF (.int 9931)) (consD (cF (.int 5)) nilF))) F__law_mix) (cF (.int 2)) subD) [none, some 6])) (consD (vF 4) (consD (vF 2) nilF))) F__law_sum [some (.fro (ns.map D.int)), some (.int k), some (.int w), some (.int m), some (.lst (rows.map rowD)), some (.int j), some (.int c)] = some (rowD r) := by
        refine ⟨sumZ ((List.range j).map fun (i : Nat) => mixZ (c + 3 * (i : Int)) 9931 5 - 2) rows w, sumZ_len _ _ _ hr, ?_⟩
        have h2 : compD (bind1 0) yesT (bind2 (callF (consD (bind2 (vF 1) (bind2 (cF (.int 3)) (vF 0) mulD) addD) (consD (cF (.int 9931)) (consD (cF (.int 5)) nilF))) F__law_mix) (cF (.int 2)) subD) [none, some (.int c)] ((List.range j).map fun (i : Nat) => D.int (i : Int)) = some ((List.range j).map fun (i : Nat) => D.int (mixZ (c + 3 * (i : Int)) 9931 5 - 2)) :=
          compD_map (fun δ => ∃ a, δ = [a, some (.int c)]) _ _ _ _ ⟨none, rfl⟩ (by
            rintro i _ δ ⟨a, rfl⟩
            have ho : okMul 3 (i : Int) = true := okMul_l (by decide) (by decide)
            refine ⟨[some (.int i), some (.int c)], rfl, ⟨_, rfl⟩, rfl, ?_⟩
            simp only [vF, cF, unF, nilF, callF, lstF, dispF, tupF, fsF, compF, oN, oS, bT, yesT, truT, andT, orT, notT, itF, nxF, retF, setF, setL, ifF, forF, seqF, consD, bind2, andD, orD, notD, asB, asI, runD, bind1, bindP, List.length_cons, List.length_nil, List.map_cons, List.map_nil, List.getElem?_cons_zero, List.getElem?_cons_succ, List.set_cons_zero, List.set_cons_succ, Option.join_some, Option.bind_some, Option.map_some, Option.join_none, Option.bind_none, Option.map_none, innD, List.cons_append, List.nil_append, List.replicate, Nat.sub_self, Nat.reduceAdd, Nat.reduceSub, if_true, if_false, mulD, addD, subD, ho, F_mix _ _ _ (show (9931 : Int) ≠ 0 by decide) (show (5 : Int) ≠ 0 by decide)])
        have h3 := F_sum (.lst ((List.range j).map fun (i : Nat) => D.int (mixZ (c + 3 * (i : Int)) 9931 5 - 2))) (.lst (rows.map rowD)) ((List.range j).map fun (i : Nat) => mixZ (c + 3 * (i : Int)) 9931 5 - 2) rows w hw (by simp only [itemsD, List.map_map]; rfl) rfl (by
          intro x hx
          obtain ⟨i, _, rfl⟩ := List.mem_map.mp hx
          have := mixZ_b (c + 3 * (i : Int)) 9931 5 (by decide)
          unfold small
          omega)
        simp only [callF, consD, lstF, compF, fsF, vF, nilF, List.getElem?_cons_zero, List.getElem?_cons_succ, Option.join_some, Option.bind_some, Option.map_some, range1D, hfj, if_true, Int.toNat_natCast, rangeD_map, innD, List.map_cons, List.map_nil, Option.bind_none, h2, h3]
      obtain ⟨r1, l1, q1⟩ := rowCase
      obtain ⟨r2, l2, q2⟩ := sumCase
      have a1 := app c r1 _ q1 l1
      have a2 := app c r2 _ q2 l2
      by_cases hcond : (decide (0 < (j : Int)) = true ∧ (mixZ c 9941 4 == 0) = true)
      · refine ⟨_, rfl, ?_, ⟨rows ++ [r2], some (.int j), some (.int c), by simp [hl], fun r hr' => ?_, rfl, rfl, rfl⟩⟩
        · unfold seqF
          rw [e1, Option.bind_some]
          show ifF _ _ _ _ = _
          unfold ifF andT
          rw [e3, e2, Option.bind_some, if_pos hcond.1, Option.bind_some, if_pos hcond.2, a2]
        · rcases List.mem_append.mp hr' with z | z
          · exact hr r z
          · rw [List.mem_singleton.mp z]; exact l2
      · refine ⟨_, rfl, ?_, ⟨rows ++ [r1], some (.int j), some (.int c), by simp [hl], fun r hr' => ?_, rfl, rfl, rfl⟩⟩
        · unfold seqF
          rw [e1, Option.bind_some]
          show ifF _ _ _ _ = _
          unfold ifF andT
          rw [e3, e2, Option.bind_some]
          by_cases hc1 : decide (0 < (j : Int)) = true
          · rw [if_pos hc1, Option.bind_some, if_neg (fun z => hcond ⟨hc1, z⟩), a1]
          · rw [if_neg hc1, Option.bind_some, if_neg (by decide), a1]
        · rcases List.mem_append.mp hr' with z | z
          · exact hr r z
          · rw [List.mem_singleton.mp z]; exact l1)
    n 0 [some (.fro (ns.map D.int)), some (.int k), some (.int w), some (.int m), some (.lst []), none, none] (by omega) ⟨[], none, none, rfl, fun r hr => (nomatch hr), trivial, trivial, rfl⟩
  obtain ⟨δ', e, rows, x5, x6, hl, hr, _, _, rfl⟩ := loop
  refine ⟨rows, ?_, by omega, hr⟩
  rw [← List.range_eq_range'] at e
  refine runD_rt rfl ?_
  refine (seqF_nx (δ' := [some (.fro (ns.map D.int)), some (.int k), some (.int w), some (.int m), some (.lst []), none, none]) rfl).trans ?_
  refine (seqF_nx (forF_nx ?_ e)).trans (retF_rt ?_)
  · simp only [fsF, consD, callF, vF, cF, nilF, bind2, List.getElem?_cons_zero, List.getElem?_cons_succ, Option.join_some, Option.bind_some, Option.map_some, F_cell, addD, hmx, range1D, hf, if_true, Int.toNat_natCast, rangeD_map]
  · simp only [vF, cF, unF, nilF, callF, lstF, dispF, tupF, fsF, compF, oN, oS, bT, yesT, truT, andT, orT, notT, itF, nxF, retF, setF, setL, ifF, forF, seqF, consD, bind2, andD, orD, notD, asB, asI, runD, bind1, bindP, List.length_cons, List.length_nil, List.map_cons, List.map_nil, List.getElem?_cons_zero, List.getElem?_cons_succ, List.set_cons_zero, List.set_cons_succ, Option.join_some, Option.bind_some, Option.map_some, Option.join_none, Option.bind_none, Option.map_none, innD, List.cons_append, List.nil_append, List.replicate, Nat.sub_self, Nat.reduceAdd, Nat.reduceSub, if_true, if_false, tupleD, itemsD]
theorem addD_tup {xs ys : List D} (h : xs.length + ys.length ≤ 1000) : addD (.tup xs) (.tup ys) = some (.tup (xs ++ ys)) := by
  show (if fit (xs.length + ys.length) = true then some (D.tup (xs ++ ys)) else none) = _
  rw [if_pos (fit_of h)]
theorem addD_lst {xs ys : List D} (h : xs.length + ys.length ≤ 1000) : addD (.lst xs) (.lst ys) = some (.lst (xs ++ ys)) := by
  show (if fit (xs.length + ys.length) = true then some (D.lst (xs ++ ys)) else none) = _
  rw [if_pos (fit_of h)]
theorem fdivD_int {i j : Int} (h : j ≠ 0) (ho : okI j = true) : fdivD (.int i) (.int j) = some (.int (i.fdiv j)) := by
  show (if j ≠ 0 ∧ okI j = true then some (D.int (i.fdiv j)) else none) = _
  rw [if_pos ⟨h, ho⟩]
theorem modD_int {i j : Int} (h : j ≠ 0) : modD (.int i) (.int j) = some (.int (i.fmod j)) := by
  show (if j = 0 then none else some (D.int (i.fmod j))) = _
  rw [if_neg h]
theorem mulD_int {i j : Int} (h : okMul i j = true) : mulD (.int i) (.int j) = some (.int (i * j)) := by
  show (if okMul i j = true then some (D.int (i * j)) else none) = _
  rw [if_pos h]
theorem bind2_eq {f g : DS → Option D} {op : D → D → Option D} {δ : DS} {x y : D} (h1 : f δ = some x) (h2 : g δ = some y) : bind2 f g op δ = op x y := by
  unfold bind2
  rw [h1, h2]; rfl
theorem callF_eq {fs : DS → Option (List D)} {F : List D → Option D} {δ : DS} {ds : List D} (h : fs δ = some ds) : callF fs F δ = F ds := by
  unfold callF
  rw [h]; rfl
theorem consD_eq {f : DS → Option D} {fs : DS → Option (List D)} {δ : DS} {x : D} {xs : List D} (h1 : f δ = some x) (h2 : fs δ = some xs) : consD f fs δ = some (x :: xs) := by
  unfold consD
  rw [h1, h2]; rfl
theorem bT_eq {f : DS → Option D} {δ : DS} {b : Bool} (h : f δ = some (.bl b)) : bT f δ = some b := by
  unfold bT
  rw [h]; rfl
theorem orT_ff {t u : DS → Option Bool} {δ : DS} {b : Bool} (h1 : t δ = some false) (h2 : u δ = some b) : orT t u δ = some b := by
  unfold orT
  rw [h1]; exact h2
theorem andT_t {t u : DS → Option Bool} {δ : DS} {b : Bool} (h1 : t δ = some true) (h2 : u δ = some b) : andT t u δ = some b := by
  unfold andT
  rw [h1]; exact h2
theorem lstF_eq {f : DS → Option (List D)} {δ : DS} {ds : List D} (h : f δ = some ds) : lstF f δ = some (.lst ds) := by
  unfold lstF
  rw [h]; rfl

def wholeB : D → Bool
  | .int _ => true
  | _ => false
theorem F_whole (d : D) (h : (kindD d).isSome = true) : F_is_whole [d] = some (.bl (wholeB d)) := by
  cases d <;> first | rfl | (simp [kindD] at h)
theorem boolsD_map {α : Type} (f : α → Bool) : ∀ xs : List α, boolsD (xs.map fun x => D.bl (f x)) = some (xs.map f)
  | [] => rfl
  | x :: xs => by simp [boolsD, boolsD_map f xs]
def rowB (w : Nat) : D → Bool
  | .tup xs => decide (xs.length = w) && xs.all wholeB
  | _ => false
def okRow : D → Bool
  | .tup xs => xs.all fun x => (kindD x).isSome
  | .fro _ => false
  | .ty _ => false
  | _ => true
theorem map_id {α : Type} (xs : List α) : xs.map (fun x => x) = xs := by simp
theorem F_isrow (d : D) (w : Nat) (h : okRow d = true) : F_is_row [d, .int w] = some (.bl (rowB w d)) := by
  cases d with
  | tup xs =>
    have hx : ∀ x ∈ xs, (kindD x).isSome = true := by simpa [okRow] using h
    have h2 : compD (bind1 0) yesT (callF (consD (vF 0) nilF) F_is_whole) [none] (xs.map fun x => x) = some (xs.map fun x => D.bl (wholeB x)) :=
      compD_map (fun δ => ∃ a, δ = [a]) _ _ _ _ ⟨none, rfl⟩ (by
        rintro x hm δ ⟨a, rfl⟩
        refine ⟨[some x], rfl, ⟨_, rfl⟩, rfl, ?_⟩
        simp only [vF, cF, unF, nilF, callF, lstF, dispF, tupF, fsF, compF, oN, oS, bT, yesT, truT, andT, orT, notT, itF, nxF, retF, setF, setL, ifF, forF, seqF, consD, bind2, andD, orD, notD, asB, asI, runD, bind1, bindP, List.length_cons, List.length_nil, List.map_cons, List.map_nil, List.getElem?_cons_zero, List.getElem?_cons_succ, List.set_cons_zero, List.set_cons_succ, Option.join_some, Option.bind_some, Option.map_some, Option.join_none, Option.bind_none, Option.map_none, innD, List.cons_append, List.nil_append, List.replicate, Nat.sub_self, Nat.reduceAdd, Nat.reduceSub, if_true, if_false, F_whole x (hx x hm)])
    rw [map_id] at h2
    have e1 : isiD [.tup xs, .ty "tuple"] = some (.bl true) := rfl
    simp only [F_is_row, g_is_row, runD, List.length_cons, List.length_nil, Nat.reduceAdd, if_true, List.map_cons, List.map_nil, List.replicate, Nat.sub_self, List.append_nil, List.length_singleton, Nat.reduceSub, retF, andD, callF, consD, vF, cF, nilF, List.getElem?_cons_zero, List.getElem?_cons_succ, Option.join_some, Option.bind_some, Option.map_some, e1, asB, bind2, lenD, itemsD, eqD, ceq_int, lstF, compF, itF, innD, Option.bind_none, h2, allD, boolsD_map]
    by_cases hl : ((xs.length : Int) == (w : Int)) = true
    · have hl' : xs.length = w := by have := eq_of_beq hl; omega
      rw [if_pos hl]
      simp only [Option.map_some, Option.bind_some, rowB, hl', decide_true, Bool.true_and, List.all_map]
      rfl
    · have hl' : ¬ xs.length = w := fun z => hl (by rw [z]; simp)
      rw [if_neg hl]
      simp only [Option.map_some, Option.bind_some, rowB, hl', decide_false, Bool.false_and]
  | fro xs => simp [okRow] at h
  | ty n => simp [okRow] at h
  | non => rfl
  | bl b => rfl
  | int i => rfl
  | str x => rfl
  | lst xs => rfl
def lotB (w : Nat) : D → Bool
  | .tup xs => decide (xs.length ≤ 8) && xs.all (rowB w)
  | _ => false
def okLot : D → Bool
  | .tup xs => xs.all okRow
  | .fro _ => false
  | .ty _ => false
  | _ => true
theorem F_islot (d : D) (w : Nat) (h : okLot d = true) : F_is_lot [d, .int w] = some (.bl (lotB w d)) := by
  cases d with
  | tup xs =>
    have hx : ∀ x ∈ xs, okRow x = true := by simpa [okLot] using h
    have h2 : compD (bind1 0) yesT (callF (consD (vF 0) (consD (vF 1) nilF)) F_is_row) [none, some (.int w)] (xs.map fun x => x) = some (xs.map fun x => D.bl (rowB w x)) :=
      compD_map (fun δ => ∃ a, δ = [a, some (.int w)]) _ _ _ _ ⟨none, rfl⟩ (by
        rintro x hm δ ⟨a, rfl⟩
        refine ⟨[some x, some (.int w)], rfl, ⟨_, rfl⟩, rfl, ?_⟩
        simp only [vF, cF, unF, nilF, callF, lstF, dispF, tupF, fsF, compF, oN, oS, bT, yesT, truT, andT, orT, notT, itF, nxF, retF, setF, setL, ifF, forF, seqF, consD, bind2, andD, orD, notD, asB, asI, runD, bind1, bindP, List.length_cons, List.length_nil, List.map_cons, List.map_nil, List.getElem?_cons_zero, List.getElem?_cons_succ, List.set_cons_zero, List.set_cons_succ, Option.join_some, Option.bind_some, Option.map_some, Option.join_none, Option.bind_none, Option.map_none, innD, List.cons_append, List.nil_append, List.replicate, Nat.sub_self, Nat.reduceAdd, Nat.reduceSub, if_true, if_false, F_isrow x w (hx x hm)])
    rw [map_id] at h2
    have e1 : isiD [.tup xs, .ty "tuple"] = some (.bl true) := rfl
    simp only [F_is_lot, g_is_lot, runD, List.length_cons, List.length_nil, Nat.reduceAdd, if_true, List.map_cons, List.map_nil, List.replicate, Nat.sub_self, List.append_nil, List.length_singleton, Nat.reduceSub, retF, andD, callF, consD, vF, cF, nilF, List.getElem?_cons_zero, List.getElem?_cons_succ, Option.join_some, Option.bind_some, Option.map_some, e1, asB, bind2, lenD, itemsD, leD, lstF, compF, itF, innD, Option.bind_none, h2, allD, boolsD_map]
    by_cases hl : (xs.length : Int) ≤ 8
    · have hl' : xs.length ≤ 8 := by omega
      simp only [hl, if_true, decide_true, Option.map_some, Option.bind_some, lotB, hl', Bool.true_and, List.all_map]
      rfl
    · have hl' : ¬ xs.length ≤ 8 := by omega
      simp only [hl, if_false, decide_false, Option.map_some, Option.bind_some, lotB, hl', Bool.false_and, Bool.false_eq_true]
  | fro xs => simp [okLot] at h
  | ty n => simp [okLot] at h
  | non => rfl
  | bl b => rfl
  | int i => rfl
  | str x => rfl
  | lst xs => rfl
theorem rowB_row (r : List Int) (w : Nat) (h : r.length = w) : rowB w (rowD r) = true := by
  have : (r.map D.int).all wholeB = true := by rw [List.all_map]; exact List.all_eq_true.mpr fun _ _ => rfl
  simp [rowB, rowD, h, this]
theorem okRow_row (r : List Int) : okRow (rowD r) = true := by
  have : ((r.map D.int).all fun x => (kindD x).isSome) = true := by rw [List.all_map]; exact List.all_eq_true.mpr fun _ _ => rfl
  simpa [okRow, rowD] using this
/-- a part of a list -/
def cutG {α : Type} (xs : List α) (lo hi : Option Int) : List α := (xs.drop (HT.sIx xs.length 0 lo)).take (HT.sIx xs.length xs.length hi - HT.sIx xs.length 0 lo)
theorem cutD_map {α : Type} (f : α → D) (xs : List α) (lo hi : Option Int) : cutD (xs.map f) lo hi = (cutG xs lo hi).map f := by
  unfold cutD cutG
  rw [List.length_map, ← List.map_drop, ← List.map_take]
theorem cutG_le {α : Type} (xs : List α) (lo hi : Option Int) : (cutG xs lo hi).length ≤ xs.length := by
  unfold cutG
  rw [List.length_take, List.length_drop]; omega
theorem cutG_mem {α : Type} {xs : List α} {lo hi : Option Int} {x : α} (h : x ∈ cutG xs lo hi) : x ∈ xs := List.mem_of_mem_drop (List.mem_of_mem_take h)
theorem atI_mem {α : Type} {xs : List α} {i : Int} (h0 : 0 ≤ i) (h1 : i < xs.length) : ∃ x ∈ xs, atI xs i = some x := by
  have hk : i.toNat < xs.length := by omega
  refine ⟨xs[i.toNat], List.getElem_mem hk, ?_⟩
  have := atI_nat (List.getElem?_eq_getElem hk)
  rwa [show ((i.toNat : Nat) : Int) = i by omega] at this

theorem all_mid (as bs : List D) (x : D) (h : wholeB x = false) : ((as ++ [x]) ++ bs).all wholeB = false := by
  rw [List.all_append, List.all_append]
  simp [h]
theorem rowB_mid (w : Nat) (as bs : List D) (x : D) (h : wholeB x = false) : rowB w (.tup ((as ++ [x]) ++ bs)) = false := by
  simp only [rowB]
  rw [all_mid as bs x h, Bool.and_false]
theorem okRow_mid (as bs : List Int) (x : D) (h : (kindD x).isSome = true) : okRow (.tup ((as.map D.int ++ [x]) ++ bs.map D.int)) = true := by
  simp only [okRow]
  rw [List.all_append, List.all_append, List.all_map, List.all_map]
  have e : ∀ (l : List Int), (l.all ((fun x => (kindD x).isSome) ∘ D.int)) = true := fun l => List.all_eq_true.mpr fun _ _ => rfl
  simp [e, h]
theorem F_bad (r : List Int) (c : Int) (w : Nat) (hl : r.length = w) (h1 : 1 ≤ w) (h4 : w ≤ 4) : ∃ bad : D, F__law_bad_row [rowD r, .int c] = some bad ∧ rowB w bad = false ∧ okRow bad = true := by
  have hw : (r.length : Int) ≠ 0 := by omega
  -- the eleven
  let p : Int := c.fmod (r.length : Int)
  let as := cutG r none (some p)
  let bs := cutG r (some (p + 1)) none
  have la : as.length ≤ 4 := by have := cutG_le r none (some p); show (cutG r none (some p)).length ≤ 4; omega
  have lb : bs.length ≤ 4 := by have := cutG_le r (some (p + 1)) none; show (cutG r (some (p + 1)) none).length ≤ 4; omega
  let mid : D → D := fun x => .tup ((as.map D.int ++ [x]) ++ bs.map D.int)
  let bads : List D := [.tup (r.map D.int ++ [.int 0]), .tup ((cutG r (some 1) none).map D.int), .lst (r.map D.int), mid .non, mid (.bl true), .non, mid (.str "1"), mid (.tup [.int 1]), .int 7, .str "row", .tup [rowD r]]
  have good : ∀ b ∈ bads, rowB w b = false ∧ okRow b = true := by
    intro b hb
    have hb' : b = .tup (r.map D.int ++ [.int 0]) ∨ b = .tup ((cutG r (some 1) none).map D.int) ∨ b = .lst (r.map D.int) ∨ b = mid .non ∨ b = mid (.bl true) ∨ b = .non ∨ b = mid (.str "1") ∨ b = mid (.tup [.int 1]) ∨ b = .int 7 ∨ b = .str "row" ∨ b = .tup [rowD r] := by
      simpa [bads] using hb
    rcases hb' with rfl | rfl | rfl | rfl | rfl | rfl | rfl | rfl | rfl | rfl | rfl
    · refine ⟨?_, ?_⟩
      · simp only [rowB]
        rw [show decide ((r.map D.int ++ [D.int 0]).length = w) = false from decide_eq_false (by simp [hl])]; rfl
      · have e := okRow_row r
        have e' : ((r.map D.int).all fun x => (kindD x).isSome) = true := by simpa [okRow, rowD] using e
        simp only [okRow]
        rw [List.all_append, e']; rfl
    · refine ⟨?_, okRow_row _⟩
      have hs : HT.sIx r.length 0 (some 1) = min 1 r.length := HT.sIx_nat r.length 0 1
      have hlen : (cutG r (some 1) none).length = w - 1 := by
        unfold cutG
        rw [hs, HT.sIx_none, List.length_take, List.length_drop]; omega
      simp only [rowB]
      rw [show decide (((cutG r (some 1) none).map D.int).length = w) = false from decide_eq_false (by rw [List.length_map, hlen]; omega)]; rfl
    · exact ⟨rfl, rfl⟩
    · exact ⟨rowB_mid w _ _ _ rfl, okRow_mid _ _ _ rfl⟩
    · exact ⟨rowB_mid w _ _ _ rfl, okRow_mid _ _ _ rfl⟩
    · exact ⟨rfl, rfl⟩
    · exact ⟨rowB_mid w _ _ _ rfl, okRow_mid _ _ _ rfl⟩
    · exact ⟨rowB_mid w _ _ _ rfl, okRow_mid _ _ _ rfl⟩
    · exact ⟨rfl, rfl⟩
    · exact ⟨rfl, rfl⟩
    · refine ⟨?_, rfl⟩
      show (decide (1 = w) && _) = false
      simp [rowD, wholeB]
  have i0 : 0 ≤ (c.fdiv 8).fmod 11 := Int.fmod_nonneg_of_pos _ (by decide)
  have i1 : (c.fdiv 8).fmod 11 < 11 := Int.fmod_lt_of_pos _ (by decide)
  obtain ⟨bad, hb, hat⟩ := atI_mem (xs := bads) i0 (by show _ < ((11 : Nat) : Int); exact i1)
  refine ⟨bad, ?_, (good bad hb).1, (good bad hb).2⟩
  have f1 : fit (r.length + 1) = true := fit_of (by omega)
  have fA : ∀ x : D, addD (.tup (as.map D.int)) (.tup [x]) = some (.tup (as.map D.int ++ [x])) := fun x =>
    addD_tup (by rw [List.length_map, List.length_singleton]; omega)
  have fB : ∀ x : D, addD (.tup (as.map D.int ++ [x])) (.tup (bs.map D.int)) = some (mid x) := fun x =>
    addD_tup (by rw [List.length_append, List.length_map, List.length_map, List.length_singleton]; omega)
  have f0 : addD (.tup (r.map D.int)) (.tup [.int 0]) = some (.tup (r.map D.int ++ [.int 0])) :=
    addD_tup (by rw [List.length_map, List.length_singleton]; omega)
  have s1 : slD (.tup (r.map D.int)) none (some p) = some (.tup (as.map D.int)) := by simp only [slD]; rw [cutD_map]
  have s2 : slD (.tup (r.map D.int)) (some (p + 1)) none = some (.tup (bs.map D.int)) := by simp only [slD]; rw [cutD_map]
  have s3 : slD (.tup (r.map D.int)) (some 1) none = some (.tup ((cutG r (some 1) none).map D.int)) := by simp only [slD]; rw [cutD_map]
  have pp : addD (.int p) (.int 1) = some (.int (p + 1)) := rfl
  have k1 : fit 1 = true := rfl
  have k6 : fit 6 = true := rfl
  have k5 : fit 5 = true := rfl
  have ok8 : okI 8 = true := by decide +kernel
  have d8 : fdivD (.int c) (.int 8) = some (.int (c.fdiv 8)) := fdivD_int (by decide) ok8
  refine runD_rt rfl ?_
  have q1 : setF 2 (bind2 (vF 1) (callF (consD (vF 0) nilF) lenD) modD) [some (rowD r), some (.int c), none, none] = some (.nx [some (rowD r), some (.int c), some (.int p), none]) := by
    simp only [vF, cF, unF, nilF, callF, lstF, dispF, tupF, fsF, compF, oN, oS, bT, yesT, truT, andT, orT, notT, itF, nxF, retF, setF, setL, ifF, forF, seqF, consD, bind2, andD, orD, notD, asB, asI, runD, bind1, bindP, List.length_cons, List.length_nil, List.map_cons, List.map_nil, List.getElem?_cons_zero, List.getElem?_cons_succ, List.set_cons_zero, List.set_cons_succ, Option.join_some, Option.bind_some, Option.map_some, Option.join_none, Option.bind_none, Option.map_none, innD, List.cons_append, List.nil_append, List.replicate, Nat.sub_self, Nat.reduceAdd, Nat.reduceSub, if_true, if_false, lenD, itemsD, rowD, List.length_map, modD, hw]; rfl
  refine (seqF_nx (δ' := [some (rowD r), some (.int c), some (.int p), none]) q1).trans ?_
  refine (seqF_nx (δ' := [some (rowD r), some (.int c), some (.int p), some (.lst [.tup (r.map D.int ++ [.int 0]), .tup ((cutG r (some 1) none).map D.int), .lst (r.map D.int), mid .non, mid (.bl true), .non])]) (setF_nx ?_)).trans ?_
  · simp only [vF, cF, unF, nilF, callF, lstF, dispF, tupF, fsF, compF, oN, oS, bT, yesT, truT, andT, orT, notT, itF, nxF, retF, setF, setL, ifF, forF, seqF, consD, bind2, andD, orD, notD, asB, asI, runD, bind1, bindP, List.length_cons, List.length_nil, List.map_cons, List.map_nil, List.getElem?_cons_zero, List.getElem?_cons_succ, List.set_cons_zero, List.set_cons_succ, Option.join_some, Option.bind_some, Option.map_some, Option.join_none, Option.bind_none, Option.map_none, innD, List.cons_append, List.nil_append, List.replicate, Nat.sub_self, Nat.reduceAdd, Nat.reduceSub, if_true, if_false, slF, rowD, f0, s1, s2, s3, fA, fB, k1, k6, list1, itemsD, pp, List.length_singleton]
  refine (seqF_nx (δ' := [some (rowD r), some (.int c), some (.int p), some (.lst bads)]) (setF_nx ?_)).trans (retF_rt ?_)
  · simp only [vF, cF, unF, nilF, callF, lstF, dispF, tupF, fsF, compF, oN, oS, bT, yesT, truT, andT, orT, notT, itF, nxF, retF, setF, setL, ifF, forF, seqF, consD, bind2, andD, orD, notD, asB, asI, runD, bind1, bindP, List.length_cons, List.length_nil, List.map_cons, List.map_nil, List.getElem?_cons_zero, List.getElem?_cons_succ, List.set_cons_zero, List.set_cons_succ, Option.join_some, Option.bind_some, Option.map_some, Option.join_none, Option.bind_none, Option.map_none, innD, List.cons_append, List.nil_append, List.replicate, Nat.sub_self, Nat.reduceAdd, Nat.reduceSub, if_true, if_false, slF, rowD, s1, s2, fA, fB, pp, k1, k5, List.length_singleton]
    rw [addD_lst (by simp only [List.length_cons, List.length_nil]; omega)]
    rfl
  · simp only [vF, cF, unF, nilF, callF, lstF, dispF, tupF, fsF, compF, oN, oS, bT, yesT, truT, andT, orT, notT, itF, nxF, retF, setF, setL, ifF, forF, seqF, consD, bind2, andD, orD, notD, asB, asI, runD, bind1, bindP, List.length_cons, List.length_nil, List.map_cons, List.map_nil, List.getElem?_cons_zero, List.getElem?_cons_succ, List.set_cons_zero, List.set_cons_succ, Option.join_some, Option.bind_some, Option.map_some, Option.join_none, Option.bind_none, Option.map_none, innD, List.cons_append, List.nil_append, List.replicate, Nat.sub_self, Nat.reduceAdd, Nat.reduceSub, if_true, if_false, d8, lenD, itemsD]
    rw [modD_int (show ((bads.length : Nat) : Int) ≠ 0 by show ((11 : Nat) : Int) ≠ 0; decide)]
    exact hat

theorem isn_t (b : Bool) : isnotD (.bl b) (.bl true) = some (.bl (!(b == true))) := rfl
theorem isn_f (b : Bool) : isnotD (.bl b) (.bl false) = some (.bl (!(b == false))) := rfl
/-- a row put into a lot at a place -/
def putD (rows : List (List Int)) (p : Int) (x : D) : D := .tup (((cutG rows none (some p)).map rowD ++ [x]) ++ (cutG rows (some p) none).map rowD)
theorem putD_eq (rows : List (List Int)) (p : Int) (x : D) (δ : DS) (f g h : DS → Option D) (hl : rows.length ≤ 4) (h1 : f δ = some (.tup (rows.map rowD))) (h2 : g δ = some (.int p)) (h3 : h δ = some x) :
    bind2 (bind2 (slF f oN (oS g)) (tupF (consD h nilF)) addD) (slF f (oS g) oN) addD δ = some (putD rows p x) := by
  have la := cutG_le rows none (some p)
  have lb := cutG_le rows (some p) none
  have k1 : fit 1 = true := rfl
  simp only [vF, cF, unF, nilF, callF, lstF, dispF, tupF, fsF, compF, oN, oS, bT, yesT, truT, andT, orT, notT, itF, nxF, retF, setF, setL, ifF, forF, seqF, consD, bind2, andD, orD, notD, asB, asI, runD, bind1, bindP, List.length_cons, List.length_nil, List.map_cons, List.map_nil, List.getElem?_cons_zero, List.getElem?_cons_succ, List.set_cons_zero, List.set_cons_succ, Option.join_some, Option.bind_some, Option.map_some, Option.join_none, Option.bind_none, Option.map_none, innD, List.cons_append, List.nil_append, List.replicate, Nat.sub_self, Nat.reduceAdd, Nat.reduceSub, if_true, if_false, slF, h1, h2, h3, slD, cutD_map, k1, List.length_singleton]
  rw [addD_tup (by rw [List.length_map, List.length_singleton]; omega), Option.bind_some, addD_tup (by rw [List.length_append, List.length_map, List.length_map, List.length_singleton]; omega)]
  rfl
theorem okRow_rows {rows : List (List Int)} : ((rows.map rowD).all okRow) = true := by
  rw [List.all_map]; exact List.all_eq_true.mpr fun r _ => okRow_row r
theorem rowB_rows {rows : List (List Int)} {w : Nat} (h : ∀ r ∈ rows, r.length = w) : ((rows.map rowD).all (rowB w)) = true := by
  rw [List.all_map]; exact List.all_eq_true.mpr fun r hr => rowB_row r w (h r hr)
theorem putD_ok (rows : List (List Int)) (p : Int) (x : D) (h : okRow x = true) : okLot (putD rows p x) = true := by
  simp only [putD, okLot, List.all_append, okRow_rows, List.all_cons, h, List.all_nil, Bool.and_self]
theorem cut_both {α : Type} (xs : List α) (p : Int) (h0 : 0 ≤ p) : (cutG xs none (some p)).length + (cutG xs (some p) none).length = xs.length := by
  obtain ⟨k, rfl⟩ : ∃ k : Nat, p = k := ⟨p.toNat, by omega⟩
  unfold cutG
  rw [HT.sIx_nat, HT.sIx_nat, HT.sIx_none, HT.sIx_none, List.length_take, List.length_drop, List.length_take, List.length_drop]
  omega
theorem putD_good (rows : List (List Int)) (p : Int) (r : List Int) (w : Nat) (h0 : 0 ≤ p) (hl : rows.length ≤ 4) (h : ∀ r ∈ rows, r.length = w) (hr : r.length = w) : lotB w (putD rows p (rowD r)) = true := by
  have hb := cut_both rows p h0
  have a1 := rowB_rows (rows := cutG rows none (some p)) (w := w) fun q hq => h q (cutG_mem hq)
  have a2 := rowB_rows (rows := cutG rows (some p) none) (w := w) fun q hq => h q (cutG_mem hq)
  simp only [putD, lotB, List.all_append, a1, a2, List.all_cons, rowB_row r w hr, List.all_nil, Bool.and_self, List.length_append, List.length_map, List.length_singleton, Bool.and_true]
  exact decide_eq_true (by omega)
theorem putD_bad (rows : List (List Int)) (p : Int) (x : D) (w : Nat) (hx : rowB w x = false) : lotB w (putD rows p x) = false := by
  simp only [putD, lotB, List.all_append, List.all_cons, hx, Bool.false_and, Bool.and_false]
theorem rep_all (r : List Int) (w n : Nat) (hr : r.length = w) : lotB w (.tup ((List.range n).map fun _ => rowD r)) = decide (n ≤ 8) ∧ okLot (.tup ((List.range n).map fun _ => rowD r)) = true := by
  have a1 : (((List.range n).map fun _ => rowD r).all (rowB w)) = true := by rw [List.all_map]; exact List.all_eq_true.mpr fun _ _ => rowB_row r w hr
  have a2 : (((List.range n).map fun _ => rowD r).all okRow) = true := by rw [List.all_map]; exact List.all_eq_true.mpr fun _ _ => okRow_row r
  exact ⟨by simp only [lotB, a1, Bool.and_true, List.length_map, List.length_range], a2⟩
theorem rep_eq (r : List Int) (n : Nat) (hn : n ≤ 1000) (δ : DS) (hδ : (δ[4]?).join = some (rowD r)) : callF (consD (lstF (compF (fsF (consD (cF (.int n)) nilF) range1D) (bind1 0) yesT (vF 1) [none, some 4])) nilF) tupleD δ = some (.tup ((List.range n).map fun _ => rowD r)) := by
  have hf : fit (n : Int).natAbs = true := fit_of (by omega)
  have h2 : compD (bind1 0) yesT (vF 1) [none, some (rowD r)] ((List.range n).map fun (k : Nat) => D.int (k : Int)) = some ((List.range n).map fun _ => rowD r) :=
    compD_map (fun δ => ∃ a, δ = [a, some (rowD r)]) _ _ _ _ ⟨none, rfl⟩ (by
      rintro k _ δ ⟨a, rfl⟩
      exact ⟨_, rfl, ⟨_, rfl⟩, rfl, rfl⟩)
  simp only [callF, consD, lstF, compF, fsF, cF, nilF, Option.bind_some, Option.map_some, range1D, hf, if_true, Int.toNat_natCast, rangeD_map, innD, List.map_cons, List.map_nil, hδ, Option.bind_none, h2, tupleD, itemsD]
theorem law_true (ns : List Int) (hns : ns.length ≤ 63) : F_law [.fro (ns.map D.int)] = some (.bl true) := by
  obtain ⟨w, hw1, hw4, hw⟩ := F_wide ns 4 (by decide)
  obtain ⟨rows, hl, hln, hrl⟩ := F_lot ns 1 w 4 (by omega) (by decide)
  rw [show ((4 : Nat) : Int) = 4 from rfl] at hw hl
  rw [show ((1 : Nat) : Int) = 1 from rfl] at hl
  have hc1 := F_cell ns 1
  rw [show ((1 : Nat) : Int) = 1 from rfl] at hc1
  generalize hL : D.tup (rows.map rowD) = L at hl
  refine runD_rt rfl ?_
  refine (seqF_nx (δ' := [some (.fro (ns.map D.int)), some (.int w), none, none, none, none, none]) (setF_nx ?_)).trans ?_
  · simp only [vF, cF, unF, nilF, callF, lstF, dispF, tupF, fsF, compF, oN, oS, bT, yesT, truT, andT, orT, notT, itF, nxF, retF, setF, setL, ifF, forF, seqF, consD, bind2, andD, orD, notD, asB, asI, runD, bind1, bindP, List.length_cons, List.length_nil, List.map_cons, List.map_nil, List.getElem?_cons_zero, List.getElem?_cons_succ, List.set_cons_zero, List.set_cons_succ, Option.join_some, Option.bind_some, Option.map_some, Option.join_none, Option.bind_none, Option.map_none, innD, List.cons_append, List.nil_append, List.replicate, Nat.sub_self, Nat.reduceAdd, Nat.reduceSub, if_true, if_false, hw]
  refine (seqF_nx (δ' := [some (.fro (ns.map D.int)), some (.int w), some L, none, none, none, none]) (setF_nx ?_)).trans ?_
  · simp only [vF, cF, unF, nilF, callF, lstF, dispF, tupF, fsF, compF, oN, oS, bT, yesT, truT, andT, orT, notT, itF, nxF, retF, setF, setL, ifF, forF, seqF, consD, bind2, andD, orD, notD, asB, asI, runD, bind1, bindP, List.length_cons, List.length_nil, List.map_cons, List.map_nil, List.getElem?_cons_zero, List.getElem?_cons_succ, List.set_cons_zero, List.set_cons_succ, Option.join_some, Option.bind_some, Option.map_some, Option.join_none, Option.bind_none, Option.map_none, innD, List.cons_append, List.nil_append, List.replicate, Nat.sub_self, Nat.reduceAdd, Nat.reduceSub, if_true, if_false, hl]
  -- the loop over the script's items
  have loop := forD_map (h := bind1 3) (gb := (seqF (setF 4 (callF (consD (vF 3) (consD (vF 1) nilF)) F__law_row)) (seqF (setF 5 (callF (consD (vF 4) (consD (vF 3) nilF)) F__law_bad_row)) (seqF (ifF (orT (bT (bind2 (callF (consD (vF 4) (consD (vF 1) nilF)) F_is_row) (cF (.bl true)) isnotD)) (bT (bind2 (callF (consD (vF 5) (consD (vF 1) nilF)) F_is_row) (cF (.bl false)) isnotD))) (retF (cF (.bl false))) nxF) (seqF (setF 6 (bind2 (vF 3) (bind2 (callF (consD (vF 2) nilF) lenD) (cF (.int 1)) addD) modD)) (seqF (ifF (bT (bind2 (callF (consD (bind2 (bind2 (slF (vF 2) oN (oS (vF 6))) (tupF (consD (vF 4) nilF)) addD) (slF (vF 2) (oS (vF 6)) oN) addD) (consD (vF 1) nilF)) F_is_lot) (cF (.bl true)) isnotD)) (retF (cF (.bl false))) nxF) (ifF (bT (bind2 (callF (consD (bind2 (bind2 (slF (vF 2) oN (oS (vF 6))) (tupF (consD (vF 5) nilF)) addD) (slF (vF 2) (oS (vF 6)) oN) addD) (consD (vF 1) nilF)) F_is_lot) (cF (.bl false)) isnotD)) (retF (cF (.bl false))) nxF)))))))
    (fun (_ : Unit) δ => ∃ x3 x4 x5 x6, δ = [some (.fro (ns.map D.int)), some (.int w), some L, x3, x4, x5, x6]) D.int (fun _ _ => ()) (cutG ns (some 1) (some 9)) ()
    [some (.fro (ns.map D.int)), some (.int w), some L, none, none, none, none] ⟨_, _, _, _, rfl⟩ (by
      rintro c _ _ δ ⟨x3, x4, x5, x6, rfl⟩
      have hrow := F_row c w (by omega)
      have hr1 := rowZ_len c w
      generalize rowZ c w = r at hrow hr1
      obtain ⟨bad, hb1, hb2, hb3⟩ := F_bad r c w hr1 hw1 hw4
      have q0 : 0 ≤ c.fmod ((rows.length : Int) + 1) := Int.fmod_nonneg_of_pos _ (by omega)
      generalize hp : c.fmod ((rows.length : Int) + 1) = p at q0
      refine ⟨[some (.fro (ns.map D.int)), some (.int w), some L, some (.int c), x4, x5, x6], [some (.fro (ns.map D.int)), some (.int w), some L, some (.int c), some (rowD r), some bad, some (.int p)], rfl, ?_, ⟨_, _, _, _, rfl⟩⟩
      refine (seqF_nx (δ' := [some (.fro (ns.map D.int)), some (.int w), some L, some (.int c), some (rowD r), x5, x6]) (setF_nx ?_)).trans ?_
      · simp only [vF, cF, unF, nilF, callF, lstF, dispF, tupF, fsF, compF, oN, oS, bT, yesT, truT, andT, orT, notT, itF, nxF, retF, setF, setL, ifF, forF, seqF, consD, bind2, andD, orD, notD, asB, asI, runD, bind1, bindP, List.length_cons, List.length_nil, List.map_cons, List.map_nil, List.getElem?_cons_zero, List.getElem?_cons_succ, List.set_cons_zero, List.set_cons_succ, Option.join_some, Option.bind_some, Option.map_some, Option.join_none, Option.bind_none, Option.map_none, innD, List.cons_append, List.nil_append, List.replicate, Nat.sub_self, Nat.reduceAdd, Nat.reduceSub, if_true, if_false, hrow]
      refine (seqF_nx (δ' := [some (.fro (ns.map D.int)), some (.int w), some L, some (.int c), some (rowD r), some bad, x6]) (setF_nx ?_)).trans ?_
      · simp only [vF, cF, unF, nilF, callF, lstF, dispF, tupF, fsF, compF, oN, oS, bT, yesT, truT, andT, orT, notT, itF, nxF, retF, setF, setL, ifF, forF, seqF, consD, bind2, andD, orD, notD, asB, asI, runD, bind1, bindP, List.length_cons, List.length_nil, List.map_cons, List.map_nil, List.getElem?_cons_zero, List.getElem?_cons_succ, List.set_cons_zero, List.set_cons_succ, Option.join_some, Option.bind_some, Option.map_some, Option.join_none, Option.bind_none, Option.map_none, innD, List.cons_append, List.nil_append, List.replicate, Nat.sub_self, Nat.reduceAdd, Nat.reduceSub, if_true, if_false, hb1]
      refine (seqF_nx (δ' := [some (.fro (ns.map D.int)), some (.int w), some L, some (.int c), some (rowD r), some bad, x6]) ((ifF_f ?_).trans rfl)).trans ?_
      · simp only [vF, cF, unF, nilF, callF, lstF, dispF, tupF, fsF, compF, oN, oS, bT, yesT, truT, andT, orT, notT, itF, nxF, retF, setF, setL, ifF, forF, seqF, consD, bind2, andD, orD, notD, asB, asI, runD, bind1, bindP, List.length_cons, List.length_nil, List.map_cons, List.map_nil, List.getElem?_cons_zero, List.getElem?_cons_succ, List.set_cons_zero, List.set_cons_succ, Option.join_some, Option.bind_some, Option.map_some, Option.join_none, Option.bind_none, Option.map_none, innD, List.cons_append, List.nil_append, List.replicate, Nat.sub_self, Nat.reduceAdd, Nat.reduceSub, if_true, if_false, F_isrow _ w (okRow_row r), F_isrow _ w hb3, rowB_row r w hr1, hb2, isn_t, isn_f]
        rfl
      refine (seqF_nx (δ' := [some (.fro (ns.map D.int)), some (.int w), some L, some (.int c), some (rowD r), some bad, some (.int p)]) (setF_nx ?_)).trans ?_
      · subst hL
        simp only [vF, cF, unF, nilF, callF, lstF, dispF, tupF, fsF, compF, oN, oS, bT, yesT, truT, andT, orT, notT, itF, nxF, retF, setF, setL, ifF, forF, seqF, consD, bind2, andD, orD, notD, asB, asI, runD, bind1, bindP, List.length_cons, List.length_nil, List.map_cons, List.map_nil, List.getElem?_cons_zero, List.getElem?_cons_succ, List.set_cons_zero, List.set_cons_succ, Option.join_some, Option.bind_some, Option.map_some, Option.join_none, Option.bind_none, Option.map_none, innD, List.cons_append, List.nil_append, List.replicate, Nat.sub_self, Nat.reduceAdd, Nat.reduceSub, if_true, if_false, lenD, itemsD, List.length_map, addD]
        rw [modD_int (by omega), hp]
      have g1 := putD_eq rows p (rowD r) [some (.fro (ns.map D.int)), some (.int w), some L, some (.int c), some (rowD r), some bad, some (.int p)] (vF 2) (vF 6) (vF 4) hln (by rw [hL]; rfl) rfl rfl
      have g2 := putD_eq rows p bad [some (.fro (ns.map D.int)), some (.int w), some L, some (.int c), some (rowD r), some bad, some (.int p)] (vF 2) (vF 6) (vF 5) hln (by rw [hL]; rfl) rfl rfl
      refine (seqF_nx (δ' := [some (.fro (ns.map D.int)), some (.int w), some L, some (.int c), some (rowD r), some bad, some (.int p)]) ((ifF_f ?_).trans rfl)).trans ((ifF_f ?_).trans rfl)
      · refine bT_eq ((bind2_eq ((callF_eq (consD_eq g1 (consD_eq rfl rfl))).trans (F_islot _ w (putD_ok rows p _ (okRow_row r)))) rfl).trans ?_)
        rw [putD_good rows p r w q0 hln hrl hr1]; rfl
      · refine bT_eq ((bind2_eq ((callF_eq (consD_eq g2 (consD_eq rfl rfl))).trans (F_islot _ w (putD_ok rows p _ hb3))) rfl).trans ?_)
        rw [putD_bad rows p bad w hb2]; rfl)
  obtain ⟨δ', e, x3, x4, x5, x6, rfl⟩ := loop
  refine (seqF_nx (forF_nx (ds := (cutG ns (some 1) (some 9)).map D.int) ?_ e)).trans ?_
  · simp only [vF, cF, unF, nilF, callF, lstF, dispF, tupF, fsF, compF, oN, oS, bT, yesT, truT, andT, orT, notT, itF, nxF, retF, setF, setL, ifF, forF, seqF, consD, bind2, andD, orD, notD, asB, asI, runD, bind1, bindP, List.length_cons, List.length_nil, List.map_cons, List.map_nil, List.getElem?_cons_zero, List.getElem?_cons_succ, List.set_cons_zero, List.set_cons_succ, Option.join_some, Option.bind_some, Option.map_some, Option.join_none, Option.bind_none, Option.map_none, innD, List.cons_append, List.nil_append, List.replicate, Nat.sub_self, Nat.reduceAdd, Nat.reduceSub, if_true, if_false, slF, slD, itemsD, cutD_map]
  have hrow := F_row (cellZ ns 1) w (by omega)
  have hr1 := rowZ_len (cellZ ns 1) w
  generalize rowZ (cellZ ns 1) w = r at hrow hr1
  refine (seqF_nx (δ' := [some (.fro (ns.map D.int)), some (.int w), some L, x3, some (rowD r), x5, x6]) (setF_nx ?_)).trans ?_
  · simp only [vF, cF, unF, nilF, callF, lstF, dispF, tupF, fsF, compF, oN, oS, bT, yesT, truT, andT, orT, notT, itF, nxF, retF, setF, setL, ifF, forF, seqF, consD, bind2, andD, orD, notD, asB, asI, runD, bind1, bindP, List.length_cons, List.length_nil, List.map_cons, List.map_nil, List.getElem?_cons_zero, List.getElem?_cons_succ, List.set_cons_zero, List.set_cons_succ, Option.join_some, Option.bind_some, Option.map_some, Option.join_none, Option.bind_none, Option.map_none, innD, List.cons_append, List.nil_append, List.replicate, Nat.sub_self, Nat.reduceAdd, Nat.reduceSub, if_true, if_false, hc1, hrow]
  have n9 := rep_eq r 9 (by decide) [some (.fro (ns.map D.int)), some (.int w), some L, x3, some (rowD r), x5, x6] rfl
  have n8 := rep_eq r 8 (by decide) [some (.fro (ns.map D.int)), some (.int w), some L, x3, some (rowD r), x5, x6] rfl
  rw [show ((9 : Nat) : Int) = 9 from rfl] at n9
  rw [show ((8 : Nat) : Int) = 8 from rfl] at n8
  have b9 := rep_all r w 9 hr1
  have b8 := rep_all r w 8 hr1
  refine (seqF_nx (δ' := [some (.fro (ns.map D.int)), some (.int w), some L, x3, some (rowD r), x5, x6]) ((ifF_f ?_).trans rfl)).trans ?_
  · refine orT_ff (bT_eq ((bind2_eq ((callF_eq (consD_eq n9 (consD_eq rfl rfl))).trans (F_islot _ w b9.2)) rfl).trans ?_)) ?_
    · rw [b9.1]; rfl
    · subst hL
      simp only [vF, cF, unF, nilF, callF, lstF, dispF, tupF, fsF, compF, oN, oS, bT, yesT, truT, andT, orT, notT, itF, nxF, retF, setF, setL, ifF, forF, seqF, consD, bind2, andD, orD, notD, asB, asI, runD, bind1, bindP, List.length_cons, List.length_nil, List.map_cons, List.map_nil, List.getElem?_cons_zero, List.getElem?_cons_succ, List.set_cons_zero, List.set_cons_succ, Option.join_some, Option.bind_some, Option.map_some, Option.join_none, Option.bind_none, Option.map_none, innD, List.cons_append, List.nil_append, List.replicate, Nat.sub_self, Nat.reduceAdd, Nat.reduceSub, if_true, if_false, list1, itemsD, F_islot (.lst (rows.map rowD)) w rfl, lotB, isn_f]
      rfl
  refine (seqF_nx (δ' := [some (.fro (ns.map D.int)), some (.int w), some L, x3, some (rowD r), x5, x6]) ((ifF_f ?_).trans rfl)).trans (retF_rt ?_)
  · have k0 : fit 0 = true := rfl
    simp only [vF, cF, unF, nilF, callF, lstF, dispF, tupF, fsF, compF, oN, oS, bT, yesT, truT, andT, orT, notT, itF, nxF, retF, setF, setL, ifF, forF, seqF, consD, bind2, andD, orD, notD, asB, asI, runD, bind1, bindP, List.length_cons, List.length_nil, List.map_cons, List.map_nil, List.getElem?_cons_zero, List.getElem?_cons_succ, List.set_cons_zero, List.set_cons_succ, Option.join_some, Option.bind_some, Option.map_some, Option.join_none, Option.bind_none, Option.map_none, innD, List.cons_append, List.nil_append, List.replicate, Nat.sub_self, Nat.reduceAdd, Nat.reduceSub, if_true, if_false, k0, F_islot (.tup []) w rfl, F_islot .non w rfl, isn_t, isn_f]
    rfl
  · refine (bind2_eq ((callF_eq (consD_eq n8 (consD_eq rfl rfl))).trans (F_islot _ w b8.2)) rfl).trans ?_
    rw [b8.1]; rfl

end L2.k01
open PySem PySem.W PyProof.Rows
set_option maxRecDepth 100000 in
set_option maxHeartbeats 0 in
theorem PySem.Challenge.cw_rowwright_k01_rows_and_lots_holds : PySem.Challenge.rw_rowwright_k01_rows_and_lots.Holds := by
  w_on; o_law; k_head; (case hw => w_witness2)
  k_fill
  refine L2.walk_ofK (l := PySem.Challenge.rw_rowwright_k01_rows_and_lots) (n := 63) (k := 4) (x := "_law_script") (CX := L2.CX0) (sp := fun K => L2.spD K L2.k01.F_law) rfl (by decide) rfl ⟨rfl, by decide, by decide⟩ (fun w h Y => PySem.W.kIn_of Y) ?F (fun K H a ns hl hO hS => L2.script_D hO hS (L2.k01.law_true ns hl)) (fun _ _ _ _ z => z)
  case F =>
    intro w mg fa h KX G hmg
    refine' L2.k01.all_mk KX G hmg ?a0 ?l0 ?q0 ?k0 ?a1 ?l1 ?q1 ?k1 ?a2 ?l2 ?q2 ?k2 ?a3 ?l3 ?q3 ?k3 ?a4 ?l4 ?q4 ?k4 ?a5 ?l5 ?q5 ?k5 ?a6 ?l6 ?q6 ?k6 ?a7 ?l7 ?q7 ?k7 ?a8 ?l8 ?q8 ?k8 ?a9 ?l9 ?q9 ?k9 ?a10 ?l10 ?q10 ?k10 ?z_all ?z_bool ?z_int ?z_isinstance ?z_len ?z_list ?z_range ?z_tuple ?z_zip ?y_MOST_ROWS
    (case a0 => k_is); (case l0 => k_is); (case q0 => k_is); (case k0 => k_is)
    (case a1 => k_is); (case l1 => k_is); (case q1 => k_is); (case k1 => k_is)
    (case a2 => k_is); (case l2 => k_is); (case q2 => k_is); (case k2 => k_is)
    (case a3 => k_is); (case l3 => k_is); (case q3 => k_is); (case k3 => k_is)
    (case a4 => k_is); (case l4 => k_is); (case q4 => k_is); (case k4 => k_is)
    (case a5 => k_is); (case l5 => k_is); (case q5 => k_is); (case k5 => k_is)
    (case a6 => k_is); (case l6 => k_is); (case q6 => k_is); (case k6 => k_is)
    (case a7 => k_is); (case l7 => k_is); (case q7 => k_is); (case k7 => k_is)
    (case a8 => k_is); (case l8 => k_is); (case q8 => k_is); (case k8 => k_is)
    (case a9 => k_is); (case l9 => k_is); (case q9 => k_is); (case k9 => k_is)
    (case a10 => k_is); (case l10 => k_is); (case q10 => k_is); (case k10 => k_is)
    (case z_all => k_is); (case z_bool => k_is); (case z_int => k_is); (case z_isinstance => k_is); (case z_len => k_is); (case z_list => k_is); (case z_range => k_is); (case z_tuple => k_is); (case z_zip => k_is)
    (case y_MOST_ROWS => k_is)
