import PyProof.Rows.All
import Wide.All
import OpenK.AllK
import Wide.FinOn
import Lean
import PyProof.EqAt
import PyProof.EqKinds
import PyProof.TupleCall
import KE.KSortKey
import KE.KLam
import KE.KRevIter
import PySem.Challenge.RW_rowwright_k13_weights
set_option Elab.async false
set_option linter.all false
set_option maxRecDepth 100000
namespace L2
open PySem PySem.Spec PyProof.Rows
abbrev Key := Sum Int Str
def keyIs : Key → Value → Bool
  | .inl k, v => Value.isInt k v
  | .inr x, v => Value.isStrOf x v
def keyH (w : World) : Key → Int
  | .inl k => hashInt k
  | .inr x => hashStr w x
theorem keyIs_shape : ∀ {k : Key} {v : Value}, keyIs k v = true → (∃ i t, k = Sum.inl i ∧ v = Value.int i t) ∨ (∃ x t, k = Sum.inr x ∧ v = Value.str x t)
  | .inl i, v, h => by
    obtain ⟨t, e⟩ := Value.isInt_shape (k := i) (v := v) h
    exact .inl ⟨i, t, rfl, e⟩
  | .inr x, v, h => by
    obtain ⟨t, e⟩ := Value.isStrOf_shape (x := x) (v := v) h
    exact .inr ⟨x, t, rfl, e⟩
theorem keyIs_int (i : Int) (t : Tok) : keyIs (.inl i) (.int i t) = true := by simp [keyIs, Value.isInt]
theorem keyIs_str (x : Str) (t : Tok) : keyIs (.inr x) (.str x t) = true := by simp [keyIs, Value.isStrOf]
theorem key_ll (a b : Int) : decide ((Sum.inl a : Key) = Sum.inl b) = (a == b) := by
  by_cases e : a = b
  · subst e; simp
  · have h : ¬ (Sum.inl a : Key) = Sum.inl b := fun q => e (Sum.inl.inj q)
    rw [decide_eq_false h]
    exact (beq_eq_false_iff_ne.mpr e).symm
theorem key_rr (a b : Str) : decide ((Sum.inr a : Key) = Sum.inr b) = decide (a = b) := by
  by_cases e : a = b
  · subst e; simp
  · have h : ¬ (Sum.inr a : Key) = Sum.inr b := fun q => e (Sum.inr.inj q)
    rw [decide_eq_false h, decide_eq_false e]
theorem key_lr (a : Int) (b : Str) : decide ((Sum.inl a : Key) = Sum.inr b) = false := decide_eq_false (fun q => nomatch q)
theorem key_rl (a : Str) (b : Int) : decide ((Sum.inr a : Key) = Sum.inl b) = false := decide_eq_false (fun q => nomatch q)
def mixKind (prog : Program) (w : World) : PySem.KeyKind prog w Key where
  is := keyIs
  hash := keyH w
  inj := fun v a b ha hb => by
    rcases keyIs_shape ha with ⟨i, t, rfl, rfl⟩ | ⟨x, t, rfl, rfl⟩
    · rcases keyIs_shape hb with ⟨j, u, rfl, e⟩ | ⟨y, u, rfl, e⟩
      · injection e with e1 _; rw [e1]
      · exact nomatch e
    · rcases keyIs_shape hb with ⟨j, u, rfl, e⟩ | ⟨y, u, rfl, e⟩
      · exact nomatch e
      · injection e with e1 _; rw [e1]
  byValue := fun k v h => by
    rcases keyIs_shape h with ⟨i, t, rfl, rfl⟩ | ⟨x, t, rfl, rfl⟩ <;> rfl
  pyHash := fun hv h => by
    rcases keyIs_shape hv with ⟨i, t, rfl, rfl⟩ | ⟨x, t, rfl, rfl⟩
    · exact wpAny_pyHash_int h
    · exact wpAny_pyHash_str h
  eqBool := fun hu hv h => by
    rcases keyIs_shape hu with ⟨i, t, rfl, rfl⟩ | ⟨x, t, rfl, rfl⟩
    · rcases keyIs_shape hv with ⟨j, u, rfl, rfl⟩ | ⟨y, u, rfl, rfl⟩
      · rw [key_ll] at h; exact wpAny_eqBool_int h
      · rw [key_lr] at h; exact SeqAt.EqAt.int_str i t y u _ _ _ _ h
    · rcases keyIs_shape hv with ⟨j, u, rfl, rfl⟩ | ⟨y, u, rfl, rfl⟩
      · rw [key_rl] at h; exact SeqAt.EqAt.str_int x t j u _ _ _ _ h
      · rw [key_rr] at h; exact wpAny_eqBool_str h
  «strs» := fun k x t v h => by
    rcases keyIs_shape h with ⟨i, u, rfl, e⟩ | ⟨y, u, rfl, e⟩
    · exact nomatch e
    · injection e with e1 _
      subst e1
      cases v <;> rfl
theorem mixKind_int (prog : Program) (w : World) (i : Int) (t : Tok) : (mixKind prog w).is (.inl i) (.int i t) = true := keyIs_int i t
theorem mixKind_str (prog : Program) (w : World) (x : Str) (t : Tok) : (mixKind prog w).is (.inr x) (.str x t) = true := keyIs_str x t
end L2
namespace L2
open PySem PySem.Spec PyProof.Rows
inductive V where
  | non | bl (b : Bool) | int (i : Int) | str (x : Str) | byt (b : Array UInt8) | flt (b : UInt64) | ref (a : Addr) | ty (n : String)
  deriving DecidableEq
def RelV : V → Value → Prop
  | .non, u => u = Value.none
  | .bl b, u => u = Value.bool b
  | .int i, u => ∃ t, u = Value.int i t
  | .str x, u => ∃ t, u = Value.str x t
  | .byt b, u => ∃ t, u = Value.bytes b t
  | .flt b, u => ∃ t, u = Value.float b t
  | .ref a, u => u = Value.ref a
  | .ty n, u => u = Value.type n
abbrev Vals : List V → List Value → Prop := Paired RelV
theorem Vals.length {xs : List V} {us : List Value} (r : Vals xs us) : xs.length = us.length := Paired.length r
theorem Vals.get : ∀ {xs : List V} {us : List Value} {i : Nat} {x : V}, Vals xs us → xs[i]? = some x → ∃ u, us[i]? = some u ∧ RelV x u
  | _, _, _, _, .nil, e => by simp at e
  | _, _, 0, _, .cons r _, e => by simp at e; subst e; exact ⟨_, rfl, r⟩
  | _, _, i + 1, x, .cons _ t, e => by
    obtain ⟨u, h1, h2⟩ := Vals.get (i := i) (x := x) t (by simpa using e)
    exact ⟨u, by simpa using h1, h2⟩
theorem Vals.set {x : V} {u : Value} (r : RelV x u) : ∀ {xs : List V} {us : List Value} (i : Nat), Vals xs us → Vals (xs.set i x) (us.set i u)
  | _, _, _, .nil => .nil
  | _, _, 0, .cons _ t => .cons r t
  | _, _, i + 1, .cons q t => .cons q (Vals.set r i t)
theorem Vals.append : ∀ {xs ys : List V} {us ws : List Value}, Vals xs us → Vals ys ws → Vals (xs ++ ys) (us ++ ws)
  | _, _, _, _, .nil, s => s
  | _, _, _, _, .cons r t, s => .cons r (Vals.append t s)
theorem Vals.take : ∀ {xs : List V} {us : List Value} (n : Nat), Vals xs us → Vals (xs.take n) (us.take n)
  | _, _, 0, _ => .nil
  | _, _, _ + 1, .nil => .nil
  | _, _, n + 1, .cons r t => .cons r (Vals.take n t)
theorem Vals.drop : ∀ {xs : List V} {us : List Value} (n : Nat), Vals xs us → Vals (xs.drop n) (us.drop n)
  | _, _, 0, r => r
  | _, _, _ + 1, .nil => .nil
  | _, _, n + 1, .cons _ t => Vals.drop n t
def RelO : Option V → Option Value → Prop
  | some v, some u => RelV v u
  | none, none => True
  | _, _ => False
def KV {κ : Type} : List (κ × V) → List (κ × Value) → Prop := Paired fun (p : κ × V) (q : κ × Value) => p.1 = q.1 ∧ RelV p.2 q.2
def kV : Key → V
  | .inl i => .int i
  | .inr x => .str x
inductive HO where
  | lst (xs : List V)
  | tup (xs : List V)
  | dK (kvs : List (Key × V)) | dT (kvs : List (List Key × V))
  | set (S : Int → Bool) (n : Nat)
  | ins (C dx : Addr) (fs : List (Str × V))
  | own (x : Addr)
  | xd (fs : List (Str × V))
  | met (f x : Addr)
  | rng (lo hi : Int)
  | frz (o : Obj) (u : HO)
  | tbl (ps : Array Value)
  | lam (q : Str)
  | ext (φ : Heap → Prop)
abbrev Hp := Addr → Option HO
def upd (H : Hp) (a : Addr) (o : HO) : Hp := fun b => if b = a then some o else H b
theorem upd_same {H : Hp} {a : Addr} {o : HO} : upd H a o a = some o := by unfold upd; rw [if_pos rfl]
theorem upd_ne {H : Hp} {a b : Addr} {o : HO} (h : b ≠ a) : upd H a o b = H b := by unfold upd; rw [if_neg h]
theorem ne_of {H : Hp} {a b : Addr} {o u : HO} (h : H a = some o) (h' : H b = some u) (d : o ≠ u) : a ≠ b := by
  intro e; subst e; rw [h] at h'; exact d (Option.some.inj h')
theorem ne_of_none {H : Hp} {a b : Addr} {o : HO} (h : H a = some o) (h' : H b = none) : a ≠ b := by
  intro e; subst e; rw [h] at h'; cases h'
section
variable (P : Program) (w : World)
def ObjOk (H : Hp) (h : Heap) (a : Addr) : HO → Prop
  | .lst xs => xs.length ≤ sizeLine ∧ ∃ (its : List Value) (n : Nat), Vals xs its ∧ h.get? a = some { cls := .type "list", data := .seq its.toArray n }
  | .tup xs => xs.length ≤ sizeLine ∧ ∃ its : List Value, Vals xs its ∧ IsTup h a its.toArray
  | .dK kvs => kvs.length ≤ sizeLine ∧ (a == sysModules) = false ∧ ∃ vs, KV kvs vs ∧ h.DictOf (mixKind P w) a vs
  | .dT kvs => kvs.length ≤ sizeLine ∧ (a == sysModules) = false ∧ ∃ xs : List (List Key × Addr × Value),
      Paired (fun (p : List Key × V) (q : List Key × Addr × Value) => p.1 = q.1 ∧ H q.2.1 = some (.tup (p.1.map kV)) ∧ RelV p.2 q.2.2) kvs xs ∧
      ∃ o es ep, h.get? a = some o ∧ o.ExactDict ∧ o.data = .dict es ep ∧ es.toList = xs.map (entryOfKey (tupleKind (mixKind P w))) ∧ (xs.map (·.1)).Nodup
  | .set S n => h.SetOf (intKind P w) a S n
  | .ins C dx fs => H dx = some (.own a) ∧ fs.length ≤ 1000 ∧ dx ≠ a ∧ h.get? a = some (PySem.W.instObj C dx) ∧
      ∃ mA, h.Ns1 dx mA ∧ (∀ f, RelO (fs.lookup f) (mA f)) ∧ PySem.Within mA (fs.map (·.1))
  | .own _ => ∃ o, h.get? a = some o
  | .xd fs => ∃ mA, h.Ns1 a mA ∧ ∀ f, RelO (fs.lookup f) (mA f)
  | .rng lo hi => ∃ t u v, h.get? a = some { cls := .type "range", data := .fields #[.int lo t, .int hi u, .int 1 v] }
  | .frz o u => h.get? a = some o ∧ ObjOk H h a u
  | .tbl ps => h.get? a = some { cls := .none, data := .fields ps }
  | .lam q => ∃ ps : Array Value, h.get? a = some { cls := .none, data := .fields ps } ∧ TriplesOk ps.toList ∧ ∀ (pos : Pos) (c : Value), codeAmong pos ps.toList = some c → ∃ (c' : Addr) (o : Obj) (u : HO) (vs : Array Value) (t : Tok), c = .ref c' ∧ H c' = some (.frz o u) ∧ o.data = .fields vs ∧ vs[1]? = some (.str q t)
  | .met f x => h.get? a = some (PySem.W.methodObj (.ref f) (.ref x))
  | .ext φ => φ h ∧ (∃ o, h.get? a = some o) ∧ ∀ h1 h2 : Heap, φ h1 → (∀ o, h1.get? a = some o → h2.get? a = some o) → φ h2
def HOk (H : Hp) (h : Heap) : Prop := ∀ a o, H a = some o → ObjOk P w H h a o
end
section
variable {P : Program} {w : World} {H H' : Hp} {h h' : Heap} {a : Addr} {o : HO}
theorem ObjOk.lt (x : ObjOk P w H h a o) : a < h.objs.size := by
  cases o with
  | lst xs => obtain ⟨_, _, _, _, e⟩ := x; exact Heap.lt_size e
  | tup xs => obtain ⟨_, _, _, p⟩ := x; exact p.lt
  | dK kvs => obtain ⟨_, _, _, _, o, _, _, e, _⟩ := x; exact Heap.lt_size e
  | dT kvs => obtain ⟨_, _, _, _, o, _, _, e, _⟩ := x; exact Heap.lt_size e
  | set S n => obtain ⟨o, _, _, _, e, _⟩ := x; exact Heap.lt_size e
  | ins C dx fs => obtain ⟨_, _, _, e, _⟩ := x; exact Heap.lt_size e
  | own y => obtain ⟨_, e⟩ := x; exact Heap.lt_size e
  | xd fs => obtain ⟨_, ⟨_, _, _, e, _⟩, _⟩ := x; exact Heap.lt_size e
  | rng lo hi => obtain ⟨_, _, _, e⟩ := x; exact Heap.lt_size e
  | frz ob u => obtain ⟨e, _⟩ := x; exact Heap.lt_size e
  | tbl ps => exact Heap.lt_size (show h.get? a = some _ from x)
  | lam q => obtain ⟨_, e, _⟩ := x; exact Heap.lt_size e
  | met f y => exact Heap.lt_size (show h.get? a = some _ from x)
  | ext φ => obtain ⟨_, ⟨_, e⟩, _⟩ := x; exact Heap.lt_size e
theorem Paired.mapP {α β : Type} {F G : α → β → Prop} : ∀ {l₁ : List α} {l₂ : List β}, Paired F l₁ l₂ → (∀ a b, F a b → G a b) → Paired G l₁ l₂
  | _, _, .nil, _ => .nil
  | _, _, .cons r t, f => .cons (f _ _ r) (Paired.mapP t f)
theorem ObjOk.stay (x : ObjOk P w H h a o) (k : ∀ b u, (b = a ∨ H b = some (.own a)) → h.get? b = some u → h'.get? b = some u)
    (ho : ∀ b, H b = some (.own a) → H' b = some (.own a)) (ht : ∀ b xs, H b = some (.tup xs) → H' b = some (.tup xs)) (hfz : ∀ b o u, H b = some (.frz o u) → H' b = some (.frz o u)) : ObjOk P w H' h' a o := by
  induction o with
  | lst xs => obtain ⟨z, its, n, r, e⟩ := x; exact ⟨z, its, n, r, k _ _ (.inl rfl) e⟩
  | tup xs => obtain ⟨z, its, r, ob, e, c⟩ := x; exact ⟨z, its, r, ob, k _ _ (.inl rfl) e, c⟩
  | dK kvs => obtain ⟨z, y, vs, r, ob, es, ep, e, c⟩ := x; exact ⟨z, y, vs, r, ob, es, ep, k _ _ (.inl rfl) e, c⟩
  | dT kvs =>
    obtain ⟨z, y, xs, r, ob, es, ep, e, c⟩ := x
    exact ⟨z, y, xs, Paired.mapP r fun p q z => ⟨z.1, ht _ _ z.2.1, z.2.2⟩, ob, es, ep, k _ _ (.inl rfl) e, c⟩
  | set S n => obtain ⟨ob, es, ep, t, e, c⟩ := x; exact ⟨ob, es, ep, t, k _ _ (.inl rfl) e, c⟩
  | ins C dx fs =>
    obtain ⟨d, z, ne, e, mA, ⟨od, es, ep, e2, c⟩, r⟩ := x
    exact ⟨ho _ d, z, ne, k _ _ (.inl rfl) e, mA, ⟨od, es, ep, k _ _ (.inr d) e2, c⟩, r⟩
  | own y => obtain ⟨ob, e⟩ := x; exact ⟨ob, k _ _ (.inl rfl) e⟩
  | xd fs => obtain ⟨mA, ⟨od, es, ep, e, c⟩, r⟩ := x; exact ⟨mA, ⟨od, es, ep, k _ _ (.inl rfl) e, c⟩, r⟩
  | rng lo hi => obtain ⟨t, u, v, e⟩ := x; exact ⟨t, u, v, k _ _ (.inl rfl) e⟩
  | frz ob u ih => obtain ⟨e, q⟩ := x; exact ⟨k _ _ (.inl rfl) e, ih q⟩
  | lam q => obtain ⟨ps, e, t, z⟩ := x; exact ⟨ps, k _ _ (.inl rfl) e, t, fun pos c hc => let ⟨c', o, u, vs, tt, e1, e2, e3⟩ := z pos c hc; ⟨c', o, u, vs, tt, e1, hfz _ _ _ e2, e3⟩⟩
  | tbl ps =>
    have e : h.get? a = some { cls := .none, data := .fields ps } := x
    show h'.get? a = some { cls := .none, data := .fields ps }
    exact k a _ (.inl rfl) e
  | met f y =>
    have e : h.get? a = some (PySem.W.methodObj (.ref f) (.ref y)) := x
    show h'.get? a = some (PySem.W.methodObj (.ref f) (.ref y))
    exact k a _ (.inl rfl) e
  | ext φ => obtain ⟨p, ⟨o, e⟩, st⟩ := x; exact ⟨st _ _ p fun o q => k _ _ (.inl rfl) q, ⟨o, k _ _ (.inl rfl) e⟩, st⟩
theorem HOk.lt (x : HOk P w H h) (e : H a = some o) : a < h.objs.size := (x a o e).lt
theorem HOk.fresh (x : HOk P w H h) (e : h.objs.size ≤ a) : H a = none := by
  cases q : H a with
  | none => rfl
  | some u => exact absurd (Nat.lt_of_lt_of_le (x.lt q) e) (Nat.lt_irrefl _)
theorem HOk.kept (x : HOk P w H h) (k : ∀ b u, h.get? b = some u → h'.get? b = some u) : HOk P w H h' := fun a o e =>
  (x a o e).stay (fun b u _ q => k b u q) (fun _ q => q) (fun _ _ q => q) fun _ _ _ q => q
theorem HOk.laid (x : HOk P w H h) (k : ∀ b u, h.get? b = some u → h'.get? b = some u) (hp : h.objs.size ≤ a) (new : ObjOk P w (upd H a o) h' a o) : HOk P w (upd H a o) h' := fun b u e => by
  have hn := x.fresh hp
  by_cases hb : b = a
  · subst hb; rw [upd_same] at e; cases e; exact new
  · rw [upd_ne hb] at e
    exact (x b u e).stay (fun c v _ q => k c v q) (fun c q => by rw [upd_ne (ne_of_none q hn)]; exact q) (fun c xs q => by rw [upd_ne (ne_of_none q hn)]; exact q) fun c ob uu q => by rw [upd_ne (ne_of_none q hn)]; exact q
end
def Rd (H : Hp) (a : Addr) (u : HO) : Prop := H a = some u ∨ ∃ o, H a = some (.frz o u)
theorem Rd.of {H : Hp} {a : Addr} {u : HO} (h : H a = some u) : Rd H a u := .inl h
theorem Rd.ok {P : Program} {w : World} {H : Hp} {h : Heap} {a : Addr} {u : HO} (r : Rd H a u) (x : HOk P w H h) : ObjOk P w H h a u := by
  rcases r with r | ⟨o, r⟩
  · exact x a u r
  · obtain ⟨_, q⟩ := x a _ r
    exact q
def Mut : Option HO → Prop
  | some (.lst _) => True
  | some (.dK _) => True
  | some (.dT _) => True
  | some (.set _ _) => True
  | some (.ins _ _ _) => True
  | some (.ext _) => True
  | some (.lam _) => True
  | _ => False
section
variable {P : Program} {w : World} {H : Hp} {h h' : Heap} {x e : Addr} {o' : HO}
theorem HOk.write (ok : HOk P w H h) (mu : Mut (H x)) (he : e = x ∨ H e = some (.own x)) (k : ∀ b u, b ≠ e → h.get? b = some u → h'.get? b = some u) (heo : ∃ u, h'.get? e = some u)
    (new : ObjOk P w (upd H x o') h' x o') : HOk P w (upd H x o') h' := fun b u q => by
  have nown : ∀ c y, H c = some (.own y) → c ≠ x := fun c y r z => by subst z; rw [r] at mu; exact mu
  have ntup : ∀ c xs, H c = some (.tup xs) → c ≠ x := fun c xs r z => by subst z; rw [r] at mu; exact mu
  have nfrz : ∀ c ob uu, H c = some (.frz ob uu) → c ≠ x := fun c ob uu r z => by subst z; rw [r] at mu; exact mu
  by_cases hb : b = x
  · subst hb; rw [upd_same] at q; cases q; exact new
  · rw [upd_ne hb] at q
    by_cases hbe : b = e
    · have q' : H b = some (.own x) := by
        rcases he with z | z
        · exact absurd (hbe.trans z) hb
        · rw [hbe]; exact z
      rw [q] at q'; cases q'
      obtain ⟨v, hv⟩ := heo
      exact ⟨v, by rw [hbe]; exact hv⟩
    · refine (ok b u q).stay (fun c v hc r => k c v ?_ r) (fun c r => by rw [upd_ne (nown c b r)]; exact r) (fun c xs r => by rw [upd_ne (ntup c xs r)]; exact r) fun c ob uu r => by rw [upd_ne (nfrz c ob uu r)]; exact r
      rcases hc with rfl | hc
      · exact hbe
      · rintro rfl
        rcases he with z | z
        · exact nown c b hc z
        · rw [hc] at z; cases z; exact hb rfl
end
structure Un (fs ex : List Addr) (H H' : Hp) (h h' : Heap) : Prop where
  keep : ∀ b o, h.get? b = some o → H b = none → b ∉ fs → b ∉ ex → h'.get? b = some o
  slot : ∀ b o, h.get? b = some o → H b = none → b ∈ fs → b ∉ ex → ∃ sl, h'.get? b = some { o with slots := sl }
  free : ∀ b o, h.get? b = some o → H b = none → b ∉ ex → H' b = none
  there : ∀ b o, h.get? b = some o → b ∉ ex → ∃ o', h'.get? b = some o'
  tups : ∀ b xs, H b = some (.tup xs) → H' b = some (.tup xs)
  frzs : ∀ b o u, H b = some (.frz o u) → H' b = some (.frz o u)
  tbls : ∀ b ps, H b = some (.tbl ps) → ∃ more, H' b = some (.tbl (ps ++ more))
section
variable {fs fs' ex ex' : List Addr} {H H1 H2 : Hp} {h h1 h2 h' : Heap} {a x e : Addr} {o : HO}
theorem Un.any (u : Un fs ex H H1 h h1) {b : Addr} {ob : Obj} (q : h.get? b = some ob) (n : H b = none) (hx : b ∉ ex) : ∃ sl, h1.get? b = some { ob with slots := sl } := by
  by_cases hb : b ∈ fs
  · exact u.slot b ob q n hb hx
  · exact ⟨ob.slots, u.keep b ob q n hb hx⟩
theorem Un.trans (a : Un fs ex H H1 h h1) (b : Un fs ex H1 H2 h1 h2) : Un fs ex H H2 h h2 where
  keep := fun c ob q n hc hx => b.keep c ob (a.keep c ob q n hc hx) (a.free c ob q n hx) hc hx
  slot := fun c ob q n hc hx => by
    obtain ⟨sl, e1⟩ := a.slot c ob q n hc hx
    obtain ⟨sl', e2⟩ := b.slot c _ e1 (a.free c ob q n hx) hc hx
    exact ⟨sl', e2⟩
  free := fun c ob q n hx => by
    obtain ⟨o', e1⟩ := a.there c ob q hx
    exact b.free c o' e1 (a.free c ob q n hx) hx
  there := fun c ob q hx => by
    obtain ⟨o', e1⟩ := a.there c ob q hx
    exact b.there c o' e1 hx
  tups := fun c xs q => b.tups c xs (a.tups c xs q)
  frzs := fun c ob xs q => b.frzs c ob xs (a.frzs c ob xs q)
  tbls := fun c ps q => by
    obtain ⟨m1, e1⟩ := a.tbls c ps q
    obtain ⟨m2, e2⟩ := b.tbls c _ e1
    exact ⟨m1 ++ m2, by rw [e2, Array.append_assoc]⟩
theorem Un.kept (k : ∀ b u, h.get? b = some u → h'.get? b = some u) : Un fs ex H H h h' :=
  ⟨fun b ob q _ _ _ => k b ob q, fun b ob q _ _ _ => ⟨ob.slots, k b ob q⟩, fun _ _ _ n _ => n, fun b ob q _ => ⟨ob, k b ob q⟩, fun _ _ q => q, fun _ _ _ q => q, fun _ ps q => ⟨#[], by rw [q]; simp⟩⟩
theorem Un.refl : Un fs ex H H h h := Un.kept fun _ _ q => q
theorem Un.laid (k : ∀ b u, h.get? b = some u → h'.get? b = some u) (hp : h.objs.size ≤ a) (hn : H a = none) : Un fs ex H (upd H a o) h h' where
  keep := fun b u q _ _ _ => k b u q
  slot := fun b u q _ _ _ => ⟨u.slots, k b u q⟩
  free := fun b u q n _ => by rw [upd_ne (Nat.ne_of_lt (Nat.lt_of_lt_of_le (Heap.lt_size q) hp))]; exact n
  there := fun b u q _ => ⟨u, k b u q⟩
  tups := fun b xs q => by rw [upd_ne (ne_of_none q hn)]; exact q
  frzs := fun b u xs q => by rw [upd_ne (ne_of_none q hn)]; exact q
  tbls := fun b ps q => ⟨#[], by rw [upd_ne (ne_of_none q hn), q]; simp⟩
theorem Un.write (mu : Mut (H x)) (he : e = x ∨ H e = some (.own x)) (k : ∀ b u, b ≠ e → h.get? b = some u → h'.get? b = some u) (heo : ∃ u, h'.get? e = some u) : Un fs ex H (upd H x o) h h' := by
  have hx : ∀ b, H b = none → b ≠ x := fun b n z => by subst z; rw [n] at mu; exact mu
  have hb : ∀ b, H b = none → b ≠ e := fun b n z => by
    subst z
    rcases he with r | r
    · exact hx b n r
    · rw [n] at r; cases r
  have hm : ∀ b u, H b = some u → ¬ Mut (some u) → b ≠ x := fun b u q nm z => by subst z; rw [q] at mu; exact nm mu
  refine ⟨fun b u q n _ _ => k b u (hb b n) q, fun b u q n _ _ => ⟨u.slots, k b u (hb b n) q⟩, fun b u q n _ => by rw [upd_ne (hx b n)]; exact n, fun b u q _ => ?_,
    fun b xs q => by rw [upd_ne (hm b _ q fun z => z)]; exact q, fun b u xs q => by rw [upd_ne (hm b _ q fun z => z)]; exact q, fun b ps q => ⟨#[], by rw [upd_ne (hm b _ q fun z => z), q]; simp⟩⟩
  by_cases hbe : b = e
  · subst hbe; exact heo
  · exact ⟨u, k b u hbe q⟩
theorem Un.mono (u : Un fs ex H H1 h h1) (hs : ∀ b ∈ fs, b ∈ fs') (hx : ∀ b ∈ ex, b ∈ ex') : Un fs' ex' H H1 h h1 :=
  ⟨fun b ob q n hb he => u.keep b ob q n (fun z => hb (hs b z)) fun z => he (hx b z), fun _ _ q n _ he => u.any q n fun z => he (hx _ z), fun b ob q n he => u.free b ob q n fun z => he (hx b z), fun b ob q he => u.there b ob q fun z => he (hx b z), u.tups, u.frzs, u.tbls⟩
end
def trk (h : Heap) (H : Hp) : List Addr := (List.range h.objs.size).filter fun a => (H a).isSome
def hidT (h : Heap) (H : Hp) : Heap := PySem.W.hideAll h (trk h H)
theorem hidT_size (h : Heap) (H : Hp) : (hidT h H).objs.size = h.objs.size := PySem.W.hideAll_size _ _
theorem hidT_get {h : Heap} {H : Hp} {b : Addr} {o : Obj} (e : h.get? b = some o) (n : H b = none) : (hidT h H).get? b = some o :=
  PySem.W.hideAll_get _ e fun hm => by
    have q : (H b).isSome = true := (List.mem_filter.mp hm).2
    rw [n] at q; simp at q
theorem of_hidT {h : Heap} {H : Hp} {b : Addr} {o : Obj} (e : (hidT h H).get? b = some o) : h.get? b = some o ∧ H b = none := by
  have e' : h.get? b = some o := PySem.W.of_hideAll (trk h H) e
  refine ⟨e', ?_⟩
  cases q : H b with
  | none => rfl
  | some x =>
    have hm : b ∈ trk h H := List.mem_filter.mpr ⟨List.mem_range.mpr (Heap.lt_size e'), by simp [q]⟩
    have z : (hidT h H).get? b = none := PySem.W.hideAll_none (trk h H) hm
    rw [z] at e; cases e
def allNews (g h : Heap) (L : Addr) : List (Addr × Obj) := (List.range h.objs.size).filterMap fun a => if a = L ∨ (g.get? a).isSome = true then none else (h.get? a).map fun o => (a, o)
def rest (g h : Heap) (L d : Addr) : List (Addr × Obj) := (allNews g h L).filter fun p => decide (p.1 ≠ d)
end L2
namespace L2
open PySem PySem.Spec PyProof.Rows
def lamDefs : List Str := ["gathered"]
def lamQ (x : Str) : Str := (x ++ ".<locals>.") ++ "<lambda>"
structure Mod (K : PySem.W.Frag) (mg : Str → Option Value) (base : Heap) : Prop where
  kin : K.In base
  glob : base.Ns mainGlobals mg
  blt : ∃ mb, base.Ns builtinsNs mb ∧ ∀ x : Str, x ≠ "__name__" → mb x = bootBuiltins x
  nolimit : base.NoLimit
  bmain : ∃ bm ob, mg "__builtins__" = some (.ref bm) ∧ bm ≠ builtinsNs ∧ base.get? bm = some ob ∧ ob.cls = .type "module" ∧ ob.dict = some builtinsNs ∧ ob.data = .plain
  lam : ∀ x ∈ lamDefs, ∀ c P, PySem.W.tabIn K x = some (c, P) → PySem.W.CodeHd base c P
  seer : base.NoSeer
structure Cx where
  prog : Program
  w : World
  K : PySem.W.Frag
  mg : Str → Option Value
  base : Heap
  A : Around
  N : List Str
  s₀ : Shared
  H₀ : Hp
  env : Env
  outer : List Env
  stack : List Env
  ex : List Addr
  fn : Str → Bool
  calm : Bool
  pn : List (Addr × Obj)
  xe : Value → Shared → Prop
def frs (l : List Env) : List Addr := l.filterMap (·.frame)
abbrev Cx.fs (X : Cx) : List Addr := frs X.outer
def Vis (sc : Scope) (x : Str) : Prop := sc.names.lookup x = some .local ∨ sc.names.lookup x = some .cell ∨ sc.names.lookup x = some .free
def Loc (sc : Scope) (x : Str) : Prop := sc.names.lookup x = some .local ∨ sc.names.lookup x = some .cell
def Look (env : Env) (h : Heap) (m : Str → Option Value) (x : Str) (u : Value) : Prop :=
  (env.kindOf x = some .local ∧ m x = some u) ∨ ((env.kindOf x = some .cell ∨ env.kindOf x = some .free) ∧ ∃ c, env.cells.lookup x = some c ∧ h.IsCell c (some u))
structure Cx.Ok (X : Cx) : Prop where
  mod : Mod X.K X.mg X.base
  kind : X.env.scope.kind = .function
  glob : X.env.globals = mainGlobals
  blt : X.env.builtins = builtinsNs
  above : X.s₀.heap.objs.size ≤ X.env.locals
  inj : ∀ x y c, X.env.cells.lookup x = some c → X.env.cells.lookup y = some c → x = y
  has : ∀ x, (X.env.kindOf x = some .cell ∨ X.env.kindOf x = some .free) → ∃ c, X.env.cells.lookup x = some c
  cab : ∀ x c, X.fn x = true → X.env.cells.lookup x = some c → X.s₀.heap.objs.size ≤ c
  hd : X.calm = true → X.A.handled = none
  frames : X.A.frames = some X.stack
  stk : X.stack = X.outer ∨ (X.stack = X.env :: X.outer ∧ X.env.frame = some X.env.locals)
  exf : ∀ b ∈ X.ex, b ≠ X.env.locals ∧ ∀ x c, X.env.cells.lookup x = some c → c ≠ b
  bs : ∀ b o, X.base.get? b = some o → X.s₀.heap.get? b = some o ∧ X.H₀ b = none
  bsz : X.base.objs.size ≤ X.s₀.heap.objs.size
  noex : ∀ b o, X.base.get? b = some o → b ∉ X.ex
  exfs : ∀ b ∈ X.ex, b ∉ X.fs
  funs : X.s₀.heap.FunFrames X.base X.outer
  frf : ∀ b ∈ X.fs, X.H₀ b = none
structure Inv (X : Cx) (pins : List (Addr × Obj)) (σ : List (Option V)) (H : Hp) (s : Shared) : Prop where
  ok : X.Ok
  os : s.os = X.s₀.os
  bare : AllBare s.gens
  base : Un X.fs X.ex X.H₀ H X.s₀.heap s.heap
  loc : ∃ m, s.heap.Ns X.env.locals m ∧ ∀ (i : Nat) (x : Str) (v : V), X.N[i]? = some x → σ[i]? = some (some v) → Vis X.env.scope x → ∃ u, RelV v u ∧ Look X.env s.heap m x u
  cell : ∀ x c, X.env.cells.lookup x = some c → ∃ v, s.heap.IsCell c v
  free : H X.env.locals = none
  freeC : ∀ x c, X.env.cells.lookup x = some c → H c = none
  pin : ∀ p ∈ X.pn ++ pins, s.heap.get? p.1 = some p.2 ∧ H p.1 = none ∧ p.1 ≠ X.env.locals ∧ p.1 ∉ X.fs ∧ ∀ v, p.2.data ≠ .cell v
  hok : HOk X.prog X.w H s.heap
  len : σ.length = X.N.length
section
variable {X : Cx} {pins : List (Addr × Obj)} {σ : List (Option V)} {H H' : Hp} {s : Shared} {h' : Heap}
theorem Cx.Ok.nofr (ok : X.Ok) {b : Addr} {o : Obj} (e : X.base.get? b = some o) : b ∉ X.fs := fun hb => by
  have := (ok.funs.mem hb).1
  rw [e] at this; cases this
theorem Inv.bs (I : Inv X pins σ H s) : ∀ b o, X.base.get? b = some o → s.heap.get? b = some o ∧ H b = none := fun b o e =>
  ⟨I.base.keep b o (I.ok.bs b o e).1 (I.ok.bs b o e).2 (I.ok.nofr e) (I.ok.noex b o e), I.base.free b o (I.ok.bs b o e).1 (I.ok.bs b o e).2 (I.ok.noex b o e)⟩
theorem Inv.bk (I : Inv X pins σ H s) : ∀ b o, X.base.get? b = some o → s.heap.get? b = some o := fun b o e => (I.bs b o e).1
theorem Inv.mod (I : Inv X pins σ H s) : Mod X.K X.mg X.base := I.ok.mod
theorem Inv.kIn (I : Inv X pins σ H s) : X.K.In s.heap := I.ok.mod.kin.keeps I.bk
theorem Inv.nolimit (I : Inv X pins σ H s) : s.heap.NoLimit := I.ok.mod.nolimit.keeps I.bk
theorem Inv.lt (I : Inv X pins σ H s) : X.env.locals < s.heap.objs.size := let ⟨_, hn, _⟩ := I.loc; hn.lt
theorem Inv.sz (I : Inv X pins σ H s) : X.s₀.heap.objs.size ≤ s.heap.objs.size := Nat.le_trans I.ok.above (Nat.le_of_lt I.lt)
theorem Inv.nofs (I : Inv X pins σ H s) {a : Addr} (h : s.heap.objs.size ≤ a) : a ∉ X.fs := fun hb => by
  obtain ⟨_, o, ho, _⟩ := I.ok.funs.mem hb
  exact absurd (Nat.lt_of_lt_of_le (Heap.lt_size ho) (Nat.le_trans I.sz h)) (Nat.lt_irrefl _)
theorem Inv.cne (I : Inv X pins σ H s) : ∀ x c, X.env.cells.lookup x = some c → c ≠ X.env.locals := fun x c e z => by
  obtain ⟨v, o, ho, hd⟩ := I.cell x c e
  obtain ⟨m, ⟨o', es, ep, ho', hd', _⟩, _⟩ := I.loc
  rw [z, ho'] at ho; cases ho; rw [hd'] at hd; cases hd
theorem Inv.funs (I : Inv X pins σ H s) : s.heap.FunFrames X.base X.outer := by
  have all : ∀ (l : List Env), (∀ b ∈ frs l, b ∈ X.fs) → X.s₀.heap.FunFrames X.base l → s.heap.FunFrames X.base l := by
    intro l
    induction l with
    | nil => intro _ _; trivial
    | cons env r ih =>
      intro hs hl
      obtain ⟨hk, ⟨L, o, hf, hn, ho, hd⟩, hr⟩ := hl
      have hL : L ∈ X.fs := hs L (by unfold frs; rw [List.filterMap_cons, hf]; exact List.mem_cons_self)
      obtain ⟨sl, e⟩ := I.base.slot L o ho (I.ok.frf L hL) hL fun z => I.ok.exfs L z hL
      exact ⟨hk, ⟨L, _, hf, hn, e, hd⟩, ih (fun b hb => hs b (by unfold frs; rw [List.filterMap_cons, hf]; exact List.mem_cons_of_mem _ hb)) hr⟩
  exact all X.outer (fun _ hb => hb) I.ok.funs
theorem Inv.stack (I : Inv X pins σ H s) : s.heap.FunFrames X.base X.stack := by
  rcases I.ok.stk with e | ⟨e, hf⟩
  · rw [e]; exact I.funs
  · rw [e]
    obtain ⟨m, hn, _⟩ := I.loc
    refine .cons (by rw [I.ok.kind]; decide) hf hn ?_ I.funs
    exact Heap.get?_none_of_le (Nat.le_trans I.ok.bsz I.ok.above)
theorem Inv.stkSub (I : Inv X pins σ H s) : ∀ b ∈ frs X.stack, b ∈ X.env.locals :: X.fs := fun b hb => by
  rcases I.ok.stk with e | ⟨e, hf⟩
  · rw [e] at hb; exact List.mem_cons_of_mem _ hb
  · rw [e] at hb
    unfold frs at hb
    rw [List.filterMap_cons, hf] at hb
    exact hb
theorem Inv.stkFree (I : Inv X pins σ H s) : ∀ b ∈ frs X.stack, H b = none := fun b hb => by
  rcases List.mem_cons.mp (I.stkSub b hb) with e | hb
  · rw [e]; exact I.free
  · obtain ⟨_, o, ho, _⟩ := I.ok.funs.mem hb
    exact I.base.free b o ho (I.ok.frf b hb) fun z => I.ok.exfs b z hb
theorem Inv.step {g' : Array GenState} {t' : Nat} {d' : Drawn} {ch : List Addr} (I : Inv X pins σ H s)
    (hch : ∀ b ∈ ch, (b ∈ X.ex ∨ X.s₀.heap.objs.size ≤ b) ∧ b ≠ X.env.locals ∧ (∀ x c, X.env.cells.lookup x = some c → c ≠ b) ∧ ∀ p ∈ X.pn ++ pins, p.1 ≠ b)
    (keep : ∀ b o, b ≠ X.env.locals → b ∉ X.fs → b ∉ ch → s.heap.get? b = some o → H b = none → h'.get? b = some o)
    (slot : ∀ b o, b ≠ X.env.locals → b ∈ X.fs → b ∉ ch → s.heap.get? b = some o → H b = none → ∃ sl, h'.get? b = some { o with slots := sl }) (free : ∀ b o, b ∉ ch → s.heap.get? b = some o → H b = none → H' b = none)
    (there : ∀ b o, b ∉ ch → s.heap.get? b = some o → ∃ o', h'.get? b = some o')
    (tups : ∀ b xs, H b = some (.tup xs) → H' b = some (.tup xs)) (frzs : ∀ b o u, H b = some (.frz o u) → H' b = some (.frz o u)) (tbls : ∀ b ps, H b = some (.tbl ps) → ∃ more, H' b = some (.tbl (ps ++ more)))
    (ns : ∀ m, s.heap.Ns X.env.locals m → h'.Ns X.env.locals m) (hok : HOk X.prog X.w H' h') (hg : AllBare g') :
    Inv X pins σ H' { s with heap := h', gens := g', drawn := d', toks := t' } := by
  have neL : ∀ b o, X.s₀.heap.get? b = some o → b ≠ X.env.locals := fun b o e => Nat.ne_of_lt (Nat.lt_of_lt_of_le (Heap.lt_size e) I.ok.above)
  have neC : ∀ b o, X.s₀.heap.get? b = some o → b ∉ X.ex → b ∉ ch := fun b o e hx hb => by
    rcases (hch b hb).1 with z | z
    · exact hx z
    · exact absurd (Nat.lt_of_lt_of_le (Heap.lt_size e) z) (Nat.lt_irrefl _)
  have cellK : ∀ x c, X.env.cells.lookup x = some c → ∀ v, s.heap.IsCell c v → h'.IsCell c v := fun x c e v ⟨o, ho, hd⟩ => by
    have nch : c ∉ ch := fun z => (hch c z).2.2.1 x c e rfl
    by_cases hc : c ∈ X.fs
    · obtain ⟨sl, q⟩ := slot c o (I.cne x c e) hc nch ho (I.freeC x c e)
      exact ⟨_, q, hd⟩
    · exact ⟨o, keep c o (I.cne x c e) hc nch ho (I.freeC x c e), hd⟩
  refine ⟨I.ok, I.os, hg, ⟨fun b o e n hb hx => ?_, fun b o e n hb hx => ?_, fun b o e n hx => ?_, fun b o e hx => ?_, fun b xs e => tups b xs (I.base.tups b xs e), fun b o xs e => frzs b o xs (I.base.frzs b o xs e), fun b ps e => ?_⟩, ?_, fun x c e => ?_, ?_, fun x c e => ?_, fun p hp => ?_, hok, I.len⟩
  · exact keep b o (neL b o e) hb (neC b o e hx) (I.base.keep b o e n hb hx) (I.base.free b o e n hx)
  · obtain ⟨sl, e1⟩ := I.base.slot b o e n hb hx
    obtain ⟨sl', e2⟩ := slot b _ (neL b o e) hb (neC b o e hx) e1 (I.base.free b o e n hx)
    exact ⟨sl', e2⟩
  · obtain ⟨o', e1⟩ := I.base.there b o e hx
    exact free b o' (neC b o e hx) e1 (I.base.free b o e n hx)
  · obtain ⟨o', e1⟩ := I.base.there b o e hx
    exact there b o' (neC b o e hx) e1
  · obtain ⟨m1, e1⟩ := I.base.tbls b ps e
    obtain ⟨m2, e2⟩ := tbls b _ e1
    exact ⟨m1 ++ m2, by rw [e2, Array.append_assoc]⟩
  · obtain ⟨m, hn, hl⟩ := I.loc
    refine ⟨m, ns m hn, fun i x v e1 e2 e3 => ?_⟩
    obtain ⟨u, r, l⟩ := hl i x v e1 e2 e3
    refine ⟨u, r, ?_⟩
    rcases l with l | ⟨k, c, e, z⟩
    · exact .inl l
    · exact .inr ⟨k, c, e, cellK x c e _ z⟩
  · obtain ⟨v, z⟩ := I.cell x c e
    exact ⟨v, cellK x c e v z⟩
  · obtain ⟨m, ⟨o, _, _, ho, _⟩, _⟩ := I.loc
    exact free _ o (fun z => (hch _ z).2.1 rfl) ho I.free
  · obtain ⟨v, o, ho, hd⟩ := I.cell x c e
    exact free c o (fun z => (hch c z).2.2.1 x c e rfl) ho (I.freeC x c e)
  · obtain ⟨e, n, ne, nf, d⟩ := I.pin p hp
    have nch : p.1 ∉ ch := fun z => (hch p.1 z).2.2.2 p hp rfl
    exact ⟨keep p.1 p.2 ne nf nch e n, free p.1 p.2 nch e n, ne, nf, d⟩
theorem Inv.un {t' : Nat} (I : Inv X pins σ H s) (u : Un X.fs [] H H' s.heap h') (hok : HOk X.prog X.w H' h') : Inv X pins σ H' { s with heap := h', toks := t' } := by
  obtain ⟨m, ⟨o, es, ep, ho, r⟩, _⟩ := id I.loc
  obtain ⟨sl, hL⟩ := u.any ho I.free (by simp)
  exact I.step (g' := s.gens) (d' := s.drawn) (ch := []) (fun _ z => nomatch z) (fun b o _ hb _ e n => u.keep b o e n hb (by simp)) (fun b o _ hb _ e n => u.slot b o e n hb (by simp)) (fun b o _ e n => u.free b o e n (by simp)) (fun b o _ e => u.there b o e (by simp)) u.tups u.frzs u.tbls (fun m' hm => by
    obtain ⟨o', es', ep', ho', r'⟩ := hm
    rw [ho] at ho'; cases ho'
    exact ⟨_, es', ep', hL, r'⟩) hok I.bare
theorem Inv.call {g' : Array GenState} {t' : Nat} {d' : Drawn} {ch : List Addr} (I : Inv X pins σ H s) (u : Un (frs X.stack) ch H H' s.heap h') (hok : HOk X.prog X.w H' h') (hg : AllBare g')
    (hch : ∀ b ∈ ch, (b ∈ X.ex ∨ X.s₀.heap.objs.size ≤ b) ∧ b ≠ X.env.locals ∧ (∀ x c, X.env.cells.lookup x = some c → c ≠ b) ∧ ∀ p ∈ X.pn ++ pins, p.1 ≠ b) :
    Inv X pins σ H' { s with heap := h', gens := g', drawn := d', toks := t' } := by
  obtain ⟨m, ⟨o, es, ep, ho, r⟩, _⟩ := id I.loc
  obtain ⟨sl, hL⟩ := u.any ho I.free fun z => (hch _ z).2.1 rfl
  exact I.step (ch := ch) hch (fun b o hL hb hc e n => u.keep b o e n (fun z => (List.mem_cons.mp (I.stkSub b z)).elim hL hb) hc) (fun b o _ _ hc e n => u.any e n hc) (fun b o hc e n => u.free b o e n hc) (fun b o hc e => u.there b o e hc) u.tups u.frzs u.tbls (fun m' hm => by
    obtain ⟨o', es', ep', ho', r'⟩ := hm
    rw [ho] at ho'; cases ho'
    exact ⟨_, es', ep', hL, r'⟩) hok hg
theorem Inv.turned {t' : Nat} {it : Addr} (I : Inv X pins σ H s) (k : ∀ b o, b ≠ it → s.heap.get? b = some o → h'.get? b = some o) (hn : H it = none) (hL : it ≠ X.env.locals)
    (h1 : it ∈ X.ex ∨ X.s₀.heap.objs.size ≤ it) (h2 : ∀ x c, X.env.cells.lookup x = some c → c ≠ it) (h3 : ∀ p ∈ X.pn ++ pins, p.1 ≠ it) : Inv X pins σ H { s with heap := h', toks := t' } := by
  have nit : ∀ b u, H b = some u → b ≠ it := fun b u e z => by rw [z, hn] at e; cases e
  refine I.step (g' := s.gens) (d' := s.drawn) (ch := [it]) (fun b hb => ?_) (fun b o _ _ hc e _ => k b o (fun z => hc (by simp [z])) e) (fun b o _ _ hc e _ => ⟨o.slots, k b o (fun z => hc (by simp [z])) e⟩) (fun _ _ _ _ n => n)
    (fun b o hc e => ⟨o, k b o (fun z => hc (by simp [z])) e⟩) (fun _ _ e => e) (fun _ _ _ e => e) (fun b ps e => ⟨#[], by rw [e]; simp⟩) (fun m hm => ?_) (fun b u e => ?_) I.bare
  · have e : b = it := by simpa using hb
    subst e
    exact ⟨h1, hL, h2, h3⟩
  · obtain ⟨o, es, ep, ho, r⟩ := hm
    exact ⟨o, es, ep, k _ o (Ne.symm hL) ho, r⟩
  · refine (I.hok b u e).stay (fun c v hc q => k c v ?_ q) (fun _ q => q) (fun _ _ q => q) fun _ _ _ q => q
    rcases hc with z | z
    · rw [z]; exact nit b u e
    · exact nit c _ z
theorem Inv.tok (I : Inv X pins σ H s) (t : Nat) : Inv X pins σ H { s with toks := t } := I.un (h' := s.heap) (t' := t) Un.refl I.hok
theorem Inv.kept {t' : Nat} (I : Inv X pins σ H s) (k : ∀ b u, s.heap.get? b = some u → h'.get? b = some u) : Inv X pins σ H { s with heap := h', toks := t' } := I.un (Un.kept k) (I.hok.kept k)
theorem Inv.laid {a : Addr} {o : HO} {t' : Nat} (I : Inv X pins σ H s) (k : ∀ b u, s.heap.get? b = some u → h'.get? b = some u) (hp : s.heap.objs.size ≤ a) (new : ObjOk X.prog X.w (upd H a o) h' a o) :
    Inv X pins σ (upd H a o) { s with heap := h', toks := t' } := I.un (Un.laid k hp (I.hok.fresh hp)) (I.hok.laid k hp new)
theorem Inv.write {x e : Addr} {o : HO} {t' : Nat} (I : Inv X pins σ H s) (mu : Mut (H x)) (he : e = x ∨ H e = some (.own x)) (k : ∀ b u, b ≠ e → s.heap.get? b = some u → h'.get? b = some u) (heo : ∃ u, h'.get? e = some u)
    (new : ObjOk X.prog X.w (upd H x o) h' x o) : Inv X pins σ (upd H x o) { s with heap := h', toks := t' } := I.un (Un.write mu he k heo) (I.hok.write mu he k heo new)
theorem Inv.weak {σ' : List (Option V)} (I : Inv X pins σ H s) (hl : σ'.length = σ.length) (w : ∀ (i : Nat) v, σ'[i]? = some (some v) → σ[i]? = some (some v)) : Inv X pins σ' H s :=
  ⟨I.ok, I.os, I.bare, I.base, let ⟨m, hn, hl'⟩ := I.loc; ⟨m, hn, fun i x v e1 e2 e3 => hl' i x v e1 (w i v e2) e3⟩, I.cell, I.free, I.freeC, I.pin, I.hok, hl.trans I.len⟩
theorem Inv.pins_of {pins' : List (Addr × Obj)} (I : Inv X pins σ H s) (h : ∀ p ∈ pins', s.heap.get? p.1 = some p.2 ∧ H p.1 = none ∧ p.1 ≠ X.env.locals ∧ p.1 ∉ X.fs ∧ ∀ v, p.2.data ≠ .cell v) : Inv X pins' σ H s :=
  ⟨I.ok, I.os, I.bare, I.base, I.loc, I.cell, I.free, I.freeC, fun p hp => (List.mem_append.mp hp).elim (fun z => I.pin p (List.mem_append_left _ z)) (h p), I.hok, I.len⟩
theorem nodup_ix {N : List Str} (hN : N.Nodup) {i j : Nat} {x : Str} (a : N[i]? = some x) (b : N[j]? = some x) : i = j := by
  obtain ⟨h1, e1⟩ := List.getElem?_eq_some_iff.mp a
  obtain ⟨h2, e2⟩ := List.getElem?_eq_some_iff.mp b
  exact (List.getElem_inj hN).mp (e1.trans e2.symm)
theorem store_ok2 {M : Model} {A : Around} {E : Value → Shared → Prop} {i : Nat} {x : Str} {v : V} {u : Value} {Q : Unit → Shared → Prop} (I : Inv X pins σ H s) (hN : X.N.Nodup) (hi : X.N[i]? = some x) (hx : Loc X.env.scope x) (r : RelV v u)
    (h : ∀ s', Inv X pins (σ.set i (some v)) H s' → (∃ a, Heap.SameBut a s.heap s'.heap ∧ (a = X.env.locals ∨ X.env.cells.lookup x = some a)) → Q () s') (hf : X.fn x = true ∨ X.env.scope.names.lookup x = some .local := by first | exact .inl rfl | exact .inr rfl | assumption) : wpAny M A (storeName X.env x u) Q E s := by
  obtain ⟨m, hn, hl⟩ := id I.loc
  have hcls : (X.env.scope.kind == .class || (X.env.scope.kind == .module && X.env.locals != X.env.globals)) = false := by rw [I.ok.kind]; rfl
  have hiσ : i < σ.length := by rw [I.len]; exact (List.getElem?_eq_some_iff.mp hi).1
  have cne := I.cne
  have tracked : ∀ {a : Addr} {h' : Heap}, (∃ o, s.heap.get? a = some o ∧ H a = none) → Heap.SameBut a s.heap h' → HOk X.prog X.w H h' := fun {a h'} ha hs b ob e => by
    obtain ⟨_, _, hfree⟩ := ha
    refine (I.hok b ob e).stay (fun c w' hc q => (hs.2 c ?_).trans q) (fun _ q => q) (fun _ _ q => q) fun _ _ _ q => q
    rintro rfl
    rcases hc with rfl | hc
    · rw [hfree] at e; cases e
    · rw [hfree] at hc; cases hc
  rcases hx with hk | hk
  · refine wpAny_storeName_local hk hn (fun h' hn' hs => ?_) hcls
    obtain ⟨oL, _, _, hoL, _⟩ := id hn
    refine h _ ⟨I.ok, I.os, I.bare, ⟨fun b o e n hb hx => ?_, fun b o e n hb hx => ?_, I.base.free, fun b o e hx => ?_, I.base.tups, I.base.frzs, I.base.tbls⟩, ⟨_, hn', fun j y v' e1 e2 e3 => ?_⟩, fun y c e => ?_, I.free, I.freeC, fun p hp => ?_, tracked ⟨oL, hoL, I.free⟩ hs, by simpa using I.len⟩ ⟨_, hs, .inl rfl⟩
    · exact (hs.2 b (Nat.ne_of_lt (Nat.lt_of_lt_of_le (Heap.lt_size e) I.ok.above))).trans (I.base.keep b o e n hb hx)
    · obtain ⟨sl, e1⟩ := I.base.slot b o e n hb hx
      exact ⟨sl, (hs.2 b (Nat.ne_of_lt (Nat.lt_of_lt_of_le (Heap.lt_size e) I.ok.above))).trans e1⟩
    · obtain ⟨o', e1⟩ := I.base.there b o e hx
      exact ⟨o', (hs.2 b (Nat.ne_of_lt (Nat.lt_of_lt_of_le (Heap.lt_size e) I.ok.above))).trans e1⟩
    · by_cases hj : j = i
      · subst hj
        rw [hi] at e1; cases e1
        rw [List.getElem?_set_self hiσ] at e2
        cases e2
        exact ⟨u, r, .inl ⟨hk, by simp⟩⟩
      · rw [List.getElem?_set_ne (Ne.symm hj)] at e2
        obtain ⟨u', r', q⟩ := hl j y v' e1 e2 e3
        refine ⟨u', r', ?_⟩
        rcases q with ⟨k, e⟩ | ⟨k, c, e, z⟩
        · refine .inl ⟨k, ?_⟩
          have : y ≠ x := fun e => hj (nodup_ix hN e1 (e ▸ hi))
          simp [this, e]
        · exact .inr ⟨k, c, e, z.sameBut hs (cne y c e)⟩
    · obtain ⟨w', z⟩ := I.cell y c e
      exact ⟨w', z.sameBut hs (cne y c e)⟩
    · obtain ⟨e, n, ne, nf, d⟩ := I.pin p hp
      exact ⟨(hs.2 p.1 ne).trans e, n, ne, nf, d⟩
  · have hfn : X.fn x = true := by
      rcases hf with z | z
      · exact z
      · rw [z] at hk; cases hk
    obtain ⟨c, hc⟩ := I.ok.has x (.inl hk)
    obtain ⟨w', z⟩ := I.cell x c hc
    refine wpAny_storeName_cell I.ok.kind hk hc z (fun h' hc' hs => ?_)
    obtain ⟨oc, hoc, hocd⟩ := id z
    refine h { s with heap := h' } ⟨I.ok, I.os, I.bare, ⟨fun b o e n hb hx => ?_, fun b o e n hb hx => ?_, I.base.free, fun b o e hx => ?_, I.base.tups, I.base.frzs, I.base.tbls⟩, ⟨m, hn.sameBut hs (Ne.symm (cne x c hc)), fun j y v' e1 e2 e3 => ?_⟩, fun y c' e => ?_, I.free, I.freeC, fun p hp => ?_, tracked ⟨oc, hoc, I.freeC x c hc⟩ hs, by simpa using I.len⟩ ⟨c, hs, .inr hc⟩
    · exact (hs.2 b (Nat.ne_of_lt (Nat.lt_of_lt_of_le (Heap.lt_size e) (I.ok.cab x c hfn hc)))).trans (I.base.keep b o e n hb hx)
    · obtain ⟨sl, e1⟩ := I.base.slot b o e n hb hx
      exact ⟨sl, (hs.2 b (Nat.ne_of_lt (Nat.lt_of_lt_of_le (Heap.lt_size e) (I.ok.cab x c hfn hc)))).trans e1⟩
    · obtain ⟨o', e1⟩ := I.base.there b o e hx
      exact ⟨o', (hs.2 b (Nat.ne_of_lt (Nat.lt_of_lt_of_le (Heap.lt_size e) (I.ok.cab x c hfn hc)))).trans e1⟩
    · by_cases hj : j = i
      · subst hj
        rw [hi] at e1; cases e1
        rw [List.getElem?_set_self hiσ] at e2
        cases e2
        exact ⟨u, r, .inr ⟨.inl hk, c, hc, hc'⟩⟩
      · rw [List.getElem?_set_ne (Ne.symm hj)] at e2
        obtain ⟨u', r', q⟩ := hl j y v' e1 e2 e3
        refine ⟨u', r', ?_⟩
        rcases q with q | ⟨k, c', e, z'⟩
        · exact .inl q
        · refine .inr ⟨k, c', e, z'.sameBut hs ?_⟩
          rintro rfl
          exact hj (nodup_ix hN e1 (I.ok.inj _ _ _ e hc ▸ hi))
    · by_cases hcc : c' = c
      · subst hcc; exact ⟨_, hc'⟩
      · obtain ⟨w2, z2⟩ := I.cell y c' e
        exact ⟨w2, z2.sameBut hs hcc⟩
    · obtain ⟨e, n, ne, nf, d⟩ := I.pin p hp
      refine ⟨(hs.2 p.1 ?_).trans e, n, ne, nf, d⟩
      intro q
      rw [q, hoc] at e
      have q' : oc = p.2 := Option.some.inj e
      exact d w' (by rw [← q']; exact hocd)
theorem store_ok {M : Model} {A : Around} {E : Value → Shared → Prop} {i : Nat} {x : Str} {v : V} {u : Value} {Q : Unit → Shared → Prop} (I : Inv X pins σ H s) (hN : X.N.Nodup) (hi : X.N[i]? = some x) (hx : Loc X.env.scope x) (r : RelV v u)
    (h : ∀ s', Inv X pins (σ.set i (some v)) H s' → Q () s') (hf : X.fn x = true ∨ X.env.scope.names.lookup x = some .local := by first | exact .inl rfl | exact .inr rfl | assumption) : wpAny M A (storeName X.env x u) Q E s :=
  store_ok2 I hN hi hx r (fun s' I' _ => h s' I') hf
theorem Inv.call' {s' : Shared} {ch : List Addr} (I : Inv X pins σ H s) (ho : s'.os = s.os) (u : Un (frs X.stack) ch H H' s.heap s'.heap) (hok : HOk X.prog X.w H' s'.heap) (hg : AllBare s'.gens)
    (hch : ∀ b ∈ ch, (b ∈ X.ex ∨ X.s₀.heap.objs.size ≤ b) ∧ b ≠ X.env.locals ∧ (∀ x c, X.env.cells.lookup x = some c → c ≠ b) ∧ ∀ p ∈ X.pn ++ pins, p.1 ≠ b) : Inv X pins σ H' s' := by
  obtain ⟨h', g', d', t', o'⟩ := s'
  have e : o' = s.os := ho
  subst e
  exact I.call (g' := g') (t' := t') (d' := d') u hok hg hch
end
abbrev XK := Value → Option Addr → Hp → Prop
abbrev St := List (Option V)
abbrev VK := V → Hp → Prop
abbrev TE := St → Hp → VK → Prop
abbrev TT := St → Hp → (Bool → Hp → Prop) → Prop
abbrev TA := St → Hp → (List V → Hp → Prop) → Prop
structure Ends where
  nx : St → Hp → Prop
  rt : VK
  bk : St → Hp → Prop := fun _ _ => False
  ct : St → Hp → Prop := fun _ _ => False
abbrev TS := Ends → St → Hp → Prop
def EP (X : Cx) (pins : List (Addr × Obj)) (σ : St) (Q : VK) (u : Value) (s' : Shared) : Prop := ∃ v H', Inv X pins σ H' s' ∧ RelV v u ∧ Q v H'
def TP (X : Cx) (pins : List (Addr × Obj)) (σ : St) (Q : Bool → Hp → Prop) (b : Bool) (s' : Shared) : Prop := ∃ H', Inv X pins σ H' s' ∧ Q b H'
def AP (X : Cx) (pins : List (Addr × Obj)) (σ : St) (Q : List V → Hp → Prop) (us : List Value) (s' : Shared) : Prop := ∃ vs H', Inv X pins σ H' s' ∧ Vals vs us ∧ Q vs H'
def SP (X : Cx) (pins : List (Addr × Obj)) (D : Ends) (f : Flow) (s' : Shared) : Prop :=
  match f with
  | .next => ∃ σ' H', Inv X pins σ' H' s' ∧ D.nx σ' H'
  | .brk => ∃ σ' H', Inv X pins σ' H' s' ∧ D.bk σ' H'
  | .cont => ∃ σ' H', Inv X pins σ' H' s' ∧ D.ct σ' H'
  | .ret u => ∃ v σ' H', Inv X pins σ' H' s' ∧ RelV v u ∧ D.rt v H'
def PE (X : Cx) (e : Expr) (t : TE) : Prop :=
  ∀ (pins : List (Addr × Obj)) (s : Shared) (σ : St) (H : Hp) (Q : VK), Inv X pins σ H s → t σ H Q → wpAny (model X.prog X.w) X.A (eval e X.env) (EP X pins σ Q) X.xe s
def PT (X : Cx) (e : Expr) (t : TT) : Prop :=
  ∀ (pins : List (Addr × Obj)) (s : Shared) (σ : St) (H : Hp) (Q : Bool → Hp → Prop), Inv X pins σ H s → t σ H Q → wpAny (model X.prog X.w) X.A (isTrue e X.env (eval e X.env)) (TP X pins σ Q) X.xe s
def PW (X : Cx) (e : Expr) (t : TT) : Prop :=
  ∀ (whole : Sem Value) (pins : List (Addr × Obj)) (s : Shared) (σ : St) (H : Hp) (Q : Bool → Hp → Prop), Inv X pins σ H s → t σ H Q → wpAny (model X.prog X.w) X.A (isTrue e X.env whole) (TP X pins σ Q) X.xe s
theorem PW.pt {X : Cx} {e : Expr} {t : TT} (h : PW X e t) : PT X e t := h _
def PA (X : Cx) (es : List Expr) (t : TA) : Prop :=
  ∀ (pos : Pos) (pins : List (Addr × Obj)) (s : Shared) (σ : St) (H : Hp) (Q : List V → Hp → Prop), Inv X pins σ H s → t σ H Q → wpAny (model X.prog X.w) X.A (spliced (backTo pos (starEach es X.env))) (AP X pins σ Q) X.xe s
def PS (X : Cx) (st : Stmt) (t : TS) : Prop :=
  ∀ (pins : List (Addr × Obj)) (s : Shared) (σ : St) (H : Hp) (D : Ends), Inv X pins σ H s → t D σ H → wpAny (model X.prog X.w) X.A (exec st X.env) (SP X pins D) X.xe s
def PSs (X : Cx) (st : List Stmt) (t : TS) : Prop :=
  ∀ (pins : List (Addr × Obj)) (s : Shared) (σ : St) (H : Hp) (D : Ends), Inv X pins σ H s → t D σ H → wpAny (model X.prog X.w) X.A (execs st X.env) (SP X pins D) X.xe s
theorem thn {α : Type} {t : Sem α} {Q Q' : α → Shared → Prop} {M : Model} {A : Around} {E : Value → Shared → Prop} {s : Shared} (h : wpAny M A t Q E s) (hQ : ∀ a s, Q a s → Q' a s) : wpAny M A t Q' E s := wpAny_mono h hQ fun _ _ x => x
end L2
namespace L2
open PySem PySem.Spec PyProof.Rows
section
variable {X : Cx}
def tVar (i : Nat) : TE := fun σ H Q => ∃ v, σ[i]? = some (some v) ∧ Q v H
def tC (v : V) : TE := fun _ H Q => Q v H
theorem pe_var {i : Nat} {x : Str} {pos : Pos} (hN : X.N[i]? = some x) (hv : Vis X.env.scope x) (hd : (x == ("__debug__" : Str)) = false := by decide) (hcd : (x == ("__classdict__" : Str)) = false := by decide) : PE X (.Name x pos) (tVar i) := by
  intro pins s σ H Q I h
  obtain ⟨v, e, h⟩ := h
  obtain ⟨m, hn, hl⟩ := I.loc
  obtain ⟨u, r, l⟩ := hl i x v hN e hv
  have fin : EP X pins σ Q u s := ⟨v, H, I, r, h⟩
  rcases l with ⟨hk, hm⟩ | ⟨hk, c, hc, hcell⟩
  · exact wpAny_Name (wpAny_loadName_local I.ok.kind hk hn hm fin) hd
  · rcases hk with hk | hk
    · exact wpAny_Name (wpAny_loadName_cell I.ok.kind hk hc hcell fin) hd
    · exact wpAny_Name (wpAny_loadName_free I.ok.kind hk hc hcell fin hcd) hd
theorem pe_int {i j pos} : PE X (.Constant (.int i) j pos) (tC (.int i)) := fun _ _ _ H _ I h => wpAny_Constant_int ⟨.int i, H, I.tok _, ⟨_, rfl⟩, h⟩
theorem pe_bl {b j pos} : PE X (.Constant (.bool b) j pos) (tC (.bl b)) := fun _ _ _ H _ I h => Constant_bool ⟨.bl b, H, I, rfl, h⟩
theorem pe_non {j pos} : PE X (.Constant .none j pos) (tC .non) := fun _ _ _ H _ I h => Constant_none ⟨.non, H, I, rfl, h⟩
def Gl (X : Cx) (x : Str) : Prop := X.env.kindOf x = some .globalImplicit
theorem ld_glob {E : Value → Shared → Prop} {pins : List (Addr × Obj)} {s : Shared} {σ : St} {H : Hp} {x : Str} {u : Value} {pos : Pos} {Q : Value → Shared → Prop} (I : Inv X pins σ H s) (hg : Gl X x) (hm : X.mg x = some u) (h : Q u s)
    (hd : (x == ("__debug__" : Str)) = false := by decide) : wpAny (model X.prog X.w) X.A (eval (.Name x pos) X.env) Q E s :=
  Calls.Name_function_global I.ok.kind hg (Calls.loadGlobal_global (by rw [I.ok.glob]; exact I.mod.glob.keeps I.bk) hm h) hd
theorem ld_blt {E : Value → Shared → Prop} {pins : List (Addr × Obj)} {s : Shared} {σ : St} {H : Hp} {x : Str} {u : Value} {pos : Pos} {Q : Value → Shared → Prop} (I : Inv X pins σ H s) (hg : Gl X x) (hm : X.mg x = none) (hv : bootBuiltins x = some u) (h : Q u s)
    (hn : x ≠ "__name__" := by decide) (hd : (x == ("__debug__" : Str)) = false := by decide) : wpAny (model X.prog X.w) X.A (eval (.Name x pos) X.env) Q E s := by
  obtain ⟨mb, h1, h2⟩ := I.mod.blt
  exact Calls.Name_function_global I.ok.kind hg (Calls.loadGlobal_builtin (by rw [I.ok.glob]; exact I.mod.glob.keeps I.bk) hm (by rw [I.ok.blt]; exact h1.keeps I.bk) ((h2 x hn).trans hv) h) hd
theorem pe_bltn {x : Str} {v : V} {u : Value} {pos : Pos} (hg : Gl X x) (hm : X.mg x = none) (hv : bootBuiltins x = some u) (r : RelV v u) (hn : x ≠ "__name__" := by decide) (hd : (x == ("__debug__" : Str)) = false := by decide) : PE X (.Name x pos) (tC v) :=
  fun _ _ _ H _ I h => ld_blt I hg hm hv ⟨v, H, I, r, h⟩ hn hd
variable {a b : Expr} {ta tb : TE} {pos : Pos}
variable {tA tB' : TT} {rest : List Expr}
def tAnd (t u : TT) : TT := fun σ H Q => t σ H fun c H1 => if c = true then u σ H1 Q else Q false H1
def tOr (t u : TT) : TT := fun σ H Q => t σ H fun c H1 => if c = true then Q true H1 else u σ H1 Q
def tNot (t : TT) : TT := fun σ H Q => t σ H fun c H1 => Q (!c) H1
theorem pw_and1 (ha : PT X a tA) : PW X (.BoolOp .And [a] pos) tA := by
  intro wh pins s σ H Q I h
  refine isTrue_and (thn (ha pins s σ H Q I h) fun c s1 e => ?_)
  cases c with
  | true => exact isTrue_and_nil e
  | false => exact e
theorem pw_or1 (ha : PT X a tA) : PW X (.BoolOp .Or [a] pos) tA := by
  intro wh pins s σ H Q I h
  refine isTrue_or (thn (ha pins s σ H Q I h) fun c s1 e => ?_)
  cases c with
  | false => exact isTrue_or_nil e
  | true => exact e
theorem pw_and (ha : PT X a tA) (hb : PW X (.BoolOp .And (b :: rest) pos) tB') : PW X (.BoolOp .And (a :: b :: rest) pos) (tAnd tA tB') := by
  intro wh pins s σ H Q I h
  refine isTrue_and (thn (ha pins s σ H _ I h) fun c s1 ⟨H1, I1, q1⟩ => ?_)
  cases c with
  | true => exact hb wh pins s1 σ H1 Q I1 q1
  | false => exact ⟨H1, I1, q1⟩
theorem pw_or (ha : PT X a tA) (hb : PW X (.BoolOp .Or (b :: rest) pos) tB') : PW X (.BoolOp .Or (a :: b :: rest) pos) (tOr tA tB') := by
  intro wh pins s σ H Q I h
  refine isTrue_or (thn (ha pins s σ H _ I h) fun c s1 ⟨H1, I1, q1⟩ => ?_)
  cases c with
  | true => exact ⟨H1, I1, q1⟩
  | false => exact hb wh pins s1 σ H1 Q I1 q1
theorem pt_not (ha : PT X a tA) : PT X (.UnaryOp .Not a pos) (tNot tA) := by
  intro pins s σ H Q I h
  exact isTrue_not (ha pins s σ H (fun c H1 => Q (!c) H1) I h)
def tAndV (ta tb : TE) : TE := fun σ H Q => ta σ H fun x H1 => ∃ c, x = .bl c ∧ if c = true then tb σ H1 Q else Q (.bl false) H1
def tNotV (ta : TE) : TE := fun σ H Q => ta σ H fun x H1 => ∃ c, x = .bl c ∧ Q (.bl (!c)) H1
theorem pe_one {op} {t : TE} (h : PE X a t) : PE X (.BoolOp op [a] pos) t := fun pins s σ H Q I hw => BoolOp_one (h pins s σ H Q I hw)
theorem pe_and (ha : PE X a ta) (hb : PE X (.BoolOp .And (b :: rest) pos) tb) : PE X (.BoolOp .And (a :: b :: rest) pos) (tAndV ta tb) := by
  intro pins s σ H Q I h
  refine BoolOp_and (thn (ha pins s σ H _ I h) fun v s1 ⟨x, H1, I1, r1, q1⟩ => ?_)
  obtain ⟨c, rfl, q1⟩ := q1
  cases r1
  refine wpAny_truthy_bool ?_
  cases c with
  | true => exact hb pins s1 σ H1 Q I1 q1
  | false => exact ⟨.bl false, H1, I1, rfl, q1⟩
theorem pe_not (ha : PE X a ta) : PE X (.UnaryOp .Not a pos) (tNotV ta) := by
  intro pins s σ H Q I h
  refine UnaryOp_ (thn (ha pins s σ H _ I h) fun v s1 ⟨x, H1, I1, r1, q1⟩ => ?_)
  obtain ⟨c, rfl, q1⟩ := q1
  cases r1
  exact not_of (wpAny_truthy_bool ⟨.bl (!c), H1, I1, rfl, q1⟩)
end
end L2
namespace L2
open PySem PySem.Spec PyProof.Rows
def SqL (K : PySem.W.Frag) (H : Hp) (a : Addr) (xs : List V) : Prop :=
  Rd H a (.lst xs) ∨
    ∃ (o : Obj) (its : Array Value) (n : Nat), K.lookup a = some o ∧ o.cls = .type "list" ∧ o.dict = none ∧ o.data = .seq its n ∧ its.size ≤ sizeLine ∧ Vals xs its.toList
def SqT (K : PySem.W.Frag) (H : Hp) (a : Addr) (xs : List V) : Prop :=
  Rd H a (.tup xs) ∨
    ∃ (o : Obj) (its : Array Value) (n : Nat), K.lookup a = some o ∧ o.cls = .type "tuple" ∧ o.data = .seq its n ∧ its.size ≤ sizeLine ∧ Vals xs its.toList
def absV : Value → Option V
  | .none => some .non
  | .bool b => some (.bl b)
  | .int i _ => some (.int i)
  | .str x _ => some (.str x)
  | .bytes b _ => some (.byt b)
  | .float b _ => some (.flt b)
  | .ref a => some (.ref a)
  | .type n => some (.ty n)
  | _ => none
theorem RelV.abs {x : V} {u : Value} (r : RelV x u) : absV u = some x := by
  cases x with
  | non => cases r; rfl
  | bl _ => cases r; rfl
  | int _ => obtain ⟨t, rfl⟩ := r; rfl
  | str _ => obtain ⟨t, rfl⟩ := r; rfl
  | byt _ => obtain ⟨t, rfl⟩ := r; rfl
  | flt _ => obtain ⟨t, rfl⟩ := r; rfl
  | ref _ => cases r; rfl
  | ty _ => cases r; rfl
theorem RelV.inj {x y : V} {u : Value} (r : RelV x u) (q : RelV y u) : x = y := Option.some.inj (r.abs.symm.trans q.abs)
theorem Vals.inj : ∀ {xs ys : List V} {us : List Value}, Vals xs us → Vals ys us → xs = ys
  | _, _, _, .nil, .nil => rfl
  | _, _, _, .cons r t, .cons r' t' => by rw [r.inj r', Vals.inj t t']
section
variable {X : Cx} {pins : List (Addr × Obj)} {σ : St} {H : Hp} {s : Shared} {a : Addr} {xs ys : List V}
theorem SqL.of {K : PySem.W.Frag} (h : H a = some (.lst xs)) : SqL K H a xs := .inl (.inl h)
theorem SqT.of {K : PySem.W.Frag} (h : H a = some (.tup xs)) : SqT K H a xs := .inl (.inl h)
theorem Inv.list (I : Inv X pins σ H s) (h : SqL X.K H a xs) : ∃ its : List Value, Vals xs its ∧ PlainL s.heap a its.toArray ∧ xs.length ≤ sizeLine := by
  rcases h with h | ⟨o, its, n, hk, hc, hd, hs, hz, r⟩
  · obtain ⟨z, its, n, r, e⟩ := h.ok I.hok
    exact ⟨its, r, ⟨_, n, e, rfl, rfl, rfl⟩, z⟩
  · refine ⟨its.toList, r, ⟨o, n, I.kIn a o hk, hc, hd, by simpa using hs⟩, ?_⟩
    have e := r.length
    simp only [Array.length_toList] at e
    omega
theorem Inv.tuple (I : Inv X pins σ H s) (h : SqT X.K H a xs) : ∃ its : List Value, Vals xs its ∧ IsTup s.heap a its.toArray ∧ xs.length ≤ sizeLine := by
  rcases h with h | ⟨o, its, n, hk, hc, hs, hz, r⟩
  · obtain ⟨z, its, r, p⟩ := h.ok I.hok
    exact ⟨its, r, p, z⟩
  · refine ⟨its.toList, r, ⟨o, I.kIn a o hk, hc, n, by simpa using hs⟩, ?_⟩
    have e := r.length
    simp only [Array.length_toList] at e
    omega
theorem Inv.list_inj (I : Inv X pins σ H s) (h : SqL X.K H a xs) (h' : SqL X.K H a ys) : xs = ys := by
  obtain ⟨its, r, ⟨o, n, e, _, _, d⟩, _⟩ := I.list h
  obtain ⟨its', r', ⟨o', n', e', _, _, d'⟩, _⟩ := I.list h'
  rw [e] at e'; cases e'
  rw [d] at d'
  injection d' with d1 _
  have : its = its' := by simpa using congrArg Array.toList d1
  subst this
  exact r.inj r'
theorem Inv.tuple_inj (I : Inv X pins σ H s) (h : SqT X.K H a xs) (h' : SqT X.K H a ys) : xs = ys := by
  obtain ⟨its, r, ⟨o, e, _, n, d⟩, _⟩ := I.tuple h
  obtain ⟨its', r', ⟨o', e', _, n', d'⟩, _⟩ := I.tuple h'
  rw [e] at e'; cases e'
  rw [d] at d'
  injection d' with d1 _
  have : its = its' := by simpa using congrArg Array.toList d1
  subst this
  exact r.inj r'
end
abbrev Cx.wish (X : Cx) (E : Value → Shared → Prop) : Cx := { X with xe := E }
abbrev Cx.nox (X : Cx) : Cx := X.wish fun _ _ => False
theorem Cx.Ok.wish {X : Cx} (ok : X.Ok) (E : Value → Shared → Prop) : (X.wish E).Ok :=
  ⟨ok.mod, ok.kind, ok.glob, ok.blt, ok.above, ok.inj, ok.has, ok.cab, ok.hd, ok.frames, ok.stk, ok.exf, ok.bs, ok.bsz, ok.noex, ok.exfs, ok.funs, ok.frf⟩
theorem Cx.Ok.unwish {X : Cx} {E : Value → Shared → Prop} (ok : (X.wish E).Ok) : X.Ok :=
  ⟨ok.mod, ok.kind, ok.glob, ok.blt, ok.above, ok.inj, ok.has, ok.cab, ok.hd, ok.frames, ok.stk, ok.exf, ok.bs, ok.bsz, ok.noex, ok.exfs, ok.funs, ok.frf⟩
section
variable {X : Cx} {pins : List (Addr × Obj)} {σ : St} {H : Hp} {s : Shared} {E : Value → Shared → Prop}
theorem Inv.wish (I : Inv X pins σ H s) (E : Value → Shared → Prop) : Inv (X.wish E) pins σ H s := ⟨I.ok.wish E, I.os, I.bare, I.base, I.loc, I.cell, I.free, I.freeC, I.pin, I.hok, I.len⟩
theorem Inv.unwish (I : Inv (X.wish E) pins σ H s) : Inv X pins σ H s := ⟨I.ok.unwish, I.os, I.bare, I.base, I.loc, I.cell, I.free, I.freeC, I.pin, I.hok, I.len⟩
theorem SP.unwish {D : Ends} {f : Flow} {s' : Shared} (h : SP (X.wish E) pins D f s') : SP X pins D f s' := by
  cases f with
  | next => obtain ⟨σ', H', I, q⟩ := h; exact ⟨σ', H', I.unwish, q⟩
  | brk => obtain ⟨σ', H', I, q⟩ := h; exact ⟨σ', H', I.unwish, q⟩
  | cont => obtain ⟨σ', H', I, q⟩ := h; exact ⟨σ', H', I.unwish, q⟩
  | ret u => obtain ⟨v, σ', H', I, r, q⟩ := h; exact ⟨v, σ', H', I.unwish, r, q⟩
theorem PE.nox {e : Expr} {t : TE} (h : PE X.nox e t) : PE X e t := fun pins s σ H Q I hw =>
  wpAny_mono (h pins s σ H Q (I.wish _) hw) (fun _ _ ⟨v, H', I', r, q⟩ => ⟨v, H', I'.unwish, r, q⟩) fun _ _ z => False.elim z
theorem PT.nox {e : Expr} {t : TT} (h : PT X.nox e t) : PT X e t := fun pins s σ H Q I hw =>
  wpAny_mono (h pins s σ H Q (I.wish _) hw) (fun _ _ ⟨H', I', q⟩ => ⟨H', I'.unwish, q⟩) fun _ _ z => False.elim z
theorem PSs.nox {st : List Stmt} {t : TS} (h : PSs X.nox st t) : PSs X st t := fun pins s σ H D I hw =>
  wpAny_mono (h pins s σ H D (I.wish _) hw) (fun _ _ q => q.unwish) fun _ _ z => False.elim z
end
section
variable {X : Cx} {st : Stmt} {rest : List Stmt} {t u : TS} {e : Expr} {te : TE} {pos : Pos}
def tNext : TS := fun D σ H => D.nx σ H
def tSeq (t u : TS) : TS := fun D σ H => t { D with nx := u D } σ H
theorem pss_nil : PSs X [] tNext := fun _ _ σ H _ I h => wpAny_execs_nil ⟨σ, H, I, h⟩
theorem pss_cons (h1 : PS X st t) (h2 : PSs X rest u) : PSs X (st :: rest) (tSeq t u) := by
  intro pins s σ H D I h
  refine wpAny_execs_cons (thn (h1 pins s σ H { D with nx := u D } I h) fun f s1 q => ?_)
  cases f with
  | next =>
    obtain ⟨σ', H', I', q⟩ := q
    exact h2 pins s1 σ' H' D I' q
  | ret v => exact q
  | brk => exact q
  | cont => exact q
theorem pss_one (h1 : PS X st t) : PSs X [st] t := by
  intro pins s σ H D I h
  refine wpAny_execs_cons (thn (h1 pins s σ H D I h) fun f s1 q => ?_)
  cases f with
  | next => exact wpAny_execs_nil q
  | ret v => exact q
  | brk => exact q
  | cont => exact q
theorem Inv.quiet {pins : List (Addr × Obj)} {σ : St} {H : Hp} {s : Shared} (I : Inv X pins σ H s) : interactive X.env = false := by simp [interactive, I.ok.kind]
def tDrop (te : TE) : TS := fun D σ H => te σ H fun _ H1 => D.nx σ H1
theorem ps_expr (he : PE X e te) (hs : swapsWith e none pos.line X.env = pure false := by rfl) : PS X (.Expr e pos) (tDrop te) := by
  intro pins s σ H D I h
  exact wpAny_Expr_any (thn (he pins s σ H _ I h) fun v s1 ⟨x, H1, I1, r1, q1⟩ => ⟨σ, H1, I1, q1⟩) I.quiet hs
def tRet (te : TE) : TS := fun D σ H => te σ H D.rt
theorem ps_ret (he : PE X e te) : PS X (.Return (some e) pos) (tRet te) := by
  intro pins s σ H D I h
  exact wpAny_Return_some (thn (he pins s σ H _ I h) fun v s1 ⟨x, H1, I1, r1, q1⟩ => ⟨x, σ, H1, I1, r1, q1⟩)
def tIfS (c : TT) (t u : TS) : TS := fun D σ H => c σ H fun b H1 => if b = true then t D σ H1 else u D σ H1
theorem ps_if {c : Expr} {a b : List Stmt} {tc : TT} (hc : PT X c tc) (ha : PSs X a t) (hb : PSs X b u) : PS X (.If c a b pos) (tIfS tc t u) := by
  intro pins s σ H D I h
  refine wpAny_If (thn (hc pins s σ H _ I h) fun d s1 ⟨H1, I1, q1⟩ => ?_)
  cases d with
  | true => exact ha pins s1 σ H1 D I1 q1
  | false => exact hb pins s1 σ H1 D I1 q1
end
abbrev TG := V → St → Hp → (St → Hp → Prop) → Prop
abbrev TGs := List V → St → Hp → (St → Hp → Prop) → Prop
def PG (X : Cx) (target : Expr) (t : TG) : Prop :=
  ∀ (pins : List (Addr × Obj)) (s : Shared) (σ : St) (H : Hp) (v : V) (u : Value) (Q : St → Hp → Prop), Inv X pins σ H s → RelV v u → t v σ H Q →
    wpAny (model X.prog X.w) X.A (assign target X.env u) (fun _ s' => ∃ σ' H', Inv X pins σ' H' s' ∧ Q σ' H') X.xe s
def PGs (X : Cx) (ts : List Expr) (t : TGs) : Prop :=
  ∀ (pins : List (Addr × Obj)) (s : Shared) (σ : St) (H : Hp) (vs : List V) (us : List Value) (Q : St → Hp → Prop), Inv X pins σ H s → Vals vs us → t vs σ H Q →
    wpAny (model X.prog X.w) X.A (assignInOrder ((assignEach ts X.env).map (·.2)) us) (fun _ s' => ∃ σ' H', Inv X pins σ' H' s' ∧ Q σ' H') X.xe s
abbrev TSet := V → V → V → Hp → (Hp → Prop) → Prop
def PSet (X : Cx) (t : TSet) : Prop :=
  ∀ (pins : List (Addr × Obj)) (s : Shared) (σ : St) (H : Hp) (o i v : V) (ov iv u : Value) (Q : Hp → Prop), Inv X pins σ H s → RelV o ov → RelV i iv → RelV v u → t o i v H Q →
    wpAny (model X.prog X.w) X.A (setItem ov iv u) (fun _ s' => ∃ H', Inv X pins σ H' s' ∧ Q H') X.xe s
section
variable {X : Cx} {pos : Pos}
def gName (i : Nat) : TG := fun v σ H Q => Q (σ.set i (some v)) H
theorem pg_name {i : Nat} {x : Str} (hN : X.N.Nodup) (hi : X.N[i]? = some x) (hx : Loc X.env.scope x) (hf : X.fn x = true ∨ X.env.scope.names.lookup x = some .local := by first | exact .inl rfl | exact .inr rfl | assumption) : PG X (.Name x pos) (gName i) := by
  intro pins s σ H v u Q I r h
  exact wpAny_assign_Name (store_ok I hN hi hx r (fun s' I' => ⟨_, H, I', h⟩) hf)
def gNil : TGs := fun vs σ H Q => vs = [] ∧ Q σ H
def gCons (t : TG) (u : TGs) : TGs := fun vs σ H Q => ∃ v r, vs = v :: r ∧ t v σ H fun σ' H' => u r σ' H' Q
theorem pgs_nil : PGs X [] gNil := by
  intro pins s σ H vs us Q I r h
  obtain ⟨e, h⟩ := h
  subst e
  cases r
  exact assignInOrder_nil ⟨σ, H, I, h⟩
theorem pgs_cons {e : Expr} {es : List Expr} {t : TG} {u : TGs} (h1 : PG X e t) (h2 : PGs X es u)
    (hs : (assignEach (e :: es) X.env).map (·.2) = assign e X.env :: (assignEach es X.env).map (·.2) := by rfl) : PGs X (e :: es) (gCons t u) := by
  intro pins s σ H vs us Q I r h
  obtain ⟨v, vr, e1, h⟩ := h
  subst e1
  cases r with
  | cons r rr =>
    rw [hs]
    refine assignInOrder_cons (thn (h1 pins s σ H _ _ _ I r h) fun _ s1 ⟨σ1, H1, I1, q1⟩ => ?_)
    exact h2 pins s1 σ1 H1 _ _ Q I1 rr q1
def gTup (K : PySem.W.Frag) (n : Nat) (t : TGs) : TG := fun v σ H Q => ∃ a xs, v = .ref a ∧ SqT K H a xs ∧ xs.length = n ∧ t xs σ H Q
theorem pg_tup {es : List Expr} {k : Nat} {t : TGs} {n : Nat} (hc : X.calm = true) (h : PGs X es t)
    (hn : (assignEach es X.env).length = n := by rfl) (hst : (assignEach es X.env).findIdx? (·.1) = none := by rfl) : PG X (.Tuple es k pos) (gTup X.K n t) := by
  intro pins s σ H v u Q I r hw
  obtain ⟨a, xs, e1, hq, hl, hw⟩ := hw
  subst e1
  cases r
  obtain ⟨its, rv, ht, hz⟩ := I.tuple hq
  refine assign_Tuple_tuple (I.ok.hd hc) ht (by simp [hn, ← hl, rv.length]) hst fun h' hx => ?_
  have I1 : Inv X pins σ H { s with heap := h' } := I.kept (t' := s.toks) fun b o e => hx b o (Nat.ne_of_lt (Heap.lt_size e)) e
  exact h pins _ σ H xs _ Q I1 (by simpa using rv) hw
def gSub (to ti : TE) (t : TSet) : TG := fun v σ H Q => to σ H fun o H1 => ti σ H1 fun i H2 => t o i v H2 fun H3 => Q σ H3
theorem pg_sub {o i : Expr} {to ti : TE} {t : TSet} (ho : PE X o to) (hi : PE X i ti) (hs : PSet X t)
    (ha : ∀ v, assign (.Subscript o i pos) X.env v = (do
      let ov ← holding [v] (eval o X.env)
      let iv ← holding [v, ov] (eval i X.env)
      standAt pos
      holding [v, ov, iv] (setItem ov iv v)
      release [v, ov, iv] []) := by intro _; rfl) : PG X (.Subscript o i pos) (gSub to ti t) := by
  intro pins s σ H v u Q I r h
  rw [ha]
  refine wpAny_bind (wpAny_holding (thn (ho pins s σ H _ I h) fun ov s1 ⟨x, H1, I1, r1, q1⟩ => ?_))
  refine wpAny_bind (wpAny_holding (thn (hi pins s1 σ H1 _ I1 q1) fun iv s2 ⟨y, H2, I2, r2, q2⟩ => ?_))
  refine wpAny_bind (wpAny_standAt (wpAny_bind (wpAny_holding (thn (hs pins s2 σ H2 x y v ov iv u _ I2 r1 r2 r q2) fun _ s3 ⟨H3, I3, q3⟩ => ?_))))
  exact wpAny_release ⟨σ, H3, I3, q3⟩
def tAsg (te : TE) (g : TG) : TS := fun D σ H => te σ H fun x H1 => g x σ H1 D.nx
theorem ps_asg {tg e : Expr} {te : TE} {g : TG} (he : PE X e te) (hg : PG X tg g) (hs : swapsWithSole [tg] e pos.line X.env = pure false := by rfl) (hw : swappedStores [tg] e X.env = pure none := by rfl)
    (h1 : (assignEach [tg] X.env).map (·.2) = [assign tg X.env] := by rfl) : PS X (.Assign [tg] e pos) (tAsg te g) := by
  intro pins s σ H D I h
  refine wpAny_Assign_stores (thn (he pins s σ H _ I h) fun v s1 ⟨x, H1, I1, r1, q1⟩ => ?_) hs hw
  rw [h1]
  exact thn (hg pins s1 σ H1 x v _ I1 r1 q1) fun _ s2 q => q
theorem ps_set {i : Nat} {x : Str} {e : Expr} {te : TE} {pos' : Pos} (hN : X.N.Nodup) (hi : X.N[i]? = some x) (hx : Loc X.env.scope x) (he : PE X e te) (hs : swapsWith e (some (.Name x pos')) pos.line X.env = pure false := by rfl) (hf : X.fn x = true ∨ X.env.scope.names.lookup x = some .local := by first | exact .inl rfl | exact .inr rfl | assumption) :
    PS X (.Assign [.Name x pos'] e pos) (tAsg te (gName i)) := by
  intro pins s σ H D I h
  refine wpAny_Assign_Name (thn (he pins s σ H _ I h) fun v s1 ⟨y, H1, I1, r1, q1⟩ => ?_) hs
  exact store_ok I1 hN hi hx r1 (fun s2 I2 => ⟨_, H1, I2, q1⟩) hf
end
section
variable {X : Cx} {pos : Pos}
def tWhile (c : TT) (tb : TS) : TS := fun D σ H => ∃ W : Nat → St → Hp → Prop, (∃ m, W m σ H) ∧ ∀ m σ H, W m σ H →
  c σ H fun b H1 => if b = true then ∃ N : St → Hp → Prop, (∀ σ' H', N σ' H' → ∃ m', m' < m ∧ W m' σ' H') ∧ tb { D with nx := N, ct := N, bk := D.nx } σ H1 else D.nx σ H1
theorem ps_while {c : Expr} {body : List Stmt} {tc : TT} {tb : TS} (hp : PassesOwn (model X.prog X.w) X.A X.env X.xe) (hc : PT X c tc) (hb : PSs X body tb) : PS X (.While c body [] pos) (tWhile tc tb) := by
  intro pins s σ H D I h
  obtain ⟨W, ⟨m0, w0⟩, turn⟩ := h
  refine wpAny_While (codeAny_whileLoop (fun n s' => ∃ σ' H', Inv X pins σ' H' s' ∧ W n σ' H') ?_ m0 ⟨σ, H, I, w0⟩)
  rintro n s1 ⟨σ1, H1, I1, w1⟩
  refine wpAny_passesOwn hp (thn (hc pins s1 σ1 H1 _ I1 (turn n σ1 H1 w1)) fun b s2 ⟨H2, I2, q2⟩ => ?_)
  cases b with
  | true =>
    obtain ⟨N, hN, q2⟩ := q2
    rw [if_pos rfl]
    refine wpAny_passesOwn hp (thn (hb pins s2 σ1 H2 _ I2 q2) fun f s3 q3 => ?_)
    cases f with
    | next =>
      obtain ⟨σ3, H3, I3, n3⟩ := q3
      obtain ⟨m', hm, w3⟩ := hN σ3 H3 n3
      exact ⟨m', hm, σ3, H3, I3, w3⟩
    | cont =>
      obtain ⟨σ3, H3, I3, n3⟩ := q3
      obtain ⟨m', hm, w3⟩ := hN σ3 H3 n3
      exact ⟨m', hm, σ3, H3, I3, w3⟩
    | brk => exact q3
    | ret v => exact q3
  | false =>
    rw [if_neg Bool.false_ne_true]
    exact wpAny_execs_nil ⟨σ1, H2, I2, q2⟩
end
structure It where
  go : Nat → Hp → Prop
  yld : Nat → Hp → V → Hp → Prop
  stop : Nat → Hp → Prop
def FpOk (X : Cx) (pins : List (Addr × Obj)) (H : Hp) (b : Addr) : Prop :=
  H b = none ∧ b ≠ X.env.locals ∧ b ∉ X.fs ∧ (b ∈ X.ex ∨ X.s₀.heap.objs.size ≤ b) ∧ (∀ x c, X.env.cells.lookup x = some c → c ≠ b) ∧ ∀ p ∈ X.pn ++ pins, p.1 ≠ b
theorem Inv.fpOk {X : Cx} {pins : List (Addr × Obj)} {σ : St} {H H' : Hp} {s : Shared} {b : Addr} (I : Inv X pins σ H s) (hb : s.heap.objs.size ≤ b) (hn : H' b = none) : FpOk X pins H' b := by
  refine ⟨hn, Nat.ne_of_gt (Nat.lt_of_lt_of_le I.lt hb), I.nofs hb, .inr (Nat.le_trans I.sz hb), fun x c e z => ?_, fun p hp z => ?_⟩
  · obtain ⟨v, q⟩ := I.cell x c e
    exact absurd (Nat.lt_of_lt_of_le q.lt (by rw [z]; exact hb)) (Nat.lt_irrefl _)
  · exact absurd (Nat.lt_of_lt_of_le (Heap.lt_size (I.pin p hp).1) (by rw [z]; exact hb)) (Nat.lt_irrefl _)
structure Turn (P : Program) (w : World) (K : PySem.W.Frag) (tg : Expr) (J : It) (fp : List Addr) (it : Addr) (tn : Nat → Heap → Prop) : Prop where
  mem : it ∈ fp
  obj : ∀ i h, tn i h → ∀ b ∈ fp, ∃ o, h.get? b = some o ∧ ∀ v, o.data ≠ .cell v
  keep : ∀ i h h', tn i h → (∀ b ∈ fp, ∀ o, h.get? b = some o → h'.get? b = some o) → tn i h'
  item : ∀ (X : Cx), X.prog = P → X.w = w → X.K = K → X.calm = true → ∀ (i : Nat) (pins : List (Addr × Obj)) (s : Shared) (σ : St) (H : Hp) (E : Value → Shared → Prop), Inv X pins σ H s → (∀ b ∈ fp, FpOk X pins H b) → tn i s.heap → J.go i H →
    wpAny (model P w) X.A (pyNext (.ref it)) (fun r s1 => ∃ u, r = some u ∧
      wpAny (model P w) X.A (letOwnedTupleGo tg (.ref it) u) (fun _ s2 => ∃ x H', Inv X pins σ H' s2 ∧ RelV x u ∧ J.yld i H x H' ∧ tn (i + 1) s2.heap ∧ ∀ b ∈ fp, H' b = none) E s1) E s
  done : ∀ (X : Cx), X.prog = P → X.w = w → X.K = K → X.calm = true → ∀ (i : Nat) (pins : List (Addr × Obj)) (s : Shared) (σ : St) (H : Hp) (E : Value → Shared → Prop), Inv X pins σ H s → (∀ b ∈ fp, FpOk X pins H b) → tn i s.heap → J.stop i H →
    wpAny (model P w) X.A (pyNext (.ref it)) (fun r s1 => r = none ∧ Inv X pins σ H s1) E s
  self : ∀ (A : Around) (i : Nat) (s : Shared) (Q : Value → Shared → Prop) (E : Value → Shared → Prop), tn i s.heap → Q (.ref it) s → wpAny (model P w) A (pyIter (.ref it)) Q E s
abbrev TI := St → Hp → (It → Hp → Prop) → Prop
def PIE (X : Cx) (pins : List (Addr × Obj)) (σ : St) (tg : Expr) (R : It → Hp → Prop) (itv : Value) (s2 : Shared) : Prop :=
  ∃ (it : Addr) (fp : List Addr) (tn : Nat → Heap → Prop) (J : It) (H' : Hp), itv = .ref it ∧ Inv X pins σ H' s2 ∧ Turn X.prog X.w X.K tg J fp it tn ∧ tn 0 s2.heap ∧ (∀ b ∈ fp, FpOk X pins H' b) ∧ R J H'
def PI (X : Cx) (tg iter : Expr) (wi : TI) : Prop :=
  ∀ (pins : List (Addr × Obj)) (s : Shared) (σ : St) (H : Hp) (R : It → Hp → Prop), Inv X pins σ H s → wi σ H R →
    wpAny (model X.prog X.w) X.A (eval iter X.env) (fun v s1 => wpAny (model X.prog X.w) X.A (pyIter v) (PIE X pins σ tg R) X.xe s1) X.xe s
theorem go_of {M : Model} {A : Around} {E : Value → Shared → Prop} {s : Shared} {tg : Expr} {it : Addr} {u : Value} {o : Obj} {n : String} {vs : Array Value} {Q : Unit → Shared → Prop} (ho : s.heap.get? it = some o) (hc : o.cls = .type n) (hd : o.data = .fields vs)
    (hn : ["enumerate", "zip", "dict_itemiterator", "dict_reverseitemiterator", "odict_iterator", "itertools.zip_longest", "itertools.pairwise"].contains n = false) (hQ : Q () s) : wpAny M A (letOwnedTupleGo tg (.ref it) u) Q E s := by
  unfold letOwnedTupleGo
  cases tg <;> first
    | exact wpAny_pure hQ
    | (cases u <;> first
        | exact wpAny_pure hQ
        | (refine wpAny_bind (wpAny_load ho ?_)
           rw [hc, hd]
           show wpAny M A (if (["enumerate", "zip", "dict_itemiterator", "dict_reverseitemiterator", "odict_iterator", "itertools.zip_longest", "itertools.pairwise"].contains n && vs[0]? == some (rawInt _)) = true then _ else _) Q E s
           rw [if_neg (by intro h; rw [hn, Bool.false_and] at h; cases h)]
           exact wpAny_pure hQ))
def Itl (K : PySem.W.Frag) (a : Addr) : It :=
  ⟨fun i H => ∃ xs x, SqL K H a xs ∧ xs[i]? = some x, fun i H x H' => H' = H ∧ ∀ xs, SqL K H a xs → xs[i]? = some x, fun i H => ∃ xs, SqL K H a xs ∧ xs.length ≤ i⟩
def Itt (K : PySem.W.Frag) (a : Addr) : It :=
  ⟨fun i H => ∃ xs x, SqT K H a xs ∧ xs[i]? = some x, fun i H x H' => H' = H ∧ ∀ xs, SqT K H a xs → xs[i]? = some x, fun i H => ∃ xs, SqT K H a xs ∧ xs.length ≤ i⟩
def Itr (lo : Int) (n : Nat) : It := ⟨fun i _ => i < n, fun i H x H' => H' = H ∧ x = .int (lo + i), fun i _ => n ≤ i⟩
theorem turn_list {P : Program} {w : World} {K : PySem.W.Frag} {tg : Expr} (a it : Addr) : Turn P w K tg (Itl K a) [it] it (fun i h => h.IsListIter it a i) where
  mem := by simp
  obj := fun i h st b hb => by
    have e : b = it := by simpa using hb
    subst e
    obtain ⟨o, e, c, d⟩ := st
    exact ⟨o, e, fun v z => by rw [d] at z; cases z⟩
  keep := fun i h h' st k => st.at fun o e => k it (by simp) o e
  item := by
    intro X hP hw hK hc i pins s σ H E I hf st hg
    subst hP hw hK
    obtain ⟨xs, x, hq, hx⟩ := hg
    obtain ⟨its, rv, p, hz⟩ := I.list hq
    obtain ⟨u, hu, ru⟩ := rv.get hx
    obtain ⟨f0, f1, f2, f3, f4, f5⟩ := hf it (by simp)
    refine wpAny_pyNext_list_item st p.isList (x := u) (by simpa using hu) fun h' st' sb => ?_
    have I1 : Inv X pins σ H { s with heap := h' } := I.turned (t' := s.toks) (fun b o hb e => (sb.2 b hb).trans e) f0 f1 f3 f4 f5
    obtain ⟨o, e, c, d⟩ := id st'
    exact ⟨u, rfl, go_of (s := { s with heap := h' }) e c d (by decide) ⟨x, H, I1, ru, ⟨rfl, fun ys hy => by rw [I.list_inj hy hq]; exact hx⟩, st', fun b hb => (hf b hb).1⟩⟩
  done := by
    intro X hP hw hK hc i pins s σ H E I hf st hg
    subst hP hw hK
    obtain ⟨xs, hq, hx⟩ := hg
    obtain ⟨its, rv, p, hz⟩ := I.list hq
    obtain ⟨f0, f1, f2, f3, f4, f5⟩ := hf it (by simp)
    have hl := rv.length
    exact wpAny_pyNext_list_end (I.ok.hd hc) st p.isList (by simp; omega) fun h' eb => ⟨rfl, I.turned (t' := s.toks) (fun b o hb e => eb b o hb e) f0 f1 f3 f4 f5⟩
  self := fun _ _ _ _ _ st h => wpAny_pyIter_listiter st h
theorem turn_tuple {P : Program} {w : World} {K : PySem.W.Frag} {tg : Expr} (a it : Addr) : Turn P w K tg (Itt K a) [it] it (fun i h => h.IsTupleIter it a i) where
  mem := by simp
  obj := fun i h st b hb => by
    have e : b = it := by simpa using hb
    subst e
    obtain ⟨o, e, c, d⟩ := st
    exact ⟨o, e, fun v z => by rw [d] at z; cases z⟩
  keep := fun i h h' st k => st.at fun o e => k it (by simp) o e
  item := by
    intro X hP hw hK hc i pins s σ H E I hf st hg
    subst hP hw hK
    obtain ⟨xs, x, hq, hx⟩ := hg
    obtain ⟨its, rv, p, hz⟩ := I.tuple hq
    obtain ⟨u, hu, ru⟩ := rv.get hx
    obtain ⟨f0, f1, f2, f3, f4, f5⟩ := hf it (by simp)
    refine wpAny_pyNext_tuple_item st (show s.heap.IsTuple a its.toArray from p) (x := u) (by simpa using hu) fun h' st' sb => ?_
    have I1 : Inv X pins σ H { s with heap := h' } := I.turned (t' := s.toks) (fun b o hb e => (sb.2 b hb).trans e) f0 f1 f3 f4 f5
    obtain ⟨o, e, c, d⟩ := id st'
    exact ⟨u, rfl, go_of (s := { s with heap := h' }) e c d (by decide) ⟨x, H, I1, ru, ⟨rfl, fun ys hy => by rw [I.tuple_inj hy hq]; exact hx⟩, st', fun b hb => (hf b hb).1⟩⟩
  done := by
    intro X hP hw hK hc i pins s σ H E I hf st hg
    subst hP hw hK
    obtain ⟨xs, hq, hx⟩ := hg
    obtain ⟨its, rv, p, hz⟩ := I.tuple hq
    obtain ⟨f0, f1, f2, f3, f4, f5⟩ := hf it (by simp)
    have hl := rv.length
    exact wpAny_pyNext_tuple_end (I.ok.hd hc) st (show s.heap.IsTuple a its.toArray from p) (by simp; omega) fun h' eb => ⟨rfl, I.turned (t' := s.toks) (fun b o hb e => eb b o hb e) f0 f1 f3 f4 f5⟩
  self := fun _ _ _ _ _ st h => wpAny_pyIter_tupleiter st h
theorem turn_range {P : Program} {w : World} {K : PySem.W.Frag} {tg : Expr} (it : Addr) (lo : Int) (n : Nat) : Turn P w K tg (Itr lo n) [it] it (fun i h => IsRangeIter h it (lo + (i : Nat) * 1) ((n : Int) - (i : Nat)) 1) where
  mem := by simp
  obj := fun i h st b hb => by
    have e : b = it := by simpa using hb
    subst e
    exact ⟨_, st, fun v z => by
      have z' : Data.fields _ = Data.cell v := z
      cases z'⟩
  keep := fun i h h' st k => k it (by simp) _ st
  item := by
    intro X hP hw hK hc i pins s σ H E I hf st hg
    subst hP hw hK
    obtain ⟨f0, f1, f2, f3, f4, f5⟩ := hf it (by simp)
    have W := Walks.range (prog := X.prog) (w := X.w) (I.ok.hd hc) it lo 1 n
    refine W.item i s _ _ hg st fun v h' tk hv st' kk => ?_
    obtain ⟨t, rfl⟩ := hv
    have I1 : Inv X pins σ H { s with heap := h', toks := tk } := I.turned (fun b o hb e => kk b o (by simpa using hb) e) f0 f1 f3 f4 f5
    refine ⟨_, rfl, go_of (s := { s with heap := h', toks := tk }) (n := "range_iterator") st' rfl rfl (by decide) ⟨.int (lo + i), H, I1, ⟨t, ?_⟩, ⟨rfl, rfl⟩, st', fun b hb => (hf b hb).1⟩⟩
    rw [Int.mul_one]
  done := by
    intro X hP hw hK hc i pins s σ H E I hf st hg
    subst hP hw hK
    obtain ⟨f0, f1, f2, f3, f4, f5⟩ := hf it (by simp)
    exact wpAny_pyNext_range_end (I.ok.hd hc) st (by have : n ≤ i := hg; omega) fun h' eb => ⟨rfl, I.turned (t' := s.toks) (fun b o hb e => eb b o hb e) f0 f1 f3 f4 f5⟩
  self := fun _ _ _ _ _ st h => wpAny_pyIter_rangeiter st h
end L2
namespace L2
open PySem PySem.Spec PyProof.Rows
section
variable {X : Cx} {tg : Expr}
def iList (K : PySem.W.Frag) (tl : TE) : TI := fun σ H R => tl σ H fun x H1 => ∃ a, x = .ref a ∧ (∃ xs, SqL K H1 a xs) ∧ R (Itl K a) H1
theorem pi_list {l : Expr} {tl : TE} (hl : PE X l tl) : PI X tg l (iList X.K tl) := by
  intro pins s σ H R I h
  refine thn (hl pins s σ H _ I h) fun v s1 ⟨x, H1, I1, r1, q1⟩ => ?_
  obtain ⟨a, e, ⟨xs, hq⟩, q⟩ := q1
  subst e
  cases r1
  obtain ⟨its, rv, p, hz⟩ := I1.list hq
  refine wpAny_pyIter_list p.isList ?_
  refine ⟨s1.heap.objs.size, [s1.heap.objs.size], _, _, H1, rfl, I1.kept (t' := s1.toks) fun b o e => Heap.get?_push_of_some _ e, turn_list a _, ⟨_, Heap.get?_push_size _ rfl, rfl, rfl⟩, fun b hb => ?_, q⟩
  have e : b = s1.heap.objs.size := by simpa using hb
  subst e
  exact I1.fpOk (Nat.le_refl _) (I1.hok.fresh (Nat.le_refl _))
theorem range_it {pins : List (Addr × Obj)} {σ : St} {H : Hp} {s : Shared} {R : It → Hp → Prop} {E : Value → Shared → Prop} {lo hi : Int} {t u v : Tok} {tk : Nat} (I : Inv X pins σ H s) (h1 : -(2 ^ 62) ≤ lo) (h2 : lo < 2 ^ 62) (h3 : -(2 ^ 62) ≤ hi) (h4 : hi < 2 ^ 62)
    (q : R (Itr lo (hi - lo).toNat) H) : wpAny (model X.prog X.w) X.A (pyIter (.ref s.heap.objs.size)) (PIE X pins σ tg R) E { s with heap := s.heap.push { cls := .type "range", data := .fields #[.int lo t, .int hi u, .int 1 v] }, toks := tk } := by
  refine wpAny_pyIter_range (IsRange.new ..) (small_one h1 h2 h3 h4) ?_
  have I1 : Inv X pins σ H { s with heap := s.heap.push { cls := .type "range", data := .fields #[.int lo t, .int hi u, .int 1 v] }, toks := tk } := I.kept fun b o e => Heap.get?_push_of_some _ e
  refine ⟨(s.heap.push { cls := .type "range", data := .fields #[.int lo t, .int hi u, .int 1 v] }).objs.size, [(s.heap.push { cls := .type "range", data := .fields #[.int lo t, .int hi u, .int 1 v] }).objs.size], _, _, H, rfl,
    I1.kept (t' := tk) fun b o e => Heap.get?_push_of_some _ e, turn_range _ lo (hi - lo).toNat, ?_, fun b hb => ?_, q⟩
  · have e1 : lo + ((0 : Nat) : Int) * 1 = lo := by simp
    have e2 : (((hi - lo).toNat : Nat) : Int) - ((0 : Nat) : Int) = Builtin.Range.rangeSize lo hi 1 := by rw [rangeSize_one]; split <;> omega
    show IsRangeIter _ _ (lo + ((0 : Nat) : Int) * 1) ((((hi - lo).toNat : Nat) : Int) - ((0 : Nat) : Int)) 1
    rw [e1, e2]
    exact Heap.get?_push_size _ rfl
  · have e : b = (s.heap.push { cls := .type "range", data := .fields #[.int lo t, .int hi u, .int 1 v] }).objs.size := by simpa using hb
    subst e
    exact I1.fpOk (Nat.le_refl _) (I1.hok.fresh (Nat.le_refl _))
def iRng1 (ta : TA) : TI := fun σ H R => ta σ H fun vs H1 => ∃ j : Int, vs = [.int j] ∧ -(2 ^ 62) ≤ j ∧ j < 2 ^ 62 ∧ R (Itr 0 j.toNat) H1
def iRng2 (ta : TA) : TI := fun σ H R => ta σ H fun vs H1 => ∃ i j : Int, vs = [.int i, .int j] ∧ (-(2 ^ 62) ≤ i ∧ i < 2 ^ 62 ∧ -(2 ^ 62) ≤ j ∧ j < 2 ^ 62) ∧ R (Itr i (j - i).toNat) H1
theorem pi_range1 {a : Expr} {ta : TA} {p pos : Pos} (hg : Gl X "range") (hm : X.mg "range" = none) (ha : PA X [a] ta) (hs : starEach [a] X.env = [(false, eval a X.env)] := by rfl) : PI X tg (.Call (.Name "range" p) [a] [] pos) (iRng1 ta) := by
  intro pins s σ H R I h
  refine Call_ (ld_blt I hg hm boot_range (PyProof.Rows.callWith_type1 (thn (ha pos pins s σ H _ I h) fun us s1 ⟨vs, H1, I1, r1, q1⟩ => ?_) hs rfl))
  obtain ⟨j, e, q1, q2, q⟩ := q1
  subst e
  cases r1 with
  | cons r rr =>
    cases rr
    obtain ⟨t, rfl⟩ := r
    exact call_range_1 (range_it I1 (by omega) (by omega) q1 q2 (by simpa using q))
theorem pi_range2 {a b : Expr} {ta : TA} {p pos : Pos} (hg : Gl X "range") (hm : X.mg "range" = none) (ha : PA X [a, b] ta) (hs : starEach [a, b] X.env = [(false, eval a X.env), (false, eval b X.env)] := by rfl) (hs2 : starEach [b] X.env = [(false, eval b X.env)] := by rfl) :
    PI X tg (.Call (.Name "range" p) [a, b] [] pos) (iRng2 ta) := by
  intro pins s σ H R I h
  refine Call_ (ld_blt I hg hm boot_range (PyProof.Rows.callWith_type1 (thn (ha pos pins s σ H _ I h) fun us s1 ⟨vs, H1, I1, r1, q1⟩ => ?_) (by rw [hs, hs2]) (by rw [hs2]; rfl)))
  obtain ⟨i, j, e, ⟨q1, q2, q3, q4⟩, q⟩ := q1
  subst e
  cases r1 with
  | cons r rr =>
    cases rr with
    | cons r' rr =>
      cases rr
      obtain ⟨t, rfl⟩ := r
      obtain ⟨t', rfl⟩ := r'
      exact call_range_2 (range_it I1 q1 q2 q3 q4 q)
def tFor (wi : TI) (g : TG) (tb : TS) : TS := fun D σ H => wi σ H fun J H1 => ∃ W : Nat → Nat → St → Hp → Prop, (∃ m, W 0 m σ H1) ∧ ∀ i m σ H, W i m σ H →
  (J.stop i H ∧ D.nx σ H) ∨ (J.go i H ∧ ∃ N : St → Hp → Prop, (∀ σ' H', N σ' H' → ∃ m', m' < m ∧ W (i + 1) m' σ' H') ∧ ∀ x H', J.yld i H x H' → g x σ H' fun σ2 H2 => tb { D with nx := N, ct := N, bk := D.nx } σ2 H2)
def pinsAt (fp : List Addr) (h : Heap) : List (Addr × Obj) := fp.filterMap fun b => (h.get? b).map fun o => (b, o)
theorem mem_pinsAt {fp : List Addr} {h : Heap} {b : Addr} {o : Obj} (hb : b ∈ fp) (e : h.get? b = some o) : (b, o) ∈ pinsAt fp h := List.mem_filterMap.mpr ⟨b, hb, by rw [e]; rfl⟩
theorem of_pinsAt {fp : List Addr} {h : Heap} {p : Addr × Obj} (hp : p ∈ pinsAt fp h) : p.1 ∈ fp ∧ h.get? p.1 = some p.2 := by
  obtain ⟨b, hb, e⟩ := List.mem_filterMap.mp hp
  cases q : h.get? b with
  | none => rw [q] at e; cases e
  | some o =>
    rw [q] at e
    have e' : (b, o) = p := Option.some.inj e
    subst e'
    exact ⟨hb, q⟩
theorem Inv.pinned {pins : List (Addr × Obj)} {σ : St} {H : Hp} {s : Shared} {fp : List Addr} (I : Inv X pins σ H s) (hf : ∀ b ∈ fp, FpOk X pins H b) (ho : ∀ b ∈ fp, ∃ o, s.heap.get? b = some o ∧ ∀ v, o.data ≠ .cell v) : Inv X (pins ++ pinsAt fp s.heap) σ H s :=
  I.pins_of fun p hp => (List.mem_append.mp hp).elim (fun z => I.pin p (List.mem_append_right _ z)) fun z => by
    obtain ⟨hb, e⟩ := of_pinsAt z
    obtain ⟨f0, f1, f2, _⟩ := hf p.1 hb
    obtain ⟨o, e', d⟩ := ho p.1 hb
    rw [e] at e'; cases e'
    exact ⟨e, f0, f1, f2, d⟩
theorem Inv.unpinned {pins pl : List (Addr × Obj)} {σ : St} {H : Hp} {s : Shared} (I : Inv X (pins ++ pl) σ H s) : Inv X pins σ H s := I.pins_of fun p hp => I.pin p (List.mem_append_right _ (List.mem_append_left _ hp))
theorem ps_for {iter : Expr} {body : List Stmt} {wi : TI} {g : TG} {tb : TS} {pos : Pos} (hp : PassesOwn (model X.prog X.w) X.A X.env X.xe) (hc : X.calm = true) (hi : PI X tg iter wi) (hg : PG X tg g) (hb : PSs X body tb)
    (hs : ∀ x, foldedSetIterable iter X.env x = pure x := by intro _; rfl) : PS X (.For tg iter body [] pos) (tFor wi g tb) := by
  intro pins s σ H D I h
  refine wpAny_For (thn (hi pins s σ H _ I h) fun v s1 h1 => thn h1 fun itv s2 h2 => ?_) hs
  obtain ⟨it, fp, tn, J, H2, e, I2, T, st2, f2, W, ⟨m0, w0⟩, turn⟩ := h2
  subst e
  have stat : ∀ {H' : Hp}, (∀ b ∈ fp, H' b = none) → ∀ b ∈ fp, FpOk X pins H' b := fun hn b hb => ⟨hn b hb, (f2 b hb).2⟩
  refine codeAny_forLoop_any (fun n s' => ∃ i σ' H', Inv X pins σ' H' s' ∧ tn i s'.heap ∧ (∀ b ∈ fp, H' b = none) ∧ W i n σ' H') ?_ m0 ⟨0, σ, H2, I2, st2, fun b hb => (f2 b hb).1, w0⟩
  rintro n s3 ⟨i, σ3, H3, I3, st3, fr3, w3⟩
  rcases turn i n σ3 H3 w3 with ⟨stop, qn⟩ | ⟨go, N, hN, step⟩
  · refine wpAny_passesOwn hp (thn (T.done X rfl rfl rfl hc i pins s3 σ3 H3 X.xe I3 (stat fr3) st3 stop) fun r s4 ⟨hr, I4⟩ => ?_)
    subst hr
    exact wpAny_execs_nil ⟨σ3, H3, I4, qn⟩
  · refine wpAny_passesOwn hp (thn (T.item X rfl rfl rfl hc i pins s3 σ3 H3 X.xe I3 (stat fr3) st3 go) fun r s4 ⟨u, hr, h4⟩ => ?_)
    subst hr
    refine wpAny_passesOwn hp (thn h4 fun _ s5 ⟨x, H5, I5, r5, y5, st5, fr5⟩ => ?_)
    have I5' := I5.pinned (stat fr5) (T.obj _ _ st5)
    refine wpAny_passesOwn hp (thn (hg _ s5 σ3 H5 x u _ I5' r5 (step x H5 y5)) fun _ s6 ⟨σ6, H6, I6, q6⟩ => ?_)
    refine wpAny_passesOwn hp (thn (hb _ s6 σ6 H6 _ I6 q6) fun f s7 q7 => ?_)
    have again : ∀ {σ7 : St} {H7 : Hp}, Inv X (pins ++ pinsAt fp s5.heap) σ7 H7 s7 → N σ7 H7 → ∃ m, m < n ∧ ∃ i σ' H', Inv X pins σ' H' s7 ∧ tn i s7.heap ∧ (∀ b ∈ fp, H' b = none) ∧ W i m σ' H' := fun {σ7 H7} I7 n7 => by
      obtain ⟨m', hm, w7⟩ := hN σ7 H7 n7
      refine ⟨m', hm, i + 1, σ7, H7, I7.unpinned, T.keep _ _ _ st5 fun b hb o e => (I7.pin (b, o) (List.mem_append_right _ (List.mem_append_right _ (mem_pinsAt hb e)))).1, fun b hb => ?_, w7⟩
      obtain ⟨o, e, d⟩ := T.obj _ _ st5 b hb
      exact (I7.pin (b, o) (List.mem_append_right _ (List.mem_append_right _ (mem_pinsAt hb e)))).2.1
    cases f with
    | next => obtain ⟨σ7, H7, I7, n7⟩ := q7; exact again I7 n7
    | cont => obtain ⟨σ7, H7, I7, n7⟩ := q7; exact again I7 n7
    | brk => obtain ⟨σ7, H7, I7, q7⟩ := q7; exact ⟨σ7, H7, I7.unpinned, q7⟩
    | ret v => obtain ⟨x7, σ7, H7, I7, r7, q7⟩ := q7; exact ⟨x7, σ7, H7, I7.unpinned, r7, q7⟩
end
theorem for_list {K : PySem.W.Frag} {a : Addr} {xs : List V} {g : TG} {tb : TS} {D : Ends} {σ : St} {H : Hp} (Pv : Nat → St → Hp → Prop) (h0 : Pv 0 σ H) (hl : ∀ i σ H, i ≤ xs.length → Pv i σ H → SqL K H a xs)
    (hs : ∀ i x σ H, xs[i]? = some x → Pv i σ H → g x σ H fun σ2 H2 => tb { D with nx := Pv (i + 1), ct := Pv (i + 1), bk := D.nx } σ2 H2) (hd : ∀ σ H, Pv xs.length σ H → D.nx σ H) :
    ∃ W : Nat → Nat → St → Hp → Prop, (∃ m, W 0 m σ H) ∧ ∀ i m σ H, W i m σ H →
      ((Itl K a).stop i H ∧ D.nx σ H) ∨ ((Itl K a).go i H ∧ ∃ N : St → Hp → Prop, (∀ σ' H', N σ' H' → ∃ m', m' < m ∧ W (i + 1) m' σ' H') ∧ ∀ x H', (Itl K a).yld i H x H' → g x σ H' fun σ2 H2 => tb { D with nx := N, ct := N, bk := D.nx } σ2 H2) := by
  refine ⟨fun i m σ H => m = xs.length - i ∧ i ≤ xs.length ∧ Pv i σ H, ⟨xs.length, by simp, Nat.zero_le _, h0⟩, ?_⟩
  rintro i m σ H ⟨rfl, hi, p⟩
  have q := hl i σ H hi p
  by_cases hlt : i < xs.length
  · refine .inr ⟨⟨xs, xs[i], q, by simp [hlt]⟩, Pv (i + 1), fun σ' H' p' => ⟨xs.length - (i + 1), by omega, rfl, hlt, p'⟩, fun x H' y => ?_⟩
    obtain ⟨e, y⟩ := y
    subst e
    exact hs i x σ _ (y xs q) p
  · have e : i = xs.length := by omega
    subst e
    exact .inl ⟨⟨xs, q, Nat.le_refl _⟩, hd σ H p⟩
end L2
namespace L2
open PySem PySem.Spec PyProof.Rows
abbrev R2 := V → V → Hp → VK → Prop
def OpR (X : Cx) (f : Value → Value → Sem Value) (r : R2) : Prop :=
  ∀ (pins : List (Addr × Obj)) (s : Shared) (σ : St) (H : Hp) (x y : V) (v u : Value) (Q : VK), Inv X pins σ H s → RelV x v → RelV y u → r x y H Q →
    wpAny (model X.prog X.w) X.A (f v u) (EP X pins σ Q) X.xe s
def UnR (X : Cx) (f : Value → Sem Value) (r : V → Hp → VK → Prop) : Prop :=
  ∀ (pins : List (Addr × Obj)) (s : Shared) (σ : St) (H : Hp) (x : V) (v : Value) (Q : VK), Inv X pins σ H s → RelV x v → r x H Q →
    wpAny (model X.prog X.w) X.A (f v) (EP X pins σ Q) X.xe s
def CallR (X : Cx) (f : Value) (r : List V → Hp → VK → Prop) : Prop :=
  ∀ (pins : List (Addr × Obj)) (s : Shared) (σ : St) (H : Hp) (xs : List V) (us : List Value) (Q : VK), Inv X pins σ H s → Vals xs us → r xs H Q →
    wpAny (model X.prog X.w) X.A (call f us) (EP X pins σ Q) X.xe s
def TruR (X : Cx) (r : V → Hp → (Bool → Hp → Prop) → Prop) : Prop :=
  ∀ (pins : List (Addr × Obj)) (s : Shared) (σ : St) (H : Hp) (x : V) (v : Value) (Q : Bool → Hp → Prop), Inv X pins σ H s → RelV x v → r x H Q →
    wpAny (model X.prog X.w) X.A (truthy v) (TP X pins σ Q) X.xe s
def tOp (r : R2) (ta tb : TE) : TE := fun σ H Q => ta σ H fun x H1 => tb σ H1 fun y H2 => r x y H2 Q
def tUn (r : V → Hp → VK → Prop) (ta : TE) : TE := fun σ H Q => ta σ H fun x H1 => r x H1 Q
def rI (C : Int → Int → Prop) (g : Int → Int → V) : R2 := fun x y H Q => ∃ i j, x = .int i ∧ y = .int j ∧ C i j ∧ Q (g i j) H
def rI0 (g : Int → Int → V) : R2 := fun x y H Q => ∃ i j, x = .int i ∧ y = .int j ∧ Q (g i j) H
def rU (g : Int → V) : V → Hp → VK → Prop := fun x H Q => ∃ i, x = .int i ∧ Q (g i) H
section
variable {X : Cx} {a b c : Expr} {ta tb tc : TE} {pos : Pos}
theorem binT (ha : PE X a ta) (hb : PE X b tb) {pins : List (Addr × Obj)} {s : Shared} {σ : St} {H : Hp} {R : V → V → Hp → Prop} (I : Inv X pins σ H s)
    (h : ta σ H fun x H1 => tb σ H1 fun y H2 => R x y H2) {Q : Value → Shared → Prop} {f : Value → Value → Sem Value}
    (hf : ∀ v u s2 x y H2, Inv X pins σ H2 s2 → RelV x v → RelV y u → R x y H2 → wpAny (model X.prog X.w) X.A (f v u) Q X.xe s2) :
    wpAny (model X.prog X.w) X.A (eval a X.env) (fun v s₁ => wpAny (model X.prog X.w) X.A (eval b X.env) (fun u s₂ => wpAny (model X.prog X.w) X.A (f v u) Q X.xe s₂) X.xe s₁) X.xe s := by
  refine thn (ha pins s σ H _ I h) fun v s1 ⟨x, H1, I1, r1, q1⟩ => ?_
  refine thn (hb pins s1 σ H1 _ I1 q1) fun u s2 ⟨y, H2, I2, r2, q2⟩ => ?_
  exact hf v u s2 x y H2 I2 r1 r2 q2
theorem pe_op {op : Operator} {r : R2} (ho : OpR X (binaryOp op) r) (ha : PE X a ta) (hb : PE X b tb) : PE X (.BinOp a op b pos) (tOp r ta tb) := by
  intro pins s σ H Q I h
  exact wpAny_BinOp (binT ha hb I h fun v u s2 x y H2 I2 rx ry q => ho pins s2 σ H2 x y v u Q I2 rx ry q)
theorem pe_un {op : UnaryOp} {r : V → Hp → VK → Prop} (ho : UnR X (unaryOp op) r) (ha : PE X a ta) : PE X (.UnaryOp op a pos) (tUn r ta) := by
  intro pins s σ H Q I h
  exact UnaryOp_ (thn (ha pins s σ H _ I h) fun v s1 ⟨x, H1, I1, r1, q1⟩ => ho pins s1 σ H1 x v Q I1 r1 q1)
theorem opI {f : Value → Value → Sem Value} {C : Int → Int → Prop} {g : Int → Int → Int}
    (rule : ∀ (i j : Int) (t u : Tok) (s : Shared) (Q : Value → Shared → Prop) (E : Value → Shared → Prop), C i j → Q (.int (g i j) s.toks) { s with toks := s.toks + 1 } → wpAny (model X.prog X.w) X.A (f (.int i t) (.int j u)) Q E s) :
    OpR X f (rI C fun i j => .int (g i j)) := by
  intro pins s σ H x y v u Q I rx ry h
  obtain ⟨i, j, rfl, rfl, hc, q⟩ := h
  obtain ⟨t, rfl⟩ := rx
  obtain ⟨t', rfl⟩ := ry
  exact rule i j t t' s _ _ hc ⟨.int (g i j), H, I.tok _, ⟨_, rfl⟩, q⟩
theorem opI0 {f : Value → Value → Sem Value} {g : Int → Int → Int}
    (rule : ∀ (i j : Int) (t u : Tok) (s : Shared) (Q : Value → Shared → Prop) (E : Value → Shared → Prop), Q (.int (g i j) s.toks) { s with toks := s.toks + 1 } → wpAny (model X.prog X.w) X.A (f (.int i t) (.int j u)) Q E s) :
    OpR X f (rI0 fun i j => .int (g i j)) := by
  intro pins s σ H x y v u Q I rx ry h
  obtain ⟨i, j, rfl, rfl, q⟩ := h
  obtain ⟨t, rfl⟩ := rx
  obtain ⟨t', rfl⟩ := ry
  exact rule i j t t' s _ _ ⟨.int (g i j), H, I.tok _, ⟨_, rfl⟩, q⟩
theorem opB0 {f : Value → Value → Sem Value} {g : Int → Int → Bool}
    (rule : ∀ (i j : Int) (t u : Tok) (s : Shared) (Q : Value → Shared → Prop) (E : Value → Shared → Prop), Q (.bool (g i j)) s → wpAny (model X.prog X.w) X.A (f (.int i t) (.int j u)) Q E s) :
    OpR X f (rI0 fun i j => .bl (g i j)) := by
  intro pins s σ H x y v u Q I rx ry h
  obtain ⟨i, j, rfl, rfl, q⟩ := h
  obtain ⟨t, rfl⟩ := rx
  obtain ⟨t', rfl⟩ := ry
  exact rule i j t t' s _ _ ⟨.bl (g i j), H, I, rfl, q⟩
def CMul (i j : Int) : Prop := (-(2 ^ 64) < i ∧ i < 2 ^ 64) ∨ (-(2 ^ 64) < j ∧ j < 2 ^ 64)
theorem CMul.ok {i j : Int} (h : CMul i j) : IntMulOk i j := by
  rcases h with ⟨h1, h2⟩ | ⟨h1, h2⟩
  · exact .of_left (intBits_le_64 h1 h2)
  · exact .of_right (intBits_le_64 h1 h2)
theorem op_add : OpR X (binaryOp .Add) (rI0 fun i j => .int (i + j)) := opI0 fun _ _ _ _ _ _ _ q => add_int q
theorem op_sub : OpR X (binaryOp .Sub) (rI0 fun i j => .int (i - j)) := opI0 fun _ _ _ _ _ _ _ q => sub_int q
theorem op_modN : OpR X (binaryOp .Mod) (rI (fun _ j => j ≠ 0) fun i j => .int (i.fmod j)) := opI fun _ _ _ _ _ _ _ hc q => mod_int' hc q
theorem unI {f : Value → Sem Value} {g : Int → Int}
    (rule : ∀ (i : Int) (t : Tok) (s : Shared) (Q : Value → Shared → Prop) (E : Value → Shared → Prop), Q (.int (g i) s.toks) { s with toks := s.toks + 1 } → wpAny (model X.prog X.w) X.A (f (.int i t)) Q E s) :
    UnR X f (rU fun i => .int (g i)) := by
  intro pins s σ H x v Q I rx h
  obtain ⟨i, rfl, q⟩ := h
  obtain ⟨t, rfl⟩ := rx
  exact rule i t s _ _ ⟨.int (g i), H, I.tok _, ⟨_, rfl⟩, q⟩
theorem un_neg : UnR X (unaryOp .USub) (rU fun i => .int (-i)) := unI fun _ _ _ _ _ q => neg_int q
end
section
variable {X : Cx} {a b c : Expr} {ta tb tc : TE} {pos : Pos}
theorem op_lt : OpR X (compareOp .Lt) (rI0 fun i j => .bl (decide (i < j))) := opB0 fun _ _ _ _ _ _ _ q => lt_int q
theorem op_le : OpR X (compareOp .LtE) (rI0 fun i j => .bl (decide (i ≤ j))) := opB0 fun _ _ _ _ _ _ _ q => le_int q
theorem op_gt : OpR X (compareOp .Gt) (rI0 fun i j => .bl (decide (j < i))) := opB0 fun _ _ _ _ _ _ _ q => gt_int q
theorem OpR.or {f : Value → Value → Sem Value} {r r' : R2} (h : OpR X f r) (h' : OpR X f r') : OpR X f (fun x y H Q => r x y H Q ∨ r' x y H Q) := by
  intro pins s σ H x y v u Q I rx ry q
  rcases q with q | q
  · exact h pins s σ H x y v u Q I rx ry q
  · exact h' pins s σ H x y v u Q I rx ry q
theorem nomark (b : Expr) {op : CmpOp} (h : op ≠ .In := by decide) (h2 : op ≠ .NotIn := by decide) : behindInMarks op b = false := by
  have e1 : (op == CmpOp.In) = false := by cases op <;> first | rfl | exact absurd rfl h
  have e2 : (op == CmpOp.NotIn) = false := by cases op <;> first | rfl | exact absurd rfl h2
  cases b <;> simp [behindInMarks, e1, e2]
theorem pe_cmpR {op : CmpOp} {r : R2} (ho : OpR X (compareOp op) r) (ha : PE X a ta) (hb : PE X b tb) (hm : behindInMarks op b = false) : PE X (.Compare a [op] [b] pos) (tOp r ta tb) := by
  intro pins s σ H Q I h
  exact wpAny_Compare1 (binT ha hb I h fun v u s2 x y H2 I2 rx ry q => ho pins s2 σ H2 x y v u Q I2 rx ry q) hm
def tTest (t : TE) : TT := fun σ H Q => t σ H fun x H' => ∃ k, x = .bl k ∧ Q k H'
theorem pt_cmpR {op : CmpOp} {r : R2} (ho : OpR X (compareOp op) r) (ha : PE X a ta) (hb : PE X b tb) (hm : behindInMarks op b = false) : PT X (.Compare a [op] [b] pos) (tTest (tOp r ta tb)) := by
  intro pins s σ H Q I h
  refine wpAny_isTrue_Compare1 (thn (ha pins s σ H _ I h) fun v s1 ⟨x, H1, I1, r1, q1⟩ => thn (hb pins s1 σ H1 _ I1 q1) fun u s2 ⟨y, H2, I2, r2, q2⟩ =>
    thn (ho pins s2 σ H2 x y v u _ I2 r1 r2 q2) fun c s3 ⟨z, H3, I3, r3, k, e, q3⟩ => ?_) hm
  subst e
  cases r3
  exact wpAny_truthy_bool ⟨H3, I3, q3⟩
def TruV (K : PySem.W.Frag) (x : V) (H : Hp) (k : Bool) : Prop :=
  match x with
  | .non => k = false
  | .bl b => k = b
  | .int i => k = (i != 0)
  | .str y => y.length ≤ sizeLine ∧ k = ((y.length : Int) != 0)
  | .byt y => y.size ≤ sizeLine ∧ k = ((y.size : Int) != 0)
  | .ref p => (∃ xs, SqL K H p xs ∧ k = !xs.isEmpty) ∨ (∃ xs, SqT K H p xs ∧ k = !xs.isEmpty) ∨ ∃ kvs, H p = some (.dK kvs) ∧ k = !kvs.isEmpty
  | _ => False
theorem isEmpty_kv {κ : Type} {kvs : List (κ × V)} {vs : List (κ × Value)} (r : KV kvs vs) : (!vs.isEmpty) = !kvs.isEmpty := by
  cases r <;> rfl
theorem isEmpty_of {xs : List V} {its : List Value} (r : Vals xs its) : (!its.toArray.isEmpty) = !xs.isEmpty := by
  cases r <;> simp
theorem line63 : (sizeLine : Nat) < 2 ^ 63 := by rw [sizeLine_eq]; decide
theorem tru_ok : TruR X (fun x H Q => ∃ k, TruV X.K x H k ∧ Q k H) := by
  intro pins s σ H x v Q I rx h
  obtain ⟨k, e, q⟩ := h
  have hl := line63
  have hs : sizeLine = 16777216 := sizeLine_eq
  cases x with
  | non =>
    cases rx
    have e' : k = false := e
    subst e'
    exact truthy_none ⟨H, I, q⟩
  | bl b =>
    cases rx
    have e' : k = b := e
    subst e'
    exact wpAny_truthy_bool ⟨H, I, q⟩
  | int i =>
    obtain ⟨t, rfl⟩ := rx
    have e' : k = (i != 0) := e
    subst e'
    exact PySem.P.truthy_int ⟨H, I, q⟩
  | str y =>
    obtain ⟨t, rfl⟩ := rx
    obtain ⟨hy, e'⟩ : y.length ≤ sizeLine ∧ k = ((y.length : Int) != 0) := e
    subst e'
    exact PySem.P.truthy_str (by omega) ⟨H, I.tok _, q⟩
  | byt y =>
    obtain ⟨t, rfl⟩ := rx
    obtain ⟨hy, e'⟩ : y.size ≤ sizeLine ∧ k = ((y.size : Int) != 0) := e
    subst e'
    exact PySem.W.truthy_bytes (by omega) ⟨H, I.tok _, q⟩
  | ref p =>
    cases rx
    have e' : (∃ xs, SqL X.K H p xs ∧ k = !xs.isEmpty) ∨ (∃ xs, SqT X.K H p xs ∧ k = !xs.isEmpty) ∨ ∃ kvs, H p = some (.dK kvs) ∧ k = !kvs.isEmpty := e
    rcases e' with ⟨xs, hx, e'⟩ | ⟨xs, hx, e'⟩ | ⟨kvs, hx, e'⟩
    · subst e'
      obtain ⟨its, r, pl, hz⟩ := I.list hx
      have hlen := r.length
      exact wpAny_truthy_list pl.isList (by simp only [List.size_toArray]; omega) ⟨H, I.tok _, by rw [isEmpty_of r]; exact q⟩
    · subst e'
      obtain ⟨its, r, pl, hz⟩ := I.tuple hx
      have hlen := r.length
      exact truthy_tuple pl (by simp only [List.size_toArray]; omega) ⟨H, I.tok _, by rw [isEmpty_of r]; exact q⟩
    · subst e'
      obtain ⟨hz, hS, vs, r, m⟩ : kvs.length ≤ sizeLine ∧ (p == sysModules) = false ∧ ∃ vs, KV kvs vs ∧ s.heap.DictOf (mixKind X.prog X.w) p vs := I.hok p _ hx
      have hlen : kvs.length = vs.length := Paired.length r
      exact wpAny_truthy_dict hS m (by omega) ⟨H, I.tok _, by rw [isEmpty_kv r]; exact q⟩
  | _ => exact (show False from e).elim
theorem pt_truth (ha : PE X a ta) (he : ∀ whole, isTrue a X.env whole = (do let v ← whole; standAt a.pos; holding [v] (truthy v))) :
    PT X a (fun σ H Q => ta σ H fun x H' => ∃ k, TruV X.K x H' k ∧ Q k H') := by
  intro pins s σ H Q I h
  exact isTrue_plain (thn (ha pins s σ H _ I h) fun v s1 ⟨x, H1, I1, r1, q1⟩ => tru_ok pins s1 σ H1 x v Q I1 r1 q1) (he _)
theorem vals1 {x : V} {us : List Value} (r : Vals [x] us) : ∃ u, us = [u] ∧ RelV x u := by
  cases r with
  | cons r1 r2 => cases r2; exact ⟨_, rfl, r1⟩
theorem vals2 {x y : V} {us : List Value} (r : Vals [x, y] us) : ∃ u w', us = [u, w'] ∧ RelV x u ∧ RelV y w' := by
  cases r with
  | cons r1 r2 =>
    cases r2 with
    | cons r3 r4 => cases r4; exact ⟨_, _, rfl, r1, r3⟩
theorem call_abs : CallR X (.builtin "abs") (fun xs H Q => ∃ i, xs = [.int i] ∧ Q (.int (if i < 0 then -i else i)) H) := by
  intro pins s σ H xs us Q I r h
  obtain ⟨i, rfl, q⟩ := h
  obtain ⟨u, rfl, t, rfl⟩ := vals1 r
  exact call_abs_int fun u tk => ⟨.int (if i < 0 then -i else i), H, I.tok _, ⟨_, rfl⟩, q⟩
end
end L2
namespace L2
open PySem PySem.Spec PyProof.Rows
structure ObjM (h : Heap) (x dx C : Addr) (mA : Str → Option Value) : Prop where
  obj : h.get? x = some (PySem.W.instObj C dx)
  ns : h.Ns1 dx mA
  ne : dx ≠ x
theorem lookIn_ns {h : Heap} {dx : Addr} {mA : Str → Option Value} (n : h.Ns1 dx mA) : ∃ od, h.get? dx = some od ∧ ∀ name, PySem.W.lookIn name od = some (mA name) := by
  obtain ⟨o, es, ep, ho, hd, hk, _, hm⟩ := n
  refine ⟨o, ho, fun name => ?_⟩
  have e := hm name
  unfold nsFind findBy at e
  rw [← Array.find?_toList] at e
  unfold PySem.W.lookIn
  rw [hd]
  dsimp only
  split
  · rename_i y q
    rw [q] at e
    exact congrArg some e
  · rename_i q
    rw [q] at e
    have a : es.toList.any (·.refKey) = false := by
      rw [List.any_eq_false]
      intro y hy
      obtain ⟨z, t, hkey⟩ := hk y (Array.mem_toList_iff.mp hy)
      simp [DictEntry.refKey, hkey]
    have a' : ¬ es.toList.any (·.refKey) = true := by rw [a]; exact Bool.false_ne_true
    rw [if_neg a']
    exact congrArg some e
theorem ObjM.look {h : Heap} {x dx C : Addr} {mA : Str → Option Value} (I : ObjM h x dx C mA) : ∃ od, PySem.W.InstAt h x (PySem.W.instObj C dx) C (some od) ∧ ∀ name, PySem.W.lookIn name od = some (mA name) :=
  let ⟨od, ho, hl⟩ := lookIn_ns I.ns
  ⟨od, ⟨I.obj, rfl, rfl, ho⟩, hl⟩
section
variable {prog : Program} {w : World} {A : Around} {E : Value → Shared → Prop} {s : Shared} {K : PySem.W.Frag} {x dx C f : Addr} {mA : Str → Option Value} {name : Str} {v : Value}
end
section
variable {P : Program} {w : World} {H H' : Hp} {h h' : Heap} {a C dx : Addr} {fs fs' : List (Str × V)}
theorem ins_get (hok : HOk P w H h) (e : H a = some (.ins C dx fs)) : ∃ mA, ObjM h a dx C mA ∧ (∀ f, RelO (fs.lookup f) (mA f)) ∧ PySem.Within mA (fs.map (·.1)) ∧ fs.length ≤ 1000 ∧ H dx = some (.own a) := by
  obtain ⟨d, z, ne, ob, mA, n, r, q⟩ := (show ObjOk P w H h a (.ins C dx fs) from hok a _ e)
  exact ⟨mA, ⟨ob, n, ne⟩, r, q, z, d⟩
end
structure Cls (K : PySem.W.Frag) (C : Addr) : Prop where
  pg : PySem.W.plainGet K C Str.empty = true
  hd : PySem.W.hasDictIn K C = true
  po : PySem.W.plainOver K C = true
  sa : PySem.W.findIn K (.ref C) "__setattr__" = some (some (.builtin "object.__setattr__"))
theorem Cls.get {K : PySem.W.Frag} {C : Addr} (c : Cls K C) (f : Str) : PySem.W.plainGet K C f = true := c.pg
structure Con (K : PySem.W.Frag) (C : Addr) (f : Str) (v : V) (u : Value) : Prop where
  at_ : PySem.W.findIn K (.ref C) f = some (some u)
  rel : RelV v u
  get : PySem.W.specialIn K u "__get__" = some none
  cp : PySem.W.copiedNames.contains f = false
structure Meth (K : PySem.W.Frag) (C : Addr) (m : Str) (f : Addr) : Prop where
  at_ : PySem.W.findIn K (.ref C) m = some (some (.ref f))
  fn : PySem.W.isFn K (.ref f) = true
  kp : PySem.W.keepIn K (.ref f) = true
section
variable {X : Cx} {pins : List (Addr × Obj)} {σ : St} {H : Hp} {s : Shared} {a C dx : Addr} {fs : List (Str × V)} {f : Str} {v : V} {A : Around} {E : Value → Shared → Prop}
end
section
variable {X : Cx} {o e value : Expr} {f : Str} {pos pos' tpos : Pos} {ta tv : TE}
end
section
variable {X : Cx} {pins : List (Addr × Obj)} {σ : St} {H : Hp} {s : Shared} {A : Around} {E : Value → Shared → Prop} {Q : Value → Shared → Prop} {c : Value} {b : Bool}
inductive TyOf (K : PySem.W.Frag) (H : Hp) : V → Value → Prop where
  | non : TyOf K H .non (.type "NoneType")
  | bl (x : Bool) : TyOf K H (.bl x) (.type "bool")
  | int (i : Int) : TyOf K H (.int i) (.type "int")
  | str (x : Str) : TyOf K H (.str x) (.type "str")
  | flt (x : UInt64) : TyOf K H (.flt x) (.type "float")
  | lst {a : Addr} {xs : List V} (e : H a = some (.lst xs)) : TyOf K H (.ref a) (.type "list")
  | frz {a : Addr} {o : Obj} {xs : List V} (e : H a = some (.frz o (.lst xs))) : TyOf K H (.ref a) (.type "list")
  | tup {a : Addr} {xs : List V} (e : H a = some (.tup xs)) : TyOf K H (.ref a) (.type "tuple")
  | dK {a : Addr} {kvs : List (Key × V)} (e : H a = some (.dK kvs)) : TyOf K H (.ref a) (.type "dict")
  | dT {a : Addr} {kvs : List (List Key × V)} (e : H a = some (.dT kvs)) : TyOf K H (.ref a) (.type "dict")
  | ins {a C dx : Addr} {fs : List (Str × V)} (e : H a = some (.ins C dx fs)) (cl : Cls K C) (ha : PySem.W.findIn K (.ref C) "__class__" = some (some (.builtin "object.__class__")))
      (hn : PySem.W.specialIn K (.builtin "object.__class__") "__get__" = some (some (.builtin "getset_descriptor.__get__"))) (htk : PySem.W.takesIn K (.builtin "object.__class__") = some true)
      (hm : PySem.W.mroIn K C (.type "object") = some true) : TyOf K H (.ref a) (.ref C)
theorem isinst_ok {x : V} {u t : Value} (I : Inv X pins σ H s) (rx : RelV x u) (ty : TyOf X.K H x t) (e : PySem.W.kitOne X.K t c = some b) (h : ∀ tk, Q (.bool b) { s with toks := tk }) :
    wpAny (model X.prog X.w) A (call (.builtin "isinstance") [u, c]) Q E s := by
  cases ty with
  | non => cases (show u = Value.none from rx); exact PySem.W.kia_one PySem.W.kitx_none I.kIn True.intro e (fun z => nomatch z) h
  | bl y => cases (show u = Value.bool y from rx); exact PySem.W.kia_one PySem.W.kitx_bool I.kIn True.intro e (fun z => nomatch z) h
  | int i => obtain ⟨t, q⟩ := (show ∃ t, u = Value.int i t from rx); cases q; exact PySem.W.kia_one PySem.W.kitx_int I.kIn True.intro e (fun z => nomatch z) h
  | str y => obtain ⟨t, q⟩ := (show ∃ t, u = Value.str y t from rx); cases q; exact PySem.W.kia_one PySem.W.kitx_str I.kIn True.intro e (fun z => nomatch z) h
  | flt y => obtain ⟨t, q⟩ := (show ∃ t, u = Value.float y t from rx); cases q; exact PySem.W.kia_one PySem.W.kitx_float I.kIn True.intro e (fun z => nomatch z) h
  | @lst a xs ea =>
    cases (show u = Value.ref a from rx)
    obtain ⟨_, _, n, _, h1⟩ := (show ObjOk X.prog X.w H s.heap a (.lst xs) from I.hok a _ ea)
    exact PySem.W.kia_one PySem.W.kitx_list I.kIn ⟨_, h1, rfl⟩ e (fun z => nomatch z) h
  | @frz a ob xs ea =>
    cases (show u = Value.ref a from rx)
    obtain ⟨_, _, _, n, _, h1⟩ := (show ObjOk X.prog X.w H s.heap a (.frz ob (.lst xs)) from I.hok a _ ea)
    exact PySem.W.kia_one PySem.W.kitx_list I.kIn ⟨_, h1, rfl⟩ e (fun z => nomatch z) h
  | @tup a xs ea =>
    cases (show u = Value.ref a from rx)
    obtain ⟨_, _, _, p⟩ := (show ObjOk X.prog X.w H s.heap a (.tup xs) from I.hok a _ ea)
    obtain ⟨o, h1, h2, _⟩ := p
    exact PySem.W.kia_one PySem.W.kitx_tuple I.kIn ⟨o, h1, h2⟩ e (fun z => nomatch z) h
  | @dK a kvs ea =>
    cases (show u = Value.ref a from rx)
    obtain ⟨_, _, vs, _, p⟩ := (show ObjOk X.prog X.w H s.heap a (.dK kvs) from I.hok a _ ea)
    obtain ⟨o, es, ep, h1, h2, _⟩ := p
    exact PySem.W.kia_one PySem.W.kitx_dict I.kIn ⟨o, h1, h2.1⟩ e (fun z => nomatch z) h
  | @dT a kvs ea =>
    cases (show u = Value.ref a from rx)
    obtain ⟨_, _, xs, _, o, es, ep, h1, h2, _⟩ := (show ObjOk X.prog X.w H s.heap a (.dT kvs) from I.hok a _ ea)
    exact PySem.W.kia_one PySem.W.kitx_dict I.kIn ⟨o, h1, h2.1⟩ e (fun z => nomatch z) h
  | @ins a C dx fs ea cl ha hn htk hm =>
    cases (show u = Value.ref a from rx)
    obtain ⟨mA, O, _⟩ := ins_get I.hok ea
    obtain ⟨od, J, _⟩ := O.look
    exact PySem.W.kia_one (PySem.W.kitx_own (cl.get _) cl.hd ha hn htk hm) I.kIn J e (fun z => nomatch z) h
end
end L2
namespace L2
open PySem PySem.Spec PyProof.Rows
structure Room (k : Nat) (A : Around) : Prop where
  hd : A.handled = none
  dp : A.depth + 3 * k + 120 < recursionLimit
  un : A.units + 16 * k + 200 < cLine
theorem Room.mono {j k : Nat} {A : Around} (r : Room k A) (h : j ≤ k) : Room j A := ⟨r.hd, by have := r.dp; omega, by have := r.un; omega⟩
theorem Room.deeper {k : Nat} {A : Around} (r : Room (k + 1) A) (env : Env) : Room k (A.deeper env) :=
  ⟨r.hd, by have := r.dp; show A.depth + 1 + 3 * k + 120 < _; omega, by have := r.un; show A.units + 3 + 16 * k + 200 < _; omega⟩
theorem Room.in1 {k : Nat} {A : Around} (r : Room (k + 1) A) : Room k A.in1 :=
  ⟨r.hd, by have := r.dp; show A.depth + 3 * k + 120 < _; omega, by have := r.un; show A.units + 1 + 16 * k + 200 < _; omega⟩
theorem Room.depth {k : Nat} {A : Around} (r : Room k A) : A.depth < recursionLimit := by have := r.dp; omega
theorem Room.units {k : Nat} {A : Around} (r : Room k A) : A.units + 64 < cLine := by have := r.un; omega
def tNil : TA := fun _ H Q => Q [] H
def tCons (ta : TE) (tr : TA) : TA := fun σ H Q => ta σ H fun x H1 => tr σ H1 fun xs H2 => Q (x :: xs) H2
section
variable {X : Cx} {e : Expr} {es : List Expr} {te : TE} {t : TA} {pos : Pos}
theorem pa_nil : PA X [] tNil := fun _ _ _ _ H Q I h => Calls.spliced_nil ⟨[], H, I, .nil, h⟩
theorem pa_cons (ha : PE X e te) (hr : PA X es t) (hs : starEach (e :: es) X.env = (false, eval e X.env) :: starEach es X.env := by rfl) : PA X (e :: es) (tCons te t) := by
  intro pos pins s σ H Q I h
  rw [hs]
  show wpAny _ _ (spliced ((false, eval e X.env) :: backTo pos (starEach es X.env))) _ _ s
  refine Calls.spliced_cons (thn (ha pins s σ H _ I h) fun u s1 ⟨x, H1, I1, r1, q1⟩ => ?_)
  exact thn (hr pos pins s1 σ H1 _ I1 q1) fun us s2 ⟨xs, H2, I2, r2, q2⟩ => ⟨x :: xs, H2, I2, .cons r1 r2, q2⟩
def tTup (t : TA) : TE := fun σ H Q => t σ H fun xs H1 => xs.length ≤ sizeLine ∧ ∀ p, H1 p = none → Q (.ref p) (upd H1 p (.tup xs))
def tLst (t : TA) : TE := fun σ H Q => t σ H fun xs H1 => xs.length ≤ sizeLine ∧ ∀ p, H1 p = none → Q (.ref p) (upd H1 p (.lst xs))
theorem pe_tup {x1} (h : PA X es t) : PE X (.Tuple es x1 pos) (tTup t) := by
  intro pins s σ H Q I hq
  refine wpAny_Tuple_spliced (thn (h pos pins s σ H _ I hq) fun us s1 ⟨xs, H1, I1, r, z, q⟩ => ⟨by rw [← r.length]; exact z, ?_⟩)
  have hf : H1 s1.heap.objs.size = none := I1.hok.fresh (Nat.le_refl _)
  refine ⟨.ref s1.heap.objs.size, upd H1 s1.heap.objs.size (.tup xs), I1.laid (t' := s1.toks) (fun b u e => Heap.get?_push_of_some _ e) (Nat.le_refl _) ?_, rfl, q _ hf⟩
  exact ⟨z, us, r, ⟨_, Heap.get?_push_size _ rfl, rfl, _, rfl⟩⟩
theorem pe_lst (h : PA X es t) : PE X (.List es pos) (tLst t) := by
  intro pins s σ H Q I hq
  refine wpAny_List_spliced (thn (h pos pins s σ H _ I hq) fun us s1 ⟨xs, H1, I1, r, z, q⟩ => ⟨by rw [← r.length]; exact z, ?_⟩)
  have hf : H1 s1.heap.objs.size = none := I1.hok.fresh (Nat.le_refl _)
  refine ⟨.ref s1.heap.objs.size, upd H1 s1.heap.objs.size (.lst xs), I1.laid (t' := s1.toks) (fun b u e => Heap.get?_push_of_some _ e) (Nat.le_refl _) ?_, rfl, q _ hf⟩
  exact ⟨z, us, 0, r, Heap.get?_push_size _ rfl⟩
end
abbrev Sp := List V → Hp → VK → XK → Prop
abbrev CXT := List Env → Hp → Shared → XK → Value → Shared → Prop
structure Env0 (P : Program) (w : World) (K : PySem.W.Frag) (mg : Str → Option Value) (base : Heap) (A : Around) (outer : List Env) (s : Shared) (H : Hp) : Prop where
  frames : A.frames = some outer
  mod : Mod K mg base
  bs : ∀ b o, base.get? b = some o → s.heap.get? b = some o ∧ H b = none
  bsz : base.objs.size ≤ s.heap.objs.size
  funs : s.heap.FunFrames base outer
  frf : ∀ b ∈ frs outer, H b = none
  hok : HOk P w H s.heap
  bare : AllBare s.gens
def CE (outer : List Env) (P : Program) (w : World) (H : Hp) (s : Shared) (Q : VK) (u : Value) (s' : Shared) : Prop :=
  ∃ v H', s'.os = s.os ∧ AllBare s'.gens ∧ Un (frs outer) [] H H' s.heap s'.heap ∧ HOk P w H' s'.heap ∧ RelV v u ∧ Q v H'
def CR (CX : CXT) (outer : List Env) (P : Program) (w : World) (H : Hp) (s : Shared) (Q : VK) (E : XK) (r : Result) (s' : Shared) : Prop :=
  match r with
  | .ok (.ret u) => CE outer P w H s Q u s'
  | .ok _ => False
  | .error e => CX outer H s E e s'
structure FnOk (P : Program) (w : World) (K : PySem.W.Frag) (mg : Str → Option Value) (base : Heap) (CX : CXT) (k : Nat) (f : Addr) (fd : FuncData) (ps : List Str) (sp : Sp) : Prop where
  len : ∀ vs H Q E, sp vs H Q E → vs.length = ps.length
  run : ∀ (A : Around) (outer : List Env) (s : Shared) (H : Hp) (args : Args) (us : List Value) (vs : List V) (Q : VK) (E : XK), Room k A → Env0 P w K mg base A outer s H → BindsTo s fd args (ps.zip us) → Vals vs us → sp vs H Q E →
    codeAny (model P w) A (.call (.ref f) args) (CR CX outer P w H s Q E) s
theorem FnOk.mono {P : Program} {w : World} {K : PySem.W.Frag} {mg : Str → Option Value} {base : Heap} {CX : CXT} {j k : Nat} {f : Addr} {fd : FuncData} {ps : List Str} {sp : Sp} (F : FnOk P w K mg base CX j f fd ps sp) (h : j ≤ k) :
    FnOk P w K mg base CX k f fd ps sp := ⟨F.len, fun A outer s H args us vs Q E hr => F.run A outer s H args us vs Q E (hr.mono h)⟩
theorem FnOk.imp {P : Program} {w : World} {K : PySem.W.Frag} {mg : Str → Option Value} {base : Heap} {CX : CXT} {k : Nat} {f : Addr} {fd : FuncData} {ps : List Str} {sp sp' : Sp} (F : FnOk P w K mg base CX k f fd ps sp)
    (h : ∀ vs H Q E, sp' vs H Q E → sp vs H Q E) : FnOk P w K mg base CX k f fd ps sp' :=
  ⟨fun vs H Q E q => F.len vs H Q E (h _ _ _ _ q), fun A outer s H args us vs Q E hr he hb hv hs => F.run A outer s H args us vs Q E hr he hb hv (h _ _ _ _ hs)⟩
theorem Env0.in1 {P : Program} {w : World} {K : PySem.W.Frag} {mg : Str → Option Value} {base : Heap} {A : Around} {outer : List Env} {s : Shared} {H : Hp} (e : Env0 P w K mg base A outer s H) :
    Env0 P w K mg base A.in1 outer s H := ⟨e.frames, e.mod, e.bs, e.bsz, e.funs, e.frf, e.hok, e.bare⟩
section
variable {X : Cx} {pins : List (Addr × Obj)} {σ : St} {H : Hp} {s s' : Shared}
theorem Inv.env0 (I : Inv X pins σ H s) : Env0 X.prog X.w X.K X.mg X.base X.A X.stack s H :=
  ⟨I.ok.frames, I.ok.mod, I.bs, Nat.le_trans I.ok.bsz I.sz, I.stack, I.stkFree, I.hok, I.bare⟩
theorem Inv.after {Q : VK} {u : Value} (I : Inv X pins σ H s) (h : CE X.stack X.prog X.w H s Q u s') : EP X pins σ Q u s' := by
  obtain ⟨v, H', os, bare, un, hok, r, q⟩ := h
  obtain ⟨hh, g, d, t, os'⟩ := s'
  obtain rfl : os' = s.os := os
  exact ⟨v, H', I.call (h' := hh) (g' := g) (d' := d) (t' := t) (ch := []) un hok bare (fun b z => absurd z (by simp)), r, q⟩
end
def tCall (sp : Sp) (dvs : List V) (E : XK) (t : TA) : TE := fun σ H Q => t σ H fun vs H1 => sp (vs ++ dvs) H1 Q E
def Binds (K : PySem.W.Frag) (fd : FuncData) (ps : List Str) (ds : List Value) : Prop :=
  ∀ (s : Shared) (us : List Value), K.In s.heap → (us ++ ds).length = ps.length → BindsTo s fd ⟨us, []⟩ (ps.zip (us ++ ds))
theorem Binds.all {K : PySem.W.Frag} {fd : FuncData} {ps : List Str} (h : ∀ us : List Value, us.length = ps.length → bindArgs fd ⟨us, []⟩ = pure (ps.zip us)) : Binds K fd ps [] := fun s us _ hl => by
  rw [List.append_nil] at hl ⊢
  exact .of_eq (h us hl)
def Passes (CX : CXT) (X : Cx) (E : XK) : Prop := ∀ (pins : List (Addr × Obj)) (σ : St) (H : Hp) (s : Shared) (e : Value) (s' : Shared), Inv X pins σ H s → CX X.stack H s E e s' → X.xe e s'
section
variable {X : Cx} {CX : CXT} {k : Nat} {f C : Addr} {fd : FuncData} {ps : List Str} {sp : Sp} {dvs : List V} {ds : List Value} {E : XK} {x m : Str} {p pos apos : Pos} {e o : Expr} {es : List Expr} {ta : TE} {t : TA}
theorem run_fn {pins : List (Addr × Obj)} {σ : St} {H : Hp} {s : Shared} {Q : VK} {us : List Value} {vs : List V} (F : FnOk X.prog X.w X.K X.mg X.base CX k f fd ps sp) (hr : Room k X.A) (hb : Binds X.K fd ps ds) (hd : Vals dvs ds) (hx : Passes CX X E)
    (I : Inv X pins σ H s) (r : Vals vs us) (h : sp (vs ++ dvs) H Q E) : wpAny (model X.prog X.w) X.A (call (.ref f) us) (EP X pins σ Q) X.xe s := by
  have r2 : Vals (vs ++ dvs) (us ++ ds) := r.append hd
  have hl : (us ++ ds).length = ps.length := by rw [← r2.length]; exact F.len _ _ _ _ h
  refine wpAny_call (codeAny_mono (F.run X.A X.stack s H ⟨us, []⟩ (us ++ ds) (vs ++ dvs) Q E hr I.env0 (hb s us I.kIn hl) r2 h) fun r s' hq => ?_)
  cases r with
  | error e => exact hx pins σ H s e s' I hq
  | ok fl =>
    cases fl with
    | ret u => exact I.after hq
    | next => exact False.elim hq
    | brk => exact False.elim hq
    | cont => exact False.elim hq
theorem pe_call (F : FnOk X.prog X.w X.K X.mg X.base CX k f fd ps sp) (hr : Room k X.A) (hg : Gl X x) (hm : X.mg x = some (.ref f)) (hk : PySem.W.keepIn X.K (.ref f) = true) (hb : Binds X.K fd ps ds) (hd : Vals dvs ds) (hx : Passes CX X E)
    (ha : PA X (e :: es) t) (hdb : (x == ("__debug__" : Str)) = false := by decide) (he : starEach (e :: es) X.env = (false, eval e X.env) :: starEach es X.env := by rfl) (hpl : (backTo pos (starEach es X.env)).any (·.1) = false := by rfl) :
    PE X (.Call (.Name x p) (e :: es) [] pos) (tCall sp dvs E t) := by
  intro pins s σ H Q I h
  refine wpAny_Call_Name_kw (ld_glob I hg hm ?_ hdb)
  refine PySem.W.callWith_K (h₀ := X.base) I.ok.mod.kin hk (thn (ha pos pins s σ H _ I h) fun us s1 ⟨vs, H1, I1, r, q⟩ => ⟨I1.kIn, ?_⟩) he hpl
  exact run_fn F hr hb hd hx I1 r q
structure Mk (K : PySem.W.Frag) (C f : Addr) : Prop where
  makes : PySem.W.makesIn K C = true
  init : PySem.W.findIn K (.ref C) "__init__" = some (some (.ref f))
  fn : PySem.W.isFn K (.ref f) = true
  kp : PySem.W.keepIn K (.ref C) = true
end
def PK (X : Cx) (kws : List Keyword) (t : TA) : Prop :=
  ∀ (pos : Pos) (pins : List (Addr × Obj)) (s : Shared) (σ : St) (H : Hp) (Q : List V → Hp → Prop), Inv X pins σ H s → t σ H Q → wpAny (model X.prog X.w) X.A (evalAll ((backToKw pos (keywordEach kws X.env)).map (·.2))) (AP X pins σ Q) X.xe s
section
variable {X : Cx} {CX : CXT} {k : Nat} {f C : Addr} {fd : FuncData} {ps ks : List Str} {sp : Sp} {E : XK} {x m : Str} {p pos apos kpos : Pos} {e o : Expr} {es : List Expr} {kws : List Keyword} {te ta : TE} {t tk : TA} {nm : Option Str}
theorem pk_nil : PK X [] tNil := fun _ _ _ _ H Q I h => wpAny_evalAll_nil ⟨[], H, I, .nil, h⟩
theorem pk_cons (ha : PE X e te) (hr : PK X kws t) : PK X (⟨nm, e, kpos⟩ :: kws) (tCons te t) := by
  intro pos pins s σ H Q I h
  show wpAny _ _ (evalAll ((do let v ← eval e X.env; standAt pos; pure v) :: (backToKw pos (keywordEach kws X.env)).map (·.2))) _ _ s
  refine wpAny_evalAll_cons (wpAny_bind (thn (ha pins s σ H _ I h) fun u s1 ⟨x, H1, I1, r1, q1⟩ => wpAny_bind (wpAny_standAt (wpAny_pure ?_))))
  exact thn (hr pos pins s1 σ H1 _ I1 q1) fun us s2 ⟨xs, H2, I2, r2, q2⟩ => ⟨x :: xs, H2, I2, .cons r1 r2, q2⟩
structure KBinds (K : PySem.W.Frag) (fd : FuncData) (ps ks : List Str) (g : List Value → List Value → List Value) (gV : List V → List V → List V) : Prop where
  to : ∀ (s : Shared) (us ws : List Value), K.In s.heap → (g us ws).length = ps.length → BindsTo s fd ⟨us, ks.zip ws⟩ (ps.zip (g us ws))
  rel : ∀ {vs : List V} {us : List Value} {zs : List V} {ws : List Value}, Vals vs us → Vals zs ws → Vals (gV vs zs) (g us ws)
variable {g : List Value → List Value → List Value} {gV : List V → List V → List V}
end
structure FnScope (N P : List Str) (sc : Scope) : Prop where
  kind : sc.kind = .function
  co : sc.isCoroutine = false
  gen : sc.isGenerator = false
  nd : N.Nodup
  pre : N.take P.length = P
  par : ∀ x ∈ P, sc.names.lookup x = some .local ∨ sc.names.lookup x = some .cell
  nofree : ∀ y ∈ sc.names, y.2 ≠ .free
theorem bindL_out {kindOf : Str → Option NameKind} {x : Str} : ∀ {binds : List (Str × Value)} {m : Str → Option Value}, (∀ v, (x, v) ∉ binds) → bindL kindOf binds m x = m x
  | [], _, _ => rfl
  | (n, v) :: r, m, h => by
    unfold bindL
    rw [bindL_out fun w hw => h w (List.mem_cons_of_mem _ hw)]
    split
    · have : x ≠ n := by rintro rfl; exact h v List.mem_cons_self
      simp [this]
    · rfl
theorem bindC_out {kindOf : Str → Option NameKind} {x : Str} : ∀ {binds : List (Str × Value)} {m : Str → Option Value}, (∀ v, (x, v) ∉ binds) → bindC kindOf binds m x = m x
  | [], _, _ => rfl
  | (n, v) :: r, m, h => by
    unfold bindC
    rw [bindC_out fun w hw => h w (List.mem_cons_of_mem _ hw)]
    split
    · rfl
    · have : x ≠ n := by rintro rfl; exact h v List.mem_cons_self
      simp [this]
theorem bindL_get {kindOf : Str → Option NameKind} {x : Str} {v : Value} : ∀ {P : List Str} {vs : List Value} {i : Nat} {m : Str → Option Value}, P.Nodup → P[i]? = some x → vs[i]? = some v → kindOf x = some .local →
    bindL kindOf (P.zip vs) m x = some v
  | [], _, _, _, _, h, _, _ => by simp at h
  | _ :: _, [], _, _, _, _, h, _ => by simp at h
  | p :: P, w :: vs, 0, m, nd, h1, h2, hk => by
    simp at h1 h2; subst h1; subst h2
    show bindL kindOf ((p, w) :: P.zip vs) m p = _
    unfold bindL
    rw [bindL_out fun v hv => (List.nodup_cons.mp nd).1 (List.of_mem_zip hv).1, if_pos hk]
    simp
  | p :: P, w :: vs, i + 1, m, nd, h1, h2, hk => by
    show bindL kindOf ((p, w) :: P.zip vs) m x = _
    unfold bindL
    exact bindL_get (i := i) (List.nodup_cons.mp nd).2 (by simpa using h1) (by simpa using h2) hk
theorem bindC_get {kindOf : Str → Option NameKind} {x : Str} {v : Value} : ∀ {P : List Str} {vs : List Value} {i : Nat} {m : Str → Option Value}, P.Nodup → P[i]? = some x → vs[i]? = some v → kindOf x ≠ some .local →
    bindC kindOf (P.zip vs) m x = some v
  | [], _, _, _, _, h, _, _ => by simp at h
  | _ :: _, [], _, _, _, _, h, _ => by simp at h
  | p :: P, w :: vs, 0, m, nd, h1, h2, hk => by
    simp at h1 h2; subst h1; subst h2
    show bindC kindOf ((p, w) :: P.zip vs) m p = _
    unfold bindC
    rw [bindC_out fun v hv => (List.nodup_cons.mp nd).1 (List.of_mem_zip hv).1, if_neg hk]
    simp
  | p :: P, w :: vs, i + 1, m, nd, h1, h2, hk => by
    show bindC kindOf ((p, w) :: P.zip vs) m x = _
    unfold bindC
    exact bindC_get (i := i) (List.nodup_cons.mp nd).2 (by simpa using h1) (by simpa using h2) hk
def start (N : List Str) (vs : List V) : St := vs.map some ++ List.replicate (N.length - vs.length) none
def cxOf (CX : CXT) (P : Program) (w : World) (K : PySem.W.Frag) (mg : Str → Option Value) (base : Heap) (N : List Str) (qual : Str) (scope : Scope) (f : Addr) (cd : Value) (A : Around) (outer : List Env) (s : Shared) (H : Hp) (E : XK) : Cx where
  prog := P
  w := w
  K := K
  mg := mg
  base := base
  A := A.deeper (envOfC qual scope s.heap.objs.size f cd)
  N := N
  s₀ := s
  H₀ := H
  env := envOfC qual scope s.heap.objs.size f cd
  outer := outer
  stack := envOfC qual scope s.heap.objs.size f cd :: outer
  ex := []
  calm := true
  fn := fun _ => true
  pn := []
  xe := fun e s' => wpAny (model P w) (A.deeper (envOfC qual scope s.heap.objs.size f cd)) (leaving (envOfC qual scope s.heap.objs.size f cd) e) (fun _ s'' => CX outer H s E e s'') (fun e' s'' => CX outer H s E e' s'') s'
theorem cell_has {sc : Scope} {n : Nat} {x : Str} (h : sc.names.lookup x = some .cell) : ∃ c, (cellsFrom n sc.names []).lookup x = some c := by
  have q := PySem.W.cellsFrom_some sc.names n [] (.inl h)
  exact Option.isSome_iff_exists.mp q
theorem inv_start {CX : CXT} {P : Program} {w : World} {K : PySem.W.Frag} {mg : Str → Option Value} {base : Heap} {N ps : List Str} {qual : Str} {scope : Scope} {f : Addr} {cd : Value} {A : Around} {outer : List Env} {s s1 : Shared} {H : Hp} {E : XK} {us : List Value} {vs : List V}
    (S : FnScope N ps scope) (hd : A.handled = none) (e0 : Env0 P w K mg base A outer s H) (hl : vs.length = ps.length) (r : Vals vs us)
    (x : InCallC s s.heap.objs.size (bindL (envOfC qual scope s.heap.objs.size f cd).kindOf (ps.zip us) fun _ => none) (cellsFrom (s.heap.objs.size + 1) scope.names []) (bindC (envOfC qual scope s.heap.objs.size f cd).kindOf (ps.zip us) fun _ => none) s1) :
    Inv (cxOf CX P w K mg base N qual scope f cd A outer s H E) [] (start N vs) H s1 := by
  have hpl : ps.length ≤ N.length := by have := congrArg List.length S.pre; rw [List.length_take] at this; omega
  obtain ⟨h1, tk, rfl, hk⟩ := x.done
  have noA : ∀ b : Addr, b ∉ (cxOf CX P w K mg base N qual scope f cd A outer s H E).ex := fun b z => absurd (show b ∈ ([] : List Addr) from z) (by simp)
  refine ⟨⟨e0.mod, S.kind, rfl, rfl, Nat.le_refl _, fun y z c h1 h2 => ?_, fun y hy => ?_, fun y c _ h => ?_, fun _ => hd, Around.frames_deeper e0.frames, .inr ⟨rfl, rfl⟩, fun b z => absurd z (noA b), e0.bs, e0.bsz, fun b _ _ => noA b, fun b z => absurd z (noA b), e0.funs, e0.frf⟩,
    rfl, e0.bare, Un.kept hk, ⟨_, x.toInCall.ns, fun i y v h1 h2 h3 => ?_⟩, fun y c h => ⟨_, x.cell y c h⟩, e0.hok.fresh (Nat.le_refl _), fun y c h => ?_, fun p hp => absurd (show p ∈ ([] : List (Addr × Obj)) from hp) (by simp), e0.hok.kept hk, ?_⟩
  · exact name_of_addr x.apart (PySem.mem_of_lookup h1) (PySem.mem_of_lookup h2)
  · have hy : scope.names.lookup y = some .cell ∨ scope.names.lookup y = some .free := hy
    rcases hy with hy | hy
    · exact cell_has hy
    · exact absurd rfl (S.nofree _ (PySem.mem_of_lookup hy))
  · exact Nat.le_of_lt (x.above y c (PySem.mem_of_lookup h))
  · have hi : i < vs.length := by
      unfold start at h2
      by_cases hi : i < vs.length
      · exact hi
      · rw [List.getElem?_append_right (by simpa using hi)] at h2
        rw [List.getElem?_replicate] at h2
        split at h2 <;> cases h2
    have ha : vs[i]? = some v := by
      unfold start at h2
      rw [List.getElem?_append_left (by simpa using hi), List.getElem?_map] at h2
      cases e : vs[i]? with
      | none => rw [e] at h2; cases h2
      | some a => rw [e] at h2; cases h2; rfl
    obtain ⟨u, hu, rv⟩ := r.get ha
    have hp : ps[i]? = some y := by
      rw [← S.pre, List.getElem?_take_of_lt (by omega)]; exact h1
    have ndP : ps.Nodup := by rw [← S.pre]; exact S.nd.sublist (List.take_sublist _ _)
    refine ⟨u, rv, ?_⟩
    rcases S.par y (List.mem_of_getElem? hp) with k | k
    · exact .inl ⟨k, bindL_get ndP hp hu k⟩
    · obtain ⟨c, e⟩ := cell_has (n := s.heap.objs.size + 1) k
      refine .inr ⟨.inl k, c, e, ?_⟩
      have q := x.cell y c e
      rw [bindC_get ndP hp hu (by show scope.names.lookup y ≠ _; rw [k]; decide)] at q
      exact q
  · exact e0.hok.fresh (Nat.le_of_lt (x.above y c (PySem.mem_of_lookup h)))
  · unfold start
    show _ = N.length
    rw [List.length_append, List.length_map, List.length_replicate]
    omega
theorem fn_of {CX : CXT} {P : Program} {w : World} {K : PySem.W.Frag} {mg : Str → Option Value} {base : Heap} {k : Nat} {f : Addr} {name qual : Str} {params : Arguments} {body : List Stmt} {scope : Scope} {dV kV doc pm cdv ct oc : Value} {an od : Option Addr}
    {osl : Array (Option Value)} {N ps : List Str} {sp : Sp} (lk : K.lookup f = some ⟨oc, od, .func (PySem.W.fnOf name qual params body scope dV kV doc pm an cdv ct), osl⟩) (hcd : PySem.W.codeIn K cdv qual = true) (S : FnScope N ps scope)
    (len : ∀ vs H Q E, sp vs H Q E → vs.length = ps.length)
    (hbody : ∀ (A : Around) (outer : List Env) (s : Shared) (H : Hp) (vs : List V) (Q : VK) (E : XK), Room k (A.deeper (envOfC qual scope s.heap.objs.size f cdv)) → sp vs H Q E →
      ∃ t, PSs (cxOf CX P w K mg base N qual scope f cdv A outer s H E) body t ∧ t { nx := fun _ H' => Q .non H', rt := Q } (start N vs) H) :
    FnOk P w K mg base CX (k + 1) f (PySem.W.fnOf name qual params body scope dV kV doc pm an cdv ct) ps sp := by
  refine ⟨len, fun A outer s H args us vs Q E hr e0 hb r hsp => ?_⟩
  have hl := len _ _ _ _ hsp
  have KX : K.In s.heap := e0.mod.kin.keeps fun b o e => (e0.bs b o e).1
  have lim : s.heap.NoLimit := e0.mod.nolimit.keeps fun b o e => (e0.bs b o e).1
  have hkind : ∀ y ∈ ps.zip us, scope.names.lookup y.1 = some .local ∨ (scope.names.lookup y.1 = some .cell ∧ ((cellsFrom (s.heap.objs.size + 1) scope.names []).lookup y.1).isSome = true) := fun ⟨n, v⟩ hy => by
    rcases S.par n (List.of_mem_zip hy).1 with q | q
    · exact .inl q
    · exact .inr ⟨q, PySem.W.cellsFrom_some _ _ _ (.inl q)⟩
  refine codeAny_call_function hr.depth (KX _ _ lk) rfl S.co S.gen rfl (PySem.W.codeRec_of KX hcd) (hb _ _ _ _ ?_)
  refine wpAny_newFunctionEnv_cells S.kind hkind fun env he s1 x => ?_
  subst he
  refine ⟨lim.keeps x.toInCall.keep, codeAny_func ?_⟩
  obtain ⟨t, ht, hq⟩ := hbody A outer s H vs Q E (hr.deeper _) hsp
  have I : Inv (cxOf CX P w K mg base N qual scope f cdv A outer s H E) [] (start N vs) H s1 := inv_start S hr.hd e0 hl r x
  refine wpAny_mono (ht [] s1 (start N vs) H _ I hq) (fun fl s' hs => ?_) fun e s' hs => hs
  have fin : ∀ {σ' : St} {H' : Hp} {v : V} {u : Value}, Inv (cxOf CX P w K mg base N qual scope f cdv A outer s H E) [] σ' H' s' → RelV v u → Q v H' → CE outer P w H s Q u s' :=
    fun {σ' H' v u} J rv q => ⟨v, H', J.os, J.bare, J.base, J.hok, rv, q⟩
  cases fl with
  | ret u =>
    obtain ⟨v, σ', H', J, rv, q⟩ := hs
    exact fin J rv q
  | next =>
    obtain ⟨σ', H', J, q⟩ := hs
    exact fin (v := V.non) (u := Value.none) J rfl q
  | brk =>
    obtain ⟨_, _, _, q⟩ := hs
    exact False.elim q
  | cont =>
    obtain ⟨_, _, _, q⟩ := hs
    exact False.elim q
end L2
namespace L2
open PySem PySem.Spec PyProof.Rows
section
variable {X : Cx} {x : Str} {p pos : Pos} {e : Expr} {es : List Expr} {t : TA} {id T : String} {r : List V → Hp → VK → Prop}
def tCB (r : List V → Hp → VK → Prop) (t : TA) : TE := fun σ H Q => t σ H fun vs H1 => r vs H1 Q
theorem pe_callB (hc : CallR X (.builtin id) r) (hg : Gl X x) (hm : X.mg x = none) (hv : bootBuiltins x = some (.builtin id)) (ha : PA X (e :: es) t) (hn : x ≠ "__name__" := by decide) (hdb : (x == ("__debug__" : Str)) = false := by decide)
    (he : starEach (e :: es) X.env = (false, eval e X.env) :: starEach es X.env := by rfl) (hpl : (backTo pos (starEach es X.env)).any (·.1) = false := by rfl) : PE X (.Call (.Name x p) (e :: es) [] pos) (tCB r t) := by
  intro pins s σ H Q I h
  refine wpAny_Call_Name_kw (ld_blt I hg hm hv ?_ hn hdb)
  exact PyProof.Rows.callWith_builtin1 (thn (ha pos pins s σ H _ I h) fun us s1 ⟨vs, H1, I1, r1, q1⟩ => hc pins s1 σ H1 vs us Q I1 r1 q1) he hpl
theorem pe_callTy (hc : CallR X (.type T) r) (hg : Gl X x) (hm : X.mg x = none) (hv : bootBuiltins x = some (.type T)) (ha : PA X (e :: es) t) (hn : x ≠ "__name__" := by decide) (hdb : (x == ("__debug__" : Str)) = false := by decide)
    (he : starEach (e :: es) X.env = (false, eval e X.env) :: starEach es X.env := by rfl) (hpl : (backTo pos (starEach es X.env)).any (·.1) = false := by rfl) : PE X (.Call (.Name x p) (e :: es) [] pos) (tCB r t) := by
  intro pins s σ H Q I h
  refine wpAny_Call_Name_kw (ld_blt I hg hm hv ?_ hn hdb)
  exact PyProof.Rows.callWith_type1 (thn (ha pos pins s σ H _ I h) fun us s1 ⟨vs, H1, I1, r1, q1⟩ => hc pins s1 σ H1 vs us Q I1 r1 q1) he hpl
end
end L2
namespace HT
open PySem PyProof.Rows
section
open PySem.SeqAt
open PySem.AutoSeq1 (wpAny_loadPart')
open PySem.MeetsSeq PySem.MeetsSeq2 PySem.MeetsSeq3
end
section
variable {prog : Program} {w : World} {A : Around} {E : Value → Shared → Prop} {s : Shared}
theorem cat_tup {t b : Addr} {vs ws : List Value} {Q : Value → Shared → Prop} (ht : IsTup s.heap t vs.toArray) (hb : IsTup s.heap b ws.toArray) (hv : vs ≠ [])
    (h1 : ws = [] → Q (.ref t) s) (h2 : ws ≠ [] → Q (.ref s.heap.objs.size) { s with heap := s.heap.push { cls := .type "tuple", data := .seq (vs ++ ws).toArray } })
    (hsz : vs.length + ws.length ≤ sizeLine) : wpAny (model prog w) A (binaryOp .Add (.ref t) (.ref b)) Q E s := by
  obtain ⟨⟨cls, dd, data, sl⟩, ho, hc, n, hd⟩ := id ht
  obtain ⟨⟨cls2, dd2, data2, sl2⟩, ho2, hc2, n2, hd2⟩ := id hb
  simp only at hc hd hc2 hd2
  subst hc hd hc2 hd2
  have e : vs.toArray ++ ws.toArray = (vs ++ ws).toArray := by simp
  by_cases hw : ws = []
  · exact concat_meets ⟨_, ho, rfl⟩ ⟨_, ho2, rfl⟩ noFill_tuple_add seq_tuple_add PySem.F.slot_tuple_add PySem.F.entry_tuple_add (PySem.F.args_tuple_add_2 _ _)
      (tuple_addW1 t b vs.toArray ws.toArray n n2 dd dd2 sl sl2 (by simpa using hv) (by simp [hw])) ⟨ho, ho2, h1 hw⟩
  · refine concat_meets ⟨_, ho, rfl⟩ ⟨_, ho2, rfl⟩ noFill_tuple_add seq_tuple_add PySem.F.slot_tuple_add PySem.F.entry_tuple_add (PySem.F.args_tuple_add_2 _ _)
      (tuple_addW2 t b vs.toArray ws.toArray n n2 dd dd2 sl sl2 (by simpa using hv) (by simpa using hw) (by rw [List.size_toArray, List.size_toArray]; exact hsz)) ⟨ho, ho2, ?_⟩
    rw [e]
    exact h2 hw
def sIx (n d : Nat) : Option Int → Nat
  | none => d
  | some v => if v < 0 then (v + (n : Int)).toNat else min v.toNat n
theorem sIx_none (n d : Nat) : sIx n d none = d := rfl
theorem sIx_nat (n d k : Nat) : sIx n d (some (k : Int)) = min k n := by
  show (if (k : Int) < 0 then ((k : Int) + (n : Int)).toNat else min (k : Int).toNat n) = min k n
  rw [if_neg (by omega), Int.toNat_natCast]
theorem sIx_le (n d : Nat) (hd : d ≤ n) (o : Option Int) : sIx n d o ≤ n := by
  cases o with
  | none => exact hd
  | some v =>
    show (if v < 0 then (v + (n : Int)).toNat else min v.toNat n) ≤ n
    by_cases hv : v < 0
    · rw [if_pos hv]; omega
    · rw [if_neg hv]; exact Nat.min_le_right _ _
theorem clip_eq (v : Int) (n d : Nat) : (if v < 0 then max (v + (n : Int)) 0 else min v (n : Int)) = ((sIx n d (some v) : Nat) : Int) := by
  show (if v < 0 then max (v + (n : Int)) 0 else min v (n : Int)) = (((if v < 0 then (v + (n : Int)).toNat else min v.toNat n) : Nat) : Int)
  by_cases hv : v < 0
  · simp only [if_pos hv]; omega
  · simp only [if_neg hv]; omega
theorem adjust_gen (lo hi : Option Int) (n : Nat) : Builtin.Slice.sliceAdjust lo hi 1 (n : Int) = (((sIx n 0 lo : Nat) : Int), ((sIx n n hi : Nat) : Int)) := by
  have h1 : ¬ ((1 : Int) < 0) := by omega
  unfold Builtin.Slice.sliceAdjust
  simp only [h1, if_false]
  refine Prod.ext ?_ ?_
  · cases lo with
    | none => rfl
    | some v => exact clip_eq v n 0
  · cases hi with
    | none => rfl
    | some v => exact clip_eq v n n
theorem places_gen (i j : Nat) : Builtin.Slice.slicePlaces (i : Int) (j : Int) 1 = j - i := by
  unfold Builtin.Slice.slicePlaces
  have h1 : (1 : Int) > 0 := by omega
  simp only [h1, if_true, Int.ediv_one]
  split <;> omega
theorem slicePart_ {v : Value} {o : Option Int} {Q : Option Int → Shared → Prop} (p : IsPart v o) (h : Q o s) : wpAny (model prog w) A (Builtin.Slice.slicePartIndex v) Q E s := by
  cases p with
  | none => exact slicePart_none h
  | int i t => exact slicePart_int h
theorem sliceApplied_gen {sl : Addr} {vl vu : Value} {lo hi : Option Int} {n : Nat} {Q : Int × Int × Nat → Shared → Prop} (hs : s.heap.IsSliceOf sl vl vu .none) (pl : IsPart vl lo) (pu : IsPart vu hi)
    (h : Q (((sIx n 0 lo : Nat) : Int), 1, sIx n n hi - sIx n 0 lo) s) : wpAny (model prog w) A (Builtin.Slice.sliceApplied (.ref sl) (pure (n : Int))) Q E s := by
  obtain ⟨os, hos, hcs, hds⟩ := id hs
  unfold Builtin.Slice.sliceApplied Builtin.Slice.sliceFields
  refine wpAny_bind (wpAny_bind (wpAny_field hos hds (x := vl) rfl (wpAny_bind (wpAny_field hos hds (x := vu) rfl (wpAny_bind (wpAny_field hos hds (x := .none) rfl (wpAny_pure ?_)))))))
  refine wpAny_bind (slicePart_none ?_)
  show wpAny _ _ (if ((1 : Int) == 0) = true then _ else _) _ _ s
  rw [if_neg (by decide)]
  refine wpAny_bind (slicePart_ pl (wpAny_bind (slicePart_ pu (wpAny_bind (wpAny_pure ?_)))))
  show wpAny _ _ (match Builtin.Slice.sliceAdjust lo hi 1 (n : Int) with | (lo, hi) => pure (lo, (1 : Int), Builtin.Slice.slicePlaces lo hi 1)) _ _ s
  rw [adjust_gen lo hi n]
  show wpAny _ _ (pure (((sIx n 0 lo : Nat) : Int), (1 : Int), Builtin.Slice.slicePlaces ((sIx n 0 lo : Nat) : Int) ((sIx n n hi : Nat) : Int) 1)) _ _ s
  rw [places_gen]
  exact wpAny_pure h
theorem pick_gen (xs : Array Value) (i k : Nat) : ((List.range k).filterMap fun (m : Nat) => xs[((i : Int) + (m : Int) * 1).toNat]?).toArray = ((xs.toList.drop i).take k).toArray := by
  have e : (fun (m : Nat) => xs[((i : Int) + (m : Int) * 1).toNat]?) = fun m => xs[i + m]? := by
    funext m
    have : ((i : Int) + (m : Int) * 1).toNat = i + m := by omega
    rw [this]
  rw [e]
  have := pick_run xs i k
  rw [List.filterMap_map] at this
  have e2 : ((fun x => xs[x]?) ∘ fun x => i + x) = fun m => xs[i + m]? := rfl
  rw [e2] at this
  rw [this]
theorem getItem_tuple_cut {t sl : Addr} {items : Array Value} {vl vu : Value} {lo hi : Option Int} {Q : Value → Shared → Prop} (ht : IsTup s.heap t items) (hs : s.heap.IsSliceOf sl vl vu .none) (pl : IsPart vl lo) (pu : IsPart vu hi)
    (hw : ¬ (sIx items.size 0 lo = 0 ∧ sIx items.size items.size hi = items.size))
    (h : Q (.ref s.heap.objs.size) { s with heap := s.heap.push { cls := .type "tuple", data := .seq ((items.toList.drop (sIx items.size 0 lo)).take (sIx items.size items.size hi - sIx items.size 0 lo)).toArray } })
    (hsz : items.size ≤ sizeLine) : wpAny (model prog w) A (getItem (.ref t) (.ref sl)) Q E s := by
  have htake : sizeOk (.seq ((items.toList.drop (sIx items.size 0 lo)).take (sIx items.size items.size hi - sIx items.size 0 lo)).toArray) := by
    show ((items.toList.drop (sIx items.size 0 lo)).take (sIx items.size items.size hi - sIx items.size 0 lo)).toArray.size ≤ sizeLine
    rw [List.size_toArray, List.length_take, List.length_drop, Array.length_toList]
    omega
  have hj : sIx items.size items.size hi ≤ items.size := sIx_le _ _ (Nat.le_refl _) hi
  obtain ⟨os, hos, hcs, hds⟩ := id hs
  have hTs : s.TypeIs (.ref sl) "slice" := ⟨os, hos, hcs⟩
  unfold getItem
  try with_reducible refine wpAny_holding ?_
  first | refine wpAny_bind (wpAny_pure ?_) | skip
  refine wpAny_bind (wpAny_sequenceKey ht.typeIs (by decide) ?_)
  refine wpAny_bind (wpAny_callSpecial?_slot (name := Str.ofString "__getitem__") ht.typeIs PyProof.Rows.slot_tuple_getitem
    (wpAny_call_entry PyProof.Rows.slot_tuple_getitem ht.typeIs entry_tuple_getitem ?_ (args_tuple_getitem _ _)))
  show wpAny _ _ (Builtin.Tuple.tupleItemsOf (.ref t) >>= _) _ _ s
  refine wpAny_bind (tupleItemsOf_ ht ?_)
  refine wpAny_bind (wpAny_typeOf hTs ?_)
  rw [if_pos (by decide)]
  refine wpAny_bind (sliceApplied_gen hs pl pu ?_)
  have hno : ¬ ((((sIx items.size 0 lo : Nat) : Int) == 0 && (1 : Int) == 1 && (sIx items.size items.size hi - sIx items.size 0 lo) == items.size) = true) := by
    intro q
    rw [Bool.and_eq_true, Bool.and_eq_true] at q
    have q1 : ((sIx items.size 0 lo : Nat) : Int) = 0 := eq_of_beq q.1.1
    have q2 : sIx items.size items.size hi - sIx items.size 0 lo = items.size := eq_of_beq q.2
    exact hw ⟨by omega, by omega⟩
  show wpAny _ _ (if (((sIx items.size 0 lo : Nat) : Int) == 0 && (1 : Int) == 1 && (sIx items.size items.size hi - sIx items.size 0 lo) == items.size) = true then _ else _) _ _ s
  rw [if_neg hno, pick_gen]
  first
    | exact wpAny_bind (m := Builtin.Tuple.tupleExact _) (wpAny_newObj_type (wpAny_pure ⟨_, rfl, wpAny_pure h⟩) htake)
    | exact wpAny_bind (m := Builtin.Tuple.tupleExact _) (wpAny_newObj_type (wpAny_bind (wpAny_pure (wpAny_pure ⟨_, rfl, wpAny_pure h⟩))) htake)
    | exact wpAny_bind (wpAny_bind (m := Builtin.Tuple.tupleExact _) (wpAny_newObj_type (wpAny_pure (wpAny_pure ⟨_, rfl, wpAny_pure h⟩)) htake))
    | exact wpAny_bind (wpAny_bind (m := Builtin.Tuple.tupleExact _) (wpAny_newObj_type (wpAny_pure ⟨_, rfl, wpAny_pure h⟩) htake))
end
end HT
namespace L2
open PySem PySem.Spec PyProof.Rows
abbrev TO := St → Hp → (Option Int → Hp → Prop) → Prop
def PO (X : Cx) (e : Option Expr) (t : TO) : Prop :=
  ∀ (pins : List (Addr × Obj)) (s : Shared) (σ : St) (H : Hp) (Q : Option Int → Hp → Prop), Inv X pins σ H s → t σ H Q →
    wpAny (model X.prog X.w) X.A (evalPart e X.env) (fun u s' => ∃ o H', Inv X pins σ H' s' ∧ IsPart u o ∧ Q o H') X.xe s
def tNoPart : TO := fun _ H Q => Q none H
def tPart (t : TE) : TO := fun σ H Q => t σ H fun x H1 => ∃ i, x = .int i ∧ Q (some i) H1
section
variable {X : Cx} {e : Expr} {te : TE} {lo hi : Option Expr} {tl th : TO} {pos p2 : Pos}
theorem po_none : PO X none tNoPart := by
  intro pins s σ H Q I h
  rw [evalPart_none]
  exact wpAny_pure ⟨none, H, I, .none, h⟩
theorem po_some (h : PE X e te) : PO X (some e) (tPart te) := by
  intro pins s σ H Q I hw
  rw [evalPart_some]
  refine thn (h pins s σ H _ I hw) fun u s1 ⟨x, H1, I1, r1, q1⟩ => ?_
  obtain ⟨i, rfl, q⟩ := q1
  obtain ⟨t, rfl⟩ := r1
  exact ⟨some i, H1, I1, .int i t, q⟩
def SlR (X : Cx) (r : V → Option Int → Option Int → Hp → VK → Prop) : Prop :=
  ∀ (pins : List (Addr × Obj)) (s : Shared) (σ : St) (H : Hp) (x : V) (v vl vu : Value) (lo hi : Option Int) (sl : Addr) (Q : VK), Inv X pins σ H s → RelV x v → s.heap.IsSliceOf sl vl vu .none → IsPart vl lo → IsPart vu hi → r x lo hi H Q →
    ∃ T id, typeLookup (.type T) "__getitem__" = pure (some (.builtin id)) ∧ s.TypeIs v T ∧ wpAny (model X.prog X.w) X.A (getItem v (.ref sl)) (EP X pins σ Q) X.xe s
theorem SlR.or {r r' : V → Option Int → Option Int → Hp → VK → Prop} (h : SlR X r) (h' : SlR X r') : SlR X (fun x lo hi H Q => r x lo hi H Q ∨ r' x lo hi H Q) := by
  intro pins s σ H x v vl vu lo hi sl Q I rx hs pl pu q
  rcases q with q | q
  · exact h pins s σ H x v vl vu lo hi sl Q I rx hs pl pu q
  · exact h' pins s σ H x v vl vu lo hi sl Q I rx hs pl pu q
def tSl (r : V → Option Int → Option Int → Hp → VK → Prop) (te : TE) (tl th : TO) : TE := fun σ H Q => te σ H fun x H1 => tl σ H1 fun l H2 => th σ H2 fun u H3 => r x l u H3 Q
theorem pe_slice {r : V → Option Int → Option Int → Hp → VK → Prop} (hr : SlR X r) (he : PE X e te) (hl : PO X lo tl) (hu : PO X hi th) : PE X (.Subscript e (.Slice lo hi none p2) pos) (tSl r te tl th) := by
  intro pins s σ H Q I h
  refine Subscript_ (thn (he pins s σ H _ I h) fun v s1 ⟨x, H1, I1, r1, q1⟩ => ?_)
  refine wpAny_Slice (thn (hl pins s1 σ H1 _ I1 q1) fun vl s2 ⟨l, H2, I2, pl, q2⟩ => thn (hu pins s2 σ H2 _ I2 q2) fun vu s3 ⟨u, H3, I3, pu, q3⟩ => ?_)
  rw [evalPart_none]
  refine wpAny_pure ?_
  have I4 : Inv X pins σ H3 { s3 with heap := s3.heap.push { cls := .type "slice", data := .fields #[vl, vu, .none] } } := I3.kept (t' := s3.toks) fun b ob q => Heap.get?_push_of_some _ q
  obtain ⟨T, id, hT, ht, hg⟩ := hr pins { s3 with heap := s3.heap.push { cls := .type "slice", data := .fields #[vl, vu, .none] } } σ H3 x v vl vu l u s3.heap.objs.size Q I4 r1 (Heap.IsSliceOf.new ..) pl pu q3
  show wpAny (model X.prog X.w) X.A (subscriptTail e (.Slice lo hi none p2) v (.ref s3.heap.objs.size)) (EP X pins σ Q) X.xe { s3 with heap := s3.heap.push { cls := .type "slice", data := .fields #[vl, vu, .none] } }
  exact tail_any (ops := [.ref s3.heap.objs.size, v]) ht hT hg (by with_unfolding_all rfl)
def cutV (xs : List V) (lo hi : Option Int) : List V := (xs.drop (HT.sIx xs.length 0 lo)).take (HT.sIx xs.length xs.length hi - HT.sIx xs.length 0 lo)
theorem cutV_length (xs : List V) (lo hi : Option Int) : (cutV xs lo hi).length ≤ xs.length := by
  unfold cutV
  rw [List.length_take, List.length_drop]
  omega
def rSlT (K : PySem.W.Frag) : V → Option Int → Option Int → Hp → VK → Prop := fun x lo hi H Q => ∃ a xs, x = .ref a ∧ SqT K H a xs ∧
  ¬ (HT.sIx xs.length 0 lo = 0 ∧ HT.sIx xs.length xs.length hi = xs.length) ∧ ∀ p, H p = none → Q (.ref p) (upd H p (.tup (cutV xs lo hi)))
theorem sl_tup : SlR X (rSlT X.K) := by
  intro pins s σ H x v vl vu lo hi sl Q I rx hs pl pu h
  obtain ⟨a, xs, rfl, hx, hw, q⟩ := h
  cases rx
  obtain ⟨its, r, ht, hz⟩ := I.tuple hx
  have hlen : its.toArray.size = xs.length := by rw [List.size_toArray]; exact r.length.symm
  refine ⟨"tuple", _, PyProof.Rows.slot_tuple_getitem.lookup, ht.typeIs, ?_⟩
  refine HT.getItem_tuple_cut ht hs pl pu (by rw [hlen]; exact hw) ?_ (by rw [hlen]; exact hz)
  rw [hlen]
  refine ⟨.ref s.heap.objs.size, _, I.laid (t' := s.toks) (o := .tup (cutV xs lo hi)) (fun b ob q => Heap.get?_push_of_some _ q) (Nat.le_refl _) ?_, rfl, q _ (I.hok.fresh (Nat.le_refl _))⟩
  exact ⟨Nat.le_trans (cutV_length xs lo hi) hz, _, (r.drop (HT.sIx xs.length 0 lo)).take (HT.sIx xs.length xs.length hi - HT.sIx xs.length 0 lo), IsTup.new _ _⟩
def rCatT (K : PySem.W.Frag) : R2 := fun x y H Q => ∃ a b xs ys, x = .ref a ∧ y = .ref b ∧ SqT K H a xs ∧ SqT K H b ys ∧ xs ≠ [] ∧ xs.length + ys.length ≤ sizeLine ∧
  (ys = [] → Q (.ref a) H) ∧ (ys ≠ [] → ∀ p, H p = none → Q (.ref p) (upd H p (.tup (xs ++ ys))))
theorem Vals.nil_iff {xs : List V} {us : List Value} (r : Vals xs us) : us = [] ↔ xs = [] := by
  cases r with
  | nil => simp
  | cons _ _ => simp
theorem op_catT : OpR X (binaryOp .Add) (rCatT X.K) := by
  intro pins s σ H x y v u Q I rx ry h
  obtain ⟨a, b, xs, ys, rfl, rfl, ha, hb, hx, hz, q1, q2⟩ := h
  cases rx
  cases ry
  obtain ⟨its, r1, p1, _⟩ := I.tuple ha
  obtain ⟨its2, r2, p2, _⟩ := I.tuple hb
  refine HT.cat_tup p1 p2 (fun z => hx (r1.nil_iff.mp z)) (fun z => ⟨.ref a, H, I, rfl, q1 (r2.nil_iff.mp z)⟩) (fun z => ?_) (by rw [← r1.length, ← r2.length]; exact hz)
  refine ⟨.ref s.heap.objs.size, _, I.laid (t' := s.toks) (o := .tup (xs ++ ys)) (fun b ob q => Heap.get?_push_of_some _ q) (Nat.le_refl _) ?_, rfl, q2 (fun w => z (r2.nil_iff.mpr w)) _ (I.hok.fresh (Nat.le_refl _))⟩
  exact ⟨by rw [List.length_append]; exact hz, _, r1.append r2, IsTup.new _ _⟩
end
end L2
namespace L2
open PySem PySem.Spec PyProof.Rows
def ixN (n : Nat) (i : Int) : Option Nat := if 0 ≤ i then (if i < n then some i.toNat else none) else if -(n : Int) ≤ i then some (i + n).toNat else none
def atI {α : Type} (xs : List α) (i : Int) : Option α := (ixN xs.length i).bind fun j => xs[j]?
theorem ixN_seq {n : Nat} {i : Int} {j : Nat} (h : ixN n i = some j) : seqIndex? i n = some j ∧ j < n ∧ -(n : Int) ≤ i ∧ i < n := by
  unfold ixN at h
  by_cases h0 : 0 ≤ i
  · rw [if_pos h0] at h
    by_cases h1 : i < n
    · rw [if_pos h1] at h
      have e : i.toNat = j := Option.some.inj h
      exact ⟨by rw [seqIndex_of h0 h1, e], by omega, by omega, h1⟩
    · rw [if_neg h1] at h; cases h
  · rw [if_neg h0] at h
    by_cases h1 : -(n : Int) ≤ i
    · rw [if_pos h1] at h
      have e : (i + n).toNat = j := Option.some.inj h
      exact ⟨by rw [seqIndex_neg (by omega) h1, e], by omega, h1, by omega⟩
    · rw [if_neg h1] at h; cases h
theorem atI_get {α : Type} {xs : List α} {i : Int} {v : α} (h : atI xs i = some v) : ∃ j, seqIndex? i xs.length = some j ∧ xs[j]? = some v ∧ j < xs.length ∧ -(xs.length : Int) ≤ i ∧ i < xs.length := by
  unfold atI at h
  cases e : ixN xs.length i with
  | none => rw [e] at h; cases h
  | some j =>
    rw [e] at h
    obtain ⟨h1, h2, h3, h4⟩ := ixN_seq e
    exact ⟨j, h1, h, h2, h3, h4⟩
theorem atI_nat {α : Type} {xs : List α} {j : Nat} {v : α} (h : xs[j]? = some v) : atI xs (j : Int) = some v := by
  have hj : j < xs.length := (List.getElem?_eq_some_iff.mp h).1
  have e : ixN xs.length (j : Int) = some j := by
    unfold ixN
    rw [if_pos (by omega), if_pos (by omega)]; simp
  unfold atI; rw [e]; exact h
def PlainIx (b : Expr) : Prop := ∀ o i, subscripted b false o i = operate [o, i] (getItem o i)
def IxR (X : Cx) (r : R2) : Prop :=
  ∀ (value slice : Expr) (pins : List (Addr × Obj)) (s : Shared) (σ : St) (H : Hp) (x y : V) (v u : Value) (Q : VK), Inv X pins σ H s → RelV x v → RelV y u → r x y H Q →
    subscripted slice false v u = operate [v, u] (getItem v u) → wpAny (model X.prog X.w) X.A (subscriptTail value slice v u) (EP X pins σ Q) X.xe s
def MtR (X : Cx) (id : String) (r : V → List V → Hp → VK → Prop) : Prop :=
  ∀ (pins : List (Addr × Obj)) (s : Shared) (σ : St) (H : Hp) (x : V) (xs : List V) (v : Value) (us : List Value) (Q : VK), Inv X pins σ H s → RelV x v → Vals xs us → r x xs H Q →
    wpAny (model X.prog X.w) X.A (call (.builtin id) (v :: us)) (EP X pins σ Q) X.xe s
section
variable {X : Cx} {a b : Expr} {ta tb : TE} {pos : Pos}
theorem IxR.or {r r' : R2} (h : IxR X r) (h' : IxR X r') : IxR X (fun x y H Q => r x y H Q ∨ r' x y H Q) := by
  intro value slice pins s σ H x y v u Q I rx ry q hs
  rcases q with q | q
  · exact h value slice pins s σ H x y v u Q I rx ry q hs
  · exact h' value slice pins s σ H x y v u Q I rx ry q hs
theorem MtR.or {id : String} {r r' : V → List V → Hp → VK → Prop} (h : MtR X id r) (h' : MtR X id r') : MtR X id (fun x xs H Q => r x xs H Q ∨ r' x xs H Q) := by
  intro pins s σ H x xs v us Q I rx rs q
  rcases q with q | q
  · exact h pins s σ H x xs v us Q I rx rs q
  · exact h' pins s σ H x xs v us Q I rx rs q
theorem pe_ix {r : R2} (hr : IxR X r) (ha : PE X a ta) (hb : PE X b tb) (hs : PlainIx b) : PE X (.Subscript a b pos) (tOp r ta tb) := by
  intro pins s σ H Q I h
  exact Subscript_ (binT ha hb I h fun v u s2 x y H2 I2 rx ry q => hr a b pins s2 σ H2 x y v u Q I2 rx ry q (hs _ _))
def rIxL (K : PySem.W.Frag) : R2 := fun x y H Q => ∃ p xs i v, x = .ref p ∧ y = .int i ∧ SqL K H p xs ∧ atI xs i = some v ∧ Q v H
def rIxT (K : PySem.W.Frag) : R2 := fun x y H Q => ∃ p xs i v, x = .ref p ∧ y = .int i ∧ SqT K H p xs ∧ atI xs i = some v ∧ Q v H
theorem ix_list : IxR X (rIxL X.K) := by
  intro value slice pins s σ H x y v u Q I rx ry h hs
  obtain ⟨p, xs, i, z, rfl, rfl, hq, he, q⟩ := h
  cases rx
  obtain ⟨t, rfl⟩ := ry
  obtain ⟨its, r, pl, hz⟩ := I.list hq
  obtain ⟨j, h1, h2, h3, h4, h5⟩ := atI_get he
  obtain ⟨w, ew, rw'⟩ := r.get h2
  have hl := r.length
  have hn := line63
  have fin : EP X pins σ Q w s := ⟨z, H, I, rw', q⟩
  by_cases h0 : 0 ≤ i
  · have hj : i.toNat = j := by
      rw [seqIndex_of h0 h5] at h1
      exact Option.some.inj h1
    exact item_listR pl.isList h0 (by omega) (by rw [hj]; simpa using ew) fin hs
  · have hj : (i + (its.toArray.size : Int)).toNat = j := by
      rw [seqIndex_neg (by omega) h4] at h1
      rw [List.size_toArray, ← hl]
      exact Option.some.inj h1
    exact subscriptTail_builtinR (x := w) pl.isList.typeIs slot_list_getitem.lookup
      (wpAny_getItem_list_neg (Q := fun r s' => r = w ∧ EP X pins σ Q r s') pl.isList (by omega) (by rw [List.size_toArray] <;> omega) (by omega) (by rw [hj]; simpa using ew) ⟨rfl, fin⟩) hs
theorem ix_tup : IxR X (rIxT X.K) := by
  intro value slice pins s σ H x y v u Q I rx ry h hs
  obtain ⟨p, xs, i, z, rfl, rfl, hq, he, q⟩ := h
  cases rx
  obtain ⟨t, rfl⟩ := ry
  obtain ⟨its, r, pl, hz⟩ := I.tuple hq
  obtain ⟨j, h1, h2, h3, h4, h5⟩ := atI_get he
  obtain ⟨w, ew, rw'⟩ := r.get h2
  have hl := r.length
  have hn := line63
  have fin : EP X pins σ Q w s := ⟨z, H, I, rw', q⟩
  exact subscriptTail_builtinR (x := w) pl.typeIs slot_tuple_getitem.lookup
    (getItem_tuple (j := j) (Q := fun r s' => r = w ∧ EP X pins σ Q r s') pl (by omega) (by omega) (by rw [List.size_toArray, ← hl]; exact h1) (by simpa using ew) ⟨rfl, fin⟩) hs
theorem mapSeq_set (its : List Value) (n j : Nat) (u : Value) : Obj.mapSeq (·.setIfInBounds j u) { cls := .type "list", data := .seq its.toArray n } = { cls := .type "list", data := .seq (its.set j u).toArray n } := by
  simp [Obj.mapSeq]
theorem Inv.lst {pins : List (Addr × Obj)} {σ : St} {H : Hp} {s : Shared} {p : Addr} {xs : List V} (I : Inv X pins σ H s) (h : H p = some (.lst xs)) :
    ∃ (its : List Value) (n : Nat), Vals xs its ∧ s.heap.get? p = some { cls := .type "list", data := .seq its.toArray n } ∧ xs.length ≤ sizeLine := by
  obtain ⟨z, its, n, r, e⟩ := I.hok p _ h
  exact ⟨its, n, r, e, z⟩
theorem Inv.lstUpd {pins : List (Addr × Obj)} {σ : St} {H : Hp} {s : Shared} {p : Addr} {xs ys : List V} {its its' : List Value} {n n' : Nat} {f : Obj → Obj} (I : Inv X pins σ H s) (h : H p = some (.lst xs))
    (ho : s.heap.get? p = some { cls := .type "list", data := .seq its.toArray n }) (hf : f { cls := .type "list", data := .seq its.toArray n } = { cls := .type "list", data := .seq its'.toArray n' }) (r : Vals ys its') (hz : ys.length ≤ sizeLine) (t : Nat) :
    Inv X pins σ (upd H p (.lst ys)) { s with heap := s.heap.update p f, toks := t } := by
  have e : (s.heap.update p f).get? p = some { cls := .type "list", data := .seq its'.toArray n' } := by
    rw [Heap.get?_update_self f ho (by rw [hf] <;> rfl), hf]
  refine I.write (x := p) (e := p) (by rw [h]; trivial) (.inl rfl) (fun b u hb q => (Heap.get?_update_other _ _ (Ne.symm hb)).trans q) ⟨_, e⟩ ?_
  exact ⟨hz, its', n', r, e⟩
def rSetL : V → V → V → Hp → (Hp → Prop) → Prop := fun o i v H Q => ∃ p xs k j, o = .ref p ∧ i = .int k ∧ H p = some (.lst xs) ∧ ixN xs.length k = some j ∧ Q (upd H p (.lst (xs.set j v)))
theorem set_list : PSet X rSetL := by
  intro pins s σ H o i v ov iv u Q I ro ri rv h
  obtain ⟨p, xs, k, j, rfl, rfl, hp, hj, q⟩ := h
  cases ro
  obtain ⟨t, rfl⟩ := ri
  obtain ⟨its, n, r, ho, hz⟩ := I.lst hp
  obtain ⟨h1, h2, h3, h4⟩ := ixN_seq hj
  have hl := r.length
  have hn := line63
  have I' : Inv X pins σ (upd H p (.lst (xs.set j v))) { s with heap := s.heap.update p (Obj.mapSeq (·.setIfInBounds j u)) } :=
    I.lstUpd hp ho (mapSeq_set its n j u) (r.set rv j) (by rw [List.length_set]; exact hz) s.toks
  by_cases h0 : 0 ≤ k
  · have hk : k.toNat = j := by
      rw [seqIndex_of h0 h4] at h1
      exact Option.some.inj h1
    exact PySem.W.ki_setAt ho h0 (by omega) (by rw [List.size_toArray, ← hl]; exact h4) (by rw [hk]; exact ⟨_, I', q⟩)
  · have hk : (k + (its.toArray.size : Int)).toNat = j := by
      rw [seqIndex_neg (by omega) h3] at h1
      rw [List.size_toArray, ← hl]
      exact Option.some.inj h1
    exact PySem.W.ki_setBack ho (by omega) (by rw [List.size_toArray, ← hl]; exact h3) (by omega) (by rw [hk]; exact ⟨_, I', q⟩)
theorem slice_bounds (lo hi : Option Int) (n : Nat) : (sliceBounds lo hi none n).1 = ((HT.sIx n 0 lo : Nat) : Int) ∧ (sliceBounds lo hi none n).2.1 = ((HT.sIx n n hi : Nat) : Int) ∧ (sliceBounds lo hi none n).2.2 = 1 := by
  refine ⟨?_, ?_, rfl⟩
  · cases lo with
    | none => simp [sliceBounds, HT.sIx]
    | some i =>
      simp only [sliceBounds, HT.sIx, Option.getD_none, show (1 : Int) > 0 by decide, if_true]
      by_cases h : i < 0
      · simp only [h, if_true] <;> omega
      · simp only [h, if_false] <;> omega
  · cases hi with
    | none => simp [sliceBounds, HT.sIx]
    | some i =>
      simp only [sliceBounds, HT.sIx, Option.getD_none, show (1 : Int) > 0 by decide, if_true]
      by_cases h : i < 0
      · simp only [h, if_true] <;> omega
      · simp only [h, if_false] <;> omega
theorem slicePick_cut (its : List Value) (lo hi : Option Int) : slicePick its.toArray lo hi none = ((its.drop (HT.sIx its.length 0 lo)).take (HT.sIx its.length its.length hi - HT.sIx its.length 0 lo)).toArray := by
  obtain ⟨h1, h2, h3⟩ := slice_bounds lo hi its.toArray.size
  unfold slicePick
  rw [h1, h2, h3]
  simp only [sliceRange_one, pick_run, List.size_toArray] <;> rfl
def rSlL (K : PySem.W.Frag) : V → Option Int → Option Int → Hp → VK → Prop := fun x lo hi H Q => ∃ a xs, x = .ref a ∧ SqL K H a xs ∧ ∀ p, H p = none → Q (.ref p) (upd H p (.lst (cutV xs lo hi)))
theorem sl_list : SlR X (rSlL X.K) := by
  intro pins s σ H x v vl vu lo hi sl Q I rx hs pl pu h
  obtain ⟨a, xs, rfl, hx, q⟩ := h
  cases rx
  obtain ⟨its, r, ht, hz⟩ := I.list hx
  have hlen := r.length
  refine ⟨"list", _, slot_list_getitem.lookup, ht.isList.typeIs, ?_⟩
  refine wpAny_getItem_list_slice ht.isList hs pl pu .none (by simp) ?_ (by rw [List.size_toArray] <;> omega)
  rw [slicePick_cut, ← hlen]
  refine ⟨.ref s.heap.objs.size, _, I.laid (t' := s.toks) (o := .lst (cutV xs lo hi)) (fun b ob q => Heap.get?_push_of_some _ q) (Nat.le_refl _) ?_, rfl, q _ (I.hok.fresh (Nat.le_refl _))⟩
  exact ⟨Nat.le_trans (cutV_length xs lo hi) hz, _, 0, (r.drop (HT.sIx xs.length 0 lo)).take (HT.sIx xs.length xs.length hi - HT.sIx xs.length 0 lo), Heap.get?_push_size _ rfl⟩
theorem call_len_seq : CallR X (.builtin "len") (fun xs H Q => ∃ p ys, xs = [.ref p] ∧ (SqL X.K H p ys ∨ SqT X.K H p ys) ∧ Q (.int ys.length) H) := by
  intro pins s σ H xs us Q I r h
  obtain ⟨p, ys, rfl, hq, q⟩ := h
  obtain ⟨u, rfl, rx⟩ := vals1 r
  cases rx
  have hn := line63
  rcases hq with hq | hq
  · obtain ⟨its, r', pl, hz⟩ := I.list hq
    have hlen := r'.length
    exact Calls.call_len_list pl.isList (by simp only [List.size_toArray] <;> omega) ⟨.int ys.length, H, I.tok _, ⟨s.toks + 1, by rw [List.size_toArray, hlen]⟩, q⟩
  · obtain ⟨its, r', pl, hz⟩ := I.tuple hq
    have hlen := r'.length
    exact len_tuple pl (by simp only [List.size_toArray] <;> omega) ⟨.int ys.length, H, I.tok _, ⟨s.toks + 1, by rw [List.size_toArray, hlen]⟩, q⟩
theorem CallR.or {f : Value} {r r' : List V → Hp → VK → Prop} (h : CallR X f r) (h' : CallR X f r') : CallR X f (fun xs H Q => r xs H Q ∨ r' xs H Q) := by
  intro pins s σ H xs us Q I rs q
  rcases q with q | q
  · exact h pins s σ H xs us Q I rs q
  · exact h' pins s σ H xs us Q I rs q
theorem call_list_of : CallR X (.type "list") (fun xs H Q => ∃ p ys, xs = [.ref p] ∧ (SqL X.K H p ys ∨ SqT X.K H p ys) ∧ ∀ l, H l = none → Q (.ref l) (upd H l (.lst ys))) := by
  intro pins s σ H xs us Q I r h
  obtain ⟨p, ys, rfl, hq, q⟩ := h
  obtain ⟨u, rfl, rx⟩ := vals1 r
  cases rx
  have fin : ∀ (its : List Value), Vals ys its → ys.length ≤ sizeLine → ∀ (h' : Heap) (c' : Nat), (∀ b o', s.heap.get? b = some o' → h'.get? b = some o') →
      h'.get? s.heap.objs.size = some { cls := .type "list", dict := none, data := .seq its.toArray c', slots := #[] } → EP X pins σ Q (.ref s.heap.objs.size) { s with heap := h' } := fun its r' hz h' c' kp e =>
    ⟨.ref s.heap.objs.size, _, I.laid (t' := s.toks) kp (Nat.le_refl _) (show ObjOk X.prog X.w _ h' _ (.lst ys) from ⟨hz, its, c', r', e⟩), rfl, q _ (I.hok.fresh (Nat.le_refl _))⟩
  rcases hq with hq | hq
  · obtain ⟨its, r', pl, hz⟩ := I.list hq
    have hlen := r'.length
    obtain ⟨o, ho, hc, n, hd⟩ := pl.isList
    exact call_list_seq p (.inl rfl) ho hc hd (fun h' c' kp e => fin its r' hz h' c' kp e) (by simp only [List.size_toArray] <;> omega)
  · obtain ⟨its, r', pl, hz⟩ := I.tuple hq
    have hlen := r'.length
    obtain ⟨o, ho, hc, n, hd⟩ := pl
    exact call_list_seq p (.inr rfl) ho hc hd (fun h' c' kp e => fin its r' hz h' c' kp e) (by simp only [List.size_toArray] <;> omega)
theorem call_tuple_of : CallR X (.type "tuple") (fun xs H Q => ∃ p ys, xs = [.ref p] ∧ ((SqL X.K H p ys ∧ ∀ l, H l = none → Q (.ref l) (upd H l (.tup ys))) ∨ (SqT X.K H p ys ∧ Q (.ref p) H))) := by
  intro pins s σ H xs us Q I r h
  obtain ⟨p, ys, rfl, h⟩ := h
  obtain ⟨u, rfl, rx⟩ := vals1 r
  cases rx
  rcases h with ⟨hq, q⟩ | ⟨hq, q⟩
  · obtain ⟨its, r', pl, hz⟩ := I.list hq
    have hlen := r'.length
    refine call_tuple_list pl.isList (fun h' kp => ?_) (by simp only [List.size_toArray] <;> omega)
    have I1 : Inv X pins σ H { s with heap := h' } := I.kept (t' := s.toks) kp
    have I2 : Inv X pins σ (upd H h'.objs.size (.tup ys)) { s with heap := h'.push { cls := .type "tuple", data := .seq its.toArray } } :=
      I1.laid (t' := s.toks) (fun b o e => Heap.get?_push_of_some _ e) (Nat.le_refl _) (show ObjOk X.prog X.w _ _ _ (.tup ys) from ⟨hz, its, r', IsTup.new _ _⟩)
    exact ⟨.ref h'.objs.size, _, I2, rfl, q _ (I1.hok.fresh (Nat.le_refl _))⟩
  · obtain ⟨its, r', pl, hz⟩ := I.tuple hq
    exact call_tuple_same pl ⟨.ref p, H, I, rfl, q⟩
def tyV (K : PySem.W.Frag) (T : String) (x : V) (H : Hp) : Prop := match x with
  | .str _ => T = "str"
  | .int _ => T = "int"
  | .ref p => (T = "list" ∧ ∃ xs, SqL K H p xs) ∨ (T = "tuple" ∧ ∃ o, K.lookup p = some o ∧ o.cls = .type "tuple" ∧ o.dict = none) ∨
      (T = "dict" ∧ ((∃ kvs, H p = some (.dK kvs)) ∨ ∃ kvs, H p = some (.dT kvs))) ∨ (T = "set" ∧ ∃ S n, H p = some (.set S n))
  | _ => False
theorem tyV_is {pins : List (Addr × Obj)} {σ : St} {H : Hp} {s : Shared} {T : String} {x : V} {v : Value} (I : Inv X pins σ H s) (r : RelV x v) (ty : tyV X.K T x H) :
    s.TypeIs v T ∧ ∀ a, v = .ref a → ∃ ob, s.heap.get? a = some ob ∧ ob.dict = none := by
  cases x with
  | str z =>
    obtain ⟨t, rfl⟩ := r
    cases (show T = "str" from ty)
    exact ⟨typeIs_str s z t, fun _ e => nomatch e⟩
  | int i =>
    obtain ⟨t, rfl⟩ := r
    cases (show T = "int" from ty)
    exact ⟨typeIs_int s i t, fun _ e => nomatch e⟩
  | ref p =>
    cases r
    rcases ty with ⟨rfl, xs, hq⟩ | ⟨rfl, o, hk, hc, hd⟩ | ⟨rfl, hk⟩ | ⟨rfl, S, n, hk⟩
    · obtain ⟨its, _, pl, _⟩ := I.list hq
      refine ⟨pl.isList.typeIs, fun a e => ?_⟩
      cases e
      obtain ⟨o, n, e, c, hd, _⟩ := pl
      exact ⟨o, e, hd⟩
    · refine ⟨⟨o, I.kIn p o hk, hc⟩, fun a e => ?_⟩
      cases e
      exact ⟨o, I.kIn _ o hk, hd⟩
    · have z : ∃ o, s.heap.get? p = some o ∧ o.ExactDict := by
        rcases hk with ⟨kvs, hk⟩ | ⟨kvs, hk⟩
        · obtain ⟨_, _, _, _, o, _, _, e, ex, _⟩ := I.hok p _ hk
          exact ⟨o, e, ex⟩
        · obtain ⟨_, _, _, _, o, _, _, e, ex, _⟩ := I.hok p _ hk
          exact ⟨o, e, ex⟩
      obtain ⟨o, e, ex⟩ := z
      refine ⟨⟨o, e, ex.1⟩, fun a e2 => ?_⟩
      cases e2
      exact ⟨o, e, ex.2.1⟩
    · obtain ⟨o, _, _, _, e, ex, _⟩ := I.hok p _ hk
      refine ⟨⟨o, e, ex.1⟩, fun a e2 => ?_⟩
      cases e2
      exact ⟨o, e, ex.2.1⟩
  | _ => exact False.elim ty
def tBM (K : PySem.W.Frag) (T : String) (r : V → List V → Hp → VK → Prop) (to : TE) (t : TA) : TE := fun σ H Q => to σ H fun x H1 => tyV K T x H1 ∧ t σ H1 fun xs H2 => r x xs H2 Q
variable {o e : Expr} {es : List Expr} {to : TE} {t : TA} {name : Str} {apos cpos : Pos} {T id : String} {r : V → List V → Hp → VK → Prop}
theorem pe_bm (pa : PlainAttrs T) (slot : Slot T name id) (hty : typeOf (.builtin id) = pure (.type "method_descriptor")) (hm : MtR X id r) (ho : PE X o to) (ha : PA X (e :: es) t)
    (hbase : attributeBase o name X.env (eval o X.env) = eval o X.env := by rfl)
    (hfew : ((backTo cpos (starEach (e :: es) X.env)).all (fun x => !x.1) && (backToKw cpos (keywordEach [] X.env)).all (fun x => x.1.isSome)
      && decide ((e :: es).length + ([] : List Keyword).length + (if ([] : List Keyword).isEmpty then 0 else 1) < 30)) = true := by rfl)
    (hline : (apos.endLine == cpos.line) = true := by rfl) (hs : starEach (e :: es) X.env = (false, eval e X.env) :: starEach es X.env := by rfl) (hplain : (backTo cpos (starEach es X.env)).any (·.1) = false := by rfl) :
    PE X (.Call (.Attribute o name apos) (e :: es) [] cpos) (tBM X.K T r to t) := by
  intro pins s σ H Q I h
  refine wpAny_Call_method_late hbase hfew hline rfl (thn (ho pins s σ H _ I h) fun v s1 ⟨x, H1, I1, r1, ty, q1⟩ => ?_)
  obtain ⟨h1, h2⟩ := tyV_is I1 r1 ty
  refine ⟨T, id, pa, slot, hty, h1, h2, ?_⟩
  have hA := ha cpos pins s1 σ H1 _ I1 q1
  rw [hs] at hA ⊢
  refine Calls.callWith_builtin (by show (false || (backTo cpos (starEach es X.env)).any (·.1)) = false; rw [hplain] <;> rfl) (Calls.evalArgs_plain ?_)
  exact thn hA fun us s2 ⟨vs, H2, I2, r2, q2⟩ => hm pins s2 σ H2 x vs v us Q I2 r1 r2 q2
end
end L2
namespace L2
open PySem PySem.Spec PyProof.Rows
def MtM (X : Cx) (id : String) (r : V → List V → Hp → VK → Prop) : Prop :=
  ∀ (pins : List (Addr × Obj)) (s : Shared) (σ : St) (H : Hp) (x : V) (xs : List V) (v : Value) (us : List Value) (Q : VK), Inv X pins σ H s → RelV x v → Vals xs us → r x xs H Q →
    wpAny (model X.prog X.w) X.A (call (.builtin id) (v :: us)) (EP X pins σ Q) X.xe s
theorem Vals.one : ∀ {x : V} {us : List Value}, Vals [x] us → ∃ u, us = [u] ∧ RelV x u
  | _, _, .cons r .nil => ⟨_, rfl, r⟩
theorem Vals.two : ∀ {x y : V} {us : List Value}, Vals [x, y] us → ∃ u v, us = [u, v] ∧ RelV x u ∧ RelV y v
  | _, _, _, .cons r (.cons q .nil) => ⟨_, _, rfl, r, q⟩
theorem Vals.zero : ∀ {us : List Value}, Vals [] us → us = []
  | _, .nil => rfl
theorem Vals.reverse {xs : List V} {us : List Value} (h : Vals xs us) : Vals xs.reverse us.reverse := by
  induction h with
  | nil => exact .nil
  | cons r t ih => rw [List.reverse_cons, List.reverse_cons]; exact Vals.append ih (.cons r .nil)
theorem Vals.rep {xs : List V} {us : List Value} (h : Vals xs us) : ∀ k : Nat, Vals (List.replicate k xs).flatten (List.replicate k us).flatten
  | 0 => .nil
  | k + 1 => by
    rw [List.replicate_succ, List.replicate_succ, List.flatten_cons, List.flatten_cons]
    exact Vals.append h (Vals.rep h k)
theorem foldl_rep (its : List Value) : ∀ (k : Nat) (acc : List Value),
    List.foldl (fun x1 x2 => x1 ++ x2) acc.toArray (List.replicate k its.toArray) = (acc ++ (List.replicate k its).flatten).toArray
  | 0, acc => by simp
  | k + 1, acc => by
    have e : acc.toArray ++ its.toArray = (acc ++ its).toArray := by simp
    have e2 : (acc ++ its) ++ (List.replicate k its).flatten = acc ++ (List.replicate (k + 1) its).flatten := by
      rw [List.replicate_succ, List.flatten_cons, List.append_assoc]
    rw [← e2, ← foldl_rep its k (acc ++ its), ← e, List.replicate_succ, List.foldl_cons]
section
variable {X : Cx} {pins : List (Addr × Obj)} {σ : St} {H : Hp} {s : Shared} {l b : Addr} {xs ys zs : List V}
theorem Inv.lset {its its' : List Value} {n : Nat} {f : Array Value → Array Value} {t' : Nat} (I : Inv X pins σ H s) (hH : H l = some (.lst xs))
    (e : s.heap.get? l = some { cls := .type "list", data := .seq its.toArray n }) (hf : f its.toArray = its'.toArray) (hv : Vals ys its') (hz : ys.length ≤ sizeLine) :
    Inv X pins σ (upd H l (.lst ys)) { s with heap := s.heap.update l (Obj.mapSeq f), toks := t' } := by
  have q := PySem.IsL.update e f
  rw [hf] at q
  refine I.write (x := l) (e := l) (by rw [hH]; exact trivial) (.inl rfl) (fun b' u hb hu => (Heap.get?_update_other s.heap (Obj.mapSeq f) (Ne.symm hb)).trans hu) ⟨_, q⟩ ?_
  exact ⟨hz, its', _, hv, q⟩
theorem Inv.lnew {its : List Value} {t' : Nat} (I : Inv X pins σ H s) (hv : Vals ys its) (hz : ys.length ≤ sizeLine) :
    Inv X pins σ (upd H s.heap.objs.size (.lst ys)) { s with heap := s.heap.push { cls := .type "list", data := .seq its.toArray }, toks := t' } :=
  I.laid (fun _ _ q => Heap.get?_push_of_some _ q) (Nat.le_refl _) ⟨hz, its, 0, hv, Heap.get?_push_size _ rfl⟩
theorem Inv.fresh (I : Inv X pins σ H s) : H s.heap.objs.size = none := I.hok.fresh (Nat.le_refl _)
theorem Inv.lstM (I : Inv X pins σ H s) (hH : H l = some (.lst xs)) : xs.length ≤ sizeLine ∧ ∃ (its : List Value) (n : Nat), Vals xs its ∧ xs.length = its.length ∧ s.heap.get? l = some { cls := .type "list", data := .seq its.toArray n } := by
  obtain ⟨z, its, n, r, e⟩ := I.hok l _ hH
  exact ⟨z, its, n, r, r.length, e⟩
theorem notLongL {n : Nat} (h : n ≤ sizeLine) : Builtin.List.listTooLong n = false := by
  unfold Builtin.List.listTooLong
  exact decide_eq_false (by omega)
end
section
variable {X : Cx}
def rAppend : V → List V → Hp → VK → Prop := fun x vs H Q => ∃ l xs y, x = .ref l ∧ vs = [y] ∧ H l = some (.lst xs) ∧ xs.length < sizeLine ∧ Q .non (upd H l (.lst (xs ++ [y])))
theorem mt_append : MtM X "list.append" rAppend := by
  intro pins s σ H x vs v us Q I rx rv h
  obtain ⟨l, xs, y, rfl, rfl, hH, hz, q⟩ := h
  cases rx
  obtain ⟨u, rfl, ru⟩ := rv.one
  obtain ⟨z, its, n, r, hl, e⟩ := I.lstM hH
  refine call_meets F.slot_list_append ⟨_, e, rfl⟩ F.entry_list_append (F.args_list_append_2 _ _) (PySem.list_append l its.toArray n u (by rw [List.size_toArray]; omega)) ⟨e, ?_⟩
  refine ⟨.non, _, I.lset (its' := its ++ [u]) hH e (by simp) (r.append (.cons ru .nil)) ?_, rfl, q⟩
  rw [List.length_append, List.length_singleton]
  omega
def rExtend : V → List V → Hp → VK → Prop := fun x vs H Q => ∃ l b xs zs, x = .ref l ∧ vs = [.ref b] ∧ H l = some (.lst xs) ∧ H b = some (.lst zs) ∧ xs.length + zs.length ≤ sizeLine ∧ Q .non (upd H l (.lst (xs ++ zs)))
theorem mt_extend : MtM X "list.extend" rExtend := by
  intro pins s σ H x vs v us Q I rx rv h
  obtain ⟨l, b, xs, zs, rfl, rfl, hH, hB, hz, q⟩ := h
  cases rx
  obtain ⟨u, rfl, ru⟩ := rv.one
  cases ru
  obtain ⟨z, its, n, r, hl, e⟩ := I.lstM hH
  obtain ⟨z2, its2, n2, r2, hl2, e2⟩ := I.lstM hB
  have hsz : its.toArray.size + its2.toArray.size ≤ sizeLine := by rw [List.size_toArray, List.size_toArray]; omega
  have hlong : ¬ (!its.toArray.isEmpty && Builtin.List.listTooLong (its.toArray.size + its2.toArray.size)) = true := by
    rw [notLongL hsz, Bool.and_false]
    exact Bool.false_ne_true
  refine call_meets F.slot_list_extend ⟨_, e, rfl⟩ F.entry_list_extend (F.args_list_extend_2 _ _)
    (AutoSeq1.list_extend_list_list_0 l its.toArray n b its2.toArray n2 hlong (by rw [List.size_toArray]; omega) (by omega)) ⟨e, e2, ?_⟩
  refine ⟨.non, _, I.lset (its' := its ++ its2) hH e (by simp) (r.append r2) ?_, rfl, q⟩
  rw [List.length_append]
  omega
def rCat : R2 := fun x y H Q => ∃ l b xs zs, x = .ref l ∧ y = .ref b ∧ H l = some (.lst xs) ∧ H b = some (.lst zs) ∧ xs.length + zs.length ≤ sizeLine ∧ ∀ p, H p = none → Q (.ref p) (upd H p (.lst (xs ++ zs)))
theorem op_cat : OpR X (binaryOp .Add) rCat := by
  intro pins s σ H x y v u Q I rx ry h
  obtain ⟨l, b, xs, zs, rfl, rfl, hH, hB, hz, q⟩ := h
  cases rx
  cases ry
  obtain ⟨z, its, n, r, hl, e⟩ := I.lstM hH
  obtain ⟨z2, its2, n2, r2, hl2, e2⟩ := I.lstM hB
  refine PySem.P.add_list e e2 ?_ (by rw [List.size_toArray, List.size_toArray]; omega)
  have ea : its.toArray ++ its2.toArray = (its ++ its2).toArray := by simp
  rw [ea]
  exact ⟨.ref _, _, I.lnew (t' := s.toks) (r.append r2) (by rw [List.length_append]; omega), rfl, q _ I.fresh⟩
def rRep : R2 := fun x y H Q => ∃ l k xs, x = .ref l ∧ y = .int k ∧ H l = some (.lst xs) ∧ -(2 ^ 63) ≤ k ∧ k < 2 ^ 63 ∧ xs.length * k.toNat ≤ sizeLine ∧
  ∀ p, H p = none → Q (.ref p) (upd H p (.lst (List.replicate k.toNat xs).flatten))
theorem len_rep {α : Type} (xs : List α) (k : Nat) : (List.replicate k xs).flatten.length = k * xs.length := by
  induction k with
  | zero => simp
  | succ k ih => rw [List.replicate_succ, List.flatten_cons, List.length_append, ih, Nat.succ_mul, Nat.add_comm]
theorem op_rep : OpR X (binaryOp .Mult) rRep := by
  intro pins s σ H x y v u Q I rx ry h
  obtain ⟨l, k, xs, rfl, rfl, hH, h1, h2, hz, q⟩ := h
  cases rx
  obtain ⟨t, rfl⟩ := ry
  obtain ⟨z, its, n, r, hl, e⟩ := I.lstM hH
  have hlen : its.toArray.size * k.toNat ≤ sizeLine := by rw [List.size_toArray, ← hl]; exact hz
  have hcap : ¬ its.toArray.size * k.toNat > (2 ^ 63 - 1) / 8 := by
    have : (sizeLine : Nat) ≤ (2 ^ 63 - 1) / 8 := by decide
    omega
  have hfit : ¬ (!Builtin.List.listFitsIndex k) = true := by
    rw [fitsIndex_both h1 h2]
    exact Bool.false_ne_true
  have hlong : ¬ Builtin.List.listTooLong (its.toArray.size * k.toNat) = true := by
    rw [notLongL hlen]
    exact Bool.false_ne_true
  have hnew : List.foldl (fun x1 x2 => x1 ++ x2) #[] (List.replicate (if its.toArray.isEmpty = true then 0 else k.toNat) its.toArray) = (List.replicate k.toNat its).flatten.toArray := by
    have f0 : ∀ m : Nat, List.foldl (fun x1 x2 => x1 ++ x2) #[] (List.replicate m its.toArray) = (List.replicate m its).flatten.toArray := fun m => by
      have := foldl_rep its m []
      rw [List.nil_append] at this
      exact this
    rw [f0]
    cases its with
    | nil => simp
    | cons a r' => rw [if_neg (by simp)]
  refine wpAny_binaryOp_repeat_ref (T := "list") (U := "int") (by decide) ⟨_, e, rfl⟩ (fun s' => typeIs_int s' k t) noFill_list_mul F.fills_int_mul F.slot_int_rmul repeat_list F.slot_int_index.lookup
    (call_meets F.slot_int_rmul (typeIs_int s k t) F.entry_int_rmul (F.args_int_rmul_2 _ _) (int___rmul___int_list k t l its.toArray n)
      ⟨e, rfl, ⟨_, e, rfl⟩, call_meets F.slot_list_mul ⟨_, e, rfl⟩ F.entry_list_mul (F.args_list_mul_2 _ _) (AutoListH.list___mul___list_int_3 l its.toArray n k t hfit hcap hlong) ⟨e, ?_⟩⟩)
  rw [hnew]
  exact ⟨.ref _, _, I.lnew (t' := s.toks) (r.rep k.toNat) (by rw [len_rep, Nat.mul_comm]; exact hz), rfl, q _ I.fresh⟩
end
section
variable {prog : Program} {w : World} {A : Around} {E : Value → Shared → Prop} {s : Shared}
theorem bounds_run {a c n : Nat} (hac : a ≤ c) (hc : c ≤ n) : sliceBounds (some (a : Int)) (some (c : Int)) none n = ((a : Int), (c : Int), 1) := by
  simp only [sliceBounds, Option.getD_none]
  have h1 : ¬ ((a : Int) < 0) := by omega
  have h2 : ¬ ((c : Int) < 0) := by omega
  simp only [h1, h2, if_false, show (1 : Int) > 0 by decide, if_true]
  congr 1
  · omega
  · congr 1; omega
set_option maxRecDepth 100000 in
theorem setItem_slice {l b sl : Addr} {items new : Array Value} {n n2 : Nat} {vl vu : Value} {a c : Nat} {Q : Unit → Shared → Prop}
    (e : s.heap.get? l = some { cls := .type "list", data := .seq items n }) (e2 : s.heap.get? b = some { cls := .type "list", data := .seq new n2 }) (hne : l ≠ b)
    (hs : s.heap.IsSliceOf sl vl vu .none) (pl : IsPart vl (some (a : Int))) (pu : IsPart vu (some (c : Int))) (hac : a ≤ c) (hc : c ≤ items.size)
    (hsz : items.size + new.size ≤ sizeLine) (h : Q () { s with heap := s.heap.update l (Obj.mapSeq fun xs => xs.extract 0 a ++ new ++ xs.extract c xs.size) }) :
    wpAny (model prog w) A (setItem (.ref l) (.ref sl) (.ref b)) Q E s := by
  have hl : s.heap.IsList l items := PySem.IsL.isList e
  have hb : s.heap.IsList b new := PySem.IsL.isList e2
  obtain ⟨os, hos, hcs, hds⟩ := id hs
  have hTs : s.TypeIs (.ref sl) "slice" := ⟨os, hos, hcs⟩
  have hstep : ¬ ((rawPart none == rawInt 0) = true) := Bool.false_ne_true
  have hsame : Builtin.List.listSameRef (.ref l) (.ref b) = false := by
    unfold Builtin.List.listSameRef
    exact beq_eq_false_iff_ne.mpr hne
  have hmax : (max (a : Int) (c : Int)).toNat = c := by omega
  have hz' : ((fun xs : Array Value => xs.extract 0 a ++ new ++ xs.extract c xs.size) items).size ≤ sizeLine + 1 := by
    simp only [Array.size_append, Array.size_extract]
    omega
  unfold setItem
  try with_reducible refine wpAny_holding ?_
  first | refine wpAny_bind (wpAny_pure ?_) | skip
  refine wpAny_bind (wpAny_sequenceKey hl.typeIs (by decide) ?_)
  refine wpAny_bind (wpAny_callSpecial?_slot (name := Str.ofString "__setitem__") hl.typeIs slot_list_setitem
    (wpAny_call_entry slot_list_setitem hl.typeIs entry_list_setitem ?_ (args_list_setitem _ _ _)))
  show wpAny _ _ (Builtin.List.listSubscript? (.ref sl) >>= _) _ _ s
  refine wpAny_bind ?_
  unfold Builtin.List.listSubscript?
  refine wpAny_bind (wpAny_specialOf hTs slice_no_index ?_)
  simp only [Option.isNone_none, if_true]
  refine wpAny_pure ?_
  show wpAny _ _ (typeOf (.ref sl) >>= _) _ _ s
  refine wpAny_bind (wpAny_typeOf hTs ?_)
  first
    | rw [if_neg (by decide)]
    | refine PySem.W.KFB.if_not (by decide) ?_
  rw [listSliceParts_eq]
  refine wpAny_bind (wpAny_bind (wpAny_field hos hds (x := .none) rfl (wpAny_bind (wpAny_listPart .none ?_))))
  rw [if_neg hstep]
  refine wpAny_bind (wpAny_field hos hds (x := vl) rfl (wpAny_bind (wpAny_listPart pl ?_)))
  refine wpAny_bind (wpAny_field hos hds (x := vu) rfl (wpAny_bind (wpAny_listPart pu (wpAny_pure ?_))))
  first
    | simp only [hsame, Bool.false_eq_true, if_false]
    | refine PySem.W.KFB.if_not hsame ?_
    | (dsimp only
       rw [if_neg (by rw [hsame]; exact Bool.false_ne_true)])
  refine wpAny_bind (m := Builtin.List.listAllItems (.ref b) "must assign iterable to extended slice") ?_
  unfold Builtin.List.listAllItems
  refine wpAny_bind (wpAny_typeOf hb.typeIs ?_)
  first
    | refine PySem.W.KFB.if_so (by decide) ?_
    | rw [if_pos (by decide)]
    | simp only [beq_self_eq_true, Bool.true_or, if_true]
  unfold Builtin.List.listItems
  refine wpAny_bind (wpAny_seqItems e2 rfl (wpAny_pure ?_))
  refine wpAny_bind (wpAny_bind (wpAny_seqItems e rfl (wpAny_pure ?_)))
  refine wpAny_bind (wpAny_of_eq ((sliceIndices_raw (some (a : Int)) (some (c : Int)) none items.size (by simp)).trans (congrArg (pure : Int × Int × Int → Sem (Int × Int × Int)) (bounds_run hac hc))) ?_)
  show wpAny _ _ (if ((1 : Int) == 1) = true then _ else _) _ _ s
  rw [if_pos (by decide)]
  refine wpAny_bind (wpAny_rule ?_)
  first
    | simp only [notLongL hsz, Bool.false_eq_true, if_false]
    | refine PySem.W.KFB.if_not (notLongL hsz) ?_
  first | refine wpAny_bind (wpAny_pure ?_) | skip
  show wpAny _ _ (updateSeq l (fun xs => xs.extract 0 ((a : Int)).toNat ++ new ++ xs.extract (max (a : Int) (c : Int)).toNat xs.size) >>= _) _ _ s
  rw [hmax, Int.toNat_natCast]
  refine wpAny_bind (wpAny_updateSeq (hz := Nat.le_trans (Nat.le_add_right _ _) hsz) (_hz' := hz') e rfl ?_)
  refine wpAny_bind (wpAny_letGo ?_)
  first
    | exact wpAny_bind (wpAny_pure (wpAny_pure ⟨.none, rfl, wpAny_pure h⟩))
    | exact wpAny_pure ⟨.none, rfl, wpAny_pure h⟩
end
section
variable {X : Cx}
end
end L2
namespace Att
open PySem PySem.W PySem.Calls PyProof.Rows
theorem ints_of_wellAll {P : Params} {h : Heap} : ∀ (ns : List Int) (vs : List Value), WellAll P h vs (ns.map WData.int) → IntsAre vs ns := by
  intro ns
  induction ns with
  | nil =>
    intro vs w
    rw [List.map_nil] at w
    cases w
    exact .nil
  | cons n ns ih =>
    intro vs w
    rw [List.map_cons] at w
    cases w with
    | cons a b =>
      cases a
      exact .cons _ _ (ih _ b)
theorem script_of {l : OpenLaw} {n : Nat} (hn : l.most = some n) {P : Params} {h : Heap} {args : List WData} {vals : List Value}
    (hpre : l.row.toRowW.claim.pre args = true) (hwl : WellAll P h vals args) :
    ∃ a vs ns, vals = [Value.ref a] ∧ args = [WData.list (ns.map WData.int)] ∧ h.get? a = some { cls := .type "list", data := .seq vs.toArray } ∧ IntsAre vs ns ∧ ns.length ≤ n := by
  have hsh : WShape.hasAll [] args [.list .int] = true := (pre_splitW hpre).1
  have hc : l.pre.holds [] { args := args } = true := (pre_splitW hpre).2
  obtain ⟨d, r, rfl, h1, h2⟩ := hasAllW_cons hsh
  obtain rfl := hasAllW_nil h2
  obtain ⟨xs, rfl, h3⟩ := hasW_list h1
  obtain ⟨ns, rfl⟩ := items_int h3
  have hlen : ns.length ≤ n := by
    unfold OpenLaw.pre at hc
    have h4 : (WTm.not (.lt (.lit (.int (n : Int))) (.len (.arg 0)))).holds [] { args := [.list (ns.map .int)] } = true := by
      have h4 := (holds_andW hc).1
      rw [hn] at h4
      exact h4
    have h5 := condW_of h4 (w_not (w_lt w_lit (w_len_list (w_arg rfl))))
    rw [List.length_map] at h5
    refine Nat.le_of_not_lt fun q => ?_
    have q' : (n : Int) < ((ns.length : Nat) : Int) := by omega
    first
      | (rw [decide_eq_true q'] at h5; exact absurd h5 (by decide))
      | (simp at h5; omega)
  cases hwl with
  | cons w1 w2 =>
    cases w2
    cases w1 with
    | list ho hall => exact ⟨_, _, ns, rfl, rfl, ho, ints_of_wellAll ns _ hall, hlen⟩
theorem post_true (l : OpenLaw) (args : List WData) : l.row.toRowW.claim.post args (.bool true) args = true :=
  postW_of (r := l.row.toRowW) (X := (true == true))
    (show WShape.has [] (.bool true) .bool = true by first | rfl | decide | simp [WShape.has, WShape.arms, WShape.armsAll])
    (show (WTm.eq .res (.lit (.bool true))).value [] { args := args, res := some (.bool true), after := args } = some (.bool (true == true)) from w_eq_bool (w_res rfl) w_lit) rfl
theorem attach_call {l : OpenLaw} {n : Nat} {q : Program} {loose : List Str} {XP : (Str → Option Value) → Heap → Prop} {YP : World → Heap → Prop} {d : DefRec}
    (hn : l.most = some n) (hdf : d.params.defaults = [])
    (call : ∀ (w : World) (s₀ s₁ : Shared) (mg mb : Str → Option Value) (fa : Addr) (o : Obj) (pm cd doc : Value) (a : Addr) (vs : List Value) (ns : List Int),
      Ground q loose [] XP w s₀ mg mb s₁.heap → YP w s₁.heap →
      s₁.heap.get? fa = some o → o.data = .func (docDef d.name d.params d.body d.scope pm cd doc) → s₁.heap.CodeRec cd d.name → mg d.name = some (.ref fa) →
      s₁.heap.get? a = some { cls := .type "list", data := .seq vs.toArray } → IntsAre vs ns → ns.length ≤ n → s₁.gens = #[] →
      codeAny (model l.prog w) callerA (.call (.ref fa) ⟨[.ref a], []⟩) (fun r s' => r = .ok (.ret (.bool true)) ∧ OldK s₁.heap s'.heap ∧ s'.os = s₁.os ∧ AllBare s'.gens) s₁) :
    WalkO q loose XP YP l.row.toRowW d [] (fun f vs => PySem.call f vs) := by
  intro w s₀ s₁ mg mb G Y fa o pm cd doc dV kV ho hd hcd hD hmg hg args vals as hpre hlay hrd hwl hlo
  obtain rfl : dV = .none := Dflts.none hD hdf
  obtain rfl : kV = .none := Dflts.noKw hD
  obtain ⟨a, vs, ns, rfl, rfl, hobj, hints, hlen⟩ := script_of hn hpre hwl
  refine enter_call (codeAny_mono (call w s₀ s₁ mg mb fa o pm cd doc a vs ns G Y ho (fd_plain hd) hcd hmg hobj hints hlen hg) fun r s' hq => ?_)
  obtain ⟨rfl, h2, h3, h4⟩ := hq
  exact ⟨.inl ⟨.bool true, .bool true, [], rfl, fun _ => rfl, .bool true, post_true l _, fun _ => ⟨List.Pairwise.nil, fun _ hm => (nomatch hm)⟩⟩, h2, h3, h4⟩
section
variable {prog : Program} {w : World} {A : Around} {E : Value → Shared → Prop} {s : Shared} {K : Frag}
end
end Att
namespace L2
open PySem PySem.Spec PyProof.Rows
theorem vals_ints : ∀ {vs : List Value} {ns : List Int}, IntsAre vs ns → Vals (ns.map V.int) vs
  | _, _, .nil => .nil
  | _, _, .cons n t h => .cons ⟨t, rfl⟩ (vals_ints h)
end L2
namespace L2
open PySem PySem.Spec PyProof.Rows
def defArgs (s : Stmt) : Arguments := match s with
  | .FunctionDef _ a _ _ _ _ _ _ _ _ => a
  | _ => { posonlyargs := [], args := [], vararg := none, kwonlyargs := [], kw_defaults := [], kwarg := none, defaults := [] }
def defBody (s : Stmt) : List Stmt := match s with
  | .FunctionDef _ _ b _ _ _ _ _ _ _ => b
  | _ => []
def defScope (s : Stmt) : Scope := match s with
  | .FunctionDef _ _ _ _ _ _ sc _ _ _ => sc
  | _ => { kind := .function, names := [], isGenerator := false, isCoroutine := false }
abbrev CX0 : CXT := fun _ _ _ _ _ _ => False
abbrev E0 : XK := fun _ _ _ => False
theorem pass0 {X : Cx} : Passes CX0 X E0 := fun _ _ _ _ _ _ _ h => h.elim
structure Fun (K : PySem.W.Frag) (x qual : Str) (st : Stmt) (f : Addr) (fd : FuncData) : Prop where
  ex : ∃ (oc : Value) (od : Option Addr) (kV doc pm : Value) (an : Option Addr) (cdv ct : Value) (osl : Array (Option Value)),
    fd = PySem.W.fnOf x qual (defArgs st) (defBody st) (defScope st) .none kV doc pm an cdv ct ∧ K.lookup f = some ⟨oc, od, .func fd, osl⟩ ∧ PySem.W.codeIn K cdv qual = true
  kp : PySem.W.keepIn K (.ref f) = true
section
variable {P : Program} {w : World} {K : PySem.W.Frag} {mg : Str → Option Value} {base : Heap}
theorem Fun.ok {x qual : Str} {st : Stmt} {f : Addr} {fd : FuncData} {N ps : List Str} {k : Nat} {sp : Sp} (F : Fun K x qual st f fd) (S : FnScope N ps (defScope st)) (len : ∀ vs H Q E, sp vs H Q E → vs.length = ps.length)
    (hbody : ∀ (cdv : Value) (A : Around) (outer : List Env) (s : Shared) (H : Hp) (vs : List V) (Q : VK) (E : XK), Room k (A.deeper (envOfC qual (defScope st) s.heap.objs.size f cdv)) → sp vs H Q E →
      ∃ t, PSs (cxOf CX0 P w K mg base N qual (defScope st) f cdv A outer s H E).nox (defBody st) t ∧ t { nx := fun _ H' => Q .non H', rt := Q } (start N vs) H) : FnOk P w K mg base CX0 (k + 1) f fd ps sp := by
  obtain ⟨oc, od, kV, doc, pm, an, cdv, ct, osl, rfl, lk, hcd⟩ := F.ex
  refine fn_of lk hcd S len fun A outer s H vs Q E hr hsp => ?_
  obtain ⟨t, h, q⟩ := hbody cdv A outer s H vs Q E hr hsp
  exact ⟨t, h.nox, q⟩
theorem Fun.binds {x qual : Str} {st : Stmt} {f : Addr} {fd : FuncData} {ps : List Str} (F : Fun K x qual st f fd)
    (h : ∀ (kV doc pm : Value) (an : Option Addr) (cdv ct : Value) (us : List Value), us.length = ps.length → bindArgs (PySem.W.fnOf x qual (defArgs st) (defBody st) (defScope st) .none kV doc pm an cdv ct) ⟨us, []⟩ = pure (ps.zip us)) : Binds K fd ps [] := by
  obtain ⟨oc, od, kV, doc, pm, an, cdv, ct, osl, rfl, lk, hcd⟩ := F.ex
  exact .all (h kV doc pm an cdv ct)
theorem fun_mk {x qual : Str} {st : Stmt} {f : Addr} {oc : Value} {od an : Option Addr} {osl : Array (Option Value)} {kV doc pm cdv ct : Value} (l : K.lookup f = some ⟨oc, od, .func (PySem.W.fnOf x qual (defArgs st) (defBody st) (defScope st) .none kV doc pm an cdv ct), osl⟩)
    (c : PySem.W.codeIn K cdv qual = true) (k : PySem.W.keepIn K (.ref f) = true) : Fun K x qual st f (PySem.W.fnOf x qual (defArgs st) (defBody st) (defScope st) .none kV doc pm an cdv ct) := ⟨⟨oc, od, kV, doc, pm, an, cdv, ct, osl, rfl, l, c⟩, k⟩
end
theorem hu_of {A : Around} {k : Nat} (hr : Room k A) : A.units + 1 < cLine := Nat.lt_of_le_of_lt (Nat.add_le_add_left (by decide : 1 ≤ 64) _) hr.units
theorem small1000 {n : Nat} (h : n ≤ 1000) : n < sizeLine := Nat.lt_of_le_of_lt h (by decide)
section
variable {X : Cx}
end
theorem iteF {A B : Prop} (h : B) : if false = true then A else B := by
  rw [if_neg Bool.false_ne_true]
  exact h
theorem iteT {A B : Prop} (h : A) : if true = true then A else B := by
  rw [if_pos rfl]
  exact h
def Same (H H' : Hp) : Prop := ∀ b o, H b = some o → H' b = some o
theorem Same.refl (H : Hp) : Same H H := fun _ _ h => h
theorem Same.trans {H H1 H2 : Hp} (a : Same H H1) (b : Same H1 H2) : Same H H2 := fun c o h => b c o (a c o h)
theorem Same.free {H H' : Hp} (e : Same H H') {l : Addr} (h : H' l = Option.none) : H l = Option.none := by
  cases q : H l with
  | none => rfl
  | some o =>
    rw [e l o q] at h
    cases h
theorem Same.seq {K : PySem.W.Frag} {H H' : Hp} {a : Addr} {xs : List V} (e : Same H H') (h : SqL K H a xs) : SqL K H' a xs := by
  rcases h with (h | ⟨o, h⟩) | h
  · exact .inl (.inl (e _ _ h))
  · exact .inl (.inr ⟨o, e _ _ h⟩)
  · exact .inr h
end L2
set_option Elab.async false
set_option linter.all false
set_option maxRecDepth 100000
namespace L2
open PySem PySem.Spec PyProof.Rows
section
variable {κ : Type} [DecidableEq κ]
def valV (kvs : List (κ × V)) (k : κ) : Option V := (kvs.find? fun kv => decide (kv.1 = k)).map (·.2)
def putK (kvs : List (κ × V)) (k : κ) (v : V) : List (κ × V) :=
  if (kvs.any fun kv => decide (kv.1 = k)) = true then kvs.map (fun kv => if kv.1 = k then (kv.1, v) else kv) else kvs ++ [(k, v)]
def dropK (kvs : List (κ × V)) (k : κ) : List (κ × V) := kvs.filter fun kv => decide (kv.1 ≠ k)
theorem valV_pos {p : κ × V} {r : List (κ × V)} {k : κ} (e : p.1 = k) : valV (p :: r) k = some p.2 := by simp [valV, List.find?_cons, e]
theorem valV_neg {p : κ × V} {r : List (κ × V)} {k : κ} (e : ¬ p.1 = k) : valV (p :: r) k = valV r k := by simp [valV, List.find?_cons, e]
theorem valV_any (k : κ) : ∀ kvs : List (κ × V), (kvs.any fun kv => decide (kv.1 = k)) = (valV kvs k).isSome
  | [] => rfl
  | p :: r => by
    rw [List.any_cons]
    by_cases e : p.1 = k
    · simp only [valV_pos e, decide_eq_true e, Bool.true_or, Option.isSome_some]
    · rw [valV_neg e, decide_eq_false e, Bool.false_or]; exact valV_any k r
theorem length_putK (kvs : List (κ × V)) (k : κ) (v : V) : (putK kvs k v).length ≤ kvs.length + 1 := by
  unfold putK
  split
  · rw [List.length_map]; omega
  · rw [List.length_append, List.length_cons, List.length_nil]; omega
theorem RelO.isSome_eq {o : Option V} {u : Option Value} (r : RelO o u) : o.isSome = u.isSome := by
  cases o with
  | none => cases u with
    | none => rfl
    | some _ => exact (show False from r).elim
  | some _ => cases u with
    | none => exact (show False from r).elim
    | some _ => rfl
theorem RelO.getD {o : Option V} {u : Option Value} {d : V} {d' : Value} (r : RelO o u) (rd : RelV d d') : RelV (o.getD d) (u.getD d') := by
  cases o with
  | none => cases u with
    | none => exact rd
    | some _ => exact (show False from r).elim
  | some _ => cases u with
    | none => exact (show False from r).elim
    | some _ => exact r
theorem KV.val {kvs : List (κ × V)} {vs : List (κ × Value)} (r : KV kvs vs) (k : κ) : RelO (valV kvs k) (valueAt vs k) := by
  unfold KV at r
  induction r with
  | nil => exact True.intro
  | @cons p q ps qs h t ih =>
    obtain ⟨h1, h2⟩ := h
    by_cases e : p.1 = k
    · have e' : q.1 = k := h1.symm.trans e
      have b : valueAt (q :: qs) k = some q.2 := by simp [valueAt, List.find?_cons, e']
      rw [valV_pos e, b]; exact h2
    · have e' : ¬ q.1 = k := fun z => e (h1.trans z)
      have b : valueAt (q :: qs) k = valueAt qs k := by simp [valueAt, List.find?_cons, e']
      rw [valV_neg e, b]; exact ih
theorem KV.any {kvs : List (κ × V)} {vs : List (κ × Value)} (r : KV kvs vs) (k : κ) : (kvs.any fun kv => decide (kv.1 = k)) = vs.any fun kv => decide (kv.1 = k) := by
  unfold KV at r
  induction r with
  | nil => rfl
  | cons h t ih => rw [List.any_cons, List.any_cons, ih, h.1]
theorem KV.repl {kvs : List (κ × V)} {vs : List (κ × Value)} (r : KV kvs vs) (k : κ) {y : V} {u : Value} (ry : RelV y u) :
    KV (kvs.map fun kv => if kv.1 = k then (kv.1, y) else kv) (vs.map fun kv => if kv.1 = k then (kv.1, u) else kv) := by
  unfold KV at r ⊢
  induction r with
  | nil => exact .nil
  | @cons p q ps qs h t ih =>
    rw [List.map_cons, List.map_cons]
    refine .cons ?_ ih
    obtain ⟨h1, h2⟩ := h
    by_cases e : p.1 = k
    · rw [if_pos e, if_pos (h1.symm.trans e)]; exact ⟨h1, ry⟩
    · rw [if_neg e, if_neg (fun z => e (h1.trans z))]; exact ⟨h1, h2⟩
theorem KV.put {kvs : List (κ × V)} {vs : List (κ × Value)} (r : KV kvs vs) (k : κ) {y : V} {u : Value} (ry : RelV y u) : KV (putK kvs k y) (stored vs k u) := by
  unfold putK stored
  rw [r.any k]
  by_cases e : (vs.any fun kv => decide (kv.1 = k)) = true
  · rw [if_pos e, if_pos e]; exact r.repl k ry
  · rw [if_neg e, if_neg e]; exact Paired.snoc r ⟨rfl, ry⟩
theorem KV.drop {kvs : List (κ × V)} {vs : List (κ × Value)} (r : KV kvs vs) (k : κ) : KV (dropK kvs k) (without vs k) := by
  unfold KV at r ⊢
  unfold dropK without
  induction r with
  | nil => exact .nil
  | @cons p q ps qs h t ih =>
    obtain ⟨h1, h2⟩ := h
    rw [List.filter_cons, List.filter_cons]
    by_cases e : p.1 = k
    · have a : ¬ decide (p.1 ≠ k) = true := by simp [e]
      have b : ¬ decide (q.1 ≠ k) = true := by simp [h1.symm.trans e]
      rw [if_neg a, if_neg b]; exact ih
    · have e' : ¬ q.1 = k := fun z => e (h1.trans z)
      have a : decide (p.1 ≠ k) = true := by simp [e]
      have b : decide (q.1 ≠ k) = true := by simp [e']
      rw [if_pos a, if_pos b]; exact .cons ⟨h1, h2⟩ ih
theorem KV.keys {kvs : List (κ × V)} {vs : List (κ × Value)} (r : KV kvs vs) : kvs.map (·.1) = vs.map (·.1) := by
  unfold KV at r
  induction r with
  | nil => rfl
  | cons h t ih => rw [List.map_cons, List.map_cons, ih, h.1]
theorem KV.length {kvs : List (κ × V)} {vs : List (κ × Value)} (r : KV kvs vs) : kvs.length = vs.length := Paired.length r
end
theorem kV_is {P : Program} {w : World} {k : Key} {u : Value} (r : RelV (kV k) u) : (mixKind P w).is k u = true := by
  cases k with
  | inl i => obtain ⟨t, e⟩ := (show ∃ t, u = Value.int i t from r); subst e; exact mixKind_int P w i t
  | inr x => obtain ⟨t, e⟩ := (show ∃ t, u = Value.str x t from r); subst e; exact mixKind_str P w x t
theorem items_are {P : Program} {w : World} : ∀ {ks : List Key} {us : List Value}, Vals (ks.map kV) us → ItemsAre (mixKind P w) ks us
  | [], _, r => by rw [List.map_nil] at r; cases r; exact .nil
  | k :: ks, _, r => by
    rw [List.map_cons] at r
    cases r with
    | cons h t => exact .cons (kV_is h) (items_are t)
abbrev KT (H : Hp) : List (List Key × V) → List (List Key × Addr × Value) → Prop := Paired fun p q => p.1 = q.1 ∧ H q.2.1 = some (.tup (p.1.map kV)) ∧ RelV p.2 q.2.2
theorem KT.val {H : Hp} {kvs : List (List Key × V)} {xs : List (List Key × Addr × Value)} (r : KT H kvs xs) (k : List Key) : RelO (valV kvs k) ((atKey xs k).map (·.2)) := by
  induction r with
  | nil => exact True.intro
  | @cons p q ps qs h t ih =>
    obtain ⟨h1, _, h2⟩ := h
    by_cases e : p.1 = k
    · have e' : q.1 = k := h1.symm.trans e
      have b : atKey (q :: qs) k = some q.2 := by simp [atKey, List.find?_cons, e']
      rw [valV_pos e, b]; exact h2
    · have e' : ¬ q.1 = k := fun z => e (h1.trans z)
      have b : atKey (q :: qs) k = atKey qs k := by simp [atKey, List.find?_cons, e']
      rw [valV_neg e, b]; exact ih
theorem KT.repl {H : Hp} {kvs : List (List Key × V)} {xs : List (List Key × Addr × Value)} (r : KT H kvs xs) (k : List Key) {y : V} {u : Value} (ry : RelV y u) :
    KT H (kvs.map fun kv => if kv.1 = k then (kv.1, y) else kv) (xs.map (putAt k u)) := by
  induction r with
  | nil => exact .nil
  | @cons p q ps qs h t ih =>
    rw [List.map_cons, List.map_cons]
    refine .cons ?_ ih
    obtain ⟨h1, h2, h3⟩ := h
    unfold putAt
    by_cases e : p.1 = k
    · rw [if_pos e, if_pos (h1.symm.trans e)]; exact ⟨h1, h2, ry⟩
    · rw [if_neg e, if_neg (fun z => e (h1.trans z))]; exact ⟨h1, h2, h3⟩
theorem KT.put {H : Hp} {kvs : List (List Key × V)} {xs : List (List Key × Addr × Value)} (r : KT H kvs xs) (k : List Key) {b : Addr} {y : V} {u : Value} (hb : H b = some (.tup (k.map kV))) (ry : RelV y u) :
    KT H (putK kvs k y) (storedH xs k b u) := by
  have e : (kvs.any fun kv => decide (kv.1 = k)) = (atKey xs k).isSome := by
    rw [valV_any, (r.val k).isSome_eq, Option.isSome_map]
  unfold putK storedH
  rw [e]
  by_cases q : (atKey xs k).isSome = true
  · rw [if_pos q, if_pos q]; exact r.repl k ry
  · rw [if_neg q, if_neg q]; exact Paired.snoc r ⟨rfl, hb, ry⟩
theorem KT.keeps {H H' : Hp} {kvs : List (List Key × V)} {xs : List (List Key × Addr × Value)} (r : KT H kvs xs) (ht : ∀ b ys, H b = some (.tup ys) → H' b = some (.tup ys)) : KT H' kvs xs :=
  Paired.mapP r fun _ _ z => ⟨z.1, ht _ _ z.2.1, z.2.2⟩
section
variable {P : Program} {w : World} {H : Hp} {h : Heap} {a : Addr}
theorem rd_of {u : HO} (ok : HOk P w H h) (e : Rd H a u) : ObjOk P w H h a u := e.ok ok
theorem dk_rd {kvs : List (Key × V)} (ok : HOk P w H h) (e : Rd H a (.dK kvs)) : kvs.length ≤ sizeLine ∧ (a == sysModules) = false ∧ ∃ vs, KV kvs vs ∧ h.DictOf (mixKind P w) a vs :=
  show ObjOk P w H h a (.dK kvs) from rd_of ok e
theorem dk_of {kvs : List (Key × V)} (ok : HOk P w H h) (e : H a = some (.dK kvs)) : kvs.length ≤ sizeLine ∧ (a == sysModules) = false ∧ ∃ vs, KV kvs vs ∧ h.DictOf (mixKind P w) a vs := dk_rd ok (.inl e)
theorem key_of {ks : List Key} (ok : HOk P w H h) (e : H a = some (.tup (ks.map kV))) : (tupleKind (mixKind P w)).is h ks a := by
  obtain ⟨_, its, r, o, h1, h2, n, h3⟩ := (show ObjOk P w H h a (.tup (ks.map kV)) from ok a _ e)
  exact ⟨o, its.toArray, n, h1, h2, h3, by simpa using items_are r⟩
theorem dt_rd {kvs : List (List Key × V)} (ok : HOk P w H h) (e : Rd H a (.dT kvs)) : kvs.length ≤ sizeLine ∧ (a == sysModules) = false ∧
    ∃ xs, KT H kvs xs ∧ h.DictOfH (tupleKind (mixKind P w)) a xs := by
  obtain ⟨z, y, xs, r, o, es, ep, h1, h2, h3, h4, h5⟩ := (show ObjOk P w H h a (.dT kvs) from rd_of ok e)
  refine ⟨z, y, xs, r, o, es, ep, h1, h2, h3, h4, fun x hx => ?_, h5⟩
  have all : ∀ {l : List (List Key × V)} {m : List (List Key × Addr × Value)}, KT H l m → ∀ x ∈ m, (tupleKind (mixKind P w)).is h x.1 x.2.1 := by
    intro l m q
    induction q with
    | nil => intro x hx; exact nomatch hx
    | @cons p q ps qs hq t ih =>
      intro x hx
      rcases List.mem_cons.mp hx with e | hx
      · subst e
        exact key_of ok (by rw [← hq.1]; exact hq.2.1)
      · exact ih x hx
  exact all r x hx
theorem dt_of {kvs : List (List Key × V)} (ok : HOk P w H h) (e : H a = some (.dT kvs)) : kvs.length ≤ sizeLine ∧ (a == sysModules) = false ∧
    ∃ xs, KT H kvs xs ∧ h.DictOfH (tupleKind (mixKind P w)) a xs := dt_rd ok (.inl e)
end
def DGet (H : Hp) (a : Addr) (y : V) (r : Option V) : Prop :=
  (∃ kvs k, Rd H a (.dK kvs) ∧ y = kV k ∧ r = valV kvs k) ∨ ∃ kvs k b, Rd H a (.dT kvs) ∧ y = .ref b ∧ H b = some (.tup (k.map kV)) ∧ r = valV kvs k
def DPut (H : Hp) (a : Addr) (y v : V) (H' : Hp) : Prop :=
  (∃ kvs k, H a = some (.dK kvs) ∧ y = kV k ∧ kvs.length < sizeLine ∧ H' = upd H a (.dK (putK kvs k v))) ∨
  ∃ kvs k b, H a = some (.dT kvs) ∧ y = .ref b ∧ H b = some (.tup (k.map kV)) ∧ kvs.length < sizeLine ∧ H' = upd H a (.dT (putK kvs k v))
theorem DGet.k {H : Hp} {a : Addr} {kvs : List (Key × V)} {k : Key} (e : H a = some (.dK kvs)) : DGet H a (kV k) (valV kvs k) := .inl ⟨kvs, k, .inl e, rfl, rfl⟩
theorem DGet.t {H : Hp} {a b : Addr} {kvs : List (List Key × V)} {k : List Key} (e : H a = some (.dT kvs)) (eb : H b = some (.tup (k.map kV))) : DGet H a (.ref b) (valV kvs k) := .inr ⟨kvs, k, b, .inl e, rfl, eb, rfl⟩
theorem DPut.k {H : Hp} {a : Addr} {kvs : List (Key × V)} {k : Key} {v : V} (e : H a = some (.dK kvs)) (hl : kvs.length < sizeLine) : DPut H a (kV k) v (upd H a (.dK (putK kvs k v))) := .inl ⟨kvs, k, e, rfl, hl, rfl⟩
theorem DPut.t {H : Hp} {a b : Addr} {kvs : List (List Key × V)} {k : List Key} {v : V} (e : H a = some (.dT kvs)) (eb : H b = some (.tup (k.map kV))) (hl : kvs.length < sizeLine) :
    DPut H a (.ref b) v (upd H a (.dT (putK kvs k v))) := .inr ⟨kvs, k, b, e, rfl, eb, hl, rfl⟩
section
variable {X : Cx} {pins : List (Addr × Obj)} {σ : St} {H : Hp} {s : Shared} {a : Addr} {y v : V} {u r : Value} {o : Option V} {A : Around} {E : Value → Shared → Prop}
theorem Inv.big (I : Inv X pins σ H s) : sysModules < s.heap.objs.size := by
  have h : mainGlobals < s.heap.objs.size := (I.mod.glob.keeps I.bk).lt
  exact Nat.lt_trans (by decide) h
theorem d_write {h' : Heap} {t' : Nat} {ob : HO} (I : Inv X pins σ H s) (mu : Mut (H a)) (hs : Heap.SameBut a s.heap h') (he : ∃ q, h'.get? a = some q) (new : ObjOk X.prog X.w (upd H a ob) h' a ob) :
    Inv X pins σ (upd H a ob) { s with heap := h', toks := t' } :=
  I.write (x := a) (e := a) mu (.inl rfl) (fun b q hb z => (hs.2 b hb).trans z) he new
theorem dk_new {P : Program} {w : World} {H' : Hp} {h' : Heap} {kvs : List (Key × V)} {vs : List (Key × Value)} (z : kvs.length ≤ sizeLine) (hd : (a == sysModules) = false) (rel : KV kvs vs) (dd : h'.DictOf (mixKind P w) a vs) :
    ObjOk P w H' h' a (.dK kvs) := ⟨z, hd, vs, rel, dd⟩
theorem d_setItem {H' : Hp} {Q : Unit → Shared → Prop} (hu : A.units + 1 < cLine) (I : Inv X pins σ H s) (g : DPut H a y v H') (ry : RelV y u) (rv : RelV v r) (h : ∀ s', Inv X pins σ H' s' → Q () s') :
    wpAny (model X.prog X.w) A (setItem (.ref a) u r) Q E s := by
  rcases g with ⟨kvs, k, e, ey, l, eH⟩ | ⟨kvs, k, b, e, ey, eb, l, eH⟩
  · subst ey eH
    obtain ⟨z, hd, vs, rel, dd⟩ := dk_of I.hok e
    have hz : vs.length ≤ sizeLine := by rw [← rel.length]; exact z
    have hl : (putK kvs k v).length ≤ sizeLine := by have := length_putK kvs k v; omega
    refine wpAny_setItem_pairs (hsz := hz) (kV_is ry) dd fun h' dd' hs => h _ ?_
    have he : ∃ q, h'.get? a = some q := let ⟨q, _, _, hq, _⟩ := dd'; ⟨q, hq⟩
    exact d_write I (by rw [e]; exact True.intro) hs he (dk_new hl hd (rel.put k rv) dd')
  · subst ey eH
    cases (show u = Value.ref b from ry)
    obtain ⟨z, hd, xs, rel, dd⟩ := dt_of I.hok e
    have hz : xs.length ≤ sizeLine := by rw [← Paired.length rel]; exact z
    have hl : (putK kvs k v).length ≤ sizeLine := by have := length_putK kvs k v; omega
    refine wpAny_setItem_heap (hsz := hz) (tupleKind_room_in1 hu) (key_of I.hok eb) dd fun h' dd' hs => h _ ?_
    obtain ⟨q, es, ep, hq, h2, h3, h4, _, h5⟩ := dd'
    refine d_write I (by rw [e]; exact True.intro) hs ⟨q, hq⟩ ⟨hl, hd, _, (rel.put k eb rv).keeps fun c ys ec => ?_, q, es, ep, hq, h2, h3, h4, h5⟩
    rw [upd_ne (ne_of ec e (fun z => nomatch z))]
    exact ec
end
section
variable {X : Cx} {pins : List (Addr × Obj)} {σ : St} {H : Hp} {s : Shared} {a : Addr} {kvs : List (Key × V)} {k : Key} {u : Value} {A : Around} {E : Value → Shared → Prop}
end
def sDPut (td ty tv : TE) : TS := fun D σ H => tv σ H fun v H1 => td σ H1 fun x H2 => ty σ H2 fun y H3 => ∃ a H4, x = .ref a ∧ DPut H3 a y v H4 ∧ D.nx σ H4
section
variable {X : Cx} {o i e value : Expr} {pos pos' tpos : Pos} {td ty tv : TE}
theorem ps_dput (hu : X.A.units + 1 < cLine) (ho : PE X o td) (hi : PE X i ty) (hv : PE X value tv) (hs : swapsWith value (some (.Subscript o i pos')) pos.line X.env = pure false) :
    PS X (.Assign [.Subscript o i pos'] value pos) (sDPut td ty tv) := by
  intro pins s σ H D I h
  refine wpAny_Assign_Subscript (thn (hv pins s σ H _ I h) fun r s1 ⟨v, H1, I1, rv, q1⟩ => thn (ho pins s1 σ H1 _ I1 q1) fun u s2 ⟨x, H2, I2, rx, q2⟩ => thn (hi pins s2 σ H2 _ I2 q2) fun iv s3 ⟨y, H3, I3, ry, a, H4, ex, g, q3⟩ => ?_) hs
  subst ex
  obtain rfl : u = Value.ref a := rx
  exact d_setItem hu I3 g ry rv fun s4 I4 => ⟨σ, H4, I4, q3⟩
end
theorem dt_empty {P : Program} {w : World} {H : Hp} (h : Heap) (hb : sysModules < h.objs.size) : ObjOk P w H (h.push { cls := .type "dict", data := .dict #[] }) h.objs.size (.dT []) :=
  ⟨Nat.zero_le _, beq_eq_false_iff_ne.mpr (Ne.symm (Nat.ne_of_lt hb)), [], .nil, _, #[], 0, Heap.get?_push_size _ rfl, ⟨rfl, rfl, rfl⟩, rfl, rfl, List.nodup_nil⟩
def tDNewT : TE := fun _ H Q => ∀ p, H p = none → Q (.ref p) (upd H p (.dT []))
section
variable {X : Cx} {pos : Pos}
theorem pe_dnewT : PE X (.Dict [] [] pos) tDNewT := fun pins s σ H Q I h =>
  wpAny_Dict_empty ⟨.ref s.heap.objs.size, _, I.laid (a := s.heap.objs.size) (o := .dT []) (t' := s.toks) (fun _ _ q => Heap.get?_push_of_some _ q) (Nat.le_refl _) (dt_empty s.heap I.big), rfl, h _ (I.hok.fresh (Nat.le_refl _))⟩
end
structure M1 (X : Cx) (o : Expr) (m : Str) (apos : Pos) (e : Expr) (cpos : Pos) : Prop where
  base : attributeBase o m X.env (eval o X.env) = eval o X.env
  few : ((backTo cpos (starEach [e] X.env)).all (fun x => !x.1) && (backToKw cpos (keywordEach [] X.env)).all (fun x => x.1.isSome)
    && decide (([e] : List Expr).length + ([] : List Keyword).length + (if ([] : List Keyword).isEmpty then 0 else 1) < 30)) = true
  line : (apos.endLine == cpos.line) = true
  trees : backTo cpos (starEach [e] X.env) = [(false, eval e X.env)]
structure M2 (X : Cx) (o : Expr) (m : Str) (apos : Pos) (e f : Expr) (cpos : Pos) : Prop where
  base : attributeBase o m X.env (eval o X.env) = eval o X.env
  few : ((backTo cpos (starEach [e, f] X.env)).all (fun x => !x.1) && (backToKw cpos (keywordEach [] X.env)).all (fun x => x.1.isSome)
    && decide (([e, f] : List Expr).length + ([] : List Keyword).length + (if ([] : List Keyword).isEmpty then 0 else 1) < 30)) = true
  line : (apos.endLine == cpos.line) = true
  trees : backTo cpos (starEach [e, f] X.env) = [(false, eval e X.env), (false, eval f X.env)]
section
variable {X : Cx} {pins : List (Addr × Obj)} {σ : St} {H : Hp} {s : Shared} {a : Addr} {y d : V} {u r : Value} {o : Option V} {A : Around} {E : Value → Shared → Prop}
end
section
variable {X : Cx} {o e f : Expr} {apos cpos : Pos} {td ty tx : TE}
end
section
variable {X : Cx} {pins : List (Addr × Obj)} {σ : St} {H : Hp} {s : Shared} {a : Addr} {kvs : List (Key × V)} {A : Around} {E : Value → Shared → Prop}
end
section
variable {X : Cx} {pins : List (Addr × Obj)} {σ : St} {H : Hp} {s : Shared} {a : Addr} {y : V} {u : Value} {A : Around} {E : Value → Shared → Prop}
end
end L2
set_option linter.all false
namespace La
abbrev Vec := Nat → Int
def zV : Vec := fun _ => 0
def ax (v : Vec) (c : Int) (r : Vec) : Vec := fun j => v j + c * r j
inductive Sp (L : List Vec) : Vec → Prop
  | zero : Sp L zV
  | add (v r : Vec) (c : Int) : r ∈ L → Sp L v → Sp L (ax v c r)
theorem ax_ax (v : Vec) (c d : Int) (r q : Vec) : ax (ax v c r) d q = ax (ax v d q) c r := by funext j; simp only [ax]; omega
theorem Sp.axs {L : List Vec} {u v : Vec} (hu : Sp L u) (t : Int) (hv : Sp L v) : Sp L (ax u t v) := by
  induction hv with
  | zero => have e : ax u t zV = u := by funext j; simp [ax, zV]
            rw [e]; exact hu
  | add v r c hr _ ih =>
    have e : ax u t (ax v c r) = ax (ax u t v) (t * c) r := by funext j; simp only [ax]; grind
    rw [e]; exact .add _ _ _ hr ih
theorem Sp.of {L : List Vec} {r : Vec} (h : r ∈ L) : Sp L r := by
  have e : r = ax zV 1 r := by funext j; simp [ax, zV]
  rw [e]; exact .add _ _ _ h .zero
theorem Sp.le {L M : List Vec} {v : Vec} (h : ∀ r ∈ L, Sp M r) (hv : Sp L v) : Sp M v := by
  induction hv with
  | zero => exact .zero
  | add v r c hr _ ih => exact ih.axs c (h r hr)
theorem Sp.mono {L M : List Vec} {v : Vec} (h : ∀ r ∈ L, r ∈ M) (hv : Sp L v) : Sp M v := hv.le fun r hr => .of (h r hr)
theorem Sp.sub {L : List Vec} {u v : Vec} (hu : Sp L u) (hv : Sp L v) : Sp L (fun j => u j - v j) := by
  have e : (fun j => u j - v j) = ax u (-1) v := by funext j; simp only [ax]; omega
  rw [e]; exact hu.axs (-1) hv
theorem Sp.mul {L : List Vec} {v : Vec} (t : Int) (hv : Sp L v) : Sp L (fun j => t * v j) := by
  have e : (fun j => t * v j) = ax zV t v := by funext j; simp [ax, zV]
  rw [e]; exact Sp.zero.axs t hv
theorem Sp.neg {L : List Vec} {v : Vec} (hv : Sp L v) : Sp L (fun j => -v j) := by
  have e : (fun j => -v j) = (fun j => (-1) * v j) := by funext j; omega
  rw [e]; exact hv.mul (-1)
theorem Sp.at0 {L : List Vec} {v : Vec} {j : Nat} (h : ∀ r ∈ L, r j = 0) (hv : Sp L v) : v j = 0 := by
  induction hv with
  | zero => rfl
  | add v r c hr _ ih => simp only [ax, ih, h r hr]; omega
theorem Sp.nil {v : Vec} (h : Sp [] v) : v = zV := by
  cases h with
  | zero => rfl
  | add v r c hr _ => cases hr
theorem Sp.cons {r : Vec} {L : List Vec} {v : Vec} (h : Sp (r :: L) v) : ∃ c, Sp L (ax v c r) := by
  induction h with
  | zero => exact ⟨0, by have e : ax zV 0 r = zV := by funext j; simp [ax, zV]
                         rw [e]; exact .zero⟩
  | add v q c hq _ ih =>
    obtain ⟨d, hd⟩ := ih
    rcases List.mem_cons.mp hq with rfl | hq
    · exact ⟨d - c, by have e : ax (ax v c q) (d - c) q = ax v d q := by funext j; simp only [ax]; grind
                       rw [e]; exact hd⟩
    · exact ⟨d, by rw [ax_ax]; exact .add _ _ _ hq hd⟩
theorem Sp.cons' {r : Vec} {L : List Vec} {v : Vec} {c : Int} (h : Sp L (ax v c r)) : Sp (r :: L) v := by
  have e : v = ax (ax v c r) (-c) r := by funext j; simp only [ax]; grind
  rw [e]; exact .add _ _ _ List.mem_cons_self (h.mono fun q hq => List.mem_cons_of_mem _ hq)
def Eqv (L M : List Vec) : Prop := ∀ v, Sp L v ↔ Sp M v
theorem Eqv.refl (L : List Vec) : Eqv L L := fun _ => Iff.rfl
theorem Eqv.symm {L M : List Vec} (h : Eqv L M) : Eqv M L := fun v => (h v).symm
theorem Eqv.trans {L M N : List Vec} (h : Eqv L M) (g : Eqv M N) : Eqv L N := fun v => (h v).trans (g v)
theorem Eqv.of {L M : List Vec} (h : ∀ r ∈ L, Sp M r) (g : ∀ r ∈ M, Sp L r) : Eqv L M := fun _ => ⟨Sp.le h, Sp.le g⟩
theorem Eqv.perm {L M : List Vec} (h : L.Perm M) : Eqv L M := .of (fun r hr => .of (h.mem_iff.mp hr)) fun r hr => .of (h.mem_iff.mpr hr)
theorem Eqv.app {L M A B : List Vec} (h : Eqv L M) (g : Eqv A B) : Eqv (L ++ A) (M ++ B) := by
  refine .of (fun r hr => ?_) fun r hr => ?_
  · rcases List.mem_append.mp hr with hr | hr
    · exact ((h r).mp (.of hr)).mono fun q hq => List.mem_append_left _ hq
    · exact ((g r).mp (.of hr)).mono fun q hq => List.mem_append_right _ hq
  · rcases List.mem_append.mp hr with hr | hr
    · exact ((h r).mpr (.of hr)).mono fun q hq => List.mem_append_left _ hq
    · exact ((g r).mpr (.of hr)).mono fun q hq => List.mem_append_right _ hq
def Red (B : Int → Int → Prop) (r : Vec) : List Nat → List Vec → Prop
  | l :: ls, q :: P => B (r l) (q l) ∧ Red B r ls P
  | _, _ => True
abbrev below (x y : Int) : Prop := 0 ≤ x ∧ x < y
abbrev near (x y : Int) : Prop := -y < x ∧ x < y
def Pl : Nat → List Nat → List Vec → Prop
  | _, [], [] => True
  | lo, l :: ls, r :: P => lo ≤ l ∧ (∀ i, i < l → r i = 0) ∧ 0 < r l ∧ Red below r ls P ∧ Pl (l + 1) ls P
  | _, _, _ => False
def Ec : Nat → List Nat → List Vec → Prop
  | _, [], [] => True
  | lo, l :: ls, r :: P => lo ≤ l ∧ (∀ i, i < l → r i = 0) ∧ 0 < r l ∧ Ec (l + 1) ls P
  | _, _, _ => False
theorem Pl.ec : ∀ {lo : Nat} {ls : List Nat} {P : List Vec}, Pl lo ls P → Ec lo ls P
  | _, [], [], _ => trivial
  | _, _ :: _, _ :: _, ⟨a, b, c, _, e⟩ => ⟨a, b, c, Pl.ec e⟩
  | _, [], _ :: _, h => h.elim
  | _, _ :: _, [], h => h.elim
theorem Ec.zero : ∀ {lo : Nat} {ls : List Nat} {P : List Vec}, Ec lo ls P → ∀ r ∈ P, ∀ i, i < lo → r i = 0
  | _, [], [], _, _, hr, _, _ => nomatch hr
  | lo, l :: ls, q :: P, ⟨a, b, c, e⟩, r, hr, i, hi => by
    rcases List.mem_cons.mp hr with rfl | hr
    · exact b i (by omega)
    · exact Ec.zero e r hr i (by omega)
  | _, [], _ :: _, h, _, _, _, _ => h.elim
  | _, _ :: _, [], h, _, _, _, _ => h.elim
theorem Ec.len : ∀ {lo : Nat} {ls : List Nat} {P : List Vec}, Ec lo ls P → ls.length = P.length
  | _, [], [], _ => rfl
  | _, _ :: _, _ :: _, ⟨_, _, _, e⟩ => by simp only [List.length_cons, Ec.len e]
  | _, [], _ :: _, h => h.elim
  | _, _ :: _, [], h => h.elim
theorem Ec.mono : ∀ {lo lo' : Nat} {ls : List Nat} {P : List Vec}, lo' ≤ lo → Ec lo ls P → Ec lo' ls P
  | _, _, [], [], _, _ => trivial
  | _, _, _ :: _, _ :: _, h, ⟨a, b⟩ => ⟨Nat.le_trans h a, b⟩
  | _, _, [], _ :: _, _, h => h.elim
  | _, _, _ :: _, [], _, h => h.elim
theorem Ec.none : ∀ {lo : Nat} {ls : List Nat} {P : List Vec} {v : Vec}, Ec lo ls P → Sp P v → Red near v ls P → v = zV
  | _, [], [], v, _, h, _ => h.nil
  | lo, l :: ls, r :: P, v, ⟨a, b, c, e⟩, h, ⟨n, m⟩ => by
    obtain ⟨k, hk⟩ := h.cons
    have z : ax v k r l = 0 := hk.at0 fun q hq => Ec.zero e q hq l (by omega)
    have hk0 : k = 0 := by
      simp only [ax] at z
      obtain ⟨n1, n2⟩ := n
      have z' : v l = -(k * r l) := by omega
      rw [z'] at n1 n2
      rcases Int.lt_trichotomy k 0 with q | q | q
      · have : k * r l ≤ -1 * r l := Int.mul_le_mul_of_nonneg_right (by omega) (by omega)
        omega
      · exact q
      · have : 1 * r l ≤ k * r l := Int.mul_le_mul_of_nonneg_right (by omega) (by omega)
        omega
    subst hk0
    have ev : ax v 0 r = v := by funext j; simp [ax]
    rw [ev] at hk
    exact Ec.none e hk m
  | _, [], _ :: _, _, h, _, _ => h.elim
  | _, _ :: _, [], _, h, _, _ => h.elim
def rem : List Nat → List Vec → Vec → Vec
  | l :: ls, r :: P, v => rem ls P (ax v (-((v l).fdiv (r l))) r)
  | _, _, v => v
theorem rem_at0 {j : Nat} : ∀ (ls : List Nat) (P : List Vec) (v : Vec), (∀ r ∈ P, r j = 0) → rem ls P v j = v j
  | [], P, v, _ => by cases P <;> rfl
  | _ :: _, [], v, _ => rfl
  | l :: ls, r :: P, v, h => by
    simp only [rem]
    rw [rem_at0 ls P _ fun q hq => h q (List.mem_cons_of_mem _ hq)]
    simp [ax, h r List.mem_cons_self]
theorem fdiv_below {x y : Int} (h : 0 < y) : below (x + -(x.fdiv y) * y) y := by
  have e := Int.mul_fdiv_add_fmod x y
  have h1 := Int.fmod_nonneg_of_pos x h
  have h2 := Int.fmod_lt_of_pos x h
  have c : -(x.fdiv y) * y = -(y * x.fdiv y) := by rw [Int.neg_mul, Int.mul_comm]
  exact ⟨by omega, by omega⟩
theorem rem_red : ∀ {lo : Nat} {ls : List Nat} {P : List Vec} (v : Vec), Ec lo ls P → Red below (rem ls P v) ls P
  | _, [], [], _, _ => trivial
  | lo, l :: ls, r :: P, v, ⟨a, b, c, e⟩ => by
    refine ⟨?_, rem_red _ e⟩
    simp only [rem]
    rw [rem_at0 ls P _ fun q hq => Ec.zero e q hq l (by omega)]
    exact fdiv_below c
  | _, [], _ :: _, _, h => h.elim
  | _, _ :: _, [], _, h => h.elim
theorem red_sub : ∀ {ls : List Nat} {P : List Vec} {u v : Vec}, Red below u ls P → Red below v ls P → Red near (fun j => u j - v j) ls P
  | [], _, _, _, _, _ => by unfold Red; trivial
  | _ :: _, [], _, _, _, _ => by unfold Red; trivial
  | l :: ls, r :: P, u, v, ⟨⟨a, b⟩, c⟩, ⟨⟨d, e⟩, f⟩ => ⟨⟨by dsimp only; omega, by dsimp only; omega⟩, red_sub c f⟩
theorem sub_zV {u v : Vec} (h : (fun j => u j - v j) = zV) : u = v := by
  funext j
  have := congrFun h j
  simp only [zV] at this
  omega
theorem Ec.tail {lo l : Nat} {ls : List Nat} {r : Vec} {P : List Vec} (e : Ec lo (l :: ls) (r :: P)) (v : Vec) : Sp P v ↔ Sp (r :: P) v ∧ v l = 0 := by
  obtain ⟨a, b, c, e'⟩ := e
  constructor
  · intro h
    exact ⟨h.mono fun q hq => List.mem_cons_of_mem _ hq, h.at0 fun q hq => Ec.zero e' q hq l (by omega)⟩
  · rintro ⟨h, h0⟩
    obtain ⟨k, hk⟩ := h.cons
    have z : ax v k r l = 0 := hk.at0 fun q hq => Ec.zero e' q hq l (by omega)
    simp only [ax, h0, Int.zero_add] at z
    rcases Int.mul_eq_zero.mp z with z | z
    · subst z
      have ev : ax v 0 r = v := by funext j; simp [ax]
      rwa [ev] at hk
    · omega
theorem Ec.first {lo l : Nat} {ls : List Nat} {r : Vec} {P : List Vec} (e : Ec lo (l :: ls) (r :: P)) {v : Vec} (h : Sp (r :: P) v) : (∀ i, i < l → v i = 0) ∧ ∃ k, v l = k * r l := by
  obtain ⟨a, b, c, e'⟩ := e
  refine ⟨fun i hi => h.at0 fun q hq => ?_, ?_⟩
  · rcases List.mem_cons.mp hq with rfl | hq
    · exact b i hi
    · exact Ec.zero e' q hq i (by omega)
  · obtain ⟨k, hk⟩ := h.cons
    have z : ax v k r l = 0 := hk.at0 fun q hq => Ec.zero e' q hq l (by omega)
    exact ⟨-k, by simp only [ax] at z; rw [Int.neg_mul]; omega⟩
theorem mul_pos_eq {x y k m : Int} (hx : 0 < x) (hy : 0 < y) (h : x = k * y) (g : y = m * x) : x = y := by
  have a : ∀ {x y k : Int}, 0 < x → 0 < y → x = k * y → y ≤ x := fun {x y k} hx hy h => by
    have hk : 0 < k := by
      rcases Int.lt_trichotomy k 0 with q | q | q
      · have := Int.mul_neg_of_neg_of_pos q hy; omega
      · subst q; simp at h; omega
      · exact q
    have : 1 * y ≤ k * y := Int.mul_le_mul_of_nonneg_right (by omega) (by omega)
    omega
  exact Int.le_antisymm (a hy hx g) (a hx hy h)
theorem Pl.uniq : ∀ {lo lo' : Nat} {ls ls' : List Nat} {P P' : List Vec}, Pl lo ls P → Pl lo' ls' P' → Eqv P P' → P = P' ∧ ls = ls'
  | _, _, [], [], [], [], _, _, _ => ⟨rfl, rfl⟩
  | _, _, [], l :: ls, [], r :: P, _, ⟨a, b, c, d, e⟩, h => by
    have := ((h r).mpr (.of List.mem_cons_self)).nil
    rw [this] at c; simp [zV] at c
  | _, _, l :: ls, [], r :: P, [], ⟨a, b, c, d, e⟩, _, h => by
    have := ((h r).mp (.of List.mem_cons_self)).nil
    rw [this] at c; simp [zV] at c
  | lo, lo', l :: ls, l' :: ls', r :: P, r' :: P', p, p', h => by
    have e := p.ec
    have e' := p'.ec
    obtain ⟨a, b, c, d, t⟩ := p
    obtain ⟨a', b', c', d', t'⟩ := p'
    have f := e'.first ((h r).mp (.of List.mem_cons_self))
    have f' := e.first ((h r').mpr (.of List.mem_cons_self))
    have hl : l = l' := by
      rcases Nat.lt_trichotomy l l' with q | q | q
      · have := f.1 l q; omega
      · exact q
      · have := f'.1 l' q; omega
    subst hl
    obtain ⟨k, hk⟩ := f.2
    obtain ⟨m, hm⟩ := f'.2
    have hr : r l = r' l := mul_pos_eq c c' hk hm
    have ht : Eqv P P' := fun v => by rw [e.tail v, e'.tail v, h v]
    obtain ⟨rfl, rfl⟩ := Pl.uniq t t' ht
    have hs : Sp P (fun j => r j - r' j) := (e.tail _).mpr ⟨(Sp.of List.mem_cons_self).sub ((h r').mpr (.of List.mem_cons_self)), by simp only [hr]; omega⟩
    have := sub_zV (t.ec.none hs (red_sub d d'))
    subst this
    exact ⟨rfl, rfl⟩
  | _, _, [], _, _ :: _, _, h, _, _ => h.elim
  | _, _, _ :: _, _, [], _, h, _, _ => h.elim
  | _, _, _, [], _, _ :: _, _, h, _ => h.elim
  | _, _, _, _ :: _, _, [], _, h, _ => h.elim
end La
set_option linter.all false
namespace La
def at' (r : List Int) (j : Nat) : Int := r.getD j 0
def fv (r : List Int) : Vec := fun j => r.getD j 0
def subZ (r : List Int) (t : Int) (s : List Int) : List Int := List.zipWith (fun a b => a - t * b) r s
def lowZ (r l : List Int) (p : Nat) : List Int := subZ r ((at' r p).fdiv (at' l p)) l
theorem fv_at (r : List Int) (j : Nat) : fv r j = at' r j := rfl
theorem getD_zipWith {α β γ : Type} (f : α → β → γ) (a : α) (b : β) : ∀ (xs : List α) (ys : List β) (j : Nat), xs.length = ys.length → (List.zipWith f xs ys).getD j (f a b) = f (xs.getD j a) (ys.getD j b)
  | [], [], j, _ => by simp
  | x :: xs, y :: ys, 0, _ => by simp
  | x :: xs, y :: ys, j + 1, h => by
    have := getD_zipWith f a b xs ys j (by simpa using h)
    simpa using this
  | [], _ :: _, _, h => by simp at h
  | _ :: _, [], _, h => by simp at h
theorem subZ_len {r s : List Int} {t : Int} (h : r.length = s.length) : (subZ r t s).length = r.length := by simp [subZ, h]
theorem at_subZ {r s : List Int} {t : Int} (h : r.length = s.length) (j : Nat) : at' (subZ r t s) j = at' r j - t * at' s j := by
  have := getD_zipWith (fun a b => a - t * b) 0 0 r s j h
  simpa [subZ, at'] using this
theorem fv_subZ {r s : List Int} {t : Int} (h : r.length = s.length) : fv (subZ r t s) = ax (fv r) (-t) (fv s) := by
  funext j
  have := at_subZ (t := t) h j
  simp only [fv_at, ax, this]
  rw [Int.neg_mul]; omega
theorem fv_inj {r s : List Int} (h : r.length = s.length) (e : fv r = fv s) : r = s := by
  apply List.ext_getElem h
  intro i h1 h2
  have := congrFun e i
  simpa [fv, List.getD, List.getElem?_eq_getElem h1, List.getElem?_eq_getElem h2] using this
theorem map_fv_inj : ∀ {P Q : List (List Int)} {w : Nat}, (∀ r ∈ P, r.length = w) → (∀ r ∈ Q, r.length = w) → P.map fv = Q.map fv → P = Q
  | [], [], _, _, _, _ => rfl
  | p :: P, q :: Q, w, h, g, e => by
    simp only [List.map_cons, List.cons.injEq] at e
    rw [fv_inj ((h p List.mem_cons_self).trans (g q List.mem_cons_self).symm) e.1, map_fv_inj (fun r hr => h r (List.mem_cons_of_mem _ hr)) (fun r hr => g r (List.mem_cons_of_mem _ hr)) e.2]
  | [], _ :: _, _, _, _, e => by simp at e
  | _ :: _, [], _, _, _, e => by simp at e
theorem low_eq (a c : Int) : a - a.fdiv c * c = a.fmod c := by
  have := Int.mul_fdiv_add_fmod a c
  rw [Int.mul_comm] at this
  omega
theorem fmod_small {a c : Int} (h : c ≠ 0) : (a.fmod c).natAbs < c.natAbs := by
  rcases Int.lt_or_gt_of_ne h with h | h
  · have h1 := Int.fmod_nonneg_of_pos (-a) (show 0 < -c by omega)
    have h2 := Int.fmod_lt_of_pos (-a) (show 0 < -c by omega)
    rw [Int.neg_fmod_neg] at h1 h2
    omega
  · have h1 := Int.fmod_nonneg_of_pos a h
    have h2 := Int.fmod_lt_of_pos a h
    omega
theorem fmod_sign {a c : Int} (h : c ≠ 0) (h0 : a.fmod c ≠ 0) : 0 < a.fmod c * c := by
  rcases Int.lt_or_gt_of_ne h with h | h
  · have h1 := Int.fmod_nonneg_of_pos (-a) (show 0 < -c by omega)
    rw [Int.neg_fmod_neg] at h1
    exact Int.mul_pos_of_neg_of_neg (by omega) h
  · have h1 := Int.fmod_nonneg_of_pos a h
    exact Int.mul_pos (by omega) h
theorem fdiv_abs {a c : Int} {m : Nat} (h : c ≠ 0) (hm : a.natAbs ≤ m) : (a.fdiv c).natAbs ≤ m / c.natAbs + 1 := by
  have e := Int.mul_fdiv_add_fmod a c
  have s := fmod_small (a := a) h
  have hc : 0 < c.natAbs := by omega
  have e2 : (c * a.fdiv c).natAbs = c.natAbs * (a.fdiv c).natAbs := Int.natAbs_mul ..
  have e3 : (c * a.fdiv c).natAbs ≤ m + (c.natAbs - 1) := by omega
  rw [e2] at e3
  generalize (a.fdiv c).natAbs = q at *
  generalize c.natAbs = d at *
  rcases Nat.lt_or_ge (m / d + 1) q with z | z
  · exfalso
    have h1 : d * (m / d + 1 + 1) ≤ d * q := Nat.mul_le_mul_left d z
    have h2 := Nat.lt_mul_div_succ m hc
    have h3 : d * (m / d + 1 + 1) = d * (m / d + 1) + d := by rw [Nat.mul_add d (m / d + 1) 1, Nat.mul_one]
    omega
  · exact z
theorem same_sign {a c : Int} (h : c ≠ 0) (hs : 0 < a * c) (hle : c.natAbs ≤ a.natAbs) : ((a.fdiv c).natAbs * c.natAbs + (a.fmod c).natAbs = a.natAbs) ∧ 1 ≤ (a.fdiv c).natAbs := by
  have e := Int.mul_fdiv_add_fmod a c
  have key : ∀ {a c : Int}, 0 < a → 0 < c → c ≤ a → ((a.fdiv c).natAbs * c.natAbs + (a.fmod c).natAbs = a.natAbs) ∧ 1 ≤ (a.fdiv c).natAbs := fun {a c} ha hc hle => by
    have e := Int.mul_fdiv_add_fmod a c
    have h1 := Int.fmod_nonneg_of_pos a hc
    have h2 := Int.fmod_lt_of_pos a hc
    have q1 : 1 ≤ a.fdiv c := by
      rcases Int.lt_or_le 0 (a.fdiv c) with z | z
      · omega
      · have := Int.mul_nonpos_of_nonneg_of_nonpos (show 0 ≤ c by omega) z
        omega
    refine ⟨?_, by omega⟩
    have h3 : (((a.fdiv c).natAbs * c.natAbs : Nat) : Int) = c * a.fdiv c := by
      rw [Int.natCast_mul, Int.natAbs_of_nonneg (by omega), Int.natAbs_of_nonneg (by omega), Int.mul_comm]
    omega
  rcases Int.lt_or_gt_of_ne h with z | z
  · have ha : a < 0 := by
      rcases Int.lt_trichotomy a 0 with y | y | y
      · exact y
      · subst y; simp at hs
      · have := Int.mul_neg_of_pos_of_neg y z; omega
    have k := key (a := -a) (c := -c) (by omega) (by omega) (by omega)
    rw [Int.neg_fdiv_neg, Int.neg_fmod_neg] at k
    simpa using k
  · have ha : 0 < a := by
      rcases Int.lt_trichotomy a 0 with y | y | y
      · have := Int.mul_neg_of_neg_of_pos y z; omega
      · subst y; simp at hs
      · exact y
    exact key ha z (by omega)
structure GI (w pl N e f m R B : Nat) (rows0 busy clear : List (List Int)) : Prop where
  len : ∀ r ∈ busy ++ clear, r.length = w
  eqv : Eqv ((busy ++ clear).map fv) (rows0.map fv)
  bz : ∀ r ∈ busy, at' r pl ≠ 0
  cz : ∀ r ∈ clear, at' r pl = 0
  cnt : busy.length + clear.length = N
  mb : ∀ r ∈ busy, (at' r pl).natAbs ≤ m
  rb : ∀ r ∈ busy, ∀ j, (at' r j).natAbs ≤ R
  cb : ∀ r ∈ clear, ∀ j, (at' r j).natAbs ≤ B
  pot : (f = 1 ∧ 6 * (R * m * m) ≤ B) ∨ (1 ≤ e ∧ (busy.Pairwise fun r s => (at' r pl).natAbs + (at' s pl).natAbs ≤ e) ∧ (∀ r ∈ busy, ∀ s ∈ busy, 0 < at' r pl * at' s pl) ∧ R * m * e ≤ B)
theorem GI.bound {w pl N e f m R B : Nat} {rows0 busy clear : List (List Int)} (h : GI w pl N e f m R B rows0 busy clear) (hb : busy ≠ []) : R ≤ B ∧ 1 ≤ m := by
  cases busy with
  | nil => exact absurd rfl hb
  | cons r t =>
    have h1 := h.bz r List.mem_cons_self
    have h2 := h.mb r List.mem_cons_self
    have hm : 1 ≤ m := by omega
    refine ⟨?_, hm⟩
    have h3 : R * 1 ≤ R * m := Nat.mul_le_mul_left R hm
    rcases h.pot with ⟨_, h5⟩ | ⟨he, _, _, h5⟩
    · have h4 : R * m * 1 ≤ R * m * m := Nat.mul_le_mul_left _ hm
      omega
    · have h4 : R * m * 1 ≤ R * m * e := Nat.mul_le_mul_left _ he
      omega
theorem GI.all {w pl N e f m R B : Nat} {rows0 busy clear : List (List Int)} (h : GI w pl N e f m R B rows0 busy clear) : ∀ r ∈ busy ++ clear, ∀ j, (at' r j).natAbs ≤ B := fun r hr j => by
  rcases List.mem_append.mp hr with hr | hr
  · exact Nat.le_trans (h.rb r hr j) (h.bound (List.ne_nil_of_mem hr)).1
  · exact h.cb r hr j
theorem pairwise_all {α : Type} {R : α → α → Prop} : ∀ {l : List α}, (∀ x ∈ l, ∀ y ∈ l, R x y) → l.Pairwise R
  | [], _ => .nil
  | a :: l, h => .cons (fun y hy => h a List.mem_cons_self y (List.mem_cons_of_mem _ hy)) (pairwise_all fun x hx y hy => h x (List.mem_cons_of_mem _ hx) y (List.mem_cons_of_mem _ hy))
theorem GI.perm {w pl N e f m R B : Nat} {rows0 busy busy' clear : List (List Int)} (h : GI w pl N e f m R B rows0 busy clear) (p : busy'.Perm busy) : GI w pl N e f m R B rows0 busy' clear where
  len := fun r hr => h.len r (((p.append_right clear)).mem_iff.mp hr)
  eqv := (Eqv.perm ((p.append_right clear).map fv)).trans h.eqv
  bz := fun r hr => h.bz r (p.mem_iff.mp hr)
  cz := h.cz
  cnt := by rw [p.length_eq]; exact h.cnt
  mb := fun r hr => h.mb r (p.mem_iff.mp hr)
  rb := fun r hr => h.rb r (p.mem_iff.mp hr)
  cb := h.cb
  pot := h.pot.imp id fun ⟨a, b, c, d⟩ => ⟨a, (p.pairwise_iff fun {x y} q => by rw [Nat.add_comm]; exact q).mpr b, fun r hr s hs => c r (p.mem_iff.mp hr) s (p.mem_iff.mp hs), d⟩
theorem GI.turn {w pl N e f m R B : Nat} {rows0 clear rest : List (List Int)} {p0 : List Int} (h : GI w pl N e f m R B rows0 (p0 :: rest) clear) (hw : pl < w) (ho : ∀ r ∈ rest, (at' p0 pl).natAbs ≤ (at' r pl).natAbs) (hr : rest ≠ []) :
    ∃ e' m' R', m' ≤ m ∧ GI w pl N e' 0 m' R' B rows0 (p0 :: (rest.map fun r => lowZ r p0 pl).filter fun r => at' r pl != 0) (clear ++ (rest.map fun r => lowZ r p0 pl).filter fun r => at' r pl == 0) := by
  have hc : at' p0 pl ≠ 0 := h.bz p0 List.mem_cons_self
  have l0 : p0.length = w := h.len p0 (by simp)
  have lr : ∀ r ∈ rest, r.length = w := fun r hr => h.len r (by simp [hr])
  have val : ∀ r ∈ rest, at' (lowZ r p0 pl) pl = (at' r pl).fmod (at' p0 pl) := fun r hr => by
    unfold lowZ
    rw [at_subZ ((lr r hr).trans l0.symm), low_eq]
  obtain ⟨hc1, hcm⟩ : 0 < (at' p0 pl).natAbs ∧ (at' p0 pl).natAbs ≤ m := ⟨by omega, h.mb p0 List.mem_cons_self⟩
  have ne2 : ∃ r, r ∈ rest := by
    cases rest with
    | nil => exact absurd rfl hr
    | cons r _ => exact ⟨r, List.mem_cons_self⟩
  have smallB : ∀ r ∈ rest, (at' (lowZ r p0 pl) pl).natAbs < (at' p0 pl).natAbs := fun r hr => by rw [val r hr]; exact fmod_small (a := at' r pl) hc
  obtain ⟨e', R', he', hR, hq, hpw, hB⟩ : ∃ e' R' : Nat, 1 ≤ e' ∧ R ≤ R' ∧ (∀ r ∈ rest, R + ((at' r pl).fdiv (at' p0 pl)).natAbs * R ≤ R') ∧ (∀ r ∈ rest, (at' p0 pl).natAbs + (at' (lowZ r p0 pl) pl).natAbs ≤ e') ∧ R' * (at' p0 pl).natAbs * e' ≤ B := by
    rcases h.pot with ⟨_, hp⟩ | ⟨he, hp, hs, hb⟩
    · refine ⟨2 * (at' p0 pl).natAbs, R + (m / (at' p0 pl).natAbs + 1) * R, by omega, Nat.le_add_right _ _, fun r hr => ?_, fun r hr => ?_, ?_⟩
      · exact Nat.add_le_add_left (Nat.mul_le_mul_right R (fdiv_abs hc (h.mb r (List.mem_cons_of_mem _ hr)))) R
      · have := smallB r hr; omega
      · generalize (at' p0 pl).natAbs = c at hc1 hcm
        have h1 : m / c * c ≤ m := Nat.div_mul_le_self m c
        have h2 : (R + (m / c + 1) * R) * c = R * (m / c * c) + R * c + R * c := by grind
        have h3 : R * (m / c * c) ≤ R * m := Nat.mul_le_mul_left R h1
        have h4 : R * c ≤ R * m := Nat.mul_le_mul_left R hcm
        have h5 : (R + (m / c + 1) * R) * c ≤ 3 * (R * m) := by omega
        have h6 : (R + (m / c + 1) * R) * c * (2 * c) ≤ 3 * (R * m) * (2 * m) := Nat.mul_le_mul h5 (by omega)
        have h7 : 3 * (R * m) * (2 * m) = 6 * (R * m * m) := by grind
        omega
    · have pp := (List.pairwise_cons.mp hp).1
      have m1 : 1 ≤ m := by omega
      have fit : ∀ r ∈ rest, (((at' r pl).fdiv (at' p0 pl)).natAbs * (at' p0 pl).natAbs + ((at' r pl).fmod (at' p0 pl)).natAbs = (at' r pl).natAbs) ∧ 1 ≤ ((at' r pl).fdiv (at' p0 pl)).natAbs := fun r hr => by
        have h1 := hs r (List.mem_cons_of_mem _ hr) p0 List.mem_cons_self
        have h2 := ho r hr
        exact same_sign hc h1 h2
      refine ⟨m, R * e / (at' p0 pl).natAbs, m1, ?_, fun r hr => ?_, fun r hr => ?_, ?_⟩
      · obtain ⟨r, hr⟩ := ne2
        have h1 := pp r hr
        refine (Nat.le_div_iff_mul_le hc1).mpr (Nat.mul_le_mul_left R (by omega))
      · have h1 := pp r hr
        obtain ⟨h2, h3⟩ := fit r hr
        refine (Nat.le_div_iff_mul_le hc1).mpr ?_
        have h4 : (R + ((at' r pl).fdiv (at' p0 pl)).natAbs * R) * (at' p0 pl).natAbs = R * ((at' p0 pl).natAbs + ((at' r pl).fdiv (at' p0 pl)).natAbs * (at' p0 pl).natAbs) := by grind
        rw [h4]
        exact Nat.mul_le_mul_left R (by omega)
      · obtain ⟨h2, h3⟩ := fit r hr
        rw [val r hr]
        have h4 := h.mb r (List.mem_cons_of_mem _ hr)
        have h5 : 1 * (at' p0 pl).natAbs ≤ ((at' r pl).fdiv (at' p0 pl)).natAbs * (at' p0 pl).natAbs := Nat.mul_le_mul_right _ h3
        omega
      · have h1 : R * e / (at' p0 pl).natAbs * (at' p0 pl).natAbs ≤ R * e := Nat.div_mul_le_self _ _
        have h2 := Nat.mul_le_mul_right m h1
        have h3 : R * e * m = R * m * e := by grind
        omega
  have ent : ∀ r ∈ rest, ∀ j, (at' (lowZ r p0 pl) j).natAbs ≤ R' := fun r hr j => by
    refine Nat.le_trans ?_ (hq r hr)
    unfold lowZ
    rw [at_subZ ((lr r hr).trans l0.symm)]
    have h1 := h.rb r (List.mem_cons_of_mem _ hr) j
    have h2 := h.rb p0 List.mem_cons_self j
    have h3 : ((at' r pl).fdiv (at' p0 pl) * at' p0 j).natAbs ≤ ((at' r pl).fdiv (at' p0 pl)).natAbs * R := by
      rw [Int.natAbs_mul]; exact Nat.mul_le_mul_left _ h2
    omega
  have memB : ∀ r', r' ∈ ((rest.map fun r => lowZ r p0 pl).filter fun r => at' r pl != 0) → ∃ r ∈ rest, r' = lowZ r p0 pl ∧ at' r' pl ≠ 0 := fun r' hr' => by
    obtain ⟨h1, h2⟩ := List.mem_filter.mp hr'
    obtain ⟨r, hr, rfl⟩ := List.mem_map.mp h1
    exact ⟨r, hr, rfl, by simpa using h2⟩
  have memC : ∀ r', r' ∈ ((rest.map fun r => lowZ r p0 pl).filter fun r => at' r pl == 0) → ∃ r ∈ rest, r' = lowZ r p0 pl ∧ at' r' pl = 0 := fun r' hr' => by
    obtain ⟨h1, h2⟩ := List.mem_filter.mp hr'
    obtain ⟨r, hr, rfl⟩ := List.mem_map.mp h1
    exact ⟨r, hr, rfl, by simpa using h2⟩
  have lowLen : ∀ r ∈ rest, (lowZ r p0 pl).length = w := fun r hr => by unfold lowZ; rw [subZ_len ((lr r hr).trans l0.symm)]; exact lr r hr
  have RB : R' ≤ B := by
    have h1 : R' * 1 ≤ R' * (at' p0 pl).natAbs := Nat.mul_le_mul_left _ hc1
    have h2 : R' * (at' p0 pl).natAbs * 1 ≤ R' * (at' p0 pl).natAbs * e' := Nat.mul_le_mul_left _ he'
    omega
  refine ⟨e', (at' p0 pl).natAbs, R', hcm, ?len, ?eqv, ?bz, ?cz, ?cnt, ?mb, ?rb, ?cb, .inr ⟨he', ?pw, ?sg, hB⟩⟩
  case len =>
    intro r hr
    rcases List.mem_append.mp hr with hr | hr
    · rcases List.mem_cons.mp hr with rfl | hr
      · exact l0
      · obtain ⟨q, hq, rfl, _⟩ := memB r hr; exact lowLen q hq
    · rcases List.mem_append.mp hr with hr | hr
      · exact h.len r (List.mem_append_right _ hr)
      · obtain ⟨q, hq, rfl, _⟩ := memC r hr; exact lowLen q hq
  case eqv =>
    refine Eqv.trans ?_ h.eqv
    have fl : ∀ r ∈ rest, fv (lowZ r p0 pl) = ax (fv r) (-((at' r pl).fdiv (at' p0 pl))) (fv p0) := fun r hr => fv_subZ ((lr r hr).trans l0.symm)
    refine .of (fun v hv => ?_) fun v hv => ?_
    · obtain ⟨r', hr', rfl⟩ := List.mem_map.mp hv
      have s0 : Sp ((p0 :: rest ++ clear).map fv) (fv p0) := .of (List.mem_map_of_mem (by simp))
      have sl : ∀ r ∈ rest, Sp ((p0 :: rest ++ clear).map fv) (fv (lowZ r p0 pl)) := fun r hr => by
        rw [fl r hr]; exact Sp.axs (.of (List.mem_map_of_mem (by simp [hr]))) _ s0
      rcases List.mem_append.mp hr' with hr' | hr'
      · rcases List.mem_cons.mp hr' with rfl | hr'
        · exact s0
        · obtain ⟨q, hq, rfl, _⟩ := memB r' hr'; exact sl q hq
      · rcases List.mem_append.mp hr' with hr' | hr'
        · exact .of (List.mem_map_of_mem (by simp [hr']))
        · obtain ⟨q, hq, rfl, _⟩ := memC r' hr'; exact sl q hq
    · obtain ⟨r, hr, rfl⟩ := List.mem_map.mp hv
      generalize hM : (p0 :: ((rest.map fun r => lowZ r p0 pl).filter fun r => at' r pl != 0) ++ (clear ++ (rest.map fun r => lowZ r p0 pl).filter fun r => at' r pl == 0)) = M
      have s0 : Sp (M.map fv) (fv p0) := .of (List.mem_map_of_mem (by rw [← hM]; simp))
      rcases List.mem_append.mp hr with hr | hr
      · rcases List.mem_cons.mp hr with rfl | hr
        · exact s0
        · have sl : Sp (M.map fv) (fv (lowZ r p0 pl)) := by
            refine .of (List.mem_map_of_mem ?_)
            rw [← hM]
            have hm : lowZ r p0 pl ∈ rest.map fun r => lowZ r p0 pl := List.mem_map_of_mem hr
            by_cases z : at' (lowZ r p0 pl) pl = 0
            · refine List.mem_append_right _ (List.mem_append_right _ (List.mem_filter.mpr ⟨hm, by simp [z]⟩))
            · exact List.mem_append_left _ (List.mem_cons_of_mem _ (List.mem_filter.mpr ⟨hm, by simp [z]⟩))
          have e3 : fv r = ax (fv (lowZ r p0 pl)) ((at' r pl).fdiv (at' p0 pl)) (fv p0) := by
            rw [fl r hr]; funext j; simp only [ax]; grind
          rw [e3]; exact sl.axs _ s0
      · exact .of (List.mem_map_of_mem (by rw [← hM]; simp [hr]))
  case bz =>
    intro r hr
    rcases List.mem_cons.mp hr with rfl | hr
    · exact hc
    · obtain ⟨q, hq, rfl, z⟩ := memB r hr; exact z
  case cz =>
    intro r hr
    rcases List.mem_append.mp hr with hr | hr
    · exact h.cz r hr
    · obtain ⟨q, hq, rfl, z⟩ := memC r hr; exact z
  case cnt =>
    have h1 := h.cnt
    have h2 : ∀ (l : List (List Int)), (l.filter fun r => at' r pl != 0).length + (l.filter fun r => at' r pl == 0).length = l.length := fun l => by
      induction l with
      | nil => rfl
      | cons a l ih =>
        by_cases z : at' a pl = 0
        · simp [z]; omega
        · simp [z]; omega
    have h3 := h2 (rest.map fun r => lowZ r p0 pl)
    rw [List.length_map] at h3
    simp only [List.length_cons, List.length_append] at h1 ⊢
    omega
  case mb =>
    intro r hr
    rcases List.mem_cons.mp hr with rfl | hr
    · exact Nat.le_refl _
    · obtain ⟨q, hq, rfl, _⟩ := memB r hr; exact Nat.le_of_lt (smallB q hq)
  case rb =>
    intro r hr j
    rcases List.mem_cons.mp hr with rfl | hr
    · exact Nat.le_trans (h.rb r List.mem_cons_self j) hR
    · obtain ⟨q, hq, rfl, _⟩ := memB r hr; exact ent q hq j
  case cb =>
    intro r hr j
    rcases List.mem_append.mp hr with hr | hr
    · exact h.cb r hr j
    · obtain ⟨q, hq, rfl, _⟩ := memC r hr; exact Nat.le_trans (ent q hq j) RB
  case pw =>
    refine .cons (fun y hy => ?_) (pairwise_all fun x hx y hy => ?_)
    · obtain ⟨q, hq, rfl, _⟩ := memB y hy; exact hpw q hq
    · obtain ⟨q, hq, rfl, _⟩ := memB x hx
      obtain ⟨q2, hq2, rfl, _⟩ := memB y hy
      have h1 := smallB q hq
      have h2 := hpw q2 hq2
      omega
  case sg =>
    intro r hr s hs
    have key : ∀ r, r ∈ p0 :: ((rest.map fun r => lowZ r p0 pl).filter fun r => at' r pl != 0) → 0 < at' r pl * at' p0 pl := fun r hr => by
      rcases List.mem_cons.mp hr with rfl | hr
      · rcases Int.lt_or_gt_of_ne hc with z | z
        · exact Int.mul_pos_of_neg_of_neg z z
        · exact Int.mul_pos z z
      · obtain ⟨q, hq, rfl, z⟩ := memB r hr
        rw [val q hq] at z ⊢
        exact fmod_sign hc z
    have k1 := key r hr
    have k2 := key s hs
    have sq : 0 < (at' p0 pl) * (at' p0 pl) := by
      rcases Int.lt_or_gt_of_ne hc with z | z
      · exact Int.mul_pos_of_neg_of_neg z z
      · exact Int.mul_pos z z
    have h1 : 0 < (at' r pl * at' p0 pl) * (at' s pl * at' p0 pl) := Int.mul_pos k1 k2
    have h2 : (at' r pl * at' p0 pl) * (at' s pl * at' p0 pl) = (at' r pl * at' s pl) * ((at' p0 pl) * (at' p0 pl)) := by grind
    rw [h2] at h1
    rcases Int.lt_or_le 0 (at' r pl * at' s pl) with z | z
    · exact z
    · have := Int.mul_nonpos_of_nonpos_of_nonneg z (show 0 ≤ at' p0 pl * at' p0 pl by omega)
      omega
def Bd (b : Nat) (rows : List (List Int)) : Prop := ∀ r ∈ rows, ∀ j, (at' r j).natAbs ≤ 2 ^ b
structure Gath (w pl b b' : Nat) (rows0 out : List (List Int)) : Prop where
  len : ∀ r ∈ out, r.length = w
  eqv : Eqv (out.map fv) (rows0.map fv)
  cnt : out.length = rows0.length
  tail : ∀ r ∈ out.drop 1, at' r pl = 0
  head : ∀ r ∈ out.take 1, (at' r pl).natAbs ≤ 2 ^ b
  bd : Bd b' out
def nb (b : Nat) : Nat := 3 * b + 3
theorem GI.start {w pl b : Nat} {rows : List (List Int)} (hl : ∀ r ∈ rows, r.length = w) (hb : Bd b rows) :
    GI w pl rows.length 1 1 (2 ^ b) (2 ^ b) (2 ^ nb b) rows (rows.filter fun r => at' r pl != 0) (rows.filter fun r => at' r pl == 0) where
  len := fun r hr => by
    rcases List.mem_append.mp hr with hr | hr
    · exact hl r (List.mem_filter.mp hr).1
    · exact hl r (List.mem_filter.mp hr).1
  eqv := by
    refine .of (fun v hv => ?_) fun v hv => ?_
    · obtain ⟨r, hr, rfl⟩ := List.mem_map.mp hv
      refine .of (List.mem_map_of_mem ?_)
      rcases List.mem_append.mp hr with hr | hr
      · exact (List.mem_filter.mp hr).1
      · exact (List.mem_filter.mp hr).1
    · obtain ⟨r, hr, rfl⟩ := List.mem_map.mp hv
      refine .of (List.mem_map_of_mem ?_)
      by_cases z : at' r pl = 0
      · exact List.mem_append_right _ (List.mem_filter.mpr ⟨hr, by simp [z]⟩)
      · exact List.mem_append_left _ (List.mem_filter.mpr ⟨hr, by simp [z]⟩)
  bz := fun r hr => by simpa using (List.mem_filter.mp hr).2
  cz := fun r hr => by simpa using (List.mem_filter.mp hr).2
  cnt := by
    induction rows with
    | nil => rfl
    | cons a l ih =>
      have ih := ih (fun r hr => hl r (List.mem_cons_of_mem _ hr)) (fun r hr => hb r (List.mem_cons_of_mem _ hr))
      by_cases z : at' a pl = 0
      · simp [z]; omega
      · simp [z]; omega
  mb := fun r hr => hb r (List.mem_filter.mp hr).1 pl
  rb := fun r hr => hb r (List.mem_filter.mp hr).1
  cb := fun r hr j => Nat.le_trans (hb r (List.mem_filter.mp hr).1 j) (Nat.pow_le_pow_right (by decide) (by unfold nb; omega))
  pot := .inl ⟨rfl, by
    have h2 : 2 ^ (3 * b + 3) = 8 * (2 ^ b * 2 ^ b * 2 ^ b) := by
      rw [← Nat.pow_add, ← Nat.pow_add, Nat.pow_add, Nat.mul_comm, show b + b + b = 3 * b by omega]
    unfold nb
    rw [h2]
    exact Nat.mul_le_mul_right _ (by decide)⟩
theorem GI.gath {w pl N e f m R b : Nat} {rows0 busy clear : List (List Int)} (h : GI w pl N e f m R (2 ^ nb b) rows0 busy clear) (hm : m ≤ 2 ^ b) (h1 : busy.length ≤ 1) (hN : N = rows0.length) : Gath w pl b (nb b) rows0 (busy ++ clear) where
  len := h.len
  eqv := h.eqv
  cnt := by rw [List.length_append, h.cnt, hN]
  tail := fun r hr => by
    cases busy with
    | nil => exact h.cz r (List.mem_of_mem_drop hr)
    | cons x t =>
      have : t = [] := List.length_eq_zero_iff.mp (by simp at h1; simp [h1])
      subst this
      simp at hr
      exact h.cz r hr
  head := fun r hr => by
    cases busy with
    | nil =>
      have hr' : r ∈ clear := List.mem_of_mem_take hr
      rw [h.cz r hr']; simp
    | cons x t =>
      simp at hr
      subst hr
      exact Nat.le_trans (h.mb r List.mem_cons_self) hm
  bd := h.all
def busySum (pl : Nat) (rows : List (List Int)) : Nat := (rows.map fun r => (at' r pl).natAbs).sum
theorem busySum_perm {pl : Nat} {l m : List (List Int)} (p : l.Perm m) : busySum pl l = busySum pl m := by
  induction p with
  | nil => rfl
  | cons x _ ih => simp only [busySum, List.map_cons, List.sum_cons] at ih ⊢; omega
  | swap x y l => simp only [busySum, List.map_cons, List.sum_cons]; omega
  | trans _ _ a b => exact a.trans b
theorem busySum_turn {w pl N e f m R B : Nat} {rows0 clear rest : List (List Int)} {p0 : List Int} (h : GI w pl N e f m R B rows0 (p0 :: rest) clear) (ho : ∀ r ∈ rest, (at' p0 pl).natAbs ≤ (at' r pl).natAbs) (hr : rest ≠ []) :
    busySum pl (p0 :: (rest.map fun r => lowZ r p0 pl).filter fun r => at' r pl != 0) < busySum pl (p0 :: rest) := by
  have hc : at' p0 pl ≠ 0 := h.bz p0 List.mem_cons_self
  have l0 : p0.length = w := h.len p0 (by simp)
  have val : ∀ r ∈ rest, (at' (lowZ r p0 pl) pl).natAbs < (at' r pl).natAbs := fun r hr => by
    unfold lowZ
    rw [at_subZ ((h.len r (by simp [hr])).trans l0.symm), low_eq]
    exact Nat.lt_of_lt_of_le (fmod_small hc) (ho r hr)
  have le : ∀ (l : List (List Int)), (∀ r ∈ l, (at' (lowZ r p0 pl) pl).natAbs < (at' r pl).natAbs) → busySum pl ((l.map fun r => lowZ r p0 pl).filter fun r => at' r pl != 0) + l.length ≤ busySum pl l := by
    intro l
    induction l with
    | nil => intro _; exact Nat.le_refl _
    | cons a l ih =>
      intro hv
      have h1 := ih fun r hr => hv r (List.mem_cons_of_mem _ hr)
      have h2 := hv a List.mem_cons_self
      by_cases z : at' (lowZ a p0 pl) pl = 0
      · simp only [List.map_cons, busySum, List.sum_cons, List.length_cons] at h1 ⊢
        rw [List.filter_cons_of_neg (by simp [z])]
        omega
      · simp only [List.map_cons, busySum, List.sum_cons, List.length_cons] at h1 ⊢
        rw [List.filter_cons_of_pos (by simp [z])]
        simp only [List.map_cons, List.sum_cons]
        omega
  have := le rest val
  have hl : 0 < rest.length := List.length_pos_iff.mpr hr
  simp only [busySum, List.map_cons, List.sum_cons] at this ⊢
  omega
end La
set_option linter.all false
namespace La
def negZ (r : List Int) : List Int := r.map fun a => -a
theorem negZ_len (r : List Int) : (negZ r).length = r.length := by simp [negZ]
theorem at_negZ (r : List Int) (j : Nat) : at' (negZ r) j = -at' r j := by
  simp only [at', negZ, List.getD, List.getElem?_map]
  cases r[j]? <;> simp
theorem fv_negZ (r : List Int) : fv (negZ r) = fun j => -fv r j := by funext j; exact at_negZ r j
def lineZ (r : List Int) (pl : Nat) : List Int := if at' r pl < 0 then negZ r else r
theorem lineZ_len (r : List Int) (pl : Nat) : (lineZ r pl).length = r.length := by unfold lineZ; split; exact negZ_len r; rfl
theorem lineZ_pos {r : List Int} {pl : Nat} (h : at' r pl ≠ 0) : 0 < at' (lineZ r pl) pl := by
  unfold lineZ; split
  · rw [at_negZ]; omega
  · omega
theorem lineZ_abs (r : List Int) (pl j : Nat) : (at' (lineZ r pl) j).natAbs = (at' r j).natAbs := by
  unfold lineZ; split
  · rw [at_negZ]; omega
  · rfl
theorem lineZ_sp {L : List Vec} {r : List Int} {pl : Nat} : Sp L (fv (lineZ r pl)) ↔ Sp L (fv r) := by
  unfold lineZ; split
  · rw [fv_negZ]
    refine ⟨fun h => ?_, fun h => h.neg⟩
    have := h.neg
    have e : (fun j => - -fv r j) = fv r := by funext j; omega
    rwa [e] at this
  · exact Iff.rfl
def stackZ (S : List (List Int)) (r : List Int) (pl : Nat) : List (List Int) := (S.map fun a => lowZ a (lineZ r pl) pl) ++ [lineZ r pl]
def lowV (q : Vec) (l : Nat) (r : Vec) : Vec := ax r (-((r l).fdiv (q l))) q
theorem red_low {q : Vec} {l : Nat} (hq : ∀ i, i < l → q i = 0) (hp : 0 < q l) (r : Vec) : ∀ (ls : List Nat) (P : List Vec), (∀ x ∈ ls, x < l) → ls.length = P.length → Red below r ls P → Red below (lowV q l r) (ls ++ [l]) (P.map (lowV q l) ++ [q])
  | [], [], _, _, _ => ⟨by simp only [lowV, ax]; exact fdiv_below hp, trivial⟩
  | x :: ls, p :: P, hx, hl, ⟨a, b⟩ => by
    have z := hq x (hx x List.mem_cons_self)
    refine ⟨?_, red_low hq hp r ls P (fun y hy => hx y (List.mem_cons_of_mem _ hy)) (by simpa using hl) b⟩
    simp only [lowV, ax, z, Int.mul_zero, Int.add_zero]
    exact a
  | [], _ :: _, _, hl, _ => by simp at hl
  | _ :: _, [], _, hl, _ => by simp at hl
theorem Pl.snoc {q : Vec} {l : Nat} (hq : ∀ i, i < l → q i = 0) (hp : 0 < q l) : ∀ {lo : Nat} {ls : List Nat} {P : List Vec}, Pl lo ls P → (∀ x ∈ ls, x < l) → lo ≤ l → Pl lo (ls ++ [l]) (P.map (lowV q l) ++ [q])
  | _, [], [], _, _, hlo => ⟨hlo, hq, hp, trivial, trivial⟩
  | lo, x :: ls, r :: P, ⟨a, b, c, d, e⟩, hx, hlo => by
    have hxl := hx x List.mem_cons_self
    have keep : ∀ i, i < l → lowV q l r i = r i := fun i hi => by simp only [lowV, ax, hq i hi]; omega
    refine ⟨a, fun i hi => ?_, ?_, ?_, Pl.snoc hq hp e (fun y hy => hx y (List.mem_cons_of_mem _ hy)) hxl⟩
    · rw [keep i (by omega)]; exact b i hi
    · rw [keep x hxl]; exact c
    · exact red_low hq hp r ls P (fun y hy => hx y (List.mem_cons_of_mem _ hy)) e.ec.len d
  | _, [], _ :: _, h, _, _ => h.elim
  | _, _ :: _, [], h, _, _ => h.elim
theorem fv_lowZ {a q : List Int} {pl : Nat} (h : a.length = q.length) : fv (lowZ a q pl) = lowV (fv q) pl (fv a) := fv_subZ h
structure IsPl (w : Nat) (rows P : List (List Int)) : Prop where
  len : ∀ r ∈ P, r.length = w
  pl : ∃ ls, Pl 0 ls (P.map fv) ∧ ∀ x ∈ ls, x < w
  eqv : Eqv (P.map fv) (rows.map fv)
theorem IsPl.uniq {w : Nat} {rows rows' P P' : List (List Int)} (h : IsPl w rows P) (h' : IsPl w rows' P') (e : Eqv (rows.map fv) (rows'.map fv)) : P = P' := by
  obtain ⟨ls, p, _⟩ := h.pl
  obtain ⟨ls', p', _⟩ := h'.pl
  exact map_fv_inj h.len h'.len (p.uniq p' ((h.eqv.trans e).trans h'.eqv.symm)).1
def bb (b : Nat) : Nat → Nat
  | 0 => b
  | k + 1 => nb (bb b k)
def ss (b : Nat) : Nat → Nat
  | 0 => 0
  | k + 1 => ss b k + bb b (k + 1) + 1
structure PI (w b k : Nat) (lot S T : List (List Int)) : Prop where
  lenS : ∀ r ∈ S, r.length = w
  lenT : ∀ r ∈ T, r.length = w
  eqv : Eqv ((S ++ T).map fv) (lot.map fv)
  zero : ∀ r ∈ T, ∀ i, i < k → at' r i = 0
  pl : ∃ ls, Pl 0 ls (S.map fv) ∧ ∀ x ∈ ls, x < k
  bS : Bd (ss b S.length) S
  bT : Bd (bb b S.length) T
  cnt : S.length + T.length ≤ lot.length
  slen : S.length ≤ k
  lead : ∀ r ∈ S, ∃ l, (∀ i, i < l → at' r i = 0) ∧ 0 < at' r l ∧ ∃ j, j < S.length ∧ (at' r l).natAbs ≤ 2 ^ bb b j
theorem PI.start {w b : Nat} {lot : List (List Int)} (hl : ∀ r ∈ lot, r.length = w) (hb : Bd b lot) : PI w b 0 lot [] lot :=
  ⟨fun r hr => (nomatch hr), hl, by simpa using Eqv.refl (lot.map fv), fun r hr i hi => absurd hi (Nat.not_lt_zero i), ⟨[], trivial, fun x hx => (nomatch hx)⟩, fun r hr => (nomatch hr), hb, by simp, Nat.le_refl _, fun r hr => (nomatch hr)⟩
theorem bb_le (b k : Nat) : bb b k ≤ bb b (k + 1) := by show _ ≤ nb (bb b k); unfold nb; omega
theorem Bd.mono {b b' : Nat} {rows : List (List Int)} (h : Bd b rows) (l : b ≤ b') : Bd b' rows := fun r hr j => Nat.le_trans (h r hr j) (Nat.pow_le_pow_right (by decide) l)
theorem PI.skip {w b k : Nat} {lot S T : List (List Int)} (h : PI w b k lot S T) (h0 : ∀ r ∈ T, at' r k = 0) : PI w b (k + 1) lot S T := by
  refine ⟨h.lenS, h.lenT, h.eqv, fun r hr i hi => ?_, let ⟨ls, p, q⟩ := h.pl; ⟨ls, p, fun x hx => Nat.lt_succ_of_lt (q x hx)⟩, h.bS, h.bT, h.cnt, Nat.le_succ_of_le h.slen, h.lead⟩
  rcases Nat.lt_or_ge i k with z | z
  · exact h.zero r hr i z
  · obtain rfl : i = k := by omega
    exact h0 r hr
theorem PI.push {w b k : Nat} {lot S T T' : List (List Int)} {r0 : List Int} (h : PI w b k lot S T) (g : Gath w k (bb b S.length) (bb b (S.length + 1)) T (r0 :: T')) (h0 : at' r0 k ≠ 0) : PI w b (k + 1) lot (stackZ S r0 k) T' := by
  have hsl : (stackZ S r0 k).length = S.length + 1 := by simp [stackZ]
  have len0 : r0.length = w := g.len r0 List.mem_cons_self
  have lenL : (lineZ r0 k).length = w := (lineZ_len r0 k).trans len0
  have zr : ∀ r ∈ r0 :: T', ∀ i, i < k → at' r i = 0 := fun r hr i hi => by
    have : Sp (T.map fv) (fv r) := (g.eqv _).mp (.of (List.mem_map_of_mem hr))
    exact this.at0 fun q hq => by
      obtain ⟨t, ht, rfl⟩ := List.mem_map.mp hq
      exact h.zero t ht i hi
  have zl : ∀ i, i < k → fv (lineZ r0 k) i = 0 := fun i hi => by
    have h1 := lineZ_abs r0 k i
    rw [zr r0 List.mem_cons_self i hi] at h1
    rw [fv_at]; omega
  have pos := lineZ_pos h0
  have lowLen : ∀ a ∈ S, (lowZ a (lineZ r0 k) k).length = w := fun a ha => by unfold lowZ; rw [subZ_len ((h.lenS a ha).trans lenL.symm)]; exact h.lenS a ha
  have mapS : (S.map fun a => lowZ a (lineZ r0 k) k).map fv = (S.map fv).map (lowV (fv (lineZ r0 k)) k) := by
    rw [List.map_map, List.map_map]
    exact List.map_congr_left fun a ha => fv_lowZ ((h.lenS a ha).trans lenL.symm)
  have mapE : (stackZ S r0 k).map fv = (S.map fv).map (lowV (fv (lineZ r0 k)) k) ++ [fv (lineZ r0 k)] := by
    unfold stackZ; rw [List.map_append, mapS]; rfl
  have atLow : ∀ a ∈ S, ∀ j, at' (lowZ a (lineZ r0 k) k) j = at' a j - (at' a k).fdiv (at' (lineZ r0 k) k) * at' (lineZ r0 k) j := fun a ha j => by
    unfold lowZ; exact at_subZ ((h.lenS a ha).trans lenL.symm) j
  refine ⟨?lenS, fun r hr => g.len r (List.mem_cons_of_mem _ hr), ?eqv, ?zero, ?pl, ?bS, by rw [hsl]; exact fun r hr => g.bd r (List.mem_cons_of_mem _ hr), ?cnt, by rw [hsl]; exact Nat.succ_le_succ h.slen, ?lead⟩
  case lenS =>
    intro r hr
    rcases List.mem_append.mp hr with hr | hr
    · obtain ⟨a, ha, rfl⟩ := List.mem_map.mp hr; exact lowLen a ha
    · rw [List.mem_singleton.mp hr]; exact lenL
  case eqv =>
    refine Eqv.trans ?_ h.eqv
    rw [List.map_append, List.map_append, mapE]
    have e1 : Eqv (S.map fv ++ (r0 :: T').map fv) (S.map fv ++ T.map fv) := Eqv.app (.refl _) g.eqv
    refine Eqv.trans ?_ e1
    refine .of (fun v hv => ?_) fun v hv => ?_
    · have s0 : Sp (S.map fv ++ (r0 :: T').map fv) (fv (lineZ r0 k)) := lineZ_sp.mpr (.of (by simp))
      rcases List.mem_append.mp hv with hv | hv
      · rcases List.mem_append.mp hv with hv | hv
        · obtain ⟨u, hu, rfl⟩ := List.mem_map.mp hv
          exact Sp.axs (.of (List.mem_append_left _ hu)) _ s0
        · rw [List.mem_singleton.mp hv]; exact s0
      · exact .of (List.mem_append_right _ (by simpa using .inr (by simpa using hv)))
    · have s0 : Sp (List.map (lowV (fv (lineZ r0 k)) k) (S.map fv) ++ [fv (lineZ r0 k)] ++ T'.map fv) (fv (lineZ r0 k)) := .of (by simp)
      rcases List.mem_append.mp hv with hv | hv
      · have s1 : Sp (List.map (lowV (fv (lineZ r0 k)) k) (S.map fv) ++ [fv (lineZ r0 k)] ++ T'.map fv) (lowV (fv (lineZ r0 k)) k v) := .of (List.mem_append_left _ (List.mem_append_left _ (List.mem_map_of_mem hv)))
        have e2 : v = ax (lowV (fv (lineZ r0 k)) k v) ((v k).fdiv (fv (lineZ r0 k) k)) (fv (lineZ r0 k)) := by funext j; simp only [lowV, ax]; grind
        rw [e2]; exact s1.axs _ s0
      · rw [List.map_cons] at hv
        rcases List.mem_cons.mp hv with rfl | hv
        · exact lineZ_sp.mp s0
        · exact .of (List.mem_append_right _ hv)
  case zero =>
    intro r hr i hi
    rcases Nat.lt_or_ge i k with z | z
    · exact zr r (List.mem_cons_of_mem _ hr) i z
    · obtain rfl : i = k := by omega
      exact g.tail r (by simpa using hr)
  case pl =>
    obtain ⟨ls, p, q⟩ := h.pl
    refine ⟨ls ++ [k], ?_, fun x hx => ?_⟩
    · rw [mapE]; exact p.snoc zl pos q (Nat.zero_le _)
    · rcases List.mem_append.mp hx with z | z
      · exact Nat.lt_succ_of_lt (q x z)
      · rw [List.mem_singleton.mp z]; exact Nat.lt_succ_self k
  case bS =>
    rw [hsl]
    intro r hr j
    have hL : (at' (lineZ r0 k) j).natAbs ≤ 2 ^ bb b (S.length + 1) := by rw [lineZ_abs]; exact g.bd r0 List.mem_cons_self j
    rcases List.mem_append.mp hr with hr | hr
    · obtain ⟨a, ha, rfl⟩ := List.mem_map.mp hr
      rw [atLow a ha]
      have h1 := h.bS a ha j
      have h2 := h.bS a ha k
      have h3 : ((at' a k).fdiv (at' (lineZ r0 k) k)).natAbs ≤ 2 ^ ss b S.length := by
        have hp := pos
        have e := Int.mul_fdiv_add_fmod (at' a k) (at' (lineZ r0 k) k)
        have f1 := Int.fmod_nonneg_of_pos (at' a k) hp
        have f2 := Int.fmod_lt_of_pos (at' a k) hp
        generalize at' a k = x at *
        generalize at' (lineZ r0 k) k = y at *
        have : (x.fdiv y).natAbs ≤ x.natAbs := by
          rcases Int.lt_or_le (x.fdiv y) 0 with z | z
          · have g1 : y * x.fdiv y ≤ 1 * x.fdiv y := Int.mul_le_mul_of_nonpos_right (by omega) (by omega)
            rcases Int.lt_or_le x 0 with xz | xz
            · have g2 : y * x.fdiv y + y ≥ x + 1 := by omega
              have g3 : y * (x.fdiv y + 1) ≤ 1 * (x.fdiv y + 1) := Int.mul_le_mul_of_nonpos_right (by omega) (by omega)
              have g4 : y * (x.fdiv y + 1) = y * x.fdiv y + y := by rw [Int.mul_add, Int.mul_one]
              omega
            · have := Int.fdiv_nonneg xz (show 0 ≤ y by omega); omega
          · have g1 : 1 * x.fdiv y ≤ y * x.fdiv y := Int.mul_le_mul_of_nonneg_right (by omega) z
            omega
        omega
      have h4 : ((at' a k).fdiv (at' (lineZ r0 k) k) * at' (lineZ r0 k) j).natAbs ≤ 2 ^ ss b S.length * 2 ^ bb b (S.length + 1) := by
        rw [Int.natAbs_mul]; exact Nat.mul_le_mul h3 hL
      rw [← Nat.pow_add] at h4
      have h5 : 2 ^ ss b S.length ≤ 2 ^ (ss b S.length + bb b (S.length + 1)) := Nat.pow_le_pow_right (by decide) (by omega)
      have h6 : 2 ^ ss b (S.length + 1) = 2 * 2 ^ (ss b S.length + bb b (S.length + 1)) := by
        show 2 ^ (ss b S.length + bb b (S.length + 1) + 1) = _
        rw [Nat.pow_succ]; omega
      omega
    · rw [List.mem_singleton.mp hr]
      exact Nat.le_trans hL (Nat.pow_le_pow_right (by decide) (by show _ ≤ ss b S.length + bb b (S.length + 1) + 1; omega))
  case cnt =>
    have h1 := h.cnt
    have h2 := g.cnt
    simp only [stackZ, List.length_append, List.length_map, List.length_cons, List.length_nil] at h2 ⊢
    omega
  case lead =>
    intro r hr
    rcases List.mem_append.mp hr with hr | hr
    · obtain ⟨a, ha, rfl⟩ := List.mem_map.mp hr
      obtain ⟨l, a1, a2, j, hj, a3⟩ := h.lead a ha
      obtain ⟨ls, p, q⟩ := h.pl
      have hl : l < k := by
        have key : ∀ {lo : Nat} {ls : List Nat} {P : List Vec}, Pl lo ls P → (∀ x ∈ ls, x < k) → ∀ v ∈ P, ∃ x, x < k ∧ v x ≠ 0 := by
          intro lo ls
          induction ls generalizing lo with
          | nil => intro P hP _ v hv; cases P with
            | nil => cases hv
            | cons => exact hP.elim
          | cons x ls ih => intro P hP hx v hv; cases P with
            | nil => cases hv
            | cons r P =>
              rcases List.mem_cons.mp hv with rfl | hv
              · exact ⟨x, hx x List.mem_cons_self, by have := hP.2.2.1; omega⟩
              · exact ih hP.2.2.2.2 (fun y hy => hx y (List.mem_cons_of_mem _ hy)) v hv
        obtain ⟨x, hx, hne⟩ := key p q (fv a) (List.mem_map_of_mem ha)
        rcases Nat.lt_or_ge l k with z | z
        · exact z
        · exact absurd (a1 x (by omega)) hne
      have keep : ∀ i, i < k → at' (lowZ a (lineZ r0 k) k) i = at' a i := fun i hi => by
        rw [atLow a ha]
        have := zl i hi
        rw [fv_at] at this
        rw [this]; omega
      refine ⟨l, fun i hi => by rw [keep i (by omega)]; exact a1 i hi, by rw [keep l hl]; exact a2, j, by rw [hsl]; exact Nat.lt_succ_of_lt hj, by rw [keep l hl]; exact a3⟩
    · rw [List.mem_singleton.mp hr]
      refine ⟨k, zl, pos, S.length, by rw [hsl]; exact Nat.lt_succ_self _, ?_⟩
      rw [lineZ_abs]
      exact g.head r0 (by simp)
theorem PI.done {w b : Nat} {lot S T : List (List Int)} (h : PI w b w lot S T) : IsPl w lot S := by
  refine ⟨h.lenS, h.pl, Eqv.trans ?_ h.eqv⟩
  rw [List.map_append]
  refine .of (fun v hv => .of (List.mem_append_left _ hv)) fun v hv => ?_
  rcases List.mem_append.mp hv with hv | hv
  · exact .of hv
  · obtain ⟨r, hr, rfl⟩ := List.mem_map.mp hv
    have e : fv r = zV := by
      funext i
      rcases Nat.lt_or_ge i w with z | z
      · exact h.zero r hr i z
      · have := h.lenT r hr
        simp [fv, zV, List.getD, List.getElem?_eq_none (show r.length ≤ i by omega)]
    rw [e]; exact .zero
end La
set_option linter.all false
namespace La
theorem min_first (key : List Int → Nat) : ∀ (l : List (List Int)), l ≠ [] → ∃ p rest, (p :: rest).Perm l ∧ ∀ r ∈ rest, key p ≤ key r
  | [], h => absurd rfl h
  | [a], _ => ⟨a, [], .refl _, fun r hr => (nomatch hr)⟩
  | a :: b :: l, _ => by
    obtain ⟨p, rest, hp, hm⟩ := min_first key (b :: l) (by simp)
    by_cases h : key a ≤ key p
    · refine ⟨a, p :: rest, hp.cons a, fun r hr => ?_⟩
      rcases List.mem_cons.mp hr with rfl | hr
      · exact h
      · exact Nat.le_trans h (hm r hr)
    · refine ⟨p, a :: rest, (List.Perm.swap a p rest).trans (hp.cons a), fun r hr => ?_⟩
      rcases List.mem_cons.mp hr with rfl | hr
      · omega
      · exact hm r hr
theorem gath_loop {w pl b : Nat} {rows : List (List Int)} (hw : pl < w) : ∀ (n : Nat) (busy clear : List (List Int)) (e f m R : Nat), busySum pl busy ≤ n → GI w pl rows.length e f m R (2 ^ nb b) rows busy clear → m ≤ 2 ^ b → ∃ out, Gath w pl b (nb b) rows out := by
  intro n
  induction n with
  | zero =>
    intro busy clear e f m R hs gi hm
    have hb0 : busy = [] := by
      cases busy with
      | nil => rfl
      | cons r t =>
        have := gi.bz r List.mem_cons_self
        simp only [busySum, List.map_cons, List.sum_cons] at hs
        omega
    subst hb0
    exact ⟨_, gi.gath hm (Nat.zero_le _) rfl⟩
  | succ n ih =>
    intro busy clear e f m R hs gi hm
    by_cases h1 : busy.length ≤ 1
    · exact ⟨_, gi.gath hm h1 rfl⟩
    · obtain ⟨p, rest, hp, ho⟩ := min_first (fun r => (at' r pl).natAbs) busy (by intro z; subst z; simp at h1)
      have gs := gi.perm hp
      have hr : rest ≠ [] := by
        intro z; subst z
        have := hp.length_eq
        simp at this; omega
      obtain ⟨e', m', R', hm', gt⟩ := gs.turn hw ho hr
      have hf := busySum_turn gs ho hr
      have hsum := busySum_perm (pl := pl) hp
      exact ih _ _ e' 0 m' R' (by omega) gt (Nat.le_trans hm' hm)
theorem gath_exists {w pl b : Nat} {rows : List (List Int)} (hw : pl < w) (hl : ∀ r ∈ rows, r.length = w) (hb : Bd b rows) : ∃ out, Gath w pl b (nb b) rows out :=
  gath_loop hw _ _ _ _ _ _ _ (Nat.le_refl _) (GI.start hl hb) (Nat.le_refl _)
theorem Gath.head_ne {w pl b b' : Nat} {rows out : List (List Int)} (g : Gath w pl b b' rows out) (h : ¬ ∀ r ∈ rows, at' r pl = 0) : ∃ r t, out = r :: t ∧ at' r pl ≠ 0 := by
  have bad : (∀ r ∈ out, at' r pl = 0) → False := fun z => h fun r hr => by
    have : Sp (out.map fv) (fv r) := (g.eqv _).mpr (.of (List.mem_map_of_mem hr))
    exact this.at0 fun q hq => by
      obtain ⟨t, ht, rfl⟩ := List.mem_map.mp hq
      exact z t ht
  cases out with
  | nil => exact (bad fun r hr => (nomatch hr)).elim
  | cons r t =>
    refine ⟨r, t, rfl, fun z => bad fun q hq => ?_⟩
    rcases List.mem_cons.mp hq with rfl | hq
    · exact z
    · exact g.tail q (by simpa using hq)
theorem PI.next {w b k : Nat} {lot S T : List (List Int)} (h : PI w b k lot S T) (hk : k < w) : ∃ S' T', PI w b (k + 1) lot S' T' := by
  by_cases z : ∀ r ∈ T, at' r k = 0
  · exact ⟨S, T, h.skip z⟩
  · obtain ⟨out, g⟩ := gath_exists hk h.lenT h.bT
    obtain ⟨r, t, rfl, hr⟩ := g.head_ne z
    exact ⟨_, t, h.push g hr⟩
theorem PI.upto {w b : Nat} {lot : List (List Int)} (hl : ∀ r ∈ lot, r.length = w) (hb : Bd b lot) : ∀ k, k ≤ w → ∃ S T, PI w b k lot S T
  | 0, _ => ⟨[], lot, PI.start hl hb⟩
  | k + 1, hk => by
    obtain ⟨S, T, h⟩ := PI.upto hl hb k (by omega)
    exact h.next (by omega)
theorem plain_exists {w b : Nat} {lot : List (List Int)} (hl : ∀ r ∈ lot, r.length = w) (hb : Bd b lot) : ∃ P, IsPl w lot P ∧ P.length ≤ lot.length ∧ P.length ≤ w ∧ Bd (ss b P.length) P ∧ ∀ r ∈ P, ∃ l, (∀ i, i < l → at' r i = 0) ∧ 0 < at' r l ∧ ∃ j, j < P.length ∧ (at' r l).natAbs ≤ 2 ^ bb b j := by
  obtain ⟨S, T, h⟩ := PI.upto hl hb w (Nat.le_refl _)
  have := h.cnt
  exact ⟨S, h.done, by omega, h.slen, h.bS, h.lead⟩
theorem Bd.of_mem {b : Nat} {rows : List (List Int)} (h : ∀ r ∈ rows, ∀ x ∈ r, x.natAbs ≤ 2 ^ b) : Bd b rows := fun r hr j => by
  by_cases hj : j < r.length
  · have e : at' r j = r[j] := by simp [at', List.getD, List.getElem?_eq_getElem hj]
    rw [e]; exact h r hr _ (List.getElem_mem hj)
  · have e : at' r j = 0 := by simp [at', List.getD, List.getElem?_eq_none (show r.length ≤ j by omega)]
    rw [e]; simp
theorem Bd.mem {b : Nat} {rows : List (List Int)} (h : Bd b rows) {r : List Int} (hr : r ∈ rows) {x : Int} (hx : x ∈ r) : x.natAbs ≤ 2 ^ b := by
  obtain ⟨j, hj, e⟩ := List.mem_iff_getElem.mp hx
  have := h r hr j
  have e2 : at' r j = x := by simp [at', List.getD, List.getElem?_eq_getElem hj, e]
  rwa [e2] at this
theorem IsPl.self {w : Nat} {rows P : List (List Int)} (h : IsPl w rows P) : IsPl w P P := ⟨h.len, h.pl, Eqv.refl _⟩
end La
namespace La
def addm (r : List Int) (t : Int) (s : List Int) : List Int := List.zipWith (fun a b => a + t * b) r s
def mulm (t : Int) (r : List Int) : List Int := r.map fun a => t * a
theorem addm_len {r s : List Int} {t : Int} (h : r.length = s.length) : (addm r t s).length = r.length := by simp [addm, h]
theorem at_addm {r s : List Int} {t : Int} (h : r.length = s.length) (j : Nat) : at' (addm r t s) j = at' r j + t * at' s j := by
  have := getD_zipWith (fun a b => a + t * b) 0 0 r s j h
  simpa [addm, at'] using this
theorem fv_addm {r s : List Int} {t : Int} (h : r.length = s.length) : fv (addm r t s) = ax (fv r) t (fv s) := by funext j; exact at_addm h j
theorem at_mulm (t : Int) (r : List Int) (j : Nat) : at' (mulm t r) j = t * at' r j := by
  simp only [at', mulm, List.getD, List.getElem?_map]
  cases r[j]? <;> simp
theorem fv_mulm (t : Int) (r : List Int) : fv (mulm t r) = fun j => t * fv r j := by funext j; exact at_mulm t r j
theorem fv_zeros (w : Nat) : fv (List.replicate w 0) = zV := by
  funext j
  simp only [fv, zV, List.getD, List.getElem?_replicate]
  split <;> rfl
theorem eqv_set {L : List (List Int)} {i : Nat} {r' : List Int} (hi : i < L.length) (h1 : Sp (L.map fv) (fv r')) (h2 : Sp ((L.set i r').map fv) (fv L[i])) : Eqv ((L.set i r').map fv) (L.map fv) := by
  refine .of (fun v hv => ?_) fun v hv => ?_
  · obtain ⟨q, hq, rfl⟩ := List.mem_map.mp hv
    rcases List.mem_or_eq_of_mem_set hq with z | z
    · exact .of (List.mem_map_of_mem z)
    · rw [z]; exact h1
  · obtain ⟨q, hq, rfl⟩ := List.mem_map.mp hv
    obtain ⟨k, hk, rfl⟩ := List.mem_iff_getElem.mp hq
    by_cases e : k = i
    · subst e; exact h2
    · refine .of (List.mem_map_of_mem ?_)
      refine List.mem_iff_getElem.mpr ⟨k, by rw [List.length_set]; exact hk, ?_⟩
      rw [List.getElem_set_ne (Ne.symm e)]
theorem eqv_swap {L : List (List Int)} {i j : Nat} (hi : i < L.length) (hj : j < L.length) : Eqv (((L.set i L[j]).set j L[i]).map fv) (L.map fv) := by
  refine .of (fun v hv => ?_) fun v hv => ?_
  · obtain ⟨q, hq, rfl⟩ := List.mem_map.mp hv
    refine .of (List.mem_map_of_mem ?_)
    rcases List.mem_or_eq_of_mem_set hq with z | z
    · rcases List.mem_or_eq_of_mem_set z with y | y
      · exact y
      · rw [y]; exact List.getElem_mem hj
    · rw [z]; exact List.getElem_mem hi
  · obtain ⟨q, hq, rfl⟩ := List.mem_map.mp hv
    refine .of (List.mem_map_of_mem ?_)
    obtain ⟨k, hk, rfl⟩ := List.mem_iff_getElem.mp hq
    by_cases e : k = i
    · subst e
      exact List.mem_iff_getElem.mpr ⟨j, by simp [hj], by rw [List.getElem_set_self]⟩
    · by_cases e2 : k = j
      · subst e2
        exact List.mem_iff_getElem.mpr ⟨i, by simp [hi], by rw [List.getElem_set_ne e, List.getElem_set_self]⟩
      · exact List.mem_iff_getElem.mpr ⟨k, by simp [hk], by rw [List.getElem_set_ne (Ne.symm e2), List.getElem_set_ne (Ne.symm e)]⟩
theorem eqv_insert {L : List (List Int)} {i : Nat} {r' : List Int} (h1 : Sp (L.map fv) (fv r')) : Eqv ((L.take i ++ r' :: L.drop i).map fv) (L.map fv) := by
  refine .of (fun v hv => ?_) fun v hv => ?_
  · obtain ⟨q, hq, rfl⟩ := List.mem_map.mp hv
    rcases List.mem_append.mp hq with z | z
    · exact .of (List.mem_map_of_mem (List.mem_of_mem_take z))
    · rcases List.mem_cons.mp z with rfl | z
      · exact h1
      · exact .of (List.mem_map_of_mem (List.mem_of_mem_drop z))
  · obtain ⟨q, hq, rfl⟩ := List.mem_map.mp hv
    refine .of (List.mem_map_of_mem ?_)
    have : q ∈ L.take i ++ L.drop i := by rw [List.take_append_drop]; exact hq
    rcases List.mem_append.mp this with z | z
    · exact List.mem_append_left _ z
    · exact List.mem_append_right _ (List.mem_cons_of_mem _ z)
theorem eqv_snoc {L : List (List Int)} {r' : List Int} (h1 : Sp (L.map fv) (fv r')) : Eqv ((L ++ [r']).map fv) (L.map fv) := by
  have := eqv_insert (L := L) (i := L.length) h1
  simpa using this
end La
set_option linter.all false
namespace La
def leadZ : List Int → Nat
  | [] => 0
  | a :: r => if a = 0 then leadZ r + 1 else 0
theorem leadZ_le : ∀ r : List Int, leadZ r ≤ r.length
  | [] => Nat.le_refl _
  | a :: r => by
    unfold leadZ
    split
    · have := leadZ_le r; simp; omega
    · exact Nat.zero_le _
theorem leadZ_zero : ∀ (r : List Int) (i : Nat), i < leadZ r → at' r i = 0
  | [], i, h => by simp [leadZ] at h
  | a :: r, i, h => by
    unfold leadZ at h
    split at h
    · cases i with
      | zero => simpa [at'] using ‹a = 0›
      | succ i => simpa [at'] using leadZ_zero r i (by omega)
    · omega
theorem leadZ_ne : ∀ (r : List Int), leadZ r < r.length → at' r (leadZ r) ≠ 0
  | [], h => by simp at h
  | a :: r, h => by
    unfold leadZ at h ⊢
    split
    · rename_i z
      rw [if_pos z] at h
      simpa [at'] using leadZ_ne r (by simpa using h)
    · simpa [at'] using ‹¬ a = 0›
theorem leadZ_uniq {r : List Int} {l : Nat} (h : l ≤ r.length) (h0 : ∀ i, i < l → at' r i = 0) (h1 : l < r.length → at' r l ≠ 0) : l = leadZ r := by
  have a := leadZ_le r
  rcases Nat.lt_trichotomy l (leadZ r) with z | z | z
  · exact absurd (leadZ_zero r l z) (h1 (by omega))
  · exact z
  · exact absurd (h0 _ z) (leadZ_ne r (by omega))
def within1 (p : Nat) (lead : Int) (q : List Int) : Bool := decide (0 ≤ at' q p) && decide (at' q p < lead)
def LP : Int → List (List Int) → List (List Int) → Bool
  | _, _, [] => true
  | a, pre, r :: R => (!(decide (leadZ r = r.length) || (decide ((leadZ r : Int) ≤ a) || decide (at' r (leadZ r) < 0)))) && (pre.all (within1 (leadZ r) (at' r (leadZ r))) && LP (leadZ r) (pre ++ [r]) R)
theorem Pl.lp {w : Nat} : ∀ {lo : Nat} {ls : List Nat} {P : List (List Int)} {a : Int} {pre : List (List Int)}, Pl lo ls (P.map fv) → (∀ r ∈ P, r.length = w) → (∀ x ∈ ls, x < w) → a < lo → (∀ q ∈ pre, Red below (fv q) ls (P.map fv)) → LP a pre P = true
  | _, [], [], _, _, _, _, _, _, _ => rfl
  | lo, l :: ls, r :: P, a, pre, ⟨h1, h2, h3, h4, h5⟩, hl, hx, ha, hp => by
    have lr := hl r List.mem_cons_self
    have lw := hx l List.mem_cons_self
    have pos : 0 < at' r l := h3
    have el : l = leadZ r := leadZ_uniq (by omega) (fun i hi => h2 i hi) (fun _ => by omega)
    unfold LP
    rw [← el]
    have c1 : decide (l = r.length) = false := decide_eq_false (by omega)
    have c2 : decide ((l : Int) ≤ a) = false := decide_eq_false (by omega)
    have c3 : decide (at' r l < 0) = false := decide_eq_false (by omega)
    have c4 : pre.all (within1 l (at' r l)) = true := List.all_eq_true.mpr fun q hq => by
      have := (hp q hq).1
      unfold within1
      rw [decide_eq_true (show 0 ≤ at' q l from this.1), decide_eq_true (show at' q l < at' r l from this.2)]; rfl
    rw [c1, c2, c3, c4]
    simp only [Bool.or_self, Bool.not_false, Bool.true_and]
    refine Pl.lp h5 (fun q hq => hl q (List.mem_cons_of_mem _ hq)) (fun x hx' => hx x (List.mem_cons_of_mem _ hx')) (by omega) fun q hq => ?_
    rcases List.mem_append.mp hq with z | z
    · exact (hp q z).2
    · rw [List.mem_singleton.mp z]; exact h4
  | _, [], _ :: _, _, _, h, _, _, _, _ => h.elim
  | _, _ :: _, [], _, _, h, _, _, _, _ => h.elim
theorem IsPl.lp {w : Nat} {rows P : List (List Int)} (h : IsPl w rows P) : LP (-1) [] P = true := by
  obtain ⟨ls, p, q⟩ := h.pl
  exact p.lp h.len q (by omega) fun q hq => (nomatch hq)
end La
set_option linter.all false
namespace La
def Ind : List Vec → Prop
  | [] => True
  | a :: A => (∀ k : Int, Sp A (fun j => k * a j) → k = 0) ∧ Ind A
theorem Ec.ind : ∀ {lo : Nat} {ls : List Nat} {P : List Vec}, Ec lo ls P → Ind P
  | _, [], [], _ => trivial
  | _, l :: ls, r :: P, ⟨a, b, c, e⟩ => ⟨fun k h => by
      have z := h.at0 (j := l) fun q hq => Ec.zero e q hq l (by omega)
      rcases Int.mul_eq_zero.mp z with z | z
      · exact z
      · omega, Ec.ind e⟩
  | _, [], _ :: _, h => h.elim
  | _, _ :: _, [], h => h.elim
theorem exch {p : Vec} {P : List Vec} : ∀ {A : List Vec}, Ind A → (∀ a ∈ A, Sp (p :: P) a) → (∀ a ∈ A, Sp P a) ∨ ∃ (b : Vec) (k : Int), k ≠ 0 ∧ Sp A b ∧ Sp P (ax b k p) ∧ ∃ A' : List Vec, Ind A' ∧ (∀ a ∈ A', Sp P a) ∧ A'.length + 1 = A.length ∧ ∀ a ∈ A', Sp A a
  | [], _, _ => .inl fun a ha => (nomatch ha)
  | a :: B, ⟨i1, i2⟩, h => by
    obtain ⟨k, hk⟩ := (h a List.mem_cons_self).cons
    rcases exch i2 fun q hq => h q (List.mem_cons_of_mem _ hq) with hB | ⟨b, t, ht, sb, sp, B', iB, hB, lB, mB⟩
    · by_cases z : k = 0
      · subst z
        refine .inl fun q hq => ?_
        rcases List.mem_cons.mp hq with rfl | hq
        · have e : ax q 0 p = q := by funext j; simp [ax]
          rwa [e] at hk
        · exact hB q hq
      · exact .inr ⟨a, k, z, .of List.mem_cons_self, hk, B, i2, hB, rfl, fun q hq => .of (List.mem_cons_of_mem _ hq)⟩
    · refine .inr ⟨b, t, ht, sb.mono fun q hq => List.mem_cons_of_mem _ hq, sp, (fun j => t * a j - k * b j) :: B', ⟨fun m hm => ?_, iB⟩, fun q hq => ?_, by simp [lB], fun q hq => ?_⟩
      · have h1 : Sp B (fun j => m * (t * a j - k * b j)) := hm.le mB
        have h2 : Sp B (fun j => (m * t) * a j) := by
          have := h1.axs (m * k) sb
          have e : ax (fun j => m * (t * a j - k * b j)) (m * k) b = fun j => (m * t) * a j := by funext j; simp only [ax]; grind
          rwa [e] at this
        rcases Int.mul_eq_zero.mp (i1 _ h2) with z | z
        · exact z
        · exact absurd z ht
      · rcases List.mem_cons.mp hq with rfl | hq
        · have := (hk.mul t).sub (sp.mul k)
          have e : (fun j => t * ax a k p j - k * ax b t p j) = fun j => t * a j - k * b j := by funext j; simp only [ax]; grind
          rwa [e] at this
        · exact hB q hq
      · rcases List.mem_cons.mp hq with rfl | hq
        · exact ((Sp.of List.mem_cons_self).mul t).sub ((sb.mono fun q hq => List.mem_cons_of_mem _ hq).mul k)
        · exact (mB q hq).mono fun q hq => List.mem_cons_of_mem _ hq
theorem Ind.le : ∀ {P A : List Vec}, Ind A → (∀ a ∈ A, Sp P a) → A.length ≤ P.length
  | [], [], _, _ => Nat.le_refl _
  | [], a :: A, ⟨h, _⟩, g => by
    have z := (g a List.mem_cons_self).nil
    have := h 1 (by
      have e : (fun j => 1 * a j) = zV := by funext j; rw [z]; simp [zV]
      rw [e]; exact .zero)
    omega
  | p :: P, A, i, g => by
    rcases exch i g with h | ⟨b, k, hk, sb, sp, A', iA, hA, lA, mA⟩
    · have := Ind.le i h
      simp; omega
    · have := Ind.le iA hA
      simp; omega
theorem Ind.of_le {a : Vec} {A P : List Vec} (i : Ind A) (h : ∀ r ∈ a :: A, Sp P r) (hl : P.length ≤ A.length) : ∃ k : Int, k ≠ 0 ∧ Sp A (fun j => k * a j) := by
  by_cases z : ∃ k : Int, k ≠ 0 ∧ Sp A (fun j => k * a j)
  · exact z
  · have : Ind (a :: A) := ⟨fun k hk => by
      by_cases y : k = 0
      · exact y
      · exact absurd ⟨k, y, hk⟩ z, i⟩
    have := Ind.le this h
    simp at this; omega
theorem Ec.split (w : Nat) : ∀ {lo : Nat} {ls : List Nat} {P : List Vec}, Ec lo ls P → ∃ l1 l2 P1 P2, ls = l1 ++ l2 ∧ P = P1 ++ P2 ∧ l1.length = P1.length ∧ (∀ x ∈ l1, x < w) ∧ (∀ x ∈ l2, w ≤ x) ∧ ∀ v, Sp P2 v ↔ Sp P v ∧ ∀ i, i < w → v i = 0
  | _, [], [], _ => ⟨[], [], [], [], rfl, rfl, rfl, fun x hx => (nomatch hx), fun x hx => (nomatch hx), fun v => ⟨fun h => ⟨h, fun i _ => by rw [h.nil]; rfl⟩, fun h => h.1⟩⟩
  | lo, l :: ls, r :: P, e => by
    by_cases z : l < w
    · obtain ⟨l1, l2, P1, P2, e1, e2, e3, e4, e5, e6⟩ := Ec.split w e.2.2.2
      refine ⟨l :: l1, l2, r :: P1, P2, by rw [e1]; rfl, by rw [e2]; rfl, by simp [e3], fun x hx => ?_, e5, fun v => ?_⟩
      · rcases List.mem_cons.mp hx with rfl | hx
        · exact z
        · exact e4 x hx
      · rw [e6 v, e.tail v]
        exact ⟨fun ⟨⟨a, b⟩, c⟩ => ⟨a, c⟩, fun ⟨a, c⟩ => ⟨⟨a, c l z⟩, c⟩⟩
    · have low : ∀ {lo : Nat} {ls : List Nat} {P : List Vec}, Ec lo ls P → ∀ x ∈ ls, lo ≤ x := by
        intro lo ls
        induction ls generalizing lo with
        | nil => intro P _ x hx; cases hx
        | cons y ls ih => intro P h x hx; cases P with
          | nil => exact h.elim
          | cons q P =>
            rcases List.mem_cons.mp hx with rfl | hx
            · exact h.1
            · have := ih h.2.2.2 x hx
              have := h.1
              omega
      have ec : Ec l (l :: ls) (r :: P) := ⟨Nat.le_refl _, e.2.1, e.2.2.1, e.2.2.2⟩
      refine ⟨[], l :: ls, [], r :: P, rfl, rfl, rfl, fun x hx => (nomatch hx), fun x hx => ?_, fun v => ⟨fun h => ⟨h, fun i hi => h.at0 fun q hq => Ec.zero ec q hq i (by omega)⟩, fun h => h.1⟩⟩
      have := low ec x hx
      omega
  | _, [], _ :: _, h => h.elim
  | _, _ :: _, [], h => h.elim
theorem Red.drop : ∀ {l1 l2 : List Nat} {P1 P2 : List Vec} {v : Vec}, l1.length = P1.length → Red below v (l1 ++ l2) (P1 ++ P2) → Red below v l2 P2
  | [], _, [], _, _, _, h => h
  | l :: l1, l2, r :: P1, P2, v, hl, ⟨_, h⟩ => Red.drop (l1 := l1) (P1 := P1) (by simpa using hl) h
  | [], _, _ :: _, _, _, hl, _ => by simp at hl
  | _ :: _, _, [], _, _, hl, _ => by simp at hl
theorem Red.take : ∀ {l1 l2 : List Nat} {P1 P2 : List Vec} {v : Vec}, l1.length = P1.length → Red below v (l1 ++ l2) (P1 ++ P2) → Red below v l1 P1
  | [], _, [], _, _, _, h => trivial
  | l :: l1, l2, r :: P1, P2, v, hl, ⟨a, h⟩ => ⟨a, Red.take (l1 := l1) (P1 := P1) (by simpa using hl) h⟩
  | [], _, _ :: _, _, _, hl, _ => by simp at hl
  | _ :: _, _, [], _, _, hl, _ => by simp at hl
theorem Pl.mono : ∀ {lo lo' : Nat} {ls : List Nat} {P : List Vec}, lo' ≤ lo → Pl lo ls P → Pl lo' ls P
  | _, _, [], [], _, _ => trivial
  | _, _, _ :: _, _ :: _, h, ⟨a, b⟩ => ⟨Nat.le_trans h a, b⟩
  | _, _, [], _ :: _, _, h => h.elim
  | _, _, _ :: _, [], _, h => h.elim
def csum : Nat → Vec → List Vec → Vec
  | _, _, [] => zV
  | k, c, r :: L => fun j => c k * r j + csum (k + 1) c L j
theorem csum_congr : ∀ {k : Nat} {c d : Vec} (L : List Vec), (∀ i, k ≤ i → i < k + L.length → c i = d i) → csum k c L = csum k d L
  | _, _, _, [], _ => rfl
  | k, c, d, r :: L, h => by
    unfold csum
    rw [h k (Nat.le_refl _) (by simp), csum_congr L fun i h1 h2 => h i (by omega) (by simp only [List.length_cons]; omega)]
theorem csum_ax : ∀ (k : Nat) (c d : Vec) (t : Int) (L : List Vec) (j : Nat), csum k (ax c t d) L j = csum k c L j + t * csum k d L j
  | _, _, _, _, [], j => by simp [csum, zV]
  | k, c, d, t, r :: L, j => by
    simp only [csum]
    rw [csum_ax (k + 1) c d t L j]
    simp only [ax]; grind
theorem csum_zero : ∀ (k : Nat) (c : Vec) (L : List Vec) (j : Nat), (∀ i, k ≤ i → i < k + L.length → c i = 0) → csum k c L j = 0
  | _, _, [], j, _ => rfl
  | k, c, r :: L, j, h => by
    simp only [csum]
    rw [h k (Nat.le_refl _) (by simp), csum_zero (k + 1) c L j fun i h1 h2 => h i (by omega) (by simp only [List.length_cons]; omega)]
    simp
theorem csum_sp : ∀ (k : Nat) (c : Vec) (L : List Vec), Sp L (csum k c L)
  | _, _, [] => .zero
  | k, c, r :: L => by
    have h := (csum_sp (k + 1) c L).mono (M := r :: L) fun q hq => List.mem_cons_of_mem _ hq
    have e : csum k c (r :: L) = ax (csum (k + 1) c L) (c k) r := by funext j; simp only [csum, ax]; omega
    rw [e]; exact .add _ _ _ List.mem_cons_self h
theorem sp_csum : ∀ (k : Nat) {L : List Vec} {v : Vec}, Sp L v → ∃ c : Vec, v = csum k c L
  | k, [], v, h => ⟨zV, h.nil⟩
  | k, r :: L, v, h => by
    obtain ⟨t, ht⟩ := h.cons
    obtain ⟨c, hc⟩ := sp_csum (k + 1) ht
    refine ⟨fun i => if i = k then -t else c i, ?_⟩
    have e : csum (k + 1) (fun i => if i = k then -t else c i) L = csum (k + 1) c L := csum_congr L fun i h1 _ => if_neg (by omega)
    funext j
    simp only [csum, e, if_true]
    have := congrFun hc j
    simp only [ax] at this
    rw [← this, Int.neg_mul]; omega
def aug1 (w k : Nat) (r : Vec) : Vec := fun j => if j < w then r j else if j = w + k then 1 else 0
def augF (w : Nat) : Nat → List Vec → List Vec
  | _, [] => []
  | k, r :: L => aug1 w k r :: augF w (k + 1) L
theorem augF_len (w : Nat) : ∀ (k : Nat) (L : List Vec), (augF w k L).length = L.length
  | _, [] => rfl
  | k, _ :: L => by simp [augF, augF_len w (k + 1) L]
theorem aug1_unit (w k : Nat) (r : Vec) : aug1 w k r (w + k) = 1 := by
  unfold aug1; rw [if_neg (by omega), if_pos rfl]
theorem augF_sp {w : Nat} : ∀ {k : Nat} {L : List Vec} {v : Vec}, Sp (augF w k L) v ↔ (∀ j, j < w → v j = csum k (fun i => v (w + i)) L j) ∧ ∀ j, w ≤ j → (j < w + k ∨ w + k + L.length ≤ j) → v j = 0
  | k, [], v => by
    constructor
    · intro h
      have h : Sp [] v := h
      rw [h.nil]; exact ⟨fun _ _ => rfl, fun _ _ _ => rfl⟩
    · rintro ⟨h1, h2⟩
      have e : v = zV := by
        funext j
        rcases Nat.lt_or_ge j w with z | z
        · exact h1 j z
        · exact h2 j z (by simp only [List.length_nil]; omega)
      rw [e]; exact .zero
  | k, r :: L, v => by
    have key : ∀ t : Int, (∀ j, j < w → ax v t (aug1 w k r) j = csum (k + 1) (fun i => ax v t (aug1 w k r) (w + i)) L j) ↔ ∀ j, j < w → v j + t * r j = csum (k + 1) (fun i => v (w + i)) L j := fun t => by
      have e : csum (k + 1) (fun i => ax v t (aug1 w k r) (w + i)) L = csum (k + 1) (fun i => v (w + i)) L := csum_congr L fun i h1 _ => by
        simp only [ax, aug1]
        rw [if_neg (by omega), if_neg (by omega)]; omega
      rw [e]
      refine forall_congr' fun j => ⟨fun h hj => ?_, fun h hj => ?_⟩
      · have := h hj
        simp only [ax, aug1, if_pos hj] at this
        exact this
      · simp only [ax, aug1, if_pos hj]
        exact h hj
    constructor
    · intro h
      obtain ⟨t, ht⟩ := Sp.cons h
      obtain ⟨h1, h2⟩ := augF_sp.mp ht
      have z : v (w + k) + t = 0 := by
        have := h2 (w + k) (by omega) (.inl (by omega))
        simp only [ax] at this
        rw [aug1_unit] at this
        omega
      refine ⟨fun j hj => ?_, fun j hj h3 => ?_⟩
      · have := (key t).mp h1 j hj
        simp only [csum]
        rw [← this, show v (w + k) = -t by omega, Int.neg_mul]; omega
      · rw [List.length_cons] at h3
        have := h2 j hj (by omega)
        simp only [ax, aug1] at this
        rw [if_neg (by omega), if_neg (by omega)] at this
        omega
    · rintro ⟨h1, h2⟩
      refine Sp.cons' (c := -v (w + k)) (augF_sp.mpr ⟨(key _).mpr fun j hj => ?_, fun j hj h3 => ?_⟩)
      · have := h1 j hj
        simp only [csum] at this
        rw [this, Int.neg_mul]; omega
      · simp only [ax, aug1]
        rw [if_neg (by omega)]
        by_cases z : j = w + k
        · rw [if_pos z, z]; omega
        · rw [if_neg z, h2 j hj (by simp only [List.length_cons]; omega)]; omega
end La
set_option linter.all false
namespace La
def sh (w : Nat) (v : Vec) : Vec := fun i => v (w + i)
def tr (w : Nat) (v : Vec) : Vec := fun j => if j < w then v j else 0
structure Lin (f : Vec → Vec) : Prop where
  zero : f zV = zV
  ax : ∀ v c r, f (ax v c r) = ax (f v) c (f r)
theorem Sp.lin {f : Vec → Vec} (hf : Lin f) {L : List Vec} {v : Vec} (h : Sp L v) : Sp (L.map f) (f v) := by
  induction h with
  | zero => rw [hf.zero]; exact .zero
  | add v r c hr _ ih => rw [hf.ax]; exact .add _ _ _ (List.mem_map_of_mem hr) ih
theorem Sp.lin_inv {f : Vec → Vec} (hf : Lin f) {L : List Vec} {u : Vec} (h : Sp (L.map f) u) : ∃ v, Sp L v ∧ u = f v := by
  induction h with
  | zero => exact ⟨zV, .zero, hf.zero.symm⟩
  | add v r c hr _ ih =>
    obtain ⟨q, hq, rfl⟩ := List.mem_map.mp hr
    obtain ⟨u, hu, rfl⟩ := ih
    exact ⟨_, .add _ _ _ hq hu, (hf.ax _ _ _).symm⟩
theorem Eqv.lin {f : Vec → Vec} (hf : Lin f) {L M : List Vec} (e : Eqv L M) : Eqv (L.map f) (M.map f) := fun v =>
  ⟨fun h => let ⟨u, hu, q⟩ := h.lin_inv hf; q ▸ ((e u).mp hu).lin hf, fun h => let ⟨u, hu, q⟩ := h.lin_inv hf; q ▸ ((e u).mpr hu).lin hf⟩
theorem red_sh {w : Nat} {v : Vec} : ∀ {ls : List Nat} {P : List Vec}, (∀ x ∈ ls, w ≤ x) → Red below v ls P → Red below (sh w v) (ls.map (· - w)) (P.map (sh w))
  | [], _, _, _ => by unfold Red; trivial
  | _ :: _, [], _, _ => by unfold Red; trivial
  | l :: ls, r :: P, h, ⟨a, b⟩ => by
    have hw := h l List.mem_cons_self
    refine ⟨?_, red_sh (fun x hx => h x (List.mem_cons_of_mem _ hx)) b⟩
    show below (v (w + (l - w))) (r (w + (l - w)))
    rw [show w + (l - w) = l by omega]; exact a
theorem Pl.sh {w : Nat} : ∀ {lo : Nat} {ls : List Nat} {P : List Vec}, (∀ x ∈ ls, w ≤ x) → Pl lo ls P → Pl (lo - w) (ls.map (· - w)) (P.map (sh w))
  | _, [], [], _, _ => trivial
  | lo, l :: ls, r :: P, h, ⟨a, b, c, d, e⟩ => by
    have hw := h l List.mem_cons_self
    have h' : ∀ x ∈ ls, w ≤ x := fun x hx => h x (List.mem_cons_of_mem _ hx)
    refine ⟨by show lo - w ≤ l - w; omega, fun i hi => b (w + i) (by have : i < l - w := hi; omega), ?_, red_sh h' d, ?_⟩
    · show 0 < r (w + (l - w))
      rw [show w + (l - w) = l by omega]; exact c
    · have := Pl.sh h' e
      rw [show l + 1 - w = l - w + 1 by omega] at this
      exact this
  | _, [], _ :: _, _, h => h.elim
  | _, _ :: _, [], _, h => h.elim
theorem red_tr {w : Nat} {v : Vec} : ∀ {ls : List Nat} {P : List Vec}, (∀ x ∈ ls, x < w) → Red below v ls P → Red below (tr w v) ls (P.map (tr w))
  | [], _, _, _ => by unfold Red; trivial
  | _ :: _, [], _, _ => by unfold Red; trivial
  | l :: ls, r :: P, h, ⟨a, b⟩ => by
    have hw := h l List.mem_cons_self
    refine ⟨?_, red_tr (fun x hx => h x (List.mem_cons_of_mem _ hx)) b⟩
    show below (tr w v l) (tr w r l)
    unfold tr
    rw [if_pos hw, if_pos hw]; exact a
theorem Pl.tr {w : Nat} : ∀ {lo : Nat} {ls : List Nat} {P : List Vec}, (∀ x ∈ ls, x < w) → Pl lo ls P → Pl lo ls (P.map (tr w))
  | _, [], [], _, _ => trivial
  | lo, l :: ls, r :: P, h, ⟨a, b, c, d, e⟩ => by
    have hw := h l List.mem_cons_self
    have h' : ∀ x ∈ ls, x < w := fun x hx => h x (List.mem_cons_of_mem _ hx)
    refine ⟨a, fun i hi => ?_, ?_, red_tr h' d, Pl.tr h' e⟩
    · show (if i < w then r i else 0) = 0
      rw [if_pos (by omega)]; exact b i hi
    · show 0 < (if l < w then r l else 0)
      rw [if_pos hw]; exact c
  | _, [], _ :: _, _, h => h.elim
  | _, _ :: _, [], _, h => h.elim
structure Ker (w : Nat) (L : List Vec) (l1 l2 : List Nat) (P1 P2 : List Vec) : Prop where
  cnt : P1.length + P2.length = L.length
  len1 : l1.length = P1.length
  lt : ∀ x ∈ l1, x < w
  ge : ∀ x ∈ l2, w ≤ x
  pl1 : Pl 0 l1 (P1.map (tr w))
  eqv : Eqv (P1.map (tr w)) L
  how : ∀ r ∈ P1, tr w r = csum 0 (sh w r) L
  pl2 : Pl 0 (l2.map (· - w)) (P2.map (sh w))
  idle : ∀ c, Sp (P2.map (sh w)) c ↔ (∀ j, csum 0 c L j = 0) ∧ ∀ i, L.length ≤ i → c i = 0
def dot : Nat → Vec → Vec → Int
  | 0, _, _ => 0
  | w + 1, u, v => dot w u v + u w * v w
theorem dot_comm : ∀ (w : Nat) (u v : Vec), dot w u v = dot w v u
  | 0, _, _ => rfl
  | w + 1, u, v => by simp only [dot, dot_comm w u v, Int.mul_comm]
theorem dot_ax : ∀ (w : Nat) (u v r : Vec) (c : Int), dot w (ax u c r) v = dot w u v + c * dot w r v
  | 0, _, _, _, _ => by simp [dot]
  | w + 1, u, v, r, c => by
    simp only [dot, dot_ax w u v r c, ax]; grind
theorem dot_zero : ∀ (w : Nat) (v : Vec), dot w zV v = 0
  | 0, _ => rfl
  | w + 1, v => by simp [dot, dot_zero w v, zV]
theorem Sp.dot0 {w : Nat} {L : List Vec} {u v : Vec} (h : Sp L u) (hv : ∀ r ∈ L, dot w r v = 0) : dot w u v = 0 := by
  induction h with
  | zero => exact dot_zero w v
  | add u r c hr _ ih => rw [dot_ax, ih, hv r hr]; omega
theorem dot_mul (w : Nat) (u v : Vec) (k : Int) : dot w u (fun j => k * v j) = k * dot w u v := by
  induction w with
  | zero => simp [dot]
  | succ w ih => simp only [dot, ih]; grind
def col (L : List Vec) (i : Nat) : Vec := fun j => match L[j]? with
  | some r => r i
  | none => 0
def cols (w : Nat) (L : List Vec) : List Vec := (List.range w).map (col L)
theorem cols_len (w : Nat) (L : List Vec) : (cols w L).length = w := by simp [cols]
theorem csum_app : ∀ (k : Nat) (c : Vec) (L M : List Vec) (j : Nat), csum k c (L ++ M) j = csum k c L j + csum (k + L.length) c M j
  | k, c, [], M, j => by simp [csum, zV]
  | k, c, r :: L, M, j => by
    simp only [List.cons_append, csum, List.length_cons]
    rw [csum_app (k + 1) c L M j, show k + 1 + L.length = k + (L.length + 1) by omega]
    omega
theorem csum_cols (L : List Vec) (v : Vec) (j : Nat) : ∀ w, csum 0 v (cols w L) j = match L[j]? with | some r => dot w r v | none => 0
  | 0 => by cases L[j]? <;> rfl
  | w + 1 => by
    have e : cols (w + 1) L = cols w L ++ [col L w] := by unfold cols; rw [List.range_succ, List.map_append]; rfl
    rw [e, csum_app, csum_cols L v j w, cols_len]
    simp only [csum, zV, Nat.zero_add, col]
    cases L[j]? with
    | none => simp
    | some r => simp only [dot, Int.mul_comm (v w)]; omega
structure Lev (w : Nat) (L : List Vec) (ls : List Nat) (Q : List Vec) : Prop where
  pl : Pl 0 ls Q
  just : ∀ v, Sp Q v ↔ (∀ r ∈ L, dot w r v = 0) ∧ ∀ i, w ≤ i → v i = 0
theorem Lev.congr {w : Nat} {L M : List Vec} {ls : List Nat} {Q : List Vec} (h : Lev w L ls Q) (e : Eqv L M) : Lev w M ls Q :=
  ⟨h.pl, fun v => by
    rw [h.just v]
    exact ⟨fun ⟨a, b⟩ => ⟨fun r hr => ((e r).mpr (.of hr)).dot0 a, b⟩, fun ⟨a, b⟩ => ⟨fun r hr => ((e r).mp (.of hr)).dot0 a, b⟩⟩⟩
theorem Sp.app_inv {Q P : List Vec} {v : Vec} (h : Sp (Q ++ P) v) : ∃ u, Sp Q u ∧ Sp P (fun j => v j - u j) := by
  induction h with
  | zero => exact ⟨zV, .zero, by have e : (fun j => zV j - zV j) = zV := by funext j; simp [zV]
                                 rw [e]; exact .zero⟩
  | add v r c hr _ ih =>
    obtain ⟨u, hu, hp⟩ := ih
    rcases List.mem_append.mp hr with hr | hr
    · refine ⟨ax u c r, .add _ _ _ hr hu, ?_⟩
      have e : (fun j => ax v c r j - ax u c r j) = fun j => v j - u j := by funext j; simp only [ax]; omega
      rw [e]; exact hp
    · refine ⟨u, hu, ?_⟩
      have e : (fun j => ax v c r j - u j) = ax (fun j => v j - u j) c r := by funext j; simp only [ax]; omega
      rw [e]; exact .add _ _ _ hr hp
theorem Ind.app : ∀ {Q P : List Vec}, Ind Q → Ind P → (∀ v, Sp Q v → Sp P v → v = zV) → Ind (Q ++ P)
  | [], _, _, iP, _ => iP
  | a :: Q, P, ⟨i1, i2⟩, iP, h => ⟨fun k hk => by
      obtain ⟨u, hu, hp⟩ := Sp.app_inv hk
      have hq : Sp (a :: Q) (fun j => k * a j - u j) := ((Sp.of List.mem_cons_self).mul k).sub (hu.mono fun q hq => List.mem_cons_of_mem _ hq)
      have z := sub_zV (h _ hq hp)
      rw [← z] at hu
      exact i1 k hu, Ind.app i2 iP fun v h1 h2 => h v (h1.mono fun q hq => List.mem_cons_of_mem _ hq) h2⟩
end La
set_option linter.all false
namespace La
def wt : List Nat → List Vec → Int
  | l :: ls, r :: P => r l * wt ls P
  | _, _ => 1
theorem Ec.wt_pos : ∀ {lo : Nat} {ls : List Nat} {P : List Vec}, Ec lo ls P → 0 < wt ls P
  | _, [], [], _ => by decide
  | _, l :: ls, r :: P, ⟨_, _, c, e⟩ => Int.mul_pos c (Ec.wt_pos e)
  | _, [], _ :: _, h => h.elim
  | _, _ :: _, [], h => h.elim
theorem Ec.leads : ∀ {lo lo' : Nat} {ls ls' : List Nat} {P P' : List Vec}, Ec lo ls P → Ec lo' ls' P' → Eqv P P' → ls = ls' ∧ wt ls P = wt ls' P'
  | _, _, [], [], [], [], _, _, _ => ⟨rfl, rfl⟩
  | _, _, [], l :: ls, [], r :: P, _, ⟨a, b, c, e⟩, h => by
    have := ((h r).mpr (.of List.mem_cons_self)).nil
    rw [this] at c; simp [zV] at c
  | _, _, l :: ls, [], r :: P, [], ⟨a, b, c, e⟩, _, h => by
    have := ((h r).mp (.of List.mem_cons_self)).nil
    rw [this] at c; simp [zV] at c
  | lo, lo', l :: ls, l' :: ls', r :: P, r' :: P', e, e', h => by
    have f := e'.first ((h r).mp (.of List.mem_cons_self))
    have f' := e.first ((h r').mpr (.of List.mem_cons_self))
    have hl : l = l' := by
      rcases Nat.lt_trichotomy l l' with q | q | q
      · have := f.1 l q; have := e.2.2.1; omega
      · exact q
      · have := f'.1 l' q; have := e'.2.2.1; omega
    subst hl
    obtain ⟨k, hk⟩ := f.2
    obtain ⟨m, hm⟩ := f'.2
    have hr : r l = r' l := mul_pos_eq e.2.2.1 e'.2.2.1 hk hm
    have ht : Eqv P P' := fun v => by rw [e.tail v, e'.tail v, h v]
    obtain ⟨rfl, g⟩ := Ec.leads e.2.2.2 e'.2.2.2 ht
    exact ⟨rfl, by simp only [wt, hr, g]⟩
  | _, _, [], _, _ :: _, _, h, _, _ => h.elim
  | _, _, _ :: _, _, [], _, h, _, _ => h.elim
  | _, _, _, [], _, _ :: _, _, h, _ => h.elim
  | _, _, _, _ :: _, _, [], _, h, _ => h.elim
def Qs : List Nat → List Vec → List Vec → List Nat → Prop
  | [], [], [], [] => True
  | l :: ls, m :: M, n :: N, q :: qs => 0 < q ∧ n l = (q : Int) * m l ∧ Qs ls M N qs
  | _, _, _, _ => False
def prodN : List Nat → Nat
  | [] => 1
  | q :: qs => q * prodN qs
theorem Qs.wt : ∀ {ls : List Nat} {M N : List Vec} {qs : List Nat}, Qs ls M N qs → wt ls N = (prodN qs : Int) * wt ls M
  | [], [], [], [], _ => by simp [La.wt, prodN]
  | l :: ls, m :: M, n :: N, q :: qs, ⟨_, h, g⟩ => by
    simp only [La.wt, prodN, h, Qs.wt g, Int.natCast_mul]; grind
  | [], _ :: _, _, _, h => h.elim
  | [], [], _ :: _, _, h => h.elim
  | [], [], [], _ :: _, h => h.elim
  | _ :: _, [], _, _, h => h.elim
  | _ :: _, _ :: _, [], _, h => h.elim
  | _ :: _, _ :: _, _ :: _, [], h => h.elim
end La
set_option linter.all false
namespace La
def remZ : List (List Int) → List Int → List Int
  | [], v => v
  | r :: P, v => remZ P (lowZ v r (leadZ r))
theorem lowZ_len {v r : List Int} {p w : Nat} (hv : v.length = w) (hr : r.length = w) : (lowZ v r p).length = w := by
  unfold lowZ; rw [subZ_len (hv.trans hr.symm)]; exact hv
theorem Pl.lead_eq {w lo l : Nat} {ls : List Nat} {r : List Int} {P : List (List Int)} (h : Pl lo (l :: ls) ((r :: P).map fv)) (hr : r.length = w) (hl : l < w) : l = leadZ r := by
  obtain ⟨_, h2, h3, _, _⟩ := h
  have pos : 0 < at' r l := h3
  exact leadZ_uniq (by omega) (fun i hi => h2 i hi) fun _ => by omega
theorem fdiv_le {x y : Int} (hp : 0 < y) : (x.fdiv y).natAbs ≤ x.natAbs := by
  have e := Int.mul_fdiv_add_fmod x y
  have f1 := Int.fmod_nonneg_of_pos x hp
  have f2 := Int.fmod_lt_of_pos x hp
  rcases Int.lt_or_le (x.fdiv y) 0 with z | z
  · rcases Int.lt_or_le x 0 with xz | xz
    · have g3 : y * (x.fdiv y + 1) ≤ 1 * (x.fdiv y + 1) := Int.mul_le_mul_of_nonpos_right (by omega) (by omega)
      have g4 : y * (x.fdiv y + 1) = y * x.fdiv y + y := by rw [Int.mul_add, Int.mul_one]
      omega
    · have := Int.fdiv_nonneg xz (show 0 ≤ y by omega); omega
  · have g1 : 1 * x.fdiv y ≤ y * x.fdiv y := Int.mul_le_mul_of_nonneg_right (by omega) z
    omega
theorem low_bd {v r : List Int} {p w b s : Nat} (hv : v.length = w) (hr : r.length = w) (hp : 0 < at' r p) (bv : ∀ j, (at' v j).natAbs ≤ 2 ^ b) (br : ∀ j, (at' r j).natAbs ≤ 2 ^ s) : ∀ j, (at' (lowZ v r p) j).natAbs ≤ 2 ^ (b + s + 1) := fun j => by
  unfold lowZ
  rw [at_subZ (hv.trans hr.symm)]
  have h1 := bv j
  have h3 : ((at' v p).fdiv (at' r p)).natAbs ≤ 2 ^ b := Nat.le_trans (fdiv_le hp) (bv p)
  have h4 : ((at' v p).fdiv (at' r p) * at' r j).natAbs ≤ 2 ^ b * 2 ^ s := by rw [Int.natAbs_mul]; exact Nat.mul_le_mul h3 (br j)
  rw [← Nat.pow_add] at h4
  have h5 : 2 ^ b ≤ 2 ^ (b + s) := Nat.pow_le_pow_right (by decide) (by omega)
  have h6 : 2 ^ (b + s + 1) = 2 * 2 ^ (b + s) := by rw [Nat.pow_succ]; omega
  omega
theorem red_at {w : Nat} {u : Vec} : ∀ {lo : Nat} {ls : List Nat} {P : List (List Int)}, Pl lo ls (P.map fv) → (∀ r ∈ P, r.length = w) → (∀ x ∈ ls, x < w) → Red below u ls (P.map fv) → ∀ r ∈ P, 0 ≤ u (leadZ r) ∧ u (leadZ r) < at' r (leadZ r) ∧ leadZ r < w
  | _, [], [], _, _, _, _, r, hr => nomatch hr
  | lo, l :: ls, q :: P, h, hl, hx, ⟨a, b⟩, r, hr => by
    rcases List.mem_cons.mp hr with rfl | hr
    · have lw := hx l List.mem_cons_self
      rw [← h.lead_eq (hl r List.mem_cons_self) lw]
      exact ⟨a.1, a.2, lw⟩
    · exact red_at h.2.2.2.2 (fun q hq => hl q (List.mem_cons_of_mem _ hq)) (fun x hx' => hx x (List.mem_cons_of_mem _ hx')) b r hr
  | _, [], _ :: _, h, _, _, _, _, _ => h.elim
  | _, _ :: _, [], h, _, _, _, _, _ => h.elim
theorem csum_mul (k : Nat) (c : Vec) (t : Int) (L : List Vec) (j : Nat) : csum k (fun i => t * c i) L j = t * csum k c L j := by
  have h := csum_ax k zV c t L j
  have e : ax zV t c = fun i => t * c i := by funext i; simp [ax, zV]
  rw [e, csum_zero k zV L j fun _ _ _ => rfl] at h
  omega
end La
set_option linter.all false
namespace La
theorem at_app (r s : List Int) (j : Nat) : at' (r ++ s) j = if j < r.length then at' r j else at' s (j - r.length) := by
  unfold at'
  simp only [List.getD]
  split
  · rw [List.getElem?_append_left ‹_›]
  · rw [List.getElem?_append_right (by omega)]
theorem at_out {r : List Int} {j : Nat} (h : r.length ≤ j) : at' r j = 0 := by
  simp [at', List.getD, List.getElem?_eq_none h]
theorem at_rep0 (n j : Nat) : at' (List.replicate n 0) j = 0 := by
  simp only [at', List.getD, List.getElem?_replicate]
  split <;> rfl
def unitZ (m k : Nat) : List Int := List.replicate k 0 ++ [1] ++ List.replicate (m - k - 1) 0
theorem unitZ_len {m k : Nat} (h : k < m) : (unitZ m k).length = m := by simp [unitZ]; omega
theorem at_unitZ (m k j : Nat) : at' (unitZ m k) j = if j = k then 1 else 0 := by
  unfold unitZ
  rw [at_app]
  simp only [List.length_append, List.length_replicate, List.length_cons, List.length_nil]
  split
  · rw [at_app]
    simp only [List.length_replicate]
    split
    · rw [at_rep0, if_neg (by omega)]
    · rw [if_pos (by omega), show j - k = 0 by omega]; rfl
  · rw [at_rep0, if_neg (by omega)]
def ahead (w : Nat) (P : List (List Int)) : List (List Int) := P.filter fun r => decide (leadZ r < w)
def after (w : Nat) (P : List (List Int)) : List (List Int) := P.filter fun r => decide (w ≤ leadZ r)
def pre (w : Nat) (c : Vec) : Vec := fun j => if j < w then 0 else c (j - w)
def colZ (L : List (List Int)) (i : Nat) : List Int := L.map fun r => at' r i
def uprZ (w : Nat) (L : List (List Int)) : List (List Int) := (List.range w).map (colZ L)
end La
set_option linter.all false
namespace La
end La
set_option linter.all false
namespace La
def lap (v : Vec) (f : List Nat → Int) : List Nat → List Nat → Int
  | _, [] => 0
  | pr, j :: js => v j * f (pr ++ js) - lap v f (pr ++ [j]) js
def mi : List Vec → List Nat → Int
  | [], _ => 1
  | v :: vs, js => lap v (mi vs) [] js
theorem lap_ax (v r : Vec) (c : Int) (f : List Nat → Int) : ∀ (js pr : List Nat), lap (ax v c r) f pr js = lap v f pr js + c * lap r f pr js
  | [], _ => by simp [lap]
  | j :: js, pr => by simp only [lap, ax, lap_ax v r c f js]; grind
theorem lap_fun (v : Vec) {f g h : List Nat → Int} {c : Int} (e : ∀ js, f js = g js + c * h js) : ∀ (js pr : List Nat), lap v f pr js = lap v g pr js + c * lap v h pr js
  | [], _ => by simp [lap]
  | j :: js, pr => by simp only [lap, e, lap_fun v e js]; grind
theorem mi_ax (v r : Vec) (c : Int) (ys : List Vec) : ∀ (xs : List Vec) (js : List Nat), mi (xs ++ ax v c r :: ys) js = mi (xs ++ v :: ys) js + c * mi (xs ++ r :: ys) js
  | [], js => lap_ax v r c _ js []
  | x :: xs, js => lap_fun x (mi_ax v r c ys xs) js []
theorem lap_z (f : List Nat → Int) : ∀ (js pr : List Nat), lap zV f pr js = 0
  | [], _ => rfl
  | j :: js, pr => by simp [lap, lap_z f js, zV]
theorem lap_f0 (v : Vec) {f : List Nat → Int} (e : ∀ js, f js = 0) : ∀ (js pr : List Nat), lap v f pr js = 0
  | [], _ => rfl
  | j :: js, pr => by simp [lap, lap_f0 v e js, e]
theorem mi_z (ys : List Vec) : ∀ (xs : List Vec) (js : List Nat), mi (xs ++ zV :: ys) js = 0
  | [], js => lap_z _ js []
  | x :: xs, js => lap_f0 x (mi_z ys xs) js []
def Dv (k : Nat) (L : List Vec) (d : Int) : Prop := ∀ vs : List Vec, vs.length = k → (∀ v ∈ vs, v ∈ L) → ∀ js : List Nat, js.length = k → d ∣ mi vs js
theorem Dv.sp {k : Nat} {L : List Vec} {d : Int} (h : Dv k L d) : ∀ (ys xs : List Vec), (xs ++ ys).length = k → (∀ v ∈ xs, v ∈ L) → (∀ v ∈ ys, Sp L v) → ∀ js : List Nat, js.length = k → d ∣ mi (xs ++ ys) js
  | [], xs, hk, hx, _, js, hj => h _ hk (fun v hv => hx v (by simpa using hv)) js hj
  | y :: ys, xs, hk, hx, hy, js, hj => by
    have hy0 := hy y List.mem_cons_self
    clear hy0
    have key : ∀ u, Sp L u → d ∣ mi (xs ++ u :: ys) js := fun u hu => by
      induction hu with
      | zero => rw [mi_z]; exact Int.dvd_zero _
      | add v r c hr _ ih =>
        rw [mi_ax]
        have h2 := Dv.sp h ys (xs ++ [r]) (by simp at hk ⊢; omega) (fun q hq => by
          rcases List.mem_append.mp hq with z | z
          · exact hx q z
          · rw [List.mem_singleton.mp z]; exact hr) (fun q hq => hy q (List.mem_cons_of_mem _ hq)) js hj
        rw [List.append_assoc, List.singleton_append] at h2
        exact Int.dvd_add ih (Int.dvd_trans h2 (Int.dvd_mul_left _ _))
    exact key y (hy y List.mem_cons_self)
theorem Dv.mono {k : Nat} {L M : List Vec} {d : Int} (h : Dv k L d) (hM : ∀ r ∈ M, Sp L r) : Dv k M d := fun vs hk hv js hj =>
  h.sp vs [] hk (fun v hv => nomatch hv) (fun v h => hM v (hv v h)) js hj
theorem Dv.congr {k : Nat} {L M : List Vec} {d : Int} (e : Eqv L M) : Dv k L d ↔ Dv k M d :=
  ⟨fun h => h.mono fun r hr => (e r).mpr (.of hr), fun h => h.mono fun r hr => (e r).mp (.of hr)⟩
theorem mi_t1 (M : Nat → Vec) (i1 j1 : Nat) : mi [fun j => M j i1] [j1] = mi [M j1] [i1] := by simp [mi, lap]
theorem mi_t2 (M : Nat → Vec) (i1 i2 j1 j2 : Nat) : mi [fun j => M j i1, fun j => M j i2] [j1, j2] = mi [M j1, M j2] [i1, i2] := by
  simp only [mi, lap, List.nil_append, List.cons_append]; grind
theorem mi_t3 (M : Nat → Vec) (i1 i2 i3 j1 j2 j3 : Nat) : mi [fun j => M j i1, fun j => M j i2, fun j => M j i3] [j1, j2, j3] = mi [M j1, M j2, M j3] [i1, i2, i3] := by
  simp only [mi, lap, List.nil_append, List.cons_append]; grind
theorem mi_t4 (M : Nat → Vec) (i1 i2 i3 i4 j1 j2 j3 j4 : Nat) : mi [fun j => M j i1, fun j => M j i2, fun j => M j i3, fun j => M j i4] [j1, j2, j3, j4] = mi [M j1, M j2, M j3, M j4] [i1, i2, i3, i4] := by
  simp only [mi, lap, List.nil_append, List.cons_append]; grind
theorem mi_t (M : Nat → Vec) : ∀ (is js : List Nat), is.length = js.length → is.length ≤ 4 → mi (is.map fun i j => M j i) js = mi (js.map M) is
  | [], [], _, _ => rfl
  | [a], [b], _, _ => mi_t1 M a b
  | [a, b], [c, d], _, _ => mi_t2 M a b c d
  | [a, b, c], [d, e, f], _, _ => mi_t3 M a b c d e f
  | [a, b, c, d], [e, f, g, h], _, _ => mi_t4 M a b c d e f g h
  | _ :: _ :: _ :: _ :: _ :: _, _, _, h => by simp at h
  | [], _ :: _, h, _ => by simp at h
  | [_], [], h, _ => by simp at h
  | [_], _ :: _ :: _, h, _ => by simp at h
  | [_, _], [], h, _ => by simp at h
  | [_, _], [_], h, _ => by simp at h
  | [_, _], _ :: _ :: _ :: _, h, _ => by simp at h
  | [_, _, _], [], h, _ => by simp at h
  | [_, _, _], [_], h, _ => by simp at h
  | [_, _, _], [_, _], h, _ => by simp at h
  | [_, _, _], _ :: _ :: _ :: _ :: _, h, _ => by simp at h
  | [_, _, _, _], [], h, _ => by simp at h
  | [_, _, _, _], [_], h, _ => by simp at h
  | [_, _, _, _], [_, _], h, _ => by simp at h
  | [_, _, _, _], [_, _, _], h, _ => by simp at h
  | [_, _, _, _], _ :: _ :: _ :: _ :: _ :: _, h, _ => by simp at h
def rw' (L : List Vec) (j : Nat) : Vec := L.getD j zV
theorem col_rw (L : List Vec) (i : Nat) : col L i = fun j => rw' L j i := by
  funext j
  unfold col rw'
  rw [List.getD]
  cases L[j]? <;> rfl
theorem mem_ix : ∀ (L vs : List Vec), (∀ v ∈ vs, v ∈ L) → ∃ js : List Nat, js.length = vs.length ∧ vs = js.map (rw' L) ∧ ∀ j ∈ js, j < L.length
  | L, [], _ => ⟨[], rfl, rfl, fun j hj => nomatch hj⟩
  | L, v :: vs, h => by
    obtain ⟨js, h1, h2, h3⟩ := mem_ix L vs fun q hq => h q (List.mem_cons_of_mem _ hq)
    obtain ⟨j, hj, e⟩ := List.mem_iff_getElem.mp (h v List.mem_cons_self)
    refine ⟨j :: js, by simp [h1], ?_, fun k hk => ?_⟩
    · rw [List.map_cons, ← h2]
      congr 1
      simp [rw', List.getD, List.getElem?_eq_getElem hj, e]
    · rcases List.mem_cons.mp hk with rfl | hk
      · exact hj
      · exact h3 k hk
theorem mem_ix_cols : ∀ (w : Nat) (L vs : List Vec), (∀ v ∈ vs, v ∈ cols w L) → ∃ is : List Nat, is.length = vs.length ∧ vs = is.map (fun i j => rw' L j i) ∧ ∀ i ∈ is, i < w
  | w, L, [], _ => ⟨[], rfl, rfl, fun j hj => nomatch hj⟩
  | w, L, v :: vs, h => by
    obtain ⟨js, h1, h2, h3⟩ := mem_ix_cols w L vs fun q hq => h q (List.mem_cons_of_mem _ hq)
    obtain ⟨i, hi, e⟩ := List.mem_map.mp (h v List.mem_cons_self)
    refine ⟨i :: js, by simp [h1], ?_, fun k hk => ?_⟩
    · rw [List.map_cons, ← h2, ← col_rw L i, e]
    · rcases List.mem_cons.mp hk with rfl | hk
      · exact List.mem_range.mp hi
      · exact h3 k hk
theorem mi_has_z : ∀ {vs : List Vec} (js : List Nat), zV ∈ vs → mi vs js = 0 := fun {vs} js h => by
  obtain ⟨xs, ys, rfl⟩ := List.append_of_mem h
  exact mi_z ys xs js
theorem Dv.turn {k w : Nat} {L : List Vec} {d : Int} (hk : k ≤ 4) (hw : ∀ r ∈ L, ∀ j, w ≤ j → r j = 0) : Dv k (cols w L) d ↔ Dv k L d := by
  constructor
  · intro h vs hl hv is hi
    obtain ⟨js, j1, j2, j3⟩ := mem_ix L vs hv
    rw [j2, ← mi_t (rw' L) is js (by omega) (by omega)]
    by_cases hz : ∀ i ∈ is, i < w
    · refine h _ (by simp [hi]) (fun v hv => ?_) js (by omega)
      obtain ⟨i, hi', rfl⟩ := List.mem_map.mp hv
      rw [← col_rw]
      exact List.mem_map_of_mem (List.mem_range.mpr (hz i hi'))
    · have ⟨i, hi1, hi2⟩ : ∃ i, i ∈ is ∧ w ≤ i := by
        refine Classical.byContradiction fun hn => hz fun i hi => ?_
        rcases Nat.lt_or_ge i w with z | z
        · exact z
        · exact absurd ⟨i, hi, z⟩ hn
      have e : (fun j => rw' L j i) = zV := by
        funext j
        unfold rw' zV
        rw [List.getD]
        cases e : L[j]? with
        | none => rfl
        | some r => exact hw r (List.mem_of_getElem? e) i hi2
      rw [mi_has_z js (by rw [← e]; exact List.mem_map_of_mem (f := fun i j => rw' L j i) hi1)]
      exact Int.dvd_zero _
  · intro h vs hl hv js hj
    obtain ⟨is, i1, i2, i3⟩ := mem_ix_cols w L vs hv
    rw [i2, mi_t (rw' L) is js (by omega) (by omega)]
    by_cases hz : ∀ j ∈ js, j < L.length
    · refine h _ (by simp [hj]) (fun v hv => ?_) is (by omega)
      obtain ⟨j, hj', rfl⟩ := List.mem_map.mp hv
      have := hz j hj'
      unfold rw'
      rw [List.getD, List.getElem?_eq_getElem this]
      exact List.getElem_mem this
    · have ⟨j, hj1, hj2⟩ : ∃ j, j ∈ js ∧ L.length ≤ j := by
        refine Classical.byContradiction fun hn => hz fun i hi => ?_
        rcases Nat.lt_or_ge i L.length with z | z
        · exact z
        · exact absurd ⟨i, hi, z⟩ hn
      have e : rw' L j = zV := by
        unfold rw'
        rw [List.getD, List.getElem?_eq_none hj2]; rfl
      rw [mi_has_z is (by rw [← e]; exact List.mem_map_of_mem hj1)]
      exact Int.dvd_zero _
end La
set_option linter.all false
namespace La
theorem mi_dup2 (v w : Vec) (a : Nat) : mi [v, w] [a, a] = 0 := by simp only [mi, lap, List.nil_append, List.cons_append]; grind
theorem mi_dup3 (u v w : Vec) (a b c : Nat) (h : a = b ∨ a = c ∨ b = c) : mi [u, v, w] [a, b, c] = 0 := by
  rcases h with rfl | rfl | rfl <;> (simp only [mi, lap, List.nil_append, List.cons_append]; grind)
theorem mi_dup4 (t u v w : Vec) (a b c d : Nat) (h : a = b ∨ a = c ∨ a = d ∨ b = c ∨ b = d ∨ c = d) : mi [t, u, v, w] [a, b, c, d] = 0 := by
  rcases h with rfl | rfl | rfl | rfl | rfl | rfl <;> (simp only [mi, lap, List.nil_append, List.cons_append]; grind)
theorem mi_dup : ∀ (vs : List Vec) (js : List Nat), vs.length = js.length → js.length ≤ 4 → ¬ js.Nodup → mi vs js = 0
  | _, [], _, _, h => by simp at h
  | _, [_], _, _, h => by simp at h
  | [v, w], [a, b], _, _, h => by
    have : a = b := by
      refine Classical.byContradiction fun hn => h ?_
      simp [hn]
    subst this
    exact mi_dup2 v w a
  | [u, v, w], [a, b, c], _, _, h => mi_dup3 u v w a b c (by
      refine Classical.byContradiction fun hn => h ?_
      simp only [not_or] at hn
      simp [hn])
  | [t, u, v, w], [a, b, c, d], _, _, h => mi_dup4 t u v w a b c d (by
      refine Classical.byContradiction fun hn => h ?_
      simp only [not_or] at hn
      simp [hn])
  | _, _ :: _ :: _ :: _ :: _ :: _, _, h, _ => by simp at h
  | [], _ :: _, h, _, _ => by simp at h
  | [_], _ :: _ :: _, h, _, _ => by simp at h
  | [_, _], _ :: _ :: _ :: _, h, _, _ => by simp at h
  | [_, _, _], [_, _], h, _, _ => by simp at h
  | [_, _, _], _ :: _ :: _ :: _ :: _, h, _, _ => by simp at h
  | _ :: _ :: _ :: _ :: _, [_, _], h, _, _ => by simp at h
  | _ :: _ :: _ :: _ :: _, [_, _, _], h, _, _ => by simp at h
  | _ :: _ :: _ :: _ :: _ :: _, [_, _, _, _], h, _, _ => by simp at h
def un (q : Nat × Int) : Vec := fun j => if j = q.1 then q.2 else 0
def prod : List Int → Int
  | [] => 1
  | a :: t => a * prod t
theorem prod_app : ∀ (s t : List Int), prod (s ++ t) = prod s * prod t
  | [], t => by simp [prod]
  | a :: s, t => by simp only [List.cons_append, prod, prod_app s t, Int.mul_assoc]
theorem lap_un0 {q : Nat × Int} {f : List Nat → Int} : ∀ {js : List Nat} (pr : List Nat), q.1 ∉ js → lap (un q) f pr js = 0
  | [], _, _ => rfl
  | j :: js, pr, h => by
    have h1 : j ≠ q.1 := fun e => h (e ▸ List.mem_cons_self)
    simp only [lap]
    rw [lap_un0 (pr ++ [j]) fun e => h (List.mem_cons_of_mem _ e)]
    simp [un, h1]
theorem lap_un {q : Nat × Int} {f : List Nat → Int} : ∀ {js : List Nat} (pr : List Nat), js.Nodup → q.1 ∈ js → ∃ s : Int, (s = 1 ∨ s = -1) ∧ lap (un q) f pr js = s * (q.2 * f (pr ++ js.erase q.1))
  | [], _, _, h => nomatch h
  | j :: js, pr, nd, h => by
    by_cases e : j = q.1
    · subst e
      refine ⟨1, .inl rfl, ?_⟩
      simp only [lap]
      rw [lap_un0 _ (List.nodup_cons.mp nd).1, List.erase_cons_head]
      simp [un]
    · obtain ⟨s, hs, e2⟩ := lap_un (f := f) (pr ++ [j]) (List.nodup_cons.mp nd).2 (by
        rcases List.mem_cons.mp h with z | z
        · exact absurd z.symm e
        · exact z)
      refine ⟨-s, by rcases hs with rfl | rfl <;> simp, ?_⟩
      simp only [lap]
      rw [e2, List.erase_cons_tail (by simpa using e), List.append_assoc, List.singleton_append]
      simp only [un, if_neg e, Int.zero_mul, Int.neg_mul]
      omega
theorem mi_un : ∀ (qs : List (Nat × Int)) (js : List Nat), js.Nodup → qs.length = js.length → mi (qs.map un) js = 0 ∨ ((qs.map Prod.fst).Nodup ∧ (∀ q ∈ qs, q.1 ∈ js) ∧ ∃ s : Int, (s = 1 ∨ s = -1) ∧ mi (qs.map un) js = s * prod (qs.map Prod.snd))
  | [], js, _, _ => .inr ⟨List.nodup_nil, fun q hq => (nomatch hq), 1, .inl rfl, by simp [mi, prod]⟩
  | q :: qs, js, nd, hl => by
    by_cases h : q.1 ∈ js
    · obtain ⟨s, hs, e⟩ := lap_un (f := mi (qs.map un)) [] nd h
      rw [List.nil_append] at e
      rcases mi_un qs (js.erase q.1) (nd.erase _) (by rw [List.length_erase_of_mem h]; simp at hl; omega) with z | ⟨h1, h2, s', hs', e'⟩
      · exact .inl (by show lap (un q) (mi (qs.map un)) [] js = 0; rw [e, z]; simp)
      · refine .inr ⟨?_, fun r hr => ?_, s * s', ?_, ?_⟩
        · rw [List.map_cons]
          refine List.nodup_cons.mpr ⟨fun hm => ?_, h1⟩
          obtain ⟨r, hr, er⟩ := List.mem_map.mp hm
          have := h2 r hr
          rw [er] at this
          exact (List.Nodup.not_mem_erase nd) this
        · rcases List.mem_cons.mp hr with rfl | hr
          · exact h
          · exact List.mem_of_mem_erase (h2 r hr)
        · rcases hs with rfl | rfl <;> rcases hs' with rfl | rfl <;> simp
        · show lap (un q) (mi (qs.map un)) [] js = _
          rw [e, e', List.map_cons]
          simp only [prod]
          grind
    · exact .inl (lap_un0 [] h)
theorem mi_diag : ∀ (qs : List (Nat × Int)), (qs.map Prod.fst).Nodup → mi (qs.map un) (qs.map Prod.fst) = prod (qs.map Prod.snd)
  | [], _ => rfl
  | q :: qs, h => by
    rw [List.map_cons] at h
    have h' := List.nodup_cons.mp h
    show lap (un q) (mi (qs.map un)) [] (q.1 :: qs.map Prod.fst) = _
    simp only [lap, List.nil_append]
    rw [lap_un0 _ h'.1, mi_diag qs h'.2]
    simp [un, prod]
def Pk : List Int → Nat → Int → Int → Prop
  | _, 0, c, d => d ∣ c
  | [], _ + 1, _, _ => True
  | a :: t, k + 1, c, d => Pk t k (c * a) d ∧ Pk t (k + 1) c d
theorem Pk.zero {t : List Int} {c d : Int} : Pk t 0 c d ↔ d ∣ c := by cases t <;> exact Iff.rfl
theorem Pk.lin : ∀ {t : List Int} {k : Nat} {c c' d : Int} (x y : Int), Pk t k c d → Pk t k c' d → Pk t k (x * c + y * c') d
  | t, 0, c, c', d, x, y, h, g => Pk.zero.mpr (Int.dvd_add (Int.dvd_trans (Pk.zero.mp h) (Int.dvd_mul_left _ _)) (Int.dvd_trans (Pk.zero.mp g) (Int.dvd_mul_left _ _)))
  | [], k + 1, _, _, _, _, _, _, _ => trivial
  | a :: t, k + 1, c, c', d, x, y, h, g => ⟨by
      have := Pk.lin x y h.1 g.1
      have e : x * (c * a) + y * (c' * a) = (x * c + y * c') * a := by grind
      rwa [e] at this, Pk.lin x y h.2 g.2⟩
theorem Pk.mulc {t : List Int} {k : Nat} {c d : Int} (x : Int) (h : Pk t k c d) : Pk t k (x * c) d := by
  have := Pk.lin x 0 h h
  rwa [Int.zero_mul, Int.add_zero] at this
theorem Pk.two {a b : Int} {t : List Int} {k : Nat} {c d : Int} : Pk (a :: b :: t) (k + 2) c d ↔ Pk t k (c * a * b) d ∧ Pk t (k + 1) (c * a) d ∧ Pk t (k + 1) (c * b) d ∧ Pk t (k + 2) c d :=
  ⟨fun ⟨⟨h1, h2⟩, h3, h4⟩ => ⟨h1, h2, h3, h4⟩, fun ⟨h1, h2, h3, h4⟩ => ⟨⟨h1, h2⟩, h3, h4⟩⟩
theorem Pk.one {a b : Int} {t : List Int} {c d : Int} : Pk (a :: b :: t) 1 c d ↔ d ∣ c * a ∧ d ∣ c * b ∧ Pk t 1 c d :=
  ⟨fun ⟨h1, h2, h3⟩ => ⟨Pk.zero.mp h1, Pk.zero.mp h2, h3⟩, fun ⟨h1, h2, h3⟩ => ⟨Pk.zero.mpr h1, Pk.zero.mpr h2, h3⟩⟩
theorem Pk.swap {a b : Int} {t : List Int} : ∀ {k : Nat} {c d : Int}, Pk (a :: b :: t) k c d → Pk (b :: a :: t) k c d
  | 0, c, d, h => h
  | 1, c, d, h => let ⟨h1, h2, h3⟩ := Pk.one.mp h; Pk.one.mpr ⟨h2, h1, h3⟩
  | k + 2, c, d, h => by
    obtain ⟨h1, h2, h3, h4⟩ := Pk.two.mp h
    refine Pk.two.mpr ⟨?_, h3, h2, h4⟩
    have e : c * b * a = c * a * b := by grind
    rw [e]; exact h1
theorem Pk.perm {s t : List Int} (p : s.Perm t) : ∀ {k : Nat} {c d : Int}, Pk s k c d → Pk t k c d := by
  induction p with
  | nil => exact fun h => h
  | cons a _ ih =>
    intro k c d h
    cases k with
    | zero => exact h
    | succ k => exact ⟨ih h.1, ih h.2⟩
  | swap a b t => exact fun h => h.swap
  | trans _ _ ih1 ih2 => exact fun h => ih2 (ih1 h)
theorem Pk.step {a b g l x y u v : Int} {t : List Int} (hg : g = x * a + y * b) (ha : a = u * g) (hb : b = v * g) (hl : l = u * b) : ∀ {k : Nat} {c d : Int}, Pk (a :: b :: t) k c d ↔ Pk (g :: l :: t) k c d
  | 0, c, d => Iff.rfl
  | 1, c, d => by
    rw [Pk.one, Pk.one]
    constructor
    · rintro ⟨h1, h2, h3⟩
      refine ⟨?_, ?_, h3⟩
      · have e : c * g = x * (c * a) + y * (c * b) := by rw [hg]; grind
        rw [e]; exact Int.dvd_add (Int.dvd_trans h1 (Int.dvd_mul_left _ _)) (Int.dvd_trans h2 (Int.dvd_mul_left _ _))
      · have e : c * l = u * (c * b) := by rw [hl]; grind
        rw [e]; exact Int.dvd_trans h2 (Int.dvd_mul_left _ _)
    · rintro ⟨h1, h2, h3⟩
      refine ⟨?_, ?_, h3⟩
      · have e : c * a = u * (c * g) := by rw [ha]; grind
        rw [e]; exact Int.dvd_trans h1 (Int.dvd_mul_left _ _)
      · have e : c * b = v * (c * g) := by rw [hb]; grind
        rw [e]; exact Int.dvd_trans h1 (Int.dvd_mul_left _ _)
  | k + 2, c, d => by
    rw [Pk.two, Pk.two]
    have e0 : c * a * b = c * g * l := by rw [hl, ha]; grind
    rw [e0]
    constructor
    · rintro ⟨h0, h1, h2, h3⟩
      refine ⟨h0, ?_, ?_, h3⟩
      · have e : c * g = x * (c * a) + y * (c * b) := by rw [hg]; grind
        rw [e]; exact h1.lin x y h2
      · have e : c * l = u * (c * b) := by rw [hl]; grind
        rw [e]; exact h2.mulc u
    · rintro ⟨h0, h1, h2, h3⟩
      refine ⟨h0, ?_, ?_, h3⟩
      · have e : c * a = u * (c * g) := by rw [ha]; grind
        rw [e]; exact h1.mulc u
      · have e : c * b = v * (c * g) := by rw [hb]; grind
        rw [e]; exact h1.mulc v
theorem Pk.cons_congr {a : Int} {s t : List Int} (h : ∀ {k : Nat} {c d : Int}, Pk s k c d ↔ Pk t k c d) : ∀ {k : Nat} {c d : Int}, Pk (a :: s) k c d ↔ Pk (a :: t) k c d
  | 0, _, _ => Iff.rfl
  | k + 1, c, d => and_congr h h
theorem Pk.swap_iff {a b : Int} {t : List Int} {k : Nat} {c d : Int} : Pk (a :: b :: t) k c d ↔ Pk (b :: a :: t) k c d := ⟨Pk.swap, Pk.swap⟩
theorem Pk.set_head {a b g l x y u v : Int} (hg : g = x * a + y * b) (ha : a = u * g) (hb : b = v * g) (hl : l = u * b) : ∀ {t : List Int} {j : Nat}, t[j]? = some b → ∀ {k : Nat} {c d : Int}, Pk (a :: t) k c d ↔ Pk (g :: t.set j l) k c d
  | [], _, h, _, _, _ => by simp at h
  | b' :: t, 0, h, k, c, d => by
    simp at h
    subst h
    exact Pk.step hg ha hb hl
  | e :: t, j + 1, h, k, c, d => by
    have ih := fun {k c d} => Pk.set_head (k := k) (c := c) (d := d) hg ha hb hl (t := t) (j := j) (by simpa using h)
    rw [List.set_cons_succ, Pk.swap_iff, Pk.swap_iff (a := g)]
    exact Pk.cons_congr ih
theorem Pk.set {a b g l x y u v : Int} (hg : g = x * a + y * b) (ha : a = u * g) (hb : b = v * g) (hl : l = u * b) : ∀ {t : List Int} {i j : Nat}, i < j → t[i]? = some a → t[j]? = some b → ∀ {k : Nat} {c d : Int}, Pk t k c d ↔ Pk ((t.set i g).set j l) k c d
  | [], _, _, _, h, _, _, _, _ => by simp at h
  | a' :: t, 0, j + 1, _, h1, h2, k, c, d => by
    simp at h1
    subst h1
    rw [List.set_cons_zero, List.set_cons_succ]
    exact Pk.set_head hg ha hb hl (by simpa using h2)
  | e :: t, i + 1, j + 1, hij, h1, h2, k, c, d => by
    rw [List.set_cons_succ, List.set_cons_succ]
    exact Pk.cons_congr (Pk.set hg ha hb hl (by omega) (by simpa using h1) (by simpa using h2))
  | _ :: _, _, 0, h, _, _, _, _, _ => by omega
def Chain : List Int → Prop
  | [] => True
  | a :: t => (∀ b ∈ t, a ∣ b) ∧ Chain t
theorem take_dvd {a : Int} : ∀ {t : List Int} {k : Nat}, (∀ b ∈ t, a ∣ b) → k < t.length → a * prod (t.take k) ∣ prod (t.take (k + 1))
  | [], _, _, h => by simp at h
  | b :: t, 0, h, _ => by
    simp only [List.take_zero, List.take_succ_cons, prod, Int.mul_one]
    exact h b List.mem_cons_self
  | b :: t, k + 1, h, hk => by
    rw [List.take_succ_cons, List.take_succ_cons]
    simp only [prod]
    have := take_dvd (t := t) (k := k) (fun c hc => h c (List.mem_cons_of_mem _ hc)) (by simpa using hk)
    have e : a * (b * prod (t.take k)) = b * (a * prod (t.take k)) := by grind
    rw [e]
    exact Int.mul_dvd_mul (Int.dvd_refl b) this
theorem Pk.chain : ∀ {t : List Int} {k : Nat} {c d : Int}, Chain t → k ≤ t.length → (Pk t k c d ↔ d ∣ c * prod (t.take k))
  | t, 0, c, d, _, _ => by rw [Pk.zero]; simp [prod]
  | [], k + 1, _, _, _, h => by simp at h
  | a :: t, k + 1, c, d, ⟨h1, h2⟩, hk => by
    have hk' : k ≤ t.length := by simpa using hk
    show Pk t k (c * a) d ∧ Pk t (k + 1) c d ↔ _
    rw [Pk.chain h2 hk', List.take_succ_cons]
    simp only [prod]
    rw [Int.mul_assoc]
    constructor
    · exact fun h => h.1
    · intro h
      refine ⟨h, ?_⟩
      rcases Nat.lt_or_ge k t.length with z | z
      · rw [Pk.chain h2 z]
        refine Int.dvd_trans h (Int.mul_dvd_mul (Int.dvd_refl c) (take_dvd h1 z))
      · have : ∀ {s : List Int} {m : Nat} {c d : Int}, s.length < m → Pk s m c d := by
          intro s
          induction s with
          | nil => intro m c d hm; cases m with
            | zero => simp at hm
            | succ m => trivial
          | cons a s ih => intro m c d hm; cases m with
            | zero => simp at hm
            | succ m => exact ⟨ih (by simpa using hm), ih (by simp at hm; omega)⟩
        exact this (by omega)
theorem Pk.pick {d : Int} : ∀ {rs qs : List (Nat × Int)} {c : Int}, rs.Nodup → (∀ r ∈ rs, r ∈ qs) → Pk (qs.map Prod.snd) rs.length c d → d ∣ c * prod (rs.map Prod.snd)
  | [], qs, c, _, _, h => by have := Pk.zero.mp h; simpa [prod] using this
  | r :: rs, qs, c, nd, hs, h => by
    have hr := hs r List.mem_cons_self
    have p : (qs.map Prod.snd).Perm (r.2 :: (qs.erase r).map Prod.snd) := by
      have := (List.perm_cons_erase hr).map Prod.snd
      rwa [List.map_cons] at this
    have h1 := (Pk.perm p h).1
    have := Pk.pick (c := c * r.2) (List.nodup_cons.mp nd).2 (fun q hq => (List.mem_erase_of_ne (fun (e : q = r) => (List.nodup_cons.mp nd).1 (by rw [← e]; exact hq))).mpr (hs q (List.mem_cons_of_mem _ hq))) h1
    rw [List.map_cons]
    simp only [prod]
    rwa [Int.mul_assoc] at this
theorem dv_pk {d : Int} {all : List (Nat × Int)} : ∀ {qs cs : List (Nat × Int)} {k : Nat}, ((cs ++ qs).map Prod.fst).Nodup → (∀ q ∈ cs ++ qs, q ∈ all) → Dv (cs.length + k) (all.map un) d → Pk (qs.map Prod.snd) k (prod (cs.map Prod.snd)) d
  | qs, cs, 0, nd, hs, h => by
    rw [Pk.zero, ← mi_diag cs (by rw [List.map_append] at nd; exact (List.nodup_append.mp nd).1)]
    exact h _ (by simp) (fun v hv => by
      obtain ⟨q, hq, rfl⟩ := List.mem_map.mp hv
      exact List.mem_map_of_mem (hs q (List.mem_append_left _ hq))) _ (by simp)
  | [], _, k + 1, _, _, _ => trivial
  | q :: qs, cs, k + 1, nd, hs, h => by
    refine ⟨?_, ?_⟩
    · have := dv_pk (qs := qs) (cs := cs ++ [q]) (k := k) (by rw [List.append_assoc]; exact nd) (by rw [List.append_assoc]; exact hs) (by rw [List.length_append, List.length_singleton, show cs.length + 1 + k = cs.length + (k + 1) by omega]; exact h)
      rw [List.map_append, prod_app] at this
      simpa [prod] using this
    · refine dv_pk (cs := cs) (k := k + 1) ?_ (fun r hr => hs r ?_) h
      · have : (cs ++ qs).Sublist (cs ++ q :: qs) := List.Sublist.append (List.Sublist.refl cs) (List.sublist_cons_self q qs)
        exact (this.map Prod.fst).nodup nd
      · rcases List.mem_append.mp hr with z | z
        · exact List.mem_append_left _ z
        · exact List.mem_append_right _ (List.mem_cons_of_mem _ z)
theorem pre_ix {α β : Type} {f : α → β} {L : List α} : ∀ {vs : List β}, (∀ v ∈ vs, v ∈ L.map f) → ∃ rs : List α, vs = rs.map f ∧ ∀ r ∈ rs, r ∈ L
  | [], _ => ⟨[], rfl, fun r hr => nomatch hr⟩
  | v :: vs, h => by
    obtain ⟨rs, e, h2⟩ := pre_ix (vs := vs) fun q hq => h q (List.mem_cons_of_mem _ hq)
    obtain ⟨r, hr, er⟩ := List.mem_map.mp (h v List.mem_cons_self)
    refine ⟨r :: rs, by rw [List.map_cons, ← e, er], fun q hq => ?_⟩
    rcases List.mem_cons.mp hq with rfl | hq
    · exact hr
    · exact h2 q hq
theorem nodup_of_map {α β : Type} {f : α → β} : ∀ {l : List α}, (l.map f).Nodup → l.Nodup
  | [], _ => List.nodup_nil
  | a :: l, h => by
    rw [List.map_cons] at h
    have h' := List.nodup_cons.mp h
    exact List.nodup_cons.mpr ⟨fun hm => h'.1 (List.mem_map_of_mem hm), nodup_of_map h'.2⟩
theorem Dv.diag {k : Nat} {d : Int} {qs : List (Nat × Int)} (hk : k ≤ 4) (nd : (qs.map Prod.fst).Nodup) : Dv k (qs.map un) d ↔ Pk (qs.map Prod.snd) k 1 d := by
  constructor
  · intro h
    exact dv_pk (qs := qs) (cs := []) (all := qs) (k := k) nd (fun q hq => by simpa using hq) (by simpa using h)
  · intro h vs hl hv js hj
    obtain ⟨rs, rfl, hr⟩ := pre_ix hv
    rw [List.length_map] at hl
    by_cases nj : js.Nodup
    · rcases mi_un rs js nj (by omega) with z | ⟨n1, _, s, hs, e⟩
      · rw [z]; exact Int.dvd_zero _
      · rw [e]
        have nr : rs.Nodup := nodup_of_map n1
        have := Pk.pick nr hr (by rw [hl]; exact h)
        rw [Int.one_mul] at this
        exact Int.dvd_trans this (Int.dvd_mul_left _ _)
    · rw [mi_dup _ js (by simp; omega) (by omega) nj]
      exact Int.dvd_zero _
end La
set_option linter.all false
namespace La
structure Sq (r : Nat) (H : List Vec) : Prop where
  len : H.length = r
  pl : Pl 0 (List.range' 0 r) H
  out : ∀ q ∈ H, ∀ j, r ≤ j → q j = 0
theorem Ec.from : ∀ {l1 l2 : List Nat} {lo : Nat} {P1 P2 : List Vec}, l1.length = P1.length → Ec lo (l1 ++ l2) (P1 ++ P2) → ∀ v, Sp P2 v ↔ Sp (P1 ++ P2) v ∧ ∀ x ∈ l1, v x = 0
  | [], l2, lo, [], P2, _, _, v => by simp
  | l :: l1, l2, lo, p :: P1, P2, h, e, v => by
    have e' : Ec lo (l :: (l1 ++ l2)) (p :: (P1 ++ P2)) := e
    rw [Ec.from (by simpa using h) e'.2.2.2 v, e'.tail v]
    simp only [List.cons_append, List.mem_cons, forall_eq_or_imp]
    constructor
    · rintro ⟨⟨h1, h2⟩, h3⟩; exact ⟨h1, h2, h3⟩
    · rintro ⟨h1, h2, h3⟩; exact ⟨⟨h1, h2⟩, h3⟩
  | [], _, _, _ :: _, _, h, _, _ => by simp at h
  | _ :: _, _, _, [], _, h, _, _ => by simp at h
theorem rw_mem {L : List Vec} {j : Nat} (h : j < L.length) : rw' L j ∈ L := by
  unfold rw'
  rw [List.getD, List.getElem?_eq_getElem h]
  exact List.getElem_mem h
def Al (i : Nat) (H : List Vec) : Prop := ∀ j, j < i → ∀ p, p ≠ j → rw' H j p = 0
inductive Ends (r : Nat) : List Vec → List Vec → Prop
  | done {H : List Vec} : Sq r H → Al r H → Ends r H H
  | turn {H H' F : List Vec} : Sq r H → Sq r H' → Eqv H' (cols r H) → Ends r H' F → Ends r H F
theorem Ends.sq {r : Nat} {H F : List Vec} (h : Ends r H F) : Sq r H := by cases h <;> assumption
theorem Ends.last {r : Nat} {H F : List Vec} (h : Ends r H F) : Sq r F ∧ Al r F := by
  induction h with
  | done a b => exact ⟨a, b⟩
  | turn _ _ _ _ ih => exact ih
theorem Ends.dv {r k : Nat} {H F : List Vec} (h : Ends r H F) (hk : k ≤ 4) {d : Int} : Dv k H d ↔ Dv k F d := by
  induction h with
  | done _ _ => exact Iff.rfl
  | turn hs _ he _ ih => rw [← ih, Dv.congr he, Dv.turn hk hs.out]
theorem csum_dot : ∀ (k w : Nat) (c : Vec) (L : List Vec) (y : Vec), dot w (csum k c L) y = csum k c (L.map fun r => fun _ => dot w r y) 0
  | k, w, c, [], y => by simp [csum, dot_zero, zV]
  | k, w, c, r :: L, y => by
    have e : csum k c (r :: L) = ax (csum (k + 1) c L) (c k) r := by funext j; simp only [csum, ax]; omega
    rw [e, dot_ax, csum_dot (k + 1) w c L y]
    simp only [List.map_cons, csum]
    omega
theorem units_of {w : Nat} {e : Int} {P : List Vec} (h : ∀ i, i < P.length → Sp (cols w P) (un (i, e))) {v : Vec} {k : Int} (hk : k ≠ 0) (hv : Sp P (fun j => k * v j)) : Sp P (fun j => e * v j) := by
  obtain ⟨c, hc⟩ := sp_csum 0 hv
  have hY : ∀ i, ∃ y : Vec, i < P.length → ∀ t, t < P.length → dot w (rw' P t) y = if t = i then e else 0 := fun i => by
    by_cases hi : i < P.length
    · obtain ⟨y, hy⟩ := sp_csum 0 (h i hi)
      refine ⟨y, fun _ t ht => ?_⟩
      have := congrFun hy t
      rw [csum_cols, List.getElem?_eq_getElem ht] at this
      have e2 : rw' P t = P[t] := by simp [rw', List.getD, List.getElem?_eq_getElem ht]
      rw [e2]
      simp only [un] at this
      exact this.symm
    · exact ⟨zV, fun h => absurd h hi⟩
  obtain ⟨Y, hYc⟩ := Classical.axiomOfChoice hY
  have one : ∀ (L : List Vec) (s i : Nat), i < P.length → (∀ t, t < L.length → dot w (rw' L t) (Y i) = if s + t = i then e else 0) → csum s c (L.map fun r => fun _ => dot w r (Y i)) 0 = if s ≤ i ∧ i < s + L.length then e * c i else 0 := by
    intro L
    induction L with
    | nil => intro s i _ _; simp [csum, zV]; omega
    | cons q L ih =>
      intro s i hi ht
      have h0 := ht 0 (by simp)
      have h0' : dot w q (Y i) = if s = i then e else 0 := by simpa [rw'] using h0
      have ih' := ih (s + 1) i hi fun t hh => by
        have := ht (t + 1) (by simp; omega)
        rw [show s + 1 + t = s + (t + 1) by omega]
        simpa [rw'] using this
      simp only [List.map_cons, csum, ih', h0', List.length_cons]
      by_cases es : s = i
      · subst es
        rw [if_pos rfl, if_neg (by omega), if_pos (by omega), Int.mul_comm]; omega
      · rw [if_neg es]
        by_cases h2 : s + 1 ≤ i ∧ i < s + 1 + L.length
        · rw [if_pos h2, if_pos (by omega)]; omega
        · rw [if_neg h2, if_neg (by omega)]; omega
  have cof : ∀ i, i < P.length → e * c i = k * dot w v (Y i) := fun i hi => by
    have h1 := csum_dot 0 w c P (Y i)
    rw [← hc, one P 0 i hi fun t ht => by rw [Nat.zero_add]; exact hYc i hi t ht, if_pos (by omega)] at h1
    rw [← h1, dot_comm, dot_mul, dot_comm]
  have h2 : csum 0 (fun i => dot w v (Y i)) P = fun j => e * v j := by
    funext j
    have h3 : k * csum 0 (fun i => dot w v (Y i)) P j = k * (e * v j) := by
      rw [← csum_mul, csum_congr P (d := fun i => e * c i) fun i _ hi => (cof i (by omega)).symm, csum_mul, ← hc]
      grind
    exact Int.eq_of_mul_eq_mul_left hk h3
  rw [← h2]
  exact csum_sp 0 _ P
theorem sq_mult {r : Nat} {H : List Vec} (hs : Sq r H) {v : Vec} (hv : ∀ j, r ≤ j → v j = 0) : ∃ k : Int, k ≠ 0 ∧ Sp H (fun j => k * v j) := by
  refine hs.pl.ec.ind.of_le (P := augF 0 0 (List.replicate r zV)) (fun a ha => augF_sp.mpr ⟨fun j hj => absurd hj (Nat.not_lt_zero j), fun j _ hj => ?_⟩) (by rw [augF_len, List.length_replicate, hs.len]; exact Nat.le_refl _)
  simp at hj
  rcases List.mem_cons.mp ha with rfl | ha
  · exact hv j hj
  · exact hs.out a ha j hj
theorem Ends.units {r : Nat} {H F : List Vec} (h : Ends r H F) {e : Int} (he : ∀ i, i < r → rw' F i i ∣ e) : ∀ i, i < r → Sp H (un (i, e)) := by
  induction h with
  | @done H hs ha =>
    intro i hi
    obtain ⟨m, hm⟩ := he i hi
    have e1 : un (i, e) = fun j => m * rw' H i j := by
      funext j
      show (if j = i then e else 0) = _
      split
      · rename_i ej; rw [ej, hm, Int.mul_comm]
      · rename_i ej; rw [ha i hi j ej]; simp
    rw [e1]
    exact (Sp.of (rw_mem (by rw [hs.len]; exact hi))).mul m
  | turn hs hs' hq _ ih =>
    intro i hi
    have h1 := ih he
    obtain ⟨k, hk, hkv⟩ := sq_mult hs (v := un (i, 1)) fun j hj => by simp [un]; omega
    have := units_of (w := r) (e := e) (P := _) (fun i hi => (hq _).mp (h1 i (by rw [hs.len] at hi; exact hi))) hk hkv
    have e2 : (fun j => e * un (i, 1) j) = un (i, e) := by funext j; simp only [un]; split <;> simp
    rwa [e2] at this
end La
set_option linter.all false
namespace La
theorem bezN (a b : Nat) : ∃ x y : Int, (Nat.gcd a b : Int) = x * a + y * b := by
  refine Nat.gcd.induction (P := fun a b => ∃ x y : Int, (Nat.gcd a b : Int) = x * a + y * b) a b (fun b => ?_) fun a b ha ⟨x, y, h⟩ => ?_
  · exact ⟨0, 1, by simp⟩
  · rw [Nat.gcd_rec, h]
    refine ⟨y - x * ((b / a : Nat) : Int), x, ?_⟩
    have e : (b : Int) = ((b % a : Nat) : Int) + ((b / a : Nat) : Int) * a := by
      have := Nat.mod_add_div b a
      have h2 : ((b % a + a * (b / a) : Nat) : Int) = (b : Int) := by rw [this]
      rw [Int.natCast_add, Int.natCast_mul] at h2
      grind
    rw [e]; grind
def gcdZ (a b : Int) : Int := (Int.gcd a b : Int)
theorem gcd_facts {a b : Int} (ha : 0 < a) (hb : 0 < b) : 0 < gcdZ a b ∧ (∃ x y, gcdZ a b = x * a + y * b) ∧ (∃ v, b = v * gcdZ a b) ∧ a = a.fdiv (gcdZ a b) * gcdZ a b ∧ 0 < a.fdiv (gcdZ a b) := by
  have g1 : gcdZ a b ∣ a := Int.gcd_dvd_left ..
  have g2 : gcdZ a b ∣ b := Int.gcd_dvd_right ..
  have gp : 0 < gcdZ a b := by
    have : Int.gcd a b ≠ 0 := fun h => by
      have := (Int.gcd_eq_zero_iff.mp h).1
      omega
    unfold gcdZ; omega
  obtain ⟨u, hu⟩ := g1
  have hd : a.fdiv (gcdZ a b) = u := by
    rw [Int.fdiv_eq_ediv_of_nonneg _ (by omega)]
    exact Int.ediv_eq_of_eq_mul_right (by omega) hu
  have hup : 0 < u := by
    rcases Int.lt_or_le 0 u with z | z
    · exact z
    · have := Int.mul_nonneg (show 0 ≤ gcdZ a b by omega) (show 0 ≤ -u by omega)
      rw [Int.mul_neg] at this
      omega
  refine ⟨gp, ?_, ?_, by rw [hd, Int.mul_comm]; exact hu, by rw [hd]; exact hup⟩
  · obtain ⟨x, y, h⟩ := bezN a.natAbs b.natAbs
    refine ⟨x, y, ?_⟩
    unfold gcdZ Int.gcd
    rw [h, Int.natAbs_of_nonneg (by omega), Int.natAbs_of_nonneg (by omega)]
  · obtain ⟨v, hv⟩ := g2
    exact ⟨v, by rw [Int.mul_comm]; exact hv⟩
def stepZ (i j : Nat) (L : List Int) : List Int := (L.set j ((at' L i).fdiv (gcdZ (at' L i) (at' L j)) * at' L j)).set i (gcdZ (at' L i) (at' L j))
theorem at_set (L : List Int) (i : Nat) (x : Int) (j : Nat) (h : i < L.length) : at' (L.set i x) j = if j = i then x else at' L j := by
  unfold at'
  simp only [List.getD, List.getElem?_set]
  by_cases e : i = j
  · subst e; simp [h]
  · rw [if_neg e, if_neg (fun h => e h.symm)]
structure Ch (L0 L : List Int) : Prop where
  len : L.length = L0.length
  pos : ∀ i, i < L.length → 0 < at' L i
  pk : ∀ {k : Nat} {c d : Int}, Pk L0 k c d ↔ Pk L k c d
  up : ∀ e, (∀ i, i < L.length → at' L i ∣ e) → ∀ i, i < L.length → at' L0 i ∣ e
theorem Ch.refl {L : List Int} (h : ∀ i, i < L.length → 0 < at' L i) : Ch L L := ⟨rfl, h, Iff.rfl, fun _ h => h⟩
theorem step_at {i j : Nat} {L : List Int} (hij : i < j) (hj : j < L.length) (t : Nat) : at' (stepZ i j L) t = if t = i then gcdZ (at' L i) (at' L j) else if t = j then (at' L i).fdiv (gcdZ (at' L i) (at' L j)) * at' L j else at' L t := by
  unfold stepZ
  rw [at_set _ _ _ _ (by rw [List.length_set]; omega)]
  split
  · rfl
  · rw [at_set _ _ _ _ hj]
theorem Ch.step {L0 L : List Int} (h : Ch L0 L) {i j : Nat} (hij : i < j) (hj : j < L.length) : Ch L0 (stepZ i j L) := by
  have hi : i < L.length := by omega
  obtain ⟨g1, ⟨x, y, g2⟩, ⟨v, g3⟩, g4, g5⟩ := gcd_facts (h.pos i hi) (h.pos j hj)
  have ls : (stepZ i j L).length = L.length := by simp [stepZ]
  have ps : 0 < (at' L i).fdiv (gcdZ (at' L i) (at' L j)) * at' L j := Int.mul_pos g5 (h.pos j hj)
  have gi : L[i]? = some (at' L i) := by simp [at', List.getD, List.getElem?_eq_getElem hi]
  have gj : L[j]? = some (at' L j) := by simp [at', List.getD, List.getElem?_eq_getElem hj]
  refine ⟨ls.trans h.len, fun t ht => ?_, fun {k c d} => ?_, fun e he t0 ht0 => h.up e (fun t ht => ?_) t0 (by omega)⟩
  · rw [step_at hij hj]
    split
    · exact g1
    · split
      · exact ps
      · exact h.pos t (by omega)
  · rw [h.pk]
    unfold stepZ
    rw [List.set_comm _ _ (by omega)]
    exact Pk.set g2 g4 g3 rfl hij gi gj
  · have a1 := he j (by omega)
    rw [step_at hij hj, if_neg (by omega), if_pos rfl] at a1
    by_cases ei : t = i
    · subst ei
      refine Int.dvd_trans ?_ a1
      rw [g3]
      conv => lhs; rw [g4]
      exact ⟨v, by rw [← g3]; conv => lhs; rw [g3]
                   grind⟩
    · by_cases ej : t = j
      · subst ej
        exact Int.dvd_trans (Int.dvd_mul_left _ _) a1
      · have := he t (by omega)
        rwa [step_at hij hj, if_neg ei, if_neg ej] at this
def Dn (i j : Nat) (L : List Int) : Prop := (∀ s, s < i → ∀ t, s < t → t < L.length → at' L s ∣ at' L t) ∧ ∀ t, i < t → t < j → t < L.length → at' L i ∣ at' L t
theorem Dn.step {L0 L : List Int} (h : Ch L0 L) {i j : Nat} (hij : i < j) (hj : j < L.length) (hd : Dn i j L) : Dn i (j + 1) (stepZ i j L) := by
  have hi : i < L.length := by omega
  obtain ⟨g1, ⟨x, y, g2⟩, ⟨v, g3⟩, g4, g5⟩ := gcd_facts (h.pos i hi) (h.pos j hj)
  have ls : (stepZ i j L).length = L.length := by simp [stepZ]
  have gd : ∀ c, c ∣ at' L i → c ∣ at' L j → c ∣ gcdZ (at' L i) (at' L j) := fun c h1 h2 => by
    rw [g2]; exact Int.dvd_add (Int.dvd_trans h1 (Int.dvd_mul_left _ _)) (Int.dvd_trans h2 (Int.dvd_mul_left _ _))
  refine ⟨fun s hs t hst ht => ?_, fun t h1 h2 ht => ?_⟩
  · rw [step_at hij hj, step_at hij hj, if_neg (show s ≠ i by omega), if_neg (show s ≠ j by omega)]
    split
    · exact gd _ (hd.1 s hs i hs hi) (hd.1 s hs j (by omega) hj)
    · split
      · exact Int.dvd_trans (hd.1 s hs j (by omega) hj) (Int.dvd_mul_left _ _)
      · exact hd.1 s hs t hst (by omega)
  · rw [step_at hij hj, step_at hij hj, if_pos rfl, if_neg (show t ≠ i by omega)]
    have ga : gcdZ (at' L i) (at' L j) ∣ at' L i := ⟨_, by rw [Int.mul_comm]; exact g4⟩
    have gb : gcdZ (at' L i) (at' L j) ∣ at' L j := ⟨v, by rw [Int.mul_comm]; exact g3⟩
    split
    · exact Int.dvd_trans gb (Int.dvd_mul_left _ _)
    · exact Int.dvd_trans ga (hd.2 t h1 (by omega) (by omega))
theorem Dn.next {i : Nat} {L : List Int} (h : Dn i L.length L) : Dn (i + 1) (i + 2) L := by
  refine ⟨fun s hs t hst ht => ?_, fun t h1 h2 _ => by omega⟩
  rcases Nat.lt_or_ge s i with z | z
  · exact h.1 s z t hst ht
  · have : s = i := by omega
    subst this
    exact h.2 t hst ht ht
theorem lap_bd {v : Vec} {f : List Nat → Int} {M B : Nat} (hv : ∀ j, (v j).natAbs ≤ M) : ∀ {js pr : List Nat}, (∀ ks : List Nat, ks.length + 1 = pr.length + js.length → (f ks).natAbs ≤ B) → (lap v f pr js).natAbs ≤ js.length * (M * B)
  | [], _, _ => by simp [lap]
  | j :: js, pr, hf => by
    have h1 := lap_bd (f := f) (B := B) hv (js := js) (pr := pr ++ [j]) fun ks hk => hf ks (by simp at hk ⊢; omega)
    have h2 : (v j * f (pr ++ js)).natAbs ≤ M * B := by
      rw [Int.natAbs_mul]; exact Nat.mul_le_mul (hv j) (hf _ (by simp; omega))
    simp only [lap, List.length_cons]
    have h3 := Int.natAbs_sub_le (v j * f (pr ++ js)) (lap v f (pr ++ [j]) js)
    rw [Nat.add_mul, Nat.one_mul]
    omega
theorem mi_bd {M : Nat} : ∀ (vs : List Vec) (js : List Nat), (∀ v ∈ vs, ∀ j, (v j).natAbs ≤ M) → js.length ≤ 4 → (mi vs js).natAbs ≤ (4 * M) ^ vs.length
  | [], js, _, _ => by simp [mi]
  | v :: vs, js, h, hj => by
    have := lap_bd (f := mi vs) (B := (4 * M) ^ vs.length) (h v List.mem_cons_self) (js := js) (pr := []) fun ks hk => mi_bd vs ks (fun q hq => h q (List.mem_cons_of_mem _ hq)) (by simp at hk; omega)
    show (lap v (mi vs) [] js).natAbs ≤ _
    rw [List.length_cons, Nat.pow_succ]
    have h2 : js.length * (M * (4 * M) ^ vs.length) ≤ 4 * (M * (4 * M) ^ vs.length) := Nat.mul_le_mul_right _ hj
    have e : 4 * (M * (4 * M) ^ vs.length) = (4 * M) ^ vs.length * (4 * M) := by grind
    omega
structure Gr (r : Nat) (L : List Vec) (gs : List Int) : Prop where
  len : gs.length = r
  pos : ∀ g ∈ gs, 0 < g
  chain : Chain gs
  div : ∀ k, k ≤ r → ∀ d, Dv k L d ↔ d ∣ prod (gs.take k)
  last : ∀ e, (∀ g ∈ gs, g ∣ e) → ∀ (v : Vec) (k : Int), k ≠ 0 → Sp L (fun j => k * v j) → Sp L (fun j => e * v j)
theorem prod_pos : ∀ {gs : List Int}, (∀ g ∈ gs, 0 < g) → 0 < prod gs
  | [], _ => by decide
  | g :: gs, h => Int.mul_pos (h g List.mem_cons_self) (prod_pos fun x hx => h x (List.mem_cons_of_mem _ hx))
theorem dvd_antisymm_pos {a b : Int} (ha : 0 < a) (hb : 0 < b) (h1 : a ∣ b) (h2 : b ∣ a) : a = b := by
  have := Int.le_of_dvd hb h1
  have := Int.le_of_dvd ha h2
  omega
theorem take_pos {gs : List Int} (h : ∀ g ∈ gs, 0 < g) (k : Nat) : 0 < prod (gs.take k) := prod_pos fun g hg => h g (List.mem_of_mem_take hg)
theorem prods_eq : ∀ {gs hs : List Int}, gs.length = hs.length → (∀ g ∈ gs, 0 < g) → (∀ k, k ≤ gs.length → prod (gs.take k) = prod (hs.take k)) → gs = hs
  | [], [], _, _, _ => rfl
  | g :: gs, h :: hs, hl, hp, he => by
    have e1 : g = h := by have := he 1 (by simp); simpa [prod] using this
    subst e1
    have hg := hp g List.mem_cons_self
    rw [prods_eq (by simpa using hl) (fun x hx => hp x (List.mem_cons_of_mem _ hx)) fun k hk => by
      have := he (k + 1) (by simpa using hk)
      simp only [List.take_succ_cons, prod] at this
      exact Int.eq_of_mul_eq_mul_left (by omega) this]
  | [], _ :: _, h, _, _ => by simp at h
  | _ :: _, [], h, _, _ => by simp at h
theorem Gr.uniq {r : Nat} {L M : List Vec} {gs hs : List Int} (h : Gr r L gs) (g : Gr r M hs) (e : ∀ k, k ≤ r → ∀ d, Dv k L d ↔ Dv k M d) : gs = hs :=
  prods_eq (h.len.trans g.len.symm) h.pos fun k hk => dvd_antisymm_pos (take_pos h.pos k) (take_pos g.pos k)
    (((g.div k (by rw [← h.len]; exact hk) _).mp ((e k (by rw [← h.len]; exact hk) _).mp ((h.div k (by rw [← h.len]; exact hk) _).mpr (Int.dvd_refl _)))))
    (((h.div k (by rw [← h.len]; exact hk) _).mp ((e k (by rw [← h.len]; exact hk) _).mpr ((g.div k (by rw [← h.len]; exact hk) _).mpr (Int.dvd_refl _)))))
theorem Gr.size {r M : Nat} {L : List Vec} {gs : List Int} (h : Gr r L gs) (hr : r ≤ 4) (hM : ∀ v ∈ L, ∀ j, (v j).natAbs ≤ M) : (prod gs).natAbs ≤ (4 * M) ^ r := by
  have hp := prod_pos h.pos
  have et : gs.take r = gs := by rw [← h.len]; exact List.take_length
  have h1 := (h.div r (Nat.le_refl _) (prod gs)).mpr (by rw [et]; exact Int.dvd_refl _)
  by_cases hz : ∃ (vs : List Vec) (js : List Nat), vs.length = r ∧ (∀ v ∈ vs, v ∈ L) ∧ js.length = r ∧ mi vs js ≠ 0
  · obtain ⟨vs, js, a, b, c, d⟩ := hz
    have h2 := h1 vs a b js c
    have h3 := mi_bd (M := M) vs js (fun v hv => hM v (b v hv)) (by omega)
    rw [a] at h3
    have := Int.natAbs_dvd_natAbs.mpr h2
    have := Nat.le_of_dvd (by omega) this
    omega
  · have : Dv r L 0 := fun vs a b js c => by
      refine Classical.byContradiction fun hn => hz ⟨vs, js, a, b, c, fun e => hn ?_⟩
      rw [e]; exact Int.dvd_zero _
    have := (h.div r (Nat.le_refl _) 0).mp this
    rw [et] at this
    have := Int.zero_dvd.mp this
    omega
theorem Gr.of {r w : Nat} {L P0 : List Vec} {qs : List (Nat × Int)} {gs : List Int} (hr : r ≤ 4) (hq : qs.length = r) (nd : (qs.map Prod.fst).Nodup) (hp : ∀ q ∈ qs, 0 < q.2) (hc : Ch (qs.map Prod.snd) gs) (hch : Chain gs)
    (hdv : ∀ k, k ≤ 4 → ∀ d, Dv k L d ↔ Dv k (qs.map un) d) (e0 : Eqv L P0) (hu : ∀ e, (∀ q ∈ qs, q.2 ∣ e) → ∀ i, i < P0.length → Sp (cols w P0) (un (i, e))) : Gr r L gs := by
  have hl : gs.length = r := by rw [hc.len, List.length_map, hq]
  refine ⟨hl, fun g hg => ?_, hch, fun k hk d => ?_, fun e he v k hk hv => ?_⟩
  · obtain ⟨i, hi, e⟩ := List.mem_iff_getElem.mp hg
    have := hc.pos i hi
    simpa [at', List.getElem?_eq_getElem hi, e] using this
  · rw [hdv k (by omega), Dv.diag (by omega) nd, hc.pk, Pk.chain hch (by omega), Int.one_mul]
  · rw [e0] at hv ⊢
    refine units_of (w := w) (e := e) (hu e fun q hq' => ?_) hk hv
    obtain ⟨i, hi, e1⟩ := List.mem_iff_getElem.mp hq'
    have := hc.up e (fun i hi => he _ (by
      have e2 : at' gs i = gs[i] := by simp [at', List.getD, List.getElem?_eq_getElem hi]
      rw [e2]; exact List.getElem_mem hi)) i (by rw [hl, ← hq]; exact hi)
    have e3 : at' (qs.map Prod.snd) i = q.2 := by simp [at', List.getD, List.getElem?_map, List.getElem?_eq_getElem hi, e1]
    rwa [e3] at this
end La
set_option linter.all false
namespace La
def alZ (r : List Int) : Bool := (r.drop (leadZ r + 1)).all fun x => x == 0
def qz (r : List Int) : Nat × Int := (leadZ r, at' r (leadZ r))
structure Alone (F : List (List Int)) : Prop where
  un : (F.map qz).map un = F.map fv
  nd : ((F.map qz).map Prod.fst).Nodup
  pos : ∀ q ∈ F.map qz, 0 < q.2
inductive EndL (r : Nat) : List (List Int) → List (List Int) → Prop
  | done {X H : List (List Int)} : IsPl r X H → H.length = r → H.all alZ = true → EndL r H H
  | turn {X H H' F : List (List Int)} : IsPl r X H → H.length = r → H.all alZ = false → IsPl r (uprZ r H) H' → H'.length = r → EndL r H' F → EndL r H F
theorem EndL.fin {r : Nat} {H F : List (List Int)} (h : EndL r H F) : (∃ X, IsPl r X F) ∧ F.length = r ∧ F.all alZ = true := by
  induction h with
  | done hp hl ha => exact ⟨⟨_, hp⟩, hl, ha⟩
  | turn _ _ _ _ _ _ ih => exact ih
theorem EndL.first {r : Nat} {H F : List (List Int)} (h : EndL r H F) : (∃ X, IsPl r X H) ∧ H.length = r := by
  cases h with
  | done hp hl _ => exact ⟨⟨_, hp⟩, hl⟩
  | turn hp hl _ _ _ _ => exact ⟨⟨_, hp⟩, hl⟩
theorem nodup_ix {α : Type} : ∀ {l : List α} {i j : Nat} (hi : i < l.length) (hj : j < l.length), l.Nodup → l[i] = l[j] → i = j
  | [], _, _, hi, _, _, _ => by simp at hi
  | a :: l, 0, 0, _, _, _, _ => rfl
  | a :: l, 0, j + 1, _, hj, nd, e => by
    simp at e hj
    exact absurd (e ▸ List.getElem_mem hj) (List.nodup_cons.mp nd).1
  | a :: l, i + 1, 0, hi, _, nd, e => by
    simp at e hi
    exact absurd (e ▸ List.getElem_mem hi) (List.nodup_cons.mp nd).1
  | a :: l, i + 1, j + 1, hi, hj, nd, e => by
    simp at e hi hj
    rw [nodup_ix hi hj (List.nodup_cons.mp nd).2 e]
end La
set_option linter.all false
namespace La
theorem gcd_facts' {a b : Int} (ha : 0 < a) : 0 < gcdZ a b ∧ a = a.fdiv (gcdZ a b) * gcdZ a b ∧ b = b.fdiv (gcdZ a b) * gcdZ a b ∧ 0 < a.fdiv (gcdZ a b) := by
  have g1 : gcdZ a b ∣ a := Int.gcd_dvd_left ..
  have g2 : gcdZ a b ∣ b := Int.gcd_dvd_right ..
  have gp : 0 < gcdZ a b := by
    have : Int.gcd a b ≠ 0 := fun h => by
      have := (Int.gcd_eq_zero_iff.mp h).1
      omega
    unfold gcdZ; omega
  have dv : ∀ {x : Int}, gcdZ a b ∣ x → x = x.fdiv (gcdZ a b) * gcdZ a b := fun {x} h => by
    obtain ⟨u, hu⟩ := h
    have hd : x.fdiv (gcdZ a b) = u := by
      rw [Int.fdiv_eq_ediv_of_nonneg _ (by omega)]
      exact Int.ediv_eq_of_eq_mul_right (by omega) hu
    rw [hd, Int.mul_comm]; exact hu
  have e := dv g1
  refine ⟨gp, e, dv g2, ?_⟩
  rcases Int.lt_or_le 0 (a.fdiv (gcdZ a b)) with z | z
  · exact z
  · have := Int.mul_nonneg (show 0 ≤ gcdZ a b by omega) (show 0 ≤ -a.fdiv (gcdZ a b) by omega)
    rw [Int.mul_neg, Int.mul_comm] at this
    omega
theorem dot_unit {w l m : Nat} (h : l < w) (v : Vec) : dot w (fv (unitZ m l)) v = v l := by
  have e : dot w (fv (unitZ m l)) v = dot w v (fv (unitZ m l)) := dot_comm w _ _
  have key : ∀ n, dot n (fv (unitZ m l)) v = if l < n then v l else 0 := by
    intro n
    induction n with
    | zero => rfl
    | succ n ih =>
      simp only [dot, ih]
      have e1 : fv (unitZ m l) n = if n = l then 1 else 0 := at_unitZ m l n
      rw [e1]
      rcases Nat.lt_trichotomy l n with z | z | z
      · rw [if_pos z, if_neg (show ¬ n = l by omega), if_pos (by omega)]; simp
      · subst z
        rw [if_neg (by omega), if_pos rfl, if_pos (by omega)]; simp
      · rw [if_neg (by omega), if_neg (by omega), if_neg (by omega)]; simp
  rw [key, if_pos h]
structure PrI (w pc : Nat) (done : List (List Int)) (d0 F : Int) (nb : List Int) (dv : Int) : Prop where
  len : nb.length = w
  top : ∀ j, pc < j → at' nb j = 0
  mid : at' nb pc = F
  pos : 0 < F
  dv : dv = F * d0
  zero : ∀ r ∈ done, dot w (fv nb) (fv r) = 0
def raiseZ (nb : List Int) (u : Int) : List Int := nb.map fun x => x * u
theorem at_raiseZ (nb : List Int) (u : Int) (j : Nat) : at' (raiseZ nb u) j = at' nb j * u := by
  simp only [at', raiseZ, List.getD, List.getElem?_map]
  cases nb[j]? <;> simp
theorem PrI.start {w pc : Nat} (h : pc < w) (d0 : Int) : PrI w pc [] d0 1 (unitZ w pc) d0 :=
  ⟨unitZ_len h, fun j hj => by rw [at_unitZ, if_neg (by omega)], by rw [at_unitZ, if_pos rfl], by decide, by omega, fun r hr => nomatch hr⟩
def nextNb (w : Nat) (nb r : List Int) : List Int := subZ (raiseZ nb ((at' r (leadZ r)).fdiv (gcdZ (at' r (leadZ r)) (dot w (fv nb) (fv r))))) ((dot w (fv nb) (fv r)).fdiv (gcdZ (at' r (leadZ r)) (dot w (fv nb) (fv r)))) (unitZ w (leadZ r))
theorem PrI.step {w pc : Nat} {done : List (List Int)} {d0 F dv : Int} {nb r : List Int} (h : PrI w pc done d0 F nb dv) (hr : r.length = w) (hl : leadZ r < pc) (hp : pc < w) (ha : 0 < at' r (leadZ r)) (hd : ∀ q ∈ done, at' q (leadZ r) = 0) :
    PrI w pc (r :: done) d0 (F * (at' r (leadZ r)).fdiv (gcdZ (at' r (leadZ r)) (dot w (fv nb) (fv r)))) (nextNb w nb r) (dv * (at' r (leadZ r)).fdiv (gcdZ (at' r (leadZ r)) (dot w (fv nb) (fv r)))) := by
  obtain ⟨g1, g2, g3, g4⟩ := gcd_facts' (b := dot w (fv nb) (fv r)) ha
  generalize hoff : dot w (fv nb) (fv r) = off at g1 g2 g3 g4 ⊢
  generalize hu : (at' r (leadZ r)).fdiv (gcdZ (at' r (leadZ r)) off) = u at g2 g4 ⊢
  generalize ht : off.fdiv (gcdZ (at' r (leadZ r)) off) = t at g3
  generalize hg : gcdZ (at' r (leadZ r)) off = g at g1 g2 g3
  have lu : (unitZ w (leadZ r)).length = w := unitZ_len (by omega)
  have lr : (raiseZ nb u).length = (unitZ w (leadZ r)).length := by rw [lu]; simp [raiseZ, h.len]
  have en : nextNb w nb r = subZ (raiseZ nb u) t (unitZ w (leadZ r)) := by unfold nextNb; rw [hoff, hu, ht]
  rw [en]
  have at_n : ∀ j, at' (subZ (raiseZ nb u) t (unitZ w (leadZ r))) j = at' nb j * u - t * (if j = leadZ r then 1 else 0) := fun j => by rw [at_subZ lr, at_raiseZ, at_unitZ]
  have dt : ∀ v : Vec, dot w (fv (subZ (raiseZ nb u) t (unitZ w (leadZ r)))) v = u * dot w (fv nb) v - t * v (leadZ r) := fun v => by
    have e : fv (subZ (raiseZ nb u) t (unitZ w (leadZ r))) = ax (fun j => u * fv nb j) (-t) (fv (unitZ w (leadZ r))) := by
      funext j
      show at' _ j = u * at' nb j + -t * at' _ j
      rw [at_n, at_unitZ, Int.mul_comm u]
      grind
    rw [e, dot_ax, dot_unit (by omega), dot_comm, dot_mul, dot_comm]
    grind
  refine ⟨by rw [subZ_len lr, lr, lu], fun j hj => ?_, ?_, Int.mul_pos h.pos g4, by rw [h.dv]; grind, fun q hq => ?_⟩
  · rw [at_n, h.top j hj, if_neg (by omega)]; simp
  · rw [at_n, h.mid, if_neg (by omega)]; omega
  · rw [dt]
    rcases List.mem_cons.mp hq with rfl | hq
    · rw [hoff]
      show u * off - t * at' q (leadZ q) = 0
      rw [g2]
      conv => lhs; lhs; rw [g3]
      grind
    · rw [h.zero q hq]
      show u * 0 - t * at' q (leadZ r) = 0
      rw [hd q hq]; simp
theorem Pk.beyond : ∀ {s : List Int} {m : Nat} {c d : Int}, s.length < m → Pk s m c d
  | [], m + 1, _, _, _ => trivial
  | [], 0, _, _, h => by simp at h
  | a :: s, 0, _, _, h => by simp at h
  | a :: s, m + 1, _, _, h => ⟨Pk.beyond (by simpa using h), Pk.beyond (by simp at h; omega)⟩
theorem Pk.full : ∀ {s : List Int} {c d : Int}, Pk s s.length c d ↔ d ∣ c * prod s
  | [], c, d => by rw [List.length_nil, Pk.zero]; simp [prod]
  | a :: s, c, d => by
    rw [List.length_cons]
    show Pk s s.length (c * a) d ∧ Pk s (s.length + 1) c d ↔ _
    rw [Pk.full]
    simp only [prod]
    rw [Int.mul_assoc]
    exact ⟨fun h => h.1, fun h => ⟨h, Pk.beyond (Nat.lt_succ_self _)⟩⟩
theorem mem_dvd_prod : ∀ {gs : List Int} {x : Int}, x ∈ gs → x ∣ prod gs
  | a :: t, x, hx => by
    rcases List.mem_cons.mp hx with rfl | hx
    · exact Int.dvd_mul_right _ _
    · exact Int.dvd_trans (mem_dvd_prod hx) (Int.dvd_mul_left _ _)
theorem Ch.bd {L0 L : List Int} {S : Nat} (h : Ch L0 L) (hp : ∀ x ∈ L0, 0 < x) (hS : (prod L0).natAbs ≤ 2 ^ S) (i : Nat) : (at' L i).natAbs ≤ 2 ^ S := by
  rcases Nat.lt_or_ge i L.length with z | z
  · have e : at' L i = L[i] := by simp [at', List.getD, List.getElem?_eq_getElem z]
    have h1 : at' L i ∣ prod L := by rw [e]; exact mem_dvd_prod (List.getElem_mem z)
    have h2 : at' L i ∣ prod L0 := by
      have := h.pk (k := L0.length) (c := 1) (d := at' L i)
      rw [Pk.full, ← h.len, Pk.full, Int.one_mul, Int.one_mul] at this
      exact this.mpr h1
    have p := prod_pos hp
    have := Nat.le_of_dvd (by omega) (Int.natAbs_dvd_natAbs.mpr h2)
    omega
  · rw [at_out z]; exact Nat.zero_le _
end La
set_option linter.all false
namespace La
end La
set_option Elab.async false
set_option linter.all false
set_option maxRecDepth 100000
namespace L2
open PySem PySem.SeqAt PyProof.Rows
open AutoSeq1 (wpAny_loadPart')
theorem tuple_mulW1 (l : Addr) (items : Array Value) (n : Nat) (dd : Option Addr) (sl : Array (Option Value)) (u : Tok) :
    Meets (Builtin.«tuple.__mul__» ⟨[.ref l, .int 1 u], []⟩) (fun _ R s => s.heap.get? l = some { cls := .type "tuple", dict := dd, data := .seq items n, slots := sl } ∧ R (.ok (.ret (Value.ref l))) { s with heap := s.heap, toks := s.toks }) :=
  .of_wp fun prog w A R s h => by
    obtain ⟨hp, g, d, tk, os⟩ := s; obtain ⟨hl, h⟩ := h
    have f1 := AutoSeq1.idx_int
    have hc0 : (items.isEmpty || (1 : Int) == 1) = true := by simp
    wp_walk using wpAny_loadPart' hl; exact ⟨_, rfl, h⟩
theorem tuple_mulW0 (l : Addr) (items : Array Value) (n : Nat) (dd : Option Addr) (sl : Array (Option Value)) (x : Int) (u : Tok) (hx : x ≤ 0) (hf : ¬ (x < -(2 ^ 63) || x ≥ 2 ^ 63) = true) (hi : items.isEmpty = false) :
    Meets (Builtin.«tuple.__mul__» ⟨[.ref l, .int x u], []⟩) (fun _ R s => s.heap.get? l = some { cls := .type "tuple", dict := dd, data := .seq items n, slots := sl } ∧ R (.ok (.ret (Value.ref s.heap.objs.size))) { s with heap := s.heap.push { cls := Value.type "tuple", data := Data.seq #[] }, toks := s.toks }) :=
  .of_wp fun prog w A R s h => by
    obtain ⟨hp, g, d, tk, os⟩ := s; obtain ⟨hl, h⟩ := h
    have f1 := AutoSeq1.idx_int
    have hc0 : ¬ (items.isEmpty || x == 1) = true := by simp [hi]; omega
    have hc1 : (decide (x ≤ 0) || items.isEmpty) = true := by simp [hx]
    wp_walk using wpAny_loadPart' hl; refine wpAny_ite_false (decide_eq_false hf) ?_; wp_walk using wpAny_loadPart' hl; refine wpAny_ite_false (decide_eq_false hc0) ?_; wp_walk using wpAny_loadPart' hl; exact ⟨_, rfl, h⟩
theorem tuple_mulW2 (l : Addr) (items : Array Value) (n : Nat) (dd : Option Addr) (sl : Array (Option Value)) (x : Int) (u : Tok) (hx : 2 ≤ x) (hf : ¬ (x < -(2 ^ 63) || x ≥ 2 ^ 63) = true) (hi : items.isEmpty = false) (hc2 : ¬ (items.size : Int) * x > (2 ^ 63 - 1) / 8) (hc3 : ¬ Builtin.Tuple.tupleTooMany (items.size * x) = true) (hsz : (List.foldl (fun x1 x2 => x1 ++ x2) #[] (List.replicate x.toNat items)).size ≤ sizeLine) :
    Meets (Builtin.«tuple.__mul__» ⟨[.ref l, .int x u], []⟩) (fun _ R s => s.heap.get? l = some { cls := .type "tuple", dict := dd, data := .seq items n, slots := sl } ∧ R (.ok (.ret (Value.ref s.heap.objs.size))) { s with heap := s.heap.push { cls := Value.type "tuple", data := Data.seq (List.foldl (fun x1 x2 => x1 ++ x2) #[] (List.replicate x.toNat items)) }, toks := s.toks }) :=
  .of_wp fun prog w A R s h => by
    obtain ⟨hp, g, d, tk, os⟩ := s; obtain ⟨hl, h⟩ := h
    have f1 := AutoSeq1.idx_int
    have hc0 : ¬ (items.isEmpty || x == 1) = true := by simp [hi]; omega
    have hc1 : ¬ (decide (x ≤ 0) || items.isEmpty) = true := by simp [hi]; omega
    wp_walk using wpAny_loadPart' hl; refine wpAny_ite_false (decide_eq_false hf) ?_; wp_walk using wpAny_loadPart' hl; refine wpAny_ite_false (decide_eq_false hc0) ?_; wp_walk using wpAny_loadPart' hl; refine wpAny_ite_false (decide_eq_false hc1) ?_; wp_walk using wpAny_loadPart' hl; refine wpAny_ite_false (decide_eq_false hc2) ?_; wp_walk using wpAny_loadPart' hl; (try refine wpAny_ite_false (decide_eq_false hc3) ?_); wp_walk using wpAny_loadPart' hl; (try (refine wpAny_ite_false (decide_eq_false (Nat.not_lt.mpr hsz)) ?_; wp_walk using wpAny_loadPart' hl; skip)); exact ⟨_, rfl, h⟩
theorem noFill_tuple_mul : fillsNumberSlot (.type "tuple") "mul" = pure false :=
  PySem.fillsNumberSlot_seq (id := "tuple.__mul__") (r := some (.builtin "tuple.__rmul__")) PySem.F.slot_tuple_mul.lookup (by decide +kernel) PySem.F.slot_tuple_rmul.lookup (by decide +kernel)
theorem repeat_tuple : seqRepeat? (.type "tuple") = pure (some (.builtin "tuple.__mul__")) := by
  unfold seqRepeat?
  rw [PySem.seqSlot_of (T := "tuple") (name := "__mul__") (id := "tuple.__mul__") PySem.F.slot_tuple_mul.lookup (by decide +kernel), PySem.seqSlot_of (T := "tuple") (name := "__rmul__") (id := "tuple.__rmul__") PySem.F.slot_tuple_rmul.lookup (by decide +kernel)]
  rfl
theorem int_rmul_tuple (a : Int) (t : Tok) (l : Addr) (items : Array Value) (n : Nat) (dd : Option Addr) (sl : Array (Option Value)) :
    Meets (Builtin.«int.__rmul__» ⟨[.int a t, .ref l], []⟩) (fun _ R s => s.heap.get? l = some { cls := .type "tuple", dict := dd, data := .seq items n, slots := sl } ∧ R (.ok (.ret Value.notImplemented)) s) :=
  .of_wp fun prog w A R s h => by obtain ⟨hp, g, d, tk, os⟩ := s; obtain ⟨hl, h⟩ := h; wp_walk; exact ⟨_, rfl, h⟩
section
variable {prog : Program} {w : World} {A : Around} {E : Value → Shared → Prop} {s : Shared}
theorem foldl_flat (its : List Value) (m : Nat) : List.foldl (fun x1 x2 => x1 ++ x2) #[] (List.replicate m its.toArray) = (List.replicate m its).flatten.toArray := by
  have f : ∀ (m : Nat) (acc : List Value), List.foldl (fun x1 x2 => x1 ++ x2) acc.toArray (List.replicate m its.toArray) = (acc ++ (List.replicate m its).flatten).toArray := by
    intro m
    induction m with
    | zero => intro acc; simp
    | succ m ih =>
      intro acc
      rw [List.replicate_succ, List.replicate_succ, List.foldl_cons, List.flatten_cons]
      have e : acc.toArray ++ its.toArray = (acc ++ its).toArray := by simp
      rw [e, ih]
      simp
  have := f m []
  rwa [List.nil_append] at this
theorem rep_tupT {t : Addr} {vs : List Value} {k : Int} {u : Tok} {Q : Value → Shared → Prop} (ht : IsTup s.heap t vs.toArray) (hv : vs ≠ []) (h1 : -(2 ^ 63) ≤ k) (h2 : k < 2 ^ 63) (hz : vs.length * k.toNat ≤ sizeLine)
    (q1 : k = 1 → Q (.ref t) s) (q2 : k ≠ 1 → Q (.ref s.heap.objs.size) { s with heap := s.heap.push { cls := .type "tuple", data := .seq (List.replicate k.toNat vs).flatten.toArray } }) :
    wpAny (model prog w) A (binaryOp .Mult (.ref t) (.int k u)) Q E s := by
  obtain ⟨⟨cls, dd, data, sl⟩, ho, hc, n, hd⟩ := id ht
  simp only at hc hd
  subst hc hd
  have hi : vs.toArray.isEmpty = false := by
    cases vs with
    | nil => exact absurd rfl hv
    | cons a r => simp
  have hf : ¬ (k < -(2 ^ 63) || k ≥ 2 ^ 63) = true := by simp; omega
  refine wpAny_binaryOp_repeat_ref (T := "tuple") (U := "int") (by decide) ⟨_, ho, rfl⟩ (fun s' => typeIs_int s' k u) noFill_tuple_mul PySem.F.fills_int_mul PySem.F.slot_int_rmul repeat_tuple PySem.F.slot_int_index.lookup
    (call_meets PySem.F.slot_int_rmul (typeIs_int s k u) PySem.F.entry_int_rmul (PySem.F.args_int_rmul_2 _ _) (int_rmul_tuple k u t vs.toArray n dd sl) ⟨ho, rfl, ⟨_, ho, rfl⟩, ?_⟩)
  by_cases e1 : k = 1
  · subst e1
    exact call_meets PySem.F.slot_tuple_mul ⟨_, ho, rfl⟩ PySem.F.entry_tuple_mul (PySem.F.args_tuple_mul_2 _ _) (tuple_mulW1 t vs.toArray n dd sl u) ⟨ho, q1 rfl⟩
  · rcases Int.lt_or_le 0 k with z | z
    · have kn : (k.toNat : Int) = k := Int.toNat_of_nonneg (by omega)
      have hm : (vs.toArray.size : Int) * k = ((vs.length * k.toNat : Nat) : Int) := by rw [Int.natCast_mul, kn]; simp
      have sl' : (sizeLine : Nat) ≤ (2 ^ 63 - 1) / 8 := by decide
      refine call_meets PySem.F.slot_tuple_mul ⟨_, ho, rfl⟩ PySem.F.entry_tuple_mul (PySem.F.args_tuple_mul_2 _ _) (tuple_mulW2 t vs.toArray n dd sl k u (by omega) hf hi (by rw [hm]; omega) (by
        unfold Builtin.Tuple.tupleTooMany
        rw [hm]
        simp only [decide_eq_true_eq]
        omega) (by
        rw [foldl_flat, List.size_toArray]
        have : ∀ m, (List.replicate m vs).flatten.length = m * vs.length := fun m => by simp
        rw [this, Nat.mul_comm]; exact hz)) ⟨ho, ?_⟩
      rw [foldl_flat]
      exact q2 e1
    · refine call_meets PySem.F.slot_tuple_mul ⟨_, ho, rfl⟩ PySem.F.entry_tuple_mul (PySem.F.args_tuple_mul_2 _ _) (tuple_mulW0 t vs.toArray n dd sl k u z hf hi) ⟨ho, ?_⟩
      have e0 : k.toNat = 0 := by omega
      have := q2 e1
      rw [e0] at this
      simpa using this
end
end L2
namespace L2
open PySem PySem.Spec PyProof.Rows
section
variable {X : Cx}
def rRepT (K : PySem.W.Frag) : R2 := fun x y H Q => ∃ a k xs, x = .ref a ∧ y = .int k ∧ SqT K H a xs ∧ xs ≠ [] ∧ -(2 ^ 63) ≤ k ∧ k < 2 ^ 63 ∧ xs.length * k.toNat ≤ sizeLine ∧
  (k = 1 → Q (.ref a) H) ∧ (k ≠ 1 → ∀ p, H p = none → Q (.ref p) (upd H p (.tup (List.replicate k.toNat xs).flatten)))
theorem op_repT : OpR X (binaryOp .Mult) (rRepT X.K) := by
  intro pins s σ H x y v u Q I rx ry h
  obtain ⟨a, k, xs, rfl, rfl, ha, hx, h1, h2, hz, q1, q2⟩ := h
  cases rx
  obtain ⟨t, rfl⟩ := ry
  obtain ⟨its, r1, p1, _⟩ := I.tuple ha
  refine rep_tupT p1 (fun z => hx (r1.nil_iff.mp z)) h1 h2 (by rw [← r1.length]; exact hz) (fun e => ⟨.ref a, H, I, rfl, q1 e⟩) fun e => ?_
  refine ⟨.ref s.heap.objs.size, _, I.laid (t' := s.toks) (o := .tup (List.replicate k.toNat xs).flatten) (fun b ob q => Heap.get?_push_of_some _ q) (Nat.le_refl _) ?_, rfl, q2 e _ (I.hok.fresh (Nat.le_refl _))⟩
  exact ⟨by rw [len_rep, Nat.mul_comm]; exact hz, _, r1.rep k.toNat, IsTup.new _ _⟩
end
end L2
set_option Elab.async false
set_option linter.all false
set_option maxRecDepth 100000
namespace L2
open PySem PySem.Spec PyProof.Rows
inductive D where
  | non | bl (b : Bool) | int (i : Int) | str (x : Str) | ty (n : String) | tup (xs : List D) | lst (xs : List D) | fro (xs : List D)
def SqF (K : PySem.W.Frag) (H : Hp) (a : Addr) (xs : List V) : Prop :=
  (∃ o, H a = some (.frz o (.lst xs))) ∨
    ∃ (o : Obj) (its : Array Value) (n : Nat), K.lookup a = some o ∧ o.cls = .type "list" ∧ o.dict = none ∧ o.data = .seq its n ∧ its.size ≤ sizeLine ∧ Vals xs its.toList
theorem SqF.sq {K : PySem.W.Frag} {H : Hp} {a : Addr} {xs : List V} (h : SqF K H a xs) : SqL K H a xs := by
  rcases h with h | h
  · exact .inl (.inr h)
  · exact .inr h
mutual
def Rep (K : PySem.W.Frag) (H : Hp) : D → V → Prop
  | .non, v => v = .non
  | .bl b, v => v = .bl b
  | .int i, v => v = .int i
  | .str x, v => v = .str x
  | .ty n, v => v = .ty n
  | .tup ds, v => ∃ a xs, v = .ref a ∧ H a = some (.tup xs) ∧ Reps K H ds xs
  | .lst ds, v => ∃ a xs, v = .ref a ∧ H a = some (.lst xs) ∧ Reps K H ds xs
  | .fro ds, v => ∃ a xs, v = .ref a ∧ SqF K H a xs ∧ Reps K H ds xs
def Reps (K : PySem.W.Frag) (H : Hp) : List D → List V → Prop
  | [], vs => vs = []
  | d :: ds, vs => ∃ v r, vs = v :: r ∧ Rep K H d v ∧ Reps K H ds r
end
section
variable {K : PySem.W.Frag} {H H' H1 H2 : Hp}
theorem SqF.mono {a : Addr} {xs : List V} (s : Same H H') (h : SqF K H a xs) : SqF K H' a xs := by
  rcases h with ⟨o, h⟩ | h
  · exact .inl ⟨o, s _ _ h⟩
  · exact .inr h
mutual
theorem Rep.mono (s : Same H H') : ∀ {d : D} {v : V}, Rep K H d v → Rep K H' d v
  | .non, _, h => by simpa only [Rep] using h
  | .bl _, _, h => by simpa only [Rep] using h
  | .int _, _, h => by simpa only [Rep] using h
  | .str _, _, h => by simpa only [Rep] using h
  | .ty _, _, h => by simpa only [Rep] using h
  | .tup ds, _, h => by
    simp only [Rep] at h ⊢
    obtain ⟨a, xs, e, q, r⟩ := h
    exact ⟨a, xs, e, s _ _ q, Reps.mono s r⟩
  | .lst ds, _, h => by
    simp only [Rep] at h ⊢
    obtain ⟨a, xs, e, q, r⟩ := h
    exact ⟨a, xs, e, s _ _ q, Reps.mono s r⟩
  | .fro ds, _, h => by
    simp only [Rep] at h ⊢
    obtain ⟨a, xs, e, q, r⟩ := h
    exact ⟨a, xs, e, q.mono s, Reps.mono s r⟩
theorem Reps.mono (s : Same H H') : ∀ {ds : List D} {vs : List V}, Reps K H ds vs → Reps K H' ds vs
  | [], _, h => by simpa only [Reps] using h
  | d :: ds, _, h => by
    simp only [Reps] at h ⊢
    obtain ⟨v, r, e, q, t⟩ := h
    exact ⟨v, r, e, Rep.mono s q, Reps.mono s t⟩
end
theorem rep_non : Rep K H .non .non := by simp only [Rep]
theorem rep_bl {b : Bool} : Rep K H (.bl b) (.bl b) := by simp only [Rep]
theorem rep_int {i : Int} : Rep K H (.int i) (.int i) := by simp only [Rep]
theorem rep_ty {n : String} : Rep K H (.ty n) (.ty n) := by simp only [Rep]
theorem Rep.ty_of {n : String} {v : V} (h : Rep K H (.ty n) v) : v = .ty n := by simpa only [Rep] using h
theorem rep_tup {a : Addr} {xs : List V} {ds : List D} (h : H a = some (.tup xs)) (r : Reps K H ds xs) : Rep K H (.tup ds) (.ref a) := by
  simp only [Rep]; exact ⟨a, xs, rfl, h, r⟩
theorem rep_lst {a : Addr} {xs : List V} {ds : List D} (h : H a = some (.lst xs)) (r : Reps K H ds xs) : Rep K H (.lst ds) (.ref a) := by
  simp only [Rep]; exact ⟨a, xs, rfl, h, r⟩
theorem rep_fro {a : Addr} {xs : List V} {ds : List D} (h : SqF K H a xs) (r : Reps K H ds xs) : Rep K H (.fro ds) (.ref a) := by
  simp only [Rep]; exact ⟨a, xs, rfl, h, r⟩
theorem Rep.int_of {i : Int} {v : V} (h : Rep K H (.int i) v) : v = .int i := by simpa only [Rep] using h
theorem Rep.bl_of {b : Bool} {v : V} (h : Rep K H (.bl b) v) : v = .bl b := by simpa only [Rep] using h
theorem Rep.non_of {v : V} (h : Rep K H .non v) : v = .non := by simpa only [Rep] using h
theorem Rep.str_of {x : Str} {v : V} (h : Rep K H (.str x) v) : v = .str x := by simpa only [Rep] using h
theorem Rep.tup_of {ds : List D} {v : V} (h : Rep K H (.tup ds) v) : ∃ a xs, v = .ref a ∧ H a = some (.tup xs) ∧ Reps K H ds xs := by simpa only [Rep] using h
theorem Rep.lst_of {ds : List D} {v : V} (h : Rep K H (.lst ds) v) : ∃ a xs, v = .ref a ∧ H a = some (.lst xs) ∧ Reps K H ds xs := by simpa only [Rep] using h
theorem Rep.fro_of {ds : List D} {v : V} (h : Rep K H (.fro ds) v) : ∃ a xs, v = .ref a ∧ SqF K H a xs ∧ Reps K H ds xs := by simpa only [Rep] using h
theorem reps_nil : Reps K H [] [] := by simp only [Reps]
theorem reps_cons {d : D} {ds : List D} {v : V} {vs : List V} (h : Rep K H d v) (t : Reps K H ds vs) : Reps K H (d :: ds) (v :: vs) := by
  simp only [Reps]; exact ⟨v, vs, rfl, h, t⟩
theorem Reps.nil_of {vs : List V} (h : Reps K H [] vs) : vs = [] := by simpa only [Reps] using h
theorem Reps.cons_of {d : D} {ds : List D} {vs : List V} (h : Reps K H (d :: ds) vs) : ∃ v r, vs = v :: r ∧ Rep K H d v ∧ Reps K H ds r := by simpa only [Reps] using h
theorem Reps.length : ∀ {ds : List D} {vs : List V}, Reps K H ds vs → vs.length = ds.length
  | [], _, h => by rw [h.nil_of]; rfl
  | d :: ds, _, h => by
    obtain ⟨v, r, rfl, _, t⟩ := h.cons_of
    simp only [List.length_cons, Reps.length t]
theorem Reps.append : ∀ {ds es : List D} {vs us : List V}, Reps K H ds vs → Reps K H es us → Reps K H (ds ++ es) (vs ++ us)
  | [], _, _, _, h, g => by rw [h.nil_of]; exact g
  | d :: ds, _, _, _, h, g => by
    obtain ⟨v, r, rfl, q, t⟩ := h.cons_of
    exact reps_cons q (Reps.append t g)
theorem Reps.take : ∀ {ds : List D} {vs : List V} (n : Nat), Reps K H ds vs → Reps K H (ds.take n) (vs.take n)
  | _, _, 0, _ => by rw [List.take_zero, List.take_zero]; exact reps_nil
  | [], _, n + 1, h => by rw [h.nil_of]; exact reps_nil
  | d :: ds, _, n + 1, h => by
    obtain ⟨v, r, rfl, q, t⟩ := h.cons_of
    exact reps_cons q (Reps.take n t)
theorem Reps.drop : ∀ {ds : List D} {vs : List V} (n : Nat), Reps K H ds vs → Reps K H (ds.drop n) (vs.drop n)
  | _, _, 0, h => h
  | [], _, n + 1, h => by rw [h.nil_of]; exact reps_nil
  | d :: ds, _, n + 1, h => by
    obtain ⟨v, r, rfl, q, t⟩ := h.cons_of
    exact Reps.drop n t
theorem Reps.get : ∀ {ds : List D} {vs : List V} {i : Nat} {d : D}, Reps K H ds vs → ds[i]? = some d → ∃ v, vs[i]? = some v ∧ Rep K H d v
  | [], _, _, _, _, e => by simp at e
  | d :: ds, _, 0, _, h, e => by
    obtain ⟨v, r, rfl, q, t⟩ := h.cons_of
    simp at e; subst e
    exact ⟨v, rfl, q⟩
  | d :: ds, _, i + 1, _, h, e => by
    obtain ⟨v, r, rfl, q, t⟩ := h.cons_of
    obtain ⟨u, h1, h2⟩ := Reps.get (i := i) t (by simpa using e)
    exact ⟨u, by simpa using h1, h2⟩
theorem Reps.get' : ∀ {ds : List D} {vs : List V} {i : Nat} {v : V}, Reps K H ds vs → vs[i]? = some v → ∃ d, ds[i]? = some d ∧ Rep K H d v
  | [], _, _, _, h, e => by rw [h.nil_of] at e; simp at e
  | d :: ds, _, 0, _, h, e => by
    obtain ⟨v, r, rfl, q, t⟩ := h.cons_of
    simp at e; subst e
    exact ⟨d, rfl, q⟩
  | d :: ds, _, i + 1, _, h, e => by
    obtain ⟨v, r, rfl, q, t⟩ := h.cons_of
    obtain ⟨u, h1, h2⟩ := Reps.get' (i := i) t (by simpa using e)
    exact ⟨u, by simpa using h1, h2⟩
theorem Reps.set {d : D} {v : V} (q : Rep K H d v) : ∀ {ds : List D} {vs : List V} (i : Nat), Reps K H ds vs → Reps K H (ds.set i d) (vs.set i v)
  | [], _, i, h => by rw [h.nil_of]; exact reps_nil
  | e :: ds, _, 0, h => by
    obtain ⟨u, r, rfl, _, t⟩ := h.cons_of
    exact reps_cons q t
  | e :: ds, _, i + 1, h => by
    obtain ⟨u, r, rfl, q', t⟩ := h.cons_of
    exact reps_cons q' (Reps.set q i t)
theorem reps_ints : ∀ (ns : List Int), Reps K H (ns.map D.int) (ns.map V.int)
  | [] => reps_nil
  | n :: ns => reps_cons rep_int (reps_ints ns)
end
abbrev DS := List (Option D)
def TabK (K : PySem.W.Frag) (H : Hp) : Prop := ∀ x ∈ lamDefs, ∀ c P, PySem.W.tabIn K x = some (c, P) → H P = some (.lam (lamQ x))
theorem TabK.mono {K : PySem.W.Frag} {H H' : Hp} (s : Same H H') (h : TabK K H) : TabK K H' := fun x hx c P e => s _ _ (h x hx c P e)
def SRep (K : PySem.W.Frag) (H : Hp) (σ : St) (δ : DS) : Prop := σ.length = δ.length ∧ TabK K H ∧ ∀ (i : Nat) (d : D), δ[i]? = some (some d) → ∃ v, σ[i]? = some (some v) ∧ Rep K H d v
theorem SRep.mono {K : PySem.W.Frag} {H H' : Hp} {σ : St} {δ : DS} (s : Same H H') (h : SRep K H σ δ) : SRep K H' σ δ :=
  ⟨h.1, h.2.1.mono s, fun i d e => let ⟨v, a, b⟩ := h.2.2 i d e; ⟨v, a, b.mono s⟩⟩
theorem SRep.set {K : PySem.W.Frag} {H : Hp} {σ : St} {δ : DS} {d : D} {v : V} (h : SRep K H σ δ) (q : Rep K H d v) (i : Nat) : SRep K H (σ.set i (some v)) (δ.set i (some d)) := by
  refine ⟨by rw [List.length_set, List.length_set]; exact h.1, h.2.1, fun j e hj => ?_⟩
  rw [List.getElem?_set] at hj ⊢
  by_cases hij : i = j
  · rw [if_pos hij] at hj ⊢
    subst hij
    by_cases hl : i < δ.length
    · rw [if_pos hl] at hj
      rw [if_pos (by rw [h.1]; exact hl)]
      cases hj
      exact ⟨v, rfl, q⟩
    · rw [if_neg hl] at hj; cases hj
  · rw [if_neg hij] at hj ⊢
    exact h.2.2 j e hj
theorem SRep.get {K : PySem.W.Frag} {H : Hp} {σ : St} {δ : DS} (h : SRep K H σ δ) {i : Nat} {d : D} (e : (δ[i]?).join = some d) : ∃ v, σ[i]? = some (some v) ∧ Rep K H d v := by
  refine h.2.2 i d ?_
  cases q : δ[i]? with
  | none => rw [q] at e; cases e
  | some o => rw [q] at e; exact congrArg some e
theorem same_new {H : Hp} {p : Addr} (h : H p = none) (o : HO) : Same H (upd H p o) := fun b u q => by rw [upd_ne (ne_of_none q h)]; exact q
def tD (K : PySem.W.Frag) (f : DS → Option D) : TE := fun σ H Q => ∃ δ d, SRep K H σ δ ∧ f δ = some d ∧ ∀ v H', Same H H' → Rep K H' d v → Q v H'
def tF (K : PySem.W.Frag) (f : DS → Option (List D)) : TE := fun σ H Q => ∃ δ ds, SRep K H σ δ ∧ f δ = some ds ∧ ∀ a xs H', H a = none → Same H H' → H' a = some (.lst xs) → Reps K H' ds xs → Q (.ref a) H'
def tT (K : PySem.W.Frag) (f : DS → Option Bool) : TT := fun σ H Q => ∃ δ b, SRep K H σ δ ∧ f δ = some b ∧ ∀ H', Same H H' → Q b H'
def tDA (K : PySem.W.Frag) (f : DS → Option (List D)) : TA := fun σ H Q => ∃ δ ds, SRep K H σ δ ∧ f δ = some ds ∧ ∀ vs H', Same H H' → Reps K H' ds vs → Q vs H'
theorem PE.imp {X : Cx} {e : Expr} {t t' : TE} (h : PE X e t) (i : ∀ σ H Q, t' σ H Q → t σ H Q) : PE X e t' := fun pins s σ H Q I q => h pins s σ H Q I (i σ H Q q)
theorem PT.imp {X : Cx} {e : Expr} {t t' : TT} (h : PT X e t) (i : ∀ σ H Q, t' σ H Q → t σ H Q) : PT X e t' := fun pins s σ H Q I q => h pins s σ H Q I (i σ H Q q)
theorem PW.imp {X : Cx} {e : Expr} {t t' : TT} (h : PW X e t) (i : ∀ σ H Q, t' σ H Q → t σ H Q) : PW X e t' := fun w pins s σ H Q I q => h w pins s σ H Q I (i σ H Q q)
theorem PA.imp {X : Cx} {e : List Expr} {t t' : TA} (h : PA X e t) (i : ∀ σ H Q, t' σ H Q → t σ H Q) : PA X e t' := fun p pins s σ H Q I q => h p pins s σ H Q I (i σ H Q q)
theorem PS.imp {X : Cx} {e : Stmt} {t t' : TS} (h : PS X e t) (i : ∀ E σ H, t' E σ H → t E σ H) : PS X e t' := fun pins s σ H E I q => h pins s σ H E I (i E σ H q)
theorem PSs.imp {X : Cx} {e : List Stmt} {t t' : TS} (h : PSs X e t) (i : ∀ E σ H, t' E σ H → t E σ H) : PSs X e t' := fun pins s σ H E I q => h pins s σ H E I (i E σ H q)
section
variable {X : Cx} {a b e : Expr} {es : List Expr} {pos p : Pos} {fa fb : DS → Option D}
theorem d_of_f {f : DS → Option (List D)} (h : PE X e (tF X.K f)) : PE X e (tD X.K fun δ => (f δ).map D.lst) := h.imp fun σ H Q ⟨δ, d, sr, ef, q⟩ => by
  try dsimp only at e
  try dsimp only at ef
  cases z : f δ with
  | none => rw [z] at ef; cases ef
  | some ds =>
    rw [z] at ef; cases ef
    exact ⟨δ, ds, sr, z, fun a xs H' _ s ha r => q _ H' s (rep_lst ha r)⟩
theorem d_var (i : Nat) {x : Str} (hN : X.N[i]? = some x := by rfl) (hv : Vis X.env.scope x := by first | exact Or.inl rfl | exact Or.inr (Or.inl rfl) | exact Or.inr (Or.inr rfl)) (hd : (x == ("__debug__" : Str)) = false := by decide)
    (hcd : (x == ("__classdict__" : Str)) = false := by decide) : PE X (.Name x pos) (tD X.K fun δ => (δ[i]?).join) := (pe_var hN hv hd hcd).imp fun σ H Q ⟨δ, d, sr, e, q⟩ => by
  obtain ⟨v, h1, h2⟩ := sr.get e
  exact ⟨v, h1, q v H (Same.refl H) h2⟩
theorem d_int {i : Int} {j : Nat} : PE X (.Constant (.int i) j pos) (tD X.K fun _ => some (.int i)) := pe_int.imp fun σ H Q ⟨δ, d, sr, e, q⟩ => by cases e; exact q _ H (Same.refl H) rep_int
theorem d_bl {b : Bool} {j : Nat} : PE X (.Constant (.bool b) j pos) (tD X.K fun _ => some (.bl b)) := pe_bl.imp fun σ H Q ⟨δ, d, sr, e, q⟩ => by cases e; exact q _ H (Same.refl H) rep_bl
theorem d_non {j : Nat} : PE X (.Constant .none j pos) (tD X.K fun _ => some .non) := pe_non.imp fun σ H Q ⟨δ, d, sr, e, q⟩ => by cases e; exact q _ H (Same.refl H) rep_non
def bind2 (fa fb : DS → Option D) (g : D → D → Option D) : DS → Option D := fun δ => (fa δ).bind fun x => (fb δ).bind fun y => g x y
theorem bind2_some {fa fb : DS → Option D} {g : D → D → Option D} {δ : DS} {d : D} (h : bind2 fa fb g δ = some d) : ∃ x y, fa δ = some x ∧ fb δ = some y ∧ g x y = some d := by
  unfold bind2 at h
  try dsimp only at e
  try dsimp only at ef
  cases ex : fa δ with
  | none => rw [ex] at h; cases h
  | some x =>
    rw [ex] at h
    cases ey : fb δ with
    | none => rw [ey] at h; cases h
    | some y => rw [ey] at h; exact ⟨x, y, rfl, rfl, h⟩
def Told2 (K : PySem.W.Frag) (r : R2) (g : D → D → Option D) : Prop := ∀ (H : Hp) (x y d : D) (vx vy : V) (Q : VK), Rep K H x vx → Rep K H y vy → g x y = some d → (∀ v H', Same H H' → Rep K H' d v → Q v H') → r vx vy H Q
theorem told2_op {r : R2} {g : D → D → Option D} (hr : Told2 X.K r g) : ∀ σ H Q, tD X.K (bind2 fa fb g) σ H Q → tOp r (tD X.K fa) (tD X.K fb) σ H Q := fun σ H Q ⟨δ, d, sr, e, q⟩ => by
  obtain ⟨x, y, ex, ey, eg⟩ := bind2_some e
  exact ⟨δ, x, sr, ex, fun vx H1 s1 rx => ⟨δ, y, sr.mono s1, ey, fun vy H2 s2 ry => hr H2 x y d vx vy Q (rx.mono s2) ry eg fun v H' s3 rv => q v H' (s1.trans (s2.trans s3)) rv⟩⟩
theorem d_op {op : Operator} {r : R2} {g : D → D → Option D} (ho : OpR X (binaryOp op) r) (hr : Told2 X.K r g) (ha : PE X a (tD X.K fa)) (hb : PE X b (tD X.K fb)) : PE X (.BinOp a op b pos) (tD X.K (bind2 fa fb g)) :=
  (pe_op ho ha hb).imp (told2_op hr)
theorem d_cmp {op : CmpOp} {r : R2} {g : D → D → Option D} (ho : OpR X (compareOp op) r) (hr : Told2 X.K r g) (ha : PE X a (tD X.K fa)) (hb : PE X b (tD X.K fb)) (hm : behindInMarks op b = false) : PE X (.Compare a [op] [b] pos) (tD X.K (bind2 fa fb g)) :=
  (pe_cmpR ho ha hb hm).imp (told2_op hr)
def asB : Option D → Option Bool
  | some (.bl b) => some b
  | _ => none
theorem asB_some {o : Option D} {b : Bool} (h : asB o = some b) : o = some (.bl b) := by
  unfold asB at h
  split at h
  · cases h; rfl
  · cases h
theorem t_cmp {op : CmpOp} {r : R2} {g : D → D → Option D} (ho : OpR X (compareOp op) r) (hr : Told2 X.K r g) (ha : PE X a (tD X.K fa)) (hb : PE X b (tD X.K fb)) (hm : behindInMarks op b = false) : PT X (.Compare a [op] [b] pos) (tT X.K fun δ => asB (bind2 fa fb g δ)) :=
  (pt_cmpR ho ha hb hm).imp fun σ H Q ⟨δ, c, sr, e, q⟩ => told2_op hr σ H _ ⟨δ, .bl c, sr, asB_some e, fun v H' s rv => ⟨c, rv.bl_of, q H' s⟩⟩
theorem d_un {op : UnaryOp} {r : V → Hp → VK → Prop} {g : D → Option D} (ho : UnR X (unaryOp op) r) (hr : ∀ (H : Hp) (x d : D) (vx : V) (Q : VK), Rep X.K H x vx → g x = some d → (∀ v H', Same H H' → Rep X.K H' d v → Q v H') → r vx H Q)
    (ha : PE X a (tD X.K fa)) : PE X (.UnaryOp op a pos) (tD X.K fun δ => (fa δ).bind g) := (pe_un ho ha).imp fun σ H Q ⟨δ, d, sr, e, q⟩ => by
  try dsimp only at e
  try dsimp only at ef
  cases ex : fa δ with
  | none => rw [ex] at e; cases e
  | some x =>
    rw [ex] at e
    exact ⟨δ, x, sr, ex, fun vx H1 s1 rx => hr H1 x d vx Q rx e fun v H' s2 rv => q v H' (s1.trans s2) rv⟩
def okM (i : Int) : Bool := decide (i.natAbs.log2 < 60000000)
def okMul (i j : Int) : Bool := decide ((-(2 ^ 64) < i ∧ i < 2 ^ 64) ∨ (-(2 ^ 64) < j ∧ j < 2 ^ 64)) || (okM i && okM j)
theorem okM_bits {i : Int} (h : okM i = true) : Builtin.Int.intBits i ≤ 60000001 := by
  have h' : i.natAbs.log2 < 60000000 := of_decide_eq_true h
  unfold Builtin.Int.intBits
  split
  · exact Nat.zero_le _
  · omega
theorem okMul_ok {i j : Int} (h : okMul i j = true) : IntMulOk i j := by
  unfold okMul at h
  rcases Bool.or_eq_true_iff.mp h with h | h
  · exact CMul.ok (show (-(2 ^ 64) < i ∧ i < 2 ^ 64) ∨ (-(2 ^ 64) < j ∧ j < 2 ^ 64) from of_decide_eq_true h)
  · have h := Bool.and_eq_true_iff.mp h
    exact IntMulOk.of_le (okM_bits h.1) (okM_bits h.2) (by omega)
theorem op_mulR : OpR X (binaryOp .Mult) (rI (fun i j => okMul i j = true) fun i j => .int (i * j)) := opI fun _ _ _ _ _ _ _ hc q => mul_int q (okMul_ok hc)
def fit (n : Nat) : Bool := decide (n ≤ 1000)
theorem fit_le {n : Nat} (h : fit n = true) : n ≤ sizeLine := Nat.le_of_lt (small1000 (of_decide_eq_true h))
def addD : D → D → Option D
  | .int i, .int j => some (.int (i + j))
  | .tup xs, .tup ys => if fit (xs.length + ys.length) = true then some (.tup (xs ++ ys)) else none
  | .lst xs, .lst ys => if fit (xs.length + ys.length) = true then some (.lst (xs ++ ys)) else none
  | _, _ => none
def subD : D → D → Option D
  | .int i, .int j => some (.int (i - j))
  | _, _ => none
def mulD : D → D → Option D
  | .int i, .int j => if okMul i j = true then some (.int (i * j)) else none
  | .lst xs, .int k => if fit k.natAbs = true ∧ fit (xs.length * k.toNat) = true then some (.lst (List.replicate k.toNat xs).flatten) else none
  | .tup xs, .int k => if xs.isEmpty = false ∧ fit k.natAbs = true ∧ fit (xs.length * k.toNat) = true then some (.tup (List.replicate k.toNat xs).flatten) else none
  | _, _ => none
def modD : D → D → Option D
  | .int i, .int j => if j = 0 then none else some (.int (i.fmod j))
  | _, _ => none
def ltD : D → D → Option D
  | .int i, .int j => some (.bl (decide (i < j)))
  | _, _ => none
def leD : D → D → Option D
  | .int i, .int j => some (.bl (decide (i ≤ j)))
  | _, _ => none
def gtD : D → D → Option D
  | .int i, .int j => some (.bl (decide (j < i)))
  | _, _ => none
def negD : D → Option D
  | .int i => some (.int (-i))
  | _ => none
theorem told_int2 {g : D → D → Option D} {k : Int → Int → V} {kd : Int → Int → D} (hg : ∀ x y d, g x y = some d → ∃ i j, x = .int i ∧ y = .int j ∧ d = kd i j) (hk : ∀ H i j, Rep X.K H (kd i j) (k i j)) : Told2 X.K (rI0 k) g := fun H x y d vx vy Q rx ry e q => by
  obtain ⟨i, j, rfl, rfl, rfl⟩ := hg x y d e
  exact ⟨i, j, rx.int_of, ry.int_of, q _ H (Same.refl H) (hk H i j)⟩
theorem int2_of {g : D → D → Option D} {kd : Int → Int → D} (h1 : ∀ i j, g (.int i) (.int j) = some (kd i j)) (h2 : ∀ x y, (¬ ∃ i j, x = .int i ∧ y = .int j) → g x y = none) (x y d : D) (e : g x y = some d) : ∃ i j, x = .int i ∧ y = .int j ∧ d = kd i j := by
  by_cases h : ∃ i j, x = .int i ∧ y = .int j
  · obtain ⟨i, j, rfl, rfl⟩ := h
    rw [h1] at e; cases e
    exact ⟨i, j, rfl, rfl, rfl⟩
  · rw [h2 x y h] at e; cases e
theorem d_sub (ha : PE X a (tD X.K fa)) (hb : PE X b (tD X.K fb)) : PE X (.BinOp a .Sub b pos) (tD X.K (bind2 fa fb subD)) :=
  d_op op_sub (told_int2 (kd := fun i j => .int (i - j)) (int2_of (fun _ _ => rfl) fun x y h => by unfold subD; split <;> first | rfl | exact absurd ⟨_, _, rfl, rfl⟩ h) fun _ _ _ => rep_int) ha hb
theorem t_lt (ha : PE X a (tD X.K fa)) (hb : PE X b (tD X.K fb)) : PT X (.Compare a [.Lt] [b] pos) (tT X.K fun δ => asB (bind2 fa fb ltD δ)) :=
  t_cmp op_lt (told_int2 (kd := fun i j => .bl (decide (i < j))) (int2_of (fun _ _ => rfl) fun x y h => by unfold ltD; split <;> first | rfl | exact absurd ⟨_, _, rfl, rfl⟩ h) fun _ _ _ => rep_bl) ha hb (nomark _)
theorem t_le (ha : PE X a (tD X.K fa)) (hb : PE X b (tD X.K fb)) : PT X (.Compare a [.LtE] [b] pos) (tT X.K fun δ => asB (bind2 fa fb leD δ)) :=
  t_cmp op_le (told_int2 (kd := fun i j => .bl (decide (i ≤ j))) (int2_of (fun _ _ => rfl) fun x y h => by unfold leD; split <;> first | rfl | exact absurd ⟨_, _, rfl, rfl⟩ h) fun _ _ _ => rep_bl) ha hb (nomark _)
theorem t_gt (ha : PE X a (tD X.K fa)) (hb : PE X b (tD X.K fb)) : PT X (.Compare a [.Gt] [b] pos) (tT X.K fun δ => asB (bind2 fa fb gtD δ)) :=
  t_cmp op_gt (told_int2 (kd := fun i j => .bl (decide (j < i))) (int2_of (fun _ _ => rfl) fun x y h => by unfold gtD; split <;> first | rfl | exact absurd ⟨_, _, rfl, rfl⟩ h) fun _ _ _ => rep_bl) ha hb (nomark _)
theorem d_neg (ha : PE X a (tD X.K fa)) : PE X (.UnaryOp .USub a pos) (tD X.K fun δ => (fa δ).bind negD) :=
  d_un un_neg (fun H x d vx Q rx e q => by
    unfold negD at e
    split at e
    · cases e; exact ⟨_, rx.int_of, q _ H (Same.refl H) rep_int⟩
    · cases e) ha
theorem d_mod (ha : PE X a (tD X.K fa)) (hb : PE X b (tD X.K fb)) : PE X (.BinOp a .Mod b pos) (tD X.K (bind2 fa fb modD)) :=
  d_op op_modN (fun H x y d vx vy Q rx ry e q => by
    unfold modD at e
    split at e
    · split at e
      · cases e
      · cases e; exact ⟨_, _, rx.int_of, ry.int_of, ‹_›, q _ H (Same.refl H) rep_int⟩
    · cases e) ha hb
theorem d_mul (ha : PE X a (tD X.K fa)) (hb : PE X b (tD X.K fb)) : PE X (.BinOp a .Mult b pos) (tD X.K (bind2 fa fb mulD)) :=
  d_op (op_mulR.or (op_rep.or op_repT)) (fun H x y d vx vy Q rx ry e q => by
    unfold mulD at e
    split at e
    · split at e
      · cases e; exact .inl ⟨_, _, rx.int_of, ry.int_of, ‹_›, q _ H (Same.refl H) rep_int⟩
      · cases e
    · rename_i xs k
      split at e
      · rename_i hk
        cases e
        obtain ⟨l, vs, e1, e2, e3⟩ := rx.lst_of
        have hl := e3.length
        have hk1 : k.natAbs ≤ 1000 := of_decide_eq_true hk.1
        have rr : ∀ n, Reps X.K H (List.replicate n xs).flatten (List.replicate n vs).flatten := fun n => by
          induction n with
          | zero => exact reps_nil
          | succ n ih => rw [List.replicate_succ, List.replicate_succ, List.flatten_cons, List.flatten_cons]; exact e3.append ih
        exact .inr (.inl ⟨l, k, vs, e1, ry.int_of, e2, by omega, by omega, by rw [hl]; exact fit_le hk.2, fun p hp => q _ _ (same_new hp _) (rep_lst upd_same ((rr _).mono (same_new hp _)))⟩)
      · cases e
    · rename_i xs k
      split at e
      · rename_i hk
        cases e
        obtain ⟨l, vs, e1, e2, e3⟩ := rx.tup_of
        have hl := e3.length
        have hk1 : k.natAbs ≤ 1000 := of_decide_eq_true hk.2.1
        have rr : ∀ n, Reps X.K H (List.replicate n xs).flatten (List.replicate n vs).flatten := fun n => by
          induction n with
          | zero => exact reps_nil
          | succ n ih => rw [List.replicate_succ, List.replicate_succ, List.flatten_cons, List.flatten_cons]; exact e3.append ih
        refine .inr (.inr ⟨l, k, vs, e1, ry.int_of, SqT.of e2, fun z => ?_, by omega, by omega, by rw [hl]; exact fit_le hk.2.2, fun ek => ?_, fun _ p hp => q _ _ (same_new hp _) (rep_tup upd_same ((rr _).mono (same_new hp _)))⟩)
        · subst z
          have := hk.1
          cases xs with
          | nil => simp at this
          | cons _ _ => simp at hl
        · subst ek
          exact q _ H (Same.refl H) (rep_tup e2 (by simpa using rr 1))
      · cases e
    · cases e) ha hb
end
end L2
set_option Elab.async false
set_option linter.all false
set_option maxRecDepth 100000
namespace L2
open PySem PySem.Spec PyProof.Rows
section
variable {prog : Program} {w : World} {A : Around} {E : Value → Shared → Prop} {s : Shared}
theorem cat_tup0 {t b : Addr} {vs ws : List Value} {Q : Value → Shared → Prop} (ht : IsTup s.heap t vs.toArray) (hb : IsTup s.heap b ws.toArray) (hv : vs = [])
    (h1 : Q (.ref b) s) : wpAny (model prog w) A (binaryOp .Add (.ref t) (.ref b)) Q E s := by
  obtain ⟨⟨cls, dd, data, sl⟩, ho, hc, n, hd⟩ := id ht
  obtain ⟨⟨cls2, dd2, data2, sl2⟩, ho2, hc2, n2, hd2⟩ := id hb
  simp only at hc hd hc2 hd2
  subst hc hd hc2 hd2
  exact concat_meets ⟨_, ho, rfl⟩ ⟨_, ho2, rfl⟩ noFill_tuple_add seq_tuple_add PySem.F.slot_tuple_add PySem.F.entry_tuple_add (PySem.F.args_tuple_add_2 _ _)
      (tuple_addW0 t b vs.toArray ws.toArray n n2 dd dd2 sl sl2 (by simp [hv])) ⟨ho, ho2, h1⟩
theorem getItem_tuple_whole {t sl : Addr} {items : Array Value} {vl vu : Value} {lo hi : Option Int} {Q : Value → Shared → Prop} (ht : IsTup s.heap t items) (hs : s.heap.IsSliceOf sl vl vu .none) (pl : IsPart vl lo) (pu : IsPart vu hi)
    (hw : HT.sIx items.size 0 lo = 0 ∧ HT.sIx items.size items.size hi = items.size) (h : Q (.ref t) s) : wpAny (model prog w) A (getItem (.ref t) (.ref sl)) Q E s := by
  obtain ⟨os, hos, hcs, hds⟩ := id hs
  have hTs : s.TypeIs (.ref sl) "slice" := ⟨os, hos, hcs⟩
  unfold getItem
  try with_reducible refine wpAny_holding ?_
  first | refine wpAny_bind (wpAny_pure ?_) | skip
  refine wpAny_bind (wpAny_sequenceKey ht.typeIs (by decide) ?_)
  refine wpAny_bind (wpAny_callSpecial?_slot (name := Str.ofString "__getitem__") ht.typeIs PyProof.Rows.slot_tuple_getitem
    (wpAny_call_entry PyProof.Rows.slot_tuple_getitem ht.typeIs entry_tuple_getitem ?_ (args_tuple_getitem _ _)))
  show wpAny _ _ (Builtin.Tuple.tupleItemsOf (.ref t) >>= _) _ _ s
  refine wpAny_bind (tupleItemsOf_ ht ?_)
  refine wpAny_bind (wpAny_typeOf hTs ?_)
  rw [if_pos (by decide)]
  refine wpAny_bind (HT.sliceApplied_gen hs pl pu ?_)
  have hyes : (((HT.sIx items.size 0 lo : Nat) : Int) == 0 && (1 : Int) == 1 && (HT.sIx items.size items.size hi - HT.sIx items.size 0 lo) == items.size) = true := by
    rw [hw.1, hw.2]; simp
  show wpAny _ _ (if (((HT.sIx items.size 0 lo : Nat) : Int) == 0 && (1 : Int) == 1 && (HT.sIx items.size items.size hi - HT.sIx items.size 0 lo) == items.size) = true then _ else _) _ _ s
  rw [if_pos hyes]
  refine wpAny_bind ?_
  unfold Builtin.Tuple.tupleIsExact
  refine wpAny_bind (wpAny_typeOf ht.typeIs (wpAny_pure ?_))
  rw [if_pos (by decide)]
  exact wpAny_bind (wpAny_rule (wpAny_bind (wpAny_pure (wpAny_pure ⟨_, rfl, wpAny_pure h⟩))))
end
section
variable {X : Cx}
def rCatT0 : R2 := fun x y H Q => ∃ a b xs ys, x = .ref a ∧ y = .ref b ∧ H a = some (.tup xs) ∧ H b = some (.tup ys) ∧ xs = [] ∧ Q (.ref b) H
theorem op_catT0 : OpR X (binaryOp .Add) rCatT0 := by
  intro pins s σ H x y v u Q I rx ry h
  obtain ⟨a, b, xs, ys, rfl, rfl, ha, hb, hx, q⟩ := h
  cases rx
  cases ry
  obtain ⟨its, r1, p1, _⟩ := I.tuple (SqT.of ha)
  obtain ⟨its2, r2, p2, _⟩ := I.tuple (SqT.of hb)
  exact cat_tup0 p1 p2 (r1.nil_iff.mpr hx) ⟨.ref b, H, I, rfl, q⟩
def rSlT0 : V → Option Int → Option Int → Hp → VK → Prop := fun x lo hi H Q => ∃ a xs, x = .ref a ∧ H a = some (.tup xs) ∧
  (HT.sIx xs.length 0 lo = 0 ∧ HT.sIx xs.length xs.length hi = xs.length) ∧ Q (.ref a) H
theorem sl_tup0 : SlR X rSlT0 := by
  intro pins s σ H x v vl vu lo hi sl Q I rx hs pl pu h
  obtain ⟨a, xs, rfl, hx, hw, q⟩ := h
  cases rx
  obtain ⟨its, r, ht, hz⟩ := I.tuple (SqT.of hx)
  have hlen : its.toArray.size = xs.length := by rw [List.size_toArray]; exact r.length.symm
  exact ⟨"tuple", _, PyProof.Rows.slot_tuple_getitem.lookup, ht.typeIs, getItem_tuple_whole ht hs pl pu (by rw [hlen]; exact hw) ⟨.ref a, H, I, rfl, q⟩⟩
variable {a b e : Expr} {es : List Expr} {pos p : Pos} {fa fb : DS → Option D}
theorem d_add (ha : PE X a (tD X.K fa)) (hb : PE X b (tD X.K fb)) : PE X (.BinOp a .Add b pos) (tD X.K (bind2 fa fb addD)) :=
  d_op (op_add.or (op_catT0.or (op_catT.or op_cat))) (fun H x y d vx vy Q rx ry e q => by
    unfold addD at e
    split at e
    · cases e; exact .inl ⟨_, _, rx.int_of, ry.int_of, q _ H (Same.refl H) rep_int⟩
    · rename_i xs ys
      split at e
      · rename_i hf
        cases e
        obtain ⟨a, us, e1, e2, e3⟩ := rx.tup_of
        obtain ⟨b, ws, g1, g2, g3⟩ := ry.tup_of
        by_cases hx : us = []
        · subst hx
          have : xs = [] := by have := e3.length; cases xs with | nil => rfl | cons _ _ => simp at this
          subst this
          exact .inr (.inl ⟨a, b, [], ws, e1, g1, e2, g2, rfl, q _ H (Same.refl H) (rep_tup g2 g3)⟩)
        · refine .inr (.inr (.inl ⟨a, b, us, ws, e1, g1, SqT.of e2, SqT.of g2, hx, by rw [e3.length, g3.length]; exact fit_le hf, fun hw => ?_, fun hw p hp => ?_⟩))
          · subst hw
            have : ys = [] := by have := g3.length; cases ys with | nil => rfl | cons _ _ => simp at this
            subst this
            exact q _ H (Same.refl H) (rep_tup e2 (by rw [List.append_nil]; exact e3))
          · exact q _ _ (same_new hp _) (rep_tup upd_same ((e3.append g3).mono (same_new hp _)))
      · cases e
    · rename_i xs ys
      split at e
      · rename_i hf
        cases e
        obtain ⟨a, us, e1, e2, e3⟩ := rx.lst_of
        obtain ⟨b, ws, g1, g2, g3⟩ := ry.lst_of
        exact .inr (.inr (.inr ⟨a, b, us, ws, e1, g1, e2, g2, by rw [e3.length, g3.length]; exact fit_le hf, fun p hp => q _ _ (same_new hp _) (rep_lst upd_same ((e3.append g3).mono (same_new hp _)))⟩))
      · cases e
    · cases e) ha hb
def CDivR (i j : Int) : Prop := j ≠ 0
theorem op_fdivR {k : Nat} {env : Env} {l : List Env} (hr : Room k X.A) (ht : X.prog.given.tree = none) (hst : X.stack = env :: l) (hgen : env.scope.isGenerator = false) (hco : env.scope.isCoroutine = false) (hb : env.builtins = builtinsNs) (hg : env.globals = mainGlobals) :
    OpR X (binaryOp .FloorDiv) (rI CDivR fun i j => .int (i.fdiv j)) := by
  intro pins s σ H x y v u Q I rx ry h
  obtain ⟨i, j, rfl, rfl, hc, q⟩ := h
  obtain ⟨t, rfl⟩ := rx
  obtain ⟨t', rfl⟩ := ry
  have seer : s.heap.NoSeer := I.ok.mod.seer.keeps I.bk
  have hs : SeerAt (model X.prog X.w) X.A s.heap := SeerAt.of seer ht (I.ok.frames.trans (congrArg some hst)) hgen hco hb hg
  exact floordiv_int hc ⟨.int (i.fdiv j), H, I.tok _, ⟨_, rfl⟩, q⟩ (.inr (PylongRoom.of I.nolimit (by have := hr.dp; show _ + 100 < _; omega) hs))
def fdivD : D → D → Option D
  | .int i, .int j => if j ≠ 0 then some (.int (i.fdiv j)) else none
  | _, _ => none
theorem d_fdiv {k : Nat} {env : Env} {l : List Env} (hr : Room k X.A) (ht : X.prog.given.tree = none) (ha : PE X a (tD X.K fa)) (hb : PE X b (tD X.K fb)) (hst : X.stack = env :: l := by rfl) (hgen : env.scope.isGenerator = false := by rfl) (hco : env.scope.isCoroutine = false := by rfl) (hbn : env.builtins = builtinsNs := by rfl) (hg : env.globals = mainGlobals := by rfl) : PE X (.BinOp a .FloorDiv b pos) (tD X.K (bind2 fa fb fdivD)) :=
  d_op (op_fdivR hr ht hst hgen hco hbn hg) (fun H x y d vx vy Q rx ry e q => by
    unfold fdivD at e
    split at e
    · split at e
      · cases e; exact ⟨_, _, rx.int_of, ry.int_of, ‹_›, q _ H (Same.refl H) rep_int⟩
      · cases e
    · cases e) ha hb
def ceqL (f : D → D → Option Bool) : List D → List D → Option Bool
  | [], [] => some true
  | [], _ :: _ => some false
  | _ :: _, [] => some false
  | x :: xs, y :: ys => (f x y).bind fun a => (ceqL f xs ys).map fun b => a && b
def ceqN : Nat → D → D → Option Bool
  | 0, _, _ => none
  | _ + 1, .int i, .int j => some (i == j)
  | _ + 1, .bl i, .bl j => some (i == j)
  | _ + 1, .str i, .str j => some (i == j)
  | _ + 1, .non, .non => some true
  | n + 1, .tup xs, .tup ys => ceqL (ceqN n) xs ys
  | n + 1, .lst xs, .lst ys => ceqL (ceqN n) xs ys
  | _ + 1, _, _ => none
def ceqAt (f : D → D → Option Bool) (xs ys : List D) (j : Nat) : Bool := match xs[j]?, ys[j]? with | some x, some y => (f x y).getD false | _, _ => false
theorem ceqL_len {f : D → D → Option Bool} : ∀ {xs ys : List D} {k : Bool}, ceqL f xs ys = some k → k = (((List.range (min xs.length ys.length)).all (ceqAt f xs ys)) && (xs.length == ys.length))
  | [], [], k, h => by simp [ceqL] at h; subst h; rfl
  | [], _ :: _, k, h => by simp [ceqL] at h; subst h; simp
  | _ :: _, [], k, h => by simp [ceqL] at h; subst h; simp
  | x :: xs, y :: ys, k, h => by
    unfold ceqL at h
    cases ha : f x y with
    | none => rw [ha] at h; cases h
    | some a =>
      rw [ha] at h
      cases hb : ceqL f xs ys with
      | none => rw [hb] at h; cases h
      | some b =>
        rw [hb] at h
        have h' : (a && b) = k := by simpa using h
        have ih := ceqL_len hb
        subst h'
        rw [ih]
        have hm : min (x :: xs).length (y :: ys).length = min xs.length ys.length + 1 := by simp only [List.length_cons]; omega
        rw [hm, List.range_succ_eq_map]
        simp only [List.all_cons, List.all_map, List.length_cons]
        have e0 : ceqAt f (x :: xs) (y :: ys) 0 = a := by simp [ceqAt, ha]
        have e1 : (ceqAt f (x :: xs) (y :: ys) ∘ Nat.succ) = ceqAt f xs ys := by funext j; simp [ceqAt]
        rw [e0, e1, Bool.and_assoc]
        simp
theorem ceqL_get {f : D → D → Option Bool} : ∀ {xs ys : List D} {k : Bool}, ceqL f xs ys = some k → ∀ (j : Nat) (x y : D), xs[j]? = some x → ys[j]? = some y → ∃ b, f x y = some b
  | [], _, k, h, j, x, y, h1, h2 => by simp at h1
  | _ :: _, [], k, h, j, x, y, h1, h2 => by simp at h2
  | x' :: xs, y' :: ys, k, h, j, x, y, h1, h2 => by
    unfold ceqL at h
    cases ha : f x' y' with
    | none => rw [ha] at h; cases h
    | some a =>
      rw [ha] at h
      cases hb : ceqL f xs ys with
      | none => rw [hb] at h; cases h
      | some b =>
        cases j with
        | zero => simp at h1 h2; subst h1 h2; exact ⟨a, ha⟩
        | succ j => exact ceqL_get hb j x y (by simpa using h1) (by simpa using h2)
theorem ceqL_self {f : D → D → Option Bool} : ∀ {xs : List D} {ys : List D} {k : Bool}, ceqL f xs ys = some k → xs.length = ys.length → (∀ (j : Nat) (x y : D) (b : Bool), xs[j]? = some x → ys[j]? = some y → f x y = some b → b = true) → k = true
  | [], [], k, h, _, _ => by cases h; rfl
  | [], _ :: _, k, h, hl, _ => by simp at hl
  | _ :: _, [], k, h, hl, _ => by simp at hl
  | x :: xs, y :: ys, k, h, hl, hj => by
    unfold ceqL at h
    cases ha : f x y with
    | none => rw [ha] at h; cases h
    | some a =>
      rw [ha] at h
      cases hb : ceqL f xs ys with
      | none => rw [hb] at h; cases h
      | some b =>
        rw [hb] at h
        have h' : (a && b) = k := by simpa using h
        have e1 := hj 0 x y a rfl rfl ha
        have e2 := ceqL_self hb (by simpa using hl) fun j x' y' b' h1 h2 h3 => hj (j + 1) x' y' b' (by simpa using h1) (by simpa using h2) h3
        rw [← h', e1, e2]; rfl
theorem ceqN_self {K : PySem.W.Frag} {H : Hp} : ∀ (n : Nat) {d e : D} {v : V} {k : Bool}, Rep K H d v → Rep K H e v → ceqN n d e = some k → k = true
  | 0, _, _, _, _, _, _, h => by simp [ceqN] at h
  | n + 1, d, e, v, k, r1, r2, h => by
    unfold ceqN at h
    split at h
    · cases h
    · have := r1.int_of; subst this; have := r2.int_of; injection this with this; subst this; simpa using h.symm
    · have := r1.bl_of; subst this; have := r2.bl_of; injection this with this; subst this; simpa using h.symm
    · have := r1.str_of; subst this; have := r2.str_of; injection this with this; subst this; simpa using h.symm
    · simpa using h.symm
    · rename_i m xs ys hm
      cases hm
      obtain ⟨a, us, e1, e2, e3⟩ := r1.tup_of
      obtain ⟨b, ws, g1, g2, g3⟩ := r2.tup_of
      subst e1; injection g1 with g1; subst g1
      rw [e2] at g2; cases g2
      exact ceqL_self h (by rw [← e3.length, ← g3.length]) fun j x y b' h1 h2 h3 => by
        obtain ⟨v1, z1, z2⟩ := e3.get h1
        obtain ⟨v2, y1, y2⟩ := g3.get h2
        rw [z1] at y1; cases y1
        exact ceqN_self n z2 y2 h3
    · rename_i m xs ys hm
      cases hm
      obtain ⟨a, us, e1, e2, e3⟩ := r1.lst_of
      obtain ⟨b, ws, g1, g2, g3⟩ := r2.lst_of
      subst e1; injection g1 with g1; subst g1
      rw [e2] at g2; cases g2
      exact ceqL_self h (by rw [← e3.length, ← g3.length]) fun j x y b' h1 h2 h3 => by
        obtain ⟨v1, z1, z2⟩ := e3.get h1
        obtain ⟨v2, y1, y2⟩ := g3.get h2
        rw [z1] at y1; cases y1
        exact ceqN_self n z2 y2 h3
    · cases h
theorem vals_at {xs : List V} {its : List Value} (r : Vals xs its) {j : Nat} (h : j < its.toArray.size) : ∃ x, xs[j]? = some x ∧ RelV x its.toArray[j] := by
  have hl := r.length
  have hj : j < xs.length := by simpa [hl] using h
  obtain ⟨u, h1, h2⟩ := r.get (i := j) (x := xs[j]) (List.getElem?_eq_getElem hj)
  refine ⟨xs[j], List.getElem?_eq_getElem hj, ?_⟩
  have hj' : j < its.length := by simpa using h
  rw [List.getElem?_eq_getElem hj'] at h1
  cases h1
  simpa using h2
theorem eqAt_D {pins : List (Addr × Obj)} {σ : St} {H : Hp} {s : Shared} (I : Inv X pins σ H s) : ∀ (n : Nat) (A : Around) {d e : D} {x y : V} {v u : Value} {k : Bool}, A.units + n < cLine → Rep X.K H d x → Rep X.K H e y → RelV x v → RelV y u → ceqN n d e = some k → SeqAt.EqAt A s v u k
  | 0, _, _, _, _, _, _, _, _, _, _, _, _, _, h => by simp [ceqN] at h
  | n + 1, A, d, e, x, y, v, u, k, hu, r1, r2, rx, ry, h => by
    have whole := h
    unfold ceqN at h
    split at h
    · cases h
    · have z1 := r1.int_of; subst z1; have z2 := r2.int_of; subst z2
      obtain ⟨t, rfl⟩ := rx; obtain ⟨t', rfl⟩ := ry; cases h
      exact SeqAt.EqAt.int_int _ _ _ _
    · have z1 := r1.bl_of; subst z1; have z2 := r2.bl_of; subst z2
      cases rx; cases ry; cases h
      exact SeqAt.EqAt.bool_bool _ _
    · have z1 := r1.str_of; subst z1; have z2 := r2.str_of; subst z2
      obtain ⟨t, rfl⟩ := rx; obtain ⟨t', rfl⟩ := ry; cases h
      exact SeqAt.EqAt.str_str _ _ _ _
    · have z1 := r1.non_of; subst z1; have z2 := r2.non_of; subst z2
      cases rx; cases ry; cases h
      exact SeqAt.EqAt.same _
    · rename_i m xs ys hm
      cases hm
      obtain ⟨a, us, e1, e2, e3⟩ := r1.tup_of
      obtain ⟨b, ws, g1, g2, g3⟩ := r2.tup_of
      subst e1 g1
      cases rx; cases ry
      by_cases hab : a = b
      · subst hab
        rw [ceqN_self _ r1 r2 whole]
        exact SeqAt.EqAt.same _
      · refine SeqAt.EqAt.of_refs hab ?_
        obtain ⟨its, q1, p1, _⟩ := I.tuple (SqT.of e2)
        obtain ⟨its2, q2, p2, _⟩ := I.tuple (SqT.of g2)
        have l1 : its.toArray.size = xs.length := by rw [List.size_toArray, ← q1.length, e3.length]
        have l2 : its2.toArray.size = ys.length := by rw [List.size_toArray, ← q2.length, g3.length]
        have key := ceqL_len h
        have R := SeqAt.RcAt.tuples (A := A) (s := s) (e := ceqAt (ceqN n) xs ys) p1 p2 (by omega) (fun j h1 h2 => ?_)
        · rw [l1, l2] at R
          rw [key]; exact R
        · obtain ⟨x1, y1, y2⟩ := vals_at q1 h1
          obtain ⟨x2, y3, y4⟩ := vals_at q2 h2
          obtain ⟨d1, w1, w2⟩ := e3.get' y1
          obtain ⟨d2, w3, w4⟩ := g3.get' y3
          obtain ⟨b', hb'⟩ := ceqL_get h j d1 d2 w1 w3
          have := eqAt_D I n A.in1 (by show A.units + 1 + n < cLine; omega) w2 w4 y2 y4 hb'
          simp only [ceqAt, w1, w3, hb', Option.getD_some]
          exact this
    · rename_i m xs ys hm
      cases hm
      obtain ⟨a, us, e1, e2, e3⟩ := r1.lst_of
      obtain ⟨b, ws, g1, g2, g3⟩ := r2.lst_of
      subst e1 g1
      cases rx; cases ry
      by_cases hab : a = b
      · subst hab
        rw [ceqN_self _ r1 r2 whole]
        exact SeqAt.EqAt.same _
      · refine SeqAt.EqAt.of_refs hab ?_
        obtain ⟨its, q1, p1, _⟩ := I.list (SqL.of e2)
        obtain ⟨its2, q2, p2, _⟩ := I.list (SqL.of g2)
        have l1 : its.toArray.size = xs.length := by rw [List.size_toArray, ← q1.length, e3.length]
        have l2 : its2.toArray.size = ys.length := by rw [List.size_toArray, ← q2.length, g3.length]
        have key := ceqL_len h
        by_cases hsz : its.toArray.size = its2.toArray.size
        · have R := SeqAt.RcAt.lists (A := A) (s := s) (e := ceqAt (ceqN n) xs ys) p1.isList p2.isList hsz (by omega) (fun j h1 h2 => ?_)
          · have hxy : xs.length = ys.length := by omega
            rw [l1] at R
            rw [key, hxy]
            rw [hxy] at R
            simpa using R
          · obtain ⟨x1, y1, y2⟩ := vals_at q1 h1
            obtain ⟨x2, y3, y4⟩ := vals_at q2 h2
            obtain ⟨d1, w1, w2⟩ := e3.get' y1
            obtain ⟨d2, w3, w4⟩ := g3.get' y3
            obtain ⟨b', hb'⟩ := ceqL_get h j d1 d2 w1 w3
            have := eqAt_D I n A.in1 (by show A.units + 1 + n < cLine; omega) w2 w4 y2 y4 hb'
            simp only [ceqAt, w1, w3, hb', Option.getD_some]
            exact this
        · have hne : (xs.length == ys.length) = false := by rw [beq_eq_false_iff_ne]; omega
          rw [key, hne, Bool.and_false]
          exact SeqAt.RcAt.lists_lengths p1.isList p2.isList (by simpa using hsz) (by omega)
    · cases h
end
end L2
set_option Elab.async false
set_option linter.all false
set_option maxRecDepth 100000
namespace L2
open PySem PySem.Spec PyProof.Rows
section
variable {X : Cx} {a b e : Expr} {es : List Expr} {pos p : Pos} {fa fb : DS → Option D}
theorem rcAt_D {pins : List (Addr × Obj)} {σ : St} {H : Hp} {s : Shared} (I : Inv X pins σ H s) (n : Nat) (A : Around) {d e : D} {x y : V} {v u : Value} {k : Bool} (hu : A.units + n < cLine) (r1 : Rep X.K H d x) (r2 : Rep X.K H e y) (rx : RelV x v) (ry : RelV y u)
    (h : ceqN n d e = some k) : SeqAt.RcAt A s v u k ∧ SeqAt.RcNeAt A s v u (!k) := by
  cases n with
  | zero => simp [ceqN] at h
  | succ n =>
    unfold ceqN at h
    split at h
    · cases h
    · have z1 := r1.int_of; subst z1; have z2 := r2.int_of; subst z2
      obtain ⟨t, rfl⟩ := rx; obtain ⟨t', rfl⟩ := ry; cases h
      exact ⟨SeqAt.RcAt.int_int _ _ _ _, SeqAt.RcNeAt.int_int _ _ _ _⟩
    · have z1 := r1.bl_of; subst z1; have z2 := r2.bl_of; subst z2
      cases rx; cases ry; cases h
      exact ⟨SeqAt.RcAt.bool_bool _ _, SeqAt.RcNeAt.bool_bool _ _⟩
    · have z1 := r1.str_of; subst z1; have z2 := r2.str_of; subst z2
      obtain ⟨t, rfl⟩ := rx; obtain ⟨t', rfl⟩ := ry; cases h
      exact ⟨SeqAt.RcAt.str_str _ _ _ _, SeqAt.RcNeAt.str_str _ _ _ _⟩
    · have z1 := r1.non_of; subst z1; have z2 := r2.non_of; subst z2
      cases rx; cases ry; cases h
      exact ⟨SeqAt.RcAt.none_none, SeqAt.RcNeAt.none_none⟩
    · rename_i m xs ys hm
      cases hm
      obtain ⟨a, us, e1, e2, e3⟩ := r1.tup_of
      obtain ⟨b, ws, g1, g2, g3⟩ := r2.tup_of
      subst e1 g1
      cases rx; cases ry
      obtain ⟨its, q1, p1, _⟩ := I.tuple (SqT.of e2)
      obtain ⟨its2, q2, p2, _⟩ := I.tuple (SqT.of g2)
      have l1 : its.toArray.size = xs.length := by rw [List.size_toArray, ← q1.length, e3.length]
      have l2 : its2.toArray.size = ys.length := by rw [List.size_toArray, ← q2.length, g3.length]
      have key := ceqL_len h
      have he : ∀ j (h1 : j < its.toArray.size) (h2 : j < its2.toArray.size), SeqAt.EqAt A.in1 s its.toArray[j] its2.toArray[j] (ceqAt (ceqN n) xs ys j) := fun j h1 h2 => by
        obtain ⟨x1, y1, y2⟩ := vals_at q1 h1
        obtain ⟨x2, y3, y4⟩ := vals_at q2 h2
        obtain ⟨d1, w1, w2⟩ := e3.get' y1
        obtain ⟨d2, w3, w4⟩ := g3.get' y3
        obtain ⟨b', hb'⟩ := ceqL_get h j d1 d2 w1 w3
        have := eqAt_D I n A.in1 (by show A.units + 1 + n < cLine; omega) w2 w4 y2 y4 hb'
        simp only [ceqAt, w1, w3, hb', Option.getD_some]
        exact this
      have R := SeqAt.RcAt.tuples (A := A) (s := s) p1 p2 (by omega) he
      have R2 := SeqAt.RcNeAt.tuples (A := A) (s := s) p1 p2 (by omega) he
      rw [l1, l2] at R R2
      rw [key]; exact ⟨R, R2⟩
    · rename_i m xs ys hm
      cases hm
      obtain ⟨a, us, e1, e2, e3⟩ := r1.lst_of
      obtain ⟨b, ws, g1, g2, g3⟩ := r2.lst_of
      subst e1 g1
      cases rx; cases ry
      obtain ⟨its, q1, p1, _⟩ := I.list (SqL.of e2)
      obtain ⟨its2, q2, p2, _⟩ := I.list (SqL.of g2)
      have l1 : its.toArray.size = xs.length := by rw [List.size_toArray, ← q1.length, e3.length]
      have l2 : its2.toArray.size = ys.length := by rw [List.size_toArray, ← q2.length, g3.length]
      have key := ceqL_len h
      have he : ∀ j (h1 : j < its.toArray.size) (h2 : j < its2.toArray.size), SeqAt.EqAt A.in1 s its.toArray[j] its2.toArray[j] (ceqAt (ceqN n) xs ys j) := fun j h1 h2 => by
        obtain ⟨x1, y1, y2⟩ := vals_at q1 h1
        obtain ⟨x2, y3, y4⟩ := vals_at q2 h2
        obtain ⟨d1, w1, w2⟩ := e3.get' y1
        obtain ⟨d2, w3, w4⟩ := g3.get' y3
        obtain ⟨b', hb'⟩ := ceqL_get h j d1 d2 w1 w3
        have := eqAt_D I n A.in1 (by show A.units + 1 + n < cLine; omega) w2 w4 y2 y4 hb'
        simp only [ceqAt, w1, w3, hb', Option.getD_some]
        exact this
      by_cases hsz : its.toArray.size = its2.toArray.size
      · have R := SeqAt.RcAt.lists (A := A) (s := s) p1.isList p2.isList hsz (by omega) he
        have R2 := SeqAt.RcNeAt.lists (A := A) (s := s) p1.isList p2.isList hsz (by omega) he
        have hxy : xs.length = ys.length := by omega
        rw [l1] at R R2
        rw [key, hxy]
        rw [hxy] at R R2
        exact ⟨by simpa using R, by simpa using R2⟩
      · have hne : (xs.length == ys.length) = false := by rw [beq_eq_false_iff_ne]; omega
        rw [key, hne, Bool.and_false]
        exact ⟨SeqAt.RcAt.lists_lengths p1.isList p2.isList (by simpa using hsz) (by omega), SeqAt.RcNeAt.lists_lengths p1.isList p2.isList (by simpa using hsz) (by omega)⟩
    · cases h
theorem op_eqD (hu : X.A.units + 64 < cLine) : OpR X (compareOp .Eq) (fun x y H Q => ∃ d e k, Rep X.K H d x ∧ Rep X.K H e y ∧ ceqN 9 d e = some k ∧ Q (.bl k) H) := by
  intro pins s σ H x y v u Q I rx ry h
  obtain ⟨d, e, k, r1, r2, h, q⟩ := h
  exact (rcAt_D I 9 X.A (by omega) r1 r2 rx ry h).1 X.prog X.w X.xe _ ⟨.bl k, H, I, rfl, q⟩
theorem op_neD (hu : X.A.units + 64 < cLine) : OpR X (compareOp .NotEq) (fun x y H Q => ∃ d e k, Rep X.K H d x ∧ Rep X.K H e y ∧ ceqN 9 d e = some k ∧ Q (.bl (!k)) H) := by
  intro pins s σ H x y v u Q I rx ry h
  obtain ⟨d, e, k, r1, r2, h, q⟩ := h
  exact (rcAt_D I 9 X.A (by omega) r1 r2 rx ry h).2 X.prog X.w X.xe _ ⟨.bl (!k), H, I, rfl, q⟩
def eqD (x y : D) : Option D := (ceqN 9 x y).map D.bl
def neD (x y : D) : Option D := (ceqN 9 x y).map fun k => D.bl (!k)
theorem told_eq : Told2 X.K (fun x y H Q => ∃ d e k, Rep X.K H d x ∧ Rep X.K H e y ∧ ceqN 9 d e = some k ∧ Q (.bl k) H) eqD := fun H x y d vx vy Q rx ry e q => by
  unfold eqD at e
  cases hk : ceqN 9 x y with
  | none => rw [hk] at e; cases e
  | some k => rw [hk] at e; cases e; exact ⟨x, y, k, rx, ry, hk, q _ H (Same.refl H) rep_bl⟩
theorem told_ne : Told2 X.K (fun x y H Q => ∃ d e k, Rep X.K H d x ∧ Rep X.K H e y ∧ ceqN 9 d e = some k ∧ Q (.bl (!k)) H) neD := fun H x y d vx vy Q rx ry e q => by
  unfold neD at e
  cases hk : ceqN 9 x y with
  | none => rw [hk] at e; cases e
  | some k => rw [hk] at e; cases e; exact ⟨x, y, k, rx, ry, hk, q _ H (Same.refl H) rep_bl⟩
theorem d_eq {k : Nat} (hr : Room k X.A) (ha : PE X a (tD X.K fa)) (hb : PE X b (tD X.K fb)) : PE X (.Compare a [.Eq] [b] pos) (tD X.K (bind2 fa fb eqD)) := d_cmp (op_eqD hr.units) told_eq ha hb (nomark _)
theorem t_eq {k : Nat} (hr : Room k X.A) (ha : PE X a (tD X.K fa)) (hb : PE X b (tD X.K fb)) : PT X (.Compare a [.Eq] [b] pos) (tT X.K fun δ => asB (bind2 fa fb eqD δ)) := t_cmp (op_eqD hr.units) told_eq ha hb (nomark _)
theorem t_ne {k : Nat} (hr : Room k X.A) (ha : PE X a (tD X.K fa)) (hb : PE X b (tD X.K fb)) : PT X (.Compare a [.NotEq] [b] pos) (tT X.K fun δ => asB (bind2 fa fb neD δ)) := t_cmp (op_neD hr.units) told_ne ha hb (nomark _)
def andD (fa fb : DS → Option D) : DS → Option D := fun δ => (asB (fa δ)).bind fun k => if k = true then fb δ else some (.bl false)
def orD (fa fb : DS → Option D) : DS → Option D := fun δ => (asB (fa δ)).bind fun k => if k = true then some (.bl true) else fb δ
def notD (fa : DS → Option D) : DS → Option D := fun δ => (asB (fa δ)).map fun k => .bl (!k)
theorem d_one {op} (h : PE X a (tD X.K fa)) : PE X (.BoolOp op [a] pos) (tD X.K fa) := pe_one h
theorem d_and {rest : List Expr} (ha : PE X a (tD X.K fa)) (hb : PE X (.BoolOp .And (b :: rest) pos) (tD X.K fb)) : PE X (.BoolOp .And (a :: b :: rest) pos) (tD X.K (andD fa fb)) :=
  (pe_and ha hb).imp fun σ H Q ⟨δ, d, sr, e, q⟩ => by
    unfold andD at e
    try dsimp only at e
    try dsimp only at ef
    cases ex : asB (fa δ) with
    | none => rw [ex] at e; cases e
    | some k =>
      rw [ex] at e
      refine ⟨δ, .bl k, sr, asB_some ex, fun v H1 s1 rv => ⟨k, rv.bl_of, ?_⟩⟩
      have e' : (if k = true then fb δ else some (.bl false)) = some d := e
      cases k with
      | true => exact iteT ⟨δ, d, sr.mono s1, e', fun v H' s2 rv => q v H' (s1.trans s2) rv⟩
      | false => refine iteF ?_; have e2 : some (D.bl false) = some d := e'; cases e2; exact q _ H1 s1 rep_bl
theorem d_not (ha : PE X a (tD X.K fa)) : PE X (.UnaryOp .Not a pos) (tD X.K (notD fa)) :=
  (pe_not ha).imp fun σ H Q ⟨δ, d, sr, e, q⟩ => by
    unfold notD at e
    try dsimp only at e
    try dsimp only at ef
    cases ex : asB (fa δ) with
    | none => rw [ex] at e; cases e
    | some k =>
      rw [ex] at e
      cases e
      exact ⟨δ, .bl k, sr, asB_some ex, fun v H1 s1 rv => ⟨k, rv.bl_of, q _ H1 s1 rep_bl⟩⟩
section
variable {ta tb : DS → Option Bool}
theorem PT.pw_and1 (h : PT X a (tT X.K ta)) : PW X (.BoolOp .And [a] pos) (tT X.K ta) := L2.pw_and1 h
theorem PT.pw_or1 (h : PT X a (tT X.K ta)) : PW X (.BoolOp .Or [a] pos) (tT X.K ta) := L2.pw_or1 h
theorem w_and {rest : List Expr} (ha : PT X a (tT X.K ta)) (hb : PW X (.BoolOp .And (b :: rest) pos) (tT X.K tb)) : PW X (.BoolOp .And (a :: b :: rest) pos) (tT X.K fun δ => (ta δ).bind fun k => if k = true then tb δ else some false) :=
  PW.imp (L2.pw_and ha hb) fun σ H Q ⟨δ, c, sr, e, q⟩ => by
    try dsimp only at e
    try dsimp only at ef
    cases ex : ta δ with
    | none => rw [ex] at e; cases e
    | some k =>
      rw [ex] at e
      refine ⟨δ, k, sr, ex, fun H1 s1 => ?_⟩
      have e' : (if k = true then tb δ else some false) = some c := e
      cases k with
      | true => exact iteT ⟨δ, c, sr.mono s1, e', fun H' s2 => q H' (s1.trans s2)⟩
      | false => refine iteF ?_; have e2 : some false = some c := e'; cases e2; exact q H1 s1
theorem w_or {rest : List Expr} (ha : PT X a (tT X.K ta)) (hb : PW X (.BoolOp .Or (b :: rest) pos) (tT X.K tb)) : PW X (.BoolOp .Or (a :: b :: rest) pos) (tT X.K fun δ => (ta δ).bind fun k => if k = true then some true else tb δ) :=
  PW.imp (L2.pw_or ha hb) fun σ H Q ⟨δ, c, sr, e, q⟩ => by
    try dsimp only at e
    try dsimp only at ef
    cases ex : ta δ with
    | none => rw [ex] at e; cases e
    | some k =>
      rw [ex] at e
      refine ⟨δ, k, sr, ex, fun H1 s1 => ?_⟩
      have e' : (if k = true then some true else tb δ) = some c := e
      cases k with
      | true => refine iteT ?_; have e2 : some true = some c := e'; cases e2; exact q H1 s1
      | false => exact iteF ⟨δ, c, sr.mono s1, e', fun H' s2 => q H' (s1.trans s2)⟩
theorem t_not (ha : PT X a (tT X.K ta)) : PT X (.UnaryOp .Not a pos) (tT X.K fun δ => (ta δ).map (!·)) := PT.imp (L2.pt_not ha) fun σ H Q ⟨δ, c, sr, e, q⟩ => by
  try dsimp only at e
  try dsimp only at ef
  cases ex : ta δ with
  | none => rw [ex] at e; cases e
  | some k => rw [ex] at e; cases e; exact ⟨δ, k, sr, ex, fun H1 s1 => q H1 s1⟩
end
def truD : D → Option Bool
  | .non => some false
  | .bl b => some b
  | .int i => some (i != 0)
  | .tup xs => some (!xs.isEmpty)
  | .lst xs => some (!xs.isEmpty)
  | .fro xs => some (!xs.isEmpty)
  | _ => none
theorem isEmpty_reps {K : PySem.W.Frag} {H : Hp} {ds : List D} {vs : List V} (h : Reps K H ds vs) : (!ds.isEmpty) = !vs.isEmpty := by
  cases ds with
  | nil => rw [h.nil_of]; rfl
  | cons d ds => obtain ⟨v, r, rfl, _, _⟩ := h.cons_of; rfl
theorem t_truth (ha : PE X a (tD X.K fa)) (he : ∀ whole, isTrue a X.env whole = (do let v ← whole; standAt a.pos; holding [v] (truthy v)) := by intro _; rfl) : PT X a (tT X.K fun δ => (fa δ).bind truD) :=
  PT.imp (pt_truth ha he) fun σ H Q ⟨δ, c, sr, e, q⟩ => by
    try dsimp only at e
    try dsimp only at ef
    cases ex : fa δ with
    | none => rw [ex] at e; cases e
    | some x =>
      rw [ex] at e
      refine ⟨δ, x, sr, ex, fun v H1 s1 rv => ⟨c, ?_, q H1 s1⟩⟩
      have e' : truD x = some c := e
      cases x with
      | non => cases rv.non_of; cases e'; rfl
      | bl b => cases rv.bl_of; cases e'; rfl
      | int i => cases rv.int_of; cases e'; rfl
      | str _ => cases e'
      | ty _ => cases e'
      | tup xs => obtain ⟨p, us, rfl, h1, h2⟩ := rv.tup_of; cases e'; exact .inr (.inl ⟨us, SqT.of h1, isEmpty_reps h2⟩)
      | lst xs => obtain ⟨p, us, rfl, h1, h2⟩ := rv.lst_of; cases e'; exact .inl ⟨us, SqL.of h1, isEmpty_reps h2⟩
      | fro xs => obtain ⟨p, us, rfl, h1, h2⟩ := rv.fro_of; cases e'; exact .inl ⟨us, h1.sq, isEmpty_reps h2⟩
theorem da_nil : PA X [] (tDA X.K fun _ => some []) := PA.imp pa_nil fun σ H Q ⟨δ, ds, sr, e, q⟩ => by cases e; exact q [] H (Same.refl H) reps_nil
def consD (fa : DS → Option D) (fs : DS → Option (List D)) : DS → Option (List D) := fun δ => (fa δ).bind fun x => (fs δ).map fun xs => x :: xs
theorem consD_some {fa : DS → Option D} {fs : DS → Option (List D)} {δ : DS} {ds : List D} (h : consD fa fs δ = some ds) : ∃ x xs, fa δ = some x ∧ fs δ = some xs ∧ ds = x :: xs := by
  unfold consD at h
  try dsimp only at e
  try dsimp only at ef
  cases ex : fa δ with
  | none => rw [ex] at h; cases h
  | some x =>
    rw [ex] at h
    cases ey : fs δ with
    | none => rw [ey] at h; cases h
    | some xs => rw [ey] at h; cases h; exact ⟨x, xs, rfl, rfl, rfl⟩
theorem da_cons {fs : DS → Option (List D)} (ha : PE X e (tD X.K fa)) (hr : PA X es (tDA X.K fs)) (hs : starEach (e :: es) X.env = (false, eval e X.env) :: starEach es X.env := by rfl) : PA X (e :: es) (tDA X.K (consD fa fs)) :=
  PA.imp (pa_cons ha hr hs) fun σ H Q ⟨δ, ds, sr, ef, q⟩ => by
    obtain ⟨x, xs, ex, ey, rfl⟩ := consD_some ef
    exact ⟨δ, x, sr, ex, fun v H1 s1 rv => ⟨δ, xs, sr.mono s1, ey, fun vs H2 s2 rs => q (v :: vs) H2 (s1.trans s2) (reps_cons (rv.mono s2) rs)⟩⟩
theorem d_tup {x1} {fs : DS → Option (List D)} (h : PA X es (tDA X.K fs)) (hl : es.length ≤ 1000 := by decide) : PE X (.Tuple es x1 pos) (tD X.K fun δ => (fs δ).bind fun ds => if fit ds.length = true then some (.tup ds) else none) :=
  (pe_tup h).imp fun σ H Q ⟨δ, d, sr, e, q⟩ => by
    try dsimp only at e
    try dsimp only at ef
    cases ex : fs δ with
    | none => rw [ex] at e; cases e
    | some ds =>
      rw [ex] at e
      have e' : (if fit ds.length = true then some (D.tup ds) else none) = some d := e
      by_cases hf : fit ds.length = true
      · rw [if_pos hf] at e'; cases e'
        exact ⟨δ, ds, sr, ex, fun vs H1 s1 rs => ⟨by rw [rs.length]; exact fit_le hf, fun p hp => q _ _ (s1.trans (same_new hp _)) (rep_tup upd_same (rs.mono (same_new hp _)))⟩⟩
      · rw [if_neg hf] at e'; cases e'
theorem f_lst {fs : DS → Option (List D)} (h : PA X es (tDA X.K fs)) : PE X (.List es pos) (tF X.K fun δ => (fs δ).bind fun ds => if fit ds.length = true then some ds else none) :=
  (pe_lst h).imp fun σ H Q ⟨δ, ds', sr, e, q⟩ => by
    try dsimp only at e
    try dsimp only at ef
    cases ex : fs δ with
    | none => rw [ex] at e; cases e
    | some ds =>
      rw [ex] at e
      have e' : (if fit ds.length = true then some ds else none) = some ds' := e
      by_cases hf : fit ds.length = true
      · rw [if_pos hf] at e'; cases e'
        exact ⟨δ, ds', sr, ex, fun vs H1 s1 rs => ⟨by rw [rs.length]; exact fit_le hf, fun p hp => q p vs _ (s1.free hp) (s1.trans (same_new hp _)) upd_same (rs.mono (same_new hp _))⟩⟩
      · rw [if_neg hf] at e'; cases e'
theorem d_lst {fs : DS → Option (List D)} (h : PA X es (tDA X.K fs)) : PE X (.List es pos) (tD X.K fun δ => ((fs δ).bind fun ds => if fit ds.length = true then some ds else none).map D.lst) := d_of_f (f_lst h)
def ToldC (K : PySem.W.Frag) (r : List V → Hp → VK → Prop) (g : List D → Option D) : Prop := ∀ (H : Hp) (ds : List D) (d : D) (vs : List V) (Q : VK), Reps K H ds vs → g ds = some d → (∀ v H', Same H H' → Rep K H' d v → Q v H') → r vs H Q
theorem toldC_ok {r : List V → Hp → VK → Prop} {g : List D → Option D} {fs : DS → Option (List D)} (hr : ToldC X.K r g) : ∀ σ H Q, tD X.K (fun δ => (fs δ).bind g) σ H Q → tCB r (tDA X.K fs) σ H Q := fun σ H Q ⟨δ, d, sr, e, q⟩ => by
  try dsimp only at e
  try dsimp only at ef
  cases ex : fs δ with
  | none => rw [ex] at e; cases e
  | some ds =>
    rw [ex] at e
    exact ⟨δ, ds, sr, ex, fun vs H1 s1 rs => hr H1 ds d vs Q rs e fun v H' s2 rv => q v H' (s1.trans s2) rv⟩
theorem d_callB {x : Str} {id : String} {r : List V → Hp → VK → Prop} {g : List D → Option D} {fs : DS → Option (List D)} (hc : CallR X (.builtin id) r) (hr : ToldC X.K r g) (hg : Gl X x) (hm : X.mg x = none) (hv : bootBuiltins x = some (.builtin id)) (ha : PA X (e :: es) (tDA X.K fs))
    (hn : x ≠ "__name__" := by decide) (hdb : (x == ("__debug__" : Str)) = false := by decide)
    (he : starEach (e :: es) X.env = (false, eval e X.env) :: starEach es X.env := by rfl) (hpl : (backTo pos (starEach es X.env)).any (·.1) = false := by rfl) : PE X (.Call (.Name x p) (e :: es) [] pos) (tD X.K fun δ => (fs δ).bind g) :=
  (pe_callB hc hg hm hv ha hn hdb he hpl).imp (toldC_ok hr)
theorem d_callTy {x : Str} {T : String} {r : List V → Hp → VK → Prop} {g : List D → Option D} {fs : DS → Option (List D)} (hc : CallR X (.type T) r) (hr : ToldC X.K r g) (hg : Gl X x) (hm : X.mg x = none) (hv : bootBuiltins x = some (.type T)) (ha : PA X (e :: es) (tDA X.K fs))
    (hn : x ≠ "__name__" := by decide) (hdb : (x == ("__debug__" : Str)) = false := by decide)
    (he : starEach (e :: es) X.env = (false, eval e X.env) :: starEach es X.env := by rfl) (hpl : (backTo pos (starEach es X.env)).any (·.1) = false := by rfl) : PE X (.Call (.Name x p) (e :: es) [] pos) (tD X.K fun δ => (fs δ).bind g) :=
  (pe_callTy hc hg hm hv ha hn hdb he hpl).imp (toldC_ok hr)
theorem d_ty {x : Str} {n : String} (hg : Gl X x) (hm : X.mg x = none) (hv : bootBuiltins x = some (.type n)) (hn : x ≠ "__name__" := by decide) (hd : (x == ("__debug__" : Str)) = false := by decide) : PE X (.Name x pos) (tD X.K fun _ => some (.ty n)) :=
  (pe_bltn (v := .ty n) hg hm hv rfl hn hd).imp fun σ H Q ⟨δ, d, sr, e, q⟩ => by cases e; exact q _ H (Same.refl H) rep_ty
def itemsD : D → Option (List D)
  | .tup xs => some xs
  | .lst xs => some xs
  | .fro xs => some xs
  | _ => none
theorem items_seq {K : PySem.W.Frag} {H : Hp} {d : D} {ds : List D} {v : V} (h : itemsD d = some ds) (r : Rep K H d v) : ∃ a xs, v = .ref a ∧ (SqL K H a xs ∨ SqT K H a xs) ∧ Reps K H ds xs := by
  cases d with
  | tup xs => cases h; obtain ⟨a, us, e1, e2, e3⟩ := r.tup_of; exact ⟨a, us, e1, .inr (SqT.of e2), e3⟩
  | lst xs => cases h; obtain ⟨a, us, e1, e2, e3⟩ := r.lst_of; exact ⟨a, us, e1, .inl (SqL.of e2), e3⟩
  | fro xs => cases h; obtain ⟨a, us, e1, e2, e3⟩ := r.fro_of; exact ⟨a, us, e1, .inl e2.sq, e3⟩
  | _ => cases h
def lenD : List D → Option D
  | [d] => (itemsD d).map fun xs => .int xs.length
  | _ => none
theorem told_len : ToldC X.K (fun xs H Q => ∃ p ys, xs = [.ref p] ∧ (SqL X.K H p ys ∨ SqT X.K H p ys) ∧ Q (.int ys.length) H) lenD := fun H ds d vs Q rs e q => by
  unfold lenD at e
  split at e
  · rename_i d'
    obtain ⟨v, r, rfl, rv, rn⟩ := rs.cons_of
    cases rn.nil_of
    cases hi : itemsD d' with
    | none => rw [hi] at e; cases e
    | some xs =>
      rw [hi] at e; cases e
      obtain ⟨a, us, rfl, hs, r'⟩ := items_seq hi rv
      exact ⟨a, us, rfl, hs, q _ H (Same.refl H) (by rw [r'.length]; exact rep_int)⟩
  · cases e
theorem d_len {fs : DS → Option (List D)} (hg : Gl X "len") (hm : X.mg "len" = none) (ha : PA X [e] (tDA X.K fs)) (he : starEach [e] X.env = (false, eval e X.env) :: starEach [] X.env := by rfl) : PE X (.Call (.Name "len" p) [e] [] pos) (tD X.K fun δ => (fs δ).bind lenD) :=
  d_callB call_len_seq told_len hg hm PySem.boot_len ha (he := he)
def tupleD : List D → Option D
  | [d] => (itemsD d).map .tup
  | _ => none
theorem told_tuple : ToldC X.K (fun xs H Q => ∃ p ys, xs = [.ref p] ∧ ((SqL X.K H p ys ∧ ∀ l, H l = none → Q (.ref l) (upd H l (.tup ys))) ∨ (SqT X.K H p ys ∧ Q (.ref p) H))) tupleD := fun H ds d vs Q rs e q => by
  unfold tupleD at e
  split at e
  · rename_i d'
    obtain ⟨v, r, rfl, rv, rn⟩ := rs.cons_of
    cases rn.nil_of
    cases hi : itemsD d' with
    | none => rw [hi] at e; cases e
    | some xs =>
      rw [hi] at e; cases e
      cases d' with
      | tup ys => cases hi; obtain ⟨a, us, rfl, e2, e3⟩ := rv.tup_of; exact ⟨a, us, rfl, .inr ⟨SqT.of e2, q _ H (Same.refl H) (rep_tup e2 e3)⟩⟩
      | lst ys => cases hi; obtain ⟨a, us, rfl, e2, e3⟩ := rv.lst_of; exact ⟨a, us, rfl, .inl ⟨SqL.of e2, fun l hl => q _ _ (same_new hl _) (rep_tup upd_same (e3.mono (same_new hl _)))⟩⟩
      | fro ys => cases hi; obtain ⟨a, us, rfl, e2, e3⟩ := rv.fro_of; exact ⟨a, us, rfl, .inl ⟨e2.sq, fun l hl => q _ _ (same_new hl _) (rep_tup upd_same (e3.mono (same_new hl _)))⟩⟩
      | _ => cases hi
  · cases e
theorem d_tuple {fs : DS → Option (List D)} (hg : Gl X "tuple") (hm : X.mg "tuple" = none) (ha : PA X [e] (tDA X.K fs)) (he : starEach [e] X.env = (false, eval e X.env) :: starEach [] X.env := by rfl) (hv : bootBuiltins "tuple" = some (.type "tuple") := by decide +kernel) : PE X (.Call (.Name "tuple" p) [e] [] pos) (tD X.K fun δ => (fs δ).bind tupleD) :=
  d_callTy call_tuple_of told_tuple hg hm hv ha (he := he)
def list1 : List D → Option (List D)
  | [d] => itemsD d
  | _ => none
theorem f_list {fs : DS → Option (List D)} (hg : Gl X "list") (hm : X.mg "list" = none) (ha : PA X [e] (tDA X.K fs)) (he : starEach [e] X.env = (false, eval e X.env) :: starEach [] X.env := by rfl) (hv : bootBuiltins "list" = some (.type "list") := by decide +kernel) : PE X (.Call (.Name "list" p) [e] [] pos) (tF X.K fun δ => (fs δ).bind list1) :=
  (pe_callTy call_list_of hg hm hv ha (he := he)).imp fun σ H Q ⟨δ, d, sr, e, q⟩ => by
    try dsimp only at e
    try dsimp only at ef
    cases ex : fs δ with
    | none => rw [ex] at e; cases e
    | some ds =>
      rw [ex] at e
      refine ⟨δ, ds, sr, ex, fun vs H1 s1 rs => ?_⟩
      have e' : list1 ds = some d := e
      unfold list1 at e'
      split at e'
      · rename_i d'
        obtain ⟨v, r, rfl, rv, rn⟩ := rs.cons_of
        cases rn.nil_of
        obtain ⟨a, us, rfl, hs, r'⟩ := items_seq e' rv
        exact ⟨a, us, rfl, hs, fun l hl => q l us _ (s1.free hl) (s1.trans (same_new hl _)) upd_same (r'.mono (same_new hl _))⟩
      · cases e'
theorem d_list {fs : DS → Option (List D)} (hg : Gl X "list") (hm : X.mg "list" = none) (ha : PA X [e] (tDA X.K fs)) (he : starEach [e] X.env = (false, eval e X.env) :: starEach [] X.env := by rfl) (hv : bootBuiltins "list" = some (.type "list") := by decide +kernel) : PE X (.Call (.Name "list" p) [e] [] pos) (tD X.K fun δ => ((fs δ).bind list1).map D.lst) :=
  d_of_f (f_list hg hm ha he hv)
end
end L2
set_option Elab.async false
set_option linter.all false
set_option maxRecDepth 100000
namespace L2
open PySem PySem.Spec PyProof.Rows
section
variable {X : Cx} {a b e : Expr} {es : List Expr} {pos p : Pos} {fa fb : DS → Option D}
theorem reps_atI {K : PySem.W.Frag} {H : Hp} {ds : List D} {vs : List V} {i : Int} {d : D} (r : Reps K H ds vs) (h : atI ds i = some d) : ∃ v, atI vs i = some v ∧ Rep K H d v := by
  unfold atI at h ⊢
  rw [r.length]
  cases hj : ixN ds.length i with
  | none => rw [hj] at h; cases h
  | some j =>
    rw [hj] at h
    obtain ⟨v, h1, h2⟩ := r.get (i := j) (d := d) h
    exact ⟨v, h1, h2⟩
def ixD : D → D → Option D
  | d, .int i => (itemsD d).bind fun xs => atI xs i
  | _, _ => none
theorem told_ix : Told2 X.K (fun x y H Q => rIxL X.K x y H Q ∨ rIxT X.K x y H Q) ixD := fun H x y d vx vy Q rx ry e q => by
  unfold ixD at e
  split at e
  · rename_i i
    cases hi : itemsD x with
    | none => rw [hi] at e; cases e
    | some xs =>
      rw [hi] at e
      obtain ⟨a, us, e1, hs, r'⟩ := items_seq hi rx
      obtain ⟨v, h1, h2⟩ := reps_atI r' e
      rcases hs with hs | hs
      · exact .inl ⟨a, us, i, v, e1, ry.int_of, hs, h1, q v H (Same.refl H) h2⟩
      · exact .inr ⟨a, us, i, v, e1, ry.int_of, hs, h1, q v H (Same.refl H) h2⟩
  · cases e
theorem d_ix (ha : PE X a (tD X.K fa)) (hb : PE X b (tD X.K fb)) (hs : PlainIx b := by intro _ _; rfl) : PE X (.Subscript a b pos) (tD X.K (bind2 fa fb ixD)) :=
  (pe_ix (ix_list.or ix_tup) ha hb hs).imp (told2_op told_ix)
def tPD (K : PySem.W.Frag) (f : DS → Option (Option Int)) : TO := fun σ H Q => ∃ δ o, SRep K H σ δ ∧ f δ = some o ∧ ∀ H', Same H H' → Q o H'
theorem o_none : PO X none (tPD X.K fun _ => some none) := fun pins s σ H Q I ⟨δ, o, sr, e, q⟩ => by cases e; exact po_none pins s σ H Q I (q H (Same.refl H))
def asI : Option D → Option (Option Int)
  | some (.int i) => some (some i)
  | _ => none
theorem o_some (h : PE X e (tD X.K fa)) : PO X (some e) (tPD X.K fun δ => asI (fa δ)) := fun pins s σ H Q I ⟨δ, o, sr, ef, q⟩ => by
  refine po_some h pins s σ H Q I ?_
  dsimp only at ef
  unfold asI at ef
  split at ef
  · rename_i i hi
    cases ef
    exact ⟨δ, .int i, sr, hi, fun v H1 s1 rv => ⟨i, rv.int_of, q H1 s1⟩⟩
  · cases ef
def cutD (xs : List D) (lo hi : Option Int) : List D := (xs.drop (HT.sIx xs.length 0 lo)).take (HT.sIx xs.length xs.length hi - HT.sIx xs.length 0 lo)
theorem reps_cut {K : PySem.W.Frag} {H : Hp} {ds : List D} {vs : List V} (r : Reps K H ds vs) (lo hi : Option Int) : Reps K H (cutD ds lo hi) (cutV vs lo hi) := by
  unfold cutD cutV
  rw [r.length]
  exact (r.drop _).take _
def slD (d : D) (lo hi : Option Int) : Option D := match d with
  | .tup xs => some (.tup (cutD xs lo hi))
  | .lst xs => some (.lst (cutD xs lo hi))
  | .fro xs => some (.lst (cutD xs lo hi))
  | _ => none
def slF (fa : DS → Option D) (fl fh : DS → Option (Option Int)) : DS → Option D := fun δ => (fa δ).bind fun d => (fl δ).bind fun l => (fh δ).bind fun h => slD d l h
theorem slF_some {fa : DS → Option D} {fl fh : DS → Option (Option Int)} {δ : DS} {d : D} (h : slF fa fl fh δ = some d) : ∃ x l u, fa δ = some x ∧ fl δ = some l ∧ fh δ = some u ∧ slD x l u = some d := by
  unfold slF at h
  try dsimp only at e
  try dsimp only at ef
  cases ex : fa δ with
  | none => rw [ex] at h; cases h
  | some x =>
    rw [ex] at h
    cases el : fl δ with
    | none => rw [el] at h; cases h
    | some l =>
      rw [el] at h
      cases eh : fh δ with
      | none => rw [eh] at h; cases h
      | some u => rw [eh] at h; exact ⟨x, l, u, rfl, rfl, rfl, h⟩
theorem whole_cut (xs : List D) {lo hi : Option Int} (h : HT.sIx xs.length 0 lo = 0 ∧ HT.sIx xs.length xs.length hi = xs.length) : cutD xs lo hi = xs := by
  unfold cutD
  rw [h.1, h.2, List.drop_zero, Nat.sub_zero, List.take_length]
theorem d_slice {lo hi : Option Expr} {p2 : Pos} {fl fh : DS → Option (Option Int)} (ha : PE X a (tD X.K fa)) (hl : PO X lo (tPD X.K fl)) (hu : PO X hi (tPD X.K fh)) : PE X (.Subscript a (.Slice lo hi none p2) pos) (tD X.K (slF fa fl fh)) :=
  (pe_slice (sl_tup0.or (sl_tup.or sl_list)) ha hl hu).imp fun σ H Q ⟨δ, d, sr, e, q⟩ => by
    obtain ⟨x, l, u, ex, el, eh, es⟩ := slF_some e
    refine ⟨δ, x, sr, ex, fun v H1 s1 rv => ⟨δ, l, sr.mono s1, el, fun H2 s2 => ⟨δ, u, sr.mono (s1.trans s2), eh, fun H3 s3 => ?_⟩⟩⟩
    have S := s1.trans (s2.trans s3)
    have rv := (rv.mono s2).mono s3
    cases x with
    | tup xs =>
      cases es
      obtain ⟨a, us, rfl, e2, e3⟩ := rv.tup_of
      by_cases hw : HT.sIx us.length 0 l = 0 ∧ HT.sIx us.length us.length u = us.length
      · refine .inl ⟨a, us, rfl, e2, hw, q _ H3 S (rep_tup e2 ?_)⟩
        rw [e3.length] at hw
        rw [whole_cut xs hw]; exact e3
      · exact .inr (.inl ⟨a, us, rfl, SqT.of e2, hw, fun p hp => q _ _ (S.trans (same_new hp _)) (rep_tup upd_same ((reps_cut e3 l u).mono (same_new hp _)))⟩)
    | lst xs =>
      cases es
      obtain ⟨a, us, rfl, e2, e3⟩ := rv.lst_of
      exact .inr (.inr ⟨a, us, rfl, SqL.of e2, fun p hp => q _ _ (S.trans (same_new hp _)) (rep_lst upd_same ((reps_cut e3 l u).mono (same_new hp _)))⟩)
    | fro xs =>
      cases es
      obtain ⟨a, us, rfl, e2, e3⟩ := rv.fro_of
      exact .inr (.inr ⟨a, us, rfl, e2.sq, fun p hp => q _ _ (S.trans (same_new hp _)) (rep_lst upd_same ((reps_cut e3 l u).mono (same_new hp _)))⟩)
    | _ => cases es
def kindD : D → Option String
  | .non => some "NoneType"
  | .bl _ => some "bool"
  | .int _ => some "int"
  | .str _ => some "str"
  | .tup _ => some "tuple"
  | .lst _ => some "list"
  | _ => none
def isiD : List D → Option D
  | [d, .ty c] => (kindD d).bind fun t => if c = "int" ∨ c = "bool" ∨ c = "tuple" ∨ c = "list" ∨ c = "str" then some (.bl (t == c || (t == "bool" && c == "int"))) else none
  | _ => none
theorem tyOf_D {K : PySem.W.Frag} {H : Hp} {d : D} {t : String} {v : V} (h : kindD d = some t) (r : Rep K H d v) : TyOf K H v (.type t) := by
  cases d with
  | non => cases h; cases r.non_of; exact .non
  | bl b => cases h; cases r.bl_of; exact .bl b
  | int i => cases h; cases r.int_of; exact .int i
  | str x => cases h; cases r.str_of; exact .str x
  | tup xs => cases h; obtain ⟨a, us, rfl, e2, _⟩ := r.tup_of; exact .tup e2
  | lst xs => cases h; obtain ⟨a, us, rfl, e2, _⟩ := r.lst_of; exact .lst e2
  | _ => cases h
theorem kind_one (K : PySem.W.Frag) {t c : String} (ht : t = "NoneType" ∨ t = "bool" ∨ t = "int" ∨ t = "str" ∨ t = "tuple" ∨ t = "list") (hc : c = "int" ∨ c = "bool" ∨ c = "tuple" ∨ c = "list" ∨ c = "str") :
    PySem.W.kitOne K (.type t) (.type c) = some (t == c || (t == "bool" && c == "int")) := by
  rcases ht with rfl | rfl | rfl | rfl | rfl | rfl <;> rcases hc with rfl | rfl | rfl | rfl | rfl <;> with_unfolding_all rfl
theorem kindD_in {d : D} {t : String} (h : kindD d = some t) : t = "NoneType" ∨ t = "bool" ∨ t = "int" ∨ t = "str" ∨ t = "tuple" ∨ t = "list" := by
  cases d <;> first | (cases h; simp; done) | cases h
theorem call_isi : CallR X (.builtin "isinstance") (fun xs H Q => ∃ d x c t k, xs = [x, .ty c] ∧ Rep X.K H d x ∧ kindD d = some t ∧ PySem.W.kitOne X.K (.type t) (.type c) = some k ∧ Q (.bl k) H) := by
  intro pins s σ H xs us Q I r h
  obtain ⟨d, x, c, t, k, rfl, rd, hk, hkit, q⟩ := h
  obtain ⟨u, w', rfl, rx, ry⟩ := vals2 r
  cases ry
  exact isinst_ok I rx (tyOf_D hk rd) hkit fun tk => ⟨.bl k, H, I.tok tk, rfl, q⟩
theorem told_isi : ToldC X.K (fun xs H Q => ∃ d x c t k, xs = [x, .ty c] ∧ Rep X.K H d x ∧ kindD d = some t ∧ PySem.W.kitOne X.K (.type t) (.type c) = some k ∧ Q (.bl k) H) isiD := fun H ds d vs Q rs e q => by
  unfold isiD at e
  split at e
  · rename_i d' c
    obtain ⟨v, r, rfl, rv, rn⟩ := rs.cons_of
    obtain ⟨v2, r2, rfl, rv2, rn2⟩ := rn.cons_of
    cases rn2.nil_of
    cases rv2.ty_of
    cases hk : kindD d' with
    | none => rw [hk] at e; cases e
    | some t =>
      rw [hk] at e
      have e' : (if c = "int" ∨ c = "bool" ∨ c = "tuple" ∨ c = "list" ∨ c = "str" then some (D.bl (t == c || (t == "bool" && c == "int"))) else none) = some d := e
      by_cases hc : c = "int" ∨ c = "bool" ∨ c = "tuple" ∨ c = "list" ∨ c = "str"
      · rw [if_pos hc] at e'; cases e'
        exact ⟨d', v, c, t, _, rfl, rv, hk, kind_one X.K (kindD_in hk) hc, q _ H (Same.refl H) rep_bl⟩
      · rw [if_neg hc] at e'; cases e'
  · cases e
theorem d_isi {b : Expr} {fs : DS → Option (List D)} (hg : Gl X "isinstance") (hm : X.mg "isinstance" = none) (ha : PA X [e, b] (tDA X.K fs)) (he : starEach [e, b] X.env = (false, eval e X.env) :: starEach [b] X.env := by rfl) (hpl : (backTo pos (starEach [b] X.env)).any (·.1) = false := by rfl)
    (hv : bootBuiltins "isinstance" = some (.builtin "isinstance") := by decide +kernel) : PE X (.Call (.Name "isinstance" p) [e, b] [] pos) (tD X.K fun δ => (fs δ).bind isiD) :=
  d_callB call_isi told_isi hg hm hv ha (he := he) (hpl := hpl)
def spD (K : PySem.W.Frag) (F : List D → Option D) : Sp := fun vs H Q _ => ∃ ds d, TabK K H ∧ Reps K H ds vs ∧ F ds = some d ∧ ∀ v H', Same H H' → Rep K H' d v → Q v H'
def Ca (P : Program) (w : World) (K : PySem.W.Frag) (mg : Str → Option Value) (base : Heap) (k : Nat) (x : Str) (F : List D → Option D) : Prop :=
  ∃ (f : Addr) (fd : FuncData) (ps : List Str), mg x = some (.ref f) ∧ FnOk P w K mg base CX0 k f fd ps (spD K F) ∧ Binds K fd ps [] ∧ PySem.W.keepIn K (.ref f) = true
theorem Ca.mono {P : Program} {w : World} {K : PySem.W.Frag} {mg : Str → Option Value} {base : Heap} {j k : Nat} {x : Str} {F : List D → Option D} (c : Ca P w K mg base j x F) (h : j ≤ k) : Ca P w K mg base k x F := by
  obtain ⟨f, fd, ps, h1, h2, h3, h4⟩ := c
  exact ⟨f, fd, ps, h1, h2.mono h, h3, h4⟩
theorem d_call {k : Nat} {x : Str} {F : List D → Option D} {fs : DS → Option (List D)} (c : Ca X.prog X.w X.K X.mg X.base k x F) (hr : Room k X.A) (hg : Gl X x) (ha : PA X (e :: es) (tDA X.K fs))
    (hd : (x == ("__debug__" : Str)) = false := by decide) (he : starEach (e :: es) X.env = (false, eval e X.env) :: starEach es X.env := by rfl) (hpl : (backTo pos (starEach es X.env)).any (·.1) = false := by rfl) : PE X (.Call (.Name x p) (e :: es) [] pos) (tD X.K fun δ => (fs δ).bind F) := by
  obtain ⟨f, fd, ps, h1, h2, h3, h4⟩ := c
  exact (pe_call h2 hr hg h1 h4 h3 .nil pass0 ha hd he hpl).imp fun σ H Q ⟨δ, d, sr, e, q⟩ => by
    try dsimp only at e
    try dsimp only at ef
    cases ex : fs δ with
    | none => rw [ex] at e; cases e
    | some ds =>
      rw [ex] at e
      exact ⟨δ, ds, sr, ex, fun vs H1 s1 rs => ⟨ds, d, sr.2.1.mono s1, by rw [List.append_nil]; exact rs, e, fun v H' s2 rv => q v H' (s1.trans s2) rv⟩⟩
end
end L2
set_option Elab.async false
set_option linter.all false
set_option maxRecDepth 100000
namespace L2
open PySem PySem.Spec PyProof.Rows
def GRep (K : PySem.W.Frag) (H : Hp) (gh : List (V × D)) : Prop := ∀ p ∈ gh, Rep K H p.2 p.1
theorem GRep.mono {K : PySem.W.Frag} {H H' : Hp} {gh : List (V × D)} (s : Same H H') (h : GRep K H gh) : GRep K H' gh := fun p hp => (h p hp).mono s
structure ItD (K : PySem.W.Frag) (J : It) (gh : List (V × D)) (ds : List D) : Prop where
  go : ∀ i H, GRep K H gh → i < ds.length → J.go i H
  yld : ∀ i H x H' d, GRep K H gh → ds[i]? = some d → J.yld i H x H' → Same H H' ∧ Rep K H' d x
  stop : ∀ H, GRep K H gh → J.stop ds.length H
def tI (K : PySem.W.Frag) (f : DS → Option (List D)) : TI := fun σ H R => ∃ δ ds, SRep K H σ δ ∧ f δ = some ds ∧ ∀ J gh H', Same H H' → GRep K H' gh → ItD K J gh ds → ds.length ≤ sizeLine → R J H'
def tIR (K : PySem.W.Frag) (f : DS → Option (List D)) : TI := fun σ H R => ∃ δ ds, SRep K H σ δ ∧ f δ = some ds ∧ ∀ J H', Same H H' → ItD K J [] ds → ds.length ≤ sizeLine → R J H'
theorem PI.imp {X : Cx} {tg e : Expr} {t t' : TI} (h : PI X tg e t) (i : ∀ σ H R, t' σ H R → t σ H R) : PI X tg e t' := fun pins s σ H R I q => h pins s σ H R I (i σ H R q)
section
variable {X : Cx} {tg a b e : Expr} {es : List Expr} {pos p : Pos} {fa fb : DS → Option D}
theorem grep_nil {K : PySem.W.Frag} {H : Hp} : GRep K H [] := fun _ h => nomatch h
theorem grep_one {K : PySem.W.Frag} {H : Hp} {v : V} {d : D} (h : Rep K H d v) : GRep K H [(v, d)] := fun p hp => by
  have e : p = (v, d) := by simpa using hp
  subst e; exact h
theorem i_of_r {f : DS → Option (List D)} (h : PI X tg e (tIR X.K f)) : PI X tg e (tI X.K f) := h.imp fun σ H R ⟨δ, ds, sr, ef, q⟩ => ⟨δ, ds, sr, ef, fun J H' s i l => q J [] H' s grep_nil i l⟩
theorem itd_lst {K : PySem.W.Frag} {a : Addr} {ds : List D} : ItD K (Itl K a) [(.ref a, .lst ds)] ds where
  go := fun i H g hi => by
    obtain ⟨a', us, e1, e2, e3⟩ := (g _ (List.mem_singleton.mpr rfl)).lst_of
    injection e1 with e1; subst e1
    have hl := e3.length
    exact ⟨us, us[i], SqL.of e2, List.getElem?_eq_getElem (by omega)⟩
  yld := fun i H x H' d g hd ⟨e, y⟩ => by
    subst e
    obtain ⟨a', us, e1, e2, e3⟩ := (g _ (List.mem_singleton.mpr rfl)).lst_of
    injection e1 with e1; subst e1
    obtain ⟨v, z1, z2⟩ := e3.get hd
    have := y us (SqL.of e2)
    rw [z1] at this; cases this
    exact ⟨Same.refl _, z2⟩
  stop := fun H g => by
    obtain ⟨a', us, e1, e2, e3⟩ := (g _ (List.mem_singleton.mpr rfl)).lst_of
    injection e1 with e1; subst e1
    exact ⟨us, SqL.of e2, Nat.le_of_eq e3.length⟩
theorem itd_fro {K : PySem.W.Frag} {a : Addr} {ds : List D} : ItD K (Itl K a) [(.ref a, .fro ds)] ds where
  go := fun i H g hi => by
    obtain ⟨a', us, e1, e2, e3⟩ := (g _ (List.mem_singleton.mpr rfl)).fro_of
    injection e1 with e1; subst e1
    have hl := e3.length
    exact ⟨us, us[i], e2.sq, List.getElem?_eq_getElem (by omega)⟩
  yld := fun i H x H' d g hd ⟨e, y⟩ => by
    subst e
    obtain ⟨a', us, e1, e2, e3⟩ := (g _ (List.mem_singleton.mpr rfl)).fro_of
    injection e1 with e1; subst e1
    obtain ⟨v, z1, z2⟩ := e3.get hd
    have := y us e2.sq
    rw [z1] at this; cases this
    exact ⟨Same.refl _, z2⟩
  stop := fun H g => by
    obtain ⟨a', us, e1, e2, e3⟩ := (g _ (List.mem_singleton.mpr rfl)).fro_of
    injection e1 with e1; subst e1
    exact ⟨us, e2.sq, Nat.le_of_eq e3.length⟩
theorem itd_tup {K : PySem.W.Frag} {a : Addr} {ds : List D} : ItD K (Itt K a) [(.ref a, .tup ds)] ds where
  go := fun i H g hi => by
    obtain ⟨a', us, e1, e2, e3⟩ := (g _ (List.mem_singleton.mpr rfl)).tup_of
    injection e1 with e1; subst e1
    have hl := e3.length
    exact ⟨us, us[i], SqT.of e2, List.getElem?_eq_getElem (by omega)⟩
  yld := fun i H x H' d g hd ⟨e, y⟩ => by
    subst e
    obtain ⟨a', us, e1, e2, e3⟩ := (g _ (List.mem_singleton.mpr rfl)).tup_of
    injection e1 with e1; subst e1
    obtain ⟨v, z1, z2⟩ := e3.get hd
    have := y us (SqT.of e2)
    rw [z1] at this; cases this
    exact ⟨Same.refl _, z2⟩
  stop := fun H g => by
    obtain ⟨a', us, e1, e2, e3⟩ := (g _ (List.mem_singleton.mpr rfl)).tup_of
    injection e1 with e1; subst e1
    exact ⟨us, SqT.of e2, Nat.le_of_eq e3.length⟩
theorem i_seq (ha : PE X a (tD X.K fa)) : PI X tg a (tI X.K fun δ => (fa δ).bind itemsD) := by
  intro pins s σ H R I ⟨δ, ds, sr, e, q⟩
  try dsimp only at e
  try dsimp only at ef
  cases ex : fa δ with
  | none => rw [ex] at e; cases e
  | some x =>
    rw [ex] at e
    have e' : itemsD x = some ds := e
    refine thn (ha pins s σ H (fun v H1 => Same H H1 ∧ Rep X.K H1 x v) I ⟨δ, x, sr, ex, fun v H1 s1 rv => ⟨s1, rv⟩⟩) fun v s1 ⟨vx, H1, I1, r1, S, rv⟩ => ?_
    have fp : ∀ b ∈ [s1.heap.objs.size], FpOk X pins H1 b := fun b hb => by
      have e : b = s1.heap.objs.size := by simpa using hb
      subst e
      exact I1.fpOk (Nat.le_refl _) (I1.hok.fresh (Nat.le_refl _))
    cases x with
    | lst xs =>
      cases e'
      obtain ⟨a, us, rfl, e2, e3⟩ := rv.lst_of
      cases r1
      obtain ⟨its, rv', p, hz⟩ := I1.list (SqL.of e2)
      refine wpAny_pyIter_list p.isList ?_
      exact ⟨s1.heap.objs.size, [s1.heap.objs.size], _, _, H1, rfl, I1.kept (t' := s1.toks) fun b o e => Heap.get?_push_of_some _ e, turn_list a _, ⟨_, Heap.get?_push_size _ rfl, rfl, rfl⟩, fp, q _ _ H1 S (grep_one rv) itd_lst (by rw [← e3.length]; exact hz)⟩
    | fro xs =>
      cases e'
      obtain ⟨a, us, rfl, e2, e3⟩ := rv.fro_of
      cases r1
      obtain ⟨its, rv', p, hz⟩ := I1.list e2.sq
      refine wpAny_pyIter_list p.isList ?_
      exact ⟨s1.heap.objs.size, [s1.heap.objs.size], _, _, H1, rfl, I1.kept (t' := s1.toks) fun b o e => Heap.get?_push_of_some _ e, turn_list a _, ⟨_, Heap.get?_push_size _ rfl, rfl, rfl⟩, fp, q _ _ H1 S (grep_one rv) itd_fro (by rw [← e3.length]; exact hz)⟩
    | tup xs =>
      cases e'
      obtain ⟨a, us, rfl, e2, e3⟩ := rv.tup_of
      cases r1
      obtain ⟨its, rv', p, hz⟩ := I1.tuple (SqT.of e2)
      refine wpAny_pyIter_tuple (show s1.heap.IsTuple a its.toArray from p) ?_
      exact ⟨s1.heap.objs.size, [s1.heap.objs.size], _, _, H1, rfl, I1.kept (t' := s1.toks) fun b o e => Heap.get?_push_of_some _ e, turn_tuple a _, ⟨_, Heap.get?_push_size _ rfl, rfl, rfl⟩, fp, q _ _ H1 S (grep_one rv) itd_tup (by rw [← e3.length]; exact hz)⟩
    | _ => cases e'
theorem itd_range {K : PySem.W.Frag} {lo : Int} {n : Nat} : ItD K (Itr lo n) [] ((List.range n).map fun (k : Nat) => D.int (lo + (k : Int))) where
  go := fun i H _ hi => by show i < n; simpa using hi
  yld := fun i H x H' d _ hd ⟨e, y⟩ => by
    subst e y
    rw [List.getElem?_map] at hd
    have hi : i < n := by
      by_cases h : i < n
      · exact h
      · rw [List.getElem?_eq_none (by simpa using h)] at hd; cases hd
    rw [List.getElem?_range hi] at hd
    cases hd
    exact ⟨Same.refl _, rep_int⟩
  stop := fun H _ => by show n ≤ _; simp
def rangeD (lo : Int) (n : Nat) : List D := (List.range n).map fun (k : Nat) => D.int (lo + (k : Int))
def range1D : List D → Option (List D)
  | [.int j] => if fit j.natAbs = true then some (rangeD 0 j.toNat) else none
  | _ => none
def range2D : List D → Option (List D)
  | [.int i, .int j] => if fit i.natAbs = true ∧ fit j.natAbs = true ∧ fit (j - i).toNat = true then some (rangeD i (j - i).toNat) else none
  | _ => none
theorem r_range1 {fs : DS → Option (List D)} (hg : Gl X "range") (hm : X.mg "range" = none) (ha : PA X [a] (tDA X.K fs)) (hs : starEach [a] X.env = [(false, eval a X.env)] := by rfl) : PI X tg (.Call (.Name "range" p) [a] [] pos) (tIR X.K fun δ => (fs δ).bind range1D) :=
  (pi_range1 hg hm ha hs).imp fun σ H R ⟨δ, ds, sr, e, q⟩ => by
    try dsimp only at e
    try dsimp only at ef
    cases ex : fs δ with
    | none => rw [ex] at e; cases e
    | some xs =>
      rw [ex] at e
      refine ⟨δ, xs, sr, ex, fun vs H1 s1 rs => ?_⟩
      have e' : range1D xs = some ds := e
      unfold range1D at e'
      split at e'
      · rename_i j
        obtain ⟨v, r, rfl, rv, rn⟩ := rs.cons_of
        cases rn.nil_of
        cases rv.int_of
        split at e'
        · rename_i hf
          cases e'
          have hj : j.natAbs ≤ 1000 := of_decide_eq_true hf
          exact ⟨j, rfl, by omega, by omega, q _ H1 s1 itd_range (by unfold rangeD; rw [List.length_map, List.length_range]; exact Nat.le_of_lt (small1000 (by omega)))⟩
        · cases e'
      · cases e'
theorem r_range2 {fs : DS → Option (List D)} (hg : Gl X "range") (hm : X.mg "range" = none) (ha : PA X [a, b] (tDA X.K fs)) (hs : starEach [a, b] X.env = [(false, eval a X.env), (false, eval b X.env)] := by rfl) (hs2 : starEach [b] X.env = [(false, eval b X.env)] := by rfl) : PI X tg (.Call (.Name "range" p) [a, b] [] pos) (tIR X.K fun δ => (fs δ).bind range2D) :=
  (pi_range2 hg hm ha hs hs2).imp fun σ H R ⟨δ, ds, sr, e, q⟩ => by
    try dsimp only at e
    try dsimp only at ef
    cases ex : fs δ with
    | none => rw [ex] at e; cases e
    | some xs =>
      rw [ex] at e
      refine ⟨δ, xs, sr, ex, fun vs H1 s1 rs => ?_⟩
      have e' : range2D xs = some ds := e
      unfold range2D at e'
      split at e'
      · rename_i i j
        obtain ⟨v, r, rfl, rv, rn⟩ := rs.cons_of
        obtain ⟨v2, r2, rfl, rv2, rn2⟩ := rn.cons_of
        cases rn2.nil_of
        cases rv.int_of
        cases rv2.int_of
        split at e'
        · rename_i hf
          cases e'
          have hi : i.natAbs ≤ 1000 := of_decide_eq_true hf.1
          have hj : j.natAbs ≤ 1000 := of_decide_eq_true hf.2.1
          have hn : (j - i).toNat ≤ 1000 := of_decide_eq_true hf.2.2
          exact ⟨i, j, rfl, ⟨by omega, by omega, by omega, by omega⟩, q _ H1 s1 itd_range (by unfold rangeD; rw [List.length_map, List.length_range]; exact Nat.le_of_lt (small1000 hn))⟩
        · cases e'
      · cases e'
def TgD (X : Cx) (tg : Expr) (h : D → DS → Option DS) (ks : List Nat) : Prop := ∃ g : TG, PG X tg g ∧ ∀ (v : V) (d : D) (σ : St) (H : Hp) (δ δ' : DS) (Q : St → Hp → Prop), Rep X.K H d v → SRep X.K H σ δ → h d δ = some δ' →
  (∀ σ', SRep X.K H σ' δ' → (∀ k, k ∉ ks → σ'[k]? = σ[k]?) → Q σ' H) → g v σ H Q
def bind1 (i : Nat) : D → DS → Option DS := fun d δ => some (δ.set i (some d))
def bindP (i j : Nat) : D → DS → Option DS := fun d δ => match d with
  | .tup [x, y] => some ((δ.set i (some x)).set j (some y))
  | _ => none
theorem g_name {i : Nat} {x : Str} (hN : X.N.Nodup) (hi : X.N[i]? = some x) (hx : Loc X.env.scope x) (hf : X.fn x = true ∨ X.env.scope.names.lookup x = some .local := by first | exact .inl rfl | exact .inr rfl | assumption) : TgD X (.Name x pos) (bind1 i) [i] :=
  ⟨gName i, pg_name hN hi hx hf, fun v d σ H δ δ' Q rv sr e q => by
    cases e
    exact q _ (sr.set rv i) fun k hk => by rw [List.getElem?_set_ne (fun z => hk (by simp [z]))]⟩
theorem g_pair {i j : Nat} {x y : Str} {px py : Pos} {k : Nat} (hc : X.calm = true) (hN : X.N.Nodup) (hi : X.N[i]? = some x) (hj : X.N[j]? = some y) (hx : Loc X.env.scope x) (hy : Loc X.env.scope y)
    (hf : X.fn x = true ∨ X.env.scope.names.lookup x = some .local := by first | exact .inl rfl | exact .inr rfl | assumption) (hf' : X.fn y = true ∨ X.env.scope.names.lookup y = some .local := by first | exact .inl rfl | exact .inr rfl | assumption) : TgD X (.Tuple [.Name x px, .Name y py] k pos) (bindP i j) [i, j] :=
  ⟨_, pg_tup (n := 2) hc (pgs_cons (pg_name hN hi hx hf) (pgs_cons (pg_name hN hj hy hf') pgs_nil)), fun v d σ H δ δ' Q rv sr e q => by
    unfold bindP at e
    split at e
    · rename_i d1 d2
      cases e
      obtain ⟨a, us, rfl, e2, e3⟩ := rv.tup_of
      obtain ⟨v1, r1, rfl, rv1, rn1⟩ := e3.cons_of
      obtain ⟨v2, r2, rfl, rv2, rn2⟩ := rn1.cons_of
      cases rn2.nil_of
      exact ⟨a, [v1, v2], rfl, SqT.of e2, rfl, v1, [v2], rfl, v2, [], rfl, rfl, q _ ((sr.set rv1 i).set rv2 j) fun k hk => by
        rw [List.getElem?_set_ne (fun z => hk (by simp [z])), List.getElem?_set_ne (fun z => hk (by simp [z]))]⟩
    · cases e⟩
end
end L2
set_option Elab.async false
set_option linter.all false
set_option maxRecDepth 100000
namespace L2
open PySem PySem.Spec PyProof.Rows
def clF (env : Env) : List (Str × NameKind) → List (Str × Addr) → List (Str × Addr)
  | [], acc => acc
  | (n, k) :: r, acc => clF env r (if k == .free then (n, (env.cells.lookup n).getD 0) :: acc else acc)
def clOf (scope : Scope) (env : Env) : List (Str × Addr) := clF env scope.names []
theorem closureFor_clOf {scope : Scope} {env : Env} (h : ∀ n, (n, NameKind.free) ∈ scope.names → ∃ c, env.cells.lookup n = some c) : closureFor scope env = pure (clOf scope env) := by
  have key : ∀ (l : List (Str × NameKind)) (acc : List (Str × Addr)), (∀ n, (n, NameKind.free) ∈ l → ∃ c, env.cells.lookup n = some c) →
      (forIn l acc fun (x : Str × NameKind) (cs : List (Str × Addr)) => (if (x.2 == NameKind.free) = true then do let a ← cellOf env x.1; pure (ForInStep.yield ((x.1, a) :: cs)) else pure (ForInStep.yield cs) : Sem _)) = pure (clF env l acc) := by
    intro l
    induction l with
    | nil => intro acc _; rfl
    | cons x r ih =>
      intro acc hl
      obtain ⟨n, k⟩ := x
      rw [List.forIn_cons]
      by_cases hk : (k == NameKind.free) = true
      · have hk' : k = .free := eq_of_beq hk
        subst hk'
        obtain ⟨c, hc⟩ := hl n List.mem_cons_self
        have e : cellOf env n = pure c := by unfold cellOf; rw [hc]
        simp only [hk, if_true, e, pure_bind]
        rw [ih _ fun m hm => hl m (List.mem_cons_of_mem _ hm)]
        simp [clF, hc]
      · have hk' : (k == NameKind.free) = false := by simpa using hk
        simp only [hk', Bool.false_eq_true, if_false, pure_bind]
        rw [ih _ fun m hm => hl m (List.mem_cons_of_mem _ hm)]
        simp [clF, hk']
  unfold closureFor clOf
  have := key scope.names [] h
  simp only [bind_pure_comp, bind_pure] at this ⊢
  exact this
theorem clF_lookup {env : Env} : ∀ (l : List (Str × NameKind)) (acc : List (Str × Addr)) (x : Str) (c : Addr), (clF env l acc).lookup x = some c →
    (((x, NameKind.free) ∈ l) ∧ c = (env.cells.lookup x).getD 0) ∨ acc.lookup x = some c
  | [], acc, x, c, h => .inr h
  | (n, k) :: r, acc, x, c, h => by
    unfold clF at h
    rcases clF_lookup r _ x c h with ⟨h1, h2⟩ | h1
    · exact .inl ⟨List.mem_cons_of_mem _ h1, h2⟩
    · by_cases hk : (k == NameKind.free) = true
      · rw [if_pos hk] at h1
        rw [List.lookup_cons] at h1
        by_cases hx : (x == n) = true
        · rw [hx] at h1
          have e := eq_of_beq hx
          subst e
          have hk' : k = .free := eq_of_beq hk
          subst hk'
          cases h1
          exact .inl ⟨List.mem_cons_self, rfl⟩
        · have hx' : (x == n) = false := by simpa using hx
          rw [hx'] at h1
          exact .inr h1
      · rw [if_neg hk] at h1; exact .inr h1
theorem clF_has {env : Env} : ∀ (l : List (Str × NameKind)) (acc : List (Str × Addr)) (x : Str), ((x, NameKind.free) ∈ l ∨ ∃ c, acc.lookup x = some c) → ∃ c, (clF env l acc).lookup x = some c
  | [], acc, x, h => by
    rcases h with h | h
    · cases h
    · exact h
  | (n, k) :: r, acc, x, h => by
    unfold clF
    refine clF_has r _ x ?_
    rcases h with h | ⟨c, h⟩
    · rcases List.mem_cons.mp h with e | e
      · cases e
        refine .inr ⟨(env.cells.lookup n).getD 0, ?_⟩
        rw [if_pos (show (NameKind.free == NameKind.free) = true from rfl), List.lookup_cons, beq_self_eq_true]
      · exact .inl e
    · by_cases hk : (k == NameKind.free) = true
      · rw [if_pos hk, List.lookup_cons]
        by_cases hx : (x == n) = true
        · rw [hx]; exact .inr ⟨_, rfl⟩
        · have hx' : (x == n) = false := by simpa using hx
          rw [hx']; exact .inr ⟨c, h⟩
      · rw [if_neg hk]; exact .inr ⟨c, h⟩
def cxComp (X : Cx) (scope : Scope) (N' : List Str) (s : Shared) (H : Hp) (fp : List Addr) (C : Addr) : Cx where
  prog := X.prog
  w := X.w
  K := X.K
  mg := X.mg
  base := X.base
  A := X.A
  N := N'
  s₀ := s
  H₀ := H
  env := compEnvC scope (clOf scope X.env) C X.env
  outer := X.stack
  stack := X.stack
  ex := fp
  fn := fun _ => false
  calm := true
  pn := []
  xe := fun _ _ => False
structure CompSc (X : Cx) (scope : Scope) (N' : List Str) (inn : List (Option Nat)) : Prop where
  kind : scope.kind = .function
  nocell : ∀ y ∈ scope.names, y.2 ≠ .cell
  locs : ∀ y ∈ scope.names, y.2 = .local → scope.names.lookup y.1 = some .local
  frees : ∀ y, (y, NameKind.free) ∈ scope.names → scope.names.lookup y = some .free ∧ (X.env.kindOf y = some .cell ∨ X.env.kindOf y = some .free)
  nd : N'.Nodup
  len : inn.length = N'.length
  inn : ∀ (i j : Nat), inn[i]? = some (some j) → ∃ y, N'[i]? = some y ∧ X.N[j]? = some y ∧ (y, NameKind.free) ∈ scope.names
def innD (inn : List (Option Nat)) (δ : DS) : DS := inn.map fun o => o.bind fun j => (δ[j]?).join
def innS (inn : List (Option Nat)) (σ : St) : St := inn.map fun o => o.bind fun j => (σ[j]?).join
theorem relabel_look {env : Env} : ∀ (l : List (Str × NameKind)) (x : Str), (l.map fun (n, k) => if (k == NameKind.free && env.scope.kind == .function && env.kindOf n == some .cell) then (n, NameKind.cell) else (n, k)).lookup x =
    (l.lookup x).map fun k => if (k == NameKind.free && env.scope.kind == .function && env.kindOf x == some .cell) then NameKind.cell else k
  | [], x => rfl
  | (n, k) :: r, x => by
    have ih := relabel_look (env := env) r x
    show List.lookup x ((if (k == NameKind.free && env.scope.kind == .function && env.kindOf n == some .cell) = true then (n, NameKind.cell) else (n, k)) :: _) = _
    cases hx : x == n with
    | true =>
      have e := eq_of_beq hx
      subst e
      by_cases hc : (k == NameKind.free && env.scope.kind == .function && env.kindOf x == some .cell) = true
      · rw [if_pos hc, List.lookup_cons, List.lookup_cons, hx]
        show some NameKind.cell = some (if (k == NameKind.free && env.scope.kind == .function && env.kindOf x == some .cell) = true then NameKind.cell else k)
        rw [if_pos hc]
      · rw [if_neg hc, List.lookup_cons, List.lookup_cons, hx]
        show some k = some (if (k == NameKind.free && env.scope.kind == .function && env.kindOf x == some .cell) = true then NameKind.cell else k)
        rw [if_neg hc]
    | false =>
      by_cases hc : (k == NameKind.free && env.scope.kind == .function && env.kindOf n == some .cell) = true
      · rw [if_pos hc, List.lookup_cons, List.lookup_cons, hx]; exact ih
      · rw [if_neg hc, List.lookup_cons, List.lookup_cons, hx]; exact ih
section
variable {X : Cx} {pins : List (Addr × Obj)} {σ : St} {H : Hp} {s : Shared}
theorem inv_comp {scope : Scope} {N' : List Str} {inn : List (Option Nat)} {fp : List Addr} {h' : Heap} {C : Addr} (S : CompSc X scope N' inn) (I : Inv X pins σ H s) (hc : X.calm = true) (hCs : s.heap.objs.size ≤ C)
    (hfp : ∀ b ∈ fp, FpOk X pins H b) (hft : ∀ b ∈ fp, b < s.heap.objs.size) (hns : h'.Ns C fun _ => none) (hk : ∀ b o, s.heap.get? b = some o → h'.get? b = some o) (tk : Nat) :
    Inv (cxComp X scope N' s H fp C) [] (innS inn σ) H { s with heap := h', toks := tk } := by
  have hfree : ∀ y, (y, NameKind.free) ∈ scope.names → ∃ c, X.env.cells.lookup y = some c := fun y hy => I.ok.has y (S.frees y hy).2
  have look : ∀ x c, (clOf scope X.env).lookup x = some c → (x, NameKind.free) ∈ scope.names ∧ X.env.cells.lookup x = some c := fun x c e => by
    rcases clF_lookup scope.names [] x c e with ⟨h1, h2⟩ | h1
    · obtain ⟨c', hc'⟩ := hfree x h1
      rw [hc'] at h2
      exact ⟨h1, by rw [hc', h2]; rfl⟩
    · cases h1
  have cellLt : ∀ x c, X.env.cells.lookup x = some c → c < s.heap.objs.size := fun x c e => by
    obtain ⟨v, o, ho, _⟩ := I.cell x c e
    exact Heap.lt_size ho
  refine ⟨⟨I.ok.mod, ?kind, I.ok.glob, I.ok.blt, hCs, ?inj, ?has, ?cab, fun _ => I.ok.hd hc, I.ok.frames, .inl rfl, ?exf, I.bs, ?bsz, ?noex, ?exfs, I.stack, I.stkFree⟩, rfl, I.bare, Un.kept hk, ⟨_, hns, ?loc⟩, ?cell, I.hok.fresh hCs, ?freeC, ?pin, I.hok.kept hk, ?len⟩
  case kind => exact S.kind
  case inj => exact fun x y c h1 h2 => I.ok.inj x y c (look x c h1).2 (look y c h2).2
  case has =>
    intro x hx
    have hx' : (relabel scope X.env).names.lookup x = some .cell ∨ (relabel scope X.env).names.lookup x = some .free := hx
    have e : (relabel scope X.env).names.lookup x = (scope.names.lookup x).map fun k => if (k == NameKind.free && X.env.scope.kind == .function && X.env.kindOf x == some .cell) then NameKind.cell else k := relabel_look scope.names x
    rw [e] at hx'
    cases hl : scope.names.lookup x with
    | none => rw [hl] at hx'; rcases hx' with z | z <;> cases z
    | some k =>
      rw [hl] at hx'
      have hk : k = .free := by
        by_cases hkf : k = .free
        · exact hkf
        · exfalso
          have hb : (k == NameKind.free) = false := by simpa using hkf
          simp only [hb, Bool.false_and, if_false, Option.map_some] at hx'
          rcases hx' with z | z
          · have z' : k = .cell := by simpa using z
            exact S.nocell (x, k) (PySem.mem_of_lookup hl) z'
          · have z' : k = .free := by simpa using z
            exact hkf z'
      subst hk
      exact clF_has scope.names [] x (.inl (PySem.mem_of_lookup hl))
  case cab => exact fun x c h1 _ => absurd h1 (by show ¬ (false = true); decide)
  case exf =>
    intro b hb
    exact ⟨Nat.ne_of_lt (Nat.lt_of_lt_of_le (hft b hb) hCs), fun x c e => (hfp b hb).2.2.2.2.1 x c (look x c e).2⟩
  case bsz => exact Nat.le_trans I.ok.bsz I.sz
  case noex =>
    intro b o e hb
    have hz := (hfp b hb)
    rcases hz.2.2.2.1 with z | z
    · exact I.ok.noex b o e z
    · exact absurd (Nat.lt_of_lt_of_le (Heap.lt_size (I.ok.bs b o e).1) z) (Nat.lt_irrefl _)
  case exfs =>
    intro b hb hz
    rcases List.mem_cons.mp (I.stkSub b hz) with z | z
    · exact (hfp b hb).2.1 z
    · exact (hfp b hb).2.2.1 z
  case loc =>
    intro i x v h1 h2 h3
    unfold innS at h2
    rw [List.getElem?_map] at h2
    cases ho : inn[i]? with
    | none => rw [ho] at h2; cases h2
    | some o =>
      rw [ho] at h2
      cases o with
      | none => cases h2
      | some j =>
        obtain ⟨y, e1, e2, e3⟩ := S.inn i j ho
        have e4 : N'[i]? = some x := h1
        have e4' : y = x := by rw [e1] at e4; exact Option.some.inj e4
        subst e4'
        have h2' : (σ[j]?).join = some v := by simpa using h2
        have h2'' : σ[j]? = some (some v) := by
          cases q : σ[j]? with
          | none => rw [q] at h2'; cases h2'
          | some o => rw [q] at h2'; exact congrArg some h2'
        have vis : Vis X.env.scope y := .inr (S.frees y e3).2
        obtain ⟨m, hn, hl⟩ := I.loc
        obtain ⟨u, r, l⟩ := hl j y v e2 h2'' vis
        refine ⟨u, r, .inr ⟨?_, ?_⟩⟩
        · show (relabel scope X.env).names.lookup y = some .cell ∨ (relabel scope X.env).names.lookup y = some .free
          rw [show (relabel scope X.env).names.lookup y = (scope.names.lookup y).map fun k => if (k == NameKind.free && X.env.scope.kind == .function && X.env.kindOf y == some .cell) then NameKind.cell else k from relabel_look scope.names y, (S.frees y e3).1]
          simp only [Option.map_some]
          split
          · exact .inl rfl
          · exact .inr rfl
        · rcases l with ⟨k, _⟩ | ⟨_, c, hcl, hcell⟩
          · rcases (S.frees y e3).2 with z | z <;> rw [k] at z <;> cases z
          · obtain ⟨c', hc'⟩ := clF_has (env := X.env) scope.names [] y (.inl e3)
            have e5 := (look y c' hc').2
            rw [hcl] at e5; cases e5
            exact ⟨c, hc', let ⟨o, ho, hd⟩ := hcell; ⟨o, hk _ _ ho, hd⟩⟩
  case cell =>
    intro x c e
    obtain ⟨v, o, ho, hd⟩ := I.cell x c (look x c e).2
    exact ⟨v, o, hk _ _ ho, hd⟩
  case freeC => exact fun x c e => I.freeC x c (look x c e).2
  case pin => exact fun p hp => absurd (show p ∈ ([] : List (Addr × Obj)) from hp) (by simp)
  case len =>
    show (innS inn σ).length = N'.length
    unfold innS
    rw [List.length_map, S.len]
theorem srep_inn {K : PySem.W.Frag} {H : Hp} {σ : St} {δ : DS} (inn : List (Option Nat)) (h : SRep K H σ δ) : SRep K H (innS inn σ) (innD inn δ) := by
  refine ⟨by unfold innS innD; rw [List.length_map, List.length_map], h.2.1, fun i d e => ?_⟩
  unfold innD at e
  unfold innS
  rw [List.getElem?_map] at e ⊢
  cases ho : inn[i]? with
  | none => rw [ho] at e; cases e
  | some o =>
    rw [ho] at e
    cases o with
    | none => cases e
    | some j =>
      have e' : (δ[j]?).join = some d := by simpa using e
      obtain ⟨v, h1, h2⟩ := h.get e'
      exact ⟨v, by simp [h1], h2⟩
end
theorem compLoop_own {prog : Program} {w : World} {A : Around} {R : Result → Shared → Prop} {s : Shared} {elt target iter : Expr} {ifs : List Expr} {scope : Scope} {pos : Pos} {it acc : Value} {env : Env} (I : Nat → Shared → Prop)
    (turn : ∀ n s, I n s → wpAny (model prog w) A (pyNext it) (fun r s₁ => match r with
      | none => R (.ok .next) s₁
      | some v => wpAny (model prog w) A (letOwnedTupleGo target it v) (fun _ s₁' => wpAny (model prog w) A (assign target env v) (fun _ s₂ =>
          wpAny (model prog w) A (forIn ifs true fun c r => if r = true then do let ok ← isTrue c env (eval c env); pure (ForInStep.yield ok) else pure (ForInStep.yield r)) (fun ok s₃ =>
            if ok = true then wpAny (model prog w) A (eval elt env) (fun x s₄ =>
              wpAny (model prog w) A (call (.builtin "list.append") [acc, x]) (fun _ s₅ => ∃ m, m < n ∧ I m s₅) (fun _ _ => False) s₄) (fun _ _ => False) s₃
            else ∃ m, m < n ∧ I m s₃) (fun _ _ => False) s₂) (fun _ _ => False) s₁') (fun _ _ => False) s₁) (fun _ _ => False) s)
    (n : Nat) (h : I n s) :
    codeAny (model prog w) A (.compLoop (.ListComp elt [⟨target, iter, ifs, 0⟩] scope pos) 0 it acc env) R s := by
  refine codeAny_loop rfl I (fun n s hI => ?_) n h
  show wpAny _ A ((compTurn (.ListComp elt [⟨target, iter, ifs, 0⟩] scope pos) 0 it acc env).onRaise (fun x => do noteFrame x env; theTreesLotGoes x)) _ _ s
  refine wpAny_noted ?_
  rw [compTurn_list]
  refine wpAny_bind (wpAny_standAt (wpAny_bind (wpAny_mono (turn n s hI) (fun r s₁ h₁ => ?_) fun _ _ h' => h'.elim)))
  cases r with
  | none => exact wpAny_pure h₁
  | some v =>
    refine wpAny_bind (wpAny_mono h₁ (fun _ s₁' h₁' => ?_) fun _ _ h' => h'.elim)
    refine wpAny_bind (wpAny_mono h₁' (fun _ s₂ h₂ => wpAny_bind (wpAny_mono h₂ (fun ok s₃ h₃ => ?_) fun _ _ h' => h'.elim)) fun _ _ h' => h'.elim)
    cases ok with
    | false => exact wpAny_pure ⟨rfl, h₃⟩
    | true =>
      exact wpAny_bind (wpAny_bind (wpAny_mono h₃ (fun x s₄ h₄ => wpAny_bind (wpAny_mono h₄ (fun _ s₅ h₅ => wpAny_pure (wpAny_pure ⟨rfl, h₅⟩)) fun _ _ h' => h'.elim)) fun _ _ h' => h'.elim))
def PIfs (X : Cx) (ifs : List Expr) (f : DS → Option Bool) : Prop :=
  ∀ (pins : List (Addr × Obj)) (s : Shared) (σ : St) (H : Hp) (Q : Bool → Hp → Prop), Inv X pins σ H s → tT X.K f σ H Q →
    wpAny (model X.prog X.w) X.A (forIn ifs true fun c r => if r = true then do let ok ← isTrue c X.env (eval c X.env); pure (ForInStep.yield ok) else pure (ForInStep.yield r)) (TP X pins σ Q) X.xe s
theorem ifs_nil {X : Cx} : PIfs X [] (fun _ => some true) := fun pins s σ H Q I ⟨δ, b, sr, e, q⟩ => by
  cases e
  exact wpAny_tests_nil ⟨H, I, q H (Same.refl H)⟩
theorem ifs_one {X : Cx} {c : Expr} {f : DS → Option Bool} (h : PT X c (tT X.K f)) : PIfs X [c] f := fun pins s σ H Q I q => wpAny_tests_one (h pins s σ H Q I q)
def compD (h : D → DS → Option DS) (fc : DS → Option Bool) (fe : DS → Option D) (δ : DS) : List D → Option (List D)
  | [] => some []
  | d :: ds => (h d δ).bind fun δ1 => (fc δ1).bind fun c => if c = true then (fe δ1).bind fun x => (compD h fc fe δ1 ds).map fun xs => x :: xs else compD h fc fe δ1 ds
section
variable {X : Cx} {tg iter elt : Expr} {ifs : List Expr} {scope : Scope} {pos : Pos} {N' : List Str} {inn : List (Option Nat)} {fi : DS → Option (List D)} {h : D → DS → Option DS} {fc : DS → Option Bool} {fe : DS → Option D} {ks : List Nat}
theorem HOk.adopt {P : Program} {w : World} {H : Hp} {h : Heap} {a : Addr} {o : HO} (x : HOk P w H h) (hn : H a = none) (new : ObjOk P w (upd H a o) h a o) : HOk P w (upd H a o) h := fun b u e => by
  by_cases hb : b = a
  · subst hb
    rw [upd_same] at e; cases e
    exact new
  · rw [upd_ne hb] at e
    exact (x b u e).stay (fun _ _ _ q => q) (fun c q => by rw [upd_ne (ne_of_none q hn)]; exact q) (fun c xs q => by rw [upd_ne (ne_of_none q hn)]; exact q) fun c ob uu q => by rw [upd_ne (ne_of_none q hn)]; exact q
theorem Un.adopt {fs ex : List Addr} {H H1 : Hp} {h h1 : Heap} {a : Addr} {o : HO} (u : Un fs ex H H1 h h1) (hp : h.objs.size ≤ a) (hn : H a = none) : Un fs ex H (upd H1 a o) h h1 where
  keep := u.keep
  slot := u.slot
  free := fun b ob q n hx => by rw [upd_ne (Nat.ne_of_lt (Nat.lt_of_lt_of_le (Heap.lt_size q) hp))]; exact u.free b ob q n hx
  there := u.there
  tups := fun b xs q => by rw [upd_ne (ne_of_none q hn)]; exact u.tups b xs q
  frzs := fun b ob xs q => by rw [upd_ne (ne_of_none q hn)]; exact u.frzs b ob xs q
  tbls := fun b ps q => by rw [upd_ne (ne_of_none q hn)]; exact u.tbls b ps q
theorem comp_block (hc : X.calm = true) (S : CompSc X scope N' inn)
    (hin : ∀ (s : Shared) (H : Hp) (fp : List Addr) (C : Addr), TgD (cxComp X scope N' s H fp C) tg h ks ∧ PIfs (cxComp X scope N' s H fp C) ifs fc ∧ PE (cxComp X scope N' s H fp C) elt (tD X.K fe))
    {pins : List (Addr × Obj)} {σ : St} {H₀ : Hp} {δ : DS} {ds ys : List D} {s₂ : Shared} {it : Addr} {fp : List Addr} {tn : Nat → Heap → Prop} {J : It} {gh : List (V × D)} {E : Value → Shared → Prop} {RR : Value → Addr → Result → Shared → Prop}
    (I : Inv X pins σ H₀ s₂) (T : Turn X.prog X.w X.K tg J fp it tn) (st : tn 0 s₂.heap) (hfp : ∀ b ∈ fp, FpOk X pins H₀ b) (sr : SRep X.K H₀ σ δ) (hg : GRep X.K H₀ gh) (hJ : ItD X.K J gh ds) (hlen : ds.length ≤ sizeLine) (hys : compD h fc fe (innD inn δ) ds = some ys)
    (fin : ∀ (a C : Addr) (xs : List V) (H' : Hp) (s' : Shared) (m : Str → Option Value), H₀ a = none → Same H₀ H' → H' a = some (.lst xs) → Reps X.K H' ys xs → Inv X pins σ H' s' → s'.heap.Ns C m → FpOk X pins H' C → RR (.ref a) C (.ok .next) s') :
    wpAny (model X.prog X.w) X.A (newList []) (fun acc s₃ => wpAny (model X.prog X.w) X.A (newFunctionEnv scope X.env.globals (clOf scope X.env) [] X.env.qual none .none (some X.env)) (fun cenv s₄ =>
      codeAny (model X.prog X.w) X.A (.compStart (.ListComp elt [⟨tg, iter, ifs, 0⟩] scope pos) 0 (.ref it) acc { cenv with scope := relabel scope X.env }) (RR acc cenv.locals) s₄) E s₃) E s₂ := by
  have fpLt : ∀ b ∈ fp, b < s₂.heap.objs.size := fun b hb => by
    obtain ⟨o, e, _⟩ := T.obj 0 _ st b hb
    exact Heap.lt_size e
  refine wpAny_newObj_type ?_
  have hD : H₀ s₂.heap.objs.size = none := I.hok.fresh (Nat.le_refl _)
  refine wpAny_newFunctionEnv S.nocell (by intro y hy; simp at hy) (fun h₁ hns₁ hsb₁ => ?_) S.kind
  dsimp only at hns₁ hsb₁ ⊢
  generalize hH3 : s₂.heap.push { cls := .type "list", dict := none, data := .seq ([] : List Value).toArray } = H3 at hns₁ hsb₁ ⊢
  have hCe : H3.objs.size = s₂.heap.objs.size + 1 := by rw [← hH3, Heap.size_push]
  have hDC : s₂.heap.objs.size ≠ H3.objs.size := by rw [hCe]; exact Nat.ne_of_lt (Nat.lt_succ_self _)
  have hCle : s₂.heap.objs.size ≤ H3.objs.size := by rw [hCe]; exact Nat.le_succ _
  have old : ∀ b o, s₂.heap.get? b = some o → h₁.get? b = some o := fun b o e =>
    hsb₁.extBut b o (by rw [hCe]; exact Nat.ne_of_lt (Nat.lt_succ_of_lt (Heap.lt_size e))) (Heap.get?_push_of_some _ (hH3 ▸ Heap.get?_push_of_some _ e))
  have hacc : h₁.PlainList s₂.heap.objs.size #[] := ⟨_, hsb₁.extBut _ _ hDC (Heap.get?_push_of_some _ (hH3 ▸ Heap.get?_push_size _ rfl))⟩
  have st4 : tn 0 h₁ := T.keep _ _ _ st fun b _ o e => old b o e
  have I4 := inv_comp S I hc hCle hfp fpLt (by simpa using hns₁) old (s₂.toks + ([] : List (Str × Value)).length)
  have sr4 : SRep X.K H₀ (innS inn σ) (innD inn δ) := srep_inn inn sr
  obtain ⟨⟨g, hg1, hg2⟩, hif, hel⟩ := hin s₂ H₀ fp H3.objs.size
  generalize hX' : cxComp X scope N' s₂ H₀ fp H3.objs.size = X' at I4 hg1 hg2 hif hel
  have e1 : X'.prog = X.prog := by rw [← hX']; rfl
  have e2 : X'.w = X.w := by rw [← hX']; rfl
  have e3 : X'.A = X.A := by rw [← hX']; rfl
  have e4 : X'.K = X.K := by rw [← hX']; rfl
  have e5 : X'.calm = true := by rw [← hX']; rfl
  have e6 : X'.env = compEnvC scope (clOf scope X.env) H3.objs.size X.env := by rw [← hX']; rfl
  have e7 : X'.xe = fun _ _ => False := by rw [← hX']; rfl
  have e8 : X'.s₀ = s₂ := by rw [← hX']; rfl
  have e9 : X'.fs = frs X.stack := by rw [← hX']; rfl
  have e10 : X'.pn = [] := by rw [← hX']; rfl
  have e11 : X'.env.locals = H3.objs.size := by rw [e6]; rfl
  have fpx : ∀ b ∈ fp, b ∈ X'.ex := fun b hb => by rw [← hX']; exact hb
  have accOk : ∀ {σ' : St} {H' : Hp} {s' : Shared}, Inv X' [] σ' H' s' → s₂.heap.objs.size ≠ X'.env.locals ∧ s₂.heap.objs.size ∉ X'.fs ∧ (s₂.heap.objs.size ∈ X'.ex ∨ X'.s₀.heap.objs.size ≤ s₂.heap.objs.size) ∧ (∀ x c, X'.env.cells.lookup x = some c → c ≠ s₂.heap.objs.size) := fun {σ' H' s'} I' => by
    refine ⟨by rw [e11]; exact hDC, ?_, .inr (by rw [e8]; exact Nat.le_refl _), fun x c e z => ?_⟩
    · rw [e9]
      intro hb
      rcases List.mem_cons.mp (I.stkSub _ hb) with z | z
      · exact absurd I.lt (by rw [← z]; exact Nat.lt_irrefl _)
      · exact I.nofs (Nat.le_refl _) z
    · rw [e6] at e
      rcases clF_lookup scope.names [] x c e with ⟨h1, h2⟩ | h1
      · obtain ⟨c', hc'⟩ := I.ok.has x (S.frees x h1).2
        rw [hc'] at h2
        have h2' : c = c' := h2
        subst h2'
        obtain ⟨v, o, ho, _⟩ := I.cell x c hc'
        exact absurd (Heap.lt_size ho) (by rw [z]; exact Nat.lt_irrefl _)
      · cases h1
  have loop : ∀ s₄ : Shared, s₄ = { s₂ with heap := h₁, toks := s₂.toks + ([] : List (Str × Value)).length } →
      codeAny (model X.prog X.w) X.A (.compLoop (.ListComp elt [⟨tg, iter, ifs, 0⟩] scope pos) 0 (.ref it) (.ref s₂.heap.objs.size) (compEnvC scope (clOf scope X.env) H3.objs.size X.env)) (RR (.ref s₂.heap.objs.size) H3.objs.size) s₄ := by
    rintro s₄ rfl
    have noPin : ∀ p ∈ X'.pn ++ ([] : List (Addr × Obj)), False := fun p hp => by rw [e10] at hp; cases hp
    have stat : ∀ {σ' : St} {H' : Hp} {s' : Shared}, Inv X' [] σ' H' s' → (∀ b ∈ fp, H' b = none) → ∀ b ∈ fp, FpOk X' [] H' b := fun {σ' H' s'} I' hn b hb =>
      ⟨hn b hb, (I'.ok.exf b (fpx b hb)).1, I'.ok.exfs b (fpx b hb), .inl (fpx b hb), fun x c e => (I'.ok.exf b (fpx b hb)).2 x c e, fun p hp => (noPin p hp).elim⟩
    refine compLoop_own (fun n s' => ∃ (i : Nat) (σ' : St) (H' : Hp) (δ' : DS) (rest : List D) (us : List V) (its : List Value), Inv X' [] σ' H' s' ∧ tn i s'.heap ∧ (∀ b ∈ fp, H' b = none) ∧ H' s₂.heap.objs.size = none ∧ s'.heap.PlainList s₂.heap.objs.size its.toArray ∧ Vals us its ∧
      n = ds.length + 1 - i ∧ i ≤ ds.length ∧ ds.drop i = rest ∧ SRep X.K H' σ' δ' ∧
      GRep X.K H' gh ∧ Same H₀ H' ∧ us.length ≤ i ∧ ∃ ws vs', compD h fc fe δ' rest = some ws ∧ ys = vs' ++ ws ∧ Reps X.K H' vs' us) ?_ (ds.length + 1)
      ⟨0, innS inn σ, H₀, innD inn δ, ds, [], [], I4, st4, fun b hb => (hfp b hb).1, hD, hacc, .nil, rfl, Nat.zero_le _, rfl, sr4, hg, Same.refl _, Nat.zero_le _, ys, [], hys, rfl, reps_nil⟩
    rintro n s' ⟨i, σ', H', δ', rest, us, its, I', st', fr', hDn, hpl, hvs, hn, hi, hrest, sr', hg', same', hul, ws, vs', hws, hyv, hrv⟩
    have hDf : s₂.heap.objs.size ∉ fp := fun z => Nat.lt_irrefl _ (fpLt _ z)
    cases rest with
    | nil =>
      have hil : i = ds.length := by
        have := congrArg List.length hrest
        rw [List.length_drop, List.length_nil] at this; omega
      subst hil
      obtain ⟨na, hna⟩ := id hpl
      have I'p : Inv X' ([(s₂.heap.objs.size, _)]) σ' H' s' := I'.pins_of fun p hp => by
        have e : p = (s₂.heap.objs.size, _) := List.mem_singleton.mp hp
        subst e
        exact ⟨hna, hDn, (accOk I').1, (accOk I').2.1, fun v z => nomatch z⟩
      have fpo : ∀ b ∈ fp, FpOk X' [(s₂.heap.objs.size, { cls := .type "list", data := .seq its.toArray na })] H' b := fun b hb => by
        obtain ⟨f0, f1, f2, f3, f4, f5⟩ := stat I' fr' b hb
        refine ⟨f0, f1, f2, f3, f4, fun p hp => ?_⟩
        rcases List.mem_append.mp hp with z | z
        · exact f5 p (List.mem_append_left _ z)
        · have e : p = _ := List.mem_singleton.mp z
          subst e
          exact Nat.ne_of_gt (fpLt b hb)
      have := T.done X' e1 e2 e4 e5 _ _ s' σ' H' (fun _ _ => False) I'p fpo st' (hJ.stop H' hg')
      rw [e3] at this
      refine thn this fun r s1 ⟨hr, I1⟩ => ?_
      subst hr
      cases hws
      rw [List.append_nil] at hyv
      subst hyv
      have hpin := (I1.pin _ (List.mem_append_right _ (List.mem_singleton.mpr rfl))).1
      have hb := I1.base
      have hsz : us.length ≤ sizeLine := by omega
      have I6 : Inv X pins σ (upd H' s₂.heap.objs.size (.lst us)) s1 := by
        refine I.call' (ch := fp) ?_ (Un.adopt ?_ (Nat.le_refl _) hD) (HOk.adopt ?_ hDn ⟨hsz, its, na, hvs, hpin⟩) I1.bare ?_
        · have := I1.os; rw [e8] at this; exact this
        · rw [← hX'] at hb; exact hb
        · have := I1.hok; rw [e1, e2] at this; exact this
        · intro b hb
          obtain ⟨f0, f1, f2, f3, f4, f5⟩ := hfp b hb
          exact ⟨f3, f1, f4, f5⟩
      obtain ⟨m, hm, _⟩ := I1.loc
      have hfC := I1.free
      rw [e11] at hm hfC
      have SD : Same H' (upd H' s₂.heap.objs.size (.lst us)) := same_new hDn _
      refine fin _ _ us _ s1 m hD (same'.trans SD) upd_same (hrv.mono SD) I6 hm ?_
      exact I.fpOk hCle (by rw [upd_ne (Ne.symm hDC)]; exact hfC)
    | cons d rest =>
      have hlt : i < ds.length := by
        have := congrArg List.length hrest
        rw [List.length_drop, List.length_cons] at this; omega
      have hd : ds[i]? = some d ∧ ds.drop (i + 1) = rest := by
        rw [List.drop_eq_getElem_cons hlt] at hrest
        injection hrest with z1 z2
        exact ⟨by rw [List.getElem?_eq_getElem hlt, z1], z2⟩
      obtain ⟨na, hna⟩ := id hpl
      have I'p : Inv X' ([(s₂.heap.objs.size, { cls := .type "list", data := .seq its.toArray na })]) σ' H' s' := I'.pins_of fun p hp => by
        have e : p = (s₂.heap.objs.size, _) := List.mem_singleton.mp hp
        subst e
        exact ⟨hna, hDn, (accOk I').1, (accOk I').2.1, fun v z => nomatch z⟩
      have stat2 : ∀ {σ' : St} {H' : Hp} {s' : Shared}, Inv X' [] σ' H' s' → (∀ b ∈ fp, H' b = none) → ∀ b ∈ fp, FpOk X' [(s₂.heap.objs.size, { cls := .type "list", data := .seq its.toArray na })] H' b := fun {σ' H' s'} I' hn b hb => by
        obtain ⟨f0, f1, f2, f3, f4, f5⟩ := stat I' hn b hb
        refine ⟨f0, f1, f2, f3, f4, fun p hp => ?_⟩
        rcases List.mem_append.mp hp with z | z
        · exact f5 p (List.mem_append_left _ z)
        · have e : p = _ := List.mem_singleton.mp z
          subst e
          exact Nat.ne_of_gt (fpLt b hb)
      have unp : ∀ {pl : List (Addr × Obj)} {σ' : St} {H' : Hp} {s' : Shared}, Inv X' pl σ' H' s' → Inv X' [] σ' H' s' := fun I' => I'.pins_of fun p hp => nomatch hp
      have := T.item X' e1 e2 e4 e5 i _ s' σ' H' (fun _ _ => False) I'p (stat2 I' fr') st' (hJ.go i H' hg' hlt)
      rw [e3] at this
      refine thn this fun r s1 ⟨u, hr, h1⟩ => ?_
      subst hr
      refine thn h1 fun _ s5 ⟨x, H5, I5, r5, y5, st5, fr5⟩ => ?_
      obtain ⟨S5, rx⟩ := hJ.yld i H' x H5 d hg' hd.1 y5
      unfold compD at hws
      cases eb : h d δ' with
      | none => rw [eb] at hws; cases hws
      | some δ1 =>
        rw [eb] at hws
        cases ec : fc δ1 with
        | none => simp [ec] at hws
        | some c =>
          have I5' := I5.pinned (stat2 (unp I5) fr5) (T.obj _ _ st5)
          have W := hg1 _ s5 σ' H5 x u (fun σ6 H6 => H6 = H5 ∧ SRep X.K H6 σ6 δ1) I5' r5 (by
            refine hg2 x d σ' H5 δ' δ1 _ ?_ ?_ eb fun σ6 sr6 _ => ⟨rfl, by rw [e4] at sr6; exact sr6⟩
            · rw [e4]; exact rx
            · rw [e4]; exact sr'.mono S5)
          rw [e1, e2, e3, e6, e7] at W
          refine thn W fun _ s6 ⟨σ6, H6, I6, hH6, sr6⟩ => ?_
          subst hH6
          have W2 := hif _ s6 σ6 H6 (fun b H7 => b = c ∧ Same H6 H7) I6 (by rw [e4]; exact ⟨δ1, c, sr6, ec, fun H7 s7 => ⟨rfl, s7⟩⟩)
          rw [e1, e2, e3, e6, e7] at W2
          refine thn W2 fun ok s7 ⟨H7, I7, hok, S7⟩ => ?_
          subst hok
          have again : ∀ {σ8 : St} {H8 : Hp} {s8 : Shared}, Inv X' ([(s₂.heap.objs.size, { cls := .type "list", data := .seq its.toArray na })] ++ pinsAt fp s5.heap) σ8 H8 s8 → Inv X' [] σ8 H8 s8 ∧ tn (i + 1) s8.heap ∧ (∀ b ∈ fp, H8 b = none) ∧ s8.heap.get? s₂.heap.objs.size = some { cls := .type "list", data := .seq its.toArray na } ∧ H8 s₂.heap.objs.size = none := fun {σ8 H8 s8} I8 =>
            ⟨unp I8, T.keep _ _ _ st5 fun b hb o e => (I8.pin (b, o) (List.mem_append_right _ (List.mem_append_right _ (mem_pinsAt hb e)))).1, fun b hb => by
              obtain ⟨o, e, _⟩ := T.obj _ _ st5 b hb
              exact (I8.pin (b, o) (List.mem_append_right _ (List.mem_append_right _ (mem_pinsAt hb e)))).2.1,
              (I8.pin _ (List.mem_append_right _ (List.mem_append_left _ (List.mem_singleton.mpr rfl)))).1, (I8.pin _ (List.mem_append_right _ (List.mem_append_left _ (List.mem_singleton.mpr rfl)))).2.1⟩
          have S57 : Same H' H7 := S5.trans S7
          cases ok with
          | false =>
            rw [if_neg (by decide)]
            have hws' : compD h fc fe δ1 rest = some ws := by simpa [ec] using hws
            obtain ⟨I8, st8, fr8, ha8, hn8⟩ := again I7
            exact ⟨ds.length + 1 - (i + 1), by omega, i + 1, σ6, H7, δ1, rest, us, its, I8, st8, fr8, hn8, ⟨na, ha8⟩, hvs, rfl, hlt, hd.2, sr6.mono S7, hg'.mono S57, same'.trans S57, by omega, ws, vs', hws', hyv, hrv.mono S57⟩
          | true =>
            rw [if_pos rfl]
            cases ee : fe δ1 with
            | none => simp [ec, ee] at hws
            | some z =>
              cases ew : compD h fc fe δ1 rest with
              | none => simp [ec, ee, ew] at hws
              | some ws' =>
                have hws' : z :: ws' = ws := by simpa [ec, ee, ew] using hws
                subst hws'
                have W3 := hel _ s7 σ6 H7 (fun v H8 => Same H7 H8 ∧ Rep X.K H8 z v) I7 ⟨δ1, z, sr6.mono S7, ee, fun v H8 s8 rv => ⟨s8, rv⟩⟩
                rw [e1, e2, e3, e6, e7] at W3
                refine thn W3 fun v8 s8 ⟨vz, H8, I8, rz, S8, rvz⟩ => ?_
                have S08 : Same H' H8 := S57.trans S8
                obtain ⟨I9, st9, fr9, ha9, hn9⟩ := again I8
                have hil : its.length = us.length := hvs.length.symm
                refine wpAny_list_append_plain (hsz := by rw [List.size_toArray]; omega) ⟨na, ha9⟩ fun h₅ hl₅ hs₅ => ?_
                have a9 := accOk I9
                have I10 : Inv X' [] σ6 H8 { s8 with heap := h₅ } := I9.turned (t' := s8.toks) (fun b o hb e => hs₅.extBut b o hb e) hn9 a9.1 a9.2.2.1 a9.2.2.2 fun p hp => (noPin p hp).elim
                refine ⟨ds.length + 1 - (i + 1), by omega, i + 1, σ6, H8, δ1, rest, us ++ [vz], its ++ [v8], I10, T.keep _ _ _ st9 fun b hb o e => hs₅.extBut b o (fun z => hDf (z ▸ hb)) e, fr9, hn9, by simpa using hl₅, hvs.append (.cons rz .nil), rfl, hlt, hd.2, sr6.mono (S7.trans S8), hg'.mono S08, same'.trans S08, ?_, ws', vs' ++ [z], ew, ?_, (hrv.mono S08).append (reps_cons rvz reps_nil)⟩
                · rw [List.length_append, List.length_singleton]; omega
                · rw [hyv, List.append_assoc]; rfl
  exact codeAny_compStart_list (loop _ rfl) (T.self _ 0 _ _ _ st4 (loop _ rfl))
theorem f_comp (hc : X.calm = true) (S : CompSc X scope N' inn) (hi : PI X tg iter (tI X.K fi))
    (hin : ∀ (s : Shared) (H : Hp) (fp : List Addr) (C : Addr), TgD (cxComp X scope N' s H fp C) tg h ks ∧ PIfs (cxComp X scope N' s H fp C) ifs fc ∧ PE (cxComp X scope N' s H fp C) elt (tD X.K fe))
    (hs : ∀ x, foldedSetIterable iter X.env x = pure x := by intro _; rfl) :
    PE X (.ListComp elt [⟨tg, iter, ifs, 0⟩] scope pos) (tF X.K fun δ => (fi δ).bind fun ds => compD h fc fe (innD inn δ) ds) := by
  intro pins s σ H Q I ⟨δ, ys, sr, e, q⟩
  try dsimp only at e
  try dsimp only at ef
  cases ei : fi δ with
  | none => rw [ei] at e; cases e
  | some ds =>
    rw [ei] at e
    have hys : compD h fc fe (innD inn δ) ds = some ys := e
    have hcl : closureFor scope X.env = pure (clOf scope X.env) := closureFor_clOf fun y hy => I.ok.has y (S.frees y hy).2
    rw [eval_ListComp]
    refine wpAny_comprehension_free (use := none) rfl hs hcl S.kind S.locs (thn (hi pins s σ H (fun J H' => ∃ gh, Same H H' ∧ GRep X.K H' gh ∧ ItD X.K J gh ds ∧ ds.length ≤ sizeLine) I ⟨δ, ds, sr, ei, fun J gh H' s' g i l => ⟨gh, s', g, i, l⟩⟩) fun v s1 h1 => thn h1 fun itv s2 h2 => ?_)
    obtain ⟨it, fp, tn, J, H2, rfl, I2, T, st, hfp, gh, S2, hg, hJ, hl⟩ := h2
    refine comp_block (RR := fun acc C => compPost (model X.prog X.w) X.A X.xe none (EP X pins σ Q) acc C) hc S hin I2 T st hfp (sr.mono S2) hg hJ hl hys ?_
    intro a C xs H' s' m ha S' ha' hr I' hm fC
    refine ⟨m, hm, fun h'' hs'' => ?_⟩
    obtain ⟨f0, f1, f2, f3, f4, f5⟩ := fC
    exact ⟨.ref a, H', I'.turned (t' := s'.toks) (fun b o hb e => hs''.extBut b o hb e) f0 f1 f3 f4 f5, rfl, q a xs H' (S2.free ha) (S2.trans S') ha' hr⟩
theorem d_comp (hc : X.calm = true) (S : CompSc X scope N' inn) (hi : PI X tg iter (tI X.K fi))
    (hin : ∀ (s : Shared) (H : Hp) (fp : List Addr) (C : Addr), TgD (cxComp X scope N' s H fp C) tg h ks ∧ PIfs (cxComp X scope N' s H fp C) ifs fc ∧ PE (cxComp X scope N' s H fp C) elt (tD X.K fe))
    (hs : ∀ x, foldedSetIterable iter X.env x = pure x := by intro _; rfl) :
    PE X (.ListComp elt [⟨tg, iter, ifs, 0⟩] scope pos) (tD X.K fun δ => ((fi δ).bind fun ds => compD h fc fe (innD inn δ) ds).map D.lst) := d_of_f (f_comp hc S hi hin hs)
end
end L2
set_option Elab.async false
set_option linter.all false
set_option maxRecDepth 100000
namespace L2
open PySem PySem.Spec PyProof.Rows
inductive DF where
  | nx (δ : DS) | rt (d : D) | bk (δ : DS) | ct (δ : DS)
structure SOk (K : PySem.W.Frag) (H₀ : Hp) (gh : List (V × D)) (ow : List Nat) (H : Hp) (σ : St) (δ : DS) : Prop where
  same : Same H₀ H
  rep : SRep K H σ δ
  gr : GRep K H gh
  own : ∀ i ∈ ow, ∀ a, σ[i]? = some (some (.ref a)) → H₀ a = none
def DF.ok (K : PySem.W.Frag) (H₀ : Hp) (gh : List (V × D)) (ow owL : List Nat) (E : Ends) : DF → Prop
  | .nx δ => ∀ σ H, SOk K H₀ gh ow H σ δ → E.nx σ H
  | .rt d => ∀ v H, Same H₀ H → Rep K H d v → E.rt v H
  | .bk δ => ∀ σ H, SOk K H₀ gh owL H σ δ → E.bk σ H
  | .ct δ => ∀ σ H, SOk K H₀ gh owL H σ δ → E.ct σ H
def tS (K : PySem.W.Frag) (H₀ : Hp) (gh : List (V × D)) (ow ow' owL : List Nat) (g : DS → Option DF) : TS := fun E σ H => ∃ δ fl, SOk K H₀ gh ow H σ δ ∧ g δ = some fl ∧ fl.ok K H₀ gh ow' owL E
theorem SOk.weak {K : PySem.W.Frag} {H₀ : Hp} {gh : List (V × D)} {ow ow' : List Nat} {H : Hp} {σ : St} {δ : DS} (h : SOk K H₀ gh ow H σ δ) (s : ∀ i ∈ ow', i ∈ ow) : SOk K H₀ gh ow' H σ δ := ⟨h.same, h.rep, h.gr, fun i hi => h.own i (s i hi)⟩
theorem SOk.mono {K : PySem.W.Frag} {H₀ : Hp} {gh : List (V × D)} {ow : List Nat} {H H' : Hp} {σ : St} {δ : DS} (h : SOk K H₀ gh ow H σ δ) (s : Same H H') : SOk K H₀ gh ow H' σ δ := ⟨h.same.trans s, h.rep.mono s, h.gr.mono s, h.own⟩
theorem SOk.set {K : PySem.W.Frag} {H₀ : Hp} {gh : List (V × D)} {ow : List Nat} {H : Hp} {σ : St} {δ : DS} {d : D} {v : V} (h : SOk K H₀ gh ow H σ δ) (r : Rep K H d v) (i : Nat) : SOk K H₀ gh (ow.filter (· ≠ i)) H (σ.set i (some v)) (δ.set i (some d)) := by
  refine ⟨h.same, h.rep.set r i, h.gr, fun j hj a e => ?_⟩
  obtain ⟨hj1, hj2⟩ := List.mem_filter.mp hj
  have hne : j ≠ i := of_decide_eq_true hj2
  rw [List.getElem?_set_ne (Ne.symm hne)] at e
  exact h.own j hj1 a e
theorem SOk.setOwn {K : PySem.W.Frag} {H₀ : Hp} {gh : List (V × D)} {ow : List Nat} {H : Hp} {σ : St} {δ : DS} {d : D} {a : Addr} (h : SOk K H₀ gh ow H σ δ) (r : Rep K H d (.ref a)) (ha : H₀ a = none) (i : Nat) : SOk K H₀ gh (i :: ow) H (σ.set i (some (.ref a))) (δ.set i (some d)) := by
  refine ⟨h.same, h.rep.set r i, h.gr, fun j hj b e => ?_⟩
  by_cases hji : j = i
  · subst hji
    rw [List.getElem?_set_self'] at e
    cases hq : σ[j]? with
    | none => rw [hq] at e; cases e
    | some o => rw [hq] at e; cases e; exact ha
  · rw [List.getElem?_set_ne (Ne.symm hji)] at e
    exact h.own j ((List.mem_cons.mp hj).resolve_left hji) b e
section
variable {X : Cx} {H₀ : Hp} {gh : List (V × D)} {ow ow1 ow' owL : List Nat} {a b e : Expr} {es : List Expr} {pos p : Pos} {fa fb : DS → Option D} {st : Stmt} {sts : List Stmt} {g g' : DS → Option DF}
theorem s_nil : PSs X [] (tS X.K H₀ gh ow ow owL fun δ => some (.nx δ)) := PSs.imp pss_nil fun E σ H ⟨δ, fl, so, e, q⟩ => by
  cases e
  exact q σ H so
def seqF (g g' : DS → Option DF) : DS → Option DF := fun δ => (g δ).bind fun fl => match fl with
  | .nx δ' => g' δ'
  | fl => some fl
theorem s_cons (h1 : PS X st (tS X.K H₀ gh ow ow1 owL g)) (h2 : PSs X sts (tS X.K H₀ gh ow1 ow' owL g')) : PSs X (st :: sts) (tS X.K H₀ gh ow ow' owL (seqF g g')) := PSs.imp (pss_cons h1 h2) fun E σ H ⟨δ, fl, so, e, q⟩ => by
  unfold seqF at e
  cases eg : g δ with
  | none => rw [eg] at e; cases e
  | some f1 =>
    rw [eg] at e
    refine ⟨δ, f1, so, eg, ?_⟩
    cases f1 with
    | nx δ' => exact fun σ' H' so' => ⟨δ', fl, so', e, q⟩
    | rt d => cases e; exact q
    | bk δ' => cases e; exact q
    | ct δ' => cases e; exact q
theorem s_one (h1 : PS X st (tS X.K H₀ gh ow ow' owL g)) : PSs X [st] (tS X.K H₀ gh ow ow' owL g) := pss_one h1
theorem s_ret (ha : PE X a (tD X.K fa)) : PS X (.Return (some a) pos) (tS X.K H₀ gh ow ow' owL fun δ => (fa δ).map .rt) := PS.imp (ps_ret ha) fun E σ H ⟨δ, fl, so, e, q⟩ => by
  dsimp only at e
  cases ea : fa δ with
  | none => rw [ea] at e; cases e
  | some d => rw [ea] at e; cases e; exact ⟨δ, d, so.rep, ea, fun v H' s rv => q v H' (so.same.trans s) rv⟩
theorem ss_weak (ow2 : List Nat) (s : ∀ i ∈ ow2, i ∈ ow') (h : PSs X sts (tS X.K H₀ gh ow ow' owL g)) : PSs X sts (tS X.K H₀ gh ow ow2 owL g) := PSs.imp h fun E σ H ⟨δ, fl, so, e, q⟩ => ⟨δ, fl, so, e, by
  cases fl with
  | nx δ' => exact fun σ' H' so' => q σ' H' (so'.weak s)
  | rt d => exact q
  | bk d => exact q
  | ct d => exact q⟩
theorem s_if {c : Expr} {ys zs : List Stmt} {tc : DS → Option Bool} (hc : PT X c (tT X.K tc)) (hy : PSs X ys (tS X.K H₀ gh ow ow' owL g)) (hz : PSs X zs (tS X.K H₀ gh ow ow' owL g')) :
    PS X (.If c ys zs pos) (tS X.K H₀ gh ow ow' owL fun δ => (tc δ).bind fun k => if k = true then g δ else g' δ) := PS.imp (ps_if hc hy hz) fun E σ H ⟨δ, fl, so, e, q⟩ => by
  dsimp only at e
  cases et : tc δ with
  | none => rw [et] at e; cases e
  | some k =>
    rw [et] at e
    refine ⟨δ, k, so.rep, et, fun H' s => ?_⟩
    have e' : (if k = true then g δ else g' δ) = some fl := e
    cases k with
    | true => exact iteT ⟨δ, fl, so.mono s, e', q⟩
    | false => exact iteF ⟨δ, fl, so.mono s, e', q⟩
theorem s_set (i : Nat) {x : Str} {pos' : Pos} (hN : X.N.Nodup) (hi : X.N[i]? = some x) (hx : Loc X.env.scope x) (ha : PE X a (tD X.K fa)) (hs : swapsWith a (some (.Name x pos')) pos.line X.env = pure false := by rfl)
    (hf : X.fn x = true ∨ X.env.scope.names.lookup x = some .local := by first | exact .inl rfl | exact .inr rfl | assumption) :
    PS X (.Assign [.Name x pos'] a pos) (tS X.K H₀ gh ow (ow.filter (· ≠ i)) owL fun δ => (fa δ).map fun d => .nx (δ.set i (some d))) := PS.imp (ps_set hN hi hx ha hs hf) fun E σ H ⟨δ, fl, so, e, q⟩ => by
  dsimp only at e
  cases ea : fa δ with
  | none => rw [ea] at e; cases e
  | some d => rw [ea] at e; cases e; exact ⟨δ, d, so.rep, ea, fun v H' s rv => q _ H' ((so.mono s).set rv i)⟩
theorem s_setF (i : Nat) {x : Str} {pos' : Pos} {ff : DS → Option (List D)} (hN : X.N.Nodup) (hi : X.N[i]? = some x) (hx : Loc X.env.scope x) (ha : PE X a (tF X.K ff)) (hs : swapsWith a (some (.Name x pos')) pos.line X.env = pure false := by rfl)
    (hf : X.fn x = true ∨ X.env.scope.names.lookup x = some .local := by first | exact .inl rfl | exact .inr rfl | assumption) :
    PS X (.Assign [.Name x pos'] a pos) (tS X.K H₀ gh ow (i :: ow) owL fun δ => (ff δ).map fun ds => .nx (δ.set i (some (.lst ds)))) := PS.imp (ps_set hN hi hx ha hs hf) fun E σ H ⟨δ, fl, so, e, q⟩ => by
  dsimp only at e
  cases ea : ff δ with
  | none => rw [ea] at e; cases e
  | some ds => rw [ea] at e; cases e; exact ⟨δ, ds, so.rep, ea, fun l xs H' hl s hl' rs => q _ H' ((so.mono s).setOwn (rep_lst hl' rs) (so.same.free hl) i)⟩
section
variable {tg iter elt : Expr} {ifs : List Expr} {scope : Scope} {cpos : Pos} {N' : List Str} {inn : List (Option Nat)} {fi : DS → Option (List D)} {h : D → DS → Option DS} {fc : DS → Option Bool} {fe : DS → Option D} {ks : List Nat}
theorem s_comp (i : Nat) {x : Str} {pos' : Pos} (hN : X.N.Nodup) (hi : X.N[i]? = some x) (hx : Loc X.env.scope x) (hsw : swapsWith (.ListComp elt [⟨tg, iter, ifs, 0⟩] scope cpos) (some (.Name x pos')) pos.line X.env = pure true)
    (hc : X.calm = true) (S : CompSc X scope N' inn) (hit : PI X tg iter (tI X.K fi))
    (hin : ∀ (s : Shared) (H : Hp) (fp : List Addr) (C : Addr), TgD (cxComp X scope N' s H fp C) tg h ks ∧ PIfs (cxComp X scope N' s H fp C) ifs fc ∧ PE (cxComp X scope N' s H fp C) elt (tD X.K fe))
    (hs : ∀ x, foldedSetIterable iter X.env x = pure x := by intro _; rfl)
    (hf : X.fn x = true ∨ X.env.scope.names.lookup x = some .local := by first | exact .inl rfl | exact .inr rfl | assumption) :
    PS X (.Assign [.Name x pos'] (.ListComp elt [⟨tg, iter, ifs, 0⟩] scope cpos) pos) (tS X.K H₀ gh ow (i :: ow) owL fun δ => ((fi δ).bind fun ds => compD h fc fe (innD inn δ) ds).map fun ds => .nx (δ.set i (some (.lst ds)))) := by
  intro pins s σ H E I ⟨δ, fl, so, e, q⟩
  dsimp only at e
  cases ei : fi δ with
  | none => rw [ei] at e; cases e
  | some ds =>
    rw [ei] at e
    cases ey : compD h fc fe (innD inn δ) ds with
    | none => simp [ey] at e
    | some ys =>
      have e' : DF.nx (δ.set i (some (.lst ys))) = fl := by simpa [ey] using e
      subst e'
      have hcl : closureFor scope X.env = pure (clOf scope X.env) := closureFor_clOf fun y hy => I.ok.has y (S.frees y hy).2
      rw [exec_Assign_Name_used _ _ _ _ hsw]
      refine wpAny_bind (wpAny_standAt (wpAny_bind ?_))
      show wpAny _ X.A (do let _ ← comprehension (.ListComp elt [⟨tg, iter, ifs, 0⟩] scope cpos) scope X.env _ (newList []) false (eval iter X.env) (some (assign (.Name x pos') X.env))) _ _ s
      refine wpAny_bind (wpAny_mono (wpAny_comprehension_free (use := some (assign (.Name x pos') X.env)) (Q := fun _ s' => SP X pins E .next s') rfl hs hcl S.kind S.locs
        (thn (hit pins s σ H (fun J H' => ∃ gh', Same H H' ∧ GRep X.K H' gh' ∧ ItD X.K J gh' ds ∧ ds.length ≤ sizeLine) I ⟨δ, ds, so.rep, ei, fun J gh' H' s' g i l => ⟨gh', s', g, i, l⟩⟩) fun v s1 h1 => thn h1 fun itv s2 h2 => ?_))
        (fun _ s' hq => wpAny_pure (wpAny_pure hq)) fun _ _ e => e)
      obtain ⟨it, fp, tn, J, H2, rfl, I2, T, st, hfp, gh', S2, hg, hJ, hl⟩ := h2
      refine comp_block (RR := fun acc C => compPost (model X.prog X.w) X.A X.xe (some (assign (.Name x pos') X.env)) (fun _ s' => SP X pins E .next s') acc C) hc S hin I2 T st hfp (so.rep.mono S2) hg hJ hl ey ?_
      intro l C xs H' s' m hl0 S' hl' hr I' hm fC
      show wpAny (model X.prog X.w) X.A (assign (.Name x pos') X.env (.ref l)) _ X.xe s'
      refine wpAny_assign_Name (store_ok2 I' hN hi hx (v := .ref l) rfl (fun s'' I'' hk => ?_) hf)
      obtain ⟨f0, f1, f2, f3, f4, f5⟩ := fC
      obtain ⟨ad, hsb, had⟩ := hk
      have hCa : C ≠ ad := by
        rcases had with z | z
        · rw [z]; exact f1
        · exact fun w => f4 x ad z w.symm
      refine ⟨m, hm.sameBut hsb hCa, fun h' hs' => ⟨_, H', I''.turned (t' := s''.toks) (fun b o hb e => hs'.extBut b o hb e) f0 f1 f3 f4 f5, q _ H' ?_⟩⟩
      exact (so.mono (S2.trans S')).setOwn (rep_lst hl' hr) (so.same.free (S2.free hl0)) i
end
def forD (h : D → DS → Option DS) (gb : DS → Option DF) : List D → DS → Option DF
  | [], δ => some (.nx δ)
  | d :: ds, δ => (h d δ).bind fun δ1 => (gb δ1).bind fun fl => match fl with
    | .nx δ2 => forD h gb ds δ2
    | .ct δ2 => forD h gb ds δ2
    | .bk δ2 => some (.nx δ2)
    | .rt d => some (.rt d)
theorem for_core {tg iter : Expr} {body : List Stmt} {h : D → DS → Option DS} {ks : List Nat} {gb : DS → Option DF} {ds : List D} {gt : TG} {J : It} {gx : List (V × D)} {E : Ends} {σ : St} {H : Hp} {δ : DS} {fl : DF} {B : TS} (hB : ∀ E σ H, tS X.K H₀ (gx ++ gh) ow ow ow gb E σ H → B E σ H) (hgt : ∀ (v : V) (d : D) (σ : St) (H : Hp) (δ δ' : DS) (Q : St → Hp → Prop), Rep X.K H d v → SRep X.K H σ δ → h d δ = some δ' →
      (∀ σ', SRep X.K H σ' δ' → (∀ k, k ∉ ks → σ'[k]? = σ[k]?) → Q σ' H) → gt v σ H Q) (hks : ∀ k ∈ ks, k ∉ ow)
    (so : SOk X.K H₀ (gx ++ gh) ow H σ δ) (hJ : ItD X.K J gx ds) (e : forD h gb ds δ = some fl) (q : fl.ok X.K H₀ gh ow owL E) :
    ∃ W : Nat → Nat → St → Hp → Prop, (∃ m, W 0 m σ H) ∧ ∀ i m σ H, W i m σ H →
      (J.stop i H ∧ E.nx σ H) ∨ (J.go i H ∧ ∃ N : St → Hp → Prop, (∀ σ' H', N σ' H' → ∃ m', m' < m ∧ W (i + 1) m' σ' H') ∧ ∀ x H', J.yld i H x H' → gt x σ H' fun σ2 H2 => B { E with nx := N, ct := N, bk := E.nx } σ2 H2) := by
  have weakG : ∀ {H : Hp} {σ : St} {δ : DS}, SOk X.K H₀ (gx ++ gh) ow H σ δ → SOk X.K H₀ gh ow H σ δ := fun so => ⟨so.same, so.rep, fun p hp => so.gr p (List.mem_append_right _ hp), so.own⟩
  refine ⟨fun i m σ H => m = ds.length + 1 - i ∧ i ≤ ds.length ∧ ∃ δ, SOk X.K H₀ (gx ++ gh) ow H σ δ ∧ forD h gb (ds.drop i) δ = some fl, ⟨_, rfl, Nat.zero_le _, δ, so, e⟩, ?_⟩
  rintro i m σ H ⟨hm, hi, δ, so, e⟩
  have hg : GRep X.K H gx := fun p hp => so.gr p (List.mem_append_left _ hp)
  by_cases hlt : i < ds.length
  · rw [List.drop_eq_getElem_cons hlt] at e
    unfold forD at e
    cases eb : h ds[i] δ with
    | none => rw [eb] at e; cases e
    | some δ1 =>
      rw [eb] at e
      cases eg : gb δ1 with
      | none => simp [eg] at e
      | some f1 =>
        refine .inr ⟨hJ.go i H hg hlt, fun σ' H' => ∃ δ2, SOk X.K H₀ (gx ++ gh) ow H' σ' δ2 ∧ forD h gb (ds.drop (i + 1)) δ2 = some fl, fun σ' H' ⟨δ2, so2, e2⟩ => ⟨ds.length + 1 - (i + 1), by omega, rfl, hlt, δ2, so2, e2⟩, fun x H' y => ?_⟩
        obtain ⟨S, rx⟩ := hJ.yld i H x H' ds[i] hg (List.getElem?_eq_getElem hlt) y
        have so' := so.mono S
        refine hgt x ds[i] σ H' δ δ1 _ rx so'.rep eb fun σ2 sr2 hk2 => hB _ _ _ ⟨δ1, f1, ⟨so'.same, sr2, so'.gr, fun j hj ad ea => so'.own j hj ad (by rw [← hk2 j fun z => hks j z hj]; exact ea)⟩, eg, ?_⟩
        cases f1 with
        | nx δ2 => exact fun σ3 H3 so3 => ⟨δ2, so3, by simpa [eg] using e⟩
        | ct δ2 => exact fun σ3 H3 so3 => ⟨δ2, so3, by simpa [eg] using e⟩
        | bk δ2 => have e' : DF.nx δ2 = fl := by simpa [eg] using e
                   subst e'; exact fun σ3 H3 so3 => q σ3 H3 (weakG so3)
        | rt d => have e' : DF.rt d = fl := by simpa [eg] using e
                  subst e'; exact q
  · have hil : i = ds.length := by omega
    subst hil
    rw [List.drop_length] at e
    cases e
    exact .inl ⟨hJ.stop H hg, q σ H (weakG so)⟩
theorem s_for {tg iter : Expr} {body : List Stmt} {fi : DS → Option (List D)} {h : D → DS → Option DS} {ks : List Nat} {gb : DS → Option DF} (hp : PassesOwn (model X.prog X.w) X.A X.env X.xe) (hc : X.calm = true) (hit : PI X tg iter (tI X.K fi)) (hg : TgD X tg h ks) (hks : ∀ k ∈ ks, k ∉ ow)
    (hb : ∀ gh : List (V × D), PSs X body (tS X.K H₀ gh ow ow ow gb)) (hs : ∀ x, foldedSetIterable iter X.env x = pure x := by intro _; rfl) :
    PS X (.For tg iter body [] pos) (tS X.K H₀ gh ow ow owL fun δ => (fi δ).bind fun ds => forD h gb ds δ) := by
  obtain ⟨gt, hg1, hgt⟩ := hg
  intro pins s σ H E I ⟨δ, fl, so, e, q⟩
  dsimp only at e
  cases ei : fi δ with
  | none => rw [ei] at e; cases e
  | some ds =>
    rw [ei] at e
    refine ps_for hp hc (PI.imp hit (t' := fun σ' H' R => tI X.K fi σ' H' R) fun _ _ _ z => z) hg1 (tb := fun E' σ' H' => ∃ gx : List (V × D), tS X.K H₀ (gx ++ gh) ow ow ow gb E' σ' H') (fun pins s σ H E I ⟨gx, z⟩ => hb (gx ++ gh) pins s σ H E I z) hs pins s σ H E I ?_
    refine ⟨δ, ds, so.rep, ei, fun J gx H' S hgx hJ _ => ?_⟩
    have so' := so.mono S
    exact for_core (E := E) (tg := tg) (iter := iter) (body := body) (owL := owL) (B := fun E' σ' H' => ∃ gx : List (V × D), tS X.K H₀ (gx ++ gh) ow ow ow gb E' σ' H') (fun _ _ _ z => ⟨_, z⟩) hgt hks ⟨so'.same, so'.rep, fun p hp => (List.mem_append.mp hp).elim (hgx p) (so'.gr p), so'.own⟩ hJ e q
end
end L2
set_option Elab.async false
set_option linter.all false
set_option maxRecDepth 100000
namespace L2
open PySem PySem.Spec PyProof.Rows
mutual
def noL : D → Bool
  | .lst _ => false
  | .tup xs => noLs xs
  | .fro xs => noLs xs
  | _ => true
def noLs : List D → Bool
  | [] => true
  | d :: ds => noL d && noLs ds
end
section
variable {K : PySem.W.Frag} {H : Hp} {l : Addr} {xs : List V} {o : HO}
mutual
theorem Rep.upd (hl : H l = some (.lst xs)) : ∀ {d : D} {v : V}, noL d = true → Rep K H d v → Rep K (upd H l o) d v
  | .non, _, _, h => by simpa only [Rep] using h
  | .bl _, _, _, h => by simpa only [Rep] using h
  | .int _, _, _, h => by simpa only [Rep] using h
  | .str _, _, _, h => by simpa only [Rep] using h
  | .ty _, _, _, h => by simpa only [Rep] using h
  | .lst ds, _, n, _ => by simp [noL] at n
  | .tup ds, v, n, h => by
    obtain ⟨a, ys, e, q, r⟩ := h.tup_of
    subst e
    exact rep_tup (by rw [upd_ne (ne_of q hl (by intro z; cases z))]; exact q) (Reps.upd hl (by simpa [noL] using n) r)
  | .fro ds, v, n, h => by
    obtain ⟨a, ys, e, q, r⟩ := h.fro_of
    subst e
    refine rep_fro ?_ (Reps.upd hl (by simpa [noL] using n) r)
    rcases q with ⟨ob, q⟩ | q
    · exact .inl ⟨ob, by rw [upd_ne (ne_of q hl (by intro z; cases z))]; exact q⟩
    · exact .inr q
theorem Reps.upd (hl : H l = some (.lst xs)) : ∀ {ds : List D} {vs : List V}, noLs ds = true → Reps K H ds vs → Reps K (upd H l o) ds vs
  | [], _, _, h => by rw [h.nil_of]; exact reps_nil
  | d :: ds, _, n, h => by
    obtain ⟨v, r, rfl, q, t⟩ := h.cons_of
    have n' : noL d = true ∧ noLs ds = true := by simpa [noLs] using n
    exact reps_cons (Rep.upd hl n'.1 q) (Reps.upd hl n'.2 t)
end
end
def othersFrom (i : Nat) : Nat → DS → Bool
  | _, [] => true
  | k, o :: r => (decide (k = i) || (match o with | some d => noL d | none => true)) && othersFrom i (k + 1) r
def others (i : Nat) (δ : DS) : Bool := othersFrom i 0 δ
theorem othersFrom_get {i : Nat} : ∀ {k : Nat} {δ : DS}, othersFrom i k δ = true → ∀ (j : Nat) (d : D), δ[j]? = some (some d) → k + j ≠ i → noL d = true
  | _, [], _, j, d, e, _ => by simp at e
  | k, o :: r, h, 0, d, e, ne => by
    simp at e; subst e
    unfold othersFrom at h
    have h1 := (Bool.and_eq_true_iff.mp h).1
    rcases Bool.or_eq_true_iff.mp h1 with z | z
    · exact absurd (of_decide_eq_true z) ne
    · exact z
  | k, o :: r, h, j + 1, d, e, ne => by
    unfold othersFrom at h
    exact othersFrom_get (Bool.and_eq_true_iff.mp h).2 j d (by simpa using e) (by omega)
section
variable {X : Cx} {H₀ : Hp} {gh : List (V × D)} {ow ow1 ow' owL : List Nat} {a b e : Expr} {es : List Expr} {pos p : Pos} {fa fb : DS → Option D} {st : Stmt} {sts : List Stmt} {g g' : DS → Option DF}
theorem SOk.write {K : PySem.W.Frag} {H : Hp} {σ : St} {δ : DS} {i : Nat} {l : Addr} {xs ys : List V} {ds' : List D} (so : SOk K H₀ gh ow H σ δ) (hi : i ∈ ow) (hσ : σ[i]? = some (some (.ref l))) (hl : H l = some (.lst xs)) (ho : others i δ = true) (hgh : ∀ p ∈ gh, noL p.2 = true)
    (rs : Reps K H ds' ys) (nl : noLs ds' = true) : SOk K H₀ gh ow (upd H l (.lst ys)) σ (δ.set i (some (.lst ds'))) := by
  have h0 := so.own i hi l hσ
  refine ⟨fun b o e => ?_, ⟨by rw [List.length_set]; exact so.rep.1, fun x hx c P e => (by have z := so.rep.2.1 x hx c P e; rw [upd_ne (ne_of z hl (by intro q; cases q))]; exact z), fun j d e => ?_⟩, fun p hp => Rep.upd hl (hgh p hp) (so.gr p hp), so.own⟩
  · rw [upd_ne (ne_of_none e h0)]; exact so.same b o e
  · by_cases hj : j = i
    · subst hj
      rw [List.getElem?_set_self'] at e
      cases q : δ[j]? with
      | none => rw [q] at e; cases e
      | some o => rw [q] at e; cases e; exact ⟨.ref l, hσ, rep_lst upd_same (Reps.upd hl nl rs)⟩
    · rw [List.getElem?_set_ne (Ne.symm hj)] at e
      obtain ⟨v, h1, h2⟩ := so.rep.2.2 j d e
      exact ⟨v, h1, Rep.upd hl (othersFrom_get ho j d e (by omega)) h2⟩
def appF (i : Nat) (fa : DS → Option D) : DS → Option DF := fun δ => (fa δ).bind fun d => match (δ[i]?).join with
  | some (.lst ds) => if fit (ds.length + 1) = true ∧ noLs ds = true ∧ noL d = true ∧ others i δ = true then some (.nx (δ.set i (some (.lst (ds ++ [d]))))) else none
  | _ => none
theorem noLs_app : ∀ {ds es : List D}, noLs ds = true → noLs es = true → noLs (ds ++ es) = true
  | [], _, _, h => h
  | d :: ds, es, h, g => by
    have n' : noL d = true ∧ noLs ds = true := by simpa [noLs] using h
    simp [noLs, n'.1, noLs_app n'.2 g]
theorem s_append (i : Nat) {x : Str} {px pa pc : Pos} (hi : i ∈ ow) (hN : X.N[i]? = some x) (hv : Vis X.env.scope x) (hgh : ∀ p ∈ gh, noL p.2 = true) (ha : PE X a (tD X.K fa))
    (hd : (x == ("__debug__" : Str)) = false := by decide) (hcd : (x == ("__classdict__" : Str)) = false := by decide)
    (hbase : attributeBase (.Name x px) "append" X.env (eval (.Name x px) X.env) = eval (.Name x px) X.env := by rfl)
    (hfew : ((backTo pc (starEach [a] X.env)).all (fun x => !x.1) && (backToKw pc (keywordEach [] X.env)).all (fun x => x.1.isSome)
      && decide ([a].length + ([] : List Keyword).length + (if ([] : List Keyword).isEmpty then 0 else 1) < 30)) = true := by rfl)
    (hline : (pa.endLine == pc.line) = true := by rfl) (hs : starEach [a] X.env = (false, eval a X.env) :: starEach [] X.env := by rfl) (hplain : (backTo pc (starEach [] X.env)).any (·.1) = false := by rfl) (hsw : swapsWith (.Call (.Attribute (.Name x px) "append" pa) [a] [] pc) none pos.line X.env = pure false := by rfl) :
    PS X (.Expr (.Call (.Attribute (.Name x px) "append" pa) [a] [] pc) pos) (tS X.K H₀ gh ow ow owL (appF i fa)) :=
  PS.imp (ps_expr (pe_bm PySem.F.plainAttrs_list PySem.F.slot_list_append PySem.F.type_list_append mt_append (pe_var hN hv hd hcd) (da_cons ha da_nil hs) hbase hfew hline hs hplain) hsw) fun E σ H ⟨δ, fl, so, e, q⟩ => by
    unfold appF at e
    cases ea : fa δ with
    | none => rw [ea] at e; cases e
    | some d =>
      rw [ea] at e
      cases eo : (δ[i]?).join with
      | none => simp [eo] at e
      | some di =>
        obtain ⟨v, h1, h2⟩ := so.rep.get eo
        cases di with
        | lst ds =>
          have e' : (if fit (ds.length + 1) = true ∧ noLs ds = true ∧ noL d = true ∧ others i δ = true then some (DF.nx (δ.set i (some (.lst (ds ++ [d]))))) else none) = some fl := by simpa [eo] using e
          by_cases hc : fit (ds.length + 1) = true ∧ noLs ds = true ∧ noL d = true ∧ others i δ = true
          · rw [if_pos hc] at e'
            cases e'
            obtain ⟨l, us, rfl, hl, rs⟩ := h2.lst_of
            refine ⟨.ref l, h1, .inl ⟨rfl, us, SqL.of hl⟩, δ, [d], so.rep, by simp [consD, ea], fun vs H' S rv => ?_⟩
            obtain ⟨w, r, rfl, rw', rn⟩ := rv.cons_of
            cases rn.nil_of
            have hz := fit_le hc.1
            refine ⟨l, us, w, rfl, rfl, S _ _ hl, by rw [rs.length]; omega, ?_⟩
            exact q _ _ ((so.mono S).write hi h1 (S _ _ hl) hc.2.2.2 hgh ((rs.mono S).append (reps_cons rw' reps_nil)) (noLs_app hc.2.1 (by simp [noLs, hc.2.2.1])))
          · rw [if_neg hc] at e'; cases e'
        | _ => simp [eo] at e
theorem s_forR {tg iter : Expr} {body : List Stmt} {fi : DS → Option (List D)} {h : D → DS → Option DS} {ks : List Nat} {gb : DS → Option DF} (hp : PassesOwn (model X.prog X.w) X.A X.env X.xe) (hc : X.calm = true) (hit : PI X tg iter (tIR X.K fi)) (hg : TgD X tg h ks) (hks : ∀ k ∈ ks, k ∉ ow)
    (hb : PSs X body (tS X.K H₀ gh ow ow ow gb)) (hs : ∀ x, foldedSetIterable iter X.env x = pure x := by intro _; rfl) :
    PS X (.For tg iter body [] pos) (tS X.K H₀ gh ow ow owL fun δ => (fi δ).bind fun ds => forD h gb ds δ) := by
  obtain ⟨gt, hg1, hgt⟩ := hg
  intro pins s σ H E I ⟨δ, fl, so, e, q⟩
  dsimp only at e
  cases ei : fi δ with
  | none => rw [ei] at e; cases e
  | some ds =>
    rw [ei] at e
    refine ps_for hp hc hit hg1 hb hs pins s σ H E I ?_
    refine ⟨δ, ds, so.rep, ei, fun J H' S hJ _ => ?_⟩
    have so' := so.mono S
    exact for_core (E := E) (tg := tg) (iter := iter) (body := body) (owL := owL) (B := tS X.K H₀ gh ow ow ow gb) (fun _ _ _ z => z) hgt hks (gx := []) ⟨so'.same, so'.rep, so'.gr, so'.own⟩ hJ e q
def whileD (tc : DS → Option Bool) (gb : DS → Option DF) : Nat → DS → Option DF
  | 0, _ => none
  | n + 1, δ => (tc δ).bind fun k => if k = true then (gb δ).bind fun fl => match fl with
      | .nx δ2 => whileD tc gb n δ2
      | .ct δ2 => whileD tc gb n δ2
      | .bk δ2 => some (.nx δ2)
      | .rt d => some (.rt d)
    else some (.nx δ)
theorem s_while {c : Expr} {body : List Stmt} {tc : DS → Option Bool} {gb : DS → Option DF} (n : DS → Nat) (hp : PassesOwn (model X.prog X.w) X.A X.env X.xe) (hc : PT X c (tT X.K tc)) (hb : PSs X body (tS X.K H₀ gh ow ow ow gb)) :
    PS X (.While c body [] pos) (tS X.K H₀ gh ow ow owL fun δ => whileD tc gb (n δ) δ) := PS.imp (ps_while hp hc hb) fun E σ H ⟨δ, fl, so, e, q⟩ => by
  refine ⟨fun m σ H => ∃ δ, SOk X.K H₀ gh ow H σ δ ∧ whileD tc gb m δ = some fl, ⟨n δ, δ, so, e⟩, ?_⟩
  rintro m σ H ⟨δ, so, e⟩
  cases m with
  | zero => cases e
  | succ m =>
    unfold whileD at e
    cases et : tc δ with
    | none => rw [et] at e; cases e
    | some k =>
      rw [et] at e
      refine ⟨δ, k, so.rep, et, fun H' S => ?_⟩
      cases k with
      | false =>
        have e' : some (DF.nx δ) = some fl := e
        cases e'
        exact iteF (q σ H' (so.mono S))
      | true =>
        refine iteT ⟨fun σ' H' => ∃ δ', SOk X.K H₀ gh ow H' σ' δ' ∧ whileD tc gb m δ' = some fl, fun σ' H' z => ⟨m, Nat.lt_succ_self m, z⟩, ?_⟩
        cases eg : gb δ with
        | none => simp [eg] at e
        | some f1 =>
          refine ⟨δ, f1, so.mono S, eg, ?_⟩
          cases f1 with
          | nx δ2 => exact fun σ3 H3 so3 => ⟨δ2, so3, by simpa [eg] using e⟩
          | ct δ2 => exact fun σ3 H3 so3 => ⟨δ2, so3, by simpa [eg] using e⟩
          | bk δ2 => have e' : DF.nx δ2 = fl := by simpa [eg] using e
                     subst e'; exact fun σ3 H3 so3 => q σ3 H3 so3
          | rt d => have e' : DF.rt d = fl := by simpa [eg] using e
                    subst e'; exact q
end
def runD (n : Nat) (N : List Str) (g : DS → Option DF) (ds : List D) : Option D :=
  if ds.length = n then (g (ds.map some ++ List.replicate (N.length - ds.length) none)).bind fun fl => match fl with
    | .rt d => some d
    | .nx _ => some .non
    | _ => none
  else none
theorem srep_start {K : PySem.W.Frag} {H : Hp} {N : List Str} : ∀ {ds : List D} {vs : List V}, TabK K H → Reps K H ds vs → SRep K H (start N vs) (ds.map some ++ List.replicate (N.length - ds.length) none) := fun {ds vs} tk r => by
  have hl := r.length
  unfold start
  refine ⟨by rw [List.length_append, List.length_append, List.length_map, List.length_map, List.length_replicate, List.length_replicate, hl], tk, fun i d e => ?_⟩
  by_cases hi : i < ds.length
  · rw [List.getElem?_append_left (by simpa using hi), List.getElem?_map] at e
    rw [List.getElem?_append_left (by rw [List.length_map]; omega), List.getElem?_map]
    have hd : ds[i]? = some d := by
      cases q : ds[i]? with
      | none => rw [q] at e; cases e
      | some x => rw [q] at e; cases e; rfl
    obtain ⟨v, h1, h2⟩ := r.get hd
    exact ⟨v, by rw [h1]; rfl, h2⟩
  · rw [List.getElem?_append_right (by simpa using hi), List.getElem?_replicate] at e
    split at e <;> cases e
theorem def_fn {P : Program} {w : World} {K : PySem.W.Frag} {mg : Str → Option Value} {base : Heap} {x qual : Str} {st : Stmt} {f : Addr} {fd : FuncData} {N ps : List Str} {k : Nat} {g : DS → Option DF} (F : Fun K x qual st f fd) (S : FnScope N ps (defScope st))
    (hb : ∀ (cdv : Value) (A : Around) (outer : List Env) (s : Shared) (H : Hp) (E : XK), Room k (A.deeper (envOfC qual (defScope st) s.heap.objs.size f cdv)) → ∃ ow', PSs (cxOf CX0 P w K mg base N qual (defScope st) f cdv A outer s H E).nox (defBody st) (tS K H [] [] ow' [] g)) :
    FnOk P w K mg base CX0 (k + 1) f fd ps (spD K (runD ps.length N g)) := by
  refine F.ok S (fun vs H Q E h => ?_) (fun cdv A outer s H vs Q E hr h => ?_)
  · obtain ⟨ds, d, tk, rs, e, _⟩ := h
    unfold runD at e
    by_cases hl : ds.length = ps.length
    · rw [← hl]; exact rs.length
    · rw [if_neg hl] at e; cases e
  · obtain ⟨ds, d, tk, rs, e, q⟩ := h
    obtain ⟨ow', B⟩ := hb cdv A outer s H E hr
    refine ⟨_, B, ?_⟩
    unfold runD at e
    by_cases hl : ds.length = ps.length
    · rw [if_pos hl] at e
      cases eg : g (ds.map some ++ List.replicate (N.length - ds.length) none) with
      | none => rw [eg] at e; cases e
      | some fl =>
        rw [eg] at e
        refine ⟨_, fl, ⟨Same.refl H, srep_start tk rs, grep_nil, fun i hi => nomatch hi⟩, eg, ?_⟩
        cases fl with
        | nx δ => cases e; exact fun σ' H' so => q .non H' so.same rep_non
        | rt d' => cases e; exact fun v H' s rv => q v H' s rv
        | bk δ => cases e
        | ct δ => cases e
    · rw [if_neg hl] at e; cases e
theorem def_ok {P : Program} {w : World} {K : PySem.W.Frag} {mg : Str → Option Value} {base : Heap} {x qual : Str} {st : Stmt} {f : Addr} {fd : FuncData} {N ps : List Str} {k : Nat} {g : DS → Option DF} (F : Fun K x qual st f fd) (S : FnScope N ps (defScope st)) (hm : mg x = some (.ref f)) (hB : Binds K fd ps [])
    (hb : ∀ (cdv : Value) (A : Around) (outer : List Env) (s : Shared) (H : Hp) (E : XK), Room k (A.deeper (envOfC qual (defScope st) s.heap.objs.size f cdv)) → ∃ ow', PSs (cxOf CX0 P w K mg base N qual (defScope st) f cdv A outer s H E).nox (defBody st) (tS K H [] [] ow' [] g)) :
    Ca P w K mg base (k + 1) x (runD ps.length N g) := ⟨f, fd, ps, hm, def_fn F S hb, hB, F.kp⟩
end L2
set_option Elab.async false
set_option linter.all false
set_option maxRecDepth 100000
namespace L2
open PySem PySem.Spec PyProof.Rows
def LamO (X : Cx) (H : Hp) (f : Addr) (q : Str) (params : Arguments) (body : Expr) (scope : Scope) : Prop :=
  ∃ (pm ctv : Value) (c' : Addr) (u u' : HO) (o : Obj) (vs : Array Value) (t : Tok), H f = some (.frz (PySem.W.kla_obj "<lambda>" q params body scope (clOf scope X.env) pm c' ctv) u) ∧ H c' = some (.frz o u') ∧ o.data = .fields vs ∧ vs[1]? = some (.str q t)
theorem LamO.mono {X : Cx} {H H' : Hp} {f : Addr} {q : Str} {params : Arguments} {body : Expr} {scope : Scope} (s : Same H H') (h : LamO X H f q params body scope) : LamO X H' f q params body scope :=
  let ⟨pm, ctv, c', u, u', o, vs, t, a, b, r⟩ := h; ⟨pm, ctv, c', u, u', o, vs, t, s _ _ a, s _ _ b, r⟩
theorem codeAmong_app {pos' : Pos} {a b : Int} {c d : Value} (l : List Value) (h : TriplesOk l) (e : codeAmong pos' (l ++ [rawInt a, rawInt b, c]) = some d) : codeAmong pos' l = some d ∨ d = c := by
  fun_induction TriplesOk l with
  | case1 =>
    simp only [List.nil_append, codeAmong, rawInt] at e
    split at e
    · exact .inr (Option.some.inj e).symm
    · cases e
  | case2 a' t b' u x rest ih =>
    simp only [List.cons_append, codeAmong] at e ⊢
    split
    · rename_i hc
      rw [if_pos hc] at e
      exact .inl e
    · rename_i hc
      rw [if_neg hc] at e
      exact ih h e
  | case3 l h1 h2 => exact h.elim
section
variable {X : Cx} {params : Arguments} {body : Expr} {scope : Scope} {pos : Pos} {c P : Addr}
theorem pe_lam {q : Str} (hq : X.env.qual ++ "<lambda>" = q) (hcode : X.env.code = .ref c) (hC : PySem.W.CodeHd X.base c P) (hdef : defaultsOf params X.env = ([], [])) (hfree : ∀ y, (y, NameKind.free) ∈ scope.names → X.env.kindOf y = some .cell ∨ X.env.kindOf y = some .free) :
    PE X (.Lambda params body scope pos) (fun σ H Q => H P = some (.lam q) ∧ ∀ f H', Same H H' → LamO X H' f q params body scope → Q (.ref f) H') := by
  subst hq
  intro pins s σ H Q I ⟨hP, hQ⟩
  have hcl : closureFor scope X.env = pure (clOf scope X.env) := closureFor_clOf fun y hy => I.ok.has y (hfree y hy)
  obtain ⟨ps, eP, tr, al⟩ := I.hok P _ hP
  have hC' : PySem.W.CodeHd s.heap c P := hC.keeps I.bk
  obtain ⟨bm, ob, b1, b2, b3, b4, b5, b6⟩ := I.ok.mod.bmain
  have hgs : s.heap.Ns mainGlobals X.mg := I.ok.mod.glob.keeps I.bk
  have hgP : mainGlobals ≠ P := fun z => by
    obtain ⟨o, es, ep, e, hd, _⟩ := hgs
    rw [z, eP] at e; cases e; cases hd
  have hbP : bm ≠ P := fun z => by
    have e := I.bk _ _ b3
    rw [z, eP] at e; cases e; cases b4
  have hbG : bm ≠ mainGlobals := fun z => by
    obtain ⟨o, es, ep, e, hd, _⟩ := I.ok.mod.glob
    rw [z, e] at b3; cases b3; rw [hd] at b6; cases b6
  refine PySem.W.kla_eval hdef ?_
  cases hcA : codeAmong pos ps.toList with
  | some cv =>
    obtain ⟨c', o, u, vs, t, rfl, hc', ho, hv⟩ := al pos cv hcA
    refine PySem.W.kla_makeFunctionHit (mg := X.mg) (cv := .ref c') hcl I.ok.glob hgs hcode hC' eP tr hcA ⟨bm, ob, b1, b2, hbG, hbP, I.bk _ _ b3, b4, b5, b6⟩ fun ctv h' tk hk hsz => ?_
    have I1 : Inv X pins σ H { s with heap := h', toks := tk } := I.kept hk
    have hf : H h'.objs.size = none := I1.hok.fresh (Nat.le_refl _)
    have I2 := I1.laid (a := h'.objs.size) (o := .frz (PySem.W.kla_obj "<lambda>" (X.env.qual ++ "<lambda>") params body scope (clOf scope X.env) ((X.mg "__name__").getD .none) c' ctv) (.own h'.objs.size)) (t' := tk)
      (h' := h'.push (PySem.W.kla_obj "<lambda>" (X.env.qual ++ "<lambda>") params body scope (clOf scope X.env) ((X.mg "__name__").getD .none) c' ctv)) (fun b o e => Heap.get?_push_of_some _ e) (Nat.le_refl _) ⟨Heap.get?_push_size _ rfl, _, Heap.get?_push_size _ rfl⟩
    exact ⟨.ref h'.objs.size, _, I2, rfl, hQ _ _ (same_new hf _) ⟨_, ctv, c', _, u, o, vs, t, upd_same, by rw [upd_ne (ne_of_none hc' hf)]; exact hc', ho, hv⟩⟩
  | none =>
    refine PySem.W.kla_makeFunction (mg := X.mg) hcl I.ok.glob hgs hcode hC' eP tr hcA hgP ⟨bm, ob, b1, b2, hbG, hbP, I.bk _ _ b3, b4, b5, b6⟩ fun c' ctv h' tk hx hge hlt hrec htb => ?_
    obtain ⟨c2, oc, vs, t, e2, hoc, hod, hov⟩ := hrec
    cases e2
    have hn : H c' = none := I.hok.fresh hge
    have hPc : P ≠ c' := fun z => by rw [z, hn] at hP; cases hP
    have h1 : ∀ b u, H b = some u → b ≠ P → upd (upd H c' (.frz oc (.own c'))) P (.lam (X.env.qual ++ "<lambda>")) b = some u := fun b u e hb => by
      rw [upd_ne hb, upd_ne (ne_of_none e hn)]; exact e
    have hfz : ∀ b o u, H b = some (.frz o u) → upd (upd H c' (.frz oc (.own c'))) P (.lam (X.env.qual ++ "<lambda>")) b = some (.frz o u) := fun b o u e => h1 b _ e (ne_of e hP (by intro z; cases z))
    have same : Same H (upd (upd H c' (.frz oc (.own c'))) P (.lam (X.env.qual ++ "<lambda>"))) := fun b u e => by
      by_cases hb : b = P
      · subst hb; rw [hP] at e; cases e; exact upd_same
      · exact h1 b u e hb
    have hok1 : HOk X.prog X.w (upd (upd H c' (.frz oc (.own c'))) P (.lam (X.env.qual ++ "<lambda>"))) h' := fun b u e => by
      by_cases hb : b = P
      · subst hb
        rw [upd_same] at e; cases e
        have et : (ps ++ #[rawInt pos.line, rawInt pos.col, Value.ref c']).toList = ps.toList ++ [rawInt pos.line, rawInt pos.col, Value.ref c'] := by simp
        refine ⟨_, htb, by rw [et]; exact TriplesOk_snoc _ _ _ _ tr, fun pos' d hd => ?_⟩
        rw [et] at hd
        rcases codeAmong_app _ tr hd with z | z
        · obtain ⟨c3, o3, u3, vs3, t3, a1, a2, a3⟩ := al pos' d z
          exact ⟨c3, o3, u3, vs3, t3, a1, hfz _ _ _ a2, a3⟩
        · exact ⟨c', oc, .own c', vs, t, z, by rw [upd_ne (Ne.symm hPc)]; exact upd_same, hod, hov⟩
      · rw [upd_ne hb] at e
        by_cases hb2 : b = c'
        · subst hb2
          rw [upd_same] at e; cases e
          exact ⟨hoc, _, hoc⟩
        · rw [upd_ne hb2] at e
          refine (I.hok b u e).stay (fun d v hc r => hx d v ?_ r) (fun d r => h1 d _ r (ne_of r hP (by intro z; cases z))) (fun d xs r => h1 d _ r (ne_of r hP (by intro z; cases z))) hfz
          rcases hc with z | z
          · rw [z]; exact hb
          · exact ne_of z hP (by intro z; cases z)
    have nP : ∀ b, H b = none → b ≠ P := fun b n z => by rw [z, hP] at n; cases n
    have un : Un X.fs [] H (upd (upd H c' (.frz oc (.own c'))) P (.lam (X.env.qual ++ "<lambda>"))) s.heap h' :=
      ⟨fun b o e n _ _ => hx b o (nP b n) e, fun b o e n _ _ => ⟨o.slots, hx b o (nP b n) e⟩, fun b o e n _ => by rw [upd_ne (nP b n), upd_ne (Nat.ne_of_lt (Nat.lt_of_lt_of_le (Heap.lt_size e) hge))]; exact n,
        fun b o e _ => by
          by_cases hb : b = P
          · exact ⟨_, hb ▸ htb⟩
          · exact ⟨o, hx b o hb e⟩,
        fun b xs e => h1 b _ e (ne_of e hP (by intro z; cases z)), fun b o u e => hfz b o u e, fun b qs e => ⟨#[], by rw [h1 b _ e (ne_of e hP (by intro z; cases z))]; simp⟩⟩
    have I1 : Inv X pins σ (upd (upd H c' (.frz oc (.own c'))) P (.lam (X.env.qual ++ "<lambda>"))) { s with heap := h', toks := tk } := I.un un hok1
    generalize hH1 : upd (upd H c' (.frz oc (.own c'))) P (.lam (X.env.qual ++ "<lambda>")) = H1 at I1 same
    have hc1 : H1 c' = some (.frz oc (.own c')) := by rw [← hH1, upd_ne (Ne.symm hPc)]; exact upd_same
    have hf : H1 h'.objs.size = none := I1.hok.fresh (Nat.le_refl _)
    have I2 := I1.laid (a := h'.objs.size) (o := .frz (PySem.W.kla_obj "<lambda>" (X.env.qual ++ "<lambda>") params body scope (clOf scope X.env) ((X.mg "__name__").getD .none) c' ctv) (.own h'.objs.size)) (t' := tk)
      (h' := h'.push (PySem.W.kla_obj "<lambda>" (X.env.qual ++ "<lambda>") params body scope (clOf scope X.env) ((X.mg "__name__").getD .none) c' ctv)) (fun b o e => Heap.get?_push_of_some _ e) (Nat.le_refl _) ⟨Heap.get?_push_size _ rfl, _, Heap.get?_push_size _ rfl⟩
    exact ⟨.ref h'.objs.size, _, I2, rfl, hQ _ _ (same.trans (same_new hf _)) ⟨_, ctv, c', _, _, oc, vs, t, upd_same, by rw [upd_ne (ne_of_none hc1 hf)]; exact hc1, hod, hov⟩⟩
end
def cxLam (X : Cx) (q : Str) (scope : Scope) (N' : List Str) (f c' : Addr) (s : Shared) (H : Hp) : Cx where
  prog := X.prog
  w := X.w
  K := X.K
  mg := X.mg
  base := X.base
  A := X.A.in1.in1.deeper (PySem.W.envX q scope s.heap.objs.size f (.ref c') (clOf scope X.env))
  N := N'
  s₀ := s
  H₀ := H
  env := PySem.W.envX q scope s.heap.objs.size f (.ref c') (clOf scope X.env)
  outer := X.stack
  stack := PySem.W.envX q scope s.heap.objs.size f (.ref c') (clOf scope X.env) :: X.stack
  ex := []
  fn := fun _ => false
  calm := true
  pn := []
  xe := fun _ _ => False
structure LamSc (X : Cx) (scope : Scope) (N' : List Str) (par : Str) (inn : List (Option Nat)) : Prop where
  kind : scope.kind = .function
  co : scope.isCoroutine = false
  gen : scope.isGenerator = false
  nocell : ∀ y ∈ scope.names, y.2 ≠ .cell
  parl : scope.names.lookup par = some .local
  frees : ∀ y, (y, NameKind.free) ∈ scope.names → scope.names.lookup y = some .free ∧ (X.env.kindOf y = some .cell ∨ X.env.kindOf y = some .free)
  len : inn.length = N'.length
  first : N'[0]? = some par
  inn : ∀ (i j : Nat), inn[i]? = some (some j) → ∃ y, N'[i]? = some y ∧ X.N[j]? = some y ∧ (y, NameKind.free) ∈ scope.names
section
variable {X : Cx} {pins : List (Addr × Obj)} {σ : St} {H : Hp} {s : Shared} {scope : Scope} {N' : List Str} {par : Str} {inn : List (Option Nat)} {q : Str} {f c' : Addr}
theorem inv_lam {h' : Heap} {v : V} {u : Value} (S : LamSc X scope N' par inn) (I : Inv X pins σ H s) (hc : X.calm = true) (rv : RelV v u) (hns : h'.Ns s.heap.objs.size fun x => ([(par, u)] : List (Str × Value)).reverse.lookup x) (hk : ∀ b o, s.heap.get? b = some o → h'.get? b = some o) (tk : Nat) :
    Inv (cxLam X q scope N' f c' s H) [] ((innS inn σ).set 0 (some v)) H { s with heap := h', toks := tk } := by
  have hfree : ∀ y, (y, NameKind.free) ∈ scope.names → ∃ c, X.env.cells.lookup y = some c := fun y hy => I.ok.has y (S.frees y hy).2
  have look : ∀ x c, (clOf scope X.env).lookup x = some c → (x, NameKind.free) ∈ scope.names ∧ X.env.cells.lookup x = some c := fun x c e => by
    rcases clF_lookup scope.names [] x c e with ⟨h1, h2⟩ | h1
    · obtain ⟨c', hc'⟩ := hfree x h1
      rw [hc'] at h2
      exact ⟨h1, by rw [hc', h2]; rfl⟩
    · cases h1
  have noA : ∀ b : Addr, b ∉ (cxLam X q scope N' f c' s H).ex := fun b z => absurd (show b ∈ ([] : List Addr) from z) (by simp)
  refine ⟨⟨I.ok.mod, S.kind, rfl, rfl, Nat.le_refl _, ?inj, ?has, ?cab, fun _ => I.ok.hd hc, Around.frames_deeper I.ok.frames, .inr ⟨rfl, rfl⟩, fun b z => absurd z (noA b), I.bs, Nat.le_trans I.ok.bsz I.sz, fun b _ _ => noA b, fun b z => absurd z (noA b), I.stack, I.stkFree⟩,
    rfl, I.bare, Un.kept hk, ⟨_, hns, ?loc⟩, ?cell, I.hok.fresh (Nat.le_refl _), ?freeC, fun p hp => absurd (show p ∈ ([] : List (Addr × Obj)) from hp) (by simp), I.hok.kept hk, ?len⟩
  case inj => exact fun x y c h1 h2 => I.ok.inj x y c (look x c h1).2 (look y c h2).2
  case has =>
    intro x hx
    have hx' : scope.names.lookup x = some .cell ∨ scope.names.lookup x = some .free := hx
    rcases hx' with z | z
    · exact absurd rfl (S.nocell (x, .cell) (PySem.mem_of_lookup z))
    · exact clF_has scope.names [] x (.inl (PySem.mem_of_lookup z))
  case cab => exact fun x c h1 _ => absurd h1 (by show ¬ (false = true); decide)
  case loc =>
    intro i x v' h1 h2 h3
    have h1' : N'[i]? = some x := h1
    by_cases hi : i = 0
    · subst hi
      rw [S.first] at h1'
      cases h1'
      have hlen : 0 < (innS inn σ).length := by
        have h0 : 0 < N'.length := by
          have := S.first
          cases N' with
          | nil => cases this
          | cons => exact Nat.zero_lt_succ _
        unfold innS; rw [List.length_map, S.len]; exact h0
      rw [List.getElem?_set_self hlen] at h2
      cases h2
      refine ⟨u, rv, .inl ⟨S.parl, ?_⟩⟩
      simp
    · rw [List.getElem?_set_ne (Ne.symm hi)] at h2
      unfold innS at h2
      rw [List.getElem?_map] at h2
      cases ho : inn[i]? with
      | none => rw [ho] at h2; cases h2
      | some o =>
        rw [ho] at h2
        cases o with
        | none => cases h2
        | some j =>
          obtain ⟨y, e1, e2, e3⟩ := S.inn i j ho
          have e4' : y = x := by rw [e1] at h1'; exact Option.some.inj h1'
          subst e4'
          have h2' : (σ[j]?).join = some v' := by simpa using h2
          have h2'' : σ[j]? = some (some v') := by
            cases z : σ[j]? with
            | none => rw [z] at h2'; cases h2'
            | some o => rw [z] at h2'; exact congrArg some h2'
          have vis : Vis X.env.scope y := .inr (S.frees y e3).2
          obtain ⟨m, hn, hl⟩ := I.loc
          obtain ⟨u', r, l⟩ := hl j y v' e2 h2'' vis
          refine ⟨u', r, .inr ⟨.inr (S.frees y e3).1, ?_⟩⟩
          rcases l with ⟨k, _⟩ | ⟨_, c, hcl, hcell⟩
          · rcases (S.frees y e3).2 with z | z <;> rw [k] at z <;> cases z
          · obtain ⟨c'', hc'⟩ := clF_has (env := X.env) scope.names [] y (.inl e3)
            have e5 := (look y c'' hc').2
            rw [hcl] at e5; cases e5
            exact ⟨c, hc', let ⟨o, ho, hd⟩ := hcell; ⟨o, hk _ _ ho, hd⟩⟩
  case cell =>
    intro x c e
    obtain ⟨v, o, ho, hd⟩ := I.cell x c (look x c e).2
    exact ⟨v, o, hk _ _ ho, hd⟩
  case freeC => exact fun x c e => I.freeC x c (look x c e).2
  case len =>
    show ((innS inn σ).set 0 (some v)).length = N'.length
    unfold innS
    rw [List.length_set, List.length_map, S.len]
theorem lam_run {params : Arguments} {body : Expr} {fb : DS → Option D} {δ : DS} {d z : D} {v : V} {u : Value} (hbody : ∀ (f c' : Addr) (s : Shared) (H : Hp), PE (cxLam X q scope N' f c' s H) body (tD X.K fb)) (S : LamSc X scope N' par inn) (hc : X.calm = true)
    (hbind : ∀ (pm ctv : Value) (c' : Addr) (cl : List (Str × Addr)) (u : Value), bindArgs (PySem.W.kla_fn "<lambda>" q params body scope cl pm (.ref c') ctv) ⟨[u], []⟩ = pure [(par, u)])
    (hroom : X.A.in1.in1.depth < recursionLimit) (I : Inv X pins σ H s) (L : LamO X H f q params body scope) (rv : RelV v u) (rd : Rep X.K H d v) (sr : SRep X.K H σ δ) (e : fb ((innD inn δ).set 0 (some d)) = some z) :
    wpAny (model X.prog X.w) X.A.in1.in1 (call (.ref f) [u]) (EP X pins σ fun v' H' => Same H H' ∧ Rep X.K H' z v') (fun _ _ => False) s := by
  obtain ⟨pm, ctv, c', uf, uc, o, vs, t, hf, hc', ho, hv⟩ := L
  have of := (I.hok f _ hf).1
  have oc := (I.hok c' _ hc').1
  refine wpAny_call (codeAny_mono (R := CR CX0 X.stack X.prog X.w H s (fun v' H' => Same H H' ∧ Rep X.K H' z v') E0) ?_ fun r s' hq => ?_)
  · refine PySem.W.kla_callFunE hroom of rfl S.co S.gen rfl ⟨c', o, vs, t, rfl, oc, ho, hv⟩ ?_
    rw [hbind]
    refine wpAny_pure (wpAny_newFunctionEnv S.nocell (fun y hy => ?_) (fun h₁ hns hsb => ⟨(I.nolimit).fresh _ hsb, ?_⟩) S.kind)
    · obtain rfl : y = (par, u) := List.mem_singleton.mp hy
      exact S.parl
    · show codeAny _ _ (.expr body (PySem.W.envX q scope s.heap.objs.size f (.ref c') (clOf scope X.env))) _ _
      have hk₁ : ∀ b o, s.heap.get? b = some o → h₁.get? b = some o := fun b o e => hsb.extBut b o (Nat.ne_of_lt (Heap.lt_size e)) (Heap.get?_push_of_some _ e)
      have I' := inv_lam (q := q) (f := f) (c' := c') S I hc rv hns hk₁ (s.toks + [(par, u)].length)
      refine PySem.W.kla_codeExpr (wpAny_mono (hbody f c' s H [] _ _ H (fun v' H' => Same H H' ∧ Rep X.K H' z v') I' ⟨(innD inn δ).set 0 (some d), z, (srep_inn inn sr).set rd 0, e, fun v' H' s' r' => ⟨s', r'⟩⟩) (fun v'' s' h => ?_) (fun _ _ h => h.elim))
      obtain ⟨v', H', J, r', hq⟩ := h
      exact ⟨v', H', J.os, J.bare, J.base, J.hok, r', hq⟩
  · cases r with
    | error e => exact hq.elim
    | ok fl =>
      cases fl with
      | ret u => exact I.after hq
      | next => exact False.elim hq
      | brk => exact False.elim hq
      | cont => exact False.elim hq
end
end L2
set_option Elab.async false
set_option linter.all false
set_option maxRecDepth 100000
set_option maxHeartbeats 1000000
namespace L2
open PySem PySem.Spec PyProof.Rows
theorem perm_lift {α β : Type} {g : α → β} {l m : List β} (h : l.Perm m) : ∀ qs : List α, m = qs.map g → ∃ qs' : List α, qs'.Perm qs ∧ l = qs'.map g := by
  induction h with
  | nil => intro qs e; cases qs with
    | nil => exact ⟨[], .refl _, rfl⟩
    | cons => cases e
  | cons x _ ih => intro qs e; cases qs with
    | nil => cases e
    | cons q r =>
      injection e with e1 e2
      obtain ⟨r', p, e3⟩ := ih r e2
      exact ⟨q :: r', p.cons q, by rw [List.map_cons, ← e1, e3]⟩
  | swap x y l => intro qs e; cases qs with
    | nil => cases e
    | cons q r => cases r with
      | nil => cases e
      | cons q2 r2 =>
        injection e with e1 e2
        injection e2 with e2 e3
        exact ⟨q2 :: q :: r2, .swap _ _ _, by rw [List.map_cons, List.map_cons, ← e1, ← e2, ← e3]⟩
  | trans _ _ ih1 ih2 => intro qs e; obtain ⟨q2, p2, e2⟩ := ih2 qs e; obtain ⟨q1, p1, e1⟩ := ih1 q2 e2; exact ⟨q1, p1.trans p2, e1⟩
def Own (X : Cx) (pins : List (Addr × Obj)) (a : Addr) : Prop := X.s₀.heap.objs.size ≤ a ∧ (∀ x c, X.env.cells.lookup x = some c → c ≠ a) ∧ ∀ p ∈ X.pn ++ pins, p.1 ≠ a
section
variable {X : Cx} {pins rest : List (Addr × Obj)} {σ : St} {H : Hp} {s : Shared} {f : Addr} {vs : List Value} {kz : List Int}
theorem Inv.unpin {p : Addr × Obj} (I : Inv X (p :: rest) σ H s) : Inv X rest σ H s := I.pins_of fun q hq => I.pin q (List.mem_append_right _ (List.mem_cons_of_mem _ hq))
theorem Inv.pinned1 {p : Addr × Obj} (I : Inv X rest σ H s) (h : s.heap.get? p.1 = some p.2 ∧ H p.1 = none ∧ p.1 ≠ X.env.locals ∧ p.1 ∉ X.fs ∧ ∀ v, p.2.data ≠ .cell v) : Inv X (p :: rest) σ H s := I.pins_of fun q hq => by
  rcases List.mem_cons.mp hq with rfl | hq
  · exact h
  · exact I.pin q (List.mem_append_right _ hq)
theorem Inv.upin {a : Addr} {xs : Array Value} {n : Nat} (g : Array Value → Array Value) (I : Inv X ((a, seqObj "list" xs n) :: rest) σ H s) (st : Own X rest a) : ∃ n', Inv X ((a, seqObj "list" (g xs) n') :: rest) σ H { s with heap := s.heap.update a (Obj.mapSeq g) } := by
  obtain ⟨e, nn, ne, nf, d⟩ := I.pin (a, seqObj "list" xs n) (List.mem_append_right _ List.mem_cons_self)
  have sb := Heap.SameBut.update s.heap a (Obj.mapSeq g)
  have I2 : Inv X rest σ H { s with heap := s.heap.update a (Obj.mapSeq g), toks := s.toks } := I.unpin.turned (it := a) (fun b o hb q => (sb.2 b hb).trans q) nn ne (.inr st.1) st.2.1 st.2.2
  obtain ⟨n', hn'⟩ : ∃ n', (s.heap.update a (Obj.mapSeq g)).get? a = some (seqObj "list" (g xs) n') := ⟨_, get?_update_seq e g⟩
  exact ⟨n', I2.pinned1 ⟨hn', nn, ne, nf, fun v z => nomatch z⟩⟩
def SortTurn (X : Cx) (σ : St) (H : Hp) (f : Addr) (vs : List Value) (kz : List Int) : Prop := ∀ (i : Nat) (v : Value) (k : Int), vs[i]? = some v → kz[i]? = some k → ∀ (pins' : List (Addr × Obj)) (s' : Shared) (H' : Hp), Inv X pins' σ H' s' → Same H H' →
  wpAny (model X.prog X.w) X.A.in1.in1 (call (.ref f) [v]) (EP X pins' σ fun v' H'' => Same H' H'' ∧ v' = .int k) (fun _ _ => False) s'
variable {a kS : Addr} {e e1 : Nat} {keys : Array Value} {P : PySem.Fin → Shared → Prop} {E : Value → Shared → Prop} {A : Around} {H0 : Hp}
theorem sort_tail {st : SortSt} (I : Inv X ((kS, seqObj "list" keys e) :: (a, seqObj "list" #[] e1) :: pins) σ H s) (sK : Own X ((a, seqObj "list" #[] e1) :: pins) kS) (sA : Own X pins a)
    (hk : IntsAre keys.toList kz) (hlen : kz.length = vs.length) (h64 : vs.length < 64) (hp : (arrOf st).Perm (keys.zip vs.toArray)) (hs : SortedTo (arrOf st) (arrOf st).size) (hfl : failedOf st = none)
    (h : ∀ s' out c, Inv X ((a, seqObj "list" out c) :: pins) σ H s' → KskOut false kz vs out.toList → P (.done (.ret .none)) s') :
    wpAny (model X.prog X.w) A (ksk_tail a false e1 (.ref kS) st) P E s := by
  have nk := (I.pin _ (List.mem_append_right _ List.mem_cons_self)).1
  have hsz : keys.size = vs.length := by
    have h1 := hk.length
    rw [Array.length_toList] at h1
    omega
  have hsz2 : (arrOf st).size = vs.length := by rw [hp.size_eq, Array.size_zip, hsz, List.size_toArray, Nat.min_self]
  obtain ⟨n1, I1⟩ := I.upin (fun _ => (#[] : Array Value)) sK
  have na := (I1.unpin.pin _ (List.mem_append_right _ List.mem_cons_self)).1
  obtain ⟨n2, I2⟩ := I1.unpin.upin (fun _ => (arrOf st).map (·.2)) sA
  unfold ksk_tail
  try dsimp only
  refine wpAny_bind (listUpdate_at nk rfl ?_ (by rw [hsz, sizeLine_eq]; omega) (Nat.zero_le _))
  refine wpAny_bind (wpAny_letGo ?_)
  refine wpAny_bind (seqEpoch_at na rfl ?_)
  refine wpAny_bind (listUpdate_at na rfl ?_ (Nat.zero_le _) (by simp only [Bool.false_eq_true, if_false, Array.size_map]; rw [hsz2, sizeLine_eq]; omega))
  rw [hfl]
  simp only [bne_self_eq_false, Bool.false_eq_true, if_false]
  refine wpAny_pure (h _ _ n2 I2 ?_)
  have := ksk_out (b := false) hk hp hs
  simpa using this
theorem sort_end (I : Inv X ((kS, seqObj "list" keys e) :: (a, seqObj "list" #[] e1) :: pins) σ H s) (sK : Own X ((a, seqObj "list" #[] e1) :: pins) kS) (sA : Own X pins a)
    (hk : IntsAre keys.toList kz) (hlen : kz.length = vs.length) (h64 : vs.length < 64)
    (h : ∀ s' out c, Inv X ((a, seqObj "list" out c) :: pins) σ H s' → KskOut false kz vs out.toList → P (.done (.ret .none)) s') :
    wpAny (model X.prog X.w) A (ksk_end a false vs.toArray e1 (.ref kS) keys) P E s := by
  have hsz : keys.size = vs.length := by
    have h1 := hk.length
    rw [Array.length_toList] at h1
    omega
  have hzs : (keys.zip vs.toArray).size = vs.length := by rw [Array.size_zip, hsz, List.size_toArray, Nat.min_self]
  unfold ksk_end
  simp only [Bool.false_eq_true, if_false]
  by_cases h2 : vs.toArray.size < 2
  · rw [if_pos h2, if_pos h2]
    refine wpAny_bind (wpAny_pure ?_)
    rw [StateT.run_pure]
    refine wpAny_bind (wpAny_pure ?_)
    try dsimp only
    refine sort_tail (st := SortSt.mk' general' (keys.zip vs.toArray) #[] 7 none) I sK sA hk hlen h64 (Array.Perm.refl _) ?_ rfl h
    intro i j hij hj
    have hj2 : j < (keys.zip vs.toArray).size := hj
    rw [hzs] at hj2
    rw [List.size_toArray] at h2
    have : i = j := by omega
    subst this
    exact Int.le_refl _
  · rw [if_neg h2, if_neg h2]
    rw [List.size_toArray] at h2
    rw [ksk_kind hk (by rw [hsz]; omega)]
    refine wpAny_bind (wpAny_pure ?_)
    refine wpAny_bind (wpAny_mono (wpS_sortRuns (a₀ := keys.zip vs.toArray) (st := SortSt.mk' oneType' (keys.zip vs.toArray) #[] 7 none)
      (Q := fun _ st' => (arrOf st').Perm (keys.zip vs.toArray) ∧ failedOf st' = none ∧ SortedTo (arrOf st') (keys.zip vs.toArray).size)
      (ksk_intKeys hk) ⟨Array.Perm.refl _, rfl, rfl, rfl⟩ (by rw [hzs]; omega) (by rw [hzs]; exact h64) fun st' a1 a2 a3 => ⟨a1, a2, a3⟩) ?_ fun _ _ e => e)
    rintro ⟨⟨⟩, st'⟩ s' ⟨rfl, hp, hf, hs⟩
    try dsimp only
    exact sort_tail I sK sA hk hlen h64 hp (by rw [hp.size_eq]; exact hs) hf h
theorem sort_rest (I : Inv X ((kS, seqObj "list" #[] 0) :: (a, seqObj "list" #[] e1) :: pins) σ H s) (sK : Own X ((a, seqObj "list" #[] e1) :: pins) kS) (sA : Own X pins a)
    (hlen : kz.length = vs.length) (h64 : vs.length < 64) (turn : SortTurn X σ H f vs kz)
    (h : ∀ s' H' out c, Inv X ((a, seqObj "list" out c) :: pins) σ H' s' → Same H H' → KskOut false kz vs out.toList → P (.done (.ret .none)) s') :
    wpAny (model X.prog X.w) X.A.in1.in1 (ksk_rest a (.ref f) false vs.toArray e1 (.ref kS)) P E s := by
  unfold ksk_rest
  refine wpAny_bind (wpAny_rule ?_)
  first
    | rw [List.forIn_toArray]
    | (rw [← Array.forIn_toList]; simp only [List.toList_toArray])
    | rw [← Array.forIn_toList]
  refine wpAny_bind (ksk_fold (fun i s' => ∃ H' kA e, Inv X ((kS, seqObj "list" kA e) :: (a, seqObj "list" #[] e1) :: pins) σ H' s' ∧ Same H H' ∧ IntsAre kA.toList (kz.take i)) vs 0 s
    ⟨H, #[], 0, I, Same.refl _, by simpa using IntsAre.nil⟩ ?step ?done)
  case step =>
    rintro j x s' hx ⟨H', kA, e, I', S', hk⟩
    simp only [Nat.zero_add] at hk ⊢
    have hj : j < vs.length := (List.getElem?_eq_some_iff.mp hx).1
    obtain ⟨k, hkj⟩ : ∃ k, kz[j]? = some k := ⟨_, List.getElem?_eq_getElem (by omega)⟩
    have hz : kA.size ≤ vs.length := by
      have h1 := hk.length
      rw [Array.length_toList, List.length_take] at h1
      omega
    refine wpAny_bind (wpAny_attempt (wpAny_mono (turn j x k hx hkj _ s' H' I' S') (fun v s'' he => ?_) fun _ _ hF => hF.elim))
    obtain ⟨v', H'', I2, rv, S2, hv⟩ := he
    subst hv
    obtain ⟨t2, rfl⟩ := rv
    try dsimp only
    have nk := (I2.pin _ (List.mem_append_right _ List.mem_cons_self)).1
    obtain ⟨n3, I3⟩ := I2.upin (·.push (.int k t2)) sK
    have ek : kz.take (j + 1) = kz.take j ++ [k] := by rw [List.take_add_one, hkj]; simp
    have ea : (kA.push (Value.int k t2)).toList = kA.toList ++ [Value.int k t2] := by simp
    refine wpAny_bind (listUpdate_at nk rfl ?_ (by rw [sizeLine_eq]; omega) (Nat.le_trans (Nat.le_of_eq (Array.size_push ..)) (by rw [sizeLine_eq]; omega)))
    exact wpAny_pure ⟨rfl, H'', kA.push (.int k t2), n3, I3, S'.trans S2, by rw [ea, ek]; exact ksk_snoc hk⟩
  case done =>
    rintro s' ⟨H', kA, e, I', S', hk⟩
    have hk' : IntsAre kA.toList kz := by
      have e3 : kz.take (0 + vs.length) = kz := List.take_of_length_le (by omega)
      rw [e3] at hk
      exact hk
    have nk := (I'.pin _ (List.mem_append_right _ List.mem_cons_self)).1
    try dsimp only
    refine wpAny_bind (listItems_at nk rfl ?_)
    exact sort_end I' sK sA hk' hlen h64 fun s'' out c I'' k'' => h s'' H' out c I'' S' k''
theorem sort_call {l : Addr} {Q : Value → Shared → Prop} (I : Inv X pins σ H s) (hl : s.heap.IsList l vs.toArray) (hlen : kz.length = vs.length) (h64 : vs.length < 64) (turn : SortTurn X σ H f vs kz)
    (h : ∀ a s' H' out c, H a = none → Inv X ((a, seqObj "list" out c) :: pins) σ H' s' → Same H H' → KskOut false kz vs out.toList → Own X pins a → Q (.ref a) s') :
    wpAny (model X.prog X.w) X.A (call (.builtin "sorted") [.ref l] [(Str.ofString "key", .ref f)]) Q E s := by
  refine call_function_entry_kw kind_sorted plain_sorted entry_sorted (ksk_s1 _ _) ?_
  unfold Builtin.«sorted»
  refine wpAny_bind (m := checkCount "sorted" 1 1 _) (wpAny_pure ?_)
  refine wpAny_bind (collect_list hl ?_ (by rw [sizeLine_eq]; omega))
  refine wpAny_bind (wpAny_newList ?_ (by rw [sizeLine_eq]; omega))
  have hsz : ((s.heap.push (seqObj "list" #[] 0)).update s.heap.objs.size (Obj.mapSeq (· ++ vs.toArray))).objs.size = s.heap.objs.size + 1 := by
    rw [Heap.size_update, size_push']
  have hoL : (((s.heap.push (seqObj "list" #[] 0)).update s.heap.objs.size (Obj.mapSeq (· ++ vs.toArray))).push (seqObj "list" vs.toArray 0)).get? (s.heap.objs.size + 1) = some (seqObj "list" vs.toArray 0) := by
    rw [← hsz]; exact Heap.get?_push_size _ rfl
  have keep : ∀ b o, s.heap.get? b = some o → (((s.heap.push (seqObj "list" #[] 0)).update s.heap.objs.size (Obj.mapSeq (· ++ vs.toArray))).push (seqObj "list" vs.toArray 0)).get? b = some o := fun b o q => by
    have hlt : b < s.heap.objs.size := Heap.lt_size q
    rw [Heap.get?_push_ne _ _ _ (by rw [hsz]; exact Nat.ne_of_lt (Nat.lt_succ_of_lt hlt)), Heap.get?_update_ne _ _ _ _ (Nat.ne_of_lt hlt), Heap.get?_push_ne _ _ _ (Nat.ne_of_lt hlt)]
    exact q
  show wpAny _ _ _ _ _ { s with heap := ((s.heap.push (seqObj "list" #[] 0)).update s.heap.objs.size (Obj.mapSeq (· ++ vs.toArray))).push (seqObj "list" vs.toArray 0) }
  rw [hsz]
  generalize hh2 : ((s.heap.push (seqObj "list" #[] 0)).update s.heap.objs.size (Obj.mapSeq (· ++ vs.toArray))).push (seqObj "list" vs.toArray 0) = h2 at hoL keep
  have hn : H (s.heap.objs.size + 1) = none := I.hok.fresh (Nat.le_succ _)
  obtain ⟨_, f1, f2, f3, f4, f5⟩ := I.fpOk (H' := H) (b := s.heap.objs.size + 1) (Nat.le_succ _) hn
  have sA : Own X pins (s.heap.objs.size + 1) := ⟨Nat.le_trans I.sz (Nat.le_succ _), f4, f5⟩
  have I2 : Inv X ((s.heap.objs.size + 1, seqObj "list" vs.toArray 0) :: pins) σ H { s with heap := h2 } := (I.kept (t' := s.toks) keep).pinned1 ⟨hoL, hn, f1, f2, fun v z => nomatch z⟩
  generalize s.heap.objs.size + 1 = a at hoL hn sA I2
  refine wpAny_bind (wpAny_holding (wpAny_call_entry_kw slot_list_sort ⟨_, hoL, rfl⟩ entry_list_sort ?body (ksk_l1 _ _)))
  case body =>
    show wpAny (model X.prog X.w) X.A.in1.in1 (Builtin.«list.sort» ⟨[.ref a], [(Str.ofString "key", .ref f)]⟩) _ _ _
    rw [ksk_t1]
    obtain ⟨e1, I3⟩ := I2.upin (fun _ => (#[] : Array Value)) sA
    have ho1 := (I3.pin _ (List.mem_append_right _ List.mem_cons_self)).1
    unfold ksk_tree
    refine wpAny_bind (listItems_at hoL rfl ?_)
    refine wpAny_bind (listUpdate_at hoL rfl ?_ (by rw [List.size_toArray, sizeLine_eq]; omega) (Nat.zero_le _))
    refine wpAny_bind (seqEpoch_at ho1 rfl ?_)
    refine wpAny_bind (wpAny_newTuple ?_ (by show vs.length ≤ _; rw [sizeLine_eq]; omega))
    refine wpAny_bind (wpAny_newList ?_ (Nat.zero_le _))
    refine wpAny_holding ?_
    have I4 : Inv X ((a, seqObj "list" #[] e1) :: pins) σ H { s with heap := (h2.update a (Obj.mapSeq fun _ => (#[] : Array Value))).push (seqObj "tuple" vs.toArray 0) } := I3.kept (t' := s.toks) fun b o e => Heap.get?_push_of_some _ e
    have hn4 : H ((h2.update a (Obj.mapSeq fun _ => (#[] : Array Value))).push (seqObj "tuple" vs.toArray 0)).objs.size = none := I4.hok.fresh (Nat.le_refl _)
    obtain ⟨_, g1, g2, g3, g4, g5⟩ := I4.fpOk (H' := H) (b := ((h2.update a (Obj.mapSeq fun _ => (#[] : Array Value))).push (seqObj "tuple" vs.toArray 0)).objs.size) (Nat.le_refl _) hn4
    have sK : Own X ((a, seqObj "list" #[] e1) :: pins) ((h2.update a (Obj.mapSeq fun _ => (#[] : Array Value))).push (seqObj "tuple" vs.toArray 0)).objs.size := ⟨I4.sz, g4, g5⟩
    have I5 := (I4.kept (t' := s.toks) (h' := ((h2.update a (Obj.mapSeq fun _ => (#[] : Array Value))).push (seqObj "tuple" vs.toArray 0)).push (seqObj "list" #[] 0)) fun b o e => Heap.get?_push_of_some _ e).pinned1 (p := (_, seqObj "list" #[] 0)) ⟨Heap.get?_push_size _ rfl, hn4, g1, g2, fun v z => nomatch z⟩
    refine sort_rest I5 sK sA hlen h64 turn fun s' H' out c I' S' k' => ⟨_, rfl, ?_⟩
    exact wpAny_pure ⟨_, rfl, h a s' H' out c hn I' S' k' sA⟩
end
end L2
set_option Elab.async false
set_option linter.all false
set_option maxRecDepth 100000
set_option maxHeartbeats 1000000
namespace L2
open PySem PySem.Spec PyProof.Rows
section
variable {X : Cx} {pins rest : List (Addr × Obj)} {σ : St} {H : Hp} {s : Shared}
theorem Inv.adopt {a : Addr} {its : List Value} {n : Nat} {xs : List V} (I : Inv X ((a, seqObj "list" its.toArray n) :: rest) σ H s) (st : Own X rest a) (hv : Vals xs its) (hz : xs.length ≤ sizeLine) : Inv X rest σ (upd H a (.lst xs)) s := by
  obtain ⟨e, hn, ne, nf, d⟩ := I.pin (a, seqObj "list" its.toArray n) (List.mem_append_right _ List.mem_cons_self)
  refine ⟨I.ok, I.os, I.bare, ⟨I.base.keep, I.base.slot, fun b o q m hx => ?_, I.base.there, fun b ys q => ?_, fun b o u q => ?_, fun b qs q => ?_⟩, I.loc, I.cell, ?_, fun x c q => ?_, fun p hp => ?_, HOk.adopt I.hok hn ⟨hz, its, n, hv, e⟩, I.len⟩
  · rw [upd_ne (Nat.ne_of_lt (Nat.lt_of_lt_of_le (Heap.lt_size q) st.1))]; exact I.base.free b o q m hx
  · have := I.base.tups b ys q
    rw [upd_ne (ne_of_none this hn)]; exact this
  · have := I.base.frzs b o u q
    rw [upd_ne (ne_of_none this hn)]; exact this
  · obtain ⟨m, this⟩ := I.base.tbls b qs q
    exact ⟨m, by rw [upd_ne (ne_of_none this hn)]; exact this⟩
  · rw [upd_ne (Ne.symm ne)]; exact I.free
  · rw [upd_ne (st.2.1 x c q)]; exact I.freeC x c q
  · obtain ⟨h1, h2, h3, h4, h5⟩ := I.unpin.pin p hp
    exact ⟨h1, by rw [upd_ne (st.2.2 p hp)]; exact h2, h3, h4, h5⟩
end
theorem vals_zip : ∀ {xs : List V} {us : List Value}, Vals xs us → ∀ p ∈ us.zip xs, RelV p.2 p.1
  | _, _, .nil, _, h => by simp at h
  | _, _, .cons r t, p, h => by
    rcases List.mem_cons.mp (by simpa using h) with e | e
    · subst e; exact r
    · exact vals_zip t p e
theorem reps_zip {K : PySem.W.Frag} {H : Hp} : ∀ {ds : List D} {xs : List V}, Reps K H ds xs → ∀ p ∈ xs.zip ds, Rep K H p.2 p.1
  | [], _, h, p, hp => by rw [h.nil_of] at hp; simp at hp
  | d :: ds, _, h, p, hp => by
    obtain ⟨v, r, rfl, q, t⟩ := h.cons_of
    rcases List.mem_cons.mp (by simpa using hp) with e | e
    · subst e; exact q
    · exact reps_zip t p e
theorem vals_map {α : Type} (f : α → V) (g : α → Value) : ∀ (qs : List α), (∀ q ∈ qs, RelV (f q) (g q)) → Vals (qs.map f) (qs.map g)
  | [], _ => .nil
  | q :: qs, h => .cons (h q List.mem_cons_self) (vals_map f g qs fun p hp => h p (List.mem_cons_of_mem _ hp))
theorem reps_map {K : PySem.W.Frag} {H : Hp} {α : Type} (f : α → V) (g : α → D) : ∀ (qs : List α), (∀ q ∈ qs, Rep K H (g q) (f q)) → Reps K H (qs.map g) (qs.map f)
  | [], _ => reps_nil
  | q :: qs, h => reps_cons (h q List.mem_cons_self) (reps_map f g qs fun p hp => h p (List.mem_cons_of_mem _ hp))
def SortR (fx : DS → Option D) (fb : DS → Option D) (inn : List (Option Nat)) (δ : DS) (Q : List D → Prop) : Prop :=
  ∃ (ds : List D) (ks : List Int), fx δ = some (.lst ds) ∧ ds.length < 64 ∧ ks.length = ds.length ∧ (∀ (i : Nat) (d : D) (k : Int), ds[i]? = some d → ks[i]? = some k → fb ((innD inn δ).set 0 (some d)) = some (.int k)) ∧
    ∀ qs : List (Int × D), qs.Perm (ks.zip ds) → qs.Pairwise (fun p q => p.1 ≤ q.1) → Q (qs.map (·.2))
def tSort (K : PySem.W.Frag) (fx : DS → Option D) (fb : DS → Option D) (inn : List (Option Nat)) : TE := fun σ H Q =>
  ∃ (δ : DS) (R : List D → Prop), SRep K H σ δ ∧ SortR fx fb inn δ R ∧ ∀ a xs ds H', R ds → H a = none → Same H H' → H' a = some (.lst xs) → Reps K H' ds xs → Q (.ref a) H'
section
variable {X : Cx} {e body : Expr} {params : Arguments} {scope : Scope} {p pos lpos kpos : Pos} {c P : Addr} {x par : Str} {N' : List Str} {inn : List (Option Nat)} {fx fb : DS → Option D}
theorem pe_sorted (hcalm : X.calm = true) (hg : Gl X "sorted") (hm : X.mg "sorted" = none) (he : PE X e (tD X.K fx)) (hx : x ∈ lamDefs) (hT : PySem.W.tabIn X.K x = some (c, P)) (hC : PySem.W.CodeHd X.base c P) (hq : X.env.qual ++ "<lambda>" = lamQ x) (hcode : X.env.code = .ref c) (hdef : defaultsOf params X.env = ([], []))
    (S : LamSc X scope N' par inn) (hbody : ∀ (f c' : Addr) (s : Shared) (H : Hp), PE (cxLam X (lamQ x) scope N' f c' s H) body (tD X.K fb))
    (hbind : ∀ (pm ctv : Value) (c' : Addr) (cl : List (Str × Addr)) (u : Value), bindArgs (PySem.W.kla_fn "<lambda>" (lamQ x) params body scope cl pm (.ref c') ctv) ⟨[u], []⟩ = pure [(par, u)]) (hroom : X.A.in1.in1.depth < recursionLimit)
    (hs1 : starEach [e] X.env = (false, eval e X.env) :: starEach [] X.env := by rfl)
    (hb1 : backTo pos (starEach [e] X.env) = (false, eval e X.env) :: backTo pos (starEach [] X.env) := by rfl)
    (hpl : (backTo pos (starEach [e] X.env)).any (·.1) = false := by rfl)
    (hall : (backToKw pos (keywordEach [⟨some "key", .Lambda params body scope lpos, kpos⟩] X.env)).all (·.1.isSome) = true := by rfl)
    (hkw : (backToKw pos (keywordEach [⟨some "key", .Lambda params body scope lpos, kpos⟩] X.env)).any (·.1.isNone) = false := by rfl)
    (hnm : (backToKw pos (keywordEach [⟨some "key", .Lambda params body scope lpos, kpos⟩] X.env)).filterMap (·.1) = [Str.ofString "key"] := by rfl) :
    PE X (.Call (.Name "sorted" p) [e] [⟨some "key", .Lambda params body scope lpos, kpos⟩] pos) (tSort X.K fx fb inn) := by
  intro pins s σ H Q I ⟨δ, R, sr, ⟨ds, ks, ex, h64, hlen, hkeys, hR⟩, hQ⟩
  refine wpAny_Call_Name_kw (ld_blt I hg hm boot_sorted ?_ (by decide) (by decide))
  refine callWith_kw (thn ((pa_cons he pa_nil hs1) pos pins s σ H (fun xs H' => ∃ v, xs = [v] ∧ Same H H' ∧ Rep X.K H' (.lst ds) v) I ⟨δ, .lst ds, sr, ex, fun v H' s' r' => ⟨v, rfl, s', r'⟩⟩) fun us s1 h1 => ?_) hb1 hpl hall hkw
  obtain ⟨vs1, H1, I1, r1, v, rfl, S1, rv⟩ := h1
  have tk1 := (sr.2.1.mono S1) x hx c P hT
  refine thn ((pk_cons (nm := some "key") (kpos := kpos) (pe_lam (pos := lpos) hq hcode hC hdef fun y hy => (S.frees y hy).2) pk_nil) pos pins s1 σ H1 (fun zs H' => ∃ f, zs = [.ref f] ∧ Same H1 H' ∧ LamO X H' f (lamQ x) params body scope) I1 ⟨tk1, fun f H' s' l' => ⟨f, rfl, s', l'⟩⟩) fun kvs s2 h2 => ?_
  obtain ⟨zs, H2, I2, r2, f, rfl, S2, L2'⟩ := h2
  cases r1 with
  | cons ra rb => cases rb with
    | nil => cases r2 with
      | cons rc rd => cases rd with
        | nil =>
          obtain ⟨l, xs, rfl, hl, rs⟩ := rv.lst_of
          cases ra
          cases rc
          rw [hnm]
          have hl2 := S2 _ _ hl
          have rs2 := rs.mono S2
          obtain ⟨hz, its, n, hvs, hlo⟩ := I2.hok l _ hl2
          have hxl := rs.length
          have hil := hvs.length
          have hlist : s2.heap.IsList l its.toArray := ⟨_, hlo, rfl, n, rfl⟩
          have S12 : Same H H2 := S1.trans S2
          refine sort_call (kz := ks) I2 hlist (by omega) (by omega) (fun i v k hv hk pins' s' H' I' S' => ?_) fun a s' H' out c' hna I' S' ko sA => ?_
          · have hi : i < its.length := (List.getElem?_eq_some_iff.mp hv).1
            obtain ⟨xv, hxv⟩ : ∃ xv, xs[i]? = some xv := ⟨_, List.getElem?_eq_getElem (by omega)⟩
            obtain ⟨u', hu', ru⟩ := hvs.get hxv
            rw [hv] at hu'; cases hu'
            obtain ⟨d, hd, rd⟩ := rs2.get' hxv
            refine thn (lam_run hbody S hcalm hbind hroom I' (L2'.mono S') ru (rd.mono S') (sr.mono (S12.trans S')) (hkeys i d k hd hk)) fun w s'' h => ?_
            obtain ⟨v', H'', J, rv', Sj, rz⟩ := h
            exact ⟨v', H'', J, rv', Sj, rz.int_of⟩
          · obtain ⟨ps, hp, ho, hs⟩ := ko
            have zl : (xs.zip ds).length = xs.length := by rw [List.length_zip]; omega
            have z2 : (its.zip (xs.zip ds)).length = its.length := by rw [List.length_zip, zl]; omega
            let qs : List (Int × Value × V × D) := ks.zip (its.zip (xs.zip ds))
            have e1 : ks.zip its = qs.map fun q => (q.1, q.2.1) := by
              have : its = (its.zip (xs.zip ds)).map (·.1) := by rw [List.map_fst_zip (by omega)]
              show _ = (ks.zip (its.zip (xs.zip ds))).map _
              conv => lhs; rw [this]
              rw [List.zip_map_right]
              exact List.map_congr_left fun ⟨_, _⟩ _ => rfl
            have e2 : ks.zip ds = qs.map fun q => (q.1, q.2.2.2) := by
              have t1 : ds = (xs.zip ds).map (·.2) := by rw [List.map_snd_zip (by omega)]
              have t2 : xs.zip ds = (its.zip (xs.zip ds)).map (·.2) := by rw [List.map_snd_zip (by omega)]
              have t3 : ds = (its.zip (xs.zip ds)).map (fun q => q.2.2) := by
                conv => lhs; rw [t1, t2, List.map_map]
                rfl
              show _ = (ks.zip (its.zip (xs.zip ds))).map _
              conv => lhs; rw [t3]
              rw [List.zip_map_right]
              exact List.map_congr_left fun ⟨_, _⟩ _ => rfl
            rw [e1] at hp
            obtain ⟨qs', hq', rfl⟩ := perm_lift hp qs rfl
            have all : ∀ q ∈ qs', RelV q.2.2.1 q.2.1 ∧ Rep X.K H2 q.2.2.2 q.2.2.1 := fun q hq => by
              obtain ⟨k, u, xv, d⟩ := q
              have m1 := hq'.mem_iff.mp hq
              have m2 := (List.of_mem_zip m1).2
              have m3 := (List.of_mem_zip m2).2
              refine ⟨?_, reps_zip rs2 _ m3⟩
              have m4 : (u, xv) ∈ its.zip xs := by
                have e3 : its.zip xs = (its.zip (xs.zip ds)).map fun q => (q.1, q.2.1) := by
                  have : xs = (xs.zip ds).map (·.1) := by rw [List.map_fst_zip (by omega)]
                  conv => lhs; rw [this]
                  rw [List.zip_map_right]
                  exact List.map_congr_left fun ⟨_, _⟩ _ => rfl
                rw [e3]
                exact List.mem_map.mpr ⟨(u, xv, d), m2, rfl⟩
              exact vals_zip hvs _ m4
            have hout : out = (qs'.map fun q => q.2.1).toArray := by
              rw [← Array.toArray_toList (xs := out), ho, List.map_map]; rfl
            subst hout
            have ql : qs'.length = xs.length := by
              rw [hq'.length_eq]
              show (ks.zip (its.zip (xs.zip ds))).length = _
              rw [List.length_zip]; omega
            have I6 := I'.adopt sA (vals_map (fun q => q.2.2.1) (fun q => q.2.1) qs' fun q hq => (all q hq).1) (by rw [List.length_map]; omega)
            have hn' : H' a = none := (I'.pin _ (List.mem_append_right _ List.mem_cons_self)).2.1
            have Sf : Same H' (upd H' a (.lst (qs'.map fun q => q.2.2.1))) := same_new hn' _
            have rf : Reps X.K (upd H' a (.lst (qs'.map fun q => q.2.2.1))) (qs'.map fun q => q.2.2.2) (qs'.map fun q => q.2.2.1) := reps_map _ _ qs' fun q hq => ((all q hq).2.mono S').mono Sf
            have hRq := hR (qs'.map fun q => (q.1, q.2.2.2)) (by rw [e2]; exact hq'.map _) (by
              rw [List.pairwise_map] at hs ⊢
              refine hs.imp fun {p q} h => ?_
              simpa using h)
            rw [List.map_map] at hRq
            exact ⟨.ref a, _, I6, rfl, hQ a _ _ _ hRq (S12.free hna) (S12.trans (S'.trans Sf)) upd_same rf⟩
end
def tR (K : PySem.W.Frag) (H₀ : Hp) (gh : List (V × D)) (ow ow' owL : List Nat) (G : DS → (DF → Prop) → Prop) : TS := fun E σ H => ∃ (δ : DS) (Q : DF → Prop), SOk K H₀ gh ow H σ δ ∧ G δ Q ∧ ∀ fl, Q fl → fl.ok K H₀ gh ow' owL E
def ofG (g : DS → Option DF) : DS → (DF → Prop) → Prop := fun δ Q => ∃ fl, g δ = some fl ∧ Q fl
def seqG (G G' : DS → (DF → Prop) → Prop) : DS → (DF → Prop) → Prop := fun δ Q => ∃ Q1, G δ Q1 ∧ ∀ fl, Q1 fl → match fl with
  | .nx δ' => G' δ' Q
  | fl => Q fl
def whileN (t : DS → Option Bool) (G : DS → (DF → Prop) → Prop) : Nat → DS → (DF → Prop) → Prop
  | 0, _, _ => False
  | n + 1, δ, Q => ∃ k, t δ = some k ∧ if k = true then ∃ Q1, G δ Q1 ∧ ∀ fl, Q1 fl → match fl with
      | .nx δ2 => whileN t G n δ2 Q
      | .ct δ2 => whileN t G n δ2 Q
      | .bk δ2 => Q (.nx δ2)
      | .rt d => Q (.rt d)
    else Q (.nx δ)
def whileG (t : DS → Option Bool) (G : DS → (DF → Prop) → Prop) : DS → (DF → Prop) → Prop := fun δ Q => ∃ n, whileN t G n δ Q
def forN (h : D → DS → Option DS) (G : DS → (DF → Prop) → Prop) : List D → DS → (DF → Prop) → Prop
  | [], δ, Q => Q (.nx δ)
  | d :: ds, δ, Q => ∃ δ1, h d δ = some δ1 ∧ ∃ Q1, G δ1 Q1 ∧ ∀ fl, Q1 fl → match fl with
      | .nx δ2 => forN h G ds δ2 Q
      | .ct δ2 => forN h G ds δ2 Q
      | .bk δ2 => Q (.nx δ2)
      | .rt d => Q (.rt d)
def forG (fi : DS → Option (List D)) (h : D → DS → Option DS) (G : DS → (DF → Prop) → Prop) : DS → (DF → Prop) → Prop := fun δ Q => ∃ ds, fi δ = some ds ∧ forN h G ds δ Q
def sortG (i : Nat) (fx fb : DS → Option D) (inn : List (Option Nat)) : DS → (DF → Prop) → Prop := fun δ Q => SortR fx fb inn δ fun ds => Q (.nx (δ.set i (some (.lst ds))))
def callG (i : Nat) (fs : DS → Option (List D)) (R : List D → (D → Prop) → Prop) : DS → (DF → Prop) → Prop := fun δ Q => ∃ ds, fs δ = some ds ∧ R ds fun d => Q (.nx (δ.set i (some d)))
section
variable {X : Cx} {H₀ : Hp} {gh : List (V × D)} {ow ow1 ow' owL : List Nat} {a b e : Expr} {es : List Expr} {pos p : Pos} {fa fb : DS → Option D} {st : Stmt} {sts : List Stmt} {g g' : DS → Option DF} {G G' : DS → (DF → Prop) → Prop}
theorem r_of (h : PS X st (tS X.K H₀ gh ow ow' owL g)) : PS X st (tR X.K H₀ gh ow ow' owL (ofG g)) := PS.imp h fun E σ H ⟨δ, Q, so, ⟨fl, e, q⟩, z⟩ => ⟨δ, fl, so, e, z fl q⟩
theorem r_cons (h1 : PS X st (tR X.K H₀ gh ow ow1 owL G)) (h2 : PSs X sts (tR X.K H₀ gh ow1 ow' owL G')) : PSs X (st :: sts) (tR X.K H₀ gh ow ow' owL (seqG G G')) := PSs.imp (pss_cons h1 h2) fun E σ H ⟨δ, Q, so, ⟨Q1, g1, g2⟩, z⟩ => by
  refine ⟨δ, Q1, so, g1, fun fl hf => ?_⟩
  have := g2 fl hf
  cases fl with
  | nx δ' => exact fun σ' H' so' => ⟨δ', Q, so', this, z⟩
  | rt d => exact z _ this
  | bk δ' => exact z _ this
  | ct δ' => exact z _ this
theorem r_one (h1 : PS X st (tR X.K H₀ gh ow ow' owL G)) : PSs X [st] (tR X.K H₀ gh ow ow' owL G) := pss_one h1
theorem r_while {c : Expr} {body : List Stmt} {tc : DS → Option Bool} (hp : PassesOwn (model X.prog X.w) X.A X.env X.xe) (hc : PT X c (tT X.K tc)) (hb : PSs X body (tR X.K H₀ gh ow ow ow G)) :
    PS X (.While c body [] pos) (tR X.K H₀ gh ow ow owL (whileG tc G)) := PS.imp (ps_while hp hc hb) fun E σ H ⟨δ, Q, so, ⟨n, g1⟩, z⟩ => by
  refine ⟨fun m σ H => ∃ δ, SOk X.K H₀ gh ow H σ δ ∧ whileN tc G m δ Q, ⟨n, δ, so, g1⟩, ?_⟩
  rintro m σ H ⟨δ, so, e⟩
  cases m with
  | zero => exact e.elim
  | succ m =>
    unfold whileN at e
    obtain ⟨k, et, e⟩ := e
    refine ⟨δ, k, so.rep, et, fun H' S => ?_⟩
    cases k with
    | false => exact iteF (z _ e σ H' (so.mono S))
    | true =>
      obtain ⟨Q1, g1, g2⟩ := e
      refine iteT ⟨fun σ' H' => ∃ δ', SOk X.K H₀ gh ow H' σ' δ' ∧ whileN tc G m δ' Q, fun σ' H' z => ⟨m, Nat.lt_succ_self m, z⟩, ?_⟩
      refine ⟨δ, Q1, so.mono S, g1, fun fl hf => ?_⟩
      have := g2 fl hf
      cases fl with
      | nx δ2 => exact fun σ3 H3 so3 => ⟨δ2, so3, this⟩
      | ct δ2 => exact fun σ3 H3 so3 => ⟨δ2, so3, this⟩
      | bk δ2 => exact fun σ3 H3 so3 => z _ this σ3 H3 so3
      | rt d => exact z _ this
theorem forR_core {tg iter : Expr} {body : List Stmt} {h : D → DS → Option DS} {ks : List Nat} {ds : List D} {gt : TG} {J : It} {gx : List (V × D)} {E : Ends} {σ : St} {H : Hp} {δ : DS} {Q : DF → Prop} {B : TS} (hB : ∀ E σ H, tR X.K H₀ (gx ++ gh) ow ow ow G E σ H → B E σ H) (hgt : ∀ (v : V) (d : D) (σ : St) (H : Hp) (δ δ' : DS) (Q : St → Hp → Prop), Rep X.K H d v → SRep X.K H σ δ → h d δ = some δ' →
      (∀ σ', SRep X.K H σ' δ' → (∀ k, k ∉ ks → σ'[k]? = σ[k]?) → Q σ' H) → gt v σ H Q) (hks : ∀ k ∈ ks, k ∉ ow)
    (so : SOk X.K H₀ (gx ++ gh) ow H σ δ) (hJ : ItD X.K J gx ds) (e : forN h G ds δ Q) (q : ∀ fl, Q fl → fl.ok X.K H₀ gh ow owL E) :
    ∃ W : Nat → Nat → St → Hp → Prop, (∃ m, W 0 m σ H) ∧ ∀ i m σ H, W i m σ H →
      (J.stop i H ∧ E.nx σ H) ∨ (J.go i H ∧ ∃ N : St → Hp → Prop, (∀ σ' H', N σ' H' → ∃ m', m' < m ∧ W (i + 1) m' σ' H') ∧ ∀ x H', J.yld i H x H' → gt x σ H' fun σ2 H2 => B { E with nx := N, ct := N, bk := E.nx } σ2 H2) := by
  have weakG : ∀ {H : Hp} {σ : St} {δ : DS}, SOk X.K H₀ (gx ++ gh) ow H σ δ → SOk X.K H₀ gh ow H σ δ := fun so => ⟨so.same, so.rep, fun p hp => so.gr p (List.mem_append_right _ hp), so.own⟩
  refine ⟨fun i m σ H => m = ds.length + 1 - i ∧ i ≤ ds.length ∧ ∃ δ, SOk X.K H₀ (gx ++ gh) ow H σ δ ∧ forN h G (ds.drop i) δ Q, ⟨_, rfl, Nat.zero_le _, δ, so, e⟩, ?_⟩
  rintro i m σ H ⟨hm, hi, δ, so, e⟩
  have hg : GRep X.K H gx := fun p hp => so.gr p (List.mem_append_left _ hp)
  by_cases hlt : i < ds.length
  · rw [List.drop_eq_getElem_cons hlt] at e
    unfold forN at e
    obtain ⟨δ1, eb, Q1, g1, g2⟩ := e
    refine .inr ⟨hJ.go i H hg hlt, fun σ' H' => ∃ δ2, SOk X.K H₀ (gx ++ gh) ow H' σ' δ2 ∧ forN h G (ds.drop (i + 1)) δ2 Q, fun σ' H' ⟨δ2, so2, e2⟩ => ⟨ds.length + 1 - (i + 1), by omega, rfl, hlt, δ2, so2, e2⟩, fun x H' y => ?_⟩
    obtain ⟨S, rx⟩ := hJ.yld i H x H' ds[i] hg (List.getElem?_eq_getElem hlt) y
    have so' := so.mono S
    refine hgt x ds[i] σ H' δ δ1 _ rx so'.rep eb fun σ2 sr2 hk2 => hB _ _ _ ⟨δ1, Q1, ⟨so'.same, sr2, so'.gr, fun j hj ad ea => so'.own j hj ad (by rw [← hk2 j fun z => hks j z hj]; exact ea)⟩, g1, fun fl hf => ?_⟩
    have := g2 fl hf
    cases fl with
    | nx δ2 => exact fun σ3 H3 so3 => ⟨δ2, so3, this⟩
    | ct δ2 => exact fun σ3 H3 so3 => ⟨δ2, so3, this⟩
    | bk δ2 => exact fun σ3 H3 so3 => q _ this σ3 H3 (weakG so3)
    | rt d => exact q _ this
  · have hil : i = ds.length := by omega
    subst hil
    rw [List.drop_length] at e
    exact .inl ⟨hJ.stop H hg, q _ e σ H (weakG so)⟩
theorem r_forR {tg iter : Expr} {body : List Stmt} {fi : DS → Option (List D)} {h : D → DS → Option DS} {ks : List Nat} (hp : PassesOwn (model X.prog X.w) X.A X.env X.xe) (hc : X.calm = true) (hit : PI X tg iter (tIR X.K fi)) (hg : TgD X tg h ks) (hks : ∀ k ∈ ks, k ∉ ow)
    (hb : PSs X body (tR X.K H₀ gh ow ow ow G)) (hs : ∀ x, foldedSetIterable iter X.env x = pure x := by intro _; rfl) :
    PS X (.For tg iter body [] pos) (tR X.K H₀ gh ow ow owL (forG fi h G)) := by
  obtain ⟨gt, hg1, hgt⟩ := hg
  intro pins s σ H E I ⟨δ, Q, so, ⟨ds, ei, e⟩, z⟩
  refine ps_for hp hc hit hg1 hb hs pins s σ H E I ?_
  refine ⟨δ, ds, so.rep, ei, fun J H' S hJ _ => ?_⟩
  have so' := so.mono S
  exact forR_core (E := E) (tg := tg) (iter := iter) (body := body) (owL := owL) (B := tR X.K H₀ gh ow ow ow G) (fun _ _ _ z => z) hgt hks (gx := []) ⟨so'.same, so'.rep, so'.gr, so'.own⟩ hJ e z
theorem r_sort (i : Nat) {x : Str} {pos' : Pos} {fx fb : DS → Option D} {inn : List (Option Nat)} (hN : X.N.Nodup) (hi : X.N[i]? = some x) (hx : Loc X.env.scope x) (ha : PE X a (tSort X.K fx fb inn)) (hs : swapsWith a (some (.Name x pos')) pos.line X.env = pure false := by rfl)
    (hf : X.fn x = true ∨ X.env.scope.names.lookup x = some .local := by first | exact .inl rfl | exact .inr rfl | assumption) :
    PS X (.Assign [.Name x pos'] a pos) (tR X.K H₀ gh ow (i :: ow) owL (sortG i fx fb inn)) := PS.imp (ps_set hN hi hx ha hs hf) fun E σ H ⟨δ, Q, so, g1, z⟩ => by
  refine ⟨δ, _, so.rep, g1, fun l xs ds H' hR hl s hl' rs => ?_⟩
  exact z _ hR _ H' ((so.mono s).setOwn (rep_lst hl' rs) (so.same.free hl) i)
end
def spR (K : PySem.W.Frag) (R : List D → (D → Prop) → Prop) : Sp := fun vs H Q _ => ∃ (ds : List D) (Z : D → Prop), TabK K H ∧ Reps K H ds vs ∧ R ds Z ∧ ∀ d, Z d → ∀ v H', Same H H' → Rep K H' d v → Q v H'
def runR (n : Nat) (N : List Str) (G : DS → (DF → Prop) → Prop) (ds : List D) (Z : D → Prop) : Prop :=
  ds.length = n ∧ G (ds.map some ++ List.replicate (N.length - ds.length) none) fun fl => match fl with
    | .rt d => Z d
    | .nx _ => Z .non
    | _ => False
def CaR (P : Program) (w : World) (K : PySem.W.Frag) (mg : Str → Option Value) (base : Heap) (k : Nat) (x : Str) (R : List D → (D → Prop) → Prop) : Prop :=
  ∃ (f : Addr) (fd : FuncData) (ps : List Str), mg x = some (.ref f) ∧ FnOk P w K mg base CX0 k f fd ps (spR K R) ∧ Binds K fd ps [] ∧ PySem.W.keepIn K (.ref f) = true
theorem CaR.mono {P : Program} {w : World} {K : PySem.W.Frag} {mg : Str → Option Value} {base : Heap} {j k : Nat} {x : Str} {R : List D → (D → Prop) → Prop} (c : CaR P w K mg base j x R) (h : j ≤ k) : CaR P w K mg base k x R := by
  obtain ⟨f, fd, ps, h1, h2, h3, h4⟩ := c
  exact ⟨f, fd, ps, h1, h2.mono h, h3, h4⟩
theorem CaR.fn {P : Program} {w : World} {K : PySem.W.Frag} {mg : Str → Option Value} {base : Heap} {k : Nat} {x : Str} {R : List D → (D → Prop) → Prop} {F : List D → Option D} (c : CaR P w K mg base k x R) (h : ∀ ds d, F ds = some d → R ds (· = d)) : Ca P w K mg base k x F := by
  obtain ⟨f, fd, ps, h1, h2, h3, h4⟩ := c
  exact ⟨f, fd, ps, h1, h2.imp fun vs H Q E ⟨ds, d, tk, rs, e, q⟩ => ⟨ds, (· = d), tk, rs, h ds d e, fun d' z v H' s r => q v H' s (z ▸ r)⟩, h3, h4⟩
section
variable {X : Cx} {H₀ : Hp} {gh : List (V × D)} {ow ow1 ow' owL : List Nat} {a b e : Expr} {es : List Expr} {pos p : Pos}
def tDR (K : PySem.W.Frag) (f : DS → (D → Prop) → Prop) : TE := fun σ H Q => ∃ (δ : DS) (Z : D → Prop), SRep K H σ δ ∧ f δ Z ∧ ∀ d, Z d → ∀ v H', Same H H' → Rep K H' d v → Q v H'
theorem dR_call {k : Nat} {x : Str} {R : List D → (D → Prop) → Prop} {fs : DS → Option (List D)} (c : CaR X.prog X.w X.K X.mg X.base k x R) (hr : Room k X.A) (hg : Gl X x) (ha : PA X (e :: es) (tDA X.K fs))
    (hd : (x == ("__debug__" : Str)) = false := by decide) (he : starEach (e :: es) X.env = (false, eval e X.env) :: starEach es X.env := by rfl) (hpl : (backTo pos (starEach es X.env)).any (·.1) = false := by rfl) : PE X (.Call (.Name x p) (e :: es) [] pos) (tDR X.K fun δ Z => ∃ ds, fs δ = some ds ∧ R ds Z) := by
  obtain ⟨f, fd, ps, h1, h2, h3, h4⟩ := c
  exact (pe_call h2 hr hg h1 h4 h3 .nil pass0 ha hd he hpl).imp fun σ H Q ⟨δ, Z, sr, ⟨ds, ex, hR⟩, q⟩ =>
    ⟨δ, ds, sr, ex, fun vs H1 s1 rs => ⟨ds, Z, sr.2.1.mono s1, by rw [List.append_nil]; exact rs, hR, fun d hz v H' s2 rv => q d hz v H' (s1.trans s2) rv⟩⟩
theorem r_set (i : Nat) {x : Str} {pos' : Pos} {f : DS → (D → Prop) → Prop} (hN : X.N.Nodup) (hi : X.N[i]? = some x) (hx : Loc X.env.scope x) (ha : PE X a (tDR X.K f)) (hs : swapsWith a (some (.Name x pos')) pos.line X.env = pure false := by rfl)
    (hf : X.fn x = true ∨ X.env.scope.names.lookup x = some .local := by first | exact .inl rfl | exact .inr rfl | assumption) :
    PS X (.Assign [.Name x pos'] a pos) (tR X.K H₀ gh ow (ow.filter (· ≠ i)) owL fun δ Q => f δ fun d => Q (.nx (δ.set i (some d)))) := PS.imp (ps_set hN hi hx ha hs hf) fun E σ H ⟨δ, Q, so, g1, z⟩ => by
  exact ⟨δ, _, so.rep, g1, fun d hz v H' s rv => z _ hz _ H' ((so.mono s).set rv i)⟩
end
theorem def_fnR {P : Program} {w : World} {K : PySem.W.Frag} {mg : Str → Option Value} {base : Heap} {x qual : Str} {st : Stmt} {f : Addr} {fd : FuncData} {N ps : List Str} {k : Nat} {G : DS → (DF → Prop) → Prop} (F : Fun K x qual st f fd) (S : FnScope N ps (defScope st))
    (hb : ∀ (cdv : Value) (A : Around) (outer : List Env) (s : Shared) (H : Hp) (E : XK), fd.code = cdv → Mod K mg base → Room k (A.deeper (envOfC qual (defScope st) s.heap.objs.size f cdv)) → ∃ ow', PSs (cxOf CX0 P w K mg base N qual (defScope st) f cdv A outer s H E).nox (defBody st) (tR K H [] [] ow' [] G)) :
    FnOk P w K mg base CX0 (k + 1) f fd ps (spR K (runR ps.length N G)) := by
  obtain ⟨oc, od, kV, doc, pm, an, cdv, ct, osl, rfl, lk, hcd⟩ := F.ex
  have main : Mod K mg base → FnOk P w K mg base CX0 (k + 1) f (PySem.W.fnOf x qual (defArgs st) (defBody st) (defScope st) .none kV doc pm an cdv ct) ps (spR K (runR ps.length N G)) := fun hM => by
    refine fn_of lk hcd S (fun vs H Q E h => ?_) (fun A outer s H vs Q E hr h => ?_)
    · obtain ⟨ds, Z, tk, rs, e, _⟩ := h
      rw [← e.1]; exact rs.length
    · obtain ⟨ds, Z, tk, rs, ⟨hl, g1⟩, q⟩ := h
      obtain ⟨ow', B⟩ := hb cdv A outer s H E rfl hM hr
      refine ⟨_, B.nox, _, _, ⟨Same.refl H, srep_start tk rs, grep_nil, fun i hi => nomatch hi⟩, g1, fun fl hf => ?_⟩
      cases fl with
      | nx δ => exact fun σ' H' so => q _ hf .non H' so.same rep_non
      | rt d' => exact fun v H' s rv => q _ hf v H' s rv
      | bk δ => exact hf.elim
      | ct δ => exact hf.elim
  exact ⟨fun vs H Q E ⟨ds, Z, tk, rs, e, _⟩ => by rw [← e.1]; exact rs.length, fun A outer s H args us vs Q E hr he => (main he.mod).run A outer s H args us vs Q E hr he⟩
end L2
set_option Elab.async false
set_option linter.all false
set_option maxRecDepth 100000
set_option maxHeartbeats 1000000
namespace L2
open PySem PySem.Spec PyProof.Rows
def Htab (K : PySem.W.Frag) : Hp := fun b => lamDefs.findSome? fun x => match PySem.W.tabIn K x with
  | some (_, P) => if P = b then some (HO.lam (lamQ x)) else none
  | none => none
theorem Htab_some {K : PySem.W.Frag} {b : Addr} {u : HO} (h : Htab K b = some u) : ∃ x ∈ lamDefs, ∃ c, PySem.W.tabIn K x = some (c, b) ∧ u = .lam (lamQ x) := by
  obtain ⟨x, hx, e⟩ := List.exists_of_findSome?_eq_some h
  refine ⟨x, hx, ?_⟩
  split at e
  · rename_i c P ht
    split at e
    · rename_i hP
      subst hP
      exact ⟨c, ht, (Option.some.inj e).symm⟩
    · cases e
  · cases e
theorem law_call {P : Program} {w : World} {K : PySem.W.Frag} {mg mb : Str → Option Value} {CX : CXT} {k : Nat} {fa a : Addr} {fd : FuncData} {x : Str} {sp : Sp} {s₁ : Shared} {vs : List Value} {ns : List Int}
    (KX : K.In s₁.heap) (hns : s₁.heap.Ns mainGlobals mg) (hb : s₁.heap.Ns builtinsNs mb) (hbb : ∀ x : Str, x ≠ "__name__" → mb x = bootBuiltins x) (hlim : s₁.heap.NoLimit) (hsee : s₁.heap.NoSeer) (hg : s₁.gens = #[])
    (hbm : ∃ bm ob, mg "__builtins__" = some (.ref bm) ∧ bm ≠ builtinsNs ∧ s₁.heap.get? bm = some ob ∧ ob.cls = .type "module" ∧ ob.dict = some builtinsNs ∧ ob.data = .plain)
    (hT : ∀ x ∈ lamDefs, ∀ c P, PySem.W.tabIn K x = some (c, P) → PySem.W.CodeHd s₁.heap c P ∧ s₁.heap.get? P = some (PySem.W.tabObj #[])) (hNT : PySem.W.noTabs K = true) (hTK : TabK K (Htab K))
    (ha : s₁.heap.get? a = some { cls := .type "list", data := .seq vs.toArray }) (hi : IntsAre vs ns) (hl : ns.length ≤ sizeLine) (hr : Room k callerA)
    (F : ∀ base : Heap, K.In base → base.Ns mainGlobals mg → FnOk P w K mg base CX k fa fd [x] sp) (hbind : ∀ (s : Shared) (u : Value), BindsTo s fd ⟨[u], []⟩ [(x, u)])
    (hsp : ∀ H : Hp, TabK K H → SqF K H a (ns.map V.int) → sp [.ref a] H (fun v H' => v = .bl true ∧ Same H H') fun _ _ _ => False)
    (hCX : ∀ H e s', CX [] H s₁ (fun _ _ _ => False) e s' → False) :
    codeAny (model P w) callerA (.call (.ref fa) ⟨[.ref a], []⟩) (fun r s' => r = .ok (.ret (.bool true)) ∧ OldK s₁.heap s'.heap ∧ s'.os = s₁.os ∧ AllBare s'.gens) s₁ := by
  have rv := vals_ints hi
  have lenV := hi.length
  have core : ∀ H : Hp, SqF K H a (ns.map V.int) → HOk P w H s₁.heap → (∀ b u, H b = some u → (b = a ∧ K.lookup a = none ∧ ∃ o xs, u = .frz o (.lst xs)) ∨ Htab K b = some u) → TabK K H →
      codeAny (model P w) callerA (.call (.ref fa) ⟨[.ref a], []⟩) (fun r s' => r = .ok (.ret (.bool true)) ∧ OldK s₁.heap s'.heap ∧ s'.os = s₁.os ∧ AllBare s'.gens) s₁ := by
    intro H hS hok hA hTH
    have trkd : ∀ {b : Addr} {o : Obj}, s₁.heap.get? b = some o → (o.cls ≠ .type "list") → (o ≠ PySem.W.tabObj #[]) → H b = none := fun {b o} e h1 h2 => by
      cases q : H b with
      | none => rfl
      | some u =>
        rcases hA b u q with ⟨z, _⟩ | z
        · subst z; rw [ha] at e; cases e; exact absurd rfl h1
        · obtain ⟨y, hy, c, ht, _⟩ := Htab_some z
          have := (hT y hy c b ht).2
          rw [e] at this
          exact absurd (Option.some.inj this) h2
    have base_of : ∀ {b : Addr} {o : Obj}, s₁.heap.get? b = some o → H b = none → (hidT s₁.heap H).get? b = some o := fun e n => hidT_get e n
    have noA : ∀ {b : Addr} {o : Obj} {es : Array DictEntry} {ep : Nat}, s₁.heap.get? b = some o → o.data = .dict es ep → H b = none := fun {b o es ep} e d => by
      cases q : H b with
      | none => rfl
      | some u =>
        rcases hA b u q with ⟨z, _⟩ | z
        · subst z; rw [ha] at e; cases e
          have d' : Data.seq vs.toArray _ = Data.dict es ep := d
          cases d'
        · obtain ⟨y, hy, c, ht, _⟩ := Htab_some z
          have := (hT y hy c b ht).2
          rw [e] at this
          cases this
          cases d
    have nsK : ∀ {b : Addr} {m : Str → Option Value}, s₁.heap.Ns b m → (hidT s₁.heap H).Ns b m := fun {b m} ⟨o, es, ep, e, d, r⟩ => ⟨o, es, ep, base_of e (noA e d), d, r⟩
    have hKb : K.In (hidT s₁.heap H) := fun b o e => base_of (KX b o e) (by
      cases q : H b with
      | none => rfl
      | some u =>
        rcases hA b u q with ⟨z, zk, _⟩ | z
        · subst z; rw [zk] at e; cases e
        · obtain ⟨y, hy, c, ht, _⟩ := Htab_some z
          have h1 := (hT y hy c b ht).2
          rw [KX b o e] at h1
          have h2 := List.all_eq_true.mp hNT (b, o) (PySem.W.mem_of_lookupK e)
          cases h1
          exact absurd (show false = true from h2) Bool.false_ne_true)
    have hM : Mod K mg (hidT s₁.heap H) := ⟨hKb, nsK hns, ⟨mb, nsK hb, hbb⟩, let ⟨mc, h1, h2⟩ := hlim; ⟨mc, nsK h1, h2⟩,
      let ⟨bm, ob, b1, b2, b3, b4, b5, b6⟩ := hbm; ⟨bm, ob, b1, b2, base_of b3 (trkd b3 (by rw [b4]; nofun) (fun z => by rw [z] at b4; cases b4)), b4, b5, b6⟩,
      fun y hy c Q ht => by
        obtain ⟨o, vs', file, tf, flags, tg, inF, text, tt, e1, r1, r⟩ := (hT y hy c Q ht).1
        exact ⟨o, vs', file, tf, flags, tg, inF, text, tt, base_of e1 (trkd e1 (by rw [r1]; nofun) (fun z => by rw [z] at r1; cases r1)), r1, r⟩,
      ⟨let ⟨mc, h1, h2⟩ := hsee.statics; ⟨mc, nsK h1, h2⟩, let ⟨mc, h1, h2⟩ := hsee.mods; ⟨mc, nsK h1, h2⟩, let ⟨mc, h1, h2⟩ := hsee.imp; ⟨mc, nsK h1, h2⟩,
        let ⟨m', bm, ob, b0, b1, b3, b4, b5⟩ := hsee.main; ⟨m', bm, ob, nsK b0, b1, base_of b3 (trkd b3 (by rw [b4]; nofun) (fun z => by rw [z] at b4; cases b4)), b4, b5⟩⟩⟩
    have e0 : Env0 P w K mg (hidT s₁.heap H) callerA [] s₁ H := ⟨rfl, hM, fun b o e => of_hidT e, Nat.le_of_eq (hidT_size _ _), trivial, fun b hb => absurd (show b ∈ ([] : List Addr) from hb) (by simp), hok, .of_eq hg⟩
    refine codeAny_mono ((F _ hKb (nsK hns)).run callerA [] s₁ H ⟨[.ref a], []⟩ [.ref a] [.ref a] _ _ hr e0 (hbind s₁ (.ref a)) (.cons rfl .nil) (hsp H hTH hS)) fun r s' h => ?_
    cases r with
    | error e => exact (hCX H e s' h).elim
    | ok fl =>
      cases fl with
      | next => exact False.elim h
      | brk => exact False.elim h
      | cont => exact False.elim h
      | ret u =>
        obtain ⟨v, H', os, bare, un, hok', r', q', S'⟩ := h
        subst q'
        obtain rfl : u = Value.bool true := r'
        have all : ∀ b o, s₁.heap.get? b = some o → s'.heap.get? b = some o ∨ (isCodeTable s₁.heap b ∧ o = PySem.W.tabObj #[] ∧ ∃ ps, s'.heap.get? b = some (PySem.W.tabObj ps)) := fun b o e => by
          cases q : H b with
          | none => exact .inl (un.keep b o e q (by intro z; exact absurd (show b ∈ ([] : List Addr) from z) (by simp)) (by simp))
          | some u =>
            rcases hA b u q with ⟨z, _, ob, xs, rfl⟩ | z
            · have z2 := un.frzs b ob _ q
              obtain ⟨e1, _⟩ := hok b _ q
              obtain ⟨e2, _⟩ := hok' b _ z2
              rw [e] at e1; cases e1
              exact .inl e2
            · obtain ⟨y, hy, c, ht, rfl⟩ := Htab_some z
              have h1 := hT y hy c b ht
              rw [e] at h1
              obtain ⟨ps, e2, _⟩ := hok' b _ (S' b _ q)
              exact .inr ⟨(h1.1.tab (h1.2 ▸ e)).isCodeTable, Option.some.inj h1.2, ps, e2⟩
        refine ⟨rfl, ⟨fun b o e => ?_, fun b o e => ?_⟩, os, bare⟩
        · rcases all b o e with z | ⟨t, rfl, ps, hp⟩
          · exact .inl z
          · exact .inr (.inl ⟨t, rfl, #[], ps, rfl, by rw [Array.empty_append]; exact hp⟩)
        · rcases all b o e with z | ⟨t, rfl, ps, hp⟩
          · exact ⟨_, z⟩
          · exact ⟨_, hp⟩
  have tabOk : ∀ {H : Hp} {b : Addr} {u : HO}, Htab K b = some u → ObjOk P w H s₁.heap b u := fun {H b u} z => by
    obtain ⟨y, hy, c, ht, rfl⟩ := Htab_some z
    exact ⟨#[], (hT y hy c b ht).2, trivial, fun pos d hd => by simp [codeAmong] at hd⟩
  cases hk : K.lookup a with
  | some o =>
    have e := KX a o hk
    rw [ha] at e
    cases e
    exact core (Htab K) (.inr ⟨_, vs.toArray, _, hk, rfl, rfl, rfl, by rw [List.size_toArray, lenV]; exact hl, by simpa using rv⟩) (fun b u z => tabOk z) (fun b u z => .inr z) hTK
  | none =>
    have nota : Htab K a = none := by
      cases q : Htab K a with
      | none => rfl
      | some u =>
        obtain ⟨y, hy, c, ht, _⟩ := Htab_some q
        have := (hT y hy c a ht).2
        rw [ha] at this
        cases this
    have hne : ∀ b u, Htab K b = some u → b ≠ a := fun b u z q => by rw [q, nota] at z; cases z
    refine core (fun b => if b = a then some (.frz { cls := .type "list", data := .seq vs.toArray } (.lst (ns.map V.int))) else Htab K b) (.inl ⟨{ cls := .type "list", data := .seq vs.toArray }, if_pos rfl⟩) (fun b u z => ?_) (fun b u z => ?_) (fun y hy c Q ht => ?_)
    · by_cases hb : b = a
      · have z' := (if_pos hb).symm.trans z
        cases z'
        subst hb
        exact ⟨ha, by rw [List.length_map]; exact hl, vs, _, rv, ha⟩
      · have z' := (if_neg hb).symm.trans z
        exact tabOk z'
    · by_cases hb : b = a
      · have z' := (if_pos hb).symm.trans z
        cases z'
        exact .inl ⟨hb, hk, _, _, rfl⟩
      · exact .inr ((if_neg hb).symm.trans z)
    · have := hTK y hy c Q ht
      exact (if_neg (hne _ _ this)).trans this
theorem walk_ofK {l : PySem.W.OpenLaw} {n k : Nat} {q : Program} {loose : List Str} {XP : (Str → Option Value) → Heap → Prop} {YP : World → Heap → Prop} {d : DefRec} {K : Params → PySem.W.Frag} {CX : CXT} {sp : PySem.W.Frag → Sp} {x : Str}
    (hn : l.most = some n) (hn2 : n ≤ sizeLine) (hdf : d.params.defaults = []) (hr : Room k callerA) (hin : importsNone q = true)
    (hY : ∀ (w : World) (h : Heap), YP w h → (K w.params).In h)
    (hrec : ∀ x ∈ lamDefs, (∀ w : World, PySem.W.tabIn (K w.params) x = none) ∨ ((recsOf q).find? fun e => e.name == x).isSome = true)
    (hNT : ∀ w : World, PySem.W.noTabs (K w.params) = true) (hTK : ∀ w : World, TabK (K w.params) (Htab (K w.params)))
    (F : ∀ (w : World) (mg : Str → Option Value) (fa : Addr) (h : Heap), (K w.params).In h → h.Ns mainGlobals mg → mg d.name = some (.ref fa) →
      ∃ fd : FuncData, (∀ (s : Shared) (u : Value), BindsTo s fd ⟨[u], []⟩ [(x, u)]) ∧
        ∀ base : Heap, (K w.params).In base → base.Ns mainGlobals mg → FnOk l.prog w (K w.params) mg base CX k fa fd [x] (sp (K w.params)))
    (hsp : ∀ (K : PySem.W.Frag) (H : Hp) (a : Addr) (ns : List Int), ns.length ≤ n → TabK K H → SqF K H a (ns.map V.int) → sp K [.ref a] H (fun v H' => v = .bl true ∧ Same H H') fun _ _ _ => False)
    (hCX : ∀ (H : Hp) (s : Shared) (e : Value) (s' : Shared), CX [] H s (fun _ _ _ => False) e s' → False) :
    PySem.W.WalkO q loose XP YP l.row.toRowW d [] (fun f vs => PySem.call f vs) := by
  refine Att.attach_call hn hdf fun w s₀ s₁ mg mb fa o pm cd doc a vs ns G Y ho hd hcd hmg hobj hints hlen hg => ?_
  have KX := hY w _ Y
  obtain ⟨fd, hb, hF⟩ := F w mg fa _ KX G.T.g hmg
  refine law_call KX G.T.g G.T.b G.T.builtins G.T.nolimit (G.T.seer hin) hg G.T.bmain (fun y hy c P ht => ?_) (hNT w) (hTK w) hobj hints (Nat.le_trans hlen hn2) hr hF hb (fun H hT hS => hsp (K w.params) H a ns hlen hT hS) fun H e s' => hCX H s₁ e s'
  rcases hrec y hy with z | z
  · rw [z w] at ht; cases ht
  · obtain ⟨dr, hdr⟩ := Option.isSome_iff_exists.mp z
    exact PySem.W.tab_of G.T KX hdr ht
theorem script_D {K : PySem.W.Frag} {H : Hp} {a : Addr} {ns : List Int} {F : List D → Option D} (hT : TabK K H) (hS : SqF K H a (ns.map V.int)) (h : F [.fro (ns.map D.int)] = some (.bl true)) : spD K F [.ref a] H (fun v H' => v = .bl true ∧ Same H H') fun _ _ _ => False :=
  ⟨[.fro (ns.map D.int)], .bl true, hT, reps_cons (rep_fro hS (reps_ints ns)) reps_nil, h, fun v H' s r => ⟨r.bl_of, s⟩⟩
theorem tab_mk {K : PySem.W.Frag} {x : Str} {f c P : Addr} {oc oc' : Value} {od od' : Option Addr} {fd : FuncData} {sl sl' : Array (Option Value)} {vs : Array Value} (a : PySem.W.nsIn K mainGlobals x = some (some (.ref f))) (l : K.lookup f = some ⟨oc, od, .func fd, sl⟩) (hc : fd.code = .ref c) (lc : K.lookup c = some ⟨oc', od', .fields vs, sl'⟩) (hv : vs[11]? = some (.ref P)) : PySem.W.tabIn K x = some (c, P) := by
  unfold PySem.W.tabIn
  rw [a]
  simp only [l, hc, lc, hv]
end L2
set_option Elab.async false
set_option linter.all false
set_option maxRecDepth 100000
namespace L2
open PySem PySem.Spec PyProof.Rows
def SubIt (t : Bool) (h : Heap) (i l : Addr) (k : Nat) (xs : Array Value) : Prop := (t = false ∧ h.IsListIter i l k ∧ h.IsList l xs) ∨ (t = true ∧ h.IsTupleIter i l k ∧ h.IsTuple l xs)
theorem SubIt.ext {t : Bool} {h h' : Heap} {i l c : Addr} {k : Nat} {xs : Array Value} (x : SubIt t h i l k xs) (hs : Heap.ExtBut c h h') (h1 : i ≠ c) (h2 : l ≠ c) : SubIt t h' i l k xs := by
  rcases x with ⟨ht, a, b⟩ | ⟨ht, a, b⟩
  · exact .inl ⟨ht, a.extBut hs h1, b.extBut hs h2⟩
  · exact .inr ⟨ht, a.extBut hs h1, b.extBut hs h2⟩
theorem SubIt.objs {t : Bool} {h : Heap} {i l : Addr} {k : Nat} {xs : Array Value} (x : SubIt t h i l k xs) : (∃ o, h.get? i = some o ∧ ∀ v, o.data ≠ .cell v) ∧ ∃ o, h.get? l = some o := by
  rcases x with ⟨_, ⟨o, e, _, d⟩, ⟨o', e', _⟩⟩ | ⟨_, ⟨o, e, _, d⟩, ⟨o', e', _⟩⟩
  · exact ⟨⟨o, e, fun v z => by rw [d] at z; cases z⟩, ⟨o', e'⟩⟩
  · exact ⟨⟨o, e, fun v z => by rw [d] at z; cases z⟩, ⟨o', e'⟩⟩
theorem SubIt.keep {t : Bool} {h h' : Heap} {i l : Addr} {k : Nat} {xs : Array Value} (x : SubIt t h i l k xs) (k1 : ∀ o, h.get? i = some o → h'.get? i = some o) (k2 : ∀ o, h.get? l = some o → h'.get? l = some o) : SubIt t h' i l k xs := by
  rcases x with ⟨ht, a, b⟩ | ⟨ht, a, b⟩
  · exact .inl ⟨ht, a.at k1, b.at k2⟩
  · exact .inr ⟨ht, a.at k1, b.at k2⟩
section
variable {prog : Program} {w : World} {A : Around} {E : Value → Shared → Prop} {s : Shared}
theorem sub_next {t : Bool} {i l : Addr} {k : Nat} {xs : Array Value} {x : Value} {Q : Value → Shared → Prop} (hs : SubIt t s.heap i l k xs) (hx : xs[k]? = some x) (hil : l ≠ i)
    (hQ : ∀ h', SubIt t h' i l (k + 1) xs → Heap.SameBut i s.heap h' → Q x { s with heap := h' }) : wpAny (model prog w) A (Builtin.SmallTypes.nextOf (.ref i)) Q E s := by
  rcases hs with ⟨ht, a, b⟩ | ⟨ht, a, b⟩
  · exact wpAny_nextOf_list_item a b hx fun h' a' sb => hQ h' (.inl ⟨ht, a', b.extBut sb.extBut hil⟩) sb
  · obtain ⟨o, ho, hc, hd⟩ := id a
    obtain ⟨ol, hol, hcl, nl, hdl⟩ := id b
    unfold Builtin.SmallTypes.nextOf
    refine wpAny_bind (wpAny_callSpecial?_slot (name := Str.ofString "__next__") a.typeIs F.slot_tuple_iterator_next (wpAny_call_entry F.slot_tuple_iterator_next a.typeIs F.entry_tuple_iterator_next ?_ (F.args_tuple_iterator_next_1 _)))
    show wpAny _ _ (field (.ref i) 0 >>= _) _ _ s
    refine wpAny_bind (wpAny_field ho hd (x := .ref l) rfl ?_); show wpAny _ _ (if (Value.ref l == Value.none) = true then _ else _) _ _ s
    rw [if_neg (show ¬ ((Value.ref l == Value.none) = true) from fun z => Bool.false_ne_true z)]; show wpAny _ _ (field (.ref i) 1 >>= _) _ _ s
    refine wpAny_bind (wpAny_field ho hd (x := .int k 0) rfl ?_); show wpAny _ _ (seqItems? (.ref l) >>= _) _ _ s
    refine wpAny_bind (wpAny_seqItems hol hdl ?_); simp only [Int.toNat_natCast, hx]
    refine wpAny_bind (wpAny_setField ho hd (by simp) (wpAny_pure ⟨x, rfl, wpAny_pure (hQ _ (.inr ⟨ht, ?_, b.extBut (Heap.SameBut.update ..).extBut hil⟩) (Heap.SameBut.update ..))⟩))
    exact ⟨_, Heap.get?_update_self _ ho (Obj.isFreed_of_fields (Obj.data_mapFields hd _)), (Obj.cls_mapFields ..).trans hc, by rw [Obj.data_mapFields hd]; simp [rawInt]⟩
theorem sub_end {t : Bool} {i l : Addr} {k : Nat} {xs : Array Value} {Q : Value → Shared → Prop} (hh : A.handled = none) (hs : SubIt t s.heap i l k xs) (hx : xs[k]? = none)
    (hE : ∀ h' e, Heap.ExtBut i s.heap h' → (∃ o, h'.get? e = some o ∧ o.cls = .type "StopIteration") → E (.ref e) { s with heap := h' }) : wpAny (model prog w) A (Builtin.SmallTypes.nextOf (.ref i)) Q E s := by
  rcases hs with ⟨ht, a, b⟩ | ⟨ht, a, b⟩
  · exact wpAny_nextOf_list_end hh a b hx hE
  · obtain ⟨o, ho, hc, hd⟩ := id a
    obtain ⟨ol, hol, hcl, nl, hdl⟩ := id b
    unfold Builtin.SmallTypes.nextOf
    refine wpAny_bind (wpAny_callSpecial?_slot (name := Str.ofString "__next__") a.typeIs F.slot_tuple_iterator_next (wpAny_call_entry F.slot_tuple_iterator_next a.typeIs F.entry_tuple_iterator_next ?_ (F.args_tuple_iterator_next_1 _)))
    show wpAny _ _ (field (.ref i) 0 >>= _) _ _ s
    refine wpAny_bind (wpAny_field ho hd (x := .ref l) rfl ?_); show wpAny _ _ (if (Value.ref l == Value.none) = true then _ else _) _ _ s
    rw [if_neg (show ¬ ((Value.ref l == Value.none) = true) from fun z => Bool.false_ne_true z)]; show wpAny _ _ (field (.ref i) 1 >>= _) _ _ s
    refine wpAny_bind (wpAny_field ho hd (x := .int k 0) rfl ?_); show wpAny _ _ (seqItems? (.ref l) >>= _) _ _ s
    refine wpAny_bind (wpAny_seqItems hol hdl ?_); simp only [Int.toNat_natCast, hx]
    refine wpAny_bind (wpAny_rule (wpAny_bind (wpAny_setField ho hd (by simp) ?_))); show wpAny _ _ (newExc (.type "StopIteration") [] >>= _) _ _ _
    refine wpAny_bind ?_; simp only [newExc, newTuple]
    refine wpAny_bind (wpAny_newObj_type ?_ (by size_fits)); refine wpAny_bind (m := firstArgMember _ _) (wpAny_of_eq (a := Value.none) (by first | rfl | (simp only [firstArgMember]; rfl)) ?_)
    refine wpAny_newObj_type ?_ (by size_fits); simp only [raiseNew]
    refine wpAny_bind (wpAny_handled ?_); first | rw [show A.in1.handled = none from hh] | rw [hh]
    refine wpAny_bind (wpAny_pure (wpAny_throw ?_)); exact hE _ _ (((Heap.SameBut.update ..).extBut.push _).push _) ⟨_, Heap.get?_push_size _ rfl, rfl⟩
theorem zip_item {b1 b2 : Bool} {z TI TO i1 i2 l1 l2 : Addr} {k1 k2 : Nat} {xs ys : Array Value} {x y a b : Value} {Q : Value → Shared → Prop} (D : ZipApart z TI TO i1 i2 l1 l2)
    (hz : IsZip s.heap z TI TO .none) (hTI : IsPair s.heap TI (.ref i1) (.ref i2)) (hTO : IsPair s.heap TO a b)
    (h1 : SubIt b1 s.heap i1 l1 k1 xs) (h2 : SubIt b2 s.heap i2 l2 k2 ys) (hx : xs[k1]? = some x) (hy : ys[k2]? = some y)
    (hQ : ∀ h', IsZip h' z TI TO (rawInt s.heap.objs.size) → IsPair h' TO x y → SubIt b1 h' i1 l1 (k1 + 1) xs → SubIt b2 h' i2 l2 (k2 + 1) ys → IsPair h' s.heap.objs.size x y → h'.objs.size = s.heap.objs.size + 1 →
      (∀ c o, c ≠ z → c ≠ TO → c ≠ i1 → c ≠ i2 → s.heap.get? c = some o → h'.get? c = some o) → Q (.ref s.heap.objs.size) { s with heap := h' }) :
    wpAny (model prog w) A (Builtin.«zip.__next__» ⟨[.ref z], []⟩) (fun fin s' => ∃ v, fin = .done (.ret v) ∧ Q v s') E s := by
  show wpAny _ _ (field (.ref z) 2 >>= _) _ _ _
  refine wpAny_bind (wpAny_field hz rfl (x := .bool false) rfl ?_); show wpAny _ _ (field (.ref z) 3 >>= _) _ _ _
  refine wpAny_bind (wpAny_field hz rfl (x := .ref TI) rfl ?_); refine wpAny_bind (wpAny_seqItems hTI rfl ?_)
  show wpAny _ _ (Builtin.SmallTypes.ownedTupleIsFree (.ref z) >>= _) _ _ _; refine wpAny_bind ?_
  unfold Builtin.SmallTypes.ownedTupleIsFree; refine wpAny_bind (wpAny_field hz rfl (x := .none) rfl (wpAny_pure ?_)); simp only [if_true]
  refine wpAny_bind (wpAny_rule ?_); refine wpAny_bind (wpAny_field hz rfl (x := .ref TO) rfl ?_)
  refine wpAny_bind (wpAny_setField_rec hz (by simp) fun g1 z1 s1 => ?_)
  replace z1 : IsZip g1 z TI TO .ellipsis := z1
  refine wpAny_bind ?_; simp only [List.zipIdx_cons, List.zipIdx_nil, List.forIn_cons, List.forIn_nil]
  refine wpAny_bind (wpAny_bind (wpAny_onRaise ?_)); show wpAny _ _ (Builtin.SmallTypes.nextOf (.ref i1) >>= _) _ _ _
  refine wpAny_bind (sub_next (h1.ext s1.extBut D.i1z D.l1z) hx D.l1i1 fun g2 p2 s2 => wpAny_pure ?_)
  have t2 : IsPair g2 TO a b := s2.extBut _ _ D.TOi1 (s1.extBut _ _ D.TOz hTO)
  refine wpAny_bind (wpAny_seqItems t2 rfl ?_); refine wpAny_bind (wpAny_updateSeq_pair t2 fun g3 t3 s3 => ?_)
  replace t3 : IsPair g3 TO x b := t3
  refine wpAny_bind (wpAny_letGo (wpAny_pure ?_)); refine wpAny_bind (wpAny_bind (wpAny_onRaise ?_))
  show wpAny _ _ (Builtin.SmallTypes.nextOf (.ref i2) >>= _) _ _ _
  refine wpAny_bind (sub_next (((h2.ext s1.extBut D.i2z D.l2z).ext s2.extBut D.i12.symm D.l2i1).ext s3.extBut D.TOi2.symm D.l2TO) hy D.l2i2 fun g4 p4 s4 => wpAny_pure ?_)
  have t4 : IsPair g4 TO x b := s4.extBut _ _ D.TOi2 t3
  refine wpAny_bind (wpAny_seqItems t4 rfl ?_); refine wpAny_bind (wpAny_updateSeq_pair t4 fun g5 t5 s5 => ?_)
  replace t5 : IsPair g5 TO x y := t5
  refine wpAny_bind (wpAny_letGo (wpAny_pure (wpAny_pure ?_))); refine wpAny_bind (wpAny_seqItems t5 rfl ?_); refine wpAny_bind (wpAny_newTuple ?_)
  have hsz : g5.objs.size = s.heap.objs.size := by rw [s5.1, s4.1, s3.1, s2.1, s1.1]
  have z5 : IsZip g5 z TI TO .ellipsis := s5.extBut _ _ D.TOz.symm (s4.extBut _ _ D.i2z.symm (s3.extBut _ _ D.TOz.symm (s2.extBut _ _ D.i1z.symm z1)))
  have k5 : ∀ c o, c ≠ z → c ≠ TO → c ≠ i1 → c ≠ i2 → s.heap.get? c = some o → g5.get? c = some o := fun c o c1 c2 c3 c4 e => s5.extBut _ _ c2 (s4.extBut _ _ c4 (s3.extBut _ _ c2 (s2.extBut _ _ c3 (s1.extBut _ _ c1 e))))
  have p1 : SubIt b1 g5 i1 l1 (k1 + 1) xs := ((p2.ext s3.extBut D.TOi1.symm D.l1TO).ext s4.extBut D.i12 D.l1i2).ext s5.extBut D.TOi1.symm D.l1TO
  have p2' : SubIt b2 g5 i2 l2 (k2 + 1) ys := p4.ext s5.extBut D.TOi2.symm D.l2TO
  show wpAny _ _ (Builtin.SmallTypes.ownedTupleHandOut (.ref z) (.ref g5.objs.size) >>= _) _ _ _
  refine wpAny_bind ?_; unfold Builtin.SmallTypes.ownedTupleHandOut
  have z6 : IsZip (g5.push { cls := .type "tuple", data := .seq #[x, y] }) z TI TO .ellipsis := Heap.get?_push_of_some _ z5
  refine wpAny_bind (wpAny_setField_rec z6 (by simp) fun g7 z7 s7 => ?_)
  replace z7 : IsZip g7 z TI TO (rawInt g5.objs.size) := z7
  refine wpAny_setField_rec z7 (by simp) fun g8 z8 s8 => ?_
  replace z8 : IsZip g8 z TI TO (rawInt g5.objs.size) := z8
  have up : ∀ c o, c ≠ z → g5.get? c = some o → g8.get? c = some o := fun c o c1 e => s8.extBut _ _ c1 (s7.extBut _ _ c1 (Heap.get?_push_of_some _ e))
  have zlt : z < g5.objs.size := Heap.lt_size z5
  have t8 : IsPair g8 g5.objs.size x y := s8.extBut _ _ (Nat.ne_of_gt zlt) (s7.extBut _ _ (Nat.ne_of_gt zlt) (Heap.get?_push_size _ rfl))
  have n8 : g8.objs.size = g5.objs.size + 1 := by rw [s8.1, s7.1, Heap.size_push]
  rw [hsz] at z8 t8 n8
  refine wpAny_pure ⟨_, rfl, ?_⟩; show Q (.ref g5.objs.size) _
  rw [hsz]
  exact hQ g8 z8 (up _ _ D.TOz t5) (p1.keep (fun o e => up _ o D.i1z e) fun o e => up _ o D.l1z e) (p2'.keep (fun o e => up _ o D.i2z e) fun o e => up _ o D.l2z e) t8 n8 fun c o c1 c2 c3 c4 e => up c o c1 (k5 c o c1 c2 c3 c4 e)
theorem zip_stop {b1 b2 : Bool} {z TI TO i1 i2 l1 l2 : Addr} {k1 k2 : Nat} {xs ys : Array Value} {a b : Value} {Q : Fin → Shared → Prop} (hh : A.handled = none) (D : ZipApart z TI TO i1 i2 l1 l2)
    (hz : IsZip s.heap z TI TO .none) (hTI : IsPair s.heap TI (.ref i1) (.ref i2)) (hTO : IsPair s.heap TO a b)
    (h1 : SubIt b1 s.heap i1 l1 k1 xs) (h2 : SubIt b2 s.heap i2 l2 k2 ys) (hend : xs[k1]? = none ∨ ys[k2]? = none)
    (hE : ∀ h' e, (∀ c o, c ≠ z → c ≠ TO → c ≠ i1 → c ≠ i2 → s.heap.get? c = some o → h'.get? c = some o) → (∃ o, h'.get? e = some o ∧ o.cls = .type "StopIteration") → E (.ref e) { s with heap := h' }) :
    wpAny (model prog w) A (Builtin.«zip.__next__» ⟨[.ref z], []⟩) Q E s := by
  show wpAny _ _ (field (.ref z) 2 >>= _) _ _ _
  refine wpAny_bind (wpAny_field hz rfl (x := .bool false) rfl ?_); show wpAny _ _ (field (.ref z) 3 >>= _) _ _ _
  refine wpAny_bind (wpAny_field hz rfl (x := .ref TI) rfl ?_); refine wpAny_bind (wpAny_seqItems hTI rfl ?_)
  show wpAny _ _ (Builtin.SmallTypes.ownedTupleIsFree (.ref z) >>= _) _ _ _; refine wpAny_bind ?_
  unfold Builtin.SmallTypes.ownedTupleIsFree; refine wpAny_bind (wpAny_field hz rfl (x := .none) rfl (wpAny_pure ?_)); simp only [if_true]
  refine wpAny_bind (wpAny_rule ?_); refine wpAny_bind (wpAny_field hz rfl (x := .ref TO) rfl ?_)
  refine wpAny_bind (wpAny_setField_rec hz (by simp) fun g1 z1 s1 => ?_)
  replace z1 : IsZip g1 z TI TO .ellipsis := z1
  refine wpAny_bind ?_; simp only [List.zipIdx_cons, List.zipIdx_nil, List.forIn_cons, List.forIn_nil]
  refine wpAny_bind (wpAny_bind (wpAny_onRaise ?_)); show wpAny _ _ (Builtin.SmallTypes.nextOf (.ref i1) >>= _) _ _ _
  cases hx : xs[k1]? with
  | none =>
    refine wpAny_bind (sub_end hh (h1.ext s1.extBut D.i1z D.l1z) hx fun g2 e s2 he => ?_)
    obtain ⟨oe, hoe, hce⟩ := he
    have z2 : IsZip g2 z TI TO .ellipsis := s2 _ _ D.i1z.symm z1
    have hez : e ≠ z := fun q => by subst q; rw [z2] at hoe; cases hoe; simp at hce
    refine wpAny_setField_rec z2 (by simp) fun g3 _ s3 => hE g3 e (fun c o c1 _ c3 _ q => s3.extBut _ _ c1 (s2 _ _ c3 (s1.extBut _ _ c1 q))) ⟨oe, s3.extBut _ _ hez hoe, hce⟩
  | some x =>
    have hy : ys[k2]? = none := by rcases hend with q | q; rw [hx] at q; cases q; exact q
    refine wpAny_bind (sub_next (h1.ext s1.extBut D.i1z D.l1z) hx D.l1i1 fun g2 p2 s2 => wpAny_pure ?_)
    have t2 : IsPair g2 TO a b := s2.extBut _ _ D.TOi1 (s1.extBut _ _ D.TOz hTO)
    refine wpAny_bind (wpAny_seqItems t2 rfl ?_); refine wpAny_bind (wpAny_updateSeq_pair t2 fun g3 t3 s3 => ?_)
    refine wpAny_bind (wpAny_letGo (wpAny_pure ?_)); refine wpAny_bind (wpAny_bind (wpAny_onRaise ?_))
    show wpAny _ _ (Builtin.SmallTypes.nextOf (.ref i2) >>= _) _ _ _
    refine wpAny_bind (sub_end hh (((h2.ext s1.extBut D.i2z D.l2z).ext s2.extBut D.i12.symm D.l2i1).ext s3.extBut D.TOi2.symm D.l2TO) hy fun g4 e s4 he => ?_)
    obtain ⟨oe, hoe, hce⟩ := he
    have z4 : IsZip g4 z TI TO .ellipsis := s4 _ _ D.i2z.symm (s3.extBut _ _ D.TOz.symm (s2.extBut _ _ D.i1z.symm z1))
    have hez : e ≠ z := fun q => by subst q; rw [z4] at hoe; cases hoe; simp at hce
    refine wpAny_setField_rec z4 (by simp) fun g5 _ s5 => hE g5 e (fun c o c1 c2 c3 c4 q => s5.extBut _ _ c1 (s4 _ _ c4 (s3.extBut _ _ c2 (s2.extBut _ _ c3 (s1.extBut _ _ c1 q))))) ⟨oe, s5.extBut _ _ hez hoe, hce⟩
theorem next_zip_item {b1 b2 : Bool} {z TI TO i1 i2 l1 l2 : Addr} {k1 k2 : Nat} {xs ys : Array Value} {x y a b : Value} {Q : Option Value → Shared → Prop} (D : ZipApart z TI TO i1 i2 l1 l2)
    (hz : IsZip s.heap z TI TO .none) (hTI : IsPair s.heap TI (.ref i1) (.ref i2)) (hTO : IsPair s.heap TO a b) (h1 : SubIt b1 s.heap i1 l1 k1 xs) (h2 : SubIt b2 s.heap i2 l2 k2 ys) (hx : xs[k1]? = some x) (hy : ys[k2]? = some y)
    (hQ : ∀ h', IsZip h' z TI TO (rawInt s.heap.objs.size) → IsPair h' TO x y → SubIt b1 h' i1 l1 (k1 + 1) xs → SubIt b2 h' i2 l2 (k2 + 1) ys → IsPair h' s.heap.objs.size x y → h'.objs.size = s.heap.objs.size + 1 →
      (∀ c o, c ≠ z → c ≠ TO → c ≠ i1 → c ≠ i2 → s.heap.get? c = some o → h'.get? c = some o) → Q (some (.ref s.heap.objs.size)) { s with heap := h' }) : wpAny (model prog w) A (pyNext (.ref z)) Q E s := by
  have hT : s.TypeIs (.ref z) "zip" := ⟨_, hz, rfl⟩
  unfold pyNext
  exact wpAny_bind (wpAny_attempt (wpAny_callSpecial?_slot (name := Str.ofString "__next__") hT F.slot_zip_next (wpAny_call_entry F.slot_zip_next hT F.entry_zip_next (zip_item D hz hTI hTO h1 h2 hx hy fun h' a1 a2 a3 a4 a5 a6 a7 => wpAny_pure (hQ h' a1 a2 a3 a4 a5 a6 a7)) (F.args_zip_next_1 _))))
theorem next_zip_end {b1 b2 : Bool} {z TI TO i1 i2 l1 l2 : Addr} {k1 k2 : Nat} {xs ys : Array Value} {a b : Value} {Q : Option Value → Shared → Prop} (hh : A.handled = none) (D : ZipApart z TI TO i1 i2 l1 l2)
    (hz : IsZip s.heap z TI TO .none) (hTI : IsPair s.heap TI (.ref i1) (.ref i2)) (hTO : IsPair s.heap TO a b) (h1 : SubIt b1 s.heap i1 l1 k1 xs) (h2 : SubIt b2 s.heap i2 l2 k2 ys) (hend : xs[k1]? = none ∨ ys[k2]? = none)
    (hQ : ∀ h', (∀ c o, c ≠ z → c ≠ TO → c ≠ i1 → c ≠ i2 → s.heap.get? c = some o → h'.get? c = some o) → Q none { s with heap := h' }) : wpAny (model prog w) A (pyNext (.ref z)) Q E s := by
  have hT : s.TypeIs (.ref z) "zip" := ⟨_, hz, rfl⟩
  unfold pyNext
  refine wpAny_bind (wpAny_attempt (wpAny_callSpecial?_slot (name := Str.ofString "__next__") hT F.slot_zip_next (wpAny_call_entry F.slot_zip_next hT F.entry_zip_next (zip_stop hh D hz hTI hTO h1 h2 hend fun h' e hk he => ?_) (F.args_zip_next_1 _))))
  obtain ⟨o, ho, hc⟩ := he
  exact wpAny_bind (wpAny_isInstance (T := "StopIteration") (b := true) ⟨o, ho, hc⟩ isSubtype_stop (wpAny_pure (hQ _ hk)))
abbrev itObj (c : String) (l : Addr) : Obj := { cls := .type c, data := .fields #[.ref l, .int 0 0] }
abbrev zH1 (h : Heap) (c1 : String) (l1 : Addr) : Heap := h.push (itObj c1 l1)
abbrev zH2 (h : Heap) (c1 c2 : String) (l1 l2 : Addr) : Heap := (zH1 h c1 l1).push (itObj c2 l2)
abbrev zH3 (h : Heap) (c1 c2 : String) (l1 l2 : Addr) : Heap := (zH2 h c1 c2 l1 l2).push { cls := .type "tuple", data := .seq #[.ref h.objs.size, .ref (zH1 h c1 l1).objs.size] }
abbrev zH4 (h : Heap) (c1 c2 : String) (l1 l2 : Addr) : Heap := (zH3 h c1 c2 l1 l2).push { cls := .type "tuple", data := .seq #[.none, .none] }
abbrev zH5 (h : Heap) (c1 c2 : String) (l1 l2 : Addr) : Heap := (zH4 h c1 c2 l1 l2).push { cls := .type "zip", data := .fields #[.none, .bool false, .bool false, .ref (zH2 h c1 c2 l1 l2).objs.size, .ref (zH3 h c1 c2 l1 l2).objs.size] }
def SeqC (h : Heap) (c : String) (l : Addr) (xs : Array Value) : Prop := (c = "list_iterator" ∧ h.IsList l xs) ∨ (c = "tuple_iterator" ∧ h.IsTuple l xs)
theorem SeqC.push {h : Heap} {c : String} {l : Addr} {xs : Array Value} (x : SeqC h c l xs) (o : Obj) : SeqC (h.push o) c l xs := by
  rcases x with ⟨e, a⟩ | ⟨e, ⟨ob, h1, h2⟩⟩
  · exact .inl ⟨e, a.push o⟩
  · exact .inr ⟨e, ⟨ob, Heap.get?_push_of_some _ h1, h2⟩⟩
theorem iter_seqC {c : String} {l : Addr} {xs : Array Value} {Q : Value → Shared → Prop} (hl : SeqC s.heap c l xs) (hQ : Q (.ref s.heap.objs.size) { s with heap := s.heap.push (itObj c l) }) : wpAny (model prog w) A (pyIter (.ref l)) Q E s := by
  rcases hl with ⟨rfl, a⟩ | ⟨rfl, a⟩
  · exact wpAny_pyIter_list a hQ
  · exact wpAny_pyIter_tuple a hQ
theorem meets_zip (c1 c2 : String) (l1 l2 : Addr) (xs ys : Array Value) :
    Meets (Builtin.«zip.__new__» ⟨[.type "zip", .ref l1, .ref l2], []⟩) (fun _ R s => SeqC s.heap c1 l1 xs ∧ SeqC s.heap c2 l2 ys ∧
      R (.ok (.ret (.ref (zH4 s.heap c1 c2 l1 l2).objs.size))) { s with heap := zH5 s.heap c1 c2 l1 l2 }) :=
  .of_wp fun prog w A R s h => by
    obtain ⟨hp, g, d, tk, os⟩ := s; obtain ⟨hl1, hl2, h⟩ := h
    have hsub := sub_zip
    have L1 : SeqC (Shared.heap ⟨hp, g, d, tk, os⟩) c1 l1 xs := hl1
    have L2 : SeqC (Shared.heap ⟨hp.push (itObj c1 l1), g, d, tk, os⟩) c2 l2 ys := SeqC.push hl2 _
    wp_walk using iter_seqC L1, iter_seqC L2
    exact ⟨_, rfl, h⟩
end
end L2
set_option Elab.async false
set_option linter.all false
set_option maxRecDepth 100000
namespace L2
open PySem PySem.Spec PyProof.Rows
section
variable {prog : Program} {w : World} {A : Around} {E : Value → Shared → Prop} {s : Shared}
theorem call_zipC {c1 c2 : String} {l1 l2 : Addr} {xs ys : Array Value} {Q : Value → Shared → Prop} (hl1 : SeqC s.heap c1 l1 xs) (hl2 : SeqC s.heap c2 l2 ys)
    (h : ∀ h', IsZip h' (s.heap.objs.size + 4) (s.heap.objs.size + 2) (s.heap.objs.size + 3) .none → IsPair h' (s.heap.objs.size + 2) (.ref s.heap.objs.size) (.ref (s.heap.objs.size + 1)) →
      IsPair h' (s.heap.objs.size + 3) .none .none → h'.get? s.heap.objs.size = some (itObj c1 l1) → h'.get? (s.heap.objs.size + 1) = some (itObj c2 l2) → h'.objs.size = s.heap.objs.size + 5 →
      (∀ c o, s.heap.get? c = some o → h'.get? c = some o) → Q (.ref (s.heap.objs.size + 4)) { s with heap := h' }) :
    wpAny (model prog w) A (call (.type "zip") [.ref l1, .ref l2]) Q E s := by
  refine callType_new F.called_zip (by decide) (F.typeCall_zip_2 _ _) (F.newCall_zip_2 _ _) (fun obj => F.args_object_init_3 obj _ _) F.entry_zip_new (meets_zip c1 c2 l1 l2 xs ys) ⟨hl1, hl2, ?_⟩
  have z1 : (zH1 s.heap c1 l1).objs.size = s.heap.objs.size + 1 := Heap.size_push ..
  have z2 : (zH2 s.heap c1 c2 l1 l2).objs.size = s.heap.objs.size + 2 := by rw [Heap.size_push, z1]
  have z3 : (zH3 s.heap c1 c2 l1 l2).objs.size = s.heap.objs.size + 3 := by rw [Heap.size_push, z2]
  have z4 : (zH4 s.heap c1 c2 l1 l2).objs.size = s.heap.objs.size + 4 := by rw [Heap.size_push, z3]
  have z5 : (zH5 s.heap c1 c2 l1 l2).objs.size = s.heap.objs.size + 5 := by rw [Heap.size_push, z4]
  have g5 : (zH5 s.heap c1 c2 l1 l2).get? (zH4 s.heap c1 c2 l1 l2).objs.size = some _ := Heap.get?_push_size _ rfl
  have g4 : (zH5 s.heap c1 c2 l1 l2).get? (zH3 s.heap c1 c2 l1 l2).objs.size = some _ := Heap.get?_push_of_some _ (Heap.get?_push_size _ rfl)
  have g3 : (zH5 s.heap c1 c2 l1 l2).get? (zH2 s.heap c1 c2 l1 l2).objs.size = some _ := Heap.get?_push_of_some _ (Heap.get?_push_of_some _ (Heap.get?_push_size _ rfl))
  have g2 : (zH5 s.heap c1 c2 l1 l2).get? (zH1 s.heap c1 l1).objs.size = some _ := Heap.get?_push_of_some _ (Heap.get?_push_of_some _ (Heap.get?_push_of_some _ (Heap.get?_push_size _ rfl)))
  have g1 : (zH5 s.heap c1 c2 l1 l2).get? s.heap.objs.size = some _ := Heap.get?_push_of_some _ (Heap.get?_push_of_some _ (Heap.get?_push_of_some _ (Heap.get?_push_of_some _ (Heap.get?_push_size _ rfl))))
  show _ ∧ _
  rw [z2, z3, z4] at g5
  rw [z1, z2] at g3
  rw [z3] at g4
  rw [z1] at g2
  rw [z4]
  exact ⟨⟨_, g5, rfl⟩, h _ g5 g3 g4 g1 g2 z5 fun c o q => Heap.get?_push_of_some _ (Heap.get?_push_of_some _ (Heap.get?_push_of_some _ (Heap.get?_push_of_some _ (Heap.get?_push_of_some _ q))))⟩
end
section
variable {X : Cx} {pins : List (Addr × Obj)} {σ : St} {H : Hp} {s : Shared} {h' : Heap}
theorem Inv.turnedNew {chs : List Addr} {o : HO} {t' : Nat} (I : Inv X pins σ H s) (hch : ∀ b ∈ chs, FpOk X pins H b) (k : ∀ b u, b ∉ chs → s.heap.get? b = some u → h'.get? b = some u)
    (new : ObjOk X.prog X.w (upd H s.heap.objs.size o) h' s.heap.objs.size o) : Inv X pins σ (upd H s.heap.objs.size o) { s with heap := h', toks := t' } := by
  have hn := I.hok.fresh (Nat.le_refl s.heap.objs.size)
  have nch : ∀ b u, H b = some u → b ∉ chs := fun b u e z => by rw [(hch b z).1] at e; cases e
  have lt : ∀ b u, s.heap.get? b = some u → b ≠ s.heap.objs.size := fun b u e => Nat.ne_of_lt (Heap.lt_size e)
  refine I.step (g' := s.gens) (d' := s.drawn) (ch := chs) (fun b hb => ⟨(hch b hb).2.2.2.1, (hch b hb).2.1, (hch b hb).2.2.2.2.1, (hch b hb).2.2.2.2.2⟩) (fun b u _ _ hc e _ => k b u hc e) (fun b u _ _ hc e _ => ⟨u.slots, k b u hc e⟩)
    (fun b u _ e n => by rw [upd_ne (lt b u e)]; exact n) (fun b u hc e => ⟨u, k b u hc e⟩) (fun b xs e => by rw [upd_ne (ne_of_none e hn)]; exact e) (fun b u xs e => by rw [upd_ne (ne_of_none e hn)]; exact e)
    (fun b ps e => ⟨#[], by rw [upd_ne (ne_of_none e hn), e]; simp⟩) (fun m hm => ?_) (fun b u e => ?_) I.bare
  · obtain ⟨ob, es, ep, ho, r⟩ := hm
    exact ⟨ob, es, ep, k _ ob (fun z => (hch _ z).2.1 rfl) ho, r⟩
  · by_cases hb : b = s.heap.objs.size
    · subst hb
      rw [upd_same] at e; cases e
      exact new
    · rw [upd_ne hb] at e
      refine (I.hok b u e).stay (fun c v hc q => k c v ?_ q) (fun c q => by rw [upd_ne (ne_of_none q hn)]; exact q) (fun c xs q => by rw [upd_ne (ne_of_none q hn)]; exact q) fun c ob uu q => by rw [upd_ne (ne_of_none q hn)]; exact q
      rcases hc with z | z
      · rw [z]; exact nch b u e
      · exact nch c _ z
theorem Inv.turnedL {chs : List Addr} {t' : Nat} (I : Inv X pins σ H s) (hch : ∀ b ∈ chs, FpOk X pins H b) (k : ∀ b u, b ∉ chs → s.heap.get? b = some u → h'.get? b = some u) : Inv X pins σ H { s with heap := h', toks := t' } := by
  have nch : ∀ b u, H b = some u → b ∉ chs := fun b u e z => by rw [(hch b z).1] at e; cases e
  refine I.step (g' := s.gens) (d' := s.drawn) (ch := chs) (fun b hb => ⟨(hch b hb).2.2.2.1, (hch b hb).2.1, (hch b hb).2.2.2.2.1, (hch b hb).2.2.2.2.2⟩) (fun b u _ _ hc e _ => k b u hc e) (fun b u _ _ hc e _ => ⟨u.slots, k b u hc e⟩)
    (fun b u _ e n => n) (fun b u hc e => ⟨u, k b u hc e⟩) (fun b xs e => e) (fun b u xs e => e) (fun b ps e => ⟨#[], by rw [e]; simp⟩) (fun m hm => ?_) (fun b u e => ?_) I.bare
  · obtain ⟨ob, es, ep, ho, r⟩ := hm
    exact ⟨ob, es, ep, k _ ob (fun z => (hch _ z).2.1 rfl) ho, r⟩
  · refine (I.hok b u e).stay (fun c v hc q => k c v ?_ q) (fun c q => q) (fun c xs q => q) fun _ _ _ q => q
    rcases hc with z | z
    · rw [z]; exact nch b u e
    · exact nch c _ z
end
inductive Src where
  | L (a : Addr) | T (a : Addr)
def Src.at : Src → Addr
  | .L a => a
  | .T a => a
def Src.b : Src → Bool
  | .L _ => false
  | .T _ => true
def Src.cls : Src → String
  | .L _ => "list_iterator"
  | .T _ => "tuple_iterator"
def SqS (K : PySem.W.Frag) (H : Hp) : Src → List V → Prop
  | .L a, xs => SqL K H a xs
  | .T a, xs => SqT K H a xs
def itAt (h : Heap) (u : Src) (i : Addr) (k : Nat) : Prop := match u with
  | .L a => h.IsListIter i a k
  | .T a => h.IsTupleIter i a k
theorem itAt_obj {h : Heap} {u : Src} {i : Addr} {k : Nat} (x : itAt h u i k) : ∃ o, h.get? i = some o ∧ ∀ v, o.data ≠ .cell v := by
  cases u with
  | L a => obtain ⟨o, e, c, d⟩ := x; exact ⟨o, e, fun v z => by rw [d] at z; cases z⟩
  | T a => obtain ⟨o, e, c, d⟩ := x; exact ⟨o, e, fun v z => by rw [d] at z; cases z⟩
theorem itAt_keep {h h' : Heap} {u : Src} {i : Addr} {k : Nat} (x : itAt h u i k) (kp : ∀ o, h.get? i = some o → h'.get? i = some o) : itAt h' u i k := by
  cases u with
  | L a => exact Heap.IsListIter.at x kp
  | T a => exact Heap.IsTupleIter.at x kp
theorem itAt_new {h : Heap} {u : Src} {i : Addr} (e : h.get? i = some (itObj u.cls u.at)) : itAt h u i 0 := by
  cases u with
  | L a => exact ⟨_, e, rfl, rfl⟩
  | T a => exact ⟨_, e, rfl, rfl⟩
section
variable {X : Cx} {pins : List (Addr × Obj)} {σ : St} {H : Hp} {s : Shared}
theorem Inv.src {u : Src} {xs : List V} (I : Inv X pins σ H s) (h : SqS X.K H u xs) : ∃ its : List Value, Vals xs its ∧ SeqC s.heap u.cls u.at its.toArray ∧ xs.length ≤ sizeLine ∧ u.at < s.heap.objs.size ∧ ∀ (i : Addr) (k : Nat), itAt s.heap u i k → SubIt u.b s.heap i u.at k its.toArray := by
  cases u with
  | L a =>
    obtain ⟨its, r, p, hz⟩ := I.list h
    obtain ⟨o, ho, _⟩ := p.isList
    exact ⟨its, r, .inl ⟨rfl, p.isList⟩, hz, Heap.lt_size ho, fun i k it => .inl ⟨rfl, it, p.isList⟩⟩
  | T a =>
    obtain ⟨its, r, p, hz⟩ := I.tuple h
    obtain ⟨o, ho, _⟩ := id p
    exact ⟨its, r, .inr ⟨rfl, p⟩, hz, Heap.lt_size ho, fun i k it => .inr ⟨rfl, it, p⟩⟩
theorem Inv.src_inj {u : Src} {xs ys : List V} (I : Inv X pins σ H s) (h : SqS X.K H u xs) (h' : SqS X.K H u ys) : xs = ys := by
  cases u with
  | L a => exact I.list_inj h h'
  | T a => exact I.tuple_inj h h'
theorem SubIt.itAt {h : Heap} {u : Src} {i : Addr} {k : Nat} {xs : Array Value} (x : SubIt u.b h i u.at k xs) : itAt h u i k := by
  cases u with
  | L a =>
    rcases x with ⟨_, a', _⟩ | ⟨z, _⟩
    · exact a'
    · cases z
  | T a =>
    rcases x with ⟨z, _⟩ | ⟨_, a', _⟩
    · cases z
    · exact a'
end
def Itz (K : PySem.W.Frag) (u v : Src) : It :=
  ⟨fun i H => ∃ xs ys x y, SqS K H u xs ∧ SqS K H v ys ∧ xs[i]? = some x ∧ ys[i]? = some y,
   fun i H t H' => ∃ p x y, H p = none ∧ t = .ref p ∧ H' = upd H p (.tup [x, y]) ∧ (∀ xs, SqS K H u xs → xs[i]? = some x) ∧ (∀ ys, SqS K H v ys → ys[i]? = some y),
   fun i H => ∃ xs ys, SqS K H u xs ∧ SqS K H v ys ∧ (xs.length ≤ i ∨ ys.length ≤ i)⟩
theorem turn_zip {P : Program} {w : World} {K : PySem.W.Frag} {elts : List Expr} {k : Nat} {pos : Pos} (u v : Src) (z TI TO i1 i2 : Addr) (D : ZipApart z TI TO i1 i2 u.at v.at) :
    Turn P w K (.Tuple elts k pos) (Itz K u v) [z, TI, TO, i1, i2] z (fun i h => IsZip h z TI TO .none ∧ IsPair h TI (.ref i1) (.ref i2) ∧ (∃ a b, IsPair h TO a b) ∧ itAt h u i1 i ∧ itAt h v i2 i) where
  mem := by simp
  obj := fun i h ⟨hz, hTI, ⟨a, b, hTO⟩, h1, h2⟩ c hc => by
    simp only [List.mem_cons, List.not_mem_nil, or_false] at hc
    rcases hc with rfl | rfl | rfl | rfl | rfl
    · exact ⟨_, hz, fun v z => nomatch z⟩
    · exact ⟨_, hTI, fun v z => nomatch z⟩
    · exact ⟨_, hTO, fun v z => nomatch z⟩
    · exact itAt_obj h1
    · exact itAt_obj h2
  keep := fun i h h' ⟨hz, hTI, ⟨a, b, hTO⟩, h1, h2⟩ kp =>
    ⟨kp z (by simp) _ hz, kp TI (by simp) _ hTI, ⟨a, b, kp TO (by simp) _ hTO⟩, itAt_keep h1 fun o e => kp i1 (by simp) o e, itAt_keep h2 fun o e => kp i2 (by simp) o e⟩
  item := by
    intro X hP hw hK hc i pins s σ H E I hf ⟨hz, hTI, ⟨a, b, hTO⟩, h1, h2⟩ hg
    subst hP hw hK
    obtain ⟨xs, ys, x, y, hu, hv, hx, hy⟩ := hg
    obtain ⟨its, r1, _, _, lt1, s1⟩ := I.src hu
    obtain ⟨its2, r2, _, _, lt2, s2⟩ := I.src hv
    obtain ⟨ux, hux, rx⟩ := r1.get hx
    obtain ⟨uy, huy, ry⟩ := r2.get hy
    refine next_zip_item D hz hTI hTO (s1 _ _ h1) (s2 _ _ h2) (x := ux) (y := uy) (by simpa using hux) (by simpa using huy) fun h' a1 a2 a3 a4 a5 a6 a7 => ⟨_, rfl, ?_⟩
    have hch : ∀ b ∈ [z, TO, i1, i2], FpOk X pins H b := fun b hb => hf b (by
      simp only [List.mem_cons, List.not_mem_nil, or_false] at hb ⊢
      rcases hb with rfl | rfl | rfl | rfl <;> simp)
    have k' : ∀ b u, b ∉ [z, TO, i1, i2] → s.heap.get? b = some u → h'.get? b = some u := fun b u hb e => a7 b u (fun q => hb (by simp [q])) (fun q => hb (by simp [q])) (fun q => hb (by simp [q])) (fun q => hb (by simp [q])) e
    have I1 : Inv X pins σ (upd H s.heap.objs.size (.tup [x, y])) { s with heap := h' } := I.turnedNew (t' := s.toks) hch k' ⟨by show 2 ≤ sizeLine; decide, [ux, uy], .cons rx (.cons ry .nil), ⟨_, a5, rfl, _, rfl⟩⟩
    refine wpAny_letOwnedTupleGo_zip (s := { s with heap := h' }) a1 fun h2' hz' hs' => ?_
    have hn := I.hok.fresh (Nat.le_refl s.heap.objs.size)
    have ltf : ∀ b ∈ [z, TI, TO, i1, i2], b ≠ s.heap.objs.size := fun b hb => by
      simp only [List.mem_cons, List.not_mem_nil, or_false] at hb
      rcases hb with rfl | rfl | rfl | rfl | rfl
      · exact Nat.ne_of_lt (Heap.lt_size hz)
      · exact Nat.ne_of_lt (Heap.lt_size hTI)
      · exact Nat.ne_of_lt (Heap.lt_size hTO)
      · obtain ⟨o, e, _⟩ := itAt_obj h1; exact Nat.ne_of_lt (Heap.lt_size e)
      · obtain ⟨o, e, _⟩ := itAt_obj h2; exact Nat.ne_of_lt (Heap.lt_size e)
    obtain ⟨f0, f1, f2, f3, f4, f5⟩ := hf z (by simp)
    have I2 : Inv X pins σ (upd H s.heap.objs.size (.tup [x, y])) { s with heap := h2' } := I1.turned (t' := s.toks) (fun b o hb e => hs'.extBut b o hb e) (by rw [upd_ne (ltf z (by simp))]; exact f0) f1 f3 f4 f5
    refine ⟨.ref s.heap.objs.size, _, I2, rfl, ⟨s.heap.objs.size, x, y, hn, rfl, rfl, fun xs' h => by rw [I.src_inj h hu]; exact hx, fun ys' h => by rw [I.src_inj h hv]; exact hy⟩, ?_, fun b hb => by rw [upd_ne (ltf b hb)]; exact (hf b hb).1⟩
    exact ⟨hz', hs'.extBut _ _ D.TIz (a7 _ _ D.TIz D.TITO D.TIi1 D.TIi2 hTI), ⟨_, _, hs'.extBut _ _ D.TOz a2⟩, itAt_keep a3.itAt fun o e => hs'.extBut _ _ D.i1z e, itAt_keep a4.itAt fun o e => hs'.extBut _ _ D.i2z e⟩
  done := by
    intro X hP hw hK hc i pins s σ H E I hf ⟨hz, hTI, ⟨a, b, hTO⟩, h1, h2⟩ hg
    subst hP hw hK
    obtain ⟨xs, ys, hu, hv, hend⟩ := hg
    obtain ⟨its, r1, _, _, lt1, s1⟩ := I.src hu
    obtain ⟨its2, r2, _, _, lt2, s2⟩ := I.src hv
    have l1 := r1.length
    have l2 := r2.length
    refine next_zip_end (I.ok.hd hc) D hz hTI hTO (s1 _ _ h1) (s2 _ _ h2) (by
      rcases hend with q | q
      · exact .inl (by simp; omega)
      · exact .inr (by simp; omega)) fun h' a7 => ⟨rfl, ?_⟩
    refine I.turnedL (t' := s.toks) (chs := [z, TO, i1, i2]) (fun b hb => hf b (by
      simp only [List.mem_cons, List.not_mem_nil, or_false] at hb ⊢
      rcases hb with rfl | rfl | rfl | rfl <;> simp)) fun b u hb e => a7 b u (fun q => hb (by simp [q])) (fun q => hb (by simp [q])) (fun q => hb (by simp [q])) (fun q => hb (by simp [q])) e
  self := fun _ _ _ _ _ st h => wpAny_pyIter_zip st.1 h
def zipD : List D → List D → List D
  | x :: xs, y :: ys => .tup [x, y] :: zipD xs ys
  | _, _ => []
theorem zipD_len : ∀ (xs ys : List D), (zipD xs ys).length = min xs.length ys.length
  | [], _ => by simp [zipD]
  | _ :: _, [] => by simp [zipD]
  | x :: xs, y :: ys => by simp only [zipD, List.length_cons, zipD_len xs ys]; omega
theorem zipD_get : ∀ (xs ys : List D) (i : Nat) (d : D), (zipD xs ys)[i]? = some d → ∃ x y, xs[i]? = some x ∧ ys[i]? = some y ∧ d = .tup [x, y]
  | [], _, _, _, h => by simp [zipD] at h
  | _ :: _, [], _, _, h => by simp [zipD] at h
  | x :: xs, y :: ys, 0, d, h => by simp [zipD] at h; exact ⟨x, y, rfl, rfl, h.symm⟩
  | x :: xs, y :: ys, i + 1, d, h => by
    obtain ⟨a, b, h1, h2, h3⟩ := zipD_get xs ys i d (by simpa [zipD] using h)
    exact ⟨a, b, by simpa using h1, by simpa using h2, h3⟩
theorem src_of {K : PySem.W.Frag} {H : Hp} {d : D} {ds : List D} {v : V} (h : itemsD d = some ds) (r : Rep K H d v) : ∃ u : Src, v = .ref u.at ∧ ∀ H', Rep K H' d v → ∃ xs, SqS K H' u xs ∧ Reps K H' ds xs := by
  cases d with
  | tup xs => cases h; obtain ⟨a, us, rfl, _⟩ := r.tup_of; exact ⟨.T a, rfl, fun H' r' => by obtain ⟨a', us', e, e2, e3⟩ := r'.tup_of; injection e with e; subst e; exact ⟨us', SqT.of e2, e3⟩⟩
  | lst xs => cases h; obtain ⟨a, us, rfl, _⟩ := r.lst_of; exact ⟨.L a, rfl, fun H' r' => by obtain ⟨a', us', e, e2, e3⟩ := r'.lst_of; injection e with e; subst e; exact ⟨us', SqL.of e2, e3⟩⟩
  | fro xs => cases h; obtain ⟨a, us, rfl, _⟩ := r.fro_of; exact ⟨.L a, rfl, fun H' r' => by obtain ⟨a', us', e, e2, e3⟩ := r'.fro_of; injection e with e; subst e; exact ⟨us', e2.sq, e3⟩⟩
  | _ => cases h
theorem itd_zip {K : PySem.W.Frag} {u v : Src} {d e : D} {ds es : List D} {vx vy : V} (h1 : ∀ H', Rep K H' d vx → ∃ xs, SqS K H' u xs ∧ Reps K H' ds xs) (h2 : ∀ H', Rep K H' e vy → ∃ xs, SqS K H' v xs ∧ Reps K H' es xs) : ItD K (Itz K u v) [(vx, d), (vy, e)] (zipD ds es) where
  go := fun i H g hi => by
    obtain ⟨xs, q1, r1⟩ := h1 H (g (vx, d) (by simp))
    obtain ⟨ys, q2, r2⟩ := h2 H (g (vy, e) (by simp))
    have l1 := r1.length
    have l2 := r2.length
    rw [zipD_len] at hi
    exact ⟨xs, ys, xs[i], ys[i], q1, q2, List.getElem?_eq_getElem (by omega), List.getElem?_eq_getElem (by omega)⟩
  yld := fun i H x H' c g hd ⟨p, x1, y1, hn, hx, hH, k1, k2⟩ => by
    obtain ⟨xs, q1, r1⟩ := h1 H (g (vx, d) (by simp))
    obtain ⟨ys, q2, r2⟩ := h2 H (g (vy, e) (by simp))
    obtain ⟨a, b, e1, e2, rfl⟩ := zipD_get ds es i c hd
    obtain ⟨v1, z1, z2⟩ := r1.get e1
    obtain ⟨v2, z3, z4⟩ := r2.get e2
    have w1 := k1 xs q1
    have w2 := k2 ys q2
    rw [z1] at w1; cases w1
    rw [z3] at w2; cases w2
    subst hx hH
    exact ⟨same_new hn _, rep_tup upd_same (reps_cons (z2.mono (same_new hn _)) (reps_cons (z4.mono (same_new hn _)) reps_nil))⟩
  stop := fun H g => by
    obtain ⟨xs, q1, r1⟩ := h1 H (g (vx, d) (by simp))
    obtain ⟨ys, q2, r2⟩ := h2 H (g (vy, e) (by simp))
    refine ⟨xs, ys, q1, q2, ?_⟩
    rw [zipD_len, r1.length, r2.length]
    omega
def zip2 : List D → Option (List D)
  | [a, b] => (itemsD a).bind fun xs => (itemsD b).map fun ys => zipD xs ys
  | _ => none
section
variable {X : Cx} {a b : Expr} {p pos tpos : Pos} {elts : List Expr} {tk : Nat}
theorem i_zip {fs : DS → Option (List D)} (hg : Gl X "zip") (hm : X.mg "zip" = none) (ha : PA X [a, b] (tDA X.K fs)) (hs : starEach [a, b] X.env = [(false, eval a X.env), (false, eval b X.env)] := by rfl) (hs2 : starEach [b] X.env = [(false, eval b X.env)] := by rfl)
    (hv : bootBuiltins "zip" = some (.type "zip") := by decide +kernel) : PI X (.Tuple elts tk tpos) (.Call (.Name "zip" p) [a, b] [] pos) (tI X.K fun δ => (fs δ).bind zip2) := by
  intro pins s σ H R I ⟨δ, ds, sr, e, q⟩
  dsimp only at e
  cases ex : fs δ with
  | none => rw [ex] at e; cases e
  | some args =>
    rw [ex] at e
    have e' : zip2 args = some ds := e
    unfold zip2 at e'
    split at e'
    · rename_i da db
      cases hda : itemsD da with
      | none => rw [hda] at e'; cases e'
      | some xs =>
        cases hdb : itemsD db with
        | none => simp [hda, hdb] at e'
        | some ys =>
          have e'' : zipD xs ys = ds := by simpa [hda, hdb] using e'
          subst e''
          refine Call_ (ld_blt I hg hm hv (PyProof.Rows.callWith_type1 (thn (ha pos pins s σ H (fun vs H1 => Same H H1 ∧ Reps X.K H1 [da, db] vs) I ⟨δ, _, sr, ex, fun vs H1 s1 rs => ⟨s1, rs⟩⟩) fun us s1 ⟨vs, H1, I1, r1, S, rs⟩ => ?_) (by rw [hs, hs2]) (by rw [hs2]; rfl)))
          obtain ⟨va, rr, rfl, ra, rn⟩ := rs.cons_of
          obtain ⟨vb, rr2, rfl, rb, rn2⟩ := rn.cons_of
          cases rn2.nil_of
          obtain ⟨u, rfl, hu⟩ := src_of hda ra
          obtain ⟨v, rfl, hv'⟩ := src_of hdb rb
          obtain ⟨xsv, qu, ru⟩ := hu H1 ra
          obtain ⟨ysv, qv, rv⟩ := hv' H1 rb
          cases r1 with
          | cons q1 r1 =>
            cases r1 with
            | cons q2 r1 =>
              cases r1
              cases q1
              cases q2
              obtain ⟨its, k1, c1, z1, lt1, _⟩ := I1.src qu
              obtain ⟨its2, k2, c2, z2, lt2, _⟩ := I1.src qv
              refine call_zipC c1 c2 fun h' a1 a2 a3 a4 a5 a6 a7 => ?_
              have I2 : Inv X pins σ H1 { s1 with heap := h' } := I1.kept (t' := s1.toks) a7
              refine wpAny_pyIter_zip (s := { s1 with heap := h' }) a1 ?_
              refine ⟨s1.heap.objs.size + 4, [s1.heap.objs.size + 4, s1.heap.objs.size + 2, s1.heap.objs.size + 3, s1.heap.objs.size, s1.heap.objs.size + 1], _, _, H1, rfl, I2, turn_zip u v _ _ _ _ _ (zipApart_new lt1 lt2), ⟨a1, a2, ⟨_, _, a3⟩, itAt_new a4, itAt_new a5⟩, fun b hb => ?_, q _ _ H1 S (fun p hp => ?_) (itd_zip hu hv') ?_⟩
              · have hb' : s1.heap.objs.size ≤ b := by
                  simp only [List.mem_cons, List.not_mem_nil, or_false] at hb
                  rcases hb with rfl | rfl | rfl | rfl | rfl <;> omega
                exact I1.fpOk hb' (I1.hok.fresh hb')
              · simp only [List.mem_cons, List.not_mem_nil, or_false] at hp
                rcases hp with rfl | rfl
                · exact ra
                · exact rb
              · rw [zipD_len]
                have := ru.length
                omega
    · cases e'
end
end L2
set_option Elab.async false
set_option linter.all false
set_option maxRecDepth 100000
set_option maxHeartbeats 1000000
namespace L2
open PySem PySem.Spec PyProof.Rows
abbrev eH1 (h : Heap) (c : String) (l : Addr) : Heap := h.push (itObj c l)
abbrev eH2 (h : Heap) (c : String) (l : Addr) : Heap := (eH1 h c l).push { cls := .type "enumerate", data := .fields #[.none, .bool false, .ref h.objs.size, rawInt 0, .none, .none] }
theorem meets_enumC (c : String) (l : Addr) (xs : Array Value) :
    Meets (Builtin.«enumerate.__new__» ⟨[.type "enumerate", .ref l], []⟩) (fun _ R s => SeqC s.heap c l xs ∧ R (.ok (.ret (.ref (eH1 s.heap c l).objs.size))) { s with heap := eH2 s.heap c l }) :=
  .of_wp fun prog w A R s h => by
    obtain ⟨hp, g, d, tk, os⟩ := s; obtain ⟨hl, h⟩ := h
    have hsub := sub_enumerate
    have L1 : SeqC (Shared.heap ⟨hp, g, d, tk, os⟩) c l xs := hl
    wp_walk
    refine wpAny_stack_any fun st => wpAny_pure ?_
    split
    · rename_i c' _ _ _ _ _
      cases (c' == Value.type "enumerate")
      · wp_walk using iter_seqC L1
        exact ⟨_, rfl, h⟩
      · wp_walk using iter_seqC L1
        exact ⟨_, rfl, h⟩
    · wp_walk using iter_seqC L1
      exact ⟨_, rfl, h⟩
section
variable {prog : Program} {w : World} {A : Around} {E : Value → Shared → Prop} {s : Shared}
theorem call_enumC {c : String} {l : Addr} {xs : Array Value} {Q : Value → Shared → Prop} (hl : SeqC s.heap c l xs)
    (h : ∀ h', IsEnum h' (s.heap.objs.size + 1) s.heap.objs.size 0 .none → h'.get? s.heap.objs.size = some (itObj c l) → h'.objs.size = s.heap.objs.size + 2 → (∀ b o, s.heap.get? b = some o → h'.get? b = some o) → Q (.ref (s.heap.objs.size + 1)) { s with heap := h' }) :
    wpAny (model prog w) A (call (.type "enumerate") [.ref l]) Q E s := by
  refine callType_new F.called_enumerate (by decide) (F.typeCall_enumerate_1 _) (F.newCall_enumerate_1 _) (fun obj => F.args_object_init_2 obj _) F.entry_enumerate_new (meets_enumC c l xs) ⟨hl, ?_⟩
  have z1 : (eH1 s.heap c l).objs.size = s.heap.objs.size + 1 := Heap.size_push ..
  have z2 : (eH2 s.heap c l).objs.size = s.heap.objs.size + 2 := by rw [Heap.size_push, z1]
  have g2 : (eH2 s.heap c l).get? (eH1 s.heap c l).objs.size = some _ := Heap.get?_push_size _ rfl
  have g1 : (eH2 s.heap c l).get? s.heap.objs.size = some _ := Heap.get?_push_of_some _ (Heap.get?_push_size _ rfl)
  show _ ∧ _
  rw [z1] at g2 ⊢
  exact ⟨⟨_, g2, rfl⟩, h _ g2 g1 z2 fun b o q => Heap.get?_push_of_some _ (Heap.get?_push_of_some _ q)⟩
theorem draws_sub (hh : A.handled = none) (b : Bool) (it l : Addr) (hne : l ≠ it) (xs : Array Value) : Draws prog w A it [it, l] xs.size (fun i v => xs[i]? = some v) (fun i h => SubIt b h it l i xs) where
  live := fun _ _ st => let ⟨⟨o, ho, _⟩, _⟩ := st.objs; ⟨o, ho⟩
  frame := fun _ _ _ st hk => st.keep (fun o e => hk it (by simp) o e) fun o e => hk l (by simp) o e
  item := fun i s Q E hi st hQ => sub_next st (x := xs[i]) (by simp [hi]) hne fun h' st' hs' => hQ _ h' s.toks (by simp [hi]) st' hs'
  done := fun s Q E st hE => sub_end hh st (by simp) hE
end
def Ite (K : PySem.W.Frag) (u : Src) : It :=
  ⟨fun i H => ∃ xs x, SqS K H u xs ∧ xs[i]? = some x,
   fun i H t H' => ∃ p x, H p = none ∧ t = .ref p ∧ H' = upd H p (.tup [.int (i : Int), x]) ∧ (∀ xs, SqS K H u xs → xs[i]? = some x),
   fun i H => ∃ xs, SqS K H u xs ∧ xs.length = i⟩
theorem turn_enum {P : Program} {w : World} {K : PySem.W.Frag} {elts : List Expr} {k : Nat} {pos : Pos} (u : Src) (e it : Addr) (hei : e ≠ it) (hui : u.at ≠ it) (hue : u.at ≠ e) :
    Turn P w K (.Tuple elts k pos) (Ite K u) [e, it] e (fun i h => (∃ old, IsEnum h e it i old) ∧ itAt h u it i) where
  mem := by simp
  obj := fun i h ⟨⟨old, he⟩, h1⟩ c hc => by
    simp only [List.mem_cons, List.not_mem_nil, or_false] at hc
    rcases hc with rfl | rfl
    · exact ⟨_, he, fun v z => nomatch z⟩
    · exact itAt_obj h1
  keep := fun i h h' ⟨⟨old, he⟩, h1⟩ kp => ⟨⟨old, kp e (by simp) _ he⟩, itAt_keep h1 fun o q => kp it (by simp) o q⟩
  item := by
    intro X hP hw hK hc i pins s σ H E I hf ⟨⟨old, he⟩, h1⟩ hg
    subst hP hw hK
    obtain ⟨xs, x, hu, hx⟩ := hg
    obtain ⟨its, r1, _, _, lt1, s1⟩ := I.src hu
    obtain ⟨ux, hux, rx⟩ := r1.get hx
    have hlt : i < its.toArray.size := by
      rw [List.size_toArray]; exact (List.getElem?_eq_some_iff.mp hux).1
    have hh : X.A.in1.handled = none := I.ok.hd hc
    refine wpAny_pyNext_enum_itemD (draws_sub hh u.b it u.at hui its.toArray) he (s1 _ _ h1) hlt hei (by simp [hei, Ne.symm hue]) fun y h' tk hy a1 a2 a3 a4 a5 => ⟨_, rfl, ?_⟩
    have hyx : y = ux := by
      have : its.toArray[i]? = some ux := by simpa using hux
      rw [this] at hy; exact (Option.some.inj hy).symm
    subst hyx
    have hch : ∀ b ∈ [e, it], FpOk X pins H b := fun b hb => hf b hb
    have k' : ∀ b v, b ∉ [e, it] → s.heap.get? b = some v → h'.get? b = some v := fun b v hb q => a5 b v (fun z => hb (by simp [z])) (fun z => hb (by simp [z])) q
    have I1 : Inv X pins σ (upd H s.heap.objs.size (.tup [.int (i : Int), x])) { s with heap := h', toks := tk + 1 } := I.turnedNew hch k' ⟨by show 2 ≤ sizeLine; decide, [.int i tk, y], .cons ⟨tk, rfl⟩ (.cons rx .nil), ⟨_, a3, rfl, _, rfl⟩⟩
    refine wpAny_letOwnedTupleGo_enum (s := { s with heap := h', toks := tk + 1 }) a1 fun h2' he' hs' => ?_
    have hn := I.hok.fresh (Nat.le_refl s.heap.objs.size)
    have ltf : ∀ b ∈ [e, it], b ≠ s.heap.objs.size := fun b hb => by
      simp only [List.mem_cons, List.not_mem_nil, or_false] at hb
      rcases hb with rfl | rfl
      · exact Nat.ne_of_lt (Heap.lt_size he)
      · obtain ⟨o, q, _⟩ := itAt_obj h1; exact Nat.ne_of_lt (Heap.lt_size q)
    obtain ⟨f0, f1, f2, f3, f4, f5⟩ := hf e (by simp)
    have I2 : Inv X pins σ (upd H s.heap.objs.size (.tup [.int (i : Int), x])) { s with heap := h2', toks := tk + 1 } := I1.turned (t' := tk + 1) (fun b o hb q => hs'.extBut b o hb q) (by rw [upd_ne (ltf e (by simp))]; exact f0) f1 f3 f4 f5
    refine ⟨.ref s.heap.objs.size, _, I2, rfl, ⟨s.heap.objs.size, x, hn, rfl, rfl, fun xs' h => by rw [I.src_inj h hu]; exact hx⟩, ?_, fun b hb => by rw [upd_ne (ltf b hb)]; exact (hf b hb).1⟩
    exact ⟨⟨_, by simpa using he'⟩, itAt_keep a2.itAt fun o q => hs'.extBut _ _ (Ne.symm hei) q⟩
  done := by
    intro X hP hw hK hc i pins s σ H E I hf ⟨⟨old, he⟩, h1⟩ hg
    subst hP hw hK
    obtain ⟨xs, hu, hend⟩ := hg
    obtain ⟨its, r1, _, _, lt1, s1⟩ := I.src hu
    have hh : X.A.in1.handled = none := I.ok.hd hc
    have l1 := r1.length
    have hi : i = its.toArray.size := by rw [List.size_toArray]; omega
    have st : SubIt u.b s.heap it u.at its.toArray.size its.toArray := by rw [← hi]; exact s1 _ _ h1
    obtain ⟨f0, f1, f2, f3, f4, f5⟩ := hf it (by simp)
    exact wpAny_pyNext_enum_endD (draws_sub hh u.b it u.at hui its.toArray) he st fun h' hx => ⟨rfl, I.turned (t' := s.toks) (fun b o hb q => hx b o hb q) f0 f1 f3 f4 f5⟩
  self := fun _ _ _ _ _ st h => let ⟨_, he⟩ := st.1; wpAny_pyIter_enum he h
def enumFrom : Nat → List D → List D
  | _, [] => []
  | k, x :: xs => .tup [.int (k : Int), x] :: enumFrom (k + 1) xs
theorem enumFrom_len : ∀ (k : Nat) (xs : List D), (enumFrom k xs).length = xs.length
  | _, [] => rfl
  | k, x :: xs => by simp only [enumFrom, List.length_cons, enumFrom_len (k + 1) xs]
theorem enumFrom_get : ∀ (k : Nat) (xs : List D) (i : Nat) (d : D), (enumFrom k xs)[i]? = some d → ∃ x, xs[i]? = some x ∧ d = .tup [.int ((k + i : Nat) : Int), x]
  | _, [], _, _, h => by simp [enumFrom] at h
  | k, x :: xs, 0, d, h => by simp [enumFrom] at h; exact ⟨x, rfl, h.symm⟩
  | k, x :: xs, i + 1, d, h => by
    obtain ⟨a, h1, h2⟩ := enumFrom_get (k + 1) xs i d (by simpa [enumFrom] using h)
    exact ⟨a, by simpa using h1, by rw [h2, show k + 1 + i = k + (i + 1) by omega]⟩
theorem itd_enum {K : PySem.W.Frag} {u : Src} {d : D} {ds : List D} {vx : V} (h1 : ∀ H', Rep K H' d vx → ∃ xs, SqS K H' u xs ∧ Reps K H' ds xs) : ItD K (Ite K u) [(vx, d)] (enumFrom 0 ds) where
  go := fun i H g hi => by
    obtain ⟨xs, q1, r1⟩ := h1 H (g (vx, d) (by simp))
    have l1 := r1.length
    rw [enumFrom_len] at hi
    exact ⟨xs, xs[i], q1, List.getElem?_eq_getElem (by omega)⟩
  yld := fun i H x H' c g hd ⟨p, x1, hn, hx, hH, k1⟩ => by
    obtain ⟨xs, q1, r1⟩ := h1 H (g (vx, d) (by simp))
    obtain ⟨a, e1, rfl⟩ := enumFrom_get 0 ds i c hd
    obtain ⟨v1, z1, z2⟩ := r1.get e1
    have w1 := k1 xs q1
    rw [z1] at w1; cases w1
    subst hx hH
    rw [Nat.zero_add]
    exact ⟨same_new hn _, rep_tup upd_same (reps_cons rep_int (reps_cons (z2.mono (same_new hn _)) reps_nil))⟩
  stop := fun H g => by
    obtain ⟨xs, q1, r1⟩ := h1 H (g (vx, d) (by simp))
    exact ⟨xs, q1, by rw [enumFrom_len, r1.length]⟩
def enumD : List D → Option (List D)
  | [a] => (itemsD a).map (enumFrom 0)
  | _ => none
section
variable {X : Cx} {a : Expr} {p pos tpos : Pos} {elts : List Expr} {tk : Nat}
theorem i_enum {fs : DS → Option (List D)} (hg : Gl X "enumerate") (hm : X.mg "enumerate" = none) (ha : PA X [a] (tDA X.K fs)) (hs : starEach [a] X.env = [(false, eval a X.env)] := by rfl)
    (hv : bootBuiltins "enumerate" = some (.type "enumerate") := by decide +kernel) : PI X (.Tuple elts tk tpos) (.Call (.Name "enumerate" p) [a] [] pos) (tI X.K fun δ => (fs δ).bind enumD) := by
  intro pins s σ H R I ⟨δ, ds, sr, e, q⟩
  dsimp only at e
  cases ex : fs δ with
  | none => rw [ex] at e; cases e
  | some args =>
    rw [ex] at e
    have e' : enumD args = some ds := e
    unfold enumD at e'
    split at e'
    · rename_i da
      cases hda : itemsD da with
      | none => rw [hda] at e'; cases e'
      | some xs =>
        rw [hda] at e'
        have e'' : enumFrom 0 xs = ds := by simpa using e'
        subst e''
        refine Call_ (ld_blt I hg hm hv (PyProof.Rows.callWith_type1 (thn (ha pos pins s σ H (fun vs H1 => Same H H1 ∧ Reps X.K H1 [da] vs) I ⟨δ, _, sr, ex, fun vs H1 s1 rs => ⟨s1, rs⟩⟩) fun us s1 ⟨vs, H1, I1, r1, S, rs⟩ => ?_) (by rw [hs]; rfl) (by rfl)))
        obtain ⟨va, rr, rfl, ra, rn⟩ := rs.cons_of
        cases rn.nil_of
        obtain ⟨u, rfl, hu⟩ := src_of hda ra
        obtain ⟨xsv, qu, ru⟩ := hu H1 ra
        cases r1 with
        | cons q1 r1 =>
          cases r1
          cases q1
          obtain ⟨its, k1, c1, z1, lt1, _⟩ := I1.src qu
          refine call_enumC c1 fun h' a1 a2 a3 a4 => ?_
          have I2 : Inv X pins σ H1 { s1 with heap := h' } := I1.kept (t' := s1.toks) a4
          refine wpAny_pyIter_enum (s := { s1 with heap := h' }) a1 ?_
          refine ⟨s1.heap.objs.size + 1, [s1.heap.objs.size + 1, s1.heap.objs.size], _, _, H1, rfl, I2, turn_enum u _ _ (Nat.succ_ne_self _) (Nat.ne_of_lt lt1) (Nat.ne_of_lt (Nat.lt_succ_of_lt lt1)), ⟨⟨_, a1⟩, itAt_new a2⟩, fun b hb => ?_, q _ _ H1 S (fun p hp => ?_) (itd_enum hu) ?_⟩
          · have hb' : s1.heap.objs.size ≤ b := by
              simp only [List.mem_cons, List.not_mem_nil, or_false] at hb
              rcases hb with rfl | rfl <;> omega
            exact I1.fpOk hb' (I1.hok.fresh hb')
          · simp only [List.mem_cons, List.not_mem_nil, or_false] at hp
            subst hp
            exact ra
          · rw [enumFrom_len]
            have := ru.length
            omega
    · cases e'
end
end L2
set_option Elab.async false
set_option linter.all false
set_option maxRecDepth 100000
namespace L2
open PySem PySem.Spec PyProof.Rows
def vF (i : Nat) : DS → Option D := fun δ => (δ[i]?).join
def cF (d : D) : DS → Option D := fun _ => some d
def unF (f : DS → Option D) (g : D → Option D) : DS → Option D := fun δ => (f δ).bind g
def nilF : DS → Option (List D) := fun _ => some []
def callF (fs : DS → Option (List D)) (g : List D → Option D) : DS → Option D := fun δ => (fs δ).bind g
def lstF (f : DS → Option (List D)) : DS → Option D := fun δ => (f δ).map D.lst
def dispF (fs : DS → Option (List D)) : DS → Option (List D) := fun δ => (fs δ).bind fun ds => if fit ds.length = true then some ds else none
def tupF (fs : DS → Option (List D)) : DS → Option D := fun δ => (fs δ).bind fun ds => if fit ds.length = true then some (.tup ds) else none
def fsF (fs : DS → Option (List D)) (g : List D → Option (List D)) : DS → Option (List D) := fun δ => (fs δ).bind g
def compF (fi : DS → Option (List D)) (h : D → DS → Option DS) (fc : DS → Option Bool) (fe : DS → Option D) (inn : List (Option Nat)) : DS → Option (List D) := fun δ => (fi δ).bind fun ds => compD h fc fe (innD inn δ) ds
def oN : DS → Option (Option Int) := fun _ => some none
def oS (f : DS → Option D) : DS → Option (Option Int) := fun δ => asI (f δ)
def bT (f : DS → Option D) : DS → Option Bool := fun δ => asB (f δ)
def yesT : DS → Option Bool := fun _ => some true
def truT (f : DS → Option D) : DS → Option Bool := fun δ => (f δ).bind truD
def andT (t u : DS → Option Bool) : DS → Option Bool := fun δ => (t δ).bind fun k => if k = true then u δ else some false
def orT (t u : DS → Option Bool) : DS → Option Bool := fun δ => (t δ).bind fun k => if k = true then some true else u δ
def notT (t : DS → Option Bool) : DS → Option Bool := fun δ => (t δ).map (!·)
def itF (f : DS → Option D) : DS → Option (List D) := fun δ => (f δ).bind itemsD
def nxF : DS → Option DF := fun δ => some (.nx δ)
def retF (f : DS → Option D) : DS → Option DF := fun δ => (f δ).map .rt
def setF (i : Nat) (f : DS → Option D) : DS → Option DF := fun δ => (f δ).map fun d => .nx (δ.set i (some d))
def setL (i : Nat) (f : DS → Option (List D)) : DS → Option DF := fun δ => (f δ).map fun ds => .nx (δ.set i (some (.lst ds)))
def ifF (t : DS → Option Bool) (g g' : DS → Option DF) : DS → Option DF := fun δ => (t δ).bind fun k => if k = true then g δ else g' δ
def forF (fi : DS → Option (List D)) (h : D → DS → Option DS) (gb : DS → Option DF) : DS → Option DF := fun δ => (fi δ).bind fun ds => forD h gb ds δ
def compOk (sc scope : Scope) (N N' : List Str) (inn : List (Option Nat)) : Bool :=
  scope.kind == .function && scope.names.all (fun y => y.2 != .cell) && scope.names.all (fun y => y.2 != .local || scope.names.lookup y.1 == some .local) &&
  scope.names.all (fun y => y.2 != .free || (scope.names.lookup y.1 == some .free && (sc.names.lookup y.1 == some .cell || sc.names.lookup y.1 == some .free))) &&
  decide N'.Nodup && inn.length == N'.length && (inn.zip N').all (fun p => match p.1 with | none => true | some j => N[j]? == some p.2 && scope.names.contains (p.2, .free))
theorem compSc_mk {X : Cx} {scope : Scope} {N' : List Str} {inn : List (Option Nat)} (sc : Scope) (N : List Str) (h1 : X.env.scope = sc) (h2 : X.N = N) (h : compOk sc scope N N' inn = true) : CompSc X scope N' inn := by
  unfold compOk at h
  simp only [Bool.and_eq_true] at h
  obtain ⟨⟨⟨⟨⟨⟨a1, a2⟩, a3⟩, a4⟩, a5⟩, a6⟩, a7⟩ := h
  refine ⟨eq_of_beq a1, fun y hy => ?_, fun y hy e => ?_, fun y hy => ?_, of_decide_eq_true a5, eq_of_beq a6, fun i j hi => ?_⟩
  · have := List.all_eq_true.mp a2 y hy
    simpa using this
  · have := List.all_eq_true.mp a3 y hy
    rcases Bool.or_eq_true_iff.mp this with z | z
    · simp [e] at z
    · exact eq_of_beq z
  · have := List.all_eq_true.mp a4 (y, .free) hy
    rcases Bool.or_eq_true_iff.mp this with z | z
    · simp at z
    · obtain ⟨z1, z2⟩ := Bool.and_eq_true_iff.mp z
      refine ⟨eq_of_beq z1, ?_⟩
      show X.env.scope.names.lookup y = _ ∨ X.env.scope.names.lookup y = _
      rw [h1]
      rcases Bool.or_eq_true_iff.mp z2 with w | w
      · exact .inl (eq_of_beq w)
      · exact .inr (eq_of_beq w)
  · have hl : inn.length = N'.length := eq_of_beq a6
    have hi1 : i < inn.length := (List.getElem?_eq_some_iff.mp hi).1
    have hz : (inn.zip N')[i]? = some (some j, N'[i]'(by omega)) := by
      rw [List.getElem?_zip_eq_some]
      exact ⟨hi, List.getElem?_eq_getElem (by omega)⟩
    have := List.all_eq_true.mp a7 _ (List.mem_of_getElem? hz)
    obtain ⟨z1, z2⟩ := Bool.and_eq_true_iff.mp this
    exact ⟨_, List.getElem?_eq_getElem (by omega), by rw [h2]; exact eq_of_beq z1, List.contains_iff_mem.mp z2⟩
end L2
set_option Elab.async false
set_option linter.all false
set_option maxRecDepth 100000
set_option maxHeartbeats 1000000
namespace L2
open PySem PySem.Spec PyProof.Rows
theorem whileD_mono {tc : DS → Option Bool} {gb : DS → Option DF} {fl : DF} : ∀ {n m : Nat} {δ : DS}, n ≤ m → whileD tc gb n δ = some fl → whileD tc gb m δ = some fl
  | 0, _, _, _, h => by cases h
  | n + 1, 0, _, l, _ => absurd l (Nat.not_succ_le_zero n)
  | n + 1, m + 1, δ, l, h => by
    unfold whileD at h ⊢
    cases et : tc δ with
    | none => rw [et] at h; cases h
    | some k =>
      rw [et] at h
      rw [Option.bind_some] at h ⊢
      cases k with
      | false => exact h
      | true =>
        rw [if_pos rfl] at h ⊢
        cases eg : gb δ with
        | none => rw [eg] at h; cases h
        | some f1 =>
          rw [eg] at h
          rw [Option.bind_some] at h ⊢
          cases f1 with
          | nx δ2 => exact whileD_mono (Nat.le_of_succ_le_succ l) h
          | ct δ2 => exact whileD_mono (Nat.le_of_succ_le_succ l) h
          | bk δ2 => exact h
          | rt d => exact h
open Classical in
noncomputable def fuelOf (tc : DS → Option Bool) (gb : DS → Option DF) (δ : DS) : Nat := if h : ∃ n, (whileD tc gb n δ).isSome = true then Classical.choose h else 0
noncomputable def whF (tc : DS → Option Bool) (gb : DS → Option DF) : DS → Option DF := fun δ => whileD tc gb (fuelOf tc gb δ) δ
theorem whF_eq {tc : DS → Option Bool} {gb : DS → Option DF} {n : Nat} {δ : DS} {fl : DF} (h : whileD tc gb n δ = some fl) : whF tc gb δ = some fl := by
  have ex : ∃ n, (whileD tc gb n δ).isSome = true := ⟨n, by rw [h]; rfl⟩
  unfold whF fuelOf
  rw [dif_pos ex]
  obtain ⟨f2, h2⟩ := Option.isSome_iff_exists.mp (Classical.choose_spec ex)
  have a := whileD_mono (Nat.le_max_left n (Classical.choose ex)) h
  have b := whileD_mono (Nat.le_max_right n (Classical.choose ex)) h2
  rw [a] at b
  rw [h2, ← b]
def lamOk (sc scope : Scope) (N N' : List Str) (par : Str) (inn : List (Option Nat)) : Bool :=
  scope.kind == .function && !scope.isCoroutine && !scope.isGenerator && scope.names.all (fun y => y.2 != .cell) && scope.names.lookup par == some .local &&
  scope.names.all (fun y => y.2 != .free || (scope.names.lookup y.1 == some .free && (sc.names.lookup y.1 == some .cell || sc.names.lookup y.1 == some .free))) &&
  inn.length == N'.length && N'[0]? == some par && (inn.zip N').all (fun p => match p.1 with | none => true | some j => N[j]? == some p.2 && scope.names.contains (p.2, .free))
theorem lamSc_mk {X : Cx} {scope : Scope} {N' : List Str} {par : Str} {inn : List (Option Nat)} (sc : Scope) (N : List Str) (h1 : X.env.scope = sc) (h2 : X.N = N) (h : lamOk sc scope N N' par inn = true) : LamSc X scope N' par inn := by
  unfold lamOk at h
  simp only [Bool.and_eq_true] at h
  obtain ⟨⟨⟨⟨⟨⟨⟨⟨a1, a2⟩, a3⟩, a4⟩, a5⟩, a6⟩, a7⟩, a8⟩, a9⟩ := h
  refine ⟨eq_of_beq a1, by simpa using a2, by simpa using a3, fun y hy => ?_, eq_of_beq a5, fun y hy => ?_, eq_of_beq a7, eq_of_beq a8, fun i j hi => ?_⟩
  · have := List.all_eq_true.mp a4 y hy
    simpa using this
  · have := List.all_eq_true.mp a6 (y, .free) hy
    rcases Bool.or_eq_true_iff.mp this with z | z
    · simp at z
    · obtain ⟨z1, z2⟩ := Bool.and_eq_true_iff.mp z
      refine ⟨eq_of_beq z1, ?_⟩
      show X.env.scope.names.lookup y = _ ∨ X.env.scope.names.lookup y = _
      rw [h1]
      rcases Bool.or_eq_true_iff.mp z2 with w | w
      · exact .inl (eq_of_beq w)
      · exact .inr (eq_of_beq w)
  · have hl : inn.length = N'.length := eq_of_beq a7
    have hi1 : i < inn.length := (List.getElem?_eq_some_iff.mp hi).1
    have hz : (inn.zip N')[i]? = some (some j, N'[i]'(by omega)) := by
      rw [List.getElem?_zip_eq_some]
      exact ⟨hi, List.getElem?_eq_getElem (by omega)⟩
    have := List.all_eq_true.mp a9 _ (List.mem_of_getElem? hz)
    obtain ⟨z1, z2⟩ := Bool.and_eq_true_iff.mp this
    exact ⟨_, List.getElem?_eq_getElem (by omega), by rw [h2]; exact eq_of_beq z1, List.contains_iff_mem.mp z2⟩
section
variable {X : Cx} {H₀ : Hp} {gh : List (V × D)} {ow ow1 ow' owL : List Nat} {a b c e : Expr} {es : List Expr} {pos p : Pos} {fa fb fc : DS → Option D} {st : Stmt} {sts : List Stmt} {g g' : DS → Option DF}
theorem s_whileF {c : Expr} {body : List Stmt} {tc : DS → Option Bool} {gb : DS → Option DF} (hp : PassesOwn (model X.prog X.w) X.A X.env X.xe) (hc : PT X c (tT X.K tc)) (hb : PSs X body (tS X.K H₀ gh ow ow ow gb)) :
    PS X (.While c body [] pos) (tS X.K H₀ gh ow ow owL (whF tc gb)) := s_while (fuelOf tc gb) hp hc hb
def absD : List D → Option D
  | [.int i] => some (.int (if i < 0 then -i else i))
  | _ => none
theorem told_abs : ToldC X.K (fun xs H Q => ∃ i, xs = [.int i] ∧ Q (.int (if i < 0 then -i else i)) H) absD := fun H ds d vs Q rs e q => by
  unfold absD at e
  split at e
  · rename_i i
    cases e
    obtain ⟨v, r, rfl, h1, h2⟩ := rs.cons_of
    cases h2.nil_of
    exact ⟨i, by rw [h1.int_of], q _ H (Same.refl H) rep_int⟩
  · cases e
theorem d_abs {fs : DS → Option (List D)} (hg : Gl X "abs") (hm : X.mg "abs" = none) (ha : PA X (e :: es) (tDA X.K fs)) (he : starEach (e :: es) X.env = (false, eval e X.env) :: starEach es X.env := by rfl) (hpl : (backTo pos (starEach es X.env)).any (·.1) = false := by rfl) :
    PE X (.Call (.Name "abs" p) (e :: es) [] pos) (tD X.K fun δ => (fs δ).bind absD) := d_callB call_abs told_abs hg hm boot_abs ha (by decide) (by decide) he hpl
theorem noLs_set : ∀ {ds : List D} {d : D} (j : Nat), noLs ds = true → noL d = true → noLs (ds.set j d) = true
  | [], _, _, _, _ => rfl
  | x :: ds, d, 0, h, hd => by
    have n' : noL x = true ∧ noLs ds = true := by simpa [noLs] using h
    simp [noLs, hd, n'.2]
  | x :: ds, d, j + 1, h, hd => by
    have n' : noL x = true ∧ noLs ds = true := by simpa [noLs] using h
    simp [noLs, n'.1, noLs_set j n'.2 hd]
def storeD (k : Nat) (fi : DS → Option D) (d : D) (δ : DS) : Option DS := (fi δ).bind fun di => match (δ[k]?).join, di with
  | some (.lst ds), .int i => (ixN ds.length i).bind fun j => if noLs ds = true ∧ noL d = true ∧ others k δ = true then some (δ.set k (some (.lst (ds.set j d)))) else none
  | _, _ => none
theorem store_step {K : PySem.W.Frag} {k : Nat} {fi : DS → Option D} {d : D} {v : V} {σ : St} {H : Hp} {δ δ' : DS} {Q : St → Hp → Prop} (hk : k ∈ ow) (hgh : ∀ p ∈ gh, noL p.2 = true) (so : SOk K H₀ gh ow H σ δ) (rv : Rep K H d v) (e : storeD k fi d δ = some δ')
    (cont : ∀ H', SOk K H₀ gh ow H' σ δ' → (∀ d v, noL d = true → Rep K H d v → Rep K H' d v) → Q σ H') : gSub (tVar k) (tD K fi) rSetL v σ H Q := by
  unfold storeD at e
  cases ei : fi δ with
  | none => rw [ei] at e; cases e
  | some di =>
    cases eo : (δ[k]?).join with
    | none => simp [ei, eo] at e
    | some dk =>
      cases dk with
      | lst ds =>
        cases di with
        | int i =>
          cases ej : ixN ds.length i with
          | none => simp [ei, eo, ej] at e
          | some j =>
            have e' : (if noLs ds = true ∧ noL d = true ∧ others k δ = true then some (δ.set k (some (.lst (ds.set j d)))) else none) = some δ' := by simpa [ei, eo, ej] using e
            by_cases hc : noLs ds = true ∧ noL d = true ∧ others k δ = true
            · rw [if_pos hc] at e'
              cases e'
              obtain ⟨w, h1, h2⟩ := so.rep.get eo
              obtain ⟨l, us, rfl, hl, rs⟩ := h2.lst_of
              refine ⟨.ref l, h1, δ, .int i, so.rep, ei, fun vi H2 S2 ri => ⟨l, us, i, j, rfl, ri.int_of, S2 _ _ hl, by rw [rs.length]; exact ej, ?_⟩⟩
              refine cont _ ((so.mono S2).write hk h1 (S2 _ _ hl) hc.2.2 hgh ((rs.mono S2).set (rv.mono S2) j) (noLs_set j hc.1 hc.2.1)) fun d' v' hn r => Rep.upd (S2 _ _ hl) hn (r.mono S2)
            · rw [if_neg hc] at e'; cases e'
        | _ => simp [ei, eo] at e
      | _ => simp [ei, eo] at e
def putS (k : Nat) (fi fe : DS → Option D) : DS → Option DF := fun δ => (fe δ).bind fun d => (storeD k fi d δ).map .nx
theorem s_put (k : Nat) {x : Str} {px pt : Pos} {i : Expr} {fi fe : DS → Option D} (hk : k ∈ ow) (hN : X.N[k]? = some x) (hv : Vis X.env.scope x) (hgh : ∀ p ∈ gh, noL p.2 = true) (hi : PE X i (tD X.K fi)) (he : PE X e (tD X.K fe))
    (hd : (x == ("__debug__" : Str)) = false := by decide) (hcd : (x == ("__classdict__" : Str)) = false := by decide)
    (ha : ∀ v, assign (.Subscript (.Name x px) i pt) X.env v = (do
      let ov ← holding [v] (eval (.Name x px) X.env)
      let iv ← holding [v, ov] (eval i X.env)
      standAt pt
      holding [v, ov, iv] (setItem ov iv v)
      release [v, ov, iv] []) := by intro _; rfl)
    (hs : swapsWithSole [.Subscript (.Name x px) i pt] e pos.line X.env = pure false := by rfl) (hw : swappedStores [.Subscript (.Name x px) i pt] e X.env = pure none := by rfl)
    (h1 : (assignEach [.Subscript (.Name x px) i pt] X.env).map (·.2) = [assign (.Subscript (.Name x px) i pt) X.env] := by rfl) :
    PS X (.Assign [.Subscript (.Name x px) i pt] e pos) (tS X.K H₀ gh ow ow owL (putS k fi fe)) := PS.imp (ps_asg he (pg_sub (pe_var hN hv hd hcd) hi set_list ha) hs hw h1) fun E σ H ⟨δ, fl, so, e, q⟩ => by
  unfold putS at e
  cases ee : fe δ with
  | none => rw [ee] at e; cases e
  | some d =>
    cases es : storeD k fi d δ with
    | none => simp [ee, es] at e
    | some δ' =>
      have e' : DF.nx δ' = fl := by simpa [ee, es] using e
      subst e'
      exact ⟨δ, d, so.rep, ee, fun v H1 S1 rv => store_step hk hgh (so.mono S1) rv es fun H' so' _ => q σ H' so'⟩
def swapF (k : Nat) (fi fj fa fb : DS → Option D) : DS → Option DF := fun δ => (fa δ).bind fun d1 => (fb δ).bind fun d2 => (storeD k fi d1 δ).bind fun δ1 => if noL d2 = true then (storeD k fj d2 δ1).map .nx else none
theorem s_swap (k : Nat) {x : Str} {px px' pt pt' tp : Pos} {i j : Expr} {k1 k2 : Nat} {vp : Pos} {fi fj : DS → Option D} (hc : X.calm = true) (hk : k ∈ ow) (hN : X.N[k]? = some x) (hv : Vis X.env.scope x) (hgh : ∀ p ∈ gh, noL p.2 = true) (hi : PE X i (tD X.K fi)) (hj : PE X j (tD X.K fj)) (he : PE X (.Tuple [a, b] k2 vp) (tD X.K (fun δ => (consD fa (consD fb fun _ => some []) δ).bind fun ds => if fit ds.length = true then some (.tup ds) else none)))
    (hd : (x == ("__debug__" : Str)) = false := by decide) (hcd : (x == ("__classdict__" : Str)) = false := by decide)
    (ha : ∀ v, assign (.Subscript (.Name x px) i pt) X.env v = (do
      let ov ← holding [v] (eval (.Name x px) X.env)
      let iv ← holding [v, ov] (eval i X.env)
      standAt pt
      holding [v, ov, iv] (setItem ov iv v)
      release [v, ov, iv] []) := by intro _; rfl)
    (ha' : ∀ v, assign (.Subscript (.Name x px') j pt') X.env v = (do
      let ov ← holding [v] (eval (.Name x px') X.env)
      let iv ← holding [v, ov] (eval j X.env)
      standAt pt'
      holding [v, ov, iv] (setItem ov iv v)
      release [v, ov, iv] []) := by intro _; rfl)
    (g1 : (assignEach [.Subscript (.Name x px) i pt, .Subscript (.Name x px') j pt'] X.env).map (·.2) = assign (.Subscript (.Name x px) i pt) X.env :: (assignEach [.Subscript (.Name x px') j pt'] X.env).map (·.2) := by rfl)
    (g2 : (assignEach [.Subscript (.Name x px') j pt'] X.env).map (·.2) = assign (.Subscript (.Name x px') j pt') X.env :: (assignEach [] X.env).map (·.2) := by rfl)
    (hn : (assignEach [.Subscript (.Name x px) i pt, .Subscript (.Name x px') j pt'] X.env).length = 2 := by rfl) (hst : (assignEach [.Subscript (.Name x px) i pt, .Subscript (.Name x px') j pt'] X.env).findIdx? (·.1) = none := by rfl)
    (hs : swapsWithSole [.Tuple [.Subscript (.Name x px) i pt, .Subscript (.Name x px') j pt'] k1 tp] (.Tuple [a, b] k2 vp) pos.line X.env = pure false := by rfl) (hw : swappedStores [.Tuple [.Subscript (.Name x px) i pt, .Subscript (.Name x px') j pt'] k1 tp] (.Tuple [a, b] k2 vp) X.env = pure none := by rfl)
    (h1 : (assignEach [.Tuple [.Subscript (.Name x px) i pt, .Subscript (.Name x px') j pt'] k1 tp] X.env).map (·.2) = [assign (.Tuple [.Subscript (.Name x px) i pt, .Subscript (.Name x px') j pt'] k1 tp) X.env] := by rfl) :
    PS X (.Assign [.Tuple [.Subscript (.Name x px) i pt, .Subscript (.Name x px') j pt'] k1 tp] (.Tuple [a, b] k2 vp) pos) (tS X.K H₀ gh ow ow owL (swapF k fi fj fa fb)) :=
  PS.imp (ps_asg he (pg_tup hc (pgs_cons (pg_sub (pe_var hN hv hd hcd) hi set_list ha) (pgs_cons (pg_sub (pe_var hN hv hd hcd) hj set_list ha') pgs_nil g2) g1) hn hst) hs hw h1) fun E σ H ⟨δ, fl, so, e, q⟩ => by
  unfold swapF at e
  cases e1 : fa δ with
  | none => rw [e1] at e; cases e
  | some d1 =>
    cases e2 : fb δ with
    | none => simp [e1, e2] at e
    | some d2 =>
      cases s1 : storeD k fi d1 δ with
      | none => simp [e1, e2, s1] at e
      | some δ1 =>
        have e' : (if noL d2 = true then (storeD k fj d2 δ1).map DF.nx else none) = some fl := by simpa [e1, e2, s1] using e
        by_cases hn2 : noL d2 = true
        · rw [if_pos hn2] at e'
          cases s2 : storeD k fj d2 δ1 with
          | none => rw [s2] at e'; cases e'
          | some δ2 =>
            rw [s2] at e'
            cases e'
            refine ⟨δ, .tup [d1, d2], so.rep, by simp [consD, e1, e2, fit], fun v H1 S1 rv => ?_⟩
            obtain ⟨t, us, rfl, ht, rs⟩ := rv.tup_of
            obtain ⟨v1, r1, rfl, q1, rs2⟩ := rs.cons_of
            obtain ⟨v2, r2, rfl, q2, rs3⟩ := rs2.cons_of
            cases rs3.nil_of
            refine ⟨t, [v1, v2], rfl, SqT.of ht, rfl, v1, [v2], rfl, store_step hk hgh (so.mono S1) q1 s1 fun H' so' hp => ⟨v2, [], rfl, store_step hk hgh so' (hp _ _ hn2 q2) s2 fun H'' so'' _ => ⟨rfl, q σ H'' so''⟩⟩⟩
        · rw [if_neg hn2] at e'; cases e'
def rInsert : V → List V → Hp → VK → Prop := fun x vs H Q => ∃ l xs i y, x = .ref l ∧ vs = [.int i, y] ∧ H l = some (.lst xs) ∧ xs.length < sizeLine ∧ 0 ≤ i ∧ i < 2 ^ 63 ∧ Q .non (upd H l (.lst (xs.take i.toNat ++ y :: xs.drop i.toNat)))
theorem mt_insert : MtM X "list.insert" rInsert := by
  intro pins s σ H x vs v us Q I rx rv h
  obtain ⟨l, xs, i, y, rfl, rfl, hH, hz, h0, h63, q⟩ := h
  cases rx
  cases rv with
  | cons r1 rr => cases rr with
    | cons r2 rn => cases rn with
      | nil =>
        obtain ⟨t, rfl⟩ := r1
        rename_i u
        obtain ⟨z, its, n, r, hl, e⟩ := I.lstM hH
        have hfit : Builtin.List.listFitsIndex i = true := by
          unfold Builtin.List.listFitsIndex
          rw [Bool.and_eq_true]
          exact ⟨decide_eq_true (by omega), decide_eq_true h63⟩
        refine call_meets F.slot_list_insert ⟨_, e, rfl⟩ F.entry_list_insert (F.args_list_insert_3 _ _ _) (PySem.AutoSeq1.list_insert_list_int_val_1 l _ n i t u (by simp [hfit]) (by rw [List.size_toArray]; omega)) ⟨e, ?_⟩
        refine ⟨.non, _, I.lset (its' := its.take i.toNat ++ u :: its.drop i.toNat) hH e ?_ ((r.take _).append (.cons r2 (r.drop _))) ?_, rfl, q⟩
        · have k1 : (if i < 0 then (i + ((its.toArray.size : Nat) : Int)).toNat else min i.toNat its.toArray.size) = min i.toNat its.length := by
            rw [if_neg (by omega), List.size_toArray]
          show (its.toArray.extract 0 (if i < 0 then (i + ((its.toArray.size : Nat) : Int)).toNat else min i.toNat its.toArray.size)).push u ++ its.toArray.extract (if i < 0 then (i + ((its.toArray.size : Nat) : Int)).toNat else min i.toNat its.toArray.size) = _
          rw [k1]
          have ht : its.take (min i.toNat its.length) = its.take i.toNat := by
            rcases Nat.le_total i.toNat its.length with q | q
            · rw [Nat.min_eq_left q]
            · rw [Nat.min_eq_right q, List.take_of_length_le (Nat.le_refl _), List.take_of_length_le q]
          have hd : its.drop (min i.toNat its.length) = its.drop i.toNat := by
            rcases Nat.le_total i.toNat its.length with q | q
            · rw [Nat.min_eq_left q]
            · rw [Nat.min_eq_right q, List.drop_of_length_le (Nat.le_refl _), List.drop_of_length_le q]
          rw [← ht, ← hd]
          apply Array.toList_inj.mp
          simp [List.extract_eq_take_drop]
          exact List.take_of_length_le (by rw [List.length_drop]; omega)
        · rw [List.length_append, List.length_cons, List.length_take, List.length_drop]; omega
def insF (k : Nat) (fi fe : DS → Option D) : DS → Option DF := fun δ => (fi δ).bind fun di => (fe δ).bind fun d => match (δ[k]?).join, di with
  | some (.lst ds), .int i => if (fit (ds.length + 1) = true ∧ 0 ≤ i ∧ i < 2 ^ 63) ∧ noLs ds = true ∧ noL d = true ∧ others k δ = true then some (.nx (δ.set k (some (.lst (ds.take i.toNat ++ d :: ds.drop i.toNat))))) else none
  | _, _ => none
theorem noLs_take : ∀ {ds : List D} (n : Nat), noLs ds = true → noLs (ds.take n) = true ∧ noLs (ds.drop n) = true
  | [], n, _ => by simp [noLs]
  | d :: ds, 0, h => ⟨rfl, h⟩
  | d :: ds, n + 1, h => by
    have n' : noL d = true ∧ noLs ds = true := by simpa [noLs] using h
    have := noLs_take n n'.2
    exact ⟨by simp [noLs, n'.1, this.1], this.2⟩
theorem s_insert (k : Nat) {x : Str} {px pa pc : Pos} {fi fe : DS → Option D} (hk : k ∈ ow) (hN : X.N[k]? = some x) (hv : Vis X.env.scope x) (hgh : ∀ p ∈ gh, noL p.2 = true) (hi : PE X a (tD X.K fi)) (he : PE X b (tD X.K fe))
    (hd : (x == ("__debug__" : Str)) = false := by decide) (hcd : (x == ("__classdict__" : Str)) = false := by decide)
    (hbase : attributeBase (.Name x px) "insert" X.env (eval (.Name x px) X.env) = eval (.Name x px) X.env := by rfl)
    (hfew : ((backTo pc (starEach [a, b] X.env)).all (fun x => !x.1) && (backToKw pc (keywordEach [] X.env)).all (fun x => x.1.isSome)
      && decide ([a, b].length + ([] : List Keyword).length + (if ([] : List Keyword).isEmpty then 0 else 1) < 30)) = true := by rfl)
    (hline : (pa.endLine == pc.line) = true := by rfl) (hs : starEach [a, b] X.env = (false, eval a X.env) :: starEach [b] X.env := by rfl) (hs2 : starEach [b] X.env = (false, eval b X.env) :: starEach [] X.env := by rfl) (hplain : (backTo pc (starEach [b] X.env)).any (·.1) = false := by rfl) (hsw : swapsWith (.Call (.Attribute (.Name x px) "insert" pa) [a, b] [] pc) none pos.line X.env = pure false := by rfl) :
    PS X (.Expr (.Call (.Attribute (.Name x px) "insert" pa) [a, b] [] pc) pos) (tS X.K H₀ gh ow ow owL (insF k fi fe)) :=
  PS.imp (ps_expr (pe_bm PySem.F.plainAttrs_list PySem.F.slot_list_insert PySem.F.type_list_insert mt_insert (pe_var hN hv hd hcd) (da_cons hi (da_cons he da_nil hs2) hs) hbase hfew hline hs hplain) hsw) fun E σ H ⟨δ, fl, so, e, q⟩ => by
    unfold insF at e
    cases ei : fi δ with
    | none => rw [ei] at e; cases e
    | some di =>
      cases ee : fe δ with
      | none => simp [ei, ee] at e
      | some d =>
        cases eo : (δ[k]?).join with
        | none => simp [ei, ee, eo] at e
        | some dk =>
          obtain ⟨v, h1, h2⟩ := so.rep.get eo
          cases dk with
          | lst ds =>
            cases di with
            | int i =>
              have e' : (if (fit (ds.length + 1) = true ∧ 0 ≤ i ∧ i < 2 ^ 63) ∧ noLs ds = true ∧ noL d = true ∧ others k δ = true then some (DF.nx (δ.set k (some (.lst (ds.take i.toNat ++ d :: ds.drop i.toNat))))) else none) = some fl := by simpa [ei, ee, eo] using e
              by_cases hc : (fit (ds.length + 1) = true ∧ 0 ≤ i ∧ i < 2 ^ 63) ∧ noLs ds = true ∧ noL d = true ∧ others k δ = true
              · rw [if_pos hc] at e'
                cases e'
                obtain ⟨l, us, rfl, hl, rs⟩ := h2.lst_of
                refine ⟨.ref l, h1, .inl ⟨rfl, us, SqL.of hl⟩, δ, [.int i, d], so.rep, by simp [consD, ei, ee], fun vs H' S rv => ?_⟩
                obtain ⟨w1, r1, rfl, rw1, rn1⟩ := rv.cons_of
                obtain ⟨w, r, rfl, rw', rn⟩ := rn1.cons_of
                cases rn.nil_of
                have hz := fit_le hc.1.1
                refine ⟨l, us, i, w, rfl, by rw [rw1.int_of], S _ _ hl, by rw [rs.length]; omega, hc.1.2.1, hc.1.2.2, ?_⟩
                have nt := noLs_take i.toNat hc.2.1
                exact q _ _ ((so.mono S).write hk h1 (S _ _ hl) hc.2.2.2 hgh (((rs.mono S).take _).append (reps_cons rw' ((rs.mono S).drop _))) (noLs_app nt.1 (by simp [noLs, hc.2.2.1, nt.2])))
              · rw [if_neg hc] at e'; cases e'
            | _ => simp [ei, ee, eo] at e
          | _ => simp [ei, ee, eo] at e
theorem s_drop (ow2 : List Nat) (s : ∀ i ∈ ow2, i ∈ ow') (h : PS X st (tS X.K H₀ gh ow ow' owL g)) : PS X st (tS X.K H₀ gh ow ow2 owL g) := PS.imp h fun E σ H ⟨δ, fl, so, e, q⟩ => ⟨δ, fl, so, e, by
  cases fl with
  | nx δ' => exact fun σ' H' so' => q σ' H' (so'.weak s)
  | rt d => exact q
  | bk d => exact q
  | ct d => exact q⟩
theorem r_drop {G : DS → (DF → Prop) → Prop} (ow2 : List Nat) (s : ∀ i ∈ ow2, i ∈ ow') (h : PS X st (tR X.K H₀ gh ow ow' owL G)) : PS X st (tR X.K H₀ gh ow ow2 owL G) := PS.imp h fun E σ H ⟨δ, Q, so, g1, z⟩ => ⟨δ, Q, so, g1, fun fl hf => by
  have := z fl hf
  cases fl with
  | nx δ' => exact fun σ' H' so' => this σ' H' (so'.weak s)
  | rt d => exact this
  | bk d => exact this
  | ct d => exact this⟩
end
section
variable {X : Cx} {H₀ : Hp} {gh : List (V × D)} {ow ow1 ow' owL : List Nat} {e : Expr} {es : List Expr} {pos p cp : Pos}
theorem r_call (i : Nat) {x y : Str} {pos' : Pos} {k : Nat} {R : List D → (D → Prop) → Prop} {fs : DS → Option (List D)} (hN : X.N.Nodup) (hi : X.N[i]? = some x) (hx : Loc X.env.scope x) (c : CaR X.prog X.w X.K X.mg X.base k y R) (hr : Room k X.A) (hg : Gl X y) (ha : PA X (e :: es) (tDA X.K fs))
    (hd : (y == ("__debug__" : Str)) = false := by decide) (he : starEach (e :: es) X.env = (false, eval e X.env) :: starEach es X.env := by rfl) (hpl : (backTo cp (starEach es X.env)).any (·.1) = false := by rfl)
    (hs : swapsWith (.Call (.Name y p) (e :: es) [] cp) (some (.Name x pos')) pos.line X.env = pure false := by rfl)
    (hf : X.fn x = true ∨ X.env.scope.names.lookup x = some .local := by first | exact .inl rfl | exact .inr rfl | assumption) :
    PS X (.Assign [.Name x pos'] (.Call (.Name y p) (e :: es) [] cp) pos) (tR X.K H₀ gh ow (ow.filter (· ≠ i)) owL (callG i fs R)) := r_set i hN hi hx (dR_call c hr hg ha hd he hpl) hs hf
end
theorem def_okR {P : Program} {w : World} {K : PySem.W.Frag} {mg : Str → Option Value} {base : Heap} {x qual : Str} {st : Stmt} {f : Addr} {fd : FuncData} {N ps : List Str} {k : Nat} {G : DS → (DF → Prop) → Prop} (F : Fun K x qual st f fd) (S : FnScope N ps (defScope st)) (hm : mg x = some (.ref f)) (hB : Binds K fd ps [])
    (hb : ∀ (cdv : Value) (A : Around) (outer : List Env) (s : Shared) (H : Hp) (E : XK), fd.code = cdv → Mod K mg base → Room k (A.deeper (envOfC qual (defScope st) s.heap.objs.size f cdv)) → ∃ ow', PSs (cxOf CX0 P w K mg base N qual (defScope st) f cdv A outer s H E).nox (defBody st) (tR K H [] [] ow' [] G)) :
    CaR P w K mg base (k + 1) x (runR ps.length N G) := ⟨f, fd, ps, hm, def_fnR F S hb, hB, F.kp⟩
end L2
set_option Elab.async false
set_option linter.all false
set_option maxRecDepth 100000
set_option maxHeartbeats 1000000
namespace L2
open PySem
theorem okMul_r {i j : Int} (h1 : -(2 ^ 64) < j) (h2 : j < 2 ^ 64) : okMul i j = true := by
  unfold okMul
  rw [decide_eq_true (Or.inr ⟨h1, h2⟩)]; rfl
theorem okMul_l {i j : Int} (h1 : -(2 ^ 64) < i) (h2 : i < 2 ^ 64) : okMul i j = true := by
  unfold okMul
  rw [decide_eq_true (Or.inl ⟨h1, h2⟩)]; rfl
def cellZ (ns : List Int) (k : Nat) : Int := ns.getD k 0
theorem atI_map {α β : Type} (f : α → β) (xs : List α) (i : Int) : atI (xs.map f) i = (atI xs i).map f := by
  unfold atI
  rw [List.length_map]
  cases ixN xs.length i with
  | none => rfl
  | some j => simp
def mixZ (c p m : Int) : Int := ((c * 48271).fmod p).fmod m
theorem compD_map {h : D → DS → Option DS} {fc : DS → Option Bool} {fe : DS → Option D} {ι : Type} (P : DS → Prop) (g r : ι → D) : ∀ (xs : List ι) (δ : DS), P δ →
    (∀ x ∈ xs, ∀ δ, P δ → ∃ δ1, h (g x) δ = some δ1 ∧ P δ1 ∧ fc δ1 = some true ∧ fe δ1 = some (r x)) → compD h fc fe δ (xs.map g) = some (xs.map r)
  | [], _, _, _ => rfl
  | x :: xs, δ, hP, hs => by
    obtain ⟨δ1, e1, p1, e2, e3⟩ := hs x List.mem_cons_self δ hP
    rw [List.map_cons, List.map_cons]
    unfold compD
    rw [e1, Option.bind_some, e2, Option.bind_some, if_pos rfl, e3, Option.bind_some, compD_map P g r xs δ1 p1 fun y hy => hs y (List.mem_cons_of_mem _ hy)]
    rfl
theorem zipD_map {α β : Type} (f : α → D) (g : β → D) : ∀ (xs : List α) (ys : List β), zipD (xs.map f) (ys.map g) = (xs.zip ys).map fun p => D.tup [f p.1, g p.2]
  | [], _ => by simp [zipD]
  | _ :: _, [] => by simp [zipD]
  | x :: xs, y :: ys => by simp [zipD, zipD_map f g xs ys]
theorem rangeD_map (n : Nat) : rangeD 0 n = (List.range n).map fun (k : Nat) => D.int (k : Int) := by
  unfold rangeD
  apply List.map_congr_left
  intro k _
  rw [Int.zero_add]
theorem fit_of {n : Nat} (h : n ≤ 1000) : fit n = true := decide_eq_true h
def rowD (r : List Int) : D := .tup (r.map D.int)
theorem zipWith_zip {α β γ : Type} (f : α → β → γ) (xs : List α) (ys : List β) : List.zipWith f xs ys = (xs.zip ys).map fun p => f p.1 p.2 := by
  rw [List.zip, List.map_zipWith]
theorem runD_rt {n : Nat} {N : List Str} {g : DS → Option DF} {ds : List D} {d : D} (hl : ds.length = n) (h : g (ds.map some ++ List.replicate (N.length - ds.length) none) = some (.rt d)) : runD n N g ds = some d := by
  unfold runD
  rw [if_pos hl, h]; rfl
theorem seqF_nx {g g' : DS → Option DF} {δ δ' : DS} (h : g δ = some (.nx δ')) : seqF g g' δ = g' δ' := by
  unfold seqF
  rw [h]; rfl
theorem forF_nx {fi : DS → Option (List D)} {h : D → DS → Option DS} {gb : DS → Option DF} {δ : DS} {ds : List D} {fl : DF} (h1 : fi δ = some ds) (h2 : forD h gb ds δ = some fl) : forF fi h gb δ = some fl := by
  unfold forF
  rw [h1]; exact h2
theorem ifF_t {t : DS → Option Bool} {g g' : DS → Option DF} {δ : DS} (h : t δ = some true) : ifF t g g' δ = g δ := by
  unfold ifF
  rw [h]; rfl
theorem ifF_f {t : DS → Option Bool} {g g' : DS → Option DF} {δ : DS} (h : t δ = some false) : ifF t g g' δ = g' δ := by
  unfold ifF
  rw [h]; rfl
theorem retF_rt {f : DS → Option D} {δ : DS} {d : D} (h : f δ = some d) : retF f δ = some (.rt d) := by
  unfold retF
  rw [h]; rfl
theorem setF_nx {i : Nat} {f : DS → Option D} {δ : DS} {d : D} (h : f δ = some d) : setF i f δ = some (.nx (δ.set i (some d))) := by
  unfold setF
  rw [h]; rfl
theorem mixZ_b (c p m : Int) (hm : 0 < m) : 0 ≤ mixZ c p m ∧ mixZ c p m < m := ⟨Int.fmod_nonneg_of_pos _ hm, Int.fmod_lt_of_pos _ hm⟩
theorem noLs_ints : ∀ (r : List Int), noLs (r.map D.int) = true
  | [] => rfl
  | x :: r => by simp [noLs, noL, noLs_ints r]
theorem noL_row (r : List Int) : noL (rowD r) = true := by simp [rowD, noL, noLs_ints]
theorem noLs_rows : ∀ (rs : List (List Int)), noLs (rs.map rowD) = true
  | [] => rfl
  | r :: rs => by simp [noLs, noL_row, noLs_rows rs]
theorem addD_lst {xs ys : List D} (h : xs.length + ys.length ≤ 1000) : addD (.lst xs) (.lst ys) = some (.lst (xs ++ ys)) := by
  show (if fit (xs.length + ys.length) = true then some (D.lst (xs ++ ys)) else none) = _
  rw [if_pos (fit_of h)]
theorem fdivD_int {i j : Int} (h : j ≠ 0) : fdivD (.int i) (.int j) = some (.int (i.fdiv j)) := by
  simp only [fdivD, h, ne_eq, not_false_eq_true, if_true]
theorem mulD_int {i j : Int} (h : okMul i j = true) : mulD (.int i) (.int j) = some (.int (i * j)) := by
  show (if okMul i j = true then some (D.int (i * j)) else none) = _
  rw [if_pos h]
theorem bind2_eq {f g : DS → Option D} {op : D → D → Option D} {δ : DS} {x y : D} (h1 : f δ = some x) (h2 : g δ = some y) : bind2 f g op δ = op x y := by
  unfold bind2
  rw [h1, h2]; rfl
theorem callF_eq {fs : DS → Option (List D)} {F : List D → Option D} {δ : DS} {ds : List D} (h : fs δ = some ds) : callF fs F δ = F ds := by
  unfold callF
  rw [h]; rfl
theorem consD_eq {f : DS → Option D} {fs : DS → Option (List D)} {δ : DS} {x : D} {xs : List D} (h1 : f δ = some x) (h2 : fs δ = some xs) : consD f fs δ = some (x :: xs) := by
  unfold consD
  rw [h1, h2]; rfl
theorem bT_eq {f : DS → Option D} {δ : DS} {b : Bool} (h : f δ = some (.bl b)) : bT f δ = some b := by
  unfold bT
  rw [h]; rfl
theorem orT_ff {t u : DS → Option Bool} {δ : DS} {b : Bool} (h1 : t δ = some false) (h2 : u δ = some b) : orT t u δ = some b := by
  unfold orT
  rw [h1]; exact h2
theorem andT_t {t u : DS → Option Bool} {δ : DS} {b : Bool} (h1 : t δ = some true) (h2 : u δ = some b) : andT t u δ = some b := by
  unfold andT
  rw [h1]; exact h2
theorem lstF_eq {f : DS → Option (List D)} {δ : DS} {ds : List D} (h : f δ = some ds) : lstF f δ = some (.lst ds) := by
  unfold lstF
  rw [h]; rfl
theorem log2_of {n k : Nat} (h : n ≤ 2 ^ k) : n.log2 ≤ k := by
  rcases Nat.eq_zero_or_pos n with z | z
  · subst z; simp
  · have : n.log2 < k + 1 := (Nat.log2_lt (Nat.ne_of_gt z)).mpr (Nat.lt_of_le_of_lt h (Nat.pow_lt_pow_right (by decide) (Nat.lt_succ_self k)))
    omega
theorem okM_of {i : Int} {k : Nat} (h : i.natAbs ≤ 2 ^ k) (hk : k < 60000000) : okM i = true := decide_eq_true (Nat.lt_of_le_of_lt (log2_of h) hk)
theorem okMul_of {i j : Int} {k : Nat} (h : i.natAbs ≤ 2 ^ k) (h' : j.natAbs ≤ 2 ^ k) (hk : k < 60000000) : okMul i j = true := by
  unfold okMul
  rw [okM_of h hk, okM_of h' hk]
  simp
theorem atI_row {r : List Int} {p : Nat} (h : p < r.length) : atI (r.map D.int) (p : Int) = some (.int (La.at' r p)) := by
  rw [atI_nat (v := D.int (La.at' r p))]
  simp [La.at', List.getD, List.getElem?_eq_getElem h]
theorem ixD_row {r : List Int} {p : Nat} (h : p < r.length) : ixD (rowD r) (.int (p : Int)) = some (.int (La.at' r p)) := atI_row h
theorem at_mem {r : List Int} {a : Int} (h : a ∈ r) : ∃ j, La.at' r j = a := by
  obtain ⟨j, hj, e⟩ := List.mem_iff_getElem.mp h
  exact ⟨j, by simp [La.at', List.getD, List.getElem?_eq_getElem hj, e]⟩
theorem seqG_of {g : DS → Option DF} {G' : DS → (DF → Prop) → Prop} {δ δ' : DS} {Q : DF → Prop} (h : g δ = some (.nx δ')) (h' : G' δ' Q) : seqG (ofG g) G' δ Q := ⟨(· = .nx δ'), ⟨_, h, rfl⟩, fun fl e => by subst e; exact h'⟩
theorem ofG_mk {g : DS → Option DF} {δ : DS} {fl : DF} {Q : DF → Prop} (h : g δ = some fl) (h' : Q fl) : ofG g δ Q := ⟨fl, h, h'⟩
theorem seqG_mk {G G' : DS → (DF → Prop) → Prop} {δ : DS} {Q : DF → Prop} (Q1 : DS → Prop) (h : G δ fun fl => ∃ δ', fl = .nx δ' ∧ Q1 δ') (h' : ∀ δ', Q1 δ' → G' δ' Q) : seqG G G' δ Q := ⟨_, h, fun fl ⟨δ', e, q⟩ => by subst e; exact h' δ' q⟩
theorem setL_nx {i : Nat} {f : DS → Option (List D)} {δ : DS} {ds : List D} (h : f δ = some ds) : setL i f δ = some (.nx (δ.set i (some (.lst ds)))) := by
  unfold setL
  rw [h]; rfl
theorem compD_filter {h : D → DS → Option DS} {fc : DS → Option Bool} {fe : DS → Option D} {ι : Type} (P : DS → Prop) (g : ι → D) (c : ι → Bool) (r : ι → D) : ∀ (xs : List ι) (δ : DS), P δ →
    (∀ x ∈ xs, ∀ δ, P δ → ∃ δ1, h (g x) δ = some δ1 ∧ P δ1 ∧ fc δ1 = some (c x) ∧ (c x = true → fe δ1 = some (r x))) → compD h fc fe δ (xs.map g) = some ((xs.filter c).map r)
  | [], _, _, _ => rfl
  | x :: xs, δ, hP, hs => by
    obtain ⟨δ1, e1, p1, e2, e3⟩ := hs x List.mem_cons_self δ hP
    have ih := compD_filter P g c r xs δ1 p1 fun y hy => hs y (List.mem_cons_of_mem _ hy)
    rw [List.map_cons]
    unfold compD
    rw [e1, Option.bind_some, e2, Option.bind_some]
    cases hc : c x with
    | true =>
      rw [if_pos rfl, e3 hc, Option.bind_some, ih, List.filter_cons_of_pos hc]; rfl
    | false =>
      rw [if_neg (by decide), ih, List.filter_cons_of_neg (by simp [hc])]
def lotD (rows : List (List Int)) : D := .tup (rows.map rowD)
def PlOk (rows : List (List Int)) (w : Nat) : Prop := (∀ r ∈ rows, r.length = w) ∧ rows.length ≤ 60 ∧ w ≤ 1000 ∧
  ((∃ b, La.Bd b rows ∧ La.ss b (min w rows.length) + La.bb b (min w rows.length) < 59000000) ∨ La.IsPl w rows rows)
open Classical in
noncomputable def F_plain : List D → Option D := fun ds => if h : ∃ (rows : List (List Int)) (w : Nat) (P : List (List Int)), ds = [lotD rows, .int (w : Int)] ∧ PlOk rows w ∧ La.IsPl w rows P then some (lotD (Classical.choose (Classical.choose_spec (Classical.choose_spec h)))) else none
theorem rowD_inj {r s : List Int} (h : rowD r = rowD s) : r = s := by
  unfold rowD at h
  injection h with h
  have : ∀ (r s : List Int), r.map D.int = s.map D.int → r = s := by
    intro r
    induction r with
    | nil => intro s h; cases s with
      | nil => rfl
      | cons => simp at h
    | cons a r ih => intro s h; cases s with
      | nil => simp at h
      | cons b s =>
        simp only [List.map_cons, List.cons.injEq] at h
        rw [ih s h.2]
        have := h.1
        injection this with e
        rw [e]
  exact this r s h
theorem rows_inj : ∀ {P Q : List (List Int)}, P.map rowD = Q.map rowD → P = Q
  | [], [], _ => rfl
  | p :: P, q :: Q, h => by
    simp only [List.map_cons, List.cons.injEq] at h
    rw [rowD_inj h.1, rows_inj h.2]
  | [], _ :: _, h => by simp at h
  | _ :: _, [], h => by simp at h
theorem lotD_inj {P Q : List (List Int)} (h : lotD P = lotD Q) : P = Q := by
  unfold lotD at h
  injection h with h
  exact rows_inj h
theorem F_plain_eq {rows P : List (List Int)} {w : Nat} (h : PlOk rows w) (hp : La.IsPl w rows P) : F_plain [lotD rows, .int (w : Int)] = some (lotD P) := by
  have ex : ∃ (rows' : List (List Int)) (w' : Nat) (P' : List (List Int)), [lotD rows, D.int (w : Int)] = [lotD rows', .int (w' : Int)] ∧ PlOk rows' w' ∧ La.IsPl w' rows' P' := ⟨rows, w, P, rfl, h, hp⟩
  unfold F_plain
  rw [dif_pos ex]
  have sp := Classical.choose_spec (Classical.choose_spec (Classical.choose_spec ex))
  generalize Classical.choose (Classical.choose_spec (Classical.choose_spec ex)) = P' at sp
  generalize Classical.choose (Classical.choose_spec ex) = w' at sp
  generalize Classical.choose ex = rows' at sp
  obtain ⟨e, _, hp'⟩ := sp
  simp only [List.cons.injEq, and_true] at e
  obtain ⟨e1, e2⟩ := e
  have hr := lotD_inj e1
  subst hr
  have hw : w = w' := by injection e2 with e2; omega
  subst hw
  rw [hp.uniq hp' (La.Eqv.refl _)]
theorem F_plain_some {ds : List D} {d : D} (h : F_plain ds = some d) : ∃ (rows : List (List Int)) (w : Nat) (P : List (List Int)), ds = [lotD rows, .int (w : Int)] ∧ PlOk rows w ∧ La.IsPl w rows P ∧ d = lotD P := by
  unfold F_plain at h
  split at h
  · rename_i ex
    have sp := Classical.choose_spec (Classical.choose_spec (Classical.choose_spec ex))
    exact ⟨_, _, _, sp.1, sp.2.1, sp.2.2, (Option.some.inj h).symm⟩
  · cases h
end L2
set_option Elab.async false
set_option linter.all false
set_option maxRecDepth 100000
set_option maxHeartbeats 1000000
namespace L2
open PySem PySem.Spec PyProof.Rows
variable {X : Cx} {a b e : Expr} {pos : Pos} {fa fb : DS → Option D} {H₀ : Hp} {gh : List (V × D)} {ow ow' owL : List Nat}
end L2
set_option Elab.async false
set_option linter.all false
set_option maxRecDepth 100000
namespace L2
open PySem PySem.Spec PyProof.Rows
def side (n : Nat) : D → Bool
  | .lst es => noLs es && decide (es.length ≠ n)
  | d => noL d
def sidesFrom (i n : Nat) : Nat → DS → Bool
  | _, [] => true
  | k, o :: r => (decide (k = i) || (match o with | some d => side n d | none => true)) && sidesFrom i n (k + 1) r
def sides (i n : Nat) (δ : DS) : Bool := sidesFrom i n 0 δ
theorem sidesFrom_get {i n : Nat} : ∀ {k : Nat} {δ : DS}, sidesFrom i n k δ = true → ∀ (j : Nat) (d : D), δ[j]? = some (some d) → k + j ≠ i → side n d = true
  | _, [], _, j, d, e, _ => by simp at e
  | k, o :: r, h, 0, d, e, ne => by
    simp at e; subst e
    unfold sidesFrom at h
    have h1 := (Bool.and_eq_true_iff.mp h).1
    rcases Bool.or_eq_true_iff.mp h1 with z | z
    · exact absurd (of_decide_eq_true z) ne
    · exact z
  | k, o :: r, h, j + 1, d, e, ne => by
    unfold sidesFrom at h
    exact sidesFrom_get (Bool.and_eq_true_iff.mp h).2 j d (by simpa using e) (by omega)
theorem Rep.upd2 {K : PySem.W.Frag} {H : Hp} {l : Addr} {xs : List V} {o : HO} (hl : H l = some (.lst xs)) {d : D} {v : V} (h : side xs.length d = true) (r : Rep K H d v) : Rep K (L2.upd H l o) d v := by
  cases d with
  | lst es =>
    have h' : noLs es = true ∧ es.length ≠ xs.length := by simpa [side] using h
    obtain ⟨b, us, e, q, rs⟩ := r.lst_of
    subst e
    have hb : b ≠ l := fun e => by
      subst e
      rw [hl] at q
      cases q
      exact h'.2 rs.length.symm
    exact rep_lst (by rw [upd_ne hb]; exact q) (Reps.upd hl h'.1 rs)
  | _ => exact Rep.upd hl h r
section
variable {X : Cx} {H₀ : Hp} {gh : List (V × D)} {ow ow1 ow' owL : List Nat} {a b e : Expr} {es : List Expr} {pos p : Pos} {fa fb : DS → Option D} {st : Stmt} {sts : List Stmt} {g g' : DS → Option DF}
theorem SOk.write2 {K : PySem.W.Frag} {H : Hp} {σ : St} {δ : DS} {i : Nat} {l : Addr} {xs ys : List V} {ds' : List D} (so : SOk K H₀ gh ow H σ δ) (hi : i ∈ ow) (hσ : σ[i]? = some (some (.ref l))) (hl : H l = some (.lst xs)) (ho : sides i xs.length δ = true) (hgh : ∀ p ∈ gh, noL p.2 = true)
    (rs : Reps K H ds' ys) (nl : noLs ds' = true) : SOk K H₀ gh ow (upd H l (.lst ys)) σ (δ.set i (some (.lst ds'))) := by
  have h0 := so.own i hi l hσ
  refine ⟨fun b o e => ?_, ⟨by rw [List.length_set]; exact so.rep.1, fun x hx c P e => (by have z := so.rep.2.1 x hx c P e; rw [upd_ne (ne_of z hl (by intro q; cases q))]; exact z), fun j d e => ?_⟩, fun p hp => Rep.upd hl (hgh p hp) (so.gr p hp), so.own⟩
  · rw [upd_ne (ne_of_none e h0)]; exact so.same b o e
  · by_cases hj : j = i
    · subst hj
      rw [List.getElem?_set_self'] at e
      cases q : δ[j]? with
      | none => rw [q] at e; cases e
      | some o => rw [q] at e; cases e; exact ⟨.ref l, hσ, rep_lst upd_same (Reps.upd hl nl rs)⟩
    · rw [List.getElem?_set_ne (Ne.symm hj)] at e
      obtain ⟨v, h1, h2⟩ := so.rep.2.2 j d e
      exact ⟨v, h1, Rep.upd2 hl (sidesFrom_get ho j d e (by omega)) h2⟩
def appF2 (i : Nat) (fa : DS → Option D) : DS → Option DF := fun δ => (fa δ).bind fun d => match (δ[i]?).join with
  | some (.lst ds) => if fit (ds.length + 1) = true ∧ noLs ds = true ∧ noL d = true ∧ sides i ds.length δ = true then some (.nx (δ.set i (some (.lst (ds ++ [d]))))) else none
  | _ => none
theorem s_append2 (i : Nat) {x : Str} {px pa pc : Pos} (hi : i ∈ ow) (hN : X.N[i]? = some x) (hv : Vis X.env.scope x) (hgh : ∀ p ∈ gh, noL p.2 = true) (ha : PE X a (tD X.K fa))
    (hd : (x == ("__debug__" : Str)) = false := by decide) (hcd : (x == ("__classdict__" : Str)) = false := by decide)
    (hbase : attributeBase (.Name x px) "append" X.env (eval (.Name x px) X.env) = eval (.Name x px) X.env := by rfl)
    (hfew : ((backTo pc (starEach [a] X.env)).all (fun x => !x.1) && (backToKw pc (keywordEach [] X.env)).all (fun x => x.1.isSome)
      && decide ([a].length + ([] : List Keyword).length + (if ([] : List Keyword).isEmpty then 0 else 1) < 30)) = true := by rfl)
    (hline : (pa.endLine == pc.line) = true := by rfl) (hs : starEach [a] X.env = (false, eval a X.env) :: starEach [] X.env := by rfl) (hplain : (backTo pc (starEach [] X.env)).any (·.1) = false := by rfl) (hsw : swapsWith (.Call (.Attribute (.Name x px) "append" pa) [a] [] pc) none pos.line X.env = pure false := by rfl) :
    PS X (.Expr (.Call (.Attribute (.Name x px) "append" pa) [a] [] pc) pos) (tS X.K H₀ gh ow ow owL (appF2 i fa)) :=
  PS.imp (ps_expr (pe_bm PySem.F.plainAttrs_list PySem.F.slot_list_append PySem.F.type_list_append mt_append (pe_var hN hv hd hcd) (da_cons ha da_nil hs) hbase hfew hline hs hplain) hsw) fun E σ H ⟨δ, fl, so, e, q⟩ => by
    unfold appF2 at e
    cases ea : fa δ with
    | none => rw [ea] at e; cases e
    | some d =>
      rw [ea] at e
      cases eo : (δ[i]?).join with
      | none => simp [eo] at e
      | some di =>
        obtain ⟨v, h1, h2⟩ := so.rep.get eo
        cases di with
        | lst ds =>
          have e' : (if fit (ds.length + 1) = true ∧ noLs ds = true ∧ noL d = true ∧ sides i ds.length δ = true then some (DF.nx (δ.set i (some (.lst (ds ++ [d]))))) else none) = some fl := by simpa [eo] using e
          by_cases hc : fit (ds.length + 1) = true ∧ noLs ds = true ∧ noL d = true ∧ sides i ds.length δ = true
          · rw [if_pos hc] at e'
            cases e'
            obtain ⟨l, us, rfl, hl, rs⟩ := h2.lst_of
            refine ⟨.ref l, h1, .inl ⟨rfl, us, SqL.of hl⟩, δ, [d], so.rep, by simp [consD, ea], fun vs H' S rv => ?_⟩
            obtain ⟨w, r, rfl, rw', rn⟩ := rv.cons_of
            cases rn.nil_of
            have hz := fit_le hc.1
            refine ⟨l, us, w, rfl, rfl, S _ _ hl, by rw [rs.length]; omega, ?_⟩
            exact q _ _ ((so.mono S).write2 hi h1 (S _ _ hl) (by rw [rs.length]; exact hc.2.2.2) hgh ((rs.mono S).append (reps_cons rw' reps_nil)) (noLs_app hc.2.1 (by simp [noLs, hc.2.2.1])))
          · rw [if_neg hc] at e'; cases e'
        | _ => simp [eo] at e
end
end L2
set_option Elab.async false
set_option linter.all false
set_option maxRecDepth 100000
namespace L2
open PySem PySem.Spec PyProof.Rows
end L2
set_option Elab.async false
set_option linter.all false
set_option maxRecDepth 100000
set_option maxHeartbeats 1000000
namespace L2
open PySem PySem.Spec PyProof.Rows
structure CompSc1 (X : Cx) (scope : Scope) (N' : List Str) (inn : List (Option Nat)) (z : Str) : Prop where
  kind : scope.kind = .function
  cell1 : ∀ y ∈ scope.names, y.2 = .cell → y.1 = z
  zc : scope.names.lookup z = some .cell
  lay : ∀ (n : Nat) (acc : List (Str × Addr)), cellsFrom n scope.names acc = (z, n) :: acc
  psh : ∀ h : Heap, pushCells h scope.names = h.push { cls := .type "cell", data := .cell none }
  locs : ∀ y ∈ scope.names, y.2 = .local → scope.names.lookup y.1 = some .local
  frees : ∀ y, (y, NameKind.free) ∈ scope.names → scope.names.lookup y = some .free ∧ (X.env.kindOf y = some .cell ∨ X.env.kindOf y = some .free)
  nd : N'.Nodup
  len : inn.length = N'.length
  inn : ∀ (i j : Nat), inn[i]? = some (some j) → ∃ y, N'[i]? = some y ∧ X.N[j]? = some y ∧ (y, NameKind.free) ∈ scope.names
section
variable {X : Cx} {pins : List (Addr × Obj)} {σ : St} {H : Hp} {s : Shared}
end
section
variable {X : Cx} {tg iter elt : Expr} {ifs : List Expr} {scope : Scope} {pos : Pos} {N' : List Str} {inn : List (Option Nat)} {fi : DS → Option (List D)} {h : D → DS → Option DS} {fc : DS → Option Bool} {fe : DS → Option D} {ks : List Nat}
end
end L2
set_option Elab.async false
set_option linter.all false
set_option maxRecDepth 100000
namespace L2
open PySem PySem.Spec PyProof.Rows
section
variable {X : Cx} {a b : Expr} {pos : Pos} {fa fb : DS → Option D}
def isnV : V → V → Option Bool
  | .int _, .non => some true
  | .non, .non => some false
  | _, _ => none
theorem op_isnN : OpR X (compareOp .IsNot) (fun x y H Q => ∃ k, isnV x y = some k ∧ Q (.bl k) H) := by
  intro pins s σ H x y v u Q I rx ry h
  obtain ⟨k, hk, q⟩ := h
  unfold isnV at hk
  split at hk
  · obtain ⟨t, rfl⟩ := rx
    cases ry; cases hk
    exact wpAny_isNot_plain rfl ⟨.bl true, H, I, rfl, q⟩
  · cases rx; cases ry; cases hk
    exact wpAny_isNot_plain rfl ⟨.bl false, H, I, rfl, q⟩
  · cases hk
def isnD : D → D → Option D
  | .int _, .non => some (.bl true)
  | .non, .non => some (.bl false)
  | _, _ => none
theorem told_isn : Told2 X.K (fun x y H Q => ∃ k, isnV x y = some k ∧ Q (.bl k) H) isnD := fun H x y d vx vy Q rx ry e q => by
  unfold isnD at e
  split at e
  · cases e; cases rx.int_of; cases ry.non_of; exact ⟨true, rfl, q _ H (Same.refl H) rep_bl⟩
  · cases e; cases rx.non_of; cases ry.non_of; exact ⟨false, rfl, q _ H (Same.refl H) rep_bl⟩
  · cases e
theorem t_isn (ha : PE X a (tD X.K fa)) (hb : PE X b (tD X.K fb)) : PT X (.Compare a [.IsNot] [b] pos) (tT X.K fun δ => asB (bind2 fa fb isnD δ)) := t_cmp op_isnN told_isn ha hb (nomark _)
end
end L2
set_option Elab.async false
set_option linter.all false
set_option maxRecDepth 100000
set_option maxHeartbeats 1000000
namespace L2
open PySem PySem.Spec PyProof.Rows
def sideX : D → Bool
  | .lst es => noLs es
  | d => noL d
def othersXFrom (r m : Nat) : Nat → DS → Bool
  | _, [] => true
  | k, o :: t => (decide (k = m) || (match o with | some d => if k = r then sideX d else noL d | none => true)) && othersXFrom r m (k + 1) t
def othersX (r m : Nat) (δ : DS) : Bool := othersXFrom r m 0 δ
theorem othersXFrom_get {r m : Nat} : ∀ {k : Nat} {δ : DS}, othersXFrom r m k δ = true → ∀ (j : Nat) (d : D), δ[j]? = some (some d) → k + j ≠ m → (if k + j = r then sideX d else noL d) = true
  | _, [], _, j, d, e, _ => by simp at e
  | k, o :: t, h, 0, d, e, ne => by
    simp at e; subst e
    unfold othersXFrom at h
    have h1 := (Bool.and_eq_true_iff.mp h).1
    rcases Bool.or_eq_true_iff.mp h1 with z | z
    · exact absurd (of_decide_eq_true z) ne
    · exact z
  | k, o :: t, h, j + 1, d, e, ne => by
    unfold othersXFrom at h
    have := othersXFrom_get (Bool.and_eq_true_iff.mp h).2 j d (by simpa using e) (by omega)
    rw [show k + (j + 1) = k + 1 + j by omega]; exact this
theorem Rep.updX {K : PySem.W.Frag} {H : Hp} {l a : Addr} {xs : List V} {o : HO} (hl : H l = some (.lst xs)) (ha : a ≠ l) {d : D} (h : sideX d = true) (r : Rep K H d (.ref a)) : Rep K (L2.upd H l o) d (.ref a) := by
  cases d with
  | lst es =>
    obtain ⟨b, us, e, q, rs⟩ := r.lst_of
    injection e with e
    subst e
    exact rep_lst (by rw [upd_ne ha]; exact q) (Reps.upd hl h rs)
  | _ => exact Rep.upd hl h r
section
variable {X : Cx} {H₀ : Hp} {gh : List (V × D)} {ow ow' owL : List Nat}
theorem SOk.writeX {K : PySem.W.Frag} {H : Hp} {σ : St} {δ : DS} {i r : Nat} {l a : Addr} {xs ys : List V} {ds' : List D} (so : SOk K H₀ gh ow H σ δ) (hi : i ∈ ow) (hσ : σ[i]? = some (some (.ref l))) (hl : H l = some (.lst xs)) (hr : σ[r]? = some (some (.ref a))) (hal : a ≠ l) (ho : othersX r i δ = true) (hgh : ∀ p ∈ gh, noL p.2 = true)
    (rs : Reps K H ds' ys) (nl : noLs ds' = true) : SOk K H₀ gh ow (upd H l (.lst ys)) σ (δ.set i (some (.lst ds'))) := by
  have h0 := so.own i hi l hσ
  refine ⟨fun b o e => ?_, ⟨by rw [List.length_set]; exact so.rep.1, fun x hx c P e => (by have z := so.rep.2.1 x hx c P e; rw [upd_ne (ne_of z hl (by intro q; cases q))]; exact z), fun j d e => ?_⟩, fun p hp => Rep.upd hl (hgh p hp) (so.gr p hp), so.own⟩
  · rw [upd_ne (ne_of_none e h0)]; exact so.same b o e
  · by_cases hj : j = i
    · subst hj
      rw [List.getElem?_set_self'] at e
      cases q : δ[j]? with
      | none => rw [q] at e; cases e
      | some o => rw [q] at e; cases e; exact ⟨.ref l, hσ, rep_lst upd_same (Reps.upd hl nl rs)⟩
    · rw [List.getElem?_set_ne (Ne.symm hj)] at e
      obtain ⟨v, h1, h2⟩ := so.rep.2.2 j d e
      have hd := othersXFrom_get ho j d e (by omega)
      refine ⟨v, h1, ?_⟩
      by_cases hjr : 0 + j = r
      · rw [if_pos hjr] at hd
        have hv : v = .ref a := by
          have : j = r := by omega
          rw [this, hr] at h1
          exact (Option.some.inj (Option.some.inj h1)).symm
        subst hv
        exact Rep.updX hl hal hd h2
      · rw [if_neg hjr] at hd
        exact Rep.upd hl hd h2
def extD (r m yi : Nat) (fe : DS → Option D) : List D → DS → Option DS
  | [], δ => some δ
  | d :: ds, δ => (fe (δ.set yi (some d))).bind fun x => match x, ((δ.set yi (some d))[m]?).join with
    | .lst xs, some (.lst es) => if fit (es.length + xs.length) = true ∧ noLs es = true ∧ noLs xs = true ∧ othersX r m (δ.set yi (some d)) = true then extD r m yi fe ds ((δ.set yi (some d)).set m (some (.lst (es ++ xs)))) else none
    | _, _ => none
def extF (r m yi : Nat) (fe : DS → Option D) : DS → Option DF := fun δ => match (δ[r]?).join, (δ[m]?).join with
  | some (.lst ds), some (.lst es) => if es.length ≠ ds.length ∧ noLs ds = true then (extD r m yi fe ds δ).map .nx else none
  | _, _ => none
theorem s_extloop (r m yi : Nat) {zr zm y : Str} {py pr px pa pc pe pos : Pos} {ex : Expr} {fe : DS → Option D} (hp : PassesOwn (model X.prog X.w) X.A X.env X.xe) (hc : X.calm = true) (hN : X.N.Nodup) (hr : X.N[r]? = some zr) (hm : X.N[m]? = some zm) (hy : X.N[yi]? = some y)
    (hvr : Vis X.env.scope zr) (hvm : Vis X.env.scope zm) (hly : Loc X.env.scope y) (hmo : m ∈ ow) (hyo : yi ∉ ow) (hym : m ≠ yi) (hyr : r ≠ yi) (hgh : ∀ p ∈ gh, noL p.2 = true) (hx : PE X ex (tD X.K fe))
    (hd1 : (zr == ("__debug__" : Str)) = false := by decide) (hcd1 : (zr == ("__classdict__" : Str)) = false := by decide) (hd2 : (zm == ("__debug__" : Str)) = false := by decide) (hcd2 : (zm == ("__classdict__" : Str)) = false := by decide)
    (hf : X.fn y = true ∨ X.env.scope.names.lookup y = some .local := by first | exact .inl rfl | exact .inr rfl | assumption)
    (hbase : attributeBase (.Name zm px) "extend" X.env (eval (.Name zm px) X.env) = eval (.Name zm px) X.env := by rfl)
    (hfew : ((backTo pc (starEach [ex] X.env)).all (fun x => !x.1) && (backToKw pc (keywordEach [] X.env)).all (fun x => x.1.isSome)
      && decide ([ex].length + ([] : List Keyword).length + (if ([] : List Keyword).isEmpty then 0 else 1) < 30)) = true := by rfl)
    (hline : (pa.endLine == pc.line) = true := by rfl) (hs : starEach [ex] X.env = (false, eval ex X.env) :: starEach [] X.env := by rfl) (hplain : (backTo pc (starEach [] X.env)).any (·.1) = false := by rfl)
    (hsw : swapsWith (.Call (.Attribute (.Name zm px) "extend" pa) [ex] [] pc) none pe.line X.env = pure false := by rfl)
    (hs0 : ∀ x, foldedSetIterable (.Name zr pr) X.env x = pure x := by intro _; rfl) :
    PS X (.For (.Name y py) (.Name zr pr) [.Expr (.Call (.Attribute (.Name zm px) "extend" pa) [ex] [] pc) pe] [] pos) (tS X.K H₀ gh ow ow owL (extF r m yi fe)) := by
  intro pins s σ H E I ⟨δ, fl, so, e, q⟩
  unfold extF at e
  split at e
  · rename_i ds es er em
    split at e
    · rename_i hcnd
      obtain ⟨va, ha1, ha2⟩ := so.rep.get er
      obtain ⟨a, xsV, rfl, hA, rsA⟩ := ha2.lst_of
      obtain ⟨vb, hb1, hb2⟩ := so.rep.get em
      obtain ⟨b, ysV, rfl, hB, rsB⟩ := hb2.lst_of
      have hab : a ≠ b := fun z => by
        subst z
        rw [hA] at hB
        cases hB
        exact hcnd.1 (by rw [← rsB.length, ← rsA.length])
      cases ee : extD r m yi fe ds δ with
      | none => rw [ee] at e; cases e
      | some δf =>
        rw [ee] at e
        cases e
        have hlen := rsA.length
        refine ps_for hp hc (pi_list (pe_var hr hvr hd1 hcd1)) (pg_name hN hy hly hf) (pss_one (ps_expr (pe_bm PySem.F.plainAttrs_list PySem.F.slot_list_extend PySem.F.type_list_extend mt_extend (pe_var hm hvm hd2 hcd2) (da_cons hx da_nil hs) hbase hfew hline hs hplain) hsw)) hs0 pins s σ H E I ?_
        refine ⟨.ref a, ha1, a, rfl, ⟨xsV, SqL.of hA⟩, ?_⟩
        refine for_list (xs := xsV) (fun i σ' H' => ∃ δ', SOk X.K H₀ gh ow H' σ' δ' ∧ σ'[r]? = some (some (.ref a)) ∧ H' a = some (.lst xsV) ∧ Reps X.K H' ds xsV ∧ σ'[m]? = some (some (.ref b)) ∧ extD r m yi fe (ds.drop i) δ' = some δf) ⟨δ, so, ha1, hA, rsA, hb1, ee⟩ (fun i σ' H' _ ⟨_, _, _, h3, _⟩ => SqL.of h3) ?_ ?_
        · rintro i x σ' H' hxi ⟨δ', so', h2, h3, h4, h5, h6⟩
          have hil : i < ds.length := by
            have := (List.getElem?_eq_some_iff.mp hxi).1
            omega
          obtain ⟨v, w1, w2⟩ := h4.get (List.getElem?_eq_getElem hil)
          rw [hxi] at w1
          cases w1
          rw [List.drop_eq_getElem_cons hil] at h6
          unfold extD at h6
          have so1 : SOk X.K H₀ gh ow H' (σ'.set yi (some x)) (δ'.set yi (some ds[i])) := by
            have := so'.set w2 yi
            rwa [List.filter_eq_self.mpr fun k hk => by simp; intro z; exact hyo (z ▸ hk)] at this
          generalize hδ1 : δ'.set yi (some ds[i]) = δ1 at h6 so1
          cases efe : fe δ1 with
          | none => rw [efe] at h6; cases h6
          | some dx =>
            rw [efe, Option.bind_some] at h6
            split at h6
            · rename_i xs es' hdm
              split at h6
              · rename_i hcc
                have g2 : (σ'.set yi (some x))[r]? = some (some (.ref a)) := by rw [List.getElem?_set_ne (Ne.symm hyr)]; exact h2
                have g5 : (σ'.set yi (some x))[m]? = some (some (.ref b)) := by rw [List.getElem?_set_ne (Ne.symm hym)]; exact h5
                obtain ⟨vm, k1, k2⟩ := so1.rep.get hdm
                rw [g5] at k1
                cases k1
                obtain ⟨b', us, kb, kB, kr⟩ := k2.lst_of
                injection kb with kb
                subst kb
                refine ⟨.ref b, g5, .inl ⟨rfl, us, SqL.of kB⟩, δ1, [.lst xs], so1.rep, by simp [consD, efe], fun vs H2 S rv => ?_⟩
                obtain ⟨w, rr, rfl, rw', rn⟩ := rv.cons_of
                cases rn.nil_of
                obtain ⟨p, zs, rfl, hP, hR⟩ := rw'.lst_of
                refine ⟨b, p, us, zs, rfl, rfl, S _ _ kB, hP, by rw [kr.length, hR.length]; exact fit_le hcc.1, ?_⟩
                refine ⟨_, (so1.mono S).writeX hmo g5 (S _ _ kB) g2 hab hcc.2.2.2 hgh ((kr.mono S).append hR) (noLs_app hcc.2.1 hcc.2.2.1), g2, by rw [upd_ne hab]; exact S _ _ h3, Reps.upd (S _ _ kB) hcnd.2 (h4.mono S), g5, h6⟩
              · cases h6
            · cases h6
        · rintro σ' H' ⟨δ', so', h2, h3, h4, h5, h6⟩
          rw [List.drop_of_length_le (by omega)] at h6
          cases h6
          exact q σ' H' so'
    · cases e
  · cases e
end
end L2
set_option Elab.async false
set_option linter.all false
set_option maxRecDepth 100000
set_option maxHeartbeats 1000000
namespace L2
open PySem PySem.Spec PyProof.Rows
section
variable {prog : Program} {w : World} {K : Type} [DecidableEq K] {knd : HeapKind prog w K} {A : Around} {E : Value → Shared → Prop} {s : Shared}
theorem meets_lenT (d : Addr) (hd : (d == sysModules) = false) :
    MeetsIn prog w (Builtin.«dict.__len__» ⟨[.ref d], []⟩) (fun _ R s => ∃ xs, s.heap.DictOfH knd d xs ∧ R (.ok (.ret (.int xs.length s.toks))) { s with toks := s.toks + 1 }) :=
  .of_wp fun A R s ⟨xs, hm, h⟩ => by
    obtain ⟨o, es, ep, ho, hc, hdat, hk, hp, hn⟩ := hm
    show wpAny _ _ (dictSize d >>= _) _ _ s
    unfold dictSize
    refine wpAny_bind (wpAny_bind (wpAny_dictEntries ho hdat (wpAny_pure ?_)))
    show wpAny _ _ (Builtin.Dict.pendingCount d >>= _) _ _ s
    refine wpAny_bind (wpAny_pendingCount_other hd ?_)
    refine wpAny_ret_mkInt ?_
    rw [Nat.add_zero, size_of_entries hk]; exact h
theorem lenT_call {d : Addr} {xs : List (K × Addr × Value)} {Q : Value → Shared → Prop} (hd : (d == sysModules) = false) (hm : s.heap.DictOfH knd d xs) (hfit : (xs.length : Int) < 2 ^ 63)
    (h : Q (.int xs.length (s.toks + 1)) { s with toks := s.toks + 1 + 1 }) : wpAny (model prog w) A (call (.builtin "len") [.ref d]) Q E s := by
  refine Calls.call_function_entry kind_len plain_len entry_len (args_len1 _) ?_
  unfold Builtin.«len»
  refine wpAny_bind (m := oneArg "len" _) (wpAny_pure ?_)
  refine wpAny_bind (m := callSpecial? (.ref d) (Str.ofString "__len__")) (wpAny_callSpecial?_slot (name := Str.ofString "__len__") hm.typeIs F.slot_dict_len
    (call_meetsIn F.slot_dict_len hm.typeIs F.entry_dict_len (F.args_dict_len_1 _) (meets_lenT (knd := knd) d hd) ⟨xs, hm, ?_⟩))
  show wpAny _ _ _ _ _ { s with toks := s.toks + 1 }
  refine wpAny_bind (wpAny_holding (wpAny_pure ?_))
  refine wpAny_bind (wpAny_letGo ?_)
  show wpAny _ _ (if ((xs.length : Nat) : Int) < 0 then _ else _) _ _ _
  rw [if_neg (by omega)]
  show wpAny _ _ (if ((xs.length : Nat) : Int) ≥ 2 ^ 63 then _ else _) _ _ _
  rw [if_neg (by omega)]
  exact wpAny_bind (wpAny_mkInt (wpAny_pure ⟨_, rfl, h⟩))
end
theorem call_lenT {X : Cx} : CallR X (.builtin "len") (fun xs H Q => ∃ p kvs, xs = [.ref p] ∧ H p = some (.dT kvs) ∧ Q (.int kvs.length) H) := by
  intro pins s σ H xs us Q I r h
  obtain ⟨p, kvs, rfl, hq, q⟩ := h
  obtain ⟨u, rfl, rx⟩ := vals1 r
  cases rx
  have hn := line63
  obtain ⟨z, hd, ys, rel, dd⟩ := dt_of I.hok hq
  have hlen : kvs.length = ys.length := Paired.length rel
  exact lenT_call hd dd (by omega) ⟨.int kvs.length, H, I.tok _, ⟨s.toks + 1, by rw [hlen]⟩, q⟩
section
variable {K : PySem.W.Frag} {H : Hp} {l : Addr} {kvs : List (List Key × V)} {o : HO}
mutual
theorem Rep.updD (hl : H l = some (.dT kvs)) : ∀ {d : D} {v : V}, Rep K H d v → Rep K (L2.upd H l o) d v
  | .non, _, h => by simpa only [Rep] using h
  | .bl _, _, h => by simpa only [Rep] using h
  | .int _, _, h => by simpa only [Rep] using h
  | .str _, _, h => by simpa only [Rep] using h
  | .ty _, _, h => by simpa only [Rep] using h
  | .lst ds, v, h => by
    obtain ⟨a, ys, e, q, r⟩ := h.lst_of
    subst e
    exact rep_lst (by rw [upd_ne (ne_of q hl (by intro z; cases z))]; exact q) (Reps.updD hl r)
  | .tup ds, v, h => by
    obtain ⟨a, ys, e, q, r⟩ := h.tup_of
    subst e
    exact rep_tup (by rw [upd_ne (ne_of q hl (by intro z; cases z))]; exact q) (Reps.updD hl r)
  | .fro ds, v, h => by
    obtain ⟨a, ys, e, q, r⟩ := h.fro_of
    subst e
    refine rep_fro ?_ (Reps.updD hl r)
    rcases q with ⟨ob, q⟩ | q
    · exact .inl ⟨ob, by rw [upd_ne (ne_of q hl (by intro z; cases z))]; exact q⟩
    · exact .inr q
theorem Reps.updD (hl : H l = some (.dT kvs)) : ∀ {ds : List D} {vs : List V}, Reps K H ds vs → Reps K (L2.upd H l o) ds vs
  | [], _, h => by rw [h.nil_of]; exact reps_nil
  | d :: ds, _, h => by
    obtain ⟨v, r, rfl, q, t⟩ := h.cons_of
    exact reps_cons (Rep.updD hl q) (Reps.updD hl t)
end
end
theorem SOk.updD {K : PySem.W.Frag} {H₀ H : Hp} {gh : List (V × D)} {ow : List Nat} {σ : St} {δ : DS} {l : Addr} {kvs : List (List Key × V)} {o : HO} (so : SOk K H₀ gh ow H σ δ) (hl : H l = some (.dT kvs)) (h0 : H₀ l = none) : SOk K H₀ gh ow (upd H l o) σ δ := by
  refine ⟨fun b o e => ?_, ⟨so.rep.1, fun x hx c P e => (by have z := so.rep.2.1 x hx c P e; rw [upd_ne (ne_of z hl (by intro q; cases q))]; exact z), fun j d e => ?_⟩, fun p hp => Rep.updD hl (so.gr p hp), so.own⟩
  · rw [upd_ne (ne_of_none e h0)]; exact so.same b o e
  · obtain ⟨v, h1, h2⟩ := so.rep.2.2 j d e
    exact ⟨v, h1, h2.updD hl⟩
theorem SOk.put0 {K : PySem.W.Frag} {H₀ H : Hp} {gh : List (V × D)} {ow : List Nat} {σ : St} {δ : DS} {i : Nat} {a : Addr} (so : SOk K H₀ gh ow H σ δ) (hi : (δ[i]?).join = none) (h0 : H₀ a = none) : SOk K H₀ gh ow H (σ.set i (some (.ref a))) δ := by
  refine ⟨so.same, ⟨by rw [List.length_set]; exact so.rep.1, so.rep.2.1, fun j d e => ?_⟩, so.gr, fun j hj b e => ?_⟩
  · obtain ⟨v, h1, h2⟩ := so.rep.2.2 j d e
    have hne : i ≠ j := by
      intro z
      subst z
      rw [e] at hi
      cases hi
    exact ⟨v, by rw [List.getElem?_set_ne hne]; exact h1, h2⟩
  · by_cases hji : j = i
    · subst hji
      rw [List.getElem?_set] at e
      simp at e
      obtain ⟨_, rfl⟩ := e
      exact h0
    · rw [List.getElem?_set_ne (Ne.symm hji)] at e
      exact so.own j hj b e
def keyDs : List D → Option (List Int)
  | [] => some []
  | .int i :: ds => (keyDs ds).map (i :: ·)
  | _ :: _ => none
def keyD : D → Option (List Int)
  | .tup ds => keyDs ds
  | _ => none
theorem keyDs_ok {K : PySem.W.Frag} {H : Hp} : ∀ {ds : List D} {k : List Int} {vs : List V}, keyDs ds = some k → Reps K H ds vs → vs = (k.map (Sum.inl : Int → Key)).map kV
  | [], k, vs, e, r => by
    cases e
    rw [r.nil_of]; rfl
  | d :: ds, k, vs, e, r => by
    obtain ⟨v, t, rfl, q, r'⟩ := r.cons_of
    cases d with
    | int i =>
      cases hk : keyDs ds with
      | none => simp [keyDs, hk] at e
      | some k' =>
        simp [keyDs, hk] at e
        subst e
        have : v = .int i := by simpa only [Rep] using q
        rw [this, keyDs_ok hk r']
        rfl
    | _ => simp [keyDs] at e
def putU (ks : List (List Int)) (k : List Int) : List (List Int) := if k ∈ ks then ks else ks ++ [k]
def asKV (ks : List (List Int)) : List (List Key × V) := ks.map fun k => (k.map (Sum.inl : Int → Key), V.bl true)
theorem inlk_inj {a b : List Int} (e : a.map (Sum.inl : Int → Key) = b.map (Sum.inl : Int → Key)) : a = b := by
  induction a generalizing b with
  | nil => cases b with
    | nil => rfl
    | cons y b => cases e
  | cons x a ih => cases b with
    | nil => cases e
    | cons y b =>
      rw [List.map_cons, List.map_cons] at e
      injection e with e1 e2
      injection e1 with e1
      rw [e1, ih e2]
theorem putK_asKV (ks : List (List Int)) (k : List Int) : putK (asKV ks) (k.map (Sum.inl : Int → Key)) (V.bl true) = asKV (putU ks k) := by
  unfold putK putU
  have hany : ((asKV ks).any fun kv => decide (kv.1 = k.map (Sum.inl : Int → Key))) = decide (k ∈ ks) := by
    rw [Bool.eq_iff_iff, List.any_eq_true, decide_eq_true_iff]
    constructor
    · rintro ⟨x, hx, e⟩
      obtain ⟨j, hj, rfl⟩ := List.mem_map.mp hx
      have := inlk_inj (of_decide_eq_true e)
      rwa [← this]
    · intro h
      exact ⟨_, List.mem_map.mpr ⟨k, h, rfl⟩, decide_eq_true rfl⟩
  rw [hany]
  by_cases h : k ∈ ks
  · rw [if_pos (decide_eq_true h), if_pos h]
    unfold asKV
    rw [List.map_map]
    refine List.map_congr_left fun j hj => ?_
    show (if _ then _ else _) = _
    split <;> rfl
  · rw [if_neg (by simpa using h), if_neg h]
    unfold asKV
    rw [List.map_append]
    rfl
def tallyD (yi : Nat) (fk : DS → Option D) : List D → DS → List (List Int) → Option (List (List Int))
  | [], _, ks => some ks
  | d :: ds, δ, ks => (fk (δ.set yi (some d))).bind fun x => (keyD x).bind fun k => if fit (ks.length + 1) = true then tallyD yi fk ds (δ.set yi (some d)) (putU ks k) else none
def tallyF (r fi yi : Nat) (fk : DS → Option D) : DS → Option DF := fun δ => match (δ[r]?).join, δ[fi]? with
  | some (.lst ds), some none => (tallyD yi fk ds δ []).map fun ks => .rt (.int ks.length)
  | _, _ => none
section
variable {X : Cx} {H₀ : Hp} {gh : List (V × D)} {ow ow' owL : List Nat}
theorem s_tally (r fi yi : Nat) {zr zf y : Str} {p1 p2 p3 py pr pf pf2 pS pA pL pc pos pret : Pos} {ek : Expr} {tr : Expr} {fk : DS → Option D} {k : Nat} (hr : Room k X.A) (hg : Gl X "len") (hmg : X.mg "len" = none) (hp : PassesOwn (model X.prog X.w) X.A X.env X.xe) (hc : X.calm = true) (hN : X.N.Nodup) (er : X.N[r]? = some zr) (ef : X.N[fi]? = some zf) (ey : X.N[yi]? = some y)
    (hvr : Vis X.env.scope zr) (hvf : Vis X.env.scope zf) (hlf : Loc X.env.scope zf) (hly : Loc X.env.scope y) (hyo : yi ∉ ow) (hfy : fi ≠ yi) (hfr : fi ≠ r) (hyr : r ≠ yi) (hx : PE X ek (tD X.K fk)) (ht : PE X tr (tD X.K fun _ => some (.bl true)))
    (hd1 : (zr == ("__debug__" : Str)) = false := by decide) (hcd1 : (zr == ("__classdict__" : Str)) = false := by decide) (hd2 : (zf == ("__debug__" : Str)) = false := by decide) (hcd2 : (zf == ("__classdict__" : Str)) = false := by decide)
    (hf : X.fn y = true ∨ X.env.scope.names.lookup y = some .local := by first | exact .inl rfl | exact .inr rfl | assumption)
    (hf2 : X.fn zf = true ∨ X.env.scope.names.lookup zf = some .local := by first | exact .inl rfl | exact .inr rfl | assumption)
    (hs1 : swapsWith (.Dict [] [] p1) (some (.Name zf p2)) p3.line X.env = pure false := by rfl)
    (hs2 : swapsWith tr (some (.Subscript (.Name zf pf) ek pS)) pA.line X.env = pure false := by rfl)
    (hs0 : ∀ x, foldedSetIterable (.Name zr pr) X.env x = pure x := by intro _; rfl)
    (he : starEach [.Name zf pf2] X.env = (false, eval (.Name zf pf2) X.env) :: starEach [] X.env := by rfl) (hpl : (backTo pc (starEach [] X.env)).any (·.1) = false := by rfl) :
    PSs X [.Assign [.Name zf p2] (.Dict [] [] p1) p3, .For (.Name y py) (.Name zr pr) [.Assign [.Subscript (.Name zf pf) ek pS] tr pA] [] pos, .Return (some (.Call (.Name "len" pL) [.Name zf pf2] [] pc)) pret] (tS X.K H₀ gh ow ow' owL (tallyF r fi yi fk)) := by
  intro pins s σ H E I ⟨δ, fl, so, e, q⟩
  unfold tallyF at e
  split at e
  · rename_i ds e1 e2
    cases ee : tallyD yi fk ds δ [] with
    | none => rw [ee] at e; cases e
    | some kf =>
      rw [ee] at e
      cases e
      obtain ⟨va, ha1, ha2⟩ := so.rep.get e1
      obtain ⟨a, xsV, rfl, hA, rsA⟩ := ha2.lst_of
      have hlen := rsA.length
      have hrl : fi < X.N.length := (List.getElem?_eq_some_iff.mp ef).1
      refine pss_cons (ps_set hN ef hlf pe_dnewT hs1 hf2) (pss_cons (ps_for hp hc (pi_list (pe_var er hvr hd1 hcd1)) (pg_name hN ey hly hf) (pss_one (ps_dput (hu_of hr) (pe_var ef hvf hd2 hcd2) hx ht hs2)) hs0)
        (pss_one (ps_ret (pe_callB call_lenT hg hmg PySem.boot_len (pa_cons (pe_var ef hvf hd2 hcd2) pa_nil he) (he := he) (hpl := hpl))))) pins s σ H E I ?_
      intro p hp0
      have hp1 : H₀ p = none := so.same.free hp0
      have so1 : SOk X.K H₀ gh ow (upd H p (.dT [])) (σ.set fi (some (.ref p))) δ := (so.mono (same_new hp0 _)).put0 (by rw [e2]; rfl) hp1
      have hap : a ≠ p := ne_of_none hA hp0
      show tSeq _ _ E (σ.set fi (some (.ref p))) (upd H p (.dT []))
      refine ⟨.ref a, by rw [List.getElem?_set_ne hfr]; exact ha1, a, rfl, ⟨xsV, SqL.of (by rw [upd_ne hap]; exact hA)⟩, ?_⟩
      refine for_list (xs := xsV) (fun i σ' H' => ∃ δ' ks, SOk X.K H₀ gh ow H' σ' δ' ∧ H' a = some (.lst xsV) ∧ Reps X.K H' ds xsV ∧ σ'[fi]? = some (some (.ref p)) ∧ H' p = some (.dT (asKV ks)) ∧ tallyD yi fk (ds.drop i) δ' ks = some kf)
        ⟨δ, [], so1, by rw [upd_ne hap]; exact hA, rsA.mono (same_new hp0 _), ?_, upd_same, ee⟩ (fun i σ' H' _ ⟨_, _, _, h3, _⟩ => SqL.of h3) ?_ ?_
      · have : fi < σ.length := by
          rw [so.rep.1]
          exact (List.getElem?_eq_some_iff.mp e2).1
        rw [List.getElem?_set_self this]
      · rintro i x σ' H' hxi ⟨δ', ks, so', h3, h4, h5, h6, h7⟩
        have hil : i < ds.length := by
          have := (List.getElem?_eq_some_iff.mp hxi).1
          omega
        obtain ⟨v, w1, w2⟩ := h4.get (List.getElem?_eq_getElem hil)
        rw [hxi] at w1
        cases w1
        rw [List.drop_eq_getElem_cons hil] at h7
        unfold tallyD at h7
        have so2 : SOk X.K H₀ gh ow H' (σ'.set yi (some x)) (δ'.set yi (some ds[i])) := by
          have := so'.set w2 yi
          rwa [List.filter_eq_self.mpr fun k hk => by simp; intro z; exact hyo (z ▸ hk)] at this
        generalize hδ1 : δ'.set yi (some ds[i]) = δ1 at h7 so2
        have g5 : (σ'.set yi (some x))[fi]? = some (some (.ref p)) := by rw [List.getElem?_set_ne (Ne.symm hfy)]; exact h5
        cases efk : fk δ1 with
        | none => rw [efk] at h7; cases h7
        | some dx =>
          rw [efk, Option.bind_some] at h7
          cases ek' : keyD dx with
          | none => rw [ek'] at h7; cases h7
          | some kk =>
            rw [ek', Option.bind_some] at h7
            split at h7
            · rename_i hfit
              refine ⟨δ1, _, so2.rep, rfl, fun vt H1 S1 rt => ?_⟩
              have hvt : vt = .bl true := by simpa only [Rep] using rt
              subst hvt
              refine ⟨.ref p, g5, δ1, dx, (so2.mono S1).rep, efk, fun vk H2 S2 rk => ?_⟩
              have S := S1.trans S2
              cases dx with
              | tup dk =>
                obtain ⟨b, us, rfl, hB, hR⟩ := rk.tup_of
                have hus := keyDs_ok ek' hR
                subst hus
                refine ⟨p, _, rfl, DPut.t (S _ _ h6) hB (by have := fit_le hfit; unfold asKV; rw [List.length_map]; omega), ?_⟩
                rw [putK_asKV]
                have hpp := S _ _ h6
                refine ⟨δ1, putU ks kk, (so2.mono S).updD hpp hp1, by rw [upd_ne hap]; exact S _ _ h3, Reps.updD hpp (h4.mono S), g5, upd_same, h7⟩
              | _ => cases ek'
            · cases h7
      · rintro σ' H' ⟨δ', ks, so', h3, h4, h5, h6, h7⟩
        rw [List.drop_of_length_le (by omega)] at h7
        cases h7
        refine ⟨.ref p, h5, ?_⟩
        refine ⟨p, _, rfl, h6, ?_⟩
        refine q _ _ so'.same ?_
        simp only [Rep]
        unfold asKV
        rw [List.length_map]
  · cases e
end
end L2
set_option maxHeartbeats 4000000
namespace L2.k13
open PySem L2
def top (i : Nat) : Stmt := PySem.Challenge.pw_rowwright_k13_weights.main.body.getD i (.Pass ⟨0, 0, 0, 0⟩)
structure Bl (P : Program) (mg : Str → Option Value) : Prop where
  tree : P.given.tree = none
  b_abs : mg "abs" = none
  b_bool : mg "bool" = none
  b_enumerate : mg "enumerate" = none
  b_int : mg "int" = none
  b_isinstance : mg "isinstance" = none
  b_len : mg "len" = none
  b_list : mg "list" = none
  b_range : mg "range" = none
  b_sorted : mg "sorted" = none
  b_tuple : mg "tuple" = none
  b_zip : mg "zip" = none
section
variable {P : Program} {w : World} {K : PySem.W.Frag} {mg : Str → Option Value} {base : Heap} {f : Addr} {fd : FuncData}
abbrev s_lead_place : Stmt := top 1
noncomputable def g_lead_place : DS → Option DF := (seqF (setF 1 (cF (.int 0))) (seqF (whF (andT (bT (bind2 (vF 1) (callF (consD (vF 0) nilF) lenD) ltD)) (bT (bind2 (bind2 (vF 0) (vF 1) ixD) (cF (.int 0)) eqD))) (setF 1 (bind2 (vF 1) (cF (.int 1)) addD))) (retF (vF 1))))
noncomputable def F_lead_place : List D → Option D := runD 1 ["row", "place"] g_lead_place
theorem sc_lead_place : FnScope ["row", "place"] ["row"] (defScope s_lead_place) := ⟨rfl, rfl, rfl, by decide +kernel, rfl, by decide +kernel, by decide +kernel⟩
theorem ok_lead_place (B : Bl P mg) (F : Fun K "lead_place" "lead_place" s_lead_place f fd) (hm : mg "lead_place" = some (.ref f))  : Ca P w K mg base 1 "lead_place" F_lead_place :=
  def_ok (g := g_lead_place) F sc_lead_place hm (F.binds fun _ _ _ _ _ _ us hl => match us, hl with | [_], _ => rfl) fun cdv A outer s H E hr => ⟨[], (s_cons (s_set 1 sc_lead_place.nd rfl (by first | exact Or.inl rfl | exact Or.inr rfl) d_int) (s_cons (s_whileF PassesOwn.never (PW.pt (w_and (t_lt (d_var 1) (d_len rfl B.b_len (da_cons (d_var 0) da_nil))) (PT.pw_and1 (t_eq hr (d_ix (d_var 0) (d_var 1)) d_int)))) (s_one (s_set 1 sc_lead_place.nd rfl (by first | exact Or.inl rfl | exact Or.inr rfl) (d_add (d_var 1) d_int)))) (s_one (s_ret (d_var 1)))))⟩
abbrev s_less : Stmt := top 3
noncomputable def g_less : DS → Option DF := (retF (callF (consD (lstF (compF (fsF (consD (vF 0) (consD (vF 2) nilF)) zip2) (bindP 0 1) yesT (bind2 (vF 0) (bind2 (vF 2) (vF 1) mulD) subD) [none, none, some 1])) nilF) tupleD))
noncomputable def F_less : List D → Option D := runD 3 ["row", "times", "other"] g_less
theorem sc_less : FnScope ["row", "times", "other"] ["row", "times", "other"] (defScope s_less) := ⟨rfl, rfl, rfl, by decide +kernel, rfl, by decide +kernel, by decide +kernel⟩
theorem ok_less (B : Bl P mg) (F : Fun K "less" "less" s_less f fd) (hm : mg "less" = some (.ref f))  : Ca P w K mg base 1 "less" F_less :=
  def_ok (g := g_less) F sc_less hm (F.binds fun _ _ _ _ _ _ us hl => match us, hl with | [_, _, _], _ => rfl) fun cdv A outer s H E hr => ⟨[], (s_one (s_ret (d_tuple rfl B.b_tuple (da_cons (d_comp rfl (compSc_mk (N' := ["number", "part", "times"]) (inn := [none, none, some 1]) (defScope s_less) ["row", "times", "other"] rfl rfl (by decide +kernel)) (i_zip rfl B.b_zip (da_cons (d_var 0) (da_cons (d_var 2) da_nil))) (fun _ _ _ _ => ⟨(g_pair (i := 0) (j := 1) rfl (show (["number", "part", "times"] : List Str).Nodup by decide +kernel) rfl rfl (by first | exact Or.inl rfl | exact Or.inr rfl) (by first | exact Or.inl rfl | exact Or.inr rfl)), ifs_nil, (d_sub (d_var 0) (d_mul (d_var 2) (d_var 1)))⟩)) da_nil))))⟩
abbrev s_lowered : Stmt := top 4
noncomputable def g_lowered : DS → Option DF := (retF (callF (consD (vF 0) (consD (bind2 (bind2 (vF 0) (vF 2) ixD) (bind2 (vF 1) (vF 2) ixD) fdivD) (consD (vF 1) nilF))) F_less))
noncomputable def F_lowered : List D → Option D := runD 3 ["row", "line", "place"] g_lowered
theorem sc_lowered : FnScope ["row", "line", "place"] ["row", "line", "place"] (defScope s_lowered) := ⟨rfl, rfl, rfl, by decide +kernel, rfl, by decide +kernel, by decide +kernel⟩
theorem ok_lowered (B : Bl P mg) (F : Fun K "lowered" "lowered" s_lowered f fd) (hm : mg "lowered" = some (.ref f)) (c_less : Ca P w K mg base 1 "less" F_less) : Ca P w K mg base 2 "lowered" F_lowered :=
  def_ok (g := g_lowered) F sc_lowered hm (F.binds fun _ _ _ _ _ _ us hl => match us, hl with | [_, _, _], _ => rfl) fun cdv A outer s H E hr => ⟨[], (s_one (s_ret (d_call c_less hr rfl (da_cons (d_var 0) (da_cons (d_fdiv hr B.tree (d_ix (d_var 0) (d_var 2)) (d_ix (d_var 1) (d_var 2))) (da_cons (d_var 1) da_nil))))))⟩
abbrev s_gathered : Stmt := top 5
noncomputable def g_gathered : DS → (DF → Prop) → Prop := (seqG (ofG (setL 2 (compF (itF (vF 0)) (bind1 0) (bT (bind2 (bind2 (vF 0) (vF 1) ixD) (cF (.int 0)) eqD)) (vF 0) [none, some 1]))) (seqG (ofG (setF 3 (lstF (compF (itF (vF 0)) (bind1 0) (bT (bind2 (bind2 (vF 0) (vF 1) ixD) (cF (.int 0)) neD)) (vF 0) [none, some 1])))) (seqG (whileG (bT (bind2 (callF (consD (vF 3) nilF) lenD) (cF (.int 1)) gtD)) (seqG (sortG 3 (vF 3) (callF (consD (bind2 (vF 0) (vF 1) ixD) nilF) absD) [none, some 1]) (seqG (ofG (setL 4 (compF (itF (slF (vF 3) (oS (cF (.int 1))) oN)) (bind1 0) yesT (callF (consD (vF 0) (consD (bind2 (vF 2) (cF (.int 0)) ixD) (consD (vF 1) nilF))) F_lowered) [none, some 1, some 3]))) (seqG (ofG (setF 2 (bind2 (vF 2) (lstF (compF (itF (vF 4)) (bind1 0) (bT (bind2 (bind2 (vF 0) (vF 1) ixD) (cF (.int 0)) eqD)) (vF 0) [none, some 1])) addD))) (ofG (setF 3 (bind2 (lstF (dispF (consD (bind2 (vF 3) (cF (.int 0)) ixD) nilF))) (lstF (compF (itF (vF 4)) (bind1 0) (bT (bind2 (bind2 (vF 0) (vF 1) ixD) (cF (.int 0)) neD)) (vF 0) [none, some 1])) addD))))))) (ofG (retF (bind2 (vF 3) (vF 2) addD))))))
noncomputable def R_gathered : List D → (D → Prop) → Prop := runR 2 ["rows", "place", "clear", "busy", "left"] g_gathered
theorem sc_gathered : FnScope ["rows", "place", "clear", "busy", "left"] ["rows", "place"] (defScope s_gathered) := ⟨rfl, rfl, rfl, by decide +kernel, rfl, by decide +kernel, by decide +kernel⟩
theorem ok_gathered {cA pA : Addr} (B : Bl P mg) (F : Fun K "gathered" "gathered" s_gathered f fd) (hm : mg "gathered" = some (.ref f)) (hfc : fd.code = .ref cA) (tt : PySem.W.tabIn K "gathered" = some (cA, pA)) (c_lowered : Ca P w K mg base 2 "lowered" F_lowered) : CaR P w K mg base 3 "gathered" R_gathered :=
  def_okR (G := g_gathered) F sc_gathered hm (F.binds fun _ _ _ _ _ _ us hl => match us, hl with | [_, _], _ => rfl) fun cdv A outer s H E hcd hM hr => ⟨[], (r_cons (r_of (s_drop [] (by decide) (s_comp 2 sc_gathered.nd rfl (by first | exact Or.inl rfl | exact Or.inr rfl) rfl rfl (compSc_mk (N' := ["row", "place"]) (inn := [none, some 1]) (defScope s_gathered) ["rows", "place", "clear", "busy", "left"] rfl rfl (by decide +kernel)) (i_seq (d_var 0)) (fun _ _ _ _ => ⟨(g_name (i := 0) (show (["row", "place"] : List Str).Nodup by decide +kernel) rfl (by first | exact Or.inl rfl | exact Or.inr rfl)), (ifs_one (t_eq hr (d_ix (d_var 0) (d_var 1)) d_int)), (d_var 0)⟩)))) (r_cons (r_of (s_set 3 sc_gathered.nd rfl (by first | exact Or.inl rfl | exact Or.inr rfl) (d_comp rfl (compSc_mk (N' := ["row", "place"]) (inn := [none, some 1]) (defScope s_gathered) ["rows", "place", "clear", "busy", "left"] rfl rfl (by decide +kernel)) (i_seq (d_var 0)) (fun _ _ _ _ => ⟨(g_name (i := 0) (show (["row", "place"] : List Str).Nodup by decide +kernel) rfl (by first | exact Or.inl rfl | exact Or.inr rfl)), (ifs_one (t_ne hr (d_ix (d_var 0) (d_var 1)) d_int)), (d_var 0)⟩)))) (r_cons (r_while PassesOwn.never (t_gt (d_len rfl B.b_len (da_cons (d_var 3) da_nil)) d_int) (r_cons (r_drop [] (by decide) (r_sort 3 sc_gathered.nd rfl (by first | exact Or.inl rfl | exact Or.inr rfl) (pe_sorted (x := "gathered") rfl rfl B.b_sorted (d_var 3) (by decide) tt (hM.lam _ (by decide) _ _ tt) rfl (hcd.symm.trans hfc) rfl (lamSc_mk (N' := ["row", "place"]) (inn := [none, some 1]) (par := "row") (defScope s_gathered) ["rows", "place", "clear", "busy", "left"] rfl rfl (by decide +kernel)) (fun _ _ _ _ => (d_abs rfl B.b_abs (da_cons (d_ix (d_var 0) (d_var 1)) da_nil))) (fun _ _ _ _ _ => rfl) hr.depth))) (r_cons (r_of (s_drop [] (by decide) (s_comp 4 sc_gathered.nd rfl (by first | exact Or.inl rfl | exact Or.inr rfl) rfl rfl (compSc_mk (N' := ["row", "place", "busy"]) (inn := [none, some 1, some 3]) (defScope s_gathered) ["rows", "place", "clear", "busy", "left"] rfl rfl (by decide +kernel)) (i_seq (d_slice (d_var 3) (o_some d_int) o_none)) (fun _ _ _ _ => ⟨(g_name (i := 0) (show (["row", "place", "busy"] : List Str).Nodup by decide +kernel) rfl (by first | exact Or.inl rfl | exact Or.inr rfl)), ifs_nil, (d_call c_lowered hr rfl (da_cons (d_var 0) (da_cons (d_ix (d_var 2) d_int) (da_cons (d_var 1) da_nil))))⟩)))) (r_cons (r_of (s_set 2 sc_gathered.nd rfl (by first | exact Or.inl rfl | exact Or.inr rfl) (d_add (d_var 2) (d_comp rfl (compSc_mk (N' := ["row", "place"]) (inn := [none, some 1]) (defScope s_gathered) ["rows", "place", "clear", "busy", "left"] rfl rfl (by decide +kernel)) (i_seq (d_var 4)) (fun _ _ _ _ => ⟨(g_name (i := 0) (show (["row", "place"] : List Str).Nodup by decide +kernel) rfl (by first | exact Or.inl rfl | exact Or.inr rfl)), (ifs_one (t_eq hr (d_ix (d_var 0) (d_var 1)) d_int)), (d_var 0)⟩))))) (r_one (r_of (s_set 3 sc_gathered.nd rfl (by first | exact Or.inl rfl | exact Or.inr rfl) (d_add (d_lst (da_cons (d_ix (d_var 3) d_int) da_nil)) (d_comp rfl (compSc_mk (N' := ["row", "place"]) (inn := [none, some 1]) (defScope s_gathered) ["rows", "place", "clear", "busy", "left"] rfl rfl (by decide +kernel)) (i_seq (d_var 4)) (fun _ _ _ _ => ⟨(g_name (i := 0) (show (["row", "place"] : List Str).Nodup by decide +kernel) rfl (by first | exact Or.inl rfl | exact Or.inr rfl)), (ifs_one (t_ne hr (d_ix (d_var 0) (d_var 1)) d_int)), (d_var 0)⟩)))))))))) (r_one (r_of (s_ret (d_add (d_var 3) (d_var 2))))))))⟩
abbrev s_stacked : Stmt := top 6
noncomputable def g_stacked : DS → Option DF := (seqF (setF 3 (vF 1)) (seqF (ifF (bT (bind2 (bind2 (vF 1) (vF 2) ixD) (cF (.int 0)) ltD)) (setF 3 (callF (consD (lstF (compF (itF (vF 1)) (bind1 0) yesT (unF (vF 0) negD) [none])) nilF) tupleD)) nxF) (retF (bind2 (lstF (compF (itF (vF 0)) (bind1 0) yesT (callF (consD (vF 0) (consD (vF 1) (consD (vF 2) nilF))) F_lowered) [none, some 3, some 2])) (lstF (dispF (consD (vF 3) nilF))) addD))))
noncomputable def F_stacked : List D → Option D := runD 3 ["stack", "row", "place", "line"] g_stacked
theorem sc_stacked : FnScope ["stack", "row", "place", "line"] ["stack", "row", "place"] (defScope s_stacked) := ⟨rfl, rfl, rfl, by decide +kernel, rfl, by decide +kernel, by decide +kernel⟩
theorem ok_stacked (B : Bl P mg) (F : Fun K "stacked" "stacked" s_stacked f fd) (hm : mg "stacked" = some (.ref f)) (c_lowered : Ca P w K mg base 2 "lowered" F_lowered) : Ca P w K mg base 3 "stacked" F_stacked :=
  def_ok (g := g_stacked) F sc_stacked hm (F.binds fun _ _ _ _ _ _ us hl => match us, hl with | [_, _, _], _ => rfl) fun cdv A outer s H E hr => ⟨[], (s_cons (s_set 3 sc_stacked.nd rfl (by first | exact Or.inl rfl | exact Or.inr rfl) (d_var 1)) (s_cons (s_if (t_lt (d_ix (d_var 1) (d_var 2)) d_int) (s_one (s_set 3 sc_stacked.nd rfl (by first | exact Or.inl rfl | exact Or.inr rfl) (d_tuple rfl B.b_tuple (da_cons (d_comp rfl (compSc_mk (N' := ["number"]) (inn := [none]) (defScope s_stacked) ["stack", "row", "place", "line"] rfl rfl (by decide +kernel)) (i_seq (d_var 1)) (fun _ _ _ _ => ⟨(g_name (i := 0) (show (["number"] : List Str).Nodup by decide +kernel) rfl (by first | exact Or.inl rfl | exact Or.inr rfl)), ifs_nil, (d_neg (d_var 0))⟩)) da_nil)))) s_nil) (s_one (s_ret (d_add (d_comp rfl (compSc_mk (N' := ["ahead", "line", "place"]) (inn := [none, some 3, some 2]) (defScope s_stacked) ["stack", "row", "place", "line"] rfl rfl (by decide +kernel)) (i_seq (d_var 0)) (fun _ _ _ _ => ⟨(g_name (i := 0) (show (["ahead", "line", "place"] : List Str).Nodup by decide +kernel) rfl (by first | exact Or.inl rfl | exact Or.inr rfl)), ifs_nil, (d_call c_lowered hr rfl (da_cons (d_var 0) (da_cons (d_var 1) (da_cons (d_var 2) da_nil))))⟩)) (d_lst (da_cons (d_var 3) da_nil)))))))⟩
abbrev s_plain : Stmt := top 7
noncomputable def g_plain : DS → (DF → Prop) → Prop := (seqG (ofG (setF 2 (lstF (dispF nilF)))) (seqG (ofG (setF 3 (lstF (fsF (consD (vF 0) nilF) list1)))) (seqG (forG (fsF (consD (vF 1) nilF) range1D) (bind1 4) (seqG (callG 3 (consD (vF 3) (consD (vF 4) nilF)) R_gathered) (ofG (ifF (andT (bT (bind2 (callF (consD (vF 3) nilF) lenD) (cF (.int 0)) gtD)) (bT (bind2 (bind2 (bind2 (vF 3) (cF (.int 0)) ixD) (vF 4) ixD) (cF (.int 0)) neD))) (seqF (setF 2 (callF (consD (vF 2) (consD (bind2 (vF 3) (cF (.int 0)) ixD) (consD (vF 4) nilF))) F_stacked)) (setF 3 (slF (vF 3) (oS (cF (.int 1))) oN))) nxF)))) (ofG (retF (callF (consD (vF 2) nilF) tupleD))))))
noncomputable def R_plain : List D → (D → Prop) → Prop := runR 2 ["lot", "wide", "stack", "rows", "place"] g_plain
theorem sc_plain : FnScope ["lot", "wide", "stack", "rows", "place"] ["lot", "wide"] (defScope s_plain) := ⟨rfl, rfl, rfl, by decide +kernel, rfl, by decide +kernel, by decide +kernel⟩
theorem ok_plain (B : Bl P mg) (F : Fun K "plain" "plain" s_plain f fd) (hm : mg "plain" = some (.ref f)) (c_gathered : CaR P w K mg base 3 "gathered" R_gathered) (c_stacked : Ca P w K mg base 3 "stacked" F_stacked) : CaR P w K mg base 4 "plain" R_plain :=
  def_okR (G := g_plain) F sc_plain hm (F.binds fun _ _ _ _ _ _ us hl => match us, hl with | [_, _], _ => rfl) fun cdv A outer s H E hcd hM hr => ⟨[], (r_cons (r_of (s_set 2 sc_plain.nd rfl (by first | exact Or.inl rfl | exact Or.inr rfl) (d_lst da_nil))) (r_cons (r_of (s_set 3 sc_plain.nd rfl (by first | exact Or.inl rfl | exact Or.inr rfl) (d_list rfl B.b_list (da_cons (d_var 0) da_nil)))) (r_cons (r_forR PassesOwn.never rfl (r_range1 rfl B.b_range (da_cons (d_var 1) da_nil)) (g_name (i := 4) sc_plain.nd rfl (by first | exact Or.inl rfl | exact Or.inr rfl)) (by decide) (r_cons (r_call 3 sc_plain.nd rfl (by first | exact Or.inl rfl | exact Or.inr rfl) c_gathered hr rfl (da_cons (d_var 3) (da_cons (d_var 4) da_nil))) (r_one (r_of (s_if (PW.pt (w_and (t_gt (d_len rfl B.b_len (da_cons (d_var 3) da_nil)) d_int) (PT.pw_and1 (t_ne hr (d_ix (d_ix (d_var 3) d_int) (d_var 4)) d_int)))) (s_cons (s_set 2 sc_plain.nd rfl (by first | exact Or.inl rfl | exact Or.inr rfl) (d_call c_stacked hr rfl (da_cons (d_var 2) (da_cons (d_ix (d_var 3) d_int) (da_cons (d_var 4) da_nil))))) (s_one (s_set 3 sc_plain.nd rfl (by first | exact Or.inl rfl | exact Or.inr rfl) (d_slice (d_var 3) (o_some d_int) o_none)))) s_nil))))) (r_one (r_of (s_ret (d_tuple rfl B.b_tuple (da_cons (d_var 2) da_nil))))))))⟩
abbrev s_rest : Stmt := top 8
noncomputable def g_rest : DS → Option DF := (seqF (setF 3 (vF 2)) (seqF (forF (itF (callF (consD (vF 0) (consD (vF 1) nilF)) F_plain)) (bind1 4) (setF 3 (callF (consD (vF 3) (consD (vF 4) (consD (callF (consD (vF 4) nilF) F_lead_place) nilF))) F_lowered))) (retF (vF 3))))
noncomputable def F_rest : List D → Option D := runD 3 ["lot", "wide", "row", "left", "line"] g_rest
theorem sc_rest : FnScope ["lot", "wide", "row", "left", "line"] ["lot", "wide", "row"] (defScope s_rest) := ⟨rfl, rfl, rfl, by decide +kernel, rfl, by decide +kernel, by decide +kernel⟩
theorem ok_rest (B : Bl P mg) (F : Fun K "rest" "rest" s_rest f fd) (hm : mg "rest" = some (.ref f)) (c_lead_place : Ca P w K mg base 4 "lead_place" F_lead_place) (c_lowered : Ca P w K mg base 4 "lowered" F_lowered) (c_plain : Ca P w K mg base 4 "plain" F_plain) : Ca P w K mg base 5 "rest" F_rest :=
  def_ok (g := g_rest) F sc_rest hm (F.binds fun _ _ _ _ _ _ us hl => match us, hl with | [_, _, _], _ => rfl) fun cdv A outer s H E hr => ⟨[], (s_cons (s_set 3 sc_rest.nd rfl (by first | exact Or.inl rfl | exact Or.inr rfl) (d_var 2)) (s_cons (s_for PassesOwn.never rfl (i_seq (d_call c_plain hr rfl (da_cons (d_var 0) (da_cons (d_var 1) da_nil)))) (g_name (i := 4) sc_rest.nd rfl (by first | exact Or.inl rfl | exact Or.inr rfl)) (by decide) (fun _ => (s_one (s_set 3 sc_rest.nd rfl (by first | exact Or.inl rfl | exact Or.inr rfl) (d_call c_lowered hr rfl (da_cons (d_var 3) (da_cons (d_var 4) (da_cons (d_call c_lead_place hr rfl (da_cons (d_var 4) da_nil)) da_nil)))))))) (s_one (s_ret (d_var 3)))))⟩
abbrev s_leads : Stmt := top 10
noncomputable def g_leads : DS → Option DF := (retF (lstF (compF (itF (vF 0)) (bind1 0) yesT (bind2 (vF 0) (callF (consD (vF 0) nilF) F_lead_place) ixD) [none])))
noncomputable def F_leads : List D → Option D := runD 1 ["lines"] g_leads
theorem sc_leads : FnScope ["lines"] ["lines"] (defScope s_leads) := ⟨rfl, rfl, rfl, by decide +kernel, rfl, by decide +kernel, by decide +kernel⟩
theorem ok_leads (B : Bl P mg) (F : Fun K "leads" "leads" s_leads f fd) (hm : mg "leads" = some (.ref f)) (c_lead_place : Ca P w K mg base 1 "lead_place" F_lead_place) : Ca P w K mg base 2 "leads" F_leads :=
  def_ok (g := g_leads) F sc_leads hm (F.binds fun _ _ _ _ _ _ us hl => match us, hl with | [_], _ => rfl) fun cdv A outer s H E hr => ⟨[], (s_one (s_ret (d_comp rfl (compSc_mk (N' := ["line"]) (inn := [none]) (defScope s_leads) ["lines"] rfl rfl (by decide +kernel)) (i_seq (d_var 0)) (fun _ _ _ _ => ⟨(g_name (i := 0) (show (["line"] : List Str).Nodup by decide +kernel) rfl (by first | exact Or.inl rfl | exact Or.inr rfl)), ifs_nil, (d_ix (d_var 0) (d_call c_lead_place hr rfl (da_cons (d_var 0) da_nil)))⟩))))⟩
abbrev s_weight : Stmt := top 11
noncomputable def g_weight : DS → Option DF := (seqF (setF 2 (callF (consD (vF 0) (consD (vF 1) nilF)) F_plain)) (seqF (ifF (bT (bind2 (callF (consD (vF 2) nilF) lenD) (vF 1) ltD)) (retF (cF .non)) nxF) (seqF (setF 3 (cF (.int 1))) (seqF (forF (itF (callF (consD (vF 2) nilF) F_leads)) (bind1 4) (setF 3 (bind2 (vF 3) (vF 4) mulD))) (retF (vF 3))))))
noncomputable def F_weight : List D → Option D := runD 2 ["lot", "wide", "lines", "many", "lead"] g_weight
theorem sc_weight : FnScope ["lot", "wide", "lines", "many", "lead"] ["lot", "wide"] (defScope s_weight) := ⟨rfl, rfl, rfl, by decide +kernel, rfl, by decide +kernel, by decide +kernel⟩
theorem ok_weight (B : Bl P mg) (F : Fun K "weight" "weight" s_weight f fd) (hm : mg "weight" = some (.ref f)) (c_plain : Ca P w K mg base 4 "plain" F_plain) (c_leads : Ca P w K mg base 4 "leads" F_leads) : Ca P w K mg base 5 "weight" F_weight :=
  def_ok (g := g_weight) F sc_weight hm (F.binds fun _ _ _ _ _ _ us hl => match us, hl with | [_, _], _ => rfl) fun cdv A outer s H E hr => ⟨[], (s_cons (s_set 2 sc_weight.nd rfl (by first | exact Or.inl rfl | exact Or.inr rfl) (d_call c_plain hr rfl (da_cons (d_var 0) (da_cons (d_var 1) da_nil)))) (s_cons (s_if (t_lt (d_len rfl B.b_len (da_cons (d_var 2) da_nil)) (d_var 1)) (s_one (s_ret d_non)) s_nil) (s_cons (s_set 3 sc_weight.nd rfl (by first | exact Or.inl rfl | exact Or.inr rfl) d_int) (s_cons (s_for PassesOwn.never rfl (i_seq (d_call c_leads hr rfl (da_cons (d_var 2) da_nil))) (g_name (i := 4) sc_weight.nd rfl (by first | exact Or.inl rfl | exact Or.inr rfl)) (by decide) (fun _ => (s_one (s_set 3 sc_weight.nd rfl (by first | exact Or.inl rfl | exact Or.inr rfl) (d_mul (d_var 3) (d_var 4)))))) (s_one (s_ret (d_var 3)))))))⟩
abbrev s__law_cell : Stmt := top 13
noncomputable def g__law_cell : DS → Option DF := (seqF (ifF (bT (bind2 (vF 1) (callF (consD (vF 0) nilF) lenD) ltD)) (retF (bind2 (vF 0) (vF 1) ixD)) nxF) (retF (cF (.int 0))))
noncomputable def F__law_cell : List D → Option D := runD 2 ["_law_script", "_law_k"] g__law_cell
theorem sc__law_cell : FnScope ["_law_script", "_law_k"] ["_law_script", "_law_k"] (defScope s__law_cell) := ⟨rfl, rfl, rfl, by decide +kernel, rfl, by decide +kernel, by decide +kernel⟩
theorem ok__law_cell (B : Bl P mg) (F : Fun K "_law_cell" "_law_cell" s__law_cell f fd) (hm : mg "_law_cell" = some (.ref f))  : Ca P w K mg base 1 "_law_cell" F__law_cell :=
  def_ok (g := g__law_cell) F sc__law_cell hm (F.binds fun _ _ _ _ _ _ us hl => match us, hl with | [_, _], _ => rfl) fun cdv A outer s H E hr => ⟨[], (s_cons (s_if (t_lt (d_var 1) (d_len rfl B.b_len (da_cons (d_var 0) da_nil))) (s_one (s_ret (d_ix (d_var 0) (d_var 1)))) s_nil) (s_one (s_ret d_int)))⟩
abbrev s__law_mix : Stmt := top 14
noncomputable def g__law_mix : DS → Option DF := (retF (bind2 (bind2 (bind2 (vF 0) (cF (.int 48271)) mulD) (vF 1) modD) (vF 2) modD))
noncomputable def F__law_mix : List D → Option D := runD 3 ["_law_cell_here", "_law_prime", "_law_many"] g__law_mix
theorem sc__law_mix : FnScope ["_law_cell_here", "_law_prime", "_law_many"] ["_law_cell_here", "_law_prime", "_law_many"] (defScope s__law_mix) := ⟨rfl, rfl, rfl, by decide +kernel, rfl, by decide +kernel, by decide +kernel⟩
theorem ok__law_mix (B : Bl P mg) (F : Fun K "_law_mix" "_law_mix" s__law_mix f fd) (hm : mg "_law_mix" = some (.ref f))  : Ca P w K mg base 1 "_law_mix" F__law_mix :=
  def_ok (g := g__law_mix) F sc__law_mix hm (F.binds fun _ _ _ _ _ _ us hl => match us, hl with | [_, _, _], _ => rfl) fun cdv A outer s H E hr => ⟨[], (s_one (s_ret (d_mod (d_mod (d_mul (d_var 0) d_int) (d_var 1)) (d_var 2))))⟩
abbrev s__law_wide : Stmt := top 17
noncomputable def g__law_wide : DS → Option DF := (retF (bind2 (cF (.int 1)) (callF (consD (callF (consD (vF 0) (consD (cF (.int 0)) nilF)) F__law_cell) (consD (cF (.int 9967)) (consD (vF 1) nilF))) F__law_mix) addD))
noncomputable def F__law_wide : List D → Option D := runD 2 ["_law_script", "_law_most"] g__law_wide
theorem sc__law_wide : FnScope ["_law_script", "_law_most"] ["_law_script", "_law_most"] (defScope s__law_wide) := ⟨rfl, rfl, rfl, by decide +kernel, rfl, by decide +kernel, by decide +kernel⟩
theorem ok__law_wide (B : Bl P mg) (F : Fun K "_law_wide" "_law_wide" s__law_wide f fd) (hm : mg "_law_wide" = some (.ref f)) (c__law_cell : Ca P w K mg base 1 "_law_cell" F__law_cell) (c__law_mix : Ca P w K mg base 1 "_law_mix" F__law_mix) : Ca P w K mg base 2 "_law_wide" F__law_wide :=
  def_ok (g := g__law_wide) F sc__law_wide hm (F.binds fun _ _ _ _ _ _ us hl => match us, hl with | [_, _], _ => rfl) fun cdv A outer s H E hr => ⟨[], (s_one (s_ret (d_add d_int (d_call c__law_mix hr rfl (da_cons (d_call c__law_cell hr rfl (da_cons (d_var 0) (da_cons d_int da_nil))) (da_cons d_int (da_cons (d_var 1) da_nil)))))))⟩
abbrev s__law_whole : Stmt := top 19
noncomputable def g__law_whole : DS → Option DF := (retF (andD (callF (consD (vF 0) (consD (cF (.ty "int")) nilF)) isiD) (notD (callF (consD (vF 0) (consD (cF (.ty "bool")) nilF)) isiD))))
noncomputable def F__law_whole : List D → Option D := runD 1 ["_law_found"] g__law_whole
theorem sc__law_whole : FnScope ["_law_found"] ["_law_found"] (defScope s__law_whole) := ⟨rfl, rfl, rfl, by decide +kernel, rfl, by decide +kernel, by decide +kernel⟩
theorem ok__law_whole (B : Bl P mg) (F : Fun K "_law_whole" "_law_whole" s__law_whole f fd) (hm : mg "_law_whole" = some (.ref f))  : Ca P w K mg base 1 "_law_whole" F__law_whole :=
  def_ok (g := g__law_whole) F sc__law_whole hm (F.binds fun _ _ _ _ _ _ us hl => match us, hl with | [_], _ => rfl) fun cdv A outer s H E hr => ⟨[], (s_one (s_ret (d_and (d_isi rfl B.b_isinstance (da_cons (d_var 0) (da_cons (d_ty rfl B.b_int (by decide +kernel)) da_nil))) (d_one (d_not (d_isi rfl B.b_isinstance (da_cons (d_var 0) (da_cons (d_ty rfl B.b_bool (by decide +kernel)) da_nil))))))))⟩
abbrev s__law_thick : Stmt := top 20
noncomputable def g__law_thick : DS → Option DF := (seqF (setL 3 (dispF nilF)) (seqF (forF (fsF (consD (vF 2) nilF) range1D) (bind1 4) (seqF (setF 5 (bind2 (callF (consD (vF 0) (consD (bind2 (vF 1) (vF 4) addD) nilF)) F__law_cell) (bind2 (cF (.int 31)) (vF 4) mulD) addD)) (seqF (setF 6 (bind2 (lstF (compF (fsF (consD (vF 4) nilF) range1D) (bind1 0) yesT (cF (.int 0)) [none])) (lstF (dispF (consD (bind2 (cF (.int 1)) (callF (consD (vF 5) (consD (cF (.int 9949)) (consD (cF (.int 5)) nilF))) F__law_mix) addD) nilF))) addD)) (appF2 3 (callF (consD (bind2 (vF 6) (lstF (compF (fsF (consD (bind2 (vF 4) (cF (.int 1)) addD) (consD (vF 2) nilF)) range2D) (bind1 0) yesT (bind2 (callF (consD (bind2 (vF 1) (bind2 (cF (.int 7)) (vF 0) mulD) addD) (consD (cF (.int 9941)) (consD (cF (.int 9)) nilF))) F__law_mix) (cF (.int 4)) subD) [none, some 5])) addD) nilF) tupleD))))) (retF (callF (consD (vF 3) nilF) tupleD))))
noncomputable def F__law_thick : List D → Option D := runD 3 ["_law_script", "_law_k", "_law_wide_here", "_law_rows", "_law_n", "_law_cell_here", "_law_row_here"] g__law_thick
theorem sc__law_thick : FnScope ["_law_script", "_law_k", "_law_wide_here", "_law_rows", "_law_n", "_law_cell_here", "_law_row_here"] ["_law_script", "_law_k", "_law_wide_here"] (defScope s__law_thick) := ⟨rfl, rfl, rfl, by decide +kernel, rfl, by decide +kernel, by decide +kernel⟩
theorem ok__law_thick (B : Bl P mg) (F : Fun K "_law_thick" "_law_thick" s__law_thick f fd) (hm : mg "_law_thick" = some (.ref f)) (c__law_cell : Ca P w K mg base 1 "_law_cell" F__law_cell) (c__law_mix : Ca P w K mg base 1 "_law_mix" F__law_mix) : Ca P w K mg base 2 "_law_thick" F__law_thick :=
  def_ok (g := g__law_thick) F sc__law_thick hm (F.binds fun _ _ _ _ _ _ us hl => match us, hl with | [_, _, _], _ => rfl) fun cdv A outer s H E hr => ⟨[], (s_cons (s_setF 3 sc__law_thick.nd rfl (by first | exact Or.inl rfl | exact Or.inr rfl) (f_lst da_nil)) (s_cons (s_forR PassesOwn.never rfl (r_range1 rfl B.b_range (da_cons (d_var 2) da_nil)) (g_name (i := 4) sc__law_thick.nd rfl (by first | exact Or.inl rfl | exact Or.inr rfl)) (by decide) (s_cons (s_set 5 sc__law_thick.nd rfl (by first | exact Or.inl rfl | exact Or.inr rfl) (d_add (d_call c__law_cell hr rfl (da_cons (d_var 0) (da_cons (d_add (d_var 1) (d_var 4)) da_nil))) (d_mul d_int (d_var 4)))) (s_cons (s_set 6 sc__law_thick.nd rfl (by first | exact Or.inl rfl | exact Or.inr rfl) (d_add (d_comp rfl (compSc_mk (N' := ["_law_at"]) (inn := [none]) (defScope s__law_thick) ["_law_script", "_law_k", "_law_wide_here", "_law_rows", "_law_n", "_law_cell_here", "_law_row_here"] rfl rfl (by decide +kernel)) (i_of_r (r_range1 rfl B.b_range (da_cons (d_var 4) da_nil))) (fun _ _ _ _ => ⟨(g_name (i := 0) (show (["_law_at"] : List Str).Nodup by decide +kernel) rfl (by first | exact Or.inl rfl | exact Or.inr rfl)), ifs_nil, d_int⟩)) (d_lst (da_cons (d_add d_int (d_call c__law_mix hr rfl (da_cons (d_var 5) (da_cons d_int (da_cons d_int da_nil))))) da_nil)))) (s_one (s_append2 3 (by decide) rfl (by first | exact Or.inl rfl | exact Or.inr (Or.inl rfl) | exact Or.inr (Or.inr rfl)) (fun _ h => nomatch h) (d_tuple rfl B.b_tuple (da_cons (d_add (d_var 6) (d_comp rfl (compSc_mk (N' := ["_law_at", "_law_cell_here"]) (inn := [none, some 5]) (defScope s__law_thick) ["_law_script", "_law_k", "_law_wide_here", "_law_rows", "_law_n", "_law_cell_here", "_law_row_here"] rfl rfl (by decide +kernel)) (i_of_r (r_range2 rfl B.b_range (da_cons (d_add (d_var 4) d_int) (da_cons (d_var 2) da_nil)))) (fun _ _ _ _ => ⟨(g_name (i := 0) (show (["_law_at", "_law_cell_here"] : List Str).Nodup by decide +kernel) rfl (by first | exact Or.inl rfl | exact Or.inr rfl)), ifs_nil, (d_sub (d_call c__law_mix hr rfl (da_cons (d_add (d_var 1) (d_mul d_int (d_var 0))) (da_cons d_int (da_cons d_int da_nil)))) d_int)⟩))) da_nil))))))) (s_one (s_ret (d_tuple rfl B.b_tuple (da_cons (d_var 3) da_nil))))))⟩
abbrev s__law_step : Stmt := top 21
noncomputable def g__law_step : DS → Option DF := (seqF (setF 3 (callF (consD (vF 0) nilF) lenD)) (seqF (setF 4 (callF (consD (vF 1) (consD (cF (.int 9923)) (consD (vF 3) nilF))) F__law_mix)) (seqF (setF 5 (callF (consD (vF 1) (consD (cF (.int 9907)) (consD (vF 3) nilF))) F__law_mix)) (seqF (setL 6 (fsF (consD (vF 0) nilF) list1)) (seqF (setF 7 (callF (consD (vF 1) (consD (cF (.int 9901)) (consD (cF (.int 6)) nilF))) F__law_mix)) (seqF (setF 8 (bind2 (callF (consD (vF 1) (consD (cF (.int 9887)) (consD (cF (.int 7)) nilF))) F__law_mix) (cF (.int 3)) subD)) (seqF (ifF (bT (bind2 (vF 7) (cF (.int 0)) eqD)) (swapF 6 (vF 4) (vF 5) (bind2 (vF 6) (vF 5) ixD) (bind2 (vF 6) (vF 4) ixD)) nxF) (seqF (ifF (bT (bind2 (vF 7) (cF (.int 1)) eqD)) (putS 6 (vF 4) (callF (consD (lstF (compF (itF (bind2 (vF 6) (vF 4) ixD)) (bind1 0) yesT (unF (vF 0) negD) [none])) nilF) tupleD)) nxF) (seqF (ifF (andT (bT (bind2 (vF 7) (cF (.int 2)) eqD)) (bT (bind2 (vF 3) (cF (.int 7)) ltD))) (appF 6 (callF (consD (lstF (compF (fsF (consD (vF 2) nilF) range1D) (bind1 0) yesT (cF (.int 0)) [none])) nilF) tupleD)) nxF) (seqF (ifF (andT (bT (bind2 (vF 7) (cF (.int 3)) eqD)) (bT (bind2 (vF 3) (cF (.int 7)) ltD))) (insF 6 (vF 4) (callF (consD (lstF (compF (itF (bind2 (vF 6) (vF 5) ixD)) (bind1 0) yesT (bind2 (vF 1) (vF 0) mulD) [none, some 8])) nilF) tupleD)) nxF) (seqF (ifF (andT (bT (bind2 (vF 7) (cF (.int 3)) gtD)) (bT (bind2 (vF 4) (vF 5) neD))) (putS 6 (vF 4) (callF (consD (lstF (compF (fsF (consD (bind2 (vF 6) (vF 4) ixD) (consD (bind2 (vF 6) (vF 5) ixD) nilF)) zip2) (bindP 0 1) yesT (bind2 (vF 0) (bind2 (vF 2) (vF 1) mulD) addD) [none, none, some 8])) nilF) tupleD)) nxF) (retF (callF (consD (vF 6) nilF) tupleD)))))))))))))
noncomputable def F__law_step : List D → Option D := runD 3 ["_law_lot_here", "_law_cell_here", "_law_wide_here", "_law_many", "_law_i", "_law_j", "_law_rows", "_law_kind", "_law_times"] g__law_step
theorem sc__law_step : FnScope ["_law_lot_here", "_law_cell_here", "_law_wide_here", "_law_many", "_law_i", "_law_j", "_law_rows", "_law_kind", "_law_times"] ["_law_lot_here", "_law_cell_here", "_law_wide_here"] (defScope s__law_step) := ⟨rfl, rfl, rfl, by decide +kernel, rfl, by decide +kernel, by decide +kernel⟩
theorem ok__law_step (B : Bl P mg) (F : Fun K "_law_step" "_law_step" s__law_step f fd) (hm : mg "_law_step" = some (.ref f)) (c__law_mix : Ca P w K mg base 1 "_law_mix" F__law_mix) : Ca P w K mg base 2 "_law_step" F__law_step :=
  def_ok (g := g__law_step) F sc__law_step hm (F.binds fun _ _ _ _ _ _ us hl => match us, hl with | [_, _, _], _ => rfl) fun cdv A outer s H E hr => ⟨[], (s_cons (s_set 3 sc__law_step.nd rfl (by first | exact Or.inl rfl | exact Or.inr rfl) (d_len rfl B.b_len (da_cons (d_var 0) da_nil))) (s_cons (s_set 4 sc__law_step.nd rfl (by first | exact Or.inl rfl | exact Or.inr rfl) (d_call c__law_mix hr rfl (da_cons (d_var 1) (da_cons d_int (da_cons (d_var 3) da_nil))))) (s_cons (s_set 5 sc__law_step.nd rfl (by first | exact Or.inl rfl | exact Or.inr rfl) (d_call c__law_mix hr rfl (da_cons (d_var 1) (da_cons d_int (da_cons (d_var 3) da_nil))))) (s_cons (s_setF 6 sc__law_step.nd rfl (by first | exact Or.inl rfl | exact Or.inr rfl) (f_list rfl B.b_list (da_cons (d_var 0) da_nil))) (s_cons (s_set 7 sc__law_step.nd rfl (by first | exact Or.inl rfl | exact Or.inr rfl) (d_call c__law_mix hr rfl (da_cons (d_var 1) (da_cons d_int (da_cons d_int da_nil))))) (s_cons (s_set 8 sc__law_step.nd rfl (by first | exact Or.inl rfl | exact Or.inr rfl) (d_sub (d_call c__law_mix hr rfl (da_cons (d_var 1) (da_cons d_int (da_cons d_int da_nil)))) d_int)) (s_cons (s_if (t_eq hr (d_var 7) d_int) (s_one (s_swap 6 rfl (by decide) rfl (by first | exact Or.inl rfl | exact Or.inr (Or.inl rfl) | exact Or.inr (Or.inr rfl)) (fun _ h => nomatch h) (d_var 4) (d_var 5) (d_tup (da_cons (d_ix (d_var 6) (d_var 5)) (da_cons (d_ix (d_var 6) (d_var 4)) da_nil))))) s_nil) (s_cons (s_if (t_eq hr (d_var 7) d_int) (s_one (s_put 6 (by decide) rfl (by first | exact Or.inl rfl | exact Or.inr (Or.inl rfl) | exact Or.inr (Or.inr rfl)) (fun _ h => nomatch h) (d_var 4) (d_tuple rfl B.b_tuple (da_cons (d_comp rfl (compSc_mk (N' := ["_law_one"]) (inn := [none]) (defScope s__law_step) ["_law_lot_here", "_law_cell_here", "_law_wide_here", "_law_many", "_law_i", "_law_j", "_law_rows", "_law_kind", "_law_times"] rfl rfl (by decide +kernel)) (i_seq (d_ix (d_var 6) (d_var 4))) (fun _ _ _ _ => ⟨(g_name (i := 0) (show (["_law_one"] : List Str).Nodup by decide +kernel) rfl (by first | exact Or.inl rfl | exact Or.inr rfl)), ifs_nil, (d_neg (d_var 0))⟩)) da_nil)))) s_nil) (s_cons (s_if (PW.pt (w_and (t_eq hr (d_var 7) d_int) (PT.pw_and1 (t_lt (d_var 3) d_int)))) (s_one (s_append 6 (by decide) rfl (by first | exact Or.inl rfl | exact Or.inr (Or.inl rfl) | exact Or.inr (Or.inr rfl)) (fun _ h => nomatch h) (d_tuple rfl B.b_tuple (da_cons (d_comp rfl (compSc_mk (N' := ["_law_one"]) (inn := [none]) (defScope s__law_step) ["_law_lot_here", "_law_cell_here", "_law_wide_here", "_law_many", "_law_i", "_law_j", "_law_rows", "_law_kind", "_law_times"] rfl rfl (by decide +kernel)) (i_of_r (r_range1 rfl B.b_range (da_cons (d_var 2) da_nil))) (fun _ _ _ _ => ⟨(g_name (i := 0) (show (["_law_one"] : List Str).Nodup by decide +kernel) rfl (by first | exact Or.inl rfl | exact Or.inr rfl)), ifs_nil, d_int⟩)) da_nil)))) s_nil) (s_cons (s_if (PW.pt (w_and (t_eq hr (d_var 7) d_int) (PT.pw_and1 (t_lt (d_var 3) d_int)))) (s_one (s_insert 6 (by decide) rfl (by first | exact Or.inl rfl | exact Or.inr (Or.inl rfl) | exact Or.inr (Or.inr rfl)) (fun _ h => nomatch h) (d_var 4) (d_tuple rfl B.b_tuple (da_cons (d_comp rfl (compSc_mk (N' := ["_law_one", "_law_times"]) (inn := [none, some 8]) (defScope s__law_step) ["_law_lot_here", "_law_cell_here", "_law_wide_here", "_law_many", "_law_i", "_law_j", "_law_rows", "_law_kind", "_law_times"] rfl rfl (by decide +kernel)) (i_seq (d_ix (d_var 6) (d_var 5))) (fun _ _ _ _ => ⟨(g_name (i := 0) (show (["_law_one", "_law_times"] : List Str).Nodup by decide +kernel) rfl (by first | exact Or.inl rfl | exact Or.inr rfl)), ifs_nil, (d_mul (d_var 1) (d_var 0))⟩)) da_nil)))) s_nil) (s_cons (s_if (PW.pt (w_and (t_gt (d_var 7) d_int) (PT.pw_and1 (t_ne hr (d_var 4) (d_var 5))))) (s_one (s_put 6 (by decide) rfl (by first | exact Or.inl rfl | exact Or.inr (Or.inl rfl) | exact Or.inr (Or.inr rfl)) (fun _ h => nomatch h) (d_var 4) (d_tuple rfl B.b_tuple (da_cons (d_comp rfl (compSc_mk (N' := ["_law_a", "_law_b", "_law_times"]) (inn := [none, none, some 8]) (defScope s__law_step) ["_law_lot_here", "_law_cell_here", "_law_wide_here", "_law_many", "_law_i", "_law_j", "_law_rows", "_law_kind", "_law_times"] rfl rfl (by decide +kernel)) (i_zip rfl B.b_zip (da_cons (d_ix (d_var 6) (d_var 4)) (da_cons (d_ix (d_var 6) (d_var 5)) da_nil))) (fun _ _ _ _ => ⟨(g_pair (i := 0) (j := 1) rfl (show (["_law_a", "_law_b", "_law_times"] : List Str).Nodup by decide +kernel) rfl rfl (by first | exact Or.inl rfl | exact Or.inr rfl) (by first | exact Or.inl rfl | exact Or.inr rfl)), ifs_nil, (d_add (d_var 0) (d_mul (d_var 2) (d_var 1)))⟩)) da_nil)))) s_nil) (s_one (s_ret (d_tuple rfl B.b_tuple (da_cons (d_var 6) da_nil)))))))))))))))⟩
abbrev s__law_rests : Stmt := top 22
noncomputable def g__law_rests : DS → Option DF := (seqF (setF 2 (lstF (dispF (consD (tupF nilF) nilF)))) (seqF (forF (fsF (consD (vF 1) nilF) range1D) (bind1 3) (seqF (setL 4 (dispF nilF)) (seqF (extF 2 4 5 (lstF (compF (fsF (consD (cF (.int 6)) nilF) range1D) (bind1 0) yesT (bind2 (vF 1) (tupF (consD (vF 0) nilF)) addD) [none, some 5]))) (setF 2 (vF 4))))) (tallyF 2 6 5 (callF (consD (vF 0) (consD (vF 1) (consD (vF 5) nilF))) F_rest))))
noncomputable def F__law_rests : List D → Option D := runD 2 ["_law_lot_here", "_law_wide_here", "_law_rows", "_law_at", "_law_more", "_law_row_here", "_law_found"] g__law_rests
theorem sc__law_rests : FnScope ["_law_lot_here", "_law_wide_here", "_law_rows", "_law_at", "_law_more", "_law_row_here", "_law_found"] ["_law_lot_here", "_law_wide_here"] (defScope s__law_rests) := ⟨rfl, rfl, rfl, by decide +kernel, rfl, by decide +kernel, by decide +kernel⟩
theorem ok__law_rests (B : Bl P mg) (F : Fun K "_law_rests" "_law_rests" s__law_rests f fd) (hm : mg "_law_rests" = some (.ref f)) (c_rest : Ca P w K mg base 5 "rest" F_rest) : Ca P w K mg base 6 "_law_rests" F__law_rests :=
  def_ok (g := g__law_rests) F sc__law_rests hm (F.binds fun _ _ _ _ _ _ us hl => match us, hl with | [_, _], _ => rfl) fun cdv A outer s H E hr => ⟨[], (s_cons (s_set 2 sc__law_rests.nd rfl (by first | exact Or.inl rfl | exact Or.inr rfl) (d_lst (da_cons (d_tup da_nil) da_nil))) (s_cons (s_forR PassesOwn.never rfl (r_range1 rfl B.b_range (da_cons (d_var 1) da_nil)) (g_name (i := 3) sc__law_rests.nd rfl (by first | exact Or.inl rfl | exact Or.inr rfl)) (by decide) (ss_weak [] (by decide) (s_cons (s_setF 4 sc__law_rests.nd rfl (by first | exact Or.inl rfl | exact Or.inr rfl) (f_lst da_nil)) (s_cons (s_extloop 2 4 5 PassesOwn.never rfl sc__law_rests.nd rfl rfl rfl (by first | exact Or.inl rfl | exact Or.inr (Or.inl rfl) | exact Or.inr (Or.inr rfl)) (by first | exact Or.inl rfl | exact Or.inr (Or.inl rfl) | exact Or.inr (Or.inr rfl)) (by first | exact Or.inl rfl | exact Or.inr rfl) (by decide) (by decide) (by decide) (by decide) (fun _ h => nomatch h) (d_comp rfl (compSc_mk (N' := ["_law_number", "_law_row_here"]) (inn := [none, some 5]) (defScope s__law_rests) ["_law_lot_here", "_law_wide_here", "_law_rows", "_law_at", "_law_more", "_law_row_here", "_law_found"] rfl rfl (by decide +kernel)) (i_of_r (r_range1 rfl B.b_range (da_cons d_int da_nil))) (fun _ _ _ _ => ⟨(g_name (i := 0) (show (["_law_number", "_law_row_here"] : List Str).Nodup by decide +kernel) rfl (by first | exact Or.inl rfl | exact Or.inr rfl)), ifs_nil, (d_add (d_var 1) (d_tup (da_cons (d_var 0) da_nil)))⟩))) (s_one (s_set 2 sc__law_rests.nd rfl (by first | exact Or.inl rfl | exact Or.inr rfl) (d_var 4))))))) (s_tally 2 6 5 hr rfl B.b_len PassesOwn.never rfl sc__law_rests.nd rfl rfl rfl (by first | exact Or.inl rfl | exact Or.inr (Or.inl rfl) | exact Or.inr (Or.inr rfl)) (by first | exact Or.inl rfl | exact Or.inr (Or.inl rfl) | exact Or.inr (Or.inr rfl)) (by first | exact Or.inl rfl | exact Or.inr rfl) (by first | exact Or.inl rfl | exact Or.inr rfl) (by decide) (by decide) (by decide) (by decide) (d_call c_rest hr rfl (da_cons (d_var 0) (da_cons (d_var 1) (da_cons (d_var 5) da_nil)))) d_bl)))⟩
abbrev s_law : Stmt := top 23
noncomputable def g_law : DS → Option DF := (seqF (setF 1 (callF (consD (vF 0) (consD (cF (.int 3)) nilF)) F__law_wide)) (seqF (setF 2 (callF (consD (vF 0) (consD (cF (.int 1)) (consD (vF 1) nilF))) F__law_thick)) (seqF (setF 3 (cF (.int 1))) (seqF (forF (fsF (consD (vF 2) nilF) enumD) (bindP 4 5) (setF 3 (bind2 (vF 3) (bind2 (vF 5) (vF 4) ixD) mulD))) (seqF (ifF (orT (bT (bind2 (callF (consD (slF (vF 2) oN (oS (unF (cF (.int 1)) negD))) (consD (vF 1) nilF)) F_weight) (cF .non) isnD)) (andT (bT (bind2 (vF 3) (cF (.int 6)) leD)) (andT (bT (bind2 (vF 1) (cF (.int 3)) ltD)) (bT (bind2 (callF (consD (vF 2) (consD (vF 1) nilF)) F__law_rests) (vF 3) neD))))) (retF (cF (.bl false))) nxF) (seqF (forF (itF (slF (vF 0) (oS (cF (.int 5))) (oS (cF (.int 13))))) (bind1 6) (seqF (setF 2 (callF (consD (vF 2) (consD (vF 6) (consD (vF 1) nilF))) F__law_step)) (ifF (orT (notT (truT (callF (consD (callF (consD (vF 2) (consD (vF 1) nilF)) F_weight) nilF) F__law_whole))) (bT (bind2 (callF (consD (vF 2) (consD (vF 1) nilF)) F_weight) (vF 3) neD))) (retF (cF (.bl false))) nxF))) (retF (bind2 (callF (consD (vF 2) (consD (vF 1) nilF)) F_weight) (vF 3) eqD))))))))
noncomputable def F_law : List D → Option D := runD 1 ["_law_script", "_law_wide_here", "_law_lot_here", "_law_due", "_law_k", "_law_row_here", "_law_cell_here"] g_law
theorem sc_law : FnScope ["_law_script", "_law_wide_here", "_law_lot_here", "_law_due", "_law_k", "_law_row_here", "_law_cell_here"] ["_law_script"] (defScope s_law) := ⟨rfl, rfl, rfl, by decide +kernel, rfl, by decide +kernel, by decide +kernel⟩
theorem ok_law (B : Bl P mg) (F : Fun K "law" "law" s_law f fd) (c_weight : Ca P w K mg base 6 "weight" F_weight) (c__law_wide : Ca P w K mg base 6 "_law_wide" F__law_wide) (c__law_whole : Ca P w K mg base 6 "_law_whole" F__law_whole) (c__law_thick : Ca P w K mg base 6 "_law_thick" F__law_thick) (c__law_step : Ca P w K mg base 6 "_law_step" F__law_step) (c__law_rests : Ca P w K mg base 6 "_law_rests" F__law_rests) : FnOk P w K mg base CX0 7 f fd ["_law_script"] (spD K F_law) :=
  def_fn (g := g_law) F sc_law fun cdv A outer s H E hr => ⟨[], (s_cons (s_set 1 sc_law.nd rfl (by first | exact Or.inl rfl | exact Or.inr rfl) (d_call c__law_wide hr rfl (da_cons (d_var 0) (da_cons d_int da_nil)))) (s_cons (s_set 2 sc_law.nd rfl (by first | exact Or.inl rfl | exact Or.inr rfl) (d_call c__law_thick hr rfl (da_cons (d_var 0) (da_cons d_int (da_cons (d_var 1) da_nil))))) (s_cons (s_set 3 sc_law.nd rfl (by first | exact Or.inl rfl | exact Or.inr rfl) d_int) (s_cons (s_for PassesOwn.never rfl (i_enum rfl B.b_enumerate (da_cons (d_var 2) da_nil)) (g_pair (i := 4) (j := 5) rfl sc_law.nd rfl rfl (by first | exact Or.inl rfl | exact Or.inr rfl) (by first | exact Or.inl rfl | exact Or.inr rfl)) (by decide) (fun _ => (s_one (s_set 3 sc_law.nd rfl (by first | exact Or.inl rfl | exact Or.inr rfl) (d_mul (d_var 3) (d_ix (d_var 5) (d_var 4))))))) (s_cons (s_if (PW.pt (w_or (t_isn (d_call c_weight hr rfl (da_cons (d_slice (d_var 2) o_none (o_some (d_neg d_int))) (da_cons (d_var 1) da_nil))) d_non) (PT.pw_or1 (PW.pt (w_and (t_le (d_var 3) d_int) (w_and (t_lt (d_var 1) d_int) (PT.pw_and1 (t_ne hr (d_call c__law_rests hr rfl (da_cons (d_var 2) (da_cons (d_var 1) da_nil))) (d_var 3))))))))) (s_one (s_ret d_bl)) s_nil) (s_cons (s_for PassesOwn.never rfl (i_seq (d_slice (d_var 0) (o_some d_int) (o_some d_int))) (g_name (i := 6) sc_law.nd rfl (by first | exact Or.inl rfl | exact Or.inr rfl)) (by decide) (fun _ => (s_cons (s_set 2 sc_law.nd rfl (by first | exact Or.inl rfl | exact Or.inr rfl) (d_call c__law_step hr rfl (da_cons (d_var 2) (da_cons (d_var 6) (da_cons (d_var 1) da_nil))))) (s_one (s_if (PW.pt (w_or (t_not (t_truth (d_call c__law_whole hr rfl (da_cons (d_call c_weight hr rfl (da_cons (d_var 2) (da_cons (d_var 1) da_nil))) da_nil)))) (PT.pw_or1 (t_ne hr (d_call c_weight hr rfl (da_cons (d_var 2) (da_cons (d_var 1) da_nil))) (d_var 3))))) (s_one (s_ret d_bl)) s_nil))))) (s_one (s_ret (d_eq hr (d_call c_weight hr rfl (da_cons (d_var 2) (da_cons (d_var 1) da_nil))) (d_var 3))))))))))⟩
end
theorem subZ_zip (r s : List Int) (t : Int) : (r.zip s).map (fun p => D.int (p.1 - t * p.2)) = (La.subZ r t s).map D.int := by
  unfold La.subZ
  rw [zipWith_zip, List.map_map]; rfl
theorem F_less_eq (r s : List Int) (t : Int) (hl : r.length ≤ 1000) (hm : ∀ b ∈ s, okMul t b = true) : F_less [rowD r, .int t, rowD s] = some (rowD (La.subZ r t s)) := by
  have h2 : compD (bindP 0 1) yesT (bind2 (vF 0) (bind2 (vF 2) (vF 1) mulD) subD) [none, none, some (.int t)] ((r.zip s).map fun p => D.tup [.int p.1, .int p.2]) = some ((r.zip s).map fun p => D.int (p.1 - t * p.2)) :=
    compD_map (fun δ => ∃ a b, δ = [a, b, some (.int t)]) _ _ _ _ ⟨none, none, rfl⟩ (by
      rintro ⟨a, b⟩ hab δ ⟨y, z, rfl⟩
      refine ⟨[some (.int a), some (.int b), some (.int t)], rfl, ⟨_, _, rfl⟩, rfl, ?_⟩
      simp only [vF, cF, unF, nilF, callF, lstF, dispF, tupF, fsF, compF, oN, oS, bT, yesT, truT, andT, orT, notT, itF, nxF, retF, setF, setL, ifF, forF, seqF, consD, bind2, andD, orD, notD, asB, asI, runD, bind1, bindP, List.length_cons, List.length_nil, List.map_cons, List.map_nil, List.getElem?_cons_zero, List.getElem?_cons_succ, List.set_cons_zero, List.set_cons_succ, Option.join_some, Option.bind_some, Option.map_some, Option.join_none, Option.bind_none, Option.map_none, innD, List.cons_append, List.nil_append, List.replicate, Nat.sub_self, Nat.reduceAdd, Nat.reduceSub, if_true, if_false, mulD, subD, hm b (List.of_mem_zip hab).2])
  simp only [F_less, g_less, vF, cF, unF, nilF, callF, lstF, dispF, tupF, fsF, compF, oN, oS, bT, yesT, truT, andT, orT, notT, itF, nxF, retF, setF, setL, ifF, forF, seqF, consD, bind2, andD, orD, notD, asB, asI, runD, bind1, bindP, List.length_cons, List.length_nil, List.map_cons, List.map_nil, List.getElem?_cons_zero, List.getElem?_cons_succ, List.set_cons_zero, List.set_cons_succ, Option.join_some, Option.bind_some, Option.map_some, Option.join_none, Option.bind_none, Option.map_none, innD, List.cons_append, List.nil_append, List.replicate, Nat.sub_self, Nat.reduceAdd, Nat.reduceSub, if_true, if_false, zip2, itemsD, rowD, zipD_map, h2, tupleD, subZ_zip]
theorem F_lowered_eq {r l : List Int} {p w b : Nat} (hr : r.length = w) (hl : l.length = w) (hp : p < w) (hw : w ≤ 1000) (h0 : La.at' l p ≠ 0) (hbr : (La.at' r p).natAbs ≤ 2 ^ b) (hbl : ∀ j, (La.at' l j).natAbs ≤ 2 ^ b) (hb : b < 59999999) :
    F_lowered [rowD r, rowD l, .int (p : Int)] = some (rowD (La.lowZ r l p)) := by
  have hq : ((La.at' r p).fdiv (La.at' l p)).natAbs ≤ 2 ^ (b + 1) := by
    have h1 := La.fdiv_abs h0 hbr
    have h2 : 2 ^ b / (La.at' l p).natAbs ≤ 2 ^ b := Nat.div_le_self _ _
    have h3 : 1 ≤ 2 ^ b := Nat.one_le_two_pow
    rw [Nat.pow_succ]; omega
  have e := F_less_eq r l ((La.at' r p).fdiv (La.at' l p)) (by omega) fun c hc => by
    obtain ⟨j, hj⟩ := at_mem hc
    rw [← hj]
    exact okMul_of (k := b + 1) hq (Nat.le_trans (hbl j) (Nat.pow_le_pow_right (by decide) (Nat.le_succ b))) (by omega)
  have i1 := ixD_row (r := r) (p := p) (by omega)
  have i2 := ixD_row (r := l) (p := p) (by omega)
  have f1 := fdivD_int (i := La.at' r p) h0
  simp only [F_lowered, g_lowered, vF, cF, unF, nilF, callF, lstF, dispF, tupF, fsF, compF, oN, oS, bT, yesT, truT, andT, orT, notT, itF, nxF, retF, setF, setL, ifF, forF, seqF, consD, bind2, andD, orD, notD, asB, asI, runD, bind1, bindP, List.length_cons, List.length_nil, List.map_cons, List.map_nil, List.getElem?_cons_zero, List.getElem?_cons_succ, List.set_cons_zero, List.set_cons_succ, Option.join_some, Option.bind_some, Option.map_some, Option.join_none, Option.bind_none, Option.map_none, innD, List.cons_append, List.nil_append, List.replicate, Nat.sub_self, Nat.reduceAdd, Nat.reduceSub, if_true, if_false, i1, i2, f1, e, La.lowZ]
theorem ix0_row {r : List Int} {p : Nat} (h : p < r.length) (δ : DS) (f g : DS → Option D) (h1 : f δ = some (rowD r)) (h2 : g δ = some (.int (p : Int))) : bind2 f g ixD δ = some (.int (La.at' r p)) := (bind2_eq h1 h2).trans (ixD_row h)
theorem eq0 (a : Int) : eqD (.int a) (.int 0) = some (.bl (a == 0)) := rfl
theorem ne0 (a : Int) : neD (.int a) (.int 0) = some (.bl (!(a == 0))) := rfl
theorem comp_eq0 {rows : List (List Int)} {w pl : Nat} (hl : ∀ r ∈ rows, r.length = w) (hp : pl < w) : compD (bind1 0) (bT (bind2 (bind2 (vF 0) (vF 1) ixD) (cF (.int 0)) eqD)) (vF 0) [none, some (.int (pl : Int))] (rows.map rowD) = some ((rows.filter fun r => La.at' r pl == 0).map rowD) :=
  compD_filter (fun δ => ∃ a, δ = [a, some (.int (pl : Int))]) rowD (fun r => La.at' r pl == 0) rowD rows _ ⟨none, rfl⟩ (by
    rintro r hr δ ⟨a, rfl⟩
    refine ⟨[some (rowD r), some (.int pl)], rfl, ⟨_, rfl⟩, ?_, fun _ => rfl⟩
    exact bT_eq ((bind2_eq (ix0_row (p := pl) (by rw [hl r hr]; exact hp) _ _ _ rfl rfl) rfl).trans (eq0 _)))
theorem comp_ne0 {rows : List (List Int)} {w pl : Nat} (hl : ∀ r ∈ rows, r.length = w) (hp : pl < w) : compD (bind1 0) (bT (bind2 (bind2 (vF 0) (vF 1) ixD) (cF (.int 0)) neD)) (vF 0) [none, some (.int (pl : Int))] (rows.map rowD) = some ((rows.filter fun r => La.at' r pl != 0).map rowD) :=
  compD_filter (fun δ => ∃ a, δ = [a, some (.int (pl : Int))]) rowD (fun r => La.at' r pl != 0) rowD rows _ ⟨none, rfl⟩ (by
    rintro r hr δ ⟨a, rfl⟩
    refine ⟨[some (rowD r), some (.int pl)], rfl, ⟨_, rfl⟩, ?_, fun _ => rfl⟩
    exact bT_eq ((bind2_eq (ix0_row (p := pl) (by rw [hl r hr]; exact hp) _ _ _ rfl rfl) rfl).trans (ne0 _)))
theorem ix_head (x : D) (xs : List D) : ixD (.lst (x :: xs)) (.int 0) = some x := by
  show atI (x :: xs) ((0 : Nat) : Int) = some x
  exact atI_nat rfl
theorem slD_tail (xs : List D) : slD (.lst xs) (some 1) none = some (.lst (xs.drop 1)) := by
  simp only [slD]
  unfold cutD
  rw [show HT.sIx xs.length 0 (some 1) = min 1 xs.length from HT.sIx_nat xs.length 0 1, HT.sIx_none]
  congr 2
  rcases Nat.le_total 1 xs.length with z | z
  · rw [Nat.min_eq_left z, List.take_of_length_le (by rw [List.length_drop]; exact Nat.le_refl _)]
  · rw [Nat.min_eq_right z, List.drop_of_length_le (Nat.le_refl _), List.drop_of_length_le z]; simp
def gst (rows : List (List Int)) (pl : Nat) (busy clear : List (List Int)) (x4 : Option D) : DS := [some (.lst (rows.map rowD)), some (.int (pl : Int)), some (.lst (clear.map rowD)), some (.lst (busy.map rowD)), x4]
theorem abs_nat (a : Int) : (if a < 0 then -a else a) = (a.natAbs : Int) := by split <;> omega
theorem while_gathered {rows : List (List Int)} {w pl b : Nat} (hp : pl < w) (hw : w ≤ 1000) (hN : rows.length ≤ 60) (hb : La.nb b < 59999999) {Q1 : DF → Prop}
    (hQ : ∀ busy clear e f m R x4, La.GI w pl rows.length e f m R (2 ^ La.nb b) rows busy clear → m ≤ 2 ^ b → busy.length ≤ 1 → Q1 (.nx (gst rows pl busy clear x4))) :
    ∀ (n : Nat) (busy clear : List (List Int)) (e f m R : Nat) (x4 : Option D), La.busySum pl busy ≤ n → La.GI w pl rows.length e f m R (2 ^ La.nb b) rows busy clear → m ≤ 2 ^ b →
      whileN (bT (bind2 (callF (consD (vF 3) nilF) lenD) (cF (.int 1)) gtD)) (seqG (sortG 3 (vF 3) (callF (consD (bind2 (vF 0) (vF 1) ixD) nilF) absD) [none, some 1]) (seqG (ofG (setL 4 (compF (itF (slF (vF 3) (oS (cF (.int 1))) oN)) (bind1 0) yesT (callF (consD (vF 0) (consD (bind2 (vF 2) (cF (.int 0)) ixD) (consD (vF 1) nilF))) F_lowered) [none, some 1, some 3]))) (seqG (ofG (setF 2 (bind2 (vF 2) (lstF (compF (itF (vF 4)) (bind1 0) (bT (bind2 (bind2 (vF 0) (vF 1) ixD) (cF (.int 0)) eqD)) (vF 0) [none, some 1])) addD))) (ofG (setF 3 (bind2 (lstF (dispF (consD (bind2 (vF 3) (cF (.int 0)) ixD) nilF))) (lstF (compF (itF (vF 4)) (bind1 0) (bT (bind2 (bind2 (vF 0) (vF 1) ixD) (cF (.int 0)) neD)) (vF 0) [none, some 1])) addD)))))) (n + 1) (gst rows pl busy clear x4) Q1 := by
  intro n
  induction n with
  | zero =>
    intro busy clear e f m R x4 hs gi hm
    have hb0 : busy = [] := by
      cases busy with
      | nil => rfl
      | cons r t =>
        have := gi.bz r List.mem_cons_self
        simp only [La.busySum, List.map_cons, List.sum_cons] at hs
        omega
    subst hb0
    unfold whileN
    refine ⟨false, rfl, ?_⟩
    rw [if_neg (by decide)]
    exact hQ _ _ e f m R x4 gi hm (Nat.zero_le _)
  | succ n ih =>
    intro busy clear e f m R x4 hs gi hm
    unfold whileN
    refine ⟨decide (1 < (busy.length : Int)), ?_, ?_⟩
    · simp only [vF, cF, unF, nilF, callF, lstF, dispF, tupF, fsF, compF, oN, oS, bT, yesT, truT, andT, orT, notT, itF, nxF, retF, setF, setL, ifF, forF, seqF, consD, bind2, andD, orD, notD, asB, asI, runD, bind1, bindP, List.length_cons, List.length_nil, List.map_cons, List.map_nil, List.getElem?_cons_zero, List.getElem?_cons_succ, List.set_cons_zero, List.set_cons_succ, Option.join_some, Option.bind_some, Option.map_some, Option.join_none, Option.bind_none, Option.map_none, innD, List.cons_append, List.nil_append, List.replicate, Nat.sub_self, Nat.reduceAdd, Nat.reduceSub, if_true, if_false, gst, lenD, itemsD, gtD, List.length_map]
    by_cases h1 : 1 < (busy.length : Int)
    · rw [decide_eq_true h1, if_pos rfl]
      have lenB : ∀ r ∈ busy, r.length = w := fun r hr => gi.len r (List.mem_append_left _ hr)
      have cntb := gi.cnt
      refine ⟨fun fl => ∃ busy' clear' e' m' R' x4', fl = .nx (gst rows pl busy' clear' x4') ∧ La.GI w pl rows.length e' 0 m' R' (2 ^ La.nb b) rows busy' clear' ∧ m' ≤ 2 ^ b ∧ La.busySum pl busy' ≤ n, ?_, ?_⟩
      · refine seqG_mk (fun δ' => ∃ sb : List (List Int), sb.Perm busy ∧ sb.Pairwise (fun r s => (La.at' r pl).natAbs ≤ (La.at' s pl).natAbs) ∧ δ' = gst rows pl sb clear x4) ?_ ?_
        · refine ⟨busy.map rowD, busy.map fun r => ((La.at' r pl).natAbs : Int), rfl, by rw [List.length_map]; omega, by rw [List.length_map, List.length_map], fun i d k hd hk => ?_, fun qs hq hpw => ?_⟩
          · rw [List.getElem?_map] at hd hk
            cases hi : busy[i]? with
            | none => rw [hi] at hd; cases hd
            | some r =>
              rw [hi] at hd hk
              cases hd
              cases hk
              have hr := lenB r (List.mem_of_getElem? hi)
              have i1 := ix0_row (r := r) (p := pl) (by omega) [some (rowD r), some (.int (pl : Int))] (vF 0) (vF 1) rfl rfl
              show callF _ absD [some (rowD r), some (.int (pl : Int))] = _
              refine (callF_eq (consD_eq i1 rfl)).trans ?_
              simp only [absD, abs_nat]
          · have e1 : (busy.map fun r => ((La.at' r pl).natAbs : Int)).zip (busy.map rowD) = busy.map fun r => (((La.at' r pl).natAbs : Int), rowD r) := by
              rw [List.zip_map']
            rw [e1] at hq
            obtain ⟨sb, hsb, rfl⟩ := perm_lift hq busy rfl
            refine ⟨_, rfl, sb, hsb, ?_, ?_⟩
            · rw [List.pairwise_map] at hpw
              exact hpw.imp fun {r s} h => by
                have h' : ((La.at' r pl).natAbs : Int) ≤ ((La.at' s pl).natAbs : Int) := h
                omega
            · rw [List.map_map]; rfl
        · rintro δ' ⟨sb, hsb, hpw, rfl⟩
          have gs := gi.perm hsb
          have hlen : sb.length = busy.length := hsb.length_eq
          cases sb with
          | nil => simp only [List.length_nil] at hlen; omega
          | cons p0 rest =>
            have hrest : rest ≠ [] := by
              intro z; subst z
              simp only [List.length_cons, List.length_nil] at hlen; omega
            have ho : ∀ r ∈ rest, (La.at' p0 pl).natAbs ≤ (La.at' r pl).natAbs := (List.pairwise_cons.mp hpw).1
            obtain ⟨e', m', R', hm', gt⟩ := gs.turn hp ho hrest
            have hfall := La.busySum_turn gs ho hrest
            have hsum := La.busySum_perm (pl := pl) hsb
            have l0 : p0.length = w := gs.len p0 (by simp)
            have lr : ∀ r ∈ rest, r.length = w := fun r hr => gs.len r (by simp [hr])
            have hc0 : La.at' p0 pl ≠ 0 := gs.bz p0 List.mem_cons_self
            have hmb : (La.at' p0 pl).natAbs ≤ 2 ^ b := Nat.le_trans (gs.mb p0 List.mem_cons_self) hm
            have low : ∀ r ∈ rest, F_lowered [rowD r, rowD p0, .int (pl : Int)] = some (rowD (La.lowZ r p0 pl)) := fun r hr =>
              F_lowered_eq (b := La.nb b) (lr r hr) l0 hp hw hc0 (gs.all r (by simp [hr]) pl) (fun j => gs.all p0 (by simp) j) hb
            have cnt := gs.cnt
            have rl : rest.length ≤ 60 := by simp only [List.length_cons] at hlen; omega
            have cl : clear.length ≤ 60 := by omega
            have h2 : compD (bind1 0) yesT (callF (consD (vF 0) (consD (bind2 (vF 2) (cF (.int 0)) ixD) (consD (vF 1) nilF))) F_lowered) [none, some (.int (pl : Int)), some (.lst ((p0 :: rest).map rowD))] (rest.map rowD) = some ((rest.map fun r => La.lowZ r p0 pl).map rowD) := by
              rw [List.map_map]
              exact compD_map (fun δ => ∃ a, δ = [a, some (.int (pl : Int)), some (.lst ((p0 :: rest).map rowD))]) rowD _ _ _ ⟨none, rfl⟩ (by
                rintro r hr δ ⟨a, rfl⟩
                refine ⟨[some (rowD r), some (.int pl), some (.lst ((p0 :: rest).map rowD))], rfl, ⟨_, rfl⟩, rfl, ?_⟩
                exact (callF_eq (consD_eq rfl (consD_eq ((bind2_eq rfl rfl).trans (ix_head _ _)) (consD_eq rfl rfl)))).trans (low r hr))
            have lowLen : ∀ r ∈ rest.map (fun r => La.lowZ r p0 pl), r.length = w := fun r hr => by
              obtain ⟨q, hq, rfl⟩ := List.mem_map.mp hr
              unfold La.lowZ
              rw [La.subZ_len ((lr q hq).trans l0.symm)]; exact lr q hq
            have c1 := comp_eq0 lowLen hp
            have c2 := comp_ne0 lowLen hp
            generalize hleft : rest.map (fun r => La.lowZ r p0 pl) = left at h2 c1 c2 gt hfall lowLen
            have leftl : left.length ≤ 60 := by rw [← hleft, List.length_map]; exact rl
            refine seqG_of (δ' := gst rows pl (p0 :: rest) clear (some (.lst (left.map rowD)))) ?_ ?_
            · refine (setL_nx (ds := left.map rowD) ?_).trans rfl
              simp only [compF, itF, slF, oS, oN, cF, vF, gst, asI, List.getElem?_cons_zero, List.getElem?_cons_succ, Option.join_some, Option.bind_some, slD_tail, itemsD, innD, List.map_cons, List.map_nil, Option.bind_none, List.drop_succ_cons, List.drop_zero]
              exact h2
            refine seqG_of (δ' := gst rows pl (p0 :: rest) (clear ++ left.filter fun r => La.at' r pl == 0) (some (.lst (left.map rowD)))) ?_ ?_
            · have fl : (left.filter fun r => La.at' r pl == 0).length ≤ 60 := Nat.le_trans (List.length_filter_le _ _) leftl
              have ad := addD_lst (xs := clear.map rowD) (ys := (left.filter fun r => La.at' r pl == 0).map rowD) (by rw [List.length_map, List.length_map]; omega)
              refine (setF_nx (d := .lst ((clear ++ left.filter fun r => La.at' r pl == 0).map rowD)) ?_).trans rfl
              rw [List.map_append]
              refine (bind2_eq rfl (lstF_eq ?_)).trans ad
              simp only [compF, itF, vF, gst, List.getElem?_cons_zero, List.getElem?_cons_succ, Option.join_some, Option.bind_some, itemsD, innD, List.map_cons, List.map_nil, Option.bind_none]
              exact c1
            refine ofG_mk (fl := .nx (gst rows pl (p0 :: left.filter fun r => La.at' r pl != 0) (clear ++ left.filter fun r => La.at' r pl == 0) (some (.lst (left.map rowD))))) ?_ ⟨_, _, e', m', R', _, rfl, gt, Nat.le_trans hm' hm, by omega⟩
            have fl : (left.filter fun r => La.at' r pl != 0).length ≤ 60 := Nat.le_trans (List.length_filter_le _ _) leftl
            have ad := addD_lst (xs := [rowD p0]) (ys := (left.filter fun r => La.at' r pl != 0).map rowD) (by rw [List.length_map, List.length_singleton]; omega)
            refine (setF_nx (d := .lst ((p0 :: left.filter fun r => La.at' r pl != 0).map rowD)) ?_).trans rfl
            refine (bind2_eq (x := .lst [rowD p0]) (lstF_eq ?_) (lstF_eq ?_)).trans ad
            · have hh : consD (bind2 (vF 3) (cF (.int 0)) ixD) nilF (gst rows pl (p0 :: rest) (clear ++ left.filter fun r => La.at' r pl == 0) (some (.lst (left.map rowD)))) = some [rowD p0] := consD_eq ((bind2_eq rfl rfl).trans (ix_head _ _)) rfl
              simp only [dispF, hh, Option.bind_some]
              rfl
            simp only [compF, itF, vF, gst, List.getElem?_cons_zero, List.getElem?_cons_succ, Option.join_some, Option.bind_some, itemsD, innD, List.map_cons, List.map_nil, Option.bind_none]
            exact c2
      · rintro fl ⟨busy', clear', e', m', R', x4', rfl, gi', hm', hs'⟩
        exact ih busy' clear' e' 0 m' R' x4' hs' gi' hm'
    · rw [decide_eq_false h1, if_neg (by decide)]
      exact hQ _ _ e f m R x4 gi hm (by omega)
theorem R_gathered_ok {rows : List (List Int)} {w pl b : Nat} (hl : ∀ r ∈ rows, r.length = w) (hp : pl < w) (hw : w ≤ 1000) (hN : rows.length ≤ 60) (hbd : La.Bd b rows) (hb : La.nb b < 59999999) {Z : D → Prop} (hZ : ∀ out, La.Gath w pl b (La.nb b) rows out → Z (.lst (out.map rowD))) :
    R_gathered [.lst (rows.map rowD), .int (pl : Int)] Z := by
  refine ⟨rfl, ?_⟩
  show g_gathered [some (.lst (rows.map rowD)), some (.int (pl : Int)), none, none, none] _
  unfold g_gathered
  refine seqG_of (δ' := [some (.lst (rows.map rowD)), some (.int (pl : Int)), some (.lst ((rows.filter fun r => La.at' r pl == 0).map rowD)), none, none]) ((setL_nx (comp_eq0 hl hp)).trans rfl) ?_
  refine seqG_of (δ' := gst rows pl (rows.filter fun r => La.at' r pl != 0) (rows.filter fun r => La.at' r pl == 0) none) ((setF_nx (lstF_eq (comp_ne0 hl hp))).trans rfl) ?_
  refine seqG_mk (fun δ' => ∃ busy clear e f m R x4, La.GI w pl rows.length e f m R (2 ^ La.nb b) rows busy clear ∧ m ≤ 2 ^ b ∧ busy.length ≤ 1 ∧ δ' = gst rows pl busy clear x4)
    ⟨_, while_gathered hp hw hN hb (fun busy clear e f m R x4 gi hm h1 => ⟨_, rfl, busy, clear, e, f, m, R, x4, gi, hm, h1, rfl⟩) _ _ _ _ _ _ _ none (Nat.le_refl _) (La.GI.start hl hbd) (Nat.le_refl _)⟩ ?_
  rintro δ' ⟨busy, clear, e, f, m, R, x4, gi, hm, h1, rfl⟩
  have cnt := gi.cnt
  have ad := addD_lst (xs := busy.map rowD) (ys := clear.map rowD) (by rw [List.length_map, List.length_map]; omega)
  rw [← List.map_append] at ad
  exact ofG_mk (fl := .rt (.lst ((busy ++ clear).map rowD))) (retF_rt ((bind2_eq rfl rfl).trans ad)) (hZ _ (gi.gath hm h1 rfl))
theorem R_gathered_id {rows : List (List Int)} {w pl : Nat} (hl : ∀ r ∈ rows, r.length = w) (hp : pl < w) (hN : rows.length ≤ 60) (ht : ∀ r ∈ rows.drop 1, La.at' r pl = 0) {Z : D → Prop} (hZ : Z (.lst (rows.map rowD))) :
    R_gathered [.lst (rows.map rowD), .int (pl : Int)] Z := by
  obtain ⟨busy, clear, e1, e2, e3, h1⟩ : ∃ busy clear, rows.filter (fun r => La.at' r pl != 0) = busy ∧ rows.filter (fun r => La.at' r pl == 0) = clear ∧ busy ++ clear = rows ∧ busy.length ≤ 1 := by
    cases rows with
    | nil => exact ⟨[], [], rfl, rfl, rfl, Nat.zero_le _⟩
    | cons r t =>
      have ht' : ∀ q ∈ t, La.at' q pl = 0 := fun q hq => ht q (by simpa using hq)
      have f1 : t.filter (fun r => La.at' r pl != 0) = [] := List.filter_eq_nil_iff.mpr fun q hq => by simp [ht' q hq]
      have f2 : t.filter (fun r => La.at' r pl == 0) = t := List.filter_eq_self.mpr fun q hq => by simp [ht' q hq]
      by_cases z : La.at' r pl = 0
      · refine ⟨[], r :: t, ?_, ?_, rfl, Nat.zero_le _⟩
        · rw [List.filter_cons_of_neg (by simp [z]), f1]
        · rw [List.filter_cons_of_pos (by simp [z]), f2]
      · refine ⟨[r], t, ?_, ?_, rfl, Nat.le_refl _⟩
        · rw [List.filter_cons_of_pos (by simp [z]), f1]
        · rw [List.filter_cons_of_neg (by simp [z]), f2]
  refine ⟨rfl, ?_⟩
  show g_gathered [some (.lst (rows.map rowD)), some (.int (pl : Int)), none, none, none] _
  unfold g_gathered
  refine seqG_of (δ' := [some (.lst (rows.map rowD)), some (.int (pl : Int)), some (.lst (clear.map rowD)), none, none]) ((setL_nx (comp_eq0 hl hp)).trans (by rw [e2]; rfl)) ?_
  refine seqG_of (δ' := gst rows pl busy clear none) ((setF_nx (lstF_eq (comp_ne0 hl hp))).trans (by rw [e1]; rfl)) ?_
  have hlen : busy.length + clear.length = rows.length := by rw [← e3, List.length_append]
  refine seqG_mk (fun δ' => δ' = gst rows pl busy clear none) ⟨1, ?_⟩ ?_
  · unfold whileN
    refine ⟨decide (1 < (busy.length : Int)), ?_, ?_⟩
    · simp only [vF, cF, unF, nilF, callF, lstF, dispF, tupF, fsF, compF, oN, oS, bT, yesT, truT, andT, orT, notT, itF, nxF, retF, setF, setL, ifF, forF, seqF, consD, bind2, andD, orD, notD, asB, asI, runD, bind1, bindP, List.length_cons, List.length_nil, List.map_cons, List.map_nil, List.getElem?_cons_zero, List.getElem?_cons_succ, List.set_cons_zero, List.set_cons_succ, Option.join_some, Option.bind_some, Option.map_some, Option.join_none, Option.bind_none, Option.map_none, innD, List.cons_append, List.nil_append, List.replicate, Nat.sub_self, Nat.reduceAdd, Nat.reduceSub, if_true, if_false, gst, lenD, itemsD, gtD, List.length_map]
    · rw [decide_eq_false (by omega), if_neg (by decide)]
      exact ⟨_, rfl, rfl⟩
  · rintro δ' rfl
    have ad := addD_lst (xs := busy.map rowD) (ys := clear.map rowD) (by rw [List.length_map, List.length_map]; omega)
    rw [← List.map_append, e3] at ad
    exact ofG_mk (fl := .rt (.lst (rows.map rowD))) (retF_rt ((bind2_eq rfl rfl).trans ad)) hZ
theorem F_stacked_gen {S : List (List Int)} {r : List Int} {pl w : Nat} (hr : r.length = w) (hp : pl < w) (hS : S.length ≤ 100) (low : ∀ a ∈ S, F_lowered [rowD a, rowD (La.lineZ r pl), .int (pl : Int)] = some (rowD (La.lowZ a (La.lineZ r pl) pl))) :
    F_stacked [.lst (S.map rowD), rowD r, .int (pl : Int)] = some (.lst ((La.stackZ S r pl).map rowD)) := by
  refine runD_rt rfl ?_
  refine (seqF_nx (δ' := [some (.lst (S.map rowD)), some (rowD r), some (.int (pl : Int)), some (rowD r)]) rfl).trans ?_
  have i1 := ix0_row (r := r) (p := pl) (by omega) [some (.lst (S.map rowD)), some (rowD r), some (.int (pl : Int)), some (rowD r)] (vF 1) (vF 2) rfl rfl
  have tst : bT (bind2 (bind2 (vF 1) (vF 2) ixD) (cF (.int 0)) ltD) [some (.lst (S.map rowD)), some (rowD r), some (.int (pl : Int)), some (rowD r)] = some (decide (La.at' r pl < 0)) := bT_eq ((bind2_eq i1 rfl).trans rfl)
  refine (seqF_nx (δ' := [some (.lst (S.map rowD)), some (rowD r), some (.int (pl : Int)), some (rowD (La.lineZ r pl))]) ?_).trans ?_
  · by_cases z : La.at' r pl < 0
    · rw [decide_eq_true z] at tst
      refine (ifF_t tst).trans ?_
      have h2 : compD (bind1 0) yesT (unF (vF 0) negD) [none] (r.map D.int) = some ((La.negZ r).map D.int) := by
        unfold La.negZ
        rw [List.map_map]
        exact compD_map (fun δ => ∃ a, δ = [a]) D.int _ _ _ ⟨none, rfl⟩ (by
          rintro x _ δ ⟨a, rfl⟩
          exact ⟨[some (.int x)], rfl, ⟨_, rfl⟩, rfl, rfl⟩)
      refine (setF_nx (d := rowD (La.negZ r)) ?_).trans ?_
      · simp only [vF, cF, unF, nilF, callF, lstF, dispF, tupF, fsF, compF, oN, oS, bT, yesT, truT, andT, orT, notT, itF, nxF, retF, setF, setL, ifF, forF, seqF, consD, bind2, andD, orD, notD, asB, asI, runD, bind1, bindP, List.length_cons, List.length_nil, List.map_cons, List.map_nil, List.getElem?_cons_zero, List.getElem?_cons_succ, List.set_cons_zero, List.set_cons_succ, Option.join_some, Option.bind_some, Option.map_some, Option.join_none, Option.bind_none, Option.map_none, innD, List.cons_append, List.nil_append, List.replicate, Nat.sub_self, Nat.reduceAdd, Nat.reduceSub, if_true, if_false, rowD, itemsD, h2, tupleD]
      · unfold La.lineZ; rw [if_pos z]; rfl
    · rw [decide_eq_false z] at tst
      refine (ifF_f tst).trans ?_
      unfold La.lineZ; rw [if_neg z]; rfl
  · have est : La.stackZ S r pl = (S.map fun a => La.lowZ a (La.lineZ r pl) pl) ++ [La.lineZ r pl] := rfl
    rw [est]
    generalize La.lineZ r pl = line at low
    refine retF_rt ?_
    have h2 : compD (bind1 0) yesT (callF (consD (vF 0) (consD (vF 1) (consD (vF 2) nilF))) F_lowered) [none, some (rowD line), some (.int (pl : Int))] (S.map rowD) = some ((S.map fun a => La.lowZ a line pl).map rowD) := by
      rw [List.map_map]
      exact compD_map (fun δ => ∃ a, δ = [a, some (rowD line), some (.int (pl : Int))]) rowD _ _ _ ⟨none, rfl⟩ (by
        rintro a ha δ ⟨x, rfl⟩
        refine ⟨[some (rowD a), some (rowD line), some (.int (pl : Int))], rfl, ⟨_, rfl⟩, rfl, ?_⟩
        exact (callF_eq (consD_eq rfl (consD_eq rfl (consD_eq rfl rfl)))).trans (low a ha))
    have ad := addD_lst (xs := (S.map fun a => La.lowZ a line pl).map rowD) (ys := [rowD line]) (by rw [List.length_map, List.length_map, List.length_singleton]; omega)
    refine (bind2_eq (lstF_eq (ds := (S.map fun a => La.lowZ a line pl).map rowD) ?_) (lstF_eq (ds := [rowD line]) rfl)).trans (ad.trans ?_)
    · simp only [compF, itF, vF, List.getElem?_cons_zero, List.getElem?_cons_succ, Option.join_some, Option.bind_some, itemsD, innD, List.map_cons, List.map_nil, Option.bind_none]
      exact h2
    · rw [List.map_append]; rfl
def pst (lot : List (List Int)) (w : Nat) (S T : List (List Int)) (x4 : Option D) : DS := [some (lotD lot), some (.int (w : Int)), some (.lst (S.map rowD)), some (.lst (T.map rowD)), x4]
theorem plain_test (lot : List (List Int)) (w k : Nat) (S T : List (List Int)) (hT : ∀ r ∈ T, r.length = w) (hk : k < w) :
    andT (bT (bind2 (callF (consD (vF 3) nilF) lenD) (cF (.int 0)) gtD)) (bT (bind2 (bind2 (bind2 (vF 3) (cF (.int 0)) ixD) (vF 4) ixD) (cF (.int 0)) neD)) (pst lot w S T (some (.int (k : Int)))) = some (match T with | [] => false | r :: _ => La.at' r k != 0) := by
  cases T with
  | nil => rfl
  | cons r t =>
    have i0 : bind2 (vF 3) (cF (.int 0)) ixD (pst lot w S (r :: t) (some (.int (k : Int)))) = some (rowD r) := (bind2_eq rfl rfl).trans (ix_head _ _)
    have hl : bT (bind2 (callF (consD (vF 3) nilF) lenD) (cF (.int 0)) gtD) (pst lot w S (r :: t) (some (.int (k : Int)))) = some true := by
      refine bT_eq ?_
      simp only [vF, cF, unF, nilF, callF, lstF, dispF, tupF, fsF, compF, oN, oS, bT, yesT, truT, andT, orT, notT, itF, nxF, retF, setF, setL, ifF, forF, seqF, consD, bind2, andD, orD, notD, asB, asI, runD, bind1, bindP, List.length_cons, List.length_nil, List.map_cons, List.map_nil, List.getElem?_cons_zero, List.getElem?_cons_succ, List.set_cons_zero, List.set_cons_succ, Option.join_some, Option.bind_some, Option.map_some, Option.join_none, Option.bind_none, Option.map_none, innD, List.cons_append, List.nil_append, List.replicate, Nat.sub_self, Nat.reduceAdd, Nat.reduceSub, if_true, if_false, pst, lenD, itemsD, gtD]
      congr 2
      exact decide_eq_true (by show (0 : Int) < ((t.map rowD).length + 1 : Nat); omega)
    refine andT_t hl (bT_eq ((bind2_eq ((bind2_eq i0 rfl).trans (ixD_row (by rw [hT r List.mem_cons_self]; exact hk))) rfl).trans (ne0 _)))
noncomputable def plain_if : DS → Option DF := ifF (andT (bT (bind2 (callF (consD (vF 3) nilF) lenD) (cF (.int 0)) gtD)) (bT (bind2 (bind2 (bind2 (vF 3) (cF (.int 0)) ixD) (vF 4) ixD) (cF (.int 0)) neD))) (seqF (setF 2 (callF (consD (vF 2) (consD (bind2 (vF 3) (cF (.int 0)) ixD) (consD (vF 4) nilF))) F_stacked)) (setF 3 (slF (vF 3) (oS (cF (.int 1))) oN))) nxF
theorem plain_skip {lot S T : List (List Int)} {w k : Nat} (hT : ∀ r ∈ T, r.length = w) (hk : k < w) (h : ∀ r t, T = r :: t → La.at' r k = 0) : plain_if (pst lot w S T (some (.int (k : Int)))) = some (.nx (pst lot w S T (some (.int (k : Int))))) := by
  refine (ifF_f ((plain_test lot w k S T hT hk).trans ?_)).trans rfl
  cases T with
  | nil => rfl
  | cons r t =>
    show some (La.at' r k != 0) = _
    rw [h r t rfl]; rfl
theorem plain_push {lot S S' t : List (List Int)} {r : List Int} {w k : Nat} (hT : ∀ q ∈ r :: t, q.length = w) (hk : k < w) (h : La.at' r k ≠ 0) (hs : F_stacked [.lst (S.map rowD), rowD r, .int (k : Int)] = some (.lst (S'.map rowD))) :
    plain_if (pst lot w S (r :: t) (some (.int (k : Int)))) = some (.nx (pst lot w S' t (some (.int (k : Int))))) := by
  refine (ifF_t ((plain_test lot w k S (r :: t) hT hk).trans ?_)).trans ?_
  · show some (La.at' r k != 0) = _
    simp [h]
  · have i0 : bind2 (vF 3) (cF (.int 0)) ixD (pst lot w S (r :: t) (some (.int (k : Int)))) = some (rowD r) := (bind2_eq rfl rfl).trans (ix_head _ _)
    refine (seqF_nx (δ' := pst lot w S' (r :: t) (some (.int (k : Int)))) ((setF_nx ((callF_eq (consD_eq rfl (consD_eq i0 (consD_eq rfl rfl)))).trans hs)).trans rfl)).trans ?_
    refine (setF_nx (d := .lst (t.map rowD)) ?_).trans rfl
    simp only [slF, oS, oN, cF, vF, pst, asI, List.getElem?_cons_zero, List.getElem?_cons_succ, Option.join_some, Option.bind_some, slD_tail, List.map_cons, List.drop_succ_cons, List.drop_zero]
theorem plain_for {lot : List (List Int)} {w : Nat} {Q : DF → Prop} (J : Nat → List (List Int) → List (List Int) → Prop)
    (step : ∀ (k : Nat) (S T : List (List Int)), k < w → J k S T → seqG (callG 3 (consD (vF 3) (consD (vF 4) nilF)) R_gathered) (ofG plain_if) (pst lot w S T (some (.int (k : Int)))) fun fl => ∃ S' T', J (k + 1) S' T' ∧ fl = .nx (pst lot w S' T' (some (.int (k : Int)))))
    (fin : ∀ (S T : List (List Int)) (x4 : Option D), J w S T → Q (.nx (pst lot w S T x4))) : ∀ (m k : Nat) (S T : List (List Int)) (x4 : Option D), k + m = w → J k S T →
      forN (bind1 4) (seqG (callG 3 (consD (vF 3) (consD (vF 4) nilF)) R_gathered) (ofG plain_if)) ((List.range' k m).map fun (j : Nat) => D.int (j : Int)) (pst lot w S T x4) Q
  | 0, k, S, T, x4, e, h => by
    obtain rfl : k = w := by omega
    exact fin S T x4 h
  | m + 1, k, S, T, x4, e, h => by
    rw [List.range'_succ, List.map_cons]
    unfold forN
    refine ⟨pst lot w S T (some (.int (k : Int))), rfl, _, step k S T (by omega) h, ?_⟩
    rintro fl ⟨S', T', h', rfl⟩
    exact plain_for J step fin m (k + 1) S' T' _ (by omega) h'
theorem R_plain_gen {lot : List (List Int)} {w : Nat} {Z : D → Prop} (hlot : lot.length ≤ 60) (hw : w ≤ 1000) (J : Nat → List (List Int) → List (List Int) → Prop)
    (step : ∀ (k : Nat) (S T : List (List Int)), k < w → J k S T → seqG (callG 3 (consD (vF 3) (consD (vF 4) nilF)) R_gathered) (ofG plain_if) (pst lot w S T (some (.int (k : Int)))) fun fl => ∃ S' T', J (k + 1) S' T' ∧ fl = .nx (pst lot w S' T' (some (.int (k : Int)))))
    (start : J 0 [] lot) (fin : ∀ (S T : List (List Int)), J w S T → Z (lotD S)) : R_plain [lotD lot, .int (w : Int)] Z := by
  refine ⟨rfl, ?_⟩
  show g_plain [some (lotD lot), some (.int (w : Int)), none, none, none] _
  unfold g_plain
  refine seqG_of (δ' := [some (lotD lot), some (.int (w : Int)), some (.lst []), none, none]) rfl ?_
  refine seqG_of (δ' := pst lot w [] lot none) ?_ ?_
  · refine (setF_nx (d := .lst (lot.map rowD)) (lstF_eq ?_)).trans rfl
    simp only [vF, cF, unF, nilF, callF, lstF, dispF, tupF, fsF, compF, oN, oS, bT, yesT, truT, andT, orT, notT, itF, nxF, retF, setF, setL, ifF, forF, seqF, consD, bind2, andD, orD, notD, asB, asI, runD, bind1, bindP, List.length_cons, List.length_nil, List.map_cons, List.map_nil, List.getElem?_cons_zero, List.getElem?_cons_succ, List.set_cons_zero, List.set_cons_succ, Option.join_some, Option.bind_some, Option.map_some, Option.join_none, Option.bind_none, Option.map_none, innD, List.cons_append, List.nil_append, List.replicate, Nat.sub_self, Nat.reduceAdd, Nat.reduceSub, if_true, if_false, lotD, list1, itemsD]
  refine seqG_mk (fun δ' => ∃ S T x4, J w S T ∧ δ' = pst lot w S T x4) ⟨(List.range w).map fun (j : Nat) => D.int (j : Int), ?_, ?_⟩ ?_
  · have hf : fit (w : Int).natAbs = true := fit_of (by omega)
    simp only [vF, cF, unF, nilF, callF, lstF, dispF, tupF, fsF, compF, oN, oS, bT, yesT, truT, andT, orT, notT, itF, nxF, retF, setF, setL, ifF, forF, seqF, consD, bind2, andD, orD, notD, asB, asI, runD, bind1, bindP, List.length_cons, List.length_nil, List.map_cons, List.map_nil, List.getElem?_cons_zero, List.getElem?_cons_succ, List.set_cons_zero, List.set_cons_succ, Option.join_some, Option.bind_some, Option.map_some, Option.join_none, Option.bind_none, Option.map_none, innD, List.cons_append, List.nil_append, List.replicate, Nat.sub_self, Nat.reduceAdd, Nat.reduceSub, if_true, if_false, pst, range1D, hf, Int.toNat_natCast, rangeD_map]
  · rw [List.range_eq_range']
    exact plain_for J step (fun S T x4 h => ⟨_, rfl, S, T, x4, h, rfl⟩) w 0 [] lot none (by omega) start
  · rintro δ' ⟨S, T, x4, h, rfl⟩
    exact ofG_mk (fl := .rt (lotD S)) (retF_rt (by simp only [vF, cF, unF, nilF, callF, lstF, dispF, tupF, fsF, compF, oN, oS, bT, yesT, truT, andT, orT, notT, itF, nxF, retF, setF, setL, ifF, forF, seqF, consD, bind2, andD, orD, notD, asB, asI, runD, bind1, bindP, List.length_cons, List.length_nil, List.map_cons, List.map_nil, List.getElem?_cons_zero, List.getElem?_cons_succ, List.set_cons_zero, List.set_cons_succ, Option.join_some, Option.bind_some, Option.map_some, Option.join_none, Option.bind_none, Option.map_none, innD, List.cons_append, List.nil_append, List.replicate, Nat.sub_self, Nat.reduceAdd, Nat.reduceSub, if_true, if_false, pst, tupleD, itemsD, lotD])) (fin S T h)
theorem R_plain_small {lot : List (List Int)} {w b : Nat} (hl : ∀ r ∈ lot, r.length = w) (hlot : lot.length ≤ 60) (hw : w ≤ 1000) (hbd : La.Bd b lot) (hbs : La.ss b (min w lot.length) + La.bb b (min w lot.length) < 59000000) {Z : D → Prop} (hZ : ∀ S, La.IsPl w lot S → Z (lotD S)) :
    R_plain [lotD lot, .int (w : Int)] Z := by
  have bmono : ∀ k d, La.bb b k ≤ La.bb b (k + d) := fun k d => by
    induction d with
    | zero => exact Nat.le_refl _
    | succ d ih => exact Nat.le_trans ih (La.bb_le b (k + d))
  have smono : ∀ k d, La.ss b k ≤ La.ss b (k + d) := fun k d => by
    induction d with
    | zero => exact Nat.le_refl _
    | succ d ih => exact Nat.le_trans ih (by show _ ≤ La.ss b (k + d) + La.bb b (k + d + 1) + 1; omega)
  refine R_plain_gen hlot hw (fun k S T => La.PI w b k lot S T) (fun k S T hk h => ?_) (La.PI.start hl hbd) fun S T h => hZ S h.done
  have cnt := h.cnt
  by_cases z : ∀ r ∈ T, La.at' r k = 0
  · refine seqG_mk (fun δ' => δ' = pst lot w S T (some (.int (k : Int)))) ⟨_, rfl, R_gathered_id h.lenT hk (by omega) (fun r hr => z r (List.mem_of_mem_drop hr)) ⟨_, rfl, rfl⟩⟩ ?_
    rintro δ' rfl
    exact ofG_mk (plain_skip h.lenT hk fun r t e => z r (by rw [e]; exact List.mem_cons_self)) ⟨S, T, h.skip z, rfl⟩
  · have tn : 1 ≤ T.length := by
      cases T with
      | nil => exact (z fun r hr => nomatch hr).elim
      | cons r t => simp
    have sl := h.slen
    have hm : S.length + 1 ≤ min w lot.length := Nat.le_min.mpr ⟨by omega, by omega⟩
    generalize min w lot.length = n at hm hbs
    have bk : La.bb b (S.length + 1) ≤ La.bb b n := by have := bmono (S.length + 1) (n - (S.length + 1)); rwa [show S.length + 1 + (n - (S.length + 1)) = n by omega] at this
    have sk : La.ss b S.length ≤ La.ss b n := by have := smono S.length (n - S.length); rwa [show S.length + (n - S.length) = n by omega] at this
    refine seqG_mk (fun δ' => ∃ T', La.Gath w k (La.bb b S.length) (La.bb b (S.length + 1)) T T' ∧ δ' = pst lot w S T' (some (.int (k : Int)))) ⟨_, rfl, R_gathered_ok h.lenT hk hw (by omega) h.bT (by show La.bb b (S.length + 1) < _; omega) fun out g => ⟨_, rfl, out, g, rfl⟩⟩ ?_
    rintro δ' ⟨T', g, rfl⟩
    obtain ⟨r, t, rfl, hr0⟩ := g.head_ne z
    have lenr : r.length = w := g.len r List.mem_cons_self
    have lenL : (La.lineZ r k).length = w := (La.lineZ_len r k).trans lenr
    have st := F_stacked_gen (S := S) (r := r) (pl := k) lenr hk (by omega) fun a ha =>
      F_lowered_eq (b := La.ss b n + La.bb b n) (h.lenS a ha) lenL hk hw (by have := La.lineZ_pos hr0; omega)
        (Nat.le_trans (h.bS a ha k) (Nat.pow_le_pow_right (by decide) (by omega))) (fun j => by rw [La.lineZ_abs]; exact Nat.le_trans (g.bd r List.mem_cons_self j) (Nat.pow_le_pow_right (by decide) (by omega))) (by omega)
    exact ofG_mk (plain_push g.len hk hr0 st) ⟨_, t, h.push g hr0, rfl⟩
theorem F_lowered_id {r l : List Int} {p w : Nat} (hr : r.length = w) (hl : l.length = w) (hp : p < w) (hw : w ≤ 1000) (h0 : 0 ≤ La.at' r p) (h1 : La.at' r p < La.at' l p) : F_lowered [rowD r, rowD l, .int (p : Int)] = some (rowD (La.lowZ r l p)) := by
  have hq : (La.at' r p).fdiv (La.at' l p) = 0 := Int.fdiv_eq_zero_of_lt h0 h1
  have e := F_less_eq r l ((La.at' r p).fdiv (La.at' l p)) (by omega) fun c hc => by rw [hq]; exact okMul_l (by decide) (by decide)
  have i1 := ixD_row (r := r) (p := p) (by omega)
  have i2 := ixD_row (r := l) (p := p) (by omega)
  have f1 := fdivD_int (i := La.at' r p) (show La.at' l p ≠ 0 by omega)
  simp only [F_lowered, g_lowered, vF, cF, unF, nilF, callF, lstF, dispF, tupF, fsF, compF, oN, oS, bT, yesT, truT, andT, orT, notT, itF, nxF, retF, setF, setL, ifF, forF, seqF, consD, bind2, andD, orD, notD, asB, asI, runD, bind1, bindP, List.length_cons, List.length_nil, List.map_cons, List.map_nil, List.getElem?_cons_zero, List.getElem?_cons_succ, List.set_cons_zero, List.set_cons_succ, Option.join_some, Option.bind_some, Option.map_some, Option.join_none, Option.bind_none, Option.map_none, innD, List.cons_append, List.nil_append, List.replicate, Nat.sub_self, Nat.reduceAdd, Nat.reduceSub, if_true, if_false, i1, i2, f1, e, La.lowZ]
theorem lowZ_id {r l : List Int} {p : Nat} (hl : r.length = l.length) (h0 : 0 ≤ La.at' r p) (h1 : La.at' r p < La.at' l p) : La.lowZ r l p = r := by
  have hq : (La.at' r p).fdiv (La.at' l p) = 0 := Int.fdiv_eq_zero_of_lt h0 h1
  unfold La.lowZ
  rw [hq]
  refine La.fv_inj (La.subZ_len hl) ?_
  rw [La.fv_subZ hl]
  funext j
  simp [La.ax]
theorem R_plain_id {lot : List (List Int)} {w : Nat} (hl : ∀ r ∈ lot, r.length = w) (hlot : lot.length ≤ 60) (hw : w ≤ 1000) (hp : La.IsPl w lot lot) {Z : D → Prop} (hZ : Z (lotD lot)) :
    R_plain [lotD lot, .int (w : Int)] Z := by
  obtain ⟨ls0, p0, q0⟩ := hp.pl
  refine R_plain_gen hlot hw (fun k S T => S ++ T = lot ∧ ∃ ls, La.Pl k ls (T.map La.fv) ∧ (∀ x ∈ ls, x < w) ∧ ∀ a ∈ S, La.Red La.below (La.fv a) ls (T.map La.fv)) (fun k S T hk h => ?_) ⟨rfl, ls0, p0, q0, fun a ha => nomatch ha⟩ fun S T h => ?_
  · obtain ⟨e, ls, p, q, rd⟩ := h
    have lenS : ∀ a ∈ S, a.length = w := fun a ha => hl a (by rw [← e]; exact List.mem_append_left _ ha)
    have lenT : ∀ a ∈ T, a.length = w := fun a ha => hl a (by rw [← e]; exact List.mem_append_right _ ha)
    have cnt : S.length + T.length = lot.length := by rw [← e, List.length_append]
    have tailz : ∀ r ∈ T.drop 1, La.at' r k = 0 := fun r hr => by
      cases T with
      | nil => cases hr
      | cons r0 T' =>
        cases ls with
        | nil => exact p.elim
        | cons l ls =>
          obtain ⟨a1, a2, a3, a4, a5⟩ := p
          exact La.Ec.zero a5.ec (La.fv r) (List.mem_map_of_mem (by simpa using hr)) k (by omega)
    refine seqG_mk (fun δ' => δ' = pst lot w S T (some (.int (k : Int)))) ⟨_, rfl, R_gathered_id lenT hk (by omega) tailz ⟨_, rfl, rfl⟩⟩ ?_
    rintro δ' rfl
    cases T with
    | nil => exact ofG_mk (plain_skip lenT hk fun r t e => nomatch e) ⟨S, [], ⟨e, ls, by cases ls with | nil => trivial | cons => exact p.elim, q, rd⟩, rfl⟩
    | cons r0 T' =>
      cases ls with
      | nil => exact p.elim
      | cons l ls =>
        obtain ⟨a1, a2, a3, a4, a5⟩ := p
        by_cases z : l = k
        · subst z
          have z0 : La.at' r0 l ≠ 0 := by have : 0 < La.at' r0 l := a3; omega
          have line : La.lineZ r0 l = r0 := by unfold La.lineZ; rw [if_neg (by have : 0 < La.at' r0 l := a3; omega)]
          have bnd : ∀ a ∈ S, 0 ≤ La.at' a l ∧ La.at' a l < La.at' r0 l := fun a ha => (rd a ha).1
          have st := F_stacked_gen (S := S) (r := r0) (pl := l) (lenT r0 List.mem_cons_self) hk (by omega) fun a ha => by
            rw [line]; exact F_lowered_id (lenS a ha) (lenT r0 List.mem_cons_self) hk hw (bnd a ha).1 (bnd a ha).2
          have es : La.stackZ S r0 l = S ++ [r0] := by
            unfold La.stackZ
            rw [line]
            congr 1
            conv => rhs; rw [← List.map_id S]
            exact List.map_congr_left fun a ha => lowZ_id ((lenS a ha).trans (lenT r0 List.mem_cons_self).symm) (bnd a ha).1 (bnd a ha).2
          rw [es] at st
          refine ofG_mk (plain_push lenT hk z0 st) ⟨_, T', ⟨by rw [List.append_assoc]; exact e, ls, a5, fun x hx => q x (List.mem_cons_of_mem _ hx), fun a ha => ?_⟩, rfl⟩
          rcases List.mem_append.mp ha with ha | ha
          · exact (rd a ha).2
          · rw [List.mem_singleton.mp ha]; exact a4
        · refine ofG_mk (plain_skip lenT hk fun r' t' e' => ?_) ⟨S, r0 :: T', ⟨e, l :: ls, ⟨by omega, a2, a3, a4, a5⟩, q, rd⟩, rfl⟩
          cases e'
          exact a2 k (by omega)
  · obtain ⟨e, ls, p, q, rd⟩ := h
    have : T = [] := by
      cases T with
      | nil => rfl
      | cons r0 T' =>
        cases ls with
        | nil => exact p.elim
        | cons l ls =>
          have h1 := p.1
          have h2 := q l List.mem_cons_self
          omega
    subst this
    rw [List.append_nil] at e
    subst e
    exact hZ
theorem lift_plain (ds : List D) (d : D) (h : F_plain ds = some d) : R_plain ds (· = d) := by
  obtain ⟨rows, w, P, rfl, ⟨hl, hn, hw, hc⟩, hp, rfl⟩ := F_plain_some h
  rcases hc with ⟨b, h1, h2⟩ | h1
  · exact R_plain_small hl hn hw h1 h2 fun S hS => by rw [hS.uniq hp (La.Eqv.refl _)]
  · exact R_plain_id hl hn hw h1 (by rw [h1.uniq hp (La.Eqv.refl _)])
theorem F_cell (ns : List Int) (k : Nat) : F__law_cell [.fro (ns.map D.int), .int k] = some (.int (cellZ ns k)) := by
  have e : F__law_cell [.fro (ns.map D.int), .int k] = if (k : Int) < ns.length then atI (ns.map D.int) k else some (.int 0) := by
    simp only [F__law_cell, g__law_cell, vF, cF, unF, nilF, callF, lstF, dispF, tupF, fsF, compF, oN, oS, bT, yesT, truT, andT, orT, notT, itF, nxF, retF, setF, setL, ifF, forF, seqF, consD, bind2, andD, orD, notD, asB, asI, runD, bind1, bindP, List.length_cons, List.length_nil, List.map_cons, List.map_nil, List.getElem?_cons_zero, List.getElem?_cons_succ, List.set_cons_zero, List.set_cons_succ, Option.join_some, Option.bind_some, Option.map_some, Option.join_none, Option.bind_none, Option.map_none, innD, List.cons_append, List.nil_append, List.replicate, Nat.sub_self, Nat.reduceAdd, Nat.reduceSub, if_true, if_false, lenD, itemsD, ltD, ixD, List.length_map]
    by_cases h : (k : Int) < (ns.length : Int)
    · simp only [h, decide_true, if_true]
      rw [atI_map]
      cases atI ns (k : Int) <;> rfl
    · simp only [h, decide_false, if_false, Bool.false_eq_true]; rfl
  rw [e]
  unfold cellZ
  by_cases h : (k : Int) < (ns.length : Int)
  · rw [if_pos h, atI_nat (v := D.int (ns.getD k 0))]
    have hk : k < ns.length := by omega
    simp [List.getD, List.getElem?_eq_getElem hk]
  · rw [if_neg h]
    simp [List.getD, List.getElem?_eq_none (show ns.length ≤ k by omega)]
theorem F_mix (c p m : Int) (hp : p ≠ 0) (hm : m ≠ 0) : F__law_mix [.int c, .int p, .int m] = some (.int (mixZ c p m)) := by
  have h0 : okMul c 48271 = true := okMul_r (by decide) (by decide)
  simp only [F__law_mix, g__law_mix, vF, cF, unF, nilF, callF, lstF, dispF, tupF, fsF, compF, oN, oS, bT, yesT, truT, andT, orT, notT, itF, nxF, retF, setF, setL, ifF, forF, seqF, consD, bind2, andD, orD, notD, asB, asI, runD, bind1, bindP, List.length_cons, List.length_nil, List.map_cons, List.map_nil, List.getElem?_cons_zero, List.getElem?_cons_succ, List.set_cons_zero, List.set_cons_succ, Option.join_some, Option.bind_some, Option.map_some, Option.join_none, Option.bind_none, Option.map_none, innD, List.cons_append, List.nil_append, List.replicate, Nat.sub_self, Nat.reduceAdd, Nat.reduceSub, if_true, if_false, mulD, modD, h0, hp, hm, mixZ]
theorem F_wide (ns : List Int) (m : Nat) (hm : 0 < m) : ∃ w : Nat, 1 ≤ w ∧ w ≤ m ∧ F__law_wide [.fro (ns.map D.int), .int m] = some (.int w) := by
  obtain ⟨h1, h2⟩ := mixZ_b (cellZ ns 0) 9967 m (by omega)
  refine ⟨(1 + mixZ (cellZ ns 0) 9967 m).toNat, by omega, by omega, ?_⟩
  have hc := F_cell ns 0
  rw [show ((0 : Nat) : Int) = 0 from rfl] at hc
  have e : ((1 + mixZ (cellZ ns 0) 9967 m).toNat : Int) = 1 + mixZ (cellZ ns 0) 9967 m := by omega
  rw [e]
  simp only [F__law_wide, g__law_wide, vF, cF, unF, nilF, callF, lstF, dispF, tupF, fsF, compF, oN, oS, bT, yesT, truT, andT, orT, notT, itF, nxF, retF, setF, setL, ifF, forF, seqF, consD, bind2, andD, orD, notD, asB, asI, runD, bind1, bindP, List.length_cons, List.length_nil, List.map_cons, List.map_nil, List.getElem?_cons_zero, List.getElem?_cons_succ, List.set_cons_zero, List.set_cons_succ, Option.join_some, Option.bind_some, Option.map_some, Option.join_none, Option.bind_none, Option.map_none, innD, List.cons_append, List.nil_append, List.replicate, Nat.sub_self, Nat.reduceAdd, Nat.reduceSub, if_true, if_false, hc, F_mix _ _ _ (show (9967 : Int) ≠ 0 by decide) (show (m : Int) ≠ 0 by omega), addD]
theorem seqF_rt {g g' : DS → Option DF} {δ : DS} {d : D} (h : g δ = some (.rt d)) : seqF g g' δ = some (.rt d) := by
  unfold seqF; rw [h]; rfl
theorem ixN_nat {n i : Nat} (h : i < n) : ixN n (i : Int) = some i := by
  unfold ixN
  split
  · split
    · simp
    · omega
  · omega
theorem get_row {R : List (List Int)} {i : Nat} (hi : i < R.length) : ixD (.lst (R.map rowD)) (.int (i : Int)) = some (rowD R[i]) := by
  show atI (R.map rowD) (i : Int) = _
  exact atI_nat (by rw [List.getElem?_map, List.getElem?_eq_getElem hi]; rfl)
theorem skip_if {t : DS → Option Bool} {A rest : DS → Option DF} {δ : DS} (h : t δ = some false) : seqF (ifF t A nxF) rest δ = rest δ := (seqF_nx (δ' := δ) ((ifF_f h).trans rfl))
theorem take_if {t : DS → Option Bool} {A rest : DS → Option DF} {δ δ' : DS} (h : t δ = some true) (h' : A δ = some (.nx δ')) : seqF (ifF t A nxF) rest δ = rest δ' := (seqF_nx (δ' := δ') ((ifF_t h).trans h'))
def sst (L : List (List Int)) (c : Int) (w n i j : Nat) (k t : Int) (R : List (List Int)) : DS := [some (lotD L), some (.int c), some (.int (w : Int)), some (.int (n : Int)), some (.int (i : Int)), some (.int (j : Int)), some (.lst (R.map rowD)), some (.int k), some (.int t)]
theorem others_sst (L : List (List Int)) (c : Int) (w n i j : Nat) (k t : Int) (R : List (List Int)) : others 6 (sst L c w n i j k t R) = true := by
  simp [others, othersFrom, sst, noL, lotD, noLs_rows]
theorem store_i {L R : List (List Int)} {c : Int} {w n i j : Nat} {k t : Int} (r : List Int) (hi : i < R.length) : storeD 6 (vF 4) (rowD r) (sst L c w n i j k t R) = some (sst L c w n i j k t (R.set i r)) := by
  have h1 : ixN (R.map rowD).length (i : Int) = some i := ixN_nat (by rw [List.length_map]; exact hi)
  simp only [storeD, vF, sst, List.getElem?_cons_zero, List.getElem?_cons_succ, Option.join_some, Option.bind_some]
  have ho := others_sst L c w n i j k t R
  unfold sst at ho
  rw [h1, Option.bind_some]
  refine (if_pos ⟨noLs_rows R, noL_row r, ho⟩).trans ?_
  simp only [List.set_cons_zero, List.set_cons_succ, List.map_set]
theorem store_j {L R : List (List Int)} {c : Int} {w n i j : Nat} {k t : Int} (r : List Int) (hj : j < R.length) : storeD 6 (vF 5) (rowD r) (sst L c w n i j k t R) = some (sst L c w n i j k t (R.set j r)) := by
  have h1 : ixN (R.map rowD).length (j : Int) = some j := ixN_nat (by rw [List.length_map]; exact hj)
  simp only [storeD, vF, sst, List.getElem?_cons_zero, List.getElem?_cons_succ, Option.join_some, Option.bind_some]
  have ho := others_sst L c w n i j k t R
  unfold sst at ho
  rw [h1, Option.bind_some]
  refine (if_pos ⟨noLs_rows R, noL_row r, ho⟩).trans ?_
  simp only [List.set_cons_zero, List.set_cons_succ, List.map_set]
theorem F_step_eq {L : List (List Int)} {c : Int} {w b : Nat} (hl : ∀ r ∈ L, r.length = w) (hw : w ≤ 1000) (h1 : 1 ≤ L.length) (h7 : L.length ≤ 7) (hb : La.Bd b L) :
    ∃ R : List (List Int), F__law_step [lotD L, .int c, .int (w : Int)] = some (lotD R) ∧ (∀ r ∈ R, r.length = w) ∧ 1 ≤ R.length ∧ R.length ≤ 7 ∧ La.Bd (b + 2) R ∧ La.Eqv (R.map La.fv) (L.map La.fv) := by
  have hn : (L.length : Int) ≠ 0 := by omega
  obtain ⟨i0, i1⟩ := mixZ_b c 9923 (L.length : Int) (by omega)
  obtain ⟨j0, j1⟩ := mixZ_b c 9907 (L.length : Int) (by omega)
  obtain ⟨k0, k1⟩ := mixZ_b c 9901 6 (by decide)
  obtain ⟨t0, t1⟩ := mixZ_b c 9887 7 (by decide)
  have mi := F_mix c 9923 (L.length : Int) (by decide) hn
  have mj := F_mix c 9907 (L.length : Int) (by decide) hn
  have mk := F_mix c 9901 6 (by decide) (by decide)
  have mt := F_mix c 9887 7 (by decide) (by decide)
  obtain ⟨i, hi⟩ : ∃ i : Nat, mixZ c 9923 (L.length : Int) = i := ⟨_, (Int.toNat_of_nonneg i0).symm⟩
  obtain ⟨j, hj⟩ : ∃ j : Nat, mixZ c 9907 (L.length : Int) = j := ⟨_, (Int.toNat_of_nonneg j0).symm⟩
  rw [hi] at mi i1
  rw [hj] at mj j1
  generalize mixZ c 9901 6 = k at mk k0 k1
  generalize mixZ c 9887 7 = t7 at mt t0 t1
  have hi' : i < L.length := by omega
  have hj' : j < L.length := by omega
  have bmono : La.Bd (b + 2) L := hb.mono (Nat.le_add_right _ _)
  have bset : ∀ {r : List Int} {p : Nat}, (∀ q, (La.at' r q).natAbs ≤ 2 ^ (b + 2)) → La.Bd (b + 2) (L.set p r) := fun {r p} h q hq => by
    rcases List.mem_or_eq_of_mem_set hq with z | z
    · exact bmono q z
    · rw [z]; exact h
  have lset : ∀ {r : List Int} {p : Nat}, r.length = w → ∀ q ∈ L.set p r, q.length = w := fun {r p} h q hq => by
    rcases List.mem_or_eq_of_mem_set hq with z | z
    · exact hl q z
    · rw [z]; exact h
  have p2 : 2 ^ (b + 2) = 4 * 2 ^ b := by rw [Nat.pow_add]; omega
  have tabs : (t7 - 3).natAbs ≤ 3 := by omega
  have run : ∀ R : List (List Int), (seqF (ifF (bT (bind2 (vF 7) (cF (.int 0)) eqD)) (swapF 6 (vF 4) (vF 5) (bind2 (vF 6) (vF 5) ixD) (bind2 (vF 6) (vF 4) ixD)) nxF) (seqF (ifF (bT (bind2 (vF 7) (cF (.int 1)) eqD)) (putS 6 (vF 4) (callF (consD (lstF (compF (itF (bind2 (vF 6) (vF 4) ixD)) (bind1 0) yesT (unF (vF 0) negD) [none])) nilF) tupleD)) nxF) (seqF (ifF (andT (bT (bind2 (vF 7) (cF (.int 2)) eqD)) (bT (bind2 (vF 3) (cF (.int 7)) ltD))) (appF 6 (callF (consD (lstF (compF (fsF (consD (vF 2) nilF) range1D) (bind1 0) yesT (cF (.int 0)) [none])) nilF) tupleD)) nxF) (seqF (ifF (andT (bT (bind2 (vF 7) (cF (.int 3)) eqD)) (bT (bind2 (vF 3) (cF (.int 7)) ltD))) (insF 6 (vF 4) (callF (consD (lstF (compF (itF (bind2 (vF 6) (vF 5) ixD)) (bind1 0) yesT (bind2 (vF 1) (vF 0) mulD) [none, some 8])) nilF) tupleD)) nxF) (seqF (ifF (andT (bT (bind2 (vF 7) (cF (.int 3)) gtD)) (bT (bind2 (vF 4) (vF 5) neD))) (putS 6 (vF 4) (callF (consD (lstF (compF (fsF (consD (bind2 (vF 6) (vF 4) ixD) (consD (bind2 (vF 6) (vF 5) ixD) nilF)) zip2) (bindP 0 1) yesT (bind2 (vF 0) (bind2 (vF 2) (vF 1) mulD) addD) [none, none, some 8])) nilF) tupleD)) nxF) (retF (callF (consD (vF 6) nilF) tupleD))))))) (sst L c w L.length i j k (t7 - 3) L) = some (.rt (lotD R)) → F__law_step [lotD L, .int c, .int (w : Int)] = some (lotD R) := fun R h => by
    refine runD_rt rfl ?_
    refine (seqF_nx (δ' := [some (lotD L), some (.int c), some (.int (w : Int)), some (.int (L.length : Int)), none, none, none, none, none]) ?_).trans ?_
    · refine (setF_nx (d := .int (L.length : Int)) ?_).trans rfl
      simp only [vF, cF, unF, nilF, callF, lstF, dispF, tupF, fsF, compF, oN, oS, bT, yesT, truT, andT, orT, notT, itF, nxF, retF, setF, setL, ifF, forF, seqF, consD, bind2, andD, orD, notD, asB, asI, runD, bind1, bindP, List.length_cons, List.length_nil, List.map_cons, List.map_nil, List.getElem?_cons_zero, List.getElem?_cons_succ, List.set_cons_zero, List.set_cons_succ, Option.join_some, Option.bind_some, Option.map_some, Option.join_none, Option.bind_none, Option.map_none, innD, List.cons_append, List.nil_append, List.replicate, Nat.sub_self, Nat.reduceAdd, Nat.reduceSub, if_true, if_false, lenD, itemsD, lotD, List.length_map]
    refine (seqF_nx (δ' := [some (lotD L), some (.int c), some (.int (w : Int)), some (.int (L.length : Int)), some (.int (i : Int)), none, none, none, none]) ((setF_nx ((callF_eq (consD_eq rfl (consD_eq rfl (consD_eq rfl rfl)))).trans mi)).trans rfl)).trans ?_
    refine (seqF_nx (δ' := [some (lotD L), some (.int c), some (.int (w : Int)), some (.int (L.length : Int)), some (.int (i : Int)), some (.int (j : Int)), none, none, none]) ((setF_nx ((callF_eq (consD_eq rfl (consD_eq rfl (consD_eq rfl rfl)))).trans mj)).trans rfl)).trans ?_
    refine (seqF_nx (δ' := [some (lotD L), some (.int c), some (.int (w : Int)), some (.int (L.length : Int)), some (.int (i : Int)), some (.int (j : Int)), some (.lst (L.map rowD)), none, none]) ?_).trans ?_
    · refine (setL_nx (ds := L.map rowD) ?_).trans rfl
      simp only [vF, cF, unF, nilF, callF, lstF, dispF, tupF, fsF, compF, oN, oS, bT, yesT, truT, andT, orT, notT, itF, nxF, retF, setF, setL, ifF, forF, seqF, consD, bind2, andD, orD, notD, asB, asI, runD, bind1, bindP, List.length_cons, List.length_nil, List.map_cons, List.map_nil, List.getElem?_cons_zero, List.getElem?_cons_succ, List.set_cons_zero, List.set_cons_succ, Option.join_some, Option.bind_some, Option.map_some, Option.join_none, Option.bind_none, Option.map_none, innD, List.cons_append, List.nil_append, List.replicate, Nat.sub_self, Nat.reduceAdd, Nat.reduceSub, if_true, if_false, list1, itemsD, lotD]
    refine (seqF_nx (δ' := [some (lotD L), some (.int c), some (.int (w : Int)), some (.int (L.length : Int)), some (.int (i : Int)), some (.int (j : Int)), some (.lst (L.map rowD)), some (.int k), none]) ((setF_nx ((callF_eq (consD_eq rfl (consD_eq rfl (consD_eq rfl rfl)))).trans mk)).trans rfl)).trans ?_
    refine (seqF_nx (δ' := sst L c w L.length i j k (t7 - 3) L) ((setF_nx (d := .int (t7 - 3)) ?_).trans rfl)).trans h
    exact (bind2_eq ((callF_eq (consD_eq rfl (consD_eq rfl (consD_eq rfl rfl)))).trans mt) rfl).trans rfl
  have fin : ∀ R, retF (callF (consD (vF 6) nilF) tupleD) (sst L c w L.length i j k (t7 - 3) R) = some (.rt (lotD R)) := fun R => retF_rt (by simp only [vF, cF, unF, nilF, callF, lstF, dispF, tupF, fsF, compF, oN, oS, bT, yesT, truT, andT, orT, notT, itF, nxF, retF, setF, setL, ifF, forF, seqF, consD, bind2, andD, orD, notD, asB, asI, runD, bind1, bindP, List.length_cons, List.length_nil, List.map_cons, List.map_nil, List.getElem?_cons_zero, List.getElem?_cons_succ, List.set_cons_zero, List.set_cons_succ, Option.join_some, Option.bind_some, Option.map_some, Option.join_none, Option.bind_none, Option.map_none, innD, List.cons_append, List.nil_append, List.replicate, Nat.sub_self, Nat.reduceAdd, Nat.reduceSub, if_true, if_false, sst, tupleD, itemsD, lotD])
  generalize ht : t7 - 3 = t at run tabs fin
  have gi : ixD (.lst (L.map rowD)) (.int (i : Int)) = some (rowD L[i]) := get_row hi'
  have gj : ixD (.lst (L.map rowD)) (.int (j : Int)) = some (rowD L[j]) := get_row hj'
  have li : L[i].length = w := hl _ (List.getElem_mem hi')
  have lj : L[j].length = w := hl _ (List.getElem_mem hj')
  have bi : ∀ q, (La.at' L[i] q).natAbs ≤ 2 ^ b := hb _ (List.getElem_mem hi')
  have bj : ∀ q, (La.at' L[j] q).natAbs ≤ 2 ^ b := hb _ (List.getElem_mem hj')
  have si : La.Sp (L.map La.fv) (La.fv L[i]) := .of (List.mem_map_of_mem (List.getElem_mem hi'))
  have sj : La.Sp (L.map La.fv) (La.fv L[j]) := .of (List.mem_map_of_mem (List.getElem_mem hj'))
  have hk : k = 0 ∨ k = 1 ∨ k = 2 ∨ k = 3 ∨ k = 4 ∨ k = 5 := by omega
  have tmul : ∀ {x : Int}, okMul t x = true := okMul_l (by omega) (by omega)
  have stay : F__law_step [lotD L, .int c, .int (w : Int)] = some (lotD L) → ∃ R : List (List Int), F__law_step [lotD L, .int c, .int (w : Int)] = some (lotD R) ∧ (∀ r ∈ R, r.length = w) ∧ 1 ≤ R.length ∧ R.length ≤ 7 ∧ La.Bd (b + 2) R ∧ La.Eqv (R.map La.fv) (L.map La.fv) := fun h => ⟨L, h, hl, h1, h7, bmono, La.Eqv.refl _⟩
  rcases hk with rfl | rfl | rfl | rfl | hk
  ·
    refine ⟨(L.set i L[j]).set j L[i], run _ ?_, fun r hr => ?_, by simp; omega, by simp; omega, fun r hr => ?_, La.eqv_swap hi' hj'⟩
    · refine (take_if (δ' := sst L c w L.length i j 0 t ((L.set i L[j]).set j L[i])) rfl ?_).trans ?_
      · have s1 := store_i (L := L) (R := L) (c := c) (w := w) (n := L.length) (i := i) (j := j) (k := 0) (t := t) L[j] hi'
        have s2 := store_j (L := L) (R := L.set i L[j]) (c := c) (w := w) (n := L.length) (i := i) (j := j) (k := 0) (t := t) L[i] (by rw [List.length_set]; exact hj')
        unfold swapF
        rw [show bind2 (vF 6) (vF 5) ixD (sst L c w L.length i j 0 t L) = some (rowD L[j]) from (bind2_eq rfl rfl).trans gj, Option.bind_some, show bind2 (vF 6) (vF 4) ixD (sst L c w L.length i j 0 t L) = some (rowD L[i]) from (bind2_eq rfl rfl).trans gi, Option.bind_some, s1, Option.bind_some, if_pos (noL_row _), s2]
        rfl
      · exact (skip_if rfl).trans ((skip_if rfl).trans ((skip_if rfl).trans ((skip_if rfl).trans (fin _))))
    · rcases List.mem_or_eq_of_mem_set hr with z | z
      · exact lset lj r z
      · rw [z]; exact li
    · rcases List.mem_or_eq_of_mem_set hr with z | z
      · exact bset (fun q => bmono _ (List.getElem_mem hj') q) r z
      · rw [z]; exact bmono _ (List.getElem_mem hi')
  ·
    refine ⟨L.set i (La.negZ L[i]), run _ ?_, lset ((La.negZ_len _).trans li), by simp; omega, by simp; omega, bset fun q => by rw [La.at_negZ]; have := bi q; omega, La.eqv_set hi' ?_ ?_⟩
    · refine (skip_if rfl).trans ((take_if (δ' := sst L c w L.length i j 1 t (L.set i (La.negZ L[i]))) rfl ?_).trans ?_)
      · have s1 := store_i (L := L) (R := L) (c := c) (w := w) (n := L.length) (i := i) (j := j) (k := 1) (t := t) (La.negZ L[i]) hi'
        have h2 : compD (bind1 0) yesT (unF (vF 0) negD) [none] (L[i].map D.int) = some ((La.negZ L[i]).map D.int) := by
          unfold La.negZ
          rw [List.map_map]
          exact compD_map (fun δ => ∃ a, δ = [a]) D.int _ _ _ ⟨none, rfl⟩ (by
            rintro x _ δ ⟨a, rfl⟩
            exact ⟨[some (.int x)], rfl, ⟨_, rfl⟩, rfl, rfl⟩)
        have e1 : callF (consD (lstF (compF (itF (bind2 (vF 6) (vF 4) ixD)) (bind1 0) yesT (unF (vF 0) negD) [none])) nilF) tupleD (sst L c w L.length i j 1 t L) = some (rowD (La.negZ L[i])) := by
          refine (callF_eq (consD_eq (lstF_eq (ds := (La.negZ L[i]).map D.int) ?_) rfl)).trans rfl
          have b1 : bind2 (vF 6) (vF 4) ixD (sst L c w L.length i j 1 t L) = some (rowD L[i]) := (bind2_eq rfl rfl).trans gi
          unfold compF itF
          rw [b1]
          exact h2
        unfold putS
        rw [e1, Option.bind_some, s1]; rfl
      · exact (skip_if rfl).trans ((skip_if rfl).trans ((skip_if rfl).trans (fin _)))
    · rw [La.fv_negZ]; exact si.neg
    · have : La.Sp ((L.set i (La.negZ L[i])).map La.fv) (La.fv (La.negZ L[i])) := .of (List.mem_map_of_mem (List.mem_iff_getElem.mpr ⟨i, by simp [hi'], by rw [List.getElem_set_self]⟩))
      have := this.neg
      rw [La.fv_negZ] at this
      have e : (fun j => - -La.fv L[i] j) = La.fv L[i] := by funext j; omega
      rwa [e] at this
  ·
    by_cases h6 : L.length < 7
    · refine ⟨L ++ [List.replicate w 0], run _ ?_, fun r hr => ?_, by simp, by simp; omega, fun r hr => ?_, La.eqv_snoc ?_⟩
      · have tst : andT (bT (bind2 (vF 7) (cF (.int 2)) eqD)) (bT (bind2 (vF 3) (cF (.int 7)) ltD)) (sst L c w L.length i j 2 t L) = some true := andT_t rfl (bT_eq ((bind2_eq rfl rfl).trans (by simp only [ltD]; rw [decide_eq_true (by omega)])))
        refine (skip_if rfl).trans ((skip_if rfl).trans ((take_if (δ' := sst L c w L.length i j 2 t (L ++ [List.replicate w 0])) tst ?_).trans ?_))
        · have hf : fit (w : Int).natAbs = true := fit_of (by omega)
          have h3 : compD (bind1 0) yesT (cF (.int 0)) [none] ((List.range w).map fun (k : Nat) => D.int (k : Int)) = some ((List.replicate w (0 : Int)).map D.int) := by
            rw [show (List.replicate w (0 : Int)).map D.int = (List.range w).map fun _ => D.int 0 by rw [List.map_const', List.length_range, List.map_replicate]]
            exact compD_map (fun δ => ∃ a, δ = [a]) _ _ _ _ ⟨none, rfl⟩ (by rintro k _ δ ⟨a, rfl⟩; exact ⟨_, rfl, ⟨_, rfl⟩, rfl, rfl⟩)
          have e1 : callF (consD (lstF (compF (fsF (consD (vF 2) nilF) range1D) (bind1 0) yesT (cF (.int 0)) [none])) nilF) tupleD (sst L c w L.length i j 2 t L) = some (rowD (List.replicate w 0)) := by
            refine (callF_eq (consD_eq (lstF_eq (ds := (List.replicate w (0 : Int)).map D.int) ?_) rfl)).trans rfl
            simp only [compF, fsF, consD, vF, nilF, sst, List.getElem?_cons_zero, List.getElem?_cons_succ, Option.join_some, Option.bind_some, Option.map_some, range1D, hf, if_true, Int.toNat_natCast, rangeD_map, innD, List.map_cons, List.map_nil, Option.bind_none]
            exact h3
          unfold appF
          rw [e1, Option.bind_some]
          have ho := others_sst L c w L.length i j 2 t L
          simp only [sst, List.getElem?_cons_zero, List.getElem?_cons_succ, Option.join_some] at ho ⊢
          refine (if_pos ⟨fit_of (by rw [List.length_map]; omega), noLs_rows L, noL_row _, ho⟩).trans ?_
          simp only [List.set_cons_zero, List.set_cons_succ, List.map_append, List.map_cons, List.map_nil]
        · exact (skip_if rfl).trans ((skip_if rfl).trans (fin _))
      · rcases List.mem_append.mp hr with z | z
        · exact hl r z
        · rw [List.mem_singleton.mp z]; simp
      · rcases List.mem_append.mp hr with z | z
        · exact bmono r z
        · intro q
          rw [List.mem_singleton.mp z]
          have := congrFun (La.fv_zeros w) q
          rw [La.fv_at] at this
          rw [this]; simp [La.zV]
      · rw [La.fv_zeros]; exact .zero
    · refine stay (run _ ?_)
      have tst : andT (bT (bind2 (vF 7) (cF (.int 2)) eqD)) (bT (bind2 (vF 3) (cF (.int 7)) ltD)) (sst L c w L.length i j 2 t L) = some false := andT_t rfl (bT_eq ((bind2_eq rfl rfl).trans (by simp only [ltD]; rw [decide_eq_false (by omega)])))
      exact (skip_if rfl).trans ((skip_if rfl).trans ((skip_if tst).trans ((skip_if rfl).trans ((skip_if rfl).trans (fin _)))))
  ·
    by_cases h6 : L.length < 7
    · refine ⟨L.take i ++ La.mulm t L[j] :: L.drop i, run _ ?_, fun r hr => ?_, by simp; omega, by simp; omega, fun r hr => ?_, La.eqv_insert ?_⟩
      · have tst : andT (bT (bind2 (vF 7) (cF (.int 3)) eqD)) (bT (bind2 (vF 3) (cF (.int 7)) ltD)) (sst L c w L.length i j 3 t L) = some true := andT_t rfl (bT_eq ((bind2_eq rfl rfl).trans (by simp only [ltD]; rw [decide_eq_true (by omega)])))
        refine (skip_if rfl).trans ((skip_if rfl).trans ((skip_if rfl).trans ((take_if (δ' := sst L c w L.length i j 3 t (L.take i ++ La.mulm t L[j] :: L.drop i)) tst ?_).trans ?_)))
        · have h3 : compD (bind1 0) yesT (bind2 (vF 1) (vF 0) mulD) [none, some (.int t)] (L[j].map D.int) = some ((La.mulm t L[j]).map D.int) := by
            unfold La.mulm
            rw [List.map_map]
            exact compD_map (fun δ => ∃ a, δ = [a, some (.int t)]) D.int _ _ _ ⟨none, rfl⟩ (by
              rintro x _ δ ⟨a, rfl⟩
              refine ⟨[some (.int x), some (.int t)], rfl, ⟨_, rfl⟩, rfl, ?_⟩
              exact (bind2_eq rfl rfl).trans (mulD_int tmul))
          have e1 : callF (consD (lstF (compF (itF (bind2 (vF 6) (vF 5) ixD)) (bind1 0) yesT (bind2 (vF 1) (vF 0) mulD) [none, some 8])) nilF) tupleD (sst L c w L.length i j 3 t L) = some (rowD (La.mulm t L[j])) := by
            refine (callF_eq (consD_eq (lstF_eq (ds := (La.mulm t L[j]).map D.int) ?_) rfl)).trans rfl
            have b1 : bind2 (vF 6) (vF 5) ixD (sst L c w L.length i j 3 t L) = some (rowD L[j]) := (bind2_eq rfl rfl).trans gj
            unfold compF itF
            rw [b1]
            exact h3
          unfold insF
          rw [show vF 4 (sst L c w L.length i j 3 t L) = some (.int (i : Int)) from rfl, Option.bind_some, e1, Option.bind_some]
          have ho := others_sst L c w L.length i j 3 t L
          simp only [sst, List.getElem?_cons_zero, List.getElem?_cons_succ, Option.join_some] at ho ⊢
          refine (if_pos ⟨⟨fit_of (by rw [List.length_map]; omega), by omega, by omega⟩, noLs_rows L, noL_row _, ho⟩).trans ?_
          simp only [List.set_cons_zero, List.set_cons_succ, List.map_append, List.map_cons, List.map_take, List.map_drop, Int.toNat_natCast]
        · exact (skip_if rfl).trans (fin _)
      · rcases List.mem_append.mp hr with z | z
        · exact hl r (List.mem_of_mem_take z)
        · rcases List.mem_cons.mp z with rfl | z
          · rw [show (La.mulm t L[j]).length = L[j].length by simp [La.mulm]]; exact lj
          · exact hl r (List.mem_of_mem_drop z)
      · rcases List.mem_append.mp hr with z | z
        · exact bmono r (List.mem_of_mem_take z)
        · rcases List.mem_cons.mp z with rfl | z
          · intro q
            rw [La.at_mulm, Int.natAbs_mul]
            have := Nat.mul_le_mul tabs (bj q)
            omega
          · exact bmono r (List.mem_of_mem_drop z)
      · rw [La.fv_mulm]; exact sj.mul t
    · refine stay (run _ ?_)
      have tst : andT (bT (bind2 (vF 7) (cF (.int 3)) eqD)) (bT (bind2 (vF 3) (cF (.int 7)) ltD)) (sst L c w L.length i j 3 t L) = some false := andT_t rfl (bT_eq ((bind2_eq rfl rfl).trans (by simp only [ltD]; rw [decide_eq_false (by omega)])))
      exact (skip_if rfl).trans ((skip_if rfl).trans ((skip_if rfl).trans ((skip_if tst).trans ((skip_if rfl).trans (fin _)))))
  ·
    have k3 : 3 < k := by rcases hk with rfl | rfl <;> decide
    have tg : bT (bind2 (vF 7) (cF (.int 3)) gtD) (sst L c w L.length i j k t L) = some true := bT_eq ((bind2_eq rfl rfl).trans (by simp only [gtD]; rw [decide_eq_true k3]))
    have tn : bT (bind2 (vF 4) (vF 5) neD) (sst L c w L.length i j k t L) = some (!((i : Int) == (j : Int))) := bT_eq ((bind2_eq rfl rfl).trans rfl)
    have skips : ∀ {rest : DS → Option DF}, (seqF (ifF (bT (bind2 (vF 7) (cF (.int 0)) eqD)) (swapF 6 (vF 4) (vF 5) (bind2 (vF 6) (vF 5) ixD) (bind2 (vF 6) (vF 4) ixD)) nxF) (seqF (ifF (bT (bind2 (vF 7) (cF (.int 1)) eqD)) (putS 6 (vF 4) (callF (consD (lstF (compF (itF (bind2 (vF 6) (vF 4) ixD)) (bind1 0) yesT (unF (vF 0) negD) [none])) nilF) tupleD)) nxF) (seqF (ifF (andT (bT (bind2 (vF 7) (cF (.int 2)) eqD)) (bT (bind2 (vF 3) (cF (.int 7)) ltD))) (appF 6 (callF (consD (lstF (compF (fsF (consD (vF 2) nilF) range1D) (bind1 0) yesT (cF (.int 0)) [none])) nilF) tupleD)) nxF) (seqF (ifF (andT (bT (bind2 (vF 7) (cF (.int 3)) eqD)) (bT (bind2 (vF 3) (cF (.int 7)) ltD))) (insF 6 (vF 4) (callF (consD (lstF (compF (itF (bind2 (vF 6) (vF 5) ixD)) (bind1 0) yesT (bind2 (vF 1) (vF 0) mulD) [none, some 8])) nilF) tupleD)) nxF) rest)))) (sst L c w L.length i j k t L) = rest (sst L c w L.length i j k t L) := by
      intro rest
      rcases hk with rfl | rfl
      · exact (skip_if rfl).trans ((skip_if rfl).trans ((skip_if rfl).trans (skip_if rfl)))
      · exact (skip_if rfl).trans ((skip_if rfl).trans ((skip_if rfl).trans (skip_if rfl)))
    by_cases hij : i = j
    · refine stay (run _ (skips.trans ((skip_if (andT_t tg (tn.trans ?_))).trans (fin _))))
      subst hij; simp
    · have hadd : (La.addm L[i] t L[j]).length = w := (La.addm_len (li.trans lj.symm)).trans li
      refine ⟨L.set i (La.addm L[i] t L[j]), run _ (skips.trans ((take_if (δ' := sst L c w L.length i j k t (L.set i (La.addm L[i] t L[j]))) (andT_t tg (tn.trans ?_)) ?_).trans (fin _))), lset hadd, by simp; omega, by simp; omega, bset fun q => ?_, La.eqv_set hi' ?_ ?_⟩
      · have : ((i : Int) == (j : Int)) = false := by simp; omega
        rw [this]; rfl
      · have s1 := store_i (L := L) (R := L) (c := c) (w := w) (n := L.length) (i := i) (j := j) (k := k) (t := t) (La.addm L[i] t L[j]) hi'
        have h3 : compD (bindP 0 1) yesT (bind2 (vF 0) (bind2 (vF 2) (vF 1) mulD) addD) [none, none, some (.int t)] ((L[i].zip L[j]).map fun p => D.tup [.int p.1, .int p.2]) = some ((La.addm L[i] t L[j]).map D.int) := by
          rw [show (La.addm L[i] t L[j]).map D.int = (L[i].zip L[j]).map fun p => D.int (p.1 + t * p.2) by unfold La.addm; rw [zipWith_zip, List.map_map]; rfl]
          exact compD_map (fun δ => ∃ a b, δ = [a, b, some (.int t)]) _ _ _ _ ⟨none, none, rfl⟩ (by
            rintro ⟨x, y⟩ _ δ ⟨u, v, rfl⟩
            refine ⟨[some (.int x), some (.int y), some (.int t)], rfl, ⟨_, _, rfl⟩, rfl, ?_⟩
            exact (bind2_eq rfl ((bind2_eq rfl rfl).trans (mulD_int tmul))).trans rfl)
        have e1 : callF (consD (lstF (compF (fsF (consD (bind2 (vF 6) (vF 4) ixD) (consD (bind2 (vF 6) (vF 5) ixD) nilF)) zip2) (bindP 0 1) yesT (bind2 (vF 0) (bind2 (vF 2) (vF 1) mulD) addD) [none, none, some 8])) nilF) tupleD (sst L c w L.length i j k t L) = some (rowD (La.addm L[i] t L[j])) := by
          refine (callF_eq (consD_eq (lstF_eq (ds := (La.addm L[i] t L[j]).map D.int) ?_) rfl)).trans rfl
          have a1 : consD (bind2 (vF 6) (vF 4) ixD) (consD (bind2 (vF 6) (vF 5) ixD) nilF) (sst L c w L.length i j k t L) = some [rowD L[i], rowD L[j]] := consD_eq ((bind2_eq rfl rfl).trans gi) (consD_eq ((bind2_eq rfl rfl).trans gj) rfl)
          unfold compF fsF
          rw [a1, Option.bind_some]
          simp only [zip2, itemsD, rowD, Option.bind_some, Option.map_some, zipD_map]
          exact h3
        unfold putS
        rw [e1, Option.bind_some, s1]; rfl
      · rw [La.at_addm (li.trans lj.symm)]
        have h4 : (t * La.at' L[j] q).natAbs ≤ 3 * 2 ^ b := by rw [Int.natAbs_mul]; exact Nat.mul_le_mul tabs (bj q)
        have := bi q
        omega
      · rw [La.fv_addm (li.trans lj.symm)]; exact si.axs t sj
      · have m1 : La.Sp ((L.set i (La.addm L[i] t L[j])).map La.fv) (La.fv (La.addm L[i] t L[j])) := .of (List.mem_map_of_mem (List.mem_iff_getElem.mpr ⟨i, by simp [hi'], by rw [List.getElem_set_self]⟩))
        have m2 : La.Sp ((L.set i (La.addm L[i] t L[j])).map La.fv) (La.fv L[j]) := .of (List.mem_map_of_mem (List.mem_iff_getElem.mpr ⟨j, by simp [hj'], by rw [List.getElem_set_ne hij]⟩))
        have := m1.axs (-t) m2
        rw [La.fv_addm (li.trans lj.symm)] at this
        have e : La.ax (La.ax (La.fv L[i]) t (La.fv L[j])) (-t) (La.fv L[j]) = La.fv L[i] := by funext q; simp only [La.ax]; grind
        rwa [e] at this
def cutG {α : Type} (xs : List α) (lo hi : Option Int) : List α := (xs.drop (HT.sIx xs.length 0 lo)).take (HT.sIx xs.length xs.length hi - HT.sIx xs.length 0 lo)
theorem cutD_map {α : Type} (f : α → D) (xs : List α) (lo hi : Option Int) : cutD (xs.map f) lo hi = (cutG xs lo hi).map f := by
  unfold cutD cutG
  rw [List.length_map, ← List.map_drop, ← List.map_take]
theorem cutG_mem {α : Type} {xs : List α} {lo hi : Option Int} {x : α} (h : x ∈ cutG xs lo hi) : x ∈ xs := List.mem_of_mem_drop (List.mem_of_mem_take h)
theorem lead_while (r : List Int) : ∀ (d k n : Nat), La.leadZ r = k + d → d < n → whileD (andT (bT (bind2 (vF 1) (callF (consD (vF 0) nilF) lenD) ltD)) (bT (bind2 (bind2 (vF 0) (vF 1) ixD) (cF (.int 0)) eqD))) (setF 1 (bind2 (vF 1) (cF (.int 1)) addD)) n [some (rowD r), some (.int (k : Int))] = some (.nx [some (rowD r), some (.int (La.leadZ r : Int))])
  | d, k, 0, _, h => by omega
  | d, k, n + 1, e, h => by
    have le := La.leadZ_le r
    have t1 : bT (bind2 (vF 1) (callF (consD (vF 0) nilF) lenD) ltD) [some (rowD r), some (.int (k : Int))] = some (decide (k < r.length)) := by
      refine bT_eq ((bind2_eq (x := .int (k : Int)) (y := .int (r.length : Int)) rfl ?_).trans ?_)
      · simp only [vF, cF, unF, nilF, callF, lstF, dispF, tupF, fsF, compF, oN, oS, bT, yesT, truT, andT, orT, notT, itF, nxF, retF, setF, setL, ifF, forF, seqF, consD, bind2, andD, orD, notD, asB, asI, runD, bind1, bindP, List.length_cons, List.length_nil, List.map_cons, List.map_nil, List.getElem?_cons_zero, List.getElem?_cons_succ, List.set_cons_zero, List.set_cons_succ, Option.join_some, Option.bind_some, Option.map_some, Option.join_none, Option.bind_none, Option.map_none, innD, List.cons_append, List.nil_append, List.replicate, Nat.sub_self, Nat.reduceAdd, Nat.reduceSub, if_true, if_false, lenD, itemsD, rowD, List.length_map]
      · show some (D.bl (decide ((k : Int) < (r.length : Int)))) = _
        congr 2
        exact decide_eq_decide.mpr (by omega)
    unfold whileD
    cases d with
    | zero =>
      have tc : andT (bT (bind2 (vF 1) (callF (consD (vF 0) nilF) lenD) ltD)) (bT (bind2 (bind2 (vF 0) (vF 1) ixD) (cF (.int 0)) eqD)) [some (rowD r), some (.int (k : Int))] = some false := by
        by_cases z : k < r.length
        · refine andT_t (t1.trans (by rw [decide_eq_true z])) (bT_eq ((bind2_eq ((bind2_eq rfl rfl).trans (ixD_row z)) rfl).trans ?_))
          show some (D.bl (La.at' r k == 0)) = _
          have := La.leadZ_ne r (by omega)
          rw [e, Nat.add_zero] at this
          simp [this]
        · unfold andT
          rw [t1, decide_eq_false z]; rfl
      rw [tc, e]
      rfl
    | succ d =>
      have z : k < r.length := by omega
      have tc : andT (bT (bind2 (vF 1) (callF (consD (vF 0) nilF) lenD) ltD)) (bT (bind2 (bind2 (vF 0) (vF 1) ixD) (cF (.int 0)) eqD)) [some (rowD r), some (.int (k : Int))] = some true := by
        refine andT_t (t1.trans (by rw [decide_eq_true z])) (bT_eq ((bind2_eq ((bind2_eq rfl rfl).trans (ixD_row z)) rfl).trans ?_))
        show some (D.bl (La.at' r k == 0)) = _
        rw [La.leadZ_zero r k (by omega)]; rfl
      have st : setF 1 (bind2 (vF 1) (cF (.int 1)) addD) [some (rowD r), some (.int (k : Int))] = some (.nx [some (rowD r), some (.int ((k + 1 : Nat) : Int))]) := (setF_nx ((bind2_eq rfl rfl).trans rfl)).trans rfl
      rw [tc]
      simp only [Option.bind_some, if_true, st]
      exact lead_while r d (k + 1) n (by omega) (by omega)
theorem F_lead (r : List Int) : F_lead_place [rowD r] = some (.int (La.leadZ r : Int)) := by
  refine runD_rt rfl ?_
  refine (seqF_nx (δ' := [some (rowD r), some (.int ((0 : Nat) : Int))]) rfl).trans ?_
  exact (seqF_nx (whF_eq (lead_while r (La.leadZ r) 0 (La.leadZ r + 1) (by omega) (by omega)))).trans (retF_rt rfl)
theorem rest_loop {x0 x1 x2 : Option D} {w s : Nat} (hw : w ≤ 1000) : ∀ {lo : Nat} {ls : List Nat} (P : List (List Int)) (v : List Int) (b : Nat) (x4 : Option D), La.Pl lo ls (P.map La.fv) → (∀ r ∈ P, r.length = w) → (∀ x ∈ ls, x < w) → La.Bd s P → v.length = w → (∀ j, (La.at' v j).natAbs ≤ 2 ^ b) → b + P.length * (s + 1) + s < 59999999 →
    ∃ x4', forD (bind1 4) (setF 3 (callF (consD (vF 3) (consD (vF 4) (consD (callF (consD (vF 4) nilF) F_lead_place) nilF))) F_lowered)) (P.map rowD) [x0, x1, x2, some (rowD v), x4] = some (.nx [x0, x1, x2, some (rowD (La.remZ P v)), x4']) ∧ ∀ j, (La.at' (La.remZ P v) j).natAbs ≤ 2 ^ (b + P.length * (s + 1))
  | _, [], [], v, b, x4, _, _, _, _, _, bv, _ => ⟨x4, rfl, by simpa [La.remZ] using bv⟩
  | lo, l :: ls, r :: P, v, b, x4, h, hl, hx, hs, hv, bv, hb => by
    have lr := hl r List.mem_cons_self
    have lw := hx l List.mem_cons_self
    have el := h.lead_eq lr lw
    have pos : 0 < La.at' r l := h.2.2.1
    have e : b + (r :: P).length * (s + 1) = b + s + 1 + P.length * (s + 1) := by rw [List.length_cons, Nat.add_mul]; omega
    rw [e] at hb ⊢
    obtain ⟨x4', e1, e2⟩ := rest_loop (x0 := x0) (x1 := x1) (x2 := x2) (s := s) hw P (La.lowZ v r l) (b + s + 1) (some (rowD r)) h.2.2.2.2 (fun q hq => hl q (List.mem_cons_of_mem _ hq)) (fun x hx' => hx x (List.mem_cons_of_mem _ hx')) (fun q hq => hs q (List.mem_cons_of_mem _ hq)) (La.lowZ_len hv lr) (La.low_bd hv lr pos bv (hs r List.mem_cons_self)) hb
    refine ⟨x4', ?_, by simp only [La.remZ]; rw [← el]; exact e2⟩
    rw [List.map_cons]
    unfold forD
    have b1 : bind1 4 (rowD r) [x0, x1, x2, some (rowD v), x4] = some [x0, x1, x2, some (rowD v), some (rowD r)] := rfl
    have low := F_lowered_eq (r := v) (l := r) (p := l) (w := w) (b := b + s) hv lr lw hw (by omega) (Nat.le_trans (bv l) (Nat.pow_le_pow_right (by decide) (by omega))) (fun j => Nat.le_trans (hs r List.mem_cons_self j) (Nat.pow_le_pow_right (by decide) (by omega))) (by omega)
    have b2 : setF 3 (callF (consD (vF 3) (consD (vF 4) (consD (callF (consD (vF 4) nilF) F_lead_place) nilF))) F_lowered) [x0, x1, x2, some (rowD v), some (rowD r)] = some (.nx [x0, x1, x2, some (rowD (La.lowZ v r l)), some (rowD r)]) := by
      refine (setF_nx ((callF_eq (consD_eq rfl (consD_eq rfl (consD_eq ((callF_eq (consD_eq rfl rfl)).trans (F_lead r)) rfl)))).trans ?_)).trans rfl
      rw [← el]; exact low
    rw [b1, Option.bind_some, b2, Option.bind_some]
    simp only [La.remZ]
    rw [← el]
    exact e1
  | _, [], _ :: _, _, _, _, h, _, _, _, _, _, _ => h.elim
  | _, _ :: _, [], _, _, _, h, _, _, _, _, _, _ => h.elim
theorem F_rest_eq {rows P : List (List Int)} {w s b : Nat} {v : List Int} (hok : PlOk rows w) (hP : La.IsPl w rows P) (hw : w ≤ 1000) (hs : La.Bd s P) (hv : v.length = w) (bv : ∀ j, (La.at' v j).natAbs ≤ 2 ^ b) (hb : b + P.length * (s + 1) + s < 59999999) :
    F_rest [lotD rows, .int (w : Int), rowD v] = some (rowD (La.remZ P v)) ∧ ∀ j, (La.at' (La.remZ P v) j).natAbs ≤ 2 ^ (b + P.length * (s + 1)) := by
  obtain ⟨ls, p, q⟩ := hP.pl
  obtain ⟨x4, e1, e2⟩ := rest_loop (x0 := some (lotD rows)) (x1 := some (.int (w : Int))) (x2 := some (rowD v)) hw P v b none p hP.len q hs hv bv hb
  refine ⟨runD_rt rfl ?_, e2⟩
  refine (seqF_nx (δ' := [some (lotD rows), some (.int (w : Int)), some (rowD v), some (rowD v), none]) rfl).trans ?_
  have it : itF (callF (consD (vF 0) (consD (vF 1) nilF)) F_plain) [some (lotD rows), some (.int (w : Int)), some (rowD v), some (rowD v), none] = some (P.map rowD) := by
    unfold itF
    rw [(callF_eq (consD_eq rfl (consD_eq rfl rfl))).trans (F_plain_eq hok hP)]
    rfl
  exact (seqF_nx (forF_nx it e1)).trans (retF_rt rfl)
theorem compF_eq {fi : DS → Option (List D)} {h : D → DS → Option DS} {fc : DS → Option Bool} {fe : DS → Option D} {inn : List (Option Nat)} {δ : DS} {ds xs : List D} (h1 : fi δ = some ds) (h2 : compD h fc fe (innD inn δ) ds = some xs) : compF fi h fc fe inn δ = some xs := by
  unfold compF
  rw [h1]; exact h2
theorem add_row {r s : List Int} (h : r.length + s.length ≤ 1000) : addD (rowD r) (rowD s) = some (rowD (r ++ s)) := by
  show (if _ then _ else _) = _
  rw [if_pos (fit_of (by simpa using h)), ← List.map_append]; rfl
theorem ss_mono (b : Nat) : ∀ {n m : Nat}, n ≤ m → La.ss b n ≤ La.ss b m ∧ La.bb b n ≤ La.bb b m := fun {n m} h => by
  induction h with
  | refl => exact ⟨Nat.le_refl _, Nat.le_refl _⟩
  | step _ ih => exact ⟨Nat.le_trans ih.1 (by show _ ≤ La.ss b _ + _ + 1; omega), Nat.le_trans ih.2 (La.bb_le b _)⟩
theorem fv_inj {r s : List Int} {w : Nat} (hr : r.length = w) (hs : s.length = w) (e : La.fv r = La.fv s) : r = s := by
  have := La.map_fv_inj (w := w) (P := [r]) (Q := [s]) (fun q hq => by rw [List.mem_singleton.mp hq]; exact hr) (fun q hq => by rw [List.mem_singleton.mp hq]; exact hs) (by simp [e])
  simpa using this
theorem range_it {n : Nat} (hn : n ≤ 1000) : range1D [.int (n : Int)] = some ((List.range n).map fun (i : Nat) => D.int (i : Int)) := by
  show (if _ then _ else _) = _
  rw [if_pos (fit_of (by omega)), Int.toNat_natCast]
  congr 1
  exact rangeD_map n
def leadsZ (P : List (List Int)) : List Int := P.map fun r => La.at' r (La.leadZ r)
theorem F_leads_eq {P : List (List Int)} (h : ∀ r ∈ P, La.leadZ r < r.length) : F_leads [lotD P] = some (.lst ((leadsZ P).map D.int)) := by
  refine runD_rt rfl (retF_rt (lstF_eq ?_))
  unfold leadsZ
  rw [List.map_map]
  refine compD_map (fun δ => ∃ a, δ = [a]) rowD _ _ _ ⟨none, rfl⟩ ?_
  rintro r hr δ ⟨a, rfl⟩
  exact ⟨[some (rowD r)], rfl, ⟨_, rfl⟩, rfl, (bind2_eq rfl ((callF_eq (consD_eq rfl rfl)).trans (F_lead r))).trans (ixD_row (h r hr))⟩
theorem leads_in {w : Nat} {X P : List (List Int)} (hP : La.IsPl w X P) : ∀ r ∈ P, La.leadZ r < r.length ∧ 0 < La.at' r (La.leadZ r) := fun r hr => by
  obtain ⟨ls, p, q⟩ := hP.pl
  have := La.red_at p hP.len q (La.rem_red (La.fv r) p.ec) r hr
  rw [hP.len r hr]
  omega
theorem weight_loop {x0 x1 x2 : Option D} {s : Nat} : ∀ (ls : List Int) (t : Nat) (m : Int) (x4 : Option D), (∀ x ∈ ls, x.natAbs ≤ 2 ^ s) → m.natAbs ≤ 2 ^ t → t + s + ls.length * s < 59999999 →
    ∃ x4', forD (bind1 4) (setF 3 (bind2 (vF 3) (vF 4) mulD)) (ls.map D.int) [x0, x1, x2, some (.int m), x4] = some (.nx [x0, x1, x2, some (.int (m * La.prod ls)), x4'])
  | [], t, m, x4, _, _, _ => ⟨x4, by simp [forD, La.prod]⟩
  | a :: ls, t, m, x4, h, hm, ht => by
    rw [List.length_cons, Nat.add_mul, Nat.one_mul] at ht
    have ha := h a List.mem_cons_self
    obtain ⟨x4', e⟩ := weight_loop (x0 := x0) (x1 := x1) (x2 := x2) (s := s) ls (t + s) (m * a) (some (.int a)) (fun x hx => h x (List.mem_cons_of_mem _ hx)) (by rw [Int.natAbs_mul, Nat.pow_add]; exact Nat.mul_le_mul hm ha) (by omega)
    refine ⟨x4', ?_⟩
    rw [List.map_cons]
    unfold forD
    have b1 : bind1 4 (D.int a) [x0, x1, x2, some (.int m), x4] = some [x0, x1, x2, some (.int m), some (.int a)] := rfl
    have b2 : setF 3 (bind2 (vF 3) (vF 4) mulD) [x0, x1, x2, some (.int m), some (.int a)] = some (.nx [x0, x1, x2, some (.int (m * a)), some (.int a)]) :=
      (setF_nx ((bind2_eq rfl rfl).trans (mulD_int (okMul_of (k := t + s) (Nat.le_trans hm (Nat.pow_le_pow_right (by decide) (by omega))) (Nat.le_trans ha (Nat.pow_le_pow_right (by decide) (by omega))) (by omega))))).trans rfl
    rw [b1, Option.bind_some, b2, Option.bind_some]
    simp only [La.prod]
    rw [← Int.mul_assoc]
    exact e
theorem F_weight_none {rows P : List (List Int)} {w : Nat} (hok : PlOk rows w) (hP : La.IsPl w rows P) (h : P.length < w) : F_weight [lotD rows, .int (w : Int)] = some .non := by
  refine runD_rt rfl ?_
  refine (seqF_nx (δ' := [some (lotD rows), some (.int (w : Int)), some (lotD P), none, none]) ((setF_nx ((callF_eq (consD_eq rfl (consD_eq rfl rfl))).trans (F_plain_eq hok hP))).trans rfl)).trans ?_
  refine seqF_rt ((ifF_t (bT_eq ((bind2_eq (x := .int (P.length : Int)) (y := .int (w : Int)) ((callF_eq (consD_eq rfl rfl)).trans ?_) rfl).trans ?_))).trans (retF_rt rfl))
  · simp only [lenD, itemsD, lotD, List.length_map, Option.map_some]
  · show some (D.bl (decide ((P.length : Int) < (w : Int)))) = _
    rw [decide_eq_true (by omega)]
theorem F_weight_eq {rows P : List (List Int)} {w s : Nat} (hok : PlOk rows w) (hP : La.IsPl w rows P) (h : P.length = w) (hs : La.Bd s P) (hb : s + w * s < 59999999) : F_weight [lotD rows, .int (w : Int)] = some (.int (La.prod (leadsZ P))) := by
  have li := leads_in hP
  obtain ⟨x4, e⟩ := weight_loop (x0 := some (lotD rows)) (x1 := some (.int (w : Int))) (x2 := some (lotD P)) (s := s) (leadsZ P) 0 1 none (fun x hx => by
    obtain ⟨r, hr, rfl⟩ := List.mem_map.mp hx
    exact hs r hr _) (by decide) (by simp [leadsZ, h]; omega)
  refine runD_rt rfl ?_
  refine (seqF_nx (δ' := [some (lotD rows), some (.int (w : Int)), some (lotD P), none, none]) ((setF_nx ((callF_eq (consD_eq rfl (consD_eq rfl rfl))).trans (F_plain_eq hok hP))).trans rfl)).trans ?_
  refine (seqF_nx (δ' := [some (lotD rows), some (.int (w : Int)), some (lotD P), none, none]) ((ifF_f (bT_eq ((bind2_eq (x := .int (P.length : Int)) (y := .int (w : Int)) ((callF_eq (consD_eq rfl rfl)).trans ?_) rfl).trans ?_))).trans rfl)).trans ?_
  · simp only [lenD, itemsD, lotD, List.length_map, Option.map_some]
  · show some (D.bl (decide ((P.length : Int) < (w : Int)))) = _
    rw [decide_eq_false (by omega)]
  refine (seqF_nx (δ' := [some (lotD rows), some (.int (w : Int)), some (lotD P), some (.int 1), none]) rfl).trans ?_
  have it : itF (callF (consD (vF 2) nilF) F_leads) [some (lotD rows), some (.int (w : Int)), some (lotD P), some (.int 1), none] = some ((leadsZ P).map D.int) := by
    unfold itF
    rw [(callF_eq (consD_eq rfl rfl)).trans (F_leads_eq fun r hr => (li r hr).1)]
    rfl
  refine (seqF_nx (forF_nx it e)).trans (retF_rt ?_)
  rw [Int.one_mul]; rfl
theorem wt_leads {n : Nat} : ∀ {lo : Nat} {ls : List Nat} {P : List (List Int)}, La.Pl lo ls (P.map La.fv) → (∀ r ∈ P, r.length = n) → (∀ x ∈ ls, x < n) → La.prod (leadsZ P) = La.wt ls (P.map La.fv)
  | _, [], [], _, _, _ => rfl
  | _, l :: ls, r :: P, h, hl, hx => by
    have e := La.Pl.lead_eq h (hl r List.mem_cons_self) (hx l List.mem_cons_self)
    have ih := wt_leads h.2.2.2.2 (fun q hq => hl q (List.mem_cons_of_mem _ hq)) fun x hx' => hx x (List.mem_cons_of_mem _ hx')
    show La.at' r (La.leadZ r) * La.prod (leadsZ P) = La.at' r l * La.wt ls (P.map La.fv)
    rw [ih, e]
  | _, [], _ :: _, h, _, _ => h.elim
  | _, _ :: _, [], h, _, _ => h.elim
def thC (ns : List Int) (k n : Nat) : Int := cellZ ns (k + n) + 31 * (n : Int)
def thR (ns : List Int) (k w n : Nat) : List Int := List.replicate n 0 ++ [1 + mixZ (thC ns k n) 9949 5] ++ (List.range' (n + 1) (w - (n + 1))).map fun (i : Nat) => mixZ (thC ns k n + 7 * (i : Int)) 9941 9 - 4
theorem thR_len {ns : List Int} {k w n : Nat} (h : n < w) : (thR ns k w n).length = w := by simp [thR]; omega
theorem thR_at {ns : List Int} {k w n : Nat} : (∀ i, i < n → La.at' (thR ns k w n) i = 0) ∧ La.at' (thR ns k w n) n = 1 + mixZ (thC ns k n) 9949 5 := by
  constructor
  · intro i hi
    unfold thR
    rw [List.append_assoc, La.at_app, List.length_replicate, if_pos hi, La.at_rep0]
  · unfold thR
    rw [List.append_assoc, La.at_app, List.length_replicate, if_neg (by omega), Nat.sub_self]
    rfl
theorem thR_bd (ns : List Int) (k w n : Nat) : ∀ x ∈ thR ns k w n, x.natAbs ≤ 5 := fun x hx => by
  unfold thR at hx
  rcases List.mem_append.mp hx with hx | hx
  · rcases List.mem_append.mp hx with hx | hx
    · have := (List.mem_replicate.mp hx).2; omega
    · have := mixZ_b (thC ns k n) 9949 5 (by decide)
      rw [List.mem_singleton.mp hx]; omega
  · obtain ⟨i, _, rfl⟩ := List.mem_map.mp hx
    have := mixZ_b (thC ns k n + 7 * (i : Int)) 9941 9 (by decide)
    omega
def thL (ns : List Int) (k w : Nat) : List (List Int) := (List.range' 0 w).map (thR ns k w)
theorem range2_n {i n : Nat} (hn : n ≤ 900) (hi : i ≤ n) : range2D [.int (i : Int), .int (n : Int)] = some ((List.range' i (n - i)).map fun (k : Nat) => D.int (k : Int)) := by
  show (if _ ∧ _ ∧ _ then _ else _) = _
  have e : ((n : Int) - (i : Int)).toNat = n - i := by omega
  rw [e, if_pos ⟨fit_of (by omega), fit_of (by omega), fit_of (by omega)⟩]
  congr 1
  have : ∀ (m : Nat) (a : Nat), rangeD (a : Int) m = (List.range' a m).map fun (k : Nat) => D.int (k : Int) := by
    intro m a
    unfold rangeD
    rw [List.range'_eq_map_range, List.map_map]
    refine List.map_congr_left fun k _ => ?_
    simp
  exact this _ _
theorem noLs_int : ∀ L : List Int, noLs (L.map D.int) = true
  | [] => rfl
  | a :: L => by simp [noLs, noL, noLs_int L]
theorem add_lst {r s : List Int} (h : r.length + s.length ≤ 1000) : addD (.lst (r.map D.int)) (.lst (s.map D.int)) = some (.lst ((r ++ s).map D.int)) := by
  show (if _ then _ else _) = _
  rw [if_pos (fit_of (by simpa using h)), ← List.map_append]
theorem thick_loop {ns : List Int} {k w : Nat} (hw : w ≤ 100) : ∀ (m n : Nat) (rows : List (List Int)) (x4 x5 x6 : Option D), n + m = w → rows.length = n →
    ∃ x4' x5' x6', forD (bind1 4) (seqF (setF 5 (bind2 (callF (consD (vF 0) (consD (bind2 (vF 1) (vF 4) addD) nilF)) F__law_cell) (bind2 (cF (.int 31)) (vF 4) mulD) addD)) (seqF (setF 6 (bind2 (lstF (compF (fsF (consD (vF 4) nilF) range1D) (bind1 0) yesT (cF (.int 0)) [none])) (lstF (dispF (consD (bind2 (cF (.int 1)) (callF (consD (vF 5) (consD (cF (.int 9949)) (consD (cF (.int 5)) nilF))) F__law_mix) addD) nilF))) addD)) (appF2 3 (callF (consD (bind2 (vF 6) (lstF (compF (fsF (consD (bind2 (vF 4) (cF (.int 1)) addD) (consD (vF 2) nilF)) range2D) (bind1 0) yesT (bind2 (callF (consD (bind2 (vF 1) (bind2 (cF (.int 7)) (vF 0) mulD) addD) (consD (cF (.int 9941)) (consD (cF (.int 9)) nilF))) F__law_mix) (cF (.int 4)) subD) [none, some 5])) addD) nilF) tupleD)))) ((List.range' n m).map fun (i : Nat) => D.int (i : Int)) [some (.fro (ns.map D.int)), some (.int (k : Int)), some (.int (w : Int)), some (.lst (rows.map rowD)), x4, x5, x6] = some (.nx [some (.fro (ns.map D.int)), some (.int (k : Int)), some (.int (w : Int)), some (.lst ((rows ++ (List.range' n m).map (thR ns k w)).map rowD)), x4', x5', x6'])
  | 0, n, rows, x4, x5, x6, _, _ => ⟨x4, x5, x6, by simp [forD]⟩
  | m + 1, n, rows, x4, x5, x6, hn, hr => by
    have hc := F_cell ns (k + n)
    rw [Int.natCast_add] at hc
    obtain ⟨x4', x5', x6', e⟩ := thick_loop (ns := ns) (k := k) hw m (n + 1) (rows ++ [thR ns k w n]) (some (.int (n : Int))) (some (.int (thC ns k n))) (some (.lst ((List.replicate n 0 ++ [1 + mixZ (thC ns k n) 9949 5]).map D.int))) (by omega) (by simp [hr])
    refine ⟨x4', x5', x6', ?_⟩
    rw [List.range'_succ, List.map_cons, List.map_cons]
    unfold forD
    have b1 : bind1 4 (D.int (n : Int)) [some (.fro (ns.map D.int)), some (.int (k : Int)), some (.int (w : Int)), some (.lst (rows.map rowD)), x4, x5, x6] = some [some (.fro (ns.map D.int)), some (.int (k : Int)), some (.int (w : Int)), some (.lst (rows.map rowD)), some (.int (n : Int)), x5, x6] := rfl
    rw [b1, Option.bind_some]
    have s1 : setF 5 (bind2 (callF (consD (vF 0) (consD (bind2 (vF 1) (vF 4) addD) nilF)) F__law_cell) (bind2 (cF (.int 31)) (vF 4) mulD) addD) [some (.fro (ns.map D.int)), some (.int (k : Int)), some (.int (w : Int)), some (.lst (rows.map rowD)), some (.int (n : Int)), x5, x6] = some (.nx [some (.fro (ns.map D.int)), some (.int (k : Int)), some (.int (w : Int)), some (.lst (rows.map rowD)), some (.int (n : Int)), some (.int (thC ns k n)), x6]) :=
      (setF_nx ((bind2_eq ((callF_eq (consD_eq rfl (consD_eq ((bind2_eq rfl rfl).trans rfl) rfl))).trans hc) ((bind2_eq rfl rfl).trans (mulD_int (okMul_l (by decide) (by decide))))).trans rfl)).trans rfl
    have s2 : setF 6 (bind2 (lstF (compF (fsF (consD (vF 4) nilF) range1D) (bind1 0) yesT (cF (.int 0)) [none])) (lstF (dispF (consD (bind2 (cF (.int 1)) (callF (consD (vF 5) (consD (cF (.int 9949)) (consD (cF (.int 5)) nilF))) F__law_mix) addD) nilF))) addD) [some (.fro (ns.map D.int)), some (.int (k : Int)), some (.int (w : Int)), some (.lst (rows.map rowD)), some (.int (n : Int)), some (.int (thC ns k n)), x6] = some (.nx [some (.fro (ns.map D.int)), some (.int (k : Int)), some (.int (w : Int)), some (.lst (rows.map rowD)), some (.int (n : Int)), some (.int (thC ns k n)), some (.lst ((List.replicate n 0 ++ [1 + mixZ (thC ns k n) 9949 5]).map D.int))]) := by
      have c1 : compD (bind1 0) yesT (cF (.int 0)) [none] ((List.range n).map fun (i : Nat) => D.int (i : Int)) = some ((List.replicate n 0).map D.int) := by
        have := compD_map (h := bind1 0) (fc := yesT) (fe := cF (.int 0)) (fun δ => ∃ a, δ = [a]) (fun (i : Nat) => D.int (i : Int)) (fun _ => D.int 0) (List.range n) [none] ⟨none, rfl⟩ (by
          rintro i _ δ ⟨a, rfl⟩
          exact ⟨[some (.int (i : Int))], rfl, ⟨_, rfl⟩, rfl, rfl⟩)
        rw [this]
        congr 1
        rw [List.map_const', List.length_range, List.map_replicate]
      have d1 : dispF (consD (bind2 (cF (.int 1)) (callF (consD (vF 5) (consD (cF (.int 9949)) (consD (cF (.int 5)) nilF))) F__law_mix) addD) nilF) [some (.fro (ns.map D.int)), some (.int (k : Int)), some (.int (w : Int)), some (.lst (rows.map rowD)), some (.int (n : Int)), some (.int (thC ns k n)), x6] = some ([1 + mixZ (thC ns k n) 9949 5].map D.int) := by
        have : consD (bind2 (cF (.int 1)) (callF (consD (vF 5) (consD (cF (.int 9949)) (consD (cF (.int 5)) nilF))) F__law_mix) addD) nilF [some (.fro (ns.map D.int)), some (.int (k : Int)), some (.int (w : Int)), some (.lst (rows.map rowD)), some (.int (n : Int)), some (.int (thC ns k n)), x6] = some ([1 + mixZ (thC ns k n) 9949 5].map D.int) := consD_eq ((bind2_eq rfl ((callF_eq (consD_eq rfl (consD_eq rfl (consD_eq rfl rfl)))).trans (F_mix _ _ _ (by decide) (by decide)))).trans rfl) rfl
        unfold dispF
        rw [this]
        rfl
      exact (setF_nx ((bind2_eq (lstF_eq (ds := (List.replicate n 0).map D.int) (compF_eq (range_it (by omega)) c1)) (lstF_eq d1)).trans (add_lst (by simp; omega)))).trans rfl
    have s3 : appF2 3 (callF (consD (bind2 (vF 6) (lstF (compF (fsF (consD (bind2 (vF 4) (cF (.int 1)) addD) (consD (vF 2) nilF)) range2D) (bind1 0) yesT (bind2 (callF (consD (bind2 (vF 1) (bind2 (cF (.int 7)) (vF 0) mulD) addD) (consD (cF (.int 9941)) (consD (cF (.int 9)) nilF))) F__law_mix) (cF (.int 4)) subD) [none, some 5])) addD) nilF) tupleD) [some (.fro (ns.map D.int)), some (.int (k : Int)), some (.int (w : Int)), some (.lst (rows.map rowD)), some (.int (n : Int)), some (.int (thC ns k n)), some (.lst ((List.replicate n 0 ++ [1 + mixZ (thC ns k n) 9949 5]).map D.int))] = some (.nx [some (.fro (ns.map D.int)), some (.int (k : Int)), some (.int (w : Int)), some (.lst ((rows ++ [thR ns k w n]).map rowD)), some (.int (n : Int)), some (.int (thC ns k n)), some (.lst ((List.replicate n 0 ++ [1 + mixZ (thC ns k n) 9949 5]).map D.int))]) := by
      have c1 : compD (bind1 0) yesT (bind2 (callF (consD (bind2 (vF 1) (bind2 (cF (.int 7)) (vF 0) mulD) addD) (consD (cF (.int 9941)) (consD (cF (.int 9)) nilF))) F__law_mix) (cF (.int 4)) subD) [none, some (.int (thC ns k n))] ((List.range' (n + 1) (w - (n + 1))).map fun (i : Nat) => D.int (i : Int)) = some (((List.range' (n + 1) (w - (n + 1))).map fun (i : Nat) => mixZ (thC ns k n + 7 * (i : Int)) 9941 9 - 4).map D.int) := by
        rw [List.map_map]
        refine compD_map (fun δ => ∃ a, δ = [a, some (.int (thC ns k n))]) (fun (i : Nat) => D.int (i : Int)) _ _ _ ⟨none, rfl⟩ ?_
        rintro i _ δ ⟨a, rfl⟩
        exact ⟨[some (.int (i : Int)), some (.int (thC ns k n))], rfl, ⟨_, rfl⟩, rfl, (bind2_eq ((callF_eq (consD_eq ((bind2_eq rfl ((bind2_eq rfl rfl).trans (mulD_int (okMul_l (by decide) (by decide))))).trans rfl) (consD_eq rfl (consD_eq rfl rfl)))).trans (F_mix _ _ _ (by decide) (by decide))) rfl).trans rfl⟩
      have it : fsF (consD (bind2 (vF 4) (cF (.int 1)) addD) (consD (vF 2) nilF)) range2D [some (.fro (ns.map D.int)), some (.int (k : Int)), some (.int (w : Int)), some (.lst (rows.map rowD)), some (.int (n : Int)), some (.int (thC ns k n)), some (.lst ((List.replicate n 0 ++ [1 + mixZ (thC ns k n) 9949 5]).map D.int))] = some ((List.range' (n + 1) (w - (n + 1))).map fun (i : Nat) => D.int (i : Int)) := range2_n (i := n + 1) (n := w) (by omega) (by omega)
      have val : callF (consD (bind2 (vF 6) (lstF (compF (fsF (consD (bind2 (vF 4) (cF (.int 1)) addD) (consD (vF 2) nilF)) range2D) (bind1 0) yesT (bind2 (callF (consD (bind2 (vF 1) (bind2 (cF (.int 7)) (vF 0) mulD) addD) (consD (cF (.int 9941)) (consD (cF (.int 9)) nilF))) F__law_mix) (cF (.int 4)) subD) [none, some 5])) addD) nilF) tupleD [some (.fro (ns.map D.int)), some (.int (k : Int)), some (.int (w : Int)), some (.lst (rows.map rowD)), some (.int (n : Int)), some (.int (thC ns k n)), some (.lst ((List.replicate n 0 ++ [1 + mixZ (thC ns k n) 9949 5]).map D.int))] = some (rowD (thR ns k w n)) :=
        (callF_eq (consD_eq ((bind2_eq rfl (lstF_eq (compF_eq it c1))).trans (add_lst (by simp; omega))) rfl)).trans rfl
      have sd : ∀ Z : List Int, Z.length = n + 1 → sides 3 (rows.map rowD).length [some (.fro (ns.map D.int)), some (.int (k : Int)), some (.int (w : Int)), some (.lst (rows.map rowD)), some (.int (n : Int)), some (.int (thC ns k n)), some (.lst (Z.map D.int))] = true := fun Z hZ => by
        have h1 : side (rows.map rowD).length (.lst (Z.map D.int)) = true := by
          show (noLs (Z.map D.int) && decide ((Z.map D.int).length ≠ (rows.map rowD).length)) = true
          rw [noLs_int, List.length_map, List.length_map, decide_eq_true (by omega)]; rfl
        have h2 : side (rows.map rowD).length (.fro (ns.map D.int)) = true := noLs_int ns
        simp only [sides, sidesFrom, h1, h2]
        rfl
      unfold appF2
      rw [val, Option.bind_some]
      simp only [List.getElem?_cons_zero, List.getElem?_cons_succ, Option.join_some]
      rw [if_pos ⟨fit_of (by rw [List.length_map]; omega), noLs_rows rows, noL_row _, sd (List.replicate n 0 ++ [1 + mixZ (thC ns k n) 9949 5]) (by simp)⟩]
      simp only [List.set_cons_zero, List.set_cons_succ, List.map_append, List.map_cons, List.map_nil]
    rw [(seqF_nx s1).trans ((seqF_nx s2).trans s3), Option.bind_some]
    rw [List.append_assoc, List.singleton_append] at e
    exact e
theorem F_thick_eq (ns : List Int) (k w : Nat) (hw : w ≤ 100) : F__law_thick [.fro (ns.map D.int), .int (k : Int), .int (w : Int)] = some (lotD (thL ns k w)) := by
  obtain ⟨x4, x5, x6, e⟩ := thick_loop (ns := ns) (k := k) hw w 0 [] none none none (by omega) rfl
  refine runD_rt rfl ?_
  refine (seqF_nx (δ' := [some (.fro (ns.map D.int)), some (.int (k : Int)), some (.int (w : Int)), some (.lst []), none, none, none]) rfl).trans ?_
  have it : fsF (consD (vF 2) nilF) range1D [some (.fro (ns.map D.int)), some (.int (k : Int)), some (.int (w : Int)), some (.lst []), none, none, none] = some ((List.range' 0 w).map fun (i : Nat) => D.int (i : Int)) := by
    have := range_it (n := w) (by omega)
    rw [List.range_eq_range'] at this
    exact this
  refine (seqF_nx (forF_nx it e)).trans (retF_rt ?_)
  rw [List.nil_append]; rfl
theorem th_ec (ns : List Int) (k w : Nat) : ∀ (m n : Nat), La.Ec n (List.range' n m) (((List.range' n m).map (thR ns k w)).map La.fv)
  | 0, n => trivial
  | m + 1, n => by
    rw [List.range'_succ, List.map_cons, List.map_cons]
    have := mixZ_b (thC ns k n) 9949 5 (by decide)
    exact ⟨Nat.le_refl _, fun i hi => (thR_at (ns := ns) (k := k) (w := w)).1 i hi, by
      show 0 < La.at' (thR ns k w n) n
      rw [thR_at.2]; omega, th_ec ns k w m (n + 1)⟩
structure Thick (w : Nat) (A : List (List Int)) : Prop where
  len : A.length = w
  lens : ∀ r ∈ A, r.length = w
  ec : La.Ec 0 (List.range' 0 w) (A.map La.fv)
  bd : La.Bd 3 A
theorem thL_thick (ns : List Int) (k w : Nat) : Thick w (thL ns k w) := ⟨by simp [thL], fun r hr => by
    obtain ⟨n, hn, rfl⟩ := List.mem_map.mp hr
    obtain ⟨i, hi, rfl⟩ := List.mem_range'.mp hn
    exact thR_len (by omega), th_ec ns k w w 0, La.Bd.of_mem fun r hr x hx => by
    obtain ⟨n, hn, rfl⟩ := List.mem_map.mp hr
    have := thR_bd ns k w n x hx
    have : (2 : Nat) ^ 3 = 8 := by decide
    omega⟩
theorem full_weight {w : Nat} {rows P : List (List Int)} {R : List La.Vec} {lo : Nat} {ls : List Nat} (hP : La.IsPl w rows P) (e : La.Ec lo ls R) (he : La.Eqv (rows.map La.fv) R) (hl : ls.length = w) : P.length = w ∧ La.prod (leadsZ P) = La.wt ls R ∧ 0 < La.prod (leadsZ P) := by
  obtain ⟨lp, p, q⟩ := hP.pl
  obtain ⟨rfl, h2⟩ := p.ec.leads e (hP.eqv.trans he)
  have := p.ec.len
  rw [List.length_map] at this
  have h3 := wt_leads p hP.len q
  exact ⟨by omega, h3.trans h2, by rw [h3]; exact p.ec.wt_pos⟩
def extZ (r : List Int) : List (List Int) := (List.range 6).map fun (n : Nat) => r ++ [(n : Int)]
def exF : DS → Option D := lstF (compF (fsF (consD (cF (.int 6)) nilF) range1D) (bind1 0) yesT (bind2 (vF 1) (tupF (consD (vF 0) nilF)) addD) [none, some 5])
theorem exF_eq {x0 x1 x2 x3 x4 x6 : Option D} {r : List Int} (hr : r.length ≤ 900) : exF [x0, x1, x2, x3, x4, some (rowD r), x6] = some (.lst ((extZ r).map rowD)) := by
  unfold exF
  refine lstF_eq (compF_eq (ds := (List.range 6).map fun (i : Nat) => D.int (i : Int)) (range_it (n := 6) (by decide)) ?_)
  unfold extZ
  rw [List.map_map]
  refine compD_map (fun δ => ∃ a, δ = [a, some (rowD r)]) (fun (i : Nat) => D.int (i : Int)) _ _ _ ⟨none, rfl⟩ ?_
  rintro i _ δ ⟨a, rfl⟩
  exact ⟨[some (.int (i : Int)), some (rowD r)], rfl, ⟨_, rfl⟩, rfl, (bind2_eq (x := rowD r) (y := rowD [(i : Int)]) rfl rfl).trans (add_row (by simp; omega))⟩
theorem extZ_len (r : List Int) : (extZ r).length = 6 := by simp [extZ]
theorem oX (A R0 : List (List Int)) (w n : Int) (M : List D) (r : List Int) : othersX 2 4 [some (lotD A), some (.int w), some (.lst (R0.map rowD)), some (.int n), some (.lst M), some (rowD r), none] = true := by
  have h1 : noL (lotD A) = true := noLs_rows A
  have h2 : sideX (.lst (R0.map rowD)) = true := noLs_rows R0
  have h3 := noL_row r
  simp [othersX, othersXFrom, h1, h2, h3, noL]
theorem ext_loop {A R0 : List (List Int)} {w n : Int} : ∀ (R M : List (List Int)) (x5 : Option D), (∀ r ∈ R, r.length ≤ 900) → M.length + 6 * R.length ≤ 1000 →
    ∃ x5', extD 2 4 5 exF (R.map rowD) [some (lotD A), some (.int w), some (.lst (R0.map rowD)), some (.int n), some (.lst (M.map rowD)), x5, none] = some [some (lotD A), some (.int w), some (.lst (R0.map rowD)), some (.int n), some (.lst ((M ++ R.flatMap extZ).map rowD)), x5', none]
  | [], M, x5, _, _ => ⟨x5, by simp [extD]⟩
  | r :: R, M, x5, hl, hn => by
    rw [List.length_cons] at hn
    obtain ⟨x5', e⟩ := ext_loop (A := A) (R0 := R0) (w := w) (n := n) R (M ++ extZ r) (some (rowD r)) (fun q hq => hl q (List.mem_cons_of_mem _ hq)) (by rw [List.length_append, extZ_len]; omega)
    refine ⟨x5', ?_⟩
    rw [List.map_cons]
    unfold extD
    simp only [List.set_cons_zero, List.set_cons_succ]
    rw [exF_eq (hl r List.mem_cons_self), Option.bind_some]
    simp only [List.getElem?_cons_zero, List.getElem?_cons_succ, Option.join_some]
    refine (if_pos ⟨fit_of (by rw [List.length_map, List.length_map, extZ_len]; omega), noLs_rows _, noLs_rows _, oX A R0 w n _ r⟩).trans ?_
    rw [← List.map_append, e, List.flatMap_cons, List.append_assoc]
def ebF : DS → Option DF := seqF (setL 4 (dispF nilF)) (seqF (extF 2 4 5 exF) (setF 2 (vF 4)))
theorem ebF_eq {A R : List (List Int)} {w n : Int} {x4 x5 : Option D} (hl : ∀ r ∈ R, r.length ≤ 900) (h0 : R.length ≠ 0) (hn : 6 * R.length ≤ 1000) :
    ∃ x4' x5', ebF [some (lotD A), some (.int w), some (.lst (R.map rowD)), some (.int n), x4, x5, none] = some (.nx [some (lotD A), some (.int w), some (.lst ((R.flatMap extZ).map rowD)), some (.int n), x4', x5', none]) := by
  obtain ⟨x5', e⟩ := ext_loop (A := A) (R0 := R) (w := w) (n := n) R [] x5 hl (by simpa using hn)
  rw [List.nil_append, List.map_nil] at e
  refine ⟨some (.lst ((R.flatMap extZ).map rowD)), x5', ?_⟩
  unfold ebF
  refine (seqF_nx (δ' := [some (lotD A), some (.int w), some (.lst (R.map rowD)), some (.int n), some (.lst []), x5, none]) rfl).trans ?_
  refine (seqF_nx (δ' := [some (lotD A), some (.int w), some (.lst (R.map rowD)), some (.int n), some (.lst ((R.flatMap extZ).map rowD)), x5', none]) ?_).trans rfl
  unfold extF
  simp only [List.getElem?_cons_zero, List.getElem?_cons_succ, Option.join_some]
  rw [if_pos ⟨by rw [List.length_map, List.length_nil]; omega, noLs_rows _⟩, e]
  rfl
theorem keyDs_int : ∀ r : List Int, keyDs (r.map D.int) = some r
  | [] => rfl
  | a :: r => by rw [List.map_cons, keyDs, keyDs_int r]; rfl
theorem keyD_row (r : List Int) : keyD (rowD r) = some r := keyDs_int r
theorem putU_len (ks : List (List Int)) (k : List Int) : (putU ks k).length ≤ ks.length + 1 := by
  unfold putU
  split
  · omega
  · simp
noncomputable def rkF : DS → Option D := callF (consD (vF 0) (consD (vF 1) (consD (vF 5) nilF))) F_rest
theorem tally_loop {A P : List (List Int)} {w : Int} {x2 x3 x4 : Option D} : ∀ (R ks : List (List Int)) (x5 : Option D), (∀ v ∈ R, F_rest [lotD A, .int w, rowD v] = some (rowD (La.remZ P v))) → ks.length + R.length ≤ 1000 →
    tallyD 5 rkF (R.map rowD) [some (lotD A), some (.int w), x2, x3, x4, x5, none] ks = some (R.foldl (fun ks v => putU ks (La.remZ P v)) ks)
  | [], ks, x5, _, _ => rfl
  | v :: R, ks, x5, hr, hn => by
    rw [List.length_cons] at hn
    have l := putU_len ks (La.remZ P v)
    have ih := tally_loop (A := A) (P := P) (w := w) (x2 := x2) (x3 := x3) (x4 := x4) R (putU ks (La.remZ P v)) (some (rowD v)) (fun q hq => hr q (List.mem_cons_of_mem _ hq)) (by omega)
    rw [List.map_cons]
    unfold tallyD
    simp only [List.set_cons_zero, List.set_cons_succ]
    have e : rkF [some (lotD A), some (.int w), x2, x3, x4, some (rowD v), none] = some (rowD (La.remZ P v)) := (callF_eq (consD_eq rfl (consD_eq rfl (consD_eq rfl rfl)))).trans (hr v List.mem_cons_self)
    rw [e, Option.bind_some, keyD_row, Option.bind_some, if_pos (fit_of (by omega)), ih, List.foldl_cons]
def cntZ (P R : List (List Int)) : Nat := (R.foldl (fun ks v => putU ks (La.remZ P v)) []).length
def rows1 : List (List Int) := [[]].flatMap extZ
def rows2 : List (List Int) := rows1.flatMap extZ
theorem cnt1 : ∀ a : Fin 7, 1 ≤ a.val → cntZ [[((a.val : Nat) : Int)]] rows1 = a.val := by decide +kernel
theorem cnt2 : ∀ a b d : Fin 7, 1 ≤ a.val → 1 ≤ d.val → b.val < d.val → a.val * d.val ≤ 6 → cntZ [[((a.val : Nat) : Int), ((b.val : Nat) : Int)], [0, ((d.val : Nat) : Int)]] rows2 = a.val * d.val := by decide +kernel
def rowsN : Nat → List (List Int)
  | 0 => [[]]
  | 1 => rows1
  | _ => rows2
theorem F_rests_eq {A P : List (List Int)} {w : Nat} (h1 : 1 ≤ w) (h2 : w ≤ 2) (hr : ∀ v ∈ rowsN w, F_rest [lotD A, .int (w : Int), rowD v] = some (rowD (La.remZ P v))) : F__law_rests [lotD A, .int (w : Int)] = some (.int (cntZ P (rowsN w) : Int)) := by
  refine runD_rt rfl ?_
  show g__law_rests [some (lotD A), some (.int (w : Int)), none, none, none, none, none] = _
  have hg : g__law_rests = seqF (setF 2 (lstF (dispF (consD (tupF nilF) nilF)))) (seqF (forF (fsF (consD (vF 1) nilF) range1D) (bind1 3) ebF) (tallyF 2 6 5 rkF)) := rfl
  rw [hg]
  refine (seqF_nx (δ' := [some (lotD A), some (.int (w : Int)), some (.lst ([([] : List Int)].map rowD)), none, none, none, none]) rfl).trans ?_
  have it : fsF (consD (vF 1) nilF) range1D [some (lotD A), some (.int (w : Int)), some (.lst ([([] : List Int)].map rowD)), none, none, none, none] = some ((List.range w).map fun (i : Nat) => D.int (i : Int)) := range_it (n := w) (by omega)
  obtain ⟨x4, x5, e1⟩ := ebF_eq (A := A) (R := [[]]) (w := (w : Int)) (n := 0) (x4 := none) (x5 := none) (by decide) (by decide) (by decide)
  have b1 : ∀ (k : Int) (x2 x3 x4 x5 : Option D), bind1 3 (D.int k) [some (lotD A), some (.int (w : Int)), x2, x3, x4, x5, none] = some [some (lotD A), some (.int (w : Int)), x2, some (.int k), x4, x5, none] := fun _ _ _ _ _ => rfl
  have fin : ∀ (x3 x4 x5 : Option D) (R : List (List Int)), R = rowsN w → R.length ≤ 900 → tallyF 2 6 5 rkF [some (lotD A), some (.int (w : Int)), some (.lst (R.map rowD)), x3, x4, x5, none] = some (.rt (.int (cntZ P (rowsN w) : Int))) := by
    intro x3 x4 x5 R e hR
    subst e
    have t := tally_loop (A := A) (P := P) (w := (w : Int)) (x2 := some (.lst ((rowsN w).map rowD))) (x3 := x3) (x4 := x4) (rowsN w) [] x5 hr (by simpa using Nat.le_trans hR (by decide))
    unfold tallyF
    simp only [List.getElem?_cons_zero, List.getElem?_cons_succ, Option.join_some]
    rw [t]
    rfl
  have hw : w = 1 ∨ w = 2 := by omega
  rcases hw with rfl | rfl
  · have f : forD (bind1 3) ebF ((List.range 1).map fun (i : Nat) => D.int (i : Int)) [some (lotD A), some (.int ((1 : Nat) : Int)), some (.lst ([([] : List Int)].map rowD)), none, none, none, none] = some (.nx [some (lotD A), some (.int ((1 : Nat) : Int)), some (.lst (rows1.map rowD)), some (.int 0), x4, x5, none]) := by
      show forD (bind1 3) ebF [D.int 0] _ = _
      unfold forD
      rw [b1, Option.bind_some, e1, Option.bind_some]
      rfl
    exact (seqF_nx (forF_nx it f)).trans (fin _ _ _ rows1 rfl (by decide +kernel))
  · obtain ⟨x4', x5', e2⟩ := ebF_eq (A := A) (R := rows1) (w := ((2 : Nat) : Int)) (n := 1) (x4 := x4) (x5 := x5) (by decide +kernel) (by decide +kernel) (by decide +kernel)
    have f : forD (bind1 3) ebF ((List.range 2).map fun (i : Nat) => D.int (i : Int)) [some (lotD A), some (.int ((2 : Nat) : Int)), some (.lst ([([] : List Int)].map rowD)), none, none, none, none] = some (.nx [some (lotD A), some (.int ((2 : Nat) : Int)), some (.lst (rows2.map rowD)), some (.int 1), x4', x5', none]) := by
      show forD (bind1 3) ebF [D.int 0, D.int 1] _ = _
      unfold forD
      rw [b1, Option.bind_some, e1, Option.bind_some]
      show forD (bind1 3) ebF [D.int 1] _ = _
      unfold forD
      rw [b1, Option.bind_some]
      rw [show ([[]] : List (List Int)).flatMap extZ = rows1 from rfl, e2, Option.bind_some]
      rfl
    exact (seqF_nx (forF_nx it f)).trans (fin _ _ _ rows2 rfl (by decide +kernel))
theorem cnt_full {w : Nat} {rows P : List (List Int)} (h1 : 1 ≤ w) (h2 : w ≤ 2) (hP : La.IsPl w rows P) (hn : P.length = w) (h6 : La.prod (leadsZ P) ≤ 6) : (cntZ P (rowsN w) : Int) = La.prod (leadsZ P) := by
  obtain ⟨ls, p, q⟩ := hP.pl
  have hl := hP.len
  have hwt := wt_leads p hl q
  have hw : w = 1 ∨ w = 2 := by omega
  rcases hw with rfl | rfl
  · match P, hn, hl, p, hwt, h6 with
    | [r], _, hl, p, hwt, h6 =>
      match r, hl r List.mem_cons_self, p, hwt, h6 with
      | [a], _, p, hwt, h6 =>
        match ls, p, q, hwt with
        | [l], p, q, hwt =>
          have hl0 : l = 0 := by have := q l List.mem_cons_self; omega
          subst hl0
          have pa : 0 < a := p.2.2.1
          have ew : La.wt [0] ([[a]].map La.fv) = a := by show a * 1 = a; omega
          rw [hwt, ew] at h6 ⊢
          obtain ⟨m, rfl⟩ := Int.eq_ofNat_of_zero_le (Int.le_of_lt pa)
          have := cnt1 ⟨m, by omega⟩ (by show 1 ≤ m; omega)
          show (cntZ [[(m : Int)]] rows1 : Int) = m
          rw [this]
        | [], p, _, _ => exact p.elim
        | _ :: _ :: _, p, _, _ => exact p.2.2.2.2.elim
  · match P, hn, hl, p, hwt, h6 with
    | [r, s], _, hl, p, hwt, h6 =>
      match r, hl r List.mem_cons_self, s, hl s (List.mem_cons_of_mem _ List.mem_cons_self), p, hwt, h6 with
      | [a, b], _, [c, d], _, p, hwt, h6 =>
        match ls, p, q, hwt with
        | [l, k], p, q, hwt =>
          have hk := q k (List.mem_cons_of_mem _ List.mem_cons_self)
          have hlk : l + 1 ≤ k := p.2.2.2.2.1
          have hl0 : l = 0 := by omega
          have hk1 : k = 1 := by omega
          subst hl0 hk1
          have pa : 0 < a := p.2.2.1
          have pc : c = 0 := p.2.2.2.2.2.1 0 (by decide)
          have pd : 0 < d := p.2.2.2.2.2.2.1
          have pb : 0 ≤ b ∧ b < d := p.2.2.2.1.1
          subst pc
          have ew : La.wt [0, 1] ([[a, b], [0, d]].map La.fv) = a * d := by show a * (d * 1) = a * d; rw [Int.mul_one]
          rw [hwt, ew] at h6 ⊢
          obtain ⟨m, rfl⟩ := Int.eq_ofNat_of_zero_le (Int.le_of_lt pa)
          obtain ⟨n, rfl⟩ := Int.eq_ofNat_of_zero_le (Int.le_of_lt pd)
          obtain ⟨k, rfl⟩ := Int.eq_ofNat_of_zero_le pb.1
          have h6' : m * n ≤ 6 := by
            have : ((m * n : Nat) : Int) ≤ 6 := by rw [Int.natCast_mul]; exact h6
            omega
          have m6 : m ≤ 6 := Nat.le_trans (Nat.le_mul_of_pos_right m (by omega)) h6'
          have n6 : n ≤ 6 := Nat.le_trans (Nat.le_mul_of_pos_left n (by omega)) h6'
          have := cnt2 ⟨m, by omega⟩ ⟨k, by omega⟩ ⟨n, by omega⟩ (by show 1 ≤ m; omega) (by show 1 ≤ n; omega) (by show k < n; omega) h6'
          show (cntZ [[(m : Int), (k : Int)], [0, (n : Int)]] rows2 : Int) = m * n
          rw [this, Int.natCast_mul]
        | [], p, _, _ => exact p.elim
        | [_], p, _, _ => exact p.2.2.2.2.elim
        | _ :: _ :: _ :: _, p, _, _ => exact p.2.2.2.2.2.2.2.2.elim
theorem pl_ok {L : List (List Int)} {w : Nat} (hl : ∀ r ∈ L, r.length = w) (hn : L.length ≤ 60) (hw : w ≤ 4) (hb : La.Bd 31 L) : PlOk L w := by
  refine ⟨hl, hn, by omega, .inl ⟨31, hb, ?_⟩⟩
  have : min w L.length ≤ 4 := Nat.le_trans (Nat.min_le_left _ _) hw
  generalize min w L.length = n at this
  have : n = 0 ∨ n = 1 ∨ n = 2 ∨ n = 3 ∨ n = 4 := by omega
  rcases this with rfl | rfl | rfl | rfl | rfl <;> decide
theorem due_loop {x0 x1 x2 x6 : Option D} {w : Nat} : ∀ (rows : List (List Int)) (k : Nat) (m : Int) (x4 x5 : Option D), k + rows.length ≤ w → (∀ r ∈ rows, r.length = w) → La.Bd 3 rows →
    ∃ x4' x5', forD (bindP 4 5) (setF 3 (bind2 (vF 3) (bind2 (vF 5) (vF 4) ixD) mulD)) (enumFrom k (rows.map rowD)) [x0, x1, x2, some (.int m), x4, x5, x6] = some (.nx [x0, x1, x2, some (.int (m * La.wt (List.range' k rows.length) (rows.map La.fv))), x4', x5', x6])
  | [], k, m, x4, x5, _, _, _ => ⟨x4, x5, by simp [forD, enumFrom, La.wt]⟩
  | r :: rows, k, m, x4, x5, hk, hl, hb => by
    rw [List.length_cons] at hk
    obtain ⟨x4', x5', e⟩ := due_loop (x0 := x0) (x1 := x1) (x2 := x2) (x6 := x6) (w := w) rows (k + 1) (m * La.at' r k) (some (.int (k : Int))) (some (rowD r)) (by omega) (fun q hq => hl q (List.mem_cons_of_mem _ hq)) fun q hq => hb q (List.mem_cons_of_mem _ hq)
    refine ⟨x4', x5', ?_⟩
    rw [List.map_cons]
    unfold enumFrom forD
    have b1 : bindP 4 5 (D.tup [.int (k : Int), rowD r]) [x0, x1, x2, some (.int m), x4, x5, x6] = some [x0, x1, x2, some (.int m), some (.int (k : Int)), some (rowD r), x6] := rfl
    have hr := hb r List.mem_cons_self k
    have h8 : (2 : Nat) ^ 3 = 8 := by decide
    have b2 : setF 3 (bind2 (vF 3) (bind2 (vF 5) (vF 4) ixD) mulD) [x0, x1, x2, some (.int m), some (.int (k : Int)), some (rowD r), x6] = some (.nx [x0, x1, x2, some (.int (m * La.at' r k)), some (.int (k : Int)), some (rowD r), x6]) :=
      (setF_nx ((bind2_eq rfl ((bind2_eq rfl rfl).trans (ixD_row (by rw [hl r List.mem_cons_self]; omega)))).trans (mulD_int (okMul_r (by omega) (by omega))))).trans rfl
    rw [b1, Option.bind_some, b2, Option.bind_some]
    have e3 : m * La.wt (List.range' k (r :: rows).length) ((r :: rows).map La.fv) = m * La.at' r k * La.wt (List.range' (k + 1) rows.length) (rows.map La.fv) := by
      rw [List.length_cons, List.range'_succ, List.map_cons]
      show m * (La.at' r k * _) = _
      rw [Int.mul_assoc]
    rw [e3]
    exact e
theorem rowsN_ok : ∀ w : Nat, 1 ≤ w → w ≤ 2 → ∀ v ∈ rowsN w, v.length = w ∧ ∀ x ∈ v, x.natAbs ≤ 5 := by
  intro w h1 h2
  have hw : w = 1 ∨ w = 2 := by omega
  rcases hw with rfl | rfl
  · decide +kernel
  · decide +kernel
theorem F_whole_int (n : Int) : F__law_whole [.int n] = some (.bl true) := by
  refine runD_rt rfl ?_
  rfl
theorem law_true (ns : List Int) (hns : ns.length ≤ 63) : F_law [.fro (ns.map D.int)] = some (.bl true) := by
  obtain ⟨w, hw1, hw3, hw⟩ := F_wide ns 3 (by decide)
  rw [show ((3 : Nat) : Int) = 3 from rfl] at hw
  have eA := F_thick_eq ns 1 w (by omega)
  have tA := thL_thick ns 1 w
  rw [show ((1 : Nat) : Int) = 1 from rfl] at eA
  generalize thL ns 1 w = A at eA tA
  have lr : (List.range' 0 w).length = w := by simp
  have lim : 100000 + w * 100000 < 59999999 := by
    have : w * 100000 ≤ 3 * 100000 := Nat.mul_le_mul_right _ hw3
    omega
  have z3 : La.ss 3 3 < 100000 := by decide
  obtain ⟨P, iP, hPn, hPw, bP0, _⟩ := La.plain_exists tA.lens tA.bd
  have bP : La.Bd 100000 P := bP0.mono (by have := (ss_mono 3 (show P.length ≤ 3 by omega)).1; omega)
  obtain ⟨nP, wP, pP⟩ := full_weight iP tA.ec (La.Eqv.refl _) lr
  have okA : PlOk A w := pl_ok tA.lens (by rw [tA.len]; omega) (by omega) (tA.bd.mono (by decide))
  generalize hdue : La.prod (leadsZ P) = due at wP pP
  obtain ⟨y4, y5, edue⟩ := due_loop (x0 := some (.fro (ns.map D.int))) (x1 := some (.int (w : Int))) (x2 := some (lotD A)) (x6 := none) (w := w) A 0 1 none none (by rw [tA.len]; omega) tA.lens tA.bd
  rw [tA.len, ← wP, Int.one_mul] at edue
  have hcl : (cutG A none (some (-1))).length < w := by
    unfold cutG
    rw [HT.sIx_none, List.length_take, List.length_drop]
    have : HT.sIx A.length A.length (some (-1)) = ((-1 : Int) + (A.length : Int)).toNat := rfl
    rw [this, tA.len]
    omega
  have cl : ∀ r ∈ cutG A none (some (-1)), r.length = w := fun r hr => tA.lens r (cutG_mem hr)
  have cb : La.Bd 3 (cutG A none (some (-1))) := fun r hr => tA.bd r (cutG_mem hr)
  obtain ⟨P', iP', hPn', _⟩ := La.plain_exists cl cb
  have fN := F_weight_none (pl_ok cl (by omega) (by omega) (cb.mono (by decide))) iP' (by omega)
  generalize hC : cutG A none (some (-1)) = C at fN
  have fR : w < 3 → due ≤ 6 → F__law_rests [lotD A, .int (w : Int)] = some (.int due) := by
    intro w3 d6
    have h := F_rests_eq (A := A) (P := P) (w := w) hw1 (by omega) fun v hv => by
      obtain ⟨lv, bv⟩ := rowsN_ok w hw1 (by omega) v hv
      refine (F_rest_eq (b := 3) okA iP (by omega) bP lv (fun j => ?_) ?_).1
      · by_cases hj : j < v.length
        · have := bv (v[j]) (List.getElem_mem hj)
          have e : La.at' v j = v[j] := by simp [La.at', List.getD, List.getElem?_eq_getElem hj]
          rw [e]
          have : (2 : Nat) ^ 3 = 8 := by decide
          omega
        · have e : La.at' v j = 0 := by simp [La.at', List.getD, List.getElem?_eq_none (Nat.le_of_not_lt hj)]
          rw [e]; decide
      · have : P.length * (100000 + 1) ≤ 3 * (100000 + 1) := Nat.mul_le_mul_right _ (by omega)
        omega
    rw [h, cnt_full hw1 (by omega) iP nP (by rw [hdue]; exact d6), hdue]
  have call2 : ∀ {δ : DS} {f g : DS → Option D} {F : List D → Option D} {x y d : D}, f δ = some x → g δ = some y → F [x, y] = some d → callF (consD f (consD g nilF)) F δ = some d := fun {δ f g F x y d} h1 h2 h3 => (callF_eq (consD_eq h1 (consD_eq h2 rfl))).trans h3
  have call3 : ∀ {δ : DS} {f g h : DS → Option D} {F : List D → Option D} {x y z d : D}, f δ = some x → g δ = some y → h δ = some z → F [x, y, z] = some d → callF (consD f (consD g (consD h nilF))) F δ = some d := fun {δ f g h F x y z d} h1 h2 h3 h4 => (callF_eq (consD_eq h1 (consD_eq h2 (consD_eq h3 rfl)))).trans h4
  have ne0 : ∀ n : Int, neD (.int n) (.int n) = some (.bl false) := fun n => by
    show some (D.bl (!((n : Int) == n))) = _
    simp
  refine runD_rt rfl ?_
  refine (seqF_nx (δ' := [some (.fro (ns.map D.int)), some (.int w), none, none, none, none, none]) (setF_nx ?_)).trans ?_
  · simp only [vF, cF, unF, nilF, callF, lstF, dispF, tupF, fsF, compF, oN, oS, bT, yesT, truT, andT, orT, notT, itF, nxF, retF, setF, setL, ifF, forF, seqF, consD, bind2, andD, orD, notD, asB, asI, runD, bind1, bindP, List.length_cons, List.length_nil, List.map_cons, List.map_nil, List.getElem?_cons_zero, List.getElem?_cons_succ, List.set_cons_zero, List.set_cons_succ, Option.join_some, Option.bind_some, Option.map_some, Option.join_none, Option.bind_none, Option.map_none, innD, List.cons_append, List.nil_append, List.replicate, Nat.sub_self, Nat.reduceAdd, Nat.reduceSub, if_true, if_false, hw]
  refine (seqF_nx (δ' := [some (.fro (ns.map D.int)), some (.int w), some (lotD A), none, none, none, none]) ((setF_nx (call3 rfl rfl rfl eA)).trans rfl)).trans ?_
  refine (seqF_nx (δ' := [some (.fro (ns.map D.int)), some (.int w), some (lotD A), some (.int 1), none, none, none]) rfl).trans ?_
  have it : fsF (consD (vF 2) nilF) enumD [some (.fro (ns.map D.int)), some (.int (w : Int)), some (lotD A), some (.int 1), none, none, none] = some (enumFrom 0 (A.map rowD)) := rfl
  refine (seqF_nx (forF_nx it edue)).trans ?_
  refine (skip_if (orT_ff (bT_eq ((bind2_eq (x := .non) (y := .non) (call2 (x := lotD C) ?_ rfl fN) rfl).trans rfl)) (?_ : _ = some false))).trans ?_
  · rw [← hC]
    simp only [vF, cF, unF, nilF, callF, lstF, dispF, tupF, fsF, compF, oN, oS, bT, yesT, truT, andT, orT, notT, itF, nxF, retF, setF, setL, ifF, forF, seqF, consD, bind2, andD, orD, notD, asB, asI, runD, bind1, bindP, List.length_cons, List.length_nil, List.map_cons, List.map_nil, List.getElem?_cons_zero, List.getElem?_cons_succ, List.set_cons_zero, List.set_cons_succ, Option.join_some, Option.bind_some, Option.map_some, Option.join_none, Option.bind_none, Option.map_none, innD, List.cons_append, List.nil_append, List.replicate, Nat.sub_self, Nat.reduceAdd, Nat.reduceSub, if_true, if_false, slF, slD, itemsD, negD, lotD, cutD_map]
  · by_cases h6 : due ≤ 6
    · refine andT_t (b := false) (bT_eq ((bind2_eq (x := .int due) (y := .int 6) rfl rfl).trans (by show some (D.bl (decide (due ≤ 6))) = _; rw [decide_eq_true h6]))) ?_
      by_cases h3 : w < 3
      · refine andT_t (b := false) (bT_eq ((bind2_eq (x := .int (w : Int)) (y := .int 3) rfl rfl).trans (by show some (D.bl (decide ((w : Int) < 3))) = _; rw [decide_eq_true (by omega)]))) ?_
        exact bT_eq ((bind2_eq (call2 rfl rfl (fR h3 h6)) rfl).trans (ne0 due))
      · unfold andT
        rw [bT_eq (b := false) ((bind2_eq (x := .int (w : Int)) (y := .int 3) rfl rfl).trans (by show some (D.bl (decide ((w : Int) < 3))) = _; rw [decide_eq_false (by omega)]))]
        rfl
    · unfold andT
      rw [bT_eq (b := false) ((bind2_eq (x := .int due) (y := .int 6) rfl rfl).trans (by show some (D.bl (decide (due ≤ 6))) = _; rw [decide_eq_false h6]))]
      rfl
  have wt : ∀ {L : List (List Int)}, (∀ r ∈ L, r.length = w) → L.length ≤ 7 → La.Bd 31 L → La.Eqv (L.map La.fv) (A.map La.fv) → F_weight [lotD L, .int (w : Int)] = some (.int due) := fun {L} hl h7 hb he => by
    have iL : La.IsPl w L P := ⟨iP.len, iP.pl, iP.eqv.trans he.symm⟩
    rw [F_weight_eq (pl_ok hl (by omega) (by omega) hb) iL nP bP lim, hdue]
  have loop : ∀ (cs : List Int) (t : Nat) (L : List (List Int)) (x6 : Option D), t + cs.length ≤ 8 → (∀ r ∈ L, r.length = w) → 1 ≤ L.length → L.length ≤ 7 → La.Bd (3 + 2 * t) L → La.Eqv (L.map La.fv) (A.map La.fv) →
      ∃ L' x6', forD (bind1 6) (seqF (setF 2 (callF (consD (vF 2) (consD (vF 6) (consD (vF 1) nilF))) F__law_step)) (ifF (orT (notT (truT (callF (consD (callF (consD (vF 2) (consD (vF 1) nilF)) F_weight) nilF) F__law_whole))) (bT (bind2 (callF (consD (vF 2) (consD (vF 1) nilF)) F_weight) (vF 3) neD))) (retF (cF (.bl false))) nxF)) (cs.map D.int) [some (.fro (ns.map D.int)), some (.int w), some (lotD L), some (.int due), y4, y5, x6] = some (.nx [some (.fro (ns.map D.int)), some (.int w), some (lotD L'), some (.int due), y4, y5, x6']) ∧ F_weight [lotD L', .int (w : Int)] = some (.int due) := by
    intro cs
    induction cs with
    | nil => intro t L x6 ht hl h1 h7 hb he; exact ⟨L, x6, rfl, wt hl h7 (hb.mono (by simp at ht; omega)) he⟩
    | cons c cs ih =>
      intro t L x6 ht hl h1 h7 hb he
      obtain ⟨R, hR, lR, r1, r7, bR, eR⟩ := F_step_eq (c := c) hl (by omega) h1 h7 hb
      rw [List.length_cons] at ht
      have eR0 := eR.trans he
      have fW := wt lR r7 (bR.mono (by omega)) eR0
      obtain ⟨L', x6', e', e''⟩ := ih (t + 1) R (some (.int c)) (by omega) lR r1 r7 (by rw [show 3 + 2 * (t + 1) = 3 + 2 * t + 2 by omega]; exact bR) eR0
      refine ⟨L', x6', ?_, e''⟩
      rw [List.map_cons]
      unfold forD
      have b1 : bind1 6 (D.int c) [some (.fro (ns.map D.int)), some (.int (w : Int)), some (lotD L), some (.int due), y4, y5, x6] = some [some (.fro (ns.map D.int)), some (.int w), some (lotD L), some (.int due), y4, y5, some (.int c)] := rfl
      have b2 : seqF (setF 2 (callF (consD (vF 2) (consD (vF 6) (consD (vF 1) nilF))) F__law_step)) (ifF (orT (notT (truT (callF (consD (callF (consD (vF 2) (consD (vF 1) nilF)) F_weight) nilF) F__law_whole))) (bT (bind2 (callF (consD (vF 2) (consD (vF 1) nilF)) F_weight) (vF 3) neD))) (retF (cF (.bl false))) nxF) [some (.fro (ns.map D.int)), some (.int (w : Int)), some (lotD L), some (.int due), y4, y5, some (.int c)] = some (.nx [some (.fro (ns.map D.int)), some (.int w), some (lotD R), some (.int due), y4, y5, some (.int c)]) := by
        refine (seqF_nx (δ' := [some (.fro (ns.map D.int)), some (.int w), some (lotD R), some (.int due), y4, y5, some (.int c)]) ((setF_nx (call3 rfl rfl rfl hR)).trans rfl)).trans ?_
        refine (ifF_f (orT_ff ?_ (bT_eq ((bind2_eq (call2 rfl rfl fW) rfl).trans (ne0 due))))).trans rfl
        have e1 : callF (consD (callF (consD (vF 2) (consD (vF 1) nilF)) F_weight) nilF) F__law_whole [some (.fro (ns.map D.int)), some (.int (w : Int)), some (lotD R), some (.int due), y4, y5, some (.int c)] = some (.bl true) := (callF_eq (consD_eq (call2 rfl rfl fW) rfl)).trans (F_whole_int due)
        simp only [notT, truT, e1]
        rfl
      rw [b1, Option.bind_some, b2, Option.bind_some]
      exact e'
  have cl5 : (cutG ns (some 5) (some 13)).length ≤ 8 := by
    unfold cutG
    rw [show HT.sIx ns.length 0 (some 5) = min 5 ns.length from HT.sIx_nat ns.length 0 5, show HT.sIx ns.length ns.length (some 13) = min 13 ns.length from HT.sIx_nat ns.length ns.length 13, List.length_take]
    omega
  obtain ⟨L', x6', e, e'⟩ := loop (cutG ns (some 5) (some 13)) 0 A none (by omega) tA.lens (by rw [tA.len]; omega) (by rw [tA.len]; omega) tA.bd (La.Eqv.refl _)
  refine (seqF_nx (forF_nx (ds := (cutG ns (some 5) (some 13)).map D.int) ?_ e)).trans (retF_rt ?_)
  · simp only [vF, cF, unF, nilF, callF, lstF, dispF, tupF, fsF, compF, oN, oS, bT, yesT, truT, andT, orT, notT, itF, nxF, retF, setF, setL, ifF, forF, seqF, consD, bind2, andD, orD, notD, asB, asI, runD, bind1, bindP, List.length_cons, List.length_nil, List.map_cons, List.map_nil, List.getElem?_cons_zero, List.getElem?_cons_succ, List.set_cons_zero, List.set_cons_succ, Option.join_some, Option.bind_some, Option.map_some, Option.join_none, Option.bind_none, Option.map_none, innD, List.cons_append, List.nil_append, List.replicate, Nat.sub_self, Nat.reduceAdd, Nat.reduceSub, if_true, if_false, slF, slD, itemsD, cutD_map]
  · refine (bind2_eq (call2 rfl rfl e') rfl).trans ?_
    show some (D.bl ((due : Int) == due)) = _
    simp
theorem all_mk {l : PySem.W.OpenLaw} {w : World} {K : PySem.W.Frag} {h : Heap} {mg : Str → Option Value} {fa f0 f1 f2 f3 f4 f5 f6 f7 f8 f9 f10 f11 f12 f13 f14 f15 f16 : Addr} (X : K.In h) (G : h.Ns mainGlobals mg) (hfa : mg "law" = some (.ref fa)) (htree : l.prog.given.tree = none)
    {od0 an0 od1 an1 od2 an2 od3 an3 od4 an4 od5 an5 od6 an6 od7 an7 od8 an8 od9 an9 od10 an10 od11 an11 od12 an12 od13 an13 od14 an14 od15 an15 od16 an16 : Option Addr} {sl0 sl1 sl2 sl3 sl4 sl5 sl6 sl7 sl8 sl9 sl10 sl11 sl12 sl13 sl14 sl15 sl16 : Array (Option Value)} {oc0 kV0 dc0 pm0 cd0 ct0 oc1 kV1 dc1 pm1 cd1 ct1 oc2 kV2 dc2 pm2 cd2 ct2 oc3 kV3 dc3 pm3 cd3 ct3 oc4 kV4 dc4 pm4 cd4 ct4 oc5 kV5 dc5 pm5 cd5 ct5 oc6 kV6 dc6 pm6 cd6 ct6 oc7 kV7 dc7 pm7 cd7 ct7 oc8 kV8 dc8 pm8 cd8 ct8 oc9 kV9 dc9 pm9 cd9 ct9 oc10 kV10 dc10 pm10 cd10 ct10 oc11 kV11 dc11 pm11 cd11 ct11 oc12 kV12 dc12 pm12 cd12 ct12 oc13 kV13 dc13 pm13 cd13 ct13 oc14 kV14 dc14 pm14 cd14 ct14 oc15 kV15 dc15 pm15 cd15 ct15 oc16 kV16 dc16 pm16 cd16 ct16 : Value} {cA_gathered pA_gathered : Addr} {ocA_gathered : Value} {odA_gathered : Option Addr} {slA_gathered : Array (Option Value)} {vsA_gathered : Array Value}
    (a0 : PySem.W.nsIn K mainGlobals "lead_place" = some (some (.ref f0))) (l0 : K.lookup f0 = some ⟨oc0, od0, .func (PySem.W.fnOf "lead_place" "lead_place" (defArgs s_lead_place) (defBody s_lead_place) (defScope s_lead_place) .none kV0 dc0 pm0 an0 cd0 ct0), sl0⟩) (q0 : PySem.W.codeIn K cd0 "lead_place" = true) (k0 : PySem.W.keepIn K (.ref f0) = true)
    (a1 : PySem.W.nsIn K mainGlobals "less" = some (some (.ref f1))) (l1 : K.lookup f1 = some ⟨oc1, od1, .func (PySem.W.fnOf "less" "less" (defArgs s_less) (defBody s_less) (defScope s_less) .none kV1 dc1 pm1 an1 cd1 ct1), sl1⟩) (q1 : PySem.W.codeIn K cd1 "less" = true) (k1 : PySem.W.keepIn K (.ref f1) = true)
    (a2 : PySem.W.nsIn K mainGlobals "lowered" = some (some (.ref f2))) (l2 : K.lookup f2 = some ⟨oc2, od2, .func (PySem.W.fnOf "lowered" "lowered" (defArgs s_lowered) (defBody s_lowered) (defScope s_lowered) .none kV2 dc2 pm2 an2 cd2 ct2), sl2⟩) (q2 : PySem.W.codeIn K cd2 "lowered" = true) (k2 : PySem.W.keepIn K (.ref f2) = true)
    (a3 : PySem.W.nsIn K mainGlobals "gathered" = some (some (.ref f3))) (l3 : K.lookup f3 = some ⟨oc3, od3, .func (PySem.W.fnOf "gathered" "gathered" (defArgs s_gathered) (defBody s_gathered) (defScope s_gathered) .none kV3 dc3 pm3 an3 cd3 ct3), sl3⟩) (q3 : PySem.W.codeIn K cd3 "gathered" = true) (k3 : PySem.W.keepIn K (.ref f3) = true)
    (a4 : PySem.W.nsIn K mainGlobals "stacked" = some (some (.ref f4))) (l4 : K.lookup f4 = some ⟨oc4, od4, .func (PySem.W.fnOf "stacked" "stacked" (defArgs s_stacked) (defBody s_stacked) (defScope s_stacked) .none kV4 dc4 pm4 an4 cd4 ct4), sl4⟩) (q4 : PySem.W.codeIn K cd4 "stacked" = true) (k4 : PySem.W.keepIn K (.ref f4) = true)
    (a5 : PySem.W.nsIn K mainGlobals "plain" = some (some (.ref f5))) (l5 : K.lookup f5 = some ⟨oc5, od5, .func (PySem.W.fnOf "plain" "plain" (defArgs s_plain) (defBody s_plain) (defScope s_plain) .none kV5 dc5 pm5 an5 cd5 ct5), sl5⟩) (q5 : PySem.W.codeIn K cd5 "plain" = true) (k5 : PySem.W.keepIn K (.ref f5) = true)
    (a6 : PySem.W.nsIn K mainGlobals "rest" = some (some (.ref f6))) (l6 : K.lookup f6 = some ⟨oc6, od6, .func (PySem.W.fnOf "rest" "rest" (defArgs s_rest) (defBody s_rest) (defScope s_rest) .none kV6 dc6 pm6 an6 cd6 ct6), sl6⟩) (q6 : PySem.W.codeIn K cd6 "rest" = true) (k6 : PySem.W.keepIn K (.ref f6) = true)
    (a7 : PySem.W.nsIn K mainGlobals "leads" = some (some (.ref f7))) (l7 : K.lookup f7 = some ⟨oc7, od7, .func (PySem.W.fnOf "leads" "leads" (defArgs s_leads) (defBody s_leads) (defScope s_leads) .none kV7 dc7 pm7 an7 cd7 ct7), sl7⟩) (q7 : PySem.W.codeIn K cd7 "leads" = true) (k7 : PySem.W.keepIn K (.ref f7) = true)
    (a8 : PySem.W.nsIn K mainGlobals "weight" = some (some (.ref f8))) (l8 : K.lookup f8 = some ⟨oc8, od8, .func (PySem.W.fnOf "weight" "weight" (defArgs s_weight) (defBody s_weight) (defScope s_weight) .none kV8 dc8 pm8 an8 cd8 ct8), sl8⟩) (q8 : PySem.W.codeIn K cd8 "weight" = true) (k8 : PySem.W.keepIn K (.ref f8) = true)
    (a9 : PySem.W.nsIn K mainGlobals "_law_cell" = some (some (.ref f9))) (l9 : K.lookup f9 = some ⟨oc9, od9, .func (PySem.W.fnOf "_law_cell" "_law_cell" (defArgs s__law_cell) (defBody s__law_cell) (defScope s__law_cell) .none kV9 dc9 pm9 an9 cd9 ct9), sl9⟩) (q9 : PySem.W.codeIn K cd9 "_law_cell" = true) (k9 : PySem.W.keepIn K (.ref f9) = true)
    (a10 : PySem.W.nsIn K mainGlobals "_law_mix" = some (some (.ref f10))) (l10 : K.lookup f10 = some ⟨oc10, od10, .func (PySem.W.fnOf "_law_mix" "_law_mix" (defArgs s__law_mix) (defBody s__law_mix) (defScope s__law_mix) .none kV10 dc10 pm10 an10 cd10 ct10), sl10⟩) (q10 : PySem.W.codeIn K cd10 "_law_mix" = true) (k10 : PySem.W.keepIn K (.ref f10) = true)
    (a11 : PySem.W.nsIn K mainGlobals "_law_wide" = some (some (.ref f11))) (l11 : K.lookup f11 = some ⟨oc11, od11, .func (PySem.W.fnOf "_law_wide" "_law_wide" (defArgs s__law_wide) (defBody s__law_wide) (defScope s__law_wide) .none kV11 dc11 pm11 an11 cd11 ct11), sl11⟩) (q11 : PySem.W.codeIn K cd11 "_law_wide" = true) (k11 : PySem.W.keepIn K (.ref f11) = true)
    (a12 : PySem.W.nsIn K mainGlobals "_law_whole" = some (some (.ref f12))) (l12 : K.lookup f12 = some ⟨oc12, od12, .func (PySem.W.fnOf "_law_whole" "_law_whole" (defArgs s__law_whole) (defBody s__law_whole) (defScope s__law_whole) .none kV12 dc12 pm12 an12 cd12 ct12), sl12⟩) (q12 : PySem.W.codeIn K cd12 "_law_whole" = true) (k12 : PySem.W.keepIn K (.ref f12) = true)
    (a13 : PySem.W.nsIn K mainGlobals "_law_thick" = some (some (.ref f13))) (l13 : K.lookup f13 = some ⟨oc13, od13, .func (PySem.W.fnOf "_law_thick" "_law_thick" (defArgs s__law_thick) (defBody s__law_thick) (defScope s__law_thick) .none kV13 dc13 pm13 an13 cd13 ct13), sl13⟩) (q13 : PySem.W.codeIn K cd13 "_law_thick" = true) (k13 : PySem.W.keepIn K (.ref f13) = true)
    (a14 : PySem.W.nsIn K mainGlobals "_law_step" = some (some (.ref f14))) (l14 : K.lookup f14 = some ⟨oc14, od14, .func (PySem.W.fnOf "_law_step" "_law_step" (defArgs s__law_step) (defBody s__law_step) (defScope s__law_step) .none kV14 dc14 pm14 an14 cd14 ct14), sl14⟩) (q14 : PySem.W.codeIn K cd14 "_law_step" = true) (k14 : PySem.W.keepIn K (.ref f14) = true)
    (a15 : PySem.W.nsIn K mainGlobals "_law_rests" = some (some (.ref f15))) (l15 : K.lookup f15 = some ⟨oc15, od15, .func (PySem.W.fnOf "_law_rests" "_law_rests" (defArgs s__law_rests) (defBody s__law_rests) (defScope s__law_rests) .none kV15 dc15 pm15 an15 cd15 ct15), sl15⟩) (q15 : PySem.W.codeIn K cd15 "_law_rests" = true) (k15 : PySem.W.keepIn K (.ref f15) = true)
    (a16 : PySem.W.nsIn K mainGlobals "law" = some (some (.ref f16))) (l16 : K.lookup f16 = some ⟨oc16, od16, .func (PySem.W.fnOf "law" "law" (defArgs s_law) (defBody s_law) (defScope s_law) .none kV16 dc16 pm16 an16 cd16 ct16), sl16⟩) (q16 : PySem.W.codeIn K cd16 "law" = true) (k16 : PySem.W.keepIn K (.ref f16) = true)
    (hc_gathered : cd3 = .ref cA_gathered) (lc_gathered : K.lookup cA_gathered = some ⟨ocA_gathered, odA_gathered, .fields vsA_gathered, slA_gathered⟩) (hv_gathered : vsA_gathered[11]? = some (.ref pA_gathered))
    (z_abs : PySem.W.nsIn K mainGlobals "abs" = some none)
    (z_bool : PySem.W.nsIn K mainGlobals "bool" = some none)
    (z_enumerate : PySem.W.nsIn K mainGlobals "enumerate" = some none)
    (z_int : PySem.W.nsIn K mainGlobals "int" = some none)
    (z_isinstance : PySem.W.nsIn K mainGlobals "isinstance" = some none)
    (z_len : PySem.W.nsIn K mainGlobals "len" = some none)
    (z_list : PySem.W.nsIn K mainGlobals "list" = some none)
    (z_range : PySem.W.nsIn K mainGlobals "range" = some none)
    (z_sorted : PySem.W.nsIn K mainGlobals "sorted" = some none)
    (z_tuple : PySem.W.nsIn K mainGlobals "tuple" = some none)
    (z_zip : PySem.W.nsIn K mainGlobals "zip" = some none)
    : ∃ fd : FuncData, (∀ (s : Shared) (v : Value), BindsTo s fd ⟨[v], []⟩ [("_law_script", v)]) ∧ ∀ base : Heap, K.In base → base.Ns mainGlobals mg → FnOk l.prog w K mg base CX0 7 fa fd ["_law_script"] (spD K F_law) := by
  have e := hfa.symm.trans (PySem.W.mg_of X G a16)
  cases e
  have B : Bl l.prog mg := ⟨htree, PySem.W.mg_none_of X G z_abs, PySem.W.mg_none_of X G z_bool, PySem.W.mg_none_of X G z_enumerate, PySem.W.mg_none_of X G z_int, PySem.W.mg_none_of X G z_isinstance, PySem.W.mg_none_of X G z_len, PySem.W.mg_none_of X G z_list, PySem.W.mg_none_of X G z_range, PySem.W.mg_none_of X G z_sorted, PySem.W.mg_none_of X G z_tuple, PySem.W.mg_none_of X G z_zip⟩
  refine ⟨PySem.W.fnOf "law" "law" (defArgs s_law) (defBody s_law) (defScope s_law) .none kV16 dc16 pm16 an16 cd16 ct16, fun s v => .of_eq rfl, fun base _ _ => ?_⟩
  have h_lead_place := ok_lead_place (P := l.prog) (w := w) (base := base) B (fun_mk (st := s_lead_place) l0 q0 k0) (PySem.W.mg_of X G a0)
  have h_less := ok_less (P := l.prog) (w := w) (base := base) B (fun_mk (st := s_less) l1 q1 k1) (PySem.W.mg_of X G a1)
  have h_lowered := ok_lowered (P := l.prog) (w := w) (base := base) B (fun_mk (st := s_lowered) l2 q2 k2) (PySem.W.mg_of X G a2) (h_less.mono (by decide))
  have h_gathered := ok_gathered (P := l.prog) (w := w) (base := base) B (fun_mk (st := s_gathered) l3 q3 k3) (PySem.W.mg_of X G a3) hc_gathered (tab_mk a3 l3 hc_gathered lc_gathered hv_gathered) (h_lowered.mono (by decide))
  have h_stacked := ok_stacked (P := l.prog) (w := w) (base := base) B (fun_mk (st := s_stacked) l4 q4 k4) (PySem.W.mg_of X G a4) (h_lowered.mono (by decide))
  have hr_plain := ok_plain (P := l.prog) (w := w) (base := base) B (fun_mk (st := s_plain) l5 q5 k5) (PySem.W.mg_of X G a5) (h_gathered.mono (by decide)) (h_stacked.mono (by decide))
  have h_plain := hr_plain.fn lift_plain
  have h_rest := ok_rest (P := l.prog) (w := w) (base := base) B (fun_mk (st := s_rest) l6 q6 k6) (PySem.W.mg_of X G a6) (h_lead_place.mono (by decide)) (h_lowered.mono (by decide)) (h_plain.mono (by decide))
  have h_leads := ok_leads (P := l.prog) (w := w) (base := base) B (fun_mk (st := s_leads) l7 q7 k7) (PySem.W.mg_of X G a7) (h_lead_place.mono (by decide))
  have h_weight := ok_weight (P := l.prog) (w := w) (base := base) B (fun_mk (st := s_weight) l8 q8 k8) (PySem.W.mg_of X G a8) (h_plain.mono (by decide)) (h_leads.mono (by decide))
  have h__law_cell := ok__law_cell (P := l.prog) (w := w) (base := base) B (fun_mk (st := s__law_cell) l9 q9 k9) (PySem.W.mg_of X G a9)
  have h__law_mix := ok__law_mix (P := l.prog) (w := w) (base := base) B (fun_mk (st := s__law_mix) l10 q10 k10) (PySem.W.mg_of X G a10)
  have h__law_wide := ok__law_wide (P := l.prog) (w := w) (base := base) B (fun_mk (st := s__law_wide) l11 q11 k11) (PySem.W.mg_of X G a11) (h__law_cell.mono (by decide)) (h__law_mix.mono (by decide))
  have h__law_whole := ok__law_whole (P := l.prog) (w := w) (base := base) B (fun_mk (st := s__law_whole) l12 q12 k12) (PySem.W.mg_of X G a12)
  have h__law_thick := ok__law_thick (P := l.prog) (w := w) (base := base) B (fun_mk (st := s__law_thick) l13 q13 k13) (PySem.W.mg_of X G a13) (h__law_cell.mono (by decide)) (h__law_mix.mono (by decide))
  have h__law_step := ok__law_step (P := l.prog) (w := w) (base := base) B (fun_mk (st := s__law_step) l14 q14 k14) (PySem.W.mg_of X G a14) (h__law_mix.mono (by decide))
  have h__law_rests := ok__law_rests (P := l.prog) (w := w) (base := base) B (fun_mk (st := s__law_rests) l15 q15 k15) (PySem.W.mg_of X G a15) (h_rest.mono (by decide))
  exact ok_law (P := l.prog) (w := w) (base := base) B (fun_mk (st := s_law) l16 q16 k16) (h_weight.mono (by decide)) (h__law_wide.mono (by decide)) (h__law_whole.mono (by decide)) (h__law_thick.mono (by decide)) (h__law_step.mono (by decide)) (h__law_rests.mono (by decide))
end L2.k13
open PySem PySem.W PyProof.Rows
set_option maxRecDepth 100000 in
set_option maxHeartbeats 0 in
theorem PySem.Challenge.cw_rowwright_k13_weights_holds : PySem.Challenge.rw_rowwright_k13_weights.Holds := by
  w_on; o_law; k_head; (case hw => w_witness2)
  k_fill
  refine L2.walk_ofK (l := PySem.Challenge.rw_rowwright_k13_weights) (n := 63) (k := 7) (x := "_law_script") (CX := L2.CX0) (sp := fun K => L2.spD K L2.k13.F_law) rfl (by decide) rfl ⟨rfl, by decide, by decide⟩ ?rwI (fun w h Y => PySem.W.km_in_of Y) ?rwR ?rwN ?rwT ?F (fun K H a ns hl hT hS => L2.script_D hT hS (L2.k13.law_true ns hl)) (fun _ _ _ _ z => z)
  case rwI => decide +kernel
  case rwR => intro x hx; simp only [L2.lamDefs, List.mem_cons, List.not_mem_nil, or_false] at hx; subst hx; exact .inr (by decide +kernel)
  case rwN => exact fun w => rfl
  case rwT => intro w x hx c P e; simp only [L2.lamDefs, List.mem_cons, List.not_mem_nil, or_false] at hx; subst hx; simp [L2.Htab, L2.lamDefs, e]
  case F =>
    intro w mg fa h KX G hmg
    refine' L2.k13.all_mk KX G hmg rfl ?a0 ?l0 ?q0 ?k0 ?a1 ?l1 ?q1 ?k1 ?a2 ?l2 ?q2 ?k2 ?a3 ?l3 ?q3 ?k3 ?a4 ?l4 ?q4 ?k4 ?a5 ?l5 ?q5 ?k5 ?a6 ?l6 ?q6 ?k6 ?a7 ?l7 ?q7 ?k7 ?a8 ?l8 ?q8 ?k8 ?a9 ?l9 ?q9 ?k9 ?a10 ?l10 ?q10 ?k10 ?a11 ?l11 ?q11 ?k11 ?a12 ?l12 ?q12 ?k12 ?a13 ?l13 ?q13 ?k13 ?a14 ?l14 ?q14 ?k14 ?a15 ?l15 ?q15 ?k15 ?a16 ?l16 ?q16 ?k16 ?hc_gathered ?lc_gathered ?hv_gathered ?z_abs ?z_bool ?z_enumerate ?z_int ?z_isinstance ?z_len ?z_list ?z_range ?z_sorted ?z_tuple ?z_zip
    (case a0 => k_is); (case l0 => k_is); (case q0 => k_is); (case k0 => k_is)
    (case a1 => k_is); (case l1 => k_is); (case q1 => k_is); (case k1 => k_is)
    (case a2 => k_is); (case l2 => k_is); (case q2 => k_is); (case k2 => k_is)
    (case a3 => k_is); (case l3 => k_is); (case q3 => k_is); (case k3 => k_is)
    (case a4 => k_is); (case l4 => k_is); (case q4 => k_is); (case k4 => k_is)
    (case a5 => k_is); (case l5 => k_is); (case q5 => k_is); (case k5 => k_is)
    (case a6 => k_is); (case l6 => k_is); (case q6 => k_is); (case k6 => k_is)
    (case a7 => k_is); (case l7 => k_is); (case q7 => k_is); (case k7 => k_is)
    (case a8 => k_is); (case l8 => k_is); (case q8 => k_is); (case k8 => k_is)
    (case a9 => k_is); (case l9 => k_is); (case q9 => k_is); (case k9 => k_is)
    (case a10 => k_is); (case l10 => k_is); (case q10 => k_is); (case k10 => k_is)
    (case a11 => k_is); (case l11 => k_is); (case q11 => k_is); (case k11 => k_is)
    (case a12 => k_is); (case l12 => k_is); (case q12 => k_is); (case k12 => k_is)
    (case a13 => k_is); (case l13 => k_is); (case q13 => k_is); (case k13 => k_is)
    (case a14 => k_is); (case l14 => k_is); (case q14 => k_is); (case k14 => k_is)
    (case a15 => k_is); (case l15 => k_is); (case q15 => k_is); (case k15 => k_is)
    (case a16 => k_is); (case l16 => k_is); (case q16 => k_is); (case k16 => k_is)
    (case hc_gathered => exact rfl); (case lc_gathered => k_is); (case hv_gathered => exact rfl)
    (case z_abs => k_is); (case z_bool => k_is); (case z_enumerate => k_is); (case z_int => k_is); (case z_isinstance => k_is); (case z_len => k_is); (case z_list => k_is); (case z_range => k_is); (case z_sorted => k_is); (case z_tuple => k_is); (case z_zip => k_is)
